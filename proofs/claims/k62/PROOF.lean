import PyProof.Rows.All
import Wide.All
import OpenK.AllK
import Wide.FinOn
import Lean
import PyProof.EqAt
import PyProof.EqKinds
import PyProof.TupleCall
import PyProof.NeKinds
import KE.KSortTup
import KE.KItemsList
import KE.KDictSum
import KE.KTryMore
import KE.KRevIter
import PyProof.SetKind
import PyProof.Rows.SetFrom
import KE.KDictLaws
import PyProof.DictUpdate
import PyProof.MinMaxWalk
import PyProof.WalkInts
import KE.KDictOf
import PyProof.EnumFor
import PyProof.EnumStmt
import PyProof.EnumMake
import PyProof.Rows.EnumRows
import PyProof.Rows.FactsT2
import PyProof.ZipIter
import PySem.Challenge.RW_fairdraw_k62_tables_of_rows
def jA:=@List.length_map
def jB:=@List.getElem?_eq_getElem
def jC:=@List.getElem?_map
def jD:=@PySem.Heap.get?_push_of_some
def jE:=@List.getElem?_eq_some_iff
def jF:=@Nat.le_refl
def jG:=@PySem.Heap.lt_size
def jH:=@List.mem_cons
def jI:=@List.size_toArray
def jJ:=@List.length_append
def jK:=@PySem.Heap.get?_push_size
def jL:=@List.take_succ_eq_append_getElem
def jM:=@List.getD_eq_getElem?_getD
def jN:=@Bool.false_ne_true
def jO:=@Array.getElem?_eq_getElem
def jP:=@List.mem_singleton
def jQ:=@List.mem_cons_of_mem
def jR:=@Nat.zero_le
def jS:=@Nat.ne_of_lt
def jT:=@Array.length_toList
def jU:=@List.mem_map
def jV:=@PySem.Heap.get?_update_other
def jW:=@Nat.lt_of_lt_of_le
def jX:=@List.mem_cons_self
def jY:=@PySem.Heap.get?_update_self
def jZ:=@List.getElem_mem
def ja:=@List.mem_append_right
def jc:=@Nat.le_trans
def jd:=@List.map_map
def je:=@List.map_append
def jf:=@List.mem_of_getElem?
def jg:=@List.length_take
def jh:=@List.take_length
def ji:=@List.mem_append
def jj:=@List.map_cons
def jk:=@List.length_eq_zero_iff
def jl:=@List.nodup_iff_pairwise_ne
def jm:=@Int.toNat_natCast
def jn:=@Nat.ne_of_gt
def jo:=@Option.map_eq_some_iff
def jp:=@List.length_cons
def jq:=@List.map_congr_left
def jr:=@Nat.lt_irrefl
def js:=@List.take_of_length_le
def jt:=@List.not_mem_nil
def ju:=@List.length_singleton
def jv:=@List.pairwise_cons
def jw:=@Option.isSome_iff_exists
def jx:=@Nat.lt_of_le_of_lt
def jy:=@List.nodup_cons
def jz:=@Bool.and_eq_true
def j3:=@List.dropLast_concat_getLast
def j4:=@List.nodup_append
def j5:=@List.pairwise_map
def j6:=@List.nodup_nil
def j7:=@Bool.false_eq_true
def j8:=@Array.getElem?_eq_none
def j9:=@PySem.Heap.size_push
def kB:=@Array.getElem?_toList
def kC:=@List.getElem?_append_right
def kD:=@List.mem_of_mem_take
def kE:=@Nat.le_of_lt
def kF:=@List.getElem_map
def kG:=@List.getElem?_append_left
def kH:=@List.pairwise_iff_getElem
def kI:=@List.foldl_append
def kJ:=@List.getElem?_eq_none
def kK:=@Int.mul_fdiv_cancel_left
def kL:=@Nat.not_lt_zero
def kN:=@Int.emod_lt_of_pos
def kO:=@List.mem_append_left
def kP:=@List.mem_iff_getElem
def kQ:=@List.length_range
def kR:=@List.find?_cons
def kS:=@List.ext_getElem
def kT:=@Int.emod_nonneg
def kU:=@Int.ediv_eq_of_eq_mul_right
def kW:=@List.getElem?_toArray
def kX:=@List.length_nil
def kY:=@List.reverse_cons
def kZ:=@List.any_cons
set_option Elab.async false
set_option linter.all false
set_option maxRecDepth 100000
namespace FdE
open PySem PySem.W PySem.Calls PyProof.Rows
theorem y3F{p q:Program}{loose:List Str}{Xt:Shared->Bool}{α:Type}{Yf:Shared->α}{Ya:World->α}{N:Nat}(e:opening p=plainProg p.main.scope.names)(hN:Nat.ble 600 N=true)(f:∀ s,fenceModules? p s=some s)
 (h:∀ (w:World) (os:OsState),(topRun treeTable p w 11 (some (.ref 6)) N ⟨boot_heap w.params,Array.mk [],boot_drawn,boot_toks,os⟩ (topStub p)).map (fun s =>
  ((staticsOk (importedModules p.main.body) (boot_heap w.params) s.heap && namesBound p s.heap && gensDone s && laidKept (boot_heap w.params) s.heap),openSeen q loose (importedModules p.main.body) Xt true s,Yf s))=some (true,openGood q loose,Ya w)):LeftO p q loose Xt Yf Ya N:=fun w=>by
 obtain⟨⟨hp,gs,d,k,os⟩,e1,e2⟩:=jo.mp (boot_open e hN f w)
 simp only[Prod.mk.injEq]at e2
 obtain⟨rfl,rfl,rfl,rfl⟩:=e2
 have size:((boot_heap w.params).isNs mainGlobals && (Array.mk ([]:List GenState)).size == 0)=true/\(boot_heap w.params).objs.size=11/\(boot_heap w.params).nsMap mainGlobals "__annotations__" = some (.ref 6):=⟨by kernel_rfl,by kernel_rfl,by kernel_rfl⟩
 obtain⟨z1,z2,z3⟩:=size
 obtain⟨s,r,l⟩:=jo.mp (h w os)
 simp only[Prod.mk.injEq]at l
 obtain⟨l1,l2,l3⟩:=l
 have t:topFrom treeTable p w N ⟨boot_heap w.params,Array.mk [],boot_drawn,boot_toks,os⟩=some s:=by
  unfold topFrom
  dsimp only
  rw[z1,z2,z3,r]
  show (match staticsOk (importedModules p.main.body) (boot_heap w.params) s.heap && namesBound p s.heap && gensDone s && laidKept (boot_heap w.params) s.heap with | true=>_ | false=>_)=_
  rw[l1]
 unfold openEnds
 rw[e1]
 show (topFrom treeTable p w N _).map _=_
 rw[t]
 exact congrArg some (Prod.ext l2 l3)
abbrev y6N (p q : Program) (loose : List Str) (Xt : Shared -> Bool) {α : Type} (Yf : Shared -> α) (Ya : World -> α) (N : Nat) (w : World) (os : OsState) : Prop := (topRun treeTable p w 11 (some (.ref 6)) N ⟨boot_heap w.params, Array.mk [], boot_drawn, boot_toks, os⟩ (topStub p)).map (fun s =>
      ((staticsOk (importedModules p.main.body) (boot_heap w.params) s.heap && namesBound p s.heap && gensDone s && laidKept (boot_heap w.params) s.heap),openSeen q loose (importedModules p.main.body) Xt true s,Yf s))=some (true,openGood q loose,Ya w)
abbrev y8v(p:Program)(N:Nat)(w:World)(os:OsState):Prop:=(topRun treeTable p w 11 (some (.ref 6)) N ⟨boot_heap w.params,Array.mk [],boot_drawn,boot_toks,os⟩ (topStub p)).map (fun s=>staticsOk (importedModules p.main.body) (boot_heap w.params) s.heap && namesBound p s.heap && gensDone s && laidKept (boot_heap w.params) s.heap)=some true
abbrev y8u(p q:Program)(loose:List Str)(Xt:Shared->Bool)(N:Nat)(w:World)(os:OsState):Prop:=(topRun treeTable p w 11 (some (.ref 6)) N ⟨boot_heap w.params,Array.mk [],boot_drawn,boot_toks,os⟩ (topStub p)).map (fun s=>openSeen q loose (importedModules p.main.body) Xt true s)=some (openGood q loose)
abbrev y8t(p:Program){α:Type}(Yf:Shared->α)(Ya:World->α)(N:Nat)(w:World)(os:OsState):Prop:=(topRun treeTable p w 11 (some (.ref 6)) N ⟨boot_heap w.params,Array.mk [],boot_drawn,boot_toks,os⟩ (topStub p)).map (fun s=>Yf s)=some (Ya w)
theorem y8r{p q:Program}{loose:List Str}{Xt:Shared->Bool}{α:Type}{Yf:Shared->α}{Ya:World->α}{N:Nat}{w:World}{os:OsState}(h1:y8v p N w os)(h2:y8u p q loose Xt N w os)(h3:y8t p Yf Ya N w os):y6N p q loose Xt Yf Ya N w os:=by
 unfold y6N
 unfold y8v at h1
 unfold y8u at h2
 unfold y8t at h3
 obtain⟨s,r,l1⟩:=jo.mp h1
 obtain⟨s2,r2,l2⟩:=jo.mp h2
 obtain⟨s3,r3,l3⟩:=jo.mp h3
 rw[r]at r2 r3
 cases r2;cases r3
 rw[r]
 show some (_,_,_)=some _
 rw[l1,l2,l3]
noncomputable def x0Q(st:SharedT->Thread->Option (SharedT×Thread))(ok:Thread->Bool):Nat->SharedT->Thread->Option SharedT :=
 @Nat.rec (fun _=>SharedT->Thread->Option SharedT) (fun _ _=>none) (fun _ ih s t =>
  @Bool.rec (fun _=>Option SharedT) (@Bool.rec (fun _=>Option SharedT) none (@Option.rec (SharedT×Thread) (fun _=>Option SharedT) none (fun r=>ih r.1 r.2) (st s t)) (ok t)) (some s) (through t))
theorem y0c{tb:String->Option Builtin}{p:Program}{w:World}{n₀:Nat}{ann:Option Value}:∀ {n:Nat}{s s':SharedT}{t:Thread},x0Q (stepT (denote tb) p w) (stepOk n₀ ann) n s t=some s'->topRun tb p w n₀ ann n s.abs t=some s'.abs
 | 0,_,_,_,h=>by cases h
 | n + 1,s,s',t,h=>by
  have h:@Bool.rec (fun _=>Option SharedT) (@Bool.rec (fun _=>Option SharedT) none (@Option.rec (SharedT×Thread) (fun _=>Option SharedT) none (fun r=>x0Q (stepT (denote tb) p w) (stepOk n₀ ann) n r.1 r.2) (stepT (denote tb) p w s t)) (stepOk n₀ ann t)) (some s) (through t)=some s':=h
  unfold topRun
  cases he:through t with
  | true=>rw[he]at h;cases h;rfl
  | false =>
   rw[he]at h
   cases hk:stepOk n₀ ann t with
   | false=>rw[hk]at h;cases h
   | true =>
    rw[hk]at h
    cases hs:stepT (denote tb) p w s t with
    | none=>rw[hs]at h;cases h
    | some r=>obtain⟨s₂,t₂⟩:=r;rw[hs]at h;rw[stepT_spec hs];exact y0c h
noncomputable def x1b(P:Params):BT := .node (boot_o_0 P) (.node (boot_o_1 P) (.node (boot_o_3 P) (.node (boot_o_7 P) .nil .nil) .nil) (.node (boot_o_5 P) (.node (boot_o_9 P) .nil .nil) .nil)) (.node (boot_o_2 P) (.node (boot_o_4 P) (.node (boot_o_8 P) .nil .nil) .nil) (.node (boot_o_6 P) (.node (boot_o_10 P) .nil .nil) .nil))
noncomputable def y6q(w:World)(os:OsState):SharedT:=⟨x1b w.params,11,(boot_heap w.params).life,Array.mk [],boot_drawn,boot_toks,os⟩
theorem y1l(w:World)(os:OsState):(y6q w os).abs=⟨boot_heap w.params,Array.mk [],boot_drawn,boot_toks,os⟩:=rfl
theorem y8s{p:Program}{α:Type}{f:Shared->α}{a:α}{N:Nat}{w:World}{os:OsState}(h:(x0Q (stepT (denote treeTable) p w) (stepOk 11 (some (.ref 6))) N (y6q w os) (topStub p)).map (fun s=>f s.abs)=some a):(topRun treeTable p w 11 (some (.ref 6)) N ⟨boot_heap w.params,Array.mk [],boot_drawn,boot_toks,os⟩ (topStub p)).map f=some a:=by
 obtain⟨s,r,l⟩:=jo.mp h
 rw[<- y1l,y0c r]
 exact congrArg some l
end FdE
namespace FdE
open PySem
def top(i:Nat):Stmt:=PySem.Challenge.pw_fairdraw_k62_tables_of_rows.main.body.getD i (.Pass ⟨0,0,0,0⟩)
end FdE
section FdEarly
open PySem PySem.W PyProof.Rows
def FdE.viewQ:Program:={ PySem.Challenge.pw_fairdraw_k62_tables_of_rows with main:={ PySem.Challenge.pw_fairdraw_k62_tables_of_rows.main with body:=[FdE.top 1,FdE.top 2,FdE.top 3,FdE.top 5,FdE.top 6,FdE.top 7,FdE.top 8,FdE.top 10,FdE.top 11,FdE.top 12,FdE.top 13,FdE.top 15,FdE.top 17,FdE.top 18,FdE.top 19,FdE.top 21,FdE.top 23,FdE.top 24,FdE.top 26,FdE.top 29,FdE.top 30,FdE.top 31,FdE.top 32,FdE.top 33,FdE.top 34,FdE.top 35,FdE.top 36,FdE.top 37,FdE.top 38,FdE.top 39,FdE.top 40,FdE.top 41,FdE.top 42,FdE.top 43,FdE.top 44,FdE.top 45,FdE.top 46,FdE.top 47,FdE.top 48] } }
local macro_rules | `(tactic| o_head $H:term) => `(tactic| (refine holds_open (q := FdE.viewQ) (loose := ["kinds", "tables_of"]) (Xt := fun s => xlAt FdE.viewQ [] s && recOk (RowW.records (OpenRow.toRowW (OpenLaw.row PySem.Challenge.rw_fairdraw_k62_tables_of_rows))) s) (XP := XL FdE.viewQ []) (Yf := Hook.obs $H) (Ya := Hook.val $H) (YP := Hook.says $H) (N := 3844) ?_ (Hook.of $H) (Hook.keeps $H) (fun s e => xl_of s (Bool.and_eq_true_iff.mp e).1) XL.keeps (by rfl) (by rfl) (by rfl) (fun s e => recFacts_of (Bool.and_eq_true_iff.mp e).2) (by rfl) (by first | assumption | decide +kernel) (by decide +kernel) ⟨rfl, rfl, rfl, rfl, rfl, by decide +kernel⟩ ?_ ?_))
def FdE.P0:PySem.Params:={ strHash:=fun _=>0,shareClass:=fun _=>0,mergeTok:=fun t=>t,idOf:=fun _=>0,idOfShared:=fun _ _=>0,followText:=fun _=>false,idOfImm:=fun _=>0 }
set_option maxHeartbeats 0 in
theorem FdE.pre(h:False):PySem.Challenge.rw_fairdraw_k62_tables_of_rows.Holds:=by
 w_on;refine holds_law h.elim fun said=>?_;k_head <;> exact h.elim
set_option maxHeartbeats 0 in
theorem FdE.run1(w:World)(os:OsState):FdE.y8v PySem.Challenge.pw_fairdraw_k62_tables_of_rows 3844 w os:=by
 refine FdE.y8s ?_;rw[PySem.W.Fast.te10156331382660048174,PySem.W.Fast.te11892475500146522536,PySem.W.Fast.te14364793385576792824,PySem.W.Fast.te6613529449190102663];kernel_rfl
set_option maxHeartbeats 0 in
theorem FdE.run2(w:World)(os:OsState):FdE.y8u PySem.Challenge.pw_fairdraw_k62_tables_of_rows FdE.viewQ ["kinds", "tables_of"] (fun s=>xlAt FdE.viewQ [] s && recOk (RowW.records (OpenRow.toRowW (OpenLaw.row PySem.Challenge.rw_fairdraw_k62_tables_of_rows))) s) 3844 w os:=by
 refine FdE.y8s ?_;rw[PySem.W.Fast.te10156331382660048174,PySem.W.Fast.te11892475500146522536,PySem.W.Fast.te14364793385576792824,PySem.W.Fast.te6613529449190102663,PySem.W.Fast.te4187177175401517315];kernel_rfl
set_option maxHeartbeats 0 in
theorem FdE.run3(w:World)(os:OsState):FdE.y8t PySem.Challenge.pw_fairdraw_k62_tables_of_rows (Hook.obs (kHook FdE.pre.heap_1 ((FdE.pre.heap_1 FdE.P0).map (·.1)) (fun _=>by kernel_rfl))) (Hook.val (kHook FdE.pre.heap_1 ((FdE.pre.heap_1 FdE.P0).map (·.1)) (fun _=>by kernel_rfl))) 3844 w os:=by
 refine FdE.y8s ?_;rw[PySem.W.Fast.te10156331382660048174,PySem.W.Fast.te11892475500146522536,PySem.W.Fast.te14364793385576792824,PySem.W.Fast.te6613529449190102663];kernel_rfl
theorem FdE.left:LeftO PySem.Challenge.pw_fairdraw_k62_tables_of_rows FdE.viewQ ["kinds", "tables_of"] (fun s=>xlAt FdE.viewQ [] s && recOk (RowW.records (OpenRow.toRowW (OpenLaw.row PySem.Challenge.rw_fairdraw_k62_tables_of_rows))) s) (Hook.obs (kHook FdE.pre.heap_1 ((FdE.pre.heap_1 FdE.P0).map (·.1)) (fun _=>by kernel_rfl))) (Hook.val (kHook FdE.pre.heap_1 ((FdE.pre.heap_1 FdE.P0).map (·.1)) (fun _=>by kernel_rfl))) 3844:=FdE.y3F (by kernel_rfl) rfl (fun s=>by kernel_rfl) (fun w os=>FdE.y8r (FdE.run1 w os) (FdE.run2 w os) (FdE.run3 w os))
end FdEarly
set_option Elab.async false
set_option linter.all false
set_option maxRecDepth 100000
namespace L2
open PySem PySem.Spec PyProof.Rows
abbrev Key:=Sum Int Str
def z9n:Key->Value->Bool
 | .inl k,v=>Value.isInt k v
 | .inr x,v=>Value.isStrOf x v
def x1F(w:World):Key->Int
 | .inl k=>hashInt k
 | .inr x=>hashStr w x
theorem z0U:∀ {k:Key}{v:Value},z9n k v=true->(∃ i t,k=Sum.inl i/\v=Value.int i t)\/(∃ x t,k=Sum.inr x/\v=Value.str x t)
 | .inl i,v,h=>by
  obtain⟨t,e⟩:=Value.isInt_shape (k:=i) (v:=v) h
  exact .inl ⟨i,t,rfl,e⟩
 | .inr x,v,h=>by
  obtain⟨t,e⟩:=Value.isStrOf_shape (x:=x) (v:=v) h
  exact .inr ⟨x,t,rfl,e⟩
theorem y3J(i:Int)(t:Tok):z9n (.inl i) (.int i t)=true:=by simp[z9n,Value.isInt]
theorem y3I(x:Str)(t:Tok):z9n (.inr x) (.str x t)=true:=by simp[z9n,Value.isStrOf]
theorem x0k(a b:Int):decide ((Sum.inl a:Key)=Sum.inl b)=(a == b):=by
 by_cases e:a=b
 · subst e;simp
 · have h:¬ (Sum.inl a:Key)=Sum.inl b:=fun q=>e (Sum.inl.inj q)
   rw[decide_eq_false h]
   exact (beq_eq_false_iff_ne.mpr e).symm
theorem x0h(a b:Str):decide ((Sum.inr a:Key)=Sum.inr b)=decide (a=b):=by
 by_cases e:a=b
 · subst e;simp
 · have h:¬ (Sum.inr a:Key)=Sum.inr b:=fun q=>e (Sum.inr.inj q)
   rw[decide_eq_false h,decide_eq_false e]
theorem x0j(a:Int)(b:Str):decide ((Sum.inl a:Key)=Sum.inr b)=false:=decide_eq_false (fun q=>nomatch q)
theorem x0i(a:Str)(b:Int):decide ((Sum.inr a:Key)=Sum.inl b)=false:=decide_eq_false (fun q=>nomatch q)
def z0D(prog:Program)(w:World):PySem.KeyKind prog w Key where
 is:=z9n
 hash:=x1F w
 inj:=fun v a b ha hb=>by
  rcases z0U ha with ⟨i,t,rfl,rfl⟩ | ⟨x,t,rfl,rfl⟩
  · rcases z0U hb with ⟨j,u,rfl,e⟩ | ⟨y,u,rfl,e⟩
    · injection e with e1 _;rw[e1]
    · exact nomatch e
  · rcases z0U hb with ⟨j,u,rfl,e⟩ | ⟨y,u,rfl,e⟩
    · exact nomatch e
    · injection e with e1 _;rw[e1]
 byValue:=fun k v h=>by
  rcases z0U h with ⟨i,t,rfl,rfl⟩ | ⟨x,t,rfl,rfl⟩ <;> rfl
 pyHash:=fun hv h=>by
  rcases z0U hv with ⟨i,t,rfl,rfl⟩ | ⟨x,t,rfl,rfl⟩
  · exact wpAny_pyHash_int h
  · exact wpAny_pyHash_str h
 eqBool:=fun hu hv h=>by
  rcases z0U hu with ⟨i,t,rfl,rfl⟩ | ⟨x,t,rfl,rfl⟩
  · rcases z0U hv with ⟨j,u,rfl,rfl⟩ | ⟨y,u,rfl,rfl⟩
    · rw[x0k]at h;exact wpAny_eqBool_int h
    · rw[x0j]at h;exact SeqAt.EqAt.int_str i t y u _ _ _ _ h
  · rcases z0U hv with ⟨j,u,rfl,rfl⟩ | ⟨y,u,rfl,rfl⟩
    · rw[x0i]at h;exact SeqAt.EqAt.str_int x t j u _ _ _ _ h
    · rw[x0h]at h;exact wpAny_eqBool_str h
 «strs»:=fun k x t v h=>by
  rcases z0U h with ⟨i,u,rfl,e⟩ | ⟨y,u,rfl,e⟩
  · exact nomatch e
  · injection e with e1 _
    subst e1
    cases v <;> rfl
theorem y1A(prog:Program)(w:World)(k:Key)(v:Value):(z0D prog w).is k v=z9n k v:=rfl
theorem z9l(prog:Program)(w:World)(i:Int)(t:Tok):(z0D prog w).is (.inl i) (.int i t)=true:=y3J i t
theorem z9k(prog:Program)(w:World)(x:Str)(t:Tok):(z0D prog w).is (.inr x) (.str x t)=true:=y3I x t
inductive V where
 | non | bl (b:Bool) | int (i:Int) | str (x:Str) | byt (b:Array UInt8) | flt (b:UInt64) | ref (a:Addr) | ty (n:String)
 deriving DecidableEq
def RelV:V->Value->Prop
 | .non,u=>u=Value.none
 | .bl b,u=>u=Value.bool b
 | .int i,u=>∃ t,u=Value.int i t
 | .str x,u=>∃ t,u=Value.str x t
 | .byt b,u=>∃ t,u=Value.bytes b t
 | .flt b,u=>∃ t,u=Value.float b t
 | .ref a,u=>u=Value.ref a
 | .ty n,u=>u=Value.type n
abbrev Vals:List V->List Value->Prop:=Paired RelV
theorem Vals.length{xs:List V}{us:List Value}(r:Vals xs us):xs.length=us.length:=Paired.length r
theorem Vals.get:∀ {xs:List V}{us:List Value}{i:Nat}{x:V},Vals xs us->xs[i]? = some x->∃ u,us[i]? = some u/\RelV x u
 | _,_,_,_,.nil,e=>by simp at e
 | _,_,0,_,.cons r _,e=>by simp at e;subst e;exact⟨_,rfl,r⟩
 | _,_,i + 1,x,.cons _ t,e=>by
  obtain⟨u,h1,h2⟩:=Vals.get (i:=i) (x:=x) t (by simpa using e)
  exact⟨u,by simpa using h1,h2⟩
theorem Vals.append:∀ {xs ys:List V}{us ws:List Value},Vals xs us->Vals ys ws->Vals (xs ++ ys) (us ++ ws)
 | _,_,_,_,.nil,s=>s
 | _,_,_,_,.cons r t,s => .cons r (Vals.append t s)
theorem Vals.take:∀ {xs:List V}{us:List Value} (n:Nat),Vals xs us->Vals (xs.take n) (us.take n)
 | _,_,0,_ => .nil
 | _,_,_ + 1,.nil => .nil
 | _,_,n + 1,.cons r t => .cons r (Vals.take n t)
theorem Vals.drop:∀ {xs:List V}{us:List Value} (n:Nat),Vals xs us->Vals (xs.drop n) (us.drop n)
 | _,_,0,r=>r
 | _,_,_ + 1,.nil => .nil
 | _,_,n + 1,.cons _ t=>Vals.drop n t
def RelO:Option V->Option Value->Prop
 | some v,some u=>RelV v u
 | none,none=>True
 | _,_=>False
def KV{κ:Type}:List (κ×V)->List (κ×Value)->Prop:=Paired fun (p:κ×V) (q:κ×Value)=>p.1=q.1/\RelV p.2 q.2
def kV:Key->V
 | .inl i => .int i
 | .inr x => .str x
inductive HO where
 /-- a list -/
 | lst (xs:List V)
 /-- a tuple (never changes) -/
 | tup (xs:List V)
 /-- a dict whose keys are ints and texts;one whose keys are tuples of ints and texts (the empty one is both) -/
 | dK (kvs:List (Key×V)) | dT (kvs:List (List Key×V))
 /-- a set of ints: its members,its size -/
 | set (S:Int->Bool) (n:Nat)
 /-- an instance of the class at C,its dict at dx,its attributes -/
 | ins (C dx:Addr) (fs:List (Str×V))
 /-- the dict of the instance at x -/
 | own (x:Addr)
 /-- the dict of an exception -/
 | xd (fs:List (Str×V))
 /-- a bound method,f of x -/
 | met (f x:Addr)
 /-- a range object lo,lo + 1,.. below hi -/
 | rng (lo hi:Int)
 /-- a thing that is known to the object (the script;a dict while a loop walks it): read,never written while it is so -/
 | frz (o:Obj) (u:HO)
 /-- a code object's table -/
 | tbl (ps:Array Value)
 /-- any other thing,by what is true of its one object (a def of one's own: SetO a S n:=HO.ext fun h => ..) -/
 | ext (φ:Heap->Prop)
abbrev Hp:=Addr->Option HO
def upd(H:Hp)(a:Addr)(o:HO):Hp:=fun b=>if b=a then some o else H b
theorem z0c{H:Hp}{a:Addr}{o:HO}:upd H a o a=some o:=by unfold upd;rw[if_pos rfl]
theorem z0n{H:Hp}{a b:Addr}{o:HO}(h:b≠a):upd H a o b=H b:=by unfold upd;rw[if_neg h]
theorem y7h{H:Hp}{a:Addr}{o u:HO}:upd (upd H a o) a u=upd H a u:=by
 funext b;unfold upd;split <;> rfl
theorem y8e{H:Hp}{a b:Addr}{o u:HO}(h:H a=some o)(h':H b=some u)(d:o≠u):a≠b:=by
 intro e;subst e;rw[h]at h';exact d (Option.some.inj h')
theorem z0F{H:Hp}{a b:Addr}{o:HO}(h:H a=some o)(h':H b=none):a≠b:=by
 intro e;subst e;rw[h]at h';cases h'
section
variable (P:Program) (w:World)
def ObjOk(H:Hp)(h:Heap)(a:Addr):HO->Prop
 | .lst xs=>xs.length<=sizeLine/\∃ (its:List Value) (n:Nat),Vals xs its/\h.get? a=some { cls := .type "list",data := .seq its.toArray n }
 | .tup xs=>xs.length<=sizeLine/\∃ its:List Value,Vals xs its/\IsTup h a its.toArray
 | .dK kvs=>kvs.length<=sizeLine/\(a == sysModules)=false/\∃ vs,KV kvs vs/\h.DictOf (z0D P w) a vs
 | .dT kvs=>kvs.length<=sizeLine/\(a == sysModules)=false/\∃ xs:List (List Key×Addr×Value),
  Paired (fun (p:List Key×V) (q:List Key×Addr×Value)=>p.1=q.1/\H q.2.1=some (.tup (p.1.map kV))/\RelV p.2 q.2.2) kvs xs /\
  ∃ o es ep,h.get? a=some o/\o.ExactDict/\o.data = .dict es ep/\es.toList=xs.map (entryOfKey (tupleKind (z0D P w)))/\(xs.map (·.1)).Nodup
 | .set S n=>h.SetOf (intKind P w) a S n
 | .ins C dx fs=>H dx=some (.own a)/\fs.length<=1000/\dx≠a/\h.get? a=some (PySem.W.instObj C dx) /\
  ∃ mA,h.Ns1 dx mA/\(∀ f,RelO (fs.lookup f) (mA f))/\PySem.Within mA (fs.map (·.1))
 | .own _=>∃ o,h.get? a=some o
 | .xd fs=>∃ mA,h.Ns1 a mA/\∀ f,RelO (fs.lookup f) (mA f)
 | .rng lo hi=>∃ t u v,h.get? a=some { cls := .type "range",data := .fields #[.int lo t,.int hi u,.int 1 v] }
 | .frz o u=>h.get? a=some o/\ObjOk H h a u
 | .tbl ps=>h.get? a=some { cls := .none,data := .fields ps }
 | .met f x=>h.get? a=some (PySem.W.methodObj (.ref f) (.ref x))
 | .ext φ=>φ h/\(∃ o,h.get? a=some o)/\∀ h1 h2:Heap,φ h1->(∀ o,h1.get? a=some o->h2.get? a=some o)->φ h2
def HOk(H:Hp)(h:Heap):Prop:=∀ a o,H a=some o->ObjOk P w H h a o
end
section
variable {P:Program}{w:World}{H H':Hp}{h h':Heap}{a:Addr}{o:HO}
theorem ObjOk.lt(x:ObjOk P w H h a o):a < h.objs.size:=by
 cases o with
 | lst xs=>obtain⟨_,_,_,_,e⟩:=x;exact jG e
 | tup xs=>obtain⟨_,_,_,p⟩:=x;exact p.lt
 | dK kvs=>obtain⟨_,_,_,_,o,_,_,e,_⟩:=x;exact jG e
 | dT kvs=>obtain⟨_,_,_,_,o,_,_,e,_⟩:=x;exact jG e
 | set S n=>obtain⟨o,_,_,_,e,_⟩:=x;exact jG e
 | ins C dx fs=>obtain⟨_,_,_,e,_⟩:=x;exact jG e
 | own y=>obtain⟨_,e⟩:=x;exact jG e
 | xd fs=>obtain⟨_,⟨_,_,_,e,_⟩,_⟩:=x;exact jG e
 | rng lo hi=>obtain⟨_,_,_,e⟩:=x;exact jG e
 | frz ob u=>obtain⟨e,_⟩:=x;exact jG e
 | tbl ps=>exact jG (show h.get? a=some _ from x)
 | met f y=>exact jG (show h.get? a=some _ from x)
 | ext φ=>obtain⟨_,⟨_,e⟩,_⟩:=x;exact jG e
theorem Paired.mapP{α β:Type}{F G:α->β->Prop}:∀ {l₁:List α}{l₂:List β},Paired F l₁ l₂->(∀ a b,F a b->G a b)->Paired G l₁ l₂
 | _,_,.nil,_ => .nil
 | _,_,.cons r t,f => .cons (f _ _ r) (Paired.mapP t f)
theorem ObjOk.stay(x:ObjOk P w H h a o)(k:∀ b u,(b=a\/H b=some (.own a))->h.get? b=some u->h'.get? b=some u)
 (ho:∀ b,H b=some (.own a)->H' b=some (.own a)) (ht:∀ b xs,H b=some (.tup xs)->H' b=some (.tup xs)):ObjOk P w H' h' a o:=by
 induction o with
 | lst xs=>obtain⟨z,its,n,r,e⟩:=x;exact⟨z,its,n,r,k _ _ (.inl rfl) e⟩
 | tup xs=>obtain⟨z,its,r,ob,e,c⟩:=x;exact⟨z,its,r,ob,k _ _ (.inl rfl) e,c⟩
 | dK kvs=>obtain⟨z,y,vs,r,ob,es,ep,e,c⟩:=x;exact⟨z,y,vs,r,ob,es,ep,k _ _ (.inl rfl) e,c⟩
 | dT kvs =>
  obtain⟨z,y,xs,r,ob,es,ep,e,c⟩:=x
  exact⟨z,y,xs,Paired.mapP r fun p q z=>⟨z.1,ht _ _ z.2.1,z.2.2⟩,ob,es,ep,k _ _ (.inl rfl) e,c⟩
 | set S n=>obtain⟨ob,es,ep,t,e,c⟩:=x;exact⟨ob,es,ep,t,k _ _ (.inl rfl) e,c⟩
 | ins C dx fs =>
  obtain⟨d,z,ne,e,mA,⟨od,es,ep,e2,c⟩,r⟩:=x
  exact⟨ho _ d,z,ne,k _ _ (.inl rfl) e,mA,⟨od,es,ep,k _ _ (.inr d) e2,c⟩,r⟩
 | own y=>obtain⟨ob,e⟩:=x;exact⟨ob,k _ _ (.inl rfl) e⟩
 | xd fs=>obtain⟨mA,⟨od,es,ep,e,c⟩,r⟩:=x;exact⟨mA,⟨od,es,ep,k _ _ (.inl rfl) e,c⟩,r⟩
 | rng lo hi=>obtain⟨t,u,v,e⟩:=x;exact⟨t,u,v,k _ _ (.inl rfl) e⟩
 | frz ob u ih=>obtain⟨e,q⟩:=x;exact⟨k _ _ (.inl rfl) e,ih q⟩
 | tbl ps =>
  have e:h.get? a=some { cls := .none,data := .fields ps }:=x
  show h'.get? a=some { cls := .none,data := .fields ps }
  exact k a _ (.inl rfl) e
 | met f y =>
  have e:h.get? a=some (PySem.W.methodObj (.ref f) (.ref y)):=x
  show h'.get? a=some (PySem.W.methodObj (.ref f) (.ref y))
  exact k a _ (.inl rfl) e
 | ext φ=>obtain⟨p,⟨o,e⟩,st⟩:=x;exact⟨st _ _ p fun o q=>k _ _ (.inl rfl) q,⟨o,k _ _ (.inl rfl) e⟩,st⟩
theorem HOk.lt(x:HOk P w H h)(e:H a=some o):a < h.objs.size:=(x a o e).lt
theorem HOk.fresh(x:HOk P w H h)(e:h.objs.size<=a):H a=none:=by
 cases q:H a with
 | none=>rfl
 | some u=>exact absurd (jW (x.lt q) e) (jr _)
theorem HOk.kept(x:HOk P w H h)(k:∀ b u,h.get? b=some u->h'.get? b=some u):HOk P w H h':=fun a o e =>
 (x a o e).stay (fun b u _ q=>k b u q) (fun _ q=>q) fun _ _ q=>q
theorem HOk.laid(x:HOk P w H h)(k:∀ b u,h.get? b=some u->h'.get? b=some u)(hp:h.objs.size<=a)(new:ObjOk P w (upd H a o) h' a o):HOk P w (upd H a o) h':=fun b u e=>by
 have hn:=x.fresh hp
 by_cases hb:b=a
 · subst hb;rw[z0c]at e;cases e;exact new
 · rw[z0n hb]at e
   exact (x b u e).stay (fun c v _ q=>k c v q) (fun c q=>by rw[z0n (z0F q hn)];exact q) fun c xs q=>by rw[z0n (z0F q hn)];exact q
end
def Rd(H:Hp)(a:Addr)(u:HO):Prop:=H a=some u\/∃ o,H a=some (.frz o u)
theorem Rd.ok{P:Program}{w:World}{H:Hp}{h:Heap}{a:Addr}{u:HO}(r:Rd H a u)(x:HOk P w H h):ObjOk P w H h a u:=by
 rcases r with r | ⟨o,r⟩
 · exact x a u r
 · obtain⟨_,q⟩:=x a _ r
   exact q
def Mut:Option HO->Prop
 | some (.lst _)=>True
 | some (.dK _)=>True
 | some (.dT _)=>True
 | some (.set _ _)=>True
 | some (.ins _ _ _)=>True
 | some (.ext _)=>True
 | _=>False
section
variable {P:Program}{w:World}{H:Hp}{h h':Heap}{x e:Addr}{o':HO}
theorem HOk.write(ok:HOk P w H h)(mu:Mut (H x))(he:e=x\/H e=some (.own x))(k:∀ b u,b≠e->h.get? b=some u->h'.get? b=some u)(heo:∃ u,h'.get? e=some u)
 (new:ObjOk P w (upd H x o') h' x o'):HOk P w (upd H x o') h':=fun b u q=>by
 have nown:∀ c y,H c=some (.own y)->c≠x:=fun c y r z=>by subst z;rw[r]at mu;exact mu
 have ntup:∀ c xs,H c=some (.tup xs)->c≠x:=fun c xs r z=>by subst z;rw[r]at mu;exact mu
 by_cases hb:b=x
 · subst hb;rw[z0c]at q;cases q;exact new
 · rw[z0n hb]at q
   by_cases hbe:b=e
   · have q':H b=some (.own x):=by
      rcases he with z | z
      · exact absurd (hbe.trans z) hb
      · rw[hbe];exact z
     rw[q]at q';cases q'
     obtain⟨v,hv⟩:=heo
     exact⟨v,by rw[hbe];exact hv⟩
   · refine (ok b u q).stay (fun c v hc r=>k c v ?_ r) (fun c r=>by rw[z0n (nown c b r)];exact r) fun c xs r=>by rw[z0n (ntup c xs r)];exact r
     rcases hc with rfl | hc
     · exact hbe
     · rintro rfl
       rcases he with z | z
       · exact nown c b hc z
       · rw[hc]at z;cases z;exact hb rfl
end
structure Un (fs ex:List Addr) (H H':Hp) (h h':Heap):Prop where
 keep:∀ b o,h.get? b=some o->H b=none->b∉fs->b∉ex->h'.get? b=some o
 slot:∀ b o,h.get? b=some o->H b=none->b∈fs->b∉ex->∃ sl,h'.get? b=some { o with slots:=sl }
 free:∀ b o,h.get? b=some o->H b=none->b∉ex->H' b=none
 there:∀ b o,h.get? b=some o->b∉ex->∃ o',h'.get? b=some o'
 tups:∀ b xs,H b=some (.tup xs)->H' b=some (.tup xs)
 frzs:∀ b o u,H b=some (.frz o u)->H' b=some (.frz o u)
 tbls:∀ b ps,H b=some (.tbl ps)->∃ more,H' b=some (.tbl (ps ++ more))
section
variable {fs fs' ex ex':List Addr}{H H1 H2:Hp}{h h1 h2 h':Heap}{a x e:Addr}{o:HO}
theorem Un.any(u:Un fs ex H H1 h h1){b:Addr}{ob:Obj}(q:h.get? b=some ob)(n:H b=none)(hx:b∉ex):∃ sl,h1.get? b=some { ob with slots:=sl }:=by
 by_cases hb:b∈fs
 · exact u.slot b ob q n hb hx
 · exact⟨ob.slots,u.keep b ob q n hb hx⟩
theorem Un.kept(k:∀ b u,h.get? b=some u->h'.get? b=some u):Un fs ex H H h h' :=
 ⟨fun b ob q _ _ _=>k b ob q,fun b ob q _ _ _=>⟨ob.slots,k b ob q⟩,fun _ _ _ n _=>n,fun b ob q _=>⟨ob,k b ob q⟩,fun _ _ q=>q,fun _ _ _ q=>q,fun _ ps q=>⟨#[],by rw[q];simp⟩⟩
theorem Un.refl:Un fs ex H H h h:=Un.kept fun _ _ q=>q
theorem Un.laid(k:∀ b u,h.get? b=some u->h'.get? b=some u)(hp:h.objs.size<=a)(hn:H a=none):Un fs ex H (upd H a o) h h' where
 keep:=fun b u q _ _ _=>k b u q
 slot:=fun b u q _ _ _=>⟨u.slots,k b u q⟩
 free:=fun b u q n _=>by rw[z0n (jS (jW (jG q) hp))];exact n
 there:=fun b u q _=>⟨u,k b u q⟩
 tups:=fun b xs q=>by rw[z0n (z0F q hn)];exact q
 frzs:=fun b u xs q=>by rw[z0n (z0F q hn)];exact q
 tbls:=fun b ps q=>⟨#[],by rw[z0n (z0F q hn),q];simp⟩
theorem Un.write(mu:Mut (H x))(he:e=x\/H e=some (.own x))(k:∀ b u,b≠e->h.get? b=some u->h'.get? b=some u)(heo:∃ u,h'.get? e=some u):Un fs ex H (upd H x o) h h':=by
 have hx:∀ b,H b=none->b≠x:=fun b n z=>by subst z;rw[n]at mu;exact mu
 have hb:∀ b,H b=none->b≠e:=fun b n z=>by
  subst z
  rcases he with r | r
  · exact hx b n r
  · rw[n]at r;cases r
 have hm:∀ b u,H b=some u->¬ Mut (some u)->b≠x:=fun b u q nm z=>by subst z;rw[q]at mu;exact nm mu
 refine⟨fun b u q n _ _=>k b u (hb b n) q,fun b u q n _ _=>⟨u.slots,k b u (hb b n) q⟩,fun b u q n _=>by rw[z0n (hx b n)];exact n,fun b u q _=>?_,
  fun b xs q=>by rw[z0n (hm b _ q fun z=>z)];exact q,fun b u xs q=>by rw[z0n (hm b _ q fun z=>z)];exact q,fun b ps q=>⟨#[],by rw[z0n (hm b _ q fun z=>z),q];simp⟩⟩
 by_cases hbe:b=e
 · subst hbe;exact heo
 · exact⟨u,k b u hbe q⟩
end
def trk(h:Heap)(H:Hp):List Addr:=(List.range h.objs.size).filter fun a=>(H a).isSome
def y5T(h:Heap)(H:Hp):Heap:=PySem.W.hideAll h (trk h H)
theorem y3U(h:Heap)(H:Hp):(y5T h H).objs.size=h.objs.size:=PySem.W.hideAll_size _ _
theorem y5S{h:Heap}{H:Hp}{b:Addr}{o:Obj}(e:h.get? b=some o)(n:H b=none):(y5T h H).get? b=some o :=
 PySem.W.hideAll_get _ e fun hm=>by
  have q:(H b).isSome=true:=(List.mem_filter.mp hm).2
  rw[n]at q;simp at q
theorem y8b{h:Heap}{H:Hp}{b:Addr}{o:Obj}(e:(y5T h H).get? b=some o):h.get? b=some o/\H b=none:=by
 have e':h.get? b=some o:=PySem.W.of_hideAll (trk h H) e
 refine⟨e',?_⟩
 cases q:H b with
 | none=>rfl
 | some x =>
  have hm:b∈trk h H:=List.mem_filter.mpr ⟨List.mem_range.mpr (jG e'),by simp[q]⟩
  have z:(y5T h H).get? b=none:=PySem.W.hideAll_none (trk h H) hm
  rw[z]at e;cases e
structure Mod (K:PySem.W.Frag) (mg:Str->Option Value) (base:Heap):Prop where
 kin:K.In base
 glob:base.Ns mainGlobals mg
 blt:∃ mb,base.Ns builtinsNs mb/\∀ x:Str,x ≠ "__name__" -> mb x=bootBuiltins x
 nolimit:base.NoLimit
structure Cx where
 prog:Program
 w:World
 K:PySem.W.Frag
 mg:Str->Option Value
 base:Heap
 A:Around
 N:List Str
 s₀:Shared
 H₀:Hp
 env:Env
 outer:List Env
 stack:List Env
 ex:List Addr
 fn:Str->Bool
 calm:Bool
 pn:List (Addr×Obj)
 xe:Value->Shared->Prop
def frs(l:List Env):List Addr:=l.filterMap (·.frame)
abbrev Cx.fs(X:Cx):List Addr:=frs X.outer
def Vis(sc:Scope)(x:Str):Prop:=sc.names.lookup x=some .local\/sc.names.lookup x=some .cell\/sc.names.lookup x=some .free
def Loc(sc:Scope)(x:Str):Prop:=sc.names.lookup x=some .local\/sc.names.lookup x=some .cell
def Look(env:Env)(h:Heap)(m:Str->Option Value)(x:Str)(u:Value):Prop :=
 (env.kindOf x=some .local/\m x=some u)\/((env.kindOf x=some .cell\/env.kindOf x=some .free)/\∃ c,env.cells.lookup x=some c/\h.IsCell c (some u))
structure Cx.Ok (X:Cx):Prop where
 mod:Mod X.K X.mg X.base
 kind:X.env.scope.kind = .function
 glob:X.env.globals=mainGlobals
 blt:X.env.builtins=builtinsNs
 above:X.s₀.heap.objs.size<=X.env.locals
 inj:∀ x y c,X.env.cells.lookup x=some c->X.env.cells.lookup y=some c->x=y
 has:∀ x,(X.env.kindOf x=some .cell\/X.env.kindOf x=some .free)->∃ c,X.env.cells.lookup x=some c
 cab:∀ x c,X.fn x=true->X.env.cells.lookup x=some c->X.s₀.heap.objs.size<=c
 hd:X.calm=true->X.A.handled=none
 frames:X.A.frames=some X.stack
 stk:X.stack=X.outer\/(X.stack=X.env :: X.outer/\X.env.frame=some X.env.locals)
 exf:∀ b∈X.ex,b≠X.env.locals/\∀ x c,X.env.cells.lookup x=some c->c≠b
 bs:∀ b o,X.base.get? b=some o->X.s₀.heap.get? b=some o/\X.H₀ b=none
 bsz:X.base.objs.size<=X.s₀.heap.objs.size
 noex:∀ b o,X.base.get? b=some o->b∉X.ex
 exfs:∀ b∈X.ex,b∉X.fs
 funs:X.s₀.heap.FunFrames X.base X.outer
 frf:∀ b∈X.fs,X.H₀ b=none
structure Inv (X:Cx) (pins:List (Addr×Obj)) (σ:List (Option V)) (H:Hp) (s:Shared):Prop where
 ok:X.Ok
 os:s.os=X.s₀.os
 bare:AllBare s.gens
 base:Un X.fs X.ex X.H₀ H X.s₀.heap s.heap
 loc:∃ m,s.heap.Ns X.env.locals m/\∀ (i:Nat) (x:Str) (v:V),X.N[i]? = some x->σ[i]? = some (some v)->Vis X.env.scope x->∃ u,RelV v u/\Look X.env s.heap m x u
 cell:∀ x c,X.env.cells.lookup x=some c->∃ v,s.heap.IsCell c v
 free:H X.env.locals=none
 freeC:∀ x c,X.env.cells.lookup x=some c->H c=none
 pin:∀ p∈X.pn ++ pins,s.heap.get? p.1=some p.2/\H p.1=none/\p.1≠X.env.locals/\p.1∉X.fs/\∀ v,p.2.data ≠ .cell v
 hok:HOk X.prog X.w H s.heap
 len:σ.length=X.N.length
section
variable {X:Cx}{pins:List (Addr×Obj)}{σ:List (Option V)}{H H':Hp}{s:Shared}{h':Heap}
theorem Cx.Ok.nofr(ok:X.Ok){b:Addr}{o:Obj}(e:X.base.get? b=some o):b∉X.fs:=fun hb=>by
 have:=(ok.funs.mem hb).1
 rw[e]at this;cases this
theorem Inv.bs(I:Inv X pins σ H s):∀ b o,X.base.get? b=some o->s.heap.get? b=some o/\H b=none:=fun b o e =>
 ⟨I.base.keep b o (I.ok.bs b o e).1 (I.ok.bs b o e).2 (I.ok.nofr e) (I.ok.noex b o e),I.base.free b o (I.ok.bs b o e).1 (I.ok.bs b o e).2 (I.ok.noex b o e)⟩
theorem Inv.bk(I:Inv X pins σ H s):∀ b o,X.base.get? b=some o->s.heap.get? b=some o:=fun b o e=>(I.bs b o e).1
theorem Inv.mod(I:Inv X pins σ H s):Mod X.K X.mg X.base:=I.ok.mod
theorem Inv.kIn(I:Inv X pins σ H s):X.K.In s.heap:=I.ok.mod.kin.keeps I.bk
theorem Inv.lt(I:Inv X pins σ H s):X.env.locals < s.heap.objs.size:=let ⟨_,hn,_⟩:=I.loc;hn.lt
theorem Inv.sz(I:Inv X pins σ H s):X.s₀.heap.objs.size<=s.heap.objs.size:=jc I.ok.above (kE I.lt)
theorem Inv.nofs(I:Inv X pins σ H s){a:Addr}(h:s.heap.objs.size<=a):a∉X.fs:=fun hb=>by
 obtain⟨_,o,ho,_⟩:=I.ok.funs.mem hb
 exact absurd (jW (jG ho) (jc I.sz h)) (jr _)
theorem Inv.cne(I:Inv X pins σ H s):∀ x c,X.env.cells.lookup x=some c->c≠X.env.locals:=fun x c e z=>by
 obtain⟨v,o,ho,hd⟩:=I.cell x c e
 obtain⟨m,⟨o',es,ep,ho',hd',_⟩,_⟩:=I.loc
 rw[z,ho']at ho;cases ho;rw[hd']at hd;cases hd
theorem Inv.funs(I:Inv X pins σ H s):s.heap.FunFrames X.base X.outer:=by
 have all:∀ (l:List Env),(∀ b∈frs l,b∈X.fs)->X.s₀.heap.FunFrames X.base l->s.heap.FunFrames X.base l:=by
  intro l
  induction l with
  | nil=>intro _ _;trivial
  | cons env r ih =>
   intro hs hl
   obtain⟨hk,⟨L,o,hf,hn,ho,hd⟩,hr⟩:=hl
   have hL:L∈X.fs:=hs L (by unfold frs;rw[List.filterMap_cons,hf];exact jX)
   obtain⟨sl,e⟩:=I.base.slot L o ho (I.ok.frf L hL) hL fun z=>I.ok.exfs L z hL
   exact⟨hk,⟨L,_,hf,hn,e,hd⟩,ih (fun b hb=>hs b (by unfold frs;rw[List.filterMap_cons,hf];exact jQ _ hb)) hr⟩
 exact all X.outer (fun _ hb=>hb) I.ok.funs
theorem Inv.stack(I:Inv X pins σ H s):s.heap.FunFrames X.base X.stack:=by
 rcases I.ok.stk with e | ⟨e,hf⟩
 · rw[e];exact I.funs
 · rw[e]
   obtain⟨m,hn,_⟩:=I.loc
   refine .cons (by rw[I.ok.kind];decide) hf hn ?_ I.funs
   exact Heap.get?_none_of_le (jc I.ok.bsz I.ok.above)
theorem Inv.stkSub(I:Inv X pins σ H s):∀ b∈frs X.stack,b∈X.env.locals :: X.fs:=fun b hb=>by
 rcases I.ok.stk with e | ⟨e,hf⟩
 · rw[e]at hb;exact jQ _ hb
 · rw[e]at hb
   unfold frs at hb
   rw[List.filterMap_cons,hf]at hb
   exact hb
theorem Inv.stkFree(I:Inv X pins σ H s):∀ b∈frs X.stack,H b=none:=fun b hb=>by
 rcases jH.mp (I.stkSub b hb) with e | hb
 · rw[e];exact I.free
 · obtain⟨_,o,ho,_⟩:=I.ok.funs.mem hb
   exact I.base.free b o ho (I.ok.frf b hb) fun z=>I.ok.exfs b z hb
theorem Inv.step{g':Array GenState}{t':Nat}{d':Drawn}{ch:List Addr}(I:Inv X pins σ H s)
 (hch:∀ b∈ch,(b∈X.ex\/X.s₀.heap.objs.size<=b)/\b≠X.env.locals/\(∀ x c,X.env.cells.lookup x=some c->c≠b)/\∀ p∈X.pn ++ pins,p.1≠b)
 (keep:∀ b o,b≠X.env.locals->b∉X.fs->b∉ch->s.heap.get? b=some o->H b=none->h'.get? b=some o)
 (slot:∀ b o,b≠X.env.locals->b∈X.fs->b∉ch->s.heap.get? b=some o->H b=none->∃ sl,h'.get? b=some { o with slots:=sl }) (free:∀ b o,b∉ch->s.heap.get? b=some o->H b=none->H' b=none)
 (there:∀ b o,b∉ch->s.heap.get? b=some o->∃ o',h'.get? b=some o')
 (tups:∀ b xs,H b=some (.tup xs)->H' b=some (.tup xs)) (frzs:∀ b o u,H b=some (.frz o u)->H' b=some (.frz o u)) (tbls:∀ b ps,H b=some (.tbl ps)->∃ more,H' b=some (.tbl (ps ++ more)))
 (ns:∀ m,s.heap.Ns X.env.locals m->h'.Ns X.env.locals m) (hok:HOk X.prog X.w H' h') (hg:AllBare g') :
 Inv X pins σ H' { s with heap:=h',gens:=g',drawn:=d',toks:=t' }:=by
 have neL:∀ b o,X.s₀.heap.get? b=some o->b≠X.env.locals:=fun b o e=>jS (jW (jG e) I.ok.above)
 have neC:∀ b o,X.s₀.heap.get? b=some o->b∉X.ex->b∉ch:=fun b o e hx hb=>by
  rcases (hch b hb).1 with z | z
  · exact hx z
  · exact absurd (jW (jG e) z) (jr _)
 have cellK:∀ x c,X.env.cells.lookup x=some c->∀ v,s.heap.IsCell c v->h'.IsCell c v:=fun x c e v ⟨o,ho,hd⟩=>by
  have nch:c∉ch:=fun z=>(hch c z).2.2.1 x c e rfl
  by_cases hc:c∈X.fs
  · obtain⟨sl,q⟩:=slot c o (I.cne x c e) hc nch ho (I.freeC x c e)
    exact⟨_,q,hd⟩
  · exact⟨o,keep c o (I.cne x c e) hc nch ho (I.freeC x c e),hd⟩
 refine⟨I.ok,I.os,hg,⟨fun b o e n hb hx=>?_,fun b o e n hb hx=>?_,fun b o e n hx=>?_,fun b o e hx=>?_,fun b xs e=>tups b xs (I.base.tups b xs e),fun b o xs e=>frzs b o xs (I.base.frzs b o xs e),fun b ps e=>?_⟩,?_,fun x c e=>?_,?_,fun x c e=>?_,fun p hp=>?_,hok,I.len⟩
 · exact keep b o (neL b o e) hb (neC b o e hx) (I.base.keep b o e n hb hx) (I.base.free b o e n hx)
 · obtain⟨sl,e1⟩:=I.base.slot b o e n hb hx
   obtain⟨sl',e2⟩:=slot b _ (neL b o e) hb (neC b o e hx) e1 (I.base.free b o e n hx)
   exact⟨sl',e2⟩
 · obtain⟨o',e1⟩:=I.base.there b o e hx
   exact free b o' (neC b o e hx) e1 (I.base.free b o e n hx)
 · obtain⟨o',e1⟩:=I.base.there b o e hx
   exact there b o' (neC b o e hx) e1
 · obtain⟨m1,e1⟩:=I.base.tbls b ps e
   obtain⟨m2,e2⟩:=tbls b _ e1
   exact⟨m1 ++ m2,by rw[e2,Array.append_assoc]⟩
 · obtain⟨m,hn,hl⟩:=I.loc
   refine⟨m,ns m hn,fun i x v e1 e2 e3=>?_⟩
   obtain⟨u,r,l⟩:=hl i x v e1 e2 e3
   refine⟨u,r,?_⟩
   rcases l with l | ⟨k,c,e,z⟩
   · exact .inl l
   · exact .inr ⟨k,c,e,cellK x c e _ z⟩
 · obtain⟨v,z⟩:=I.cell x c e
   exact⟨v,cellK x c e v z⟩
 · obtain⟨m,⟨o,_,_,ho,_⟩,_⟩:=I.loc
   exact free _ o (fun z=>(hch _ z).2.1 rfl) ho I.free
 · obtain⟨v,o,ho,hd⟩:=I.cell x c e
   exact free c o (fun z=>(hch c z).2.2.1 x c e rfl) ho (I.freeC x c e)
 · obtain⟨e,n,ne,nf,d⟩:=I.pin p hp
   have nch:p.1∉ch:=fun z=>(hch p.1 z).2.2.2 p hp rfl
   exact⟨keep p.1 p.2 ne nf nch e n,free p.1 p.2 nch e n,ne,nf,d⟩
theorem Inv.un{t':Nat}(I:Inv X pins σ H s)(u:Un X.fs [] H H' s.heap h')(hok:HOk X.prog X.w H' h'):Inv X pins σ H' { s with heap:=h',toks:=t' }:=by
 obtain⟨m,⟨o,es,ep,ho,r⟩,_⟩:=id I.loc
 obtain⟨sl,hL⟩:=u.any ho I.free (by simp)
 exact I.step (g':=s.gens) (d':=s.drawn) (ch:=[]) (fun _ z=>nomatch z) (fun b o _ hb _ e n=>u.keep b o e n hb (by simp)) (fun b o _ hb _ e n=>u.slot b o e n hb (by simp)) (fun b o _ e n=>u.free b o e n (by simp)) (fun b o _ e=>u.there b o e (by simp)) u.tups u.frzs u.tbls (fun m' hm=>by
  obtain⟨o',es',ep',ho',r'⟩:=hm
  rw[ho]at ho';cases ho'
  exact⟨_,es',ep',hL,r'⟩) hok I.bare
theorem Inv.call{g':Array GenState}{t':Nat}{d':Drawn}{ch:List Addr}(I:Inv X pins σ H s)(u:Un (frs X.stack) ch H H' s.heap h')(hok:HOk X.prog X.w H' h')(hg:AllBare g')
 (hch:∀ b∈ch,(b∈X.ex\/X.s₀.heap.objs.size<=b)/\b≠X.env.locals/\(∀ x c,X.env.cells.lookup x=some c->c≠b)/\∀ p∈X.pn ++ pins,p.1≠b) :
 Inv X pins σ H' { s with heap:=h',gens:=g',drawn:=d',toks:=t' }:=by
 obtain⟨m,⟨o,es,ep,ho,r⟩,_⟩:=id I.loc
 obtain⟨sl,hL⟩:=u.any ho I.free fun z=>(hch _ z).2.1 rfl
 exact I.step (ch:=ch) hch (fun b o hL hb hc e n=>u.keep b o e n (fun z=>(jH.mp (I.stkSub b z)).elim hL hb) hc) (fun b o _ _ hc e n=>u.any e n hc) (fun b o hc e n=>u.free b o e n hc) (fun b o hc e=>u.there b o e hc) u.tups u.frzs u.tbls (fun m' hm=>by
  obtain⟨o',es',ep',ho',r'⟩:=hm
  rw[ho]at ho';cases ho'
  exact⟨_,es',ep',hL,r'⟩) hok hg
theorem Inv.turned{t':Nat}{it:Addr}(I:Inv X pins σ H s)(k:∀ b o,b≠it->s.heap.get? b=some o->h'.get? b=some o)(hn:H it=none)(hL:it≠X.env.locals)
 (h1:it∈X.ex\/X.s₀.heap.objs.size<=it) (h2:∀ x c,X.env.cells.lookup x=some c->c≠it) (h3:∀ p∈X.pn ++ pins,p.1≠it):Inv X pins σ H { s with heap:=h',toks:=t' }:=by
 have nit:∀ b u,H b=some u->b≠it:=fun b u e z=>by rw[z,hn]at e;cases e
 refine I.step (g':=s.gens) (d':=s.drawn) (ch:=[it]) (fun b hb=>?_) (fun b o _ _ hc e _=>k b o (fun z=>hc (by simp[z])) e) (fun b o _ _ hc e _=>⟨o.slots,k b o (fun z=>hc (by simp[z])) e⟩) (fun _ _ _ _ n=>n)
  (fun b o hc e=>⟨o,k b o (fun z=>hc (by simp[z])) e⟩) (fun _ _ e=>e) (fun _ _ _ e=>e) (fun b ps e=>⟨#[],by rw[e];simp⟩) (fun m hm=>?_) (fun b u e=>?_) I.bare
 · have e:b=it:=by simpa using hb
   subst e
   exact⟨h1,hL,h2,h3⟩
 · obtain⟨o,es,ep,ho,r⟩:=hm
   exact⟨o,es,ep,k _ o (Ne.symm hL) ho,r⟩
 · refine (I.hok b u e).stay (fun c v hc q=>k c v ?_ q) (fun _ q=>q) fun _ _ q=>q
   rcases hc with z | z
   · rw[z];exact nit b u e
   · exact nit c _ z
theorem Inv.tok(I:Inv X pins σ H s)(t:Nat):Inv X pins σ H { s with toks:=t }:=I.un (h':=s.heap) (t':=t) Un.refl I.hok
theorem Inv.kept{t':Nat}(I:Inv X pins σ H s)(k:∀ b u,s.heap.get? b=some u->h'.get? b=some u):Inv X pins σ H { s with heap:=h',toks:=t' }:=I.un (Un.kept k) (I.hok.kept k)
theorem Inv.laid{a:Addr}{o:HO}{t':Nat}(I:Inv X pins σ H s)(k:∀ b u,s.heap.get? b=some u->h'.get? b=some u)(hp:s.heap.objs.size<=a)(new:ObjOk X.prog X.w (upd H a o) h' a o) :
 Inv X pins σ (upd H a o) { s with heap:=h',toks:=t' }:=I.un (Un.laid k hp (I.hok.fresh hp)) (I.hok.laid k hp new)
theorem Inv.write{x e:Addr}{o:HO}{t':Nat}(I:Inv X pins σ H s)(mu:Mut (H x))(he:e=x\/H e=some (.own x))(k:∀ b u,b≠e->s.heap.get? b=some u->h'.get? b=some u)(heo:∃ u,h'.get? e=some u)
 (new:ObjOk X.prog X.w (upd H x o) h' x o):Inv X pins σ (upd H x o) { s with heap:=h',toks:=t' }:=I.un (Un.write mu he k heo) (I.hok.write mu he k heo new)
theorem Inv.pins_of{pins':List (Addr×Obj)}(I:Inv X pins σ H s)(h:∀ p∈pins',s.heap.get? p.1=some p.2/\H p.1=none/\p.1≠X.env.locals/\p.1∉X.fs/\∀ v,p.2.data ≠ .cell v):Inv X pins' σ H s :=
 ⟨I.ok,I.os,I.bare,I.base,I.loc,I.cell,I.free,I.freeC,fun p hp=>(ji.mp hp).elim (fun z=>I.pin p (kO _ z)) (h p),I.hok,I.len⟩
theorem y0t{N:List Str}(hN:N.Nodup){i j:Nat}{x:Str}(a:N[i]? = some x)(b:N[j]? = some x):i=j:=by
 obtain⟨h1,e1⟩:=jE.mp a
 obtain⟨h2,e2⟩:=jE.mp b
 exact (List.getElem_inj hN).mp (e1.trans e2.symm)
theorem z5t{M:Model}{A:Around}{E:Value->Shared->Prop}{i:Nat}{x:Str}{v:V}{u:Value}{Q:Unit->Shared->Prop}(I:Inv X pins σ H s)(hN:X.N.Nodup)(hi:X.N[i]? = some x)(hx:Loc X.env.scope x)(r:RelV v u)
 (h:∀ s',Inv X pins (σ.set i (some v)) H s'->(∃ a,Heap.SameBut a s.heap s'.heap/\(a=X.env.locals\/X.env.cells.lookup x=some a))->Q () s') (hf:X.fn x=true\/X.env.scope.names.lookup x=some .local:=by first | exact .inl rfl | exact .inr rfl | assumption):wpAny M A (storeName X.env x u) Q E s:=by
 obtain⟨m,hn,hl⟩:=id I.loc
 have hcls:(X.env.scope.kind == .class || (X.env.scope.kind == .module && X.env.locals != X.env.globals))=false:=by rw[I.ok.kind];rfl
 have hiσ:i < σ.length:=by rw[I.len];exact (jE.mp hi).1
 have cne:=I.cne
 have tracked:∀ {a:Addr}{h':Heap},(∃ o,s.heap.get? a=some o/\H a=none)->Heap.SameBut a s.heap h'->HOk X.prog X.w H h':=fun {a h'} ha hs b ob e=>by
  obtain⟨_,_,hfree⟩:=ha
  refine (I.hok b ob e).stay (fun c w' hc q=>(hs.2 c ?_).trans q) (fun _ q=>q) fun _ _ q=>q
  rintro rfl
  rcases hc with rfl | hc
  · rw[hfree]at e;cases e
  · rw[hfree]at hc;cases hc
 rcases hx with hk | hk
 · refine wpAny_storeName_local hk hn (fun h' hn' hs=>?_) hcls
   obtain⟨oL,_,_,hoL,_⟩:=id hn
   refine h _ ⟨I.ok,I.os,I.bare,⟨fun b o e n hb hx=>?_,fun b o e n hb hx=>?_,I.base.free,fun b o e hx=>?_,I.base.tups,I.base.frzs,I.base.tbls⟩,⟨_,hn',fun j y v' e1 e2 e3=>?_⟩,fun y c e=>?_,I.free,I.freeC,fun p hp=>?_,tracked ⟨oL,hoL,I.free⟩ hs,by simpa using I.len⟩ ⟨_,hs,.inl rfl⟩
   · exact (hs.2 b (jS (jW (jG e) I.ok.above))).trans (I.base.keep b o e n hb hx)
   · obtain⟨sl,e1⟩:=I.base.slot b o e n hb hx
     exact⟨sl,(hs.2 b (jS (jW (jG e) I.ok.above))).trans e1⟩
   · obtain⟨o',e1⟩:=I.base.there b o e hx
     exact⟨o',(hs.2 b (jS (jW (jG e) I.ok.above))).trans e1⟩
   · by_cases hj:j=i
     · subst hj
       rw[hi]at e1;cases e1
       rw[List.getElem?_set_self hiσ]at e2
       cases e2
       exact⟨u,r,.inl ⟨hk,by simp⟩⟩
     · rw[List.getElem?_set_ne (Ne.symm hj)]at e2
       obtain⟨u',r',q⟩:=hl j y v' e1 e2 e3
       refine⟨u',r',?_⟩
       rcases q with ⟨k,e⟩ | ⟨k,c,e,z⟩
       · refine .inl ⟨k,?_⟩
         have:y≠x:=fun e=>hj (y0t hN e1 (e ▸ hi))
         simp[this,e]
       · exact .inr ⟨k,c,e,z.sameBut hs (cne y c e)⟩
   · obtain⟨w',z⟩:=I.cell y c e
     exact⟨w',z.sameBut hs (cne y c e)⟩
   · obtain⟨e,n,ne,nf,d⟩:=I.pin p hp
     exact⟨(hs.2 p.1 ne).trans e,n,ne,nf,d⟩
 · have hfn:X.fn x=true:=by
    rcases hf with z | z
    · exact z
    · rw[z]at hk;cases hk
   obtain⟨c,hc⟩:=I.ok.has x (.inl hk)
   obtain⟨w',z⟩:=I.cell x c hc
   refine wpAny_storeName_cell I.ok.kind hk hc z (fun h' hc' hs=>?_)
   obtain⟨oc,hoc,hocd⟩:=id z
   refine h { s with heap:=h' } ⟨I.ok,I.os,I.bare,⟨fun b o e n hb hx=>?_,fun b o e n hb hx=>?_,I.base.free,fun b o e hx=>?_,I.base.tups,I.base.frzs,I.base.tbls⟩,⟨m,hn.sameBut hs (Ne.symm (cne x c hc)),fun j y v' e1 e2 e3=>?_⟩,fun y c' e=>?_,I.free,I.freeC,fun p hp=>?_,tracked ⟨oc,hoc,I.freeC x c hc⟩ hs,by simpa using I.len⟩ ⟨c,hs,.inr hc⟩
   · exact (hs.2 b (jS (jW (jG e) (I.ok.cab x c hfn hc)))).trans (I.base.keep b o e n hb hx)
   · obtain⟨sl,e1⟩:=I.base.slot b o e n hb hx
     exact⟨sl,(hs.2 b (jS (jW (jG e) (I.ok.cab x c hfn hc)))).trans e1⟩
   · obtain⟨o',e1⟩:=I.base.there b o e hx
     exact⟨o',(hs.2 b (jS (jW (jG e) (I.ok.cab x c hfn hc)))).trans e1⟩
   · by_cases hj:j=i
     · subst hj
       rw[hi]at e1;cases e1
       rw[List.getElem?_set_self hiσ]at e2
       cases e2
       exact⟨u,r,.inr ⟨.inl hk,c,hc,hc'⟩⟩
     · rw[List.getElem?_set_ne (Ne.symm hj)]at e2
       obtain⟨u',r',q⟩:=hl j y v' e1 e2 e3
       refine⟨u',r',?_⟩
       rcases q with q | ⟨k,c',e,z'⟩
       · exact .inl q
       · refine .inr ⟨k,c',e,z'.sameBut hs ?_⟩
         rintro rfl
         exact hj (y0t hN e1 (I.ok.inj _ _ _ e hc ▸ hi))
   · by_cases hcc:c'=c
     · subst hcc;exact⟨_,hc'⟩
     · obtain⟨w2,z2⟩:=I.cell y c' e
       exact⟨w2,z2.sameBut hs hcc⟩
   · obtain⟨e,n,ne,nf,d⟩:=I.pin p hp
     refine⟨(hs.2 p.1 ?_).trans e,n,ne,nf,d⟩
     intro q
     rw[q,hoc]at e
     have q':oc=p.2:=Option.some.inj e
     exact d w' (by rw[<- q'];exact hocd)
theorem z4a{M:Model}{A:Around}{E:Value->Shared->Prop}{i:Nat}{x:Str}{v:V}{u:Value}{Q:Unit->Shared->Prop}(I:Inv X pins σ H s)(hN:X.N.Nodup)(hi:X.N[i]? = some x)(hx:Loc X.env.scope x)(r:RelV v u)
 (h:∀ s',Inv X pins (σ.set i (some v)) H s'->Q () s') (hf:X.fn x=true\/X.env.scope.names.lookup x=some .local:=by first | exact .inl rfl | exact .inr rfl | assumption):wpAny M A (storeName X.env x u) Q E s :=
 z5t I hN hi hx r (fun s' I' _=>h s' I') hf
theorem Inv.call'{s':Shared}{ch:List Addr}(I:Inv X pins σ H s)(ho:s'.os=s.os)(u:Un (frs X.stack) ch H H' s.heap s'.heap)(hok:HOk X.prog X.w H' s'.heap)(hg:AllBare s'.gens)
 (hch:∀ b∈ch,(b∈X.ex\/X.s₀.heap.objs.size<=b)/\b≠X.env.locals/\(∀ x c,X.env.cells.lookup x=some c->c≠b)/\∀ p∈X.pn ++ pins,p.1≠b):Inv X pins σ H' s':=by
 obtain⟨h',g',d',t',o'⟩:=s'
 have e:o'=s.os:=ho
 subst e
 exact I.call (g':=g') (t':=t') (d':=d') u hok hg hch
end
abbrev XK:=Value->Option Addr->Hp->Prop
abbrev St:=List (Option V)
abbrev VK:=V->Hp->Prop
abbrev TE:=St->Hp->VK->Prop
abbrev TT:=St->Hp->(Bool->Hp->Prop)->Prop
abbrev TA:=St->Hp->(List V->Hp->Prop)->Prop
structure Ends where
 nx:St->Hp->Prop
 rt:VK
 bk:St->Hp->Prop:=fun _ _=>False
 ct:St->Hp->Prop:=fun _ _=>False
abbrev TS:=Ends->St->Hp->Prop
def EP(X:Cx)(pins:List (Addr×Obj))(σ:St)(Q:VK)(u:Value)(s':Shared):Prop:=∃ v H',Inv X pins σ H' s'/\RelV v u/\Q v H'
def TP(X:Cx)(pins:List (Addr×Obj))(σ:St)(Q:Bool->Hp->Prop)(b:Bool)(s':Shared):Prop:=∃ H',Inv X pins σ H' s'/\Q b H'
def AP(X:Cx)(pins:List (Addr×Obj))(σ:St)(Q:List V->Hp->Prop)(us:List Value)(s':Shared):Prop:=∃ vs H',Inv X pins σ H' s'/\Vals vs us/\Q vs H'
def SP(X:Cx)(pins:List (Addr×Obj))(D:Ends)(f:Flow)(s':Shared):Prop :=
 match f with
 | .next=>∃ σ' H',Inv X pins σ' H' s'/\D.nx σ' H'
 | .brk=>∃ σ' H',Inv X pins σ' H' s'/\D.bk σ' H'
 | .cont=>∃ σ' H',Inv X pins σ' H' s'/\D.ct σ' H'
 | .ret u=>∃ v σ' H',Inv X pins σ' H' s'/\RelV v u/\D.rt v H'
def PE(X:Cx)(e:Expr)(t:TE):Prop :=
 ∀ (pins:List (Addr×Obj)) (s:Shared) (σ:St) (H:Hp) (Q:VK),Inv X pins σ H s->t σ H Q->wpAny (model X.prog X.w) X.A (eval e X.env) (EP X pins σ Q) X.xe s
def PT(X:Cx)(e:Expr)(t:TT):Prop :=
 ∀ (pins:List (Addr×Obj)) (s:Shared) (σ:St) (H:Hp) (Q:Bool->Hp->Prop),Inv X pins σ H s->t σ H Q->wpAny (model X.prog X.w) X.A (isTrue e X.env (eval e X.env)) (TP X pins σ Q) X.xe s
def PW(X:Cx)(e:Expr)(t:TT):Prop :=
 ∀ (whole:Sem Value) (pins:List (Addr×Obj)) (s:Shared) (σ:St) (H:Hp) (Q:Bool->Hp->Prop),Inv X pins σ H s->t σ H Q->wpAny (model X.prog X.w) X.A (isTrue e X.env whole) (TP X pins σ Q) X.xe s
theorem PW.pt{X:Cx}{e:Expr}{t:TT}(h:PW X e t):PT X e t:=h _
def PA(X:Cx)(es:List Expr)(t:TA):Prop :=
 ∀ (pos:Pos) (pins:List (Addr×Obj)) (s:Shared) (σ:St) (H:Hp) (Q:List V->Hp->Prop),Inv X pins σ H s->t σ H Q->wpAny (model X.prog X.w) X.A (spliced (backTo pos (starEach es X.env))) (AP X pins σ Q) X.xe s
def PS(X:Cx)(st:Stmt)(t:TS):Prop :=
 ∀ (pins:List (Addr×Obj)) (s:Shared) (σ:St) (H:Hp) (D:Ends),Inv X pins σ H s->t D σ H->wpAny (model X.prog X.w) X.A (exec st X.env) (SP X pins D) X.xe s
def PSs(X:Cx)(st:List Stmt)(t:TS):Prop :=
 ∀ (pins:List (Addr×Obj)) (s:Shared) (σ:St) (H:Hp) (D:Ends),Inv X pins σ H s->t D σ H->wpAny (model X.prog X.w) X.A (execs st X.env) (SP X pins D) X.xe s
theorem thn{α:Type}{t:Sem α}{Q Q':α->Shared->Prop}{M:Model}{A:Around}{E:Value->Shared->Prop}{s:Shared}(h:wpAny M A t Q E s)(hQ:∀ a s,Q a s->Q' a s):wpAny M A t Q' E s:=wpAny_mono h hQ fun _ _ x=>x
section
variable {X:Cx}
def x1h(i:Nat):TE:=fun σ H Q=>∃ v,σ[i]? = some (some v)/\Q v H
def tC(v:V):TE:=fun _ H Q=>Q v H
theorem y9L{i:Nat}{x:Str}{pos:Pos}(hN:X.N[i]? = some x)(hv:Vis X.env.scope x)(hd:(x == ("__debug__" : Str))=false:=by decide)(hcd:(x == ("__classdict__" : Str))=false:=by decide):PE X (.Name x pos) (x1h i):=by
 intro pins s σ H Q I h
 obtain⟨v,e,h⟩:=h
 obtain⟨m,hn,hl⟩:=I.loc
 obtain⟨u,r,l⟩:=hl i x v hN e hv
 have fin:EP X pins σ Q u s:=⟨v,H,I,r,h⟩
 rcases l with ⟨hk,hm⟩ | ⟨hk,c,hc,hcell⟩
 · exact wpAny_Name (wpAny_loadName_local I.ok.kind hk hn hm fin) hd
 · rcases hk with hk | hk
   · exact wpAny_Name (wpAny_loadName_cell I.ok.kind hk hc hcell fin) hd
   · exact wpAny_Name (wpAny_loadName_free I.ok.kind hk hc hcell fin hcd) hd
theorem z0d{i j pos}:PE X (.Constant (.int i) j pos) (tC (.int i)):=fun _ _ _ H _ I h=>wpAny_Constant_int ⟨.int i,H,I.tok _,⟨_,rfl⟩,h⟩
theorem z7h{b j pos}:PE X (.Constant (.bool b) j pos) (tC (.bl b)):=fun _ _ _ H _ I h=>Constant_bool ⟨.bl b,H,I,rfl,h⟩
theorem z0l{x j pos}:PE X (.Constant (.str x) j pos) (tC (.str x)):=fun _ _ _ H _ I h=>Calls.Constant_str ⟨.str x,H,I.tok _,⟨_,rfl⟩,h⟩
def Gl(X:Cx)(x:Str):Prop:=X.env.kindOf x=some .globalImplicit
theorem y3G{E:Value->Shared->Prop}{pins:List (Addr×Obj)}{s:Shared}{σ:St}{H:Hp}{x:Str}{u:Value}{pos:Pos}{Q:Value->Shared->Prop}(I:Inv X pins σ H s)(hg:Gl X x)(hm:X.mg x=some u)(h:Q u s)
 (hd:(x == ("__debug__" : Str))=false:=by decide):wpAny (model X.prog X.w) X.A (eval (.Name x pos) X.env) Q E s :=
 Calls.Name_function_global I.ok.kind hg (Calls.loadGlobal_global (by rw[I.ok.glob];exact I.mod.glob.keeps I.bk) hm h) hd
theorem z3g{E:Value->Shared->Prop}{pins:List (Addr×Obj)}{s:Shared}{σ:St}{H:Hp}{x:Str}{u:Value}{pos:Pos}{Q:Value->Shared->Prop}(I:Inv X pins σ H s)(hg:Gl X x)(hm:X.mg x=none)(hv:bootBuiltins x=some u)(h:Q u s)
 (hn:x ≠ "__name__" := by decide) (hd:(x == ("__debug__" : Str))=false:=by decide):wpAny (model X.prog X.w) X.A (eval (.Name x pos) X.env) Q E s:=by
 obtain⟨mb,h1,h2⟩:=I.mod.blt
 exact Calls.Name_function_global I.ok.kind hg (Calls.loadGlobal_builtin (by rw[I.ok.glob];exact I.mod.glob.keeps I.bk) hm (by rw[I.ok.blt];exact h1.keeps I.bk) ((h2 x hn).trans hv) h) hd
theorem z2c{x:Str}{v:V}{u:Value}{pos:Pos}(hg:Gl X x)(hm:X.mg x=none)(hv:bootBuiltins x=some u)(r:RelV v u)(hn:x ≠ "__name__" := by decide)(hd:(x == ("__debug__" : Str))=false:=by decide):PE X (.Name x pos) (tC v) :=
 fun _ _ _ H _ I h=>z3g I hg hm hv ⟨v,H,I,r,h⟩ hn hd
variable {a b:Expr}{ta tb:TE}{pos:Pos}
def tB(t:TE):TT:=fun σ H Q=>t σ H fun x H1=>∃ c,x = .bl c/\Q c H1
theorem z1Z{e:Expr}{t:TE}(h:PE X e t)(he:∀ whole,isTrue e X.env whole=(do let v <- whole;standAt e.pos;holding [v] (truthy v)):=by intro _;rfl):PT X e (tB t):=by
 intro pins s σ H Q I hw
 refine isTrue_plain (thn (h pins s σ H _ I hw) fun v s1 ⟨x,H1,I1,r1,q1⟩=>?_) (he _)
 obtain⟨d,rfl,q⟩:=q1
 cases r1
 exact wpAny_truthy_bool ⟨H1,I1,q⟩
variable {tA tB':TT}{rest:List Expr}
def x1B(t u:TT):TT:=fun σ H Q=>t σ H fun c H1=>if c=true then u σ H1 Q else Q false H1
def tOr(t u:TT):TT:=fun σ H Q=>t σ H fun c H1=>if c=true then Q true H1 else u σ H1 Q
def x1z(t:TT):TT:=fun σ H Q=>t σ H fun c H1=>Q (!c) H1
theorem y3d(ha:PT X a tA):PW X (.BoolOp .And [a] pos) tA:=by
 intro wh pins s σ H Q I h
 refine isTrue_and (thn (ha pins s σ H Q I h) fun c s1 e=>?_)
 cases c with
 | true=>exact isTrue_and_nil e
 | false=>exact e
theorem z3I(ha:PT X a tA):PW X (.BoolOp .Or [a] pos) tA:=by
 intro wh pins s σ H Q I h
 refine isTrue_or (thn (ha pins s σ H Q I h) fun c s1 e=>?_)
 cases c with
 | false=>exact isTrue_or_nil e
 | true=>exact e
theorem y6x(ha:PT X a tA)(hb:PW X (.BoolOp .And (b :: rest) pos) tB'):PW X (.BoolOp .And (a :: b :: rest) pos) (x1B tA tB'):=by
 intro wh pins s σ H Q I h
 refine isTrue_and (thn (ha pins s σ H _ I h) fun c s1 ⟨H1,I1,q1⟩=>?_)
 cases c with
 | true=>exact hb wh pins s1 σ H1 Q I1 q1
 | false=>exact⟨H1,I1,q1⟩
theorem z4x(ha:PT X a tA)(hb:PW X (.BoolOp .Or (b :: rest) pos) tB'):PW X (.BoolOp .Or (a :: b :: rest) pos) (tOr tA tB'):=by
 intro wh pins s σ H Q I h
 refine isTrue_or (thn (ha pins s σ H _ I h) fun c s1 ⟨H1,I1,q1⟩=>?_)
 cases c with
 | true=>exact⟨H1,I1,q1⟩
 | false=>exact hb wh pins s1 σ H1 Q I1 q1
theorem z3a(ha:PT X a tA):PT X (.UnaryOp .Not a pos) (x1z tA):=by
 intro pins s σ H Q I h
 exact isTrue_not (ha pins s σ H (fun c H1=>Q (!c) H1) I h)
def x0O(ta tb:TE):TE:=fun σ H Q=>ta σ H fun x H1=>∃ c,x = .bl c/\if c=true then tb σ H1 Q else Q (.bl false) H1
def x1y(ta tb:TE):TE:=fun σ H Q=>ta σ H fun x H1=>∃ c,x = .bl c/\if c=true then Q (.bl true) H1 else tb σ H1 Q
def x0L(ta:TE):TE:=fun σ H Q=>ta σ H fun x H1=>∃ c,x = .bl c/\Q (.bl (!c)) H1
theorem z8g{op}{t:TE}(h:PE X a t):PE X (.BoolOp op [a] pos) t:=fun pins s σ H Q I hw=>BoolOp_one (h pins s σ H Q I hw)
theorem y3o(ha:PE X a ta)(hb:PE X (.BoolOp .And (b :: rest) pos) tb):PE X (.BoolOp .And (a :: b :: rest) pos) (x0O ta tb):=by
 intro pins s σ H Q I h
 refine BoolOp_and (thn (ha pins s σ H _ I h) fun v s1 ⟨x,H1,I1,r1,q1⟩=>?_)
 obtain⟨c,rfl,q1⟩:=q1
 cases r1
 refine wpAny_truthy_bool ?_
 cases c with
 | true=>exact hb pins s1 σ H1 Q I1 q1
 | false=>exact⟨.bl false,H1,I1,rfl,q1⟩
theorem y9M(ha:PE X a ta)(hb:PE X (.BoolOp .Or (b :: rest) pos) tb):PE X (.BoolOp .Or (a :: b :: rest) pos) (x1y ta tb):=by
 intro pins s σ H Q I h
 refine BoolOp_or (thn (ha pins s σ H _ I h) fun v s1 ⟨x,H1,I1,r1,q1⟩=>?_)
 obtain⟨c,rfl,q1⟩:=q1
 cases r1
 refine wpAny_truthy_bool ?_
 cases c with
 | false=>exact hb pins s1 σ H1 Q I1 q1
 | true=>exact⟨.bl true,H1,I1,rfl,q1⟩
theorem y9N(ha:PE X a ta):PE X (.UnaryOp .Not a pos) (x0L ta):=by
 intro pins s σ H Q I h
 refine UnaryOp_ (thn (ha pins s σ H _ I h) fun v s1 ⟨x,H1,I1,r1,q1⟩=>?_)
 obtain⟨c,rfl,q1⟩:=q1
 cases r1
 exact not_of (wpAny_truthy_bool ⟨.bl (!c),H1,I1,rfl,q1⟩)
def tIf(t:TT)(ta tb:TE):TE:=fun σ H Q=>t σ H fun c H1=>if c=true then ta σ H1 Q else tb σ H1 Q
theorem z5i{c:Expr}(hc:PT X c tA)(ha:PE X a ta)(hb:PE X b tb):PE X (.IfExp c a b pos) (tIf tA ta tb):=by
 intro pins s σ H Q I h
 refine wpAny_IfExp (thn (hc pins s σ H _ I h) fun d s1 ⟨H1,I1,q1⟩=>?_)
 cases d with
 | true=>exact ha pins s1 σ H1 Q I1 q1
 | false=>exact hb pins s1 σ H1 Q I1 q1
end
def SqL(K:PySem.W.Frag)(H:Hp)(a:Addr)(xs:List V):Prop :=
 Rd H a (.lst xs) \/
  ∃ (o:Obj) (its:Array Value) (n:Nat),K.lookup a=some o/\o.cls = .type "list" /\ o.dict=none/\o.data = .seq its n/\its.size<=sizeLine/\Vals xs its.toList
def SqT(K:PySem.W.Frag)(H:Hp)(a:Addr)(xs:List V):Prop :=
 Rd H a (.tup xs) \/
  ∃ (o:Obj) (its:Array Value) (n:Nat),K.lookup a=some o/\o.cls = .type "tuple" /\ o.data = .seq its n/\its.size<=sizeLine/\Vals xs its.toList
def x1L:Value->Option V
 | .none=>some .non
 | .bool b=>some (.bl b)
 | .int i _=>some (.int i)
 | .str x _=>some (.str x)
 | .bytes b _=>some (.byt b)
 | .float b _=>some (.flt b)
 | .ref a=>some (.ref a)
 | .type n=>some (.ty n)
 | _=>none
theorem RelV.abs{x:V}{u:Value}(r:RelV x u):x1L u=some x:=by
 cases x with
 | non=>cases r;rfl
 | bl _=>cases r;rfl
 | int _=>obtain⟨t,rfl⟩:=r;rfl
 | str _=>obtain⟨t,rfl⟩:=r;rfl
 | byt _=>obtain⟨t,rfl⟩:=r;rfl
 | flt _=>obtain⟨t,rfl⟩:=r;rfl
 | ref _=>cases r;rfl
 | ty _=>cases r;rfl
theorem RelV.inj{x y:V}{u:Value}(r:RelV x u)(q:RelV y u):x=y:=Option.some.inj (r.abs.symm.trans q.abs)
theorem Vals.inj:∀ {xs ys:List V}{us:List Value},Vals xs us->Vals ys us->xs=ys
 | _,_,_,.nil,.nil=>rfl
 | _,_,_,.cons r t,.cons r' t'=>by rw[r.inj r',Vals.inj t t']
section
variable {X:Cx}{pins:List (Addr×Obj)}{σ:St}{H:Hp}{s:Shared}{a:Addr}{xs ys:List V}
theorem SqL.of{K:PySem.W.Frag}(h:H a=some (.lst xs)):SqL K H a xs := .inl (.inl h)
theorem SqT.of{K:PySem.W.Frag}(h:H a=some (.tup xs)):SqT K H a xs := .inl (.inl h)
theorem Inv.list(I:Inv X pins σ H s)(h:SqL X.K H a xs):∃ its:List Value,Vals xs its/\PlainL s.heap a its.toArray/\xs.length<=sizeLine:=by
 rcases h with h | ⟨o,its,n,hk,hc,hd,hs,hz,r⟩
 · obtain⟨z,its,n,r,e⟩:=h.ok I.hok
   exact⟨its,r,⟨_,n,e,rfl,rfl,rfl⟩,z⟩
 · refine⟨its.toList,r,⟨o,n,I.kIn a o hk,hc,hd,by simpa using hs⟩,?_⟩
   have e:=r.length
   simp only[jT]at e
   omega
theorem Inv.tuple(I:Inv X pins σ H s)(h:SqT X.K H a xs):∃ its:List Value,Vals xs its/\IsTup s.heap a its.toArray/\xs.length<=sizeLine:=by
 rcases h with h | ⟨o,its,n,hk,hc,hs,hz,r⟩
 · obtain⟨z,its,r,p⟩:=h.ok I.hok
   exact⟨its,r,p,z⟩
 · refine⟨its.toList,r,⟨o,I.kIn a o hk,hc,n,by simpa using hs⟩,?_⟩
   have e:=r.length
   simp only[jT]at e
   omega
theorem Inv.list_inj(I:Inv X pins σ H s)(h:SqL X.K H a xs)(h':SqL X.K H a ys):xs=ys:=by
 obtain⟨its,r,⟨o,n,e,_,_,d⟩,_⟩:=I.list h
 obtain⟨its',r',⟨o',n',e',_,_,d'⟩,_⟩:=I.list h'
 rw[e]at e';cases e'
 rw[d]at d'
 injection d' with d1 _
 have:its=its':=by simpa using congrArg Array.toList d1
 subst this
 exact r.inj r'
theorem Inv.tuple_inj(I:Inv X pins σ H s)(h:SqT X.K H a xs)(h':SqT X.K H a ys):xs=ys:=by
 obtain⟨its,r,⟨o,e,_,n,d⟩,_⟩:=I.tuple h
 obtain⟨its',r',⟨o',e',_,n',d'⟩,_⟩:=I.tuple h'
 rw[e]at e';cases e'
 rw[d]at d'
 injection d' with d1 _
 have:its=its':=by simpa using congrArg Array.toList d1
 subst this
 exact r.inj r'
end
abbrev Cx.wish(X:Cx)(E:Value->Shared->Prop):Cx:={ X with xe:=E }
abbrev Cx.nox(X:Cx):Cx:=X.wish fun _ _=>False
theorem Cx.Ok.wish{X:Cx}(ok:X.Ok)(E:Value->Shared->Prop):(X.wish E).Ok :=
 ⟨ok.mod,ok.kind,ok.glob,ok.blt,ok.above,ok.inj,ok.has,ok.cab,ok.hd,ok.frames,ok.stk,ok.exf,ok.bs,ok.bsz,ok.noex,ok.exfs,ok.funs,ok.frf⟩
theorem Cx.Ok.unwish{X:Cx}{E:Value->Shared->Prop}(ok:(X.wish E).Ok):X.Ok :=
 ⟨ok.mod,ok.kind,ok.glob,ok.blt,ok.above,ok.inj,ok.has,ok.cab,ok.hd,ok.frames,ok.stk,ok.exf,ok.bs,ok.bsz,ok.noex,ok.exfs,ok.funs,ok.frf⟩
section
variable {X:Cx}{pins:List (Addr×Obj)}{σ:St}{H:Hp}{s:Shared}{E:Value->Shared->Prop}
theorem Inv.wish(I:Inv X pins σ H s)(E:Value->Shared->Prop):Inv (X.wish E) pins σ H s:=⟨I.ok.wish E,I.os,I.bare,I.base,I.loc,I.cell,I.free,I.freeC,I.pin,I.hok,I.len⟩
theorem Inv.unwish(I:Inv (X.wish E) pins σ H s):Inv X pins σ H s:=⟨I.ok.unwish,I.os,I.bare,I.base,I.loc,I.cell,I.free,I.freeC,I.pin,I.hok,I.len⟩
theorem SP.unwish{D:Ends}{f:Flow}{s':Shared}(h:SP (X.wish E) pins D f s'):SP X pins D f s':=by
 cases f with
 | next=>obtain⟨σ',H',I,q⟩:=h;exact⟨σ',H',I.unwish,q⟩
 | brk=>obtain⟨σ',H',I,q⟩:=h;exact⟨σ',H',I.unwish,q⟩
 | cont=>obtain⟨σ',H',I,q⟩:=h;exact⟨σ',H',I.unwish,q⟩
 | ret u=>obtain⟨v,σ',H',I,r,q⟩:=h;exact⟨v,σ',H',I.unwish,r,q⟩
theorem PSs.nox{st:List Stmt}{t:TS}(h:PSs X.nox st t):PSs X st t:=fun pins s σ H D I hw =>
 wpAny_mono (h pins s σ H D (I.wish _) hw) (fun _ _ q=>q.unwish) fun _ _ z=>False.elim z
end
section
variable {X:Cx}{st:Stmt}{rest:List Stmt}{t u:TS}{e:Expr}{te:TE}{pos:Pos}
def y9o:TS:=fun D σ H=>D.nx σ H
def y4L(t u:TS):TS:=fun D σ H=>t { D with nx:=u D } σ H
theorem z0m:PSs X [] y9o:=fun _ _ σ H _ I h=>wpAny_execs_nil ⟨σ,H,I,h⟩
theorem z0b(h1:PS X st t)(h2:PSs X rest u):PSs X (st :: rest) (y4L t u):=by
 intro pins s σ H D I h
 refine wpAny_execs_cons (thn (h1 pins s σ H { D with nx:=u D } I h) fun f s1 q=>?_)
 cases f with
 | next =>
  obtain⟨σ',H',I',q⟩:=q
  exact h2 pins s1 σ' H' D I' q
 | ret v=>exact q
 | brk=>exact q
 | cont=>exact q
theorem z0g(h1:PS X st t):PSs X [st] t:=by
 intro pins s σ H D I h
 refine wpAny_execs_cons (thn (h1 pins s σ H D I h) fun f s1 q=>?_)
 cases f with
 | next=>exact wpAny_execs_nil q
 | ret v=>exact q
 | brk=>exact q
 | cont=>exact q
theorem Inv.quiet{pins:List (Addr×Obj)}{σ:St}{H:Hp}{s:Shared}(I:Inv X pins σ H s):interactive X.env=false:=by simp[interactive,I.ok.kind]
def x0M(te:TE):TS:=fun D σ H=>te σ H fun _ H1=>D.nx σ H1
theorem z3b(he:PE X e te)(hs:swapsWith e none pos.line X.env=pure false:=by rfl):PS X (.Expr e pos) (x0M te):=by
 intro pins s σ H D I h
 exact wpAny_Expr_any (thn (he pins s σ H _ I h) fun v s1 ⟨x,H1,I1,r1,q1⟩=>⟨σ,H1,I1,q1⟩) I.quiet hs
def y9n(te:TE):TS:=fun D σ H=>te σ H D.rt
theorem z0o(he:PE X e te):PS X (.Return (some e) pos) (y9n te):=by
 intro pins s σ H D I h
 exact wpAny_Return_some (thn (he pins s σ H _ I h) fun v s1 ⟨x,H1,I1,r1,q1⟩=>⟨x,σ,H1,I1,r1,q1⟩)
def y7m(c:TT)(t u:TS):TS:=fun D σ H=>c σ H fun b H1=>if b=true then t D σ H1 else u D σ H1
theorem z0B{c:Expr}{a b:List Stmt}{tc:TT}(hc:PT X c tc)(ha:PSs X a t)(hb:PSs X b u):PS X (.If c a b pos) (y7m tc t u):=by
 intro pins s σ H D I h
 refine wpAny_If (thn (hc pins s σ H _ I h) fun d s1 ⟨H1,I1,q1⟩=>?_)
 cases d with
 | true=>exact ha pins s1 σ H1 D I1 q1
 | false=>exact hb pins s1 σ H1 D I1 q1
def y9p:TS:=fun _ _ _=>False
theorem y0l:PS X st y9p:=fun _ _ _ _ _ _ h=>h.elim
end
abbrev TG:=V->St->Hp->(St->Hp->Prop)->Prop
abbrev TGs:=List V->St->Hp->(St->Hp->Prop)->Prop
def PG(X:Cx)(target:Expr)(t:TG):Prop :=
 ∀ (pins:List (Addr×Obj)) (s:Shared) (σ:St) (H:Hp) (v:V) (u:Value) (Q:St->Hp->Prop),Inv X pins σ H s->RelV v u->t v σ H Q ->
  wpAny (model X.prog X.w) X.A (assign target X.env u) (fun _ s'=>∃ σ' H',Inv X pins σ' H' s'/\Q σ' H') X.xe s
def PGs(X:Cx)(ts:List Expr)(t:TGs):Prop :=
 ∀ (pins:List (Addr×Obj)) (s:Shared) (σ:St) (H:Hp) (vs:List V) (us:List Value) (Q:St->Hp->Prop),Inv X pins σ H s->Vals vs us->t vs σ H Q ->
  wpAny (model X.prog X.w) X.A (assignInOrder ((assignEach ts X.env).map (·.2)) us) (fun _ s'=>∃ σ' H',Inv X pins σ' H' s'/\Q σ' H') X.xe s
abbrev TIp:=V->V->Hp->VK->Prop
def PIp(X:Cx)(op:Operator)(t:TIp):Prop :=
 ∀ (pins:List (Addr×Obj)) (s:Shared) (σ:St) (H:Hp) (x y:V) (v u:Value) (Q:VK),Inv X pins σ H s->RelV x v->RelV y u->t x y H Q ->
  wpAny (model X.prog X.w) X.A (inplaceOp op v u) (EP X pins σ Q) X.xe s
section
variable {X:Cx}{pos:Pos}
def z1g(i:Nat):TG:=fun v σ H Q=>Q (σ.set i (some v)) H
theorem z0E{i:Nat}{x:Str}(hN:X.N.Nodup)(hi:X.N[i]? = some x)(hx:Loc X.env.scope x)(hf:X.fn x=true\/X.env.scope.names.lookup x=some .local:=by first | exact .inl rfl | exact .inr rfl | assumption):PG X (.Name x pos) (z1g i):=by
 intro pins s σ H v u Q I r h
 exact wpAny_assign_Name (z4a I hN hi hx r (fun s' I'=>⟨_,H,I',h⟩) hf)
def x1t:TGs:=fun vs σ H Q=>vs=[]/\Q σ H
def y8y(t:TG)(u:TGs):TGs:=fun vs σ H Q=>∃ v r,vs=v :: r/\t v σ H fun σ' H'=>u r σ' H' Q
theorem z8Z:PGs X [] x1t:=by
 intro pins s σ H vs us Q I r h
 obtain⟨e,h⟩:=h
 subst e
 cases r
 exact assignInOrder_nil ⟨σ,H,I,h⟩
theorem z2M{e:Expr}{es:List Expr}{t:TG}{u:TGs}(h1:PG X e t)(h2:PGs X es u)
 (hs:(assignEach (e :: es) X.env).map (·.2)=assign e X.env :: (assignEach es X.env).map (·.2):=by rfl):PGs X (e :: es) (y8y t u):=by
 intro pins s σ H vs us Q I r h
 obtain⟨v,vr,e1,h⟩:=h
 subst e1
 cases r with
 | cons r rr =>
  rw[hs]
  refine assignInOrder_cons (thn (h1 pins s σ H _ _ _ I r h) fun _ s1 ⟨σ1,H1,I1,q1⟩=>?_)
  exact h2 pins s1 σ1 H1 _ _ Q I1 rr q1
def x1s(K:PySem.W.Frag)(n:Nat)(t:TGs):TG:=fun v σ H Q=>∃ a xs,v = .ref a/\SqT K H a xs/\xs.length=n/\t xs σ H Q
theorem y3k{es:List Expr}{k:Nat}{t:TGs}{n:Nat}(hc:X.calm=true)(h:PGs X es t)
 (hn:(assignEach es X.env).length=n:=by rfl) (hst:(assignEach es X.env).findIdx? (·.1)=none:=by rfl):PG X (.Tuple es k pos) (x1s X.K n t):=by
 intro pins s σ H v u Q I r hw
 obtain⟨a,xs,e1,hq,hl,hw⟩:=hw
 subst e1
 cases r
 obtain⟨its,rv,ht,hz⟩:=I.tuple hq
 refine assign_Tuple_tuple (I.ok.hd hc) ht (by simp[hn,<- hl,rv.length]) hst fun h' hx=>?_
 have I1:Inv X pins σ H { s with heap:=h' }:=I.kept (t':=s.toks) fun b o e=>hx b o (jS (jG e)) e
 exact h pins _ σ H xs _ Q I1 (by simpa using rv) hw
def y2p(te:TE)(g:TG):TS:=fun D σ H=>te σ H fun x H1=>g x σ H1 D.nx
theorem y9J{tg e:Expr}{te:TE}{g:TG}(he:PE X e te)(hg:PG X tg g)(hs:swapsWithSole [tg] e pos.line X.env=pure false:=by rfl)(hw:swappedStores [tg] e X.env=pure none:=by rfl)
 (h1:(assignEach [tg] X.env).map (·.2)=[assign tg X.env]:=by rfl):PS X (.Assign [tg] e pos) (y2p te g):=by
 intro pins s σ H D I h
 refine wpAny_Assign_stores (thn (he pins s σ H _ I h) fun v s1 ⟨x,H1,I1,r1,q1⟩=>?_) hs hw
 rw[h1]
 exact thn (hg pins s1 σ H1 x v _ I1 r1 q1) fun _ s2 q=>q
theorem z0t{i:Nat}{x:Str}{e:Expr}{te:TE}{pos':Pos}(hN:X.N.Nodup)(hi:X.N[i]? = some x)(hx:Loc X.env.scope x)(he:PE X e te)(hs:swapsWith e (some (.Name x pos')) pos.line X.env=pure false:=by rfl)(hf:X.fn x=true\/X.env.scope.names.lookup x=some .local:=by first | exact .inl rfl | exact .inr rfl | assumption) :
 PS X (.Assign [.Name x pos'] e pos) (y2p te (z1g i)):=by
 intro pins s σ H D I h
 refine wpAny_Assign_Name (thn (he pins s σ H _ I h) fun v s1 ⟨y,H1,I1,r1,q1⟩=>?_) hs
 exact z4a I1 hN hi hx r1 (fun s2 I2=>⟨_,H1,I2,q1⟩) hf
def x1x(i j:Nat)(ta:TA):TS:=fun D σ H=>ta σ H fun vs H1=>∃ v w,vs=[v,w]/\D.nx ((σ.set i (some v)).set j (some w)) H1
theorem y9H{i j:Nat}{x y:Str}{a b:Expr}{ta:TA}{px py pt:Pos}{kt k2 pt2}(hc:X.calm=true)(hN:X.N.Nodup)(hi:X.N[i]? = some x)(hj:X.N[j]? = some y)(hij:i≠j)
 (hx:X.env.scope.names.lookup x=some .local) (hy:X.env.scope.names.lookup y=some .local) (ha:PA X [a,b] ta)
 (hw:swappedStores [.Tuple [.Name x px,.Name y py] kt pt] (.Tuple [a,b] k2 pt2) X.env=pure (some [x,y]))
 (hs:swapsWithSole [.Tuple [.Name x px,.Name y py] kt pt] (.Tuple [a,b] k2 pt2) pos.line X.env=pure false:=by rfl) :
 PS X (.Assign [.Tuple [.Name x px,.Name y py] kt pt] (.Tuple [a,b] k2 pt2) pos) (x1x i j ta):=by
 intro pins s σ H D I h
 rw[exec_Assign_arm]
 refine wpAny_bind (wpAny_standAt ?_)
 rw[hs]
 refine wpAny_bind (wpAny_pure ?_)
 rw[if_neg (by decide)]
 refine wpAny_bind (Tuple_ (thn (ha _ pins s σ H _ I h) fun us s1 ⟨vs,H1,I1,r1,q1⟩=>?_))
 obtain⟨v,w,e1,q1⟩:=q1
 subst e1
 obtain⟨u1,u2,rfl,rv,rw'⟩:∃ u1 u2,us=[u1,u2]/\RelV v u1/\RelV w u2:=by
  cases r1 with
  | cons p q =>
   cases q with
   | cons p' q' =>
    cases q'
    exact⟨_,_,rfl,p,p'⟩
 refine wpAny_newObj_type ?_ (by show 2<=sizeLine;decide)
 have I2:Inv X pins σ H1 { s1 with heap:=s1.heap.push { cls := .type "tuple",data := .seq [u1,u2].toArray } }:=I1.kept (t':=s1.toks) fun b o e=>jD _ e
 rw[hw]
 refine wpAny_bind (wpAny_pure ?_)
 show wpAny (model X.prog X.w) X.A (do rule "assign.swapped-stores";let items <- unpackItems (.ref s1.heap.objs.size) 2 none;assignInOrder [fun v=>bindName X.env y v,fun v=>bindName X.env x v] items.reverse;pure Flow.next) _ _ _
 refine wpAny_bind (wpAny_rule (wpAny_bind (unpackItems_tuple (items:=#[u1,u2]) (I.ok.hd hc) (IsTup.new s1.heap _) fun h' hx'=>?_)))
 have I3:=I2.kept (h':=h') (t':=s1.toks) fun b o e=>hx' b o (jS (jG e)) e
 show wpAny _ _ (assignInOrder [fun v=>bindName X.env y v,fun v=>bindName X.env x v] [u2,u1] >>= fun _=>pure Flow.next) _ _ _
 refine wpAny_bind (assignInOrder_cons (wpAny_bindName (z4a I3 hN hj (.inl hy) rw' (fun s2 I4=>?_) (.inr hy))))
 refine assignInOrder_cons (wpAny_bindName (z4a I4 hN hi (.inl hx) rv (fun s3 I5=>assignInOrder_nil (wpAny_pure ?_)) (.inr hx)))
 rw[List.set_comm _ _ (Ne.symm hij)]at I5
 exact⟨_,H1,I5,q1⟩
def x1A(i:Nat)(te:TE)(ti:TIp):TS:=fun D σ H=>∃ x,σ[i]? = some (some x)/\te σ H fun y H1=>ti x y H1 fun z H2=>D.nx (σ.set i (some z)) H2
theorem y9I{i:Nat}{x:Str}{e:Expr}{te:TE}{op:Operator}{ti:TIp}{pos':Pos}(hN:X.N.Nodup)(hi:X.N[i]? = some x)(hx:Loc X.env.scope x)(he:PE X e te)(ho:PIp X op ti)(hf:X.fn x=true\/X.env.scope.names.lookup x=some .local:=by first | exact .inl rfl | exact .inr rfl | assumption) :
 PS X (.AugAssign (.Name x pos') op e pos) (x1A i te ti):=by
 intro pins s σ H D I h
 obtain⟨v,e1,h⟩:=h
 obtain⟨m,hn,hl⟩:=I.loc
 have vis:Vis X.env.scope x:=by rcases hx with k | k;exact .inl k;exact .inr (.inl k)
 obtain⟨u,r,l⟩:=hl i x v hi e1 vis
 refine wpAny_AugAssign_Name ?_
 have go:wpAny (model X.prog X.w) X.A (eval e X.env) (fun w s₂=>wpAny (model X.prog X.w) X.A (inplaceOp op u w) (fun r s₃=>wpAny (model X.prog X.w) X.A (storeName X.env x r) (fun _=>SP X pins D .next) X.xe s₃) X.xe s₂) X.xe s:=by
  refine thn (he pins s σ H _ I h) fun w s1 ⟨y,H1,I1,r1,q1⟩=>?_
  refine thn (ho pins s1 σ H1 v y u w _ I1 r r1 q1) fun z s2 ⟨zv,H2,I2,r2,q2⟩=>?_
  exact z4a I2 hN hi hx r2 (fun s3 I3=>⟨_,H2,I3,q2⟩) hf
 rcases l with ⟨hk,hm⟩ | ⟨hk,c,hc,hcell⟩
 · exact wpAny_loadName_local I.ok.kind hk hn hm go
 · rcases hk with hk | hk
   · exact wpAny_loadName_cell I.ok.kind hk hc hcell go
   · rcases hx with k | k
     · have:X.env.scope.names.lookup x=some .free:=hk
       rw[k]at this;cases this
     · have:X.env.scope.names.lookup x=some .free:=hk
       rw[k]at this;cases this
end
section
variable {X:Cx}{pos:Pos}
def y6p(c:TT)(tb:TS):TS:=fun D σ H=>∃ W:Nat->St->Hp->Prop,(∃ m,W m σ H)/\∀ m σ H,W m σ H ->
 c σ H fun b H1=>if b=true then ∃ N:St->Hp->Prop,(∀ σ' H',N σ' H'->∃ m',m' < m/\W m' σ' H')/\tb { D with nx:=N,ct:=N,bk:=D.nx } σ H1 else D.nx σ H1
theorem y0j{c:Expr}{body:List Stmt}{tc:TT}{tb:TS}(hp:PassesOwn (model X.prog X.w) X.A X.env X.xe)(hc:PT X c tc)(hb:PSs X body tb):PS X (.While c body [] pos) (y6p tc tb):=by
 intro pins s σ H D I h
 obtain⟨W,⟨m0,w0⟩,turn⟩:=h
 refine wpAny_While (codeAny_whileLoop (fun n s'=>∃ σ' H',Inv X pins σ' H' s'/\W n σ' H') ?_ m0 ⟨σ,H,I,w0⟩)
 rintro n s1 ⟨σ1,H1,I1,w1⟩
 refine wpAny_passesOwn hp (thn (hc pins s1 σ1 H1 _ I1 (turn n σ1 H1 w1)) fun b s2 ⟨H2,I2,q2⟩=>?_)
 cases b with
 | true =>
  obtain⟨N,hN,q2⟩:=q2
  rw[if_pos rfl]
  refine wpAny_passesOwn hp (thn (hb pins s2 σ1 H2 _ I2 q2) fun f s3 q3=>?_)
  cases f with
  | next =>
   obtain⟨σ3,H3,I3,n3⟩:=q3
   obtain⟨m',hm,w3⟩:=hN σ3 H3 n3
   exact⟨m',hm,σ3,H3,I3,w3⟩
  | cont =>
   obtain⟨σ3,H3,I3,n3⟩:=q3
   obtain⟨m',hm,w3⟩:=hN σ3 H3 n3
   exact⟨m',hm,σ3,H3,I3,w3⟩
  | brk=>exact q3
  | ret v=>exact q3
 | false =>
  rw[if_neg jN]
  exact wpAny_execs_nil ⟨σ1,H2,I2,q2⟩
end
structure It where
 go:Nat->Hp->Prop
 yld:Nat->Hp->V->Hp->Prop
 stop:Nat->Hp->Prop
def FpOk(X:Cx)(pins:List (Addr×Obj))(H:Hp)(b:Addr):Prop :=
 H b=none/\b≠X.env.locals/\b∉X.fs/\(b∈X.ex\/X.s₀.heap.objs.size<=b)/\(∀ x c,X.env.cells.lookup x=some c->c≠b)/\∀ p∈X.pn ++ pins,p.1≠b
theorem Inv.fpOk{X:Cx}{pins:List (Addr×Obj)}{σ:St}{H H':Hp}{s:Shared}{b:Addr}(I:Inv X pins σ H s)(hb:s.heap.objs.size<=b)(hn:H' b=none):FpOk X pins H' b:=by
 refine⟨hn,jn (jW I.lt hb),I.nofs hb,.inr (jc I.sz hb),fun x c e z=>?_,fun p hp z=>?_⟩
 · obtain⟨v,q⟩:=I.cell x c e
   exact absurd (jW q.lt (by rw[z];exact hb)) (jr _)
 · exact absurd (jW (jG (I.pin p hp).1) (by rw[z];exact hb)) (jr _)
structure Turn (P:Program) (w:World) (K:PySem.W.Frag) (tg:Expr) (J:It) (fp:List Addr) (it:Addr) (tn:Nat->Heap->Prop):Prop where
 mem:it∈fp
 obj:∀ i h,tn i h->∀ b∈fp,∃ o,h.get? b=some o/\∀ v,o.data ≠ .cell v
 keep:∀ i h h',tn i h->(∀ b∈fp,∀ o,h.get? b=some o->h'.get? b=some o)->tn i h'
 item:∀ (X:Cx),X.prog=P->X.w=w->X.K=K->X.calm=true->∀ (i:Nat) (pins:List (Addr×Obj)) (s:Shared) (σ:St) (H:Hp) (E:Value->Shared->Prop),Inv X pins σ H s->(∀ b∈fp,FpOk X pins H b)->tn i s.heap->J.go i H ->
  wpAny (model P w) X.A (pyNext (.ref it)) (fun r s1=>∃ u,r=some u /\
   wpAny (model P w) X.A (letOwnedTupleGo tg (.ref it) u) (fun _ s2=>∃ x H',Inv X pins σ H' s2/\RelV x u/\J.yld i H x H'/\tn (i + 1) s2.heap/\∀ b∈fp,H' b=none) E s1) E s
 done:∀ (X:Cx),X.prog=P->X.w=w->X.K=K->X.calm=true->∀ (i:Nat) (pins:List (Addr×Obj)) (s:Shared) (σ:St) (H:Hp) (E:Value->Shared->Prop),Inv X pins σ H s->(∀ b∈fp,FpOk X pins H b)->tn i s.heap->J.stop i H ->
  wpAny (model P w) X.A (pyNext (.ref it)) (fun r s1=>r=none/\Inv X pins σ H s1) E s
 self:∀ (A:Around) (i:Nat) (s:Shared) (Q:Value->Shared->Prop) (E:Value->Shared->Prop),tn i s.heap->Q (.ref it) s->wpAny (model P w) A (pyIter (.ref it)) Q E s
abbrev TI:=St->Hp->(It->Hp->Prop)->Prop
def PIE(X:Cx)(pins:List (Addr×Obj))(σ:St)(tg:Expr)(R:It->Hp->Prop)(itv:Value)(s2:Shared):Prop :=
 ∃ (it:Addr) (fp:List Addr) (tn:Nat->Heap->Prop) (J:It) (H':Hp),itv = .ref it/\Inv X pins σ H' s2/\Turn X.prog X.w X.K tg J fp it tn/\tn 0 s2.heap/\(∀ b∈fp,FpOk X pins H' b)/\R J H'
def PI(X:Cx)(tg iter:Expr)(wi:TI):Prop :=
 ∀ (pins:List (Addr×Obj)) (s:Shared) (σ:St) (H:Hp) (R:It->Hp->Prop),Inv X pins σ H s->wi σ H R ->
  wpAny (model X.prog X.w) X.A (eval iter X.env) (fun v s1=>wpAny (model X.prog X.w) X.A (pyIter v) (PIE X pins σ tg R) X.xe s1) X.xe s
theorem y8w{M:Model}{A:Around}{E:Value->Shared->Prop}{s:Shared}{tg:Expr}{it:Addr}{u:Value}{o:Obj}{n:String}{vs:Array Value}{Q:Unit->Shared->Prop}(ho:s.heap.get? it=some o)(hc:o.cls = .type n)(hd:o.data = .fields vs)
 (hn:["enumerate", "zip", "dict_itemiterator", "dict_reverseitemiterator", "odict_iterator", "itertools.zip_longest", "itertools.pairwise"].contains n=false) (hQ:Q () s):wpAny M A (letOwnedTupleGo tg (.ref it) u) Q E s:=by
 unfold letOwnedTupleGo
 cases tg <;> first
  | exact wpAny_pure hQ
  | (cases u <;> first
   | exact wpAny_pure hQ
   | (refine wpAny_bind (wpAny_load ho ?_)
      rw[hc,hd]
      show wpAny M A (if (["enumerate", "zip", "dict_itemiterator", "dict_reverseitemiterator", "odict_iterator", "itertools.zip_longest", "itertools.pairwise"].contains n && vs[0]? == some (rawInt _))=true then _ else _) Q E s
      rw[if_neg (by intro h;rw[hn,Bool.false_and]at h;cases h)]
      exact wpAny_pure hQ))
def Itl(K:PySem.W.Frag)(a:Addr):It :=
 ⟨fun i H=>∃ xs x,SqL K H a xs/\xs[i]? = some x,fun i H x H'=>H'=H/\∀ xs,SqL K H a xs->xs[i]? = some x,fun i H=>∃ xs,SqL K H a xs/\xs.length<=i⟩
def Itt(K:PySem.W.Frag)(a:Addr):It :=
 ⟨fun i H=>∃ xs x,SqT K H a xs/\xs[i]? = some x,fun i H x H'=>H'=H/\∀ xs,SqT K H a xs->xs[i]? = some x,fun i H=>∃ xs,SqT K H a xs/\xs.length<=i⟩
def Itr(lo:Int)(n:Nat):It:=⟨fun i _=>i < n,fun i H x H'=>H'=H/\x = .int (lo + i),fun i _=>n<=i⟩
theorem y2n{P:Program}{w:World}{K:PySem.W.Frag}{tg:Expr}(a it:Addr):Turn P w K tg (Itl K a) [it] it (fun i h=>h.IsListIter it a i) where
 mem:=by simp
 obj:=fun i h st b hb=>by
  have e:b=it:=by simpa using hb
  subst e
  obtain⟨o,e,c,d⟩:=st
  exact⟨o,e,fun v z=>by rw[d]at z;cases z⟩
 keep:=fun i h h' st k=>st.at fun o e=>k it (by simp) o e
 item:=by
  intro X hP hw hK hc i pins s σ H E I hf st hg
  subst hP hw hK
  obtain⟨xs,x,hq,hx⟩:=hg
  obtain⟨its,rv,p,hz⟩:=I.list hq
  obtain⟨u,hu,ru⟩:=rv.get hx
  obtain⟨f0,f1,f2,f3,f4,f5⟩:=hf it (by simp)
  refine wpAny_pyNext_list_item st p.isList (x:=u) (by simpa using hu) fun h' st' sb=>?_
  have I1:Inv X pins σ H { s with heap:=h' }:=I.turned (t':=s.toks) (fun b o hb e=>(sb.2 b hb).trans e) f0 f1 f3 f4 f5
  obtain⟨o,e,c,d⟩:=id st'
  exact⟨u,rfl,y8w (s:={ s with heap:=h' }) e c d (by decide) ⟨x,H,I1,ru,⟨rfl,fun ys hy=>by rw[I.list_inj hy hq];exact hx⟩,st',fun b hb=>(hf b hb).1⟩⟩
 done:=by
  intro X hP hw hK hc i pins s σ H E I hf st hg
  subst hP hw hK
  obtain⟨xs,hq,hx⟩:=hg
  obtain⟨its,rv,p,hz⟩:=I.list hq
  obtain⟨f0,f1,f2,f3,f4,f5⟩:=hf it (by simp)
  have hl:=rv.length
  exact wpAny_pyNext_list_end (I.ok.hd hc) st p.isList (by simp;omega) fun h' eb=>⟨rfl,I.turned (t':=s.toks) (fun b o hb e=>eb b o hb e) f0 f1 f3 f4 f5⟩
 self:=fun _ _ _ _ _ st h=>wpAny_pyIter_listiter st h
theorem y1i{P:Program}{w:World}{K:PySem.W.Frag}{tg:Expr}(a it:Addr):Turn P w K tg (Itt K a) [it] it (fun i h=>h.IsTupleIter it a i) where
 mem:=by simp
 obj:=fun i h st b hb=>by
  have e:b=it:=by simpa using hb
  subst e
  obtain⟨o,e,c,d⟩:=st
  exact⟨o,e,fun v z=>by rw[d]at z;cases z⟩
 keep:=fun i h h' st k=>st.at fun o e=>k it (by simp) o e
 item:=by
  intro X hP hw hK hc i pins s σ H E I hf st hg
  subst hP hw hK
  obtain⟨xs,x,hq,hx⟩:=hg
  obtain⟨its,rv,p,hz⟩:=I.tuple hq
  obtain⟨u,hu,ru⟩:=rv.get hx
  obtain⟨f0,f1,f2,f3,f4,f5⟩:=hf it (by simp)
  refine wpAny_pyNext_tuple_item st (show s.heap.IsTuple a its.toArray from p) (x:=u) (by simpa using hu) fun h' st' sb=>?_
  have I1:Inv X pins σ H { s with heap:=h' }:=I.turned (t':=s.toks) (fun b o hb e=>(sb.2 b hb).trans e) f0 f1 f3 f4 f5
  obtain⟨o,e,c,d⟩:=id st'
  exact⟨u,rfl,y8w (s:={ s with heap:=h' }) e c d (by decide) ⟨x,H,I1,ru,⟨rfl,fun ys hy=>by rw[I.tuple_inj hy hq];exact hx⟩,st',fun b hb=>(hf b hb).1⟩⟩
 done:=by
  intro X hP hw hK hc i pins s σ H E I hf st hg
  subst hP hw hK
  obtain⟨xs,hq,hx⟩:=hg
  obtain⟨its,rv,p,hz⟩:=I.tuple hq
  obtain⟨f0,f1,f2,f3,f4,f5⟩:=hf it (by simp)
  have hl:=rv.length
  exact wpAny_pyNext_tuple_end (I.ok.hd hc) st (show s.heap.IsTuple a its.toArray from p) (by simp;omega) fun h' eb=>⟨rfl,I.turned (t':=s.toks) (fun b o hb e=>eb b o hb e) f0 f1 f3 f4 f5⟩
 self:=fun _ _ _ _ _ st h=>wpAny_pyIter_tupleiter st h
theorem y1j{P:Program}{w:World}{K:PySem.W.Frag}{tg:Expr}(it:Addr)(lo:Int)(n:Nat):Turn P w K tg (Itr lo n) [it] it (fun i h=>IsRangeIter h it (lo + (i:Nat) * 1) ((n:Int) - (i:Nat)) 1) where
 mem:=by simp
 obj:=fun i h st b hb=>by
  have e:b=it:=by simpa using hb
  subst e
  exact⟨_,st,fun v z=>by
   have z':Data.fields _=Data.cell v:=z
   cases z'⟩
 keep:=fun i h h' st k=>k it (by simp) _ st
 item:=by
  intro X hP hw hK hc i pins s σ H E I hf st hg
  subst hP hw hK
  obtain⟨f0,f1,f2,f3,f4,f5⟩:=hf it (by simp)
  have W:=Walks.range (prog:=X.prog) (w:=X.w) (I.ok.hd hc) it lo 1 n
  refine W.item i s _ _ hg st fun v h' tk hv st' kk=>?_
  obtain⟨t,rfl⟩:=hv
  have I1:Inv X pins σ H { s with heap:=h',toks:=tk }:=I.turned (fun b o hb e=>kk b o (by simpa using hb) e) f0 f1 f3 f4 f5
  refine⟨_,rfl,y8w (s:={ s with heap:=h',toks:=tk }) (n := "range_iterator") st' rfl rfl (by decide) ⟨.int (lo + i),H,I1,⟨t,?_⟩,⟨rfl,rfl⟩,st',fun b hb=>(hf b hb).1⟩⟩
  rw[Int.mul_one]
 done:=by
  intro X hP hw hK hc i pins s σ H E I hf st hg
  subst hP hw hK
  obtain⟨f0,f1,f2,f3,f4,f5⟩:=hf it (by simp)
  exact wpAny_pyNext_range_end (I.ok.hd hc) st (by have:n<=i:=hg;omega) fun h' eb=>⟨rfl,I.turned (t':=s.toks) (fun b o hb e=>eb b o hb e) f0 f1 f3 f4 f5⟩
 self:=fun _ _ _ _ _ st h=>wpAny_pyIter_rangeiter st h
section
variable {X:Cx}{tg:Expr}
def x0V(K:PySem.W.Frag)(tl:TE):TI:=fun σ H R=>tl σ H fun x H1=>∃ a,x = .ref a/\(∃ xs,SqL K H1 a xs)/\R (Itl K a) H1
def x1G(K:PySem.W.Frag)(tl:TE):TI:=fun σ H R=>tl σ H fun x H1=>∃ a,x = .ref a/\(∃ xs,SqT K H1 a xs)/\R (Itt K a) H1
theorem z0C{l:Expr}{tl:TE}(hl:PE X l tl):PI X tg l (x0V X.K tl):=by
 intro pins s σ H R I h
 refine thn (hl pins s σ H _ I h) fun v s1 ⟨x,H1,I1,r1,q1⟩=>?_
 obtain⟨a,e,⟨xs,hq⟩,q⟩:=q1
 subst e
 cases r1
 obtain⟨its,rv,p,hz⟩:=I1.list hq
 refine wpAny_pyIter_list p.isList ?_
 refine⟨s1.heap.objs.size,[s1.heap.objs.size],_,_,H1,rfl,I1.kept (t':=s1.toks) fun b o e=>jD _ e,y2n a _,⟨_,jK _ rfl,rfl,rfl⟩,fun b hb=>?_,q⟩
 have e:b=s1.heap.objs.size:=by simpa using hb
 subst e
 exact I1.fpOk (jF _) (I1.hok.fresh (jF _))
theorem z6n{l:Expr}{tl:TE}(hl:PE X l tl):PI X tg l (x1G X.K tl):=by
 intro pins s σ H R I h
 refine thn (hl pins s σ H _ I h) fun v s1 ⟨x,H1,I1,r1,q1⟩=>?_
 obtain⟨a,e,⟨xs,hq⟩,q⟩:=q1
 subst e
 cases r1
 obtain⟨its,rv,p,hz⟩:=I1.tuple hq
 refine wpAny_pyIter_tuple (show s1.heap.IsTuple a its.toArray from p) ?_
 refine⟨s1.heap.objs.size,[s1.heap.objs.size],_,_,H1,rfl,I1.kept (t':=s1.toks) fun b o e=>jD _ e,y1i a _,⟨_,jK _ rfl,rfl,rfl⟩,fun b hb=>?_,q⟩
 have e:b=s1.heap.objs.size:=by simpa using hb
 subst e
 exact I1.fpOk (jF _) (I1.hok.fresh (jF _))
theorem y5k{pins:List (Addr×Obj)}{σ:St}{H:Hp}{s:Shared}{R:It->Hp->Prop}{E:Value->Shared->Prop}{lo hi:Int}{t u v:Tok}{tk:Nat}(I:Inv X pins σ H s)(h1 : -(2 ^ 62)<=lo)(h2:lo < 2 ^ 62)(h3 : -(2 ^ 62)<=hi)(h4:hi < 2 ^ 62)
 (q:R (Itr lo (hi - lo).toNat) H):wpAny (model X.prog X.w) X.A (pyIter (.ref s.heap.objs.size)) (PIE X pins σ tg R) E { s with heap:=s.heap.push { cls := .type "range",data := .fields #[.int lo t,.int hi u,.int 1 v] },toks:=tk }:=by
 refine wpAny_pyIter_range (IsRange.new ..) (small_one h1 h2 h3 h4) ?_
 have I1:Inv X pins σ H { s with heap:=s.heap.push { cls := .type "range",data := .fields #[.int lo t,.int hi u,.int 1 v] },toks:=tk }:=I.kept fun b o e=>jD _ e
 refine⟨(s.heap.push { cls := .type "range",data := .fields #[.int lo t,.int hi u,.int 1 v] }).objs.size,[(s.heap.push { cls := .type "range",data := .fields #[.int lo t,.int hi u,.int 1 v] }).objs.size],_,_,H,rfl,
  I1.kept (t':=tk) fun b o e=>jD _ e,y1j _ lo (hi - lo).toNat,?_,fun b hb=>?_,q⟩
 · have e1:lo + ((0:Nat):Int) * 1=lo:=by simp
   have e2:(((hi - lo).toNat:Nat):Int) - ((0:Nat):Int)=Builtin.Range.rangeSize lo hi 1:=by rw[rangeSize_one];split <;> omega
   show IsRangeIter _ _ (lo + ((0:Nat):Int) * 1) ((((hi - lo).toNat:Nat):Int) - ((0:Nat):Int)) 1
   rw[e1,e2]
   exact jK _ rfl
 · have e:b=(s.heap.push { cls := .type "range",data := .fields #[.int lo t,.int hi u,.int 1 v] }).objs.size:=by simpa using hb
   subst e
   exact I1.fpOk (jF _) (I1.hok.fresh (jF _))
def x0U(ta:TA):TI:=fun σ H R=>ta σ H fun vs H1=>∃ j:Int,vs=[.int j] /\ -(2 ^ 62)<=j/\j < 2 ^ 62/\R (Itr 0 j.toNat) H1
theorem z2z{a:Expr}{ta:TA}{p pos:Pos}(hg:Gl X "range")(hm:X.mg "range" = none)(ha:PA X [a] ta)(hs:starEach [a] X.env=[(false,eval a X.env)]:=by rfl):PI X tg (.Call (.Name "range" p) [a] [] pos) (x0U ta):=by
 intro pins s σ H R I h
 refine Call_ (z3g I hg hm boot_range (PyProof.Rows.callWith_type1 (thn (ha pos pins s σ H _ I h) fun us s1 ⟨vs,H1,I1,r1,q1⟩=>?_) hs rfl))
 obtain⟨j,e,q1,q2,q⟩:=q1
 subst e
 cases r1 with
 | cons r rr =>
  cases rr
  obtain⟨t,rfl⟩:=r
  exact call_range_1 (y5k I1 (by omega) (by omega) q1 q2 (by simpa using q))
def x1i(wi:TI)(g:TG)(tb:TS):TS:=fun D σ H=>wi σ H fun J H1=>∃ W:Nat->Nat->St->Hp->Prop,(∃ m,W 0 m σ H1)/\∀ i m σ H,W i m σ H ->
 (J.stop i H/\D.nx σ H)\/(J.go i H/\∃ N:St->Hp->Prop,(∀ σ' H',N σ' H'->∃ m',m' < m/\W (i + 1) m' σ' H')/\∀ x H',J.yld i H x H'->g x σ H' fun σ2 H2=>tb { D with nx:=N,ct:=N,bk:=D.nx } σ2 H2)
def z6m(fp:List Addr)(h:Heap):List (Addr×Obj):=fp.filterMap fun b=>(h.get? b).map fun o=>(b,o)
theorem z1S{fp:List Addr}{h:Heap}{b:Addr}{o:Obj}(hb:b∈fp)(e:h.get? b=some o):(b,o)∈z6m fp h:=List.mem_filterMap.mpr ⟨b,hb,by rw[e];rfl⟩
theorem y3u{fp:List Addr}{h:Heap}{p:Addr×Obj}(hp:p∈z6m fp h):p.1∈fp/\h.get? p.1=some p.2:=by
 obtain⟨b,hb,e⟩:=List.mem_filterMap.mp hp
 cases q:h.get? b with
 | none=>rw[q]at e;cases e
 | some o =>
  rw[q]at e
  have e':(b,o)=p:=Option.some.inj e
  subst e'
  exact⟨hb,q⟩
theorem Inv.pinned{pins:List (Addr×Obj)}{σ:St}{H:Hp}{s:Shared}{fp:List Addr}(I:Inv X pins σ H s)(hf:∀ b∈fp,FpOk X pins H b)(ho:∀ b∈fp,∃ o,s.heap.get? b=some o/\∀ v,o.data ≠ .cell v):Inv X (pins ++ z6m fp s.heap) σ H s :=
 I.pins_of fun p hp=>(ji.mp hp).elim (fun z=>I.pin p (ja _ z)) fun z=>by
  obtain⟨hb,e⟩:=y3u z
  obtain⟨f0,f1,f2,_⟩:=hf p.1 hb
  obtain⟨o,e',d⟩:=ho p.1 hb
  rw[e]at e';cases e'
  exact⟨e,f0,f1,f2,d⟩
theorem Inv.unpinned{pins pl:List (Addr×Obj)}{σ:St}{H:Hp}{s:Shared}(I:Inv X (pins ++ pl) σ H s):Inv X pins σ H s:=I.pins_of fun p hp=>I.pin p (ja _ (kO _ hp))
theorem z1q{iter:Expr}{body:List Stmt}{wi:TI}{g:TG}{tb:TS}{pos:Pos}(hp:PassesOwn (model X.prog X.w) X.A X.env X.xe)(hc:X.calm=true)(hi:PI X tg iter wi)(hg:PG X tg g)(hb:PSs X body tb)
 (hs:∀ x,foldedSetIterable iter X.env x=pure x:=by intro _;rfl):PS X (.For tg iter body [] pos) (x1i wi g tb):=by
 intro pins s σ H D I h
 refine wpAny_For (thn (hi pins s σ H _ I h) fun v s1 h1=>thn h1 fun itv s2 h2=>?_) hs
 obtain⟨it,fp,tn,J,H2,e,I2,T,st2,f2,W,⟨m0,w0⟩,turn⟩:=h2
 subst e
 -- what stays true of the iterator's objects through the loop
 have stat:∀ {H':Hp},(∀ b∈fp,H' b=none)->∀ b∈fp,FpOk X pins H' b:=fun hn b hb=>⟨hn b hb,(f2 b hb).2⟩
 refine codeAny_forLoop_any (fun n s'=>∃ i σ' H',Inv X pins σ' H' s'/\tn i s'.heap/\(∀ b∈fp,H' b=none)/\W i n σ' H') ?_ m0 ⟨0,σ,H2,I2,st2,fun b hb=>(f2 b hb).1,w0⟩
 rintro n s3 ⟨i,σ3,H3,I3,st3,fr3,w3⟩
 rcases turn i n σ3 H3 w3 with ⟨stop,qn⟩ | ⟨go,N,hN,step⟩
 · refine wpAny_passesOwn hp (thn (T.done X rfl rfl rfl hc i pins s3 σ3 H3 X.xe I3 (stat fr3) st3 stop) fun r s4 ⟨hr,I4⟩=>?_)
   subst hr
   exact wpAny_execs_nil ⟨σ3,H3,I4,qn⟩
 · refine wpAny_passesOwn hp (thn (T.item X rfl rfl rfl hc i pins s3 σ3 H3 X.xe I3 (stat fr3) st3 go) fun r s4 ⟨u,hr,h4⟩=>?_)
   subst hr
   refine wpAny_passesOwn hp (thn h4 fun _ s5 ⟨x,H5,I5,r5,y5,st5,fr5⟩=>?_)
   have I5':=I5.pinned (stat fr5) (T.obj _ _ st5)
   refine wpAny_passesOwn hp (thn (hg _ s5 σ3 H5 x u _ I5' r5 (step x H5 y5)) fun _ s6 ⟨σ6,H6,I6,q6⟩=>?_)
   refine wpAny_passesOwn hp (thn (hb _ s6 σ6 H6 _ I6 q6) fun f s7 q7=>?_)
   have again:∀ {σ7:St}{H7:Hp},Inv X (pins ++ z6m fp s5.heap) σ7 H7 s7->N σ7 H7->∃ m,m < n/\∃ i σ' H',Inv X pins σ' H' s7/\tn i s7.heap/\(∀ b∈fp,H' b=none)/\W i m σ' H':=fun {σ7 H7} I7 n7=>by
    obtain⟨m',hm,w7⟩:=hN σ7 H7 n7
    refine⟨m',hm,i + 1,σ7,H7,I7.unpinned,T.keep _ _ _ st5 fun b hb o e=>(I7.pin (b,o) (ja _ (ja _ (z1S hb e)))).1,fun b hb=>?_,w7⟩
    obtain⟨o,e,d⟩:=T.obj _ _ st5 b hb
    exact (I7.pin (b,o) (ja _ (ja _ (z1S hb e)))).2.1
   cases f with
   | next=>obtain⟨σ7,H7,I7,n7⟩:=q7;exact again I7 n7
   | cont=>obtain⟨σ7,H7,I7,n7⟩:=q7;exact again I7 n7
   | brk=>obtain⟨σ7,H7,I7,q7⟩:=q7;exact⟨σ7,H7,I7.unpinned,q7⟩
   | ret v=>obtain⟨x7,σ7,H7,I7,r7,q7⟩:=q7;exact⟨x7,σ7,H7,I7.unpinned,r7,q7⟩
end
theorem z1c{K:PySem.W.Frag}{a:Addr}{xs:List V}{g:TG}{tb:TS}{D:Ends}{σ:St}{H:Hp}(Pv:Nat->St->Hp->Prop)(h0:Pv 0 σ H)(hl:∀ i σ H,i<=xs.length->Pv i σ H->SqL K H a xs)
 (hs:∀ i x σ H,xs[i]? = some x->Pv i σ H->g x σ H fun σ2 H2=>tb { D with nx:=Pv (i + 1),ct:=Pv (i + 1),bk:=D.nx } σ2 H2) (hd:∀ σ H,Pv xs.length σ H->D.nx σ H) :
 ∃ W:Nat->Nat->St->Hp->Prop,(∃ m,W 0 m σ H)/\∀ i m σ H,W i m σ H ->
  ((Itl K a).stop i H/\D.nx σ H)\/((Itl K a).go i H/\∃ N:St->Hp->Prop,(∀ σ' H',N σ' H'->∃ m',m' < m/\W (i + 1) m' σ' H')/\∀ x H',(Itl K a).yld i H x H'->g x σ H' fun σ2 H2=>tb { D with nx:=N,ct:=N,bk:=D.nx } σ2 H2):=by
 refine⟨fun i m σ H=>m=xs.length - i/\i<=xs.length/\Pv i σ H,⟨xs.length,by simp,jR _,h0⟩,?_⟩
 rintro i m σ H ⟨rfl,hi,p⟩
 have q:=hl i σ H hi p
 by_cases hlt:i < xs.length
 · refine .inr ⟨⟨xs,xs[i],q,by simp[hlt]⟩,Pv (i + 1),fun σ' H' p'=>⟨xs.length - (i + 1),by omega,rfl,hlt,p'⟩,fun x H' y=>?_⟩
   obtain⟨e,y⟩:=y
   subst e
   exact hs i x σ _ (y xs q) p
 · have e:i=xs.length:=by omega
   subst e
   exact .inl ⟨⟨xs,q,jF _⟩,hd σ H p⟩
theorem z7z{K:PySem.W.Frag}{a:Addr}{xs:List V}{g:TG}{tb:TS}{D:Ends}{σ:St}{H:Hp}(Pv:Nat->St->Hp->Prop)(h0:Pv 0 σ H)(hl:∀ i σ H,i<=xs.length->Pv i σ H->SqT K H a xs)
 (hs:∀ i x σ H,xs[i]? = some x->Pv i σ H->g x σ H fun σ2 H2=>tb { D with nx:=Pv (i + 1),ct:=Pv (i + 1),bk:=D.nx } σ2 H2) (hd:∀ σ H,Pv xs.length σ H->D.nx σ H) :
 ∃ W:Nat->Nat->St->Hp->Prop,(∃ m,W 0 m σ H)/\∀ i m σ H,W i m σ H ->
  ((Itt K a).stop i H/\D.nx σ H)\/((Itt K a).go i H/\∃ N:St->Hp->Prop,(∀ σ' H',N σ' H'->∃ m',m' < m/\W (i + 1) m' σ' H')/\∀ x H',(Itt K a).yld i H x H'->g x σ H' fun σ2 H2=>tb { D with nx:=N,ct:=N,bk:=D.nx } σ2 H2):=by
 refine⟨fun i m σ H=>m=xs.length - i/\i<=xs.length/\Pv i σ H,⟨xs.length,by simp,jR _,h0⟩,?_⟩
 rintro i m σ H ⟨rfl,hi,p⟩
 have q:=hl i σ H hi p
 by_cases hlt:i < xs.length
 · refine .inr ⟨⟨xs,xs[i],q,by simp[hlt]⟩,Pv (i + 1),fun σ' H' p'=>⟨xs.length - (i + 1),by omega,rfl,hlt,p'⟩,fun x H' y=>?_⟩
   obtain⟨e,y⟩:=y
   subst e
   exact hs i x σ _ (y xs q) p
 · have e:i=xs.length:=by omega
   subst e
   exact .inl ⟨⟨xs,q,jF _⟩,hd σ H p⟩
theorem z5P{lo:Int}{n:Nat}{g:TG}{tb:TS}{D:Ends}{σ:St}{H:Hp}(Pv:Nat->St->Hp->Prop)(h0:Pv 0 σ H)
 (hs:∀ i σ H,i < n->Pv i σ H->g (.int (lo + i)) σ H fun σ2 H2=>tb { D with nx:=Pv (i + 1),ct:=Pv (i + 1),bk:=D.nx } σ2 H2) (hd:∀ σ H,Pv n σ H->D.nx σ H) :
 ∃ W:Nat->Nat->St->Hp->Prop,(∃ m,W 0 m σ H)/\∀ i m σ H,W i m σ H ->
  ((Itr lo n).stop i H/\D.nx σ H)\/((Itr lo n).go i H/\∃ N:St->Hp->Prop,(∀ σ' H',N σ' H'->∃ m',m' < m/\W (i + 1) m' σ' H')/\∀ x H',(Itr lo n).yld i H x H'->g x σ H' fun σ2 H2=>tb { D with nx:=N,ct:=N,bk:=D.nx } σ2 H2):=by
 refine⟨fun i m σ H=>m=n - i/\i<=n/\Pv i σ H,⟨n,by simp,jR _,h0⟩,?_⟩
 rintro i m σ H ⟨rfl,hi,p⟩
 by_cases hlt:i < n
 · refine .inr ⟨hlt,Pv (i + 1),fun σ' H' p'=>⟨n - (i + 1),by omega,rfl,hlt,p'⟩,fun x H' y=>?_⟩
   obtain⟨e,y⟩:=y
   subst e y
   exact hs i σ _ hlt p
 · have e:i=n:=by omega
   subst e
   exact .inl ⟨jF _,hd σ H p⟩
theorem z9K{c:TT}{tb:TS}{D:Ends}{σ:St}{H:Hp}(Pv:St->Hp->Prop)(μ:St->Hp->Nat)(h0:Pv σ H)
 (hs:∀ σ H,Pv σ H->c σ H fun b H1=>if b=true then tb { D with nx:=fun σ' H'=>Pv σ' H'/\μ σ' H' < μ σ H,ct:=fun σ' H'=>Pv σ' H'/\μ σ' H' < μ σ H,bk:=D.nx } σ H1 else D.nx σ H1)
 (mono:∀ σ H Q Q',(∀ b H1,Q b H1->Q' b H1)->c σ H Q->c σ H Q'):y6p c tb D σ H:=by
 refine⟨fun m σ H=>m=μ σ H/\Pv σ H,⟨_,rfl,h0⟩,?_⟩
 rintro m σ H ⟨rfl,p⟩
 refine mono σ H _ _ (fun b H1 q=>?_) (hs σ H p)
 cases b with
 | true=>exact⟨_,fun σ' H' ⟨p',l⟩=>⟨_,l,rfl,p'⟩,q⟩
 | false=>exact q
abbrev R2:=V->V->Hp->VK->Prop
def OpR(X:Cx)(f:Value->Value->Sem Value)(r:R2):Prop :=
 ∀ (pins:List (Addr×Obj)) (s:Shared) (σ:St) (H:Hp) (x y:V) (v u:Value) (Q:VK),Inv X pins σ H s->RelV x v->RelV y u->r x y H Q ->
  wpAny (model X.prog X.w) X.A (f v u) (EP X pins σ Q) X.xe s
def UnR(X:Cx)(f:Value->Sem Value)(r:V->Hp->VK->Prop):Prop :=
 ∀ (pins:List (Addr×Obj)) (s:Shared) (σ:St) (H:Hp) (x:V) (v:Value) (Q:VK),Inv X pins σ H s->RelV x v->r x H Q ->
  wpAny (model X.prog X.w) X.A (f v) (EP X pins σ Q) X.xe s
def CallR(X:Cx)(f:Value)(r:List V->Hp->VK->Prop):Prop :=
 ∀ (pins:List (Addr×Obj)) (s:Shared) (σ:St) (H:Hp) (xs:List V) (us:List Value) (Q:VK),Inv X pins σ H s->Vals xs us->r xs H Q ->
  wpAny (model X.prog X.w) X.A (call f us) (EP X pins σ Q) X.xe s
def tOp(r:R2)(ta tb:TE):TE:=fun σ H Q=>ta σ H fun x H1=>tb σ H1 fun y H2=>r x y H2 Q
def tUn(r:V->Hp->VK->Prop)(ta:TE):TE:=fun σ H Q=>ta σ H fun x H1=>r x H1 Q
def rI(C:Int->Int->Prop)(g:Int->Int->V):R2:=fun x y H Q=>∃ i j,x = .int i/\y = .int j/\C i j/\Q (g i j) H
def rI0(g:Int->Int->V):R2:=fun x y H Q=>∃ i j,x = .int i/\y = .int j/\Q (g i j) H
def rU(g:Int->V):V->Hp->VK->Prop:=fun x H Q=>∃ i,x = .int i/\Q (g i) H
section
variable {X:Cx}{a b c:Expr}{ta tb tc:TE}{pos:Pos}
theorem x1c(ha:PE X a ta)(hb:PE X b tb){pins:List (Addr×Obj)}{s:Shared}{σ:St}{H:Hp}{R:V->V->Hp->Prop}(I:Inv X pins σ H s)
 (h:ta σ H fun x H1=>tb σ H1 fun y H2=>R x y H2) {Q:Value->Shared->Prop}{f:Value->Value->Sem Value}
 (hf:∀ v u s2 x y H2,Inv X pins σ H2 s2->RelV x v->RelV y u->R x y H2->wpAny (model X.prog X.w) X.A (f v u) Q X.xe s2) :
 wpAny (model X.prog X.w) X.A (eval a X.env) (fun v s₁=>wpAny (model X.prog X.w) X.A (eval b X.env) (fun u s₂=>wpAny (model X.prog X.w) X.A (f v u) Q X.xe s₂) X.xe s₁) X.xe s:=by
 refine thn (ha pins s σ H _ I h) fun v s1 ⟨x,H1,I1,r1,q1⟩=>?_
 refine thn (hb pins s1 σ H1 _ I1 q1) fun u s2 ⟨y,H2,I2,r2,q2⟩=>?_
 exact hf v u s2 x y H2 I2 r1 r2 q2
theorem z0p{op:Operator}{r:R2}(ho:OpR X (binaryOp op) r)(ha:PE X a ta)(hb:PE X b tb):PE X (.BinOp a op b pos) (tOp r ta tb):=by
 intro pins s σ H Q I h
 exact wpAny_BinOp (x1c ha hb I h fun v u s2 x y H2 I2 rx ry q=>ho pins s2 σ H2 x y v u Q I2 rx ry q)
theorem y5n{op:UnaryOp}{r:V->Hp->VK->Prop}(ho:UnR X (unaryOp op) r)(ha:PE X a ta):PE X (.UnaryOp op a pos) (tUn r ta):=by
 intro pins s σ H Q I h
 exact UnaryOp_ (thn (ha pins s σ H _ I h) fun v s1 ⟨x,H1,I1,r1,q1⟩=>ho pins s1 σ H1 x v Q I1 r1 q1)
theorem opI{f:Value->Value->Sem Value}{C:Int->Int->Prop}{g:Int->Int->Int}
 (rule:∀ (i j:Int) (t u:Tok) (s:Shared) (Q:Value->Shared->Prop) (E:Value->Shared->Prop),C i j->Q (.int (g i j) s.toks) { s with toks:=s.toks + 1 }->wpAny (model X.prog X.w) X.A (f (.int i t) (.int j u)) Q E s) :
 OpR X f (rI C fun i j => .int (g i j)):=by
 intro pins s σ H x y v u Q I rx ry h
 obtain⟨i,j,rfl,rfl,hc,q⟩:=h
 obtain⟨t,rfl⟩:=rx
 obtain⟨t',rfl⟩:=ry
 exact rule i j t t' s _ _ hc ⟨.int (g i j),H,I.tok _,⟨_,rfl⟩,q⟩
theorem x1r{f:Value->Value->Sem Value}{g:Int->Int->Int}
 (rule:∀ (i j:Int) (t u:Tok) (s:Shared) (Q:Value->Shared->Prop) (E:Value->Shared->Prop),Q (.int (g i j) s.toks) { s with toks:=s.toks + 1 }->wpAny (model X.prog X.w) X.A (f (.int i t) (.int j u)) Q E s) :
 OpR X f (rI0 fun i j => .int (g i j)):=by
 intro pins s σ H x y v u Q I rx ry h
 obtain⟨i,j,rfl,rfl,q⟩:=h
 obtain⟨t,rfl⟩:=rx
 obtain⟨t',rfl⟩:=ry
 exact rule i j t t' s _ _ ⟨.int (g i j),H,I.tok _,⟨_,rfl⟩,q⟩
theorem x0H{f:Value->Value->Sem Value}{g:Int->Int->Bool}
 (rule:∀ (i j:Int) (t u:Tok) (s:Shared) (Q:Value->Shared->Prop) (E:Value->Shared->Prop),Q (.bool (g i j)) s->wpAny (model X.prog X.w) X.A (f (.int i t) (.int j u)) Q E s) :
 OpR X f (rI0 fun i j => .bl (g i j)):=by
 intro pins s σ H x y v u Q I rx ry h
 obtain⟨i,j,rfl,rfl,q⟩:=h
 obtain⟨t,rfl⟩:=rx
 obtain⟨t',rfl⟩:=ry
 exact rule i j t t' s _ _ ⟨.bl (g i j),H,I,rfl,q⟩
def x1O(i j:Int):Prop:=0<=j/\j<=1000000/\i.natAbs < 2 ^ 64
theorem z0R:OpR X (binaryOp .Add) (rI0 fun i j => .int (i + j)):=x1r fun _ _ _ _ _ _ _ q=>add_int q
theorem z8h:OpR X (binaryOp .Sub) (rI0 fun i j => .int (i - j)):=x1r fun _ _ _ _ _ _ _ q=>sub_int q
theorem z0L:OpR X (binaryOp .Mod) (rI (fun _ j=>0 < j) fun i j => .int (i % j)):=opI fun i j _ _ _ _ _ hc q=>by
 have h1:(0:Int) < j:=hc
 exact mod_int' (by omega) (by rw[Int.fmod_eq_emod_of_nonneg i (by omega)];exact q)
theorem z8i:OpR X (binaryOp .Pow) (rI x1O fun i j => .int (i ^ j.toNat)):=opI fun _ _ _ _ _ _ _ hc q=>pow_int_small hc.1 hc.2.1 hc.2.2 q
theorem unI{f:Value->Sem Value}{g:Int->Int}
 (rule:∀ (i:Int) (t:Tok) (s:Shared) (Q:Value->Shared->Prop) (E:Value->Shared->Prop),Q (.int (g i) s.toks) { s with toks:=s.toks + 1 }->wpAny (model X.prog X.w) X.A (f (.int i t)) Q E s) :
 UnR X f (rU fun i => .int (g i)):=by
 intro pins s σ H x v Q I rx h
 obtain⟨i,rfl,q⟩:=h
 obtain⟨t,rfl⟩:=rx
 exact rule i t s _ _ ⟨.int (g i),H,I.tok _,⟨_,rfl⟩,q⟩
theorem z9Q:UnR X (unaryOp .USub) (rU fun i => .int (-i)):=unI fun _ _ _ _ _ q=>neg_int q
end
def x1j:V->V->Bool
 | .non,.non=>true | .non,.int _=>true | .int _,.non=>true | .non,.bl _=>true | .bl _,.non=>true | .non,.str _=>true | .str _,.non=>true
 | .int _,.int _=>true | .bl _,.bl _=>true | .str _,.str _=>true | .byt _,.byt _=>true
 | .int _,.str _=>true | .str _,.int _=>true | .bl _,.str _=>true | .str _,.bl _=>true
 | _,_=>false
def rEq:R2:=fun x y H Q=>x1j x y=true/\Q (.bl (decide (x=y))) H
def rNe:R2:=fun x y H Q=>x1j x y=true/\Q (.bl (!decide (x=y))) H
theorem y4i{i j:Int}:decide (V.int i=V.int j)=(i == j):=by
 rw[Bool.eq_iff_iff]
 simp
theorem y6Q{i j:Bool}:decide (V.bl i=V.bl j)=(i == j):=by
 rw[Bool.eq_iff_iff]
 simp
theorem y4h{i j:Str}:decide (V.str i=V.str j)=(i == j):=by
 rw[Bool.eq_iff_iff]
 simp
theorem y4j{i j:Array UInt8}:decide (V.byt i=V.byt j)=(i.toList == j.toList):=by
 rw[Bool.eq_iff_iff]
 cases i
 cases j
 simp
section
variable {X:Cx}{a b c:Expr}{ta tb tc:TE}{pos:Pos}
theorem z0M{pins:List (Addr×Obj)}{σ:St}{H:Hp}{s:Shared}{Q:VK}{k k':Bool}(I:Inv X pins σ H s)(q:Q (.bl k) H)(e:k=k'):EP X pins σ Q (.bool k') s:=by
 subst e
 exact⟨.bl k,H,I,rfl,q⟩
theorem y9U:OpR X (compareOp .Eq) rEq:=by
 intro pins s σ H x y v u Q I rx ry h
 obtain⟨hs,q⟩:=h
 cases x with
 | non =>
  cases rx
  cases y with
  | non=>cases ry;exact PySem.EqNone.eq_none_none (z0M I q (by simp))
  | bl j=>cases ry;exact PySem.EqNone.eq_none_bool (z0M I q (by simp))
  | int j=>obtain⟨t',rfl⟩:=ry;exact PySem.EqNone.eq_none_int (z0M I q (by simp))
  | str j=>obtain⟨t',rfl⟩:=ry;exact PySem.EqNone.eq_none_str (z0M I q (by simp))
  | _=>exact absurd (show false=true from hs) jN
 | bl i =>
  cases rx
  cases y with
  | non=>cases ry;exact PySem.EqNone.eq_bool_none (z0M I q (by simp))
  | bl j=>cases ry;exact eq_bool (z0M I q y6Q)
  | str j=>obtain⟨t',rfl⟩:=ry;exact PySem.EqMixed.eq_bool_str (z0M I q (by simp))
  | _=>exact absurd (show false=true from hs) jN
 | int i =>
  obtain⟨t,rfl⟩:=rx
  cases y with
  | non=>cases ry;exact PySem.EqNone.eq_int_none (z0M I q (by simp))
  | int j=>obtain⟨t',rfl⟩:=ry;exact eq_int (z0M I q y4i)
  | str j=>obtain⟨t',rfl⟩:=ry;exact PySem.EqMixed.eq_int_str (z0M I q (by simp))
  | _=>exact absurd (show false=true from hs) jN
 | str i =>
  obtain⟨t,rfl⟩:=rx
  cases y with
  | non=>cases ry;exact PySem.EqNone.eq_str_none (z0M I q (by simp))
  | bl j=>cases ry;exact PySem.EqMixed.eq_str_bool (z0M I q (by simp))
  | int j=>obtain⟨t',rfl⟩:=ry;exact PySem.EqMixed.eq_str_int (z0M I q (by simp))
  | str j=>obtain⟨t',rfl⟩:=ry;exact eq_str (z0M I q y4h)
  | _=>exact absurd (show false=true from hs) jN
 | byt i =>
  obtain⟨t,rfl⟩:=rx
  cases y with
  | byt j=>obtain⟨t',rfl⟩:=ry;exact PySem.W.eq_bytes (z0M I q y4j)
  | _=>exact absurd (show false=true from hs) jN
 | _=>cases y <;> exact absurd (show false=true from hs) jN
theorem y9R:OpR X (compareOp .NotEq) rNe:=by
 intro pins s σ H x y v u Q I rx ry h
 obtain⟨hs,q⟩:=h
 cases x with
 | non =>
  cases rx
  cases y with
  | non=>cases ry;exact PySem.EqNone.ne_none_none (z0M I q (by simp))
  | bl j=>cases ry;exact PySem.EqNone.ne_none_bool (z0M I q (by simp))
  | int j=>obtain⟨t',rfl⟩:=ry;exact PySem.EqNone.ne_none_int (z0M I q (by simp))
  | str j=>obtain⟨t',rfl⟩:=ry;exact PySem.EqNone.ne_none_str (z0M I q (by simp))
  | _=>exact absurd (show false=true from hs) jN
 | bl i =>
  cases rx
  cases y with
  | non=>cases ry;exact PySem.EqNone.ne_bool_none (z0M I q (by simp))
  | bl j=>cases ry;exact ne_bool (z0M I q (congrArg not y6Q))
  | str j=>obtain⟨t',rfl⟩:=ry;exact PySem.EqMixed.ne_bool_str (z0M I q (by simp))
  | _=>exact absurd (show false=true from hs) jN
 | int i =>
  obtain⟨t,rfl⟩:=rx
  cases y with
  | non=>cases ry;exact PySem.EqNone.ne_int_none (z0M I q (by simp))
  | int j=>obtain⟨t',rfl⟩:=ry;exact ne_int (z0M I q (congrArg not y4i))
  | str j=>obtain⟨t',rfl⟩:=ry;exact PySem.EqMixed.ne_int_str (z0M I q (by simp))
  | _=>exact absurd (show false=true from hs) jN
 | str i =>
  obtain⟨t,rfl⟩:=rx
  cases y with
  | non=>cases ry;exact PySem.EqNone.ne_str_none (z0M I q (by simp))
  | bl j=>cases ry;exact PySem.EqMixed.ne_str_bool (z0M I q (by simp))
  | int j=>obtain⟨t',rfl⟩:=ry;exact PySem.EqMixed.ne_str_int (z0M I q (by simp))
  | str j=>obtain⟨t',rfl⟩:=ry;exact ne_str (z0M I q (congrArg not y4h))
  | _=>exact absurd (show false=true from hs) jN
 | byt i =>
  obtain⟨t,rfl⟩:=rx
  cases y with
  | byt j=>obtain⟨t',rfl⟩:=ry;exact PySem.W.ne_bytes (z0M I q (congrArg not y4j))
  | _=>exact absurd (show false=true from hs) jN
 | _=>cases y <;> exact absurd (show false=true from hs) jN
theorem y1s:OpR X (compareOp .Lt) (rI0 fun i j => .bl (decide (i < j))):=x0H fun _ _ _ _ _ _ _ q=>lt_int q
theorem y1t:OpR X (compareOp .Gt) (rI0 fun i j => .bl (decide (j < i))):=x0H fun _ _ _ _ _ _ _ q=>gt_int q
theorem z3e:OpR X (compareOp .NotIn) (fun x y H Q=>∃ i j,x = .str i/\y = .str j/\Q (.bl (!(!(Builtin.Str.occurrences j i 0 j.length 1).isEmpty))) H):=by
 intro pins s σ H x y v u Q I rx ry h
 obtain⟨i,j,rfl,rfl,q⟩:=h
 obtain⟨t,rfl⟩:=rx
 obtain⟨t',rfl⟩:=ry
 exact notIn_str (z0M I q rfl)
theorem OpR.or{f:Value->Value->Sem Value}{r r':R2}(h:OpR X f r)(h':OpR X f r'):OpR X f (fun x y H Q=>r x y H Q\/r' x y H Q):=by
 intro pins s σ H x y v u Q I rx ry q
 rcases q with q | q
 · exact h pins s σ H x y v u Q I rx ry q
 · exact h' pins s σ H x y v u Q I rx ry q
theorem z0k(b:Expr){op:CmpOp}(h:op ≠ .In:=by decide)(h2:op ≠ .NotIn:=by decide):behindInMarks op b=false:=by
 have e1:(op == CmpOp.In)=false:=by cases op <;> first | rfl | exact absurd rfl h
 have e2:(op == CmpOp.NotIn)=false:=by cases op <;> first | rfl | exact absurd rfl h2
 cases b <;> simp[behindInMarks,e1,e2]
theorem z1f{op:CmpOp}{r:R2}(ho:OpR X (compareOp op) r)(ha:PE X a ta)(hb:PE X b tb)(hm:behindInMarks op b=false):PE X (.Compare a [op] [b] pos) (tOp r ta tb):=by
 intro pins s σ H Q I h
 exact wpAny_Compare1 (x1c ha hb I h fun v u s2 x y H2 I2 rx ry q=>ho pins s2 σ H2 x y v u Q I2 rx ry q) hm
def y9l(t:TE):TT:=fun σ H Q=>t σ H fun x H'=>∃ k,x = .bl k/\Q k H'
theorem z0j{op:CmpOp}{r:R2}(ho:OpR X (compareOp op) r)(ha:PE X a ta)(hb:PE X b tb)(hm:behindInMarks op b=false):PT X (.Compare a [op] [b] pos) (y9l (tOp r ta tb)):=by
 intro pins s σ H Q I h
 refine wpAny_isTrue_Compare1 (thn (ha pins s σ H _ I h) fun v s1 ⟨x,H1,I1,r1,q1⟩=>thn (hb pins s1 σ H1 _ I1 q1) fun u s2 ⟨y,H2,I2,r2,q2⟩ =>
  thn (ho pins s2 σ H2 x y v u _ I2 r1 r2 q2) fun c s3 ⟨z,H3,I3,r3,k,e,q3⟩=>?_) hm
 subst e
 cases r3
 exact wpAny_truthy_bool ⟨H3,I3,q3⟩
theorem z8m:(sizeLine:Nat) < 2 ^ 63:=by rw[sizeLine_eq];decide
theorem z0q:OpR X (binaryOp .Add) (fun x y H Q=>∃ i j,x = .str i/\y = .str j/\i.length + j.length<=sizeLine/\Q (.str (i ++ j)) H):=by
 intro pins s σ H x y v u Q I rx ry h
 obtain⟨i,j,rfl,rfl,hz,q⟩:=h
 obtain⟨t,rfl⟩:=rx
 obtain⟨t',rfl⟩:=ry
 exact add_str (fun t' tk=>⟨.str (i ++ j),H,I.tok _,⟨_,rfl⟩,q⟩) hz
theorem z3L{x:V}{us:List Value}(r:Vals [x] us):∃ u,us=[u]/\RelV x u:=by
 cases r with
 | cons r1 r2=>cases r2;exact⟨_,rfl,r1⟩
theorem y7f{x y:V}{us:List Value}(r:Vals [x,y] us):∃ u w',us=[u,w']/\RelV x u/\RelV y w':=by
 cases r with
 | cons r1 r2 =>
  cases r2 with
  | cons r3 r4=>cases r4;exact⟨_,_,rfl,r1,r3⟩
theorem y0W:CallR X (.builtin "abs") (fun xs H Q=>∃ i,xs=[.int i]/\Q (.int (if i < 0 then -i else i)) H):=by
 intro pins s σ H xs us Q I r h
 obtain⟨i,rfl,q⟩:=h
 obtain⟨u,rfl,t,rfl⟩:=z3L r
 exact call_abs_int fun u tk=>⟨.int (if i < 0 then -i else i),H,I.tok _,⟨_,rfl⟩,q⟩
theorem z8B(hc:X.calm=true):CallR X (.builtin "max") (fun xs H Q=>∃ i j,xs=[.int i,.int j]/\Q (.int (if j > i then j else i)) H):=by
 intro pins s σ H xs us Q I r h
 obtain⟨i,j,rfl,q⟩:=h
 obtain⟨u,w',rfl,⟨t,rfl⟩,⟨t',rfl⟩⟩:=y7f r
 refine max_two_ints (I.ok.hd hc) fun h' tk k=>⟨_,H,I.kept k,?_,q⟩
 by_cases hj:j > i
 · rw[if_pos hj,if_pos hj];exact⟨_,rfl⟩
 · rw[if_neg hj,if_neg hj];exact⟨_,rfl⟩
theorem z2F:CallR X (.type "int") (fun xs H Q=>(∃ i,xs=[.int i]/\Q (.int i) H)\/∃ k,xs=[.bl k]/\Q (.int (if k then 1 else 0)) H):=by
 intro pins s σ H xs us Q I r h
 rcases h with ⟨i,rfl,q⟩ | ⟨k,rfl,q⟩
 · obtain⟨u,rfl,t,rfl⟩:=z3L r
   exact call_int_int ⟨.int i,H,I,⟨_,rfl⟩,q⟩
 · obtain⟨u,rfl,r1⟩:=z3L r
   cases r1
   exact call_int_bool ⟨.int (if k then 1 else 0),H,I.tok _,⟨_,rfl⟩,q⟩
theorem z8A:CallR X (.type "str") (fun xs H Q=>∃ i,xs=[.int i]/\i.natAbs.log2 < 1920/\Q (.str (toString i)) H):=by
 intro pins s σ H xs us Q I r h
 obtain⟨i,rfl,hz,q⟩:=h
 obtain⟨u,rfl,t,rfl⟩:=z3L r
 exact PySem.P.str_of_int hz ⟨.str _,H,I.tok _,⟨_,rfl⟩,q⟩
def x0J(K:PySem.W.Frag)(x:V)(H:Hp)(n:Nat):Prop :=
 match x with
 | .str y=>y.length<=sizeLine/\n=y.length
 | .byt y=>y.size<=sizeLine/\n=y.size
 | .ref p=>(∃ xs,SqL K H p xs/\n=xs.length)\/∃ xs,SqT K H p xs/\n=xs.length
 | _=>False
theorem y6g:CallR X (.builtin "len") (fun xs H Q=>∃ x n,xs=[x]/\x0J X.K x H n/\Q (.int n) H):=by
 intro pins s σ H xs us Q I r h
 obtain⟨x,n,rfl,e,q⟩:=h
 obtain⟨u,rfl,rx⟩:=z3L r
 have hl:=z8m
 have hs:sizeLine=16777216:=sizeLine_eq
 cases x with
 | str y =>
  obtain⟨t,rfl⟩:=rx
  obtain⟨hy,e'⟩:y.length<=sizeLine/\n=y.length:=e
  subst e'
  exact len_str (by omega) ⟨.int _,H,I.tok _,⟨_,rfl⟩,q⟩
 | byt y =>
  obtain⟨t,rfl⟩:=rx
  obtain⟨hy,e'⟩:y.size<=sizeLine/\n=y.size:=e
  subst e'
  exact PySem.W.len_bytes (by omega) ⟨.int _,H,I.tok _,⟨_,rfl⟩,q⟩
 | ref p =>
  cases rx
  have e':(∃ xs,SqL X.K H p xs/\n=xs.length)\/∃ xs,SqT X.K H p xs/\n=xs.length:=e
  rcases e' with ⟨xs,hx,e'⟩ | ⟨xs,hx,e'⟩
  · subst e'
    obtain⟨its,r',pl,hz⟩:=I.list hx
    have hlen:=r'.length
    exact Calls.call_len_list pl.isList (by simp only[jI];omega) ⟨.int xs.length,H,I.tok _,⟨_,by simp only[jI];rw[hlen]⟩,q⟩
  · subst e'
    obtain⟨its,r',pl,hz⟩:=I.tuple hx
    have hlen:=r'.length
    exact len_tuple pl (by simp only[jI];omega) ⟨.int xs.length,H,I.tok _,⟨_,by simp only[jI];rw[hlen]⟩,q⟩
 | _=>exact (show False from e).elim
end
structure ObjM (h:Heap) (x dx C:Addr) (mA:Str->Option Value):Prop where
 obj:h.get? x=some (PySem.W.instObj C dx)
 ns:h.Ns1 dx mA
 ne:dx≠x
theorem y3D{h:Heap}{dx:Addr}{mA:Str->Option Value}(n:h.Ns1 dx mA):∃ od,h.get? dx=some od/\∀ name,PySem.W.lookIn name od=some (mA name):=by
 obtain⟨o,es,ep,ho,hd,hk,_,hm⟩:=n
 refine⟨o,ho,fun name=>?_⟩
 have e:=hm name
 unfold nsFind findBy at e
 rw[<- Array.find?_toList]at e
 unfold PySem.W.lookIn
 rw[hd]
 dsimp only
 split
 · rename_i y q
   rw[q]at e
   exact congrArg some e
 · rename_i q
   rw[q]at e
   have a:es.toList.any (·.refKey)=false:=by
    rw[List.any_eq_false]
    intro y hy
    obtain⟨z,t,hkey⟩:=hk y (Array.mem_toList_iff.mp hy)
    simp[DictEntry.refKey,hkey]
   have a':¬ es.toList.any (·.refKey)=true:=by rw[a];exact jN
   rw[if_neg a']
   exact congrArg some e
theorem ObjM.look{h:Heap}{x dx C:Addr}{mA:Str->Option Value}(I:ObjM h x dx C mA):∃ od,PySem.W.InstAt h x (PySem.W.instObj C dx) C (some od)/\∀ name,PySem.W.lookIn name od=some (mA name) :=
 let ⟨od,ho,hl⟩:=y3D I.ns
 ⟨od,⟨I.obj,rfl,rfl,ho⟩,hl⟩
theorem RelO.some_of{v:V}{o:Option Value}(r:RelO (some v) o):∃ u,o=some u/\RelV v u:=by
 cases o with
 | none=>exact (show False from r).elim
 | some u=>exact⟨u,rfl,r⟩
section
variable {P:Program}{w:World}{H H':Hp}{h h':Heap}{a C dx:Addr}{fs fs':List (Str×V)}
theorem y8m(hok:HOk P w H h)(e:H a=some (.ins C dx fs)):∃ mA,ObjM h a dx C mA/\(∀ f,RelO (fs.lookup f) (mA f))/\PySem.Within mA (fs.map (·.1))/\fs.length<=1000/\H dx=some (.own a):=by
 obtain⟨d,z,ne,ob,mA,n,r,q⟩:=(show ObjOk P w H h a (.ins C dx fs) from hok a _ e)
 exact⟨mA,⟨ob,n,ne⟩,r,q,z,d⟩
end
structure Cls (K:PySem.W.Frag) (C:Addr):Prop where
 pg:PySem.W.plainGet K C Str.empty=true
 hd:PySem.W.hasDictIn K C=true
 po:PySem.W.plainOver K C=true
 sa:PySem.W.findIn K (.ref C) "__setattr__" = some (some (.builtin "object.__setattr__"))
theorem Cls.get{K:PySem.W.Frag}{C:Addr}(c:Cls K C)(f:Str):PySem.W.plainGet K C f=true:=c.pg
def NoAttr(K:PySem.W.Frag)(C:Addr)(f:Str):Prop:=PySem.W.findIn K (.ref C) f=some none
section
variable {X:Cx}{pins:List (Addr×Obj)}{σ:St}{H:Hp}{s:Shared}{A:Around}{E:Value->Shared->Prop}{Q:Value->Shared->Prop}{c:Value}{b:Bool}
inductive TyOf (K:PySem.W.Frag) (H:Hp):V->Value->Prop where
 | non:TyOf K H .non (.type "NoneType")
 | bl (x:Bool):TyOf K H (.bl x) (.type "bool")
 | int (i:Int):TyOf K H (.int i) (.type "int")
 | str (x:Str):TyOf K H (.str x) (.type "str")
 | flt (x:UInt64):TyOf K H (.flt x) (.type "float")
 | lst {a:Addr}{xs:List V} (e:H a=some (.lst xs)):TyOf K H (.ref a) (.type "list")
 | frz {a:Addr}{o:Obj}{xs:List V} (e:H a=some (.frz o (.lst xs))):TyOf K H (.ref a) (.type "list")
 | tup {a:Addr}{xs:List V} (e:H a=some (.tup xs)):TyOf K H (.ref a) (.type "tuple")
 | dK {a:Addr}{kvs:List (Key×V)} (e:H a=some (.dK kvs)):TyOf K H (.ref a) (.type "dict")
 | dT {a:Addr}{kvs:List (List Key×V)} (e:H a=some (.dT kvs)):TyOf K H (.ref a) (.type "dict")
 | ins {a C dx:Addr}{fs:List (Str×V)} (e:H a=some (.ins C dx fs)) (cl:Cls K C) (ha:PySem.W.findIn K (.ref C) "__class__" = some (some (.builtin "object.__class__")))
  (hn:PySem.W.specialIn K (.builtin "object.__class__") "__get__" = some (some (.builtin "getset_descriptor.__get__"))) (htk:PySem.W.takesIn K (.builtin "object.__class__")=some true)
  (hm:PySem.W.mroIn K C (.type "object")=some true):TyOf K H (.ref a) (.ref C)
theorem y3M{x:V}{u t:Value}(I:Inv X pins σ H s)(rx:RelV x u)(ty:TyOf X.K H x t)(e:PySem.W.kitOne X.K t c=some b)(h:∀ tk,Q (.bool b) { s with toks:=tk }) :
 wpAny (model X.prog X.w) A (call (.builtin "isinstance") [u,c]) Q E s:=by
 cases ty with
 | non=>cases (show u=Value.none from rx);exact PySem.W.kia_one PySem.W.kitx_none I.kIn True.intro e (fun z=>nomatch z) h
 | bl y=>cases (show u=Value.bool y from rx);exact PySem.W.kia_one PySem.W.kitx_bool I.kIn True.intro e (fun z=>nomatch z) h
 | int i=>obtain⟨t,q⟩:=(show ∃ t,u=Value.int i t from rx);cases q;exact PySem.W.kia_one PySem.W.kitx_int I.kIn True.intro e (fun z=>nomatch z) h
 | str y=>obtain⟨t,q⟩:=(show ∃ t,u=Value.str y t from rx);cases q;exact PySem.W.kia_one PySem.W.kitx_str I.kIn True.intro e (fun z=>nomatch z) h
 | flt y=>obtain⟨t,q⟩:=(show ∃ t,u=Value.float y t from rx);cases q;exact PySem.W.kia_one PySem.W.kitx_float I.kIn True.intro e (fun z=>nomatch z) h
 | @lst a xs ea =>
  cases (show u=Value.ref a from rx)
  obtain⟨_,_,n,_,h1⟩:=(show ObjOk X.prog X.w H s.heap a (.lst xs) from I.hok a _ ea)
  exact PySem.W.kia_one PySem.W.kitx_list I.kIn ⟨_,h1,rfl⟩ e (fun z=>nomatch z) h
 | @frz a ob xs ea =>
  cases (show u=Value.ref a from rx)
  obtain⟨_,_,_,n,_,h1⟩:=(show ObjOk X.prog X.w H s.heap a (.frz ob (.lst xs)) from I.hok a _ ea)
  exact PySem.W.kia_one PySem.W.kitx_list I.kIn ⟨_,h1,rfl⟩ e (fun z=>nomatch z) h
 | @tup a xs ea =>
  cases (show u=Value.ref a from rx)
  obtain⟨_,_,_,p⟩:=(show ObjOk X.prog X.w H s.heap a (.tup xs) from I.hok a _ ea)
  obtain⟨o,h1,h2,_⟩:=p
  exact PySem.W.kia_one PySem.W.kitx_tuple I.kIn ⟨o,h1,h2⟩ e (fun z=>nomatch z) h
 | @dK a kvs ea =>
  cases (show u=Value.ref a from rx)
  obtain⟨_,_,vs,_,p⟩:=(show ObjOk X.prog X.w H s.heap a (.dK kvs) from I.hok a _ ea)
  obtain⟨o,es,ep,h1,h2,_⟩:=p
  exact PySem.W.kia_one PySem.W.kitx_dict I.kIn ⟨o,h1,h2.1⟩ e (fun z=>nomatch z) h
 | @dT a kvs ea =>
  cases (show u=Value.ref a from rx)
  obtain⟨_,_,xs,_,o,es,ep,h1,h2,_⟩:=(show ObjOk X.prog X.w H s.heap a (.dT kvs) from I.hok a _ ea)
  exact PySem.W.kia_one PySem.W.kitx_dict I.kIn ⟨o,h1,h2.1⟩ e (fun z=>nomatch z) h
 | @ins a C dx fs ea cl ha hn htk hm =>
  cases (show u=Value.ref a from rx)
  obtain⟨mA,O,_⟩:=y8m I.hok ea
  obtain⟨od,J,_⟩:=O.look
  exact PySem.W.kia_one (PySem.W.kitx_own (cl.get _) cl.hd ha hn htk hm) I.kIn J e (fun z=>nomatch z) h
end
structure Room (k:Nat) (A:Around):Prop where
 hd:A.handled=none
 dp:A.depth + 3 * k + 5 < recursionLimit
 un:A.units + 16 * k + 200 < cLine
theorem Room.mono{j k:Nat}{A:Around}(r:Room k A)(h:j<=k):Room j A:=⟨r.hd,by have:=r.dp;omega,by have:=r.un;omega⟩
theorem Room.deeper{k:Nat}{A:Around}(r:Room (k + 1) A)(env:Env):Room k (A.deeper env) :=
 ⟨r.hd,by have:=r.dp;show A.depth + 1 + 3 * k + 5 < _;omega,by have:=r.un;show A.units + 3 + 16 * k + 200 < _;omega⟩
theorem y1D{A:Around}{C:Addr}{us:List Value}{kw:List (Str×Value)}:(A.under (.builtin "type.__call__" ⟨.ref C :: us,kw⟩)).depth=A.depth + 1:=by
 first | rfl | simp[Around.under,Code.weight,Code.isCreation,Code.isGuard,Code.isCaller,Code.frames,Code.isFrame,guardIds]
theorem y1C{A:Around}{C:Addr}{us:List Value}{kw:List (Str×Value)}:(A.under (.builtin "type.__call__" ⟨.ref C :: us,kw⟩)).units=A.units + 1:=by
 first | rfl | simp[Around.under,Code.cUnits,Code.frames,Code.isFrame]
theorem Room.make{k:Nat}{A:Around}(r:Room (k + 1) A)(C:Addr)(us:List Value)(kw:List (Str×Value)):Room k (A.under (.builtin "type.__call__" ⟨.ref C :: us,kw⟩)) :=
 ⟨r.hd,by have:=r.dp;rw[y1D];omega,by have:=r.un;rw[y1C];omega⟩
theorem Room.depth{k:Nat}{A:Around}(r:Room k A):A.depth < recursionLimit:=by have:=r.dp;omega
theorem Room.units{k:Nat}{A:Around}(r:Room k A):A.units + 64 < cLine:=by have:=r.un;omega
def z6F:TA:=fun _ H Q=>Q [] H
def z1J(ta:TE)(tr:TA):TA:=fun σ H Q=>ta σ H fun x H1=>tr σ H1 fun xs H2=>Q (x :: xs) H2
section
variable {X:Cx}{e:Expr}{es:List Expr}{te:TE}{t:TA}{pos:Pos}
theorem z0f:PA X [] z6F:=fun _ _ _ _ H Q I h=>Calls.spliced_nil ⟨[],H,I,.nil,h⟩
theorem z0a(ha:PE X e te)(hr:PA X es t)(hs:starEach (e :: es) X.env=(false,eval e X.env) :: starEach es X.env:=by rfl):PA X (e :: es) (z1J te t):=by
 intro pos pins s σ H Q I h
 rw[hs]
 show wpAny _ _ (spliced ((false,eval e X.env) :: backTo pos (starEach es X.env))) _ _ s
 refine Calls.spliced_cons (thn (ha pins s σ H _ I h) fun u s1 ⟨x,H1,I1,r1,q1⟩=>?_)
 exact thn (hr pos pins s1 σ H1 _ I1 q1) fun us s2 ⟨xs,H2,I2,r2,q2⟩=>⟨x :: xs,H2,I2,.cons r1 r2,q2⟩
def y7j(t:TA):TE:=fun σ H Q=>t σ H fun xs H1=>xs.length<=sizeLine/\∀ p,H1 p=none->Q (.ref p) (upd H1 p (.tup xs))
def x0G(t:TA):TE:=fun σ H Q=>t σ H fun xs H1=>xs.length<=sizeLine/\∀ p,H1 p=none->Q (.ref p) (upd H1 p (.lst xs))
theorem z1j{x1}(h:PA X es t):PE X (.Tuple es x1 pos) (y7j t):=by
 intro pins s σ H Q I hq
 refine wpAny_Tuple_spliced (thn (h pos pins s σ H _ I hq) fun us s1 ⟨xs,H1,I1,r,z,q⟩=>⟨by rw[<- r.length];exact z,?_⟩)
 have hf:H1 s1.heap.objs.size=none:=I1.hok.fresh (jF _)
 refine⟨.ref s1.heap.objs.size,upd H1 s1.heap.objs.size (.tup xs),I1.laid (t':=s1.toks) (fun b u e=>jD _ e) (jF _) ?_,rfl,q _ hf⟩
 exact⟨z,us,r,⟨_,jK _ rfl,rfl,_,rfl⟩⟩
theorem z2n(h:PA X es t):PE X (.List es pos) (x0G t):=by
 intro pins s σ H Q I hq
 refine wpAny_List_spliced (thn (h pos pins s σ H _ I hq) fun us s1 ⟨xs,H1,I1,r,z,q⟩=>⟨by rw[<- r.length];exact z,?_⟩)
 have hf:H1 s1.heap.objs.size=none:=I1.hok.fresh (jF _)
 refine⟨.ref s1.heap.objs.size,upd H1 s1.heap.objs.size (.lst xs),I1.laid (t':=s1.toks) (fun b u e=>jD _ e) (jF _) ?_,rfl,q _ hf⟩
 exact⟨z,us,0,r,jK _ rfl⟩
end
abbrev Sp:=List V->Hp->VK->XK->Prop
abbrev CXT:=List Env->Hp->Shared->XK->Value->Shared->Prop
structure Env0 (P:Program) (w:World) (K:PySem.W.Frag) (mg:Str->Option Value) (base:Heap) (A:Around) (outer:List Env) (s:Shared) (H:Hp):Prop where
 frames:A.frames=some outer
 mod:Mod K mg base
 bs:∀ b o,base.get? b=some o->s.heap.get? b=some o/\H b=none
 bsz:base.objs.size<=s.heap.objs.size
 funs:s.heap.FunFrames base outer
 frf:∀ b∈frs outer,H b=none
 hok:HOk P w H s.heap
 bare:AllBare s.gens
def CE(outer:List Env)(P:Program)(w:World)(H:Hp)(s:Shared)(Q:VK)(u:Value)(s':Shared):Prop :=
 ∃ v H',s'.os=s.os/\AllBare s'.gens/\Un (frs outer) [] H H' s.heap s'.heap/\HOk P w H' s'.heap/\RelV v u/\Q v H'
def CR(CX:CXT)(outer:List Env)(P:Program)(w:World)(H:Hp)(s:Shared)(Q:VK)(E:XK)(r:Result)(s':Shared):Prop :=
 match r with
 | .ok (.ret u)=>CE outer P w H s Q u s'
 | .ok _=>False
 | .error e=>CX outer H s E e s'
structure FnOk (P:Program) (w:World) (K:PySem.W.Frag) (mg:Str->Option Value) (base:Heap) (CX:CXT) (k:Nat) (f:Addr) (fd:FuncData) (ps:List Str) (sp:Sp):Prop where
 len:∀ vs H Q E,sp vs H Q E->vs.length=ps.length
 run:∀ (A:Around) (outer:List Env) (s:Shared) (H:Hp) (args:Args) (us:List Value) (vs:List V) (Q:VK) (E:XK),Room k A->Env0 P w K mg base A outer s H->BindsTo s fd args (ps.zip us)->Vals vs us->sp vs H Q E ->
  codeAny (model P w) A (.call (.ref f) args) (CR CX outer P w H s Q E) s
theorem Env0.make{P:Program}{w:World}{K:PySem.W.Frag}{mg:Str->Option Value}{base:Heap}{A:Around}{outer:List Env}{s:Shared}{H:Hp}(e:Env0 P w K mg base A outer s H)(C:Addr)(us:List Value)(kw:List (Str×Value)) :
 Env0 P w K mg base (A.under (.builtin "type.__call__" ⟨.ref C :: us,kw⟩)) outer s H:=⟨by first | exact e.frames | (simpa [Around.under,Code.envs,Code.isFrame,pushEnvs] using e.frames),e.mod,e.bs,e.bsz,e.funs,e.frf,e.hok,e.bare⟩
section
variable {X:Cx}{pins:List (Addr×Obj)}{σ:St}{H:Hp}{s s':Shared}
theorem Inv.env0(I:Inv X pins σ H s):Env0 X.prog X.w X.K X.mg X.base X.A X.stack s H :=
 ⟨I.ok.frames,I.ok.mod,I.bs,jc I.ok.bsz I.sz,I.stack,I.stkFree,I.hok,I.bare⟩
theorem Inv.after{Q:VK}{u:Value}(I:Inv X pins σ H s)(h:CE X.stack X.prog X.w H s Q u s'):EP X pins σ Q u s':=by
 obtain⟨v,H',os,bare,un,hok,r,q⟩:=h
 obtain⟨hh,g,d,t,os'⟩:=s'
 obtain rfl:os'=s.os:=os
 exact⟨v,H',I.call (h':=hh) (g':=g) (d':=d) (t':=t) (ch:=[]) un hok bare (fun b z=>absurd z (by simp)),r,q⟩
end
def y1k(sp:Sp)(dvs:List V)(E:XK)(t:TA):TE:=fun σ H Q=>t σ H fun vs H1=>sp (vs ++ dvs) H1 Q E
def Binds(K:PySem.W.Frag)(fd:FuncData)(ps:List Str)(ds:List Value):Prop :=
 ∀ (s:Shared) (us:List Value),K.In s.heap->(us ++ ds).length=ps.length->BindsTo s fd ⟨us,[]⟩ (ps.zip (us ++ ds))
theorem Binds.all{K:PySem.W.Frag}{fd:FuncData}{ps:List Str}(h:∀ us:List Value,us.length=ps.length->bindArgs fd ⟨us,[]⟩=pure (ps.zip us)):Binds K fd ps []:=fun s us _ hl=>by
 rw[List.append_nil]at hl ⊢
 exact .of_eq (h us hl)
def z5S(CX:CXT)(X:Cx)(E:XK):Prop:=∀ (pins:List (Addr×Obj)) (σ:St) (H:Hp) (s:Shared) (e:Value) (s':Shared),Inv X pins σ H s->CX X.stack H s E e s'->X.xe e s'
section
variable {X:Cx}{CX:CXT}{k:Nat}{f C:Addr}{fd:FuncData}{ps:List Str}{sp:Sp}{dvs:List V}{ds:List Value}{E:XK}{x m:Str}{p pos apos:Pos}{e o:Expr}{es:List Expr}{ta:TE}{t:TA}
theorem y9A{pins:List (Addr×Obj)}{σ:St}{H:Hp}{s:Shared}{Q:VK}{us:List Value}{vs:List V}(F:FnOk X.prog X.w X.K X.mg X.base CX k f fd ps sp)(hr:Room k X.A)(hb:Binds X.K fd ps ds)(hd:Vals dvs ds)(hx:z5S CX X E)
 (I:Inv X pins σ H s) (r:Vals vs us) (h:sp (vs ++ dvs) H Q E):wpAny (model X.prog X.w) X.A (call (.ref f) us) (EP X pins σ Q) X.xe s:=by
 have r2:Vals (vs ++ dvs) (us ++ ds):=r.append hd
 have hl:(us ++ ds).length=ps.length:=by rw[<- r2.length];exact F.len _ _ _ _ h
 refine wpAny_call (codeAny_mono (F.run X.A X.stack s H ⟨us,[]⟩ (us ++ ds) (vs ++ dvs) Q E hr I.env0 (hb s us I.kIn hl) r2 h) fun r s' hq=>?_)
 cases r with
 | error e=>exact hx pins σ H s e s' I hq
 | ok fl =>
  cases fl with
  | ret u=>exact I.after hq
  | next=>exact False.elim hq
  | brk=>exact False.elim hq
  | cont=>exact False.elim hq
theorem z9a(F:FnOk X.prog X.w X.K X.mg X.base CX k f fd ps sp)(hr:Room k X.A)(hg:Gl X x)(hm:X.mg x=some (.ref f))(hk:PySem.W.keepIn X.K (.ref f)=true)(hb:Binds X.K fd ps ds)(hd:Vals dvs ds)(hx:z5S CX X E)
 (ha:PA X (e :: es) t) (hdb:(x == ("__debug__" : Str))=false:=by decide) (he:starEach (e :: es) X.env=(false,eval e X.env) :: starEach es X.env:=by rfl) (hpl:(backTo pos (starEach es X.env)).any (·.1)=false:=by rfl) :
 PE X (.Call (.Name x p) (e :: es) [] pos) (y1k sp dvs E t):=by
 intro pins s σ H Q I h
 refine wpAny_Call_Name_kw (y3G I hg hm ?_ hdb)
 refine PySem.W.callWith_K (h₀:=X.base) I.ok.mod.kin hk (thn (ha pos pins s σ H _ I h) fun us s1 ⟨vs,H1,I1,r,q⟩=>⟨I1.kIn,?_⟩) he hpl
 exact y9A F hr hb hd hx I1 r q
end
structure FnScope (N P:List Str) (sc:Scope):Prop where
 kind:sc.kind = .function
 co:sc.isCoroutine=false
 gen:sc.isGenerator=false
 nd:N.Nodup
 pre:N.take P.length=P
 par:∀ x∈P,sc.names.lookup x=some .local\/sc.names.lookup x=some .cell
 nofree:∀ y∈sc.names,y.2 ≠ .free
theorem z8E{kindOf:Str->Option NameKind}{x:Str}:∀ {binds:List (Str×Value)}{m:Str->Option Value},(∀ v,(x,v)∉binds)->bindL kindOf binds m x=m x
 | [],_,_=>rfl
 | (n,v) :: r,m,h=>by
  unfold bindL
  rw[z8E fun w hw=>h w (jQ _ hw)]
  split
  · have:x≠n:=by rintro rfl;exact h v jX
    simp[this]
  · rfl
theorem z8G{kindOf:Str->Option NameKind}{x:Str}:∀ {binds:List (Str×Value)}{m:Str->Option Value},(∀ v,(x,v)∉binds)->bindC kindOf binds m x=m x
 | [],_,_=>rfl
 | (n,v) :: r,m,h=>by
  unfold bindC
  rw[z8G fun w hw=>h w (jQ _ hw)]
  split
  · rfl
  · have:x≠n:=by rintro rfl;exact h v jX
    simp[this]
theorem z8F{kindOf:Str->Option NameKind}{x:Str}{v:Value}:∀ {P:List Str}{vs:List Value}{i:Nat}{m:Str->Option Value},P.Nodup->P[i]? = some x->vs[i]? = some v->kindOf x=some .local ->
 bindL kindOf (P.zip vs) m x=some v
 | [],_,_,_,_,h,_,_=>by simp at h
 | _ :: _,[],_,_,_,_,h,_=>by simp at h
 | p :: P,w :: vs,0,m,nd,h1,h2,hk=>by
  simp at h1 h2;subst h1;subst h2
  show bindL kindOf ((p,w) :: P.zip vs) m p=_
  unfold bindL
  rw[z8E fun v hv=>(jy.mp nd).1 (List.of_mem_zip hv).1,if_pos hk]
  simp
 | p :: P,w :: vs,i + 1,m,nd,h1,h2,hk=>by
  show bindL kindOf ((p,w) :: P.zip vs) m x=_
  unfold bindL
  exact z8F (i:=i) (jy.mp nd).2 (by simpa using h1) (by simpa using h2) hk
theorem z8H{kindOf:Str->Option NameKind}{x:Str}{v:Value}:∀ {P:List Str}{vs:List Value}{i:Nat}{m:Str->Option Value},P.Nodup->P[i]? = some x->vs[i]? = some v->kindOf x≠some .local ->
 bindC kindOf (P.zip vs) m x=some v
 | [],_,_,_,_,h,_,_=>by simp at h
 | _ :: _,[],_,_,_,_,h,_=>by simp at h
 | p :: P,w :: vs,0,m,nd,h1,h2,hk=>by
  simp at h1 h2;subst h1;subst h2
  show bindC kindOf ((p,w) :: P.zip vs) m p=_
  unfold bindC
  rw[z8G fun v hv=>(jy.mp nd).1 (List.of_mem_zip hv).1,if_neg hk]
  simp
 | p :: P,w :: vs,i + 1,m,nd,h1,h2,hk=>by
  show bindC kindOf ((p,w) :: P.zip vs) m x=_
  unfold bindC
  exact z8H (i:=i) (jy.mp nd).2 (by simpa using h1) (by simpa using h2) hk
def z2w(N:List Str)(vs:List V):St:=vs.map some ++ List.replicate (N.length - vs.length) none
def y2g(CX:CXT)(P:Program)(w:World)(K:PySem.W.Frag)(mg:Str->Option Value)(base:Heap)(N:List Str)(qual:Str)(scope:Scope)(f:Addr)(cd:Value)(A:Around)(outer:List Env)(s:Shared)(H:Hp)(E:XK):Cx where
 prog:=P
 w:=w
 K:=K
 mg:=mg
 base:=base
 A:=A.deeper (envOfC qual scope s.heap.objs.size f cd)
 N:=N
 s₀:=s
 H₀:=H
 env:=envOfC qual scope s.heap.objs.size f cd
 outer:=outer
 stack:=envOfC qual scope s.heap.objs.size f cd :: outer
 ex:=[]
 calm:=true
 fn:=fun _=>true
 pn:=[]
 xe:=fun e s'=>wpAny (model P w) (A.deeper (envOfC qual scope s.heap.objs.size f cd)) (leaving (envOfC qual scope s.heap.objs.size f cd) e) (fun _ s''=>CX outer H s E e s'') (fun e' s''=>CX outer H s E e' s'') s'
theorem y0U{sc:Scope}{n:Nat}{x:Str}(h:sc.names.lookup x=some .cell):∃ c,(cellsFrom n sc.names []).lookup x=some c:=by
 have q:=PySem.W.cellsFrom_some sc.names n [] (.inl h)
 exact jw.mp q
theorem y3N{CX:CXT}{P:Program}{w:World}{K:PySem.W.Frag}{mg:Str->Option Value}{base:Heap}{N ps:List Str}{qual:Str}{scope:Scope}{f:Addr}{cd:Value}{A:Around}{outer:List Env}{s s1:Shared}{H:Hp}{E:XK}{us:List Value}{vs:List V}
 (S:FnScope N ps scope) (hd:A.handled=none) (e0:Env0 P w K mg base A outer s H) (hl:vs.length=ps.length) (r:Vals vs us)
 (x:InCallC s s.heap.objs.size (bindL (envOfC qual scope s.heap.objs.size f cd).kindOf (ps.zip us) fun _=>none) (cellsFrom (s.heap.objs.size + 1) scope.names []) (bindC (envOfC qual scope s.heap.objs.size f cd).kindOf (ps.zip us) fun _=>none) s1) :
 Inv (y2g CX P w K mg base N qual scope f cd A outer s H E) [] (z2w N vs) H s1:=by
 have hpl:ps.length<=N.length:=by have:=congrArg List.length S.pre;rw[jg]at this;omega
 obtain⟨h1,tk,rfl,hk⟩:=x.done
 have noA:∀ b:Addr,b∉(y2g CX P w K mg base N qual scope f cd A outer s H E).ex:=fun b z=>absurd (show b∈([]:List Addr) from z) (by simp)
 refine⟨⟨e0.mod,S.kind,rfl,rfl,jF _,fun y z c h1 h2=>?_,fun y hy=>?_,fun y c _ h=>?_,fun _=>hd,Around.frames_deeper e0.frames,.inr ⟨rfl,rfl⟩,fun b z=>absurd z (noA b),e0.bs,e0.bsz,fun b _ _=>noA b,fun b z=>absurd z (noA b),e0.funs,e0.frf⟩,
  rfl,e0.bare,Un.kept hk,⟨_,x.toInCall.ns,fun i y v h1 h2 h3=>?_⟩,fun y c h=>⟨_,x.cell y c h⟩,e0.hok.fresh (jF _),fun y c h=>?_,fun p hp=>absurd (show p∈([]:List (Addr×Obj)) from hp) (by simp),e0.hok.kept hk,?_⟩
 · exact name_of_addr x.apart (PySem.mem_of_lookup h1) (PySem.mem_of_lookup h2)
 · have hy:scope.names.lookup y=some .cell\/scope.names.lookup y=some .free:=hy
   rcases hy with hy | hy
   · exact y0U hy
   · exact absurd rfl (S.nofree _ (PySem.mem_of_lookup hy))
 · exact kE (x.above y c (PySem.mem_of_lookup h))
 · have hi:i < vs.length:=by
    unfold z2w at h2
    by_cases hi:i < vs.length
    · exact hi
    · rw[kC (by simpa using hi)]at h2
      rw[List.getElem?_replicate]at h2
      split at h2 <;> cases h2
   have ha:vs[i]? = some v:=by
    unfold z2w at h2
    rw[kG (by simpa using hi),jC]at h2
    cases e:vs[i]? with
    | none=>rw[e]at h2;cases h2
    | some a=>rw[e]at h2;cases h2;rfl
   obtain⟨u,hu,rv⟩:=r.get ha
   have hp:ps[i]? = some y:=by
    rw[<- S.pre,List.getElem?_take_of_lt (by omega)];exact h1
   have ndP:ps.Nodup:=by rw[<- S.pre];exact S.nd.sublist (List.take_sublist _ _)
   refine⟨u,rv,?_⟩
   rcases S.par y (jf hp) with k | k
   · exact .inl ⟨k,z8F ndP hp hu k⟩
   · obtain⟨c,e⟩:=y0U (n:=s.heap.objs.size + 1) k
     refine .inr ⟨.inl k,c,e,?_⟩
     have q:=x.cell y c e
     rw[z8H ndP hp hu (by show scope.names.lookup y≠_;rw[k];decide)]at q
     exact q
 · exact e0.hok.fresh (kE (x.above y c (PySem.mem_of_lookup h)))
 · unfold z2w
   show _=N.length
   rw[jJ,jA,List.length_replicate]
   omega
theorem x0u{CX:CXT}{P:Program}{w:World}{K:PySem.W.Frag}{mg:Str->Option Value}{base:Heap}{k:Nat}{f:Addr}{name qual:Str}{params:Arguments}{body:List Stmt}{scope:Scope}{dV kV doc pm cdv ct oc:Value}{an od:Option Addr}
 {osl:Array (Option Value)}{N ps:List Str}{sp:Sp} (lk:K.lookup f=some ⟨oc,od,.func (PySem.W.fnOf name qual params body scope dV kV doc pm an cdv ct),osl⟩) (hcd:PySem.W.codeIn K cdv qual=true) (S:FnScope N ps scope)
 (len:∀ vs H Q E,sp vs H Q E->vs.length=ps.length)
 (hbody:∀ (A:Around) (outer:List Env) (s:Shared) (H:Hp) (vs:List V) (Q:VK) (E:XK),Room k (A.deeper (envOfC qual scope s.heap.objs.size f cdv))->sp vs H Q E ->
  ∃ t,PSs (y2g CX P w K mg base N qual scope f cdv A outer s H E) body t/\t { nx:=fun _ H'=>Q .non H',rt:=Q } (z2w N vs) H) :
 FnOk P w K mg base CX (k + 1) f (PySem.W.fnOf name qual params body scope dV kV doc pm an cdv ct) ps sp:=by
 refine⟨len,fun A outer s H args us vs Q E hr e0 hb r hsp=>?_⟩
 have hl:=len _ _ _ _ hsp
 have KX:K.In s.heap:=e0.mod.kin.keeps fun b o e=>(e0.bs b o e).1
 have lim:s.heap.NoLimit:=e0.mod.nolimit.keeps fun b o e=>(e0.bs b o e).1
 have hkind:∀ y∈ps.zip us,scope.names.lookup y.1=some .local\/(scope.names.lookup y.1=some .cell/\((cellsFrom (s.heap.objs.size + 1) scope.names []).lookup y.1).isSome=true):=fun⟨n,v⟩ hy=>by
  rcases S.par n (List.of_mem_zip hy).1 with q | q
  · exact .inl q
  · exact .inr ⟨q,PySem.W.cellsFrom_some _ _ _ (.inl q)⟩
 refine codeAny_call_function hr.depth (KX _ _ lk) rfl S.co S.gen rfl (PySem.W.codeRec_of KX hcd) (hb _ _ _ _ ?_)
 refine wpAny_newFunctionEnv_cells S.kind hkind fun env he s1 x=>?_
 subst he
 refine⟨lim.keeps x.toInCall.keep,codeAny_func ?_⟩
 obtain⟨t,ht,hq⟩:=hbody A outer s H vs Q E (hr.deeper _) hsp
 have I:Inv (y2g CX P w K mg base N qual scope f cdv A outer s H E) [] (z2w N vs) H s1:=y3N S hr.hd e0 hl r x
 refine wpAny_mono (ht [] s1 (z2w N vs) H _ I hq) (fun fl s' hs=>?_) fun e s' hs=>hs
 have fin:∀ {σ':St}{H':Hp}{v:V}{u:Value},Inv (y2g CX P w K mg base N qual scope f cdv A outer s H E) [] σ' H' s'->RelV v u->Q v H'->CE outer P w H s Q u s' :=
  fun {σ' H' v u} J rv q=>⟨v,H',J.os,J.bare,J.base,J.hok,rv,q⟩
 cases fl with
 | ret u =>
  obtain⟨v,σ',H',J,rv,q⟩:=hs
  exact fin J rv q
 | next =>
  obtain⟨σ',H',J,q⟩:=hs
  exact fin (v:=V.non) (u:=Value.none) J rfl q
 | brk =>
  obtain⟨_,_,_,q⟩:=hs
  exact False.elim q
 | cont =>
  obtain⟨_,_,_,q⟩:=hs
  exact False.elim q
section
variable {X:Cx}{x:Str}{p pos:Pos}{e:Expr}{es:List Expr}{t:TA}{id T:String}{r:List V->Hp->VK->Prop}
def tCB(r:List V->Hp->VK->Prop)(t:TA):TE:=fun σ H Q=>t σ H fun vs H1=>r vs H1 Q
theorem z0u(hc:CallR X (.builtin id) r)(hg:Gl X x)(hm:X.mg x=none)(hv:bootBuiltins x=some (.builtin id))(ha:PA X (e :: es) t)(hn:x ≠ "__name__" := by decide)(hdb:(x == ("__debug__" : Str))=false:=by decide)
 (he:starEach (e :: es) X.env=(false,eval e X.env) :: starEach es X.env:=by rfl) (hpl:(backTo pos (starEach es X.env)).any (·.1)=false:=by rfl):PE X (.Call (.Name x p) (e :: es) [] pos) (tCB r t):=by
 intro pins s σ H Q I h
 refine wpAny_Call_Name_kw (z3g I hg hm hv ?_ hn hdb)
 exact PyProof.Rows.callWith_builtin1 (thn (ha pos pins s σ H _ I h) fun us s1 ⟨vs,H1,I1,r1,q1⟩=>hc pins s1 σ H1 vs us Q I1 r1 q1) he hpl
theorem z0K(hc:CallR X (.type T) r)(hg:Gl X x)(hm:X.mg x=none)(hv:bootBuiltins x=some (.type T))(ha:PA X (e :: es) t)(hn:x ≠ "__name__" := by decide)(hdb:(x == ("__debug__" : Str))=false:=by decide)
 (he:starEach (e :: es) X.env=(false,eval e X.env) :: starEach es X.env:=by rfl) (hpl:(backTo pos (starEach es X.env)).any (·.1)=false:=by rfl):PE X (.Call (.Name x p) (e :: es) [] pos) (tCB r t):=by
 intro pins s σ H Q I h
 refine wpAny_Call_Name_kw (z3g I hg hm hv ?_ hn hdb)
 exact PyProof.Rows.callWith_type1 (thn (ha pos pins s σ H _ I h) fun us s1 ⟨vs,H1,I1,r1,q1⟩=>hc pins s1 σ H1 vs us Q I1 r1 q1) he hpl
end
end L2
namespace HT
open PySem PyProof.Rows
def lexLt:List Int->List Int->Bool
 | [],[]=>false
 | [],_ :: _=>true
 | _ :: _,[]=>false
 | x :: xs,y :: ys=>if x=y then lexLt xs ys else decide (x < y)
theorem lexLt_cons(x y:Int)(xs ys:List Int):lexLt (x :: xs) (y :: ys)=if x=y then lexLt xs ys else decide (x < y):=rfl
theorem z7t:lexLt [] []=false:=rfl
theorem z6b(y:Int)(ys:List Int):lexLt [] (y :: ys)=true:=rfl
theorem lexLt_cons_nil(x:Int)(xs:List Int):lexLt (x :: xs) []=false:=rfl
theorem y5Y(A:Around)(s:Shared)(a:Int)(t:Tok)(c:Int)(u:Tok):∃ e,SeqAt.EqAt A s (.int a t) (.int c u) e/\(e=true↔a=c) :=
 ⟨(a == c),SeqAt.EqAt.int_int a t c u,by simp⟩
theorem y5j(A:Around)(s:Shared)(a:Int)(t:Tok)(c:Int)(u:Tok)(prog:Program)(w:World)(E:Value->Shared->Prop)(Q:Value->Shared->Prop)(h:Q (.bool (decide (a < c))) s) :
 wpAny (model prog w) A (richCompare .Lt (.int a t) (.int c u)) Q E s :=
 (PyProof.Rows.lt_int h:wpAny (model prog w) A (compareOp .Lt (.int a t) (.int c u)) Q E s)
section
open PySem.SeqAt
open PySem.AutoSeq1 (wpAny_loadPart')
open PySem.MeetsSeq PySem.MeetsSeq2 PySem.MeetsSeq3
theorem z6E(l b:Addr)(items items2:Array Value)(n n2:Nat)(dd dd2:Option Addr)(sl sl2:Array (Option Value))(ns ms:List Int)(hi:IntsAre items.toList ns)(hj:IntsAre items2.toList ms) :
 Meets (Builtin.«tuple.__lt__» ⟨[.ref l,.ref b],[]⟩)
  (fun _ R s=>s.heap.get? l=some { cls := .type "tuple",dict:=dd,data := .seq items n,slots:=sl }/\s.heap.get? b=some { cls := .type "tuple",dict:=dd2,data := .seq items2 n2,slots:=sl2 } /\
   R (.ok (.ret (.bool (lexLt ns ms)))) s) :=
 .of_wp fun prog w A R s h=>by
  obtain⟨hp,g,d,tk,os⟩:=s;obtain⟨hl,hb,h⟩:=h
  have f2:=AutoSeq1.sub_tuple_tuple
  have z1:items.size=ns.length:=by rw[<- hi.length];simp
  have z2:items2.size=ms.length:=by rw[<- hj.length];simp
  wp_walk using wpAny_loadPart' hl,wpAny_loadPart' hb,wpAny_forIn_list _ (fun rest b s'=>b.1=none/\s'=⟨hp,g,d,tk,os⟩/\∃ (vs ws:List Value) (ns' ms':List Int),rest=vs.zip ws /\
   IntsAre vs ns'/\IntsAre ws ms'/\ns'.length + items2.size=ms'.length + items.size/\R (.ok (.ret (.bool (lexLt ns' ms')))) ⟨hp,g,d,tk,os⟩) _
  case turn =>
   rintro⟨y,x⟩ rest b s' ⟨hb',rfl,vs,ws,ns',ms',hz,hvi,hwi,hlen,hR⟩
   cases hvi with
   | nil=>rw[List.zip_nil_left]at hz;cases hz
   | cons a t hvi' =>
    cases hwi with
    | nil=>rw[List.zip_nil_right]at hz;cases hz
    | cons c u hwi' =>
     rw[List.zip_cons_cons]at hz
     injection hz with hyx hrest
     injection hyx with hy hx
     subst hy hx
     rw[lexLt_cons]at hR
     simp only[jp]at hlen
     obtain⟨e,he,hiff⟩:=y5Y A.in1 ⟨hp,g,d,tk,os⟩ a t c u
     refine wpAny_bind (he prog w _ _ ?_)
     cases e with
     | true =>
      rw[if_pos (hiff.mp rfl)]at hR
      wp_walk
      exact⟨rfl,rfl,_,_,_,_,hrest,hvi',hwi',by omega,hR⟩
     | false =>
      rw[if_neg (fun q=>absurd (hiff.mpr q) jN)]at hR
      have hri:=y5j A.in1 ⟨hp,g,d,tk,os⟩ a t c u prog w
      wp_walk using hri
      exact⟨_,rfl,by simpa using hR⟩
  case fin =>
   rintro⟨b1,b2⟩ s' ⟨hb',rfl,vs,ws,ns',ms',hz,hvi,hwi,hlen,hR⟩
   simp only at hb'
   subst hb'
   have hv:lexLt ns' ms'=decide (items.size < items2.size):=by
    cases hvi with
    | nil =>
     cases hwi with
     | nil =>
      simp only[kX]at hlen
      rw[z7t]
      exact (decide_eq_false (by omega)).symm
     | cons c u hw =>
      simp only[kX,jp]at hlen
      rw[z6b]
      exact (decide_eq_true (by omega)).symm
    | cons a t hv =>
     cases hwi with
     | nil =>
      simp only[kX,jp]at hlen
      rw[lexLt_cons_nil]
      exact (decide_eq_false (by omega)).symm
     | cons c u hw =>
      rw[List.zip_cons_cons]at hz
      cases hz
   rw[hv]at hR
   wp_walk
   exact⟨_,rfl,by simpa [Builtin.Tuple.tupleCompareSizes] using hR⟩
  case h =>
   exact⟨rfl,rfl,items.toList,items2.toList,ns,ms,rfl,hi,hj,by omega,h⟩
end
section
variable {prog:Program}{w:World}{A:Around}{E:Value->Shared->Prop}{s:Shared}
theorem lt_tupInts{l b:Addr}{items items2:Array Value}{ns ms:List Int}{Q:Value->Shared->Prop}(hl:IsTup s.heap l items)(hb:IsTup s.heap b items2)(hi:IntsAre items.toList ns)(hj:IntsAre items2.toList ms)
 (hu:A.units < cLine) (h:Q (.bool (lexLt ns ms)) s):wpAny (model prog w) A (compareOp .Lt (.ref l) (.ref b)) Q E s:=by
 obtain⟨⟨cls,dd,data,sl⟩,ho,hc,n,hd⟩:=id hl
 obtain⟨⟨cls2,dd2,data2,sl2⟩,ho2,hc2,n2,hd2⟩:=id hb
 simp only at hc hd hc2 hd2
 subst hc hd hc2 hd2
 exact richCompare_meets_room (op := .Lt) ⟨_,ho,rfl⟩ ⟨_,ho2,rfl⟩ PySem.F.slot_tuple_lt PySem.F.entry_tuple_lt (PySem.F.args_tuple_lt_2 _ _) (z6E l b items items2 n n2 dd dd2 sl sl2 ns ms hi hj)
  ⟨ho,ho2,show Value.bool (lexLt ns ms)≠Value.notImplemented/\Q (.bool (lexLt ns ms)) s from ⟨(fun x=>nomatch x),h⟩⟩ hu
theorem cat_tup{t b:Addr}{vs ws:List Value}{Q:Value->Shared->Prop}(ht:IsTup s.heap t vs.toArray)(hb:IsTup s.heap b ws.toArray)(hv:vs≠[])
 (h1:ws=[]->Q (.ref t) s) (h2:ws≠[]->Q (.ref s.heap.objs.size) { s with heap:=s.heap.push { cls := .type "tuple",data := .seq (vs ++ ws).toArray } })
 (hsz:vs.length + ws.length<=sizeLine):wpAny (model prog w) A (binaryOp .Add (.ref t) (.ref b)) Q E s:=by
 obtain⟨⟨cls,dd,data,sl⟩,ho,hc,n,hd⟩:=id ht
 obtain⟨⟨cls2,dd2,data2,sl2⟩,ho2,hc2,n2,hd2⟩:=id hb
 simp only at hc hd hc2 hd2
 subst hc hd hc2 hd2
 have e:vs.toArray ++ ws.toArray=(vs ++ ws).toArray:=by simp
 by_cases hw:ws=[]
 · exact concat_meets ⟨_,ho,rfl⟩ ⟨_,ho2,rfl⟩ noFill_tuple_add seq_tuple_add PySem.F.slot_tuple_add PySem.F.entry_tuple_add (PySem.F.args_tuple_add_2 _ _)
    (tuple_addW1 t b vs.toArray ws.toArray n n2 dd dd2 sl sl2 (by simpa using hv) (by simp[hw])) ⟨ho,ho2,h1 hw⟩
 · refine concat_meets ⟨_,ho,rfl⟩ ⟨_,ho2,rfl⟩ noFill_tuple_add seq_tuple_add PySem.F.slot_tuple_add PySem.F.entry_tuple_add (PySem.F.args_tuple_add_2 _ _)
    (tuple_addW2 t b vs.toArray ws.toArray n n2 dd dd2 sl sl2 (by simpa using hv) (by simpa using hw) (by rw[jI,jI];exact hsz)) ⟨ho,ho2,?_⟩
   rw[e]
   exact h2 hw
def sIx(n d:Nat):Option Int->Nat
 | none=>d
 | some v=>if v < 0 then (v + (n:Int)).toNat else min v.toNat n
theorem sIx_none(n d:Nat):sIx n d none=d:=rfl
theorem sIx_nat(n d k:Nat):sIx n d (some (k:Int))=min k n:=by
 show (if (k:Int) < 0 then ((k:Int) + (n:Int)).toNat else min (k:Int).toNat n)=min k n
 rw[if_neg (by omega),jm]
theorem y9z(n d:Nat)(hd:d<=n)(o:Option Int):sIx n d o<=n:=by
 cases o with
 | none=>exact hd
 | some v =>
  show (if v < 0 then (v + (n:Int)).toNat else min v.toNat n)<=n
  by_cases hv:v < 0
  · rw[if_pos hv];omega
  · rw[if_neg hv];exact Nat.min_le_right _ _
theorem y4r(v:Int)(n d:Nat):(if v < 0 then max (v + (n:Int)) 0 else min v (n:Int))=((sIx n d (some v):Nat):Int):=by
 show (if v < 0 then max (v + (n:Int)) 0 else min v (n:Int))=(((if v < 0 then (v + (n:Int)).toNat else min v.toNat n):Nat):Int)
 by_cases hv:v < 0
 · simp only[if_pos hv];omega
 · simp only[if_neg hv];omega
theorem y1T(lo hi:Option Int)(n:Nat):Builtin.Slice.sliceAdjust lo hi 1 (n:Int)=(((sIx n 0 lo:Nat):Int),((sIx n n hi:Nat):Int)):=by
 have h1:¬ ((1:Int) < 0):=by omega
 unfold Builtin.Slice.sliceAdjust
 simp only[h1,if_false]
 refine Prod.ext ?_ ?_
 · cases lo with
   | none=>rfl
   | some v=>exact y4r v n 0
 · cases hi with
   | none=>rfl
   | some v=>exact y4r v n n
theorem y1o(i j:Nat):Builtin.Slice.slicePlaces (i:Int) (j:Int) 1=j - i:=by
 unfold Builtin.Slice.slicePlaces
 have h1:(1:Int) > 0:=by omega
 simp only[h1,if_true,Int.ediv_one]
 split <;> omega
theorem z6j{v:Value}{o:Option Int}{Q:Option Int->Shared->Prop}(p:IsPart v o)(h:Q o s):wpAny (model prog w) A (Builtin.Slice.slicePartIndex v) Q E s:=by
 cases p with
 | none=>exact slicePart_none h
 | int i t=>exact slicePart_int h
theorem z4W{sl:Addr}{vl vu:Value}{lo hi:Option Int}{n:Nat}{Q:Int×Int×Nat->Shared->Prop}(hs:s.heap.IsSliceOf sl vl vu .none)(pl:IsPart vl lo)(pu:IsPart vu hi)
 (h:Q (((sIx n 0 lo:Nat):Int),1,sIx n n hi - sIx n 0 lo) s):wpAny (model prog w) A (Builtin.Slice.sliceApplied (.ref sl) (pure (n:Int))) Q E s:=by
 obtain⟨os,hos,hcs,hds⟩:=id hs
 unfold Builtin.Slice.sliceApplied Builtin.Slice.sliceFields
 refine wpAny_bind (wpAny_bind (wpAny_field hos hds (x:=vl) rfl (wpAny_bind (wpAny_field hos hds (x:=vu) rfl (wpAny_bind (wpAny_field hos hds (x := .none) rfl (wpAny_pure ?_)))))))
 refine wpAny_bind (slicePart_none ?_)
 show wpAny _ _ (if ((1:Int) == 0)=true then _ else _) _ _ s
 rw[if_neg (by decide)]
 refine wpAny_bind (z6j pl (wpAny_bind (z6j pu (wpAny_bind (wpAny_pure ?_)))))
 show wpAny _ _ (match Builtin.Slice.sliceAdjust lo hi 1 (n:Int) with | (lo,hi)=>pure (lo,(1:Int),Builtin.Slice.slicePlaces lo hi 1)) _ _ s
 rw[y1T lo hi n]
 show wpAny _ _ (pure (((sIx n 0 lo:Nat):Int),(1:Int),Builtin.Slice.slicePlaces ((sIx n 0 lo:Nat):Int) ((sIx n n hi:Nat):Int) 1)) _ _ s
 rw[y1o]
 exact wpAny_pure h
theorem y5m(xs:Array Value)(i k:Nat):((List.range k).filterMap fun (m:Nat)=>xs[((i:Int) + (m:Int) * 1).toNat]?).toArray=((xs.toList.drop i).take k).toArray:=by
 have e:(fun (m:Nat)=>xs[((i:Int) + (m:Int) * 1).toNat]?)=fun m=>xs[i + m]? := by
  funext m
  have:((i:Int) + (m:Int) * 1).toNat=i + m:=by omega
  rw[this]
 rw[e]
 have:=pick_run xs i k
 rw[List.filterMap_map]at this
 have e2:((fun x=>xs[x]?) ∘ fun x=>i + x)=fun m=>xs[i + m]? := rfl
 rw[e2]at this
 rw[this]
theorem getItem_tuple_cut{t sl:Addr}{items:Array Value}{vl vu:Value}{lo hi:Option Int}{Q:Value->Shared->Prop}(ht:IsTup s.heap t items)(hs:s.heap.IsSliceOf sl vl vu .none)(pl:IsPart vl lo)(pu:IsPart vu hi)
 (hw:¬ (sIx items.size 0 lo=0/\sIx items.size items.size hi=items.size))
 (h:Q (.ref s.heap.objs.size) { s with heap:=s.heap.push { cls := .type "tuple",data := .seq ((items.toList.drop (sIx items.size 0 lo)).take (sIx items.size items.size hi - sIx items.size 0 lo)).toArray } })
 (hsz:items.size<=sizeLine):wpAny (model prog w) A (getItem (.ref t) (.ref sl)) Q E s:=by
 have htake:sizeOk (.seq ((items.toList.drop (sIx items.size 0 lo)).take (sIx items.size items.size hi - sIx items.size 0 lo)).toArray):=by
  show ((items.toList.drop (sIx items.size 0 lo)).take (sIx items.size items.size hi - sIx items.size 0 lo)).toArray.size<=sizeLine
  rw[jI,jg,List.length_drop,jT]
  omega
 have hj:sIx items.size items.size hi<=items.size:=y9z _ _ (jF _) hi
 obtain⟨os,hos,hcs,hds⟩:=id hs
 have hTs:s.TypeIs (.ref sl) "slice" := ⟨os,hos,hcs⟩
 unfold getItem
 try with_reducible refine wpAny_holding ?_
 first | refine wpAny_bind (wpAny_pure ?_) | skip
 refine wpAny_bind (wpAny_sequenceKey ht.typeIs (by decide) ?_)
 refine wpAny_bind (wpAny_callSpecial?_slot (name:=Str.ofString "__getitem__") ht.typeIs PyProof.Rows.slot_tuple_getitem
  (wpAny_call_entry PyProof.Rows.slot_tuple_getitem ht.typeIs entry_tuple_getitem ?_ (args_tuple_getitem _ _)))
 show wpAny _ _ (Builtin.Tuple.tupleItemsOf (.ref t) >>= _) _ _ s
 refine wpAny_bind (tupleItemsOf_ ht ?_)
 refine wpAny_bind (wpAny_typeOf hTs ?_)
 rw[if_pos (by decide)]
 refine wpAny_bind (z4W hs pl pu ?_)
 have hno:¬ ((((sIx items.size 0 lo:Nat):Int) == 0 && (1:Int) == 1 && (sIx items.size items.size hi - sIx items.size 0 lo) == items.size)=true):=by
  intro q
  rw[jz,jz]at q
  have q1:((sIx items.size 0 lo:Nat):Int)=0:=eq_of_beq q.1.1
  have q2:sIx items.size items.size hi - sIx items.size 0 lo=items.size:=eq_of_beq q.2
  exact hw ⟨by omega,by omega⟩
 show wpAny _ _ (if (((sIx items.size 0 lo:Nat):Int) == 0 && (1:Int) == 1 && (sIx items.size items.size hi - sIx items.size 0 lo) == items.size)=true then _ else _) _ _ s
 rw[if_neg hno,y5m]
 first
  | exact wpAny_bind (m:=Builtin.Tuple.tupleExact _) (wpAny_newObj_type (wpAny_pure ⟨_,rfl,wpAny_pure h⟩) htake)
  | exact wpAny_bind (m:=Builtin.Tuple.tupleExact _) (wpAny_newObj_type (wpAny_bind (wpAny_pure (wpAny_pure ⟨_,rfl,wpAny_pure h⟩))) htake)
  | exact wpAny_bind (wpAny_bind (m:=Builtin.Tuple.tupleExact _) (wpAny_newObj_type (wpAny_pure (wpAny_pure ⟨_,rfl,wpAny_pure h⟩)) htake))
  | exact wpAny_bind (wpAny_bind (m:=Builtin.Tuple.tupleExact _) (wpAny_newObj_type (wpAny_pure ⟨_,rfl,wpAny_pure h⟩) htake))
end
end HT
namespace L2
open PySem PySem.Spec PyProof.Rows
abbrev TO:=St->Hp->(Option Int->Hp->Prop)->Prop
def PO(X:Cx)(e:Option Expr)(t:TO):Prop :=
 ∀ (pins:List (Addr×Obj)) (s:Shared) (σ:St) (H:Hp) (Q:Option Int->Hp->Prop),Inv X pins σ H s->t σ H Q ->
  wpAny (model X.prog X.w) X.A (evalPart e X.env) (fun u s'=>∃ o H',Inv X pins σ H' s'/\IsPart u o/\Q o H') X.xe s
def y7l:TO:=fun _ H Q=>Q none H
def x0K(t:TE):TO:=fun σ H Q=>t σ H fun x H1=>∃ i,x = .int i/\Q (some i) H1
theorem z3D{ns:List Int}:∀ {us:List Value},Vals (ns.map V.int) us->IntsAre us ns:=by
 induction ns with
 | nil=>intro us r;rw[List.map_nil]at r;cases r;exact .nil
 | cons n ns ih =>
  intro us r
  rw[jj]at r
  cases r with
  | cons r1 r2 =>
   obtain⟨t,e⟩:=r1
   subst e
   exact .cons n t (ih r2)
section
variable {X:Cx}{e:Expr}{te:TE}{lo hi:Option Expr}{tl th:TO}{pos p2:Pos}
theorem z4z:PO X none y7l:=by
 intro pins s σ H Q I h
 rw[evalPart_none]
 exact wpAny_pure ⟨none,H,I,.none,h⟩
theorem z3c(h:PE X e te):PO X (some e) (x0K te):=by
 intro pins s σ H Q I hw
 rw[evalPart_some]
 refine thn (h pins s σ H _ I hw) fun u s1 ⟨x,H1,I1,r1,q1⟩=>?_
 obtain⟨i,rfl,q⟩:=q1
 obtain⟨t,rfl⟩:=r1
 exact⟨some i,H1,I1,.int i t,q⟩
def SlR(X:Cx)(r:V->Option Int->Option Int->Hp->VK->Prop):Prop :=
 ∀ (pins:List (Addr×Obj)) (s:Shared) (σ:St) (H:Hp) (x:V) (v vl vu:Value) (lo hi:Option Int) (sl:Addr) (Q:VK),Inv X pins σ H s->RelV x v->s.heap.IsSliceOf sl vl vu .none->IsPart vl lo->IsPart vu hi->r x lo hi H Q ->
  ∃ T id,typeLookup (.type T) "__getitem__" = pure (some (.builtin id))/\s.TypeIs v T/\wpAny (model X.prog X.w) X.A (getItem v (.ref sl)) (EP X pins σ Q) X.xe s
theorem SlR.or{r r':V->Option Int->Option Int->Hp->VK->Prop}(h:SlR X r)(h':SlR X r'):SlR X (fun x lo hi H Q=>r x lo hi H Q\/r' x lo hi H Q):=by
 intro pins s σ H x v vl vu lo hi sl Q I rx hs pl pu q
 rcases q with q | q
 · exact h pins s σ H x v vl vu lo hi sl Q I rx hs pl pu q
 · exact h' pins s σ H x v vl vu lo hi sl Q I rx hs pl pu q
def tSl(r:V->Option Int->Option Int->Hp->VK->Prop)(te:TE)(tl th:TO):TE:=fun σ H Q=>te σ H fun x H1=>tl σ H1 fun l H2=>th σ H2 fun u H3=>r x l u H3 Q
theorem z2N{r:V->Option Int->Option Int->Hp->VK->Prop}(hr:SlR X r)(he:PE X e te)(hl:PO X lo tl)(hu:PO X hi th):PE X (.Subscript e (.Slice lo hi none p2) pos) (tSl r te tl th):=by
 intro pins s σ H Q I h
 refine Subscript_ (thn (he pins s σ H _ I h) fun v s1 ⟨x,H1,I1,r1,q1⟩=>?_)
 refine wpAny_Slice (thn (hl pins s1 σ H1 _ I1 q1) fun vl s2 ⟨l,H2,I2,pl,q2⟩=>thn (hu pins s2 σ H2 _ I2 q2) fun vu s3 ⟨u,H3,I3,pu,q3⟩=>?_)
 rw[evalPart_none]
 refine wpAny_pure ?_
 have I4:Inv X pins σ H3 { s3 with heap:=s3.heap.push { cls := .type "slice",data := .fields #[vl,vu,.none] } }:=I3.kept (t':=s3.toks) fun b ob q=>jD _ q
 obtain⟨T,id,hT,ht,hg⟩:=hr pins { s3 with heap:=s3.heap.push { cls := .type "slice",data := .fields #[vl,vu,.none] } } σ H3 x v vl vu l u s3.heap.objs.size Q I4 r1 (Heap.IsSliceOf.new ..) pl pu q3
 show wpAny (model X.prog X.w) X.A (subscriptTail e (.Slice lo hi none p2) v (.ref s3.heap.objs.size)) (EP X pins σ Q) X.xe { s3 with heap:=s3.heap.push { cls := .type "slice",data := .fields #[vl,vu,.none] } }
 exact tail_any (ops:=[.ref s3.heap.objs.size,v]) ht hT hg (by with_unfolding_all rfl)
def y0O(xs:List V)(lo hi:Option Int):List V:=(xs.drop (HT.sIx xs.length 0 lo)).take (HT.sIx xs.length xs.length hi - HT.sIx xs.length 0 lo)
theorem z5R(xs:List V)(lo hi:Option Int):(y0O xs lo hi).length<=xs.length:=by
 unfold y0O
 rw[jg,List.length_drop]
 omega
def x1l(K:PySem.W.Frag):V->Option Int->Option Int->Hp->VK->Prop:=fun x lo hi H Q=>∃ a xs,x = .ref a/\SqT K H a xs /\
 ¬ (HT.sIx xs.length 0 lo=0/\HT.sIx xs.length xs.length hi=xs.length)/\∀ p,H p=none->Q (.ref p) (upd H p (.tup (y0O xs lo hi)))
theorem y9w:SlR X (x1l X.K):=by
 intro pins s σ H x v vl vu lo hi sl Q I rx hs pl pu h
 obtain⟨a,xs,rfl,hx,hw,q⟩:=h
 cases rx
 obtain⟨its,r,ht,hz⟩:=I.tuple hx
 have hlen:its.toArray.size=xs.length:=by rw[jI];exact r.length.symm
 refine⟨"tuple",_,PyProof.Rows.slot_tuple_getitem.lookup,ht.typeIs,?_⟩
 refine HT.getItem_tuple_cut ht hs pl pu (by rw[hlen];exact hw) ?_ (by rw[hlen];exact hz)
 rw[hlen]
 refine⟨.ref s.heap.objs.size,_,I.laid (t':=s.toks) (o := .tup (y0O xs lo hi)) (fun b ob q=>jD _ q) (jF _) ?_,rfl,q _ (I.hok.fresh (jF _))⟩
 exact⟨jc (z5R xs lo hi) hz,_,(r.drop (HT.sIx xs.length 0 lo)).take (HT.sIx xs.length xs.length hi - HT.sIx xs.length 0 lo),IsTup.new _ _⟩
def y9F(K:PySem.W.Frag):R2:=fun x y H Q=>∃ a b xs ys,x = .ref a/\y = .ref b/\SqT K H a xs/\SqT K H b ys/\xs≠[]/\xs.length + ys.length<=sizeLine /\
 (ys=[]->Q (.ref a) H)/\(ys≠[]->∀ p,H p=none->Q (.ref p) (upd H p (.tup (xs ++ ys))))
theorem Vals.nil_iff{xs:List V}{us:List Value}(r:Vals xs us):us=[]↔xs=[]:=by
 cases r with
 | nil=>simp
 | cons _ _=>simp
theorem y3q:OpR X (binaryOp .Add) (y9F X.K):=by
 intro pins s σ H x y v u Q I rx ry h
 obtain⟨a,b,xs,ys,rfl,rfl,ha,hb,hx,hz,q1,q2⟩:=h
 cases rx
 cases ry
 obtain⟨its,r1,p1,_⟩:=I.tuple ha
 obtain⟨its2,r2,p2,_⟩:=I.tuple hb
 refine HT.cat_tup p1 p2 (fun z=>hx (r1.nil_iff.mp z)) (fun z=>⟨.ref a,H,I,rfl,q1 (r2.nil_iff.mp z)⟩) (fun z=>?_) (by rw[<- r1.length,<- r2.length];exact hz)
 refine⟨.ref s.heap.objs.size,_,I.laid (t':=s.toks) (o := .tup (xs ++ ys)) (fun b ob q=>jD _ q) (jF _) ?_,rfl,q2 (fun w=>z (r2.nil_iff.mpr w)) _ (I.hok.fresh (jF _))⟩
 exact⟨by rw[jJ];exact hz,_,r1.append r2,IsTup.new _ _⟩
end
def ixN(n:Nat)(i:Int):Option Nat:=if 0<=i then (if i < n then some i.toNat else none) else if -(n:Int)<=i then some (i + n).toNat else none
def atI{α:Type}(xs:List α)(i:Int):Option α:=(ixN xs.length i).bind fun j=>xs[j]?
theorem y8l{n:Nat}{i:Int}{j:Nat}(h:ixN n i=some j):seqIndex? i n=some j/\j < n /\ -(n:Int)<=i/\i < n:=by
 unfold ixN at h
 by_cases h0:0<=i
 · rw[if_pos h0]at h
   by_cases h1:i < n
   · rw[if_pos h1]at h
     have e:i.toNat=j:=Option.some.inj h
     exact⟨by rw[seqIndex_of h0 h1,e],by omega,by omega,h1⟩
   · rw[if_neg h1]at h;cases h
 · rw[if_neg h0]at h
   by_cases h1 : -(n:Int)<=i
   · rw[if_pos h1]at h
     have e:(i + n).toNat=j:=Option.some.inj h
     exact⟨by rw[seqIndex_neg (by omega) h1,e],by omega,h1,by omega⟩
   · rw[if_neg h1]at h;cases h
theorem z9y{α:Type}{xs:List α}{i:Int}{v:α}(h:atI xs i=some v):∃ j,seqIndex? i xs.length=some j/\xs[j]? = some v/\j < xs.length /\ -(xs.length:Int)<=i/\i < xs.length:=by
 unfold atI at h
 cases e:ixN xs.length i with
 | none=>rw[e]at h;cases h
 | some j =>
  rw[e]at h
  obtain⟨h1,h2,h3,h4⟩:=y8l e
  exact⟨j,h1,h,h2,h3,h4⟩
theorem z0Y{α:Type}{xs:List α}{j:Nat}{v:α}(h:xs[j]? = some v):atI xs (j:Int)=some v:=by
 have hj:j < xs.length:=(jE.mp h).1
 have e:ixN xs.length (j:Int)=some j:=by
  unfold ixN
  rw[if_pos (by omega),if_pos (by omega)];simp
 unfold atI;rw[e];exact h
theorem z5o{α:Type}(xs:List α)(v:α):atI (xs ++ [v]) (-1)=some v:=by
 have hl:(xs ++ [v]).length=xs.length + 1:=by simp
 have e:ixN (xs ++ [v]).length (-1)=some xs.length:=by
  unfold ixN
  rw[hl,if_neg (by decide),if_pos (by omega)]
  congr 1
  omega
 unfold atI
 rw[e]
 show (xs ++ [v])[xs.length]? = some v
 simp
def y4w(b:Expr):Prop:=∀ o i,subscripted b false o i=operate [o,i] (getItem o i)
def IxR(X:Cx)(r:R2):Prop :=
 ∀ (value slice:Expr) (pins:List (Addr×Obj)) (s:Shared) (σ:St) (H:Hp) (x y:V) (v u:Value) (Q:VK),Inv X pins σ H s->RelV x v->RelV y u->r x y H Q ->
  subscripted slice false v u=operate [v,u] (getItem v u)->wpAny (model X.prog X.w) X.A (subscriptTail value slice v u) (EP X pins σ Q) X.xe s
def MtR(X:Cx)(id:String)(r:V->List V->Hp->VK->Prop):Prop :=
 ∀ (pins:List (Addr×Obj)) (s:Shared) (σ:St) (H:Hp) (x:V) (xs:List V) (v:Value) (us:List Value) (Q:VK),Inv X pins σ H s->RelV x v->Vals xs us->r x xs H Q ->
  wpAny (model X.prog X.w) X.A (call (.builtin id) (v :: us)) (EP X pins σ Q) X.xe s
section
variable {X:Cx}{a b:Expr}{ta tb:TE}{pos:Pos}
theorem IxR.or{r r':R2}(h:IxR X r)(h':IxR X r'):IxR X (fun x y H Q=>r x y H Q\/r' x y H Q):=by
 intro value slice pins s σ H x y v u Q I rx ry q hs
 rcases q with q | q
 · exact h value slice pins s σ H x y v u Q I rx ry q hs
 · exact h' value slice pins s σ H x y v u Q I rx ry q hs
theorem z0s{r:R2}(hr:IxR X r)(ha:PE X a ta)(hb:PE X b tb)(hs:y4w b):PE X (.Subscript a b pos) (tOp r ta tb):=by
 intro pins s σ H Q I h
 exact Subscript_ (x1c ha hb I h fun v u s2 x y H2 I2 rx ry q=>hr a b pins s2 σ H2 x y v u Q I2 rx ry q (hs _ _))
def x1p(K:PySem.W.Frag):R2:=fun x y H Q=>∃ p xs i v,x = .ref p/\y = .int i/\SqL K H p xs/\atI xs i=some v/\Q v H
def x1n(K:PySem.W.Frag):R2:=fun x y H Q=>∃ p xs i v,x = .ref p/\y = .int i/\SqT K H p xs/\atI xs i=some v/\Q v H
def x1o:R2:=fun x y H Q=>∃ z i c,x = .str z/\y = .int i/\z.length<=sizeLine/\atI z.cps.toList i=some c/\Q (.str ⟨#[c]⟩) H
theorem y8k:IxR X (x1p X.K):=by
 intro value slice pins s σ H x y v u Q I rx ry h hs
 obtain⟨p,xs,i,z,rfl,rfl,hq,he,q⟩:=h
 cases rx
 obtain⟨t,rfl⟩:=ry
 obtain⟨its,r,pl,hz⟩:=I.list hq
 obtain⟨j,h1,h2,h3,h4,h5⟩:=z9y he
 obtain⟨w,ew,rw'⟩:=r.get h2
 have hl:=r.length
 have hn:=z8m
 have fin:EP X pins σ Q w s:=⟨z,H,I,rw',q⟩
 by_cases h0:0<=i
 · have hj:i.toNat=j:=by
    rw[seqIndex_of h0 h5]at h1
    exact Option.some.inj h1
   exact item_listR pl.isList h0 (by omega) (by rw[hj];simpa using ew) fin hs
 · have hj:(i + (its.toArray.size:Int)).toNat=j:=by
    rw[seqIndex_neg (by omega) h4]at h1
    rw[jI,<- hl]
    exact Option.some.inj h1
   exact subscriptTail_builtinR (x:=w) pl.isList.typeIs slot_list_getitem.lookup
    (wpAny_getItem_list_neg (Q:=fun r s'=>r=w/\EP X pins σ Q r s') pl.isList (by omega) (by rw[jI] <;> omega) (by omega) (by rw[hj];simpa using ew) ⟨rfl,fin⟩) hs
theorem x0l:IxR X (x1n X.K):=by
 intro value slice pins s σ H x y v u Q I rx ry h hs
 obtain⟨p,xs,i,z,rfl,rfl,hq,he,q⟩:=h
 cases rx
 obtain⟨t,rfl⟩:=ry
 obtain⟨its,r,pl,hz⟩:=I.tuple hq
 obtain⟨j,h1,h2,h3,h4,h5⟩:=z9y he
 obtain⟨w,ew,rw'⟩:=r.get h2
 have hl:=r.length
 have hn:=z8m
 have fin:EP X pins σ Q w s:=⟨z,H,I,rw',q⟩
 exact subscriptTail_builtinR (x:=w) pl.typeIs slot_tuple_getitem.lookup
  (getItem_tuple (j:=j) (Q:=fun r s'=>r=w/\EP X pins σ Q r s') pl (by omega) (by omega) (by rw[jI,<- hl];exact h1) (by simpa using ew) ⟨rfl,fin⟩) hs
theorem x0m:IxR X x1o:=by
 intro value slice pins s σ H x y v u Q I rx ry h hs
 obtain⟨z,i,c,rfl,rfl,hz,he,q⟩:=h
 obtain⟨t,rfl⟩:=rx
 obtain⟨t',rfl⟩:=ry
 obtain⟨j,h1,h2,h3,h4,h5⟩:=z9y he
 have hl:z.cps.toList.length=z.length:=by simp[Str.length]
 rw[hl]at h1 h4 h5
 have hn:=z8m
 exact tail_any (typeIs_str s z t) slot_str_getitem.lookup (getItem_str (c:=c) (by
  have e1:decide (i < -(2 ^ 63:Int))=false:=decide_eq_false (by omega)
  have e2:decide (i ≥ 2 ^ 63)=false:=decide_eq_false (by omega)
  rw[e1,e2,Bool.or_false]) (by rw[h1];simpa using h2) ⟨.str ⟨#[c]⟩,H,I.tok _,⟨_,rfl⟩,q⟩) hs
def rIx(K:PySem.W.Frag):R2:=fun x y H Q=>x1p K x y H Q\/x1n K x y H Q\/x1o x y H Q
theorem x0n:IxR X (rIx X.K):=y8k.or (x0l.or x0m)
theorem z7V(lo hi:Option Int)(n:Nat):(sliceBounds lo hi none n).1=((HT.sIx n 0 lo:Nat):Int)/\(sliceBounds lo hi none n).2.1=((HT.sIx n n hi:Nat):Int)/\(sliceBounds lo hi none n).2.2=1:=by
 refine⟨?_,?_,rfl⟩
 · cases lo with
   | none=>simp[sliceBounds,HT.sIx]
   | some i =>
    simp only[sliceBounds,HT.sIx,Option.getD_none,show (1:Int) > 0 by decide,if_true]
    by_cases h:i < 0
    · simp only[h,if_true] <;> omega
    · simp only[h,if_false] <;> omega
 · cases hi with
   | none=>simp[sliceBounds,HT.sIx]
   | some i =>
    simp only[sliceBounds,HT.sIx,Option.getD_none,show (1:Int) > 0 by decide,if_true]
    by_cases h:i < 0
    · simp only[h,if_true] <;> omega
    · simp only[h,if_false] <;> omega
theorem z6O(its:List Value)(lo hi:Option Int):slicePick its.toArray lo hi none=((its.drop (HT.sIx its.length 0 lo)).take (HT.sIx its.length its.length hi - HT.sIx its.length 0 lo)).toArray:=by
 obtain⟨h1,h2,h3⟩:=z7V lo hi its.toArray.size
 unfold slicePick
 rw[h1,h2,h3]
 simp only[sliceRange_one,pick_run,jI] <;> rfl
def x1m(K:PySem.W.Frag):V->Option Int->Option Int->Hp->VK->Prop:=fun x lo hi H Q=>∃ a xs,x = .ref a/\SqL K H a xs/\∀ p,H p=none->Q (.ref p) (upd H p (.lst (y0O xs lo hi)))
theorem y7v:SlR X (x1m X.K):=by
 intro pins s σ H x v vl vu lo hi sl Q I rx hs pl pu h
 obtain⟨a,xs,rfl,hx,q⟩:=h
 cases rx
 obtain⟨its,r,ht,hz⟩:=I.list hx
 have hlen:=r.length
 refine⟨"list",_,slot_list_getitem.lookup,ht.isList.typeIs,?_⟩
 refine wpAny_getItem_list_slice ht.isList hs pl pu .none (by simp) ?_ (by rw[jI] <;> omega)
 rw[z6O,<- hlen]
 refine⟨.ref s.heap.objs.size,_,I.laid (t':=s.toks) (o := .lst (y0O xs lo hi)) (fun b ob q=>jD _ q) (jF _) ?_,rfl,q _ (I.hok.fresh (jF _))⟩
 exact⟨jc (z5R xs lo hi) hz,_,0,(r.drop (HT.sIx xs.length 0 lo)).take (HT.sIx xs.length xs.length hi - HT.sIx xs.length 0 lo),jK _ rfl⟩
def z4F:V->Bool
 | .non=>true
 | .bl _=>true
 | .int _=>true
 | .str _=>true
 | _=>false
def eqV:V->V->Bool
 | .non,.non=>true
 | .bl a,.bl b=>a == b
 | .bl a,.int b=>(if a then 1 else 0) == b
 | .int a,.bl b=>a == (if b then 1 else 0)
 | .int a,.int b=>a == b
 | .str a,.str b=>a == b
 | _,_=>false
theorem x0w{A:Around}{s:Shared}{y x:V}{u v:Value}(ry:RelV y u)(rx:RelV x v)(fy:z4F y=true)(fx:z4F x=true):SeqAt.EqAt A s u v (eqV y x):=by
 cases y with
 | non =>
  cases ry
  cases x with
  | non=>cases rx;exact SeqAt.EqAt.same _
  | bl b=>cases rx;exact SeqAt.EqAt.none_bool b
  | int b=>obtain⟨t,rfl⟩:=rx;exact SeqAt.EqAt.none_int b t
  | str b=>obtain⟨t,rfl⟩:=rx;exact SeqAt.EqAt.none_str b t
  | _=>exact absurd (show false=true from fx) jN
 | bl a =>
  cases ry
  cases x with
  | non=>cases rx;exact SeqAt.EqAt.bool_none a
  | bl b=>cases rx;exact SeqAt.EqAt.bool_bool a b
  | int b=>obtain⟨t,rfl⟩:=rx;exact SeqAt.EqAt.bool_int a b t
  | str b=>obtain⟨t,rfl⟩:=rx;exact SeqAt.EqAt.bool_str a b t
  | _=>exact absurd (show false=true from fx) jN
 | int a =>
  obtain⟨t',rfl⟩:=ry
  cases x with
  | non=>cases rx;exact SeqAt.EqAt.int_none a t'
  | bl b=>cases rx;exact SeqAt.EqAt.int_bool a t' b
  | int b=>obtain⟨t,rfl⟩:=rx;exact SeqAt.EqAt.int_int a t' b t
  | str b=>obtain⟨t,rfl⟩:=rx;exact SeqAt.EqAt.int_str a t' b t
  | _=>exact absurd (show false=true from fx) jN
 | str a =>
  obtain⟨t',rfl⟩:=ry
  cases x with
  | non=>cases rx;exact SeqAt.EqAt.str_none a t'
  | bl b=>cases rx;exact SeqAt.EqAt.str_bool a t' b
  | int b=>obtain⟨t,rfl⟩:=rx;exact SeqAt.EqAt.str_int a t' b t
  | str b=>obtain⟨t,rfl⟩:=rx;exact SeqAt.EqAt.str_str a t' b t
  | _=>exact absurd (show false=true from fx) jN
 | _=>exact absurd (show false=true from fy) jN
def eqU(x:V)(u:Value):Bool:=match u with
 | .none=>eqV .non x
 | .bool b=>eqV (.bl b) x
 | .int i _=>eqV (.int i) x
 | .str z _=>eqV (.str z) x
 | _=>false
theorem y4c{x y:V}{u:Value}(r:RelV y u)(f:z4F y=true):eqU x u=eqV y x:=by
 cases y with
 | non=>cases r;rfl
 | bl b=>cases r;rfl
 | int i=>obtain⟨t,rfl⟩:=r;rfl
 | str z=>obtain⟨t,rfl⟩:=r;rfl
 | _=>exact absurd (show false=true from f) jN
theorem z9z{x:V}:∀ {xs:List V}{us:List Value},Vals xs us->xs.all z4F=true->us.any (eqU x)=xs.any fun y=>eqV y x
 | _,_,.nil,_=>rfl
 | y :: xs,u :: us,.cons r t,f=>by
  rw[List.all_cons,jz]at f
  rw[kZ,kZ,y4c r f.1,z9z t f.2]
theorem z5l{A:Around}{s:Shared}{x:V}{v:Value}(rx:RelV x v)(fx:z4F x=true):∀ {xs:List V}{us:List Value},Vals xs us->xs.all z4F=true->∀ u∈us,SeqAt.EqAt A s u v (eqU x u)
 | _,_,.nil,_=>fun u hu=>by cases hu
 | y :: xs,u :: us,.cons r t,f=>fun u' hu=>by
  rw[List.all_cons,jz]at f
  rcases jH.mp hu with rfl | hu
  · rw[y4c r f.1];exact x0w r rx f.1 fx
  · exact z5l rx fx t f.2 u' hu
def inV(x:V)(xs:List V):Bool:=xs.any fun y=>eqV y x
def rIn(K:PySem.W.Frag)(neg:Bool):R2:=fun x y H Q=>∃ p xs,y = .ref p/\(SqL K H p xs\/SqT K H p xs)/\z4F x=true/\xs.all z4F=true/\Q (.bl (if neg then !inV x xs else inV x xs)) H
theorem z8j:OpR X (compareOp .NotIn) (rIn X.K true):=by
 intro pins s σ H x y v u Q I rx ry h
 obtain⟨p,xs,rfl,hq,fx,fs,q⟩:=h
 cases ry
 rcases hq with hq | hq
 · obtain⟨its,r,pl,hz⟩:=I.list hq
   refine SeqAt.notIn_listAt (eqU x) pl.isList (fun w hw=>z5l rx fx r fs w (by simpa using hw)) ⟨.bl _,H,I,rfl,?_⟩
   rw[show its.toArray.any (eqU x)=its.any (eqU x) by simp,z9z r fs]
   exact q
 · obtain⟨its,r,pl,hz⟩:=I.tuple hq
   refine SeqAt.notIn_tupleAt (eqU x) pl (fun w hw=>z5l rx fx r fs w (by simpa using hw)) ⟨.bl _,H,I,rfl,?_⟩
   rw[show its.toArray.any (eqU x)=its.any (eqU x) by simp,z9z r fs]
   exact q
theorem CallR.or{f:Value}{r r':List V->Hp->VK->Prop}(h:CallR X f r)(h':CallR X f r'):CallR X f (fun xs H Q=>r xs H Q\/r' xs H Q):=by
 intro pins s σ H xs us Q I rs q
 rcases q with q | q
 · exact h pins s σ H xs us Q I rs q
 · exact h' pins s σ H xs us Q I rs q
theorem z8C:CallR X (.type "list") (fun xs H Q=>∃ p ys,xs=[.ref p]/\(SqL X.K H p ys\/SqT X.K H p ys)/\∀ l,H l=none->Q (.ref l) (upd H l (.lst ys))):=by
 intro pins s σ H xs us Q I r h
 obtain⟨p,ys,rfl,hq,q⟩:=h
 obtain⟨u,rfl,rx⟩:=z3L r
 cases rx
 have fin:∀ (its:List Value),Vals ys its->ys.length<=sizeLine->∀ (h':Heap) (c':Nat),(∀ b o',s.heap.get? b=some o'->h'.get? b=some o') ->
  h'.get? s.heap.objs.size=some { cls := .type "list",dict:=none,data := .seq its.toArray c',slots:=#[] }->EP X pins σ Q (.ref s.heap.objs.size) { s with heap:=h' }:=fun its r' hz h' c' kp e =>
  ⟨.ref s.heap.objs.size,_,I.laid (t':=s.toks) kp (jF _) (show ObjOk X.prog X.w _ h' _ (.lst ys) from ⟨hz,its,c',r',e⟩),rfl,q _ (I.hok.fresh (jF _))⟩
 rcases hq with hq | hq
 · obtain⟨its,r',pl,hz⟩:=I.list hq
   have hlen:=r'.length
   obtain⟨o,ho,hc,n,hd⟩:=pl.isList
   exact call_list_seq p (.inl rfl) ho hc hd (fun h' c' kp e=>fin its r' hz h' c' kp e) (by simp only[jI] <;> omega)
 · obtain⟨its,r',pl,hz⟩:=I.tuple hq
   have hlen:=r'.length
   obtain⟨o,ho,hc,n,hd⟩:=pl
   exact call_list_seq p (.inr rfl) ho hc hd (fun h' c' kp e=>fin its r' hz h' c' kp e) (by simp only[jI] <;> omega)
theorem z7D:CallR X (.type "tuple") (fun xs H Q=>∃ p ys,xs=[.ref p]/\((SqL X.K H p ys/\∀ l,H l=none->Q (.ref l) (upd H l (.tup ys)))\/(SqT X.K H p ys/\Q (.ref p) H))):=by
 intro pins s σ H xs us Q I r h
 obtain⟨p,ys,rfl,h⟩:=h
 obtain⟨u,rfl,rx⟩:=z3L r
 cases rx
 rcases h with ⟨hq,q⟩ | ⟨hq,q⟩
 · obtain⟨its,r',pl,hz⟩:=I.list hq
   have hlen:=r'.length
   refine call_tuple_list pl.isList (fun h' kp=>?_) (by simp only[jI] <;> omega)
   have I1:Inv X pins σ H { s with heap:=h' }:=I.kept (t':=s.toks) kp
   have I2:Inv X pins σ (upd H h'.objs.size (.tup ys)) { s with heap:=h'.push { cls := .type "tuple",data := .seq its.toArray } } :=
    I1.laid (t':=s.toks) (fun b o e=>jD _ e) (jF _) (show ObjOk X.prog X.w _ _ _ (.tup ys) from ⟨hz,its,r',IsTup.new _ _⟩)
   exact⟨.ref h'.objs.size,_,I2,rfl,q _ (I1.hok.fresh (jF _))⟩
 · obtain⟨its,r',pl,hz⟩:=I.tuple hq
   exact call_tuple_same pl ⟨.ref p,H,I,rfl,q⟩
def tyV(K:PySem.W.Frag)(T:String)(x:V)(H:Hp):Prop:=match x with
 | .str _=>T = "str"
 | .int _=>T = "int"
 | .ref p=>(T = "list" /\ ∃ xs,SqL K H p xs)\/(T = "tuple" /\ ∃ o,K.lookup p=some o/\o.cls = .type "tuple" /\ o.dict=none) \/
  (T = "dict" /\ ((∃ kvs,H p=some (.dK kvs))\/∃ kvs,H p=some (.dT kvs)))\/(T = "set" /\ ∃ S n,H p=some (.set S n))
 | _=>False
theorem y9j{pins:List (Addr×Obj)}{σ:St}{H:Hp}{s:Shared}{T:String}{x:V}{v:Value}(I:Inv X pins σ H s)(r:RelV x v)(ty:tyV X.K T x H) :
 s.TypeIs v T/\∀ a,v = .ref a->∃ ob,s.heap.get? a=some ob/\ob.dict=none:=by
 cases x with
 | str z =>
  obtain⟨t,rfl⟩:=r
  cases (show T = "str" from ty)
  exact⟨typeIs_str s z t,fun _ e=>nomatch e⟩
 | int i =>
  obtain⟨t,rfl⟩:=r
  cases (show T = "int" from ty)
  exact⟨typeIs_int s i t,fun _ e=>nomatch e⟩
 | ref p =>
  cases r
  rcases ty with ⟨rfl,xs,hq⟩ | ⟨rfl,o,hk,hc,hd⟩ | ⟨rfl,hk⟩ | ⟨rfl,S,n,hk⟩
  · obtain⟨its,_,pl,_⟩:=I.list hq
    refine⟨pl.isList.typeIs,fun a e=>?_⟩
    cases e
    obtain⟨o,n,e,c,hd,_⟩:=pl
    exact⟨o,e,hd⟩
  · refine⟨⟨o,I.kIn p o hk,hc⟩,fun a e=>?_⟩
    cases e
    exact⟨o,I.kIn _ o hk,hd⟩
  · have z:∃ o,s.heap.get? p=some o/\o.ExactDict:=by
     rcases hk with ⟨kvs,hk⟩ | ⟨kvs,hk⟩
     · obtain⟨_,_,_,_,o,_,_,e,ex,_⟩:=I.hok p _ hk
       exact⟨o,e,ex⟩
     · obtain⟨_,_,_,_,o,_,_,e,ex,_⟩:=I.hok p _ hk
       exact⟨o,e,ex⟩
    obtain⟨o,e,ex⟩:=z
    refine⟨⟨o,e,ex.1⟩,fun a e2=>?_⟩
    cases e2
    exact⟨o,e,ex.2.1⟩
  · obtain⟨o,_,_,_,e,ex,_⟩:=I.hok p _ hk
    refine⟨⟨o,e,ex.1⟩,fun a e2=>?_⟩
    cases e2
    exact⟨o,e,ex.2.1⟩
 | _=>exact False.elim ty
def tBM(K:PySem.W.Frag)(T:String)(r:V->List V->Hp->VK->Prop)(to:TE)(t:TA):TE:=fun σ H Q=>to σ H fun x H1=>tyV K T x H1/\t σ H1 fun xs H2=>r x xs H2 Q
variable {o e:Expr}{es:List Expr}{to:TE}{t:TA}{name:Str}{apos cpos:Pos}{T id:String}{r:V->List V->Hp->VK->Prop}
theorem z7g(pa:PlainAttrs T)(slot:Slot T name id)(hty:typeOf (.builtin id)=pure (.type "method_descriptor"))(hm:MtR X id r)(ho:PE X o to)(ha:PA X (e :: es) t)
 (hbase:attributeBase o name X.env (eval o X.env)=eval o X.env:=by rfl)
 (hfew:((backTo cpos (starEach (e :: es) X.env)).all (fun x => !x.1) && (backToKw cpos (keywordEach [] X.env)).all (fun x=>x.1.isSome)
  && decide ((e :: es).length + ([]:List Keyword).length + (if ([]:List Keyword).isEmpty then 0 else 1) < 30))=true:=by rfl)
 (hline:(apos.endLine == cpos.line)=true:=by rfl) (hs:starEach (e :: es) X.env=(false,eval e X.env) :: starEach es X.env:=by rfl) (hplain:(backTo cpos (starEach es X.env)).any (·.1)=false:=by rfl) :
 PE X (.Call (.Attribute o name apos) (e :: es) [] cpos) (tBM X.K T r to t):=by
 intro pins s σ H Q I h
 refine wpAny_Call_method_late hbase hfew hline rfl (thn (ho pins s σ H _ I h) fun v s1 ⟨x,H1,I1,r1,ty,q1⟩=>?_)
 obtain⟨h1,h2⟩:=y9j I1 r1 ty
 refine⟨T,id,pa,slot,hty,h1,h2,?_⟩
 have hA:=ha cpos pins s1 σ H1 _ I1 q1
 rw[hs]at hA ⊢
 refine Calls.callWith_builtin (by show (false || (backTo cpos (starEach es X.env)).any (·.1))=false;rw[hplain] <;> rfl) (Calls.evalArgs_plain ?_)
 exact thn hA fun us s2 ⟨vs,H2,I2,r2,q2⟩=>hm pins s2 σ H2 x vs v us Q I2 r1 r2 q2
end
def MtM(X:Cx)(id:String)(r:V->List V->Hp->VK->Prop):Prop :=
 ∀ (pins:List (Addr×Obj)) (s:Shared) (σ:St) (H:Hp) (x:V) (xs:List V) (v:Value) (us:List Value) (Q:VK),Inv X pins σ H s->RelV x v->Vals xs us->r x xs H Q ->
  wpAny (model X.prog X.w) X.A (call (.builtin id) (v :: us)) (EP X pins σ Q) X.xe s
theorem Vals.one:∀ {x:V}{us:List Value},Vals [x] us->∃ u,us=[u]/\RelV x u
 | _,_,.cons r .nil=>⟨_,rfl,r⟩
section
variable {X:Cx}{pins:List (Addr×Obj)}{σ:St}{H:Hp}{s:Shared}{l b:Addr}{xs ys zs:List V}
theorem Inv.lset{its its':List Value}{n:Nat}{f:Array Value->Array Value}{t':Nat}(I:Inv X pins σ H s)(hH:H l=some (.lst xs))
 (e:s.heap.get? l=some { cls := .type "list",data := .seq its.toArray n }) (hf:f its.toArray=its'.toArray) (hv:Vals ys its') (hz:ys.length<=sizeLine) :
 Inv X pins σ (upd H l (.lst ys)) { s with heap:=s.heap.update l (Obj.mapSeq f),toks:=t' }:=by
 have q:=PySem.IsL.update e f
 rw[hf]at q
 refine I.write (x:=l) (e:=l) (by rw[hH];exact trivial) (.inl rfl) (fun b' u hb hu=>(jV s.heap (Obj.mapSeq f) (Ne.symm hb)).trans hu) ⟨_,q⟩ ?_
 exact⟨hz,its',_,hv,q⟩
theorem Inv.lnew{its:List Value}{t':Nat}(I:Inv X pins σ H s)(hv:Vals ys its)(hz:ys.length<=sizeLine) :
 Inv X pins σ (upd H s.heap.objs.size (.lst ys)) { s with heap:=s.heap.push { cls := .type "list",data := .seq its.toArray },toks:=t' } :=
 I.laid (fun _ _ q=>jD _ q) (jF _) ⟨hz,its,0,hv,jK _ rfl⟩
theorem Inv.fresh(I:Inv X pins σ H s):H s.heap.objs.size=none:=I.hok.fresh (jF _)
theorem Inv.lstM(I:Inv X pins σ H s)(hH:H l=some (.lst xs)):xs.length<=sizeLine/\∃ (its:List Value) (n:Nat),Vals xs its/\xs.length=its.length/\s.heap.get? l=some { cls := .type "list",data := .seq its.toArray n }:=by
 obtain⟨z,its,n,r,e⟩:=I.hok l _ hH
 exact⟨z,its,n,r,r.length,e⟩
theorem y5E{n:Nat}(h:n<=sizeLine):Builtin.List.listTooLong n=false:=by
 unfold Builtin.List.listTooLong
 exact decide_eq_false (by omega)
end
section
variable {X:Cx}
def y7G:V->List V->Hp->VK->Prop:=fun x vs H Q=>∃ l xs y,x = .ref l/\vs=[y]/\H l=some (.lst xs)/\xs.length < sizeLine/\Q .non (upd H l (.lst (xs ++ [y])))
theorem z1z:MtM X "list.append" y7G:=by
 intro pins s σ H x vs v us Q I rx rv h
 obtain⟨l,xs,y,rfl,rfl,hH,hz,q⟩:=h
 cases rx
 obtain⟨u,rfl,ru⟩:=rv.one
 obtain⟨z,its,n,r,hl,e⟩:=I.lstM hH
 refine call_meets F.slot_list_append ⟨_,e,rfl⟩ F.entry_list_append (F.args_list_append_2 _ _) (PySem.list_append l its.toArray n u (by rw[jI];omega)) ⟨e,?_⟩
 refine⟨.non,_,I.lset (its':=its ++ [u]) hH e (by simp) (r.append (.cons ru .nil)) ?_,rfl,q⟩
 rw[jJ,ju]
 omega
def y7F:V->List V->Hp->VK->Prop:=fun x vs H Q=>∃ l b xs zs,x = .ref l/\vs=[.ref b]/\H l=some (.lst xs)/\H b=some (.lst zs)/\xs.length + zs.length<=sizeLine/\Q .non (upd H l (.lst (xs ++ zs)))
theorem y3A:MtM X "list.extend" y7F:=by
 intro pins s σ H x vs v us Q I rx rv h
 obtain⟨l,b,xs,zs,rfl,rfl,hH,hB,hz,q⟩:=h
 cases rx
 obtain⟨u,rfl,ru⟩:=rv.one
 cases ru
 obtain⟨z,its,n,r,hl,e⟩:=I.lstM hH
 obtain⟨z2,its2,n2,r2,hl2,e2⟩:=I.lstM hB
 have hsz:its.toArray.size + its2.toArray.size<=sizeLine:=by rw[jI,jI];omega
 have hlong:¬ (!its.toArray.isEmpty && Builtin.List.listTooLong (its.toArray.size + its2.toArray.size))=true:=by
  rw[y5E hsz,Bool.and_false]
  exact jN
 refine call_meets F.slot_list_extend ⟨_,e,rfl⟩ F.entry_list_extend (F.args_list_extend_2 _ _)
  (AutoSeq1.list_extend_list_list_0 l its.toArray n b its2.toArray n2 hlong (by rw[jI];omega) (by omega)) ⟨e,e2,?_⟩
 refine⟨.non,_,I.lset (its':=its ++ its2) hH e (by simp) (r.append r2) ?_,rfl,q⟩
 rw[jJ]
 omega
def x1D:R2:=fun x y H Q=>∃ l b xs zs,x = .ref l/\y = .ref b/\H l=some (.lst xs)/\H b=some (.lst zs)/\xs.length + zs.length<=sizeLine/\∀ p,H p=none->Q (.ref p) (upd H p (.lst (xs ++ zs)))
theorem z0Q:OpR X (binaryOp .Add) x1D:=by
 intro pins s σ H x y v u Q I rx ry h
 obtain⟨l,b,xs,zs,rfl,rfl,hH,hB,hz,q⟩:=h
 cases rx
 cases ry
 obtain⟨z,its,n,r,hl,e⟩:=I.lstM hH
 obtain⟨z2,its2,n2,r2,hl2,e2⟩:=I.lstM hB
 refine PySem.P.add_list e e2 ?_ (by rw[jI,jI];omega)
 have ea:its.toArray ++ its2.toArray=(its ++ its2).toArray:=by simp
 rw[ea]
 exact⟨.ref _,_,I.lnew (t':=s.toks) (r.append r2) (by rw[jJ];omega),rfl,q _ I.fresh⟩
end
end L2
namespace Att
open PySem PySem.W PySem.Calls PyProof.Rows
theorem z5N{P:Params}{h:Heap}:∀ (ns:List Int) (vs:List Value),WellAll P h vs (ns.map WData.int)->IntsAre vs ns:=by
 intro ns
 induction ns with
 | nil =>
  intro vs w
  rw[List.map_nil]at w
  cases w
  exact .nil
 | cons n ns ih =>
  intro vs w
  rw[jj]at w
  cases w with
  | cons a b =>
   cases a
   exact .cons _ _ (ih _ b)
theorem y2N{l:OpenLaw}{n:Nat}(hn:l.most=some n){P:Params}{h:Heap}{args:List WData}{vals:List Value}
 (hpre:l.row.toRowW.claim.pre args=true) (hwl:WellAll P h vals args) :
 ∃ a vs ns,vals=[Value.ref a]/\args=[WData.list (ns.map WData.int)]/\h.get? a=some { cls := .type "list",data := .seq vs.toArray }/\IntsAre vs ns/\ns.length<=n:=by
 have hsh:WShape.hasAll [] args [.list .int]=true:=(pre_splitW hpre).1
 have hc:l.pre.holds [] { args:=args }=true:=(pre_splitW hpre).2
 obtain⟨d,r,rfl,h1,h2⟩:=hasAllW_cons hsh
 obtain rfl:=hasAllW_nil h2
 obtain⟨xs,rfl,h3⟩:=hasW_list h1
 obtain⟨ns,rfl⟩:=items_int h3
 have hlen:ns.length<=n:=by
  unfold OpenLaw.pre at hc
  have h4:(WTm.not (.lt (.lit (.int (n:Int))) (.len (.arg 0)))).holds [] { args:=[.list (ns.map .int)] }=true:=by
   have h4:=(holds_andW hc).1
   rw[hn]at h4
   exact h4
  have h5:=condW_of h4 (w_not (w_lt w_lit (w_len_list (w_arg rfl))))
  rw[jA]at h5
  refine Nat.le_of_not_lt fun q=>?_
  have q':(n:Int) < ((ns.length:Nat):Int):=by omega
  first
   | (rw[decide_eq_true q']at h5;exact absurd h5 (by decide))
   | (simp at h5;omega)
 cases hwl with
 | cons w1 w2 =>
  cases w2
  cases w1 with
  | list ho hall=>exact⟨_,_,ns,rfl,rfl,ho,z5N ns _ hall,hlen⟩
theorem y3j(l:OpenLaw)(args:List WData):l.row.toRowW.claim.post args (.bool true) args=true :=
 postW_of (r:=l.row.toRowW) (X:=(true == true))
  (show WShape.has [] (.bool true) .bool=true by first | rfl | decide | simp[WShape.has,WShape.arms,WShape.armsAll])
  (show (WTm.eq .res (.lit (.bool true))).value [] { args:=args,res:=some (.bool true),after:=args }=some (.bool (true == true)) from w_eq_bool (w_res rfl) w_lit) rfl
theorem attach_call{l:OpenLaw}{n:Nat}{q:Program}{loose:List Str}{XP:(Str->Option Value)->Heap->Prop}{YP:World->Heap->Prop}{d:DefRec}
 (hn:l.most=some n) (hdf:d.params.defaults=[])
 (call:∀ (w:World) (s₀ s₁:Shared) (mg mb:Str->Option Value) (fa:Addr) (o:Obj) (pm cd doc:Value) (a:Addr) (vs:List Value) (ns:List Int),
  Ground q loose [] XP w s₀ mg mb s₁.heap->YP w s₁.heap ->
  s₁.heap.get? fa=some o->o.data = .func (docDef d.name d.params d.body d.scope pm cd doc)->s₁.heap.CodeRec cd d.name->mg d.name=some (.ref fa) ->
  s₁.heap.get? a=some { cls := .type "list",data := .seq vs.toArray }->IntsAre vs ns->ns.length<=n->s₁.gens=#[] ->
  codeAny (model l.prog w) callerA (.call (.ref fa) ⟨[.ref a],[]⟩) (fun r s'=>r = .ok (.ret (.bool true))/\OldK s₁.heap s'.heap/\s'.os=s₁.os/\AllBare s'.gens) s₁) :
 WalkO q loose XP YP l.row.toRowW d [] (fun f vs=>PySem.call f vs):=by
 intro w s₀ s₁ mg mb G Y fa o pm cd doc dV kV ho hd hcd hD hmg hg args vals as hpre hlay hrd hwl hlo
 obtain rfl:dV = .none:=Dflts.none hD hdf
 obtain rfl:kV = .none:=Dflts.noKw hD
 obtain⟨a,vs,ns,rfl,rfl,hobj,hints,hlen⟩:=y2N hn hpre hwl
 refine enter_call (codeAny_mono (call w s₀ s₁ mg mb fa o pm cd doc a vs ns G Y ho (fd_plain hd) hcd hmg hobj hints hlen hg) fun r s' hq=>?_)
 obtain⟨rfl,h2,h3,h4⟩:=hq
 exact⟨.inl ⟨.bool true,.bool true,[],rfl,fun _=>rfl,.bool true,y3j l _,fun _=>⟨List.Pairwise.nil,fun _ hm=>(nomatch hm)⟩⟩,h2,h3,h4⟩
end Att
namespace L2
open PySem PySem.Spec PyProof.Rows
theorem z7M:∀ {vs:List Value}{ns:List Int},IntsAre vs ns->Vals (ns.map V.int) vs
 | _,_,.nil => .nil
 | _,_,.cons n t h => .cons ⟨t,rfl⟩ (z7M h)
def x1d(H:Hp):Prop:=∀ b,H b=none\/∃ o xs,H b=some (.frz o (.lst xs))
theorem y5K{P:Program}{w:World}{K:PySem.W.Frag}{mg mb:Str->Option Value}{CX:CXT}{k:Nat}{fa a:Addr}{fd:FuncData}{x:Str}{sp:Sp}{s₁:Shared}{vs:List Value}{ns:List Int}
 (KX:K.In s₁.heap) (hns:s₁.heap.Ns mainGlobals mg) (hb:s₁.heap.Ns builtinsNs mb) (hbb:∀ x:Str,x ≠ "__name__" -> mb x=bootBuiltins x) (hlim:s₁.heap.NoLimit) (hg:s₁.gens=#[])
 (ha:s₁.heap.get? a=some { cls := .type "list",data := .seq vs.toArray }) (hi:IntsAre vs ns) (hl:ns.length<=sizeLine) (hr:Room k callerA)
 (F:∀ base:Heap,K.In base->base.Ns mainGlobals mg->FnOk P w K mg base CX k fa fd [x] sp) (hbind:∀ (s:Shared) (u:Value),BindsTo s fd ⟨[u],[]⟩ [(x,u)])
 (hsp:∀ H:Hp,x1d H->SqL K H a (ns.map V.int)->sp [.ref a] H (fun v _=>v = .bl true) fun _ _ _=>False)
 (hCX:∀ H e s',CX [] H s₁ (fun _ _ _=>False) e s'->False) :
 codeAny (model P w) callerA (.call (.ref fa) ⟨[.ref a],[]⟩) (fun r s'=>r = .ok (.ret (.bool true))/\OldK s₁.heap s'.heap/\s'.os=s₁.os/\AllBare s'.gens) s₁:=by
 have rv:=z7M hi
 have lenV:=hi.length
 -- from an abstract heap in which nothing but the script may be tracked
 have core:∀ H:Hp,x1d H->SqL K H a (ns.map V.int)->HOk P w H s₁.heap->(∀ b,H b≠none->b=a)->(H a≠none->K.lookup a=none) ->
  codeAny (model P w) callerA (.call (.ref fa) ⟨[.ref a],[]⟩) (fun r s'=>r = .ok (.ret (.bool true))/\OldK s₁.heap s'.heap/\s'.os=s₁.os/\AllBare s'.gens) s₁:=by
  intro H hO hS hok hA hK
  have base_of:∀ {b:Addr}{o:Obj},s₁.heap.get? b=some o->H b=none->(y5T s₁.heap H).get? b=some o:=fun e n=>y5S e n
  have noA:∀ {b:Addr}{o:Obj}{es:Array DictEntry}{ep:Nat},s₁.heap.get? b=some o->o.data = .dict es ep->H b=none:=fun {b o es ep} e d=>by
   cases q:H b with
   | none=>rfl
   | some u =>
    have e':b=a:=hA b (by rw[q];simp)
    subst e'
    rw[ha]at e;cases e
    have d':Data.seq vs.toArray _=Data.dict es ep:=d
    cases d'
  have nsK:∀ {b:Addr}{m:Str->Option Value},s₁.heap.Ns b m->(y5T s₁.heap H).Ns b m:=fun {b m} ⟨o,es,ep,e,d,r⟩=>⟨o,es,ep,base_of e (noA e d),d,r⟩
  have hKb:K.In (y5T s₁.heap H):=fun b o e=>base_of (KX b o e) (by
   cases q:H b with
   | none=>rfl
   | some u =>
    have e':b=a:=hA b (by rw[q];simp)
    subst e'
    rw[hK (by rw[q];simp)]at e;cases e)
  have hM:Mod K mg (y5T s₁.heap H):=⟨hKb,nsK hns,⟨mb,nsK hb,hbb⟩,let ⟨mc,h1,h2⟩:=hlim;⟨mc,nsK h1,h2⟩⟩
  have e0:Env0 P w K mg (y5T s₁.heap H) callerA [] s₁ H:=⟨rfl,hM,fun b o e=>y8b e,Nat.le_of_eq (y3U _ _),trivial,fun b hb=>absurd (show b∈([]:List Addr) from hb) (by simp),hok,.of_eq hg⟩
  refine codeAny_mono ((F _ hKb (nsK hns)).run callerA [] s₁ H ⟨[.ref a],[]⟩ [.ref a] [.ref a] _ _ hr e0 (hbind s₁ (.ref a)) (.cons rfl .nil) (hsp H hO hS)) fun r s' h=>?_
  cases r with
  | error e=>exact (hCX H e s' h).elim
  | ok fl =>
   cases fl with
   | next=>exact False.elim h
   | brk=>exact False.elim h
   | cont=>exact False.elim h
   | ret u =>
    obtain⟨v,H',os,bare,un,hok',r',q⟩:=h
    have q':v = .bl true:=q
    subst q'
    obtain rfl:u=Value.bool true:=r'
    refine⟨rfl,OldK.of_keep fun b o e=>?_,os,bare⟩
    cases q:H b with
    | none=>exact un.keep b o e q (by intro z;exact absurd (show b∈([]:List Addr) from z) (by simp)) (by simp)
    | some u =>
     rcases hO b with z | ⟨ob,xs,z⟩
     · rw[q]at z;cases z
     · have z2:=un.frzs b ob _ z
       obtain⟨e1,_⟩:=hok b _ z
       obtain⟨e2,_⟩:=hok' b _ z2
       rw[e]at e1;cases e1
       exact e2
 cases hk:K.lookup a with
 | some o =>
  -- the script is one of the module's own objects
  have e:=KX a o hk
  rw[ha]at e
  cases e
  refine core (fun _=>none) (fun _ => .inl rfl) (.inr ⟨_,vs.toArray,_,hk,rfl,rfl,rfl,by rw[jI,lenV];exact hl,by simpa using rv⟩) (fun b u z=>by have z':(none:Option HO)=some u:=z;cases z') (fun b z=>absurd rfl z) fun z=>absurd rfl z
 | none =>
  refine core (fun b=>if b=a then some (.frz { cls := .type "list",data := .seq vs.toArray } (.lst (ns.map V.int))) else none) (fun b=>?_) (.inl (.inr ⟨{ cls := .type "list",data := .seq vs.toArray },if_pos rfl⟩)) (fun b u z=>?_) (fun b z=>?_) fun _=>hk
  · by_cases hb:b=a
    · exact .inr ⟨_,_,if_pos hb⟩
    · exact .inl (if_neg hb)
  · by_cases hb:b=a
    · have z':=(if_pos hb).symm.trans z
      cases z'
      subst hb
      exact⟨ha,by rw[jA];exact hl,vs,_,rv,ha⟩
    · have z':=(if_neg hb).symm.trans z
      cases z'
  · by_cases hb:b=a
    · exact hb
    · exact absurd (if_neg hb) z
theorem y7a{l:PySem.W.OpenLaw}{n k:Nat}{q:Program}{loose:List Str}{XP:(Str->Option Value)->Heap->Prop}{YP:World->Heap->Prop}{d:DefRec}{K:Params->PySem.W.Frag}{CX:World->CXT}{sp:World->Sp}{x:Str}
 (hn:l.most=some n) (hn2:n<=sizeLine) (hdf:d.params.defaults=[]) (hr:Room k callerA)
 (hY:∀ (w:World) (h:Heap),YP w h->(K w.params).In h)
 (F:∀ (w:World) (mg:Str->Option Value) (fa:Addr) (h:Heap),(K w.params).In h->h.Ns mainGlobals mg->mg d.name=some (.ref fa) ->
  ∃ fd:FuncData,(∀ (s:Shared) (u:Value),BindsTo s fd ⟨[u],[]⟩ [(x,u)]) /\
   ∀ base:Heap,(K w.params).In base->base.Ns mainGlobals mg->FnOk l.prog w (K w.params) mg base (CX w) k fa fd [x] (sp w))
 (hsp:∀ (w:World) (H:Hp) (a:Addr) (ns:List Int),ns.length<=n->x1d H->SqL (K w.params) H a (ns.map V.int)->sp w [.ref a] H (fun v _=>v = .bl true) fun _ _ _=>False)
 (hCX:∀ (w:World) (H:Hp) (s:Shared) (e:Value) (s':Shared),CX w [] H s (fun _ _ _=>False) e s'->False) :
 PySem.W.WalkO q loose XP YP l.row.toRowW d [] (fun f vs=>PySem.call f vs):=by
 refine Att.attach_call hn hdf fun w s₀ s₁ mg mb fa o pm cd doc a vs ns G Y ho hd hcd hmg hobj hints hlen hg=>?_
 have KX:=hY w _ Y
 obtain⟨fd,hb,hF⟩:=F w mg fa _ KX G.T.g hmg
 exact y5K KX G.T.g G.T.b G.T.builtins G.T.nolimit hg hobj hints (jc hlen hn2) hr hF hb (fun H hO hS=>hsp w H a ns hlen hO hS) fun H e s'=>hCX w H s₁ e s'
def defArgs(s:Stmt):Arguments:=match s with
 | .FunctionDef _ a _ _ _ _ _ _ _ _=>a
 | _=>{ posonlyargs:=[],args:=[],vararg:=none,kwonlyargs:=[],kw_defaults:=[],kwarg:=none,defaults:=[] }
def defBody(s:Stmt):List Stmt:=match s with
 | .FunctionDef _ _ b _ _ _ _ _ _ _=>b
 | _=>[]
def defScope(s:Stmt):Scope:=match s with
 | .FunctionDef _ _ _ _ _ _ sc _ _ _=>sc
 | _=>{ kind := .function,names:=[],isGenerator:=false,isCoroutine:=false }
abbrev CX0:CXT:=fun _ _ _ _ _ _=>False
abbrev E0:XK:=fun _ _ _=>False
theorem y9O{X:Cx}:z5S CX0 X E0:=fun _ _ _ _ _ _ _ h=>h.elim
structure Fun (K:PySem.W.Frag) (x qual:Str) (st:Stmt) (f:Addr) (fd:FuncData):Prop where
 ex:∃ (oc:Value) (od:Option Addr) (kV doc pm:Value) (an:Option Addr) (cdv ct:Value) (osl:Array (Option Value)),
  fd=PySem.W.fnOf x qual (defArgs st) (defBody st) (defScope st) .none kV doc pm an cdv ct/\K.lookup f=some ⟨oc,od,.func fd,osl⟩/\PySem.W.codeIn K cdv qual=true
 kp:PySem.W.keepIn K (.ref f)=true
section
variable {P:Program}{w:World}{K:PySem.W.Frag}{mg:Str->Option Value}{base:Heap}
theorem Fun.ok{x qual:Str}{st:Stmt}{f:Addr}{fd:FuncData}{N ps:List Str}{k:Nat}{sp:Sp}(F:Fun K x qual st f fd)(S:FnScope N ps (defScope st))(len:∀ vs H Q E,sp vs H Q E->vs.length=ps.length)
 (hbody:∀ (cdv:Value) (A:Around) (outer:List Env) (s:Shared) (H:Hp) (vs:List V) (Q:VK) (E:XK),Room k (A.deeper (envOfC qual (defScope st) s.heap.objs.size f cdv))->sp vs H Q E ->
  ∃ t,PSs (y2g CX0 P w K mg base N qual (defScope st) f cdv A outer s H E).nox (defBody st) t/\t { nx:=fun _ H'=>Q .non H',rt:=Q } (z2w N vs) H):FnOk P w K mg base CX0 (k + 1) f fd ps sp:=by
 obtain⟨oc,od,kV,doc,pm,an,cdv,ct,osl,rfl,lk,hcd⟩:=F.ex
 refine x0u lk hcd S len fun A outer s H vs Q E hr hsp=>?_
 obtain⟨t,h,q⟩:=hbody cdv A outer s H vs Q E hr hsp
 exact⟨t,h.nox,q⟩
theorem Fun.binds{x qual:Str}{st:Stmt}{f:Addr}{fd:FuncData}{ps:List Str}(F:Fun K x qual st f fd)
 (h:∀ (kV doc pm:Value) (an:Option Addr) (cdv ct:Value) (us:List Value),us.length=ps.length->bindArgs (PySem.W.fnOf x qual (defArgs st) (defBody st) (defScope st) .none kV doc pm an cdv ct) ⟨us,[]⟩=pure (ps.zip us)):Binds K fd ps []:=by
 obtain⟨oc,od,kV,doc,pm,an,cdv,ct,osl,rfl,lk,hcd⟩:=F.ex
 exact .all (h kV doc pm an cdv ct)
theorem y3Z{x qual:Str}{st:Stmt}{f:Addr}{oc:Value}{od an:Option Addr}{osl:Array (Option Value)}{kV doc pm cdv ct:Value}(l:K.lookup f=some ⟨oc,od,.func (PySem.W.fnOf x qual (defArgs st) (defBody st) (defScope st) .none kV doc pm an cdv ct),osl⟩)
 (c:PySem.W.codeIn K cdv qual=true) (k:PySem.W.keepIn K (.ref f)=true):Fun K x qual st f (PySem.W.fnOf x qual (defArgs st) (defBody st) (defScope st) .none kV doc pm an cdv ct):=⟨⟨oc,od,kV,doc,pm,an,cdv,ct,osl,rfl,l,c⟩,k⟩
end
theorem z1l{A:Around}{k:Nat}(hr:Room k A):A.units + 1 < cLine:=jx (Nat.add_le_add_left (by decide:1<=64) _) hr.units
theorem z2V{n:Nat}(h:n<=1000):n < sizeLine:=jx h (by decide)
section
variable {X:Cx}
theorem pv(i:Nat){x:Str}{pos:Pos}(hN:X.N[i]? = some x:=by rfl)(hv:Vis X.env.scope x:=by first | exact Or.inl rfl | exact Or.inr (Or.inl rfl) | exact Or.inr (Or.inr rfl))(hd:(x == ("__debug__" : Str))=false:=by decide)
 (hcd:(x == ("__classdict__" : Str))=false:=by decide):PE X (.Name x pos) (x1h i):=y9L hN hv hd hcd
end
theorem z5Z{A B:Prop}(h:B):if false=true then A else B:=by
 rw[if_neg jN]
 exact h
theorem y5M{A B:Prop}(h:A):if true=true then A else B:=by
 rw[if_pos rfl]
 exact h
def Same(H H':Hp):Prop:=∀ b o,H b=some o->H' b=some o
theorem Same.refl(H:Hp):Same H H:=fun _ _ h=>h
theorem Same.trans{H H1 H2:Hp}(a:Same H H1)(b:Same H1 H2):Same H H2:=fun c o h=>b c o (a c o h)
theorem Same.free{H H':Hp}(e:Same H H'){l:Addr}(h:H' l=Option.none):H l=Option.none:=by
 cases q:H l with
 | none=>rfl
 | some o =>
  rw[e l o q]at h
  cases h
theorem Same.seq{K:PySem.W.Frag}{H H':Hp}{a:Addr}{xs:List V}(e:Same H H')(h:SqL K H a xs):SqL K H' a xs:=by
 rcases h with (h | ⟨o,h⟩) | h
 · exact .inl (.inl (e _ _ h))
 · exact .inl (.inr ⟨o,e _ _ h⟩)
 · exact .inr h
section
variable {κ:Type} [DecidableEq κ]
def z4V(kvs:List (κ×V))(k:κ):Option V:=(kvs.find? fun kv=>decide (kv.1=k)).map (·.2)
def z3O(kvs:List (κ×V))(k:κ)(v:V):List (κ×V) :=
 if (kvs.any fun kv=>decide (kv.1=k))=true then kvs.map (fun kv=>if kv.1=k then (kv.1,v) else kv) else kvs ++ [(k,v)]
theorem z4Y{p:κ×V}{r:List (κ×V)}{k:κ}(e:p.1=k):z4V (p :: r) k=some p.2:=by simp[z4V,kR,e]
theorem z4Z{p:κ×V}{r:List (κ×V)}{k:κ}(e:¬ p.1=k):z4V (p :: r) k=z4V r k:=by simp[z4V,kR,e]
theorem z6D(k:κ):∀ kvs:List (κ×V),(kvs.any fun kv=>decide (kv.1=k))=(z4V kvs k).isSome
 | []=>rfl
 | p :: r=>by
  rw[kZ]
  by_cases e:p.1=k
  · simp only[z4Y e,decide_eq_true e,Bool.true_or,Option.isSome_some]
  · rw[z4Z e,decide_eq_false e,Bool.false_or];exact z6D k r
theorem z3S(kvs:List (κ×V))(k:κ)(v:V):(z3O kvs k v).length<=kvs.length + 1:=by
 unfold z3O
 split
 · rw[jA];omega
 · rw[jJ,jp,kX];omega
theorem y0i{kvs:List (κ×V)}{k:κ}(v:V)(h:z4V kvs k=none):z3O kvs k v=kvs ++ [(k,v)]:=by
 unfold z3O
 rw[z6D,h]
 exact if_neg (by decide)
theorem RelO.isSome_eq{o:Option V}{u:Option Value}(r:RelO o u):o.isSome=u.isSome:=by
 cases o with
 | none=>cases u with
  | none=>rfl
  | some _=>exact (show False from r).elim
 | some _=>cases u with
  | none=>exact (show False from r).elim
  | some _=>rfl
theorem KV.val{kvs:List (κ×V)}{vs:List (κ×Value)}(r:KV kvs vs)(k:κ):RelO (z4V kvs k) (valueAt vs k):=by
 unfold KV at r
 induction r with
 | nil=>exact True.intro
 | @cons p q ps qs h t ih =>
  obtain⟨h1,h2⟩:=h
  by_cases e:p.1=k
  · have e':q.1=k:=h1.symm.trans e
    have b:valueAt (q :: qs) k=some q.2:=by simp[valueAt,kR,e']
    rw[z4Y e,b];exact h2
  · have e':¬ q.1=k:=fun z=>e (h1.trans z)
    have b:valueAt (q :: qs) k=valueAt qs k:=by simp[valueAt,kR,e']
    rw[z4Z e,b];exact ih
theorem KV.any{kvs:List (κ×V)}{vs:List (κ×Value)}(r:KV kvs vs)(k:κ):(kvs.any fun kv=>decide (kv.1=k))=vs.any fun kv=>decide (kv.1=k):=by
 unfold KV at r
 induction r with
 | nil=>rfl
 | cons h t ih=>rw[kZ,kZ,ih,h.1]
theorem KV.repl{kvs:List (κ×V)}{vs:List (κ×Value)}(r:KV kvs vs)(k:κ){y:V}{u:Value}(ry:RelV y u) :
 KV (kvs.map fun kv=>if kv.1=k then (kv.1,y) else kv) (vs.map fun kv=>if kv.1=k then (kv.1,u) else kv):=by
 unfold KV at r ⊢
 induction r with
 | nil=>exact .nil
 | @cons p q ps qs h t ih =>
  rw[jj,jj]
  refine .cons ?_ ih
  obtain⟨h1,h2⟩:=h
  by_cases e:p.1=k
  · rw[if_pos e,if_pos (h1.symm.trans e)];exact⟨h1,ry⟩
  · rw[if_neg e,if_neg (fun z=>e (h1.trans z))];exact⟨h1,h2⟩
theorem KV.put{kvs:List (κ×V)}{vs:List (κ×Value)}(r:KV kvs vs)(k:κ){y:V}{u:Value}(ry:RelV y u):KV (z3O kvs k y) (stored vs k u):=by
 unfold z3O stored
 rw[r.any k]
 by_cases e:(vs.any fun kv=>decide (kv.1=k))=true
 · rw[if_pos e,if_pos e];exact r.repl k ry
 · rw[if_neg e,if_neg e];exact Paired.snoc r ⟨rfl,ry⟩
theorem KV.length{kvs:List (κ×V)}{vs:List (κ×Value)}(r:KV kvs vs):kvs.length=vs.length:=Paired.length r
end
theorem y1G{P:Program}{w:World}{k:Key}{u:Value}(r:RelV (kV k) u):(z0D P w).is k u=true:=by
 cases k with
 | inl i=>obtain⟨t,e⟩:=(show ∃ t,u=Value.int i t from r);subst e;exact z9l P w i t
 | inr x=>obtain⟨t,e⟩:=(show ∃ t,u=Value.str x t from r);subst e;exact z9k P w x t
theorem z8q{P:Program}{w:World}:∀ {ks:List Key}{us:List Value},Vals (ks.map kV) us->ItemsAre (z0D P w) ks us
 | [],_,r=>by rw[List.map_nil]at r;cases r;exact .nil
 | k :: ks,_,r=>by
  rw[jj]at r
  cases r with
  | cons h t=>exact .cons (y1G h) (z8q t)
abbrev KT(H:Hp):List (List Key×V)->List (List Key×Addr×Value)->Prop:=Paired fun p q=>p.1=q.1/\H q.2.1=some (.tup (p.1.map kV))/\RelV p.2 q.2.2
theorem KT.val{H:Hp}{kvs:List (List Key×V)}{xs:List (List Key×Addr×Value)}(r:KT H kvs xs)(k:List Key):RelO (z4V kvs k) ((atKey xs k).map (·.2)):=by
 induction r with
 | nil=>exact True.intro
 | @cons p q ps qs h t ih =>
  obtain⟨h1,_,h2⟩:=h
  by_cases e:p.1=k
  · have e':q.1=k:=h1.symm.trans e
    have b:atKey (q :: qs) k=some q.2:=by simp[atKey,kR,e']
    rw[z4Y e,b];exact h2
  · have e':¬ q.1=k:=fun z=>e (h1.trans z)
    have b:atKey (q :: qs) k=atKey qs k:=by simp[atKey,kR,e']
    rw[z4Z e,b];exact ih
theorem KT.repl{H:Hp}{kvs:List (List Key×V)}{xs:List (List Key×Addr×Value)}(r:KT H kvs xs)(k:List Key){y:V}{u:Value}(ry:RelV y u) :
 KT H (kvs.map fun kv=>if kv.1=k then (kv.1,y) else kv) (xs.map (putAt k u)):=by
 induction r with
 | nil=>exact .nil
 | @cons p q ps qs h t ih =>
  rw[jj,jj]
  refine .cons ?_ ih
  obtain⟨h1,h2,h3⟩:=h
  unfold putAt
  by_cases e:p.1=k
  · rw[if_pos e,if_pos (h1.symm.trans e)];exact⟨h1,h2,ry⟩
  · rw[if_neg e,if_neg (fun z=>e (h1.trans z))];exact⟨h1,h2,h3⟩
theorem KT.put{H:Hp}{kvs:List (List Key×V)}{xs:List (List Key×Addr×Value)}(r:KT H kvs xs)(k:List Key){b:Addr}{y:V}{u:Value}(hb:H b=some (.tup (k.map kV)))(ry:RelV y u) :
 KT H (z3O kvs k y) (storedH xs k b u):=by
 have e:(kvs.any fun kv=>decide (kv.1=k))=(atKey xs k).isSome:=by
  rw[z6D,(r.val k).isSome_eq,Option.isSome_map]
 unfold z3O storedH
 rw[e]
 by_cases q:(atKey xs k).isSome=true
 · rw[if_pos q,if_pos q];exact r.repl k ry
 · rw[if_neg q,if_neg q];exact Paired.snoc r ⟨rfl,hb,ry⟩
theorem KT.keeps{H H':Hp}{kvs:List (List Key×V)}{xs:List (List Key×Addr×Value)}(r:KT H kvs xs)(ht:∀ b ys,H b=some (.tup ys)->H' b=some (.tup ys)):KT H' kvs xs :=
 Paired.mapP r fun _ _ z=>⟨z.1,ht _ _ z.2.1,z.2.2⟩
section
variable {P:Program}{w:World}{H:Hp}{h:Heap}{a:Addr}
theorem y9D{u:HO}(ok:HOk P w H h)(e:Rd H a u):ObjOk P w H h a u:=e.ok ok
theorem y1J{kvs:List (Key×V)}(ok:HOk P w H h)(e:Rd H a (.dK kvs)):kvs.length<=sizeLine/\(a == sysModules)=false/\∃ vs,KV kvs vs/\h.DictOf (z0D P w) a vs :=
 show ObjOk P w H h a (.dK kvs) from y9D ok e
theorem y6c{kvs:List (Key×V)}(ok:HOk P w H h)(e:H a=some (.dK kvs)):kvs.length<=sizeLine/\(a == sysModules)=false/\∃ vs,KV kvs vs/\h.DictOf (z0D P w) a vs:=y1J ok (.inl e)
theorem z6q{ks:List Key}(ok:HOk P w H h)(e:H a=some (.tup (ks.map kV))):(tupleKind (z0D P w)).is h ks a:=by
 obtain⟨_,its,r,o,h1,h2,n,h3⟩:=(show ObjOk P w H h a (.tup (ks.map kV)) from ok a _ e)
 exact⟨o,its.toArray,n,h1,h2,h3,by simpa using z8q r⟩
theorem y4e{kvs:List (List Key×V)}(ok:HOk P w H h)(e:Rd H a (.dT kvs)):kvs.length<=sizeLine/\(a == sysModules)=false /\
 ∃ xs,KT H kvs xs/\h.DictOfH (tupleKind (z0D P w)) a xs:=by
 obtain⟨z,y,xs,r,o,es,ep,h1,h2,h3,h4,h5⟩:=(show ObjOk P w H h a (.dT kvs) from y9D ok e)
 refine⟨z,y,xs,r,o,es,ep,h1,h2,h3,h4,fun x hx=>?_,h5⟩
 have all:∀ {l:List (List Key×V)}{m:List (List Key×Addr×Value)},KT H l m->∀ x∈m,(tupleKind (z0D P w)).is h x.1 x.2.1:=by
  intro l m q
  induction q with
  | nil=>intro x hx;exact nomatch hx
  | @cons p q ps qs hq t ih =>
   intro x hx
   rcases jH.mp hx with e | hx
   · subst e
     exact z6q ok (by rw[<- hq.1];exact hq.2.1)
   · exact ih x hx
 exact all r x hx
theorem x0Z{kvs:List (List Key×V)}(ok:HOk P w H h)(e:H a=some (.dT kvs)):kvs.length<=sizeLine/\(a == sysModules)=false /\
 ∃ xs,KT H kvs xs/\h.DictOfH (tupleKind (z0D P w)) a xs:=y4e ok (.inl e)
end
def DGet(H:Hp)(a:Addr)(y:V)(r:Option V):Prop :=
 (∃ kvs k,Rd H a (.dK kvs)/\y=kV k/\r=z4V kvs k)\/∃ kvs k b,Rd H a (.dT kvs)/\y = .ref b/\H b=some (.tup (k.map kV))/\r=z4V kvs k
def DPut(H:Hp)(a:Addr)(y v:V)(H':Hp):Prop :=
 (∃ kvs k,H a=some (.dK kvs)/\y=kV k/\kvs.length < sizeLine/\H'=upd H a (.dK (z3O kvs k v))) \/
 ∃ kvs k b,H a=some (.dT kvs)/\y = .ref b/\H b=some (.tup (k.map kV))/\kvs.length < sizeLine/\H'=upd H a (.dT (z3O kvs k v))
theorem DGet.t{H:Hp}{a b:Addr}{kvs:List (List Key×V)}{k:List Key}(e:H a=some (.dT kvs))(eb:H b=some (.tup (k.map kV))):DGet H a (.ref b) (z4V kvs k) := .inr ⟨kvs,k,b,.inl e,rfl,eb,rfl⟩
theorem DPut.t{H:Hp}{a b:Addr}{kvs:List (List Key×V)}{k:List Key}{v:V}(e:H a=some (.dT kvs))(eb:H b=some (.tup (k.map kV)))(hl:kvs.length < sizeLine) :
 DPut H a (.ref b) v (upd H a (.dT (z3O kvs k v))) := .inr ⟨kvs,k,b,e,rfl,eb,hl,rfl⟩
section
variable {X:Cx}{pins:List (Addr×Obj)}{σ:St}{H:Hp}{s:Shared}{a:Addr}{y v:V}{u r:Value}{o:Option V}{A:Around}{E:Value->Shared->Prop}
theorem Inv.big(I:Inv X pins σ H s):sysModules < s.heap.objs.size:=by
 have h:mainGlobals < s.heap.objs.size:=(I.mod.glob.keeps I.bk).lt
 exact Nat.lt_trans (by decide) h
theorem y4l{Q:Value->Shared->Prop}(hu:A.units + 1 < cLine)(I:Inv X pins σ H s)(g:DGet H a y (some v))(ry:RelV y u)(h:∀ w' s',Inv X pins σ H s'->RelV v w'->Q w' s') :
 wpAny (model X.prog X.w) A (getItem (.ref a) u) Q E s:=by
 rcases g with ⟨kvs,k,e,ey,l⟩ | ⟨kvs,k,b,e,ey,eb,l⟩
 · subst ey
   obtain⟨z,hd,vs,rel,dd⟩:=y1J I.hok e
   obtain⟨w',hw,rw'⟩:=RelO.some_of (v:=v) (o:=valueAt vs k) (by rw[l];exact rel.val k)
   exact wpAny_getItem_of (y1G ry) dd.mapOf hw (h w' _ (I.tok _) rw')
 · subst ey
   cases (show u=Value.ref b from ry)
   obtain⟨z,hd,xs,rel,dd⟩:=y4e I.hok e
   obtain⟨w',hw,rw'⟩:=RelO.some_of (v:=v) (o:=(atKey xs k).map (·.2)) (by rw[l];exact rel.val k)
   obtain⟨p,hp,hp2⟩:=jo.mp hw
   refine wpAny_getItem_heap (tupleKind_room_in1 hu) (z6q I.hok eb) dd hp ?_
   rw[hp2]
   exact h w' _ (I.tok _) rw'
theorem x1I{Q:Value->Shared->Prop}(hu:A.units + 1 < cLine)(I:Inv X pins σ H s)(g:DGet H a y o)(ry:RelV y u)(h:∀ s',Inv X pins σ H s'->Q (.bool o.isSome) s') :
 wpAny (model X.prog X.w) A (compareOp .In u (.ref a)) Q E s:=by
 rcases g with ⟨kvs,k,e,ey,l⟩ | ⟨kvs,k,b,e,ey,eb,l⟩
 · subst ey
   obtain⟨z,hd,vs,rel,dd⟩:=y1J I.hok e
   refine wpAny_in_of (y1G ry) hd dd.mapOf ?_
   rw[<- (rel.val k).isSome_eq,<- l]
   exact h _ (I.tok _)
 · subst ey
   cases (show u=Value.ref b from ry)
   obtain⟨z,hd,xs,rel,dd⟩:=y4e I.hok e
   refine wpAny_in_heap (tupleKind_room_in1 hu) (z6q I.hok eb) hd dd ?_
   have q:=(rel.val k).isSome_eq
   rw[Option.isSome_map]at q
   rw[<- q,<- l]
   exact h _ (I.tok _)
theorem z9w{h':Heap}{t':Nat}{ob:HO}(I:Inv X pins σ H s)(mu:Mut (H a))(hs:Heap.SameBut a s.heap h')(he:∃ q,h'.get? a=some q)(new:ObjOk X.prog X.w (upd H a ob) h' a ob) :
 Inv X pins σ (upd H a ob) { s with heap:=h',toks:=t' } :=
 I.write (x:=a) (e:=a) mu (.inl rfl) (fun b q hb z=>(hs.2 b hb).trans z) he new
theorem y0L{P:Program}{w:World}{H':Hp}{h':Heap}{kvs:List (Key×V)}{vs:List (Key×Value)}(z:kvs.length<=sizeLine)(hd:(a == sysModules)=false)(rel:KV kvs vs)(dd:h'.DictOf (z0D P w) a vs) :
 ObjOk P w H' h' a (.dK kvs):=⟨z,hd,vs,rel,dd⟩
theorem y4k{H':Hp}{Q:Unit->Shared->Prop}(hu:A.units + 1 < cLine)(I:Inv X pins σ H s)(g:DPut H a y v H')(ry:RelV y u)(rv:RelV v r)(h:∀ s',Inv X pins σ H' s'->Q () s') :
 wpAny (model X.prog X.w) A (setItem (.ref a) u r) Q E s:=by
 rcases g with ⟨kvs,k,e,ey,l,eH⟩ | ⟨kvs,k,b,e,ey,eb,l,eH⟩
 · subst ey eH
   obtain⟨z,hd,vs,rel,dd⟩:=y6c I.hok e
   have hz:vs.length<=sizeLine:=by rw[<- rel.length];exact z
   have hl:(z3O kvs k v).length<=sizeLine:=by have:=z3S kvs k v;omega
   refine wpAny_setItem_pairs (hsz:=hz) (y1G ry) dd fun h' dd' hs=>h _ ?_
   have he:∃ q,h'.get? a=some q:=let ⟨q,_,_,hq,_⟩:=dd';⟨q,hq⟩
   exact z9w I (by rw[e];exact True.intro) hs he (y0L hl hd (rel.put k rv) dd')
 · subst ey eH
   cases (show u=Value.ref b from ry)
   obtain⟨z,hd,xs,rel,dd⟩:=x0Z I.hok e
   have hz:xs.length<=sizeLine:=by rw[<- Paired.length rel];exact z
   have hl:(z3O kvs k v).length<=sizeLine:=by have:=z3S kvs k v;omega
   refine wpAny_setItem_heap (hsz:=hz) (tupleKind_room_in1 hu) (z6q I.hok eb) dd fun h' dd' hs=>h _ ?_
   obtain⟨q,es,ep,hq,h2,h3,h4,_,h5⟩:=dd'
   refine z9w I (by rw[e];exact True.intro) hs ⟨q,hq⟩ ⟨hl,hd,_,(rel.put k eb rv).keeps fun c ys ec=>?_,q,es,ep,hq,h2,h3,h4,h5⟩
   rw[z0n (y8e ec e (fun z=>nomatch z))]
   exact ec
end
def x1u(i:Expr):Prop:=∀ ov iv,subscripted i false ov iv=operate [ov,iv] (getItem ov iv)
theorem y7n{prog:Program}{w:World}{A:Around}{E:Value->Shared->Prop}{s:Shared}{env:Env}{value slice:Expr}{pos:Pos}{T id:String}{Q:Value->Shared->Prop}
 (hl:typeLookup (.type T) "__getitem__" = pure (some (.builtin id))) (hs:x1u slice)
 (h:wpAny (model prog w) A (eval value env) (fun o s₁=>wpAny (model prog w) A (eval slice env) (fun i s₂=>s₂.TypeIs o T/\wpAny (model prog w) A (getItem o i) Q E s₂) E s₁) E s) :
 wpAny (model prog w) A (eval (.Subscript value slice pos) env) Q E s:=by
 refine Subscript_ (wpAny_mono h (fun o s₁ h₁=>wpAny_mono h₁ (fun i s₂ h₂=>?_) fun _ _ x=>x) fun _ _ x=>x)
 obtain⟨hT,h₂⟩:=h₂
 unfold subscriptTail
 refine wpAny_bind ?_
 rw[getitemInPython_of_ne hT.not_modules]
 refine wpAny_bind (wpAny_specialOf hT hl ?_)
 have fin:wpAny (model prog w) A (subscripted slice false o i) (fun r s₃=>wpAny (model prog w) A (letTemporaryGo value o r >>= fun _=>pure r) Q E s₃) E s₂:=by
  rw[hs o i]
  exact wpAny_operating (wpAny_mono h₂ (fun r s₃ h₃=>wpAny_bind (wpAny_letTemporaryGo (wpAny_pure h₃))) fun _ _ x=>x)
 first
  | exact wpAny_pure (wpAny_bind fin)
  | exact wpAny_bind (wpAny_pure (wpAny_bind fin))
  | exact wpAny_bind fin
theorem z9v{X:Cx}{pins:List (Addr×Obj)}{σ:St}{H:Hp}{s:Shared}{a:Addr}{y:V}{o:Option V}(I:Inv X pins σ H s)(g:DGet H a y o):s.TypeIs (.ref a) "dict" := by
 rcases g with ⟨kvs,k,e,_,_⟩ | ⟨kvs,k,b,e,_,_,_⟩
 · obtain⟨_,_,vs,_,dd⟩:=y1J I.hok e
   exact dd.typeIs
 · obtain⟨_,_,xs,_,dd⟩:=y4e I.hok e
   exact dd.typeIs
def x0N(td ty:TE):TE:=fun σ H Q=>td σ H fun x H1=>ty σ H1 fun y H2=>∃ a v,x = .ref a/\DGet H2 a y (some v)/\Q v H2
def y2R(td ty tv:TE):TS:=fun D σ H=>tv σ H fun v H1=>td σ H1 fun x H2=>ty σ H2 fun y H3=>∃ a H4,x = .ref a/\DPut H3 a y v H4/\D.nx σ H4
section
variable {X:Cx}{o i e value:Expr}{pos pos' tpos:Pos}{td ty tv:TE}
theorem z0T(hu:X.A.units + 1 < cLine)(ho:PE X o td)(hi:PE X i ty)(hs:x1u i):PE X (.Subscript o i pos) (x0N td ty):=by
 intro pins s σ H Q I h
 refine y7n PySem.F.slot_dict_getitem.lookup hs (thn (ho pins s σ H _ I h) fun u s1 ⟨x,H1,I1,rx,q1⟩=>thn (hi pins s1 σ H1 _ I1 q1) fun iv s2 ⟨y,H2,I2,ry,a,v,ex,g,q2⟩=>?_)
 subst ex
 obtain rfl:u=Value.ref a:=rx
 exact⟨z9v I2 g,y4l hu I2 g ry fun w' s3 I3 rw'=>⟨v,H2,I3,rw',q2⟩⟩
theorem z2a(hu:X.A.units + 1 < cLine)(ho:PE X o td)(hi:PE X i ty)(hv:PE X value tv)(hs:swapsWith value (some (.Subscript o i pos')) pos.line X.env=pure false) :
 PS X (.Assign [.Subscript o i pos'] value pos) (y2R td ty tv):=by
 intro pins s σ H D I h
 refine wpAny_Assign_Subscript (thn (hv pins s σ H _ I h) fun r s1 ⟨v,H1,I1,rv,q1⟩=>thn (ho pins s1 σ H1 _ I1 q1) fun u s2 ⟨x,H2,I2,rx,q2⟩=>thn (hi pins s2 σ H2 _ I2 q2) fun iv s3 ⟨y,H3,I3,ry,a,H4,ex,g,q3⟩=>?_) hs
 subst ex
 obtain rfl:u=Value.ref a:=rx
 exact y4k hu I3 g ry rv fun s4 I4=>⟨σ,H4,I4,q3⟩
end
theorem y0M{P:Program}{w:World}{H:Hp}(h:Heap)(hb:sysModules < h.objs.size):ObjOk P w H (h.push { cls := .type "dict",data := .dict #[] }) h.objs.size (.dK []) :=
 ⟨jR _,beq_eq_false_iff_ne.mpr (Ne.symm (jS hb)),[],.nil,Heap.DictOf.new h⟩
theorem y5Z{P:Program}{w:World}{H:Hp}(h:Heap)(hb:sysModules < h.objs.size):ObjOk P w H (h.push { cls := .type "dict",data := .dict #[] }) h.objs.size (.dT []) :=
 ⟨jR _,beq_eq_false_iff_ne.mpr (Ne.symm (jS hb)),[],.nil,_,#[],0,jK _ rfl,⟨rfl,rfl,rfl⟩,rfl,rfl,j6⟩
def y9s:TE:=fun _ H Q=>∀ p,H p=none->Q (.ref p) (upd H p (.dK []))
def y9r:TE:=fun _ H Q=>∀ p,H p=none->Q (.ref p) (upd H p (.dT []))
section
variable {X:Cx}{pos:Pos}
theorem z7f:PE X (.Dict [] [] pos) y9s:=fun pins s σ H Q I h =>
 wpAny_Dict_empty ⟨.ref s.heap.objs.size,_,I.laid (a:=s.heap.objs.size) (o := .dK []) (t':=s.toks) (fun _ _ q=>jD _ q) (jF _) (y0M s.heap I.big),rfl,h _ (I.hok.fresh (jF _))⟩
theorem y5p:PE X (.Dict [] [] pos) y9r:=fun pins s σ H Q I h =>
 wpAny_Dict_empty ⟨.ref s.heap.objs.size,_,I.laid (a:=s.heap.objs.size) (o := .dT []) (t':=s.toks) (fun _ _ q=>jD _ q) (jF _) (y5Z s.heap I.big),rfl,h _ (I.hok.fresh (jF _))⟩
end
def y2o:List (TE×TE)->St->Hp->(List (V×V)->Hp->Prop)->Prop
 | [],_,H,Q=>Q [] H
 | (tk,tv) :: r,σ,H,Q=>tk σ H fun x H1=>tv σ H1 fun y H2=>y2o r σ H2 fun ps H3=>Q ((x,y) :: ps) H3
abbrev VV:List (V×V)->List (Value×Value)->Prop:=Paired fun p q=>RelV p.1 q.1/\RelV p.2 q.2
def PPs(X:Cx)(pos:Pos)(keys:List (Option Expr))(values:List Expr)(trs:List (TE×TE)):Prop :=
 ∀ (pins:List (Addr×Obj)) (s:Shared) (σ:St) (H:Hp) (Q:List (V×V)->Hp->Prop),Inv X pins σ H s->y2o trs σ H Q ->
  wpAny (model X.prog X.w) X.A (evalPairs (pairTrees keys values X.env pos)) (fun vs s'=>∃ ps H',Inv X pins σ H' s'/\VV ps vs/\Q ps H') X.xe s
theorem y7L{X:Cx}{pos:Pos}:PPs X pos [] [] []:=fun pins s σ H Q I h=>pairTrees_nil_walk ⟨[],H,I,.nil,h⟩
theorem z4k{X:Cx}{pos:Pos}{k v:Expr}{ks:List (Option Expr)}{vs:List Expr}{tk tv:TE}{trs:List (TE×TE)}(hk:PE X k tk)(hv:PE X v tv)(hr:PPs X pos ks vs trs) :
 PPs X pos (some k :: ks) (v :: vs) ((tk,tv) :: trs):=fun pins s σ H Q I h =>
 pairTrees_cons_walk (thn (hk pins s σ H _ I h) fun u s1 ⟨x,H1,I1,rx,q1⟩=>thn (hv pins s1 σ H1 _ I1 q1) fun w2 s2 ⟨y,H2,I2,ry,q2⟩ =>
  thn (hr pins s2 σ H2 _ I2 q2) fun ws s3 ⟨ps,H3,I3,rel,q3⟩=>⟨(x,y) :: ps,H3,I3,.cons ⟨rx,ry⟩ rel,q3⟩)
def z2A(kvs more:List (Key×V)):List (Key×V):=more.foldl (fun acc kv=>z3O acc kv.1 kv.2) kvs
theorem KV.merge:∀ {more:List (Key×V)}{rs:List (Key×Value)}{kvs:List (Key×V)}{vs:List (Key×Value)},KV more rs->KV kvs vs->KV (z2A kvs more) (merged vs rs):=by
 intro more rs kvs vs r
 unfold KV at r
 induction r generalizing kvs vs with
 | nil=>intro q;exact q
 | @cons p q ps qs h t ih =>
  intro r0
  have e:KV (z3O kvs p.1 p.2) (stored vs q.1 q.2):=by
   have:=r0.put p.1 h.2
   rw[<- h.1];exact this
  exact ih e
theorem z2P:∀ (more kvs:List (Key×V)),(z2A kvs more).length<=kvs.length + more.length
 | [],kvs=>by show kvs.length<=kvs.length + 0;omega
 | p :: r,kvs=>by
  have h1:=z2P r (z3O kvs p.1 p.2)
  have h2:=z3S kvs p.1 p.2
  show (z2A (z3O kvs p.1 p.2) r).length<=_
  rw[jp];omega
theorem z6y{P:Program}{w:World}:∀ {kvs:List (Key×V)}{ws:List (Value×Value)},VV (kvs.map fun kv=>(kV kv.1,kv.2)) ws->∃ rs,Carries (z0D P w) ws rs/\KV kvs rs
 | [],_,r=>by rw[List.map_nil]at r;cases r;exact⟨[],True.intro,.nil⟩
 | p :: kvs,_,r=>by
  rw[jj]at r
  cases r with
  | @cons a b as bs h t =>
   obtain⟨rs,c,q⟩:=z6y (P:=P) (w:=w) t
   obtain⟨b1,b2⟩:=b
   exact⟨(p.1,b2) :: rs,⟨y1G h.1,rfl,c⟩,.cons ⟨rfl,h.2⟩ q⟩
def y9q(trs:List (TE×TE)):TE:=fun σ H Q=>∀ p,H p=none->y2o trs σ (upd H p (.dK [])) fun ps H2=>H2 p=some (.dK [])/\∃ kvs:List (Key×V),ps=kvs.map (fun kv=>(kV kv.1,kv.2))/\kvs.length<=15/\Q (.ref p) (upd H2 p (.dK (z2A [] kvs)))
theorem y7N{X:Cx}{pos:Pos}{keys:List (Option Expr)}{values:List Expr}{trs:List (TE×TE)}(h:PPs X pos keys values trs)(hall:keys.all (·.isSome)=true)(hl:keys.length=values.length)(h0:keys≠[])
 (h15:keys.length<=15):PE X (.Dict keys values pos) (y9q trs):=by
 intro pins s σ H Q I q
 have hn:=I.hok.fresh (jF s.heap.objs.size)
 have I1:=I.laid (a:=s.heap.objs.size) (o := .dK []) (h':=s.heap.push { cls := .type "dict",data := .dict #[] }) (t':=s.toks) (fun _ _ q=>jD _ q) (jF _) (y0M s.heap I.big)
 refine wpAny_Dict_walk (knd:=z0D X.prog X.w) hall hl h0 h15 (thn (h pins _ σ _ _ I1 (q _ hn)) fun ws s2 ⟨ps,H2,I2,rel,e,kvs,ep,lk,q2⟩=>?_)
 subst ep
 obtain⟨rs,c,rk⟩:=z6y (P:=X.prog) (w:=X.w) rel
 obtain⟨z,hd,vs0,r0,dd⟩:=y6c I2.hok e
 cases r0
 refine⟨rs,c,dd,fun h' dd' hs=>⟨.ref s.heap.objs.size,_,?_,rfl,q2⟩⟩
 have hz:(z2A [] kvs).length<=sizeLine:=by
  have h1:=z2P kvs []
  rw[kX]at h1
  rw[sizeLine_eq];omega
 have he:∃ q,h'.get? s.heap.objs.size=some q:=let ⟨q,_,_,hq,_⟩:=dd';⟨q,hq⟩
 exact z9w I2 (by rw[e];exact True.intro) hs he (y0L hz hd (rk.merge .nil) dd')
def x1M(H:Hp)(a:Addr):Prop:=(∃ kvs,Rd H a (.dK kvs))\/∃ kvs,Rd H a (.dT kvs)
theorem x0o{X:Cx}{pins:List (Addr×Obj)}{σ:St}{H:Hp}{s:Shared}{a:Addr}(I:Inv X pins σ H s)(d:x1M H a) :
 s.TypeIs (.ref a) "dict" /\ (∀ b,Value.ref a = .ref b->∃ ob,s.heap.get? b=some ob/\ob.dict=none)/\(a == sysModules)=false:=by
 rcases d with ⟨kvs,e⟩ | ⟨kvs,e⟩
 · obtain⟨_,hd,vs,_,dd⟩:=y1J I.hok e
   refine⟨dd.typeIs,fun b q=>?_,hd⟩
   cases q
   obtain⟨ob,_,_,h1,h2,_⟩:=dd
   exact⟨ob,h1,h2.2.1⟩
 · obtain⟨_,hd,xs,_,dd⟩:=y4e I.hok e
   refine⟨dd.typeIs,fun b q=>?_,hd⟩
   cases q
   obtain⟨ob,_,_,h1,h2,_⟩:=dd
   exact⟨ob,h1,h2.2.1⟩
section
variable {X:Cx}{pins:List (Addr×Obj)}{σ:St}{H:Hp}{s:Shared}{a:Addr}{kvs:List (Key×V)}{A:Around}{E:Value->Shared->Prop}
theorem y6d{Q:Value->Shared->Prop}(I:Inv X pins σ H s)(e:Rd H a (.dK kvs))(h:∀ p s',H p=none->Inv X pins σ (upd H p (.dK kvs)) s'->Q (.ref p) s'):wpAny (model X.prog X.w) A (call (.type "dict") [.ref a]) Q E s:=by
 obtain⟨z,hd,vs,rel,dd⟩:=y1J I.hok e
 refine kt_call_dict hd dd (by rw[<- rel.length];exact z) fun h' dd' hs=>?_
 refine h _ _ (I.hok.fresh (jF _)) (I.laid (a:=s.heap.objs.size) (o := .dK kvs) (t':=s.toks) (fun b q hq=>?_) (jF _) (y0L z (beq_eq_false_iff_ne.mpr (Ne.symm (jS I.big))) rel dd'))
 exact (hs.2 b (jS (jG hq))).trans (jD _ hq)
end
section
variable {X:Cx}
theorem z1k:OpR X (binaryOp .Mult) (rI (fun i j=>IntMulOk i j) fun i j => .int (i * j)):=opI fun _ _ _ _ _ _ _ hc q=>mul_int q hc
theorem z1y:OpR X (binaryOp .FloorDiv) (rI (fun _ j=>0 < j/\j.natAbs.log2 < 9000) fun i j => .int (i / j)):=opI fun i j _ _ _ _ _ hc q=>by
 have h1:(0:Int) < j:=hc.1
 exact floordiv_int (by omega) (by rw[Int.fdiv_eq_ediv_of_nonneg i (by omega)];exact q) (.inl (PyProof.noPylong_of_log2 hc.2))
theorem z7i:OpR X (binaryOp .FloorDiv) (rI (fun _ j=>j≠0/\j.natAbs.log2 < 9000) fun i j => .int (i.fdiv j)):=opI fun i j _ _ _ _ _ hc q =>
 floordiv_int hc.1 q (.inl (PyProof.noPylong_of_log2 hc.2))
theorem z3G{a b:Int}{m n:Nat}(ha:a.natAbs < 2 ^ m)(hb:b.natAbs < 2 ^ n)(h:m + n<=134217728):IntMulOk a b :=
 PyProof.Rows.mulOk_of_bits (PyProof.Rows.intBits_le ha) (PyProof.Rows.intBits_le hb) h
theorem z0x:OpR X (compareOp .Eq) (rI0 fun i j => .bl (decide (i=j))):=x0H fun _ _ _ _ _ _ _ q=>eq_int (by rw[Bool.beq_eq_decide_eq];exact q)
theorem z1r:OpR X (compareOp .NotEq) (rI0 fun i j => .bl (!decide (i=j))):=x0H fun _ _ _ _ _ _ _ q=>ne_int (by rw[bne,Bool.beq_eq_decide_eq];exact q)
theorem z0z:OpR X (compareOp .Eq) (fun x y H Q=>∃ i j,x = .str i/\y = .str j/\Q (.bl (decide (i=j))) H):=by
 intro pins s σ H x y v u Q I rx ry h
 obtain⟨i,j,rfl,rfl,q⟩:=h
 have e:decide (V.str i=V.str j)=decide (i=j):=by simp
 refine y9U pins s σ H _ _ v u Q I rx ry ⟨rfl,?_⟩
 rw[e];exact q
theorem z1v:OpR X (compareOp .NotEq) (fun x y H Q=>∃ i j,x = .str i/\y = .str j/\Q (.bl (!decide (i=j))) H):=by
 intro pins s σ H x y v u Q I rx ry h
 obtain⟨i,j,rfl,rfl,q⟩:=h
 have e:decide (V.str i=V.str j)=decide (i=j):=by simp
 refine y9R pins s σ H _ _ v u Q I rx ry ⟨rfl,?_⟩
 rw[e];exact q
theorem z0A:OpR X (compareOp .Eq) (fun x y H Q=>∃ i j,x = .bl i/\y = .bl j/\Q (.bl (decide (i=j))) H):=by
 intro pins s σ H x y v u Q I rx ry h
 obtain⟨i,j,rfl,rfl,q⟩:=h
 have e:decide (V.bl i=V.bl j)=decide (i=j):=by simp
 refine y9U pins s σ H _ _ v u Q I rx ry ⟨rfl,?_⟩
 rw[e];exact q
theorem z1x:OpR X (compareOp .NotEq) (fun x y H Q=>∃ i j,x = .bl i/\y = .bl j/\Q (.bl (!decide (i=j))) H):=by
 intro pins s σ H x y v u Q I rx ry h
 obtain⟨i,j,rfl,rfl,q⟩:=h
 have e:decide (V.bl i=V.bl j)=decide (i=j):=by simp
 refine y9R pins s σ H _ _ v u Q I rx ry ⟨rfl,?_⟩
 rw[e];exact q
def x1a:V->Value
 | .ty n => .type n
 | .ref a => .ref a
 | _ => .none
def isC:V->Bool
 | .ty _=>true
 | .ref _=>true
 | _=>false
theorem y8J{c:V}{u:Value}(r:RelV c u)(h:isC c=true):u=x1a c:=by
 cases c <;> first | exact r | cases h
inductive TyD (K:PySem.W.Frag) (H:Hp):V->Value->Prop where
 | of {x:V}{t:Value} (h:TyOf K H x t):TyD K H x t
 | tupS {a:Addr}{xs:List V} (h:SqT K H a xs):TyD K H (.ref a) (.type "tuple")
 | lstS {a:Addr}{xs:List V} (h:SqL K H a xs):TyD K H (.ref a) (.type "list")
theorem y6h:CallR X (.builtin "isinstance") (fun xs H Q=>∃ x c t b,xs=[x,c]/\isC c=true/\TyD X.K H x t/\PySem.W.kitOne X.K t (x1a c)=some b/\Q (.bl b) H):=by
 intro pins s σ H xs us Q I r h
 obtain⟨x,c,t,b,rfl,hc,ty,e,q⟩:=h
 obtain⟨u,w',rfl,rx,rc⟩:=y7f r
 have:=y8J rc hc
 subst this
 cases ty with
 | of ty=>exact y3M I rx ty e fun tk=>⟨.bl b,H,I.tok _,rfl,q⟩
 | tupS hs =>
  cases rx
  obtain⟨its,_,⟨o,h1,h2,_⟩,_⟩:=I.tuple hs
  exact PySem.W.kia_one PySem.W.kitx_tuple I.kIn ⟨o,h1,h2⟩ e (fun z=>nomatch z) fun tk=>⟨.bl b,H,I.tok _,rfl,q⟩
 | lstS hs =>
  cases rx
  obtain⟨its,_,pl,_⟩:=I.list hs
  obtain⟨o,h1,h2,_⟩:=pl.isList
  exact PySem.W.kia_one PySem.W.kitx_list I.kIn ⟨o,h1,h2⟩ e (fun z=>nomatch z) fun tk=>⟨.bl b,H,I.tok _,rfl,q⟩
end
structure Fn (K:PySem.W.Frag) (mg:Str->Option Value) (x:Str) (st:Stmt) (ps:List Str):Prop where
 ex:∃ f fd,Fun K x x st f fd/\Binds K fd ps []/\mg x=some (.ref f)
structure Def (P:Program) (w:World) (K:PySem.W.Frag) (mg:Str->Option Value) (base:Heap) (x:Str) (k:Nat) (ps:List Str) (sp:Sp):Prop where
 ex:∃ f fd,FnOk P w K mg base CX0 k f fd ps sp/\Binds K fd ps []/\PySem.W.keepIn K (.ref f)=true/\mg x=some (.ref f)
section
variable {P:Program}{w:World}{K:PySem.W.Frag}{mg:Str->Option Value}{base:Heap}
theorem Fn.ok{x:Str}{st:Stmt}{N ps:List Str}{k:Nat}{sp:Sp}(F:Fn K mg x st ps)(S:FnScope N ps (defScope st))(len:∀ vs H Q E,sp vs H Q E->vs.length=ps.length)
 (hbody:∀ (f:Addr) (cdv:Value) (A:Around) (outer:List Env) (s:Shared) (H:Hp) (vs:List V) (Q:VK) (E:XK),Room k (A.deeper (envOfC x (defScope st) s.heap.objs.size f cdv))->sp vs H Q E ->
  ∃ t,PSs (y2g CX0 P w K mg base N x (defScope st) f cdv A outer s H E).nox (defBody st) t/\t { nx:=fun _ H'=>Q .non H',rt:=Q } (z2w N vs) H):Def P w K mg base x (k + 1) ps sp:=by
 obtain⟨f,fd,FF,b,m⟩:=F.ex
 exact⟨f,fd,FF.ok S len (hbody f),b,FF.kp,m⟩
end
section
variable {X:Cx}{k j:Nat}{ps:List Str}{sp:Sp}{x:Str}{p pos:Pos}{e:Expr}{es:List Expr}{t:TA}
theorem z0r(D:Def X.prog X.w X.K X.mg X.base x j ps sp)(hr:Room k X.A)(hg:Gl X x)(ha:PA X (e :: es) t)(hjk:j<=k:=by decide)(hdb:(x == ("__debug__" : Str))=false:=by decide)
 (he:starEach (e :: es) X.env=(false,eval e X.env) :: starEach es X.env:=by rfl) (hpl:(backTo pos (starEach es X.env)).any (·.1)=false:=by rfl) :
 PE X (.Call (.Name x p) (e :: es) [] pos) (y1k sp [] E0 t):=by
 obtain⟨f,fd,F,b,kp,m⟩:=D.ex
 exact z9a F (hr.mono hjk) hg m kp b .nil y9O ha hdb he hpl
end
theorem z1C{c:Prop}[Decidable c]{A B:Prop}(h1:c->A)(h2:¬ c->B):if decide c=true then A else B:=by
 by_cases h:c
 · rw[if_pos (decide_eq_true h)];exact h1 h
 · rw[if_neg (by rw[decide_eq_false h];exact jN)];exact h2 h
theorem z3T{c:Prop}[Decidable c]{A B:Prop}(h1:¬ c->A)(h2:c->B):if (!decide c)=true then A else B:=by
 by_cases h:c
 · rw[if_neg (by rw[decide_eq_true h];exact jN)];exact h2 h
 · rw[if_pos (by rw[decide_eq_false h];rfl)];exact h1 h
theorem z4p(xs:List V)(k:Nat):y0O xs (some (k:Int)) none=xs.drop k:=by
 unfold y0O
 rw[HT.sIx_nat,HT.sIx_none]
 by_cases h:k<=xs.length
 · rw[Nat.min_eq_left h,js (by rw[List.length_drop];exact jF _)]
 · have h':xs.length<=k:=by omega
   rw[Nat.min_eq_right h',List.drop_eq_nil_of_le (jF _),List.drop_eq_nil_of_le h'];simp
theorem y3P{ns:List Int}{i:Nat}{x:V}(h:(ns.map V.int)[i]? = some x):∃ n,x = .int n:=by
 rw[jC]at h
 cases e:ns[i]? with
 | none=>rw[e]at h;cases h
 | some n=>rw[e]at h;cases h;exact⟨n,rfl⟩
theorem z2U{K:PySem.W.Frag}{H:Hp}{a:Addr}{xs:List V}(h:SqL K H a xs):x0J K (.ref a) H xs.length := .inl ⟨xs,h,rfl⟩
theorem z0h{X:Cx}{e:Expr}{es:List Expr}{te:TE}{t:TA}(ha:PE X e te)(hr:PA X es t)(hs:starEach (e :: es) X.env=(false,eval e X.env) :: starEach es X.env):PA X (e :: es) (z1J te t):=z0a ha hr hs
section
variable {X:Cx}
def cap(ix:List Nat)(σ:St):St:=ix.map fun i=>(σ[i]?).getD none
def z3Z(ix:List Nat)(wi:TI)(tt:TT)(te:TE):TE:=fun σ H Q=>wi σ H fun J H1=>∀ D,H1 D=none->∃ W:Nat->Nat->Hp->Prop,(∃ m,W 0 m (upd H1 D (.lst []))) /\
 ∀ i m H,W i m H->(J.stop i H/\Q (.ref D) H)\/(J.go i H/\∀ x H',J.yld i H x H'->tt (some x :: cap ix σ) H' fun b H2 =>
  if b=true then te (some x :: cap ix σ) H2 fun y H3=>∃ ys,H3 D=some (.lst ys)/\ys.length < sizeLine/\∃ m',m' < m/\W (i + 1) m' (upd H3 D (.lst (ys ++ [y]))) else ∃ m',m' < m/\W (i + 1) m' H2)
def z2p(X:Cx)(x:Str)(M:List Str)(scope:Scope)(cl:List (Str×Addr))(C:Addr)(pins:List (Addr×Obj))(fp:List Addr)(s:Shared)(H:Hp):Cx where
 prog:=X.prog
 w:=X.w
 K:=X.K
 mg:=X.mg
 base:=X.base
 A:=X.A
 N:=x :: M
 s₀:=s
 H₀:=H
 env:=compEnvC scope cl C X.env
 outer:=X.stack
 stack:=X.stack
 ex:=fp
 calm:=X.calm
 fn:=fun _=>false
 pn:=X.pn ++ pins
 xe:=fun _ _=>False
structure CompOk (X:Cx) (x:Str) (M:List Str) (ix:List Nat) (scope:Scope) (cl:List (Str×Addr)):Prop where
 clos:closureFor scope X.env=pure cl
 kind:scope.kind = .function
 names:∀ y∈scope.names,y.2 = .local->scope.names.lookup y.1=some .local
 nocell:∀ y∈scope.names,y.2 ≠ .cell
 loc:scope.names.lookup x=some .local
 sub:∀ y c,cl.lookup y=some c->X.env.cells.lookup y=some c
 has:∀ y,((compEnvC scope cl 0 X.env).kindOf y=some .cell\/(compEnvC scope cl 0 X.env).kindOf y=some .free)->∃ c,cl.lookup y=some c
 len:ix.length=M.length
 cap:∀ (i:Nat) (y:Str) (j:Nat),M[i]? = some y->ix[i]? = some j->X.N[j]? = some y/\Vis X.env.scope y/\∃ c,cl.lookup y=some c/\((compEnvC scope cl 0 X.env).kindOf y=some .cell\/(compEnvC scope cl 0 X.env).kindOf y=some .free)/\X.env.kindOf y≠some .local
theorem y5N{x:Str}{M:List Str}{ix:List Nat}{scope:Scope}{cl:List (Str×Addr)}{pins:List (Addr×Obj)}{σ:St}{H:Hp}{s:Shared}{fp:List Addr}{h4:Heap}{tk:Nat}{m:Str->Option Value}(O:CompOk X x M ix scope cl)(I:Inv X pins σ H s)
 (hfp:∀ b∈fp,FpOk X pins H b/\∃ o,s.heap.get? b=some o) (hn:h4.Ns s.heap.objs.size m) (hk:∀ b o,s.heap.get? b=some o->h4.get? b=some o) :
 Inv (z2p X x M scope cl s.heap.objs.size pins fp s H) [] (none :: cap ix σ) H { s with heap:=h4,toks:=tk }:=by
 have fresh:H s.heap.objs.size=none:=I.hok.fresh (jF _)
 have ex1:∀ b∈fp,b≠s.heap.objs.size:=fun b hb z=>by
  obtain⟨_,o,e⟩:=hfp b hb
  exact absurd (jG e) (by rw[z];exact jr _)
 have cellOf:∀ y c,cl.lookup y=some c->X.env.cells.lookup y=some c:=O.sub
 refine⟨⟨I.ok.mod,O.kind,I.ok.glob,I.ok.blt,jF _,fun y z c h1 h2=>I.ok.inj y z c (O.sub y c h1) (O.sub z c h2),fun y hy=>O.has y hy,fun y c h=>(nomatch h),I.ok.hd,I.ok.frames,.inl rfl,fun b hb=>⟨ex1 b hb,fun y c e=>(hfp b hb).1.2.2.2.2.1 y c (O.sub y c e)⟩,
  I.bs,jc I.ok.bsz I.sz,fun b o e hb=>?_,fun b hb z=>?_,I.stack,I.stkFree⟩,rfl,I.bare,Un.kept hk,⟨m,hn,fun i y v h1 h2 h3=>?_⟩,fun y c e=>?_,fresh,fun y c e=>I.freeC y c (O.sub y c e),fun p hp=>?_,I.hok.kept hk,?_⟩
 · have f:=(hfp b hb).1.2.2.2.1
   rcases f with f | f
   · exact I.ok.noex b o e f
   · exact absurd (jW (jG e) (jc I.ok.bsz f)) (jr _)
 · rcases jH.mp (I.stkSub b z) with q | q
   · exact (hfp b hb).1.2.1 q
   · exact (hfp b hb).1.2.2.1 q
 · cases i with
   | zero=>exact absurd (show (none:Option V)=some v from Option.some.inj h2) (fun z=>nomatch z)
   | succ i =>
    have h1':M[i]? = some y:=h1
    have h2':(ix.map fun i=>(σ[i]?).getD none)[i]? = some (some v):=h2
    rw[jC]at h2'
    cases ej:ix[i]? with
    | none=>rw[ej]at h2';cases h2'
    | some j =>
     rw[ej]at h2'
     have h2'':(σ[j]?).getD none=some v:=Option.some.inj h2'
     obtain⟨hN,hV,c,hc,hk',hnl⟩:=O.cap i y j h1' ej
     cases eσ:σ[j]? with
     | none=>rw[eσ]at h2'';cases h2''
     | some ov =>
      rw[eσ]at h2''
      have:ov=some v:=h2''
      subst this
      obtain⟨mm,hnn,hl⟩:=I.loc
      obtain⟨u,r,l⟩:=hl j y v hN eσ hV
      refine⟨u,r,?_⟩
      rcases l with ⟨k,_⟩ | ⟨k,c',e',z⟩
      · exact absurd k hnl
      · have:c'=c:=Option.some.inj (e'.symm.trans (O.sub y c hc))
        subst this
        obtain⟨o,ho,hd⟩:=z
        exact .inr ⟨hk',c',hc,o,hk _ _ ho,hd⟩
 · obtain⟨v,o,ho,hd⟩:=I.cell y c (O.sub y c e)
   exact⟨v,o,hk _ _ ho,hd⟩
 · have hp':p∈X.pn ++ pins:=by
    have:=(ji.mp hp)
    exact this.elim id fun z=>absurd z (by simp)
   obtain⟨e,n,ne,nf,d⟩:=I.pin p hp'
   refine⟨hk _ _ e,n,fun z=>?_,fun z=>?_,d⟩
   · exact absurd (jG e) (by rw[show p.1=s.heap.objs.size from z];exact jr _)
   · rcases jH.mp (I.stkSub _ z) with q | q
     · exact ne q
     · exact nf q
 · show (none :: ix.map _).length=(x :: M).length
   simp[O.len]
end
section
variable {X:Cx}
def PTs(X:Cx)(ifs:List Expr)(t:TT):Prop :=
 ∀ (pins:List (Addr×Obj)) (s:Shared) (σ:St) (H:Hp) (Q:Bool->Hp->Prop),Inv X pins σ H s->t σ H Q ->
  wpAny (model X.prog X.w) X.A (forIn ifs true fun c r=>if r=true then do let ok <- isTrue c X.env (eval c X.env);pure (ForInStep.yield ok) else pure (ForInStep.yield r)) (TP X pins σ Q) X.xe s
def z6G:TT:=fun _ H Q=>Q true H
theorem z0V:PTs X [] z6G:=fun _ _ _ H _ I h=>wpAny_tests_nil ⟨H,I,h⟩
theorem y7H{c:Expr}{t:TT}(h:PT X c t):PTs X [c] t:=fun pins s σ H Q I q=>wpAny_tests_one (h pins s σ H Q I q)
theorem y0P{elt iter:Expr}{x:Str}{px:Pos}{ifs:List Expr}{scope:Scope}{cl:List (Str×Addr)}{pos:Pos}{M:List Str}{ix:List Nat}{tt:TT}{te:TE}{pins:List (Addr×Obj)}{σ:St}{H2:Hp}{s2:Shared}{it:Addr}{fp:List Addr}{tn:Nat->Heap->Prop}{J:It}
 (O:CompOk X x M ix scope cl) (hc:X.calm=true) (nd:(x :: M).Nodup)
 (ht:∀ C pins fp s H,PTs (z2p X x M scope cl C pins fp s H) ifs tt) (he:∀ C pins fp s H,PE (z2p X x M scope cl C pins fp s H) elt te)
 (I2:Inv X pins σ H2 s2) (T:Turn X.prog X.w X.K (.Name x px) J fp it tn) (st2:tn 0 s2.heap) (f2:∀ b∈fp,FpOk X pins H2 b)
 {RR:Value->Addr->Result->Shared->Prop}{E:Value->Shared->Prop}{Q:VK}
 (h:∀ D,H2 D=none->∃ W:Nat->Nat->Hp->Prop,(∃ m,W 0 m (upd H2 D (.lst []))) /\
  ∀ i m H,W i m H->(J.stop i H/\Q (.ref D) H)\/(J.go i H/\∀ x H',J.yld i H x H'->tt (some x :: cap ix σ) H' fun b H2 =>
   if b=true then te (some x :: cap ix σ) H2 fun y H3=>∃ ys,H3 D=some (.lst ys)/\ys.length < sizeLine/\∃ m',m' < m/\W (i + 1) m' (upd H3 D (.lst (ys ++ [y]))) else ∃ m',m' < m/\W (i + 1) m' H2))
 (hR:∀ (C D:Addr) (H':Hp) (s':Shared) (m:Str->Option Value),Inv X pins σ H' s'->Q (.ref D) H'->s'.heap.Ns C m->H' C=none->C≠X.env.locals->X.s₀.heap.objs.size<=C->(∀ y c,X.env.cells.lookup y=some c->c≠C)->(∀ p∈X.pn ++ pins,p.1≠C)->RR (.ref D) C (.ok .next) s') :
 wpAny (model X.prog X.w) X.A (newList []) (fun acc s₃=>wpAny (model X.prog X.w) X.A (newFunctionEnv scope X.env.globals cl [] X.env.qual none .none (some X.env)) (fun cenv s₄ =>
  codeAny (model X.prog X.w) X.A (.compStart (.ListComp elt [⟨.Name x px,iter,ifs,0⟩] scope pos) 0 (.ref it) acc { cenv with scope:=relabel scope X.env }) (RR acc cenv.locals) s₄) E s₃) E s2:=by
 have hD:H2 s2.heap.objs.size=none:=I2.hok.fresh (jF _)
 obtain⟨W,⟨m0,w0⟩,turn⟩:=h s2.heap.objs.size hD
 refine wpAny_newObj_type (wpAny_newFunctionEnv O.nocell (by intro y hy;simp at hy) (fun h₁ hns₁ hsb₁=>?_) O.kind)
 dsimp only at hns₁ hsb₁ ⊢
 generalize hH3:s2.heap.push { cls := .type "list",dict:=none,data := .seq ([]:List Value).toArray }=hp3 at hns₁ hsb₁ ⊢
 have k23:∀ b o,s2.heap.get? b=some o->hp3.get? b=some o:=fun b o e=>hH3 ▸ jD _ e
 have I3:Inv X pins σ (upd H2 s2.heap.objs.size (.lst [])) { s2 with heap:=hp3,toks:=s2.toks }:=by
  refine I2.laid (o := .lst []) (t':=s2.toks) k23 (jF _) ?_
  exact⟨jR _,[],0,.nil,hH3 ▸ jK _ rfl⟩
 have szC:hp3.objs.size=s2.heap.objs.size + 1:=by rw[<- hH3,j9]
 have hfp:∀ b∈fp,FpOk X pins (upd H2 s2.heap.objs.size (.lst [])) b/\∃ o,hp3.get? b=some o:=fun b hb=>by
  obtain⟨o,e,_⟩:=T.obj _ _ st2 b hb
  obtain⟨q0,q1⟩:=f2 b hb
  exact⟨⟨by rw[z0n (jS (jG e))];exact q0,q1⟩,o,k23 b o e⟩
 have k34:∀ b o,hp3.get? b=some o->h₁.get? b=some o:=fun b o e=>hsb₁.extBut b o (jS (jG e)) (jD _ e)
 have I4:=y5N (tk:=s2.toks + ([]:List (Str×Value)).length) O I3 hfp hns₁ k34
 have st4:tn 0 h₁:=T.keep _ _ _ st2 fun b hb o e=>k34 b o (k23 b o e)
 have fr4:∀ b∈fp,(upd H2 s2.heap.objs.size (.lst [])) b=none:=fun b hb=>(hfp b hb).1.1
 -- what stays true of the iterator's objects in the block
 have stat:∀ {H':Hp},(∀ b∈fp,H' b=none)->∀ b∈fp,FpOk (z2p X x M scope cl hp3.objs.size pins fp { s2 with heap:=hp3,toks:=s2.toks } (upd H2 s2.heap.objs.size (.lst []))) [] H' b:=fun hn b hb=>by
  obtain⟨⟨_,q1,q2,q3,q4,q5⟩,o,e⟩:=hfp b hb
  refine⟨hn b hb,jS (jG e),fun z=>?_,.inl hb,fun y c ec=>q4 y c (O.sub y c ec),fun p hp=>?_⟩
  · rcases jH.mp (I3.stkSub b z) with q | q
    · exact q1 q
    · exact q2 q
  · have hp':p∈X.pn ++ pins:=(ji.mp hp).elim id fun z=>absurd z (by simp)
    exact q5 p hp'
 have loop:codeAny (model X.prog X.w) X.A (.compLoop (.ListComp elt [⟨.Name x px,iter,ifs,0⟩] scope pos) 0 (.ref it) (.ref s2.heap.objs.size) (compEnvC scope cl hp3.objs.size X.env)) (RR (.ref s2.heap.objs.size) hp3.objs.size)
  { s2 with heap:=h₁,toks:=s2.toks + ([]:List (Str×Value)).length }:=by
  refine codeAny_compLoop_tests (fun n s'=>∃ i v H',Inv (z2p X x M scope cl hp3.objs.size pins fp { s2 with heap:=hp3,toks:=s2.toks } (upd H2 s2.heap.objs.size (.lst []))) [] (v :: cap ix σ) H' s'/\tn i s'.heap/\(∀ b∈fp,H' b=none)/\W i n H') ?_ m0 ⟨0,none,_,I4,st4,fr4,w0⟩
  rintro n s5 ⟨i,v5,H5,I5,st5,fr5,w5⟩
  rcases turn i n H5 w5 with ⟨stop,qn⟩ | ⟨go,step⟩
  · refine thn (T.done (z2p X x M scope cl hp3.objs.size pins fp { s2 with heap:=hp3,toks:=s2.toks } (upd H2 s2.heap.objs.size (.lst []))) rfl rfl rfl hc i [] s5 _ H5 _ I5 (stat fr5) st5 stop) fun r s6 ⟨hr,I6⟩=>?_
    subst hr
    obtain⟨m6,hn6,_⟩:=id I6.loc
    have hch:∀ b∈fp,(b∈X.ex\/X.s₀.heap.objs.size<=b)/\b≠X.env.locals/\(∀ x c,X.env.cells.lookup x=some c->c≠b)/\∀ p∈X.pn ++ pins,p.1≠b:=fun b hb=>by
     obtain⟨⟨_,q1,q2,q3,q4,q5⟩,_⟩:=hfp b hb
     exact⟨q3,q1,q4,q5⟩
    have IX:Inv X pins σ H5 s6:=I3.call' (s':=s6) (ch:=fp) I6.os I6.base I6.hok I6.bare hch
    refine hR _ _ _ _ m6 IX qn hn6 I6.free (jn I3.lt) I3.sz (fun y c e z=>?_) fun p hp z=>?_
    · obtain⟨v,q⟩:=I3.cell y c e
      exact absurd q.lt (by rw[z];exact jr _)
    · exact absurd (jG (I3.pin p hp).1) (by rw[z];exact jr _)
  · refine thn (T.item (z2p X x M scope cl hp3.objs.size pins fp { s2 with heap:=hp3,toks:=s2.toks } (upd H2 s2.heap.objs.size (.lst []))) rfl rfl rfl hc i [] s5 _ H5 _ I5 (stat fr5) st5 go) fun r s6 ⟨u,hr,h6⟩=>?_
    subst hr
    show wpAny _ _ (letOwnedTupleGo (.Name x px) (.ref it) u >>= fun _=>assign (.Name x px) (compEnvC scope cl hp3.objs.size X.env) u) _ _ _
    refine wpAny_bind (thn h6 fun _ s7 ⟨xv,H7,I7,r7,y7,st7,fr7⟩=>?_)
    have I7':=I7.pinned (stat fr7) (T.obj _ _ st7)
    have PGx:PG (z2p X x M scope cl hp3.objs.size pins fp { s2 with heap:=hp3,toks:=s2.toks } (upd H2 s2.heap.objs.size (.lst []))) (.Name x px) (z1g 0):=z0E nd rfl (.inl (lookup_relabel_local O.loc)) (.inr (lookup_relabel_local O.loc))
    have keepT:∀ {σ8:St}{H8:Hp}{s8:Shared},Inv (z2p X x M scope cl hp3.objs.size pins fp { s2 with heap:=hp3,toks:=s2.toks } (upd H2 s2.heap.objs.size (.lst []))) ([] ++ z6m fp s7.heap) σ8 H8 s8->tn (i + 1) s8.heap/\∀ b∈fp,H8 b=none:=fun I8=>by
     refine⟨T.keep _ _ _ st7 fun b hb o e=>(I8.pin (b,o) (ja _ (ja _ (z1S hb e)))).1,fun b hb=>?_⟩
     obtain⟨o,e,d⟩:=T.obj _ _ st7 b hb
     exact (I8.pin (b,o) (ja _ (ja _ (z1S hb e)))).2.1
    refine wpAny_mono (PGx _ s7 _ H7 xv u (fun σ8 H8=>σ8=some xv :: cap ix σ/\H8=H7) I7' r7 ⟨rfl,rfl⟩) (fun _ s8 ⟨σ8,H8,I8,e8,e8'⟩=>?_) fun _ _ z=>z.elim
    subst e8 e8'
    refine wpAny_mono (ht _ _ _ _ _ _ s8 _ _ _ I8 (step xv H8 y7)) (fun ok s9 ⟨H9,I9,q9⟩=>?_) fun _ _ z=>z.elim
    cases ok with
    | false =>
     rw[if_neg jN]
     have q9':∃ m',m' < n/\W (i + 1) m' H9:=by
      have:=q9
      rwa [if_neg jN]at this
     obtain⟨m',hm,w9⟩:=q9'
     obtain⟨k1,k2⟩:=keepT I9
     exact⟨m',hm,i + 1,_,H9,I9.unpinned,k1,k2,w9⟩
    | true =>
     rw[if_pos rfl]at q9 ⊢
     refine wpAny_mono (he _ _ _ _ _ _ s9 _ H9 _ I9 q9) (fun yv s10 ⟨y,H10,I10,r10,ys,eD,hz,m',hm,w10⟩=>?_) fun _ _ z=>z.elim
     refine wpAny_mono (z1z (X:=z2p X x M scope cl hp3.objs.size pins fp { s2 with heap:=hp3,toks:=s2.toks } (upd H2 s2.heap.objs.size (.lst []))) _ s10 _ H10 (.ref s2.heap.objs.size) [y] (.ref s2.heap.objs.size) [yv] (fun _ H11=>H11=upd H10 s2.heap.objs.size (.lst (ys ++ [y]))) I10 rfl (.cons r10 .nil) ⟨_,ys,y,rfl,rfl,eD,hz,rfl⟩) (fun _ s11 ⟨_,H11,I11,_,e11⟩=>?_) fun _ _ z=>z.elim
     subst e11
     obtain⟨k1,k2⟩:=keepT I11
     exact⟨m',hm,i + 1,_,_,I11.unpinned,k1,k2,w10⟩
 exact codeAny_compStart_list loop (T.self X.A 0 _ _ _ st4 loop)
theorem z1u{elt iter:Expr}{x:Str}{px:Pos}{ifs:List Expr}{scope:Scope}{cl:List (Str×Addr)}{pos:Pos}{M:List Str}{ix:List Nat}{wi:TI}{tt:TT}{te:TE}
 (O:CompOk X x M ix scope cl) (hc:X.calm=true) (nd:(x :: M).Nodup) (hi:PI X (.Name x px) iter wi)
 (ht:∀ C pins fp s H,PTs (z2p X x M scope cl C pins fp s H) ifs tt) (he:∀ C pins fp s H,PE (z2p X x M scope cl C pins fp s H) elt te) (hs:∀ x,foldedSetIterable iter X.env x=pure x:=by intro _;rfl) :
 PE X (.ListComp elt [⟨.Name x px,iter,ifs,0⟩] scope pos) (z3Z ix wi tt te):=by
 intro pins s σ H Q I h
 rw[eval_ListComp]
 refine wpAny_comprehension_free (use:=none) rfl hs O.clos O.kind O.names (thn (hi pins s σ H _ I h) fun xv s₁ h₁=>thn h₁ fun itv s₂ ⟨it,fp,tn,J,H2,e,I2,T,st2,f2,hW⟩=>?_)
 subst e
 refine y0P (RR:=fun acc C=>compPost (model X.prog X.w) X.A X.xe none (EP X pins σ Q) acc C) (Q:=Q) O hc nd ht he I2 T st2 f2 hW ?_
 intro C D H' s' m IX q hn hC hCL hCz hcc hpc
 refine⟨m,hn,fun h' hs'=>⟨.ref D,H',?_,rfl,q⟩⟩
 exact IX.turned (h':=h') (t':=s'.toks) (fun b o hb e=>hs'.extBut b o hb e) hC (Ne.symm hCL).symm (.inr hCz) hcc hpc
end
section
variable {X:Cx}
theorem y3g{elt iter:Expr}{x y:Str}{px py:Pos}{ifs:List Expr}{scope:Scope}{cl:List (Str×Addr)}{pos spos:Pos}{M:List Str}{ix:List Nat}{wi:TI}{tt:TT}{te:TE}{j:Nat}
 (hN:X.N.Nodup) (hj:X.N[j]? = some y) (hy:X.env.scope.names.lookup y=some .local)
 (O:CompOk X x M ix scope cl) (hc:X.calm=true) (nd:(x :: M).Nodup) (hi:PI X (.Name x px) iter wi)
 (ht:∀ C pins fp s H,PTs (z2p X x M scope cl C pins fp s H) ifs tt) (he:∀ C pins fp s H,PE (z2p X x M scope cl C pins fp s H) elt te)
 (hsw:swapsWith (.ListComp elt [⟨.Name x px,iter,ifs,0⟩] scope pos) (some (.Name y py)) spos.line X.env=pure true:=by rfl) (hs:∀ x,foldedSetIterable iter X.env x=pure x:=by intro _;rfl) :
 PS X (.Assign [.Name y py] (.ListComp elt [⟨.Name x px,iter,ifs,0⟩] scope pos) spos) (y2p (z3Z ix wi tt te) (z1g j)):=by
 intro pins s σ H D I h
 rw[exec_Assign_Name_used _ _ _ _ hsw]
 refine wpAny_bind (wpAny_standAt (wpAny_bind ?_))
 show wpAny _ X.A (do let _ <- comprehension (.ListComp elt [⟨.Name x px,iter,ifs,0⟩] scope pos) scope X.env _ (newList []) false (eval iter X.env) (some (assign (.Name y py) X.env))) _ _ s
 refine wpAny_bind (wpAny_mono (wpAny_comprehension_free (use:=some (assign (.Name y py) X.env)) (Q:=fun _ s'=>SP X pins D .next s') rfl hs O.clos O.kind O.names
  (thn (hi pins s σ H _ I h) fun xv s₁ h₁=>thn h₁ fun itv s₂ ⟨it,fp,tn,J,H2,e,I2,T,st2,f2,hW⟩=>?_)) (fun _ s' hq=>wpAny_pure (wpAny_pure hq)) fun _ _ e=>e)
 subst e
 refine y0P (RR:=fun acc C=>compPost (model X.prog X.w) X.A X.xe (some (assign (.Name y py) X.env)) (fun _ s'=>SP X pins D .next s') acc C) (Q:=fun v H'=>D.nx (σ.set j (some v)) H') O hc nd ht he I2 T st2 f2 hW ?_
 intro C Da H' s' m IX q hn hC hCL hCz hcc hpc
 show wpAny _ X.A (assign (.Name y py) X.env (.ref Da)) _ _ _
 refine wpAny_assign_Name (z5t (v := .ref Da) IX hN hj (.inl hy) rfl (fun s'' I'' ⟨a,sb,ha⟩=>?_) (.inr hy))
 have hCa:C≠a:=by
  rcases ha with z | z
  · rw[z];exact hCL
  · exact fun w=>hcc _ _ z w.symm
 refine⟨m,hn.at' fun o e=>sb.extBut C o hCa e,fun h' hs'=>⟨_,H',?_,q⟩⟩
 exact I''.turned (h':=h') (t':=s''.toks) (fun b o hb e=>hs'.extBut b o hb e) hC hCL (.inr hCz) hcc hpc
def AllL{α:Type}(P:α->Prop):List α->Prop
 | []=>True
 | a :: r=>P a/\AllL P r
theorem AllL.mem{α:Type}{P:α->Prop}:∀ {l:List α},AllL P l->∀ a∈l,P a
 | _ :: _,h,_,.head _=>h.1
 | _ :: _,h,a,.tail _ m=>AllL.mem h.2 a m
def capOk(X:Cx)(scope:Scope)(cl:List (Str×Addr)):List Str->List Nat->Prop
 | y :: M,j :: ix=>(X.N[j]? = some y/\X.env.scope.names.lookup y=some .cell/\(relabel scope X.env).names.lookup y=some .cell/\(cl.lookup y).isSome=true)/\capOk X scope cl M ix
 | [],[]=>True
 | _,_=>False
theorem capOk.len{scope:Scope}{cl:List (Str×Addr)}:∀ {M:List Str}{ix:List Nat},capOk X scope cl M ix->ix.length=M.length
 | [],[],_=>rfl
 | _ :: _,_ :: _,h=>congrArg Nat.succ (capOk.len h.2)
 | [],_ :: _,h=>h.elim
 | _ :: _,[],h=>h.elim
theorem capOk.at{scope:Scope}{cl:List (Str×Addr)}:∀ {M:List Str}{ix:List Nat},capOk X scope cl M ix->∀ (i:Nat) (y:Str) (j:Nat),M[i]? = some y->ix[i]? = some j ->
 (X.N[j]? = some y/\X.env.scope.names.lookup y=some .cell/\(relabel scope X.env).names.lookup y=some .cell/\(cl.lookup y).isSome=true)
 | [],[],_,_,_,_,e,_=>by simp at e
 | _ :: _,_ :: _,h,0,_,_,e1,e2=>by simp at e1 e2;subst e1 e2;exact h.1
 | _ :: _,_ :: _,h,i + 1,y,j,e1,e2=>capOk.at h.2 i y j (by simpa using e1) (by simpa using e2)
 | [],_ :: _,h,_,_,_,_,_=>h.elim
 | _ :: _,[],h,_,_,_,_,_=>h.elim
def x1H(names:List (Str×NameKind))(cl:List (Str×Addr)):Bool:=names.all fun p => !(p.2 == .cell || p.2 == .free) || (cl.lookup p.1).isSome
theorem CompOk.of{x:Str}{M:List Str}{ix:List Nat}{scope:Scope}{cl:List (Str×Addr)}(clos:closureFor scope X.env=pure cl)(kind:scope.kind = .function)
 (names:∀ y∈scope.names,y.2 = .local->scope.names.lookup y.1=some .local) (nocell:∀ y∈scope.names,y.2 ≠ .cell) (loc:scope.names.lookup x=some .local)
 (sub:AllL (fun p=>X.env.cells.lookup p.1=some p.2) cl) (has:x1H (relabel scope X.env).names cl=true) (cap:capOk X scope cl M ix):CompOk X x M ix scope cl where
 clos:=clos
 kind:=kind
 names:=names
 nocell:=nocell
 loc:=loc
 sub:=fun y c h=>sub.mem _ (PySem.mem_of_lookup h)
 has:=fun y h=>by
  have h':(relabel scope X.env).names.lookup y=some .cell\/(relabel scope X.env).names.lookup y=some .free:=h
  have q:∀ k,(k=NameKind.cell\/k=NameKind.free)->(relabel scope X.env).names.lookup y=some k->∃ c,cl.lookup y=some c:=fun k hk e=>by
   have:=List.all_eq_true.mp has _ (PySem.mem_of_lookup e)
   have hk':(!(k == NameKind.cell || k == NameKind.free))=false:=by rcases hk with rfl | rfl <;> rfl
   simp only[hk',Bool.false_or]at this
   exact jw.mp this
  rcases h' with e | e
  · exact q _ (.inl rfl) e
  · exact q _ (.inr rfl) e
 len:=cap.len
 cap:=fun i y j e1 e2=>by
  obtain⟨h1,h2,h3,h4⟩:=cap.at i y j e1 e2
  obtain⟨c,hc⟩:=jw.mp h4
  exact⟨h1,.inr (.inl h2),c,hc,.inl h3,by rw[show X.env.kindOf y=X.env.scope.names.lookup y from rfl,h2];decide⟩
end
inductive D where
 | non | bl (b:Bool) | int (i:Int) | str (x:Str) | tup (ds:List D) | lst (ds:List D)
mutual
def IsD(K:PySem.W.Frag)(H:Hp):D->V->Prop
 | .non,x=>x = .non
 | .bl b,x=>x = .bl b
 | .int i,x=>x = .int i
 | .str z,x=>x = .str z
 | .tup ds,x=>∃ a xs,x = .ref a/\SqT K H a xs/\IsDs K H ds xs
 | .lst ds,x=>∃ a xs,x = .ref a/\SqL K H a xs/\IsDs K H ds xs
def IsDs(K:PySem.W.Frag)(H:Hp):List D->List V->Prop
 | [],xs=>xs=[]
 | d :: ds,xs=>∃ x r,xs=x :: r/\IsD K H d x/\IsDs K H ds r
end
mutual
def D.deep:D->Nat
 | .tup ds=>D.deeps ds + 1
 | .lst ds=>D.deeps ds + 1
 | _=>0
def D.deeps:List D->Nat
 | []=>0
 | d :: ds=>max d.deep (D.deeps ds)
end
theorem Same.tupq{K:PySem.W.Frag}{H H':Hp}{a:Addr}{xs:List V}(e:Same H H')(h:SqT K H a xs):SqT K H' a xs:=by
 rcases h with (h | ⟨o,h⟩) | h
 · exact .inl (.inl (e _ _ h))
 · exact .inl (.inr ⟨o,e _ _ h⟩)
 · exact .inr h
mutual
theorem IsD.same{K:PySem.W.Frag}{H H':Hp}(e:Same H H'):∀ {d:D}{x:V},IsD K H d x->IsD K H' d x
 | .non,_,h=>h
 | .bl _,_,h=>h
 | .int _,_,h=>h
 | .str _,_,h=>h
 | .tup _,_,⟨a,xs,h1,h2,h3⟩=>⟨a,xs,h1,e.tupq h2,IsDs.same e h3⟩
 | .lst _,_,⟨a,xs,h1,h2,h3⟩=>⟨a,xs,h1,e.seq h2,IsDs.same e h3⟩
theorem IsDs.same{K:PySem.W.Frag}{H H':Hp}(e:Same H H'):∀ {ds:List D}{xs:List V},IsDs K H ds xs->IsDs K H' ds xs
 | [],_,h=>h
 | _ :: _,_,⟨x,r,h1,h2,h3⟩=>⟨x,r,h1,IsD.same e h2,IsDs.same e h3⟩
end
theorem IsDs.length{K:PySem.W.Frag}{H:Hp}:∀ {ds:List D}{xs:List V},IsDs K H ds xs->xs.length=ds.length
 | [],_,h=>by
  have h':_=[]:=h
  rw[h'];rfl
 | _ :: _,_,⟨x,r,h1,_,h3⟩=>by rw[h1];exact congrArg Nat.succ (IsDs.length h3)
theorem IsDs.get{K:PySem.W.Frag}{H:Hp}:∀ {ds:List D}{xs:List V}{i:Nat}{d:D},IsDs K H ds xs->ds[i]? = some d->∃ x,xs[i]? = some x/\IsD K H d x
 | [],_,_,_,_,e=>by simp at e
 | _ :: _,_,0,_,⟨x,r,h1,h2,_⟩,e=>by
  simp at e;subst e h1;exact⟨x,rfl,h2⟩
 | _ :: _,_,i + 1,_,⟨x,r,h1,_,h3⟩,e=>by
  obtain⟨y,e1,e2⟩:=IsDs.get (i:=i) h3 (by simpa using e)
  subst h1
  exact⟨y,by simpa using e1,e2⟩
theorem IsDs.append{K:PySem.W.Frag}{H:Hp}:∀ {ds es:List D}{xs ys:List V},IsDs K H ds xs->IsDs K H es ys->IsDs K H (ds ++ es) (xs ++ ys)
 | [],_,_,_,h,h'=>by
  have:_=[]:=h
  subst this;exact h'
 | _ :: _,_,_,_,⟨x,r,h1,h2,h3⟩,h'=>by subst h1;exact⟨x,_,rfl,h2,IsDs.append h3 h'⟩
section
variable {X:Cx}{pins:List (Addr×Obj)}{σ:St}{H:Hp}{s:Shared}
theorem z5p(n:Nat):(List.range n).all (fun _=>true)=true:=by simp
theorem z4l(A:Around):A.in1.units=A.units + 1:=rfl
mutual
theorem x0x(I:Inv X pins σ H s):∀ (d:D) {A:Around}{x y:V}{u v:Value},IsD X.K H d x->IsD X.K H d y->RelV x u->RelV y v->A.units + d.deep < cLine->SeqAt.EqAt A s u v true
 | .non,_,_,_,_,_,hx,hy,rx,ry,_=>by
  have hx':_=V.non:=hx
  have hy':_=V.non:=hy
  subst hx' hy';cases rx;cases ry;exact SeqAt.EqAt.same _
 | .bl b,_,_,_,_,_,hx,hy,rx,ry,_=>by
  have hx':_=V.bl b:=hx
  have hy':_=V.bl b:=hy
  subst hx' hy';cases rx;cases ry;exact SeqAt.EqAt.same _
 | .int i,A,_,_,_,_,hx,hy,rx,ry,_=>by
  have hx':_=V.int i:=hx
  have hy':_=V.int i:=hy
  subst hx' hy'
  obtain⟨t,rfl⟩:=rx
  obtain⟨t',rfl⟩:=ry
  have:=SeqAt.EqAt.int_int (A:=A) (s:=s) i t i t'
  rwa [beq_self_eq_true]at this
 | .str z,A,_,_,_,_,hx,hy,rx,ry,_=>by
  have hx':_=V.str z:=hx
  have hy':_=V.str z:=hy
  subst hx' hy'
  obtain⟨t,rfl⟩:=rx
  obtain⟨t',rfl⟩:=ry
  have:=SeqAt.EqAt.str_str (A:=A) (s:=s) z t z t'
  rwa [beq_self_eq_true]at this
 | .tup ds,A,_,_,_,_,⟨a,xs,hx,qx,dx⟩,⟨b,ys,hy,qy,dy⟩,rx,ry,hu=>by
  subst hx hy
  cases rx;cases ry
  by_cases e:a=b
  · subst e;exact SeqAt.EqAt.same _
  · have hu':A.units + (D.deeps ds + 1) < cLine:=hu
    obtain⟨its,r1,t1,_⟩:=I.tuple qx
    obtain⟨jts,r2,t2,_⟩:=I.tuple qy
    have:=SeqAt.RcAt.tuples (A:=A) (e:=fun _=>true) t1 t2 (by omega) fun j h1 h2=>by
     have q:=z5Q I ds (A:=A.in1) dx dy r1 r2 (by rw[z4l];omega) j (by simpa using h1) (by simpa using h2)
     simpa using q
    have l1:=r1.length;have l2:=r2.length;have l3:=dx.length;have l4:=dy.length
    have sz:(its.toArray.size == jts.toArray.size)=true:=by rw[jI,jI,beq_iff_eq];omega
    rw[z5p,sz]at this
    exact SeqAt.EqAt.of_refs e this
 | .lst ds,A,_,_,_,_,⟨a,xs,hx,qx,dx⟩,⟨b,ys,hy,qy,dy⟩,rx,ry,hu=>by
  subst hx hy
  cases rx;cases ry
  by_cases e:a=b
  · subst e;exact SeqAt.EqAt.same _
  · have hu':A.units + (D.deeps ds + 1) < cLine:=hu
    obtain⟨its,r1,t1,_⟩:=I.list qx
    obtain⟨jts,r2,t2,_⟩:=I.list qy
    have l1:=r1.length;have l2:=r2.length;have l3:=dx.length;have l4:=dy.length
    have:=SeqAt.RcAt.lists (A:=A) (e:=fun _=>true) t1.isList t2.isList (by rw[jI,jI];omega) (by omega) fun j h1 h2=>by
     have q:=z5Q I ds (A:=A.in1) dx dy r1 r2 (by rw[z4l];omega) j (by simpa using h1) (by simpa using h2)
     simpa using q
    rw[z5p]at this
    exact SeqAt.EqAt.of_refs e this
theorem z5Q(I:Inv X pins σ H s):∀ (ds:List D) {A:Around}{xs ys:List V}{us vs:List Value},IsDs X.K H ds xs->IsDs X.K H ds ys->Vals xs us->Vals ys vs->A.units + D.deeps ds < cLine ->
 ∀ (j:Nat) (h1:j < us.length) (h2:j < vs.length),SeqAt.EqAt A s us[j] vs[j] true
 | [],_,_,_,_,_,hx,_,rx,_,_=>fun j h1 _=>by
  have hx':_=([]:List V):=hx
  subst hx'
  have:=rx.length
  simp at this;omega
 | d :: ds,A,_,_,_,_,⟨x,xs,ex,hx,hxs⟩,⟨y,ys,ey,hy,hys⟩,rx,ry,hu=>by
  subst ex ey
  have hu':A.units + max d.deep (D.deeps ds) < cLine:=hu
  cases rx with
  | cons r1 t1 =>
   cases ry with
   | cons r2 t2 =>
    intro j h1 h2
    cases j with
    | zero=>exact x0x I d hx hy r1 r2 (by omega)
    | succ j=>exact z5Q I ds hxs hys t1 t2 (by omega) j (by simpa using h1) (by simpa using h2)
end
def x1q(X:Cx)(b:Bool):R2:=fun x y H Q=>∃ d,IsD X.K H d x/\IsD X.K H d y/\(∃ a,x = .ref a)/\X.A.units + d.deep < cLine/\Q (.bl b) H
theorem x1k(I:Inv X pins σ H s){A:Around}{d:D}{a:Addr}{y:V}{v:Value}(hx:IsD X.K H d (.ref a))(hy:IsD X.K H d y)(ry:RelV y v)(hu:A.units + d.deep < cLine) :
 SeqAt.RcAt A s (.ref a) v true/\SeqAt.RcNeAt A s (.ref a) v false:=by
 cases d with
 | non=>exact absurd (show V.ref a=V.non from hx) (fun z=>nomatch z)
 | bl b=>exact absurd (show V.ref a=V.bl b from hx) (fun z=>nomatch z)
 | int b=>exact absurd (show V.ref a=V.int b from hx) (fun z=>nomatch z)
 | str b=>exact absurd (show V.ref a=V.str b from hx) (fun z=>nomatch z)
 | tup ds =>
  obtain⟨a',xs,ex,qx,dx⟩:=hx
  cases ex
  obtain⟨b,ys,ey,qy,dy⟩:=hy
  subst ey;cases ry
  have hu':A.units + (D.deeps ds + 1) < cLine:=hu
  obtain⟨its,r1,t1,_⟩:=I.tuple qx
  obtain⟨jts,r2,t2,_⟩:=I.tuple qy
  have l1:=r1.length;have l2:=r2.length;have l3:=dx.length;have l4:=dy.length
  have sz:(its.toArray.size == jts.toArray.size)=true:=by rw[jI,jI,beq_iff_eq];omega
  have he:∀ j (h1:j < its.toArray.size) (h2:j < jts.toArray.size),SeqAt.EqAt A.in1 s its.toArray[j] jts.toArray[j] true:=fun j h1 h2=>by
   have q:=z5Q I ds (A:=A.in1) dx dy r1 r2 (by rw[z4l];omega) j (by simpa using h1) (by simpa using h2)
   simpa using q
  have q1:=SeqAt.RcAt.tuples (A:=A) (e:=fun _=>true) t1 t2 (by omega) he
  have q2:=SeqAt.RcNeAt.tuples (A:=A) (e:=fun _=>true) t1 t2 (by omega) he
  rw[z5p,sz]at q1 q2
  exact⟨q1,q2⟩
 | lst ds =>
  obtain⟨a',xs,ex,qx,dx⟩:=hx
  cases ex
  obtain⟨b,ys,ey,qy,dy⟩:=hy
  subst ey;cases ry
  have hu':A.units + (D.deeps ds + 1) < cLine:=hu
  obtain⟨its,r1,t1,_⟩:=I.list qx
  obtain⟨jts,r2,t2,_⟩:=I.list qy
  have l1:=r1.length;have l2:=r2.length;have l3:=dx.length;have l4:=dy.length
  have sz:its.toArray.size=jts.toArray.size:=by rw[jI,jI];omega
  have he:∀ j (h1:j < its.toArray.size) (h2:j < jts.toArray.size),SeqAt.EqAt A.in1 s its.toArray[j] jts.toArray[j] true:=fun j h1 h2=>by
   have q:=z5Q I ds (A:=A.in1) dx dy r1 r2 (by rw[z4l];omega) j (by simpa using h1) (by simpa using h2)
   simpa using q
  have q1:=SeqAt.RcAt.lists (A:=A) (e:=fun _=>true) t1.isList t2.isList sz (by omega) he
  have q2:=SeqAt.RcNeAt.lists (A:=A) (e:=fun _=>true) t1.isList t2.isList sz (by omega) he
  rw[z5p]at q1 q2
  exact⟨q1,q2⟩
theorem y9T:OpR X (compareOp .Eq) (x1q X true):=by
 intro pins s σ H x y v u Q I rx ry h
 obtain⟨d,hx,hy,⟨a,rfl⟩,hu,q⟩:=h
 cases rx
 exact (x1k I hx hy ry hu).1 _ _ _ _ ⟨.bl true,H,I,rfl,q⟩
theorem y9Q:OpR X (compareOp .NotEq) (x1q X false):=by
 intro pins s σ H x y v u Q I rx ry h
 obtain⟨d,hx,hy,⟨a,rfl⟩,hu,q⟩:=h
 cases rx
 exact (x1k I hx hy ry hu).2 _ _ _ _ ⟨.bl false,H,I,rfl,q⟩
end
mutual
def D.noL:D->Bool
 | .lst _=>false
 | .tup ds=>D.noLs ds
 | _=>true
def D.noLs:List D->Bool
 | []=>true
 | d :: ds=>d.noL && D.noLs ds
end
theorem SqT.updL{K:PySem.W.Frag}{H:Hp}{a b:Addr}{xs ys zs:List V}(e:H b=some (.lst ys))(h:SqT K H a xs):SqT K (upd H b (.lst zs)) a xs:=by
 rcases h with (h | ⟨o,h⟩) | h
 · exact .inl (.inl (by rw[z0n (y8e h e (fun z=>nomatch z))];exact h))
 · exact .inl (.inr ⟨o,by rw[z0n (y8e h e (fun z=>nomatch z))];exact h⟩)
 · exact .inr h
mutual
theorem IsD.updL{K:PySem.W.Frag}{H:Hp}{b:Addr}{ys zs:List V}(e:H b=some (.lst ys)):∀ {d:D}{x:V},d.noL=true->IsD K H d x->IsD K (upd H b (.lst zs)) d x
 | .non,_,_,h=>h
 | .bl _,_,_,h=>h
 | .int _,_,_,h=>h
 | .str _,_,_,h=>h
 | .tup _,_,n,⟨a,xs,h1,h2,h3⟩=>⟨a,xs,h1,h2.updL e,IsDs.updL e n h3⟩
 | .lst _,_,n,_=>nomatch n
theorem IsDs.updL{K:PySem.W.Frag}{H:Hp}{b:Addr}{ys zs:List V}(e:H b=some (.lst ys)):∀ {ds:List D}{xs:List V},D.noLs ds=true->IsDs K H ds xs->IsDs K (upd H b (.lst zs)) ds xs
 | [],_,_,h=>h
 | d :: ds,_,n,⟨x,r,h1,h2,h3⟩=>by
  have n':(d.noL && D.noLs ds)=true:=n
  rw[jz]at n'
  exact⟨x,r,h1,IsD.updL e n'.1 h2,IsDs.updL e n'.2 h3⟩
end
theorem z7l:∀ {ds:List D},(∀ d∈ds,d.noL=true)->D.noLs ds=true
 | [],_=>rfl
 | d :: ds,h=>by
  show (d.noL && D.noLs ds)=true
  rw[h d (jX ..),z7l fun e he=>h e (jQ _ he)];rfl
theorem z5j:∀ {ds:List D},D.noLs ds=true->∀ d∈ds,d.noL=true
 | d :: ds,h,e,he=>by
  have h':(d.noL && D.noLs ds)=true:=h
  rw[jz]at h'
  rcases jH.mp he with rfl | he
  · exact h'.1
  · exact z5j h'.2 e he
theorem z0e{H:Hp}{p:Addr}(h:H p=none)(o:HO):Same H (upd H p o):=fun b u q=>by rw[z0n (z0F q h)];exact q
theorem z0G{H H':Hp}{p:Addr}{o:HO}(h:H p=none)(e:Same H H'):Same H (upd H' p o):=fun b u q=>by rw[z0n (z0F q h)];exact e b u q
def z1m(ix:List Nat)(te:TE)(σ:St)(Q:VK):It->Hp->Prop:=fun J H1=>∀ D,H1 D=none->∃ W:Nat->Nat->Hp->Prop,(∃ m,W 0 m (upd H1 D (.lst []))) /\
 ∀ i m H,W i m H->(J.stop i H/\Q (.ref D) H)\/(J.go i H/\∀ x H',J.yld i H x H'->z6G (some x :: cap ix σ) H' fun b H2 =>
  if b=true then te (some x :: cap ix σ) H2 fun y H3=>∃ ys,H3 D=some (.lst ys)/\ys.length < sizeLine/\∃ m',m' < m/\W (i + 1) m' (upd H3 D (.lst (ys ++ [y]))) else ∃ m',m' < m/\W (i + 1) m' H2)
theorem nxt{D:Ends}{σ:St}{H:Hp}(h:D.nx σ H):y9o D σ H:=h
theorem z7C{ix:List Nat}{wi:TI}{te:TE}{g:TG}{u:TS}{D:Ends}{σ:St}{H:Hp}(h:wi σ H (z1m ix te σ fun x H1=>g x σ H1 (u D))):y4L (y2p (z3Z ix wi z6G te) g) u D σ H:=h
theorem y1L{ix:List Nat}{wi:TI}{te:TE}{σ:St}{H:Hp}{Q:VK}(h:wi σ H (z1m ix te σ Q)):z3Z ix wi z6G te σ H Q:=h
theorem y4q{K:PySem.W.Frag}{J:It}{ix:List Nat}{te:TE}{σ:St}{H:Hp}{Q:VK}(n:Nat)(xs:Nat->V)(fs:List D)(hn:fs.length=n)(hz:n<=sizeLine)(hf:D.noLs fs=true)
 (hstop:∀ H',Same H H'->J.stop n H') (hgo:∀ i H',i < n->Same H H'->J.go i H'/\∀ x H'',J.yld i H' x H''->x=xs i/\H''=H')
 (step:∀ (i:Nat) (d:D) (H':Hp) (R:VK),i < n->fs[i]? = some d->Same H H'->(∀ y H'',Same H' H''->IsD K H'' d y->R y H'')->te (some (xs i) :: cap ix σ) H' R)
 (fin:∀ p H' ys,Same H H'->H' p=some (.lst ys)->IsDs K H' fs ys->Q (.ref p) H') :
 z1m ix te σ Q J H:=by
 intro Da hD
 refine⟨fun i m H'=>m=n - i/\i<=n/\Same H H'/\∃ ys,H' Da=some (.lst ys)/\IsDs K H' (fs.take i) ys,⟨n,by simp,jR _,z0e hD _,[],z0c,rfl⟩,?_⟩
 rintro i m H' ⟨rfl,hi,sm,ys,eD,dys⟩
 by_cases hlt:i < n
 · obtain⟨g,y⟩:=hgo i H' hlt sm
   refine .inr ⟨g,fun x H'' hy=>?_⟩
   obtain⟨rfl,rfl⟩:=y x H'' hy
   show te (some (xs i) :: cap ix σ) H'' _
   have hi':i < fs.length:=by omega
   refine step i fs[i] H'' _ hlt (jB hi') sm fun y H3 sm3 dy=>?_
   have e3:H3 Da=some (.lst ys):=sm3 _ _ eD
   have ly:=dys.length
   rw[jg]at ly
   refine⟨ys,e3,by omega,n - (i + 1),by omega,rfl,hlt,z0G hD (sm.trans sm3),ys ++ [y],z0c,?_⟩
   have nt:D.noLs (fs.take (i + 1))=true:=z7l fun d hd=>z5j hf d (kD hd)
   refine IsDs.updL e3 nt ?_
   rw[jL hi']
   exact (dys.same sm3).append ⟨y,[],rfl,dy,rfl⟩
 · have e:i=n:=by omega
   subst e
   have:fs.take i=fs:=js (by omega)
   rw[this]at dys
   exact .inl ⟨hstop H' sm,fin Da H' ys sm eD dys⟩
theorem z4H{K:PySem.W.Frag}{a:Addr}{xs:List V}{ix:List Nat}{te:TE}{σ:St}{H:Hp}{Q:VK}(fs:List D)(hS:SqL K H a xs)(hn:fs.length=xs.length)(hz:xs.length<=sizeLine)(hf:D.noLs fs=true)
 (step:∀ (i:Nat) (x:V) (d:D) (H':Hp) (R:VK),xs[i]? = some x->fs[i]? = some d->Same H H'->(∀ y H'',Same H' H''->IsD K H'' d y->R y H'')->te (some x :: cap ix σ) H' R)
 (fin:∀ p H' ys,Same H H'->H' p=some (.lst ys)->IsDs K H' fs ys->Q (.ref p) H') :
 z1m ix te σ Q (Itl K a) H:=by
 refine y4q (K:=K) xs.length (fun i=>xs.getD i .non) fs hn hz hf (fun H' sm=>⟨xs,sm.seq hS,jF _⟩) (fun i H' hi sm=>⟨⟨xs,xs[i],sm.seq hS,jB hi⟩,fun x H'' hy=>?_⟩) (fun i d H' R hi hd sm hR=>?_) fin
 · obtain⟨e,y⟩:=hy
   refine⟨?_,e⟩
   have:=y xs (sm.seq hS)
   rw[jM,this];rfl
 · have e:xs[i]? = some (xs.getD i .non):=by rw[jM,jB hi];rfl
   exact step i _ d H' R e hd sm hR
theorem z8x{K:PySem.W.Frag}{a:Addr}{xs:List V}{ix:List Nat}{te:TE}{σ:St}{H:Hp}{Q:VK}(fs:List D)(hS:SqL K H a xs)(hn:fs.length=xs.length)(hz:xs.length<=sizeLine)(hf:D.noLs fs=true)
 (step:∀ (i:Nat) (x:V) (d:D) (H':Hp) (R:VK),xs[i]? = some x->fs[i]? = some d->Same H H'->(∀ y H'',Same H' H''->IsD K H'' d y->R y H'')->te (some x :: cap ix σ) H' R)
 (fin:∀ p H',Same H H'->IsD K H' (.lst fs) (.ref p)->Q (.ref p) H') :
 z1m ix te σ Q (Itl K a) H:=z4H fs hS hn hz hf step fun p H' ys sm hd hy=>fin p H' sm ⟨p,ys,rfl,.of hd,hy⟩
theorem z7B{K:PySem.W.Frag}{a:Addr}{xs:List V}{ix:List Nat}{te:TE}{σ:St}{H:Hp}{Q:VK}(fs:List D)(hS:SqT K H a xs)(hn:fs.length=xs.length)(hz:xs.length<=sizeLine)(hf:D.noLs fs=true)
 (step:∀ (i:Nat) (x:V) (d:D) (H':Hp) (R:VK),xs[i]? = some x->fs[i]? = some d->Same H H'->(∀ y H'',Same H' H''->IsD K H'' d y->R y H'')->te (some x :: cap ix σ) H' R)
 (fin:∀ p H' ys,Same H H'->H' p=some (.lst ys)->IsDs K H' fs ys->Q (.ref p) H'):z1m ix te σ Q (Itt K a) H:=by
 refine y4q (K:=K) xs.length (fun i=>xs.getD i .non) fs hn hz hf (fun H' sm=>⟨xs,sm.tupq hS,jF _⟩) (fun i H' hi sm=>⟨⟨xs,xs[i],sm.tupq hS,jB hi⟩,fun x H'' hy=>?_⟩) (fun i d H' R hi hd sm hR=>?_) fin
 · obtain⟨e,y⟩:=hy
   refine⟨?_,e⟩
   have z:=y xs (sm.tupq hS)
   rw[jM,z];rfl
 · have e:xs[i]? = some (xs.getD i .non):=by rw[jM,jB hi];rfl
   exact step i _ d H' R e hd sm hR
theorem y0X{ix:List Nat}{wi:TI}{te:TE}{tr:TA}{σ:St}{H:Hp}{Q:List V->Hp->Prop}(h:wi σ H (z1m ix te σ fun x H1=>tr σ H1 fun xs H2=>Q (x :: xs) H2)):z1J (z3Z ix wi z6G te) tr σ H Q:=h
theorem z0S{K:PySem.W.Frag}{H:Hp}:∀ {ns:List Int}{ys:List V},IsDs K H (ns.map D.int) ys->ys=ns.map V.int
 | [],_,h=>h
 | n :: ns,_,⟨x,r,h1,h2,h3⟩=>by
  have h2':x=V.int n:=h2
  rw[h1,h2',z0S (ns:=ns) h3];rfl
theorem z1N(ns:List Int):D.noLs (ns.map D.int)=true:=z7l fun d hd=>by
 obtain⟨n,_,rfl⟩:=jU.mp hd
 rfl
section
variable {X:Cx}
theorem z1a(K:PySem.W.Frag)(hK:X.K=K):CallR X (.builtin "len") (fun xs H Q=>∃ x n,xs=[x]/\x0J K x H n/\Q (.int n) H):=hK ▸ y6g
theorem z0i(K:PySem.W.Frag)(hK:X.K=K):IxR X (rIx K):=hK ▸ x0n
theorem z3p(K:PySem.W.Frag)(hK:X.K=K):SlR X (x1m K):=hK ▸ y7v
theorem z4v(K:PySem.W.Frag)(hK:X.K=K):SlR X (x1l K):=hK ▸ y9w
theorem z0y(K:PySem.W.Frag)(hK:X.K=K):OpR X (binaryOp .Add) (y9F K):=hK ▸ y3q
theorem z5H(K:PySem.W.Frag)(hK:X.K=K):OpR X (compareOp .NotIn) (rIn K true):=hK ▸ z8j
theorem z6z(K:PySem.W.Frag)(hK:X.K=K):CallR X (.type "list") (fun xs H Q=>∃ p ys,xs=[.ref p]/\(SqL K H p ys\/SqT K H p ys)/\∀ l,H l=none->Q (.ref l) (upd H l (.lst ys))):=hK ▸ z8C
theorem z2Q(K:PySem.W.Frag)(hK:X.K=K):CallR X (.type "tuple") (fun xs H Q=>∃ p ys,xs=[.ref p]/\((SqL K H p ys/\∀ l,H l=none->Q (.ref l) (upd H l (.tup ys)))\/(SqT K H p ys/\Q (.ref p) H))):=hK ▸ z7D
theorem z1h(K:PySem.W.Frag)(hK:X.K=K):CallR X (.builtin "isinstance") (fun xs H Q=>∃ x c t b,xs=[x,c]/\isC c=true/\TyD K H x t/\PySem.W.kitOne K t (x1a c)=some b/\Q (.bl b) H):=hK ▸ y6h
def x0S(K:PySem.W.Frag)(b:Bool):R2:=fun x y H Q=>∃ d,IsD K H d x/\IsD K H d y/\(∃ a,x = .ref a)/\d.deep<=60/\Q (.bl b) H
theorem z0w(K:PySem.W.Frag)(hK:X.K=K)(hu:X.A.units + 64 < cLine):OpR X (compareOp .Eq) (x0S K true):=by
 subst hK
 intro pins s σ H x y v u Q I rx ry h
 obtain⟨d,hx,hy,ha,hd,q⟩:=h
 exact y9T pins s σ H x y v u Q I rx ry ⟨d,hx,hy,ha,by omega,q⟩
theorem z1w(K:PySem.W.Frag)(hK:X.K=K)(hu:X.A.units + 64 < cLine):OpR X (compareOp .NotEq) (x0S K false):=by
 subst hK
 intro pins s σ H x y v u Q I rx ry h
 obtain⟨d,hx,hy,ha,hd,q⟩:=h
 exact y9Q pins s σ H x y v u Q I rx ry ⟨d,hx,hy,ha,by omega,q⟩
end
end L2
namespace L2
open PySem PySem.W PySem.Calls PyProof.Rows
theorem y3F{p q:Program}{loose:List Str}{Xt:Shared->Bool}{α:Type}{Yf:Shared->α}{Ya:World->α}{N:Nat}(e:opening p=plainProg p.main.scope.names)(hN:Nat.ble 600 N=true)(f:∀ s,fenceModules? p s=some s)
 (h:∀ (w:World) (os:OsState),(topRun treeTable p w 11 (some (.ref 6)) N ⟨boot_heap w.params,Array.mk [],boot_drawn,boot_toks,os⟩ (topStub p)).map (fun s =>
  ((staticsOk (importedModules p.main.body) (boot_heap w.params) s.heap && namesBound p s.heap && gensDone s && laidKept (boot_heap w.params) s.heap),openSeen q loose (importedModules p.main.body) Xt true s,Yf s))=some (true,openGood q loose,Ya w)):LeftO p q loose Xt Yf Ya N:=fun w=>by
 obtain⟨⟨hp,gs,d,k,os⟩,e1,e2⟩:=jo.mp (boot_open e hN f w)
 simp only[Prod.mk.injEq]at e2
 obtain⟨rfl,rfl,rfl,rfl⟩:=e2
 have size:((boot_heap w.params).isNs mainGlobals && (Array.mk ([]:List GenState)).size == 0)=true/\(boot_heap w.params).objs.size=11/\(boot_heap w.params).nsMap mainGlobals "__annotations__" = some (.ref 6):=⟨by kernel_rfl,by kernel_rfl,by kernel_rfl⟩
 obtain⟨z1,z2,z3⟩:=size
 obtain⟨s,r,l⟩:=jo.mp (h w os)
 simp only[Prod.mk.injEq]at l
 obtain⟨l1,l2,l3⟩:=l
 have t:topFrom treeTable p w N ⟨boot_heap w.params,Array.mk [],boot_drawn,boot_toks,os⟩=some s:=by
  unfold topFrom
  dsimp only
  rw[z1,z2,z3,r]
  show (match staticsOk (importedModules p.main.body) (boot_heap w.params) s.heap && namesBound p s.heap && gensDone s && laidKept (boot_heap w.params) s.heap with | true=>_ | false=>_)=_
  rw[l1]
 unfold openEnds
 rw[e1]
 show (topFrom treeTable p w N _).map _=_
 rw[t]
 exact congrArg some (Prod.ext l2 l3)
end L2
namespace L2
open PySem PySem.Spec PyProof.Rows
section
variable {X:Cx}
theorem z8D:CallR X (.type "dict") (fun xs H Q=>∃ a kvs,xs=[V.ref a]/\H a=some (.dK kvs)/\∀ p,H p=none->Q (.ref p) (upd H p (.dK kvs))):=by
 intro pins s σ H xs us Q I r h
 obtain⟨a,kvs,rfl,ha,q⟩:=h
 obtain⟨u,rfl,ru⟩:=z3L r
 cases ru
 exact y6d I (.inl ha) fun p s' hp I'=>⟨.ref p,_,I',rfl,q p hp⟩
end
section
variable {X:Cx}
theorem y9S(hu:X.A.units + 1 < cLine):OpR X (compareOp .In) (fun x y H Q=>∃ a o,y = .ref a/\DGet H a x o/\Q (.bl o.isSome) H):=by
 intro pins s σ H x y v u Q I rx ry h
 obtain⟨a,o,rfl,g,q⟩:=h
 cases ry
 exact x1I hu I g rx fun s' I'=>⟨.bl _,H,I',rfl,q⟩
end
def y8X(ix:List Nat)(tt:TT)(te:TE)(σ:St)(Q:VK):It->Hp->Prop:=fun J H1=>∀ D,H1 D=none->∃ W:Nat->Nat->Hp->Prop,(∃ m,W 0 m (upd H1 D (.lst []))) /\
 ∀ i m H,W i m H->(J.stop i H/\Q (.ref D) H)\/(J.go i H/\∀ x H',J.yld i H x H'->tt (some x :: cap ix σ) H' fun b H2 =>
  if b=true then te (some x :: cap ix σ) H2 fun y H3=>∃ ys,H3 D=some (.lst ys)/\ys.length < sizeLine/\∃ m',m' < m/\W (i + 1) m' (upd H3 D (.lst (ys ++ [y]))) else ∃ m',m' < m/\W (i + 1) m' H2)
theorem z7x(n:Str):∀ ns:List Str,inV (.str n) (ns.map V.str)=decide (n∈ns)
 | []=>rfl
 | m :: ns=>by
  have h:=z7x n ns
  unfold inV at h ⊢
  rw[jj,kZ,h]
  have e:eqV (.str m) (.str n)=decide (m=n):=by show (m == n)=_;exact Bool.beq_eq_decide_eq ..
  rw[e,Bool.eq_iff_iff]
  simp only[Bool.or_eq_true,decide_eq_true_eq,jH]
  exact⟨fun h=>h.elim (fun h => .inl h.symm) .inr,fun h=>h.elim (fun h => .inl h.symm) .inr⟩
theorem z4o(ns:List Str):(ns.map V.str).all z4F=true:=by
 rw[List.all_eq_true]
 intro x hx
 obtain⟨n,_,rfl⟩:=jU.mp hx
 rfl
section
variable {X:Cx}{a b c d:Expr}{ta tb tc td:TE}{pos:Pos}{x1:_}
abbrev Pl(X:Cx)(e:Expr)(es:List Expr):Prop:=starEach (e :: es) X.env=(false,eval e X.env) :: starEach es X.env
theorem z2b(ha:PE X a ta)(hb:PE X b tb)(h1:Pl X a [b])(h2:Pl X b []):PE X (.Tuple [a,b] x1 pos) (y7j (z1J ta (z1J tb z6F))):=z1j (z0h ha (z0h hb z0f h2) h1)
theorem y3l(ha:PE X a ta)(hb:PE X b tb)(hc:PE X c tc)(h1:Pl X a [b,c])(h2:Pl X b [c])(h3:Pl X c []):PE X (.Tuple [a,b,c] x1 pos) (y7j (z1J ta (z1J tb (z1J tc z6F)))):=z1j (z0h ha (z0h hb (z0h hc z0f h3) h2) h1)
theorem z3Q:PE X (.List [] pos) (x0G z6F):=z2n z0f
theorem z4A(ha:PE X a ta)(h1:Pl X a []):PE X (.List [a] pos) (x0G (z1J ta z6F)):=z2n (z0h ha z0f h1)
theorem z2s{X:Cx}{i:Nat}{x:Str}{e:Expr}{te:TE}{pos' pos:Pos}(hN:X.N.Nodup)(hi:X.N[i]? = some x)(hx:Loc X.env.scope x)(he:PE X e te)(hs:swapsWith e (some (.Name x pos')) pos.line X.env=pure false)(hf:X.fn x=true\/X.env.scope.names.lookup x=some .local) :
 PS X (.Assign [.Name x pos'] e pos) (y2p te (z1g i)):=z0t hN hi hx he hs hf
end
section
variable {X:Cx}
theorem z6f:∀ {ss:List Str}{vs:List Value},Vals (ss.map V.str) vs->StrsAre vs ss
 | [],_,r=>by cases r;exact .nil
 | z :: ss,_,r=>by
  rw[jj]at r
  cases r with
  | cons h t =>
   obtain⟨tk,rfl⟩:=h
   exact .cons _ _ (z6f t)
theorem z1V:∀ {ss:List Str}{vs:List Value},StrsAre vs ss->Vals (ss.map V.str) vs
 | _,_,.nil => .nil
 | _,_,.cons _ _ t => .cons ⟨_,rfl⟩ (z1V t)
theorem z1G(K:PySem.W.Frag)(hK:X.K=K):CallR X (.builtin "sorted") (fun xs H Q=>∃ (p:Addr) (ss:List Str),xs=[.ref p]/\SqL K H p (ss.map V.str)/\ss.length < 64 /\
 ∀ l (ss':List Str),H l=none->ss'.Perm ss->sortedS ss'=true->Q (.ref l) (upd H l (.lst (ss'.map V.str)))):=by
 subst hK
 intro pins s σ H xs us Q I r h
 obtain⟨p,ss,rfl,hS,few,q⟩:=h
 obtain⟨u,rfl,rx⟩:=z3L r
 cases rx
 obtain⟨its,rv,pl,hz⟩:=I.list hS
 have hl:=rv.length
 rw[jA]at hl
 refine sorted_strs (vs:=its) (by simpa using pl.isList) (z6f rv) (by omega) fun out ss' b1 b2 b3=>?_
 obtain⟨c,hc⟩:=sortedAll_at s.heap its out
 have lz:(ss'.map V.str).length<=sizeLine:=by
  rw[jA,b2.length_eq,sizeLine_eq];omega
 refine⟨.ref (s.heap.objs.size + 1),upd H (s.heap.objs.size + 1) (.lst (ss'.map V.str)),?_,rfl,q _ ss' (I.hok.fresh (Nat.le_succ _)) b2 b3⟩
 exact I.laid (t':=s.toks) (fun b o e=>sortedAll_old e) (Nat.le_succ _) (show ObjOk X.prog X.w _ (sortedAll s.heap its out) _ (.lst (ss'.map V.str)) from ⟨lz,out.toList,c,z1V b1,by simpa using hc⟩)
end
end L2
namespace L2
open PySem PySem.W PyProof.Rows
section
variable {n:Nat}{lt:Nat->Nat->Bool}{cmp:Nat->Nat->(Bool->Shared->Prop)->Shared->Prop}{Pv:Shared->Prop}
structure SOrd (n:Nat) (lt:Nat->Nat->Bool):Prop where
 trans:∀ i j k,i < n->j < n->k < n->lt i j=true->lt j k=true->lt i k=true
 conn:∀ i j,i < n->j < n->i≠j->lt i j=false->lt j i=true
def y9a(n:Nat)(lt:Nat->Nat->Bool)(cmp:Nat->Nat->(Bool->Shared->Prop)->Shared->Prop)(Pv:Shared->Prop):Prop:=∀ i j C s,i < n->j < n->i≠j->Pv s->(∀ s',Pv s'->C (lt i j) s')->cmp i j C s
def SPm(n:Nat)(p:Array Nat):Prop:=p.Perm (List.toArray (List.range n))
theorem SPm.size{p:Array Nat}(h:SPm n p):p.size=n:=by
 have:=h.size_eq
 simpa using this
theorem SPm.at{p:Array Nat}(h:SPm n p){i:Nat}(hi:i < n):p[i]? = some (p.getD i 0):=by
 have hs:=h.size
 rw[jO (by omega)]
 simp[Array.getD,show i < p.size by omega]
theorem SPm.inn{p:Array Nat}(h:SPm n p){i:Nat}(hi:i < n):p.getD i 0 < n:=by
 have hs:=h.size
 have e:=h.at hi
 have hm:p.getD i 0∈p:=Array.mem_of_getElem? e
 have:=h.mem_iff.mp hm
 simpa using this
theorem SPm.ne{p:Array Nat}(h:SPm n p){i j:Nat}(hi:i < n)(hj:j < n)(hij:i≠j):p.getD i 0≠p.getD j 0:=fun e=>by
 have hs:=h.size
 have nd:p.toList.Nodup:=(show p.toList.Perm (List.range n) from (Array.perm_iff_toList_perm.mp h)).nodup_iff.mpr List.nodup_range
 have e1:=h.at hi
 have e2:=h.at hj
 rw[e]at e1
 rw[<- kB]at e1 e2
 obtain⟨a1,b1⟩:=jE.mp e1
 obtain⟨a2,b2⟩:=jE.mp e2
 exact hij ((List.getElem_inj nd).mp (b1.trans b2.symm))
theorem z7y{p q:Array Nat}{i j:Nat}(h:p[i]? = q[j]?):p.getD i 0=q.getD j 0:=by
 rw[Array.getD_eq_getD_getElem?,Array.getD_eq_getD_getElem?,h]
def Srt(lt:Nat->Nat->Bool)(p:Array Nat)(m:Nat):Prop:=∀ i j,i < j->j < m->lt (p.getD i 0) (p.getD j 0)=true
def Dsc(lt:Nat->Nat->Bool)(p:Array Nat)(m:Nat):Prop:=∀ i j,i < j->j < m->lt (p.getD j 0) (p.getD i 0)=true
theorem Srt.snoc{p:Array Nat}(O:SOrd n lt)(h:SPm n p){a:Nat}(ha:1<=a)(hn:a < n)(s:Srt lt p a)(e:lt (p.getD (a - 1) 0) (p.getD a 0)=true):Srt lt p (a + 1):=fun i j hij hj=>by
 by_cases hja:j < a
 · exact s i j hij hja
 · have ej:j=a:=by omega
   subst ej
   by_cases hi:i=j - 1
   · rw[hi];exact e
   · exact O.trans _ _ _ (h.inn (by omega)) (h.inn (by omega)) (h.inn hn) (s i (j - 1) (by omega) (by omega)) e
theorem Dsc.snoc{p:Array Nat}(O:SOrd n lt)(h:SPm n p){a:Nat}(ha:1<=a)(hn:a < n)(s:Dsc lt p a)(e:lt (p.getD a 0) (p.getD (a - 1) 0)=true):Dsc lt p (a + 1):=fun i j hij hj=>by
 by_cases hja:j < a
 · exact s i j hij hja
 · have ej:j=a:=by omega
   subst ej
   by_cases hi:i=j - 1
   · rw[hi];exact e
   · exact O.trans _ _ _ (h.inn hn) (h.inn (by omega)) (h.inn (by omega)) e (s i (j - 1) (by omega) (by omega))
theorem z4D(O:SOrd n lt)(hc:y9a n lt cmp Pv){p:Array Nat}(h:SPm n p):∀ (f a:Nat) (Q:Nat->Shared->Prop) (s:Shared),1<=a->a + f<=n->Srt lt p a->Pv s ->
 (∀ m s',Pv s'->a<=m->m<=a + f->Srt lt p m->(m < a + f->lt (p.getD m 0) (p.getD (m - 1) 0)=true)->Q m s')->(kas_asc p f a).kasWp cmp Q s
 | 0,a,Q,s,ha,hf,hs,hp,k=>k a s hp (jF _) (jF _) hs fun z=>absurd z (by omega)
 | f + 1,a,Q,s,ha,hf,hs,hp,k=>by
  refine hc _ _ _ s (h.inn (by omega)) (h.inn (by omega)) (h.ne (by omega) (by omega) (by omega)) hp fun s' hp'=>?_
  cases e:lt (p.getD a 0) (p.getD (a - 1) 0) with
  | true =>
   show KasT.kasWp cmp (if true=true then .ret a else kas_asc p f (a + 1)) Q s'
   rw[if_pos rfl]
   exact k a s' hp' (jF _) (by omega) hs fun _=>e
  | false =>
   show KasT.kasWp cmp (if false=true then .ret a else kas_asc p f (a + 1)) Q s'
   rw[if_neg (by decide)]
   have e':=O.conn _ _ (h.inn (by omega)) (h.inn (by omega)) (h.ne (by omega) (by omega) (by omega)) e
   refine z4D O hc h f (a + 1) Q s' (by omega) (by omega) (hs.snoc O h ha (by omega) e') hp' fun m s'' hp'' h1 h2 h3 h4=>?_
   exact k m s'' hp'' (by omega) (by omega) h3 fun z=>h4 (by omega)
theorem z5L(O:SOrd n lt)(hc:y9a n lt cmp Pv){p:Array Nat}(h:SPm n p):∀ (f a:Nat) (Q:Array Nat×Nat×Nat->Shared->Prop) (s:Shared),1<=a->a + f<=n->Dsc lt p a->Pv s ->
 (∀ m s',Pv s'->a<=m->m<=a + f->Dsc lt p m->Q (p,m,0) s')->(kas_desc f p a 0).kasWp cmp Q s
 | 0,a,Q,s,ha,hf,hs,hp,k=>k a s hp (jF _) (jF _) hs
 | f + 1,a,Q,s,ha,hf,hs,hp,k=>by
  refine hc _ _ _ s (h.inn (by omega)) (h.inn (by omega)) (h.ne (by omega) (by omega) (by omega)) hp fun s' hp'=>?_
  cases e:lt (p.getD a 0) (p.getD (a - 1) 0) with
  | true =>
   show KasT.kasWp cmp (kas_desc f p (a + 1) 0) Q s'
   refine z5L O hc h f (a + 1) Q s' (by omega) (by omega) (hs.snoc O h ha (by omega) e) hp' fun m s'' hp'' h1 h2 h3=>?_
   exact k m s'' hp'' (by omega) (by omega) h3
  | false =>
   have e':=O.conn _ _ (h.inn (by omega)) (h.inn (by omega)) (h.ne (by omega) (by omega) (by omega)) e
   refine hc _ _ _ s' (h.inn (by omega)) (h.inn (by omega)) (h.ne (by omega) (by omega) (by omega)) hp' fun s'' hp''=>?_
   rw[e']
   exact k a s'' hp'' (jF _) (by omega) hs
theorem z6r{p:Array Nat}(h:SPm n p)(i j:Nat):SPm n (kas_rev p i j):=(mirror_perm _ _ _ _).trans h
theorem z9p{p:Array Nat}(h:SPm n p){m:Nat}(hm:m<=n)(hd:Dsc lt p m):Srt lt (kas_rev p 0 m) m:=fun i j hij hj=>by
 have hs:=h.size
 have g:∀ k,k < m->(kas_rev p 0 m).getD k 0=p.getD (0 + m - 1 - k) 0:=fun k hk=>by
  have e:=getElem?_mirror_all (xs:=p) (i:=0) (j:=m) (by omega) k
  rw[if_pos ⟨jR _,hk⟩]at e
  exact z7y e
 rw[g i (by omega),g j hj]
 exact hd _ _ (by omega) (by omega)
theorem z8o(O:SOrd n lt)(hc:y9a n lt cmp Pv){p:Array Nat}(h:SPm n p)(h1:1<=n)(Q:Nat×Array Nat->Shared->Prop)(s:Shared)(hp:Pv s)
 (k:∀ m p' s',Pv s'->1<=m->m<=n->SPm n p'->Srt lt p' m->Q (m,p') s'):(kas_count n p).kasWp cmp Q s:=by
 unfold kas_count
 rw[KasT.kasWp_bind]
 refine z4D O hc h (n - 1) 1 _ s (jF _) (by omega) (fun i j hij hj=>absurd hij (by omega)) hp fun m s' hp' a1 a2 a3 a4=>?_
 by_cases e:m=n
 · rw[if_pos (by simpa using e)]
   exact k m p s' hp' a1 (by omega) h a3
 · rw[if_neg (by simpa using e)]
   by_cases g:m > 1
   · rw[if_pos g]
     refine hc _ _ _ s' (h.inn (by omega)) (h.inn (by omega)) (h.ne (by omega) (by omega) (by omega)) hp' fun s'' hp''=>?_
     rw[a3 0 (m - 1) (by omega) (by omega)]
     show KasT.kasWp cmp (if true=true then .ret (m,p) else _) Q s''
     rw[if_pos rfl]
     exact k m p s'' hp'' a1 (by omega) h a3
   · rw[if_neg g]
     have m1:m=1:=by omega
     subst m1
     have e1:=a4 (by omega)
     unfold kas_descPart
     rw[KasT.kasWp_bind]
     have d2:Dsc lt p (1 + 1):=Dsc.snoc O h (jF _) (by omega) (fun i j hij hj=>absurd hij (by omega)) e1
     refine z5L O hc h (n - (1 + 1)) (1 + 1) _ s' (by omega) (by omega) d2 hp' fun m s2 hp2 b1 b2 b3=>?_
     show KasT.kasWp cmp (if 0 > 0 then _ else kas_tail3 m n p) Q s2
     rw[if_neg (by decide)]
     unfold kas_tail3
     rw[KasT.kasWp_bind]
     refine z4D O hc (z6r h 0 m) (n - m) m _ s2 (by omega) (by omega) (z9p h (by omega) b3) hp2 fun m' s3 hp3 c1 c2 c3 _=>?_
     exact k m' _ s3 hp3 (by omega) (by omega) (z6r h 0 m) c3
theorem z3h(O:SOrd n lt)(hc:y9a n lt cmp Pv){p:Array Nat}(h:SPm n p){k:Nat}(hk:k < n)(hs:Srt lt p k):∀ (f l r:Nat) (Q:Nat->Shared->Prop) (s:Shared),l<=r->r<=k->r - l<=f->Pv s ->
 (∀ i,i < l->lt (p.getD i 0) (p.getD k 0)=true)->(∀ i,r<=i->i < k->lt (p.getD k 0) (p.getD i 0)=true) ->
 (∀ m s',Pv s'->m<=k->(∀ i,i < m->lt (p.getD i 0) (p.getD k 0)=true)->(∀ i,m<=i->i < k->lt (p.getD k 0) (p.getD i 0)=true)->Q m s')->(kas_place p k f l r).kasWp cmp Q s
 | 0,l,r,Q,s,h1,h2,h3,hp,a,b,c=>c l s hp (by omega) a fun i hi=>b i (by omega)
 | f + 1,l,r,Q,s,h1,h2,h3,hp,a,b,c=>by
  unfold kas_place
  by_cases g:l ≥ r
  · rw[if_pos g]
    exact c l s hp (by omega) a fun i hi=>b i (by omega)
  · rw[if_neg g]
    refine hc _ _ _ s (h.inn hk) (h.inn (by omega)) (h.ne hk (by omega) (by omega)) hp fun s' hp'=>?_
    cases e:lt (p.getD k 0) (p.getD ((l + r) / 2) 0) with
    | true =>
     show KasT.kasWp cmp (if true=true then kas_place p k f l ((l + r) / 2) else _) Q s'
     rw[if_pos rfl]
     refine z3h O hc h hk hs f l ((l + r) / 2) Q s' (by omega) (by omega) (by omega) hp' a (fun i hi hik=>?_) c
     by_cases z:i=(l + r) / 2
     · rw[z];exact e
     · exact O.trans _ _ _ (h.inn hk) (h.inn (by omega)) (h.inn (by omega)) e (hs _ _ (by omega) hik)
    | false =>
     show KasT.kasWp cmp (if false=true then _ else kas_place p k f ((l + r) / 2 + 1) r) Q s'
     rw[if_neg (by decide)]
     have e':=O.conn _ _ (h.inn hk) (h.inn (by omega)) (h.ne hk (by omega) (by omega)) e
     refine z3h O hc h hk hs f ((l + r) / 2 + 1) r Q s' (by omega) (by omega) (by omega) hp' (fun i hi=>?_) b c
     by_cases z:i=(l + r) / 2
     · rw[z];exact e'
     · exact O.trans _ _ _ (h.inn (by omega)) (h.inn (by omega)) (h.inn hk) (hs i ((l + r) / 2) (by omega) (by omega)) e'
theorem y1P{p:Array Nat}(h:SPm n p){k l:Nat}(hk:k < n)(hl:l<=k)(hs:Srt lt p k)(a:∀ i,i < l->lt (p.getD i 0) (p.getD k 0)=true)(b:∀ i,l<=i->i < k->lt (p.getD k 0) (p.getD i 0)=true):Srt lt (bubble p k (k - l)) (k + 1):=by
 have hz:=h.size
 have g:∀ i,(bubble p k (k - l)).getD i 0=if i=l then p.getD k 0 else if l < i/\i<=k then p.getD (i - 1) 0 else p.getD i 0:=fun i=>by
  have e:=getElem?_bubble (xs:=p) (src:=k) (by omega) (k - l) (by omega) i
  have el:k - (k - l)=l:=by omega
  rw[el]at e
  by_cases h1:i=l
  · rw[if_pos h1]at e ⊢;exact z7y e
  · rw[if_neg h1]at e ⊢
    by_cases h2:l < i/\i<=k
    · rw[if_pos h2]at e ⊢;exact z7y e
    · rw[if_neg h2]at e ⊢;exact z7y e
 intro i j hij hj
 rw[g i,g j]
 by_cases i1:i=l
 · rw[if_pos i1,if_neg (by omega),if_pos (by omega)]
   exact b _ (by omega) (by omega)
 · rw[if_neg i1]
   by_cases i2:l < i/\i<=k
   · rw[if_pos i2,if_neg (by omega),if_pos (by omega)]
     exact hs _ _ (by omega) (by omega)
   · rw[if_neg i2]
     by_cases j1:j=l
     · rw[if_pos j1];exact a i (by omega)
     · rw[if_neg j1]
       by_cases j2:l < j/\j<=k
       · rw[if_pos j2]
         exact hs i (j - 1) (by omega) (by omega)
       · rw[if_neg j2];exact hs i j hij (by omega)
theorem z6s(O:SOrd n lt)(hc:y9a n lt cmp Pv):∀ (f k:Nat) (p:Array Nat) (Q:Array Nat->Shared->Prop) (s:Shared),SPm n p->1<=k->k + f=n->Srt lt p k->Pv s ->
 (∀ p' s',Pv s'->SPm n p'->Srt lt p' n->Q p' s')->(kas_bin f p k).kasWp cmp Q s
 | 0,k,p,Q,s,h,h1,h2,hs,hp,c=>c p s hp h (by rw[<- h2];exact hs)
 | f + 1,k,p,Q,s,h,h1,h2,hs,hp,c=>by
  unfold kas_bin
  rw[KasT.kasWp_bind]
  refine z3h O hc h (k:=k) (by omega) hs k 0 k _ s (jR _) (jF _) (by omega) hp (fun i hi=>absurd hi (by omega)) (fun i hi hk=>absurd hi (by omega)) fun m s' hp' m1 m2 m3=>?_
  exact z6s O hc f (k + 1) _ Q s' ((bubble_perm _ _ _).trans h) (by omega) (by omega) (y1P h (by omega) m1 hs m2 m3) hp' c
theorem z9o(O:SOrd n lt)(hc:y9a n lt cmp Pv)(h1:1<=n)(Q:Array Nat->Shared->Prop)(s:Shared)(hp:Pv s)(k:∀ p s',Pv s'->SPm n p->Srt lt p n->Q p s'):(kas_sort n).kasWp cmp Q s:=by
 unfold kas_sort
 rw[KasT.kasWp_bind]
 refine z8o O hc (.refl _) h1 _ s hp fun m p' s' hp' m1 m2 pm sr=>?_
 by_cases g:m < n
 · rw[if_pos g]
   have e:max m 1=m:=by omega
   show KasT.kasWp cmp (kas_bin (n - max m 1) p' (max m 1)) Q s'
   rw[e]
   exact z6s O hc (n - m) m p' Q s' pm m1 (by omega) sr hp' k
 · rw[if_neg g]
   have e:m=n:=by omega
   subst e
   exact k p' s' hp' pm sr
end
end L2
namespace L2
open PySem PySem.W PySem.Calls PyProof.Rows
section
variable {prog:Program}{w:World}{A:Around}{E:Value->Shared->Prop}{s:Shared}
def y9b(a:Addr)(h g:Heap):Prop:=∀ b o,b≠a->h.get? b=some o->g.get? b=some o
def z3d(vs:List Value)(p:Array Nat):List Value:=p.toList.map fun i=>vs.getD i Value.none
theorem y1E{a:Addr}{vs:List Value}{c0:Nat}{Z:PySem.Fin->Shared->Prop}{κ:SortKind}{lt:Nat->Nat->Bool}(at_:s.heap.get? a=some (seqObj "list" vs.toArray c0))(two:2<=vs.length)(few:vs.length < 64)(O:SOrd vs.length lt)
 (kind:∀ g,y9b a s.heap g->∀ R:SortKind->Shared->Prop,R κ { s with heap:=g }->wpAny (model prog w) A (keyKind' vs.toArray) R (fun _ _=>False) { s with heap:=g })
 (less:∀ g,y9b a s.heap g->∀ i j (C:Bool->Shared->Prop),i < vs.length->j < vs.length->i≠j->C (lt i j) { s with heap:=g }->wpAny (model prog w) A (keyLt' κ (vs.getD i Value.none) (vs.getD j Value.none)) C (fun _ _=>False) { s with heap:=g })
 (fin:∀ (p:Array Nat) g c,SPm vs.length p->Srt lt p vs.length->y9b a s.heap g->g.get? a=some (seqObj "list" (z3d vs p).toArray c)->Z (.done (.ret .none)) { s with heap:=g }) :
 wpAny (model prog w) A (Builtin.«list.sort» ⟨[.ref a],[]⟩) Z E s:=by
 have up:=Heap.SameBut.update s.heap a (Obj.mapSeq fun _=>(#[]:Array Value))
 obtain⟨c1,at1⟩:∃ c,(s.heap.update a (Obj.mapSeq fun _=>(#[]:Array Value))).get? a=some (seqObj "list" #[] c):=⟨_,get?_update_seq at_ fun _=>#[]⟩
 obtain⟨g,eg⟩:∃ g,g=((s.heap.update a (Obj.mapSeq fun _=>(#[]:Array Value))).push (seqObj "tuple" vs.toArray 0)).push (seqObj "list" #[] 0):=⟨_,rfl⟩
 have gx:y9b a s.heap g:=fun b o hb e=>by
  rw[eg]
  exact jD _ (jD _ ((up.2 b hb).trans e))
 have ga:g.get? a=some (seqObj "list" #[] c1):=by
  rw[eg]
  exact jD _ (jD _ at1)
 rw[list_sort_plain]
 refine wpAny_bind (listItems_at at_ rfl ?_)
 refine wpAny_bind (listUpdate_at at_ rfl ?_ (by rw[jI,sizeLine_eq];omega) (jR _))
 refine wpAny_bind (seqEpoch_at at1 rfl ?_)
 refine wpAny_bind (wpAny_newTuple ?_ (by show vs.length<=sizeLine;rw[sizeLine_eq];omega))
 refine wpAny_bind (wpAny_newList ?_ (jR _))
 refine wpAny_holding ?_
 show wpAny (model prog w) A _ Z E { s with heap:=((s.heap.update a (Obj.mapSeq fun _=>(#[]:Array Value))).push (seqObj "tuple" vs.toArray 0)).push (seqObj "list" #[] 0) }
 rw[<- eg]
 dsimp only
 have nt:¬ vs.toArray.size < 2:=by rw[jI];omega
 rw[if_neg nt,if_neg nt]
 refine wpAny_bind (wpAny_mono (kind g gx (fun k s0=>k=κ/\s0={ s with heap:=g }) ⟨rfl,rfl⟩) (fun k s0 hk=>?_) fun _ _ x=>x.elim)
 obtain⟨rfl,rfl⟩:=hk
 have tree:(kas_sort vs.length).kasWp (kas_ask prog w A k vs) (fun p s2=>s2={ s with heap:=g }/\SPm vs.length p/\Srt lt p vs.length) { s with heap:=g }:=by
  refine z9o (Pv:=fun s2=>s2={ s with heap:=g }) O (fun i j C s2 hi hj hij h2 hC=>?_) (by omega) _ _ rfl fun p s2 h2 pm sr=>⟨h2,pm,sr⟩
  subst h2
  exact less g gx i j C hi hj hij (hC _ rfl)
 refine wpAny_bind (wpAny_mono (kat_run (Q:=fun st s2=>∃ p:Array Nat,p.size=vs.length/\arrOf st=p.map (kas_item (vs.toArray.zip vs.toArray))/\failedOf st=none/\s2={ s with heap:=g }/\SPm vs.length p/\Srt lt p vs.length)
  rfl two few (fun p st s2 b1 b2 b3 b4=>⟨p,b1,b2,b3,b4⟩) tree) ?_ fun _ _ e=>e)
 rintro⟨⟨⟩,st⟩ s2 ⟨p,hp,har,hf,rfl,pm,sr⟩
 dsimp only
 have eo:=kat_snds rfl har
 have zo:(z3d vs p).toArray.size=vs.length:=by unfold z3d;rw[jI,jA,jT,hp]
 rw[eo]
 have up2:=Heap.SameBut.update g a (Obj.mapSeq fun _=>(z3d vs p).toArray)
 obtain⟨c2,at2⟩:∃ c,(g.update a (Obj.mapSeq fun _=>(z3d vs p).toArray)).get? a=some (seqObj "list" (z3d vs p).toArray c):=⟨_,get?_update_seq ga fun _=>(z3d vs p).toArray⟩
 refine wpAny_bind (seqEpoch_at ga rfl ?_)
 refine wpAny_bind (listUpdate_at ga rfl ?_ (jR _) (by show (z3d vs p).toArray.size<=_;rw[zo,sizeLine_eq];omega))
 rw[hf]
 simp only[bne_self_eq_false,j7,if_false]
 exact wpAny_pure (fin p _ c2 pm sr (fun b o hb e=>(up2.2 b hb).trans (gx b o hb e)) at2)
theorem z9c(vs:List Value):z3d vs (List.toArray (List.range vs.length))=vs:=by
 unfold z3d
 refine kS (by simp) fun i h1 h2=>?_
 simp[List.getD,h2]
theorem z9m{a:Addr}{vs:List Value}{c0:Nat}{Z:PySem.Fin->Shared->Prop}(at_:s.heap.get? a=some (seqObj "list" vs.toArray c0))(wee:vs.length < 2)
 (fin:∀ g c,y9b a s.heap g->g.get? a=some (seqObj "list" vs.toArray c)->Z (.done (.ret .none)) { s with heap:=g }) :
 wpAny (model prog w) A (Builtin.«list.sort» ⟨[.ref a],[]⟩) Z E s:=by
 have up:=Heap.SameBut.update s.heap a (Obj.mapSeq fun _=>(#[]:Array Value))
 obtain⟨c1,at1⟩:∃ c,(s.heap.update a (Obj.mapSeq fun _=>(#[]:Array Value))).get? a=some (seqObj "list" #[] c):=⟨_,get?_update_seq at_ fun _=>#[]⟩
 obtain⟨g,eg⟩:∃ g,g=((s.heap.update a (Obj.mapSeq fun _=>(#[]:Array Value))).push (seqObj "tuple" vs.toArray 0)).push (seqObj "list" #[] 0):=⟨_,rfl⟩
 have gx:y9b a s.heap g:=fun b o hb e=>by
  rw[eg]
  exact jD _ (jD _ ((up.2 b hb).trans e))
 have ga:g.get? a=some (seqObj "list" #[] c1):=by
  rw[eg]
  exact jD _ (jD _ at1)
 rw[list_sort_plain]
 refine wpAny_bind (listItems_at at_ rfl ?_)
 refine wpAny_bind (listUpdate_at at_ rfl ?_ (by rw[jI,sizeLine_eq];omega) (jR _))
 refine wpAny_bind (seqEpoch_at at1 rfl ?_)
 refine wpAny_bind (wpAny_newTuple ?_ (by show vs.length<=sizeLine;rw[sizeLine_eq];omega))
 refine wpAny_bind (wpAny_newList ?_ (jR _))
 refine wpAny_holding ?_
 show wpAny (model prog w) A _ Z E { s with heap:=((s.heap.update a (Obj.mapSeq fun _=>(#[]:Array Value))).push (seqObj "tuple" vs.toArray 0)).push (seqObj "list" #[] 0) }
 rw[<- eg]
 dsimp only
 have yes:vs.toArray.size < 2:=by rw[jI];omega
 rw[if_pos yes,if_pos yes]
 refine wpAny_bind (wpAny_pure (wpAny_bind (wpAny_pure ?_)))
 dsimp only
 have eo:(arrOf (SortSt.mk' general' (vs.toArray.zip vs.toArray) #[] 7 none)).map (·.2)=vs.toArray:=by
  show (vs.toArray.zip vs.toArray).map (·.2)=vs.toArray
  apply Array.toList_inj.mp
  rw[Array.toList_map,Array.toList_zip]
  exact List.map_snd_zip (jF _)
 rw[eo]
 have up2:=Heap.SameBut.update g a (Obj.mapSeq fun _=>vs.toArray)
 obtain⟨c2,at2⟩:∃ c,(g.update a (Obj.mapSeq fun _=>vs.toArray)).get? a=some (seqObj "list" vs.toArray c):=⟨_,get?_update_seq ga fun _=>vs.toArray⟩
 refine wpAny_bind (seqEpoch_at ga rfl ?_)
 refine wpAny_bind (listUpdate_at ga rfl ?_ (jR _) (by show vs.toArray.size<=_;rw[jI,sizeLine_eq];omega))
 simp only[bne_self_eq_false,j7,if_false]
 exact wpAny_pure (fin _ c2 (fun b o hb e=>(up2.2 b hb).trans (gx b o hb e)) at2)
theorem z3M{x:Value}{Q:Value->Shared->Prop}{C:List Value->Shared->Prop}(col:∀ (E':Value->Shared->Prop) (R:List Value->Shared->Prop),(∀ vs s1,C vs s1->R vs s1)->wpAny (model prog w) A.in1 (collect x) R E' s)
 (few:∀ vs s1,C vs s1->vs.length < 64) (κ:SortKind) (lt:List Value->Shared->Nat->Nat->Bool) (O:∀ vs s1,C vs s1->SOrd vs.length (lt vs s1))
 (kind:∀ vs s1,C vs s1->2<=vs.length->∀ g,(∀ b o,s1.heap.get? b=some o->g.get? b=some o)->∀ R:SortKind->Shared->Prop,R κ { s1 with heap:=g }->wpAny (model prog w) A.in1.in1 (keyKind' vs.toArray) R (fun _ _=>False) { s1 with heap:=g })
 (less:∀ vs s1,C vs s1->∀ g,(∀ b o,s1.heap.get? b=some o->g.get? b=some o)->∀ i j (Z:Bool->Shared->Prop),i < vs.length->j < vs.length->i≠j->Z (lt vs s1 i j) { s1 with heap:=g }->wpAny (model prog w) A.in1.in1 (keyLt' κ (vs.getD i Value.none) (vs.getD j Value.none)) Z (fun _ _=>False) { s1 with heap:=g })
 (fin:∀ vs s1,C vs s1->∀ (p:Array Nat) g c,SPm vs.length p->Srt (lt vs s1) p vs.length->(∀ b o,s1.heap.get? b=some o->g.get? b=some o)->g.get? s1.heap.objs.size=some (seqObj "list" (z3d vs p).toArray c)->Q (.ref s1.heap.objs.size) { s1 with heap:=g }) :
 wpAny (model prog w) A (call (.builtin "sorted") [x]) Q E s:=by
 refine Calls.call_function_entry kind_sorted plain_sorted entry_sorted (args_sorted1 _) ?_
 unfold Builtin.«sorted»
 refine wpAny_bind (m:=checkCount "sorted" 1 1 _) (wpAny_pure ?_)
 refine wpAny_bind (col _ _ fun vs s1 hC=>?_)
 have fw:=few vs s1 hC
 refine wpAny_bind (wpAny_newList ?_ (by rw[sizeLine_eq];omega))
 have at0:(s1.heap.push (seqObj "list" vs.toArray 0)).get? s1.heap.objs.size=some (seqObj "list" vs.toArray 0):=jK _ rfl
 have kp:∀ b o,s1.heap.get? b=some o->(s1.heap.push (seqObj "list" vs.toArray 0)).get? b=some o:=fun b o q=>jD _ q
 have far:∀ b o,s1.heap.get? b=some o->b≠s1.heap.objs.size:=fun b o q=>jS (jG q)
 show wpAny _ _ _ _ _ { s1 with heap:=s1.heap.push (seqObj "list" vs.toArray 0) }
 refine wpAny_bind (wpAny_holding (wpAny_call_entry slot_list_sort ⟨_,at0,rfl⟩ entry_list_sort ?_ (args_list_sort _)))
 by_cases two:2<=vs.length
 · refine y1E (κ:=κ) (lt:=lt vs s1) (s:={ s1 with heap:=s1.heap.push (seqObj "list" vs.toArray 0) }) at0 two fw (O vs s1 hC) (fun g hx R hR=>?_) (fun g hx i j Z hi hj hij hZ=>?_) (fun p g c pm sr hx hg=>?_)
   · exact kind vs s1 hC two g (fun b o q=>hx b o (far b o q) (kp b o q)) R hR
   · exact less vs s1 hC g (fun b o q=>hx b o (far b o q) (kp b o q)) i j Z hi hj hij hZ
   · exact⟨_,rfl,wpAny_pure ⟨_,rfl,fin vs s1 hC p g c pm sr (fun b o q=>hx b o (far b o q) (kp b o q)) hg⟩⟩
 · refine z9m (s:={ s1 with heap:=s1.heap.push (seqObj "list" vs.toArray 0) }) at0 (by omega) fun g c hx hg=>?_
   exact⟨_,rfl,wpAny_pure ⟨_,rfl,fin vs s1 hC (List.toArray (List.range vs.length)) g c (.refl _) (fun i j h1 h2=>absurd h1 (by omega)) (fun b o q=>hx b o (far b o q) (kp b o q)) (by rw[z9c];exact hg)⟩⟩
end
end L2
namespace L2
open PySem PySem.Spec PyProof.Rows
section
variable {X:Cx}
theorem z9O:∀ {ss:List Int}{vs:List Value},IntsAre vs ss->Vals (ss.map V.int) vs
 | _,_,.nil => .nil
 | _,_,.cons _ _ t => .cons ⟨_,rfl⟩ (z9O t)
theorem z4U(K:PySem.W.Frag)(hK:X.K=K):CallR X (.builtin "sorted") (fun xs H Q=>∃ (p:Addr) (ns:List Int),xs=[.ref p]/\SqL K H p (ns.map V.int)/\ns.length < 64 /\
 ∀ l (ns':List Int),H l=none->ns'.Perm ns->ns'.Pairwise (·<=·)->Q (.ref l) (upd H l (.lst (ns'.map V.int)))):=by
 subst hK
 intro pins s σ H xs us Q I r h
 obtain⟨p,ns,rfl,hS,few,q⟩:=h
 obtain⟨u,rfl,rx⟩:=z3L r
 cases rx
 obtain⟨its,rv,pl,hz⟩:=I.list hS
 have hl:=rv.length
 rw[jA]at hl
 refine sorted_ints (vs:=its) (by simpa using pl.isList) (z3D rv) (by omega) fun out ss' b1 b2 b3=>?_
 obtain⟨c,hc⟩:=sortedAll_at s.heap its out
 have lz:(ss'.map V.int).length<=sizeLine:=by
  rw[jA,b2.length_eq,sizeLine_eq];omega
 refine⟨.ref (s.heap.objs.size + 1),upd H (s.heap.objs.size + 1) (.lst (ss'.map V.int)),?_,rfl,q _ ss' (I.hok.fresh (Nat.le_succ _)) b2 b3⟩
 exact I.laid (t':=s.toks) (fun b o e=>sortedAll_old e) (Nat.le_succ _) (show ObjOk X.prog X.w _ (sortedAll s.heap its out) _ (.lst (ss'.map V.int)) from ⟨lz,out.toList,c,z9O b1,by simpa using hc⟩)
end
end L2
namespace L2
open PySem PySem.W PyProof.Rows
section
variable {prog:Program}{w:World}{A:Around}{E:Value->Shared->Prop}{s:Shared}
def VIt(h:Heap)(it d:Addr)(i n ep:Nat):Prop:=∃ x y u v,h.get? it=some { cls := .type "dict_itemiterator",dict:=none,data := .fields #[x,y,.ref d,.int i 0,.int n 0,.int ep 0,u,v],slots:=#[] } /\
 ((x = .none/\y = .bool false)\/∃ (a:Addr) (oa:Obj) (f:Bool),x=rawInt (a:Nat)/\y = .bool f/\h.get? a=some oa/\it < a)
def VDc(h:Heap)(d:Addr)(es:Array DictEntry)(ep:Nat):Prop:=∃ o,h.get? d=some o/\o.data = .dict es ep
theorem y7c{it d:Addr}{i ep:Nat}{es:Array DictEntry}{Q:Option Value->Shared->Prop}(t:VIt s.heap it d i es.size ep)(D:VDc s.heap d es ep)(hi:i < es.size)
 (k:∀ g,VIt g it d (i + 1) es.size ep->g.get? s.heap.objs.size=some { cls := .type "tuple",data := .seq #[es[i].key,es[i].val] }->g.objs.size=s.heap.objs.size + 1->(∀ b o,b≠it->s.heap.get? b=some o->g.get? b=some o)->(∀ u v,IsItemIter s.heap it d i es.size ep u v->IsItemIterOut g it d (i + 1) es.size ep es[i].key es[i].val s.heap.objs.size)->Q (some (.ref s.heap.objs.size)) { s with heap:=g }) :
 wpAny (model prog w) A (pyNext (.ref it)) Q E s:=by
 obtain⟨hp,gg,dr,tk,os⟩:=s
 obtain⟨x,y,u,v,at0,own⟩:=t
 obtain⟨od,od1,od2⟩:=D
 have ty:Shared.TypeIs ⟨hp,gg,dr,tk,os⟩ (.ref it) "dict_itemiterator" := ⟨_,at0,rfl⟩
 unfold pyNext
 refine wpAny_bind (wpAny_attempt (wpAny_callSpecial?_slot (name:=Str.ofString "__next__") ty PySem.F.slot_dict_itemiterator_next (wpAny_call_entry PySem.F.slot_dict_itemiterator_next ty PySem.F.entry_dict_itemiterator_next ?_ (PySem.F.args_dict_itemiterator_next_1 _))))
 refine wpAny_bind (wpAny_pure (wpAny_bind (wpAny_bind ?_)))
 refine wpAny_bind (wpAny_typeNameOfWhole_itemiter ty (wpAny_pure (wpAny_bind (wpAny_fieldsOf at0 rfl ?_))))
 simp only[show Builtin.Dict_items.ownsTuple "dict_itemiterator" = true by decide,if_true]
 show wpAny _ _ (if (Value.ref d == Value.none)=true then _ else _) _ _ _
 rw[if_neg (by simp)]
 refine wpAny_bind (wpAny_pure (wpAny_bind (wpAny_dictEntries od1 od2 ?_)))
 rw[if_neg (by simp)]
 refine wpAny_bind (wpAny_pure (wpAny_bind (wpAny_dictEpoch od1 od2 ?_)))
 rw[if_neg (by simp)]
 refine wpAny_pure ?_
 simp only[show ¬ ((i:Int) < 0) by omega,if_false,jm,jO hi]
 refine wpAny_bind (wpAny_bind (wpAny_typeNameOfWhole_itemiter ty (wpAny_pure (wpAny_bind (wpAny_isOneOf_itemiter ty ?_)))))
 show wpAny _ _ (setField (.ref it) 3 (rawInt ((i:Int) + 1)) >>= _) _ _ ⟨hp,gg,dr,tk,os⟩
 refine wpAny_bind (wpAny_setField_rec at0 (by simp) fun g1 at1 sb1=>?_)
 have sz1:g1.objs.size=hp.objs.size:=sb1.1
 have low:it < hp.objs.size:=jG at0
 obtain⟨g2,eg2⟩:∃ g2,g2=g1.push { cls := .type "tuple",data := .seq #[es[i].key,es[i].val] }:=⟨_,rfl⟩
 have at2:g2.get? it=some { cls := .type "dict_itemiterator",dict:=none,data := .fields #[x,y,.ref d,.int ((i + 1:Nat):Int) 0,.int es.size 0,.int ep 0,u,v],slots:=#[] }:=by
  rw[eg2]
  refine jD _ ?_
  have e:((i + 1:Nat):Int)=(i:Int) + 1:=by omega
  rw[e];simpa [rawInt] using at1
 have tup2:g2.get? hp.objs.size=some { cls := .type "tuple",data := .seq #[es[i].key,es[i].val] }:=by rw[eg2,<- sz1];exact jK _ rfl
 have sz2:g2.objs.size=hp.objs.size + 1:=by rw[eg2,j9,sz1]
 have kp2:∀ b o,b≠it->hp.get? b=some o->g2.get? b=some o:=fun b o hb e=>by rw[eg2];exact jD _ (sb1.extBut b o hb e)
 have ty1:Shared.TypeIs ⟨g1,gg,dr,tk,os⟩ (.ref it) "dict_itemiterator" := ⟨_,at1,rfl⟩
 have done:∀ g:Heap,VIt g it d (i + 1) es.size ep->Heap.SameBut it g2 g->(∀ u v,IsItemIter hp it d i es.size ep u v->IsItemIterOut g it d (i + 1) es.size ep es[i].key es[i].val hp.objs.size)->Q (some (.ref hp.objs.size)) ⟨g,gg,dr,tk,os⟩:=fun g tg sb =>
  k g tg (sb.extBut _ _ (jn low) tup2) (by show g.objs.size=hp.objs.size + 1;rw[sb.1,sz2]) fun b o hb e=>sb.extBut b o hb (kp2 b o hb e)
 have never:∀ {a:Nat}{y' u' v':Value}{g:Heap},hp.get? it=some { cls := .type "dict_itemiterator",dict:=none,data := .fields #[rawInt a,y',.ref d,.int i 0,.int es.size 0,.int ep 0,u',v'],slots:=#[] }->∀ u v,IsItemIter hp it d i es.size ep u v->IsItemIterOut g it d (i + 1) es.size ep es[i].key es[i].val hp.objs.size:=fun h u v z=>by
  have z:=h.symm.trans z
  simp[rawInt]at z
 refine wpAny_bind (wpAny_holding (wpAny_bind (wpAny_isOneOf_itemiter ty1 (wpAny_bind (wpAny_isOneOf_itemiter ty1 ?_)))))
 show wpAny _ _ (Builtin.Dict_items.pairFromOwner (.ref it) 6 es[i].key es[i].val) _ _ ⟨g1,gg,dr,tk,os⟩
 unfold Builtin.Dict_items.pairFromOwner
 refine wpAny_bind (wpAny_newTuple ?_)
 show wpAny _ _ (Builtin.Dict_items.ownedTupleIsFree (.ref it) >>= _) _ _ ⟨g1.push { cls := .type "tuple",data := .seq #[es[i].key,es[i].val] },gg,dr,tk,os⟩
 rw[<- eg2,sz1]
 refine wpAny_bind ?_
 unfold Builtin.Dict_items.ownedTupleIsFree
 rcases own with ⟨rfl,rfl⟩ | ⟨a,oa,f,rfl,rfl,ha,hai⟩
 · refine wpAny_bind (wpAny_field at2 rfl (x := .none) rfl (wpAny_pure ?_))
   simp only[if_true]
   refine wpAny_bind (wpAny_field at2 rfl (x:=u) rfl (wpAny_bind (wpAny_field at2 rfl (x:=v) rfl ?_)))
   refine wpAny_bind (wpAny_setField_rec at2 (by simp) fun g3 at3 sb3=>wpAny_bind (wpAny_setField_rec at3 (by simp) fun g4 at4 sb4=>wpAny_bind (wpAny_setField_rec at4 (by simp) fun g5 at5 sb5=>wpAny_bind (wpAny_setField_rec at5 (by simp) fun g6 at6 sb6=>?_))))
   have sb:Heap.SameBut it g2 g6:=((sb3.trans sb4).trans sb5).trans sb6
   refine wpAny_bind (wpAny_letGo (wpAny_pure (wpAny_pure ⟨_,rfl,wpAny_pure (done g6 ⟨_,_,_,_,at6,.inr ⟨hp.objs.size,_,false,rfl,rfl,sb.extBut _ _ (jn low) tup2,low⟩⟩ sb fun _ _ _=>at6)⟩)))
 · have ha2:=kp2 a oa (jn hai) ha
   refine wpAny_bind (wpAny_field at2 rfl (x:=rawInt a) rfl ?_)
   show wpAny _ _ (loadIfAlive ((a:Int).toNat) >>= _) _ _ _
   rw[jm]
   refine wpAny_bind (kdx_alive ha2 ?_)
   simp only[Option.isNone_some,j7,if_false]
   refine wpAny_bind (wpAny_field at2 rfl (x := .bool f) rfl ?_)
   cases f with
   | true =>
    rw[if_neg (by simp)]
    refine wpAny_pure ?_
    simp only[j7,if_false]
    exact wpAny_pure (wpAny_pure ⟨_,rfl,wpAny_pure (done g2 ⟨_,_,_,_,at2,.inr ⟨a,oa,true,rfl,rfl,ha2,hai⟩⟩ (Heap.SameBut.refl _ _) (never at0))⟩)
   | false =>
    rw[if_pos (by rfl)]
    refine wpAny_bind (wpAny_setField_rec at2 (by simp) fun g3 at3 sb3=>?_)
    refine wpAny_pure ?_
    simp only[j7,if_false]
    exact wpAny_pure (wpAny_pure ⟨_,rfl,wpAny_pure (done g3 ⟨_,_,_,_,at3,.inr ⟨a,oa,true,rfl,rfl,sb3.extBut _ _ (jn hai) ha2,hai⟩⟩ sb3 (never at0))⟩)
theorem y9g{it d:Addr}{ep:Nat}{es:Array DictEntry}{Q:Option Value->Shared->Prop}(hh:A.handled=none)(t:VIt s.heap it d es.size es.size ep)(D:VDc s.heap d es ep)
 (k:∀ g,Heap.ExtBut it s.heap g->Q none { s with heap:=g }):wpAny (model prog w) A (pyNext (.ref it)) Q E s:=by
 obtain⟨x,y,u,v,at0,own⟩:=t
 obtain⟨od,od1,od2⟩:=D
 have ty:s.TypeIs (.ref it) "dict_itemiterator" := ⟨_,at0,rfl⟩
 unfold pyNext
 refine wpAny_bind (wpAny_attempt (wpAny_callSpecial?_slot (name:=Str.ofString "__next__") ty PySem.F.slot_dict_itemiterator_next (wpAny_call_entry PySem.F.slot_dict_itemiterator_next ty PySem.F.entry_dict_itemiterator_next ?_ (PySem.F.args_dict_itemiterator_next_1 _))))
 refine wpAny_bind (wpAny_pure (wpAny_bind (wpAny_bind ?_)))
 refine wpAny_bind (wpAny_typeNameOfWhole_itemiter ty (wpAny_pure (wpAny_bind (wpAny_fieldsOf at0 rfl ?_))))
 simp only[show Builtin.Dict_items.ownsTuple "dict_itemiterator" = true by decide,if_true]
 show wpAny _ _ (if (Value.ref d == Value.none)=true then _ else _) _ _ s
 rw[if_neg (by simp)]
 refine wpAny_bind (wpAny_pure (wpAny_bind (wpAny_dictEntries od1 od2 ?_)))
 rw[if_neg (by simp)]
 refine wpAny_bind (wpAny_pure (wpAny_bind (wpAny_dictEpoch od1 od2 ?_)))
 rw[if_neg (by simp)]
 refine wpAny_pure ?_
 simp only[show ¬ ((es.size:Int) < 0) by omega,if_false,jm,j8 (jF es.size)]
 refine wpAny_bind (wpAny_bind (wpAny_typeNameOfWhole_itemiter ty (wpAny_pure ?_)))
 show wpAny _ _ (setField (.ref it) 2 .none >>= _) _ _ s
 refine wpAny_bind (wpAny_setField at0 rfl (by simp) ?_)
 refine wpAny_bind ?_
 unfold newExc newTuple
 refine wpAny_bind (wpAny_newObj_type (wpAny_bind (m:=firstArgMember _ _) (wpAny_of_eq (a:=Value.none) (by first | rfl | (unfold firstArgMember;rfl)) (wpAny_newObj_type ?_ (by size_fits)))) (by size_fits))
 unfold raiseNew
 refine wpAny_bind (wpAny_handled ?_)
 rw[show A.in1.handled=none from hh]
 refine wpAny_bind (wpAny_pure (wpAny_throw ?_))
 refine wpAny_bind (wpAny_isInstance (b:=true) (T := "StopIteration") ⟨_,jK _ rfl,rfl⟩ isSubtype_stop (wpAny_pure ?_))
 exact k _ (((Heap.SameBut.update ..).extBut.push _).push _)
theorem y7b{r d:Addr}{es:Array DictEntry}{ep:Nat}{Q:Value->Shared->Prop}(view:s.heap.IsItemsView r d)(D:VDc s.heap d es ep)
 (k:Q (.ref s.heap.objs.size) { s with heap:=s.heap.push { cls := .type "dict_itemiterator",data := .fields #[.none,.bool false,.ref d,.int 0 0,.int es.size 0,.int ep 0,.none,.none] } }):wpAny (model prog w) A (pyIter (.ref r)) Q E s:=by
 obtain⟨ov,v1,v2,v3⟩:=id view
 obtain⟨od,od1,od2⟩:=D
 refine wpAny_pyIter_slot view.typeIs PySem.F.slot_dict_items_iter (wpAny_call_entry PySem.F.slot_dict_items_iter view.typeIs PySem.F.entry_dict_items_iter ?_ (PySem.F.args_dict_items_iter_1 _))
 unfold Builtin.«dict_items.__iter__»
 refine wpAny_bind (wpAny_pure (wpAny_bind ?_))
 unfold Builtin.Dict_items.dictOf
 refine wpAny_bind (wpAny_field v1 v3 (x := .ref d) rfl (wpAny_pure (wpAny_bind ?_)))
 unfold Builtin.Dict_items.newIterator
 refine wpAny_bind (wpAny_dictEntries od1 od2 (wpAny_bind (wpAny_dictEpoch od1 od2 ?_)))
 simp only[show Builtin.Dict_items.ownsTuple "dict_itemiterator" = true by decide,if_true]
 refine wpAny_newObj_type (wpAny_pure ⟨_,rfl, "dict_itemiterator",_,⟨_,jK _ rfl,rfl⟩,PySem.F.slot_dict_itemiterator_next.lookup,?_⟩) (by simp only[sizeOk,Builtin.Dict_items.ownedTupleFields,jI,jJ,jp,kX,sizeLine_eq];omega)
 simpa [rawInt,Builtin.Dict_items.ownedTupleFields] using k
structure VPs (es:Array DictEntry) (lo:Addr) (h:Heap) (as:List Addr):Prop where
 nd:as.Nodup
 above:∀ a∈as,lo < a
 pairs:∀ (j:Nat) (a:Addr),as[j]? = some a->∃ e:DictEntry,es[j]? = some e/\h.get? a=some { cls := .type "tuple",data := .seq #[e.key,e.val] }
theorem VPs.there{es:Array DictEntry}{lo:Addr}{h:Heap}{as:List Addr}(g:VPs es lo h as){a:Addr}(ha:a∈as):a < h.objs.size:=by
 obtain⟨j,hj⟩:=List.mem_iff_getElem?.mp ha
 obtain⟨_,_,e⟩:=g.pairs j a hj
 exact jG e
theorem VPs.kept{es:Array DictEntry}{lo:Addr}{h h':Heap}{as:List Addr}(g:VPs es lo h as)(k:∀ b o,lo < b->h.get? b=some o->h'.get? b=some o):VPs es lo h' as:=⟨g.nd,g.above,fun j a hj=>by
 obtain⟨e,h1,h2⟩:=g.pairs j a hj
 exact⟨e,h1,k a _ (g.above a (jf hj)) h2⟩⟩
theorem VIt.kept{h h':Heap}{it d S:Addr}{i n ep:Nat}(t:VIt h it d i n ep)(hS:S < it)(hT:∀ b o,b≠S->h.get? b=some o->h'.get? b=some o):VIt h' it d i n ep:=by
 obtain⟨x,y,u,v,e,o⟩:=t
 refine⟨x,y,u,v,hT _ _ (jn hS) e,?_⟩
 rcases o with o | ⟨a,oa,f,h1,h2,h3,h4⟩
 · exact .inl o
 · exact .inr ⟨a,oa,f,h1,h2,hT _ _ (jn (Nat.lt_trans hS h4)) h3,h4⟩
theorem y2l{S I d:Addr}{es:Array DictEntry}{ep:Nat}{R:Result->Shared->Prop}(hh:A.handled=none)(hSI:S < I)(hdS:d≠S)(hdI:d≠I)(few:es.size<=sizeLine)(res:Value){h0:Heap}
 (k:∀ g tk' acc c as,(∀ b o,b≠S->b≠I->h0.get? b=some o->g.get? b=some o)->g.get? S=some { cls := .type "list",dict:=none,data := .seq acc c,slots:=#[] }->as.length=es.size->VPs es I g as->acc.toList=as.map Value.ref->R (.ok (.ret res)) { s with heap:=g,toks:=tk' }) :
 ∀ (m i:Nat) (h:Heap) (tk' c:Nat) (acc:Array Value) (as:List Addr),es.size - i=m->i<=es.size->VIt h I d i es.size ep->VDc h d es ep->(∀ b o,b≠S->b≠I->h0.get? b=some o->h.get? b=some o) ->
  h.get? S=some { cls := .type "list",dict:=none,data := .seq acc c,slots:=#[] }->acc.toList=as.map Value.ref->as.length=i->VPs es I h as->I < h.objs.size ->
  codeAny (model prog w) A (.builtin "list.extend.loop" ⟨[.ref S,.ref I,res],[]⟩) R { s with heap:=h,toks:=tk' }
 | 0,i,h,tk',c,acc,as,hm,hi,t,D,kp,hS,ha,hl,ps,hIs=>by
  have ei:i=es.size:=by omega
  subst ei
  refine codeAny_builtin PySem.F.entry_extend_loop ?_
  rw[Around.under_plainId PySem.F.plain_extend_loop _]
  show wpAny _ A.in1 (pyNext (.ref I) >>= _) _ _ _
  refine wpAny_bind (y9g (s:={ s with heap:=h,toks:=tk' }) (A:=A.in1) hh t D fun g ex=>?_)
  exact wpAny_pure (k g tk' acc c as (fun b o n1 n2 e=>ex b o n2 (kp b o n1 n2 e)) (ex S _ (jS hSI) hS) hl (ps.kept fun b o hb e=>ex b o (jn hb) e) ha)
 | m + 1,i,h,tk',c,acc,as,hm,hi,t,D,kp,hS,ha,hl,ps,hIs=>by
  have lt:i < es.size:=by omega
  have az:acc.size=i:=by rw[<- jT,ha,jA,hl]
  have hSl:S < h.objs.size:=jG hS
  refine codeAny_builtin PySem.F.entry_extend_loop ?_
  rw[Around.under_plainId PySem.F.plain_extend_loop _]
  show wpAny _ A.in1 (pyNext (.ref I) >>= _) _ _ _
  refine wpAny_bind (y7c (s:={ s with heap:=h,toks:=tk' }) t D lt fun g tg tup sz kg _=>?_)
  dsimp only at tup sz kg ⊢
  have hS':=kg S _ (jS hSI) hS
  have up:∀ b o,b≠S->g.get? b=some o->(g.update S (Obj.mapSeq (·.push (Value.ref h.objs.size)))).get? b=some o:=fun b o hb e=>(jV _ _ (Ne.symm hb)).trans e
  show wpAny _ A.in1 (updateSeq S (·.push (Value.ref h.objs.size)) >>= _) _ _ _
  refine wpAny_bind (wpAny_updateSeq hS' rfl (wpAny_pure ⟨plainId_quiet PySem.F.plain_extend_loop _,?_⟩) (by rw[az];omega) (by show (acc.push (Value.ref h.objs.size)).size<=sizeLine + 1;rw[Array.size_push,az];omega))
  obtain⟨od,od1,od2⟩:=D
  refine y2l hh hSI hdS hdI few res k m (i + 1) _ tk' _ (acc.push (Value.ref h.objs.size)) (as ++ [h.objs.size]) (by omega) lt (tg.kept hSI up) ⟨od,up d _ hdS (kg d _ hdI od1),od2⟩ (fun b o n1 n2 e=>up b o n1 (kg b o n2 (kp b o n1 n2 e))) (jY _ hS' rfl) (by rw[Array.toList_push,ha,je];rfl) (by rw[jJ,hl];rfl) ⟨?_,?_,?_⟩ ?_
  · refine j4.mpr ⟨ps.nd,by simp,fun a ha' b hb e=>?_⟩
    rw[jP.mp hb]at e
    exact jS (ps.there ha') e
  · intro a ha'
    rcases ji.mp ha' with ha' | ha'
    · exact ps.above a ha'
    · rw[jP.mp ha'];exact hIs
  · intro j b hj
    by_cases hj2:j < as.length
    · rw[kG hj2]at hj
      obtain⟨e,e1,e2⟩:=ps.pairs j b hj
      have hb:=ps.above b (jf hj)
      exact⟨e,e1,up b _ (jn (Nat.lt_trans hSI hb)) (kg b _ (jn hb) e2)⟩
    · rw[kC (by omega)]at hj
      have ej:j=i:=by
       by_cases z:j - as.length=0
       · omega
       · rw[List.getElem?_singleton,if_neg z]at hj;cases hj
      subst ej
      rw[hl,Nat.sub_self]at hj
      have eb:h.objs.size=b:=by simpa using hj
      subst eb
      exact⟨es[j],jO lt,up _ _ (jn hSl) tup⟩
  · exact Nat.lt_trans hIs (jG (up _ _ (jn hSl) tup))
theorem y2m{r d:Addr}{es:Array DictEntry}{ep:Nat}{R:Result->Shared->Prop}(hh:A.handled=none)(view:s.heap.IsItemsView r d)(D:VDc s.heap d es ep)(S:Addr)(hSr:S≠r)(hdS:d≠S)(res:Value)(c0:Nat)(hS:s.heap.get? S=some { cls := .type "list",data := .seq #[] c0 })(few:es.size<=sizeLine)
 (k:∀ g tk' acc c as,(∀ b o,b≠S->s.heap.get? b=some o->g.get? b=some o)->g.get? S=some { cls := .type "list",dict:=none,data := .seq acc c,slots:=#[] }->as.length=es.size->VPs es s.heap.objs.size g as->acc.toList=as.map Value.ref->R (.ok (.ret res)) { s with heap:=g,toks:=tk' }) :
 wpAny (model prog w) A.in1 (Builtin.List.listExtendWith (.ref S) (.ref r) res)
  (fun fin s'=>match fin with | .done f=>R (.ok f) s' | .again c'=>c'.quiet=true/\codeAny (model prog w) A c' R s') (fun e s'=>R (.error e) s') s:=by
 have hSI:S < s.heap.objs.size:=jG hS
 obtain⟨od,od1,od2⟩:=id D
 have hdI:d < s.heap.objs.size:=jG od1
 obtain⟨oi,eoi⟩:∃ oi:Obj,oi={ cls := .type "dict_itemiterator",data := .fields #[.none,.bool false,.ref d,.int 0 0,.int es.size 0,.int ep 0,.none,.none] }:=⟨_,rfl⟩
 have go:∀ (h:Heap) (c1 tk':Nat),(∀ b o,b≠S->(s.heap.push oi).get? b=some o->h.get? b=some o)->h.get? S=some { cls := .type "list",data := .seq #[] c1 } ->
  codeAny (model prog w) A (.builtin "list.extend.loop" ⟨[.ref S,.ref s.heap.objs.size,res],[]⟩) R { s with heap:=h,toks:=tk' }:=fun h c1 tk' kp hS1=>by
  have hI:=kp s.heap.objs.size _ (jn hSI) (jK _ (by rw[eoi];rfl))
  have old:∀ b o,b≠S->s.heap.get? b=some o->h.get? b=some o:=fun b o hb e=>kp b o hb (jD _ e)
  refine y2l (ep:=ep) (h0:=s.heap) hh hSI hdS (jS hdI) few res (fun g tk2 acc c as k1 k2 k3 k4 k5=>k g tk2 acc c as (fun b o hb e=>k1 b o hb (jS (jG e)) e) k2 k3 k4 k5)
   es.size 0 h tk' c1 #[] [] (Nat.sub_zero _) (jR _) ⟨.none,.bool false,.none,.none,by rw[hI,eoi];rfl,.inl ⟨rfl,rfl⟩⟩ ⟨od,old d _ hdS od1,od2⟩ (fun b o hb _ e=>old b o hb e) hS1 rfl rfl ⟨j6,(fun _ ha=>nomatch ha),(fun j a hj=>by simp at hj)⟩ (jG hI)
 unfold Builtin.List.listExtendWith
 refine wpAny_bind (wpAny_typeOf (T := "dict_items") view.typeIs ?_)
 simp only[show Builtin.List.listSameRef (.ref S) (.ref r)=false by simp[Builtin.List.listSameRef,hSr],show (Value.type "dict_items" == Value.type "list")=false by decide,show (Value.type "dict_items" == Value.type "tuple")=false by decide,Bool.or_false,j7,if_false]
 refine wpAny_bind (y7b view D ?_)
 rw[<- eoi]
 have hS1:=jD oi hS
 refine wpAny_bind (wpAny_holding (kdx_hint (let ⟨o,ho,hc,_⟩:=view;⟨o,jD _ ho,hc⟩) ?_))
 refine wpAny_ite_split (fun _=>?_) (fun _=>wpAny_pure ⟨plainId_quiet PySem.F.plain_extend_loop _,go _ c0 _ (fun b o _ e=>e) hS1⟩)
 refine wpAny_bind (wpAny_rule (wpAny_bind ?_))
 show wpAny _ _ (updateSeq S (·.push .none) >>= fun _=>updateSeq S (·.pop)) _ _ _
 refine wpAny_bind (wpAny_updateSeq hS1 rfl ?_)
 have hS2:=jY (Obj.mapSeq (·.push Value.none)) hS1 rfl
 refine wpAny_updateSeq (hz:=by seq_fits) hS2 rfl (wpAny_pure ⟨plainId_quiet PySem.F.plain_extend_loop _,go _ _ _ (fun b o hb e=>?_) (jY (Obj.mapSeq (·.pop)) hS2 rfl)⟩)
 exact (jV _ _ (Ne.symm hb)).trans ((jV _ _ (Ne.symm hb)).trans e)
theorem y1h{r d:Addr}{es:Array DictEntry}{ep:Nat}{R:List Value->Shared->Prop}(hh:A.handled=none)(view:s.heap.IsItemsView r d)(D:VDc s.heap d es ep)(few:es.size<=sizeLine)
 (k:∀ (g:Heap) (tk':Nat) (as:List Addr),(∀ b o,s.heap.get? b=some o->g.get? b=some o)->s.heap.objs.size < g.objs.size->as.length=es.size->VPs es s.heap.objs.size g as->R (as.map Value.ref) { s with heap:=g,toks:=tk' }) :
 wpAny (model prog w) A (collect (.ref r)) R E s:=by
 have hr:r < s.heap.objs.size:=let ⟨_,ho,_⟩:=view;jG ho
 obtain⟨od,od1,od2⟩:=id D
 have hd:d < s.heap.objs.size:=jG od1
 unfold collect
 refine wpAny_bind (wpAny_runValue (codeAny_builtin entry_proto_collect' ?_))
 rw[Around.under_plainId PySem.F.plain_proto_collect _]
 show wpAny _ A.in1 (newList [] >>= fun l=>again (.builtin "list.__iadd__" ⟨[l,.ref r],[]⟩)) _ _ s
 refine wpAny_bind (wpAny_newObj_type (wpAny_pure ⟨plainId_quiet PySem.F.plain_list_iadd _,codeAny_builtin entry_list_iadd' ?_⟩))
 rw[Around.under_plainId PySem.F.plain_list_iadd _]
 obtain⟨g0,eg0⟩:∃ g0,g0=s.heap.push { cls := .type "list",data := .seq ([]:List Value).toArray }:=⟨_,rfl⟩
 have at0:g0.get? s.heap.objs.size=some { cls := .type "list",data := .seq #[] 0 }:=by rw[eg0];exact jK _ rfl
 have kp0:∀ b o,s.heap.get? b=some o->g0.get? b=some o:=fun b o e=>by rw[eg0];exact jD _ e
 show wpAny _ A.in1 (Builtin.List.listExtendWith (.ref s.heap.objs.size) (.ref r) (.ref s.heap.objs.size)) _ _ _
 rw[<- eg0]
 have step:=y2m (prog:=prog) (w:=w) (A:=A) (s:={ s with heap:=g0 }) (ep:=ep) (es:=es) (r:=r) (d:=d)
  (R:=fun (q:Result) (s':Shared)=>∃ (g:Heap) (tk':Nat) (acc:Array Value) (c:Nat) (as:List Addr),q = .ok (.ret (.ref s.heap.objs.size))/\s'={ s with heap:=g,toks:=tk' }/\(∀ b o,s.heap.get? b=some o->g.get? b=some o) /\
   g.get? s.heap.objs.size=some { cls := .type "list",dict:=none,data := .seq acc c,slots:=#[] }/\as.length=es.size/\VPs es s.heap.objs.size g as/\acc.toList=as.map Value.ref)
  hh (let ⟨o,ho,x⟩:=view;⟨o,kp0 _ _ ho,x⟩) ⟨od,kp0 _ _ od1,od2⟩ s.heap.objs.size (jn hr) (jS hd) (.ref s.heap.objs.size) 0 at0 few
  (fun g tk' acc c as k1 k2 k3 k4 k5=>⟨g,tk',acc,c,as,rfl,rfl,fun b o e=>k1 b o (jS (jG e)) (kp0 b o e),k2,k3,⟨k4.nd,fun a ha=>jx (by rw[eg0,j9];exact Nat.le_succ _) (k4.above a ha),k4.pairs⟩,k5⟩)
 have last:∀ (g:Heap) (tk':Nat) (acc:Array Value) (c:Nat) (as:List Addr),(∀ b o,s.heap.get? b=some o->g.get? b=some o)->g.get? s.heap.objs.size=some { cls := .type "list",dict:=none,data := .seq acc c,slots:=#[] }->as.length=es.size->VPs es s.heap.objs.size g as->acc.toList=as.map Value.ref ->
  wpAny (model prog w) A (load s.heap.objs.size >>= fun o=>match o.data with | .seq xs _=>pure xs.toList | _=>unsupported "internal:collect") R E { s with heap:=g,toks:=tk' }:=fun g tk' acc c as k1 k2 k3 k4 k5=>by
  refine wpAny_bind (wpAny_load k2 (wpAny_pure ?_))
  show R acc.toList _
  rw[k5];exact k g tk' as k1 (jG k2) k3 k4
 refine wpAny_mono step (fun fin s2 x=>?_) fun e s2 x=>?_
 · cases fin with
   | done f =>
    obtain⟨g,tk',acc,c,as,e,rfl,y⟩:=x
    cases e
    exact last g tk' acc c as y.1 y.2.1 y.2.2.1 y.2.2.2.1 y.2.2.2.2
   | again c1 =>
    refine⟨x.1,codeAny_mono x.2 fun q s3 z=>?_⟩
    obtain⟨g,tk',acc,c,as,rfl,rfl,y⟩:=z
    exact last g tk' acc c as y.1 y.2.1 y.2.2.1 y.2.2.2.1 y.2.2.2.2
 · obtain⟨_,_,_,_,_,z,_⟩:=x
   cases z
end
end L2
namespace L2
open PySem PySem.W PySem.Spec PyProof.Rows
section
variable {X:Cx}{pins:List (Addr×Obj)}{σ:St}{H H':Hp}{s:Shared}
theorem Inv.many{g:Heap}{t':Nat}(I:Inv X pins σ H s)(k:∀ b u,s.heap.get? b=some u->g.get? b=some u)(same:∀ b o,H b=some o->H' b=some o)
 (new:∀ b o,H' b=some o->H b=some o\/(s.heap.objs.size<=b/\ObjOk X.prog X.w H' g b o)):Inv X pins σ H' { s with heap:=g,toks:=t' }:=by
 refine I.un ⟨fun b u q _ _ _=>k b u q,fun b u q _ _ _=>⟨u.slots,k b u q⟩,fun b u q n _=>?_,fun b u q _=>⟨u,k b u q⟩,fun b xs q=>same b _ q,fun b u xs q=>same b _ q,fun b ps q=>⟨#[],by rw[same b _ q];simp⟩⟩ fun b o e=>?_
 · cases e:H' b with
   | none=>rfl
   | some o =>
    rcases new b o e with z | ⟨z,_⟩
    · rw[n]at z;cases z
    · exact absurd (jG q) (Nat.not_lt.mpr z)
 · rcases new b o e with z | ⟨_,z⟩
   · exact (I.hok b o z).stay (fun c v _ q=>k c v q) (fun c q=>same c _ q) fun c xs q=>same c _ q
   · exact z
end
section
variable {prog:Program}{w:World}{A:Around}{E:Value->Shared->Prop}{s:Shared}
theorem y1H{a:Addr}{o:Obj}{Q:Value->Shared->Prop}(ho:s.heap.get? a=some o)(hd:o.ExactDict)(hs:(a == sysModules)=false)
 (k:Q (.ref s.heap.objs.size) { s with heap:=s.heap.push { cls := .type "dict_items",data := .fields #[.ref a] } }):wpAny (model prog w) A (call (.builtin "dict.items") [.ref a]) Q E s:=by
 have ty:s.TypeIs (.ref a) "dict" := ⟨o,ho,hd.1⟩
 refine wpAny_call_entry PySem.F.slot_dict_items ty PySem.F.entry_dict_items ?_ (PySem.F.args_dict_items_1 _)
 unfold Builtin.«dict.items» Builtin.Dict.noArgs
 refine wpAny_bind (wpAny_bind (wpAny_notOrdered_dict ty (wpAny_pure ?_)))
 show wpAny _ _ (Builtin.Dict.showsAll a >>= _) _ _ s
 unfold Builtin.Dict.showsAll
 rw[if_neg (by rw[hs];decide)]
 exact wpAny_bind (wpAny_pure (wpAny_bind (wpAny_newObj_type (wpAny_pure ⟨_,rfl,k⟩))))
theorem z5K:∀ {a b c:List Int},HT.lexLt a b=true->HT.lexLt b c=true->HT.lexLt a c=true
 | [],[],[],h1,_=>h1
 | [],y :: b,[],_,h2=>by rw[HT.lexLt_cons_nil]at h2;cases h2
 | [],_,_ :: _,_,_=>rfl
 | _ :: _,[],_,h1,_=>by rw[HT.lexLt_cons_nil]at h1;cases h1
 | x :: a,y :: b,[],_,h2=>by rw[HT.lexLt_cons_nil]at h2;cases h2
 | x :: a,y :: b,z :: c,h1,h2=>by
  rw[HT.lexLt_cons]at h1 h2 ⊢
  by_cases e1:x=y
  · rw[if_pos e1]at h1
    by_cases e2:y=z
    · rw[if_pos e2]at h2
      rw[if_pos (e1.trans e2)]
      exact z5K h1 h2
    · rw[if_neg e2]at h2
      rw[e1,if_neg e2];exact h2
  · rw[if_neg e1]at h1
    have l1:=of_decide_eq_true h1
    by_cases e2:y=z
    · rw[<- e2,if_neg e1];exact h1
    · rw[if_neg e2]at h2
      have l2:=of_decide_eq_true h2
      rw[if_neg (by omega)]
      exact decide_eq_true (by omega)
theorem z7s:∀ {a b:List Int},a≠b->HT.lexLt a b=false->HT.lexLt b a=true
 | [],[],h,_=>absurd rfl h
 | [],_ :: _,_,h=>by cases h
 | _ :: _,[],_,_=>rfl
 | x :: a,y :: b,h,e=>by
  rw[HT.lexLt_cons]at e ⊢
  by_cases z:x=y
  · rw[if_pos z]at e
    rw[if_pos z.symm]
    exact z7s (fun q=>h (by rw[z,q])) e
  · rw[if_neg z]at e
    rw[if_neg (Ne.symm z)]
    have:=of_decide_eq_false e
    exact decide_eq_true (by omega)
end
theorem y3E{α:Type}{b:Addr}{o:α}:∀ {L:List (Addr×α)},L.lookup b=some o->(b,o)∈L
 | (c,u) :: L,h=>by
  rw[List.lookup_cons]at h
  split at h
  · rename_i e
    have:b=c:=by simpa using e
    cases h
    rw[this];exact .head _
  · exact .tail _ (y3E h)
theorem x0e{α:Type}{b:Addr}{o:α}:∀ {L:List (Addr×α)},(L.map (·.1)).Nodup->(b,o)∈L->L.lookup b=some o
 | (c,u) :: L,nd,h=>by
  rw[jj,jy]at nd
  rw[List.lookup_cons]
  rcases jH.mp h with e | h
  · cases e;simp
  · have ne:b≠c:=fun z=>nd.1 (by rw[<- z];exact jU.mpr ⟨_,h,rfl⟩)
    rw[show (b == c)=false by simpa using ne]
    exact x0e nd.2 h
def more(H:Hp)(L:List (Addr×HO)):Hp:=fun b=>(L.lookup b).or (H b)
theorem y0w{H:Hp}{L:List (Addr×HO)}{b:Addr}{o:HO}(nd:(L.map (·.1)).Nodup)(h:(b,o)∈L):more H L b=some o:=by
 unfold more;rw[x0e nd h];rfl
theorem z7n{H:Hp}{L:List (Addr×HO)}{b:Addr}{o:HO}(fr:∀ p∈L,H p.1=none)(h:H b=some o):more H L b=some o:=by
 unfold more
 cases e:L.lookup b with
 | none=>exact h
 | some u=>rw[fr _ (y3E e)]at h;cases h
theorem y8f{H:Hp}{L:List (Addr×HO)}{b:Addr}{o:HO}(h:more H L b=some o):H b=some o\/(b,o)∈L:=by
 unfold more at h
 cases e:L.lookup b with
 | none=>rw[e]at h;exact .inl h
 | some u=>rw[e]at h;cases h;exact .inr (y3E e)
section
variable {X:Cx}{pins:List (Addr×Obj)}{σ:St}{H:Hp}{s:Shared}
abbrev kz(ks:List (List Int×V)):List (List Key×V):=ks.map fun kv=>(kv.1.map Sum.inl,kv.2)
def z3J(H:Hp)(x:V)(kv:List Int×V):Prop:=∃ p b,x = .ref p/\H p=some (.tup [.ref b,kv.2])/\H b=some (.tup (kv.1.map V.int))
theorem z7u(ns:List Int):(ns.map (Sum.inl:Int->Key)).map kV=ns.map V.int:=by rw[jd];rfl
theorem z8d{α β:Type}{F:α->β->Prop}:∀ {l:List α}{m:List β},Paired F l m->∀ {i:Nat}{x:α},l[i]? = some x->∃ y,m[i]? = some y/\F x y
 | _,_,.nil,i,x,h=>by simp at h
 | _,_,.cons h t,0,x,e=>by
  rw[List.getElem?_cons_zero]at e
  cases e;exact⟨_,rfl,h⟩
 | _,_,.cons h t,i + 1,x,e=>by
  rw[List.getElem?_cons_succ]at e
  obtain⟨y,e1,e2⟩:=z8d t e
  exact⟨y,by rw[List.getElem?_cons_succ];exact e1,e2⟩
theorem z8O{h:Heap}:∀ (as:List Addr) (fs:List Value),as.length=fs.length->(∀ (i:Nat) (b:Addr) (f:Value),as[i]? = some b->fs[i]? = some f->∃ o ys n,h.get? b=some o/\o.cls = .type "tuple" /\ o.data = .seq ys n/\ys[0]? = some f)->KatTups h (as.map Value.ref) fs
 | [],[],_,_=>KatTups.nil
 | b :: as,f :: fs,hl,k=>by
  obtain⟨o,ys,n,h1,h2,h3,h4⟩:=k 0 b f rfl rfl
  exact KatTups.cons h1 h2 h3 h4 (z8O as fs (by simpa using hl) fun i b' f' e1 e2=>k (i + 1) b' f' (by simpa using e1) (by simpa using e2))
theorem z7T{a r:Addr}{ks:List (List Int×V)}{Q:VK}(hc:X.calm=true)(hu:X.A.in1.in1.units < cLine)(I:Inv X pins σ H s)(e:H a=some (.dT (kz ks)))(few:ks.length < 64)(view:s.heap.IsItemsView r a)
 (q:∀ (H':Hp) (l:Addr) (qs:List (List Int×V)) (xs:List V),qs.Perm ks->qs.Pairwise (fun p q=>HT.lexLt p.1 q.1=true)->Same H H'->H l=none->H' l=some (.lst xs)->xs.length=qs.length->(∀ (i:Nat) (x:V) (kv:List Int×V),xs[i]? = some x->qs[i]? = some kv->z3J H' x kv)->Q (.ref l) H') :
 wpAny (model X.prog X.w) X.A (call (.builtin "sorted") [.ref r]) (EP X pins σ Q) X.xe s:=by
 have hh:X.A.in1.handled=none:=I.ok.hd hc
 obtain⟨_,_,xs,kt,o,es,ep,ho,hd,hdat,hes,nd⟩:=(show ObjOk X.prog X.w H s.heap a (.dT (kz ks)) from I.hok a _ e)
 have xl:xs.length=ks.length:=by rw[<- kt.length,jA]
 have el:es.size=ks.length:=by rw[size_of_entries hes,xl]
 have big:es.size<=sizeLine:=by rw[el,sizeLine_eq];omega
 obtain⟨bb,ebb⟩:∃ bb:Nat->Addr,bb=fun i=>(xs.getD i ([],0,.none)).2.1:=⟨_,rfl⟩
 obtain⟨uu,euu⟩:∃ uu:Nat->Value,uu=fun i=>(xs.getD i ([],0,.none)).2.2:=⟨_,rfl⟩
 obtain⟨kk,ekk⟩:∃ kk:Nat->List Int×V,kk=fun i=>ks.getD i ([],.non):=⟨_,rfl⟩
 have at_:∀ i,i < ks.length->xs[i]? = some ((kk i).1.map Sum.inl,bb i,uu i)/\H (bb i)=some (.tup ((kk i).1.map V.int))/\RelV (kk i).2 (uu i):=fun i hi=>by
  have e1:(kz ks)[i]? = some ((kk i).1.map Sum.inl,(kk i).2):=by
   rw[jC,jB hi,ekk]
   simp[List.getD,hi]
  obtain⟨⟨k1,b1,u1⟩,e2,e3,e4,e5⟩:=z8d kt e1
  have hx:xs.getD i ([],0,.none)=(k1,b1,u1):=by rw[jM,e2];rfl
  dsimp only at e3 e4 e5
  rw[ebb,euu]
  dsimp only
  rw[hx,e2,<- e3]
  exact⟨rfl,by rw[<- z7u];exact e4,e5⟩
 have ent:∀ i,i < ks.length->∃ hs:Int,es[i]? = some ⟨hs,.ref (bb i),uu i⟩:=fun i hi=>by
  rw[entry_at hes,(at_ i hi).1]
  exact⟨_,rfl⟩
 have dist:∀ i j,i < ks.length->j < ks.length->i≠j->(kk i).1≠(kk j).1:=fun i j hi hj hij z=>by
  have e1:(xs.map (·.1))[i]? = some ((kk i).1.map Sum.inl):=by rw[jC,(at_ i hi).1];rfl
  have e2:(xs.map (·.1))[j]? = some ((kk i).1.map Sum.inl):=by rw[jC,(at_ j hj).1,z];rfl
  obtain⟨a1,c1⟩:=jE.mp e1
  obtain⟨a2,c2⟩:=jE.mp e2
  exact hij ((List.getElem_inj nd).mp (c1.trans c2.symm))
 have ord:SOrd ks.length fun i j=>HT.lexLt (kk i).1 (kk j).1:=⟨fun i j k _ _ _ h1 h2=>z5K h1 h2,fun i j hi hj hij h=>z7s (dist i j hi hj hij) h⟩
 have tp:∀ i,i < ks.length->∃ its:List Value,IntsAre its.toArray.toList (kk i).1/\IsTup s.heap (bb i) its.toArray:=fun i hi=>by
  obtain⟨its,rv,pl,_⟩:=I.tuple (.of (at_ i hi).2.1)
  exact⟨its,z3D rv,pl⟩
 have keyAt:∀ i,i < ks.length->∀ g:Heap,(∀ b o,s.heap.get? b=some o->g.get? b=some o)->(tupleKind (z0D X.prog X.w)).is g ((kk i).1.map Sum.inl) (bb i):=fun i hi g kp=>by
  obtain⟨o1,its,n1,h1,h2,h3,h4⟩:=z6q (a:=bb i) (ks:=(kk i).1.map Sum.inl) I.hok (by rw[z7u];exact (at_ i hi).2.1)
  exact⟨o1,its,n1,kp _ _ h1,h2,h3,h4⟩
 let C:List Value->Shared->Prop:=fun vs s1=>∃ (g:Heap) (tk:Nat) (as:List Addr),s1={ s with heap:=g,toks:=tk }/\(∀ b o,s.heap.get? b=some o->g.get? b=some o)/\s.heap.objs.size < g.objs.size/\vs=as.map Value.ref/\as.length=es.size/\VPs es s.heap.objs.size g as
 have pair:∀ {g:Heap}{as:List Addr},as.length=es.size->VPs es s.heap.objs.size g as->∀ i,i < ks.length->as[i]? = some (as.getD i 0)/\g.get? (as.getD i 0)=some { cls := .type "tuple",data := .seq #[.ref (bb i),uu i] }:=fun {g as} hl ps i hi=>by
  have e1:as[i]? = some (as.getD i 0):=by rw[jM,jB (by omega)];rfl
  obtain⟨en,e2,e3⟩:=ps.pairs i _ e1
  obtain⟨hs,e4⟩:=ent i hi
  rw[e4]at e2
  cases e2
  exact⟨e1,e3⟩
 refine z3M (C:=C) (fun E' R hR=>y1h (A:=X.A.in1) hh view ⟨o,ho,hdat⟩ big fun g tk as k1 k0 k2 k3=>hR _ _ ⟨g,tk,as,rfl,k1,k0,rfl,k2,k3⟩) (fun vs s1 hC=>?_) (tuples' false) (fun _ _ i j=>HT.lexLt (kk i).1 (kk j).1) (fun vs s1 hC=>?_) (fun vs s1 hC two g2 kp2 R hR=>?_) (fun vs s1 hC g2 kp2 i j Z hi hj hij hZ=>?_) (fun vs s1 hC p g2 c pm sr kp2 hg=>?_)
 · obtain⟨g,tk,as,rfl,kp,up,rfl,hl,ps⟩:=hC
   rw[jA];omega
 · obtain⟨g,tk,as,rfl,kp,up,rfl,hl,ps⟩:=hC
   rw[jA,hl,el];exact ord
 · obtain⟨g,tk,as,rfl,kp,up,rfl,hl,ps⟩:=hC
   rw[jA]at two
   have t:=z8O (h:=g2) as (xs.map fun q=>Value.ref q.2.1) (by rw[jA];omega) fun i b f e1 e2=>by
    have hi:i < ks.length:=by have:=(jE.mp e1).1;omega
    obtain⟨f1,f2⟩:=pair hl ps i hi
    rw[f1]at e1
    rw[jC,(at_ i hi).1]at e2
    cases e1;cases e2
    exact⟨_,_,_,kp2 _ _ f2,rfl,rfl,rfl⟩
   refine kat_kind (T := .type "tuple") t (by rw[jA];omega) (fun v hv=>?_) rfl (by rw[show (Value.type "tuple" != Value.type "tuple")=false by decide];exact hR)
   obtain⟨x,hx,rfl⟩:=jU.mp hv
   obtain⟨i,hi,rfl⟩:=kP.mp hx
   have e1:=(at_ i (by omega)).1
   rw[jB hi]at e1
   obtain⟨o1,its,n1,h1,h2,h3,h4⟩:=keyAt i (by omega) g2 fun b o q=>kp2 b o (kp b o q)
   rw[Option.some.inj e1]
   have L:Looks (model X.prog X.w) g2 (typeOf (.ref (bb i))) o1.cls:=(Looks.ld h1).andThen .now
   rw[h2]at L
   exact L
 · obtain⟨g,tk,as,rfl,kp,up,rfl,hl,ps⟩:=hC
   rw[jA,hl,el]at hi hj
   obtain⟨f1,f2⟩:=pair hl ps i hi
   obtain⟨f3,f4⟩:=pair hl ps j hj
   have v1:(as.map Value.ref).getD i Value.none = .ref (as.getD i 0):=by rw[jM,jC,f1];rfl
   have v2:(as.map Value.ref).getD j Value.none = .ref (as.getD j 0):=by rw[jM,jC,f3];rfl
   rw[v1,v2]
   have kp3:∀ b o,s.heap.get? b=some o->g2.get? b=some o:=fun b o q=>kp2 b o (kp b o q)
   refine kat_lt (kp2 _ _ f2) rfl (kp2 _ _ f4) rfl (kat_cons ((tupleKind (z0D X.prog X.w)).eqBool (E:=fun _ _=>False) hu (keyAt i hi g2 kp3) (keyAt j hj g2 kp3) ?_))
   have ne:(kk i).1.map (Sum.inl:Int->Key)≠(kk j).1.map Sum.inl:=fun z=>dist i j hi hj hij ((List.map_inj_right (fun _ _ h=>Sum.inl.inj h)).mp z)
   rw[decide_eq_false ne]
   refine kat_no (kat_one _ _ ?_)
   obtain⟨i1,n1,o1,h1,h2,m1,h3⟩:=tp i hi
   obtain⟨i2,n2,o2,h4,h5,m2,h6⟩:=tp j hj
   exact HT.lt_tupInts ⟨o1,kp3 _ _ h1,h2,m1,h3⟩ ⟨o2,kp3 _ _ h4,h5,m2,h6⟩ n1 n2 hu hZ
 · obtain⟨g,tk,as,rfl,kp,up,rfl,hl,ps⟩:=hC
   rw[jA,hl,el]at pm sr
   dsimp only at kp2 hg ⊢
   have kp3:∀ b o,s.heap.get? b=some o->g2.get? b=some o:=fun b o q=>kp2 b o (kp b o q)
   have pz:p.toList.length=ks.length:=by rw[jT];exact pm.size
   have pin:∀ i∈p.toList,i < ks.length:=fun i hi=>by
    have:=pm.mem_iff.mp (Array.mem_toList_iff.mp hi)
    simpa using this
   have low:∀ i,i < ks.length->s.heap.objs.size < as.getD i 0/\as.getD i 0 < g.objs.size:=fun i hi=>by
    have m:=jf (pair hl ps i hi).1
    exact⟨ps.above _ m,ps.there m⟩
   obtain⟨l,el2⟩:∃ l,l=g.objs.size:=⟨_,rfl⟩
   rw[<- el2]at hg ⊢
   let L:List (Addr×HO):=(List.range ks.length).map (fun i=>(as.getD i 0,HO.tup [.ref (bb i),(kk i).2])) ++ [(l,.lst (p.toList.map fun i=>V.ref (as.getD i 0)))]
   have asl:(List.range ks.length).map (fun i=>as.getD i 0)=as:=by
    refine kS (by rw[jA,kQ];omega) fun i h1 h2=>?_
    rw[kF,List.getElem_range,jM,jB h2];rfl
   have Lk:L.map (·.1)=as ++ [l]:=by
    show ((List.range ks.length).map (fun i=>(as.getD i 0,HO.tup [.ref (bb i),(kk i).2])) ++ [(l,HO.lst (p.toList.map fun i=>V.ref (as.getD i 0)))]).map (·.1)=as ++ [l]
    rw[je,jd]
    show (List.range ks.length).map (fun i=>as.getD i 0) ++ [l]=as ++ [l]
    rw[asl]
   have Ln:(L.map (·.1)).Nodup:=by
    rw[Lk,j4]
    refine⟨ps.nd,by simp,fun b hb c hc e=>?_⟩
    have:=ps.there hb
    rw[jP.mp hc,el2]at e
    exact jS this e
   have Lf:∀ x∈L,s.heap.objs.size<=x.1:=fun x hx=>by
    have:x.1∈as ++ [l]:=by rw[<- Lk];exact jU.mpr ⟨x,hx,rfl⟩
    rcases ji.mp this with h | h
    · exact kE (ps.above _ h)
    · rw[jP.mp h,el2];exact kE up
   have fr:∀ x∈L,H x.1=none:=fun x hx=>I.hok.fresh (Lf x hx)
   have inP:∀ i,i < ks.length->(as.getD i 0,HO.tup [.ref (bb i),(kk i).2])∈L:=fun i hi=>kO _ (jU.mpr ⟨i,List.mem_range.mpr hi,rfl⟩)
   have inL:(l,HO.lst (p.toList.map fun i=>V.ref (as.getD i 0)))∈L:=ja _ (jP.mpr rfl)
   have out:z3d (as.map Value.ref) p=p.toList.map fun i=>Value.ref (as.getD i 0):=by
    unfold z3d
    refine jq fun i hi=>?_
    rw[jM,jC,(pair hl ps i (pin i hi)).1];rfl
   refine⟨.ref l,more H L,I.many (t':=tk) kp3 (fun b u q=>z7n fr q) (fun b u q=>?_),rfl,q (more H L) l (p.toList.map kk) (p.toList.map fun i=>V.ref (as.getD i 0)) ?_ ?_ (fun b u q=>z7n fr q) (fr _ inL) (y0w Ln inL) (by rw[jA,jA]) fun j x kv e1 e2=>?_⟩
   · rcases y8f q with q | q
     · exact .inl q
     · refine .inr ⟨Lf _ q,?_⟩
       rcases ji.mp q with q | q
       · obtain⟨i,hi,ei⟩:=jU.mp q
         have hi:=List.mem_range.mp hi
         cases ei
         exact⟨by show 2<=sizeLine;decide,[.ref (bb i),uu i],.cons rfl (.cons (at_ i hi).2.2 .nil),_,kp2 _ _ (pair hl ps i hi).2,rfl,_,rfl⟩
       · cases jP.mp q
         refine⟨by rw[jA,pz,sizeLine_eq];omega,p.toList.map fun i=>Value.ref (as.getD i 0),c,?_,by rw[<- out];exact hg⟩
         generalize p.toList=pl
         induction pl with
         | nil=>exact .nil
         | cons i pl ih=>exact .cons rfl ih
   · have e1:(List.range ks.length).map kk=ks:=by
      refine kS (by rw[jA,kQ]) fun i h1 h2=>?_
      rw[kF,List.getElem_range,ekk]
      simp[List.getD,h2]
     have:=(show p.toList.Perm (List.range ks.length) from Array.perm_iff_toList_perm.mp pm).map kk
     rwa [e1]at this
   · rw[j5]
     refine kH.mpr fun i j hi hj hij=>?_
     have:=sr i j hij (by omega)
     have g1:p.getD i 0=p.toList[i]:=by simp[Array.getD,show i < p.size by simpa using hi]
     have g3:p.getD j 0=p.toList[j]:=by simp[Array.getD,show j < p.size by simpa using hj]
     rw[g1,g3]at this
     exact this
   · rw[jC]at e1 e2
     cases ej:p.toList[j]? with
     | none=>rw[ej]at e1;cases e1
     | some i =>
      rw[ej]at e1 e2
      cases e1;cases e2
      have hi:=pin i (jf ej)
      exact⟨_,bb i,rfl,y0w Ln (inP i hi),z7n fr (at_ i hi).2.1⟩
def y9m(td:TE):TE:=fun σ H Q=>td σ H fun x H1=>∃ a ks,x = .ref a/\H1 a=some (.dT (kz ks))/\ks.length < 64 /\
 ∀ (H':Hp) (l:Addr) (qs:List (List Int×V)) (xs:List V),qs.Perm ks->qs.Pairwise (fun p q=>HT.lexLt p.1 q.1=true)->Same H1 H'->H1 l=none->H' l=some (.lst xs)->xs.length=qs.length->(∀ (i:Nat) (x:V) (kv:List Int×V),xs[i]? = some x->qs[i]? = some kv->z3J H' x kv)->Q (.ref l) H'
theorem z6v{A:Around}{k:Nat}(hr:Room k A):A.in1.in1.units < cLine:=by
 have:=hr.units
 show A.units + 1 + 1 < cLine
 omega
theorem y5o{o:Expr}{td:TE}{p ap cp pos:Pos}(hc:X.calm=true)(hu:X.A.in1.in1.units < cLine)(hg:Gl X "sorted")(hm:X.mg "sorted" = none)(hv:bootBuiltins "sorted" = some (.builtin "sorted"))(ho:PE X o td)
 (hbase:attributeBase o "items" X.env (eval o X.env)=eval o X.env:=by rfl) (hline:(ap.endLine == cp.line)=true:=by rfl):PE X (.Call (.Name "sorted" p) [.Call (.Attribute o "items" ap) [] [] cp] [] pos) (y9m td):=by
 intro pins s σ H Q I h
 refine wpAny_Call_Name_kw (z3g I hg hm hv ?_ (by decide) (by decide))
 refine PyProof.Rows.callWith_builtin1 ?_ rfl rfl
 show wpAny _ _ (spliced [(false,eval (.Call (.Attribute o "items" ap) [] [] cp) X.env)]) _ _ s
 refine Calls.spliced_cons (wpAny_Call_method0_late hbase hline (thn (ho pins s σ H _ I h) fun v s1 ⟨x,H1,I1,r1,a,ks,ex,e1,few,q1⟩=>?_))
 subst ex
 obtain rfl:v=Value.ref a:=r1
 obtain⟨t1,t2,t3⟩:=x0o I1 (.inr ⟨_,.inl e1⟩)
 obtain⟨_,_,xs,kt,o1,es,ep,ho1,hd1,_⟩:=(show ObjOk X.prog X.w H1 s1.heap a (.dT (kz ks)) from I1.hok a _ e1)
 refine⟨"dict", "dict.items",PySem.F.plainAttrs_dict,PySem.F.slot_dict_items,PySem.F.type_dict_items,t1,t2,Calls.callWith_builtin rfl (PySem.evalArgs_none (y1H ho1 hd1 t3 ?_))⟩
 refine Calls.spliced_nil ?_
 have I2:=I1.kept (h':=s1.heap.push { cls := .type "dict_items",data := .fields #[.ref a] }) (t':=s1.toks) fun b u q=>jD _ q
 exact z7T hc hu I2 e1 few ⟨_,jK _ rfl,rfl,rfl⟩ q1
end
section
variable {X:Cx}{pins:List (Addr×Obj)}{σ:St}{H:Hp}{s:Shared}
theorem z7S{a:Addr}{xs:List V}{ks:List (List Int×V)}{Q:VK}(hu:X.A.in1.in1.units < cLine)(I:Inv X pins σ H s)(hl:SqL X.K H a xs)(xl:xs.length=ks.length)(few:ks.length < 64)
 (hp:∀ (i:Nat) (x:V) (kv:List Int×V),xs[i]? = some x->ks[i]? = some kv->z3J H x kv) (nd:(ks.map (·.1)).Nodup)
 (q:∀ (l:Addr) (qs:List (List Int×V)) (ys:List V),qs.Perm ks->qs.Pairwise (fun p q=>HT.lexLt p.1 q.1=true)->H l=none->ys.length=qs.length->(∀ (i:Nat) (x:V) (kv:List Int×V),ys[i]? = some x->qs[i]? = some kv->z3J H x kv)->Q (.ref l) (upd H l (.lst ys))) :
 wpAny (model X.prog X.w) X.A (call (.builtin "sorted") [.ref a]) (EP X pins σ Q) X.xe s:=by
 obtain⟨its,rv,pl,hz⟩:=I.list hl
 have il:its.length=ks.length:=by rw[<- rv.length,xl]
 obtain⟨kk,ekk⟩:∃ kk:Nat->List Int×V,kk=fun i=>ks.getD i ([],.non):=⟨_,rfl⟩
 obtain⟨pp,epp⟩:∃ pp:Nat->Addr,pp=fun i=>match xs.getD i .non with | .ref p=>p | _=>0:=⟨_,rfl⟩
 obtain⟨bb,ebb⟩:∃ bb:Nat->Addr,bb=fun i=>match H (pp i) with | some (.tup (.ref b :: _))=>b | _=>0:=⟨_,rfl⟩
 have at_:∀ i,i < ks.length->xs[i]? = some (.ref (pp i))/\its[i]? = some (Value.ref (pp i))/\H (pp i)=some (.tup [.ref (bb i),(kk i).2])/\H (bb i)=some (.tup ((kk i).1.map V.int)):=fun i hi=>by
  have e1:ks[i]? = some (kk i):=by rw[ekk];simp[List.getD,hi]
  have hx:i < xs.length:=by omega
  obtain⟨p,b,e2,e3,e4⟩:=hp i xs[i] (kk i) (jB hx) e1
  have e5:xs.getD i .non = .ref p:=by rw[jM,jB hx,e2];rfl
  have e6:pp i=p:=by rw[epp];dsimp only;rw[e5]
  have e7:bb i=b:=by rw[ebb];dsimp only;rw[e6,e3]
  obtain⟨w',h1,h2⟩:=rv.get (jB hx)
  rw[e2]at h2
  cases h2
  rw[e6,e7]
  exact⟨by rw[jB hx,e2],h1,e3,e4⟩
 have dist:∀ i j,i < ks.length->j < ks.length->i≠j->(kk i).1≠(kk j).1:=fun i j hi hj hij z=>by
  have e1:(ks.map (·.1))[i]? = some (kk i).1:=by rw[jC,ekk];simp[List.getD,hi]
  have e2:(ks.map (·.1))[j]? = some (kk i).1:=by rw[jC,z,ekk];simp[List.getD,hj]
  obtain⟨a1,c1⟩:=jE.mp e1
  obtain⟨a2,c2⟩:=jE.mp e2
  exact hij ((List.getElem_inj nd).mp (c1.trans c2.symm))
 have ord:SOrd ks.length fun i j=>HT.lexLt (kk i).1 (kk j).1:=⟨fun i j k _ _ _ h1 h2=>z5K h1 h2,fun i j hi hj hij h=>z7s (dist i j hi hj hij) h⟩
 have tp:∀ i,i < ks.length->∃ its:List Value,IntsAre its.toArray.toList (kk i).1/\IsTup s.heap (bb i) its.toArray:=fun i hi=>by
  obtain⟨its,rv,pl,_⟩:=I.tuple (.of (at_ i hi).2.2.2)
  exact⟨its,z3D rv,pl⟩
 have keyAt:∀ i,i < ks.length->∀ g:Heap,(∀ b o,s.heap.get? b=some o->g.get? b=some o)->(tupleKind (z0D X.prog X.w)).is g ((kk i).1.map Sum.inl) (bb i):=fun i hi g kp=>by
  obtain⟨o1,its,n1,h1,h2,h3,h4⟩:=z6q (a:=bb i) (ks:=(kk i).1.map Sum.inl) I.hok (by rw[z7u];exact (at_ i hi).2.2.2)
  exact⟨o1,its,n1,kp _ _ h1,h2,h3,h4⟩
 have pair:∀ i,i < ks.length->∃ (o:Obj) (u:Value) (n:Nat),s.heap.get? (pp i)=some o/\o.cls = .type "tuple" /\ o.data = .seq #[.ref (bb i),u] n:=fun i hi=>by
  obtain⟨its2,rv2,⟨o,h1,h2,n,h3⟩,_⟩:=I.tuple (X:=X) (.of (at_ i hi).2.2.1)
  cases rv2 with
  | cons r1 r2 =>
   cases r2 with
   | cons r3 r4 =>
    cases r4
    cases r1
    exact⟨o,_,n,h1,h2,h3⟩
 have itsE:its=((List.range ks.length).map pp).map Value.ref:=by
  refine List.ext_getElem? fun i=>?_
  by_cases hi:i < ks.length
  · rw[(at_ i hi).2.1,jC,jC,List.getElem?_range hi];rfl
  · rw[kJ (by omega),kJ (by simp;omega)]
 let C:List Value->Shared->Prop:=fun vs s1=>∃ (g:Heap),s1={ s with heap:=g }/\(∀ b o,s.heap.get? b=some o->g.get? b=some o)/\s.heap.objs.size < g.objs.size/\vs=its
 refine z3M (C:=C) (fun E' R hR=>collect_list (vs:=its) pl.isList (hR _ _ ⟨_,rfl,fun b o e=>?_,?_,rfl⟩) (by rw[il,sizeLine_eq];omega)) (fun vs s1 hC=>?_) (tuples' false) (fun _ _ i j=>HT.lexLt (kk i).1 (kk j).1) (fun vs s1 hC=>?_) (fun vs s1 hC two g2 kp2 R hR=>?_) (fun vs s1 hC g2 kp2 i j Z hi hj hij hZ=>?_) (fun vs s1 hC p g2 c pm sr kp2 hg=>?_)
 · have hb:=jG e
   rw[Heap.get?_update_ne _ _ _ _ (jS hb),Heap.get?_push_ne _ _ _ (jS hb)]
   exact e
 · rw[Heap.size_update,size_push'];exact Nat.lt_succ_self _
 · obtain⟨g,rfl,kp,up,rfl⟩:=hC
   omega
 · obtain⟨g,rfl,kp,up,rfl⟩:=hC
   rw[il];exact ord
 · obtain⟨g,rfl,kp,up,rfl⟩:=hC
   have t:=z8O (h:=g2) ((List.range ks.length).map pp) ((List.range ks.length).map fun i=>Value.ref (bb i)) (by simp) fun i b f e1 e2=>by
    have hi:i < ks.length:=by have:=(jE.mp e1).1;simpa using this
    rw[jC,List.getElem?_range hi]at e1 e2
    cases e1;cases e2
    obtain⟨o,u,n,h1,h2,h3⟩:=pair i hi
    exact⟨o,_,n,kp2 _ _ (kp _ _ h1),h2,h3,rfl⟩
   rw[<- itsE]at t
   refine kat_kind (T := .type "tuple") t (by simp;omega) (fun v hv=>?_) rfl (by rw[show (Value.type "tuple" != Value.type "tuple")=false by decide];exact hR)
   obtain⟨i,hi,rfl⟩:=jU.mp hv
   have hi:=List.mem_range.mp hi
   obtain⟨o1,its,n1,h1,h2,h3,h4⟩:=keyAt i hi g2 fun b o q=>kp2 b o (kp b o q)
   have L:Looks (model X.prog X.w) g2 (typeOf (.ref (bb i))) o1.cls:=(Looks.ld h1).andThen .now
   rw[h2]at L
   exact L
 · obtain⟨g,rfl,kp,up,rfl⟩:=hC
   rw[il]at hi hj
   obtain⟨o1,u1,n1,f1,_,f2⟩:=pair i hi
   obtain⟨o2,u2,n2,f3,_,f4⟩:=pair j hj
   have v1:vs.getD i Value.none = .ref (pp i):=by rw[jM,(at_ i hi).2.1];rfl
   have v2:vs.getD j Value.none = .ref (pp j):=by rw[jM,(at_ j hj).2.1];rfl
   rw[v1,v2]
   have kp3:∀ b o,s.heap.get? b=some o->g2.get? b=some o:=fun b o q=>kp2 b o (kp b o q)
   refine kat_lt (kp3 _ _ f1) f2 (kp3 _ _ f3) f4 (kat_cons ((tupleKind (z0D X.prog X.w)).eqBool (E:=fun _ _=>False) hu (keyAt i hi g2 kp3) (keyAt j hj g2 kp3) ?_))
   have ne:(kk i).1.map (Sum.inl:Int->Key)≠(kk j).1.map Sum.inl:=fun z=>dist i j hi hj hij ((List.map_inj_right (fun _ _ h=>Sum.inl.inj h)).mp z)
   rw[decide_eq_false ne]
   refine kat_no (kat_one _ _ ?_)
   obtain⟨i1,m1,o1,h1,h2,m1',h3⟩:=tp i hi
   obtain⟨i2,m2,o2,h4,h5,m2',h6⟩:=tp j hj
   exact HT.lt_tupInts ⟨o1,kp3 _ _ h1,h2,m1',h3⟩ ⟨o2,kp3 _ _ h4,h5,m2',h6⟩ m1 m2 hu hZ
 · obtain⟨g,rfl,kp,up,rfl⟩:=hC
   rw[il]at pm sr
   dsimp only at kp2 hg ⊢
   have kp3:∀ b o,s.heap.get? b=some o->g2.get? b=some o:=fun b o q=>kp2 b o (kp b o q)
   have pz:p.toList.length=ks.length:=by rw[jT];exact pm.size
   have pin:∀ i∈p.toList,i < ks.length:=fun i hi=>by
    have:=pm.mem_iff.mp (Array.mem_toList_iff.mp hi)
    simpa using this
   have out:z3d vs p=p.toList.map fun i=>Value.ref (pp i):=by
    unfold z3d
    refine jq fun i hi=>?_
    rw[jM,(at_ i (pin i hi)).2.1];rfl
   rw[out]at hg
   have fr:H g.objs.size=none:=I.hok.fresh (kE up)
   refine⟨.ref g.objs.size,upd H g.objs.size (.lst (p.toList.map fun i=>V.ref (pp i))),I.laid (t':=s.toks) kp3 (kE up) (show ObjOk X.prog X.w _ g2 _ (.lst (p.toList.map fun i=>V.ref (pp i))) from ⟨by rw[jA,pz,sizeLine_eq];omega,p.toList.map fun i=>Value.ref (pp i),c,?_,hg⟩),rfl,q g.objs.size (p.toList.map kk) (p.toList.map fun i=>V.ref (pp i)) ?_ ?_ fr (by rw[jA,jA]) fun j x kv e1 e2=>?_⟩
   · generalize p.toList=pl'
     induction pl' with
     | nil=>exact .nil
     | cons i pl' ih=>exact .cons rfl ih
   · have e1:(List.range ks.length).map kk=ks:=by
      refine kS (by rw[jA,kQ]) fun i h1 h2=>?_
      rw[kF,List.getElem_range,ekk]
      simp[List.getD,h2]
     have:=(show p.toList.Perm (List.range ks.length) from Array.perm_iff_toList_perm.mp pm).map kk
     rwa [e1]at this
   · rw[j5]
     refine kH.mpr fun i j hi hj hij=>?_
     have:=sr i j hij (by omega)
     have g1:p.getD i 0=p.toList[i]:=by simp[Array.getD,show i < p.size by simpa using hi]
     have g3:p.getD j 0=p.toList[j]:=by simp[Array.getD,show j < p.size by simpa using hj]
     rw[g1,g3]at this
     exact this
   · rw[jC]at e1 e2
     cases ej:p.toList[j]? with
     | none=>rw[ej]at e1;cases e1
     | some i =>
      rw[ej]at e1 e2
      cases e1;cases e2
      have hi:=pin i (jf ej)
      exact⟨_,bb i,rfl,(at_ i hi).2.2.1,(at_ i hi).2.2.2⟩
theorem z1H(K:PySem.W.Frag)(hK:X.K=K)(hu:X.A.in1.in1.units < cLine):CallR X (.builtin "sorted") (fun vs H Q=>∃ (a:Addr) (xs:List V) (ks:List (List Int×V)),vs=[.ref a]/\SqL K H a xs/\xs.length=ks.length/\ks.length < 64 /\
 (∀ (i:Nat) (x:V) (kv:List Int×V),xs[i]? = some x->ks[i]? = some kv->z3J H x kv)/\(ks.map (·.1)).Nodup /\
 ∀ (l:Addr) (qs:List (List Int×V)) (ys:List V),qs.Perm ks->qs.Pairwise (fun p q=>HT.lexLt p.1 q.1=true)->H l=none->ys.length=qs.length->(∀ (i:Nat) (x:V) (kv:List Int×V),ys[i]? = some x->qs[i]? = some kv->z3J H x kv)->Q (.ref l) (upd H l (.lst ys))):=by
 subst hK
 intro pins s σ H xs us Q I r h
 obtain⟨a,xs,ks,rfl,h1,h2,h3,h4,h5,q⟩:=h
 obtain⟨u,rfl,rx⟩:=z3L r
 cases rx
 exact z7S hu I h1 h2 h3 h4 h5 q
end
section
variable {prog:Program}{w:World}{A:Around}{E:Value->Shared->Prop}{s:Shared}
theorem y7d{d:Addr}{es:Array DictEntry}{ep:Nat}{Q:Value->Shared->Prop}(lo:(d == sysModules)=false)(ty:s.TypeIs (.ref d) "dict")(D:VDc s.heap d es ep)
 (k:Q (.ref s.heap.objs.size) { s with heap:=s.heap.push { cls := .type "dict_keyiterator",data := .fields #[.ref d,.int 0 0,.int es.size 0,.int ep 0] } }):wpAny (model prog w) A (pyIter (.ref d)) Q E s:=by
 obtain⟨od,od1,od2⟩:=D
 refine wpAny_pyIter_slot ty PySem.F.slot_dict_iter (wpAny_call_entry PySem.F.slot_dict_iter ty PySem.F.entry_dict_iter ?_ (PySem.F.args_dict_iter_1 _))
 unfold Builtin.«dict.__iter__» Builtin.Dict.dictSlotNone
 refine wpAny_bind (wpAny_bind (wpAny_notOrdered_dict ty (wpAny_pure ?_)))
 show wpAny _ _ (Builtin.Dict.showsAll d >>= _) _ _ s
 unfold Builtin.Dict.showsAll
 rw[if_neg (by rw[lo];decide)]
 refine wpAny_bind (wpAny_pure (wpAny_bind (wpAny_dictEntries od1 od2 (wpAny_bind (wpAny_dictEpoch od1 od2 ?_)))))
 refine wpAny_bind (wpAny_newObj_type (wpAny_pure ⟨_,rfl, "dict_keyiterator",_,⟨_,jK _ rfl,rfl⟩,PySem.F.slot_dict_keyiterator_next.lookup,?_⟩))
 simpa [rawInt] using k
theorem y7e{it d:Addr}{i ep:Nat}{es:Array DictEntry}{Q:Option Value->Shared->Prop}(t:s.heap.IsKeyIter it d i es.size ep)(D:VDc s.heap d es ep)(hi:i < es.size)
 (k:∀ g,g.IsKeyIter it d (i + 1) es.size ep->Heap.SameBut it s.heap g->Q (some es[i].key) { s with heap:=g }):wpAny (model prog w) A (pyNext (.ref it)) Q E s:=by
 obtain⟨o,ho,hc,hd⟩:=id t
 obtain⟨od,od1,od2⟩:=D
 unfold pyNext
 refine wpAny_bind (wpAny_attempt (wpAny_callSpecial?_slot (name:=Str.ofString "__next__") t.typeIs PySem.F.slot_dict_keyiterator_next (wpAny_call_entry PySem.F.slot_dict_keyiterator_next t.typeIs PySem.F.entry_dict_keyiterator_next ?_ (PySem.F.args_dict_keyiterator_next_1 _))))
 refine wpAny_bind (wpAny_pure (wpAny_bind (wpAny_bind (wpAny_bind (wpAny_typeNameOfWhole_keyiter t.typeIs (wpAny_pure (wpAny_bind (wpAny_fieldsOf ho hd ?_))))))))
 simp only[show Builtin.Dict_items.ownsTuple "dict_keyiterator" = false by decide,j7,if_false]
 show wpAny _ _ (if (Value.ref d == Value.none)=true then _ else _) _ _ s
 rw[if_neg (by simp)]
 refine wpAny_bind (wpAny_pure (wpAny_bind (wpAny_dictEntries od1 od2 ?_)))
 rw[if_neg (by simp)]
 refine wpAny_bind (wpAny_pure (wpAny_bind (wpAny_dictEpoch od1 od2 ?_)))
 rw[if_neg (by simp)]
 refine wpAny_pure ?_
 simp only[show ¬ ((i:Int) < 0) by omega,if_false,jm,jO hi]
 refine wpAny_bind (wpAny_bind (wpAny_typeNameOfWhole_keyiter t.typeIs (wpAny_pure (wpAny_bind (wpAny_isOneOf_keyiter t.typeIs ?_)))))
 show wpAny _ _ (setField (.ref it) 1 (rawInt ((i:Int) + 1)) >>= _) _ _ s
 refine wpAny_bind (wpAny_setField ho hd (by simp) ?_)
 have t':(s.heap.update it (Obj.mapFields (·.setIfInBounds 1 (rawInt ((i:Int) + 1))))).IsKeyIter it d (i + 1) es.size ep:=⟨_,jY _ ho (Obj.isFreed_of_fields (Obj.data_mapFields hd _)),(Obj.cls_mapFields ..).trans hc,by rw[Obj.data_mapFields hd];simp[rawInt]⟩
 refine wpAny_bind (wpAny_holding (wpAny_bind (wpAny_isOneOf_keyiter (s:={ s with heap:=s.heap.update it (Obj.mapFields (·.setIfInBounds 1 (rawInt ((i:Int) + 1)))) }) t'.typeIs ?_)))
 show wpAny _ _ (pure es[i].key) _ _ _
 exact wpAny_pure (wpAny_pure ⟨_,rfl,wpAny_pure (k _ t' (Heap.SameBut.update ..))⟩)
theorem y9i{it d:Addr}{ep:Nat}{es:Array DictEntry}{Q:Option Value->Shared->Prop}(hh:A.handled=none)(t:s.heap.IsKeyIter it d es.size es.size ep)(D:VDc s.heap d es ep)
 (k:∀ g,Heap.ExtBut it s.heap g->Q none { s with heap:=g }):wpAny (model prog w) A (pyNext (.ref it)) Q E s:=by
 obtain⟨o,ho,hc,hd⟩:=id t
 obtain⟨od,od1,od2⟩:=D
 unfold pyNext
 refine wpAny_bind (wpAny_attempt (wpAny_callSpecial?_slot (name:=Str.ofString "__next__") t.typeIs PySem.F.slot_dict_keyiterator_next (wpAny_call_entry PySem.F.slot_dict_keyiterator_next t.typeIs PySem.F.entry_dict_keyiterator_next ?_ (PySem.F.args_dict_keyiterator_next_1 _))))
 refine wpAny_bind (wpAny_pure (wpAny_bind (wpAny_bind (wpAny_bind (wpAny_typeNameOfWhole_keyiter t.typeIs (wpAny_pure (wpAny_bind (wpAny_fieldsOf ho hd ?_))))))))
 simp only[show Builtin.Dict_items.ownsTuple "dict_keyiterator" = false by decide,j7,if_false]
 show wpAny _ _ (if (Value.ref d == Value.none)=true then _ else _) _ _ s
 rw[if_neg (by simp)]
 refine wpAny_bind (wpAny_pure (wpAny_bind (wpAny_dictEntries od1 od2 ?_)))
 rw[if_neg (by simp)]
 refine wpAny_bind (wpAny_pure (wpAny_bind (wpAny_dictEpoch od1 od2 ?_)))
 rw[if_neg (by simp)]
 refine wpAny_pure ?_
 simp only[show ¬ ((es.size:Int) < 0) by omega,if_false,jm,j8 (jF es.size)]
 refine wpAny_bind (wpAny_bind (wpAny_typeNameOfWhole_keyiter t.typeIs (wpAny_pure ?_)))
 show wpAny _ _ (setField (.ref it) 0 .none >>= _) _ _ s
 refine wpAny_bind (wpAny_setField ho hd (by simp) (wpAny_bind ?_))
 unfold newExc newTuple
 refine wpAny_bind (wpAny_newObj_type (wpAny_bind (m:=firstArgMember _ _) (wpAny_of_eq (a:=Value.none) (by first | rfl | (unfold firstArgMember;rfl)) (wpAny_newObj_type ?_ (by size_fits)))) (by size_fits))
 unfold raiseNew
 refine wpAny_bind (wpAny_handled ?_)
 rw[show A.in1.handled=none from hh]
 refine wpAny_bind (wpAny_pure (wpAny_throw ?_))
 refine wpAny_bind (wpAny_isInstance (b:=true) (T := "StopIteration") ⟨_,jK _ rfl,rfl⟩ isSubtype_stop (wpAny_pure ?_))
 exact k _ (((Heap.SameBut.update ..).extBut.push _).push _)
theorem VDc.kept{h h':Heap}{d:Addr}{es:Array DictEntry}{ep:Nat}(D:VDc h d es ep)(k:∀ o,h.get? d=some o->h'.get? d=some o):VDc h' d es ep:=by
 obtain⟨o,h1,h2⟩:=D
 exact⟨o,k _ h1,h2⟩
theorem y4T(hh:A.handled=none)(I d:Addr)(ne:d≠I)(es:Array DictEntry)(ep:Nat) :
 Walks prog w A I [I,d] [I] es.size (fun i v=>∃ e,es[i]? = some e/\v=e.key) (fun i h=>h.IsKeyIter I d i es.size ep/\VDc h d es ep) where
 sub:=fun b hb=>by rw[jP.mp hb];simp
 frame:=fun i h h' st hk=>⟨st.1.at fun o e=>hk I (by simp) o e,st.2.kept fun o e=>hk d (by simp) o e⟩
 item:=fun i s Q E hi st hQ=>y7e st.1 st.2 hi fun g t' sb=>hQ es[i].key g s.toks ⟨_,jO hi,rfl⟩ ⟨t',st.2.kept fun o e=>sb.extBut d o ne e⟩ fun b o hb e=>sb.extBut b o (fun z=>hb (by simp[z])) e
 done:=fun s Q E st hQ=>y9i hh st.1 st.2 fun g ex=>hQ g s.toks fun b o hb e=>ex b o (fun z=>hb (by simp[z])) e
 self:=fun _ _ _ _ st hQ=>wpAny_pyIter_keyiter st.1 hQ
theorem y9h{d:Addr}{es:Array DictEntry}{ep:Nat}(lo:(d == sysModules)=false) :
 KdlSrc prog w "dict" d d es.size (fun i v=>∃ e,es[i]? = some e/\v=e.key) (fun h=>∃ o,h.get? d=some o/\o.cls = .type "dict" /\ o.data = .dict es ep) where
 type:=fun _ ⟨o,h1,h2,_⟩=>⟨o,h1,h2⟩
 there:=fun _ ⟨_,h1,_⟩=>⟨jG h1,jG h1⟩
 keep:=fun _ _ ⟨o,h1,h2⟩ hk=>⟨o,hk d (.inl rfl) o h1,h2⟩
 notList:=by decide
 notTuple:=by decide
 hint:=fun _ _ _ _ ⟨o,h1,h2,_⟩ hq=>kdl_hint_dict ⟨o,h1,h2⟩ hq
 iter:=fun A s hh ⟨o,h1,h2,h3⟩=>⟨_,_,(fun _ _ hq=>y7d lo ⟨o,h1,h2⟩ ⟨o,h1,h3⟩ hq),y4T hh _ d (jS (jG h1)) es ep,⟨⟨_,jK _ rfl,rfl,rfl⟩,⟨o,jD _ h1,h3⟩⟩⟩
end
end L2
namespace PySem.SeqAt
open AutoSeq1 (wpAny_loadPart')
open MeetsSeq MeetsSeq2 MeetsSeq3 SeqRoads2
end PySem.SeqAt
namespace L2
open PySem PySem.Spec PyProof.Rows
section
variable {X:Cx}
variable {o e:Expr}{es:List Expr}{to:TE}{t:TA}{name:Str}{apos cpos:Pos}{id:String}{r:V->List V->Hp->VK->Prop}
def y9G(K:PySem.W.Frag):R2:=fun x y H Q=>∃ a b xs ys,x = .ref a/\y = .ref b/\SqT K H a xs/\SqT K H b ys/\xs.length + ys.length<=sizeLine /\
 (xs=[]->Q (.ref b) H)/\(xs≠[]->ys=[]->Q (.ref a) H)/\(ys≠[]->∀ p,H p=none->Q (.ref p) (upd H p (.tup (xs ++ ys))))
theorem z7j(K:PySem.W.Frag)(hK:X.K=K):OpR X (binaryOp .Add) (y9G K):=by
 subst hK
 intro pins s σ H x y v u Q I rx ry h
 obtain⟨a,b,xs,ys,rfl,rfl,ha,hb,hz,q0,q1,q2⟩:=h
 by_cases hx:xs=[]
 · cases rx
   cases ry
   obtain⟨its,r1,p1,_⟩:=I.tuple ha
   obtain⟨its2,r2,p2,_⟩:=I.tuple hb
   have e:=r1.nil_iff.mpr hx
   obtain⟨⟨cls,dd,data,sl⟩,ho,hc,n,hd⟩:=id p1
   obtain⟨⟨cls2,dd2,data2,sl2⟩,ho2,hc2,n2,hd2⟩:=id p2
   simp only at hc hd hc2 hd2
   subst hc hd hc2 hd2
   exact concat_meets ⟨_,ho,rfl⟩ ⟨_,ho2,rfl⟩ noFill_tuple_add seq_tuple_add PySem.F.slot_tuple_add PySem.F.entry_tuple_add (PySem.F.args_tuple_add_2 _ _)
    (tuple_addW0 a b its.toArray its2.toArray n n2 dd dd2 sl sl2 (by simp[e])) ⟨ho,ho2,⟨.ref b,H,I,rfl,q0 hx⟩⟩
 · exact y3q pins s σ H _ _ v u Q I rx ry ⟨a,b,xs,ys,rfl,rfl,ha,hb,hx,hz,q1 hx,q2⟩
end
theorem y0k{X:Cx}{i:Nat}{x:Str}{es:List Expr}{t:TA}{b:Expr}{tb:TE}{r:R2}{p p2 pos pos':Pos}(hN:X.N.Nodup)(hi:X.N[i]? = some x)(hx:X.env.scope.names.lookup x=some .local)(hr:IxR X r)(ha:PA X es t)(hb:PE X b tb)(hs:y4w b) :
 PS X (.Assign [.Name x pos'] (.Subscript (.List es p) b p2) pos) (y2p (tOp r (x0G t) tb) (z1g i)) :=
 z0t hN hi (.inl hx) (z0s hr (z2n ha) hb hs) (hs:=rfl) (hf := .inr hx)
section
variable {X:Cx}
theorem y7u:SlR X (fun x lo hi H Q=>∃ z,x = .str z/\z.length<=sizeLine/\Q (.str (Txt.slice z lo hi)) H):=by
 intro pins s σ H x v vl vu lo hi sl Q I rx hs pl pu h
 obtain⟨z,rfl,hz,q⟩:=h
 obtain⟨t,rfl⟩:=rx
 obtain⟨l,rfl,el⟩:∃ l:Option (Int×Tok),vl=partValue l/\l.map (·.1)=lo:=by
  cases pl
  · exact⟨none,rfl,rfl⟩
  · exact⟨some (_,_),rfl,rfl⟩
 obtain⟨u,rfl,eu⟩:∃ u:Option (Int×Tok),vu=partValue u/\u.map (·.1)=hi:=by
  cases pu
  · exact⟨none,rfl,rfl⟩
  · exact⟨some (_,_),rfl,rfl⟩
 refine⟨"str",_,F.slot_str_getitem.lookup,typeIs_str s z t,wpAny_getItem_str_slice (l:=l) (u:=u) (st:=none) hs rfl ?_⟩
 subst el eu
 exact post_val_or_str ⟨jc (Txt.slice_le z _ _) hz,fun t' k=>⟨.str _,H,I.tok k,⟨_,rfl⟩,q⟩⟩
end
section
variable {X:Cx}
inductive PJ (X:Cx):List Expr->List TE->Prop
 | nil:PJ X [] []
 | cons {e:Expr}{es:List Expr}{t:TE}{ts:List TE} (h:PE X e t) (r:PJ X es ts):PJ X (e :: es) (t :: ts)
theorem y5I:MtM X "list.index" (fun v vs H Q=>∃ (p:Addr) (xs:List V) (y:V) (j:Nat) (hj:j < xs.length),v = .ref p/\vs=[y]/\H p=some (.lst xs)/\z4F y=true/\xs.all z4F=true/\eqV xs[j] y=true/\(∀ m (hm:m < xs.length),m < j->eqV xs[m] y=false)/\Q (.int j) H):=by
 intro pins s σ H v vs u us Q I rx rs h
 obtain⟨p,xs,y,j,hj,rfl,rfl,hH,fy,fx,hit,hno,q⟩:=h
 cases rx
 obtain⟨u,rfl,ru⟩:=z3L rs
 obtain⟨z,its,n,r,hl,e⟩:=I.lstM hH
 have same:∀ m (hm:m < xs.length),∃ hm':m < its.length,eqU y its[m]=eqV xs[m] y:=fun m hm=>by
  obtain⟨w,hw,rw'⟩:=r.get (jB hm)
  obtain⟨hm',e'⟩:=jE.mp hw
  refine⟨hm',?_⟩
  rw[e']
  exact y4c rw' (List.all_eq_true.mp fx _ (jZ hm))
 have hn:=z8m
 have hs:sizeLine=16777216:=sizeLine_eq
 refine call_meets (Q:=EP X pins σ Q) PySem.F.slot_list_index ⟨_,e,rfl⟩ PySem.F.entry_list_index (PySem.F.args_list_index_2 _ _)
  (SeqAt.list_indexAt p its.toArray n none #[] u (eqU y) j (by rw[jI];omega) (by omega) ?_ ?_) ⟨e,fun w hw=>z5l ru fy r fx w (by simpa using hw),⟨.int _,H,I.tok _,⟨_,rfl⟩,q⟩⟩
 · obtain⟨hm',e'⟩:=same j hj
   simpa [e'] using hit
 · intro m hm hmj
   have hm2:m < xs.length:=by rw[jI]at hm;omega
   obtain⟨hm',e'⟩:=same m hm2
   simpa [e'] using hno m hm2 hmj
end
def y2X:V->List V->Hp->VK->Prop:=fun v vs H Q=>∃ (p:Addr) (xs:List V) (y:V) (j:Nat) (hj:j < xs.length),v = .ref p/\vs=[y]/\H p=some (.lst xs)/\z4F y=true/\xs.all z4F=true/\eqV xs[j] y=true/\(∀ m (hm:m < xs.length),m < j->eqV xs[m] y=false)/\Q (.int j) H
theorem y3m{X:Cx}{o e:Expr}{to te:TE}{apos cpos:Pos}(ho:PE X o to)(he:PE X e te)
 (hbase:attributeBase o "index" X.env (eval o X.env)=eval o X.env:=by rfl)
 (hfew:((backTo cpos (starEach [e] X.env)).all (fun x => !x.1) && (backToKw cpos (keywordEach [] X.env)).all (fun x=>x.1.isSome)
  && decide ([e].length + ([]:List Keyword).length + (if ([]:List Keyword).isEmpty then 0 else 1) < 30))=true:=by rfl)
 (hline:(apos.endLine == cpos.line)=true:=by rfl) (hs:starEach [e] X.env=[(false,eval e X.env)]:=by rfl) :
 PE X (.Call (.Attribute o "index" apos) [e] [] cpos) (tBM X.K "list" y2X to (z1J te z6F)) :=
 z7g (r:=y2X) PySem.F.plainAttrs_list PySem.F.slot_list_index PySem.F.type_list_index y5I ho (z0a he z0f hs) hbase hfew hline hs rfl
end L2
namespace L2
open PySem PySem.W PySem.Spec PyProof.Rows
theorem y5g:typeLookup (.type "list_reverseiterator") "__len__" = pure none:=by rw[typeLookup_type,builtinLookup_eq_fast];kernel_rfl
theorem y5h:typeLookup (.type "list_reverseiterator") "__length_hint__" = pure (some (.builtin "list_reverseiterator.__length_hint__")):=by rw[typeLookup_type,builtinLookup_eq_fast];kernel_rfl
structure RvSrc (prog:Program) (w:World) (T:String) (I d:Addr) (n:Nat) (P:Nat->Value->Prop) (St:Nat->Heap->Prop):Prop where
 walk:∀ A:Around,A.handled=none->Walks prog w A I [I,d] [I] n P St
 type:∀ (s:Shared),St 0 s.heap->s.TypeIs (.ref I) T
 there:∀ h:Heap,St 0 h->I < h.objs.size/\d < h.objs.size
 notList:(Value.type T == Value.type "list")=false
 notTuple:(Value.type T == Value.type "tuple")=false
 hint:∀ (A:Around) (E:Value->Shared->Prop) (s:Shared) (Q:Bool->Shared->Prop),A.handled=none->St 0 s.heap->(∀ b tk,Q b { s with toks:=tk })->wpAny (model prog w) A (Builtin.List.listLengthHint (.ref I)) Q E s
section
variable {prog:Program}{w:World}{A:Around}{E:Value->Shared->Prop}{s:Shared}{T:String}{I d:Addr}{n:Nat}{P:Nat->Value->Prop}{St:Nat->Heap->Prop}
theorem y2S{R:Result->Shared->Prop}(K:RvSrc prog w T I d n P St)(hh:A.handled=none)(hst:St 0 s.heap)(S:Addr)(hSI:S≠I)(hSd:S≠d)(res:Value)(c₀:Nat)(hS:s.heap.get? S=some { cls := .type "list",data := .seq #[] c₀ })(hn:n<=sizeLine)
 (hR:∀ h' tk acc' c',(∀ b o,b≠S->b≠I->s.heap.get? b=some o->h'.get? b=some o)->h'.get? S=some { cls := .type "list",dict:=none,data := .seq acc' c',slots:=#[] }->ItemsOf P acc' n->R (.ok (.ret res)) { s with heap:=h',toks:=tk }) :
 wpAny (model prog w) A.in1 (Builtin.List.listExtendWith (.ref S) (.ref I) res)
  (fun fin s'=>match fin with | .done f=>R (.ok f) s' | .again c'=>c'.quiet=true/\codeAny (model prog w) A c' R s') (fun e s'=>R (.error e) s') s:=by
 have W:=K.walk A.in1 hh
 have hSf:S∉[I,d]:=by simp only[jH,jt,or_false,not_or];exact⟨hSI,hSd⟩
 have key:∀ (h:Heap) (c₁ tk:Nat),St 0 h->(∀ b o,b≠S->s.heap.get? b=some o->h.get? b=some o) ->
  h.get? S=some { cls := .type "list",data := .seq #[] c₁ }->codeAny (model prog w) A (.builtin "list.extend.loop" ⟨[.ref S,.ref I,res],[]⟩) R { s with heap:=h,toks:=tk }:=by
  intro h c₁ tk hst hk hS₁
  refine codeAny_extend_loopS W.toS hn S hSf res n 0 _ #[] c₁ rfl (jR _) hst hS₁ (ItemsOf.nil _) fun s' acc' c' hm hS' hacc=>?_
  rw[Moved.eq_with hm]
  refine hR s'.heap s'.toks acc' c' (fun b o hb hbI e=>hm.heap b o (fun hmem=>?_) (hk b o hb e)) hS' hacc
  rcases jH.mp hmem with e' | hmem
  · exact hb e'
  · exact hbI (jP.mp hmem)
 unfold Builtin.List.listExtendWith
 refine wpAny_bind (wpAny_typeOf (T:=T) (K.type s hst) ?_)
 have h1:Builtin.List.listSameRef (.ref S) (.ref I)=false:=by simp[Builtin.List.listSameRef,hSI]
 simp only[h1,K.notList,K.notTuple,Bool.or_false,j7,if_false]
 refine wpAny_bind (W.self 0 _ _ _ hst ?_)
 refine wpAny_bind (wpAny_holding (K.hint _ _ _ _ hh hst fun b tk=>?_))
 refine wpAny_ite_split (fun _=>?_) (fun _=>wpAny_pure ⟨plainId_quiet PySem.F.plain_extend_loop _,key _ c₀ _ hst (fun b o _ e=>e) hS⟩)
 refine wpAny_bind (wpAny_rule ?_)
 refine wpAny_bind ?_
 show wpAny _ _ (updateSeq S (·.push .none) >>= fun _=>updateSeq S (·.pop)) _ _ _
 refine wpAny_bind (wpAny_updateSeq hS rfl ?_)
 have hS₂:=jY (Obj.mapSeq (·.push Value.none)) hS rfl
 refine wpAny_updateSeq (hz:=by seq_fits) hS₂ rfl ?_
 have hS₃:=jY (Obj.mapSeq (·.pop)) hS₂ rfl
 refine wpAny_pure ⟨plainId_quiet PySem.F.plain_extend_loop _,key _ _ _ ?_ (fun b o hb e=>?_) hS₃⟩
 · refine W.frame 0 _ _ hst fun b hb o e=>?_
   have hbS:b≠S:=fun h=>hSf (h ▸ hb)
   exact (jV _ _ (Ne.symm hbS)).trans ((jV _ _ (Ne.symm hbS)).trans e)
 · exact (jV _ _ (Ne.symm hb)).trans ((jV _ _ (Ne.symm hb)).trans e)
theorem y7B{R:Result->Shared->Prop}(K:RvSrc prog w T I d n P St)(hh:A.handled=none)(hst:St 0 s.heap)(S:Addr)(hSI:S≠I)(hSd:S≠d)(hS:s.heap.get? S=some { cls := .type "list",data := .seq #[] })(hn:n<=sizeLine)
 (hR:∀ h' tk acc' c',(∀ b o,b≠S->b≠I->s.heap.get? b=some o->h'.get? b=some o)->h'.get? S=some { cls := .type "list",dict:=none,data := .seq acc' c',slots:=#[] }->ItemsOf P acc' n->R (.ok (.ret .none)) { s with heap:=h',toks:=tk }) :
 wpAny (model prog w) A.in1 (Builtin.«list.__init__» ⟨[.ref S,.ref I],[]⟩)
  (fun fin s'=>match fin with | .done f=>R (.ok f) s' | .again c'=>c'.quiet=true/\codeAny (model prog w) A c' R s') (fun e s'=>R (.error e) s') s:=by
 show wpAny _ _ (do let old <- Builtin.List.listItems (.ref S);Builtin.List.listUpdate (.ref S) (fun _=>#[]);letGo old.toList.reverse;Builtin.List.listExtendWith (.ref S) (.ref I) .none) _ _ s
 refine wpAny_bind ?_
 unfold Builtin.List.listItems
 refine wpAny_bind (wpAny_seqItems hS rfl (wpAny_pure ?_))
 show wpAny _ _ (updateSeq S (fun _=>#[]) >>= fun _=>letGo (#[]:Array Value).toList.reverse >>= fun _=>Builtin.List.listExtendWith (.ref S) (.ref I) .none) _ _ s
 refine wpAny_bind (wpAny_updateSeq hS rfl ?_)
 have hS₂:=jY (Obj.mapSeq (fun _=>(#[]:Array Value))) hS rfl
 have oth:∀ b o,b≠S->s.heap.get? b=some o->(s.heap.update S (Obj.mapSeq (fun _=>(#[]:Array Value)))).get? b=some o :=
  fun b o hb e=>(jV _ _ (Ne.symm hb)).trans e
 refine wpAny_bind (wpAny_letGo ?_)
 refine y2S K hh ((K.walk A hh).frame 0 _ _ hst fun b hb o e=>oth b o (fun z=>?_) e) S hSI hSd .none _ hS₂ hn (fun h' tk acc' c' hk hS' hacc=>?_)
 · subst z
   rcases jH.mp hb with z | z
   · exact hSI z
   · exact hSd (jP.mp z)
 · exact hR h' tk acc' c' (fun b o hb hbI e=>hk b o hb hbI (oth b o hb e)) hS' hacc
theorem y7A{Q:Value->Shared->Prop}(K:RvSrc prog w T I d n P St)(hh:A.handled=none)(hst:St 0 s.heap)(hn:n<=sizeLine)
 (hQ:∀ h' tk acc' c',(∀ b o,b≠I->s.heap.get? b=some o->h'.get? b=some o)->h'.get? s.heap.objs.size=some { cls := .type "list",dict:=none,data := .seq acc' c',slots:=#[] }->ItemsOf P acc' n->Q (.ref s.heap.objs.size) { s with heap:=h',toks:=tk }) :
 wpAny (model prog w) A (call (.type "list") [.ref I]) Q E s:=by
 refine callType_codes (Q₁:=fun obj s₁=>obj = .ref s.heap.objs.size/\s₁={ s with heap:=s.heap.push { cls := .type "list",data := .seq #[] } }) PySem.F.called_list (PySem.F.typeCall_list_1 _) PySem.F.entry_list_init
  (code_list_new _ ⟨rfl,rfl⟩) fun obj s₁ h₁=>?_
 obtain⟨rfl,rfl⟩:=h₁
 have hS:(s.heap.push { cls := .type "list",data := .seq #[] }).get? s.heap.objs.size=some { cls := .type "list",data := .seq #[] }:=jK _ rfl
 have hlt:=K.there _ hst
 refine⟨⟨_,hS,rfl⟩,PySem.F.args_list_init_2 _ _,y7B (A:=A.in1) K hh ((K.walk A hh).frame 0 _ _ hst fun b _ o e=>jD _ e) _ (jn hlt.1) (jn hlt.2) hS hn (fun h' tk acc' c' hk hS' hacc=>?_)⟩
 exact⟨rfl,hQ h' tk acc' c' (fun b o hI e=>hk b o (jS (jG e)) hI (jD _ e)) hS' hacc⟩
theorem y7C{r:Addr}{Q:Bool->Shared->Prop}(hT:s.TypeIs (.ref r) "list_reverseiterator")(h:Q false s):wpAny (model prog w) A (Builtin.List.listLengthHint (.ref r)) Q E s:=by
 unfold Builtin.List.listLengthHint
 refine wpAny_bind (wpAny_specialOf hT y5g ?_)
 show wpAny _ A (specialOf (Value.ref r) (Str.ofString "__length_hint__") >>= _) _ _ _
 refine wpAny_bind (wpAny_specialOf hT y5h ?_)
 generalize hid:("list_reverseiterator.__length_hint__" : String)=id0
 wp_delta
 rw[show splitId id0=some ("list_reverseiterator", "__length_hint__") from by subst hid;decide +kernel]
 subst hid
 refine wpAny_bind (wpAny_isInstance (b:=true) hT (by rw[isSubtype_type];kernel_rfl) ?_)
 exact wpAny_pure h
theorem y9C(I l:Addr)(hne:l≠I)(items:Array Value):RvSrc prog w "list_reverseiterator" I l items.size (fun i v=>items[items.size - 1 - i]? = some v) (fun i h=>i<=items.size/\h.IsRevIter I l ((items.size:Int) - 1 - (i:Int))/\h.IsList l items) where
 walk:=fun A hh=>Walks.listRev hh I l hne items
 type:=fun s x=>x.2.1.typeIs
 there:=fun h x=>by
  obtain⟨_,⟨o,ho,_⟩,⟨o2,ho2,_⟩⟩:=x
  exact⟨jG ho,jG ho2⟩
 notList:=by decide
 notTuple:=by decide
 hint:=fun A E s Q _ x hq=>y7C x.2.1.typeIs (hq false s.toks)
end
section
variable {X:Cx}{e:Expr}{te:TE}{p p2 cp pos:Pos}
def y4V(K:PySem.W.Frag)(te:TE):TE:=fun σ H Q=>te σ H fun x H1=>∃ a xs,x = .ref a/\SqL K H1 a xs/\∀ l,H1 l=none->Q (.ref l) (upd H1 l (.lst xs.reverse))
theorem z9N:∀ {xs:List V}{us:List Value},Vals xs us->Vals xs.reverse us.reverse
 | _,_,.nil => .nil
 | _,_,.cons h t=>by
  rw[kY,kY]
  exact (z9N t).append (.cons h .nil)
theorem y3L{items acc:Array Value}(h:ItemsOf (fun i v=>items[items.size - 1 - i]? = some v) acc items.size):acc.toList=items.toList.reverse:=by
 refine List.ext_getElem? fun i=>?_
 by_cases hi:i < items.size
 · have hz:i < acc.size:=by rw[h.1];exact hi
   have h1:=h.2 i acc[i] (jO hz)
   rw[kB,jO hz,List.getElem?_reverse (by simpa using hi),kB,jT]
   exact h1.symm
 · rw[kJ (by rw[jT,h.1];omega),kJ (by simp;omega)]
theorem y1p(K:PySem.W.Frag)(hK:X.K=K)(hc:X.calm=true)(hg:Gl X "list")(hm:X.mg "list" = none)(hv:bootBuiltins "list" = some (.type "list"))(hg2:Gl X "reversed")(hm2:X.mg "reversed" = none)(hv2:bootBuiltins "reversed" = some (.type "reversed"))(ho:PE X e te)
 (he:starEach [e] X.env=[(false,eval e X.env)]:=by rfl):PE X (.Call (.Name "list" p) [.Call (.Name "reversed" p2) [e] [] cp] [] pos) (y4V K te):=by
 subst hK
 intro pins s σ H Q I h
 refine wpAny_Call_Name_kw (z3g I hg hm hv ?_ (by decide) (by decide))
 refine PyProof.Rows.callWith_type1 ?_ rfl rfl
 show wpAny _ _ (spliced [(false,eval (.Call (.Name "reversed" p2) [e] [] cp) X.env)]) _ _ s
 refine Calls.spliced_cons (wpAny_Call_Name_kw (z3g I hg2 hm2 hv2 ?_ (by decide) (by decide)))
 refine PyProof.Rows.callWith_type1 ?_ he rfl
 rw[he]
 show wpAny _ _ (spliced [(false,eval e X.env)]) _ _ s
 refine Calls.spliced_cons (thn (ho pins s σ H _ I h) fun v s1 ⟨x,H1,I1,r1,a,xs,ex,q1,k⟩=>?_)
 subst ex
 obtain rfl:v=Value.ref a:=r1
 refine Calls.spliced_nil ?_
 obtain⟨its,rv,pl,lz⟩:=I1.list q1
 have la:=pl.isList
 have hh:X.A.handled=none:=I1.ok.hd hc
 refine call_reversed_list la ?_
 refine Calls.spliced_nil ?_
 have ia:a≠s1.heap.objs.size:=by obtain⟨o,ho,_⟩:=la;exact jS (jG ho)
 have vl:=rv.length
 refine y7A (s:={ s1 with heap:=s1.heap.push (revObj a ((its.toArray.size:Int) - 1)) }) (y9C s1.heap.objs.size a ia its.toArray) hh ⟨jR _,⟨_,jK _ rfl,rfl,by simp[revObj]⟩,la.at fun o e=>jD _ e⟩ (by rw[jI];omega) fun h' tk acc c k1 k2 k3=>?_
 have kp:∀ b o,s1.heap.get? b=some o->h'.get? b=some o:=fun b o e=>k1 b o (jS (jG e)) (jD _ e)
 have up:s1.heap.objs.size<=(s1.heap.push (revObj a ((its.toArray.size:Int) - 1))).objs.size:=by simp[Heap.push]
 have fr:H1 (s1.heap.push (revObj a ((its.toArray.size:Int) - 1))).objs.size=none:=I1.hok.fresh up
 have ea:acc=its.reverse.toArray:=by
  have:=y3L k3
  rw[<- Array.toArray_toList (xs:=acc),this]
 refine⟨.ref _,upd H1 _ (.lst xs.reverse),I1.laid (t':=tk) kp up (show ObjOk X.prog X.w _ h' _ (.lst xs.reverse) from ⟨by rw[List.length_reverse];exact lz,its.reverse,c,z9N rv,by rw[<- ea];exact k2⟩),rfl,k _ fr⟩
end
section
theorem y1F(t:SetTable)(es:Array (Int×Value))(h:Int)(x:Value):(layNew t es h x).2.1.led=t.led/\(t.plain=false->(layNew t es h x).2.1.plain=false):=by
 unfold layNew
 split
 · rename_i slot wd _
   show ((t.put slot).1.orStandIn _).led=t.led/\(t.plain=false->((t.put slot).1.orStandIn _).plain=false)
   unfold SetTable.orStandIn
   split
   · exact⟨rfl,fun z=>z⟩
   · exact⟨rfl,fun _=>rfl⟩
 · exact⟨rfl,fun _=>rfl⟩
theorem z8a(t:SetTable)(es:Array (Int×Value))(n:Nat):(relayAll t es n).2.1.led=t.led/\(t.plain=false->(relayAll t es n).2.1.plain=false):=by
 unfold relayAll
 split
 · rename_i t' order e
   have:t'.led=t.led/\t'.plain=t.plain:=by
    unfold SetTable.relaid SetTable.laid at e
    simp only[bind,Option.bind,pure]at e
    split at e
    · cases e
    · cases e;exact⟨rfl,rfl⟩
   dsimp only
   split
   · exact⟨this.1,fun z=>this.2.trans z⟩
   · exact⟨rfl,fun _=>rfl⟩
 · exact⟨rfl,fun _=>rfl⟩
end
section
variable {prog:Program}{w:World}{A:Around}{E:Value->Shared->Prop}{s:Shared}
theorem prm{α β:Type}{F:α->β->Prop}{m m':List β}(h:m'.Perm m):∀ {l:List α},Paired F l m->∃ l',l'.Perm l/\Paired F l' m':=by
 induction h with
 | nil=>intro l t;exact⟨l,.refl _,t⟩
 | cons x _ ih =>
  intro l t
  cases t with
  | cons g t =>
   obtain⟨l',h1,h2⟩:=ih t
   exact⟨_ :: l',h1.cons _,.cons g h2⟩
 | swap x y _ =>
  intro l t
  cases t with
  | cons g t =>
   cases t with
   | cons g2 t=>exact⟨_,.swap _ _ _,.cons g2 (.cons g t)⟩
 | trans _ _ ih1 ih2 =>
  intro l t
  obtain⟨l1,h1,t1⟩:=ih2 t
  obtain⟨l2,h2,t2⟩:=ih1 t1
  exact⟨l2,h2.trans h1,t2⟩
theorem prs{α β:Type}{F:α->β->Prop}{x:α}{y:β}(h:F x y):∀ {l:List α}{m:List β},Paired F l m->Paired F (l ++ [x]) (m ++ [y])
 | _,_,.nil => .cons h .nil
 | _,_,.cons g t => .cons g (prs h t)
theorem y6y{h:Heap}{a:Addr}{o:Obj}{es:Array (Int×Value)}{ep:Nat}{t:SetTable}(ho:h.get? a=some o)(hd:o.data = .set es ep t)(es':Array (Int×Value))(t':SetTable) :
 (h.update a (Obj.putSet es' t')).get? a=some { o with data := .set es' (ep + 1) t' }:=by
 have:=jY (Obj.putSet es' t') ho (by rw[putSet_of es' t' hd];rfl)
 rwa [putSet_of es' t' hd]at this
end
section
variable {prog:Program}{w:World}{A:Around}{E:Value->Shared->Prop}{s:Shared}
abbrev z5n(w:World):Bool:=w.params.followText "set-order"
def y7z(w:World):Obj:={ cls := .type "set",dict:=none,data := .set #[] 0 (.fresh 0 0 (!z5n w)) }
theorem y9t(a:Value){Q₁:Value->Shared->Prop}(h:Q₁ (.ref s.heap.objs.size) { s with heap:=s.heap.push (y7z w) }) :
 codeAny (model prog w) A (.call (.builtin "set.__new__") ⟨[.type "set",a],[]⟩) (wants Q₁ E) s:=by
 refine codeAny_of_tree ?_
 show wpAny _ A.in1 (do checkBuiltinCall "set.__new__" ⟨[.type "set",a],[]⟩;again (.builtin "set.__new__" ⟨[.type "set",a],[]⟩)) _ _ s
 refine wpAny_bind (wpAny_of_eq (PySem.F.newCall_set_1 a) (wpAny_pure ⟨plainId_quiet PySem.F.plain_set_new _,codeAny_builtin PySem.F.entry_set_new ?_⟩))
 rw[Around.under_plainId PySem.F.plain_set_new _]
 unfold Builtin.«set.__new__» Builtin.Frozenset.newClass
 have hsub:=sub_set_self
 obtain⟨hp,g,d,tk,os⟩:=s
 dsimp only
 wp_walk
 refine wpAny_askSetting (wpAny_pure ?_)
 dsimp only
 simp only[newObj]
 refine wpAny_bind (wpAny_alloc (wpAny_pure ?_))
 exact wpAny_pure h
structure SqS (prog:Program) (w:World) (T:String) (l:Addr) (n:Nat) (P:Nat->Value->Prop) (OK:Heap->Prop):Prop where
 type:∀ s:Shared,OK s.heap->s.TypeIs (.ref l) T
 there:∀ h:Heap,OK h->l < h.objs.size
 keep:∀ h h':Heap,OK h->(∀ o,h.get? l=some o->h'.get? l=some o)->OK h'
 noSet:isSubtype (.type T) (.type "set")=pure false
 noFrz:isSubtype (.type T) (.type "frozenset")=pure false
 noDict:(Value.type T == Value.type "dict")=false
 iter:∀ (s:Shared),OK s.heap->∃ (oI:Obj) (St:Nat->Heap->Prop),(∀ (A:Around) (E:Value->Shared->Prop) (Q:Value->Shared->Prop),Q (.ref s.heap.objs.size) { s with heap:=s.heap.push oI }->wpAny (model prog w) A (pyIter (.ref l)) Q E s) /\
  (∀ A:Around,A.handled=none->Walks prog w A s.heap.objs.size [s.heap.objs.size,l] [s.heap.objs.size] n P St)/\St 0 (s.heap.push oI)
theorem y4Y(l:Addr)(items:Array Value):SqS prog w "list" l items.size (fun i v=>items[i]? = some v) (fun h=>h.IsList l items) where
 type:=fun s x=>x.typeIs
 there:=fun h ⟨o,ho,_⟩=>jG ho
 keep:=fun h h' x k=>x.at k
 noSet:=PySem.F.sub_list_set
 noFrz:=PySem.F.sub_list_frozenset
 noDict:=by decide
 iter:=fun s x=>⟨_,_,(fun _ _ _ hq=>wpAny_pyIter_list x hq),fun A hh=>Walks.list hh _ l (by obtain⟨o,ho,_⟩:=x;exact jS (jG ho)) items,⟨⟨_,jK _ rfl,rfl,rfl⟩,x.at fun o e=>jD _ e⟩⟩
end
theorem z9X:Manifest.owners.lookup (String.ofList ['r','o','t','a','r','e','t','i','_','t','e','s'].reverse)=some Manifest.sig_set_iterator:=by kernel_rfl
theorem z0H:Slot "set_iterator" "__next__" "set_iterator.__next__" :=
 .of (owner := "set_iterator") (n := "__next__") (by rw[typeLookup_type,builtinLookup_eq_fast];kernel_rfl) (by decide +kernel) (by decide +kernel) (by decide +kernel)
  (by first | exact .inl (by decide +kernel) | exact .inr (by decide +kernel)) (by rw[isSubtype_type];kernel_rfl)
theorem z1K:entryFor table "set_iterator.__next__" = some Builtin.«set_iterator.__next__»:=entryFor_of_tree (by kernel_rfl)
theorem z2j(a:Value):argsOk "set_iterator.__next__" ⟨[a],[]⟩:=by
 unfold argsOk;rw[signature?_of (id := "set_iterator.__next__") (n:=['_','_','t','x','e','n','_','_']) (o:=['r','o','t','a','r','e','t','i','_','t','e','s']) (by kernel_rfl) z9X];kernel_rfl
theorem z4P:Slot "set_iterator" "__iter__" "set_iterator.__iter__" :=
 .of (owner := "set_iterator") (n := "__iter__") (by rw[typeLookup_type,builtinLookup_eq_fast];kernel_rfl) (by decide +kernel) (by decide +kernel) (by decide +kernel)
  (by first | exact .inl (by decide +kernel) | exact .inr (by decide +kernel)) (by rw[isSubtype_type];kernel_rfl)
theorem z7W(a:Value):argsOk "set_iterator.__iter__" ⟨[a],[]⟩:=by
 unfold argsOk;rw[signature?_of (id := "set_iterator.__iter__") (n:=['_','_','r','e','t','i','_','_']) (o:=['r','o','t','a','r','e','t','i','_','t','e','s']) (by kernel_rfl) z9X];kernel_rfl
theorem z6R:entryFor table "set_iterator.__iter__" = some Builtin.«dict_keyiterator.__iter__» :=
 entryFor_alias (id' := "dict_keyiterator.__iter__") (by kernel_rfl) (by first | rfl | decide +kernel | (unfold String.splitOn;simp +decide [String.splitOnAux])) (by decide +kernel) (by kernel_rfl)
theorem z6V:entryFor table "set.__iter__" = some Builtin.«frozenset.__iter__» :=
 entryFor_alias (id' := "frozenset.__iter__") (by kernel_rfl) (by first | rfl | decide +kernel | (unfold String.splitOn;simp +decide [String.splitOnAux])) (by decide +kernel) (by kernel_rfl)
section
variable {prog:Program}{w:World}{A:Around}{E:Value->Shared->Prop}{s:Shared}
theorem z4G{α:Type}:∀ (l:List α) (i:Nat) (h:i < l.length),(l[i] :: l.eraseIdx i).Perm l
 | x :: l,0,_ => .refl _
 | x :: l,i + 1,h=>by
  have h':i < l.length:=by simpa using h
  show (l[i]'h' :: x :: l.eraseIdx i).Perm (x :: l)
  exact (List.Perm.swap _ _ _).trans ((z4G l i h').cons x)
theorem y1f{src:Source}{n:Nat}{Q:Nat->Shared->Prop}(hn:n≠0)(h:∀ i,i < n->Q i { s with drawn:=s.drawn.bump src }):wpAny (model prog w) A (choose src n) Q E s:=fun Γ p hΓ=>by
 unfold choose
 rw[Sem.wp_choose]
 exact⟨hn,h _ (Nat.mod_lt _ (Nat.pos_of_ne_zero hn))⟩
theorem z5r{α:Type}:∀ (n:Nat) (xs:List α) (s:Shared) (Q:List α->Shared->Prop),xs.length=n->(∀ ys d,ys.Perm xs->Q ys { s with drawn:=d })->wpAny (model prog w) A (drawOrder n xs) Q E s
 | 0,xs,s,Q,hl,h=>by
  have:xs=[]:=jk.mp hl
  subst this
  exact wpAny_pure (h [] s.drawn (.refl _))
 | n + 1,[],s,Q,hl,h=>by simp at hl
 | n + 1,x :: xs,s,Q,hl,h=>by
  show wpAny _ _ (choose .order (x :: xs).length >>= _) _ _ _
  refine wpAny_bind (y1f (by simp) fun i hi=>?_)
  rw[jB hi]
  dsimp only
  refine wpAny_bind (z5r n ((x :: xs).eraseIdx i) _ _ (by rw[List.length_eraseIdx_of_lt hi,hl];rfl) fun ys d p=>wpAny_pure (h _ d ?_))
  exact (p.cons _).trans (z4G _ _ hi)
theorem y3X{α:Type}(next:Nat->Nat):∀ (f k:Nat) (left:List α) (out:Array α),left.length=f->(pickOrder.go next f k left out).toList.Perm (out.toList ++ left)
 | 0,k,left,out,hl=>by
  have:left=[]:=jk.mp hl
  subst this
  simp[pickOrder.go]
 | f + 1,k,left,out,hl=>by
  have hi:next k % left.length < left.length:=Nat.mod_lt _ (by omega)
  unfold pickOrder.go
  rw[jB hi]
  dsimp only
  refine (y3X next f (k + 1) _ _ (by rw[List.length_eraseIdx_of_lt hi];omega)).trans ?_
  rw[Array.toList_push,List.append_assoc]
  exact List.Perm.append_left _ (z4G _ _ hi)
theorem z8f{α:Type}(next:Nat->Nat)(xs:Array α):(pickOrder next xs).toList.Perm xs.toList:=by
 have:=y3X next xs.size 0 xs.toList #[] (by simp)
 simpa [pickOrder] using this
def IsSi(h:Heap)(I:Addr)(f:Value)(i:Nat)(S:Addr)(n ep:Nat):Prop:=∃ o,h.get? I=some o/\o.cls = .type "set_iterator" /\ o.data = .fields #[f,rawInt i,.ref S,rawInt n,rawInt ep]
theorem IsSi.typeIs{I S:Addr}{f:Value}{i n ep:Nat}(x:IsSi s.heap I f i S n ep):s.TypeIs (.ref I) "set_iterator" := let ⟨o,ho,hc,_⟩:=x;⟨o,ho,hc⟩
theorem IsSi.at{h h':Heap}{I S:Addr}{f:Value}{i n ep:Nat}(x:IsSi h I f i S n ep)(e:∀ o,h.get? I=some o->h'.get? I=some o):IsSi h' I f i S n ep:=let ⟨o,ho,r⟩:=x;⟨o,e _ ho,r⟩
def SeAt(h:Heap)(S:Addr)(es:Array (Int×Value))(ep:Nat)(t:SetTable):Prop:=∃ o,h.get? S=some o/\o.data = .set es ep t
theorem SeAt.at{h h':Heap}{S:Addr}{es:Array (Int×Value)}{ep:Nat}{t:SetTable}(x:SeAt h S es ep t)(e:∀ o,h.get? S=some o->h'.get? S=some o):SeAt h' S es ep t:=let ⟨o,ho,r⟩:=x;⟨o,e _ ho,r⟩
theorem y7w{I S P:Addr}{es:Array (Int×Value)}{ep:Nat}{t:SetTable}{i:Nat}{places:Array Value}{p:Nat}{tk:Tok}{x:Int×Value}{Q:Option Value->Shared->Prop}(hit:IsSi s.heap I (.ref P) i S es.size ep)(hS:SeAt s.heap S es ep t)(hf:t.fits es.size=true)(hP:s.heap.IsTuple P places)(hp:places[i]? = some (.int p tk))(hx:es[p]? = some x)
 (hQ:∀ h',IsSi h' I (.ref P) (i + 1) S es.size ep->Heap.SameBut I s.heap h'->Q (some x.2) { s with heap:=h' }):wpAny (model prog w) A (pyNext (.ref I)) Q E s:=by
 obtain⟨o,ho,hc,hd⟩:=id hit
 obtain⟨oS,hoS,hdS⟩:=hS
 obtain⟨oP,hoP,hcP,nP,hdP⟩:=id hP
 unfold pyNext
 refine wpAny_bind (wpAny_attempt (wpAny_callSpecial?_slot (name:=Str.ofString "__next__") hit.typeIs z0H (wpAny_call_entry z0H hit.typeIs z1K ?_ (z2j _))))
 unfold Builtin.«set_iterator.__next__»
 refine wpAny_bind (wpAny_of_eq (a:=(Value.ref I,[])) rfl ?_)
 try dsimp only
 refine wpAny_bind (wpAny_fieldsOf ho hd ?_)
 try dsimp only
 show wpAny _ _ (setEntries S >>= _) _ _ s
 refine wpAny_bind (wpAny_setEntries_of hoS hdS hf ?_)
 refine wpAny_ite_split (fun z=>absurd z (by simp)) (fun _=>?_)
 show wpAny _ _ (seqItems? (.ref P) >>= _) _ _ s
 refine wpAny_bind (wpAny_seqItems hoP hdP ?_)
 simp only[jm,hp]
 refine wpAny_bind ?_
 unfold setNextDrawn
 refine wpAny_bind (wpAny_setState_of hoS hdS hf ?_)
 dsimp only
 rw[if_neg (by simp)]
 rw[hx]
 refine wpAny_pure ?_
 refine wpAny_bind (wpAny_setField ho hd (by simp) ?_)
 refine wpAny_pure ⟨x.2,rfl,wpAny_pure (hQ _ ?_ (Heap.SameBut.update ..))⟩
 exact⟨_,jY _ ho (Obj.isFreed_of_fields (Obj.data_mapFields hd _)),(Obj.cls_mapFields ..).trans hc,by rw[Obj.data_mapFields hd];simp[rawInt]⟩
theorem z7P{α:Type}{R:α->Shared->Prop}{Q:Option Value->Shared->Prop}(hh:A.handled=none)(hQ:∀ h',(∀ b o,s.heap.get? b=some o->h'.get? b=some o)->Q none { s with heap:=h' }) :
 wpAny (model prog w) A.in1 (newExc (.type "StopIteration") [] >>= fun e=>(raiseNew e:Sem α)) R (fun e s'=>wpAny (model prog w) A (do if <- isInstance e (.type "StopIteration") then pure none else throw e) Q E s') s:=by
 refine wpAny_bind ?_
 unfold newExc newTuple
 refine wpAny_bind (wpAny_newObj_type (wpAny_bind (m:=firstArgMember _ _) (wpAny_of_eq (a:=Value.none) (by first | rfl | (unfold firstArgMember;rfl)) (wpAny_newObj_type ?_ (by size_fits)))) (by size_fits))
 unfold raiseNew
 refine wpAny_bind (wpAny_handled ?_)
 rw[show A.in1.handled=none from hh]
 refine wpAny_bind (wpAny_pure (wpAny_throw ?_))
 refine wpAny_bind (wpAny_isInstance (b:=true) (T := "StopIteration") ⟨_,jK _ rfl,rfl⟩ isSubtype_stop (wpAny_pure ?_))
 exact hQ _ fun b o e=>jD _ (jD _ e)
theorem y9x{I S P:Addr}{es:Array (Int×Value)}{ep:Nat}{t:SetTable}{i:Nat}{places:Array Value}{Q:Option Value->Shared->Prop}(hh:A.handled=none)(hit:IsSi s.heap I (.ref P) i S es.size ep)(hS:SeAt s.heap S es ep t)(hf:t.fits es.size=true)(hP:s.heap.IsTuple P places)(hp:places[i]? = none)
 (hQ:∀ h',(∀ b o,b≠I->s.heap.get? b=some o->h'.get? b=some o)->Q none { s with heap:=h' }):wpAny (model prog w) A (pyNext (.ref I)) Q E s:=by
 obtain⟨o,ho,hc,hd⟩:=id hit
 obtain⟨oS,hoS,hdS⟩:=hS
 obtain⟨oP,hoP,hcP,nP,hdP⟩:=id hP
 unfold pyNext
 refine wpAny_bind (wpAny_attempt (wpAny_callSpecial?_slot (name:=Str.ofString "__next__") hit.typeIs z0H (wpAny_call_entry z0H hit.typeIs z1K ?_ (z2j _))))
 unfold Builtin.«set_iterator.__next__»
 refine wpAny_bind (wpAny_of_eq (a:=(Value.ref I,[])) rfl ?_)
 try dsimp only
 refine wpAny_bind (wpAny_fieldsOf ho hd ?_)
 show wpAny _ _ (setEntries S >>= _) _ _ s
 refine wpAny_bind (wpAny_setEntries_of hoS hdS hf ?_)
 refine wpAny_ite_split (fun z=>absurd z (by simp)) (fun _=>?_)
 show wpAny _ _ (seqItems? (.ref P) >>= _) _ _ s
 refine wpAny_bind (wpAny_seqItems hoP hdP ?_)
 simp only[jm,hp]
 refine wpAny_bind (wpAny_setField ho hd (by simp) ?_)
 have ho2:=jY (Obj.mapFields (·.setIfInBounds 0 (rawInt 0))) ho (Obj.isFreed_of_fields (Obj.data_mapFields hd _))
 have hd2:=Obj.data_mapFields (o:=o) hd (·.setIfInBounds 0 (rawInt 0))
 have hx2:∀ b o',b≠I->s.heap.get? b=some o'->(s.heap.update I (Obj.mapFields (·.setIfInBounds 0 (rawInt 0)))).get? b=some o':=fun b o' hb e=>(Heap.SameBut.update ..).extBut b o' hb e
 generalize s.heap.update I (Obj.mapFields (·.setIfInBounds 0 (rawInt 0)))=g2 at ho2 hx2 ⊢
 generalize Obj.mapFields (·.setIfInBounds 0 (rawInt 0)) o=o2 at ho2 hd2
 refine wpAny_bind (wpAny_setField (s:={ s with heap:=g2 }) ho2 hd2 (by simp) ?_)
 refine z7P hh fun h' k=>hQ h' fun b o' hb e=>k b o' ((Heap.SameBut.update ..).extBut b o' hb (hx2 b o' hb e))
theorem z6Q{I S:Addr}{es:Array (Int×Value)}{ep slot nx:Nat}{t:SetTable}{i:Nat}{x:Value}{Q:Option Value->Shared->Prop}(hit:IsSi s.heap I (rawInt slot) i S es.size ep)(hS:SeAt s.heap S es ep t)(hf:t.fits es.size=true)
 (hn:∀ (A:Around) (E:Value->Shared->Prop) (Q':Option (Value×Nat)->Shared->Prop),Q' (some (x,nx)) s->wpAny (model prog w) A (setNext S slot i ep) Q' E s)
 (hQ:∀ h',IsSi h' I (rawInt nx) (i + 1) S es.size ep->Heap.SameBut I s.heap h'->Q (some x) { s with heap:=h' }):wpAny (model prog w) A (pyNext (.ref I)) Q E s:=by
 obtain⟨o,ho,hc,hd⟩:=id hit
 obtain⟨oS,hoS,hdS⟩:=hS
 unfold pyNext
 refine wpAny_bind (wpAny_attempt (wpAny_callSpecial?_slot (name:=Str.ofString "__next__") hit.typeIs z0H (wpAny_call_entry z0H hit.typeIs z1K ?_ (z2j _))))
 unfold Builtin.«set_iterator.__next__»
 refine wpAny_bind (wpAny_of_eq (a:=(Value.ref I,[])) rfl ?_)
 try dsimp only
 refine wpAny_bind (wpAny_fieldsOf ho hd ?_)
 show wpAny _ _ (setEntries S >>= _) _ _ s
 refine wpAny_bind (wpAny_setEntries_of hoS hdS hf ?_)
 refine wpAny_ite_split (fun z=>absurd z (by simp)) (fun _=>?_)
 show wpAny _ _ (setNext S (slot:Int).toNat (i:Int).toNat (ep:Int).toNat >>= _) _ _ s
 rw[jm,jm,jm]
 refine wpAny_bind (hn _ _ _ ?_)
 dsimp only
 refine wpAny_bind (wpAny_setField ho hd (by simp) ?_)
 have ho2:=jY (Obj.mapFields (·.setIfInBounds 0 (rawInt nx))) ho (Obj.isFreed_of_fields (Obj.data_mapFields hd _))
 have hd2:=Obj.data_mapFields (o:=o) hd (·.setIfInBounds 0 (rawInt nx))
 have hc2:(Obj.mapFields (·.setIfInBounds 0 (rawInt nx)) o).cls = .type "set_iterator" := (Obj.cls_mapFields ..).trans hc
 have sb:=Heap.SameBut.update s.heap I (Obj.mapFields (·.setIfInBounds 0 (rawInt nx)))
 generalize s.heap.update I (Obj.mapFields (·.setIfInBounds 0 (rawInt nx)))=g2 at ho2 sb ⊢
 generalize Obj.mapFields (·.setIfInBounds 0 (rawInt nx)) o=o2 at ho2 hd2 hc2
 refine wpAny_bind (wpAny_setField (s:={ s with heap:=g2 }) ho2 hd2 (by simp) ?_)
 refine wpAny_pure ⟨x,rfl,wpAny_pure (hQ _ ?_ (sb.trans (Heap.SameBut.update ..)))⟩
 exact⟨_,jY _ ho2 (Obj.isFreed_of_fields (Obj.data_mapFields hd2 _)),(Obj.cls_mapFields ..).trans hc2,by rw[Obj.data_mapFields hd2];simp[rawInt]⟩
theorem z6S{I S:Addr}{es:Array (Int×Value)}{ep slot:Nat}{t:SetTable}{i:Nat}{Q:Option Value->Shared->Prop}(hh:A.handled=none)(hit:IsSi s.heap I (rawInt slot) i S es.size ep)(hS:SeAt s.heap S es ep t)(hf:t.fits es.size=true)
 (hn:∀ (A:Around) (E:Value->Shared->Prop) (Q':Option (Value×Nat)->Shared->Prop),Q' none s->wpAny (model prog w) A (setNext S slot i ep) Q' E s)
 (hQ:∀ h',(∀ b o,b≠I->s.heap.get? b=some o->h'.get? b=some o)->Q none { s with heap:=h' }):wpAny (model prog w) A (pyNext (.ref I)) Q E s:=by
 obtain⟨o,ho,hc,hd⟩:=id hit
 obtain⟨oS,hoS,hdS⟩:=hS
 unfold pyNext
 refine wpAny_bind (wpAny_attempt (wpAny_callSpecial?_slot (name:=Str.ofString "__next__") hit.typeIs z0H (wpAny_call_entry z0H hit.typeIs z1K ?_ (z2j _))))
 unfold Builtin.«set_iterator.__next__»
 refine wpAny_bind (wpAny_of_eq (a:=(Value.ref I,[])) rfl ?_)
 try dsimp only
 refine wpAny_bind (wpAny_fieldsOf ho hd ?_)
 show wpAny _ _ (setEntries S >>= _) _ _ s
 refine wpAny_bind (wpAny_setEntries_of hoS hdS hf ?_)
 refine wpAny_ite_split (fun z=>absurd z (by simp)) (fun _=>?_)
 show wpAny _ _ (setNext S (slot:Int).toNat (i:Int).toNat (ep:Int).toNat >>= _) _ _ s
 rw[jm,jm,jm]
 refine wpAny_bind (hn _ _ _ ?_)
 dsimp only
 refine wpAny_bind (wpAny_setField ho hd (by simp) ?_)
 refine z7P hh fun h' k=>hQ h' fun b o' hb e=>k b o' ((Heap.SameBut.update ..).extBut b o' hb e)
theorem y2J{S:Addr}{es:Array (Int×Value)}{ep slot i:Nat}{t:SetTable}{Q:Option (Value×Nat)->Shared->Prop}(hS:SeAt s.heap S es ep t)(hf:t.fits es.size=true)(hb:z5n w=true)
 (h:Q (((pickOrder (w.params.setOrder S ep) es)[i]?).map fun e=>(e.2,slot)) s):wpAny (model prog w) A (setNext S slot i ep) Q E s:=by
 obtain⟨oS,hoS,hdS⟩:=hS
 unfold setNext
 refine wpAny_bind (wpAny_setState_of hoS hdS hf ?_)
 dsimp only
 unfold setsByText
 refine wpAny_bind (wpAny_bind (wpAny_askSetting (wpAny_pure ?_)))
 show wpAny _ _ (if z5n w=true then _ else _) _ _ _
 rw[if_pos hb,if_neg (by simp)]
 unfold setWalk
 refine wpAny_bind (wpAny_bind (wpAny_setState_of hoS hdS hf ?_))
 dsimp only
 unfold setsByText
 refine wpAny_bind (wpAny_bind (wpAny_askSetting (wpAny_pure ?_)))
 show wpAny _ _ (if z5n w=true then _ else _) _ _ _
 rw[if_pos hb]
 refine wpAny_bind (wpAny_askSetting (wpAny_pure ?_))
 exact wpAny_pure h
theorem y2L{S:Addr}{es:Array (Int×Value)}{ep slot i:Nat}{t:SetTable}{Q:Option (Value×Nat)->Shared->Prop}(hS:SeAt s.heap S es ep t)(hf:t.fits es.size=true)(hb:z5n w=false)(few:es.size<=1)(led:t.led=true)
 (h:Q (match es[SetTable.below t.place slot]?,t.place[SetTable.below t.place slot]? with | some (_,x),some j=>some (x,j + 1) | _,_=>none) s):wpAny (model prog w) A (setNext S slot i ep) Q E s:=by
 obtain⟨oS,hoS,hdS⟩:=hS
 unfold setNext
 refine wpAny_bind (wpAny_setState_of hoS hdS hf ?_)
 dsimp only
 unfold setsByText
 refine wpAny_bind (wpAny_bind (wpAny_askSetting (wpAny_pure ?_)))
 show wpAny _ _ (if z5n w=true then _ else _) _ _ _
 rw[if_neg (by rw[hb];decide)]
 refine wpAny_ite_split (fun z=>absurd z ?_) (fun _=>?_)
 · show ¬ ((!t.plain && decide (es.size > 1))=true)
   rw[decide_eq_false (by omega),Bool.and_false]
   decide
 refine wpAny_bind ?_
 wp_delta
 refine wpAny_ite_split (fun z=>absurd z (by rw[led];simp)) (fun _=>?_)
 exact wpAny_pure (wpAny_pure h)
theorem y1R(j:Nat):SetTable.below #[j] 0=0:=by
 unfold SetTable.below
 show SetTable.below.go #[j] 0 1 0 1=0
 unfold SetTable.below.go
 rw[if_pos (by decide)]
 show (if (#[j]:Array Nat).getD 0 0 < 0 then _ else _)=0
 rw[if_neg (kL _)]
 rfl
theorem y1Q(j:Nat):SetTable.below #[j] (j + 1)=1:=by
 unfold SetTable.below
 show SetTable.below.go #[j] (j + 1) 1 0 1=1
 unfold SetTable.below.go
 rw[if_pos (by decide)]
 show (if (#[j]:Array Nat).getD 0 (j + 1) < j + 1 then _ else _)=1
 rw[if_pos (show (#[j]:Array Nat).getD 0 (j + 1) < j + 1 from Nat.lt_succ_self j)]
 rfl
theorem y6F{a:Array Nat}(h:a.size=1):∃ j,a=#[j]:=by
 obtain⟨l⟩:=a
 match l,h with
 | [j],_=>exact⟨j,rfl⟩
def z6C(prog:Program)(w:World)(S I lo:Addr)(vs:List Value)(h1:Heap):Prop:=∃ (P:Addr) (St:Nat->Heap->Prop),(P=S\/lo<=P)/\(∀ A:Around,A.handled=none->Walks prog w A I [I,S,P] [I] vs.length (fun i v=>vs[i]? = some v) St)/\St 0 h1
theorem z6P{I S:Addr}{f:Value}{i n ep:Nat}{Q:Value->Shared->Prop}(hit:IsSi s.heap I f i S n ep)(hQ:Q (.ref I) s):wpAny (model prog w) A (pyIter (.ref I)) Q E s:=by
 refine wpAny_pyIter_slot hit.typeIs z4P (wpAny_call_entry z4P hit.typeIs z6R ?_ (z7W _))
 show wpAny _ _ (ret (.ref I)) _ _ s
 exact wpAny_pure ⟨_,rfl, "set_iterator",_,hit.typeIs,z0H.lookup,hQ⟩
theorem y2k{I S lo:Addr}(hne:S≠I){es:Array (Int×Value)}{ep:Nat}{t:SetTable}(hf:t.fits es.size=true)(hb:z5n w=true){h1:Heap}(st:IsSi h1 I (rawInt 0) 0 S es.size ep)(hS:SeAt h1 S es ep t) :
 z6C prog w S I lo ((pickOrder (w.params.setOrder S ep) es).toList.map (·.2)) h1:=by
 have pz:(pickOrder (w.params.setOrder S ep) es).size=es.size:=by
  have:=(z8f (w.params.setOrder S ep) es).length_eq
  simpa using this
 refine⟨S,fun i h=>i<=es.size/\IsSi h I (rawInt 0) i S es.size ep/\SeAt h S es ep t,.inl rfl,fun A hh=>?_,jR _,st,hS⟩
 refine { sub:=fun b hb=>by simp at hb;simp[hb],frame:=fun _ _ _ x hk=>⟨x.1,x.2.1.at fun o e=>hk I (by simp) o e,x.2.2.at fun o e=>hk S (by simp) o e⟩,item:=fun i s Q E hi x hQ=>?_,done:=fun s Q E x hQ=>?_,self:=fun i s Q E x hQ=>z6P x.2.1 hQ }
 · rw[jA,jT,pz]at hi
   have hi':i < (pickOrder (w.params.setOrder S ep) es).size:=by omega
   refine z6Q (x:=(pickOrder (w.params.setOrder S ep) es)[i].2) (nx:=0) x.2.1 x.2.2 hf (fun A' E' Q' hq=>y2J x.2.2 hf hb (by rw[jO hi'];exact hq)) fun h' it' sb=>?_
   refine hQ _ h' s.toks ?_ ⟨hi,it',x.2.2.at fun o e=>(sb.2 S hne).trans e⟩ fun b o hb e=>sb.extBut b o (fun z=>hb (by simp[z])) e
   rw[jC,kB,jO hi'];rfl
 · rw[jA,jT,pz]at x
   exact z6S hh x.2.1 x.2.2 hf (fun A' E' Q' hq=>y2J x.2.2 hf hb (by rw[j8 (by omega)];exact hq)) fun h' k=>hQ h' s.toks fun b o hb e=>k b o (fun z=>hb (by simp[z])) e
theorem z9L{I S lo:Addr}(hne:S≠I){es:Array (Int×Value)}{ep:Nat}{t:SetTable}(hf:t.fits es.size=true)(hb:z5n w=false)(few:es.size<=1)(led:t.led=true){h1:Heap}(st:IsSi h1 I (rawInt 0) 0 S es.size ep)(hS:SeAt h1 S es ep t) :
 z6C prog w S I lo (es.toList.map (·.2)) h1:=by
 have pz:t.place.size=es.size:=by
  unfold SetTable.fits at hf
  rw[jz]at hf
  simpa using hf.1
 refine⟨S,fun i h=>i<=es.size/\IsSi h I (rawInt ((if i=0 then 0 else t.place.getD 0 0 + 1:Nat):Int)) i S es.size ep/\SeAt h S es ep t,.inl rfl,fun A hh=>?_,jR _,st,hS⟩
 refine { sub:=fun b hb=>by simp at hb;simp[hb],frame:=fun _ _ _ x hk=>⟨x.1,x.2.1.at fun o e=>hk I (by simp) o e,x.2.2.at fun o e=>hk S (by simp) o e⟩,item:=fun i s Q E hi x hQ=>?_,done:=fun s Q E x hQ=>?_,self:=fun i s Q E x hQ=>z6P x.2.1 hQ }
 · rw[jA,jT]at hi
   have i0:i=0:=by omega
   subst i0
   obtain⟨j,ej⟩:∃ j,t.place=#[j]:=by
    have:t.place.size=1:=by omega
    exact y6F this
   obtain⟨x0,ex⟩:∃ x0,es[0]? = some x0:=⟨es[0],jO (by omega)⟩
   refine z6Q (slot:=0) (x:=x0.2) (nx:=j + 1) x.2.1 x.2.2 hf (fun A' E' Q' hq=>y2L x.2.2 hf hb few led (by rw[ej,y1R,ex];exact hq)) fun h' it' sb=>?_
   refine hQ _ h' s.toks ?_ ⟨hi,by rw[ej];exact it',x.2.2.at fun o e=>(sb.2 S hne).trans e⟩ fun b o hb e=>sb.extBut b o (fun z=>hb (by simp[z])) e
   rw[jC,kB,ex];rfl
 · rw[jA,jT]at x
   by_cases z:es.size=0
   · have e0:es[SetTable.below t.place 0]? = none:=j8 (by omega)
     have x2:=x.2.1
     rw[if_pos z]at x2
     exact z6S (slot:=0) hh x2 x.2.2 hf (fun A' E' Q' hq=>y2L x.2.2 hf hb few led (by rw[e0];exact hq)) fun h' k=>hQ h' s.toks fun b o hb e=>k b o (fun z=>hb (by simp[z])) e
   · obtain⟨j,ej⟩:∃ j,t.place=#[j]:=by
      have:t.place.size=1:=by omega
      exact y6F this
     have x2:=x.2.1
     rw[if_neg z,ej]at x2
     have e0:es[(1:Nat)]? = none:=j8 (by omega)
     exact z6S (slot:=j + 1) hh x2 x.2.2 hf (fun A' E' Q' hq=>y2L x.2.2 hf hb few led (by rw[ej,y1Q,e0];exact hq)) fun h' k=>hQ h' s.toks fun b o hb e=>k b o (fun z=>hb (by simp[z])) e
theorem y1g{I S P lo:Addr}(hne:S≠I)(hPI:P≠I)(hlo:lo<=P){es:Array (Int×Value)}{ep:Nat}{t:SetTable}(hf:t.fits es.size=true){h1:Heap}{ps:List Nat}(pp:ps.Perm (List.range es.size))(hP:h1.IsTuple P (ps.map fun (i:Nat)=>rawInt (i:Int)).toArray)(st:IsSi h1 I (.ref P) 0 S es.size ep)(hS:SeAt h1 S es ep t) :
 z6C prog w S I lo (ps.map fun i=>(es.getD i (0,.none)).2) h1:=by
 have pl:ps.length=es.size:=by rw[pp.length_eq,kQ]
 refine⟨P,fun i h=>i<=es.size/\IsSi h I (.ref P) i S es.size ep/\SeAt h S es ep t/\h.IsTuple P (ps.map fun (i:Nat)=>rawInt (i:Int)).toArray,.inr hlo,fun A hh=>?_,jR _,st,hS,hP⟩
 refine { sub:=fun b hb=>by simp at hb;simp[hb],frame:=fun _ _ _ x hk=>⟨x.1,x.2.1.at fun o e=>hk I (by simp) o e,x.2.2.1.at fun o e=>hk S (by simp) o e,x.2.2.2.at fun o e=>hk P (by simp) o e⟩,item:=fun i s Q E hi x hQ=>?_,done:=fun s Q E x hQ=>?_,self:=fun i s Q E x hQ=>z6P x.2.1 hQ }
 · rw[jA,pl]at hi
   have hi':i < ps.length:=by omega
   have pin:ps[i] < es.size:=List.mem_range.mp (pp.mem_iff.mp (jZ hi'))
   refine y7w (p:=ps[i]) (tk:=0) (x:=es[ps[i]]) x.2.1 x.2.2.1 hf x.2.2.2 ?_ (jO pin) fun h' it' sb=>?_
   · rw[kW,jC,jB hi'];rfl
   · refine hQ _ h' s.toks ?_ ⟨hi,it',x.2.2.1.at fun o e=>(sb.2 S hne).trans e,x.2.2.2.at fun o e=>(sb.2 P hPI).trans e⟩ fun b o hb e=>sb.extBut b o (fun z=>hb (by simp[z])) e
     rw[jC,jB hi']
     simp[Array.getD,pin]
 · rw[jA,pl]at x
   exact y9x hh x.2.1 x.2.2.1 hf x.2.2.2 (by rw[kW];exact kJ (by rw[jA];omega)) fun h' k=>hQ h' s.toks fun b o hb e=>k b o (fun z=>hb (by simp[z])) e
end
section
variable {prog:Program}{w:World}{A:Around}{E:Value->Shared->Prop}{s:Shared}
theorem y5R{r:Addr}{Q:Bool->Shared->Prop}(hT:s.TypeIs (.ref r) "set")(h:Q false s):wpAny (model prog w) A (Builtin.List.listLengthHint (.ref r)) Q E s:=by
 unfold Builtin.List.listLengthHint
 refine wpAny_bind (wpAny_specialOf hT PySem.F.slot_set_len.lookup ?_)
 generalize hid:("set.__len__" : String)=id0
 wp_delta
 rw[show splitId id0=some ("set", "__len__") from by subst hid;decide +kernel]
 subst hid
 refine wpAny_bind (wpAny_isInstance (T := "set") (b:=true) hT (by rw[isSubtype_type];kernel_rfl) ?_)
 refine wpAny_ite_split (fun hab=>absurd hab (by decide)) (fun _=>?_)
 refine wpAny_ite_split (fun _=>?_) (fun hab=>absurd (by decide +kernel) hab)
 refine wpAny_bind (wpAny_typeOf hT ?_)
 exact wpAny_pure h
end
theorem y8I{a b:Str}(h:a.cps.toList=b.cps.toList):a=b:=by
 obtain⟨⟨x⟩⟩:=a
 obtain⟨⟨y⟩⟩:=b
 have:x=y:=h
 rw[this]
def ltS(a b:Str):Prop:=a.cps.toList < b.cps.toList
instance (a b:Str):Decidable (ltS a b):=inferInstanceAs (Decidable (a.cps.toList < b.cps.toList))
theorem z5J{a b c:Str}(h:ltS a b)(h':ltS b c):ltS a c:=List.lt_trans h h'
theorem y0x{a b:Str}(n:a≠b)(h:¬ ltS a b):ltS b a:=by
 by_cases z:ltS b a
 · exact z
 · exact absurd (y8I (List.le_antisymm (List.not_lt.mp z) (List.not_lt.mp h))) n
section
variable {X:Cx}{pins:List (Addr×Obj)}{σ:St}{H:Hp}{s:Shared}
theorem Inv.drawn(I:Inv X pins σ H s)(d:Drawn):Inv X pins σ H { s with drawn:=d } :=
 I.step (h':=s.heap) (g':=s.gens) (t':=s.toks) (d':=d) (ch:=[]) (fun _ z=>nomatch z) (fun b o _ _ _ e _=>e) (fun b o _ _ _ e _=>⟨o.slots,e⟩) (fun b o _ _ n=>n) (fun b o _ e=>⟨o,e⟩) (fun _ _ e=>e) (fun _ _ _ e=>e) (fun _ ps e=>⟨#[],by rw[Array.append_empty];exact e⟩) (fun m hm=>hm) I.hok I.bare
end
def iv:Value->Int
 | .int k _=>k
 | _=>0
theorem z7v:∀ {vs:List Value}{ss:List Int},IntsAre vs ss->∀ (i:Nat),i < vs.length->∃ tk,vs.getD i Value.none = .int (ss.getD i (0:Int)) tk
 | _,_,.nil,i,h=>absurd h (kL _)
 | _,_,.cons _ t _,0,_=>⟨t,rfl⟩
 | _,_,.cons _ _ r,i + 1,h=>by
  obtain⟨tk,e⟩:=z7v r i (by simpa using h)
  exact⟨tk,by simpa using e⟩
theorem z3U:∀ {vs:List Value}{ss:List Int},IntsAre vs ss->vs.length=ss.length
 | _,_,.nil=>rfl
 | _,_,.cons _ _ t=>congrArg (· + 1) (z3U t)
theorem y5O{a b:Int}(n:a≠b)(h:¬ a < b):b < a:=by omega
section
theorem y8x{xs:Array Nat}{j:Nat}(hs:xs.toList.Pairwise (· < ·)):∀ fuel lo hi,hi<=xs.size->lo<=hi->hi - lo<=fuel->(∀ i (h:i < xs.size),i < lo->xs[i] < j)->(∀ i (h:i < xs.size),hi<=i->j<=xs[i]) ->
 SetTable.below.go xs j fuel lo hi<=xs.size/\(∀ i (h:i < xs.size),i < SetTable.below.go xs j fuel lo hi->xs[i] < j)/\(∀ i (h:i < xs.size),SetTable.below.go xs j fuel lo hi<=i->j<=xs[i])
 | 0,lo,hi,h1,h2,h3,h4,h5=>by
  have e:lo=hi:=by omega
  subst e
  exact⟨h1,h4,h5⟩
 | fuel + 1,lo,hi,h1,h2,h3,h4,h5=>by
  unfold SetTable.below.go
  by_cases hl:lo < hi
  · rw[if_pos hl]
    dsimp only
    have hm:(lo + hi) / 2 < xs.size:=by omega
    have eg:xs.getD ((lo + hi) / 2) j=xs[(lo + hi) / 2]:=by simp[Array.getD,hm]
    rw[eg]
    have mono:∀ a b (ha:a < xs.size) (hb:b < xs.size),a < b->xs[a] < xs[b]:=fun a b ha hb hab=>by
     have:=kH.mp hs a b (by simpa using ha) (by simpa using hb) hab
     simpa using this
    by_cases hc:xs[(lo + hi) / 2] < j
    · rw[if_pos hc]
      refine y8x hs fuel _ _ h1 (by omega) (by omega) (fun i h hi'=>?_) h5
      by_cases z:i=(lo + hi) / 2
      · subst z;exact hc
      · exact Nat.lt_trans (mono i _ h hm (by omega)) hc
    · rw[if_neg hc]
      refine y8x hs fuel _ _ (by omega) (by omega) (by omega) h4 (fun i h hi'=>?_)
      by_cases z:i=(lo + hi) / 2
      · subst z;exact Nat.le_of_not_lt hc
      · exact jc (Nat.le_of_not_lt hc) (kE (mono _ i hm h (by omega)))
  · rw[if_neg hl]
    have e:lo=hi:=by omega
    subst e
    exact⟨h1,h4,h5⟩
theorem z7E{xs:Array Nat}(hs:xs.toList.Pairwise (· < ·))(j:Nat):SetTable.below xs j<=xs.size/\(∀ i (h:i < xs.size),i < SetTable.below xs j->xs[i] < j)/\(∀ i (h:i < xs.size),SetTable.below xs j<=i->j<=xs[i]) :=
 y8x hs xs.size 0 xs.size (jF _) (jR _) (by omega) (fun _ _ h=>absurd h (kL _)) (fun i h h'=>absurd h (Nat.not_lt.mpr h'))
theorem y8L{xs:Array Nat}(hs:xs.toList.Pairwise (· < ·)):SetTable.below xs 0=0:=by
 obtain⟨h1,h2,_⟩:=z7E hs 0
 by_cases z:SetTable.below xs 0=0
 · exact z
 · exact absurd (h2 0 (by omega) (by omega)) (kL _)
theorem y1S{xs:Array Nat}(hs:xs.toList.Pairwise (· < ·)){i:Nat}(hi:i < xs.size):SetTable.below xs (xs[i] + 1)=i + 1:=by
 obtain⟨h1,h2,h3⟩:=z7E hs (xs[i] + 1)
 have a:i < SetTable.below xs (xs[i] + 1):=by
  by_cases z:i < SetTable.below xs (xs[i] + 1)
  · exact z
  · exact absurd (h3 i hi (by omega)) (by omega)
 by_cases z:i + 1 < SetTable.below xs (xs[i] + 1)
 · have b:=h2 (i + 1) (by omega) z
   have:=kH.mp hs i (i + 1) (by simpa using hi) (by simp;omega) (by omega)
   simp at this
   omega
 · omega
def Rs(t:SetTable):Prop:=t.place.toList.Pairwise (· < ·)/\t.dummies=#[]
theorem x0q{xs:Array Nat}{j:Nat}(hs:xs.toList.Pairwise (· < ·))(hj:xs[SetTable.below xs j]? ≠ some j):(SetTable.insertAt xs (SetTable.below xs j) j).toList.Pairwise (· < ·):=by
 obtain⟨h1,h2,h3⟩:=z7E hs j
 generalize SetTable.below xs j=p at *
 have e:(SetTable.insertAt xs p j).toList=xs.toList.take p ++ j :: xs.toList.drop p:=by
  unfold SetTable.insertAt
  simp
  exact js (by simp)
 rw[e,List.pairwise_append]
 refine⟨hs.take,jv.mpr ⟨fun y hy=>?_,hs.drop⟩,fun x hx y hy=>?_⟩
 · obtain⟨k,hk,rfl⟩:=kP.mp hy
   have hk':p + k < xs.size:=by simpa [Nat.lt_sub_iff_add_lt,Nat.add_comm] using hk
   rw[List.getElem_drop,Array.getElem_toList]
   have:=h3 (p + k) hk' (by omega)
   by_cases z:j=xs[p + k]
   · exfalso
     by_cases k0:k=0
     · subst k0
       exact hj (by rw[jO (by omega)];exact congrArg some z.symm)
     · have b:=h3 p (by omega) (jF _)
       have:=kH.mp hs p (p + k) (by simp;omega) (by simpa using hk') (by omega)
       simp at this
       omega
   · omega
 · have lx:x < j:=by
    obtain⟨k,hk,rfl⟩:=kP.mp hx
    rw[List.getElem_take,Array.getElem_toList]
    rw[jg]at hk
    exact h2 k _ (by omega)
   rcases jH.mp hy with rfl | hy
   · exact lx
   · obtain⟨k,hk,rfl⟩:=kP.mp hy
     have hk':p + k < xs.size:=by simpa [Nat.lt_sub_iff_add_lt,Nat.add_comm] using hk
     rw[List.getElem_drop,Array.getElem_toList]
     exact jW lx (h3 (p + k) hk' (by omega))
theorem y0E(j:Nat):SetTable.has #[] j=false:=by
 unfold SetTable.has
 simp
theorem y1n{t:SetTable}{j:Nat}(r:Rs t)(h:t.slot j = .empty):t.place[SetTable.below t.place j]? ≠ some j:=fun e=>by
 unfold SetTable.slot at h
 dsimp only at h
 rw[e,if_pos (by simp)]at h
 cases h
theorem y0m{t:SetTable}(r:Rs t){f:Nat->Int}{h:Int}:∀ (fuel:Nat) (p:SetTable.Probe) (j:Nat) (d:Option Nat),p.dummy=none->SetTable.probe.go t f h fuel p=some (.empty j d)->d=none/\t.slot j = .empty
 | 0,_,_,_,_,e=>by cases e
 | fuel + 1,p,j,d,hp,e=>by
  unfold SetTable.probe.go at e
  cases hs:t.slot p.j with
  | empty =>
   rw[hs]at e
   cases e
   exact⟨hp,hs⟩
  | dummy =>
   exfalso
   unfold SetTable.slot at hs
   dsimp only at hs
   rw[r.2,y0E]at hs
   split at hs <;> cases hs
  | live i =>
   rw[hs]at e
   dsimp only at e
   split at e
   · cases e
   · refine y0m r fuel _ j d ?_ e
     unfold SetTable.advance
     split
     · exact hp
     · exact hp
theorem y3H{t:SetTable}{es:Array (Int×Value)}{h:Int}{x:Value}(r:t.plain=true->Rs t):(layNew t es h x).2.1.plain=true->Rs (layNew t es h x).2.1:=by
 unfold layNew
 split
 · rename_i slot wd e
   show ((t.put slot).1.orStandIn _).plain=true->Rs ((t.put slot).1.orStandIn _)
   unfold SetTable.orStandIn
   split
   · intro hp
     have r:=r hp
     unfold SetTable.freeSlot at e
     split at e
     · rename_i j d ep
       obtain⟨rfl,hs⟩:=y0m r _ _ _ _ rfl ep
       cases e
       refine⟨x0q r.1 (y1n r hs),?_⟩
       show (if SetTable.has t.dummies (Option.getD none j)=true then _ else t.dummies)=#[]
       rw[r.2,y0E]
       rfl
     · cases e
   · intro hp;cases hp
 · intro hp;cases hp
theorem z8W{t:SetTable}{es:Array (Int×Value)}{n:Nat}:(relayAll t es n).2.1.plain=true->Rs (relayAll t es n).2.1:=by
 unfold relayAll
 split
 · rename_i t' order e
   have:Rs t':=by
    unfold SetTable.relaid SetTable.laid at e
    simp only[bind,Option.bind,pure]at e
    split at e
    · cases e
    · cases e
      refine⟨?_,rfl⟩
      dsimp only
      rw[j5]
      refine List.Pairwise.filterMap _ (R:=(· < ·)) (fun a a' hab b hb b' hb'=>?_) List.pairwise_lt_range
      rw[jo]at hb hb'
      obtain⟨_,_,rfl⟩:=hb
      obtain⟨_,_,rfl⟩:=hb'
      exact hab
   dsimp only
   split
   · exact fun _=>this
   · intro hp;cases hp
 · intro hp;cases hp
end
section
variable {prog:Program}{w:World}{A:Around}{E:Value->Shared->Prop}{s:Shared}
def y8W(w:World)(k:Int)(e:Int×Value):Prop:=e.1=hashInt k/\∃ tk,e.2 = .int k tk
def SetN(w:World)(byT:Bool)(h:Heap)(a:Addr)(ks:List Int):Prop:=∃ o es ep t,h.get? a=some o/\o.ExactSet/\o.data = .set es ep t/\Paired (y8W w) ks es.toList/\ks.Nodup/\es.size < scanBound/\t.fits es.size=true/\t.led = !byT/\(t.plain=true->Rs t)
theorem y8D{ks:List Int}{es:List (Int×Value)}(h:Paired (y8W w) ks es):ElemsOf (intKind prog w) es:=by
 intro e he
 induction h with
 | nil=>cases he
 | cons h1 _ ih =>
  rcases jH.mp he with z | z
  · subst z
    obtain⟨e1,tk,e2⟩:=h1
    exact⟨⟨_,by rw[e2];exact intKind_is _ _ _ _,e1⟩,by rw[e2];rfl⟩
  · exact ih z
theorem y4d{ks:List Int}{es:List (Int×Value)}(h:Paired (y8W w) ks es)(x:Int):(es.findIdx? (fun e=>(intKind prog w).is x e.2)=none/\x∉ks)\/((∃ j,es.findIdx? (fun e=>(intKind prog w).is x e.2)=some j)/\x∈ks):=by
 induction h with
 | nil=>exact .inl ⟨rfl,fun z=>nomatch z⟩
 | cons h1 _ ih =>
  rename_i k e ks es _
  obtain⟨e1,tk,e2⟩:=h1
  by_cases z:x=k
  · subst z
    refine .inr ⟨⟨0,?_⟩,by simp⟩
    rw[List.findIdx?_cons,e2,intKind_is];rfl
  · have nz:(intKind prog w).is x e.2=false:=by
     cases hb:(intKind prog w).is x e.2 with
     | false=>rfl
     | true=>exact absurd ((intKind prog w).inj e.2 x k hb (by rw[e2];exact intKind_is _ _ _ _)) z
    rcases ih with ⟨a,b⟩ | ⟨⟨j,a⟩,b⟩
    · refine .inl ⟨?_,fun y=>?_⟩
      · rw[List.findIdx?_cons,nz,a];rfl
      · rcases jH.mp y with y | y
        · exact z y
        · exact b y
    · refine .inr ⟨⟨j + 1,?_⟩,by simp[b]⟩
      rw[List.findIdx?_cons,nz,a];rfl
theorem y2K{g:Bool->Sem Unit}(hg:∀ (b:Bool) (s₁:Shared) (Q':Unit->Shared->Prop),Q' () s₁->wpAny (model prog w) A (g b) Q' E s₁){byT:Bool}{a:Addr}{o:Obj}{es:Array (Int×Value)}{ep:Nat}{t:SetTable}(ho:s.heap.get? a=some o)(hex:o.ExactSet)(hd:o.data = .set es ep t)
 {es1:Array (Int×Value)}{t2:SetTable}{ks1:List Int} (pr1:Paired (y8W w) ks1 es1.toList) (nd1:ks1.Nodup) (b1:es1.size < scanBound) (f2:t2.fits es1.size=true) (led2:t2.led = !byT) (pl2:t2.plain=true->Rs t2) {wasDummy:Bool}{R:Option Bool->Shared->Prop}
 (h:∀ h' ks',Heap.SameBut a s.heap h'->SetN w byT h' a ks'->ks'.Perm ks1->R (some true) { s with heap:=h' }) :
 wpAny (model prog w) A (do
  storeSet a es1 t2
  if (!wasDummy && t2.tooFull)=true then do
      g (relayAll t2 es1 (SetTable.grown es1.size)).2.2
      storeSet a (relayAll t2 es1 (SetTable.grown es1.size)).1 (relayAll t2 es1 (SetTable.grown es1.size)).2.1
      pure (some true)
   else pure (some true)) R E s:=by
 refine wpAny_bind (wpAny_storeSet_of ho hd ?_ (fits_of_scanBound b1))
 have ho1:=y6y ho hd es1 t2
 have sb1:=Heap.SameBut.update s.heap a (Obj.putSet es1 t2)
 split
 · have hp:=relayAll_perm t2 es1 (SetTable.grown es1.size)
   have hfr:=relayAll_fits t2 es1 (SetTable.grown es1.size)
   have hlr:=z8a t2 es1 (SetTable.grown es1.size)
   have hrs:=z8W (t:=t2) (es:=es1) (n:=SetTable.grown es1.size)
   generalize relayAll t2 es1 (SetTable.grown es1.size)=Rl at hp hfr hlr hrs ⊢
   obtain⟨es2,t3,gave2⟩:=Rl
   dsimp only at hp hfr hlr hrs ⊢
   obtain⟨ks2,kp,pr2⟩:=prm hp pr1
   have b2:es2.size < scanBound:=by rw[<- jT,hp.length_eq,jT];exact b1
   refine wpAny_bind (hg _ _ _ ?_)
   refine wpAny_bind (wpAny_storeSet_of ho1 rfl ?_ (fits_of_scanBound b2))
   exact wpAny_pure (h _ ks2 (sb1.trans (Heap.SameBut.update _ a _)) ⟨_,es2,_,t3,y6y ho1 rfl es2 t3,hex,rfl,pr2,kp.nodup_iff.mpr nd1,b2,hfr,hlr.1.trans led2,hrs⟩ kp)
 · exact wpAny_pure (h _ ks1 sb1 ⟨_,es1,_,t2,ho1,hex,rfl,pr1,nd1,b1,f2,led2,pl2⟩ (.refl _))
theorem y9v{byT:Bool}{a:Addr}{ks:List Int}{x:Int}{tk:Tok}{Q:Bool->Shared->Prop}(hS:SetN w byT s.heap a ks)(room:ks.length + 1 < scanBound)
 (h:∀ (h':Heap) (ks':List Int) (b:Bool),Heap.SameBut a s.heap h'->SetN w byT h' a ks'->(∀ k,k∈ks'↔k∈ks\/k=x)->ks'.length<=ks.length + 1->Q b { s with heap:=h' }) :
 wpAny (model prog w) A (setAddHashed a (.int x tk) (hashInt x)) Q E s:=by
 obtain⟨o,es,ep,t,ho,hex,hd,pr,nd,hb,hf,led,pl⟩:=hS
 have hel:ElemsOf (intKind prog w) es.toList:=y8D pr
 have hl:=pr.length
 have hl:es.size=ks.length:=by rw[<- jT];exact hl.symm
 unfold setAddHashed setAddHashedIn
 refine wpAny_holding (wpAny_bind (wpAny_setState_of ho hd hf ?_))
 dsimp only
 rw[byScan_of (knd:=intKind prog w) (x := .int x tk) rfl hb hel]
 simp only[↓reduceIte]
 unfold setAddByScan
 refine wpAny_bind ?_
 refine wpAny_bind (wpAny_rule ?_)
 refine wpAny_bind (wpAny_setScan_of (knd:=intKind prog w) (k:=x) (intKind_is _ _ _ _) ho hd hf hel ?_)
 rcases y4d (prog:=prog) pr x with ⟨e1,nin⟩ | ⟨⟨j,e1⟩,inn⟩
 · rw[e1]
   dsimp only
   have hperm:=layNew_perm t es (hashInt x) (.int x tk)
   have hfits:=layNew_fits t es (hashInt x) (.int x tk)
   have hled:=y1F t es (hashInt x) (.int x tk)
   have hrs:=y3H (es:=es) (h:=hashInt x) (x := .int x tk) pl
   generalize hL:layNew t es (hashInt x) (.int x tk)=L at hperm hfits hled hrs
   have hL':layNew t es ((intKind prog w).hash x) (.int x tk)=L:=hL
   obtain⟨es1,t1,wasDummy,gave⟩:=L
   dsimp only at hperm hfits hled hrs
   rw[Array.toList_push]at hperm
   obtain⟨ks1,kp,pr1⟩:=prm hperm (prs (show y8W w x (hashInt x,.int x tk) from ⟨rfl,tk,rfl⟩) pr)
   have nd1:ks1.Nodup:=by
    rw[kp.nodup_iff,j4]
    refine⟨nd,by simp,fun a ha b hb e=>?_⟩
    have:b=x:=by simpa using hb
    exact nin (this ▸ e ▸ ha)
   have sz1:es1.size=es.size + 1:=by rw[<- jT,hperm.length_eq,jJ,jT];rfl
   have mem1:∀ k,k∈ks1↔k∈ks\/k=x:=fun k=>by rw[kp.mem_iff,ji,jP]
   have len1:ks1.length<=ks.length + 1:=by rw[kp.length_eq,jJ];exact jF _
   have b1:es1.size < scanBound:=by omega
   have fin:∀ h' ks',Heap.SameBut a s.heap h'->SetN w byT h' a ks'->ks'.Perm ks1->Q true { s with heap:=h' }:=fun h' ks' sb hS' kp'=>h h' ks' true sb hS' (fun k=>kp'.mem_iff.trans (mem1 k)) (by rw[kp'.length_eq];exact len1)
   have hgw:∀ (b:Bool) (s₁:Shared) (Q':Unit->Shared->Prop),Q' () s₁->wpAny (model prog w) A (match b with | true=>rule "set.scan.the-table-gave-way" | false=>pure ()) Q' E s₁:=fun b s₁ Q' hq=>by cases b <;> first | exact wpAny_pure hq | exact wpAny_rule hq
   refine wpAny_bind (hgw _ _ _ ?_)
   dsimp only
   split
   · refine wpAny_bind ?_
     rw[hashByValue_scannable 8 (x := .int x tk) rfl]
     refine wpAny_pure ?_
     refine y2K (byT:=byT) hgw ho hex hd pr1 nd1 b1 (t2:=t1) hfits (hled.1.trans led) hrs ?_
     intro h' ks' sb hS' kp'
     exact wpAny_pure (fin h' ks' sb hS' kp')
   · rename_i hp1
     refine wpAny_bind (wpAny_pure ?_)
     simp only[↓reduceIte]
     refine y2K (byT:=byT) hgw ho hex hd pr1 nd1 b1 hfits (hled.1.trans led) hrs ?_
     intro h' ks' sb hS' kp'
     exact wpAny_pure (fin h' ks' sb hS' kp')
 · rw[e1]
   dsimp only
   refine wpAny_pure (wpAny_pure ?_)
   have e:s={ s with heap:=s.heap }:=by cases s;rfl
   have:=h s.heap ks false (Heap.SameBut.refl a s.heap) ⟨o,es,ep,t,ho,hex,hd,pr,nd,hb,hf,led,pl⟩ (fun k=>⟨.inl,fun z=>z.elim id fun z=>z ▸ inn⟩) (Nat.le_succ _)
   rw[e];exact this
theorem SetN.at{byT:Bool}{h h':Heap}{a:Addr}{ks:List Int}(x:SetN w byT h a ks)(e:∀ o,h.get? a=some o->h'.get? a=some o):SetN w byT h' a ks:=by
 obtain⟨o,es,ep,t,ho,r⟩:=x
 exact⟨o,es,ep,t,e _ ho,r⟩
end
section
variable {prog:Program}{w:World}{A:Around}{R:Result->Shared->Prop}{I:Addr}{fp wr:List Addr}{G:Array GenState->Array GenState->Prop}{n:Nat}{P:Nat->Value->Prop}{St:Nat->Shared->Prop}
theorem y7q(W:WalksS prog w A.in1 I fp wr G n P St)(S:Addr)(hSf:S∉fp)(val:Nat->Int)(hval:∀ i v,P i v->∃ t,v = .int (val i) t)(hb:n + 1 < scanBound)(byT:Bool) :
 ∀ (k i:Nat) (s:Shared) (ks:List Int),n - i=k->i<=n->St i s->SetN w byT s.heap S ks->(∀ x,x∈ks↔∃ j,j < i/\val j=x)->ks.length<=i ->
  (∀ s' ks',Moved (S :: wr) G s s'->SetN w byT s'.heap S ks'->(∀ x,x∈ks'↔∃ j,j < n/\val j=x)->R (.ok (.ret .none)) s') ->
  codeAny (model prog w) A (.builtin "set.update.loop" ⟨[.ref S,.ref I],[]⟩) R s:=by
 have hSw:S∉wr:=fun h=>hSf (W.sub _ h)
 have more:∀ b∈wr,b∈S :: wr:=fun b hb=>jQ _ hb
 intro k
 induction k with
 | zero =>
  intro i s ks hk hi hst hS hm hl hR
  have hin:i=n:=by omega
  subst hin
  refine codeAny_builtin PyProof.Rows.F.entry_set_update_loop ?_
  rw[Around.under_plainId PyProof.Rows.F.plain_set_update_loop _]
  show wpAny _ A.in1 (pyNext (.ref I) >>= _) _ _ s
  refine wpAny_bind (W.done s _ _ hst fun s' mv=>?_)
  show wpAny _ A.in1 (ret Value.none) _ _ s'
  exact wpAny_pure (hR s' ks (mv.mono more) (hS.at fun o e=>mv.heap S o hSw e) hm)
 | succ k ih =>
  intro i s ks hk hi hst hS hm hl hR
  have hlt:i < n:=by omega
  refine codeAny_builtin PyProof.Rows.F.entry_set_update_loop ?_
  rw[Around.under_plainId PyProof.Rows.F.plain_set_update_loop _]
  show wpAny _ A.in1 (pyNext (.ref I) >>= _) _ _ s
  refine wpAny_bind (W.item i s _ _ hlt hst fun v s' hP hst' mv=>?_)
  obtain⟨t,rfl⟩:=hval i v hP
  have hS':SetN w byT s'.heap S ks:=hS.at fun o e=>mv.heap S o hSw e
  show wpAny _ A.in1 (holding [Value.int (val i) t] (setAdd S (.int (val i) t)) >>= _) _ _ s'
  refine wpAny_bind (wpAny_holding ?_)
  unfold setAdd
  refine wpAny_holding ?_
  refine wpAny_bind ((PySem.intKind prog w).pyHash (k:=val i) (intKind_is _ _ _ _) ?_)
  refine y9v (s:={ s' with toks:=s'.toks + 1 }) hS' (by omega) fun h' ks' b hsb hS2 hm2 hl2=>?_
  refine wpAny_pure ⟨plainId_quiet PyProof.Rows.F.plain_set_update_loop _,ih (i + 1) _ ks' (by omega) hlt (W.frame _ s' _ _ hst' (Nat.le_succ _) fun b hb o e=>?_) hS2 (fun x=>?_) (by omega) fun s'' ks'' mv'' hS'' hm''=>?_⟩
  · rw[hsb.2 b (fun h:b=S=>hSf (by rw[<- h];exact hb))];exact e
  · rw[hm2 x,hm x]
    constructor
    · rintro (⟨j,h1,h2⟩ | h)
      · exact⟨j,by omega,h2⟩
      · exact⟨i,by omega,h.symm⟩
    · rintro⟨j,h1,h2⟩
      by_cases z:j=i
      · exact .inr (by rw[<- h2,z])
      · exact .inl ⟨j,by omega,h2⟩
  · refine hR s'' ks'' (Moved.trans W.gtrans ((mv.mono more).then_heap (Nat.le_succ _) fun b o hb e=>?_) mv'') hS'' hm''
    rw[hsb.2 b (fun h:b=S=>hb (by rw[h];exact jX))];exact e
end
section
variable {prog:Program}{w:World}{A:Around}{E:Value->Shared->Prop}{s:Shared}
theorem y7s{T:String}{l S:Addr}{n:Nat}{P:Nat->Value->Prop}{OK:Heap->Prop}{R:Result->Shared->Prop}(K:SqS prog w T l n P OK)(hh:A.handled=none)(ok:OK s.heap)(val:Nat->Int)(hval:∀ i v,P i v->∃ t,v = .int (val i) t)(hb:n + 1 < scanBound)(hSl:S≠l)(hS:s.heap.get? S=some (y7z w))
 (hR:∀ (h':Heap) (tk:Nat) (ks:List Int),(∀ b o,b≠S->s.heap.get? b=some o->h'.get? b=some o)->SetN w (z5n w) h' S ks->(∀ x,x∈ks↔∃ j,j < n/\val j=x)->R (.ok (.ret .none)) { s with heap:=h',toks:=tk }) :
 wpAny (model prog w) A.in1 (Builtin.«set.__init__» ⟨[.ref S,.ref l],[]⟩)
  (fun fin s'=>match fin with | .done f=>R (.ok f) s' | .again c'=>c'.quiet=true/\codeAny (model prog w) A c' R s') (fun e s'=>R (.error e) s') s:=by
 have hT:s.TypeIs (.ref S) "set" := ⟨_,hS,rfl⟩
 have hTl:=K.type s ok
 have hsls:=K.noSet
 have hslf:=K.noFrz
 have hne:=K.noDict
 unfold Builtin.«set.__init__» noKeywords Builtin.Frozenset.updateFrom
 have hS1:s.heap.get? S=some { cls := .type "set",dict:=none,data := .set #[] 0 (.fresh 0 0 (!z5n w)) }:=hS
 generalize hPI:pyIter=PI
 wp_walk using wpAny_typeOf hTl,wpAny_isInstance hTl hsls,wpAny_isInstance hTl hslf
 subst hPI
 obtain⟨oI,St,hit,W,st0⟩:=K.iter s ok
 refine hit _ _ _ ?_
 refine wpAny_bind (wpAny_runValue ?_)
 have lt:=K.there _ ok
 have ltS:=jG hS
 have S0:SetN w (z5n w) (s.heap.push oI) S []:=⟨_,#[],0,_,jD oI hS1,⟨rfl,rfl,rfl⟩,rfl,.nil,j6,by decide,rfl,rfl,fun _=>⟨.nil,rfl⟩⟩
 refine y7q (A:=A.in1) (W A.in1.in1 hh).toS S (fun z=>?_) val hval hb (z5n w) (n - 0) 0 _ [] (by omega) (jR _) st0 S0 (fun x=>⟨fun z=>(nomatch z),fun⟨j,z,_⟩=>absurd z (kL _)⟩) (jF _) fun s' ks mv hS' hm=>?_
 · rcases jH.mp z with z | z
   · exact absurd z (jS ltS)
   · exact hSl (jP.mp z)
 · rw[Moved.eq_with mv]
   refine wpAny_pure (wpAny_pure (hR s'.heap s'.toks ks (fun b o hb e=>mv.heap b o (fun hmem=>?_) (jD _ e)) hS' hm))
   rcases jH.mp hmem with z | z
   · exact hb z
   · exact absurd (jG e) (by rw[jP.mp z];exact jr _)
theorem y7t{T:String}{l:Addr}{n:Nat}{P:Nat->Value->Prop}{OK:Heap->Prop}{Q:Value->Shared->Prop}(K:SqS prog w T l n P OK)(hh:A.handled=none)(ok:OK s.heap)(val:Nat->Int)(hval:∀ i v,P i v->∃ t,v = .int (val i) t)(hb:n + 1 < scanBound)
 (h:∀ (h':Heap) (tk:Nat) (ks:List Int),(∀ b o,s.heap.get? b=some o->h'.get? b=some o)->SetN w (z5n w) h' s.heap.objs.size ks->(∀ x,x∈ks↔∃ j,j < n/\val j=x)->Q (.ref s.heap.objs.size) { s with heap:=h',toks:=tk }) :
 wpAny (model prog w) A (call (.type "set") [.ref l]) Q E s:=by
 obtain⟨c,tl,hmro⟩:=PySem.F.called_set.mro
 have hmade:=PySem.F.called_set.made
 have hsub:=PySem.F.called_set.sub
 refine wpAny_call (codeAny_of_tree ?_)
 show wpAny _ _ (callAny (.type "set") _) _ _ _
 refine wpAny_pure ⟨Code.quiet_builtin _ (by decide +kernel),codeAny_builtin PySem.F.entry_type_call ?_⟩
 rw[Around.under_plain (weight_type_call_type "set" [.ref l] []) rfl]
 have h1:=PySem.F.called_set.notType
 have h2:=PySem.F.called_set.canCreate
 have hct:=PySem.F.typeCall_set_1 (.ref l)
 repeat (any_goals (first | assumption | wp_step))
 refine codeAny_mono (y9t (.ref l) (E:=E) (Q₁:=fun obj s₁=>obj = .ref s.heap.objs.size/\s₁={ s with heap:=s.heap.push (y7z w) }) ⟨rfl,rfl⟩) fun r s₁ hr=>?_
 cases r with
 | error e=>exact hr
 | ok fl =>
  cases fl with
  | ret obj =>
   obtain⟨rfl,rfl⟩:=hr
   have hS:(s.heap.push (y7z w)).get? s.heap.objs.size=some (y7z w):=jK _ rfl
   have hT:Shared.TypeIs { s with heap:=s.heap.push (y7z w) } (.ref s.heap.objs.size) "set" := ⟨_,hS,rfl⟩
   have hli:=PySem.F.called_set.init.lookup
   have hbi:=PySem.F.called_set.init.bind (.ref s.heap.objs.size)
   repeat (any_goals (first | assumption | wp_step))
   refine codeAny_mono (codeAny_call_builtin (R:=wants (fun r s₂=>r = .none/\Q (.ref s.heap.objs.size) s₂) E) PySem.F.called_set.init.plain PySem.F.entry_set_init (check_set_init_1 hT ?_)) fun r₂ s₂ hr₂=>?_
   · have lt:=K.there _ ok
     refine y7s (A:=A.in1) (s:={ s with heap:=s.heap.push (y7z w) }) K hh (K.keep _ _ ok fun o e=>jD _ e) val hval hb (jn lt) hS fun h' tk ks k1 k2 k3=>?_
     exact⟨rfl,h h' tk ks (fun b o e=>k1 b o (jS (jG e)) (jD _ e)) k2 k3⟩
   · cases r₂ with
     | error e=>exact hr₂
     | ok fl₂ =>
      cases fl₂ with
      | ret r =>
       obtain⟨rfl,hq⟩:=hr₂
       repeat (any_goals (first | assumption | wp_step))
      | _=>exact hr₂.elim
  | _=>exact hr.elim
end
section
variable {prog:Program}{w:World}{A:Around}{E:Value->Shared->Prop}{s:Shared}
theorem z8s:∀ {ks:List Int}{es:List (Int×Value)},Paired (y8W w) ks es->IntsAre (es.map (·.2)) ks
 | _,_,.nil => .nil
 | _,_,.cons (b:=e) h t=>by
  obtain⟨_,tk,e2⟩:=h
  rw[jj,e2]
  exact .cons _ _ (z8s t)
theorem z5M{ks:List Int}{es:List (Int×Value)}(h:Paired (y8W w) ks es){es':List (Int×Value)}(p:es'.Perm es):∃ ss,ss.Perm ks/\IntsAre (es'.map (·.2)) ss:=by
 obtain⟨ss,h1,h2⟩:=prm p h
 exact⟨ss,h1,z8s h2⟩
theorem y6v{S:Addr}{es:Array (Int×Value)}{ep slot i:Nat}{t:SetTable}{Q:Option (Value×Nat)->Shared->Prop}(hS:SeAt s.heap S es ep t)(hf:t.fits es.size=true)(hb:z5n w=false)(hp:t.plain=true)(led:t.led=true)
 (h:Q (match es[SetTable.below t.place slot]?,t.place[SetTable.below t.place slot]? with | some (_,x),some j=>some (x,j + 1) | _,_=>none) s):wpAny (model prog w) A (setNext S slot i ep) Q E s:=by
 obtain⟨oS,hoS,hdS⟩:=hS
 unfold setNext
 refine wpAny_bind (wpAny_setState_of hoS hdS hf ?_)
 dsimp only
 unfold setsByText
 refine wpAny_bind (wpAny_bind (wpAny_askSetting (wpAny_pure ?_)))
 show wpAny _ _ (if z5n w=true then _ else _) _ _ _
 rw[if_neg (by rw[hb];decide)]
 refine wpAny_ite_split (fun z=>absurd z ?_) (fun _=>?_)
 · show ¬ ((!t.plain && decide (es.size > 1))=true)
   rw[hp]
   exact jN
 refine wpAny_bind ?_
 wp_delta
 refine wpAny_ite_split (fun z=>absurd z (by rw[led];simp)) (fun _=>?_)
 exact wpAny_pure (wpAny_pure h)
def z4O(pl:Array Nat)(i:Nat):Nat:=if i=0 then 0 else pl.getD (i - 1) 0 + 1
theorem z6B{pl:Array Nat}(rs:pl.toList.Pairwise (· < ·)){i:Nat}(hi:i<=pl.size):SetTable.below pl (z4O pl i)=i:=by
 unfold z4O
 by_cases z:i=0
 · rw[if_pos z,z];exact y8L rs
 · have h1:i - 1 < pl.size:=by omega
   rw[if_neg z,show pl.getD (i - 1) 0=pl[i - 1] by simp[Array.getD,h1],y1S rs h1]
   omega
theorem y4S{I S lo:Addr}(hne:S≠I){es:Array (Int×Value)}{ep:Nat}{t:SetTable}(hf:t.fits es.size=true)(hb:z5n w=false)(hp:t.plain=true)(rs:Rs t)(led:t.led=true){h1:Heap}(st:IsSi h1 I (rawInt 0) 0 S es.size ep)(hS:SeAt h1 S es ep t) :
 z6C prog w S I lo (es.toList.map (·.2)) h1:=by
 have pz:t.place.size=es.size:=by
  unfold SetTable.fits at hf
  rw[jz]at hf
  simpa using hf.1
 refine⟨S,fun i h=>i<=es.size/\IsSi h I (rawInt (z4O t.place i:Nat)) i S es.size ep/\SeAt h S es ep t,.inl rfl,fun A hh=>?_,jR _,st,hS⟩
 refine { sub:=fun b hb=>by simp at hb;simp[hb],frame:=fun _ _ _ x hk=>⟨x.1,x.2.1.at fun o e=>hk I (by simp) o e,x.2.2.at fun o e=>hk S (by simp) o e⟩,item:=fun i s Q E hi x hQ=>?_,done:=fun s Q E x hQ=>?_,self:=fun i s Q E x hQ=>z6P x.2.1 hQ }
 · rw[jA,jT]at hi
   have hi':i < t.place.size:=by omega
   refine z6Q (slot:=z4O t.place i) (x:=es[i].2) (nx:=z4O t.place (i + 1)) x.2.1 x.2.2 hf (fun A' E' Q' hq=>y6v x.2.2 hf hb hp led ?_) fun h' it' sb=>?_
   · rw[z6B rs.1 (by omega),jO hi,jO hi']
     have e:z4O t.place (i + 1)=t.place[i] + 1:=by
      unfold z4O
      rw[if_neg (by omega),show i + 1 - 1=i by omega]
      simp[Array.getD,hi']
     rw[e]at hq
     exact hq
   · refine hQ _ h' s.toks ?_ ⟨hi,it',x.2.2.at fun o e=>(sb.2 S hne).trans e⟩ fun b o hb e=>sb.extBut b o (fun z=>hb (by simp[z])) e
     rw[jC,kB,jO hi];rfl
 · rw[jA,jT]at x
   refine z6S (slot:=z4O t.place es.size) hh x.2.1 x.2.2 hf (fun A' E' Q' hq=>y6v x.2.2 hf hb hp led ?_) fun h' k=>hQ h' s.toks fun b o hb e=>k b o (fun z=>hb (by simp[z])) e
   rw[z6B rs.1 (by omega),j8 (by omega)]
   exact hq
theorem y7r{S:Addr}{ks:List Int}{Q:Value->Shared->Prop}(hS:SetN w (z5n w) s.heap S ks)
 (h:∀ (I:Addr) (h1:Heap) (d:Drawn) (vs:List Value) (ss:List Int),(∀ b o,s.heap.get? b=some o->h1.get? b=some o)->s.heap.objs.size<=I->z6C prog w S I s.heap.objs.size vs h1->ss.Perm ks->IntsAre vs ss->Q (.ref I) { s with heap:=h1,drawn:=d }) :
 wpAny (model prog w) A (pyIter (.ref S)) Q E s:=by
 obtain⟨o,es,ep,t,ho,hex,hd,pr,nd,hb,hf,led,pl⟩:=hS
 have hT:s.TypeIs (.ref S) "set" := ⟨o,ho,hex.1⟩
 have hl:es.size=ks.length:=by rw[<- jT];exact pr.length.symm
 have ltS:=jG ho
 refine wpAny_pyIter_slot hT PySem.F.slot_set_iter (wpAny_call_entry PySem.F.slot_set_iter hT z6V ?_ (PySem.F.args_set_iter_1 _))
 unfold Builtin.«frozenset.__iter__»
 refine wpAny_bind (wpAny_of_eq (a:=S) rfl ?_)
 refine wpAny_bind ?_
 unfold Builtin.Frozenset.sizeOf
 refine wpAny_bind (wpAny_setEntries_of ho hd hf (wpAny_pure ?_))
 refine wpAny_bind ?_
 unfold setDrawn
 refine wpAny_bind (wpAny_setState_of ho hd hf ?_)
 dsimp only
 unfold setsByText
 refine wpAny_bind (wpAny_bind (wpAny_askSetting (wpAny_pure (wpAny_pure ?_))))
 have last:∀ (f:Value) (h0:Heap) (d:Drawn),(∀ b o,s.heap.get? b=some o->h0.get? b=some o)->s.heap.objs.size<=h0.objs.size->(∃ vs ss,z6C prog w S h0.objs.size s.heap.objs.size vs (h0.push { cls := .type "set_iterator",data := .fields #[f,rawInt 0,.ref S,rawInt es.size,rawInt ep] })/\ss.Perm ks/\IntsAre vs ss) ->
  wpAny (model prog w) A.in1 (setEpoch S >>= fun e=>newFields "set_iterator" [f,rawInt 0,.ref S,rawInt es.size,rawInt e] >>= fun v=>ret v) (fun fin s'=>∃ v,fin=Fin.done (Flow.ret v)/\∃ T' r,s'.TypeIs v T'/\typeLookup (Value.type T') (Str.ofString "__next__")=pure (some r)/\Q v s') E { s with heap:=h0,drawn:=d }:=fun f h0 d kp sz hw=>by
  obtain⟨vs,ss,h1,h2,h3⟩:=hw
  refine wpAny_bind (wpAny_setEpoch_of (s:={ s with heap:=h0,drawn:=d }) (kp _ _ ho) hd hf ?_)
  refine wpAny_bind ?_
  unfold newFields
  refine wpAny_newObj_type (wpAny_pure ⟨_,rfl, "set_iterator",_,⟨_,jK _ rfl,rfl⟩,z0H.lookup,?_⟩)
  exact h _ _ d vs ss (fun b o e=>jD _ (kp b o e)) sz h1 h2 h3
 refine wpAny_ite_split (fun hc=>?_) (fun hc=>?_)
 · refine wpAny_bind (z5r es.size (List.range es.size) s _ (by simp) fun ps d pp=>?_)
   have pl:ps.length=es.size:=by rw[pp.length_eq,kQ]
   refine wpAny_bind (wpAny_newTuple ?_ (by rw[jA,pl];exact fits_of_scanBound hb))
   refine last _ _ d (fun b o e=>jD _ e) (by simp[Heap.push]) ?_
   have hI:((s.heap.push (seqObj "tuple" (ps.map fun (i:Nat)=>rawInt (i:Int)).toArray 0)).push { cls := .type "set_iterator",data := .fields #[.ref s.heap.objs.size,rawInt 0,.ref S,rawInt es.size,rawInt ep] }).IsTuple s.heap.objs.size (ps.map fun (i:Nat)=>rawInt (i:Int)).toArray:=⟨_,jD _ (jK _ rfl),rfl,0,rfl⟩
   have eq:(List.range es.size).map (fun i=>es.getD i (0,.none))=es.toList:=by
    refine kS (by simp) fun i h1 h2=>?_
    simp at h2
    simp[Array.getD,h2]
   have p2:(ps.map fun i=>es.getD i (0,.none)).Perm es.toList:=by
    have:=pp.map fun i=>es.getD i (0,.none)
    rwa [eq]at this
   obtain⟨ss,h1,h2⟩:=z5M pr p2
   rw[jd]at h2
   refine⟨_,ss,y1g (t:=t) ?_ ?_ (jF _) hf pp hI ⟨_,jK _ rfl,rfl,rfl⟩ ⟨o,jD _ (jD _ ho),hd⟩,h1,h2⟩
   · exact jS (jW ltS (by simp[Heap.push]))
   · simp[Heap.push]
 · refine wpAny_bind (wpAny_pure ?_)
   refine last _ s.heap s.drawn (fun b o e=>e) (jF _) ?_
   have si0:IsSi (s.heap.push { cls := .type "set_iterator",data := .fields #[rawInt 0,rawInt 0,.ref S,rawInt es.size,rawInt ep] }) s.heap.objs.size (rawInt 0) 0 S es.size ep:=⟨_,jK _ rfl,rfl,rfl⟩
   have se0:SeAt (s.heap.push { cls := .type "set_iterator",data := .fields #[rawInt 0,rawInt 0,.ref S,rawInt es.size,rawInt ep] }) S es ep t:=⟨o,jD _ ho,hd⟩
   cases hbt:z5n w with
   | true =>
    obtain⟨ss,h1,h2⟩:=z5M pr (z8f (w.params.setOrder S ep) es)
    exact⟨_,ss,y2k (jS ltS) hf hbt si0 se0,h1,h2⟩
   | false =>
    obtain⟨ss,h1,h2⟩:=z5M pr (.refl es.toList)
    have rs:es.size<=1\/Rs t:=by
     by_cases z:es.size<=1
     · exact .inl z
     · refine .inr (pl ?_)
       cases hpl:t.plain with
       | true=>rfl
       | false =>
        exfalso
        apply hc
        show (!z5n w && (!t.plain && decide (es.size > 1)))=true
        rw[hbt,hpl,decide_eq_true (by omega)]
        rfl
    rcases rs with few | rs
    · exact⟨_,ss,z9L (jS ltS) hf hbt few (by rw[led,hbt];rfl) si0 se0,h1,h2⟩
    · by_cases z:es.size<=1
      · exact⟨_,ss,z9L (jS ltS) hf hbt z (by rw[led,hbt];rfl) si0 se0,h1,h2⟩
      · have hp:t.plain=true:=by
         cases hpl:t.plain with
         | true=>rfl
         | false =>
          exfalso
          apply hc
          show (!z5n w && (!t.plain && decide (es.size > 1)))=true
          rw[hbt,hpl,decide_eq_true (by omega)]
          rfl
        exact⟨_,ss,y4S (jS ltS) hf hbt hp rs (by rw[led,hbt];rfl) si0 se0,h1,h2⟩
end
section
variable {prog:Program}{w:World}{A:Around}{E:Value->Shared->Prop}{s:Shared}
theorem y2M{S L:Addr}{ks:List Int}{c0:Nat}{res:Value}{R:Result->Shared->Prop}(hh:A.handled=none)(hS:SetN w (z5n w) s.heap S ks)(hL:s.heap.get? L=some { cls := .type "list",data := .seq #[] c0 })(hSL:L≠S)(few:ks.length<=sizeLine)
 (hR:∀ (h':Heap) (tk:Nat) (d:Drawn) (acc:Array Value) (c:Nat) (ss:List Int),(∀ b o,b≠L->s.heap.get? b=some o->h'.get? b=some o)->h'.get? L=some { cls := .type "list",dict:=none,data := .seq acc c,slots:=#[] }->ss.Perm ks->IntsAre acc.toList ss->R (.ok (.ret res)) { s with heap:=h',toks:=tk,drawn:=d }) :
 wpAny (model prog w) A.in1 (Builtin.List.listExtendWith (.ref L) (.ref S) res)
  (fun fin s'=>match fin with | .done f=>R (.ok f) s' | .again c'=>c'.quiet=true/\codeAny (model prog w) A c' R s') (fun e s'=>R (.error e) s') s:=by
 have hT:s.TypeIs (.ref S) "set" := by
  obtain⟨o,es,ep,t,ho,hex,_⟩:=hS
  exact⟨o,ho,hex.1⟩
 have ltL:=jG hL
 unfold Builtin.List.listExtendWith
 refine wpAny_bind (wpAny_typeOf (T := "set") hT ?_)
 have h1:Builtin.List.listSameRef (.ref L) (.ref S)=false:=by simp[Builtin.List.listSameRef,hSL]
 have h2:(Value.type "set" == Value.type "list")=false:=by decide
 have h3:(Value.type "set" == Value.type "tuple")=false:=by decide
 simp only[h1,h2,h3,Bool.or_false,j7,if_false]
 refine wpAny_bind (y7r hS fun I g1 d vs ss kp lo sw pp sa=>?_)
 obtain⟨P,St,hP,W,st0⟩:=sw
 have W:=W A.in1 hh
 have vl:vs.length=ks.length:=by rw[<- pp.length_eq];exact z3U sa
 have hLf:L∉[I,S,P]:=by
  intro z
  simp only[jH,jt,or_false]at z
  rcases z with z | z | z
  · exact absurd ltL (by rw[z];exact Nat.not_lt.mpr lo)
  · exact hSL z
  · rcases hP with y | y
    · exact hSL (z.trans y)
    · exact absurd ltL (by rw[z];exact Nat.not_lt.mpr y)
 have hL1:=kp _ _ hL
 have hT1:Shared.TypeIs { s with heap:=g1,drawn:=d } (.ref S) "set" := by
  obtain⟨o,ho,hc⟩:=hT
  exact⟨o,kp _ _ ho,hc⟩
 have key:∀ (g:Heap) (c1 tk:Nat),St 0 g->(∀ b o,b≠L->g1.get? b=some o->g.get? b=some o)->g.get? L=some { cls := .type "list",data := .seq #[] c1 } ->
  codeAny (model prog w) A (.builtin "list.extend.loop" ⟨[.ref L,.ref I,res],[]⟩) R { s with heap:=g,toks:=tk,drawn:=d }:=by
  intro g c1 tk hst hk hLg
  refine codeAny_extend_loopS W.toS (by omega) L hLf res vs.length 0 _ #[] c1 rfl (jR _) hst hLg (ItemsOf.nil _) fun s' acc c mv hL' hacc=>?_
  rw[Moved.eq_with mv]
  have ea:acc.toList=vs:=by
   refine List.ext_getElem? fun i=>?_
   rw[kB]
   by_cases hi:i < vs.length
   · have hz:i < acc.size:=by rw[hacc.1];exact hi
     rw[jO hz]
     exact (hacc.2 i _ (jO hz)).symm
   · rw[j8 (by rw[hacc.1];omega),kJ (by omega)]
  refine hR s'.heap s'.toks d acc c ss (fun b o hb e=>mv.heap b o (fun hm=>?_) (hk b o hb (kp b o e))) hL' pp (by rw[ea];exact sa)
  rcases jH.mp hm with z | z
  · exact hb z
  · rw[jP]at z
    exact absurd (jG e) (by rw[z];exact Nat.not_lt.mpr lo)
 refine wpAny_bind (wpAny_holding (y5R hT1 ?_))
 refine wpAny_ite_split (fun _=>?_) (fun _=>wpAny_pure ⟨plainId_quiet PySem.F.plain_extend_loop _,key _ c0 s.toks st0 (fun b o _ e=>e) hL1⟩)
 refine wpAny_bind (wpAny_rule ?_)
 refine wpAny_bind ?_
 show wpAny _ _ (updateSeq L (·.push .none) >>= fun _=>updateSeq L (·.pop)) _ _ _
 refine wpAny_bind (wpAny_updateSeq hL1 rfl ?_)
 have hL2:=jY (Obj.mapSeq (·.push Value.none)) hL1 rfl
 refine wpAny_updateSeq (hz:=by seq_fits) hL2 rfl ?_
 have hL3:=jY (Obj.mapSeq (·.pop)) hL2 rfl
 refine wpAny_pure ⟨plainId_quiet PySem.F.plain_extend_loop _,key _ _ s.toks ?_ (fun b o hb e=>?_) hL3⟩
 · refine W.frame 0 _ _ st0 fun b hb o e=>?_
   have hbL:b≠L:=fun z=>hLf (z ▸ hb)
   exact (jV _ _ (Ne.symm hbL)).trans ((jV _ _ (Ne.symm hbL)).trans e)
 · exact (jV _ _ (Ne.symm hb)).trans ((jV _ _ (Ne.symm hb)).trans e)
theorem y1m{S:Addr}{ks:List Int}{R:List Value->Shared->Prop}(hh:A.handled=none)(hS:SetN w (z5n w) s.heap S ks)(few:ks.length<=sizeLine)
 (k:∀ (g:Heap) (tk:Nat) (d:Drawn) (vs:List Value) (ss:List Int),(∀ b o,s.heap.get? b=some o->g.get? b=some o)->s.heap.objs.size < g.objs.size->ss.Perm ks->IntsAre vs ss->R vs { s with heap:=g,toks:=tk,drawn:=d }):wpAny (model prog w) A (collect (.ref S)) R E s:=by
 have ltS:S < s.heap.objs.size:=by
  obtain⟨o,es,ep,t,ho,_⟩:=hS
  exact jG ho
 unfold collect
 refine wpAny_bind (wpAny_runValue (codeAny_builtin entry_proto_collect' ?_))
 rw[Around.under_plainId PySem.F.plain_proto_collect _]
 show wpAny _ A.in1 (newList [] >>= fun l=>again (.builtin "list.__iadd__" ⟨[l,.ref S],[]⟩)) _ _ s
 refine wpAny_bind (wpAny_newObj_type (wpAny_pure ⟨plainId_quiet PySem.F.plain_list_iadd _,codeAny_builtin entry_list_iadd' ?_⟩))
 rw[Around.under_plainId PySem.F.plain_list_iadd _]
 obtain⟨g0,eg0⟩:∃ g0,g0=s.heap.push { cls := .type "list",data := .seq ([]:List Value).toArray }:=⟨_,rfl⟩
 have at0:g0.get? s.heap.objs.size=some { cls := .type "list",data := .seq #[] 0 }:=by rw[eg0];exact jK _ rfl
 have kp0:∀ b o,s.heap.get? b=some o->g0.get? b=some o:=fun b o e=>by rw[eg0];exact jD _ e
 show wpAny _ A.in1 (Builtin.List.listExtendWith (.ref s.heap.objs.size) (.ref S) (.ref s.heap.objs.size)) _ _ _
 rw[<- eg0]
 have step:=y2M (prog:=prog) (w:=w) (A:=A) (s:={ s with heap:=g0 }) (res := .ref s.heap.objs.size) (R:=fun (q:Result) (s':Shared)=>∃ (g:Heap) (tk:Nat) (d:Drawn) (acc:Array Value) (c:Nat) (ss:List Int),q = .ok (.ret (.ref s.heap.objs.size))/\s'={ s with heap:=g,toks:=tk,drawn:=d }/\(∀ b o,s.heap.get? b=some o->g.get? b=some o)/\g.get? s.heap.objs.size=some { cls := .type "list",dict:=none,data := .seq acc c,slots:=#[] }/\ss.Perm ks/\IntsAre acc.toList ss)
  hh (hS.at fun o e=>kp0 _ o e) at0 (jn ltS) few (fun g tk d acc c ss k1 k2 k3 k4=>⟨g,tk,d,acc,c,ss,rfl,rfl,fun b o e=>k1 b o (jS (jG e)) (kp0 b o e),k2,k3,k4⟩)
 have last:∀ (g:Heap) (tk:Nat) (d:Drawn) (acc:Array Value) (c:Nat) (ss:List Int),(∀ b o,s.heap.get? b=some o->g.get? b=some o)->g.get? s.heap.objs.size=some { cls := .type "list",dict:=none,data := .seq acc c,slots:=#[] }->ss.Perm ks->IntsAre acc.toList ss ->
  wpAny (model prog w) A (load s.heap.objs.size >>= fun o=>match o.data with | .seq xs _=>pure xs.toList | _=>unsupported "internal:collect") R E { s with heap:=g,toks:=tk,drawn:=d }:=fun g tk d acc c ss k1 k2 k3 k4=>wpAny_bind (wpAny_load k2 (wpAny_pure (k g tk d acc.toList ss k1 (jG k2) k3 k4)))
 refine wpAny_mono step (fun fin s2 x=>?_) fun e s2 x=>?_
 · cases fin with
   | done f =>
    obtain⟨g,tk,d,acc,c,ss,e,rfl,y⟩:=x
    cases e
    exact last g tk d acc c ss y.1 y.2.1 y.2.2.1 y.2.2.2
   | again c1 =>
    refine⟨x.1,codeAny_mono x.2 fun q s3 z=>?_⟩
    obtain⟨g,tk,d,acc,c,ss,rfl,rfl,y⟩:=z
    exact last g tk d acc c ss y.1 y.2.1 y.2.2.1 y.2.2.2
 · obtain⟨_,_,_,_,_,_,z,_⟩:=x
   cases z
end
section
variable {X:Cx}{pins:List (Addr×Obj)}{σ:St}{H:Hp}{s:Shared}
theorem z8R{S:Addr}{ks:List Int}{Q:VK}(hc:X.calm=true)(I:Inv X pins σ H s)(hS:SetN X.w (z5n X.w) s.heap S ks)(few:ks.length < 64)
 (q:∀ (l:Addr) (ss:List Int),H l=none->ss.Perm ks->ss.Pairwise (· < ·)->Q (.ref l) (upd H l (.lst (ss.map V.int)))) :
 wpAny (model X.prog X.w) X.A (call (.builtin "sorted") [.ref S]) (EP X pins σ Q) X.xe s:=by
 have hh:X.A.in1.handled=none:=I.ok.hd hc
 have nd:ks.Nodup:=by obtain⟨_,_,_,_,_,_,_,_,n,_⟩:=hS;exact n
 let C:List Value->Shared->Prop:=fun vs s1=>∃ (g:Heap) (tk:Nat) (d:Drawn) (ss:List Int),s1={ s with heap:=g,toks:=tk,drawn:=d }/\(∀ b o,s.heap.get? b=some o->g.get? b=some o)/\s.heap.objs.size < g.objs.size/\ss.Perm ks/\IntsAre vs ss
 have at_:∀ vs s1,C vs s1->∃ ss:List Int,ss.Nodup/\ss.Perm ks/\vs.length=ss.length/\(∀ i,i < vs.length->iv (vs.getD i Value.none)=ss.getD i (0:Int)/\∃ tk,vs.getD i Value.none = .int (ss.getD i (0:Int)) tk):=fun vs s1 hC=>by
  obtain⟨g,tk,d,ss,_,_,_,pp,sa⟩:=hC
  refine⟨ss,pp.nodup_iff.mpr nd,pp,z3U sa,fun i hi=>?_⟩
  obtain⟨tk,e⟩:=z7v sa i hi
  exact⟨by rw[e];rfl,tk,e⟩
 refine z3M (C:=C) (fun E' R hR=>y1m (A:=X.A.in1) hh hS (by rw[sizeLine_eq];omega) fun g tk d vs ss k1 k2 k3 k4=>hR _ _ ⟨g,tk,d,ss,rfl,k1,k2,k3,k4⟩) (fun vs s1 hC=>?_) oneType' (fun vs _ i j=>decide (iv (vs.getD i Value.none) < iv (vs.getD j Value.none))) (fun vs s1 hC=>?_) (fun vs s1 hC two g2 kp2 R hR=>?_) (fun vs s1 hC g2 kp2 i j Z hi hj hij hZ=>?_) (fun vs s1 hC p g2 c pm sr kp2 hg=>?_)
 · obtain⟨ss,_,pp,l,_⟩:=at_ vs s1 hC
   rw[l,pp.length_eq];exact few
 · obtain⟨ss,ns,pp,l,at2⟩:=at_ vs s1 hC
   refine⟨fun i j k _ _ _ h1 h2=>decide_eq_true (Int.lt_trans (of_decide_eq_true h1) (of_decide_eq_true h2)),fun i j hi hj hij h=>decide_eq_true (y5O (fun z=>?_) (of_decide_eq_false h))⟩
   rw[(at2 i hi).1,(at2 j hj).1]at z
   have hi':i < ss.length:=by omega
   have hj':j < ss.length:=by omega
   simp only[List.getD,jB hi',jB hj',Option.getD_some]at z
   exact hij ((List.getElem_inj ns).mp z)
 · obtain⟨ss,ns,pp,l,at2⟩:=at_ vs s1 hC
   refine kas_kind (T := .type "int") two (fun v hv=>?_) (by decide) (by decide) hR
   obtain⟨i,hi,rfl⟩:=kP.mp hv
   obtain⟨_,tk,e⟩:=at2 i hi
   simp only[List.getD,jB hi,Option.getD_some]at e
   rw[e]
   exact .now
 · obtain⟨ss,ns,pp,l,at2⟩:=at_ vs s1 hC
   obtain⟨e1,t1,f1⟩:=at2 i hi
   obtain⟨e2,t2,f2⟩:=at2 j hj
   rw[f1,f2]
   rw[e1,e2]at hZ
   rw[keyLt'_oneType]
   exact oneLt_int hZ
 · obtain⟨ss,ns,pp,l,at2⟩:=at_ vs s1 hC
   obtain⟨g,tk,d,_,rfl,kp,up,_,_⟩:=hC
   dsimp only at kp2 hg ⊢
   have pz:p.toList.length=ss.length:=by rw[jT,pm.size];exact l
   have pin:∀ i∈p.toList,i < ss.length:=fun i hi=>by
    have:=pm.mem_iff.mp (Array.mem_toList_iff.mp hi)
    rw[<- l];simpa using this
   have perm:(p.toList.map fun i=>ss.getD i (0:Int)).Perm ss:=by
    have e1:(List.range ss.length).map (fun i=>ss.getD i (0:Int))=ss:=by
     refine kS (by simp) fun i h1 h2=>?_
     simp[List.getD,h2]
    have:=(show p.toList.Perm (List.range vs.length) from Array.perm_iff_toList_perm.mp pm).map fun i=>ss.getD i (0:Int)
    rw[l]at this
    rwa [e1]at this
   have fr:H g.objs.size=none:=I.hok.fresh (kE up)
   have kp3:∀ b o,s.heap.get? b=some o->g2.get? b=some o:=fun b o z=>kp2 b o (kp b o z)
   refine⟨.ref g.objs.size,upd H g.objs.size (.lst ((p.toList.map fun i=>ss.getD i (0:Int)).map V.int)),(I.drawn d).laid (t':=tk) kp3 (kE up) (show ObjOk X.prog X.w _ g2 _ (.lst ((p.toList.map fun i=>ss.getD i (0:Int)).map V.int)) from ⟨by rw[jA,jA,pz,pp.length_eq,sizeLine_eq];omega,z3d vs p,c,?_,hg⟩),rfl,q _ _ fr (perm.trans pp) ?_⟩
   · unfold z3d
     have:∀ pl:List Nat,(∀ i∈pl,i < ss.length)->Vals ((pl.map fun i=>ss.getD i (0:Int)).map V.int) (pl.map fun i=>vs.getD i Value.none):=fun pl=>by
      induction pl with
      | nil=>intro _;exact .nil
      | cons i pl ih =>
       intro hp
       obtain⟨_,t1,f1⟩:=at2 i (by rw[l];exact hp i (by simp))
       rw[jj,jj,jj,f1]
       exact .cons ⟨_,rfl⟩ (ih fun k hk=>hp k (by simp[hk]))
     exact this p.toList pin
   · rw[j5]
     refine kH.mpr fun i j hi hj hij=>?_
     have h0:=of_decide_eq_true (sr i j hij (by omega))
     have g1:p.getD i 0=p.toList[i]:=by simp[Array.getD,show i < p.size by simpa using hi]
     have g3:p.getD j 0=p.toList[j]:=by simp[Array.getD,show j < p.size by simpa using hj]
     rw[g1,g3,(at2 _ (by rw[l];exact pin _ (jZ hi))).1,(at2 _ (by rw[l];exact pin _ (jZ hj))).1]at h0
     exact h0
def z5s(K:PySem.W.Frag)(te:TE):TE:=fun σ H Q=>te σ H fun x H1=>∃ (a:Addr) (ns:List Int),x = .ref a/\SqL K H1 a (ns.map V.int)/\ns.length<=4000/\(∀ ks:List Int,ks.Nodup->(∀ k∈ks,k∈ns)->ks.length < 64) /\
 ∀ (l:Addr) (ss:List Int),H1 l=none->(∀ k,k∈ss↔k∈ns)->ss.Pairwise (· < ·)->Q (.ref l) (upd H1 l (.lst (ss.map V.int)))
theorem y3Q{ns:List Int}{its:List Value}(r:Vals (ns.map V.int) its):∀ (i:Nat) (v:Value),its.toArray[i]? = some v->∃ t,v = .int (ns.getD i (0:Int)) t:=fun i v hv=>by
 rw[kW]at hv
 have sa:=z3D r
 have hi:i < its.length:=(jE.mp hv).1
 obtain⟨tk,e⟩:=z7v sa i hi
 simp only[List.getD,hv,Option.getD_some]at e
 exact⟨tk,e⟩
theorem z5F{e:Expr}{te:TE}{p p2 cp pos:Pos}(K:PySem.W.Frag)(hK:X.K=K)(hc:X.calm=true)(hg:Gl X "sorted")(hm:X.mg "sorted" = none)(hv:bootBuiltins "sorted" = some (.builtin "sorted"))(hg2:Gl X "set")(hm2:X.mg "set" = none)(hv2:bootBuiltins "set" = some (.type "set"))(ho:PE X e te)
 (he:starEach [e] X.env=[(false,eval e X.env)]:=by rfl):PE X (.Call (.Name "sorted" p) [.Call (.Name "set" p2) [e] [] cp] [] pos) (z5s K te):=by
 subst hK
 intro pins s σ H Q I h
 refine wpAny_Call_Name_kw (z3g I hg hm hv ?_ (by decide) (by decide))
 refine PyProof.Rows.callWith_builtin1 ?_ rfl rfl
 show wpAny _ _ (spliced [(false,eval (.Call (.Name "set" p2) [e] [] cp) X.env)]) _ _ s
 refine Calls.spliced_cons (wpAny_Call_Name_kw (z3g I hg2 hm2 hv2 ?_ (by decide) (by decide)))
 refine PyProof.Rows.callWith_type1 ?_ he rfl
 rw[he]
 show wpAny _ _ (spliced [(false,eval e X.env)]) _ _ s
 refine Calls.spliced_cons (thn (ho pins s σ H _ I h) fun v s1 ⟨x,H1,I1,r1,a,ns,ex,sq,n4,few,k⟩=>?_)
 subst ex
 obtain rfl:v=Value.ref a:=r1
 refine Calls.spliced_nil ?_
 have hh:X.A.handled=none:=I1.ok.hd hc
 have rest:∀ (n:Nat) (h':Heap) (tk:Nat) (ks:List Int),n=ns.length->(∀ b o,s1.heap.get? b=some o->h'.get? b=some o)->SetN X.w (z5n X.w) h' s1.heap.objs.size ks->(∀ x,x∈ks↔∃ j,j < n/\ns.getD j (0:Int)=x) ->
  wpAny (model X.prog X.w) X.A (spliced []) (fun vs s₂=>wpAny (model X.prog X.w) X.A (call (.builtin "sorted") (Value.ref s1.heap.objs.size :: vs)) (EP X pins σ Q) X.xe s₂) X.xe { s1 with heap:=h',toks:=tk }:=fun n h' tk ks en kp hS hm=>by
  refine Calls.spliced_nil ?_
  have I2:=I1.kept (h':=h') (t':=tk) kp
  have mem:∀ x,x∈ks↔x∈ns:=fun x=>by
   rw[hm x,kP]
   constructor
   · rintro⟨j,h1,h2⟩
     have hj:j < ns.length:=by omega
     exact⟨j,hj,by rw[<- h2];simp[List.getD,hj]⟩
   · rintro⟨j,hj,h2⟩
     exact⟨j,by omega,by rw[<- h2];simp[List.getD,hj]⟩
  have nd:ks.Nodup:=by obtain⟨_,_,_,_,_,_,_,_,z,_⟩:=hS;exact z
  exact z8R hc I2 hS (few ks nd fun x hx=>(mem x).mp hx) fun l ss hl pp pw=>k l ss hl (fun x=>pp.mem_iff.trans (mem x)) pw
 obtain⟨its,rv,pl,lz⟩:=I1.list sq
 have vl:=rv.length
 rw[jA]at vl
 refine y7t (y4Y a its.toArray) hh pl.isList (fun i=>ns.getD i (0:Int)) (y3Q rv) (by rw[jI];unfold scanBound;omega) fun h' tk ks kp hS hm=>?_
 exact rest _ h' tk ks (by rw[jI];exact vl.symm) kp hS hm
end
theorem z2D:entryFor table "dict.update.loop" = some Builtin.«dict.update.loop»:=entryFor_of_fast (by kernel_rfl)
theorem z1i:plainId "dict.update.loop" = true:=by decide +kernel
section
variable {X:Cx}{pins:List (Addr×Obj)}{σ:St}{H:Hp}{s:Shared}{a:Addr}{kvs:List (Key×V)}
theorem Inv.freeze(I:Inv X pins σ H s)(e:H a=some (.dK kvs)):∃ o,s.heap.get? a=some o/\Inv X pins σ (upd H a (.frz o (.dK kvs))) s:=by
 obtain⟨z1,hd,vs,rel,dd⟩:=y6c I.hok e
 obtain⟨o,es,ep,ho,r⟩:=id dd
 refine⟨o,ho,?_⟩
 have:=I.write (x:=a) (e:=a) (o := .frz o (.dK kvs)) (h':=s.heap) (t':=s.toks) (by rw[e];exact True.intro) (.inl rfl) (fun b u _ q=>q) ⟨o,ho⟩ ⟨ho,z1,hd,vs,rel,dd⟩
 exact this
end
theorem x1C{P:Program}{w:World}{k:Key}{u:Value}(h:(z0D P w).is k u=true):RelV (kV k) u:=by
 rw[y1A]at h
 rcases z0U h with ⟨i,t,rfl,rfl⟩ | ⟨x,t,rfl,rfl⟩
 · exact⟨t,rfl⟩
 · exact⟨t,rfl⟩
theorem y1K{P:Program}{w:World}{H:Hp}{h:Heap}{a:Addr}{o:Obj}{kvs:List (Key×V)}{es:Array DictEntry}{ep:Nat}(x:ObjOk P w H h a (.frz o (.dK kvs)))(hd:o.data = .dict es ep) :
 h.get? a=some o/\es.size=kvs.length/\∀ (i:Nat) (hi:i < es.size) (kv:Key×V),kvs[i]? = some kv->RelV (kV kv.1) es[i].key:=by
 obtain⟨ho,z1,_,vs,rel,o2,es2,ep2,h1,h2,h3,ko,hp,nd⟩:=x
 rw[ho]at h1;cases h1
 rw[hd]at h3;cases h3
 have hl:es.size=kvs.length:=by rw[rel.length,<- hp.length,jT]
 refine⟨ho,hl,fun i hi kv e=>?_⟩
 obtain⟨q,hq,e1,_⟩:=z8d rel e
 obtain⟨hk,_⟩:=hp.get? (e:=es[i]) (by simp[hi]) hq
 rw[e1]
 exact x1C hk
theorem z8e{α β:Type}{F:α->β->Prop}:∀ {l:List α}{m:List β},Paired F l m->∀ {i:Nat}{x:α}{y:β},l[i]? = some x->m[i]? = some y->F x y
 | _,_,.nil,i,_,_,e,_=>by simp at e
 | _,_,.cons h t,0,_,_,e1,e2=>by simp at e1 e2;subst e1 e2;exact h
 | _,_,.cons h t,i + 1,_,_,e1,e2=>z8e t (i:=i) (by simpa using e1) (by simpa using e2)
theorem z6g:∀ {ss:List Str}{vs:List Value},vs.length=ss.length->(∀ (i:Nat) (k:Str),ss[i]? = some k->∃ t,vs[i]? = some (.str k t))->StrsAre vs ss
 | [],[],_,_ => .nil
 | [],_ :: _,h,_=>by simp at h
 | _ :: _,[],h,_=>by simp at h
 | k :: ss,v :: vs,h,q=>by
  obtain⟨t,e⟩:=q 0 k rfl
  have e:v = .str k t:=by simpa using e
  subst e
  exact .cons _ _ (z6g (by simpa using h) fun i k' e'=>by simpa using q (i + 1) k' (by simpa using e'))
theorem y8i{kvs:List (Key×V)}{vs:List (Key×Value)}(r:KV kvs vs):kvs.map (·.1)=vs.map (·.1):=by
 induction r with
 | nil=>rfl
 | cons h _ ih=>rw[jj,jj,ih,h.1]
section
variable {X:Cx}{pins:List (Addr×Obj)}{σ:St}{H:Hp}{s:Shared}
theorem y5L{a:Addr}{kvs:List (Key×V)}{ns:List Str}(I:Inv X pins σ H s)(e:H a=some (.dK kvs))(hk:kvs.map (·.1)=ns.map Sum.inr) :
 ns.Nodup/\(a == sysModules)=false/\∃ (o:Obj) (es:Array DictEntry) (ep:Nat),s.heap.get? a=some o/\o.cls = .type "dict" /\ o.data = .dict es ep/\es.size=ns.length/\es.size<=sizeLine /\
  ∀ acc:Array Value,ItemsOf (fun i v=>∃ e,es[i]? = some e/\v=e.key) acc es.size->StrsAre acc.toList ns:=by
 obtain⟨z1,lo,vs,rel,dd⟩:=y6c I.hok e
 obtain⟨o,es,ep,ho,h2,hdat,ko,hp,nd⟩:=dd
 have ln:kvs.length=ns.length:=by have:=congrArg List.length hk;simpa using this
 obtain⟨o',ho',I2⟩:=I.freeze e
 rw[ho]at ho';cases ho'
 obtain⟨_,hl,hrel⟩:=y1K (I2.hok a _ z0c) hdat
 have nd':ns.Nodup:=by
  have e1:kvs.map (·.1)=vs.map (·.1):=y8i rel
  rw[<- e1,hk]at nd
  exact List.Pairwise.imp (fun {a b} h z=>h (by rw[z])) (j5.mp nd)
 refine⟨nd',lo,o,es,ep,ho,h2.1,hdat,by rw[hl,ln],by rw[hl];exact z1,fun acc ia=>z6g (by rw[jT,ia.1,hl,ln]) fun i k hk'=>?_⟩
 have hi:i < es.size:=by rw[hl,ln];exact (jE.mp hk').1
 have hz:i < acc.size:=by rw[ia.1];exact hi
 have hik:i < kvs.length:=by rw[<- hl];exact hi
 obtain⟨en,e1,e2⟩:=ia.2 i acc[i] (jO hz)
 rw[jO hi]at e1
 cases e1
 have ek:kvs[i].1=Sum.inr k:=by
  have h1:(kvs.map (·.1))[i]? = some kvs[i].1:=by rw[jC,jB hik];rfl
  rw[hk,jC,hk']at h1
  exact (Option.some.inj h1).symm
 have:=hrel i hi kvs[i] (jB hik)
 rw[ek]at this
 obtain⟨t,et⟩:∃ t,es[i].key = .str k t:=this
 exact⟨t,by rw[kB,jO hz,e2,et]⟩
end
section
variable {X:Cx}
theorem y1O(hc:X.calm=true):CallR X (.type "list") (fun vs H Q=>∃ (a:Addr) (kvs:List (Key×V)) (ns:List Str),vs=[.ref a]/\H a=some (.dK kvs)/\kvs.map (·.1)=ns.map Sum.inr /\
 ∀ l,H l=none->Q (.ref l) (upd H l (.lst (ns.map V.str)))):=by
 intro pins s σ H xs us Q I r h
 obtain⟨a,kvs,ns,rfl,e,hk,q⟩:=h
 obtain⟨u,rfl,rx⟩:=z3L r
 cases rx
 have hh:X.A.handled=none:=I.ok.hd hc
 obtain⟨nd,lo,o,es,ep,ho,hcl,hdat,el,big,col⟩:=y5L I e hk
 refine kdl_call (y9h (es:=es) (ep:=ep) lo) hh ⟨o,ho,hcl,hdat⟩ big fun h' tk acc c kp hl ia=>?_
 have fr:H s.heap.objs.size=none:=I.hok.fresh (jF _)
 exact⟨.ref s.heap.objs.size,_,I.laid (t':=tk) kp (jF _) (show ObjOk X.prog X.w _ h' _ (.lst (ns.map V.str)) from ⟨by rw[jA,<- el];exact big,acc.toList,c,z1V (col acc ia),by simpa using hl⟩),rfl,q _ fr⟩
end
end L2
namespace L2
open PySem PySem.Spec PyProof.Rows
def z9u(Da:Addr)(H:Hp):Hp:=fun b=>if b=Da then none else H b
theorem y3V{Da b:Addr}{H:Hp}(h:b≠Da):z9u Da H b=H b:=if_neg h
theorem y8q(Da:Addr)(H:Hp):Same (z9u Da H) H:=fun b o q=>by
 unfold z9u at q
 split at q
 · cases q
 · exact q
theorem y5U(Da:Addr)(H:Hp)(o:HO):z9u Da (upd H Da o)=z9u Da H:=funext fun b=>by
 unfold z9u
 split
 · rfl
 · rename_i h;exact z0n h
theorem z8t{Da:Addr}{H H':Hp}(s:Same H H'):Same (z9u Da H) (z9u Da H'):=fun b o q=>by
 unfold z9u at q ⊢
 split at q
 · cases q
 · rename_i h
   rw[if_neg h];exact s b o q
theorem y6f{α:Type}{J:It}{ix:List Nat}{tt:TT}{te:TE}{σ:St}{H:Hp}{Q:VK}(P:Hp->α->V->Prop)(mono:∀ {H H':Hp}{a:α}{v:V},Same H H'->P H a v->P H' a v)(n:Nat)(xs:Nat->V)(fs:List (Option α))(hn:fs.length=n)(hz:n<=sizeLine)
 (hstop:∀ H',Same H H'->J.stop n H') (hgo:∀ i H',i < n->Same H H'->J.go i H'/\∀ x H'',J.yld i H' x H''->x=xs i/\H''=H')
 (test:∀ (i:Nat) (o:Option α) (H':Hp) (R:Bool->Hp->Prop),i < n->fs[i]? = some o->Same H H'->(∀ H'',Same H' H''->R o.isSome H'')->tt (some (xs i) :: cap ix σ) H' R)
 (step:∀ (i:Nat) (a:α) (Da:Addr) (H':Hp) (R:VK),i < n->fs[i]? = some (some a)->Same H H'->H Da=none->(∃ o,H' Da=some o)->(∀ y H'',Same H' H''->P (z9u Da H'') a y->R y H'')->te (some (xs i) :: cap ix σ) H' R)
 (fin:∀ p H' ys,Same H H'->H p=none->H' p=some (.lst ys)->Paired (P H') (fs.filterMap id) ys->Q (.ref p) H'):y8X ix tt te σ Q J H:=by
 intro Da hD
 refine⟨fun i m H'=>m=n - i/\i<=n/\Same H H'/\∃ ys,H' Da=some (.lst ys)/\Paired (P (z9u Da H')) ((fs.take i).filterMap id) ys,⟨n,by simp,jR _,z0e hD _,[],z0c,.nil⟩,?_⟩
 rintro i m H' ⟨rfl,hi,sm,ys,eD,pr⟩
 by_cases hlt:i < n
 · obtain⟨g,y⟩:=hgo i H' hlt sm
   refine .inr ⟨g,fun x H'' hy=>?_⟩
   obtain⟨rfl,rfl⟩:=y x H'' hy
   have hi':i < fs.length:=by omega
   have ei:fs[i]? = some fs[i]:=jB hi'
   have tk:(fs.take (i + 1)).filterMap id=(fs.take i).filterMap id ++ [fs[i]].filterMap id:=by rw[jL hi',List.filterMap_append]
   refine test i fs[i] H'' _ hlt ei sm fun H2 s2=>?_
   have pr2:Paired (P (z9u Da H2)) ((fs.take i).filterMap id) ys:=Paired.mapP pr fun _ _ h=>mono (z8t s2) h
   have eD2:=s2 _ _ eD
   cases ho:fs[i] with
   | none =>
    dsimp only[Option.isSome]
    rw[if_neg jN]
    refine⟨n - (i + 1),by omega,rfl,hlt,sm.trans s2,ys,eD2,?_⟩
    rw[tk,ho]
    simpa using pr2
   | some a =>
    dsimp only[Option.isSome]
    rw[if_pos rfl]
    refine step i a Da H2 _ hlt (by rw[ei,ho]) (sm.trans s2) hD ⟨_,eD2⟩ fun y H3 s3 hy=>?_
    have e3:=s3 _ _ eD2
    have pr3:Paired (P (z9u Da H3)) ((fs.take i).filterMap id) ys:=Paired.mapP pr2 fun _ _ h=>mono (z8t s3) h
    have ly:=pr3.length
    have lf:=List.length_filterMap_le id (fs.take i)
    rw[jg]at lf
    refine⟨ys,e3,by omega,n - (i + 1),by omega,rfl,hlt,z0G hD ((sm.trans s2).trans s3),ys ++ [y],z0c,?_⟩
    rw[tk,ho,y5U]
    exact Paired.snoc pr3 hy
 · have e:i=n:=by omega
   subst e
   rw[js (by omega)]at pr
   exact .inl ⟨hstop H' sm,fin Da H' ys sm hD eD (Paired.mapP pr fun _ _ h=>mono (y8q _ _) h)⟩
theorem z8y{α:Type}{J:It}{ix:List Nat}{te:TE}{σ:St}{H:Hp}{Q:VK}(P:Hp->α->V->Prop)(mono:∀ {H H':Hp}{a:α}{v:V},Same H H'->P H a v->P H' a v)(n:Nat)(xs:Nat->V)(fs:List α)(hn:fs.length=n)(hz:n<=sizeLine)
 (hstop:∀ H',Same H H'->J.stop n H') (hgo:∀ i H',i < n->Same H H'->J.go i H'/\∀ x H'',J.yld i H' x H''->x=xs i/\H''=H')
 (step:∀ (i:Nat) (a:α) (Da:Addr) (H':Hp) (R:VK),i < n->fs[i]? = some a->Same H H'->H Da=none->(∃ o,H' Da=some o)->(∀ y H'',Same H' H''->P (z9u Da H'') a y->R y H'')->te (some (xs i) :: cap ix σ) H' R)
 (fin:∀ p H' ys,Same H H'->H p=none->H' p=some (.lst ys)->Paired (P H') fs ys->Q (.ref p) H'):z1m ix te σ Q J H:=by
 have em:(fs.map some).filterMap id=fs:=by rw[List.filterMap_map];exact List.filterMap_some
 refine y6f (tt:=z6G) P mono n xs (fs.map some) (by rw[jA];exact hn) hz hstop hgo (fun i o H' R hi ei sm h=>?_) (fun i a Da H' R hi ei=>step i a Da H' R hi ?_) fun p H' ys s1 s2 s3 s4=>fin p H' ys s1 s2 s3 (em ▸ s4)
 · rw[jC]at ei
   obtain⟨a,_,rfl⟩:=jo.mp ei
   exact h H' (Same.refl H')
 · rw[jC]at ei
   obtain⟨b,h1,h2⟩:=jo.mp ei
   rw[h1];exact h2
end L2
namespace PySem
section
variable {prog:Program}{w:World}{A:Around}{E:Value->Shared->Prop}{R:Result->Shared->Prop}{s:Shared}
theorem z3X{elt target iter:Expr}{ifs:List Expr}{scope:Scope}{pos:Pos}{it acc:Value}{env:Env}(I:Nat->Shared->Prop)
 (turn:∀ n s,I n s->wpAny (model prog w) A (pyNext it) (fun r s₁=>match r with
  | none=>R (.ok .next) s₁
  | some v=>wpAny (model prog w) A (letOwnedTupleGo target it v) (fun _ s₁'=>wpAny (model prog w) A (assign target env v) (fun _ s₂ =>
   wpAny (model prog w) A (forIn ifs true fun c r=>if r=true then do let ok <- isTrue c env (eval c env);pure (ForInStep.yield ok) else pure (ForInStep.yield r)) (fun ok s₃ =>
    if ok=true then wpAny (model prog w) A (eval elt env) (fun x s₄ =>
     wpAny (model prog w) A (call (.builtin "list.append") [acc,x]) (fun _ s₅=>∃ m,m < n/\I m s₅) (notedBy (model prog w) A env fun e s'=>R (.error e) s') s₄) (notedBy (model prog w) A env fun e s'=>R (.error e) s') s₃
    else ∃ m,m < n/\I m s₃) (notedBy (model prog w) A env fun e s'=>R (.error e) s') s₂) (notedBy (model prog w) A env fun e s'=>R (.error e) s') s₁') (notedBy (model prog w) A env fun e s'=>R (.error e) s') s₁) (notedBy (model prog w) A env fun e s'=>R (.error e) s') s)
 (n:Nat) (h:I n s) :
 codeAny (model prog w) A (.compLoop (.ListComp elt [⟨target,iter,ifs,0⟩] scope pos) 0 it acc env) R s:=by
 refine codeAny_loop rfl I (fun n s hI=>?_) n h
 show wpAny _ A ((compTurn (.ListComp elt [⟨target,iter,ifs,0⟩] scope pos) 0 it acc env).onRaise (fun x=>do noteFrame x env;theTreesLotGoes x)) _ _ s
 refine wpAny_noted ?_
 rw[compTurn_list]
 refine wpAny_bind (wpAny_standAt (wpAny_bind (wpAny_mono (turn n s hI) (fun r s₁ h₁=>?_) fun _ _ h'=>h')))
 cases r with
 | none=>exact wpAny_pure h₁
 | some v =>
  refine wpAny_bind (wpAny_mono h₁ (fun _ s₁' h₁'=>?_) fun _ _ h'=>h')
  refine wpAny_bind (wpAny_mono h₁' (fun _ s₂ h₂=>wpAny_bind (wpAny_mono h₂ (fun ok s₃ h₃=>?_) fun _ _ h'=>h')) fun _ _ h'=>h')
  cases ok with
  | false=>exact wpAny_pure ⟨rfl,h₃⟩
  | true =>
   exact wpAny_bind (wpAny_bind (wpAny_mono h₃ (fun x s₄ h₄=>wpAny_bind (wpAny_mono h₄ (fun _ s₅ h₅=>wpAny_pure (wpAny_pure ⟨rfl,h₅⟩)) fun _ _ h'=>h')) fun _ _ h'=>h'))
end
end PySem
namespace L2
open PySem PySem.Spec PyProof.Rows
section
variable {X:Cx}
def z6e(K:PySem.W.Frag)(ix:List Nat)(wi:TI)(tt:TT)(te:TE):TE:=fun σ H Q=>wi σ H fun J H1=>∀ D,H1 D=none->∃ W:Nat->Nat->Hp->Prop,(∃ m,W 0 m (upd H1 D (.lst []))) /\
 ∀ i m H,W i m H->(J.stop i H/\Q (.ref D) H)\/(J.go i H/\∀ x H',J.yld i H x H'->∃ t a b,x = .ref t/\SqT K H' t [a,b]/\tt (some a :: some b :: cap ix σ) H' fun ok H2 =>
  if ok=true then te (some a :: some b :: cap ix σ) H2 fun y H3=>∃ ys,H3 D=some (.lst ys)/\ys.length < sizeLine/\∃ m',m' < m/\W (i + 1) m' (upd H3 D (.lst (ys ++ [y]))) else ∃ m',m' < m/\W (i + 1) m' H2)
def z1A(X:Cx)(x z:Str)(M:List Str)(scope:Scope)(cl:List (Str×Addr))(C:Addr)(pins:List (Addr×Obj))(fp:List Addr)(s:Shared)(H:Hp):Cx where
 prog:=X.prog
 w:=X.w
 K:=X.K
 mg:=X.mg
 base:=X.base
 A:=X.A
 N:=x :: z :: M
 s₀:=s
 H₀:=H
 env:=compEnvC scope cl C X.env
 outer:=X.stack
 stack:=X.stack
 ex:=fp
 calm:=X.calm
 fn:=fun _=>false
 pn:=X.pn ++ pins
 xe:=fun _ _=>False
structure CompOk2 (X:Cx) (x z:Str) (M:List Str) (ix:List Nat) (scope:Scope) (cl:List (Str×Addr)):Prop extends CompOk X x M ix scope cl where
 loc2:scope.names.lookup z=some .local
abbrev y4K(x z:Str)(px pz pt:Pos)(k:Nat):Expr := .Tuple [.Name x px,.Name z pz] k pt
theorem y3O{x z:Str}{M:List Str}{ix:List Nat}{scope:Scope}{cl:List (Str×Addr)}{pins:List (Addr×Obj)}{σ:St}{H:Hp}{s:Shared}{fp:List Addr}{h4:Heap}{tk:Nat}{m:Str->Option Value}(O:CompOk2 X x z M ix scope cl)(I:Inv X pins σ H s)
 (hfp:∀ b∈fp,FpOk X pins H b/\∃ o,s.heap.get? b=some o) (hn:h4.Ns s.heap.objs.size m) (hk:∀ b o,s.heap.get? b=some o->h4.get? b=some o) :
 Inv (z1A X x z M scope cl s.heap.objs.size pins fp s H) [] (none :: none :: cap ix σ) H { s with heap:=h4,toks:=tk }:=by
 have fresh:H s.heap.objs.size=none:=I.hok.fresh (jF _)
 have ex1:∀ b∈fp,b≠s.heap.objs.size:=fun b hb z=>by
  obtain⟨_,o,e⟩:=hfp b hb
  exact absurd (jG e) (by rw[z];exact jr _)
 have cellOf:∀ y c,cl.lookup y=some c->X.env.cells.lookup y=some c:=O.sub
 refine⟨⟨I.ok.mod,O.kind,I.ok.glob,I.ok.blt,jF _,fun y z c h1 h2=>I.ok.inj y z c (O.sub y c h1) (O.sub z c h2),fun y hy=>O.has y hy,fun y c h=>(nomatch h),I.ok.hd,I.ok.frames,.inl rfl,fun b hb=>⟨ex1 b hb,fun y c e=>(hfp b hb).1.2.2.2.2.1 y c (O.sub y c e)⟩,
  I.bs,jc I.ok.bsz I.sz,fun b o e hb=>?_,fun b hb z=>?_,I.stack,I.stkFree⟩,rfl,I.bare,Un.kept hk,⟨m,hn,fun i y v h1 h2 h3=>?_⟩,fun y c e=>?_,fresh,fun y c e=>I.freeC y c (O.sub y c e),fun p hp=>?_,I.hok.kept hk,?_⟩
 · have f:=(hfp b hb).1.2.2.2.1
   rcases f with f | f
   · exact I.ok.noex b o e f
   · exact absurd (jW (jG e) (jc I.ok.bsz f)) (jr _)
 · rcases jH.mp (I.stkSub b z) with q | q
   · exact (hfp b hb).1.2.1 q
   · exact (hfp b hb).1.2.2.1 q
 · cases i with
   | zero=>exact absurd (show (none:Option V)=some v from Option.some.inj h2) (fun z=>nomatch z)
   | succ i =>
    cases i with
    | zero=>exact absurd (show (none:Option V)=some v from Option.some.inj h2) (fun z=>nomatch z)
    | succ i =>
     have h1':M[i]? = some y:=h1
     have h2':(ix.map fun i=>(σ[i]?).getD none)[i]? = some (some v):=h2
     rw[jC]at h2'
     cases ej:ix[i]? with
     | none=>rw[ej]at h2';cases h2'
     | some j =>
      rw[ej]at h2'
      have h2'':(σ[j]?).getD none=some v:=Option.some.inj h2'
      obtain⟨hN,hV,c,hc,hk',hnl⟩:=O.cap i y j h1' ej
      cases eσ:σ[j]? with
      | none=>rw[eσ]at h2'';cases h2''
      | some ov =>
       rw[eσ]at h2''
       have:ov=some v:=h2''
       subst this
       obtain⟨mm,hnn,hl⟩:=I.loc
       obtain⟨u,r,l⟩:=hl j y v hN eσ hV
       refine⟨u,r,?_⟩
       rcases l with ⟨k,_⟩ | ⟨k,c',e',z⟩
       · exact absurd k hnl
       · have:c'=c:=Option.some.inj (e'.symm.trans (O.sub y c hc))
         subst this
         obtain⟨o,ho,hd⟩:=z
         exact .inr ⟨hk',c',hc,o,hk _ _ ho,hd⟩
 · obtain⟨v,o,ho,hd⟩:=I.cell y c (O.sub y c e)
   exact⟨v,o,hk _ _ ho,hd⟩
 · have hp':p∈X.pn ++ pins:=by
    have:=(ji.mp hp)
    exact this.elim id fun z=>absurd z (by simp)
   obtain⟨e,n,ne,nf,d⟩:=I.pin p hp'
   refine⟨hk _ _ e,n,fun z=>?_,fun z=>?_,d⟩
   · exact absurd (jG e) (by rw[show p.1=s.heap.objs.size from z];exact jr _)
   · rcases jH.mp (I.stkSub _ z) with q | q
     · exact ne q
     · exact nf q
 · show (none :: none :: ix.map _).length=(x :: z :: M).length
   simp[O.len]
end
section
variable {X:Cx}
theorem z8w{elt iter:Expr}{x z:Str}{px pz pt:Pos}{kk:Nat}{ifs:List Expr}{scope:Scope}{cl:List (Str×Addr)}{pos:Pos}{M:List Str}{ix:List Nat}{tt:TT}{te:TE}{pins:List (Addr×Obj)}{σ:St}{H2:Hp}{s2:Shared}{it:Addr}{fp:List Addr}{tn:Nat->Heap->Prop}{J:It}
 (O:CompOk2 X x z M ix scope cl) (hc:X.calm=true) (nd:(x :: z :: M).Nodup)
 (ht:∀ C pins fp s H,PTs (z1A X x z M scope cl C pins fp s H) ifs tt) (he:∀ C pins fp s H,PE (z1A X x z M scope cl C pins fp s H) elt te)
 (I2:Inv X pins σ H2 s2) (T:Turn X.prog X.w X.K (y4K x z px pz pt kk) J fp it tn) (st2:tn 0 s2.heap) (f2:∀ b∈fp,FpOk X pins H2 b)
 {RR:Value->Addr->Result->Shared->Prop}{E:Value->Shared->Prop}{Q:VK}
 (h:∀ D,H2 D=none->∃ W:Nat->Nat->Hp->Prop,(∃ m,W 0 m (upd H2 D (.lst []))) /\
  ∀ i m H,W i m H->(J.stop i H/\Q (.ref D) H)\/(J.go i H/\∀ x H',J.yld i H x H'->∃ t a b,x = .ref t/\SqT X.K H' t [a,b]/\tt (some a :: some b :: cap ix σ) H' fun ok H2 =>
   if ok=true then te (some a :: some b :: cap ix σ) H2 fun y H3=>∃ ys,H3 D=some (.lst ys)/\ys.length < sizeLine/\∃ m',m' < m/\W (i + 1) m' (upd H3 D (.lst (ys ++ [y]))) else ∃ m',m' < m/\W (i + 1) m' H2))
 (hR:∀ (C D:Addr) (H':Hp) (s':Shared) (m:Str->Option Value),Inv X pins σ H' s'->Q (.ref D) H'->s'.heap.Ns C m->H' C=none->C≠X.env.locals->X.s₀.heap.objs.size<=C->(∀ y c,X.env.cells.lookup y=some c->c≠C)->(∀ p∈X.pn ++ pins,p.1≠C)->RR (.ref D) C (.ok .next) s') :
 wpAny (model X.prog X.w) X.A (newList []) (fun acc s₃=>wpAny (model X.prog X.w) X.A (newFunctionEnv scope X.env.globals cl [] X.env.qual none .none (some X.env)) (fun cenv s₄ =>
  codeAny (model X.prog X.w) X.A (.compStart (.ListComp elt [⟨y4K x z px pz pt kk,iter,ifs,0⟩] scope pos) 0 (.ref it) acc { cenv with scope:=relabel scope X.env }) (RR acc cenv.locals) s₄) E s₃) E s2:=by
 have hD:H2 s2.heap.objs.size=none:=I2.hok.fresh (jF _)
 obtain⟨W,⟨m0,w0⟩,turn⟩:=h s2.heap.objs.size hD
 refine wpAny_newObj_type (wpAny_newFunctionEnv O.nocell (by intro y hy;simp at hy) (fun h₁ hns₁ hsb₁=>?_) O.kind)
 dsimp only at hns₁ hsb₁ ⊢
 generalize hH3:s2.heap.push { cls := .type "list",dict:=none,data := .seq ([]:List Value).toArray }=hp3 at hns₁ hsb₁ ⊢
 have k23:∀ b o,s2.heap.get? b=some o->hp3.get? b=some o:=fun b o e=>hH3 ▸ jD _ e
 have I3:Inv X pins σ (upd H2 s2.heap.objs.size (.lst [])) { s2 with heap:=hp3,toks:=s2.toks }:=by
  refine I2.laid (o := .lst []) (t':=s2.toks) k23 (jF _) ?_
  exact⟨jR _,[],0,.nil,hH3 ▸ jK _ rfl⟩
 have szC:hp3.objs.size=s2.heap.objs.size + 1:=by rw[<- hH3,j9]
 have hfp:∀ b∈fp,FpOk X pins (upd H2 s2.heap.objs.size (.lst [])) b/\∃ o,hp3.get? b=some o:=fun b hb=>by
  obtain⟨o,e,_⟩:=T.obj _ _ st2 b hb
  obtain⟨q0,q1⟩:=f2 b hb
  exact⟨⟨by rw[z0n (jS (jG e))];exact q0,q1⟩,o,k23 b o e⟩
 have k34:∀ b o,hp3.get? b=some o->h₁.get? b=some o:=fun b o e=>hsb₁.extBut b o (jS (jG e)) (jD _ e)
 have I4:=y3O (tk:=s2.toks + ([]:List (Str×Value)).length) O I3 hfp hns₁ k34
 have st4:tn 0 h₁:=T.keep _ _ _ st2 fun b hb o e=>k34 b o (k23 b o e)
 have fr4:∀ b∈fp,(upd H2 s2.heap.objs.size (.lst [])) b=none:=fun b hb=>(hfp b hb).1.1
 -- what stays true of the iterator's objects in the block
 have stat:∀ {H':Hp},(∀ b∈fp,H' b=none)->∀ b∈fp,FpOk (z1A X x z M scope cl hp3.objs.size pins fp { s2 with heap:=hp3,toks:=s2.toks } (upd H2 s2.heap.objs.size (.lst []))) [] H' b:=fun hn b hb=>by
  obtain⟨⟨_,q1,q2,q3,q4,q5⟩,o,e⟩:=hfp b hb
  refine⟨hn b hb,jS (jG e),fun z=>?_,.inl hb,fun y c ec=>q4 y c (O.sub y c ec),fun p hp=>?_⟩
  · rcases jH.mp (I3.stkSub b z) with q | q
    · exact q1 q
    · exact q2 q
  · have hp':p∈X.pn ++ pins:=(ji.mp hp).elim id fun z=>absurd z (by simp)
    exact q5 p hp'
 have loop:codeAny (model X.prog X.w) X.A (.compLoop (.ListComp elt [⟨y4K x z px pz pt kk,iter,ifs,0⟩] scope pos) 0 (.ref it) (.ref s2.heap.objs.size) (compEnvC scope cl hp3.objs.size X.env)) (RR (.ref s2.heap.objs.size) hp3.objs.size)
  { s2 with heap:=h₁,toks:=s2.toks + ([]:List (Str×Value)).length }:=by
  refine z3X (fun n s'=>∃ i v v2 H',Inv (z1A X x z M scope cl hp3.objs.size pins fp { s2 with heap:=hp3,toks:=s2.toks } (upd H2 s2.heap.objs.size (.lst []))) [] (v :: v2 :: cap ix σ) H' s'/\tn i s'.heap/\(∀ b∈fp,H' b=none)/\W i n H') ?_ m0 ⟨0,none,none,_,I4,st4,fr4,w0⟩
  rintro n s5 ⟨i,v5,v6,H5,I5,st5,fr5,w5⟩
  rcases turn i n H5 w5 with ⟨stop,qn⟩ | ⟨go,step⟩
  · refine thn (T.done (z1A X x z M scope cl hp3.objs.size pins fp { s2 with heap:=hp3,toks:=s2.toks } (upd H2 s2.heap.objs.size (.lst []))) rfl rfl rfl hc i [] s5 _ H5 _ I5 (stat fr5) st5 stop) fun r s6 ⟨hr,I6⟩=>?_
    subst hr
    obtain⟨m6,hn6,_⟩:=id I6.loc
    have hch:∀ b∈fp,(b∈X.ex\/X.s₀.heap.objs.size<=b)/\b≠X.env.locals/\(∀ x c,X.env.cells.lookup x=some c->c≠b)/\∀ p∈X.pn ++ pins,p.1≠b:=fun b hb=>by
     obtain⟨⟨_,q1,q2,q3,q4,q5⟩,_⟩:=hfp b hb
     exact⟨q3,q1,q4,q5⟩
    have IX:Inv X pins σ H5 s6:=I3.call' (s':=s6) (ch:=fp) I6.os I6.base I6.hok I6.bare hch
    refine hR _ _ _ _ m6 IX qn hn6 I6.free (jn I3.lt) I3.sz (fun y c e z=>?_) fun p hp z=>?_
    · obtain⟨v,q⟩:=I3.cell y c e
      exact absurd q.lt (by rw[z];exact jr _)
    · exact absurd (jG (I3.pin p hp).1) (by rw[z];exact jr _)
  · refine thn (T.item (z1A X x z M scope cl hp3.objs.size pins fp { s2 with heap:=hp3,toks:=s2.toks } (upd H2 s2.heap.objs.size (.lst []))) rfl rfl rfl hc i [] s5 _ H5 _ I5 (stat fr5) st5 go) fun r s6 ⟨u,hr,h6⟩=>?_
    subst hr
    refine thn h6 fun _ s7 ⟨xv,H7,I7,r7,y7,st7,fr7⟩=>?_
    have I7':=I7.pinned (stat fr7) (T.obj _ _ st7)
    have PGx:PG (z1A X x z M scope cl hp3.objs.size pins fp { s2 with heap:=hp3,toks:=s2.toks } (upd H2 s2.heap.objs.size (.lst []))) (y4K x z px pz pt kk) (x1s X.K 2 (y8y (z1g 0) (y8y (z1g 1) x1t))) :=
     y3k hc (z2M (z0E nd rfl (.inl (lookup_relabel_local O.loc)) (.inr (lookup_relabel_local O.loc))) (z2M (z0E nd rfl (.inl (lookup_relabel_local O.loc2)) (.inr (lookup_relabel_local O.loc2))) z8Z))
    obtain⟨tp,va,vb,ex,qt,step'⟩:=step xv H7 y7
    have keepT:∀ {σ8:St}{H8:Hp}{s8:Shared},Inv (z1A X x z M scope cl hp3.objs.size pins fp { s2 with heap:=hp3,toks:=s2.toks } (upd H2 s2.heap.objs.size (.lst []))) ([] ++ z6m fp s7.heap) σ8 H8 s8->tn (i + 1) s8.heap/\∀ b∈fp,H8 b=none:=fun I8=>by
     refine⟨T.keep _ _ _ st7 fun b hb o e=>(I8.pin (b,o) (ja _ (ja _ (z1S hb e)))).1,fun b hb=>?_⟩
     obtain⟨o,e,d⟩:=T.obj _ _ st7 b hb
     exact (I8.pin (b,o) (ja _ (ja _ (z1S hb e)))).2.1
    refine wpAny_mono (PGx _ s7 _ H7 xv u (fun σ8 H8=>σ8=some va :: some vb :: cap ix σ/\H8=H7) I7' r7 ⟨tp,_,ex,qt,rfl,_,_,rfl,_,_,rfl,rfl,rfl,rfl⟩) (fun _ s8 ⟨σ8,H8,I8,e8,e8'⟩=>?_) fun _ _ z=>z.elim
    subst e8 e8'
    refine wpAny_mono (ht _ _ _ _ _ _ s8 _ _ _ I8 step') (fun ok s9 ⟨H9,I9,q9⟩=>?_) fun _ _ z=>z.elim
    cases ok with
    | false =>
     rw[if_neg jN]
     have q9':∃ m',m' < n/\W (i + 1) m' H9:=by
      have:=q9
      rwa [if_neg jN]at this
     obtain⟨m',hm,w9⟩:=q9'
     obtain⟨k1,k2⟩:=keepT I9
     exact⟨m',hm,i + 1,_,_,H9,I9.unpinned,k1,k2,w9⟩
    | true =>
     rw[if_pos rfl]at q9 ⊢
     refine wpAny_mono (he _ _ _ _ _ _ s9 _ H9 _ I9 q9) (fun yv s10 ⟨y,H10,I10,r10,ys,eD,hz,m',hm,w10⟩=>?_) fun _ _ z=>z.elim
     refine wpAny_mono (z1z (X:=z1A X x z M scope cl hp3.objs.size pins fp { s2 with heap:=hp3,toks:=s2.toks } (upd H2 s2.heap.objs.size (.lst []))) _ s10 _ H10 (.ref s2.heap.objs.size) [y] (.ref s2.heap.objs.size) [yv] (fun _ H11=>H11=upd H10 s2.heap.objs.size (.lst (ys ++ [y]))) I10 rfl (.cons r10 .nil) ⟨_,ys,y,rfl,rfl,eD,hz,rfl⟩) (fun _ s11 ⟨_,H11,I11,_,e11⟩=>?_) fun _ _ z=>z.elim
     subst e11
     obtain⟨k1,k2⟩:=keepT I11
     exact⟨m',hm,i + 1,_,_,_,I11.unpinned,k1,k2,w10⟩
 exact codeAny_compStart_list loop (T.self X.A 0 _ _ _ st4 loop)
theorem y0p{elt iter:Expr}{x z:Str}{px pz pt:Pos}{kk:Nat}{ifs:List Expr}{scope:Scope}{cl:List (Str×Addr)}{pos:Pos}{M:List Str}{ix:List Nat}{wi:TI}{tt:TT}{te:TE}
 (O:CompOk2 X x z M ix scope cl) (hc:X.calm=true) (nd:(x :: z :: M).Nodup) (hi:PI X (y4K x z px pz pt kk) iter wi)
 (ht:∀ C pins fp s H,PTs (z1A X x z M scope cl C pins fp s H) ifs tt) (he:∀ C pins fp s H,PE (z1A X x z M scope cl C pins fp s H) elt te) (hs:∀ x,foldedSetIterable iter X.env x=pure x:=by intro _;rfl) :
 PE X (.ListComp elt [⟨y4K x z px pz pt kk,iter,ifs,0⟩] scope pos) (z6e X.K ix wi tt te):=by
 intro pins s σ H Q I h
 rw[eval_ListComp]
 refine wpAny_comprehension_free (use:=none) rfl hs O.clos O.kind O.names (thn (hi pins s σ H _ I h) fun xv s₁ h₁=>thn h₁ fun itv s₂ ⟨it,fp,tn,J,H2,e,I2,T,st2,f2,hW⟩=>?_)
 subst e
 refine z8w (RR:=fun acc C=>compPost (model X.prog X.w) X.A X.xe none (EP X pins σ Q) acc C) (Q:=Q) O hc nd ht he I2 T st2 f2 hW ?_
 intro C D H' s' m IX q hn hC hCL hCz hcc hpc
 refine⟨m,hn,fun h' hs'=>⟨.ref D,H',?_,rfl,q⟩⟩
 exact IX.turned (h':=h') (t':=s'.toks) (fun b o hb e=>hs'.extBut b o hb e) hC (Ne.symm hCL).symm (.inr hCz) hcc hpc
end
section
variable {X:Cx}
theorem z7c{elt iter:Expr}{x z y:Str}{px pz pt py:Pos}{kk:Nat}{ifs:List Expr}{scope:Scope}{cl:List (Str×Addr)}{pos spos:Pos}{M:List Str}{ix:List Nat}{wi:TI}{tt:TT}{te:TE}{j:Nat}
 (hN:X.N.Nodup) (hj:X.N[j]? = some y) (hy:X.env.scope.names.lookup y=some .local)
 (O:CompOk2 X x z M ix scope cl) (hc:X.calm=true) (nd:(x :: z :: M).Nodup) (hi:PI X (y4K x z px pz pt kk) iter wi)
 (ht:∀ C pins fp s H,PTs (z1A X x z M scope cl C pins fp s H) ifs tt) (he:∀ C pins fp s H,PE (z1A X x z M scope cl C pins fp s H) elt te)
 (hsw:swapsWith (.ListComp elt [⟨y4K x z px pz pt kk,iter,ifs,0⟩] scope pos) (some (.Name y py)) spos.line X.env=pure true:=by rfl) (hs:∀ x,foldedSetIterable iter X.env x=pure x:=by intro _;rfl) :
 PS X (.Assign [.Name y py] (.ListComp elt [⟨y4K x z px pz pt kk,iter,ifs,0⟩] scope pos) spos) (y2p (z6e X.K ix wi tt te) (z1g j)):=by
 intro pins s σ H D I h
 rw[exec_Assign_Name_used _ _ _ _ hsw]
 refine wpAny_bind (wpAny_standAt (wpAny_bind ?_))
 show wpAny _ X.A (do let _ <- comprehension (.ListComp elt [⟨y4K x z px pz pt kk,iter,ifs,0⟩] scope pos) scope X.env _ (newList []) false (eval iter X.env) (some (assign (.Name y py) X.env))) _ _ s
 refine wpAny_bind (wpAny_mono (wpAny_comprehension_free (use:=some (assign (.Name y py) X.env)) (Q:=fun _ s'=>SP X pins D .next s') rfl hs O.clos O.kind O.names
  (thn (hi pins s σ H _ I h) fun xv s₁ h₁=>thn h₁ fun itv s₂ ⟨it,fp,tn,J,H2,e,I2,T,st2,f2,hW⟩=>?_)) (fun _ s' hq=>wpAny_pure (wpAny_pure hq)) fun _ _ e=>e)
 subst e
 refine z8w (RR:=fun acc C=>compPost (model X.prog X.w) X.A X.xe (some (assign (.Name y py) X.env)) (fun _ s'=>SP X pins D .next s') acc C) (Q:=fun v H'=>D.nx (σ.set j (some v)) H') O hc nd ht he I2 T st2 f2 hW ?_
 intro C Da H' s' m IX q hn hC hCL hCz hcc hpc
 show wpAny _ X.A (assign (.Name y py) X.env (.ref Da)) _ _ _
 refine wpAny_assign_Name (z5t (v := .ref Da) IX hN hj (.inl hy) rfl (fun s'' I'' ⟨a,sb,ha⟩=>?_) (.inr hy))
 have hCa:C≠a:=by
  rcases ha with z | z
  · rw[z];exact hCL
  · exact fun w=>hcc _ _ z w.symm
 refine⟨m,hn.at' fun o e=>sb.extBut C o hCa e,fun h' hs'=>⟨_,H',?_,q⟩⟩
 exact I''.turned (h':=h') (t':=s''.toks) (fun b o hb e=>hs'.extBut b o hb e) hC hCL (.inr hCz) hcc hpc
end
def z5X(K:PySem.W.Frag)(ix:List Nat)(te:TE)(σ:St)(Q:VK):It->Hp->Prop:=fun J H1=>∀ D,H1 D=none->∃ W:Nat->Nat->Hp->Prop,(∃ m,W 0 m (upd H1 D (.lst []))) /\
 ∀ i m H,W i m H->(J.stop i H/\Q (.ref D) H)\/(J.go i H/\∀ x H',J.yld i H x H'->∃ t a b,x = .ref t/\SqT K H' t [a,b]/\z6G (some a :: some b :: cap ix σ) H' fun ok H2 =>
  if ok=true then te (some a :: some b :: cap ix σ) H2 fun y H3=>∃ ys,H3 D=some (.lst ys)/\ys.length < sizeLine/\∃ m',m' < m/\W (i + 1) m' (upd H3 D (.lst (ys ++ [y]))) else ∃ m',m' < m/\W (i + 1) m' H2)
theorem z6x{K:PySem.W.Frag}{a:Addr}{xs:List V}{ix:List Nat}{te:TE}{σ:St}{H:Hp}{Q:VK}(G:Nat->V->Hp->Prop)(hS:SqL K H a xs)(hz:xs.length<=sizeLine)
 (gs:∀ i y H1 H2,Same H1 H2->G i y H1->G i y H2) (gu:∀ i y (H1:Hp) Da l l',H1 Da=some (.lst l)->G i y H1->G i y (upd H1 Da (.lst l')))
 (item:∀ (i:Nat) (x:V) (H':Hp) (R:VK),xs[i]? = some x->Same H H'->(∀ y H'',Same H' H''->G i y H''->R y H'')->∃ t u v,x = .ref t/\SqT K H' t [u,v]/\te (some u :: some v :: cap ix σ) H' R)
 (fin:∀ l H' ys,H l=none->Same H H'->H' l=some (.lst ys)->ys.length=xs.length->(∀ i y,ys[i]? = some y->G i y H')->Q (.ref l) H') :
 z5X K ix te σ Q (Itl K a) H:=by
 intro Da hD
 refine⟨fun i m H'=>m=xs.length - i/\i<=xs.length/\Same H H'/\∃ ys,H' Da=some (.lst ys)/\ys.length=i/\∀ j y,ys[j]? = some y->G j y H',⟨xs.length,by simp,jR _,z0e hD _,[],z0c,rfl,fun j y h=>by simp at h⟩,?_⟩
 rintro i m H' ⟨rfl,hi,sm,ys,eD,ly,gy⟩
 by_cases hlt:i < xs.length
 · refine .inr ⟨⟨xs,xs[i],sm.seq hS,jB hlt⟩,fun x H'' hy=>?_⟩
   obtain⟨e,y⟩:=hy
   subst e
   have hx:=y xs (sm.seq hS)
   have key:=item i x _ (fun y H3=>∃ ys,H3 Da=some (.lst ys)/\ys.length < sizeLine/\∃ m',m' < xs.length - i/\(m'=xs.length - (i + 1)/\i + 1<=xs.length/\Same H (upd H3 Da (.lst (ys ++ [y])))/\∃ zs,(upd H3 Da (.lst (ys ++ [y]))) Da=some (.lst zs)/\zs.length=i + 1/\∀ j z,zs[j]? = some z->G j z (upd H3 Da (.lst (ys ++ [y]))))) hx sm fun y H3 sm3 g3=>by
    have e3:H3 Da=some (.lst ys):=sm3 _ _ eD
    refine⟨ys,e3,by omega,xs.length - (i + 1),by omega,rfl,hlt,z0G hD (sm.trans sm3),ys ++ [y],z0c,by simp[ly],fun j z hz=>?_⟩
    refine gu _ _ _ _ _ _ e3 ?_
    by_cases hj:j < ys.length
    · rw[kG hj]at hz
      exact gs _ _ _ _ sm3 (gy j z hz)
    · have hj2:=(jE.mp hz).1
      simp at hj2
      have e:j=i:=by omega
      subst e
      rw[kC (by omega),ly,Nat.sub_self]at hz
      cases hz
      exact g3
   exact key
 · have e:i=xs.length:=by omega
   exact .inl ⟨by rw[e];exact⟨xs,sm.seq hS,jF _⟩,fin Da H' ys hD sm eD (by omega) gy⟩
theorem IsD.updL1{K:PySem.W.Frag}{H:Hp}{Da:Addr}{l l':List V}{d:D}{x:V}(e:H Da=some (.lst l))(n:d.noL=true)(h:IsD K H d x):IsD K (upd H Da (.lst l')) d x:=by
 have:=IsDs.updL (zs:=l') e (show D.noLs [d]=true by show (d.noL && true)=true;rw[n];rfl) (show IsDs K H [d] [x] from ⟨x,[],rfl,h,rfl⟩)
 obtain⟨y,r,e1,h1,_⟩:=this
 cases e1
 exact h1
theorem z3W{K:PySem.W.Frag}{a:Addr}{xs:List V}{ix:List Nat}{te:TE}{σ:St}{H:Hp}{Q:VK}(fs:List D)(hS:SqL K H a xs)(hn:fs.length=xs.length)(hz:xs.length<=sizeLine)(hf:D.noLs fs=true)
 (item:∀ (i:Nat) (x:V) (d:D) (H':Hp) (R:VK),xs[i]? = some x->fs[i]? = some d->Same H H'->(∀ y H'',Same H' H''->IsD K H'' d y->R y H'')->∃ t u v,x = .ref t/\SqT K H' t [u,v]/\te (some u :: some v :: cap ix σ) H' R)
 (fin:∀ l H',H l=none->Same H H'->IsD K H' (.lst fs) (.ref l)->Q (.ref l) H'):z5X K ix te σ Q (Itl K a) H:=by
 refine z6x (fun i y H'=>∃ d,fs[i]? = some d/\IsD K H' d y) hS hz (fun i y H1 H2 sm ⟨d,e,h⟩=>⟨d,e,h.same sm⟩) (fun i y H1 Da l l' e ⟨d,ed,h⟩=>⟨d,ed,h.updL1 e (z5j hf d (jf ed))⟩)
  (fun i x H' R hx sm hR=>?_) (fun l H' ys hl sm e ly gy=>fin l H' hl sm ⟨l,ys,rfl,.of e,?_⟩)
 · have hi:i < fs.length:=by rw[hn];exact (jE.mp hx).1
   exact item i x fs[i] H' R hx (jB hi) sm fun y H'' s' h=>hR y H'' s' ⟨_,jB hi,h⟩
 · have:∀ (fs:List D) (ys:List V),ys.length=fs.length->(∀ i y,ys[i]? = some y->∃ d,fs[i]? = some d/\IsD K H' d y)->IsDs K H' fs ys:=fun fs=>by
    induction fs with
    | nil=>intro ys h _;exact jk.mp h
    | cons d fs ih =>
     intro ys h k
     cases ys with
     | nil=>simp at h
     | cons y ys =>
      obtain⟨d',e,h1⟩:=k 0 y rfl
      have e':d=d':=Option.some.inj e
      subst e'
      exact⟨y,ys,rfl,h1,ih ys (by simpa using h) fun i z hz=>k (i + 1) z hz⟩
   exact this fs ys (by omega) gy
section
variable {X:Cx}
def y6w(K:PySem.W.Frag):R2:=fun x y H Q=>∃ a b xs ys,x = .ref a/\y = .ref b/\SqL K H a xs/\SqL K H b ys/\xs.length≠ys.length/\Q (.bl false) H
theorem z2o(K:PySem.W.Frag)(hK:X.K=K)(hu:X.A.units + 64 < cLine):OpR X (compareOp .Eq) (y6w K):=by
 subst hK
 intro pins s σ H x y v u Q I rx ry h
 obtain⟨a,b,xs,ys,rfl,rfl,hx,hy,ne,q⟩:=h
 cases rx;cases ry
 obtain⟨its,r1,t1,_⟩:=I.list hx
 obtain⟨jts,r2,t2,_⟩:=I.list hy
 have l1:=r1.length;have l2:=r2.length
 exact SeqAt.RcAt.lists_lengths (A:=X.A) t1.isList t2.isList (by rw[jI,jI,bne_iff_ne];omega) (by omega) _ _ _ _ ⟨.bl false,H,I,rfl,q⟩
end
end L2
namespace L2
open PySem PySem.W PySem.Spec PyProof.Rows
section
variable {X:Cx}
theorem z6t:∀ {ns:List Int}{its:List Value},Vals (ns.map V.int) its->∃ ps:List (Int×Tok),its=ps.map (fun p=>Value.int p.1 p.2)/\ps.map (·.1)=ns
 | [],_,.nil=>⟨[],rfl,rfl⟩
 | n :: ns,_,.cons ⟨t,e⟩ r=>by
  obtain⟨ps,h1,h2⟩:=z6t (ns:=ns) r
  exact⟨(n,t) :: ps,by rw[e,h1];rfl,by rw[jj,h2]⟩
theorem z3P(ps:List (Int×Tok)):∀ j,j<=ps.length->preSum (numAt ps.toArray) j=((ps.map (·.1)).take j).sum
 | 0,_=>rfl
 | j + 1,h=>by
  have hj:j < (ps.map (·.1)).length:=by rw[jA];omega
  show preSum (numAt ps.toArray) j + numAt ps.toArray j=_
  rw[z3P ps j (by omega),jL hj,List.sum_append]
  have:numAt ps.toArray j=(ps.map (·.1))[j]:=by
   unfold numAt
   rw[kW,jB (by omega),kF];rfl
  rw[this];simp
theorem z6H{B:Int}:∀ {l:List Int},(∀ n∈l,0<=n/\n<=B)->0<=l.sum/\l.sum<=B * l.length
 | [],_=>⟨Int.le_refl _,by simp⟩
 | a :: l,h=>by
  obtain⟨h1,h2⟩:=z6H (l:=l) fun n hn=>h n (jQ _ hn)
  obtain⟨a1,a2⟩:=h a (jX ..)
  rw[List.sum_cons,jp]
  refine⟨by omega,?_⟩
  have:B * ((l.length + 1:Nat):Int)=B * l.length + B:=by push_cast;rw[Int.mul_add,Int.mul_one]
  rw[this];omega
theorem y4t(K:PySem.W.Frag)(hK:X.K=K)(hc:X.calm=true):CallR X (.builtin "sum") (fun xs H Q=>∃ (p:Addr) (ns:List Int),xs=[.ref p]/\SqL K H p (ns.map V.int)/\(∀ n∈ns,0<=n/\n<=10 ^ 9)/\ns.length<=1000/\Q (.int ns.sum) H):=by
 subst hK
 intro pins s σ H xs us Q I r h
 obtain⟨p,ns,rfl,hS,hb,hl,q⟩:=h
 obtain⟨u,rfl,rx⟩:=z3L r
 cases rx
 obtain⟨its,rv,pl,_⟩:=I.list hS
 obtain⟨ps,rfl,rfl⟩:=z6t rv
 have hL:s.heap.IsList p (intItems ps.toArray):=by
  have:=pl.isList
  unfold intItems
  simpa using this
 rw[jA]at hl
 refine sum_intList (show X.A.handled=none from I.ok.hd hc) hL (fun j hj=>?_) fun h' tk t' kp=>?_
 · have hj':j < ps.length:=by simpa using hj
   have b1:=z6H (B:=10 ^ 9) (l:=(ps.map (·.1)).take (j + 1)) fun n hn=>hb n (kD hn)
   rw[<- z3P ps (j + 1) hj',jg,jA]at b1
   have e:numAt ps.toArray j=(ps.map (·.1))[j]'(by rw[jA];exact hj'):=by
    unfold numAt
    rw[kW,jB hj',kF];rfl
   have b2:=hb (numAt ps.toArray j) (e ▸ jZ _)
   have b3:(10:Int) ^ 9 * ((min (j + 1) ps.length:Nat):Int)<=10 ^ 9 * 1000:=Int.mul_le_mul_of_nonneg_left (by omega) (by decide)
   unfold InLong
   omega
 · have e:preSum (numAt ps.toArray) ps.toArray.size=(ps.map (·.1)).sum:=by
    rw[z3P ps _ (by simp),js (by simp)]
   rw[e]
   exact⟨.int _,H,I.kept (h':=h') (t':=tk) kp,⟨t',rfl⟩,q⟩
end
end L2
namespace L2
open PySem PySem.Spec PyProof.Rows
section
variable {X:Cx}
def ipC(C:Int->Int->Prop)(f:Int->Int->Int):TIp:=fun x y H Q=>∃ i j,x = .int i/\y = .int j/\C i j/\Q (.int (f i j)) H
theorem x0p:PIp X .Mult (ipC IntMulOk fun i j=>i * j):=by
 intro pins s σ H x y v u Q I r1 r2 h
 obtain⟨i,j,e1,e2,c,q⟩:=h
 subst e1;subst e2
 obtain⟨t,rfl⟩:=r1
 obtain⟨t',rfl⟩:=r2
 exact imul_int ⟨.int _,H,I.tok _,⟨_,rfl⟩,q⟩ c
theorem y1q(K:PySem.W.Frag)(hK:X.K=K){o e:Expr}{to te:TE}{apos cpos:Pos}(ho:PE X o to)(he:PE X e te)
 (hbase:attributeBase o "index" X.env (eval o X.env)=eval o X.env:=by rfl)
 (hfew:((backTo cpos (starEach [e] X.env)).all (fun x => !x.1) && (backToKw cpos (keywordEach [] X.env)).all (fun x=>x.1.isSome)
  && decide ([e].length + ([]:List Keyword).length + (if ([]:List Keyword).isEmpty then 0 else 1) < 30))=true:=by rfl)
 (hline:(apos.endLine == cpos.line)=true:=by rfl) (hs:starEach [e] X.env=[(false,eval e X.env)]:=by rfl) :
 PE X (.Call (.Attribute o "index" apos) [e] [] cpos) (tBM K "list" y2X to (z1J te z6F)):=hK ▸ y3m ho he hbase hfew hline hs
variable {a b c d e:Expr}{ta tb tc td te:TE}{pos:Pos}
theorem y5q{k l m n o:Expr}{tk tl tm tn to:TE}(hk:PE X k tk)(ha:PE X a ta)(hl:PE X l tl)(hb:PE X b tb)(hm:PE X m tm)(hc:PE X c tc)(hn:PE X n tn)(hd:PE X d td)(ho:PE X o to)(he:PE X e te) :
 PE X (.Dict [some k,some l,some m,some n,some o] [a,b,c,d,e] pos) (y9q [(tk,ta),(tl,tb),(tm,tc),(tn,td),(to,te)]) :=
 y7N (z4k hk ha (z4k hl hb (z4k hm hc (z4k hn hd (z4k ho he y7L))))) rfl rfl (List.cons_ne_nil _ _) (by show 5<=15;decide)
end
section
variable {prog:Program}{w:World}{A:Around}{E:Value->Shared->Prop}{s:Shared}
structure TWalk (h:Heap) (it t:Addr) (xs:Array Value) (i:Nat):Prop where
 kd:(IsTupIter h it t i/\IsTup h t xs)\/(h.IsListIter it t i/\h.IsList t xs)
 ne:t≠it
theorem TWalk.all{h h':Heap}{it t:Addr}{xs:Array Value}{i:Nat}(W:TWalk h it t xs i)(k:∀ b o,b=it\/b=t->h.get? b=some o->h'.get? b=some o):TWalk h' it t xs i:=by
 obtain⟨⟨⟨o,e,r⟩,o2,e2,r2⟩ | ⟨⟨o,e,r⟩,o2,e2,r2⟩,n⟩:=W
 · exact⟨.inl ⟨⟨o,k _ _ (.inl rfl) e,r⟩,⟨o2,k _ _ (.inr rfl) e2,r2⟩⟩,n⟩
 · exact⟨.inr ⟨⟨o,k _ _ (.inl rfl) e,r⟩,⟨o2,k _ _ (.inr rfl) e2,r2⟩⟩,n⟩
theorem TWalk.but{h h':Heap}{it t b:Addr}{xs:Array Value}{i:Nat}(W:TWalk h it t xs i)(k:Heap.ExtBut b h h')(n1:it≠b)(n2:t≠b):TWalk h' it t xs i:=W.all fun c o hc e=>k c o (by rcases hc with rfl | rfl;exact n1;exact n2) e
theorem TWalk.obj{h:Heap}{it t:Addr}{xs:Array Value}{i:Nat}(W:TWalk h it t xs i):∃ o,h.get? it=some o:=by
 obtain⟨⟨⟨o,e,_⟩,_⟩ | ⟨⟨o,e,_⟩,_⟩,_⟩:=W <;> exact⟨o,e⟩
theorem z3A{it t:Addr}{xs:Array Value}{i:Nat}{x:Value}{Q:Value->Shared->Prop}(W:TWalk s.heap it t xs i)(hx:xs[i]? = some x)
 (k:∀ h',TWalk h' it t xs (i + 1)->Heap.SameBut it s.heap h'->Q x { s with heap:=h' }):wpAny (model prog w) A (Builtin.SmallTypes.nextOf (.ref it)) Q E s:=by
 obtain⟨⟨⟨o,ho,hc,hd⟩,⟨ot,et,ct,mt,dt⟩⟩ | ⟨hit,ol,el,rl⟩,n⟩:=W
 case inr=>exact wpAny_nextOf_list_item hit ⟨ol,el,rl⟩ hx fun h' a' sb=>k h' ⟨.inr ⟨a',ol,sb.extBut _ _ n el,rl⟩,n⟩ sb
 have ti:s.TypeIs (.ref it) "tuple_iterator" := ⟨o,ho,hc⟩
 unfold Builtin.SmallTypes.nextOf
 apply wpAny_bind
 apply wpAny_callSpecial?_slot (name:=Str.ofString "__next__") ti slot_tupleiter_next
 apply wpAny_call_entry slot_tupleiter_next ti entry_tupleiter_next _ (args_tupleiter_next _)
 apply wpAny_bind (wpAny_field ho hd (x := .ref t) rfl _)
 apply wpAny_bind (wpAny_field ho hd (x := .int i 0) rfl _)
 apply wpAny_bind (wpAny_seqItems et dt _)
 dsimp only
 rw[jm,hx]
 have b:=Heap.SameBut.update s.heap it (Obj.mapFields (·.setIfInBounds 1 (rawInt ((i:Int) + 1))))
 dsimp only
 refine wpAny_bind (wpAny_setField ho hd (by simp) (wpAny_pure ⟨x,rfl,wpAny_pure (k _ ⟨.inl ⟨?_,IsTup.extBut ⟨ot,et,ct,mt,dt⟩ b.extBut n⟩,n⟩ b)⟩))
 refine⟨_,jY _ ho (Obj.isFreed_of_fields (Obj.data_mapFields hd _)),(Obj.cls_mapFields ..).trans hc,?_⟩
 rw[Obj.data_mapFields hd]
 simp[rawInt]
theorem z8k{it t:Addr}{xs:Array Value}{i:Nat}{Q:Value->Shared->Prop}(hh:A.handled=none)(W:TWalk s.heap it t xs i)(hx:xs[i]? = none)
 (k:∀ h' e,Heap.ExtBut it s.heap h'->(∃ o,h'.get? e=some o/\o.cls = .type "StopIteration")->E (.ref e) { s with heap:=h' }):wpAny (model prog w) A (Builtin.SmallTypes.nextOf (.ref it)) Q E s:=by
 obtain⟨⟨⟨o,ho,hc,hd⟩,⟨ot,et,ct,mt,dt⟩⟩ | ⟨hit,hl⟩,n⟩:=W
 case inr=>exact wpAny_nextOf_list_end hh hit hl hx k
 have ti:s.TypeIs (.ref it) "tuple_iterator" := ⟨o,ho,hc⟩
 unfold Builtin.SmallTypes.nextOf
 apply wpAny_bind
 apply wpAny_callSpecial?_slot (name:=Str.ofString "__next__") ti slot_tupleiter_next
 apply wpAny_call_entry slot_tupleiter_next ti entry_tupleiter_next _ (args_tupleiter_next _)
 apply wpAny_bind (wpAny_field ho hd (x := .ref t) rfl _)
 apply wpAny_bind (wpAny_field ho hd (x := .int i 0) rfl _)
 apply wpAny_bind (wpAny_seqItems et dt _)
 dsimp only
 rw[jm,hx]
 dsimp only
 refine wpAny_bind (wpAny_rule (wpAny_bind (wpAny_setField ho hd (by simp) ?_)))
 have b:=(Heap.SameBut.update s.heap it (Obj.mapFields (·.setIfInBounds 0 .none))).extBut
 unfold Builtin.SmallTypes.stopIteration
 refine wpAny_bind ?_
 unfold newExc
 refine wpAny_bind (wpAny_newTuple ?_)
 have f0:firstArgMember (.type "StopIteration") []=pure .none:=rfl
 refine wpAny_bind ?_
 rw[f0]
 refine wpAny_pure (wpAny_newObj_type ?_ (by size_fits))
 exact wpAny_raiseNew_none (show A.in1.handled=none from hh) (k _ _ ((b.push _).push _) ⟨_,jK _ rfl,rfl⟩)
structure ZAt (h:Heap) (z TI TO i1 i2 t1 t2:Addr) (xs ys:Array Value) (n:Nat) (f0:Value) (f1:Bool):Prop where
 zip:h.get? z=some { cls := .type "zip",dict:=none,data := .fields #[f0,.bool f1,.bool false,.ref TI,.ref TO],slots:=#[] }
 its:h.get? TI=some { cls := .type "tuple",data := .seq #[.ref i1,.ref i2] }
 own:∃ a b,h.get? TO=some { cls := .type "tuple",data := .seq #[a,b] }
 w1:TWalk h i1 t1 xs n
 w2:TWalk h i2 t2 ys n
structure ZOff (z TI TO i1 i2 t1 t2:Addr):Prop where
 ne:[z,TI,TO,i1,i2].Nodup
 o1:t1∉[z,TI,TO,i1,i2]
 o2:t2∉[z,TI,TO,i1,i2]
theorem y0h{T:Addr}{a b v:Value}{j:Nat}{Q:Unit->Shared->Prop}(g:s.heap.get? T=some { cls := .type "tuple",data := .seq #[a,b] })
 (k:∀ h',h'.get? T=some { cls := .type "tuple",data := .seq ((#[a,b]:Array Value).setIfInBounds j v) }->Heap.SameBut T s.heap h'->Q () { s with heap:=h' }):wpAny (model prog w) A (updateSeq T (·.setIfInBounds j v)) Q E s :=
 wpAny_updateSeq g rfl (k _ (by rw[jY _ g rfl];simp[Obj.mapSeq]) (Heap.SameBut.update ..))
theorem y4P{z TI TO i1 i2 t1 t2:Addr}{xs ys:Array Value}{n:Nat}{x y:Value}{f1:Bool}{Q:Value->Shared->Prop}(D:ZOff z TI TO i1 i2 t1 t2)(Z:ZAt s.heap z TI TO i1 i2 t1 t2 xs ys n .none f1)(hx:xs[n]? = some x)(hy:ys[n]? = some y)
 (k:∀ h',ZAt h' z TI TO i1 i2 t1 t2 xs ys (n + 1) (rawInt s.heap.objs.size) false->h'.get? s.heap.objs.size=some { cls := .type "tuple",data := .seq #[x,y] }->h'.objs.size=s.heap.objs.size + 1->(∀ c o,c≠z->c≠TO->c≠i1->c≠i2->s.heap.get? c=some o->h'.get? c=some o)->Q (.ref s.heap.objs.size) { s with heap:=h' }) :
 wpAny (model prog w) A (Builtin.«zip.__next__» ⟨[.ref z],[]⟩) (fun fin s'=>∃ v,fin = .done (.ret v)/\Q v s') E s:=by
 obtain⟨gz,gi,⟨a,b,go⟩,w1,w2⟩:=Z
 obtain⟨ne,o1,o2⟩:=D
 simp only[jy,jH,jt,or_false,not_or,j6,and_true,not_false_eq_true]at ne o1 o2
 obtain⟨⟨zTI,zTO,z1,z2⟩,⟨TT,T1,T2⟩,⟨O1,O2⟩,i12⟩:=ne
 unfold Builtin.«zip.__next__»
 refine wpAny_bind (wpAny_pure ?_)
 dsimp only
 refine wpAny_bind (wpAny_field gz rfl (x := .bool false) rfl ?_)
 refine wpAny_bind (wpAny_field gz rfl (x := .ref TI) rfl ?_)
 refine wpAny_bind (wpAny_seqItems gi rfl ?_)
 dsimp only
 rw[if_neg (fun c=>Bool.noConfusion c)]
 refine wpAny_bind ?_
 unfold Builtin.SmallTypes.ownedTupleIsFree
 refine wpAny_bind (wpAny_field gz rfl (x := .none) rfl (wpAny_pure ?_))
 rw[if_pos rfl]
 refine wpAny_bind (wpAny_rule (wpAny_bind (wpAny_field gz rfl (x := .ref TO) rfl ?_)))
 dsimp only
 refine wpAny_bind (wpAny_setField_rec gz (by simp) fun h1 gz1 e1=>?_)
 have go1:=e1.extBut _ _ (Ne.symm zTO) go
 refine wpAny_bind ?_
 rw[show ([Value.ref i1,Value.ref i2]:List Value).zipIdx=[(.ref i1,0),(.ref i2,1)] from rfl,List.forIn_cons]
 refine wpAny_bind (wpAny_bind (wpAny_onRaise ?_))
 refine wpAny_bind (z3A (w1.but e1.extBut (Ne.symm z1) o1.1) hx fun h2 w12 e2=>wpAny_pure ?_)
 have go2:=e2.extBut _ _ O1 go1
 dsimp only
 refine wpAny_bind (wpAny_seqItems go2 rfl ?_)
 dsimp only
 refine wpAny_bind (y0h go2 fun h3 go3 e3=>wpAny_bind (wpAny_letGo (wpAny_pure ?_)))
 dsimp only
 rw[List.forIn_cons]
 have v2:=((w2.but e1.extBut (Ne.symm z2) o2.1).but e2.extBut (Ne.symm i12) o2.2.2.2.1).but e3.extBut (Ne.symm O2) o2.2.2.1
 refine wpAny_bind (wpAny_bind (wpAny_onRaise ?_))
 refine wpAny_bind (z3A v2 hy fun h4 w24 e4=>wpAny_pure ?_)
 have go4:=e4.extBut _ _ O2 go3
 dsimp only
 refine wpAny_bind (wpAny_seqItems go4 rfl ?_)
 dsimp only
 refine wpAny_bind (y0h go4 fun h5 go5 e5=>wpAny_bind (wpAny_letGo (wpAny_pure ?_)))
 dsimp only
 rw[List.forIn_nil]
 refine wpAny_pure ?_
 dsimp only
 refine wpAny_bind (wpAny_seqItems go5 rfl ?_)
 dsimp only
 refine wpAny_bind (wpAny_newTuple ?_ (by show (2:Nat)<=sizeLine;decide))
 have sz:h5.objs.size=s.heap.objs.size:=by rw[e5.1,e4.1,e3.1,e2.1,e1.1]
 have gz5:h5.get? z=some _:=e5.extBut _ _ zTO (e4.extBut _ _ z2 (e3.extBut _ _ zTO (e2.extBut _ _ z1 gz1)))
 have all5:∀ c o,c≠z->c≠TO->c≠i1->c≠i2->s.heap.get? c=some o->h5.get? c=some o:=fun c o c1 c2 c3 c4 e=>e5.extBut _ _ c2 (e4.extBut _ _ c4 (e3.extBut _ _ c2 (e2.extBut _ _ c3 (e1.extBut _ _ c1 e))))
 have u1:=((w12.but e3.extBut (Ne.symm O1) o1.2.2.1).but e4.extBut i12 o1.2.2.2.2).but e5.extBut (Ne.symm O1) o1.2.2.1
 have u2:=w24.but e5.extBut (Ne.symm O2) o2.2.2.1
 have zl:=jG gz5
 refine wpAny_bind ?_
 unfold Builtin.SmallTypes.ownedTupleHandOut
 dsimp only
 refine wpAny_bind (wpAny_setField_rec (jD _ gz5) (by simp) fun h7 gz7 e7=>wpAny_setField_rec gz7 (by simp) fun h8 gz8 e8=>?_)
 have up:∀ c o,c≠z->h5.get? c=some o->h8.get? c=some o:=fun c o c1 e=>e8.extBut _ _ c1 (e7.extBut _ _ c1 (jD _ e))
 have new:h8.get? s.heap.objs.size=some { cls := .type "tuple",data := .seq #[x,y] }:=by
  rw[<- sz]
  exact e8.extBut _ _ (jn zl) (e7.extBut _ _ (jn zl) (jK _ rfl))
 have s8:h8.objs.size=s.heap.objs.size + 1:=by rw[e8.1,e7.1,j9,sz]
 refine wpAny_pure ⟨_,rfl,?_⟩
 rw[sz]at gz8 ⊢
 refine k h8 ⟨gz8,up _ _ (Ne.symm zTI) (all5 _ _ (Ne.symm zTI) TT T1 T2 gi),⟨x,y,up _ _ (Ne.symm zTO) go5⟩,u1.all fun c o hc e=>up c o ?_ e,u2.all fun c o hc e=>up c o ?_ e⟩ new s8 fun c o c1 c2 c3 c4 e=>up c o c1 (all5 c o c1 c2 c3 c4 e)
 · rcases hc with rfl | rfl
   · exact Ne.symm z1
   · exact o1.1
 · rcases hc with rfl | rfl
   · exact Ne.symm z2
   · exact o2.1
theorem y4O{z TI TO i1 i2 t1 t2:Addr}{xs ys:Array Value}{n:Nat}{f1:Bool}{Q:Fin->Shared->Prop}(hh:A.handled=none)(D:ZOff z TI TO i1 i2 t1 t2)(Z:ZAt s.heap z TI TO i1 i2 t1 t2 xs ys n .none f1)(hx:xs[n]? = none)
 (k:∀ h' e,(∀ c o,c≠z->c≠i1->s.heap.get? c=some o->h'.get? c=some o)->(∃ o,h'.get? e=some o/\o.cls = .type "StopIteration")->E (.ref e) { s with heap:=h' }) :
 wpAny (model prog w) A (Builtin.«zip.__next__» ⟨[.ref z],[]⟩) Q E s:=by
 obtain⟨gz,gi,⟨a,b,go⟩,w1,w2⟩:=Z
 obtain⟨ne,o1,o2⟩:=D
 simp only[jy,jH,jt,or_false,not_or,j6,and_true,not_false_eq_true]at ne o1 o2
 obtain⟨⟨zTI,zTO,z1,z2⟩,⟨TT,T1,T2⟩,⟨O1,O2⟩,i12⟩:=ne
 unfold Builtin.«zip.__next__»
 refine wpAny_bind (wpAny_pure ?_)
 dsimp only
 refine wpAny_bind (wpAny_field gz rfl (x := .bool false) rfl ?_)
 refine wpAny_bind (wpAny_field gz rfl (x := .ref TI) rfl ?_)
 refine wpAny_bind (wpAny_seqItems gi rfl ?_)
 dsimp only
 rw[if_neg (fun c=>Bool.noConfusion c)]
 refine wpAny_bind ?_
 unfold Builtin.SmallTypes.ownedTupleIsFree
 refine wpAny_bind (wpAny_field gz rfl (x := .none) rfl (wpAny_pure ?_))
 rw[if_pos rfl]
 refine wpAny_bind (wpAny_rule (wpAny_bind (wpAny_field gz rfl (x := .ref TO) rfl ?_)))
 dsimp only
 refine wpAny_bind (wpAny_setField_rec gz (by simp) fun h1 gz1 e1=>?_)
 refine wpAny_bind ?_
 rw[show ([Value.ref i1,Value.ref i2]:List Value).zipIdx=[(.ref i1,0),(.ref i2,1)] from rfl,List.forIn_cons]
 refine wpAny_bind (wpAny_bind (wpAny_onRaise ?_))
 refine wpAny_bind (z8k hh (w1.but e1.extBut (Ne.symm z1) o1.1) hx fun h2 e e2 he=>?_)
 obtain⟨oe,ge,ce⟩:=he
 have gz2:h2.get? z=some _:=e2 _ _ z1 gz1
 have ez:e≠z:=fun q=>by subst q;rw[gz2]at ge;cases ge;simp at ce
 exact wpAny_setField_rec gz2 (by simp) fun h3 _ e3=>k h3 e (fun c o c1 c2 g=>e3.extBut _ _ c1 (e2 _ _ c2 (e1.extBut _ _ c1 g))) ⟨oe,e3.extBut _ _ ez ge,ce⟩
theorem z7L{z TI TO T:Addr}{oT:Obj}{f1:Bool}(gz:s.heap.get? z=some { cls := .type "zip",dict:=none,data := .fields #[rawInt T,.bool f1,.bool false,.ref TI,.ref TO],slots:=#[] })(gT:s.heap.get? T=some oT) :
 wpAny (model prog w) A (Builtin.SmallTypes.ownedTupleIsFree (.ref z)) (fun r s1=>r=false/\∃ h1,s1={ s with heap:=h1 }/\h1.get? z=some { cls := .type "zip",dict:=none,data := .fields #[rawInt T,.bool true,.bool false,.ref TI,.ref TO],slots:=#[] }/\Heap.SameBut z s.heap h1) E s:=by
 unfold Builtin.SmallTypes.ownedTupleIsFree
 refine wpAny_bind (wpAny_field gz rfl (x:=rawInt T) rfl ?_)
 dsimp only[rawInt]
 rw[jm]
 refine wpAny_bind (PySem.W.kdx_alive gT ?_)
 rw[if_neg (fun c=>Bool.noConfusion c)]
 refine wpAny_bind (wpAny_field gz rfl (x := .bool f1) rfl ?_)
 cases f1 with
 | false =>
  rw[if_pos (by decide)]
  exact wpAny_bind (wpAny_setField_rec gz (by simp) fun h1 g1 e1=>wpAny_pure ⟨rfl,h1,rfl,g1,e1⟩)
 | true =>
  rw[if_neg (by decide)]
  exact wpAny_pure ⟨rfl,s.heap,rfl,gz,Heap.SameBut.refl ..⟩
theorem y4Q{z TI TO i1 i2 t1 t2:Addr}{xs ys:Array Value}{n:Nat}{x y:Value}{T:Addr}{oT:Obj}{f1:Bool}{Q:Value->Shared->Prop}(D:ZOff z TI TO i1 i2 t1 t2)(Z:ZAt s.heap z TI TO i1 i2 t1 t2 xs ys n (rawInt T) f1)(gT:s.heap.get? T=some oT)(hx:xs[n]? = some x)(hy:ys[n]? = some y)
 (k:∀ h',ZAt h' z TI TO i1 i2 t1 t2 xs ys (n + 1) (rawInt T) true->h'.get? s.heap.objs.size=some { cls := .type "tuple",data := .seq #[x,y] }->h'.objs.size=s.heap.objs.size + 1->(∀ c o,c≠z->c≠i1->c≠i2->s.heap.get? c=some o->h'.get? c=some o)->Q (.ref s.heap.objs.size) { s with heap:=h' }) :
 wpAny (model prog w) A (Builtin.«zip.__next__» ⟨[.ref z],[]⟩) (fun fin s'=>∃ v,fin = .done (.ret v)/\Q v s') E s:=by
 obtain⟨gz,gi,⟨a,b,go⟩,w1,w2⟩:=Z
 obtain⟨ne,o1,o2⟩:=D
 simp only[jy,jH,jt,or_false,not_or,j6,and_true,not_false_eq_true]at ne o1 o2
 obtain⟨⟨zTI,zTO,z1,z2⟩,⟨TT,T1,T2⟩,⟨O1,O2⟩,i12⟩:=ne
 unfold Builtin.«zip.__next__»
 refine wpAny_bind (wpAny_pure ?_)
 dsimp only
 refine wpAny_bind (wpAny_field gz rfl (x := .bool false) rfl ?_)
 refine wpAny_bind (wpAny_field gz rfl (x := .ref TI) rfl ?_)
 refine wpAny_bind (wpAny_seqItems gi rfl ?_)
 dsimp only
 rw[if_neg (fun c=>Bool.noConfusion c)]
 refine wpAny_bind ?_
 refine wpAny_mono (z7L gz gT) (fun r s1 hr=>?_) fun _ _ q=>q
 obtain⟨rfl,h1,rfl,gz1,e1⟩:=hr
 rw[if_neg (fun c=>Bool.noConfusion c)]
 refine wpAny_bind ?_
 rw[<- Array.forIn_toList]
 rw[show (#[Value.ref i1,Value.ref i2]:Array Value).toList=[.ref i1,.ref i2] from rfl,List.forIn_cons]
 refine wpAny_bind (wpAny_bind (wpAny_holding ?_))
 refine wpAny_bind (z3A (w1.but e1.extBut (Ne.symm z1) o1.1) hx fun h2 w12 e2=>wpAny_pure (wpAny_pure ?_))
 dsimp only
 rw[List.forIn_cons]
 have v2:=(w2.but e1.extBut (Ne.symm z2) o2.1).but e2.extBut (Ne.symm i12) o2.2.2.2.1
 refine wpAny_bind (wpAny_bind (wpAny_holding ?_))
 refine wpAny_bind (z3A v2 hy fun h3 w23 e3=>wpAny_pure (wpAny_pure ?_))
 dsimp only
 rw[List.forIn_nil]
 refine wpAny_pure ?_
 dsimp only
 refine wpAny_bind (wpAny_newTuple ?_ (by show (2:Nat)<=sizeLine;decide))
 have sz:h3.objs.size=s.heap.objs.size:=by rw[e3.1,e2.1,e1.1]
 have gz3:h3.get? z=some _:=e3.extBut _ _ z2 (e2.extBut _ _ z1 gz1)
 have all3:∀ c o,c≠z->c≠i1->c≠i2->s.heap.get? c=some o->h3.get? c=some o:=fun c o c1 c2 c3 e=>e3.extBut _ _ c3 (e2.extBut _ _ c2 (e1.extBut _ _ c1 e))
 have u1:=w12.but e3.extBut i12 o1.2.2.2.2
 have up:∀ (c:Addr) (o:Obj),h3.get? c=some o->(h3.push { cls := .type "tuple",data := .seq #[x,y] }).get? c=some o:=fun c o e=>jD _ e
 refine wpAny_pure ⟨_,rfl,?_⟩
 show Q (.ref h3.objs.size) _
 have new:(h3.push { cls := .type "tuple",data := .seq #[x,y] }).get? s.heap.objs.size=some { cls := .type "tuple",data := .seq #[x,y] }:=by
  rw[<- sz];exact jK _ rfl
 rw[sz]
 exact k _ ⟨up _ _ gz3,up _ _ (all3 _ _ (Ne.symm zTI) T1 T2 gi),⟨a,b,up _ _ (all3 _ _ (Ne.symm zTO) O1 O2 go)⟩,u1.all fun c o _ e=>up c o e,w23.all fun c o _ e=>up c o e⟩ new (by rw[j9,sz]) fun c o c1 c2 c3 e=>up c o (all3 c o c1 c2 c3 e)
theorem y2h{z TI TO i1 i2 t1 t2:Addr}{xs ys:Array Value}{n:Nat}{T:Addr}{oT:Obj}{f1:Bool}{Q:Fin->Shared->Prop}(hh:A.handled=none)(D:ZOff z TI TO i1 i2 t1 t2)(Z:ZAt s.heap z TI TO i1 i2 t1 t2 xs ys n (rawInt T) f1)(gT:s.heap.get? T=some oT)(hx:xs[n]? = none)
 (k:∀ h' e,(∀ c o,c≠z->c≠i1->s.heap.get? c=some o->h'.get? c=some o)->(∃ o,h'.get? e=some o/\o.cls = .type "StopIteration")->E (.ref e) { s with heap:=h' }) :
 wpAny (model prog w) A (Builtin.«zip.__next__» ⟨[.ref z],[]⟩) Q E s:=by
 obtain⟨gz,gi,⟨a,b,go⟩,w1,w2⟩:=Z
 obtain⟨ne,o1,o2⟩:=D
 simp only[jy,jH,jt,or_false,not_or,j6,and_true,not_false_eq_true]at ne o1 o2
 obtain⟨⟨zTI,zTO,z1,z2⟩,⟨TT,T1,T2⟩,⟨O1,O2⟩,i12⟩:=ne
 unfold Builtin.«zip.__next__»
 refine wpAny_bind (wpAny_pure ?_)
 dsimp only
 refine wpAny_bind (wpAny_field gz rfl (x := .bool false) rfl ?_)
 refine wpAny_bind (wpAny_field gz rfl (x := .ref TI) rfl ?_)
 refine wpAny_bind (wpAny_seqItems gi rfl ?_)
 dsimp only
 rw[if_neg (fun c=>Bool.noConfusion c)]
 refine wpAny_bind (wpAny_mono (z7L gz gT) (fun r s1 hr=>?_) fun _ _ q=>q)
 obtain⟨rfl,h1,rfl,gz1,e1⟩:=hr
 rw[if_neg (fun c=>Bool.noConfusion c)]
 refine wpAny_bind ?_
 rw[<- Array.forIn_toList]
 rw[show (#[Value.ref i1,Value.ref i2]:Array Value).toList=[.ref i1,.ref i2] from rfl,List.forIn_cons]
 refine wpAny_bind (wpAny_bind (wpAny_holding ?_))
 exact wpAny_bind (z8k hh (w1.but e1.extBut (Ne.symm z1) o1.1) hx fun h2 e e2 he=>k h2 e (fun c o c1 c2 g=>e2 _ _ c2 (e1.extBut _ _ c1 g)) he)
theorem y6D{z:Addr}{Q:Option Value->Shared->Prop}(ht:s.TypeIs (.ref z) "zip")(h:wpAny (model prog w) A.in1 (Builtin.«zip.__next__» ⟨[.ref z],[]⟩) (fun fin s'=>∃ v,fin = .done (.ret v)/\Q (some v) s') (fun e s'=>s'.TypeIs e "StopIteration" /\ Q none s') s):wpAny (model prog w) A (pyNext (.ref z)) Q E s:=by
 unfold pyNext
 refine wpAny_bind (wpAny_attempt (wpAny_callSpecial?_slot (name:=Str.ofString "__next__") ht F.slot_zip_next (wpAny_call_entry F.slot_zip_next ht F.entry_zip_next ?_ (F.args_zip_next_1 _))))
 refine wpAny_mono h (fun fin s' ⟨v,e,q⟩=>⟨v,e,wpAny_pure q⟩) fun e s' ⟨te,q⟩=>?_
 exact wpAny_bind (wpAny_isInstance (T := "StopIteration") (b:=true) te isSubtype_stop (wpAny_pure q))
def z3K(n1:String)(b t1 t2:Addr):List Obj:=[{ cls := .type n1,data := .fields #[.ref t1,.int 0 0] },{ cls := .type "tuple_iterator",data := .fields #[.ref t2,.int 0 0] },
 { cls := .type "tuple",data := .seq #[.ref b,.ref (b + 1)] },{ cls := .type "tuple",data := .seq #[.none,.none] },{ cls := .type "zip",data := .fields #[.none,.bool false,.bool false,.ref (b + 2),.ref (b + 3)] }]
def laid(h:Heap)(os:List Obj):Heap:=os.foldl Heap.push h
def FstQ(n1:String)(h:Heap)(t:Addr)(xs:Array Value):Prop:=(n1 = "tuple_iterator" /\ IsTup h t xs)\/(n1 = "list_iterator" /\ h.IsList t xs)
theorem FstQ.lt{n1:String}{h:Heap}{t:Addr}{xs:Array Value}(q:FstQ n1 h t xs):t < h.objs.size:=by
 rcases q with ⟨_,q⟩ | ⟨_,o,e,_⟩
 · exact q.lt
 · exact jG e
theorem y1B(n1:String)(t1 t2:Addr)(xs ys:Array Value):Meets (Builtin.«zip.__new__» ⟨[.type "zip",.ref t1,.ref t2],[]⟩) (fun _ R s=>FstQ n1 s.heap t1 xs/\IsTup s.heap t2 ys/\R (.ok (.ret (.ref (s.heap.objs.size + 4)))) { s with heap:=laid s.heap (z3K n1 s.heap.objs.size t1 t2) }) :=
 .of_wp fun prog w A R s h=>by
  obtain⟨hp,g,d,tk,os⟩:=s
  obtain⟨h1,h2,h⟩:=h
  have hsub:=sub_zip
  have q2:IsTup (Shared.heap ⟨hp.push { cls := .type n1,data := .fields #[.ref t1,.int 0 0] },g,d,tk,os⟩) t2 ys:=h2.push _
  have q1:∀ {A':Around}{E':Value->Shared->Prop}{Q':Value->Shared->Prop},Q' (.ref (Shared.heap ⟨hp,g,d,tk,os⟩).objs.size) { (⟨hp,g,d,tk,os⟩:Shared) with heap:=(Shared.heap ⟨hp,g,d,tk,os⟩).push { cls := .type n1,data := .fields #[.ref t1,.int 0 0] } }->wpAny (model prog w) A' (pyIter (.ref t1)) Q' E' ⟨hp,g,d,tk,os⟩:=fun {A' E' Q'} q=>by
   rcases h1 with ⟨rfl,h1⟩ | ⟨rfl,h1⟩
   · exact iter_tuple h1 q
   · exact wpAny_pyIter_list h1 q
  wp_walk using q1,iter_tuple q2
  refine⟨_,rfl,?_⟩
  dsimp only at h ⊢
  simp only[j9]at h ⊢
  exact h
theorem z9I{n1:String}{h:Heap}{t1 t2:Addr}{xs ys:Array Value}(q1:FstQ n1 h t1 xs)(q2:IsTup h t2 ys):ZAt (laid h (z3K n1 h.objs.size t1 t2)) (h.objs.size + 4) (h.objs.size + 2) (h.objs.size + 3) h.objs.size (h.objs.size + 1) t1 t2 xs ys 0 .none false/\(laid h (z3K n1 h.objs.size t1 t2)).objs.size=h.objs.size + 5/\∀ c o,h.get? c=some o->(laid h (z3K n1 h.objs.size t1 t2)).get? c=some o:=by
 unfold laid z3K
 simp only[List.foldl]
 have at_:∀ (h:Heap) (o:Obj) (n:Nat),o.isFreed=false->h.objs.size=n->(h.push o).get? n=some o:=fun h o n f e=>by subst e;exact jK _ f
 have up:∀ (h:Heap) (o o':Obj) (c:Addr),h.get? c=some o'->(h.push o).get? c=some o':=fun h o o' c e=>jD _ e
 have l1:=q1.lt
 have l2:=q2.lt
 refine⟨⟨at_ _ _ _ rfl (by simp only[j9]),up _ _ _ _ (up _ _ _ _ (at_ _ _ _ rfl (by simp only[j9]))),⟨_,_,up _ _ _ _ (at_ _ _ _ rfl (by simp only[j9]))⟩,
  ⟨?_,jS l1⟩,
  ⟨.inl ⟨⟨_,up _ _ _ _ (up _ _ _ _ (up _ _ _ _ (at_ _ _ _ rfl (by simp only[j9])))),rfl,rfl⟩,((((q2.push _).push _).push _).push _).push _⟩,fun z=>jr _ (jW (jx (Nat.le_of_eq z.symm) l2) (Nat.le_add_right _ _))⟩⟩,?_,fun c o e=>up _ _ _ _ (up _ _ _ _ (up _ _ _ _ (up _ _ _ _ (up _ _ _ _ e))))⟩
 · rcases q1 with ⟨rfl,q1⟩ | ⟨rfl,o,e,r⟩
   · exact .inl ⟨⟨_,up _ _ _ _ (up _ _ _ _ (up _ _ _ _ (up _ _ _ _ (at_ _ _ _ rfl rfl)))),rfl,rfl⟩,((((q1.push _).push _).push _).push _).push _⟩
   · exact .inr ⟨⟨_,up _ _ _ _ (up _ _ _ _ (up _ _ _ _ (up _ _ _ _ (at_ _ _ _ rfl rfl)))),rfl,rfl⟩,o,up _ _ _ _ (up _ _ _ _ (up _ _ _ _ (up _ _ _ _ (up _ _ _ _ e)))),r⟩
 · simp only[j9]
theorem y6X{h:Heap}{t1 t2:Addr}(l1:t1 < h.objs.size)(l2:t2 < h.objs.size):ZOff (h.objs.size + 4) (h.objs.size + 2) (h.objs.size + 3) h.objs.size (h.objs.size + 1) t1 t2:=by
 have far:∀ (t:Addr) (k:Nat),t < h.objs.size->¬ t=h.objs.size + k:=fun t k l z=>jr _ (jW (jx (Nat.le_of_eq z.symm) l) (Nat.le_add_right _ _))
 refine⟨by simp,?_,?_⟩ <;> simp only[jH,jt,or_false,not_or]
 · exact⟨far _ 4 l1,far _ 2 l1,far _ 3 l1,far _ 0 l1,far _ 1 l1⟩
 · exact⟨far _ 4 l2,far _ 2 l2,far _ 3 l2,far _ 0 l2,far _ 1 l2⟩
theorem y4s{n1:String}{t1 t2:Addr}{xs ys:Array Value}{Q:Value->Shared->Prop}(q1:FstQ n1 s.heap t1 xs)(q2:IsTup s.heap t2 ys)(k:Q (.ref (s.heap.objs.size + 4)) { s with heap:=laid s.heap (z3K n1 s.heap.objs.size t1 t2) }):wpAny (model prog w) A (call (.type "zip") [.ref t1,.ref t2]) Q E s :=
 callType_new F.called_zip (by decide) (F.typeCall_zip_2 _ _) (F.newCall_zip_2 _ _) (fun obj=>F.args_object_init_3 obj _ _) F.entry_zip_new (y1B n1 t1 t2 xs ys) ⟨q1,q2,⟨⟨_,(z9I q1 q2).1.zip,rfl⟩,k⟩⟩
end
end L2
namespace L2
open PySem PySem.W PySem.Spec PyProof.Rows
theorem y2i:typeLookup (.type "zip") "keys" = pure none:=by rw[typeLookup_type,builtinLookup_eq_fast];kernel_rfl
theorem y6Z:typeLookup (.type "zip") "__getattr__" = pure none:=by rw[typeLookup_type,builtinLookup_eq_fast];kernel_rfl
theorem y6Y:entryFor table "zip.__getattribute__" = some Builtin.«object.__getattribute__»:=entryFor_alias (id' := "object.__getattribute__") (by kernel_rfl) (by first | rfl | decide +kernel) (by decide +kernel) (by kernel_rfl)
theorem z4X(a:Addr)(vs:Array Value)(u:Tok) :
 Meets (Builtin.«object.__getattribute__» ⟨[.ref a,.str "keys" u],[]⟩) (fun A R s=>s.heap.get? a=some { cls := .type "zip",dict:=none,data := .fields vs,slots:=#[] }/\raisesAttr (.ref a) "keys" A R s) :=
 Meets.of_wp fun prog w A R s hs=>by
  obtain⟨hp,g,d,tk,os⟩:=s
  obtain⟨hx,hs⟩:=hs
  have zt:(⟨hp,g,d,tk,os⟩:Shared).TypeIs (.ref a) "zip" := ⟨_,hx,rfl⟩
  have z0:=y2i
  unfold Builtin.«object.__getattribute__»
  repeat (any_goals (first | assumption | wp_step))
  exact wpAny_raiseAttrError hs.1 hs.2 (attrMsg_fits (by decide +kernel) (by rw[sizeLine_eq];decide))
theorem y1e{prog:Program}{w:World}{A:Around}{E:Value->Shared->Prop}{s:Shared}{a:Addr}{vs:Array Value}{Q:Option Value->Shared->Prop}(hx:s.heap.get? a=some { cls := .type "zip",dict:=none,data := .fields vs,slots:=#[] })(hA:A.handled=none)
 (h:∀ h' tk,(∀ b o,s.heap.get? b=some o->h'.get? b=some o)->Q none { s with heap:=h',toks:=tk }):wpAny (model prog w) A (getAttr? (.ref a) "keys") Q E s:=by
 obtain⟨hp,g,d,tk,os⟩:=s
 have zt:∀ tk',(⟨hp,g,d,tk',os⟩:Shared).TypeIs (.ref a) "zip" := fun _=>⟨_,hx,rfl⟩
 have f1:=sub_AttributeError
 have f3:=F.slot_zip_getattribute.lookup
 have f4:=F.slot_zip_getattribute.bind (.ref a)
 have f5:=y6Z
 unfold getAttr? getAttrBy? getAttrBy
 repeat (any_goals (first | assumption | exact zt _ | ((with_reducible show wpAny _ _ (call (Value.builtin "zip.__getattribute__") _ _) _ _ _);refine call_meets F.slot_zip_getattribute (zt _) y6Y (F.args_zip_getattribute_2 _ _) (z4X a vs _) ⟨hx,hA,fun h' tk' e hx'=>?_⟩) | wp_step))
 obtain⟨t',u',he⟩:=hx'.there
 show wpAny _ _ (getattributeRaised _ _ _ _ _ _ _) _ _ _
 unfold getattributeRaised
 repeat (any_goals (first | assumption | wp_step))
 exact h _ _ hx'.keeps
def ZS(h:Heap)(z TI TO i1 i2 t1 t2:Addr)(xs ys:Array Value)(n:Nat):Prop:=∃ f0 f1,ZAt h z TI TO i1 i2 t1 t2 xs ys n f0 f1/\(f0 = .none\/∃ (T:Addr) (o:Obj),f0=rawInt (T:Nat)/\h.get? T=some o)
section
variable {prog:Program}{w:World}{A:Around}{E:Value->Shared->Prop}{s:Shared}{z TI TO i1 i2 t1 t2:Addr}{xs ys:Array Value}{n:Nat}
theorem y6W{x y:Value}{Q:Option Value->Shared->Prop}(D:ZOff z TI TO i1 i2 t1 t2)(Z:ZS s.heap z TI TO i1 i2 t1 t2 xs ys n)(hx:xs[n]? = some x)(hy:ys[n]? = some y)
 (k:∀ h',ZS h' z TI TO i1 i2 t1 t2 xs ys (n + 1)->h'.get? s.heap.objs.size=some { cls := .type "tuple",data := .seq #[x,y] }->(∀ c o,c∉[z,TI,TO,i1,i2]->s.heap.get? c=some o->h'.get? c=some o)->Q (some (.ref s.heap.objs.size)) { s with heap:=h' }):wpAny (model prog w) A (pyNext (.ref z)) Q E s:=by
 obtain⟨f0,f1,Z,c⟩:=Z
 refine y6D ⟨_,Z.zip,rfl⟩ ?_
 rcases c with rfl | ⟨T,o,rfl,gT⟩
 · exact y4P D Z hx hy fun h' Z' new _ al=>k h' ⟨_,_,Z',.inr ⟨_,_,rfl,new⟩⟩ new fun c o hc q=>al c o (fun e=>hc (by simp[e])) (fun e=>hc (by simp[e])) (fun e=>hc (by simp[e])) (fun e=>hc (by simp[e])) q
 · refine y4Q D Z gT hx hy fun h' Z' new _ al=>k h' ⟨_,_,Z',.inr ?_⟩ new fun c o hc q=>al c o (fun e=>hc (by simp[e])) (fun e=>hc (by simp[e])) (fun e=>hc (by simp[e])) q
   by_cases e1:T=z
   · have g:=Z'.zip;exact⟨T,_,rfl,(congrArg h'.get? e1).trans g⟩
   by_cases e2:T=i1
   · obtain⟨o',g⟩:=Z'.w1.obj;exact⟨T,o',rfl,(congrArg h'.get? e2).trans g⟩
   by_cases e3:T=i2
   · obtain⟨o',g⟩:=Z'.w2.obj;exact⟨T,o',rfl,(congrArg h'.get? e3).trans g⟩
   exact⟨T,o,rfl,al T o e1 e2 e3 gT⟩
theorem y6V{Q:Option Value->Shared->Prop}(hh:A.handled=none)(D:ZOff z TI TO i1 i2 t1 t2)(Z:ZS s.heap z TI TO i1 i2 t1 t2 xs ys n)(hx:xs[n]? = none)
 (k:∀ h',(∀ c o,c∉[z,TI,TO,i1,i2]->s.heap.get? c=some o->h'.get? c=some o)->Q none { s with heap:=h' }):wpAny (model prog w) A (pyNext (.ref z)) Q E s:=by
 obtain⟨f0,f1,Z,c⟩:=Z
 refine y6D ⟨_,Z.zip,rfl⟩ ?_
 rcases c with rfl | ⟨T,o,rfl,gT⟩
 · exact y4O hh D Z hx fun h' e al he=>⟨let ⟨o,g,c⟩:=he;⟨o,g,c⟩,k h' fun c o hc q=>al c o (fun e=>hc (by simp[e])) (fun e=>hc (by simp[e])) q⟩
 · exact y2h hh D Z gT hx fun h' e al he=>⟨let ⟨o,g,c⟩:=he;⟨o,g,c⟩,k h' fun c o hc q=>al c o (fun e=>hc (by simp[e])) (fun e=>hc (by simp[e])) q⟩
theorem ZS.keep{h h':Heap}{d:Addr}(Z:ZS h z TI TO i1 i2 t1 t2 xs ys n)(hd:d∉[z,TI,TO,i1,i2,t1,t2])(k:∀ c,c≠d->h'.get? c=h.get? c)(hh:∃ o,h'.get? d=some o):ZS h' z TI TO i1 i2 t1 t2 xs ys n:=by
 obtain⟨f0,f1,⟨a,b,⟨p,q,c⟩,w1,w2⟩,al⟩:=Z
 simp only[jH,jt,or_false,not_or]at hd
 obtain⟨d1,d2,d3,d4,d5,d6,d7⟩:=hd
 have up:∀ c o,¬ d=c->h.get? c=some o->h'.get? c=some o:=fun c o n e=>(k c (fun q=>n q.symm)).trans e
 refine⟨f0,f1,⟨up _ _ d1 a,up _ _ d2 b,⟨p,q,up _ _ d3 c⟩,w1.all fun b o hb e=>up b o ?_ e,w2.all fun b o hb e=>up b o ?_ e⟩,?_⟩
 · rcases hb with rfl | rfl
   · exact d4
   · exact d6
 · rcases hb with rfl | rfl
   · exact d5
   · exact d7
 · rcases al with e | ⟨T,o,e,g⟩
   · exact .inl e
   · by_cases q:T=d
     · obtain⟨o',g'⟩:=hh;exact .inr ⟨T,o',e,q ▸ g'⟩
     · exact .inr ⟨T,o,e,(k T q).trans g⟩
theorem y7g{d:Addr}{R:Result->Shared->Prop}(hh:A.handled=none)(D:ZOff z TI TO i1 i2 t1 t2)(hd:d∉[z,TI,TO,i1,i2,t1,t2])(more:List (Key×Value))(lx:xs.size=more.length)(ly:ys.size=more.length)
 (kx:∀ (j:Nat) (x:Value) (kv:Key×Value),xs[j]? = some x->more[j]? = some kv->(z0D prog w).is kv.1 x=true) (ky:∀ (j:Nat) (y:Value) (kv:Key×Value),ys[j]? = some y->more[j]? = some kv->y=kv.2) :
 ∀ (k i:Nat) (s:Shared) (kvs:List (Key×Value)),more.length - i=k->i<=more.length->ZS s.heap z TI TO i1 i2 t1 t2 xs ys i->s.heap.DictOf (z0D prog w) d kvs->kvs.length + (more.length - i)<=sizeLine ->
  (∀ h' tk,h'.DictOf (z0D prog w) d (merged kvs (more.drop i))->(∀ b o,b≠d->b∉[z,TI,TO,i1,i2]->s.heap.get? b=some o->h'.get? b=some o)->R (.ok (.ret .none)) { s with heap:=h',toks:=tk }) ->
  codeAny (model prog w) A (.builtin "dict.update.loop" ⟨[.ref d,.ref z,rawInt i,.none],[]⟩) R s:=by
 have dz:d∉[z,TI,TO,i1,i2]:=fun q=>hd (by simp only[jH,jt,or_false]at q ⊢;rcases q with q | q | q | q | q <;> simp[q])
 intro k
 induction k with
 | zero =>
  intro i s kvs hk hi Z dd hz hR
  refine codeAny_builtin z2D ?_
  rw[Around.under_plainId z1i _]
  refine wpAny_bind (y6V (show A.in1.handled=none from hh) D Z (j8 (by omega)) fun h' al=>?_)
  refine wpAny_bind (wpAny_pure (wpAny_pure (hR h' s.toks ?_ fun b o _ hb e=>al b o hb e)))
  obtain⟨o,es,ep,ho,r⟩:=dd
  rw[List.drop_eq_nil_of_le (by omega)]
  exact⟨o,es,ep,al d o dz ho,r⟩
 | succ k ih =>
  intro i s kvs hk hi Z dd hz hR
  have hlt:i < more.length:=by omega
  have hm:more[i]? = some more[i]:=jB hlt
  have hx:xs[i]? = some (xs[i]'(by omega)):=jO _
  have hy:ys[i]? = some (ys[i]'(by omega)):=jO _
  have isk:=kx i _ _ hx hm
  have isv:=ky i _ _ hy hm
  refine codeAny_builtin z2D ?_
  rw[Around.under_plainId z1i _]
  refine wpAny_bind (y6W D Z hx hy fun h' Z' new al=>?_)
  have dd':h'.DictOf (z0D prog w) d kvs:=by
   obtain⟨o,es,ep,ho,r⟩:=dd
   exact⟨o,es,ep,al d o dz ho,r⟩
  refine wpAny_bind (wpAny_holding (wpAny_bind (wpAny_tryCatch ?_)))
  unfold Builtin.Dict.pairItems
  refine wpAny_bind (wpAny_typeOf (T := "tuple") ⟨_,new,rfl⟩ ?_)
  rw[if_pos (by decide)]
  refine wpAny_bind (wpAny_seqItems new rfl (wpAny_pure ?_))
  rw[isv]at new ⊢
  refine wpAny_holding (wpAny_dictSet_pairs (hsz:=by omega) isk dd' fun h2 dd2 e2=>?_)
  have hstl:(stored kvs more[i].1 more[i].2).length<=kvs.length + 1:=by unfold stored;split <;> simp
  refine wpAny_pure ⟨plainId_quiet z1i _,?_⟩
  rw[show rawInt ((i:Int) + 1)=rawInt ((i + 1:Nat):Int) from by push_cast;rfl]
  refine ih (i + 1) _ (stored kvs more[i].1 more[i].2) (by omega) hlt (Z'.keep hd (fun c hc=>e2.2 c hc) (let ⟨o,_,_,ho,_⟩:=dd2;⟨o,ho⟩)) dd2 (by omega) fun h3 tk3 dd3 k3=>hR h3 tk3 ?_ fun b o h1 h4 e=>k3 b o h1 h4 ((e2.2 b h1).trans (al b o h4 e))
  rw[List.drop_eq_getElem_cons hlt]
  exact dd3
end
section
variable {X:Cx}{pins:List (Addr×Obj)}{σ:St}{H:Hp}{s:Shared}
theorem y0q(I:Inv X pins σ H s):∀ {ks:List Key}{vs:List V}{ik iv:List Value},Vals (ks.map kV) ik->Vals vs iv->ks.length=vs.length ->
 ∃ more',KV (ks.zip vs) more'/\more'.length=ks.length/\(∀ (j:Nat) (x:Value) (kv:Key×Value),ik[j]? = some x->more'[j]? = some kv->(z0D X.prog X.w).is kv.1 x=true)/\∀ (j:Nat) (y:Value) (kv:Key×Value),iv[j]? = some y->more'[j]? = some kv->y=kv.2
 | [],[],_,_,.nil,.nil,_=>⟨[],.nil,rfl,fun j x kv e=>by simp at e,fun j x kv e=>by simp at e⟩
 | k :: ks,v :: vs,_ :: _,_ :: _,.cons (b:=_) r1 r2,.cons (b:=y) q1 q2,h=>by
  obtain⟨more',h1,h2,h3,h4⟩:=y0q I r2 q2 (by simpa using h)
  refine⟨(k,y) :: more',.cons ⟨rfl,q1⟩ h1,by simp[h2],fun j x kv e1 e2=>?_,fun j x kv e1 e2=>?_⟩
  · cases j with
    | zero=>simp at e1 e2;subst e1 e2;exact y1G r1
    | succ j=>exact h3 j x kv (by simpa using e1) (by simpa using e2)
  · cases j with
    | zero=>simp at e1 e2;subst e1 e2;rfl
    | succ j=>exact h4 j x kv (by simpa using e1) (by simpa using e2)
def y4W(K:PySem.W.Frag)(ta:TA):TE:=fun σ H Q=>ta σ H fun vs H1=>∃ (a b:Addr) (ks:List Key) (ys:List V),vs=[.ref a,.ref b]/\(SqT K H1 a (ks.map kV)\/SqL K H1 a (ks.map kV))/\SqT K H1 b ys/\ks.length=ys.length/\ks.length<=sizeLine/\∀ p,H1 p=none->Q (.ref p) (upd H1 p (.dK (z2A [] (ks.zip ys))))
theorem y1r{e1 e2:Expr}{p p2 cp pos:Pos}{ta:TA}(K:PySem.W.Frag)(hK:X.K=K)(hc:X.calm=true)(hg:Gl X "dict")(hm:X.mg "dict" = none)(hv:bootBuiltins "dict" = some (.type "dict"))(hg2:Gl X "zip")(hm2:X.mg "zip" = none)(hv2:bootBuiltins "zip" = some (.type "zip"))(ha:PA X [e1,e2] ta)
 (he:starEach [e1,e2] X.env=(false,eval e1 X.env) :: starEach [e2] X.env:=by rfl) (hpl:(backTo cp (starEach [e2] X.env)).any (·.1)=false:=by rfl):PE X (.Call (.Name "dict" p) [.Call (.Name "zip" p2) [e1,e2] [] cp] [] pos) (y4W K ta):=by
 subst hK
 intro pins s σ H Q I h
 refine wpAny_Call_Name_kw (z3g I hg hm hv ?_ (by decide) (by decide))
 refine PyProof.Rows.callWith_type1 ?_ rfl rfl
 show wpAny _ _ (spliced [(false,eval (.Call (.Name "zip" p2) [e1,e2] [] cp) X.env)]) _ _ s
 refine Calls.spliced_cons (wpAny_Call_Name_kw (z3g I hg2 hm2 hv2 ?_ (by decide) (by decide)))
 refine PyProof.Rows.callWith_type1 (thn (ha cp pins s σ H _ I h) fun us s1 ⟨vs,H1,I1,r1,q1⟩=>?_) he hpl
 obtain⟨a,b,ks,ys,rfl,qa,qb,el,z,q⟩:=q1
 obtain⟨_,_,rfl,ra,rb⟩:=y7f r1
 cases ra
 cases rb
 obtain⟨n1,ik,rk,pa⟩:∃ n1 ik,Vals (ks.map kV) ik/\FstQ n1 s1.heap a ik.toArray:=by
  rcases qa with qa | qa
  · obtain⟨ik,rk,pa,_⟩:=I1.tuple qa
    exact⟨_,ik,rk,.inl ⟨rfl,pa⟩⟩
  · obtain⟨ik,rk,pa,_⟩:=I1.list qa
    exact⟨_,ik,rk,.inr ⟨rfl,pa.isList⟩⟩
 obtain⟨iv,rv,pb,_⟩:=I1.tuple qb
 have hh:X.A.handled=none:=I1.ok.hd hc
 refine y4s pa pb (Calls.spliced_nil ?_)
 obtain⟨Z,sz,kz⟩:=z9I pa pb
 have D:=y6X pa.lt pb.lt
 obtain⟨more',km,lm,kk,kv⟩:=y0q I1 rk rv el
 generalize laid s1.heap (z3K n1 s1.heap.objs.size a b)=h0 at Z sz kz ⊢
 have lk:=rk.length
 have lv:=rv.length
 rw[jA]at lk
 refine callType_codes (Q₁:=fun obj s₁=>obj = .ref h0.objs.size/\s₁={ s1 with heap:=h0.push { cls := .type "dict",data := .dict #[] } }) F.kt_called_dict (F.kt_typeCall_dict_1 _) F.entry_dict_init (kt_code_dict_new _ ⟨rfl,rfl⟩) ?_
 rintro obj s₁ ⟨rfl,rfl⟩
 have dd0:(h0.push { cls := .type "dict",data := .dict #[] }).DictOf (z0D X.prog X.w) h0.objs.size []:=Heap.DictOf.new h0
 have le:s1.heap.objs.size<=h0.objs.size:=by rw[sz];exact Nat.le_add_right _ _
 have fr:H1 h0.objs.size=none:=I1.hok.fresh le
 have hd:(h0.objs.size == sysModules)=false:=beq_eq_false_iff_ne.mpr (Ne.symm (jS (jW I1.big le)))
 refine⟨dd0.typeIs,F.args_dict_init_2 _ _,?_⟩
 unfold Builtin.«dict.__init__»
 refine wpAny_bind ?_
 unfold Builtin.Dict.selfAndRest
 refine wpAny_bind (wpAny_notOrdered_dict dd0.typeIs ?_)
 show wpAny _ _ (pure (h0.objs.size,[Value.ref (s1.heap.objs.size + 4)])) _ _ _
 refine wpAny_pure ?_
 have kp0:∀ c o,h0.get? c=some o->(h0.push { cls := .type "dict",data := .dict #[] }).get? c=some o:=fun c o e=>jD _ e
 generalize h0.push { cls := .type "dict",data := .dict #[] }=g at dd0 kp0 ⊢
 show wpAny _ _ (Builtin.Dict.updateFrom "dict.__init__" h0.objs.size (.ref (s1.heap.objs.size + 4)) [] .none) _ _ _
 have gz:=kp0 _ _ Z.zip
 unfold Builtin.Dict.updateFrom
 refine wpAny_bind (wpAny_typeOf (T := "zip") ⟨_,gz,rfl⟩ ?_)
 rw[if_pos (by decide)]
 refine wpAny_bind (y1e gz (show X.A.in1.in1.handled=none from hh) fun h1 tk1 k1=>?_)
 simp only[Option.isNone_none,if_true]
 refine wpAny_bind (wpAny_rule ?_)
 have k01:∀ c o,h0.get? c=some o->h1.get? c=some o:=fun c o e=>k1 _ _ (kp0 _ _ e)
 refine wpAny_bind (wpAny_pyIter_zip (s:={ s1 with heap:=h1,toks:=tk1 }) (k01 _ _ Z.zip) ?_)
 have dd1:h1.DictOf (z0D X.prog X.w) h0.objs.size []:=by
  obtain⟨o,es,ep,ho,r⟩:=dd0
  exact⟨o,es,ep,k1 _ _ ho,r⟩
 have Z1:ZS h1 (s1.heap.objs.size + 4) (s1.heap.objs.size + 2) (s1.heap.objs.size + 3) s1.heap.objs.size (s1.heap.objs.size + 1) a b ik.toArray iv.toArray 0:=by
  obtain⟨y1,y2,⟨u,v,y3⟩,y4,y5⟩:=Z
  exact⟨.none,false,⟨k01 _ _ y1,k01 _ _ y2,⟨u,v,k01 _ _ y3⟩,y4.all fun c o _ e=>k01 c o e,y5.all fun c o _ e=>k01 c o e⟩,.inl rfl⟩
 have far:∀ (t:Addr) (j:Nat),t < s1.heap.objs.size->t≠s1.heap.objs.size + j:=fun t j l e=>jr _ (jW (jx (Nat.le_of_eq e.symm) l) (Nat.le_add_right _ _))
 have hdz:h0.objs.size∉[s1.heap.objs.size + 4,s1.heap.objs.size + 2,s1.heap.objs.size + 3,s1.heap.objs.size,s1.heap.objs.size + 1,a,b]:=by
  have la:=pa.lt
  have lb:=pb.lt
  simp only[jH,jt,or_false,not_or,sz]
  exact⟨by simp,by simp,by simp,by simp,by simp,fun e=>far a 5 la e.symm,fun e=>far b 5 lb e.symm⟩
 refine wpAny_pure ⟨plainId_quiet z1i _,y7g (prog:=X.prog) (w:=X.w) (A:=X.A.in1) (show X.A.in1.handled=none from hh) D hdz more' (by rw[jI,lm,lk]) (by rw[jI,lm,el,lv]) (fun j x kv' e1 e2=>kk j x kv' (by simpa using e1) e2) (fun j y kv' e1 e2=>kv j y kv' (by simpa using e1) e2) _ 0 _ [] rfl (jR _) Z1 dd1 (by rw[Nat.sub_zero,lm];simpa using z) fun h' tk dd' kp=>?_⟩
 rw[List.drop_zero]at dd'
 have kept:∀ c u,s1.heap.get? c=some u->h'.get? c=some u:=fun c u hu=>by
  have lc:=jG hu
  refine kp c u (fun e=>far c 5 lc (e.trans sz)) ?_ (k01 c u (kz c u hu))
  simp only[jH,jt,or_false,not_or]
  exact⟨far c 4 lc,far c 2 lc,far c 3 lc,far c 0 lc,far c 1 lc⟩
 have lm2:(ks.zip ys).length<=sizeLine:=by rw[km.length,lm];exact z
 exact⟨rfl,.ref h0.objs.size,_,I1.laid (t':=tk) kept le (y0L (jc (z2P (ks.zip ys) []) (by simpa using lm2)) hd (km.merge .nil) dd'),rfl,q _ fr⟩
end
end L2
namespace L2
open PySem PySem.Spec PyProof.Rows
section
variable {P:Program}{w:World}{H H':Hp}{h h1 h2 B:Heap}{a:Addr}{o:HO}
theorem ObjOk.has(x:ObjOk P w H h a o):∃ ob,h.get? a=some ob:=by
 cases o with
 | lst xs=>obtain⟨_,_,_,_,e⟩:=x;exact⟨_,e⟩
 | tup xs=>obtain⟨_,_,_,ob,e,_⟩:=x;exact⟨ob,e⟩
 | dK kvs=>obtain⟨_,_,_,_,ob,_,_,e,_⟩:=x;exact⟨ob,e⟩
 | dT kvs=>obtain⟨_,_,_,_,ob,_,_,e,_⟩:=x;exact⟨ob,e⟩
 | set S n=>obtain⟨ob,_,_,_,e,_⟩:=x;exact⟨ob,e⟩
 | ins C dx fs=>obtain⟨_,_,_,e,_⟩:=x;exact⟨_,e⟩
 | own y=>exact x
 | xd fs=>obtain⟨_,⟨ob,_,_,e,_⟩,_⟩:=x;exact⟨ob,e⟩
 | rng lo hi=>obtain⟨_,_,_,e⟩:=x;exact⟨_,e⟩
 | frz ob u=>obtain⟨e,_⟩:=x;exact⟨ob,e⟩
 | tbl ps=>exact⟨_,(show h.get? a=some _ from x)⟩
 | met f y=>exact⟨_,(show h.get? a=some _ from x)⟩
 | ext φ=>obtain⟨_,e,_⟩:=x;exact e
theorem HOk.fly(x:HOk P w H h)(hB:∀ b ob,h.get? b=some ob->(H b).isSome=true->B.get? b=some ob)(k:B.StaysIn h2):HOk P w H h2:=fun a o e =>
 (x a o e).stay (fun b u hb q=>k b u (hB b u q (by rcases hb with rfl | hb <;> first | (rw[e];rfl) | (rw[hb];rfl)))) (fun _ q=>q) fun _ _ q=>q
theorem Un.fly{fs:List Addr}(u:Un fs [] H H' h h1)(hB:∀ b ob,h1.get? b=some ob->((H' b).isSome=true\/(h.get? b).isSome=true)->b∉fs->B.get? b=some ob)(k:B.StaysIn h2)
 (hf:∀ b∈fs,∀ ob,h1.get? b=some ob->∃ sl,h2.get? b=some { ob with slots:=sl }):Un fs [] H H' h h2 where
 keep:=fun b ob e n hb hx=>k b ob (hB b ob (u.keep b ob e n hb hx) (.inr (by rw[e];rfl)) hb)
 slot:=fun b ob e n hb hx=>by
  obtain⟨sl,e1⟩:=u.slot b ob e n hb hx
  obtain⟨sl',e2⟩:=hf b hb _ e1
  exact⟨sl',e2⟩
 free:=u.free
 there:=fun b ob e hx=>by
  obtain⟨o',e1⟩:=u.there b ob e hx
  by_cases hb:b∈fs
  · obtain⟨sl,e2⟩:=hf b hb _ e1
    exact⟨_,e2⟩
  · exact⟨o',k b o' (hB b o' e1 (.inr (by rw[e];rfl)) hb)⟩
 tups:=u.tups
 frzs:=u.frzs
 tbls:=u.tbls
end
section
variable {X:Cx}{pins:List (Addr×Obj)}{σ:St}{H:Hp}{s:Shared}
theorem Inv.off(I:Inv X pins σ H s){b:Addr}(h:(H b).isSome=true\/(X.s₀.heap.get? b).isSome=true)(hb:b∉X.fs):b∉frs X.stack:=fun z=>by
 rcases jH.mp (I.stkSub b z) with q | q
 · rcases h with h | h
   · rw[q,I.free]at h;cases h
   · obtain⟨ob,e⟩:=jw.mp h
     exact absurd (jG e) (by rw[q];exact Nat.not_lt.mpr I.ok.above)
 · exact hb q
theorem Inv.noFr(I:Inv X pins σ H s){b:Addr}(h:(H b).isSome=true):b∉frs X.stack:=fun z=>by
 rw[I.stkFree b z]at h;cases h
theorem Inv.old(I:Inv X pins σ H s)(hx:X.ex=[]){b:Addr}(h:(H b).isSome=true\/(X.s₀.heap.get? b).isSome=true):∃ ob,s.heap.get? b=some ob:=by
 rcases h with h | h
 · obtain⟨u,e⟩:=jw.mp h
   exact (I.hok b u e).has
 · obtain⟨ob,e⟩:=jw.mp h
   exact I.base.there b ob e (by rw[hx];exact fun z=>nomatch z)
end
abbrev vErr:List Value:=[.type "ValueError",.type "Exception",.type "BaseException",.type "object"]
structure NmC (mg:Str->Option Value) (x:Str) (C:Addr):Prop where
 mg:mg x=some (.ref C)
section
variable {X:Cx}{pins:List (Addr×Obj)}{σ:St}{H:Hp}{s:Shared}
theorem Inv.track{e:Addr}{o:HO}(I:Inv X pins σ H s)(hn:H e=none)(h0:X.s₀.heap.get? e=none)(hL:e≠X.env.locals)(hc:∀ x c,X.env.cells.lookup x=some c->c≠e)(hp:∀ p∈X.pn ++ pins,p.1≠e)
 (new:ObjOk X.prog X.w (upd H e o) s.heap e o):Inv X pins σ (upd H e o) s:=by
 refine⟨I.ok,I.os,I.bare,⟨I.base.keep,I.base.slot,fun b ob q n hx=>?_,I.base.there,fun b xs q=>?_,fun b ob u q=>?_,fun b ps q=>?_⟩,I.loc,I.cell,?_,fun x c q=>?_,fun p q=>?_,fun b u q=>?_,I.len⟩
 · rw[z0n (fun z=>by rw[z,h0]at q;cases q)];exact I.base.free b ob q n hx
 · have z:=I.base.tups b xs q
   rw[z0n (z0F z hn)];exact z
 · have z:=I.base.frzs b ob u q
   rw[z0n (z0F z hn)];exact z
 · obtain⟨more,z⟩:=I.base.tbls b ps q
   exact⟨more,by rw[z0n (z0F z hn)];exact z⟩
 · rw[z0n (Ne.symm hL)];exact I.free
 · rw[z0n (hc x c q)];exact I.freeC x c q
 · obtain⟨z1,z2,z3,z4,z5⟩:=I.pin p q
   exact⟨z1,by rw[z0n (hp p q)];exact z2,z3,z4,z5⟩
 · by_cases hb:b=e
   · subst hb;rw[z0c]at q;cases q;exact new
   · rw[z0n hb]at q
     exact (I.hok b u q).stay (fun _ _ _ z=>z) (fun c z=>by rw[z0n (z0F z hn)];exact z) fun c xs z=>by rw[z0n (z0F z hn)];exact z
end
structure ExcIs (K:PySem.W.Frag) (C:Addr):Prop where
 cl:PySem.W.hasDictIn K C=true
 ga:PySem.W.findIn K (.ref C) "__getattribute__" = some (some (.builtin "BaseException.__getattribute__"))
 gt:PySem.W.findIn K (.ref C) "__getattr__" = some none
 cc:PySem.W.findIn K (.ref C) "__class__" = some (some (.builtin "object.__class__"))
 mo:PySem.W.mroIn K C (.type "object")=some true
 mb:PySem.W.mroIn K C (.type "BaseException")=some true
open Builtin.ObjectAttr
def tailV:List Value->Bool
 | .ref _ :: r=>tailV r
 | l=>l == vErr
theorem z8X(self:Value):refuseLoop self "__setattr__" vErr=pure ():=by kernel_rfl
theorem y4U:∀ {l:List Value},tailV l=true->(∃ c r,l = .ref c :: r/\tailV r=true)\/l=vErr
 | [],h=>by cases h
 | x :: r,h=>by
  cases x <;> first | exact .inl ⟨_,_,rfl,h⟩ | exact .inr (eq_of_beq h)
theorem z5A(self:Value):∀ (l:List Value),tailV l=true->refuseLoop self "__setattr__" l=pure ()
 | [],h=>by cases h
 | x :: r,h=>by
  rcases y4U h with ⟨c,r',e,hr⟩ | e
  · cases e
    rw[refuseLoop_ref]
    exact z5A self r hr
  · rw[e];exact z8X self
structure ExcSt (K:PySem.W.Frag) (C:Addr):Prop extends ExcIs K C where
 sa:PySem.W.findIn K (.ref C) "__setattr__" = some (some (.builtin "object.__setattr__"))
 ov:(PySem.W.clsIn K C).any (fun cd=>tailV cd.mro)=true
section
variable {prog:Program}{w:World}{A:Around}{E:Value->Shared->Prop}{s:Shared}{K:PySem.W.Frag}{C e:Addr}{name:Str}{v:Value}{fv:Array Value}
theorem y8z{Q:Unit->Shared->Prop}(X:K.In s.heap)(c:ExcSt K C)(n:PySem.W.findIn K (.ref C) name=some none)(he:s.heap.get? e=some ⟨.ref C,none,.fields fv,#[]⟩)
 (h:∀ h',(∀ b o,b≠e->s.heap.get? b=some o->h'.get? b=some o)->h'.get? e=some ⟨.ref C,some s.heap.objs.size,.fields fv,#[]⟩->h'.Ns1 s.heap.objs.size (fun y=>if y=name then some v else none)->Q () { s with heap:=h',toks:=s.toks + 2 }) :
 wpAny (model prog w) A (setAttr (.ref e) name v) Q E s:=by
 have J:PySem.W.InstAt s.heap e ⟨.ref C,none,.fields fv,#[]⟩ C none:=⟨he,rfl,rfl,trivial⟩
 have SF:=PySem.F.store_object
 obtain⟨cd,hc,ho⟩:=PySem.W.any_some c.ov
 obtain⟨cd',hc',hd⟩:=PySem.W.any_some c.cl
 obtain rfl:cd=cd':=Option.some.inj (hc.symm.trans hc')
 have isO:PySem.W.Looks (model prog w) s.heap (isInstance (.ref e) (.type "object")) true:=J.type.andThen (PySem.W.looks_mroIn X c.mo)
 have mr:PySem.W.Looks (model prog w) s.heap (mroOf (.ref C)) cd.mro:=(PySem.W.looks_clsIn X hc).andThen .now
 obtain⟨s1,es1⟩:∃ s1:Shared,s1={ s with toks:=s.toks + 1 }:=⟨_,rfl⟩
 have eh:s1.heap=s.heap:=by rw[es1]
 refine PySem.W.set_plain X J c.sa (codeAny_call_builtin SF.slot.plain SF.entry ?_)
 rw[<- es1]
 have X1:K.In s1.heap:=by rw[eh];exact X
 have he1:s1.heap.get? e=some ⟨.ref C,none,.fields fv,#[]⟩:=by rw[eh];exact he
 have J1:PySem.W.InstAt s1.heap e ⟨.ref C,none,.fields fv,#[]⟩ C none:=by rw[eh];exact J
 have isO1:PySem.W.Looks (model prog w) s1.heap (isInstance (.ref e) (.type "object")) true:=by rw[eh];exact isO
 have mr1:PySem.W.Looks (model prog w) s1.heap (mroOf (.ref C)) cd.mro:=by rw[eh];exact mr
 refine @PySem.W.check_slot (model prog w) _ _ s1 "object.__setattr__" "object" "__setattr__" (.ref e) [.str name s.toks,v] [] _ SF.kind SF.split isO1 (SF.args _ _ _) ?_
 rw[PySem.W.osa_eq,refuse_eq]
 refine wpAny_bind (wpAny_bind (J1.type.here ?_))
 refine wpAny_bind (mr1.here ?_)
 rw[z5A _ _ ho]
 refine wpAny_pure (wpAny_bind (J1.type.here ?_))
 refine wpAny_bind ((PySem.W.looks_findIn X1 n).here ?_)
 refine wpAny_bind (wpAny_pure ?_)
 show wpAny _ _ (storeInOwnDict (.ref e) (.ref C) (.str name s.toks) name v false) _ _ _
 unfold storeInOwnDict ownDictForStores instanceDict
 refine wpAny_bind (wpAny_pure ?_)
 rw[if_neg (show ¬ ((Value.ref C == Value.type "module")=true) from by simp)]
 dsimp only
 refine wpAny_bind (wpAny_bind (wpAny_loadPart he1 ?_))
 dsimp only
 refine wpAny_bind ((PySem.W.looks_clsIn X1 hc).here ?_)
 rw[hd,if_neg (by decide),if_neg (show ¬ ((!true || !typeHasDict (Value.ref C))=true) from by simp[typeHasDict])]
 refine wpAny_bind (wpAny_alloc ?_)
 have he2:=jD (h:=s1.heap) { cls := .type "dict",data := .dict #[] } he1
 have hD:=jK s1.heap (o:={ cls := .type "dict",data := .dict #[] }) rfl
 have hne:s1.heap.objs.size≠e:=jn (jG he1)
 refine wpAny_bind (wpAny_update he2 ?_)
 refine wpAny_pure ?_
 dsimp only
 obtain⟨h2,eh2⟩:∃ h2,h2=(s1.heap.push { cls := .type "dict",data := .dict #[] }).update e fun o=>{ cls:=o.cls,dict:=some s1.heap.objs.size,data:=o.data,slots:=o.slots }:=⟨_,rfl⟩
 have heE:h2.get? e=some ⟨.ref C,some s1.heap.objs.size,.fields fv,#[]⟩:=by rw[eh2];exact jY _ he2 rfl
 have hDD:h2.get? s1.heap.objs.size=some { cls := .type "dict",data := .dict #[] }:=by rw[eh2,jV _ _ (Ne.symm hne)];exact hD
 have hkeep:∀ b o,b≠e->s1.heap.get? b=some o->h2.get? b=some o:=fun b o hb q=>by rw[eh2,jV _ _ (Ne.symm hb)];exact jD _ q
 rw[<- eh2]
 have nsE:h2.Ns s1.heap.objs.size (fun _=>none):=⟨_,#[],_,hDD,rfl,(fun y hy=>absurd hy (by simp)),fun _=>rfl⟩
 have wi:PySem.Within (fun _:Str=>(none:Option Value)) []:=fun y hy=>absurd rfl hy
 unfold storeInDict
 refine wpAny_bind (wpAny_pure (wpAny_bind ?_))
 refine wpAny_nsSet1 (s:={ heap:=h2,gens:=s1.gens,drawn:=s1.drawn,toks:=s1.toks,os:=s1.os }) (Heap.Ns1.of_empty nsE) fun h' hn hs=>?_
 obtain⟨oD,esD,epD,hoD,hdD,hcD⟩:=hn.count (PySem.Within.cons name v wi)
 refine wpAny_bind (wpAny_lookBehind hoD (by rw[hdD];exact pastItsLine_dict (jc hcD (by show 1<=sizeLine + 1;decide))) ?_)
 refine wpAny_pure ?_
 have fin:=h h' (fun b o hb q=>?_) ?_ ?_
 · rw[es1]
   exact fin
 · have q1:s1.heap.get? b=some o:=by rw[eh];exact q
   rw[hs.2 b (jS (jG q1))]
   exact hkeep b o hb q1
 · rw[hs.2 e (Ne.symm hne),heE,eh]
 · rw[<- eh]
   exact hn
end
section
variable {prog:Program}{w:World}{A:Around}{E:Value->Shared->Prop}{h:Heap}{g:Array GenState}{d:Drawn}{t:Nat}{os:OsState}
variable {nm qn:Str}{C Na fI:Addr}{bs bm:List Value}{hdc:Bool}{sn:List Str}{sub:List Value}{ab:Bool}{col:Option Bool}{dd:Option Addr}{k0 k1 k2 k3 k5:Option Value}{mN:Str->Option Value}{us:List Value}{oI:Obj}
abbrev x0I(us:List Value):Obj:={ cls := .type "tuple",data := .seq us.toArray }
abbrev x0c(C t:Addr):Obj:={ cls := .ref C,data := .fields #[.ref t,.none,.none,.none,.bool false,.none] }
theorem x0v{Q:Fin->Shared->Prop}(T:OwnTail h vErr bm)(hC:h.get? C=some (excClassObj nm qn C Na bs bm hdc sn sub ab col dd k0 k1 k2 k3 k5 "ValueError.__new__"))(hn:h.Ns Na mN)(hi:mN "__init__" = some (.ref fI))(hf:h.get? fI=some oI)(hfc:oI.cls = .type "function")(hu:us.length<=sizeLine)
 (hq:∀ h' e,Heap.MadeExcOf h h' e (.ref C) us->wpAny (model prog w) A (call (.ref fI) (.ref e :: us)) (fun r s'=>r = .none/\Q (.done (.ret (.ref e))) s') E ⟨h',g,d,t,os⟩) :
 wpAny (model prog w) A (Builtin.«type.__call__» ⟨.ref C :: us,[]⟩) Q E ⟨h,g,d,t,os⟩:=by
 have VE:=F.excBase_ValueError
 have hB:vErr.contains (Value.type "ValueError")=true:=by decide +kernel
 repeat (first | (with_reducible refine wpAny_loadPart_at hC ?_) | (with_reducible refine wpAny_madeBy_exc hC ?_) | wp_step)
 refine codeAny_call_builtin_code (Code.quiet_builtin _ VE.quiet) (wpAny_check_new_subU VE hB T hC (codeAny_exc_new_subU VE hB VE T hC ?_ hu))
 show wpAny _ _ _ _ _ _
 have kp:∀ b o,h.get? b=some o->((h.push (x0I us)).push (x0c C h.objs.size)).get? b=some o:=fun b o q=>jD _ (jD _ q)
 have eC:=kp _ _ hC
 have eF:=kp _ _ hf
 have eN:((h.push (x0I us)).push (x0c C h.objs.size)).Ns Na mN:=by
  obtain⟨o,es,ep,e1,r⟩:=hn
  exact⟨o,es,ep,kp _ _ e1,r⟩
 have eE:((h.push (x0I us)).push (x0c C h.objs.size)).get? (h.objs.size + 1)=some (x0c C h.objs.size):=by
  have:=jK (h.push (x0I us)) (o:=x0c C h.objs.size) rfl
  rwa [j9]at this
 have cC:(Value.ref C :: bm).contains (.ref C)=true:=by simp
 have T1:=T.keeps kp
 unfold isInstance
 repeat (first | (with_reducible refine wpAny_loadPart_at eE ?_) | (with_reducible refine wpAny_isSubtype_exc eC ?_;rw[cC]) | wp_step)
 show wpAny _ _ (typeLookup (.ref C) _) _ _ _
 refine wpAny_typeLookup_tail eC eN T1 VE.mroIs VE.init.lookup ?_
 rw[hi]
 dsimp only
 refine wpAny_holding (wpAny_bind ?_)
 unfold bindSpecial
 refine wpAny_bind (wpAny_typeOf (T := "function") ⟨_,eF,hfc⟩ ?_)
 rw[if_pos (by decide)]
 refine wpAny_pure (wpAny_bind (wpAny_mono (hq _ (h.objs.size + 1) ⟨kp,Heap.get?_none_of_le (Nat.le_succ _),h.objs.size,eE,Heap.get?_none_of_le (jF _),jD _ (jK _ rfl)⟩) (fun r s' hr=>?_) fun _ _ z=>z))
 obtain⟨rfl,q⟩:=hr
 wp_walk
 exact q
theorem y5X{Q:Value->Shared->Prop}(T:OwnTail h vErr bm)(hC:h.get? C=some (excClassObj nm qn C Na bs bm hdc sn sub ab col dd k0 k1 k2 k3 k5 "ValueError.__new__"))(hn:h.Ns Na mN)(hi:mN "__init__" = some (.ref fI))(hf:h.get? fI=some oI)(hfc:oI.cls = .type "function")(hu:us.length<=sizeLine)
 (hq:∀ h' e,Heap.MadeExcOf h h' e (.ref C) us->wpAny (model prog w) (A.under (.builtin "type.__call__" ⟨.ref C :: us,[]⟩)) (call (.ref fI) (.ref e :: us)) (fun r s'=>r = .none/\Q (.ref e) s') E ⟨h',g,d,t,os⟩) :
 wpAny (model prog w) A (call (.ref C) us) Q E ⟨h,g,d,t,os⟩:=by
 have l1:=tc_lookup
 have l2:=tc_bind (.ref C)
 have ty:(⟨h,g,d,t,os⟩:Shared).TypeIs (.ref C) "type" := ⟨_,hC,rfl⟩
 refine wpAny_call (codeAny_of_tree ?_)
 show wpAny _ _ (callAny (.ref C) _) _ _ _
 repeat (any_goals (first | assumption | (with_reducible refine wpAny_loadPart_at hC ?_) | wp_step))
 refine And.intro rfl (codeAny_call_builtin_at (Code.quiet_builtin _ (by decide +kernel)) entry_typeCall (wpAny_check_type_call_sub hC (x0v T hC hn hi hf hfc hu fun h' e hm=>?_)))
 exact hq h' e hm
end
abbrev y8B(C:Addr)(od:Option Addr)(t:Addr):Obj:=⟨.ref C,od,.fields #[.ref t,.none,.none,.none,.bool false,.none],#[]⟩
def y2f(C e:Addr)(od:Option Addr)(t:Addr):HO := .ext fun h=>h.get? e=some (y8B C od t)
theorem y4a{P:Program}{w:World}{H:Hp}{h:Heap}{C e t:Addr}{od:Option Addr}(x:h.get? e=some (y8B C od t)):ObjOk P w H h e (y2f C e od t):=⟨x,⟨_,x⟩,fun _ _ q k=>k _ q⟩
section
variable {X:Cx}{pins:List (Addr×Obj)}{σ:St}{H:Hp}{s:Shared}{C e t dx:Addr}{od:Option Addr}
theorem y4b(I:Inv X pins σ H s)(h:H e=some (y2f C e od t)):s.heap.get? e=some (y8B C od t):=(show ObjOk X.prog X.w H s.heap e (y2f C e od t) from I.hok e _ h).1
theorem Inv.fresh0(I:Inv X pins σ H s)(hx:X.ex=[])(h:s.heap.get? e=none):H e=none/\X.s₀.heap.get? e=none/\e≠X.env.locals/\(∀ x c,X.env.cells.lookup x=some c->c≠e)/\∀ p∈X.pn ++ pins,p.1≠e:=by
 refine⟨?_,?_,fun z=>?_,fun x c q z=>?_,fun p hp z=>?_⟩
 · cases q:H e with
   | none=>rfl
   | some u =>
    obtain⟨ob,z⟩:=(I.hok e u q).has
    rw[h]at z;cases z
 · cases q:X.s₀.heap.get? e with
   | none=>rfl
   | some o =>
    obtain⟨o2,z⟩:=I.base.there e o q (by rw[hx];exact fun z=>nomatch z)
    rw[h]at z;cases z
 · obtain⟨m,⟨ol,es,ep,hol,_⟩,_⟩:=I.loc
   rw[<- z,h]at hol;cases hol
 · obtain⟨v,oc,hoc,_⟩:=I.cell x c q
   rw[z,h]at hoc;cases hoc
 · have:=(I.pin p hp).1
   rw[z,h]at this;cases this
end
section
variable {X:Cx}{o value:Expr}{f:Str}{pos pos':Pos}{ta tv:TE}
def x0P(K:PySem.W.Frag)(ta tv:TE)(f:Str):TS:=fun D σ H=>tv σ H fun y H1=>ta σ H1 fun x H2=>∃ e C t,x = .ref e/\H2 e=some (y2f C e none t)/\ExcSt K C/\NoAttr K C f/\∀ dx,H2 dx=none->D.nx σ (upd (upd H2 e (y2f C e (some dx) t)) dx (.xd [(f,y)]))
theorem y7I(hx:X.ex=[])(ha:PE X o ta)(hv:PE X value tv)(hs:swapsWith value (some (.Attribute o f pos')) pos.line X.env=pure false):PS X (.Assign [.Attribute o f pos'] value pos) (x0P X.K ta tv f):=by
 intro pins s σ H D I h
 refine plainObj_wpAny_Assign_Attribute (thn (hv pins s σ H _ I h) fun u s1 ⟨y,H1,I1,ry,q⟩=>thn (ha pins s1 σ H1 _ I1 q) fun ov s2 ⟨x,H2,I2,rx,e,C,t,ex,ea,c,n,q2⟩=>?_) hs
 subst ex
 obtain rfl:ov=Value.ref e:=rx
 have he:=y4b I2 ea
 refine y8z I2.kIn c n he fun h' kp hE hN=>?_
 obtain⟨f1,f2,f3,f4,f5⟩:=I2.fresh0 hx (e:=s2.heap.objs.size) (Heap.get?_none_of_le (jF _))
 have I3:Inv X pins σ (upd H2 e (y2f C e (some s2.heap.objs.size) t)) { s2 with heap:=h',toks:=s2.toks + 2 } :=
  I2.write (x:=e) (e:=e) (by rw[ea];exact trivial) (.inl rfl) (fun b u hb z=>kp b u hb z) ⟨_,hE⟩ (y4a hE)
 have ne:s2.heap.objs.size≠e:=jn (jG he)
 have I4:=I3.track (e:=s2.heap.objs.size) (o := .xd [(f,y)]) (by rw[z0n ne];exact f1) f2 f3 f4 f5 ⟨_,hN,fun g=>?_⟩
 · exact⟨σ,_,I4,q2 _ f1⟩
 · show RelO (List.lookup g [(f,y)]) (if g=f then some u else none)
   by_cases z:g=f
   · have hb:(g == f)=true:=beq_iff_eq.mpr z
     rw[if_pos z]
     simp only[List.lookup,hb]
     exact ry
   · have hb:(g == f)=false:=beq_eq_false_iff_ne.mpr z
     rw[if_neg z]
     simp only[List.lookup,hb]
     exact trivial
end
def spIni(C:Addr)(f:Str):Sp:=fun vs H Q _=>∃ e v t,vs=[.ref e,v]/\H e=some (y2f C e none t)/\∀ dx,H dx=none->Q .non (upd (upd H e (y2f C e (some dx) t)) dx (.xd [(f,v)]))
structure ExcK (P:Program) (w:World) (K:PySem.W.Frag) (mg:Str->Option Value) (base:Heap) (x:Str) (C:Addr) (f:Str):Prop where
 nm:mg x=some (.ref C)
 st:ExcSt K C
 na:NoAttr K C f
 kp:PySem.W.keepIn K (.ref C)=true
 cl:∀ h,K.In h->∃ bm Na nm qn bs hdc sn sub ab col dd k0 k1 k2 k3 k5 mN fI oI fd,h.get? C=some (excClassObj nm qn C Na bs bm hdc sn sub ab col dd k0 k1 k2 k3 k5 "ValueError.__new__")/\h.Ns Na mN/\mN "__init__" = some (.ref fI)/\OwnTail h vErr bm/\h.get? fI=some oI/\oI.cls = .type "function" /\
  FnOk P w K mg base CX0 1 fI fd ["self",f] (spIni C f)/\Binds K fd ["self",f] []
section
variable {X:Cx}{x f:Str}{C:Addr}{k:Nat}{p pos:Pos}{e:Expr}{t:TA}
def x1e(X:Cx)(pins:List (Addr×Obj))(σ:St)(C:Addr)(f:Str)(R:Addr->Addr->Addr->Hp->V->Prop)(u:Value)(s':Shared):Prop :=
 ∃ (ea dx tt:Addr) (H1:Hp) (v:V) (s1:Shared),u = .ref ea/\Inv X pins σ H1 s1/\Inv X pins σ (upd (upd H1 ea (y2f C ea (some dx) tt)) dx (.xd [(f,v)])) s'/\H1 ea=none/\H1 dx=none/\dx≠ea/\X.s₀.heap.get? ea=none/\R ea dx tt H1 v
theorem y8A(c:ExcK X.prog X.w X.K X.mg X.base x C f)(hr:Room (k + 2) X.A)(hg:Gl X x)(hx:X.ex=[])(ha:PA X [e] t){pins:List (Addr×Obj)}{s:Shared}{σ:St}{H:Hp}{R:Addr->Addr->Addr->Hp->V->Prop}(I:Inv X pins σ H s)
 (h:t σ H fun vs H1=>∃ v,vs=[v]/\∀ ea dx tt,H1 ea=none->H1 dx=none->dx≠ea->R ea dx tt H1 v) (hdb:(x == ("__debug__" : Str))=false)
 (he:starEach [e] X.env=[(false,eval e X.env)]) :
 wpAny (model X.prog X.w) X.A (eval (.Call (.Name x p) [e] [] pos) X.env) (x1e X pins σ C f R) X.xe s:=by
 refine wpAny_Call_Name_kw (y3G I hg c.nm ?_ hdb)
 refine PySem.W.callWith_K (h₀:=X.base) I.ok.mod.kin c.kp (thn (ha pos pins s σ H _ I h) fun us s1 ⟨vs,H1,I1,r,q⟩=>⟨I1.kIn,?_⟩) he rfl
 obtain⟨v,rfl,q⟩:=q
 obtain⟨u,rfl,ru⟩:=z3L r
 obtain⟨bm,Na,nm,qn,bs,hdc,sn,sub,ab,col,dd,k0,k1,k2,k3,k5,mN,fI,oI,fd,hC,hN,hi,T,hf,hfc,F,hb⟩:=c.cl _ I1.kIn
 obtain⟨hp,g,d,tk,os⟩:=s1
 refine y5X T hC hN hi hf hfc (by show 1<=sizeLine;decide) fun h' ea hm=>?_
 obtain⟨tt,hE,htn,htt⟩:=hm.there
 obtain⟨f1,f2,f3,f4,f5⟩:=I1.fresh0 hx hm.new
 have I2:=(I1.kept (h':=h') (t':=tk) hm.keeps).track (e:=ea) (o:=y2f C ea none tt) f1 f2 f3 f4 f5 (y4a hE)
 have r2:Vals [V.ref ea,v] [Value.ref ea,u] := .cons rfl (.cons ru .nil)
 have hq:spIni C f [V.ref ea,v] (upd H1 ea (y2f C ea none tt)) (fun z H2=>z = .non/\∃ dx,H1 dx=none/\dx≠ea/\H2=upd (upd H1 ea (y2f C ea (some dx) tt)) dx (.xd [(f,v)])) E0:=by
  refine⟨ea,v,tt,rfl,z0c,fun dx hd=>?_⟩
  have ne:dx≠ea:=fun z=>by rw[z,z0c]at hd;cases hd
  rw[z0n ne]at hd
  exact⟨rfl,dx,hd,ne,by rw[y7h]⟩
 refine wpAny_call (codeAny_mono (F.run _ X.stack _ _ ⟨[Value.ref ea,u],[]⟩ [Value.ref ea,u] _ _ _ ((hr.mono (Nat.le_add_left 2 k)).make C [u] []) (I2.env0.make C [u] []) (hb _ [Value.ref ea,u] I2.kIn rfl) r2 hq) fun rr s' hq'=>?_)
 cases rr with
 | error ev=>exact y9O pins σ _ _ ev s' I2 hq'
 | ok fl =>
  cases fl with
  | ret u2 =>
   obtain⟨z,H',I3,rz,ez,dx,hd,ne,eH⟩:=I2.after hq'
   subst ez eH
   exact⟨rz,ea,dx,tt,H1,v,_,rfl,I1,I3,f1,hd,ne,f2,q ea dx tt f1 hd ne⟩
  | next=>exact False.elim hq'
  | brk=>exact False.elim hq'
  | cont=>exact False.elim hq'
end
section
variable {M:Model}{A:Around}{E:Value->Shared->Prop}{env:Env}{nm qn:Str}{C Na:Addr}{bs bm:List Value}{hdc:Bool}{sn:List Str}{sub:List Value}{ab:Bool}{col:Option Bool}{dd:Option Addr}{k0 k1 k2 k3 k5:Option Value}{nid:String}
theorem y2W{s:Shared}{m:Sem Value}{Q:Flow->Shared->Prop}(hb:bm.contains (.type "BaseException")=true)(hh:A.handled=none)
 (h:wpAny M A m (fun v s1=>∃ e od t,v = .ref e/\s1.heap.get? C=some (excClassObj nm qn C Na bs bm hdc sn sub ab col dd k0 k1 k2 k3 k5 nid)/\s1.heap.get? e=some (y8B C od t)/\E (.ref e) s1) E s) :
 wpAny M A (raiseStmt env (some m) none) Q E s:=by
 have cB:(Value.ref C :: bm).contains (.type "BaseException")=true:=by rw[List.contains_cons,hb,Bool.or_true]
 unfold raiseStmt
 refine wpAny_bind (wpAny_mono h (fun v s1 ⟨e,od,t,ev,hC,he,hE⟩=>?_) fun _ _ z=>z)
 subst ev
 obtain⟨hp,g,d,tk,os⟩:=s1
 repeat (first | (with_reducible refine wpAny_loadPart_at he ?_) | (with_reducible refine wpAny_loadPart_at hC ?_) | (with_reducible refine wpAny_isSubtype_exc hC ?_;rw[cB]) | wp_step)
 exact wpAny_raiseNew_none hh hE
end
theorem y8c{K:PySem.W.Frag}{h:Heap}{N:Addr}{m:Str->Option Value}{n:Str}{v:Value}(X:K.In h)(G:h.Ns N m)(q:PySem.W.nsIn K N n=some (some v)):m n=some v:=by
 obtain⟨o,es,ep,ho,hd,_,hf⟩:=G
 unfold PySem.W.nsIn at q
 split at q
 · rename_i lk
   cases ho.symm.trans (X _ _ lk)
   cases hd
   split at q
   · rename_i en he
     cases q
     rw[<- hf,nsFind,findBy,<- Array.find?_toList,he]
     rfl
   · split at q <;> cases q
 · cases q
structure ExcW (K:PySem.W.Frag) (C fI:Addr):Prop where
 ex:∃ nm bs bm na qn hdc sn sub ab col dd k0 k1 k2 k3 k5,K.lookup C=some ⟨.type "type",dd,.cls ⟨nm,bs,.ref C :: bm,na,qn,hdc,sn,sub,ab,col,false⟩,#[k0,k1,k2,k3,some (.builtin "ValueError.__new__"),k5]⟩ /\
  PySem.W.tailIn K vErr bm=true/\PySem.W.nsOkIn K na=true/\PySem.W.nsIn K na "__init__" = some (some (.ref fI))
theorem ExcK.mk'{P:Program}{w:World}{K:PySem.W.Frag}{mg:Str->Option Value}{base:Heap}{x f:Str}{C fI:Addr}{fd:FuncData}{od:Option Addr}{sl:Array (Option Value)}(nm:mg x=some (.ref C))(st:ExcSt K C)(na:NoAttr K C f)(kp:PySem.W.keepIn K (.ref C)=true)(W:ExcW K C fI)
 (li:K.lookup fI=some ⟨.type "function",od,.func fd,sl⟩) (F:FnOk P w K mg base CX0 1 fI fd ["self",f] (spIni C f)) (hb:Binds K fd ["self",f] []):ExcK P w K mg base x C f:=by
 refine⟨nm,st,na,kp,fun h X=>?_⟩
 obtain⟨nm',bs,bm,na',qn,hdc,sn,sub,ab,col,dd,k0,k1,k2,k3,k5,lk,tl,nk,ni⟩:=W.ex
 have hN:=Heap.Ns.of_isNs (PySem.W.isNs_of_in X nk)
 exact⟨bm,na',nm',qn,bs,hdc,sn,sub,ab,col,dd,k0,k1,k2,k3,k5,_,fI,_,fd,X _ _ lk,hN,y8c X hN ni,PySem.W.tail_of_in X tl,X _ _ li,rfl,F,hb⟩
def TrD(h base:Heap)(e:Addr)(c:Value)(od:Option Addr)(fl:Value):Prop :=
 ∃ (vs:Array Value) (sl:Array (Option Value)) (T:Addr) (oT:Obj) (ts:Array Value),h.get? e=some ⟨c,od,.fields vs,sl⟩/\vs[1]? = some (.ref T)/\base.get? T=none/\T≠e/\h.get? T=some oT/\oT.data = .fields ts/\ts[3]? = some fl
def y4N(base:Heap)(l:List Env)(e:Addr)(c:Value)(od:Option Addr)(fl:Value)(h:Heap):Prop:=base.StaysIn h/\base.get? e=none/\h.FunFrames base l/\TrD h base e c od fl
section
variable {M:Model}{A:Around}{E:Value->Shared->Prop}{s:Shared}{base:Heap}{env:Env}{outer l:List Env}{L e:Addr}{c fl:Value}{od:Option Addr}{vs:Array Value}{sl:Array (Option Value)}
theorem x0y{head:Value}{had:Bool}{Q:Unit->Shared->Prop}(fr:A.frames=some (env :: outer))(ff:s.heap.FunFrames base (env :: outer))(fe:env.frame=some L)(qe:s.heap.get? e=some ⟨c,od,.fields vs,sl⟩)(kb:base.StaysIn s.heap)(nb:base.get? e=none)(sz:1 < vs.size)
 (k:∀ h',y4N base (env :: outer) e c od (rawInt L) h'->s.heap.UpToSlots h'->Q () { s with heap:=h' }) :
 wpAny M A (do let a <- frameOf env;let pl <- entryPlaceOf L had;let b <- EntryCells.newEntry head a .none (rawInt L) .none pl;setField (.ref e) 1 b) Q E s:=by
 have ne:e∉(env :: outer).filterMap (·.frame):=fun z=>by
  obtain⟨_,o,ho,hn⟩:=ff.mem z
  rw[qe]at ho;cases ho
  exact hn vs rfl
 refine wpAny_bind (wpAny_frameOf_fun fr ff fe fun g sg=>?_)
 refine wpAny_bind (wpAny_entryPlaceOf fun pl ip=>?_)
 unfold EntryCells.newEntry newFields
 refine wpAny_bind (wpAny_newObj_type ?_ (ip.sizeOk5 _ _ _ _ _))
 have q1:g.get? e=some ⟨c,od,.fields vs,sl⟩:=(sg.2.1 e ne).trans qe
 have b1:base.StaysIn g:=fun b o z=>(sg.2.1 b fun m=>by rw[(ff.mem m).1]at z;cases z).trans (kb b o z)
 generalize hob:([head,Value.ref L,Value.none,rawInt L,Value.none] ++ (if pl.isEmpty then List.replicate 6 Value.none else pl)).toArray=cells
 have c3:cells[3]? = some (rawInt L):=by rw[<- hob];simp
 obtain⟨tb,etb⟩:∃ tb:Obj,tb={ cls := .type "traceback",dict:=none,data := .fields cells }:=⟨_,rfl⟩
 rw[<- etb]
 have q2:=jD (h:=g) tb q1
 have nt:g.objs.size≠e:=jn (jG q1)
 refine wpAny_setField q2 rfl sz (k _ ?_ ?_)
 all_goals
  obtain⟨g3,eg3⟩:∃ g3,g3=(g.push tb).update e (Obj.mapFields (·.setIfInBounds 1 (Value.ref g.objs.size))):=⟨_,rfl⟩
  rw[<- eg3]
  have q3:g3.get? e=some ⟨c,od,.fields (vs.setIfInBounds 1 (Value.ref g.objs.size)),sl⟩:=by rw[eg3];exact jY _ q2 rfl
  have t3:g3.get? g.objs.size=some tb:=by rw[eg3,jV _ _ (Ne.symm nt)];exact jK g (by rw[etb];rfl)
  have kp:∀ b o,b≠e->g.get? b=some o->g3.get? b=some o:=fun b o hb z=>by rw[eg3,jV _ _ (Ne.symm hb)];exact jD _ z
  have nr:∀ b o,s.heap.get? b=some o->(∀ ws,o.data ≠ .fields ws)->b≠e:=fun b o z hn q=>by
   rw[q,qe]at z;cases z
   exact hn vs rfl
 · refine⟨fun b o z=>kp b o (fun q=>by rw[q,nb]at z;cases z) (b1 b o z),nb,ff.of_keeps fun b o z hn=>?_,?_⟩
   · obtain⟨sl',z'⟩:=sg.2.2 b o z
     exact⟨_,kp b _ (nr b o z hn) z',rfl⟩
   · exact⟨_,sl,g.objs.size,tb,cells,q3,by simp[sz],b1.fresh,nt,t3,by rw[etb],c3⟩
 · intro b o z hn
   obtain⟨sl',z'⟩:=sg.2.2 b o z
   exact⟨sl',kp b _ (nr b o z hn) z'⟩
theorem x0T{Q:Unit->Shared->Prop}(f:y4N base l e c od fl s.heap)(k:∀ h',y4N base l e c od .none h'->s.heap.UpToSlots h'->Q () { s with heap:=h' }):wpAny M A (setFlight (.ref e) none) Q E s:=by
 obtain⟨kb,nb,ff,vs,sl,T,oT,ts,qe,q1,nT,ne,qT,dT,q3⟩:=f
 have z3:3 < ts.size:=(Array.getElem?_eq_some_iff.mp q3).1
 unfold setFlight
 refine wpAny_bind (wpAny_field qe rfl q1 ?_)
 rw[if_pos (show (Value.ref T != Value.none)=true from by simp)]
 have ot:∀ b,b≠T->(s.heap.update T (Obj.mapFields (·.setIfInBounds 3 Value.none))).get? b=s.heap.get? b:=fun b hb=>jV _ _ (Ne.symm hb)
 have nr:∀ b o,s.heap.get? b=some o->(∀ ws,o.data ≠ .fields ws)->b≠T:=fun b o z hn q=>by
  rw[q,qT]at z;cases z
  exact hn ts dT
 refine wpAny_setField qT dT z3 (k _ ⟨fun b o z=>(ot b fun q=>by rw[q,nT]at z;cases z).trans (kb b o z),nb,ff.of_keeps fun b o z hn=>⟨o,(ot b (nr b o z hn)).trans z,rfl⟩,?_⟩ fun b o z hn=>⟨o.slots,(ot b (nr b o z hn)).trans z⟩)
 exact⟨vs,sl,T,_,_,(ot e (Ne.symm ne)).trans qe,q1,nT,ne,jY _ qT (Obj.isFreed_of_fields (Obj.data_mapFields dT _)),Obj.data_mapFields dT _,by simp[z3]⟩
theorem x0a{Q:Unit->Shared->Prop}(fr:A.frames=some (env :: outer))(fe:env.frame=some L)(f:y4N base (env :: outer) e c od .none s.heap)(k:∀ h',y4N base (env :: outer) e c od (rawInt L) h'->s.heap.UpToSlots h'->Q () { s with heap:=h' }):wpAny M A (noteFrame (.ref e) env) Q E s:=by
 obtain⟨kb,nb,ff,vs,sl,T,oT,ts,qe,q1,nT,ne,qT,dT,q3⟩:=f
 unfold noteFrame
 simp only[fe]
 refine wpAny_bind (wpAny_field qe rfl q1 ?_)
 rw[if_pos (show (Value.ref T != Value.none)=true from by simp)]
 refine wpAny_bind (wpAny_field qT dT q3 ?_)
 rw[if_neg (show ¬ ((Value.none == rawInt L)=true) from by simp[rawInt])]
 refine wpAny_bind (wpAny_setField qT dT (Array.getElem?_eq_some_iff.mp q3).1 ?_)
 have ot:∀ b,b≠T->(s.heap.update T (Obj.mapFields (·.setIfInBounds 3 Value.none))).get? b=s.heap.get? b:=fun b hb=>jV _ _ (Ne.symm hb)
 have nr:∀ b o,s.heap.get? b=some o->(∀ ws,o.data ≠ .fields ws)->b≠T:=fun b o z hn q=>by
  rw[q,qT]at z;cases z
  exact hn ts dT
 refine x0y fr (ff.of_keeps fun b o z hn=>⟨o,(ot b (nr b o z hn)).trans z,rfl⟩) fe ((ot e (Ne.symm ne)).trans qe) (fun b o z=>(ot b fun q=>by rw[q,nT]at z;cases z).trans (kb b o z)) nb (Array.getElem?_eq_some_iff.mp q1).1 fun h' f' sm=>k h' f' fun b o z hn=>sm b o ((ot b (nr b o z hn)).trans z) hn
end
def CXD(P:Program)(w:World):CXT:=fun outer H s E ev s'=>∃ (e C:Addr) (od:Option Addr) (B:Heap) (H':Hp),ev = .ref e/\s'.os=s.os/\AllBare s'.gens/\Un (frs outer) [] H H' s.heap s'.heap/\HOk P w H' s'.heap /\
 y4N B outer e (.ref C) od .none s'.heap/\(∀ b ob,s'.heap.get? b=some ob->((H' b).isSome=true\/(s.heap.get? b).isSome=true)->b∉frs outer->B.get? b=some ob)/\H' e=none/\E (.ref C) od H'
theorem y6E{P:Program}{w:World}{X:Cx}:z5S (CXD P w) X E0:=fun _ _ _ _ _ _ _ ⟨_,_,_,_,_,_,_,_,_,_,_,_,_,h⟩=>h.elim
section
variable {P:Program}{w:World}{K:PySem.W.Frag}{mg:Str->Option Value}{base:Heap}{N:List Str}{qual:Str}{scope:Scope}{f:Addr}{cd:Value}{A:Around}{outer:List Env}{s0:Shared}{H0:Hp}{E:XK}
def y4v(X:Cx)(E:XK):Prop:=∀ (pins:List (Addr×Obj)) (σ:St) (H:Hp) (s:Shared) (e C:Addr) (od:Option Addr) (t:Addr),Inv X pins σ H s->H e=none->X.s₀.heap.get? e=none->s.heap.get? e=some (y8B C od t)->E (.ref C) od H->X.xe (.ref e) s
end
structure Def2 (P:Program) (w:World) (K:PySem.W.Frag) (mg:Str->Option Value) (base:Heap) (x:Str) (k:Nat) (ps:List Str) (sp:Sp):Prop where
 ex:∃ f fd,FnOk P w K mg base (CXD P w) k f fd ps sp/\Binds K fd ps []/\PySem.W.keepIn K (.ref f)=true/\mg x=some (.ref f)
section
variable {X:Cx}{k j:Nat}{ps:List Str}{sp:Sp}{x:Str}{p pos:Pos}{e:Expr}{es:List Expr}{t:TA}{E:XK}
theorem y3n(D:Def2 X.prog X.w X.K X.mg X.base x j ps sp)(hr:Room k X.A)(hg:Gl X x)(hx:z5S (CXD X.prog X.w) X E)(ha:PA X (e :: es) t)(hjk:j<=k:=by decide)(hdb:(x == ("__debug__" : Str))=false:=by decide)
 (he:starEach (e :: es) X.env=(false,eval e X.env) :: starEach es X.env:=by rfl) (hpl:(backTo pos (starEach es X.env)).any (·.1)=false:=by rfl) :
 PE X (.Call (.Name x p) (e :: es) [] pos) (y1k sp [] E t):=by
 obtain⟨f,fd,F,b,kp,m⟩:=D.ex
 exact z9a F (hr.mono hjk) hg m kp b .nil hx ha hdb he hpl
end
section
variable {X:Cx}{pins:List (Addr×Obj)}{σ:St}{H:Hp}{s s2:Shared}{e dx:Addr}{φ:Heap->Prop}{fs:List (Str×V)}
theorem Inv.dropE(I2:Inv X pins σ (upd (upd H e (.ext φ)) dx (.xd fs)) s2)(he:H e=none)(ne:dx≠e):Inv X pins σ (upd H dx (.xd fs)) s2:=by
 have at2:(upd (upd H e (.ext φ)) dx (.xd fs)) e=some (.ext φ):=by rw[z0n (Ne.symm ne),z0c]
 have off:∀ {b:Addr},b≠e->(upd H dx (.xd fs)) b=(upd (upd H e (.ext φ)) dx (.xd fs)) b:=fun {b} hb=>by
  by_cases z:b=dx
  · rw[z,z0c,z0c]
  · rw[z0n z,z0n z,z0n hb]
 have non:∀ {b:Addr},(upd (upd H e (.ext φ)) dx (.xd fs)) b=none->(upd H dx (.xd fs)) b=none:=fun {b} q=>by
  rw[off (fun z=>by rw[z,at2]at q;cases q)];exact q
 have som:∀ {b:Addr}{u:HO},(upd (upd H e (.ext φ)) dx (.xd fs)) b=some u->(∀ z,u ≠ .ext z)->(upd H dx (.xd fs)) b=some u:=fun {b u} q h=>by
  rw[off (fun z=>by rw[z,at2]at q;exact h _ (Option.some.inj q).symm)];exact q
 have at3:(upd H dx (.xd fs)) e=none:=by rw[z0n (Ne.symm ne)];exact he
 refine⟨I2.ok,I2.os,I2.bare,⟨I2.base.keep,I2.base.slot,fun b ob q n hx=>non (I2.base.free b ob q n hx),I2.base.there,fun b xs q=>som (I2.base.tups b xs q) (fun _ z=>nomatch z),fun b ob u q=>som (I2.base.frzs b ob u q) (fun _ z=>nomatch z),fun b ps q=>?_⟩,I2.loc,I2.cell,non I2.free,fun x c q=>non (I2.freeC x c q),fun p hp=>?_,fun b u q=>?_,I2.len⟩
 · obtain⟨more,z⟩:=I2.base.tbls b ps q
   exact⟨more,som z (fun _ z=>nomatch z)⟩
 · obtain⟨z1,z2,z3,z4,z5⟩:=I2.pin p hp
   exact⟨z1,non z2,z3,z4,z5⟩
 · have hb:b≠e:=fun z=>by rw[z,at3]at q;cases q
   rw[off hb]at q
   exact (I2.hok b u q).stay (fun _ _ _ z=>z) (fun c z=>som z (fun _ z=>nomatch z)) fun c xs z=>som z (fun _ z=>nomatch z)
end
section
variable {X:Cx}{x f:Str}{C:Addr}{k:Nat}{E:XK}{np cpos pos:Pos}{e:Expr}{t:TA}
def y7k(E:XK)(C:Addr)(f:Str)(t:TA):TS:=fun _ σ H=>t σ H fun vs H1=>∃ v,vs=[v]/\∀ ea dx (tt:Addr),H1 ea=none->H1 dx=none->dx≠ea->E (.ref C) (some dx) (upd H1 dx (.xd [(f,v)]))
theorem y3f(c:ExcK X.prog X.w X.K X.mg X.base x C f)(hr:Room (k + 2) X.A)(hc:X.calm=true)(hg:Gl X x)(hx:X.ex=[])(R:y4v X E)(ha:PA X [e] t)(hdb:(x == ("__debug__" : Str))=false:=by decide)(he:starEach [e] X.env=[(false,eval e X.env)]:=by rfl) :
 PS X (.Raise (some (.Call (.Name x np) [e] [] cpos)) none pos) (y7k E C f t):=by
 intro pins s σ H D I h
 rw[arm_exec_Raise]
 obtain⟨bm,Na,nm,qn,bs,hdc,sn,sub,ab,col,dd,k0,k1,k2,k3,k5,mN,fI,oI,fd,hC,hN,hi,T,hf,hfc,FF,hb⟩:=c.cl _ I.ok.mod.kin
 refine wpAny_bind (wpAny_standAt ?_)
 show wpAny _ _ (raiseStmt X.env (some (do let v <- eval (.Call (.Name x np) [e] [] cpos) X.env;standAt pos;pure v)) none) _ _ _
 refine y2W (nm:=nm) (qn:=qn) (Na:=Na) (bs:=bs) (bm:=bm) (hdc:=hdc) (sn:=sn) (sub:=sub) (ab:=ab) (col:=col) (dd:=dd) (k0:=k0) (k1:=k1) (k2:=k2) (k3:=k3) (k5:=k5) (nid := "ValueError.__new__") (C:=C) (T.hasType F.excBase_ValueError.hasBase) (I.ok.hd hc)
  (wpAny_bind (wpAny_mono (y8A (R:=fun _ dx _ H1 v=>E (.ref C) (some dx) (upd H1 dx (.xd [(f,v)]))) c hr hg hx ha I h hdb he) (fun u s' hm=>wpAny_bind (wpAny_standAt (wpAny_pure ?_))) fun _ _ z=>z))
 obtain⟨ea,dx,tt,H1,v,s1,eu,I1,I2,f1,f2,ne,f0,q⟩:=hm
 subst eu
 have I3:=I2.dropE f1 ne
 have hE:s'.heap.get? ea=some (y8B C (some dx) tt):=y4b I2 (by rw[z0n (Ne.symm ne),z0c])
 exact⟨ea,some dx,tt,rfl,I3.bk _ _ hC,hE,R pins σ _ s' ea C (some dx) tt I3 (by rw[z0n (Ne.symm ne)];exact f1) f0 hE q⟩
end
def TrI(h B:Heap)(e:Addr)(C:Addr)(od:Option Addr)(L:Addr):Prop:=(∃ t,h.get? e=some (y8B C od t))\/TrD h B e (.ref C) od .none\/TrD h B e (.ref C) od (rawInt L)
structure InF (X:Cx) (B:Heap) (H':Hp) (e:Addr) (s':Shared):Prop where
 os:s'.os=X.s₀.os
 bare:AllBare s'.gens
 un:Un (frs X.outer) [] X.H₀ H' X.s₀.heap s'.heap
 hok:HOk X.prog X.w H' s'.heap
 kb:B.StaysIn s'.heap
 nb:B.get? e=none
 ff:s'.heap.FunFrames B X.stack
 inB:∀ b ob,s'.heap.get? b=some ob->((H' b).isSome=true\/(X.s₀.heap.get? b).isSome=true)->b∉frs X.outer->B.get? b=some ob
 inH:∀ b ob,s'.heap.get? b=some ob->(H' b).isSome=true->B.get? b=some ob
 fr:∀ b∈frs X.outer,b∈X.stack.filterMap (·.frame)
theorem InF.step{X:Cx}{B:Heap}{H':Hp}{e:Addr}{s':Shared}{h2:Heap}(I:InF X B H' e s')(k1:B.StaysIn h2)(ff2:h2.FunFrames B X.stack)(sm:s'.heap.UpToSlots h2):InF X B H' e { s' with heap:=h2 }:=by
 refine⟨I.os,I.bare,Un.fly I.un I.inB k1 (fun b hb ob q=>?_),HOk.fly I.hok I.inH k1,k1,I.nb,ff2,fun b ob q c nb=>?_,fun b ob q c=>?_,I.fr⟩
 · obtain⟨_,o',ho',hnf⟩:=I.ff.mem (I.fr b hb)
   rw[q]at ho';cases ho'
   exact sm b ob q hnf
 · have:∃ o1,s'.heap.get? b=some o1:=by
    rcases c with c | c
    · obtain⟨u,z⟩:=jw.mp c
      exact (I.hok b u z).has
    · obtain⟨o,z⟩:=jw.mp c
      exact I.un.there b o z (fun z=>nomatch z)
   obtain⟨o1,e1⟩:=this
   have z:=I.inB b o1 e1 c nb
   have:=k1 b o1 z
   rw[q]at this;cases this
   exact z
 · obtain⟨u,z⟩:=jw.mp c
   obtain⟨o1,e1⟩:=(I.hok b u z).has
   have z:=I.inH b o1 e1 c
   have:=k1 b o1 z
   rw[q]at this;cases this
   exact z
def x1v(X:Cx)(E:XK)(ev:Value)(s':Shared):Prop:=∃ (e C:Addr) (od:Option Addr) (B:Heap) (H':Hp),ev = .ref e/\InF X B H' e s'/\TrI s'.heap B e C od X.env.locals/\H' e=none/\E (.ref C) od H'
section
variable {M:Model}{A:Around}{E:Value->Shared->Prop}{s:Shared}{base:Heap}{env:Env}{outer l:List Env}{L e C:Addr}{c fl:Value}{od:Option Addr}
theorem y6H{Q:Unit->Shared->Prop}(fr:A.frames=some (env :: outer))(fe:env.frame=some L)(kb:base.StaysIn s.heap)(nb:base.get? e=none)(ff:s.heap.FunFrames base (env :: outer))(tr:TrI s.heap base e C od L)(k:∀ h',y4N base (env :: outer) e (.ref C) od (rawInt L) h'->s.heap.UpToSlots h'->Q () { s with heap:=h' }):wpAny M A (noteFrame (.ref e) env) Q E s:=by
 rcases tr with ⟨t,he⟩ | tr | tr
 · unfold noteFrame
   simp only[fe]
   refine wpAny_bind (wpAny_field he rfl (x := .none) rfl ?_)
   rw[if_neg (by decide)]
   exact x0y fr ff fe he kb nb (by show 1 < 6;decide) k
 · exact x0a fr fe ⟨kb,nb,ff,tr⟩ k
 · have f:y4N base (env :: outer) e (.ref C) od (rawInt L) s.heap:=⟨kb,nb,ff,tr⟩
   obtain⟨vs,sl,T,oT,ts,qe,q1,nT,ne,qT,dT,q3⟩:=tr
   unfold noteFrame
   simp only[fe]
   refine wpAny_bind (wpAny_field qe rfl q1 ?_)
   rw[if_pos (show (Value.ref T != Value.none)=true from by simp)]
   refine wpAny_bind (wpAny_field qT dT q3 ?_)
   rw[if_pos (show (rawInt L == rawInt L)=true from by simp)]
   exact wpAny_pure (k s.heap f (Heap.UpToSlots.refl _))
theorem x1E{Q:Unit->Shared->Prop}(f:y4N base l e c od fl s.heap)(k:∀ h',y4N base l e c od (rawInt L) h'->s.heap.UpToSlots h'->Q () { s with heap:=h' }):wpAny M A (setFlight (.ref e) (some L)) Q E s:=by
 obtain⟨kb,nb,ff,vs,sl,T,oT,ts,qe,q1,nT,ne,qT,dT,q3⟩:=f
 have z3:3 < ts.size:=(Array.getElem?_eq_some_iff.mp q3).1
 unfold setFlight
 refine wpAny_bind (wpAny_field qe rfl q1 ?_)
 rw[if_pos (show (Value.ref T != Value.none)=true from by simp)]
 have ot:∀ b,b≠T->(s.heap.update T (Obj.mapFields (·.setIfInBounds 3 (rawInt L)))).get? b=s.heap.get? b:=fun b hb=>jV _ _ (Ne.symm hb)
 have nr:∀ b o,s.heap.get? b=some o->(∀ ws,o.data ≠ .fields ws)->b≠T:=fun b o z hn q=>by
  rw[q,qT]at z;cases z
  exact hn ts dT
 refine wpAny_setField qT dT z3 (k _ ⟨fun b o z=>(ot b fun q=>by rw[q,nT]at z;cases z).trans (kb b o z),nb,ff.of_keeps fun b o z hn=>⟨o,(ot b (nr b o z hn)).trans z,rfl⟩,?_⟩ fun b o z hn=>⟨o.slots,(ot b (nr b o z hn)).trans z⟩)
 exact⟨vs,sl,T,_,_,(ot e (Ne.symm ne)).trans qe,q1,nT,ne,jY _ qT (Obj.isFreed_of_fields (Obj.data_mapFields dT _)),Obj.data_mapFields dT _,by simp[z3]⟩
end
section
variable {P:Program}{w:World}{K:PySem.W.Frag}{mg:Str->Option Value}{base:Heap}{N:List Str}{qual:Str}{scope:Scope}{f:Addr}{cd:Value}{A:Around}{outer:List Env}{s0:Shared}{H0:Hp}{E:XK}
abbrev cxI(P:Program)(w:World)(K:PySem.W.Frag)(mg:Str->Option Value)(base:Heap)(N:List Str)(qual:Str)(scope:Scope)(f:Addr)(cd:Value)(A:Around)(outer:List Env)(s0:Shared)(H0:Hp)(E:XK):Cx :=
 (y2g (CXD P w) P w K mg base N qual scope f cd A outer s0 H0 E).wish (x1v (y2g (CXD P w) P w K mg base N qual scope f cd A outer s0 H0 E) E)
theorem y5r(fr:(A.deeper (envOfC qual scope s0.heap.objs.size f cd)).frames=some (envOfC qual scope s0.heap.objs.size f cd :: outer)):PassesOwn (model (cxI P w K mg base N qual scope f cd A outer s0 H0 E).prog (cxI P w K mg base N qual scope f cd A outer s0 H0 E).w) (cxI P w K mg base N qual scope f cd A outer s0 H0 E).A (cxI P w K mg base N qual scope f cd A outer s0 H0 E).env (cxI P w K mg base N qual scope f cd A outer s0 H0 E).xe:=by
 rintro ev s' ⟨e,C,od,B,H',rfl,I,tr,he,hE⟩
 refine y6H fr rfl I.kb I.nb I.ff tr fun h1 f1 m1=>?_
 have I1:=I.step f1.1 f1.2.2.1 m1
 obtain⟨vs,sl,T,oT,ts,qe,q1,_⟩:=id f1.2.2.2
 show wpAny _ _ _ _ _ _
 refine wpAny_bind (wpAny_field (s:={ s' with heap:=h1 }) qe rfl q1 ?_)
 rw[if_neg (show ¬ ((Value.ref T == Value.none)=true) from by simp)]
 refine x1E (s:={ s' with heap:=h1 }) (L:=(envOfC qual scope s0.heap.objs.size f cd).locals) f1 fun h2 f2 m2=>?_
 exact⟨e,C,od,B,H',rfl,I1.step f2.1 f2.2.2.1 m2,.inr (.inr f2.2.2.2),he,hE⟩
theorem y8g(fr:(A.deeper (envOfC qual scope s0.heap.objs.size f cd)).frames=some (envOfC qual scope s0.heap.objs.size f cd :: outer)){ev:Value}{s':Shared}(h:x1v (y2g (CXD P w) P w K mg base N qual scope f cd A outer s0 H0 E) E ev s'):(y2g (CXD P w) P w K mg base N qual scope f cd A outer s0 H0 E).xe ev s':=by
 obtain⟨e,C,od,B,H',rfl,I,tr,he,hE⟩:=h
 show wpAny _ _ (leaving _ (.ref e)) _ _ s'
 unfold leaving
 refine wpAny_bind (y6H fr rfl I.kb I.nb I.ff tr fun h1 f1 m1=>?_)
 have I1:=I.step f1.1 f1.2.2.1 m1
 refine x0T (s:={ s' with heap:=h1 }) f1 fun h2 f2 m2=>?_
 have I2:=I1.step f2.1 f2.2.2.1 m2
 obtain⟨a,b,⟨_,_,d⟩,t⟩:=f2
 exact⟨e,C,od,B,H',rfl,I2.os,I2.bare,I2.un,I2.hok,⟨a,b,d,t⟩,I2.inB,he,hE⟩
end
section
variable {P:Program}{w:World}{K:PySem.W.Frag}{mg:Str->Option Value}{base:Heap}{N:List Str}{qual:Str}{scope:Scope}{f:Addr}{cd:Value}{A:Around}{outer:List Env}{s0:Shared}{H0:Hp}{E:XK}
theorem y6O{env:Env}{l:List Env}:∀ b∈frs l,b∈(env :: l).filterMap (·.frame):=fun b hb=>by
 obtain⟨v,hv,e⟩:=List.mem_filterMap.mp hb
 exact List.mem_filterMap.mpr ⟨v,jQ _ hv,e⟩
theorem y7E:y4v (cxI P w K mg base N qual scope f cd A outer s0 H0 E) E:=by
 intro pins σ H s e C od t I0 hHe h0 he hE
 have I:=I0.unwish
 obtain⟨as,eas⟩:∃ as,as=e :: frs (y2g (CXD P w) P w K mg base N qual scope f cd A outer s0 H0 E).stack:=⟨_,rfl⟩
 have ne:∀ {b:Addr},((H b).isSome=true\/(s0.heap.get? b).isSome=true)->b≠e:=fun {b} c z=>by
  subst z
  rcases c with c | c
  · rw[hHe]at c;cases c
  · have h0':s0.heap.get? b=none:=h0
    rw[h0']at c;cases c
 have inB:∀ b ob,s.heap.get? b=some ob->((H b).isSome=true\/(s0.heap.get? b).isSome=true)->b∉frs outer->(PySem.W.hideAll s.heap as).get? b=some ob:=fun b ob q c nb =>
  PySem.W.hideAll_get _ q (by rw[eas];exact fun z=>(jH.mp z).elim (ne c) (I.off c nb))
 have inH:∀ b ob,s.heap.get? b=some ob->(H b).isSome=true->(PySem.W.hideAll s.heap as).get? b=some ob:=fun b ob q c =>
  PySem.W.hideAll_get _ q (by rw[eas];exact fun z=>(jH.mp z).elim (ne (.inl c)) (I.noFr c))
 refine⟨e,C,od,PySem.W.hideAll s.heap as,H,rfl,⟨I.os,I.bare,I.base,I.hok,fun b ob q=>PySem.W.of_hideAll _ q,PySem.W.hideAll_none _ (by rw[eas];exact .head _),PySem.W.funFrames_hide I.stack fun env hev a ha=>by rw[eas];exact jQ _ (List.mem_filterMap.mpr ⟨env,hev,ha⟩),inB,inH,y6O⟩,.inl ⟨t,he⟩,hHe,hE⟩
theorem y7P:z5S (CXD P w) (cxI P w K mg base N qual scope f cd A outer s0 H0 E) E:=by
 intro pins σ H s ev s' I0 h
 have I:=I0.unwish
 obtain⟨e,C,od,B,H',rfl,hos,hg,u,hok,fl,hB,he,hE⟩:=h
 have I':=I.call' (s':=s') (ch:=[]) hos u hok hg (fun _ z=>nomatch z)
 have inB:∀ b ob,s'.heap.get? b=some ob->((H' b).isSome=true\/(s0.heap.get? b).isSome=true)->b∉frs outer->B.get? b=some ob:=fun b ob q c nb=>by
  refine hB b ob q ?_ (I'.off c nb)
  rcases c with c | c
  · exact .inl c
  · obtain⟨o1,e1⟩:=I.old rfl (.inr c)
    exact .inr (by rw[e1];rfl)
 exact⟨e,C,od,B,H',rfl,⟨I'.os,I'.bare,I'.base,I'.hok,fl.1,fl.2.1,fl.2.2.1,inB,fun b ob q c=>hB b ob q (.inl c) (I'.noFr c),y6O⟩,.inr (.inl fl.2.2.2),he,hE⟩
theorem y7J{tg iter:Expr}{body:List Stmt}{wi:TI}{g:TG}{tb:TS}{pos:Pos}(hi:PI (cxI P w K mg base N qual scope f cd A outer s0 H0 E) tg iter wi)(hg:PG (cxI P w K mg base N qual scope f cd A outer s0 H0 E) tg g)(hb:PSs (cxI P w K mg base N qual scope f cd A outer s0 H0 E) body tb)
 (hs:∀ x,foldedSetIterable iter (cxI P w K mg base N qual scope f cd A outer s0 H0 E).env x=pure x:=by intro _;rfl):PS (cxI P w K mg base N qual scope f cd A outer s0 H0 E) (.For tg iter body [] pos) (x1i wi g tb) :=
 fun pins s σ H D I h=>z1q (y5r I.ok.frames) rfl hi hg hb hs pins s σ H D I h
end
structure FunD (K:PySem.W.Frag) (x qual:Str) (st:Stmt) (f:Addr) (fd:FuncData) (dv:Value):Prop where
 ex:∃ (T:Addr) (To:Value) (Td:Option Addr) (Tn:Nat) (Ts:Array (Option Value)) (oc:Value) (od:Option Addr) (kV doc pm:Value) (an:Option Addr) (cdv ct:Value) (osl:Array (Option Value)),
  fd=PySem.W.fnOf x qual (defArgs st) (defBody st) (defScope st) (.ref T) kV doc pm an cdv ct/\K.lookup f=some ⟨oc,od,.func fd,osl⟩/\PySem.W.codeIn K cdv qual=true/\K.lookup T=some ⟨To,Td,.seq #[dv] Tn,Ts⟩
section
variable {P:Program}{w:World}{K:PySem.W.Frag}{mg:Str->Option Value}{base:Heap}
theorem FunD.ok3{x qual:Str}{st:Stmt}{f:Addr}{fd:FuncData}{dv:Value}{N ps:List Str}{k:Nat}{sp:Sp}(F:FunD K x qual st f fd dv)(S:FnScope N ps (defScope st))(len:∀ vs H Q E,sp vs H Q E->vs.length=ps.length)
 (hbody:∀ (cdv:Value) (A:Around) (outer:List Env) (s:Shared) (H:Hp) (vs:List V) (Q:VK) (E:XK),Room k (A.deeper (envOfC qual (defScope st) s.heap.objs.size f cdv))->sp vs H Q E ->
  ∃ t,PSs (cxI P w K mg base N qual (defScope st) f cdv A outer s H E) (defBody st) t/\t { nx:=fun _ H'=>Q .non H',rt:=Q } (z2w N vs) H):FnOk P w K mg base (CXD P w) (k + 1) f fd ps sp:=by
 obtain⟨T,To,Td,Tn,Ts,oc,od,kV,doc,pm,an,cdv,ct,osl,rfl,lk,hcd,_⟩:=F.ex
 refine x0u lk hcd S len fun A outer s H vs Q E hr hsp=>?_
 obtain⟨t,ht,hq⟩:=hbody cdv A outer s H vs Q E hr hsp
 refine⟨t,fun pins s1 σ H1 D I q=>?_,hq⟩
 exact wpAny_mono (ht pins s1 σ H1 D (I.wish _) q) (fun fl s2 z=>z.unwish) (fun ev s2 z=>y8g I.ok.frames z)
theorem FunD.binds{x qual:Str}{st:Stmt}{f:Addr}{fd:FuncData}{dv:Value}{ps:List Str}(F:FunD K x qual st f fd dv){ds:List Value}
 (h:∀ (T:Addr) (kV doc pm:Value) (an:Option Addr) (cdv ct:Value) (us:List Value),(us ++ ds).length=ps.length->∃ k,bindArgs (PySem.W.fnOf x qual (defArgs st) (defBody st) (defScope st) (.ref T) kV doc pm an cdv ct) ⟨us,[]⟩=seqItems? (.ref T) >>= k/\k (some #[dv])=pure (ps.zip (us ++ ds))):Binds K fd ps ds:=by
 obtain⟨T,To,Td,Tn,Ts,oc,od,kV,doc,pm,an,cdv,ct,osl,rfl,lk,hcd,lT⟩:=F.ex
 intro s us hK hl
 obtain⟨k,h1,h2⟩:=h T kV doc pm an cdv ct us hl
 exact BindsTo.of_defaults (T:=T) rfl (hK _ _ lT) rfl h1 h2
end
structure FnD (K:PySem.W.Frag) (mg:Str->Option Value) (x:Str) (st:Stmt) (ps:List Str) (d:V):Prop where
 ex:∃ f fd dv,FunD K x x st f fd dv/\Binds K fd ps []/\Binds K fd ps [dv]/\RelV d dv/\PySem.W.keepIn K (.ref f)=true/\mg x=some (.ref f)
structure DefD (P:Program) (w:World) (K:PySem.W.Frag) (mg:Str->Option Value) (base:Heap) (x:Str) (k:Nat) (ps:List Str) (d:V) (sp:Sp):Prop where
 ex:∃ f fd dv,FnOk P w K mg base (CXD P w) k f fd ps sp/\Binds K fd ps [dv]/\RelV d dv/\PySem.W.keepIn K (.ref f)=true/\mg x=some (.ref f)
section
variable {P:Program}{w:World}{K:PySem.W.Frag}{mg:Str->Option Value}{base:Heap}
theorem FnD.ok3{x:Str}{st:Stmt}{N ps:List Str}{k:Nat}{d:V}{sp:Sp}(F:FnD K mg x st ps d)(S:FnScope N ps (defScope st))(len:∀ vs H Q E,sp vs H Q E->vs.length=ps.length)
 (hbody:∀ (f:Addr) (cdv:Value) (A:Around) (outer:List Env) (s:Shared) (H:Hp) (vs:List V) (Q:VK) (E:XK),Room k (A.deeper (envOfC x (defScope st) s.heap.objs.size f cdv))->sp vs H Q E ->
  ∃ t,PSs (cxI P w K mg base N x (defScope st) f cdv A outer s H E) (defBody st) t/\t { nx:=fun _ H'=>Q .non H',rt:=Q } (z2w N vs) H):Def2 P w K mg base x (k + 1) ps sp/\DefD P w K mg base x (k + 1) ps d sp:=by
 obtain⟨f,fd,dv,FF,b0,b1,r,kp,m⟩:=F.ex
 have ok:=FF.ok3 (k:=k) (sp:=sp) S len (fun cdv A outer s H vs Q E hr h=>hbody f cdv A outer s H vs Q E hr h)
 exact⟨⟨f,fd,ok,b0,kp,m⟩,⟨f,fd,dv,ok,b1,r,kp,m⟩⟩
end
section
variable {X:Cx}{k j:Nat}{ps:List Str}{sp:Sp}{x:Str}{p pos:Pos}{e:Expr}{es:List Expr}{t:TA}{E:XK}{d:V}
theorem y7O(D:DefD X.prog X.w X.K X.mg X.base x j ps d sp)(hr:Room k X.A)(hg:Gl X x)(hx:z5S (CXD X.prog X.w) X E)(ha:PA X (e :: es) t)(hjk:j<=k:=by decide)(hdb:(x == ("__debug__" : Str))=false:=by decide)
 (he:starEach (e :: es) X.env=(false,eval e X.env) :: starEach es X.env:=by rfl) (hpl:(backTo pos (starEach es X.env)).any (·.1)=false:=by rfl) :
 PE X (.Call (.Name x p) (e :: es) [] pos) (y1k sp [d] E t):=by
 obtain⟨f,fd,dv,F,b,r,kp,m⟩:=D.ex
 exact z9a F (hr.mono hjk) hg m kp b (.cons r .nil) hx ha hdb he hpl
end
section
variable {X:Cx}{a b c d:Expr}{ta tb tc td:TE}{pos:Pos}{x1:_}
theorem y7M:PE X (.Tuple [] x1 pos) (y7j z6F):=z1j z0f
theorem z5E(ha:PE X a ta)(h1:Pl X a []):PE X (.Tuple [a] x1 pos) (y7j (z1J ta z6F)):=z1j (z0h ha z0f h1)
theorem z4y{e:Expr}{te:TE}(he:PE X e te):PS X (.Return (some e) pos) (y9n te):=z0o he
end
end L2
set_option Elab.async false
set_option linter.all false
set_option maxRecDepth 100000
set_option maxHeartbeats 4000000
namespace Fd
open PySem L2
def top(i:Nat):Stmt:=PySem.Challenge.pw_fairdraw_k62_tables_of_rows.main.body.getD i (.Pass ⟨0,0,0,0⟩)
abbrev z4h:Stmt:=top 5
abbrev z3w:Stmt:=top 6
abbrev z3y:Stmt:=top 7
abbrev y0b:Stmt:=top 8
abbrev z7a:Stmt:=top 10
abbrev z3t:Stmt:=top 11
abbrev z5z:Stmt:=top 12
abbrev z2y:Stmt:=top 13
abbrev z4b:Stmt:=top 15
abbrev z5g:Stmt:=top 17
abbrev z2K:Stmt:=top 18
abbrev z3x:Stmt:=top 19
abbrev z2k:Stmt:=top 21
abbrev z4i:Stmt:=top 23
abbrev z1L:Stmt:=top 24
abbrev z2Y:Stmt:=top 25
abbrev z3s:Stmt:=top 26
abbrev z1e:Stmt:=top 27
abbrev z2L:Stmt:=top 29
abbrev z4e:Stmt:=top 30
abbrev z3u:Stmt:=top 31
abbrev z6Y:Stmt:=top 32
abbrev z5e:Stmt:=top 33
abbrev z5f:Stmt:=top 34
abbrev z1B:Stmt:=top 35
abbrev z2l:Stmt:=top 36
abbrev z3v:Stmt:=top 37
abbrev z2W:Stmt:=top 38
abbrev z2X:Stmt:=top 39
abbrev z4f:Stmt:=top 40
abbrev z4g:Stmt:=top 41
abbrev z5d:Stmt:=top 42
abbrev z1M:Stmt:=top 43
abbrev z4d:Stmt:=top 44
abbrev z4c:Stmt:=top 45
abbrev z6Z:Stmt:=top 46
abbrev z2m:Stmt:=top 47
abbrev z6a:Stmt:=top 48
structure Bl (mg:Str->Option Value):Prop where
 abs:mg "abs" = none
 bool:mg "bool" = none
 dict:mg "dict" = none
 int:mg "int" = none
 isinstance:mg "isinstance" = none
 len:mg "len" = none
 list:mg "list" = none
 max:mg "max" = none
 range:mg "range" = none
 reversed:mg "reversed" = none
 set:mg "set" = none
 sorted:mg "sorted" = none
 str:mg "str" = none
 sum:mg "sum" = none
 tuple:mg "tuple" = none
 zip:mg "zip" = none
def x1K(s:Stmt):List Stmt:=match s with | .ClassDef _ _ _ b _ _ _ _ _ _ _=>b | _=>[]
abbrev z1o:Stmt:=(x1K (top 3)).getD 0 (.Pass ⟨0,0,0,0⟩)
theorem z8S:FnScope ["self", "most"] ["self", "most"] (defScope z1o):=⟨rfl,rfl,rfl,by decide +kernel,rfl,by decide +kernel,by decide +kernel⟩
theorem z9s{P:Program}{w:World}{K:PySem.W.Frag}{mg:Str->Option Value}{base:Heap}{C fI:Addr}{fd:FuncData}(F:Fun K "__init__" "TooMany.__init__" z1o fI fd)(st:ExcSt K C)(na:NoAttr K C "most"):FnOk P w K mg base CX0 1 fI fd ["self", "most"] (spIni C "most"):=by
 refine F.ok z8S (fun vs H Q E h=>?_) (fun cdv A outer s H vs Q E hr h=>?_)
 · obtain⟨e,v,t,rfl,_⟩:=h;rfl
 obtain⟨e,v,t,rfl,he,q⟩:=h
 exact⟨_,z0g (y7I rfl (pv 0) (pv 1) rfl),_,rfl,_,rfl,e,C,t,rfl,he,st,na,fun dx hd=>q dx hd⟩
theorem z1Q:FnScope ["one", "other", "rest"] ["one", "other"] (defScope z4h):=⟨rfl,rfl,rfl,by decide +kernel,rfl,by decide +kernel,by decide +kernel⟩
theorem z8V:FnScope ["thing"] ["thing"] (defScope z3w):=⟨rfl,rfl,rfl,by decide +kernel,rfl,by decide +kernel,by decide +kernel⟩
theorem z3N:FnScope ["top", "bottom", "common"] ["top", "bottom"] (defScope z3y):=⟨rfl,rfl,rfl,by decide +kernel,rfl,by decide +kernel,by decide +kernel⟩
theorem z5x:FnScope ["one", "other", "common", "own", "others", "rest"] ["one", "other"] (defScope y0b):=⟨rfl,rfl,rfl,by decide +kernel,rfl,by decide +kernel,by decide +kernel⟩
theorem y5d:FnScope ["sign", "numbers"] ["sign", "numbers"] (defScope z7a):=⟨rfl,rfl,rfl,by decide +kernel,rfl,by decide +kernel,by decide +kernel⟩
theorem z8T:FnScope ["sign", "numbers"] ["sign", "numbers"] (defScope z3t):=⟨rfl,rfl,rfl,by decide +kernel,rfl,by decide +kernel,by decide +kernel⟩
theorem z9Z:FnScope ["e", "book"] ["e", "book"] (defScope z5z):=⟨rfl,rfl,rfl,by decide +kernel,rfl,by decide +kernel,by decide +kernel⟩
theorem z1X:FnScope ["e", "found", "part", "name"] ["e"] (defScope z2y):=⟨rfl,rfl,rfl,by decide +kernel,rfl,by decide +kernel,by decide +kernel⟩
theorem z3q:FnScope ["numbers", "so_far", "number"] ["numbers"] (defScope z4b):=⟨rfl,rfl,rfl,by decide +kernel,rfl,by decide +kernel,by decide +kernel⟩
theorem y2Q:FnScope ["values", "places"] ["values", "places"] (defScope z5g):=⟨rfl,rfl,rfl,by decide +kernel,rfl,by decide +kernel,by decide +kernel⟩
theorem z7X:FnScope ["names", "some"] ["names", "some"] (defScope z2K):=⟨rfl,rfl,rfl,by decide +kernel,rfl,by decide +kernel,by decide +kernel⟩
theorem z1Y:FnScope ["rows", "places", "shares", "values", "share", "rest"] ["rows", "places"] (defScope z3x):=⟨rfl,rfl,rfl,by decide +kernel,rfl,by decide +kernel,by decide +kernel⟩
theorem z6W:FnScope ["row"] ["row"] (defScope z2k):=⟨rfl,rfl,rfl,by decide +kernel,rfl,by decide +kernel,by decide +kernel⟩
theorem z1R:FnScope ["lists", "found", "some", "longer", "choice"] ["lists"] (defScope z4i):=⟨rfl,rfl,rfl,by decide +kernel,rfl,by decide +kernel,by decide +kernel⟩
theorem z2q:FnScope ["row", "found", "names", "some"] ["row", "found"] (defScope z1L):=⟨rfl,rfl,rfl,by decide +kernel,rfl,by decide +kernel,by decide +kernel⟩
theorem z6X:FnScope ["sheet", "most", "found", "row"] ["sheet", "most"] (defScope z2Y):=⟨rfl,rfl,rfl,by decide +kernel,rfl,by decide +kernel,by decide +kernel⟩
theorem z1d:FnScope ["row", "found", "in_order", "names", "rows"] ["row", "found"] (defScope z3s):=⟨rfl,rfl,rfl,by decide +kernel,rfl,by decide +kernel,by decide +kernel⟩
theorem z4Q:FnScope ["sheet", "most", "found"] ["sheet", "most"] (defScope z1e):=⟨rfl,rfl,rfl,by decide +kernel,rfl,by decide +kernel,by decide +kernel⟩
theorem z7Y:FnScope ["_law_script", "_law_k"] ["_law_script", "_law_k"] (defScope z2L):=⟨rfl,rfl,rfl,by decide +kernel,rfl,by decide +kernel,by decide +kernel⟩
theorem z6k:FnScope ["_law_cell", "_law_k", "_law_some"] ["_law_cell", "_law_k"] (defScope z4e):=⟨rfl,rfl,rfl,by decide +kernel,rfl,by decide +kernel,by decide +kernel⟩
theorem z5y:FnScope ["_law_one", "_law_other"] ["_law_one", "_law_other"] (defScope z3u):=⟨rfl,rfl,rfl,by decide +kernel,rfl,by decide +kernel,by decide +kernel⟩
theorem y0a:FnScope ["_law_top", "_law_bottom", "_law_by"] ["_law_top", "_law_bottom"] (defScope z6Y):=⟨rfl,rfl,rfl,by decide +kernel,rfl,by decide +kernel,by decide +kernel⟩
theorem z1F:FnScope ["_law_cell", "_law_k", "_law_letters", "_law_stride", "_law_pair", "_law_way", "_law_more", "_law_j"] ["_law_cell", "_law_k"] (defScope z5e):=⟨rfl,rfl,rfl,by decide +kernel,rfl,by decide +kernel,by decide +kernel⟩
theorem y2P:FnScope ["_law_cell", "_law_names"] ["_law_cell", "_law_names"] (defScope z5f):=⟨rfl,rfl,rfl,by decide +kernel,rfl,by decide +kernel,by decide +kernel⟩
theorem z1t:FnScope ["_law_cell", "_law_names", "_law_one", "_law_other", "_law_sign"] ["_law_cell", "_law_names"] (defScope z1B):=⟨rfl,rfl,rfl,by decide +kernel,rfl,by decide +kernel,by decide +kernel⟩
theorem z0X:FnScope ["_law_cell", "_law_many", "_law_far", "_law_start", "_law_weights", "_law_whole", "_law_some"] ["_law_cell", "_law_many", "_law_far"] (defScope z2l):=⟨rfl,rfl,rfl,by decide +kernel,rfl,by decide +kernel,by decide +kernel⟩
theorem z8U:FnScope ["_law_sign", "_law_here", "_law_there"] ["_law_sign", "_law_here", "_law_there"] (defScope z3v):=⟨rfl,rfl,rfl,by decide +kernel,rfl,by decide +kernel,by decide +kernel⟩
theorem z4w:FnScope ["_law_e", "_law_book", "_law_some"] ["_law_e", "_law_book"] (defScope z2W):=⟨rfl,rfl,rfl,by decide +kernel,rfl,by decide +kernel,by decide +kernel⟩
theorem z2x:FnScope ["_law_e", "_law_found", "_law_one", "_law_name_here"] ["_law_e"] (defScope z2X):=⟨rfl,rfl,rfl,by decide +kernel,rfl,by decide +kernel,by decide +kernel⟩
theorem z3r:FnScope ["_law_e", "_law_made", "_law_many", "_law_name_here"] ["_law_e", "_law_made"] (defScope z4f):=⟨rfl,rfl,rfl,by decide +kernel,rfl,by decide +kernel,by decide +kernel⟩
theorem z1p:FnScope ["_law_names", "_law_kinds_by", "_law_found", "_law_name_here", "_law_longer", "_law_ahead", "_law_number", "_law_one"] ["_law_names", "_law_kinds_by"] (defScope z4g):=⟨rfl,rfl,rfl,by decide +kernel,rfl,by decide +kernel,by decide +kernel⟩
theorem y2O:FnScope ["_law_made", "_law_many"] ["_law_made", "_law_many"] (defScope z5d):=⟨rfl,rfl,rfl,by decide +kernel,rfl,by decide +kernel,by decide +kernel⟩
theorem z0I:FnScope ["_law_cell", "_law_names", "_law_own", "_law_made", "_law_many", "_law_mine", "_law_e", "_law_outcomes_here"] ["_law_cell", "_law_names", "_law_own", "_law_made"] (defScope z1M):=⟨rfl,rfl,rfl,by decide +kernel,rfl,by decide +kernel,by decide +kernel⟩
theorem z0P:FnScope ["_law_script", "_law_last", "_law_made", "_law_names", "_law_rows", "_law_cell", "_law_turn", "_law_stride", "_law_asked", "_law_k", "_law_own", "_law_row", "_law_name_here"] ["_law_script", "_law_last"] (defScope z4d):=⟨rfl,rfl,rfl,by decide +kernel,rfl,by decide +kernel,by decide +kernel⟩
theorem z1P:FnScope ["_law_names", "_law_own", "_law_e", "_law_kinds_by", "_law_rows", "_law_book", "_law_ordered", "_law_number"] ["_law_names", "_law_own", "_law_e", "_law_kinds_by"] (defScope z4c):=⟨rfl,rfl,rfl,by decide +kernel,rfl,by decide +kernel,by decide +kernel⟩
theorem y5c:FnScope ["_law_row", "_law_kinds_by"] ["_law_row", "_law_kinds_by"] (defScope z6Z):=⟨rfl,rfl,rfl,by decide +kernel,rfl,by decide +kernel,by decide +kernel⟩
theorem z2J:FnScope ["_law_found", "_law_row", "_law_number"] ["_law_found"] (defScope z2m):=⟨rfl,rfl,rfl,by decide +kernel,rfl,by decide +kernel,by decide +kernel⟩
theorem z4R:FnScope ["_law_script", "_law_rows", "_law_handed", "_law_found", "_law_k", "_law_sheet_here", "_law_made", "_law_names"] ["_law_script"] (defScope z6a):=⟨rfl,rfl,rfl,by decide +kernel,rfl,by decide +kernel,by decide +kernel⟩
def G(a b:Int):Int:=((Int.gcd a b:Nat):Int)
def ab(i:Int):Int:=if i < 0 then -i else i
theorem z8I(i:Int):0<=ab i:=by unfold ab;split <;> omega
theorem z8J(i:Int):(ab i).natAbs=i.natAbs:=by unfold ab;split <;> omega
theorem y0Z(a b:Int):0<=G a b:=Int.natCast_nonneg _
theorem x1N(a b:Int):G (ab a) (ab b)=G a b:=by
 show ((Nat.gcd (ab a).natAbs (ab b).natAbs:Nat):Int)=((Nat.gcd a.natAbs b.natAbs:Nat):Int)
 rw[z8J,z8J]
theorem y1b(a b:Int):G a b=G b a:=by unfold G;rw[Int.gcd_comm]
theorem y6S{a b:Int}(h:0<=a)(hb:b=0):G a b=a:=by
 subst hb;unfold G;rw[Int.gcd_zero_right];omega
theorem y6T{a b:Int}(ha:0<=a)(hb:0 < b):G b (a % b)=G a b:=by
 show ((Nat.gcd b.natAbs (a % b).natAbs:Nat):Int)=((Nat.gcd a.natAbs b.natAbs:Nat):Int)
 rw[Int.natAbs_emod_of_nonneg ha,Nat.gcd_comm b.natAbs,<- Nat.gcd_rec,Nat.gcd_comm]
theorem z3E(a b:Int):G a b ∣ a:=Int.gcd_dvd_left a b
theorem z2h(a b:Int):G a b ∣ b:=Int.gcd_dvd_right a b
theorem x0Y{k a b:Int}(h1:k ∣ a)(h2:k ∣ b):k ∣ G a b:=Int.dvd_coe_gcd h1 h2
theorem y4H{a b:Int}:G a b=0↔a=0/\b=0:=by
 constructor
 · intro h
   have h1:=z3E a b
   have h2:=z2h a b
   rw[h]at h1 h2
   exact⟨Int.zero_dvd.mp h1,Int.zero_dvd.mp h2⟩
 · rintro⟨rfl,rfl⟩;rfl
theorem y2c{a b:Int}(hb:b≠0):0 < G a b:=by
 have h1:=y0Z a b
 have h2:G a b≠0:=fun h=>hb (y4H.mp h).2
 omega
theorem x1w{a b:Int}(hb:b≠0):G a b<=b.natAbs:=by
 have h:=z2h a b
 have:=Int.le_of_dvd (show 0 < (b.natAbs:Int) by omega) (Int.dvd_natAbs.mpr h)
 exact this
theorem x0F{t b:Int}(hb:b≠0):G (t / G t b) (b / G t b)=1:=by
 have h0:0 < G t b:=y2c hb
 have hg:0 < Int.gcd t b:=by
  have:(0:Int) < (Int.gcd t b:Nat):=h0
  omega
 have:=Int.gcd_ediv_gcd_ediv_gcd (i:=t) (j:=b) hg
 unfold G
 rw[this];rfl
theorem y4n{p q b:Int}(h1:G p q=1)(h:q ∣ p * b):q ∣ b:=by
 have h':Int.gcd q p=1:=by
  have:((Int.gcd p q:Nat):Int)=1:=h1
  rw[Int.gcd_comm];omega
 have q1:q ∣ ((Int.gcd q (p * b):Nat):Int):=Int.dvd_coe_gcd (Int.dvd_refl q) h
 rw[Int.gcd_mul_right_right_of_gcd_eq_one h']at q1
 exact Int.dvd_trans q1 (Int.gcd_dvd_right q b)
theorem x1g{p q a b:Int}(hq:0 < q)(hb:0 < b)(h1:G p q=1)(h2:G a b=1)(h:p * b=a * q):p=a/\q=b:=by
 have d1:q ∣ b:=y4n h1 ⟨a,by rw[h,Int.mul_comm]⟩
 have d2:b ∣ q:=y4n h2 ⟨p,by rw[<- h,Int.mul_comm]⟩
 have e:q=b:=by
  have l1:=Int.le_of_dvd hb d1
  have l2:=Int.le_of_dvd hq d2
  omega
 subst e
 refine⟨Int.eq_of_mul_eq_mul_right (by omega) h,rfl⟩
theorem y2V(r:Rat):G r.num (r.den:Int)=1:=by
 have:=r.reduced
 unfold G
 rw[show Int.gcd r.num (r.den:Int)=Nat.gcd r.num.natAbs r.den from rfl,this];rfl
theorem z2r(r:Rat):0 < (r.den:Int):=by have:=r.den_pos;omega
theorem z5B{t b:Int}(hb:b≠0):(Rat.divInt t b).num * b=t * ((Rat.divInt t b).den:Int):=by
 have e:=Rat.num_divInt_den (Rat.divInt t b)
 have d:=z2r (Rat.divInt t b)
 exact (Rat.divInt_eq_divInt_iff (by omega) hb).mp e
def sg(t b:Int):Int:=if b < 0 then -(G t b) else G t b
theorem x1f(a b:Int):G (-a) (-b)=G a b:=by
 unfold G;rw[Int.gcd_neg,Int.neg_gcd]
theorem y7y{t b:Int}(hb:b≠0):sg t b≠0:=by
 have:=y2c (a:=t) hb
 unfold sg;split <;> omega
theorem z6T{t b:Int}(hb:b≠0):∃ x y,t=sg t b * x/\b=sg t b * y/\0 < y/\G x y=1:=by
 have g0:=y2c (a:=t) hb
 obtain⟨x,hx⟩:=z3E t b
 obtain⟨y,hy⟩:=z2h t b
 have ex:t / G t b=x:=kU (by omega) hx
 have ey:b / G t b=y:=kU (by omega) hy
 have e1:=x0F (t:=t) hb
 rw[ex,ey]at e1
 have hyn:y≠0:=fun z=>hb (by rw[hy,z,Int.mul_zero])
 unfold sg
 by_cases h:b < 0
 · rw[if_pos h]
   refine⟨-x,-y,by rw[Int.neg_mul_neg];exact hx,by rw[Int.neg_mul_neg];exact hy,?_,by rw[x1f];exact e1⟩
   have:¬ 0<=y:=fun z=>by
    have:=Int.mul_nonneg (Int.le_of_lt g0) z
    omega
   omega
 · rw[if_neg h]
   refine⟨x,y,hx,hy,?_,e1⟩
   have:¬ y<=0:=fun z=>by
    have:=Int.mul_nonpos_of_nonneg_of_nonpos (Int.le_of_lt g0) z
    omega
   omega
theorem y5W{t b:Int}(hb:b≠0):t.fdiv (sg t b)=(Rat.divInt t b).num/\b.fdiv (sg t b)=((Rat.divInt t b).den:Int):=by
 obtain⟨x,y,hx,hy,y0,e1⟩:=z6T (t:=t) hb
 have s0:=y7y (t:=t) hb
 have c:=z5B (t:=t) hb
 have c':(Rat.divInt t b).num * y=x * ((Rat.divInt t b).den:Int):=by
  generalize sg t b=s at *
  generalize (Rat.divInt t b).num=n at *
  generalize ((Rat.divInt t b).den:Int)=d at *
  subst hx hy
  have:s * (n * y)=s * (x * d):=by
   have e1:s * (n * y)=n * (s * y):=by rw[<- Int.mul_assoc,Int.mul_comm s n,Int.mul_assoc]
   rw[e1,c,Int.mul_assoc]
  exact Int.eq_of_mul_eq_mul_left s0 this
 have u:=x1g (z2r _) y0 (y2V _) e1 c'
 constructor
 · conv=>lhs;arg 1;rw[hx]
   rw[kK _ s0];exact u.1.symm
 · conv=>lhs;arg 1;rw[hy]
   rw[kK _ s0];exact u.2.symm
theorem y7D(r s:Rat):Rat.divInt (r.num * (s.den:Int) + s.num * (r.den:Int)) ((r.den:Int) * (s.den:Int))=r + s:=by
 have h1:=z2r r;have h2:=z2r s
 rw[<- Rat.divInt_add_divInt _ _ (by omega) (by omega),Rat.num_divInt_den,Rat.num_divInt_den]
theorem z8v{t b:Int}(hb:b≠0):(Rat.divInt t b).num.natAbs<=t.natAbs/\(Rat.divInt t b).den<=b.natAbs:=by
 obtain⟨x,y,hx,hy,y0,e1⟩:=z6T (t:=t) hb
 have s0:=y7y (t:=t) hb
 have f:=y5W (t:=t) hb
 have fx : t.fdiv (sg t b) = x := by conv => lhs; arg 1; rw [hx]
                                     rw[kK _ s0]
 have fy : b.fdiv (sg t b) = y := by conv => lhs; arg 1; rw [hy]
                                     rw[kK _ s0]
 rw[fx,fy]at f
 have s1:1<=(sg t b).natAbs:=by omega
 constructor
 · rw[<- f.1]
   have : t.natAbs = (sg t b).natAbs * x.natAbs := by conv => lhs; rw [hx]
                                                      rw[Int.natAbs_mul]
   rw[this];exact Nat.le_mul_of_pos_left _ s1
 · have e:(Rat.divInt t b).den=y.natAbs:=by omega
   rw[e]
   have : b.natAbs = (sg t b).natAbs * y.natAbs := by conv => lhs; rw [hy]
                                                      rw[Int.natAbs_mul]
   rw[this];exact Nat.le_mul_of_pos_left _ s1
theorem y8V{x y z:Int}(h1:G x y=1)(h2:G x z=1):G x (y * z)=1:=by
 have h1':Int.gcd x y=1:=by have:((Int.gcd x y:Nat):Int)=1:=h1;omega
 have h2':Int.gcd x z=1:=by have:((Int.gcd x z:Nat):Int)=1:=h2;omega
 unfold G
 rw[Int.gcd_mul_right_right_of_gcd_eq_one h1',h2'];rfl
theorem y6U{x y z:Int}(h1:G x z=1)(h2:G y z=1):G (x * y) z=1:=by
 rw[y1b]
 exact y8V (by rw[y1b];exact h1) (by rw[y1b];exact h2)
theorem y1a{x y a b:Int}(h:G a b=1)(hx:x ∣ a)(hy:y ∣ b):G x y=1:=by
 have d:G x y ∣ G a b:=x0Y (Int.dvd_trans (z3E x y) hx) (Int.dvd_trans (z2h x y) hy)
 rw[h]at d
 have n:=y0Z x y
 have l:=Int.le_of_dvd (by decide) d
 have z:G x y≠0:=fun e=>by rw[e]at d;exact absurd (Int.zero_dvd.mp d) (by decide)
 omega
theorem y1I{t b:Int}(hb:b≠0):(Rat.divInt t b).num ∣ t/\((Rat.divInt t b).den:Int) ∣ b:=by
 obtain⟨x,y,hx,hy,y0,e1⟩:=z6T (t:=t) hb
 have s0:=y7y (t:=t) hb
 have f:=y5W (t:=t) hb
 have fx : t.fdiv (sg t b) = x := by conv => lhs; arg 1; rw [hx]
                                     rw[kK _ s0]
 have fy : b.fdiv (sg t b) = y := by conv => lhs; arg 1; rw [hy]
                                     rw[kK _ s0]
 rw[fx,fy]at f
 rw[<- f.1,<- f.2]
 exact⟨⟨sg t b,by rw[Int.mul_comm];exact hx⟩,⟨sg t b,by rw[Int.mul_comm];exact hy⟩⟩
theorem y8N(r s:Rat):(Rat.divInt (r.num * ((s.den:Int) / G (r.den:Int) (s.den:Int)) + s.num * ((r.den:Int) / G (r.den:Int) (s.den:Int))) (G (r.den:Int) (s.den:Int))).num=(r + s).num /\
 ((Rat.divInt (r.num * ((s.den:Int) / G (r.den:Int) (s.den:Int)) + s.num * ((r.den:Int) / G (r.den:Int) (s.den:Int))) (G (r.den:Int) (s.den:Int))).den:Int) * ((r.den:Int) / G (r.den:Int) (s.den:Int)) * ((s.den:Int) / G (r.den:Int) (s.den:Int))=((r + s).den:Int):=by
 have dr:=z2r r;have ds:=z2r s
 have gc:=y2c (a:=(r.den:Int)) (b:=(s.den:Int)) (by omega)
 have gd:=x0F (t:=(r.den:Int)) (b:=(s.den:Int)) (by omega)
 obtain⟨o,ho⟩:=z3E (r.den:Int) (s.den:Int)
 obtain⟨u,hu⟩:=z2h (r.den:Int) (s.den:Int)
 have eo:(r.den:Int) / G (r.den:Int) (s.den:Int)=o:=kU (by omega) ho
 have eu:(s.den:Int) / G (r.den:Int) (s.den:Int)=u:=kU (by omega) hu
 rw[eo,eu]at gd ⊢
 have gr:=y2V r;have gs:=y2V s;have g3:=y2V (r + s);have p3:=z2r (r + s)
 have c3:=z5B (t:=r.num * (s.den:Int) + s.num * (r.den:Int)) (b:=(r.den:Int) * (s.den:Int)) (by have:=Int.mul_pos dr ds;omega)
 rw[y7D]at c3
 generalize (r + s).num=pn at *
 generalize ((r + s).den:Int)=pd at *
 generalize r.num=rn at *
 generalize s.num=sn at *
 generalize G (r.den:Int) (s.den:Int)=c at *
 generalize (r.den:Int)=rd at *
 generalize (s.den:Int)=sd at *
 subst ho hu
 obtain⟨a1,a2⟩:=y1I (t:=rn * u + sn * o) (b:=c) (by omega)
 have c1:=z5B (t:=rn * u + sn * o) (b:=c) (by omega)
 have g1:=y2V (Rat.divInt (rn * u + sn * o) c)
 have p1:=z2r (Rat.divInt (rn * u + sn * o) c)
 generalize (Rat.divInt (rn * u + sn * o) c).num=qn at *
 generalize ((Rat.divInt (rn * u + sn * o) c).den:Int)=qd at *
 have o0:0 < o:=by
  rcases Int.lt_trichotomy o 0 with h | h | h
  · have:=Int.mul_neg_of_pos_of_neg gc h;omega
  · rw[h,Int.mul_zero]at dr;omega
  · exact h
 have u0:0 < u:=by
  rcases Int.lt_trichotomy u 0 with h | h | h
  · have:=Int.mul_neg_of_pos_of_neg gc h;omega
  · rw[h,Int.mul_zero]at ds;omega
  · exact h
 have gu:G u o=1:=by rw[y1b];exact gd
 have ro:G rn o=1:=y1a gr (Int.dvd_refl _) ⟨c,Int.mul_comm _ _⟩
 have so:G sn u=1:=y1a gs (Int.dvd_refl _) ⟨c,Int.mul_comm _ _⟩
 have no:G (rn * u + sn * o) o=1:=by
  unfold G;rw[Int.gcd_add_mul_right_left];exact y6U ro gu
 have nu:G (rn * u + sn * o) u=1:=by
  unfold G;rw[Int.gcd_mul_right_add_left];exact y6U so gd
 have hg:G qn (qd * o * u)=1:=y8V (y8V g1 (y1a no a1 (Int.dvd_refl _))) (y1a nu a1 (Int.dvd_refl _))
 refine x1g (Int.mul_pos (Int.mul_pos p1 o0) u0) p3 hg g3 ?_
 have z:(c * o * (c * u))≠0:=by have:=Int.mul_pos dr ds;omega
 refine Int.eq_of_mul_eq_mul_right z ?_
 have e1:pn * (qd * o * u) * (c * o * (c * u))=pn * (c * o * (c * u)) * (qd * o * u):=by grind
 rw[e1,c3]
 have e2:(rn * (c * u) + sn * (c * o)) * pd * (qd * o * u)=((rn * u + sn * o) * qd) * (c * o * u * pd):=by grind
 rw[e2,<- c1]
 grind
def sz(r:Rat):Prop:=r.num.natAbs < 2 ^ 2000/\r.den < 2 ^ 2000
def dF(r:Rat):D := .tup [.int r.num,.int (r.den:Int)]
theorem z4B{K:PySem.W.Frag}{H:Hp}{a b:Int}{x:V}(h:IsD K H (.tup [.int a,.int b]) x):∃ p,x = .ref p/\SqT K H p [.int a,.int b]:=by
 obtain⟨p,xs,rfl,q,y,r,e1,e2,z,r',e3,e4,e5⟩:=h
 have e2':y = .int a:=e2
 have e4':z = .int b:=e4
 have e5':r'=[]:=e5
 subst e1 e2' e3 e4' e5'
 exact⟨p,rfl,q⟩
theorem z9b{K:PySem.W.Frag}{H:Hp}{p:Addr}{a b:Int}(h:H p=some (.tup [.int a,.int b])):IsD K H (.tup [.int a,.int b]) (.ref p) :=
 ⟨p,_,rfl,.of h,_,_,rfl,rfl,_,_,rfl,rfl,rfl⟩
theorem z6o{x:Int}{n:Nat}(h:x.natAbs < 2 ^ n)(hn:n<=9000):x.natAbs.log2 < 9000:=by
 by_cases z:x.natAbs=0
 · rw[z];decide
 · exact jW ((Nat.log2_lt z).mpr h) hn
inductive Sg where
 | neg | add | sub | lt | eq | conj | disj | pick
 deriving DecidableEq
def Sg.str:Sg->Str
 | .neg => "not" | .add => "+" | .sub => "-" | .lt => "<" | .eq => "=" | .conj => "and" | .disj => "or" | .pick => "pick"
def Sg.many:Sg->Nat
 | .neg=>1 | .pick=>3 | _=>2
inductive Ex where
 | num (n:Int) | nam (x:Str) | un (a:Ex) | bi (s:Sg) (a b:Ex) | pick (c a b:Ex)
def b2n(b:Bool):Int:=if b=true then 1 else 0
def rk2(s:Sg)(a b:Int):Int:=match s with
 | .add=>a + b
 | .sub=>a - b
 | .lt=>b2n (decide (a < b))
 | .eq=>b2n (decide (a=b))
 | .conj=>b2n (decide (a≠0) && decide (b≠0))
 | _=>b2n (decide (a≠0) || decide (b≠0))
def Sg.two:Sg->Bool
 | .neg=>false | .pick=>false | _=>true
def ev(ρ:Str->Int):Ex->Int
 | .num n=>n
 | .nam x=>ρ x
 | .un a=>b2n (decide (ev ρ a=0))
 | .bi s a b=>rk2 s (ev ρ a) (ev ρ b)
 | .pick c a b=>if ev ρ c≠0 then ev ρ a else ev ρ b
def dE:Ex->D
 | .num n => .tup [.str "num",.int n]
 | .nam x => .tup [.str "name",.str x]
 | .un a => .tup [.str "not",dE a]
 | .bi s a b => .tup [.str s.str,dE a,dE b]
 | .pick c a b => .tup [.str "pick",dE c,dE a,dE b]
def Ex.high:Ex->Nat
 | .num _=>0
 | .nam _=>0
 | .un a=>a.high + 1
 | .bi _ a b=>max a.high b.high + 1
 | .pick c a b=>max c.high (max a.high b.high) + 1
def Ex.ok:Ex->Prop
 | .num _=>True
 | .nam _=>True
 | .un a=>a.ok
 | .bi s a b=>s.two=true/\a.ok/\b.ok
 | .pick c a b=>c.ok/\a.ok/\b.ok
def Ex.over(p:Str->Prop):Ex->Prop
 | .num _=>True
 | .nam x=>p x
 | .un a=>a.over p
 | .bi _ a b=>a.over p/\b.over p
 | .pick c a b=>c.over p/\a.over p/\b.over p
theorem z9Y(s:Sg):s.str ≠ "num" := by cases s <;> decide +kernel
theorem z6U(s:Sg):s.str ≠ "name" := by cases s <;> decide +kernel
def rkL(s:Sg)(ns:List Int):Int:=match s,ns with
 | .neg,[a]=>b2n (decide (a=0))
 | .pick,[c,a,b]=>if c≠0 then a else b
 | s,[a,b]=>rk2 s a b
 | _,_=>0
theorem Ex.node(ρ:Str->Int)(p:Str->Prop):∀ e:Ex,e.ok->e.over p->(∃ n,e = .num n)\/(∃ x,e = .nam x)\/∃ (s:Sg) (cs:List Ex),dE e = .tup (.str s.str :: cs.map dE)/\ev ρ e=rkL s (cs.map (ev ρ))/\cs.length=s.many/\∀ c∈cs,c.ok/\c.over p/\c.high < e.high
 | .num n,_,_ => .inl ⟨n,rfl⟩
 | .nam x,_,_ => .inr (.inl ⟨x,rfl⟩)
 | .un a,h,o => .inr (.inr ⟨.neg,[a],rfl,rfl,rfl,fun c hc=>by
  have:c=a:=by simpa using hc
  subst this;exact⟨h,o,by show c.high < c.high + 1;omega⟩⟩)
 | .bi s a b,h,o => .inr (.inr ⟨s,[a,b],rfl,(by
  obtain⟨h1,_⟩:=h
  cases s <;> first | rfl | (cases h1)),(by
  obtain⟨h1,_⟩:=h
  cases s <;> first | rfl | (cases h1)),fun c hc=>by
  obtain⟨_,h2,h3⟩:=h
  have z:(Ex.bi s a b).high=max a.high b.high + 1:=rfl
  rcases jH.mp hc with rfl | hc
  · exact⟨h2,o.1,by omega⟩
  · have:c=b:=by simpa using hc
    subst this;exact⟨h3,o.2,by omega⟩⟩)
 | .pick x a b,h,o => .inr (.inr ⟨.pick,[x,a,b],rfl,rfl,rfl,fun c hc=>by
  obtain⟨h1,h2,h3⟩:=h
  have z:(Ex.pick x a b).high=max x.high (max a.high b.high) + 1:=rfl
  simp only[jH,jt,or_false]at hc
  rcases hc with rfl | rfl | rfl
  · exact⟨h1,o.1,by omega⟩
  · exact⟨h2,o.2.1,by omega⟩
  · exact⟨h3,o.2.2,by omega⟩⟩)
theorem z2T{ns:List Int}(h:ns.length=2):∃ a b,ns=[a,b]:=by
 match ns,h with
 | [a,b],_=>exact⟨a,b,rfl⟩
def mkE:Sg->List Ex->Ex
 | .neg,[a] => .un a
 | .pick,[c,a,b] => .pick c a b
 | s,[a,b] => .bi s a b
 | _,_ => .num 0
theorem x0d{s:Sg}{cs:List Ex}(hl:cs.length=s.many)(ρ:Str->Int):dE (mkE s cs) = .tup (.str s.str :: cs.map dE)/\ev ρ (mkE s cs)=rkL s (cs.map (ev ρ)):=by
 cases s with
 | neg=>match cs,hl with | [a],_=>exact⟨rfl,rfl⟩
 | pick=>match cs,hl with | [x,a,b],_=>exact⟨rfl,rfl⟩
 | add=>match cs,hl with | [a,b],_=>exact⟨rfl,rfl⟩
 | sub=>match cs,hl with | [a,b],_=>exact⟨rfl,rfl⟩
 | lt=>match cs,hl with | [a,b],_=>exact⟨rfl,rfl⟩
 | eq=>match cs,hl with | [a,b],_=>exact⟨rfl,rfl⟩
 | conj=>match cs,hl with | [a,b],_=>exact⟨rfl,rfl⟩
 | disj=>match cs,hl with | [a,b],_=>exact⟨rfl,rfl⟩
theorem Ex.node2(p:Str->Prop):∀ e:Ex,e.ok->e.over p->(∃ n,e = .num n)\/(∃ x,e = .nam x)\/∃ (s:Sg) (cs:List Ex),e=mkE s cs/\cs.length=s.many/\∀ c∈cs,c.ok/\c.over p/\c.high < e.high
 | .num n,_,_ => .inl ⟨n,rfl⟩
 | .nam x,_,_ => .inr (.inl ⟨x,rfl⟩)
 | .un a,h,o => .inr (.inr ⟨.neg,[a],rfl,rfl,fun c hc=>by
  have:c=a:=by simpa using hc
  subst this;exact⟨h,o,by show c.high < c.high + 1;omega⟩⟩)
 | .bi s a b,h,o => .inr (.inr ⟨s,[a,b],(by
  obtain⟨h1,_⟩:=h
  cases s <;> first | rfl | (cases h1)),(by
  obtain⟨h1,_⟩:=h
  cases s <;> first | rfl | (cases h1)),fun c hc=>by
  obtain⟨_,h2,h3⟩:=h
  have z:(Ex.bi s a b).high=max a.high b.high + 1:=rfl
  rcases jH.mp hc with rfl | hc
  · exact⟨h2,o.1,by omega⟩
  · have:c=b:=by simpa using hc
    subst this;exact⟨h3,o.2,by omega⟩⟩)
 | .pick x a b,h,o => .inr (.inr ⟨.pick,[x,a,b],rfl,rfl,fun c hc=>by
  obtain⟨h1,h2,h3⟩:=h
  have z:(Ex.pick x a b).high=max x.high (max a.high b.high) + 1:=rfl
  simp only[jH,jt,or_false]at hc
  rcases hc with rfl | rfl | rfl
  · exact⟨h1,o.1,by omega⟩
  · exact⟨h2,o.2.1,by omega⟩
  · exact⟨h3,o.2.2,by omega⟩⟩)
def z3m(f:List Str)(n:Str):List Str:=if n∈f then f else f ++ [n]
def Ex.nms:Ex->List Str
 | .num _=>[]
 | .nam x=>[x]
 | .un a=>a.nms.foldl z3m []
 | .bi _ a b=>b.nms.foldl z3m (a.nms.foldl z3m [])
 | .pick c a b=>b.nms.foldl z3m (a.nms.foldl z3m (c.nms.foldl z3m []))
theorem y3B{s:Sg}{cs:List Ex}(hl:cs.length=s.many):(mkE s cs).nms=cs.foldl (fun f c=>c.nms.foldl z3m f) []:=by
 cases s with
 | neg=>match cs,hl with | [a],_=>rfl
 | pick=>match cs,hl with | [x,a,b],_=>rfl
 | add=>match cs,hl with | [a,b],_=>rfl
 | sub=>match cs,hl with | [a,b],_=>rfl
 | lt=>match cs,hl with | [a,b],_=>rfl
 | eq=>match cs,hl with | [a,b],_=>rfl
 | conj=>match cs,hl with | [a,b],_=>rfl
 | disj=>match cs,hl with | [a,b],_=>rfl
theorem y8P{f:List Str}{n:Str}{p:Str->Prop}(hn:p n)(h:f.Nodup/\∀ x∈f,p x):(z3m f n).Nodup/\∀ x∈z3m f n,p x:=by
 unfold z3m
 split
 · exact h
 · rename_i hc
   refine⟨?_,fun x hx=>?_⟩
   · rw[j4]
     exact⟨h.1,by simp,fun a ha b hb e=>by
      have:b=n:=by simpa using hb
      subst e this;exact hc ha⟩
   · rcases ji.mp hx with hx | hx
     · exact h.2 x hx
     · have:x=n:=by simpa using hx
       subst this;exact hn
theorem z1D{p:Str->Prop}:∀ (l:List Str) {f:List Str},(∀ x∈l,p x)->(f.Nodup/\∀ x∈f,p x)->(l.foldl z3m f).Nodup/\∀ x∈l.foldl z3m f,p x
 | [],_,_,h=>h
 | n :: l,f,hl,h=>z1D l (fun x hx=>hl x (jQ _ hx)) (y8P (hl n (by simp)) h)
theorem z2S{p:Str->Prop}:∀ e:Ex,e.over p->e.nms.Nodup/\∀ x∈e.nms,p x
 | .num _,_=>⟨j6,fun x hx=>nomatch hx⟩
 | .nam x,h=>⟨by simp[Ex.nms],fun y hy=>by
  have:y=x:=by simpa [Ex.nms] using hy
  subst this;exact h⟩
 | .un a,h=>z1D _ (z2S a h).2 ⟨j6,fun x hx=>nomatch hx⟩
 | .bi _ a b,h=>z1D _ (z2S b h.2).2 (z1D _ (z2S a h.1).2 ⟨j6,fun x hx=>nomatch hx⟩)
 | .pick c a b,h=>z1D _ (z2S b h.2.2).2 (z1D _ (z2S a h.2.1).2 (z1D _ (z2S c h.1).2 ⟨j6,fun x hx=>nomatch hx⟩))
theorem z2d:∀ {l m:List Str},l.Nodup->(∀ x∈l,x∈m)->l.length<=m.length
 | [],_,_,_=>jR _
 | x :: l,m,hn,hs=>by
  have hx:x∈m:=hs x (by simp)
  rw[jy]at hn
  have:=z2d (l:=l) (m:=m.erase x) hn.2 fun y hy=>(List.mem_erase_of_ne (fun e:y=x=>hn.1 (e ▸ hy))).mpr (hs y (jQ _ hy))
  rw[List.length_erase_of_mem hx]at this
  have:0 < m.length:=List.length_pos_of_mem hx
  rw[jp];omega
def z4E(f:List Str)(cs:List Ex):List Str:=cs.foldl (fun f c=>c.nms.foldl z3m f) f
theorem z7A{p:Str->Prop}:∀ (cs:List Ex) {f:List Str},(∀ c∈cs,c.over p)->(f.Nodup/\∀ x∈f,p x)->(z4E f cs).Nodup/\∀ x∈z4E f cs,p x
 | [],_,_,h=>h
 | c :: cs,f,hc,h=>z7A cs (fun x hx=>hc x (jQ _ hx)) (z1D _ (z2S c (hc c (by simp))).2 h)
theorem z6w(f:List Str)(cs:List Ex)(c:Ex):z4E f (cs ++ [c])=c.nms.foldl z3m (z4E f cs):=by
 unfold z4E;rw[kI];rfl
def kM(ks:List Str)(f:Str->V):List (Key×V):=ks.map fun x=>((Sum.inr x:Key),f x)
theorem y0A(ks:List Str)(f:Str->V):(kM ks f).length=ks.length:=jA ..
theorem y0B{ks:List Str}{f g:Str->V}(h:∀ x∈ks,f x=g x):kM ks f=kM ks g:=jq fun x hx=>by rw[h x hx]
theorem y6K(f:Str->V)(x:Str):∀ ks:List Str,((kM ks f).any fun kv=>decide (kv.1=Sum.inr x))=decide (x∈ks)
 | []=>rfl
 | a :: r=>by
  show (decide ((Sum.inr a:Key)=Sum.inr x) || (kM r f).any fun kv=>decide (kv.1=Sum.inr x))=_
  rw[y6K f x r,Bool.eq_iff_iff]
  simp only[Bool.or_eq_true,decide_eq_true_eq,Sum.inr.injEq,jH]
  exact⟨fun h=>h.imp Eq.symm id,fun h=>h.imp Eq.symm id⟩
theorem y0z(f:Str->V)(x:Str):∀ ks:List Str,z4V (kM ks f) (Sum.inr x)=if x∈ks then some (f x) else none
 | []=>rfl
 | a :: r=>by
  have ih:=y0z f x r
  unfold z4V kM at ih ⊢
  rw[jj,kR]
  by_cases e:a=x
  · subst e;simp
  · have:decide ((Sum.inr a:Key)=Sum.inr x)=false:=decide_eq_false fun z=>e (Sum.inr.inj z)
    rw[this]
    dsimp only
    rw[ih]
    by_cases m:x∈r
    · rw[if_pos m,if_pos (jQ _ m)]
    · rw[if_neg m,if_neg fun z=>(jH.mp z).elim (fun z=>e z.symm) m]
def y0Y(ks:List Str)(x:Str):List Str:=if x∈ks then ks else ks ++ [x]
theorem z3B{ks:List Str}{x y:Str}:y∈y0Y ks x↔y∈ks\/y=x:=by
 unfold y0Y
 split
 · rename_i h
   exact⟨.inl,fun z=>z.elim id fun e=>e ▸ h⟩
 · simp
theorem y3z{ks:List Str}{x:Str}(h:ks.Nodup):(y0Y ks x).Nodup:=by
 unfold y0Y
 split
 · exact h
 · rename_i n
   rw[j4]
   exact⟨h,by simp,fun a ha b hb e=>n (by rw[<- jP.mp hb,<- e];exact ha)⟩
theorem y6J(ks:List Str)(f:Str->V)(x:Str)(v:V):z3O (kM ks f) (Sum.inr x) v=kM (y0Y ks x) fun y=>if y=x then v else f y:=by
 unfold z3O y0Y
 rw[y6K]
 by_cases m:x∈ks
 · rw[if_pos (decide_eq_true m),if_pos m]
   show List.map _ (List.map _ ks)=List.map _ ks
   rw[jd]
   refine jq fun y _=>?_
   by_cases e:y=x
   · subst e;simp
   · simp[e]
 · rw[if_neg (by simp[m]),if_neg m]
   show List.map _ ks ++ [_]=List.map _ (ks ++ [x])
   rw[je]
   congr 1
   · refine jq fun y hy=>?_
     dsimp only
     rw[if_neg (fun e:y=x=>m (by rw[<- e];exact hy))]
   · simp
def unS(ks ms:List Str):List Str:=ms.foldl y0Y ks
theorem y3C:∀ {ms ks:List Str}{y:Str},y∈unS ks ms↔y∈ks\/y∈ms
 | [],ks,y=>by simp[unS]
 | m :: ms,ks,y=>by
  show y∈unS (y0Y ks m) ms↔_
  rw[y3C,z3B,jH,or_assoc]
theorem z7r(a:Str):¬ ltS a a:=List.lt_irrefl _
def y6L(x:Str):List Str->List Str
 | []=>[x]
 | y :: r=>if x=y then y :: r else if decide (x.cps.toList < y.cps.toList)=true then x :: y :: r else y :: y6L x r
def srt(l:List Str):List Str:=l.foldr y6L []
theorem z7p{x k:Str}:∀ {l:List Str},k∈y6L x l↔k=x\/k∈l
 | []=>by simp[y6L]
 | y :: r=>by
  unfold y6L
  split
  · rename_i h
    subst h
    simp
  · split
    · simp
    · rw[jH,z7p (l:=r),jH]
      exact⟨fun h=>h.elim (fun h => .inr (.inl h)) fun h=>h.elim .inl fun h => .inr (.inr h),fun h=>h.elim (fun h => .inr (.inl h)) fun h=>h.elim .inl fun h => .inr (.inr h)⟩
theorem y3b{x:Str}:∀ {l:List Str},l.Pairwise ltS->(y6L x l).Pairwise ltS
 | [],_=>List.pairwise_singleton _ _
 | y :: r,h=>by
  obtain⟨h1,h2⟩:=jv.mp h
  unfold y6L
  split
  · exact h
  · rename_i ne
    split
    · rename_i lt
      have lt:ltS x y:=of_decide_eq_true lt
      exact jv.mpr ⟨fun k hk=>(jH.mp hk).elim (fun e=>e ▸ lt) fun hk=>z5J lt (h1 k hk),h⟩
    · rename_i nl
      have lt:ltS y x:=y0x ne fun z=>nl (decide_eq_true z)
      exact jv.mpr ⟨fun k hk=>(z7p.mp hk).elim (fun e=>e ▸ lt) fun hk=>h1 k hk,y3b h2⟩
theorem z3R{k:Str}:∀ {l:List Str},k∈srt l↔k∈l
 | []=>Iff.rfl
 | x :: l=>by
  show k∈y6L x (srt l)↔_
  rw[z7p,z3R (l:=l),jH]
theorem y2Z:∀ l:List Str,(srt l).Pairwise ltS
 | []=>List.Pairwise.nil
 | _ :: l=>y3b (y2Z l)
theorem y2Y:∀ {l m:List Str},l.Pairwise ltS->m.Pairwise ltS->(∀ k,k∈l↔k∈m)->l=m
 | [],[],_,_,_=>rfl
 | [],b :: m,_,_,h=>absurd ((h b).mpr (jX ..)) (fun z=>nomatch z)
 | a :: l,[],_,_,h=>absurd ((h a).mp (jX ..)) (fun z=>nomatch z)
 | a :: l,b :: m,hl,hm,h=>by
  obtain⟨l1,l2⟩:=jv.mp hl
  obtain⟨m1,m2⟩:=jv.mp hm
  have e:a=b:=by
   rcases jH.mp ((h a).mp (jX ..)) with e | ha
   · exact e
   rcases jH.mp ((h b).mpr (jX ..)) with e | hb
   · exact e.symm
   exact absurd (z5J (m1 a ha) (l1 b hb)) (z7r _)
  subst e
  refine congrArg (a :: ·) (y2Y l2 m2 fun k=>⟨fun hk=>?_,fun hk=>?_⟩)
  · rcases jH.mp ((h k).mp (jQ _ hk)) with e | z
    · exact absurd (l1 k hk) (e ▸ z7r _)
    · exact z
  · rcases jH.mp ((h k).mpr (jQ _ hk)) with e | z
    · exact absurd (m1 k hk) (e ▸ z7r _)
    · exact z
theorem z9S{l ss:List Str}(pw:ss.Pairwise ltS)(m:∀ k,k∈ss↔k∈l):ss=srt l:=y2Y pw (y2Z l) fun k=>(m k).trans z3R.symm
theorem y3e{l:List Str}(h:l.Pairwise ltS):l.Nodup:=jl.mpr (h.imp fun {a b} h e=>by rw[e]at h;exact z7r _ h)
def y6M(x:Int):List Int->List Int
 | []=>[x]
 | y :: r=>if x < y then x :: y :: r else if x=y then y :: r else y :: y6M x r
def z5a(l:List Int):List Int:=l.foldr y6M []
theorem z7q{x k:Int}:∀ {l:List Int},k∈y6M x l↔k=x\/k∈l
 | []=>by simp[y6M]
 | y :: r=>by
  unfold y6M
  split
  · simp
  · split
    · rename_i h;subst h;simp
    · rw[jH,z7q (l:=r),jH]
      exact⟨fun h=>h.elim (fun h => .inr (.inl h)) fun h=>h.elim .inl fun h => .inr (.inr h),fun h=>h.elim (fun h => .inr (.inl h)) fun h=>h.elim .inl fun h => .inr (.inr h)⟩
theorem y3c{x:Int}:∀ {l:List Int},l.Pairwise (· < ·)->(y6M x l).Pairwise (· < ·)
 | [],_=>List.pairwise_singleton _ _
 | y :: r,h=>by
  obtain⟨h1,h2⟩:=jv.mp h
  unfold y6M
  split
  · rename_i lt
    exact jv.mpr ⟨fun k hk=>(jH.mp hk).elim (fun e=>e ▸ lt) fun hk=>Int.lt_trans lt (h1 k hk),h⟩
  · split
    · exact h
    · rename_i a b
      exact jv.mpr ⟨fun k hk=>(z7q.mp hk).elim (fun e=>by subst e;omega) fun hk=>h1 k hk,y3c h2⟩
theorem z5k{k:Int}:∀ {l:List Int},k∈z5a l↔k∈l
 | []=>Iff.rfl
 | x :: l=>by
  show k∈y6M x (z5a l)↔_
  rw[z7q,z5k (l:=l),jH]
theorem z5C:∀ l:List Int,(z5a l).Pairwise (· < ·)
 | []=>List.Pairwise.nil
 | _ :: l=>y3c (z5C l)
theorem y0g:∀ {l m:List Int},l.Pairwise (· < ·)->m.Pairwise (· < ·)->(∀ k,k∈l↔k∈m)->l=m
 | [],[],_,_,_=>rfl
 | [],b :: m,_,_,h=>absurd ((h b).mpr (jX ..)) (fun z=>nomatch z)
 | a :: l,[],_,_,h=>absurd ((h a).mp (jX ..)) (fun z=>nomatch z)
 | a :: l,b :: m,hl,hm,h=>by
  obtain⟨l1,l2⟩:=jv.mp hl
  obtain⟨m1,m2⟩:=jv.mp hm
  have e:a=b:=by
   rcases jH.mp ((h a).mp (jX ..)) with e | ha
   · exact e
   rcases jH.mp ((h b).mpr (jX ..)) with e | hb
   · exact e.symm
   exact absurd (Int.lt_trans (m1 a ha) (l1 b hb)) (Int.lt_irrefl _)
  subst e
  refine congrArg (a :: ·) (y0g l2 m2 fun k=>⟨fun hk=>?_,fun hk=>?_⟩)
  · rcases jH.mp ((h k).mp (jQ _ hk)) with e | z
    · exact absurd (l1 k hk) (e ▸ Int.lt_irrefl _)
    · exact z
  · rcases jH.mp ((h k).mpr (jQ _ hk)) with e | z
    · exact absurd (m1 k hk) (e ▸ Int.lt_irrefl _)
    · exact z
theorem z8Q{l ss:List Int}(pw:ss.Pairwise (· < ·))(m:∀ k,k∈ss↔k∈l):ss=z5a l:=y0g pw (z5C l) fun k=>(m k).trans z5k.symm
theorem y2s{l ss:List Int}(nd:l.Nodup)(p:ss.Perm l)(pw:ss.Pairwise (·<=·)):ss=z5a l:=by
 refine z8Q ?_ fun k=>p.mem_iff
 have nd':ss.Nodup:=p.nodup_iff.mpr nd
 have ne:=jl.mp nd'
 exact (pw.and ne).imp fun {a b} h=>by have:=h.1;have:=h.2;omega
theorem z5D{l:List Int}(h:l.Pairwise (· < ·)):l.Nodup:=jl.mpr (h.imp fun {a b} h e=>by omega)
theorem z9T(l:List Int):(z5a l).length<=l.length:=List.Nodup.length_le_of_subset (z5D (z5C l)) fun k hk=>z5k.mp hk
theorem y2t{l:List Int}(h:l≠[]):z5a l≠[]:=fun z=>by
 cases l with
 | nil=>exact h rfl
 | cons a l =>
  have:a∈z5a (a :: l):=z5k.mpr (jX ..)
  rw[z]at this;cases this
def chF(acc:List (List Int))(some:List Int):List (List Int):=acc.flatMap fun c=>some.map fun o=>c ++ [o]
def chs(ls:List (List Int)):List (List Int):=ls.foldl chF [[]]
def z8c(ns:List Nat):Nat:=ns.foldl (· * ·) 1
theorem z4I(acc:List (List Int))(l:List Int):(chF acc l).length=acc.length * l.length:=by
 unfold chF
 induction acc with
 | nil=>simp
 | cons a r ih=>rw[List.flatMap_cons,jJ,jA,ih,jp,Nat.succ_mul];omega
theorem z4q(ls:List (List Int))(l:List Int):chs (ls ++ [l])=chF (chs ls) l:=by unfold chs;rw[kI];rfl
theorem z4j(ns:List Nat)(n:Nat):z8c (ns ++ [n])=z8c ns * n:=by unfold z8c;rw[kI];rfl
theorem z3l(ls:List (List Int)):(chs ls).length=z8c (ls.map List.length):=by
 have:∀ (n:Nat) (ls:List (List Int)),ls.length=n->(chs ls).length=z8c (ls.map List.length):=by
  intro n
  induction n with
  | zero=>intro ls h;rw[jk.mp h];rfl
  | succ n ih =>
   intro ls h
   have hne:ls≠[]:=fun z=>by rw[z]at h;cases h
   rw[<- j3 hne,z4q,z4I,je,ih _ (by rw[List.length_dropLast];omega)]
   exact (z4j _ _).symm
 exact this _ ls rfl
theorem y0n{ns:List Nat}(h:∀ n∈ns,1<=n)(i:Nat):z8c (ns.take i)<=z8c ns:=by
 have gen:∀ (r:List Nat) (a:Nat),(∀ n∈r,1<=n)->a<=r.foldl (· * ·) a:=by
  intro r
  induction r with
  | nil=>intro a _;exact jF _
  | cons x r ih =>
   intro a h
   have h1:=ih (a * x) fun n hn=>h n (jQ _ hn)
   have h2:=Nat.le_mul_of_pos_right a (h x (jX ..))
   exact jc h2 h1
 have e:ns=ns.take i ++ ns.drop i:=(List.take_append_drop i ns).symm
 have:z8c ns=(ns.drop i).foldl (· * ·) (z8c (ns.take i)):=by
  conv=>lhs;rw[e]
  unfold z8c
  rw[kI]
 rw[this]
 exact gen _ _ fun n hn=>h n (List.mem_of_mem_drop hn)
theorem y8K{acc:List (List Int)}{l:List Int}{k:Nat}(h:∀ c∈acc,c.length=k):∀ c∈chF acc l,c.length=k + 1:=fun c hc=>by
 obtain⟨a,ha,hc⟩:=List.mem_flatMap.mp hc
 obtain⟨o,_,rfl⟩:=jU.mp hc
 rw[jJ,h a ha];rfl
theorem z2u:∀ (n:Nat) (ls:List (List Int)),ls.length=n->∀ c∈chs ls,c.length=n
 | 0,ls,h=>by rw[jk.mp h];intro c hc;rw[jP.mp hc];rfl
 | n + 1,ls,h=>by
  have hne:ls≠[]:=fun z=>by rw[z]at h;cases h
  rw[<- j3 hne,z4q]
  exact y8K (z2u n _ (by rw[List.length_dropLast];omega))
def bk(ns:List Str)(v:List Int):Str->Int:=fun x=>v.getD (ns.idxOf x) 0
theorem z6A{ns:List Str}(nd:ns.Nodup):∀ {v:List Int},v.length=ns.length->ns.map (bk ns v)=v:=fun {v} h=>by
 refine kS (by rw[jA,h]) fun i h1 h2=>?_
 rw[kF]
 have hi:i < ns.length:=by omega
 unfold bk
 rw[nd.idxOf_getElem i hi,jM,jB h2]
 rfl
def z2i(kd:Str->List Int)(e:Ex):List Int:=(chs (e.nms.map kd)).map fun ch=>ev (bk e.nms ch) e
def cntK(kd:Str->List Int)(ns:List Str):Nat:=z8c (ns.map fun n=>(kd n).length)
theorem z9P(kd:Str->List Int)(e:Ex):(z2i kd e).length=cntK kd e.nms:=by
 unfold z2i cntK
 rw[jA,z3l,jd];rfl
local macro_rules | `(tactic| walk_at "sd") => `(tactic| (try dsimp only); first | decide | omega | assumption | (refine ⟨?_, ?_⟩ <;> first | decide | omega | assumption) | (refine ⟨?_, ?_, ?_⟩ <;> first | decide | omega | assumption))
local macro_rules | `(tactic| walk_at "rd1") => `(tactic| first
 | refine⟨_,rfl,?_⟩
 | refine⟨_,_,rfl,rfl,?_⟩
 | refine⟨_,_,rfl,?_⟩
 | refine .inl ⟨_,_,rfl,rfl,?_⟩
 | refine .inr (.inl ⟨_,_,rfl,rfl,?_⟩)
 | refine .inr (.inr (.inl ⟨_,_,rfl,rfl,?_⟩))
 | refine .inl ⟨_,rfl,?_⟩
 | refine .inr ⟨_,rfl,?_⟩
 | refine⟨rfl,?_⟩
 | (refine And.intro ?sd ?_;(case sd=>walk_at "sd"))
 | (refine' .inr (.inl ⟨_,_,_,_,rfl,rfl,?hs,?ha,?_⟩);(case hs=>assumption);(case ha=>rfl))
 | (refine'⟨_,_,_,rfl,?hs,?hk,?_⟩;(case hs=>assumption);(case hk=>decide)))
local macro_rules | `(tactic| walk_at "rd") => `(tactic| repeat (walk_at "rd1"))
local macro_rules | `(tactic| walk_at "mk") => `(tactic| repeat' (first
 | exact mk_str
 | exact mk_int
 | exact mk_varS rfl
 | exact mk_var rfl (by assumption)
 | exact mks_nil
 | refine mks_cons ?_ ?_
 | refine mk_tup ?_ ?_
 | refine mk_lst ?_ ?_
 | exact mkS_lit (by decide)
 | exact mkS_var rfl (by assumption)
 | apply mk_addS
 | apply mkS_add
 | refine mk_cat ?_ ?_ ?_
 | exact few100 (Nat.le_of_ble_eq_true rfl)
 | (show _<=sizeLine;decide)))
section
variable {P:Program}{w:World}{K:PySem.W.Frag}{mg:Str->Option Value}{base:Heap}
def z4u:Sp:=fun vs H Q _=>∃ a b,vs=[.int a,.int b]/\Q (.int (G a b)) H
theorem y1x(B:Bl mg)(F:Fn K mg "divisor" z4h ["one", "other"]):Def P w K mg base "divisor" 1 ["one", "other"] z4u:=by
 refine F.ok z1Q (fun vs H Q E h=>?_) (fun f cdv A outer s H vs Q E hr h=>?_)
 · obtain⟨a,b,rfl,_⟩:=h;rfl
 obtain⟨a,b,rfl,q⟩:=h
 refine⟨_,(@z0b _ _ _ _ _ (z0t (i:=0) z1Q.nd rfl (by first | exact Or.inl rfl | exact Or.inr rfl) (z0u y0W rfl B.abs PyProof.Rows.boot_abs (z0a (pv 0) z0f)))
  (@z0b _ _ _ _ _ (z0t (i:=1) z1Q.nd rfl (by first | exact Or.inl rfl | exact Or.inr rfl) (z0u y0W rfl B.abs PyProof.Rows.boot_abs (z0a (pv 1) z0f)))
  (@z0b _ _ _ _ _ (y0j PassesOwn.never (z0j z1r (pv 1) z0d (z0k _)) (@z0b _ _ _ _ _ (z0t (i:=2) z1Q.nd rfl (by first | exact Or.inl rfl | exact Or.inr rfl) (z0p z0L (pv 0) (pv 1)))
  (@z0b _ _ _ _ _ (z0t (i:=0) z1Q.nd rfl (by first | exact Or.inl rfl | exact Or.inr rfl) (pv 1))
  (@z0g _ _ _ (z0t (i:=1) z1Q.nd rfl (by first | exact Or.inl rfl | exact Or.inr rfl) (pv 2))))))
  (@z0g _ _ _ (z0o (pv 0)))))),?_⟩
 walk_at "rd"
 refine z9K (fun σ H'=>H'=H/\∃ x y r,σ=[some (.int x),some (.int y),r]/\0<=x/\0<=y/\G x y=G a b)
  (fun σ _=>match σ with | [_,some (.int y),_]=>y.toNat | _=>0) ?_ ?_ ?_
 · exact⟨rfl,_,_,_,rfl,z8I a,z8I b,x1N a b⟩
 · rintro σ H' ⟨rfl,x,y,r,rfl,hx,hy,e⟩
   walk_at "rd"
   refine z3T (fun c=>?_) (fun c=>?_)
   · have hy':0 < y:=by omega
     refine⟨_,rfl,_,rfl,_,_,rfl,rfl,hy',?_⟩
     walk_at "rd"
     have h1:=kT x c
     have h2:=kN x hy'
     refine⟨⟨rfl,_,_,_,rfl,hy,h1,(y6T hx hy').trans e⟩,?_⟩
     show (x % y).toNat < y.toNat
     omega
   · walk_at "rd"
     have:=y6S hx c
     rw[e]at this
     show Q (.int x) H'
     rw[<- this];exact q
 · rintro σ H' R R' m ⟨v,e,h⟩
   refine⟨v,e,?_⟩
   obtain⟨i,j,e1,e2,k,e3,h⟩:=h
   exact⟨i,j,e1,e2,k,e3,m _ _ h⟩
end
section
variable {P:Program}{w:World}{K:PySem.W.Frag}{mg:Str->Option Value}{base:Heap}{z0v:Addr}
def z9U:Sp:=fun vs H Q _=>∃ i,vs=[.int i]/\Q (.bl true) H
theorem z9f(B:Bl mg)(F:Fn K mg "is_whole" z3w ["thing"]):Def P w K mg base "is_whole" 1 ["thing"] z9U:=by
 refine F.ok z8V (fun vs H Q E h=>?_) (fun f cdv A outer s H vs Q E hr h=>?_)
 · obtain⟨i,rfl,_⟩:=h;rfl
 obtain⟨i,rfl,q⟩:=h
 refine⟨_,(@z0g _ _ _ (z0o (y3o (z0u (z1h K rfl) rfl B.isinstance PyProof.Rows.boot_isinstance (z0a (pv 0) (z0a (z2c (v := .ty "int") rfl B.int PyProof.Rows.boot_int rfl) z0f))) (z8g (y9N (z0u (z1h K rfl) rfl B.isinstance PyProof.Rows.boot_isinstance (z0a (pv 0) (z0a (z2c (v := .ty "bool") rfl B.bool PyProof.Rows.boot_bool rfl) z0f)))))))),?_⟩
 refine⟨_,rfl,_,_,.type "int",true,rfl,rfl,.of (.int i),rfl,_,rfl,y5M ?_⟩
 refine⟨_,rfl,_,_,.type "int",false,rfl,rfl,.of (.int i),rfl,_,rfl,?_⟩
 exact q
def z5v(K:PySem.W.Frag):Sp:=fun vs H Q _=>∃ t b,vs=[.int t,.int b]/\b≠0/\b.natAbs < 2 ^ 8000/\∀ p H',Same H H'->IsD K H' (dF (Rat.divInt t b)) (.ref p)->Q (.ref p) H'
theorem z9h(B:Bl mg)(F:Fn K mg "fraction" z3y ["top", "bottom"])(z3F:Def P w K mg base "is_whole" 1 ["thing"] z9U)(z2I:Def P w K mg base "divisor" 1 ["one", "other"] z4u) :
 Def P w K mg base "fraction" 2 ["top", "bottom"] (z5v K):=by
 refine F.ok z3N (fun vs H Q E h=>?_) (fun f cdv A outer s H vs Q E hr h=>?_)
 · obtain⟨t,b,rfl,_⟩:=h;rfl
 obtain⟨t,b,rfl,hb,hz,q⟩:=h
 refine⟨_,(@z0b _ _ _ _ _ (z0B (PW.pt (z4x (z3a (z1Z (z0r z3F hr rfl (z0a (pv 0) z0f)))) (z3I (z3a (z1Z (z0r z3F hr rfl (z0a (pv 1) z0f))))))) (@z0g _ _ _ y0l) z0m)
  (@z0b _ _ _ _ _ (z0B (z0j (z0x.or (z0z.or (z0A.or (z0w K rfl hr.units)))) (pv 1) z0d (z0k _)) (@z0g _ _ _ y0l) z0m)
  (@z0b _ _ _ _ _ (z0t (i:=2) z3N.nd rfl (by first | exact Or.inl rfl | exact Or.inr rfl) (z0r z2I hr rfl (z0a (pv 0) (z0a (pv 1) z0f))))
  (@z0b _ _ _ _ _ (z0B (z0j y1s (pv 1) z0d (z0k _)) (@z0g _ _ _ (z0t (i:=2) z3N.nd rfl (by first | exact Or.inl rfl | exact Or.inr rfl) (y5n z9Q (pv 2)))) z0m)
  (@z0g _ _ _ (z0o (z1j (z0a (z0p z7i (pv 0) (pv 2)) (z0a (z0p z7i (pv 1) (pv 2)) z0f))))))))),?_⟩
 walk_at "rd"
 refine z1C (fun c=>absurd c hb) (fun _=>?_)
 walk_at "rd"
 have fr:=y5W (t:=t) hb
 have gl:=x1w (a:=t) hb
 have g0:=y2c (a:=t) hb
 have gz:(G t b).natAbs < 2 ^ 8000:=by omega
 have gz':(-(G t b)).natAbs < 2 ^ 8000:=by omega
 unfold sg at fr
 refine z1C (fun c=>?_) (fun c=>?_)
 · rw[if_pos c]at fr
   walk_at "rd"
   refine⟨⟨by omega,z6o gz' (by decide)⟩,?_⟩
   walk_at "rd"
   refine⟨⟨by omega,z6o gz' (by decide)⟩,(by show 2<=sizeLine;decide),fun p hp=>q p _ (z0e hp _) ?_⟩
   unfold dF
   rw[<- fr.1,<- fr.2]
   exact z9b z0c
 · rw[if_neg c]at fr
   walk_at "rd"
   refine⟨⟨by omega,z6o gz (by decide)⟩,?_⟩
   walk_at "rd"
   refine⟨⟨by omega,z6o gz (by decide)⟩,(by show 2<=sizeLine;decide),fun p hp=>q p _ (z0e hp _) ?_⟩
   unfold dF
   rw[<- fr.1,<- fr.2]
   exact z9b z0c
def y2z(K:PySem.W.Frag):Sp:=fun vs H Q _=>∃ x y r s,vs=[x,y]/\IsD K H (dF r) x/\IsD K H (dF s) y/\sz r/\sz s/\∀ p H',Same H H'->IsD K H' (dF (r + s)) (.ref p)->Q (.ref p) H'
theorem y7U(B:Bl mg)(F:Fn K mg "plus" y0b ["one", "other"])(z2I:Def P w K mg base "divisor" 1 ["one", "other"] z4u)(z4N:Def P w K mg base "fraction" 2 ["top", "bottom"] (z5v K)):Def P w K mg base "plus" 3 ["one", "other"] (y2z K):=by
 refine F.ok z5x (fun vs H Q E h=>?_) (fun f cdv A outer s H vs Q E hr h=>?_)
 · obtain⟨x,y,r,s,rfl,_⟩:=h;rfl
 obtain⟨x,y,r,s,rfl,hx,hy,zr,zs,q⟩:=h
 obtain⟨a,rfl,qa⟩:=z4B hx
 obtain⟨b,rfl,qb⟩:=z4B hy
 have zd:((r.den:Int)).natAbs < 2 ^ 2000:=by have:=zr.2;omega
 have ze:((s.den:Int)).natAbs < 2 ^ 2000:=by have:=zs.2;omega
 have dr:=z2r r;have ds:=z2r s
 have al:=y8N r s
 have g0:=y2c (a:=(r.den:Int)) (b:=(s.den:Int)) (by omega)
 have gl:=x1w (a:=(r.den:Int)) (b:=(s.den:Int)) (by omega)
 have gz:(G (r.den:Int) (s.den:Int)).natAbs < 2 ^ 2000:=by omega
 have oz:((r.den:Int) / G (r.den:Int) (s.den:Int)).natAbs < 2 ^ 2000:=jx (Int.natAbs_ediv_le_natAbs ..) zd
 have uz:((s.den:Int) / G (r.den:Int) (s.den:Int)).natAbs < 2 ^ 2000:=jx (Int.natAbs_ediv_le_natAbs ..) ze
 refine⟨_,(@z0b _ _ _ _ _ (z0t (i:=2) z5x.nd rfl (by first | exact Or.inl rfl | exact Or.inr rfl) (z0r z2I hr rfl (z0a (z0s (z0i K rfl) (pv 0) z0d (fun _ _=>rfl)) (z0a (z0s (z0i K rfl) (pv 1) z0d (fun _ _=>rfl)) z0f))))
  (@z0b _ _ _ _ _ (z0t (i:=3) z5x.nd rfl (by first | exact Or.inl rfl | exact Or.inr rfl) (z0p z1y (z0s (z0i K rfl) (pv 0) z0d (fun _ _=>rfl)) (pv 2)))
  (@z0b _ _ _ _ _ (z0t (i:=4) z5x.nd rfl (by first | exact Or.inl rfl | exact Or.inr rfl) (z0p z1y (z0s (z0i K rfl) (pv 1) z0d (fun _ _=>rfl)) (pv 2)))
  (@z0b _ _ _ _ _ (z0t (i:=5) z5x.nd rfl (by first | exact Or.inl rfl | exact Or.inr rfl) (z0r z4N hr rfl (z0a (z0p (z0R.or (z0q.or (z0Q.or (z0y K rfl)))) (z0p z1k (z0s (z0i K rfl) (pv 0) z0d (fun _ _=>rfl)) (pv 4)) (z0p z1k (z0s (z0i K rfl) (pv 1) z0d (fun _ _=>rfl)) (pv 3))) (z0a (pv 2) z0f))))
  (@z0g _ _ _ (z0o (z1j (z0a (z0s (z0i K rfl) (pv 5) z0d (fun _ _=>rfl)) (z0a (z0p z1k (z0p z1k (z0s (z0i K rfl) (pv 5) z0d (fun _ _=>rfl)) (pv 3)) (pv 4)) z0f))))))))),?_⟩
 walk_at "rd"
 refine⟨⟨g0,z6o gz (by decide)⟩,?_⟩
 walk_at "rd"
 refine⟨⟨g0,z6o gz (by decide)⟩,?_⟩
 walk_at "rd"
 refine⟨z3G zr.1 uz (by decide),?_⟩
 walk_at "rd"
 refine⟨z3G zs.1 oz (by decide),?_⟩
 walk_at "rd"
 intro p H' sm d
 obtain⟨_,e,qp⟩:=z4B d;cases e
 have pz:=(z8v (t:=r.num * ((s.den:Int) / G (r.den:Int) (s.den:Int)) + s.num * ((r.den:Int) / G (r.den:Int) (s.den:Int))) (b:=G (r.den:Int) (s.den:Int)) (by omega)).2
 generalize Rat.divInt (r.num * ((s.den:Int) / G (r.den:Int) (s.den:Int)) + s.num * ((r.den:Int) / G (r.den:Int) (s.den:Int))) (G (r.den:Int) (s.den:Int))=v at al pz qp d
 have vz:((v.den:Int)).natAbs < 2 ^ 2000:=by omega
 have vo:((v.den:Int) * ((r.den:Int) / G (r.den:Int) (s.den:Int))).natAbs < 2 ^ 4000:=by
  rw[Int.natAbs_mul]
  have:=Nat.mul_lt_mul'' vz oz
  rwa [<- Nat.pow_add]at this
 walk_at "rd"
 refine⟨z3G vz oz (by decide),?_⟩
 walk_at "rd"
 refine⟨z3G vo uz (by decide),(by show 2<=sizeLine;decide),fun p2 hp2=>q p2 _ (sm.trans (z0e hp2 _)) ?_⟩
 unfold dF
 rw[<- al.1,<- al.2]
 exact z9b z0c
def z3H(r:List Int×Rat):D := .tup [.tup (r.1.map D.int),dF r.2]
def z0W(ns:List Int)(ps:List Int):List Int:=ps.map fun j=>ns.getD j.toNat 0
def z7R(K:PySem.W.Frag):Sp:=fun vs H Q _=>∃ (v p:Addr) (ns ps:List Int),vs=[.ref v,.ref p]/\SqT K H v (ns.map V.int)/\SqL K H p (ps.map V.int)/\(∀ j∈ps,0<=j/\j < ns.length)/\ps.length<=100 /\
 ∀ t H',H t=none->Same H H'->H' t=some (.tup ((z0W ns ps).map V.int))->Q (.ref t) H'
theorem y5i{ix:List Nat}{wi:TI}{te:TE}{r:List V->Hp->VK->Prop}{D:Ends}{σ:St}{H:Hp}(h:wi σ H (z1m ix te σ fun x H1=>r [x] H1 D.rt)):y9n (tCB r (z1J (z3Z ix wi z6G te) z6F)) D σ H:=h
theorem y3t(B:Bl mg)(F:Fn K mg "chosen" z5g ["values", "places"]):Def P w K mg base "chosen" 1 ["values", "places"] (z7R K):=by
 refine F.ok y2Q (fun vs H Q E h=>?_) (fun f cdv A outer s H vs Q E hr h=>?_)
 · obtain⟨v,p,ns,ps,rfl,_⟩:=h;rfl
 obtain⟨v,p,ns,ps,rfl,qv,qp,hj,hl,q⟩:=h
 refine⟨_,(@z0g _ _ _ (z0o (z0K (z2Q K rfl) rfl B.tuple PyProof.Rows.boot_tuple (z0a (z1u (CompOk.of (x := "place") (M:=["values"]) (ix:=[0]) rfl rfl (by decide +kernel) (by decide +kernel) rfl ⟨rfl,trivial⟩ (by rfl) ⟨⟨rfl,rfl,rfl,rfl⟩,trivial⟩) rfl (by decide +kernel) (z0C (pv 1)) (fun _ _ _ _ _=>z0V) (fun _ _ _ _ _=>(z0s (z0i K rfl) (pv 1) (pv 0) (fun _ _=>rfl)))) z0f)))),?_⟩
 refine y5i ?_
 refine⟨_,rfl,p,rfl,⟨_,qp⟩,?_⟩
 refine z8x (K:=K) (xs:=ps.map V.int) ((z0W ns ps).map D.int) qp (by unfold z0W;simp) (by rw[jA];exact kE (z2V (by omega))) (z1N _) (fun i x d H' R hx hd sm hR=>?_) (fun l H' sm dl=>?_)
 · unfold z0W at hd
   rw[jC]at hx
   rw[jC,jC]at hd
   cases en:ps[i]? with
   | none=>rw[en]at hx;cases hx
   | some j =>
    rw[en]at hx hd
    cases hx;cases hd
    obtain⟨j0,j1⟩:=hj j (jf en)
    have hat:atI (ns.map V.int) j=some (.int (ns.getD j.toNat 0)):=by
     have e:j=((j.toNat:Nat):Int):=by omega
     have hlt:j.toNat < ns.length:=by omega
     conv=>lhs;rw[e]
     refine z0Y ?_
     rw[jC,jB hlt]
     simp[List.getD,hlt]
    exact⟨_,rfl,_,rfl,.inr (.inl ⟨v,_,_,_,rfl,rfl,sm.tupq qv,hat,hR _ _ (Same.refl _) rfl⟩)⟩
 · obtain⟨l',ys,e,ql,dd⟩:=dl
   cases e
   rw[z0S dd]at ql
   exact⟨l,_,rfl,.inl ⟨ql,fun t ht=>q t _ (sm.free ht) (sm.trans (z0e ht _)) z0c⟩⟩
def y4J(acc:List (List Int×Rat))(k:List Int):Option Rat:=(acc.find? fun p=>decide (p.1=k)).map (·.2)
def y2d{β:Type}(acc:List (List Int×β))(k:List Int)(x:β):List (List Int×β):=if (acc.any fun p=>decide (p.1=k))=true then acc.map (fun p=>if p.1=k then (p.1,x) else p) else acc ++ [(k,x)]
def y8O(acc:List (List Int×Rat))(k:List Int)(r:Rat):List (List Int×Rat):=y2d acc k (match y4J acc k with | some s=>s + r | none=>r)
def gath(ps:List Int)(rs:List (List Int×Rat)):List (List Int×Rat):=rs.foldl (fun acc r=>y8O acc (z0W r.1 ps) r.2) []
theorem y5b{β:Type}(acc:List (List Int×β))(k:List Int)(x:β):(y2d acc k x).length<=acc.length + 1:=by
 unfold y2d
 split
 · rw[jA];omega
 · rw[jJ];exact jF _
theorem z8u(ps:List Int)(rs:List (List Int×Rat))(r:List Int×Rat):gath ps (rs ++ [r])=y8O (gath ps rs) (z0W r.1 ps) r.2:=by unfold gath;rw[kI];rfl
theorem y0G(ps:List Int)(rs:List (List Int×Rat)):(gath ps rs).length<=rs.length:=by
 have:∀ (rs acc:List (List Int×Rat)),(rs.foldl (fun acc r=>y8O acc (z0W r.1 ps) r.2) acc).length<=acc.length + rs.length:=fun rs=>by
  induction rs with
  | nil=>intro acc;exact jF _
  | cons r rs ih =>
   intro acc
   have h1:=ih (y8O acc (z0W r.1 ps) r.2)
   have h2:(y8O acc (z0W r.1 ps) r.2).length<=acc.length + 1:=y5b _ _ _
   rw[List.foldl_cons,jp]
   omega
 have:=this rs []
 simpa [gath] using this
theorem z7w{a b:List Int}:(a.map (Sum.inl:Int->Key)=b.map Sum.inl)↔a=b:=⟨fun z=>(List.map_inj_right (fun _ _ h=>Sum.inl.inj h)).mp z,fun z=>by rw[z]⟩
theorem x0g(ks:List (List Int×V))(k:List Int):((kz ks).any fun kv=>decide (kv.1=k.map Sum.inl))=ks.any fun kv=>decide (kv.1=k):=by
 show ((ks.map fun kv=>((kv.1.map Sum.inl,kv.2):List Key×V)).any _)=_
 rw[List.any_map]
 congr 1
 funext kv
 exact decide_eq_decide.mpr z7w
theorem x0f(ks:List (List Int×V))(k:List Int)(v:V):z3O (kz ks) (k.map Sum.inl) v=kz (y2d ks k v):=by
 unfold z3O y2d
 rw[x0g]
 split
 · show (ks.map fun kv=>((kv.1.map Sum.inl,kv.2):List Key×V)).map _=(ks.map _).map _
   rw[jd,jd]
   refine jq fun kv _=>?_
   show (if kv.1.map Sum.inl=k.map Sum.inl then _ else _)=((if kv.1=k then (kv.1,v) else kv).1.map Sum.inl,(if kv.1=k then (kv.1,v) else kv).2)
   by_cases z:kv.1=k
   · rw[if_pos (z7w.mpr z),if_pos z]
   · rw[if_neg (fun h=>z (z7w.mp h)),if_neg z]
 · show kz ks ++ _=(ks ++ [(k,v)]).map _
   rw[je];rfl
abbrev Acc(K:PySem.W.Frag)(H:Hp):List (List Int×Rat)->List (List Int×V)->Prop:=Paired fun p q=>p.1=q.1/\IsD K H (dF p.2) q.2
theorem Acc.mono{H H':Hp}(m:∀ r v,IsD K H (dF r) v->IsD K H' (dF r) v):∀ {acc:List (List Int×Rat)}{ks:List (List Int×V)},Acc K H acc ks->Acc K H' acc ks
 | _,_,.nil => .nil
 | _,_,.cons h t => .cons ⟨h.1,m _ _ h.2⟩ (Acc.mono m t)
theorem Acc.val{H:Hp}(k:List Int):∀ {acc:List (List Int×Rat)}{ks:List (List Int×V)},Acc K H acc ks->(y4J acc k=none/\z4V (kz ks) (k.map Sum.inl)=none)\/∃ r v,y4J acc k=some r/\z4V (kz ks) (k.map Sum.inl)=some v/\IsD K H (dF r) v
 | _,_,.nil => .inl ⟨rfl,rfl⟩
 | p :: acc,q :: ks,.cons h t=>by
  by_cases z:p.1=k
  · refine .inr ⟨p.2,q.2,?_,?_,h.2⟩
    · unfold y4J;rw[kR,decide_eq_true z];rfl
    · exact z4Y (by show q.1.map Sum.inl=k.map Sum.inl;rw[<- h.1,z])
  · have e1:y4J (p :: acc) k=y4J acc k:=by unfold y4J;rw[kR,decide_eq_false z]
    have e2:z4V (kz (q :: ks)) (k.map Sum.inl)=z4V (kz ks) (k.map Sum.inl):=z4Z (by show ¬ q.1.map Sum.inl=k.map Sum.inl;rw[<- h.1];exact fun y=>z (z7w.mp y))
    rw[e1,e2]
    exact Acc.val k t
theorem Acc.any{H:Hp}(k:List Int):∀ {acc:List (List Int×Rat)}{ks:List (List Int×V)},Acc K H acc ks->(acc.any fun p=>decide (p.1=k))=ks.any fun p=>decide (p.1=k)
 | _,_,.nil=>rfl
 | p :: acc,q :: ks,.cons h t=>by rw[kZ,kZ,Acc.any k t,h.1]
theorem Acc.map{H:Hp}{k:List Int}{x:Rat}{v:V}(d:IsD K H (dF x) v):∀ {acc:List (List Int×Rat)}{ks:List (List Int×V)},Acc K H acc ks->Acc K H (acc.map fun p=>if p.1=k then (p.1,x) else p) (ks.map fun p=>if p.1=k then (p.1,v) else p)
 | _,_,.nil => .nil
 | p :: acc,q :: ks,.cons h t=>by
  rw[jj,jj]
  refine .cons ?_ (Acc.map d t)
  by_cases z:p.1=k
  · rw[if_pos z,if_pos (by rw[<- h.1];exact z)];exact⟨h.1,d⟩
  · rw[if_neg z,if_neg (by rw[<- h.1];exact z)];exact h
theorem y6B{α β:Type}{F:α->β->Prop}{x:α}{y:β}(h:F x y):∀ {l:List α}{m:List β},Paired F l m->Paired F (l ++ [x]) (m ++ [y])
 | _,_,.nil => .cons h .nil
 | _,_,.cons g t => .cons g (y6B h t)
theorem Acc.set{H:Hp}{k:List Int}{x:Rat}{v:V}{acc:List (List Int×Rat)}{ks:List (List Int×V)}(a:Acc K H acc ks)(d:IsD K H (dF x) v):Acc K H (y2d acc k x) (y2d ks k v):=by
 unfold y2d
 rw[a.any k]
 split
 · exact a.map d
 · exact y6B ⟨rfl,d⟩ a
theorem y3i{α β:Type}{F:α->β->Prop}{m m':List β}(h:m'.Perm m):∀ {l:List α},Paired F l m->∃ l',l'.Perm l/\Paired F l' m':=by
 induction h with
 | nil=>intro l t;exact⟨l,.refl _,t⟩
 | cons x _ ih =>
  intro l t
  cases t with
  | cons g t =>
   obtain⟨l',h1,h2⟩:=ih t
   exact⟨_ :: l',h1.cons _,.cons g h2⟩
 | swap x y _ =>
  intro l t
  cases t with
  | cons g t =>
   cases t with
   | cons g2 t=>exact⟨_,.swap _ _ _,.cons g2 (.cons g t)⟩
 | trans _ _ ih1 ih2 =>
  intro l t
  obtain⟨l1,h1,t1⟩:=ih2 t
  obtain⟨l2,h2,t2⟩:=ih1 t1
  exact⟨l2,h2.trans h1,t2⟩
theorem z7d{α β:Type}{G:α->β->Prop}:∀ {l:List (List Int×α)}{m:List (List Int×β)},Paired (fun p q=>p.1=q.1/\G p.2 q.2) l m->l.map (·.1)=m.map (·.1)
 | _,_,.nil=>rfl
 | _,_,.cons h t=>by rw[jj,jj,h.1,z7d t]
theorem z5O{H:Hp}:∀ ns:List Int,IsDs K H (ns.map D.int) (ns.map V.int)
 | []=>rfl
 | _ :: ns=>⟨_,_,rfl,rfl,z5O ns⟩
theorem z9q{H:Hp}:∀ {ds:List D}{xs:List V},xs.length=ds.length->(∀ (i:Nat) (x:V) (d:D),xs[i]? = some x->ds[i]? = some d->IsD K H d x)->IsDs K H ds xs
 | [],[],_,_=>rfl
 | d :: ds,x :: xs,hl,k=>⟨x,xs,rfl,k 0 x d rfl rfl,z9q (by simpa using hl) fun i y e h1 h2=>k (i + 1) y e (by simpa using h1) (by simpa using h2)⟩
theorem y7p{H:Hp}{d p:Addr}{ks:List (List Key×V)}{o:HO}{xs:List V}(e:H d=some (.dT ks))(h:SqT K H p xs):SqT K (upd H d o) p xs:=by
 rcases h with (h | ⟨u,h⟩) | h
 · exact .inl (.inl (by rw[z0n fun z=>by rw[z,e]at h;cases h];exact h))
 · exact .inl (.inr ⟨u,by rw[z0n fun z=>by rw[z,e]at h;cases h];exact h⟩)
 · exact .inr h
theorem x0A{H:Hp}{d:Addr}{ks:List (List Key×V)}{o:HO}(e:H d=some (.dT ks))(r:Rat)(v:V)(h:IsD K H (dF r) v):IsD K (upd H d o) (dF r) v:=by
 obtain⟨p,rfl,q⟩:=z4B h
 exact⟨p,_,rfl,y7p e q,_,_,rfl,rfl,_,_,rfl,rfl,rfl⟩
def z5u(K:PySem.W.Frag):Sp:=fun vs H Q _=>∃ (a p:Addr) (xs:List V) (rs:List (List Int×Rat)) (ps:List Int),vs=[.ref a,.ref p]/\SqL K H a xs/\IsDs K H (rs.map z3H) xs/\SqL K H p (ps.map V.int)/\(∀ r∈rs,∀ j∈ps,0<=j/\j < r.1.length)/\ps.length<=100/\rs.length<=60/\(∀ r∈rs,sz r.2)/\(∀ i,∀ g∈gath ps (rs.take i),sz g.2) /\
 ∀ l H' (qs:List (List Int×Rat)),Same H H'->H l=none->qs.Perm (gath ps rs)->qs.Pairwise (fun p q=>HT.lexLt p.1 q.1=true)->IsD K H' (.lst (qs.map z3H)) (.ref l)->Q (.ref l) H'
theorem z9g(B:Bl mg)(z7K:Def P w K mg base "chosen" 1 ["values", "places"] (z7R K))(y4I:Def P w K mg base "plus" 3 ["one", "other"] (y2z K))(F:Fn K mg "gathered" z3x ["rows", "places"]):Def P w K mg base "gathered" 4 ["rows", "places"] (z5u K):=by
 refine F.ok z1Y (fun vs H Q E h=>?_) (fun f cdv A outer s H vs Q E hr h=>?_)
 · obtain⟨a,p,xs,rs,ps,rfl,_⟩:=h;rfl
 obtain⟨a,p,xs,rs,ps,rfl,qa,dxs,qp,hj,hl,h63,hz,hzg,q⟩:=h
 have xl:=dxs.length
 rw[jA]at xl
 refine⟨_,(@z0b _ _ _ _ _ (z0t (i:=2) z1Y.nd rfl (by first | exact Or.inl rfl | exact Or.inr rfl) y5p)
  (@z0b _ _ _ _ _ (z1q PassesOwn.never rfl (z0C (pv 0)) (y3k rfl (z2M (z0E (i:=3) z1Y.nd rfl (by first | exact Or.inl rfl | exact Or.inr rfl)) (z2M (z0E (i:=4) z1Y.nd rfl (by first | exact Or.inl rfl | exact Or.inr rfl)) z8Z))) (@z0b _ _ _ _ _ (z0t (i:=5) z1Y.nd rfl (by first | exact Or.inl rfl | exact Or.inr rfl) (z0r z7K hr rfl (z0a (pv 3) (z0a (pv 1) z0f))))
  (@z0g _ _ _ (z2a (z1l hr) (pv 2) (pv 5) (z5i (z0j (y9S (z1l hr)) (pv 5) (pv 2) (by rfl)) (z0r y4I hr rfl (z0a (z0T (z1l hr) (pv 2) (pv 5) (fun _ _=>rfl)) (z0a (pv 4) z0f))) (pv 4)) rfl))))
  (@z0g _ _ _ (z0o (y5o rfl (z6v hr) rfl B.sorted PyProof.Rows.boot_sorted (pv 2)))))),?_⟩
 intro d hd
 have s0:Same H (upd H d (.dT [])):=z0e hd _
 refine⟨_,rfl,a,rfl,⟨xs,s0.seq qa⟩,?_⟩
 refine z1c (K:=K) (xs:=xs) (fun i σ H'=>Same H H'/\∃ ks c3 c4 c5,σ=[some (.ref a),some (.ref p),some (.ref d),c3,c4,c5]/\H' d=some (.dT (kz ks))/\Acc K H' (gath ps (rs.take i)) ks) ⟨s0,[],none,none,none,rfl,z0c,.nil⟩ (fun i σ H' _ h=>h.1.seq qa) ?_ ?_
 · rintro i x σ H' hx ⟨sm,ks,c3,c4,c5,rfl,ed,ac⟩
   have hi:i < rs.length:=by have:=(jE.mp hx).1;omega
   obtain⟨y,ey,dy⟩:=dxs.get (i:=i) (d:=z3H rs[i]) (by rw[jC,jB hi];rfl)
   obtain rfl:x=y:=by rw[hx]at ey;exact Option.some.inj ey
   obtain⟨t,zs,rfl,qt,v1,_,rfl,d1,v2,_,rfl,d2,rfl⟩:=dy
   obtain⟨t1,ys,rfl,q1,dys⟩:=d1
   rw[z0S dys]at q1
   have tk:rs.take (i + 1)=rs.take i ++ [rs[i]]:=jL hi
   have hzi:=hz _ (jZ hi)
   have hza:=hzg i
   have gl:=y0G ps (rs.take i)
   rw[jg]at gl
   have kl:=ac.length
   rw[tk,z8u]
   refine⟨t,_,rfl,sm.tupq qt,rfl,_,_,rfl,_,_,rfl,rfl,?_⟩
   refine⟨_,rfl,_,rfl,t1,p,_,ps,rfl,sm.tupq q1,sm.seq qp,hj _ (jZ hi),hl,fun t2 H2 n2 s2 e2=>?_⟩
   have ed2:=s2 _ _ ed
   have ac2:Acc K H2 _ _:=ac.mono fun r v h=>h.same s2
   have d2':IsD K H2 (dF rs[i].2) v2:=d2.same (sm.trans s2)
   have kt:H2 t2=some (.tup (((z0W rs[i].1 ps).map (Sum.inl:Int->Key)).map kV)):=by rw[z7u];exact e2
   have get:=DGet.t ed2 kt
   have lz:(kz ks).length < sizeLine:=by rw[jA];exact z2V (by omega)
   have nx:∀ (x:Rat) (v':V) (H3:Hp),Same H2 H3->IsD K H3 (dF x) v'->Same H (upd H3 d (.dT (z3O (kz ks) ((z0W rs[i].1 ps).map Sum.inl) v')))/\(upd H3 d (.dT (z3O (kz ks) ((z0W rs[i].1 ps).map Sum.inl) v'))) d=some (.dT (kz (y2d ks (z0W rs[i].1 ps) v'))) /\
    Acc K (upd H3 d (.dT (z3O (kz ks) ((z0W rs[i].1 ps).map Sum.inl) v'))) (y2d (gath ps (rs.take i)) (z0W rs[i].1 ps) x) (y2d ks (z0W rs[i].1 ps) v'):=fun x v' H3 s3 dv=>by
    refine⟨z0G hd ((sm.trans s2).trans s3),by rw[z0c,x0f],?_⟩
    exact ((ac2.mono fun r v h=>h.same s3).set dv).mono (x0A (s3 _ _ ed2))
   unfold y8O
   refine⟨_,rfl,_,rfl,d,_,rfl,get,_,rfl,?_⟩
   rcases ac2.val (z0W rs[i].1 ps) with ⟨e3,e4⟩ | ⟨r,v,e3,e4,dr⟩
   · rw[e3]
     rw[e4]at get ⊢
     refine z5Z ⟨_,rfl,_,rfl,_,rfl,d,_,rfl,DPut.t ed2 kt lz,?_⟩
     obtain⟨b1,b2,b3⟩:=nx rs[i].2 v2 H2 (Same.refl _) d2'
     exact⟨b1,_,_,_,_,rfl,b2,b3⟩
   · rw[e3]
     rw[e4]at get ⊢
     have zr:sz r:=by
      unfold y4J at e3
      cases ef:(gath ps (rs.take i)).find? fun p=>decide (p.1=z0W rs[i].1 ps) with
      | none=>rw[ef]at e3;cases e3
      | some g =>
       rw[ef]at e3
       cases e3
       exact hza g (List.mem_of_find?_eq_some ef)
     refine y5M ⟨_,rfl,_,rfl,d,v,rfl,get,_,rfl,v,v2,r,rs[i].2,rfl,dr,d2',zr,hzi,fun p3 H3 s3 d3=>⟨_,rfl,_,rfl,d,_,rfl,DPut.t (s3 _ _ ed2) (s3 _ _ kt) lz,?_⟩⟩
     obtain⟨b1,b2,b3⟩:=nx (r + rs[i].2) (.ref p3) H3 s3 d3
     exact⟨b1,_,_,_,_,rfl,b2,b3⟩
 · rintro σ H' ⟨sm,ks,c3,c4,c5,rfl,ed,ac⟩
   rw[xl,jh]at ac
   have gl:=y0G ps rs
   have kl:=ac.length
   refine⟨_,rfl,d,ks,rfl,ed,by omega,fun H2 l qs xs' pm pw s2 nl e2 ln pr=>?_⟩
   obtain⟨acc',h1,h2⟩:=y3i pm ac
   have hk:acc'.map (·.1)=qs.map (·.1):=z7d (G:=fun r v=>IsD K H' (dF r) v) h2
   have al:=h2.length
   refine q l H2 acc' (sm.trans s2) (sm.free nl) h1 ?_ ⟨l,xs',rfl,.of e2,z9q (by rw[jA];omega) fun i x d' e1 e3=>?_⟩
   · have:(qs.map (·.1)).Pairwise fun a b=>HT.lexLt a b=true:=j5.mpr pw
     rw[<- hk]at this
     exact j5.mp this
   · rw[jC]at e3
     cases ea:acc'[i]? with
     | none=>rw[ea]at e3;cases e3
     | some kr =>
      rw[ea]at e3
      cases e3
      obtain⟨kv,e4,e5,e6⟩:=z8d h2 ea
      obtain⟨pp,b,rfl,e7,e8⟩:=pr i x kv e1 e4
      exact⟨pp,_,rfl,.of e7,_,_,rfl,⟨b,_,rfl,.of e8,by rw[<- e5];exact z5O _⟩,_,_,rfl,e6.same s2,rfl⟩
def plc(ns ss:List Str):List Int:=ss.map fun n=>((ns.idxOf n:Nat):Int)
def y4M(K:PySem.W.Frag)(d:Nat):Sp:=fun vs H Q _=>∃ (e:Ex) (x:V) (nm:List Str),vs=[x]/\e.ok/\e.over (fun n=>n∈nm)/\nm.length<=100/\e.high < d/\IsD K H (dE e) x/\∀ p H',H p=none->Same H H'->H' p=some (.lst (e.nms.map V.str))->Q (.ref p) H'
theorem z9e(d:Nat)(B:Bl mg)(F:Fn K mg "names_in" z2y ["e"])(z2G:Def P w K mg base "names_in" (d + 2) ["e"] (y4M K d)):Def P w K mg base "names_in" (d + 3) ["e"] (y4M K (d + 1)):=by
 have hjk:d + 2<=d + 2:=jF _
 refine F.ok z1X (fun vs H Q E h=>?_) (fun f cdv A outer s H vs Q E hr h=>?_)
 · obtain⟨e,x,nm,rfl,_⟩:=h;rfl
 obtain⟨e,x,nm,rfl,ho,hv,h100,hh,dx,q⟩:=h
 refine⟨_,(@z0b _ _ _ _ _ (z0B (z0j (z0x.or (z0z.or (z0A.or (z0w K rfl hr.units)))) (z0s (z0i K rfl) (pv 0) z0d (fun _ _=>rfl)) z0l (z0k _)) (@z0g _ _ _ (z0o (z2n z0f))) z0m)
  (@z0b _ _ _ _ _ (z0B (z0j (z0x.or (z0z.or (z0A.or (z0w K rfl hr.units)))) (z0s (z0i K rfl) (pv 0) z0d (fun _ _=>rfl)) z0l (z0k _)) (@z0g _ _ _ (z0o (z2n (z0a (z0s (z0i K rfl) (pv 0) z0d (fun _ _=>rfl)) z0f)))) z0m)
  (@z0b _ _ _ _ _ (z0t (i:=1) z1X.nd rfl (by first | exact Or.inl rfl | exact Or.inr rfl) (z2n z0f))
  (@z0b _ _ _ _ _ (z1q PassesOwn.never rfl (z6n (z2N ((z3p K rfl).or (z4v K rfl)) (pv 0) (z3c z0d) z4z)) (z0E (i:=2) z1X.nd rfl (by first | exact Or.inl rfl | exact Or.inr rfl)) (@z0g _ _ _ (z1q PassesOwn.never rfl (z0C (z0r z2G hr rfl (z0a (pv 2) z0f) (hjk:=hjk))) (z0E (i:=3) z1X.nd rfl (by first | exact Or.inl rfl | exact Or.inr rfl)) (@z0g _ _ _ (z0B (z0j (z3e.or (z5H K rfl)) (pv 3) (pv 1) (by rfl)) (@z0g _ _ _ (z3b (z7g PySem.F.plainAttrs_list PySem.F.slot_list_append PySem.F.type_list_append z1z (pv 1) (z0a (pv 3) z0f)))) z0m)))))
  (@z0g _ _ _ (z0o (pv 1))))))),?_⟩
 have big:(1000:Nat) < sizeLine:=by decide
 rcases Ex.node2 _ e ho hv with ⟨n,rfl⟩ | ⟨n,rfl⟩ | ⟨sg,cs,rfl,hl,hc⟩
 · obtain⟨t,xs,rfl,qt,_,_,rfl,rfl,_,_,rfl,rfl,rfl⟩:=dx
   walk_at "rd"
   exact fun p hp=>q p _ hp (z0e hp _) z0c
 · obtain⟨t,xs,rfl,qt,_,_,rfl,rfl,_,_,rfl,rfl,rfl⟩:=dx
   walk_at "rd"
   exact⟨by show 1<=sizeLine;decide,fun p hp=>q p _ hp (z0e hp _) z0c⟩
 · have md:=(x0d hl (fun _=>0)).1
   rw[md]at dx
   obtain⟨t,xs,rfl,qt,y,ys,rfl,ey,dys⟩:=dx
   obtain rfl:y = .str sg.str:=ey
   have at0:atI (.str sg.str :: ys) 0=some (.str sg.str):=z0Y (j:=0) rfl
   have yl:=dys.length
   rw[jA]at yl
   refine⟨_,rfl,.inr (.inl ⟨t,_,_,_,rfl,rfl,qt,at0,.inr (.inl ⟨_,_,rfl,rfl,_,rfl,z1C (fun c=>absurd c (z9Y sg)) fun _=>nxt ?_⟩)⟩)⟩
   refine⟨_,rfl,.inr (.inl ⟨t,_,_,_,rfl,rfl,qt,at0,.inr (.inl ⟨_,_,rfl,rfl,_,rfl,z1C (fun c=>absurd c (z6U sg)) fun _=>nxt ?_⟩)⟩)⟩
   refine⟨by show 0<=sizeLine;decide,fun pf hpf=>?_⟩
   have s0:Same H (upd H pf (.lst [])):=z0e hpf _
   have t0:(upd H pf (.lst [])) pf=some (.lst []):=z0c
   obtain⟨H0,eH0⟩:∃ H0,H0=upd H pf (.lst []):=⟨_,rfl⟩
   rw[<- eH0]at s0 t0
   rw[<- eH0]
   have one:¬ (HT.sIx (V.str sg.str :: ys).length 0 (some 1)=0/\HT.sIx (V.str sg.str :: ys).length (V.str sg.str :: ys).length none=(V.str sg.str :: ys).length):=fun h=>by
    have:=h.1
    simp[HT.sIx]at this
   refine⟨_,rfl,_,rfl,.inr ⟨t,_,rfl,s0.tupq qt,one,fun p1 hp1=>⟨p1,rfl,⟨_,.of z0c⟩,?_⟩⟩⟩
   have ecut:y0O (V.str sg.str :: ys) (some 1) none=ys:=z4p _ 1
   rw[ecut]
   have s1:Same H0 (upd H0 p1 (.tup ys)):=z0e hp1 _
   have inN:∀ i,(z4E [] (cs.take i)).Nodup/\∀ x∈z4E [] (cs.take i),x∈nm:=fun i=>z7A (p:=fun n=>n∈nm) _ (fun c hc'=>(hc c (kD hc')).2.1) ⟨j6,fun x hx=>nomatch hx⟩
   refine z7z (K:=K) (xs:=ys) (fun i σ H'=>Same H H'/\SqT K H' p1 ys/\H' pf=some (.lst ((z4E [] (cs.take i)).map V.str))/\∃ c2 c3,σ=[some (.ref t),some (.ref pf),c2,c3])
    ⟨s0.trans s1,.of z0c,s1 _ _ t0,none,none,rfl⟩ (fun i σ H' _ h=>h.2.1) ?_ ?_
   · rintro i x σ H' hx ⟨sm,q1,eF,c2,c3,rfl⟩
     have hi:i < cs.length:=by have:=(jE.mp hx).1;omega
     obtain⟨y,ey,dy⟩:=dys.get (i:=i) (d:=dE cs[i]) (by rw[jC,jB hi];rfl)
     obtain rfl:x=y:=by rw[hx]at ey;exact Option.some.inj ey
     obtain⟨c1,c2',c3'⟩:=hc _ (jZ hi)
     have tk:cs.take (i + 1)=cs.take i ++ [cs[i]]:=jL hi
     refine⟨_,rfl,cs[i],x,nm,rfl,c1,c2',h100,by omega,dy.same sm,fun p2 H2 hp2 s2 e2=>⟨p2,rfl,⟨_,.of e2⟩,?_⟩⟩
     obtain⟨f,ef⟩:∃ f,f=z4E [] (cs.take i):=⟨_,rfl⟩
     have inF:=inN i
     rw[<- ef]at inF eF
     have inC:=z2S _ c2'
     refine z1c (K:=K) (xs:=cs[i].nms.map V.str) (fun j σ H3=>Same H H3/\SqT K H3 p1 ys/\H3 pf=some (.lst (((cs[i].nms.take j).foldl z3m f).map V.str))/\H3 p2=some (.lst (cs[i].nms.map V.str))/\∃ c3,σ=[some (.ref t),some (.ref pf),some x,c3])
      ⟨sm.trans s2,s2.tupq q1,s2 _ _ eF,e2,c3,rfl⟩ (fun j σ H3 _ h => .of h.2.2.2.1) ?_ ?_
     · rintro j z σ H3 hz ⟨sm3,q3,e3,f3,c3,rfl⟩
       have hj:j < cs[i].nms.length:=by have:=(jE.mp hz).1;rwa [jA]at this
       rw[jC,jB hj]at hz
       obtain rfl:z = .str cs[i].nms[j]:=(Option.some.inj hz).symm
       obtain⟨n,en⟩:∃ n,n=cs[i].nms[j]:=⟨_,rfl⟩
       have tj:cs[i].nms.take (j + 1)=cs[i].nms.take j ++ [n]:=by rw[en];exact jL hj
       rw[<- en]
       obtain⟨g,eg⟩:∃ g,g=(cs[i].nms.take j).foldl z3m f:=⟨_,rfl⟩
       have inG:g.Nodup/\∀ x∈g,x∈nm:=by rw[eg];exact z1D (p:=fun n=>n∈nm) _ (fun x hx=>inC.2 x (kD hx)) inF
       have lg:=z2d inG.1 inG.2
       have eg':(cs[i].nms.take (j + 1)).foldl z3m f=z3m g n:=by rw[tj,kI,<- eg];rfl
       rw[<- eg]at e3
       refine⟨_,rfl,_,rfl,.inr ⟨pf,_,rfl,.inl (.of e3),rfl,z4o _,_,rfl,?_⟩⟩
       show if (!inV (.str n) (g.map V.str))=true then _ else _
       rw[z7x]
       refine z3T (fun c=>?_) (fun c=>?_)
       · refine⟨_,rfl,.inl ⟨rfl,_,.of e3⟩,_,rfl,pf,_,_,rfl,rfl,e3,by rw[jA];omega,?_⟩
         refine⟨z0G hpf sm3,SqT.updL e3 q3,?_,?_,_,rfl⟩
         · rw[z0c,eg'];unfold z3m;rw[if_neg c,je];rfl
         · rw[z0n (fun z=>by rw[z]at hp2;rw[hp2]at eF;cases eF)];exact f3
       · refine nxt ⟨sm3,q3,?_,f3,_,rfl⟩
         rw[e3,eg'];unfold z3m;rw[if_pos c]
     · rintro σ H3 ⟨sm3,q3,e3,f3,c3,rfl⟩
       refine⟨sm3,q3,?_,_,_,rfl⟩
       rw[jA,jh]at e3
       rw[e3,tk,z6w,<- ef]
   · rintro σ H' ⟨sm,q1,eF,c2,c3,rfl⟩
     rw[yl,jh]at eF
     refine⟨_,rfl,q pf H' hpf sm ?_⟩
     rw[y3B hl]
     exact eF
theorem z5I(B:Bl mg)(F:Fn K mg "names_in" z2y ["e"]):∀ d,Def P w K mg base "names_in" (d + 2) ["e"] (y4M K d)
 | 0=>by
  refine F.ok z1X (fun vs H Q E h=>?_) (fun f cdv A outer s H vs Q E hr h=>?_)
  · obtain⟨e,x,nm,rfl,_⟩:=h;rfl
  · obtain⟨e,x,nm,rfl,_,_,_,hh,_⟩:=h
    exact absurd hh (kL _)
 | d + 1=>z9e d B F (z5I B F d)
def cell(ns:List Int)(k:Int):Int:=ns.getD k.toNat 0
def y2F:Sp:=fun vs H Q _=>∃ a ns k,vs=[.ref a,.int k]/\SqL K H a (ns.map V.int)/\0<=k/\Q (.int (cell ns k)) H
theorem y8a(B:Bl mg)(F:Fn K mg "_law_cell_at" z2L ["_law_script", "_law_k"]):Def P w K mg base "_law_cell_at" 1 ["_law_script", "_law_k"] (y2F (K:=K)):=by
 refine F.ok z7Y (fun vs H Q E h=>?_) (fun f cdv A outer s H vs Q E hr h=>?_)
 · obtain⟨a,ns,k,rfl,_⟩:=h;rfl
 obtain⟨a,ns,k,rfl,hS,hk,q⟩:=h
 refine⟨_,(@z0b _ _ _ _ _ (z0B (z0j y1s (pv 1) (z0u (z1a K rfl) rfl B.len PySem.boot_len (z0a (pv 0) z0f)) (z0k _)) (@z0g _ _ _ (z0o (z0s (z0i K rfl) (pv 0) (pv 1) (fun _ _=>rfl)))) z0m)
  (@z0g _ _ _ (z0o z0d))),?_⟩
 refine⟨_,rfl,_,rfl,_,_,rfl,z2U hS,_,_,rfl,rfl,_,rfl,?_⟩
 have hl:(ns.map V.int).length=ns.length:=jA _
 refine z1C (fun c=>?_) (fun c=>?_)
 · rw[hl]at c
   refine⟨_,rfl,_,rfl,.inl ⟨a,_,_,.int (cell ns k),rfl,rfl,hS,?_,q⟩⟩
   have hk':k.toNat < ns.length:=by omega
   have e:k=((k.toNat:Nat):Int):=by omega
   rw[e]
   refine z0Y ?_
   rw[jC,jB hk']
   show some (V.int ns[k.toNat])=some (V.int (ns.getD _ 0))
   rw[<- e]
   simp[List.getD,hk']
 · rw[hl]at c
   have e:cell ns k=0:=by
    unfold cell
    rw[jM,kJ (by omega)];rfl
   rw[e]at q
   exact q
inductive Rw where
 | draw (n:Str) (os:List D) | lt (n:Str) (e:Ex) | seen (e:Ex)
def dR:Rw->D
 | .draw n os => .tup [.str "draw",.str n,.lst os]
 | .lt n e => .tup [.str "let",.str n,dE e]
 | .seen e => .tup [.str "seen",dE e]
def Rw.reads:Rw->List Str
 | .lt _ e=>e.nms
 | .seen e=>e.nms
 | _=>[]
def Ex.rds:Ex->List Str
 | .num _=>[]
 | .nam x=>[x]
 | .un a=>a.rds
 | .bi _ a b=>a.rds ++ b.rds
 | .pick c a b=>c.rds ++ (a.rds ++ b.rds)
theorem y5J{f:List Str}{n x:Str}:x∈z3m f n↔x∈f\/x=n:=by
 unfold z3m
 split
 · rename_i h
   exact⟨.inl,fun z=>z.elim id fun e=>e ▸ h⟩
 · simp
theorem z2e{x:Str}:∀ (l:List Str) {f:List Str},x∈l.foldl z3m f↔x∈f\/x∈l
 | [],f=>by simp
 | n :: l,f=>by rw[List.foldl_cons,z2e l,y5J,jH,or_assoc]
theorem z2t{x:Str}:∀ e:Ex,x∈e.nms↔x∈e.rds
 | .num _=>Iff.rfl
 | .nam _=>Iff.rfl
 | .un a=>by show x∈a.nms.foldl z3m []↔x∈a.rds;rw[z2e,z2t a];simp
 | .bi s a b=>by show x∈b.nms.foldl z3m (a.nms.foldl z3m [])↔x∈a.rds ++ b.rds;rw[z2e,z2e,z2t a,z2t b];simp
 | .pick c a b=>by show x∈b.nms.foldl z3m (a.nms.foldl z3m (c.nms.foldl z3m []))↔x∈c.rds ++ (a.rds ++ b.rds);rw[z2e,z2e,z2e,z2t a,z2t b,z2t c];simp[or_assoc]
theorem z0O{p:Str->Prop}:∀ e:Ex,e.over p↔∀ x∈e.rds,p x
 | .num _=>⟨fun _ x hx=>(nomatch hx),fun _=>trivial⟩
 | .nam y=>⟨fun h x hx=>(by
  have:x=y:=by simpa [Ex.rds] using hx
  rw[this];exact h),fun h=>h y (by simp[Ex.rds])⟩
 | .un a=>z0O a
 | .bi s a b=>by
  show a.over p/\b.over p↔∀ x∈a.rds ++ b.rds,p x
  rw[z0O a,z0O b]
  exact⟨fun h x hx=>(ji.mp hx).elim (h.1 x) (h.2 x),fun h=>⟨fun x hx=>h x (kO _ hx),fun x hx=>h x (ja _ hx)⟩⟩
 | .pick c a b=>by
  show c.over p/\a.over p/\b.over p↔∀ x∈c.rds ++ (a.rds ++ b.rds),p x
  rw[z0O c,z0O a,z0O b]
  exact⟨fun h x hx=>(ji.mp hx).elim (h.1 x) fun hx=>(ji.mp hx).elim (h.2.1 x) (h.2.2 x),fun h=>⟨fun x hx=>h x (kO _ hx),fun x hx=>h x (ja _ (kO _ hx)),fun x hx=>h x (ja _ (ja _ hx))⟩⟩
def y8C(e:Ex):Prop:=e.ok/\e.high < 10/\e.rds.length<=12
theorem z3f{e:Ex}(h:y8C e):e.nms.length<=12:=by
 have o:e.over (fun n=>n∈e.rds):=(z0O e).mpr fun _ h=>h
 obtain⟨h1,h2⟩:=z2S e o
 exact jc (z2d h1 h2) h.2.2
def dO(W:Int)(p:Int×Int):D := .tup [.int p.1,.tup [.int (Rat.divInt p.2 W).num,.int ((Rat.divInt p.2 W).den:Int)]]
def y6i(os:List D):Prop:=∃ (l:List (Int×Int)) (W:Int),os=l.map (dO W)/\(l.map Prod.fst).Nodup/\(∀ p∈l,1<=p.2/\p.2<=10 ^ 9)/\(l.map Prod.snd).sum=W/\1<=W/\l.length<=6
def Rw.fine:Rw->Prop
 | .draw _ os=>D.deeps os<=10/\D.noLs os=true/\y6i os
 | .lt _ e=>y8C e
 | .seen e=>y8C e
def Rw.giv:Rw->List Str
 | .draw n _=>[n]
 | .lt n _=>[n]
 | _=>[]
theorem z8b{r:Rw}(h:r.fine):r.reads.length<=12:=by
 cases r with
 | draw n os=>exact jR _
 | lt n e=>exact z3f h
 | seen e=>exact z3f h
def givs(rs:List Rw):List Str:=rs.flatMap Rw.giv
theorem z2C(rs:List Rw)(r:Rw):givs (rs ++ [r])=givs rs ++ r.giv:=by unfold givs;rw[List.flatMap_append];simp
theorem z5m:∀ rs:List Rw,(givs rs).length<=rs.length
 | []=>jR _
 | r :: rs=>by
  have h:=z5m rs
  have h1:r.giv.length<=1:=by cases r <;> first | exact jF 1 | exact jR _
  show (r.giv ++ givs rs).length<=rs.length + 1
  rw[jJ];omega
theorem z4m{rs:List Rw}{i:Nat}{x:Str}(h:x∈givs (rs.take i)):x∈givs rs:=by
 unfold givs at *
 obtain⟨r,h1,h2⟩:=List.mem_flatMap.mp h
 exact List.mem_flatMap.mpr ⟨r,kD h1,h2⟩
def wfs(rs:List Rw):Prop:=∀ i r,rs[i]? = some r->∀ x∈r.reads,x∈givs (rs.take i)
theorem y4R{rs:List Rw}{r:Rw}(h:wfs rs)(hr:∀ x∈r.reads,x∈givs rs):wfs (rs ++ [r]):=fun i r' e x hx=>by
 by_cases hi:i < rs.length
 · rw[kG hi]at e
   rw[List.take_append_of_le_length (by omega)]
   exact h i r' e x hx
 · have hi':i=rs.length:=by
    have:=(jE.mp e).1
    rw[jJ,ju]at this
    omega
   subst hi'
   rw[kC (jF _),Nat.sub_self]at e
   have e':r=r':=Option.some.inj e
   subst e'
   rw[List.take_left]
   exact hr x hx
def y2r(ks:List Str):Rw->List Str
 | .draw n _=>y0Y ks n
 | .lt n _=>y0Y ks n
 | .seen _=>ks
def z5Y(rs:List Rw):List Str:=rs.foldl y2r []
theorem z2B(rs:List Rw)(r:Rw):z5Y (rs ++ [r])=y2r (z5Y rs) r:=by unfold z5Y;rw[kI];rfl
theorem z5c{P:List Rw->Prop}(h0:P [])(h1:∀ rs r,P rs->P (rs ++ [r])):∀ n (rs:List Rw),rs.length=n->P rs
 | 0,rs,h=>by rw[jk.mp h];exact h0
 | n + 1,rs,h=>by
  have hn:rs≠[]:=fun z=>by rw[z]at h;cases h
  rw[<- j3 hn]
  exact h1 _ _ (z5c h0 h1 n _ (by rw[List.length_dropLast,h];rfl))
theorem z2O{x:Str}(rs:List Rw):x∈z5Y rs↔x∈givs rs:=by
 refine z5c (P:=fun rs=>x∈z5Y rs↔x∈givs rs) Iff.rfl (fun rs r ih=>?_) _ rs rfl
 rw[z2B,z2C,ji,<- ih]
 cases r with
 | draw n os=>show x∈y0Y _ n↔_\/x∈[n];rw[z3B,jP]
 | lt n e=>show x∈y0Y _ n↔_\/x∈[n];rw[z3B,jP]
 | seen e=>exact⟨.inl,fun h=>h.elim id fun h=>(nomatch h)⟩
theorem y3y(rs:List Rw):(z5Y rs).Nodup:=by
 refine z5c (P:=fun rs=>(z5Y rs).Nodup) j6 (fun rs r ih=>?_) _ rs rfl
 rw[z2B]
 cases r with
 | draw n os=>exact y3z ih
 | lt n e=>exact y3z ih
 | seen e=>exact ih
theorem y0e{H:Hp}{r:Rw}{x:V}(h:IsD K H (dR r) x):(∃ n os t y,r = .draw n os/\x = .ref t/\SqT K H t [.str "draw",.str n,y])\/(∃ n e t y,r = .lt n e/\x = .ref t/\SqT K H t [.str "let",.str n,y]/\IsD K H (dE e) y)\/∃ e t y,r = .seen e/\x = .ref t/\SqT K H t [.str "seen",y]/\IsD K H (dE e) y:=by
 cases r with
 | draw n os =>
  obtain⟨a,xs,rfl,qa,_,_,rfl,rfl,_,_,rfl,rfl,y,_,rfl,dy,rfl⟩:=h
  exact .inl ⟨n,os,a,y,rfl,rfl,qa⟩
 | lt n e =>
  obtain⟨a,xs,rfl,qa,_,_,rfl,rfl,_,_,rfl,rfl,y,_,rfl,dy,rfl⟩:=h
  exact .inr (.inl ⟨n,e,a,y,rfl,rfl,qa,dy⟩)
 | seen e =>
  obtain⟨a,xs,rfl,qa,_,_,rfl,rfl,y,_,rfl,dy,rfl⟩:=h
  exact .inr (.inr ⟨e,a,y,rfl,rfl,qa,dy⟩)
theorem z6c{x:V}{l:List V}:atI (x :: l) 0=some x:=z0Y (j:=0) rfl
theorem y4u{x y:V}{l:List V}:atI (x :: y :: l) 1=some y:=z0Y (j:=1) rfl
theorem y8Z{x y z:V}{l:List V}:atI (x :: y :: z :: l) 2=some z:=z0Y (j:=2) rfl
def z6K(K:PySem.W.Frag):Sp:=fun vs H Q _=>∃ (x:V) (r:Rw),vs=[x]/\IsD K H (dR r) x/\r.fine/\∀ (p:Addr) (H':Hp),Same H H'->H p=none->H' p=some (.lst (r.reads.map V.str))->Q (.ref p) H'
theorem z7k(B:Bl mg)(z2G:Def P w K mg base "names_in" 12 ["e"] (y4M K 10))(F:Fn K mg "names_read" z2k ["row"]):Def P w K mg base "names_read" 13 ["row"] (z6K K):=by
 refine F.ok z6W (fun vs H Q E h=>?_) (fun f cdv A outer s H vs Q E hr h=>?_)
 · obtain⟨x,r,rfl,_⟩:=h;rfl
 obtain⟨x,r,rfl,dx,hf,q⟩:=h
 refine⟨_,(@z0b _ _ _ _ _ (z0B (z0j (z0x.or (z0z.or (z0A.or (z0w K rfl hr.units)))) (z0s (z0i K rfl) (pv 0) z0d (fun _ _=>rfl)) z0l (z0k _)) (@z0g _ _ _ (z0o (z2n z0f))) z0m)
  (@z0g _ _ _ (z0o (z0r z2G hr rfl (z0a (z0s (z0i K rfl) (pv 0) (y5n z9Q z0d) (fun _ _=>rfl)) z0f))))),?_⟩
 rcases y0e dx with ⟨n,os,a,y,rfl,rfl,qa⟩ | ⟨n,e,a,y,rfl,rfl,qa,dy⟩ | ⟨e,a,y,rfl,rfl,qa,dy⟩
 · refine⟨_,rfl,.inr (.inl ⟨a,_,_,_,rfl,rfl,qa,z6c,.inr (.inl ⟨_,_,rfl,rfl,_,rfl,z1C (fun _=>?_) (fun c=>absurd rfl c)⟩)⟩)⟩
   exact⟨by show 0<=sizeLine;decide,fun p hp=>q p _ (z0e hp _) hp z0c⟩
 · refine⟨_,rfl,.inr (.inl ⟨a,_,_,_,rfl,rfl,qa,z6c,.inr (.inl ⟨_,_,rfl,rfl,_,rfl,z1C (fun c=>absurd c (by decide)) (fun _=>nxt ?_)⟩)⟩)⟩
   exact⟨_,rfl,_,rfl,.inr (.inl ⟨a,_,_,_,rfl,rfl,qa,z5o [V.str "let",V.str n] y,e,y,e.rds,rfl,hf.1,(z0O e).mpr fun _ h=>h,jc hf.2.2 (by decide),hf.2.1,dy,fun p H' hp s' e'=>q p H' s' hp e'⟩)⟩
 · refine⟨_,rfl,.inr (.inl ⟨a,_,_,_,rfl,rfl,qa,z6c,.inr (.inl ⟨_,_,rfl,rfl,_,rfl,z1C (fun c=>absurd c (by decide)) (fun _=>nxt ?_)⟩)⟩)⟩
   exact⟨_,rfl,_,rfl,.inr (.inl ⟨a,_,_,_,rfl,rfl,qa,z5o [V.str "seen"] y,e,y,e.rds,rfl,hf.1,(z0O e).mpr fun _ h=>h,jc hf.2.2 (by decide),hf.2.1,dy,fun p H' hp s' e'=>q p H' s' hp e'⟩)⟩
structure Sheet (K:PySem.W.Frag) (H:Hp) (t:Addr) (rs:List Rw):Prop where
 ok:∃ pe rl al xs,SqT K H t [pe,.ref rl,al]/\SqL K H rl xs/\IsDs K H (rs.map dR) xs
 fine:∀ r∈rs,r.fine
 wf:wfs rs
 len:rs.length<=63
theorem Sheet.same{H H':Hp}{t:Addr}{rs:List Rw}(h:Sheet K H t rs)(s:Same H H'):Sheet K H' t rs:=by
 obtain⟨⟨pe,rl,al,xs,h1,h2,h3⟩,f,w,l⟩:=h
 exact⟨⟨pe,rl,al,xs,s.tupq h1,s.seq h2,h3.same s⟩,f,w,l⟩
theorem z2g{H:Hp}:∀ {ds:List D}{xs:List V},IsDs K H ds xs->∀ {i:Nat}{d:D}{x:V},ds[i]? = some d->xs[i]? = some x->IsD K H d x
 | _ :: _,_,⟨y,ys,rfl,h1,h2⟩,0,_,_,e1,e2=>by simp at e1 e2;subst e1 e2;exact h1
 | _ :: _,_,⟨y,ys,rfl,h1,h2⟩,i + 1,_,_,e1,e2=>z2g h2 (i:=i) (by simpa using e1) (by simpa using e2)
def hd(s:Sg)(ns:List Int):Bool:=match s,ns with
 | .neg,[a]=>decide (a=0)
 | .lt,[a,b]=>decide (a < b)
 | .eq,[a,b]=>decide (a=b)
 | .conj,[a,b]=>decide (a≠0) && decide (b≠0)
 | _,[a,b]=>decide (a≠0) || decide (b≠0)
 | _,_=>false
def x0W:Sg->Bool
 | .add=>false | .sub=>false | .pick=>false | _=>true
theorem y3x(a:Int):(!decide (a=0))=decide (a≠0):=by simp
def y2I(K:PySem.W.Frag):Sp:=fun vs H Q _=>∃ (s:Sg) (p:Addr) (ns:List Int),vs=[.str s.str,.ref p]/\SqL K H p (ns.map V.int)/\ns.length=s.many/\x0W s=true/\Q (.bl (hd s ns)) H
theorem y5B(B:Bl mg)(F:Fn K mg "holds" z7a ["sign", "numbers"]):Def P w K mg base "holds" 1 ["sign", "numbers"] (y2I K):=by
 refine F.ok y5d (fun vs H Q E h=>?_) (fun f cdv A outer s H vs Q E hr h=>?_)
 · obtain⟨s,p,ns,rfl,_⟩:=h;rfl
 obtain⟨sg,p,ns,rfl,hS,hl,hh,q⟩:=h
 refine⟨_,(@z0b _ _ _ _ _ (z0B (z0j (z0x.or (z0z.or (z0A.or (z0w K rfl hr.units)))) (pv 0) z0l (z0k _)) (@z0g _ _ _ (z0o (z1f (z0x.or (z0z.or (z0A.or (z0w K rfl hr.units)))) (z0s (z0i K rfl) (pv 1) z0d (fun _ _=>rfl)) z0d (z0k _)))) z0m)
  (@z0b _ _ _ _ _ (z0B (z0j (z0x.or (z0z.or (z0A.or (z0w K rfl hr.units)))) (pv 0) z0l (z0k _)) (@z0g _ _ _ (z0o (z1f y1s (z0s (z0i K rfl) (pv 1) z0d (fun _ _=>rfl)) (z0s (z0i K rfl) (pv 1) z0d (fun _ _=>rfl)) (z0k _)))) z0m)
  (@z0b _ _ _ _ _ (z0B (z0j (z0x.or (z0z.or (z0A.or (z0w K rfl hr.units)))) (pv 0) z0l (z0k _)) (@z0g _ _ _ (z0o (z1f (z0x.or (z0z.or (z0A.or (z0w K rfl hr.units)))) (z0s (z0i K rfl) (pv 1) z0d (fun _ _=>rfl)) (z0s (z0i K rfl) (pv 1) z0d (fun _ _=>rfl)) (z0k _)))) z0m)
  (@z0b _ _ _ _ _ (z0B (z0j (z0x.or (z0z.or (z0A.or (z0w K rfl hr.units)))) (pv 0) z0l (z0k _)) (@z0g _ _ _ (z0o (y3o (z1f (z1r.or (z1v.or (z1x.or (z1w K rfl hr.units)))) (z0s (z0i K rfl) (pv 1) z0d (fun _ _=>rfl)) z0d (z0k _)) (z8g (z1f (z1r.or (z1v.or (z1x.or (z1w K rfl hr.units)))) (z0s (z0i K rfl) (pv 1) z0d (fun _ _=>rfl)) z0d (z0k _)))))) z0m)
  (@z0g _ _ _ (z0o (y9M (z1f (z1r.or (z1v.or (z1x.or (z1w K rfl hr.units)))) (z0s (z0i K rfl) (pv 1) z0d (fun _ _=>rfl)) z0d (z0k _)) (z8g (z1f (z1r.or (z1v.or (z1x.or (z1w K rfl hr.units)))) (z0s (z0i K rfl) (pv 1) z0d (fun _ _=>rfl)) z0d (z0k _)))))))))),?_⟩
 have at0:∀ {a:Int}{r:List Int},ns=a :: r->atI (ns.map V.int) 0=some (.int a):=fun e=>by rw[e];exact z0Y (j:=0) rfl
 have at1:∀ {a b:Int}{r:List Int},ns=a :: b :: r->atI (ns.map V.int) 1=some (.int b):=fun e=>by rw[e];exact z0Y (j:=1) rfl
 cases sg with
 | add=>cases hh
 | sub=>cases hh
 | pick=>cases hh
 | neg =>
  match ns,hl with
  | [a],_ =>
   walk_at "rd"
   exact .inl ⟨p,_,_,_,rfl,rfl,hS,at0 rfl,.inl ⟨_,_,rfl,rfl,q⟩⟩
 | lt =>
  obtain⟨a,b,rfl⟩:=z2T hl
  walk_at "rd"
  exact .inl ⟨p,_,_,_,rfl,rfl,hS,at0 rfl,_,rfl,.inl ⟨p,_,_,_,rfl,rfl,hS,at1 rfl,_,_,rfl,rfl,q⟩⟩
 | eq =>
  obtain⟨a,b,rfl⟩:=z2T hl
  walk_at "rd"
  exact .inl ⟨p,_,_,_,rfl,rfl,hS,at0 rfl,_,rfl,.inl ⟨p,_,_,_,rfl,rfl,hS,at1 rfl,.inl ⟨_,_,rfl,rfl,q⟩⟩⟩
 | conj =>
  obtain⟨a,b,rfl⟩:=z2T hl
  walk_at "rd"
  refine .inl ⟨p,_,_,_,rfl,rfl,hS,at0 rfl,.inl ⟨_,_,rfl,rfl,_,rfl,z3T (fun c=>?_) (fun c=>?_)⟩⟩
  · have e:hd .conj [a,b] = !decide (b=0):=by show (decide (a≠0) && decide (b≠0))=_;simp[c]
    rw[e]at q
    exact⟨_,rfl,.inl ⟨p,_,_,_,rfl,rfl,hS,at1 rfl,.inl ⟨_,_,rfl,rfl,q⟩⟩⟩
  · have e:hd .conj [a,b]=false:=by show (decide (a≠0) && decide (b≠0))=_;simp[c]
    rw[e]at q
    exact q
 | disj =>
  obtain⟨a,b,rfl⟩:=z2T hl
  walk_at "rd"
  refine .inl ⟨p,_,_,_,rfl,rfl,hS,at0 rfl,.inl ⟨_,_,rfl,rfl,_,rfl,z3T (fun c=>?_) (fun c=>?_)⟩⟩
  · have e:hd .disj [a,b]=true:=by show (decide (a≠0) || decide (b≠0))=_;simp[c]
    rw[e]at q
    exact q
  · have e:hd .disj [a,b] = !decide (b=0):=by show (decide (a≠0) || decide (b≠0))=_;simp[c]
    rw[e]at q
    exact⟨_,rfl,.inl ⟨p,_,_,_,rfl,rfl,hS,at1 rfl,.inl ⟨_,_,rfl,rfl,q⟩⟩⟩
def y2G(K:PySem.W.Frag):Sp:=fun vs H Q _=>∃ (s:Sg) (p:Addr) (ns:List Int),vs=[.str s.str,.ref p]/\SqL K H p (ns.map V.int)/\ns.length=s.many/\Q (.int (rkL s ns)) H
theorem z9d(B:Bl mg)(F:Fn K mg "reckoned" z3t ["sign", "numbers"])(z9H:Def P w K mg base "holds" 1 ["sign", "numbers"] (y2I K)):Def P w K mg base "reckoned" 2 ["sign", "numbers"] (y2G K):=by
 refine F.ok z8T (fun vs H Q E h=>?_) (fun f cdv A outer s H vs Q E hr h=>?_)
 · obtain⟨s,p,ns,rfl,_⟩:=h;rfl
 obtain⟨sg,p,ns,rfl,hS,hl,q⟩:=h
 refine⟨_,(@z0b _ _ _ _ _ (z0B (z0j (z0x.or (z0z.or (z0A.or (z0w K rfl hr.units)))) (pv 0) z0l (z0k _)) (@z0g _ _ _ (z0o (z0p (z0R.or (z0q.or (z0Q.or (z0y K rfl)))) (z0s (z0i K rfl) (pv 1) z0d (fun _ _=>rfl)) (z0s (z0i K rfl) (pv 1) z0d (fun _ _=>rfl))))) z0m)
  (@z0b _ _ _ _ _ (z0B (z0j (z0x.or (z0z.or (z0A.or (z0w K rfl hr.units)))) (pv 0) z0l (z0k _)) (@z0g _ _ _ (z0o (z0p z8h (z0s (z0i K rfl) (pv 1) z0d (fun _ _=>rfl)) (z0s (z0i K rfl) (pv 1) z0d (fun _ _=>rfl))))) z0m)
  (@z0b _ _ _ _ _ (z0B (z0j (z0x.or (z0z.or (z0A.or (z0w K rfl hr.units)))) (pv 0) z0l (z0k _)) (@z0g _ _ _ (z0o (z5i (z0j (z1r.or (z1v.or (z1x.or (z1w K rfl hr.units)))) (z0s (z0i K rfl) (pv 1) z0d (fun _ _=>rfl)) z0d (z0k _)) (z0s (z0i K rfl) (pv 1) z0d (fun _ _=>rfl)) (z0s (z0i K rfl) (pv 1) z0d (fun _ _=>rfl))))) z0m)
  (@z0g _ _ _ (z0o (z5i (z1Z (z0r z9H hr rfl (z0a (pv 0) (z0a (pv 1) z0f)))) z0d z0d)))))),?_⟩
 have at0:∀ {a:Int}{r:List Int},ns=a :: r->atI (ns.map V.int) 0=some (.int a):=fun e=>by rw[e];exact z0Y (j:=0) rfl
 have at1:∀ {a b:Int}{r:List Int},ns=a :: b :: r->atI (ns.map V.int) 1=some (.int b):=fun e=>by rw[e];exact z0Y (j:=1) rfl
 have at2:∀ {a b c:Int}{r:List Int},ns=a :: b :: c :: r->atI (ns.map V.int) 2=some (.int c):=fun e=>by rw[e];exact z0Y (j:=2) rfl
 have fin:∀ (b:Bool),rkL sg ns=b2n b->if b=true then Q (.int 1) H else Q (.int 0) H:=fun b e=>by
  rw[e]at q
  cases b with
  | true=>exact y5M q
  | false=>exact z5Z q
 cases sg with
 | add =>
  obtain⟨a,b,rfl⟩:=z2T hl
  walk_at "rd"
  exact .inl ⟨p,_,_,_,rfl,rfl,hS,at0 rfl,_,rfl,.inl ⟨p,_,_,_,rfl,rfl,hS,at1 rfl,.inl ⟨_,_,rfl,rfl,q⟩⟩⟩
 | sub =>
  obtain⟨a,b,rfl⟩:=z2T hl
  walk_at "rd"
  exact .inl ⟨p,_,_,_,rfl,rfl,hS,at0 rfl,_,rfl,.inl ⟨p,_,_,_,rfl,rfl,hS,at1 rfl,_,_,rfl,rfl,q⟩⟩
 | pick =>
  match ns,hl with
  | [a,b,c],_ =>
   walk_at "rd"
   refine .inl ⟨p,_,_,_,rfl,rfl,hS,at0 rfl,.inl ⟨_,_,rfl,rfl,_,rfl,z3T (fun z=>?_) (fun z=>?_)⟩⟩
   · have e:rkL .pick [a,b,c]=b:=if_pos z
     rw[e]at q
     exact⟨_,rfl,.inl ⟨p,_,_,_,rfl,rfl,hS,at1 rfl,q⟩⟩
   · have e:rkL .pick [a,b,c]=c:=if_neg (fun h=>h z)
     rw[e]at q
     exact⟨_,rfl,.inl ⟨p,_,_,_,rfl,rfl,hS,at2 rfl,q⟩⟩
 | neg =>
  match ns,hl with
  | [a],_ =>
   walk_at "rd"
   exact⟨.neg,p,[a],rfl,hS,rfl,rfl,_,rfl,fin _ rfl⟩
 | lt =>
  obtain⟨a,b,rfl⟩:=z2T hl
  walk_at "rd"
  exact⟨.lt,p,[a,b],rfl,hS,rfl,rfl,_,rfl,fin _ rfl⟩
 | eq =>
  obtain⟨a,b,rfl⟩:=z2T hl
  walk_at "rd"
  exact⟨.eq,p,[a,b],rfl,hS,rfl,rfl,_,rfl,fin _ rfl⟩
 | conj =>
  obtain⟨a,b,rfl⟩:=z2T hl
  walk_at "rd"
  exact⟨.conj,p,[a,b],rfl,hS,rfl,rfl,_,rfl,fin _ rfl⟩
 | disj =>
  obtain⟨a,b,rfl⟩:=z2T hl
  walk_at "rd"
  exact⟨.disj,p,[a,b],rfl,hS,rfl,rfl,_,rfl,fin _ rfl⟩
def z6N(K:PySem.W.Frag)(d:Nat):Sp:=fun vs H Q _=>∃ (e:Ex) (x:V) (pb:Addr) (kvs:List (Key×V)) (ρ:Str->Int),vs=[x,.ref pb]/\e.ok/\e.over (fun n=>z4V kvs (.inr n)=some (.int (ρ n)))/\e.high < d/\IsD K H (dE e) x/\H pb=some (.dK kvs)/\∀ H',Same H H'->Q (.int (ev ρ e)) H'
theorem y5w(d:Nat)(B:Bl mg)(F:Fn K mg "value" z5z ["e", "book"])(z1T:Def P w K mg base "reckoned" 2 ["sign", "numbers"] (y2G K))(z5T:Def P w K mg base "value" (d + 2) ["e", "book"] (z6N K d)):Def P w K mg base "value" (d + 3) ["e", "book"] (z6N K (d + 1)):=by
 have hjk:d + 2<=d + 2:=jF _
 have hj_reckoned:2<=d + 2:=by omega
 refine F.ok z9Z (fun vs H Q E h=>?_) (fun f cdv A outer s H vs Q E hr h=>?_)
 · obtain⟨e,x,pb,kvs,ρ,rfl,_⟩:=h;rfl
 obtain⟨e,x,pb,kvs,ρ,rfl,ho,hv,hh,dx,hB,q⟩:=h
 refine⟨_,(@z0b _ _ _ _ _ (z0B (z0j (z0x.or (z0z.or (z0A.or (z0w K rfl hr.units)))) (z0s (z0i K rfl) (pv 0) z0d (fun _ _=>rfl)) z0l (z0k _)) (@z0g _ _ _ (z0o (z0s (z0i K rfl) (pv 0) z0d (fun _ _=>rfl)))) z0m)
  (@z0b _ _ _ _ _ (z0B (z0j (z0x.or (z0z.or (z0A.or (z0w K rfl hr.units)))) (z0s (z0i K rfl) (pv 0) z0d (fun _ _=>rfl)) z0l (z0k _)) (@z0g _ _ _ (z0o (z0T (z1l hr) (pv 1) (z0s (z0i K rfl) (pv 0) z0d (fun _ _=>rfl)) (fun _ _=>rfl)))) z0m)
  (@z0g _ _ _ (z0o (z0r z1T hr rfl (z0a (z0s (z0i K rfl) (pv 0) z0d (fun _ _=>rfl)) (z0a (z1u (CompOk.of (x := "part") (M:=["book"]) (ix:=[1]) rfl rfl (by decide +kernel) (by decide +kernel) rfl ⟨rfl,trivial⟩ (by rfl) ⟨⟨rfl,rfl,rfl,rfl⟩,trivial⟩) rfl (by decide +kernel) (z6n (z2N ((z3p K rfl).or (z4v K rfl)) (pv 0) (z3c z0d) z4z)) (fun _ _ _ _ _=>z0V) (fun _ _ _ _ _=>(z0r z5T hr rfl (z0a (pv 0) (z0a (pv 1) z0f)) (hjk:=hjk)))) z0f)) (hjk:=hj_reckoned)))))),?_⟩
 rcases Ex.node ρ _ e ho hv with ⟨n,rfl⟩ | ⟨n,rfl⟩ | ⟨sg,cs,ed,ee,hl,hc⟩
 · obtain⟨t,xs,rfl,qt,_,_,rfl,rfl,_,_,rfl,rfl,rfl⟩:=dx
   walk_at "rd"
   exact q H (Same.refl _)
 · obtain⟨t,xs,rfl,qt,_,_,rfl,rfl,_,_,rfl,rfl,rfl⟩:=dx
   walk_at "rd"
   have e:some (V.int (ρ n))=z4V kvs (.inr n):=Eq.symm hv
   exact⟨pb,_,rfl,.inl ⟨kvs,.inr n,.inl hB,rfl,e⟩,q H (Same.refl _)⟩
 · rw[ed]at dx
   obtain⟨t,xs,rfl,qt,y,ys,rfl,ey,dys⟩:=dx
   obtain rfl:y = .str sg.str:=ey
   have at0:atI (.str sg.str :: ys) 0=some (.str sg.str):=z0Y (j:=0) rfl
   refine⟨_,rfl,.inr (.inl ⟨t,_,_,_,rfl,rfl,qt,at0,.inr (.inl ⟨_,_,rfl,rfl,_,rfl,z1C (fun c=>absurd c (z9Y sg)) fun _=>nxt ?_⟩)⟩)⟩
   refine⟨_,rfl,.inr (.inl ⟨t,_,_,_,rfl,rfl,qt,at0,.inr (.inl ⟨_,_,rfl,rfl,_,rfl,z1C (fun c=>absurd c (z6U sg)) fun _=>nxt ?_⟩)⟩)⟩
   refine⟨_,rfl,.inr (.inl ⟨t,_,_,_,rfl,rfl,qt,at0,?_⟩)⟩
   refine y0X ?_
   have one:¬ (HT.sIx (V.str sg.str :: ys).length 0 (some 1)=0/\HT.sIx (V.str sg.str :: ys).length (V.str sg.str :: ys).length none=(V.str sg.str :: ys).length):=fun h=>by
    have:=h.1
    simp[HT.sIx]at this
   refine⟨_,rfl,_,rfl,.inr ⟨t,_,rfl,qt,one,fun p1 hp1=>⟨p1,rfl,⟨_,.of z0c⟩,?_⟩⟩⟩
   have ecut:y0O (V.str sg.str :: ys) (some 1) none=ys:=z4p _ 1
   rw[ecut]
   have s1:Same H (upd H p1 (.tup ys)):=z0e hp1 _
   have yl:=dys.length
   rw[jA]at yl
   have lm:cs.length<=3:=by rw[hl];cases sg <;> decide
   refine z7B (K:=K) (xs:=ys) ((cs.map (ev ρ)).map D.int) (.of z0c) (by simp[yl]) (by rw[yl];exact kE (z2V (by omega))) (z1N _) (fun i x z H' R hx hd sm hR=>?_) (fun p2 H2 zs sm2 e2 dz=>?_)
   · have hi:i < cs.length:=by have:=(jE.mp hx).1;omega
     obtain⟨y,ey,dy⟩:=dys.get (i:=i) (d:=dE cs[i]) (by rw[jC,jB hi];rfl)
     obtain rfl:x=y:=by rw[hx]at ey;exact Option.some.inj ey
     rw[jC,jC,jB hi]at hd
     obtain rfl:z=D.int (ev ρ cs[i]):=(Option.some.inj hd).symm
     obtain⟨c1,c2,c3⟩:=hc _ (jZ hi)
     exact⟨_,rfl,_,rfl,cs[i],x,pb,kvs,ρ,rfl,c1,c2,by omega,dy.same (s1.trans sm),(s1.trans sm) _ _ hB,fun H'' sm''=>hR _ _ sm'' rfl⟩
   · rw[z0S dz]at e2
     refine⟨sg,p2,cs.map (ev ρ),rfl,.of e2,by rw[jA];exact hl,?_⟩
     rw[<- ee]
     exact q _ (s1.trans sm2)
theorem z9M(B:Bl mg)(F:Fn K mg "value" z5z ["e", "book"])(z1T:Def P w K mg base "reckoned" 2 ["sign", "numbers"] (y2G K)):∀ d,Def P w K mg base "value" (d + 2) ["e", "book"] (z6N K d)
 | 0=>by
  refine F.ok z9Z (fun vs H Q E h=>?_) (fun f cdv A outer s H vs Q E hr h=>?_)
  · obtain⟨e,x,pb,kvs,ρ,rfl,_⟩:=h;rfl
  · obtain⟨e,x,pb,kvs,ρ,rfl,_,_,hh,_⟩:=h
    exact absurd hh (kL _)
 | d + 1=>y5w d B F z1T (z9M B F z1T d)
theorem x0s{c:TT}{t u:TS}{D:Ends}{σ:St}{H:Hp}(p:Bool->Prop)(hc:∀ Q:Bool->Hp->Prop,(∀ b H',Same H H'->p b->Q b H')->c σ H Q)(h1:∀ H',Same H H'->p true->t D σ H')(h2:∀ H',Same H H'->p false->u D σ H'):y7m c t u D σ H :=
 hc _ fun b H' s hb=>by cases b with
  | true=>exact y5M (h1 H' s hb)
  | false=>exact z5Z (h2 H' s hb)
theorem y8o{c:TT}{t u v:TS}{D:Ends}{σ:St}{H:Hp}(p:Bool->Prop)(hc:∀ Q:Bool->Hp->Prop,(∀ b H',Same H H'->p b->Q b H')->c σ H Q)(h1:∀ H',Same H H'->p true->t { D with nx:=v D } σ H')(h2:∀ H',Same H H'->p false->u { D with nx:=v D } σ H'):y4L (y7m c t u) v D σ H:=x0s p hc h1 h2
theorem y8n{c:Prop}[Decidable c]{t u:TS}{R:St->Hp->Prop}{rt:VK}{bk ct:St->Hp->Prop}{σ:St}{H:Hp}(Pj:St->Hp->Prop)(h:∀ σ' H',Pj σ' H'->R σ' H')
 (h1:c->∀ R',(∀ σ' H',Pj σ' H'->R' σ' H')->t ⟨R',rt,bk,ct⟩ σ H) (h2:¬ c->∀ R',(∀ σ' H',Pj σ' H'->R' σ' H')->u ⟨R',rt,bk,ct⟩ σ H):if decide c=true then t ⟨R,rt,bk,ct⟩ σ H else u ⟨R,rt,bk,ct⟩ σ H :=
 z1C (fun hc=>h1 hc R h) fun hc=>h2 hc R h
theorem y5P{b:Bool}{t u:TS}{R:St->Hp->Prop}{rt:VK}{bk ct:St->Hp->Prop}{σ:St}{H:Hp}(Pj:St->Hp->Prop)(h:∀ σ' H',Pj σ' H'->R σ' H')
 (h1:∀ R',(∀ σ' H',Pj σ' H'->R' σ' H')->t ⟨R',rt,bk,ct⟩ σ H) (h2:∀ R',(∀ σ' H',Pj σ' H'->R' σ' H')->u ⟨R',rt,bk,ct⟩ σ H):if b=true then t ⟨R,rt,bk,ct⟩ σ H else u ⟨R,rt,bk,ct⟩ σ H:=by
 cases b with
 | true=>exact y5M (h1 R h)
 | false=>exact z5Z (h2 R h)
def hid(A:List Addr)(H:Hp):Hp:=fun p=>if p∈A then none else H p
theorem y3S(A:List Addr)(H:Hp):Same (hid A H) H:=fun b o h=>by
 unfold hid at h
 split at h
 · cases h
 · exact h
theorem z3j{A:List Addr}{H:Hp}{p:Addr}{o:HO}(hp:p∉A)(h:H p=some o):hid A H p=some o:=by unfold hid;rw[if_neg hp];exact h
theorem z1O{A:List Addr}{H H':Hp}(s:Same H H'):Same (hid A H) (hid A H'):=fun b o e=>by
 unfold hid at e ⊢
 split at e
 · cases e
 · rename_i hb
   rw[if_neg hb];exact s b o e
theorem y3T{A:List Addr}{H:Hp}{p:Addr}{o:HO}(hp:p∈A):hid A (upd H p o)=hid A H:=funext fun b=>by
 unfold hid
 by_cases h:b∈A
 · rw[if_pos h,if_pos h]
 · rw[if_neg h,if_neg h,z0n (fun z:b=p=>h (by rw[z];exact hp))]
def Al(A:List Addr)(H:Hp):Prop:=∀ a∈A,∃ o,H a=some o
theorem Al.not{A:List Addr}{H:Hp}{p:Addr}(h:Al A H)(hp:H p=none):p∉A:=fun z=>by
 obtain⟨o,e⟩:=h p z
 rw[e]at hp;cases hp
theorem Al.same{A:List Addr}{H H':Hp}(h:Al A H)(e:Same H H'):Al A H':=fun a ha=>by
 obtain⟨o,q⟩:=h a ha
 exact⟨o,e a o q⟩
def IsA(K:PySem.W.Frag)(H0 H:Hp)(dd:D)(x:V):Prop:=∀ A,Al A H0->IsD K (hid A H) dd x
theorem IsA.same{H0 H H':Hp}{dd:D}{x:V}(h:IsA K H0 H dd x)(s:Same H H'):IsA K H0 H' dd x:=fun A a=>(h A a).same (z1O s)
theorem IsA.back{H0 H1 H:Hp}{dd:D}{x:V}(h:IsA K H1 H dd x)(s:Same H0 H1):IsA K H0 H dd x:=fun A a=>h A (a.same s)
theorem y8p(H:Hp):hid [] H=H:=funext fun b=>by unfold hid;rw[if_neg (fun z=>nomatch z)]
theorem IsA.plain{H0 H:Hp}{dd:D}{x:V}(h:IsA K H0 H dd x):IsD K H dd x:=by
 have:=h [] (fun _ z=>nomatch z)
 rwa [y8p]at this
theorem z3i{H0 H1:Hp}{p:Addr}{xs:List V}{ds:List D}(s:Same H0 H1)(np:H1 p=none)(h:∀ A,Al A H0->IsDs K (hid A H1) ds xs):IsA K H0 (upd H1 p (.tup xs)) (.tup ds) (.ref p):=fun A a=>by
 have hp:p∉A:=(a.same s).not np
 exact⟨p,xs,rfl,.of (z3j hp z0c),(h A a).same (z1O (z0e np _))⟩
def z5b:Sp:=fun vs H Q _=>∃ c k:Int,vs=[.int c,.int k]/\0<=k/\k<=1000/\∀ r:Int,0<=r->r < 2147483629->Q (.int r) H
theorem y5z(B:Bl mg)(F:Fn K mg "_law_mixed" z4e ["_law_cell", "_law_k"]):Def P w K mg base "_law_mixed" 1 ["_law_cell", "_law_k"] z5b:=by
 refine F.ok z6k (fun vs H Q E h=>?_) (fun f cdv A outer s H vs Q E hr h=>?_)
 · obtain⟨c,k,rfl,_⟩:=h;rfl
 obtain⟨c,k,rfl,k0,k1,q⟩:=h
 refine⟨_,(@z0b _ _ _ _ _ (z0t (i:=2) z6k.nd rfl (by first | exact Or.inl rfl | exact Or.inr rfl) (z0p z0L (pv 0) z0d))
  (@z0g _ _ _ (z0o (z0p z0L (z0p z1k (z0p z1k (z0p (z0R.or (z0q.or (z0Q.or (z0y K rfl)))) (z0p (z0R.or (z0q.or (z0Q.or (z0y K rfl)))) (pv 2) (z0p z1k z0d (pv 1))) z0d) z0d) (z0p (z0R.or (z0q.or (z0Q.or (z0y K rfl)))) (z0p (z0R.or (z0q.or (z0Q.or (z0y K rfl)))) (pv 2) (z0p z1k z0d (pv 1))) z0d)) z0d)))),?_⟩
 refine⟨_,rfl,_,_,rfl,rfl,(by show (0:Int) < 2147483647;decide),?_⟩
 have a0:=kT c (show (2147483647:Int)≠0 by decide)
 have a1:=kN c (show (0:Int) < 2147483647 by decide)
 generalize c % 2147483647=u at a0 a1
 refine⟨_,rfl,_,rfl,_,_,rfl,rfl,z3G (m:=6) (n:=11) (by decide) (by omega) (by decide),.inl ⟨_,_,rfl,rfl,.inl ⟨_,_,rfl,rfl,?_⟩⟩⟩
 refine⟨_,_,rfl,rfl,z3G (m:=33) (n:=20) (by omega) (by decide) (by decide),?_⟩
 refine⟨_,rfl,_,rfl,_,_,rfl,rfl,z3G (m:=6) (n:=11) (by decide) (by omega) (by decide),.inl ⟨_,_,rfl,rfl,.inl ⟨_,_,rfl,rfl,?_⟩⟩⟩
 refine⟨_,_,rfl,rfl,z3G (m:=60) (n:=33) (by omega) (by omega) (by decide),_,_,rfl,rfl,(by show (0:Int) < 2147483629;decide),?_⟩
 exact q _ (kT _ (by decide)) (kN _ (by decide))
def y6t:Sp:=fun vs H Q _=>∃ a b:Int,vs=[.int a,.int b]/\0 < a/\a<=10 ^ 12/\0 < b/\b<=10 ^ 12/\∀ g:Int,0 < g->g<=10 ^ 12->g=G a b->Q (.int g) H
theorem y3s(B:Bl mg)(F:Fn K mg "_law_common" z3u ["_law_one", "_law_other"]):Def P w K mg base "_law_common" 1 ["_law_one", "_law_other"] y6t:=by
 refine F.ok z5y (fun vs H Q E h=>?_) (fun f cdv A outer s H vs Q E hr h=>?_)
 · obtain⟨a,b,rfl,_⟩:=h;rfl
 obtain⟨a,b,rfl,ha,ha',hb,hb',q⟩:=h
 refine⟨_,(@z0b _ _ _ _ _ (y0j PassesOwn.never (z0j y1t (pv 1) z0d (z0k _)) (@z0g _ _ _ (y9H (i:=0) (j:=1) rfl z5y.nd rfl rfl (by decide) rfl rfl (z0a (pv 1) (z0a (z0p z0L (pv 0) (pv 1)) z0f)) rfl)))
  (@z0g _ _ _ (z0o (pv 0)))),?_⟩
 refine z9K (fun σ H'=>H'=H/\∃ x y:Int,σ=[some (.int x),some (.int y)]/\0 < x/\x<=10 ^ 12/\0<=y/\y<=10 ^ 12/\G x y=G a b)
  (fun σ _=>match σ with | [_,some (.int y)]=>y.toNat | _=>0) ?_ ?_ ?_
 · exact⟨rfl,_,_,rfl,ha,ha',by omega,hb',rfl⟩
 · rintro σ H' ⟨rfl,x,y,rfl,hx,hx',hy,hy',eg⟩
   walk_at "rd"
   refine z1C (fun c=>?_) (fun c=>?_)
   · refine⟨_,rfl,_,rfl,_,rfl,_,_,rfl,rfl,c,?_⟩
     walk_at "rd"
     have h1:=kT x (show y≠0 by omega)
     have h2:=kN x c
     refine⟨⟨rfl,_,_,rfl,c,hy',h1,by omega,(y6T (by omega) c).trans eg⟩,?_⟩
     show (x % y).toNat < y.toNat
     omega
   · walk_at "rd"
     exact q x hx hx' (by rw[<- eg];exact (y6S (by omega) (by omega)).symm)
 · rintro σ H' R R' m ⟨v,e,h⟩
   refine⟨v,e,?_⟩
   obtain⟨i,j,e1,e2,k,e3,h⟩:=h
   exact⟨i,j,e1,e2,k,e3,m _ _ h⟩
theorem z8l{g:Int}(h0:0 < g)(h1:g<=10 ^ 12):g.natAbs.log2 < 9000:=by
 have:g.natAbs < 2 ^ 64:=by omega
 exact jW ((Nat.log2_lt (by omega)).mpr this) (by decide)
def tpF(r:Rat):List V:=[.int r.num,.int (r.den:Int)]
def y6s:Sp:=fun vs H Q _=>∃ t b:Int,vs=[.int t,.int b]/\0 < t/\t<=10 ^ 12/\0 < b/\b<=10 ^ 12/\∀ (p:Addr) (H':Hp),Same H H'->H p=none->H' p=some (.tup (tpF (Rat.divInt t b)))->Q (.ref p) H'
theorem y9X(B:Bl mg)(z4L:Def P w K mg base "_law_common" 1 ["_law_one", "_law_other"] y6t)(F:Fn K mg "_law_low" z6Y ["_law_top", "_law_bottom"]):Def P w K mg base "_law_low" 2 ["_law_top", "_law_bottom"] y6s:=by
 refine F.ok y0a (fun vs H Q E h=>?_) (fun f cdv A outer s H vs Q E hr h=>?_)
 · obtain⟨t,b,rfl,_⟩:=h;rfl
 obtain⟨t,b,rfl,ht,ht',hb,hb',q⟩:=h
 refine⟨_,(@z0b _ _ _ _ _ (z0t (i:=2) y0a.nd rfl (by first | exact Or.inl rfl | exact Or.inr rfl) (z0r z4L hr rfl (z0a (pv 0) (z0a (pv 1) z0f))))
  (@z0g _ _ _ (z0o (z1j (z0a (z0p z7i (pv 0) (pv 2)) (z0a (z0p z7i (pv 1) (pv 2)) z0f)))))),?_⟩
 refine⟨_,rfl,_,rfl,t,b,rfl,ht,ht',hb,hb',fun g g0 g1 eg=>?_⟩
 have fr:=y5W (t:=t) (b:=b) (by omega)
 unfold sg at fr
 rw[if_neg (by omega),<- eg]at fr
 refine⟨_,rfl,_,rfl,_,_,rfl,rfl,⟨by omega,z8l g0 g1⟩,_,rfl,_,rfl,_,_,rfl,rfl,⟨by omega,z8l g0 g1⟩,(by show 2<=sizeLine;decide),fun p np=>q p _ (z0e np _) np ?_⟩
 rw[z0c]
 unfold tpF
 rw[<- fr.1,<- fr.2]
def z6I(c:Int):Int:=([1,3,5,7,9,11,15,17,19,21,23,25]:List Int).getD (c / 26 % 12).toNat 1
def ltr(i:Int):Nat:=97 + (i % 26).toNat
theorem y6I(i:Int):atI ("abcdefghijklmnopqrstuvwxyz" : Str).cps.toList (i % 26)=some (ltr i):=by
 have h:∀ n:Fin 26,atI ("abcdefghijklmnopqrstuvwxyz" : Str).cps.toList ((n.val:Nat):Int)=some (97 + n.val):=by decide +kernel
 have:=h ⟨(i % 26).toNat,by omega⟩
 have e:(((i % 26).toNat:Nat):Int)=i % 26:=by omega
 rw[e]at this
 exact this
theorem y7o(c:Int):atI [V.int 1,.int 3,.int 5,.int 7,.int 9,.int 11,.int 15,.int 17,.int 19,.int 21,.int 23,.int 25] (c / 26 % 12)=some (.int (z6I c))/\1<=z6I c/\z6I c<=25:=by
 have h:c / 26 % 12=0\/c / 26 % 12=1\/c / 26 % 12=2\/c / 26 % 12=3\/c / 26 % 12=4\/c / 26 % 12=5\/c / 26 % 12=6\/c / 26 % 12=7\/c / 26 % 12=8\/c / 26 % 12=9\/c / 26 % 12=10\/c / 26 % 12=11:=by omega
 unfold z6I
 rcases h with h | h | h | h | h | h | h | h | h | h | h | h <;> rw[h] <;> exact⟨rfl,by decide,by decide⟩
theorem z7F(a b:Str):(a ++ b).length=a.length + b.length:=Array.size_append ..
def dg(k:Int):Str:=if k / 26=0 then ⟨#[48]⟩ else if k / 26=1 then ⟨#[49]⟩ else ⟨#[50]⟩
theorem y6P{k:Int}(h0:0<=k)(h1:k < 64):((toString (k / 26):String):Str)=dg k/\(dg k).length=1:=by
 have h:k / 26=0\/k / 26=1\/k / 26=2:=by omega
 unfold dg
 rcases h with h | h | h <;> rw[h] <;> exact⟨by decide +kernel,rfl⟩
def y1z(c:Int):Nat->Str
 | 0 => ""
 | j + 1=>y1z c j ++ ⟨#[ltr (c / 7 + j * j)]⟩
def prN(c k:Int):Str:=(⟨#[ltr (c + k * z6I c)]⟩:Str) ++ dg k
def y2e(c k:Int):Str :=
 if c / 312 % 4=0 then (if 25 < k then prN c k else ⟨#[ltr (c + k * z6I c)]⟩)
 else if c / 312 % 4=1 then y1z c (c / 1248 % 7).toNat ++ prN c k
 else prN c k ++ y1z c (c / 1248 % 7).toNat
theorem z7o(c:Int):∀ j,(y1z c j).length=j
 | 0=>rfl
 | j + 1=>by show (y1z c j ++ _).length=_;rw[z7F,z7o c j];rfl
theorem y5a{c k:Int}(h0:0<=k)(h1:k < 64):Txt.slice (prN c k) none (some (1 + if decide (25 < k)=true then 1 else 0))=if 25 < k then prN c k else ⟨#[ltr (c + k * z6I c)]⟩:=by
 have h:k / 26=0\/k / 26=1\/k / 26=2:=by omega
 unfold prN dg
 by_cases c25:25 < k
 · rw[decide_eq_true c25,if_pos c25]
   rcases h with h | h | h
   · omega
   · rw[h];rfl
   · rw[h];rfl
 · rw[decide_eq_false c25,if_neg c25]
   rcases h with h | h | h
   · rw[h];rfl
   · omega
   · omega
def y2B:Sp:=fun vs H Q _=>∃ c k:Int,vs=[.int c,.int k]/\0<=k/\k < 64/\∀ (t:Str) (H':Hp),Same H H'->t=y2e c k->Q (.str t) H'
theorem y7W(B:Bl mg)(F:Fn K mg "_law_name" z5e ["_law_cell", "_law_k"]):Def P w K mg base "_law_name" 1 ["_law_cell", "_law_k"] y2B:=by
 refine F.ok z1F (fun vs H Q E h=>?_) (fun f cdv A outer s H vs Q E hr h=>?_)
 · obtain⟨c,k,rfl,_⟩:=h;rfl
 obtain⟨c,k,rfl,k0,k5,q⟩:=h
 refine⟨_,(@z0b _ _ _ _ _ (z0t (i:=2) z1F.nd rfl (by first | exact Or.inl rfl | exact Or.inr rfl) z0l)
  (@z0b _ _ _ _ _ (@y0k _ 3 _ _ _ _ _ _ _ _ _ _ z1F.nd rfl rfl (z0i K rfl) (@z0h _ _ _ _ _ z0d (@z0h _ _ _ _ _ z0d (@z0h _ _ _ _ _ z0d (@z0h _ _ _ _ _ z0d (@z0h _ _ _ _ _ z0d (@z0h _ _ _ _ _ z0d (@z0h _ _ _ _ _ z0d (@z0h _ _ _ _ _ z0d (@z0h _ _ _ _ _ z0d (@z0h _ _ _ _ _ z0d (@z0h _ _ _ _ _ z0d (@z0h _ _ _ _ _ z0d z0f rfl) rfl) rfl) rfl) rfl) rfl) rfl) rfl) rfl) rfl) rfl) rfl) (z0p z0L (z0p z1y (pv 0) z0d) z0d) (fun _ _=>rfl))
  (@z0b _ _ _ _ _ (z0t (i:=4) z1F.nd rfl (by first | exact Or.inl rfl | exact Or.inr rfl) (z0p (z0R.or (z0q.or (z0Q.or (z0y K rfl)))) (z0s (z0i K rfl) (pv 2) (z0p z0L (z0p (z0R.or (z0q.or (z0Q.or (z0y K rfl)))) (pv 0) (z0p z1k (pv 1) (pv 3))) z0d) (fun _ _=>rfl)) (z0K z8A rfl B.str PyProof.Rows.boot_str (z0a (z0p z1y (pv 1) z0d) z0f))))
  (@z0b _ _ _ _ _ (z0t (i:=5) z1F.nd rfl (by first | exact Or.inl rfl | exact Or.inr rfl) (z0p z0L (z0p z1y (pv 0) z0d) z0d))
  (@z0b _ _ _ _ _ (z0B (z0j (z0x.or (z0z.or (z0A.or (z0w K rfl hr.units)))) (pv 5) z0d (z0k _)) (@z0g _ _ _ (z0o (z2N y7u (pv 4) z4z (z3c (z0p (z0R.or (z0q.or (z0Q.or (z0y K rfl)))) z0d (z0K z2F rfl B.int PyProof.Rows.boot_int (z0a (z1f y1t (pv 1) z0d (z0k _)) z0f))))))) z0m)
  (@z0b _ _ _ _ _ (z0t (i:=6) z1F.nd rfl (by first | exact Or.inl rfl | exact Or.inr rfl) z0l)
  (@z0b _ _ _ _ _ (z1q PassesOwn.never rfl (z2z rfl B.range (z0a (z0p z0L (z0p z1y (pv 0) z0d) z0d) z0f)) (z0E (i:=7) z1F.nd rfl (by first | exact Or.inl rfl | exact Or.inr rfl)) (@z0g _ _ _ (z0t (i:=6) z1F.nd rfl (by first | exact Or.inl rfl | exact Or.inr rfl) (z0p (z0R.or (z0q.or (z0Q.or (z0y K rfl)))) (pv 6) (z0s (z0i K rfl) (pv 2) (z0p z0L (z0p (z0R.or (z0q.or (z0Q.or (z0y K rfl)))) (z0p z1y (pv 0) z0d) (z0p z1k (pv 7) (pv 7))) z0d) (fun _ _=>rfl))))))
  (@z0b _ _ _ _ _ (z0B (z0j (z0x.or (z0z.or (z0A.or (z0w K rfl hr.units)))) (pv 5) z0d (z0k _)) (@z0g _ _ _ (z0o (z0p (z0R.or (z0q.or (z0Q.or (z0y K rfl)))) (pv 6) (pv 4)))) z0m)
  (@z0g _ _ _ (z0o (z0p (z0R.or (z0q.or (z0Q.or (z0y K rfl)))) (pv 4) (pv 6)))))))))))),?_⟩
 obtain⟨sa,sr1,sr2⟩:=y7o c
 refine⟨(by show 12<=sizeLine;decide),fun p np=>?_⟩
 have s1:=z0e np (.lst [V.int 1,.int 3,.int 5,.int 7,.int 9,.int 11,.int 15,.int 17,.int 19,.int 21,.int 23,.int 25])
 walk_at "rd"
 refine .inl ⟨p,_,_,.int (z6I c),rfl,rfl,.of z0c,sa,?_⟩
 walk_at "rd"
 refine⟨z3G (m:=7) (n:=5) (by omega) (by omega) (by decide),?_⟩
 walk_at "rd"
 refine .inr (.inr ⟨_,_,ltr (c + k * z6I c),rfl,rfl,by decide,y6I _,?_⟩)
 walk_at "rd"
 have kl:(k / 26).natAbs.log2 < 1920:=by
  have h:k / 26=0\/k / 26=1\/k / 26=2:=by omega
  rcases h with h | h | h <;> rw[h] <;> decide
 refine⟨kl,?_⟩
 have big:(1000:Nat) < sizeLine:=by decide
 obtain⟨ez,zl⟩:=y6P k0 k5
 rw[ez]
 refine .inr (.inl ⟨_,_,rfl,rfl,(by show 1 + (dg k).length<=sizeLine;omega),?_⟩)
 walk_at "rd"
 have pl:(prN c k).length<=11:=by unfold prN;rw[z7F];show 1 + (dg k).length<=11;omega
 have nz:=q _ _ s1 rfl
 unfold y2e at nz
 refine z1C (fun h0=>?_) (fun h0=>nxt ?_)
 · walk_at "rd"
   refine⟨(by show (prN c k).length<=sizeLine;omega),?_⟩
   rw[if_pos h0,<- y5a k0 k5]at nz
   exact nz
 · rw[if_neg h0]at nz
   walk_at "rd"
   have i7:(c / 1248 % 7).toNat<=6:=by omega
   refine z5P (fun i σ H'=>H'=_/\∃ cj,σ=[some (.int c),some (.int k),some (.str "abcdefghijklmnopqrstuvwxyz"),some (.int (z6I c)),some (.str (prN c k)),some (.int (c / 312 % 4)),some (.str (y1z c i)),cj]) ⟨rfl,none,rfl⟩ ?_ ?_
   · rintro i σ H' hi ⟨rfl,cj,rfl⟩
     rw[Int.zero_add]
     have ml:=z7o c i
     walk_at "rd"
     refine⟨z3G (m:=3) (n:=3) (by omega) (by omega) (by decide),?_⟩
     walk_at "rd"
     refine .inr (.inr ⟨_,_,ltr (c / 7 + i * i),rfl,rfl,by decide,y6I _,?_⟩)
     refine .inr (.inl ⟨_,_,rfl,rfl,(by show _ + 1<=sizeLine;omega),?_⟩)
     exact⟨rfl,_,rfl⟩
   · rintro σ H' ⟨rfl,cj,rfl⟩
     have ml:=z7o c (c / 1248 % 7).toNat
     walk_at "rd"
     refine z1C (fun h1=>?_) (fun h1=>nxt ?_)
     · rw[if_pos h1]at nz
       exact⟨_,rfl,_,rfl,.inr (.inl ⟨_,_,rfl,rfl,(by omega),nz⟩)⟩
     · rw[if_neg h1]at nz
       exact⟨_,rfl,_,rfl,.inr (.inl ⟨_,_,rfl,rfl,(by omega),nz⟩)⟩
theorem z3V(a b:Str):(a ++ b).cps.toList=a.cps.toList ++ b.cps.toList:=by
 show (a.cps ++ b.cps).toList=_
 simp
theorem y6z{c k k':Int}(h0:0<=k)(h1:k < 64)(h0':0<=k')(h1':k' < 64)(e:ltr (c + k * z6I c)=ltr (c + k' * z6I c))(e2:k / 26=k' / 26):k=k':=by
 unfold ltr at e
 have si:z6I c∈([1,3,5,7,9,11,15,17,19,21,23,25]:List Int):=by
  have h:c / 26 % 12=0\/c / 26 % 12=1\/c / 26 % 12=2\/c / 26 % 12=3\/c / 26 % 12=4\/c / 26 % 12=5\/c / 26 % 12=6\/c / 26 % 12=7\/c / 26 % 12=8\/c / 26 % 12=9\/c / 26 % 12=10\/c / 26 % 12=11:=by omega
  unfold z6I
  rcases h with h | h | h | h | h | h | h | h | h | h | h | h <;> rw[h] <;> decide
 generalize z6I c=t at e si
 simp only[jH,jt,or_false]at si
 rcases si with rfl | rfl | rfl | rfl | rfl | rfl | rfl | rfl | rfl | rfl | rfl | rfl <;> omega
theorem x0z{k k':Int}(h0:0<=k)(h1:k < 64)(h0':0<=k')(h1':k' < 64)(h:(dg k).cps.toList=(dg k').cps.toList):k / 26=k' / 26:=by
 have a:k / 26=0\/k / 26=1\/k / 26=2:=by omega
 have b:k' / 26=0\/k' / 26=1\/k' / 26=2:=by omega
 unfold dg at h
 rcases a with a | a | a <;> rcases b with b | b | b <;> rw[a,b]at h ⊢ <;> first | rfl | (exfalso;revert h;decide)
theorem z8Y{c k k':Int}(h0:0<=k)(h1:k < 64)(h0':0<=k')(h1':k' < 64)(h:(prN c k).cps.toList=(prN c k').cps.toList):k=k':=by
 unfold prN at h
 rw[z3V,z3V]at h
 have h:(ltr (c + k * z6I c)) :: (dg k).cps.toList=(ltr (c + k' * z6I c)) :: (dg k').cps.toList:=h
 obtain⟨e1,e2⟩:=List.cons.inj h
 exact y6z h0 h1 h0' h1' e1 (x0z h0 h1 h0' h1' e2)
theorem x0b{c k k':Int}(h0:0<=k)(h1:k < 64)(h0':0<=k')(h1':k' < 64)(h:y2e c k=y2e c k'):k=k':=by
 have h:(y2e c k).cps.toList=(y2e c k').cps.toList:=by rw[h]
 have pl:∀ j:Int,0<=j->j < 64->(prN c j).cps.toList.length=2:=fun j a b=>by
  have:=(y6P a b).2
  unfold prN
  rw[z3V,jJ]
  show 1 + (dg j).cps.toList.length=2
  have e:(dg j).cps.toList.length=(dg j).length:=jT ..
  omega
 unfold y2e at h
 split at h
 · split at h
   · rename_i k25
     split at h
     · exact z8Y h0 h1 h0' h1' h
     · have:=congrArg List.length h
       rw[pl k h0 h1]at this
       cases this
   · rename_i k25
     split at h
     · have:=congrArg List.length h
       rw[pl k' h0' h1']at this
       cases this
     · rename_i k25'
       have h:[ltr (c + k * z6I c)]=[ltr (c + k' * z6I c)]:=h
       exact y6z h0 h1 h0' h1' (List.cons.inj h).1 (by omega)
 · split at h
   · rw[z3V,z3V]at h
     exact z8Y h0 h1 h0' h1' (List.append_cancel_left h)
   · rw[z3V,z3V]at h
     exact z8Y h0 h1 h0' h1' (List.append_cancel_right h)
def z9i(c:Int)(n:Nat):List Str:=(List.range n).map fun k=>y2e c (k:Nat)
theorem y5F(c:Int)(n:Nat):z9i c (n + 1)=z9i c n ++ [y2e c (n:Nat)]:=by
 unfold z9i
 rw[List.range_succ,je];rfl
theorem y3v(c:Int){n:Nat}(h:n<=64):(z9i c n).Nodup:=by
 unfold z9i
 rw[jl,j5]
 refine List.Pairwise.imp_of_mem ?_ (jl.mp List.nodup_range)
 intro a b ha hb ne e
 have ha:=List.mem_range.mp ha
 have hb:=List.mem_range.mp hb
 have:=x0b (c:=c) (k:=(a:Nat)) (k':=(b:Nat)) (by omega) (by omega) (by omega) (by omega) e
 exact ne (by omega)
structure Lf (nm:List Str) (e:Ex) (h n:Nat):Prop where
 ok:e.ok
 high:e.high<=h
 few:e.rds.length<=n
 sub:∀ x∈e.rds,x∈nm
def y2D(K:PySem.W.Frag):Sp:=fun vs H Q _=>∃ (c:Int) (l:Addr) (nm:List Str),vs=[.int c,.ref l]/\0<=c/\c < 2147483629/\SqL K H l (nm.map V.str)/\nm.length<=63/\∀ (p:Addr) (e:Ex) (H':Hp),Same H H'->IsA K H H' (dE e) (.ref p)->Lf nm e 0 1->Q (.ref p) H'
theorem y7Y(B:Bl mg)(F:Fn K mg "_law_leaf" z5f ["_law_cell", "_law_names"]):Def P w K mg base "_law_leaf" 1 ["_law_cell", "_law_names"] (y2D K):=by
 refine F.ok y2P (fun vs H Q E h=>?_) (fun f cdv A outer s H vs Q E hr h=>?_)
 · obtain⟨c,l,nm,rfl,_⟩:=h;rfl
 obtain⟨c,l,nm,rfl,c0,c1,ql,l63,q⟩:=h
 refine⟨_,(@z0b _ _ _ _ _ (z0B (PW.pt (z4x (z0j (z0x.or ((z2o K rfl hr.units).or (z0w K rfl hr.units))) (pv 1) (z2n z0f) (z0k _)) (z3I (z0j (z0x.or ((z2o K rfl hr.units).or (z0w K rfl hr.units))) (z0p z0L (pv 0) z0d) z0d (z0k _))))) (@z0b _ _ _ _ _ (z0B (z0j (z0x.or ((z2o K rfl hr.units).or (z0w K rfl hr.units))) (z0p z0L (z0p z1y (pv 0) z0d) z0d) z0d (z0k _)) (@z0g _ _ _ (z0o (z1j (z0a z0l (z0a (z0p z0L (z0p z8i (pv 0) z0d) (z0p z8i z0d z0d)) z0f))))) z0m)
  (@z0g _ _ _ (z0o (z1j (z0a z0l (z0a (z0p z0L (z0p z1y (pv 0) z0d) z0d) z0f)))))) z0m)
  (@z0g _ _ _ (z0o (z1j (z0a z0l (z0a (z0s (z0i K rfl) (pv 1) (z0p z0L (z0p z1y (pv 0) z0d) (z0u (z1a K rfl) rfl B.len PySem.boot_len (z0a (pv 1) z0f))) (fun _ _=>rfl)) z0f)))))),?_⟩
 have num:∀ (n:Int) (H1:Hp),Same H H1->∀ p,H1 p=none->Q (.ref p) (upd H1 p (.tup [.str "num",.int n])):=fun n H1 s1 p np =>
  q p (.num n) _ (s1.trans (z0e np _)) (z3i s1 np fun A a=>⟨_,_,rfl,rfl,_,_,rfl,rfl,rfl⟩) ⟨trivial,jF _,jR _,fun _ h=>(nomatch h)⟩
 refine y8o (fun b=>b=false->nm≠[]) (fun Q' hQ=>?_) (fun H1 s1 _=>?_) (fun H1 s1 hne=>nxt ?_)
 · refine⟨_,rfl,jR _,fun pe npe=>?_⟩
   have s2:=z0e npe (.lst [])
   by_cases hn:nm=[]
   · subst hn
     exact .inr (.inr ⟨.lst [],⟨l,[],rfl,s2.seq ql,rfl⟩,⟨pe,[],rfl,.of z0c,rfl⟩,⟨l,rfl⟩,by decide,_,rfl,y5M (hQ true _ s2 (fun z=>nomatch z))⟩)
   · refine .inr (.inl ⟨l,pe,_,[],rfl,rfl,s2.seq ql,.of z0c,(by rw[jA];exact fun z=>hn (jk.mp z)),_,rfl,z5Z ?_⟩)
     exact⟨_,rfl,_,_,rfl,rfl,(by show (0:Int) < 4;decide),.inl ⟨_,_,rfl,rfl,_,rfl,hQ _ _ s2 fun _=>hn⟩⟩
 · refine⟨_,rfl,_,_,rfl,rfl,⟨by decide,by decide⟩,_,_,rfl,rfl,(by show (0:Int) < 8;decide),.inl ⟨_,_,rfl,rfl,_,rfl,z1C (fun h=>?_) (fun h=>nxt ?_)⟩⟩
   · exact⟨_,rfl,_,_,rfl,rfl,⟨by decide,by decide,by omega⟩,_,_,rfl,rfl,⟨by decide,by decide,by decide⟩,_,_,rfl,rfl,(by show (0:Int) < 10 ^ 60;decide),(by show 2<=sizeLine;decide),fun p np=>num _ H1 s1 p np⟩
   · exact⟨_,rfl,_,_,rfl,rfl,⟨by decide,by decide⟩,_,_,rfl,rfl,(by show (0:Int) < 3;decide),(by show 2<=sizeLine;decide),fun p np=>num _ H1 s1 p np⟩
 · have hne:=hne rfl
   have lp:0 < nm.length:=List.length_pos_iff.mpr hne
   have i0:=kT (c / 4) (show (nm.length:Int)≠0 by omega)
   have i1:=kN (c / 4) (show (0:Int) < (nm.length:Int) by omega)
   obtain⟨j,hj,ej⟩:∃ j:Nat,j < nm.length/\c / 4 % (nm.length:Int)=(j:Int):=⟨(c / 4 % (nm.length:Int)).toNat,by omega,by omega⟩
   have at_:atI (nm.map V.str) (c / 4 % ((nm.map V.str).length:Int))=some (.str nm[j]):=by
    rw[jA,ej]
    exact z0Y (by rw[jC,jB hj];rfl)
   have hm:=jZ hj
   generalize nm[j]=n at at_ hm
   refine⟨_,rfl,_,rfl,_,_,rfl,rfl,⟨by decide,by decide⟩,_,rfl,_,_,rfl,z2U (s1.seq ql),_,_,rfl,rfl,(by rw[jA];omega),.inl ⟨l,_,_,.str n,rfl,rfl,s1.seq ql,at_,(by show 2<=sizeLine;decide),fun p np=>?_⟩⟩
   exact q p (.nam n) _ (s1.trans (z0e np _)) (z3i s1 np fun A a=>⟨_,_,rfl,rfl,_,_,rfl,rfl,rfl⟩) ⟨trivial,jF _,jF _,fun x hx=>by rw[jP.mp hx];exact hm⟩
theorem y9y(x:Int):∃ s:Str,atI [V.str "",.str "not",.str "+",.str "-",.str "<",.str "=",.str "and",.str "or",.str "pick",.str "="] (x / 7 % 10)=some (.str s)/\(s = "" \/ s = "not" \/ s = "pick" \/ ∃ g:Sg,g.two=true/\s=g.str):=by
 have h:x / 7 % 10=0\/x / 7 % 10=1\/x / 7 % 10=2\/x / 7 % 10=3\/x / 7 % 10=4\/x / 7 % 10=5\/x / 7 % 10=6\/x / 7 % 10=7\/x / 7 % 10=8\/x / 7 % 10=9:=by omega
 rcases h with h | h | h | h | h | h | h | h | h | h <;> rw[h]
 · exact⟨_,rfl,.inl rfl⟩
 · exact⟨_,rfl,.inr (.inl rfl)⟩
 · exact⟨_,rfl,.inr (.inr (.inr ⟨.add,rfl,rfl⟩))⟩
 · exact⟨_,rfl,.inr (.inr (.inr ⟨.sub,rfl,rfl⟩))⟩
 · exact⟨_,rfl,.inr (.inr (.inr ⟨.lt,rfl,rfl⟩))⟩
 · exact⟨_,rfl,.inr (.inr (.inr ⟨.eq,rfl,rfl⟩))⟩
 · exact⟨_,rfl,.inr (.inr (.inr ⟨.conj,rfl,rfl⟩))⟩
 · exact⟨_,rfl,.inr (.inr (.inr ⟨.disj,rfl,rfl⟩))⟩
 · exact⟨_,rfl,.inr (.inr (.inl rfl))⟩
 · exact⟨_,rfl,.inr (.inr (.inr ⟨.eq,rfl,rfl⟩))⟩
theorem y6o{g:Sg}(h:g.two=true):g.str ≠ "" /\ g.str ≠ "not" /\ g.str ≠ "pick" := by
 cases g <;> first | exact⟨by decide +kernel,by decide +kernel,by decide +kernel⟩ | (cases h)
def y2E(K:PySem.W.Frag):Sp:=fun vs H Q _=>∃ (c:Int) (l:Addr) (nm:List Str),vs=[.int c,.ref l]/\SqL K H l (nm.map V.str)/\nm.length<=63/\∀ (p:Addr) (e:Ex) (H':Hp),Same H H'->IsA K H H' (dE e) (.ref p)->Lf nm e 1 3->Q (.ref p) H'
theorem y7Z(B:Bl mg)(z0N:Def P w K mg base "_law_mixed" 1 ["_law_cell", "_law_k"] z5b)(z4s:Def P w K mg base "_law_leaf" 1 ["_law_cell", "_law_names"] (y2D K))(F:Fn K mg "_law_expression" z1B ["_law_cell", "_law_names"]):Def P w K mg base "_law_expression" 2 ["_law_cell", "_law_names"] (y2E K):=by
 refine F.ok z1t (fun vs H Q E h=>?_) (fun f cdv A outer s H vs Q E hr h=>?_)
 · obtain⟨c,l,nm,rfl,_⟩:=h;rfl
 obtain⟨c,l,nm,rfl,ql,l63,q⟩:=h
 refine⟨_,(@z0b _ _ _ _ _ (z0t (i:=2) z1t.nd rfl (by first | exact Or.inl rfl | exact Or.inr rfl) (z0r z4s hr rfl (z0a (z0r z0N hr rfl (z0a (pv 0) (z0a z0d z0f))) (z0a (pv 1) z0f))))
  (@z0b _ _ _ _ _ (z0t (i:=3) z1t.nd rfl (by first | exact Or.inl rfl | exact Or.inr rfl) (z0r z4s hr rfl (z0a (z0r z0N hr rfl (z0a (pv 0) (z0a z0d z0f))) (z0a (pv 1) z0f))))
  (@z0b _ _ _ _ _ (@y0k _ 4 _ _ _ _ _ _ _ _ _ _ z1t.nd rfl rfl (z0i K rfl) (@z0h _ _ _ _ _ z0l (@z0h _ _ _ _ _ z0l (@z0h _ _ _ _ _ z0l (@z0h _ _ _ _ _ z0l (@z0h _ _ _ _ _ z0l (@z0h _ _ _ _ _ z0l (@z0h _ _ _ _ _ z0l (@z0h _ _ _ _ _ z0l (@z0h _ _ _ _ _ z0l (@z0h _ _ _ _ _ z0l z0f rfl) rfl) rfl) rfl) rfl) rfl) rfl) rfl) rfl) rfl) (z0p z0L (z0p z1y (z0r z0N hr rfl (z0a (pv 0) (z0a z0d z0f))) z0d) z0d) (fun _ _=>rfl))
  (@z0b _ _ _ _ _ (z0B (z0j (z0x.or (z0z.or (z0A.or (z0w K rfl hr.units)))) (pv 4) z0l (z0k _)) (@z0g _ _ _ (z0o (pv 2))) z0m)
  (@z0b _ _ _ _ _ (z0B (z0j (z0x.or (z0z.or (z0A.or (z0w K rfl hr.units)))) (pv 4) z0l (z0k _)) (@z0g _ _ _ (z0o (z1j (z0a z0l (z0a (pv 2) z0f))))) z0m)
  (@z0b _ _ _ _ _ (z0B (z0j (z0x.or (z0z.or (z0A.or (z0w K rfl hr.units)))) (pv 4) z0l (z0k _)) (@z0g _ _ _ (z0o (z1j (z0a z0l (z0a (pv 2) (z0a (pv 3) (z0a (z0r z4s hr rfl (z0a (z0r z0N hr rfl (z0a (pv 0) (z0a z0d z0f))) (z0a (pv 1) z0f))) z0f))))))) z0m)
  (@z0g _ _ _ (z0o (z1j (z0a (pv 4) (z0a (pv 2) (z0a (pv 3) z0f)))))))))))),?_⟩
 refine⟨_,rfl,c,1,rfl,by decide,by decide,fun r r0 r1=>⟨_,rfl,r,l,nm,rfl,r0,r1,ql,l63,fun p1 e1 H1 s1 a1 f1=>?_⟩⟩
 refine⟨_,rfl,c,2,rfl,by decide,by decide,fun r r0 r1=>⟨_,rfl,r,l,nm,rfl,r0,r1,s1.seq ql,l63,fun p2 e2 H2 s2 a2 f2=>?_⟩⟩
 have s12:=s1.trans s2
 have a1':=a1.same s2
 have a2':=a2.back s1
 refine⟨(by show 10<=sizeLine;decide),fun p np=>?_⟩
 refine⟨_,rfl,c,3,rfl,by decide,by decide,fun r r0 r1=>?_⟩
 obtain⟨sg,sa,cs⟩:=y9y r
 have s3:=s12.trans (z0e np (.lst [V.str "",.str "not",.str "+",.str "-",.str "<",.str "=",.str "and",.str "or",.str "pick",.str "="]))
 have b1:=a1'.same (z0e np (.lst [V.str "",.str "not",.str "+",.str "-",.str "<",.str "=",.str "and",.str "or",.str "pick",.str "="]))
 have b2:=a2'.same (z0e np (.lst [V.str "",.str "not",.str "+",.str "-",.str "<",.str "=",.str "and",.str "or",.str "pick",.str "="]))
 refine⟨_,_,rfl,rfl,⟨by decide,by decide⟩,_,_,rfl,rfl,(by show (0:Int) < 10;decide),.inl ⟨p,_,_,.str sg,rfl,rfl,.of z0c,sa,?_⟩⟩
 generalize upd H2 p (.lst [V.str "",.str "not",.str "+",.str "-",.str "<",.str "=",.str "and",.str "or",.str "pick",.str "="])=H3 at s3 b1 b2
 clear a1 a2 a1' a2' s1 s2 s12 np sa
 have t1:=f1.few;have t2:=f2.few
 have g1:=f1.high;have g2:=f2.high
 rcases cs with rfl | rfl | rfl | ⟨g,gt,rfl⟩
 · refine⟨_,rfl,.inr (.inl ⟨_,_,rfl,rfl,_,rfl,z1C (fun _=>?_) (fun c=>absurd rfl c)⟩)⟩
   exact⟨_,rfl,q p1 e1 H3 s3 b1 ⟨f1.ok,by omega,by omega,f1.sub⟩⟩
 · refine⟨_,rfl,.inr (.inl ⟨_,_,rfl,rfl,_,rfl,z1C (fun c=>absurd c (by decide +kernel)) (fun _=>nxt ?_)⟩)⟩
   refine⟨_,rfl,.inr (.inl ⟨_,_,rfl,rfl,_,rfl,z1C (fun _=>?_) (fun c=>absurd rfl c)⟩)⟩
   refine⟨_,rfl,(by show 2<=sizeLine;decide),fun p np=>q p (.un e1) _ (s3.trans (z0e np _)) (z3i s3 np fun A a=>⟨_,_,rfl,rfl,_,_,rfl,b1 A a,rfl⟩) ⟨f1.ok,?_,?_,f1.sub⟩⟩
   · show e1.high + 1<=1;omega
   · show e1.rds.length<=3;omega
 · refine⟨_,rfl,.inr (.inl ⟨_,_,rfl,rfl,_,rfl,z1C (fun c=>absurd c (by decide +kernel)) (fun _=>nxt ?_)⟩)⟩
   refine⟨_,rfl,.inr (.inl ⟨_,_,rfl,rfl,_,rfl,z1C (fun c=>absurd c (by decide +kernel)) (fun _=>nxt ?_)⟩)⟩
   refine⟨_,rfl,.inr (.inl ⟨_,_,rfl,rfl,_,rfl,z1C (fun _=>?_) (fun c=>absurd rfl c)⟩)⟩
   refine⟨_,rfl,_,rfl,_,rfl,c,4,rfl,by decide,by decide,fun r r0 r1=>⟨_,rfl,r,l,nm,rfl,r0,r1,s3.seq ql,l63,fun p4 e4 H4 s4 a4 f4=>⟨(by show 4<=sizeLine;decide),fun p np=>?_⟩⟩⟩
   have t4:=f4.few;have g4:=f4.high
   refine q p (.pick e1 e2 e4) _ ((s3.trans s4).trans (z0e np _)) (z3i (s3.trans s4) np fun A a=>⟨_,_,rfl,rfl,_,_,rfl,b1.same s4 A a,_,_,rfl,b2.same s4 A a,_,_,rfl,a4.back s3 A a,rfl⟩) ⟨⟨f1.ok,f2.ok,f4.ok⟩,?_,?_,?_⟩
   · show max e1.high (max e2.high e4.high) + 1<=1;omega
   · show (e1.rds ++ (e2.rds ++ e4.rds)).length<=3;rw[jJ,jJ];omega
   · exact fun x hx=>(ji.mp hx).elim (f1.sub x) fun hx=>(ji.mp hx).elim (f2.sub x) (f4.sub x)
 · obtain⟨n1,n2,n3⟩:=y6o gt
   refine⟨_,rfl,.inr (.inl ⟨_,_,rfl,rfl,_,rfl,z1C (fun c=>absurd c n1) (fun _=>nxt ?_)⟩)⟩
   refine⟨_,rfl,.inr (.inl ⟨_,_,rfl,rfl,_,rfl,z1C (fun c=>absurd c n2) (fun _=>nxt ?_)⟩)⟩
   refine⟨_,rfl,.inr (.inl ⟨_,_,rfl,rfl,_,rfl,z1C (fun c=>absurd c n3) (fun _=>nxt ?_)⟩)⟩
   refine⟨_,rfl,_,rfl,_,rfl,(by show 3<=sizeLine;decide),fun p np=>q p (.bi g e1 e2) _ (s3.trans (z0e np _)) (z3i s3 np fun A a=>⟨_,_,rfl,rfl,_,_,rfl,b1 A a,_,_,rfl,b2 A a,rfl⟩) ⟨⟨gt,f1.ok,f2.ok⟩,?_,?_,?_⟩⟩
   · show max e1.high e2.high + 1<=1;omega
   · show (e1.rds ++ e2.rds).length<=3;rw[jJ];omega
   · exact fun x hx=>(ji.mp hx).elim (f1.sub x) (f2.sub x)
theorem y6e{ix:List Nat}{wi:TI}{te:TE}{g:TG}{D:Ends}{σ:St}{H:Hp}(h:wi σ H (z1m ix te σ fun x H1=>g x σ H1 D.nx)):y2p (z3Z ix wi z6G te) g D σ H:=h
theorem y6C{P:V->Prop}:∀ {l:List Unit}{ys:List V},Paired (fun _ v=>P v) l ys->(∀ y∈ys,P y)/\ys.length=l.length
 | _,_,.nil=>⟨fun _ h=>(nomatch h),rfl⟩
 | _,_,.cons h t=>by
  obtain⟨h1,h2⟩:=y6C t
  exact⟨fun y hy=>(jH.mp hy).elim (fun e=>e ▸ h) (h1 y),by rw[jp,jp,h2]⟩
theorem y0Q{n:Nat}{ix:List Nat}{te:TE}{σ:St}{H:Hp}{Q:VK}(P:Hp->V->Prop)(mono:∀ {H H':Hp}{v:V},Same H H'->P H v->P H' v)(hz:n<=sizeLine)
 (step:∀ (i:Nat) (Da:Addr) (H':Hp) (R:VK),i < n->Same H H'->H Da=none->(∃ o,H' Da=some o)->(∀ y H'',Same H' H''->P (z9u Da H'') y->R y H'')->te (some (.int (0 + (i:Nat))) :: cap ix σ) H' R)
 (fin:∀ p H' ys,Same H H'->H p=none->H' p=some (.lst ys)->ys.length=n->(∀ y∈ys,P H' y)->Q (.ref p) H'):z1m ix te σ Q (Itr 0 n) H :=
 z8y (α:=Unit) (fun H _ v=>P H v) (fun s h=>mono s h) n (fun i => .int (0 + (i:Nat))) (List.replicate n ()) (List.length_replicate ..) hz (fun _ _=>jF _) (fun i H' hi sm=>⟨hi,fun x H'' hy=>⟨hy.2,hy.1⟩⟩) (fun i _ Da H' R hi _ sm nD oD hR=>step i Da H' R hi sm nD oD hR)
  fun p H' ys s1 np e pr=>by
   obtain⟨h1,h2⟩:=y6C pr
   exact fin p H' ys s1 np e (by rw[h2,List.length_replicate]) h1
theorem z9r{lo hi:Int}:∀ {ys:List V},(∀ y∈ys,∃ n:Int,y = .int n/\lo<=n/\n<=hi)->∃ ws:List Int,ys=ws.map V.int/\∀ w∈ws,lo<=w/\w<=hi
 | [],_=>⟨[],rfl,fun _ h=>(nomatch h)⟩
 | y :: ys,h=>by
  obtain⟨n,rfl,n0,n1⟩:=h _ (jX ..)
  obtain⟨ws,rfl,h1⟩:=z9r (ys:=ys) fun z hz=>h z (jQ _ hz)
  exact⟨n :: ws,rfl,fun w hw=>(jH.mp hw).elim (fun e=>e ▸ ⟨n0,n1⟩) (h1 w)⟩
def OcP(H0:Hp)(W:Int)(H:Hp)(p:Int×Int)(y:V):Prop:=∃ (c c2:Addr),y = .ref c/\H c=some (.tup [.int p.1,.ref c2])/\H c2=some (.tup (tpF (Rat.divInt p.2 W)))/\H0 c=none/\H0 c2=none
theorem y6G{H0 H:Hp}{W:Int}:∀ {l:List (Int×Int)}{ys:List V},Paired (OcP H0 W H) l ys->(D.deeps (l.map (dO W))<=2/\D.noLs (l.map (dO W))=true)/\∀ A,Al A H0->IsDs K (hid A H) (l.map (dO W)) ys
 | [],_,.nil=>⟨⟨jR _,rfl⟩,fun _ _=>rfl⟩
 | p :: l,_,.cons h t=>by
  obtain⟨c,c2,rfl,h1,h2,n1,n2⟩:=h
  obtain⟨⟨d,dn⟩,r⟩:=y6G t
  refine⟨⟨?_,dn⟩,fun A al=>⟨_,_,rfl,⟨c,_,rfl,.of (z3j (al.not n1) h1),_,_,rfl,rfl,_,_,rfl,⟨c2,_,rfl,.of (z3j (al.not n2) h2),_,_,rfl,rfl,_,_,rfl,rfl,rfl⟩,rfl⟩,r A al⟩⟩
  show max (max 0 (max (max 0 (max 0 0) + 1) 0) + 1) (D.deeps (l.map (dO W)))<=2
  omega
def prs(st:Int)(ws:List Int):List (Int×Int):=(List.range ws.length).map fun k=>(st + (0 + (k:Nat)),ws.getD k 0)
theorem y3h(st:Int)(ws:List Int):(prs st ws).map Prod.snd=ws:=by
 unfold prs
 rw[jd]
 refine kS (by rw[jA,kQ]) fun i h1 h2=>?_
 rw[kF,List.getElem_range]
 show ws.getD i 0=ws[i]
 rw[jM,jB h2];rfl
theorem y7K(st:Int)(ws:List Int):((prs st ws).map Prod.fst).Nodup:=by
 unfold prs
 rw[jd,jl,j5]
 refine List.Pairwise.imp_of_mem ?_ (jl.mp List.nodup_range)
 intro a b _ _ ne e
 have e:st + (0 + (a:Nat))=st + (0 + (b:Nat)):=e
 exact ne (by omega)
theorem y9K{st:Int}{ws:List Int}(h:∀ w∈ws,1<=w/\w<=10 ^ 9)(l:ws.length<=6)(p:1<=ws.sum):y6i ((prs st ws).map (dO ws.sum)):=by
 refine⟨prs st ws,ws.sum,rfl,y7K st ws,fun x hx=>h _ ?_,by rw[y3h],p,by unfold prs;rw[jA,kQ];exact l⟩
 rw[<- y3h st ws]
 exact jU.mpr ⟨x,hx,rfl⟩
theorem y9P{os:List D}(h:y6i os):y6i os.reverse:=by
 obtain⟨l,W,rfl,h1,h2,h3,h4,h5⟩:=h
 refine⟨l.reverse,W,by rw[List.map_reverse],?_,fun p hp=>h2 p (List.mem_reverse.mp hp),?_,h4,by rw[List.length_reverse];exact h5⟩
 · rw[List.map_reverse];exact jl.mpr (List.pairwise_reverse.mpr ((jl.mp h1).imp Ne.symm))
 · rw[List.map_reverse,List.sum_reverse];exact h3
theorem y0C{H:Hp}:∀ {ds:List D}{xs:List V},IsDs K H ds xs->IsDs K H ds.reverse xs.reverse
 | [],_,h=>by rw[show _=[] from h];rfl
 | d :: ds,_,⟨x,r,e,h1,h2⟩=>by
  rw[e,kY,kY]
  exact (y0C h2).append ⟨x,[],rfl,h1,rfl⟩
theorem y0v:∀ {a b:List D},D.noLs a=true->D.noLs b=true->D.noLs (a ++ b)=true
 | [],_,_,h=>h
 | d :: a,b,h1,h2=>by
  have h1':(d.noL && D.noLs a)=true:=h1
  show (d.noL && D.noLs (a ++ b))=true
  rw[jz]at h1' ⊢
  exact⟨h1'.1,y0v h1'.2 h2⟩
theorem y0u:∀ {a:List D},D.noLs a=true->D.noLs a.reverse=true
 | [],h=>h
 | d :: a,h=>by
  have h':(d.noL && D.noLs a)=true:=h
  rw[jz]at h'
  rw[kY]
  exact y0v (y0u h'.2) (by show (d.noL && true)=true;rw[h'.1];rfl)
theorem y4g:∀ (ds:List D) (n:Nat),D.deeps ds<=n->D.deeps ds.reverse<=n:=by
 have app:∀ (a b:List D) (n:Nat),D.deeps a<=n->D.deeps b<=n->D.deeps (a ++ b)<=n:=by
  intro a
  induction a with
  | nil=>intro b n _ h;exact h
  | cons d a ih =>
   intro b n h1 h2
   have h1':max d.deep (D.deeps a)<=n:=h1
   show max d.deep (D.deeps (a ++ b))<=n
   have:=ih b n (by omega) h2
   omega
 intro ds
 induction ds with
 | nil=>intro n h;exact h
 | cons d ds ih =>
  intro n h
  have h':max d.deep (D.deeps ds)<=n:=h
  rw[kY]
  refine app _ _ n (ih n (by omega)) ?_
  show max d.deep 0<=n
  omega
def y2A(K:PySem.W.Frag):Sp:=fun vs H Q _=>∃ (c m:Int) (b:Bool),vs=[.int c,.int m,.bl b]/\1<=m/\m<=6/\∀ (p:Addr) (os:List D) (H':Hp),Same H H'->IsA K H H' (.lst os) (.ref p)->D.deeps os<=2/\D.noLs os=true/\y6i os->Q (.ref p) H'
theorem y7V(B:Bl mg)(z0N:Def P w K mg base "_law_mixed" 1 ["_law_cell", "_law_k"] z5b)(z9E:Def P w K mg base "_law_low" 2 ["_law_top", "_law_bottom"] y6s)(F:Fn K mg "_law_outcomes" z2l ["_law_cell", "_law_many", "_law_far"]):Def P w K mg base "_law_outcomes" 3 ["_law_cell", "_law_many", "_law_far"] (y2A K):=by
 refine F.ok z0X (fun vs H Q E h=>?_) (fun f cdv A outer s H vs Q E hr h=>?_)
 · obtain⟨c,m,b,rfl,_⟩:=h;rfl
 obtain⟨c,m,b,rfl,m1,m6,q⟩:=h
 have big:(100000:Nat) < sizeLine:=by decide
 refine⟨_,(@z0b _ _ _ _ _ (z0t (i:=3) z0X.nd rfl (by first | exact Or.inl rfl | exact Or.inr rfl) (z0p z8h (z0p z0L (z0p z1y (pv 0) z0d) z0d) z0d))
  (@z0b _ _ _ _ _ (z0B (z0j (z0x.or (z0z.or (z0A.or (z0w K rfl hr.units)))) (z0p z0L (z0p z1y (pv 0) z0d) z0d) z0d (z0k _)) (@z0g _ _ _ (z0t (i:=3) z0X.nd rfl (by first | exact Or.inl rfl | exact Or.inr rfl) (z0p z1k (z0p z0L (z0p z8i (z0r z0N hr rfl (z0a (pv 0) (z0a z0d z0f))) z0d) (z0p z8i z0d z0d)) (z0p z8h z0d (z0p z1k z0d (z0p z0L (z0p z1y (pv 0) z0d) z0d)))))) z0m)
  (@z0b _ _ _ _ _ (z0t (i:=4) z0X.nd rfl (by first | exact Or.inl rfl | exact Or.inr rfl) (z1u (CompOk.of (x := "_law_k") (M:=["_law_cell"]) (ix:=[0]) rfl rfl (by decide +kernel) (by decide +kernel) rfl ⟨rfl,trivial⟩ (by rfl) ⟨⟨rfl,rfl,rfl,rfl⟩,trivial⟩) rfl (by decide +kernel) (z2z rfl B.range (z0a (pv 1) z0f)) (fun _ _ _ _ _=>z0V) (fun _ _ _ _ _=>(z0p (z0R.or (z0q.or (z0Q.or (z0y K rfl)))) z0d (z0p z0L (z0p z1y (z0r z0N hr rfl (z0a (pv 1) (z0a (z0p (z0R.or (z0q.or (z0Q.or (z0y K rfl)))) z0d (pv 0)) z0f))) z0d) z0d)))))
  (@z0b _ _ _ _ _ (z0B (z1Z (pv 2)) (@z0g _ _ _ (z0t (i:=4) z0X.nd rfl (by first | exact Or.inl rfl | exact Or.inr rfl) (z1u (CompOk.of (x := "_law_k") (M:=["_law_cell"]) (ix:=[0]) rfl rfl (by decide +kernel) (by decide +kernel) rfl ⟨rfl,trivial⟩ (by rfl) ⟨⟨rfl,rfl,rfl,rfl⟩,trivial⟩) rfl (by decide +kernel) (z2z rfl B.range (z0a (pv 1) z0f)) (fun _ _ _ _ _=>z0V) (fun _ _ _ _ _=>(z0p (z0R.or (z0q.or (z0Q.or (z0y K rfl)))) z0d (z0p z0L (z0r z0N hr rfl (z0a (pv 1) (z0a (z0p (z0R.or (z0q.or (z0Q.or (z0y K rfl)))) z0d (pv 0)) z0f))) (z0p z8i z0d z0d))))))) z0m)
  (@z0b _ _ _ _ _ (z0t (i:=5) z0X.nd rfl (by first | exact Or.inl rfl | exact Or.inr rfl) (z0u (y4t K rfl rfl) rfl B.sum PyProof.Rows.boot_sum (z0a (pv 4) z0f)))
  (@z0b _ _ _ _ _ (y3g (j:=6) z0X.nd rfl rfl (CompOk.of (x := "_law_k") (M:=["_law_start", "_law_whole", "_law_weights"]) (ix:=[3,5,4]) rfl rfl (by decide +kernel) (by decide +kernel) rfl ⟨rfl,⟨rfl,⟨rfl,trivial⟩⟩⟩ (by rfl) ⟨⟨rfl,rfl,rfl,rfl⟩,⟨⟨rfl,rfl,rfl,rfl⟩,⟨⟨rfl,rfl,rfl,rfl⟩,trivial⟩⟩⟩) rfl (by decide +kernel) (z2z rfl B.range (z0a (pv 1) z0f)) (fun _ _ _ _ _=>z0V) (fun _ _ _ _ _=>(z1j (z0a (z0p (z0R.or (z0q.or (z0Q.or (z0y K rfl)))) (pv 1) (pv 0)) (z0a (z0r z9E hr rfl (z0a (z0s (z0i K rfl) (pv 3) (pv 0) (fun _ _=>rfl)) (z0a (pv 2) z0f))) z0f)))))
  (@z0b _ _ _ _ _ (z0B (z0j (z0x.or (z0z.or (z0A.or (z0w K rfl hr.units)))) (z0p z0L (z0r z0N hr rfl (z0a (pv 0) (z0a z0d z0f))) z0d) z0d (z0k _)) (@z0g _ _ _ (z0o (y1p K rfl rfl rfl B.list PyProof.Rows.boot_list rfl B.reversed PyProof.Rows.boot_reversed (pv 6)))) z0m)
  (@z0g _ _ _ (z0o (pv 6)))))))))),?_⟩
 refine⟨_,rfl,_,_,rfl,rfl,⟨by decide,by decide⟩,_,_,rfl,rfl,(by show (0:Int) < 5;decide),_,_,rfl,rfl,?_⟩
 refine⟨_,rfl,_,_,rfl,rfl,⟨by decide,by decide⟩,_,_,rfl,rfl,(by show (0:Int) < 8;decide),.inl ⟨_,_,rfl,rfl,_,rfl,y8n (fun σ H'=>H'=H/\∃ st:Int,σ=[some (.int c),some (.int m),some (.bl b),some (.int st),none,none,none]) ?_ (fun _ R hR=>?_) (fun _ R hR=>hR _ _ ⟨rfl,_,rfl⟩)⟩⟩
 rotate_left
 · refine⟨_,rfl,c,3,rfl,by decide,by decide,fun r r0 r1=>?_⟩
   refine⟨_,_,rfl,rfl,⟨by decide,by decide,by omega⟩,_,_,rfl,rfl,⟨by decide,by decide,by decide⟩,_,_,rfl,rfl,(by show (0:Int) < 10 ^ 59;decide),?_⟩
   have e0:=kT (r ^ Int.toNat 7) (show (10:Int) ^ Int.toNat 59≠0 by decide)
   have e1:=kN (r ^ Int.toNat 7) (show (0:Int) < 10 ^ Int.toNat 59 by decide)
   generalize r ^ Int.toNat 7 % 10 ^ Int.toNat 59=z at e0 e1
   have e2:(10:Int) ^ Int.toNat 59=10 ^ 59:=rfl
   rw[e2]at e1
   refine⟨_,rfl,_,_,rfl,rfl,⟨by decide,by decide⟩,_,_,rfl,rfl,(by show (0:Int) < 2;decide),_,_,rfl,rfl,z3G (m:=3) (n:=3) (by decide) (by omega) (by decide),_,_,rfl,rfl,_,_,rfl,rfl,z3G (m:=200) (n:=3) (by omega) (by omega) (by decide),hR _ _ ⟨rfl,_,rfl⟩⟩
 rintro σ H' ⟨rfl,st,rfl⟩
 have mN:m.toNat<=6/\1<=m.toNat:=by omega
 -- weights
 refine z7C ⟨_,rfl,m,rfl,by omega,by omega,?_⟩
 refine y0Q (fun _ y=>∃ n:Int,y = .int n/\1<=n/\n<=10 ^ 9) (fun _ h=>h) (by omega) (fun i Da H1 R hi s1 _ _ hR=>?_) (fun wa H1 ys s1 nwa ewa lys hys=>?_)
 · refine⟨_,rfl,_,rfl,.inl ⟨_,_,rfl,rfl,c,_,rfl,by omega,by omega,fun r r0 r1=>⟨_,_,rfl,rfl,⟨by decide,by decide⟩,_,_,rfl,rfl,(by show (0:Int) < 4;decide),.inl ⟨_,_,rfl,rfl,hR _ _ (Same.refl _) ⟨_,rfl,by omega,by omega⟩⟩⟩⟩⟩
 obtain⟨ws,rfl,hws⟩:=z9r hys
 rw[jA]at lys
 dsimp only[z1g]
 refine⟨_,rfl,_,rfl,y5P (fun σ H2=>Same H' H2/\∃ (wa:Addr) (ws:List Int),σ=[some (.int c),some (.int m),some (.bl b),some (.int st),some (.ref wa),none,none]/\H2 wa=some (.lst (ws.map V.int))/\ws.length=m.toNat/\∀ w∈ws,1<=w/\w<=10 ^ 9) ?_ (fun R hR=>?_) (fun R hR=>hR _ _ ⟨s1,wa,ws,rfl,ewa,lys,hws⟩)⟩
 rotate_left
 · refine y6e ⟨_,rfl,m,rfl,by omega,by omega,?_⟩
   refine y0Q (fun _ y=>∃ n:Int,y = .int n/\1<=n/\n<=10 ^ 9) (fun _ h=>h) (by omega) (fun i Da H2 R' hi s2 _ _ hR'=>?_) (fun wb H2 ys s2 nwb ewb lyb hyb=>?_)
   · have e8:(10:Int) ^ Int.toNat 8=10 ^ 8:=rfl
     refine⟨_,rfl,_,rfl,.inl ⟨_,_,rfl,rfl,c,_,rfl,by omega,by omega,fun r r0 r1=>⟨_,_,rfl,rfl,⟨by decide,by decide,by decide⟩,_,_,rfl,rfl,(by show (0:Int) < 10 ^ 8;decide),.inl ⟨_,_,rfl,rfl,hR' _ _ (Same.refl _) ⟨_,rfl,?_,?_⟩⟩⟩⟩⟩
     · rw[e8];omega
     · rw[e8];omega
   · obtain⟨wz,rfl,hwz⟩:=z9r hyb
     rw[jA]at lyb
     exact hR _ _ ⟨s1.trans s2,wb,wz,rfl,ewb,lyb,hwz⟩
 clear hys lys hws ewa nwa s1 ws wa H1
 rintro σ H1 ⟨s1,wa,ws,rfl,ewa,lws,hws⟩
 have sb:=z6H (B:=10 ^ 9) (l:=ws) fun n hn=>⟨by have:=(hws n hn).1;omega,(hws n hn).2⟩
 have sp:1<=ws.sum:=by
  match ws,lws,hws with
  | [],h,_=>rw[kX]at h;omega
  | a :: r,_,hw =>
   have h1:=(hw a (jX ..)).1
   have h2:=(z6H (B:=10 ^ 9) (l:=r) fun n hn=>⟨by have:=(hw n (jQ _ hn)).1;omega,(hw n (jQ _ hn)).2⟩).1
   rw[List.sum_cons];omega
 have sl:(10:Int) ^ 9 * (ws.length:Int)<=10 ^ 9 * 6:=Int.mul_le_mul_of_nonneg_left (by omega) (by decide)
 refine⟨_,rfl,wa,ws,rfl,.of ewa,(fun n hn=>⟨by have:=(hws n hn).1;omega,(hws n hn).2⟩),by omega,?_⟩
 obtain⟨W,eW⟩:∃ W,W=ws.sum:=⟨_,rfl⟩
 rw[<- eW]at sb sp ⊢
 dsimp only[z1g]
 refine z7C ⟨_,rfl,m,rfl,by omega,by omega,?_⟩
 have lp:(prs st ws).length=m.toNat:=by unfold prs;rw[jA,kQ];exact lws
 refine z8y (OcP H' W) (fun {H2 H3 p v} sm ⟨c,c2,h1,h2,h3,h4⟩=>⟨c,c2,h1,sm _ _ h2,sm _ _ h3,h4⟩) m.toNat (fun i => .int (0 + (i:Nat))) (prs st ws) lp (by omega) (fun _ _=>jF _) (fun i H' hi sm=>⟨hi,fun x H'' hy=>⟨hy.2,hy.1⟩⟩) (fun i pq Da H2 R hi ei s2 nD oD hR=>?_) (fun pa H2 ys s2 npa epa prd=>?_)
 · obtain⟨o,eD⟩:=oD
   have hi':i < ws.length:=by omega
   have epq:pq=(st + (0 + (i:Nat)),ws[i]):=by
    unfold prs at ei
    rw[jC,List.getElem?_range hi']at ei
    have ei:=(Option.some.inj ei).symm
    dsimp only at ei
    rw[jM,jB hi']at ei
    exact ei
   subst epq
   have at_:atI (ws.map V.int) (0 + (i:Nat))=some (.int ws[i]):=by rw[Int.zero_add];exact z0Y (by rw[jC,jB hi'];rfl)
   have hw:=hws _ (jZ hi')
   refine⟨_,rfl,_,rfl,.inl ⟨_,_,rfl,rfl,_,rfl,_,rfl,.inl ⟨wa,_,_,.int ws[i],rfl,rfl,.of (s2 _ _ ewa),at_,_,rfl,ws[i],W,rfl,by omega,by omega,by omega,by omega,fun p2 H3 s3 np2 e2=>⟨(by show 2<=sizeLine;decide),fun p3 np3=>?_⟩⟩⟩⟩
   have s4:=z0e np3 (.tup [V.int (st + (0 + (i:Nat))),.ref p2])
   have nD2:p2≠Da:=fun z=>by rw[z,eD]at np2;cases np2
   have nD3:p3≠Da:=fun z=>by rw[z,s3 _ _ eD]at np3;cases np3
   refine hR _ _ (s3.trans s4) ⟨p3,p2,rfl,?_,?_,(s1.trans s2).free (s3.free np3),(s1.trans s2).free np2⟩
   · rw[y3V nD3,z0c]
   · rw[y3V nD2];exact s4 _ _ e2
 obtain⟨od,oz⟩:=y6G (K:=K) prd
 have ok3:y6i ((prs st ws).map (dO W)):=by rw[eW];exact y9K hws (by omega) (by omega)
 generalize (prs st ws).map (dO W)=os at od oz ok3
 have npH:H' pa=none:=s1.free npa
 refine⟨_,rfl,c,5,rfl,by decide,by decide,fun r r0 r1=>⟨_,_,rfl,rfl,(by show (0:Int) < 2;decide),.inl ⟨_,_,rfl,rfl,_,rfl,z1C (fun _=>?_) (fun _=>nxt ?_)⟩⟩⟩
 · refine⟨_,rfl,pa,_,rfl,.of epa,fun l nl=>?_⟩
   have sL:=z0e nl (.lst ys.reverse)
   exact q l os.reverse _ ((s1.trans s2).trans sL) (fun A al=>⟨l,_,rfl,.of (z3j (al.not ((s1.trans s2).free nl)) z0c),(y0C (oz A al)).same (z1O sL)⟩) ⟨y4g _ _ od.1,y0u od.2,y9P ok3⟩
 · exact⟨_,rfl,q pa os _ (s1.trans s2) (fun A al=>⟨pa,_,rfl,.of (z3j (al.not npH) epa),oz A al⟩) ⟨od.1,od.2,ok3⟩⟩
theorem y0S{J:It}{ix:List Nat}{te:TE}{σ:St}{H:Hp}{Q:VK}(n:Nat)(xs:Nat->V)(hz:n<=sizeLine)(I:Nat->Addr->List V->Hp->Prop)
 (z2w:∀ Da,H Da=none->I 0 Da [] (upd H Da (.lst []))) (hlen:∀ i Da ys H',I i Da ys H'->ys.length=i)
 (hstop:∀ Da ys H',I n Da ys H'->J.stop n H') (hgo:∀ i Da ys H',i < n->I i Da ys H'->J.go i H'/\∀ x H'',J.yld i H' x H''->x=xs i/\H''=H')
 (step:∀ (i:Nat) (Da:Addr) (ys:List V) (H':Hp) (R:VK),i < n->I i Da ys H'->(∀ y H'',H'' Da=some (.lst ys)->I (i + 1) Da (ys ++ [y]) (upd H'' Da (.lst (ys ++ [y])))->R y H'')->te (some (xs i) :: cap ix σ) H' R)
 (fin:∀ Da ys H',I n Da ys H'->Q (.ref Da) H'):z1m ix te σ Q J H:=by
 intro Da hD
 refine⟨fun i m H'=>m=n - i/\i<=n/\∃ ys,I i Da ys H',⟨n,by simp,jR _,[],z2w Da hD⟩,?_⟩
 rintro i m H' ⟨rfl,hi,ys,hI⟩
 by_cases hlt:i < n
 · obtain⟨g,y⟩:=hgo i Da ys H' hlt hI
   refine .inr ⟨g,fun x H'' hy=>?_⟩
   obtain⟨rfl,rfl⟩:=y x H'' hy
   show te (some (xs i) :: cap ix σ) H'' _
   refine step i Da ys H'' _ hlt hI fun y H3 e3 h3=>?_
   have:=hlen i Da ys _ hI
   exact⟨ys,e3,by omega,n - (i + 1),by omega,rfl,hlt,_,h3⟩
 · have e:i=n:=by omega
   subst e
   exact .inl ⟨hstop Da ys H' hI,fin Da ys H' hI⟩
theorem y0o:∀ {ns:List Nat},(∀ n∈ns,n<=500)->∀ i,z8c (ns.take i)<=500 ^ i
 | ns,h,0=>by rw[List.take_zero];exact jF _
 | ns,h,i + 1=>by
  by_cases hi:i < ns.length
  · rw[jL hi,z4j,Nat.pow_succ]
    exact Nat.mul_le_mul (y0o h i) (h _ (jZ hi))
  · rw[js (by omega),<- js (l:=ns) (i:=i) (by omega)]
    exact jc (y0o h i) (Nat.pow_le_pow_right (by decide) (by omega))
def y2y(K:PySem.W.Frag):Sp:=fun vs H Q _=>∃ (p:Addr) (ns:List Nat),vs=[.ref p]/\SqL K H p (ns.map fun (n:Nat)=>V.int (n:Nat))/\ns.length<=12/\(∀ n∈ns,n<=500)/\Q (.int (z8c ns:Nat)) H
theorem y1u(B:Bl mg)(F:Fn K mg "product" z4b ["numbers"]):Def P w K mg base "product" 1 ["numbers"] (y2y K):=by
 refine F.ok z3q (fun vs H Q E h=>?_) (fun f cdv A outer s H vs Q E hr h=>?_)
 · obtain⟨p,ns,rfl,_⟩:=h;rfl
 obtain⟨p,ns,rfl,qp,l12,b5,q⟩:=h
 refine⟨_,(@z0b _ _ _ _ _ (z0t (i:=1) z3q.nd rfl (by first | exact Or.inl rfl | exact Or.inr rfl) z0d)
  (@z0b _ _ _ _ _ (z1q PassesOwn.never rfl (z0C (pv 0)) (z0E (i:=2) z3q.nd rfl (by first | exact Or.inl rfl | exact Or.inr rfl)) (@z0g _ _ _ (y9I (i:=1) z3q.nd rfl (by first | exact Or.inl rfl | exact Or.inr rfl) (pv 2) x0p)))
  (@z0g _ _ _ (z0o (pv 1))))),?_⟩
 dsimp only[z1g,List.set,L2.z2w]
 refine⟨_,rfl,p,rfl,⟨_,qp⟩,z1c (K:=K) (xs:=ns.map fun (n:Nat)=>V.int (n:Nat)) (fun i σ H'=>H'=H/\∃ c,σ=[some (.ref p),some (.int (z8c (ns.take i):Nat)),c]) ⟨rfl,none,rfl⟩ (fun i σ H' _ h=>by rw[h.1];exact qp) ?_ ?_⟩
 · rintro i x σ H' hx ⟨rfl,c,rfl⟩
   have hi:i < ns.length:=by have:=(jE.mp hx).1;simpa using this
   rw[jC,jB hi]at hx
   cases hx
   have h1:=y0o b5 i
   have h2:=b5 _ (jZ hi)
   have h3:(500:Nat) ^ i<=500 ^ 12:=Nat.pow_le_pow_right (by decide) (by omega)
   have h4:(500:Nat) ^ 12 < 2 ^ 120:=by decide
   have h5:(500:Nat) < 2 ^ 10:=by decide
   refine⟨_,rfl,_,rfl,_,_,rfl,rfl,z3G (m:=120) (n:=10) (by rw[Int.natAbs_natCast];omega) (by rw[Int.natAbs_natCast];omega) (by decide),rfl,some (.int (ns[i]:Nat)),?_⟩
   rw[jL hi,z4j]
   rfl
 · rintro σ H' ⟨rfl,c,rfl⟩
   rw[jA,jh]
   exact⟨_,rfl,q⟩
def dT(c:List Int):D := .tup (c.map D.int)
def dL(c:List Int):D := .lst (c.map D.int)
theorem z3C{H:Hp}:∀ c:List Int,IsDs K H (c.map D.int) (c.map V.int)
 | []=>rfl
 | _ :: c=>⟨_,_,rfl,rfl,z3C c⟩
theorem y4m:∀ cs:List (List Int),D.noLs (cs.map dT)=true
 | []=>rfl
 | c :: cs=>by
  show ((dT c).noL && D.noLs (cs.map dT))=true
  rw[y4m cs,Bool.and_true]
  exact z1N c
theorem y0V{x y:V}{H:Hp}{Q:VK}{a b:Addr}{xs ys:List V}(ex:x = .ref a)(ey:y = .ref b)(ha:SqT K H a xs)(hb:SqT K H b ys)(hz:xs.length + ys.length<=sizeLine)(k:∀ p H',Same H H'->SqT K H' p (xs ++ ys)->Q (.ref p) H'):y9G K x y H Q :=
 ⟨a,b,xs,ys,ex,ey,ha,hb,hz,fun e=>k b H (Same.refl _) (by rw[e];exact hb),fun _ e=>k a H (Same.refl _) (by rw[e,List.append_nil];exact ha),fun _ p hp=>k p _ (z0e hp _) (.of z0c)⟩
theorem y0D{H:Hp}{p:Addr}{l l':List V}(e:H p=some (.lst l)):∀ {cs:List (List Int)}{xs:List V},IsDs K H (cs.map dT) xs->IsDs K (upd H p (.lst l')) (cs.map dT) xs:=fun {cs xs} h=>IsDs.updL e (y4m cs) h
def z6i(K:PySem.W.Frag):Sp:=fun vs H Q _=>∃ (p:Addr) (ls:List (List Int)) (xs:List V),vs=[.ref p]/\SqL K H p xs/\IsDs K H (ls.map dL) xs/\ls.length<=12/\(∀ l∈ls,l≠[])/\(chs ls).length<=500 /\
 ∀ (r:Addr) (ys:List V) (H':Hp),Same H H'->H r=none->H' r=some (.lst ys)->IsDs K H' ((chs ls).map dT) ys->Q (.ref r) H'
theorem y0T{ls:List (List Int)}(ne:∀ l∈ls,l≠[])(i:Nat):(chs (ls.take i)).length<=(chs ls).length:=by
 rw[z3l,z3l,List.map_take]
 refine y0n (fun n hn=>?_) i
 obtain⟨l,hl,rfl⟩:=jU.mp hn
 exact List.length_pos_iff.mpr (ne l hl)
theorem y1y(B:Bl mg)(F:Fn K mg "choices" z4i ["lists"]):Def P w K mg base "choices" 1 ["lists"] (z6i K):=by
 refine F.ok z1R (fun vs H Q E h=>?_) (fun f cdv A outer s H vs Q E hr h=>?_)
 · obtain⟨p,ls,xs,rfl,_⟩:=h;rfl
 obtain⟨p,ls,xs,rfl,qp,dx,l12,ne,c5,q⟩:=h
 have big:(100000:Nat) < sizeLine:=by decide
 have xl:=dx.length
 rw[jA]at xl
 refine⟨_,(@z0b _ _ _ _ _ (@z2s _ 1 _ _ _ _ _ z1R.nd rfl (by first | exact Or.inl rfl | exact Or.inr rfl) (@z4A _ _ _ _ (@y7M _ _ _) rfl) rfl (by first | exact .inl rfl | exact .inr rfl))
  (@z0b _ _ _ _ _ (z1q PassesOwn.never rfl (z0C (pv 0)) (z0E (i:=2) z1R.nd rfl (by first | exact Or.inl rfl | exact Or.inr rfl)) (@z0b _ _ _ _ _ (@z2s _ 3 _ _ _ _ _ z1R.nd rfl (by first | exact Or.inl rfl | exact Or.inr rfl) (@z3Q _ _) rfl (by first | exact .inl rfl | exact .inr rfl))
  (@z0b _ _ _ _ _ (z1q PassesOwn.never rfl (z0C (pv 1)) (z0E (i:=4) z1R.nd rfl (by first | exact Or.inl rfl | exact Or.inr rfl)) (@z0g _ _ _ (z3b (z7g PySem.F.plainAttrs_list PySem.F.slot_list_extend PySem.F.type_list_extend y3A (pv 3) (@z0h _ _ _ _ _ (z1u (CompOk.of (x := "one") (M:=["choice"]) (ix:=[4]) rfl rfl (by decide +kernel) (by decide +kernel) rfl ⟨rfl,trivial⟩ (by rfl) ⟨⟨rfl,rfl,rfl,rfl⟩,trivial⟩) rfl (by decide +kernel) (z0C (pv 2)) (fun _ _ _ _ _=>z0V) (fun _ _ _ _ _=>(z0p (z7j K rfl) (pv 1) (@z5E _ _ _ _ _ (pv 0) rfl)))) z0f rfl)))))
  (@z0g _ _ _ (z0t (i:=1) z1R.nd rfl (by first | exact Or.inl rfl | exact Or.inr rfl) (pv 3))))))
  (@z0g _ _ _ (@z4y _ _ _ _ (pv 1))))),?_⟩
 refine⟨jR _,fun t0 n0=>⟨by show 1<=sizeLine;decide,fun f0 nf0=>?_⟩⟩
 have s0:=z0e n0 (.tup [])
 have s1:=z0e nf0 (.lst [V.ref t0])
 have s01:=s0.trans s1
 dsimp only[z1g,List.set,L2.z2w]
 refine⟨_,rfl,p,rfl,⟨_,s01.seq qp⟩,z1c (K:=K) (xs:=xs) (fun i σ H'=>Same H H'/\∃ (fa:Addr) (ys:List V) (c2 c3 c4:Option V),σ=[some (.ref p),some (.ref fa),c2,c3,c4]/\H fa=none/\H' fa=some (.lst ys)/\IsDs K H' ((chs (ls.take i)).map dT) ys)
  ⟨s01,f0,_,none,none,none,rfl,s0.free nf0,z0c,_,_,rfl,⟨t0,[],rfl,.of (s1 _ _ z0c),rfl⟩,rfl⟩ (fun i σ H' _ h=>h.1.seq qp) ?_ ?_⟩
 · rintro i x σ H1 hx ⟨sm,fa,ys,c2,c3,c4,rfl,nfa,efa,dys⟩
   have hi:i < ls.length:=by have:=(jE.mp hx).1;omega
   obtain⟨y,ey,dy⟩:=dx.get (i:=i) (d:=dL ls[i]) (by rw[jC,jB hi];rfl)
   obtain rfl:x=y:=by rw[hx]at ey;exact Option.some.inj ey
   obtain⟨sa,zs,rfl,qs,dzs⟩:=dy
   rw[z0S dzs]at qs
   have tk:ls.take (i + 1)=ls.take i ++ [ls[i]]:=jL hi
   have ct:=y0T ne (i + 1)
   rw[tk,z4q]at ct ⊢
   have cl:=z4I (chs (ls.take i)) ls[i]
   have lp:1<=ls[i].length:=List.length_pos_iff.mpr (ne _ (jZ hi))
   have hcs:∀ c∈chs (ls.take i),c.length<=12:=fun c hc=>by
    have:=z2u _ (ls.take i) rfl c hc
    rw[jg]at this
    omega
   generalize ls[i]=l at qs ct cl lp ⊢
   generalize chs (ls.take i)=cs at dys ct cl hcs ⊢
   have yl:=dys.length
   rw[jA]at yl
   have csl:cs.length<=cs.length * l.length:=Nat.le_mul_of_pos_right _ lp
   have ll:l.length<=500\/cs.length=0:=by
    by_cases z:cs.length=0
    · exact .inr z
    · have:l.length<=cs.length * l.length:=Nat.le_mul_of_pos_left _ (Nat.pos_of_ne_zero z)
      exact .inl (by omega)
   refine⟨jR _,fun la nla=>?_⟩
   have s2:=z0e nla (.lst [])
   have fla:fa≠la:=z0F efa nla
   have nlaH:H la=none:=sm.free nla
   dsimp only[z1g,List.set]
   have sm2:=sm.trans s2
   refine⟨_,rfl,fa,rfl,⟨_,.of (s2 _ _ efa)⟩,z1c (K:=K) (xs:=ys) (fun j σ H'=>Same H1 H'/\∃ (zs:List V) (c4:Option V),σ=[some (.ref p),some (.ref fa),some (.ref sa),some (.ref la),c4]/\H' la=some (.lst zs)/\IsDs K H' ((chF (cs.take j) l).map dT) zs)
    ⟨s2,[],c4,rfl,z0c,rfl⟩ (fun j σ H' _ h => .of (h.1 _ _ efa)) ?_ ?_⟩
   · rintro j x σ H2 hx2 ⟨sj,zs,c4',rfl,ela,dzs⟩
     have hj:j < cs.length:=by have:=(jE.mp hx2).1;omega
     obtain⟨y,ey,dy⟩:=dys.get (i:=j) (d:=dT cs[j]) (by rw[jC,jB hj];rfl)
     obtain rfl:x=y:=by rw[hx2]at ey;exact Option.some.inj ey
     obtain⟨tc,ws,rfl,qc,dws⟩:=dy
     rw[z0S dws]at qc
     have zl:=dzs.length
     rw[jA,z4I,jg]at zl
     have l5:l.length<=500:=ll.elim id fun z=>by omega
     have jb:min j cs.length * l.length<=cs.length * l.length:=Nat.mul_le_mul_right _ (by omega)
     have tk2:cs.take (j + 1)=cs.take j ++ [cs[j]]:=jL hj
     have hc12:=hcs _ (jZ hj)
     generalize cs[j]=c at qc tk2 hc12
     have qs2:SqL K H2 sa (l.map V.int):=(sm.trans sj).seq qs
     refine⟨_,rfl,.inl ⟨rfl,_,.of ela⟩,y0X ⟨_,rfl,sa,rfl,⟨_,qs2⟩,?_⟩⟩
     refine z4H (K:=K) (xs:=l.map V.int) ((l.map fun o=>c ++ [o]).map dT) qs2 (by rw[jA,jA,jA]) (by rw[jA];omega) (y4m _) (fun k x d H3 R hx hd s3 hR=>?_) (fun lc H3 vs s3 e3 d3=>?_)
     · have hk:k < l.length:=by have:=(jE.mp hx).1;simpa using this
       rw[jC,jB hk]at hx
       rw[jC,jC,jB hk]at hd
       cases hx
       cases hd
       refine⟨_,rfl,_,rfl,by show 1<=sizeLine;decide,fun t1 nt1=>?_⟩
       have s4:=z0e nt1 (.tup [V.int l[k]])
       have sall:=(sm.trans sj).trans (s3.trans s4)
       refine y0V rfl rfl ((sj.trans (s3.trans s4)).tupq qc) (.of z0c) (by rw[jA];show c.length + 1<=_;omega) fun t2 H4 s5 q2=>?_
       refine hR _ _ (s4.trans s5) ⟨t2,_,rfl,q2,?_⟩
       rw[show c.map V.int ++ [V.int l[k]]=(c ++ [l[k]]).map V.int by rw[je];rfl]
       exact z3C _
     · have vl:=d3.length
       rw[jA,jA]at vl
       refine⟨la,lc,zs,vs,rfl,rfl,s3 _ _ ela,e3,by omega,?_⟩
       refine⟨z0G nla (sj.trans s3),_,_,rfl,z0c,?_⟩
       have e1:chF (cs.take (j + 1)) l=chF (cs.take j) l ++ l.map fun o=>c ++ [o]:=by unfold chF;rw[tk2,List.flatMap_append];simp
       rw[e1,je]
       exact (y0D (s3 _ _ ela) (dzs.same s3)).append (y0D (s3 _ _ ela) d3)
   · rintro σ H2 ⟨sj,zs,c4',rfl,ela,dzs⟩
     rw[yl,jh]at dzs
     exact⟨_,rfl,sm.trans sj,la,zs,_,_,_,rfl,nlaH,ela,dzs⟩
 · rintro σ H' ⟨sm,fa,ys,c2,c3,c4,rfl,nfa,efa,dys⟩
   rw[xl,jh]at dys
   exact⟨_,rfl,q fa ys H' sm nfa efa dys⟩
theorem y4o{J:It}{ix:List Nat}{te:TE}{σ:St}{H:Hp}{Q:VK}(rows:List V)(xs:Nat->V)(hz:rows.length<=sizeLine)(hstop:∀ H',Same H H'->J.stop rows.length H')
 (hgo:∀ i H',i < rows.length->Same H H'->J.go i H'/\∀ x H'',J.yld i H' x H''->x=xs i/\H''=H') (step:∀ (i:Nat) (x:V) (H':Hp) (R:VK),rows[i]? = some x->Same H H'->(∀ H'',Same H' H''->R x H'')->te (some (xs i) :: cap ix σ) H' R)
 (fin:∀ p H',Same H H'->H p=none->H' p=some (.lst rows)->Q (.ref p) H'):z1m ix te σ Q J H:=by
 refine y0S rows.length xs hz (fun i Da ys H'=>Same H H'/\H Da=none/\H' Da=some (.lst ys)/\i<=rows.length/\ys=rows.take i) (fun Da f=>⟨z0e f _,f,z0c,jR _,rfl⟩) (fun i Da ys H' h=>by rw[h.2.2.2.2,jg];have:=h.2.2.2.1;omega) (fun Da ys H' h=>hstop H' h.1) (fun i Da ys H' hi h=>hgo i H' hi h.1) (fun i Da ys H' R hi h hR=>?_) (fun Da ys H' h=>?_)
 · obtain⟨s,f,hD,_,rfl⟩:=h
   obtain⟨x,ex⟩:∃ x,rows[i]? = some x:=⟨_,jB hi⟩
   refine step i x H' _ ex s fun H'' s'=>hR _ _ (s' _ _ hD) ⟨z0G f (s.trans s'),f,z0c,hi,?_⟩
   rw[List.take_succ,ex];rfl
 · obtain⟨s,f,hD,_,rfl⟩:=h
   rw[jh]at hD
   exact fin Da H' s f hD
theorem z2E{K:PySem.W.Frag}{a:Addr}{vs:List V}{ix:List Nat}{te:TE}{σ:St}{H:Hp}{Q:VK}(rows:List V)(hS:SqL K H a vs)(hn:rows.length=vs.length)(hz:vs.length<=sizeLine)
 (step:∀ (i:Nat) (y x:V) (H':Hp) (R:VK),vs[i]? = some y->rows[i]? = some x->Same H H'->(∀ H'',Same H' H''->R x H'')->te (some y :: cap ix σ) H' R)
 (fin:∀ p H',Same H H'->H p=none->H' p=some (.lst rows)->Q (.ref p) H'):z1m ix te σ Q (Itl K a) H:=by
 refine y4o rows (fun i=>vs.getD i .non) (by omega) (fun H' sm=>⟨vs,sm.seq hS,by omega⟩) (fun i H' hi sm=>⟨⟨vs,vs[i]'(by omega),sm.seq hS,jB (by omega)⟩,fun x H'' hy=>?_⟩) (fun i x H' R hx sm hR=>?_) fin
 · obtain⟨e,y⟩:=hy
   refine⟨?_,e⟩
   have:=y vs (sm.seq hS)
   rw[jM,this];rfl
 · have hi:i < vs.length:=by have:=(jE.mp hx).1;omega
   have e:vs[i]? = some (vs.getD i .non):=by rw[jM,jB hi];rfl
   exact step i _ x H' R e hx sm hR
structure BookN (H:Hp) (d:Addr) (ks:List Str) (ad:Str->Addr) (kd:Str->List Int):Prop where
 at_:H d=some (.dK (kM ks fun x => .ref (ad x)))
 sub:∀ x∈ks,H (ad x)=some (.lst ((kd x).map V.int))
theorem BookN.same{H H':Hp}{d:Addr}{ks:List Str}{ad:Str->Addr}{kd:Str->List Int}(h:BookN H d ks ad kd)(s:Same H H'):BookN H' d ks ad kd:=⟨s _ _ h.at_,fun x hx=>s _ _ (h.sub x hx)⟩
theorem BookN.put{H:Hp}{d p:Addr}{ks:List Str}{ad:Str->Addr}{kd:Str->List Int}(h:BookN H d ks ad kd){n:Str}{l:List Int}(e:H p=some (.lst (l.map V.int))) :
 BookN (upd H d (.dK (z3O (kM ks fun x => .ref (ad x)) (Sum.inr n) (.ref p)))) d (y0Y ks n) (fun y=>if y=n then p else ad y) (fun y=>if y=n then l else kd y):=by
 have nd:∀ b xs,H b=some (.lst xs)->b≠d:=fun b xs e z=>by rw[z,h.at_]at e;cases e
 refine⟨?_,fun x hx=>?_⟩
 · rw[z0c,y6J]
   refine congrArg (fun z=>some (HO.dK z)) (y0B fun y _=>?_)
   by_cases e:y=n
   · rw[if_pos e,if_pos e]
   · rw[if_neg e,if_neg e]
 · by_cases z:x=n
   · rw[if_pos z,if_pos z,z0n (nd p _ e)];exact e
   · rw[if_neg z,if_neg z]
     have:=h.sub x ((z3B.mp hx).resolve_right z)
     rw[z0n (nd _ _ this)];exact this
theorem BookN.get{H:Hp}{d:Addr}{ks:List Str}{ad:Str->Addr}{kd:Str->List Int}(h:BookN H d ks ad kd){n:Str}(hn:n∈ks):DGet H d (.str n) (some (.ref (ad n))) := .inl ⟨_,Sum.inr n,.inl h.at_,rfl,by rw[y0z,if_pos hn]⟩
theorem z8p(f:Str->V):∀ (ms ks:List Str),z2A (kM ks f) (kM ms f)=kM (unS ks ms) f
 | [],_=>rfl
 | m :: ms,ks=>by
  show z2A (z3O (kM ks f) (Sum.inr m) (f m)) (kM ms f)=_
  rw[y6J,y0B (g:=f) fun y _=>by split;rename_i h;rw[h];rfl,z8p f ms]
  rfl
def y9B(e:Ex)(ch:List Int):D := .tup [dT ch,.int (ev (bk e.nms ch) e)]
theorem y0f(e:Ex):∀ cs:List (List Int),D.noLs (cs.map (y9B e))=true
 | []=>rfl
 | c :: cs=>by
  show ((y9B e c).noL && D.noLs (cs.map (y9B e)))=true
  rw[y0f e cs,Bool.and_true]
  show (D.noLs (c.map D.int) && (true && true))=true
  rw[z1N c];rfl
def Rw.has(r:Rw)(e:Ex):Prop:=(∃ n,r = .lt n e)\/r = .seen e
theorem z4T(e:Ex):e.nms.Nodup:=(z2S (p:=fun _=>True) e ((z0O e).mpr fun _ _=>trivial)).1
theorem y0R{ix:List Nat}{wi:TI}{te:TE}{D:Ends}{σ:St}{H:Hp}(h:wi σ H (z1m ix te σ D.rt)):y9n (z3Z ix wi z6G te) D σ H:=h
theorem y4p{ix:List Nat}{wi:TI}{te:TE}{sp:Sp}{E:XK}{g:TG}{u:TS}{D:Ends}{σ:St}{H:Hp}(h:wi σ H (z1m ix te σ fun x H1=>sp [x] H1 (fun v H2=>g v σ H2 (u D)) E)) :
 y4L (y2p (y1k sp [] E (z1J (z3Z ix wi z6G te) z6F)) g) u D σ H:=h
theorem x0t{H:Hp}{r:Rw}{e:Ex}{x:V}(h:r.has e)(dx:IsD K H (dR r) x):∃ t ys y,x = .ref t/\SqT K H t (ys ++ [y])/\IsD K H (dE e) y:=by
 rcases h with ⟨n,rfl⟩ | rfl
 · obtain⟨a,xs,rfl,qa,_,_,rfl,rfl,_,_,rfl,rfl,y,_,rfl,dy,rfl⟩:=dx
   exact⟨a,[.str "let",.str n],y,rfl,qa,dy⟩
 · obtain⟨a,xs,rfl,qa,_,_,rfl,rfl,y,_,rfl,dy,rfl⟩:=dx
   exact⟨a,[.str "seen"],y,rfl,qa,dy⟩
theorem y3W{r:Rw}{e:Ex}(h:r.has e):r.reads=e.nms:=by rcases h with ⟨n,rfl⟩ | rfl <;> rfl
theorem y5V{r:Rw}{e:Ex}(h:r.has e)(f:r.fine):y8C e:=by rcases h with ⟨n,rfl⟩ | rfl <;> exact f
def y2x(K:PySem.W.Frag):Sp:=fun vs H Q _=>∃ (x:V) (r:Rw) (e:Ex) (d:Addr) (ks:List Str) (ad:Str->Addr) (kd:Str->List Int),vs=[x,.ref d]/\IsD K H (dR r) x/\r.fine/\r.has e/\BookN H d ks ad kd/\(∀ n∈e.nms,n∈ks)/\(∀ n∈e.nms,kd n≠[])/\cntK kd e.nms<=500 /\
 ∀ (p:Addr) (ys:List V) (H':Hp),Same H H'->H' p=some (.lst ys)->IsDs K H' ((chs (e.nms.map kd)).map (y9B e)) ys->Q (.ref p) H'
theorem y9W(B:Bl mg)(z0J:Def P w K mg base "names_read" 13 ["row"] (z6K K))(z5T:Def P w K mg base "value" 12 ["e", "book"] (z6N K 10))(z5W:Def P w K mg base "choices" 1 ["lists"] (z6i K))(F:Fn K mg "row_choices" z1L ["row", "found"]):Def P w K mg base "row_choices" 14 ["row", "found"] (y2x K):=by
 refine F.ok z2q (fun vs H Q E h=>?_) (fun f cdv A outer s H vs Q E hr h=>?_)
 · obtain⟨x,r,e,d,ks,ad,kd,rfl,_⟩:=h;rfl
 obtain⟨x,r,e,d,ks,ad,kd,rfl,dx,hf,he,bk0,sub,kne,c5,q⟩:=h
 have big:(100000:Nat) < sizeLine:=by decide
 have er:=y3W he
 have xo:=y5V he hf
 have nl:=z3f xo
 refine⟨_,(@z0b _ _ _ _ _ (z0t (i:=2) z2q.nd rfl (by first | exact Or.inl rfl | exact Or.inr rfl) (z0r z0J hr rfl (z0a (pv 0) z0f)))
  (@z0b _ _ _ _ _ (z0t (i:=3) z2q.nd rfl (by first | exact Or.inl rfl | exact Or.inr rfl) (z0r z5W hr rfl (z0a (z1u (CompOk.of (x := "name") (M:=["found"]) (ix:=[1]) rfl rfl (by decide +kernel) (by decide +kernel) rfl ⟨rfl,trivial⟩ (by rfl) ⟨⟨rfl,rfl,rfl,rfl⟩,trivial⟩) rfl (by decide +kernel) (z0C (pv 2)) (fun _ _ _ _ _=>z0V) (fun _ _ _ _ _=>(z0T (z1l hr) (pv 1) (pv 0) (fun _ _=>rfl)))) z0f)))
  (@z0g _ _ _ (z0o (z1u (CompOk.of (x := "numbers") (M:=["row", "names"]) (ix:=[0,2]) rfl rfl (by decide +kernel) (by decide +kernel) rfl ⟨rfl,⟨rfl,trivial⟩⟩ (by rfl) ⟨⟨rfl,rfl,rfl,rfl⟩,⟨⟨rfl,rfl,rfl,rfl⟩,trivial⟩⟩) rfl (by decide +kernel) (z0C (pv 3)) (fun _ _ _ _ _=>z0V) (fun _ _ _ _ _=>(z1j (z0a (pv 0) (z0a (z0r z5T hr rfl (z0a (z0s (z0i K rfl) (pv 1) (y5n z9Q z0d) (fun _ _=>rfl)) (z0a (y1r K rfl rfl rfl B.dict PyProof.Rows.boot_dict rfl B.zip PyProof.Rows.boot_zip (z0a (pv 2) (z0a (pv 0) z0f))) z0f))) z0f))))))))),?_⟩
 refine⟨_,rfl,x,r,rfl,dx,hf,fun rl H1 s1 nrl erl=>?_⟩
 rw[er]at erl
 have b1:=bk0.same s1
 dsimp only[z1g]
 refine y4p ⟨_,rfl,rl,rfl,⟨_,.of erl⟩,?_⟩
 refine z2E (K:=K) (e.nms.map fun n=>V.ref (ad n)) (.of erl) (by rw[jA,jA]) (by rw[jA];omega) (fun i y v H' R hy hv sm hR=>?_) (fun p1 H2 s2 np1 e1=>?_)
 · have hi:i < e.nms.length:=by have:=(jE.mp hy).1;simpa using this
   rw[jC,jB hi]at hy hv
   cases hy
   cases hv
   exact⟨_,rfl,_,rfl,d,_,rfl,(b1.same sm).get (sub _ (jZ hi)),hR _ (Same.refl _)⟩
 have b2:=b1.same s2
 have dls:∀ ns:List Str,(∀ n∈ns,n∈ks)->IsDs K H2 ((ns.map kd).map dL) (ns.map fun n=>V.ref (ad n)):=fun ns=>by
  induction ns with
  | nil=>intro _;rfl
  | cons n ns ih =>
   intro h
   exact⟨_,_,rfl,⟨ad n,_,rfl,.of (b2.sub n (h n (jX ..))),z3C _⟩,ih fun m hm=>h m (jQ _ hm)⟩
 have cl:(chs (e.nms.map kd)).length<=500:=by rw[z3l,jd];exact c5
 refine⟨p1,e.nms.map kd,_,rfl,.of e1,dls _ sub,by rw[jA];omega,fun l hl=>?_,cl,fun p2 ys H3 s3 np2 e2 d2=>?_⟩
 · obtain⟨n,hn,rfl⟩:=jU.mp hl
   exact kne n hn
 have s13:=s1.trans (s2.trans s3)
 have erl3:=s3 _ _ (s2 _ _ erl)
 have yl:=d2.length
 rw[jA]at yl
 have call:=z2u _ (e.nms.map kd) rfl
 rw[jA]at call
 dsimp only[z1g,List.set]
 generalize chs (e.nms.map kd)=cs at q d2 yl cl call
 refine y0R ⟨_,rfl,p2,rfl,⟨_,.of e2⟩,?_⟩
 refine z4H (K:=K) (xs:=ys) (cs.map (y9B e)) (.of e2) (by rw[jA];omega) (by omega) (y0f e cs) (fun i y z H4 R hy hz s4 hR=>?_) (fun p H4 zs s4 e4 d4=>q p zs H4 (s13.trans s4) e4 d4)
 have hi:i < cs.length:=by have:=(jE.mp hy).1;omega
 obtain⟨y',ey,dy⟩:=d2.get (i:=i) (d:=dT cs[i]) (by rw[jC,jB hi];rfl)
 obtain rfl:y=y':=by rw[hy]at ey;exact Option.some.inj ey
 rw[jC,jB hi]at hz
 cases hz
 have c1:=call _ (jZ hi)
 generalize cs[i]=ch at dy c1 hR
 obtain⟨tc,ws,rfl,qc,dws⟩:=dy
 rw[z0S dws]at qc
 have s34:=s13.trans s4
 obtain⟨tr,zs,ye,ex,qr,de⟩:=x0t he (dx.same s34)
 subst ex
 refine⟨_,rfl,_,rfl,_,rfl,.inr (.inl ⟨tr,_,_,_,rfl,rfl,qr,z5o zs ye,_,rfl,_,rfl,?_⟩)⟩
 refine⟨rl,tc,e.nms.map Sum.inr,ch.map V.int,rfl,.inr (.of (by rw[jd];exact s4 _ _ erl3)),s4.tupq qc,by rw[jA,jA,c1],by rw[jA];omega,fun bp nb=>?_⟩
 have ebk:z2A [] ((e.nms.map Sum.inr).zip (ch.map V.int))=kM (unS [] e.nms) fun x => .int (bk e.nms ch x):=by
  have:(e.nms.map (Sum.inr:Str->Key)).zip (ch.map V.int)=kM e.nms fun x => .int (bk e.nms ch x):=by
   conv=>lhs;rw[<- z6A (z4T e) c1]
   unfold kM
   rw[jd,List.zip_map']
   rfl
  rw[this]
  exact z8p (fun x => .int (bk e.nms ch x)) e.nms []
 rw[ebk]
 have s5:=z0e nb (.dK (kM (unS [] e.nms) fun x => .int (bk e.nms ch x)))
 refine⟨e,ye,bp,_,bk e.nms ch,rfl,xo.1,(z0O _).mpr fun n hn=>?_,xo.2.1,de.same s5,z0c,fun H6 s6=>?_⟩
 · have hw':n∈unS [] e.nms:=y3C.mpr (.inr ((z2t _).mpr hn))
   rw[y0z,if_pos hw']
 refine⟨by show 2<=sizeLine;decide,fun t nt=>?_⟩
 have s7:=z0e nt (.tup [.ref tc,.int (ev (bk e.nms ch) e)])
 exact hR _ _ ((s5.trans s6).trans s7) ⟨t,_,rfl,.of z0c,_,_,rfl,⟨tc,_,rfl,((s5.trans s6).trans s7).tupq (s4.tupq qc),z3C _⟩,_,_,rfl,rfl,rfl⟩
def z4C:D->Int
 | .tup (.int n :: _)=>n
 | _=>0
def kdS(kd:Str->List Int):Rw->Str->List Int
 | .draw n os=>fun y=>if y=n then z5a (os.map z4C) else kd y
 | .lt n e=>fun y=>if y=n then z5a (z2i kd e) else kd y
 | .seen _=>kd
def kdOf(rs:List Rw):Str->List Int:=rs.foldl kdS fun _=>[]
theorem z2f(rs:List Rw)(r:Rw):kdOf (rs ++ [r])=kdS (kdOf rs) r:=by unfold kdOf;rw[kI];rfl
def cntR(rs:List Rw)(i:Nat)(r:Rw):Nat:=cntK (kdOf (rs.take i)) r.reads
structure Few (rs:List Rw):Prop where
 cnt:∀ i r,rs[i]? = some r->cntR rs i r<=40
 ne:∀ i,∀ n∈givs (rs.take i),kdOf (rs.take i) n≠[]
 len:∀ i,∀ n,(kdOf (rs.take i) n).length<=40
theorem z5G{os:List D}(h:y6i os):(os.map z4C).Nodup/\os.length<=6/\os≠[]:=by
 obtain⟨l,W,rfl,nd,_,hs,hW,l6⟩:=h
 refine⟨?_,by rw[jA];exact l6,fun z=>?_⟩
 · rw[jd]
   exact nd
 · rw[List.map_eq_nil_iff.mp z]at hs
   simp at hs
   omega
theorem y3p{H:Hp}{os:List D}(h:y6i os){i:Nat}{d:D}{x:V}(e:os[i]? = some d)(dx:IsD K H d x):∃ t y,x = .ref t/\SqT K H t [.int (z4C d),y]:=by
 obtain⟨l,W,rfl,_⟩:=h
 rw[jC]at e
 cases z:l[i]? with
 | none=>rw[z]at e;cases e
 | some p =>
  rw[z]at e
  cases e
  obtain⟨t,xs,rfl,qt,_,_,rfl,rfl,y,_,rfl,_,rfl⟩:=dx
  exact⟨t,y,rfl,qt⟩
theorem z7b{H:Hp}{n:Str}{os:List D}{x:V}(h:IsD K H (dR (.draw n os)) x):∃ t l ys,x = .ref t/\SqT K H t [.str "draw",.str n,.ref l]/\SqL K H l ys/\IsDs K H os ys:=by
 obtain⟨a,xs,rfl,qa,_,_,rfl,rfl,_,_,rfl,rfl,y,_,rfl,⟨l,ys,rfl,ql,dl⟩,rfl⟩:=h
 exact⟨a,l,ys,rfl,qa,ql,dl⟩
theorem y5Q{ix:List Nat}{wi:TI}{te:TE}{sp:Sp}{E:XK}{r:R2}{tb:TE}{t u v:TS}{D:Ends}{σ:St}{H:Hp}(h:wi σ H (z1m ix te σ fun x H1=>sp [x] H1 (fun y H2=>tb σ H2 fun z H3=>r y z H3 fun b H4=>∃ k,b=V.bl k/\if k=true then t { D with nx:=v D } σ H4 else u { D with nx:=v D } σ H4) E)) :
 y4L (y7m (y9l (tOp r (y1k sp [] E (z1J (z3Z ix wi z6G te) z6F)) tb)) t u) v D σ H:=h
theorem y8F{ix:List Nat}{wi:TI}{te td ty:TE}{r:List V->Hp->VK->Prop}{D:Ends}{σ:St}{H:Hp}(h:wi σ H (z1m ix te σ fun x H1=>r [x] H1 fun v H2=>td σ H2 fun x H3=>ty σ H3 fun y H4=>∃ a H5,x = .ref a/\DPut H4 a y v H5/\D.nx σ H5)) :
 y2R td ty (tCB r (z1J (z3Z ix wi z6G te) z6F)) D σ H:=h
theorem y6a {K : PySem.W.Frag} {ix : List Nat} {wi : TI} {te td ty : TE} {D : Ends} {σ : St} {H : Hp} (h : wi σ H (z5X K ix te σ fun x H1 => ∃ (a : Addr) (ns : List Int), x = .ref a /\ SqL K H1 a (ns.map V.int) /\ ns.length <= 4000 /\ (∀ ks : List Int, ks.Nodup -> (∀ k ∈ ks, k ∈ ns) -> ks.length < 64) /\
      ∀ (l:Addr) (ss:List Int),H1 l=none->(∀ k,k∈ss↔k∈ns)->ss.Pairwise (· < ·)->td σ (upd H1 l (.lst (ss.map V.int))) fun x H3=>ty σ H3 fun y H4=>∃ a H5,x = .ref a/\DPut H4 a y (.ref l) H5/\D.nx σ H5)) :
 y2R td ty (z5s K (z6e K ix wi z6G te)) D σ H:=h
def z6L(K:PySem.W.Frag)(C:Addr):Sp:=fun vs H Q E=>∃ (t:Addr) (rs:List Rw) (mo:Nat),vs=[.ref t,.int (mo:Nat)]/\Sheet K H t rs/\Few rs/\1<=mo/\mo<=500 /\
 ((∀ i r,rs[i]? = some r->cntR rs i r<=mo)->∀ (d:Addr) (ad:Str->Addr) (H':Hp),Same H H'->H d=none->(∀ x∈z5Y rs,H (ad x)=none)->BookN H' d (z5Y rs) ad (kdOf rs)->Q (.ref d) H') /\
 ((∃ i r,rs[i]? = some r/\mo < cntR rs i r)->∀ (dx:Addr) H1,Same H H1->H1 dx=some (.xd [("most",.int (mo:Nat))])->E (.ref C) (some dx) H1)
theorem y5A(B:Bl mg)(z4J:ExcK P w K mg base "TooMany" z0v "most")(z0J:Def P w K mg base "names_read" 13 ["row"] (z6K K))(z5U:Def P w K mg base "product" 1 ["numbers"] (y2y K))(z0Z:Def P w K mg base "row_choices" 14 ["row", "found"] (y2x K))
 (F:FnD K mg "kinds" z2Y ["sheet", "most"] (.int 500)):Def2 P w K mg base "kinds" 15 ["sheet", "most"] (z6L K z0v)/\DefD P w K mg base "kinds" 15 ["sheet", "most"] (.int 500) (z6L K z0v):=by
 refine F.ok3 z6X (fun vs H Q E h=>?_) (fun f cdv A outer s H vs Q E hr h=>?_)
 · obtain⟨t,rs,mo,rfl,_⟩:=h;rfl
 obtain⟨t,rs,mo,rfl,⟨⟨pe,rl,al,xs,qt,ql,dxs⟩,fine,wf,l63⟩,few,m1,m5,q0,q1⟩:=h
 have big:(100000:Nat) < sizeLine:=by decide
 have xl:=dxs.length
 rw[jA]at xl
 refine⟨_,(@z0b _ _ _ _ _ (z0t (i:=2) z6X.nd rfl (by first | exact Or.inl rfl | exact Or.inr rfl) z7f)
  (@z0b _ _ _ _ _ (y7J (z0C (z0s (z0i K rfl) (pv 0) z0d (fun _ _=>rfl))) (z0E (i:=3) z6X.nd rfl (by first | exact Or.inl rfl | exact Or.inr rfl)) (@z0b _ _ _ _ _ (z0B (z0j y1t (z0r z5U hr rfl (z0a (z1u (CompOk.of (x := "name") (M:=["found"]) (ix:=[2]) rfl rfl (by decide +kernel) (by decide +kernel) rfl ⟨rfl,trivial⟩ (by rfl) ⟨⟨rfl,rfl,rfl,rfl⟩,trivial⟩) rfl (by decide +kernel) (z0C (z0r z0J hr rfl (z0a (pv 3) z0f))) (fun _ _ _ _ _=>z0V) (fun _ _ _ _ _=>(z0u (z1a K rfl) rfl B.len PySem.boot_len (z0a (z0T (z1l hr) (pv 1) (pv 0) (fun _ _=>rfl)) z0f)))) z0f)) (pv 1) (z0k _)) (@z0g _ _ _ (y3f z4J hr rfl rfl rfl y7E (z0a (pv 1) z0f))) z0m)
  (@z0g _ _ _ (z0B (z0j (z0x.or (z0z.or (z0A.or (z0w K rfl hr.units)))) (z0s (z0i K rfl) (pv 3) z0d (fun _ _=>rfl)) z0l (z0k _)) (@z0g _ _ _ (z2a (z1l hr) (pv 2) (z0s (z0i K rfl) (pv 3) z0d (fun _ _=>rfl)) (z0u (z4U K rfl) rfl B.sorted PyProof.Rows.boot_sorted (z0a (z1u (CompOk.of (x := "outcome") (M:=[]) (ix:=[]) rfl rfl (by decide +kernel) (by decide +kernel) rfl trivial (by rfl) trivial) rfl (by decide +kernel) (z0C (z0s (z0i K rfl) (pv 3) z0d (fun _ _=>rfl))) (fun _ _ _ _ _=>z0V) (fun _ _ _ _ _=>(z0s (z0i K rfl) (pv 0) z0d (fun _ _=>rfl)))) z0f)) rfl)) (@z0g _ _ _ (z0B (z0j (z0x.or (z0z.or (z0A.or (z0w K rfl hr.units)))) (z0s (z0i K rfl) (pv 3) z0d (fun _ _=>rfl)) z0l (z0k _)) (@z0g _ _ _ (z2a (z1l hr) (pv 2) (z0s (z0i K rfl) (pv 3) z0d (fun _ _=>rfl)) (z5F K rfl rfl rfl B.sorted PyProof.Rows.boot_sorted rfl B.set PyProof.Rows.boot_set (y0p (CompOk2.mk (z := "number") (CompOk.of (x := "numbers") (M:=[]) (ix:=[]) rfl rfl (by decide +kernel) (by decide +kernel) rfl trivial (by rfl) trivial) rfl) rfl (by decide +kernel) (z0C (z0r z0Z hr rfl (z0a (pv 3) (z0a (pv 2) z0f)))) (fun _ _ _ _ _=>z0V) (fun _ _ _ _ _=>(pv 1)))) rfl)) z0m))))))
  (@z0g _ _ _ (z0o (pv 2))))),?_⟩
 refine fun d nd=>?_
 have s1:=z0e nd (.dK [])
 refine⟨_,rfl,.inr (.inl ⟨t,_,1,.ref rl,rfl,rfl,s1.tupq qt,y4u,rl,rfl,⟨_,s1.seq ql⟩,z1c (K:=K) (xs:=xs) (fun i σ H'=>Same H H'/\(∀ j r,j < i->rs[j]? = some r->cntR rs j r<=mo)/\∃ ad c2,σ=[some (.ref t),some (.int (mo:Nat)),some (.ref d),c2]/\(∀ x∈z5Y (rs.take i),H (ad x)=none)/\BookN H' d (z5Y (rs.take i)) ad (kdOf (rs.take i))) ⟨s1,fun j r h=>absurd h (kL _),fun _=>0,none,rfl,fun _ h=>(nomatch h),⟨z0c,fun _ h=>(nomatch h)⟩⟩ (fun i σ H' _ h=>h.1.seq ql) ?_ ?_⟩)⟩
 · rintro i x σ H' hx ⟨sm,okj,ad,c2,rfl,fr,bk0⟩
   have hi:i < rs.length:=by have:=(jE.mp hx).1;omega
   have dx:=(z2g dxs (by rw[jC,jB hi];rfl) hx).same sm
   have hf:=fine _ (jZ hi)
   have hw:=wf i _ (jB hi)
   have hc:=few.cnt i _ (jB hi)
   have hne:=few.ne i
   have hlen:=few.len i
   have ei:=jB hi
   have tk:rs.take (i + 1)=rs.take i ++ [rs[i]]:=jL hi
   rw[tk,z2f,z2B]
   have kin:∀ n∈rs[i].reads,n∈z5Y (rs.take i):=fun n hn=>(z2O _).mpr (hw n hn)
   have kl:(z5Y (rs.take i)).length<=63:=jc (z2d (y3y _) fun x hx=>(z2O _).mp hx) (jc (z5m _) (by rw[jg];omega))
   have okn:cntR rs i rs[i]<=mo->∀ j r,j < i + 1->rs[j]? = some r->cntR rs j r<=mo:=fun h j r hj e=>by
    by_cases z:j=i
    · subst z;rw[ei]at e;cases e;exact h
    · exact okj j r (by omega) e
   have rlen:=z8b hf
   unfold cntR at okn hc
   have q1':mo < cntK (kdOf (rs.take i)) rs[i].reads->∀ (dx:Addr) H1,Same H H1->H1 dx=some (.xd [("most",.int (mo:Nat))])->E (.ref z0v) (some dx) H1:=fun h=>q1 ⟨i,_,ei,h⟩
   generalize rs[i]=r at dx hf hw tk okn hc kin rlen q1' ⊢
   generalize kdOf (rs.take i)=kd at bk0 okn hc hne hlen q1' ⊢
   generalize z5Y (rs.take i)=ks at bk0 kin kl fr ⊢
   refine y5Q ⟨_,rfl,x,r,rfl,dx,hf,fun rp H1 t1 nrp erp=>⟨rp,rfl,⟨_,.of erp⟩,?_⟩⟩
   have b1:=bk0.same t1
   refine z2E (K:=K) (r.reads.map fun n=>V.int (((kd n).map V.int).length:Nat)) (.of erp) (by rw[jA,jA]) (by rw[jA];omega) (fun i y v H' R hy hv sm hR=>?_) (fun p1 H2 t2 np1 e1=>?_)
   · have hi:i < r.reads.length:=by have:=(jE.mp hy).1;simpa using this
     rw[jC,jB hi]at hy hv
     cases hy
     cases hv
     have b':=b1.same sm
     have hn:=kin _ (jZ hi)
     exact⟨_,rfl,_,rfl,d,_,rfl,b'.get hn,_,_,rfl,z2U (.of (b'.sub _ hn)),hR _ (Same.refl _)⟩
   have e1':H2 p1=some (.lst ((r.reads.map fun n=>(kd n).length).map fun (n:Nat)=>V.int (n:Nat))):=by
    rw[e1,jd]
    refine congrArg (fun z=>some (HO.lst z)) (jq fun n _=>?_)
    show V.int _=V.int _
    rw[jA]
   have b2:=b1.same t2
   have sm2:=sm.trans (t1.trans t2)
   refine⟨p1,r.reads.map fun n=>(kd n).length,rfl,.of e1',by rw[jA];exact rlen,fun n hn=>?_,_,rfl,_,_,rfl,rfl,_,rfl,z1C (fun hgt=>?_) (fun hle=>nxt ?_)⟩
   · obtain⟨m,_,rfl⟩:=jU.mp hn
     have:=hlen m
     omega
   · exact⟨_,rfl,_,rfl,fun ea dx' tt f1 f2 f3=>q1' (by unfold cntK;omega) dx' _ (sm2.trans (z0e f2 _)) z0c⟩
   have okm:=okn (by unfold cntK;omega)
   clear okn
   have dx2:=dx.same (t1.trans t2)
   have ndH:∀ b xs,H2 b=some (.lst xs)->b≠d:=fun b xs e z=>by rw[z,b2.at_]at e;cases e
   clear e1 e1' erp np1 nrp b1 bk0 dx t1 t2
   cases r with
   | draw n os =>
    obtain⟨a,l,ys,rfl,qa,ql',dl⟩:=z7b dx2
    have oo:=hf.2.2
    obtain⟨ond,ol,one⟩:=z5G oo
    have yl:=dl.length
    refine⟨_,rfl,.inr (.inl ⟨a,_,_,_,rfl,rfl,qa,z6c,.inr (.inl ⟨_,_,rfl,rfl,_,rfl,z1C (fun _=>?_) (fun c=>absurd rfl c)⟩)⟩)⟩
    refine y8F ⟨_,rfl,.inr (.inl ⟨a,_,2,.ref l,rfl,rfl,qa,y8Z,l,rfl,⟨_,ql'⟩,?_⟩)⟩
    refine z2E (K:=K) ((os.map z4C).map V.int) ql' (by rw[jA,jA];omega) (by omega) (fun i y v H' R hy hv sm hR=>?_) (fun p3 H3 t3 np3 e3=>?_)
    · have hi:i < os.length:=by have:=(jE.mp hy).1;omega
      rw[jC,jC,jB hi]at hv
      cases hv
      obtain⟨tt,yy,rfl,qtt⟩:=y3p oo (jB hi) ((z2g dl (jB hi) hy).same sm)
      exact⟨_,rfl,.inr (.inl ⟨tt,_,0,_,rfl,rfl,qtt,z6c,hR _ (Same.refl _)⟩)⟩
    refine⟨p3,os.map z4C,rfl,.of e3,by rw[jA];omega,fun sl ns' nsl pm pw=>?_⟩
    have es:=y2s ond pm pw
    subst es
    have t4:=z0e nsl (.lst ((z5a (os.map z4C)).map V.int))
    have t34:=t3.trans t4
    refine⟨_,rfl,_,rfl,.inr (.inl ⟨a,_,1,.str n,rfl,rfl,t34.tupq qa,y4u,d,_,rfl,.inl ⟨_,Sum.inr n,t34 _ _ b2.at_,rfl,(by rw[y0A];omega),rfl⟩,?_⟩)⟩
    refine⟨z0G nd (sm2.trans t34),okm,_,_,rfl,fun x hx=>?_,(b2.same t34).put z0c⟩
    by_cases z:x=n
    · rw[if_pos z];exact sm2.free (t3.free nsl)
    · rw[if_neg z];exact fr x ((z3B.mp hx).resolve_right z)
   | lt n e =>
    obtain⟨a,xs',ex,qa,_,_,rfl,rfl,_,_,rfl,rfl,y,_,rfl,dy,rfl⟩:=id dx2
    subst ex
    refine⟨_,rfl,.inr (.inl ⟨a,_,_,_,rfl,rfl,qa,z6c,.inr (.inl ⟨_,_,rfl,rfl,_,rfl,z1C (fun c=>absurd c (by decide)) (fun _=>?_)⟩)⟩)⟩
    refine⟨_,rfl,.inr (.inl ⟨a,_,_,_,rfl,rfl,qa,z6c,.inr (.inl ⟨_,_,rfl,rfl,_,rfl,z1C (fun _=>?_) (fun c=>absurd rfl c)⟩)⟩)⟩
    have vl:=z9P kd e
    have hc':cntK kd e.nms<=40:=hc
    refine y6a ⟨_,rfl,_,rfl,.ref a,.lt n e,e,d,ks,ad,kd,rfl,dx2,hf,.inl ⟨n,rfl⟩,b2,kin,fun m hm=>hne m (hw m hm),by omega,fun p3 ys H3 t3 e3 d3=>⟨p3,rfl,⟨_,.of e3⟩,?_⟩⟩
    have yl:=d3.length
    rw[jA]at yl
    have vl2:(z2i kd e).length=(chs (e.nms.map kd)).length:=by unfold z2i;rw[jA]
    refine z3W (K:=K) (xs:=ys) ((z2i kd e).map D.int) (.of e3) (by rw[jA];omega) (by omega) (z1N _) (fun i x z H' R hx hz sm hR=>?_) (fun p4 H4 np4 t4 d4=>?_)
    · have hi:i < (chs (e.nms.map kd)).length:=by have:=(jE.mp hx).1;omega
      have dxi:=(z2g d3 (by rw[jC,jB hi];rfl) hx).same sm
      unfold z2i at hz
      rw[jC,jC,jB hi]at hz
      cases hz
      obtain⟨tt,xs',rfl,qtt,uu,_,rfl,_,_,_,rfl,rfl,rfl⟩:=dxi
      exact⟨tt,uu,_,rfl,qtt,_,rfl,hR _ _ (Same.refl _) rfl⟩
    obtain⟨l4,zs,ez,q4,dz⟩:=d4
    cases ez
    rw[z0S dz]at q4
    refine⟨p4,z2i kd e,rfl,q4,by omega,fun kk nd' sb=>jx (List.Nodup.length_le_of_subset nd' sb) (by omega),fun sl ss nsl mem pw=>?_⟩
    have es:=z8Q pw mem
    subst es
    have t5:=z0e nsl (.lst ((z5a (z2i kd e)).map V.int))
    have t35:=t3.trans (t4.trans t5)
    refine⟨_,rfl,_,rfl,.inr (.inl ⟨a,_,1,.str n,rfl,rfl,t35.tupq qa,y4u,d,_,rfl,.inl ⟨_,Sum.inr n,t35 _ _ b2.at_,rfl,(by rw[y0A];omega),rfl⟩,?_⟩)⟩
    refine⟨z0G nd (sm2.trans t35),okm,_,_,rfl,fun x hx=>?_,(b2.same t35).put z0c⟩
    by_cases z:x=n
    · rw[if_pos z];exact sm2.free (t3.free (t4.free nsl))
    · rw[if_neg z];exact fr x ((z3B.mp hx).resolve_right z)
   | seen e =>
    obtain⟨a,xs',ex,qa,_,_,rfl,rfl,y,_,rfl,dy,rfl⟩:=id dx2
    subst ex
    refine⟨_,rfl,.inr (.inl ⟨a,_,_,_,rfl,rfl,qa,z6c,.inr (.inl ⟨_,_,rfl,rfl,_,rfl,z1C (fun c=>absurd c (by decide)) (fun _=>?_)⟩)⟩)⟩
    refine⟨_,rfl,.inr (.inl ⟨a,_,_,_,rfl,rfl,qa,z6c,.inr (.inl ⟨_,_,rfl,rfl,_,rfl,z1C (fun c=>absurd c (by decide)) (fun _=>?_)⟩)⟩)⟩
    exact⟨sm2,okm,_,_,rfl,fr,b2⟩
 · rintro σ H' ⟨sm,okj,ad,c2,rfl,fr,bk0⟩
   rw[xl,jh]at fr bk0
   refine⟨_,rfl,q0 (fun i r e=>okj i r ?_ e) d ad H' sm nd fr bk0⟩
   rw[xl];exact (jE.mp e).1
def y2u:Sp:=fun vs H Q _=>∃ (g:Sg) (a b:Int),vs=[.str g.str,.int a,.int b]/\g.two=true/\Q (.int (rkL g [a,b])) H
theorem y9V(B:Bl mg)(F:Fn K mg "_law_by_two" z3v ["_law_sign", "_law_here", "_law_there"]):Def P w K mg base "_law_by_two" 1 ["_law_sign", "_law_here", "_law_there"] y2u:=by
 refine F.ok z8U (fun vs H Q E h=>?_) (fun f cdv A outer s H vs Q E hr h=>?_)
 · obtain⟨g,a,b,rfl,_⟩:=h;rfl
 obtain⟨g,a,b,rfl,ht,q⟩:=h
 refine⟨_,(@z0b _ _ _ _ _ (z0B (z0j (z0x.or (z0z.or (z0A.or (z0w K rfl hr.units)))) (pv 0) z0l (z0k _)) (@z0g _ _ _ (z0o (z0p (z0R.or (z0q.or (z0Q.or (z0y K rfl)))) (pv 1) (pv 2)))) z0m)
  (@z0b _ _ _ _ _ (z0B (z0j (z0x.or (z0z.or (z0A.or (z0w K rfl hr.units)))) (pv 0) z0l (z0k _)) (@z0g _ _ _ (z0o (z0p z8h (pv 1) (pv 2)))) z0m)
  (@z0b _ _ _ _ _ (z0B (z0j (z0x.or (z0z.or (z0A.or (z0w K rfl hr.units)))) (pv 0) z0l (z0k _)) (@z0g _ _ _ (z0o (z0K z2F rfl B.int PyProof.Rows.boot_int (z0a (z1f y1s (pv 1) (pv 2) (z0k _)) z0f)))) z0m)
  (@z0b _ _ _ _ _ (z0B (z0j (z0x.or (z0z.or (z0A.or (z0w K rfl hr.units)))) (pv 0) z0l (z0k _)) (@z0g _ _ _ (z0o (z0K z2F rfl B.int PyProof.Rows.boot_int (z0a (z1f (z0x.or (z0z.or (z0A.or (z0w K rfl hr.units)))) (pv 1) (pv 2) (z0k _)) z0f)))) z0m)
  (@z0b _ _ _ _ _ (z0B (z0j (z0x.or (z0z.or (z0A.or (z0w K rfl hr.units)))) (pv 0) z0l (z0k _)) (@z0g _ _ _ (z0o (z0K z2F rfl B.int PyProof.Rows.boot_int (z0a (y3o (z1f (z1r.or (z1v.or (z1x.or (z1w K rfl hr.units)))) (pv 1) z0d (z0k _)) (z8g (z1f (z1r.or (z1v.or (z1x.or (z1w K rfl hr.units)))) (pv 2) z0d (z0k _)))) z0f)))) z0m)
  (@z0g _ _ _ (z0o (z0K z2F rfl B.int PyProof.Rows.boot_int (z0a (y9M (z1f (z1r.or (z1v.or (z1x.or (z1w K rfl hr.units)))) (pv 1) z0d (z0k _)) (z8g (z1f (z1r.or (z1v.or (z1x.or (z1w K rfl hr.units)))) (pv 2) z0d (z0k _)))) z0f))))))))),?_⟩
 cases g with
 | neg=>cases ht
 | pick=>cases ht
 | add =>
  walk_at "rd"
  exact q
 | sub =>
  walk_at "rd"
  exact q
 | lt =>
  walk_at "rd"
  exact q
 | eq =>
  walk_at "rd"
  exact q
 | conj =>
  walk_at "rd"
  refine z3T (fun c=>?_) (fun c=>?_)
  · have e:rkL .conj [a,b]=b2n (!decide (b=0)):=by show b2n (decide (a≠0) && decide (b≠0))=_;rw[y3x,decide_eq_true c,Bool.true_and]
    rw[e]at q
    exact⟨_,rfl,.inl ⟨_,_,rfl,rfl,.inr ⟨_,rfl,q⟩⟩⟩
  · have e:rkL .conj [a,b]=b2n false:=by show b2n (decide (a≠0) && decide (b≠0))=_;rw[decide_eq_false (fun h:a≠0=>h c),Bool.false_and]
    rw[e]at q
    exact .inr ⟨false,rfl,q⟩
 | disj =>
  walk_at "rd"
  refine z3T (fun c=>?_) (fun c=>?_)
  · have e:rkL .disj [a,b]=b2n true:=by show b2n (decide (a≠0) || decide (b≠0))=_;rw[decide_eq_true c,Bool.true_or]
    rw[e]at q
    exact .inr ⟨true,rfl,q⟩
  · have e:rkL .disj [a,b]=b2n (!decide (b=0)):=by show b2n (decide (a≠0) || decide (b≠0))=_;rw[y3x,decide_eq_false (fun h:a≠0=>h c),Bool.false_or]
    rw[e]at q
    exact⟨_,rfl,.inl ⟨_,_,rfl,rfl,.inr ⟨_,rfl,q⟩⟩⟩
theorem y5v(d:Nat)(B:Bl mg)(F:Fn K mg "_law_worth" z2W ["_law_e", "_law_book"])(z1U:Def P w K mg base "_law_by_two" 1 ["_law_sign", "_law_here", "_law_there"] y2u)(z1I:Def P w K mg base "_law_worth" (d + 2) ["_law_e", "_law_book"] (z6N K d)):Def P w K mg base "_law_worth" (d + 3) ["_law_e", "_law_book"] (z6N K (d + 1)):=by
 have hjk:d + 2<=d + 2:=jF _
 have hj_l_by_two:1<=d + 2:=by omega
 refine F.ok z4w (fun vs H Q E h=>?_) (fun f cdv A outer s H vs Q E hr h=>?_)
 · obtain⟨e,x,pb,kvs,ρ,rfl,_⟩:=h;rfl
 obtain⟨e,x,pb,kvs,ρ,rfl,ho,hv,hh,dx,hB,q⟩:=h
 refine⟨_,(@z0b _ _ _ _ _ (z0B (z0j (z0x.or (z0z.or (z0A.or (z0w K rfl hr.units)))) (z0s (z0i K rfl) (pv 0) z0d (fun _ _=>rfl)) z0l (z0k _)) (@z0g _ _ _ (z0o (z0s (z0i K rfl) (pv 0) z0d (fun _ _=>rfl)))) z0m)
  (@z0b _ _ _ _ _ (z0B (z0j (z0x.or (z0z.or (z0A.or (z0w K rfl hr.units)))) (z0s (z0i K rfl) (pv 0) z0d (fun _ _=>rfl)) z0l (z0k _)) (@z0g _ _ _ (z0o (z0T (z1l hr) (pv 1) (z0s (z0i K rfl) (pv 0) z0d (fun _ _=>rfl)) (fun _ _=>rfl)))) z0m)
  (@z0b _ _ _ _ _ (y3g (j:=2) z4w.nd rfl rfl (CompOk.of (x := "_law_one") (M:=["_law_book"]) (ix:=[1]) rfl rfl (by decide +kernel) (by decide +kernel) rfl ⟨rfl,trivial⟩ (by rfl) ⟨⟨rfl,rfl,rfl,rfl⟩,trivial⟩) rfl (by decide +kernel) (z6n (z2N ((z3p K rfl).or (z4v K rfl)) (pv 0) (z3c z0d) z4z)) (fun _ _ _ _ _=>z0V) (fun _ _ _ _ _=>(z0r z1I hr rfl (z0a (pv 0) (z0a (pv 1) z0f)) (hjk:=hjk))))
  (@z0b _ _ _ _ _ (z0B (z0j (z0x.or (z0z.or (z0A.or (z0w K rfl hr.units)))) (z0s (z0i K rfl) (pv 0) z0d (fun _ _=>rfl)) z0l (z0k _)) (@z0g _ _ _ (z0o (z0K z2F rfl B.int PyProof.Rows.boot_int (z0a (z1f (z0x.or (z0z.or (z0A.or (z0w K rfl hr.units)))) (z0s (z0i K rfl) (pv 2) z0d (fun _ _=>rfl)) z0d (z0k _)) z0f)))) z0m)
  (@z0b _ _ _ _ _ (z0B (z0j (z0x.or (z0z.or (z0A.or (z0w K rfl hr.units)))) (z0s (z0i K rfl) (pv 0) z0d (fun _ _=>rfl)) z0l (z0k _)) (@z0g _ _ _ (z0o (z5i (z0j (z1r.or (z1v.or (z1x.or (z1w K rfl hr.units)))) (z0s (z0i K rfl) (pv 2) z0d (fun _ _=>rfl)) z0d (z0k _)) (z0s (z0i K rfl) (pv 2) z0d (fun _ _=>rfl)) (z0s (z0i K rfl) (pv 2) z0d (fun _ _=>rfl))))) z0m)
  (@z0g _ _ _ (z0o (z0r z1U hr rfl (z0a (z0s (z0i K rfl) (pv 0) z0d (fun _ _=>rfl)) (z0a (z0s (z0i K rfl) (pv 2) z0d (fun _ _=>rfl)) (z0a (z0s (z0i K rfl) (pv 2) z0d (fun _ _=>rfl)) z0f))) (hjk:=hj_l_by_two))))))))),?_⟩
 rcases Ex.node ρ _ e ho hv with ⟨n,rfl⟩ | ⟨n,rfl⟩ | ⟨sg,cs,ed,ee,hl,hc⟩
 · obtain⟨t,xs,rfl,qt,_,_,rfl,rfl,_,_,rfl,rfl,rfl⟩:=dx
   walk_at "rd"
   exact q H (Same.refl _)
 · obtain⟨t,xs,rfl,qt,_,_,rfl,rfl,_,_,rfl,rfl,rfl⟩:=dx
   walk_at "rd"
   have e:some (V.int (ρ n))=z4V kvs (.inr n):=Eq.symm hv
   exact⟨pb,_,rfl,.inl ⟨kvs,.inr n,.inl hB,rfl,e⟩,q H (Same.refl _)⟩
 · rw[ed]at dx
   obtain⟨t,xs,rfl,qt,y,ys,rfl,ey,dys⟩:=dx
   obtain rfl:y = .str sg.str:=ey
   have at0:atI (.str sg.str :: ys) 0=some (.str sg.str):=z0Y (j:=0) rfl
   refine⟨_,rfl,.inr (.inl ⟨t,_,_,_,rfl,rfl,qt,at0,.inr (.inl ⟨_,_,rfl,rfl,_,rfl,z1C (fun c=>absurd c (z9Y sg)) fun _=>nxt ?_⟩)⟩)⟩
   refine⟨_,rfl,.inr (.inl ⟨t,_,_,_,rfl,rfl,qt,at0,.inr (.inl ⟨_,_,rfl,rfl,_,rfl,z1C (fun c=>absurd c (z6U sg)) fun _=>nxt ?_⟩)⟩)⟩
   have one:¬ (HT.sIx (V.str sg.str :: ys).length 0 (some 1)=0/\HT.sIx (V.str sg.str :: ys).length (V.str sg.str :: ys).length none=(V.str sg.str :: ys).length):=fun h=>by
    have:=h.1
    simp[HT.sIx]at this
   dsimp only
   refine z7C ⟨_,rfl,_,rfl,.inr ⟨t,_,rfl,qt,one,fun p1 hp1=>⟨p1,rfl,⟨_,.of z0c⟩,?_⟩⟩⟩
   have ecut:y0O (V.str sg.str :: ys) (some 1) none=ys:=z4p _ 1
   rw[ecut]
   have s1:Same H (upd H p1 (.tup ys)):=z0e hp1 _
   have yl:=dys.length
   rw[jA]at yl
   have lm:cs.length<=3:=by rw[hl];cases sg <;> decide
   refine z7B (K:=K) (xs:=ys) ((cs.map (ev ρ)).map D.int) (.of z0c) (by simp[yl]) (by rw[yl];exact kE (z2V (by omega))) (z1N _) (fun i x z H' R hx hd sm hR=>?_) (fun p2 H2 zs sm2 e2 dz=>?_)
   · have hi:i < cs.length:=by have:=(jE.mp hx).1;omega
     obtain⟨y,ey,dy⟩:=dys.get (i:=i) (d:=dE cs[i]) (by rw[jC,jB hi];rfl)
     obtain rfl:x=y:=by rw[hx]at ey;exact Option.some.inj ey
     rw[jC,jC,jB hi]at hd
     obtain rfl:z=D.int (ev ρ cs[i]):=(Option.some.inj hd).symm
     obtain⟨c1,c2,c3⟩:=hc _ (jZ hi)
     exact⟨_,rfl,_,rfl,cs[i],x,pb,kvs,ρ,rfl,c1,c2,by omega,dy.same (s1.trans sm),(s1.trans sm) _ _ hB,fun H'' sm''=>hR _ _ sm'' rfl⟩
   · rw[z0S dz]at e2
     have q2:=q _ (s1.trans sm2)
     rw[ee]at q2
     have qt2:=(s1.trans sm2).tupq qt
     have hl2:(cs.map (ev ρ)).length=sg.many:=by rw[jA];exact hl
     generalize cs.map (ev ρ)=ns at e2 q2 hl2
     dsimp only[z1g,List.set,L2.z2w]
     clear hc dys hh ed
     by_cases ht:sg.two=true
     · obtain⟨_,n2,n3⟩:=y6o ht
       have m2:sg.many=2:=by cases sg <;> first | rfl | cases ht
       obtain⟨a,b,rfl⟩:=z2T (hl2.trans m2)
       refine⟨_,rfl,.inr (.inl ⟨t,_,_,_,rfl,rfl,qt2,at0,.inr (.inl ⟨_,_,rfl,rfl,_,rfl,z1C (fun c=>absurd c n2) (fun _=>nxt ?_)⟩)⟩)⟩
       refine⟨_,rfl,.inr (.inl ⟨t,_,_,_,rfl,rfl,qt2,at0,.inr (.inl ⟨_,_,rfl,rfl,_,rfl,z1C (fun c=>absurd c n3) (fun _=>nxt ?_)⟩)⟩)⟩
       exact⟨_,rfl,.inr (.inl ⟨t,_,_,_,rfl,rfl,qt2,at0,_,rfl,.inl ⟨p2,_,_,.int a,rfl,rfl,.of e2,rfl,_,rfl,.inl ⟨p2,_,_,.int b,rfl,rfl,.of e2,rfl,sg,a,b,rfl,ht,q2⟩⟩⟩)⟩
     · cases sg with
       | neg =>
        match ns,hl2 with
        | [a],_ =>
         refine⟨_,rfl,.inr (.inl ⟨t,_,_,_,rfl,rfl,qt2,at0,.inr (.inl ⟨_,_,rfl,rfl,_,rfl,z1C (fun _=>?_) (fun c=>absurd rfl c)⟩)⟩)⟩
         exact⟨_,rfl,.inl ⟨p2,_,_,.int a,rfl,rfl,.of e2,rfl,.inl ⟨_,_,rfl,rfl,.inr ⟨_,rfl,q2⟩⟩⟩⟩
       | pick =>
        match ns,hl2 with
        | [a,b,c],_ =>
         refine⟨_,rfl,.inr (.inl ⟨t,_,_,_,rfl,rfl,qt2,at0,.inr (.inl ⟨_,_,rfl,rfl,_,rfl,z1C (fun c=>absurd c (by decide +kernel)) (fun _=>nxt ?_)⟩)⟩)⟩
         refine⟨_,rfl,.inr (.inl ⟨t,_,_,_,rfl,rfl,qt2,at0,.inr (.inl ⟨_,_,rfl,rfl,_,rfl,z1C (fun _=>?_) (fun c=>absurd rfl c)⟩)⟩)⟩
         refine⟨_,rfl,.inl ⟨p2,_,_,.int a,rfl,rfl,.of e2,rfl,.inl ⟨_,_,rfl,rfl,_,rfl,z3T (fun z=>?_) (fun z=>?_)⟩⟩⟩
         · rw[show rkL .pick [a,b,c]=b from if_pos z]at q2
           exact⟨_,rfl,.inl ⟨p2,_,_,.int b,rfl,rfl,.of e2,rfl,q2⟩⟩
         · rw[show rkL .pick [a,b,c]=c from if_neg (fun h=>h z)]at q2
           exact⟨_,rfl,.inl ⟨p2,_,_,.int c,rfl,rfl,.of e2,rfl,q2⟩⟩
       | add=>exact absurd rfl ht
       | sub=>exact absurd rfl ht
       | lt=>exact absurd rfl ht
       | eq=>exact absurd rfl ht
       | conj=>exact absurd rfl ht
       | disj=>exact absurd rfl ht
theorem z9J(B:Bl mg)(F:Fn K mg "_law_worth" z2W ["_law_e", "_law_book"])(z1U:Def P w K mg base "_law_by_two" 1 ["_law_sign", "_law_here", "_law_there"] y2u):∀ d,Def P w K mg base "_law_worth" (d + 2) ["_law_e", "_law_book"] (z6N K d)
 | 0=>by
  refine F.ok z4w (fun vs H Q E h=>?_) (fun f cdv A outer s H vs Q E hr h=>?_)
  · obtain⟨e,x,pb,kvs,ρ,rfl,_⟩:=h;rfl
  · obtain⟨e,x,pb,kvs,ρ,rfl,_,_,hh,_⟩:=h
    exact absurd hh (kL _)
 | d + 1=>y5v d B F z1U (z9J B F z1U d)
theorem y1w(d:Nat)(B:Bl mg)(F:Fn K mg "_law_reads" z2X ["_law_e"])(z1b:Def P w K mg base "_law_reads" (d + 2) ["_law_e"] (y4M K d)):Def P w K mg base "_law_reads" (d + 3) ["_law_e"] (y4M K (d + 1)):=by
 have hjk:d + 2<=d + 2:=jF _
 refine F.ok z2x (fun vs H Q E h=>?_) (fun f cdv A outer s H vs Q E hr h=>?_)
 · obtain⟨e,x,nm,rfl,_⟩:=h;rfl
 obtain⟨e,x,nm,rfl,ho,hv,h100,hh,dx,q⟩:=h
 refine⟨_,(@z0b _ _ _ _ _ (z0B (z0j (z0x.or (z0z.or (z0A.or (z0w K rfl hr.units)))) (z0s (z0i K rfl) (pv 0) z0d (fun _ _=>rfl)) z0l (z0k _)) (@z0g _ _ _ (z0o (z2n z0f))) z0m)
  (@z0b _ _ _ _ _ (z0B (z0j (z0x.or (z0z.or (z0A.or (z0w K rfl hr.units)))) (z0s (z0i K rfl) (pv 0) z0d (fun _ _=>rfl)) z0l (z0k _)) (@z0g _ _ _ (z0o (z2n (z0a (z0s (z0i K rfl) (pv 0) z0d (fun _ _=>rfl)) z0f)))) z0m)
  (@z0b _ _ _ _ _ (z0t (i:=1) z2x.nd rfl (by first | exact Or.inl rfl | exact Or.inr rfl) (z2n z0f))
  (@z0b _ _ _ _ _ (z1q PassesOwn.never rfl (z6n (z2N ((z3p K rfl).or (z4v K rfl)) (pv 0) (z3c z0d) z4z)) (z0E (i:=2) z2x.nd rfl (by first | exact Or.inl rfl | exact Or.inr rfl)) (@z0g _ _ _ (z1q PassesOwn.never rfl (z0C (z0r z1b hr rfl (z0a (pv 2) z0f) (hjk:=hjk))) (z0E (i:=3) z2x.nd rfl (by first | exact Or.inl rfl | exact Or.inr rfl)) (@z0g _ _ _ (z0B (z0j (z3e.or (z5H K rfl)) (pv 3) (pv 1) (by rfl)) (@z0g _ _ _ (z3b (z7g PySem.F.plainAttrs_list PySem.F.slot_list_append PySem.F.type_list_append z1z (pv 1) (z0a (pv 3) z0f)))) z0m)))))
  (@z0g _ _ _ (z0o (pv 1))))))),?_⟩
 have big:(1000:Nat) < sizeLine:=by decide
 rcases Ex.node2 _ e ho hv with ⟨n,rfl⟩ | ⟨n,rfl⟩ | ⟨sg,cs,rfl,hl,hc⟩
 · obtain⟨t,xs,rfl,qt,_,_,rfl,rfl,_,_,rfl,rfl,rfl⟩:=dx
   walk_at "rd"
   exact fun p hp=>q p _ hp (z0e hp _) z0c
 · obtain⟨t,xs,rfl,qt,_,_,rfl,rfl,_,_,rfl,rfl,rfl⟩:=dx
   walk_at "rd"
   exact⟨by show 1<=sizeLine;decide,fun p hp=>q p _ hp (z0e hp _) z0c⟩
 · have md:=(x0d hl (fun _=>0)).1
   rw[md]at dx
   obtain⟨t,xs,rfl,qt,y,ys,rfl,ey,dys⟩:=dx
   obtain rfl:y = .str sg.str:=ey
   have at0:atI (.str sg.str :: ys) 0=some (.str sg.str):=z0Y (j:=0) rfl
   have yl:=dys.length
   rw[jA]at yl
   refine⟨_,rfl,.inr (.inl ⟨t,_,_,_,rfl,rfl,qt,at0,.inr (.inl ⟨_,_,rfl,rfl,_,rfl,z1C (fun c=>absurd c (z9Y sg)) fun _=>nxt ?_⟩)⟩)⟩
   refine⟨_,rfl,.inr (.inl ⟨t,_,_,_,rfl,rfl,qt,at0,.inr (.inl ⟨_,_,rfl,rfl,_,rfl,z1C (fun c=>absurd c (z6U sg)) fun _=>nxt ?_⟩)⟩)⟩
   refine⟨by show 0<=sizeLine;decide,fun pf hpf=>?_⟩
   have s0:Same H (upd H pf (.lst [])):=z0e hpf _
   have t0:(upd H pf (.lst [])) pf=some (.lst []):=z0c
   obtain⟨H0,eH0⟩:∃ H0,H0=upd H pf (.lst []):=⟨_,rfl⟩
   rw[<- eH0]at s0 t0
   rw[<- eH0]
   have one:¬ (HT.sIx (V.str sg.str :: ys).length 0 (some 1)=0/\HT.sIx (V.str sg.str :: ys).length (V.str sg.str :: ys).length none=(V.str sg.str :: ys).length):=fun h=>by
    have:=h.1
    simp[HT.sIx]at this
   refine⟨_,rfl,_,rfl,.inr ⟨t,_,rfl,s0.tupq qt,one,fun p1 hp1=>⟨p1,rfl,⟨_,.of z0c⟩,?_⟩⟩⟩
   have ecut:y0O (V.str sg.str :: ys) (some 1) none=ys:=z4p _ 1
   rw[ecut]
   have s1:Same H0 (upd H0 p1 (.tup ys)):=z0e hp1 _
   have inN:∀ i,(z4E [] (cs.take i)).Nodup/\∀ x∈z4E [] (cs.take i),x∈nm:=fun i=>z7A (p:=fun n=>n∈nm) _ (fun c hc'=>(hc c (kD hc')).2.1) ⟨j6,fun x hx=>nomatch hx⟩
   refine z7z (K:=K) (xs:=ys) (fun i σ H'=>Same H H'/\SqT K H' p1 ys/\H' pf=some (.lst ((z4E [] (cs.take i)).map V.str))/\∃ c2 c3,σ=[some (.ref t),some (.ref pf),c2,c3])
    ⟨s0.trans s1,.of z0c,s1 _ _ t0,none,none,rfl⟩ (fun i σ H' _ h=>h.2.1) ?_ ?_
   · rintro i x σ H' hx ⟨sm,q1,eF,c2,c3,rfl⟩
     have hi:i < cs.length:=by have:=(jE.mp hx).1;omega
     obtain⟨y,ey,dy⟩:=dys.get (i:=i) (d:=dE cs[i]) (by rw[jC,jB hi];rfl)
     obtain rfl:x=y:=by rw[hx]at ey;exact Option.some.inj ey
     obtain⟨c1,c2',c3'⟩:=hc _ (jZ hi)
     have tk:cs.take (i + 1)=cs.take i ++ [cs[i]]:=jL hi
     refine⟨_,rfl,cs[i],x,nm,rfl,c1,c2',h100,by omega,dy.same sm,fun p2 H2 hp2 s2 e2=>⟨p2,rfl,⟨_,.of e2⟩,?_⟩⟩
     obtain⟨f,ef⟩:∃ f,f=z4E [] (cs.take i):=⟨_,rfl⟩
     have inF:=inN i
     rw[<- ef]at inF eF
     have inC:=z2S _ c2'
     refine z1c (K:=K) (xs:=cs[i].nms.map V.str) (fun j σ H3=>Same H H3/\SqT K H3 p1 ys/\H3 pf=some (.lst (((cs[i].nms.take j).foldl z3m f).map V.str))/\H3 p2=some (.lst (cs[i].nms.map V.str))/\∃ c3,σ=[some (.ref t),some (.ref pf),some x,c3])
      ⟨sm.trans s2,s2.tupq q1,s2 _ _ eF,e2,c3,rfl⟩ (fun j σ H3 _ h => .of h.2.2.2.1) ?_ ?_
     · rintro j z σ H3 hz ⟨sm3,q3,e3,f3,c3,rfl⟩
       have hj:j < cs[i].nms.length:=by have:=(jE.mp hz).1;rwa [jA]at this
       rw[jC,jB hj]at hz
       obtain rfl:z = .str cs[i].nms[j]:=(Option.some.inj hz).symm
       obtain⟨n,en⟩:∃ n,n=cs[i].nms[j]:=⟨_,rfl⟩
       have tj:cs[i].nms.take (j + 1)=cs[i].nms.take j ++ [n]:=by rw[en];exact jL hj
       rw[<- en]
       obtain⟨g,eg⟩:∃ g,g=(cs[i].nms.take j).foldl z3m f:=⟨_,rfl⟩
       have inG:g.Nodup/\∀ x∈g,x∈nm:=by rw[eg];exact z1D (p:=fun n=>n∈nm) _ (fun x hx=>inC.2 x (kD hx)) inF
       have lg:=z2d inG.1 inG.2
       have eg':(cs[i].nms.take (j + 1)).foldl z3m f=z3m g n:=by rw[tj,kI,<- eg];rfl
       rw[<- eg]at e3
       refine⟨_,rfl,_,rfl,.inr ⟨pf,_,rfl,.inl (.of e3),rfl,z4o _,_,rfl,?_⟩⟩
       show if (!inV (.str n) (g.map V.str))=true then _ else _
       rw[z7x]
       refine z3T (fun c=>?_) (fun c=>?_)
       · refine⟨_,rfl,.inl ⟨rfl,_,.of e3⟩,_,rfl,pf,_,_,rfl,rfl,e3,by rw[jA];omega,?_⟩
         refine⟨z0G hpf sm3,SqT.updL e3 q3,?_,?_,_,rfl⟩
         · rw[z0c,eg'];unfold z3m;rw[if_neg c,je];rfl
         · rw[z0n (fun z=>by rw[z]at hp2;rw[hp2]at eF;cases eF)];exact f3
       · refine nxt ⟨sm3,q3,?_,f3,_,rfl⟩
         rw[e3,eg'];unfold z3m;rw[if_pos c]
     · rintro σ H3 ⟨sm3,q3,e3,f3,c3,rfl⟩
       refine⟨sm3,q3,?_,_,_,rfl⟩
       rw[jA,jh]at e3
       rw[e3,tk,z6w,<- ef]
   · rintro σ H' ⟨sm,q1,eF,c2,c3,rfl⟩
     rw[yl,jh]at eF
     refine⟨_,rfl,q pf H' hpf sm ?_⟩
     rw[y3B hl]
     exact eF
theorem z6p(B:Bl mg)(F:Fn K mg "_law_reads" z2X ["_law_e"]):∀ d,Def P w K mg base "_law_reads" (d + 2) ["_law_e"] (y4M K d)
 | 0=>by
  refine F.ok z2x (fun vs H Q E h=>?_) (fun f cdv A outer s H vs Q E hr h=>?_)
  · obtain⟨e,x,nm,rfl,_⟩:=h;rfl
  · obtain⟨e,x,nm,rfl,_,_,_,hh,_⟩:=h
    exact absurd hh (kL _)
 | d + 1=>y1w d B F (z6p B F d)
abbrev mdK(kA:Addr)(li dr se ne:Int):List (Key×V):=[(.inr "kinds",.ref kA),(.inr "lists",.int li),(.inr "draws",.int dr),(.inr "seens",.int se),(.inr "need",.int ne)]
section
variable {H:Hp}{d kA:Addr}{li dr se ne:Int}
theorem z4n(e:H d=some (.dK (mdK kA li dr se ne))):DGet H d (.str "kinds") (some (.ref kA)) := .inl ⟨_,.inr "kinds",.inl e,rfl,by first | rfl | decide +kernel⟩
theorem y0I(e:H d=some (.dK (mdK kA li dr se ne))):DGet H d (.str "lists") (some (.int li)) := .inl ⟨_,.inr "lists",.inl e,rfl,by first | rfl | decide +kernel⟩
theorem y0J(e:H d=some (.dK (mdK kA li dr se ne))):DGet H d (.str "draws") (some (.int dr)) := .inl ⟨_,.inr "draws",.inl e,rfl,by first | rfl | decide +kernel⟩
theorem y0H(e:H d=some (.dK (mdK kA li dr se ne))):DGet H d (.str "seens") (some (.int se)) := .inl ⟨_,.inr "seens",.inl e,rfl,by first | rfl | decide +kernel⟩
theorem y3Y(e:H d=some (.dK (mdK kA li dr se ne))):DGet H d (.str "need") (some (.int ne)) := .inl ⟨_,.inr "need",.inl e,rfl,by first | rfl | decide +kernel⟩
theorem y5t(e:H d=some (.dK (mdK kA li dr se ne)))(v:Int):DPut H d (.str "lists") (.int v) (upd H d (.dK (mdK kA v dr se ne))) := .inl ⟨_,.inr "lists",e,rfl,(by show 5 < sizeLine;decide),by first | rfl | (congr 2;first | rfl | decide +kernel)⟩
theorem y5u(e:H d=some (.dK (mdK kA li dr se ne)))(v:Int):DPut H d (.str "draws") (.int v) (upd H d (.dK (mdK kA li v se ne))) := .inl ⟨_,.inr "draws",e,rfl,(by show 5 < sizeLine;decide),by first | rfl | (congr 2;first | rfl | decide +kernel)⟩
theorem y5s(e:H d=some (.dK (mdK kA li dr se ne)))(v:Int):DPut H d (.str "seens") (.int v) (upd H d (.dK (mdK kA li dr v ne))) := .inl ⟨_,.inr "seens",e,rfl,(by show 5 < sizeLine;decide),by first | rfl | (congr 2;first | rfl | decide +kernel)⟩
theorem y7Q(e:H d=some (.dK (mdK kA li dr se ne)))(v:Int):DPut H d (.str "need") (.int v) (upd H d (.dK (mdK kA li dr se v))) := .inl ⟨_,.inr "need",e,rfl,(by show 5 < sizeLine;decide),by first | rfl | (congr 2;first | rfl | decide +kernel)⟩
end
def z9W(K:PySem.W.Frag):Sp:=fun vs H Q _=>∃ (x:V) (e:Ex) (d kA:Addr) (li dr se ne:Int) (ks:List Str) (ad:Str->Addr) (kd:Str->List Int),vs=[x,.ref d]/\y8C e/\IsD K H (dE e) x/\H d=some (.dK (mdK kA li dr se ne))/\BookN H kA ks ad kd/\(∀ n∈e.nms,n∈ks)/\(∀ n,(kd n).length<=40) /\
 ∀ H',Same H H'->Q (.int (cntK kd e.nms:Nat)) H'
theorem y5C(B:Bl mg)(z1b:Def P w K mg base "_law_reads" 12 ["_law_e"] (y4M K 10))(F:Fn K mg "_law_count" z4f ["_law_e", "_law_made"]):Def P w K mg base "_law_count" 13 ["_law_e", "_law_made"] (z9W K):=by
 refine F.ok z3r (fun vs H Q E h=>?_) (fun f cdv A outer s H vs Q E hr h=>?_)
 · obtain⟨x,e,d,kA,li,dr,se,ne,ks,ad,kd,rfl,_⟩:=h;rfl
 obtain⟨x,e,d,kA,li,dr,se,ne,ks,ad,kd,rfl,xo,dx,ed,bk0,sub,len,q⟩:=h
 have nl:=z3f xo
 refine⟨_,(@z0b _ _ _ _ _ (z0t (i:=2) z3r.nd rfl (by first | exact Or.inl rfl | exact Or.inr rfl) z0d)
  (@z0b _ _ _ _ _ (z1q PassesOwn.never rfl (z0C (z0r z1b hr rfl (z0a (pv 0) z0f))) (z0E (i:=3) z3r.nd rfl (by first | exact Or.inl rfl | exact Or.inr rfl)) (@z0g _ _ _ (z0t (i:=2) z3r.nd rfl (by first | exact Or.inl rfl | exact Or.inr rfl) (z0p z1k (pv 2) (z0u (z1a K rfl) rfl B.len PySem.boot_len (z0a (z0T (z1l hr) (z0T (z1l hr) (pv 1) z0l (fun _ _=>rfl)) (pv 3) (fun _ _=>rfl)) z0f))))))
  (@z0g _ _ _ (z0o (pv 2))))),?_⟩
 dsimp only[z1g,List.set,L2.z2w]
 refine⟨_,rfl,e,x,e.rds,rfl,xo.1,(z0O e).mpr fun _ h=>h,jc xo.2.2 (by decide),xo.2.1,dx,fun rl H1 nrl s1 erl=>⟨rl,rfl,⟨_,.of erl⟩,?_⟩⟩
 refine z1c (K:=K) (xs:=e.nms.map V.str) (fun i σ H'=>H'=H1/\∃ c,σ=[some x,some (.ref d),some (.int (z8c ((e.nms.take i).map fun n=>(kd n).length):Nat)),c]) ⟨rfl,none,rfl⟩ (fun i σ H' _ h=>by rw[h.1];exact .of erl) ?_ ?_
 · rintro i y σ H' hy ⟨rfl,c,rfl⟩
   have hi:i < e.nms.length:=by have:=(jE.mp hy).1;simpa using this
   rw[jC,jB hi]at hy
   cases hy
   have b1:=bk0.same s1
   have hn:=sub _ (jZ hi)
   have ln:=len e.nms[i]
   have h1:z8c ((e.nms.take i).map fun n=>(kd n).length)<=500 ^ i:=by
    have:=y0o (ns:=e.nms.map fun n=>(kd n).length) (fun m hm=>by obtain⟨n,_,rfl⟩:=jU.mp hm;have:=len n;omega) i
    rwa [<- List.map_take]at this
   have h3:(500:Nat) ^ i<=500 ^ 12:=Nat.pow_le_pow_right (by decide) (by omega)
   have h4:(500:Nat) ^ 12 < 2 ^ 120:=by decide
   have h5:(40:Nat) < 2 ^ 10:=by decide
   refine⟨_,rfl,_,rfl,d,.ref kA,rfl,z4n (s1 _ _ ed),_,rfl,kA,_,rfl,b1.get hn,_,_,rfl,z2U (.of (b1.sub _ hn)),_,_,rfl,rfl,z3G (m:=120) (n:=10) (by rw[Int.natAbs_natCast];omega) (by rw[Int.natAbs_natCast,jA];omega) (by decide),rfl,some (.str e.nms[i]),?_⟩
   rw[jL hi,je,List.map_singleton,z4j,jA]
   rfl
 · rintro σ H' ⟨rfl,c,rfl⟩
   rw[jA,jh]
   exact⟨_,rfl,q _ s1⟩
def zK(ns:List Str)(c:List Int):List (Key×V):=(ns.zip c).map fun p=>(Sum.inr p.1,V.int p.2)
theorem y2j{ns:List Str}{c:List Int}(h:c.length=ns.length)(n:Str)(o:Int):zK (ns ++ [n]) (c ++ [o])=zK ns c ++ [(Sum.inr n,V.int o)]:=by
 unfold zK
 rw[List.zip_append h.symm,je];rfl
theorem y9c(g:Str->Int):∀ ns:List Str,zK ns (ns.map g)=kM ns fun x => .int (g x)
 | []=>rfl
 | a :: r=>congrArg ((Sum.inr a,V.int (g a)) :: ·) (y9c g r)
theorem y9d{ns:List Str}(nd:ns.Nodup){c:List Int}(h:c.length=ns.length):zK ns c=kM ns fun x => .int (bk ns c x):=by
 have:=y9c (bk ns c) ns
 rwa [z6A nd h]at this
theorem z5q{ns:List Str}(nd:ns.Nodup){c:List Int}(h:c.length=ns.length)(x:Str):z4V (zK ns c) (.inr x)=if x∈ns then some (.int (bk ns c x)) else none:=by
 rw[y9d nd h,y0z]
theorem y6n(ns:List Str)(c:List Int):(zK ns c).length<=ns.length:=by
 unfold zK
 rw[jA,List.length_zip]
 omega
def BkQ(H0 H:Hp)(ns:List Str)(c:List Int)(v:V):Prop:=∃ b,v = .ref b/\H0 b=none/\H b=some (.dK (zK ns c))
theorem BkQ.same{H0 H H':Hp}{ns:List Str}{c:List Int}{v:V}(h:BkQ H0 H ns c v)(s:Same H H'):BkQ H0 H' ns c v:=by
 obtain⟨b,e,n,h⟩:=h
 exact⟨b,e,n,s _ _ h⟩
theorem BkQ.lst{H0 H:Hp}{ns:List Str}{c:List Int}{v:V}{l:Addr}{xs ys:List V}(e:H l=some (.lst xs))(h:BkQ H0 H ns c v):BkQ H0 (upd H l (.lst ys)) ns c v:=by
 obtain⟨b,ev,n,h⟩:=h
 refine⟨b,ev,n,?_⟩
 rw[z0n (fun z:b=l=>by rw[z,e]at h;cases h)];exact h
def z6M(K:PySem.W.Frag):Sp:=fun vs H Q _=>∃ (nl kA:Addr) (ns ks:List Str) (ad:Str->Addr) (kd:Str->List Int),vs=[.ref nl,.ref kA]/\SqL K H nl (ns.map V.str)/\ns.Nodup/\ns.length<=12/\BookN H kA ks ad kd/\(∀ n∈ns,n∈ks)/\(∀ n∈ns,kd n≠[])/\(∀ n,(kd n).length<=40)/\cntK kd ns<=500 /\
 ∀ (r:Addr) (ys:List V) (H':Hp),Same H H'->H r=none->H' r=some (.lst ys)->Paired (BkQ H H' ns) (chs (ns.map kd)) ys->Q (.ref r) H'
theorem z5h{α:Type}{F:α->V->Prop}{x:α}{y:V}(h:F x y):∀ {l:List α}{m:List V},Paired F l m->Paired F (l ++ [x]) (m ++ [y])
 | _,_,.nil => .cons h .nil
 | _,_,.cons g t => .cons g (z5h h t)
theorem z4S{α:Type}{F G:α->V->Prop}(i:∀ a y,F a y->G a y):∀ {l:List α}{m:List V},Paired F l m->Paired G l m
 | _,_,.nil => .nil
 | _,_,.cons g t => .cons (i _ _ g) (z4S i t)
theorem z8e{α:Type}{F:α->V->Prop}:∀ {l:List α}{m:List V},Paired F l m->∀ {i:Nat}{y:V},m[i]? = some y->∃ a,l[i]? = some a/\F a y
 | _,_,.nil,i,y,e=>by simp at e
 | _,_,.cons (a:=a) g t,0,y,e=>by simp at e;subst e;exact⟨a,rfl,g⟩
 | _,_,.cons g t,i + 1,y,e=>by
  obtain⟨a,h1,h2⟩:=z8e t (i:=i) (by simpa using e)
  exact⟨a,by simpa using h1,h2⟩
theorem y5D(B:Bl mg)(F:Fn K mg "_law_books" z4g ["_law_names", "_law_kinds_by"]):Def P w K mg base "_law_books" 1 ["_law_names", "_law_kinds_by"] (z6M K):=by
 refine F.ok z1p (fun vs H Q E h=>?_) (fun f cdv A outer s H vs Q E hr h=>?_)
 · obtain⟨nl,kA,ns,ks,ad,kd,rfl,_⟩:=h;rfl
 obtain⟨nl,kA,ns,ks,ad,kd,rfl,qn,nd,l12,bk0,sub,kne,len,c5,q⟩:=h
 have big:(100000:Nat) < sizeLine:=by decide
 have cl:(chs (ns.map kd)).length<=500:=by rw[z3l,jd];exact c5
 have nel:∀ l∈ns.map kd,l≠[]:=fun l hl=>by
  obtain⟨n,hn,rfl⟩:=jU.mp hl
  exact kne n hn
 refine⟨_,(@z0b _ _ _ _ _ (@z2s _ 2 _ _ _ _ _ z1p.nd rfl (by first | exact Or.inl rfl | exact Or.inr rfl) (@z4A _ _ _ _ z7f rfl) rfl (by first | exact .inl rfl | exact .inr rfl))
  (@z0b _ _ _ _ _ (z1q PassesOwn.never rfl (z0C (pv 0)) (z0E (i:=3) z1p.nd rfl (by first | exact Or.inl rfl | exact Or.inr rfl)) (@z0b _ _ _ _ _ (@z2s _ 4 _ _ _ _ _ z1p.nd rfl (by first | exact Or.inl rfl | exact Or.inr rfl) (@z3Q _ _) rfl (by first | exact .inl rfl | exact .inr rfl))
  (@z0b _ _ _ _ _ (z1q PassesOwn.never rfl (z0C (pv 2)) (z0E (i:=5) z1p.nd rfl (by first | exact Or.inl rfl | exact Or.inr rfl)) (@z0g _ _ _ (z1q PassesOwn.never rfl (z0C (z0T (z1l hr) (pv 1) (pv 3) (fun _ _=>rfl))) (z0E (i:=6) z1p.nd rfl (by first | exact Or.inl rfl | exact Or.inr rfl)) (@z0b _ _ _ _ _ (z0t (i:=7) z1p.nd rfl (by first | exact Or.inl rfl | exact Or.inr rfl) (z0K z8D rfl B.dict PyProof.Rows.boot_dict (@z0h _ _ _ _ _ (pv 5) z0f rfl)))
  (@z0b _ _ _ _ _ (z2a (z1l hr) (pv 7) (pv 3) (pv 6) rfl)
  (@z0g _ _ _ (z3b (z7g PySem.F.plainAttrs_list PySem.F.slot_list_append PySem.F.type_list_append z1z (pv 4) (@z0h _ _ _ _ _ (pv 7) z0f rfl)))))))))
  (@z0g _ _ _ (z0t (i:=2) z1p.nd rfl (by first | exact Or.inl rfl | exact Or.inr rfl) (pv 4))))))
  (@z0g _ _ _ (@z4y _ _ _ _ (pv 2))))),?_⟩
 refine fun d0 nd0=>⟨by show 1<=sizeLine;decide,fun f0 nf0=>?_⟩
 have s0:=z0e nd0 (.dK [])
 have s1:=z0e nf0 (.lst [V.ref d0])
 have s01:=s0.trans s1
 dsimp only[z1g,List.set,L2.z2w]
 refine⟨_,rfl,nl,rfl,⟨_,s01.seq qn⟩,z1c (K:=K) (xs:=ns.map V.str) (fun i σ H'=>Same H H'/\∃ (fa:Addr) (ys:List V) (c3 c4 c5 c6 c7:Option V),σ=[some (.ref nl),some (.ref kA),some (.ref fa),c3,c4,c5,c6,c7]/\H fa=none/\H' fa=some (.lst ys)/\Paired (BkQ H H' (ns.take i)) (chs ((ns.map kd).take i)) ys)
  ⟨s01,f0,_,none,none,none,none,none,rfl,s0.free nf0,z0c,.cons ⟨d0,rfl,nd0,s1 _ _ z0c⟩ .nil⟩ (fun i σ H' _ h=>h.1.seq qn) ?_ ?_⟩
 · rintro i x σ H1 hx ⟨sm,fa,ys,c3,c4,c5',c6,c7,rfl,nfa,efa,pr⟩
   have hi:i < ns.length:=by have:=(jE.mp hx).1;simpa using this
   rw[jC,jB hi]at hx
   cases hx
   have hi':i < (ns.map kd).length:=by rw[jA];exact hi
   have tk:(ns.map kd).take (i + 1)=(ns.map kd).take i ++ [kd ns[i]]:=by rw[jL hi',kF]
   have tn:ns.take (i + 1)=ns.take i ++ [ns[i]]:=jL hi
   have ct:=y0T nel (i + 1)
   rw[tk,z4q]at ct ⊢
   rw[tn]
   have clen:=z4I (chs ((ns.map kd).take i)) (kd ns[i])
   have hcs:∀ c∈chs ((ns.map kd).take i),c.length=(ns.take i).length:=fun c hc=>by
    have:=z2u _ ((ns.map kd).take i) rfl c hc
    rw[this,jg,jg,jA]
   have nin:ns[i]∉ns.take i:=fun z=>by
    rw[<- List.take_append_drop i ns,j4]at nd
    exact nd.2.2 _ z ns[i] (by rw[List.drop_eq_getElem_cons hi];exact jX ..) rfl
   have ndt:(ns.take i).Nodup:=(List.take_sublist i ns).nodup nd
   have ml:(ns.take i).length<=12:=by rw[jg];omega
   have hk:=sub _ (jZ hi)
   have l40:=len ns[i]
   generalize ns[i]=n at hk l40 clen ct nin ⊢
   generalize chs ((ns.map kd).take i)=cs at pr ct clen hcs ⊢
   generalize ns.take i=ms at pr hcs nin ndt ml ⊢
   have yl:=pr.length
   refine⟨jR _,fun la nla=>?_⟩
   have s2:=z0e nla (.lst [])
   have nlaH:H la=none:=sm.free nla
   dsimp only[z1g,List.set]
   refine⟨_,rfl,fa,rfl,⟨_,.of (s2 _ _ efa)⟩,z1c (K:=K) (xs:=ys) (fun j σ H'=>Same H1 H'/\∃ (zs:List V) (c5 c6 c7:Option V),σ=[some (.ref nl),some (.ref kA),some (.ref fa),some (.str n),some (.ref la),c5,c6,c7]/\H' la=some (.lst zs)/\Paired (BkQ H H' (ms ++ [n])) (chF (cs.take j) (kd n)) zs)
    ⟨s2,[],_,_,_,rfl,z0c,.nil⟩ (fun j σ H' _ h => .of (h.1 _ _ efa)) ?_ ?_⟩
   · rintro j x σ H2 hx2 ⟨sj,zs,c5,c6,c7,rfl,ela,prz⟩
     obtain⟨c,ec,b,rfl,_,eb⟩:=z8e pr hx2
     have hj:j < cs.length:=(jE.mp ec).1
     have tk2:cs.take (j + 1)=cs.take j ++ [c]:=by rw[List.take_succ,ec];rfl
     have cL:=hcs c (jf ec)
     have jb:min j cs.length * (kd n).length<=cs.length * (kd n).length:=Nat.mul_le_mul_right _ (by omega)
     have zl:=prz.length
     rw[z4I,jg]at zl
     have b2:=(bk0.same sm).same sj
     refine⟨_,rfl,_,rfl,kA,.ref (ad n),rfl,b2.get hk,ad n,rfl,⟨_,.of (b2.sub n hk)⟩,?_⟩
     refine z1c (K:=K) (xs:=(kd n).map V.int) (fun k σ H'=>Same H1 H'/\∃ (zs:List V) (c6 c7:Option V),σ=[some (.ref nl),some (.ref kA),some (.ref fa),some (.str n),some (.ref la),some (.ref b),c6,c7]/\H' la=some (.lst zs)/\Paired (BkQ H H' (ms ++ [n])) (chF (cs.take j) (kd n) ++ ((kd n).take k).map fun o=>c ++ [o]) zs)
      ⟨sj,zs,_,_,rfl,ela,by simpa using prz⟩ (fun k σ H' _ h => .of (((bk0.same sm).same h.1).sub n hk)) ?_ ?_
     · rintro k y σ H3 hy ⟨sk,zs3,c6',c7',rfl,ela3,pr3⟩
       have hkk:k < (kd n).length:=by have:=(jE.mp hy).1;simpa using this
       rw[jC,jB hkk]at hy
       cases hy
       have tk3:(kd n).take (k + 1)=(kd n).take k ++ [(kd n)[k]]:=jL hkk
       have zl3:=pr3.length
       rw[jJ,jA,z4I,jg,jg]at zl3
       generalize (kd n)[k]=o at tk3 ⊢
       refine⟨_,rfl,b,_,rfl,sk _ _ eb,fun p np=>?_⟩
       have s4:=z0e np (.dK (zK ms c))
       dsimp only[z1g,List.set]
       have vn:z4V (zK ms c) (Sum.inr n)=none:=by rw[z5q ndt cL,if_neg nin]
       have zlen:(zK ms c).length < sizeLine:=by have:=y6n ms c;omega
       refine⟨_,rfl,_,rfl,_,rfl,p,_,rfl,.inl ⟨_,Sum.inr n,z0c,rfl,zlen,rfl⟩,?_⟩
       rw[y0i _ vn,<- y2j cL]
       have s5:Same H3 (upd (upd H3 p (.dK (zK ms c))) p (.dK (zK (ms ++ [n]) (c ++ [o])))):=z0G np s4
       have e5:(upd (upd H3 p (.dK (zK ms c))) p (.dK (zK (ms ++ [n]) (c ++ [o])))) p=some (.dK (zK (ms ++ [n]) (c ++ [o]))):=z0c
       generalize upd (upd H3 p (.dK (zK ms c))) p (.dK (zK (ms ++ [n]) (c ++ [o])))=H5 at s5 e5 ⊢
       refine⟨_,rfl,.inl ⟨rfl,_,.of (s5 _ _ ela3)⟩,_,rfl,la,zs3,.ref p,rfl,rfl,s5 _ _ ela3,by omega,?_⟩
       refine⟨z0G nla (sk.trans s5),_,_,_,rfl,z0c,?_⟩
       rw[tk3,je,<- List.append_assoc]
       exact z5h (BkQ.lst (s5 _ _ ela3) ⟨p,rfl,(sm.trans sk).free np,e5⟩) (z4S (fun a y h=>BkQ.lst (s5 _ _ ela3) (h.same s5)) pr3)
     · rintro σ H3 ⟨sk,zs3,c6',c7',rfl,ela3,pr3⟩
       rw[jA,jh]at pr3
       refine⟨sk,zs3,_,_,_,rfl,ela3,?_⟩
       have e1:chF (cs.take (j + 1)) (kd n)=chF (cs.take j) (kd n) ++ (kd n).map fun o=>c ++ [o]:=by unfold chF;rw[tk2,List.flatMap_append];simp
       rw[e1];exact pr3
   · rintro σ H2 ⟨sj,zs,c5,c6,c7,rfl,ela,prz⟩
     rw[<- yl,jh]at prz
     exact⟨_,rfl,sm.trans sj,la,zs,_,_,_,_,_,rfl,nlaH,ela,prz⟩
 · rintro σ H' ⟨sm,fa,ys,c3,c4,c5',c6,c7,rfl,nfa,efa,pr⟩
   rw[jA,jh,js (by rw[jA];exact jF _)]at pr
   exact⟨_,rfl,q fa ys H' sm nfa efa pr⟩
structure Mad (H:Hp) (d kA:Addr) (ks:List Str) (ad:Str->Addr) (kd:Str->List Int) (ne:Nat):Prop where
 at_:∃ li dr se:Int,H d=some (.dK (mdK kA li dr se ne))/\0<=li/\li<=16
 bk:BookN H kA ks ad kd
 ne:d≠kA
section
variable {H H':Hp}{d kA:Addr}{ks:List Str}{ad:Str->Addr}{kd:Str->List Int}{ne:Nat}
theorem Mad.same(h:Mad H d kA ks ad kd ne)(s:Same H H'):Mad H' d kA ks ad kd ne:=by
 obtain⟨⟨li,dr,se,e,b⟩,c,n⟩:=h
 exact⟨⟨li,dr,se,s _ _ e,b⟩,c.same s,n⟩
theorem Mad.two(h:Mad H d kA ks ad kd ne){li dr se:Int}{ne':Nat}(l0:0<=li)(l1:li<=16):Mad (upd H d (.dK (mdK kA li dr se ne'))) d kA ks ad kd ne':=by
 refine⟨⟨li,dr,se,z0c,l0,l1⟩,⟨?_,fun x hx=>?_⟩,h.ne⟩
 · rw[z0n h.ne.symm];exact h.bk.at_
 · have e:=h.bk.sub x hx
   obtain⟨_,_,_,q,_⟩:=h.at_
   rw[z0n (fun z:ad x=d=>by rw[z,q]at e;cases e)];exact e
theorem Mad.put(h:Mad H d kA ks ad kd ne){p:Addr}{n:Str}{l:List Int}(e:H p=some (.lst (l.map V.int))):Mad (upd H kA (.dK (z3O (kM ks fun x => .ref (ad x)) (Sum.inr n) (.ref p)))) d kA (y0Y ks n) (fun y=>if y=n then p else ad y) (fun y=>if y=n then l else kd y) ne:=by
 obtain⟨li,dr,se,q,b⟩:=h.at_
 exact⟨⟨li,dr,se,by rw[z0n h.ne];exact q,b⟩,h.bk.put e,h.ne⟩
theorem Mad.nl(h:Mad H d kA ks ad kd ne){b:Addr}{xs:List V}(e:H b=some (.lst xs)):b≠d/\b≠kA:=by
 obtain⟨_,_,_,q,_⟩:=h.at_
 exact⟨fun z=>(by rw[z,q]at e;cases e),fun z=>(by rw[z,h.bk.at_]at e;cases e)⟩
end
def Ex2(d kA:Addr)(H H':Hp):Prop:=∀ c o,c≠d->c≠kA->H c=some o->H' c=some o
section
variable {H H1 H2:Hp}{d kA:Addr}
theorem Ex2.of(s:Same H H1):Ex2 d kA H H1:=fun c o _ _ h=>s c o h
theorem Ex2.trans(a:Ex2 d kA H H1)(b:Ex2 d kA H1 H2):Ex2 d kA H H2:=fun c o h1 h2 h=>b c o h1 h2 (a c o h1 h2 h)
theorem Ex2.upd1(o:HO):Ex2 d kA H (upd H d o):=fun c u h1 _ h=>by rw[z0n h1];exact h
theorem Ex2.upd2(o:HO):Ex2 d kA H (upd H kA o):=fun c u _ h1 h=>by rw[z0n h1];exact h
theorem Ex2.al{A:List Addr}{ks:List Str}{ad:Str->Addr}{kd:Str->List Int}{ne:Nat}(x:Ex2 d kA H H1)(m:Mad H1 d kA ks ad kd ne)(h:Al A H):Al A H1:=fun a ha=>by
 by_cases z:a=d
 · obtain⟨_,_,_,q,_⟩:=m.at_
   rw[z];exact⟨_,q⟩
 · by_cases z2:a=kA
   · rw[z2];exact⟨_,m.bk.at_⟩
   · obtain⟨o,q⟩:=h a ha
     exact⟨o,x a o z z2 q⟩
theorem Ex2.hid{A:List Addr}(x:Ex2 d kA H H1)(h1:d∈A)(h2:kA∈A):Same (hid A H) (hid A H1):=fun b o e=>by
 unfold Fd.hid at e ⊢
 split at e
 · cases e
 · rename_i hb
   rw[if_neg hb]
   exact x b o (fun z=>hb (z ▸ h1)) (fun z=>hb (z ▸ h2)) e
end
theorem y3R{c:TT}{t u v:TS}{D:Ends}{σ:St}{H:Hp}(p:Bool->Hp->Prop)(hc:∀ Q:Bool->Hp->Prop,(∀ b H',p b H'->Q b H')->c σ H Q)(h1:∀ H',p true H'->t { D with nx:=v D } σ H')(h2:∀ H',p false H'->u { D with nx:=v D } σ H'):y4L (y7m c t u) v D σ H :=
 hc _ fun b H' hb=>by cases b with
  | true=>exact y5M (h1 H' hb)
  | false=>exact z5Z (h2 H' hb)
theorem z9t{c:TT}{t u v:TS}{D:Ends}{σ:St}{H:Hp}(Pj:St->Hp->Prop)(p:Bool->Hp->Prop)(hc:∀ Q:Bool->Hp->Prop,(∀ b H',p b H'->Q b H')->c σ H Q)(h1:∀ H' R,p true H'->(∀ σ' H'',Pj σ' H''->R σ' H'')->t ⟨R,D.rt,D.bk,D.ct⟩ σ H')(h2:∀ H' R,p false H'->(∀ σ' H'',Pj σ' H''->R σ' H'')->u ⟨R,D.rt,D.bk,D.ct⟩ σ H')(h:∀ σ' H',Pj σ' H'->v D σ' H'):y4L (y7m c t u) v D σ H :=
 hc _ fun b H' hb=>by cases b with
  | true=>exact y5M (h1 H' (v D) hb h)
  | false=>exact z5Z (h2 H' (v D) hb h)
def y2w:Sp:=fun vs H Q _=>∃ (d kA:Addr) (ks:List Str) (ad:Str->Addr) (kd:Str->List Int) (ne:Nat) (m:Int),vs=[.ref d,.int m]/\Mad H d kA ks ad kd ne/\1<=m/\m<=3/\∀ (b:Bool) (H':Hp),Ex2 d kA H H'->Mad H' d kA ks ad kd ne->Q (.bl b) H'
theorem y7T(B:Bl mg)(F:Fn K mg "_law_room" z5d ["_law_made", "_law_many"]):Def P w K mg base "_law_room" 1 ["_law_made", "_law_many"] y2w:=by
 refine F.ok y2O (fun vs H Q E h=>?_) (fun f cdv A outer s H vs Q E hr h=>?_)
 · obtain⟨d,kA,ks,ad,kd,ne,m,rfl,_⟩:=h;rfl
 obtain⟨d,kA,ks,ad,kd,ne,m,rfl,mad,m1,m3,q⟩:=h
 obtain⟨li,dr,se,e,l0,l1⟩:=mad.at_
 have ok:IntMulOk li m:=z3G (m:=62) (n:=4) (by omega) (by omega) (by decide)
 refine⟨_,(@z0b _ _ _ _ _ (z0B (PW.pt (z4x (z0j y1t (z0p z1k (z0T (z1l hr) (pv 0) z0l (fun _ _=>rfl)) (pv 1)) z0d (z0k _)) (z3I (z0j y1t (z0T (z1l hr) (pv 0) z0l (fun _ _=>rfl)) z0d (z0k _))))) (@z0g _ _ _ (z0o z7h)) z0m)
  (@z0b _ _ _ _ _ (z2a (z1l hr) (pv 0) z0l (z0p z1k (z0T (z1l hr) (pv 0) z0l (fun _ _=>rfl)) (pv 1)) rfl)
  (@z0b _ _ _ _ _ (z2a (z1l hr) (pv 0) z0l (z0p (z0R.or (z0q.or (z0Q.or (z0y K rfl)))) (z0T (z1l hr) (pv 0) z0l (fun _ _=>rfl)) z0d) rfl)
  (@z0g _ _ _ (z0o z7h))))),?_⟩
 refine y3R (fun b H'=>H'=H/\(b=false->li * m<=16)) (fun Q' hQ=>?_) (fun H' hb=>?_) (fun H' hle=>nxt ?_)
 · refine⟨_,rfl,d,.int li,rfl,y0I e,_,rfl,_,_,rfl,rfl,ok,_,_,rfl,rfl,_,rfl,z1C (fun h=>hQ true _ ⟨rfl,fun z=>(nomatch z)⟩) (fun h=>?_)⟩
   exact⟨_,rfl,d,.int dr,rfl,y0J e,_,_,rfl,rfl,_,rfl,hQ _ _ ⟨rfl,fun _=>by omega⟩⟩
 · rw[hb.1]
   exact q false H (.of (Same.refl _)) mad
 · obtain⟨rfl,hle⟩:=hle
   have hle:=hle rfl
   have l0':0<=li * m:=Int.mul_nonneg l0 (by omega)
   refine⟨_,rfl,d,.int li,rfl,y0I e,_,rfl,_,_,rfl,rfl,ok,_,rfl,d,_,rfl,y5t e (li * m),?_⟩
   have mad2:=mad.two (dr:=dr) (se:=se) (ne':=ne) l0' hle
   have x2:=Ex2.upd1 (d:=d) (kA:=kA) (H:=H') (.dK (mdK kA (li * m) dr se ne))
   have e2:(upd H' d (.dK (mdK kA (li * m) dr se ne))) d=some (.dK (mdK kA (li * m) dr se ne)):=z0c
   generalize upd H' d (.dK (mdK kA (li * m) dr se ne))=H2 at e2 x2 mad2
   refine⟨_,rfl,d,.int dr,rfl,y0J e2,.inl ⟨_,_,rfl,rfl,_,rfl,d,_,rfl,y5u e2 (dr + 1),?_⟩⟩
   exact q true _ (x2.trans (.upd1 _)) (mad2.two l0' hle)
theorem y9E{H:Hp}{nm:List Str}{nl pe:Addr}{Q:VK}(e1:H nl=some (.lst (nm.map V.str)))(e2:H pe=some (.lst []))(h:∀ b,Q (.bl b) H):rI0 (fun i j=>V.bl (decide (i=j))) (.ref nl) (.ref pe) H Q\/y6w K (.ref nl) (.ref pe) H Q\/x0S K true (.ref nl) (.ref pe) H Q:=by
 by_cases hn:nm=[]
 · subst hn
   exact .inr (.inr ⟨.lst [],⟨nl,[],rfl,.of e1,rfl⟩,⟨pe,[],rfl,.of e2,rfl⟩,⟨nl,rfl⟩,by decide,h _⟩)
 · exact .inr (.inl ⟨nl,pe,_,[],rfl,rfl,.of e1,.of e2,(by rw[jA];exact fun z=>hn (jk.mp z)),h _⟩)
theorem y6b{ix:List Nat}{wi:TI}{te td ty:TE}{r:List V->Hp->VK->Prop}{u:TS}{D:Ends}{σ:St}{H:Hp}(h:wi σ H (z1m ix te σ fun x H1=>r [x] H1 fun v H2=>td σ H2 fun x H3=>ty σ H3 fun y H4=>∃ a H5,x = .ref a/\DPut H4 a y v H5/\u D σ H5)) :
 y4L (y2R td ty (tCB r (z1J (z3Z ix wi z6G te) z6F))) u D σ H:=h
theorem y4f {K : PySem.W.Frag} {ix : List Nat} {wi : TI} {te td ty : TE} {u : TS} {D : Ends} {σ : St} {H : Hp} (h : wi σ H (z1m ix te σ fun x H1 => ∃ (a : Addr) (ns : List Int), x = .ref a /\ SqL K H1 a (ns.map V.int) /\ ns.length <= 4000 /\ (∀ ks : List Int, ks.Nodup -> (∀ k ∈ ks, k ∈ ns) -> ks.length < 64) /\
      ∀ (l:Addr) (ss:List Int),H1 l=none->(∀ k,k∈ss↔k∈ns)->ss.Pairwise (· < ·)->td σ (upd H1 l (.lst (ss.map V.int))) fun x H3=>ty σ H3 fun y H4=>∃ a H5,x = .ref a/\DPut H4 a y (.ref l) H5/\u D σ H5)) :
 y4L (y2R td ty (z5s K (z3Z ix wi z6G te))) u D σ H:=h
theorem Lf.exok{nm:List Str}{e:Ex}{h n:Nat}(l:Lf nm e h n)(h9:h<=9)(n12:n<=12):y8C e:=⟨l.ok,by have:=l.high;omega,by have:=l.few;omega⟩
theorem Lf.nsub{nm:List Str}{e:Ex}{h n:Nat}(l:Lf nm e h n):∀ x∈e.nms,x∈nm:=fun x hx=>l.sub x ((z2t e).mp hx)
theorem Lf.mono{nm nm':List Str}{e:Ex}{h n h' n':Nat}(l:Lf nm e h n)(a:h<=h')(b:n<=n')(s:∀ x∈nm,x∈nm'):Lf nm' e h' n':=⟨l.ok,jc l.high a,jc l.few b,fun x hx=>s x (l.sub x hx)⟩
def RowIs(own:Str)(r:Rw):Prop:=(∃ os,r = .draw own os)\/(∃ e,r = .lt own e)\/∃ e,r = .seen e
structure RowOk (nm:List Str) (kd:Str->List Int) (own:Str) (r:Rw):Prop where
 fine:r.fine
 sub:∀ n∈r.reads,n∈nm
 is:RowIs own r
 cnt:cntK kd r.reads<=40
 fst:nm=[]->∃ os,r = .draw own os
 ne:∀ n∈nm ++ r.giv,kdS kd r n≠[]
 len:∀ n,(kdS kd r n).length<=40
def y2v(K:PySem.W.Frag):Sp:=fun vs H Q _=>∃ (c:Int) (nl d kA:Addr) (own:Str) (nm ks:List Str) (ad:Str->Addr) (kd:Str->List Int) (ne:Nat),vs=[.int c,.ref nl,.str own,.ref d]/\H nl=some (.lst (nm.map V.str))/\Mad H d kA ks ad kd ne/\nm.length<=62/\ks.length<=62/\1<=ne/\ne<=40/\(∀ n∈nm,n∈ks)/\(∀ n∈nm,kd n≠[])/\(∀ n,(kd n).length<=40) /\
 ∀ (x:V) (r:Rw) (ad':Str->Addr) (H':Hp),Ex2 d kA H H'->Mad H' d kA (y2r ks r) ad' (kdS kd r) (max ne (cntK kd r.reads))->(∀ A,Al A H->d∈A->kA∈A->IsD K (hid A H') (dR r) x)->RowOk nm kd own r->Q x H'
theorem y7S(B:Bl mg)(z0N:Def P w K mg base "_law_mixed" 1 ["_law_cell", "_law_k"] z5b)(z7I:Def P w K mg base "_law_room" 1 ["_law_made", "_law_many"] y2w)(z3n:Def P w K mg base "_law_outcomes" 3 ["_law_cell", "_law_many", "_law_far"] (y2A K))(z1E:Def P w K mg base "_law_expression" 2 ["_law_cell", "_law_names"] (y2E K))
 (z4t:Def P w K mg base "_law_count" 13 ["_law_e", "_law_made"] (z9W K)) (z1b:Def P w K mg base "_law_reads" 12 ["_law_e"] (y4M K 10)) (z2H:Def P w K mg base "_law_books" 1 ["_law_names", "_law_kinds_by"] (z6M K)) (z1I:Def P w K mg base "_law_worth" 12 ["_law_e", "_law_book"] (z6N K 10))
 (F:Fn K mg "_law_sheet_row" z1M ["_law_cell", "_law_names", "_law_own", "_law_made"]):Def P w K mg base "_law_sheet_row" 14 ["_law_cell", "_law_names", "_law_own", "_law_made"] (y2v K):=by
 refine F.ok z0I (fun vs H Q E h=>?_) (fun f cdv A outer s H vs Q E hr h=>?_)
 · obtain⟨c,nl,d,kA,own,nm,ks,ad,kd,ne,rfl,_⟩:=h;rfl
 obtain⟨c,nl,d,kA,own,nm,ks,ad,kd,ne,rfl,enl,mad,l62,k62,ne1,ne40,sub,kne,len,q⟩:=h
 have big:(100000:Nat) < sizeLine:=by decide
 refine⟨_,(@z0b _ _ _ _ _ (z0t (i:=4) z0I.nd rfl (by first | exact Or.inl rfl | exact Or.inr rfl) (z0p (z0R.or (z0q.or (z0Q.or (z0y K rfl)))) z0d (z0p z0L (z0p z1y (pv 0) z0d) z0d)))
  (@z0b _ _ _ _ _ (z0B (PW.pt (z4x (z0j (z0x.or ((z2o K rfl hr.units).or (z0w K rfl hr.units))) (pv 1) (z2n z0f) (z0k _)) (z3I (PW.pt (y6x (z0j y1s (z0p z0L (pv 0) z0d) z0d (z0k _)) (y3d (z1Z (z0r z7I hr rfl (z0a (pv 3) (z0a (pv 4) z0f)))))))))) (@z0b _ _ _ _ _ (z0t (i:=7) z0I.nd rfl (by first | exact Or.inl rfl | exact Or.inr rfl) (z0r z3n hr rfl (z0a (pv 0) (z0a (pv 4) (z0a (z1f (z0x.or ((z2o K rfl hr.units).or (z0w K rfl hr.units))) (pv 1) (z2n z0f) (z0k _)) z0f)))))
  (@z0b _ _ _ _ _ (z2a (z1l hr) (z0T (z1l hr) (pv 3) z0l (fun _ _=>rfl)) (pv 2) (z0u (z4U K rfl) rfl B.sorted PyProof.Rows.boot_sorted (z0a (z1u (CompOk.of (x := "_law_one") (M:=[]) (ix:=[]) rfl rfl (by decide +kernel) (by decide +kernel) rfl trivial (by rfl) trivial) rfl (by decide +kernel) (z0C (pv 7)) (fun _ _ _ _ _=>z0V) (fun _ _ _ _ _=>(z0s (z0i K rfl) (pv 0) z0d (fun _ _=>rfl)))) z0f)) rfl)
  (@z0g _ _ _ (z0o (z1j (z0a z0l (z0a (pv 2) (z0a (pv 7) z0f)))))))) z0m)
  (@z0b _ _ _ _ _ (z0t (i:=5) z0I.nd rfl (by first | exact Or.inl rfl | exact Or.inr rfl) (pv 1))
  (@z0b _ _ _ _ _ (z0B (z0j (z0x.or ((z2o K rfl hr.units).or (z0w K rfl hr.units))) (z0p z0L (z0p z1y (pv 0) z0d) z0d) z0d (z0k _)) (@z0g _ _ _ (z0t (i:=5) z0I.nd rfl (by first | exact Or.inl rfl | exact Or.inr rfl) (z2N ((z3p K rfl).or (z4v K rfl)) (pv 1) (z3c (z0u (z8B rfl) rfl B.max PyProof.Rows.boot_max (z0a z0d (z0a (z0p z8h (z0u (z1a K rfl) rfl B.len PySem.boot_len (z0a (pv 1) z0f)) z0d) z0f)))) z4z))) z0m)
  (@z0b _ _ _ _ _ (z0t (i:=6) z0I.nd rfl (by first | exact Or.inl rfl | exact Or.inr rfl) (z0r z1E hr rfl (z0a (z0p z1y (pv 0) z0d) (z0a (pv 5) z0f))))
  (@z0b _ _ _ _ _ (z0B (z0j (z0x.or ((z2o K rfl hr.units).or (z0w K rfl hr.units))) (z0p z0L (pv 0) z0d) z0d (z0k _)) (@z0g _ _ _ (z0t (i:=6) z0I.nd rfl (by first | exact Or.inl rfl | exact Or.inr rfl) (z1j (z0a z0l (z0a (pv 6) (z0a (z0r z1E hr rfl (z0a (z0r z0N hr rfl (z0a (pv 0) (z0a z0d z0f))) (z0a (pv 5) z0f))) z0f)))))) z0m)
  (@z0b _ _ _ _ _ (z0B (z0j y1t (z0r z4t hr rfl (z0a (pv 6) (z0a (pv 3) z0f))) z0d (z0k _)) (@z0g _ _ _ (z0t (i:=6) z0I.nd rfl (by first | exact Or.inl rfl | exact Or.inr rfl) (z1j (z0a z0l (z0a (z1j (z0a z0l (z0a (z0s (z0i K rfl) (pv 1) (y5n z9Q z0d) (fun _ _=>rfl)) z0f))) z0f))))) z0m)
  (@z0b _ _ _ _ _ (z2a (z1l hr) (pv 3) z0l (z0u (z8B rfl) rfl B.max PyProof.Rows.boot_max (z0a (z0T (z1l hr) (pv 3) z0l (fun _ _=>rfl)) (z0a (z0r z4t hr rfl (z0a (pv 6) (z0a (pv 3) z0f))) z0f))) rfl)
  (@z0b _ _ _ _ _ (z0B (PW.pt (y6x (z0j (z0x.or ((z2o K rfl hr.units).or (z0w K rfl hr.units))) (z0p z0L (pv 0) z0d) z0d (z0k _)) (y3d (z0j y1s (z0T (z1l hr) (pv 3) z0l (fun _ _=>rfl)) z0d (z0k _))))) (@z0b _ _ _ _ _ (z2a (z1l hr) (pv 3) z0l (z0p (z0R.or (z0q.or (z0Q.or (z0y K rfl)))) (z0T (z1l hr) (pv 3) z0l (fun _ _=>rfl)) z0d) rfl)
  (@z0g _ _ _ (z0o (z1j (z0a z0l (z0a (pv 6) z0f)))))) z0m)
  (@z0b _ _ _ _ _ (z2a (z1l hr) (z0T (z1l hr) (pv 3) z0l (fun _ _=>rfl)) (pv 2) (z5F K rfl rfl rfl B.sorted PyProof.Rows.boot_sorted rfl B.set PyProof.Rows.boot_set (z1u (CompOk.of (x := "_law_book") (M:=["_law_e"]) (ix:=[6]) rfl rfl (by decide +kernel) (by decide +kernel) rfl ⟨rfl,trivial⟩ (by rfl) ⟨⟨rfl,rfl,rfl,rfl⟩,trivial⟩) rfl (by decide +kernel) (z0C (z0r z2H hr rfl (z0a (z0r z1b hr rfl (z0a (pv 6) z0f)) (z0a (z0T (z1l hr) (pv 3) z0l (fun _ _=>rfl)) z0f)))) (fun _ _ _ _ _=>z0V) (fun _ _ _ _ _=>(z0r z1I hr rfl (z0a (pv 1) (z0a (pv 0) z0f)))))) rfl)
  (@z0g _ _ _ (z0o (z1j (z0a z0l (z0a (pv 2) (z0a (pv 6) z0f)))))))))))))))),?_⟩
 refine⟨_,rfl,_,_,rfl,rfl,⟨by decide,by decide⟩,_,_,rfl,rfl,(by show (0:Int) < 3;decide),.inl ⟨_,_,rfl,rfl,?_⟩⟩
 have m1:1<=1 + c / 14 % 3/\1 + c / 14 % 3<=3:=by omega
 dsimp only[z1g,List.set,L2.z2w]
 generalize 1 + c / 14 % 3=m at m1
 refine y3R (fun b H'=>Ex2 d kA H H'/\Mad H' d kA ks ad kd ne/\(b=false->nm≠[])) (fun Q' hQ=>?_) (fun H3 h3=>?_) (fun H3 h3=>nxt ?_)
 · refine⟨_,rfl,jR _,fun pe npe=>?_⟩
   have s2:=z0e npe (.lst [])
   by_cases hn:nm=[]
   · subst hn
     exact .inr (.inr ⟨.lst [],⟨nl,[],rfl,.of (s2 _ _ enl),rfl⟩,⟨pe,[],rfl,.of z0c,rfl⟩,⟨nl,rfl⟩,by decide,_,rfl,y5M (hQ true _ ⟨.of s2,mad.same s2,fun z=>nomatch z⟩)⟩)
   · refine .inr (.inl ⟨nl,pe,_,[],rfl,rfl,.of (s2 _ _ enl),.of z0c,(by rw[jA];exact fun z=>hn (jk.mp z)),_,rfl,z5Z ?_⟩)
     refine⟨_,rfl,_,_,rfl,rfl,(by show (0:Int) < 7;decide),_,_,rfl,rfl,_,rfl,z1C (fun _=>?_) (fun h3=>hQ _ _ ⟨.of s2,mad.same s2,fun _=>hn⟩)⟩
     exact⟨_,rfl,_,rfl,d,kA,ks,ad,kd,ne,m,rfl,mad.same s2,m1.1,m1.2,fun b H' x' mad'=>⟨_,rfl,hQ b H' ⟨(Ex2.of s2).trans x',mad',fun _=>hn⟩⟩⟩
 · obtain⟨x3,mad3,_⟩:=h3
   have enl3:=x3 _ _ (mad.nl enl).1 (mad.nl enl).2 enl
   refine⟨_,rfl,_,rfl,_,rfl,jR _,fun pe npe=>y9E ((z0e npe _) _ _ enl3) z0c fun b=>⟨c,m,b,rfl,m1.1,by omega,fun po os H5 s5 ia dd=>?_⟩⟩
   have s4:=z0e npe (.lst [])
   have s35:=s4.trans s5
   have ia3:=ia.back s4
   have mad5:=mad3.same s35
   obtain⟨ond,ol,one⟩:=z5G dd.2.2
   obtain⟨po',ys,epo,ql,dl⟩:=ia3.plain
   cases epo
   have yl:=dl.length
   dsimp only[z1g,List.set]
   refine y6b ⟨_,rfl,po,rfl,⟨_,ql⟩,?_⟩
   refine z2E (K:=K) ((os.map z4C).map V.int) ql (by rw[jA,jA];omega) (by omega) (fun i y v H' R hy hv sm hR=>?_) (fun p6 H6 t6 np6 e6=>?_)
   · have hi:i < os.length:=by have:=(jE.mp hy).1;omega
     rw[jC,jC,jB hi]at hv
     cases hv
     obtain⟨tt,yy,rfl,qtt⟩:=y3p dd.2.2 (jB hi) ((z2g dl (jB hi) hy).same sm)
     exact⟨_,rfl,.inr (.inl ⟨tt,_,0,_,rfl,rfl,qtt,z6c,hR _ (Same.refl _)⟩)⟩
   refine⟨p6,os.map z4C,rfl,.of e6,by rw[jA];omega,fun sl ns' nsl pm pw=>?_⟩
   have es:=y2s ond pm pw
   subst es
   have t7:=z0e nsl (.lst ((z5a (os.map z4C)).map V.int))
   have s57:=t6.trans t7
   have mad7:=mad5.same s57
   obtain⟨li,dr,se,ed,_⟩:=mad7.at_
   refine⟨_,rfl,d,.ref kA,rfl,z4n ed,_,rfl,kA,_,rfl,.inl ⟨_,Sum.inr own,mad7.bk.at_,rfl,(by rw[y0A];omega),rfl⟩,?_⟩
   have mad8:=mad7.put (n:=own) (l:=z5a (os.map z4C)) z0c
   have x8:=Ex2.upd2 (d:=d) (kA:=kA) (H:=upd H6 sl (.lst ((z5a (os.map z4C)).map V.int))) (.dK (z3O (kM ks fun x => .ref (ad x)) (Sum.inr own) (.ref sl)))
   have x38:=(Ex2.of (d:=d) (kA:=kA) (s35.trans s57)).trans x8
   generalize upd (upd H6 sl (.lst ((z5a (os.map z4C)).map V.int))) kA (.dK (z3O (kM ks fun x => .ref (ad x)) (Sum.inr own) (.ref sl)))=H8 at mad8 x8 x38 ⊢
   refine⟨_,rfl,_,rfl,by show 3<=sizeLine;decide,fun t nt=>?_⟩
   have s9:=z0e nt (.tup [V.str "draw",V.str own,V.ref po])
   have x9:=(x3.trans x38).trans (.of s9)
   have em:max ne (cntK kd (Rw.draw own os).reads)=ne:=by show max ne 1=ne;omega
   refine q (.ref t) (.draw own os) _ _ x9 (by rw[em];exact mad8.same s9) (fun A al dA kAA=>?_) ⟨⟨by have:=dd.1;omega,dd.2⟩,fun _ h=>(nomatch h),.inl ⟨os,rfl⟩,by show (1:Nat)<=40;decide,fun _=>⟨os,rfl⟩,fun n hn=>?_,fun n=>?_⟩
   · have al3:=x3.al mad3 al
     have tA:t∉A:=(x38.al mad8 al3).not nt
     refine⟨t,_,rfl,.of (z3j tA z0c),_,_,rfl,rfl,_,_,rfl,rfl,_,_,rfl,?_,rfl⟩
     exact (((ia3 A al3).same (z1O s57)).same (x8.hid dA kAA)).same (z1O s9)
   · show (if n=own then z5a (os.map z4C) else kd n)≠[]
     split
     · exact y2t (by simpa using one)
     · rename_i z
       exact kne n ((ji.mp hn).elim id fun h=>absurd (jP.mp h) z)
   · show (if n=own then z5a (os.map z4C) else kd n).length<=40
     split
     · have:=z9T (os.map z4C)
       rw[jA]at this
       omega
     · exact len n
 · obtain⟨x3,mad3,hn⟩:=h3
   have hn:=hn rfl
   have enl3:=x3 _ _ (mad.nl enl).1 (mad.nl enl).2 enl
   refine⟨_,rfl,?_⟩
   dsimp only[z1g,List.set]
   refine z9t (fun σ H'=>∃ (ml:Addr) (mn:List Str),σ=[some (.int c),some (.ref nl),some (.str own),some (.ref d),some (.int m),some (.ref ml),none,none]/\Same H3 H'/\H' ml=some (.lst (mn.map V.str))/\(∀ x∈mn,x∈nm)/\mn.length<=63) (fun _ H'=>H'=H3) (fun Q' hQ=>⟨_,rfl,_,_,rfl,rfl,⟨by decide,by decide⟩,_,_,rfl,rfl,(by show (0:Int) < 2;decide),.inl ⟨_,_,rfl,rfl,_,rfl,hQ _ _ rfl⟩⟩) (fun H' R e hR=>?_) (fun H' R e hR=>?_) ?_
   · subst e
     refine⟨_,rfl,_,rfl,_,_,rfl,z2U (.of enl3),_,_,rfl,rfl,_,_,rfl,_,rfl,.inl ⟨nl,_,rfl,.of enl3,fun p np=>?_⟩⟩
     obtain⟨k,ek⟩:∃ k:Nat,(if ((nm.map V.str).length:Int) - 3 > 0 then ((nm.map V.str).length:Int) - 3 else 0)=(k:Int):=⟨(if ((nm.map V.str).length:Int) - 3 > 0 then ((nm.map V.str).length:Int) - 3 else 0).toNat,by split <;> omega⟩
     rw[ek,z4p,<- List.map_drop]
     exact hR _ _ ⟨p,nm.drop k,rfl,z0e np _,z0c,fun x hx=>List.mem_of_mem_drop hx,by rw[List.length_drop];omega⟩
   · subst e
     exact hR _ _ ⟨nl,nm,rfl,Same.refl _,enl3,fun _ h=>h,by omega⟩
   rintro σ H4 ⟨ml,mn,rfl,s4,eml,msub,mlen⟩
   refine⟨_,rfl,_,_,rfl,rfl,⟨by decide,by decide⟩,_,rfl,_,ml,mn,rfl,.of eml,mlen,fun p1 e1 H5 s5 ia f1=>?_⟩
   dsimp only[z1g,List.set]
   have ia3:=ia.back s4
   have s35:=s4.trans s5
   have eml5:=s5 _ _ eml
   refine z9t (fun σ H'=>∃ (p:Addr) (e:Ex),σ=[some (.int c),some (.ref nl),some (.str own),some (.ref d),some (.int m),some (.ref ml),some (.ref p),none]/\Same H3 H'/\IsA K H3 H' (dE e) (.ref p)/\Lf nm e 2 6) (fun _ H'=>H'=H5) (fun Q' hQ=>⟨_,rfl,_,_,rfl,rfl,(by show (0:Int) < 7;decide),.inl ⟨_,_,rfl,rfl,_,rfl,hQ _ _ rfl⟩⟩) (fun H' R e hR=>?_) (fun H' R e hR=>?_) ?_
   · subst e
     refine⟨_,rfl,_,rfl,c,10,rfl,by decide,by decide,fun r r0 r1=>⟨_,rfl,r,ml,mn,rfl,.of eml5,mlen,fun p2 e2 H6 s6 ia2 f2=>⟨by show 3<=sizeLine;decide,fun p np=>?_⟩⟩⟩
     have s7:=z0e np (.tup [V.str "or",V.ref p1,V.ref p2])
     have g1:=f1.few;have g2:=f2.few;have h1:=f1.high;have h2:=f2.high
     refine hR _ _ ⟨p,.bi .disj e1 e2,rfl,s35.trans (s6.trans s7),z3i (ds:=[.str "or",dE e1,dE e2]) (s35.trans s6) np fun A a=>⟨_,_,rfl,rfl,_,_,rfl,ia3.same s6 A a,_,_,rfl,ia2.back s35 A a,rfl⟩,⟨⟨rfl,f1.ok,f2.ok⟩,?_,?_,?_⟩⟩
     · show max e1.high e2.high + 1<=2;omega
     · show (e1.rds ++ e2.rds).length<=6;rw[jJ];omega
     · exact fun x hx=>msub x ((ji.mp hx).elim (f1.sub x) (f2.sub x))
   · subst e
     exact hR _ _ ⟨p1,e1,rfl,s35,ia3,f1.mono (by decide) (by decide) msub⟩
   clear ia ia3 f1 eml eml5 s5 s4 s35
   rintro σ H6 ⟨p,e,rfl,s6,ie,fe⟩
   have mad6:=mad3.same s6
   obtain⟨li,dr,se,ed,l0,l1⟩:=mad6.at_
   refine z9t (fun σ H'=>∃ (p:Addr) (e:Ex),σ=[some (.int c),some (.ref nl),some (.str own),some (.ref d),some (.int m),some (.ref ml),some (.ref p),none]/\Same H3 H'/\IsA K H3 H' (dE e) (.ref p)/\Lf nm e 2 6/\cntK kd e.nms<=40) (fun b H'=>Same H6 H'/\(b=false->cntK kd e.nms<=40)) (fun Q' hQ=>?_) (fun H' R hb hR=>?_) (fun H' R hb hR=>?_) ?_
   · exact⟨_,rfl,_,rfl,.ref p,e,d,kA,li,dr,se,ne,ks,ad,kd,rfl,fe.exok (by decide) (by decide),ie.plain,ed,mad6.bk,fun x hx=>sub x (fe.nsub x hx),len,fun H' s'=>⟨_,_,rfl,rfl,_,rfl,hQ _ _ ⟨s',fun z=>by have:=of_decide_eq_false z;omega⟩⟩⟩
   · obtain⟨s7,_⟩:=hb
     have enl7:=(s6.trans s7) _ _ enl3
     have hl:=j3 hn
     have xin:=List.getLast_mem hn
     generalize nm.getLast hn=x at hl xin
     have at_:atI (nm.map V.str) (-1)=some (.str x):=by
      rw[<- hl,je]
      exact z5o (nm.dropLast.map V.str) (.str x)
     refine⟨_,rfl,_,rfl,.inl ⟨nl,_,_,.str x,rfl,rfl,.of enl7,at_,by show 2<=sizeLine;decide,fun pa npa=>⟨by show 2<=sizeLine;decide,fun pb npb=>?_⟩⟩⟩
     have t8:=z0e npa (.tup [V.str "name",V.str x])
     have t9:=z0e npb (.tup [V.str "not",V.ref pa])
     have s37:=s6.trans s7
     have i8:IsA K H3 (upd H' pa (.tup [V.str "name",V.str x])) (dE (.nam x)) (.ref pa):=z3i s37 npa fun A a=>⟨_,_,rfl,rfl,_,_,rfl,rfl,rfl⟩
     refine hR _ _ ⟨pb,.un (.nam x),rfl,s37.trans (t8.trans t9),z3i (ds:=[.str "not",dE (.nam x)]) (s37.trans t8) npb fun A a=>⟨_,_,rfl,rfl,_,_,rfl,i8 A a,rfl⟩,⟨trivial,by show 1<=2;decide,by show 1<=6;decide,fun y hy=>by rw[jP.mp hy];exact xin⟩,?_⟩
     have:=len x
     show 1 * (kd x).length<=40
     omega
   · obtain⟨s7,hc⟩:=hb
     exact hR _ _ ⟨p,e,rfl,s6.trans s7,ie.same s7,fe,hc rfl⟩
   clear ie fe ed l0 l1 mad6 s6
   rintro σ H7 ⟨p,e,rfl,s7,ie,fe,hc⟩
   have mad7:=mad3.same s7
   obtain⟨li,dr,se,ed,l0,l1⟩:=mad7.at_
   have xo:=fe.exok (by decide) (by decide)
   have ksub:∀ x∈e.nms,x∈ks:=fun x hx=>sub x (fe.nsub x hx)
   refine⟨_,rfl,d,.int ne,rfl,y3Y ed,_,rfl,_,rfl,.ref p,e,d,kA,li,dr,se,ne,ks,ad,kd,rfl,xo,ie.plain,ed,mad7.bk,ksub,len,fun H8 s8=>⟨_,_,rfl,_,rfl,d,_,rfl,y7Q (s8 _ _ ed) _,?_⟩⟩
   have emx:(if (cntK kd e.nms:Int) > (ne:Int) then (cntK kd e.nms:Int) else (ne:Int))=((max ne (cntK kd e.nms):Nat):Int):=by split <;> omega
   rw[emx]
   have mad8:=(mad7.same s8).two (dr:=dr) (se:=se) (ne':=max ne (cntK kd e.nms)) l0 l1
   have x8:=Ex2.upd1 (d:=d) (kA:=kA) (H:=H8) (.dK (mdK kA li dr se ((max ne (cntK kd e.nms):Nat):Int)))
   have ed8:(upd H8 d (.dK (mdK kA li dr se ((max ne (cntK kd e.nms):Nat):Int)))) d=some (.dK (mdK kA li dr se ((max ne (cntK kd e.nms):Nat):Int))):=z0c
   have s38:=s7.trans s8
   have ie8:∀ A,Al A H3->d∈A->IsD K (hid A (upd H8 d (.dK (mdK kA li dr se ((max ne (cntK kd e.nms):Nat):Int))))) (dE e) (.ref p):=fun A a dA=>by rw[y3T dA];exact ie.same s8 A a
   have dE8:IsD K (upd H8 d (.dK (mdK kA li dr se ((max ne (cntK kd e.nms):Nat):Int)))) (dE e) (.ref p):=(ie8 [d] (fun a ha=>by rw[jP.mp ha];obtain⟨_,_,_,z,_⟩:=mad3.at_;exact⟨_,z⟩) (jP.mpr rfl)).same (y3S _ _)
   have x38:=(Ex2.of (d:=d) (kA:=kA) s38).trans x8
   generalize upd H8 d (.dK (mdK kA li dr se ((max ne (cntK kd e.nms):Nat):Int)))=H9 at mad8 x8 ed8 ie8 dE8 x38
   dsimp only
   refine y3R (fun _ H'=>H'=H9) (fun Q' hQ=>?_) (fun H' eH=>?_) (fun H' eH=>nxt ?_)
   · refine⟨_,rfl,_,_,rfl,rfl,(by show (0:Int) < 7;decide),.inl ⟨_,_,rfl,rfl,_,rfl,z1C (fun h6=>?_) (fun _=>hQ _ _ rfl)⟩⟩
     exact⟨_,rfl,d,.int se,rfl,y0H ed8,_,_,rfl,rfl,_,rfl,hQ _ _ rfl⟩
   · subst eH
     refine⟨_,rfl,d,.int se,rfl,y0H ed8,.inl ⟨_,_,rfl,rfl,_,rfl,d,_,rfl,y5s ed8 (se + 1),?_⟩⟩
     have mad10:=mad8.two (dr:=dr) (se:=se + 1) (ne':=max ne (cntK kd e.nms)) l0 l1
     have x10:=Ex2.upd1 (d:=d) (kA:=kA) (H:=H') (.dK (mdK kA li dr (se + 1) ((max ne (cntK kd e.nms):Nat):Int)))
     have x310:=x38.trans x10
     generalize upd H' d (.dK (mdK kA li dr (se + 1) ((max ne (cntK kd e.nms):Nat):Int)))=H10 at mad10 x10 x310
     refine⟨_,rfl,by show 2<=sizeLine;decide,fun t nt=>?_⟩
     have s11:=z0e nt (.tup [V.str "seen",V.ref p])
     refine q (.ref t) (.seen e) _ _ ((x3.trans x310).trans (.of s11)) (mad10.same s11) (fun A al dA kAA=>?_) ⟨xo,fun x hx=>fe.nsub x hx,.inr (.inr ⟨e,rfl⟩),hc,fun z=>absurd z hn,fun n hn'=>kne n (by simpa [Rw.giv] using hn'),len⟩
     have al3:=x3.al mad3 al
     have tA:t∉A:=(x310.al mad10 al3).not nt
     exact⟨t,_,rfl,.of (z3j tA z0c),_,_,rfl,rfl,_,_,rfl,((ie8 A al3 dA).same (x10.hid dA kAA)).same (z1O s11),rfl⟩
   · subst eH
     have nl12:=z3f xo
     have vl:=z9P kd e
     dsimp only
     refine y4f ⟨_,rfl,e,.ref p,e.rds,rfl,xo.1,(z0O e).mpr fun _ h=>h,jc xo.2.2 (by decide),xo.2.1,dE8,fun rl H10 nrl s10 erl=>⟨_,rfl,d,.ref kA,rfl,z4n (s10 _ _ ed8),rl,kA,e.nms,ks,ad,kd,rfl,.of erl,z4T e,nl12,(mad8.same s10).bk,ksub,fun x hx=>kne x (fe.nsub x hx),len,by omega,fun bl ys H11 s11 nbl ebl pr=>⟨bl,rfl,⟨_,.of ebl⟩,?_⟩⟩⟩
     have yl:=pr.length
     have vl2:(z2i kd e).length=(chs (e.nms.map kd)).length:=by unfold z2i;rw[jA]
     have call:=z2u _ (e.nms.map kd) rfl
     rw[jA]at call
     refine z2E (K:=K) ((z2i kd e).map V.int) (.of ebl) (by rw[jA];omega) (by omega) (fun i y v H' R hy hv sm hR=>?_) (fun p12 H12 t12 np12 e12=>?_)
     · obtain⟨ch,ech,b,rfl,_,eb⟩:=z8e pr hy
       have hi:i < (chs (e.nms.map kd)).length:=(jE.mp ech).1
       unfold z2i at hv
       rw[jC,jC,ech]at hv
       cases hv
       have cL:=call ch (jf ech)
       refine⟨_,rfl,_,rfl,e,.ref p,b,_,bk e.nms ch,rfl,xo.1,(z0O _).mpr fun n hn=>?_,xo.2.1,dE8.same (s10.trans (s11.trans sm)),sm _ _ eb,fun H'' s''=>hR _ s''⟩
       rw[z5q (z4T e) cL,if_pos ((z2t _).mpr hn)]
     refine⟨p12,z2i kd e,rfl,.of e12,by omega,fun kk nd' sb=>jx (List.Nodup.length_le_of_subset nd' sb) (by omega),fun sl ss nsl mem pw=>?_⟩
     have es:=z8Q pw mem
     subst es
     have t13:=z0e nsl (.lst ((z5a (z2i kd e)).map V.int))
     have s913:=s10.trans (s11.trans (t12.trans t13))
     have mad13:=mad8.same s913
     refine⟨_,rfl,d,.ref kA,rfl,z4n (s913 _ _ ed8),_,rfl,kA,_,rfl,.inl ⟨_,Sum.inr own,mad13.bk.at_,rfl,(by rw[y0A];omega),rfl⟩,?_⟩
     have mad14:=mad13.put (n:=own) (l:=z5a (z2i kd e)) z0c
     have x14:=Ex2.upd2 (d:=d) (kA:=kA) (H:=upd H12 sl (.lst ((z5a (z2i kd e)).map V.int))) (.dK (z3O (kM ks fun x => .ref (ad x)) (Sum.inr own) (.ref sl)))
     have x314:=(x38.trans (Ex2.of s913)).trans x14
     generalize upd (upd H12 sl (.lst ((z5a (z2i kd e)).map V.int))) kA (.dK (z3O (kM ks fun x => .ref (ad x)) (Sum.inr own) (.ref sl)))=H14 at mad14 x14 x314 ⊢
     refine⟨_,rfl,_,rfl,by show 3<=sizeLine;decide,fun t nt=>?_⟩
     have s15:=z0e nt (.tup [V.str "let",V.str own,V.ref p])
     refine q (.ref t) (.lt own e) _ _ ((x3.trans x314).trans (.of s15)) (mad14.same s15) (fun A al dA kAA=>?_) ⟨xo,fun x hx=>fe.nsub x hx,.inr (.inl ⟨e,rfl⟩),hc,fun z=>absurd z hn,fun n hn'=>?_,fun n=>?_⟩
     · have al3:=x3.al mad3 al
       have tA:t∉A:=(x314.al mad14 al3).not nt
       exact⟨t,_,rfl,.of (z3j tA z0c),_,_,rfl,rfl,_,_,rfl,rfl,_,_,rfl,(((ie8 A al3 dA).same (z1O s913)).same (x14.hid dA kAA)).same (z1O s15),rfl⟩
     · show (if n=own then z5a (z2i kd e) else kd n)≠[]
       split
       · refine y2t fun z=>?_
         have:(z2i kd e).length=0:=by rw[z];rfl
         have h1:=y0n (ns:=e.nms.map fun n=>(kd n).length) (fun k hk=>by obtain⟨x,hx,rfl⟩:=jU.mp hk;exact List.length_pos_iff.mpr (kne x (fe.nsub x hx))) 0
         rw[List.take_zero]at h1
         have h2:z8c ([]:List Nat)=1:=rfl
         unfold cntK at vl
         omega
       · rename_i z
         exact kne n ((ji.mp hn').elim id fun h=>absurd (jP.mp h) z)
     · show (if n=own then z5a (z2i kd e) else kd n).length<=40
       split
       · have:=z9T (z2i kd e)
         omega
       · exact len n
def Rw.tag:Rw->Str
 | .draw _ _ => "draw"
 | .lt _ _ => "let"
 | .seen _ => "seen"
theorem y2U{H:Hp}{r:Rw}{x:V}(h:IsD K H (dR r) x):∃ t ys,x = .ref t/\SqT K H t (.str r.tag :: ys):=by
 rcases y0e h with ⟨n,os,a,y,rfl,rfl,qa⟩ | ⟨n,e,a,y,rfl,rfl,qa,_⟩ | ⟨e,a,y,rfl,rfl,qa,_⟩
 · exact⟨a,_,rfl,qa⟩
 · exact⟨a,_,rfl,qa⟩
 · exact⟨a,_,rfl,qa⟩
theorem x1J(ns:List Int):∃ cs:List Int,y0O (ns.map V.int) (some 4) (some 63)=cs.map V.int/\cs.length<=ns.length - 4:=by
 unfold y0O
 have e:HT.sIx (ns.map V.int).length 0 (some 4)=min 4 (ns.map V.int).length:=HT.sIx_nat _ _ 4
 rw[e]
 refine⟨(ns.drop _).take _,by rw[List.map_take,List.map_drop],?_⟩
 rw[jg,List.length_drop,jA]
 omega
theorem y5e{d kA:Addr}{H H1 H2:Hp}(s:Same H H1)(x:Ex2 d kA H1 H2)(n:H d=none)(n2:H kA=none):Same H H2:=fun b o e=>x b o (z0F e n) (z0F e n2) (s b o e)
theorem Mad.lst{H:Hp}{d kA b:Addr}{xs ys:List V}{ks:List Str}{ad:Str->Addr}{kd:Str->List Int}{ne:Nat}(m:Mad H d kA ks ad kd ne)(e:H b=some (.lst xs))(hb:∀ x∈ks,ad x≠b):Mad (upd H b (.lst ys)) d kA ks ad kd ne:=by
 obtain⟨li,dr,se,q,z⟩:=m.at_
 have n:=m.nl e
 exact⟨⟨li,dr,se,by rw[z0n n.1.symm];exact q,z⟩,⟨by rw[z0n n.2.symm];exact m.bk.at_,fun x hx=>by rw[z0n (hb x hx)];exact m.bk.sub x hx⟩,m.ne⟩
theorem y0s{H:Hp}{b:Addr}{l:List Int}{xs:List V}(ne:l≠[])(e:H b=some (.lst (l.map V.int)))(e2:H b=some (.lst xs))(h:∀ y∈xs,∀ k,y ≠ .int k):False:=by
 rw[e]at e2
 have e2:l.map V.int=xs:=HO.lst.inj (Option.some.inj e2)
 cases l with
 | nil=>exact ne rfl
 | cons a l=>exact h (.int a) (by rw[<- e2];exact jX ..) a rfl
theorem z8r{H:Hp}:∀ {rs:List Rw}{xs:List V},IsDs K H (rs.map dR) xs->∀ y∈xs,∀ k,y ≠ .int k
 | [],_,h=>by rw[show _=[] from h];exact fun _ z=>(nomatch z)
 | r :: rs,_,⟨x,xs,e,h1,h2⟩=>by
  rw[e]
  intro y hy k z
  rcases jH.mp hy with rfl | hy
  · obtain⟨t,_,e',_⟩:=y2U h1
    rw[z]at e';cases e'
  · exact z8r h2 y hy k z
theorem y4X(ns:List Str):∀ y∈ns.map V.str,∀ k,y ≠ .int k:=fun y hy k z=>by
 obtain⟨n,_,rfl⟩:=jU.mp hy
 cases z
structure ROk (rs:List Rw) (ne:Nat):Prop where
 fine:∀ r∈rs,r.fine
 wf:wfs rs
 few:Few rs
 all:∀ i r,rs[i]? = some r->cntR rs i r<=ne
 top:ne=1\/∃ i r,rs[i]? = some r/\cntR rs i r=ne
 ne1:1<=ne
 ne40:ne<=40
theorem z2v{rs:List Rw}{r:Rw}{i:Nat}(h:i<=rs.length):(rs ++ [r]).take i=rs.take i:=by rw[List.take_append_of_le_length h]
theorem ROk.snoc{rs:List Rw}{ne:Nat}{own:Str}{r:Rw}(h:ROk rs ne)(k:RowOk (givs rs) (kdOf rs) own r):ROk (rs ++ [r]) (max ne (cntK (kdOf rs) r.reads)):=by
 have cas:∀ {i:Nat}{r':Rw},(rs ++ [r])[i]? = some r'->(i < rs.length/\rs[i]? = some r'/\cntR (rs ++ [r]) i r'=cntR rs i r')\/(i=rs.length/\r'=r/\cntR (rs ++ [r]) i r'=cntK (kdOf rs) r.reads):=fun {i r'} e=>by
  by_cases hi:i < rs.length
  · rw[kG hi]at e
    exact .inl ⟨hi,e,by unfold cntR;rw[z2v (by omega)]⟩
  · have hl:i < (rs ++ [r]).length:=(jE.mp e).1
    rw[jJ,ju]at hl
    have z:i=rs.length:=by omega
    subst z
    rw[kC (jF _),Nat.sub_self]at e
    cases e
    exact .inr ⟨rfl,rfl,by unfold cntR;rw[z2v (jF _),jh]⟩
 have tkc:∀ i,(rs ++ [r]).take i=rs.take i\/(rs ++ [r]).take i=rs ++ [r]:=fun i=>by
  by_cases hi:i<=rs.length
  · exact .inl (z2v hi)
  · exact .inr (js (by rw[jJ,ju];omega))
 refine⟨fun r' hr'=>(ji.mp hr').elim (h.fine r') fun z=>by rw[jP.mp z];exact k.fine,y4R h.wf k.sub,⟨fun i r' e=>?_,fun i n hn=>?_,fun i n=>?_⟩,fun i r' e=>?_,?_,by have:=h.ne1;omega,by have:=h.ne40;have:=k.cnt;omega⟩
 · rcases cas e with ⟨_,e',z⟩ | ⟨_,_,z⟩
   · rw[z];exact h.few.cnt i r' e'
   · rw[z];exact k.cnt
 · rcases tkc i with z | z
   · rw[z]at hn ⊢;exact h.few.ne i n hn
   · rw[z]at hn ⊢
     rw[z2f]
     rw[z2C]at hn
     exact k.ne n hn
 · rcases tkc i with z | z
   · rw[z];exact h.few.len i n
   · rw[z,z2f];exact k.len n
 · rcases cas e with ⟨_,e',z⟩ | ⟨_,_,z⟩
   · rw[z];have:=h.all i r' e';omega
   · rw[z];omega
 · by_cases hm:ne<=cntK (kdOf rs) r.reads
   · refine .inr ⟨rs.length,r,by rw[kC (jF _),Nat.sub_self];rfl,?_⟩
     unfold cntR
     rw[z2v (jF _),jh]
     omega
   · rcases h.top with z | ⟨i,r',e,z⟩
     · exact .inl (by omega)
     · have hi:=(jE.mp e).1
       refine .inr ⟨i,r',by rw[kG hi];exact e,?_⟩
       have:cntR (rs ++ [r]) i r'=cntR rs i r':=by unfold cntR;rw[z2v (by omega)]
       omega
theorem y3w(c k:Int):y2e c k ≠ "" := fun z=>by
 have z:(y2e c k).length=("" : Str).length:=by rw[z]
 have p:1<=(prN c k).length:=by unfold prN;rw[z7F];show 1<=1 + _;omega
 have e0:("" : Str).length=0:=rfl
 rw[e0]at z
 unfold y2e at z
 split at z
 · split at z
   · omega
   · cases z
 · split at z <;> (rw[z7F]at z;omega)
theorem y5G(c:Int)(n:Nat):∀ x∈z9i c n,x ≠ "" := fun x hx=>by
 obtain⟨k,_,rfl⟩:=jU.mp hx
 exact y3w _ _
def z9V(K:PySem.W.Frag):Sp:=fun vs H Q _=>∃ (a:Addr) (ns:List Int),vs=[.ref a,.int 63]/\SqL K H a (ns.map V.int)/\ns.length<=63 /\
 ∀ (tt t d kA nl pe rl al:Addr) (rs:List Rw) (xs:List V) (ak:List Str) (ad:Str->Addr) (ne:Nat) (H':Hp),Same H H'->H' tt=some (.tup [.ref t,.ref d,.ref nl])->H' t=some (.tup [.ref pe,.ref rl,.ref al])->H' pe=some (.lst [])->H' rl=some (.lst xs)->IsDs K H' (rs.map dR) xs->H' al=some (.lst (ak.map V.str))->ak.length<=10->H' nl=some (.lst ((givs rs).map V.str))->givs rs≠[]->(givs rs).Nodup->rs.length<=60->Mad H' d kA (z5Y rs) ad (kdOf rs) ne->ROk rs ne->(∀ n∈givs rs,n ≠ "")->Q (.ref tt) H'
theorem y5y(B:Bl mg)(z1n:Def P w K mg base "_law_cell_at" 1 ["_law_script", "_law_k"] (y2F (K:=K)))(z7J:Def P w K mg base "_law_name" 1 ["_law_cell", "_law_k"] y2B)(z2R:Def P w K mg base "_law_sheet_row" 14 ["_law_cell", "_law_names", "_law_own", "_law_made"] (y2v K))
 (F:Fn K mg "_law_sheet" z4d ["_law_script", "_law_last"]):Def P w K mg base "_law_sheet" 15 ["_law_script", "_law_last"] (z9V K):=by
 refine F.ok z0P (fun vs H Q E h=>?_) (fun f cdv A outer s H vs Q E hr h=>?_)
 · obtain⟨a,ns,rfl,_⟩:=h;rfl
 obtain⟨a,ns,rfl,hS,l63,q⟩:=h
 have big:(100000:Nat) < sizeLine:=by decide
 refine⟨_,(@z0b _ _ _ _ _ (@z2s _ 2 _ _ _ _ _ z0P.nd rfl (by first | exact Or.inl rfl | exact Or.inr rfl) (@y5q _ _ _ _ _ _ _ _ _ _ _ _ _ _ _ _ _ _ _ _ _ _ z0l z7f z0l z0d z0l z0d z0l z0d z0l z0d) rfl (by first | exact .inl rfl | exact .inr rfl))
  (@z0b _ _ _ _ _ (@z2s _ 3 _ _ _ _ _ z0P.nd rfl (by first | exact Or.inl rfl | exact Or.inr rfl) (@z3Q _ _) rfl (by first | exact .inl rfl | exact .inr rfl))
  (@z0b _ _ _ _ _ (@z2s _ 4 _ _ _ _ _ z0P.nd rfl (by first | exact Or.inl rfl | exact Or.inr rfl) (@z3Q _ _) rfl (by first | exact .inl rfl | exact .inr rfl))
  (@z0b _ _ _ _ _ (z1q PassesOwn.never rfl (z0C (z0p (z0R.or (z0q.or (z0Q.or (z0y K rfl)))) (@z4A _ _ _ _ (z0r z1n hr rfl (@z0h _ _ _ _ _ (pv 0) (@z0h _ _ _ _ _ z0d z0f rfl) rfl)) rfl) (z2N ((z3p K rfl).or (z4v K rfl)) (pv 0) (z3c z0d) (z3c (pv 1))))) (z0E (i:=5) z0P.nd rfl (by first | exact Or.inl rfl | exact Or.inr rfl)) (@z0b _ _ _ _ _ (z0t (i:=10) z0P.nd rfl (by first | exact Or.inl rfl | exact Or.inr rfl) (z0r z7J hr rfl (@z0h _ _ _ _ _ (z0r z1n hr rfl (@z0h _ _ _ _ _ (pv 0) (@z0h _ _ _ _ _ z0d z0f rfl) rfl)) (@z0h _ _ _ _ _ (z0u (z1a K rfl) rfl B.len PySem.boot_len (@z0h _ _ _ _ _ (pv 3) z0f rfl)) z0f rfl) rfl)))
  (@z0b _ _ _ _ _ (z0t (i:=11) z0P.nd rfl (by first | exact Or.inl rfl | exact Or.inr rfl) (z0r z2R hr rfl (@z0h _ _ _ _ _ (pv 5) (@z0h _ _ _ _ _ (pv 3) (@z0h _ _ _ _ _ (pv 10) (@z0h _ _ _ _ _ (pv 2) z0f rfl) rfl) rfl) rfl)))
  (@z0b _ _ _ _ _ (z3b (z7g PySem.F.plainAttrs_list PySem.F.slot_list_append PySem.F.type_list_append z1z (pv 4) (@z0h _ _ _ _ _ (pv 11) z0f rfl)))
  (@z0g _ _ _ (z0B (z0j (z1r.or (z1v.or (z1x.or (z1w K rfl hr.units)))) (z0s (z0i K rfl) (pv 11) z0d (fun _ _=>rfl)) z0l (z0k _)) (@z0g _ _ _ (z3b (z7g PySem.F.plainAttrs_list PySem.F.slot_list_append PySem.F.type_list_append z1z (pv 3) (@z0h _ _ _ _ _ (pv 10) z0f rfl)))) z0m))))))
  (@z0b _ _ _ _ _ (z0t (i:=6) z0P.nd rfl (by first | exact Or.inl rfl | exact Or.inr rfl) (z0p z0L (z0r z1n hr rfl (@z0h _ _ _ _ _ (pv 0) (@z0h _ _ _ _ _ z0d z0f rfl) rfl)) (z0u (z1a K rfl) rfl B.len PySem.boot_len (@z0h _ _ _ _ _ (pv 3) z0f rfl))))
  (@z0b _ _ _ _ _ (z0t (i:=7) z0P.nd rfl (by first | exact Or.inl rfl | exact Or.inr rfl) (z0p (z0R.or (z0q.or (z0Q.or (z0y K rfl)))) z0d (z0p z0L (z0r z1n hr rfl (@z0h _ _ _ _ _ (pv 0) (@z0h _ _ _ _ _ z0d z0f rfl) rfl)) z0d)))
  (@z0b _ _ _ _ _ (@z2s _ 8 _ _ _ _ _ z0P.nd rfl (by first | exact Or.inl rfl | exact Or.inr rfl) (@z3Q _ _) rfl (by first | exact .inl rfl | exact .inr rfl))
  (@z0b _ _ _ _ _ (z1q PassesOwn.never rfl (z2z rfl B.range (@z0h _ _ _ _ _ (z0p (z0R.or (z0q.or (z0Q.or (z0y K rfl)))) z0d (z0p z0L (z0p z1y (z0r z1n hr rfl (@z0h _ _ _ _ _ (pv 0) (@z0h _ _ _ _ _ z0d z0f rfl) rfl)) z0d) z0d)) z0f rfl)) (z0E (i:=9) z0P.nd rfl (by first | exact Or.inl rfl | exact Or.inr rfl)) (@z0b _ _ _ _ _ (z0t (i:=12) z0P.nd rfl (by first | exact Or.inl rfl | exact Or.inr rfl) (z0s (z0i K rfl) (pv 3) (z0p z0L (z0p (z0R.or (z0q.or (z0Q.or (z0y K rfl)))) (pv 6) (z0p z1k (pv 9) (pv 7))) (z0u (z1a K rfl) rfl B.len PySem.boot_len (@z0h _ _ _ _ _ (pv 3) z0f rfl))) (fun _ _=>rfl)))
  (@z0g _ _ _ (z0B (z0j (z3e.or (z5H K rfl)) (pv 12) (pv 8) (by rfl)) (@z0g _ _ _ (z3b (z7g PySem.F.plainAttrs_list PySem.F.slot_list_append PySem.F.type_list_append z1z (pv 8) (@z0h _ _ _ _ _ (pv 12) z0f rfl)))) z0m))))
  (@z0g _ _ _ (z0o (@y3l _ _ _ _ _ _ _ _ _ (@y3l _ _ _ _ _ _ _ _ _ (@z3Q _ _) (pv 4) (pv 8) rfl rfl rfl) (pv 2) (pv 3) rfl rfl rfl))))))))))),?_⟩
 refine fun d nd kA nkA=>⟨(z0e nkA _) _ _ z0c,mdK kA 3 1 0 1,rfl,(by show 5<=15;decide),?_⟩
 have kAd:kA≠d:=fun z=>by rw[z,z0c]at nkA;cases nkA
 have nkAH:H kA=none:=by rw[z0n kAd]at nkA;exact nkA
 have s1:Same H (upd (upd (upd H d (.dK [])) kA (.dK [])) d (.dK (z2A [] (mdK kA 3 1 0 1)))):=z0G nd ((z0e nd _).trans (z0e nkA _))
 have ed1:(upd (upd (upd H d (.dK [])) kA (.dK [])) d (.dK (z2A [] (mdK kA 3 1 0 1)))) d=some (.dK (mdK kA 3 1 0 1)):=by
  rw[z0c]
  first | rfl | (congr 2;decide +kernel)
 have ec1:(upd (upd (upd H d (.dK [])) kA (.dK [])) d (.dK (z2A [] (mdK kA 3 1 0 1)))) kA=some (.dK []):=by rw[z0n kAd,z0c]
 generalize upd (upd (upd H d (.dK [])) kA (.dK [])) d (.dK (z2A [] (mdK kA 3 1 0 1)))=H1 at s1 ed1 ec1
 clear nkA
 refine⟨jR _,fun nl nnl=>⟨jR _,fun rl nrl=>?_⟩⟩
 have t2:=z0e nnl (.lst [])
 have t3:=z0e nrl (.lst [])
 have rlnl:rl≠nl:=fun z=>by rw[z,z0c]at nrl;cases nrl
 have nnlH:H nl=none:=s1.free nnl
 have nrlH:H rl=none:=s1.free (t2.free nrl)
 have s3:Same H (upd (upd H1 nl (.lst [])) rl (.lst [])):=s1.trans (t2.trans t3)
 have mad3:Mad (upd (upd H1 nl (.lst [])) rl (.lst [])) d kA [] (fun _=>0) (fun _=>[]) 1:=⟨⟨3,1,0,(t2.trans t3) _ _ ed1,by decide,by decide⟩,⟨(t2.trans t3) _ _ ec1,fun _ h=>(nomatch h)⟩,kAd.symm⟩
 have en3:(upd (upd H1 nl (.lst [])) rl (.lst [])) nl=some (.lst (([]:List Str).map V.str)):=t3 _ _ z0c
 have er3:(upd (upd H1 nl (.lst [])) rl (.lst [])) rl=some (.lst []):=z0c
 generalize upd (upd H1 nl (.lst [])) rl (.lst [])=H3 at s3 mad3 en3 er3
 clear t2 t3 nnl nrl s1 ed1 ec1
 -- the cells
 refine⟨_,rfl,a,ns,1,rfl,s3.seq hS,by decide,(by show 1<=sizeLine;decide),fun p1 np1=>?_⟩
 have t4:=z0e np1 (.lst [V.int (cell ns 1)])
 refine⟨_,rfl,_,rfl,_,rfl,_,rfl,.inl ⟨a,_,rfl,(s3.trans t4).seq hS,fun p2 np2=>?_⟩⟩
 obtain⟨ms,em,lm⟩:=x1J ns
 rw[em]
 have t5:=z0e np2 (.lst (ms.map V.int))
 refine .inr (.inr (.inl ⟨p1,p2,_,_,rfl,rfl,t5 _ _ z0c,z0c,(by rw[jA];show 1 + ms.length<=sizeLine;omega),fun p3 np3=>⟨p3,rfl,⟨_,.of z0c⟩,?_⟩⟩))
 have t6:=z0e np3 (.lst ([V.int (cell ns 1)] ++ ms.map V.int))
 have t36:=t4.trans (t5.trans t6)
 have e3:(upd (upd (upd H3 p1 (.lst [V.int (cell ns 1)])) p2 (.lst (ms.map V.int))) p3 (.lst ([V.int (cell ns 1)] ++ ms.map V.int))) p3=some (.lst (((cell ns 1) :: ms).map V.int)):=z0c
 have np3':=t4.free (t5.free np3)
 generalize upd (upd (upd H3 p1 (.lst [V.int (cell ns 1)])) p2 (.lst (ms.map V.int))) p3 (.lst ([V.int (cell ns 1)] ++ ms.map V.int))=H4 at t36 e3
 have s4:=s3.trans t36
 have mad4:=mad3.same t36
 have en4:=t36 _ _ en3
 have er4:=t36 _ _ er3
 have p3nl:p3≠nl:=fun z=>by rw[z,en3]at np3';cases np3'
 have p3rl:p3≠rl:=fun z=>by rw[z,er3]at np3';cases np3'
 have p3d:=mad4.nl e3
 have lcs:((cell ns 1) :: ms).length<=60/\1<=((cell ns 1) :: ms).length:=by rw[jp];omega
 clear t4 t5 t6 t36 np1 np2 np3 np3' en3 er3 mad3 s3 em lm H3 p1 p2
 generalize (cell ns 1 :: ms)=cells at e3 lcs
 refine z1c (K:=K) (xs:=cells.map V.int) (fun i σ H'=>∃ (rs:List Rw) (xs:List V) (ad:Str->Addr) (ne:Nat) (c5 c10 c11:Option V),σ=[some (.ref a),some (.int 63),some (.ref d),some (.ref nl),some (.ref rl),c5,none,none,none,none,c10,c11,none]/\Same H H'/\H' p3=some (.lst (cells.map V.int))/\Mad H' d kA (z5Y rs) ad (kdOf rs) ne/\H' nl=some (.lst ((givs rs).map V.str))/\H' rl=some (.lst xs)/\IsDs K (hid [d,kA,nl,rl] H') (rs.map dR) xs/\rs.length=i/\ROk rs ne/\(0 < i->givs rs≠[])/\givs rs=z9i (cell ns 0) (givs rs).length)
  ⟨[],[],fun _=>0,1,none,none,none,rfl,s4,e3,mad4,en4,er4,rfl,rfl,⟨fun _ h=>(nomatch h),fun i r e=>(by simp at e),⟨fun i r e=>(by simp at e),fun i n hn=>(by simp[givs]at hn),fun i n=>(by simp[kdOf])⟩,fun i r e=>(by simp at e),.inl rfl,jF _,by decide⟩,fun h=>absurd h (jr _),rfl⟩ (fun i σ H' _ ⟨_,_,_,_,_,_,_,_,_,h,_⟩ => .of h) ?_ ?_
 · clear s4 mad4 en4 er4 e3 H4
   rintro i x σ H' hx ⟨rs,xs,ad,ne,c5,c10,c11,rfl,sm,e3,mad,enl,erl,ids,lrs,rok,ne0,gn⟩
   have hi:i < cells.length:=by have:=(jE.mp hx).1;simpa using this
   rw[jC,jB hi]at hx
   cases hx
   generalize cells[i]=c
   have gl:=z5m rs
   have kl:(z5Y rs).length<=rs.length:=jc (z2d (y3y _) fun x hx=>(z2O _).mp hx) gl
   have xl:=ids.length
   rw[jA]at xl
   have ln:((givs rs).map V.str).length=(givs rs).length:=jA ..
   have fne:=rok.few.ne rs.length
   have flen:=rok.few.len rs.length
   rw[jh]at fne flen
   refine⟨_,rfl,a,ns,0,rfl,sm.seq hS,by decide,_,rfl,_,_,rfl,z2U (.of enl),cell ns 0,_,rfl,by omega,by omega,fun own H1 t1 eown=>?_⟩
   rw[ln]at eown
   have mad1:=mad.same t1
   refine⟨_,rfl,_,rfl,_,rfl,_,rfl,c,nl,d,kA,own,givs rs,z5Y rs,ad,kdOf rs,ne,rfl,t1 _ _ enl,mad1,by omega,by omega,rok.ne1,rok.ne40,fun n hn=>(z2O _).mpr hn,fne,flen,fun y r ad' H2 x2 mad2 isd rk=>?_⟩
   have al1:Al [d,kA,nl,rl] H1:=fun b hb=>by
    simp only[jH,jt,or_false]at hb
    rcases hb with rfl | rfl | rfl | rfl
    · obtain⟨_,_,_,q,_⟩:=mad1.at_;exact⟨_,q⟩
    · exact⟨_,mad1.bk.at_⟩
    · exact⟨_,t1 _ _ enl⟩
    · exact⟨_,t1 _ _ erl⟩
   have isd2:=isd _ al1 (by simp) (by simp)
   have nn:=mad1.nl (t1 _ _ enl)
   have rn:=mad1.nl (t1 _ _ erl)
   have enl2:=x2 _ _ nn.1 nn.2 (t1 _ _ enl)
   have erl2:=x2 _ _ rn.1 rn.2 (t1 _ _ erl)
   have e32:=x2 _ _ p3d.1 p3d.2 (t1 _ _ e3)
   have sm2:Same H H2:=y5e (sm.trans t1) x2 nd nkAH
   have ids2:IsDs K (hid [d,kA,nl,rl] H2) (rs.map dR) xs:=(ids.same (z1O t1)).same (x2.hid (by simp) (by simp))
   clear isd x2 t1 mad1 al1 sm ids enl erl e3 mad
   dsimp only[z1g,List.set]
   refine⟨_,rfl,.inl ⟨rfl,_,.of erl2⟩,_,rfl,rl,_,_,rfl,rfl,erl2,by omega,?_⟩
   have h3:hid [d,kA,nl,rl] (upd H2 rl (.lst (xs ++ [y])))=hid [d,kA,nl,rl] H2:=y3T (by simp)
   have isd3:=isd2
   rw[<- h3]at isd2 ids2
   have rok2:=rok.snoc rk
   have kne2:∀ x∈y2r (z5Y rs) r,kdS (kdOf rs) r x≠[]:=fun x hx=>by
    rw[<- z2B]at hx
    exact rk.ne x (by rw[<- z2C];exact (z2O _).mp hx)
   have mad3:Mad (upd H2 rl (.lst (xs ++ [y]))) d kA (y2r (z5Y rs) r) ad' (kdS (kdOf rs) r) (max ne (cntK (kdOf rs) r.reads)):=mad2.lst erl2 fun x hx z=>y0s (kne2 x hx) (mad2.bk.sub x hx) (z ▸ erl2) (z8r ids2)
   have enl3:(upd H2 rl (.lst (xs ++ [y]))) nl=some (.lst ((givs rs).map V.str)):=by rw[z0n (Ne.symm rlnl)];exact enl2
   have erl3:(upd H2 rl (.lst (xs ++ [y]))) rl=some (.lst (xs ++ [y])):=z0c
   have e33:(upd H2 rl (.lst (xs ++ [y]))) p3=some (.lst (cells.map V.int)):=by rw[z0n p3rl];exact e32
   have sm3:Same H (upd H2 rl (.lst (xs ++ [y]))):=z0G nrlH sm2
   generalize upd H2 rl (.lst (xs ++ [y]))=H5 at mad3 enl3 erl3 e33 sm3 isd2 ids2 ⊢
   have ids3:IsDs K (hid [d,kA,nl,rl] H5) ((rs ++ [r]).map dR) (xs ++ [y]):=by rw[je];exact ids2.append ⟨y,[],rfl,isd2,rfl⟩
   rw[<- z2B,<- z2f]at mad3
   rw[<- z2B,<- z2f]at kne2
   obtain⟨tr,yz,rfl,qr⟩:=y2U (isd2.same (y3S _ _))
   refine⟨_,rfl,.inr (.inl ⟨tr,_,_,_,rfl,rfl,qr,z6c,.inr (.inl ⟨_,_,rfl,rfl,_,rfl,z3T (fun hne=>?_) (fun hs=>nxt ?_)⟩)⟩)⟩
   · have eg:r.giv=[own]:=by
      rcases rk.is with ⟨os,rfl⟩ | ⟨e,rfl⟩ | ⟨e,rfl⟩
      · rfl
      · rfl
      · exact absurd rfl hne
     have egs:givs (rs ++ [r])=givs rs ++ [own]:=by rw[z2C,eg]
     refine⟨_,rfl,.inl ⟨rfl,_,.of enl3⟩,_,rfl,nl,_,_,rfl,rfl,enl3,by omega,?_⟩
     refine⟨rs ++ [r],xs ++ [.ref tr],ad',_,_,_,_,rfl,z0G nnlH sm3,by rw[z0n p3nl];exact e33,mad3.lst enl3 fun x hx z=>y0s (kne2 x hx) (mad3.bk.sub x hx) (z ▸ enl3) (y4X _),by rw[z0c,egs,je];rfl,by rw[z0n rlnl];exact erl3,by rw[y3T (by simp)];exact ids3,by rw[jJ,lrs];rfl,rok2,fun _ z=>?_,?_⟩
     · rw[egs]at z;simp at z
     · rw[egs,jJ,ju,y5F,<- gn,eown]
   · have hs0:r.giv=[]/\i≠0:=by
      rcases rk.is with ⟨os,rfl⟩ | ⟨e,rfl⟩ | ⟨e,rfl⟩
      · exact absurd hs (by show ("draw" : Str) ≠ "seen";decide)
      · exact absurd hs (by show ("let" : Str) ≠ "seen";decide)
      · refine⟨rfl,fun z=>?_⟩
        have:rs=[]:=jk.mp (by omega)
        obtain⟨os,z2⟩:=rk.fst (by rw[this];rfl)
        cases z2
     have egs:givs (rs ++ [r])=givs rs:=by rw[z2C,hs0.1,List.append_nil]
     exact⟨rs ++ [r],xs ++ [.ref tr],ad',_,_,_,_,rfl,sm3,e33,mad3,by rw[egs];exact enl3,erl3,ids3,by rw[jJ,lrs];rfl,rok2,fun _=>by rw[egs];exact ne0 (by have:=hs0.2;omega),by rw[egs];exact gn⟩
 · rintro σ H' ⟨rs,xs,ad,ne,c5,c10,c11,rfl,sm,e3,mad,enl,erl,ids,lrs,rok,ne0,gn⟩
   rw[jA]at lrs ne0
   have ne':=ne0 (by omega)
   have lp:0 < (givs rs).length:=List.length_pos_iff.mpr ne'
   have gl:=z5m rs
   have ln:((givs rs).map V.str).length=(givs rs).length:=jA ..
   refine⟨_,rfl,a,ns,3,rfl,sm.seq hS,by decide,_,rfl,_,_,rfl,z2U (.of enl),_,_,rfl,rfl,(by rw[ln];omega),?_⟩
   refine⟨_,rfl,a,ns,2,rfl,sm.seq hS,by decide,_,_,rfl,rfl,(by show (0:Int) < 5;decide),.inl ⟨_,_,rfl,rfl,?_⟩⟩
   have tn0:=kT (cell ns 3) (show (((givs rs).map V.str).length:Int)≠0 by rw[ln];omega)
   have tn1:=kN (cell ns 3) (show (0:Int) < (((givs rs).map V.str).length:Int) by rw[ln];omega)
   have st1:1<=1 + cell ns 2 % 5/\1 + cell ns 2 % 5<=5:=by omega
   dsimp only[z1g,List.set]
   generalize cell ns 3 % (((givs rs).map V.str).length:Int)=tn at tn0 tn1
   generalize 1 + cell ns 2 % 5=st at st1
   refine⟨jR _,fun al nal=>?_⟩
   have t1:=z0e nal (.lst [])
   refine⟨_,rfl,a,ns,3,rfl,(sm.trans t1).seq hS,by decide,_,_,rfl,rfl,⟨by decide,by decide⟩,_,_,rfl,rfl,(by show (0:Int) < 4;decide),.inl ⟨_,_,rfl,rfl,_,rfl,by omega,by omega,?_⟩⟩
   have n5:(1 + cell ns 3 / 7 % 4).toNat<=6:=by omega
   refine z5P (fun i σ H2=>Same H' H2/\∃ (ak:List Str) (c9 c12:Option V),σ=[some (.ref a),some (.int 63),some (.ref d),some (.ref nl),some (.ref rl),c5,some (.int tn),some (.int st),some (.ref al),c9,c10,c11,c12]/\H2 al=some (.lst (ak.map V.str))/\ak.length<=i) ⟨t1,[],none,none,rfl,z0c,jF _⟩ ?_ ?_
   · rintro i σ H2 hi ⟨s2,ak,c9,c12,rfl,eal,lak⟩
     have enl2:=s2 _ _ enl
     have j0:=kT (tn + (0 + (i:Nat)) * st) (show ((givs rs).length:Int)≠0 by omega)
     have j1:=kN (tn + (0 + (i:Nat)) * st) (show (0:Int) < ((givs rs).length:Int) by omega)
     obtain⟨j,hj,ej⟩:∃ j:Nat,j < (givs rs).length/\(tn + (0 + (i:Nat)) * st) % ((givs rs).length:Int)=(j:Int):=⟨((tn + (0 + (i:Nat)) * st) % ((givs rs).length:Int)).toNat,by omega,by omega⟩
     have at_:atI ((givs rs).map V.str) ((tn + (0 + (i:Nat)) * st) % (((givs rs).map V.str).length:Int))=some (.str (givs rs)[j]):=by
      rw[ln,ej]
      exact z0Y (by rw[jC,jB hj];rfl)
     generalize (givs rs)[j]=n at at_
     refine⟨_,rfl,_,rfl,_,rfl,_,rfl,_,_,rfl,rfl,z3G (m:=10) (n:=4) (by omega) (by omega) (by decide),.inl ⟨_,_,rfl,rfl,_,rfl,_,_,rfl,z2U (.of enl2),_,_,rfl,rfl,(by rw[ln];omega),.inl ⟨nl,_,_,.str n,rfl,rfl,.of enl2,at_,?_⟩⟩⟩
     refine⟨_,rfl,_,rfl,.inr ⟨al,_,rfl,.inl (.of eal),rfl,z4o _,_,rfl,?_⟩⟩
     show if (!inV (.str n) (ak.map V.str))=true then _ else _
     rw[z7x]
     refine z3T (fun nin'=>?_) (fun _=>nxt ⟨s2,ak,_,_,rfl,eal,by omega⟩)
     refine⟨_,rfl,.inl ⟨rfl,_,.of eal⟩,_,rfl,al,_,_,rfl,rfl,eal,(by rw[jA];omega),?_⟩
     exact⟨z0G nal s2,ak ++ [n],_,_,rfl,by rw[z0c,je];rfl,by rw[jJ,ju];omega⟩
   · rintro σ H2 ⟨s2,ak,c9,c12,rfl,eal,lak⟩
     refine⟨jR _,fun pe npe=>⟨_,rfl,_,rfl,(by show 3<=sizeLine;decide),fun t nt=>⟨_,rfl,_,rfl,(by show 3<=sizeLine;decide),fun tt ntt=>?_⟩⟩⟩
     have u1:=z0e npe (.lst [])
     have u2:=z0e nt (.tup [V.ref pe,.ref rl,.ref al])
     have u3:=z0e ntt (.tup [V.ref t,.ref d,.ref nl])
     have u:=s2.trans (u1.trans (u2.trans u3))
     exact q tt t d kA nl pe rl al rs xs ak ad ne _ (sm.trans u) z0c (u3 _ _ z0c) ((u2.trans u3) _ _ z0c) (u _ _ erl) ((ids.same (y3S _ _)).same u) ((u1.trans (u2.trans u3)) _ _ eal) (by omega) (u _ _ enl) ne' (by rw[gn];exact y3v _ (by omega)) (by omega) (mad.same u) rok (by rw[gn];exact y5G _ _)
theorem y3a:∀ {l:List Str}{p:Str},PyProof.Rows.risingS p l=true->(p :: l).Nodup->(p :: l).Pairwise ltS
 | [],_,_,_=>List.pairwise_singleton _ _
 | x :: r,p,h,nd=>by
  obtain⟨n1,n2⟩:=jy.mp nd
  unfold PyProof.Rows.risingS at h
  rw[jz]at h
  have ih:=y3a h.2 n2
  have nl:¬ ltS x p:=by
   have:=h.1
   rw[PyProof.Rows.ltCps_eq]at this
   intro z
   have z:x.cps.toList < p.cps.toList:=z
   rw[decide_eq_true z]at this
   cases this
  have lt:ltS p x:=y0x (fun z=>n1 (by rw[z];exact jX ..)) nl
  refine jv.mpr ⟨fun y hy=>?_,ih⟩
  rcases jH.mp hy with rfl | hy
  · exact lt
  · exact z5J lt ((jv.mp ih).1 y hy)
theorem z3z{l:List Str}(h:PyProof.Rows.sortedS l=true)(nd:l.Nodup):l.Pairwise ltS:=by
 cases l with
 | nil=>exact List.Pairwise.nil
 | cons x r=>exact y3a h nd
def z6h(K:PySem.W.Frag):Sp:=fun vs H Q _=>∃ (v s:Addr) (ns ss:List Str),vs=[.ref v,.ref s]/\H v=some (.lst (ns.map V.str))/\SqT K H s (ss.map V.str)/\(∀ n∈ss,n∈ns)/\ss.length<=100 /\
 ∀ l H',Same H H'->H' l=some (.lst ((plc ns ss).map V.int))->Q (.ref l) H'
theorem y0K(m n:Str):eqV (.str m) (.str n)=decide (m=n):=by show (m == n)=_;exact Bool.beq_eq_decide_eq ..
theorem y1v(B:Bl mg)(F:Fn K mg "places_of" z2K ["names", "some"]):Def P w K mg base "places_of" 1 ["names", "some"] (z6h K):=by
 refine F.ok z7X (fun vs H Q E h=>?_) (fun f cdv A outer s H vs Q E hr h=>?_)
 · obtain⟨v,p,ns,ss,rfl,_⟩:=h;rfl
 obtain⟨v,p,ns,ss,rfl,qv,qp,hj,hl,q⟩:=h
 refine⟨_,(@z0g _ _ _ (z0o (z1u (CompOk.of (x := "name") (M:=["names"]) (ix:=[0]) rfl rfl (by decide +kernel) (by decide +kernel) rfl ⟨rfl,trivial⟩ (by rfl) ⟨⟨rfl,rfl,rfl,rfl⟩,trivial⟩) rfl (by decide +kernel) (z6n (pv 1)) (fun _ _ _ _ _=>z0V) (fun _ _ _ _ _=>(y1q K rfl (pv 1) (pv 0)))))),?_⟩
 refine y1L ?_
 have eqs:∀ (n:Str) (hn:ns.idxOf n < ns.length),eqV ((ns.map V.str)[ns.idxOf n]'(by rw[jA];exact hn)) (.str n)=true/\∀ m (hm:m < (ns.map V.str).length),m < ns.idxOf n->eqV ((ns.map V.str)[m]) (.str n)=false:=fun n hn=>by
  refine⟨?_,fun m hm hmj=>?_⟩
  · rw[kF,y0K,List.getElem_idxOf hn];exact decide_eq_true rfl
  · rw[kF,y0K]
    refine decide_eq_false fun z=>?_
    have:=List.not_of_lt_findIdx (p:=(· == n)) (xs:=ns) (i:=m) (by simpa [List.idxOf] using hmj)
    simp[z]at this
 refine⟨_,rfl,p,rfl,⟨_,qp⟩,?_⟩
 refine z7B (K:=K) (xs:=ss.map V.str) ((plc ns ss).map D.int) qp (by unfold plc;simp) (by rw[jA];exact kE (z2V (by omega))) (z1N _) (fun i x d H' R hx hd sm hR=>?_) (fun l H' ys sm e dl=>?_)
 · unfold plc at hd
   rw[jC]at hx
   rw[jC,jC]at hd
   cases en:ss[i]? with
   | none=>rw[en]at hx;cases hx
   | some n =>
    rw[en]at hx hd
    cases hx;cases hd
    have hn:=List.idxOf_lt_length_iff.mpr (hj n (jf en))
    obtain⟨e1,e2⟩:=eqs n hn
    exact⟨_,rfl,.inl ⟨rfl,_,.of (sm _ _ qv)⟩,_,rfl,v,ns.map V.str,.str n,ns.idxOf n,by rw[jA];exact hn,rfl,rfl,sm _ _ qv,rfl,z4o _,e1,e2,hR _ _ (Same.refl _) rfl⟩
 · rw[z0S dl]at e
   exact q l _ sm e
def y1d(K:PySem.W.Frag)(ix:List Nat)(tt:TT)(te:TE)(σ:St)(Q:VK):It->Hp->Prop:=fun J H1=>∀ D,H1 D=none->∃ W:Nat->Nat->Hp->Prop,(∃ m,W 0 m (upd H1 D (.lst []))) /\
 ∀ i m H,W i m H->(J.stop i H/\Q (.ref D) H)\/(J.go i H/\∀ x H',J.yld i H x H'->∃ t a b,x = .ref t/\SqT K H' t [a,b]/\tt (some a :: some b :: cap ix σ) H' fun ok H2 =>
  if ok=true then te (some a :: some b :: cap ix σ) H2 fun y H3=>∃ ys,H3 D=some (.lst ys)/\ys.length < sizeLine/\∃ m',m' < m/\W (i + 1) m' (upd H3 D (.lst (ys ++ [y]))) else ∃ m',m' < m/\W (i + 1) m' H2)
theorem y1M{K:PySem.W.Frag}{ix:List Nat}{wi:TI}{tt:TT}{te:TE}{g:TG}{D:Ends}{σ:St}{H:Hp}(h:wi σ H (y1d K ix tt te σ fun x H1=>g x σ H1 D.nx)):y2p (z6e K ix wi tt te) g D σ H:=h
theorem z8z{K:PySem.W.Frag}{ix:List Nat}{wi:TI}{te:TE}{g:TG}{D:Ends}{σ:St}{H:Hp}(h:wi σ H (z5X K ix te σ fun x H1=>g x σ H1 D.nx)):y2p (z6e K ix wi z6G te) g D σ H:=h
theorem z9x{K:PySem.W.Frag}{a:Addr}{xs:List V}{ix:List Nat}{tt:TT}{te:TE}{σ:St}{H:Hp}{Q:VK}(fs:List (Bool×D))(hS:SqL K H a xs)(hn:fs.length=xs.length)(hz:xs.length<=sizeLine)(hf:D.noLs (fs.map (·.2))=true)
 (item:∀ (i:Nat) (x:V) (bd:Bool×D) (H':Hp),xs[i]? = some x->fs[i]? = some bd->Same H H'->∃ t u v,x = .ref t/\SqT K H' t [u,v]/\(∀ R:Bool->Hp->Prop,R bd.1 H'->tt (some u :: some v :: cap ix σ) H' R)/\(bd.1=true->∀ R:VK,(∀ y H'',Same H' H''->IsD K H'' bd.2 y->R y H'')->te (some u :: some v :: cap ix σ) H' R))
 (fin:∀ l H' ys,Same H H'->H l=none->H' l=some (.lst ys)->IsDs K H' ((fs.filter (·.1)).map (·.2)) ys->Q (.ref l) H'):y1d K ix tt te σ Q (Itl K a) H:=by
 have nlf:∀ l:List (Bool×D),D.noLs (l.map (·.2))=true->D.noLs ((l.filter (·.1)).map (·.2))=true:=fun l=>by
  induction l with
  | nil=>intro _;rfl
  | cons x l ih =>
   intro h
   have h:(x.2.noL && D.noLs (l.map (·.2)))=true:=h
   rw[jz]at h
   rw[List.filter_cons]
   split
   · show (x.2.noL && D.noLs ((l.filter (·.1)).map (·.2)))=true
     rw[h.1,ih h.2];rfl
   · exact ih h.2
 have nlt:∀ i,D.noLs (((fs.take i).filter (·.1)).map (·.2))=true:=fun i=>nlf _ (by
  have:∀ (l:List (Bool×D)) (i:Nat),D.noLs (l.map (·.2))=true->D.noLs ((l.take i).map (·.2))=true:=fun l=>by
   induction l with
   | nil=>intro i _;rw[List.take_nil];rfl
   | cons x l ih =>
    intro i h
    have h:(x.2.noL && D.noLs (l.map (·.2)))=true:=h
    rw[jz]at h
    cases i with
    | zero=>rfl
    | succ i =>
     show (x.2.noL && D.noLs ((l.take i).map (·.2)))=true
     rw[h.1,ih i h.2];rfl
  exact this fs i hf)
 intro Da hD
 refine⟨fun i m H'=>m=xs.length - i/\i<=xs.length/\Same H H'/\∃ ys,H' Da=some (.lst ys)/\ys.length<=i/\IsDs K H' (((fs.take i).filter (·.1)).map (·.2)) ys,⟨xs.length,by simp,jR _,z0e hD _,[],z0c,jF _,rfl⟩,?_⟩
 rintro i m H' ⟨rfl,hi,sm,ys,eD,yl,dys⟩
 by_cases hlt:i < xs.length
 · refine .inr ⟨⟨xs,xs[i],sm.seq hS,jB hlt⟩,fun x H'' hy=>?_⟩
   obtain⟨e,y⟩:=hy
   subst e
   have ex:xs[i]? = some x:=y xs (sm.seq hS)
   have hfi:i < fs.length:=by omega
   have tk:fs.take (i + 1)=fs.take i ++ [fs[i]]:=jL hfi
   obtain⟨t,u,v,rfl,qt,ht,he⟩:=item i x fs[i] _ ex (jB hfi) sm
   refine⟨t,u,v,rfl,qt,ht _ ?_⟩
   have nl1:=nlt (i + 1)
   have nl0:=nlt i
   generalize fs[i]=bd at tk he
   obtain⟨b,dd⟩:=bd
   rw[tk,List.filter_append,je]at nl1
   cases b with
   | true =>
    rw[if_pos rfl]
    refine he rfl _ fun y H2 s2 dy=>⟨ys,s2 _ _ eD,by omega,xs.length - (i + 1),by omega,rfl,hlt,z0G hD (sm.trans s2),_,z0c,by rw[jJ,ju];omega,?_⟩
    rw[tk,List.filter_append,je]
    refine IsDs.append ?_ ?_
    · exact IsDs.updL (s2 _ _ eD) nl0 (dys.same s2)
    · refine⟨y,[],rfl,IsD.updL (s2 _ _ eD) ?_ dy,rfl⟩
      have:=hf
      exact z5j hf dd (jU.mpr ⟨(true,dd),by rw[<- List.take_append_drop (i + 1) fs,tk];simp,rfl⟩)
   | false =>
    rw[if_neg jN]
    refine⟨xs.length - (i + 1),by omega,rfl,hlt,sm,ys,eD,by omega,?_⟩
    rw[tk,List.filter_append,je]
    simpa using dys
 · have e:i=xs.length:=by omega
   subst e
   refine .inl ⟨⟨xs,sm.seq hS,jF _⟩,fin Da H' ys sm hD eD ?_⟩
   rw[js (by omega)]at dys
   exact dys
def shr:D->Rat
 | .tup [_,.tup [.int n,.int d]]=>Rat.divInt n d
 | _=>0
def nmsR:Rw->List Str
 | .draw n _=>[n]
 | .lt n e=>e.nms ++ [n]
 | .seen e=>e.nms
def rowsR(kd:Str->List Int):Rw->List (List Int×Rat)
 | .draw _ os=>os.map fun o=>([z4C o],shr o)
 | .lt _ e=>(chs (e.nms.map kd)).map fun ch=>(ch ++ [ev (bk e.nms ch) e],1)
 | .seen e=>((chs (e.nms.map kd)).filter fun ch=>decide (ev (bk e.nms ch) e≠0)).map fun ch=>(ch,1)
def y8Y(kd:Str->List Int)(r:Rw):List (List Int×Rat):=gath (plc (nmsR r) (srt (nmsR r))) (rowsR kd r)
def y6r(K:PySem.W.Frag):Sp:=fun vs H Q _=>∃ (x:V) (r:Rw) (d:Addr) (ks:List Str) (ad:Str->Addr) (kd:Str->List Int),vs=[x,.ref d]/\IsD K H (dR r) x/\r.fine/\BookN H d ks ad kd/\(∀ n∈r.reads,n∈ks)/\(∀ n∈r.reads,kd n≠[])/\cntK kd r.reads<=40/\(nmsR r).Nodup/\(∀ g∈rowsR kd r,sz g.2)/\(∀ i,∀ g∈gath (plc (nmsR r) (srt (nmsR r))) ((rowsR kd r).take i),sz g.2) /\
 ∀ (p tn tl:Addr) (qs:List (List Int×Rat)) (H':Hp),Same H H'->H tl=none->H' p=some (.tup [.ref tn,.ref tl])->H' tn=some (.tup ((srt (nmsR r)).map V.str))->qs.Perm (y8Y kd r)->qs.Pairwise (fun p q=>HT.lexLt p.1 q.1=true)->IsD K H' (.lst (qs.map z3H)) (.ref tl)->Q (.ref p) H'
theorem z5w{s v:TS}{D:Ends}{σ:St}{H:Hp}(Pj:St->Hp->Prop)(h1:∀ R:St->Hp->Prop,(∀ σ' H',Pj σ' H'->R σ' H')->s ⟨R,D.rt,D.bk,D.ct⟩ σ H)(h2:∀ σ' H',Pj σ' H'->v D σ' H'):y4L s v D σ H:=h1 (v D) h2
theorem z2Z:∀ l:List (List Int×Rat),D.noLs (l.map z3H)=true
 | []=>rfl
 | r :: l=>by
  show ((z3H r).noL && D.noLs (l.map z3H))=true
  rw[z2Z l,Bool.and_true]
  show (D.noLs (r.1.map D.int) && ((dF r.2).noL && true))=true
  rw[z1N r.1];rfl
theorem y0r{H:Hp}{os:List D}(h:y6i os){i:Nat}{d:D}{x:V}(e:os[i]? = some d)(dx:IsD K H d x):∃ t y,x = .ref t/\SqT K H t [.int (z4C d),y]/\IsD K H (dF (shr d)) y:=by
 obtain⟨l,W,rfl,_⟩:=h
 rw[jC]at e
 cases z:l[i]? with
 | none=>rw[z]at e;cases e
 | some p =>
  rw[z]at e
  cases e
  obtain⟨t,xs,rfl,qt,_,_,rfl,rfl,y,_,rfl,dy,rfl⟩:=dx
  refine⟨t,y,rfl,qt,?_⟩
  have e:shr (dO W p)=Rat.divInt p.2 W:=Rat.num_divInt_den _
  rw[e];exact dy
theorem x0B:dF 1 = .tup [.int 1,.int 1]:=rfl
theorem y5x(B:Bl mg)(z0J:Def P w K mg base "names_read" 13 ["row"] (z6K K))(z0Z:Def P w K mg base "row_choices" 14 ["row", "found"] (y2x K))(z4M:Def P w K mg base "gathered" 4 ["rows", "places"] (z5u K))(z3Y:Def P w K mg base "places_of" 1 ["names", "some"] (z6h K))
 (F:Fn K mg "table_of" z3s ["row", "found"]):Def P w K mg base "table_of" 15 ["row", "found"] (y6r K):=by
 refine F.ok z1d (fun vs H Q E h=>?_) (fun f cdv A outer s H vs Q E hr h=>?_)
 · obtain⟨x,r,d,ks,ad,kd,rfl,_⟩:=h;rfl
 obtain⟨x,r,d,ks,ad,kd,rfl,dx,hf,bk0,sub,kne,c40,nd,hs1,hsz,q⟩:=h
 have big:(100000:Nat) < sizeLine:=by decide
 have rlen:=z8b hf
 refine⟨_,(@z0b _ _ _ _ _ (z0B (z0j (z0x.or (z0z.or (z0A.or (z0w K rfl hr.units)))) (z0s (z0i K rfl) (pv 0) z0d (fun _ _=>rfl)) z0l (z0k _)) (@z0b _ _ _ _ _ (@z2s _ 3 _ _ _ _ _ z1d.nd rfl (by first | exact Or.inl rfl | exact Or.inr rfl) (@z4A _ _ _ _ (z0s (z0i K rfl) (pv 0) z0d (fun _ _=>rfl)) rfl) rfl (by first | exact .inl rfl | exact .inr rfl))
  (@z0g _ _ _ (z7c (j:=4) z1d.nd rfl rfl (CompOk2.mk (z := "share") (CompOk.of (x := "number") (M:=[]) (ix:=[]) rfl rfl (by decide +kernel) (by decide +kernel) rfl trivial (by rfl) trivial) rfl) rfl (by decide +kernel) (z0C (z0s (z0i K rfl) (pv 0) z0d (fun _ _=>rfl))) (fun _ _ _ _ _=>z0V) (fun _ _ _ _ _=>(@z2b _ _ _ _ _ _ _ (@z5E _ _ _ _ _ (pv 0) rfl) (pv 1) rfl rfl))))) (@z0g _ _ _ (z0B (z0j (z0x.or (z0z.or (z0A.or (z0w K rfl hr.units)))) (z0s (z0i K rfl) (pv 0) z0d (fun _ _=>rfl)) z0l (z0k _)) (@z0b _ _ _ _ _ (z0t (i:=3) z1d.nd rfl (by first | exact Or.inl rfl | exact Or.inr rfl) (z0p (z0R.or (z0q.or (z0Q.or (z7j K rfl)))) (z0r z0J hr rfl (@z0h _ _ _ _ _ (pv 0) z0f rfl)) (@z4A _ _ _ _ (z0s (z0i K rfl) (pv 0) z0d (fun _ _=>rfl)) rfl)))
  (@z0g _ _ _ (z7c (j:=4) z1d.nd rfl rfl (CompOk2.mk (z := "number") (CompOk.of (x := "numbers") (M:=[]) (ix:=[]) rfl rfl (by decide +kernel) (by decide +kernel) rfl trivial (by rfl) trivial) rfl) rfl (by decide +kernel) (z0C (z0r z0Z hr rfl (@z0h _ _ _ _ _ (pv 0) (@z0h _ _ _ _ _ (pv 1) z0f rfl) rfl))) (fun _ _ _ _ _=>z0V) (fun _ _ _ _ _=>(@z2b _ _ _ _ _ _ _ (z0p (z0R.or (z0q.or (z0Q.or (z7j K rfl)))) (pv 0) (@z5E _ _ _ _ _ (pv 1) rfl)) (@z2b _ _ _ _ _ _ _ z0d z0d rfl rfl) rfl rfl))))) (@z0b _ _ _ _ _ (z0t (i:=3) z1d.nd rfl (by first | exact Or.inl rfl | exact Or.inr rfl) (z0r z0J hr rfl (@z0h _ _ _ _ _ (pv 0) z0f rfl)))
  (@z0g _ _ _ (z7c (j:=4) z1d.nd rfl rfl (CompOk2.mk (z := "number") (CompOk.of (x := "numbers") (M:=[]) (ix:=[]) rfl rfl (by decide +kernel) (by decide +kernel) rfl trivial (by rfl) trivial) rfl) rfl (by decide +kernel) (z0C (z0r z0Z hr rfl (@z0h _ _ _ _ _ (pv 0) (@z0h _ _ _ _ _ (pv 1) z0f rfl) rfl))) (fun _ _ _ _ _=>(y7H (z0j (z1r.or (z1v.or (z1x.or (z1w K rfl hr.units)))) (pv 1) z0d (z0k _)))) (fun _ _ _ _ _=>(@z2b _ _ _ _ _ _ _ (pv 0) (@z2b _ _ _ _ _ _ _ z0d z0d rfl rfl) rfl rfl))))))))
  (@z0b _ _ _ _ _ (z0t (i:=2) z1d.nd rfl (by first | exact Or.inl rfl | exact Or.inr rfl) (z0K (z2Q K rfl) rfl B.tuple PyProof.Rows.boot_tuple (@z0h _ _ _ _ _ (z0u (z1G K rfl) rfl B.sorted PyProof.Rows.boot_sorted (@z0h _ _ _ _ _ (pv 3) z0f rfl)) z0f rfl)))
  (@z0g _ _ _ (@z4y _ _ _ _ (@z2b _ _ _ _ _ _ _ (pv 2) (z0r z4M hr rfl (@z0h _ _ _ _ _ (pv 4) (@z0h _ _ _ _ _ (z0r z3Y hr rfl (@z0h _ _ _ _ _ (pv 3) (@z0h _ _ _ _ _ (pv 2) z0f rfl) rfl)) z0f rfl) rfl)) rfl rfl))))),?_⟩
 dsimp only[L2.z2w]
 refine z5w (fun σ H'=>∃ (nl rl:Addr) (ys:List V),σ=[some x,some (.ref d),none,some (.ref nl),some (.ref rl)]/\Same H H'/\H' nl=some (.lst ((nmsR r).map V.str))/\SqL K H' rl ys/\IsDs K H' ((rowsR kd r).map z3H) ys/\(nmsR r).length<=13/\(rowsR kd r).length<=40/\(∀ g∈rowsR kd r,g.1.length=(nmsR r).length)) (fun R hR=>?_) ?_
 · cases r with
   | draw n os =>
    obtain⟨a,l,ys,rfl,qa,ql,dl⟩:=z7b dx
    have oo:=hf.2.2
    obtain⟨ond,ol,one⟩:=z5G oo
    have yl:=dl.length
    refine⟨_,rfl,.inr (.inl ⟨a,_,_,_,rfl,rfl,qa,z6c,.inr (.inl ⟨_,_,rfl,rfl,_,rfl,z1C (fun _=>?_) (fun c=>absurd rfl c)⟩)⟩)⟩
    refine⟨_,rfl,.inr (.inl ⟨a,_,1,.str n,rfl,rfl,qa,y4u,by show 1<=sizeLine;decide,fun nl nnl=>?_⟩)⟩
    have s1:=z0e nnl (.lst [V.str n])
    dsimp only[z1g,List.set]
    refine z8z ⟨_,rfl,.inr (.inl ⟨a,_,2,.ref l,rfl,rfl,s1.tupq qa,y8Z,l,rfl,⟨_,s1.seq ql⟩,?_⟩)⟩
    refine z3W (K:=K) (xs:=ys) ((rowsR kd (.draw n os)).map z3H) (s1.seq ql) (by show ((os.map _).map z3H).length=_;rw[jA,jA];omega) (by omega) (z2Z _) (fun i x z H' R' hx hz sm hR'=>?_) (fun rl H2 nrl s2 d2=>?_)
    · have hi:i < os.length:=by have:=(jE.mp hx).1;omega
      obtain⟨t,y,rfl,qt,dy⟩:=y0r oo (jB hi) ((z2g dl (jB hi) hx).same (s1.trans sm))
      have hz:((os.map fun o=>([z4C o],shr o)).map z3H)[i]? = some z:=hz
      rw[jC,jC,jB hi]at hz
      cases hz
      refine⟨t,_,y,rfl,qt,_,rfl,by show 1<=sizeLine;decide,fun p1 np1=>⟨_,rfl,by show 2<=sizeLine;decide,fun p2 np2=>?_⟩⟩
      have u1:=z0e np1 (.tup [V.int (z4C os[i])])
      have u2:=z0e np2 (.tup [V.ref p1,y])
      exact hR' _ _ (u1.trans u2) ⟨p2,_,rfl,.of z0c,_,_,rfl,⟨p1,_,rfl,.of (u2 _ _ z0c),_,_,rfl,rfl,rfl⟩,_,_,rfl,dy.same (u1.trans u2),rfl⟩
    · obtain⟨rl',zs,e,q2,dz⟩:=d2
      cases e
      refine hR _ _ ⟨nl,rl,zs,rfl,s1.trans s2,s2 _ _ z0c,q2,dz,by show 1<=13;decide,by show (os.map _).length<=40;rw[jA];omega,fun g hg=>?_⟩
      obtain⟨o,_,rfl⟩:=jU.mp (show g∈os.map fun o=>([z4C o],shr o) from hg)
      rfl
   | lt n e =>
    obtain⟨a,xs',ex,qa,_,_,rfl,rfl,_,_,rfl,rfl,y,_,rfl,dy,rfl⟩:=id dx
    subst ex
    have cl:(chs (e.nms.map kd)).length<=40:=by rw[z3l,jd];exact c40
    have call:=z2u _ (e.nms.map kd) rfl
    rw[jA]at call
    refine⟨_,rfl,.inr (.inl ⟨a,_,_,_,rfl,rfl,qa,z6c,.inr (.inl ⟨_,_,rfl,rfl,_,rfl,z1C (fun c=>absurd c (by decide)) (fun _=>?_)⟩)⟩)⟩
    refine⟨_,rfl,.inr (.inl ⟨a,_,_,_,rfl,rfl,qa,z6c,.inr (.inl ⟨_,_,rfl,rfl,_,rfl,z1C (fun _=>?_) (fun c=>absurd rfl c)⟩)⟩)⟩
    refine⟨_,rfl,.ref a,.lt n e,rfl,dx,hf,fun n1 H1 s1 nn1 en1=>⟨_,rfl,.inr (.inl ⟨a,_,1,.str n,rfl,rfl,s1.tupq qa,y4u,by show 1<=sizeLine;decide,fun n2 nn2=>?_⟩)⟩⟩
    have s2:=z0e nn2 (.lst [V.str n])
    have rl12:(Rw.lt n e).reads=e.nms:=rfl
    rw[rl12]at en1 rlen
    refine .inr (.inr (.inl ⟨n1,n2,_,_,rfl,rfl,s2 _ _ en1,z0c,by rw[jA];show e.nms.length + 1<=sizeLine;omega,fun nl nnl=>?_⟩))
    have s3:=z0e nnl (.lst (e.nms.map V.str ++ [V.str n]))
    have s13:=s1.trans (s2.trans s3)
    have enl:(upd (upd H1 n2 (.lst [V.str n])) nl (.lst (e.nms.map V.str ++ [V.str n]))) nl=some (.lst ((e.nms ++ [n]).map V.str)):=by rw[z0c,je];rfl
    generalize upd (upd H1 n2 (.lst [V.str n])) nl (.lst (e.nms.map V.str ++ [V.str n]))=H3 at s13 enl ⊢
    dsimp only[z1g,List.set]
    refine z8z ⟨_,rfl,_,rfl,.ref a,.lt n e,e,d,ks,ad,kd,rfl,dx.same s13,hf,.inl ⟨n,rfl⟩,bk0.same s13,sub,kne,by show cntK kd e.nms<=500;have:cntK kd e.nms<=40:=c40;omega,fun p4 ys H4 s4 e4 d4=>⟨p4,rfl,⟨_,.of e4⟩,?_⟩⟩
    have yl:=d4.length
    rw[jA]at yl
    refine z3W (K:=K) (xs:=ys) ((rowsR kd (.lt n e)).map z3H) (.of e4) (by show (((chs _).map _).map z3H).length=_;rw[jA,jA];omega) (by omega) (z2Z _) (fun i x z H' R' hx hz sm hR'=>?_) (fun rl H5 nrl s5 d5=>?_)
    · have hi:i < (chs (e.nms.map kd)).length:=by have:=(jE.mp hx).1;omega
      have dxi:=(z2g d4 (by rw[jC,jB hi];rfl) hx).same sm
      have hz:(((chs (e.nms.map kd)).map fun ch=>(ch ++ [ev (bk e.nms ch) e],(1:Rat))).map z3H)[i]? = some z:=hz
      rw[jC,jC,jB hi]at hz
      cases hz
      have cL:=call _ (jZ hi)
      generalize (chs (e.nms.map kd))[i]=ch at dxi cL hR'
      obtain⟨tt,xs',rfl,qtt,uu,_,rfl,⟨tc,ws,rfl,qc,dws⟩,_,_,rfl,rfl,rfl⟩:=dxi
      rw[z0S dws]at qc
      refine⟨tt,.ref tc,_,rfl,qtt,_,rfl,_,rfl,by show 1<=sizeLine;decide,fun p1 np1 => .inr (.inr (.inr (y0V rfl rfl ((z0e np1 _).tupq qc) (.of z0c) (by rw[jA];show ch.length + 1<=sizeLine;omega) fun p2 H6 s6 q6=>⟨by show 2<=sizeLine;decide,fun p3 np3=>⟨by show 2<=sizeLine;decide,fun p4 np4=>?_⟩⟩)))⟩
      have u1:=z0e np1 (.tup [V.int (ev (bk e.nms ch) e)])
      have u3:=z0e np3 (.tup [V.int 1,V.int 1])
      have u4:=z0e np4 (.tup [V.ref p2,V.ref p3])
      refine hR' _ _ (u1.trans (s6.trans (u3.trans u4))) ⟨p4,_,rfl,.of z0c,_,_,rfl,⟨p2,_,rfl,(u3.trans u4).tupq q6,?_⟩,_,_,rfl,⟨p3,_,rfl,.of (u4 _ _ z0c),_,_,rfl,rfl,_,_,rfl,rfl,rfl⟩,rfl⟩
      rw[show ch.map V.int ++ [V.int (ev (bk e.nms ch) e)]=(ch ++ [ev (bk e.nms ch) e]).map V.int by rw[je];rfl]
      exact z3C _
    · obtain⟨rl',zs,ez,q5,dz⟩:=d5
      cases ez
      refine hR _ _ ⟨nl,rl,zs,rfl,s13.trans (s4.trans s5),s5 _ _ (s4 _ _ enl),q5,dz,by show (e.nms ++ [n]).length<=13;rw[jJ];show e.nms.length + 1<=13;omega,by show ((chs _).map _).length<=40;rw[jA];exact cl,fun g hg=>?_⟩
      obtain⟨ch,hch,rfl⟩:=jU.mp (show g∈(chs (e.nms.map kd)).map fun ch=>(ch ++ [ev (bk e.nms ch) e],(1:Rat)) from hg)
      show (ch ++ [_]).length=(e.nms ++ [n]).length
      rw[jJ,jJ,call ch hch];rfl
   | seen e =>
    obtain⟨a,xs',ex,qa,_,_,rfl,rfl,y,_,rfl,dy,rfl⟩:=id dx
    subst ex
    have cl:(chs (e.nms.map kd)).length<=40:=by rw[z3l,jd];exact c40
    have call:=z2u _ (e.nms.map kd) rfl
    rw[jA]at call
    refine⟨_,rfl,.inr (.inl ⟨a,_,_,_,rfl,rfl,qa,z6c,.inr (.inl ⟨_,_,rfl,rfl,_,rfl,z1C (fun c=>absurd c (by decide)) (fun _=>?_)⟩)⟩)⟩
    refine⟨_,rfl,.inr (.inl ⟨a,_,_,_,rfl,rfl,qa,z6c,.inr (.inl ⟨_,_,rfl,rfl,_,rfl,z1C (fun c=>absurd c (by decide)) (fun _=>?_)⟩)⟩)⟩
    refine⟨_,rfl,.ref a,.seen e,rfl,dx,hf,fun nl H3 s13 nnl enl=>?_⟩
    have enl:H3 nl=some (.lst (e.nms.map V.str)):=enl
    have rlen:e.nms.length<=12:=rlen
    dsimp only[z1g,List.set]
    refine y1M ⟨_,rfl,_,rfl,.ref a,.seen e,e,d,ks,ad,kd,rfl,dx.same s13,hf,.inr rfl,bk0.same s13,sub,kne,by show cntK kd e.nms<=500;have:cntK kd e.nms<=40:=c40;omega,fun p4 ys H4 s4 e4 d4=>⟨p4,rfl,⟨_,.of e4⟩,?_⟩⟩
    have yl:=d4.length
    rw[jA]at yl
    have ef:(((chs (e.nms.map kd)).map fun ch=>((!decide (ev (bk e.nms ch) e=0)),z3H (ch,1))).filter (·.1)).map (·.2)=(rowsR kd (.seen e)).map z3H:=by
     show _=(((chs (e.nms.map kd)).filter fun ch=>decide (ev (bk e.nms ch) e≠0)).map fun ch=>(ch,(1:Rat))).map z3H
     rw[List.filter_map,jd,jd]
     refine congrArg (List.map _) (List.filter_congr fun ch _=>?_)
     exact y3x _
    refine z9x (K:=K) (xs:=ys) ((chs (e.nms.map kd)).map fun ch=>((!decide (ev (bk e.nms ch) e=0)),z3H (ch,1))) (.of e4) (by rw[jA];omega) (by omega) (by rw[jd];have:=z2Z ((chs (e.nms.map kd)).map fun ch=>(ch,(1:Rat)));rw[jd]at this;exact this) (fun i x bd H' hx hz sm=>?_) (fun rl H5 zs s5 nrl e5 d5=>?_)
    · have hi:i < (chs (e.nms.map kd)).length:=by have:=(jE.mp hx).1;omega
      have dxi:=(z2g d4 (by rw[jC,jB hi];rfl) hx).same sm
      rw[jC,jB hi]at hz
      cases hz
      generalize (chs (e.nms.map kd))[i]=ch at dxi
      obtain⟨tt,xs',rfl,qtt,uu,_,rfl,⟨tc,ws,rfl,qc,dws⟩,_,_,rfl,rfl,rfl⟩:=dxi
      rw[z0S dws]at qc
      refine⟨tt,.ref tc,_,rfl,qtt,fun R hR=>⟨_,rfl,.inl ⟨_,_,rfl,rfl,_,rfl,hR⟩⟩,fun _ R hR=>⟨_,rfl,by show 2<=sizeLine;decide,fun p3 np3=>⟨by show 2<=sizeLine;decide,fun p4 np4=>?_⟩⟩⟩
      have u3:=z0e np3 (.tup [V.int 1,V.int 1])
      have u4:=z0e np4 (.tup [V.ref tc,V.ref p3])
      exact hR _ _ (u3.trans u4) ⟨p4,_,rfl,.of z0c,_,_,rfl,⟨tc,_,rfl,(u3.trans u4).tupq qc,z3C _⟩,_,_,rfl,⟨p3,_,rfl,.of (u4 _ _ z0c),_,_,rfl,rfl,_,_,rfl,rfl,rfl⟩,rfl⟩
    · rw[ef]at d5
      have fl:=List.length_filter_le (fun ch=>decide (ev (bk e.nms ch) e≠0)) (chs (e.nms.map kd))
      refine hR _ _ ⟨nl,rl,zs,rfl,s13.trans (s4.trans s5),s5 _ _ (s4 _ _ enl),.of e5,d5,by show e.nms.length<=13;omega,by show ((List.filter _ _).map _).length<=40;rw[jA];omega,fun g hg=>?_⟩
      obtain⟨ch,hch,rfl⟩:=jU.mp (show g∈((chs (e.nms.map kd)).filter fun ch=>decide (ev (bk e.nms ch) e≠0)).map fun ch=>(ch,(1:Rat)) from hg)
      exact call ch (List.mem_filter.mp hch).1
 · rintro σ H1 ⟨nl,rl,ys,rfl,s1,enl,qrl,dys,ln,lr,wd⟩
   refine⟨_,rfl,nl,nmsR r,rfl,.of enl,by omega,fun sl ss nsl pm so=>?_⟩
   have es:ss=srt (nmsR r):=z9S (z3z so (pm.nodup_iff.mpr nd)) fun k=>pm.mem_iff
   subst es
   have t2:=z0e nsl (.lst ((srt (nmsR r)).map V.str))
   refine⟨sl,_,rfl,.inl ⟨.of z0c,fun tn ntn=>?_⟩⟩
   have t3:=z0e ntn (.tup ((srt (nmsR r)).map V.str))
   have t23:=t2.trans t3
   have etn:(upd (upd H1 sl (.lst ((srt (nmsR r)).map V.str))) tn (.tup ((srt (nmsR r)).map V.str))) tn=some (.tup ((srt (nmsR r)).map V.str)):=z0c
   generalize upd (upd H1 sl (.lst ((srt (nmsR r)).map V.str))) tn (.tup ((srt (nmsR r)).map V.str))=H3 at t23 etn ⊢
   dsimp only[z1g,List.set]
   have sl13:(srt (nmsR r)).length<=13:=jc (by rw[pm.length_eq];exact jF _) ln
   refine⟨_,rfl,_,rfl,_,rfl,_,rfl,nl,tn,nmsR r,srt (nmsR r),rfl,t23 _ _ enl,.of etn,fun n hn=>z3R.mp hn,by omega,fun pl H4 s4 epl=>⟨rl,pl,ys,rowsR kd r,plc (nmsR r) (srt (nmsR r)),rfl,(t23.trans s4).seq qrl,dys.same (t23.trans s4),.of epl,fun g hg j hj=>?_,by unfold plc;rw[jA];omega,by omega,hs1,hsz,fun tl H5 qs s5 ntl pm5 pw5 d5=>⟨by show 2<=sizeLine;decide,fun p np=>?_⟩⟩⟩
   · obtain⟨m,hm,rfl⟩:=jU.mp hj
     have:=List.idxOf_lt_length_iff.mpr (z3R.mp hm)
     have:=wd g hg
     omega
   · have u:=z0e np (.tup [V.ref tn,V.ref tl])
     exact q p tn tl qs _ (s1.trans (t23.trans (s4.trans (s5.trans u)))) (s1.free (t23.free (s4.free ntl))) z0c ((s4.trans (s5.trans u)) _ _ etn) pm5 pw5 (d5.same u)
theorem y3K:∀ (n:Nat) (rs:List Rw),rs.length=n->(givs rs).Nodup->∀ i,∀ x∈givs (rs.take i),kdOf rs x=kdOf (rs.take i) x:=by
 intro n
 induction n with
 | zero=>intro rs h _ i x hx;rw[jk.mp h];rw[List.take_nil]
 | succ n ih =>
  intro rs h nd i x hx
  have hne:rs≠[]:=fun z=>by rw[z]at h;cases h
  obtain⟨rs',r,rfl⟩:∃ rs' r,rs=rs' ++ [r]:=⟨_,_,(j3 hne).symm⟩
  rw[jJ,ju]at h
  rw[z2C,j4]at nd
  by_cases hi:i<=rs'.length
  · rw[z2v hi]at hx ⊢
    have e:=ih rs' (by omega) nd.1 i x hx
    rw[z2f,<- e]
    have hxr:x∈givs rs':=z4m hx
    have nx:x∉r.giv:=fun z=>nd.2.2 x hxr x z rfl
    cases r with
    | draw m os=>show (if x=m then _ else _)=_;rw[if_neg (fun z=>nx (by rw[z];exact jP.mpr rfl))]
    | lt m e=>show (if x=m then _ else _)=_;rw[if_neg (fun z=>nx (by rw[z];exact jP.mpr rfl))]
    | seen e=>rfl
  · rw[js (by rw[jJ,ju];omega)]
def TabV(K:PySem.W.Frag)(Da:Addr)(kd:Str->List Int)(H:Hp)(r:Rw)(y:V):Prop:=∃ (p tn tl:Addr) (qs:List (List Int×Rat)),y = .ref p/\H p=some (.tup [.ref tn,.ref tl])/\H tn=some (.tup ((srt (nmsR r)).map V.str))/\tl≠Da/\qs.Perm (y8Y kd r)/\qs.Pairwise (fun p q=>HT.lexLt p.1 q.1=true)/\IsD K H (.lst (qs.map z3H)) (.ref tl)
theorem TabV.same{Da:Addr}{kd:Str->List Int}{H H':Hp}{r:Rw}{y:V}(h:TabV K Da kd H r y)(s:Same H H'):TabV K Da kd H' r y:=by
 obtain⟨p,tn,tl,qs,e,h1,h2,n,h3,h4,h5⟩:=h
 exact⟨p,tn,tl,qs,e,s _ _ h1,s _ _ h2,n,h3,h4,h5.same s⟩
theorem y9u{H:Hp}{a b:Addr}{xs:List V}{o:HO}(n:b≠a)(h:SqL K H b xs):SqL K (upd H a o) b xs:=by
 rcases h with (h | ⟨o',h⟩) | h
 · exact .inl (.inl (by rw[z0n n];exact h))
 · exact .inl (.inr ⟨o',by rw[z0n n];exact h⟩)
 · exact .inr h
theorem TabV.lst{Da:Addr}{kd:Str->List Int}{H:Hp}{xs ys:List V}{r:Rw}{y:V}(e:H Da=some (.lst xs))(h:TabV K Da kd H r y):TabV K Da kd (upd H Da (.lst ys)) r y:=by
 obtain⟨p,tn,tl,qs,ey,h1,h2,n,h3,h4,⟨tl',zs,ez,q,dz⟩⟩:=h
 cases ez
 refine⟨p,tn,tl,qs,ey,?_,?_,n,h3,h4,⟨tl,zs,rfl,y9u n q,IsDs.updL e (z2Z qs) dz⟩⟩
 · rw[z0n (fun z:p=Da=>by rw[z,e]at h1;cases h1)];exact h1
 · rw[z0n (fun z:tn=Da=>by rw[z,e]at h2;cases h2)];exact h2
structure TOk (kd:Str->List Int) (r:Rw):Prop where
 cnt:cntK kd r.reads<=40
 nd:(nmsR r).Nodup
 s1:∀ g∈rowsR kd r,sz g.2
 s2:∀ i,∀ g∈gath (plc (nmsR r) (srt (nmsR r))) ((rowsR kd r).take i),sz g.2
def z6J(K:PySem.W.Frag):Sp:=fun vs H Q _=>∃ (t:Addr) (rs:List Rw) (mo:Nat),vs=[.ref t,.int (mo:Nat)]/\Sheet K H t rs/\Few rs/\1<=mo/\mo<=500/\(∀ i r,rs[i]? = some r->cntR rs i r<=mo)/\(∀ r∈rs,TOk (kdOf rs) r)/\(∀ n∈givs rs,kdOf rs n≠[]) /\
 ∀ (l:Addr) (ys:List V) (H':Hp),Same H H'->H l=none->H' l=some (.lst ys)->Paired (TabV K l (kdOf rs) H') rs ys->Q (.ref l) H'
theorem y7R(B:Bl mg)(z9G:Def2 P w K mg base "kinds" 15 ["sheet", "most"] (z6L K z0v))(z4K:Def P w K mg base "table_of" 15 ["row", "found"] (y6r K))(F:FnD K mg "tables_of" z1e ["sheet", "most"] (.int 500)):Def2 P w K mg base "tables_of" 16 ["sheet", "most"] (z6J K)/\DefD P w K mg base "tables_of" 16 ["sheet", "most"] (.int 500) (z6J K):=by
 refine F.ok3 z4Q (fun vs H Q E h=>?_) (fun f cdv A outer s H vs Q E hr h=>?_)
 · obtain⟨t,rs,mo,rfl,_⟩:=h;rfl
 obtain⟨t,rs,mo,rfl,sh,few,m1,m5,all,tok,kne,q⟩:=h
 have big:(100000:Nat) < sizeLine:=by decide
 refine⟨_,(@z0b _ _ _ _ _ (z0t (i:=2) z4Q.nd rfl (by first | exact Or.inl rfl | exact Or.inr rfl) (y3n z9G hr rfl y7P (z0a (pv 0) (z0a (pv 1) z0f))))
  (@z0g _ _ _ (z0o (z1u (CompOk.of (x := "row") (M:=["found"]) (ix:=[2]) rfl rfl (by decide +kernel) (by decide +kernel) rfl ⟨rfl,trivial⟩ (by rfl) ⟨⟨rfl,rfl,rfl,rfl⟩,trivial⟩) rfl (by decide +kernel) (z0C (z0s (z0i K rfl) (pv 0) z0d (fun _ _=>rfl))) (fun _ _ _ _ _=>z0V) (fun _ _ _ _ _=>(z0r z4K hr rfl (z0a (pv 0) (z0a (pv 1) z0f)))))))),?_⟩
 refine⟨_,rfl,_,rfl,t,rs,mo,rfl,sh,few,m1,m5,fun _ d ad H1 s1 nd fr bk1=>?_,fun⟨i,r,e,h⟩=>absurd (all i r e) (by omega)⟩
 obtain⟨⟨pe,rl,al,xs,qt,ql,dxs⟩,fine,wf,l63⟩:=sh.same s1
 have xl:=dxs.length
 rw[jA]at xl
 dsimp only[z1g,List.set]
 refine y0R ⟨_,rfl,.inr (.inl ⟨t,_,1,.ref rl,rfl,rfl,qt,y4u,rl,rfl,⟨_,ql⟩,?_⟩)⟩
 refine y0S xs.length (fun i=>xs.getD i .non) (by omega) (fun i Da ys H'=>Same H1 H'/\H1 Da=none/\H' Da=some (.lst ys)/\i<=xs.length/\Paired (TabV K Da (kdOf rs) H') (rs.take i) ys) (fun Da f=>⟨z0e f _,f,z0c,jR _,.nil⟩) (fun i Da ys H' h=>by have:=h.2.2.2.2.length;rw[jg]at this;have:=h.2.2.2.1;omega) (fun Da ys H' h=>⟨xs,h.1.seq ql,jF _⟩) (fun i Da ys H' hi h=>⟨⟨xs,xs[i],h.1.seq ql,jB hi⟩,fun x H'' hy=>?_⟩) (fun i Da ys H' R hi h hR=>?_) (fun Da ys H' h=>?_)
 · obtain⟨e,y⟩:=hy
   refine⟨?_,e⟩
   have:=y xs (h.1.seq ql)
   rw[jM,this];rfl
 · obtain⟨sm,f,eD,hi',pr⟩:=h
   have hir:i < rs.length:=by omega
   have ex:xs[i]? = some (xs.getD i .non):=by rw[jM,jB hi];rfl
   have dx:=(z2g dxs (by rw[jC,jB hir];rfl) ex).same sm
   have tk:rs.take (i + 1)=rs.take i ++ [rs[i]]:=jL hir
   have hr':=jZ hir
   have hin:∀ n∈rs[i].reads,n∈givs rs:=fun n hn=>z4m (wf i _ (jB hir) n hn)
   obtain⟨c40,ndn,sz1,sz2⟩:=tok _ hr'
   have hf:=fine _ hr'
   generalize rs[i]=r at dx tk hin c40 ndn sz1 sz2 hf
   refine⟨_,rfl,_,rfl,_,r,d,z5Y rs,ad,kdOf rs,rfl,dx,hf,bk1.same sm,fun n hn=>(z2O _).mpr (hin n hn),fun n hn=>kne n (hin n hn),c40,ndn,sz1,sz2,fun p tn tl qs H2 s2 ntl ep etn pm pw dq=>?_⟩
   refine hR _ _ (s2 _ _ eD) ⟨z0G f (sm.trans s2),f,z0c,hi,?_⟩
   rw[tk]
   have tlD:tl≠Da:=fun z=>by rw[z,eD]at ntl;cases ntl
   exact z5h (TabV.lst (s2 _ _ eD) ⟨p,tn,tl,qs,rfl,ep,etn,tlD,pm,pw,dq⟩) (z4S (fun a y h=>TabV.lst (s2 _ _ eD) (h.same s2)) pr)
 · obtain⟨sm,f,eD,_,pr⟩:=h
   rw[xl,jh]at pr
   exact q Da ys H' (s1.trans sm) (s1.free f) eD pr
def z7Q(K:PySem.W.Frag):Sp:=fun vs H Q _=>∃ (p r l:Addr) (ns:List Str) (rs:List (List Int×Rat)),vs=[.ref p]/\SqT K H p [.ref r,.ref l]/\SqT K H r (ns.map V.str)/\IsD K H (.lst (rs.map z3H)) (.ref l)/\(∀ r∈rs,r.1.length<=100)/\∀ H',Same H H'->Q (.bl true) H'
theorem y7i{H:Hp}{a:Addr}{xs:List V}(h:SqT K H a xs):x0J K (.ref a) H xs.length := .inr ⟨xs,h,rfl⟩
theorem y3r(B:Bl mg)(F:Fn K mg "_law_is_table" z2m ["_law_found"]):Def P w K mg base "_law_is_table" 1 ["_law_found"] (z7Q K):=by
 refine F.ok z2J (fun vs H Q E h=>?_) (fun f cdv A outer s H vs Q E hr h=>?_)
 · obtain⟨p,r,l,ns,rs,rfl,_⟩:=h;rfl
 obtain⟨p,r,l,ns,rs,rfl,qp,qr,⟨l',xs,el,ql,dxs⟩,lr,q⟩:=h
 cases el
 refine⟨_,(@z0b _ _ _ _ _ (z0B (PW.pt (z4x (z3a (z1Z (z0u (z1h K rfl) rfl B.isinstance PyProof.Rows.boot_isinstance (z0a (pv 0) (z0a (z2c (v := .ty "tuple") rfl B.tuple PyProof.Rows.boot_tuple rfl) z0f))))) (z4x (z0j (z1r.or (z1v.or (z1x.or (z1w K rfl hr.units)))) (z0u (z1a K rfl) rfl B.len PySem.boot_len (z0a (pv 0) z0f)) z0d (z0k _)) (z3I (z3a (z1Z (z0u (z1h K rfl) rfl B.isinstance PyProof.Rows.boot_isinstance (z0a (z0s (z0i K rfl) (pv 0) z0d (fun _ _=>rfl)) (z0a (z2c (v := .ty "tuple") rfl B.tuple PyProof.Rows.boot_tuple rfl) z0f))))))))) (@z0g _ _ _ (z0o z7h)) z0m)
  (@z0b _ _ _ _ _ (z0B (z3a (z1Z (z0u (z1h K rfl) rfl B.isinstance PyProof.Rows.boot_isinstance (z0a (z0s (z0i K rfl) (pv 0) z0d (fun _ _=>rfl)) (z0a (z2c (v := .ty "list") rfl B.list PyProof.Rows.boot_list rfl) z0f))))) (@z0g _ _ _ (z0o z7h)) z0m)
  (@z0b _ _ _ _ _ (z1q PassesOwn.never rfl (z0C (z0s (z0i K rfl) (pv 0) z0d (fun _ _=>rfl))) (z0E (i:=1) z2J.nd rfl (by first | exact Or.inl rfl | exact Or.inr rfl)) (@z0b _ _ _ _ _ (z0B (PW.pt (z4x (z3a (z1Z (z0u (z1h K rfl) rfl B.isinstance PyProof.Rows.boot_isinstance (z0a (pv 1) (z0a (z2c (v := .ty "tuple") rfl B.tuple PyProof.Rows.boot_tuple rfl) z0f))))) (z4x (z3a (z1Z (z0u (z1h K rfl) rfl B.isinstance PyProof.Rows.boot_isinstance (z0a (z0s (z0i K rfl) (pv 1) z0d (fun _ _=>rfl)) (z0a (z2c (v := .ty "tuple") rfl B.tuple PyProof.Rows.boot_tuple rfl) z0f))))) (z3I (z3a (z1Z (z0u (z1h K rfl) rfl B.isinstance PyProof.Rows.boot_isinstance (z0a (z0s (z0i K rfl) (pv 1) z0d (fun _ _=>rfl)) (z0a (z2c (v := .ty "tuple") rfl B.tuple PyProof.Rows.boot_tuple rfl) z0f))))))))) (@z0g _ _ _ (z0o z7h)) z0m)
  (@z0g _ _ _ (z1q PassesOwn.never rfl (z6n (z0p (z7j K rfl) (z0s (z0i K rfl) (pv 1) z0d (fun _ _=>rfl)) (z0s (z0i K rfl) (pv 1) z0d (fun _ _=>rfl)))) (z0E (i:=2) z2J.nd rfl (by first | exact Or.inl rfl | exact Or.inr rfl)) (@z0g _ _ _ (z0B (PW.pt (z4x (z3a (z1Z (z0u (z1h K rfl) rfl B.isinstance PyProof.Rows.boot_isinstance (z0a (pv 2) (z0a (z2c (v := .ty "int") rfl B.int PyProof.Rows.boot_int rfl) z0f))))) (z3I (z1Z (z0u (z1h K rfl) rfl B.isinstance PyProof.Rows.boot_isinstance (z0a (pv 2) (z0a (z2c (v := .ty "bool") rfl B.bool PyProof.Rows.boot_bool rfl) z0f))))))) (@z0g _ _ _ (z0o z7h)) z0m))))))
  (@z0g _ _ _ (z0o z7h))))),?_⟩
 refine⟨_,rfl,_,_,.type "tuple",true,rfl,rfl,.tupS qp,rfl,_,rfl,z5Z ?_⟩
 refine⟨_,rfl,_,_,rfl,y7i qp,.inl ⟨_,_,rfl,rfl,_,rfl,z3T (fun h=>absurd rfl h) fun _=>?_⟩⟩
 refine⟨_,rfl,.inr (.inl ⟨p,_,0,.ref r,rfl,rfl,qp,rfl,_,_,.type "tuple",true,rfl,rfl,.tupS qr,rfl,_,rfl,z5Z (nxt ?_)⟩)⟩
 refine⟨_,rfl,.inr (.inl ⟨p,_,1,.ref l,rfl,rfl,qp,rfl,_,_,.type "list",true,rfl,rfl,.lstS ql,rfl,_,rfl,z5Z (nxt ?_)⟩)⟩
 refine⟨_,rfl,.inr (.inl ⟨p,_,1,.ref l,rfl,rfl,qp,rfl,l,rfl,⟨xs,ql⟩,?_⟩)⟩
 have xl:=dxs.length
 rw[jA]at xl
 refine z1c (K:=K) (xs:=xs) (fun i σ H'=>Same H H'/\∃ c2 c3,σ=[some (.ref p),c2,c3]) ⟨Same.refl _,none,none,rfl⟩ (fun i σ H' _ h=>h.1.seq ql) ?_ ?_
 · rintro i x σ H' hx ⟨sm,c2,c3,rfl⟩
   have hi:i < rs.length:=by have:=(jE.mp hx).1;omega
   obtain⟨y,ey,dy⟩:=dxs.get (i:=i) (d:=z3H rs[i]) (by rw[jC,jB hi];rfl)
   obtain rfl:x=y:=by rw[hx]at ey;exact Option.some.inj ey
   obtain⟨t,zs,rfl,qt,v1,_,rfl,d1,v2,_,rfl,d2,rfl⟩:=dy
   obtain⟨t1,ys,rfl,q1,dys⟩:=d1
   rw[z0S dys]at q1
   obtain⟨t2,rfl,q2⟩:=z4B d2
   have hlr:=lr _ (jZ hi)
   have qt:=sm.tupq qt
   have q1:=sm.tupq q1
   have q2:=sm.tupq q2
   have big:(1000:Nat) < sizeLine:=by decide
   refine⟨_,rfl,_,_,.type "tuple",true,rfl,rfl,.tupS qt,rfl,_,rfl,z5Z ?_⟩
   refine⟨_,rfl,.inr (.inl ⟨t,_,0,.ref t1,rfl,rfl,qt,rfl,_,_,.type "tuple",true,rfl,rfl,.tupS q1,rfl,_,rfl,z5Z ?_⟩)⟩
   refine⟨_,rfl,.inr (.inl ⟨t,_,1,.ref t2,rfl,rfl,qt,rfl,_,_,.type "tuple",true,rfl,rfl,.tupS q2,rfl,_,rfl,z5Z (nxt ?_)⟩)⟩
   refine⟨_,rfl,.inr (.inl ⟨t,_,0,.ref t1,rfl,rfl,qt,rfl,_,rfl,.inr (.inl ⟨t,_,1,.ref t2,rfl,rfl,qt,rfl,t1,t2,_,_,rfl,rfl,q1,q2,?_,fun _=>?_,fun _ e=>absurd e (by simp),fun _ p3 np3=>?_⟩)⟩)⟩
   · rw[jA]
     show _ + 2<=sizeLine
     omega
   · refine⟨_,rfl,⟨_,q2⟩,z7z (K:=K) (xs:=[rs[i].2.num,(rs[i].2.den:Int)].map V.int) (fun i σ H2=>Same H' H2/\∃ c2 c3,σ=[some (.ref p),c2,c3]) ⟨Same.refl _,_,_,rfl⟩ (fun _ _ _ _ h=>h.1.tupq q2) ?_ ?_⟩
     · rintro k x σ H2 hk ⟨sk,c2,c3,rfl⟩
       obtain⟨v,rfl⟩:=y3P hk
       exact⟨_,rfl,_,_,.type "int",true,rfl,rfl,.of (.int _),rfl,_,rfl,z5Z ⟨_,rfl,_,_,.type "int",false,rfl,rfl,.of (.int _),rfl,_,rfl,z5Z (nxt ⟨sk,_,_,rfl⟩)⟩⟩
     · rintro σ H2 ⟨sk,c2,c3,rfl⟩
       exact⟨sm.trans sk,_,_,rfl⟩
   · have e3:rs[i].1.map V.int ++ [V.int rs[i].2.num,V.int (rs[i].2.den:Int)]=(rs[i].1 ++ [rs[i].2.num,(rs[i].2.den:Int)]).map V.int:=by simp
     have q3:SqT K (upd H' p3 (.tup (rs[i].1.map V.int ++ [V.int rs[i].2.num,V.int (rs[i].2.den:Int)]))) p3 ((rs[i].1 ++ [rs[i].2.num,(rs[i].2.den:Int)]).map V.int):=by rw[<- e3];exact .of z0c
     refine⟨_,rfl,⟨_,q3⟩,z7z (K:=K) (xs:=(rs[i].1 ++ [rs[i].2.num,(rs[i].2.den:Int)]).map V.int) (fun _ σ H2=>Same (upd H' p3 (.tup (rs[i].1.map V.int ++ [V.int rs[i].2.num,V.int (rs[i].2.den:Int)]))) H2/\∃ c2 c3,σ=[some (.ref p),c2,c3]) ⟨Same.refl _,_,_,rfl⟩ (fun _ _ _ _ h=>h.1.tupq q3) ?_ ?_⟩
     · rintro k x σ H2 hk ⟨sk,c2,c3,rfl⟩
       obtain⟨v,rfl⟩:=y3P hk
       exact⟨_,rfl,_,_,.type "int",true,rfl,rfl,.of (.int _),rfl,_,rfl,z5Z ⟨_,rfl,_,_,.type "int",false,rfl,rfl,.of (.int _),rfl,_,rfl,z5Z (nxt ⟨sk,_,_,rfl⟩)⟩⟩
     · rintro σ H2 ⟨sk,c2,c3,rfl⟩
       exact⟨(sm.trans (z0e np3 _)).trans sk,_,_,rfl⟩
 · rintro σ H' ⟨sm,c2,c3,rfl⟩
   exact q H' sm
theorem y0F(ps:List Int):∀ (n:Nat) (rs:List (List Int×Rat)),rs.length=n->(rs.map fun r=>z0W r.1 ps).Nodup->gath ps rs=rs.map fun r=>(z0W r.1 ps,r.2):=by
 intro n
 induction n with
 | zero=>intro rs h _;rw[jk.mp h];rfl
 | succ n ih =>
  intro rs h nd
  have hne:rs≠[]:=fun z=>by rw[z]at h;cases h
  obtain⟨rs',r,rfl⟩:∃ rs' r,rs=rs' ++ [r]:=⟨_,_,(j3 hne).symm⟩
  rw[jJ,ju]at h
  rw[je,j4]at nd
  rw[z8u,ih rs' (by omega) nd.1,je]
  have no:∀ p∈rs'.map (fun r=>(z0W r.1 ps,r.2)),p.1≠z0W r.1 ps:=fun p hp=>by
   obtain⟨q,hq,rfl⟩:=jU.mp hp
   exact nd.2.2 _ (jU.mpr ⟨q,hq,rfl⟩) _ (jP.mpr rfl)
  generalize rs'.map (fun r=>(z0W r.1 ps,r.2))=acc at no
  have v0:y4J acc (z0W r.1 ps)=none:=by
   unfold y4J
   rw[List.find?_eq_none.mpr fun p hp=>by simpa using no p hp];rfl
  have s0:¬ (acc.any fun p=>decide (p.1=z0W r.1 ps))=true:=fun z=>by
   obtain⟨p,hp,e⟩:=List.any_eq_true.mp z
   exact no p hp (of_decide_eq_true e)
  unfold y8O y2d
  rw[v0,if_neg s0];rfl
theorem z9j{α:Type}(a:α):[a].Nodup:=by simp
theorem x0C{acc:List (List Int)}{l:List Int}(ha:acc.Nodup)(hl:l.Nodup):(chF acc l).Nodup:=by
 unfold chF
 induction acc with
 | nil=>exact .nil
 | cons c acc ih =>
  rw[jy]at ha
  rw[List.flatMap_cons,j4]
  refine⟨?_,ih ha.2,fun a h1 b h2 e=>?_⟩
  · refine jl.mpr (j5.mpr ((jl.mp hl).imp fun {a b} n e=>n ?_))
    have:=(List.append_inj e rfl).2
    exact List.singleton_inj.mp this
  · obtain⟨o,_,rfl⟩:=jU.mp h1
    obtain⟨c',hc',h2⟩:=List.mem_flatMap.mp h2
    obtain⟨o',_,rfl⟩:=jU.mp h2
    have:=congrArg List.dropLast e
    rw[List.dropLast_concat,List.dropLast_concat]at this
    exact ha.1 (this ▸ hc')
theorem y6R:∀ (n:Nat) (ls:List (List Int)),ls.length=n->(∀ l∈ls,l.Nodup)->(chs ls).Nodup:=by
 intro n
 induction n with
 | zero=>intro ls h _;rw[jk.mp h];exact z9j _
 | succ n ih =>
  intro ls h nd
  have hne:ls≠[]:=fun z=>by rw[z]at h;cases h
  obtain⟨ls',l,rfl⟩:∃ ls' l,ls=ls' ++ [l]:=⟨_,_,(j3 hne).symm⟩
  rw[jJ,ju]at h
  rw[z4q]
  exact x0C (ih ls' (by omega) fun l hl=>nd l (kO _ hl)) (nd l (by simp))
theorem y8j:∀ rs:List Rw,∀ x,(kdOf rs x).Nodup:=by
 intro rs
 refine z5c (P:=fun rs=>∀ x,(kdOf rs x).Nodup) (fun x => .nil) (fun rs r ih x=>?_) _ rs rfl
 rw[z2f]
 cases r with
 | draw m os=>show (if x=m then _ else _:List Int).Nodup;split;exact z5D (z5C _);exact ih x
 | lt m e=>show (if x=m then _ else _:List Int).Nodup;split;exact z5D (z5C _);exact ih x
 | seen e=>exact ih x
theorem y5l{ns:List Str}(nd:ns.Nodup){v w:List Int}(hv:v.length=ns.length)(hw:w.length=ns.length)(e:z0W v (plc ns (srt ns))=z0W w (plc ns (srt ns))):v=w:=by
 have all:∀ n∈ns,bk ns v n=bk ns w n:=fun n hn=>by
  unfold z0W plc at e
  rw[jd,jd]at e
  exact List.map_inj_left.mp e n (z3R.mpr hn)
 rw[<- z6A nd hv,<- z6A nd hw]
 exact jq all
theorem z7Z{kd:Str->List Int}{r:Rw}:∀ g∈rowsR kd r,g.1.length=(nmsR r).length:=fun g hg=>by
 cases r with
 | draw n os=>obtain⟨o,_,rfl⟩:=jU.mp hg;rfl
 | lt n e =>
  obtain⟨ch,hc,rfl⟩:=jU.mp hg
  have:=z2u _ _ rfl ch hc
  rw[jA]at this
  show (ch ++ [_]).length=(e.nms ++ [n]).length
  rw[jJ,jJ,this];rfl
 | seen e =>
  obtain⟨ch,hc,rfl⟩:=jU.mp hg
  have:=z2u _ _ rfl ch (List.mem_filter.mp hc).1
  rw[jA]at this
  exact this
theorem z7m{α β:Type}{f:α->β}{l:List α}(nd:l.Nodup)(i:∀ a∈l,∀ b∈l,f a=f b->a=b):(l.map f).Nodup:=by
 induction l with
 | nil=>exact .nil
 | cons a l ih =>
  rw[jy]at nd
  rw[jj,jy]
  refine⟨fun z=>?_,ih nd.2 fun b hb c hc=>i b (jQ _ hb) c (jQ _ hc)⟩
  obtain⟨b,hb,e⟩:=jU.mp z
  have:=i b (jQ _ hb) a (jX ..) e
  exact nd.1 (this ▸ hb)
theorem y0d{kd:Str->List Int}{r:Rw}(hf:r.fine)(hk:∀ n,(kd n).Nodup):((rowsR kd r).map (·.1)).Nodup:=by
 have hc:∀ e:Ex,(chs (e.nms.map kd)).Nodup:=fun e=>y6R _ _ rfl fun l hl=>by obtain⟨n,_,rfl⟩:=jU.mp hl;exact hk n
 cases r with
 | draw n os =>
  have nd:=(z5G hf.2.2).1
  show ((os.map fun o=>([z4C o],shr o)).map (·.1)).Nodup
  have e:(os.map fun o=>([z4C o],shr o)).map (·.1)=(os.map z4C).map fun v=>[v]:=by rw[jd,jd];rfl
  rw[e]
  exact z7m nd fun a _ b _ h=>List.singleton_inj.mp h
 | lt n e =>
  show (((chs (e.nms.map kd)).map fun ch=>(ch ++ [ev (bk e.nms ch) e],(1:Rat))).map (·.1)).Nodup
  rw[jd]
  refine z7m (hc e) fun a _ b _ h=>?_
  have:=congrArg List.dropLast (show a ++ [_]=b ++ [_] from h)
  rwa [List.dropLast_concat,List.dropLast_concat]at this
 | seen e =>
  show ((((chs (e.nms.map kd)).filter _).map fun ch=>(ch,(1:Rat))).map (·.1)).Nodup
  rw[jd]
  exact z7m ((hc e).sublist List.filter_sublist) fun a _ b _ h=>h
theorem z7e{kd:Str->List Int}{r:Rw}(hf:r.fine)(hk:∀ n,(kd n).Nodup)(nd:(nmsR r).Nodup):((rowsR kd r).map fun g=>z0W g.1 (plc (nmsR r) (srt (nmsR r)))).Nodup:=by
 have e:((rowsR kd r).map fun g=>z0W g.1 (plc (nmsR r) (srt (nmsR r))))=((rowsR kd r).map (·.1)).map fun v=>z0W v (plc (nmsR r) (srt (nmsR r))):=by rw[jd];rfl
 rw[e]
 refine z7m (y0d hf hk) fun a ha b hb h=>?_
 obtain⟨g,hg,rfl⟩:=jU.mp ha
 obtain⟨g',hg',rfl⟩:=jU.mp hb
 exact y5l nd (z7Z g hg) (z7Z g' hg') h
theorem z8P{kd:Str->List Int}{r:Rw}(hf:r.fine)(hk:∀ n,(kd n).Nodup)(nd:(nmsR r).Nodup):y8Y kd r=(rowsR kd r).map fun g=>(z0W g.1 (plc (nmsR r) (srt (nmsR r))),g.2):=y0F _ _ _ rfl (z7e hf hk nd)
theorem y2q:sz 1:=by unfold sz;exact⟨by decide,by decide⟩
theorem y5f{kd:Str->List Int}{r:Rw}(hf:r.fine):∀ g∈rowsR kd r,sz g.2:=fun g hg=>by
 cases r with
 | draw n os =>
  obtain⟨l,W,rfl,_,hp,hs,hW,l6⟩:=hf.2.2
  obtain⟨o,ho,rfl⟩:=jU.mp hg
  obtain⟨p,hpl,rfl⟩:=jU.mp ho
  have e:shr (dO W p)=Rat.divInt p.2 W:=Rat.num_divInt_den _
  show sz (shr (dO W p))
  rw[e]
  have b:=z8v (t:=p.2) (b:=W) (by omega)
  have hp2:=hp p hpl
  have sumB:∀ l:List (Int×Int),(∀ p∈l,1<=p.2/\p.2<=10 ^ 9)->(l.map Prod.snd).sum<=l.length * 10 ^ 9:=fun l=>by
   induction l with
   | nil=>intro _;exact Int.le_refl _
   | cons a l ih =>
    intro h
    have h1:=ih fun p hp=>h p (jQ _ hp)
    have h2:=h a (jX ..)
    rw[jj,List.sum_cons,jp]
    omega
  have hB:=sumB l hp
  rw[hs]at hB
  have hW2:W<=10 ^ 10:=by omega
  have a1:p.2.natAbs<=10 ^ 12:=by omega
  have a2:W.natAbs<=10 ^ 12:=by omega
  unfold sz
  have big:(10 ^ 12:Nat) < 2 ^ 2000:=by decide
  exact⟨jx (jc b.1 a1) big,jx (jc b.2 a2) big⟩
 | lt n e=>obtain⟨ch,_,rfl⟩:=jU.mp hg;exact y2q
 | seen e=>obtain⟨ch,_,rfl⟩:=jU.mp hg;exact y2q
theorem y1N{kd kd':Str->List Int}{ns:List Str}(h:∀ n∈ns,kd n=kd' n):cntK kd ns=cntK kd' ns:=by
 unfold cntK
 rw[jq fun n hn=>by rw[h n hn]]
theorem y8d{rs:List Rw}(wf:wfs rs)(gnd:(givs rs).Nodup){i:Nat}{r:Rw}(e:rs[i]? = some r):(nmsR r).Nodup:=by
 have hi:=(jE.mp e).1
 have nme:∀ e:Ex,e.nms.Nodup:=fun e=>(z2S (p:=fun _=>True) e ((z0O e).mpr fun _ _=>trivial)).1
 cases r with
 | draw n os=>exact z9j _
 | seen ex=>exact nme ex
 | lt n ex =>
  show (ex.nms ++ [n]).Nodup
  refine j4.mpr ⟨nme ex,z9j _,fun a ha b hb z=>?_⟩
  rw[jP.mp hb]at z
  rw[z]at ha
  have hg:n∈givs (rs.take i):=wf i _ e n ha
  have sp:givs rs=givs (rs.take i) ++ givs (rs.drop i):=by
   conv=>lhs;rw[<- List.take_append_drop i rs]
   unfold givs;rw[List.flatMap_append]
  rw[sp,j4]at gnd
  refine gnd.2.2 n hg n ?_ rfl
  refine List.mem_flatMap.mpr ⟨.lt n ex,?_,jP.mpr rfl⟩
  have:(rs.drop i)[0]? = some (.lt n ex):=by rw[List.getElem?_drop];exact e
  exact jf this
theorem y9k{rs:List Rw}(fine:∀ r∈rs,r.fine)(wf:wfs rs)(few:Few rs)(gnd:(givs rs).Nodup):∀ r∈rs,TOk (kdOf rs) r:=fun r hr=>by
 obtain⟨i,hi,e⟩:=kP.mp hr
 have ei:rs[i]? = some r:=by rw[jB hi,e]
 have nd:=y8d wf gnd ei
 have hf:=fine r hr
 have s1:=y5f (kd:=kdOf rs) hf
 refine⟨?_,nd,s1,fun k g hg=>?_⟩
 · have c:=few.cnt i r ei
   unfold cntR at c
   rw[y1N fun n hn=>y3K _ rs rfl gnd i n (wf i r ei n hn)]
   exact c
 · have pn:=z7e hf (y8j rs) nd
   rw[y0F _ _ _ rfl (by rw[List.map_take];exact pn.sublist (List.take_sublist _ _))]at hg
   obtain⟨g',hg',rfl⟩:=jU.mp hg
   exact s1 g' (kD hg')
def RowQ(K:PySem.W.Frag)(H:Hp)(g:List Int×Rat)(x:V):Prop:=∃ v,z3J H x (g.1,v)/\IsD K H (dF g.2) v
theorem y2T{H:Hp}:∀ {gs:List (List Int×Rat)}{zs:List V},Paired (RowQ K H) gs zs->∃ ks:List (List Int×V),Acc K H gs ks/\zs.length=ks.length/\∀ (i:Nat) (x:V) (kv:List Int×V),zs[i]? = some x->ks[i]? = some kv->z3J H x kv
 | _,_,.nil=>⟨[],.nil,rfl,fun i x kv h=>by simp at h⟩
 | _,_,.cons (a:=g) ⟨v,h1,h2⟩ t=>by
  obtain⟨ks,h3,h4,h5⟩:=y2T t
  refine⟨(g.1,v) :: ks,.cons ⟨rfl,h2⟩ h3,by rw[jp,jp,h4],fun i x kv e1 e2=>?_⟩
  cases i with
  | zero=>cases e1;cases e2;exact h1
  | succ i=>exact h5 i x kv (by simpa using e1) (by simpa using e2)
theorem z7U{H:Hp}{a:Addr}{zs:List V}{gs:List (List Int×Rat)}{Q:VK}(qa:SqL K H a zs)(pr:Paired (RowQ K H) gs zs)(nd:(gs.map (·.1)).Nodup)(l64:gs.length < 64)
 (q:∀ (l:Addr) (qs:List (List Int×Rat)) (H':Hp),Same H H'->H l=none->qs.Perm gs->qs.Pairwise (fun p q=>HT.lexLt p.1 q.1=true)->IsD K H' (.lst (qs.map z3H)) (.ref l)->Q (.ref l) H') :
 ∃ (a':Addr) (xs:List V) (ks:List (List Int×V)),[V.ref a]=[.ref a']/\SqL K H a' xs/\xs.length=ks.length/\ks.length < 64/\(∀ (i:Nat) (x:V) (kv:List Int×V),xs[i]? = some x->ks[i]? = some kv->z3J H x kv)/\(ks.map (·.1)).Nodup /\
  ∀ (l:Addr) (qs:List (List Int×V)) (ys:List V),qs.Perm ks->qs.Pairwise (fun p q=>HT.lexLt p.1 q.1=true)->H l=none->ys.length=qs.length->(∀ (i:Nat) (x:V) (kv:List Int×V),ys[i]? = some x->qs[i]? = some kv->z3J H x kv)->Q (.ref l) (upd H l (.lst ys)):=by
 obtain⟨ks,ac,ln,pa⟩:=y2T pr
 have kl:=ac.length
 have hk0:gs.map (·.1)=ks.map (·.1):=z7d (G:=fun r v=>IsD K H (dF r) v) ac
 refine⟨a,zs,ks,rfl,qa,ln,by omega,pa,by rw[<- hk0];exact nd,fun l qs ys pm pw nl yl pr2=>?_⟩
 obtain⟨acc',h1,h2⟩:=y3i pm ac
 have hk:acc'.map (·.1)=qs.map (·.1):=z7d (G:=fun r v=>IsD K H (dF r) v) h2
 have al:=h2.length
 have s2:=z0e nl (.lst ys)
 refine q l acc' _ s2 nl h1 ?_ ⟨l,ys,rfl,.of z0c,z9q (by rw[jA];omega) fun i x d' e1 e3=>?_⟩
 · have:(qs.map (·.1)).Pairwise fun a b=>HT.lexLt a b=true:=j5.mpr pw
   rw[<- hk]at this
   exact j5.mp this
 · rw[jC]at e3
   cases ea:acc'[i]? with
   | none=>rw[ea]at e3;cases e3
   | some kr =>
    rw[ea]at e3
    cases e3
    obtain⟨kv,e4,e5,e6⟩:=z8d h2 ea
    obtain⟨pp,b,rfl,e7,e8⟩:=pr2 i x kv e1 e4
    exact⟨pp,_,rfl,.of (s2 _ _ e7),_,_,rfl,⟨b,_,rfl,.of (s2 _ _ e8),by rw[<- e5];exact z5O _⟩,_,_,rfl,e6.same s2,rfl⟩
theorem RowQ.same{H H':Hp}{g:List Int×Rat}{x:V}(h:RowQ K H g x)(s:Same H H'):RowQ K H' g x:=by
 obtain⟨v,⟨p,b,e,h1,h2⟩,h3⟩:=h
 exact⟨v,⟨p,b,e,s _ _ h1,s _ _ h2⟩,h3.same s⟩
theorem RowQ.lst{H:Hp}{g:List Int×Rat}{x:V}{l:Addr}{xs ys:List V}(e:H l=some (.lst xs))(h:RowQ K H g x):RowQ K (upd H l (.lst ys)) g x:=by
 obtain⟨v,⟨p,b,ex,h1,h2⟩,h3⟩:=h
 refine⟨v,⟨p,b,ex,?_,?_⟩,IsD.updL e rfl h3⟩
 · rw[z0n (fun z:p=l=>by rw[z,e]at h1;cases h1)];exact h1
 · rw[z0n (fun z:b=l=>by rw[z,e]at h2;cases h2)];exact h2
theorem y4Z{H:Hp}{d p:Addr}{ks:List (Key×V)}{o:HO}{xs:List V}(e:H d=some (.dK ks))(h:SqT K H p xs):SqT K (upd H d o) p xs:=by
 rcases h with (h | ⟨u,h⟩) | h
 · exact .inl (.inl (by rw[z0n fun z=>by rw[z,e]at h;cases h];exact h))
 · exact .inl (.inr ⟨u,by rw[z0n fun z=>by rw[z,e]at h;cases h];exact h⟩)
 · exact .inr h
theorem y8H{H:Hp}{d:Addr}{ks:List (Key×V)}{o:HO}(e:H d=some (.dK ks))(r:Rat)(v:V)(h:IsD K H (dF r) v):IsD K (upd H d o) (dF r) v:=by
 obtain⟨p,rfl,q⟩:=z4B h
 exact⟨p,_,rfl,y4Z e q,_,_,rfl,rfl,_,_,rfl,rfl,rfl⟩
theorem RowQ.dct{H:Hp}{g:List Int×Rat}{x:V}{d:Addr}{ks:List (Key×V)}{o:HO}(e:H d=some (.dK ks))(h:RowQ K H g x):RowQ K (upd H d o) g x:=by
 obtain⟨v,⟨p,b,ex,h1,h2⟩,h3⟩:=h
 refine⟨v,⟨p,b,ex,?_,?_⟩,y8H e _ _ h3⟩
 · rw[z0n (fun z:p=d=>by rw[z,e]at h1;cases h1)];exact h1
 · rw[z0n (fun z:b=d=>by rw[z,e]at h2;cases h2)];exact h2
def rwO(own:Str)(e:Ex):Rw:=if own = "" then .seen e else .lt own e
def y2C(K:PySem.W.Frag):Sp:=fun vs H Q _=>∃ (nl kA:Addr) (own:Str) (e:Ex) (x:V) (ks:List Str) (ad:Str->Addr) (kd:Str->List Int),vs=[.ref nl,.str own,x,.ref kA]/\H nl=some (.lst (e.nms.map V.str))/\y8C e/\IsD K H (dE e) x/\BookN H kA ks ad kd/\(∀ n∈e.nms,n∈ks)/\(∀ n∈e.nms,kd n≠[])/\(∀ n,(kd n).length<=40)/\(∀ n,(kd n).Nodup)/\cntK kd e.nms<=40/\(nmsR (rwO own e)).Nodup /\
 ∀ (p tn tl:Addr) (qs:List (List Int×Rat)) (H':Hp),Same H H'->H' p=some (.tup [.ref tn,.ref tl])->H' tn=some (.tup ((srt (nmsR (rwO own e))).map V.str))->qs.Perm (y8Y kd (rwO own e))->qs.Pairwise (fun p q=>HT.lexLt p.1 q.1=true)->IsD K H' (.lst (qs.map z3H)) (.ref tl)->Q (.ref p) H'
theorem y9e{ns:List Str}(nd:ns.Nodup){c c':List Int}(h:c.length=ns.length)(h':c'.length=ns.length)(e:zK ns c=zK ns c'):c=c':=by
 rw[<- z6A nd h,<- z6A nd h']
 refine jq fun n hn=>?_
 have:=congrArg (fun l=>z4V l (.inr n)) e
 simp only[z5q nd h,z5q nd h',if_pos hn]at this
 injection this with this;injection this
def wO(own:Str)(e:Ex)(c:List Int):List Int:=if own = "" then c else c ++ [ev (bk e.nms c) e]
def okO(own:Str)(e:Ex)(c:List Int):Bool:=decide (own ≠ "" \/ ev (bk e.nms c) e≠0)
theorem x0R(own:Str)(e:Ex)(kd:Str->List Int):rowsR kd (rwO own e)=((chs (e.nms.map kd)).filter (okO own e)).map fun c=>(wO own e c,1):=by
 unfold rwO wO
 by_cases z:own = ""
 · rw[if_pos z]
   have:okO own e=fun ch=>decide (ev (bk e.nms ch) e≠0):=funext fun ch=>by unfold okO;simp[z]
   rw[this]
   show ((chs (e.nms.map kd)).filter _).map _=_
   refine jq fun c _=>?_
   rw[if_pos z]
 · rw[if_neg z]
   have:okO own e=fun ch=>true:=funext fun ch=>by unfold okO;simp[z]
   rw[this,List.filter_eq_self.mpr fun _ _=>rfl]
   show (chs (e.nms.map kd)).map _=_
   refine jq fun c _=>?_
   rw[if_neg z]
theorem y9f{own:Str}{e:Ex}{c:List Int}(h:c.length=e.nms.length):(wO own e c).length=(nmsR (rwO own e)).length:=by
 unfold wO rwO
 by_cases z:own = ""
 · rw[if_pos z,if_pos z];exact h
 · rw[if_neg z,if_neg z];show _=(e.nms ++ [own]).length;rw[jJ,jJ,h];rfl
theorem x0r{c:TT}{t u:TS}{D:Ends}{σ:St}{H:Hp}(bb:Bool)(hc:∀ Q:Bool->Hp->Prop,Q bb H->c σ H Q)(h:if bb=true then t D σ H else u D σ H):y7m c t u D σ H:=hc _ h
theorem y8M{ix:List Nat}{wi:TI}{te tb:TE}{r:List V->Hp->VK->Prop}{σ:St}{H:Hp}{Q:List V->Hp->Prop}(h:wi σ H (z1m ix te σ fun x H1=>r [x] H1 fun v H2=>tb σ H2 fun u H3=>[v,u].length<=sizeLine/\∀ p,H3 p=none->Q [.ref p] (upd H3 p (.tup [v,u])))):z1J (y7j (z1J (tCB r (z1J (z3Z ix wi z6G te) z6F)) (z1J tb z6F))) z6F σ H Q:=h
theorem y7X(B:Bl mg)(z2H:Def P w K mg base "_law_books" 1 ["_law_names", "_law_kinds_by"] (z6M K))(z1I:Def P w K mg base "_law_worth" 12 ["_law_e", "_law_book"] (z6N K 10))
 (F:Fn K mg "_law_table" z4c ["_law_names", "_law_own", "_law_e", "_law_kinds_by"]):Def P w K mg base "_law_table" 13 ["_law_names", "_law_own", "_law_e", "_law_kinds_by"] (y2C K):=by
 refine F.ok z1P (fun vs H Q E h=>?_) (fun f cdv A outer s H vs Q E hr h=>?_)
 · obtain⟨nl,kA,own,e,x,ks,ad,kd,rfl,_⟩:=h;rfl
 obtain⟨nl,kA,own,e,x,ks,ad,kd,rfl,enl,xo,dx,bk0,sub,kne,len,knd,c40,nnd,q⟩:=h
 have big:(100000:Nat) < sizeLine:=by decide
 refine⟨_,(@z0b _ _ _ _ _ (@z2s _ 4 _ _ _ _ _ z1P.nd rfl (by first | exact Or.inl rfl | exact Or.inr rfl) (@z3Q _ _) rfl (by first | exact .inl rfl | exact .inr rfl))
  (@z0b _ _ _ _ _ (z1q PassesOwn.never rfl (z0C (z0r z2H hr rfl (@z0h _ _ _ _ _ (pv 0) (@z0h _ _ _ _ _ (pv 3) z0f rfl) rfl))) (z0E (i:=5) z1P.nd rfl (by first | exact Or.inl rfl | exact Or.inr rfl)) (@z0b _ _ _ _ _ (z0t (i:=7) z1P.nd rfl (by first | exact Or.inl rfl | exact Or.inr rfl) (z0r z1I hr rfl (@z0h _ _ _ _ _ (pv 2) (@z0h _ _ _ _ _ (pv 5) z0f rfl) rfl)))
  (@z0b _ _ _ _ _ (z0B (z0j (z1r.or (z1v.or (z1x.or (z1w K rfl hr.units)))) (pv 1) z0l (z0k _)) (@z0g _ _ _ (z2a (z1l hr) (pv 5) (pv 1) (pv 7) rfl)) z0m)
  (@z0g _ _ _ (z0B (PW.pt (z4x (z0j (z1r.or (z1v.or (z1x.or (z1w K rfl hr.units)))) (pv 1) z0l (z0k _)) (z3I (z0j (z1r.or (z1v.or (z1x.or (z1w K rfl hr.units)))) (pv 7) z0d (z0k _))))) (@z0g _ _ _ (z3b (z7g PySem.F.plainAttrs_list PySem.F.slot_list_append PySem.F.type_list_append z1z (pv 4) (@z0h _ _ _ _ _ (@z2b _ _ _ _ _ _ _ (z0K (z2Q K rfl) rfl B.tuple PyProof.Rows.boot_tuple (@z0h _ _ _ _ _ (z1u (CompOk.of (x := "_law_name_here") (M:=["_law_book"]) (ix:=[5]) rfl rfl (by decide +kernel) (by decide +kernel) rfl ⟨rfl,trivial⟩ (by rfl) ⟨⟨rfl,rfl,rfl,rfl⟩,trivial⟩) rfl (by decide +kernel) (z0C (z0u ((z1G K rfl).or (z1H K rfl (z6v hr))) rfl B.sorted PyProof.Rows.boot_sorted (@z0h _ _ _ _ _ (z0K (y1O rfl) rfl B.list PyProof.Rows.boot_list (@z0h _ _ _ _ _ (pv 5) z0f rfl)) z0f rfl))) (fun _ _ _ _ _=>z0V) (fun _ _ _ _ _=>(z0T (z1l hr) (pv 1) (pv 0) (fun _ _=>rfl)))) z0f rfl)) (@z2b _ _ _ _ _ _ _ z0d z0d rfl rfl) rfl rfl) z0f rfl)))) z0m)))))
  (@z0b _ _ _ _ _ (z0t (i:=6) z1P.nd rfl (by first | exact Or.inl rfl | exact Or.inr rfl) (z0u ((z1G K rfl).or (z1H K rfl (z6v hr))) rfl B.sorted PyProof.Rows.boot_sorted (@z0h _ _ _ _ _ (z0p (z0R.or (z0q.or (z0Q.or (z0y K rfl)))) (pv 0) (@z4A _ _ _ _ (pv 1) rfl)) z0f rfl)))
  (@z0b _ _ _ _ _ (z0B (z0j (z0x.or (z0z.or (z0A.or (z0w K rfl hr.units)))) (pv 1) z0l (z0k _)) (@z0g _ _ _ (z0t (i:=6) z1P.nd rfl (by first | exact Or.inl rfl | exact Or.inr rfl) (z0u ((z1G K rfl).or (z1H K rfl (z6v hr))) rfl B.sorted PyProof.Rows.boot_sorted (@z0h _ _ _ _ _ (pv 0) z0f rfl)))) z0m)
  (@z0g _ _ _ (z0o (@z2b _ _ _ _ _ _ _ (z0K (z2Q K rfl) rfl B.tuple PyProof.Rows.boot_tuple (@z0h _ _ _ _ _ (pv 6) z0f rfl)) (z0u ((z1G K rfl).or (z1H K rfl (z6v hr))) rfl B.sorted PyProof.Rows.boot_sorted (@z0h _ _ _ _ _ (pv 4) z0f rfl)) rfl rfl))))))),?_⟩
 refine⟨jR _,fun ra nra=>?_⟩
 have s1:=z0e nra (.lst [])
 have nl12:=z3f xo
 refine⟨_,rfl,_,rfl,nl,kA,e.nms,ks,ad,kd,rfl,.of (s1 _ _ enl),z4T e,nl12,bk0.same s1,sub,kne,len,by omega,fun bl ys H2 s2 nbl ebl pr=>⟨bl,rfl,⟨_,.of ebl⟩,?_⟩⟩
 have cl:(chs (e.nms.map kd)).length<=40:=by rw[z3l,jd];exact c40
 have call:=z2u _ (e.nms.map kd) rfl
 rw[jA]at call
 have cnd:=y6R _ (e.nms.map kd) rfl fun l hl=>by obtain⟨n,_,rfl⟩:=jU.mp hl;exact knd n
 have era2:=s2 _ _ (show (upd H ra (.lst [])) ra=_ from z0c)
 have yl:=pr.length
 have nbr:bl≠ra:=fun z=>by rw[z,z0c]at nbl;cases nbl
 have rO:=x0R own e kd
 have nmE:own = "" /\ nmsR (rwO own e)=e.nms\/own ≠ "" /\ nmsR (rwO own e)=e.nms ++ [own]:=by
  unfold rwO
  by_cases z:own = ""
  · rw[if_pos z];exact .inl ⟨z,rfl⟩
  · rw[if_neg z];exact .inr ⟨z,rfl⟩
 have N13:(nmsR (rwO own e)).length<=13:=by
  rcases nmE with ⟨_,z⟩ | ⟨_,z⟩ <;> rw[z]
  · omega
  · rw[jJ];show _ + 1<=13;omega
 have tb:=z8P (kd:=kd) (r:=rwO own e) (by unfold rwO;split <;> exact xo) knd nnd
 have pnd:=z7e (kd:=kd) (r:=rwO own e) (by unfold rwO;split <;> exact xo) knd nnd
 rw[rO]at tb pnd
 have wl:∀ c∈chs (e.nms.map kd),(wO own e c).length=(nmsR (rwO own e)).length:=fun c hc=>y9f (call c hc)
 have nO:own∉e.nms\/own = "" := by
  rcases nmE with ⟨z,_⟩ | ⟨_,z⟩
  · exact .inr z
  · rw[z,j4]at nnd
    exact .inl fun h=>nnd.2.2 own h own (jP.mpr rfl) rfl
 generalize chs (e.nms.map kd)=cs at *
 generalize eN:nmsR (rwO own e)=N at *
 refine z1c (K:=K) (xs:=ys) (fun i σ H'=>∃ (zs:List V) (c5 c7:Option V),σ=[some (.ref nl),some (.str own),some x,some (.ref kA),some (.ref ra),c5,none,c7]/\Same H H'/\H' bl=some (.lst ys)/\H' ra=some (.lst zs)/\(∀ j,i<=j->∀ c y,cs[j]? = some c->ys[j]? = some y->BkQ (upd H ra (.lst [])) H' e.nms c y)/\Paired (RowQ K H') (((cs.take i).filter (okO own e)).map fun c=>(z0W (wO own e c) (plc N (srt N)),1)) zs)
  ⟨[],none,none,rfl,s1.trans s2,ebl,era2,fun j _ c y e1 e2=>by obtain⟨c',e3,h⟩:=z8e pr e2;rw[e1]at e3;cases e3;exact h,.nil⟩ (fun i σ H' _ ⟨_,_,_,_,_,h,_⟩ => .of h) ?_ ?_
 · rintro i y σ H3 hy ⟨zs,c5,c7,rfl,s3,ebl3,era3,oth,prz⟩
   obtain⟨c,ec,_⟩:=z8e pr hy
   obtain⟨b,rfl,nb,eb⟩:=oth i (jF _) c y ec hy
   have cL:=call c (jf ec)
   refine⟨_,rfl,_,rfl,e,x,b,_,bk e.nms c,rfl,xo.1,(z0O _).mpr fun n hn=>?_,xo.2.1,dx.same s3,eb,fun H4 s4=>?_⟩
   · rw[z5q (z4T e) cL,if_pos ((z2t _).mpr hn)]
   dsimp only[z1g,List.set]
   refine z5w (fun σ' H'=>σ'=[some (.ref nl),some (.str own),some x,some (.ref kA),some (.ref ra),some (.ref b),none,some (.int (ev (bk e.nms c) e))]/\Same H H'/\H' bl=some (.lst ys)/\H' ra=some (.lst zs)/\H' b=some (.dK (zK N (wO own e c)))/\(∀ j,i + 1<=j->∀ c y,cs[j]? = some c->ys[j]? = some y->BkQ (upd H ra (.lst [])) H' e.nms c y)/\Paired (RowQ K H') (((cs.take i).filter (okO own e)).map fun c=>(z0W (wO own e c) (plc N (srt N)),1)) zs) (fun R hR=>?_) (fun σ' H5 h=>?_)
   · have nbH:H b=none:=s1.free nb
     have s34:=s3.trans s4
     have eb4:=s4 _ _ eb
     have era4:=s4 _ _ era3
     have ebl4:=s4 _ _ ebl3
     have oth4:∀ j,i + 1<=j->∀ c y,cs[j]? = some c->ys[j]? = some y->BkQ (upd H ra (.lst [])) H4 e.nms c y:=fun j hj c y e1 e2=>(oth j (by omega) c y e1 e2).same s4
     have pr4:=z4S (fun a y h=>RowQ.same h s4) prz
     refine⟨_,rfl,.inr (.inl ⟨_,_,rfl,rfl,_,rfl,?_⟩)⟩
     refine z3T (fun h=>?_) (fun h=>?_)
     · have hN:N=e.nms ++ [own]:=by
        rcases nmE with ⟨z,_⟩ | ⟨_,z⟩
        · exact absurd z h
        · exact z
       have hw:wO own e c=c ++ [ev (bk e.nms c) e]:=if_neg h
       have nin:own∉e.nms:=nO.resolve_right h
       have vn:z4V (zK e.nms c) (Sum.inr own)=none:=by rw[z5q (z4T e) cL,if_neg nin]
       have zlen:(zK e.nms c).length < sizeLine:=by have:=y6n e.nms c;omega
       refine⟨_,rfl,_,rfl,_,rfl,b,_,rfl,.inl ⟨_,Sum.inr own,eb4,rfl,zlen,rfl⟩,?_⟩
       rw[y0i _ vn,<- y2j cL]
       refine hR _ _ ⟨rfl,z0G nbH s34,?_,?_,?_,fun j hj c' y e1 e2=>?_,z4S (fun a y h=>RowQ.dct eb4 h) pr4⟩
       · rw[z0n fun z=>by rw[z,eb4]at ebl4;cases ebl4];exact ebl4
       · rw[z0n fun z=>by rw[z,eb4]at era4;cases era4];exact era4
       · rw[z0c,hN,hw]
       · obtain⟨b',rfl,n',e'⟩:=oth4 j hj c' y e1 e2
         refine⟨b',rfl,n',?_⟩
         rw[z0n fun z=>?_]
         · exact e'
         · rw[z,eb4]at e'
           have:=y9e (z4T e) cL (call c' (jf e1)) (HO.dK.inj (Option.some.inj e'))
           rw[<- this]at e1
           have hi:=(jE.mp ec).1
           have:=(List.getElem?_inj hi cnd).mp (ec.trans e1.symm)
           omega
     · have hN:N=e.nms:=by
        rcases nmE with ⟨_,z⟩ | ⟨z,_⟩
        · exact z
        · exact absurd h z
       have hw:wO own e c=c:=if_pos h
       exact hR _ _ ⟨rfl,s34,ebl4,era4,by rw[hN,hw];exact eb4,oth4,pr4⟩
   · obtain⟨rfl,s5,ebl5,era5,eb5,oth5,pr5⟩:=h
     have tk:cs.take (i + 1)=cs.take i ++ [c]:=by rw[List.take_succ,ec];rfl
     have wL:=wl c (jf ec)
     refine x0r (okO own e c) (fun Q hQ=>?_) ?_
     · refine⟨_,rfl,.inr (.inl ⟨_,_,rfl,rfl,_,rfl,z3T (fun h=>?_) (fun h=>?_)⟩)⟩
       · have:okO own e c=true:=decide_eq_true (.inl h)
         rw[this]at hQ;exact hQ
       · refine⟨_,rfl,.inl ⟨_,_,rfl,rfl,_,rfl,?_⟩⟩
         have e1:okO own e c=(!decide (ev (bk e.nms c) e=0)):=by unfold okO;simp[h]
         rw[e1]at hQ
         exact hQ
     · by_cases hok:okO own e c=true
       · rw[if_pos hok]
         refine⟨_,rfl,.inl ⟨rfl,_,.of era5⟩,?_⟩
         refine y8M ⟨_,rfl,b,_,N,rfl,eb5,?_,fun l1 n1 => .inl ⟨l1,N,rfl,.of z0c,by omega,fun l2 ss n2 pm so=>⟨l2,rfl,⟨_,.of z0c⟩,?_⟩⟩⟩
         · rw[y9d nnd wL];unfold kM;rw[jd];rfl
         obtain rfl:ss=srt N:=z9S (z3z so (pm.nodup_iff.mpr nnd)) fun k=>pm.mem_iff
         have sl:=pm.length_eq
         have t1:=z0e n1 (.lst (N.map V.str))
         have t2:=z0e n2 (.lst ((srt N).map V.str))
         refine z8x (K:=K) (xs:=(srt N).map V.str) (((srt N).map (bk N (wO own e c))).map D.int) (.of z0c) (by simp) (by rw[jA];omega) (z1N _) (fun k v d H6 R hx hd sm hRR=>?_) (fun l3 H6 sm dl=>?_)
         · rw[jC]at hx
           rw[jC,jC]at hd
           cases en:(srt N)[k]? with
           | none=>rw[en]at hx;cases hx
           | some n =>
            rw[en]at hx hd
            cases hx;cases hd
            have hn:n∈N:=z3R.mp (jf en)
            refine⟨_,rfl,_,rfl,b,_,rfl,.inl ⟨_,Sum.inr n,.inl (sm _ _ (t2 _ _ (t1 _ _ eb5))),rfl,by rw[z5q nnd wL,if_pos hn]⟩,hRR _ _ (Same.refl _) rfl⟩
         · obtain⟨l',ks',e',ql,dd⟩:=dl
           cases e'
           rw[z0S dd]at ql
           refine⟨l3,_,rfl,.inl ⟨ql,fun t nt=>⟨(by show 2<=sizeLine;decide),fun p np=>⟨(by show 2<=sizeLine;decide),fun p2 np2=>?_⟩⟩⟩⟩
           have t3:=z0e nt (.tup (((srt N).map (bk N (wO own e c))).map V.int))
           have t4:=z0e np (.tup [V.int 1,.int 1])
           have t5:=z0e np2 (.tup [V.ref t,.ref p])
           have et:=t5 _ _ (t4 _ _ (show (upd H6 t (.tup (((srt N).map (bk N (wO own e c))).map V.int))) t=_ from z0c))
           have ep:=t5 _ _ (show (upd (upd H6 t (.tup (((srt N).map (bk N (wO own e c))).map V.int))) p (.tup [V.int 1,.int 1])) p=_ from z0c)
           have s57:=t1.trans (t2.trans (sm.trans (t3.trans (t4.trans t5))))
           have e2:(upd (upd (upd H6 t (.tup (((srt N).map (bk N (wO own e c))).map V.int))) p (.tup [V.int 1,.int 1])) p2 (.tup [V.ref t,.ref p])) p2=some (.tup [V.ref t,.ref p]):=z0c
           generalize upd (upd (upd H6 t (.tup (((srt N).map (bk N (wO own e c))).map V.int))) p (.tup [V.int 1,.int 1])) p2 (.tup [V.ref t,.ref p])=H7 at s57 et ep e2 ⊢
           have zl:=pr5.length
           rw[jA]at zl
           have fl:=List.length_filter_le (okO own e) (cs.take i)
           rw[jg]at fl
           have era7:=s57 _ _ era5
           refine⟨ra,zs,.ref p2,rfl,rfl,era7,by omega,?_⟩
           refine⟨_,_,_,rfl,z0G nra (s5.trans s57),?_,z0c,fun j hj c y e1 e2=>BkQ.lst era7 ((oth5 j hj c y e1 e2).same s57),?_⟩
           · rw[z0n nbr];exact s57 _ _ ebl5
           · rw[tk,List.filter_append,List.filter_cons,if_pos hok,List.filter_nil,je]
             have ek:z0W (wO own e c) (plc N (srt N))=(srt N).map (bk N (wO own e c)):=by unfold z0W plc;rw[jd];rfl
             have d1:IsD K H7 (dF 1) (.ref p):=by rw[x0B];exact⟨p,_,rfl,.of ep,_,_,rfl,rfl,_,_,rfl,rfl,rfl⟩
             have rq:RowQ K H7 (z0W (wO own e c) (plc N (srt N)),1) (.ref p2):=⟨.ref p,⟨p2,t,rfl,e2,by rw[ek];exact et⟩,d1⟩
             exact z5h (RowQ.lst era7 rq) (z4S (fun a y h=>RowQ.lst era7 (h.same s57)) pr5)
       · rw[if_neg hok]
         refine⟨zs,_,_,rfl,s5,ebl5,era5,oth5,?_⟩
         rw[tk,List.filter_append,List.filter_cons,if_neg hok,List.filter_nil,List.append_nil]
         exact pr5
 · rintro σ H3 ⟨zs,c5,c7,rfl,s3,ebl3,era3,_,prz⟩
   rw[<- yl,jh]at prz
   have zl:=prz.length
   rw[jA]at zl
   have fl:=List.length_filter_le (okO own e) cs
   have enl3:=s3 _ _ enl
   refine⟨_,rfl,_,rfl,(by show 1<=sizeLine;decide),fun p1 np1 => .inr (.inr (.inl ⟨nl,p1,_,_,rfl,rfl,(z0e np1 _) _ _ enl3,z0c,(by rw[jA];show _ + 1<=sizeLine;omega),fun p2 np2 => .inl ⟨p2,e.nms ++ [own],rfl,?_,(by rw[jJ];show _ + 1 < 64;omega),fun p3 ss np3 pm so=>?_⟩⟩))⟩
   · refine .of ?_
     rw[z0c,je];rfl
   have t1:=z0e np1 (.lst [V.str own])
   have t2:=z0e np2 (.lst (e.nms.map V.str ++ [V.str own]))
   have t3:=z0e np3 (.lst (ss.map V.str))
   have t13:=t1.trans (t2.trans t3)
   have ess:(upd (upd (upd H3 p1 (.lst [V.str own])) p2 (.lst (e.nms.map V.str ++ [V.str own]))) p3 (.lst (ss.map V.str))) p3=some (.lst (ss.map V.str)):=z0c
   generalize upd (upd (upd H3 p1 (.lst [V.str own])) p2 (.lst (e.nms.map V.str ++ [V.str own]))) p3 (.lst (ss.map V.str))=H4 at t13 ess ⊢
   dsimp only[z1g,List.set]
   refine z5w (fun σ' H'=>∃ pp:Addr,σ'=[some (.ref nl),some (.str own),some x,some (.ref kA),some (.ref ra),c5,some (.ref pp),c7]/\Same H4 H'/\H' pp=some (.lst ((srt N).map V.str))) (fun R hR=>?_) (fun σ' H5 h=>?_)
   · refine⟨_,rfl,.inr (.inl ⟨_,_,rfl,rfl,_,rfl,z1C (fun h=>?_) (fun h=>?_)⟩)⟩
     · have hN:N=e.nms:=by
        rcases nmE with ⟨_,z⟩ | ⟨z,_⟩
        · exact z
        · exact absurd h z
       refine⟨_,rfl,.inl ⟨nl,e.nms,rfl,.of (t13 _ _ enl3),by omega,fun p4 ss2 np4 pm2 so2=>?_⟩⟩
       obtain rfl:ss2=srt N:=z9S (z3z so2 (pm2.nodup_iff.mpr (z4T e))) fun k=>by rw[hN];exact pm2.mem_iff
       exact hR _ _ ⟨p4,rfl,z0e np4 _,z0c⟩
     · have hN:N=e.nms ++ [own]:=by
        rcases nmE with ⟨z,_⟩ | ⟨_,z⟩
        · exact absurd z h
        · exact z
       rw[<- hN]at pm
       obtain rfl:ss=srt N:=z9S (z3z so (pm.nodup_iff.mpr nnd)) fun k=>pm.mem_iff
       exact hR _ _ ⟨p3,rfl,Same.refl _,ess⟩
   · obtain⟨pp,rfl,s5,epp⟩:=h
     have s35:=t13.trans s5
     refine⟨_,rfl,pp,_,rfl,.inl ⟨.of epp,fun tn ntn=>⟨_,rfl,.inr ?_⟩⟩⟩
     have t5:=z0e ntn (.tup ((srt N).map V.str))
     have prS:=z4S (fun a y h=>RowQ.same h (s35.trans t5)) prz
     obtain⟨a',xs',ks',g1,g2,g3,g4,g5,g6,g7⟩:=z7U (Q:=fun v H'=>∃ (l:Addr) (qs:List (List Int×Rat)),v = .ref l/\Same (upd H5 tn (.tup ((srt N).map V.str))) H'/\qs.Perm ((cs.filter (okO own e)).map fun c=>(z0W (wO own e c) (plc N (srt N)),1))/\qs.Pairwise (fun p q=>HT.lexLt p.1 q.1=true)/\IsD K H' (.lst (qs.map z3H)) (.ref l)) (.of (t5 _ _ (s35 _ _ era3))) prS (by rw[jd]at pnd ⊢;exact pnd) (by rw[jA];omega) (fun tl qs H6 s6 ntl pmq pwq dq=>⟨tl,qs,rfl,s6,pmq,pwq,dq⟩)
     refine⟨a',xs',ks',g1,g2,g3,g4,g5,g6,fun l0 qs0 ys0 k1 k2 k3 k4 k5=>⟨(by show 2<=sizeLine;decide),fun p np=>?_⟩⟩
     obtain⟨tl,qs,e1,s6,pmq,pwq,dq⟩:=g7 l0 qs0 ys0 k1 k2 k3 k4 k5
     cases e1
     have t6:=z0e np (.tup [V.ref tn,.ref l0])
     refine q p tn l0 qs _ (s3.trans (s35.trans (t5.trans (s6.trans t6)))) z0c ((s6.trans t6) _ _ z0c) ?_ pwq (dq.same t6)
     rw[tb,jd];exact pmq
def y6u(K:PySem.W.Frag):Sp:=fun vs H Q _=>∃ (kA:Addr) (r:Rw) (x:V) (ks:List Str) (ad:Str->Addr) (kd:Str->List Int),vs=[x,.ref kA]/\IsD K H (dR r) x/\r.fine/\BookN H kA ks ad kd/\(∀ n∈r.reads,n∈ks)/\(∀ n∈r.reads,kd n≠[])/\(∀ n,(kd n).length<=40)/\(∀ n,(kd n).Nodup)/\cntK kd r.reads<=40/\(nmsR r).Nodup/\(∀ n∈r.giv,n ≠ "") /\
 ∀ (p tn tl:Addr) (qs:List (List Int×Rat)) (H':Hp),Same H H'->SqT K H' p [.ref tn,.ref tl]->SqT K H' tn ((srt (nmsR r)).map V.str)->qs.Perm (y8Y kd r)->qs.Pairwise (fun p q=>HT.lexLt p.1 q.1=true)->IsD K H' (.lst (qs.map z3H)) (.ref tl)->Q (.ref p) H'
theorem y8E{K:PySem.W.Frag}{ix:List Nat}{wi:TI}{te ta:TE}{r:List V->Hp->VK->Prop}{D:Ends}{σ:St}{H:Hp}(h:ta σ H fun v H1=>wi σ H1 (z5X K ix te σ fun x H2=>r [x] H2 fun u H3=>[v,u].length<=sizeLine/\∀ p,H3 p=none->D.rt (.ref p) (upd H3 p (.tup [v,u])))):y9n (y7j (z1J ta (z1J (tCB r (z1J (z6e K ix wi z6G te) z6F)) z6F))) D σ H:=h
theorem y6A{α:Type}{F:α->V->Prop}:∀ {l:List α}{m:List V},m.length=l.length->(∀ (i:Nat) (a:α) (y:V),l[i]? = some a->m[i]? = some y->F a y)->Paired F l m
 | [],[],_,_ => .nil
 | a :: l,y :: m,h,k => .cons (k 0 a y rfl rfl) (y6A (by simpa using h) fun i a y h1 h2=>k (i + 1) a y (by simpa using h1) (by simpa using h2))
theorem y9Z(B:Bl mg)(z1b:Def P w K mg base "_law_reads" 12 ["_law_e"] (y4M K 10))(z4r:Def P w K mg base "_law_table" 13 ["_law_names", "_law_own", "_law_e", "_law_kinds_by"] (y2C K))
 (F:Fn K mg "_law_due" z6Z ["_law_row", "_law_kinds_by"]):Def P w K mg base "_law_due" 14 ["_law_row", "_law_kinds_by"] (y6u K):=by
 refine F.ok y5c (fun vs H Q E h=>?_) (fun f cdv A outer s H vs Q E hr h=>?_)
 · obtain⟨kA,r,x,ks,ad,kd,rfl,_⟩:=h;rfl
 obtain⟨kA,r,x,ks,ad,kd,rfl,dx,hf,bk0,sub,kne,len,knd,c40,nnd,gne,q⟩:=h
 have big:(100000:Nat) < sizeLine:=by decide
 refine⟨_,(@z0b _ _ _ _ _ (z0B (z0j (z0x.or (z0z.or (z0A.or (z0w K rfl hr.units)))) (z0s (z0i K rfl) (pv 0) z0d (fun _ _=>rfl)) z0l (z0k _)) (@z0g _ _ _ (@z4y _ _ _ _ (@z2b _ _ _ _ _ _ _ (@z5E _ _ _ _ _ (z0s (z0i K rfl) (pv 0) z0d (fun _ _=>rfl)) rfl) (z0u (z1H K rfl (z6v hr)) rfl B.sorted PyProof.Rows.boot_sorted (@z0h _ _ _ _ _ (y0p (CompOk2.mk (z := "_law_part") (CompOk.of (x := "_law_number") (M:=[]) (ix:=[]) rfl rfl (by decide +kernel) (by decide +kernel) rfl trivial (by rfl) trivial) rfl) rfl (by decide +kernel) (z0C (z0s (z0i K rfl) (pv 0) z0d (fun _ _=>rfl))) (fun _ _ _ _ _=>z0V) (fun _ _ _ _ _=>(@z2b _ _ _ _ _ _ _ (@z5E _ _ _ _ _ (pv 0) rfl) (pv 1) rfl rfl))) z0f rfl)) rfl rfl))) z0m)
  (@z0b _ _ _ _ _ (z0B (z0j (z0x.or (z0z.or (z0A.or (z0w K rfl hr.units)))) (z0s (z0i K rfl) (pv 0) z0d (fun _ _=>rfl)) z0l (z0k _)) (@z0g _ _ _ (@z4y _ _ _ _ (z0r z4r hr rfl (@z0h _ _ _ _ _ (z0r z1b hr rfl (@z0h _ _ _ _ _ (z0s (z0i K rfl) (pv 0) z0d (fun _ _=>rfl)) z0f rfl)) (@z0h _ _ _ _ _ (z0s (z0i K rfl) (pv 0) z0d (fun _ _=>rfl)) (@z0h _ _ _ _ _ (z0s (z0i K rfl) (pv 0) z0d (fun _ _=>rfl)) (@z0h _ _ _ _ _ (pv 1) z0f rfl) rfl) rfl) rfl)))) z0m)
  (@z0g _ _ _ (@z4y _ _ _ _ (z0r z4r hr rfl (@z0h _ _ _ _ _ (z0r z1b hr rfl (@z0h _ _ _ _ _ (z0s (z0i K rfl) (pv 0) z0d (fun _ _=>rfl)) z0f rfl)) (@z0h _ _ _ _ _ z0l (@z0h _ _ _ _ _ (z0s (z0i K rfl) (pv 0) z0d (fun _ _=>rfl)) (@z0h _ _ _ _ _ (pv 1) z0f rfl) rfl) rfl) rfl)))))),?_⟩
 cases r with
 | draw n os =>
  obtain⟨t,l,ys,rfl,qt,ql,dys⟩:=z7b dx
  refine⟨_,rfl,.inr (.inl ⟨t,_,0,.str "draw",rfl,rfl,qt,z6c,.inr (.inl ⟨_,_,rfl,rfl,_,rfl,z1C (fun _=>?_) (fun h=>absurd rfl h)⟩)⟩)⟩
  have qr:=hf.2.2
  have l6:=(z5G qr).2.1
  have yl:=dys.length
  refine y8E ⟨_,rfl,.inr (.inl ⟨t,_,1,.str n,rfl,rfl,qt,y4u,(by show 1<=sizeLine;decide),fun tn ntn=>?_⟩)⟩
  have t1:=z0e ntn (.tup [V.str n])
  have etn:(upd H tn (.tup [V.str n])) tn=some (.tup [V.str n]):=z0c
  generalize upd H tn (.tup [V.str n])=H1 at t1 etn ⊢
  refine⟨_,rfl,.inr (.inl ⟨t,_,2,.ref l,rfl,rfl,t1.tupq qt,y8Z,l,rfl,⟨ys,t1.seq ql⟩,?_⟩)⟩
  refine z6x (fun i y H'=>∀ o,os[i]? = some o->RowQ K H' ([z4C o],shr o) y) (t1.seq ql) (by omega) (fun i y H1 H2 s h o e=>(h o e).same s) (fun i y H1 Da l l' e h o e'=>RowQ.lst e (h o e')) (fun i x H' R hx sm hR=>?_) (fun l2 H2 zs nl2 s2 el2 ln G=>?_)
  · have hi:i < os.length:=by have:=(jE.mp hx).1;omega
    have eo:os[i]? = some os[i]:=jB hi
    generalize os[i]=o at eo
    obtain⟨t',y,rfl,q',dy⟩:=y0r qr eo (z2g dys eo hx)
    have sm':=t1.trans sm
    refine⟨t',_,y,rfl,sm'.tupq q',⟨_,rfl,(by show 1<=sizeLine;decide),fun p np=>⟨_,rfl,(by show 2<=sizeLine;decide),fun p2 np2=>?_⟩⟩⟩
    have u1:=z0e np (.tup [V.int (z4C o)])
    have u2:=z0e np2 (.tup [V.ref p,y])
    refine hR _ _ (u1.trans u2) fun o' e'=>?_
    rw[eo]at e';cases e'
    exact⟨y,⟨p2,p,rfl,z0c,u2 _ _ z0c⟩,dy.same (sm'.trans (u1.trans u2))⟩
  · have pr:Paired (RowQ K H2) (rowsR kd (.draw n os)) zs:=y6A (by show _=(os.map _).length;rw[jA];omega) fun i g y h1 h2=>by
     have h1:(os.map fun o=>([z4C o],shr o))[i]? = some g:=h1
     rw[jC]at h1
     cases eo:os[i]? with
     | none=>rw[eo]at h1;cases h1
     | some o=>rw[eo]at h1;cases h1;exact G i y h2 o eo
    have tb:=z8P (kd:=kd) (r := .draw n os) hf knd nnd
    have tb2:y8Y kd (.draw n os)=rowsR kd (.draw n os):=by
     rw[tb]
     show (os.map _).map _=os.map _
     rw[jd]
     refine jq fun o _=>?_
     have:plc (nmsR (.draw n os)) (srt (nmsR (.draw n os)))=[0]:=by
      show [((List.idxOf n [n]:Nat):Int)]=[0]
      simp
     show (z0W [z4C o] _,shr o)=_
     rw[this];rfl
    obtain⟨a',xs',ks',g1,g2,g3,g4,g5,g6,g7⟩:=z7U (Q:=fun v H'=>∃ (l:Addr) (qs:List (List Int×Rat)),v = .ref l/\Same H2 H'/\qs.Perm (rowsR kd (.draw n os))/\qs.Pairwise (fun p q=>HT.lexLt p.1 q.1=true)/\IsD K H' (.lst (qs.map z3H)) (.ref l)) (.of el2) pr (y0d hf knd) (by show (os.map _).length < 64;rw[jA];omega) (fun tl qs H6 s6 ntl pmq pwq dq=>⟨tl,qs,rfl,s6,pmq,pwq,dq⟩)
    refine⟨a',xs',ks',g1,g2,g3,g4,g5,g6,fun l0 qs0 ys0 k1 k2 k3 k4 k5=>⟨(by show 2<=sizeLine;decide),fun p np=>?_⟩⟩
    obtain⟨tl,qs,e1,s6,pmq,pwq,dq⟩:=g7 l0 qs0 ys0 k1 k2 k3 k4 k5
    cases e1
    have t6:=z0e np (.tup [V.ref tn,.ref l0])
    refine q p tn l0 qs _ (t1.trans (s2.trans (s6.trans t6))) (.of z0c) (.of ((s2.trans (s6.trans t6)) _ _ etn)) (by rw[tb2];exact pmq) pwq (dq.same t6)
 | lt n e =>
  obtain⟨n',e',t,y,er,rfl,qt,dy⟩:∃ n' e' t y,Rw.lt n e = .lt n' e'/\x = .ref t/\SqT K H t [.str "let",.str n',y]/\IsD K H (dE e') y:=by
   rcases y0e dx with ⟨_,_,_,_,z,_⟩ | h | ⟨_,_,_,z,_⟩
   · cases z
   · exact h
   · cases z
  cases er
  have n0:n ≠ "" := gne n (jP.mpr rfl)
  have rw_:rwO n e = .lt n e:=if_neg n0
  refine⟨_,rfl,.inr (.inl ⟨t,_,0,.str "let",rfl,rfl,qt,z6c,.inr (.inl ⟨_,_,rfl,rfl,_,rfl,z1C (fun h=>absurd h (by decide)) (fun _=>nxt ?_)⟩)⟩)⟩
  refine⟨_,rfl,.inr (.inl ⟨t,_,0,.str "let",rfl,rfl,qt,z6c,.inr (.inl ⟨_,_,rfl,rfl,_,rfl,z1C (fun _=>?_) (fun h=>absurd rfl h)⟩)⟩)⟩
  refine⟨_,rfl,.inr (.inl ⟨t,_,2,y,rfl,rfl,qt,y8Z,e,y,e.rds,rfl,hf.1,(z0O e).mpr fun _ h=>h,jc hf.2.2 (by decide),hf.2.1,dy,fun rl H1 nrl s1 erl=>?_⟩)⟩
  have qt1:=s1.tupq qt
  refine⟨_,rfl,.inr (.inl ⟨t,_,1,.str n,rfl,rfl,qt1,y4u,_,rfl,.inr (.inl ⟨t,_,2,y,rfl,rfl,qt1,y8Z,_,rfl,rl,kA,n,e,y,ks,ad,kd,rfl,erl,hf,dy.same s1,bk0.same s1,sub,kne,len,knd,c40,by rw[rw_];exact nnd,fun p tn tl qs H2 s2 h1 h2 h3 h4 h5=>?_⟩)⟩)⟩
  rw[rw_]at h2 h3
  exact q p tn tl qs H2 (s1.trans s2) (.of h1) (.of h2) h3 h4 h5
 | seen e =>
  obtain⟨e',t,y,er,rfl,qt,dy⟩:∃ e' t y,Rw.seen e = .seen e'/\x = .ref t/\SqT K H t [.str "seen",y]/\IsD K H (dE e') y:=by
   rcases y0e dx with ⟨_,_,_,_,z,_⟩ | ⟨_,_,_,_,z,_⟩ | h
   · cases z
   · cases z
   · exact h
  cases er
  have rw_:rwO "" e = .seen e:=if_pos rfl
  refine⟨_,rfl,.inr (.inl ⟨t,_,0,.str "seen",rfl,rfl,qt,z6c,.inr (.inl ⟨_,_,rfl,rfl,_,rfl,z1C (fun h=>absurd h (by decide)) (fun _=>nxt ?_)⟩)⟩)⟩
  refine⟨_,rfl,.inr (.inl ⟨t,_,0,.str "seen",rfl,rfl,qt,z6c,.inr (.inl ⟨_,_,rfl,rfl,_,rfl,z1C (fun h=>absurd h (by decide)) (fun _=>nxt ?_)⟩)⟩)⟩
  refine⟨_,rfl,.inr (.inl ⟨t,_,1,y,rfl,rfl,qt,y4u,e,y,e.rds,rfl,hf.1,(z0O e).mpr fun _ h=>h,jc hf.2.2 (by decide),hf.2.1,dy,fun rl H1 nrl s1 erl=>?_⟩)⟩
  have qt1:=s1.tupq qt
  refine⟨_,rfl,.inr (.inl ⟨t,_,1,y,rfl,rfl,qt1,y4u,_,rfl,rl,kA, "",e,y,ks,ad,kd,rfl,erl,hf,dy.same s1,bk0.same s1,sub,kne,len,knd,c40,by rw[rw_];exact nnd,fun p tn tl qs H2 s2 h1 h2 h3 h4 h5=>?_⟩)⟩
  rw[rw_]at h2 h3
  exact q p tn tl qs H2 (s1.trans s2) (.of h1) (.of h2) h3 h4 h5
theorem z3k:∀ e:Ex,(dE e).deep=e.high + 1
 | .num _=>rfl
 | .nam _=>rfl
 | .un a=>by
  have h:=z3k a
  show max 0 (max (dE a).deep 0) + 1=a.high + 1 + 1
  omega
 | .bi s a b=>by
  have h:=z3k a;have h2:=z3k b
  show max 0 (max (dE a).deep (max (dE b).deep 0)) + 1=max a.high b.high + 1 + 1
  omega
 | .pick c a b=>by
  have h:=z3k a;have h2:=z3k b;have h3:=z3k c
  show max 0 (max (dE c).deep (max (dE a).deep (max (dE b).deep 0))) + 1=max c.high (max a.high b.high) + 1 + 1
  omega
theorem y8G{r:Rw}(h:r.fine):(dR r).deep<=20:=by
 cases r with
 | draw n os=>have h':D.deeps os<=10:=h.1;show max 0 (max 0 (max (D.deeps os + 1) 0)) + 1<=20;omega
 | lt n e=>have h':=h.2.1;have:=z3k e;show max 0 (max 0 (max (dE e).deep 0)) + 1<=20;omega
 | seen e=>have h':=h.2.1;have:=z3k e;show max 0 (max (dE e).deep 0) + 1<=20;omega
theorem y0N:∀ {rs:List Rw},(∀ r∈rs,r.fine)->D.deeps (rs.map dR)<=20
 | [],_=>jR _
 | r :: rs,h=>by
  have h1:=y8G (h r (by simp))
  have h2:=y0N (rs:=rs) fun x hx=>h x (jQ _ hx)
  show max (dR r).deep (D.deeps (rs.map dR))<=20
  omega
theorem z1W{H:Hp}:∀ ns:List Str,IsDs K H (ns.map D.str) (ns.map V.str)
 | []=>rfl
 | _ :: ns=>⟨_,_,rfl,rfl,z1W ns⟩
theorem z7O:∀ ns:List Str,D.deeps (ns.map D.str)=0
 | []=>rfl
 | n :: ns=>by show max 0 _=0;rw[z7O ns];rfl
theorem y7x{rs:List Rw}(h:∀ r∈rs,r.fine)(ak:List Str):(D.tup [.lst [],.lst (rs.map dR),.lst (ak.map D.str)]).deep<=60:=by
 have:=y0N h
 show max (0 + 1) (max (D.deeps (rs.map dR) + 1) (max (D.deeps (ak.map D.str) + 1) 0)) + 1<=60
 rw[z7O]
 omega
theorem z8n:∀ {a b:List Int},HT.lexLt a b=true->HT.lexLt b a=false
 | [],[],_=>rfl
 | [],_ :: _,_=>rfl
 | _ :: _,[],h=>by cases h
 | x :: xs,y :: ys,h=>by
  rw[HT.lexLt_cons]at h ⊢
  by_cases e:x=y
  · rw[if_pos e]at h;rw[if_pos e.symm];exact z8n h
  · rw[if_neg e]at h
    rw[if_neg (fun z=>e z.symm)]
    exact decide_eq_false (by have:=of_decide_eq_true h;omega)
theorem y0y:∀ {l m:List (List Int×Rat)},l.Pairwise (fun p q=>HT.lexLt p.1 q.1=true)->m.Pairwise (fun p q=>HT.lexLt p.1 q.1=true)->l.Perm m->l=m:=fun {l m} h1 h2 h=>by
 refine List.Perm.eq_of_pairwise (le:=fun p q=>p=q\/HT.lexLt p.1 q.1=true) ?_ (h1.imp fun h => .inr h) (h2.imp fun h => .inr h) h
 intro a b _ _ x y
 rcases x with x | x
 · exact x
 rcases y with y | y
 · exact y.symm
 exact absurd x (by rw[z8n y];decide)
theorem y5H{r:Rw}(h:r.fine):(nmsR r).length<=13:=by
 cases r with
 | draw n os=>show 1<=13;decide
 | lt n e=>have:=z3f h;show (e.nms ++ [n]).length<=13;rw[jJ];show _ + 1<=13;omega
 | seen e=>have:=z3f h;show e.nms.length<=13;omega
theorem z6u:∀ l:List Int,D.deeps (l.map D.int)=0
 | []=>rfl
 | _ :: l=>by show max 0 _=0;rw[z6u l];rfl
theorem z6l:∀ l:List (List Int×Rat),D.deeps (l.map z3H)<=2
 | []=>jR _
 | r :: l=>by
  show max (max (D.deeps (r.1.map D.int) + 1) _ + 1) (D.deeps (l.map z3H))<=2
  have h:=z6l l
  rw[z6u]
  exact Nat.max_le.mpr ⟨jF 2,h⟩
theorem z9R(ns:List Str)(qs:List (List Int×Rat)):(D.tup [.tup (ns.map D.str),.lst (qs.map z3H)]).deep<=10:=by
 show max (D.deeps (ns.map D.str) + 1) (max (D.deeps (qs.map z3H) + 1) 0) + 1<=10
 have:=z6l qs
 have e:D.deeps (ns.map D.str)=0:=by
  induction ns with
  | nil=>rfl
  | cons a l ih=>show max 0 _=0;rw[ih];rfl
 omega
theorem z7N{l1 l2:Addr}{kd:Str->List Int}{H:Hp}:∀ {rs:List Rw}{ys ys2:List V},Paired (TabV K l1 kd H) rs ys->Paired (TabV K l2 kd H) rs ys2->∃ ds:List D,D.deeps ds<=10/\IsDs K H ds ys/\IsDs K H ds ys2
 | _,_,_,.nil,.nil=>⟨[],jR _,rfl,rfl⟩
 | _,_,_,.cons h1 t1,.cons h2 t2=>by
  obtain⟨ds,hd,a1,a2⟩:=z7N t1 t2
  obtain⟨p,tn,tl,qs,rfl,b1,b2,_,b3,b4,b5⟩:=h1
  obtain⟨p',tn',tl',qs',rfl,b1',b2',_,b3',b4',b5'⟩:=h2
  obtain rfl:=y0y b4 b4' (b3.trans b3'.symm)
  exact⟨.tup [.tup (_),.lst (qs.map z3H)] :: ds,Nat.max_le.mpr ⟨z9R _ _,hd⟩,⟨_,_,rfl,⟨p,_,rfl,.of b1,_,_,rfl,⟨tn,_,rfl,.of b2,z1W _⟩,_,_,rfl,b5,rfl⟩,a1⟩,⟨_,_,rfl,⟨p',_,rfl,.of b1',_,_,rfl,⟨tn',_,rfl,.of b2',z1W _⟩,_,_,rfl,b5',rfl⟩,a2⟩⟩
def y2H(K:PySem.W.Frag):Sp:=fun vs H Q _=>∃ (a:Addr) (ns:List Int),vs=[.ref a]/\SqL K H a (ns.map V.int)/\ns.length<=63/\∀ H',Q (.bl true) H'
theorem y9Y(B:Bl mg)(z9D:Def2 P w K mg base "tables_of" 16 ["sheet", "most"] (z6J K))(z8N:DefD P w K mg base "tables_of" 16 ["sheet", "most"] (.int 500) (z6J K))(z5V:Def P w K mg base "_law_sheet" 15 ["_law_script", "_law_last"] (z9V K))(z3o:Def P w K mg base "_law_is_table" 1 ["_law_found"] (z7Q K))(z9F:Def P w K mg base "_law_due" 14 ["_law_row", "_law_kinds_by"] (y6u K))
 {f:Addr}{fd:FuncData} (F:Fun K "law" "law" z6a f fd):FnOk P w K mg base CX0 60 f fd ["_law_script"] (y2H K):=by
 refine F.ok z4R (fun vs H Q E h=>?_) (fun cdv A outer s H vs Q E hr h=>?_)
 · obtain⟨a,ns,rfl,_⟩:=h;rfl
 obtain⟨a,ns,rfl,hS,hl,q⟩:=h
 refine⟨_,(@z0b _ _ _ _ _ (y9J (z0r z5V hr rfl (z0a (pv 0) (z0a z0d z0f))) (y3k rfl (z2M (z0E (i:=5) z4R.nd rfl (by first | exact Or.inl rfl | exact Or.inr rfl)) (z2M (z0E (i:=6) z4R.nd rfl (by first | exact Or.inl rfl | exact Or.inr rfl)) (z2M (z0E (i:=7) z4R.nd rfl (by first | exact Or.inl rfl | exact Or.inr rfl)) z8Z)))))
  (@z0b _ _ _ _ _ (z0t (i:=1) z4R.nd rfl (by first | exact Or.inl rfl | exact Or.inr rfl) (z0s (z0i K rfl) (pv 5) z0d (fun _ _=>rfl)))
  (@z0b _ _ _ _ _ (z0t (i:=2) z4R.nd rfl (by first | exact Or.inl rfl | exact Or.inr rfl) (z1j (z0a (z2n z0f) (z0a (z0K (z6z K rfl) rfl B.list PyProof.Rows.boot_list (z0a (pv 1) z0f)) (z0a (z0K (z6z K rfl) rfl B.list PyProof.Rows.boot_list (z0a (z0s (z0i K rfl) (pv 5) z0d (fun _ _=>rfl)) z0f)) z0f)))))
  (@z0b _ _ _ _ _ (z0t (i:=3) z4R.nd rfl (by first | exact Or.inl rfl | exact Or.inr rfl) (y3n z9D hr rfl y6E (z0a (pv 2) (z0a (z0T (z1l hr) (pv 6) z0l (fun _ _=>rfl)) z0f))))
  (@z0b _ _ _ _ _ (z0B (PW.pt (z4x (z0j (z1r.or (z1v.or (z1x.or (z1w K rfl hr.units)))) (pv 2) (pv 5) (z0k _)) (z4x (z3a (z1Z (z0u (z1h K rfl) rfl B.isinstance PyProof.Rows.boot_isinstance (z0a (pv 3) (z0a (z2c (v := .ty "list") rfl B.list PyProof.Rows.boot_list rfl) z0f))))) (z3I (z0j (z1r.or (z1v.or (z1x.or (z1w K rfl hr.units)))) (z0u (z1a K rfl) rfl B.len PySem.boot_len (z0a (pv 3) z0f)) (z0u (z1a K rfl) rfl B.len PySem.boot_len (z0a (pv 1) z0f)) (z0k _)))))) (@z0g _ _ _ (z0o z7h)) z0m)
  (@z0b _ _ _ _ _ (z1q PassesOwn.never rfl (z2z rfl B.range (z0a (z0u (z1a K rfl) rfl B.len PySem.boot_len (z0a (pv 1) z0f)) z0f)) (z0E (i:=4) z4R.nd rfl (by first | exact Or.inl rfl | exact Or.inr rfl)) (@z0g _ _ _ (z0B (PW.pt (z4x (z3a (z1Z (z0r z3o hr rfl (z0a (z0s (z0i K rfl) (pv 3) (pv 4) (fun _ _=>rfl)) z0f)))) (z3I (z0j (z1r.or (z1v.or (z1x.or (z1w K rfl hr.units)))) (z0s (z0i K rfl) (pv 3) (pv 4) (fun _ _=>rfl)) (z0r z9F hr rfl (z0a (z0s (z0i K rfl) (pv 1) (pv 4) (fun _ _=>rfl)) (z0a (z0T (z1l hr) (pv 6) z0l (fun _ _=>rfl)) z0f))) (z0k _))))) (@z0g _ _ _ (z0o z7h)) z0m)))
  (@z0g _ _ _ (z0o (z1f (z0x.or (z0z.or (z0A.or (z0w K rfl hr.units)))) (y7O z8N hr rfl y6E (z0a (pv 5) z0f)) (pv 3) (z0k _)))))))))),?_⟩
 have big:(100000:Nat) < sizeLine:=by decide
 refine⟨_,rfl,a,ns,rfl,hS,hl,fun tt t d kA nl pe rl al rs xs ak ad ne H1 s1 ett et epe erl ids eal lak enl gne gnd l60 mad rok full=>?_⟩
 refine⟨tt,_,rfl,.of ett,rfl,_,_,rfl,_,_,rfl,_,_,rfl,rfl,?_⟩
 have fine:=rok.fine
 have sh1:Sheet K H1 t rs:=⟨⟨.ref pe,rl,.ref al,xs,.of et,.of erl,ids⟩,fine,rok.wf,by omega⟩
 have tok:=y9k fine rok.wf rok.few gnd
 have kne:∀ n∈givs rs,kdOf rs n≠[]:=fun n hn=>by have:=rok.few.ne rs.length;rw[jh]at this;exact this n hn
 refine⟨_,rfl,.inr (.inl ⟨t,_,1,.ref rl,rfl,rfl,.of et,y4u,?_⟩)⟩
 -- handed in
 refine⟨jR _,fun pe2 npe2=>?_⟩
 have t1:=z0e npe2 (.lst [])
 have epe2:(upd H1 pe2 (.lst [])) pe2=some (.lst []):=z0c
 generalize upd H1 pe2 (.lst [])=H2 at t1 epe2 ⊢
 refine⟨_,rfl,rl,_,rfl,.inl (.of (t1 _ _ erl)),fun h1 nh1=>?_⟩
 have t2:=z0e nh1 (.lst xs)
 have t12:=t1.trans t2
 refine⟨_,rfl,.inr (.inl ⟨t,_,2,.ref al,rfl,rfl,.of (t12 _ _ et),y8Z,al,_,rfl,.inl (.of (t12 _ _ eal)),fun h2 nh2=>⟨(by show 3<=sizeLine;decide),fun ph nph=>?_⟩⟩)⟩
 have t3:=z0e nh2 (.lst (ak.map V.str))
 have t4:=z0e nph (.tup [V.ref pe2,.ref h1,.ref h2])
 have t24:=t2.trans (t3.trans t4)
 have eh1:(upd (upd (upd H2 h1 (.lst xs)) h2 (.lst (ak.map V.str))) ph (.tup [V.ref pe2,.ref h1,.ref h2])) h1=some (.lst xs):=(t3.trans t4) _ _ z0c
 have eh2:(upd (upd (upd H2 h1 (.lst xs)) h2 (.lst (ak.map V.str))) ph (.tup [V.ref pe2,.ref h1,.ref h2])) h2=some (.lst (ak.map V.str)):=t4 _ _ z0c
 have eph:(upd (upd (upd H2 h1 (.lst xs)) h2 (.lst (ak.map V.str))) ph (.tup [V.ref pe2,.ref h1,.ref h2])) ph=some (.tup [V.ref pe2,.ref h1,.ref h2]):=z0c
 generalize upd (upd (upd H2 h1 (.lst xs)) h2 (.lst (ak.map V.str))) ph (.tup [V.ref pe2,.ref h1,.ref h2])=H3 at t24 eh1 eh2 eph ⊢
 have epe3:=t24 _ _ epe2
 have t13:=t1.trans t24
 have ids3:=ids.same t13
 have shH:Sheet K H3 ph rs:=⟨⟨.ref pe2,h1,.ref h2,xs,.of eph,.of eh1,ids3⟩,fine,rok.wf,by omega⟩
 clear t2 t12 t3 t4
 dsimp only[z1g,List.set]
 obtain⟨li,dr,se,ed,_⟩:=(mad.same t13).at_
 refine⟨_,rfl,_,rfl,d,_,rfl,y3Y ed,ph,rs,ne,rfl,shH,rok.few,rok.ne1,by have:=rok.ne40;omega,rok.all,tok,kne,fun fl ys H4 s4 nfl efl prT=>?_⟩
 have s14:=t13.trans s4
 -- first test
 refine⟨_,rfl,_,rfl,.inr (.inr (.inr ⟨.tup [.lst [],.lst (rs.map dR),.lst (ak.map D.str)],⟨ph,_,rfl,.of (s4 _ _ eph),_,_,rfl,⟨pe2,_,rfl,.of (s4 _ _ epe3),rfl⟩,_,_,rfl,⟨h1,_,rfl,.of (s4 _ _ eh1),ids3.same s4⟩,_,_,rfl,⟨h2,_,rfl,.of (s4 _ _ eh2),z1W _⟩,rfl⟩,⟨t,_,rfl,.of (s14 _ _ et),_,_,rfl,⟨pe,_,rfl,.of (s14 _ _ epe),rfl⟩,_,_,rfl,⟨rl,_,rfl,.of (s14 _ _ erl),ids3.same s4⟩,_,_,rfl,⟨al,_,rfl,.of (s14 _ _ eal),z1W _⟩,rfl⟩,⟨ph,rfl⟩,y7x fine ak,_,rfl,z5Z ?_⟩))⟩
 refine⟨_,rfl,_,_,.type "list",true,rfl,rfl,.of (.lst efl),rfl,_,rfl,z5Z ?_⟩
 have xl:=ids.length
 rw[jA]at xl
 have yl:=prT.length
 refine⟨_,rfl,_,_,rfl,z2U (.of efl),_,rfl,_,_,rfl,z2U (.of (s14 _ _ erl)),.inl ⟨_,_,rfl,rfl,_,rfl,z3T (fun h=>absurd (by omega) h) fun _=>nxt ?_⟩⟩
 -- row by row
 refine⟨_,rfl,_,_,rfl,z2U (.of (s14 _ _ erl)),?_⟩
 refine⟨_,rfl,by omega,by omega,?_⟩
 have ed4:=s4 _ _ ed
 have erl4:=s14 _ _ erl
 refine z5P (n:=xs.length) (fun i σ H'=>Same H4 H'/\∃ c4:Option V,σ=[some (.ref a),some (.ref rl),some (.ref ph),some (.ref fl),c4,some (.ref t),some (.ref d),some (.ref nl)]) ⟨Same.refl _,none,rfl⟩ ?_ ?_
 · rintro i σ H5 hi ⟨s5,c4,rfl⟩
   have hir:i < rs.length:=by omega
   have ey:ys[i]? = some (ys[i]'(by omega)):=jB (by omega)
   generalize ys[i]'(by omega)=y at ey
   obtain⟨r,er,tv⟩:=z8e prT ey
   obtain⟨p,tn,tl,qs,rfl,ep,etn,_,pmq,pwq,dq⟩:=tv.same s5
   have ex:xs[i]? = some xs[i]:=jB hi
   generalize xs[i]=x at ex
   have dx:=z2g ids (by rw[jC,er];rfl) ex
   have s15:=s14.trans s5
   have aty:atI ys (0 + (i:Int))=some (.ref p):=by rw[Int.zero_add];exact z0Y ey
   have atx:atI xs (0 + (i:Int))=some x:=by rw[Int.zero_add];exact z0Y ex
   have hr':=jf er
   have hf:=fine r hr'
   obtain⟨c40,nnd,_,_⟩:=tok r hr'
   have wfr:=rok.wf i r er
   have N13:(nmsR r).length<=13:=y5H hf
   have tb:=z8P hf (y8j rs) nnd
   have ql:∀ g∈qs,g.1.length<=100:=fun g hg=>by
    have:=pmq.mem_iff.mp hg
    rw[tb]at this
    obtain⟨g',_,rfl⟩:=jU.mp this
    show (z0W _ _).length<=100
    unfold z0W plc
    rw[jA,jA]
    have:=z2d (y3e (y2Z (nmsR r))) fun k hk=>z3R.mp hk
    omega
   refine⟨_,rfl,_,rfl,.inl ⟨fl,ys,0 + (i:Int),.ref p,rfl,rfl,.of (s5 _ _ efl),aty,p,tn,tl,srt (nmsR r),qs,rfl,.of ep,.of etn,dq,ql,fun H6 s6=>?_⟩⟩
   have s16:=s15.trans s6
   have s46:=s5.trans s6
   refine⟨_,rfl,z5Z ?_⟩
   refine⟨_,rfl,_,rfl,.inl ⟨fl,ys,0 + (i:Int),.ref p,rfl,rfl,.of (s46 _ _ efl),aty,?_⟩⟩
   refine⟨_,rfl,_,rfl,.inl ⟨rl,xs,0 + (i:Int),x,rfl,rfl,.of (s16 _ _ erl),atx,_,rfl,d,.ref kA,rfl,z4n (s46 _ _ ed4),kA,r,x,z5Y rs,ad,kdOf rs,rfl,dx.same s16,hf,(mad.same s16).bk,fun n hn=>(z2O _).mpr (z4m (wfr n hn)),fun n hn=>kne n (z4m (wfr n hn)),(by have:=rok.few.len rs.length;rw[jh]at this;exact this),y8j rs,c40,nnd,fun n hn=>full n (List.mem_flatMap.mpr ⟨r,hr',hn⟩),fun p2 tn2 tl2 qs2 H7 s7 h1 h2 pm2 pw2 dq2=>?_⟩⟩
   obtain rfl:qs=qs2:=y0y pwq pw2 (pmq.trans pm2.symm)
   have s67:=s6.trans s7
   refine .inr (.inr (.inr ⟨.tup [.tup ((srt (nmsR r)).map D.str),.lst (qs.map z3H)],⟨p,_,rfl,.of (s67 _ _ ep),_,_,rfl,⟨tn,_,rfl,.of (s67 _ _ etn),z1W _⟩,_,_,rfl,dq.same s67,rfl⟩,⟨p2,_,rfl,h1,_,_,rfl,⟨tn2,_,rfl,h2,z1W _⟩,_,_,rfl,dq2,rfl⟩,⟨p,rfl⟩,jc (z9R _ _) (by decide),_,rfl,z5Z ?_⟩))
   exact⟨s5.trans s67,_,rfl⟩
 · rintro σ H5 ⟨s5,c4,rfl⟩
   have s15:=s14.trans s5
   refine⟨_,rfl,t,rs,500,rfl,sh1.same s15,rok.few,by decide,by decide,fun i r e=>by have:=rok.few.cnt i r e;omega,tok,kne,fun l2 ys2 H6 s6 nl2 el2 pr2=>?_⟩
   obtain⟨ds,hd,a1,a2⟩:=z7N pr2 (z4S (fun a y h=>h.same (s5.trans s6)) prT)
   refine⟨_,rfl,.inr (.inr (.inr ⟨.lst ds,⟨l2,_,rfl,.of el2,a1⟩,⟨fl,_,rfl,.of ((s5.trans s6) _ _ efl),a2⟩,⟨l2,rfl⟩,(by show D.deeps ds + 1<=60;omega),q _⟩))⟩
theorem y8h(B:Bl mg)(_XC_TooMany:NmC mg "TooMany" z0v)(_xm1:PySem.W.exmOne K (.ref z0v) (.ref z0v)=some true)(_XI_TooMany:ExcIs K z0v)(z4J:ExcK P w K mg base "TooMany" z0v "most")(y4F:Fn K mg "divisor" z4h ["one", "other"])(y1Z:Fn K mg "is_whole" z3w ["thing"])(y2b:Fn K mg "fraction" z3y ["top", "bottom"])(x0E:Fn K mg "plus" y0b ["one", "other"])(y8U:Fn K mg "holds" z7a ["sign", "numbers"])(y1V:Fn K mg "reckoned" z3t ["sign", "numbers"])(y8Q:Fn K mg "value" z5z ["e", "book"])(y1W:Fn K mg "names_in" z2y ["e"])(y4x:Fn K mg "product" z4b ["numbers"])(y6m:Fn K mg "chosen" z5g ["values", "places"])(z9B:Fn K mg "places_of" z2K ["names", "some"])(y2a:Fn K mg "gathered" z3x ["rows", "places"])(z8K:Fn K mg "names_read" z2k ["row"])(y4G:Fn K mg "choices" z4i ["lists"])(z7G:Fn K mg "row_choices" z1L ["row", "found"])(y8T:FnD K mg "kinds" z2Y ["sheet", "most"] (.int 500))(y1U:Fn K mg "table_of" z3s ["row", "found"])(z9A:FnD K mg "tables_of" z1e ["sheet", "most"] (.int 500))(z9C:Fn K mg "_law_cell_at" z2L ["_law_script", "_law_k"])(y4C:Fn K mg "_law_mixed" z4e ["_law_cell", "_law_k"])(y1X:Fn K mg "_law_common" z3u ["_law_one", "_law_other"])(y8R:Fn K mg "_law_low" z6Y ["_law_top", "_law_bottom"])(y6k:Fn K mg "_law_name" z5e ["_law_cell", "_law_k"])(y6l:Fn K mg "_law_leaf" z5f ["_law_cell", "_law_names"])(z6d:Fn K mg "_law_expression" z1B ["_law_cell", "_law_names"])(z8L:Fn K mg "_law_outcomes" z2l ["_law_cell", "_law_many", "_law_far"])(y1Y:Fn K mg "_law_by_two" z3v ["_law_sign", "_law_here", "_law_there"])(y4y:Fn K mg "_law_worth" z2W ["_law_e", "_law_book"])(y4B:Fn K mg "_law_reads" z2X ["_law_e"])(y4D:Fn K mg "_law_count" z4f ["_law_e", "_law_made"])(y4E:Fn K mg "_law_books" z4g ["_law_names", "_law_kinds_by"])(y6j:Fn K mg "_law_room" z5d ["_law_made", "_law_many"])(z7H:Fn K mg "_law_sheet_row" z1M ["_law_cell", "_law_names", "_law_own", "_law_made"])(y4A:Fn K mg "_law_sheet" z4d ["_law_script", "_law_last"])(y4z:Fn K mg "_law_table" z4c ["_law_names", "_law_own", "_law_e", "_law_kinds_by"])(y8S:Fn K mg "_law_due" z6Z ["_law_row", "_law_kinds_by"])(z8M:Fn K mg "_law_is_table" z2m ["_law_found"]){f:Addr}{fd:FuncData}(F:Fun K "law" "law" z6a f fd):FnOk P w K mg base CX0 60 f fd ["_law_script"] (y2H K):=by
 have z9H:=y5B (P:=P) (w:=w) (base:=base) B y8U
 have z1T:=z9d B y1V z9H
 have z5T:=z9M B y8Q z1T 10
 have z2G:=z5I (P:=P) (w:=w) (base:=base) B y1W 10
 have z0J:=z7k B z2G z8K
 have z5U:=y1u (P:=P) (w:=w) (base:=base) B y4x
 have z5W:=y1y (P:=P) (w:=w) (base:=base) B y4G
 have z0Z:=y9W B z0J z5T z5W z7G
 have z9G:=y5A B z4J z0J z5U z0Z y8T
 have z2I:=y1x (P:=P) (w:=w) (base:=base) B y4F
 have z3F:=z9f (P:=P) (w:=w) (base:=base) B y1Z
 have z4N:=z9h B y2b z3F z2I
 have y4I:=y7U B x0E z2I z4N
 have z7K:=y3t (P:=P) (w:=w) (base:=base) B y6m
 have z4M:=z9g B z7K y4I y2a
 have z3Y:=y1v (P:=P) (w:=w) (base:=base) B z9B
 have z4K:=y5x B z0J z0Z z4M z3Y y1U
 have y1c:=y7R B z9G.1 z4K z9A
 have z1n:=y8a (P:=P) (w:=w) (base:=base) B z9C
 have z0N:=y5z (P:=P) (w:=w) (base:=base) B y4C
 have z4L:=y3s (P:=P) (w:=w) (base:=base) B y1X
 have z9E:=y9X B z4L y8R
 have z7J:=y7W (P:=P) (w:=w) (base:=base) B y6k
 have z4s:=y7Y (P:=P) (w:=w) (base:=base) B y6l
 have z1E:=y7Z B z0N z4s z6d
 have z3n:=y7V B z0N z9E z8L
 have z1U:=y9V (P:=P) (w:=w) (base:=base) B y1Y
 have z1I:=z9J B y4y z1U 10
 have z1b:=z6p (P:=P) (w:=w) (base:=base) B y4B 10
 have z4t:=y5C B z1b y4D
 have z2H:=y5D (P:=P) (w:=w) (base:=base) B y4E
 have z7I:=y7T (P:=P) (w:=w) (base:=base) B y6j
 have z2R:=y7S B z0N z7I z3n z1E z4t z1b z2H z1I z7H
 have z5V:=y5y B z1n z7J z2R y4A
 have z3o:=y3r (P:=P) (w:=w) (base:=base) B z8M
 have z4r:=y7X B z2H z1I y4z
 have z9F:=y9Z B z1b z4r y8S
 exact y9Y B y1c.1 y1c.2 z5V z3o z9F F
end
theorem us1{p:List Value->Prop}(h:∀ a0,p [a0])(us:List Value)(hl:us.length=1):p us:=match us,hl with | [a0],_=>h a0
theorem us2{p:List Value->Prop}(h:∀ a0 a1,p [a0,a1])(us:List Value)(hl:us.length=2):p us:=match us,hl with | [a0,a1],_=>h a0 a1
theorem us3{p:List Value->Prop}(h:∀ a0 a1 a2,p [a0,a1,a2])(us:List Value)(hl:us.length=3):p us:=match us,hl with | [a0,a1,a2],_=>h a0 a1 a2
theorem us4{p:List Value->Prop}(h:∀ a0 a1 a2 a3,p [a0,a1,a2,a3])(us:List Value)(hl:us.length=4):p us:=match us,hl with | [a0,a1,a2,a3],_=>h a0 a1 a2 a3
def FnIn(K:PySem.W.Frag)(x:Str)(st:Stmt):Prop:=∃ f fd,PySem.W.nsIn K mainGlobals x=some (some (.ref f))/\Fun K x x st f fd
theorem x0X{K:PySem.W.Frag}{x:Str}{st:Stmt}{f:Addr}{oc:Value}{od an:Option Addr}{osl:Array (Option Value)}{kV doc pm cdv ct:Value}(a:PySem.W.nsIn K mainGlobals x=some (some (.ref f)))(l:K.lookup f=some ⟨oc,od,.func (PySem.W.fnOf x x (defArgs st) (defBody st) (defScope st) .none kV doc pm an cdv ct),osl⟩)(c:PySem.W.codeIn K cdv x=true)(k:PySem.W.keepIn K (.ref f)=true):FnIn K x st:=⟨f,_,a,y3Z l c k⟩
theorem FnIn.fn{K:PySem.W.Frag}{h:Heap}{mg:Str->Option Value}{x:Str}{st:Stmt}{ps:List Str}(H:FnIn K x st)(X:K.In h)(G:h.Ns mainGlobals mg)(hb:∀ (kV doc pm:Value) (an:Option Addr) (cdv ct:Value) (us:List Value),us.length=ps.length->bindArgs (PySem.W.fnOf x x (defArgs st) (defBody st) (defScope st) .none kV doc pm an cdv ct) ⟨us,[]⟩=pure (ps.zip us)):Fn K mg x st ps:=by
 obtain⟨f,fd,a,F⟩:=H
 exact⟨f,fd,F,F.binds hb,PySem.W.mg_of X G a⟩
theorem x0D{l:PySem.W.OpenLaw}{w:World}{K:PySem.W.Frag}{h:Heap}{mg:Str->Option Value}{fa f15 f17 f37 z0v i_TooMany:Addr}(X:K.In h)(G:h.Ns mainGlobals mg)(hfa:mg "law" = some (.ref fa))
 {od15 an15 od17 an17 od37 an37:Option Addr}{sl15 sl17 sl37:Array (Option Value)}{oc15 kV15 dc15 pm15 cd15 ct15 oc17 kV17 dc17 pm17 cd17 ct17 oc37 kV37 dc37 pm37 cd37 ct37:Value}
 (H0:FnIn K "divisor" z4h)
 (H1:FnIn K "is_whole" z3w)
 (H2:FnIn K "fraction" z3y)
 (H3:FnIn K "plus" y0b)
 (H4:FnIn K "holds" z7a)
 (H5:FnIn K "reckoned" z3t)
 (H6:FnIn K "value" z5z)
 (H7:FnIn K "names_in" z2y)
 (H8:FnIn K "product" z4b)
 (H9:FnIn K "chosen" z5g)
 (H10:FnIn K "places_of" z2K)
 (H11:FnIn K "gathered" z3x)
 (H12:FnIn K "names_read" z2k)
 (H13:FnIn K "choices" z4i)
 (H14:FnIn K "row_choices" z1L)
 {fT15:Addr}{fTo15:Value}{fTd15:Option Addr}{fTn15:Nat}{fTs15:Array (Option Value)}{fTk15:Tok} (lt15:K.lookup fT15=some ⟨fTo15,fTd15,.seq #[.int 500 fTk15] fTn15,fTs15⟩)
 (a15:PySem.W.nsIn K mainGlobals "kinds" = some (some (.ref f15))) (l15:K.lookup f15=some ⟨oc15,od15,.func (PySem.W.fnOf "kinds" "kinds" (defArgs z2Y) (defBody z2Y) (defScope z2Y) (.ref fT15) kV15 dc15 pm15 an15 cd15 ct15),sl15⟩) (c15:PySem.W.codeIn K cd15 "kinds" = true) (k15:PySem.W.keepIn K (.ref f15)=true)
 (H16:FnIn K "table_of" z3s)
 {fT17:Addr}{fTo17:Value}{fTd17:Option Addr}{fTn17:Nat}{fTs17:Array (Option Value)}{fTk17:Tok} (lt17:K.lookup fT17=some ⟨fTo17,fTd17,.seq #[.int 500 fTk17] fTn17,fTs17⟩)
 (a17:PySem.W.nsIn K mainGlobals "tables_of" = some (some (.ref f17))) (l17:K.lookup f17=some ⟨oc17,od17,.func (PySem.W.fnOf "tables_of" "tables_of" (defArgs z1e) (defBody z1e) (defScope z1e) (.ref fT17) kV17 dc17 pm17 an17 cd17 ct17),sl17⟩) (c17:PySem.W.codeIn K cd17 "tables_of" = true) (k17:PySem.W.keepIn K (.ref f17)=true)
 (H18:FnIn K "_law_cell_at" z2L)
 (H19:FnIn K "_law_mixed" z4e)
 (H20:FnIn K "_law_common" z3u)
 (H21:FnIn K "_law_low" z6Y)
 (H22:FnIn K "_law_name" z5e)
 (H23:FnIn K "_law_leaf" z5f)
 (H24:FnIn K "_law_expression" z1B)
 (H25:FnIn K "_law_outcomes" z2l)
 (H26:FnIn K "_law_by_two" z3v)
 (H27:FnIn K "_law_worth" z2W)
 (H28:FnIn K "_law_reads" z2X)
 (H29:FnIn K "_law_count" z4f)
 (H30:FnIn K "_law_books" z4g)
 (H31:FnIn K "_law_room" z5d)
 (H32:FnIn K "_law_sheet_row" z1M)
 (H33:FnIn K "_law_sheet" z4d)
 (H34:FnIn K "_law_table" z4c)
 (H35:FnIn K "_law_due" z6Z)
 (H36:FnIn K "_law_is_table" z2m)
 (a37:PySem.W.nsIn K mainGlobals "law" = some (some (.ref f37))) (l37:K.lookup f37=some ⟨oc37,od37,.func (PySem.W.fnOf "law" "law" (defArgs z6a) (defBody z6a) (defScope z6a) .none kV37 dc37 pm37 an37 cd37 ct37),sl37⟩) (c37:PySem.W.codeIn K cd37 "law" = true) (k37:PySem.W.keepIn K (.ref f37)=true)
 {oi_TooMany an_TooMany:Option Addr}{z1o:Array (Option Value)}{kV_TooMany dc_TooMany pm_TooMany cd_TooMany ct_TooMany:Value}
 (li_TooMany:K.lookup i_TooMany=some ⟨.type "function",oi_TooMany,.func (PySem.W.fnOf "__init__" "TooMany.__init__" (defArgs Fd.z1o) (defBody Fd.z1o) (defScope Fd.z1o) .none kV_TooMany dc_TooMany pm_TooMany an_TooMany cd_TooMany ct_TooMany),z1o⟩)
 (ci_TooMany:PySem.W.codeIn K cd_TooMany "TooMany.__init__" = true) (ki_TooMany:PySem.W.keepIn K (.ref i_TooMany)=true) (kp_TooMany:PySem.W.keepIn K (.ref z0v)=true) (na_TooMany:PySem.W.findIn K (.ref z0v) "most" = some none)
 (sa_TooMany:PySem.W.findIn K (.ref z0v) "__setattr__" = some (some (.builtin "object.__setattr__"))) (ov_TooMany:(PySem.W.clsIn K z0v).any (fun cd=>tailV cd.mro)=true)
 {nm_TooMany qn_TooMany:Str}{bs_TooMany bm_TooMany sub_TooMany:List Value}{ns_TooMany:Addr}{hdc_TooMany ab_TooMany:Bool}{sn_TooMany:List Str}{col_TooMany:Option Bool}{dd_TooMany:Option Addr}{k0_TooMany k1_TooMany k2_TooMany k3_TooMany k5_TooMany:Option Value}
 (lk_TooMany:K.lookup z0v=some ⟨.type "type",dd_TooMany,.cls ⟨nm_TooMany,bs_TooMany,.ref z0v :: bm_TooMany,ns_TooMany,qn_TooMany,hdc_TooMany,sn_TooMany,sub_TooMany,ab_TooMany,col_TooMany,false⟩,#[k0_TooMany,k1_TooMany,k2_TooMany,k3_TooMany,some (.builtin "ValueError.__new__"),k5_TooMany]⟩)
 (tl_TooMany:PySem.W.tailIn K vErr bm_TooMany=true) (nk_TooMany:PySem.W.nsOkIn K ns_TooMany=true) (ni_TooMany:PySem.W.nsIn K ns_TooMany "__init__" = some (some (.ref i_TooMany)))
 (ac_TooMany:PySem.W.nsIn K mainGlobals "TooMany" = some (some (.ref z0v)))
 (ei0_TooMany:PySem.W.hasDictIn K z0v=true)
 (ei1_TooMany:PySem.W.findIn K (.ref z0v) "__getattribute__" = some (some (.builtin "BaseException.__getattribute__")))
 (ei2_TooMany:PySem.W.findIn K (.ref z0v) "__getattr__" = some none)
 (ei3_TooMany:PySem.W.findIn K (.ref z0v) "__class__" = some (some (.builtin "object.__class__")))
 (ei4_TooMany:PySem.W.mroIn K z0v (.type "object")=some true)
 (ei5_TooMany:PySem.W.mroIn K z0v (.type "BaseException")=some true)
 (z1s:PySem.W.exmOne K (.ref z0v) (.ref z0v)=some true)
 (z_abs:PySem.W.nsIn K mainGlobals "abs" = some none)
 (z_bool:PySem.W.nsIn K mainGlobals "bool" = some none)
 (z_dict:PySem.W.nsIn K mainGlobals "dict" = some none)
 (z_int:PySem.W.nsIn K mainGlobals "int" = some none)
 (z_isinstance:PySem.W.nsIn K mainGlobals "isinstance" = some none)
 (z_len:PySem.W.nsIn K mainGlobals "len" = some none)
 (z_list:PySem.W.nsIn K mainGlobals "list" = some none)
 (z_max:PySem.W.nsIn K mainGlobals "max" = some none)
 (z_range:PySem.W.nsIn K mainGlobals "range" = some none)
 (z_reversed:PySem.W.nsIn K mainGlobals "reversed" = some none)
 (z_set:PySem.W.nsIn K mainGlobals "set" = some none)
 (z_sorted:PySem.W.nsIn K mainGlobals "sorted" = some none)
 (z_str:PySem.W.nsIn K mainGlobals "str" = some none)
 (z_sum:PySem.W.nsIn K mainGlobals "sum" = some none)
 (z_tuple:PySem.W.nsIn K mainGlobals "tuple" = some none)
 (z_zip:PySem.W.nsIn K mainGlobals "zip" = some none)
 : ∃ fd:FuncData,(∀ (s:Shared) (v:Value),BindsTo s fd ⟨[v],[]⟩ [("_law_script",v)])/\∀ base:Heap,K.In base->base.Ns mainGlobals mg->FnOk l.prog w K mg base CX0 60 fa fd ["_law_script"] (y2H K):=by
 have e:=hfa.symm.trans (PySem.W.mg_of X G a37)
 cases e
 have B:Bl mg:=⟨PySem.W.mg_none_of X G z_abs,PySem.W.mg_none_of X G z_bool,PySem.W.mg_none_of X G z_dict,PySem.W.mg_none_of X G z_int,PySem.W.mg_none_of X G z_isinstance,PySem.W.mg_none_of X G z_len,PySem.W.mg_none_of X G z_list,PySem.W.mg_none_of X G z_max,PySem.W.mg_none_of X G z_range,PySem.W.mg_none_of X G z_reversed,PySem.W.mg_none_of X G z_set,PySem.W.mg_none_of X G z_sorted,PySem.W.mg_none_of X G z_str,PySem.W.mg_none_of X G z_sum,PySem.W.mg_none_of X G z_tuple,PySem.W.mg_none_of X G z_zip⟩
 have F15:FunD K "kinds" "kinds" z2Y f15 _ (.int 500 fTk15):=⟨_,_,_,_,_,_,_,_,_,_,_,_,_,_,rfl,l15,c15,lt15⟩
 have bM15:=F15.binds (ps:=["sheet", "most"]) (ds:=[]) fun _ _ _ _ _ _ _ us hl=>match us,hl with | [_,_],_=>⟨_,rfl,rfl⟩
 have bD15:=F15.binds (ps:=["sheet", "most"]) (ds:=[.int 500 fTk15]) fun _ _ _ _ _ _ _ us hl=>(show us.length=1->_ from fun h=>match us,h with | [_],_=>⟨_,rfl,rfl⟩) (by simpa using hl)
 have N15:FnD K mg "kinds" z2Y ["sheet", "most"] (.int 500):=⟨_,_,_,F15,bM15,bD15,⟨_,rfl⟩,k15,PySem.W.mg_of X G a15⟩
 have F17:FunD K "tables_of" "tables_of" z1e f17 _ (.int 500 fTk17):=⟨_,_,_,_,_,_,_,_,_,_,_,_,_,_,rfl,l17,c17,lt17⟩
 have bM17:=F17.binds (ps:=["sheet", "most"]) (ds:=[]) fun _ _ _ _ _ _ _ us hl=>match us,hl with | [_,_],_=>⟨_,rfl,rfl⟩
 have bD17:=F17.binds (ps:=["sheet", "most"]) (ds:=[.int 500 fTk17]) fun _ _ _ _ _ _ _ us hl=>(show us.length=1->_ from fun h=>match us,h with | [_],_=>⟨_,rfl,rfl⟩) (by simpa using hl)
 have N17:FnD K mg "tables_of" z1e ["sheet", "most"] (.int 500):=⟨_,_,_,F17,bM17,bD17,⟨_,rfl⟩,k17,PySem.W.mg_of X G a17⟩
 have F37:=y3Z (st:=z6a) l37 c37 k37
 have FI_TooMany:=y3Z (st:=Fd.z1o) li_TooMany ci_TooMany ki_TooMany
 have bI_TooMany:=FI_TooMany.binds (ps:=["self", "most"]) fun _ _ _ _ _ _ us hl=>match us,hl with | [_,_],_=>rfl
 have ST_TooMany:ExcSt K z0v:=⟨⟨ei0_TooMany,ei1_TooMany,ei2_TooMany,ei3_TooMany,ei4_TooMany,ei5_TooMany⟩,sa_TooMany,ov_TooMany⟩
 refine⟨PySem.W.fnOf "law" "law" (defArgs z6a) (defBody z6a) (defScope z6a) .none kV37 dc37 pm37 an37 cd37 ct37,fun s v => .of_eq rfl,fun base _ _=>?_⟩
 exact y8h (P:=l.prog) (w:=w) (base:=base) B ⟨PySem.W.mg_of X G ac_TooMany⟩ z1s ⟨ei0_TooMany,ei1_TooMany,ei2_TooMany,ei3_TooMany,ei4_TooMany,ei5_TooMany⟩ (ExcK.mk' (P:=l.prog) (w:=w) (base:=base) (PySem.W.mg_of X G ac_TooMany) ST_TooMany na_TooMany kp_TooMany ⟨_,_,_,_,_,_,_,_,_,_,_,_,_,_,_,_,lk_TooMany,tl_TooMany,nk_TooMany,ni_TooMany⟩ li_TooMany (z9s FI_TooMany ST_TooMany na_TooMany) bI_TooMany) (H0.fn X G (fun _ _ _ _ _ _=>us2 fun _ _=>rfl)) (H1.fn X G (fun _ _ _ _ _ _=>us1 fun _=>rfl)) (H2.fn X G (fun _ _ _ _ _ _=>us2 fun _ _=>rfl)) (H3.fn X G (fun _ _ _ _ _ _=>us2 fun _ _=>rfl)) (H4.fn X G (fun _ _ _ _ _ _=>us2 fun _ _=>rfl)) (H5.fn X G (fun _ _ _ _ _ _=>us2 fun _ _=>rfl)) (H6.fn X G (fun _ _ _ _ _ _=>us2 fun _ _=>rfl)) (H7.fn X G (fun _ _ _ _ _ _=>us1 fun _=>rfl)) (H8.fn X G (fun _ _ _ _ _ _=>us1 fun _=>rfl)) (H9.fn X G (fun _ _ _ _ _ _=>us2 fun _ _=>rfl)) (H10.fn X G (fun _ _ _ _ _ _=>us2 fun _ _=>rfl)) (H11.fn X G (fun _ _ _ _ _ _=>us2 fun _ _=>rfl)) (H12.fn X G (fun _ _ _ _ _ _=>us1 fun _=>rfl)) (H13.fn X G (fun _ _ _ _ _ _=>us1 fun _=>rfl)) (H14.fn X G (fun _ _ _ _ _ _=>us2 fun _ _=>rfl)) N15 (H16.fn X G (fun _ _ _ _ _ _=>us2 fun _ _=>rfl)) N17 (H18.fn X G (fun _ _ _ _ _ _=>us2 fun _ _=>rfl)) (H19.fn X G (fun _ _ _ _ _ _=>us2 fun _ _=>rfl)) (H20.fn X G (fun _ _ _ _ _ _=>us2 fun _ _=>rfl)) (H21.fn X G (fun _ _ _ _ _ _=>us2 fun _ _=>rfl)) (H22.fn X G (fun _ _ _ _ _ _=>us2 fun _ _=>rfl)) (H23.fn X G (fun _ _ _ _ _ _=>us2 fun _ _=>rfl)) (H24.fn X G (fun _ _ _ _ _ _=>us2 fun _ _=>rfl)) (H25.fn X G (fun _ _ _ _ _ _=>us3 fun _ _ _=>rfl)) (H26.fn X G (fun _ _ _ _ _ _=>us3 fun _ _ _=>rfl)) (H27.fn X G (fun _ _ _ _ _ _=>us2 fun _ _=>rfl)) (H28.fn X G (fun _ _ _ _ _ _=>us1 fun _=>rfl)) (H29.fn X G (fun _ _ _ _ _ _=>us2 fun _ _=>rfl)) (H30.fn X G (fun _ _ _ _ _ _=>us2 fun _ _=>rfl)) (H31.fn X G (fun _ _ _ _ _ _=>us2 fun _ _=>rfl)) (H32.fn X G (fun _ _ _ _ _ _=>us4 fun _ _ _ _=>rfl)) (H33.fn X G (fun _ _ _ _ _ _=>us2 fun _ _=>rfl)) (H34.fn X G (fun _ _ _ _ _ _=>us4 fun _ _ _ _=>rfl)) (H35.fn X G (fun _ _ _ _ _ _=>us2 fun _ _=>rfl)) (H36.fn X G (fun _ _ _ _ _ _=>us1 fun _=>rfl)) F37
theorem walk{l:PySem.W.OpenLaw}{q:Program}{loose:List Str}{XP:(Str->Option Value)->Heap->Prop}{YP:World->Heap->Prop}{d:DefRec}{K:Params->PySem.W.Frag}(hn:l.most=some 63)(hdf:d.params.defaults=[])
 (hY:∀ (w:World) (h:Heap),YP w h->(K w.params).In h)
 (F:∀ (w:World) (mg:Str->Option Value) (fa:Addr) (h:Heap),(K w.params).In h->h.Ns mainGlobals mg->mg d.name=some (.ref fa) ->
  ∃ fd:FuncData,(∀ (s:Shared) (u:Value),BindsTo s fd ⟨[u],[]⟩ [("_law_script",u)])/\∀ base:Heap,(K w.params).In base->base.Ns mainGlobals mg->FnOk l.prog w (K w.params) mg base CX0 60 fa fd ["_law_script"] (y2H (K w.params))) :
 PySem.W.WalkO q loose XP YP l.row.toRowW d [] (fun f vs=>PySem.call f vs) :=
 L2.y7a (n:=63) (k:=60) (x := "_law_script") (CX:=fun _=>CX0) (sp:=fun w=>y2H (K w.params)) hn (by decide) hdf ⟨rfl,by decide,by decide⟩ hY F (fun _ _ a ns hl _ hS=>⟨a,ns,rfl,hS,hl,fun _=>rfl⟩) fun _ _ _ _ _ z=>z
end Fd
open PySem PySem.W PyProof.Rows
local macro_rules | `(tactic| o_head $H:term) => `(tactic| (refine holds_open (q := FdE.viewQ) (loose := ["kinds", "tables_of"]) (Xt := fun s => xlAt FdE.viewQ [] s && recOk (RowW.records (OpenRow.toRowW (OpenLaw.row PySem.Challenge.rw_fairdraw_k62_tables_of_rows))) s) (XP := XL FdE.viewQ []) (Yf := Hook.obs $H) (Ya := Hook.val $H) (YP := Hook.says $H) (N := 3844) ?_ (Hook.of $H) (Hook.keeps $H) (fun s e => xl_of s (Bool.and_eq_true_iff.mp e).1) XL.keeps (by rfl) (by rfl) (by rfl) (fun s e => recFacts_of (Bool.and_eq_true_iff.mp e).2) (by rfl) (by first | assumption | decide +kernel) (by decide +kernel) ⟨rfl, rfl, rfl, rfl, rfl, by decide +kernel⟩ ?_ ?_))
set_option maxRecDepth 100000 in
set_option maxHeartbeats 0 in
theorem PySem.Challenge.cw_fairdraw_k62_tables_of_rows_holds : PySem.Challenge.rw_fairdraw_k62_tables_of_rows.Holds := by
 w_on;refine holds_law (by as_aux_lemma=>(rw[PySem.W.Fast.te9446332074065402090];kernel_rfl)) fun said=>?_;o_head (kHook FdE.pre.heap_1 ((FdE.pre.heap_1 FdE.P0).map (·.1)) (fun _=>by kernel_rfl))
 · exact FdE.left
 · w_witness2
 k_fill
 refine Fd.walk (l:=PySem.Challenge.rw_fairdraw_k62_tables_of_rows) rfl rfl (fun w h Y=>PySem.W.kIn_of Y) ?F
 case F =>
  intro w mg fa h KX G hmg
  refine' Fd.x0D KX G hmg ?H0 ?H1 ?H2 ?H3 ?H4 ?H5 ?H6 ?H7 ?H8 ?H9 ?H10 ?H11 ?H12 ?H13 ?H14 ?lt15 ?a15 ?l15 ?c15 ?k15 ?H16 ?lt17 ?a17 ?l17 ?c17 ?k17 ?H18 ?H19 ?H20 ?H21 ?H22 ?H23 ?H24 ?H25 ?H26 ?H27 ?H28 ?H29 ?H30 ?H31 ?H32 ?H33 ?H34 ?H35 ?H36 ?a37 ?l37 ?c37 ?k37  ?li_TooMany ?ci_TooMany ?ki_TooMany ?kp_TooMany ?na_TooMany ?sa_TooMany ?ov_TooMany ?lk_TooMany ?tl_TooMany ?nk_TooMany ?ni_TooMany   ?ac_TooMany ?ei0_TooMany ?ei1_TooMany ?ei2_TooMany ?ei3_TooMany ?ei4_TooMany ?ei5_TooMany  ?z1s      ?z_abs ?z_bool ?z_dict ?z_int ?z_isinstance ?z_len ?z_list ?z_max ?z_range ?z_reversed ?z_set ?z_sorted ?z_str ?z_sum ?z_tuple ?z_zip
  (case H0 | H1 | H2 | H3 | H4 | H5 | H6 | H7 | H8 | H9 | H10 | H11 | H12 | H13 | H14 | H16 | H18 | H19 | H20 | H21 | H22 | H23 | H24 | H25 | H26 | H27 | H28 | H29 | H30 | H31 | H32 | H33 | H34 | H35 | H36=>refine' Fd.x0X ?a ?l ?c ?k;(case a=>k_is);(case l=>k_is);(case c=>k_is);(case k=>k_is))
  (case a15=>k_is);(case l15=>k_is);(case c15=>k_is);(case k15=>k_is);(case lt15=>k_is)
  (case a17=>k_is);(case l17=>k_is);(case c17=>k_is);(case k17=>k_is);(case lt17=>k_is)
  (case a37=>k_is);(case l37=>k_is);(case c37=>k_is);(case k37=>k_is)
  (case ac_TooMany=>k_is)
  (case lk_TooMany=>k_is);(case ni_TooMany=>k_is);(case li_TooMany=>k_is);(case ci_TooMany=>k_is);(case ki_TooMany=>k_is);(case kp_TooMany=>k_is);(case na_TooMany=>k_is);(case sa_TooMany=>k_is)
  (case ov_TooMany=>kernel_rfl);(case tl_TooMany=>kernel_rfl);(case nk_TooMany=>kernel_rfl)
  (case ei0_TooMany=>k_is);(case ei1_TooMany=>k_is);(case ei2_TooMany=>k_is);(case ei3_TooMany=>k_is);(case ei4_TooMany=>k_is);(case ei5_TooMany=>k_is)
  (case z1s=>kts_exm)
  (case z_abs | z_bool | z_dict | z_int | z_isinstance | z_len | z_list | z_max | z_range | z_reversed | z_set | z_sorted | z_str | z_sum | z_tuple | z_zip=>k_is)
