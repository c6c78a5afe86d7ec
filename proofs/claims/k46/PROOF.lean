import PyProof.Rows.All
import Wide.All
import OpenK.AllK
import Wide.FinOn
import Lean
import PyProof.EqAt
import PyProof.EqKinds
import PyProof.TupleCall
import PyProof.NeKinds
import KE.KSortTup
import KE.KItemsList
import KE.KDictSum
import KE.KTryMore
import KE.KRevIter
import PyProof.SetKind
import PyProof.Rows.SetFrom
import KE.KDictLaws
import PyProof.DictUpdate
import PyProof.MinMaxWalk
import PyProof.WalkInts
import KE.KDictOf
import PyProof.EnumFor
import PyProof.EnumStmt
import PyProof.EnumMake
import PyProof.Rows.EnumRows
import PyProof.Rows.FactsT2
import PyProof.P3Eq
import PyProof.DictRoadsH
import PyProof.FactsAll.NoneType
import PyProof.ZipIter
import PySem.Challenge.RW_fairdraw_k46_whole_any_order
def jA:=@List.length_map
def jB:=@PySem.Heap.get?_push_of_some
def jC:=@List.getD_eq_getElem?_getD
def jD:=@List.getElem?_eq_getElem
def jE:=@Nat.le_refl
def jF:=@List.getElem?_map
def jG:=@List.length_append
def jH:=@List.getElem?_eq_some_iff
def jI:=@List.size_toArray
def jJ:=@PySem.Heap.lt_size
def jK:=@List.mem_cons_of_mem
def jL:=@List.mem_append
def jM:=@List.mem_singleton
def jN:=@List.mem_map
def jO:=@PySem.Heap.get?_push_size
def jP:=@List.mem_append_right
def jQ:=@List.mem_cons
def jR:=@Bool.false_ne_true
def jS:=@List.length_take
def jT:=@List.map_append
def jU:=@Nat.ne_of_lt
def jV:=@List.map_cons
def jW:=@List.mem_append_left
def jX:=@Array.length_toList
def jY:=@Nat.le_trans
def jZ:=@PySem.Heap.get?_update_other
def jg:=@Nat.zero_le
def jh:=@Option.map_eq_some_iff
def ji:=@List.append_assoc
def jk:=@List.mem_of_getElem?
def jm:=@PySem.Heap.get?_update_self
def jo:=@List.map_congr_left
def jp:=@List.pairwise_append
def jq:=@List.take_append_drop
def jr:=@Nat.lt_of_lt_of_le
def js:=@List.length_drop
def jt:=@Array.getElem?_eq_getElem
def ju:=@List.mem_filter
def jv:=@List.mem_cons_self
def jw:=@List.take_succ_eq_append_getElem
def jx:=@List.length_cons
def jy:=@List.take_length
def jz:=@List.getElem?_append_right
def kA:=@List.pairwise_map
def kB:=@Nat.ne_of_gt
def kC:=@Option.isSome_iff_exists
def kD:=@List.getElem_mem
def kE:=@List.length_filter_le
def kF:=@Nat.lt_of_le_of_lt
def kG:=@List.mem_of_mem_take
def kH:=@List.getElem?_append_left
def kI:=@List.nodup_cons
def kJ:=@Int.toNat_natCast
def kK:=@List.take_of_length_le
def kL:=@List.filter_append
def kM:=@List.mem_map_of_mem
def kN:=@Array.getElem?_toList
def kO:=@List.getElem?_eq_none
def kP:=@Nat.le_of_lt
def kQ:=@List.take_sublist
def kR:=@Array.perm_iff_toList_perm
def kT:=@Bool.false_eq_true
def kU:=@List.drop_eq_nil_of_le
def kW:=@List.drop_eq_getElem_cons
def kX:=@List.drop_sublist
def kY:=@List.nodup_append
def kZ:=@List.getElem?_toArray
def ka:=@List.getElem?_take_of_lt
def kc:=@Int.mul_fdiv_cancel_left
def ke:=@List.idxOf_lt_length_iff
def kf:=@List.find?_cons
def kh:=@List.map_map
def ki:=@Rat.num_divInt_den
def kj:=@List.not_mem_nil
def kn:=@List.filter_cons_of_pos
def ko:=@List.filter_cons_of_neg
def kq:=@Nat.lt_irrefl
def ku:=@List.nodup_iff_pairwise_ne
def kx:=@List.take_succ
def k6:=@List.length_reverse
def k7:=@List.append_nil
def k8:=@List.pairwise_iff_getElem
def qA:=@List.mem_flatMap
def qB:=@List.drop_drop
def qC:=@Nat.pow_le_pow_right
def qD:=@List.length_nil
def qE:=@List.map_nil
def qF:=@Array.getElem?_eq_none
def qG:=@Int.ediv_eq_of_eq_mul_right
def qH:=@Int.mul_pos
def qI:=@List.getElem_inj
def qJ:=@Bool.and_eq_true
def qK:=@List.ext_getElem
def qL:=@List.filter_cons
def qM:=@List.drop_zero
def qN:=@List.mem_iff_getElem?
def qO:=@List.length_range
def qP:=@Int.le_of_lt
def qQ:=@List.any_cons
set_option Elab.async false
set_option linter.all false
set_option maxRecDepth 100000
namespace FdE
open PySem PySem.W PySem.Calls PyProof.Rows
theorem y2x{p q:Program}{loose:List Str}{Xt:Shared->Bool}{α:Type}{Yf:Shared->α}{Ya:World->α}{N:Nat}(e:opening p=plainProg p.main.scope.names)(hN:Nat.ble 600 N=true)(f:∀ s,fenceModules? p s=some s)
 (h:∀ (w:World) (os:OsState),(topRun treeTable p w 11 (some (.ref 6)) N ⟨boot_heap w.params,Array.mk [],boot_drawn,boot_toks,os⟩ (topStub p)).map (fun s =>
  ((staticsOk (importedModules p.main.body) (boot_heap w.params) s.heap && namesBound p s.heap && gensDone s && laidKept (boot_heap w.params) s.heap),openSeen q loose (importedModules p.main.body) Xt true s,Yf s))=some (true,openGood q loose,Ya w)):LeftO p q loose Xt Yf Ya N:=fun w=>by
 obtain⟨⟨hp,gs,d,k,os⟩,e1,e2⟩:=jh.mp (boot_open e hN f w)
 simp only[Prod.mk.injEq]at e2
 obtain⟨rfl,rfl,rfl,rfl⟩:=e2
 have size:((boot_heap w.params).isNs mainGlobals && (Array.mk ([]:List GenState)).size == 0)=true/\(boot_heap w.params).objs.size=11/\(boot_heap w.params).nsMap mainGlobals "__annotations__" = some (.ref 6):=⟨by kernel_rfl,by kernel_rfl,by kernel_rfl⟩
 obtain⟨z1,z2,z3⟩:=size
 obtain⟨s,r,l⟩:=jh.mp (h w os)
 simp only[Prod.mk.injEq]at l
 obtain⟨l1,l2,l3⟩:=l
 have t:topFrom treeTable p w N ⟨boot_heap w.params,Array.mk [],boot_drawn,boot_toks,os⟩=some s:=by
  unfold topFrom
  dsimp only
  rw[z1,z2,z3,r]
  show (match staticsOk (importedModules p.main.body) (boot_heap w.params) s.heap && namesBound p s.heap && gensDone s && laidKept (boot_heap w.params) s.heap with | true=>_ | false=>_)=_
  rw[l1]
 unfold openEnds
 rw[e1]
 show (topFrom treeTable p w N _).map _=_
 rw[t]
 exact congrArg some (Prod.ext l2 l3)
abbrev y5t (p q : Program) (loose : List Str) (Xt : Shared -> Bool) {α : Type} (Yf : Shared -> α) (Ya : World -> α) (N : Nat) (w : World) (os : OsState) : Prop := (topRun treeTable p w 11 (some (.ref 6)) N ⟨boot_heap w.params, Array.mk [], boot_drawn, boot_toks, os⟩ (topStub p)).map (fun s =>
      ((staticsOk (importedModules p.main.body) (boot_heap w.params) s.heap && namesBound p s.heap && gensDone s && laidKept (boot_heap w.params) s.heap),openSeen q loose (importedModules p.main.body) Xt true s,Yf s))=some (true,openGood q loose,Ya w)
abbrev y6O(p:Program)(N:Nat)(w:World)(os:OsState):Prop:=(topRun treeTable p w 11 (some (.ref 6)) N ⟨boot_heap w.params,Array.mk [],boot_drawn,boot_toks,os⟩ (topStub p)).map (fun s=>staticsOk (importedModules p.main.body) (boot_heap w.params) s.heap && namesBound p s.heap && gensDone s && laidKept (boot_heap w.params) s.heap)=some true
abbrev y6N(p q:Program)(loose:List Str)(Xt:Shared->Bool)(N:Nat)(w:World)(os:OsState):Prop:=(topRun treeTable p w 11 (some (.ref 6)) N ⟨boot_heap w.params,Array.mk [],boot_drawn,boot_toks,os⟩ (topStub p)).map (fun s=>openSeen q loose (importedModules p.main.body) Xt true s)=some (openGood q loose)
abbrev y6M(p:Program){α:Type}(Yf:Shared->α)(Ya:World->α)(N:Nat)(w:World)(os:OsState):Prop:=(topRun treeTable p w 11 (some (.ref 6)) N ⟨boot_heap w.params,Array.mk [],boot_drawn,boot_toks,os⟩ (topStub p)).map (fun s=>Yf s)=some (Ya w)
theorem y6K{p q:Program}{loose:List Str}{Xt:Shared->Bool}{α:Type}{Yf:Shared->α}{Ya:World->α}{N:Nat}{w:World}{os:OsState}(h1:y6O p N w os)(h2:y6N p q loose Xt N w os)(h3:y6M p Yf Ya N w os):y5t p q loose Xt Yf Ya N w os:=by
 unfold y5t
 unfold y6O at h1
 unfold y6N at h2
 unfold y6M at h3
 obtain⟨s,r,l1⟩:=jh.mp h1
 obtain⟨s2,r2,l2⟩:=jh.mp h2
 obtain⟨s3,r3,l3⟩:=jh.mp h3
 rw[r]at r2 r3
 cases r2;cases r3
 rw[r]
 show some (_,_,_)=some _
 rw[l1,l2,l3]
theorem y8S{β:Type}{l m:List β}{i n:Nat}(h1:(l.drop i).take n=(m.drop i).take n)(h2:l.drop (i + n)=m.drop (i + n)):l.drop i=m.drop i:=by
 rw[<- jq n (l.drop i),<- jq n (m.drop i),h1,qB,qB,h2]
noncomputable def y9j(st:SharedT->Thread->Option (SharedT×Thread))(ok:Thread->Bool):Nat->SharedT->Thread->Option SharedT :=
 @Nat.rec (fun _=>SharedT->Thread->Option SharedT) (fun _ _=>none) (fun _ ih s t =>
  @Bool.rec (fun _=>Option SharedT) (@Bool.rec (fun _=>Option SharedT) none (@Option.rec (SharedT×Thread) (fun _=>Option SharedT) none (fun r=>ih r.1 r.2) (st s t)) (ok t)) (some s) (through t))
theorem z9y{tb:String->Option Builtin}{p:Program}{w:World}{n₀:Nat}{ann:Option Value}:∀ {n:Nat}{s s':SharedT}{t:Thread},y9j (stepT (denote tb) p w) (stepOk n₀ ann) n s t=some s'->topRun tb p w n₀ ann n s.abs t=some s'.abs
 | 0,_,_,_,h=>by cases h
 | n + 1,s,s',t,h=>by
  have h:@Bool.rec (fun _=>Option SharedT) (@Bool.rec (fun _=>Option SharedT) none (@Option.rec (SharedT×Thread) (fun _=>Option SharedT) none (fun r=>y9j (stepT (denote tb) p w) (stepOk n₀ ann) n r.1 r.2) (stepT (denote tb) p w s t)) (stepOk n₀ ann t)) (some s) (through t)=some s':=h
  unfold topRun
  cases he:through t with
  | true=>rw[he]at h;cases h;rfl
  | false =>
   rw[he]at h
   cases hk:stepOk n₀ ann t with
   | false=>rw[hk]at h;cases h
   | true =>
    rw[hk]at h
    cases hs:stepT (denote tb) p w s t with
    | none=>rw[hs]at h;cases h
    | some r=>obtain⟨s₂,t₂⟩:=r;rw[hs]at h;rw[stepT_spec hs];exact z9y h
noncomputable def y9H(P:Params):BT := .node (boot_o_0 P) (.node (boot_o_1 P) (.node (boot_o_3 P) (.node (boot_o_7 P) .nil .nil) .nil) (.node (boot_o_5 P) (.node (boot_o_9 P) .nil .nil) .nil)) (.node (boot_o_2 P) (.node (boot_o_4 P) (.node (boot_o_8 P) .nil .nil) .nil) (.node (boot_o_6 P) (.node (boot_o_10 P) .nil .nil) .nil))
noncomputable def y4W(w:World)(os:OsState):SharedT:=⟨y9H w.params,11,(boot_heap w.params).life,Array.mk [],boot_drawn,boot_toks,os⟩
theorem y0r(w:World)(os:OsState):(y4W w os).abs=⟨boot_heap w.params,Array.mk [],boot_drawn,boot_toks,os⟩:=rfl
theorem y6L{p:Program}{α:Type}{f:Shared->α}{a:α}{N:Nat}{w:World}{os:OsState}(h:(y9j (stepT (denote treeTable) p w) (stepOk 11 (some (.ref 6))) N (y4W w os) (topStub p)).map (fun s=>f s.abs)=some a):(topRun treeTable p w 11 (some (.ref 6)) N ⟨boot_heap w.params,Array.mk [],boot_drawn,boot_toks,os⟩ (topStub p)).map f=some a:=by
 obtain⟨s,r,l⟩:=jh.mp h
 rw[<- y0r,z9y r]
 exact congrArg some l
end FdE
namespace FdE
open PySem
def top(i:Nat):Stmt:=PySem.Challenge.pw_fairdraw_k46_whole_any_order.main.body.getD i (.Pass ⟨0,0,0,0⟩)
end FdE
section FdEarly
open PySem PySem.W PyProof.Rows
def FdE.viewQ:Program:={ PySem.Challenge.pw_fairdraw_k46_whole_any_order with main:={ PySem.Challenge.pw_fairdraw_k46_whole_any_order.main with body:=[FdE.top 1,FdE.top 2,FdE.top 3,FdE.top 5,FdE.top 6,FdE.top 7,FdE.top 8,FdE.top 9,FdE.top 11,FdE.top 12,FdE.top 13,FdE.top 14,FdE.top 16,FdE.top 18,FdE.top 21,FdE.top 22,FdE.top 23,FdE.top 24,FdE.top 25,FdE.top 26,FdE.top 27,FdE.top 28,FdE.top 29,FdE.top 30,FdE.top 31] } }
local macro_rules | `(tactic| o_head $H:term) => `(tactic| (refine holds_open (q := FdE.viewQ) (loose := ["joined", "all_pushed"]) (Xt := fun s => xlAt FdE.viewQ [] s && recOk (RowW.records (OpenRow.toRowW (OpenLaw.row PySem.Challenge.rw_fairdraw_k46_whole_any_order))) s) (XP := XL FdE.viewQ []) (Yf := Hook.obs $H) (Ya := Hook.val $H) (YP := Hook.says $H) (N := 2956) ?_ (Hook.of $H) (Hook.keeps $H) (fun s e => xl_of s (Bool.and_eq_true_iff.mp e).1) XL.keeps (by rfl) (by rfl) (by rfl) (fun s e => recFacts_of (Bool.and_eq_true_iff.mp e).2) (by rfl) (by first | assumption | decide +kernel) (by decide +kernel) ⟨rfl, rfl, rfl, rfl, rfl, by decide +kernel⟩ ?_ ?_))
def FdE.P0:PySem.Params:={ strHash:=fun _=>0,shareClass:=fun _=>0,mergeTok:=fun t=>t,idOf:=fun _=>0,idOfShared:=fun _ _=>0,followText:=fun _=>false,idOfImm:=fun _=>0 }
set_option maxHeartbeats 0 in
theorem FdE.pre(h:False):PySem.Challenge.rw_fairdraw_k46_whole_any_order.Holds:=by
 w_on;refine holds_law h.elim fun said=>?_;k_head <;> exact h.elim
set_option maxHeartbeats 0 in
theorem FdE.run1(w:World)(os:OsState):FdE.y6O PySem.Challenge.pw_fairdraw_k46_whole_any_order 2956 w os:=by
 refine FdE.y6L ?_;rw[PySem.W.Fast.te10156331382660048174,PySem.W.Fast.te11892475500146522536,PySem.W.Fast.te14364793385576792824,PySem.W.Fast.te6613529449190102663];kernel_rfl
set_option maxHeartbeats 0 in
theorem FdE.run2(w:World)(os:OsState):FdE.y6N PySem.Challenge.pw_fairdraw_k46_whole_any_order FdE.viewQ ["joined", "all_pushed"] (fun s=>xlAt FdE.viewQ [] s && recOk (RowW.records (OpenRow.toRowW (OpenLaw.row PySem.Challenge.rw_fairdraw_k46_whole_any_order))) s) 2956 w os:=by
 refine FdE.y6L ?_;rw[PySem.W.Fast.te10156331382660048174,PySem.W.Fast.te11892475500146522536,PySem.W.Fast.te14364793385576792824,PySem.W.Fast.te6613529449190102663,PySem.W.Fast.te4187177175401517315];kernel_rfl
set_option maxHeartbeats 0 in
theorem FdE.run3(w:World)(os:OsState):FdE.y6M PySem.Challenge.pw_fairdraw_k46_whole_any_order (Hook.obs (kHook FdE.pre.heap_1 ((FdE.pre.heap_1 FdE.P0).map (·.1)) (fun _=>by kernel_rfl))) (Hook.val (kHook FdE.pre.heap_1 ((FdE.pre.heap_1 FdE.P0).map (·.1)) (fun _=>by kernel_rfl))) 2956 w os:=by
 refine FdE.y6L ?_;rw[PySem.W.Fast.te10156331382660048174,PySem.W.Fast.te11892475500146522536,PySem.W.Fast.te14364793385576792824,PySem.W.Fast.te6613529449190102663];kernel_rfl
theorem FdE.left:LeftO PySem.Challenge.pw_fairdraw_k46_whole_any_order FdE.viewQ ["joined", "all_pushed"] (fun s=>xlAt FdE.viewQ [] s && recOk (RowW.records (OpenRow.toRowW (OpenLaw.row PySem.Challenge.rw_fairdraw_k46_whole_any_order))) s) (Hook.obs (kHook FdE.pre.heap_1 ((FdE.pre.heap_1 FdE.P0).map (·.1)) (fun _=>by kernel_rfl))) (Hook.val (kHook FdE.pre.heap_1 ((FdE.pre.heap_1 FdE.P0).map (·.1)) (fun _=>by kernel_rfl))) 2956:=FdE.y2x (by kernel_rfl) rfl (fun s=>by kernel_rfl) (fun w os=>FdE.y6K (FdE.run1 w os) (FdE.run2 w os) (FdE.run3 w os))
end FdEarly
set_option Elab.async false
set_option linter.all false
set_option maxRecDepth 100000
namespace L2
open PySem PySem.Spec PyProof.Rows
abbrev Key:=Sum Int Str
def y0H:Key->Value->Bool
 | .inl k,v=>Value.isInt k v
 | .inr x,v=>Value.isStrOf x v
def x0g(w:World):Key->Int
 | .inl k=>hashInt k
 | .inr x=>hashStr w x
theorem z0M:∀ {k:Key}{v:Value},y0H k v=true->(∃ i t,k=Sum.inl i/\v=Value.int i t)\/(∃ x t,k=Sum.inr x/\v=Value.str x t)
 | .inl i,v,h=>by
  obtain⟨t,e⟩:=Value.isInt_shape (k:=i) (v:=v) h
  exact .inl ⟨i,t,rfl,e⟩
 | .inr x,v,h=>by
  obtain⟨t,e⟩:=Value.isStrOf_shape (x:=x) (v:=v) h
  exact .inr ⟨x,t,rfl,e⟩
theorem y2B(i:Int)(t:Tok):y0H (.inl i) (.int i t)=true:=by simp[y0H,Value.isInt]
theorem y2A(x:Str)(t:Tok):y0H (.inr x) (.str x t)=true:=by simp[y0H,Value.isStrOf]
theorem y8p(a b:Int):decide ((Sum.inl a:Key)=Sum.inl b)=(a == b):=by
 by_cases e:a=b
 · subst e;simp
 · have h:¬ (Sum.inl a:Key)=Sum.inl b:=fun q=>e (Sum.inl.inj q)
   rw[decide_eq_false h]
   exact (beq_eq_false_iff_ne.mpr e).symm
theorem y8m(a b:Str):decide ((Sum.inr a:Key)=Sum.inr b)=decide (a=b):=by
 by_cases e:a=b
 · subst e;simp
 · have h:¬ (Sum.inr a:Key)=Sum.inr b:=fun q=>e (Sum.inr.inj q)
   rw[decide_eq_false h,decide_eq_false e]
theorem y8o(a:Int)(b:Str):decide ((Sum.inl a:Key)=Sum.inr b)=false:=decide_eq_false (fun q=>nomatch q)
theorem y8n(a:Str)(b:Int):decide ((Sum.inr a:Key)=Sum.inl b)=false:=decide_eq_false (fun q=>nomatch q)
def z0F(prog:Program)(w:World):PySem.KeyKind prog w Key where
 is:=y0H
 hash:=x0g w
 inj:=fun v a b ha hb=>by
  rcases z0M ha with ⟨i,t,rfl,rfl⟩ | ⟨x,t,rfl,rfl⟩
  · rcases z0M hb with ⟨j,u,rfl,e⟩ | ⟨y,u,rfl,e⟩
    · injection e with e1 _;rw[e1]
    · exact nomatch e
  · rcases z0M hb with ⟨j,u,rfl,e⟩ | ⟨y,u,rfl,e⟩
    · exact nomatch e
    · injection e with e1 _;rw[e1]
 byValue:=fun k v h=>by
  rcases z0M h with ⟨i,t,rfl,rfl⟩ | ⟨x,t,rfl,rfl⟩ <;> rfl
 pyHash:=fun hv h=>by
  rcases z0M hv with ⟨i,t,rfl,rfl⟩ | ⟨x,t,rfl,rfl⟩
  · exact wpAny_pyHash_int h
  · exact wpAny_pyHash_str h
 eqBool:=fun hu hv h=>by
  rcases z0M hu with ⟨i,t,rfl,rfl⟩ | ⟨x,t,rfl,rfl⟩
  · rcases z0M hv with ⟨j,u,rfl,rfl⟩ | ⟨y,u,rfl,rfl⟩
    · rw[y8p]at h;exact wpAny_eqBool_int h
    · rw[y8o]at h;exact SeqAt.EqAt.int_str i t y u _ _ _ _ h
  · rcases z0M hv with ⟨j,u,rfl,rfl⟩ | ⟨y,u,rfl,rfl⟩
    · rw[y8n]at h;exact SeqAt.EqAt.str_int x t j u _ _ _ _ h
    · rw[y8m]at h;exact wpAny_eqBool_str h
 «strs»:=fun k x t v h=>by
  rcases z0M h with ⟨i,u,rfl,e⟩ | ⟨y,u,rfl,e⟩
  · exact nomatch e
  · injection e with e1 _
    subst e1
    cases v <;> rfl
theorem z8F(prog:Program)(w:World)(i:Int)(t:Tok):(z0F prog w).is (.inl i) (.int i t)=true:=y2B i t
theorem z8E(prog:Program)(w:World)(x:Str)(t:Tok):(z0F prog w).is (.inr x) (.str x t)=true:=y2A x t
inductive V where
 | non | bl (b:Bool) | int (i:Int) | str (x:Str) | byt (b:Array UInt8) | flt (b:UInt64) | ref (a:Addr) | ty (n:String)
 deriving DecidableEq
def RelV:V->Value->Prop
 | .non,u=>u=Value.none
 | .bl b,u=>u=Value.bool b
 | .int i,u=>∃ t,u=Value.int i t
 | .str x,u=>∃ t,u=Value.str x t
 | .byt b,u=>∃ t,u=Value.bytes b t
 | .flt b,u=>∃ t,u=Value.float b t
 | .ref a,u=>u=Value.ref a
 | .ty n,u=>u=Value.type n
abbrev Vals:List V->List Value->Prop:=Paired RelV
theorem Vals.length{xs:List V}{us:List Value}(r:Vals xs us):xs.length=us.length:=Paired.length r
theorem Vals.get:∀ {xs:List V}{us:List Value}{i:Nat}{x:V},Vals xs us->xs[i]? = some x->∃ u,us[i]? = some u/\RelV x u
 | _,_,_,_,.nil,e=>by simp at e
 | _,_,0,_,.cons r _,e=>by simp at e;subst e;exact⟨_,rfl,r⟩
 | _,_,i + 1,x,.cons _ t,e=>by
  obtain⟨u,h1,h2⟩:=Vals.get (i:=i) (x:=x) t (by simpa using e)
  exact⟨u,by simpa using h1,h2⟩
theorem Vals.append:∀ {xs ys:List V}{us ws:List Value},Vals xs us->Vals ys ws->Vals (xs ++ ys) (us ++ ws)
 | _,_,_,_,.nil,s=>s
 | _,_,_,_,.cons r t,s => .cons r (Vals.append t s)
theorem Vals.take:∀ {xs:List V}{us:List Value} (n:Nat),Vals xs us->Vals (xs.take n) (us.take n)
 | _,_,0,_ => .nil
 | _,_,_ + 1,.nil => .nil
 | _,_,n + 1,.cons r t => .cons r (Vals.take n t)
theorem Vals.drop:∀ {xs:List V}{us:List Value} (n:Nat),Vals xs us->Vals (xs.drop n) (us.drop n)
 | _,_,0,r=>r
 | _,_,_ + 1,.nil => .nil
 | _,_,n + 1,.cons _ t=>Vals.drop n t
def RelO:Option V->Option Value->Prop
 | some v,some u=>RelV v u
 | none,none=>True
 | _,_=>False
def KV{κ:Type}:List (κ×V)->List (κ×Value)->Prop:=Paired fun (p:κ×V) (q:κ×Value)=>p.1=q.1/\RelV p.2 q.2
def kV:Key->V
 | .inl i => .int i
 | .inr x => .str x
inductive HO where
 /-- a list -/
 | lst (xs:List V)
 /-- a tuple (never changes) -/
 | tup (xs:List V)
 /-- a dict whose keys are ints and texts;one whose keys are tuples of ints and texts (the empty one is both) -/
 | dK (kvs:List (Key×V)) | dT (kvs:List (List Key×V))
 /-- a set of ints: its members,its size -/
 | set (S:Int->Bool) (n:Nat)
 /-- an instance of the class at C,its dict at dx,its attributes -/
 | ins (C dx:Addr) (fs:List (Str×V))
 /-- the dict of the instance at x -/
 | own (x:Addr)
 /-- the dict of an exception -/
 | xd (fs:List (Str×V))
 /-- a bound method,f of x -/
 | met (f x:Addr)
 /-- a range object lo,lo + 1,.. below hi -/
 | rng (lo hi:Int)
 /-- a thing that is known to the object (the script;a dict while a loop walks it): read,never written while it is so -/
 | frz (o:Obj) (u:HO)
 /-- a code object's table -/
 | tbl (ps:Array Value)
 /-- any other thing,by what is true of its one object (a def of one's own: SetO a S n:=HO.ext fun h => ..) -/
 | ext (φ:Heap->Prop)
abbrev Hp:=Addr->Option HO
def upd(H:Hp)(a:Addr)(o:HO):Hp:=fun b=>if b=a then some o else H b
theorem z0a{H:Hp}{a:Addr}{o:HO}:upd H a o a=some o:=by unfold upd;rw[if_pos rfl]
theorem z0k{H:Hp}{a b:Addr}{o:HO}(h:b≠a):upd H a o b=H b:=by unfold upd;rw[if_neg h]
theorem y5G{H:Hp}{a:Addr}{o u:HO}:upd (upd H a o) a u=upd H a u:=by
 funext b;unfold upd;split <;> rfl
theorem y4f{H:Hp}{a b:Addr}{o u:HO}(h:H a=some o)(h':H b=some u)(d:o≠u):a≠b:=by
 intro e;subst e;rw[h]at h';exact d (Option.some.inj h')
theorem z0C{H:Hp}{a b:Addr}{o:HO}(h:H a=some o)(h':H b=none):a≠b:=by
 intro e;subst e;rw[h]at h';cases h'
section
variable (P:Program) (w:World)
def ObjOk(H:Hp)(h:Heap)(a:Addr):HO->Prop
 | .lst xs=>xs.length<=sizeLine/\∃ (its:List Value) (n:Nat),Vals xs its/\h.get? a=some { cls := .type "list",data := .seq its.toArray n }
 | .tup xs=>xs.length<=sizeLine/\∃ its:List Value,Vals xs its/\IsTup h a its.toArray
 | .dK kvs=>kvs.length<=sizeLine/\(a == sysModules)=false/\∃ vs,KV kvs vs/\h.DictOf (z0F P w) a vs
 | .dT kvs=>kvs.length<=sizeLine/\(a == sysModules)=false/\∃ xs:List (List Key×Addr×Value),
  Paired (fun (p:List Key×V) (q:List Key×Addr×Value)=>p.1=q.1/\H q.2.1=some (.tup (p.1.map kV))/\RelV p.2 q.2.2) kvs xs /\
  ∃ o es ep,h.get? a=some o/\o.ExactDict/\o.data = .dict es ep/\es.toList=xs.map (entryOfKey (tupleKind (z0F P w)))/\(xs.map (·.1)).Nodup
 | .set S n=>h.SetOf (intKind P w) a S n
 | .ins C dx fs=>H dx=some (.own a)/\fs.length<=1000/\dx≠a/\h.get? a=some (PySem.W.instObj C dx) /\
  ∃ mA,h.Ns1 dx mA/\(∀ f,RelO (fs.lookup f) (mA f))/\PySem.Within mA (fs.map (·.1))
 | .own _=>∃ o,h.get? a=some o
 | .xd fs=>∃ mA,h.Ns1 a mA/\∀ f,RelO (fs.lookup f) (mA f)
 | .rng lo hi=>∃ t u v,h.get? a=some { cls := .type "range",data := .fields #[.int lo t,.int hi u,.int 1 v] }
 | .frz o u=>h.get? a=some o/\ObjOk H h a u
 | .tbl ps=>h.get? a=some { cls := .none,data := .fields ps }
 | .met f x=>h.get? a=some (PySem.W.methodObj (.ref f) (.ref x))
 | .ext φ=>φ h/\(∃ o,h.get? a=some o)/\∀ h1 h2:Heap,φ h1->(∀ o,h1.get? a=some o->h2.get? a=some o)->φ h2
def HOk(H:Hp)(h:Heap):Prop:=∀ a o,H a=some o->ObjOk P w H h a o
end
section
variable {P:Program}{w:World}{H H':Hp}{h h':Heap}{a:Addr}{o:HO}
theorem ObjOk.lt(x:ObjOk P w H h a o):a < h.objs.size:=by
 cases o with
 | lst xs=>obtain⟨_,_,_,_,e⟩:=x;exact jJ e
 | tup xs=>obtain⟨_,_,_,p⟩:=x;exact p.lt
 | dK kvs=>obtain⟨_,_,_,_,o,_,_,e,_⟩:=x;exact jJ e
 | dT kvs=>obtain⟨_,_,_,_,o,_,_,e,_⟩:=x;exact jJ e
 | set S n=>obtain⟨o,_,_,_,e,_⟩:=x;exact jJ e
 | ins C dx fs=>obtain⟨_,_,_,e,_⟩:=x;exact jJ e
 | own y=>obtain⟨_,e⟩:=x;exact jJ e
 | xd fs=>obtain⟨_,⟨_,_,_,e,_⟩,_⟩:=x;exact jJ e
 | rng lo hi=>obtain⟨_,_,_,e⟩:=x;exact jJ e
 | frz ob u=>obtain⟨e,_⟩:=x;exact jJ e
 | tbl ps=>exact jJ (show h.get? a=some _ from x)
 | met f y=>exact jJ (show h.get? a=some _ from x)
 | ext φ=>obtain⟨_,⟨_,e⟩,_⟩:=x;exact jJ e
theorem Paired.mapP{α β:Type}{F G:α->β->Prop}:∀ {l₁:List α}{l₂:List β},Paired F l₁ l₂->(∀ a b,F a b->G a b)->Paired G l₁ l₂
 | _,_,.nil,_ => .nil
 | _,_,.cons r t,f => .cons (f _ _ r) (Paired.mapP t f)
theorem ObjOk.stay(x:ObjOk P w H h a o)(k:∀ b u,(b=a\/H b=some (.own a))->h.get? b=some u->h'.get? b=some u)
 (ho:∀ b,H b=some (.own a)->H' b=some (.own a)) (ht:∀ b xs,H b=some (.tup xs)->H' b=some (.tup xs)):ObjOk P w H' h' a o:=by
 induction o with
 | lst xs=>obtain⟨z,its,n,r,e⟩:=x;exact⟨z,its,n,r,k _ _ (.inl rfl) e⟩
 | tup xs=>obtain⟨z,its,r,ob,e,c⟩:=x;exact⟨z,its,r,ob,k _ _ (.inl rfl) e,c⟩
 | dK kvs=>obtain⟨z,y,vs,r,ob,es,ep,e,c⟩:=x;exact⟨z,y,vs,r,ob,es,ep,k _ _ (.inl rfl) e,c⟩
 | dT kvs =>
  obtain⟨z,y,xs,r,ob,es,ep,e,c⟩:=x
  exact⟨z,y,xs,Paired.mapP r fun p q z=>⟨z.1,ht _ _ z.2.1,z.2.2⟩,ob,es,ep,k _ _ (.inl rfl) e,c⟩
 | set S n=>obtain⟨ob,es,ep,t,e,c⟩:=x;exact⟨ob,es,ep,t,k _ _ (.inl rfl) e,c⟩
 | ins C dx fs =>
  obtain⟨d,z,ne,e,mA,⟨od,es,ep,e2,c⟩,r⟩:=x
  exact⟨ho _ d,z,ne,k _ _ (.inl rfl) e,mA,⟨od,es,ep,k _ _ (.inr d) e2,c⟩,r⟩
 | own y=>obtain⟨ob,e⟩:=x;exact⟨ob,k _ _ (.inl rfl) e⟩
 | xd fs=>obtain⟨mA,⟨od,es,ep,e,c⟩,r⟩:=x;exact⟨mA,⟨od,es,ep,k _ _ (.inl rfl) e,c⟩,r⟩
 | rng lo hi=>obtain⟨t,u,v,e⟩:=x;exact⟨t,u,v,k _ _ (.inl rfl) e⟩
 | frz ob u ih=>obtain⟨e,q⟩:=x;exact⟨k _ _ (.inl rfl) e,ih q⟩
 | tbl ps =>
  have e:h.get? a=some { cls := .none,data := .fields ps }:=x
  show h'.get? a=some { cls := .none,data := .fields ps }
  exact k a _ (.inl rfl) e
 | met f y =>
  have e:h.get? a=some (PySem.W.methodObj (.ref f) (.ref y)):=x
  show h'.get? a=some (PySem.W.methodObj (.ref f) (.ref y))
  exact k a _ (.inl rfl) e
 | ext φ=>obtain⟨p,⟨o,e⟩,st⟩:=x;exact⟨st _ _ p fun o q=>k _ _ (.inl rfl) q,⟨o,k _ _ (.inl rfl) e⟩,st⟩
theorem HOk.lt(x:HOk P w H h)(e:H a=some o):a < h.objs.size:=(x a o e).lt
theorem HOk.fresh(x:HOk P w H h)(e:h.objs.size<=a):H a=none:=by
 cases q:H a with
 | none=>rfl
 | some u=>exact absurd (jr (x.lt q) e) (kq _)
theorem HOk.kept(x:HOk P w H h)(k:∀ b u,h.get? b=some u->h'.get? b=some u):HOk P w H h':=fun a o e =>
 (x a o e).stay (fun b u _ q=>k b u q) (fun _ q=>q) fun _ _ q=>q
theorem HOk.laid(x:HOk P w H h)(k:∀ b u,h.get? b=some u->h'.get? b=some u)(hp:h.objs.size<=a)(new:ObjOk P w (upd H a o) h' a o):HOk P w (upd H a o) h':=fun b u e=>by
 have hn:=x.fresh hp
 by_cases hb:b=a
 · subst hb;rw[z0a]at e;cases e;exact new
 · rw[z0k hb]at e
   exact (x b u e).stay (fun c v _ q=>k c v q) (fun c q=>by rw[z0k (z0C q hn)];exact q) fun c xs q=>by rw[z0k (z0C q hn)];exact q
end
def Rd(H:Hp)(a:Addr)(u:HO):Prop:=H a=some u\/∃ o,H a=some (.frz o u)
theorem Rd.ok{P:Program}{w:World}{H:Hp}{h:Heap}{a:Addr}{u:HO}(r:Rd H a u)(x:HOk P w H h):ObjOk P w H h a u:=by
 rcases r with r | ⟨o,r⟩
 · exact x a u r
 · obtain⟨_,q⟩:=x a _ r
   exact q
def Mut:Option HO->Prop
 | some (.lst _)=>True
 | some (.dK _)=>True
 | some (.dT _)=>True
 | some (.set _ _)=>True
 | some (.ins _ _ _)=>True
 | some (.ext _)=>True
 | _=>False
section
variable {P:Program}{w:World}{H:Hp}{h h':Heap}{x e:Addr}{o':HO}
theorem HOk.write(ok:HOk P w H h)(mu:Mut (H x))(he:e=x\/H e=some (.own x))(k:∀ b u,b≠e->h.get? b=some u->h'.get? b=some u)(heo:∃ u,h'.get? e=some u)
 (new:ObjOk P w (upd H x o') h' x o'):HOk P w (upd H x o') h':=fun b u q=>by
 have nown:∀ c y,H c=some (.own y)->c≠x:=fun c y r z=>by subst z;rw[r]at mu;exact mu
 have ntup:∀ c xs,H c=some (.tup xs)->c≠x:=fun c xs r z=>by subst z;rw[r]at mu;exact mu
 by_cases hb:b=x
 · subst hb;rw[z0a]at q;cases q;exact new
 · rw[z0k hb]at q
   by_cases hbe:b=e
   · have q':H b=some (.own x):=by
      rcases he with z | z
      · exact absurd (hbe.trans z) hb
      · rw[hbe];exact z
     rw[q]at q';cases q'
     obtain⟨v,hv⟩:=heo
     exact⟨v,by rw[hbe];exact hv⟩
   · refine (ok b u q).stay (fun c v hc r=>k c v ?_ r) (fun c r=>by rw[z0k (nown c b r)];exact r) fun c xs r=>by rw[z0k (ntup c xs r)];exact r
     rcases hc with rfl | hc
     · exact hbe
     · rintro rfl
       rcases he with z | z
       · exact nown c b hc z
       · rw[hc]at z;cases z;exact hb rfl
end
structure Un (fs ex:List Addr) (H H':Hp) (h h':Heap):Prop where
 keep:∀ b o,h.get? b=some o->H b=none->b∉fs->b∉ex->h'.get? b=some o
 slot:∀ b o,h.get? b=some o->H b=none->b∈fs->b∉ex->∃ sl,h'.get? b=some { o with slots:=sl }
 free:∀ b o,h.get? b=some o->H b=none->b∉ex->H' b=none
 there:∀ b o,h.get? b=some o->b∉ex->∃ o',h'.get? b=some o'
 tups:∀ b xs,H b=some (.tup xs)->H' b=some (.tup xs)
 frzs:∀ b o u,H b=some (.frz o u)->H' b=some (.frz o u)
 tbls:∀ b ps,H b=some (.tbl ps)->∃ more,H' b=some (.tbl (ps ++ more))
section
variable {fs fs' ex ex':List Addr}{H H1 H2:Hp}{h h1 h2 h':Heap}{a x e:Addr}{o:HO}
theorem Un.any(u:Un fs ex H H1 h h1){b:Addr}{ob:Obj}(q:h.get? b=some ob)(n:H b=none)(hx:b∉ex):∃ sl,h1.get? b=some { ob with slots:=sl }:=by
 by_cases hb:b∈fs
 · exact u.slot b ob q n hb hx
 · exact⟨ob.slots,u.keep b ob q n hb hx⟩
theorem Un.kept(k:∀ b u,h.get? b=some u->h'.get? b=some u):Un fs ex H H h h' :=
 ⟨fun b ob q _ _ _=>k b ob q,fun b ob q _ _ _=>⟨ob.slots,k b ob q⟩,fun _ _ _ n _=>n,fun b ob q _=>⟨ob,k b ob q⟩,fun _ _ q=>q,fun _ _ _ q=>q,fun _ ps q=>⟨#[],by rw[q];simp⟩⟩
theorem Un.refl:Un fs ex H H h h:=Un.kept fun _ _ q=>q
theorem Un.laid(k:∀ b u,h.get? b=some u->h'.get? b=some u)(hp:h.objs.size<=a)(hn:H a=none):Un fs ex H (upd H a o) h h' where
 keep:=fun b u q _ _ _=>k b u q
 slot:=fun b u q _ _ _=>⟨u.slots,k b u q⟩
 free:=fun b u q n _=>by rw[z0k (jU (jr (jJ q) hp))];exact n
 there:=fun b u q _=>⟨u,k b u q⟩
 tups:=fun b xs q=>by rw[z0k (z0C q hn)];exact q
 frzs:=fun b u xs q=>by rw[z0k (z0C q hn)];exact q
 tbls:=fun b ps q=>⟨#[],by rw[z0k (z0C q hn),q];simp⟩
theorem Un.write(mu:Mut (H x))(he:e=x\/H e=some (.own x))(k:∀ b u,b≠e->h.get? b=some u->h'.get? b=some u)(heo:∃ u,h'.get? e=some u):Un fs ex H (upd H x o) h h':=by
 have hx:∀ b,H b=none->b≠x:=fun b n z=>by subst z;rw[n]at mu;exact mu
 have hb:∀ b,H b=none->b≠e:=fun b n z=>by
  subst z
  rcases he with r | r
  · exact hx b n r
  · rw[n]at r;cases r
 have hm:∀ b u,H b=some u->¬ Mut (some u)->b≠x:=fun b u q nm z=>by subst z;rw[q]at mu;exact nm mu
 refine⟨fun b u q n _ _=>k b u (hb b n) q,fun b u q n _ _=>⟨u.slots,k b u (hb b n) q⟩,fun b u q n _=>by rw[z0k (hx b n)];exact n,fun b u q _=>?_,
  fun b xs q=>by rw[z0k (hm b _ q fun z=>z)];exact q,fun b u xs q=>by rw[z0k (hm b _ q fun z=>z)];exact q,fun b ps q=>⟨#[],by rw[z0k (hm b _ q fun z=>z),q];simp⟩⟩
 by_cases hbe:b=e
 · subst hbe;exact heo
 · exact⟨u,k b u hbe q⟩
end
def trk(h:Heap)(H:Hp):List Addr:=(List.range h.objs.size).filter fun a=>(H a).isSome
def y4w(h:Heap)(H:Hp):Heap:=PySem.W.hideAll h (trk h H)
theorem y2J(h:Heap)(H:Hp):(y4w h H).objs.size=h.objs.size:=PySem.W.hideAll_size _ _
theorem y4v{h:Heap}{H:Hp}{b:Addr}{o:Obj}(e:h.get? b=some o)(n:H b=none):(y4w h H).get? b=some o :=
 PySem.W.hideAll_get _ e fun hm=>by
  have q:(H b).isSome=true:=(ju.mp hm).2
  rw[n]at q;simp at q
theorem y6v{h:Heap}{H:Hp}{b:Addr}{o:Obj}(e:(y4w h H).get? b=some o):h.get? b=some o/\H b=none:=by
 have e':h.get? b=some o:=PySem.W.of_hideAll (trk h H) e
 refine⟨e',?_⟩
 cases q:H b with
 | none=>rfl
 | some x =>
  have hm:b∈trk h H:=ju.mpr ⟨List.mem_range.mpr (jJ e'),by simp[q]⟩
  have z:(y4w h H).get? b=none:=PySem.W.hideAll_none (trk h H) hm
  rw[z]at e;cases e
structure Mod (K:PySem.W.Frag) (mg:Str->Option Value) (base:Heap):Prop where
 kin:K.In base
 glob:base.Ns mainGlobals mg
 blt:∃ mb,base.Ns builtinsNs mb/\∀ x:Str,x ≠ "__name__" -> mb x=bootBuiltins x
 nolimit:base.NoLimit
structure Cx where
 prog:Program
 w:World
 K:PySem.W.Frag
 mg:Str->Option Value
 base:Heap
 A:Around
 N:List Str
 s₀:Shared
 H₀:Hp
 env:Env
 outer:List Env
 stack:List Env
 ex:List Addr
 fn:Str->Bool
 calm:Bool
 pn:List (Addr×Obj)
 xe:Value->Shared->Prop
def frs(l:List Env):List Addr:=l.filterMap (·.frame)
abbrev Cx.fs(X:Cx):List Addr:=frs X.outer
def Vis(sc:Scope)(x:Str):Prop:=sc.names.lookup x=some .local\/sc.names.lookup x=some .cell\/sc.names.lookup x=some .free
def Loc(sc:Scope)(x:Str):Prop:=sc.names.lookup x=some .local\/sc.names.lookup x=some .cell
def Look(env:Env)(h:Heap)(m:Str->Option Value)(x:Str)(u:Value):Prop :=
 (env.kindOf x=some .local/\m x=some u)\/((env.kindOf x=some .cell\/env.kindOf x=some .free)/\∃ c,env.cells.lookup x=some c/\h.IsCell c (some u))
structure Cx.Ok (X:Cx):Prop where
 mod:Mod X.K X.mg X.base
 kind:X.env.scope.kind = .function
 glob:X.env.globals=mainGlobals
 blt:X.env.builtins=builtinsNs
 above:X.s₀.heap.objs.size<=X.env.locals
 inj:∀ x y c,X.env.cells.lookup x=some c->X.env.cells.lookup y=some c->x=y
 has:∀ x,(X.env.kindOf x=some .cell\/X.env.kindOf x=some .free)->∃ c,X.env.cells.lookup x=some c
 cab:∀ x c,X.fn x=true->X.env.cells.lookup x=some c->X.s₀.heap.objs.size<=c
 hd:X.calm=true->X.A.handled=none
 frames:X.A.frames=some X.stack
 stk:X.stack=X.outer\/(X.stack=X.env :: X.outer/\X.env.frame=some X.env.locals)
 exf:∀ b∈X.ex,b≠X.env.locals/\∀ x c,X.env.cells.lookup x=some c->c≠b
 bs:∀ b o,X.base.get? b=some o->X.s₀.heap.get? b=some o/\X.H₀ b=none
 bsz:X.base.objs.size<=X.s₀.heap.objs.size
 noex:∀ b o,X.base.get? b=some o->b∉X.ex
 exfs:∀ b∈X.ex,b∉X.fs
 funs:X.s₀.heap.FunFrames X.base X.outer
 frf:∀ b∈X.fs,X.H₀ b=none
structure Inv (X:Cx) (pins:List (Addr×Obj)) (σ:List (Option V)) (H:Hp) (s:Shared):Prop where
 ok:X.Ok
 os:s.os=X.s₀.os
 bare:AllBare s.gens
 base:Un X.fs X.ex X.H₀ H X.s₀.heap s.heap
 loc:∃ m,s.heap.Ns X.env.locals m/\∀ (i:Nat) (x:Str) (v:V),X.N[i]? = some x->σ[i]? = some (some v)->Vis X.env.scope x->∃ u,RelV v u/\Look X.env s.heap m x u
 cell:∀ x c,X.env.cells.lookup x=some c->∃ v,s.heap.IsCell c v
 free:H X.env.locals=none
 freeC:∀ x c,X.env.cells.lookup x=some c->H c=none
 pin:∀ p∈X.pn ++ pins,s.heap.get? p.1=some p.2/\H p.1=none/\p.1≠X.env.locals/\p.1∉X.fs/\∀ v,p.2.data ≠ .cell v
 hok:HOk X.prog X.w H s.heap
 len:σ.length=X.N.length
section
variable {X:Cx}{pins:List (Addr×Obj)}{σ:List (Option V)}{H H':Hp}{s:Shared}{h':Heap}
theorem Cx.Ok.nofr(ok:X.Ok){b:Addr}{o:Obj}(e:X.base.get? b=some o):b∉X.fs:=fun hb=>by
 have:=(ok.funs.mem hb).1
 rw[e]at this;cases this
theorem Inv.bs(I:Inv X pins σ H s):∀ b o,X.base.get? b=some o->s.heap.get? b=some o/\H b=none:=fun b o e =>
 ⟨I.base.keep b o (I.ok.bs b o e).1 (I.ok.bs b o e).2 (I.ok.nofr e) (I.ok.noex b o e),I.base.free b o (I.ok.bs b o e).1 (I.ok.bs b o e).2 (I.ok.noex b o e)⟩
theorem Inv.bk(I:Inv X pins σ H s):∀ b o,X.base.get? b=some o->s.heap.get? b=some o:=fun b o e=>(I.bs b o e).1
theorem Inv.mod(I:Inv X pins σ H s):Mod X.K X.mg X.base:=I.ok.mod
theorem Inv.kIn(I:Inv X pins σ H s):X.K.In s.heap:=I.ok.mod.kin.keeps I.bk
theorem Inv.lt(I:Inv X pins σ H s):X.env.locals < s.heap.objs.size:=let ⟨_,hn,_⟩:=I.loc;hn.lt
theorem Inv.sz(I:Inv X pins σ H s):X.s₀.heap.objs.size<=s.heap.objs.size:=jY I.ok.above (kP I.lt)
theorem Inv.nofs(I:Inv X pins σ H s){a:Addr}(h:s.heap.objs.size<=a):a∉X.fs:=fun hb=>by
 obtain⟨_,o,ho,_⟩:=I.ok.funs.mem hb
 exact absurd (jr (jJ ho) (jY I.sz h)) (kq _)
theorem Inv.cne(I:Inv X pins σ H s):∀ x c,X.env.cells.lookup x=some c->c≠X.env.locals:=fun x c e z=>by
 obtain⟨v,o,ho,hd⟩:=I.cell x c e
 obtain⟨m,⟨o',es,ep,ho',hd',_⟩,_⟩:=I.loc
 rw[z,ho']at ho;cases ho;rw[hd']at hd;cases hd
theorem Inv.funs(I:Inv X pins σ H s):s.heap.FunFrames X.base X.outer:=by
 have all:∀ (l:List Env),(∀ b∈frs l,b∈X.fs)->X.s₀.heap.FunFrames X.base l->s.heap.FunFrames X.base l:=by
  intro l
  induction l with
  | nil=>intro _ _;trivial
  | cons env r ih =>
   intro hs hl
   obtain⟨hk,⟨L,o,hf,hn,ho,hd⟩,hr⟩:=hl
   have hL:L∈X.fs:=hs L (by unfold frs;rw[List.filterMap_cons,hf];exact jv)
   obtain⟨sl,e⟩:=I.base.slot L o ho (I.ok.frf L hL) hL fun z=>I.ok.exfs L z hL
   exact⟨hk,⟨L,_,hf,hn,e,hd⟩,ih (fun b hb=>hs b (by unfold frs;rw[List.filterMap_cons,hf];exact jK _ hb)) hr⟩
 exact all X.outer (fun _ hb=>hb) I.ok.funs
theorem Inv.stack(I:Inv X pins σ H s):s.heap.FunFrames X.base X.stack:=by
 rcases I.ok.stk with e | ⟨e,hf⟩
 · rw[e];exact I.funs
 · rw[e]
   obtain⟨m,hn,_⟩:=I.loc
   refine .cons (by rw[I.ok.kind];decide) hf hn ?_ I.funs
   exact Heap.get?_none_of_le (jY I.ok.bsz I.ok.above)
theorem Inv.stkSub(I:Inv X pins σ H s):∀ b∈frs X.stack,b∈X.env.locals :: X.fs:=fun b hb=>by
 rcases I.ok.stk with e | ⟨e,hf⟩
 · rw[e]at hb;exact jK _ hb
 · rw[e]at hb
   unfold frs at hb
   rw[List.filterMap_cons,hf]at hb
   exact hb
theorem Inv.stkFree(I:Inv X pins σ H s):∀ b∈frs X.stack,H b=none:=fun b hb=>by
 rcases jQ.mp (I.stkSub b hb) with e | hb
 · rw[e];exact I.free
 · obtain⟨_,o,ho,_⟩:=I.ok.funs.mem hb
   exact I.base.free b o ho (I.ok.frf b hb) fun z=>I.ok.exfs b z hb
theorem Inv.step{g':Array GenState}{t':Nat}{d':Drawn}{ch:List Addr}(I:Inv X pins σ H s)
 (hch:∀ b∈ch,(b∈X.ex\/X.s₀.heap.objs.size<=b)/\b≠X.env.locals/\(∀ x c,X.env.cells.lookup x=some c->c≠b)/\∀ p∈X.pn ++ pins,p.1≠b)
 (keep:∀ b o,b≠X.env.locals->b∉X.fs->b∉ch->s.heap.get? b=some o->H b=none->h'.get? b=some o)
 (slot:∀ b o,b≠X.env.locals->b∈X.fs->b∉ch->s.heap.get? b=some o->H b=none->∃ sl,h'.get? b=some { o with slots:=sl }) (free:∀ b o,b∉ch->s.heap.get? b=some o->H b=none->H' b=none)
 (there:∀ b o,b∉ch->s.heap.get? b=some o->∃ o',h'.get? b=some o')
 (tups:∀ b xs,H b=some (.tup xs)->H' b=some (.tup xs)) (frzs:∀ b o u,H b=some (.frz o u)->H' b=some (.frz o u)) (tbls:∀ b ps,H b=some (.tbl ps)->∃ more,H' b=some (.tbl (ps ++ more)))
 (ns:∀ m,s.heap.Ns X.env.locals m->h'.Ns X.env.locals m) (hok:HOk X.prog X.w H' h') (hg:AllBare g') :
 Inv X pins σ H' { s with heap:=h',gens:=g',drawn:=d',toks:=t' }:=by
 have neL:∀ b o,X.s₀.heap.get? b=some o->b≠X.env.locals:=fun b o e=>jU (jr (jJ e) I.ok.above)
 have neC:∀ b o,X.s₀.heap.get? b=some o->b∉X.ex->b∉ch:=fun b o e hx hb=>by
  rcases (hch b hb).1 with z | z
  · exact hx z
  · exact absurd (jr (jJ e) z) (kq _)
 have cellK:∀ x c,X.env.cells.lookup x=some c->∀ v,s.heap.IsCell c v->h'.IsCell c v:=fun x c e v ⟨o,ho,hd⟩=>by
  have nch:c∉ch:=fun z=>(hch c z).2.2.1 x c e rfl
  by_cases hc:c∈X.fs
  · obtain⟨sl,q⟩:=slot c o (I.cne x c e) hc nch ho (I.freeC x c e)
    exact⟨_,q,hd⟩
  · exact⟨o,keep c o (I.cne x c e) hc nch ho (I.freeC x c e),hd⟩
 refine⟨I.ok,I.os,hg,⟨fun b o e n hb hx=>?_,fun b o e n hb hx=>?_,fun b o e n hx=>?_,fun b o e hx=>?_,fun b xs e=>tups b xs (I.base.tups b xs e),fun b o xs e=>frzs b o xs (I.base.frzs b o xs e),fun b ps e=>?_⟩,?_,fun x c e=>?_,?_,fun x c e=>?_,fun p hp=>?_,hok,I.len⟩
 · exact keep b o (neL b o e) hb (neC b o e hx) (I.base.keep b o e n hb hx) (I.base.free b o e n hx)
 · obtain⟨sl,e1⟩:=I.base.slot b o e n hb hx
   obtain⟨sl',e2⟩:=slot b _ (neL b o e) hb (neC b o e hx) e1 (I.base.free b o e n hx)
   exact⟨sl',e2⟩
 · obtain⟨o',e1⟩:=I.base.there b o e hx
   exact free b o' (neC b o e hx) e1 (I.base.free b o e n hx)
 · obtain⟨o',e1⟩:=I.base.there b o e hx
   exact there b o' (neC b o e hx) e1
 · obtain⟨m1,e1⟩:=I.base.tbls b ps e
   obtain⟨m2,e2⟩:=tbls b _ e1
   exact⟨m1 ++ m2,by rw[e2,Array.append_assoc]⟩
 · obtain⟨m,hn,hl⟩:=I.loc
   refine⟨m,ns m hn,fun i x v e1 e2 e3=>?_⟩
   obtain⟨u,r,l⟩:=hl i x v e1 e2 e3
   refine⟨u,r,?_⟩
   rcases l with l | ⟨k,c,e,z⟩
   · exact .inl l
   · exact .inr ⟨k,c,e,cellK x c e _ z⟩
 · obtain⟨v,z⟩:=I.cell x c e
   exact⟨v,cellK x c e v z⟩
 · obtain⟨m,⟨o,_,_,ho,_⟩,_⟩:=I.loc
   exact free _ o (fun z=>(hch _ z).2.1 rfl) ho I.free
 · obtain⟨v,o,ho,hd⟩:=I.cell x c e
   exact free c o (fun z=>(hch c z).2.2.1 x c e rfl) ho (I.freeC x c e)
 · obtain⟨e,n,ne,nf,d⟩:=I.pin p hp
   have nch:p.1∉ch:=fun z=>(hch p.1 z).2.2.2 p hp rfl
   exact⟨keep p.1 p.2 ne nf nch e n,free p.1 p.2 nch e n,ne,nf,d⟩
theorem Inv.un{t':Nat}(I:Inv X pins σ H s)(u:Un X.fs [] H H' s.heap h')(hok:HOk X.prog X.w H' h'):Inv X pins σ H' { s with heap:=h',toks:=t' }:=by
 obtain⟨m,⟨o,es,ep,ho,r⟩,_⟩:=id I.loc
 obtain⟨sl,hL⟩:=u.any ho I.free (by simp)
 exact I.step (g':=s.gens) (d':=s.drawn) (ch:=[]) (fun _ z=>nomatch z) (fun b o _ hb _ e n=>u.keep b o e n hb (by simp)) (fun b o _ hb _ e n=>u.slot b o e n hb (by simp)) (fun b o _ e n=>u.free b o e n (by simp)) (fun b o _ e=>u.there b o e (by simp)) u.tups u.frzs u.tbls (fun m' hm=>by
  obtain⟨o',es',ep',ho',r'⟩:=hm
  rw[ho]at ho';cases ho'
  exact⟨_,es',ep',hL,r'⟩) hok I.bare
theorem Inv.call{g':Array GenState}{t':Nat}{d':Drawn}{ch:List Addr}(I:Inv X pins σ H s)(u:Un (frs X.stack) ch H H' s.heap h')(hok:HOk X.prog X.w H' h')(hg:AllBare g')
 (hch:∀ b∈ch,(b∈X.ex\/X.s₀.heap.objs.size<=b)/\b≠X.env.locals/\(∀ x c,X.env.cells.lookup x=some c->c≠b)/\∀ p∈X.pn ++ pins,p.1≠b) :
 Inv X pins σ H' { s with heap:=h',gens:=g',drawn:=d',toks:=t' }:=by
 obtain⟨m,⟨o,es,ep,ho,r⟩,_⟩:=id I.loc
 obtain⟨sl,hL⟩:=u.any ho I.free fun z=>(hch _ z).2.1 rfl
 exact I.step (ch:=ch) hch (fun b o hL hb hc e n=>u.keep b o e n (fun z=>(jQ.mp (I.stkSub b z)).elim hL hb) hc) (fun b o _ _ hc e n=>u.any e n hc) (fun b o hc e n=>u.free b o e n hc) (fun b o hc e=>u.there b o e hc) u.tups u.frzs u.tbls (fun m' hm=>by
  obtain⟨o',es',ep',ho',r'⟩:=hm
  rw[ho]at ho';cases ho'
  exact⟨_,es',ep',hL,r'⟩) hok hg
theorem Inv.turned{t':Nat}{it:Addr}(I:Inv X pins σ H s)(k:∀ b o,b≠it->s.heap.get? b=some o->h'.get? b=some o)(hn:H it=none)(hL:it≠X.env.locals)
 (h1:it∈X.ex\/X.s₀.heap.objs.size<=it) (h2:∀ x c,X.env.cells.lookup x=some c->c≠it) (h3:∀ p∈X.pn ++ pins,p.1≠it):Inv X pins σ H { s with heap:=h',toks:=t' }:=by
 have nit:∀ b u,H b=some u->b≠it:=fun b u e z=>by rw[z,hn]at e;cases e
 refine I.step (g':=s.gens) (d':=s.drawn) (ch:=[it]) (fun b hb=>?_) (fun b o _ _ hc e _=>k b o (fun z=>hc (by simp[z])) e) (fun b o _ _ hc e _=>⟨o.slots,k b o (fun z=>hc (by simp[z])) e⟩) (fun _ _ _ _ n=>n)
  (fun b o hc e=>⟨o,k b o (fun z=>hc (by simp[z])) e⟩) (fun _ _ e=>e) (fun _ _ _ e=>e) (fun b ps e=>⟨#[],by rw[e];simp⟩) (fun m hm=>?_) (fun b u e=>?_) I.bare
 · have e:b=it:=by simpa using hb
   subst e
   exact⟨h1,hL,h2,h3⟩
 · obtain⟨o,es,ep,ho,r⟩:=hm
   exact⟨o,es,ep,k _ o (Ne.symm hL) ho,r⟩
 · refine (I.hok b u e).stay (fun c v hc q=>k c v ?_ q) (fun _ q=>q) fun _ _ q=>q
   rcases hc with z | z
   · rw[z];exact nit b u e
   · exact nit c _ z
theorem Inv.tok(I:Inv X pins σ H s)(t:Nat):Inv X pins σ H { s with toks:=t }:=I.un (h':=s.heap) (t':=t) Un.refl I.hok
theorem Inv.kept{t':Nat}(I:Inv X pins σ H s)(k:∀ b u,s.heap.get? b=some u->h'.get? b=some u):Inv X pins σ H { s with heap:=h',toks:=t' }:=I.un (Un.kept k) (I.hok.kept k)
theorem Inv.laid{a:Addr}{o:HO}{t':Nat}(I:Inv X pins σ H s)(k:∀ b u,s.heap.get? b=some u->h'.get? b=some u)(hp:s.heap.objs.size<=a)(new:ObjOk X.prog X.w (upd H a o) h' a o) :
 Inv X pins σ (upd H a o) { s with heap:=h',toks:=t' }:=I.un (Un.laid k hp (I.hok.fresh hp)) (I.hok.laid k hp new)
theorem Inv.write{x e:Addr}{o:HO}{t':Nat}(I:Inv X pins σ H s)(mu:Mut (H x))(he:e=x\/H e=some (.own x))(k:∀ b u,b≠e->s.heap.get? b=some u->h'.get? b=some u)(heo:∃ u,h'.get? e=some u)
 (new:ObjOk X.prog X.w (upd H x o) h' x o):Inv X pins σ (upd H x o) { s with heap:=h',toks:=t' }:=I.un (Un.write mu he k heo) (I.hok.write mu he k heo new)
theorem Inv.pins_of{pins':List (Addr×Obj)}(I:Inv X pins σ H s)(h:∀ p∈pins',s.heap.get? p.1=some p.2/\H p.1=none/\p.1≠X.env.locals/\p.1∉X.fs/\∀ v,p.2.data ≠ .cell v):Inv X pins' σ H s :=
 ⟨I.ok,I.os,I.bare,I.base,I.loc,I.cell,I.free,I.freeC,fun p hp=>(jL.mp hp).elim (fun z=>I.pin p (jW _ z)) (h p),I.hok,I.len⟩
theorem z9I{N:List Str}(hN:N.Nodup){i j:Nat}{x:Str}(a:N[i]? = some x)(b:N[j]? = some x):i=j:=by
 obtain⟨h1,e1⟩:=jH.mp a
 obtain⟨h2,e2⟩:=jH.mp b
 exact (qI hN).mp (e1.trans e2.symm)
theorem z7g{M:Model}{A:Around}{E:Value->Shared->Prop}{i:Nat}{x:Str}{v:V}{u:Value}{Q:Unit->Shared->Prop}(I:Inv X pins σ H s)(hN:X.N.Nodup)(hi:X.N[i]? = some x)(hx:Loc X.env.scope x)(r:RelV v u)
 (h:∀ s',Inv X pins (σ.set i (some v)) H s'->(∃ a,Heap.SameBut a s.heap s'.heap/\(a=X.env.locals\/X.env.cells.lookup x=some a))->Q () s') (hf:X.fn x=true\/X.env.scope.names.lookup x=some .local:=by first | exact .inl rfl | exact .inr rfl | assumption):wpAny M A (storeName X.env x u) Q E s:=by
 obtain⟨m,hn,hl⟩:=id I.loc
 have hcls:(X.env.scope.kind == .class || (X.env.scope.kind == .module && X.env.locals != X.env.globals))=false:=by rw[I.ok.kind];rfl
 have hiσ:i < σ.length:=by rw[I.len];exact (jH.mp hi).1
 have cne:=I.cne
 have tracked:∀ {a:Addr}{h':Heap},(∃ o,s.heap.get? a=some o/\H a=none)->Heap.SameBut a s.heap h'->HOk X.prog X.w H h':=fun {a h'} ha hs b ob e=>by
  obtain⟨_,_,hfree⟩:=ha
  refine (I.hok b ob e).stay (fun c w' hc q=>(hs.2 c ?_).trans q) (fun _ q=>q) fun _ _ q=>q
  rintro rfl
  rcases hc with rfl | hc
  · rw[hfree]at e;cases e
  · rw[hfree]at hc;cases hc
 rcases hx with hk | hk
 · refine wpAny_storeName_local hk hn (fun h' hn' hs=>?_) hcls
   obtain⟨oL,_,_,hoL,_⟩:=id hn
   refine h _ ⟨I.ok,I.os,I.bare,⟨fun b o e n hb hx=>?_,fun b o e n hb hx=>?_,I.base.free,fun b o e hx=>?_,I.base.tups,I.base.frzs,I.base.tbls⟩,⟨_,hn',fun j y v' e1 e2 e3=>?_⟩,fun y c e=>?_,I.free,I.freeC,fun p hp=>?_,tracked ⟨oL,hoL,I.free⟩ hs,by simpa using I.len⟩ ⟨_,hs,.inl rfl⟩
   · exact (hs.2 b (jU (jr (jJ e) I.ok.above))).trans (I.base.keep b o e n hb hx)
   · obtain⟨sl,e1⟩:=I.base.slot b o e n hb hx
     exact⟨sl,(hs.2 b (jU (jr (jJ e) I.ok.above))).trans e1⟩
   · obtain⟨o',e1⟩:=I.base.there b o e hx
     exact⟨o',(hs.2 b (jU (jr (jJ e) I.ok.above))).trans e1⟩
   · by_cases hj:j=i
     · subst hj
       rw[hi]at e1;cases e1
       rw[List.getElem?_set_self hiσ]at e2
       cases e2
       exact⟨u,r,.inl ⟨hk,by simp⟩⟩
     · rw[List.getElem?_set_ne (Ne.symm hj)]at e2
       obtain⟨u',r',q⟩:=hl j y v' e1 e2 e3
       refine⟨u',r',?_⟩
       rcases q with ⟨k,e⟩ | ⟨k,c,e,z⟩
       · refine .inl ⟨k,?_⟩
         have:y≠x:=fun e=>hj (z9I hN e1 (e ▸ hi))
         simp[this,e]
       · exact .inr ⟨k,c,e,z.sameBut hs (cne y c e)⟩
   · obtain⟨w',z⟩:=I.cell y c e
     exact⟨w',z.sameBut hs (cne y c e)⟩
   · obtain⟨e,n,ne,nf,d⟩:=I.pin p hp
     exact⟨(hs.2 p.1 ne).trans e,n,ne,nf,d⟩
 · have hfn:X.fn x=true:=by
    rcases hf with z | z
    · exact z
    · rw[z]at hk;cases hk
   obtain⟨c,hc⟩:=I.ok.has x (.inl hk)
   obtain⟨w',z⟩:=I.cell x c hc
   refine wpAny_storeName_cell I.ok.kind hk hc z (fun h' hc' hs=>?_)
   obtain⟨oc,hoc,hocd⟩:=id z
   refine h { s with heap:=h' } ⟨I.ok,I.os,I.bare,⟨fun b o e n hb hx=>?_,fun b o e n hb hx=>?_,I.base.free,fun b o e hx=>?_,I.base.tups,I.base.frzs,I.base.tbls⟩,⟨m,hn.sameBut hs (Ne.symm (cne x c hc)),fun j y v' e1 e2 e3=>?_⟩,fun y c' e=>?_,I.free,I.freeC,fun p hp=>?_,tracked ⟨oc,hoc,I.freeC x c hc⟩ hs,by simpa using I.len⟩ ⟨c,hs,.inr hc⟩
   · exact (hs.2 b (jU (jr (jJ e) (I.ok.cab x c hfn hc)))).trans (I.base.keep b o e n hb hx)
   · obtain⟨sl,e1⟩:=I.base.slot b o e n hb hx
     exact⟨sl,(hs.2 b (jU (jr (jJ e) (I.ok.cab x c hfn hc)))).trans e1⟩
   · obtain⟨o',e1⟩:=I.base.there b o e hx
     exact⟨o',(hs.2 b (jU (jr (jJ e) (I.ok.cab x c hfn hc)))).trans e1⟩
   · by_cases hj:j=i
     · subst hj
       rw[hi]at e1;cases e1
       rw[List.getElem?_set_self hiσ]at e2
       cases e2
       exact⟨u,r,.inr ⟨.inl hk,c,hc,hc'⟩⟩
     · rw[List.getElem?_set_ne (Ne.symm hj)]at e2
       obtain⟨u',r',q⟩:=hl j y v' e1 e2 e3
       refine⟨u',r',?_⟩
       rcases q with q | ⟨k,c',e,z'⟩
       · exact .inl q
       · refine .inr ⟨k,c',e,z'.sameBut hs ?_⟩
         rintro rfl
         exact hj (z9I hN e1 (I.ok.inj _ _ _ e hc ▸ hi))
   · by_cases hcc:c'=c
     · subst hcc;exact⟨_,hc'⟩
     · obtain⟨w2,z2⟩:=I.cell y c' e
       exact⟨w2,z2.sameBut hs hcc⟩
   · obtain⟨e,n,ne,nf,d⟩:=I.pin p hp
     refine⟨(hs.2 p.1 ?_).trans e,n,ne,nf,d⟩
     intro q
     rw[q,hoc]at e
     have q':oc=p.2:=Option.some.inj e
     exact d w' (by rw[<- q'];exact hocd)
theorem z4n{M:Model}{A:Around}{E:Value->Shared->Prop}{i:Nat}{x:Str}{v:V}{u:Value}{Q:Unit->Shared->Prop}(I:Inv X pins σ H s)(hN:X.N.Nodup)(hi:X.N[i]? = some x)(hx:Loc X.env.scope x)(r:RelV v u)
 (h:∀ s',Inv X pins (σ.set i (some v)) H s'->Q () s') (hf:X.fn x=true\/X.env.scope.names.lookup x=some .local:=by first | exact .inl rfl | exact .inr rfl | assumption):wpAny M A (storeName X.env x u) Q E s :=
 z7g I hN hi hx r (fun s' I' _=>h s' I') hf
theorem Inv.call'{s':Shared}{ch:List Addr}(I:Inv X pins σ H s)(ho:s'.os=s.os)(u:Un (frs X.stack) ch H H' s.heap s'.heap)(hok:HOk X.prog X.w H' s'.heap)(hg:AllBare s'.gens)
 (hch:∀ b∈ch,(b∈X.ex\/X.s₀.heap.objs.size<=b)/\b≠X.env.locals/\(∀ x c,X.env.cells.lookup x=some c->c≠b)/\∀ p∈X.pn ++ pins,p.1≠b):Inv X pins σ H' s':=by
 obtain⟨h',g',d',t',o'⟩:=s'
 have e:o'=s.os:=ho
 subst e
 exact I.call (g':=g') (t':=t') (d':=d') u hok hg hch
end
abbrev XK:=Value->Option Addr->Hp->Prop
abbrev St:=List (Option V)
abbrev VK:=V->Hp->Prop
abbrev TE:=St->Hp->VK->Prop
abbrev TT:=St->Hp->(Bool->Hp->Prop)->Prop
abbrev TA:=St->Hp->(List V->Hp->Prop)->Prop
structure Ends where
 nx:St->Hp->Prop
 rt:VK
 bk:St->Hp->Prop:=fun _ _=>False
 ct:St->Hp->Prop:=fun _ _=>False
abbrev TS:=Ends->St->Hp->Prop
def EP(X:Cx)(pins:List (Addr×Obj))(σ:St)(Q:VK)(u:Value)(s':Shared):Prop:=∃ v H',Inv X pins σ H' s'/\RelV v u/\Q v H'
def TP(X:Cx)(pins:List (Addr×Obj))(σ:St)(Q:Bool->Hp->Prop)(b:Bool)(s':Shared):Prop:=∃ H',Inv X pins σ H' s'/\Q b H'
def AP(X:Cx)(pins:List (Addr×Obj))(σ:St)(Q:List V->Hp->Prop)(us:List Value)(s':Shared):Prop:=∃ vs H',Inv X pins σ H' s'/\Vals vs us/\Q vs H'
def SP(X:Cx)(pins:List (Addr×Obj))(D:Ends)(f:Flow)(s':Shared):Prop :=
 match f with
 | .next=>∃ σ' H',Inv X pins σ' H' s'/\D.nx σ' H'
 | .brk=>∃ σ' H',Inv X pins σ' H' s'/\D.bk σ' H'
 | .cont=>∃ σ' H',Inv X pins σ' H' s'/\D.ct σ' H'
 | .ret u=>∃ v σ' H',Inv X pins σ' H' s'/\RelV v u/\D.rt v H'
def PE(X:Cx)(e:Expr)(t:TE):Prop :=
 ∀ (pins:List (Addr×Obj)) (s:Shared) (σ:St) (H:Hp) (Q:VK),Inv X pins σ H s->t σ H Q->wpAny (model X.prog X.w) X.A (eval e X.env) (EP X pins σ Q) X.xe s
def PT(X:Cx)(e:Expr)(t:TT):Prop :=
 ∀ (pins:List (Addr×Obj)) (s:Shared) (σ:St) (H:Hp) (Q:Bool->Hp->Prop),Inv X pins σ H s->t σ H Q->wpAny (model X.prog X.w) X.A (isTrue e X.env (eval e X.env)) (TP X pins σ Q) X.xe s
def PW(X:Cx)(e:Expr)(t:TT):Prop :=
 ∀ (whole:Sem Value) (pins:List (Addr×Obj)) (s:Shared) (σ:St) (H:Hp) (Q:Bool->Hp->Prop),Inv X pins σ H s->t σ H Q->wpAny (model X.prog X.w) X.A (isTrue e X.env whole) (TP X pins σ Q) X.xe s
theorem PW.pt{X:Cx}{e:Expr}{t:TT}(h:PW X e t):PT X e t:=h _
def PA(X:Cx)(es:List Expr)(t:TA):Prop :=
 ∀ (pos:Pos) (pins:List (Addr×Obj)) (s:Shared) (σ:St) (H:Hp) (Q:List V->Hp->Prop),Inv X pins σ H s->t σ H Q->wpAny (model X.prog X.w) X.A (spliced (backTo pos (starEach es X.env))) (AP X pins σ Q) X.xe s
def PS(X:Cx)(st:Stmt)(t:TS):Prop :=
 ∀ (pins:List (Addr×Obj)) (s:Shared) (σ:St) (H:Hp) (D:Ends),Inv X pins σ H s->t D σ H->wpAny (model X.prog X.w) X.A (exec st X.env) (SP X pins D) X.xe s
def PSs(X:Cx)(st:List Stmt)(t:TS):Prop :=
 ∀ (pins:List (Addr×Obj)) (s:Shared) (σ:St) (H:Hp) (D:Ends),Inv X pins σ H s->t D σ H->wpAny (model X.prog X.w) X.A (execs st X.env) (SP X pins D) X.xe s
theorem thn{α:Type}{t:Sem α}{Q Q':α->Shared->Prop}{M:Model}{A:Around}{E:Value->Shared->Prop}{s:Shared}(h:wpAny M A t Q E s)(hQ:∀ a s,Q a s->Q' a s):wpAny M A t Q' E s:=wpAny_mono h hQ fun _ _ x=>x
section
variable {X:Cx}
theorem bin{a b:Expr}{ta tb:TE}(ha:PE X a ta)(hb:PE X b tb){pins:List (Addr×Obj)}{s:Shared}{σ:St}{H:Hp}{R:V->V->Hp->Prop}(I:Inv X pins σ H s)(h:ta σ H fun x H1=>tb σ H1 fun y H2=>R x y H2)
 {α:Type}{Q:α->Shared->Prop}{f:Value->Value->Sem α}
 (hf:∀ v u s2 x y H2,Inv X pins σ H2 s2->RelV x v->RelV y u->R x y H2->wpAny (model X.prog X.w) X.A (f v u) Q X.xe s2) :
 wpAny (model X.prog X.w) X.A (eval a X.env) (fun v s₁=>wpAny (model X.prog X.w) X.A (eval b X.env) (fun u s₂=>wpAny (model X.prog X.w) X.A (f v u) Q X.xe s₂) X.xe s₁) X.xe s:=by
 refine thn (ha pins s σ H _ I h) fun v s1 ⟨x,H1,I1,r1,q1⟩=>?_
 refine thn (hb pins s1 σ H1 _ I1 q1) fun u s2 ⟨y,H2,I2,r2,q2⟩=>?_
 exact hf v u s2 x y H2 I2 r1 r2 q2
def y0Z(i:Nat):TE:=fun σ H Q=>∃ v,σ[i]? = some (some v)/\Q v H
def tC(v:V):TE:=fun _ H Q=>Q v H
theorem y7Q{i:Nat}{x:Str}{pos:Pos}(hN:X.N[i]? = some x)(hv:Vis X.env.scope x)(hd:(x == ("__debug__" : Str))=false:=by decide)(hcd:(x == ("__classdict__" : Str))=false:=by decide):PE X (.Name x pos) (y0Z i):=by
 intro pins s σ H Q I h
 obtain⟨v,e,h⟩:=h
 obtain⟨m,hn,hl⟩:=I.loc
 obtain⟨u,r,l⟩:=hl i x v hN e hv
 have fin:EP X pins σ Q u s:=⟨v,H,I,r,h⟩
 rcases l with ⟨hk,hm⟩ | ⟨hk,c,hc,hcell⟩
 · exact wpAny_Name (wpAny_loadName_local I.ok.kind hk hn hm fin) hd
 · rcases hk with hk | hk
   · exact wpAny_Name (wpAny_loadName_cell I.ok.kind hk hc hcell fin) hd
   · exact wpAny_Name (wpAny_loadName_free I.ok.kind hk hc hcell fin hcd) hd
theorem z0d{i j pos}:PE X (.Constant (.int i) j pos) (tC (.int i)):=fun _ _ _ H _ I h=>wpAny_Constant_int ⟨.int i,H,I.tok _,⟨_,rfl⟩,h⟩
theorem y9r{b j pos}:PE X (.Constant (.bool b) j pos) (tC (.bl b)):=fun _ _ _ H _ I h=>Constant_bool ⟨.bl b,H,I,rfl,h⟩
theorem y5f{x j pos}:PE X (.Constant (.str x) j pos) (tC (.str x)):=fun _ _ _ H _ I h=>Calls.Constant_str ⟨.str x,H,I.tok _,⟨_,rfl⟩,h⟩
def Gl(X:Cx)(x:Str):Prop:=X.env.kindOf x=some .globalImplicit
theorem y2z{E:Value->Shared->Prop}{pins:List (Addr×Obj)}{s:Shared}{σ:St}{H:Hp}{x:Str}{u:Value}{pos:Pos}{Q:Value->Shared->Prop}(I:Inv X pins σ H s)(hg:Gl X x)(hm:X.mg x=some u)(h:Q u s)
 (hd:(x == ("__debug__" : Str))=false:=by decide):wpAny (model X.prog X.w) X.A (eval (.Name x pos) X.env) Q E s :=
 Calls.Name_function_global I.ok.kind hg (Calls.loadGlobal_global (by rw[I.ok.glob];exact I.mod.glob.keeps I.bk) hm h) hd
theorem z3z{E:Value->Shared->Prop}{pins:List (Addr×Obj)}{s:Shared}{σ:St}{H:Hp}{x:Str}{u:Value}{pos:Pos}{Q:Value->Shared->Prop}(I:Inv X pins σ H s)(hg:Gl X x)(hm:X.mg x=none)(hv:bootBuiltins x=some u)(h:Q u s)
 (hn:x ≠ "__name__" := by decide) (hd:(x == ("__debug__" : Str))=false:=by decide):wpAny (model X.prog X.w) X.A (eval (.Name x pos) X.env) Q E s:=by
 obtain⟨mb,h1,h2⟩:=I.mod.blt
 exact Calls.Name_function_global I.ok.kind hg (Calls.loadGlobal_builtin (by rw[I.ok.glob];exact I.mod.glob.keeps I.bk) hm (by rw[I.ok.blt];exact h1.keeps I.bk) ((h2 x hn).trans hv) h) hd
theorem y2b{x:Str}{v:V}{u:Value}{pos:Pos}(hg:Gl X x)(hm:X.mg x=none)(hv:bootBuiltins x=some u)(r:RelV v u)(hn:x ≠ "__name__" := by decide)(hd:(x == ("__debug__" : Str))=false:=by decide):PE X (.Name x pos) (tC v) :=
 fun _ _ _ H _ I h=>z3z I hg hm hv ⟨v,H,I,r,h⟩ hn hd
variable {a b:Expr}{ta tb:TE}{pos:Pos}
def tB(t:TE):TT:=fun σ H Q=>t σ H fun x H1=>∃ c,x = .bl c/\Q c H1
theorem y5c{e:Expr}{t:TE}(h:PE X e t)(he:∀ whole,isTrue e X.env whole=(do let v <- whole;standAt e.pos;holding [v] (truthy v)):=by intro _;rfl):PT X e (tB t):=by
 intro pins s σ H Q I hw
 refine isTrue_plain (thn (h pins s σ H _ I hw) fun v s1 ⟨x,H1,I1,r1,q1⟩=>?_) (he _)
 obtain⟨d,rfl,q⟩:=q1
 cases r1
 exact wpAny_truthy_bool ⟨H1,I1,q⟩
variable {tA tB':TT}{rest:List Expr}
def tOr(t u:TT):TT:=fun σ H Q=>t σ H fun c H1=>if c=true then Q true H1 else u σ H1 Q
def y9Z(t:TT):TT:=fun σ H Q=>t σ H fun c H1=>Q (!c) H1
theorem y5a(ha:PT X a tA):PW X (.BoolOp .Or [a] pos) tA:=by
 intro wh pins s σ H Q I h
 refine isTrue_or (thn (ha pins s σ H Q I h) fun c s1 e=>?_)
 cases c with
 | false=>exact isTrue_or_nil e
 | true=>exact e
theorem y7K(ha:PT X a tA)(hb:PW X (.BoolOp .Or (b :: rest) pos) tB'):PW X (.BoolOp .Or (a :: b :: rest) pos) (tOr tA tB'):=by
 intro wh pins s σ H Q I h
 refine isTrue_or (thn (ha pins s σ H _ I h) fun c s1 ⟨H1,I1,q1⟩=>?_)
 cases c with
 | true=>exact⟨H1,I1,q1⟩
 | false=>exact hb wh pins s1 σ H1 Q I1 q1
theorem y5d(ha:PT X a tA):PT X (.UnaryOp .Not a pos) (y9Z tA):=by
 intro pins s σ H Q I h
 exact isTrue_not (ha pins s σ H (fun c H1=>Q (!c) H1) I h)
def y9g(ta tb:TE):TE:=fun σ H Q=>ta σ H fun x H1=>∃ c,x = .bl c/\if c=true then tb σ H1 Q else Q (.bl false) H1
def y9d(ta:TE):TE:=fun σ H Q=>ta σ H fun x H1=>∃ c,x = .bl c/\Q (.bl (!c)) H1
theorem y5g{op}{t:TE}(h:PE X a t):PE X (.BoolOp op [a] pos) t:=fun pins s σ H Q I hw=>BoolOp_one (h pins s σ H Q I hw)
theorem y5h(ha:PE X a ta)(hb:PE X (.BoolOp .And (b :: rest) pos) tb):PE X (.BoolOp .And (a :: b :: rest) pos) (y9g ta tb):=by
 intro pins s σ H Q I h
 refine BoolOp_and (thn (ha pins s σ H _ I h) fun v s1 ⟨x,H1,I1,r1,q1⟩=>?_)
 obtain⟨c,rfl,q1⟩:=q1
 cases r1
 refine wpAny_truthy_bool ?_
 cases c with
 | true=>exact hb pins s1 σ H1 Q I1 q1
 | false=>exact⟨.bl false,H1,I1,rfl,q1⟩
theorem y7R(ha:PE X a ta):PE X (.UnaryOp .Not a pos) (y9d ta):=by
 intro pins s σ H Q I h
 refine UnaryOp_ (thn (ha pins s σ H _ I h) fun v s1 ⟨x,H1,I1,r1,q1⟩=>?_)
 obtain⟨c,rfl,q1⟩:=q1
 cases r1
 exact not_of (wpAny_truthy_bool ⟨.bl (!c),H1,I1,rfl,q1⟩)
def tIf(t:TT)(ta tb:TE):TE:=fun σ H Q=>t σ H fun c H1=>if c=true then ta σ H1 Q else tb σ H1 Q
theorem y3X{c:Expr}(hc:PT X c tA)(ha:PE X a ta)(hb:PE X b tb):PE X (.IfExp c a b pos) (tIf tA ta tb):=by
 intro pins s σ H Q I h
 refine wpAny_IfExp (thn (hc pins s σ H _ I h) fun d s1 ⟨H1,I1,q1⟩=>?_)
 cases d with
 | true=>exact ha pins s1 σ H1 Q I1 q1
 | false=>exact hb pins s1 σ H1 Q I1 q1
end
def SqL(K:PySem.W.Frag)(H:Hp)(a:Addr)(xs:List V):Prop :=
 Rd H a (.lst xs) \/
  ∃ (o:Obj) (its:Array Value) (n:Nat),K.lookup a=some o/\o.cls = .type "list" /\ o.dict=none/\o.data = .seq its n/\its.size<=sizeLine/\Vals xs its.toList
def SqT(K:PySem.W.Frag)(H:Hp)(a:Addr)(xs:List V):Prop :=
 Rd H a (.tup xs) \/
  ∃ (o:Obj) (its:Array Value) (n:Nat),K.lookup a=some o/\o.cls = .type "tuple" /\ o.data = .seq its n/\its.size<=sizeLine/\Vals xs its.toList
def x0o:Value->Option V
 | .none=>some .non
 | .bool b=>some (.bl b)
 | .int i _=>some (.int i)
 | .str x _=>some (.str x)
 | .bytes b _=>some (.byt b)
 | .float b _=>some (.flt b)
 | .ref a=>some (.ref a)
 | .type n=>some (.ty n)
 | _=>none
theorem RelV.abs{x:V}{u:Value}(r:RelV x u):x0o u=some x:=by
 cases x with
 | non=>cases r;rfl
 | bl _=>cases r;rfl
 | int _=>obtain⟨t,rfl⟩:=r;rfl
 | str _=>obtain⟨t,rfl⟩:=r;rfl
 | byt _=>obtain⟨t,rfl⟩:=r;rfl
 | flt _=>obtain⟨t,rfl⟩:=r;rfl
 | ref _=>cases r;rfl
 | ty _=>cases r;rfl
theorem RelV.inj{x y:V}{u:Value}(r:RelV x u)(q:RelV y u):x=y:=Option.some.inj (r.abs.symm.trans q.abs)
theorem Vals.inj:∀ {xs ys:List V}{us:List Value},Vals xs us->Vals ys us->xs=ys
 | _,_,_,.nil,.nil=>rfl
 | _,_,_,.cons r t,.cons r' t'=>by rw[r.inj r',Vals.inj t t']
section
variable {X:Cx}{pins:List (Addr×Obj)}{σ:St}{H:Hp}{s:Shared}{a:Addr}{xs ys:List V}
theorem SqL.of{K:PySem.W.Frag}(h:H a=some (.lst xs)):SqL K H a xs := .inl (.inl h)
theorem SqT.of{K:PySem.W.Frag}(h:H a=some (.tup xs)):SqT K H a xs := .inl (.inl h)
theorem Inv.list(I:Inv X pins σ H s)(h:SqL X.K H a xs):∃ its:List Value,Vals xs its/\PlainL s.heap a its.toArray/\xs.length<=sizeLine:=by
 rcases h with h | ⟨o,its,n,hk,hc,hd,hs,hz,r⟩
 · obtain⟨z,its,n,r,e⟩:=h.ok I.hok
   exact⟨its,r,⟨_,n,e,rfl,rfl,rfl⟩,z⟩
 · refine⟨its.toList,r,⟨o,n,I.kIn a o hk,hc,hd,by simpa using hs⟩,?_⟩
   have e:=r.length
   simp only[jX]at e
   omega
theorem Inv.tuple(I:Inv X pins σ H s)(h:SqT X.K H a xs):∃ its:List Value,Vals xs its/\IsTup s.heap a its.toArray/\xs.length<=sizeLine:=by
 rcases h with h | ⟨o,its,n,hk,hc,hs,hz,r⟩
 · obtain⟨z,its,r,p⟩:=h.ok I.hok
   exact⟨its,r,p,z⟩
 · refine⟨its.toList,r,⟨o,I.kIn a o hk,hc,n,by simpa using hs⟩,?_⟩
   have e:=r.length
   simp only[jX]at e
   omega
theorem Inv.list_inj(I:Inv X pins σ H s)(h:SqL X.K H a xs)(h':SqL X.K H a ys):xs=ys:=by
 obtain⟨its,r,⟨o,n,e,_,_,d⟩,_⟩:=I.list h
 obtain⟨its',r',⟨o',n',e',_,_,d'⟩,_⟩:=I.list h'
 rw[e]at e';cases e'
 rw[d]at d'
 injection d' with d1 _
 have:its=its':=by simpa using congrArg Array.toList d1
 subst this
 exact r.inj r'
theorem Inv.tuple_inj(I:Inv X pins σ H s)(h:SqT X.K H a xs)(h':SqT X.K H a ys):xs=ys:=by
 obtain⟨its,r,⟨o,e,_,n,d⟩,_⟩:=I.tuple h
 obtain⟨its',r',⟨o',e',_,n',d'⟩,_⟩:=I.tuple h'
 rw[e]at e';cases e'
 rw[d]at d'
 injection d' with d1 _
 have:its=its':=by simpa using congrArg Array.toList d1
 subst this
 exact r.inj r'
end
abbrev Cx.wish(X:Cx)(E:Value->Shared->Prop):Cx:={ X with xe:=E }
abbrev Cx.nox(X:Cx):Cx:=X.wish fun _ _=>False
theorem Cx.Ok.wish{X:Cx}(ok:X.Ok)(E:Value->Shared->Prop):(X.wish E).Ok :=
 ⟨ok.mod,ok.kind,ok.glob,ok.blt,ok.above,ok.inj,ok.has,ok.cab,ok.hd,ok.frames,ok.stk,ok.exf,ok.bs,ok.bsz,ok.noex,ok.exfs,ok.funs,ok.frf⟩
theorem Cx.Ok.unwish{X:Cx}{E:Value->Shared->Prop}(ok:(X.wish E).Ok):X.Ok :=
 ⟨ok.mod,ok.kind,ok.glob,ok.blt,ok.above,ok.inj,ok.has,ok.cab,ok.hd,ok.frames,ok.stk,ok.exf,ok.bs,ok.bsz,ok.noex,ok.exfs,ok.funs,ok.frf⟩
section
variable {X:Cx}{pins:List (Addr×Obj)}{σ:St}{H:Hp}{s:Shared}{E:Value->Shared->Prop}
theorem Inv.wish(I:Inv X pins σ H s)(E:Value->Shared->Prop):Inv (X.wish E) pins σ H s:=⟨I.ok.wish E,I.os,I.bare,I.base,I.loc,I.cell,I.free,I.freeC,I.pin,I.hok,I.len⟩
theorem Inv.unwish(I:Inv (X.wish E) pins σ H s):Inv X pins σ H s:=⟨I.ok.unwish,I.os,I.bare,I.base,I.loc,I.cell,I.free,I.freeC,I.pin,I.hok,I.len⟩
theorem SP.unwish{D:Ends}{f:Flow}{s':Shared}(h:SP (X.wish E) pins D f s'):SP X pins D f s':=by
 cases f with
 | next=>obtain⟨σ',H',I,q⟩:=h;exact⟨σ',H',I.unwish,q⟩
 | brk=>obtain⟨σ',H',I,q⟩:=h;exact⟨σ',H',I.unwish,q⟩
 | cont=>obtain⟨σ',H',I,q⟩:=h;exact⟨σ',H',I.unwish,q⟩
 | ret u=>obtain⟨v,σ',H',I,r,q⟩:=h;exact⟨v,σ',H',I.unwish,r,q⟩
theorem PSs.nox{st:List Stmt}{t:TS}(h:PSs X.nox st t):PSs X st t:=fun pins s σ H D I hw =>
 wpAny_mono (h pins s σ H D (I.wish _) hw) (fun _ _ q=>q.unwish) fun _ _ z=>False.elim z
end
section
variable {X:Cx}{st:Stmt}{rest:List Stmt}{t u:TS}{e:Expr}{te:TE}{pos:Pos}
def y7t:TS:=fun D σ H=>D.nx σ H
def y7f(t u:TS):TS:=fun D σ H=>t { D with nx:=u D } σ H
theorem z1k:PSs X [] y7t:=fun _ _ σ H _ I h=>wpAny_execs_nil ⟨σ,H,I,h⟩
theorem z0c(h1:PS X st t)(h2:PSs X rest u):PSs X (st :: rest) (y7f t u):=by
 intro pins s σ H D I h
 refine wpAny_execs_cons (thn (h1 pins s σ H { D with nx:=u D } I h) fun f s1 q=>?_)
 cases f with
 | next =>
  obtain⟨σ',H',I',q⟩:=q
  exact h2 pins s1 σ' H' D I' q
 | ret v=>exact q
 | brk=>exact q
 | cont=>exact q
theorem z0h(h1:PS X st t):PSs X [st] t:=by
 intro pins s σ H D I h
 refine wpAny_execs_cons (thn (h1 pins s σ H D I h) fun f s1 q=>?_)
 cases f with
 | next=>exact wpAny_execs_nil q
 | ret v=>exact q
 | brk=>exact q
 | cont=>exact q
theorem Inv.quiet{pins:List (Addr×Obj)}{σ:St}{H:Hp}{s:Shared}(I:Inv X pins σ H s):interactive X.env=false:=by simp[interactive,I.ok.kind]
def y9e(te:TE):TS:=fun D σ H=>te σ H fun _ H1=>D.nx σ H1
theorem z2p(he:PE X e te)(hs:swapsWith e none pos.line X.env=pure false:=by rfl):PS X (.Expr e pos) (y9e te):=by
 intro pins s σ H D I h
 exact wpAny_Expr_any (thn (he pins s σ H _ I h) fun v s1 ⟨x,H1,I1,r1,q1⟩=>⟨σ,H1,I1,q1⟩) I.quiet hs
def y9c(te:TE):TS:=fun D σ H=>te σ H D.rt
theorem z0X(he:PE X e te):PS X (.Return (some e) pos) (y9c te):=by
 intro pins s σ H D I h
 exact wpAny_Return_some (thn (he pins s σ H _ I h) fun v s1 ⟨x,H1,I1,r1,q1⟩=>⟨x,σ,H1,I1,r1,q1⟩)
def x0a(c:TT)(t u:TS):TS:=fun D σ H=>c σ H fun b H1=>if b=true then t D σ H1 else u D σ H1
theorem z3O{c:Expr}{a b:List Stmt}{tc:TT}(hc:PT X c tc)(ha:PSs X a t)(hb:PSs X b u):PS X (.If c a b pos) (x0a tc t u):=by
 intro pins s σ H D I h
 refine wpAny_If (thn (hc pins s σ H _ I h) fun d s1 ⟨H1,I1,q1⟩=>?_)
 cases d with
 | true=>exact ha pins s1 σ H1 D I1 q1
 | false=>exact hb pins s1 σ H1 D I1 q1
def y7u:TS:=fun _ _ _=>False
theorem z9E:PS X st y7u:=fun _ _ _ _ _ _ h=>h.elim
end
abbrev TG:=V->St->Hp->(St->Hp->Prop)->Prop
abbrev TGs:=List V->St->Hp->(St->Hp->Prop)->Prop
def PG(X:Cx)(target:Expr)(t:TG):Prop :=
 ∀ (pins:List (Addr×Obj)) (s:Shared) (σ:St) (H:Hp) (v:V) (u:Value) (Q:St->Hp->Prop),Inv X pins σ H s->RelV v u->t v σ H Q ->
  wpAny (model X.prog X.w) X.A (assign target X.env u) (fun _ s'=>∃ σ' H',Inv X pins σ' H' s'/\Q σ' H') X.xe s
def PGs(X:Cx)(ts:List Expr)(t:TGs):Prop :=
 ∀ (pins:List (Addr×Obj)) (s:Shared) (σ:St) (H:Hp) (vs:List V) (us:List Value) (Q:St->Hp->Prop),Inv X pins σ H s->Vals vs us->t vs σ H Q ->
  wpAny (model X.prog X.w) X.A (assignInOrder ((assignEach ts X.env).map (·.2)) us) (fun _ s'=>∃ σ' H',Inv X pins σ' H' s'/\Q σ' H') X.xe s
section
variable {X:Cx}{pos:Pos}
def z0Y(i:Nat):TG:=fun v σ H Q=>Q (σ.set i (some v)) H
theorem z0v{i:Nat}{x:Str}(hN:X.N.Nodup)(hi:X.N[i]? = some x)(hx:Loc X.env.scope x)(hf:X.fn x=true\/X.env.scope.names.lookup x=some .local:=by first | exact .inl rfl | exact .inr rfl | assumption):PG X (.Name x pos) (z0Y i):=by
 intro pins s σ H v u Q I r h
 exact wpAny_assign_Name (z4n I hN hi hx r (fun s' I'=>⟨_,H,I',h⟩) hf)
def x0k:TGs:=fun vs σ H Q=>vs=[]/\Q σ H
def y9C(t:TG)(u:TGs):TGs:=fun vs σ H Q=>∃ v r,vs=v :: r/\t v σ H fun σ' H'=>u r σ' H' Q
theorem z4Q:PGs X [] x0k:=by
 intro pins s σ H vs us Q I r h
 obtain⟨e,h⟩:=h
 subst e
 cases r
 exact assignInOrder_nil ⟨σ,H,I,h⟩
theorem z1p{e:Expr}{es:List Expr}{t:TG}{u:TGs}(h1:PG X e t)(h2:PGs X es u)
 (hs:(assignEach (e :: es) X.env).map (·.2)=assign e X.env :: (assignEach es X.env).map (·.2):=by rfl):PGs X (e :: es) (y9C t u):=by
 intro pins s σ H vs us Q I r h
 obtain⟨v,vr,e1,h⟩:=h
 subst e1
 cases r with
 | cons r rr =>
  rw[hs]
  refine assignInOrder_cons (thn (h1 pins s σ H _ _ _ I r h) fun _ s1 ⟨σ1,H1,I1,q1⟩=>?_)
  exact h2 pins s1 σ1 H1 _ _ Q I1 rr q1
def x0j(K:PySem.W.Frag)(n:Nat)(t:TGs):TG:=fun v σ H Q=>∃ a xs,v = .ref a/\SqT K H a xs/\xs.length=n/\t xs σ H Q
theorem z7w{es:List Expr}{k:Nat}{t:TGs}{n:Nat}(hc:X.calm=true)(h:PGs X es t)
 (hn:(assignEach es X.env).length=n:=by rfl) (hst:(assignEach es X.env).findIdx? (·.1)=none:=by rfl):PG X (.Tuple es k pos) (x0j X.K n t):=by
 intro pins s σ H v u Q I r hw
 obtain⟨a,xs,e1,hq,hl,hw⟩:=hw
 subst e1
 cases r
 obtain⟨its,rv,ht,hz⟩:=I.tuple hq
 refine assign_Tuple_tuple (I.ok.hd hc) ht (by simp[hn,<- hl,rv.length]) hst fun h' hx=>?_
 have I1:Inv X pins σ H { s with heap:=h' }:=I.kept (t':=s.toks) fun b o e=>hx b o (jU (jJ e)) e
 exact h pins _ σ H xs _ Q I1 (by simpa using rv) hw
def y1m(te:TE)(g:TG):TS:=fun D σ H=>te σ H fun x H1=>g x σ H1 D.nx
theorem y7N{tg e:Expr}{te:TE}{g:TG}(he:PE X e te)(hg:PG X tg g)(hs:swapsWithSole [tg] e pos.line X.env=pure false:=by rfl)(hw:swappedStores [tg] e X.env=pure none:=by rfl)
 (h1:(assignEach [tg] X.env).map (·.2)=[assign tg X.env]:=by rfl):PS X (.Assign [tg] e pos) (y1m te g):=by
 intro pins s σ H D I h
 refine wpAny_Assign_stores (thn (he pins s σ H _ I h) fun v s1 ⟨x,H1,I1,r1,q1⟩=>?_) hs hw
 rw[h1]
 exact thn (hg pins s1 σ H1 x v _ I1 r1 q1) fun _ s2 q=>q
theorem z0l{i:Nat}{x:Str}{e:Expr}{te:TE}{pos':Pos}(hN:X.N.Nodup)(hi:X.N[i]? = some x)(hx:Loc X.env.scope x)(he:PE X e te)(hs:swapsWith e (some (.Name x pos')) pos.line X.env=pure false:=by rfl)(hf:X.fn x=true\/X.env.scope.names.lookup x=some .local:=by first | exact .inl rfl | exact .inr rfl | assumption) :
 PS X (.Assign [.Name x pos'] e pos) (y1m te (z0Y i)):=by
 intro pins s σ H D I h
 refine wpAny_Assign_Name (thn (he pins s σ H _ I h) fun v s1 ⟨y,H1,I1,r1,q1⟩=>?_) hs
 exact z4n I1 hN hi hx r1 (fun s2 I2=>⟨_,H1,I2,q1⟩) hf
def y9Y(i j:Nat)(ta:TA):TS:=fun D σ H=>ta σ H fun vs H1=>∃ v w,vs=[v,w]/\D.nx ((σ.set i (some v)).set j (some w)) H1
theorem y7M{i j:Nat}{x y:Str}{a b:Expr}{ta:TA}{px py pt:Pos}{kt k2 pt2}(hc:X.calm=true)(hN:X.N.Nodup)(hi:X.N[i]? = some x)(hj:X.N[j]? = some y)(hij:i≠j)
 (hx:X.env.scope.names.lookup x=some .local) (hy:X.env.scope.names.lookup y=some .local) (ha:PA X [a,b] ta)
 (hw:swappedStores [.Tuple [.Name x px,.Name y py] kt pt] (.Tuple [a,b] k2 pt2) X.env=pure (some [x,y]))
 (hs:swapsWithSole [.Tuple [.Name x px,.Name y py] kt pt] (.Tuple [a,b] k2 pt2) pos.line X.env=pure false:=by rfl) :
 PS X (.Assign [.Tuple [.Name x px,.Name y py] kt pt] (.Tuple [a,b] k2 pt2) pos) (y9Y i j ta):=by
 intro pins s σ H D I h
 rw[exec_Assign_arm]
 refine wpAny_bind (wpAny_standAt ?_)
 rw[hs]
 refine wpAny_bind (wpAny_pure ?_)
 rw[if_neg (by decide)]
 refine wpAny_bind (Tuple_ (thn (ha _ pins s σ H _ I h) fun us s1 ⟨vs,H1,I1,r1,q1⟩=>?_))
 obtain⟨v,w,e1,q1⟩:=q1
 subst e1
 obtain⟨u1,u2,rfl,rv,rw'⟩:∃ u1 u2,us=[u1,u2]/\RelV v u1/\RelV w u2:=by
  cases r1 with
  | cons p q =>
   cases q with
   | cons p' q' =>
    cases q'
    exact⟨_,_,rfl,p,p'⟩
 refine wpAny_newObj_type ?_ (by show 2<=sizeLine;decide)
 have I2:Inv X pins σ H1 { s1 with heap:=s1.heap.push { cls := .type "tuple",data := .seq [u1,u2].toArray } }:=I1.kept (t':=s1.toks) fun b o e=>jB _ e
 rw[hw]
 refine wpAny_bind (wpAny_pure ?_)
 show wpAny (model X.prog X.w) X.A (do rule "assign.swapped-stores";let items <- unpackItems (.ref s1.heap.objs.size) 2 none;assignInOrder [fun v=>bindName X.env y v,fun v=>bindName X.env x v] items.reverse;pure Flow.next) _ _ _
 refine wpAny_bind (wpAny_rule (wpAny_bind (unpackItems_tuple (items:=#[u1,u2]) (I.ok.hd hc) (IsTup.new s1.heap _) fun h' hx'=>?_)))
 have I3:=I2.kept (h':=h') (t':=s1.toks) fun b o e=>hx' b o (jU (jJ e)) e
 show wpAny _ _ (assignInOrder [fun v=>bindName X.env y v,fun v=>bindName X.env x v] [u2,u1] >>= fun _=>pure Flow.next) _ _ _
 refine wpAny_bind (assignInOrder_cons (wpAny_bindName (z4n I3 hN hj (.inl hy) rw' (fun s2 I4=>?_) (.inr hy))))
 refine assignInOrder_cons (wpAny_bindName (z4n I4 hN hi (.inl hx) rv (fun s3 I5=>assignInOrder_nil (wpAny_pure ?_)) (.inr hx)))
 rw[List.set_comm _ _ (Ne.symm hij)]at I5
 exact⟨_,H1,I5,q1⟩
end
section
variable {X:Cx}{pos:Pos}
def y4V(c:TT)(tb:TS):TS:=fun D σ H=>∃ W:Nat->St->Hp->Prop,(∃ m,W m σ H)/\∀ m σ H,W m σ H ->
 c σ H fun b H1=>if b=true then ∃ N:St->Hp->Prop,(∀ σ' H',N σ' H'->∃ m',m' < m/\W m' σ' H')/\tb { D with nx:=N,ct:=N,bk:=D.nx } σ H1 else D.nx σ H1
theorem z9D{c:Expr}{body:List Stmt}{tc:TT}{tb:TS}(hp:PassesOwn (model X.prog X.w) X.A X.env X.xe)(hc:PT X c tc)(hb:PSs X body tb):PS X (.While c body [] pos) (y4V tc tb):=by
 intro pins s σ H D I h
 obtain⟨W,⟨m0,w0⟩,turn⟩:=h
 refine wpAny_While (codeAny_whileLoop (fun n s'=>∃ σ' H',Inv X pins σ' H' s'/\W n σ' H') ?_ m0 ⟨σ,H,I,w0⟩)
 rintro n s1 ⟨σ1,H1,I1,w1⟩
 refine wpAny_passesOwn hp (thn (hc pins s1 σ1 H1 _ I1 (turn n σ1 H1 w1)) fun b s2 ⟨H2,I2,q2⟩=>?_)
 cases b with
 | true =>
  obtain⟨N,hN,q2⟩:=q2
  rw[if_pos rfl]
  refine wpAny_passesOwn hp (thn (hb pins s2 σ1 H2 _ I2 q2) fun f s3 q3=>?_)
  cases f with
  | next =>
   obtain⟨σ3,H3,I3,n3⟩:=q3
   obtain⟨m',hm,w3⟩:=hN σ3 H3 n3
   exact⟨m',hm,σ3,H3,I3,w3⟩
  | cont =>
   obtain⟨σ3,H3,I3,n3⟩:=q3
   obtain⟨m',hm,w3⟩:=hN σ3 H3 n3
   exact⟨m',hm,σ3,H3,I3,w3⟩
  | brk=>exact q3
  | ret v=>exact q3
 | false =>
  rw[if_neg jR]
  exact wpAny_execs_nil ⟨σ1,H2,I2,q2⟩
end
structure It where
 go:Nat->Hp->Prop
 yld:Nat->Hp->V->Hp->Prop
 stop:Nat->Hp->Prop
def FpOk(X:Cx)(pins:List (Addr×Obj))(H:Hp)(b:Addr):Prop :=
 H b=none/\b≠X.env.locals/\b∉X.fs/\(b∈X.ex\/X.s₀.heap.objs.size<=b)/\(∀ x c,X.env.cells.lookup x=some c->c≠b)/\∀ p∈X.pn ++ pins,p.1≠b
theorem Inv.fpOk{X:Cx}{pins:List (Addr×Obj)}{σ:St}{H H':Hp}{s:Shared}{b:Addr}(I:Inv X pins σ H s)(hb:s.heap.objs.size<=b)(hn:H' b=none):FpOk X pins H' b:=by
 refine⟨hn,kB (jr I.lt hb),I.nofs hb,.inr (jY I.sz hb),fun x c e z=>?_,fun p hp z=>?_⟩
 · obtain⟨v,q⟩:=I.cell x c e
   exact absurd (jr q.lt (by rw[z];exact hb)) (kq _)
 · exact absurd (jr (jJ (I.pin p hp).1) (by rw[z];exact hb)) (kq _)
structure Turn (P:Program) (w:World) (K:PySem.W.Frag) (tg:Expr) (J:It) (fp:List Addr) (it:Addr) (tn:Nat->Heap->Prop):Prop where
 mem:it∈fp
 obj:∀ i h,tn i h->∀ b∈fp,∃ o,h.get? b=some o/\∀ v,o.data ≠ .cell v
 keep:∀ i h h',tn i h->(∀ b∈fp,∀ o,h.get? b=some o->h'.get? b=some o)->tn i h'
 item:∀ (X:Cx),X.prog=P->X.w=w->X.K=K->X.calm=true->∀ (i:Nat) (pins:List (Addr×Obj)) (s:Shared) (σ:St) (H:Hp) (E:Value->Shared->Prop),Inv X pins σ H s->(∀ b∈fp,FpOk X pins H b)->tn i s.heap->J.go i H ->
  wpAny (model P w) X.A (pyNext (.ref it)) (fun r s1=>∃ u,r=some u /\
   wpAny (model P w) X.A (letOwnedTupleGo tg (.ref it) u) (fun _ s2=>∃ x H',Inv X pins σ H' s2/\RelV x u/\J.yld i H x H'/\tn (i + 1) s2.heap/\∀ b∈fp,H' b=none) E s1) E s
 done:∀ (X:Cx),X.prog=P->X.w=w->X.K=K->X.calm=true->∀ (i:Nat) (pins:List (Addr×Obj)) (s:Shared) (σ:St) (H:Hp) (E:Value->Shared->Prop),Inv X pins σ H s->(∀ b∈fp,FpOk X pins H b)->tn i s.heap->J.stop i H ->
  wpAny (model P w) X.A (pyNext (.ref it)) (fun r s1=>r=none/\Inv X pins σ H s1) E s
 self:∀ (A:Around) (i:Nat) (s:Shared) (Q:Value->Shared->Prop) (E:Value->Shared->Prop),tn i s.heap->Q (.ref it) s->wpAny (model P w) A (pyIter (.ref it)) Q E s
abbrev TI:=St->Hp->(It->Hp->Prop)->Prop
def PIE(X:Cx)(pins:List (Addr×Obj))(σ:St)(tg:Expr)(R:It->Hp->Prop)(itv:Value)(s2:Shared):Prop :=
 ∃ (it:Addr) (fp:List Addr) (tn:Nat->Heap->Prop) (J:It) (H':Hp),itv = .ref it/\Inv X pins σ H' s2/\Turn X.prog X.w X.K tg J fp it tn/\tn 0 s2.heap/\(∀ b∈fp,FpOk X pins H' b)/\R J H'
def PI(X:Cx)(tg iter:Expr)(wi:TI):Prop :=
 ∀ (pins:List (Addr×Obj)) (s:Shared) (σ:St) (H:Hp) (R:It->Hp->Prop),Inv X pins σ H s->wi σ H R ->
  wpAny (model X.prog X.w) X.A (eval iter X.env) (fun v s1=>wpAny (model X.prog X.w) X.A (pyIter v) (PIE X pins σ tg R) X.xe s1) X.xe s
theorem y6P{M:Model}{A:Around}{E:Value->Shared->Prop}{s:Shared}{tg:Expr}{it:Addr}{u:Value}{o:Obj}{n:String}{vs:Array Value}{Q:Unit->Shared->Prop}(ho:s.heap.get? it=some o)(hc:o.cls = .type n)(hd:o.data = .fields vs)
 (hn:["enumerate", "zip", "dict_itemiterator", "dict_reverseitemiterator", "odict_iterator", "itertools.zip_longest", "itertools.pairwise"].contains n=false) (hQ:Q () s):wpAny M A (letOwnedTupleGo tg (.ref it) u) Q E s:=by
 unfold letOwnedTupleGo
 cases tg <;> first
  | exact wpAny_pure hQ
  | (cases u <;> first
   | exact wpAny_pure hQ
   | (refine wpAny_bind (wpAny_load ho ?_)
      rw[hc,hd]
      show wpAny M A (if (["enumerate", "zip", "dict_itemiterator", "dict_reverseitemiterator", "odict_iterator", "itertools.zip_longest", "itertools.pairwise"].contains n && vs[0]? == some (rawInt _))=true then _ else _) Q E s
      rw[if_neg (by intro h;rw[hn,Bool.false_and]at h;cases h)]
      exact wpAny_pure hQ))
def Itl(K:PySem.W.Frag)(a:Addr):It :=
 ⟨fun i H=>∃ xs x,SqL K H a xs/\xs[i]? = some x,fun i H x H'=>H'=H/\∀ xs,SqL K H a xs->xs[i]? = some x,fun i H=>∃ xs,SqL K H a xs/\xs.length<=i⟩
def Itt(K:PySem.W.Frag)(a:Addr):It :=
 ⟨fun i H=>∃ xs x,SqT K H a xs/\xs[i]? = some x,fun i H x H'=>H'=H/\∀ xs,SqT K H a xs->xs[i]? = some x,fun i H=>∃ xs,SqT K H a xs/\xs.length<=i⟩
def Itr(lo:Int)(n:Nat):It:=⟨fun i _=>i < n,fun i H x H'=>H'=H/\x = .int (lo + i),fun i _=>n<=i⟩
theorem z7a{P:Program}{w:World}{K:PySem.W.Frag}{tg:Expr}(a it:Addr):Turn P w K tg (Itl K a) [it] it (fun i h=>h.IsListIter it a i) where
 mem:=by simp
 obj:=fun i h st b hb=>by
  have e:b=it:=by simpa using hb
  subst e
  obtain⟨o,e,c,d⟩:=st
  exact⟨o,e,fun v z=>by rw[d]at z;cases z⟩
 keep:=fun i h h' st k=>st.at fun o e=>k it (by simp) o e
 item:=by
  intro X hP hw hK hc i pins s σ H E I hf st hg
  subst hP hw hK
  obtain⟨xs,x,hq,hx⟩:=hg
  obtain⟨its,rv,p,hz⟩:=I.list hq
  obtain⟨u,hu,ru⟩:=rv.get hx
  obtain⟨f0,f1,f2,f3,f4,f5⟩:=hf it (by simp)
  refine wpAny_pyNext_list_item st p.isList (x:=u) (by simpa using hu) fun h' st' sb=>?_
  have I1:Inv X pins σ H { s with heap:=h' }:=I.turned (t':=s.toks) (fun b o hb e=>(sb.2 b hb).trans e) f0 f1 f3 f4 f5
  obtain⟨o,e,c,d⟩:=id st'
  exact⟨u,rfl,y6P (s:={ s with heap:=h' }) e c d (by decide) ⟨x,H,I1,ru,⟨rfl,fun ys hy=>by rw[I.list_inj hy hq];exact hx⟩,st',fun b hb=>(hf b hb).1⟩⟩
 done:=by
  intro X hP hw hK hc i pins s σ H E I hf st hg
  subst hP hw hK
  obtain⟨xs,hq,hx⟩:=hg
  obtain⟨its,rv,p,hz⟩:=I.list hq
  obtain⟨f0,f1,f2,f3,f4,f5⟩:=hf it (by simp)
  have hl:=rv.length
  exact wpAny_pyNext_list_end (I.ok.hd hc) st p.isList (by simp;omega) fun h' eb=>⟨rfl,I.turned (t':=s.toks) (fun b o hb e=>eb b o hb e) f0 f1 f3 f4 f5⟩
 self:=fun _ _ _ _ _ st h=>wpAny_pyIter_listiter st h
theorem z5z{P:Program}{w:World}{K:PySem.W.Frag}{tg:Expr}(a it:Addr):Turn P w K tg (Itt K a) [it] it (fun i h=>h.IsTupleIter it a i) where
 mem:=by simp
 obj:=fun i h st b hb=>by
  have e:b=it:=by simpa using hb
  subst e
  obtain⟨o,e,c,d⟩:=st
  exact⟨o,e,fun v z=>by rw[d]at z;cases z⟩
 keep:=fun i h h' st k=>st.at fun o e=>k it (by simp) o e
 item:=by
  intro X hP hw hK hc i pins s σ H E I hf st hg
  subst hP hw hK
  obtain⟨xs,x,hq,hx⟩:=hg
  obtain⟨its,rv,p,hz⟩:=I.tuple hq
  obtain⟨u,hu,ru⟩:=rv.get hx
  obtain⟨f0,f1,f2,f3,f4,f5⟩:=hf it (by simp)
  refine wpAny_pyNext_tuple_item st (show s.heap.IsTuple a its.toArray from p) (x:=u) (by simpa using hu) fun h' st' sb=>?_
  have I1:Inv X pins σ H { s with heap:=h' }:=I.turned (t':=s.toks) (fun b o hb e=>(sb.2 b hb).trans e) f0 f1 f3 f4 f5
  obtain⟨o,e,c,d⟩:=id st'
  exact⟨u,rfl,y6P (s:={ s with heap:=h' }) e c d (by decide) ⟨x,H,I1,ru,⟨rfl,fun ys hy=>by rw[I.tuple_inj hy hq];exact hx⟩,st',fun b hb=>(hf b hb).1⟩⟩
 done:=by
  intro X hP hw hK hc i pins s σ H E I hf st hg
  subst hP hw hK
  obtain⟨xs,hq,hx⟩:=hg
  obtain⟨its,rv,p,hz⟩:=I.tuple hq
  obtain⟨f0,f1,f2,f3,f4,f5⟩:=hf it (by simp)
  have hl:=rv.length
  exact wpAny_pyNext_tuple_end (I.ok.hd hc) st (show s.heap.IsTuple a its.toArray from p) (by simp;omega) fun h' eb=>⟨rfl,I.turned (t':=s.toks) (fun b o hb e=>eb b o hb e) f0 f1 f3 f4 f5⟩
 self:=fun _ _ _ _ _ st h=>wpAny_pyIter_tupleiter st h
theorem y0o{P:Program}{w:World}{K:PySem.W.Frag}{tg:Expr}(it:Addr)(lo:Int)(n:Nat):Turn P w K tg (Itr lo n) [it] it (fun i h=>IsRangeIter h it (lo + (i:Nat) * 1) ((n:Int) - (i:Nat)) 1) where
 mem:=by simp
 obj:=fun i h st b hb=>by
  have e:b=it:=by simpa using hb
  subst e
  exact⟨_,st,fun v z=>by
   have z':Data.fields _=Data.cell v:=z
   cases z'⟩
 keep:=fun i h h' st k=>k it (by simp) _ st
 item:=by
  intro X hP hw hK hc i pins s σ H E I hf st hg
  subst hP hw hK
  obtain⟨f0,f1,f2,f3,f4,f5⟩:=hf it (by simp)
  have W:=Walks.range (prog:=X.prog) (w:=X.w) (I.ok.hd hc) it lo 1 n
  refine W.item i s _ _ hg st fun v h' tk hv st' kk=>?_
  obtain⟨t,rfl⟩:=hv
  have I1:Inv X pins σ H { s with heap:=h',toks:=tk }:=I.turned (fun b o hb e=>kk b o (by simpa using hb) e) f0 f1 f3 f4 f5
  refine⟨_,rfl,y6P (s:={ s with heap:=h',toks:=tk }) (n := "range_iterator") st' rfl rfl (by decide) ⟨.int (lo + i),H,I1,⟨t,?_⟩,⟨rfl,rfl⟩,st',fun b hb=>(hf b hb).1⟩⟩
  rw[Int.mul_one]
 done:=by
  intro X hP hw hK hc i pins s σ H E I hf st hg
  subst hP hw hK
  obtain⟨f0,f1,f2,f3,f4,f5⟩:=hf it (by simp)
  exact wpAny_pyNext_range_end (I.ok.hd hc) st (by have:n<=i:=hg;omega) fun h' eb=>⟨rfl,I.turned (t':=s.toks) (fun b o hb e=>eb b o hb e) f0 f1 f3 f4 f5⟩
 self:=fun _ _ _ _ _ st h=>wpAny_pyIter_rangeiter st h
section
variable {X:Cx}{tg:Expr}
def y8z(K:PySem.W.Frag)(tl:TE):TI:=fun σ H R=>tl σ H fun x H1=>∃ a,x = .ref a/\(∃ xs,SqL K H1 a xs)/\R (Itl K a) H1
def y9V(K:PySem.W.Frag)(tl:TE):TI:=fun σ H R=>tl σ H fun x H1=>∃ a,x = .ref a/\(∃ xs,SqT K H1 a xs)/\R (Itt K a) H1
theorem z0I{l:Expr}{tl:TE}(hl:PE X l tl):PI X tg l (y8z X.K tl):=by
 intro pins s σ H R I h
 refine thn (hl pins s σ H _ I h) fun v s1 ⟨x,H1,I1,r1,q1⟩=>?_
 obtain⟨a,e,⟨xs,hq⟩,q⟩:=q1
 subst e
 cases r1
 obtain⟨its,rv,p,hz⟩:=I1.list hq
 refine wpAny_pyIter_list p.isList ?_
 refine⟨s1.heap.objs.size,[s1.heap.objs.size],_,_,H1,rfl,I1.kept (t':=s1.toks) fun b o e=>jB _ e,z7a a _,⟨_,jO _ rfl,rfl,rfl⟩,fun b hb=>?_,q⟩
 have e:b=s1.heap.objs.size:=by simpa using hb
 subst e
 exact I1.fpOk (jE _) (I1.hok.fresh (jE _))
theorem y5e{l:Expr}{tl:TE}(hl:PE X l tl):PI X tg l (y9V X.K tl):=by
 intro pins s σ H R I h
 refine thn (hl pins s σ H _ I h) fun v s1 ⟨x,H1,I1,r1,q1⟩=>?_
 obtain⟨a,e,⟨xs,hq⟩,q⟩:=q1
 subst e
 cases r1
 obtain⟨its,rv,p,hz⟩:=I1.tuple hq
 refine wpAny_pyIter_tuple (show s1.heap.IsTuple a its.toArray from p) ?_
 refine⟨s1.heap.objs.size,[s1.heap.objs.size],_,_,H1,rfl,I1.kept (t':=s1.toks) fun b o e=>jB _ e,z5z a _,⟨_,jO _ rfl,rfl,rfl⟩,fun b hb=>?_,q⟩
 have e:b=s1.heap.objs.size:=by simpa using hb
 subst e
 exact I1.fpOk (jE _) (I1.hok.fresh (jE _))
theorem y3S{pins:List (Addr×Obj)}{σ:St}{H:Hp}{s:Shared}{R:It->Hp->Prop}{E:Value->Shared->Prop}{lo hi:Int}{t u v:Tok}{tk:Nat}(I:Inv X pins σ H s)(h1 : -(2 ^ 62)<=lo)(h2:lo < 2 ^ 62)(h3 : -(2 ^ 62)<=hi)(h4:hi < 2 ^ 62)
 (q:R (Itr lo (hi - lo).toNat) H):wpAny (model X.prog X.w) X.A (pyIter (.ref s.heap.objs.size)) (PIE X pins σ tg R) E { s with heap:=s.heap.push { cls := .type "range",data := .fields #[.int lo t,.int hi u,.int 1 v] },toks:=tk }:=by
 refine wpAny_pyIter_range (IsRange.new ..) (small_one h1 h2 h3 h4) ?_
 have I1:Inv X pins σ H { s with heap:=s.heap.push { cls := .type "range",data := .fields #[.int lo t,.int hi u,.int 1 v] },toks:=tk }:=I.kept fun b o e=>jB _ e
 refine⟨(s.heap.push { cls := .type "range",data := .fields #[.int lo t,.int hi u,.int 1 v] }).objs.size,[(s.heap.push { cls := .type "range",data := .fields #[.int lo t,.int hi u,.int 1 v] }).objs.size],_,_,H,rfl,
  I1.kept (t':=tk) fun b o e=>jB _ e,y0o _ lo (hi - lo).toNat,?_,fun b hb=>?_,q⟩
 · have e1:lo + ((0:Nat):Int) * 1=lo:=by simp
   have e2:(((hi - lo).toNat:Nat):Int) - ((0:Nat):Int)=Builtin.Range.rangeSize lo hi 1:=by rw[rangeSize_one];split <;> omega
   show IsRangeIter _ _ (lo + ((0:Nat):Int) * 1) ((((hi - lo).toNat:Nat):Int) - ((0:Nat):Int)) 1
   rw[e1,e2]
   exact jO _ rfl
 · have e:b=(s.heap.push { cls := .type "range",data := .fields #[.int lo t,.int hi u,.int 1 v] }).objs.size:=by simpa using hb
   subst e
   exact I1.fpOk (jE _) (I1.hok.fresh (jE _))
def y9B(ta:TA):TI:=fun σ H R=>ta σ H fun vs H1=>∃ j:Int,vs=[.int j] /\ -(2 ^ 62)<=j/\j < 2 ^ 62/\R (Itr 0 j.toNat) H1
theorem z3r{a:Expr}{ta:TA}{p pos:Pos}(hg:Gl X "range")(hm:X.mg "range" = none)(ha:PA X [a] ta)(hs:starEach [a] X.env=[(false,eval a X.env)]:=by rfl):PI X tg (.Call (.Name "range" p) [a] [] pos) (y9B ta):=by
 intro pins s σ H R I h
 refine Call_ (z3z I hg hm boot_range (PyProof.Rows.callWith_type1 (thn (ha pos pins s σ H _ I h) fun us s1 ⟨vs,H1,I1,r1,q1⟩=>?_) hs rfl))
 obtain⟨j,e,q1,q2,q⟩:=q1
 subst e
 cases r1 with
 | cons r rr =>
  cases rr
  obtain⟨t,rfl⟩:=r
  exact call_range_1 (y3S I1 (by omega) (by omega) q1 q2 (by simpa using q))
def y9O(wi:TI)(g:TG)(tb:TS):TS:=fun D σ H=>wi σ H fun J H1=>∃ W:Nat->Nat->St->Hp->Prop,(∃ m,W 0 m σ H1)/\∀ i m σ H,W i m σ H ->
 (J.stop i H/\D.nx σ H)\/(J.go i H/\∃ N:St->Hp->Prop,(∀ σ' H',N σ' H'->∃ m',m' < m/\W (i + 1) m' σ' H')/\∀ x H',J.yld i H x H'->g x σ H' fun σ2 H2=>tb { D with nx:=N,ct:=N,bk:=D.nx } σ2 H2)
def z7u(fp:List Addr)(h:Heap):List (Addr×Obj):=fp.filterMap fun b=>(h.get? b).map fun o=>(b,o)
theorem z2R{fp:List Addr}{h:Heap}{b:Addr}{o:Obj}(hb:b∈fp)(e:h.get? b=some o):(b,o)∈z7u fp h:=List.mem_filterMap.mpr ⟨b,hb,by rw[e];rfl⟩
theorem y2m{fp:List Addr}{h:Heap}{p:Addr×Obj}(hp:p∈z7u fp h):p.1∈fp/\h.get? p.1=some p.2:=by
 obtain⟨b,hb,e⟩:=List.mem_filterMap.mp hp
 cases q:h.get? b with
 | none=>rw[q]at e;cases e
 | some o =>
  rw[q]at e
  have e':(b,o)=p:=Option.some.inj e
  subst e'
  exact⟨hb,q⟩
theorem Inv.pinned{pins:List (Addr×Obj)}{σ:St}{H:Hp}{s:Shared}{fp:List Addr}(I:Inv X pins σ H s)(hf:∀ b∈fp,FpOk X pins H b)(ho:∀ b∈fp,∃ o,s.heap.get? b=some o/\∀ v,o.data ≠ .cell v):Inv X (pins ++ z7u fp s.heap) σ H s :=
 I.pins_of fun p hp=>(jL.mp hp).elim (fun z=>I.pin p (jP _ z)) fun z=>by
  obtain⟨hb,e⟩:=y2m z
  obtain⟨f0,f1,f2,_⟩:=hf p.1 hb
  obtain⟨o,e',d⟩:=ho p.1 hb
  rw[e]at e';cases e'
  exact⟨e,f0,f1,f2,d⟩
theorem Inv.unpinned{pins pl:List (Addr×Obj)}{σ:St}{H:Hp}{s:Shared}(I:Inv X (pins ++ pl) σ H s):Inv X pins σ H s:=I.pins_of fun p hp=>I.pin p (jP _ (jW _ hp))
theorem z1U{iter:Expr}{body:List Stmt}{wi:TI}{g:TG}{tb:TS}{pos:Pos}(hp:PassesOwn (model X.prog X.w) X.A X.env X.xe)(hc:X.calm=true)(hi:PI X tg iter wi)(hg:PG X tg g)(hb:PSs X body tb)
 (hs:∀ x,foldedSetIterable iter X.env x=pure x:=by intro _;rfl):PS X (.For tg iter body [] pos) (y9O wi g tb):=by
 intro pins s σ H D I h
 refine wpAny_For (thn (hi pins s σ H _ I h) fun v s1 h1=>thn h1 fun itv s2 h2=>?_) hs
 obtain⟨it,fp,tn,J,H2,e,I2,T,st2,f2,W,⟨m0,w0⟩,turn⟩:=h2
 subst e
 -- what stays true of the iterator's objects through the loop
 have stat:∀ {H':Hp},(∀ b∈fp,H' b=none)->∀ b∈fp,FpOk X pins H' b:=fun hn b hb=>⟨hn b hb,(f2 b hb).2⟩
 refine codeAny_forLoop_any (fun n s'=>∃ i σ' H',Inv X pins σ' H' s'/\tn i s'.heap/\(∀ b∈fp,H' b=none)/\W i n σ' H') ?_ m0 ⟨0,σ,H2,I2,st2,fun b hb=>(f2 b hb).1,w0⟩
 rintro n s3 ⟨i,σ3,H3,I3,st3,fr3,w3⟩
 rcases turn i n σ3 H3 w3 with ⟨stop,qn⟩ | ⟨go,N,hN,step⟩
 · refine wpAny_passesOwn hp (thn (T.done X rfl rfl rfl hc i pins s3 σ3 H3 X.xe I3 (stat fr3) st3 stop) fun r s4 ⟨hr,I4⟩=>?_)
   subst hr
   exact wpAny_execs_nil ⟨σ3,H3,I4,qn⟩
 · refine wpAny_passesOwn hp (thn (T.item X rfl rfl rfl hc i pins s3 σ3 H3 X.xe I3 (stat fr3) st3 go) fun r s4 ⟨u,hr,h4⟩=>?_)
   subst hr
   refine wpAny_passesOwn hp (thn h4 fun _ s5 ⟨x,H5,I5,r5,y5,st5,fr5⟩=>?_)
   have I5':=I5.pinned (stat fr5) (T.obj _ _ st5)
   refine wpAny_passesOwn hp (thn (hg _ s5 σ3 H5 x u _ I5' r5 (step x H5 y5)) fun _ s6 ⟨σ6,H6,I6,q6⟩=>?_)
   refine wpAny_passesOwn hp (thn (hb _ s6 σ6 H6 _ I6 q6) fun f s7 q7=>?_)
   have again:∀ {σ7:St}{H7:Hp},Inv X (pins ++ z7u fp s5.heap) σ7 H7 s7->N σ7 H7->∃ m,m < n/\∃ i σ' H',Inv X pins σ' H' s7/\tn i s7.heap/\(∀ b∈fp,H' b=none)/\W i m σ' H':=fun {σ7 H7} I7 n7=>by
    obtain⟨m',hm,w7⟩:=hN σ7 H7 n7
    refine⟨m',hm,i + 1,σ7,H7,I7.unpinned,T.keep _ _ _ st5 fun b hb o e=>(I7.pin (b,o) (jP _ (jP _ (z2R hb e)))).1,fun b hb=>?_,w7⟩
    obtain⟨o,e,d⟩:=T.obj _ _ st5 b hb
    exact (I7.pin (b,o) (jP _ (jP _ (z2R hb e)))).2.1
   cases f with
   | next=>obtain⟨σ7,H7,I7,n7⟩:=q7;exact again I7 n7
   | cont=>obtain⟨σ7,H7,I7,n7⟩:=q7;exact again I7 n7
   | brk=>obtain⟨σ7,H7,I7,q7⟩:=q7;exact⟨σ7,H7,I7.unpinned,q7⟩
   | ret v=>obtain⟨x7,σ7,H7,I7,r7,q7⟩:=q7;exact⟨x7,σ7,H7,I7.unpinned,r7,q7⟩
end
theorem z0N{K:PySem.W.Frag}{a:Addr}{xs:List V}{g:TG}{tb:TS}{D:Ends}{σ:St}{H:Hp}(Pv:Nat->St->Hp->Prop)(h0:Pv 0 σ H)(hl:∀ i σ H,i<=xs.length->Pv i σ H->SqL K H a xs)
 (hs:∀ i x σ H,xs[i]? = some x->Pv i σ H->g x σ H fun σ2 H2=>tb { D with nx:=Pv (i + 1),ct:=Pv (i + 1),bk:=D.nx } σ2 H2) (hd:∀ σ H,Pv xs.length σ H->D.nx σ H) :
 ∃ W:Nat->Nat->St->Hp->Prop,(∃ m,W 0 m σ H)/\∀ i m σ H,W i m σ H ->
  ((Itl K a).stop i H/\D.nx σ H)\/((Itl K a).go i H/\∃ N:St->Hp->Prop,(∀ σ' H',N σ' H'->∃ m',m' < m/\W (i + 1) m' σ' H')/\∀ x H',(Itl K a).yld i H x H'->g x σ H' fun σ2 H2=>tb { D with nx:=N,ct:=N,bk:=D.nx } σ2 H2):=by
 refine⟨fun i m σ H=>m=xs.length - i/\i<=xs.length/\Pv i σ H,⟨xs.length,by simp,jg _,h0⟩,?_⟩
 rintro i m σ H ⟨rfl,hi,p⟩
 have q:=hl i σ H hi p
 by_cases hlt:i < xs.length
 · refine .inr ⟨⟨xs,xs[i],q,by simp[hlt]⟩,Pv (i + 1),fun σ' H' p'=>⟨xs.length - (i + 1),by omega,rfl,hlt,p'⟩,fun x H' y=>?_⟩
   obtain⟨e,y⟩:=y
   subst e
   exact hs i x σ _ (y xs q) p
 · have e:i=xs.length:=by omega
   subst e
   exact .inl ⟨⟨xs,q,jE _⟩,hd σ H p⟩
theorem z7P{lo:Int}{n:Nat}{g:TG}{tb:TS}{D:Ends}{σ:St}{H:Hp}(Pv:Nat->St->Hp->Prop)(h0:Pv 0 σ H)
 (hs:∀ i σ H,i < n->Pv i σ H->g (.int (lo + i)) σ H fun σ2 H2=>tb { D with nx:=Pv (i + 1),ct:=Pv (i + 1),bk:=D.nx } σ2 H2) (hd:∀ σ H,Pv n σ H->D.nx σ H) :
 ∃ W:Nat->Nat->St->Hp->Prop,(∃ m,W 0 m σ H)/\∀ i m σ H,W i m σ H ->
  ((Itr lo n).stop i H/\D.nx σ H)\/((Itr lo n).go i H/\∃ N:St->Hp->Prop,(∀ σ' H',N σ' H'->∃ m',m' < m/\W (i + 1) m' σ' H')/\∀ x H',(Itr lo n).yld i H x H'->g x σ H' fun σ2 H2=>tb { D with nx:=N,ct:=N,bk:=D.nx } σ2 H2):=by
 refine⟨fun i m σ H=>m=n - i/\i<=n/\Pv i σ H,⟨n,by simp,jg _,h0⟩,?_⟩
 rintro i m σ H ⟨rfl,hi,p⟩
 by_cases hlt:i < n
 · refine .inr ⟨hlt,Pv (i + 1),fun σ' H' p'=>⟨n - (i + 1),by omega,rfl,hlt,p'⟩,fun x H' y=>?_⟩
   obtain⟨e,y⟩:=y
   subst e y
   exact hs i σ _ hlt p
 · have e:i=n:=by omega
   subst e
   exact .inl ⟨jE _,hd σ H p⟩
theorem z9d{c:TT}{tb:TS}{D:Ends}{σ:St}{H:Hp}(Pv:St->Hp->Prop)(μ:St->Hp->Nat)(h0:Pv σ H)
 (hs:∀ σ H,Pv σ H->c σ H fun b H1=>if b=true then tb { D with nx:=fun σ' H'=>Pv σ' H'/\μ σ' H' < μ σ H,ct:=fun σ' H'=>Pv σ' H'/\μ σ' H' < μ σ H,bk:=D.nx } σ H1 else D.nx σ H1)
 (mono:∀ σ H Q Q',(∀ b H1,Q b H1->Q' b H1)->c σ H Q->c σ H Q'):y4V c tb D σ H:=by
 refine⟨fun m σ H=>m=μ σ H/\Pv σ H,⟨_,rfl,h0⟩,?_⟩
 rintro m σ H ⟨rfl,p⟩
 refine mono σ H _ _ (fun b H1 q=>?_) (hs σ H p)
 cases b with
 | true=>exact⟨_,fun σ' H' ⟨p',l⟩=>⟨_,l,rfl,p'⟩,q⟩
 | false=>exact q
abbrev R2:=V->V->Hp->VK->Prop
def OpR(X:Cx)(f:Value->Value->Sem Value)(r:R2):Prop :=
 ∀ (pins:List (Addr×Obj)) (s:Shared) (σ:St) (H:Hp) (x y:V) (v u:Value) (Q:VK),Inv X pins σ H s->RelV x v->RelV y u->r x y H Q ->
  wpAny (model X.prog X.w) X.A (f v u) (EP X pins σ Q) X.xe s
def UnR(X:Cx)(f:Value->Sem Value)(r:V->Hp->VK->Prop):Prop :=
 ∀ (pins:List (Addr×Obj)) (s:Shared) (σ:St) (H:Hp) (x:V) (v:Value) (Q:VK),Inv X pins σ H s->RelV x v->r x H Q ->
  wpAny (model X.prog X.w) X.A (f v) (EP X pins σ Q) X.xe s
def CallR(X:Cx)(f:Value)(r:List V->Hp->VK->Prop):Prop :=
 ∀ (pins:List (Addr×Obj)) (s:Shared) (σ:St) (H:Hp) (xs:List V) (us:List Value) (Q:VK),Inv X pins σ H s->Vals xs us->r xs H Q ->
  wpAny (model X.prog X.w) X.A (call f us) (EP X pins σ Q) X.xe s
def tOp(r:R2)(ta tb:TE):TE:=fun σ H Q=>ta σ H fun x H1=>tb σ H1 fun y H2=>r x y H2 Q
def tUn(r:V->Hp->VK->Prop)(ta:TE):TE:=fun σ H Q=>ta σ H fun x H1=>r x H1 Q
def rI(C:Int->Int->Prop)(g:Int->Int->V):R2:=fun x y H Q=>∃ i j,x = .int i/\y = .int j/\C i j/\Q (g i j) H
def rI0(g:Int->Int->V):R2:=fun x y H Q=>∃ i j,x = .int i/\y = .int j/\Q (g i j) H
def rU(g:Int->V):V->Hp->VK->Prop:=fun x H Q=>∃ i,x = .int i/\Q (g i) H
section
variable {X:Cx}{a b c:Expr}{ta tb tc:TE}{pos:Pos}
theorem y9I(ha:PE X a ta)(hb:PE X b tb){pins:List (Addr×Obj)}{s:Shared}{σ:St}{H:Hp}{R:V->V->Hp->Prop}(I:Inv X pins σ H s)
 (h:ta σ H fun x H1=>tb σ H1 fun y H2=>R x y H2) {Q:Value->Shared->Prop}{f:Value->Value->Sem Value}
 (hf:∀ v u s2 x y H2,Inv X pins σ H2 s2->RelV x v->RelV y u->R x y H2->wpAny (model X.prog X.w) X.A (f v u) Q X.xe s2) :
 wpAny (model X.prog X.w) X.A (eval a X.env) (fun v s₁=>wpAny (model X.prog X.w) X.A (eval b X.env) (fun u s₂=>wpAny (model X.prog X.w) X.A (f v u) Q X.xe s₂) X.xe s₁) X.xe s:=by
 refine thn (ha pins s σ H _ I h) fun v s1 ⟨x,H1,I1,r1,q1⟩=>?_
 refine thn (hb pins s1 σ H1 _ I1 q1) fun u s2 ⟨y,H2,I2,r2,q2⟩=>?_
 exact hf v u s2 x y H2 I2 r1 r2 q2
theorem z0m{op:Operator}{r:R2}(ho:OpR X (binaryOp op) r)(ha:PE X a ta)(hb:PE X b tb):PE X (.BinOp a op b pos) (tOp r ta tb):=by
 intro pins s σ H Q I h
 exact wpAny_BinOp (y9I ha hb I h fun v u s2 x y H2 I2 rx ry q=>ho pins s2 σ H2 x y v u Q I2 rx ry q)
theorem y9q{op:UnaryOp}{r:V->Hp->VK->Prop}(ho:UnR X (unaryOp op) r)(ha:PE X a ta):PE X (.UnaryOp op a pos) (tUn r ta):=by
 intro pins s σ H Q I h
 exact UnaryOp_ (thn (ha pins s σ H _ I h) fun v s1 ⟨x,H1,I1,r1,q1⟩=>ho pins s1 σ H1 x v Q I1 r1 q1)
theorem opI{f:Value->Value->Sem Value}{C:Int->Int->Prop}{g:Int->Int->Int}
 (rule:∀ (i j:Int) (t u:Tok) (s:Shared) (Q:Value->Shared->Prop) (E:Value->Shared->Prop),C i j->Q (.int (g i j) s.toks) { s with toks:=s.toks + 1 }->wpAny (model X.prog X.w) X.A (f (.int i t) (.int j u)) Q E s) :
 OpR X f (rI C fun i j => .int (g i j)):=by
 intro pins s σ H x y v u Q I rx ry h
 obtain⟨i,j,rfl,rfl,hc,q⟩:=h
 obtain⟨t,rfl⟩:=rx
 obtain⟨t',rfl⟩:=ry
 exact rule i j t t' s _ _ hc ⟨.int (g i j),H,I.tok _,⟨_,rfl⟩,q⟩
theorem y9U{f:Value->Value->Sem Value}{g:Int->Int->Int}
 (rule:∀ (i j:Int) (t u:Tok) (s:Shared) (Q:Value->Shared->Prop) (E:Value->Shared->Prop),Q (.int (g i j) s.toks) { s with toks:=s.toks + 1 }->wpAny (model X.prog X.w) X.A (f (.int i t) (.int j u)) Q E s) :
 OpR X f (rI0 fun i j => .int (g i j)):=by
 intro pins s σ H x y v u Q I rx ry h
 obtain⟨i,j,rfl,rfl,q⟩:=h
 obtain⟨t,rfl⟩:=rx
 obtain⟨t',rfl⟩:=ry
 exact rule i j t t' s _ _ ⟨.int (g i j),H,I.tok _,⟨_,rfl⟩,q⟩
theorem y8Q{f:Value->Value->Sem Value}{g:Int->Int->Bool}
 (rule:∀ (i j:Int) (t u:Tok) (s:Shared) (Q:Value->Shared->Prop) (E:Value->Shared->Prop),Q (.bool (g i j)) s->wpAny (model X.prog X.w) X.A (f (.int i t) (.int j u)) Q E s) :
 OpR X f (rI0 fun i j => .bl (g i j)):=by
 intro pins s σ H x y v u Q I rx ry h
 obtain⟨i,j,rfl,rfl,q⟩:=h
 obtain⟨t,rfl⟩:=rx
 obtain⟨t',rfl⟩:=ry
 exact rule i j t t' s _ _ ⟨.bl (g i j),H,I,rfl,q⟩
def x0q(i j:Int):Prop:=0<=j/\j<=1000000/\i.natAbs < 2 ^ 64
theorem z1j:OpR X (binaryOp .Add) (rI0 fun i j => .int (i + j)):=y9U fun _ _ _ _ _ _ _ q=>add_int q
theorem y2c:OpR X (binaryOp .Sub) (rI0 fun i j => .int (i - j)):=y9U fun _ _ _ _ _ _ _ q=>sub_int q
theorem z0E:OpR X (binaryOp .Mod) (rI (fun _ j=>0 < j) fun i j => .int (i % j)):=opI fun i j _ _ _ _ _ hc q=>by
 have h1:(0:Int) < j:=hc
 exact mod_int' (by omega) (by rw[Int.fmod_eq_emod_of_nonneg i (by omega)];exact q)
theorem z9H:OpR X (binaryOp .Pow) (rI x0q fun i j => .int (i ^ j.toNat)):=opI fun _ _ _ _ _ _ _ hc q=>pow_int_small hc.1 hc.2.1 hc.2.2 q
theorem unI{f:Value->Sem Value}{g:Int->Int}
 (rule:∀ (i:Int) (t:Tok) (s:Shared) (Q:Value->Shared->Prop) (E:Value->Shared->Prop),Q (.int (g i) s.toks) { s with toks:=s.toks + 1 }->wpAny (model X.prog X.w) X.A (f (.int i t)) Q E s) :
 UnR X f (rU fun i => .int (g i)):=by
 intro pins s σ H x v Q I rx h
 obtain⟨i,rfl,q⟩:=h
 obtain⟨t,rfl⟩:=rx
 exact rule i t s _ _ ⟨.int (g i),H,I.tok _,⟨_,rfl⟩,q⟩
theorem y7p:UnR X (unaryOp .USub) (rU fun i => .int (-i)):=unI fun _ _ _ _ _ q=>neg_int q
end
def y9P:V->V->Bool
 | .non,.non=>true | .non,.int _=>true | .int _,.non=>true | .non,.bl _=>true | .bl _,.non=>true | .non,.str _=>true | .str _,.non=>true
 | .int _,.int _=>true | .bl _,.bl _=>true | .str _,.str _=>true | .byt _,.byt _=>true
 | .int _,.str _=>true | .str _,.int _=>true | .bl _,.str _=>true | .str _,.bl _=>true
 | _,_=>false
def rEq:R2:=fun x y H Q=>y9P x y=true/\Q (.bl (decide (x=y))) H
def rNe:R2:=fun x y H Q=>y9P x y=true/\Q (.bl (!decide (x=y))) H
theorem y2V{i j:Int}:decide (V.int i=V.int j)=(i == j):=by
 rw[Bool.eq_iff_iff]
 simp
theorem y5x{i j:Bool}:decide (V.bl i=V.bl j)=(i == j):=by
 rw[Bool.eq_iff_iff]
 simp
theorem y2U{i j:Str}:decide (V.str i=V.str j)=(i == j):=by
 rw[Bool.eq_iff_iff]
 simp
theorem y2W{i j:Array UInt8}:decide (V.byt i=V.byt j)=(i.toList == j.toList):=by
 rw[Bool.eq_iff_iff]
 cases i
 cases j
 simp
section
variable {X:Cx}{a b c:Expr}{ta tb tc:TE}{pos:Pos}
theorem z0A{pins:List (Addr×Obj)}{σ:St}{H:Hp}{s:Shared}{Q:VK}{k k':Bool}(I:Inv X pins σ H s)(q:Q (.bl k) H)(e:k=k'):EP X pins σ Q (.bool k') s:=by
 subst e
 exact⟨.bl k,H,I,rfl,q⟩
theorem y8a:OpR X (compareOp .Eq) rEq:=by
 intro pins s σ H x y v u Q I rx ry h
 obtain⟨hs,q⟩:=h
 cases x with
 | non =>
  cases rx
  cases y with
  | non=>cases ry;exact PySem.EqNone.eq_none_none (z0A I q (by simp))
  | bl j=>cases ry;exact PySem.EqNone.eq_none_bool (z0A I q (by simp))
  | int j=>obtain⟨t',rfl⟩:=ry;exact PySem.EqNone.eq_none_int (z0A I q (by simp))
  | str j=>obtain⟨t',rfl⟩:=ry;exact PySem.EqNone.eq_none_str (z0A I q (by simp))
  | _=>exact absurd (show false=true from hs) jR
 | bl i =>
  cases rx
  cases y with
  | non=>cases ry;exact PySem.EqNone.eq_bool_none (z0A I q (by simp))
  | bl j=>cases ry;exact eq_bool (z0A I q y5x)
  | str j=>obtain⟨t',rfl⟩:=ry;exact PySem.EqMixed.eq_bool_str (z0A I q (by simp))
  | _=>exact absurd (show false=true from hs) jR
 | int i =>
  obtain⟨t,rfl⟩:=rx
  cases y with
  | non=>cases ry;exact PySem.EqNone.eq_int_none (z0A I q (by simp))
  | int j=>obtain⟨t',rfl⟩:=ry;exact eq_int (z0A I q y2V)
  | str j=>obtain⟨t',rfl⟩:=ry;exact PySem.EqMixed.eq_int_str (z0A I q (by simp))
  | _=>exact absurd (show false=true from hs) jR
 | str i =>
  obtain⟨t,rfl⟩:=rx
  cases y with
  | non=>cases ry;exact PySem.EqNone.eq_str_none (z0A I q (by simp))
  | bl j=>cases ry;exact PySem.EqMixed.eq_str_bool (z0A I q (by simp))
  | int j=>obtain⟨t',rfl⟩:=ry;exact PySem.EqMixed.eq_str_int (z0A I q (by simp))
  | str j=>obtain⟨t',rfl⟩:=ry;exact eq_str (z0A I q y2U)
  | _=>exact absurd (show false=true from hs) jR
 | byt i =>
  obtain⟨t,rfl⟩:=rx
  cases y with
  | byt j=>obtain⟨t',rfl⟩:=ry;exact PySem.W.eq_bytes (z0A I q y2W)
  | _=>exact absurd (show false=true from hs) jR
 | _=>cases y <;> exact absurd (show false=true from hs) jR
theorem y9t:OpR X (compareOp .NotEq) rNe:=by
 intro pins s σ H x y v u Q I rx ry h
 obtain⟨hs,q⟩:=h
 cases x with
 | non =>
  cases rx
  cases y with
  | non=>cases ry;exact PySem.EqNone.ne_none_none (z0A I q (by simp))
  | bl j=>cases ry;exact PySem.EqNone.ne_none_bool (z0A I q (by simp))
  | int j=>obtain⟨t',rfl⟩:=ry;exact PySem.EqNone.ne_none_int (z0A I q (by simp))
  | str j=>obtain⟨t',rfl⟩:=ry;exact PySem.EqNone.ne_none_str (z0A I q (by simp))
  | _=>exact absurd (show false=true from hs) jR
 | bl i =>
  cases rx
  cases y with
  | non=>cases ry;exact PySem.EqNone.ne_bool_none (z0A I q (by simp))
  | bl j=>cases ry;exact ne_bool (z0A I q (congrArg not y5x))
  | str j=>obtain⟨t',rfl⟩:=ry;exact PySem.EqMixed.ne_bool_str (z0A I q (by simp))
  | _=>exact absurd (show false=true from hs) jR
 | int i =>
  obtain⟨t,rfl⟩:=rx
  cases y with
  | non=>cases ry;exact PySem.EqNone.ne_int_none (z0A I q (by simp))
  | int j=>obtain⟨t',rfl⟩:=ry;exact ne_int (z0A I q (congrArg not y2V))
  | str j=>obtain⟨t',rfl⟩:=ry;exact PySem.EqMixed.ne_int_str (z0A I q (by simp))
  | _=>exact absurd (show false=true from hs) jR
 | str i =>
  obtain⟨t,rfl⟩:=rx
  cases y with
  | non=>cases ry;exact PySem.EqNone.ne_str_none (z0A I q (by simp))
  | bl j=>cases ry;exact PySem.EqMixed.ne_str_bool (z0A I q (by simp))
  | int j=>obtain⟨t',rfl⟩:=ry;exact PySem.EqMixed.ne_str_int (z0A I q (by simp))
  | str j=>obtain⟨t',rfl⟩:=ry;exact ne_str (z0A I q (congrArg not y2U))
  | _=>exact absurd (show false=true from hs) jR
 | byt i =>
  obtain⟨t,rfl⟩:=rx
  cases y with
  | byt j=>obtain⟨t',rfl⟩:=ry;exact PySem.W.ne_bytes (z0A I q (congrArg not y2W))
  | _=>exact absurd (show false=true from hs) jR
 | _=>cases y <;> exact absurd (show false=true from hs) jR
theorem y7X:OpR X (compareOp .Lt) (rI0 fun i j => .bl (decide (i < j))):=y8Q fun _ _ _ _ _ _ _ q=>lt_int q
theorem y2e:OpR X (compareOp .Gt) (rI0 fun i j => .bl (decide (j < i))):=y8Q fun _ _ _ _ _ _ _ q=>gt_int q
theorem OpR.or{f:Value->Value->Sem Value}{r r':R2}(h:OpR X f r)(h':OpR X f r'):OpR X f (fun x y H Q=>r x y H Q\/r' x y H Q):=by
 intro pins s σ H x y v u Q I rx ry q
 rcases q with q | q
 · exact h pins s σ H x y v u Q I rx ry q
 · exact h' pins s σ H x y v u Q I rx ry q
theorem z1f(b:Expr){op:CmpOp}(h:op ≠ .In:=by decide)(h2:op ≠ .NotIn:=by decide):behindInMarks op b=false:=by
 have e1:(op == CmpOp.In)=false:=by cases op <;> first | rfl | exact absurd rfl h
 have e2:(op == CmpOp.NotIn)=false:=by cases op <;> first | rfl | exact absurd rfl h2
 cases b <;> simp[behindInMarks,e1,e2]
theorem z8w{op:CmpOp}{r:R2}(ho:OpR X (compareOp op) r)(ha:PE X a ta)(hb:PE X b tb)(hm:behindInMarks op b=false):PE X (.Compare a [op] [b] pos) (tOp r ta tb):=by
 intro pins s σ H Q I h
 exact wpAny_Compare1 (y9I ha hb I h fun v u s2 x y H2 I2 rx ry q=>ho pins s2 σ H2 x y v u Q I2 rx ry q) hm
def y9b(t:TE):TT:=fun σ H Q=>t σ H fun x H'=>∃ k,x = .bl k/\Q k H'
theorem z0B{op:CmpOp}{r:R2}(ho:OpR X (compareOp op) r)(ha:PE X a ta)(hb:PE X b tb)(hm:behindInMarks op b=false):PT X (.Compare a [op] [b] pos) (y9b (tOp r ta tb)):=by
 intro pins s σ H Q I h
 refine wpAny_isTrue_Compare1 (thn (ha pins s σ H _ I h) fun v s1 ⟨x,H1,I1,r1,q1⟩=>thn (hb pins s1 σ H1 _ I1 q1) fun u s2 ⟨y,H2,I2,r2,q2⟩ =>
  thn (ho pins s2 σ H2 x y v u _ I2 r1 r2 q2) fun c s3 ⟨z,H3,I3,r3,k,e,q3⟩=>?_) hm
 subst e
 cases r3
 exact wpAny_truthy_bool ⟨H3,I3,q3⟩
theorem z9P:(sizeLine:Nat) < 2 ^ 63:=by rw[sizeLine_eq];decide
theorem z0x:OpR X (binaryOp .Add) (fun x y H Q=>∃ i j,x = .str i/\y = .str j/\i.length + j.length<=sizeLine/\Q (.str (i ++ j)) H):=by
 intro pins s σ H x y v u Q I rx ry h
 obtain⟨i,j,rfl,rfl,hz,q⟩:=h
 obtain⟨t,rfl⟩:=rx
 obtain⟨t',rfl⟩:=ry
 exact add_str (fun t' tk=>⟨.str (i ++ j),H,I.tok _,⟨_,rfl⟩,q⟩) hz
theorem z3H{x:V}{us:List Value}(r:Vals [x] us):∃ u,us=[u]/\RelV x u:=by
 cases r with
 | cons r1 r2=>cases r2;exact⟨_,rfl,r1⟩
theorem y8V{x y:V}{us:List Value}(r:Vals [x,y] us):∃ u w',us=[u,w']/\RelV x u/\RelV y w':=by
 cases r with
 | cons r1 r2 =>
  cases r2 with
  | cons r3 r4=>cases r4;exact⟨_,_,rfl,r1,r3⟩
theorem y0d:CallR X (.builtin "abs") (fun xs H Q=>∃ i,xs=[.int i]/\Q (.int (if i < 0 then -i else i)) H):=by
 intro pins s σ H xs us Q I r h
 obtain⟨i,rfl,q⟩:=h
 obtain⟨u,rfl,t,rfl⟩:=z3H r
 exact call_abs_int fun u tk=>⟨.int (if i < 0 then -i else i),H,I.tok _,⟨_,rfl⟩,q⟩
theorem y3d:CallR X (.type "int") (fun xs H Q=>(∃ i,xs=[.int i]/\Q (.int i) H)\/∃ k,xs=[.bl k]/\Q (.int (if k then 1 else 0)) H):=by
 intro pins s σ H xs us Q I r h
 rcases h with ⟨i,rfl,q⟩ | ⟨k,rfl,q⟩
 · obtain⟨u,rfl,t,rfl⟩:=z3H r
   exact call_int_int ⟨.int i,H,I,⟨_,rfl⟩,q⟩
 · obtain⟨u,rfl,r1⟩:=z3H r
   cases r1
   exact call_int_bool ⟨.int (if k then 1 else 0),H,I.tok _,⟨_,rfl⟩,q⟩
theorem z7S:CallR X (.type "str") (fun xs H Q=>∃ i,xs=[.int i]/\i.natAbs.log2 < 1920/\Q (.str (toString i)) H):=by
 intro pins s σ H xs us Q I r h
 obtain⟨i,rfl,hz,q⟩:=h
 obtain⟨u,rfl,t,rfl⟩:=z3H r
 exact PySem.P.str_of_int hz ⟨.str _,H,I.tok _,⟨_,rfl⟩,q⟩
def y8T(K:PySem.W.Frag)(x:V)(H:Hp)(n:Nat):Prop :=
 match x with
 | .str y=>y.length<=sizeLine/\n=y.length
 | .byt y=>y.size<=sizeLine/\n=y.size
 | .ref p=>(∃ xs,SqL K H p xs/\n=xs.length)\/∃ xs,SqT K H p xs/\n=xs.length
 | _=>False
theorem y4K:CallR X (.builtin "len") (fun xs H Q=>∃ x n,xs=[x]/\y8T X.K x H n/\Q (.int n) H):=by
 intro pins s σ H xs us Q I r h
 obtain⟨x,n,rfl,e,q⟩:=h
 obtain⟨u,rfl,rx⟩:=z3H r
 have hl:=z9P
 have hs:sizeLine=16777216:=sizeLine_eq
 cases x with
 | str y =>
  obtain⟨t,rfl⟩:=rx
  obtain⟨hy,e'⟩:y.length<=sizeLine/\n=y.length:=e
  subst e'
  exact len_str (by omega) ⟨.int _,H,I.tok _,⟨_,rfl⟩,q⟩
 | byt y =>
  obtain⟨t,rfl⟩:=rx
  obtain⟨hy,e'⟩:y.size<=sizeLine/\n=y.size:=e
  subst e'
  exact PySem.W.len_bytes (by omega) ⟨.int _,H,I.tok _,⟨_,rfl⟩,q⟩
 | ref p =>
  cases rx
  have e':(∃ xs,SqL X.K H p xs/\n=xs.length)\/∃ xs,SqT X.K H p xs/\n=xs.length:=e
  rcases e' with ⟨xs,hx,e'⟩ | ⟨xs,hx,e'⟩
  · subst e'
    obtain⟨its,r',pl,hz⟩:=I.list hx
    have hlen:=r'.length
    exact Calls.call_len_list pl.isList (by simp only[jI];omega) ⟨.int xs.length,H,I.tok _,⟨_,by simp only[jI];rw[hlen]⟩,q⟩
  · subst e'
    obtain⟨its,r',pl,hz⟩:=I.tuple hx
    have hlen:=r'.length
    exact len_tuple pl (by simp only[jI];omega) ⟨.int xs.length,H,I.tok _,⟨_,by simp only[jI];rw[hlen]⟩,q⟩
 | _=>exact (show False from e).elim
end
structure ObjM (h:Heap) (x dx C:Addr) (mA:Str->Option Value):Prop where
 obj:h.get? x=some (PySem.W.instObj C dx)
 ns:h.Ns1 dx mA
 ne:dx≠x
theorem y2v{h:Heap}{dx:Addr}{mA:Str->Option Value}(n:h.Ns1 dx mA):∃ od,h.get? dx=some od/\∀ name,PySem.W.lookIn name od=some (mA name):=by
 obtain⟨o,es,ep,ho,hd,hk,_,hm⟩:=n
 refine⟨o,ho,fun name=>?_⟩
 have e:=hm name
 unfold nsFind findBy at e
 rw[<- Array.find?_toList]at e
 unfold PySem.W.lookIn
 rw[hd]
 dsimp only
 split
 · rename_i y q
   rw[q]at e
   exact congrArg some e
 · rename_i q
   rw[q]at e
   have a:es.toList.any (·.refKey)=false:=by
    rw[List.any_eq_false]
    intro y hy
    obtain⟨z,t,hkey⟩:=hk y (Array.mem_toList_iff.mp hy)
    simp[DictEntry.refKey,hkey]
   have a':¬ es.toList.any (·.refKey)=true:=by rw[a];exact jR
   rw[if_neg a']
   exact congrArg some e
theorem ObjM.look{h:Heap}{x dx C:Addr}{mA:Str->Option Value}(I:ObjM h x dx C mA):∃ od,PySem.W.InstAt h x (PySem.W.instObj C dx) C (some od)/\∀ name,PySem.W.lookIn name od=some (mA name) :=
 let ⟨od,ho,hl⟩:=y2v I.ns
 ⟨od,⟨I.obj,rfl,rfl,ho⟩,hl⟩
section
variable {prog:Program}{w:World}{A:Around}{E:Value->Shared->Prop}{s:Shared}{K:PySem.W.Frag}{x dx C f:Addr}{mA:Str->Option Value}{name:Str}{v:Value}
end
theorem RelO.some_of{v:V}{o:Option Value}(r:RelO (some v) o):∃ u,o=some u/\RelV v u:=by
 cases o with
 | none=>exact (show False from r).elim
 | some u=>exact⟨u,rfl,r⟩
theorem RelO.none_of{o:Option Value}(r:RelO none o):o=none:=by
 cases o with
 | none=>rfl
 | some u=>exact (show False from r).elim
section
variable {P:Program}{w:World}{H H':Hp}{h h':Heap}{a C dx:Addr}{fs fs':List (Str×V)}
theorem y6J(hok:HOk P w H h)(e:H a=some (.ins C dx fs)):∃ mA,ObjM h a dx C mA/\(∀ f,RelO (fs.lookup f) (mA f))/\PySem.Within mA (fs.map (·.1))/\fs.length<=1000/\H dx=some (.own a):=by
 obtain⟨d,z,ne,ob,mA,n,r,q⟩:=(show ObjOk P w H h a (.ins C dx fs) from hok a _ e)
 exact⟨mA,⟨ob,n,ne⟩,r,q,z,d⟩
end
structure Cls (K:PySem.W.Frag) (C:Addr):Prop where
 pg:PySem.W.plainGet K C Str.empty=true
 hd:PySem.W.hasDictIn K C=true
 po:PySem.W.plainOver K C=true
 sa:PySem.W.findIn K (.ref C) "__setattr__" = some (some (.builtin "object.__setattr__"))
theorem Cls.get{K:PySem.W.Frag}{C:Addr}(c:Cls K C)(f:Str):PySem.W.plainGet K C f=true:=c.pg
def NoAttr(K:PySem.W.Frag)(C:Addr)(f:Str):Prop:=PySem.W.findIn K (.ref C) f=some none
section
variable {X:Cx}{pins:List (Addr×Obj)}{σ:St}{H:Hp}{s:Shared}{a C dx:Addr}{fs:List (Str×V)}{f:Str}{v:V}{A:Around}{E:Value->Shared->Prop}
end
section
variable {X:Cx}{o e value:Expr}{f:Str}{pos pos' tpos:Pos}{ta tv:TE}
end
section
variable {X:Cx}{pins:List (Addr×Obj)}{σ:St}{H:Hp}{s:Shared}{A:Around}{E:Value->Shared->Prop}{Q:Value->Shared->Prop}{c:Value}{b:Bool}
inductive TyOf (K:PySem.W.Frag) (H:Hp):V->Value->Prop where
 | non:TyOf K H .non (.type "NoneType")
 | bl (x:Bool):TyOf K H (.bl x) (.type "bool")
 | int (i:Int):TyOf K H (.int i) (.type "int")
 | str (x:Str):TyOf K H (.str x) (.type "str")
 | flt (x:UInt64):TyOf K H (.flt x) (.type "float")
 | lst {a:Addr}{xs:List V} (e:H a=some (.lst xs)):TyOf K H (.ref a) (.type "list")
 | frz {a:Addr}{o:Obj}{xs:List V} (e:H a=some (.frz o (.lst xs))):TyOf K H (.ref a) (.type "list")
 | tup {a:Addr}{xs:List V} (e:H a=some (.tup xs)):TyOf K H (.ref a) (.type "tuple")
 | dK {a:Addr}{kvs:List (Key×V)} (e:H a=some (.dK kvs)):TyOf K H (.ref a) (.type "dict")
 | dT {a:Addr}{kvs:List (List Key×V)} (e:H a=some (.dT kvs)):TyOf K H (.ref a) (.type "dict")
 | ins {a C dx:Addr}{fs:List (Str×V)} (e:H a=some (.ins C dx fs)) (cl:Cls K C) (ha:PySem.W.findIn K (.ref C) "__class__" = some (some (.builtin "object.__class__")))
  (hn:PySem.W.specialIn K (.builtin "object.__class__") "__get__" = some (some (.builtin "getset_descriptor.__get__"))) (htk:PySem.W.takesIn K (.builtin "object.__class__")=some true)
  (hm:PySem.W.mroIn K C (.type "object")=some true):TyOf K H (.ref a) (.ref C)
theorem y2G{x:V}{u t:Value}(I:Inv X pins σ H s)(rx:RelV x u)(ty:TyOf X.K H x t)(e:PySem.W.kitOne X.K t c=some b)(h:∀ tk,Q (.bool b) { s with toks:=tk }) :
 wpAny (model X.prog X.w) A (call (.builtin "isinstance") [u,c]) Q E s:=by
 cases ty with
 | non=>cases (show u=Value.none from rx);exact PySem.W.kia_one PySem.W.kitx_none I.kIn True.intro e (fun z=>nomatch z) h
 | bl y=>cases (show u=Value.bool y from rx);exact PySem.W.kia_one PySem.W.kitx_bool I.kIn True.intro e (fun z=>nomatch z) h
 | int i=>obtain⟨t,q⟩:=(show ∃ t,u=Value.int i t from rx);cases q;exact PySem.W.kia_one PySem.W.kitx_int I.kIn True.intro e (fun z=>nomatch z) h
 | str y=>obtain⟨t,q⟩:=(show ∃ t,u=Value.str y t from rx);cases q;exact PySem.W.kia_one PySem.W.kitx_str I.kIn True.intro e (fun z=>nomatch z) h
 | flt y=>obtain⟨t,q⟩:=(show ∃ t,u=Value.float y t from rx);cases q;exact PySem.W.kia_one PySem.W.kitx_float I.kIn True.intro e (fun z=>nomatch z) h
 | @lst a xs ea =>
  cases (show u=Value.ref a from rx)
  obtain⟨_,_,n,_,h1⟩:=(show ObjOk X.prog X.w H s.heap a (.lst xs) from I.hok a _ ea)
  exact PySem.W.kia_one PySem.W.kitx_list I.kIn ⟨_,h1,rfl⟩ e (fun z=>nomatch z) h
 | @frz a ob xs ea =>
  cases (show u=Value.ref a from rx)
  obtain⟨_,_,_,n,_,h1⟩:=(show ObjOk X.prog X.w H s.heap a (.frz ob (.lst xs)) from I.hok a _ ea)
  exact PySem.W.kia_one PySem.W.kitx_list I.kIn ⟨_,h1,rfl⟩ e (fun z=>nomatch z) h
 | @tup a xs ea =>
  cases (show u=Value.ref a from rx)
  obtain⟨_,_,_,p⟩:=(show ObjOk X.prog X.w H s.heap a (.tup xs) from I.hok a _ ea)
  obtain⟨o,h1,h2,_⟩:=p
  exact PySem.W.kia_one PySem.W.kitx_tuple I.kIn ⟨o,h1,h2⟩ e (fun z=>nomatch z) h
 | @dK a kvs ea =>
  cases (show u=Value.ref a from rx)
  obtain⟨_,_,vs,_,p⟩:=(show ObjOk X.prog X.w H s.heap a (.dK kvs) from I.hok a _ ea)
  obtain⟨o,es,ep,h1,h2,_⟩:=p
  exact PySem.W.kia_one PySem.W.kitx_dict I.kIn ⟨o,h1,h2.1⟩ e (fun z=>nomatch z) h
 | @dT a kvs ea =>
  cases (show u=Value.ref a from rx)
  obtain⟨_,_,xs,_,o,es,ep,h1,h2,_⟩:=(show ObjOk X.prog X.w H s.heap a (.dT kvs) from I.hok a _ ea)
  exact PySem.W.kia_one PySem.W.kitx_dict I.kIn ⟨o,h1,h2.1⟩ e (fun z=>nomatch z) h
 | @ins a C dx fs ea cl ha hn htk hm =>
  cases (show u=Value.ref a from rx)
  obtain⟨mA,O,_⟩:=y6J I.hok ea
  obtain⟨od,J,_⟩:=O.look
  exact PySem.W.kia_one (PySem.W.kitx_own (cl.get _) cl.hd ha hn htk hm) I.kIn J e (fun z=>nomatch z) h
end
structure Room (k:Nat) (A:Around):Prop where
 hd:A.handled=none
 dp:A.depth + 3 * k + 5 < recursionLimit
 un:A.units + 16 * k + 200 < cLine
theorem Room.mono{j k:Nat}{A:Around}(r:Room k A)(h:j<=k):Room j A:=⟨r.hd,by have:=r.dp;omega,by have:=r.un;omega⟩
theorem Room.deeper{k:Nat}{A:Around}(r:Room (k + 1) A)(env:Env):Room k (A.deeper env) :=
 ⟨r.hd,by have:=r.dp;show A.depth + 1 + 3 * k + 5 < _;omega,by have:=r.un;show A.units + 3 + 16 * k + 200 < _;omega⟩
theorem y0D{A:Around}{C:Addr}{us:List Value}{kw:List (Str×Value)}:(A.under (.builtin "type.__call__" ⟨.ref C :: us,kw⟩)).depth=A.depth + 1:=by
 first | rfl | simp[Around.under,Code.weight,Code.isCreation,Code.isGuard,Code.isCaller,Code.frames,Code.isFrame,guardIds]
theorem y0C{A:Around}{C:Addr}{us:List Value}{kw:List (Str×Value)}:(A.under (.builtin "type.__call__" ⟨.ref C :: us,kw⟩)).units=A.units + 1:=by
 first | rfl | simp[Around.under,Code.cUnits,Code.frames,Code.isFrame]
theorem Room.make{k:Nat}{A:Around}(r:Room (k + 1) A)(C:Addr)(us:List Value)(kw:List (Str×Value)):Room k (A.under (.builtin "type.__call__" ⟨.ref C :: us,kw⟩)) :=
 ⟨r.hd,by have:=r.dp;rw[y0D];omega,by have:=r.un;rw[y0C];omega⟩
theorem Room.depth{k:Nat}{A:Around}(r:Room k A):A.depth < recursionLimit:=by have:=r.dp;omega
theorem Room.units{k:Nat}{A:Around}(r:Room k A):A.units + 64 < cLine:=by have:=r.un;omega
def y0p:TA:=fun _ H Q=>Q [] H
def z2w(ta:TE)(tr:TA):TA:=fun σ H Q=>ta σ H fun x H1=>tr σ H1 fun xs H2=>Q (x :: xs) H2
section
variable {X:Cx}{e:Expr}{es:List Expr}{te:TE}{t:TA}{pos:Pos}
theorem z0f:PA X [] y0p:=fun _ _ _ _ H Q I h=>Calls.spliced_nil ⟨[],H,I,.nil,h⟩
theorem z0g(ha:PE X e te)(hr:PA X es t)(hs:starEach (e :: es) X.env=(false,eval e X.env) :: starEach es X.env:=by rfl):PA X (e :: es) (z2w te t):=by
 intro pos pins s σ H Q I h
 rw[hs]
 show wpAny _ _ (spliced ((false,eval e X.env) :: backTo pos (starEach es X.env))) _ _ s
 refine Calls.spliced_cons (thn (ha pins s σ H _ I h) fun u s1 ⟨x,H1,I1,r1,q1⟩=>?_)
 exact thn (hr pos pins s1 σ H1 _ I1 q1) fun us s2 ⟨xs,H2,I2,r2,q2⟩=>⟨x :: xs,H2,I2,.cons r1 r2,q2⟩
def y9a(t:TA):TE:=fun σ H Q=>t σ H fun xs H1=>xs.length<=sizeLine/\∀ p,H1 p=none->Q (.ref p) (upd H1 p (.tup xs))
def y5L(t:TA):TE:=fun σ H Q=>t σ H fun xs H1=>xs.length<=sizeLine/\∀ p,H1 p=none->Q (.ref p) (upd H1 p (.lst xs))
theorem z3s{x1}(h:PA X es t):PE X (.Tuple es x1 pos) (y9a t):=by
 intro pins s σ H Q I hq
 refine wpAny_Tuple_spliced (thn (h pos pins s σ H _ I hq) fun us s1 ⟨xs,H1,I1,r,z,q⟩=>⟨by rw[<- r.length];exact z,?_⟩)
 have hf:H1 s1.heap.objs.size=none:=I1.hok.fresh (jE _)
 refine⟨.ref s1.heap.objs.size,upd H1 s1.heap.objs.size (.tup xs),I1.laid (t':=s1.toks) (fun b u e=>jB _ e) (jE _) ?_,rfl,q _ hf⟩
 exact⟨z,us,r,⟨_,jO _ rfl,rfl,_,rfl⟩⟩
theorem z3t(h:PA X es t):PE X (.List es pos) (y5L t):=by
 intro pins s σ H Q I hq
 refine wpAny_List_spliced (thn (h pos pins s σ H _ I hq) fun us s1 ⟨xs,H1,I1,r,z,q⟩=>⟨by rw[<- r.length];exact z,?_⟩)
 have hf:H1 s1.heap.objs.size=none:=I1.hok.fresh (jE _)
 refine⟨.ref s1.heap.objs.size,upd H1 s1.heap.objs.size (.lst xs),I1.laid (t':=s1.toks) (fun b u e=>jB _ e) (jE _) ?_,rfl,q _ hf⟩
 exact⟨z,us,0,r,jO _ rfl⟩
end
abbrev Sp:=List V->Hp->VK->XK->Prop
abbrev CXT:=List Env->Hp->Shared->XK->Value->Shared->Prop
structure Env0 (P:Program) (w:World) (K:PySem.W.Frag) (mg:Str->Option Value) (base:Heap) (A:Around) (outer:List Env) (s:Shared) (H:Hp):Prop where
 frames:A.frames=some outer
 mod:Mod K mg base
 bs:∀ b o,base.get? b=some o->s.heap.get? b=some o/\H b=none
 bsz:base.objs.size<=s.heap.objs.size
 funs:s.heap.FunFrames base outer
 frf:∀ b∈frs outer,H b=none
 hok:HOk P w H s.heap
 bare:AllBare s.gens
def CE(outer:List Env)(P:Program)(w:World)(H:Hp)(s:Shared)(Q:VK)(u:Value)(s':Shared):Prop :=
 ∃ v H',s'.os=s.os/\AllBare s'.gens/\Un (frs outer) [] H H' s.heap s'.heap/\HOk P w H' s'.heap/\RelV v u/\Q v H'
def CR(CX:CXT)(outer:List Env)(P:Program)(w:World)(H:Hp)(s:Shared)(Q:VK)(E:XK)(r:Result)(s':Shared):Prop :=
 match r with
 | .ok (.ret u)=>CE outer P w H s Q u s'
 | .ok _=>False
 | .error e=>CX outer H s E e s'
structure FnOk (P:Program) (w:World) (K:PySem.W.Frag) (mg:Str->Option Value) (base:Heap) (CX:CXT) (k:Nat) (f:Addr) (fd:FuncData) (ps:List Str) (sp:Sp):Prop where
 len:∀ vs H Q E,sp vs H Q E->vs.length=ps.length
 run:∀ (A:Around) (outer:List Env) (s:Shared) (H:Hp) (args:Args) (us:List Value) (vs:List V) (Q:VK) (E:XK),Room k A->Env0 P w K mg base A outer s H->BindsTo s fd args (ps.zip us)->Vals vs us->sp vs H Q E ->
  codeAny (model P w) A (.call (.ref f) args) (CR CX outer P w H s Q E) s
theorem Env0.make{P:Program}{w:World}{K:PySem.W.Frag}{mg:Str->Option Value}{base:Heap}{A:Around}{outer:List Env}{s:Shared}{H:Hp}(e:Env0 P w K mg base A outer s H)(C:Addr)(us:List Value)(kw:List (Str×Value)) :
 Env0 P w K mg base (A.under (.builtin "type.__call__" ⟨.ref C :: us,kw⟩)) outer s H:=⟨by first | exact e.frames | (simpa [Around.under,Code.envs,Code.isFrame,pushEnvs] using e.frames),e.mod,e.bs,e.bsz,e.funs,e.frf,e.hok,e.bare⟩
section
variable {X:Cx}{pins:List (Addr×Obj)}{σ:St}{H:Hp}{s s':Shared}
theorem Inv.env0(I:Inv X pins σ H s):Env0 X.prog X.w X.K X.mg X.base X.A X.stack s H :=
 ⟨I.ok.frames,I.ok.mod,I.bs,jY I.ok.bsz I.sz,I.stack,I.stkFree,I.hok,I.bare⟩
theorem Inv.after{Q:VK}{u:Value}(I:Inv X pins σ H s)(h:CE X.stack X.prog X.w H s Q u s'):EP X pins σ Q u s':=by
 obtain⟨v,H',os,bare,un,hok,r,q⟩:=h
 obtain⟨hh,g,d,t,os'⟩:=s'
 obtain rfl:os'=s.os:=os
 exact⟨v,H',I.call (h':=hh) (g':=g) (d':=d) (t':=t) (ch:=[]) un hok bare (fun b z=>absurd z (by simp)),r,q⟩
end
def y0q(sp:Sp)(dvs:List V)(E:XK)(t:TA):TE:=fun σ H Q=>t σ H fun vs H1=>sp (vs ++ dvs) H1 Q E
def Binds(K:PySem.W.Frag)(fd:FuncData)(ps:List Str)(ds:List Value):Prop :=
 ∀ (s:Shared) (us:List Value),K.In s.heap->(us ++ ds).length=ps.length->BindsTo s fd ⟨us,[]⟩ (ps.zip (us ++ ds))
theorem Binds.all{K:PySem.W.Frag}{fd:FuncData}{ps:List Str}(h:∀ us:List Value,us.length=ps.length->bindArgs fd ⟨us,[]⟩=pure (ps.zip us)):Binds K fd ps []:=fun s us _ hl=>by
 rw[k7]at hl ⊢
 exact .of_eq (h us hl)
def z5p(CX:CXT)(X:Cx)(E:XK):Prop:=∀ (pins:List (Addr×Obj)) (σ:St) (H:Hp) (s:Shared) (e:Value) (s':Shared),Inv X pins σ H s->CX X.stack H s E e s'->X.xe e s'
section
variable {X:Cx}{CX:CXT}{k:Nat}{f C:Addr}{fd:FuncData}{ps:List Str}{sp:Sp}{dvs:List V}{ds:List Value}{E:XK}{x m:Str}{p pos apos:Pos}{e o:Expr}{es:List Expr}{ta:TE}{t:TA}
theorem y7E{pins:List (Addr×Obj)}{σ:St}{H:Hp}{s:Shared}{Q:VK}{us:List Value}{vs:List V}(F:FnOk X.prog X.w X.K X.mg X.base CX k f fd ps sp)(hr:Room k X.A)(hb:Binds X.K fd ps ds)(hd:Vals dvs ds)(hx:z5p CX X E)
 (I:Inv X pins σ H s) (r:Vals vs us) (h:sp (vs ++ dvs) H Q E):wpAny (model X.prog X.w) X.A (call (.ref f) us) (EP X pins σ Q) X.xe s:=by
 have r2:Vals (vs ++ dvs) (us ++ ds):=r.append hd
 have hl:(us ++ ds).length=ps.length:=by rw[<- r2.length];exact F.len _ _ _ _ h
 refine wpAny_call (codeAny_mono (F.run X.A X.stack s H ⟨us,[]⟩ (us ++ ds) (vs ++ dvs) Q E hr I.env0 (hb s us I.kIn hl) r2 h) fun r s' hq=>?_)
 cases r with
 | error e=>exact hx pins σ H s e s' I hq
 | ok fl =>
  cases fl with
  | ret u=>exact I.after hq
  | next=>exact False.elim hq
  | brk=>exact False.elim hq
  | cont=>exact False.elim hq
theorem z8x(F:FnOk X.prog X.w X.K X.mg X.base CX k f fd ps sp)(hr:Room k X.A)(hg:Gl X x)(hm:X.mg x=some (.ref f))(hk:PySem.W.keepIn X.K (.ref f)=true)(hb:Binds X.K fd ps ds)(hd:Vals dvs ds)(hx:z5p CX X E)
 (ha:PA X (e :: es) t) (hdb:(x == ("__debug__" : Str))=false:=by decide) (he:starEach (e :: es) X.env=(false,eval e X.env) :: starEach es X.env:=by rfl) (hpl:(backTo pos (starEach es X.env)).any (·.1)=false:=by rfl) :
 PE X (.Call (.Name x p) (e :: es) [] pos) (y0q sp dvs E t):=by
 intro pins s σ H Q I h
 refine wpAny_Call_Name_kw (y2z I hg hm ?_ hdb)
 refine PySem.W.callWith_K (h₀:=X.base) I.ok.mod.kin hk (thn (ha pos pins s σ H _ I h) fun us s1 ⟨vs,H1,I1,r,q⟩=>⟨I1.kIn,?_⟩) he hpl
 exact y7E F hr hb hd hx I1 r q
end
section
variable {X:Cx}{CX:CXT}{k:Nat}{f C:Addr}{fd:FuncData}{ps ks:List Str}{sp:Sp}{E:XK}{x m:Str}{p pos apos kpos:Pos}{e o:Expr}{es:List Expr}{kws:List Keyword}{te ta:TE}{t tk:TA}{nm:Option Str}
variable {g:List Value->List Value->List Value}{gV:List V->List V->List V}
end
structure FnScope (N P:List Str) (sc:Scope):Prop where
 kind:sc.kind = .function
 co:sc.isCoroutine=false
 gen:sc.isGenerator=false
 nd:N.Nodup
 pre:N.take P.length=P
 par:∀ x∈P,sc.names.lookup x=some .local\/sc.names.lookup x=some .cell
 nofree:∀ y∈sc.names,y.2 ≠ .free
theorem z7W{kindOf:Str->Option NameKind}{x:Str}:∀ {binds:List (Str×Value)}{m:Str->Option Value},(∀ v,(x,v)∉binds)->bindL kindOf binds m x=m x
 | [],_,_=>rfl
 | (n,v) :: r,m,h=>by
  unfold bindL
  rw[z7W fun w hw=>h w (jK _ hw)]
  split
  · have:x≠n:=by rintro rfl;exact h v jv
    simp[this]
  · rfl
theorem z7Y{kindOf:Str->Option NameKind}{x:Str}:∀ {binds:List (Str×Value)}{m:Str->Option Value},(∀ v,(x,v)∉binds)->bindC kindOf binds m x=m x
 | [],_,_=>rfl
 | (n,v) :: r,m,h=>by
  unfold bindC
  rw[z7Y fun w hw=>h w (jK _ hw)]
  split
  · rfl
  · have:x≠n:=by rintro rfl;exact h v jv
    simp[this]
theorem z7X{kindOf:Str->Option NameKind}{x:Str}{v:Value}:∀ {P:List Str}{vs:List Value}{i:Nat}{m:Str->Option Value},P.Nodup->P[i]? = some x->vs[i]? = some v->kindOf x=some .local ->
 bindL kindOf (P.zip vs) m x=some v
 | [],_,_,_,_,h,_,_=>by simp at h
 | _ :: _,[],_,_,_,_,h,_=>by simp at h
 | p :: P,w :: vs,0,m,nd,h1,h2,hk=>by
  simp at h1 h2;subst h1;subst h2
  show bindL kindOf ((p,w) :: P.zip vs) m p=_
  unfold bindL
  rw[z7W fun v hv=>(kI.mp nd).1 (List.of_mem_zip hv).1,if_pos hk]
  simp
 | p :: P,w :: vs,i + 1,m,nd,h1,h2,hk=>by
  show bindL kindOf ((p,w) :: P.zip vs) m x=_
  unfold bindL
  exact z7X (i:=i) (kI.mp nd).2 (by simpa using h1) (by simpa using h2) hk
theorem z7Z{kindOf:Str->Option NameKind}{x:Str}{v:Value}:∀ {P:List Str}{vs:List Value}{i:Nat}{m:Str->Option Value},P.Nodup->P[i]? = some x->vs[i]? = some v->kindOf x≠some .local ->
 bindC kindOf (P.zip vs) m x=some v
 | [],_,_,_,_,h,_,_=>by simp at h
 | _ :: _,[],_,_,_,_,h,_=>by simp at h
 | p :: P,w :: vs,0,m,nd,h1,h2,hk=>by
  simp at h1 h2;subst h1;subst h2
  show bindC kindOf ((p,w) :: P.zip vs) m p=_
  unfold bindC
  rw[z7Y fun v hv=>(kI.mp nd).1 (List.of_mem_zip hv).1,if_neg hk]
  simp
 | p :: P,w :: vs,i + 1,m,nd,h1,h2,hk=>by
  show bindC kindOf ((p,w) :: P.zip vs) m x=_
  unfold bindC
  exact z7Z (i:=i) (kI.mp nd).2 (by simpa using h1) (by simpa using h2) hk
def z2x(N:List Str)(vs:List V):St:=vs.map some ++ List.replicate (N.length - vs.length) none
def y0M(CX:CXT)(P:Program)(w:World)(K:PySem.W.Frag)(mg:Str->Option Value)(base:Heap)(N:List Str)(qual:Str)(scope:Scope)(f:Addr)(cd:Value)(A:Around)(outer:List Env)(s:Shared)(H:Hp)(E:XK):Cx where
 prog:=P
 w:=w
 K:=K
 mg:=mg
 base:=base
 A:=A.deeper (envOfC qual scope s.heap.objs.size f cd)
 N:=N
 s₀:=s
 H₀:=H
 env:=envOfC qual scope s.heap.objs.size f cd
 outer:=outer
 stack:=envOfC qual scope s.heap.objs.size f cd :: outer
 ex:=[]
 calm:=true
 fn:=fun _=>true
 pn:=[]
 xe:=fun e s'=>wpAny (model P w) (A.deeper (envOfC qual scope s.heap.objs.size f cd)) (leaving (envOfC qual scope s.heap.objs.size f cd) e) (fun _ s''=>CX outer H s E e s'') (fun e' s''=>CX outer H s E e' s'') s'
theorem y0c{sc:Scope}{n:Nat}{x:Str}(h:sc.names.lookup x=some .cell):∃ c,(cellsFrom n sc.names []).lookup x=some c:=by
 have q:=PySem.W.cellsFrom_some sc.names n [] (.inl h)
 exact kC.mp q
theorem y2I{CX:CXT}{P:Program}{w:World}{K:PySem.W.Frag}{mg:Str->Option Value}{base:Heap}{N ps:List Str}{qual:Str}{scope:Scope}{f:Addr}{cd:Value}{A:Around}{outer:List Env}{s s1:Shared}{H:Hp}{E:XK}{us:List Value}{vs:List V}
 (S:FnScope N ps scope) (hd:A.handled=none) (e0:Env0 P w K mg base A outer s H) (hl:vs.length=ps.length) (r:Vals vs us)
 (x:InCallC s s.heap.objs.size (bindL (envOfC qual scope s.heap.objs.size f cd).kindOf (ps.zip us) fun _=>none) (cellsFrom (s.heap.objs.size + 1) scope.names []) (bindC (envOfC qual scope s.heap.objs.size f cd).kindOf (ps.zip us) fun _=>none) s1) :
 Inv (y0M CX P w K mg base N qual scope f cd A outer s H E) [] (z2x N vs) H s1:=by
 have hpl:ps.length<=N.length:=by have:=congrArg List.length S.pre;rw[jS]at this;omega
 obtain⟨h1,tk,rfl,hk⟩:=x.done
 have noA:∀ b:Addr,b∉(y0M CX P w K mg base N qual scope f cd A outer s H E).ex:=fun b z=>absurd (show b∈([]:List Addr) from z) (by simp)
 refine⟨⟨e0.mod,S.kind,rfl,rfl,jE _,fun y z c h1 h2=>?_,fun y hy=>?_,fun y c _ h=>?_,fun _=>hd,Around.frames_deeper e0.frames,.inr ⟨rfl,rfl⟩,fun b z=>absurd z (noA b),e0.bs,e0.bsz,fun b _ _=>noA b,fun b z=>absurd z (noA b),e0.funs,e0.frf⟩,
  rfl,e0.bare,Un.kept hk,⟨_,x.toInCall.ns,fun i y v h1 h2 h3=>?_⟩,fun y c h=>⟨_,x.cell y c h⟩,e0.hok.fresh (jE _),fun y c h=>?_,fun p hp=>absurd (show p∈([]:List (Addr×Obj)) from hp) (by simp),e0.hok.kept hk,?_⟩
 · exact name_of_addr x.apart (PySem.mem_of_lookup h1) (PySem.mem_of_lookup h2)
 · have hy:scope.names.lookup y=some .cell\/scope.names.lookup y=some .free:=hy
   rcases hy with hy | hy
   · exact y0c hy
   · exact absurd rfl (S.nofree _ (PySem.mem_of_lookup hy))
 · exact kP (x.above y c (PySem.mem_of_lookup h))
 · have hi:i < vs.length:=by
    unfold z2x at h2
    by_cases hi:i < vs.length
    · exact hi
    · rw[jz (by simpa using hi)]at h2
      rw[List.getElem?_replicate]at h2
      split at h2 <;> cases h2
   have ha:vs[i]? = some v:=by
    unfold z2x at h2
    rw[kH (by simpa using hi),jF]at h2
    cases e:vs[i]? with
    | none=>rw[e]at h2;cases h2
    | some a=>rw[e]at h2;cases h2;rfl
   obtain⟨u,hu,rv⟩:=r.get ha
   have hp:ps[i]? = some y:=by
    rw[<- S.pre,ka (by omega)];exact h1
   have ndP:ps.Nodup:=by rw[<- S.pre];exact S.nd.sublist (kQ _ _)
   refine⟨u,rv,?_⟩
   rcases S.par y (jk hp) with k | k
   · exact .inl ⟨k,z7X ndP hp hu k⟩
   · obtain⟨c,e⟩:=y0c (n:=s.heap.objs.size + 1) k
     refine .inr ⟨.inl k,c,e,?_⟩
     have q:=x.cell y c e
     rw[z7Z ndP hp hu (by show scope.names.lookup y≠_;rw[k];decide)]at q
     exact q
 · exact e0.hok.fresh (kP (x.above y c (PySem.mem_of_lookup h)))
 · unfold z2x
   show _=N.length
   rw[jG,jA,List.length_replicate]
   omega
theorem y6Q{CX:CXT}{P:Program}{w:World}{K:PySem.W.Frag}{mg:Str->Option Value}{base:Heap}{k:Nat}{f:Addr}{name qual:Str}{params:Arguments}{body:List Stmt}{scope:Scope}{dV kV doc pm cdv ct oc:Value}{an od:Option Addr}
 {osl:Array (Option Value)}{N ps:List Str}{sp:Sp} (lk:K.lookup f=some ⟨oc,od,.func (PySem.W.fnOf name qual params body scope dV kV doc pm an cdv ct),osl⟩) (hcd:PySem.W.codeIn K cdv qual=true) (S:FnScope N ps scope)
 (len:∀ vs H Q E,sp vs H Q E->vs.length=ps.length)
 (hbody:∀ (A:Around) (outer:List Env) (s:Shared) (H:Hp) (vs:List V) (Q:VK) (E:XK),Room k (A.deeper (envOfC qual scope s.heap.objs.size f cdv))->sp vs H Q E ->
  ∃ t,PSs (y0M CX P w K mg base N qual scope f cdv A outer s H E) body t/\t { nx:=fun _ H'=>Q .non H',rt:=Q } (z2x N vs) H) :
 FnOk P w K mg base CX (k + 1) f (PySem.W.fnOf name qual params body scope dV kV doc pm an cdv ct) ps sp:=by
 refine⟨len,fun A outer s H args us vs Q E hr e0 hb r hsp=>?_⟩
 have hl:=len _ _ _ _ hsp
 have KX:K.In s.heap:=e0.mod.kin.keeps fun b o e=>(e0.bs b o e).1
 have lim:s.heap.NoLimit:=e0.mod.nolimit.keeps fun b o e=>(e0.bs b o e).1
 have hkind:∀ y∈ps.zip us,scope.names.lookup y.1=some .local\/(scope.names.lookup y.1=some .cell/\((cellsFrom (s.heap.objs.size + 1) scope.names []).lookup y.1).isSome=true):=fun⟨n,v⟩ hy=>by
  rcases S.par n (List.of_mem_zip hy).1 with q | q
  · exact .inl q
  · exact .inr ⟨q,PySem.W.cellsFrom_some _ _ _ (.inl q)⟩
 refine codeAny_call_function hr.depth (KX _ _ lk) rfl S.co S.gen rfl (PySem.W.codeRec_of KX hcd) (hb _ _ _ _ ?_)
 refine wpAny_newFunctionEnv_cells S.kind hkind fun env he s1 x=>?_
 subst he
 refine⟨lim.keeps x.toInCall.keep,codeAny_func ?_⟩
 obtain⟨t,ht,hq⟩:=hbody A outer s H vs Q E (hr.deeper _) hsp
 have I:Inv (y0M CX P w K mg base N qual scope f cdv A outer s H E) [] (z2x N vs) H s1:=y2I S hr.hd e0 hl r x
 refine wpAny_mono (ht [] s1 (z2x N vs) H _ I hq) (fun fl s' hs=>?_) fun e s' hs=>hs
 have fin:∀ {σ':St}{H':Hp}{v:V}{u:Value},Inv (y0M CX P w K mg base N qual scope f cdv A outer s H E) [] σ' H' s'->RelV v u->Q v H'->CE outer P w H s Q u s' :=
  fun {σ' H' v u} J rv q=>⟨v,H',J.os,J.bare,J.base,J.hok,rv,q⟩
 cases fl with
 | ret u =>
  obtain⟨v,σ',H',J,rv,q⟩:=hs
  exact fin J rv q
 | next =>
  obtain⟨σ',H',J,q⟩:=hs
  exact fin (v:=V.non) (u:=Value.none) J rfl q
 | brk =>
  obtain⟨_,_,_,q⟩:=hs
  exact False.elim q
 | cont =>
  obtain⟨_,_,_,q⟩:=hs
  exact False.elim q
section
variable {X:Cx}{x:Str}{p pos:Pos}{e:Expr}{es:List Expr}{t:TA}{id T:String}{r:List V->Hp->VK->Prop}
def tCB(r:List V->Hp->VK->Prop)(t:TA):TE:=fun σ H Q=>t σ H fun vs H1=>r vs H1 Q
theorem z0W(hc:CallR X (.builtin id) r)(hg:Gl X x)(hm:X.mg x=none)(hv:bootBuiltins x=some (.builtin id))(ha:PA X (e :: es) t)(hn:x ≠ "__name__" := by decide)(hdb:(x == ("__debug__" : Str))=false:=by decide)
 (he:starEach (e :: es) X.env=(false,eval e X.env) :: starEach es X.env:=by rfl) (hpl:(backTo pos (starEach es X.env)).any (·.1)=false:=by rfl):PE X (.Call (.Name x p) (e :: es) [] pos) (tCB r t):=by
 intro pins s σ H Q I h
 refine wpAny_Call_Name_kw (z3z I hg hm hv ?_ hn hdb)
 exact PyProof.Rows.callWith_builtin1 (thn (ha pos pins s σ H _ I h) fun us s1 ⟨vs,H1,I1,r1,q1⟩=>hc pins s1 σ H1 vs us Q I1 r1 q1) he hpl
theorem z0t(hc:CallR X (.type T) r)(hg:Gl X x)(hm:X.mg x=none)(hv:bootBuiltins x=some (.type T))(ha:PA X (e :: es) t)(hn:x ≠ "__name__" := by decide)(hdb:(x == ("__debug__" : Str))=false:=by decide)
 (he:starEach (e :: es) X.env=(false,eval e X.env) :: starEach es X.env:=by rfl) (hpl:(backTo pos (starEach es X.env)).any (·.1)=false:=by rfl):PE X (.Call (.Name x p) (e :: es) [] pos) (tCB r t):=by
 intro pins s σ H Q I h
 refine wpAny_Call_Name_kw (z3z I hg hm hv ?_ hn hdb)
 exact PyProof.Rows.callWith_type1 (thn (ha pos pins s σ H _ I h) fun us s1 ⟨vs,H1,I1,r1,q1⟩=>hc pins s1 σ H1 vs us Q I1 r1 q1) he hpl
end
end L2
namespace HT
open PySem PyProof.Rows
def lexLt:List Int->List Int->Bool
 | [],[]=>false
 | [],_ :: _=>true
 | _ :: _,[]=>false
 | x :: xs,y :: ys=>if x=y then lexLt xs ys else decide (x < y)
theorem lexLt_cons(x y:Int)(xs ys:List Int):lexLt (x :: xs) (y :: ys)=if x=y then lexLt xs ys else decide (x < y):=rfl
theorem z6J:lexLt [] []=false:=rfl
theorem z5w(y:Int)(ys:List Int):lexLt [] (y :: ys)=true:=rfl
theorem lexLt_cons_nil(x:Int)(xs:List Int):lexLt (x :: xs) []=false:=rfl
theorem y4B(A:Around)(s:Shared)(a:Int)(t:Tok)(c:Int)(u:Tok):∃ e,SeqAt.EqAt A s (.int a t) (.int c u) e/\(e=true↔a=c) :=
 ⟨(a == c),SeqAt.EqAt.int_int a t c u,by simp⟩
theorem y3R(A:Around)(s:Shared)(a:Int)(t:Tok)(c:Int)(u:Tok)(prog:Program)(w:World)(E:Value->Shared->Prop)(Q:Value->Shared->Prop)(h:Q (.bool (decide (a < c))) s) :
 wpAny (model prog w) A (richCompare .Lt (.int a t) (.int c u)) Q E s :=
 (PyProof.Rows.lt_int h:wpAny (model prog w) A (compareOp .Lt (.int a t) (.int c u)) Q E s)
section
open PySem.SeqAt
open PySem.AutoSeq1 (wpAny_loadPart')
open PySem.MeetsSeq PySem.MeetsSeq2 PySem.MeetsSeq3
theorem z6a(l b:Addr)(items items2:Array Value)(n n2:Nat)(dd dd2:Option Addr)(sl sl2:Array (Option Value))(ns ms:List Int)(hi:IntsAre items.toList ns)(hj:IntsAre items2.toList ms) :
 Meets (Builtin.«tuple.__lt__» ⟨[.ref l,.ref b],[]⟩)
  (fun _ R s=>s.heap.get? l=some { cls := .type "tuple",dict:=dd,data := .seq items n,slots:=sl }/\s.heap.get? b=some { cls := .type "tuple",dict:=dd2,data := .seq items2 n2,slots:=sl2 } /\
   R (.ok (.ret (.bool (lexLt ns ms)))) s) :=
 .of_wp fun prog w A R s h=>by
  obtain⟨hp,g,d,tk,os⟩:=s;obtain⟨hl,hb,h⟩:=h
  have f2:=AutoSeq1.sub_tuple_tuple
  have z1:items.size=ns.length:=by rw[<- hi.length];simp
  have z2:items2.size=ms.length:=by rw[<- hj.length];simp
  wp_walk using wpAny_loadPart' hl,wpAny_loadPart' hb,wpAny_forIn_list _ (fun rest b s'=>b.1=none/\s'=⟨hp,g,d,tk,os⟩/\∃ (vs ws:List Value) (ns' ms':List Int),rest=vs.zip ws /\
   IntsAre vs ns'/\IntsAre ws ms'/\ns'.length + items2.size=ms'.length + items.size/\R (.ok (.ret (.bool (lexLt ns' ms')))) ⟨hp,g,d,tk,os⟩) _
  case turn =>
   rintro⟨y,x⟩ rest b s' ⟨hb',rfl,vs,ws,ns',ms',hz,hvi,hwi,hlen,hR⟩
   cases hvi with
   | nil=>rw[List.zip_nil_left]at hz;cases hz
   | cons a t hvi' =>
    cases hwi with
    | nil=>rw[List.zip_nil_right]at hz;cases hz
    | cons c u hwi' =>
     rw[List.zip_cons_cons]at hz
     injection hz with hyx hrest
     injection hyx with hy hx
     subst hy hx
     rw[lexLt_cons]at hR
     simp only[jx]at hlen
     obtain⟨e,he,hiff⟩:=y4B A.in1 ⟨hp,g,d,tk,os⟩ a t c u
     refine wpAny_bind (he prog w _ _ ?_)
     cases e with
     | true =>
      rw[if_pos (hiff.mp rfl)]at hR
      wp_walk
      exact⟨rfl,rfl,_,_,_,_,hrest,hvi',hwi',by omega,hR⟩
     | false =>
      rw[if_neg (fun q=>absurd (hiff.mpr q) jR)]at hR
      have hri:=y3R A.in1 ⟨hp,g,d,tk,os⟩ a t c u prog w
      wp_walk using hri
      exact⟨_,rfl,by simpa using hR⟩
  case fin =>
   rintro⟨b1,b2⟩ s' ⟨hb',rfl,vs,ws,ns',ms',hz,hvi,hwi,hlen,hR⟩
   simp only at hb'
   subst hb'
   have hv:lexLt ns' ms'=decide (items.size < items2.size):=by
    cases hvi with
    | nil =>
     cases hwi with
     | nil =>
      simp only[qD]at hlen
      rw[z6J]
      exact (decide_eq_false (by omega)).symm
     | cons c u hw =>
      simp only[qD,jx]at hlen
      rw[z5w]
      exact (decide_eq_true (by omega)).symm
    | cons a t hv =>
     cases hwi with
     | nil =>
      simp only[qD,jx]at hlen
      rw[lexLt_cons_nil]
      exact (decide_eq_false (by omega)).symm
     | cons c u hw =>
      rw[List.zip_cons_cons]at hz
      cases hz
   rw[hv]at hR
   wp_walk
   exact⟨_,rfl,by simpa [Builtin.Tuple.tupleCompareSizes] using hR⟩
  case h =>
   exact⟨rfl,rfl,items.toList,items2.toList,ns,ms,rfl,hi,hj,by omega,h⟩
end
section
variable {prog:Program}{w:World}{A:Around}{E:Value->Shared->Prop}{s:Shared}
theorem lt_tupInts{l b:Addr}{items items2:Array Value}{ns ms:List Int}{Q:Value->Shared->Prop}(hl:IsTup s.heap l items)(hb:IsTup s.heap b items2)(hi:IntsAre items.toList ns)(hj:IntsAre items2.toList ms)
 (hu:A.units < cLine) (h:Q (.bool (lexLt ns ms)) s):wpAny (model prog w) A (compareOp .Lt (.ref l) (.ref b)) Q E s:=by
 obtain⟨⟨cls,dd,data,sl⟩,ho,hc,n,hd⟩:=id hl
 obtain⟨⟨cls2,dd2,data2,sl2⟩,ho2,hc2,n2,hd2⟩:=id hb
 simp only at hc hd hc2 hd2
 subst hc hd hc2 hd2
 exact richCompare_meets_room (op := .Lt) ⟨_,ho,rfl⟩ ⟨_,ho2,rfl⟩ PySem.F.slot_tuple_lt PySem.F.entry_tuple_lt (PySem.F.args_tuple_lt_2 _ _) (z6a l b items items2 n n2 dd dd2 sl sl2 ns ms hi hj)
  ⟨ho,ho2,show Value.bool (lexLt ns ms)≠Value.notImplemented/\Q (.bool (lexLt ns ms)) s from ⟨(fun x=>nomatch x),h⟩⟩ hu
theorem cat_tup{t b:Addr}{vs ws:List Value}{Q:Value->Shared->Prop}(ht:IsTup s.heap t vs.toArray)(hb:IsTup s.heap b ws.toArray)(hv:vs≠[])
 (h1:ws=[]->Q (.ref t) s) (h2:ws≠[]->Q (.ref s.heap.objs.size) { s with heap:=s.heap.push { cls := .type "tuple",data := .seq (vs ++ ws).toArray } })
 (hsz:vs.length + ws.length<=sizeLine):wpAny (model prog w) A (binaryOp .Add (.ref t) (.ref b)) Q E s:=by
 obtain⟨⟨cls,dd,data,sl⟩,ho,hc,n,hd⟩:=id ht
 obtain⟨⟨cls2,dd2,data2,sl2⟩,ho2,hc2,n2,hd2⟩:=id hb
 simp only at hc hd hc2 hd2
 subst hc hd hc2 hd2
 have e:vs.toArray ++ ws.toArray=(vs ++ ws).toArray:=by simp
 by_cases hw:ws=[]
 · exact concat_meets ⟨_,ho,rfl⟩ ⟨_,ho2,rfl⟩ noFill_tuple_add seq_tuple_add PySem.F.slot_tuple_add PySem.F.entry_tuple_add (PySem.F.args_tuple_add_2 _ _)
    (tuple_addW1 t b vs.toArray ws.toArray n n2 dd dd2 sl sl2 (by simpa using hv) (by simp[hw])) ⟨ho,ho2,h1 hw⟩
 · refine concat_meets ⟨_,ho,rfl⟩ ⟨_,ho2,rfl⟩ noFill_tuple_add seq_tuple_add PySem.F.slot_tuple_add PySem.F.entry_tuple_add (PySem.F.args_tuple_add_2 _ _)
    (tuple_addW2 t b vs.toArray ws.toArray n n2 dd dd2 sl sl2 (by simpa using hv) (by simpa using hw) (by rw[jI,jI];exact hsz)) ⟨ho,ho2,?_⟩
   rw[e]
   exact h2 hw
def sIx(n d:Nat):Option Int->Nat
 | none=>d
 | some v=>if v < 0 then (v + (n:Int)).toNat else min v.toNat n
theorem sIx_none(n d:Nat):sIx n d none=d:=rfl
theorem sIx_nat(n d k:Nat):sIx n d (some (k:Int))=min k n:=by
 show (if (k:Int) < 0 then ((k:Int) + (n:Int)).toNat else min (k:Int).toNat n)=min k n
 rw[if_neg (by omega),kJ]
theorem y7D(n d:Nat)(hd:d<=n)(o:Option Int):sIx n d o<=n:=by
 cases o with
 | none=>exact hd
 | some v =>
  show (if v < 0 then (v + (n:Int)).toNat else min v.toNat n)<=n
  by_cases hv:v < 0
  · rw[if_pos hv];omega
  · rw[if_neg hv];exact Nat.min_le_right _ _
theorem y3c(v:Int)(n d:Nat):(if v < 0 then max (v + (n:Int)) 0 else min v (n:Int))=((sIx n d (some v):Nat):Int):=by
 show (if v < 0 then max (v + (n:Int)) 0 else min v (n:Int))=(((if v < 0 then (v + (n:Int)).toNat else min v.toNat n):Nat):Int)
 by_cases hv:v < 0
 · simp only[if_pos hv];omega
 · simp only[if_neg hv];omega
theorem y0T(lo hi:Option Int)(n:Nat):Builtin.Slice.sliceAdjust lo hi 1 (n:Int)=(((sIx n 0 lo:Nat):Int),((sIx n n hi:Nat):Int)):=by
 have h1:¬ ((1:Int) < 0):=by omega
 unfold Builtin.Slice.sliceAdjust
 simp only[h1,if_false]
 refine Prod.ext ?_ ?_
 · cases lo with
   | none=>rfl
   | some v=>exact y3c v n 0
 · cases hi with
   | none=>rfl
   | some v=>exact y3c v n n
theorem y0v(i j:Nat):Builtin.Slice.slicePlaces (i:Int) (j:Int) 1=j - i:=by
 unfold Builtin.Slice.slicePlaces
 have h1:(1:Int) > 0:=by omega
 simp only[h1,if_true,Int.ediv_one]
 split <;> omega
theorem z5F{v:Value}{o:Option Int}{Q:Option Int->Shared->Prop}(p:IsPart v o)(h:Q o s):wpAny (model prog w) A (Builtin.Slice.slicePartIndex v) Q E s:=by
 cases p with
 | none=>exact slicePart_none h
 | int i t=>exact slicePart_int h
theorem z4l{sl:Addr}{vl vu:Value}{lo hi:Option Int}{n:Nat}{Q:Int×Int×Nat->Shared->Prop}(hs:s.heap.IsSliceOf sl vl vu .none)(pl:IsPart vl lo)(pu:IsPart vu hi)
 (h:Q (((sIx n 0 lo:Nat):Int),1,sIx n n hi - sIx n 0 lo) s):wpAny (model prog w) A (Builtin.Slice.sliceApplied (.ref sl) (pure (n:Int))) Q E s:=by
 obtain⟨os,hos,hcs,hds⟩:=id hs
 unfold Builtin.Slice.sliceApplied Builtin.Slice.sliceFields
 refine wpAny_bind (wpAny_bind (wpAny_field hos hds (x:=vl) rfl (wpAny_bind (wpAny_field hos hds (x:=vu) rfl (wpAny_bind (wpAny_field hos hds (x := .none) rfl (wpAny_pure ?_)))))))
 refine wpAny_bind (slicePart_none ?_)
 show wpAny _ _ (if ((1:Int) == 0)=true then _ else _) _ _ s
 rw[if_neg (by decide)]
 refine wpAny_bind (z5F pl (wpAny_bind (z5F pu (wpAny_bind (wpAny_pure ?_)))))
 show wpAny _ _ (match Builtin.Slice.sliceAdjust lo hi 1 (n:Int) with | (lo,hi)=>pure (lo,(1:Int),Builtin.Slice.slicePlaces lo hi 1)) _ _ s
 rw[y0T lo hi n]
 show wpAny _ _ (pure (((sIx n 0 lo:Nat):Int),(1:Int),Builtin.Slice.slicePlaces ((sIx n 0 lo:Nat):Int) ((sIx n n hi:Nat):Int) 1)) _ _ s
 rw[y0v]
 exact wpAny_pure h
theorem y3W(xs:Array Value)(i k:Nat):((List.range k).filterMap fun (m:Nat)=>xs[((i:Int) + (m:Int) * 1).toNat]?).toArray=((xs.toList.drop i).take k).toArray:=by
 have e:(fun (m:Nat)=>xs[((i:Int) + (m:Int) * 1).toNat]?)=fun m=>xs[i + m]? := by
  funext m
  have:((i:Int) + (m:Int) * 1).toNat=i + m:=by omega
  rw[this]
 rw[e]
 have:=pick_run xs i k
 rw[List.filterMap_map]at this
 have e2:((fun x=>xs[x]?) ∘ fun x=>i + x)=fun m=>xs[i + m]? := rfl
 rw[e2]at this
 rw[this]
theorem getItem_tuple_cut{t sl:Addr}{items:Array Value}{vl vu:Value}{lo hi:Option Int}{Q:Value->Shared->Prop}(ht:IsTup s.heap t items)(hs:s.heap.IsSliceOf sl vl vu .none)(pl:IsPart vl lo)(pu:IsPart vu hi)
 (hw:¬ (sIx items.size 0 lo=0/\sIx items.size items.size hi=items.size))
 (h:Q (.ref s.heap.objs.size) { s with heap:=s.heap.push { cls := .type "tuple",data := .seq ((items.toList.drop (sIx items.size 0 lo)).take (sIx items.size items.size hi - sIx items.size 0 lo)).toArray } })
 (hsz:items.size<=sizeLine):wpAny (model prog w) A (getItem (.ref t) (.ref sl)) Q E s:=by
 have htake:sizeOk (.seq ((items.toList.drop (sIx items.size 0 lo)).take (sIx items.size items.size hi - sIx items.size 0 lo)).toArray):=by
  show ((items.toList.drop (sIx items.size 0 lo)).take (sIx items.size items.size hi - sIx items.size 0 lo)).toArray.size<=sizeLine
  rw[jI,jS,js,jX]
  omega
 have hj:sIx items.size items.size hi<=items.size:=y7D _ _ (jE _) hi
 obtain⟨os,hos,hcs,hds⟩:=id hs
 have hTs:s.TypeIs (.ref sl) "slice" := ⟨os,hos,hcs⟩
 unfold getItem
 try with_reducible refine wpAny_holding ?_
 first | refine wpAny_bind (wpAny_pure ?_) | skip
 refine wpAny_bind (wpAny_sequenceKey ht.typeIs (by decide) ?_)
 refine wpAny_bind (wpAny_callSpecial?_slot (name:=Str.ofString "__getitem__") ht.typeIs PyProof.Rows.slot_tuple_getitem
  (wpAny_call_entry PyProof.Rows.slot_tuple_getitem ht.typeIs entry_tuple_getitem ?_ (args_tuple_getitem _ _)))
 show wpAny _ _ (Builtin.Tuple.tupleItemsOf (.ref t) >>= _) _ _ s
 refine wpAny_bind (tupleItemsOf_ ht ?_)
 refine wpAny_bind (wpAny_typeOf hTs ?_)
 rw[if_pos (by decide)]
 refine wpAny_bind (z4l hs pl pu ?_)
 have hno:¬ ((((sIx items.size 0 lo:Nat):Int) == 0 && (1:Int) == 1 && (sIx items.size items.size hi - sIx items.size 0 lo) == items.size)=true):=by
  intro q
  rw[qJ,qJ]at q
  have q1:((sIx items.size 0 lo:Nat):Int)=0:=eq_of_beq q.1.1
  have q2:sIx items.size items.size hi - sIx items.size 0 lo=items.size:=eq_of_beq q.2
  exact hw ⟨by omega,by omega⟩
 show wpAny _ _ (if (((sIx items.size 0 lo:Nat):Int) == 0 && (1:Int) == 1 && (sIx items.size items.size hi - sIx items.size 0 lo) == items.size)=true then _ else _) _ _ s
 rw[if_neg hno,y3W]
 first
  | exact wpAny_bind (m:=Builtin.Tuple.tupleExact _) (wpAny_newObj_type (wpAny_pure ⟨_,rfl,wpAny_pure h⟩) htake)
  | exact wpAny_bind (m:=Builtin.Tuple.tupleExact _) (wpAny_newObj_type (wpAny_bind (wpAny_pure (wpAny_pure ⟨_,rfl,wpAny_pure h⟩))) htake)
  | exact wpAny_bind (wpAny_bind (m:=Builtin.Tuple.tupleExact _) (wpAny_newObj_type (wpAny_pure (wpAny_pure ⟨_,rfl,wpAny_pure h⟩)) htake))
  | exact wpAny_bind (wpAny_bind (m:=Builtin.Tuple.tupleExact _) (wpAny_newObj_type (wpAny_pure ⟨_,rfl,wpAny_pure h⟩) htake))
end
end HT
namespace L2
open PySem PySem.Spec PyProof.Rows
abbrev TO:=St->Hp->(Option Int->Hp->Prop)->Prop
def PO(X:Cx)(e:Option Expr)(t:TO):Prop :=
 ∀ (pins:List (Addr×Obj)) (s:Shared) (σ:St) (H:Hp) (Q:Option Int->Hp->Prop),Inv X pins σ H s->t σ H Q ->
  wpAny (model X.prog X.w) X.A (evalPart e X.env) (fun u s'=>∃ o H',Inv X pins σ H' s'/\IsPart u o/\Q o H') X.xe s
def z6b:TO:=fun _ H Q=>Q none H
def y3I(t:TE):TO:=fun σ H Q=>t σ H fun x H1=>∃ i,x = .int i/\Q (some i) H1
theorem z5Q{ns:List Int}:∀ {us:List Value},Vals (ns.map V.int) us->IntsAre us ns:=by
 induction ns with
 | nil=>intro us r;rw[qE]at r;cases r;exact .nil
 | cons n ns ih =>
  intro us r
  rw[jV]at r
  cases r with
  | cons r1 r2 =>
   obtain⟨t,e⟩:=r1
   subst e
   exact .cons n t (ih r2)
section
variable {X:Cx}{e:Expr}{te:TE}{lo hi:Option Expr}{tl th:TO}{pos p2:Pos}
theorem z2I:PO X none z6b:=by
 intro pins s σ H Q I h
 rw[evalPart_none]
 exact wpAny_pure ⟨none,H,I,.none,h⟩
theorem z2H(h:PE X e te):PO X (some e) (y3I te):=by
 intro pins s σ H Q I hw
 rw[evalPart_some]
 refine thn (h pins s σ H _ I hw) fun u s1 ⟨x,H1,I1,r1,q1⟩=>?_
 obtain⟨i,rfl,q⟩:=q1
 obtain⟨t,rfl⟩:=r1
 exact⟨some i,H1,I1,.int i t,q⟩
def SlR(X:Cx)(r:V->Option Int->Option Int->Hp->VK->Prop):Prop :=
 ∀ (pins:List (Addr×Obj)) (s:Shared) (σ:St) (H:Hp) (x:V) (v vl vu:Value) (lo hi:Option Int) (sl:Addr) (Q:VK),Inv X pins σ H s->RelV x v->s.heap.IsSliceOf sl vl vu .none->IsPart vl lo->IsPart vu hi->r x lo hi H Q ->
  ∃ T id,typeLookup (.type T) "__getitem__" = pure (some (.builtin id))/\s.TypeIs v T/\wpAny (model X.prog X.w) X.A (getItem v (.ref sl)) (EP X pins σ Q) X.xe s
theorem SlR.or{r r':V->Option Int->Option Int->Hp->VK->Prop}(h:SlR X r)(h':SlR X r'):SlR X (fun x lo hi H Q=>r x lo hi H Q\/r' x lo hi H Q):=by
 intro pins s σ H x v vl vu lo hi sl Q I rx hs pl pu q
 rcases q with q | q
 · exact h pins s σ H x v vl vu lo hi sl Q I rx hs pl pu q
 · exact h' pins s σ H x v vl vu lo hi sl Q I rx hs pl pu q
def tSl(r:V->Option Int->Option Int->Hp->VK->Prop)(te:TE)(tl th:TO):TE:=fun σ H Q=>te σ H fun x H1=>tl σ H1 fun l H2=>th σ H2 fun u H3=>r x l u H3 Q
theorem z1V{r:V->Option Int->Option Int->Hp->VK->Prop}(hr:SlR X r)(he:PE X e te)(hl:PO X lo tl)(hu:PO X hi th):PE X (.Subscript e (.Slice lo hi none p2) pos) (tSl r te tl th):=by
 intro pins s σ H Q I h
 refine Subscript_ (thn (he pins s σ H _ I h) fun v s1 ⟨x,H1,I1,r1,q1⟩=>?_)
 refine wpAny_Slice (thn (hl pins s1 σ H1 _ I1 q1) fun vl s2 ⟨l,H2,I2,pl,q2⟩=>thn (hu pins s2 σ H2 _ I2 q2) fun vu s3 ⟨u,H3,I3,pu,q3⟩=>?_)
 rw[evalPart_none]
 refine wpAny_pure ?_
 have I4:Inv X pins σ H3 { s3 with heap:=s3.heap.push { cls := .type "slice",data := .fields #[vl,vu,.none] } }:=I3.kept (t':=s3.toks) fun b ob q=>jB _ q
 obtain⟨T,id,hT,ht,hg⟩:=hr pins { s3 with heap:=s3.heap.push { cls := .type "slice",data := .fields #[vl,vu,.none] } } σ H3 x v vl vu l u s3.heap.objs.size Q I4 r1 (Heap.IsSliceOf.new ..) pl pu q3
 show wpAny (model X.prog X.w) X.A (subscriptTail e (.Slice lo hi none p2) v (.ref s3.heap.objs.size)) (EP X pins σ Q) X.xe { s3 with heap:=s3.heap.push { cls := .type "slice",data := .fields #[vl,vu,.none] } }
 exact tail_any (ops:=[.ref s3.heap.objs.size,v]) ht hT hg (by with_unfolding_all rfl)
def z5y(xs:List V)(lo hi:Option Int):List V:=(xs.drop (HT.sIx xs.length 0 lo)).take (HT.sIx xs.length xs.length hi - HT.sIx xs.length 0 lo)
theorem z5m(xs:List V)(lo hi:Option Int):(z5y xs lo hi).length<=xs.length:=by
 unfold z5y
 rw[jS,js]
 omega
def y9R(K:PySem.W.Frag):V->Option Int->Option Int->Hp->VK->Prop:=fun x lo hi H Q=>∃ a xs,x = .ref a/\SqT K H a xs /\
 ¬ (HT.sIx xs.length 0 lo=0/\HT.sIx xs.length xs.length hi=xs.length)/\∀ p,H p=none->Q (.ref p) (upd H p (.tup (z5y xs lo hi)))
theorem y7B:SlR X (y9R X.K):=by
 intro pins s σ H x v vl vu lo hi sl Q I rx hs pl pu h
 obtain⟨a,xs,rfl,hx,hw,q⟩:=h
 cases rx
 obtain⟨its,r,ht,hz⟩:=I.tuple hx
 have hlen:its.toArray.size=xs.length:=by rw[jI];exact r.length.symm
 refine⟨"tuple",_,PyProof.Rows.slot_tuple_getitem.lookup,ht.typeIs,?_⟩
 refine HT.getItem_tuple_cut ht hs pl pu (by rw[hlen];exact hw) ?_ (by rw[hlen];exact hz)
 rw[hlen]
 refine⟨.ref s.heap.objs.size,_,I.laid (t':=s.toks) (o := .tup (z5y xs lo hi)) (fun b ob q=>jB _ q) (jE _) ?_,rfl,q _ (I.hok.fresh (jE _))⟩
 exact⟨jY (z5m xs lo hi) hz,_,(r.drop (HT.sIx xs.length 0 lo)).take (HT.sIx xs.length xs.length hi - HT.sIx xs.length 0 lo),IsTup.new _ _⟩
def y7I(K:PySem.W.Frag):R2:=fun x y H Q=>∃ a b xs ys,x = .ref a/\y = .ref b/\SqT K H a xs/\SqT K H b ys/\xs≠[]/\xs.length + ys.length<=sizeLine /\
 (ys=[]->Q (.ref a) H)/\(ys≠[]->∀ p,H p=none->Q (.ref p) (upd H p (.tup (xs ++ ys))))
theorem Vals.nil_iff{xs:List V}{us:List Value}(r:Vals xs us):us=[]↔xs=[]:=by
 cases r with
 | nil=>simp
 | cons _ _=>simp
theorem y2h:OpR X (binaryOp .Add) (y7I X.K):=by
 intro pins s σ H x y v u Q I rx ry h
 obtain⟨a,b,xs,ys,rfl,rfl,ha,hb,hx,hz,q1,q2⟩:=h
 cases rx
 cases ry
 obtain⟨its,r1,p1,_⟩:=I.tuple ha
 obtain⟨its2,r2,p2,_⟩:=I.tuple hb
 refine HT.cat_tup p1 p2 (fun z=>hx (r1.nil_iff.mp z)) (fun z=>⟨.ref a,H,I,rfl,q1 (r2.nil_iff.mp z)⟩) (fun z=>?_) (by rw[<- r1.length,<- r2.length];exact hz)
 refine⟨.ref s.heap.objs.size,_,I.laid (t':=s.toks) (o := .tup (xs ++ ys)) (fun b ob q=>jB _ q) (jE _) ?_,rfl,q2 (fun w=>z (r2.nil_iff.mpr w)) _ (I.hok.fresh (jE _))⟩
 exact⟨by rw[jG];exact hz,_,r1.append r2,IsTup.new _ _⟩
end
def ixN(n:Nat)(i:Int):Option Nat:=if 0<=i then (if i < n then some i.toNat else none) else if -(n:Int)<=i then some (i + n).toNat else none
def atI{α:Type}(xs:List α)(i:Int):Option α:=(ixN xs.length i).bind fun j=>xs[j]?
theorem y6F{n:Nat}{i:Int}{j:Nat}(h:ixN n i=some j):seqIndex? i n=some j/\j < n /\ -(n:Int)<=i/\i < n:=by
 unfold ixN at h
 by_cases h0:0<=i
 · rw[if_pos h0]at h
   by_cases h1:i < n
   · rw[if_pos h1]at h
     have e:i.toNat=j:=Option.some.inj h
     exact⟨by rw[seqIndex_of h0 h1,e],by omega,by omega,h1⟩
   · rw[if_neg h1]at h;cases h
 · rw[if_neg h0]at h
   by_cases h1 : -(n:Int)<=i
   · rw[if_pos h1]at h
     have e:(i + n).toNat=j:=Option.some.inj h
     exact⟨by rw[seqIndex_neg (by omega) h1,e],by omega,h1,by omega⟩
   · rw[if_neg h1]at h;cases h
theorem z8U{α:Type}{xs:List α}{i:Int}{v:α}(h:atI xs i=some v):∃ j,seqIndex? i xs.length=some j/\xs[j]? = some v/\j < xs.length /\ -(xs.length:Int)<=i/\i < xs.length:=by
 unfold atI at h
 cases e:ixN xs.length i with
 | none=>rw[e]at h;cases h
 | some j =>
  rw[e]at h
  obtain⟨h1,h2,h3,h4⟩:=y6F e
  exact⟨j,h1,h,h2,h3,h4⟩
theorem z3f{α:Type}{xs:List α}{j:Nat}{v:α}(h:xs[j]? = some v):atI xs (j:Int)=some v:=by
 have hj:j < xs.length:=(jH.mp h).1
 have e:ixN xs.length (j:Int)=some j:=by
  unfold ixN
  rw[if_pos (by omega),if_pos (by omega)];simp
 unfold atI;rw[e];exact h
def y3n(b:Expr):Prop:=∀ o i,subscripted b false o i=operate [o,i] (getItem o i)
def IxR(X:Cx)(r:R2):Prop :=
 ∀ (value slice:Expr) (pins:List (Addr×Obj)) (s:Shared) (σ:St) (H:Hp) (x y:V) (v u:Value) (Q:VK),Inv X pins σ H s->RelV x v->RelV y u->r x y H Q ->
  subscripted slice false v u=operate [v,u] (getItem v u)->wpAny (model X.prog X.w) X.A (subscriptTail value slice v u) (EP X pins σ Q) X.xe s
def MtR(X:Cx)(id:String)(r:V->List V->Hp->VK->Prop):Prop :=
 ∀ (pins:List (Addr×Obj)) (s:Shared) (σ:St) (H:Hp) (x:V) (xs:List V) (v:Value) (us:List Value) (Q:VK),Inv X pins σ H s->RelV x v->Vals xs us->r x xs H Q ->
  wpAny (model X.prog X.w) X.A (call (.builtin id) (v :: us)) (EP X pins σ Q) X.xe s
section
variable {X:Cx}{a b:Expr}{ta tb:TE}{pos:Pos}
theorem IxR.or{r r':R2}(h:IxR X r)(h':IxR X r'):IxR X (fun x y H Q=>r x y H Q\/r' x y H Q):=by
 intro value slice pins s σ H x y v u Q I rx ry q hs
 rcases q with q | q
 · exact h value slice pins s σ H x y v u Q I rx ry q hs
 · exact h' value slice pins s σ H x y v u Q I rx ry q hs
theorem z0q{r:R2}(hr:IxR X r)(ha:PE X a ta)(hb:PE X b tb)(hs:y3n b):PE X (.Subscript a b pos) (tOp r ta tb):=by
 intro pins s σ H Q I h
 exact Subscript_ (y9I ha hb I h fun v u s2 x y H2 I2 rx ry q=>hr a b pins s2 σ H2 x y v u Q I2 rx ry q (hs _ _))
def y9m(K:PySem.W.Frag):R2:=fun x y H Q=>∃ p xs i v,x = .ref p/\y = .int i/\SqL K H p xs/\atI xs i=some v/\Q v H
def y9k(K:PySem.W.Frag):R2:=fun x y H Q=>∃ p xs i v,x = .ref p/\y = .int i/\SqT K H p xs/\atI xs i=some v/\Q v H
def y9l:R2:=fun x y H Q=>∃ z i c,x = .str z/\y = .int i/\z.length<=sizeLine/\atI z.cps.toList i=some c/\Q (.str ⟨#[c]⟩) H
theorem y6E:IxR X (y9m X.K):=by
 intro value slice pins s σ H x y v u Q I rx ry h hs
 obtain⟨p,xs,i,z,rfl,rfl,hq,he,q⟩:=h
 cases rx
 obtain⟨t,rfl⟩:=ry
 obtain⟨its,r,pl,hz⟩:=I.list hq
 obtain⟨j,h1,h2,h3,h4,h5⟩:=z8U he
 obtain⟨w,ew,rw'⟩:=r.get h2
 have hl:=r.length
 have hn:=z9P
 have fin:EP X pins σ Q w s:=⟨z,H,I,rw',q⟩
 by_cases h0:0<=i
 · have hj:i.toNat=j:=by
    rw[seqIndex_of h0 h5]at h1
    exact Option.some.inj h1
   exact item_listR pl.isList h0 (by omega) (by rw[hj];simpa using ew) fin hs
 · have hj:(i + (its.toArray.size:Int)).toNat=j:=by
    rw[seqIndex_neg (by omega) h4]at h1
    rw[jI,<- hl]
    exact Option.some.inj h1
   exact subscriptTail_builtinR (x:=w) pl.isList.typeIs slot_list_getitem.lookup
    (wpAny_getItem_list_neg (Q:=fun r s'=>r=w/\EP X pins σ Q r s') pl.isList (by omega) (by rw[jI] <;> omega) (by omega) (by rw[hj];simpa using ew) ⟨rfl,fin⟩) hs
theorem y8q:IxR X (y9k X.K):=by
 intro value slice pins s σ H x y v u Q I rx ry h hs
 obtain⟨p,xs,i,z,rfl,rfl,hq,he,q⟩:=h
 cases rx
 obtain⟨t,rfl⟩:=ry
 obtain⟨its,r,pl,hz⟩:=I.tuple hq
 obtain⟨j,h1,h2,h3,h4,h5⟩:=z8U he
 obtain⟨w,ew,rw'⟩:=r.get h2
 have hl:=r.length
 have hn:=z9P
 have fin:EP X pins σ Q w s:=⟨z,H,I,rw',q⟩
 exact subscriptTail_builtinR (x:=w) pl.typeIs slot_tuple_getitem.lookup
  (getItem_tuple (j:=j) (Q:=fun r s'=>r=w/\EP X pins σ Q r s') pl (by omega) (by omega) (by rw[jI,<- hl];exact h1) (by simpa using ew) ⟨rfl,fin⟩) hs
theorem y8r:IxR X y9l:=by
 intro value slice pins s σ H x y v u Q I rx ry h hs
 obtain⟨z,i,c,rfl,rfl,hz,he,q⟩:=h
 obtain⟨t,rfl⟩:=rx
 obtain⟨t',rfl⟩:=ry
 obtain⟨j,h1,h2,h3,h4,h5⟩:=z8U he
 have hl:z.cps.toList.length=z.length:=by simp[Str.length]
 rw[hl]at h1 h4 h5
 have hn:=z9P
 exact tail_any (typeIs_str s z t) slot_str_getitem.lookup (getItem_str (c:=c) (by
  have e1:decide (i < -(2 ^ 63:Int))=false:=decide_eq_false (by omega)
  have e2:decide (i ≥ 2 ^ 63)=false:=decide_eq_false (by omega)
  rw[e1,e2,Bool.or_false]) (by rw[h1];simpa using h2) ⟨.str ⟨#[c]⟩,H,I.tok _,⟨_,rfl⟩,q⟩) hs
def rIx(K:PySem.W.Frag):R2:=fun x y H Q=>y9m K x y H Q\/y9k K x y H Q\/y9l x y H Q
theorem y8s:IxR X (rIx X.K):=y6E.or (y8q.or y8r)
theorem z7i(lo hi:Option Int)(n:Nat):(sliceBounds lo hi none n).1=((HT.sIx n 0 lo:Nat):Int)/\(sliceBounds lo hi none n).2.1=((HT.sIx n n hi:Nat):Int)/\(sliceBounds lo hi none n).2.2=1:=by
 refine⟨?_,?_,rfl⟩
 · cases lo with
   | none=>simp[sliceBounds,HT.sIx]
   | some i =>
    simp only[sliceBounds,HT.sIx,Option.getD_none,show (1:Int) > 0 by decide,if_true]
    by_cases h:i < 0
    · simp only[h,if_true] <;> omega
    · simp only[h,if_false] <;> omega
 · cases hi with
   | none=>simp[sliceBounds,HT.sIx]
   | some i =>
    simp only[sliceBounds,HT.sIx,Option.getD_none,show (1:Int) > 0 by decide,if_true]
    by_cases h:i < 0
    · simp only[h,if_true] <;> omega
    · simp only[h,if_false] <;> omega
theorem z6k(its:List Value)(lo hi:Option Int):slicePick its.toArray lo hi none=((its.drop (HT.sIx its.length 0 lo)).take (HT.sIx its.length its.length hi - HT.sIx its.length 0 lo)).toArray:=by
 obtain⟨h1,h2,h3⟩:=z7i lo hi its.toArray.size
 unfold slicePick
 rw[h1,h2,h3]
 simp only[sliceRange_one,pick_run,jI] <;> rfl
def y7H(K:PySem.W.Frag):V->Option Int->Option Int->Hp->VK->Prop:=fun x lo hi H Q=>∃ a xs,x = .ref a/\SqL K H a xs/\∀ p,H p=none->Q (.ref p) (upd H p (.lst (z5y xs lo hi)))
theorem y5W:SlR X (y7H X.K):=by
 intro pins s σ H x v vl vu lo hi sl Q I rx hs pl pu h
 obtain⟨a,xs,rfl,hx,q⟩:=h
 cases rx
 obtain⟨its,r,ht,hz⟩:=I.list hx
 have hlen:=r.length
 refine⟨"list",_,slot_list_getitem.lookup,ht.isList.typeIs,?_⟩
 refine wpAny_getItem_list_slice ht.isList hs pl pu .none (by simp) ?_ (by rw[jI] <;> omega)
 rw[z6k,<- hlen]
 refine⟨.ref s.heap.objs.size,_,I.laid (t':=s.toks) (o := .lst (z5y xs lo hi)) (fun b ob q=>jB _ q) (jE _) ?_,rfl,q _ (I.hok.fresh (jE _))⟩
 exact⟨jY (z5m xs lo hi) hz,_,0,(r.drop (HT.sIx xs.length 0 lo)).take (HT.sIx xs.length xs.length hi - HT.sIx xs.length 0 lo),jO _ rfl⟩
def z5k:V->Bool
 | .non=>true
 | .bl _=>true
 | .int _=>true
 | .str _=>true
 | _=>false
def eqV:V->V->Bool
 | .non,.non=>true
 | .bl a,.bl b=>a == b
 | .bl a,.int b=>(if a then 1 else 0) == b
 | .int a,.bl b=>a == (if b then 1 else 0)
 | .int a,.int b=>a == b
 | .str a,.str b=>a == b
 | _,_=>false
theorem y8B{A:Around}{s:Shared}{y x:V}{u v:Value}(ry:RelV y u)(rx:RelV x v)(fy:z5k y=true)(fx:z5k x=true):SeqAt.EqAt A s u v (eqV y x):=by
 cases y with
 | non =>
  cases ry
  cases x with
  | non=>cases rx;exact SeqAt.EqAt.same _
  | bl b=>cases rx;exact SeqAt.EqAt.none_bool b
  | int b=>obtain⟨t,rfl⟩:=rx;exact SeqAt.EqAt.none_int b t
  | str b=>obtain⟨t,rfl⟩:=rx;exact SeqAt.EqAt.none_str b t
  | _=>exact absurd (show false=true from fx) jR
 | bl a =>
  cases ry
  cases x with
  | non=>cases rx;exact SeqAt.EqAt.bool_none a
  | bl b=>cases rx;exact SeqAt.EqAt.bool_bool a b
  | int b=>obtain⟨t,rfl⟩:=rx;exact SeqAt.EqAt.bool_int a b t
  | str b=>obtain⟨t,rfl⟩:=rx;exact SeqAt.EqAt.bool_str a b t
  | _=>exact absurd (show false=true from fx) jR
 | int a =>
  obtain⟨t',rfl⟩:=ry
  cases x with
  | non=>cases rx;exact SeqAt.EqAt.int_none a t'
  | bl b=>cases rx;exact SeqAt.EqAt.int_bool a t' b
  | int b=>obtain⟨t,rfl⟩:=rx;exact SeqAt.EqAt.int_int a t' b t
  | str b=>obtain⟨t,rfl⟩:=rx;exact SeqAt.EqAt.int_str a t' b t
  | _=>exact absurd (show false=true from fx) jR
 | str a =>
  obtain⟨t',rfl⟩:=ry
  cases x with
  | non=>cases rx;exact SeqAt.EqAt.str_none a t'
  | bl b=>cases rx;exact SeqAt.EqAt.str_bool a t' b
  | int b=>obtain⟨t,rfl⟩:=rx;exact SeqAt.EqAt.str_int a t' b t
  | str b=>obtain⟨t,rfl⟩:=rx;exact SeqAt.EqAt.str_str a t' b t
  | _=>exact absurd (show false=true from fx) jR
 | _=>exact absurd (show false=true from fy) jR
def eqU(x:V)(u:Value):Bool:=match u with
 | .none=>eqV .non x
 | .bool b=>eqV (.bl b) x
 | .int i _=>eqV (.int i) x
 | .str z _=>eqV (.str z) x
 | _=>false
theorem y2R{x y:V}{u:Value}(r:RelV y u)(f:z5k y=true):eqU x u=eqV y x:=by
 cases y with
 | non=>cases r;rfl
 | bl b=>cases r;rfl
 | int i=>obtain⟨t,rfl⟩:=r;rfl
 | str z=>obtain⟨t,rfl⟩:=r;rfl
 | _=>exact absurd (show false=true from f) jR
theorem z5o{x:V}:∀ {xs:List V}{us:List Value},Vals xs us->xs.all z5k=true->us.any (eqU x)=xs.any fun y=>eqV y x
 | _,_,.nil,_=>rfl
 | y :: xs,u :: us,.cons r t,f=>by
  rw[List.all_cons,qJ]at f
  rw[qQ,qQ,y2R r f.1,z5o t f.2]
theorem z2S{A:Around}{s:Shared}{x:V}{v:Value}(rx:RelV x v)(fx:z5k x=true):∀ {xs:List V}{us:List Value},Vals xs us->xs.all z5k=true->∀ u∈us,SeqAt.EqAt A s u v (eqU x u)
 | _,_,.nil,_=>fun u hu=>by cases hu
 | y :: xs,u :: us,.cons r t,f=>fun u' hu=>by
  rw[List.all_cons,qJ]at f
  rcases jQ.mp hu with rfl | hu
  · rw[y2R r f.1];exact y8B r rx f.1 fx
  · exact z2S rx fx t f.2 u' hu
def inV(x:V)(xs:List V):Bool:=xs.any fun y=>eqV y x
def rIn(K:PySem.W.Frag)(neg:Bool):R2:=fun x y H Q=>∃ p xs,y = .ref p/\(SqL K H p xs\/SqT K H p xs)/\z5k x=true/\xs.all z5k=true/\Q (.bl (if neg then !inV x xs else inV x xs)) H
theorem y2d:OpR X (compareOp .In) (rIn X.K false):=by
 intro pins s σ H x y v u Q I rx ry h
 obtain⟨p,xs,rfl,hq,fx,fs,q⟩:=h
 cases ry
 rcases hq with hq | hq
 · obtain⟨its,r,pl,hz⟩:=I.list hq
   refine SeqAt.in_listAt (eqU x) pl.isList (fun w hw=>z2S rx fx r fs w (by simpa using hw)) ⟨.bl _,H,I,rfl,?_⟩
   rw[show its.toArray.any (eqU x)=its.any (eqU x) by simp,z5o r fs]
   exact q
 · obtain⟨its,r,pl,hz⟩:=I.tuple hq
   refine SeqAt.in_tupleAt (eqU x) pl (fun w hw=>z2S rx fx r fs w (by simpa using hw)) ⟨.bl _,H,I,rfl,?_⟩
   rw[show its.toArray.any (eqU x)=its.any (eqU x) by simp,z5o r fs]
   exact q
theorem z7y:OpR X (compareOp .NotIn) (rIn X.K true):=by
 intro pins s σ H x y v u Q I rx ry h
 obtain⟨p,xs,rfl,hq,fx,fs,q⟩:=h
 cases ry
 rcases hq with hq | hq
 · obtain⟨its,r,pl,hz⟩:=I.list hq
   refine SeqAt.notIn_listAt (eqU x) pl.isList (fun w hw=>z2S rx fx r fs w (by simpa using hw)) ⟨.bl _,H,I,rfl,?_⟩
   rw[show its.toArray.any (eqU x)=its.any (eqU x) by simp,z5o r fs]
   exact q
 · obtain⟨its,r,pl,hz⟩:=I.tuple hq
   refine SeqAt.notIn_tupleAt (eqU x) pl (fun w hw=>z2S rx fx r fs w (by simpa using hw)) ⟨.bl _,H,I,rfl,?_⟩
   rw[show its.toArray.any (eqU x)=its.any (eqU x) by simp,z5o r fs]
   exact q
theorem CallR.or{f:Value}{r r':List V->Hp->VK->Prop}(h:CallR X f r)(h':CallR X f r'):CallR X f (fun xs H Q=>r xs H Q\/r' xs H Q):=by
 intro pins s σ H xs us Q I rs q
 rcases q with q | q
 · exact h pins s σ H xs us Q I rs q
 · exact h' pins s σ H xs us Q I rs q
theorem z7T:CallR X (.type "list") (fun xs H Q=>∃ p ys,xs=[.ref p]/\(SqL X.K H p ys\/SqT X.K H p ys)/\∀ l,H l=none->Q (.ref l) (upd H l (.lst ys))):=by
 intro pins s σ H xs us Q I r h
 obtain⟨p,ys,rfl,hq,q⟩:=h
 obtain⟨u,rfl,rx⟩:=z3H r
 cases rx
 have fin:∀ (its:List Value),Vals ys its->ys.length<=sizeLine->∀ (h':Heap) (c':Nat),(∀ b o',s.heap.get? b=some o'->h'.get? b=some o') ->
  h'.get? s.heap.objs.size=some { cls := .type "list",dict:=none,data := .seq its.toArray c',slots:=#[] }->EP X pins σ Q (.ref s.heap.objs.size) { s with heap:=h' }:=fun its r' hz h' c' kp e =>
  ⟨.ref s.heap.objs.size,_,I.laid (t':=s.toks) kp (jE _) (show ObjOk X.prog X.w _ h' _ (.lst ys) from ⟨hz,its,c',r',e⟩),rfl,q _ (I.hok.fresh (jE _))⟩
 rcases hq with hq | hq
 · obtain⟨its,r',pl,hz⟩:=I.list hq
   have hlen:=r'.length
   obtain⟨o,ho,hc,n,hd⟩:=pl.isList
   exact call_list_seq p (.inl rfl) ho hc hd (fun h' c' kp e=>fin its r' hz h' c' kp e) (by simp only[jI] <;> omega)
 · obtain⟨its,r',pl,hz⟩:=I.tuple hq
   have hlen:=r'.length
   obtain⟨o,ho,hc,n,hd⟩:=pl
   exact call_list_seq p (.inr rfl) ho hc hd (fun h' c' kp e=>fin its r' hz h' c' kp e) (by simp only[jI] <;> omega)
theorem z6R:CallR X (.type "tuple") (fun xs H Q=>∃ p ys,xs=[.ref p]/\((SqL X.K H p ys/\∀ l,H l=none->Q (.ref l) (upd H l (.tup ys)))\/(SqT X.K H p ys/\Q (.ref p) H))):=by
 intro pins s σ H xs us Q I r h
 obtain⟨p,ys,rfl,h⟩:=h
 obtain⟨u,rfl,rx⟩:=z3H r
 cases rx
 rcases h with ⟨hq,q⟩ | ⟨hq,q⟩
 · obtain⟨its,r',pl,hz⟩:=I.list hq
   have hlen:=r'.length
   refine call_tuple_list pl.isList (fun h' kp=>?_) (by simp only[jI] <;> omega)
   have I1:Inv X pins σ H { s with heap:=h' }:=I.kept (t':=s.toks) kp
   have I2:Inv X pins σ (upd H h'.objs.size (.tup ys)) { s with heap:=h'.push { cls := .type "tuple",data := .seq its.toArray } } :=
    I1.laid (t':=s.toks) (fun b o e=>jB _ e) (jE _) (show ObjOk X.prog X.w _ _ _ (.tup ys) from ⟨hz,its,r',IsTup.new _ _⟩)
   exact⟨.ref h'.objs.size,_,I2,rfl,q _ (I1.hok.fresh (jE _))⟩
 · obtain⟨its,r',pl,hz⟩:=I.tuple hq
   exact call_tuple_same pl ⟨.ref p,H,I,rfl,q⟩
def tyV(K:PySem.W.Frag)(T:String)(x:V)(H:Hp):Prop:=match x with
 | .str _=>T = "str"
 | .int _=>T = "int"
 | .ref p=>(T = "list" /\ ∃ xs,SqL K H p xs)\/(T = "tuple" /\ ∃ o,K.lookup p=some o/\o.cls = .type "tuple" /\ o.dict=none) \/
  (T = "dict" /\ ((∃ kvs,H p=some (.dK kvs))\/∃ kvs,H p=some (.dT kvs)))\/(T = "set" /\ ∃ S n,H p=some (.set S n))
 | _=>False
theorem y7q{pins:List (Addr×Obj)}{σ:St}{H:Hp}{s:Shared}{T:String}{x:V}{v:Value}(I:Inv X pins σ H s)(r:RelV x v)(ty:tyV X.K T x H) :
 s.TypeIs v T/\∀ a,v = .ref a->∃ ob,s.heap.get? a=some ob/\ob.dict=none:=by
 cases x with
 | str z =>
  obtain⟨t,rfl⟩:=r
  cases (show T = "str" from ty)
  exact⟨typeIs_str s z t,fun _ e=>nomatch e⟩
 | int i =>
  obtain⟨t,rfl⟩:=r
  cases (show T = "int" from ty)
  exact⟨typeIs_int s i t,fun _ e=>nomatch e⟩
 | ref p =>
  cases r
  rcases ty with ⟨rfl,xs,hq⟩ | ⟨rfl,o,hk,hc,hd⟩ | ⟨rfl,hk⟩ | ⟨rfl,S,n,hk⟩
  · obtain⟨its,_,pl,_⟩:=I.list hq
    refine⟨pl.isList.typeIs,fun a e=>?_⟩
    cases e
    obtain⟨o,n,e,c,hd,_⟩:=pl
    exact⟨o,e,hd⟩
  · refine⟨⟨o,I.kIn p o hk,hc⟩,fun a e=>?_⟩
    cases e
    exact⟨o,I.kIn _ o hk,hd⟩
  · have z:∃ o,s.heap.get? p=some o/\o.ExactDict:=by
     rcases hk with ⟨kvs,hk⟩ | ⟨kvs,hk⟩
     · obtain⟨_,_,_,_,o,_,_,e,ex,_⟩:=I.hok p _ hk
       exact⟨o,e,ex⟩
     · obtain⟨_,_,_,_,o,_,_,e,ex,_⟩:=I.hok p _ hk
       exact⟨o,e,ex⟩
    obtain⟨o,e,ex⟩:=z
    refine⟨⟨o,e,ex.1⟩,fun a e2=>?_⟩
    cases e2
    exact⟨o,e,ex.2.1⟩
  · obtain⟨o,_,_,_,e,ex,_⟩:=I.hok p _ hk
    refine⟨⟨o,e,ex.1⟩,fun a e2=>?_⟩
    cases e2
    exact⟨o,e,ex.2.1⟩
 | _=>exact False.elim ty
def tBM(K:PySem.W.Frag)(T:String)(r:V->List V->Hp->VK->Prop)(to:TE)(t:TA):TE:=fun σ H Q=>to σ H fun x H1=>tyV K T x H1/\t σ H1 fun xs H2=>r x xs H2 Q
variable {o e:Expr}{es:List Expr}{to:TE}{t:TA}{name:Str}{apos cpos:Pos}{T id:String}{r:V->List V->Hp->VK->Prop}
theorem z6A(pa:PlainAttrs T)(slot:Slot T name id)(hty:typeOf (.builtin id)=pure (.type "method_descriptor"))(hm:MtR X id r)(ho:PE X o to)(ha:PA X (e :: es) t)
 (hbase:attributeBase o name X.env (eval o X.env)=eval o X.env:=by rfl)
 (hfew:((backTo cpos (starEach (e :: es) X.env)).all (fun x => !x.1) && (backToKw cpos (keywordEach [] X.env)).all (fun x=>x.1.isSome)
  && decide ((e :: es).length + ([]:List Keyword).length + (if ([]:List Keyword).isEmpty then 0 else 1) < 30))=true:=by rfl)
 (hline:(apos.endLine == cpos.line)=true:=by rfl) (hs:starEach (e :: es) X.env=(false,eval e X.env) :: starEach es X.env:=by rfl) (hplain:(backTo cpos (starEach es X.env)).any (·.1)=false:=by rfl) :
 PE X (.Call (.Attribute o name apos) (e :: es) [] cpos) (tBM X.K T r to t):=by
 intro pins s σ H Q I h
 refine wpAny_Call_method_late hbase hfew hline rfl (thn (ho pins s σ H _ I h) fun v s1 ⟨x,H1,I1,r1,ty,q1⟩=>?_)
 obtain⟨h1,h2⟩:=y7q I1 r1 ty
 refine⟨T,id,pa,slot,hty,h1,h2,?_⟩
 have hA:=ha cpos pins s1 σ H1 _ I1 q1
 rw[hs]at hA ⊢
 refine Calls.callWith_builtin (by show (false || (backTo cpos (starEach es X.env)).any (·.1))=false;rw[hplain] <;> rfl) (Calls.evalArgs_plain ?_)
 exact thn hA fun us s2 ⟨vs,H2,I2,r2,q2⟩=>hm pins s2 σ H2 x vs v us Q I2 r1 r2 q2
end
def MtM(X:Cx)(id:String)(r:V->List V->Hp->VK->Prop):Prop :=
 ∀ (pins:List (Addr×Obj)) (s:Shared) (σ:St) (H:Hp) (x:V) (xs:List V) (v:Value) (us:List Value) (Q:VK),Inv X pins σ H s->RelV x v->Vals xs us->r x xs H Q ->
  wpAny (model X.prog X.w) X.A (call (.builtin id) (v :: us)) (EP X pins σ Q) X.xe s
theorem Vals.one:∀ {x:V}{us:List Value},Vals [x] us->∃ u,us=[u]/\RelV x u
 | _,_,.cons r .nil=>⟨_,rfl,r⟩
section
variable {X:Cx}{pins:List (Addr×Obj)}{σ:St}{H:Hp}{s:Shared}{l b:Addr}{xs ys zs:List V}
theorem Inv.lset{its its':List Value}{n:Nat}{f:Array Value->Array Value}{t':Nat}(I:Inv X pins σ H s)(hH:H l=some (.lst xs))
 (e:s.heap.get? l=some { cls := .type "list",data := .seq its.toArray n }) (hf:f its.toArray=its'.toArray) (hv:Vals ys its') (hz:ys.length<=sizeLine) :
 Inv X pins σ (upd H l (.lst ys)) { s with heap:=s.heap.update l (Obj.mapSeq f),toks:=t' }:=by
 have q:=PySem.IsL.update e f
 rw[hf]at q
 refine I.write (x:=l) (e:=l) (by rw[hH];exact trivial) (.inl rfl) (fun b' u hb hu=>(jZ s.heap (Obj.mapSeq f) (Ne.symm hb)).trans hu) ⟨_,q⟩ ?_
 exact⟨hz,its',_,hv,q⟩
theorem Inv.lnew{its:List Value}{t':Nat}(I:Inv X pins σ H s)(hv:Vals ys its)(hz:ys.length<=sizeLine) :
 Inv X pins σ (upd H s.heap.objs.size (.lst ys)) { s with heap:=s.heap.push { cls := .type "list",data := .seq its.toArray },toks:=t' } :=
 I.laid (fun _ _ q=>jB _ q) (jE _) ⟨hz,its,0,hv,jO _ rfl⟩
theorem Inv.fresh(I:Inv X pins σ H s):H s.heap.objs.size=none:=I.hok.fresh (jE _)
theorem Inv.lstM(I:Inv X pins σ H s)(hH:H l=some (.lst xs)):xs.length<=sizeLine/\∃ (its:List Value) (n:Nat),Vals xs its/\xs.length=its.length/\s.heap.get? l=some { cls := .type "list",data := .seq its.toArray n }:=by
 obtain⟨z,its,n,r,e⟩:=I.hok l _ hH
 exact⟨z,its,n,r,r.length,e⟩
theorem y4d{n:Nat}(h:n<=sizeLine):Builtin.List.listTooLong n=false:=by
 unfold Builtin.List.listTooLong
 exact decide_eq_false (by omega)
end
section
variable {X:Cx}
def y6h:V->List V->Hp->VK->Prop:=fun x vs H Q=>∃ l xs y,x = .ref l/\vs=[y]/\H l=some (.lst xs)/\xs.length < sizeLine/\Q .non (upd H l (.lst (xs ++ [y])))
theorem z1h:MtM X "list.append" y6h:=by
 intro pins s σ H x vs v us Q I rx rv h
 obtain⟨l,xs,y,rfl,rfl,hH,hz,q⟩:=h
 cases rx
 obtain⟨u,rfl,ru⟩:=rv.one
 obtain⟨z,its,n,r,hl,e⟩:=I.lstM hH
 refine call_meets F.slot_list_append ⟨_,e,rfl⟩ F.entry_list_append (F.args_list_append_2 _ _) (PySem.list_append l its.toArray n u (by rw[jI];omega)) ⟨e,?_⟩
 refine⟨.non,_,I.lset (its':=its ++ [u]) hH e (by simp) (r.append (.cons ru .nil)) ?_,rfl,q⟩
 rw[jG,List.length_singleton]
 omega
def x0c:R2:=fun x y H Q=>∃ l b xs zs,x = .ref l/\y = .ref b/\H l=some (.lst xs)/\H b=some (.lst zs)/\xs.length + zs.length<=sizeLine/\∀ p,H p=none->Q (.ref p) (upd H p (.lst (xs ++ zs)))
theorem z2v:OpR X (binaryOp .Add) x0c:=by
 intro pins s σ H x y v u Q I rx ry h
 obtain⟨l,b,xs,zs,rfl,rfl,hH,hB,hz,q⟩:=h
 cases rx
 cases ry
 obtain⟨z,its,n,r,hl,e⟩:=I.lstM hH
 obtain⟨z2,its2,n2,r2,hl2,e2⟩:=I.lstM hB
 refine PySem.P.add_list e e2 ?_ (by rw[jI,jI];omega)
 have ea:its.toArray ++ its2.toArray=(its ++ its2).toArray:=by simp
 rw[ea]
 exact⟨.ref _,_,I.lnew (t':=s.toks) (r.append r2) (by rw[jG];omega),rfl,q _ I.fresh⟩
end
section
variable {prog:Program}{w:World}{A:Around}{E:Value->Shared->Prop}{s:Shared}
end
section
variable {X:Cx}
end
end L2
namespace Att
open PySem PySem.W PySem.Calls PyProof.Rows
theorem z5e{P:Params}{h:Heap}:∀ (ns:List Int) (vs:List Value),WellAll P h vs (ns.map WData.int)->IntsAre vs ns:=by
 intro ns
 induction ns with
 | nil =>
  intro vs w
  rw[qE]at w
  cases w
  exact .nil
 | cons n ns ih =>
  intro vs w
  rw[jV]at w
  cases w with
  | cons a b =>
   cases a
   exact .cons _ _ (ih _ b)
theorem y1F{l:OpenLaw}{n:Nat}(hn:l.most=some n){P:Params}{h:Heap}{args:List WData}{vals:List Value}
 (hpre:l.row.toRowW.claim.pre args=true) (hwl:WellAll P h vals args) :
 ∃ a vs ns,vals=[Value.ref a]/\args=[WData.list (ns.map WData.int)]/\h.get? a=some { cls := .type "list",data := .seq vs.toArray }/\IntsAre vs ns/\ns.length<=n:=by
 have hsh:WShape.hasAll [] args [.list .int]=true:=(pre_splitW hpre).1
 have hc:l.pre.holds [] { args:=args }=true:=(pre_splitW hpre).2
 obtain⟨d,r,rfl,h1,h2⟩:=hasAllW_cons hsh
 obtain rfl:=hasAllW_nil h2
 obtain⟨xs,rfl,h3⟩:=hasW_list h1
 obtain⟨ns,rfl⟩:=items_int h3
 have hlen:ns.length<=n:=by
  unfold OpenLaw.pre at hc
  have h4:(WTm.not (.lt (.lit (.int (n:Int))) (.len (.arg 0)))).holds [] { args:=[.list (ns.map .int)] }=true:=by
   have h4:=(holds_andW hc).1
   rw[hn]at h4
   exact h4
  have h5:=condW_of h4 (w_not (w_lt w_lit (w_len_list (w_arg rfl))))
  rw[jA]at h5
  refine Nat.le_of_not_lt fun q=>?_
  have q':(n:Int) < ((ns.length:Nat):Int):=by omega
  first
   | (rw[decide_eq_true q']at h5;exact absurd h5 (by decide))
   | (simp at h5;omega)
 cases hwl with
 | cons w1 w2 =>
  cases w2
  cases w1 with
  | list ho hall=>exact⟨_,_,ns,rfl,rfl,ho,z5e ns _ hall,hlen⟩
theorem y1U(l:OpenLaw)(args:List WData):l.row.toRowW.claim.post args (.bool true) args=true :=
 postW_of (r:=l.row.toRowW) (X:=(true == true))
  (show WShape.has [] (.bool true) .bool=true by first | rfl | decide | simp[WShape.has,WShape.arms,WShape.armsAll])
  (show (WTm.eq .res (.lit (.bool true))).value [] { args:=args,res:=some (.bool true),after:=args }=some (.bool (true == true)) from w_eq_bool (w_res rfl) w_lit) rfl
theorem attach_call{l:OpenLaw}{n:Nat}{q:Program}{loose:List Str}{XP:(Str->Option Value)->Heap->Prop}{YP:World->Heap->Prop}{d:DefRec}
 (hn:l.most=some n) (hdf:d.params.defaults=[])
 (call:∀ (w:World) (s₀ s₁:Shared) (mg mb:Str->Option Value) (fa:Addr) (o:Obj) (pm cd doc:Value) (a:Addr) (vs:List Value) (ns:List Int),
  Ground q loose [] XP w s₀ mg mb s₁.heap->YP w s₁.heap ->
  s₁.heap.get? fa=some o->o.data = .func (docDef d.name d.params d.body d.scope pm cd doc)->s₁.heap.CodeRec cd d.name->mg d.name=some (.ref fa) ->
  s₁.heap.get? a=some { cls := .type "list",data := .seq vs.toArray }->IntsAre vs ns->ns.length<=n->s₁.gens=#[] ->
  codeAny (model l.prog w) callerA (.call (.ref fa) ⟨[.ref a],[]⟩) (fun r s'=>r = .ok (.ret (.bool true))/\OldK s₁.heap s'.heap/\s'.os=s₁.os/\AllBare s'.gens) s₁) :
 WalkO q loose XP YP l.row.toRowW d [] (fun f vs=>PySem.call f vs):=by
 intro w s₀ s₁ mg mb G Y fa o pm cd doc dV kV ho hd hcd hD hmg hg args vals as hpre hlay hrd hwl hlo
 obtain rfl:dV = .none:=Dflts.none hD hdf
 obtain rfl:kV = .none:=Dflts.noKw hD
 obtain⟨a,vs,ns,rfl,rfl,hobj,hints,hlen⟩:=y1F hn hpre hwl
 refine enter_call (codeAny_mono (call w s₀ s₁ mg mb fa o pm cd doc a vs ns G Y ho (fd_plain hd) hcd hmg hobj hints hlen hg) fun r s' hq=>?_)
 obtain⟨rfl,h2,h3,h4⟩:=hq
 exact⟨.inl ⟨.bool true,.bool true,[],rfl,fun _=>rfl,.bool true,y1U l _,fun _=>⟨List.Pairwise.nil,fun _ hm=>(nomatch hm)⟩⟩,h2,h3,h4⟩
section
variable {prog:Program}{w:World}{A:Around}{E:Value->Shared->Prop}{s:Shared}{K:Frag}
end
end Att
namespace L2
open PySem PySem.Spec PyProof.Rows
theorem z6X:∀ {vs:List Value}{ns:List Int},IntsAre vs ns->Vals (ns.map V.int) vs
 | _,_,.nil => .nil
 | _,_,.cons n t h => .cons ⟨t,rfl⟩ (z6X h)
def y9J(H:Hp):Prop:=∀ b,H b=none\/∃ o xs,H b=some (.frz o (.lst xs))
theorem y4o{P:Program}{w:World}{K:PySem.W.Frag}{mg mb:Str->Option Value}{CX:CXT}{k:Nat}{fa a:Addr}{fd:FuncData}{x:Str}{sp:Sp}{s₁:Shared}{vs:List Value}{ns:List Int}
 (KX:K.In s₁.heap) (hns:s₁.heap.Ns mainGlobals mg) (hb:s₁.heap.Ns builtinsNs mb) (hbb:∀ x:Str,x ≠ "__name__" -> mb x=bootBuiltins x) (hlim:s₁.heap.NoLimit) (hg:s₁.gens=#[])
 (ha:s₁.heap.get? a=some { cls := .type "list",data := .seq vs.toArray }) (hi:IntsAre vs ns) (hl:ns.length<=sizeLine) (hr:Room k callerA)
 (F:∀ base:Heap,K.In base->base.Ns mainGlobals mg->FnOk P w K mg base CX k fa fd [x] sp) (hbind:∀ (s:Shared) (u:Value),BindsTo s fd ⟨[u],[]⟩ [(x,u)])
 (hsp:∀ H:Hp,y9J H->SqL K H a (ns.map V.int)->sp [.ref a] H (fun v _=>v = .bl true) fun _ _ _=>False)
 (hCX:∀ H e s',CX [] H s₁ (fun _ _ _=>False) e s'->False) :
 codeAny (model P w) callerA (.call (.ref fa) ⟨[.ref a],[]⟩) (fun r s'=>r = .ok (.ret (.bool true))/\OldK s₁.heap s'.heap/\s'.os=s₁.os/\AllBare s'.gens) s₁:=by
 have rv:=z6X hi
 have lenV:=hi.length
 -- from an abstract heap in which nothing but the script may be tracked
 have core:∀ H:Hp,y9J H->SqL K H a (ns.map V.int)->HOk P w H s₁.heap->(∀ b,H b≠none->b=a)->(H a≠none->K.lookup a=none) ->
  codeAny (model P w) callerA (.call (.ref fa) ⟨[.ref a],[]⟩) (fun r s'=>r = .ok (.ret (.bool true))/\OldK s₁.heap s'.heap/\s'.os=s₁.os/\AllBare s'.gens) s₁:=by
  intro H hO hS hok hA hK
  have base_of:∀ {b:Addr}{o:Obj},s₁.heap.get? b=some o->H b=none->(y4w s₁.heap H).get? b=some o:=fun e n=>y4v e n
  have noA:∀ {b:Addr}{o:Obj}{es:Array DictEntry}{ep:Nat},s₁.heap.get? b=some o->o.data = .dict es ep->H b=none:=fun {b o es ep} e d=>by
   cases q:H b with
   | none=>rfl
   | some u =>
    have e':b=a:=hA b (by rw[q];simp)
    subst e'
    rw[ha]at e;cases e
    have d':Data.seq vs.toArray _=Data.dict es ep:=d
    cases d'
  have nsK:∀ {b:Addr}{m:Str->Option Value},s₁.heap.Ns b m->(y4w s₁.heap H).Ns b m:=fun {b m} ⟨o,es,ep,e,d,r⟩=>⟨o,es,ep,base_of e (noA e d),d,r⟩
  have hKb:K.In (y4w s₁.heap H):=fun b o e=>base_of (KX b o e) (by
   cases q:H b with
   | none=>rfl
   | some u =>
    have e':b=a:=hA b (by rw[q];simp)
    subst e'
    rw[hK (by rw[q];simp)]at e;cases e)
  have hM:Mod K mg (y4w s₁.heap H):=⟨hKb,nsK hns,⟨mb,nsK hb,hbb⟩,let ⟨mc,h1,h2⟩:=hlim;⟨mc,nsK h1,h2⟩⟩
  have e0:Env0 P w K mg (y4w s₁.heap H) callerA [] s₁ H:=⟨rfl,hM,fun b o e=>y6v e,Nat.le_of_eq (y2J _ _),trivial,fun b hb=>absurd (show b∈([]:List Addr) from hb) (by simp),hok,.of_eq hg⟩
  refine codeAny_mono ((F _ hKb (nsK hns)).run callerA [] s₁ H ⟨[.ref a],[]⟩ [.ref a] [.ref a] _ _ hr e0 (hbind s₁ (.ref a)) (.cons rfl .nil) (hsp H hO hS)) fun r s' h=>?_
  cases r with
  | error e=>exact (hCX H e s' h).elim
  | ok fl =>
   cases fl with
   | next=>exact False.elim h
   | brk=>exact False.elim h
   | cont=>exact False.elim h
   | ret u =>
    obtain⟨v,H',os,bare,un,hok',r',q⟩:=h
    have q':v = .bl true:=q
    subst q'
    obtain rfl:u=Value.bool true:=r'
    refine⟨rfl,OldK.of_keep fun b o e=>?_,os,bare⟩
    cases q:H b with
    | none=>exact un.keep b o e q (by intro z;exact absurd (show b∈([]:List Addr) from z) (by simp)) (by simp)
    | some u =>
     rcases hO b with z | ⟨ob,xs,z⟩
     · rw[q]at z;cases z
     · have z2:=un.frzs b ob _ z
       obtain⟨e1,_⟩:=hok b _ z
       obtain⟨e2,_⟩:=hok' b _ z2
       rw[e]at e1;cases e1
       exact e2
 cases hk:K.lookup a with
 | some o =>
  -- the script is one of the module's own objects
  have e:=KX a o hk
  rw[ha]at e
  cases e
  refine core (fun _=>none) (fun _ => .inl rfl) (.inr ⟨_,vs.toArray,_,hk,rfl,rfl,rfl,by rw[jI,lenV];exact hl,by simpa using rv⟩) (fun b u z=>by have z':(none:Option HO)=some u:=z;cases z') (fun b z=>absurd rfl z) fun z=>absurd rfl z
 | none =>
  refine core (fun b=>if b=a then some (.frz { cls := .type "list",data := .seq vs.toArray } (.lst (ns.map V.int))) else none) (fun b=>?_) (.inl (.inr ⟨{ cls := .type "list",data := .seq vs.toArray },if_pos rfl⟩)) (fun b u z=>?_) (fun b z=>?_) fun _=>hk
  · by_cases hb:b=a
    · exact .inr ⟨_,_,if_pos hb⟩
    · exact .inl (if_neg hb)
  · by_cases hb:b=a
    · have z':=(if_pos hb).symm.trans z
      cases z'
      subst hb
      exact⟨ha,by rw[jA];exact hl,vs,_,rv,ha⟩
    · have z':=(if_neg hb).symm.trans z
      cases z'
  · by_cases hb:b=a
    · exact hb
    · exact absurd (if_neg hb) z
theorem y5C{l:PySem.W.OpenLaw}{n k:Nat}{q:Program}{loose:List Str}{XP:(Str->Option Value)->Heap->Prop}{YP:World->Heap->Prop}{d:DefRec}{K:Params->PySem.W.Frag}{CX:World->CXT}{sp:World->Sp}{x:Str}
 (hn:l.most=some n) (hn2:n<=sizeLine) (hdf:d.params.defaults=[]) (hr:Room k callerA)
 (hY:∀ (w:World) (h:Heap),YP w h->(K w.params).In h)
 (F:∀ (w:World) (mg:Str->Option Value) (fa:Addr) (h:Heap),(K w.params).In h->h.Ns mainGlobals mg->mg d.name=some (.ref fa) ->
  ∃ fd:FuncData,(∀ (s:Shared) (u:Value),BindsTo s fd ⟨[u],[]⟩ [(x,u)]) /\
   ∀ base:Heap,(K w.params).In base->base.Ns mainGlobals mg->FnOk l.prog w (K w.params) mg base (CX w) k fa fd [x] (sp w))
 (hsp:∀ (w:World) (H:Hp) (a:Addr) (ns:List Int),ns.length<=n->y9J H->SqL (K w.params) H a (ns.map V.int)->sp w [.ref a] H (fun v _=>v = .bl true) fun _ _ _=>False)
 (hCX:∀ (w:World) (H:Hp) (s:Shared) (e:Value) (s':Shared),CX w [] H s (fun _ _ _=>False) e s'->False) :
 PySem.W.WalkO q loose XP YP l.row.toRowW d [] (fun f vs=>PySem.call f vs):=by
 refine Att.attach_call hn hdf fun w s₀ s₁ mg mb fa o pm cd doc a vs ns G Y ho hd hcd hmg hobj hints hlen hg=>?_
 have KX:=hY w _ Y
 obtain⟨fd,hb,hF⟩:=F w mg fa _ KX G.T.g hmg
 exact y4o KX G.T.g G.T.b G.T.builtins G.T.nolimit hg hobj hints (jY hlen hn2) hr hF hb (fun H hO hS=>hsp w H a ns hlen hO hS) fun H e s'=>hCX w H s₁ e s'
def defArgs(s:Stmt):Arguments:=match s with
 | .FunctionDef _ a _ _ _ _ _ _ _ _=>a
 | _=>{ posonlyargs:=[],args:=[],vararg:=none,kwonlyargs:=[],kw_defaults:=[],kwarg:=none,defaults:=[] }
def defBody(s:Stmt):List Stmt:=match s with
 | .FunctionDef _ _ b _ _ _ _ _ _ _=>b
 | _=>[]
def defScope(s:Stmt):Scope:=match s with
 | .FunctionDef _ _ _ _ _ _ sc _ _ _=>sc
 | _=>{ kind := .function,names:=[],isGenerator:=false,isCoroutine:=false }
abbrev CX0:CXT:=fun _ _ _ _ _ _=>False
abbrev E0:XK:=fun _ _ _=>False
theorem y7T{X:Cx}:z5p CX0 X E0:=fun _ _ _ _ _ _ _ h=>h.elim
structure Fun (K:PySem.W.Frag) (x qual:Str) (st:Stmt) (f:Addr) (fd:FuncData):Prop where
 ex:∃ (oc:Value) (od:Option Addr) (kV doc pm:Value) (an:Option Addr) (cdv ct:Value) (osl:Array (Option Value)),
  fd=PySem.W.fnOf x qual (defArgs st) (defBody st) (defScope st) .none kV doc pm an cdv ct/\K.lookup f=some ⟨oc,od,.func fd,osl⟩/\PySem.W.codeIn K cdv qual=true
 kp:PySem.W.keepIn K (.ref f)=true
section
variable {P:Program}{w:World}{K:PySem.W.Frag}{mg:Str->Option Value}{base:Heap}
theorem Fun.ok{x qual:Str}{st:Stmt}{f:Addr}{fd:FuncData}{N ps:List Str}{k:Nat}{sp:Sp}(F:Fun K x qual st f fd)(S:FnScope N ps (defScope st))(len:∀ vs H Q E,sp vs H Q E->vs.length=ps.length)
 (hbody:∀ (cdv:Value) (A:Around) (outer:List Env) (s:Shared) (H:Hp) (vs:List V) (Q:VK) (E:XK),Room k (A.deeper (envOfC qual (defScope st) s.heap.objs.size f cdv))->sp vs H Q E ->
  ∃ t,PSs (y0M CX0 P w K mg base N qual (defScope st) f cdv A outer s H E).nox (defBody st) t/\t { nx:=fun _ H'=>Q .non H',rt:=Q } (z2x N vs) H):FnOk P w K mg base CX0 (k + 1) f fd ps sp:=by
 obtain⟨oc,od,kV,doc,pm,an,cdv,ct,osl,rfl,lk,hcd⟩:=F.ex
 refine y6Q lk hcd S len fun A outer s H vs Q E hr hsp=>?_
 obtain⟨t,h,q⟩:=hbody cdv A outer s H vs Q E hr hsp
 exact⟨t,h.nox,q⟩
theorem Fun.binds{x qual:Str}{st:Stmt}{f:Addr}{fd:FuncData}{ps:List Str}(F:Fun K x qual st f fd)
 (h:∀ (kV doc pm:Value) (an:Option Addr) (cdv ct:Value) (us:List Value),us.length=ps.length->bindArgs (PySem.W.fnOf x qual (defArgs st) (defBody st) (defScope st) .none kV doc pm an cdv ct) ⟨us,[]⟩=pure (ps.zip us)):Binds K fd ps []:=by
 obtain⟨oc,od,kV,doc,pm,an,cdv,ct,osl,rfl,lk,hcd⟩:=F.ex
 exact .all (h kV doc pm an cdv ct)
theorem y2N{x qual:Str}{st:Stmt}{f:Addr}{oc:Value}{od an:Option Addr}{osl:Array (Option Value)}{kV doc pm cdv ct:Value}(l:K.lookup f=some ⟨oc,od,.func (PySem.W.fnOf x qual (defArgs st) (defBody st) (defScope st) .none kV doc pm an cdv ct),osl⟩)
 (c:PySem.W.codeIn K cdv qual=true) (k:PySem.W.keepIn K (.ref f)=true):Fun K x qual st f (PySem.W.fnOf x qual (defArgs st) (defBody st) (defScope st) .none kV doc pm an cdv ct):=⟨⟨oc,od,kV,doc,pm,an,cdv,ct,osl,rfl,l,c⟩,k⟩
end
theorem z4m{A:Around}{k:Nat}(hr:Room k A):A.units + 1 < cLine:=kF (Nat.add_le_add_left (by decide:1<=64) _) hr.units
theorem z2a{n:Nat}(h:n<=1000):n < sizeLine:=kF h (by decide)
section
variable {X:Cx}
theorem pv(i:Nat){x:Str}{pos:Pos}(hN:X.N[i]? = some x:=by rfl)(hv:Vis X.env.scope x:=by first | exact Or.inl rfl | exact Or.inr (Or.inl rfl) | exact Or.inr (Or.inr rfl))(hd:(x == ("__debug__" : Str))=false:=by decide)
 (hcd:(x == ("__classdict__" : Str))=false:=by decide):PE X (.Name x pos) (y0Z i):=y7Q hN hv hd hcd
end
theorem y9A{A B:Prop}(h:B):if false=true then A else B:=by
 rw[if_neg jR]
 exact h
theorem y9y{A B:Prop}(h:A):if true=true then A else B:=by
 rw[if_pos rfl]
 exact h
def Same(H H':Hp):Prop:=∀ b o,H b=some o->H' b=some o
theorem Same.refl(H:Hp):Same H H:=fun _ _ h=>h
theorem Same.trans{H H1 H2:Hp}(a:Same H H1)(b:Same H1 H2):Same H H2:=fun c o h=>b c o (a c o h)
theorem Same.free{H H':Hp}(e:Same H H'){l:Addr}(h:H' l=Option.none):H l=Option.none:=by
 cases q:H l with
 | none=>rfl
 | some o =>
  rw[e l o q]at h
  cases h
theorem Same.seq{K:PySem.W.Frag}{H H':Hp}{a:Addr}{xs:List V}(e:Same H H')(h:SqL K H a xs):SqL K H' a xs:=by
 rcases h with (h | ⟨o,h⟩) | h
 · exact .inl (.inl (e _ _ h))
 · exact .inl (.inr ⟨o,e _ _ h⟩)
 · exact .inr h
section
variable {κ:Type} [DecidableEq κ]
def valV(kvs:List (κ×V))(k:κ):Option V:=(kvs.find? fun kv=>decide (kv.1=k)).map (·.2)
def z2u(kvs:List (κ×V))(k:κ)(v:V):List (κ×V) :=
 if (kvs.any fun kv=>decide (kv.1=k))=true then kvs.map (fun kv=>if kv.1=k then (kv.1,v) else kv) else kvs ++ [(k,v)]
theorem z0Z{p:κ×V}{r:List (κ×V)}{k:κ}(e:p.1=k):valV (p :: r) k=some p.2:=by simp[valV,kf,e]
theorem z1a{p:κ×V}{r:List (κ×V)}{k:κ}(e:¬ p.1=k):valV (p :: r) k=valV r k:=by simp[valV,kf,e]
theorem z3i(k:κ):∀ kvs:List (κ×V),(kvs.any fun kv=>decide (kv.1=k))=(valV kvs k).isSome
 | []=>rfl
 | p :: r=>by
  rw[qQ]
  by_cases e:p.1=k
  · simp only[z0Z e,decide_eq_true e,Bool.true_or,Option.isSome_some]
  · rw[z1a e,decide_eq_false e,Bool.false_or];exact z3i k r
theorem z9g(k j:κ)(y:V):∀ kvs:List (κ×V),valV (kvs.map fun kv=>if kv.1=k then (kv.1,y) else kv) j=(valV kvs j).map fun x=>if j=k then y else x
 | []=>rfl
 | p :: r=>by
  have ih:=z9g k j y r
  rw[jV]
  by_cases h:p.1=k
  · rw[if_pos h]
    by_cases e:p.1=j
    · rw[z0Z (p:=(p.1,y)) e,z0Z e,Option.map_some,if_pos (e.symm.trans h)]
    · rw[z1a (p:=(p.1,y)) e,z1a e,ih]
  · rw[if_neg h]
    by_cases e:p.1=j
    · rw[z0Z (p:=p) e,z0Z e,Option.map_some,if_neg (fun z=>h (e.trans z))]
    · rw[z1a (p:=p) e,z1a e,ih]
theorem z6Y(k j:κ)(y:V):∀ kvs:List (κ×V),valV kvs k=none->valV (kvs ++ [(k,y)]) j=if j=k then some y else valV kvs j
 | [],_=>by
  by_cases e:k=j
  · rw[if_pos e.symm];exact z0Z (p:=(k,y)) e
  · rw[if_neg (fun z=>e z.symm)];exact z1a (p:=(k,y)) e
 | p :: r,hn=>by
  rw[List.cons_append]
  have hk:¬ p.1=k:=fun z=>by rw[z0Z z]at hn;cases hn
  rw[z1a hk]at hn
  have ih:=z6Y k j y r hn
  by_cases e:p.1=j
  · rw[z0Z e,z0Z e,if_neg (fun z=>hk (e.trans z))]
  · rw[z1a e,z1a e,ih]
theorem z9f(kvs:List (κ×V))(k j:κ)(y:V):valV (z2u kvs k y) j=if j=k then some y else valV kvs j:=by
 unfold z2u
 by_cases a:(kvs.any fun kv=>decide (kv.1=k))=true
 · rw[if_pos a,z9g]
   rw[z3i]at a
   by_cases e:j=k
   · obtain⟨x,hx⟩:=kC.mp a
     rw[if_pos e,e,hx,Option.map_some,if_pos rfl]
   · rw[if_neg e]
     cases valV kvs j with
     | none=>rfl
     | some x=>rw[Option.map_some,if_neg e]
 · rw[if_neg a]
   refine z6Y k j y kvs ?_
   rw[z3i]at a
   cases q:valV kvs k with
   | none=>rfl
   | some x=>rw[q]at a;exact (a rfl).elim
theorem z1O(kvs:List (κ×V))(k:κ)(v:V):(z2u kvs k v).length<=kvs.length + 1:=by
 unfold z2u
 split
 · rw[jA];omega
 · rw[jG,jx,qD];omega
theorem z9C{kvs:List (κ×V)}{k:κ}(v:V)(h:valV kvs k=none):z2u kvs k v=kvs ++ [(k,v)]:=by
 unfold z2u
 rw[z3i,h]
 exact if_neg (by decide)
theorem RelO.isSome_eq{o:Option V}{u:Option Value}(r:RelO o u):o.isSome=u.isSome:=by
 cases o with
 | none=>cases u with
  | none=>rfl
  | some _=>exact (show False from r).elim
 | some _=>cases u with
  | none=>exact (show False from r).elim
  | some _=>rfl
theorem RelO.getD{o:Option V}{u:Option Value}{d:V}{d':Value}(r:RelO o u)(rd:RelV d d'):RelV (o.getD d) (u.getD d'):=by
 cases o with
 | none=>cases u with
  | none=>exact rd
  | some _=>exact (show False from r).elim
 | some _=>cases u with
  | none=>exact (show False from r).elim
  | some _=>exact r
theorem KV.val{kvs:List (κ×V)}{vs:List (κ×Value)}(r:KV kvs vs)(k:κ):RelO (valV kvs k) (valueAt vs k):=by
 unfold KV at r
 induction r with
 | nil=>exact True.intro
 | @cons p q ps qs h t ih =>
  obtain⟨h1,h2⟩:=h
  by_cases e:p.1=k
  · have e':q.1=k:=h1.symm.trans e
    have b:valueAt (q :: qs) k=some q.2:=by simp[valueAt,kf,e']
    rw[z0Z e,b];exact h2
  · have e':¬ q.1=k:=fun z=>e (h1.trans z)
    have b:valueAt (q :: qs) k=valueAt qs k:=by simp[valueAt,kf,e']
    rw[z1a e,b];exact ih
theorem KV.any{kvs:List (κ×V)}{vs:List (κ×Value)}(r:KV kvs vs)(k:κ):(kvs.any fun kv=>decide (kv.1=k))=vs.any fun kv=>decide (kv.1=k):=by
 unfold KV at r
 induction r with
 | nil=>rfl
 | cons h t ih=>rw[qQ,qQ,ih,h.1]
theorem KV.repl{kvs:List (κ×V)}{vs:List (κ×Value)}(r:KV kvs vs)(k:κ){y:V}{u:Value}(ry:RelV y u) :
 KV (kvs.map fun kv=>if kv.1=k then (kv.1,y) else kv) (vs.map fun kv=>if kv.1=k then (kv.1,u) else kv):=by
 unfold KV at r ⊢
 induction r with
 | nil=>exact .nil
 | @cons p q ps qs h t ih =>
  rw[jV,jV]
  refine .cons ?_ ih
  obtain⟨h1,h2⟩:=h
  by_cases e:p.1=k
  · rw[if_pos e,if_pos (h1.symm.trans e)];exact⟨h1,ry⟩
  · rw[if_neg e,if_neg (fun z=>e (h1.trans z))];exact⟨h1,h2⟩
theorem KV.put{kvs:List (κ×V)}{vs:List (κ×Value)}(r:KV kvs vs)(k:κ){y:V}{u:Value}(ry:RelV y u):KV (z2u kvs k y) (stored vs k u):=by
 unfold z2u stored
 rw[r.any k]
 by_cases e:(vs.any fun kv=>decide (kv.1=k))=true
 · rw[if_pos e,if_pos e];exact r.repl k ry
 · rw[if_neg e,if_neg e];exact Paired.snoc r ⟨rfl,ry⟩
theorem KV.length{kvs:List (κ×V)}{vs:List (κ×Value)}(r:KV kvs vs):kvs.length=vs.length:=Paired.length r
end
theorem y2C{P:Program}{w:World}{k:Key}{u:Value}(r:RelV (kV k) u):(z0F P w).is k u=true:=by
 cases k with
 | inl i=>obtain⟨t,e⟩:=(show ∃ t,u=Value.int i t from r);subst e;exact z8F P w i t
 | inr x=>obtain⟨t,e⟩:=(show ∃ t,u=Value.str x t from r);subst e;exact z8E P w x t
theorem z7K{P:Program}{w:World}:∀ {ks:List Key}{us:List Value},Vals (ks.map kV) us->ItemsAre (z0F P w) ks us
 | [],_,r=>by rw[qE]at r;cases r;exact .nil
 | k :: ks,_,r=>by
  rw[jV]at r
  cases r with
  | cons h t=>exact .cons (y2C h) (z7K t)
abbrev KT(H:Hp):List (List Key×V)->List (List Key×Addr×Value)->Prop:=Paired fun p q=>p.1=q.1/\H q.2.1=some (.tup (p.1.map kV))/\RelV p.2 q.2.2
theorem KT.val{H:Hp}{kvs:List (List Key×V)}{xs:List (List Key×Addr×Value)}(r:KT H kvs xs)(k:List Key):RelO (valV kvs k) ((atKey xs k).map (·.2)):=by
 induction r with
 | nil=>exact True.intro
 | @cons p q ps qs h t ih =>
  obtain⟨h1,_,h2⟩:=h
  by_cases e:p.1=k
  · have e':q.1=k:=h1.symm.trans e
    have b:atKey (q :: qs) k=some q.2:=by simp[atKey,kf,e']
    rw[z0Z e,b];exact h2
  · have e':¬ q.1=k:=fun z=>e (h1.trans z)
    have b:atKey (q :: qs) k=atKey qs k:=by simp[atKey,kf,e']
    rw[z1a e,b];exact ih
theorem KT.repl{H:Hp}{kvs:List (List Key×V)}{xs:List (List Key×Addr×Value)}(r:KT H kvs xs)(k:List Key){y:V}{u:Value}(ry:RelV y u) :
 KT H (kvs.map fun kv=>if kv.1=k then (kv.1,y) else kv) (xs.map (putAt k u)):=by
 induction r with
 | nil=>exact .nil
 | @cons p q ps qs h t ih =>
  rw[jV,jV]
  refine .cons ?_ ih
  obtain⟨h1,h2,h3⟩:=h
  unfold putAt
  by_cases e:p.1=k
  · rw[if_pos e,if_pos (h1.symm.trans e)];exact⟨h1,h2,ry⟩
  · rw[if_neg e,if_neg (fun z=>e (h1.trans z))];exact⟨h1,h2,h3⟩
theorem KT.put{H:Hp}{kvs:List (List Key×V)}{xs:List (List Key×Addr×Value)}(r:KT H kvs xs)(k:List Key){b:Addr}{y:V}{u:Value}(hb:H b=some (.tup (k.map kV)))(ry:RelV y u) :
 KT H (z2u kvs k y) (storedH xs k b u):=by
 have e:(kvs.any fun kv=>decide (kv.1=k))=(atKey xs k).isSome:=by
  rw[z3i,(r.val k).isSome_eq,Option.isSome_map]
 unfold z2u storedH
 rw[e]
 by_cases q:(atKey xs k).isSome=true
 · rw[if_pos q,if_pos q];exact r.repl k ry
 · rw[if_neg q,if_neg q];exact Paired.snoc r ⟨rfl,hb,ry⟩
theorem KT.keeps{H H':Hp}{kvs:List (List Key×V)}{xs:List (List Key×Addr×Value)}(r:KT H kvs xs)(ht:∀ b ys,H b=some (.tup ys)->H' b=some (.tup ys)):KT H' kvs xs :=
 Paired.mapP r fun _ _ z=>⟨z.1,ht _ _ z.2.1,z.2.2⟩
section
variable {P:Program}{w:World}{H:Hp}{h:Heap}{a:Addr}
theorem y7G{u:HO}(ok:HOk P w H h)(e:Rd H a u):ObjOk P w H h a u:=e.ok ok
theorem z8L{kvs:List (Key×V)}(ok:HOk P w H h)(e:Rd H a (.dK kvs)):kvs.length<=sizeLine/\(a == sysModules)=false/\∃ vs,KV kvs vs/\h.DictOf (z0F P w) a vs :=
 show ObjOk P w H h a (.dK kvs) from y7G ok e
theorem y9E{kvs:List (Key×V)}(ok:HOk P w H h)(e:H a=some (.dK kvs)):kvs.length<=sizeLine/\(a == sysModules)=false/\∃ vs,KV kvs vs/\h.DictOf (z0F P w) a vs:=z8L ok (.inl e)
theorem z3A{ks:List Key}(ok:HOk P w H h)(e:H a=some (.tup (ks.map kV))):(tupleKind (z0F P w)).is h ks a:=by
 obtain⟨_,its,r,o,h1,h2,n,h3⟩:=(show ObjOk P w H h a (.tup (ks.map kV)) from ok a _ e)
 exact⟨o,its.toArray,n,h1,h2,h3,by simpa using z7K r⟩
theorem y0L{kvs:List (List Key×V)}(ok:HOk P w H h)(e:Rd H a (.dT kvs)):kvs.length<=sizeLine/\(a == sysModules)=false /\
 ∃ xs,KT H kvs xs/\h.DictOfH (tupleKind (z0F P w)) a xs:=by
 obtain⟨z,y,xs,r,o,es,ep,h1,h2,h3,h4,h5⟩:=(show ObjOk P w H h a (.dT kvs) from y7G ok e)
 refine⟨z,y,xs,r,o,es,ep,h1,h2,h3,h4,fun x hx=>?_,h5⟩
 have all:∀ {l:List (List Key×V)}{m:List (List Key×Addr×Value)},KT H l m->∀ x∈m,(tupleKind (z0F P w)).is h x.1 x.2.1:=by
  intro l m q
  induction q with
  | nil=>intro x hx;exact nomatch hx
  | @cons p q ps qs hq t ih =>
   intro x hx
   rcases jQ.mp hx with e | hx
   · subst e
     exact z3A ok (by rw[<- hq.1];exact hq.2.1)
   · exact ih x hx
 exact all r x hx
theorem y8F{kvs:List (List Key×V)}(ok:HOk P w H h)(e:H a=some (.dT kvs)):kvs.length<=sizeLine/\(a == sysModules)=false /\
 ∃ xs,KT H kvs xs/\h.DictOfH (tupleKind (z0F P w)) a xs:=y0L ok (.inl e)
end
def DGet(H:Hp)(a:Addr)(y:V)(r:Option V):Prop :=
 (∃ kvs k,Rd H a (.dK kvs)/\y=kV k/\r=valV kvs k)\/∃ kvs k b,Rd H a (.dT kvs)/\y = .ref b/\H b=some (.tup (k.map kV))/\r=valV kvs k
def DPut(H:Hp)(a:Addr)(y v:V)(H':Hp):Prop :=
 (∃ kvs k,H a=some (.dK kvs)/\y=kV k/\kvs.length < sizeLine/\H'=upd H a (.dK (z2u kvs k v))) \/
 ∃ kvs k b,H a=some (.dT kvs)/\y = .ref b/\H b=some (.tup (k.map kV))/\kvs.length < sizeLine/\H'=upd H a (.dT (z2u kvs k v))
theorem DGet.t{H:Hp}{a b:Addr}{kvs:List (List Key×V)}{k:List Key}(e:H a=some (.dT kvs))(eb:H b=some (.tup (k.map kV))):DGet H a (.ref b) (valV kvs k) := .inr ⟨kvs,k,b,.inl e,rfl,eb,rfl⟩
theorem DPut.k{H:Hp}{a:Addr}{kvs:List (Key×V)}{k:Key}{v:V}(e:H a=some (.dK kvs))(hl:kvs.length < sizeLine):DPut H a (kV k) v (upd H a (.dK (z2u kvs k v))) := .inl ⟨kvs,k,e,rfl,hl,rfl⟩
theorem DPut.t{H:Hp}{a b:Addr}{kvs:List (List Key×V)}{k:List Key}{v:V}(e:H a=some (.dT kvs))(eb:H b=some (.tup (k.map kV)))(hl:kvs.length < sizeLine) :
 DPut H a (.ref b) v (upd H a (.dT (z2u kvs k v))) := .inr ⟨kvs,k,b,e,rfl,eb,hl,rfl⟩
section
variable {X:Cx}{pins:List (Addr×Obj)}{σ:St}{H:Hp}{s:Shared}{a:Addr}{y v:V}{u r:Value}{o:Option V}{A:Around}{E:Value->Shared->Prop}
theorem Inv.big(I:Inv X pins σ H s):sysModules < s.heap.objs.size:=by
 have h:mainGlobals < s.heap.objs.size:=(I.mod.glob.keeps I.bk).lt
 exact Nat.lt_trans (by decide) h
theorem y2Y{Q:Value->Shared->Prop}(hu:A.units + 1 < cLine)(I:Inv X pins σ H s)(g:DGet H a y (some v))(ry:RelV y u)(h:∀ w' s',Inv X pins σ H s'->RelV v w'->Q w' s') :
 wpAny (model X.prog X.w) A (getItem (.ref a) u) Q E s:=by
 rcases g with ⟨kvs,k,e,ey,l⟩ | ⟨kvs,k,b,e,ey,eb,l⟩
 · subst ey
   obtain⟨z,hd,vs,rel,dd⟩:=z8L I.hok e
   obtain⟨w',hw,rw'⟩:=RelO.some_of (v:=v) (o:=valueAt vs k) (by rw[l];exact rel.val k)
   exact wpAny_getItem_of (y2C ry) dd.mapOf hw (h w' _ (I.tok _) rw')
 · subst ey
   cases (show u=Value.ref b from ry)
   obtain⟨z,hd,xs,rel,dd⟩:=y0L I.hok e
   obtain⟨w',hw,rw'⟩:=RelO.some_of (v:=v) (o:=(atKey xs k).map (·.2)) (by rw[l];exact rel.val k)
   obtain⟨p,hp,hp2⟩:=jh.mp hw
   refine wpAny_getItem_heap (tupleKind_room_in1 hu) (z3A I.hok eb) dd hp ?_
   rw[hp2]
   exact h w' _ (I.tok _) rw'
theorem x0l{Q:Value->Shared->Prop}(hu:A.units + 1 < cLine)(I:Inv X pins σ H s)(g:DGet H a y o)(ry:RelV y u)(h:∀ s',Inv X pins σ H s'->Q (.bool o.isSome) s') :
 wpAny (model X.prog X.w) A (compareOp .In u (.ref a)) Q E s:=by
 rcases g with ⟨kvs,k,e,ey,l⟩ | ⟨kvs,k,b,e,ey,eb,l⟩
 · subst ey
   obtain⟨z,hd,vs,rel,dd⟩:=z8L I.hok e
   refine wpAny_in_of (y2C ry) hd dd.mapOf ?_
   rw[<- (rel.val k).isSome_eq,<- l]
   exact h _ (I.tok _)
 · subst ey
   cases (show u=Value.ref b from ry)
   obtain⟨z,hd,xs,rel,dd⟩:=y0L I.hok e
   refine wpAny_in_heap (tupleKind_room_in1 hu) (z3A I.hok eb) hd dd ?_
   have q:=(rel.val k).isSome_eq
   rw[Option.isSome_map]at q
   rw[<- q,<- l]
   exact h _ (I.tok _)
theorem z8N{h':Heap}{t':Nat}{ob:HO}(I:Inv X pins σ H s)(mu:Mut (H a))(hs:Heap.SameBut a s.heap h')(he:∃ q,h'.get? a=some q)(new:ObjOk X.prog X.w (upd H a ob) h' a ob) :
 Inv X pins σ (upd H a ob) { s with heap:=h',toks:=t' } :=
 I.write (x:=a) (e:=a) mu (.inl rfl) (fun b q hb z=>(hs.2 b hb).trans z) he new
theorem y5w{P:Program}{w:World}{H':Hp}{h':Heap}{kvs:List (Key×V)}{vs:List (Key×Value)}(z:kvs.length<=sizeLine)(hd:(a == sysModules)=false)(rel:KV kvs vs)(dd:h'.DictOf (z0F P w) a vs) :
 ObjOk P w H' h' a (.dK kvs):=⟨z,hd,vs,rel,dd⟩
theorem y2X{H':Hp}{Q:Unit->Shared->Prop}(hu:A.units + 1 < cLine)(I:Inv X pins σ H s)(g:DPut H a y v H')(ry:RelV y u)(rv:RelV v r)(h:∀ s',Inv X pins σ H' s'->Q () s') :
 wpAny (model X.prog X.w) A (setItem (.ref a) u r) Q E s:=by
 rcases g with ⟨kvs,k,e,ey,l,eH⟩ | ⟨kvs,k,b,e,ey,eb,l,eH⟩
 · subst ey eH
   obtain⟨z,hd,vs,rel,dd⟩:=y9E I.hok e
   have hz:vs.length<=sizeLine:=by rw[<- rel.length];exact z
   have hl:(z2u kvs k v).length<=sizeLine:=by have:=z1O kvs k v;omega
   refine wpAny_setItem_pairs (hsz:=hz) (y2C ry) dd fun h' dd' hs=>h _ ?_
   have he:∃ q,h'.get? a=some q:=let ⟨q,_,_,hq,_⟩:=dd';⟨q,hq⟩
   exact z8N I (by rw[e];exact True.intro) hs he (y5w hl hd (rel.put k rv) dd')
 · subst ey eH
   cases (show u=Value.ref b from ry)
   obtain⟨z,hd,xs,rel,dd⟩:=y8F I.hok e
   have hz:xs.length<=sizeLine:=by rw[<- Paired.length rel];exact z
   have hl:(z2u kvs k v).length<=sizeLine:=by have:=z1O kvs k v;omega
   refine wpAny_setItem_heap (hsz:=hz) (tupleKind_room_in1 hu) (z3A I.hok eb) dd fun h' dd' hs=>h _ ?_
   obtain⟨q,es,ep,hq,h2,h3,h4,_,h5⟩:=dd'
   refine z8N I (by rw[e];exact True.intro) hs ⟨q,hq⟩ ⟨hl,hd,_,(rel.put k eb rv).keeps fun c ys ec=>?_,q,es,ep,hq,h2,h3,h4,h5⟩
   rw[z0k (y4f ec e (fun z=>nomatch z))]
   exact ec
end
section
variable {X:Cx}{pins:List (Addr×Obj)}{σ:St}{H:Hp}{s:Shared}{a:Addr}{kvs:List (Key×V)}{k:Key}{u:Value}{A:Around}{E:Value->Shared->Prop}
end
def y9W(i:Expr):Prop:=∀ ov iv,subscripted i false ov iv=operate [ov,iv] (getItem ov iv)
theorem y5N{prog:Program}{w:World}{A:Around}{E:Value->Shared->Prop}{s:Shared}{env:Env}{value slice:Expr}{pos:Pos}{T id:String}{Q:Value->Shared->Prop}
 (hl:typeLookup (.type T) "__getitem__" = pure (some (.builtin id))) (hs:y9W slice)
 (h:wpAny (model prog w) A (eval value env) (fun o s₁=>wpAny (model prog w) A (eval slice env) (fun i s₂=>s₂.TypeIs o T/\wpAny (model prog w) A (getItem o i) Q E s₂) E s₁) E s) :
 wpAny (model prog w) A (eval (.Subscript value slice pos) env) Q E s:=by
 refine Subscript_ (wpAny_mono h (fun o s₁ h₁=>wpAny_mono h₁ (fun i s₂ h₂=>?_) fun _ _ x=>x) fun _ _ x=>x)
 obtain⟨hT,h₂⟩:=h₂
 unfold subscriptTail
 refine wpAny_bind ?_
 rw[getitemInPython_of_ne hT.not_modules]
 refine wpAny_bind (wpAny_specialOf hT hl ?_)
 have fin:wpAny (model prog w) A (subscripted slice false o i) (fun r s₃=>wpAny (model prog w) A (letTemporaryGo value o r >>= fun _=>pure r) Q E s₃) E s₂:=by
  rw[hs o i]
  exact wpAny_operating (wpAny_mono h₂ (fun r s₃ h₃=>wpAny_bind (wpAny_letTemporaryGo (wpAny_pure h₃))) fun _ _ x=>x)
 first
  | exact wpAny_pure (wpAny_bind fin)
  | exact wpAny_bind (wpAny_pure (wpAny_bind fin))
  | exact wpAny_bind fin
theorem z8M{X:Cx}{pins:List (Addr×Obj)}{σ:St}{H:Hp}{s:Shared}{a:Addr}{y:V}{o:Option V}(I:Inv X pins σ H s)(g:DGet H a y o):s.TypeIs (.ref a) "dict" := by
 rcases g with ⟨kvs,k,e,_,_⟩ | ⟨kvs,k,b,e,_,_,_⟩
 · obtain⟨_,_,vs,_,dd⟩:=z8L I.hok e
   exact dd.typeIs
 · obtain⟨_,_,xs,_,dd⟩:=y0L I.hok e
   exact dd.typeIs
def y9f(td ty:TE):TE:=fun σ H Q=>td σ H fun x H1=>ty σ H1 fun y H2=>∃ a v,x = .ref a/\DGet H2 a y (some v)/\Q v H2
def y9i(td ty tv:TE):TS:=fun D σ H=>tv σ H fun v H1=>td σ H1 fun x H2=>ty σ H2 fun y H3=>∃ a H4,x = .ref a/\DPut H3 a y v H4/\D.nx σ H4
section
variable {X:Cx}{o i e value:Expr}{pos pos' tpos:Pos}{td ty tv:TE}
theorem z8u(hu:X.A.units + 1 < cLine)(ho:PE X o td)(hi:PE X i ty)(hs:y9W i):PE X (.Subscript o i pos) (y9f td ty):=by
 intro pins s σ H Q I h
 refine y5N PySem.F.slot_dict_getitem.lookup hs (thn (ho pins s σ H _ I h) fun u s1 ⟨x,H1,I1,rx,q1⟩=>thn (hi pins s1 σ H1 _ I1 q1) fun iv s2 ⟨y,H2,I2,ry,a,v,ex,g,q2⟩=>?_)
 subst ex
 obtain rfl:u=Value.ref a:=rx
 exact⟨z8M I2 g,y2Y hu I2 g ry fun w' s3 I3 rw'=>⟨v,H2,I3,rw',q2⟩⟩
theorem z6v(hu:X.A.units + 1 < cLine)(ho:PE X o td)(hi:PE X i ty)(hv:PE X value tv)(hs:swapsWith value (some (.Subscript o i pos')) pos.line X.env=pure false) :
 PS X (.Assign [.Subscript o i pos'] value pos) (y9i td ty tv):=by
 intro pins s σ H D I h
 refine wpAny_Assign_Subscript (thn (hv pins s σ H _ I h) fun r s1 ⟨v,H1,I1,rv,q1⟩=>thn (ho pins s1 σ H1 _ I1 q1) fun u s2 ⟨x,H2,I2,rx,q2⟩=>thn (hi pins s2 σ H2 _ I2 q2) fun iv s3 ⟨y,H3,I3,ry,a,H4,ex,g,q3⟩=>?_) hs
 subst ex
 obtain rfl:u=Value.ref a:=rx
 exact y2X hu I3 g ry rv fun s4 I4=>⟨σ,H4,I4,q3⟩
end
theorem y4E{P:Program}{w:World}{H:Hp}(h:Heap)(hb:sysModules < h.objs.size):ObjOk P w H (h.push { cls := .type "dict",data := .dict #[] }) h.objs.size (.dK []) :=
 ⟨jg _,beq_eq_false_iff_ne.mpr (Ne.symm (jU hb)),[],.nil,Heap.DictOf.new h⟩
theorem y4D{P:Program}{w:World}{H:Hp}(h:Heap)(hb:sysModules < h.objs.size):ObjOk P w H (h.push { cls := .type "dict",data := .dict #[] }) h.objs.size (.dT []) :=
 ⟨jg _,beq_eq_false_iff_ne.mpr (Ne.symm (jU hb)),[],.nil,_,#[],0,jO _ rfl,⟨rfl,rfl,rfl⟩,rfl,rfl,List.nodup_nil⟩
def y7w:TE:=fun _ H Q=>∀ p,H p=none->Q (.ref p) (upd H p (.dK []))
def y7v:TE:=fun _ H Q=>∀ p,H p=none->Q (.ref p) (upd H p (.dT []))
section
variable {X:Cx}{pos:Pos}
theorem y3Y:PE X (.Dict [] [] pos) y7w:=fun pins s σ H Q I h =>
 wpAny_Dict_empty ⟨.ref s.heap.objs.size,_,I.laid (a:=s.heap.objs.size) (o := .dK []) (t':=s.toks) (fun _ _ q=>jB _ q) (jE _) (y4E s.heap I.big),rfl,h _ (I.hok.fresh (jE _))⟩
theorem z4r:PE X (.Dict [] [] pos) y7v:=fun pins s σ H Q I h =>
 wpAny_Dict_empty ⟨.ref s.heap.objs.size,_,I.laid (a:=s.heap.objs.size) (o := .dT []) (t':=s.toks) (fun _ _ q=>jB _ q) (jE _) (y4D s.heap I.big),rfl,h _ (I.hok.fresh (jE _))⟩
end
structure M2 (X:Cx) (o:Expr) (m:Str) (apos:Pos) (e f:Expr) (cpos:Pos):Prop where
 base:attributeBase o m X.env (eval o X.env)=eval o X.env
 few:((backTo cpos (starEach [e,f] X.env)).all (fun x => !x.1) && (backToKw cpos (keywordEach [] X.env)).all (fun x=>x.1.isSome)
  && decide (([e,f]:List Expr).length + ([]:List Keyword).length + (if ([]:List Keyword).isEmpty then 0 else 1) < 30))=true
 line:(apos.endLine == cpos.line)=true
 trees:backTo cpos (starEach [e,f] X.env)=[(false,eval e X.env),(false,eval f X.env)]
def y9L(H:Hp)(a:Addr):Prop:=(∃ kvs,Rd H a (.dK kvs))\/∃ kvs,Rd H a (.dT kvs)
theorem y2H{X:Cx}{pins:List (Addr×Obj)}{σ:St}{H:Hp}{s:Shared}{a:Addr}(I:Inv X pins σ H s)(d:y9L H a) :
 s.TypeIs (.ref a) "dict" /\ (∀ b,Value.ref a = .ref b->∃ ob,s.heap.get? b=some ob/\ob.dict=none)/\(a == sysModules)=false:=by
 rcases d with ⟨kvs,e⟩ | ⟨kvs,e⟩
 · obtain⟨_,hd,vs,_,dd⟩:=z8L I.hok e
   refine⟨dd.typeIs,fun b q=>?_,hd⟩
   cases q
   obtain⟨ob,_,_,h1,h2,_⟩:=dd
   exact⟨ob,h1,h2.2.1⟩
 · obtain⟨_,hd,xs,_,dd⟩:=y0L I.hok e
   refine⟨dd.typeIs,fun b q=>?_,hd⟩
   cases q
   obtain⟨ob,_,_,h1,h2,_⟩:=dd
   exact⟨ob,h1,h2.2.1⟩
section
variable {X:Cx}{pins:List (Addr×Obj)}{σ:St}{H:Hp}{s:Shared}{a:Addr}{y d:V}{u r:Value}{o:Option V}{A:Around}{E:Value->Shared->Prop}
theorem y8H{Q:Value->Shared->Prop}(hu:A.units + 1 < cLine)(I:Inv X pins σ H s)(g:DGet H a y o)(ry:RelV y u)(rd:RelV d r)(h:∀ w' s',Inv X pins σ H s'->RelV (o.getD d) w'->Q w' s') :
 wpAny (model X.prog X.w) A (call (.builtin "dict.get") [.ref a,u,r]) Q E s:=by
 rcases g with ⟨kvs,k,e,ey,l⟩ | ⟨kvs,k,b,e,ey,eb,l⟩
 · subst ey
   obtain⟨z,hd,vs,rel,dd⟩:=z8L I.hok e
   refine call_meetsIn PySem.F.slot_dict_get dd.typeIs PySem.F.entry_dict_get (PySem.F.args_dict_get_3 _ _ _) (meets_dict_get_default (z0F X.prog X.w) a (y2C ry) hd r) ⟨_,dd.mapOf,h _ _ (I.tok _) ?_⟩
   rw[l]
   exact (rel.val k).getD rd
 · subst ey
   cases (show u=Value.ref b from ry)
   obtain⟨z,hd,xs,rel,dd⟩:=y0L I.hok e
   refine call_meetsIn PySem.F.slot_dict_get dd.typeIs PySem.F.entry_dict_get (PySem.F.args_dict_get_3 _ _ _) (meetsH_dict_get_default (tupleKind (z0F X.prog X.w)) a b hd r) ⟨tupleKind_room_in1 hu,k,xs,z3A I.hok eb,dd,h _ _ (I.tok _) ?_⟩
   rw[l]
   exact (rel.val k).getD rd
end
def y7x(td ty tx:TE):TE:=fun σ H Q=>td σ H fun x H1=>∃ a,x = .ref a/\y9L H1 a/\ty σ H1 fun y H2=>tx σ H2 fun z H3=>∃ o,DGet H3 a y o/\Q (o.getD z) H3
section
variable {X:Cx}{o e f:Expr}{apos cpos:Pos}{td ty tx:TE}
theorem z6z(hu:X.A.units + 1 < cLine)(ho:PE X o td)(he:PE X e ty)(hf:PE X f tx)(m:M2 X o "get" apos e f cpos):PE X (.Call (.Attribute o "get" apos) [e,f] [] cpos) (y7x td ty tx):=by
 intro pins s σ H Q I h
 refine wpAny_Call_method m.base m.few m.line PySem.F.plainAttrs_dict PySem.F.slot_dict_get PySem.F.type_dict_get (thn (ho pins s σ H _ I h) fun u s1 ⟨x,H1,I1,rx,a,ex,d,q1⟩=>?_)
 subst ex
 obtain rfl:u=Value.ref a:=rx
 obtain⟨t1,t2,_⟩:=y2H I1 d
 refine⟨t1,t2,?_⟩
 rw[m.trees]
 refine Calls.callWith_builtin rfl (Calls.evalArgs_plain (Calls.spliced_cons (thn (he pins s1 σ H1 _ I1 q1) fun iv s2 ⟨y,H2,I2,ry,q2⟩ =>
  Calls.spliced_cons (thn (hf pins s2 σ H2 _ I2 q2) fun fv s3 ⟨z,H3,I3,rz,ov,g,q3⟩=>Calls.spliced_nil ?_))))
 exact y8H hu I3 g ry rz fun w' s4 I4 rw'=>⟨_,H3,I4,rw',q3⟩
end
section
variable {X:Cx}{pins:List (Addr×Obj)}{σ:St}{H:Hp}{s:Shared}{a:Addr}{kvs:List (Key×V)}{A:Around}{E:Value->Shared->Prop}
theorem y4F{Q:Value->Shared->Prop}(I:Inv X pins σ H s)(e:Rd H a (.dK kvs))(h:∀ p s',H p=none->Inv X pins σ (upd H p (.dK kvs)) s'->Q (.ref p) s'):wpAny (model X.prog X.w) A (call (.type "dict") [.ref a]) Q E s:=by
 obtain⟨z,hd,vs,rel,dd⟩:=z8L I.hok e
 refine kt_call_dict hd dd (by rw[<- rel.length];exact z) fun h' dd' hs=>?_
 refine h _ _ (I.hok.fresh (jE _)) (I.laid (a:=s.heap.objs.size) (o := .dK kvs) (t':=s.toks) (fun b q hq=>?_) (jE _) (y5w z (beq_eq_false_iff_ne.mpr (Ne.symm (jU I.big))) rel dd'))
 exact (hs.2 b (jU (jJ hq))).trans (jB _ hq)
end
section
variable {X:Cx}{pins:List (Addr×Obj)}{σ:St}{H:Hp}{s:Shared}{a:Addr}{y:V}{u:Value}{A:Around}{E:Value->Shared->Prop}
end
section
variable {X:Cx}
theorem z0S:OpR X (binaryOp .Mult) (rI (fun i j=>IntMulOk i j) fun i j => .int (i * j)):=opI fun _ _ _ _ _ _ _ hc q=>mul_int q hc
theorem z1N:OpR X (binaryOp .FloorDiv) (rI (fun _ j=>0 < j/\j.natAbs.log2 < 9000) fun i j => .int (i / j)):=opI fun i j _ _ _ _ _ hc q=>by
 have h1:(0:Int) < j:=hc.1
 exact floordiv_int (by omega) (by rw[Int.fdiv_eq_ediv_of_nonneg i (by omega)];exact q) (.inl (PyProof.noPylong_of_log2 hc.2))
theorem z6B:OpR X (binaryOp .FloorDiv) (rI (fun _ j=>j≠0/\j.natAbs.log2 < 9000) fun i j => .int (i.fdiv j)):=opI fun i j _ _ _ _ _ hc q =>
 floordiv_int hc.1 q (.inl (PyProof.noPylong_of_log2 hc.2))
theorem z3d{a b:Int}{m n:Nat}(ha:a.natAbs < 2 ^ m)(hb:b.natAbs < 2 ^ n)(h:m + n<=134217728):IntMulOk a b :=
 PyProof.Rows.mulOk_of_bits (PyProof.Rows.intBits_le ha) (PyProof.Rows.intBits_le hb) h
theorem z3u:OpR X (compareOp .Eq) (rI0 fun i j => .bl (decide (i=j))):=y8Q fun _ _ _ _ _ _ _ q=>eq_int (by rw[Bool.beq_eq_decide_eq];exact q)
theorem y7V:OpR X (compareOp .NotEq) (rI0 fun i j => .bl (!decide (i=j))):=y8Q fun _ _ _ _ _ _ _ q=>ne_int (by rw[bne,Bool.beq_eq_decide_eq];exact q)
theorem y2f:OpR X (compareOp .Eq) (fun x y H Q=>∃ i j,x = .str i/\y = .str j/\Q (.bl (decide (i=j))) H):=by
 intro pins s σ H x y v u Q I rx ry h
 obtain⟨i,j,rfl,rfl,q⟩:=h
 have e:decide (V.str i=V.str j)=decide (i=j):=by simp
 refine y8a pins s σ H _ _ v u Q I rx ry ⟨rfl,?_⟩
 rw[e];exact q
theorem y7U:OpR X (compareOp .NotEq) (fun x y H Q=>∃ i j,x = .str i/\y = .str j/\Q (.bl (!decide (i=j))) H):=by
 intro pins s σ H x y v u Q I rx ry h
 obtain⟨i,j,rfl,rfl,q⟩:=h
 have e:decide (V.str i=V.str j)=decide (i=j):=by simp
 refine y9t pins s σ H _ _ v u Q I rx ry ⟨rfl,?_⟩
 rw[e];exact q
theorem y2g:OpR X (compareOp .Eq) (fun x y H Q=>∃ i j,x = .bl i/\y = .bl j/\Q (.bl (decide (i=j))) H):=by
 intro pins s σ H x y v u Q I rx ry h
 obtain⟨i,j,rfl,rfl,q⟩:=h
 have e:decide (V.bl i=V.bl j)=decide (i=j):=by simp
 refine y8a pins s σ H _ _ v u Q I rx ry ⟨rfl,?_⟩
 rw[e];exact q
def y9F:V->Value
 | .ty n => .type n
 | .ref a => .ref a
 | _ => .none
def isC:V->Bool
 | .ty _=>true
 | .ref _=>true
 | _=>false
theorem y6Z{c:V}{u:Value}(r:RelV c u)(h:isC c=true):u=y9F c:=by
 cases c <;> first | exact r | cases h
inductive TyD (K:PySem.W.Frag) (H:Hp):V->Value->Prop where
 | of {x:V}{t:Value} (h:TyOf K H x t):TyD K H x t
 | tupS {a:Addr}{xs:List V} (h:SqT K H a xs):TyD K H (.ref a) (.type "tuple")
 | lstS {a:Addr}{xs:List V} (h:SqL K H a xs):TyD K H (.ref a) (.type "list")
theorem y4L:CallR X (.builtin "isinstance") (fun xs H Q=>∃ x c t b,xs=[x,c]/\isC c=true/\TyD X.K H x t/\PySem.W.kitOne X.K t (y9F c)=some b/\Q (.bl b) H):=by
 intro pins s σ H xs us Q I r h
 obtain⟨x,c,t,b,rfl,hc,ty,e,q⟩:=h
 obtain⟨u,w',rfl,rx,rc⟩:=y8V r
 have:=y6Z rc hc
 subst this
 cases ty with
 | of ty=>exact y2G I rx ty e fun tk=>⟨.bl b,H,I.tok _,rfl,q⟩
 | tupS hs =>
  cases rx
  obtain⟨its,_,⟨o,h1,h2,_⟩,_⟩:=I.tuple hs
  exact PySem.W.kia_one PySem.W.kitx_tuple I.kIn ⟨o,h1,h2⟩ e (fun z=>nomatch z) fun tk=>⟨.bl b,H,I.tok _,rfl,q⟩
 | lstS hs =>
  cases rx
  obtain⟨its,_,pl,_⟩:=I.list hs
  obtain⟨o,h1,h2,_⟩:=pl.isList
  exact PySem.W.kia_one PySem.W.kitx_list I.kIn ⟨o,h1,h2⟩ e (fun z=>nomatch z) fun tk=>⟨.bl b,H,I.tok _,rfl,q⟩
end
structure Fn (K:PySem.W.Frag) (mg:Str->Option Value) (x:Str) (st:Stmt) (ps:List Str):Prop where
 ex:∃ f fd,Fun K x x st f fd/\Binds K fd ps []/\mg x=some (.ref f)
structure Def (P:Program) (w:World) (K:PySem.W.Frag) (mg:Str->Option Value) (base:Heap) (x:Str) (k:Nat) (ps:List Str) (sp:Sp):Prop where
 ex:∃ f fd,FnOk P w K mg base CX0 k f fd ps sp/\Binds K fd ps []/\PySem.W.keepIn K (.ref f)=true/\mg x=some (.ref f)
section
variable {P:Program}{w:World}{K:PySem.W.Frag}{mg:Str->Option Value}{base:Heap}
theorem Fn.ok{x:Str}{st:Stmt}{N ps:List Str}{k:Nat}{sp:Sp}(F:Fn K mg x st ps)(S:FnScope N ps (defScope st))(len:∀ vs H Q E,sp vs H Q E->vs.length=ps.length)
 (hbody:∀ (f:Addr) (cdv:Value) (A:Around) (outer:List Env) (s:Shared) (H:Hp) (vs:List V) (Q:VK) (E:XK),Room k (A.deeper (envOfC x (defScope st) s.heap.objs.size f cdv))->sp vs H Q E ->
  ∃ t,PSs (y0M CX0 P w K mg base N x (defScope st) f cdv A outer s H E).nox (defBody st) t/\t { nx:=fun _ H'=>Q .non H',rt:=Q } (z2x N vs) H):Def P w K mg base x (k + 1) ps sp:=by
 obtain⟨f,fd,FF,b,m⟩:=F.ex
 exact⟨f,fd,FF.ok S len (hbody f),b,FF.kp,m⟩
end
section
variable {X:Cx}{k j:Nat}{ps:List Str}{sp:Sp}{x:Str}{p pos:Pos}{e:Expr}{es:List Expr}{t:TA}
theorem z0p(D:Def X.prog X.w X.K X.mg X.base x j ps sp)(hr:Room k X.A)(hg:Gl X x)(ha:PA X (e :: es) t)(hjk:j<=k:=by decide)(hdb:(x == ("__debug__" : Str))=false:=by decide)
 (he:starEach (e :: es) X.env=(false,eval e X.env) :: starEach es X.env:=by rfl) (hpl:(backTo pos (starEach es X.env)).any (·.1)=false:=by rfl) :
 PE X (.Call (.Name x p) (e :: es) [] pos) (y0q sp [] E0 t):=by
 obtain⟨f,fd,F,b,kp,m⟩:=D.ex
 exact z8x F (hr.mono hjk) hg m kp b .nil y7T ha hdb he hpl
end
theorem y3w{c:Prop}[Decidable c]{A B:Prop}(h1:c->A)(h2:¬ c->B):if decide c=true then A else B:=by
 by_cases h:c
 · rw[if_pos (decide_eq_true h)];exact h1 h
 · rw[if_neg (by rw[decide_eq_false h];exact jR)];exact h2 h
theorem y9z{c:Prop}[Decidable c]{A B:Prop}(h1:¬ c->A)(h2:c->B):if (!decide c)=true then A else B:=by
 by_cases h:c
 · rw[if_neg (by rw[decide_eq_true h];exact jR)];exact h2 h
 · rw[if_pos (by rw[decide_eq_false h];rfl)];exact h1 h
theorem y4G(ns:List Int)(k:Nat):z5y (ns.map V.int) (some (k:Int)) none=(ns.drop k).map V.int:=by
 unfold z5y
 rw[HT.sIx_nat,HT.sIx_none,jA,<- List.map_drop,<- List.map_take]
 congr 1
 by_cases h:k<=ns.length
 · rw[Nat.min_eq_left h,kK (by rw[js];exact jE _)]
 · have h':ns.length<=k:=by omega
   rw[Nat.min_eq_right h',kU (jE _),kU h'];simp
theorem y4H(xs:List V)(k:Nat):z5y xs (some (k:Int)) none=xs.drop k:=by
 unfold z5y
 rw[HT.sIx_nat,HT.sIx_none]
 by_cases h:k<=xs.length
 · rw[Nat.min_eq_left h,kK (by rw[js];exact jE _)]
 · have h':xs.length<=k:=by omega
   rw[Nat.min_eq_right h',kU (jE _),kU h'];simp
theorem z6P(xs:List V)(k:Nat):z5y xs none (some (k:Int))=xs.take k:=by
 unfold z5y
 rw[HT.sIx_nat,HT.sIx_none,qM,Nat.sub_zero]
 by_cases h:k<=xs.length
 · rw[Nat.min_eq_left h]
 · have h':xs.length<=k:=by omega
   rw[Nat.min_eq_right h',kK (jE _),kK h']
theorem y6I{ns:List Int}{i:Nat}{x:V}(h:(ns.map V.int)[i]? = some x):∃ n,x = .int n:=by
 rw[jF]at h
 cases e:ns[i]? with
 | none=>rw[e]at h;cases h
 | some n=>rw[e]at h;cases h;exact⟨n,rfl⟩
theorem y1r{K:PySem.W.Frag}{H:Hp}{a:Addr}{xs:List V}(h:SqL K H a xs):y8T K (.ref a) H xs.length := .inl ⟨xs,h,rfl⟩
theorem z0b{X:Cx}{e:Expr}{es:List Expr}{te:TE}{t:TA}(ha:PE X e te)(hr:PA X es t)(hs:starEach (e :: es) X.env=(false,eval e X.env) :: starEach es X.env):PA X (e :: es) (z2w te t):=z0g ha hr hs
theorem y6l{X:Cx}{i:Nat}{x:Str}{es:List Expr}{t:TA}{p pos pos':Pos}(hN:X.N.Nodup)(hi:X.N[i]? = some x)(hx:X.env.scope.names.lookup x=some .local)(ha:PA X es t):PS X (.Assign [.Name x pos'] (.List es p) pos) (y1m (y5L t) (z0Y i)) :=
 z0l hN hi (.inl hx) (z3t ha) (hs:=rfl) (hf := .inr hx)
theorem y8J{α:Type}{xs:List α}{i:Int}(h0:0<=i)(h1:i < xs.length):∃ v,atI xs i=some v/\v∈xs:=by
 have hn:i.toNat < xs.length:=by omega
 refine⟨xs[i.toNat],?_,kD hn⟩
 have e:i=((i.toNat:Nat):Int):=by omega
 have z:=z3f (jD hn)
 rwa [<- e]at z
section
variable {X:Cx}
def cap(ix:List Nat)(σ:St):St:=ix.map fun i=>(σ[i]?).getD none
def z6c(ix:List Nat)(wi:TI)(tt:TT)(te:TE):TE:=fun σ H Q=>wi σ H fun J H1=>∀ D,H1 D=none->∃ W:Nat->Nat->Hp->Prop,(∃ m,W 0 m (upd H1 D (.lst []))) /\
 ∀ i m H,W i m H->(J.stop i H/\Q (.ref D) H)\/(J.go i H/\∀ x H',J.yld i H x H'->tt (some x :: cap ix σ) H' fun b H2 =>
  if b=true then te (some x :: cap ix σ) H2 fun y H3=>∃ ys,H3 D=some (.lst ys)/\ys.length < sizeLine/\∃ m',m' < m/\W (i + 1) m' (upd H3 D (.lst (ys ++ [y]))) else ∃ m',m' < m/\W (i + 1) m' H2)
def z1X(X:Cx)(x:Str)(M:List Str)(scope:Scope)(cl:List (Str×Addr))(C:Addr)(pins:List (Addr×Obj))(fp:List Addr)(s:Shared)(H:Hp):Cx where
 prog:=X.prog
 w:=X.w
 K:=X.K
 mg:=X.mg
 base:=X.base
 A:=X.A
 N:=x :: M
 s₀:=s
 H₀:=H
 env:=compEnvC scope cl C X.env
 outer:=X.stack
 stack:=X.stack
 ex:=fp
 calm:=X.calm
 fn:=fun _=>false
 pn:=X.pn ++ pins
 xe:=fun _ _=>False
structure CompOk (X:Cx) (x:Str) (M:List Str) (ix:List Nat) (scope:Scope) (cl:List (Str×Addr)):Prop where
 clos:closureFor scope X.env=pure cl
 kind:scope.kind = .function
 names:∀ y∈scope.names,y.2 = .local->scope.names.lookup y.1=some .local
 nocell:∀ y∈scope.names,y.2 ≠ .cell
 loc:scope.names.lookup x=some .local
 sub:∀ y c,cl.lookup y=some c->X.env.cells.lookup y=some c
 has:∀ y,((compEnvC scope cl 0 X.env).kindOf y=some .cell\/(compEnvC scope cl 0 X.env).kindOf y=some .free)->∃ c,cl.lookup y=some c
 len:ix.length=M.length
 cap:∀ (i:Nat) (y:Str) (j:Nat),M[i]? = some y->ix[i]? = some j->X.N[j]? = some y/\Vis X.env.scope y/\∃ c,cl.lookup y=some c/\((compEnvC scope cl 0 X.env).kindOf y=some .cell\/(compEnvC scope cl 0 X.env).kindOf y=some .free)/\X.env.kindOf y≠some .local
theorem y4s{x:Str}{M:List Str}{ix:List Nat}{scope:Scope}{cl:List (Str×Addr)}{pins:List (Addr×Obj)}{σ:St}{H:Hp}{s:Shared}{fp:List Addr}{h4:Heap}{tk:Nat}{m:Str->Option Value}(O:CompOk X x M ix scope cl)(I:Inv X pins σ H s)
 (hfp:∀ b∈fp,FpOk X pins H b/\∃ o,s.heap.get? b=some o) (hn:h4.Ns s.heap.objs.size m) (hk:∀ b o,s.heap.get? b=some o->h4.get? b=some o) :
 Inv (z1X X x M scope cl s.heap.objs.size pins fp s H) [] (none :: cap ix σ) H { s with heap:=h4,toks:=tk }:=by
 have fresh:H s.heap.objs.size=none:=I.hok.fresh (jE _)
 have ex1:∀ b∈fp,b≠s.heap.objs.size:=fun b hb z=>by
  obtain⟨_,o,e⟩:=hfp b hb
  exact absurd (jJ e) (by rw[z];exact kq _)
 have cellOf:∀ y c,cl.lookup y=some c->X.env.cells.lookup y=some c:=O.sub
 refine⟨⟨I.ok.mod,O.kind,I.ok.glob,I.ok.blt,jE _,fun y z c h1 h2=>I.ok.inj y z c (O.sub y c h1) (O.sub z c h2),fun y hy=>O.has y hy,fun y c h=>(nomatch h),I.ok.hd,I.ok.frames,.inl rfl,fun b hb=>⟨ex1 b hb,fun y c e=>(hfp b hb).1.2.2.2.2.1 y c (O.sub y c e)⟩,
  I.bs,jY I.ok.bsz I.sz,fun b o e hb=>?_,fun b hb z=>?_,I.stack,I.stkFree⟩,rfl,I.bare,Un.kept hk,⟨m,hn,fun i y v h1 h2 h3=>?_⟩,fun y c e=>?_,fresh,fun y c e=>I.freeC y c (O.sub y c e),fun p hp=>?_,I.hok.kept hk,?_⟩
 · have f:=(hfp b hb).1.2.2.2.1
   rcases f with f | f
   · exact I.ok.noex b o e f
   · exact absurd (jr (jJ e) (jY I.ok.bsz f)) (kq _)
 · rcases jQ.mp (I.stkSub b z) with q | q
   · exact (hfp b hb).1.2.1 q
   · exact (hfp b hb).1.2.2.1 q
 · cases i with
   | zero=>exact absurd (show (none:Option V)=some v from Option.some.inj h2) (fun z=>nomatch z)
   | succ i =>
    have h1':M[i]? = some y:=h1
    have h2':(ix.map fun i=>(σ[i]?).getD none)[i]? = some (some v):=h2
    rw[jF]at h2'
    cases ej:ix[i]? with
    | none=>rw[ej]at h2';cases h2'
    | some j =>
     rw[ej]at h2'
     have h2'':(σ[j]?).getD none=some v:=Option.some.inj h2'
     obtain⟨hN,hV,c,hc,hk',hnl⟩:=O.cap i y j h1' ej
     cases eσ:σ[j]? with
     | none=>rw[eσ]at h2'';cases h2''
     | some ov =>
      rw[eσ]at h2''
      have:ov=some v:=h2''
      subst this
      obtain⟨mm,hnn,hl⟩:=I.loc
      obtain⟨u,r,l⟩:=hl j y v hN eσ hV
      refine⟨u,r,?_⟩
      rcases l with ⟨k,_⟩ | ⟨k,c',e',z⟩
      · exact absurd k hnl
      · have:c'=c:=Option.some.inj (e'.symm.trans (O.sub y c hc))
        subst this
        obtain⟨o,ho,hd⟩:=z
        exact .inr ⟨hk',c',hc,o,hk _ _ ho,hd⟩
 · obtain⟨v,o,ho,hd⟩:=I.cell y c (O.sub y c e)
   exact⟨v,o,hk _ _ ho,hd⟩
 · have hp':p∈X.pn ++ pins:=by
    have:=(jL.mp hp)
    exact this.elim id fun z=>absurd z (by simp)
   obtain⟨e,n,ne,nf,d⟩:=I.pin p hp'
   refine⟨hk _ _ e,n,fun z=>?_,fun z=>?_,d⟩
   · exact absurd (jJ e) (by rw[show p.1=s.heap.objs.size from z];exact kq _)
   · rcases jQ.mp (I.stkSub _ z) with q | q
     · exact ne q
     · exact nf q
 · show (none :: ix.map _).length=(x :: M).length
   simp[O.len]
end
section
variable {X:Cx}
def PTs(X:Cx)(ifs:List Expr)(t:TT):Prop :=
 ∀ (pins:List (Addr×Obj)) (s:Shared) (σ:St) (H:Hp) (Q:Bool->Hp->Prop),Inv X pins σ H s->t σ H Q ->
  wpAny (model X.prog X.w) X.A (forIn ifs true fun c r=>if r=true then do let ok <- isTrue c X.env (eval c X.env);pure (ForInStep.yield ok) else pure (ForInStep.yield r)) (TP X pins σ Q) X.xe s
def y7g:TT:=fun _ H Q=>Q true H
theorem z2Z:PTs X [] y7g:=fun _ _ _ H _ I h=>wpAny_tests_nil ⟨H,I,h⟩
theorem z3N{c:Expr}{t:TT}(h:PT X c t):PTs X [c] t:=fun pins s σ H Q I q=>wpAny_tests_one (h pins s σ H Q I q)
theorem y0b{elt iter:Expr}{x:Str}{px:Pos}{ifs:List Expr}{scope:Scope}{cl:List (Str×Addr)}{pos:Pos}{M:List Str}{ix:List Nat}{tt:TT}{te:TE}{pins:List (Addr×Obj)}{σ:St}{H2:Hp}{s2:Shared}{it:Addr}{fp:List Addr}{tn:Nat->Heap->Prop}{J:It}
 (O:CompOk X x M ix scope cl) (hc:X.calm=true) (nd:(x :: M).Nodup)
 (ht:∀ C pins fp s H,PTs (z1X X x M scope cl C pins fp s H) ifs tt) (he:∀ C pins fp s H,PE (z1X X x M scope cl C pins fp s H) elt te)
 (I2:Inv X pins σ H2 s2) (T:Turn X.prog X.w X.K (.Name x px) J fp it tn) (st2:tn 0 s2.heap) (f2:∀ b∈fp,FpOk X pins H2 b)
 {RR:Value->Addr->Result->Shared->Prop}{E:Value->Shared->Prop}{Q:VK}
 (h:∀ D,H2 D=none->∃ W:Nat->Nat->Hp->Prop,(∃ m,W 0 m (upd H2 D (.lst []))) /\
  ∀ i m H,W i m H->(J.stop i H/\Q (.ref D) H)\/(J.go i H/\∀ x H',J.yld i H x H'->tt (some x :: cap ix σ) H' fun b H2 =>
   if b=true then te (some x :: cap ix σ) H2 fun y H3=>∃ ys,H3 D=some (.lst ys)/\ys.length < sizeLine/\∃ m',m' < m/\W (i + 1) m' (upd H3 D (.lst (ys ++ [y]))) else ∃ m',m' < m/\W (i + 1) m' H2))
 (hR:∀ (C D:Addr) (H':Hp) (s':Shared) (m:Str->Option Value),Inv X pins σ H' s'->Q (.ref D) H'->s'.heap.Ns C m->H' C=none->C≠X.env.locals->X.s₀.heap.objs.size<=C->(∀ y c,X.env.cells.lookup y=some c->c≠C)->(∀ p∈X.pn ++ pins,p.1≠C)->RR (.ref D) C (.ok .next) s') :
 wpAny (model X.prog X.w) X.A (newList []) (fun acc s₃=>wpAny (model X.prog X.w) X.A (newFunctionEnv scope X.env.globals cl [] X.env.qual none .none (some X.env)) (fun cenv s₄ =>
  codeAny (model X.prog X.w) X.A (.compStart (.ListComp elt [⟨.Name x px,iter,ifs,0⟩] scope pos) 0 (.ref it) acc { cenv with scope:=relabel scope X.env }) (RR acc cenv.locals) s₄) E s₃) E s2:=by
 have hD:H2 s2.heap.objs.size=none:=I2.hok.fresh (jE _)
 obtain⟨W,⟨m0,w0⟩,turn⟩:=h s2.heap.objs.size hD
 refine wpAny_newObj_type (wpAny_newFunctionEnv O.nocell (by intro y hy;simp at hy) (fun h₁ hns₁ hsb₁=>?_) O.kind)
 dsimp only at hns₁ hsb₁ ⊢
 generalize hH3:s2.heap.push { cls := .type "list",dict:=none,data := .seq ([]:List Value).toArray }=hp3 at hns₁ hsb₁ ⊢
 have k23:∀ b o,s2.heap.get? b=some o->hp3.get? b=some o:=fun b o e=>hH3 ▸ jB _ e
 have I3:Inv X pins σ (upd H2 s2.heap.objs.size (.lst [])) { s2 with heap:=hp3,toks:=s2.toks }:=by
  refine I2.laid (o := .lst []) (t':=s2.toks) k23 (jE _) ?_
  exact⟨jg _,[],0,.nil,hH3 ▸ jO _ rfl⟩
 have szC:hp3.objs.size=s2.heap.objs.size + 1:=by rw[<- hH3,Heap.size_push]
 have hfp:∀ b∈fp,FpOk X pins (upd H2 s2.heap.objs.size (.lst [])) b/\∃ o,hp3.get? b=some o:=fun b hb=>by
  obtain⟨o,e,_⟩:=T.obj _ _ st2 b hb
  obtain⟨q0,q1⟩:=f2 b hb
  exact⟨⟨by rw[z0k (jU (jJ e))];exact q0,q1⟩,o,k23 b o e⟩
 have k34:∀ b o,hp3.get? b=some o->h₁.get? b=some o:=fun b o e=>hsb₁.extBut b o (jU (jJ e)) (jB _ e)
 have I4:=y4s (tk:=s2.toks + ([]:List (Str×Value)).length) O I3 hfp hns₁ k34
 have st4:tn 0 h₁:=T.keep _ _ _ st2 fun b hb o e=>k34 b o (k23 b o e)
 have fr4:∀ b∈fp,(upd H2 s2.heap.objs.size (.lst [])) b=none:=fun b hb=>(hfp b hb).1.1
 -- what stays true of the iterator's objects in the block
 have stat:∀ {H':Hp},(∀ b∈fp,H' b=none)->∀ b∈fp,FpOk (z1X X x M scope cl hp3.objs.size pins fp { s2 with heap:=hp3,toks:=s2.toks } (upd H2 s2.heap.objs.size (.lst []))) [] H' b:=fun hn b hb=>by
  obtain⟨⟨_,q1,q2,q3,q4,q5⟩,o,e⟩:=hfp b hb
  refine⟨hn b hb,jU (jJ e),fun z=>?_,.inl hb,fun y c ec=>q4 y c (O.sub y c ec),fun p hp=>?_⟩
  · rcases jQ.mp (I3.stkSub b z) with q | q
    · exact q1 q
    · exact q2 q
  · have hp':p∈X.pn ++ pins:=(jL.mp hp).elim id fun z=>absurd z (by simp)
    exact q5 p hp'
 have loop:codeAny (model X.prog X.w) X.A (.compLoop (.ListComp elt [⟨.Name x px,iter,ifs,0⟩] scope pos) 0 (.ref it) (.ref s2.heap.objs.size) (compEnvC scope cl hp3.objs.size X.env)) (RR (.ref s2.heap.objs.size) hp3.objs.size)
  { s2 with heap:=h₁,toks:=s2.toks + ([]:List (Str×Value)).length }:=by
  refine codeAny_compLoop_tests (fun n s'=>∃ i v H',Inv (z1X X x M scope cl hp3.objs.size pins fp { s2 with heap:=hp3,toks:=s2.toks } (upd H2 s2.heap.objs.size (.lst []))) [] (v :: cap ix σ) H' s'/\tn i s'.heap/\(∀ b∈fp,H' b=none)/\W i n H') ?_ m0 ⟨0,none,_,I4,st4,fr4,w0⟩
  rintro n s5 ⟨i,v5,H5,I5,st5,fr5,w5⟩
  rcases turn i n H5 w5 with ⟨stop,qn⟩ | ⟨go,step⟩
  · refine thn (T.done (z1X X x M scope cl hp3.objs.size pins fp { s2 with heap:=hp3,toks:=s2.toks } (upd H2 s2.heap.objs.size (.lst []))) rfl rfl rfl hc i [] s5 _ H5 _ I5 (stat fr5) st5 stop) fun r s6 ⟨hr,I6⟩=>?_
    subst hr
    obtain⟨m6,hn6,_⟩:=id I6.loc
    have hch:∀ b∈fp,(b∈X.ex\/X.s₀.heap.objs.size<=b)/\b≠X.env.locals/\(∀ x c,X.env.cells.lookup x=some c->c≠b)/\∀ p∈X.pn ++ pins,p.1≠b:=fun b hb=>by
     obtain⟨⟨_,q1,q2,q3,q4,q5⟩,_⟩:=hfp b hb
     exact⟨q3,q1,q4,q5⟩
    have IX:Inv X pins σ H5 s6:=I3.call' (s':=s6) (ch:=fp) I6.os I6.base I6.hok I6.bare hch
    refine hR _ _ _ _ m6 IX qn hn6 I6.free (kB I3.lt) I3.sz (fun y c e z=>?_) fun p hp z=>?_
    · obtain⟨v,q⟩:=I3.cell y c e
      exact absurd q.lt (by rw[z];exact kq _)
    · exact absurd (jJ (I3.pin p hp).1) (by rw[z];exact kq _)
  · refine thn (T.item (z1X X x M scope cl hp3.objs.size pins fp { s2 with heap:=hp3,toks:=s2.toks } (upd H2 s2.heap.objs.size (.lst []))) rfl rfl rfl hc i [] s5 _ H5 _ I5 (stat fr5) st5 go) fun r s6 ⟨u,hr,h6⟩=>?_
    subst hr
    show wpAny _ _ (letOwnedTupleGo (.Name x px) (.ref it) u >>= fun _=>assign (.Name x px) (compEnvC scope cl hp3.objs.size X.env) u) _ _ _
    refine wpAny_bind (thn h6 fun _ s7 ⟨xv,H7,I7,r7,y7,st7,fr7⟩=>?_)
    have I7':=I7.pinned (stat fr7) (T.obj _ _ st7)
    have PGx:PG (z1X X x M scope cl hp3.objs.size pins fp { s2 with heap:=hp3,toks:=s2.toks } (upd H2 s2.heap.objs.size (.lst []))) (.Name x px) (z0Y 0):=z0v nd rfl (.inl (lookup_relabel_local O.loc)) (.inr (lookup_relabel_local O.loc))
    have keepT:∀ {σ8:St}{H8:Hp}{s8:Shared},Inv (z1X X x M scope cl hp3.objs.size pins fp { s2 with heap:=hp3,toks:=s2.toks } (upd H2 s2.heap.objs.size (.lst []))) ([] ++ z7u fp s7.heap) σ8 H8 s8->tn (i + 1) s8.heap/\∀ b∈fp,H8 b=none:=fun I8=>by
     refine⟨T.keep _ _ _ st7 fun b hb o e=>(I8.pin (b,o) (jP _ (jP _ (z2R hb e)))).1,fun b hb=>?_⟩
     obtain⟨o,e,d⟩:=T.obj _ _ st7 b hb
     exact (I8.pin (b,o) (jP _ (jP _ (z2R hb e)))).2.1
    refine wpAny_mono (PGx _ s7 _ H7 xv u (fun σ8 H8=>σ8=some xv :: cap ix σ/\H8=H7) I7' r7 ⟨rfl,rfl⟩) (fun _ s8 ⟨σ8,H8,I8,e8,e8'⟩=>?_) fun _ _ z=>z.elim
    subst e8 e8'
    refine wpAny_mono (ht _ _ _ _ _ _ s8 _ _ _ I8 (step xv H8 y7)) (fun ok s9 ⟨H9,I9,q9⟩=>?_) fun _ _ z=>z.elim
    cases ok with
    | false =>
     rw[if_neg jR]
     have q9':∃ m',m' < n/\W (i + 1) m' H9:=by
      have:=q9
      rwa [if_neg jR]at this
     obtain⟨m',hm,w9⟩:=q9'
     obtain⟨k1,k2⟩:=keepT I9
     exact⟨m',hm,i + 1,_,H9,I9.unpinned,k1,k2,w9⟩
    | true =>
     rw[if_pos rfl]at q9 ⊢
     refine wpAny_mono (he _ _ _ _ _ _ s9 _ H9 _ I9 q9) (fun yv s10 ⟨y,H10,I10,r10,ys,eD,hz,m',hm,w10⟩=>?_) fun _ _ z=>z.elim
     refine wpAny_mono (z1h (X:=z1X X x M scope cl hp3.objs.size pins fp { s2 with heap:=hp3,toks:=s2.toks } (upd H2 s2.heap.objs.size (.lst []))) _ s10 _ H10 (.ref s2.heap.objs.size) [y] (.ref s2.heap.objs.size) [yv] (fun _ H11=>H11=upd H10 s2.heap.objs.size (.lst (ys ++ [y]))) I10 rfl (.cons r10 .nil) ⟨_,ys,y,rfl,rfl,eD,hz,rfl⟩) (fun _ s11 ⟨_,H11,I11,_,e11⟩=>?_) fun _ _ z=>z.elim
     subst e11
     obtain⟨k1,k2⟩:=keepT I11
     exact⟨m',hm,i + 1,_,_,I11.unpinned,k1,k2,w10⟩
 exact codeAny_compStart_list loop (T.self X.A 0 _ _ _ st4 loop)
theorem z3Q{elt iter:Expr}{x:Str}{px:Pos}{ifs:List Expr}{scope:Scope}{cl:List (Str×Addr)}{pos:Pos}{M:List Str}{ix:List Nat}{wi:TI}{tt:TT}{te:TE}
 (O:CompOk X x M ix scope cl) (hc:X.calm=true) (nd:(x :: M).Nodup) (hi:PI X (.Name x px) iter wi)
 (ht:∀ C pins fp s H,PTs (z1X X x M scope cl C pins fp s H) ifs tt) (he:∀ C pins fp s H,PE (z1X X x M scope cl C pins fp s H) elt te) (hs:∀ x,foldedSetIterable iter X.env x=pure x:=by intro _;rfl) :
 PE X (.ListComp elt [⟨.Name x px,iter,ifs,0⟩] scope pos) (z6c ix wi tt te):=by
 intro pins s σ H Q I h
 rw[eval_ListComp]
 refine wpAny_comprehension_free (use:=none) rfl hs O.clos O.kind O.names (thn (hi pins s σ H _ I h) fun xv s₁ h₁=>thn h₁ fun itv s₂ ⟨it,fp,tn,J,H2,e,I2,T,st2,f2,hW⟩=>?_)
 subst e
 refine y0b (RR:=fun acc C=>compPost (model X.prog X.w) X.A X.xe none (EP X pins σ Q) acc C) (Q:=Q) O hc nd ht he I2 T st2 f2 hW ?_
 intro C D H' s' m IX q hn hC hCL hCz hcc hpc
 refine⟨m,hn,fun h' hs'=>⟨.ref D,H',?_,rfl,q⟩⟩
 exact IX.turned (h':=h') (t':=s'.toks) (fun b o hb e=>hs'.extBut b o hb e) hC (Ne.symm hCL).symm (.inr hCz) hcc hpc
end
section
variable {X:Cx}
theorem z3a{elt iter:Expr}{x y:Str}{px py:Pos}{ifs:List Expr}{scope:Scope}{cl:List (Str×Addr)}{pos spos:Pos}{M:List Str}{ix:List Nat}{wi:TI}{tt:TT}{te:TE}{j:Nat}
 (hN:X.N.Nodup) (hj:X.N[j]? = some y) (hy:X.env.scope.names.lookup y=some .local)
 (O:CompOk X x M ix scope cl) (hc:X.calm=true) (nd:(x :: M).Nodup) (hi:PI X (.Name x px) iter wi)
 (ht:∀ C pins fp s H,PTs (z1X X x M scope cl C pins fp s H) ifs tt) (he:∀ C pins fp s H,PE (z1X X x M scope cl C pins fp s H) elt te)
 (hsw:swapsWith (.ListComp elt [⟨.Name x px,iter,ifs,0⟩] scope pos) (some (.Name y py)) spos.line X.env=pure true:=by rfl) (hs:∀ x,foldedSetIterable iter X.env x=pure x:=by intro _;rfl) :
 PS X (.Assign [.Name y py] (.ListComp elt [⟨.Name x px,iter,ifs,0⟩] scope pos) spos) (y1m (z6c ix wi tt te) (z0Y j)):=by
 intro pins s σ H D I h
 rw[exec_Assign_Name_used _ _ _ _ hsw]
 refine wpAny_bind (wpAny_standAt (wpAny_bind ?_))
 show wpAny _ X.A (do let _ <- comprehension (.ListComp elt [⟨.Name x px,iter,ifs,0⟩] scope pos) scope X.env _ (newList []) false (eval iter X.env) (some (assign (.Name y py) X.env))) _ _ s
 refine wpAny_bind (wpAny_mono (wpAny_comprehension_free (use:=some (assign (.Name y py) X.env)) (Q:=fun _ s'=>SP X pins D .next s') rfl hs O.clos O.kind O.names
  (thn (hi pins s σ H _ I h) fun xv s₁ h₁=>thn h₁ fun itv s₂ ⟨it,fp,tn,J,H2,e,I2,T,st2,f2,hW⟩=>?_)) (fun _ s' hq=>wpAny_pure (wpAny_pure hq)) fun _ _ e=>e)
 subst e
 refine y0b (RR:=fun acc C=>compPost (model X.prog X.w) X.A X.xe (some (assign (.Name y py) X.env)) (fun _ s'=>SP X pins D .next s') acc C) (Q:=fun v H'=>D.nx (σ.set j (some v)) H') O hc nd ht he I2 T st2 f2 hW ?_
 intro C Da H' s' m IX q hn hC hCL hCz hcc hpc
 show wpAny _ X.A (assign (.Name y py) X.env (.ref Da)) _ _ _
 refine wpAny_assign_Name (z7g (v := .ref Da) IX hN hj (.inl hy) rfl (fun s'' I'' ⟨a,sb,ha⟩=>?_) (.inr hy))
 have hCa:C≠a:=by
  rcases ha with z | z
  · rw[z];exact hCL
  · exact fun w=>hcc _ _ z w.symm
 refine⟨m,hn.at' fun o e=>sb.extBut C o hCa e,fun h' hs'=>⟨_,H',?_,q⟩⟩
 exact I''.turned (h':=h') (t':=s''.toks) (fun b o hb e=>hs'.extBut b o hb e) hC hCL (.inr hCz) hcc hpc
def AllL{α:Type}(P:α->Prop):List α->Prop
 | []=>True
 | a :: r=>P a/\AllL P r
theorem AllL.mem{α:Type}{P:α->Prop}:∀ {l:List α},AllL P l->∀ a∈l,P a
 | _ :: _,h,_,.head _=>h.1
 | _ :: _,h,a,.tail _ m=>AllL.mem h.2 a m
def capOk(X:Cx)(scope:Scope)(cl:List (Str×Addr)):List Str->List Nat->Prop
 | y :: M,j :: ix=>(X.N[j]? = some y/\X.env.scope.names.lookup y=some .cell/\(relabel scope X.env).names.lookup y=some .cell/\(cl.lookup y).isSome=true)/\capOk X scope cl M ix
 | [],[]=>True
 | _,_=>False
theorem capOk.len{scope:Scope}{cl:List (Str×Addr)}:∀ {M:List Str}{ix:List Nat},capOk X scope cl M ix->ix.length=M.length
 | [],[],_=>rfl
 | _ :: _,_ :: _,h=>congrArg Nat.succ (capOk.len h.2)
 | [],_ :: _,h=>h.elim
 | _ :: _,[],h=>h.elim
theorem capOk.at{scope:Scope}{cl:List (Str×Addr)}:∀ {M:List Str}{ix:List Nat},capOk X scope cl M ix->∀ (i:Nat) (y:Str) (j:Nat),M[i]? = some y->ix[i]? = some j ->
 (X.N[j]? = some y/\X.env.scope.names.lookup y=some .cell/\(relabel scope X.env).names.lookup y=some .cell/\(cl.lookup y).isSome=true)
 | [],[],_,_,_,_,e,_=>by simp at e
 | _ :: _,_ :: _,h,0,_,_,e1,e2=>by simp at e1 e2;subst e1 e2;exact h.1
 | _ :: _,_ :: _,h,i + 1,y,j,e1,e2=>capOk.at h.2 i y j (by simpa using e1) (by simpa using e2)
 | [],_ :: _,h,_,_,_,_,_=>h.elim
 | _ :: _,[],h,_,_,_,_,_=>h.elim
def x0i(names:List (Str×NameKind))(cl:List (Str×Addr)):Bool:=names.all fun p => !(p.2 == .cell || p.2 == .free) || (cl.lookup p.1).isSome
theorem CompOk.of{x:Str}{M:List Str}{ix:List Nat}{scope:Scope}{cl:List (Str×Addr)}(clos:closureFor scope X.env=pure cl)(kind:scope.kind = .function)
 (names:∀ y∈scope.names,y.2 = .local->scope.names.lookup y.1=some .local) (nocell:∀ y∈scope.names,y.2 ≠ .cell) (loc:scope.names.lookup x=some .local)
 (sub:AllL (fun p=>X.env.cells.lookup p.1=some p.2) cl) (has:x0i (relabel scope X.env).names cl=true) (cap:capOk X scope cl M ix):CompOk X x M ix scope cl where
 clos:=clos
 kind:=kind
 names:=names
 nocell:=nocell
 loc:=loc
 sub:=fun y c h=>sub.mem _ (PySem.mem_of_lookup h)
 has:=fun y h=>by
  have h':(relabel scope X.env).names.lookup y=some .cell\/(relabel scope X.env).names.lookup y=some .free:=h
  have q:∀ k,(k=NameKind.cell\/k=NameKind.free)->(relabel scope X.env).names.lookup y=some k->∃ c,cl.lookup y=some c:=fun k hk e=>by
   have:=List.all_eq_true.mp has _ (PySem.mem_of_lookup e)
   have hk':(!(k == NameKind.cell || k == NameKind.free))=false:=by rcases hk with rfl | rfl <;> rfl
   simp only[hk',Bool.false_or]at this
   exact kC.mp this
  rcases h' with e | e
  · exact q _ (.inl rfl) e
  · exact q _ (.inr rfl) e
 len:=cap.len
 cap:=fun i y j e1 e2=>by
  obtain⟨h1,h2,h3,h4⟩:=cap.at i y j e1 e2
  obtain⟨c,hc⟩:=kC.mp h4
  exact⟨h1,.inr (.inl h2),c,hc,.inl h3,by rw[show X.env.kindOf y=X.env.scope.names.lookup y from rfl,h2];decide⟩
end
inductive D where
 | non | bl (b:Bool) | int (i:Int) | str (x:Str) | tup (ds:List D) | lst (ds:List D)
mutual
def IsD(K:PySem.W.Frag)(H:Hp):D->V->Prop
 | .non,x=>x = .non
 | .bl b,x=>x = .bl b
 | .int i,x=>x = .int i
 | .str z,x=>x = .str z
 | .tup ds,x=>∃ a xs,x = .ref a/\SqT K H a xs/\IsDs K H ds xs
 | .lst ds,x=>∃ a xs,x = .ref a/\SqL K H a xs/\IsDs K H ds xs
def IsDs(K:PySem.W.Frag)(H:Hp):List D->List V->Prop
 | [],xs=>xs=[]
 | d :: ds,xs=>∃ x r,xs=x :: r/\IsD K H d x/\IsDs K H ds r
end
mutual
def D.deep:D->Nat
 | .tup ds=>D.deeps ds + 1
 | .lst ds=>D.deeps ds + 1
 | _=>0
def D.deeps:List D->Nat
 | []=>0
 | d :: ds=>max d.deep (D.deeps ds)
end
theorem Same.tupq{K:PySem.W.Frag}{H H':Hp}{a:Addr}{xs:List V}(e:Same H H')(h:SqT K H a xs):SqT K H' a xs:=by
 rcases h with (h | ⟨o,h⟩) | h
 · exact .inl (.inl (e _ _ h))
 · exact .inl (.inr ⟨o,e _ _ h⟩)
 · exact .inr h
mutual
theorem IsD.same{K:PySem.W.Frag}{H H':Hp}(e:Same H H'):∀ {d:D}{x:V},IsD K H d x->IsD K H' d x
 | .non,_,h=>h
 | .bl _,_,h=>h
 | .int _,_,h=>h
 | .str _,_,h=>h
 | .tup _,_,⟨a,xs,h1,h2,h3⟩=>⟨a,xs,h1,e.tupq h2,IsDs.same e h3⟩
 | .lst _,_,⟨a,xs,h1,h2,h3⟩=>⟨a,xs,h1,e.seq h2,IsDs.same e h3⟩
theorem IsDs.same{K:PySem.W.Frag}{H H':Hp}(e:Same H H'):∀ {ds:List D}{xs:List V},IsDs K H ds xs->IsDs K H' ds xs
 | [],_,h=>h
 | _ :: _,_,⟨x,r,h1,h2,h3⟩=>⟨x,r,h1,IsD.same e h2,IsDs.same e h3⟩
end
theorem IsDs.length{K:PySem.W.Frag}{H:Hp}:∀ {ds:List D}{xs:List V},IsDs K H ds xs->xs.length=ds.length
 | [],_,h=>by
  have h':_=[]:=h
  rw[h'];rfl
 | _ :: _,_,⟨x,r,h1,_,h3⟩=>by rw[h1];exact congrArg Nat.succ (IsDs.length h3)
theorem IsDs.get{K:PySem.W.Frag}{H:Hp}:∀ {ds:List D}{xs:List V}{i:Nat}{d:D},IsDs K H ds xs->ds[i]? = some d->∃ x,xs[i]? = some x/\IsD K H d x
 | [],_,_,_,_,e=>by simp at e
 | _ :: _,_,0,_,⟨x,r,h1,h2,_⟩,e=>by
  simp at e;subst e h1;exact⟨x,rfl,h2⟩
 | _ :: _,_,i + 1,_,⟨x,r,h1,_,h3⟩,e=>by
  obtain⟨y,e1,e2⟩:=IsDs.get (i:=i) h3 (by simpa using e)
  subst h1
  exact⟨y,by simpa using e1,e2⟩
theorem IsDs.append{K:PySem.W.Frag}{H:Hp}:∀ {ds es:List D}{xs ys:List V},IsDs K H ds xs->IsDs K H es ys->IsDs K H (ds ++ es) (xs ++ ys)
 | [],_,_,_,h,h'=>by
  have:_=[]:=h
  subst this;exact h'
 | _ :: _,_,_,_,⟨x,r,h1,h2,h3⟩,h'=>by subst h1;exact⟨x,_,rfl,h2,IsDs.append h3 h'⟩
section
variable {X:Cx}{pins:List (Addr×Obj)}{σ:St}{H:Hp}{s:Shared}
theorem z4x(n:Nat):(List.range n).all (fun _=>true)=true:=by simp
theorem z3C(A:Around):A.in1.units=A.units + 1:=rfl
mutual
theorem y8C(I:Inv X pins σ H s):∀ (d:D) {A:Around}{x y:V}{u v:Value},IsD X.K H d x->IsD X.K H d y->RelV x u->RelV y v->A.units + d.deep < cLine->SeqAt.EqAt A s u v true
 | .non,_,_,_,_,_,hx,hy,rx,ry,_=>by
  have hx':_=V.non:=hx
  have hy':_=V.non:=hy
  subst hx' hy';cases rx;cases ry;exact SeqAt.EqAt.same _
 | .bl b,_,_,_,_,_,hx,hy,rx,ry,_=>by
  have hx':_=V.bl b:=hx
  have hy':_=V.bl b:=hy
  subst hx' hy';cases rx;cases ry;exact SeqAt.EqAt.same _
 | .int i,A,_,_,_,_,hx,hy,rx,ry,_=>by
  have hx':_=V.int i:=hx
  have hy':_=V.int i:=hy
  subst hx' hy'
  obtain⟨t,rfl⟩:=rx
  obtain⟨t',rfl⟩:=ry
  have:=SeqAt.EqAt.int_int (A:=A) (s:=s) i t i t'
  rwa [beq_self_eq_true]at this
 | .str z,A,_,_,_,_,hx,hy,rx,ry,_=>by
  have hx':_=V.str z:=hx
  have hy':_=V.str z:=hy
  subst hx' hy'
  obtain⟨t,rfl⟩:=rx
  obtain⟨t',rfl⟩:=ry
  have:=SeqAt.EqAt.str_str (A:=A) (s:=s) z t z t'
  rwa [beq_self_eq_true]at this
 | .tup ds,A,_,_,_,_,⟨a,xs,hx,qx,dx⟩,⟨b,ys,hy,qy,dy⟩,rx,ry,hu=>by
  subst hx hy
  cases rx;cases ry
  by_cases e:a=b
  · subst e;exact SeqAt.EqAt.same _
  · have hu':A.units + (D.deeps ds + 1) < cLine:=hu
    obtain⟨its,r1,t1,_⟩:=I.tuple qx
    obtain⟨jts,r2,t2,_⟩:=I.tuple qy
    have:=SeqAt.RcAt.tuples (A:=A) (e:=fun _=>true) t1 t2 (by omega) fun j h1 h2=>by
     have q:=z5l I ds (A:=A.in1) dx dy r1 r2 (by rw[z3C];omega) j (by simpa using h1) (by simpa using h2)
     simpa using q
    have l1:=r1.length;have l2:=r2.length;have l3:=dx.length;have l4:=dy.length
    have sz:(its.toArray.size == jts.toArray.size)=true:=by rw[jI,jI,beq_iff_eq];omega
    rw[z4x,sz]at this
    exact SeqAt.EqAt.of_refs e this
 | .lst ds,A,_,_,_,_,⟨a,xs,hx,qx,dx⟩,⟨b,ys,hy,qy,dy⟩,rx,ry,hu=>by
  subst hx hy
  cases rx;cases ry
  by_cases e:a=b
  · subst e;exact SeqAt.EqAt.same _
  · have hu':A.units + (D.deeps ds + 1) < cLine:=hu
    obtain⟨its,r1,t1,_⟩:=I.list qx
    obtain⟨jts,r2,t2,_⟩:=I.list qy
    have l1:=r1.length;have l2:=r2.length;have l3:=dx.length;have l4:=dy.length
    have:=SeqAt.RcAt.lists (A:=A) (e:=fun _=>true) t1.isList t2.isList (by rw[jI,jI];omega) (by omega) fun j h1 h2=>by
     have q:=z5l I ds (A:=A.in1) dx dy r1 r2 (by rw[z3C];omega) j (by simpa using h1) (by simpa using h2)
     simpa using q
    rw[z4x]at this
    exact SeqAt.EqAt.of_refs e this
theorem z5l(I:Inv X pins σ H s):∀ (ds:List D) {A:Around}{xs ys:List V}{us vs:List Value},IsDs X.K H ds xs->IsDs X.K H ds ys->Vals xs us->Vals ys vs->A.units + D.deeps ds < cLine ->
 ∀ (j:Nat) (h1:j < us.length) (h2:j < vs.length),SeqAt.EqAt A s us[j] vs[j] true
 | [],_,_,_,_,_,hx,_,rx,_,_=>fun j h1 _=>by
  have hx':_=([]:List V):=hx
  subst hx'
  have:=rx.length
  simp at this;omega
 | d :: ds,A,_,_,_,_,⟨x,xs,ex,hx,hxs⟩,⟨y,ys,ey,hy,hys⟩,rx,ry,hu=>by
  subst ex ey
  have hu':A.units + max d.deep (D.deeps ds) < cLine:=hu
  cases rx with
  | cons r1 t1 =>
   cases ry with
   | cons r2 t2 =>
    intro j h1 h2
    cases j with
    | zero=>exact y8C I d hx hy r1 r2 (by omega)
    | succ j=>exact z5l I ds hxs hys t1 t2 (by omega) j (by simpa using h1) (by simpa using h2)
end
def y9T(X:Cx)(b:Bool):R2:=fun x y H Q=>∃ d,IsD X.K H d x/\IsD X.K H d y/\(∃ a,x = .ref a)/\X.A.units + d.deep < cLine/\Q (.bl b) H
theorem y9Q(I:Inv X pins σ H s){A:Around}{d:D}{a:Addr}{y:V}{v:Value}(hx:IsD X.K H d (.ref a))(hy:IsD X.K H d y)(ry:RelV y v)(hu:A.units + d.deep < cLine) :
 SeqAt.RcAt A s (.ref a) v true/\SeqAt.RcNeAt A s (.ref a) v false:=by
 cases d with
 | non=>exact absurd (show V.ref a=V.non from hx) (fun z=>nomatch z)
 | bl b=>exact absurd (show V.ref a=V.bl b from hx) (fun z=>nomatch z)
 | int b=>exact absurd (show V.ref a=V.int b from hx) (fun z=>nomatch z)
 | str b=>exact absurd (show V.ref a=V.str b from hx) (fun z=>nomatch z)
 | tup ds =>
  obtain⟨a',xs,ex,qx,dx⟩:=hx
  cases ex
  obtain⟨b,ys,ey,qy,dy⟩:=hy
  subst ey;cases ry
  have hu':A.units + (D.deeps ds + 1) < cLine:=hu
  obtain⟨its,r1,t1,_⟩:=I.tuple qx
  obtain⟨jts,r2,t2,_⟩:=I.tuple qy
  have l1:=r1.length;have l2:=r2.length;have l3:=dx.length;have l4:=dy.length
  have sz:(its.toArray.size == jts.toArray.size)=true:=by rw[jI,jI,beq_iff_eq];omega
  have he:∀ j (h1:j < its.toArray.size) (h2:j < jts.toArray.size),SeqAt.EqAt A.in1 s its.toArray[j] jts.toArray[j] true:=fun j h1 h2=>by
   have q:=z5l I ds (A:=A.in1) dx dy r1 r2 (by rw[z3C];omega) j (by simpa using h1) (by simpa using h2)
   simpa using q
  have q1:=SeqAt.RcAt.tuples (A:=A) (e:=fun _=>true) t1 t2 (by omega) he
  have q2:=SeqAt.RcNeAt.tuples (A:=A) (e:=fun _=>true) t1 t2 (by omega) he
  rw[z4x,sz]at q1 q2
  exact⟨q1,q2⟩
 | lst ds =>
  obtain⟨a',xs,ex,qx,dx⟩:=hx
  cases ex
  obtain⟨b,ys,ey,qy,dy⟩:=hy
  subst ey;cases ry
  have hu':A.units + (D.deeps ds + 1) < cLine:=hu
  obtain⟨its,r1,t1,_⟩:=I.list qx
  obtain⟨jts,r2,t2,_⟩:=I.list qy
  have l1:=r1.length;have l2:=r2.length;have l3:=dx.length;have l4:=dy.length
  have sz:its.toArray.size=jts.toArray.size:=by rw[jI,jI];omega
  have he:∀ j (h1:j < its.toArray.size) (h2:j < jts.toArray.size),SeqAt.EqAt A.in1 s its.toArray[j] jts.toArray[j] true:=fun j h1 h2=>by
   have q:=z5l I ds (A:=A.in1) dx dy r1 r2 (by rw[z3C];omega) j (by simpa using h1) (by simpa using h2)
   simpa using q
  have q1:=SeqAt.RcAt.lists (A:=A) (e:=fun _=>true) t1.isList t2.isList sz (by omega) he
  have q2:=SeqAt.RcNeAt.lists (A:=A) (e:=fun _=>true) t1.isList t2.isList sz (by omega) he
  rw[z4x]at q1 q2
  exact⟨q1,q2⟩
theorem y7Z:OpR X (compareOp .Eq) (y9T X true):=by
 intro pins s σ H x y v u Q I rx ry h
 obtain⟨d,hx,hy,⟨a,rfl⟩,hu,q⟩:=h
 cases rx
 exact (y9Q I hx hy ry hu).1 _ _ _ _ ⟨.bl true,H,I,rfl,q⟩
theorem y7W:OpR X (compareOp .NotEq) (y9T X false):=by
 intro pins s σ H x y v u Q I rx ry h
 obtain⟨d,hx,hy,⟨a,rfl⟩,hu,q⟩:=h
 cases rx
 exact (y9Q I hx hy ry hu).2 _ _ _ _ ⟨.bl false,H,I,rfl,q⟩
end
mutual
def D.noL:D->Bool
 | .lst _=>false
 | .tup ds=>D.noLs ds
 | _=>true
def D.noLs:List D->Bool
 | []=>true
 | d :: ds=>d.noL && D.noLs ds
end
theorem SqT.updL{K:PySem.W.Frag}{H:Hp}{a b:Addr}{xs ys zs:List V}(e:H b=some (.lst ys))(h:SqT K H a xs):SqT K (upd H b (.lst zs)) a xs:=by
 rcases h with (h | ⟨o,h⟩) | h
 · exact .inl (.inl (by rw[z0k (y4f h e (fun z=>nomatch z))];exact h))
 · exact .inl (.inr ⟨o,by rw[z0k (y4f h e (fun z=>nomatch z))];exact h⟩)
 · exact .inr h
mutual
theorem IsD.updL{K:PySem.W.Frag}{H:Hp}{b:Addr}{ys zs:List V}(e:H b=some (.lst ys)):∀ {d:D}{x:V},d.noL=true->IsD K H d x->IsD K (upd H b (.lst zs)) d x
 | .non,_,_,h=>h
 | .bl _,_,_,h=>h
 | .int _,_,_,h=>h
 | .str _,_,_,h=>h
 | .tup _,_,n,⟨a,xs,h1,h2,h3⟩=>⟨a,xs,h1,h2.updL e,IsDs.updL e n h3⟩
 | .lst _,_,n,_=>nomatch n
theorem IsDs.updL{K:PySem.W.Frag}{H:Hp}{b:Addr}{ys zs:List V}(e:H b=some (.lst ys)):∀ {ds:List D}{xs:List V},D.noLs ds=true->IsDs K H ds xs->IsDs K (upd H b (.lst zs)) ds xs
 | [],_,_,h=>h
 | d :: ds,_,n,⟨x,r,h1,h2,h3⟩=>by
  have n':(d.noL && D.noLs ds)=true:=n
  rw[qJ]at n'
  exact⟨x,r,h1,IsD.updL e n'.1 h2,IsDs.updL e n'.2 h3⟩
end
theorem z3v:∀ {ds:List D},(∀ d∈ds,d.noL=true)->D.noLs ds=true
 | [],_=>rfl
 | d :: ds,h=>by
  show (d.noL && D.noLs ds)=true
  rw[h d (jv ..),z3v fun e he=>h e (jK _ he)];rfl
theorem z9J:∀ {ds:List D},D.noLs ds=true->∀ d∈ds,d.noL=true
 | d :: ds,h,e,he=>by
  have h':(d.noL && D.noLs ds)=true:=h
  rw[qJ]at h'
  rcases jQ.mp he with rfl | he
  · exact h'.1
  · exact z9J h'.2 e he
theorem z0e{H:Hp}{p:Addr}(h:H p=none)(o:HO):Same H (upd H p o):=fun b u q=>by rw[z0k (z0C q h)];exact q
theorem z0o{H H':Hp}{p:Addr}{o:HO}(h:H p=none)(e:Same H H'):Same H (upd H' p o):=fun b u q=>by rw[z0k (z0C q h)];exact e b u q
def z2O(ix:List Nat)(te:TE)(σ:St)(Q:VK):It->Hp->Prop:=fun J H1=>∀ D,H1 D=none->∃ W:Nat->Nat->Hp->Prop,(∃ m,W 0 m (upd H1 D (.lst []))) /\
 ∀ i m H,W i m H->(J.stop i H/\Q (.ref D) H)\/(J.go i H/\∀ x H',J.yld i H x H'->y7g (some x :: cap ix σ) H' fun b H2 =>
  if b=true then te (some x :: cap ix σ) H2 fun y H3=>∃ ys,H3 D=some (.lst ys)/\ys.length < sizeLine/\∃ m',m' < m/\W (i + 1) m' (upd H3 D (.lst (ys ++ [y]))) else ∃ m',m' < m/\W (i + 1) m' H2)
theorem nxt{D:Ends}{σ:St}{H:Hp}(h:D.nx σ H):y7t D σ H:=h
theorem y0O{ix:List Nat}{wi:TI}{te:TE}{σ:St}{H:Hp}{Q:VK}(h:wi σ H (z2O ix te σ Q)):z6c ix wi y7g te σ H Q:=h
theorem z8P{K:PySem.W.Frag}{J:It}{ix:List Nat}{te:TE}{σ:St}{H:Hp}{Q:VK}(n:Nat)(xs:Nat->V)(fs:List D)(hn:fs.length=n)(hz:n<=sizeLine)(hf:D.noLs fs=true)
 (hstop:∀ H',Same H H'->J.stop n H') (hgo:∀ i H',i < n->Same H H'->J.go i H'/\∀ x H'',J.yld i H' x H''->x=xs i/\H''=H')
 (step:∀ (i:Nat) (d:D) (H':Hp) (R:VK),i < n->fs[i]? = some d->Same H H'->(∀ y H'',Same H' H''->IsD K H'' d y->R y H'')->te (some (xs i) :: cap ix σ) H' R)
 (fin:∀ p H' ys,Same H H'->H' p=some (.lst ys)->IsDs K H' fs ys->Q (.ref p) H') :
 z2O ix te σ Q J H:=by
 intro Da hD
 refine⟨fun i m H'=>m=n - i/\i<=n/\Same H H'/\∃ ys,H' Da=some (.lst ys)/\IsDs K H' (fs.take i) ys,⟨n,by simp,jg _,z0e hD _,[],z0a,rfl⟩,?_⟩
 rintro i m H' ⟨rfl,hi,sm,ys,eD,dys⟩
 by_cases hlt:i < n
 · obtain⟨g,y⟩:=hgo i H' hlt sm
   refine .inr ⟨g,fun x H'' hy=>?_⟩
   obtain⟨rfl,rfl⟩:=y x H'' hy
   show te (some (xs i) :: cap ix σ) H'' _
   have hi':i < fs.length:=by omega
   refine step i fs[i] H'' _ hlt (jD hi') sm fun y H3 sm3 dy=>?_
   have e3:H3 Da=some (.lst ys):=sm3 _ _ eD
   have ly:=dys.length
   rw[jS]at ly
   refine⟨ys,e3,by omega,n - (i + 1),by omega,rfl,hlt,z0o hD (sm.trans sm3),ys ++ [y],z0a,?_⟩
   have nt:D.noLs (fs.take (i + 1))=true:=z3v fun d hd=>z9J hf d (kG hd)
   refine IsDs.updL e3 nt ?_
   rw[jw hi']
   exact (dys.same sm3).append ⟨y,[],rfl,dy,rfl⟩
 · have e:i=n:=by omega
   subst e
   have:fs.take i=fs:=kK (by omega)
   rw[this]at dys
   exact .inl ⟨hstop H' sm,fin Da H' ys sm eD dys⟩
theorem z5U{K:PySem.W.Frag}{a:Addr}{xs:List V}{ix:List Nat}{te:TE}{σ:St}{H:Hp}{Q:VK}(fs:List D)(hS:SqL K H a xs)(hn:fs.length=xs.length)(hz:xs.length<=sizeLine)(hf:D.noLs fs=true)
 (step:∀ (i:Nat) (x:V) (d:D) (H':Hp) (R:VK),xs[i]? = some x->fs[i]? = some d->Same H H'->(∀ y H'',Same H' H''->IsD K H'' d y->R y H'')->te (some x :: cap ix σ) H' R)
 (fin:∀ p H' ys,Same H H'->H' p=some (.lst ys)->IsDs K H' fs ys->Q (.ref p) H') :
 z2O ix te σ Q (Itl K a) H:=by
 refine z8P (K:=K) xs.length (fun i=>xs.getD i .non) fs hn hz hf (fun H' sm=>⟨xs,sm.seq hS,jE _⟩) (fun i H' hi sm=>⟨⟨xs,xs[i],sm.seq hS,jD hi⟩,fun x H'' hy=>?_⟩) (fun i d H' R hi hd sm hR=>?_) fin
 · obtain⟨e,y⟩:=hy
   refine⟨?_,e⟩
   have:=y xs (sm.seq hS)
   rw[jC,this];rfl
 · have e:xs[i]? = some (xs.getD i .non):=by rw[jC,jD hi];rfl
   exact step i _ d H' R e hd sm hR
theorem y3a{K:PySem.W.Frag}{a:Addr}{xs:List V}{ix:List Nat}{te:TE}{σ:St}{H:Hp}{Q:VK}(fs:List D)(hS:SqL K H a xs)(hn:fs.length=xs.length)(hz:xs.length<=sizeLine)(hf:D.noLs fs=true)
 (step:∀ (i:Nat) (x:V) (d:D) (H':Hp) (R:VK),xs[i]? = some x->fs[i]? = some d->Same H H'->(∀ y H'',Same H' H''->IsD K H'' d y->R y H'')->te (some x :: cap ix σ) H' R)
 (fin:∀ p H',Same H H'->IsD K H' (.lst fs) (.ref p)->Q (.ref p) H') :
 z2O ix te σ Q (Itl K a) H:=z5U fs hS hn hz hf step fun p H' ys sm hd hy=>fin p H' sm ⟨p,ys,rfl,.of hd,hy⟩
theorem y0N{K:PySem.W.Frag}{lo:Int}{n:Nat}{ix:List Nat}{te:TE}{σ:St}{H:Hp}{Q:VK}(fs:List D)(hn:fs.length=n)(hz:n<=sizeLine)(hf:D.noLs fs=true)
 (step:∀ (i:Nat) (d:D) (H':Hp) (R:VK),i < n->fs[i]? = some d->Same H H'->(∀ y H'',Same H' H''->IsD K H'' d y->R y H'')->te (some (.int (lo + i)) :: cap ix σ) H' R)
 (fin:∀ p H',Same H H'->IsD K H' (.lst fs) (.ref p)->Q (.ref p) H') :
 z2O ix te σ Q (Itr lo n) H:=by
 refine z8P (K:=K) n (fun i => .int (lo + i)) fs hn hz hf (fun H' sm=>jE _) (fun i H' hi sm=>⟨hi,fun x H'' hy=>⟨hy.2,hy.1⟩⟩) step fun p H' ys sm hd hy=>fin p H' sm ⟨p,ys,rfl,.of hd,hy⟩
theorem y4I{K:PySem.W.Frag}{a:Addr}{xs:List V}{ix:List Nat}{te:TE}{σ:St}{H:Hp}{Q:VK}(fs:List D)(hS:SqT K H a xs)(hn:fs.length=xs.length)(hz:xs.length<=sizeLine)(hf:D.noLs fs=true)
 (step:∀ (i:Nat) (x:V) (d:D) (H':Hp) (R:VK),xs[i]? = some x->fs[i]? = some d->Same H H'->(∀ y H'',Same H' H''->IsD K H'' d y->R y H'')->te (some x :: cap ix σ) H' R)
 (fin:∀ p H' ys,Same H H'->H' p=some (.lst ys)->IsDs K H' fs ys->Q (.ref p) H'):z2O ix te σ Q (Itt K a) H:=by
 refine z8P (K:=K) xs.length (fun i=>xs.getD i .non) fs hn hz hf (fun H' sm=>⟨xs,sm.tupq hS,jE _⟩) (fun i H' hi sm=>⟨⟨xs,xs[i],sm.tupq hS,jD hi⟩,fun x H'' hy=>?_⟩) (fun i d H' R hi hd sm hR=>?_) fin
 · obtain⟨e,y⟩:=hy
   refine⟨?_,e⟩
   have z:=y xs (sm.tupq hS)
   rw[jC,z];rfl
 · have e:xs[i]? = some (xs.getD i .non):=by rw[jC,jD hi];rfl
   exact step i _ d H' R e hd sm hR
theorem z1w{K:PySem.W.Frag}{H:Hp}:∀ {ns:List Int}{ys:List V},IsDs K H (ns.map D.int) ys->ys=ns.map V.int
 | [],_,h=>h
 | n :: ns,_,⟨x,r,h1,h2,h3⟩=>by
  have h2':x=V.int n:=h2
  rw[h1,h2',z1w (ns:=ns) h3];rfl
theorem z4v(ns:List Int):D.noLs (ns.map D.int)=true:=z3v fun d hd=>by
 obtain⟨n,_,rfl⟩:=jN.mp hd
 rfl
section
variable {X:Cx}
theorem z1x(K:PySem.W.Frag)(hK:X.K=K):CallR X (.builtin "len") (fun xs H Q=>∃ x n,xs=[x]/\y8T K x H n/\Q (.int n) H):=hK ▸ y4K
theorem z0i(K:PySem.W.Frag)(hK:X.K=K):IxR X (rIx K):=hK ▸ y8s
theorem z2n(K:PySem.W.Frag)(hK:X.K=K):SlR X (y7H K):=hK ▸ y5W
theorem y5U(K:PySem.W.Frag)(hK:X.K=K):SlR X (y9R K):=hK ▸ y7B
theorem z1b(K:PySem.W.Frag)(hK:X.K=K):OpR X (binaryOp .Add) (y7I K):=hK ▸ y2h
theorem y5k(K:PySem.W.Frag)(hK:X.K=K):OpR X (compareOp .In) (rIn K false):=hK ▸ y2d
theorem z7z(K:PySem.W.Frag)(hK:X.K=K):OpR X (compareOp .NotIn) (rIn K true):=hK ▸ z7y
theorem z2l(K:PySem.W.Frag)(hK:X.K=K):CallR X (.type "list") (fun xs H Q=>∃ p ys,xs=[.ref p]/\(SqL K H p ys\/SqT K H p ys)/\∀ l,H l=none->Q (.ref l) (upd H l (.lst ys))):=hK ▸ z7T
theorem z1m(K:PySem.W.Frag)(hK:X.K=K):CallR X (.type "tuple") (fun xs H Q=>∃ p ys,xs=[.ref p]/\((SqL K H p ys/\∀ l,H l=none->Q (.ref l) (upd H l (.tup ys)))\/(SqT K H p ys/\Q (.ref p) H))):=hK ▸ z6R
theorem z7U(K:PySem.W.Frag)(hK:X.K=K):CallR X (.builtin "isinstance") (fun xs H Q=>∃ x c t b,xs=[x,c]/\isC c=true/\TyD K H x t/\PySem.W.kitOne K t (y9F c)=some b/\Q (.bl b) H):=hK ▸ y4L
def y9S(K:PySem.W.Frag)(b:Bool):R2:=fun x y H Q=>∃ d,IsD K H d x/\IsD K H d y/\(∃ a,x = .ref a)/\d.deep<=60/\Q (.bl b) H
theorem z5J(K:PySem.W.Frag)(hK:X.K=K)(hu:X.A.units + 64 < cLine):OpR X (compareOp .Eq) (y9S K true):=by
 subst hK
 intro pins s σ H x y v u Q I rx ry h
 obtain⟨d,hx,hy,ha,hd,q⟩:=h
 exact y7Z pins s σ H x y v u Q I rx ry ⟨d,hx,hy,ha,by omega,q⟩
theorem y5j(K:PySem.W.Frag)(hK:X.K=K)(hu:X.A.units + 64 < cLine):OpR X (compareOp .NotEq) (y9S K false):=by
 subst hK
 intro pins s σ H x y v u Q I rx ry h
 obtain⟨d,hx,hy,ha,hd,q⟩:=h
 exact y7W pins s σ H x y v u Q I rx ry ⟨d,hx,hy,ha,by omega,q⟩
end
end L2
namespace L2
open PySem PySem.W PySem.Calls PyProof.Rows
theorem y2x{p q:Program}{loose:List Str}{Xt:Shared->Bool}{α:Type}{Yf:Shared->α}{Ya:World->α}{N:Nat}(e:opening p=plainProg p.main.scope.names)(hN:Nat.ble 600 N=true)(f:∀ s,fenceModules? p s=some s)
 (h:∀ (w:World) (os:OsState),(topRun treeTable p w 11 (some (.ref 6)) N ⟨boot_heap w.params,Array.mk [],boot_drawn,boot_toks,os⟩ (topStub p)).map (fun s =>
  ((staticsOk (importedModules p.main.body) (boot_heap w.params) s.heap && namesBound p s.heap && gensDone s && laidKept (boot_heap w.params) s.heap),openSeen q loose (importedModules p.main.body) Xt true s,Yf s))=some (true,openGood q loose,Ya w)):LeftO p q loose Xt Yf Ya N:=fun w=>by
 obtain⟨⟨hp,gs,d,k,os⟩,e1,e2⟩:=jh.mp (boot_open e hN f w)
 simp only[Prod.mk.injEq]at e2
 obtain⟨rfl,rfl,rfl,rfl⟩:=e2
 have size:((boot_heap w.params).isNs mainGlobals && (Array.mk ([]:List GenState)).size == 0)=true/\(boot_heap w.params).objs.size=11/\(boot_heap w.params).nsMap mainGlobals "__annotations__" = some (.ref 6):=⟨by kernel_rfl,by kernel_rfl,by kernel_rfl⟩
 obtain⟨z1,z2,z3⟩:=size
 obtain⟨s,r,l⟩:=jh.mp (h w os)
 simp only[Prod.mk.injEq]at l
 obtain⟨l1,l2,l3⟩:=l
 have t:topFrom treeTable p w N ⟨boot_heap w.params,Array.mk [],boot_drawn,boot_toks,os⟩=some s:=by
  unfold topFrom
  dsimp only
  rw[z1,z2,z3,r]
  show (match staticsOk (importedModules p.main.body) (boot_heap w.params) s.heap && namesBound p s.heap && gensDone s && laidKept (boot_heap w.params) s.heap with | true=>_ | false=>_)=_
  rw[l1]
 unfold openEnds
 rw[e1]
 show (topFrom treeTable p w N _).map _=_
 rw[t]
 exact congrArg some (Prod.ext l2 l3)
theorem y8S{β:Type}{l m:List β}{i n:Nat}(h1:(l.drop i).take n=(m.drop i).take n)(h2:l.drop (i + n)=m.drop (i + n)):l.drop i=m.drop i:=by
 rw[<- jq n (l.drop i),<- jq n (m.drop i),h1,qB,qB,h2]
end L2
namespace L2
open PySem PySem.Spec PyProof.Rows
section
variable {X:Cx}{tg:Expr}
end
section
variable {X:Cx}
end
section
variable {X:Cx}
end
section
variable {X:Cx}
theorem z7V:CallR X (.type "dict") (fun xs H Q=>∃ a kvs,xs=[V.ref a]/\H a=some (.dK kvs)/\∀ p,H p=none->Q (.ref p) (upd H p (.dK kvs))):=by
 intro pins s σ H xs us Q I r h
 obtain⟨a,kvs,rfl,ha,q⟩:=h
 obtain⟨u,rfl,ru⟩:=z3H r
 cases ru
 exact y4F I (.inl ha) fun p s' hp I'=>⟨.ref p,_,I',rfl,q p hp⟩
end
section
variable {X:Cx}
theorem y7Y(hu:X.A.units + 1 < cLine):OpR X (compareOp .In) (fun x y H Q=>∃ a o,y = .ref a/\DGet H a x o/\Q (.bl o.isSome) H):=by
 intro pins s σ H x y v u Q I rx ry h
 obtain⟨a,o,rfl,g,q⟩:=h
 cases ry
 exact x0l hu I g rx fun s' I'=>⟨.bl _,H,I',rfl,q⟩
end
def z3h(ix:List Nat)(tt:TT)(te:TE)(σ:St)(Q:VK):It->Hp->Prop:=fun J H1=>∀ D,H1 D=none->∃ W:Nat->Nat->Hp->Prop,(∃ m,W 0 m (upd H1 D (.lst []))) /\
 ∀ i m H,W i m H->(J.stop i H/\Q (.ref D) H)\/(J.go i H/\∀ x H',J.yld i H x H'->tt (some x :: cap ix σ) H' fun b H2 =>
  if b=true then te (some x :: cap ix σ) H2 fun y H3=>∃ ys,H3 D=some (.lst ys)/\ys.length < sizeLine/\∃ m',m' < m/\W (i + 1) m' (upd H3 D (.lst (ys ++ [y]))) else ∃ m',m' < m/\W (i + 1) m' H2)
theorem z8Q{ix:List Nat}{wi:TI}{tt:TT}{te:TE}{σ:St}{H:Hp}{Q:VK}(h:wi σ H (z3h ix tt te σ Q)):z6c ix wi tt te σ H Q:=h
theorem y3b{K:PySem.W.Frag}{a:Addr}{ns:List Str}{ix:List Nat}{tt:TT}{te:TE}{σ:St}{H:Hp}{Q:VK}(p:Str->Bool)(hS:SqL K H a (ns.map V.str))(hz:ns.length<=sizeLine)
 (test:∀ (n:Str) (H':Hp) (R:Bool->Hp->Prop),Same H H'->R (p n) H'->tt (some (.str n) :: cap ix σ) H' R)
 (step:∀ (n:Str) (H':Hp) (R:VK),R (.str n) H'->te (some (.str n) :: cap ix σ) H' R)
 (fin:∀ q H',H q=none->Same H H'->H' q=some (.lst ((ns.filter p).map V.str))->Q (.ref q) H'):z3h ix tt te σ Q (Itl K a) H:=by
 intro Da hD
 refine⟨fun i m H'=>m=ns.length - i/\i<=ns.length/\Same H H'/\H' Da=some (.lst (((ns.take i).filter p).map V.str)),⟨ns.length,by simp,jg _,z0e hD _,z0a⟩,?_⟩
 rintro i m H' ⟨rfl,hi,sm,eD⟩
 by_cases hlt:i < ns.length
 · refine .inr ⟨⟨ns.map V.str,.str ns[i],sm.seq hS,by rw[jF,jD hlt];rfl⟩,fun x H'' hy=>?_⟩
   obtain⟨e,y⟩:=hy
   subst e
   have hx:=y _ (sm.seq hS)
   rw[jF,jD hlt]at hx
   obtain rfl:x = .str ns[i]:=(Option.some.inj hx).symm
   have tk:ns.take (i + 1)=ns.take i ++ [ns[i]]:=jw hlt
   refine test ns[i] _ _ sm ?_
   cases hp:p ns[i] with
   | true =>
    dsimp only
    rw[if_pos rfl]
    refine step ns[i] _ _ ⟨_,eD,?_,ns.length - (i + 1),by omega,rfl,hlt,z0o hD sm,?_⟩
    · rw[jA]
      have:=kE p (ns.take i)
      rw[jS]at this
      omega
    · rw[z0a,tk,kL,jT]
      simp[hp]
   | false =>
    dsimp only
    rw[if_neg jR]
    refine⟨ns.length - (i + 1),by omega,rfl,hlt,sm,?_⟩
    rw[eD,tk,kL,jT]
    simp[hp]
 · have e:i=ns.length:=by omega
   subst e
   rw[jy]at eD
   exact .inl ⟨⟨_,sm.seq hS,by rw[jA];exact jE _⟩,fin Da H' hD sm eD⟩
theorem z5f(n:Str):∀ ns:List Str,inV (.str n) (ns.map V.str)=decide (n∈ns)
 | []=>rfl
 | m :: ns=>by
  have h:=z5f n ns
  unfold inV at h ⊢
  rw[jV,qQ,h]
  have e:eqV (.str m) (.str n)=decide (m=n):=by show (m == n)=_;exact Bool.beq_eq_decide_eq ..
  rw[e,Bool.eq_iff_iff]
  simp only[Bool.or_eq_true,decide_eq_true_eq,jQ]
  exact⟨fun h=>h.elim (fun h => .inl h.symm) .inr,fun h=>h.elim (fun h => .inl h.symm) .inr⟩
theorem z2j(ns:List Str):(ns.map V.str).all z5k=true:=by
 rw[List.all_eq_true]
 intro x hx
 obtain⟨n,_,rfl⟩:=jN.mp hx
 rfl
section
variable {X:Cx}{a b c d:Expr}{ta tb tc td:TE}{pos:Pos}{x1:_}
abbrev Pl(X:Cx)(e:Expr)(es:List Expr):Prop:=starEach (e :: es) X.env=(false,eval e X.env) :: starEach es X.env
theorem z0R(ha:PE X a ta)(hb:PE X b tb)(h1:Pl X a [b])(h2:Pl X b []):PE X (.Tuple [a,b] x1 pos) (y9a (z2w ta (z2w tb y0p))):=z3s (z0b ha (z0b hb z0f h2) h1)
theorem z4S:PE X (.List [] pos) (y5L y0p):=z3t z0f
theorem y1Y(ha:PE X a ta)(h1:Pl X a []):PE X (.List [a] pos) (y5L (z2w ta y0p)):=z3t (z0b ha z0f h1)
theorem z2o{X:Cx}{i:Nat}{x:Str}{e:Expr}{te:TE}{pos' pos:Pos}(hN:X.N.Nodup)(hi:X.N[i]? = some x)(hx:Loc X.env.scope x)(he:PE X e te)(hs:swapsWith e (some (.Name x pos')) pos.line X.env=pure false)(hf:X.fn x=true\/X.env.scope.names.lookup x=some .local) :
 PS X (.Assign [.Name x pos'] e pos) (y1m te (z0Y i)):=z0l hN hi hx he hs hf
end
section
variable {X:Cx}
theorem z5D:∀ {ss:List Str}{vs:List Value},Vals (ss.map V.str) vs->StrsAre vs ss
 | [],_,r=>by cases r;exact .nil
 | z :: ss,_,r=>by
  rw[jV]at r
  cases r with
  | cons h t =>
   obtain⟨tk,rfl⟩:=h
   exact .cons _ _ (z5D t)
end
end L2
namespace L2
open PySem PySem.W PyProof.Rows
section
variable {n:Nat}{lt:Nat->Nat->Bool}{cmp:Nat->Nat->(Bool->Shared->Prop)->Shared->Prop}{Pv:Shared->Prop}
structure SOrd (n:Nat) (lt:Nat->Nat->Bool):Prop where
 trans:∀ i j k,i < n->j < n->k < n->lt i j=true->lt j k=true->lt i k=true
 conn:∀ i j,i < n->j < n->i≠j->lt i j=false->lt j i=true
def y7j(n:Nat)(lt:Nat->Nat->Bool)(cmp:Nat->Nat->(Bool->Shared->Prop)->Shared->Prop)(Pv:Shared->Prop):Prop:=∀ i j C s,i < n->j < n->i≠j->Pv s->(∀ s',Pv s'->C (lt i j) s')->cmp i j C s
def SPm(n:Nat)(p:Array Nat):Prop:=p.Perm (List.toArray (List.range n))
theorem SPm.size{p:Array Nat}(h:SPm n p):p.size=n:=by
 have:=h.size_eq
 simpa using this
theorem SPm.at{p:Array Nat}(h:SPm n p){i:Nat}(hi:i < n):p[i]? = some (p.getD i 0):=by
 have hs:=h.size
 rw[jt (by omega)]
 simp[Array.getD,show i < p.size by omega]
theorem SPm.inn{p:Array Nat}(h:SPm n p){i:Nat}(hi:i < n):p.getD i 0 < n:=by
 have hs:=h.size
 have e:=h.at hi
 have hm:p.getD i 0∈p:=Array.mem_of_getElem? e
 have:=h.mem_iff.mp hm
 simpa using this
theorem SPm.ne{p:Array Nat}(h:SPm n p){i j:Nat}(hi:i < n)(hj:j < n)(hij:i≠j):p.getD i 0≠p.getD j 0:=fun e=>by
 have hs:=h.size
 have nd:p.toList.Nodup:=(show p.toList.Perm (List.range n) from (kR.mp h)).nodup_iff.mpr List.nodup_range
 have e1:=h.at hi
 have e2:=h.at hj
 rw[e]at e1
 rw[<- kN]at e1 e2
 obtain⟨a1,b1⟩:=jH.mp e1
 obtain⟨a2,b2⟩:=jH.mp e2
 exact hij ((qI nd).mp (b1.trans b2.symm))
theorem z6L{p q:Array Nat}{i j:Nat}(h:p[i]? = q[j]?):p.getD i 0=q.getD j 0:=by
 rw[Array.getD_eq_getD_getElem?,Array.getD_eq_getD_getElem?,h]
def Srt(lt:Nat->Nat->Bool)(p:Array Nat)(m:Nat):Prop:=∀ i j,i < j->j < m->lt (p.getD i 0) (p.getD j 0)=true
def Dsc(lt:Nat->Nat->Bool)(p:Array Nat)(m:Nat):Prop:=∀ i j,i < j->j < m->lt (p.getD j 0) (p.getD i 0)=true
theorem Srt.snoc{p:Array Nat}(O:SOrd n lt)(h:SPm n p){a:Nat}(ha:1<=a)(hn:a < n)(s:Srt lt p a)(e:lt (p.getD (a - 1) 0) (p.getD a 0)=true):Srt lt p (a + 1):=fun i j hij hj=>by
 by_cases hja:j < a
 · exact s i j hij hja
 · have ej:j=a:=by omega
   subst ej
   by_cases hi:i=j - 1
   · rw[hi];exact e
   · exact O.trans _ _ _ (h.inn (by omega)) (h.inn (by omega)) (h.inn hn) (s i (j - 1) (by omega) (by omega)) e
theorem Dsc.snoc{p:Array Nat}(O:SOrd n lt)(h:SPm n p){a:Nat}(ha:1<=a)(hn:a < n)(s:Dsc lt p a)(e:lt (p.getD a 0) (p.getD (a - 1) 0)=true):Dsc lt p (a + 1):=fun i j hij hj=>by
 by_cases hja:j < a
 · exact s i j hij hja
 · have ej:j=a:=by omega
   subst ej
   by_cases hi:i=j - 1
   · rw[hi];exact e
   · exact O.trans _ _ _ (h.inn hn) (h.inn (by omega)) (h.inn (by omega)) e (s i (j - 1) (by omega) (by omega))
theorem z3V(O:SOrd n lt)(hc:y7j n lt cmp Pv){p:Array Nat}(h:SPm n p):∀ (f a:Nat) (Q:Nat->Shared->Prop) (s:Shared),1<=a->a + f<=n->Srt lt p a->Pv s ->
 (∀ m s',Pv s'->a<=m->m<=a + f->Srt lt p m->(m < a + f->lt (p.getD m 0) (p.getD (m - 1) 0)=true)->Q m s')->(kas_asc p f a).kasWp cmp Q s
 | 0,a,Q,s,ha,hf,hs,hp,k=>k a s hp (jE _) (jE _) hs fun z=>absurd z (by omega)
 | f + 1,a,Q,s,ha,hf,hs,hp,k=>by
  refine hc _ _ _ s (h.inn (by omega)) (h.inn (by omega)) (h.ne (by omega) (by omega) (by omega)) hp fun s' hp'=>?_
  cases e:lt (p.getD a 0) (p.getD (a - 1) 0) with
  | true =>
   show KasT.kasWp cmp (if true=true then .ret a else kas_asc p f (a + 1)) Q s'
   rw[if_pos rfl]
   exact k a s' hp' (jE _) (by omega) hs fun _=>e
  | false =>
   show KasT.kasWp cmp (if false=true then .ret a else kas_asc p f (a + 1)) Q s'
   rw[if_neg (by decide)]
   have e':=O.conn _ _ (h.inn (by omega)) (h.inn (by omega)) (h.ne (by omega) (by omega) (by omega)) e
   refine z3V O hc h f (a + 1) Q s' (by omega) (by omega) (hs.snoc O h ha (by omega) e') hp' fun m s'' hp'' h1 h2 h3 h4=>?_
   exact k m s'' hp'' (by omega) (by omega) h3 fun z=>h4 (by omega)
theorem z5b(O:SOrd n lt)(hc:y7j n lt cmp Pv){p:Array Nat}(h:SPm n p):∀ (f a:Nat) (Q:Array Nat×Nat×Nat->Shared->Prop) (s:Shared),1<=a->a + f<=n->Dsc lt p a->Pv s ->
 (∀ m s',Pv s'->a<=m->m<=a + f->Dsc lt p m->Q (p,m,0) s')->(kas_desc f p a 0).kasWp cmp Q s
 | 0,a,Q,s,ha,hf,hs,hp,k=>k a s hp (jE _) (jE _) hs
 | f + 1,a,Q,s,ha,hf,hs,hp,k=>by
  refine hc _ _ _ s (h.inn (by omega)) (h.inn (by omega)) (h.ne (by omega) (by omega) (by omega)) hp fun s' hp'=>?_
  cases e:lt (p.getD a 0) (p.getD (a - 1) 0) with
  | true =>
   show KasT.kasWp cmp (kas_desc f p (a + 1) 0) Q s'
   refine z5b O hc h f (a + 1) Q s' (by omega) (by omega) (hs.snoc O h ha (by omega) e) hp' fun m s'' hp'' h1 h2 h3=>?_
   exact k m s'' hp'' (by omega) (by omega) h3
  | false =>
   have e':=O.conn _ _ (h.inn (by omega)) (h.inn (by omega)) (h.ne (by omega) (by omega) (by omega)) e
   refine hc _ _ _ s' (h.inn (by omega)) (h.inn (by omega)) (h.ne (by omega) (by omega) (by omega)) hp' fun s'' hp''=>?_
   rw[e']
   exact k a s'' hp'' (jE _) (by omega) hs
theorem z5M{p:Array Nat}(h:SPm n p)(i j:Nat):SPm n (kas_rev p i j):=(mirror_perm _ _ _ _).trans h
theorem z8I{p:Array Nat}(h:SPm n p){m:Nat}(hm:m<=n)(hd:Dsc lt p m):Srt lt (kas_rev p 0 m) m:=fun i j hij hj=>by
 have hs:=h.size
 have g:∀ k,k < m->(kas_rev p 0 m).getD k 0=p.getD (0 + m - 1 - k) 0:=fun k hk=>by
  have e:=getElem?_mirror_all (xs:=p) (i:=0) (j:=m) (by omega) k
  rw[if_pos ⟨jg _,hk⟩]at e
  exact z6L e
 rw[g i (by omega),g j hj]
 exact hd _ _ (by omega) (by omega)
theorem z7I(O:SOrd n lt)(hc:y7j n lt cmp Pv){p:Array Nat}(h:SPm n p)(h1:1<=n)(Q:Nat×Array Nat->Shared->Prop)(s:Shared)(hp:Pv s)
 (k:∀ m p' s',Pv s'->1<=m->m<=n->SPm n p'->Srt lt p' m->Q (m,p') s'):(kas_count n p).kasWp cmp Q s:=by
 unfold kas_count
 rw[KasT.kasWp_bind]
 refine z3V O hc h (n - 1) 1 _ s (jE _) (by omega) (fun i j hij hj=>absurd hij (by omega)) hp fun m s' hp' a1 a2 a3 a4=>?_
 by_cases e:m=n
 · rw[if_pos (by simpa using e)]
   exact k m p s' hp' a1 (by omega) h a3
 · rw[if_neg (by simpa using e)]
   by_cases g:m > 1
   · rw[if_pos g]
     refine hc _ _ _ s' (h.inn (by omega)) (h.inn (by omega)) (h.ne (by omega) (by omega) (by omega)) hp' fun s'' hp''=>?_
     rw[a3 0 (m - 1) (by omega) (by omega)]
     show KasT.kasWp cmp (if true=true then .ret (m,p) else _) Q s''
     rw[if_pos rfl]
     exact k m p s'' hp'' a1 (by omega) h a3
   · rw[if_neg g]
     have m1:m=1:=by omega
     subst m1
     have e1:=a4 (by omega)
     unfold kas_descPart
     rw[KasT.kasWp_bind]
     have d2:Dsc lt p (1 + 1):=Dsc.snoc O h (jE _) (by omega) (fun i j hij hj=>absurd hij (by omega)) e1
     refine z5b O hc h (n - (1 + 1)) (1 + 1) _ s' (by omega) (by omega) d2 hp' fun m s2 hp2 b1 b2 b3=>?_
     show KasT.kasWp cmp (if 0 > 0 then _ else kas_tail3 m n p) Q s2
     rw[if_neg (by decide)]
     unfold kas_tail3
     rw[KasT.kasWp_bind]
     refine z3V O hc (z5M h 0 m) (n - m) m _ s2 (by omega) (by omega) (z8I h (by omega) b3) hp2 fun m' s3 hp3 c1 c2 c3 _=>?_
     exact k m' _ s3 hp3 (by omega) (by omega) (z5M h 0 m) c3
theorem z2K(O:SOrd n lt)(hc:y7j n lt cmp Pv){p:Array Nat}(h:SPm n p){k:Nat}(hk:k < n)(hs:Srt lt p k):∀ (f l r:Nat) (Q:Nat->Shared->Prop) (s:Shared),l<=r->r<=k->r - l<=f->Pv s ->
 (∀ i,i < l->lt (p.getD i 0) (p.getD k 0)=true)->(∀ i,r<=i->i < k->lt (p.getD k 0) (p.getD i 0)=true) ->
 (∀ m s',Pv s'->m<=k->(∀ i,i < m->lt (p.getD i 0) (p.getD k 0)=true)->(∀ i,m<=i->i < k->lt (p.getD k 0) (p.getD i 0)=true)->Q m s')->(kas_place p k f l r).kasWp cmp Q s
 | 0,l,r,Q,s,h1,h2,h3,hp,a,b,c=>c l s hp (by omega) a fun i hi=>b i (by omega)
 | f + 1,l,r,Q,s,h1,h2,h3,hp,a,b,c=>by
  unfold kas_place
  by_cases g:l ≥ r
  · rw[if_pos g]
    exact c l s hp (by omega) a fun i hi=>b i (by omega)
  · rw[if_neg g]
    refine hc _ _ _ s (h.inn hk) (h.inn (by omega)) (h.ne hk (by omega) (by omega)) hp fun s' hp'=>?_
    cases e:lt (p.getD k 0) (p.getD ((l + r) / 2) 0) with
    | true =>
     show KasT.kasWp cmp (if true=true then kas_place p k f l ((l + r) / 2) else _) Q s'
     rw[if_pos rfl]
     refine z2K O hc h hk hs f l ((l + r) / 2) Q s' (by omega) (by omega) (by omega) hp' a (fun i hi hik=>?_) c
     by_cases z:i=(l + r) / 2
     · rw[z];exact e
     · exact O.trans _ _ _ (h.inn hk) (h.inn (by omega)) (h.inn (by omega)) e (hs _ _ (by omega) hik)
    | false =>
     show KasT.kasWp cmp (if false=true then _ else kas_place p k f ((l + r) / 2 + 1) r) Q s'
     rw[if_neg (by decide)]
     have e':=O.conn _ _ (h.inn hk) (h.inn (by omega)) (h.ne hk (by omega) (by omega)) e
     refine z2K O hc h hk hs f ((l + r) / 2 + 1) r Q s' (by omega) (by omega) (by omega) hp' (fun i hi=>?_) b c
     by_cases z:i=(l + r) / 2
     · rw[z];exact e'
     · exact O.trans _ _ _ (h.inn (by omega)) (h.inn (by omega)) (h.inn hk) (hs i ((l + r) / 2) (by omega) (by omega)) e'
theorem y0Q{p:Array Nat}(h:SPm n p){k l:Nat}(hk:k < n)(hl:l<=k)(hs:Srt lt p k)(a:∀ i,i < l->lt (p.getD i 0) (p.getD k 0)=true)(b:∀ i,l<=i->i < k->lt (p.getD k 0) (p.getD i 0)=true):Srt lt (bubble p k (k - l)) (k + 1):=by
 have hz:=h.size
 have g:∀ i,(bubble p k (k - l)).getD i 0=if i=l then p.getD k 0 else if l < i/\i<=k then p.getD (i - 1) 0 else p.getD i 0:=fun i=>by
  have e:=getElem?_bubble (xs:=p) (src:=k) (by omega) (k - l) (by omega) i
  have el:k - (k - l)=l:=by omega
  rw[el]at e
  by_cases h1:i=l
  · rw[if_pos h1]at e ⊢;exact z6L e
  · rw[if_neg h1]at e ⊢
    by_cases h2:l < i/\i<=k
    · rw[if_pos h2]at e ⊢;exact z6L e
    · rw[if_neg h2]at e ⊢;exact z6L e
 intro i j hij hj
 rw[g i,g j]
 by_cases i1:i=l
 · rw[if_pos i1,if_neg (by omega),if_pos (by omega)]
   exact b _ (by omega) (by omega)
 · rw[if_neg i1]
   by_cases i2:l < i/\i<=k
   · rw[if_pos i2,if_neg (by omega),if_pos (by omega)]
     exact hs _ _ (by omega) (by omega)
   · rw[if_neg i2]
     by_cases j1:j=l
     · rw[if_pos j1];exact a i (by omega)
     · rw[if_neg j1]
       by_cases j2:l < j/\j<=k
       · rw[if_pos j2]
         exact hs i (j - 1) (by omega) (by omega)
       · rw[if_neg j2];exact hs i j hij (by omega)
theorem z5N(O:SOrd n lt)(hc:y7j n lt cmp Pv):∀ (f k:Nat) (p:Array Nat) (Q:Array Nat->Shared->Prop) (s:Shared),SPm n p->1<=k->k + f=n->Srt lt p k->Pv s ->
 (∀ p' s',Pv s'->SPm n p'->Srt lt p' n->Q p' s')->(kas_bin f p k).kasWp cmp Q s
 | 0,k,p,Q,s,h,h1,h2,hs,hp,c=>c p s hp h (by rw[<- h2];exact hs)
 | f + 1,k,p,Q,s,h,h1,h2,hs,hp,c=>by
  unfold kas_bin
  rw[KasT.kasWp_bind]
  refine z2K O hc h (k:=k) (by omega) hs k 0 k _ s (jg _) (jE _) (by omega) hp (fun i hi=>absurd hi (by omega)) (fun i hi hk=>absurd hi (by omega)) fun m s' hp' m1 m2 m3=>?_
  exact z5N O hc f (k + 1) _ Q s' ((bubble_perm _ _ _).trans h) (by omega) (by omega) (y0Q h (by omega) m1 hs m2 m3) hp' c
theorem z8H(O:SOrd n lt)(hc:y7j n lt cmp Pv)(h1:1<=n)(Q:Array Nat->Shared->Prop)(s:Shared)(hp:Pv s)(k:∀ p s',Pv s'->SPm n p->Srt lt p n->Q p s'):(kas_sort n).kasWp cmp Q s:=by
 unfold kas_sort
 rw[KasT.kasWp_bind]
 refine z7I O hc (.refl _) h1 _ s hp fun m p' s' hp' m1 m2 pm sr=>?_
 by_cases g:m < n
 · rw[if_pos g]
   have e:max m 1=m:=by omega
   show KasT.kasWp cmp (kas_bin (n - max m 1) p' (max m 1)) Q s'
   rw[e]
   exact z5N O hc (n - m) m p' Q s' pm m1 (by omega) sr hp' k
 · rw[if_neg g]
   have e:m=n:=by omega
   subst e
   exact k p' s' hp' pm sr
end
end L2
namespace L2
open PySem PySem.W PySem.Calls PyProof.Rows
section
variable {prog:Program}{w:World}{A:Around}{E:Value->Shared->Prop}{s:Shared}
def y3x(a:Addr)(h g:Heap):Prop:=∀ b o,b≠a->h.get? b=some o->g.get? b=some o
def z1v(vs:List Value)(p:Array Nat):List Value:=p.toList.map fun i=>vs.getD i Value.none
theorem y0E{a:Addr}{vs:List Value}{c0:Nat}{Z:PySem.Fin->Shared->Prop}{κ:SortKind}{lt:Nat->Nat->Bool}(at_:s.heap.get? a=some (seqObj "list" vs.toArray c0))(two:2<=vs.length)(few:vs.length < 64)(O:SOrd vs.length lt)
 (kind:∀ g,y3x a s.heap g->∀ R:SortKind->Shared->Prop,R κ { s with heap:=g }->wpAny (model prog w) A (keyKind' vs.toArray) R (fun _ _=>False) { s with heap:=g })
 (less:∀ g,y3x a s.heap g->∀ i j (C:Bool->Shared->Prop),i < vs.length->j < vs.length->i≠j->C (lt i j) { s with heap:=g }->wpAny (model prog w) A (keyLt' κ (vs.getD i Value.none) (vs.getD j Value.none)) C (fun _ _=>False) { s with heap:=g })
 (fin:∀ (p:Array Nat) g c,SPm vs.length p->Srt lt p vs.length->y3x a s.heap g->g.get? a=some (seqObj "list" (z1v vs p).toArray c)->Z (.done (.ret .none)) { s with heap:=g }) :
 wpAny (model prog w) A (Builtin.«list.sort» ⟨[.ref a],[]⟩) Z E s:=by
 have up:=Heap.SameBut.update s.heap a (Obj.mapSeq fun _=>(#[]:Array Value))
 obtain⟨c1,at1⟩:∃ c,(s.heap.update a (Obj.mapSeq fun _=>(#[]:Array Value))).get? a=some (seqObj "list" #[] c):=⟨_,get?_update_seq at_ fun _=>#[]⟩
 obtain⟨g,eg⟩:∃ g,g=((s.heap.update a (Obj.mapSeq fun _=>(#[]:Array Value))).push (seqObj "tuple" vs.toArray 0)).push (seqObj "list" #[] 0):=⟨_,rfl⟩
 have gx:y3x a s.heap g:=fun b o hb e=>by
  rw[eg]
  exact jB _ (jB _ ((up.2 b hb).trans e))
 have ga:g.get? a=some (seqObj "list" #[] c1):=by
  rw[eg]
  exact jB _ (jB _ at1)
 rw[list_sort_plain]
 refine wpAny_bind (listItems_at at_ rfl ?_)
 refine wpAny_bind (listUpdate_at at_ rfl ?_ (by rw[jI,sizeLine_eq];omega) (jg _))
 refine wpAny_bind (seqEpoch_at at1 rfl ?_)
 refine wpAny_bind (wpAny_newTuple ?_ (by show vs.length<=sizeLine;rw[sizeLine_eq];omega))
 refine wpAny_bind (wpAny_newList ?_ (jg _))
 refine wpAny_holding ?_
 show wpAny (model prog w) A _ Z E { s with heap:=((s.heap.update a (Obj.mapSeq fun _=>(#[]:Array Value))).push (seqObj "tuple" vs.toArray 0)).push (seqObj "list" #[] 0) }
 rw[<- eg]
 dsimp only
 have nt:¬ vs.toArray.size < 2:=by rw[jI];omega
 rw[if_neg nt,if_neg nt]
 refine wpAny_bind (wpAny_mono (kind g gx (fun k s0=>k=κ/\s0={ s with heap:=g }) ⟨rfl,rfl⟩) (fun k s0 hk=>?_) fun _ _ x=>x.elim)
 obtain⟨rfl,rfl⟩:=hk
 have tree:(kas_sort vs.length).kasWp (kas_ask prog w A k vs) (fun p s2=>s2={ s with heap:=g }/\SPm vs.length p/\Srt lt p vs.length) { s with heap:=g }:=by
  refine z8H (Pv:=fun s2=>s2={ s with heap:=g }) O (fun i j C s2 hi hj hij h2 hC=>?_) (by omega) _ _ rfl fun p s2 h2 pm sr=>⟨h2,pm,sr⟩
  subst h2
  exact less g gx i j C hi hj hij (hC _ rfl)
 refine wpAny_bind (wpAny_mono (kat_run (Q:=fun st s2=>∃ p:Array Nat,p.size=vs.length/\arrOf st=p.map (kas_item (vs.toArray.zip vs.toArray))/\failedOf st=none/\s2={ s with heap:=g }/\SPm vs.length p/\Srt lt p vs.length)
  rfl two few (fun p st s2 b1 b2 b3 b4=>⟨p,b1,b2,b3,b4⟩) tree) ?_ fun _ _ e=>e)
 rintro⟨⟨⟩,st⟩ s2 ⟨p,hp,har,hf,rfl,pm,sr⟩
 dsimp only
 have eo:=kat_snds rfl har
 have zo:(z1v vs p).toArray.size=vs.length:=by unfold z1v;rw[jI,jA,jX,hp]
 rw[eo]
 have up2:=Heap.SameBut.update g a (Obj.mapSeq fun _=>(z1v vs p).toArray)
 obtain⟨c2,at2⟩:∃ c,(g.update a (Obj.mapSeq fun _=>(z1v vs p).toArray)).get? a=some (seqObj "list" (z1v vs p).toArray c):=⟨_,get?_update_seq ga fun _=>(z1v vs p).toArray⟩
 refine wpAny_bind (seqEpoch_at ga rfl ?_)
 refine wpAny_bind (listUpdate_at ga rfl ?_ (jg _) (by show (z1v vs p).toArray.size<=_;rw[zo,sizeLine_eq];omega))
 rw[hf]
 simp only[bne_self_eq_false,kT,if_false]
 exact wpAny_pure (fin p _ c2 pm sr (fun b o hb e=>(up2.2 b hb).trans (gx b o hb e)) at2)
theorem z4U(vs:List Value):z1v vs (List.toArray (List.range vs.length))=vs:=by
 unfold z1v
 refine qK (by simp) fun i h1 h2=>?_
 simp[List.getD,h2]
theorem z4Z{a:Addr}{vs:List Value}{c0:Nat}{Z:PySem.Fin->Shared->Prop}(at_:s.heap.get? a=some (seqObj "list" vs.toArray c0))(wee:vs.length < 2)
 (fin:∀ g c,y3x a s.heap g->g.get? a=some (seqObj "list" vs.toArray c)->Z (.done (.ret .none)) { s with heap:=g }) :
 wpAny (model prog w) A (Builtin.«list.sort» ⟨[.ref a],[]⟩) Z E s:=by
 have up:=Heap.SameBut.update s.heap a (Obj.mapSeq fun _=>(#[]:Array Value))
 obtain⟨c1,at1⟩:∃ c,(s.heap.update a (Obj.mapSeq fun _=>(#[]:Array Value))).get? a=some (seqObj "list" #[] c):=⟨_,get?_update_seq at_ fun _=>#[]⟩
 obtain⟨g,eg⟩:∃ g,g=((s.heap.update a (Obj.mapSeq fun _=>(#[]:Array Value))).push (seqObj "tuple" vs.toArray 0)).push (seqObj "list" #[] 0):=⟨_,rfl⟩
 have gx:y3x a s.heap g:=fun b o hb e=>by
  rw[eg]
  exact jB _ (jB _ ((up.2 b hb).trans e))
 have ga:g.get? a=some (seqObj "list" #[] c1):=by
  rw[eg]
  exact jB _ (jB _ at1)
 rw[list_sort_plain]
 refine wpAny_bind (listItems_at at_ rfl ?_)
 refine wpAny_bind (listUpdate_at at_ rfl ?_ (by rw[jI,sizeLine_eq];omega) (jg _))
 refine wpAny_bind (seqEpoch_at at1 rfl ?_)
 refine wpAny_bind (wpAny_newTuple ?_ (by show vs.length<=sizeLine;rw[sizeLine_eq];omega))
 refine wpAny_bind (wpAny_newList ?_ (jg _))
 refine wpAny_holding ?_
 show wpAny (model prog w) A _ Z E { s with heap:=((s.heap.update a (Obj.mapSeq fun _=>(#[]:Array Value))).push (seqObj "tuple" vs.toArray 0)).push (seqObj "list" #[] 0) }
 rw[<- eg]
 dsimp only
 have yes:vs.toArray.size < 2:=by rw[jI];omega
 rw[if_pos yes,if_pos yes]
 refine wpAny_bind (wpAny_pure (wpAny_bind (wpAny_pure ?_)))
 dsimp only
 have eo:(arrOf (SortSt.mk' general' (vs.toArray.zip vs.toArray) #[] 7 none)).map (·.2)=vs.toArray:=by
  show (vs.toArray.zip vs.toArray).map (·.2)=vs.toArray
  apply Array.toList_inj.mp
  rw[Array.toList_map,Array.toList_zip]
  exact List.map_snd_zip (jE _)
 rw[eo]
 have up2:=Heap.SameBut.update g a (Obj.mapSeq fun _=>vs.toArray)
 obtain⟨c2,at2⟩:∃ c,(g.update a (Obj.mapSeq fun _=>vs.toArray)).get? a=some (seqObj "list" vs.toArray c):=⟨_,get?_update_seq ga fun _=>vs.toArray⟩
 refine wpAny_bind (seqEpoch_at ga rfl ?_)
 refine wpAny_bind (listUpdate_at ga rfl ?_ (jg _) (by show vs.toArray.size<=_;rw[jI,sizeLine_eq];omega))
 simp only[bne_self_eq_false,kT,if_false]
 exact wpAny_pure (fin _ c2 (fun b o hb e=>(up2.2 b hb).trans (gx b o hb e)) at2)
theorem z8l{x:Value}{Q:Value->Shared->Prop}{C:List Value->Shared->Prop}(col:∀ (E':Value->Shared->Prop) (R:List Value->Shared->Prop),(∀ vs s1,C vs s1->R vs s1)->wpAny (model prog w) A.in1 (collect x) R E' s)
 (few:∀ vs s1,C vs s1->vs.length < 64) (κ:SortKind) (lt:List Value->Shared->Nat->Nat->Bool) (O:∀ vs s1,C vs s1->SOrd vs.length (lt vs s1))
 (kind:∀ vs s1,C vs s1->2<=vs.length->∀ g,(∀ b o,s1.heap.get? b=some o->g.get? b=some o)->∀ R:SortKind->Shared->Prop,R κ { s1 with heap:=g }->wpAny (model prog w) A.in1.in1 (keyKind' vs.toArray) R (fun _ _=>False) { s1 with heap:=g })
 (less:∀ vs s1,C vs s1->∀ g,(∀ b o,s1.heap.get? b=some o->g.get? b=some o)->∀ i j (Z:Bool->Shared->Prop),i < vs.length->j < vs.length->i≠j->Z (lt vs s1 i j) { s1 with heap:=g }->wpAny (model prog w) A.in1.in1 (keyLt' κ (vs.getD i Value.none) (vs.getD j Value.none)) Z (fun _ _=>False) { s1 with heap:=g })
 (fin:∀ vs s1,C vs s1->∀ (p:Array Nat) g c,SPm vs.length p->Srt (lt vs s1) p vs.length->(∀ b o,s1.heap.get? b=some o->g.get? b=some o)->g.get? s1.heap.objs.size=some (seqObj "list" (z1v vs p).toArray c)->Q (.ref s1.heap.objs.size) { s1 with heap:=g }) :
 wpAny (model prog w) A (call (.builtin "sorted") [x]) Q E s:=by
 refine Calls.call_function_entry kind_sorted plain_sorted entry_sorted (args_sorted1 _) ?_
 unfold Builtin.«sorted»
 refine wpAny_bind (m:=checkCount "sorted" 1 1 _) (wpAny_pure ?_)
 refine wpAny_bind (col _ _ fun vs s1 hC=>?_)
 have fw:=few vs s1 hC
 refine wpAny_bind (wpAny_newList ?_ (by rw[sizeLine_eq];omega))
 have at0:(s1.heap.push (seqObj "list" vs.toArray 0)).get? s1.heap.objs.size=some (seqObj "list" vs.toArray 0):=jO _ rfl
 have kp:∀ b o,s1.heap.get? b=some o->(s1.heap.push (seqObj "list" vs.toArray 0)).get? b=some o:=fun b o q=>jB _ q
 have far:∀ b o,s1.heap.get? b=some o->b≠s1.heap.objs.size:=fun b o q=>jU (jJ q)
 show wpAny _ _ _ _ _ { s1 with heap:=s1.heap.push (seqObj "list" vs.toArray 0) }
 refine wpAny_bind (wpAny_holding (wpAny_call_entry slot_list_sort ⟨_,at0,rfl⟩ entry_list_sort ?_ (args_list_sort _)))
 by_cases two:2<=vs.length
 · refine y0E (κ:=κ) (lt:=lt vs s1) (s:={ s1 with heap:=s1.heap.push (seqObj "list" vs.toArray 0) }) at0 two fw (O vs s1 hC) (fun g hx R hR=>?_) (fun g hx i j Z hi hj hij hZ=>?_) (fun p g c pm sr hx hg=>?_)
   · exact kind vs s1 hC two g (fun b o q=>hx b o (far b o q) (kp b o q)) R hR
   · exact less vs s1 hC g (fun b o q=>hx b o (far b o q) (kp b o q)) i j Z hi hj hij hZ
   · exact⟨_,rfl,wpAny_pure ⟨_,rfl,fin vs s1 hC p g c pm sr (fun b o q=>hx b o (far b o q) (kp b o q)) hg⟩⟩
 · refine z4Z (s:={ s1 with heap:=s1.heap.push (seqObj "list" vs.toArray 0) }) at0 (by omega) fun g c hx hg=>?_
   exact⟨_,rfl,wpAny_pure ⟨_,rfl,fin vs s1 hC (List.toArray (List.range vs.length)) g c (.refl _) (fun i j h1 h2=>absurd h1 (by omega)) (fun b o q=>hx b o (far b o q) (kp b o q)) (by rw[z4U];exact hg)⟩⟩
end
def im(f:Nat->Keyed)(l:List Nat):Array Keyed:=(l.map f).toArray
theorem z0n(f:Nat->Keyed)(l:List Nat):(im f l).size=l.length:=by simp[im]
theorem y8x(f:Nat->Keyed)(l:List Nat)(i:Nat):(im f l)[i]? = l[i]?.map f:=by simp[im]
theorem z5g(f:Nat->Keyed)(l:List Nat)(x:Nat):(im f l).push (f x)=im f (l ++ [x]):=by simp[im]
theorem z5R(f:Nat->Keyed)(l m:List Nat):im f l ++ im f m=im f (l ++ m):=by simp[im]
theorem z4j(f:Nat->Keyed)(l:List Nat)(i j:Nat):(im f l).extract i j=im f ((l.drop i).take (j - i)):=by simp[im,List.extract_eq_take_drop]
theorem y5r(f:Nat->Keyed)(l:List Nat):(im f l).reverse=im f l.reverse:=by simp[im]
def z5j:Bool->Keyed->Array Keyed->Nat->Nat->Nat->StateT SortSt Sem (Option Nat):=sortPriv% PySem.Builtin.gallop
def z8T(left:Bool)(key:Keyed)(arr:Array Keyed)(base i:Nat):StateT SortSt Sem (Option Bool) :=
 elem' arr (base + i) >>= fun x=>if left=true then lt' x key else lt' key x >>= fun o=>pure (o.map fun b => !b)
structure TC (prog:Program) (w:World) (A:Around) (s:Shared) (κ:SortKind) (n:Nat) (lt:Nat->Nat->Bool) (f:Nat->Keyed):Prop where
 O:SOrd n lt
 irr:∀ i,i < n->lt i i=false
 cm:∀ i j,i < n->j < n->i≠j->∀ (C:Bool->Shared->Prop),C (lt i j) s->wpAny (model prog w) A (keyLt' κ (f i).1 (f j).1) C (fun _ _=>False) s
section
variable {prog:Program}{w:World}{A:Around}{E:Value->Shared->Prop}{s:Shared}{κ:SortKind}{n:Nat}{lt:Nat->Nat->Bool}{f:Nat->Keyed}
theorem y7s(T:TC prog w A s κ n lt f){st:SortSt}(hk:kindOf st=κ){i j:Nat}(hi:i < n)(hj:j < n)(hij:i≠j){Q:Option Bool->SortSt->Prop}(h:Q (some (lt i j)) st):wpS (model prog w) A E s (lt' (f i) (f j)) Q st:=by
 rw[lt'_eq]
 refine wpS_bind (wpS_get ?_)
 rw[hk]
 refine wpS_bind (wpS_lift (wpAny_attempt (wpAny_mono (T.cm i j hi hj hij (fun b s'=>s'=s/\b=lt i j) ⟨rfl,rfl⟩) (fun b s' hb=>?_) fun _ _ hF=>hF.elim)))
 obtain⟨rfl,rfl⟩:=hb
 exact⟨rfl,wpS_pure h⟩
theorem z0O{l:List Nat}{i x:Nat}(h:l[i]? = some x){st:SortSt}{Q:Keyed->SortSt->Prop}(q:Q (f x) st):wpS (model prog w) A E s (elem' (im f l) i) Q st:=by
 rw[elem'_eq,y8x,h]
 exact wpS_pure q
theorem SOrd.flip(O:SOrd n lt)(irr:∀ i,i < n->lt i i=false){i j:Nat}(hi:i < n)(hj:j < n)(hij:i≠j):(!lt j i)=lt i j:=by
 cases h:lt i j with
 | true =>
  cases h':lt j i with
  | false=>rfl
  | true=>have:=O.trans i j i hi hj hi h h';rw[irr i hi]at this;cases this
 | false=>rw[O.conn i j hi hj hij h];rfl
theorem y3G(T:TC prog w A s κ n lt f){st:SortSt}(hk:kindOf st=κ){left:Bool}{l:List Nat}{base i x k:Nat}(e:l[base + i]? = some x)(hx:x < n)(hkn:k < n)(hxk:x≠k){Q:Option Bool->SortSt->Prop}(h:Q (some (lt x k)) st) :
 wpS (model prog w) A E s (z8T left (f k) (im f l) base i) Q st:=by
 unfold z8T
 refine wpS_bind (z0O e ?_)
 cases left with
 | true =>
  rw[if_pos rfl]
  exact y7s T hk hx hkn hxk h
 | false =>
  rw[if_neg (by decide)]
  refine wpS_bind (y7s T hk hkn hx hxk.symm (wpS_pure ?_))
  show Q (some (!lt k x)) st
  rw[T.O.flip T.irr hx hkn hxk]
  exact h
theorem z2P(T:TC prog w A s κ n lt f){st:SortSt}(hk:kindOf st=κ){left:Bool}{l:List Nat}{base m hint k:Nat}{B:Nat->Bool}(hh:hint < m)(hb:∀ i,i < m->∃ x,l[base + i]? = some x/\x < n/\x≠k/\B i=lt x k)(hkn:k < n)(mono:∀ i j,i < j->j < m->B j=true->B i=true){Q:Option Nat->SortSt->Prop}
 (h:∀ r,r<=m->(∀ i,i < r->B i=true)->(∀ i,r<=i->i < m->B i=false)->Q (some r) st):wpS (model prog w) A E s (z5j left (f k) (im f l) base m hint) Q st:=by
 have by_:∀ {i:Nat}{Q:Option Bool->SortSt->Prop},i < m->Q (some (B i)) st->wpS (model prog w) A E s (z8T left (f k) (im f l) base i) Q st:=fun {i Q} hi q=>by
  obtain⟨x,e,h1,h2,h3⟩:=hb i hi
  exact y3G T hk e h1 hkn h2 (h3 ▸ q)
 have up:∀ {i:Nat},B i=true->i < m->∀ j,j<=i->B j=true:=fun {i} e hi j hj=>by
  rcases Nat.lt_or_ge j i with z | z
  · exact mono j i z hi e
  · rw[show j=i by omega];exact e
 have dn:∀ {i:Nat},B i=false->∀ j,i<=j->j < m->B j=false:=fun {i} e j hj hm=>by
  cases z:B j with
  | false=>rfl
  | true=>rw[up z hm i hj]at e;cases e
 have bin:∀ lo hi,lo<=hi->hi<=m->(∀ i,i < lo->B i=true)->(∀ i,hi<=i->i < m->B i=false)->∀ (b:Nat->Option (Option Nat)×Nat×Nat->StateT SortSt Sem (ForInStep (Option (Option Nat)×Nat×Nat))) (c:Option (Option Nat)×Nat×Nat->StateT SortSt Sem (Option Nat)),
  (∀ x lo hi (R:ForInStep (Option (Option Nat)×Nat×Nat)->SortSt->Prop),hi<=m->(lo ≥ hi->R (.done (none,lo,hi)) st)->(lo < hi->R (.yield (if B (lo + (hi - lo) / 2)=true then (none,lo + (hi - lo) / 2 + 1,hi) else (none,lo,lo + (hi - lo) / 2))) st)->wpS (model prog w) A E s (b x (none,lo,hi)) R st) ->
  (∀ hi,Q (some hi) st->wpS (model prog w) A E s (c (none,hi,hi)) Q st)->wpS (model prog w) A E s (forIn [0:m] ((none,lo,hi):Option (Option Nat)×Nat×Nat) b >>= c) Q st:=fun lo hi h1 h2 h3 h4 b c hb hc=>by
  refine wpS_bind (wpS_mono (wpS_forRange (I:=fun x c st'=>st'=st/\∃ lo hi,c=(none,lo,hi)/\lo<=hi/\hi<=m/\hi - lo<=m - x/\(∀ i,i < lo->B i=true)/\(∀ i,hi<=i->i < m->B i=false)) (Q:=fun c st'=>st'=st/\∃ hi,c=(none,hi,hi)/\hi<=m/\(∀ i,i < hi->B i=true)/\(∀ i,hi<=i->i < m->B i=false)) ?_ ?_ ⟨rfl,lo,hi,rfl,h1,h2,by omega,h3,h4⟩) ?_)
  · rintro x c st' _ hx ⟨rfl,lo,hi,rfl,h1,h2,h0,h3,h4⟩
    refine hb x lo hi _ h2 (fun g=>?_) fun g=>?_
    · have:lo=hi:=by omega
      subst this
      exact⟨rfl,lo,rfl,h2,h3,h4⟩
    · cases hm:B (lo + (hi - lo) / 2) with
      | true =>
       rw[if_pos rfl]
       exact⟨rfl,_,hi,rfl,by omega,h2,by omega,fun i hi'=>up hm (by omega) i (by omega),h4⟩
      | false =>
       rw[if_neg (by decide)]
       exact⟨rfl,lo,_,rfl,by omega,by omega,by omega,h3,fun i hi'=>dn hm i (by omega)⟩
  · rintro c st' ⟨rfl,lo,hi,rfl,h1,h2,h0,h3,h4⟩
    have:lo=hi:=by omega
    subst this
    exact⟨rfl,lo,rfl,h2,h3,h4⟩
  · rintro c st' ⟨rfl,hi,rfl,h2,h3,h4⟩
    exact hc hi (h hi h2 h3 h4)
 refine wpS_bind (by_ hh ?_)
 dsimp only
 cases hB:B hint with
 | true =>
  rw[if_pos rfl]
  refine wpS_bind (wpS_mono (wpS_forRange (I:=fun x c st'=>st'=st/\∃ la ofs,c=(none,la,ofs)/\x + 1<=ofs/\la < ofs/\hint + la < m/\B (hint + la)=true) (Q:=fun c st'=>st'=st/\∃ la ofs,c=(none,la,ofs)/\la < ofs/\hint + la < m/\B (hint + la)=true/\(m<=hint + ofs\/B (hint + ofs)=false)) ?_ ?_ ⟨rfl,0,1,rfl,by omega,by omega,hh,hB⟩) ?_)
  · rintro x c st' _ hx ⟨rfl,la,ofs,rfl,h1,h2,h3,h4⟩
    dsimp only
    by_cases g:ofs ≥ m - hint
    · rw[if_pos g]
      exact wpS_pure ⟨rfl,la,ofs,rfl,h2,h3,h4,.inl (by omega)⟩
    · rw[if_neg g]
      refine wpS_bind (by_ (by omega) ?_)
      dsimp only
      cases hm:B (hint + ofs) with
      | true =>
       rw[if_neg (by decide)]
       exact wpS_pure ⟨rfl,ofs,_,rfl,by omega,by omega,by omega,hm⟩
      | false =>
       rw[if_pos (by decide)]
       exact wpS_pure ⟨rfl,la,ofs,rfl,h2,h3,h4,.inr hm⟩
  · rintro c st' ⟨rfl,la,ofs,rfl,h1,h2,h3,h4⟩
    exact⟨rfl,la,ofs,rfl,h2,h3,h4,.inl (by omega)⟩
  · rintro c st' ⟨rfl,la,ofs,rfl,h2,h3,h4,h5⟩
    dsimp only
    refine bin (hint + la + 1) (hint + min ofs (m - hint)) (by omega) (by omega) (fun i hi=>up h4 h3 i (by omega)) (fun i hi hm=>?_) _ _ (fun x lo hi R hm a c=>?_) (fun hi q=>wpS_pure q)
    rotate_left
    · dsimp only
      by_cases g:lo ≥ hi
      · rw[if_pos g];exact wpS_pure (a g)
      · rw[if_neg g]
        refine wpS_bind (by_ (by omega) ?_)
        have r:=c (by omega)
        dsimp only
        cases hB:B (lo + (hi - lo) / 2) with
        | true=>rw[hB,if_pos rfl]at r;rw[if_pos rfl];exact wpS_pure r
        | false=>rw[hB,if_neg (by decide)]at r;rw[if_neg (by decide)];exact wpS_pure r
    rcases h5 with h5 | h5
    · omega
    · by_cases g:m<=hint + ofs
      · omega
      · exact dn h5 i (by omega) hm
 | false =>
  rw[if_neg (by decide)]
  refine wpS_bind (wpS_mono (wpS_forRange (I:=fun x c st'=>st'=st/\∃ la ofs,c=(none,la,ofs)/\x + 1<=ofs/\la < ofs/\la<=hint/\B (hint - la)=false) (Q:=fun c st'=>st'=st/\∃ la ofs,c=(none,la,ofs)/\la < ofs/\la<=hint/\B (hint - la)=false/\(hint < ofs\/B (hint - ofs)=true)) ?_ ?_ ⟨rfl,0,1,rfl,by omega,by omega,by omega,hB⟩) ?_)
  · rintro x c st' _ hx ⟨rfl,la,ofs,rfl,h1,h2,h3,h4⟩
    dsimp only
    by_cases g:ofs ≥ hint + 1
    · rw[if_pos g]
      exact wpS_pure ⟨rfl,la,ofs,rfl,h2,h3,h4,.inl (by omega)⟩
    · rw[if_neg g]
      refine wpS_bind (by_ (by omega) ?_)
      dsimp only
      cases hm:B (hint - ofs) with
      | true =>
       rw[if_pos rfl]
       exact wpS_pure ⟨rfl,la,ofs,rfl,h2,h3,h4,.inr hm⟩
      | false =>
       rw[if_neg (by decide)]
       exact wpS_pure ⟨rfl,ofs,_,rfl,by omega,by omega,by omega,hm⟩
  · rintro c st' ⟨rfl,la,ofs,rfl,h1,h2,h3,h4⟩
    exact⟨rfl,la,ofs,rfl,h2,h3,h4,.inl (by omega)⟩
  · rintro c st' ⟨rfl,la,ofs,rfl,h2,h3,h4,h5⟩
    dsimp only
    refine bin (hint + 1 - min ofs (hint + 1)) (hint - la) (by omega) (by omega) (fun i hi=>?_) (fun i hi hm=>dn h4 i (by omega) hm) _ _ (fun x lo hi R hm a c=>?_) (fun hi q=>wpS_pure q)
    rotate_left
    · dsimp only
      by_cases g:lo ≥ hi
      · rw[if_pos g];exact wpS_pure (a g)
      · rw[if_neg g]
        refine wpS_bind (by_ (by omega) ?_)
        have r:=c (by omega)
        dsimp only
        cases hB:B (lo + (hi - lo) / 2) with
        | true=>rw[hB,if_pos rfl]at r;rw[if_pos rfl];exact wpS_pure r
        | false=>rw[hB,if_neg (by decide)]at r;rw[if_neg (by decide)];exact wpS_pure r
    rcases h5 with h5 | h5
    · omega
    · by_cases g:hint < ofs
      · omega
      · exact up h5 (by omega) i (by omega)
end
def z1A:Nat->StateT SortSt Sem Unit:=sortPriv% PySem.Builtin.setMinGallop
def y4j:Array Keyed->Array Keyed->StateT SortSt Sem (Array Keyed):=sortPriv% PySem.Builtin.mergeLo
def y4k:Array Keyed->Array Keyed->StateT SortSt Sem (Array Keyed):=sortPriv% PySem.Builtin.mergeHi
section
variable {prog:Program}{w:World}{A:Around}{E:Value->Shared->Prop}{s:Shared}{κ:SortKind}{n:Nat}{lt:Nat->Nat->Bool}{f:Nat->Keyed}
abbrev PwL(lt:Nat->Nat->Bool)(l:List Nat):Prop:=l.Pairwise fun a b=>lt a b=true
structure MgL (lt:Nat->Nat->Bool) (X Y o:List Nat) (ia ib:Nat):Prop where
 pm:(o ++ (X.drop ia ++ Y.drop ib)).Perm (X ++ Y)
 so:PwL lt o
 cr:∀ x∈o,∀ y∈X.drop ia ++ Y.drop ib,lt x y=true
theorem z5S(l:List Nat)(i k:Nat):l.drop i=(l.drop i).take k ++ l.drop (i + k):=by
 rw[<- qB,jq]
theorem MgL.takeA{X Y o:List Nat}{ia ib:Nat}(h:MgL lt X Y o ia ib)(sx:PwL lt X)(k:Nat)(hc:∀ x∈(X.drop ia).take k,∀ y∈Y.drop ib,lt x y=true):MgL lt X Y (o ++ (X.drop ia).take k) (ia + k) ib:=by
 have e:=z5S X ia k
 have sd:PwL lt (X.drop ia):=sx.sublist (kX _ _)
 rw[e]at sd
 have sd':=jp.mp sd
 refine⟨?_,jp.mpr ⟨h.so,sd'.1,fun x hx y hy=>h.cr x hx y (jW _ (kG hy))⟩,fun x hx y hy=>?_⟩
 · have:=h.pm
   rw[e]at this
   rw[ji]
   rw[ji]at this
   exact this
 · rcases jL.mp hx with hx | hx
   · refine h.cr x hx y ?_
     rw[e]
     rcases jL.mp hy with hy | hy
     · exact jW _ (jP _ hy)
     · exact jP _ hy
   · rcases jL.mp hy with hy | hy
     · exact sd'.2.2 x hx y hy
     · exact hc x hx y hy
theorem MgL.takeB{X Y o:List Nat}{ia ib:Nat}(h:MgL lt X Y o ia ib)(sy:PwL lt Y)(k:Nat)(hc:∀ x∈(Y.drop ib).take k,∀ y∈X.drop ia,lt x y=true):MgL lt X Y (o ++ (Y.drop ib).take k) ia (ib + k):=by
 have e:=z5S Y ib k
 have sd:PwL lt (Y.drop ib):=sy.sublist (kX _ _)
 rw[e]at sd
 have sd':=jp.mp sd
 refine⟨?_,jp.mpr ⟨h.so,sd'.1,fun x hx y hy=>h.cr x hx y (jP _ (kG hy))⟩,fun x hx y hy=>?_⟩
 · refine List.Perm.trans ?_ h.pm
   rw[ji]
   refine List.Perm.append_left _ ?_
   rw[e,<- ji,<- ji]
   refine List.Perm.append_right _ ?_
   rw[<- e]
   exact List.perm_append_comm
 · rcases jL.mp hx with hx | hx
   · refine h.cr x hx y ?_
     rw[e]
     rcases jL.mp hy with hy | hy
     · exact jW _ hy
     · exact jP _ (jP _ hy)
   · rcases jL.mp hy with hy | hy
     · exact hc x hx y hy
     · exact sd'.2.2 x hx y hy
theorem MgL.len{X Y o:List Nat}{ia ib:Nat}(h:MgL lt X Y o ia ib):o.length<=X.length + Y.length:=by
 have:=h.pm.length_eq
 simp only[jG]at this
 omega
def MgD(lt:Nat->Nat->Bool)(X Y Z:List Nat):Prop:=Z.Perm (X ++ Y)/\PwL lt Z
theorem MgL.done{X Y o:List Nat}{ia ib:Nat}(h:MgL lt X Y o ia ib)(sx:PwL lt X)(sy:PwL lt Y)(hz:X.length<=ia\/Y.length<=ib):MgD lt X Y (o ++ X.drop ia ++ Y.drop ib):=by
 rw[ji]
 refine⟨h.pm,jp.mpr ⟨h.so,?_,h.cr⟩⟩
 rcases hz with z | z
 · rw[kU z];exact sy.sublist (kX _ _)
 · rw[kU z,k7];exact sx.sublist (kX _ _)
theorem MgL.last{X Y o:List Nat}{ia ib:Nat}(h:MgL lt X Y o ia ib)(sx:PwL lt X)(sy:PwL lt Y)(hc:∀ x∈Y,∀ y∈X.drop ia,lt x y=true):MgD lt X Y (o ++ Y.drop ib ++ X.drop ia):=by
 rw[ji]
 refine⟨List.Perm.trans (List.Perm.append_left _ List.perm_append_comm) h.pm,jp.mpr ⟨h.so,jp.mpr ⟨sy.sublist (kX _ _),sx.sublist (kX _ _),fun x hx y hy=>hc x (List.mem_of_mem_drop hx) y hy⟩,fun x hx y hy=>h.cr x hx y ?_⟩⟩
 rcases jL.mp hy with z | z
 · exact jP _ z
 · exact jW _ z
theorem z3D(f:Nat->Keyed)(o X Y:List Nat)(ia ib:Nat):im f o ++ (im f X).extract ia (im f X).size ++ (im f Y).extract ib (im f Y).size=im f (o ++ X.drop ia ++ Y.drop ib):=by
 rw[z4j,z4j,z0n,z0n,z5R,z5R]
 rw[kK (by rw[js];exact jE _),kK (by rw[js];exact jE _)]
def Gs(st st':SortSt):Prop:=kindOf st'=kindOf st/\arrOf st'=arrOf st/\pendingOf st'=pendingOf st/\failedOf st'=failedOf st
theorem Gs.refl(st:SortSt):Gs st st:=⟨rfl,rfl,rfl,rfl⟩
theorem Gs.trans{a b c:SortSt}(h:Gs a b)(g:Gs b c):Gs a c:=⟨g.1.trans h.1,g.2.1.trans h.2.1,g.2.2.1.trans h.2.2.1,g.2.2.2.trans h.2.2.2⟩
theorem z9k{g:Nat}{st:SortSt}{Q:Unit->SortSt->Prop}(h:∀ st',Gs st st'->Q () st'):wpS (model prog w) A E s (z1A g) Q st:=by
 have e:z1A g=modify fun st=>SortSt.mk' (kindOf st) (arrOf st) (pendingOf st) g (failedOf st):=rfl
 rw[e]
 exact wpS_modify (h _ ⟨rfl,rfl,rfl,rfl⟩)
theorem z5B{r:String}{st:SortSt}{Q:Unit->SortSt->Prop}(h:Q () st):wpS (model prog w) A E s (liftM (rule r):StateT SortSt Sem Unit) Q st:=wpS_lift (wpAny_rule ⟨rfl,h⟩)
def LoP(lt:Nat->Nat->Bool)(f:Nat->Keyed)(X Y:List Nat)(L:Nat)(st:SortSt)(out:Array Keyed)(ia ib:Nat)(st':SortSt):Prop:=∃ o,out=im f o/\MgL lt X Y o ia ib/\ia + 1 < X.length/\ib < Y.length/\L<=o.length/\Gs st st'
def LoE(lt:Nat->Nat->Bool)(f:Nat->Keyed)(X Y:List Nat)(st:SortSt)(r:Option (Array Keyed))(st':SortSt):Prop:=∃ Z,r=some (im f Z)/\MgD lt X Y Z/\Gs st st'
abbrev LoR:=Option (Array Keyed)×Array Keyed×Nat×Nat×Nat×Nat×Nat
def LoQ(lt:Nat->Nat->Bool)(f:Nat->Keyed)(X Y:List Nat)(L:Nat)(st:SortSt)(c:LoR)(st':SortSt):Prop:=LoE lt f X Y st c.1 st'\/(c.1=none/\LoP lt f X Y L st c.2.1 c.2.2.1 c.2.2.2.1 st')
def y4R(lt:Nat->Nat->Bool)(f:Nat->Keyed)(X Y:List Nat)(L:Nat)(st:SortSt)(r:ForInStep LoR)(st':SortSt):Prop:=match r with | .done c=>LoQ lt f X Y L st c st' | .yield c=>c.1=none/\LoP lt f X Y L st c.2.1 c.2.2.1 c.2.2.2.1 st'
def z9N(a b out:Array Keyed)(ia ib mg ac bc:Nat):StateT SortSt Sem (ForInStep LoR):=do
 let x <- elem' a ia
 if ia + 1 + 1 == a.size then pure (.done (some (out.push x ++ b.extract ib b.size ++ a.extract (ia + 1) a.size),out.push x,ia + 1,ib,mg,ac,bc))
 else if (decide (ac < 7) && decide (bc < 7))=true then pure (.done (none,out.push x,ia + 1,ib,mg,ac,bc))
 else pure (.yield (none,out.push x,ia + 1,ib,mg,ac,bc))
def y4n(a b out:Array Keyed)(ia ib mg ac bc:Nat):StateT SortSt Sem (ForInStep LoR):=do
 let y <- elem' b ib
 if ib + 1 == b.size then pure (.done (some (out.push y ++ a.extract ia a.size ++ b.extract (ib + 1) b.size),out.push y,ia,ib + 1,mg,ac,bc))
 else do
  let x <- elem' a ia
  let some k <- z5j true x b (ib + 1) (b.size - (ib + 1)) 0 | pure (.done (some (out.push y ++ a.extract ia a.size ++ b.extract (ib + 1) b.size),out.push y,ia,ib + 1,mg,ac,bc))
  if k > 0 then
   if ib + 1 + k == b.size then pure (.done (some (out.push y ++ b.extract (ib + 1) (ib + 1 + k) ++ a.extract ia a.size ++ b.extract (ib + 1 + k) b.size),out.push y ++ b.extract (ib + 1) (ib + 1 + k),ia,ib + 1 + k,mg,ac,k))
   else z9N a b (out.push y ++ b.extract (ib + 1) (ib + 1 + k)) ia (ib + 1 + k) mg ac k
  else z9N a b (out.push y) ia (ib + 1) mg ac k
def z7F(a b out:Array Keyed)(ia ib mg ac bc:Nat):StateT SortSt Sem (ForInStep LoR):=do
 z1A mg
 let y <- elem' b ib
 let some k <- z5j false y a ia (a.size - ia) 0 | pure (.done (some (out ++ a.extract ia a.size ++ b.extract ib b.size),out,ia,ib,mg,ac,bc))
 if k > 0 then
  if ia + k + 1 == a.size then pure (.done (some (out ++ a.extract ia (ia + k) ++ b.extract ib b.size ++ a.extract (ia + k) a.size),out ++ a.extract ia (ia + k),ia + k,ib,mg,k,bc))
  else if ia + k == a.size then pure (.done (some (out ++ a.extract ia (ia + k) ++ a.extract (ia + k) a.size ++ b.extract ib b.size),out ++ a.extract ia (ia + k),ia + k,ib,mg,k,bc))
  else y4n a b (out ++ a.extract ia (ia + k)) (ia + k) ib mg k bc
 else y4n a b out ia ib mg k bc
theorem z0r{l:List Nat}{i:Nat}(h:i < l.length):l[i]? = some (l.getD i 0):=by rw[jC,jD h];rfl
theorem z3E{l:List Nat}{i:Nat}(h:i < l.length):l.getD i 0∈l:=jk (z0r h)
theorem y2T{l:List Nat}{i:Nat}(h:i < l.length):l.drop i=l.getD i 0 :: l.drop (i + 1):=by
 rw[kW h]
 congr 1
 rw[jC,jD h];rfl
theorem z0G{l:List Nat}{i:Nat}(h:i < l.length):(l.drop i).take 1=[l.getD i 0]:=by
 rw[y2T h];rfl
theorem z3M{l:List Nat}(h:PwL lt l){i j:Nat}(hij:i < j)(hj:j < l.length):lt (l.getD i 0) (l.getD j 0)=true:=by
 have:=k8.mp h i j (by omega) hj hij
 rw[jC,jD (by omega),jC,jD hj]
 exact this
theorem z2T{l:List Nat}{i x:Nat}(h:x∈l.drop i):∃ j,i<=j/\j < l.length/\x=l.getD j 0:=by
 obtain⟨j,hj⟩:=qN.mp h
 rw[List.getElem?_drop]at hj
 have:=(jH.mp hj).1
 exact⟨i + j,by omega,this,by rw[jC,hj];rfl⟩
theorem z1D{l:List Nat}{i k x:Nat}(h:x∈(l.drop i).take k):∃ j,i<=j/\j < i + k/\j < l.length/\x=l.getD j 0:=by
 obtain⟨j,hj⟩:=qN.mp h
 have h1:=(jH.mp hj).1
 rw[jS,js]at h1
 rw[ka (by omega),List.getElem?_drop]at hj
 exact⟨i + j,by omega,by omega,by omega,by rw[jC,hj];rfl⟩
structure MgC (n:Nat) (lt:Nat->Nat->Bool) (X Y:List Nat):Prop where
 hn:∀ x∈X ++ Y,x < n
 nd:(X ++ Y).Nodup
 sx:PwL lt X
 sy:PwL lt Y
theorem MgC.ne{X Y:List Nat}(h:MgC n lt X Y){i j:Nat}(hi:i < X.length)(hj:j < Y.length):X.getD i 0≠Y.getD j 0:=fun e =>
 (kY.mp h.nd).2.2 _ (z3E hi) _ (z3E hj) e
theorem MgC.hx{X Y:List Nat}(h:MgC n lt X Y){i:Nat}(hi:i < X.length):X.getD i 0 < n:=h.hn _ (jW _ (z3E hi))
theorem MgC.hy{X Y:List Nat}(h:MgC n lt X Y){i:Nat}(hi:i < Y.length):Y.getD i 0 < n:=h.hn _ (jP _ (z3E hi))
theorem MgC.belowY{X Y:List Nat}(h:MgC n lt X Y)(O:SOrd n lt){x ib:Nat}(hx:x < n)(hib:ib < Y.length)(e:lt x (Y.getD ib 0)=true):∀ y∈Y.drop ib,lt x y=true:=fun y hy=>by
 obtain⟨j,h1,h2,rfl⟩:=z2T hy
 rcases Nat.lt_or_ge ib j with z | z
 · exact O.trans _ _ _ hx (h.hy hib) (h.hy h2) e (z3M h.sy z h2)
 · rw[show j=ib by omega];exact e
theorem MgC.belowX{X Y:List Nat}(h:MgC n lt X Y)(O:SOrd n lt){x ia:Nat}(hx:x < n)(hia:ia < X.length)(e:lt x (X.getD ia 0)=true):∀ y∈X.drop ia,lt x y=true:=fun y hy=>by
 obtain⟨j,h1,h2,rfl⟩:=z2T hy
 rcases Nat.lt_or_ge ia j with z | z
 · exact O.trans _ _ _ hx (h.hx hia) (h.hx h2) e (z3M h.sx z h2)
 · rw[show j=ia by omega];exact e
theorem z9l(T:TC prog w A s κ n lt f){st st0:SortSt}{X Y o:List Nat}(C:MgC n lt X Y)(last:∀ x∈Y,∀ y∈X.drop (X.length - 1),lt x y=true){ia ib mg ac bc L:Nat}(h:MgL lt X Y o ia ib)(h1:ia + 1 < X.length)(h2:ib < Y.length)(hL:L<=o.length)(g:Gs st0 st)(hc:∀ y∈Y.drop ib,lt (X.getD ia 0) y=true) :
 wpS (model prog w) A E s (z9N (im f X) (im f Y) (im f o) ia ib mg ac bc) (y4R lt f X Y L st0) st:=by
 unfold z9N
 refine wpS_bind (z0O (z0r (by omega)) ?_)
 have h':MgL lt X Y (o ++ [X.getD ia 0]) (ia + 1) ib:=by
  have:=h.takeA C.sx 1 (by rw[z0G (by omega)];intro x hx y hy;rw[jM.mp hx];exact hc y hy)
  rw[z0G (by omega)]at this
  exact this
 have hL':L<=(o ++ [X.getD ia 0]).length:=by rw[jG];omega
 rw[z5g]
 by_cases c:ia + 1 + 1=X.length
 · rw[if_pos (by rw[z0n];exact beq_iff_eq.mpr c),z3D]
   exact wpS_pure (.inl ⟨_,rfl,h'.last C.sx C.sy (by rw[show ia + 1=X.length - 1 by omega];exact last),g⟩)
 · rw[if_neg (by rw[z0n];exact fun z=>c (beq_iff_eq.mp z))]
   have P:LoP lt f X Y L st0 (im f (o ++ [X.getD ia 0])) (ia + 1) ib st:=⟨_,rfl,h',by omega,h2,hL',g⟩
   split
   · exact wpS_pure (.inr ⟨rfl,P⟩)
   · exact wpS_pure ⟨rfl,P⟩
theorem y8y(f:Nat->Keyed)(o X:List Nat)(ia k:Nat):im f o ++ (im f X).extract ia (ia + k)=im f (o ++ (X.drop ia).take k):=by
 rw[z4j,z5R,Nat.add_sub_cancel_left]
theorem y1k(T:TC prog w A s κ n lt f){st st0:SortSt}(hk:kindOf st=κ){X Y o:List Nat}(C:MgC n lt X Y)(last:∀ x∈Y,∀ y∈X.drop (X.length - 1),lt x y=true){ia ib mg ac bc L:Nat}(h:MgL lt X Y o ia ib)(h1:ia + 1 < X.length)(h2:ib < Y.length)(hL:L<=o.length)(g:Gs st0 st)(hc:∀ y∈X.drop ia,lt (Y.getD ib 0) y=true) :
 wpS (model prog w) A E s (y4n (im f X) (im f Y) (im f o) ia ib mg ac bc) (y4R lt f X Y L st0) st:=by
 unfold y4n
 refine wpS_bind (z0O (z0r h2) ?_)
 have h':MgL lt X Y (o ++ [Y.getD ib 0]) ia (ib + 1):=by
  have:=h.takeB C.sy 1 (by rw[z0G h2];intro x hx y hy;rw[jM.mp hx];exact hc y hy)
  rw[z0G h2]at this
  exact this
 have hL':L<=(o ++ [Y.getD ib 0]).length:=by rw[jG];omega
 rw[z5g]
 by_cases c:ib + 1=Y.length
 · rw[if_pos (by rw[z0n];exact beq_iff_eq.mpr c),z3D]
   exact wpS_pure (.inl ⟨_,rfl,h'.done C.sx C.sy (.inr (by omega)),g⟩)
 rw[if_neg (by rw[z0n];exact fun z=>c (beq_iff_eq.mp z))]
 refine wpS_bind (z0O (z0r (by omega)) ?_)
 rw[z0n]
 refine wpS_bind (z2P T hk (B:=fun i=>lt (Y.getD (ib + 1 + i) 0) (X.getD ia 0)) (by omega) (fun i hi=>⟨_,z0r (by omega),C.hy (by omega),(C.ne (by omega) (by omega)).symm,rfl⟩) (C.hx (by omega)) (fun i j hij hj e=>T.O.trans _ _ _ (C.hy (by omega)) (C.hy (by omega)) (C.hx (by omega)) (z3M C.sy (by omega) (by omega)) e) fun k hk1 hk2 hk3=>?_)
 dsimp only
 have cut:∀ x∈(Y.drop (ib + 1)).take k,∀ y∈X.drop ia,lt x y=true:=fun x hx=>by
  obtain⟨j,j1,j2,j3,rfl⟩:=z1D hx
  refine C.belowX T.O (C.hy j3) (by omega) ?_
  have:=hk2 (j - (ib + 1)) (by omega)
  rwa [show ib + 1 + (j - (ib + 1))=j by omega]at this
 have h3:=h'.takeB C.sy k cut
 have hL3:L<=(o ++ [Y.getD ib 0] ++ (Y.drop (ib + 1)).take k).length:=by rw[jG];omega
 have rest:ib + 1 + k < Y.length->∀ y∈Y.drop (ib + 1 + k),lt (X.getD ia 0) y=true:=fun hlt=>by
  refine C.belowY T.O (C.hx (by omega)) hlt ?_
  have:=hk3 k (jE _) (by omega)
  exact T.O.conn _ _ (C.hy (by omega)) (C.hx (by omega)) (C.ne (by omega) (by omega)).symm this
 by_cases k0:k > 0
 · rw[if_pos k0,y8y]
   by_cases c2:ib + 1 + k=Y.length
   · rw[if_pos (beq_iff_eq.mpr c2)]
     have e:=z3D f (o ++ [Y.getD ib 0] ++ (Y.drop (ib + 1)).take k) X Y ia (ib + 1 + k)
     rw[z0n,z0n]at e
     rw[z0n,e]
     exact wpS_pure (.inl ⟨_,rfl,h3.done C.sx C.sy (.inr (by omega)),g⟩)
   · rw[if_neg (fun z=>c2 (beq_iff_eq.mp z))]
     exact z9l T C last h3 h1 (by omega) hL3 g (rest (by omega))
 · rw[if_neg k0]
   have:k=0:=by omega
   subst this
   exact z9l T C last h' h1 (by omega) hL' g (rest (by omega))
theorem y3D(T:TC prog w A s κ n lt f){st st0:SortSt}(hk:kindOf st0=κ){X Y o:List Nat}(C:MgC n lt X Y)(last:∀ x∈Y,∀ y∈X.drop (X.length - 1),lt x y=true){ia ib mg ac bc L:Nat}(h:MgL lt X Y o ia ib)(h1:ia + 1 < X.length)(h2:ib < Y.length)(hL:L<=o.length)(g:Gs st0 st) :
 wpS (model prog w) A E s (z7F (im f X) (im f Y) (im f o) ia ib mg ac bc) (y4R lt f X Y L st0) st:=by
 unfold z7F
 refine wpS_bind (z9k fun st1 g1'=>?_)
 have g1:=g.trans g1'
 have hk1:kindOf st1=κ:=g1.1.trans hk
 refine wpS_bind (z0O (z0r h2) ?_)
 rw[z0n]
 refine wpS_bind (z2P T hk1 (B:=fun i=>lt (X.getD (ia + i) 0) (Y.getD ib 0)) (by omega) (fun i hi=>⟨_,z0r (by omega),C.hx (by omega),C.ne (by omega) h2,rfl⟩) (C.hy h2) (fun i j hij hj e=>T.O.trans _ _ _ (C.hx (by omega)) (C.hx (by omega)) (C.hy h2) (z3M C.sx (by omega) (by omega)) e) fun k hk1' hk2 hk3=>?_)
 dsimp only
 have cut:∀ x∈(X.drop ia).take k,∀ y∈Y.drop ib,lt x y=true:=fun x hx=>by
  obtain⟨j,j1,j2,j3,rfl⟩:=z1D hx
  refine C.belowY T.O (C.hx j3) h2 ?_
  have:=hk2 (j - ia) (by omega)
  rwa [show ia + (j - ia)=j by omega]at this
 have h3:=h.takeA C.sx k cut
 have hL3:L<=(o ++ (X.drop ia).take k).length:=by rw[jG];omega
 have rest:ia + k < X.length->∀ y∈X.drop (ia + k),lt (Y.getD ib 0) y=true:=fun hlt=>by
  refine C.belowX T.O (C.hy h2) hlt ?_
  have:=hk3 k (jE _) (by omega)
  exact T.O.conn _ _ (C.hx (by omega)) (C.hy h2) (C.ne (by omega) h2) this
 by_cases k0:k > 0
 · rw[if_pos k0,y8y]
   by_cases c1:ia + k + 1=X.length
   · rw[if_pos (beq_iff_eq.mpr c1)]
     have e:=z3D f (o ++ (X.drop ia).take k) Y X ib (ia + k)
     rw[z0n,z0n]at e
     rw[z0n,e]
     exact wpS_pure (.inl ⟨_,rfl,h3.last C.sx C.sy (by rw[show ia + k=X.length - 1 by omega];exact last),g1⟩)
   rw[if_neg (fun z=>c1 (beq_iff_eq.mp z))]
   by_cases c2:ia + k=X.length
   · rw[if_pos (beq_iff_eq.mpr c2)]
     have e:=z3D f (o ++ (X.drop ia).take k) X Y (ia + k) ib
     rw[z0n,z0n]at e
     rw[z0n,e]
     exact wpS_pure (.inl ⟨_,rfl,h3.done C.sx C.sy (.inl (by omega)),g1⟩)
   · rw[if_neg (fun z=>c2 (beq_iff_eq.mp z))]
     exact y1k T hk1 C last h3 (by omega) h2 hL3 g1 (rest (by omega))
 · rw[if_neg k0]
   have:k=0:=by omega
   subst this
   exact y1k T hk1 C last h h1 h2 hL g1 (rest (by omega))
theorem y1g(T:TC prog w A s κ n lt f){st:SortSt}(hk:kindOf st=κ){X Y:List Nat}(C:MgC n lt X Y)(x0:0 < X.length)(y0:0 < Y.length)(first:∀ y∈X,lt (Y.getD 0 0) y=true)(last:∀ x∈Y,∀ y∈X.drop (X.length - 1),lt x y=true)
 {Q:Array Keyed->SortSt->Prop} (h:∀ Z st',MgD lt X Y Z->Gs st st'->Q (im f Z) st'):wpS (model prog w) A E s (y4j (im f X) (im f Y)) Q st:=by
 refine wpS_bind (z5B ?_)
 dsimp only
 refine wpS_bind (z0O (z0r y0) ?_)
 have e0:#[f (Y.getD 0 0)]=im f [Y.getD 0 0]:=rfl
 have h0:MgL lt X Y [Y.getD 0 0] 0 1:=by
  have:=(show MgL lt X Y [] 0 0 from ⟨List.Perm.refl _,List.Pairwise.nil,fun x hx=>nomatch hx⟩).takeB C.sy 1 (by rw[z0G y0];intro x hx y hy;rw[jM.mp hx];exact first y hy)
  rw[z0G y0]at this
  exact this
 rw[e0]
 by_cases c1:1=Y.length
 · rw[if_pos (by rw[z0n];exact beq_iff_eq.mpr c1)]
   refine wpS_pure ?_
   rw[z3D]
   exact h _ _ (h0.done C.sx C.sy (.inr (by omega))) (Gs.refl _)
 rw[if_neg (by rw[z0n];exact fun z=>c1 (beq_iff_eq.mp z))]
 by_cases c2:0 + 1=X.length
 · rw[if_pos (by rw[z0n];exact beq_iff_eq.mpr c2)]
   refine wpS_pure ?_
   rw[z3D]
   exact h _ _ (h0.last C.sx C.sy (by rw[show 0=X.length - 1 by omega];exact last)) (Gs.refl _)
 rw[if_neg (by rw[z0n];exact fun z=>c2 (beq_iff_eq.mp z))]
 refine wpS_bind (wpS_get ?_)
 have tot:(im f X).size + (im f Y).size=X.length + Y.length:=by rw[z0n,z0n]
 rw[tot]
 refine wpS_bind (wpS_mono (wpS_forRange (I:=fun x c st'=>c.1=none/\LoP lt f X Y (x + 1) st c.2.1 c.2.2.1 c.2.2.2.1 st') (Q:=fun c st'=>LoE lt f X Y st c.1 st') ?_ ?_ ⟨rfl,_,rfl,h0,by show 0 + 1 < X.length;omega,by show 1 < Y.length;omega,jE _,Gs.refl _⟩) ?_)
 · rintro x ⟨r,out,ia,ib,mg⟩ st' _ hx ⟨rfl,o,rfl,m1,m2,m3,m4,g⟩
   dsimp only
   refine wpS_bind (wpS_mono (wpS_forRange (I:=fun y (c:Option (Array Keyed)×Array Keyed×Nat×Nat×Nat×Nat) st'=>c.1=none/\LoP lt f X Y (x + 1 + y) st c.2.1 c.2.2.1 c.2.2.2.1 st') (Q:=fun c st'=>LoE lt f X Y st c.1 st'\/(c.1=none/\LoP lt f X Y (x + 1 + 1) st c.2.1 c.2.2.1 c.2.2.2.1 st')) ?_ ?_ ⟨rfl,o,rfl,m1,m2,m3,m4,g⟩) ?_)
   · rintro y ⟨r,out,ia,ib,ac,bc⟩ st' _ hy ⟨rfl,o,rfl,m1,m2,m3,m4,g⟩
     dsimp only
     dsimp only at m1 m2 m3 m4
     refine wpS_bind (z0O (z0r m3) ?_)
     refine wpS_bind (z0O (z0r (by omega)) ?_)
     refine wpS_bind (y7s T (g.1.trans hk) (C.hy m3) (C.hx (by omega)) (C.ne (by omega) m3).symm ?_)
     dsimp only
     cases hw:lt (Y.getD ib 0) (X.getD ia 0) with
     | true =>
      rw[if_pos rfl]
      refine wpS_bind (z0O (z0r m3) ?_)
      have h':MgL lt X Y (o ++ [Y.getD ib 0]) ia (ib + 1):=by
       have:=m1.takeB C.sy 1 (by rw[z0G m3];intro x hx y hy;rw[jM.mp hx];exact C.belowX T.O (C.hy m3) (by omega) hw y hy)
       rw[z0G m3]at this
       exact this
      have hL:(o ++ [Y.getD ib 0]).length=o.length + 1:=by rw[jG];rfl
      rw[z5g]
      by_cases d:ib + 1=Y.length
      · rw[if_pos (by rw[z0n];exact beq_iff_eq.mpr d),z3D]
        exact wpS_pure (.inl ⟨_,rfl,h'.done C.sx C.sy (.inr (by omega)),g⟩)
      rw[if_neg (by rw[z0n];exact fun z=>d (beq_iff_eq.mp z))]
      split
      · exact wpS_pure (.inr ⟨rfl,_,rfl,h',m2,by show ib + 1 < Y.length;omega,by omega,g⟩)
      · exact wpS_pure ⟨rfl,_,rfl,h',m2,by show ib + 1 < Y.length;omega,by omega,g⟩
     | false =>
      rw[if_neg (by decide)]
      refine wpS_bind (z0O (z0r (by omega)) ?_)
      have hw':=T.O.conn _ _ (C.hy m3) (C.hx (by omega)) (C.ne (by omega) m3).symm hw
      have h':MgL lt X Y (o ++ [X.getD ia 0]) (ia + 1) ib:=by
       have:=m1.takeA C.sx 1 (by rw[z0G (by omega)];intro x hx y hy;rw[jM.mp hx];exact C.belowY T.O (C.hx (by omega)) m3 hw' y hy)
       rw[z0G (by omega)]at this
       exact this
      have hL:(o ++ [X.getD ia 0]).length=o.length + 1:=by rw[jG];rfl
      rw[z5g]
      by_cases d:ia + 1 + 1=X.length
      · rw[if_pos (by rw[z0n];exact beq_iff_eq.mpr d),z3D]
        exact wpS_pure (.inl ⟨_,rfl,h'.last C.sx C.sy (by rw[show ia + 1=X.length - 1 by omega];exact last),g⟩)
      rw[if_neg (by rw[z0n];exact fun z=>d (beq_iff_eq.mp z))]
      split
      · exact wpS_pure (.inr ⟨rfl,_,rfl,h',by show ia + 1 + 1 < X.length;omega,m3,by omega,g⟩)
      · exact wpS_pure ⟨rfl,_,rfl,h',by show ia + 1 + 1 < X.length;omega,m3,by omega,g⟩
   · rintro⟨r,out,ia,ib,ac,bc⟩ st' ⟨rfl,o,rfl,m1,m2,m3,m4,g⟩
     exact .inr ⟨rfl,o,rfl,m1,m2,m3,by omega,g⟩
   · rintro⟨r,out,ia,ib,ac,bc⟩ st' (⟨Z,e,d,g⟩ | ⟨rfl,o,rfl,m1,m2,m3,m4,g⟩)
     · dsimp only at e
       subst e
       exact wpS_pure ⟨Z,rfl,d,g⟩
     · dsimp only
       dsimp only at m1 m2 m3 m4
       refine wpS_bind (z5B ?_)
       refine wpS_bind (wpS_mono (wpS_forRange (I:=fun y (c:LoR) st'=>c.1=none/\LoP lt f X Y (x + 1 + 1) st c.2.1 c.2.2.1 c.2.2.2.1 st') (Q:=LoQ lt f X Y (x + 1 + 1) st) ?_ ?_ ⟨rfl,o,rfl,m1,m2,m3,m4,g⟩) ?_)
       · rintro y ⟨r,out,ia,ib,mg,ac,bc⟩ st' _ hy ⟨rfl,o,rfl,m1,m2,m3,m4,g⟩
         have hh:∀ mg,wpS (model prog w) A E s (z7F (im f X) (im f Y) (im f o) ia ib mg ac bc) (y4R lt f X Y (x + 1 + 1) st) st':=fun mg=>y3D T hk C last m1 m2 m3 m4 g
         by_cases c:mg > 1
         · refine Eq.mpr (congrArg (fun m=>wpS (model prog w) A E s m _ st') (if_pos c)) ?_
           refine Eq.mpr (congrArg (fun m=>wpS (model prog w) A E s m _ st') (show _=z7F (im f X) (im f Y) (im f o) ia ib (mg - 1) ac bc from by kernel_rfl)) ?_
           exact wpS_mono (hh (mg - 1)) fun a st' h=>by cases a <;> exact h
         · refine Eq.mpr (congrArg (fun m=>wpS (model prog w) A E s m _ st') (if_neg c)) ?_
           refine Eq.mpr (congrArg (fun m=>wpS (model prog w) A E s m _ st') (show _=z7F (im f X) (im f Y) (im f o) ia ib mg ac bc from by kernel_rfl)) ?_
           exact wpS_mono (hh mg) fun a st' h=>by cases a <;> exact h
       · rintro c st' ⟨e,hP⟩
         exact .inr ⟨e,hP⟩
       · rintro⟨r,out,ia,ib,mg,ac,bc⟩ st' (⟨Z,e,d,g⟩ | ⟨rfl,o,rfl,m1,m2,m3,m4,g⟩)
         · dsimp only at e
           subst e
           exact wpS_pure ⟨Z,rfl,d,g⟩
         · dsimp only
           refine wpS_bind (z9k fun st2 g2=>?_)
           exact wpS_pure ⟨rfl,o,rfl,m1,m2,m3,m4,g.trans g2⟩
 · rintro⟨r,out,ia,ib,mg⟩ st' ⟨rfl,o,rfl,m1,m2,m3,m4,g⟩
   have:=m1.len
   omega
 · rintro⟨r,out,ia,ib,mg⟩ st' ⟨Z,e,d,g⟩
   dsimp only at e
   subst e
   exact wpS_pure (h Z st' d g)
end
section
variable {prog:Program}{w:World}{A:Around}{E:Value->Shared->Prop}{s:Shared}{κ:SortKind}{n:Nat}{lt:Nat->Nat->Bool}{f:Nat->Keyed}
structure MgH (lt:Nat->Nat->Bool) (X Y r:List Nat) (na nb:Nat):Prop where
 pm:(X.take na ++ Y.take nb ++ r).Perm (X ++ Y)
 so:PwL lt r
 cr:∀ x∈X.take na ++ Y.take nb,∀ y∈r,lt x y=true
theorem z5A(l:List Nat){i j:Nat}(h:i<=j):l.take j=l.take i ++ (l.drop i).take (j - i):=by
 rw[<- List.take_add];congr 1;omega
theorem MgH.takeA{X Y r:List Nat}{na nb:Nat}(h:MgH lt X Y r na nb)(sx:PwL lt X){k:Nat}(hk:k<=na)(hc:∀ x∈Y.take nb,∀ y∈(X.drop k).take (na - k),lt x y=true):MgH lt X Y ((X.drop k).take (na - k) ++ r) k nb:=by
 have e:=z5A X hk
 have sd:PwL lt (X.take na):=sx.sublist (kQ _ _)
 rw[e]at sd
 have sd':=jp.mp sd
 refine⟨?_,jp.mpr ⟨sd'.2.1,h.so,fun x hx y hy=>h.cr x (jW _ (by rw[e];exact jP _ hx)) y hy⟩,fun x hx y hy=>?_⟩
 · refine List.Perm.trans ?_ h.pm
   rw[e,<- ji]
   refine List.Perm.append_right _ ?_
   rw[ji,ji]
   exact List.Perm.append_left _ List.perm_append_comm
 · rcases jL.mp hy with hy | hy
   · rcases jL.mp hx with hx | hx
     · exact sd'.2.2 x hx y hy
     · exact hc x hx y hy
   · refine h.cr x ?_ y hy
     rw[e]
     rcases jL.mp hx with hx | hx
     · exact jW _ (jW _ hx)
     · exact jP _ hx
theorem MgH.takeB{X Y r:List Nat}{na nb:Nat}(h:MgH lt X Y r na nb)(sy:PwL lt Y){k:Nat}(hk:k<=nb)(hc:∀ x∈X.take na,∀ y∈(Y.drop k).take (nb - k),lt x y=true):MgH lt X Y ((Y.drop k).take (nb - k) ++ r) na k:=by
 have e:=z5A Y hk
 have sd:PwL lt (Y.take nb):=sy.sublist (kQ _ _)
 rw[e]at sd
 have sd':=jp.mp sd
 refine⟨?_,jp.mpr ⟨sd'.2.1,h.so,fun x hx y hy=>h.cr x (jP _ (by rw[e];exact jP _ hx)) y hy⟩,fun x hx y hy=>?_⟩
 · refine List.Perm.trans (List.Perm.of_eq ?_) h.pm
   rw[e]
   simp only[ji]
 · rcases jL.mp hy with hy | hy
   · rcases jL.mp hx with hx | hx
     · exact hc x hx y hy
     · exact sd'.2.2 x hx y hy
   · refine h.cr x ?_ y hy
     rw[e]
     rcases jL.mp hx with hx | hx
     · exact jW _ hx
     · exact jP _ (jW _ hx)
theorem MgH.len{X Y r:List Nat}{na nb:Nat}(h:MgH lt X Y r na nb):r.length<=X.length + Y.length:=by
 have:=h.pm.length_eq
 simp only[jG]at this
 omega
theorem MgH.done{X Y r:List Nat}{na nb:Nat}(h:MgH lt X Y r na nb)(sx:PwL lt X)(sy:PwL lt Y)(hz:na=0\/nb=0):MgD lt X Y (X.take na ++ Y.take nb ++ r):=by
 refine⟨h.pm,jp.mpr ⟨?_,h.so,h.cr⟩⟩
 rcases hz with z | z
 · subst z;rw[List.take_zero,List.nil_append];exact sy.sublist (kQ _ _)
 · subst z;rw[List.take_zero,k7];exact sx.sublist (kQ _ _)
theorem MgH.first{X Y r:List Nat}{na nb:Nat}(h:MgH lt X Y r na nb)(sx:PwL lt X)(sy:PwL lt Y)(hc:∀ x∈Y.take nb,∀ y∈X,lt x y=true):MgD lt X Y (Y.take nb ++ X.take na ++ r):=by
 refine⟨List.Perm.trans (List.Perm.append_right _ List.perm_append_comm) h.pm,jp.mpr ⟨jp.mpr ⟨sy.sublist (kQ _ _),sx.sublist (kQ _ _),fun x hx y hy=>hc x hx y (kG hy)⟩,h.so,fun x hx y hy=>h.cr x ?_ y hy⟩⟩
 rcases jL.mp hx with z | z
 · exact jP _ z
 · exact jW _ z
theorem z2s(f:Nat->Keyed)(r X Y:List Nat)(na nb:Nat):(im f X).extract 0 na ++ (im f Y).extract 0 nb ++ (im f r.reverse).reverse=im f (X.take na ++ Y.take nb ++ r):=by
 rw[z4j,z4j,y5r,z5R,z5R,List.reverse_reverse,qM,qM,Nat.sub_zero,Nat.sub_zero]
theorem z6K(f:Nat->Keyed)(r:List Nat)(x:Nat):(im f r.reverse).push (f x)=im f (x :: r).reverse:=by
 rw[z5g,List.reverse_cons]
theorem y5s(f:Nat->Keyed)(r X:List Nat)(i j:Nat):im f r.reverse ++ ((im f X).extract i j).reverse=im f ((X.drop i).take (j - i) ++ r).reverse:=by
 rw[z4j,y5r,z5R,List.reverse_append]
def HiP(lt:Nat->Nat->Bool)(f:Nat->Keyed)(X Y:List Nat)(L:Nat)(st:SortSt)(na nb:Nat)(out:Array Keyed)(st':SortSt):Prop:=∃ r,out=im f r.reverse/\MgH lt X Y r na nb/\0 < na/\na<=X.length/\1 < nb/\nb<=Y.length/\L<=r.length/\Gs st st'
abbrev HiR:=Option (Array Keyed)×Nat×Nat×Array Keyed×Nat×Nat×Nat
def HiQ(lt:Nat->Nat->Bool)(f:Nat->Keyed)(X Y:List Nat)(L:Nat)(st:SortSt)(c:HiR)(st':SortSt):Prop:=LoE lt f X Y st c.1 st'\/(c.1=none/\HiP lt f X Y L st c.2.1 c.2.2.1 c.2.2.2.1 st')
def y4S(lt:Nat->Nat->Bool)(f:Nat->Keyed)(X Y:List Nat)(L:Nat)(st:SortSt)(r:ForInStep HiR)(st':SortSt):Prop:=match r with | .done c=>HiQ lt f X Y L st c st' | .yield c=>c.1=none/\HiP lt f X Y L st c.2.1 c.2.2.1 c.2.2.2.1 st'
def z9S(a b out:Array Keyed)(na nb mg ac bc:Nat):StateT SortSt Sem (ForInStep HiR):=do
 let x <- elem' a (na - 1)
 if na - 1 == 0 then pure (.done (some (a.extract 0 (na - 1) ++ b.extract 0 nb ++ (out.push x).reverse),na - 1,nb,out.push x,mg,ac,bc))
 else if (decide (ac < 7) && decide (bc < 7))=true then pure (.done (none,na - 1,nb,out.push x,mg,ac,bc))
 else pure (.yield (none,na - 1,nb,out.push x,mg,ac,bc))
def y4x(a b out:Array Keyed)(na nb mg ac bc:Nat):StateT SortSt Sem (ForInStep HiR):=do
 let y <- elem' b (nb - 1)
 if nb - 1 == 1 then pure (.done (some (b.extract 0 (nb - 1) ++ a.extract 0 na ++ (out.push y).reverse),na,nb - 1,out.push y,mg,ac,bc))
 else do
  let x <- elem' a (na - 1)
  let some at_ <- z5j true x b 0 (nb - 1) (nb - 1 - 1) | pure (.done (some (a.extract 0 na ++ b.extract 0 (nb - 1) ++ (out.push y).reverse),na,nb - 1,out.push y,mg,ac,bc))
  if nb - 1 - at_ > 0 then
   if at_ == 1 then pure (.done (some (b.extract 0 at_ ++ a.extract 0 na ++ (out.push y ++ (b.extract at_ (nb - 1)).reverse).reverse),na,at_,out.push y ++ (b.extract at_ (nb - 1)).reverse,mg,ac,nb - 1 - at_))
   else if at_ == 0 then pure (.done (some (a.extract 0 na ++ b.extract 0 at_ ++ (out.push y ++ (b.extract at_ (nb - 1)).reverse).reverse),na,at_,out.push y ++ (b.extract at_ (nb - 1)).reverse,mg,ac,nb - 1 - at_))
   else z9S a b (out.push y ++ (b.extract at_ (nb - 1)).reverse) na at_ mg ac (nb - 1 - at_)
  else z9S a b (out.push y) na (nb - 1) mg ac (nb - 1 - at_)
def z7O(a b out:Array Keyed)(na nb mg ac bc:Nat):StateT SortSt Sem (ForInStep HiR):=do
 z1A mg
 let y <- elem' b (nb - 1)
 let some at_ <- z5j false y a 0 na (na - 1) | pure (.done (some (a.extract 0 na ++ b.extract 0 nb ++ out.reverse),na,nb,out,mg,ac,bc))
 if na - at_ > 0 then
  if at_ == 0 then pure (.done (some (a.extract 0 at_ ++ b.extract 0 nb ++ (out ++ (a.extract at_ na).reverse).reverse),at_,nb,out ++ (a.extract at_ na).reverse,mg,na - at_,bc))
  else y4x a b (out ++ (a.extract at_ na).reverse) at_ nb mg (na - at_) bc
 else y4x a b out na nb mg (na - at_) bc
theorem z2Q{l:List Nat}{i x:Nat}(h:x∈l.take i):∃ j,j < i/\j < l.length/\x=l.getD j 0:=by
 obtain⟨j,hj⟩:=qN.mp h
 have h1:=(jH.mp hj).1
 rw[jS]at h1
 rw[ka (by omega)]at hj
 exact⟨j,by omega,by omega,by rw[jC,hj];rfl⟩
theorem MgC.aboveY{X Y:List Nat}(h:MgC n lt X Y)(O:SOrd n lt){x nb:Nat}(hx:x < n)(h0:0 < nb)(hib:nb<=Y.length)(e:lt (Y.getD (nb - 1) 0) x=true):∀ y∈Y.take nb,lt y x=true:=fun y hy=>by
 obtain⟨j,h1,h2,rfl⟩:=z2Q hy
 rcases Nat.lt_or_ge j (nb - 1) with z | z
 · exact O.trans _ _ _ (h.hy h2) (h.hy (by omega)) hx (z3M h.sy z (by omega)) e
 · rw[show j=nb - 1 by omega];exact e
theorem MgC.aboveX{X Y:List Nat}(h:MgC n lt X Y)(O:SOrd n lt){x na:Nat}(hx:x < n)(h0:0 < na)(hia:na<=X.length)(e:lt (X.getD (na - 1) 0) x=true):∀ y∈X.take na,lt y x=true:=fun y hy=>by
 obtain⟨j,h1,h2,rfl⟩:=z2Q hy
 rcases Nat.lt_or_ge j (na - 1) with z | z
 · exact O.trans _ _ _ (h.hx h2) (h.hx (by omega)) hx (z3M h.sx z (by omega)) e
 · rw[show j=na - 1 by omega];exact e
theorem z5x{l:List Nat}{i:Nat}(h0:0 < i)(h:i<=l.length):(l.drop (i - 1)).take (i - (i - 1))=[l.getD (i - 1) 0]:=by
 rw[show i - (i - 1)=1 by omega];exact z0G (by omega)
theorem z9U{X Y:List Nat}(first:∀ y∈X,lt (Y.getD 0 0) y=true){nb:Nat}(h:nb=1):∀ x∈Y.take nb,∀ y∈X,lt x y=true:=fun x hx y hy=>by
 obtain⟨j,h1,_,rfl⟩:=z2Q hx
 rw[show j=0 by omega];exact first y hy
theorem z9m(T:TC prog w A s κ n lt f){st st0:SortSt}{X Y r:List Nat}(C:MgC n lt X Y){na nb mg ac bc L:Nat}(h:MgH lt X Y r na nb)(h1:0 < na)(h1':na<=X.length)(h2:1 < nb)(h2':nb<=Y.length)(hL:L<=r.length)(g:Gs st0 st)(hc:∀ x∈Y.take nb,lt x (X.getD (na - 1) 0)=true) :
 wpS (model prog w) A E s (z9S (im f X) (im f Y) (im f r.reverse) na nb mg ac bc) (y4S lt f X Y L st0) st:=by
 unfold z9S
 refine wpS_bind (z0O (z0r (by omega)) ?_)
 have h':MgH lt X Y (X.getD (na - 1) 0 :: r) (na - 1) nb:=by
  have:=h.takeA C.sx (k:=na - 1) (by omega) (by rw[z5x h1 h1'];intro x hx y hy;rw[jM.mp hy];exact hc x hx)
  rw[z5x h1 h1']at this
  exact this
 have hL':L<=(X.getD (na - 1) 0 :: r).length:=by rw[jx];omega
 rw[z6K]
 by_cases c:na - 1=0
 · rw[if_pos (beq_iff_eq.mpr c),z2s]
   exact wpS_pure (.inl ⟨_,rfl,h'.done C.sx C.sy (.inl c),g⟩)
 · rw[if_neg (fun z=>c (beq_iff_eq.mp z))]
   have P:HiP lt f X Y L st0 (na - 1) nb (im f (X.getD (na - 1) 0 :: r).reverse) st:=⟨_,rfl,h',by omega,by omega,h2,h2',hL',g⟩
   split
   · exact wpS_pure (.inr ⟨rfl,P⟩)
   · exact wpS_pure ⟨rfl,P⟩
theorem y1l(T:TC prog w A s κ n lt f){st st0:SortSt}(hk:kindOf st=κ){X Y r:List Nat}(C:MgC n lt X Y)(first:∀ y∈X,lt (Y.getD 0 0) y=true){na nb mg ac bc L:Nat}(h:MgH lt X Y r na nb)(h1:0 < na)(h1':na<=X.length)(h2:1 < nb)(h2':nb<=Y.length)(hL:L<=r.length)(g:Gs st0 st)(hc:∀ x∈X.take na,lt x (Y.getD (nb - 1) 0)=true) :
 wpS (model prog w) A E s (y4x (im f X) (im f Y) (im f r.reverse) na nb mg ac bc) (y4S lt f X Y L st0) st:=by
 unfold y4x
 refine wpS_bind (z0O (z0r (by omega)) ?_)
 have h':MgH lt X Y (Y.getD (nb - 1) 0 :: r) na (nb - 1):=by
  have:=h.takeB C.sy (k:=nb - 1) (by omega) (by rw[z5x (by omega) h2'];intro x hx y hy;rw[jM.mp hy];exact hc x hx)
  rw[z5x (by omega) h2']at this
  exact this
 have hL':L<=(Y.getD (nb - 1) 0 :: r).length:=by rw[jx];omega
 rw[z6K]
 by_cases c:nb - 1=1
 · rw[if_pos (beq_iff_eq.mpr c),z2s]
   exact wpS_pure (.inl ⟨_,rfl,h'.first C.sx C.sy (z9U first c),g⟩)
 rw[if_neg (fun z=>c (beq_iff_eq.mp z))]
 refine wpS_bind (z0O (z0r (by omega)) ?_)
 refine wpS_bind (z2P T hk (B:=fun i=>lt (Y.getD (0 + i) 0) (X.getD (na - 1) 0)) (by omega) (fun i hi=>⟨_,z0r (by omega),C.hy (by omega),(C.ne (by omega) (by omega)).symm,rfl⟩) (C.hx (by omega)) (fun i j hij hj e=>T.O.trans _ _ _ (C.hy (by omega)) (C.hy (by omega)) (C.hx (by omega)) (z3M C.sy (by omega) (by omega)) e) fun k hk1 hk2 hk3=>?_)
 dsimp only
 have up:∀ i,k<=i->i < nb - 1->lt (X.getD (na - 1) 0) (Y.getD i 0)=true:=fun i i1 i2=>by
  have:=hk3 i i1 i2
  rw[Nat.zero_add]at this
  exact T.O.conn _ _ (C.hy (by omega)) (C.hx (by omega)) (C.ne (by omega) (by omega)).symm this
 have cut:∀ x∈X.take na,∀ y∈(Y.drop k).take (nb - 1 - k),lt x y=true:=fun x hx y hy=>by
  obtain⟨j,j1,j2,j3,rfl⟩:=z1D hy
  exact C.aboveX T.O (C.hy j3) h1 h1' (up j j1 (by omega)) x hx
 have h3:=h'.takeB C.sy hk1 cut
 have hL3:L<=((Y.drop k).take (nb - 1 - k) ++ Y.getD (nb - 1) 0 :: r).length:=by rw[jG];omega
 have rest:0 < k->∀ x∈Y.take k,lt x (X.getD (na - 1) 0)=true:=fun k0=>by
  refine C.aboveY T.O (C.hx (by omega)) k0 (by omega) ?_
  have:=hk2 (k - 1) (by omega)
  rwa [Nat.zero_add]at this
 by_cases k0:nb - 1 - k > 0
 · rw[if_pos k0,y5s]
   by_cases c1:k=1
   · rw[if_pos (beq_iff_eq.mpr c1),z2s]
     exact wpS_pure (.inl ⟨_,rfl,h3.first C.sx C.sy (z9U first c1),g⟩)
   rw[if_neg (fun z=>c1 (beq_iff_eq.mp z))]
   by_cases c2:k=0
   · rw[if_pos (beq_iff_eq.mpr c2),z2s]
     exact wpS_pure (.inl ⟨_,rfl,h3.done C.sx C.sy (.inr c2),g⟩)
   rw[if_neg (fun z=>c2 (beq_iff_eq.mp z))]
   exact z9m T C h3 h1 h1' (by omega) (by omega) hL3 g (rest (by omega))
 · rw[if_neg k0]
   have:k=nb - 1:=by omega
   subst this
   exact z9m T C h' h1 h1' (by omega) (by omega) hL' g (rest (by omega))
theorem y3E(T:TC prog w A s κ n lt f){st st0:SortSt}(hk:kindOf st0=κ){X Y r:List Nat}(C:MgC n lt X Y)(first:∀ y∈X,lt (Y.getD 0 0) y=true){na nb mg ac bc L:Nat}(h:MgH lt X Y r na nb)(h1:0 < na)(h1':na<=X.length)(h2:1 < nb)(h2':nb<=Y.length)(hL:L<=r.length)(g:Gs st0 st) :
 wpS (model prog w) A E s (z7O (im f X) (im f Y) (im f r.reverse) na nb mg ac bc) (y4S lt f X Y L st0) st:=by
 unfold z7O
 refine wpS_bind (z9k fun st1 g1'=>?_)
 have g1:=g.trans g1'
 have hk1:kindOf st1=κ:=g1.1.trans hk
 refine wpS_bind (z0O (z0r (by omega)) ?_)
 refine wpS_bind (z2P T hk1 (B:=fun i=>lt (X.getD (0 + i) 0) (Y.getD (nb - 1) 0)) (by omega) (fun i hi=>⟨_,z0r (by omega),C.hx (by omega),C.ne (by omega) (by omega),rfl⟩) (C.hy (by omega)) (fun i j hij hj e=>T.O.trans _ _ _ (C.hx (by omega)) (C.hx (by omega)) (C.hy (by omega)) (z3M C.sx (by omega) (by omega)) e) fun k hk1' hk2 hk3=>?_)
 dsimp only
 have up:∀ i,k<=i->i < na->lt (Y.getD (nb - 1) 0) (X.getD i 0)=true:=fun i i1 i2=>by
  have:=hk3 i i1 i2
  rw[Nat.zero_add]at this
  exact T.O.conn _ _ (C.hx (by omega)) (C.hy (by omega)) (C.ne (by omega) (by omega)) this
 have cut:∀ x∈Y.take nb,∀ y∈(X.drop k).take (na - k),lt x y=true:=fun x hx y hy=>by
  obtain⟨j,j1,j2,j3,rfl⟩:=z1D hy
  exact C.aboveY T.O (C.hx j3) (by omega) h2' (up j j1 (by omega)) x hx
 have h3:=h.takeA C.sx hk1' cut
 have hL3:L<=((X.drop k).take (na - k) ++ r).length:=by rw[jG];omega
 have rest:0 < k->∀ x∈X.take k,lt x (Y.getD (nb - 1) 0)=true:=fun k0=>by
  refine C.aboveX T.O (C.hy (by omega)) k0 (by omega) ?_
  have:=hk2 (k - 1) (by omega)
  rwa [Nat.zero_add]at this
 by_cases k0:na - k > 0
 · rw[if_pos k0,y5s]
   by_cases c1:k=0
   · rw[if_pos (beq_iff_eq.mpr c1),z2s]
     exact wpS_pure (.inl ⟨_,rfl,h3.done C.sx C.sy (.inl c1),g1⟩)
   rw[if_neg (fun z=>c1 (beq_iff_eq.mp z))]
   exact y1l T hk1 C first h3 (by omega) (by omega) h2 h2' hL3 g1 (rest (by omega))
 · rw[if_neg k0]
   have:k=na:=by omega
   subst this
   exact y1l T hk1 C first h h1 h1' h2 h2' hL g1 (rest (by omega))
theorem y1h(T:TC prog w A s κ n lt f){st:SortSt}(hk:kindOf st=κ){X Y:List Nat}(C:MgC n lt X Y)(x0:0 < X.length)(y0:0 < Y.length)(first:∀ y∈X,lt (Y.getD 0 0) y=true)(last:∀ x∈Y,lt x (X.getD (X.length - 1) 0)=true)
 {Q:Array Keyed->SortSt->Prop} (h:∀ Z st',MgD lt X Y Z->Gs st st'->Q (im f Z) st'):wpS (model prog w) A E s (y4k (im f X) (im f Y)) Q st:=by
 refine wpS_bind (z5B ?_)
 dsimp only
 have ez:(im f X).size - 1=X.length - 1:=by rw[z0n]
 have ey:(im f Y).size=Y.length:=z0n f Y
 have ex:(im f X).size=X.length:=z0n f X
 rw[ez,ey]
 refine wpS_bind (z0O (z0r (by omega)) ?_)
 have e0:#[f (X.getD (X.length - 1) 0)]=im f [X.getD (X.length - 1) 0].reverse:=rfl
 have hs:MgH lt X Y [] X.length Y.length:=⟨by rw[jy,jy,k7],List.Pairwise.nil,fun x _ y hy=>nomatch hy⟩
 have h0:MgH lt X Y [X.getD (X.length - 1) 0] (X.length - 1) Y.length:=by
  have:=hs.takeA C.sx (k:=X.length - 1) (by omega) (by rw[z5x x0 (jE _)];intro x hx y hy;rw[jM.mp hy];exact last x (kG hx))
  rw[z5x x0 (jE _)]at this
  exact this
 rw[e0]
 by_cases c1:X.length - 1=0
 · rw[if_pos (beq_iff_eq.mpr c1)]
   refine wpS_pure ?_
   rw[z2s]
   exact h _ _ (h0.done C.sx C.sy (.inl c1)) (Gs.refl _)
 rw[if_neg (fun z=>c1 (beq_iff_eq.mp z))]
 by_cases c2:Y.length=1
 · rw[if_pos (beq_iff_eq.mpr c2)]
   refine wpS_pure ?_
   rw[z2s]
   exact h _ _ (h0.first C.sx C.sy (z9U first c2)) (Gs.refl _)
 rw[if_neg (fun z=>c2 (beq_iff_eq.mp z))]
 refine wpS_bind (wpS_get ?_)
 rw[ex]
 refine wpS_bind (wpS_mono (wpS_forRange (I:=fun x c st'=>c.1=none/\HiP lt f X Y (x + 1) st c.2.1 c.2.2.1 c.2.2.2.1 st') (Q:=fun c st'=>LoE lt f X Y st c.1 st') ?_ ?_ ⟨rfl,_,rfl,h0,by show 0 < X.length - 1;omega,by show X.length - 1<=X.length;omega,by show 1 < Y.length;omega,jE _,jE _,Gs.refl _⟩) ?_)
 · rintro x ⟨r,na,nb,out,mg⟩ st' _ hx ⟨rfl,o,rfl,m1,m2,m2',m3,m3',m4,g⟩
   dsimp only
   refine wpS_bind (wpS_mono (wpS_forRange (I:=fun y (c:Option (Array Keyed)×Nat×Nat×Array Keyed×Nat×Nat) st'=>c.1=none/\HiP lt f X Y (x + 1 + y) st c.2.1 c.2.2.1 c.2.2.2.1 st') (Q:=fun c st'=>LoE lt f X Y st c.1 st'\/(c.1=none/\HiP lt f X Y (x + 1 + 1) st c.2.1 c.2.2.1 c.2.2.2.1 st')) ?_ ?_ ⟨rfl,o,rfl,m1,m2,m2',m3,m3',m4,g⟩) ?_)
   · rintro y ⟨r,na,nb,out,ac,bc⟩ st' _ hy ⟨rfl,o,rfl,m1,m2,m2',m3,m3',m4,g⟩
     dsimp only
     dsimp only at m1 m2 m2' m3 m3' m4
     refine wpS_bind (z0O (z0r (by omega)) ?_)
     refine wpS_bind (z0O (z0r (by omega)) ?_)
     refine wpS_bind (y7s T (g.1.trans hk) (C.hy (by omega)) (C.hx (by omega)) (C.ne (by omega) (by omega)).symm ?_)
     dsimp only
     cases hw:lt (Y.getD (nb - 1) 0) (X.getD (na - 1) 0) with
     | true =>
      rw[if_pos rfl]
      refine wpS_bind (z0O (z0r (by omega)) ?_)
      have h':MgH lt X Y (X.getD (na - 1) 0 :: o) (na - 1) nb:=by
       have:=m1.takeA C.sx (k:=na - 1) (by omega) (by rw[z5x m2 m2'];intro x hx y hy;rw[jM.mp hy];exact C.aboveY T.O (C.hx (by omega)) (by omega) m3' hw x hx)
       rw[z5x m2 m2']at this
       exact this
      have hL:(X.getD (na - 1) 0 :: o).length=o.length + 1:=rfl
      rw[z6K]
      by_cases d:na - 1=0
      · rw[if_pos (beq_iff_eq.mpr d),z2s]
        exact wpS_pure (.inl ⟨_,rfl,h'.done C.sx C.sy (.inl d),g⟩)
      rw[if_neg (fun z=>d (beq_iff_eq.mp z))]
      split
      · exact wpS_pure (.inr ⟨rfl,_,rfl,h',by show 0 < na - 1;omega,by show na - 1<=_;omega,m3,m3',by omega,g⟩)
      · exact wpS_pure ⟨rfl,_,rfl,h',by show 0 < na - 1;omega,by show na - 1<=_;omega,m3,m3',by omega,g⟩
     | false =>
      rw[if_neg (by decide)]
      refine wpS_bind (z0O (z0r (by omega)) ?_)
      have hw':=T.O.conn _ _ (C.hy (by omega)) (C.hx (by omega)) (C.ne (by omega) (by omega)).symm hw
      have h':MgH lt X Y (Y.getD (nb - 1) 0 :: o) na (nb - 1):=by
       have:=m1.takeB C.sy (k:=nb - 1) (by omega) (by rw[z5x (by omega) m3'];intro x hx y hy;rw[jM.mp hy];exact C.aboveX T.O (C.hy (by omega)) m2 m2' hw' x hx)
       rw[z5x (by omega) m3']at this
       exact this
      have hL:(Y.getD (nb - 1) 0 :: o).length=o.length + 1:=rfl
      rw[z6K]
      by_cases d:nb - 1=1
      · rw[if_pos (beq_iff_eq.mpr d),z2s]
        exact wpS_pure (.inl ⟨_,rfl,h'.first C.sx C.sy (z9U first d),g⟩)
      rw[if_neg (fun z=>d (beq_iff_eq.mp z))]
      split
      · exact wpS_pure (.inr ⟨rfl,_,rfl,h',m2,m2',by show 1 < nb - 1;omega,by show nb - 1<=_;omega,by omega,g⟩)
      · exact wpS_pure ⟨rfl,_,rfl,h',m2,m2',by show 1 < nb - 1;omega,by show nb - 1<=_;omega,by omega,g⟩
   · rintro⟨r,na,nb,out,ac,bc⟩ st' ⟨rfl,o,rfl,m1,m2,m2',m3,m3',m4,g⟩
     exact .inr ⟨rfl,o,rfl,m1,m2,m2',m3,m3',by omega,g⟩
   · rintro⟨r,na,nb,out,ac,bc⟩ st' (⟨Z,e,d,g⟩ | ⟨rfl,o,rfl,m1,m2,m2',m3,m3',m4,g⟩)
     · dsimp only at e
       subst e
       exact wpS_pure ⟨Z,rfl,d,g⟩
     · dsimp only
       dsimp only at m1 m2 m2' m3 m3' m4
       refine wpS_bind (z5B ?_)
       refine wpS_bind (wpS_mono (wpS_forRange (I:=fun y (c:HiR) st'=>c.1=none/\HiP lt f X Y (x + 1 + 1) st c.2.1 c.2.2.1 c.2.2.2.1 st') (Q:=HiQ lt f X Y (x + 1 + 1) st) ?_ ?_ ⟨rfl,o,rfl,m1,m2,m2',m3,m3',m4,g⟩) ?_)
       · rintro y ⟨r,na,nb,out,mg,ac,bc⟩ st' _ hy ⟨rfl,o,rfl,m1,m2,m2',m3,m3',m4,g⟩
         have hh:∀ mg,wpS (model prog w) A E s (z7O (im f X) (im f Y) (im f o.reverse) na nb mg ac bc) (y4S lt f X Y (x + 1 + 1) st) st':=fun mg=>y3E T hk C first m1 m2 m2' m3 m3' m4 g
         by_cases c:mg > 1
         · refine Eq.mpr (congrArg (fun m=>wpS (model prog w) A E s m _ st') (if_pos c)) ?_
           refine Eq.mpr (congrArg (fun m=>wpS (model prog w) A E s m _ st') (show _=z7O (im f X) (im f Y) (im f o.reverse) na nb (mg - 1) ac bc from by kernel_rfl)) ?_
           exact wpS_mono (hh (mg - 1)) fun a st' h=>by cases a <;> exact h
         · refine Eq.mpr (congrArg (fun m=>wpS (model prog w) A E s m _ st') (if_neg c)) ?_
           refine Eq.mpr (congrArg (fun m=>wpS (model prog w) A E s m _ st') (show _=z7O (im f X) (im f Y) (im f o.reverse) na nb mg ac bc from by kernel_rfl)) ?_
           exact wpS_mono (hh mg) fun a st' h=>by cases a <;> exact h
       · rintro c st' ⟨e,hP⟩
         exact .inr ⟨e,hP⟩
       · rintro⟨r,na,nb,out,mg,ac,bc⟩ st' (⟨Z,e,d,g⟩ | ⟨rfl,o,rfl,m1,m2,m2',m3,m3',m4,g⟩)
         · dsimp only at e
           subst e
           exact wpS_pure ⟨Z,rfl,d,g⟩
         · dsimp only
           refine wpS_bind (z9k fun st2 g2=>?_)
           exact wpS_pure ⟨rfl,o,rfl,m1,m2,m2',m3,m3',m4,g.trans g2⟩
 · rintro⟨r,na,nb,out,mg⟩ st' ⟨rfl,o,rfl,m1,m2,m2',m3,m3',m4,g⟩
   have:=m1.len
   omega
 · rintro⟨r,na,nb,out,mg⟩ st' ⟨Z,e,d,g⟩
   dsimp only at e
   subst e
   exact wpS_pure (h Z st' d g)
end
section
variable {prog:Program}{w:World}{A:Around}{E:Value->Shared->Prop}{s:Shared}{κ:SortKind}{n:Nat}{lt:Nat->Nat->Bool}{f:Nat->Keyed}
theorem z9T(f:Nat->Keyed)(b:Nat):∀ (Z M P S:List Nat) (k:Nat),M.length=Z.length->P.length=b + k->((Z.map f).zipIdx k).foldl (fun a (x:Keyed×Nat)=>a.setIfInBounds (b + x.2) x.1) (im f (P ++ (M ++ S)))=im f (P ++ (Z ++ S))
 | [],M,P,S,k,h1,h2=>by
  have:M=[]:=List.eq_nil_of_length_eq_zero h1
  subst this;rfl
 | z :: Z,[],P,S,k,h1,h2=>by simp at h1
 | z :: Z,m :: M,P,S,k,h1,h2=>by
  show ((Z.map f).zipIdx (k + 1)).foldl _ ((im f (P ++ (m :: M ++ S))).setIfInBounds (b + k) (f z))=_
  have e:(im f (P ++ (m :: M ++ S))).setIfInBounds (b + k) (f z)=im f ((P ++ [z]) ++ (M ++ S)):=by
   unfold im
   rw[<- h2]
   apply Array.toList_inj.mp
   rw[Array.toList_setIfInBounds]
   simp[List.set_append]
  rw[e,z9T f b Z M (P ++ [z]) S (k + 1) (by simpa using h1) (by rw[jG];simp;omega)]
  simp
theorem y5B{σ:Type}{st st':σ}{Q:PUnit->σ->Prop}{M:Model}(h:Q ⟨⟩ st'):wpS M A E s (set st':StateT σ Sem PUnit) Q st:=by
 unfold wpS;rw[StateT.run_set];exact wpAny_pure ⟨rfl,h⟩
theorem z8W{P X R:List Nat}{i:Nat}(h:i < X.length):(P ++ (X ++ R))[P.length + i]? = some (X.getD i 0):=by
 rw[jz (by omega),Nat.add_sub_cancel_left,kH h]
 exact z0r h
theorem y3h{P X Y R:List Nat}{i:Nat}(h:i < Y.length):(P ++ (X ++ (Y ++ R)))[P.length + X.length + i]? = some (Y.getD i 0):=by
 rw[<- ji,<- jG]
 exact z8W h
theorem y2M(l:List Nat)(k i:Nat):(l.drop k).getD i 0=l.getD (k + i) 0:=by
 rw[jC,List.getElem?_drop,<- jC]
theorem y2L{l:List Nat}{k i:Nat}(h:i < k):(l.take k).getD i 0=l.getD i 0:=by
 rw[jC,ka h,<- jC]
theorem y1i(T:TC prog w A s κ n lt f){st:SortSt}(hk:kindOf st=κ)(hf:failedOf st=none){i:Nat}{P X Y S:List Nat}{pw pw2:Nat}(ha:arrOf st=im f (P ++ (X ++ (Y ++ S))))(C:MgC n lt X Y)(x0:0 < X.length)(y0:0 < Y.length)
 (e1:(pendingOf st)[i]? = some (P.length,X.length,pw)) (e2:(pendingOf st)[i + 1]? = some (P.length + X.length,Y.length,pw2)) {Q:Bool->SortSt->Prop}
 (h:∀ (Z:List Nat) (st':SortSt),MgD lt X Y Z->kindOf st'=κ->arrOf st'=im f (P ++ (Z ++ S))->failedOf st'=none->pendingOf st'=((pendingOf st).setIfInBounds i (P.length,X.length + Y.length,pw)).eraseIdxIfInBounds (i + 1)->Q true st'):wpS (model prog w) A E s (mergeAt' i) Q st:=by
 refine wpS_bind (wpS_get ?_)
 rw[e1,e2]
 dsimp only
 refine wpS_bind (y5B ?_)
 obtain⟨st1,est1⟩:∃ st1,st1=SortSt.mk' (kindOf st) (arrOf st) (((pendingOf st).setIfInBounds i (P.length,X.length + Y.length,pw)).eraseIdxIfInBounds (i + 1)) (gallopOf st) (failedOf st):=⟨_,rfl⟩
 have k1:kindOf st1=κ:=by rw[est1];exact hk
 have a1:arrOf st1=im f (P ++ (X ++ (Y ++ S))):=by rw[est1];exact ha
 have f1:failedOf st1=none:=by rw[est1];exact hf
 have p1:pendingOf st1=((pendingOf st).setIfInBounds i (P.length,X.length + Y.length,pw)).eraseIdxIfInBounds (i + 1):=by rw[est1]
 change wpS (model prog w) A E s _ Q (SortSt.mk' (kindOf st) (arrOf st) (((pendingOf st).setIfInBounds i (P.length,X.length + Y.length,pw)).eraseIdxIfInBounds (i + 1)) (gallopOf st) (failedOf st))
 rw[<- est1]
 have ha':=ha
 unfold arrOf at ha'
 rw[ha']
 have ey0:(P ++ (X ++ (Y ++ S)))[P.length + X.length]? = some (Y.getD 0 0):=by
  have:=y3h (P:=P) (X:=X) (R:=S) y0
  rwa [Nat.add_zero]at this
 refine wpS_bind (z0O ey0 ?_)
 refine wpS_bind (z2P T k1 (B:=fun i=>lt (X.getD i 0) (Y.getD 0 0)) x0 (fun i hi=>⟨_,z8W hi,C.hx hi,C.ne hi y0,rfl⟩) (C.hy y0) (fun i j hij hj e=>T.O.trans _ _ _ (C.hx (by omega)) (C.hx hj) (C.hy y0) (z3M C.sx hij hj) e) fun k hk1 hk2 hk3=>?_)
 dsimp only
 have plain:(∀ x∈X,∀ y∈Y,lt x y=true)->Q true st1:=fun c=>h (X ++ Y) st1 ⟨List.Perm.refl _,jp.mpr ⟨C.sx,C.sy,c⟩⟩ k1 (by rw[a1,ji]) f1 p1
 by_cases c0:X.length - k=0
 · rw[if_pos (beq_iff_eq.mpr c0)]
   refine wpS_pure (plain fun x hx y hy=>?_)
   obtain⟨j,j2,rfl⟩:∃ j,j < X.length/\x=X.getD j 0:=by
    obtain⟨j,hj⟩:=qN.mp hx
    exact⟨j,(jH.mp hj).1,by rw[jC,hj];rfl⟩
   exact C.belowY T.O (C.hx j2) y0 (hk2 j (by omega)) y (by rw[qM];exact hy)
 rw[if_neg (fun z=>c0 (beq_iff_eq.mp z))]
 have klt:k < X.length:=by omega
 have elast:(P ++ (X ++ (Y ++ S)))[P.length + k + (X.length - k) - 1]? = some (X.getD (X.length - 1) 0):=by
  rw[show P.length + k + (X.length - k) - 1=P.length + (X.length - 1) by omega]
  exact z8W (by omega)
 refine wpS_bind (z0O elast ?_)
 refine wpS_bind (z2P T k1 (B:=fun i=>lt (Y.getD i 0) (X.getD (X.length - 1) 0)) (by omega) (fun i hi=>⟨_,y3h hi,C.hy hi,(C.ne (by omega) hi).symm,rfl⟩) (C.hx (by omega)) (fun i j hij hj e=>T.O.trans _ _ _ (C.hy (by omega)) (C.hy hj) (C.hx (by omega)) (z3M C.sy hij hj) e) fun m hm1 hm2 hm3=>?_)
 dsimp only
 have above:∀ j,m<=j->j < Y.length->∀ x∈X,lt x (Y.getD j 0)=true:=fun j j1 j2 x hx=>by
  have:=T.O.conn _ _ (C.hy j2) (C.hx (by omega)) (C.ne (by omega) j2).symm (hm3 j j1 j2)
  exact C.aboveX T.O (C.hy j2) x0 (jE _) this x (by rw[jy];exact hx)
 by_cases c1:m=0
 · rw[if_pos (beq_iff_eq.mpr c1)]
   refine wpS_pure (plain fun x hx y hy=>?_)
   obtain⟨j,j1,j2,rfl⟩:=z2T (l:=Y) (i:=0) (by rw[qM];exact hy)
   exact above j (by omega) j2 x hx
 rw[if_neg (fun z=>c1 (beq_iff_eq.mp z))]
 have exX:(im f (P ++ (X ++ (Y ++ S)))).extract (P.length + k) (P.length + X.length)=im f (X.drop k):=by
  rw[z4j]
  congr 1
  rw[<- qB,List.drop_left,List.drop_append_of_le_length (by omega),show P.length + X.length - (P.length + k)=(X.drop k).length by rw[js];omega,List.take_left]
 have exY:(im f (P ++ (X ++ (Y ++ S)))).extract (P.length + X.length) (P.length + X.length + m)=im f (Y.take m):=by
  rw[z4j]
  congr 1
  rw[<- qB,List.drop_left,List.drop_left,Nat.add_sub_cancel_left,List.take_append_of_le_length hm1]
 have C':MgC n lt (X.drop k) (Y.take m):=by
  have sub:((X.drop k) ++ (Y.take m)).Sublist (X ++ Y):=(kX _ _).append (kQ _ _)
  exact⟨fun x hx=>C.hn x (sub.subset hx),C.nd.sublist sub,C.sx.sublist (kX _ _),C.sy.sublist (kQ _ _)⟩
 have x0':0 < (X.drop k).length:=by rw[js];omega
 have y0':0 < (Y.take m).length:=by rw[jS];omega
 have firstL:∀ y∈X.drop k,lt ((Y.take m).getD 0 0) y=true:=fun y hy=>by
  rw[y2L (by omega)]
  exact C.belowX T.O (C.hy y0) klt (T.O.conn _ _ (C.hx klt) (C.hy y0) (C.ne klt y0) (hk3 k (jE _) klt)) y hy
 have lastE:(X.drop k).getD ((X.drop k).length - 1) 0=X.getD (X.length - 1) 0:=by
  rw[y2M,js];congr 1;omega
 have lastL:∀ x∈Y.take m,lt x ((X.drop k).getD ((X.drop k).length - 1) 0)=true:=fun x hx=>by
  rw[lastE]
  obtain⟨j,j1,j2,rfl⟩:=z2Q hx
  exact hm2 j j1
 have fin:∀ Z st2,MgD lt (X.drop k) (Y.take m) Z->Gs st1 st2->wpS (model prog w) A E s (do
  modify fun s=>setArr s ((im f Z).toList.zipIdx.foldl (fun a (p,j)=>a.setIfInBounds (P.length + k + j) p) (arrOf s))
  return (failedOf (<- get)).isNone) Q st2:=fun Z st2 d g=>by
  refine wpS_bind (wpS_modify ?_)
  refine wpS_bind (wpS_get (wpS_pure ?_))
  have ef:failedOf (setArr st2 ((im f Z).toList.zipIdx.foldl (fun a (p,j)=>a.setIfInBounds (P.length + k + j) p) (arrOf st2)))=none:=g.2.2.2.trans f1
  rw[ef]
  have lz:Z.length=(X.drop k).length + (Y.take m).length:=by rw[d.1.length_eq,jG]
  refine h (X.take k ++ (Z ++ Y.drop m)) _ ⟨?_,?_⟩ (g.1.trans k1) ?_ ef (g.2.2.1.trans p1)
  · have e:X ++ Y=X.take k ++ ((X.drop k ++ Y.take m) ++ Y.drop m):=by
     rw[ji,jq,<- ji,jq]
    rw[e]
    exact List.Perm.append_left _ (List.Perm.append_right _ d.1)
  · refine jp.mpr ⟨C.sx.sublist (kQ _ _),jp.mpr ⟨d.2,C.sy.sublist (kX _ _),fun x hx y hy=>?_⟩,fun x hx y hy=>?_⟩
    · obtain⟨j,j1,j2,rfl⟩:=z2T hy
      rcases jL.mp (d.1.mem_iff.mp hx) with z | z
      · exact above j j1 j2 x (List.mem_of_mem_drop z)
      · obtain⟨i',i1,i2,rfl⟩:=z2Q z
        exact z3M C.sy (by omega) j2
    · obtain⟨i',i1,i2,rfl⟩:=z2Q hx
      have bY:∀ y∈Y,lt (X.getD i' 0) y=true:=fun y hy=>C.belowY T.O (C.hx i2) y0 (hk2 i' i1) y (by rw[qM];exact hy)
      rcases jL.mp hy with z | z
      · rcases jL.mp (d.1.mem_iff.mp z) with z | z
        · obtain⟨j,j1,j2,rfl⟩:=z2T z
          exact z3M C.sx (by omega) j2
        · exact bY y (kG z)
      · exact bY y (List.mem_of_mem_drop z)
  · show (im f Z).toList.zipIdx.foldl (fun a (x:Keyed×Nat)=>a.setIfInBounds (P.length + k + x.2) x.1) (arrOf st2)=_
    have el:P ++ (X ++ (Y ++ S))=(P ++ X.take k) ++ ((X.drop k ++ Y.take m) ++ (Y.drop m ++ S)):=by
     conv=>lhs;rw[<- jq k X,<- jq m Y]
     simp only[ji]
    rw[show arrOf st2=im f ((P ++ X.take k) ++ ((X.drop k ++ Y.take m) ++ (Y.drop m ++ S))) by rw[g.2.1,a1,el]]
    have:=z9T f (P.length + k) Z (X.drop k ++ Y.take m) (P ++ X.take k) (Y.drop m ++ S) 0 (by rw[jG,lz]) (by rw[jG,jS];omega)
    refine Eq.trans (Eq.trans ?_ this) ?_
    · rfl
    · congr 1
      simp only[ji]
 rw[exX,exY]
 by_cases cc:X.length - k<=m
 · rw[if_pos cc]
   refine wpS_bind (y1g T k1 C' x0' y0' firstL (fun x hx y hy=>?_) fun Z st2 d g=>?_)
   · obtain⟨j,j1,j2,rfl⟩:=z2T hy
     rw[show j=(X.drop k).length - 1 by omega]
     exact lastL x hx
   · exact fin Z st2 d g
 · rw[if_neg cc]
   refine wpS_bind (y1h T k1 C' x0' y0' firstL lastL fun Z st2 d g=>?_)
   exact fin Z st2 d g
end
section
variable {prog:Program}{w:World}{A:Around}{E:Value->Shared->Prop}{s:Shared}{κ:SortKind}{n:Nat}{lt:Nat->Nat->Bool}{f:Nat->Keyed}
structure Ts (κ:SortKind) (f:Nat->Keyed) (n:Nat) (l:List Nat) (st:SortSt):Prop where
 k:kindOf st=κ
 a:arrOf st=im f l
 pm:l.Perm (List.range n)
 fl:failedOf st=none
theorem Ts.len{l:List Nat}{st:SortSt}(t:Ts κ f n l st):l.length=n:=by rw[t.pm.length_eq,qO]
theorem Ts.lts{l:List Nat}{st:SortSt}(t:Ts κ f n l st){i:Nat}(h:i < n):l.getD i 0 < n:=by
 have:=t.pm.mem_iff.mp (z3E (l:=l) (i:=i) (by rw[t.len];exact h))
 exact List.mem_range.mp this
theorem Ts.ne{l:List Nat}{st:SortSt}(t:Ts κ f n l st){i j:Nat}(hi:i < n)(hj:j < n)(hij:i≠j):l.getD i 0≠l.getD j 0:=fun e=>by
 have nd:l.Nodup:=t.pm.nodup_iff.mpr List.nodup_range
 have h1:=z0r (l:=l) (i:=i) (by rw[t.len];exact hi)
 have h2:=z0r (l:=l) (i:=j) (by rw[t.len];exact hj)
 rw[e]at h1
 obtain⟨a1,b1⟩:=jH.mp h1
 obtain⟨a2,b2⟩:=jH.mp h2
 exact hij ((qI nd).mp (b1.trans b2.symm))
theorem z5C(T:TC prog w A s κ n lt f){l:List Nat}{st:SortSt}(t:Ts κ f n l st){i j:Nat}(hi:i < n)(hj:j < n)(hij:i≠j){Q:Option Bool->SortSt->Prop}(h:Q (some (lt (l.getD i 0) (l.getD j 0))) st):wpS (model prog w) A E s (ltAt' i j) Q st:=by
 rw[ltAt'_eq]
 refine wpS_bind (wpS_get ?_)
 show wpS _ _ _ _ (do let x <- elem' (arrOf st) i;let y <- elem' (arrOf st) j;lt' x y) Q st
 rw[t.a]
 refine wpS_bind (z0O (z0r (by rw[t.len];exact hi)) ?_)
 refine wpS_bind (z0O (z0r (by rw[t.len];exact hj)) ?_)
 exact y7s T t.k (t.lts hi) (t.lts hj) (t.ne hi hj hij) h
def Ris(lt:Nat->Nat->Bool)(l:List Nat)(lo m:Nat):Prop:=∀ i j,lo<=i->i < j->j < lo + m->lt (l.getD i 0) (l.getD j 0)=true
def Fal(lt:Nat->Nat->Bool)(l:List Nat)(lo m:Nat):Prop:=∀ i j,lo<=i->i < j->j < lo + m->lt (l.getD j 0) (l.getD i 0)=true
theorem Ris.snoc(O:SOrd n lt){l:List Nat}{st:SortSt}(t:Ts κ f n l st){lo m:Nat}(h:Ris lt l lo m)(h1:1<=m)(hn:lo + m < n)(e:lt (l.getD (lo + m - 1) 0) (l.getD (lo + m) 0)=true):Ris lt l lo (m + 1):=fun i j hi hij hj=>by
 by_cases c:j < lo + m
 · exact h i j hi hij c
 · have:j=lo + m:=by omega
   subst this
   by_cases d:i=lo + m - 1
   · rw[d];exact e
   · exact O.trans _ _ _ (t.lts (by omega)) (t.lts (by omega)) (t.lts hn) (h i (lo + m - 1) hi (by omega) (by omega)) e
theorem Fal.snoc(O:SOrd n lt){l:List Nat}{st:SortSt}(t:Ts κ f n l st){lo m:Nat}(h:Fal lt l lo m)(h1:1<=m)(hn:lo + m < n)(e:lt (l.getD (lo + m) 0) (l.getD (lo + m - 1) 0)=true):Fal lt l lo (m + 1):=fun i j hi hij hj=>by
 by_cases c:j < lo + m
 · exact h i j hi hij c
 · have:j=lo + m:=by omega
   subst this
   by_cases d:i=lo + m - 1
   · rw[d];exact e
   · exact O.trans _ _ _ (t.lts hn) (t.lts (by omega)) (t.lts (by omega)) e (h i (lo + m - 1) hi (by omega) (by omega))
def Out(l l':List Nat)(lo hi:Nat):Prop:=∀ i,(i < lo\/hi<=i)->l'.getD i 0=l.getD i 0
def y1L(l:List Nat)(i j:Nat):List Nat:=(mirror l.toArray i j ((j - i) / 2)).toList
theorem z5h(a:Array Nat)(i:Nat):a.toList.getD i 0=(a[i]?).getD 0:=by rw[jC,kN]
theorem z6t{l:List Nat}{i j:Nat}(hj:j<=l.length)(k:Nat):(y1L l i j).getD k 0=if i<=k/\k < j then l.getD (i + j - 1 - k) 0 else l.getD k 0:=by
 unfold y1L
 rw[z5h,getElem?_mirror_all (by simpa using hj)]
 split
 · rw[kZ,<- jC]
 · rw[kZ,<- jC]
theorem y1K(l:List Nat)(i j:Nat):(y1L l i j).Perm l:=by
 have:=mirror_perm l.toArray i j ((j - i) / 2)
 exact kR.mp this
theorem z1H(f:Nat->Keyed)(l:List Nat):im f l=l.toArray.map f:=by simp[im]
theorem y8Y{l:List Nat}{st:SortSt}(t:Ts κ f n l st){i j:Nat}{Q:Unit->SortSt->Prop}(h:∀ st',Ts κ f n (y1L l i j) st'->pendingOf st'=pendingOf st->Q () st'):wpS (model prog w) A E s (reverseSlice' i j) Q st:=by
 rw[reverseSlice'_eq]
 refine wpS_modify (h _ ⟨t.k,?_,(y1K l i j).trans t.pm,t.fl⟩ rfl)
 show mirror (arrOf st) i j ((j - i) / 2)=_
 rw[t.a,z1H,z1H]
 have e1:mirror (l.toArray.map f) i j ((j - i) / 2)=(mirror l.toArray i j ((j - i) / 2)).map f:=kas_swaps_map f (fun k=>i + k) (fun k=>j - 1 - k) _ _
 rw[e1]
 unfold y1L
 rw[Array.toArray_toList]
theorem y5I(T:TC prog w A s κ n lt f){l:List Nat}{st:SortSt}(t:Ts κ f n l st){lo nrem:Nat}(h1:1<=nrem)(hn:lo + nrem<=n){Q:Option Nat->SortSt->Prop}
 (h:∀ m l' st',1<=m->m<=nrem->Ts κ f n l' st'->pendingOf st'=pendingOf st->Out l l' lo (lo + m)->Ris lt l' lo m->Q (some m) st'):wpS (model prog w) A E s (countRun' lo nrem) Q st:=by
 have one:∀ (l:List Nat),Ris lt l lo 1:=fun l i j hi hij hj=>absurd hij (by omega)
 refine wpS_bind (wpS_mono (wpS_forRange (I:=fun x c st'=>st'=st/\c=(none,x)/\Ris lt l lo x) (Q:=fun c st'=>st'=st/\∃ m,c=(none,m)/\1<=m/\m<=nrem/\Ris lt l lo m/\(m < nrem->lt (l.getD (lo + m) 0) (l.getD (lo + m - 1) 0)=true)) ?_ ?_ ⟨rfl,rfl,one l⟩) ?_)
 · rintro x c st' hx1 hx2 ⟨rfl,rfl,r⟩
   dsimp only
   refine wpS_bind (z5C T t (by omega) (by omega) (by omega) ?_)
   dsimp only
   cases e:lt (l.getD (lo + x) 0) (l.getD (lo + x - 1) 0) with
   | true=>exact wpS_pure ⟨rfl,x,rfl,hx1,by omega,r,fun _=>e⟩
   | false=>exact wpS_pure ⟨rfl,rfl,r.snoc T.O t (by omega) (by omega) (T.O.conn _ _ (t.lts (by omega)) (t.lts (by omega)) (t.ne (by omega) (by omega) (by omega)) e)⟩
 · rintro c st' ⟨rfl,rfl,r⟩
   have e:max 1 nrem=nrem:=by omega
   rw[e]at r ⊢
   exact⟨rfl,nrem,rfl,h1,jE _,r,fun z=>absurd z (by omega)⟩
 rintro c st' ⟨rfl,m,rfl,m1,m2,r,e⟩
 dsimp only
 by_cases c1:m=nrem
 · rw[if_pos (beq_iff_eq.mpr c1)]
   exact wpS_pure (h m l st' m1 m2 t rfl (fun _ _=>rfl) r)
 rw[if_neg (fun z=>c1 (beq_iff_eq.mp z))]
 have e:=e (by omega)
 by_cases c2:m > 1
 · rw[if_pos c2]
   refine wpS_bind (z5C T t (by omega) (by omega) (by omega) ?_)
   dsimp only
   rw[r lo (lo + m - 1) (jE _) (by omega) (by omega),if_pos rfl]
   exact wpS_pure (h m l st' m1 m2 t rfl (fun _ _=>rfl) r)
 rw[if_neg c2]
 have:m=1:=by omega
 subst this
 refine wpS_bind (z5B ?_)
 have f2:Fal lt l lo 2:=fun i j hi hij hj=>by
  rw[show j=lo + 1 by omega,show i=lo + 1 - 1 by omega];exact e
 refine wpS_bind (wpS_mono (wpS_forRange (I:=fun x c st''=>st''=st'/\c=(none,x,0)/\Fal lt l lo x) (Q:=fun c st''=>st''=st'/\∃ m,c=(none,m,0)/\2<=m/\m<=nrem/\Fal lt l lo m) ?_ ?_ ⟨rfl,rfl,f2⟩) ?_)
 · rintro x c st'' hx1 hx2 ⟨rfl,rfl,r⟩
   dsimp only
   refine wpS_bind (z5C T t (by omega) (by omega) (by omega) ?_)
   dsimp only
   cases e:lt (l.getD (lo + x) 0) (l.getD (lo + x - 1) 0) with
   | true =>
    rw[if_pos rfl,if_neg (by decide)]
    exact wpS_pure ⟨rfl,rfl,r.snoc T.O t (by omega) (by omega) e⟩
   | false =>
    rw[if_neg (by decide)]
    refine wpS_bind (z5C T t (by omega) (by omega) (by omega) ?_)
    dsimp only
    rw[T.O.conn _ _ (t.lts (by omega)) (t.lts (by omega)) (t.ne (by omega) (by omega) (by omega)) e,if_pos rfl]
    exact wpS_pure ⟨rfl,x,rfl,hx1,by omega,r⟩
 · rintro c st'' ⟨rfl,rfl,r⟩
   have e:max (1 + 1) nrem=nrem:=by omega
   rw[e]at r ⊢
   exact⟨rfl,nrem,rfl,by omega,jE _,r⟩
 rintro c st'' ⟨rfl,m,rfl,m1,m2,r⟩
 dsimp only
 rw[if_neg (by decide)]
 refine wpS_bind (y8Y t fun st2 t2 p2=>?_)
 have hl:lo + m<=l.length:=by rw[t.len];omega
 have r2:Ris lt (y1L l lo (lo + m)) lo m:=fun i j hi hij hj=>by
  rw[z6t hl,z6t hl,if_pos (by omega),if_pos (by omega)]
  exact r _ _ (by omega) (by omega) (by omega)
 have o2:∀ m',m<=m'->Out l (y1L l lo (lo + m)) lo (lo + m'):=fun m' hm i hi=>by
  rw[z6t hl,if_neg (by omega)]
 refine wpS_bind (wpS_mono (wpS_forRange (I:=fun x c st'=>st'=st2/\c=(none,x)/\Ris lt (y1L l lo (lo + m)) lo x) (Q:=fun c st'=>st'=st2/\∃ m',c=(none,m')/\m<=m'/\m'<=nrem/\Ris lt (y1L l lo (lo + m)) lo m') ?_ ?_ ⟨rfl,rfl,r2⟩) ?_)
 · rintro x c st' hx1 hx2 ⟨rfl,rfl,r⟩
   dsimp only
   refine wpS_bind (z5C T t2 (by omega) (by omega) (by omega) ?_)
   dsimp only
   cases e:lt ((y1L l lo (lo + m)).getD (lo + x) 0) ((y1L l lo (lo + m)).getD (lo + x - 1) 0) with
   | true=>exact wpS_pure ⟨rfl,x,rfl,hx1,by omega,r⟩
   | false=>exact wpS_pure ⟨rfl,rfl,r.snoc T.O t2 (by omega) (by omega) (T.O.conn _ _ (t2.lts (by omega)) (t2.lts (by omega)) (t2.ne (by omega) (by omega) (by omega)) e)⟩
 · rintro c st' ⟨rfl,rfl,r⟩
   have e:max m nrem=nrem:=by omega
   rw[e]at r ⊢
   exact⟨rfl,nrem,rfl,m2,jE _,r⟩
 rintro c st3 ⟨rfl,m',rfl,q1,q2,r3⟩
 exact wpS_pure (h m' _ st3 (by omega) q2 t2 p2 (o2 m' q1) r3)
def y8h(l:List Nat)(src dst:Nat):List Nat:=(bubble l.toArray src (src - dst)).toList
theorem z6C{l:List Nat}{src dst:Nat}(hs:src < l.length)(hd:dst<=src)(k:Nat):(y8h l src dst).getD k 0=if k=dst then l.getD src 0 else if dst < k/\k<=src then l.getD (k - 1) 0 else l.getD k 0:=by
 unfold y8h
 rw[z5h,getElem?_bubble (by simpa using hs) _ (by omega),show src - (src - dst)=dst by omega]
 repeat' split
 all_goals rw[kZ,<- jC]
theorem y2o(l:List Nat)(i j:Nat):(y8h l i j).Perm l:=kR.mp (bubble_perm l.toArray i (i - j))
theorem y8Z{l:List Nat}{st:SortSt}(t:Ts κ f n l st){i j:Nat}{Q:Unit->SortSt->Prop}(h:∀ st',Ts κ f n (y8h l i j) st'->pendingOf st'=pendingOf st->Q () st'):wpS (model prog w) A E s (moveDown' i j) Q st:=by
 rw[moveDown'_eq]
 refine wpS_modify (h _ ⟨t.k,?_,(y2o l i j).trans t.pm,t.fl⟩ rfl)
 show bubble (arrOf st) i (i - j)=_
 rw[t.a,z1H,z1H]
 have e1:bubble (l.toArray.map f) i (i - j)=(bubble l.toArray i (i - j)).map f:=kas_swaps_map f (fun k=>i - k) (fun k=>i - k - 1) _ _
 rw[e1]
 unfold y8h
 rw[Array.toArray_toList]
theorem y3F(T:TC prog w A s κ n lt f){l:List Nat}{st:SortSt}(t:Ts κ f n l st){lo m ok:Nat}(ho:ok<=m)(h1:1<=ok)(hn:lo + m<=n)(r:Ris lt l lo ok){Q:Bool->SortSt->Prop}
 (h:∀ l' st',Ts κ f n l' st'->pendingOf st'=pendingOf st->Out l l' lo (lo + m)->Ris lt l' lo m->Q true st'):wpS (model prog w) A E s (binarySort' lo m ok) Q st:=by
 have e1:max ok 1=ok:=by omega
 refine wpS_bind (wpS_mono (wpS_forRange (I:=fun x c st'=>c=(none,())/\∃ l',Ts κ f n l' st'/\pendingOf st'=pendingOf st/\Out l l' lo (lo + m)/\Ris lt l' lo x) (Q:=fun c st'=>c=(none,())/\∃ l',Ts κ f n l' st'/\pendingOf st'=pendingOf st/\Out l l' lo (lo + m)/\Ris lt l' lo m) ?_ ?_ ⟨rfl,l,t,rfl,fun _ _=>rfl,by rw[e1];exact r⟩) ?_)
 · rintro x c st' hx1 hx2 ⟨rfl,l',t',p',o',r'⟩
   dsimp only
   have hx:lo + x < l'.length:=by rw[t'.len];omega
   refine wpS_bind (wpS_mono (wpS_forRange (I:=fun y c st''=>st''=st'/\∃ a b,c=(none,a,b)/\a<=b/\b<=x/\b - a<=x - y/\(∀ i,i < a->lt (l'.getD (lo + i) 0) (l'.getD (lo + x) 0)=true)/\(∀ i,b<=i->i < x->lt (l'.getD (lo + x) 0) (l'.getD (lo + i) 0)=true)) (Q:=fun c st''=>st''=st'/\∃ a,c=(none,a,a)/\a<=x/\(∀ i,i < a->lt (l'.getD (lo + i) 0) (l'.getD (lo + x) 0)=true)/\(∀ i,a<=i->i < x->lt (l'.getD (lo + x) 0) (l'.getD (lo + i) 0)=true)) ?_ ?_ ⟨rfl,0,x,rfl,by omega,by omega,by omega,fun i hi=>absurd hi (by omega),fun i hi hi'=>absurd hi (by omega)⟩) ?_)
   · rintro y c st'' hy1 hy2 ⟨rfl,a,b,rfl,ab,bx,by_,lo1,hi1⟩
     dsimp only
     by_cases c1:a ≥ b
     · rw[if_pos c1]
       have:a=b:=by omega
       subst this
       exact wpS_pure ⟨rfl,a,rfl,bx,lo1,hi1⟩
     rw[if_neg c1]
     refine wpS_bind (z5C T t' (by omega) (by omega) (by omega) ?_)
     dsimp only
     cases e:lt (l'.getD (lo + x) 0) (l'.getD (lo + (a + b) / 2) 0) with
     | true =>
      rw[if_pos rfl]
      refine wpS_pure ⟨rfl,a,(a + b) / 2,rfl,by omega,by omega,by omega,lo1,fun i hi hi'=>?_⟩
      by_cases z:i=(a + b) / 2
      · rw[z];exact e
      · exact T.O.trans _ _ _ (t'.lts (by omega)) (t'.lts (by omega)) (t'.lts (by omega)) e (r' (lo + (a + b) / 2) (lo + i) (by omega) (by omega) (by omega))
     | false =>
      rw[if_neg (by decide)]
      have e':=T.O.conn _ _ (t'.lts (by omega)) (t'.lts (by omega)) (t'.ne (by omega) (by omega) (by omega)) e
      refine wpS_pure ⟨rfl,(a + b) / 2 + 1,b,rfl,by omega,by omega,by omega,fun i hi=>?_,hi1⟩
      by_cases z:i=(a + b) / 2
      · rw[z];exact e'
      · exact T.O.trans _ _ _ (t'.lts (by omega)) (t'.lts (by omega)) (t'.lts (by omega)) (r' (lo + i) (lo + (a + b) / 2) (by omega) (by omega) (by omega)) e'
   · rintro c st'' ⟨rfl,a,b,rfl,ab,bx,by_,lo1,hi1⟩
     have:a=b:=by omega
     subst this
     exact⟨rfl,a,rfl,bx,lo1,hi1⟩
   rintro c st'' ⟨rfl,a,rfl,ax,lo1,hi1⟩
   dsimp only
   refine wpS_bind (y8Z t' fun st3 t3 p3=>?_)
   refine wpS_pure ⟨rfl,_,t3,p3.trans p',fun i hi=>?_,fun i j hi hij hj=>?_⟩
   · rw[z6C hx (by omega),if_neg (by omega),if_neg (by omega)];exact o' i hi
   · rw[z6C hx (by omega),z6C hx (by omega)]
     by_cases i1:i=lo + a
     · rw[if_pos i1,if_neg (by omega),if_pos (by omega)]
       have:=hi1 (j - 1 - lo) (by omega) (by omega)
       rwa [show lo + (j - 1 - lo)=j - 1 by omega]at this
     rw[if_neg i1]
     by_cases i2:lo + a < i/\i<=lo + x
     · rw[if_pos i2,if_neg (by omega),if_pos (by omega)]
       exact r' _ _ (by omega) (by omega) (by omega)
     rw[if_neg i2]
     by_cases j1:j=lo + a
     · rw[if_pos j1]
       have:=lo1 (i - lo) (by omega)
       rwa [show lo + (i - lo)=i by omega]at this
     rw[if_neg j1]
     by_cases j2:lo + a < j/\j<=lo + x
     · rw[if_pos j2]
       exact r' _ _ (by omega) (by omega) (by omega)
     · rw[if_neg j2]
       exact r' _ _ (by omega) (by omega) (by omega)
 · rintro c st' ⟨rfl,l',t',p',o',r'⟩
   rw[e1,show max ok m=m by omega]at r'
   exact⟨rfl,l',t',p',o',r'⟩
 · rintro c st' ⟨rfl,l',t',p',o',r'⟩
   exact wpS_pure (h l' st' t' p' o' r')
end
section
variable {prog:Program}{w:World}{A:Around}{E:Value->Shared->Prop}{s:Shared}{κ:SortKind}{n:Nat}{lt:Nat->Nat->Bool}{f:Nat->Keyed}
abbrev Rn:=Nat×Nat×Nat
def Runs(lt:Nat->Nat->Bool)(l:List Nat):Nat->List Rn->Nat->Prop
 | a,[],b=>a=b
 | a,r :: rs,b=>r.1=a/\0 < r.2.1/\Ris lt l a r.2.1/\Runs lt l (a + r.2.1) rs b
theorem Runs.app{l:List Nat}:∀ {rs rs':List Rn}{a c:Nat},Runs lt l a (rs ++ rs') c↔∃ b,Runs lt l a rs b/\Runs lt l b rs' c
 | [],rs',a,c=>⟨fun h=>⟨a,rfl,h⟩,fun⟨b,e,h⟩=>by cases e;exact h⟩
 | r :: rs,rs',a,c=>by
  constructor
  · rintro⟨h1,h2,h3,h4⟩
    obtain⟨b,h5,h6⟩:=Runs.app.mp h4
    exact⟨b,⟨h1,h2,h3,h5⟩,h6⟩
  · rintro⟨b,⟨h1,h2,h3,h5⟩,h6⟩
    exact⟨h1,h2,h3,Runs.app.mpr ⟨b,h5,h6⟩⟩
theorem Runs.le{l:List Nat}:∀ {rs:List Rn}{a b:Nat},Runs lt l a rs b->a + rs.length<=b
 | [],a,b,h=>by cases h;exact jE _
 | r :: rs,a,b,⟨h1,h2,h3,h4⟩=>by have:=Runs.le h4;rw[jx];omega
theorem Runs.frame{l l':List Nat}:∀ {rs:List Rn}{a b:Nat},Runs lt l a rs b->(∀ i,a<=i->i < b->l'.getD i 0=l.getD i 0)->Runs lt l' a rs b
 | [],a,b,h,_=>h
 | r :: rs,a,b,⟨h1,h2,h3,h4⟩,o=>by
  have:=Runs.le h4
  exact⟨h1,h2,fun i j hi hij hj=>by rw[o i hi (by omega),o j (by omega) (by omega)];exact h3 i j hi hij hj,h4.frame fun i hi hb=>o i (by omega) hb⟩
theorem Runs.pow{l:List Nat}(pw:Nat):∀ {rs:List Rn}{a b:Nat} (i:Nat),Runs lt l a rs b->Runs lt l a (rs.modify i fun (x:Rn)=>(x.1,x.2.1,pw)) b
 | [],a,b,i,h=>by simpa using h
 | r :: rs,a,b,0,⟨h1,h2,h3,h4⟩=>⟨h1,h2,h3,h4⟩
 | r :: rs,a,b,i + 1,⟨h1,h2,h3,h4⟩=>⟨h1,h2,h3,h4.pow pw i⟩
theorem y4Z{l:List Nat}{lo m:Nat}(h:Ris lt l lo m)(hl:lo + m<=l.length):PwL lt ((l.drop lo).take m):=by
 refine k8.mpr fun i j hi hj hij=>?_
 rw[jS,js]at hi hj
 have e:∀ k (hk:k < ((l.drop lo).take m).length),((l.drop lo).take m)[k]=l.getD (lo + k) 0:=fun k hk=>by
  rw[jS,js]at hk
  rw[List.getElem_take,List.getElem_drop,jC,jD (by omega)];rfl
 rw[e,e]
 exact h _ _ (by omega) (by omega) (by omega)
theorem x0m(l:List Nat)(a b c:Nat):l=l.take a ++ ((l.drop a).take b ++ ((l.drop (a + b)).take c ++ l.drop (a + b + c))):=by
 rw[<- qB (i:=c),jq,<- qB (i:=b),jq,jq]
theorem y1j(T:TC prog w A s κ n lt f){l:List Nat}{st:SortSt}(t:Ts κ f n l st){i lo:Nat}(rn:Runs lt l 0 (pendingOf st).toList lo)(hlo:lo<=n)(hi:i + 1 < (pendingOf st).size){Q:Bool->SortSt->Prop}
 (h:∀ (l':List Nat) (st':SortSt),Ts κ f n l' st'->Runs lt l' 0 (pendingOf st').toList lo->(pendingOf st').size + 1=(pendingOf st).size->(∀ i,lo<=i->l'.getD i 0=l.getD i 0)->Q true st'):wpS (model prog w) A E s (mergeAt' i) Q st:=by
 obtain⟨rs,ers⟩:∃ rs,rs=(pendingOf st).toList:=⟨_,rfl⟩
 have lrs:rs.length=(pendingOf st).size:=by rw[ers,jX]
 rw[<- ers]at rn
 obtain⟨rs1,r1,r2,rs2,e,l1⟩:∃ rs1 r1 r2 rs2,rs=rs1 ++ r1 :: r2 :: rs2/\rs1.length=i:=by
  refine⟨rs.take i,rs[i],rs[i + 1],rs.drop (i + 2),?_,by rw[jS];omega⟩
  conv=>lhs;rw[<- jq i rs]
  congr 1
  rw[kW (by omega),kW (by omega)]
 rw[e]at rn
 obtain⟨b,g1,g2⟩:=Runs.app.mp rn
 obtain⟨a1,a2,a3,b1,b2,b3,g3⟩:=g2
 have z1:=g1.le
 have z3:=g3.le
 have ln:=t.len
 have ep:∀ k,(pendingOf st)[k]? = rs[k]? := fun k=>by rw[ers,kN]
 have lX:((l.drop b).take r1.2.1).length=r1.2.1:=by rw[jS,js];omega
 have lY:((l.drop (b + r1.2.1)).take r2.2.1).length=r2.2.1:=by rw[jS,js];omega
 have lP:(l.take b).length=b:=by rw[jS];omega
 have e4:=x0m l b r1.2.1 r2.2.1
 have nd:l.Nodup:=t.pm.nodup_iff.mpr List.nodup_range
 have sub:((l.drop b).take r1.2.1 ++ (l.drop (b + r1.2.1)).take r2.2.1).Sublist l:=by
  conv=>rhs;rw[e4]
  rw[<- ji ((l.drop b).take r1.2.1)]
  exact (List.sublist_append_left _ _).trans (List.sublist_append_right _ _)
 have C:MgC n lt ((l.drop b).take r1.2.1) ((l.drop (b + r1.2.1)).take r2.2.1):=⟨fun x hx=>List.mem_range.mp (t.pm.mem_iff.mp (sub.subset hx)),nd.sublist sub,y4Z a3 (by omega),y4Z b3 (by omega)⟩
 refine y1i T t.k t.fl (i:=i) (pw:=r1.2.2) (pw2:=r2.2.2) (t.a.trans (congrArg (im f) e4)) C (by omega) (by omega) ?_ ?_ fun Z st' d k' a' f' p'=>?_
 · rw[ep,e,jz (by omega),l1,Nat.sub_self,lP,lX,<- a1];rfl
 · rw[ep,e,jz (by omega),l1,Nat.add_sub_cancel_left,lP,lX,lY,<- b1];rfl
 have lZ:Z.length=r1.2.1 + r2.2.1:=by rw[d.1.length_eq,jG,lX,lY]
 have pl:(pendingOf st').toList=rs1 ++ (b,r1.2.1 + r2.2.1,r1.2.2) :: rs2:=by
  rw[p',Array.toList_eraseIdxIfInBounds,Array.toList_setIfInBounds,<- ers,e,lP,lX,lY,<- l1]
  simp[List.set_append,List.eraseIdx_append]
  exact fun z=>absurd z (by omega)
 obtain⟨l',el'⟩:∃ l',l'=l.take b ++ (Z ++ l.drop (b + r1.2.1 + r2.2.1)):=⟨_,rfl⟩
 rw[<- el']at a'
 have out:∀ k,(k < b\/b + r1.2.1 + r2.2.1<=k)->l'.getD k 0=l.getD k 0:=fun k hk=>by
  rw[el',jC,jC]
  congr 1
  rcases hk with hk | hk
  · rw[kH (by omega),ka hk]
  · rw[jz (by omega),jz (by omega),List.getElem?_drop]
    congr 1
    omega
 have pm':l'.Perm l:=by
  rw[el']
  conv=>rhs;rw[e4]
  refine List.Perm.append_left _ ?_
  rw[<- ji ((l.drop b).take r1.2.1)]
  exact List.Perm.append_right _ d.1
 refine h l' st' ⟨k',a',pm'.trans t.pm,f'⟩ ?_ ?_ (fun k hk=>out k (.inr (by omega)))
 · rw[pl]
   refine Runs.app.mpr ⟨b,g1.frame fun k _ hk=>out k (.inl hk),rfl,by show 0 < r1.2.1 + r2.2.1;omega,fun p q hp hpq hq=>?_,?_⟩
   · have gz:∀ k,b<=k->k < b + (r1.2.1 + r2.2.1)->l'.getD k 0=Z.getD (k - b) 0:=fun k h1 h2=>by
      rw[el',jC,jz (by omega),kH (by omega),<- jC,lP]
     have hq':q < b + (r1.2.1 + r2.2.1):=hq
     rw[gz p hp (by omega),gz q (by omega) hq']
     exact z3M d.2 (by omega) (by omega)
   · show Runs lt l' (b + (r1.2.1 + r2.2.1)) rs2 lo
     rw[<- Nat.add_assoc]
     exact g3.frame fun k hk _=>out k (.inr hk)
 · rw[<- jX,<- jX,<- ers,pl,e]
   simp
   omega
def z6q(n lo nn:Nat):StateT SortSt Sem (ForInStep (Option Unit×Nat)):=do
 let st <- get
 match (pendingOf st).back? with
 | some (s1,n1,_)=>do
  let r <- forIn [0:n] ((none,()):Option Unit×Unit) fun _ _=>do
   let st <- get
   match (if (pendingOf st).size > 1 then (pendingOf st)[(pendingOf st).size - 2]? else none) with
   | some (_,_,older) =>
    if older<=power' n (2 * s1 + n1) (2 * s1 + n1 + n1 + nn) n then pure (ForInStep.done (none,()))
    else do
     let b <- mergeAt' ((pendingOf st).size - 2)
     if (!b)=true then pure (ForInStep.done (some (),())) else pure (ForInStep.yield (none,()))
   | _=>pure (ForInStep.done (none,()))
  match r.1 with
  | some r=>pure (ForInStep.done (some r,lo))
  | none=>do
   modify fun s=>setPending s ((pendingOf s).modify ((pendingOf s).size - 1) fun (st,len,_)=>(st,len,power' n (2 * s1 + n1) (2 * s1 + n1 + n1 + nn) n))
   modify fun s=>setPending s ((pendingOf s).push (lo,nn,0))
   pure (ForInStep.yield (none,lo + nn))
 | _=>do
  modify fun s=>setPending s ((pendingOf s).push (lo,nn,0))
  pure (ForInStep.yield (none,lo + nn))
theorem y7r(T:TC prog w A s κ n lt f){st:SortSt}{l:List Nat}(t:Ts κ f n l st)(hp:pendingOf st=#[])(h1:1<=n){Q:Unit->SortSt->Prop}
 (h:∀ (l':List Nat) (st':SortSt),Ts κ f n l' st'->Ris lt l' 0 n->Q () st'):wpS (model prog w) A E s sortRuns' Q st:=by
 rw[sortRuns'_eq]
 refine wpS_bind (wpS_get ?_)
 have sz:(arrOf st).size=n:=by rw[t.a,z0n,t.len]
 rw[sz]
 dsimp only
 generalize minRun' n n 0=mr
 refine wpS_bind (wpS_mono (wpS_forRange (I:=fun x c st'=>∃ lo l',c=(none,lo)/\Ts κ f n l' st'/\Runs lt l' 0 (pendingOf st').toList lo/\lo<=n/\(x<=lo\/lo=n)) (Q:=fun c st'=>∃ l',c=(none,n)/\Ts κ f n l' st'/\Runs lt l' 0 (pendingOf st').toList n) ?_ ?_ ⟨0,l,rfl,t,by rw[hp];rfl,by omega,by omega⟩) ?_)
 · rintro x c st' _ hx ⟨lo,l',rfl,t',rn,hlo,hxl⟩
   dsimp only
   by_cases c0:lo ≥ n
   · rw[if_pos c0]
     have:lo=n:=by omega
     subst this
     exact wpS_pure ⟨l',rfl,t',rn⟩
   rw[if_neg c0]
   refine wpS_bind (y5I T t' (by omega) (by omega) fun m l1 st1 m1 m2 t1 p1 o1 r1=>?_)
   dsimp only
   -- the run behind the ones that are pending
   have fin:∀ (nn:Nat) (l2:List Nat) (st2:SortSt),1<=nn->nn<=n - lo->Ts κ f n l2 st2->Runs lt l2 0 (pendingOf st2).toList lo->Ris lt l2 lo nn->∃ lo' l',(none,lo + nn)=((none,lo'):Option Unit×Nat)/\Ts κ f n l' (setPending st2 ((pendingOf st2).push (lo,nn,0)))/\Runs lt l' 0 (pendingOf (setPending st2 ((pendingOf st2).push (lo,nn,0)))).toList lo'/\lo'<=n/\(x + 1<=lo'\/lo'=n):=fun nn l2 st2 n1 n2 t2 rn2 r2=>by
    refine⟨lo + nn,l2,rfl,⟨t2.k,t2.a,t2.pm,t2.fl⟩,?_,by omega,by omega⟩
    show Runs lt l2 0 ((pendingOf st2).push (lo,nn,0)).toList (lo + nn)
    rw[Array.toList_push]
    exact Runs.app.mpr ⟨lo,rn2,rfl,n1,r2,rfl⟩
   have go:∀ (nn:Nat) (l2:List Nat) (st2:SortSt),1<=nn->nn<=n - lo->Ts κ f n l2 st2->Runs lt l2 0 (pendingOf st2).toList lo->Ris lt l2 lo nn->wpS (model prog w) A E s (z6q n lo nn) (fun r st'=>match r with | .done c'=>∃ l',c'=(none,n)/\Ts κ f n l' st'/\Runs lt l' 0 (pendingOf st').toList n | .yield c'=>∃ lo l',c'=(none,lo)/\Ts κ f n l' st'/\Runs lt l' 0 (pendingOf st').toList lo/\lo<=n/\(x + 1<=lo\/lo=n)) st2:=fun nn l2 st2 n1 n2 t2 rn2 r2=>by
    unfold z6q
    refine wpS_bind (wpS_get ?_)
    cases eb:(pendingOf st2).back? with
    | none =>
     dsimp only
     exact wpS_bind (wpS_modify (wpS_pure (fin nn l2 st2 n1 n2 t2 rn2 r2)))
    | some q =>
     obtain⟨s1,q1,q2⟩:=q
     dsimp only
     generalize power' n (2 * s1 + q1) (2 * s1 + q1 + q1 + nn) n=pw
     refine wpS_bind (wpS_mono (wpS_forRange (I:=fun _ c st3=>∃ l3,c=(none,())/\Ts κ f n l3 st3/\Runs lt l3 0 (pendingOf st3).toList lo/\Ris lt l3 lo nn) (Q:=fun c st3=>∃ l3,c=(none,())/\Ts κ f n l3 st3/\Runs lt l3 0 (pendingOf st3).toList lo/\Ris lt l3 lo nn) ?_ (fun _ _ hh=>hh) ⟨l2,rfl,t2,rn2,r2⟩) ?_)
     · rintro y c st3 _ hy ⟨l3,rfl,t3,rn3,r3⟩
       refine wpS_bind (wpS_get ?_)
       by_cases c2:(pendingOf st3).size > 1
       · rw[if_pos c2]
         cases eo:(pendingOf st3)[(pendingOf st3).size - 2]? with
         | none=>exact wpS_pure ⟨l3,rfl,t3,rn3,r3⟩
         | some q =>
          obtain⟨o1,o2,older⟩:=q
          dsimp only
          by_cases c3:older<=pw
          · rw[if_pos c3];exact wpS_pure ⟨l3,rfl,t3,rn3,r3⟩
          rw[if_neg c3]
          refine wpS_bind (y1j T t3 rn3 hlo (by omega) fun l4 st4 t4 rn4 _ o4=>?_)
          exact wpS_pure ⟨l4,rfl,t4,rn4,fun i j hi hij hj=>by rw[o4 i hi,o4 j (by omega)];exact r3 i j hi hij hj⟩
       · rw[if_neg c2]
         exact wpS_pure ⟨l3,rfl,t3,rn3,r3⟩
     · rintro c st3 ⟨l3,rfl,t3,rn3,r3⟩
       dsimp only
       refine wpS_bind (wpS_modify ?_)
       refine wpS_bind (wpS_modify (wpS_pure (fin nn l3 _ n1 n2 ⟨t3.k,t3.a,t3.pm,t3.fl⟩ ?_ r3)))
       show Runs lt l3 0 ((pendingOf st3).modify ((pendingOf st3).size - 1) fun (x:Rn)=>(x.1,x.2.1,pw)).toList lo
       rw[Array.toList_modify]
       exact rn3.pow pw _
   have rn1:Runs lt l1 0 (pendingOf st1).toList lo:=by
    rw[p1]
    exact rn.frame fun i _ hi=>o1 i (.inl hi)
   by_cases cm:m < mr
   · rw[if_pos cm]
     refine wpS_bind (z5B ?_)
     refine wpS_bind (y3F T t1 (m:=min (n - lo) mr) (by omega) m1 (by omega) r1 fun l2 st2 t2 p2 o2 r2=>?_)
     refine Eq.mpr (congrArg (fun m=>wpS (model prog w) A E s m _ st2) (if_neg (show ¬ ((!true)=true) by decide))) ?_
     have g:=go (min (n - lo) mr) l2 st2 (by omega) (by omega) t2 (by rw[p2];exact rn1.frame fun i _ hi=>o2 i (.inl hi)) r2
     refine Eq.mpr (congrArg (fun m=>wpS (model prog w) A E s m _ st2) (?_:_=z6q n lo (min (n - lo) mr))) ?_
     · kernel_rfl
     · exact wpS_mono g fun a st' h=>by cases a <;> exact h
   · rw[if_neg cm]
     have g:=go m l1 st1 m1 m2 t1 rn1 r1
     refine Eq.mpr (congrArg (fun m=>wpS (model prog w) A E s m _ st1) (?_:_=z6q n lo (m))) ?_
     · kernel_rfl
     · exact wpS_mono g fun a st' h=>by cases a <;> exact h
 · rintro c st' ⟨lo,l',rfl,t',rn,hlo,hxl⟩
   have:lo=n:=by omega
   subst this
   exact⟨l',rfl,t',rn⟩
 · rintro c st' ⟨l',rfl,t',rn⟩
   dsimp only
   have le:=rn.le
   rw[jX]at le
   refine wpS_bind (wpS_mono (wpS_forRange (I:=fun y c st2=>∃ l2,c=(none,())/\Ts κ f n l2 st2/\Runs lt l2 0 (pendingOf st2).toList n/\(pendingOf st2).size<=max 1 (n - y)) (Q:=fun c st2=>∃ l2,c=(none,())/\Ts κ f n l2 st2/\Runs lt l2 0 (pendingOf st2).toList n/\(pendingOf st2).size<=1) ?_ ?_ ⟨l',rfl,t',rn,by omega⟩) ?_)
   · rintro y c st2 _ hy ⟨l2,rfl,t2,rn2,z2⟩
     refine wpS_bind (wpS_get ?_)
     by_cases c1:(pendingOf st2).size<=1
     · rw[if_pos c1];exact wpS_pure ⟨l2,rfl,t2,rn2,c1⟩
     rw[if_neg c1]
     have m:∀ i,i + 1 < (pendingOf st2).size->wpS (model prog w) A E s (mergeAt' i) (fun b st3=>b=true/\∃ l2,Ts κ f n l2 st3/\Runs lt l2 0 (pendingOf st3).toList n/\(pendingOf st3).size<=max 1 (n - (y + 1))) st2:=fun i hi=>y1j T t2 rn2 (jE _) hi fun l3 st3 t3 rn3 z3 _=>⟨rfl,l3,t3,rn3,by omega⟩
     refine wpS_bind (wpS_mono (m _ ?_) ?_)
     · repeat' split
       all_goals omega
     · rintro b st3 ⟨rfl,l3,t3,rn3,z3⟩
       exact wpS_pure ⟨l3,rfl,t3,rn3,z3⟩
   · rintro c st2 ⟨l2,rfl,t2,rn2,z2⟩
     exact⟨l2,rfl,t2,rn2,by omega⟩
   · rintro c st2 ⟨l2,rfl,t2,rn2,z2⟩
     refine wpS_pure (h l2 st2 t2 ?_)
     obtain⟨rs,ers⟩:∃ rs,rs=(pendingOf st2).toList:=⟨_,rfl⟩
     have lrs:rs.length<=1:=by rw[ers,jX];exact z2
     rw[<- ers]at rn2
     match rs,lrs,rn2 with
     | [],_,e=>exact absurd e (by show ¬ (0=n);omega)
     | [r],_,⟨_,_,h3,h4⟩ =>
      have:0 + r.2.1=n:=h4
      rw[show n=r.2.1 by omega];exact h3
end
section
variable {prog:Program}{w:World}{A:Around}{E:Value->Shared->Prop}{s:Shared}
theorem y0F{a:Addr}{vs:List Value}{c0:Nat}{Z:PySem.Fin->Shared->Prop}{κ:SortKind}{lt:Nat->Nat->Bool}(at_:s.heap.get? a=some (seqObj "list" vs.toArray c0))(two:2<=vs.length)(few:vs.length < 100000)(O:SOrd vs.length lt)(irr:∀ i,i < vs.length->lt i i=false)
 (kind:∀ g,y3x a s.heap g->∀ R:SortKind->Shared->Prop,R κ { s with heap:=g }->wpAny (model prog w) A (keyKind' vs.toArray) R (fun _ _=>False) { s with heap:=g })
 (less:∀ g,y3x a s.heap g->∀ i j (C:Bool->Shared->Prop),i < vs.length->j < vs.length->i≠j->C (lt i j) { s with heap:=g }->wpAny (model prog w) A (keyLt' κ (vs.getD i Value.none) (vs.getD j Value.none)) C (fun _ _=>False) { s with heap:=g })
 (fin:∀ (p:Array Nat) g c,SPm vs.length p->Srt lt p vs.length->y3x a s.heap g->g.get? a=some (seqObj "list" (z1v vs p).toArray c)->Z (.done (.ret .none)) { s with heap:=g }) :
 wpAny (model prog w) A (Builtin.«list.sort» ⟨[.ref a],[]⟩) Z E s:=by
 have up:=Heap.SameBut.update s.heap a (Obj.mapSeq fun _=>(#[]:Array Value))
 obtain⟨c1,at1⟩:∃ c,(s.heap.update a (Obj.mapSeq fun _=>(#[]:Array Value))).get? a=some (seqObj "list" #[] c):=⟨_,get?_update_seq at_ fun _=>#[]⟩
 obtain⟨g,eg⟩:∃ g,g=((s.heap.update a (Obj.mapSeq fun _=>(#[]:Array Value))).push (seqObj "tuple" vs.toArray 0)).push (seqObj "list" #[] 0):=⟨_,rfl⟩
 have gx:y3x a s.heap g:=fun b o hb e=>by
  rw[eg]
  exact jB _ (jB _ ((up.2 b hb).trans e))
 have ga:g.get? a=some (seqObj "list" #[] c1):=by
  rw[eg]
  exact jB _ (jB _ at1)
 rw[list_sort_plain]
 refine wpAny_bind (listItems_at at_ rfl ?_)
 refine wpAny_bind (listUpdate_at at_ rfl ?_ (by rw[jI,sizeLine_eq];omega) (jg _))
 refine wpAny_bind (seqEpoch_at at1 rfl ?_)
 refine wpAny_bind (wpAny_newTuple ?_ (by show vs.length<=sizeLine;rw[sizeLine_eq];omega))
 refine wpAny_bind (wpAny_newList ?_ (jg _))
 refine wpAny_holding ?_
 show wpAny (model prog w) A _ Z E { s with heap:=((s.heap.update a (Obj.mapSeq fun _=>(#[]:Array Value))).push (seqObj "tuple" vs.toArray 0)).push (seqObj "list" #[] 0) }
 rw[<- eg]
 dsimp only
 have nt:¬ vs.toArray.size < 2:=by rw[jI];omega
 rw[if_neg nt,if_neg nt]
 refine wpAny_bind (wpAny_mono (kind g gx (fun k s0=>k=κ/\s0={ s with heap:=g }) ⟨rfl,rfl⟩) (fun k s0 hk=>?_) fun _ _ x=>x.elim)
 obtain⟨rfl,rfl⟩:=hk
 have tc:TC prog w A { s with heap:=g } k vs.length lt (kas_item (vs.toArray.zip vs.toArray)):=⟨O,irr,fun i j hi hj hij C hC=>by
  have e1:∀ i,(kas_item (vs.toArray.zip vs.toArray) i).1=vs.getD i Value.none:=fun i=>by
   have:=kas_item_eq vs i
   rw[show pairsOf vs=vs.toArray.zip vs.toArray from rfl]at this
   rw[this]
  rw[e1,e1]
  exact less g gx i j C hi hj hij hC⟩
 have zsz:(vs.toArray.zip vs.toArray).size=vs.length:=by simp
 have ts:Ts k (kas_item (vs.toArray.zip vs.toArray)) vs.length (List.range vs.length) (SortSt.mk' k (vs.toArray.zip vs.toArray) #[] 7 none):=⟨rfl,by
  have e:=kas_range (vs.toArray.zip vs.toArray)
  rw[zsz]at e
  rw[z1H]
  exact e.symm,List.Perm.refl _,rfl⟩
 refine wpAny_bind (wpAny_mono (y7r (Q:=fun _ st=>∃ p:Array Nat,p.size=vs.length/\arrOf st=p.map (kas_item (vs.toArray.zip vs.toArray))/\failedOf st=none/\SPm vs.length p/\Srt lt p vs.length) tc ts rfl (by omega) fun l' st' t' r'=>⟨l'.toArray,by rw[jI,t'.len],by rw[t'.a,z1H],t'.fl,t'.pm.toArray,fun i j hij hj=>by
  have e:∀ i,l'.toArray.getD i 0=l'.getD i 0:=fun i=>by rw[Array.getD_eq_getD_getElem?,kZ,jC]
  rw[e,e]
  exact r' i j (jg _) hij (by omega)⟩) ?_ fun _ _ e=>e)
 rintro⟨⟨⟩,st⟩ s2 ⟨rfl,p,hp,har,hf,pm,sr⟩
 dsimp only
 have eo:=kat_snds rfl har
 have zo:(z1v vs p).toArray.size=vs.length:=by unfold z1v;rw[jI,jA,jX,hp]
 rw[eo]
 have up2:=Heap.SameBut.update g a (Obj.mapSeq fun _=>(z1v vs p).toArray)
 obtain⟨c2,at2⟩:∃ c,(g.update a (Obj.mapSeq fun _=>(z1v vs p).toArray)).get? a=some (seqObj "list" (z1v vs p).toArray c):=⟨_,get?_update_seq ga fun _=>(z1v vs p).toArray⟩
 refine wpAny_bind (seqEpoch_at ga rfl ?_)
 refine wpAny_bind (listUpdate_at ga rfl ?_ (jg _) (by show (z1v vs p).toArray.size<=_;rw[zo,sizeLine_eq];omega))
 rw[hf]
 simp only[bne_self_eq_false,kT,if_false]
 exact wpAny_pure (fin p _ c2 pm sr (fun b o hb e=>(up2.2 b hb).trans (gx b o hb e)) at2)
theorem z4f{x:Value}{Q:Value->Shared->Prop}{C:List Value->Shared->Prop}(col:∀ (E':Value->Shared->Prop) (R:List Value->Shared->Prop),(∀ vs s1,C vs s1->R vs s1)->wpAny (model prog w) A.in1 (collect x) R E' s)
 (few:∀ vs s1,C vs s1->vs.length < 100000) (κ:SortKind) (lt:List Value->Shared->Nat->Nat->Bool) (O:∀ vs s1,C vs s1->SOrd vs.length (lt vs s1)) (irr:∀ vs s1,C vs s1->∀ i,i < vs.length->lt vs s1 i i=false)
 (kind:∀ vs s1,C vs s1->2<=vs.length->∀ g,(∀ b o,s1.heap.get? b=some o->g.get? b=some o)->∀ R:SortKind->Shared->Prop,R κ { s1 with heap:=g }->wpAny (model prog w) A.in1.in1 (keyKind' vs.toArray) R (fun _ _=>False) { s1 with heap:=g })
 (less:∀ vs s1,C vs s1->∀ g,(∀ b o,s1.heap.get? b=some o->g.get? b=some o)->∀ i j (Z:Bool->Shared->Prop),i < vs.length->j < vs.length->i≠j->Z (lt vs s1 i j) { s1 with heap:=g }->wpAny (model prog w) A.in1.in1 (keyLt' κ (vs.getD i Value.none) (vs.getD j Value.none)) Z (fun _ _=>False) { s1 with heap:=g })
 (fin:∀ vs s1,C vs s1->∀ (p:Array Nat) g c,SPm vs.length p->Srt (lt vs s1) p vs.length->(∀ b o,s1.heap.get? b=some o->g.get? b=some o)->g.get? s1.heap.objs.size=some (seqObj "list" (z1v vs p).toArray c)->Q (.ref s1.heap.objs.size) { s1 with heap:=g }) :
 wpAny (model prog w) A (call (.builtin "sorted") [x]) Q E s:=by
 refine Calls.call_function_entry kind_sorted plain_sorted entry_sorted (args_sorted1 _) ?_
 unfold Builtin.«sorted»
 refine wpAny_bind (m:=checkCount "sorted" 1 1 _) (wpAny_pure ?_)
 refine wpAny_bind (col _ _ fun vs s1 hC=>?_)
 have fw:=few vs s1 hC
 refine wpAny_bind (wpAny_newList ?_ (by rw[sizeLine_eq];omega))
 have at0:(s1.heap.push (seqObj "list" vs.toArray 0)).get? s1.heap.objs.size=some (seqObj "list" vs.toArray 0):=jO _ rfl
 have kp:∀ b o,s1.heap.get? b=some o->(s1.heap.push (seqObj "list" vs.toArray 0)).get? b=some o:=fun b o q=>jB _ q
 have far:∀ b o,s1.heap.get? b=some o->b≠s1.heap.objs.size:=fun b o q=>jU (jJ q)
 show wpAny _ _ _ _ _ { s1 with heap:=s1.heap.push (seqObj "list" vs.toArray 0) }
 refine wpAny_bind (wpAny_holding (wpAny_call_entry slot_list_sort ⟨_,at0,rfl⟩ entry_list_sort ?_ (args_list_sort _)))
 by_cases two:2<=vs.length
 · refine y0F (κ:=κ) (lt:=lt vs s1) (s:={ s1 with heap:=s1.heap.push (seqObj "list" vs.toArray 0) }) at0 two fw (O vs s1 hC) (irr vs s1 hC) (fun g hx R hR=>?_) (fun g hx i j Z hi hj hij hZ=>?_) (fun p g c pm sr hx hg=>?_)
   · exact kind vs s1 hC two g (fun b o q=>hx b o (far b o q) (kp b o q)) R hR
   · exact less vs s1 hC g (fun b o q=>hx b o (far b o q) (kp b o q)) i j Z hi hj hij hZ
   · exact⟨_,rfl,wpAny_pure ⟨_,rfl,fin vs s1 hC p g c pm sr (fun b o q=>hx b o (far b o q) (kp b o q)) hg⟩⟩
 · refine z4Z (s:={ s1 with heap:=s1.heap.push (seqObj "list" vs.toArray 0) }) at0 (by omega) fun g c hx hg=>?_
   exact⟨_,rfl,wpAny_pure ⟨_,rfl,fin vs s1 hC (List.toArray (List.range vs.length)) g c (.refl _) (fun i j h1 h2=>absurd h1 (by omega)) (fun b o q=>hx b o (far b o q) (kp b o q)) (by rw[z4U];exact hg)⟩⟩
end
end L2
namespace L2
open PySem PySem.W PyProof.Rows
section
variable {prog:Program}{w:World}{A:Around}{E:Value->Shared->Prop}{s:Shared}
def VIt(h:Heap)(it d:Addr)(i n ep:Nat):Prop:=∃ x y u v,h.get? it=some { cls := .type "dict_itemiterator",dict:=none,data := .fields #[x,y,.ref d,.int i 0,.int n 0,.int ep 0,u,v],slots:=#[] } /\
 ((x = .none/\y = .bool false)\/∃ (a:Addr) (oa:Obj) (f:Bool),x=rawInt (a:Nat)/\y = .bool f/\h.get? a=some oa/\it < a)
def VDc(h:Heap)(d:Addr)(es:Array DictEntry)(ep:Nat):Prop:=∃ o,h.get? d=some o/\o.data = .dict es ep
theorem y5E{it d:Addr}{i ep:Nat}{es:Array DictEntry}{Q:Option Value->Shared->Prop}(t:VIt s.heap it d i es.size ep)(D:VDc s.heap d es ep)(hi:i < es.size)
 (k:∀ g,VIt g it d (i + 1) es.size ep->g.get? s.heap.objs.size=some { cls := .type "tuple",data := .seq #[es[i].key,es[i].val] }->g.objs.size=s.heap.objs.size + 1->(∀ b o,b≠it->s.heap.get? b=some o->g.get? b=some o)->Q (some (.ref s.heap.objs.size)) { s with heap:=g }) :
 wpAny (model prog w) A (pyNext (.ref it)) Q E s:=by
 obtain⟨hp,gg,dr,tk,os⟩:=s
 obtain⟨x,y,u,v,at0,own⟩:=t
 obtain⟨od,od1,od2⟩:=D
 have ty:Shared.TypeIs ⟨hp,gg,dr,tk,os⟩ (.ref it) "dict_itemiterator" := ⟨_,at0,rfl⟩
 unfold pyNext
 refine wpAny_bind (wpAny_attempt (wpAny_callSpecial?_slot (name:=Str.ofString "__next__") ty PySem.F.slot_dict_itemiterator_next (wpAny_call_entry PySem.F.slot_dict_itemiterator_next ty PySem.F.entry_dict_itemiterator_next ?_ (PySem.F.args_dict_itemiterator_next_1 _))))
 refine wpAny_bind (wpAny_pure (wpAny_bind (wpAny_bind ?_)))
 refine wpAny_bind (wpAny_typeNameOfWhole_itemiter ty (wpAny_pure (wpAny_bind (wpAny_fieldsOf at0 rfl ?_))))
 simp only[show Builtin.Dict_items.ownsTuple "dict_itemiterator" = true by decide,if_true]
 show wpAny _ _ (if (Value.ref d == Value.none)=true then _ else _) _ _ _
 rw[if_neg (by simp)]
 refine wpAny_bind (wpAny_pure (wpAny_bind (wpAny_dictEntries od1 od2 ?_)))
 rw[if_neg (by simp)]
 refine wpAny_bind (wpAny_pure (wpAny_bind (wpAny_dictEpoch od1 od2 ?_)))
 rw[if_neg (by simp)]
 refine wpAny_pure ?_
 simp only[show ¬ ((i:Int) < 0) by omega,if_false,kJ,jt hi]
 refine wpAny_bind (wpAny_bind (wpAny_typeNameOfWhole_itemiter ty (wpAny_pure (wpAny_bind (wpAny_isOneOf_itemiter ty ?_)))))
 show wpAny _ _ (setField (.ref it) 3 (rawInt ((i:Int) + 1)) >>= _) _ _ ⟨hp,gg,dr,tk,os⟩
 refine wpAny_bind (wpAny_setField_rec at0 (by simp) fun g1 at1 sb1=>?_)
 have sz1:g1.objs.size=hp.objs.size:=sb1.1
 have low:it < hp.objs.size:=jJ at0
 obtain⟨g2,eg2⟩:∃ g2,g2=g1.push { cls := .type "tuple",data := .seq #[es[i].key,es[i].val] }:=⟨_,rfl⟩
 have at2:g2.get? it=some { cls := .type "dict_itemiterator",dict:=none,data := .fields #[x,y,.ref d,.int ((i + 1:Nat):Int) 0,.int es.size 0,.int ep 0,u,v],slots:=#[] }:=by
  rw[eg2]
  refine jB _ ?_
  have e:((i + 1:Nat):Int)=(i:Int) + 1:=by omega
  rw[e];simpa [rawInt] using at1
 have tup2:g2.get? hp.objs.size=some { cls := .type "tuple",data := .seq #[es[i].key,es[i].val] }:=by rw[eg2,<- sz1];exact jO _ rfl
 have sz2:g2.objs.size=hp.objs.size + 1:=by rw[eg2,Heap.size_push,sz1]
 have kp2:∀ b o,b≠it->hp.get? b=some o->g2.get? b=some o:=fun b o hb e=>by rw[eg2];exact jB _ (sb1.extBut b o hb e)
 have ty1:Shared.TypeIs ⟨g1,gg,dr,tk,os⟩ (.ref it) "dict_itemiterator" := ⟨_,at1,rfl⟩
 have done:∀ g:Heap,VIt g it d (i + 1) es.size ep->Heap.SameBut it g2 g->Q (some (.ref hp.objs.size)) ⟨g,gg,dr,tk,os⟩:=fun g tg sb =>
  k g tg (sb.extBut _ _ (kB low) tup2) (by show g.objs.size=hp.objs.size + 1;rw[sb.1,sz2]) fun b o hb e=>sb.extBut b o hb (kp2 b o hb e)
 refine wpAny_bind (wpAny_holding (wpAny_bind (wpAny_isOneOf_itemiter ty1 (wpAny_bind (wpAny_isOneOf_itemiter ty1 ?_)))))
 show wpAny _ _ (Builtin.Dict_items.pairFromOwner (.ref it) 6 es[i].key es[i].val) _ _ ⟨g1,gg,dr,tk,os⟩
 unfold Builtin.Dict_items.pairFromOwner
 refine wpAny_bind (wpAny_newTuple ?_)
 show wpAny _ _ (Builtin.Dict_items.ownedTupleIsFree (.ref it) >>= _) _ _ ⟨g1.push { cls := .type "tuple",data := .seq #[es[i].key,es[i].val] },gg,dr,tk,os⟩
 rw[<- eg2,sz1]
 refine wpAny_bind ?_
 unfold Builtin.Dict_items.ownedTupleIsFree
 rcases own with ⟨rfl,rfl⟩ | ⟨a,oa,f,rfl,rfl,ha,hai⟩
 · refine wpAny_bind (wpAny_field at2 rfl (x := .none) rfl (wpAny_pure ?_))
   simp only[if_true]
   refine wpAny_bind (wpAny_field at2 rfl (x:=u) rfl (wpAny_bind (wpAny_field at2 rfl (x:=v) rfl ?_)))
   refine wpAny_bind (wpAny_setField_rec at2 (by simp) fun g3 at3 sb3=>wpAny_bind (wpAny_setField_rec at3 (by simp) fun g4 at4 sb4=>wpAny_bind (wpAny_setField_rec at4 (by simp) fun g5 at5 sb5=>wpAny_bind (wpAny_setField_rec at5 (by simp) fun g6 at6 sb6=>?_))))
   have sb:Heap.SameBut it g2 g6:=((sb3.trans sb4).trans sb5).trans sb6
   refine wpAny_bind (wpAny_letGo (wpAny_pure (wpAny_pure ⟨_,rfl,wpAny_pure (done g6 ⟨_,_,_,_,at6,.inr ⟨hp.objs.size,_,false,rfl,rfl,sb.extBut _ _ (kB low) tup2,low⟩⟩ sb)⟩)))
 · have ha2:=kp2 a oa (kB hai) ha
   refine wpAny_bind (wpAny_field at2 rfl (x:=rawInt a) rfl ?_)
   show wpAny _ _ (loadIfAlive ((a:Int).toNat) >>= _) _ _ _
   rw[kJ]
   refine wpAny_bind (kdx_alive ha2 ?_)
   simp only[Option.isNone_some,kT,if_false]
   refine wpAny_bind (wpAny_field at2 rfl (x := .bool f) rfl ?_)
   cases f with
   | true =>
    rw[if_neg (by simp)]
    refine wpAny_pure ?_
    simp only[kT,if_false]
    exact wpAny_pure (wpAny_pure ⟨_,rfl,wpAny_pure (done g2 ⟨_,_,_,_,at2,.inr ⟨a,oa,true,rfl,rfl,ha2,hai⟩⟩ (Heap.SameBut.refl _ _))⟩)
   | false =>
    rw[if_pos (by rfl)]
    refine wpAny_bind (wpAny_setField_rec at2 (by simp) fun g3 at3 sb3=>?_)
    refine wpAny_pure ?_
    simp only[kT,if_false]
    exact wpAny_pure (wpAny_pure ⟨_,rfl,wpAny_pure (done g3 ⟨_,_,_,_,at3,.inr ⟨a,oa,true,rfl,rfl,sb3.extBut _ _ (kB hai) ha2,hai⟩⟩ sb3)⟩)
theorem y7m{it d:Addr}{ep:Nat}{es:Array DictEntry}{Q:Option Value->Shared->Prop}(hh:A.handled=none)(t:VIt s.heap it d es.size es.size ep)(D:VDc s.heap d es ep)
 (k:∀ g,Heap.ExtBut it s.heap g->Q none { s with heap:=g }):wpAny (model prog w) A (pyNext (.ref it)) Q E s:=by
 obtain⟨x,y,u,v,at0,own⟩:=t
 obtain⟨od,od1,od2⟩:=D
 have ty:s.TypeIs (.ref it) "dict_itemiterator" := ⟨_,at0,rfl⟩
 unfold pyNext
 refine wpAny_bind (wpAny_attempt (wpAny_callSpecial?_slot (name:=Str.ofString "__next__") ty PySem.F.slot_dict_itemiterator_next (wpAny_call_entry PySem.F.slot_dict_itemiterator_next ty PySem.F.entry_dict_itemiterator_next ?_ (PySem.F.args_dict_itemiterator_next_1 _))))
 refine wpAny_bind (wpAny_pure (wpAny_bind (wpAny_bind ?_)))
 refine wpAny_bind (wpAny_typeNameOfWhole_itemiter ty (wpAny_pure (wpAny_bind (wpAny_fieldsOf at0 rfl ?_))))
 simp only[show Builtin.Dict_items.ownsTuple "dict_itemiterator" = true by decide,if_true]
 show wpAny _ _ (if (Value.ref d == Value.none)=true then _ else _) _ _ s
 rw[if_neg (by simp)]
 refine wpAny_bind (wpAny_pure (wpAny_bind (wpAny_dictEntries od1 od2 ?_)))
 rw[if_neg (by simp)]
 refine wpAny_bind (wpAny_pure (wpAny_bind (wpAny_dictEpoch od1 od2 ?_)))
 rw[if_neg (by simp)]
 refine wpAny_pure ?_
 simp only[show ¬ ((es.size:Int) < 0) by omega,if_false,kJ,qF (jE es.size)]
 refine wpAny_bind (wpAny_bind (wpAny_typeNameOfWhole_itemiter ty (wpAny_pure ?_)))
 show wpAny _ _ (setField (.ref it) 2 .none >>= _) _ _ s
 refine wpAny_bind (wpAny_setField at0 rfl (by simp) ?_)
 refine wpAny_bind ?_
 unfold newExc newTuple
 refine wpAny_bind (wpAny_newObj_type (wpAny_bind (m:=firstArgMember _ _) (wpAny_of_eq (a:=Value.none) (by first | rfl | (unfold firstArgMember;rfl)) (wpAny_newObj_type ?_ (by size_fits)))) (by size_fits))
 unfold raiseNew
 refine wpAny_bind (wpAny_handled ?_)
 rw[show A.in1.handled=none from hh]
 refine wpAny_bind (wpAny_pure (wpAny_throw ?_))
 refine wpAny_bind (wpAny_isInstance (b:=true) (T := "StopIteration") ⟨_,jO _ rfl,rfl⟩ isSubtype_stop (wpAny_pure ?_))
 exact k _ (((Heap.SameBut.update ..).extBut.push _).push _)
theorem y5D{r d:Addr}{es:Array DictEntry}{ep:Nat}{Q:Value->Shared->Prop}(view:s.heap.IsItemsView r d)(D:VDc s.heap d es ep)
 (k:Q (.ref s.heap.objs.size) { s with heap:=s.heap.push { cls := .type "dict_itemiterator",data := .fields #[.none,.bool false,.ref d,.int 0 0,.int es.size 0,.int ep 0,.none,.none] } }):wpAny (model prog w) A (pyIter (.ref r)) Q E s:=by
 obtain⟨ov,v1,v2,v3⟩:=id view
 obtain⟨od,od1,od2⟩:=D
 refine wpAny_pyIter_slot view.typeIs PySem.F.slot_dict_items_iter (wpAny_call_entry PySem.F.slot_dict_items_iter view.typeIs PySem.F.entry_dict_items_iter ?_ (PySem.F.args_dict_items_iter_1 _))
 unfold Builtin.«dict_items.__iter__»
 refine wpAny_bind (wpAny_pure (wpAny_bind ?_))
 unfold Builtin.Dict_items.dictOf
 refine wpAny_bind (wpAny_field v1 v3 (x := .ref d) rfl (wpAny_pure (wpAny_bind ?_)))
 unfold Builtin.Dict_items.newIterator
 refine wpAny_bind (wpAny_dictEntries od1 od2 (wpAny_bind (wpAny_dictEpoch od1 od2 ?_)))
 simp only[show Builtin.Dict_items.ownsTuple "dict_itemiterator" = true by decide,if_true]
 refine wpAny_newObj_type (wpAny_pure ⟨_,rfl, "dict_itemiterator",_,⟨_,jO _ rfl,rfl⟩,PySem.F.slot_dict_itemiterator_next.lookup,?_⟩) (by simp only[sizeOk,Builtin.Dict_items.ownedTupleFields,jI,jG,jx,qD,sizeLine_eq];omega)
 simpa [rawInt,Builtin.Dict_items.ownedTupleFields] using k
structure VPs (es:Array DictEntry) (lo:Addr) (h:Heap) (as:List Addr):Prop where
 nd:as.Nodup
 above:∀ a∈as,lo < a
 pairs:∀ (j:Nat) (a:Addr),as[j]? = some a->∃ e:DictEntry,es[j]? = some e/\h.get? a=some { cls := .type "tuple",data := .seq #[e.key,e.val] }
theorem VPs.there{es:Array DictEntry}{lo:Addr}{h:Heap}{as:List Addr}(g:VPs es lo h as){a:Addr}(ha:a∈as):a < h.objs.size:=by
 obtain⟨j,hj⟩:=qN.mp ha
 obtain⟨_,_,e⟩:=g.pairs j a hj
 exact jJ e
theorem VPs.kept{es:Array DictEntry}{lo:Addr}{h h':Heap}{as:List Addr}(g:VPs es lo h as)(k:∀ b o,lo < b->h.get? b=some o->h'.get? b=some o):VPs es lo h' as:=⟨g.nd,g.above,fun j a hj=>by
 obtain⟨e,h1,h2⟩:=g.pairs j a hj
 exact⟨e,h1,k a _ (g.above a (jk hj)) h2⟩⟩
theorem VIt.kept{h h':Heap}{it d S:Addr}{i n ep:Nat}(t:VIt h it d i n ep)(hS:S < it)(hT:∀ b o,b≠S->h.get? b=some o->h'.get? b=some o):VIt h' it d i n ep:=by
 obtain⟨x,y,u,v,e,o⟩:=t
 refine⟨x,y,u,v,hT _ _ (kB hS) e,?_⟩
 rcases o with o | ⟨a,oa,f,h1,h2,h3,h4⟩
 · exact .inl o
 · exact .inr ⟨a,oa,f,h1,h2,hT _ _ (kB (Nat.lt_trans hS h4)) h3,h4⟩
theorem y1d{S I d:Addr}{es:Array DictEntry}{ep:Nat}{R:Result->Shared->Prop}(hh:A.handled=none)(hSI:S < I)(hdS:d≠S)(hdI:d≠I)(few:es.size<=sizeLine)(res:Value){h0:Heap}
 (k:∀ g tk' acc c as,(∀ b o,b≠S->b≠I->h0.get? b=some o->g.get? b=some o)->g.get? S=some { cls := .type "list",dict:=none,data := .seq acc c,slots:=#[] }->as.length=es.size->VPs es I g as->acc.toList=as.map Value.ref->R (.ok (.ret res)) { s with heap:=g,toks:=tk' }) :
 ∀ (m i:Nat) (h:Heap) (tk' c:Nat) (acc:Array Value) (as:List Addr),es.size - i=m->i<=es.size->VIt h I d i es.size ep->VDc h d es ep->(∀ b o,b≠S->b≠I->h0.get? b=some o->h.get? b=some o) ->
  h.get? S=some { cls := .type "list",dict:=none,data := .seq acc c,slots:=#[] }->acc.toList=as.map Value.ref->as.length=i->VPs es I h as->I < h.objs.size ->
  codeAny (model prog w) A (.builtin "list.extend.loop" ⟨[.ref S,.ref I,res],[]⟩) R { s with heap:=h,toks:=tk' }
 | 0,i,h,tk',c,acc,as,hm,hi,t,D,kp,hS,ha,hl,ps,hIs=>by
  have ei:i=es.size:=by omega
  subst ei
  refine codeAny_builtin PySem.F.entry_extend_loop ?_
  rw[Around.under_plainId PySem.F.plain_extend_loop _]
  show wpAny _ A.in1 (pyNext (.ref I) >>= _) _ _ _
  refine wpAny_bind (y7m (s:={ s with heap:=h,toks:=tk' }) (A:=A.in1) hh t D fun g ex=>?_)
  exact wpAny_pure (k g tk' acc c as (fun b o n1 n2 e=>ex b o n2 (kp b o n1 n2 e)) (ex S _ (jU hSI) hS) hl (ps.kept fun b o hb e=>ex b o (kB hb) e) ha)
 | m + 1,i,h,tk',c,acc,as,hm,hi,t,D,kp,hS,ha,hl,ps,hIs=>by
  have lt:i < es.size:=by omega
  have az:acc.size=i:=by rw[<- jX,ha,jA,hl]
  have hSl:S < h.objs.size:=jJ hS
  refine codeAny_builtin PySem.F.entry_extend_loop ?_
  rw[Around.under_plainId PySem.F.plain_extend_loop _]
  show wpAny _ A.in1 (pyNext (.ref I) >>= _) _ _ _
  refine wpAny_bind (y5E (s:={ s with heap:=h,toks:=tk' }) t D lt fun g tg tup sz kg=>?_)
  dsimp only at tup sz kg ⊢
  have hS':=kg S _ (jU hSI) hS
  have up:∀ b o,b≠S->g.get? b=some o->(g.update S (Obj.mapSeq (·.push (Value.ref h.objs.size)))).get? b=some o:=fun b o hb e=>(jZ _ _ (Ne.symm hb)).trans e
  show wpAny _ A.in1 (updateSeq S (·.push (Value.ref h.objs.size)) >>= _) _ _ _
  refine wpAny_bind (wpAny_updateSeq hS' rfl (wpAny_pure ⟨plainId_quiet PySem.F.plain_extend_loop _,?_⟩) (by rw[az];omega) (by show (acc.push (Value.ref h.objs.size)).size<=sizeLine + 1;rw[Array.size_push,az];omega))
  obtain⟨od,od1,od2⟩:=D
  refine y1d hh hSI hdS hdI few res k m (i + 1) _ tk' _ (acc.push (Value.ref h.objs.size)) (as ++ [h.objs.size]) (by omega) lt (tg.kept hSI up) ⟨od,up d _ hdS (kg d _ hdI od1),od2⟩ (fun b o n1 n2 e=>up b o n1 (kg b o n2 (kp b o n1 n2 e))) (jm _ hS' rfl) (by rw[Array.toList_push,ha,jT];rfl) (by rw[jG,hl];rfl) ⟨?_,?_,?_⟩ ?_
  · refine kY.mpr ⟨ps.nd,by simp,fun a ha' b hb e=>?_⟩
    rw[jM.mp hb]at e
    exact jU (ps.there ha') e
  · intro a ha'
    rcases jL.mp ha' with ha' | ha'
    · exact ps.above a ha'
    · rw[jM.mp ha'];exact hIs
  · intro j b hj
    by_cases hj2:j < as.length
    · rw[kH hj2]at hj
      obtain⟨e,e1,e2⟩:=ps.pairs j b hj
      have hb:=ps.above b (jk hj)
      exact⟨e,e1,up b _ (kB (Nat.lt_trans hSI hb)) (kg b _ (kB hb) e2)⟩
    · rw[jz (by omega)]at hj
      have ej:j=i:=by
       by_cases z:j - as.length=0
       · omega
       · rw[List.getElem?_singleton,if_neg z]at hj;cases hj
      subst ej
      rw[hl,Nat.sub_self]at hj
      have eb:h.objs.size=b:=by simpa using hj
      subst eb
      exact⟨es[j],jt lt,up _ _ (kB hSl) tup⟩
  · exact Nat.lt_trans hIs (jJ (up _ _ (kB hSl) tup))
theorem y1e{r d:Addr}{es:Array DictEntry}{ep:Nat}{R:Result->Shared->Prop}(hh:A.handled=none)(view:s.heap.IsItemsView r d)(D:VDc s.heap d es ep)(S:Addr)(hSr:S≠r)(hdS:d≠S)(res:Value)(c0:Nat)(hS:s.heap.get? S=some { cls := .type "list",data := .seq #[] c0 })(few:es.size<=sizeLine)
 (k:∀ g tk' acc c as,(∀ b o,b≠S->s.heap.get? b=some o->g.get? b=some o)->g.get? S=some { cls := .type "list",dict:=none,data := .seq acc c,slots:=#[] }->as.length=es.size->VPs es s.heap.objs.size g as->acc.toList=as.map Value.ref->R (.ok (.ret res)) { s with heap:=g,toks:=tk' }) :
 wpAny (model prog w) A.in1 (Builtin.List.listExtendWith (.ref S) (.ref r) res)
  (fun fin s'=>match fin with | .done f=>R (.ok f) s' | .again c'=>c'.quiet=true/\codeAny (model prog w) A c' R s') (fun e s'=>R (.error e) s') s:=by
 have hSI:S < s.heap.objs.size:=jJ hS
 obtain⟨od,od1,od2⟩:=id D
 have hdI:d < s.heap.objs.size:=jJ od1
 obtain⟨oi,eoi⟩:∃ oi:Obj,oi={ cls := .type "dict_itemiterator",data := .fields #[.none,.bool false,.ref d,.int 0 0,.int es.size 0,.int ep 0,.none,.none] }:=⟨_,rfl⟩
 have go:∀ (h:Heap) (c1 tk':Nat),(∀ b o,b≠S->(s.heap.push oi).get? b=some o->h.get? b=some o)->h.get? S=some { cls := .type "list",data := .seq #[] c1 } ->
  codeAny (model prog w) A (.builtin "list.extend.loop" ⟨[.ref S,.ref s.heap.objs.size,res],[]⟩) R { s with heap:=h,toks:=tk' }:=fun h c1 tk' kp hS1=>by
  have hI:=kp s.heap.objs.size _ (kB hSI) (jO _ (by rw[eoi];rfl))
  have old:∀ b o,b≠S->s.heap.get? b=some o->h.get? b=some o:=fun b o hb e=>kp b o hb (jB _ e)
  refine y1d (ep:=ep) (h0:=s.heap) hh hSI hdS (jU hdI) few res (fun g tk2 acc c as k1 k2 k3 k4 k5=>k g tk2 acc c as (fun b o hb e=>k1 b o hb (jU (jJ e)) e) k2 k3 k4 k5)
   es.size 0 h tk' c1 #[] [] (Nat.sub_zero _) (jg _) ⟨.none,.bool false,.none,.none,by rw[hI,eoi];rfl,.inl ⟨rfl,rfl⟩⟩ ⟨od,old d _ hdS od1,od2⟩ (fun b o hb _ e=>old b o hb e) hS1 rfl rfl ⟨List.nodup_nil,(fun _ ha=>nomatch ha),(fun j a hj=>by simp at hj)⟩ (jJ hI)
 unfold Builtin.List.listExtendWith
 refine wpAny_bind (wpAny_typeOf (T := "dict_items") view.typeIs ?_)
 simp only[show Builtin.List.listSameRef (.ref S) (.ref r)=false by simp[Builtin.List.listSameRef,hSr],show (Value.type "dict_items" == Value.type "list")=false by decide,show (Value.type "dict_items" == Value.type "tuple")=false by decide,Bool.or_false,kT,if_false]
 refine wpAny_bind (y5D view D ?_)
 rw[<- eoi]
 have hS1:=jB oi hS
 refine wpAny_bind (wpAny_holding (kdx_hint (let ⟨o,ho,hc,_⟩:=view;⟨o,jB _ ho,hc⟩) ?_))
 refine wpAny_ite_split (fun _=>?_) (fun _=>wpAny_pure ⟨plainId_quiet PySem.F.plain_extend_loop _,go _ c0 _ (fun b o _ e=>e) hS1⟩)
 refine wpAny_bind (wpAny_rule (wpAny_bind ?_))
 show wpAny _ _ (updateSeq S (·.push .none) >>= fun _=>updateSeq S (·.pop)) _ _ _
 refine wpAny_bind (wpAny_updateSeq hS1 rfl ?_)
 have hS2:=jm (Obj.mapSeq (·.push Value.none)) hS1 rfl
 refine wpAny_updateSeq (hz:=by seq_fits) hS2 rfl (wpAny_pure ⟨plainId_quiet PySem.F.plain_extend_loop _,go _ _ _ (fun b o hb e=>?_) (jm (Obj.mapSeq (·.pop)) hS2 rfl)⟩)
 exact (jZ _ _ (Ne.symm hb)).trans ((jZ _ _ (Ne.symm hb)).trans e)
theorem y0n{r d:Addr}{es:Array DictEntry}{ep:Nat}{R:List Value->Shared->Prop}(hh:A.handled=none)(view:s.heap.IsItemsView r d)(D:VDc s.heap d es ep)(few:es.size<=sizeLine)
 (k:∀ (g:Heap) (tk':Nat) (as:List Addr),(∀ b o,s.heap.get? b=some o->g.get? b=some o)->s.heap.objs.size < g.objs.size->as.length=es.size->VPs es s.heap.objs.size g as->R (as.map Value.ref) { s with heap:=g,toks:=tk' }) :
 wpAny (model prog w) A (collect (.ref r)) R E s:=by
 have hr:r < s.heap.objs.size:=let ⟨_,ho,_⟩:=view;jJ ho
 obtain⟨od,od1,od2⟩:=id D
 have hd:d < s.heap.objs.size:=jJ od1
 unfold collect
 refine wpAny_bind (wpAny_runValue (codeAny_builtin entry_proto_collect' ?_))
 rw[Around.under_plainId PySem.F.plain_proto_collect _]
 show wpAny _ A.in1 (newList [] >>= fun l=>again (.builtin "list.__iadd__" ⟨[l,.ref r],[]⟩)) _ _ s
 refine wpAny_bind (wpAny_newObj_type (wpAny_pure ⟨plainId_quiet PySem.F.plain_list_iadd _,codeAny_builtin entry_list_iadd' ?_⟩))
 rw[Around.under_plainId PySem.F.plain_list_iadd _]
 obtain⟨g0,eg0⟩:∃ g0,g0=s.heap.push { cls := .type "list",data := .seq ([]:List Value).toArray }:=⟨_,rfl⟩
 have at0:g0.get? s.heap.objs.size=some { cls := .type "list",data := .seq #[] 0 }:=by rw[eg0];exact jO _ rfl
 have kp0:∀ b o,s.heap.get? b=some o->g0.get? b=some o:=fun b o e=>by rw[eg0];exact jB _ e
 show wpAny _ A.in1 (Builtin.List.listExtendWith (.ref s.heap.objs.size) (.ref r) (.ref s.heap.objs.size)) _ _ _
 rw[<- eg0]
 have step:=y1e (prog:=prog) (w:=w) (A:=A) (s:={ s with heap:=g0 }) (ep:=ep) (es:=es) (r:=r) (d:=d)
  (R:=fun (q:Result) (s':Shared)=>∃ (g:Heap) (tk':Nat) (acc:Array Value) (c:Nat) (as:List Addr),q = .ok (.ret (.ref s.heap.objs.size))/\s'={ s with heap:=g,toks:=tk' }/\(∀ b o,s.heap.get? b=some o->g.get? b=some o) /\
   g.get? s.heap.objs.size=some { cls := .type "list",dict:=none,data := .seq acc c,slots:=#[] }/\as.length=es.size/\VPs es s.heap.objs.size g as/\acc.toList=as.map Value.ref)
  hh (let ⟨o,ho,x⟩:=view;⟨o,kp0 _ _ ho,x⟩) ⟨od,kp0 _ _ od1,od2⟩ s.heap.objs.size (kB hr) (jU hd) (.ref s.heap.objs.size) 0 at0 few
  (fun g tk' acc c as k1 k2 k3 k4 k5=>⟨g,tk',acc,c,as,rfl,rfl,fun b o e=>k1 b o (jU (jJ e)) (kp0 b o e),k2,k3,⟨k4.nd,fun a ha=>kF (by rw[eg0,Heap.size_push];exact Nat.le_succ _) (k4.above a ha),k4.pairs⟩,k5⟩)
 have last:∀ (g:Heap) (tk':Nat) (acc:Array Value) (c:Nat) (as:List Addr),(∀ b o,s.heap.get? b=some o->g.get? b=some o)->g.get? s.heap.objs.size=some { cls := .type "list",dict:=none,data := .seq acc c,slots:=#[] }->as.length=es.size->VPs es s.heap.objs.size g as->acc.toList=as.map Value.ref ->
  wpAny (model prog w) A (load s.heap.objs.size >>= fun o=>match o.data with | .seq xs _=>pure xs.toList | _=>unsupported "internal:collect") R E { s with heap:=g,toks:=tk' }:=fun g tk' acc c as k1 k2 k3 k4 k5=>by
  refine wpAny_bind (wpAny_load k2 (wpAny_pure ?_))
  show R acc.toList _
  rw[k5];exact k g tk' as k1 (jJ k2) k3 k4
 refine wpAny_mono step (fun fin s2 x=>?_) fun e s2 x=>?_
 · cases fin with
   | done f =>
    obtain⟨g,tk',acc,c,as,e,rfl,y⟩:=x
    cases e
    exact last g tk' acc c as y.1 y.2.1 y.2.2.1 y.2.2.2.1 y.2.2.2.2
   | again c1 =>
    refine⟨x.1,codeAny_mono x.2 fun q s3 z=>?_⟩
    obtain⟨g,tk',acc,c,as,rfl,rfl,y⟩:=z
    exact last g tk' acc c as y.1 y.2.1 y.2.2.1 y.2.2.2.1 y.2.2.2.2
 · obtain⟨_,_,_,_,_,z,_⟩:=x
   cases z
end
end L2
namespace L2
open PySem PySem.W PySem.Spec PyProof.Rows
section
variable {X:Cx}{pins:List (Addr×Obj)}{σ:St}{H H':Hp}{s:Shared}
theorem Inv.many{g:Heap}{t':Nat}(I:Inv X pins σ H s)(k:∀ b u,s.heap.get? b=some u->g.get? b=some u)(same:∀ b o,H b=some o->H' b=some o)
 (new:∀ b o,H' b=some o->H b=some o\/(s.heap.objs.size<=b/\ObjOk X.prog X.w H' g b o)):Inv X pins σ H' { s with heap:=g,toks:=t' }:=by
 refine I.un ⟨fun b u q _ _ _=>k b u q,fun b u q _ _ _=>⟨u.slots,k b u q⟩,fun b u q n _=>?_,fun b u q _=>⟨u,k b u q⟩,fun b xs q=>same b _ q,fun b u xs q=>same b _ q,fun b ps q=>⟨#[],by rw[same b _ q];simp⟩⟩ fun b o e=>?_
 · cases e:H' b with
   | none=>rfl
   | some o =>
    rcases new b o e with z | ⟨z,_⟩
    · rw[n]at z;cases z
    · exact absurd (jJ q) (Nat.not_lt.mpr z)
 · rcases new b o e with z | ⟨_,z⟩
   · exact (I.hok b o z).stay (fun c v _ q=>k c v q) (fun c q=>same c _ q) fun c xs q=>same c _ q
   · exact z
end
section
variable {prog:Program}{w:World}{A:Around}{E:Value->Shared->Prop}{s:Shared}
theorem y0K{a:Addr}{o:Obj}{Q:Value->Shared->Prop}(ho:s.heap.get? a=some o)(hd:o.ExactDict)(hs:(a == sysModules)=false)
 (k:Q (.ref s.heap.objs.size) { s with heap:=s.heap.push { cls := .type "dict_items",data := .fields #[.ref a] } }):wpAny (model prog w) A (call (.builtin "dict.items") [.ref a]) Q E s:=by
 have ty:s.TypeIs (.ref a) "dict" := ⟨o,ho,hd.1⟩
 refine wpAny_call_entry PySem.F.slot_dict_items ty PySem.F.entry_dict_items ?_ (PySem.F.args_dict_items_1 _)
 unfold Builtin.«dict.items» Builtin.Dict.noArgs
 refine wpAny_bind (wpAny_bind (wpAny_notOrdered_dict ty (wpAny_pure ?_)))
 show wpAny _ _ (Builtin.Dict.showsAll a >>= _) _ _ s
 unfold Builtin.Dict.showsAll
 rw[if_neg (by rw[hs];decide)]
 exact wpAny_bind (wpAny_pure (wpAny_bind (wpAny_newObj_type (wpAny_pure ⟨_,rfl,k⟩))))
theorem z3x:∀ {a b c:List Int},HT.lexLt a b=true->HT.lexLt b c=true->HT.lexLt a c=true
 | [],[],[],h1,_=>h1
 | [],y :: b,[],_,h2=>by rw[HT.lexLt_cons_nil]at h2;cases h2
 | [],_,_ :: _,_,_=>rfl
 | _ :: _,[],_,h1,_=>by rw[HT.lexLt_cons_nil]at h1;cases h1
 | x :: a,y :: b,[],_,h2=>by rw[HT.lexLt_cons_nil]at h2;cases h2
 | x :: a,y :: b,z :: c,h1,h2=>by
  rw[HT.lexLt_cons]at h1 h2 ⊢
  by_cases e1:x=y
  · rw[if_pos e1]at h1
    by_cases e2:y=z
    · rw[if_pos e2]at h2
      rw[if_pos (e1.trans e2)]
      exact z3x h1 h2
    · rw[if_neg e2]at h2
      rw[e1,if_neg e2];exact h2
  · rw[if_neg e1]at h1
    have l1:=of_decide_eq_true h1
    by_cases e2:y=z
    · rw[<- e2,if_neg e1];exact h1
    · rw[if_neg e2]at h2
      have l2:=of_decide_eq_true h2
      rw[if_neg (by omega)]
      exact decide_eq_true (by omega)
theorem z6I:∀ {a b:List Int},a≠b->HT.lexLt a b=false->HT.lexLt b a=true
 | [],[],h,_=>absurd rfl h
 | [],_ :: _,_,h=>by cases h
 | _ :: _,[],_,_=>rfl
 | x :: a,y :: b,h,e=>by
  rw[HT.lexLt_cons]at e ⊢
  by_cases z:x=y
  · rw[if_pos z]at e
    rw[if_pos z.symm]
    exact z6I (fun q=>h (by rw[z,q])) e
  · rw[if_neg z]at e
    rw[if_neg (Ne.symm z)]
    have:=of_decide_eq_false e
    exact decide_eq_true (by omega)
end
theorem y2w{α:Type}{b:Addr}{o:α}:∀ {L:List (Addr×α)},L.lookup b=some o->(b,o)∈L
 | (c,u) :: L,h=>by
  rw[List.lookup_cons]at h
  split at h
  · rename_i e
    have:b=c:=by simpa using e
    cases h
    rw[this];exact .head _
  · exact .tail _ (y2w h)
theorem y8k{α:Type}{b:Addr}{o:α}:∀ {L:List (Addr×α)},(L.map (·.1)).Nodup->(b,o)∈L->L.lookup b=some o
 | (c,u) :: L,nd,h=>by
  rw[jV,kI]at nd
  rw[List.lookup_cons]
  rcases jQ.mp h with e | h
  · cases e;simp
  · have ne:b≠c:=fun z=>nd.1 (by rw[<- z];exact jN.mpr ⟨_,h,rfl⟩)
    rw[show (b == c)=false by simpa using ne]
    exact y8k nd.2 h
def more(H:Hp)(L:List (Addr×HO)):Hp:=fun b=>(L.lookup b).or (H b)
theorem z9K{H:Hp}{L:List (Addr×HO)}{b:Addr}{o:HO}(nd:(L.map (·.1)).Nodup)(h:(b,o)∈L):more H L b=some o:=by
 unfold more;rw[y8k nd h];rfl
theorem z6D{H:Hp}{L:List (Addr×HO)}{b:Addr}{o:HO}(fr:∀ p∈L,H p.1=none)(h:H b=some o):more H L b=some o:=by
 unfold more
 cases e:L.lookup b with
 | none=>exact h
 | some u=>rw[fr _ (y2w e)]at h;cases h
theorem y6y{H:Hp}{L:List (Addr×HO)}{b:Addr}{o:HO}(h:more H L b=some o):H b=some o\/(b,o)∈L:=by
 unfold more at h
 cases e:L.lookup b with
 | none=>rw[e]at h;exact .inl h
 | some u=>rw[e]at h;cases h;exact .inr (y2w e)
section
variable {X:Cx}{pins:List (Addr×Obj)}{σ:St}{H:Hp}{s:Shared}
abbrev kz(ks:List (List Int×V)):List (List Key×V):=ks.map fun kv=>(kv.1.map Sum.inl,kv.2)
def z2N(H:Hp)(x:V)(kv:List Int×V):Prop:=∃ p b,x = .ref p/\H p=some (.tup [.ref b,kv.2])/\H b=some (.tup (kv.1.map V.int))
theorem z1P(ns:List Int):(ns.map (Sum.inl:Int->Key)).map kV=ns.map V.int:=by rw[kh];rfl
theorem z5I{α β:Type}{F:α->β->Prop}:∀ {l:List α}{m:List β},Paired F l m->∀ {i:Nat}{x:α},l[i]? = some x->∃ y,m[i]? = some y/\F x y
 | _,_,.nil,i,x,h=>by simp at h
 | _,_,.cons h t,0,x,e=>by
  rw[List.getElem?_cons_zero]at e
  cases e;exact⟨_,rfl,h⟩
 | _,_,.cons h t,i + 1,x,e=>by
  rw[List.getElem?_cons_succ]at e
  obtain⟨y,e1,e2⟩:=z5I t e
  exact⟨y,by rw[List.getElem?_cons_succ];exact e1,e2⟩
theorem z8h{h:Heap}:∀ (as:List Addr) (fs:List Value),as.length=fs.length->(∀ (i:Nat) (b:Addr) (f:Value),as[i]? = some b->fs[i]? = some f->∃ o ys n,h.get? b=some o/\o.cls = .type "tuple" /\ o.data = .seq ys n/\ys[0]? = some f)->KatTups h (as.map Value.ref) fs
 | [],[],_,_=>KatTups.nil
 | b :: as,f :: fs,hl,k=>by
  obtain⟨o,ys,n,h1,h2,h3,h4⟩:=k 0 b f rfl rfl
  exact KatTups.cons h1 h2 h3 h4 (z8h as fs (by simpa using hl) fun i b' f' e1 e2=>k (i + 1) b' f' (by simpa using e1) (by simpa using e2))
theorem z7N{A:Around}{k:Nat}(hr:Room k A):A.in1.in1.units < cLine:=by
 have:=hr.units
 show A.units + 1 + 1 < cLine
 omega
end
section
variable {X:Cx}{pins:List (Addr×Obj)}{σ:St}{H:Hp}{s:Shared}
end
section
variable {X:Cx}{pins:List (Addr×Obj)}{σ:St}{H H':Hp}{s:Shared}
theorem z3e:∀ (a:List Int),HT.lexLt a a=false
 | []=>rfl
 | x :: a=>by
  rw[HT.lexLt_cons,if_pos rfl];exact z3e a
theorem z6j{a r:Addr}{ks:List (List Int×V)}{Q:VK}(hc:X.calm=true)(hu:X.A.in1.in1.units < cLine)(I:Inv X pins σ H s)(e:H a=some (.dT (kz ks)))(few:ks.length < 100000)(view:s.heap.IsItemsView r a)
 (q:∀ (H':Hp) (l:Addr) (qs:List (List Int×V)) (xs:List V),qs.Perm ks->qs.Pairwise (fun p q=>HT.lexLt p.1 q.1=true)->Same H H'->H l=none->H' l=some (.lst xs)->xs.length=qs.length->(∀ (i:Nat) (x:V) (kv:List Int×V),xs[i]? = some x->qs[i]? = some kv->z2N H' x kv)->Q (.ref l) H') :
 wpAny (model X.prog X.w) X.A (call (.builtin "sorted") [.ref r]) (EP X pins σ Q) X.xe s:=by
 have hh:X.A.in1.handled=none:=I.ok.hd hc
 obtain⟨_,_,xs,kt,o,es,ep,ho,hd,hdat,hes,nd⟩:=(show ObjOk X.prog X.w H s.heap a (.dT (kz ks)) from I.hok a _ e)
 have xl:xs.length=ks.length:=by rw[<- kt.length,jA]
 have el:es.size=ks.length:=by rw[size_of_entries hes,xl]
 have big:es.size<=sizeLine:=by rw[el,sizeLine_eq];omega
 obtain⟨bb,ebb⟩:∃ bb:Nat->Addr,bb=fun i=>(xs.getD i ([],0,.none)).2.1:=⟨_,rfl⟩
 obtain⟨uu,euu⟩:∃ uu:Nat->Value,uu=fun i=>(xs.getD i ([],0,.none)).2.2:=⟨_,rfl⟩
 obtain⟨kk,ekk⟩:∃ kk:Nat->List Int×V,kk=fun i=>ks.getD i ([],.non):=⟨_,rfl⟩
 have at_:∀ i,i < ks.length->xs[i]? = some ((kk i).1.map Sum.inl,bb i,uu i)/\H (bb i)=some (.tup ((kk i).1.map V.int))/\RelV (kk i).2 (uu i):=fun i hi=>by
  have e1:(kz ks)[i]? = some ((kk i).1.map Sum.inl,(kk i).2):=by
   rw[jF,jD hi,ekk]
   simp[List.getD,hi]
  obtain⟨⟨k1,b1,u1⟩,e2,e3,e4,e5⟩:=z5I kt e1
  have hx:xs.getD i ([],0,.none)=(k1,b1,u1):=by rw[jC,e2];rfl
  dsimp only at e3 e4 e5
  rw[ebb,euu]
  dsimp only
  rw[hx,e2,<- e3]
  exact⟨rfl,by rw[<- z1P];exact e4,e5⟩
 have ent:∀ i,i < ks.length->∃ hs:Int,es[i]? = some ⟨hs,.ref (bb i),uu i⟩:=fun i hi=>by
  rw[entry_at hes,(at_ i hi).1]
  exact⟨_,rfl⟩
 have dist:∀ i j,i < ks.length->j < ks.length->i≠j->(kk i).1≠(kk j).1:=fun i j hi hj hij z=>by
  have e1:(xs.map (·.1))[i]? = some ((kk i).1.map Sum.inl):=by rw[jF,(at_ i hi).1];rfl
  have e2:(xs.map (·.1))[j]? = some ((kk i).1.map Sum.inl):=by rw[jF,(at_ j hj).1,z];rfl
  obtain⟨a1,c1⟩:=jH.mp e1
  obtain⟨a2,c2⟩:=jH.mp e2
  exact hij ((qI nd).mp (c1.trans c2.symm))
 have ord:SOrd ks.length fun i j=>HT.lexLt (kk i).1 (kk j).1:=⟨fun i j k _ _ _ h1 h2=>z3x h1 h2,fun i j hi hj hij h=>z6I (dist i j hi hj hij) h⟩
 have tp:∀ i,i < ks.length->∃ its:List Value,IntsAre its.toArray.toList (kk i).1/\IsTup s.heap (bb i) its.toArray:=fun i hi=>by
  obtain⟨its,rv,pl,_⟩:=I.tuple (.of (at_ i hi).2.1)
  exact⟨its,z5Q rv,pl⟩
 have keyAt:∀ i,i < ks.length->∀ g:Heap,(∀ b o,s.heap.get? b=some o->g.get? b=some o)->(tupleKind (z0F X.prog X.w)).is g ((kk i).1.map Sum.inl) (bb i):=fun i hi g kp=>by
  obtain⟨o1,its,n1,h1,h2,h3,h4⟩:=z3A (a:=bb i) (ks:=(kk i).1.map Sum.inl) I.hok (by rw[z1P];exact (at_ i hi).2.1)
  exact⟨o1,its,n1,kp _ _ h1,h2,h3,h4⟩
 let C:List Value->Shared->Prop:=fun vs s1=>∃ (g:Heap) (tk:Nat) (as:List Addr),s1={ s with heap:=g,toks:=tk }/\(∀ b o,s.heap.get? b=some o->g.get? b=some o)/\s.heap.objs.size < g.objs.size/\vs=as.map Value.ref/\as.length=es.size/\VPs es s.heap.objs.size g as
 have pair:∀ {g:Heap}{as:List Addr},as.length=es.size->VPs es s.heap.objs.size g as->∀ i,i < ks.length->as[i]? = some (as.getD i 0)/\g.get? (as.getD i 0)=some { cls := .type "tuple",data := .seq #[.ref (bb i),uu i] }:=fun {g as} hl ps i hi=>by
  have e1:as[i]? = some (as.getD i 0):=by rw[jC,jD (by omega)];rfl
  obtain⟨en,e2,e3⟩:=ps.pairs i _ e1
  obtain⟨hs,e4⟩:=ent i hi
  rw[e4]at e2
  cases e2
  exact⟨e1,e3⟩
 refine z4f (C:=C) (fun E' R hR=>y0n (A:=X.A.in1) hh view ⟨o,ho,hdat⟩ big fun g tk as k1 k0 k2 k3=>hR _ _ ⟨g,tk,as,rfl,k1,k0,rfl,k2,k3⟩) (fun vs s1 hC=>?_) (tuples' false) (fun _ _ i j=>HT.lexLt (kk i).1 (kk j).1) (fun vs s1 hC=>?_) (fun vs s1 hC i hi=>z3e _) (fun vs s1 hC two g2 kp2 R hR=>?_) (fun vs s1 hC g2 kp2 i j Z hi hj hij hZ=>?_) (fun vs s1 hC p g2 c pm sr kp2 hg=>?_)
 · obtain⟨g,tk,as,rfl,kp,up,rfl,hl,ps⟩:=hC
   rw[jA];omega
 · obtain⟨g,tk,as,rfl,kp,up,rfl,hl,ps⟩:=hC
   rw[jA,hl,el];exact ord
 · obtain⟨g,tk,as,rfl,kp,up,rfl,hl,ps⟩:=hC
   rw[jA]at two
   have t:=z8h (h:=g2) as (xs.map fun q=>Value.ref q.2.1) (by rw[jA];omega) fun i b f e1 e2=>by
    have hi:i < ks.length:=by have:=(jH.mp e1).1;omega
    obtain⟨f1,f2⟩:=pair hl ps i hi
    rw[f1]at e1
    rw[jF,(at_ i hi).1]at e2
    cases e1;cases e2
    exact⟨_,_,_,kp2 _ _ f2,rfl,rfl,rfl⟩
   refine kat_kind (T := .type "tuple") t (by rw[jA];omega) (fun v hv=>?_) rfl (by rw[show (Value.type "tuple" != Value.type "tuple")=false by decide];exact hR)
   obtain⟨x,hx,rfl⟩:=jN.mp hv
   obtain⟨i,hi,rfl⟩:=List.mem_iff_getElem.mp hx
   have e1:=(at_ i (by omega)).1
   rw[jD hi]at e1
   obtain⟨o1,its,n1,h1,h2,h3,h4⟩:=keyAt i (by omega) g2 fun b o q=>kp2 b o (kp b o q)
   rw[Option.some.inj e1]
   have L:Looks (model X.prog X.w) g2 (typeOf (.ref (bb i))) o1.cls:=(Looks.ld h1).andThen .now
   rw[h2]at L
   exact L
 · obtain⟨g,tk,as,rfl,kp,up,rfl,hl,ps⟩:=hC
   rw[jA,hl,el]at hi hj
   obtain⟨f1,f2⟩:=pair hl ps i hi
   obtain⟨f3,f4⟩:=pair hl ps j hj
   have v1:(as.map Value.ref).getD i Value.none = .ref (as.getD i 0):=by rw[jC,jF,f1];rfl
   have v2:(as.map Value.ref).getD j Value.none = .ref (as.getD j 0):=by rw[jC,jF,f3];rfl
   rw[v1,v2]
   have kp3:∀ b o,s.heap.get? b=some o->g2.get? b=some o:=fun b o q=>kp2 b o (kp b o q)
   refine kat_lt (kp2 _ _ f2) rfl (kp2 _ _ f4) rfl (kat_cons ((tupleKind (z0F X.prog X.w)).eqBool (E:=fun _ _=>False) hu (keyAt i hi g2 kp3) (keyAt j hj g2 kp3) ?_))
   have ne:(kk i).1.map (Sum.inl:Int->Key)≠(kk j).1.map Sum.inl:=fun z=>dist i j hi hj hij ((List.map_inj_right (fun _ _ h=>Sum.inl.inj h)).mp z)
   rw[decide_eq_false ne]
   refine kat_no (kat_one _ _ ?_)
   obtain⟨i1,n1,o1,h1,h2,m1,h3⟩:=tp i hi
   obtain⟨i2,n2,o2,h4,h5,m2,h6⟩:=tp j hj
   exact HT.lt_tupInts ⟨o1,kp3 _ _ h1,h2,m1,h3⟩ ⟨o2,kp3 _ _ h4,h5,m2,h6⟩ n1 n2 hu hZ
 · obtain⟨g,tk,as,rfl,kp,up,rfl,hl,ps⟩:=hC
   rw[jA,hl,el]at pm sr
   dsimp only at kp2 hg ⊢
   have kp3:∀ b o,s.heap.get? b=some o->g2.get? b=some o:=fun b o q=>kp2 b o (kp b o q)
   have pz:p.toList.length=ks.length:=by rw[jX];exact pm.size
   have pin:∀ i∈p.toList,i < ks.length:=fun i hi=>by
    have:=pm.mem_iff.mp (Array.mem_toList_iff.mp hi)
    simpa using this
   have low:∀ i,i < ks.length->s.heap.objs.size < as.getD i 0/\as.getD i 0 < g.objs.size:=fun i hi=>by
    have m:=jk (pair hl ps i hi).1
    exact⟨ps.above _ m,ps.there m⟩
   obtain⟨l,el2⟩:∃ l,l=g.objs.size:=⟨_,rfl⟩
   rw[<- el2]at hg ⊢
   let L:List (Addr×HO):=(List.range ks.length).map (fun i=>(as.getD i 0,HO.tup [.ref (bb i),(kk i).2])) ++ [(l,.lst (p.toList.map fun i=>V.ref (as.getD i 0)))]
   have asl:(List.range ks.length).map (fun i=>as.getD i 0)=as:=by
    refine qK (by rw[jA,qO];omega) fun i h1 h2=>?_
    rw[List.getElem_map,List.getElem_range,jC,jD h2];rfl
   have Lk:L.map (·.1)=as ++ [l]:=by
    show ((List.range ks.length).map (fun i=>(as.getD i 0,HO.tup [.ref (bb i),(kk i).2])) ++ [(l,HO.lst (p.toList.map fun i=>V.ref (as.getD i 0)))]).map (·.1)=as ++ [l]
    rw[jT,kh]
    show (List.range ks.length).map (fun i=>as.getD i 0) ++ [l]=as ++ [l]
    rw[asl]
   have Ln:(L.map (·.1)).Nodup:=by
    rw[Lk,kY]
    refine⟨ps.nd,by simp,fun b hb c hc e=>?_⟩
    have:=ps.there hb
    rw[jM.mp hc,el2]at e
    exact jU this e
   have Lf:∀ x∈L,s.heap.objs.size<=x.1:=fun x hx=>by
    have:x.1∈as ++ [l]:=by rw[<- Lk];exact jN.mpr ⟨x,hx,rfl⟩
    rcases jL.mp this with h | h
    · exact kP (ps.above _ h)
    · rw[jM.mp h,el2];exact kP up
   have fr:∀ x∈L,H x.1=none:=fun x hx=>I.hok.fresh (Lf x hx)
   have inP:∀ i,i < ks.length->(as.getD i 0,HO.tup [.ref (bb i),(kk i).2])∈L:=fun i hi=>jW _ (jN.mpr ⟨i,List.mem_range.mpr hi,rfl⟩)
   have inL:(l,HO.lst (p.toList.map fun i=>V.ref (as.getD i 0)))∈L:=jP _ (jM.mpr rfl)
   have out:z1v (as.map Value.ref) p=p.toList.map fun i=>Value.ref (as.getD i 0):=by
    unfold z1v
    refine jo fun i hi=>?_
    rw[jC,jF,(pair hl ps i (pin i hi)).1];rfl
   refine⟨.ref l,more H L,I.many (t':=tk) kp3 (fun b u q=>z6D fr q) (fun b u q=>?_),rfl,q (more H L) l (p.toList.map kk) (p.toList.map fun i=>V.ref (as.getD i 0)) ?_ ?_ (fun b u q=>z6D fr q) (fr _ inL) (z9K Ln inL) (by rw[jA,jA]) fun j x kv e1 e2=>?_⟩
   · rcases y6y q with q | q
     · exact .inl q
     · refine .inr ⟨Lf _ q,?_⟩
       rcases jL.mp q with q | q
       · obtain⟨i,hi,ei⟩:=jN.mp q
         have hi:=List.mem_range.mp hi
         cases ei
         exact⟨by show 2<=sizeLine;decide,[.ref (bb i),uu i],.cons rfl (.cons (at_ i hi).2.2 .nil),_,kp2 _ _ (pair hl ps i hi).2,rfl,_,rfl⟩
       · cases jM.mp q
         refine⟨by rw[jA,pz,sizeLine_eq];omega,p.toList.map fun i=>Value.ref (as.getD i 0),c,?_,by rw[<- out];exact hg⟩
         generalize p.toList=pl
         induction pl with
         | nil=>exact .nil
         | cons i pl ih=>exact .cons rfl ih
   · have e1:(List.range ks.length).map kk=ks:=by
      refine qK (by rw[jA,qO]) fun i h1 h2=>?_
      rw[List.getElem_map,List.getElem_range,ekk]
      simp[List.getD,h2]
     have:=(show p.toList.Perm (List.range ks.length) from kR.mp pm).map kk
     rwa [e1]at this
   · rw[kA]
     refine k8.mpr fun i j hi hj hij=>?_
     have:=sr i j hij (by omega)
     have g1:p.getD i 0=p.toList[i]:=by simp[Array.getD,show i < p.size by simpa using hi]
     have g3:p.getD j 0=p.toList[j]:=by simp[Array.getD,show j < p.size by simpa using hj]
     rw[g1,g3]at this
     exact this
   · rw[jF]at e1 e2
     cases ej:p.toList[j]? with
     | none=>rw[ej]at e1;cases e1
     | some i =>
      rw[ej]at e1 e2
      cases e1;cases e2
      have hi:=pin i (jk ej)
      exact⟨_,bb i,rfl,z9K Ln (inP i hi),z6D fr (at_ i hi).2.1⟩
def y5J(td:TE):TE:=fun σ H Q=>td σ H fun x H1=>∃ a ks,x = .ref a/\H1 a=some (.dT (kz ks))/\ks.length < 100000 /\
 ∀ (H':Hp) (l:Addr) (qs:List (List Int×V)) (xs:List V),qs.Perm ks->qs.Pairwise (fun p q=>HT.lexLt p.1 q.1=true)->Same H1 H'->H1 l=none->H' l=some (.lst xs)->xs.length=qs.length->(∀ (i:Nat) (x:V) (kv:List Int×V),xs[i]? = some x->qs[i]? = some kv->z2N H' x kv)->Q (.ref l) H'
theorem z4R{o:Expr}{td:TE}{p ap cp pos:Pos}(hc:X.calm=true)(hu:X.A.in1.in1.units < cLine)(hg:Gl X "sorted")(hm:X.mg "sorted" = none)(hv:bootBuiltins "sorted" = some (.builtin "sorted"))(ho:PE X o td)
 (hbase:attributeBase o "items" X.env (eval o X.env)=eval o X.env:=by rfl) (hline:(ap.endLine == cp.line)=true:=by rfl):PE X (.Call (.Name "sorted" p) [.Call (.Attribute o "items" ap) [] [] cp] [] pos) (y5J td):=by
 intro pins s σ H Q I h
 refine wpAny_Call_Name_kw (z3z I hg hm hv ?_ (by decide) (by decide))
 refine PyProof.Rows.callWith_builtin1 ?_ rfl rfl
 show wpAny _ _ (spliced [(false,eval (.Call (.Attribute o "items" ap) [] [] cp) X.env)]) _ _ s
 refine Calls.spliced_cons (wpAny_Call_method0_late hbase hline (thn (ho pins s σ H _ I h) fun v s1 ⟨x,H1,I1,r1,a,ks,ex,e1,few,q1⟩=>?_))
 subst ex
 obtain rfl:v=Value.ref a:=r1
 obtain⟨t1,t2,t3⟩:=y2H I1 (.inr ⟨_,.inl e1⟩)
 obtain⟨_,_,xs,kt,o1,es,ep,ho1,hd1,_⟩:=(show ObjOk X.prog X.w H1 s1.heap a (.dT (kz ks)) from I1.hok a _ e1)
 refine⟨"dict", "dict.items",PySem.F.plainAttrs_dict,PySem.F.slot_dict_items,PySem.F.type_dict_items,t1,t2,Calls.callWith_builtin rfl (PySem.evalArgs_none (y0K ho1 hd1 t3 ?_))⟩
 refine Calls.spliced_nil ?_
 have I2:=I1.kept (h':=s1.heap.push { cls := .type "dict_items",data := .fields #[.ref a] }) (t':=s1.toks) fun b u q=>jB _ q
 exact z6j hc hu I2 e1 few ⟨_,jO _ rfl,rfl,rfl⟩ q1
theorem z6i{a:Addr}{xs:List V}{ks:List (List Int×V)}{Q:VK}(hu:X.A.in1.in1.units < cLine)(I:Inv X pins σ H s)(hl:SqL X.K H a xs)(xl:xs.length=ks.length)(few:ks.length < 100000)
 (hp:∀ (i:Nat) (x:V) (kv:List Int×V),xs[i]? = some x->ks[i]? = some kv->z2N H x kv) (nd:(ks.map (·.1)).Nodup)
 (q:∀ (l:Addr) (qs:List (List Int×V)) (ys:List V),qs.Perm ks->qs.Pairwise (fun p q=>HT.lexLt p.1 q.1=true)->H l=none->ys.length=qs.length->(∀ (i:Nat) (x:V) (kv:List Int×V),ys[i]? = some x->qs[i]? = some kv->z2N H x kv)->Q (.ref l) (upd H l (.lst ys))) :
 wpAny (model X.prog X.w) X.A (call (.builtin "sorted") [.ref a]) (EP X pins σ Q) X.xe s:=by
 obtain⟨its,rv,pl,hz⟩:=I.list hl
 have il:its.length=ks.length:=by rw[<- rv.length,xl]
 obtain⟨kk,ekk⟩:∃ kk:Nat->List Int×V,kk=fun i=>ks.getD i ([],.non):=⟨_,rfl⟩
 obtain⟨pp,epp⟩:∃ pp:Nat->Addr,pp=fun i=>match xs.getD i .non with | .ref p=>p | _=>0:=⟨_,rfl⟩
 obtain⟨bb,ebb⟩:∃ bb:Nat->Addr,bb=fun i=>match H (pp i) with | some (.tup (.ref b :: _))=>b | _=>0:=⟨_,rfl⟩
 have at_:∀ i,i < ks.length->xs[i]? = some (.ref (pp i))/\its[i]? = some (Value.ref (pp i))/\H (pp i)=some (.tup [.ref (bb i),(kk i).2])/\H (bb i)=some (.tup ((kk i).1.map V.int)):=fun i hi=>by
  have e1:ks[i]? = some (kk i):=by rw[ekk];simp[List.getD,hi]
  have hx:i < xs.length:=by omega
  obtain⟨p,b,e2,e3,e4⟩:=hp i xs[i] (kk i) (jD hx) e1
  have e5:xs.getD i .non = .ref p:=by rw[jC,jD hx,e2];rfl
  have e6:pp i=p:=by rw[epp];dsimp only;rw[e5]
  have e7:bb i=b:=by rw[ebb];dsimp only;rw[e6,e3]
  obtain⟨w',h1,h2⟩:=rv.get (jD hx)
  rw[e2]at h2
  cases h2
  rw[e6,e7]
  exact⟨by rw[jD hx,e2],h1,e3,e4⟩
 have dist:∀ i j,i < ks.length->j < ks.length->i≠j->(kk i).1≠(kk j).1:=fun i j hi hj hij z=>by
  have e1:(ks.map (·.1))[i]? = some (kk i).1:=by rw[jF,ekk];simp[List.getD,hi]
  have e2:(ks.map (·.1))[j]? = some (kk i).1:=by rw[jF,z,ekk];simp[List.getD,hj]
  obtain⟨a1,c1⟩:=jH.mp e1
  obtain⟨a2,c2⟩:=jH.mp e2
  exact hij ((qI nd).mp (c1.trans c2.symm))
 have ord:SOrd ks.length fun i j=>HT.lexLt (kk i).1 (kk j).1:=⟨fun i j k _ _ _ h1 h2=>z3x h1 h2,fun i j hi hj hij h=>z6I (dist i j hi hj hij) h⟩
 have tp:∀ i,i < ks.length->∃ its:List Value,IntsAre its.toArray.toList (kk i).1/\IsTup s.heap (bb i) its.toArray:=fun i hi=>by
  obtain⟨its,rv,pl,_⟩:=I.tuple (.of (at_ i hi).2.2.2)
  exact⟨its,z5Q rv,pl⟩
 have keyAt:∀ i,i < ks.length->∀ g:Heap,(∀ b o,s.heap.get? b=some o->g.get? b=some o)->(tupleKind (z0F X.prog X.w)).is g ((kk i).1.map Sum.inl) (bb i):=fun i hi g kp=>by
  obtain⟨o1,its,n1,h1,h2,h3,h4⟩:=z3A (a:=bb i) (ks:=(kk i).1.map Sum.inl) I.hok (by rw[z1P];exact (at_ i hi).2.2.2)
  exact⟨o1,its,n1,kp _ _ h1,h2,h3,h4⟩
 have pair:∀ i,i < ks.length->∃ (o:Obj) (u:Value) (n:Nat),s.heap.get? (pp i)=some o/\o.cls = .type "tuple" /\ o.data = .seq #[.ref (bb i),u] n:=fun i hi=>by
  obtain⟨its2,rv2,⟨o,h1,h2,n,h3⟩,_⟩:=I.tuple (X:=X) (.of (at_ i hi).2.2.1)
  cases rv2 with
  | cons r1 r2 =>
   cases r2 with
   | cons r3 r4 =>
    cases r4
    cases r1
    exact⟨o,_,n,h1,h2,h3⟩
 have itsE:its=((List.range ks.length).map pp).map Value.ref:=by
  refine List.ext_getElem? fun i=>?_
  by_cases hi:i < ks.length
  · rw[(at_ i hi).2.1,jF,jF,List.getElem?_range hi];rfl
  · rw[kO (by omega),kO (by simp;omega)]
 let C:List Value->Shared->Prop:=fun vs s1=>∃ (g:Heap),s1={ s with heap:=g }/\(∀ b o,s.heap.get? b=some o->g.get? b=some o)/\s.heap.objs.size < g.objs.size/\vs=its
 refine z4f (C:=C) (fun E' R hR=>collect_list (vs:=its) pl.isList (hR _ _ ⟨_,rfl,fun b o e=>?_,?_,rfl⟩) (by rw[il,sizeLine_eq];omega)) (fun vs s1 hC=>?_) (tuples' false) (fun _ _ i j=>HT.lexLt (kk i).1 (kk j).1) (fun vs s1 hC=>?_) (fun vs s1 hC i hi=>z3e _) (fun vs s1 hC two g2 kp2 R hR=>?_) (fun vs s1 hC g2 kp2 i j Z hi hj hij hZ=>?_) (fun vs s1 hC p g2 c pm sr kp2 hg=>?_)
 · have hb:=jJ e
   rw[Heap.get?_update_ne _ _ _ _ (jU hb),Heap.get?_push_ne _ _ _ (jU hb)]
   exact e
 · rw[Heap.size_update,size_push'];exact Nat.lt_succ_self _
 · obtain⟨g,rfl,kp,up,rfl⟩:=hC
   omega
 · obtain⟨g,rfl,kp,up,rfl⟩:=hC
   rw[il];exact ord
 · obtain⟨g,rfl,kp,up,rfl⟩:=hC
   have t:=z8h (h:=g2) ((List.range ks.length).map pp) ((List.range ks.length).map fun i=>Value.ref (bb i)) (by simp) fun i b f e1 e2=>by
    have hi:i < ks.length:=by have:=(jH.mp e1).1;simpa using this
    rw[jF,List.getElem?_range hi]at e1 e2
    cases e1;cases e2
    obtain⟨o,u,n,h1,h2,h3⟩:=pair i hi
    exact⟨o,_,n,kp2 _ _ (kp _ _ h1),h2,h3,rfl⟩
   rw[<- itsE]at t
   refine kat_kind (T := .type "tuple") t (by simp;omega) (fun v hv=>?_) rfl (by rw[show (Value.type "tuple" != Value.type "tuple")=false by decide];exact hR)
   obtain⟨i,hi,rfl⟩:=jN.mp hv
   have hi:=List.mem_range.mp hi
   obtain⟨o1,its,n1,h1,h2,h3,h4⟩:=keyAt i hi g2 fun b o q=>kp2 b o (kp b o q)
   have L:Looks (model X.prog X.w) g2 (typeOf (.ref (bb i))) o1.cls:=(Looks.ld h1).andThen .now
   rw[h2]at L
   exact L
 · obtain⟨g,rfl,kp,up,rfl⟩:=hC
   rw[il]at hi hj
   obtain⟨o1,u1,n1,f1,_,f2⟩:=pair i hi
   obtain⟨o2,u2,n2,f3,_,f4⟩:=pair j hj
   have v1:vs.getD i Value.none = .ref (pp i):=by rw[jC,(at_ i hi).2.1];rfl
   have v2:vs.getD j Value.none = .ref (pp j):=by rw[jC,(at_ j hj).2.1];rfl
   rw[v1,v2]
   have kp3:∀ b o,s.heap.get? b=some o->g2.get? b=some o:=fun b o q=>kp2 b o (kp b o q)
   refine kat_lt (kp3 _ _ f1) f2 (kp3 _ _ f3) f4 (kat_cons ((tupleKind (z0F X.prog X.w)).eqBool (E:=fun _ _=>False) hu (keyAt i hi g2 kp3) (keyAt j hj g2 kp3) ?_))
   have ne:(kk i).1.map (Sum.inl:Int->Key)≠(kk j).1.map Sum.inl:=fun z=>dist i j hi hj hij ((List.map_inj_right (fun _ _ h=>Sum.inl.inj h)).mp z)
   rw[decide_eq_false ne]
   refine kat_no (kat_one _ _ ?_)
   obtain⟨i1,m1,o1,h1,h2,m1',h3⟩:=tp i hi
   obtain⟨i2,m2,o2,h4,h5,m2',h6⟩:=tp j hj
   exact HT.lt_tupInts ⟨o1,kp3 _ _ h1,h2,m1',h3⟩ ⟨o2,kp3 _ _ h4,h5,m2',h6⟩ m1 m2 hu hZ
 · obtain⟨g,rfl,kp,up,rfl⟩:=hC
   rw[il]at pm sr
   dsimp only at kp2 hg ⊢
   have kp3:∀ b o,s.heap.get? b=some o->g2.get? b=some o:=fun b o q=>kp2 b o (kp b o q)
   have pz:p.toList.length=ks.length:=by rw[jX];exact pm.size
   have pin:∀ i∈p.toList,i < ks.length:=fun i hi=>by
    have:=pm.mem_iff.mp (Array.mem_toList_iff.mp hi)
    simpa using this
   have out:z1v vs p=p.toList.map fun i=>Value.ref (pp i):=by
    unfold z1v
    refine jo fun i hi=>?_
    rw[jC,(at_ i (pin i hi)).2.1];rfl
   rw[out]at hg
   have fr:H g.objs.size=none:=I.hok.fresh (kP up)
   refine⟨.ref g.objs.size,upd H g.objs.size (.lst (p.toList.map fun i=>V.ref (pp i))),I.laid (t':=s.toks) kp3 (kP up) (show ObjOk X.prog X.w _ g2 _ (.lst (p.toList.map fun i=>V.ref (pp i))) from ⟨by rw[jA,pz,sizeLine_eq];omega,p.toList.map fun i=>Value.ref (pp i),c,?_,hg⟩),rfl,q g.objs.size (p.toList.map kk) (p.toList.map fun i=>V.ref (pp i)) ?_ ?_ fr (by rw[jA,jA]) fun j x kv e1 e2=>?_⟩
   · generalize p.toList=pl'
     induction pl' with
     | nil=>exact .nil
     | cons i pl' ih=>exact .cons rfl ih
   · have e1:(List.range ks.length).map kk=ks:=by
      refine qK (by rw[jA,qO]) fun i h1 h2=>?_
      rw[List.getElem_map,List.getElem_range,ekk]
      simp[List.getD,h2]
     have:=(show p.toList.Perm (List.range ks.length) from kR.mp pm).map kk
     rwa [e1]at this
   · rw[kA]
     refine k8.mpr fun i j hi hj hij=>?_
     have:=sr i j hij (by omega)
     have g1:p.getD i 0=p.toList[i]:=by simp[Array.getD,show i < p.size by simpa using hi]
     have g3:p.getD j 0=p.toList[j]:=by simp[Array.getD,show j < p.size by simpa using hj]
     rw[g1,g3]at this
     exact this
   · rw[jF]at e1 e2
     cases ej:p.toList[j]? with
     | none=>rw[ej]at e1;cases e1
     | some i =>
      rw[ej]at e1 e2
      cases e1;cases e2
      have hi:=pin i (jk ej)
      exact⟨_,bb i,rfl,(at_ i hi).2.2.1,(at_ i hi).2.2.2⟩
theorem z6S(K:PySem.W.Frag)(hK:X.K=K)(hu:X.A.in1.in1.units < cLine):CallR X (.builtin "sorted") (fun vs H Q=>∃ (a:Addr) (xs:List V) (ks:List (List Int×V)),vs=[.ref a]/\SqL K H a xs/\xs.length=ks.length/\ks.length < 100000 /\
 (∀ (i:Nat) (x:V) (kv:List Int×V),xs[i]? = some x->ks[i]? = some kv->z2N H x kv)/\(ks.map (·.1)).Nodup /\
 ∀ (l:Addr) (qs:List (List Int×V)) (ys:List V),qs.Perm ks->qs.Pairwise (fun p q=>HT.lexLt p.1 q.1=true)->H l=none->ys.length=qs.length->(∀ (i:Nat) (x:V) (kv:List Int×V),ys[i]? = some x->qs[i]? = some kv->z2N H x kv)->Q (.ref l) (upd H l (.lst ys))):=by
 subst hK
 intro pins s σ H xs us Q I r h
 obtain⟨a,xs,ks,rfl,h1,h2,h3,h4,h5,q⟩:=h
 obtain⟨u,rfl,rx⟩:=z3H r
 cases rx
 exact z6i hu I h1 h2 h3 h4 h5 q
end
section
variable {prog:Program}{w:World}{A:Around}{E:Value->Shared->Prop}{s:Shared}
end
section
variable {prog:Program}{w:World}{A:Around}{E:Value->Shared->Prop}{s:Shared}{T:String}{r d:Addr}{n:Nat}{P:Nat->Value->Prop}{OK:Heap->Prop}
end
section
variable {prog:Program}{w:World}{A:Around}{s:Shared}{b fin:Bool}{Q:Bool->Shared->Prop}
end
section
variable {X:Cx}{pins:List (Addr×Obj)}{σ:St}{H:Hp}{s:Shared}
end
end L2
namespace PySem.SeqAt
open AutoSeq1 (wpAny_loadPart')
open MeetsSeq MeetsSeq2 MeetsSeq3 SeqRoads2
theorem tuple_indexAt(l:Addr)(items:Array Value)(n:Nat)(dd:Option Addr)(sl:Array (Option Value))(x:Value)(e:Value->Bool)(j:Nat)(hj:j < items.size)
 (hit:e items[j]=true) (hno:∀ m (hm:m < items.size),m < j->e items[m]=false) :
 Meets (Builtin.«tuple.index» ⟨[.ref l,x],[]⟩)
  (fun A R s=>s.heap.get? l=some { cls := .type "tuple",dict:=dd,data := .seq items n,slots:=sl }/\(∀ y,y∈items->EqAt A.in1 s y x (e y))/\R (.ok (.ret (.int j s.toks))) { s with toks:=s.toks + 1 }) :=
 .of_wp fun prog w A R s h=>by
  obtain⟨hp,g,d,tk,os⟩:=s;obtain⟨hl,he,h⟩:=h
  wp_walk using wpAny_loadPart' hl
  show wpAny _ _ (forIn [0:min items.size items.size] (none,()) _) _ _ _
  rw[Std.Legacy.Range.forIn_eq_forIn_range']
  simp only[Std.Legacy.Range.size,Nat.sub_zero,Nat.add_sub_cancel,Nat.div_one,Nat.min_self]
  refine wpAny_forIn_list _
   (fun rest b s'=>b.1=none/\s'=⟨hp,g,d,tk,os⟩/\∃ i,rest=List.range' i (items.size - i)/\i<=j)
   _ ?_ ?_ _ _ ⟨rfl,rfl,0,by simp,jg _⟩
  · rintro a rest b s' ⟨hb,rfl,i,hr,hi⟩
    have hlt:i < items.size:=by omega
    obtain⟨rfl,hrest⟩:a=i/\rest=List.range' (i + 1) (items.size - (i + 1)):=by
     have e:items.size - i=(items.size - (i + 1)) + 1:=by omega
     rw[e,List.range'_succ]at hr
     injection hr with h1 h2
     exact⟨h1,h2⟩
    rw[jt hlt]
    refine wpAny_bind (he _ (Array.getElem_mem hlt) prog w _ _ ?_)
    by_cases hij:a=j
    · subst hij
      rw[hit]
      wp_walk
      exact⟨_,rfl,h⟩
    · rw[hno a hlt (by omega)]
      wp_walk
      exact⟨rfl,rfl,a + 1,hrest,by omega⟩
  · rintro⟨b1,b2⟩ s' ⟨hb,rfl,i,hr,hi⟩
    have e:items.size - i=(items.size - (i + 1)) + 1:=by omega
    rw[e,List.range'_succ]at hr
    cases hr
end PySem.SeqAt
namespace L2
open PySem PySem.Spec PyProof.Rows
section
variable {X:Cx}
theorem y2n(K:PySem.W.Frag)(hK:X.K=K):MtR X "tuple.index" (fun v vs H Q=>∃ (p:Addr) (xs:List V) (y:V) (j:Nat) (hj:j < xs.length),v = .ref p/\vs=[y]/\SqT K H p xs/\z5k y=true/\xs.all z5k=true/\eqV xs[j] y=true/\(∀ m (hm:m < xs.length),m < j->eqV xs[m] y=false)/\Q (.int j) H):=by
 subst hK
 intro pins s σ H v vs u us Q I rx rs h
 obtain⟨p,xs,y,j,hj,rfl,rfl,hH,fy,fx,hit,hno,q⟩:=h
 cases rx
 obtain⟨u,rfl,ru⟩:=z3H rs
 obtain⟨its,r,pl,z⟩:=I.tuple hH
 have hl:=r.length
 have same:∀ m (hm:m < xs.length),∃ hm':m < its.length,eqU y its[m]=eqV xs[m] y:=fun m hm=>by
  obtain⟨w,hw,rw'⟩:=r.get (jD hm)
  obtain⟨hm',e'⟩:=jH.mp hw
  refine⟨hm',?_⟩
  rw[e']
  exact y2R rw' (List.all_eq_true.mp fx _ (kD hm))
 have ty:=pl.typeIs
 obtain⟨⟨cls,dd,dat,sl⟩,e,hc,n,hd⟩:=pl
 cases hc
 cases hd
 refine call_meets (Q:=EP X pins σ Q) PySem.F.slot_tuple_index ty PySem.F.entry_tuple_index (PySem.F.args_tuple_index_2 _ _)
  (SeqAt.tuple_indexAt p its.toArray n dd sl u (eqU y) j (by rw[jI];omega) ?_ ?_) ⟨e,fun w hw=>z2S ru fy r fx w (by simpa using hw),⟨.int _,H,I.tok _,⟨_,rfl⟩,q⟩⟩
 · obtain⟨hm',e'⟩:=same j hj
   simpa [e'] using hit
 · intro m hm hmj
   have hm2:m < xs.length:=by rw[jI]at hm;omega
   obtain⟨hm',e'⟩:=same m hm2
   simpa [e'] using hno m hm2 hmj
theorem z5V{K:PySem.W.Frag}{a:Addr}{ns:List Str}{ix:List Nat}{tt:TT}{te:TE}{σ:St}{H:Hp}{Q:VK}(p:Str->Bool)(hS:SqT K H a (ns.map V.str))(hz:ns.length<=sizeLine)
 (test:∀ (n:Str) (H':Hp) (R:Bool->Hp->Prop),Same H H'->R (p n) H'->tt (some (.str n) :: cap ix σ) H' R)
 (step:∀ (n:Str) (H':Hp) (R:VK),R (.str n) H'->te (some (.str n) :: cap ix σ) H' R)
 (fin:∀ q H',H q=none->Same H H'->H' q=some (.lst ((ns.filter p).map V.str))->Q (.ref q) H'):z3h ix tt te σ Q (Itt K a) H:=by
 intro Da hD
 refine⟨fun i m H'=>m=ns.length - i/\i<=ns.length/\Same H H'/\H' Da=some (.lst (((ns.take i).filter p).map V.str)),⟨ns.length,by simp,jg _,z0e hD _,z0a⟩,?_⟩
 rintro i m H' ⟨rfl,hi,sm,eD⟩
 by_cases hlt:i < ns.length
 · refine .inr ⟨⟨ns.map V.str,.str ns[i],sm.tupq hS,by rw[jF,jD hlt];rfl⟩,fun x H'' hy=>?_⟩
   obtain⟨e,y⟩:=hy
   subst e
   have hx:=y _ (sm.tupq hS)
   rw[jF,jD hlt]at hx
   obtain rfl:x = .str ns[i]:=(Option.some.inj hx).symm
   have tk:ns.take (i + 1)=ns.take i ++ [ns[i]]:=jw hlt
   refine test ns[i] _ _ sm ?_
   cases hp:p ns[i] with
   | true =>
    dsimp only
    rw[if_pos rfl]
    refine step ns[i] _ _ ⟨_,eD,?_,ns.length - (i + 1),by omega,rfl,hlt,z0o hD sm,?_⟩
    · rw[jA]
      have:=kE p (ns.take i)
      rw[jS]at this
      omega
    · rw[z0a,tk,kL,jT]
      simp[hp]
   | false =>
    dsimp only
    rw[if_neg jR]
    refine⟨ns.length - (i + 1),by omega,rfl,hlt,sm,?_⟩
    rw[eD,tk,kL,jT]
    simp[hp]
 · have e:i=ns.length:=by omega
   subst e
   rw[jy]at eD
   exact .inl ⟨⟨_,sm.tupq hS,by rw[jA];exact jE _⟩,fin Da H' hD sm eD⟩
def TupZ(H:Hp)(p:Addr)(xs:List V):Prop:=∃ o,H p=some (.frz o (.tup xs))/\o.dict=none
theorem TupZ.sq{K:PySem.W.Frag}{H:Hp}{p:Addr}{xs:List V}(h:TupZ H p xs):SqT K H p xs:=by obtain⟨o,h,_⟩:=h;exact .inl (.inr ⟨o,h⟩)
theorem TupZ.same{H H':Hp}{p:Addr}{xs:List V}(h:TupZ H p xs)(s:Same H H'):TupZ H' p xs:=by obtain⟨o,h,d⟩:=h;exact⟨o,s _ _ h,d⟩
theorem z1l(K:PySem.W.Frag)(hK:X.K=K):CallR X (.type "tuple") (fun xs H Q=>∃ p ys,xs=[.ref p]/\SqL K H p ys/\∀ l o,H l=none->o.dict=none->Q (.ref l) (upd H l (.frz o (.tup ys)))):=by
 subst hK
 intro pins s σ H xs us Q I r h
 obtain⟨p,ys,rfl,hq,q⟩:=h
 obtain⟨u,rfl,rx⟩:=z3H r
 cases rx
 obtain⟨its,r',pl,hz⟩:=I.list hq
 have hlen:=r'.length
 refine call_tuple_list pl.isList (fun h' kp=>?_) (by simp only[jI] <;> omega)
 have I1:Inv X pins σ H { s with heap:=h' }:=I.kept (t':=s.toks) kp
 have I2:Inv X pins σ (upd H h'.objs.size (.frz { cls := .type "tuple",data := .seq its.toArray } (.tup ys))) { s with heap:=h'.push { cls := .type "tuple",data := .seq its.toArray } } :=
  I1.laid (t':=s.toks) (fun b o e=>jB _ e) (jE _) (show ObjOk X.prog X.w _ _ _ (.frz _ (.tup ys)) from ⟨jO _ rfl,hz,its,r',IsTup.new _ _⟩)
 exact⟨.ref h'.objs.size,_,I2,rfl,q _ _ (I1.hok.fresh (jE _)) rfl⟩
def x0b(r:V->List V->Hp->VK->Prop)(to:TE)(t:TA):TE:=fun σ H Q=>to σ H fun x H1=>∃ p xs,x = .ref p/\TupZ H1 p xs/\t σ H1 fun xs H2=>r x xs H2 Q
variable {o e:Expr}{es:List Expr}{to:TE}{t:TA}{name:Str}{apos cpos:Pos}{id:String}{r:V->List V->Hp->VK->Prop}
theorem y7S(slot:Slot "tuple" name id)(hty:typeOf (.builtin id)=pure (.type "method_descriptor"))(hm:MtR X id r)(ho:PE X o to)(ha:PA X (e :: es) t)
 (hbase:attributeBase o name X.env (eval o X.env)=eval o X.env:=by rfl)
 (hfew:((backTo cpos (starEach (e :: es) X.env)).all (fun x => !x.1) && (backToKw cpos (keywordEach [] X.env)).all (fun x=>x.1.isSome)
  && decide ((e :: es).length + ([]:List Keyword).length + (if ([]:List Keyword).isEmpty then 0 else 1) < 30))=true:=by rfl)
 (hline:(apos.endLine == cpos.line)=true:=by rfl) (hs:starEach (e :: es) X.env=(false,eval e X.env) :: starEach es X.env:=by rfl) (hplain:(backTo cpos (starEach es X.env)).any (·.1)=false:=by rfl) :
 PE X (.Call (.Attribute o name apos) (e :: es) [] cpos) (x0b r to t):=by
 intro pins s σ H Q I h
 refine wpAny_Call_method_late hbase hfew hline rfl (thn (ho pins s σ H _ I h) fun v s1 ⟨x,H1,I1,r1,p,xs,ex,tz,q1⟩=>?_)
 subst ex
 have r1':=r1
 cases r1'
 obtain⟨_,_,pl,_⟩:=I1.tuple (X:=X) tz.sq
 have h2:∃ ob,s1.heap.get? p=some ob/\ob.dict=none:=by
  obtain⟨ob,e1,e2⟩:=tz
  exact⟨ob,(I1.hok p _ e1).1,e2⟩
 refine⟨"tuple",id,PySem.F.plainAttrs_tuple,slot,hty,pl.typeIs,fun a e=>(by cases e;exact h2),?_⟩
 have hA:=ha cpos pins s1 σ H1 _ I1 q1
 rw[hs]at hA ⊢
 refine Calls.callWith_builtin (by show (false || (backTo cpos (starEach es X.env)).any (·.1))=false;rw[hplain] <;> rfl) (Calls.evalArgs_plain ?_)
 exact thn hA fun us s2 ⟨vs,H2,I2,r2,q2⟩=>hm pins s2 σ H2 _ vs _ us Q I2 r1 r2 q2
def y7J(K:PySem.W.Frag):R2:=fun x y H Q=>∃ a b xs ys,x = .ref a/\y = .ref b/\SqT K H a xs/\SqT K H b ys/\xs.length + ys.length<=sizeLine /\
 (xs=[]->Q (.ref b) H)/\(xs≠[]->ys=[]->Q (.ref a) H)/\(ys≠[]->∀ p,H p=none->Q (.ref p) (upd H p (.tup (xs ++ ys))))
theorem z8A(K:PySem.W.Frag)(hK:X.K=K):OpR X (binaryOp .Add) (y7J K):=by
 subst hK
 intro pins s σ H x y v u Q I rx ry h
 obtain⟨a,b,xs,ys,rfl,rfl,ha,hb,hz,q0,q1,q2⟩:=h
 by_cases hx:xs=[]
 · cases rx
   cases ry
   obtain⟨its,r1,p1,_⟩:=I.tuple ha
   obtain⟨its2,r2,p2,_⟩:=I.tuple hb
   have e:=r1.nil_iff.mpr hx
   obtain⟨⟨cls,dd,data,sl⟩,ho,hc,n,hd⟩:=id p1
   obtain⟨⟨cls2,dd2,data2,sl2⟩,ho2,hc2,n2,hd2⟩:=id p2
   simp only at hc hd hc2 hd2
   subst hc hd hc2 hd2
   exact concat_meets ⟨_,ho,rfl⟩ ⟨_,ho2,rfl⟩ noFill_tuple_add seq_tuple_add PySem.F.slot_tuple_add PySem.F.entry_tuple_add (PySem.F.args_tuple_add_2 _ _)
    (tuple_addW0 a b its.toArray its2.toArray n n2 dd dd2 sl sl2 (by simp[e])) ⟨ho,ho2,⟨.ref b,H,I,rfl,q0 hx⟩⟩
 · exact y2h pins s σ H _ _ v u Q I rx ry ⟨a,b,xs,ys,rfl,rfl,ha,hb,hx,hz,q1 hx,q2⟩
end
section
variable {X:Cx}
def y9o:R2:=fun x y H Q=>∃ a b xs ys,x = .ref a/\y = .ref b/\TupZ H a xs/\TupZ H b ys/\xs.length + ys.length<=sizeLine/\∀ p H',Same H H'->TupZ H' p (xs ++ ys)->Q (.ref p) H'
theorem z8z:OpR X (binaryOp .Add) y9o:=by
 intro pins s σ H x y v u Q I rx ry h
 obtain⟨a,b,xs,ys,rfl,rfl,ha,hb,hz,q⟩:=h
 cases rx
 cases ry
 obtain⟨its,r1,p1,_⟩:=I.tuple (ha.sq (K:=X.K))
 obtain⟨its2,r2,p2,_⟩:=I.tuple (hb.sq (K:=X.K))
 by_cases hx:xs=[]
 · have e:=r1.nil_iff.mpr hx
   obtain⟨⟨cls,dd,data,sl⟩,ho,hc,n,hd⟩:=id p1
   obtain⟨⟨cls2,dd2,data2,sl2⟩,ho2,hc2,n2,hd2⟩:=id p2
   simp only at hc hd hc2 hd2
   subst hc hd hc2 hd2
   exact concat_meets ⟨_,ho,rfl⟩ ⟨_,ho2,rfl⟩ noFill_tuple_add seq_tuple_add PySem.F.slot_tuple_add PySem.F.entry_tuple_add (PySem.F.args_tuple_add_2 _ _)
    (tuple_addW0 a b its.toArray its2.toArray n n2 dd dd2 sl sl2 (by simp[e])) ⟨ho,ho2,⟨.ref b,H,I,rfl,q b H (Same.refl _) (by rw[hx];exact hb)⟩⟩
 · refine HT.cat_tup p1 p2 (fun z=>hx (r1.nil_iff.mp z)) (fun z=>⟨.ref a,H,I,rfl,q a H (Same.refl _) (by rw[r2.nil_iff.mp z,k7];exact ha)⟩) (fun z=>?_) (by rw[<- r1.length,<- r2.length];exact hz)
   have fr:=I.hok.fresh (jE s.heap.objs.size)
   refine⟨.ref s.heap.objs.size,_,I.laid (t':=s.toks) (o := .frz { cls := .type "tuple",data := .seq (its ++ its2).toArray } (.tup (xs ++ ys))) (fun b ob q=>jB _ q) (jE _) ?_,rfl,q _ _ (z0e fr _) ⟨_,z0a,rfl⟩⟩
   exact⟨jO _ rfl,by rw[jG];exact hz,_,r1.append r2,IsTup.new _ _⟩
def x0h(K:PySem.W.Frag)(tl:TE):TI:=fun σ H R=>tl σ H fun x H1=>∃ a,x = .ref a/\(((∃ xs,SqL K H1 a xs)/\R (Itl K a) H1)\/((∃ xs,SqT K H1 a xs)/\R (Itt K a) H1))
theorem y7P{tg l:Expr}{tl:TE}(hl:PE X l tl):PI X tg l (x0h X.K tl):=by
 intro pins s σ H R I h
 refine thn (hl pins s σ H _ I h) fun v s1 ⟨x,H1,I1,r1,q1⟩=>?_
 obtain⟨a,e,q⟩:=q1
 subst e
 cases r1
 rcases q with ⟨⟨xs,hq⟩,q⟩ | ⟨⟨xs,hq⟩,q⟩
 · obtain⟨its,rv,p,hz⟩:=I1.list hq
   refine wpAny_pyIter_list p.isList ?_
   refine⟨s1.heap.objs.size,[s1.heap.objs.size],_,_,H1,rfl,I1.kept (t':=s1.toks) fun b o e=>jB _ e,z7a a _,⟨_,jO _ rfl,rfl,rfl⟩,fun b hb=>?_,q⟩
   have e:b=s1.heap.objs.size:=by simpa using hb
   subst e
   exact I1.fpOk (jE _) (I1.hok.fresh (jE _))
 · obtain⟨its,rv,p,hz⟩:=I1.tuple hq
   refine wpAny_pyIter_tuple (show s1.heap.IsTuple a its.toArray from p) ?_
   refine⟨s1.heap.objs.size,[s1.heap.objs.size],_,_,H1,rfl,I1.kept (t':=s1.toks) fun b o e=>jB _ e,z5z a _,⟨_,jO _ rfl,rfl,rfl⟩,fun b hb=>?_,q⟩
   have e:b=s1.heap.objs.size:=by simpa using hb
   subst e
   exact I1.fpOk (jE _) (I1.hok.fresh (jE _))
end
end L2
namespace PySem
open MeetsSeq MeetsSeq2 MeetsSeq3 SeqRoads2
end PySem
namespace L2
open PySem PySem.Spec PyProof.Rows
section
variable {X:Cx}
end
theorem y3U{X:Cx}{i:Nat}{x:Str}{es:List Expr}{t:TA}{b:Expr}{tb:TE}{r:R2}{p p2 pos pos':Pos}(hN:X.N.Nodup)(hi:X.N[i]? = some x)(hx:X.env.scope.names.lookup x=some .local)(hr:IxR X r)(ha:PA X es t)(hb:PE X b tb)(hs:y3n b) :
 PS X (.Assign [.Name x pos'] (.Subscript (.List es p) b p2) pos) (y1m (tOp r (y5L t) tb) (z0Y i)) :=
 z0l hN hi (.inl hx) (z0q hr (z3t ha) hb hs) (hs:=rfl) (hf := .inr hx)
end L2
namespace PySem
open MeetsSeq MeetsSeq2 MeetsSeq3 SeqRoads2
end PySem
namespace L2
open PySem PySem.Spec PyProof.Rows
section
variable {X:Cx}
end
section
variable {X:Cx}
theorem y5V:SlR X (fun x lo hi H Q=>∃ z,x = .str z/\z.length<=sizeLine/\Q (.str (Txt.slice z lo hi)) H):=by
 intro pins s σ H x v vl vu lo hi sl Q I rx hs pl pu h
 obtain⟨z,rfl,hz,q⟩:=h
 obtain⟨t,rfl⟩:=rx
 obtain⟨l,rfl,el⟩:∃ l:Option (Int×Tok),vl=partValue l/\l.map (·.1)=lo:=by
  cases pl
  · exact⟨none,rfl,rfl⟩
  · exact⟨some (_,_),rfl,rfl⟩
 obtain⟨u,rfl,eu⟩:∃ u:Option (Int×Tok),vu=partValue u/\u.map (·.1)=hi:=by
  cases pu
  · exact⟨none,rfl,rfl⟩
  · exact⟨some (_,_),rfl,rfl⟩
 refine⟨"str",_,F.slot_str_getitem.lookup,typeIs_str s z t,wpAny_getItem_str_slice (l:=l) (u:=u) (st:=none) hs rfl ?_⟩
 subst el eu
 exact post_val_or_str ⟨jY (Txt.slice_le z _ _) hz,fun t' k=>⟨.str _,H,I.tok k,⟨_,rfl⟩,q⟩⟩
end
section
variable {X:Cx}{pins:List (Addr×Obj)}{σ:St}{H:Hp}{s:Shared}{a:Addr}{kvs:List (Key×V)}
variable {o e f i:Expr}{td ty tx:TE}{pos apos cpos:Pos}
end
section
variable {X:Cx}
inductive PJ (X:Cx):List Expr->List TE->Prop
 | nil:PJ X [] []
 | cons {e:Expr}{es:List Expr}{t:TE}{ts:List TE} (h:PE X e t) (r:PJ X es ts):PJ X (e :: es) (t :: ts)
end
end L2
namespace L2
open PySem PySem.W PySem.Spec PyProof.Rows
theorem y3O:typeLookup (.type "list_reverseiterator") "__len__" = pure none:=by rw[typeLookup_type,builtinLookup_eq_fast];kernel_rfl
theorem y3P:typeLookup (.type "list_reverseiterator") "__length_hint__" = pure (some (.builtin "list_reverseiterator.__length_hint__")):=by rw[typeLookup_type,builtinLookup_eq_fast];kernel_rfl
structure RvSrc (prog:Program) (w:World) (T:String) (I d:Addr) (n:Nat) (P:Nat->Value->Prop) (St:Nat->Heap->Prop):Prop where
 walk:∀ A:Around,A.handled=none->Walks prog w A I [I,d] [I] n P St
 type:∀ (s:Shared),St 0 s.heap->s.TypeIs (.ref I) T
 there:∀ h:Heap,St 0 h->I < h.objs.size/\d < h.objs.size
 notList:(Value.type T == Value.type "list")=false
 notTuple:(Value.type T == Value.type "tuple")=false
 hint:∀ (A:Around) (E:Value->Shared->Prop) (s:Shared) (Q:Bool->Shared->Prop),A.handled=none->St 0 s.heap->(∀ b tk,Q b { s with toks:=tk })->wpAny (model prog w) A (Builtin.List.listLengthHint (.ref I)) Q E s
section
variable {prog:Program}{w:World}{A:Around}{E:Value->Shared->Prop}{s:Shared}{T:String}{I d:Addr}{n:Nat}{P:Nat->Value->Prop}{St:Nat->Heap->Prop}
theorem y1H{R:Result->Shared->Prop}(K:RvSrc prog w T I d n P St)(hh:A.handled=none)(hst:St 0 s.heap)(S:Addr)(hSI:S≠I)(hSd:S≠d)(res:Value)(c₀:Nat)(hS:s.heap.get? S=some { cls := .type "list",data := .seq #[] c₀ })(hn:n<=sizeLine)
 (hR:∀ h' tk acc' c',(∀ b o,b≠S->b≠I->s.heap.get? b=some o->h'.get? b=some o)->h'.get? S=some { cls := .type "list",dict:=none,data := .seq acc' c',slots:=#[] }->ItemsOf P acc' n->R (.ok (.ret res)) { s with heap:=h',toks:=tk }) :
 wpAny (model prog w) A.in1 (Builtin.List.listExtendWith (.ref S) (.ref I) res)
  (fun fin s'=>match fin with | .done f=>R (.ok f) s' | .again c'=>c'.quiet=true/\codeAny (model prog w) A c' R s') (fun e s'=>R (.error e) s') s:=by
 have W:=K.walk A.in1 hh
 have hSf:S∉[I,d]:=by simp only[jQ,kj,or_false,not_or];exact⟨hSI,hSd⟩
 have key:∀ (h:Heap) (c₁ tk:Nat),St 0 h->(∀ b o,b≠S->s.heap.get? b=some o->h.get? b=some o) ->
  h.get? S=some { cls := .type "list",data := .seq #[] c₁ }->codeAny (model prog w) A (.builtin "list.extend.loop" ⟨[.ref S,.ref I,res],[]⟩) R { s with heap:=h,toks:=tk }:=by
  intro h c₁ tk hst hk hS₁
  refine codeAny_extend_loopS W.toS hn S hSf res n 0 _ #[] c₁ rfl (jg _) hst hS₁ (ItemsOf.nil _) fun s' acc' c' hm hS' hacc=>?_
  rw[Moved.eq_with hm]
  refine hR s'.heap s'.toks acc' c' (fun b o hb hbI e=>hm.heap b o (fun hmem=>?_) (hk b o hb e)) hS' hacc
  rcases jQ.mp hmem with e' | hmem
  · exact hb e'
  · exact hbI (jM.mp hmem)
 unfold Builtin.List.listExtendWith
 refine wpAny_bind (wpAny_typeOf (T:=T) (K.type s hst) ?_)
 have h1:Builtin.List.listSameRef (.ref S) (.ref I)=false:=by simp[Builtin.List.listSameRef,hSI]
 simp only[h1,K.notList,K.notTuple,Bool.or_false,kT,if_false]
 refine wpAny_bind (W.self 0 _ _ _ hst ?_)
 refine wpAny_bind (wpAny_holding (K.hint _ _ _ _ hh hst fun b tk=>?_))
 refine wpAny_ite_split (fun _=>?_) (fun _=>wpAny_pure ⟨plainId_quiet PySem.F.plain_extend_loop _,key _ c₀ _ hst (fun b o _ e=>e) hS⟩)
 refine wpAny_bind (wpAny_rule ?_)
 refine wpAny_bind ?_
 show wpAny _ _ (updateSeq S (·.push .none) >>= fun _=>updateSeq S (·.pop)) _ _ _
 refine wpAny_bind (wpAny_updateSeq hS rfl ?_)
 have hS₂:=jm (Obj.mapSeq (·.push Value.none)) hS rfl
 refine wpAny_updateSeq (hz:=by seq_fits) hS₂ rfl ?_
 have hS₃:=jm (Obj.mapSeq (·.pop)) hS₂ rfl
 refine wpAny_pure ⟨plainId_quiet PySem.F.plain_extend_loop _,key _ _ _ ?_ (fun b o hb e=>?_) hS₃⟩
 · refine W.frame 0 _ _ hst fun b hb o e=>?_
   have hbS:b≠S:=fun h=>hSf (h ▸ hb)
   exact (jZ _ _ (Ne.symm hbS)).trans ((jZ _ _ (Ne.symm hbS)).trans e)
 · exact (jZ _ _ (Ne.symm hb)).trans ((jZ _ _ (Ne.symm hb)).trans e)
theorem y6c{R:Result->Shared->Prop}(K:RvSrc prog w T I d n P St)(hh:A.handled=none)(hst:St 0 s.heap)(S:Addr)(hSI:S≠I)(hSd:S≠d)(hS:s.heap.get? S=some { cls := .type "list",data := .seq #[] })(hn:n<=sizeLine)
 (hR:∀ h' tk acc' c',(∀ b o,b≠S->b≠I->s.heap.get? b=some o->h'.get? b=some o)->h'.get? S=some { cls := .type "list",dict:=none,data := .seq acc' c',slots:=#[] }->ItemsOf P acc' n->R (.ok (.ret .none)) { s with heap:=h',toks:=tk }) :
 wpAny (model prog w) A.in1 (Builtin.«list.__init__» ⟨[.ref S,.ref I],[]⟩)
  (fun fin s'=>match fin with | .done f=>R (.ok f) s' | .again c'=>c'.quiet=true/\codeAny (model prog w) A c' R s') (fun e s'=>R (.error e) s') s:=by
 show wpAny _ _ (do let old <- Builtin.List.listItems (.ref S);Builtin.List.listUpdate (.ref S) (fun _=>#[]);letGo old.toList.reverse;Builtin.List.listExtendWith (.ref S) (.ref I) .none) _ _ s
 refine wpAny_bind ?_
 unfold Builtin.List.listItems
 refine wpAny_bind (wpAny_seqItems hS rfl (wpAny_pure ?_))
 show wpAny _ _ (updateSeq S (fun _=>#[]) >>= fun _=>letGo (#[]:Array Value).toList.reverse >>= fun _=>Builtin.List.listExtendWith (.ref S) (.ref I) .none) _ _ s
 refine wpAny_bind (wpAny_updateSeq hS rfl ?_)
 have hS₂:=jm (Obj.mapSeq (fun _=>(#[]:Array Value))) hS rfl
 have oth:∀ b o,b≠S->s.heap.get? b=some o->(s.heap.update S (Obj.mapSeq (fun _=>(#[]:Array Value)))).get? b=some o :=
  fun b o hb e=>(jZ _ _ (Ne.symm hb)).trans e
 refine wpAny_bind (wpAny_letGo ?_)
 refine y1H K hh ((K.walk A hh).frame 0 _ _ hst fun b hb o e=>oth b o (fun z=>?_) e) S hSI hSd .none _ hS₂ hn (fun h' tk acc' c' hk hS' hacc=>?_)
 · subst z
   rcases jQ.mp hb with z | z
   · exact hSI z
   · exact hSd (jM.mp z)
 · exact hR h' tk acc' c' (fun b o hb hbI e=>hk b o hb hbI (oth b o hb e)) hS' hacc
theorem y6b{Q:Value->Shared->Prop}(K:RvSrc prog w T I d n P St)(hh:A.handled=none)(hst:St 0 s.heap)(hn:n<=sizeLine)
 (hQ:∀ h' tk acc' c',(∀ b o,b≠I->s.heap.get? b=some o->h'.get? b=some o)->h'.get? s.heap.objs.size=some { cls := .type "list",dict:=none,data := .seq acc' c',slots:=#[] }->ItemsOf P acc' n->Q (.ref s.heap.objs.size) { s with heap:=h',toks:=tk }) :
 wpAny (model prog w) A (call (.type "list") [.ref I]) Q E s:=by
 refine callType_codes (Q₁:=fun obj s₁=>obj = .ref s.heap.objs.size/\s₁={ s with heap:=s.heap.push { cls := .type "list",data := .seq #[] } }) PySem.F.called_list (PySem.F.typeCall_list_1 _) PySem.F.entry_list_init
  (code_list_new _ ⟨rfl,rfl⟩) fun obj s₁ h₁=>?_
 obtain⟨rfl,rfl⟩:=h₁
 have hS:(s.heap.push { cls := .type "list",data := .seq #[] }).get? s.heap.objs.size=some { cls := .type "list",data := .seq #[] }:=jO _ rfl
 have hlt:=K.there _ hst
 refine⟨⟨_,hS,rfl⟩,PySem.F.args_list_init_2 _ _,y6c (A:=A.in1) K hh ((K.walk A hh).frame 0 _ _ hst fun b _ o e=>jB _ e) _ (kB hlt.1) (kB hlt.2) hS hn (fun h' tk acc' c' hk hS' hacc=>?_)⟩
 exact⟨rfl,hQ h' tk acc' c' (fun b o hI e=>hk b o (jU (jJ e)) hI (jB _ e)) hS' hacc⟩
theorem y6d{r:Addr}{Q:Bool->Shared->Prop}(hT:s.TypeIs (.ref r) "list_reverseiterator")(h:Q false s):wpAny (model prog w) A (Builtin.List.listLengthHint (.ref r)) Q E s:=by
 unfold Builtin.List.listLengthHint
 refine wpAny_bind (wpAny_specialOf hT y3O ?_)
 show wpAny _ A (specialOf (Value.ref r) (Str.ofString "__length_hint__") >>= _) _ _ _
 refine wpAny_bind (wpAny_specialOf hT y3P ?_)
 generalize hid:("list_reverseiterator.__length_hint__" : String)=id0
 wp_delta
 rw[show splitId id0=some ("list_reverseiterator", "__length_hint__") from by subst hid;decide +kernel]
 subst hid
 refine wpAny_bind (wpAny_isInstance (b:=true) hT (by rw[isSubtype_type];kernel_rfl) ?_)
 exact wpAny_pure h
theorem y7F(I l:Addr)(hne:l≠I)(items:Array Value):RvSrc prog w "list_reverseiterator" I l items.size (fun i v=>items[items.size - 1 - i]? = some v) (fun i h=>i<=items.size/\h.IsRevIter I l ((items.size:Int) - 1 - (i:Int))/\h.IsList l items) where
 walk:=fun A hh=>Walks.listRev hh I l hne items
 type:=fun s x=>x.2.1.typeIs
 there:=fun h x=>by
  obtain⟨_,⟨o,ho,_⟩,⟨o2,ho2,_⟩⟩:=x
  exact⟨jJ ho,jJ ho2⟩
 notList:=by decide
 notTuple:=by decide
 hint:=fun A E s Q _ x hq=>y6d x.2.1.typeIs (hq false s.toks)
end
section
variable {X:Cx}{e:Expr}{te:TE}{p p2 cp pos:Pos}
def z9n(K:PySem.W.Frag)(te:TE):TE:=fun σ H Q=>te σ H fun x H1=>∃ a xs,x = .ref a/\SqL K H1 a xs/\∀ l,H1 l=none->Q (.ref l) (upd H1 l (.lst xs.reverse))
theorem z9e:∀ {xs:List V}{us:List Value},Vals xs us->Vals xs.reverse us.reverse
 | _,_,.nil => .nil
 | _,_,.cons h t=>by
  rw[List.reverse_cons,List.reverse_cons]
  exact (z9e t).append (.cons h .nil)
theorem y2F{items acc:Array Value}(h:ItemsOf (fun i v=>items[items.size - 1 - i]? = some v) acc items.size):acc.toList=items.toList.reverse:=by
 refine List.ext_getElem? fun i=>?_
 by_cases hi:i < items.size
 · have hz:i < acc.size:=by rw[h.1];exact hi
   have h1:=h.2 i acc[i] (jt hz)
   rw[kN,jt hz,List.getElem?_reverse (by simpa using hi),kN,jX]
   exact h1.symm
 · rw[kO (by rw[jX,h.1];omega),kO (by simp;omega)]
theorem y0w(K:PySem.W.Frag)(hK:X.K=K)(hc:X.calm=true)(hg:Gl X "list")(hm:X.mg "list" = none)(hv:bootBuiltins "list" = some (.type "list"))(hg2:Gl X "reversed")(hm2:X.mg "reversed" = none)(hv2:bootBuiltins "reversed" = some (.type "reversed"))(ho:PE X e te)
 (he:starEach [e] X.env=[(false,eval e X.env)]:=by rfl):PE X (.Call (.Name "list" p) [.Call (.Name "reversed" p2) [e] [] cp] [] pos) (z9n K te):=by
 subst hK
 intro pins s σ H Q I h
 refine wpAny_Call_Name_kw (z3z I hg hm hv ?_ (by decide) (by decide))
 refine PyProof.Rows.callWith_type1 ?_ rfl rfl
 show wpAny _ _ (spliced [(false,eval (.Call (.Name "reversed" p2) [e] [] cp) X.env)]) _ _ s
 refine Calls.spliced_cons (wpAny_Call_Name_kw (z3z I hg2 hm2 hv2 ?_ (by decide) (by decide)))
 refine PyProof.Rows.callWith_type1 ?_ he rfl
 rw[he]
 show wpAny _ _ (spliced [(false,eval e X.env)]) _ _ s
 refine Calls.spliced_cons (thn (ho pins s σ H _ I h) fun v s1 ⟨x,H1,I1,r1,a,xs,ex,q1,k⟩=>?_)
 subst ex
 obtain rfl:v=Value.ref a:=r1
 refine Calls.spliced_nil ?_
 obtain⟨its,rv,pl,lz⟩:=I1.list q1
 have la:=pl.isList
 have hh:X.A.handled=none:=I1.ok.hd hc
 refine call_reversed_list la ?_
 refine Calls.spliced_nil ?_
 have ia:a≠s1.heap.objs.size:=by obtain⟨o,ho,_⟩:=la;exact jU (jJ ho)
 have vl:=rv.length
 refine y6b (s:={ s1 with heap:=s1.heap.push (revObj a ((its.toArray.size:Int) - 1)) }) (y7F s1.heap.objs.size a ia its.toArray) hh ⟨jg _,⟨_,jO _ rfl,rfl,by simp[revObj]⟩,la.at fun o e=>jB _ e⟩ (by rw[jI];omega) fun h' tk acc c k1 k2 k3=>?_
 have kp:∀ b o,s1.heap.get? b=some o->h'.get? b=some o:=fun b o e=>k1 b o (jU (jJ e)) (jB _ e)
 have up:s1.heap.objs.size<=(s1.heap.push (revObj a ((its.toArray.size:Int) - 1))).objs.size:=by simp[Heap.push]
 have fr:H1 (s1.heap.push (revObj a ((its.toArray.size:Int) - 1))).objs.size=none:=I1.hok.fresh up
 have ea:acc=its.reverse.toArray:=by
  have:=y2F k3
  rw[<- Array.toArray_toList (xs:=acc),this]
 refine⟨.ref _,upd H1 _ (.lst xs.reverse),I1.laid (t':=tk) kp up (show ObjOk X.prog X.w _ h' _ (.lst xs.reverse) from ⟨by rw[k6];exact lz,its.reverse,c,z9e rv,by rw[<- ea];exact k2⟩),rfl,k _ fr⟩
end
section
theorem y0G(t:SetTable)(es:Array (Int×Value))(h:Int)(x:Value):(layNew t es h x).2.1.led=t.led/\(t.plain=false->(layNew t es h x).2.1.plain=false):=by
 unfold layNew
 split
 · rename_i slot wd _
   show ((t.put slot).1.orStandIn _).led=t.led/\(t.plain=false->((t.put slot).1.orStandIn _).plain=false)
   unfold SetTable.orStandIn
   split
   · exact⟨rfl,fun z=>z⟩
   · exact⟨rfl,fun _=>rfl⟩
 · exact⟨rfl,fun _=>rfl⟩
theorem z7s(t:SetTable)(es:Array (Int×Value))(n:Nat):(relayAll t es n).2.1.led=t.led/\(t.plain=false->(relayAll t es n).2.1.plain=false):=by
 unfold relayAll
 split
 · rename_i t' order e
   have:t'.led=t.led/\t'.plain=t.plain:=by
    unfold SetTable.relaid SetTable.laid at e
    simp only[bind,Option.bind,pure]at e
    split at e
    · cases e
    · cases e;exact⟨rfl,rfl⟩
   dsimp only
   split
   · exact⟨this.1,fun z=>this.2.trans z⟩
   · exact⟨rfl,fun _=>rfl⟩
 · exact⟨rfl,fun _=>rfl⟩
end
section
variable {prog:Program}{w:World}{A:Around}{E:Value->Shared->Prop}{s:Shared}
def y7e(w:World)(k:Str)(e:Int×Value):Prop:=e.1=hashStr w k/\∃ tk,e.2 = .str k tk
def SetS(w:World)(byT:Bool)(h:Heap)(a:Addr)(ks:List Str):Prop:=∃ o es ep t,h.get? a=some o/\o.ExactSet/\o.data = .set es ep t/\Paired (y7e w) ks es.toList/\ks.Nodup/\es.size < scanBound/\t.fits es.size=true/\t.led = !byT/\(ks=[]\/t.plain=false)
theorem y6U{ks:List Str}{es:List (Int×Value)}(h:Paired (y7e w) ks es):ElemsOf (strKind prog w) es:=by
 intro e he
 induction h with
 | nil=>cases he
 | cons h1 _ ih =>
  rcases jQ.mp he with z | z
  · subst z
    obtain⟨e1,tk,e2⟩:=h1
    exact⟨⟨_,by rw[e2];exact strKind_is _ _ _ _,e1⟩,by rw[e2];rfl⟩
  · exact ih z
theorem y2S{ks:List Str}{es:List (Int×Value)}(h:Paired (y7e w) ks es)(x:Str):(es.findIdx? (fun e=>(strKind prog w).is x e.2)=none/\x∉ks)\/((∃ j,es.findIdx? (fun e=>(strKind prog w).is x e.2)=some j)/\x∈ks):=by
 induction h with
 | nil=>exact .inl ⟨rfl,fun z=>nomatch z⟩
 | cons h1 _ ih =>
  rename_i k e ks es _
  obtain⟨e1,tk,e2⟩:=h1
  by_cases z:x=k
  · subst z
    refine .inr ⟨⟨0,?_⟩,by simp⟩
    rw[List.findIdx?_cons,e2,strKind_is];rfl
  · have nz:(strKind prog w).is x e.2=false:=by
     cases hb:(strKind prog w).is x e.2 with
     | false=>rfl
     | true=>exact absurd ((strKind prog w).inj e.2 x k hb (by rw[e2];exact strKind_is _ _ _ _)) z
    rcases ih with ⟨a,b⟩ | ⟨⟨j,a⟩,b⟩
    · refine .inl ⟨?_,fun y=>?_⟩
      · rw[List.findIdx?_cons,nz,a];rfl
      · rcases jQ.mp y with y | y
        · exact z y
        · exact b y
    · refine .inr ⟨⟨j + 1,?_⟩,by simp[b]⟩
      rw[List.findIdx?_cons,nz,a];rfl
theorem prm{α β:Type}{F:α->β->Prop}{m m':List β}(h:m'.Perm m):∀ {l:List α},Paired F l m->∃ l',l'.Perm l/\Paired F l' m':=by
 induction h with
 | nil=>intro l t;exact⟨l,.refl _,t⟩
 | cons x _ ih =>
  intro l t
  cases t with
  | cons g t =>
   obtain⟨l',h1,h2⟩:=ih t
   exact⟨_ :: l',h1.cons _,.cons g h2⟩
 | swap x y _ =>
  intro l t
  cases t with
  | cons g t =>
   cases t with
   | cons g2 t=>exact⟨_,.swap _ _ _,.cons g2 (.cons g t)⟩
 | trans _ _ ih1 ih2 =>
  intro l t
  obtain⟨l1,h1,t1⟩:=ih2 t
  obtain⟨l2,h2,t2⟩:=ih1 t1
  exact⟨l2,h2.trans h1,t2⟩
theorem prs{α β:Type}{F:α->β->Prop}{x:α}{y:β}(h:F x y):∀ {l:List α}{m:List β},Paired F l m->Paired F (l ++ [x]) (m ++ [y])
 | _,_,.nil => .cons h .nil
 | _,_,.cons g t => .cons g (prs h t)
theorem y5b{h:Heap}{a:Addr}{o:Obj}{es:Array (Int×Value)}{ep:Nat}{t:SetTable}(ho:h.get? a=some o)(hd:o.data = .set es ep t)(es':Array (Int×Value))(t':SetTable) :
 (h.update a (Obj.putSet es' t')).get? a=some { o with data := .set es' (ep + 1) t' }:=by
 have:=jm (Obj.putSet es' t') ho (by rw[putSet_of es' t' hd];rfl)
 rwa [putSet_of es' t' hd]at this
theorem y1n{g:Bool->Sem Unit}(hg:∀ (b:Bool) (s₁:Shared) (Q':Unit->Shared->Prop),Q' () s₁->wpAny (model prog w) A (g b) Q' E s₁){byT:Bool}{a:Addr}{o:Obj}{es:Array (Int×Value)}{ep:Nat}{t:SetTable}(ho:s.heap.get? a=some o)(hex:o.ExactSet)(hd:o.data = .set es ep t)
 {es1:Array (Int×Value)}{t2:SetTable}{ks1:List Str} (pr1:Paired (y7e w) ks1 es1.toList) (nd1:ks1.Nodup) (b1:es1.size < scanBound) (f2:t2.fits es1.size=true) (led2:t2.led = !byT) (pl2:t2.plain=false) {wasDummy:Bool}{R:Option Bool->Shared->Prop}
 (h:∀ h' ks',Heap.SameBut a s.heap h'->SetS w byT h' a ks'->ks'.Perm ks1->R (some true) { s with heap:=h' }) :
 wpAny (model prog w) A (do
  storeSet a es1 t2
  if (!wasDummy && t2.tooFull)=true then do
      g (relayAll t2 es1 (SetTable.grown es1.size)).2.2
      storeSet a (relayAll t2 es1 (SetTable.grown es1.size)).1 (relayAll t2 es1 (SetTable.grown es1.size)).2.1
      pure (some true)
   else pure (some true)) R E s:=by
 refine wpAny_bind (wpAny_storeSet_of ho hd ?_ (fits_of_scanBound b1))
 have ho1:=y5b ho hd es1 t2
 have sb1:=Heap.SameBut.update s.heap a (Obj.putSet es1 t2)
 split
 · have hp:=relayAll_perm t2 es1 (SetTable.grown es1.size)
   have hfr:=relayAll_fits t2 es1 (SetTable.grown es1.size)
   have hlr:=z7s t2 es1 (SetTable.grown es1.size)
   generalize relayAll t2 es1 (SetTable.grown es1.size)=Rl at hp hfr hlr ⊢
   obtain⟨es2,t3,gave2⟩:=Rl
   dsimp only at hp hfr hlr ⊢
   obtain⟨ks2,kp,pr2⟩:=prm hp pr1
   have b2:es2.size < scanBound:=by rw[<- jX,hp.length_eq,jX];exact b1
   refine wpAny_bind (hg _ _ _ ?_)
   refine wpAny_bind (wpAny_storeSet_of ho1 rfl ?_ (fits_of_scanBound b2))
   exact wpAny_pure (h _ ks2 (sb1.trans (Heap.SameBut.update _ a _)) ⟨_,es2,_,t3,y5b ho1 rfl es2 t3,hex,rfl,pr2,kp.nodup_iff.mpr nd1,b2,hfr,hlr.1.trans led2,.inr (hlr.2 pl2)⟩ kp)
 · exact wpAny_pure (h _ ks1 sb1 ⟨_,es1,_,t2,ho1,hex,rfl,pr1,nd1,b1,f2,led2,.inr pl2⟩ (.refl _))
theorem y7z{byT:Bool}{a:Addr}{ks:List Str}{x:Str}{tk:Tok}{Q:Bool->Shared->Prop}(hS:SetS w byT s.heap a ks)(room:ks.length + 1 < scanBound)
 (h:∀ (h':Heap) (ks':List Str) (b:Bool),Heap.SameBut a s.heap h'->SetS w byT h' a ks'->(∀ k,k∈ks'↔k∈ks\/k=x)->ks'.length<=ks.length + 1->Q b { s with heap:=h' }) :
 wpAny (model prog w) A (setAddHashed a (.str x tk) (hashStr w x)) Q E s:=by
 obtain⟨o,es,ep,t,ho,hex,hd,pr,nd,hb,hf,led,pl⟩:=hS
 have hel:ElemsOf (strKind prog w) es.toList:=y6U pr
 have hl:=pr.length
 have hl:es.size=ks.length:=by rw[<- jX];exact hl.symm
 unfold setAddHashed setAddHashedIn
 refine wpAny_holding (wpAny_bind (wpAny_setState_of ho hd hf ?_))
 dsimp only
 rw[byScan_of (knd:=strKind prog w) (x := .str x tk) rfl hb hel]
 simp only[↓reduceIte]
 unfold setAddByScan
 refine wpAny_bind ?_
 refine wpAny_bind (wpAny_rule ?_)
 refine wpAny_bind (wpAny_setScan_of (knd:=strKind prog w) (k:=x) (strKind_is _ _ _ _) ho hd hf hel ?_)
 rcases y2S (prog:=prog) pr x with ⟨e1,nin⟩ | ⟨⟨j,e1⟩,inn⟩
 · rw[e1]
   dsimp only
   have hperm:=layNew_perm t es (hashStr w x) (.str x tk)
   have hfits:=layNew_fits t es (hashStr w x) (.str x tk)
   have hled:=y0G t es (hashStr w x) (.str x tk)
   generalize hL:layNew t es (hashStr w x) (.str x tk)=L at hperm hfits hled
   have hL':layNew t es ((strKind prog w).hash x) (.str x tk)=L:=hL
   obtain⟨es1,t1,wasDummy,gave⟩:=L
   dsimp only at hperm hfits hled
   rw[Array.toList_push]at hperm
   obtain⟨ks1,kp,pr1⟩:=prm hperm (prs (show y7e w x (hashStr w x,.str x tk) from ⟨rfl,tk,rfl⟩) pr)
   have nd1:ks1.Nodup:=by
    rw[kp.nodup_iff,kY]
    refine⟨nd,by simp,fun a ha b hb e=>?_⟩
    have:b=x:=by simpa using hb
    exact nin (this ▸ e ▸ ha)
   have sz1:es1.size=es.size + 1:=by rw[<- jX,hperm.length_eq,jG,jX];rfl
   have mem1:∀ k,k∈ks1↔k∈ks\/k=x:=fun k=>by rw[kp.mem_iff,jL,jM]
   have len1:ks1.length<=ks.length + 1:=by rw[kp.length_eq,jG];exact jE _
   have b1:es1.size < scanBound:=by omega
   have fin:∀ h' ks',Heap.SameBut a s.heap h'->SetS w byT h' a ks'->ks'.Perm ks1->Q true { s with heap:=h' }:=fun h' ks' sb hS' kp'=>h h' ks' true sb hS' (fun k=>kp'.mem_iff.trans (mem1 k)) (by rw[kp'.length_eq];exact len1)
   have hgw:∀ (b:Bool) (s₁:Shared) (Q':Unit->Shared->Prop),Q' () s₁->wpAny (model prog w) A (match b with | true=>rule "set.scan.the-table-gave-way" | false=>pure ()) Q' E s₁:=fun b s₁ Q' hq=>by cases b <;> first | exact wpAny_pure hq | exact wpAny_rule hq
   refine wpAny_bind (hgw _ _ _ ?_)
   dsimp only
   split
   · refine wpAny_bind ?_
     rw[hashByValue_scannable 8 (x := .str x tk) rfl]
     refine wpAny_pure ?_
     refine y1n (byT:=byT) hgw ho hex hd pr1 nd1 b1 (t2:={ t1 with plain:=false }) ?_ ?_ rfl ?_
     · exact SetTable.fits_plain_off hfits
     · exact hled.1.trans led
     · intro h' ks' sb hS' kp'
       exact wpAny_pure (fin h' ks' sb hS' kp')
   · rename_i hp1
     refine wpAny_bind (wpAny_pure ?_)
     simp only[↓reduceIte]
     refine y1n (byT:=byT) hgw ho hex hd pr1 nd1 b1 hfits (hled.1.trans led) (by simpa using hp1) ?_
     intro h' ks' sb hS' kp'
     exact wpAny_pure (fin h' ks' sb hS' kp')
 · rw[e1]
   dsimp only
   refine wpAny_pure (wpAny_pure ?_)
   have e:s={ s with heap:=s.heap }:=by cases s;rfl
   have:=h s.heap ks false (Heap.SameBut.refl a s.heap) ⟨o,es,ep,t,ho,hex,hd,pr,nd,hb,hf,led,pl⟩ (fun k=>⟨.inl,fun z=>z.elim id fun z=>z ▸ inn⟩) (Nat.le_succ _)
   rw[e];exact this
theorem SetS.at{byT:Bool}{h h':Heap}{a:Addr}{ks:List Str}(x:SetS w byT h a ks)(e:∀ o,h.get? a=some o->h'.get? a=some o):SetS w byT h' a ks:=by
 obtain⟨o,es,ep,t,ho,r⟩:=x
 exact⟨o,es,ep,t,e _ ho,r⟩
end
section
variable {prog:Program}{w:World}{A:Around}{R:Result->Shared->Prop}{I:Addr}{fp wr:List Addr}{G:Array GenState->Array GenState->Prop}{n:Nat}{P:Nat->Value->Prop}{St:Nat->Shared->Prop}
theorem y5Q(W:WalksS prog w A.in1 I fp wr G n P St)(S:Addr)(hSf:S∉fp)(val:Nat->Str)(hval:∀ i v,P i v->∃ t,v = .str (val i) t)(hb:n + 1 < scanBound)(byT:Bool) :
 ∀ (k i:Nat) (s:Shared) (ks:List Str),n - i=k->i<=n->St i s->SetS w byT s.heap S ks->(∀ x,x∈ks↔∃ j,j < i/\val j=x)->ks.length<=i ->
  (∀ s' ks',Moved (S :: wr) G s s'->SetS w byT s'.heap S ks'->(∀ x,x∈ks'↔∃ j,j < n/\val j=x)->R (.ok (.ret .none)) s') ->
  codeAny (model prog w) A (.builtin "set.update.loop" ⟨[.ref S,.ref I],[]⟩) R s:=by
 have hSw:S∉wr:=fun h=>hSf (W.sub _ h)
 have more:∀ b∈wr,b∈S :: wr:=fun b hb=>jK _ hb
 intro k
 induction k with
 | zero =>
  intro i s ks hk hi hst hS hm hl hR
  have hin:i=n:=by omega
  subst hin
  refine codeAny_builtin PyProof.Rows.F.entry_set_update_loop ?_
  rw[Around.under_plainId PyProof.Rows.F.plain_set_update_loop _]
  show wpAny _ A.in1 (pyNext (.ref I) >>= _) _ _ s
  refine wpAny_bind (W.done s _ _ hst fun s' mv=>?_)
  show wpAny _ A.in1 (ret Value.none) _ _ s'
  exact wpAny_pure (hR s' ks (mv.mono more) (hS.at fun o e=>mv.heap S o hSw e) hm)
 | succ k ih =>
  intro i s ks hk hi hst hS hm hl hR
  have hlt:i < n:=by omega
  refine codeAny_builtin PyProof.Rows.F.entry_set_update_loop ?_
  rw[Around.under_plainId PyProof.Rows.F.plain_set_update_loop _]
  show wpAny _ A.in1 (pyNext (.ref I) >>= _) _ _ s
  refine wpAny_bind (W.item i s _ _ hlt hst fun v s' hP hst' mv=>?_)
  obtain⟨t,rfl⟩:=hval i v hP
  have hS':SetS w byT s'.heap S ks:=hS.at fun o e=>mv.heap S o hSw e
  show wpAny _ A.in1 (holding [Value.str (val i) t] (setAdd S (.str (val i) t)) >>= _) _ _ s'
  refine wpAny_bind (wpAny_holding ?_)
  unfold setAdd
  refine wpAny_holding ?_
  refine wpAny_bind ((PySem.strKind prog w).pyHash (k:=val i) (strKind_is _ _ _ _) ?_)
  refine y7z (s:={ s' with toks:=s'.toks + 1 }) hS' (by omega) fun h' ks' b hsb hS2 hm2 hl2=>?_
  refine wpAny_pure ⟨plainId_quiet PyProof.Rows.F.plain_set_update_loop _,ih (i + 1) _ ks' (by omega) hlt (W.frame _ s' _ _ hst' (Nat.le_succ _) fun b hb o e=>?_) hS2 (fun x=>?_) (by omega) fun s'' ks'' mv'' hS'' hm''=>?_⟩
  · rw[hsb.2 b (fun h:b=S=>hSf (by rw[<- h];exact hb))];exact e
  · rw[hm2 x,hm x]
    constructor
    · rintro (⟨j,h1,h2⟩ | h)
      · exact⟨j,by omega,h2⟩
      · exact⟨i,by omega,h.symm⟩
    · rintro⟨j,h1,h2⟩
      by_cases z:j=i
      · exact .inr (by rw[<- h2,z])
      · exact .inl ⟨j,by omega,h2⟩
  · refine hR s'' ks'' (Moved.trans W.gtrans ((mv.mono more).then_heap (Nat.le_succ _) fun b o hb e=>?_) mv'') hS'' hm''
    rw[hsb.2 b (fun h:b=S=>hb (by rw[h];exact jv))];exact e
end
section
variable {prog:Program}{w:World}{A:Around}{E:Value->Shared->Prop}{s:Shared}
abbrev z5W(w:World):Bool:=w.params.followText "set-order"
def y5Z(w:World):Obj:={ cls := .type "set",dict:=none,data := .set #[] 0 (.fresh 0 0 (!z5W w)) }
theorem y7y(a:Value){Q₁:Value->Shared->Prop}(h:Q₁ (.ref s.heap.objs.size) { s with heap:=s.heap.push (y5Z w) }) :
 codeAny (model prog w) A (.call (.builtin "set.__new__") ⟨[.type "set",a],[]⟩) (wants Q₁ E) s:=by
 refine codeAny_of_tree ?_
 show wpAny _ A.in1 (do checkBuiltinCall "set.__new__" ⟨[.type "set",a],[]⟩;again (.builtin "set.__new__" ⟨[.type "set",a],[]⟩)) _ _ s
 refine wpAny_bind (wpAny_of_eq (PySem.F.newCall_set_1 a) (wpAny_pure ⟨plainId_quiet PySem.F.plain_set_new _,codeAny_builtin PySem.F.entry_set_new ?_⟩))
 rw[Around.under_plainId PySem.F.plain_set_new _]
 unfold Builtin.«set.__new__» Builtin.Frozenset.newClass
 have hsub:=sub_set_self
 obtain⟨hp,g,d,tk,os⟩:=s
 dsimp only
 wp_walk
 refine wpAny_askSetting (wpAny_pure ?_)
 dsimp only
 simp only[newObj]
 refine wpAny_bind (wpAny_alloc (wpAny_pure ?_))
 exact wpAny_pure h
structure SqS (prog:Program) (w:World) (T:String) (l:Addr) (n:Nat) (P:Nat->Value->Prop) (OK:Heap->Prop):Prop where
 type:∀ s:Shared,OK s.heap->s.TypeIs (.ref l) T
 there:∀ h:Heap,OK h->l < h.objs.size
 keep:∀ h h':Heap,OK h->(∀ o,h.get? l=some o->h'.get? l=some o)->OK h'
 noSet:isSubtype (.type T) (.type "set")=pure false
 noFrz:isSubtype (.type T) (.type "frozenset")=pure false
 noDict:(Value.type T == Value.type "dict")=false
 iter:∀ (s:Shared),OK s.heap->∃ (oI:Obj) (St:Nat->Heap->Prop),(∀ (A:Around) (E:Value->Shared->Prop) (Q:Value->Shared->Prop),Q (.ref s.heap.objs.size) { s with heap:=s.heap.push oI }->wpAny (model prog w) A (pyIter (.ref l)) Q E s) /\
  (∀ A:Around,A.handled=none->Walks prog w A s.heap.objs.size [s.heap.objs.size,l] [s.heap.objs.size] n P St)/\St 0 (s.heap.push oI)
theorem y5R{T:String}{l S:Addr}{n:Nat}{P:Nat->Value->Prop}{OK:Heap->Prop}{R:Result->Shared->Prop}(K:SqS prog w T l n P OK)(hh:A.handled=none)(ok:OK s.heap)(val:Nat->Str)(hval:∀ i v,P i v->∃ t,v = .str (val i) t)(hb:n + 1 < scanBound)(hSl:S≠l)(hS:s.heap.get? S=some (y5Z w))
 (hR:∀ (h':Heap) (tk:Nat) (ks:List Str),(∀ b o,b≠S->s.heap.get? b=some o->h'.get? b=some o)->SetS w (z5W w) h' S ks->(∀ x,x∈ks↔∃ j,j < n/\val j=x)->R (.ok (.ret .none)) { s with heap:=h',toks:=tk }) :
 wpAny (model prog w) A.in1 (Builtin.«set.__init__» ⟨[.ref S,.ref l],[]⟩)
  (fun fin s'=>match fin with | .done f=>R (.ok f) s' | .again c'=>c'.quiet=true/\codeAny (model prog w) A c' R s') (fun e s'=>R (.error e) s') s:=by
 have hT:s.TypeIs (.ref S) "set" := ⟨_,hS,rfl⟩
 have hTl:=K.type s ok
 have hsls:=K.noSet
 have hslf:=K.noFrz
 have hne:=K.noDict
 unfold Builtin.«set.__init__» noKeywords Builtin.Frozenset.updateFrom
 have hS1:s.heap.get? S=some { cls := .type "set",dict:=none,data := .set #[] 0 (.fresh 0 0 (!z5W w)) }:=hS
 generalize hPI:pyIter=PI
 wp_walk using wpAny_typeOf hTl,wpAny_isInstance hTl hsls,wpAny_isInstance hTl hslf
 subst hPI
 obtain⟨oI,St,hit,W,st0⟩:=K.iter s ok
 refine hit _ _ _ ?_
 refine wpAny_bind (wpAny_runValue ?_)
 have lt:=K.there _ ok
 have ltS:=jJ hS
 have S0:SetS w (z5W w) (s.heap.push oI) S []:=⟨_,#[],0,_,jB oI hS1,⟨rfl,rfl,rfl⟩,rfl,.nil,List.nodup_nil,by decide,rfl,rfl,.inl rfl⟩
 refine y5Q (A:=A.in1) (W A.in1.in1 hh).toS S (fun z=>?_) val hval hb (z5W w) (n - 0) 0 _ [] (by omega) (jg _) st0 S0 (fun x=>⟨fun z=>(nomatch z),fun⟨j,z,_⟩=>absurd z (Nat.not_lt_zero _)⟩) (jE _) fun s' ks mv hS' hm=>?_
 · rcases jQ.mp z with z | z
   · exact absurd z (jU ltS)
   · exact hSl (jM.mp z)
 · rw[Moved.eq_with mv]
   refine wpAny_pure (wpAny_pure (hR s'.heap s'.toks ks (fun b o hb e=>mv.heap b o (fun hmem=>?_) (jB _ e)) hS' hm))
   rcases jQ.mp hmem with z | z
   · exact hb z
   · exact absurd (jJ e) (by rw[jM.mp z];exact kq _)
theorem y1o{T:String}{l:Addr}{n:Nat}{P:Nat->Value->Prop}{OK:Heap->Prop}{Q:Value->Shared->Prop}(K:SqS prog w T l n P OK)(hh:A.handled=none)(ok:OK s.heap)(val:Nat->Str)(hval:∀ i v,P i v->∃ t,v = .str (val i) t)(hb:n + 1 < scanBound)
 (h:∀ (h':Heap) (tk:Nat) (ks:List Str),(∀ b o,s.heap.get? b=some o->h'.get? b=some o)->SetS w (z5W w) h' s.heap.objs.size ks->(∀ x,x∈ks↔∃ j,j < n/\val j=x)->Q (.ref s.heap.objs.size) { s with heap:=h',toks:=tk }) :
 wpAny (model prog w) A (call (.type "set") [.ref l]) Q E s:=by
 obtain⟨c,tl,hmro⟩:=PySem.F.called_set.mro
 have hmade:=PySem.F.called_set.made
 have hsub:=PySem.F.called_set.sub
 refine wpAny_call (codeAny_of_tree ?_)
 show wpAny _ _ (callAny (.type "set") _) _ _ _
 refine wpAny_pure ⟨Code.quiet_builtin _ (by decide +kernel),codeAny_builtin PySem.F.entry_type_call ?_⟩
 rw[Around.under_plain (weight_type_call_type "set" [.ref l] []) rfl]
 have h1:=PySem.F.called_set.notType
 have h2:=PySem.F.called_set.canCreate
 have hct:=PySem.F.typeCall_set_1 (.ref l)
 repeat (any_goals (first | assumption | wp_step))
 refine codeAny_mono (y7y (.ref l) (E:=E) (Q₁:=fun obj s₁=>obj = .ref s.heap.objs.size/\s₁={ s with heap:=s.heap.push (y5Z w) }) ⟨rfl,rfl⟩) fun r s₁ hr=>?_
 cases r with
 | error e=>exact hr
 | ok fl =>
  cases fl with
  | ret obj =>
   obtain⟨rfl,rfl⟩:=hr
   have hS:(s.heap.push (y5Z w)).get? s.heap.objs.size=some (y5Z w):=jO _ rfl
   have hT:Shared.TypeIs { s with heap:=s.heap.push (y5Z w) } (.ref s.heap.objs.size) "set" := ⟨_,hS,rfl⟩
   have hli:=PySem.F.called_set.init.lookup
   have hbi:=PySem.F.called_set.init.bind (.ref s.heap.objs.size)
   repeat (any_goals (first | assumption | wp_step))
   refine codeAny_mono (codeAny_call_builtin (R:=wants (fun r s₂=>r = .none/\Q (.ref s.heap.objs.size) s₂) E) PySem.F.called_set.init.plain PySem.F.entry_set_init (check_set_init_1 hT ?_)) fun r₂ s₂ hr₂=>?_
   · have lt:=K.there _ ok
     refine y5R (A:=A.in1) (s:={ s with heap:=s.heap.push (y5Z w) }) K hh (K.keep _ _ ok fun o e=>jB _ e) val hval hb (kB lt) hS fun h' tk ks k1 k2 k3=>?_
     exact⟨rfl,h h' tk ks (fun b o e=>k1 b o (jU (jJ e)) (jB _ e)) k2 k3⟩
   · cases r₂ with
     | error e=>exact hr₂
     | ok fl₂ =>
      cases fl₂ with
      | ret r =>
       obtain⟨rfl,hq⟩:=hr₂
       repeat (any_goals (first | assumption | wp_step))
      | _=>exact hr₂.elim
  | _=>exact hr.elim
theorem y3K(l:Addr)(items:Array Value):SqS prog w "list" l items.size (fun i v=>items[i]? = some v) (fun h=>h.IsList l items) where
 type:=fun s x=>x.typeIs
 there:=fun h ⟨o,ho,_⟩=>jJ ho
 keep:=fun h h' x k=>x.at k
 noSet:=PySem.F.sub_list_set
 noFrz:=PySem.F.sub_list_frozenset
 noDict:=by decide
 iter:=fun s x=>⟨_,_,(fun _ _ _ hq=>wpAny_pyIter_list x hq),fun A hh=>Walks.list hh _ l (by obtain⟨o,ho,_⟩:=x;exact jU (jJ ho)) items,⟨⟨_,jO _ rfl,rfl,rfl⟩,x.at fun o e=>jB _ e⟩⟩
theorem z6d:isSubtype (.type "tuple") (.type "set")=pure false:=by rw[isSubtype_type];kernel_rfl
theorem z6e:isSubtype (.type "tuple") (.type "frozenset")=pure false:=by rw[isSubtype_type];kernel_rfl
theorem y1q(l:Addr)(items:Array Value):SqS prog w "tuple" l items.size (fun i v=>items[i]? = some v) (fun h=>h.IsTuple l items) where
 type:=fun s x=>x.typeIs
 there:=fun h ⟨o,ho,_⟩=>jJ ho
 keep:=fun h h' x k=>x.at k
 noSet:=z6d
 noFrz:=z6e
 noDict:=by decide
 iter:=fun s x=>⟨_,_,(fun _ _ _ hq=>wpAny_pyIter_tuple x hq),fun A hh=>Walks.tuple hh _ l (by obtain⟨o,ho,_⟩:=x;exact jU (jJ ho)) items,⟨⟨_,jO _ rfl,rfl,rfl⟩,x.at fun o e=>jB _ e⟩⟩
end
theorem z9v:Manifest.owners.lookup (String.ofList ['r','o','t','a','r','e','t','i','_','t','e','s'].reverse)=some Manifest.sig_set_iterator:=by kernel_rfl
theorem z0w:Slot "set_iterator" "__next__" "set_iterator.__next__" :=
 .of (owner := "set_iterator") (n := "__next__") (by rw[typeLookup_type,builtinLookup_eq_fast];kernel_rfl) (by decide +kernel) (by decide +kernel) (by decide +kernel)
  (by first | exact .inl (by decide +kernel) | exact .inr (by decide +kernel)) (by rw[isSubtype_type];kernel_rfl)
theorem z1z:entryFor table "set_iterator.__next__" = some Builtin.«set_iterator.__next__»:=entryFor_of_tree (by kernel_rfl)
theorem z1R(a:Value):argsOk "set_iterator.__next__" ⟨[a],[]⟩:=by
 unfold argsOk;rw[signature?_of (id := "set_iterator.__next__") (n:=['_','_','t','x','e','n','_','_']) (o:=['r','o','t','a','r','e','t','i','_','t','e','s']) (by kernel_rfl) z9v];kernel_rfl
theorem z4g:Slot "set_iterator" "__iter__" "set_iterator.__iter__" :=
 .of (owner := "set_iterator") (n := "__iter__") (by rw[typeLookup_type,builtinLookup_eq_fast];kernel_rfl) (by decide +kernel) (by decide +kernel) (by decide +kernel)
  (by first | exact .inl (by decide +kernel) | exact .inr (by decide +kernel)) (by rw[isSubtype_type];kernel_rfl)
theorem z7j(a:Value):argsOk "set_iterator.__iter__" ⟨[a],[]⟩:=by
 unfold argsOk;rw[signature?_of (id := "set_iterator.__iter__") (n:=['_','_','r','e','t','i','_','_']) (o:=['r','o','t','a','r','e','t','i','_','t','e','s']) (by kernel_rfl) z9v];kernel_rfl
theorem z6l:entryFor table "set_iterator.__iter__" = some Builtin.«dict_keyiterator.__iter__» :=
 entryFor_alias (id' := "dict_keyiterator.__iter__") (by kernel_rfl) (by first | rfl | decide +kernel | (unfold String.splitOn;simp +decide [String.splitOnAux])) (by decide +kernel) (by kernel_rfl)
theorem z6o:entryFor table "set.__iter__" = some Builtin.«frozenset.__iter__» :=
 entryFor_alias (id' := "frozenset.__iter__") (by kernel_rfl) (by first | rfl | decide +kernel | (unfold String.splitOn;simp +decide [String.splitOnAux])) (by decide +kernel) (by kernel_rfl)
section
variable {prog:Program}{w:World}{A:Around}{E:Value->Shared->Prop}{s:Shared}
theorem z3X{α:Type}:∀ (l:List α) (i:Nat) (h:i < l.length),(l[i] :: l.eraseIdx i).Perm l
 | x :: l,0,_ => .refl _
 | x :: l,i + 1,h=>by
  have h':i < l.length:=by simpa using h
  show (l[i]'h' :: x :: l.eraseIdx i).Perm (x :: l)
  exact (List.Perm.swap _ _ _).trans ((z3X l i h').cons x)
theorem y0l{src:Source}{n:Nat}{Q:Nat->Shared->Prop}(hn:n≠0)(h:∀ i,i < n->Q i { s with drawn:=s.drawn.bump src }):wpAny (model prog w) A (choose src n) Q E s:=fun Γ p hΓ=>by
 unfold choose
 rw[Sem.wp_choose]
 exact⟨hn,h _ (Nat.mod_lt _ (Nat.pos_of_ne_zero hn))⟩
theorem z4z{α:Type}:∀ (n:Nat) (xs:List α) (s:Shared) (Q:List α->Shared->Prop),xs.length=n->(∀ ys d,ys.Perm xs->Q ys { s with drawn:=d })->wpAny (model prog w) A (drawOrder n xs) Q E s
 | 0,xs,s,Q,hl,h=>by
  have:xs=[]:=List.length_eq_zero_iff.mp hl
  subst this
  exact wpAny_pure (h [] s.drawn (.refl _))
 | n + 1,[],s,Q,hl,h=>by simp at hl
 | n + 1,x :: xs,s,Q,hl,h=>by
  show wpAny _ _ (choose .order (x :: xs).length >>= _) _ _ _
  refine wpAny_bind (y0l (by simp) fun i hi=>?_)
  rw[jD hi]
  dsimp only
  refine wpAny_bind (z4z n ((x :: xs).eraseIdx i) _ _ (by rw[List.length_eraseIdx_of_lt hi,hl];rfl) fun ys d p=>wpAny_pure (h _ d ?_))
  exact (p.cons _).trans (z3X _ _ hi)
theorem y2K{α:Type}(next:Nat->Nat):∀ (f k:Nat) (left:List α) (out:Array α),left.length=f->(pickOrder.go next f k left out).toList.Perm (out.toList ++ left)
 | 0,k,left,out,hl=>by
  have:left=[]:=List.length_eq_zero_iff.mp hl
  subst this
  simp[pickOrder.go]
 | f + 1,k,left,out,hl=>by
  have hi:next k % left.length < left.length:=Nat.mod_lt _ (by omega)
  unfold pickOrder.go
  rw[jD hi]
  dsimp only
  refine (y2K next f (k + 1) _ _ (by rw[List.length_eraseIdx_of_lt hi];omega)).trans ?_
  rw[Array.toList_push,ji]
  exact List.Perm.append_left _ (z3X _ _ hi)
theorem z7v{α:Type}(next:Nat->Nat)(xs:Array α):(pickOrder next xs).toList.Perm xs.toList:=by
 have:=y2K next xs.size 0 xs.toList #[] (by simp)
 simpa [pickOrder] using this
def IsSi(h:Heap)(I:Addr)(f:Value)(i:Nat)(S:Addr)(n ep:Nat):Prop:=∃ o,h.get? I=some o/\o.cls = .type "set_iterator" /\ o.data = .fields #[f,rawInt i,.ref S,rawInt n,rawInt ep]
theorem IsSi.typeIs{I S:Addr}{f:Value}{i n ep:Nat}(x:IsSi s.heap I f i S n ep):s.TypeIs (.ref I) "set_iterator" := let ⟨o,ho,hc,_⟩:=x;⟨o,ho,hc⟩
theorem IsSi.at{h h':Heap}{I S:Addr}{f:Value}{i n ep:Nat}(x:IsSi h I f i S n ep)(e:∀ o,h.get? I=some o->h'.get? I=some o):IsSi h' I f i S n ep:=let ⟨o,ho,r⟩:=x;⟨o,e _ ho,r⟩
def SeAt(h:Heap)(S:Addr)(es:Array (Int×Value))(ep:Nat)(t:SetTable):Prop:=∃ o,h.get? S=some o/\o.data = .set es ep t
theorem SeAt.at{h h':Heap}{S:Addr}{es:Array (Int×Value)}{ep:Nat}{t:SetTable}(x:SeAt h S es ep t)(e:∀ o,h.get? S=some o->h'.get? S=some o):SeAt h' S es ep t:=let ⟨o,ho,r⟩:=x;⟨o,e _ ho,r⟩
theorem y5X{I S P:Addr}{es:Array (Int×Value)}{ep:Nat}{t:SetTable}{i:Nat}{places:Array Value}{p:Nat}{tk:Tok}{x:Int×Value}{Q:Option Value->Shared->Prop}(hit:IsSi s.heap I (.ref P) i S es.size ep)(hS:SeAt s.heap S es ep t)(hf:t.fits es.size=true)(hP:s.heap.IsTuple P places)(hp:places[i]? = some (.int p tk))(hx:es[p]? = some x)
 (hQ:∀ h',IsSi h' I (.ref P) (i + 1) S es.size ep->Heap.SameBut I s.heap h'->Q (some x.2) { s with heap:=h' }):wpAny (model prog w) A (pyNext (.ref I)) Q E s:=by
 obtain⟨o,ho,hc,hd⟩:=id hit
 obtain⟨oS,hoS,hdS⟩:=hS
 obtain⟨oP,hoP,hcP,nP,hdP⟩:=id hP
 unfold pyNext
 refine wpAny_bind (wpAny_attempt (wpAny_callSpecial?_slot (name:=Str.ofString "__next__") hit.typeIs z0w (wpAny_call_entry z0w hit.typeIs z1z ?_ (z1R _))))
 unfold Builtin.«set_iterator.__next__»
 refine wpAny_bind (wpAny_of_eq (a:=(Value.ref I,[])) rfl ?_)
 try dsimp only
 refine wpAny_bind (wpAny_fieldsOf ho hd ?_)
 try dsimp only
 show wpAny _ _ (setEntries S >>= _) _ _ s
 refine wpAny_bind (wpAny_setEntries_of hoS hdS hf ?_)
 refine wpAny_ite_split (fun z=>absurd z (by simp)) (fun _=>?_)
 show wpAny _ _ (seqItems? (.ref P) >>= _) _ _ s
 refine wpAny_bind (wpAny_seqItems hoP hdP ?_)
 simp only[kJ,hp]
 refine wpAny_bind ?_
 unfold setNextDrawn
 refine wpAny_bind (wpAny_setState_of hoS hdS hf ?_)
 dsimp only
 rw[if_neg (by simp)]
 rw[hx]
 refine wpAny_pure ?_
 refine wpAny_bind (wpAny_setField ho hd (by simp) ?_)
 refine wpAny_pure ⟨x.2,rfl,wpAny_pure (hQ _ ?_ (Heap.SameBut.update ..))⟩
 exact⟨_,jm _ ho (Obj.isFreed_of_fields (Obj.data_mapFields hd _)),(Obj.cls_mapFields ..).trans hc,by rw[Obj.data_mapFields hd];simp[rawInt]⟩
theorem z7h{α:Type}{R:α->Shared->Prop}{Q:Option Value->Shared->Prop}(hh:A.handled=none)(hQ:∀ h',(∀ b o,s.heap.get? b=some o->h'.get? b=some o)->Q none { s with heap:=h' }) :
 wpAny (model prog w) A.in1 (newExc (.type "StopIteration") [] >>= fun e=>(raiseNew e:Sem α)) R (fun e s'=>wpAny (model prog w) A (do if <- isInstance e (.type "StopIteration") then pure none else throw e) Q E s') s:=by
 refine wpAny_bind ?_
 unfold newExc newTuple
 refine wpAny_bind (wpAny_newObj_type (wpAny_bind (m:=firstArgMember _ _) (wpAny_of_eq (a:=Value.none) (by first | rfl | (unfold firstArgMember;rfl)) (wpAny_newObj_type ?_ (by size_fits)))) (by size_fits))
 unfold raiseNew
 refine wpAny_bind (wpAny_handled ?_)
 rw[show A.in1.handled=none from hh]
 refine wpAny_bind (wpAny_pure (wpAny_throw ?_))
 refine wpAny_bind (wpAny_isInstance (b:=true) (T := "StopIteration") ⟨_,jO _ rfl,rfl⟩ isSubtype_stop (wpAny_pure ?_))
 exact hQ _ fun b o e=>jB _ (jB _ e)
theorem y7C{I S P:Addr}{es:Array (Int×Value)}{ep:Nat}{t:SetTable}{i:Nat}{places:Array Value}{Q:Option Value->Shared->Prop}(hh:A.handled=none)(hit:IsSi s.heap I (.ref P) i S es.size ep)(hS:SeAt s.heap S es ep t)(hf:t.fits es.size=true)(hP:s.heap.IsTuple P places)(hp:places[i]? = none)
 (hQ:∀ h',(∀ b o,b≠I->s.heap.get? b=some o->h'.get? b=some o)->Q none { s with heap:=h' }):wpAny (model prog w) A (pyNext (.ref I)) Q E s:=by
 obtain⟨o,ho,hc,hd⟩:=id hit
 obtain⟨oS,hoS,hdS⟩:=hS
 obtain⟨oP,hoP,hcP,nP,hdP⟩:=id hP
 unfold pyNext
 refine wpAny_bind (wpAny_attempt (wpAny_callSpecial?_slot (name:=Str.ofString "__next__") hit.typeIs z0w (wpAny_call_entry z0w hit.typeIs z1z ?_ (z1R _))))
 unfold Builtin.«set_iterator.__next__»
 refine wpAny_bind (wpAny_of_eq (a:=(Value.ref I,[])) rfl ?_)
 try dsimp only
 refine wpAny_bind (wpAny_fieldsOf ho hd ?_)
 show wpAny _ _ (setEntries S >>= _) _ _ s
 refine wpAny_bind (wpAny_setEntries_of hoS hdS hf ?_)
 refine wpAny_ite_split (fun z=>absurd z (by simp)) (fun _=>?_)
 show wpAny _ _ (seqItems? (.ref P) >>= _) _ _ s
 refine wpAny_bind (wpAny_seqItems hoP hdP ?_)
 simp only[kJ,hp]
 refine wpAny_bind (wpAny_setField ho hd (by simp) ?_)
 have ho2:=jm (Obj.mapFields (·.setIfInBounds 0 (rawInt 0))) ho (Obj.isFreed_of_fields (Obj.data_mapFields hd _))
 have hd2:=Obj.data_mapFields (o:=o) hd (·.setIfInBounds 0 (rawInt 0))
 have hx2:∀ b o',b≠I->s.heap.get? b=some o'->(s.heap.update I (Obj.mapFields (·.setIfInBounds 0 (rawInt 0)))).get? b=some o':=fun b o' hb e=>(Heap.SameBut.update ..).extBut b o' hb e
 generalize s.heap.update I (Obj.mapFields (·.setIfInBounds 0 (rawInt 0)))=g2 at ho2 hx2 ⊢
 generalize Obj.mapFields (·.setIfInBounds 0 (rawInt 0)) o=o2 at ho2 hd2
 refine wpAny_bind (wpAny_setField (s:={ s with heap:=g2 }) ho2 hd2 (by simp) ?_)
 refine z7h hh fun h' k=>hQ h' fun b o' hb e=>k b o' ((Heap.SameBut.update ..).extBut b o' hb (hx2 b o' hb e))
theorem z9w{I S:Addr}{es:Array (Int×Value)}{ep slot nx:Nat}{t:SetTable}{i:Nat}{x:Value}{Q:Option Value->Shared->Prop}(hit:IsSi s.heap I (rawInt slot) i S es.size ep)(hS:SeAt s.heap S es ep t)(hf:t.fits es.size=true)
 (hn:∀ (A:Around) (E:Value->Shared->Prop) (Q':Option (Value×Nat)->Shared->Prop),Q' (some (x,nx)) s->wpAny (model prog w) A (setNext S slot i ep) Q' E s)
 (hQ:∀ h',IsSi h' I (rawInt nx) (i + 1) S es.size ep->Heap.SameBut I s.heap h'->Q (some x) { s with heap:=h' }):wpAny (model prog w) A (pyNext (.ref I)) Q E s:=by
 obtain⟨o,ho,hc,hd⟩:=id hit
 obtain⟨oS,hoS,hdS⟩:=hS
 unfold pyNext
 refine wpAny_bind (wpAny_attempt (wpAny_callSpecial?_slot (name:=Str.ofString "__next__") hit.typeIs z0w (wpAny_call_entry z0w hit.typeIs z1z ?_ (z1R _))))
 unfold Builtin.«set_iterator.__next__»
 refine wpAny_bind (wpAny_of_eq (a:=(Value.ref I,[])) rfl ?_)
 try dsimp only
 refine wpAny_bind (wpAny_fieldsOf ho hd ?_)
 show wpAny _ _ (setEntries S >>= _) _ _ s
 refine wpAny_bind (wpAny_setEntries_of hoS hdS hf ?_)
 refine wpAny_ite_split (fun z=>absurd z (by simp)) (fun _=>?_)
 show wpAny _ _ (setNext S (slot:Int).toNat (i:Int).toNat (ep:Int).toNat >>= _) _ _ s
 rw[kJ,kJ,kJ]
 refine wpAny_bind (hn _ _ _ ?_)
 dsimp only
 refine wpAny_bind (wpAny_setField ho hd (by simp) ?_)
 have ho2:=jm (Obj.mapFields (·.setIfInBounds 0 (rawInt nx))) ho (Obj.isFreed_of_fields (Obj.data_mapFields hd _))
 have hd2:=Obj.data_mapFields (o:=o) hd (·.setIfInBounds 0 (rawInt nx))
 have hc2:(Obj.mapFields (·.setIfInBounds 0 (rawInt nx)) o).cls = .type "set_iterator" := (Obj.cls_mapFields ..).trans hc
 have sb:=Heap.SameBut.update s.heap I (Obj.mapFields (·.setIfInBounds 0 (rawInt nx)))
 generalize s.heap.update I (Obj.mapFields (·.setIfInBounds 0 (rawInt nx)))=g2 at ho2 sb ⊢
 generalize Obj.mapFields (·.setIfInBounds 0 (rawInt nx)) o=o2 at ho2 hd2 hc2
 refine wpAny_bind (wpAny_setField (s:={ s with heap:=g2 }) ho2 hd2 (by simp) ?_)
 refine wpAny_pure ⟨x,rfl,wpAny_pure (hQ _ ?_ (sb.trans (Heap.SameBut.update ..)))⟩
 exact⟨_,jm _ ho2 (Obj.isFreed_of_fields (Obj.data_mapFields hd2 _)),(Obj.cls_mapFields ..).trans hc2,by rw[Obj.data_mapFields hd2];simp[rawInt]⟩
theorem z8n{I S:Addr}{es:Array (Int×Value)}{ep slot:Nat}{t:SetTable}{i:Nat}{Q:Option Value->Shared->Prop}(hh:A.handled=none)(hit:IsSi s.heap I (rawInt slot) i S es.size ep)(hS:SeAt s.heap S es ep t)(hf:t.fits es.size=true)
 (hn:∀ (A:Around) (E:Value->Shared->Prop) (Q':Option (Value×Nat)->Shared->Prop),Q' none s->wpAny (model prog w) A (setNext S slot i ep) Q' E s)
 (hQ:∀ h',(∀ b o,b≠I->s.heap.get? b=some o->h'.get? b=some o)->Q none { s with heap:=h' }):wpAny (model prog w) A (pyNext (.ref I)) Q E s:=by
 obtain⟨o,ho,hc,hd⟩:=id hit
 obtain⟨oS,hoS,hdS⟩:=hS
 unfold pyNext
 refine wpAny_bind (wpAny_attempt (wpAny_callSpecial?_slot (name:=Str.ofString "__next__") hit.typeIs z0w (wpAny_call_entry z0w hit.typeIs z1z ?_ (z1R _))))
 unfold Builtin.«set_iterator.__next__»
 refine wpAny_bind (wpAny_of_eq (a:=(Value.ref I,[])) rfl ?_)
 try dsimp only
 refine wpAny_bind (wpAny_fieldsOf ho hd ?_)
 show wpAny _ _ (setEntries S >>= _) _ _ s
 refine wpAny_bind (wpAny_setEntries_of hoS hdS hf ?_)
 refine wpAny_ite_split (fun z=>absurd z (by simp)) (fun _=>?_)
 show wpAny _ _ (setNext S (slot:Int).toNat (i:Int).toNat (ep:Int).toNat >>= _) _ _ s
 rw[kJ,kJ,kJ]
 refine wpAny_bind (hn _ _ _ ?_)
 dsimp only
 refine wpAny_bind (wpAny_setField ho hd (by simp) ?_)
 refine z7h hh fun h' k=>hQ h' fun b o' hb e=>k b o' ((Heap.SameBut.update ..).extBut b o' hb e)
theorem y1z{S:Addr}{es:Array (Int×Value)}{ep slot i:Nat}{t:SetTable}{Q:Option (Value×Nat)->Shared->Prop}(hS:SeAt s.heap S es ep t)(hf:t.fits es.size=true)(hb:z5W w=true)
 (h:Q (((pickOrder (w.params.setOrder S ep) es)[i]?).map fun e=>(e.2,slot)) s):wpAny (model prog w) A (setNext S slot i ep) Q E s:=by
 obtain⟨oS,hoS,hdS⟩:=hS
 unfold setNext
 refine wpAny_bind (wpAny_setState_of hoS hdS hf ?_)
 dsimp only
 unfold setsByText
 refine wpAny_bind (wpAny_bind (wpAny_askSetting (wpAny_pure ?_)))
 show wpAny _ _ (if z5W w=true then _ else _) _ _ _
 rw[if_pos hb,if_neg (by simp)]
 unfold setWalk
 refine wpAny_bind (wpAny_bind (wpAny_setState_of hoS hdS hf ?_))
 dsimp only
 unfold setsByText
 refine wpAny_bind (wpAny_bind (wpAny_askSetting (wpAny_pure ?_)))
 show wpAny _ _ (if z5W w=true then _ else _) _ _ _
 rw[if_pos hb]
 refine wpAny_bind (wpAny_askSetting (wpAny_pure ?_))
 exact wpAny_pure h
theorem y1A{S:Addr}{es:Array (Int×Value)}{ep slot i:Nat}{t:SetTable}{Q:Option (Value×Nat)->Shared->Prop}(hS:SeAt s.heap S es ep t)(hf:t.fits es.size=true)(hb:z5W w=false)(few:es.size<=1)(led:t.led=true)
 (h:Q (match es[SetTable.below t.place slot]?,t.place[SetTable.below t.place slot]? with | some (_,x),some j=>some (x,j + 1) | _,_=>none) s):wpAny (model prog w) A (setNext S slot i ep) Q E s:=by
 obtain⟨oS,hoS,hdS⟩:=hS
 unfold setNext
 refine wpAny_bind (wpAny_setState_of hoS hdS hf ?_)
 dsimp only
 unfold setsByText
 refine wpAny_bind (wpAny_bind (wpAny_askSetting (wpAny_pure ?_)))
 show wpAny _ _ (if z5W w=true then _ else _) _ _ _
 rw[if_neg (by rw[hb];decide)]
 refine wpAny_ite_split (fun z=>absurd z ?_) (fun _=>?_)
 · show ¬ ((!t.plain && decide (es.size > 1))=true)
   rw[decide_eq_false (by omega),Bool.and_false]
   decide
 refine wpAny_bind ?_
 wp_delta
 refine wpAny_ite_split (fun z=>absurd z (by rw[led];simp)) (fun _=>?_)
 exact wpAny_pure (wpAny_pure h)
theorem y0S(j:Nat):SetTable.below #[j] 0=0:=by
 unfold SetTable.below
 show SetTable.below.go #[j] 0 1 0 1=0
 unfold SetTable.below.go
 rw[if_pos (by decide)]
 show (if (#[j]:Array Nat).getD 0 0 < 0 then _ else _)=0
 rw[if_neg (Nat.not_lt_zero _)]
 rfl
theorem y0R(j:Nat):SetTable.below #[j] (j + 1)=1:=by
 unfold SetTable.below
 show SetTable.below.go #[j] (j + 1) 1 0 1=1
 unfold SetTable.below.go
 rw[if_pos (by decide)]
 show (if (#[j]:Array Nat).getD 0 (j + 1) < j + 1 then _ else _)=1
 rw[if_pos (show (#[j]:Array Nat).getD 0 (j + 1) < j + 1 from Nat.lt_succ_self j)]
 rfl
theorem y5l{a:Array Nat}(h:a.size=1):∃ j,a=#[j]:=by
 obtain⟨l⟩:=a
 match l,h with
 | [j],_=>exact⟨j,rfl⟩
def z8c(prog:Program)(w:World)(S I lo:Addr)(vs:List Value)(h1:Heap):Prop:=∃ (P:Addr) (St:Nat->Heap->Prop),(P=S\/lo<=P)/\(∀ A:Around,A.handled=none->Walks prog w A I [I,S,P] [I] vs.length (fun i v=>vs[i]? = some v) St)/\St 0 h1
theorem z8m{I S:Addr}{f:Value}{i n ep:Nat}{Q:Value->Shared->Prop}(hit:IsSi s.heap I f i S n ep)(hQ:Q (.ref I) s):wpAny (model prog w) A (pyIter (.ref I)) Q E s:=by
 refine wpAny_pyIter_slot hit.typeIs z4g (wpAny_call_entry z4g hit.typeIs z6l ?_ (z7j _))
 show wpAny _ _ (ret (.ref I)) _ _ s
 exact wpAny_pure ⟨_,rfl, "set_iterator",_,hit.typeIs,z0w.lookup,hQ⟩
theorem y1c{I S lo:Addr}(hne:S≠I){es:Array (Int×Value)}{ep:Nat}{t:SetTable}(hf:t.fits es.size=true)(hb:z5W w=true){h1:Heap}(st:IsSi h1 I (rawInt 0) 0 S es.size ep)(hS:SeAt h1 S es ep t) :
 z8c prog w S I lo ((pickOrder (w.params.setOrder S ep) es).toList.map (·.2)) h1:=by
 have pz:(pickOrder (w.params.setOrder S ep) es).size=es.size:=by
  have:=(z7v (w.params.setOrder S ep) es).length_eq
  simpa using this
 refine⟨S,fun i h=>i<=es.size/\IsSi h I (rawInt 0) i S es.size ep/\SeAt h S es ep t,.inl rfl,fun A hh=>?_,jg _,st,hS⟩
 refine { sub:=fun b hb=>by simp at hb;simp[hb],frame:=fun _ _ _ x hk=>⟨x.1,x.2.1.at fun o e=>hk I (by simp) o e,x.2.2.at fun o e=>hk S (by simp) o e⟩,item:=fun i s Q E hi x hQ=>?_,done:=fun s Q E x hQ=>?_,self:=fun i s Q E x hQ=>z8m x.2.1 hQ }
 · rw[jA,jX,pz]at hi
   have hi':i < (pickOrder (w.params.setOrder S ep) es).size:=by omega
   refine z9w (x:=(pickOrder (w.params.setOrder S ep) es)[i].2) (nx:=0) x.2.1 x.2.2 hf (fun A' E' Q' hq=>y1z x.2.2 hf hb (by rw[jt hi'];exact hq)) fun h' it' sb=>?_
   refine hQ _ h' s.toks ?_ ⟨hi,it',x.2.2.at fun o e=>(sb.2 S hne).trans e⟩ fun b o hb e=>sb.extBut b o (fun z=>hb (by simp[z])) e
   rw[jF,kN,jt hi'];rfl
 · rw[jA,jX,pz]at x
   exact z8n hh x.2.1 x.2.2 hf (fun A' E' Q' hq=>y1z x.2.2 hf hb (by rw[qF (by omega)];exact hq)) fun h' k=>hQ h' s.toks fun b o hb e=>k b o (fun z=>hb (by simp[z])) e
theorem y3z{I S lo:Addr}(hne:S≠I){es:Array (Int×Value)}{ep:Nat}{t:SetTable}(hf:t.fits es.size=true)(hb:z5W w=false)(few:es.size<=1)(led:t.led=true){h1:Heap}(st:IsSi h1 I (rawInt 0) 0 S es.size ep)(hS:SeAt h1 S es ep t) :
 z8c prog w S I lo (es.toList.map (·.2)) h1:=by
 have pz:t.place.size=es.size:=by
  unfold SetTable.fits at hf
  rw[qJ]at hf
  simpa using hf.1
 refine⟨S,fun i h=>i<=es.size/\IsSi h I (rawInt ((if i=0 then 0 else t.place.getD 0 0 + 1:Nat):Int)) i S es.size ep/\SeAt h S es ep t,.inl rfl,fun A hh=>?_,jg _,st,hS⟩
 refine { sub:=fun b hb=>by simp at hb;simp[hb],frame:=fun _ _ _ x hk=>⟨x.1,x.2.1.at fun o e=>hk I (by simp) o e,x.2.2.at fun o e=>hk S (by simp) o e⟩,item:=fun i s Q E hi x hQ=>?_,done:=fun s Q E x hQ=>?_,self:=fun i s Q E x hQ=>z8m x.2.1 hQ }
 · rw[jA,jX]at hi
   have i0:i=0:=by omega
   subst i0
   obtain⟨j,ej⟩:∃ j,t.place=#[j]:=by
    have:t.place.size=1:=by omega
    exact y5l this
   obtain⟨x0,ex⟩:∃ x0,es[0]? = some x0:=⟨es[0],jt (by omega)⟩
   refine z9w (slot:=0) (x:=x0.2) (nx:=j + 1) x.2.1 x.2.2 hf (fun A' E' Q' hq=>y1A x.2.2 hf hb few led (by rw[ej,y0S,ex];exact hq)) fun h' it' sb=>?_
   refine hQ _ h' s.toks ?_ ⟨hi,by rw[ej];exact it',x.2.2.at fun o e=>(sb.2 S hne).trans e⟩ fun b o hb e=>sb.extBut b o (fun z=>hb (by simp[z])) e
   rw[jF,kN,ex];rfl
 · rw[jA,jX]at x
   by_cases z:es.size=0
   · have e0:es[SetTable.below t.place 0]? = none:=qF (by omega)
     have x2:=x.2.1
     rw[if_pos z]at x2
     exact z8n (slot:=0) hh x2 x.2.2 hf (fun A' E' Q' hq=>y1A x.2.2 hf hb few led (by rw[e0];exact hq)) fun h' k=>hQ h' s.toks fun b o hb e=>k b o (fun z=>hb (by simp[z])) e
   · obtain⟨j,ej⟩:∃ j,t.place=#[j]:=by
      have:t.place.size=1:=by omega
      exact y5l this
     have x2:=x.2.1
     rw[if_neg z,ej]at x2
     have e0:es[(1:Nat)]? = none:=qF (by omega)
     exact z8n (slot:=j + 1) hh x2 x.2.2 hf (fun A' E' Q' hq=>y1A x.2.2 hf hb few led (by rw[ej,y0R,e0];exact hq)) fun h' k=>hQ h' s.toks fun b o hb e=>k b o (fun z=>hb (by simp[z])) e
theorem y0m{I S P lo:Addr}(hne:S≠I)(hPI:P≠I)(hlo:lo<=P){es:Array (Int×Value)}{ep:Nat}{t:SetTable}(hf:t.fits es.size=true){h1:Heap}{ps:List Nat}(pp:ps.Perm (List.range es.size))(hP:h1.IsTuple P (ps.map fun (i:Nat)=>rawInt (i:Int)).toArray)(st:IsSi h1 I (.ref P) 0 S es.size ep)(hS:SeAt h1 S es ep t) :
 z8c prog w S I lo (ps.map fun i=>(es.getD i (0,.none)).2) h1:=by
 have pl:ps.length=es.size:=by rw[pp.length_eq,qO]
 refine⟨P,fun i h=>i<=es.size/\IsSi h I (.ref P) i S es.size ep/\SeAt h S es ep t/\h.IsTuple P (ps.map fun (i:Nat)=>rawInt (i:Int)).toArray,.inr hlo,fun A hh=>?_,jg _,st,hS,hP⟩
 refine { sub:=fun b hb=>by simp at hb;simp[hb],frame:=fun _ _ _ x hk=>⟨x.1,x.2.1.at fun o e=>hk I (by simp) o e,x.2.2.1.at fun o e=>hk S (by simp) o e,x.2.2.2.at fun o e=>hk P (by simp) o e⟩,item:=fun i s Q E hi x hQ=>?_,done:=fun s Q E x hQ=>?_,self:=fun i s Q E x hQ=>z8m x.2.1 hQ }
 · rw[jA,pl]at hi
   have hi':i < ps.length:=by omega
   have pin:ps[i] < es.size:=List.mem_range.mp (pp.mem_iff.mp (kD hi'))
   refine y5X (p:=ps[i]) (tk:=0) (x:=es[ps[i]]) x.2.1 x.2.2.1 hf x.2.2.2 ?_ (jt pin) fun h' it' sb=>?_
   · rw[kZ,jF,jD hi'];rfl
   · refine hQ _ h' s.toks ?_ ⟨hi,it',x.2.2.1.at fun o e=>(sb.2 S hne).trans e,x.2.2.2.at fun o e=>(sb.2 P hPI).trans e⟩ fun b o hb e=>sb.extBut b o (fun z=>hb (by simp[z])) e
     rw[jF,jD hi']
     simp[Array.getD,pin]
 · rw[jA,pl]at x
   exact y7C hh x.2.1 x.2.2.1 hf x.2.2.2 (by rw[kZ];exact kO (by rw[jA];omega)) fun h' k=>hQ h' s.toks fun b o hb e=>k b o (fun z=>hb (by simp[z])) e
theorem z7f:∀ {ks:List Str}{es:List (Int×Value)},Paired (y7e w) ks es->StrsAre (es.map (·.2)) ks
 | _,_,.nil => .nil
 | _,_,.cons (b:=e) h t=>by
  obtain⟨_,tk,e2⟩:=h
  rw[jV,e2]
  exact .cons _ _ (z7f t)
theorem z4B{ks:List Str}{es:List (Int×Value)}(h:Paired (y7e w) ks es){es':List (Int×Value)}(p:es'.Perm es):∃ ss,ss.Perm ks/\StrsAre (es'.map (·.2)) ss:=by
 obtain⟨ss,h1,h2⟩:=prm p h
 exact⟨ss,h1,z7f h2⟩
theorem y6a{S:Addr}{ks:List Str}{Q:Value->Shared->Prop}(hS:SetS w (z5W w) s.heap S ks)
 (h:∀ (I:Addr) (h1:Heap) (d:Drawn) (vs:List Value) (ss:List Str),(∀ b o,s.heap.get? b=some o->h1.get? b=some o)->s.heap.objs.size<=I->z8c prog w S I s.heap.objs.size vs h1->ss.Perm ks->StrsAre vs ss->Q (.ref I) { s with heap:=h1,drawn:=d }) :
 wpAny (model prog w) A (pyIter (.ref S)) Q E s:=by
 obtain⟨o,es,ep,t,ho,hex,hd,pr,nd,hb,hf,led,pl⟩:=hS
 have hT:s.TypeIs (.ref S) "set" := ⟨o,ho,hex.1⟩
 have hl:es.size=ks.length:=by rw[<- jX];exact pr.length.symm
 have ltS:=jJ ho
 refine wpAny_pyIter_slot hT PySem.F.slot_set_iter (wpAny_call_entry PySem.F.slot_set_iter hT z6o ?_ (PySem.F.args_set_iter_1 _))
 unfold Builtin.«frozenset.__iter__»
 refine wpAny_bind (wpAny_of_eq (a:=S) rfl ?_)
 refine wpAny_bind ?_
 unfold Builtin.Frozenset.sizeOf
 refine wpAny_bind (wpAny_setEntries_of ho hd hf (wpAny_pure ?_))
 refine wpAny_bind ?_
 unfold setDrawn
 refine wpAny_bind (wpAny_setState_of ho hd hf ?_)
 dsimp only
 unfold setsByText
 refine wpAny_bind (wpAny_bind (wpAny_askSetting (wpAny_pure (wpAny_pure ?_))))
 have last:∀ (f:Value) (h0:Heap) (d:Drawn),(∀ b o,s.heap.get? b=some o->h0.get? b=some o)->s.heap.objs.size<=h0.objs.size->(∃ vs ss,z8c prog w S h0.objs.size s.heap.objs.size vs (h0.push { cls := .type "set_iterator",data := .fields #[f,rawInt 0,.ref S,rawInt es.size,rawInt ep] })/\ss.Perm ks/\StrsAre vs ss) ->
  wpAny (model prog w) A.in1 (setEpoch S >>= fun e=>newFields "set_iterator" [f,rawInt 0,.ref S,rawInt es.size,rawInt e] >>= fun v=>ret v) (fun fin s'=>∃ v,fin=Fin.done (Flow.ret v)/\∃ T' r,s'.TypeIs v T'/\typeLookup (Value.type T') (Str.ofString "__next__")=pure (some r)/\Q v s') E { s with heap:=h0,drawn:=d }:=fun f h0 d kp sz hw=>by
  obtain⟨vs,ss,h1,h2,h3⟩:=hw
  refine wpAny_bind (wpAny_setEpoch_of (s:={ s with heap:=h0,drawn:=d }) (kp _ _ ho) hd hf ?_)
  refine wpAny_bind ?_
  unfold newFields
  refine wpAny_newObj_type (wpAny_pure ⟨_,rfl, "set_iterator",_,⟨_,jO _ rfl,rfl⟩,z0w.lookup,?_⟩)
  exact h _ _ d vs ss (fun b o e=>jB _ (kp b o e)) sz h1 h2 h3
 refine wpAny_ite_split (fun hc=>?_) (fun hc=>?_)
 · refine wpAny_bind (z4z es.size (List.range es.size) s _ (by simp) fun ps d pp=>?_)
   have pl:ps.length=es.size:=by rw[pp.length_eq,qO]
   refine wpAny_bind (wpAny_newTuple ?_ (by rw[jA,pl];exact fits_of_scanBound hb))
   refine last _ _ d (fun b o e=>jB _ e) (by simp[Heap.push]) ?_
   have hI:((s.heap.push (seqObj "tuple" (ps.map fun (i:Nat)=>rawInt (i:Int)).toArray 0)).push { cls := .type "set_iterator",data := .fields #[.ref s.heap.objs.size,rawInt 0,.ref S,rawInt es.size,rawInt ep] }).IsTuple s.heap.objs.size (ps.map fun (i:Nat)=>rawInt (i:Int)).toArray:=⟨_,jB _ (jO _ rfl),rfl,0,rfl⟩
   have eq:(List.range es.size).map (fun i=>es.getD i (0,.none))=es.toList:=by
    refine qK (by simp) fun i h1 h2=>?_
    simp at h2
    simp[Array.getD,h2]
   have p2:(ps.map fun i=>es.getD i (0,.none)).Perm es.toList:=by
    have:=pp.map fun i=>es.getD i (0,.none)
    rwa [eq]at this
   obtain⟨ss,h1,h2⟩:=z4B pr p2
   rw[kh]at h2
   refine⟨_,ss,y0m (t:=t) ?_ ?_ (jE _) hf pp hI ⟨_,jO _ rfl,rfl,rfl⟩ ⟨o,jB _ (jB _ ho),hd⟩,h1,h2⟩
   · exact jU (jr ltS (by simp[Heap.push]))
   · simp[Heap.push]
 · refine wpAny_bind (wpAny_pure ?_)
   refine last _ s.heap s.drawn (fun b o e=>e) (jE _) ?_
   have si0:IsSi (s.heap.push { cls := .type "set_iterator",data := .fields #[rawInt 0,rawInt 0,.ref S,rawInt es.size,rawInt ep] }) s.heap.objs.size (rawInt 0) 0 S es.size ep:=⟨_,jO _ rfl,rfl,rfl⟩
   have se0:SeAt (s.heap.push { cls := .type "set_iterator",data := .fields #[rawInt 0,rawInt 0,.ref S,rawInt es.size,rawInt ep] }) S es ep t:=⟨o,jB _ ho,hd⟩
   cases hbt:z5W w with
   | true =>
    obtain⟨ss,h1,h2⟩:=z4B pr (z7v (w.params.setOrder S ep) es)
    exact⟨_,ss,y1c (jU ltS) hf hbt si0 se0,h1,h2⟩
   | false =>
    obtain⟨ss,h1,h2⟩:=z4B pr (.refl es.toList)
    have few:es.size<=1:=by
     by_cases z:es.size<=1
     · exact z
     · exfalso
       apply hc
       show (!z5W w && (!t.plain && decide (es.size > 1)))=true
       have:t.plain=false:=by
        rcases pl with z' | z'
        · rw[z',qD]at hl;omega
        · exact z'
       rw[hbt,this,decide_eq_true (by omega)]
       rfl
    exact⟨_,ss,y3z (jU ltS) hf hbt few (by rw[led,hbt];rfl) si0 se0,h1,h2⟩
end
section
variable {prog:Program}{w:World}{A:Around}{E:Value->Shared->Prop}{s:Shared}
theorem y4u{r:Addr}{Q:Bool->Shared->Prop}(hT:s.TypeIs (.ref r) "set")(h:Q false s):wpAny (model prog w) A (Builtin.List.listLengthHint (.ref r)) Q E s:=by
 unfold Builtin.List.listLengthHint
 refine wpAny_bind (wpAny_specialOf hT PySem.F.slot_set_len.lookup ?_)
 generalize hid:("set.__len__" : String)=id0
 wp_delta
 rw[show splitId id0=some ("set", "__len__") from by subst hid;decide +kernel]
 subst hid
 refine wpAny_bind (wpAny_isInstance (T := "set") (b:=true) hT (by rw[isSubtype_type];kernel_rfl) ?_)
 refine wpAny_ite_split (fun hab=>absurd hab (by decide)) (fun _=>?_)
 refine wpAny_ite_split (fun _=>?_) (fun hab=>absurd (by decide +kernel) hab)
 refine wpAny_bind (wpAny_typeOf hT ?_)
 exact wpAny_pure h
theorem y1E{S L:Addr}{ks:List Str}{c0:Nat}{res:Value}{R:Result->Shared->Prop}(hh:A.handled=none)(hS:SetS w (z5W w) s.heap S ks)(hL:s.heap.get? L=some { cls := .type "list",data := .seq #[] c0 })(hSL:L≠S)(few:ks.length<=sizeLine)
 (hR:∀ (h':Heap) (tk:Nat) (d:Drawn) (acc:Array Value) (c:Nat) (ss:List Str),(∀ b o,b≠L->s.heap.get? b=some o->h'.get? b=some o)->h'.get? L=some { cls := .type "list",dict:=none,data := .seq acc c,slots:=#[] }->ss.Perm ks->StrsAre acc.toList ss->R (.ok (.ret res)) { s with heap:=h',toks:=tk,drawn:=d }) :
 wpAny (model prog w) A.in1 (Builtin.List.listExtendWith (.ref L) (.ref S) res)
  (fun fin s'=>match fin with | .done f=>R (.ok f) s' | .again c'=>c'.quiet=true/\codeAny (model prog w) A c' R s') (fun e s'=>R (.error e) s') s:=by
 have hT:s.TypeIs (.ref S) "set" := by
  obtain⟨o,es,ep,t,ho,hex,_⟩:=hS
  exact⟨o,ho,hex.1⟩
 have ltL:=jJ hL
 unfold Builtin.List.listExtendWith
 refine wpAny_bind (wpAny_typeOf (T := "set") hT ?_)
 have h1:Builtin.List.listSameRef (.ref L) (.ref S)=false:=by simp[Builtin.List.listSameRef,hSL]
 have h2:(Value.type "set" == Value.type "list")=false:=by decide
 have h3:(Value.type "set" == Value.type "tuple")=false:=by decide
 simp only[h1,h2,h3,Bool.or_false,kT,if_false]
 refine wpAny_bind (y6a hS fun I g1 d vs ss kp lo sw pp sa=>?_)
 obtain⟨P,St,hP,W,st0⟩:=sw
 have W:=W A.in1 hh
 have vl:vs.length=ks.length:=by rw[<- pp.length_eq];exact StrsAre.length sa
 have hLf:L∉[I,S,P]:=by
  intro z
  simp only[jQ,kj,or_false]at z
  rcases z with z | z | z
  · exact absurd ltL (by rw[z];exact Nat.not_lt.mpr lo)
  · exact hSL z
  · rcases hP with y | y
    · exact hSL (z.trans y)
    · exact absurd ltL (by rw[z];exact Nat.not_lt.mpr y)
 have hL1:=kp _ _ hL
 have hT1:Shared.TypeIs { s with heap:=g1,drawn:=d } (.ref S) "set" := by
  obtain⟨o,ho,hc⟩:=hT
  exact⟨o,kp _ _ ho,hc⟩
 have key:∀ (g:Heap) (c1 tk:Nat),St 0 g->(∀ b o,b≠L->g1.get? b=some o->g.get? b=some o)->g.get? L=some { cls := .type "list",data := .seq #[] c1 } ->
  codeAny (model prog w) A (.builtin "list.extend.loop" ⟨[.ref L,.ref I,res],[]⟩) R { s with heap:=g,toks:=tk,drawn:=d }:=by
  intro g c1 tk hst hk hLg
  refine codeAny_extend_loopS W.toS (by omega) L hLf res vs.length 0 _ #[] c1 rfl (jg _) hst hLg (ItemsOf.nil _) fun s' acc c mv hL' hacc=>?_
  rw[Moved.eq_with mv]
  have ea:acc.toList=vs:=by
   refine List.ext_getElem? fun i=>?_
   rw[kN]
   by_cases hi:i < vs.length
   · have hz:i < acc.size:=by rw[hacc.1];exact hi
     rw[jt hz]
     exact (hacc.2 i _ (jt hz)).symm
   · rw[qF (by rw[hacc.1];omega),kO (by omega)]
  refine hR s'.heap s'.toks d acc c ss (fun b o hb e=>mv.heap b o (fun hm=>?_) (hk b o hb (kp b o e))) hL' pp (by rw[ea];exact sa)
  rcases jQ.mp hm with z | z
  · exact hb z
  · rw[jM]at z
    exact absurd (jJ e) (by rw[z];exact Nat.not_lt.mpr lo)
 refine wpAny_bind (wpAny_holding (y4u hT1 ?_))
 refine wpAny_ite_split (fun _=>?_) (fun _=>wpAny_pure ⟨plainId_quiet PySem.F.plain_extend_loop _,key _ c0 s.toks st0 (fun b o _ e=>e) hL1⟩)
 refine wpAny_bind (wpAny_rule ?_)
 refine wpAny_bind ?_
 show wpAny _ _ (updateSeq L (·.push .none) >>= fun _=>updateSeq L (·.pop)) _ _ _
 refine wpAny_bind (wpAny_updateSeq hL1 rfl ?_)
 have hL2:=jm (Obj.mapSeq (·.push Value.none)) hL1 rfl
 refine wpAny_updateSeq (hz:=by seq_fits) hL2 rfl ?_
 have hL3:=jm (Obj.mapSeq (·.pop)) hL2 rfl
 refine wpAny_pure ⟨plainId_quiet PySem.F.plain_extend_loop _,key _ _ s.toks ?_ (fun b o hb e=>?_) hL3⟩
 · refine W.frame 0 _ _ st0 fun b hb o e=>?_
   have hbL:b≠L:=fun z=>hLf (z ▸ hb)
   exact (jZ _ _ (Ne.symm hbL)).trans ((jZ _ _ (Ne.symm hbL)).trans e)
 · exact (jZ _ _ (Ne.symm hb)).trans ((jZ _ _ (Ne.symm hb)).trans e)
theorem y0u{S:Addr}{ks:List Str}{R:List Value->Shared->Prop}(hh:A.handled=none)(hS:SetS w (z5W w) s.heap S ks)(few:ks.length<=sizeLine)
 (k:∀ (g:Heap) (tk:Nat) (d:Drawn) (vs:List Value) (ss:List Str),(∀ b o,s.heap.get? b=some o->g.get? b=some o)->s.heap.objs.size < g.objs.size->ss.Perm ks->StrsAre vs ss->R vs { s with heap:=g,toks:=tk,drawn:=d }):wpAny (model prog w) A (collect (.ref S)) R E s:=by
 have ltS:S < s.heap.objs.size:=by
  obtain⟨o,es,ep,t,ho,_⟩:=hS
  exact jJ ho
 unfold collect
 refine wpAny_bind (wpAny_runValue (codeAny_builtin entry_proto_collect' ?_))
 rw[Around.under_plainId PySem.F.plain_proto_collect _]
 show wpAny _ A.in1 (newList [] >>= fun l=>again (.builtin "list.__iadd__" ⟨[l,.ref S],[]⟩)) _ _ s
 refine wpAny_bind (wpAny_newObj_type (wpAny_pure ⟨plainId_quiet PySem.F.plain_list_iadd _,codeAny_builtin entry_list_iadd' ?_⟩))
 rw[Around.under_plainId PySem.F.plain_list_iadd _]
 obtain⟨g0,eg0⟩:∃ g0,g0=s.heap.push { cls := .type "list",data := .seq ([]:List Value).toArray }:=⟨_,rfl⟩
 have at0:g0.get? s.heap.objs.size=some { cls := .type "list",data := .seq #[] 0 }:=by rw[eg0];exact jO _ rfl
 have kp0:∀ b o,s.heap.get? b=some o->g0.get? b=some o:=fun b o e=>by rw[eg0];exact jB _ e
 show wpAny _ A.in1 (Builtin.List.listExtendWith (.ref s.heap.objs.size) (.ref S) (.ref s.heap.objs.size)) _ _ _
 rw[<- eg0]
 have step:=y1E (prog:=prog) (w:=w) (A:=A) (s:={ s with heap:=g0 }) (res := .ref s.heap.objs.size) (R:=fun (q:Result) (s':Shared)=>∃ (g:Heap) (tk:Nat) (d:Drawn) (acc:Array Value) (c:Nat) (ss:List Str),q = .ok (.ret (.ref s.heap.objs.size))/\s'={ s with heap:=g,toks:=tk,drawn:=d }/\(∀ b o,s.heap.get? b=some o->g.get? b=some o)/\g.get? s.heap.objs.size=some { cls := .type "list",dict:=none,data := .seq acc c,slots:=#[] }/\ss.Perm ks/\StrsAre acc.toList ss)
  hh (hS.at fun o e=>kp0 _ o e) at0 (kB ltS) few (fun g tk d acc c ss k1 k2 k3 k4=>⟨g,tk,d,acc,c,ss,rfl,rfl,fun b o e=>k1 b o (jU (jJ e)) (kp0 b o e),k2,k3,k4⟩)
 have last:∀ (g:Heap) (tk:Nat) (d:Drawn) (acc:Array Value) (c:Nat) (ss:List Str),(∀ b o,s.heap.get? b=some o->g.get? b=some o)->g.get? s.heap.objs.size=some { cls := .type "list",dict:=none,data := .seq acc c,slots:=#[] }->ss.Perm ks->StrsAre acc.toList ss ->
  wpAny (model prog w) A (load s.heap.objs.size >>= fun o=>match o.data with | .seq xs _=>pure xs.toList | _=>unsupported "internal:collect") R E { s with heap:=g,toks:=tk,drawn:=d }:=fun g tk d acc c ss k1 k2 k3 k4=>wpAny_bind (wpAny_load k2 (wpAny_pure (k g tk d acc.toList ss k1 (jJ k2) k3 k4)))
 refine wpAny_mono step (fun fin s2 x=>?_) fun e s2 x=>?_
 · cases fin with
   | done f =>
    obtain⟨g,tk,d,acc,c,ss,e,rfl,y⟩:=x
    cases e
    exact last g tk d acc c ss y.1 y.2.1 y.2.2.1 y.2.2.2
   | again c1 =>
    refine⟨x.1,codeAny_mono x.2 fun q s3 z=>?_⟩
    obtain⟨g,tk,d,acc,c,ss,rfl,rfl,y⟩:=z
    exact last g tk d acc c ss y.1 y.2.1 y.2.2.1 y.2.2.2
 · obtain⟨_,_,_,_,_,_,z,_⟩:=x
   cases z
end
def sv:Value->Str
 | .str k _=>k
 | _=>Str.empty
theorem z6f:∀ {vs:List Value}{ss:List Str},StrsAre vs ss->∀ (i:Nat),i < vs.length->∃ tk,vs.getD i Value.none = .str (ss.getD i Str.empty) tk
 | _,_,.nil,i,h=>absurd h (Nat.not_lt_zero _)
 | _,_,.cons _ t _,0,_=>⟨t,rfl⟩
 | _,_,.cons _ _ r,i + 1,h=>by
  obtain⟨tk,e⟩:=z6f r i (by simpa using h)
  exact⟨tk,by simpa using e⟩
theorem y6Y{a b:Str}(h:a.cps.toList=b.cps.toList):a=b:=by
 obtain⟨⟨x⟩⟩:=a
 obtain⟨⟨y⟩⟩:=b
 have:x=y:=h
 rw[this]
def ltS(a b:Str):Prop:=a.cps.toList < b.cps.toList
instance (a b:Str):Decidable (ltS a b):=inferInstanceAs (Decidable (a.cps.toList < b.cps.toList))
theorem z4X{a b c:Str}(h:ltS a b)(h':ltS b c):ltS a c:=List.lt_trans h h'
theorem z9M{a b:Str}(n:a≠b)(h:¬ ltS a b):ltS b a:=by
 by_cases z:ltS b a
 · exact z
 · exact absurd (y6Y (List.le_antisymm (List.not_lt.mp z) (List.not_lt.mp h))) n
section
variable {X:Cx}{pins:List (Addr×Obj)}{σ:St}{H:Hp}{s:Shared}
theorem Inv.drawn(I:Inv X pins σ H s)(d:Drawn):Inv X pins σ H { s with drawn:=d } :=
 I.step (h':=s.heap) (g':=s.gens) (t':=s.toks) (d':=d) (ch:=[]) (fun _ z=>nomatch z) (fun b o _ _ _ e _=>e) (fun b o _ _ _ e _=>⟨o.slots,e⟩) (fun b o _ _ n=>n) (fun b o _ e=>⟨o,e⟩) (fun _ _ e=>e) (fun _ _ _ e=>e) (fun _ ps e=>⟨#[],by rw[Array.append_empty];exact e⟩) (fun m hm=>hm) I.hok I.bare
theorem y0s{S:Addr}{ks:List Str}{Q:VK}(hc:X.calm=true)(I:Inv X pins σ H s)(hS:SetS X.w (z5W X.w) s.heap S ks)(few:ks.length < 64)
 (q:∀ (l:Addr) (ss:List Str),H l=none->ss.Perm ks->ss.Pairwise ltS->Q (.ref l) (upd H l (.lst (ss.map V.str)))) :
 wpAny (model X.prog X.w) X.A (call (.builtin "sorted") [.ref S]) (EP X pins σ Q) X.xe s:=by
 have hh:X.A.in1.handled=none:=I.ok.hd hc
 have nd:ks.Nodup:=by obtain⟨_,_,_,_,_,_,_,_,n,_⟩:=hS;exact n
 let C:List Value->Shared->Prop:=fun vs s1=>∃ (g:Heap) (tk:Nat) (d:Drawn) (ss:List Str),s1={ s with heap:=g,toks:=tk,drawn:=d }/\(∀ b o,s.heap.get? b=some o->g.get? b=some o)/\s.heap.objs.size < g.objs.size/\ss.Perm ks/\StrsAre vs ss
 have at_:∀ vs s1,C vs s1->∃ ss:List Str,ss.Nodup/\ss.Perm ks/\vs.length=ss.length/\(∀ i,i < vs.length->sv (vs.getD i Value.none)=ss.getD i Str.empty/\∃ tk,vs.getD i Value.none = .str (ss.getD i Str.empty) tk):=fun vs s1 hC=>by
  obtain⟨g,tk,d,ss,_,_,_,pp,sa⟩:=hC
  refine⟨ss,pp.nodup_iff.mpr nd,pp,StrsAre.length sa,fun i hi=>?_⟩
  obtain⟨tk,e⟩:=z6f sa i hi
  exact⟨by rw[e];rfl,tk,e⟩
 refine z8l (C:=C) (fun E' R hR=>y0u (A:=X.A.in1) hh hS (by rw[sizeLine_eq];omega) fun g tk d vs ss k1 k2 k3 k4=>hR _ _ ⟨g,tk,d,ss,rfl,k1,k2,k3,k4⟩) (fun vs s1 hC=>?_) oneType' (fun vs _ i j=>decide (ltS (sv (vs.getD i Value.none)) (sv (vs.getD j Value.none)))) (fun vs s1 hC=>?_) (fun vs s1 hC two g2 kp2 R hR=>?_) (fun vs s1 hC g2 kp2 i j Z hi hj hij hZ=>?_) (fun vs s1 hC p g2 c pm sr kp2 hg=>?_)
 · obtain⟨ss,_,pp,l,_⟩:=at_ vs s1 hC
   rw[l,pp.length_eq];exact few
 · obtain⟨ss,ns,pp,l,at2⟩:=at_ vs s1 hC
   refine⟨fun i j k _ _ _ h1 h2=>decide_eq_true (z4X (of_decide_eq_true h1) (of_decide_eq_true h2)),fun i j hi hj hij h=>decide_eq_true (z9M (fun z=>?_) (of_decide_eq_false h))⟩
   rw[(at2 i hi).1,(at2 j hj).1]at z
   have hi':i < ss.length:=by omega
   have hj':j < ss.length:=by omega
   simp only[List.getD,jD hi',jD hj',Option.getD_some]at z
   exact hij ((qI ns).mp z)
 · obtain⟨ss,ns,pp,l,at2⟩:=at_ vs s1 hC
   refine kas_kind (T := .type "str") two (fun v hv=>?_) (by decide) (by decide) hR
   obtain⟨i,hi,rfl⟩:=List.mem_iff_getElem.mp hv
   obtain⟨_,tk,e⟩:=at2 i hi
   simp only[List.getD,jD hi,Option.getD_some]at e
   rw[e]
   exact .now
 · obtain⟨ss,ns,pp,l,at2⟩:=at_ vs s1 hC
   obtain⟨e1,t1,f1⟩:=at2 i hi
   obtain⟨e2,t2,f2⟩:=at2 j hj
   rw[f1,f2]
   rw[e1,e2]at hZ
   exact kas_lt_str hZ
 · obtain⟨ss,ns,pp,l,at2⟩:=at_ vs s1 hC
   obtain⟨g,tk,d,_,rfl,kp,up,_,_⟩:=hC
   dsimp only at kp2 hg ⊢
   have pz:p.toList.length=ss.length:=by rw[jX,pm.size];exact l
   have pin:∀ i∈p.toList,i < ss.length:=fun i hi=>by
    have:=pm.mem_iff.mp (Array.mem_toList_iff.mp hi)
    rw[<- l];simpa using this
   have perm:(p.toList.map fun i=>ss.getD i Str.empty).Perm ss:=by
    have e1:(List.range ss.length).map (fun i=>ss.getD i Str.empty)=ss:=by
     refine qK (by simp) fun i h1 h2=>?_
     simp[List.getD,h2]
    have:=(show p.toList.Perm (List.range vs.length) from kR.mp pm).map fun i=>ss.getD i Str.empty
    rw[l]at this
    rwa [e1]at this
   have fr:H g.objs.size=none:=I.hok.fresh (kP up)
   have kp3:∀ b o,s.heap.get? b=some o->g2.get? b=some o:=fun b o z=>kp2 b o (kp b o z)
   refine⟨.ref g.objs.size,upd H g.objs.size (.lst ((p.toList.map fun i=>ss.getD i Str.empty).map V.str)),(I.drawn d).laid (t':=tk) kp3 (kP up) (show ObjOk X.prog X.w _ g2 _ (.lst ((p.toList.map fun i=>ss.getD i Str.empty).map V.str)) from ⟨by rw[jA,jA,pz,pp.length_eq,sizeLine_eq];omega,z1v vs p,c,?_,hg⟩),rfl,q _ _ fr (perm.trans pp) ?_⟩
   · unfold z1v
     have:∀ pl:List Nat,(∀ i∈pl,i < ss.length)->Vals ((pl.map fun i=>ss.getD i Str.empty).map V.str) (pl.map fun i=>vs.getD i Value.none):=fun pl=>by
      induction pl with
      | nil=>intro _;exact .nil
      | cons i pl ih =>
       intro hp
       obtain⟨_,t1,f1⟩:=at2 i (by rw[l];exact hp i (by simp))
       rw[jV,jV,jV,f1]
       exact .cons ⟨_,rfl⟩ (ih fun k hk=>hp k (by simp[hk]))
     exact this p.toList pin
   · rw[kA]
     refine k8.mpr fun i j hi hj hij=>?_
     have h0:=of_decide_eq_true (sr i j hij (by omega))
     have g1:p.getD i 0=p.toList[i]:=by simp[Array.getD,show i < p.size by simpa using hi]
     have g3:p.getD j 0=p.toList[j]:=by simp[Array.getD,show j < p.size by simpa using hj]
     rw[g1,g3,(at2 _ (by rw[l];exact pin _ (kD hi))).1,(at2 _ (by rw[l];exact pin _ (kD hj))).1]at h0
     exact h0
def y3H(K:PySem.W.Frag)(te:TE):TE:=fun σ H Q=>te σ H fun x H1=>∃ (a:Addr) (ns:List Str),x = .ref a/\(SqL K H1 a (ns.map V.str)\/SqT K H1 a (ns.map V.str))/\ns.length<=4000/\(∀ ks:List Str,ks.Nodup->(∀ k∈ks,k∈ns)->ks.length < 64) /\
 ∀ (l:Addr) (ss:List Str),H1 l=none->(∀ k,k∈ss↔k∈ns)->ss.Pairwise ltS->Q (.ref l) (upd H1 l (.lst (ss.map V.str)))
theorem z7e{ns:List Str}{its:List Value}(r:Vals (ns.map V.str) its):∀ (i:Nat) (v:Value),its.toArray[i]? = some v->∃ t,v = .str (ns.getD i Str.empty) t:=fun i v hv=>by
 rw[kZ]at hv
 have sa:=z5D r
 have hi:i < its.length:=(jH.mp hv).1
 obtain⟨tk,e⟩:=z6f sa i hi
 simp only[List.getD,hv,Option.getD_some]at e
 exact⟨tk,e⟩
theorem z3P{e:Expr}{te:TE}{p p2 cp pos:Pos}(K:PySem.W.Frag)(hK:X.K=K)(hc:X.calm=true)(hg:Gl X "sorted")(hm:X.mg "sorted" = none)(hv:bootBuiltins "sorted" = some (.builtin "sorted"))(hg2:Gl X "set")(hm2:X.mg "set" = none)(hv2:bootBuiltins "set" = some (.type "set"))(ho:PE X e te)
 (he:starEach [e] X.env=[(false,eval e X.env)]:=by rfl):PE X (.Call (.Name "sorted" p) [.Call (.Name "set" p2) [e] [] cp] [] pos) (y3H K te):=by
 subst hK
 intro pins s σ H Q I h
 refine wpAny_Call_Name_kw (z3z I hg hm hv ?_ (by decide) (by decide))
 refine PyProof.Rows.callWith_builtin1 ?_ rfl rfl
 show wpAny _ _ (spliced [(false,eval (.Call (.Name "set" p2) [e] [] cp) X.env)]) _ _ s
 refine Calls.spliced_cons (wpAny_Call_Name_kw (z3z I hg2 hm2 hv2 ?_ (by decide) (by decide)))
 refine PyProof.Rows.callWith_type1 ?_ he rfl
 rw[he]
 show wpAny _ _ (spliced [(false,eval e X.env)]) _ _ s
 refine Calls.spliced_cons (thn (ho pins s σ H _ I h) fun v s1 ⟨x,H1,I1,r1,a,ns,ex,sq,n4,few,k⟩=>?_)
 subst ex
 obtain rfl:v=Value.ref a:=r1
 refine Calls.spliced_nil ?_
 have hh:X.A.handled=none:=I1.ok.hd hc
 have rest:∀ (n:Nat) (h':Heap) (tk:Nat) (ks:List Str),n=ns.length->(∀ b o,s1.heap.get? b=some o->h'.get? b=some o)->SetS X.w (z5W X.w) h' s1.heap.objs.size ks->(∀ x,x∈ks↔∃ j,j < n/\ns.getD j Str.empty=x) ->
  wpAny (model X.prog X.w) X.A (spliced []) (fun vs s₂=>wpAny (model X.prog X.w) X.A (call (.builtin "sorted") (Value.ref s1.heap.objs.size :: vs)) (EP X pins σ Q) X.xe s₂) X.xe { s1 with heap:=h',toks:=tk }:=fun n h' tk ks en kp hS hm=>by
  refine Calls.spliced_nil ?_
  have I2:=I1.kept (h':=h') (t':=tk) kp
  have mem:∀ x,x∈ks↔x∈ns:=fun x=>by
   rw[hm x,List.mem_iff_getElem]
   constructor
   · rintro⟨j,h1,h2⟩
     have hj:j < ns.length:=by omega
     exact⟨j,hj,by rw[<- h2];simp[List.getD,hj]⟩
   · rintro⟨j,hj,h2⟩
     exact⟨j,by omega,by rw[<- h2];simp[List.getD,hj]⟩
  have nd:ks.Nodup:=by obtain⟨_,_,_,_,_,_,_,_,z,_⟩:=hS;exact z
  exact y0s hc I2 hS (few ks nd fun x hx=>(mem x).mp hx) fun l ss hl pp pw=>k l ss hl (fun x=>pp.mem_iff.trans (mem x)) pw
 rcases sq with sq | sq
 · obtain⟨its,rv,pl,lz⟩:=I1.list sq
   have vl:=rv.length
   rw[jA]at vl
   refine y1o (y3K a its.toArray) hh pl.isList (fun i=>ns.getD i Str.empty) (z7e rv) (by rw[jI];unfold scanBound;omega) fun h' tk ks kp hS hm=>?_
   exact rest _ h' tk ks (by rw[jI];exact vl.symm) kp hS hm
 · obtain⟨its,rv,pl,lz⟩:=I1.tuple sq
   have vl:=rv.length
   rw[jA]at vl
   refine y1o (y1q a its.toArray) hh pl (fun i=>ns.getD i Str.empty) (z7e rv) (by rw[jI];unfold scanBound;omega) fun h' tk ks kp hS hm=>?_
   exact rest _ h' tk ks (by rw[jI];exact vl.symm) kp hS hm
end
end L2
namespace L2
open PySem PySem.Spec PyProof.Rows
section
variable {X:Cx}
theorem y6o:OpR X (binaryOp .Add) (fun x y H Q=>∃ (l b:Addr) (xs zs:List V),x = .ref l/\y = .ref b/\Rd H l (.lst xs)/\Rd H b (.lst zs)/\xs.length + zs.length<=sizeLine/\∀ p,H p=none->Q (.ref p) (upd H p (.lst (xs ++ zs)))):=by
 intro pins s σ H x y v u Q I rx ry h
 obtain⟨l,b,xs,zs,rfl,rfl,hH,hB,hz,q⟩:=h
 cases rx
 cases ry
 obtain⟨z,its,n,r,e⟩:=hH.ok I.hok
 obtain⟨z2,its2,n2,r2,e2⟩:=hB.ok I.hok
 have hl:=r.length
 have hl2:=r2.length
 refine PySem.P.add_list e e2 ?_ (by rw[jI,jI];omega)
 have ea:its.toArray ++ its2.toArray=(its ++ its2).toArray:=by simp
 rw[ea]
 exact⟨.ref _,_,I.lnew (t':=s.toks) (r.append r2) (by rw[jG];omega),rfl,q _ I.fresh⟩
theorem z6g{H:Hp}{a:Addr}{xs:List V}(h:SqL [] H a xs):Rd H a (.lst xs):=h.elim id fun⟨_,_,_,z,_⟩=>nomatch z
end
end L2
namespace L2
open PySem PySem.W PySem.Spec PyProof.Rows
section
variable {prog:Program}{w:World}{A:Around}{E:Value->Shared->Prop}{s:Shared}
end
section
variable {X:Cx}
end
section
variable {X:Cx}{pins:List (Addr×Obj)}{σ:St}{H:Hp}{s:Shared}{a:Addr}{kvs:List (Key×V)}{k:Key}{u:Value}{A:Around}{E:Value->Shared->Prop}
end
theorem y2t:typeLookup (.type "list") "keys" = pure none:=am_miss_of_fast (by kernel_rfl)
theorem y3g{prog:Program}{w:World}{A:Around}{E:Value->Shared->Prop}{s:Shared}{a:Addr}{o:Obj}{xs:Array Value}{k:Nat}{Q:Option Value->Shared->Prop}
 (hx:s.heap.get? a=some o) (hc:o.cls = .type "list") (hdat:o.data = .seq xs k) (hd:o.dict=none) (hA:A.handled=none)
 (h:∀ h' tk,(∀ b o,s.heap.get? b=some o->h'.get? b=some o)->Q none { s with heap:=h',toks:=tk }) :
 wpAny (model prog w) A (getAttr? (.ref a) "keys") Q E s:=by
 obtain⟨c,dct,dat,sl⟩:=o
 simp only at hc hdat hd
 subst hc hdat hd
 obtain⟨hp,g,d,tk,os⟩:=s
 have hT:∀ tk',(⟨hp,g,d,tk',os⟩:Shared).TypeIs (.ref a) "list" := fun _=>⟨_,hx,rfl⟩
 have f1:=sub_AttributeError
 have f3:=F.slot_list_getattribute.lookup
 have f4:=F.slot_list_getattribute.bind (.ref a)
 have f5:=am_list_getattr_none
 unfold getAttr? getAttrBy? getAttrBy
 repeat (any_goals (first | assumption | exact hT _ | ((with_reducible show wpAny _ _ (call (Value.builtin "list.__getattribute__") _ _) _ _ _);refine call_meets F.slot_list_getattribute (hT _) am_entry_list_getattribute (F.args_list_getattribute_2 _ _) (meets_getattribute_miss_list a xs k sl "keys" _ y2t (by decide) (by rw[sizeLine_eq];decide)) ⟨hx,hA,fun h' tk' e hx'=>?_⟩) | wp_step))
 obtain⟨t',u',he⟩:=hx'.there
 show wpAny _ _ (getattributeRaised _ _ _ _ _ _ _) _ _ _
 unfold getattributeRaised
 repeat (any_goals (first | assumption | wp_step))
 exact h _ _ hx'.keeps
theorem z2k:entryFor table "dict.update.loop" = some Builtin.«dict.update.loop»:=entryFor_of_fast (by kernel_rfl)
theorem z0V:plainId "dict.update.loop" = true:=by decide +kernel
section
variable {X:Cx}{pins:List (Addr×Obj)}{σ:St}{H:Hp}{s:Shared}
end
section
variable {X:Cx}{o e f:Expr}{apos cpos:Pos}{td ty tx:TE}
end
end L2
namespace PySem
section
variable {prog:Program}{w:World}{K:Type} [DecidableEq K] {knd:HeapKind prog w K}{A:Around}{E:Value->Shared->Prop}{s:Shared}
theorem z4G{d a:Addr}{xs:List (K×Addr×Value)}{k:K}{v:Value}{Q:Value->Shared->Prop}(hu:knd.room A)(hkey:knd.is s.heap k a)(hm:s.heap.DictOfH knd d xs)
 (h1:∀ p,atKey xs k=some p->Q p.2 { s with toks:=s.toks + knd.draws k })
 (h2:atKey xs k=none->∀ h',h'.DictOfH knd d (storedH xs k a v)->Heap.SameBut d s.heap h'->Q v { s with heap:=h',toks:=s.toks + knd.draws k })
 (hsz:xs.length<=sizeLine):wpAny (model prog w) A (dictSetDefault d (.ref a) v) Q E s:=by
 obtain⟨o,es,ep,ho,hc,hd,he,his,hn⟩:=hm
 unfold dictSetDefault
 try with_reducible refine wpAny_holding ?_
 refine wpAny_bind (knd.pyHash hu hkey ?_)
 refine wpAny_bind (wpAny_dictFind_heap (s:={ s with toks:=s.toks + knd.draws k }) hu hkey ho hd he his hn ?_ ?_)
 · intro hno
   have hnot:k∉xs.map (·.1):=not_mem_keys_of_get hno
   refine wpAny_bind (wpAny_rule (wpAny_bind (wpAny_updateDictKeys (hz:=by have e:=size_of_entries he;omega) (s:={ s with toks:=s.toks + knd.draws k }) ho hd (wpAny_pure (h2 (atKey_none_of_get hno) _ ⟨_,_,ep + 1,jm _ ho (Obj.isFreed_of_dict (Obj.data_mapDictKeys hd _)),
    hc.mapDictKeys _,Obj.data_mapDictKeys hd _,?_,?_,?_⟩ (Heap.SameBut.update ..))))))
   · rw[storedH_new (atKey_none_of_get hno)]
     simp[he,entryOfKey]
   · rw[storedH_new (atKey_none_of_get hno)]
     intro x hx
     rcases jL.mp hx with hx | hx
     · exact knd.keeps (his x hx) ho hd (Heap.SameBut.update ..)
     · simp only[jM]at hx
       subst hx
       exact knd.keeps hkey ho hd (Heap.SameBut.update ..)
   · rw[storedH_new (atKey_none_of_get hno)]
     rw[jT,kY]
     refine⟨hn,by simp,?_⟩
     intro x hx y hy
     simp only[jV,qE,jM]at hy
     subst hy
     exact fun e=>hnot (e ▸ hx)
 · intro j p hj
   refine wpAny_bind (wpAny_dictEntries (s:={ s with toks:=s.toks + knd.draws k }) ho hd ?_)
   rw[entry_at he j,hj]
   exact wpAny_bind (wpAny_rule (wpAny_pure (h1 p (atKey_of_get hn hj))))
theorem z3S(knd:HeapKind prog w K)(d a:Addr)(hd:(d == sysModules)=false)(dflt:Value) :
 MeetsIn prog w (Builtin.«dict.setdefault» ⟨[.ref d,.ref a,dflt],[]⟩) (fun A R s=>knd.room A.in1/\∃ k xs,knd.is s.heap k a/\s.heap.DictOfH knd d xs/\xs.length<=sizeLine /\
  (∀ p,atKey xs k=some p->R (.ok (.ret p.2)) { s with toks:=s.toks + knd.draws k }) /\
  (atKey xs k=none->∀ h',h'.DictOfH knd d (storedH xs k a dflt)->Heap.SameBut d s.heap h'->R (.ok (.ret dflt)) { s with heap:=h',toks:=s.toks + knd.draws k })) :=
 .of_wp fun A R s ⟨hu,k,xs,hkey,hm,hz,h1,h2⟩=>by
  unfold Builtin.«dict.setdefault»
  refine wpAny_bind ?_
  unfold Builtin.Dict.keyAndDefault
  refine wpAny_bind (wpAny_notOrdered_dict hm.typeIs ?_)
  show wpAny _ _ (pure (d,Value.ref a,some dflt)) _ _ s
  refine wpAny_pure ?_
  show wpAny _ _ (if (d == sysModules)=true then _ else (dictSetDefault d (.ref a) dflt >>= _)) _ _ s
  rw[if_neg (by rw[hd];exact jR)]
  exact wpAny_bind (z4G hu hkey hm (fun p hp=>wpAny_pure ⟨p.2,rfl,h1 p hp⟩) (fun hn h' hm' hs'=>wpAny_pure ⟨dflt,rfl,h2 hn h' hm' hs'⟩) hz)
end
end PySem
namespace L2
open PySem PySem.W PySem.Spec PyProof.Rows
section
variable {X:Cx}{pins:List (Addr×Obj)}{σ:St}{H:Hp}{s:Shared}{a b:Addr}{kvs:List (List Key×V)}{k:List Key}{A:Around}{E:Value->Shared->Prop}
theorem y6X{z:V}{r:Value}{Q:Value->Shared->Prop}(hu:A.units + 1 < cLine)(I:Inv X pins σ H s)(e:H a=some (.dT kvs))(eb:H b=some (.tup (k.map kV)))(rz:RelV z r)(l:kvs.length < sizeLine)
 (h1:∀ v w' s',valV kvs k=some v->Inv X pins σ H s'->RelV v w'->Q w' s') (h2:valV kvs k=none->∀ s',Inv X pins σ (upd H a (.dT (z2u kvs k z))) s'->Q r s') :
 wpAny (model X.prog X.w) A (call (.builtin "dict.setdefault") [.ref a,.ref b,r]) Q E s:=by
 obtain⟨z1,hd,xs,rel,dd⟩:=y8F I.hok e
 have hz:xs.length<=sizeLine:=by rw[<- Paired.length rel];exact z1
 refine call_meetsIn PySem.F.slot_dict_setdefault dd.typeIs PySem.F.entry_dict_setdefault (PySem.F.args_dict_setdefault_3 _ _ _) (z3S (tupleKind (z0F X.prog X.w)) a b hd r) ⟨tupleKind_room_in1 hu,k,xs,z3A I.hok eb,dd,hz,fun p hp=>?_,fun hn h' dd' hs=>?_⟩
 · cases q:valV kvs k with
   | none =>
    have:=RelO.none_of (o:=(atKey xs k).map (·.2)) (by rw[<- q];exact rel.val k)
    rw[hp]at this;cases this
   | some v' =>
    obtain⟨w',hw,rw'⟩:=RelO.some_of (v:=v') (o:=(atKey xs k).map (·.2)) (by rw[<- q];exact rel.val k)
    rw[hp]at hw;cases hw
    exact h1 v' _ _ q (I.tok _) rw'
 · have q:valV kvs k=none:=by
    cases q:valV kvs k with
    | none=>rfl
    | some v' =>
     obtain⟨w',hw,rw'⟩:=RelO.some_of (v:=v') (o:=(atKey xs k).map (·.2)) (by rw[<- q];exact rel.val k)
     rw[hn]at hw;cases hw
   have hl:(z2u kvs k z).length<=sizeLine:=by have:=z1O kvs k z;omega
   refine h2 q _ ?_
   obtain⟨q,es,ep,hq,h2,h3,h4,_,h5⟩:=dd'
   refine z8N I (by rw[e];exact True.intro) hs ⟨q,hq⟩ ⟨hl,hd,_,(rel.put k eb rz).keeps fun c ys ec=>?_,q,es,ep,hq,h2,h3,h4,h5⟩
   rw[z0k (y4f ec e (fun z=>nomatch z))]
   exact ec
end
def y5M(td ty tx:TE):TE:=fun σ H Q=>td σ H fun x H1=>∃ a,x = .ref a/\y9L H1 a/\ty σ H1 fun y H2=>tx σ H2 fun z H3=>∃ kvs k b,H3 a=some (.dT kvs)/\y = .ref b/\H3 b=some (.tup (k.map kV))/\kvs.length < sizeLine /\
 (∀ v,valV kvs k=some v->Q v H3)/\(valV kvs k=none->Q z (upd H3 a (.dT (z2u kvs k z))))
section
variable {X:Cx}{o e f:Expr}{apos cpos:Pos}{td ty tx:TE}
theorem y1Z(hu:X.A.units + 1 < cLine)(ho:PE X o td)(he:PE X e ty)(hf:PE X f tx)(m:M2 X o "setdefault" apos e f cpos):PE X (.Call (.Attribute o "setdefault" apos) [e,f] [] cpos) (y5M td ty tx):=by
 intro pins s σ H Q I h
 refine wpAny_Call_method m.base m.few m.line PySem.F.plainAttrs_dict PySem.F.slot_dict_setdefault PySem.F.type_dict_setdefault (thn (ho pins s σ H _ I h) fun u s1 ⟨x,H1,I1,rx,a,ex,d,q1⟩=>?_)
 subst ex
 obtain rfl:u=Value.ref a:=rx
 obtain⟨t1,t2,_⟩:=y2H I1 d
 refine⟨t1,t2,?_⟩
 rw[m.trees]
 refine Calls.callWith_builtin rfl (Calls.evalArgs_plain (Calls.spliced_cons (thn (he pins s1 σ H1 _ I1 q1) fun iv s2 ⟨y,H2,I2,ry,q2⟩ =>
  Calls.spliced_cons (thn (hf pins s2 σ H2 _ I2 q2) fun fv s3 ⟨z,H3,I3,rz,kvs,k,b,ea,ey,eb,lz,q3,q4⟩=>Calls.spliced_nil ?_))))
 subst ey
 cases (show iv=Value.ref b from ry)
 exact y6X hu I3 ea eb rz lz (fun v w' s' l I4 rw'=>⟨v,H3,I4,rw',q3 v l⟩) fun l s' I4=>⟨z,_,I4,rz,q4 l⟩
end
section
variable {X:Cx}{pins:List (Addr×Obj)}{σ:St}{H:Hp}{s:Shared}{a:Addr}{kvs:List (Key×V)}
end
section
variable {X:Cx}{tg:Expr}
end
section
open PySem.SeqAt
open PySem.AutoSeq1 (wpAny_loadPart')
open PySem.MeetsSeq PySem.MeetsSeq2 PySem.MeetsSeq3
end
section
variable {prog:Program}{w:World}{A:Around}{R:Result->Shared->Prop}{I:Addr}{fp wr:List Addr}{n:Nat}{P:Nat->Value->Prop}{St:Nat->Heap->Prop}{s0:Shared}
end
section
variable {X:Cx}
end
section
variable {X:Cx}{pins:List (Addr×Obj)}{σ:St}{H:Hp}{s:Shared}
end
section
variable {X:Cx}
end
section
variable {X:Cx}{pins:List (Addr×Obj)}{σ:St}{H:Hp}{s:Shared}
end
end L2
namespace L2
open PySem PySem.Spec PyProof.Rows
section
variable {X:Cx}
end
def MTE(t:TE):Prop:=∀ σ H (Q Q':VK),(∀ b H1,Q b H1->Q' b H1)->t σ H Q->t σ H Q'
def MR2(r:R2):Prop:=∀ x y H (Q Q':VK),(∀ b H1,Q b H1->Q' b H1)->r x y H Q->r x y H Q'
theorem x0e{r:R2}{a b:TE}(h:MR2 r)(h1:MTE a)(h2:MTE b):MTE (tOp r a b):=fun σ H Q Q' hq q=>h1 σ H _ _ (fun x H1 z=>h2 σ H1 _ _ (fun y H2 z=>h x y H2 _ _ hq z) z) q
theorem y4m(i:Nat):MTE (y0Z i):=fun σ H Q Q' hq q=>let ⟨v,e,z⟩:=q;⟨v,e,hq _ _ z⟩
theorem y9x{K:PySem.W.Frag}:MR2 (y9m K):=fun x y H Q Q' hq q=>let ⟨a,b,c,d,e,f,g,h,z⟩:=q;⟨a,b,c,d,e,f,g,h,hq _ _ z⟩
theorem y9v{K:PySem.W.Frag}:MR2 (y9k K):=fun x y H Q Q' hq q=>let ⟨a,b,c,d,e,f,g,h,z⟩:=q;⟨a,b,c,d,e,f,g,h,hq _ _ z⟩
theorem y9w:MR2 y9l:=fun x y H Q Q' hq q=>let ⟨a,b,c,e,f,g,h,z⟩:=q;⟨a,b,c,e,f,g,h,hq _ _ z⟩
theorem x0f{K:PySem.W.Frag}:MR2 (rIx K):=fun x y H Q Q' hq q=>q.elim (fun q => .inl (y9x x y H Q Q' hq q)) fun q=>q.elim (fun q => .inr (.inl (y9v x y H Q Q' hq q))) fun q => .inr (.inr (y9w x y H Q Q' hq q))
end L2
namespace PySem
section
variable {prog:Program}{w:World}{A:Around}{E:Value->Shared->Prop}{R:Result->Shared->Prop}{s:Shared}
end
end PySem
namespace L2
open PySem PySem.Spec PyProof.Rows
section
variable {X:Cx}
end
section
variable {X:Cx}
end
section
variable {X:Cx}
end
section
variable {X:Cx}
end
end L2
namespace L2
open PySem PySem.W PySem.Spec PyProof.Rows
section
variable {X:Cx}
end
end L2
namespace L2
open PySem PySem.Spec PyProof.Rows
section
variable {X:Cx}{a b c d e f:Expr}{ta tb tc td te tf:TE}{pos:Pos}
end
section
variable {X:Cx}{pins:List (Addr×Obj)}{σ:St}{H:Hp}{s:Shared}
end
section
variable {X:Cx}
end
section
variable {prog:Program}{w:World}{A:Around}{E:Value->Shared->Prop}{s:Shared}
def laid(h:Heap)(os:List Obj):Heap:=os.foldl Heap.push h
end
section
variable {X:Cx}{pins:List (Addr×Obj)}{σ:St}{H:Hp}{s:Shared}
end
end L2
namespace L2
open PySem PySem.W PySem.Spec PyProof.Rows
section
variable {prog:Program}{w:World}{A:Around}{E:Value->Shared->Prop}{s:Shared}{z TI TO i1 i2 t1 t2:Addr}{xs ys:Array Value}{n:Nat}
end
section
variable {X:Cx}{pins:List (Addr×Obj)}{σ:St}{H:Hp}{s:Shared}
end
end L2
namespace L2
open PySem PySem.Spec PyProof.Rows
section
variable {X:Cx}
end
section
variable {X:Cx}{k j1 j2:Nat}{ps1 ps2:List Str}{sp1 sp2:Sp}{x n1 n2:Str}{p pos:Pos}{e:Expr}{es:List Expr}{t:TA}{tn:TE}
end
section
variable {X:Cx}
end
section
variable {X:Cx}
end
section
variable {X:Cx}
end
section
variable {P:Program}{w:World}{H H':Hp}{h h1 h2 B:Heap}{a:Addr}{o:HO}
theorem ObjOk.has(x:ObjOk P w H h a o):∃ ob,h.get? a=some ob:=by
 cases o with
 | lst xs=>obtain⟨_,_,_,_,e⟩:=x;exact⟨_,e⟩
 | tup xs=>obtain⟨_,_,_,ob,e,_⟩:=x;exact⟨ob,e⟩
 | dK kvs=>obtain⟨_,_,_,_,ob,_,_,e,_⟩:=x;exact⟨ob,e⟩
 | dT kvs=>obtain⟨_,_,_,_,ob,_,_,e,_⟩:=x;exact⟨ob,e⟩
 | set S n=>obtain⟨ob,_,_,_,e,_⟩:=x;exact⟨ob,e⟩
 | ins C dx fs=>obtain⟨_,_,_,e,_⟩:=x;exact⟨_,e⟩
 | own y=>exact x
 | xd fs=>obtain⟨_,⟨ob,_,_,e,_⟩,_⟩:=x;exact⟨ob,e⟩
 | rng lo hi=>obtain⟨_,_,_,e⟩:=x;exact⟨_,e⟩
 | frz ob u=>obtain⟨e,_⟩:=x;exact⟨ob,e⟩
 | tbl ps=>exact⟨_,(show h.get? a=some _ from x)⟩
 | met f y=>exact⟨_,(show h.get? a=some _ from x)⟩
 | ext φ=>obtain⟨_,e,_⟩:=x;exact e
theorem HOk.fly(x:HOk P w H h)(hB:∀ b ob,h.get? b=some ob->(H b).isSome=true->B.get? b=some ob)(k:B.StaysIn h2):HOk P w H h2:=fun a o e =>
 (x a o e).stay (fun b u hb q=>k b u (hB b u q (by rcases hb with rfl | hb <;> first | (rw[e];rfl) | (rw[hb];rfl)))) (fun _ q=>q) fun _ _ q=>q
theorem Un.fly{fs:List Addr}(u:Un fs [] H H' h h1)(hB:∀ b ob,h1.get? b=some ob->((H' b).isSome=true\/(h.get? b).isSome=true)->b∉fs->B.get? b=some ob)(k:B.StaysIn h2)
 (hf:∀ b∈fs,∀ ob,h1.get? b=some ob->∃ sl,h2.get? b=some { ob with slots:=sl }):Un fs [] H H' h h2 where
 keep:=fun b ob e n hb hx=>k b ob (hB b ob (u.keep b ob e n hb hx) (.inr (by rw[e];rfl)) hb)
 slot:=fun b ob e n hb hx=>by
  obtain⟨sl,e1⟩:=u.slot b ob e n hb hx
  obtain⟨sl',e2⟩:=hf b hb _ e1
  exact⟨sl',e2⟩
 free:=u.free
 there:=fun b ob e hx=>by
  obtain⟨o',e1⟩:=u.there b ob e hx
  by_cases hb:b∈fs
  · obtain⟨sl,e2⟩:=hf b hb _ e1
    exact⟨_,e2⟩
  · exact⟨o',k b o' (hB b o' e1 (.inr (by rw[e];rfl)) hb)⟩
 tups:=u.tups
 frzs:=u.frzs
 tbls:=u.tbls
end
section
variable {X:Cx}{pins:List (Addr×Obj)}{σ:St}{H:Hp}{s:Shared}
theorem Inv.off(I:Inv X pins σ H s){b:Addr}(h:(H b).isSome=true\/(X.s₀.heap.get? b).isSome=true)(hb:b∉X.fs):b∉frs X.stack:=fun z=>by
 rcases jQ.mp (I.stkSub b z) with q | q
 · rcases h with h | h
   · rw[q,I.free]at h;cases h
   · obtain⟨ob,e⟩:=kC.mp h
     exact absurd (jJ e) (by rw[q];exact Nat.not_lt.mpr I.ok.above)
 · exact hb q
theorem Inv.noFr(I:Inv X pins σ H s){b:Addr}(h:(H b).isSome=true):b∉frs X.stack:=fun z=>by
 rw[I.stkFree b z]at h;cases h
theorem Inv.old(I:Inv X pins σ H s)(hx:X.ex=[]){b:Addr}(h:(H b).isSome=true\/(X.s₀.heap.get? b).isSome=true):∃ ob,s.heap.get? b=some ob:=by
 rcases h with h | h
 · obtain⟨u,e⟩:=kC.mp h
   exact (I.hok b u e).has
 · obtain⟨ob,e⟩:=kC.mp h
   exact I.base.there b ob e (by rw[hx];exact fun z=>nomatch z)
end
section
variable {P:Program}{w:World}{K:PySem.W.Frag}{mg:Str->Option Value}{base:Heap}{N:List Str}{qual:Str}{scope:Scope}{f:Addr}{cd:Value}{A:Around}{outer:List Env}{s0:Shared}{H0:Hp}{E:XK}
end
abbrev vErr:List Value:=[.type "ValueError",.type "Exception",.type "BaseException",.type "object"]
structure NmC (mg:Str->Option Value) (x:Str) (C:Addr):Prop where
 mg:mg x=some (.ref C)
section
variable {X:Cx}{x:Str}{C:Addr}{E:XK}{np cpos pos:Pos}
end
section
variable {P:Program}{w:World}{K:PySem.W.Frag}{mg:Str->Option Value}{base:Heap}
end
section
variable {X:Cx}{k j:Nat}{ps:List Str}{sp:Sp}{x:Str}{p pos:Pos}{e:Expr}{es:List Expr}{t:TA}{E:XK}
end
section
variable {X:Cx}{pins:List (Addr×Obj)}{σ:St}{H:Hp}{s:Shared}{e:Addr}
end
section
variable {X:Cx}{pins:List (Addr×Obj)}{σ:St}{H1:Hp}{s1 s':Shared}{E:XK}{y:Str}{CH:Addr}{np hpos:Pos}{b0:Stmt}{suite:List Stmt}{rest:List ExceptHandler}{D:Ends}{ts:TS}
end
section
variable {X:Cx}{k j:Nat}{ps:List Str}{sp:Sp}{x y c:Str}{p pos py apos cp hpos tpos:Pos}{e:Expr}{es:List Expr}{t:TA}{CH:Addr}{b0:Stmt}{suite:List Stmt}{ts:TS}{i:Nat}
end
section
variable {X:Cx}{pins:List (Addr×Obj)}{σ:St}{H:Hp}{s:Shared}
theorem Inv.track{e:Addr}{o:HO}(I:Inv X pins σ H s)(hn:H e=none)(h0:X.s₀.heap.get? e=none)(hL:e≠X.env.locals)(hc:∀ x c,X.env.cells.lookup x=some c->c≠e)(hp:∀ p∈X.pn ++ pins,p.1≠e)
 (new:ObjOk X.prog X.w (upd H e o) s.heap e o):Inv X pins σ (upd H e o) s:=by
 refine⟨I.ok,I.os,I.bare,⟨I.base.keep,I.base.slot,fun b ob q n hx=>?_,I.base.there,fun b xs q=>?_,fun b ob u q=>?_,fun b ps q=>?_⟩,I.loc,I.cell,?_,fun x c q=>?_,fun p q=>?_,fun b u q=>?_,I.len⟩
 · rw[z0k (fun z=>by rw[z,h0]at q;cases q)];exact I.base.free b ob q n hx
 · have z:=I.base.tups b xs q
   rw[z0k (z0C z hn)];exact z
 · have z:=I.base.frzs b ob u q
   rw[z0k (z0C z hn)];exact z
 · obtain⟨more,z⟩:=I.base.tbls b ps q
   exact⟨more,by rw[z0k (z0C z hn)];exact z⟩
 · rw[z0k (Ne.symm hL)];exact I.free
 · rw[z0k (hc x c q)];exact I.freeC x c q
 · obtain⟨z1,z2,z3,z4,z5⟩:=I.pin p q
   exact⟨z1,by rw[z0k (hp p q)];exact z2,z3,z4,z5⟩
 · by_cases hb:b=e
   · subst hb;rw[z0a]at q;cases q;exact new
   · rw[z0k hb]at q
     exact (I.hok b u q).stay (fun _ _ _ z=>z) (fun c z=>by rw[z0k (z0C z hn)];exact z) fun c xs z=>by rw[z0k (z0C z hn)];exact z
end
section
variable {X:Cx}{pins:List (Addr×Obj)}{σ:St}{H1:Hp}{s1 s':Shared}{E:XK}{y n:Str}{CH:Addr}{np hpos:Pos}{b0:Stmt}{suite:List Stmt}{rest:List ExceptHandler}{D:Ends}{ts:TS}{i:Nat}
end
section
variable {X:Cx}{k j:Nat}{ps:List Str}{sp:Sp}{x n c:Str}{p pos apos cp hpos tpos:Pos}{e:Expr}{es:List Expr}{t:TA}{CH:Addr}{b0:Stmt}{suite:List Stmt}{ts:TS}{i:Nat}
end
structure ExcIs (K:PySem.W.Frag) (C:Addr):Prop where
 cl:PySem.W.hasDictIn K C=true
 ga:PySem.W.findIn K (.ref C) "__getattribute__" = some (some (.builtin "BaseException.__getattribute__"))
 gt:PySem.W.findIn K (.ref C) "__getattr__" = some none
 cc:PySem.W.findIn K (.ref C) "__class__" = some (some (.builtin "object.__class__"))
 mo:PySem.W.mroIn K C (.type "object")=some true
 mb:PySem.W.mroIn K C (.type "BaseException")=some true
section
variable {prog:Program}{w:World}{A:Around}{E:Value->Shared->Prop}{h:Heap}{g:Array GenState}{d:Drawn}{t:Nat}{os:OsState}{K:PySem.W.Frag}{C e:Addr}{ob:Obj}
end
section
variable {X:Cx}
end
open Builtin.ObjectAttr
def tailV:List Value->Bool
 | .ref _ :: r=>tailV r
 | l=>l == vErr
theorem z8r(self:Value):refuseLoop self "__setattr__" vErr=pure ():=by kernel_rfl
theorem y3C:∀ {l:List Value},tailV l=true->(∃ c r,l = .ref c :: r/\tailV r=true)\/l=vErr
 | [],h=>by cases h
 | x :: r,h=>by
  cases x <;> first | exact .inl ⟨_,_,rfl,h⟩ | exact .inr (eq_of_beq h)
theorem z4O(self:Value):∀ (l:List Value),tailV l=true->refuseLoop self "__setattr__" l=pure ()
 | [],h=>by cases h
 | x :: r,h=>by
  rcases y3C h with ⟨c,r',e,hr⟩ | e
  · cases e
    rw[refuseLoop_ref]
    exact z4O self r hr
  · rw[e];exact z8r self
structure ExcSt (K:PySem.W.Frag) (C:Addr):Prop extends ExcIs K C where
 sa:PySem.W.findIn K (.ref C) "__setattr__" = some (some (.builtin "object.__setattr__"))
 ov:(PySem.W.clsIn K C).any (fun cd=>tailV cd.mro)=true
section
variable {prog:Program}{w:World}{A:Around}{E:Value->Shared->Prop}{s:Shared}{K:PySem.W.Frag}{C e:Addr}{name:Str}{v:Value}{fv:Array Value}
theorem y6R{Q:Unit->Shared->Prop}(X:K.In s.heap)(c:ExcSt K C)(n:PySem.W.findIn K (.ref C) name=some none)(he:s.heap.get? e=some ⟨.ref C,none,.fields fv,#[]⟩)
 (h:∀ h',(∀ b o,b≠e->s.heap.get? b=some o->h'.get? b=some o)->h'.get? e=some ⟨.ref C,some s.heap.objs.size,.fields fv,#[]⟩->h'.Ns1 s.heap.objs.size (fun y=>if y=name then some v else none)->Q () { s with heap:=h',toks:=s.toks + 2 }) :
 wpAny (model prog w) A (setAttr (.ref e) name v) Q E s:=by
 have J:PySem.W.InstAt s.heap e ⟨.ref C,none,.fields fv,#[]⟩ C none:=⟨he,rfl,rfl,trivial⟩
 have SF:=PySem.F.store_object
 obtain⟨cd,hc,ho⟩:=PySem.W.any_some c.ov
 obtain⟨cd',hc',hd⟩:=PySem.W.any_some c.cl
 obtain rfl:cd=cd':=Option.some.inj (hc.symm.trans hc')
 have isO:PySem.W.Looks (model prog w) s.heap (isInstance (.ref e) (.type "object")) true:=J.type.andThen (PySem.W.looks_mroIn X c.mo)
 have mr:PySem.W.Looks (model prog w) s.heap (mroOf (.ref C)) cd.mro:=(PySem.W.looks_clsIn X hc).andThen .now
 obtain⟨s1,es1⟩:∃ s1:Shared,s1={ s with toks:=s.toks + 1 }:=⟨_,rfl⟩
 have eh:s1.heap=s.heap:=by rw[es1]
 refine PySem.W.set_plain X J c.sa (codeAny_call_builtin SF.slot.plain SF.entry ?_)
 rw[<- es1]
 have X1:K.In s1.heap:=by rw[eh];exact X
 have he1:s1.heap.get? e=some ⟨.ref C,none,.fields fv,#[]⟩:=by rw[eh];exact he
 have J1:PySem.W.InstAt s1.heap e ⟨.ref C,none,.fields fv,#[]⟩ C none:=by rw[eh];exact J
 have isO1:PySem.W.Looks (model prog w) s1.heap (isInstance (.ref e) (.type "object")) true:=by rw[eh];exact isO
 have mr1:PySem.W.Looks (model prog w) s1.heap (mroOf (.ref C)) cd.mro:=by rw[eh];exact mr
 refine @PySem.W.check_slot (model prog w) _ _ s1 "object.__setattr__" "object" "__setattr__" (.ref e) [.str name s.toks,v] [] _ SF.kind SF.split isO1 (SF.args _ _ _) ?_
 rw[PySem.W.osa_eq,refuse_eq]
 refine wpAny_bind (wpAny_bind (J1.type.here ?_))
 refine wpAny_bind (mr1.here ?_)
 rw[z4O _ _ ho]
 refine wpAny_pure (wpAny_bind (J1.type.here ?_))
 refine wpAny_bind ((PySem.W.looks_findIn X1 n).here ?_)
 refine wpAny_bind (wpAny_pure ?_)
 show wpAny _ _ (storeInOwnDict (.ref e) (.ref C) (.str name s.toks) name v false) _ _ _
 unfold storeInOwnDict ownDictForStores instanceDict
 refine wpAny_bind (wpAny_pure ?_)
 rw[if_neg (show ¬ ((Value.ref C == Value.type "module")=true) from by simp)]
 dsimp only
 refine wpAny_bind (wpAny_bind (wpAny_loadPart he1 ?_))
 dsimp only
 refine wpAny_bind ((PySem.W.looks_clsIn X1 hc).here ?_)
 rw[hd,if_neg (by decide),if_neg (show ¬ ((!true || !typeHasDict (Value.ref C))=true) from by simp[typeHasDict])]
 refine wpAny_bind (wpAny_alloc ?_)
 have he2:=jB (h:=s1.heap) { cls := .type "dict",data := .dict #[] } he1
 have hD:=jO s1.heap (o:={ cls := .type "dict",data := .dict #[] }) rfl
 have hne:s1.heap.objs.size≠e:=kB (jJ he1)
 refine wpAny_bind (wpAny_update he2 ?_)
 refine wpAny_pure ?_
 dsimp only
 obtain⟨h2,eh2⟩:∃ h2,h2=(s1.heap.push { cls := .type "dict",data := .dict #[] }).update e fun o=>{ cls:=o.cls,dict:=some s1.heap.objs.size,data:=o.data,slots:=o.slots }:=⟨_,rfl⟩
 have heE:h2.get? e=some ⟨.ref C,some s1.heap.objs.size,.fields fv,#[]⟩:=by rw[eh2];exact jm _ he2 rfl
 have hDD:h2.get? s1.heap.objs.size=some { cls := .type "dict",data := .dict #[] }:=by rw[eh2,jZ _ _ (Ne.symm hne)];exact hD
 have hkeep:∀ b o,b≠e->s1.heap.get? b=some o->h2.get? b=some o:=fun b o hb q=>by rw[eh2,jZ _ _ (Ne.symm hb)];exact jB _ q
 rw[<- eh2]
 have nsE:h2.Ns s1.heap.objs.size (fun _=>none):=⟨_,#[],_,hDD,rfl,(fun y hy=>absurd hy (by simp)),fun _=>rfl⟩
 have wi:PySem.Within (fun _:Str=>(none:Option Value)) []:=fun y hy=>absurd rfl hy
 unfold storeInDict
 refine wpAny_bind (wpAny_pure (wpAny_bind ?_))
 refine wpAny_nsSet1 (s:={ heap:=h2,gens:=s1.gens,drawn:=s1.drawn,toks:=s1.toks,os:=s1.os }) (Heap.Ns1.of_empty nsE) fun h' hn hs=>?_
 obtain⟨oD,esD,epD,hoD,hdD,hcD⟩:=hn.count (PySem.Within.cons name v wi)
 refine wpAny_bind (wpAny_lookBehind hoD (by rw[hdD];exact pastItsLine_dict (jY hcD (by show 1<=sizeLine + 1;decide))) ?_)
 refine wpAny_pure ?_
 have fin:=h h' (fun b o hb q=>?_) ?_ ?_
 · rw[es1]
   exact fin
 · have q1:s1.heap.get? b=some o:=by rw[eh];exact q
   rw[hs.2 b (jU (jJ q1))]
   exact hkeep b o hb q1
 · rw[hs.2 e (Ne.symm hne),heE,eh]
 · rw[<- eh]
   exact hn
end
section
variable {prog:Program}{w:World}{A:Around}{E:Value->Shared->Prop}{h:Heap}{g:Array GenState}{d:Drawn}{t:Nat}{os:OsState}{K:PySem.W.Frag}{C e dx:Addr}{name:Str}{v:Value}{fv:Array Value}{ob:Obj}{mA:Str->Option Value}
end
section
variable {prog:Program}{w:World}{A:Around}{E:Value->Shared->Prop}{h:Heap}{g:Array GenState}{d:Drawn}{t:Nat}{os:OsState}
variable {nm qn:Str}{C Na fI:Addr}{bs bm:List Value}{hdc:Bool}{sn:List Str}{sub:List Value}{ab:Bool}{col:Option Bool}{dd:Option Addr}{k0 k1 k2 k3 k5:Option Value}{mN:Str->Option Value}{us:List Value}{oI:Obj}
abbrev y8R(us:List Value):Obj:={ cls := .type "tuple",data := .seq us.toArray }
abbrev y8g(C t:Addr):Obj:={ cls := .ref C,data := .fields #[.ref t,.none,.none,.none,.bool false,.none] }
theorem y8A{Q:Fin->Shared->Prop}(T:OwnTail h vErr bm)(hC:h.get? C=some (excClassObj nm qn C Na bs bm hdc sn sub ab col dd k0 k1 k2 k3 k5 "ValueError.__new__"))(hn:h.Ns Na mN)(hi:mN "__init__" = some (.ref fI))(hf:h.get? fI=some oI)(hfc:oI.cls = .type "function")(hu:us.length<=sizeLine)
 (hq:∀ h' e,Heap.MadeExcOf h h' e (.ref C) us->wpAny (model prog w) A (call (.ref fI) (.ref e :: us)) (fun r s'=>r = .none/\Q (.done (.ret (.ref e))) s') E ⟨h',g,d,t,os⟩) :
 wpAny (model prog w) A (Builtin.«type.__call__» ⟨.ref C :: us,[]⟩) Q E ⟨h,g,d,t,os⟩:=by
 have VE:=F.excBase_ValueError
 have hB:vErr.contains (Value.type "ValueError")=true:=by decide +kernel
 repeat (first | (with_reducible refine wpAny_loadPart_at hC ?_) | (with_reducible refine wpAny_madeBy_exc hC ?_) | wp_step)
 refine codeAny_call_builtin_code (Code.quiet_builtin _ VE.quiet) (wpAny_check_new_subU VE hB T hC (codeAny_exc_new_subU VE hB VE T hC ?_ hu))
 show wpAny _ _ _ _ _ _
 have kp:∀ b o,h.get? b=some o->((h.push (y8R us)).push (y8g C h.objs.size)).get? b=some o:=fun b o q=>jB _ (jB _ q)
 have eC:=kp _ _ hC
 have eF:=kp _ _ hf
 have eN:((h.push (y8R us)).push (y8g C h.objs.size)).Ns Na mN:=by
  obtain⟨o,es,ep,e1,r⟩:=hn
  exact⟨o,es,ep,kp _ _ e1,r⟩
 have eE:((h.push (y8R us)).push (y8g C h.objs.size)).get? (h.objs.size + 1)=some (y8g C h.objs.size):=by
  have:=jO (h.push (y8R us)) (o:=y8g C h.objs.size) rfl
  rwa [Heap.size_push]at this
 have cC:(Value.ref C :: bm).contains (.ref C)=true:=by simp
 have T1:=T.keeps kp
 unfold isInstance
 repeat (first | (with_reducible refine wpAny_loadPart_at eE ?_) | (with_reducible refine wpAny_isSubtype_exc eC ?_;rw[cC]) | wp_step)
 show wpAny _ _ (typeLookup (.ref C) _) _ _ _
 refine wpAny_typeLookup_tail eC eN T1 VE.mroIs VE.init.lookup ?_
 rw[hi]
 dsimp only
 refine wpAny_holding (wpAny_bind ?_)
 unfold bindSpecial
 refine wpAny_bind (wpAny_typeOf (T := "function") ⟨_,eF,hfc⟩ ?_)
 rw[if_pos (by decide)]
 refine wpAny_pure (wpAny_bind (wpAny_mono (hq _ (h.objs.size + 1) ⟨kp,Heap.get?_none_of_le (Nat.le_succ _),h.objs.size,eE,Heap.get?_none_of_le (jE _),jB _ (jO _ rfl)⟩) (fun r s' hr=>?_) fun _ _ z=>z))
 obtain⟨rfl,q⟩:=hr
 wp_walk
 exact q
theorem y4A{Q:Value->Shared->Prop}(T:OwnTail h vErr bm)(hC:h.get? C=some (excClassObj nm qn C Na bs bm hdc sn sub ab col dd k0 k1 k2 k3 k5 "ValueError.__new__"))(hn:h.Ns Na mN)(hi:mN "__init__" = some (.ref fI))(hf:h.get? fI=some oI)(hfc:oI.cls = .type "function")(hu:us.length<=sizeLine)
 (hq:∀ h' e,Heap.MadeExcOf h h' e (.ref C) us->wpAny (model prog w) (A.under (.builtin "type.__call__" ⟨.ref C :: us,[]⟩)) (call (.ref fI) (.ref e :: us)) (fun r s'=>r = .none/\Q (.ref e) s') E ⟨h',g,d,t,os⟩) :
 wpAny (model prog w) A (call (.ref C) us) Q E ⟨h,g,d,t,os⟩:=by
 have l1:=tc_lookup
 have l2:=tc_bind (.ref C)
 have ty:(⟨h,g,d,t,os⟩:Shared).TypeIs (.ref C) "type" := ⟨_,hC,rfl⟩
 refine wpAny_call (codeAny_of_tree ?_)
 show wpAny _ _ (callAny (.ref C) _) _ _ _
 repeat (any_goals (first | assumption | (with_reducible refine wpAny_loadPart_at hC ?_) | wp_step))
 refine And.intro rfl (codeAny_call_builtin_at (Code.quiet_builtin _ (by decide +kernel)) entry_typeCall (wpAny_check_type_call_sub hC (y8A T hC hn hi hf hfc hu fun h' e hm=>?_)))
 exact hq h' e hm
end
abbrev y6T(C:Addr)(od:Option Addr)(t:Addr):Obj:=⟨.ref C,od,.fields #[.ref t,.none,.none,.none,.bool false,.none],#[]⟩
def y1a(C e:Addr)(od:Option Addr)(t:Addr):HO := .ext fun h=>h.get? e=some (y6T C od t)
theorem y2P{P:Program}{w:World}{H:Hp}{h:Heap}{C e t:Addr}{od:Option Addr}(x:h.get? e=some (y6T C od t)):ObjOk P w H h e (y1a C e od t):=⟨x,⟨_,x⟩,fun _ _ q k=>k _ q⟩
section
variable {X:Cx}{pins:List (Addr×Obj)}{σ:St}{H:Hp}{s:Shared}{C e t dx:Addr}{od:Option Addr}
theorem y2Q(I:Inv X pins σ H s)(h:H e=some (y1a C e od t)):s.heap.get? e=some (y6T C od t):=(show ObjOk X.prog X.w H s.heap e (y1a C e od t) from I.hok e _ h).1
theorem Inv.fresh0(I:Inv X pins σ H s)(hx:X.ex=[])(h:s.heap.get? e=none):H e=none/\X.s₀.heap.get? e=none/\e≠X.env.locals/\(∀ x c,X.env.cells.lookup x=some c->c≠e)/\∀ p∈X.pn ++ pins,p.1≠e:=by
 refine⟨?_,?_,fun z=>?_,fun x c q z=>?_,fun p hp z=>?_⟩
 · cases q:H e with
   | none=>rfl
   | some u =>
    obtain⟨ob,z⟩:=(I.hok e u q).has
    rw[h]at z;cases z
 · cases q:X.s₀.heap.get? e with
   | none=>rfl
   | some o =>
    obtain⟨o2,z⟩:=I.base.there e o q (by rw[hx];exact fun z=>nomatch z)
    rw[h]at z;cases z
 · obtain⟨m,⟨ol,es,ep,hol,_⟩,_⟩:=I.loc
   rw[<- z,h]at hol;cases hol
 · obtain⟨v,oc,hoc,_⟩:=I.cell x c q
   rw[z,h]at hoc;cases hoc
 · have:=(I.pin p hp).1
   rw[z,h]at this;cases this
end
section
variable {X:Cx}{o value:Expr}{f:Str}{pos pos':Pos}{ta tv:TE}
def y9h(K:PySem.W.Frag)(ta tv:TE)(f:Str):TS:=fun D σ H=>tv σ H fun y H1=>ta σ H1 fun x H2=>∃ e C t,x = .ref e/\H2 e=some (y1a C e none t)/\ExcSt K C/\NoAttr K C f/\∀ dx,H2 dx=none->D.nx σ (upd (upd H2 e (y1a C e (some dx) t)) dx (.xd [(f,y)]))
theorem y6k(hx:X.ex=[])(ha:PE X o ta)(hv:PE X value tv)(hs:swapsWith value (some (.Attribute o f pos')) pos.line X.env=pure false):PS X (.Assign [.Attribute o f pos'] value pos) (y9h X.K ta tv f):=by
 intro pins s σ H D I h
 refine plainObj_wpAny_Assign_Attribute (thn (hv pins s σ H _ I h) fun u s1 ⟨y,H1,I1,ry,q⟩=>thn (ha pins s1 σ H1 _ I1 q) fun ov s2 ⟨x,H2,I2,rx,e,C,t,ex,ea,c,n,q2⟩=>?_) hs
 subst ex
 obtain rfl:ov=Value.ref e:=rx
 have he:=y2Q I2 ea
 refine y6R I2.kIn c n he fun h' kp hE hN=>?_
 obtain⟨f1,f2,f3,f4,f5⟩:=I2.fresh0 hx (e:=s2.heap.objs.size) (Heap.get?_none_of_le (jE _))
 have I3:Inv X pins σ (upd H2 e (y1a C e (some s2.heap.objs.size) t)) { s2 with heap:=h',toks:=s2.toks + 2 } :=
  I2.write (x:=e) (e:=e) (by rw[ea];exact trivial) (.inl rfl) (fun b u hb z=>kp b u hb z) ⟨_,hE⟩ (y2P hE)
 have ne:s2.heap.objs.size≠e:=kB (jJ he)
 have I4:=I3.track (e:=s2.heap.objs.size) (o := .xd [(f,y)]) (by rw[z0k ne];exact f1) f2 f3 f4 f5 ⟨_,hN,fun g=>?_⟩
 · exact⟨σ,_,I4,q2 _ f1⟩
 · show RelO (List.lookup g [(f,y)]) (if g=f then some u else none)
   by_cases z:g=f
   · have hb:(g == f)=true:=beq_iff_eq.mpr z
     rw[if_pos z]
     simp only[List.lookup,hb]
     exact ry
   · have hb:(g == f)=false:=beq_eq_false_iff_ne.mpr z
     rw[if_neg z]
     simp only[List.lookup,hb]
     exact trivial
end
def spIni(C:Addr)(f:Str):Sp:=fun vs H Q _=>∃ e v t,vs=[.ref e,v]/\H e=some (y1a C e none t)/\∀ dx,H dx=none->Q .non (upd (upd H e (y1a C e (some dx) t)) dx (.xd [(f,v)]))
structure ExcK (P:Program) (w:World) (K:PySem.W.Frag) (mg:Str->Option Value) (base:Heap) (x:Str) (C:Addr) (f:Str):Prop where
 nm:mg x=some (.ref C)
 st:ExcSt K C
 na:NoAttr K C f
 kp:PySem.W.keepIn K (.ref C)=true
 cl:∀ h,K.In h->∃ bm Na nm qn bs hdc sn sub ab col dd k0 k1 k2 k3 k5 mN fI oI fd,h.get? C=some (excClassObj nm qn C Na bs bm hdc sn sub ab col dd k0 k1 k2 k3 k5 "ValueError.__new__")/\h.Ns Na mN/\mN "__init__" = some (.ref fI)/\OwnTail h vErr bm/\h.get? fI=some oI/\oI.cls = .type "function" /\
  FnOk P w K mg base CX0 1 fI fd ["self",f] (spIni C f)/\Binds K fd ["self",f] []
section
variable {X:Cx}{x f:Str}{C:Addr}{k:Nat}{p pos:Pos}{e:Expr}{t:TA}
def y9K(X:Cx)(pins:List (Addr×Obj))(σ:St)(C:Addr)(f:Str)(R:Addr->Addr->Addr->Hp->V->Prop)(u:Value)(s':Shared):Prop :=
 ∃ (ea dx tt:Addr) (H1:Hp) (v:V) (s1:Shared),u = .ref ea/\Inv X pins σ H1 s1/\Inv X pins σ (upd (upd H1 ea (y1a C ea (some dx) tt)) dx (.xd [(f,v)])) s'/\H1 ea=none/\H1 dx=none/\dx≠ea/\X.s₀.heap.get? ea=none/\R ea dx tt H1 v
theorem y6S(c:ExcK X.prog X.w X.K X.mg X.base x C f)(hr:Room (k + 2) X.A)(hg:Gl X x)(hx:X.ex=[])(ha:PA X [e] t){pins:List (Addr×Obj)}{s:Shared}{σ:St}{H:Hp}{R:Addr->Addr->Addr->Hp->V->Prop}(I:Inv X pins σ H s)
 (h:t σ H fun vs H1=>∃ v,vs=[v]/\∀ ea dx tt,H1 ea=none->H1 dx=none->dx≠ea->R ea dx tt H1 v) (hdb:(x == ("__debug__" : Str))=false)
 (he:starEach [e] X.env=[(false,eval e X.env)]) :
 wpAny (model X.prog X.w) X.A (eval (.Call (.Name x p) [e] [] pos) X.env) (y9K X pins σ C f R) X.xe s:=by
 refine wpAny_Call_Name_kw (y2z I hg c.nm ?_ hdb)
 refine PySem.W.callWith_K (h₀:=X.base) I.ok.mod.kin c.kp (thn (ha pos pins s σ H _ I h) fun us s1 ⟨vs,H1,I1,r,q⟩=>⟨I1.kIn,?_⟩) he rfl
 obtain⟨v,rfl,q⟩:=q
 obtain⟨u,rfl,ru⟩:=z3H r
 obtain⟨bm,Na,nm,qn,bs,hdc,sn,sub,ab,col,dd,k0,k1,k2,k3,k5,mN,fI,oI,fd,hC,hN,hi,T,hf,hfc,F,hb⟩:=c.cl _ I1.kIn
 obtain⟨hp,g,d,tk,os⟩:=s1
 refine y4A T hC hN hi hf hfc (by show 1<=sizeLine;decide) fun h' ea hm=>?_
 obtain⟨tt,hE,htn,htt⟩:=hm.there
 obtain⟨f1,f2,f3,f4,f5⟩:=I1.fresh0 hx hm.new
 have I2:=(I1.kept (h':=h') (t':=tk) hm.keeps).track (e:=ea) (o:=y1a C ea none tt) f1 f2 f3 f4 f5 (y2P hE)
 have r2:Vals [V.ref ea,v] [Value.ref ea,u] := .cons rfl (.cons ru .nil)
 have hq:spIni C f [V.ref ea,v] (upd H1 ea (y1a C ea none tt)) (fun z H2=>z = .non/\∃ dx,H1 dx=none/\dx≠ea/\H2=upd (upd H1 ea (y1a C ea (some dx) tt)) dx (.xd [(f,v)])) E0:=by
  refine⟨ea,v,tt,rfl,z0a,fun dx hd=>?_⟩
  have ne:dx≠ea:=fun z=>by rw[z,z0a]at hd;cases hd
  rw[z0k ne]at hd
  exact⟨rfl,dx,hd,ne,by rw[y5G]⟩
 refine wpAny_call (codeAny_mono (F.run _ X.stack _ _ ⟨[Value.ref ea,u],[]⟩ [Value.ref ea,u] _ _ _ ((hr.mono (Nat.le_add_left 2 k)).make C [u] []) (I2.env0.make C [u] []) (hb _ [Value.ref ea,u] I2.kIn rfl) r2 hq) fun rr s' hq'=>?_)
 cases rr with
 | error ev=>exact y7T pins σ _ _ ev s' I2 hq'
 | ok fl =>
  cases fl with
  | ret u2 =>
   obtain⟨z,H',I3,rz,ez,dx,hd,ne,eH⟩:=I2.after hq'
   subst ez eH
   exact⟨rz,ea,dx,tt,H1,v,_,rfl,I1,I3,f1,hd,ne,f2,q ea dx tt f1 hd ne⟩
  | next=>exact False.elim hq'
  | brk=>exact False.elim hq'
  | cont=>exact False.elim hq'
end
section
variable {X:Cx}{e:Expr}{f:Str}{pos:Pos}{ta:TE}
end
section
variable {M:Model}{A:Around}{E:Value->Shared->Prop}{env:Env}{nm qn:Str}{C Na:Addr}{bs bm:List Value}{hdc:Bool}{sn:List Str}{sub:List Value}{ab:Bool}{col:Option Bool}{dd:Option Addr}{k0 k1 k2 k3 k5:Option Value}{nid:String}
theorem y1M{s:Shared}{m:Sem Value}{Q:Flow->Shared->Prop}(hb:bm.contains (.type "BaseException")=true)(hh:A.handled=none)
 (h:wpAny M A m (fun v s1=>∃ e od t,v = .ref e/\s1.heap.get? C=some (excClassObj nm qn C Na bs bm hdc sn sub ab col dd k0 k1 k2 k3 k5 nid)/\s1.heap.get? e=some (y6T C od t)/\E (.ref e) s1) E s) :
 wpAny M A (raiseStmt env (some m) none) Q E s:=by
 have cB:(Value.ref C :: bm).contains (.type "BaseException")=true:=by rw[List.contains_cons,hb,Bool.or_true]
 unfold raiseStmt
 refine wpAny_bind (wpAny_mono h (fun v s1 ⟨e,od,t,ev,hC,he,hE⟩=>?_) fun _ _ z=>z)
 subst ev
 obtain⟨hp,g,d,tk,os⟩:=s1
 repeat (first | (with_reducible refine wpAny_loadPart_at he ?_) | (with_reducible refine wpAny_loadPart_at hC ?_) | (with_reducible refine wpAny_isSubtype_exc hC ?_;rw[cB]) | wp_step)
 exact wpAny_raiseNew_none hh hE
end
section
variable {P:Program}{w:World}{K:PySem.W.Frag}{mg:Str->Option Value}{base:Heap}{N:List Str}{qual:Str}{scope:Scope}{f:Addr}{cd:Value}{A:Around}{outer:List Env}{s0:Shared}{H0:Hp}{E:XK}
end
section
variable {X:Cx}{x f:Str}{C:Addr}{k:Nat}{E:XK}{np cpos pos:Pos}{e:Expr}{t:TA}
end
theorem y6w{K:PySem.W.Frag}{h:Heap}{N:Addr}{m:Str->Option Value}{n:Str}{v:Value}(X:K.In h)(G:h.Ns N m)(q:PySem.W.nsIn K N n=some (some v)):m n=some v:=by
 obtain⟨o,es,ep,ho,hd,_,hf⟩:=G
 unfold PySem.W.nsIn at q
 split at q
 · rename_i lk
   cases ho.symm.trans (X _ _ lk)
   cases hd
   split at q
   · rename_i en he
     cases q
     rw[<- hf,nsFind,findBy,<- Array.find?_toList,he]
     rfl
   · split at q <;> cases q
 · cases q
structure ExcW (K:PySem.W.Frag) (C fI:Addr):Prop where
 ex:∃ nm bs bm na qn hdc sn sub ab col dd k0 k1 k2 k3 k5,K.lookup C=some ⟨.type "type",dd,.cls ⟨nm,bs,.ref C :: bm,na,qn,hdc,sn,sub,ab,col,false⟩,#[k0,k1,k2,k3,some (.builtin "ValueError.__new__"),k5]⟩ /\
  PySem.W.tailIn K vErr bm=true/\PySem.W.nsOkIn K na=true/\PySem.W.nsIn K na "__init__" = some (some (.ref fI))
theorem ExcK.mk'{P:Program}{w:World}{K:PySem.W.Frag}{mg:Str->Option Value}{base:Heap}{x f:Str}{C fI:Addr}{fd:FuncData}{od:Option Addr}{sl:Array (Option Value)}(nm:mg x=some (.ref C))(st:ExcSt K C)(na:NoAttr K C f)(kp:PySem.W.keepIn K (.ref C)=true)(W:ExcW K C fI)
 (li:K.lookup fI=some ⟨.type "function",od,.func fd,sl⟩) (F:FnOk P w K mg base CX0 1 fI fd ["self",f] (spIni C f)) (hb:Binds K fd ["self",f] []):ExcK P w K mg base x C f:=by
 refine⟨nm,st,na,kp,fun h X=>?_⟩
 obtain⟨nm',bs,bm,na',qn,hdc,sn,sub,ab,col,dd,k0,k1,k2,k3,k5,lk,tl,nk,ni⟩:=W.ex
 have hN:=Heap.Ns.of_isNs (PySem.W.isNs_of_in X nk)
 exact⟨bm,na',nm',qn,bs,hdc,sn,sub,ab,col,dd,k0,k1,k2,k3,k5,_,fI,_,fd,X _ _ lk,hN,y6w X hN ni,PySem.W.tail_of_in X tl,X _ _ li,rfl,F,hb⟩
section
variable {X:Cx}{x:Str}{C:Addr}{p pos:Pos}
end
section
variable {X:Cx}
end
def TrD(h base:Heap)(e:Addr)(c:Value)(od:Option Addr)(fl:Value):Prop :=
 ∃ (vs:Array Value) (sl:Array (Option Value)) (T:Addr) (oT:Obj) (ts:Array Value),h.get? e=some ⟨c,od,.fields vs,sl⟩/\vs[1]? = some (.ref T)/\base.get? T=none/\T≠e/\h.get? T=some oT/\oT.data = .fields ts/\ts[3]? = some fl
def y3y(base:Heap)(l:List Env)(e:Addr)(c:Value)(od:Option Addr)(fl:Value)(h:Heap):Prop:=base.StaysIn h/\base.get? e=none/\h.FunFrames base l/\TrD h base e c od fl
section
variable {M:Model}{A:Around}{E:Value->Shared->Prop}{s:Shared}{base:Heap}{env:Env}{outer l:List Env}{L e:Addr}{c fl:Value}{od:Option Addr}{vs:Array Value}{sl:Array (Option Value)}
theorem y8D{head:Value}{had:Bool}{Q:Unit->Shared->Prop}(fr:A.frames=some (env :: outer))(ff:s.heap.FunFrames base (env :: outer))(fe:env.frame=some L)(qe:s.heap.get? e=some ⟨c,od,.fields vs,sl⟩)(kb:base.StaysIn s.heap)(nb:base.get? e=none)(sz:1 < vs.size)
 (k:∀ h',y3y base (env :: outer) e c od (rawInt L) h'->s.heap.UpToSlots h'->Q () { s with heap:=h' }) :
 wpAny M A (do let a <- frameOf env;let pl <- entryPlaceOf L had;let b <- EntryCells.newEntry head a .none (rawInt L) .none pl;setField (.ref e) 1 b) Q E s:=by
 have ne:e∉(env :: outer).filterMap (·.frame):=fun z=>by
  obtain⟨_,o,ho,hn⟩:=ff.mem z
  rw[qe]at ho;cases ho
  exact hn vs rfl
 refine wpAny_bind (wpAny_frameOf_fun fr ff fe fun g sg=>?_)
 refine wpAny_bind (wpAny_entryPlaceOf fun pl ip=>?_)
 unfold EntryCells.newEntry newFields
 refine wpAny_bind (wpAny_newObj_type ?_ (ip.sizeOk5 _ _ _ _ _))
 have q1:g.get? e=some ⟨c,od,.fields vs,sl⟩:=(sg.2.1 e ne).trans qe
 have b1:base.StaysIn g:=fun b o z=>(sg.2.1 b fun m=>by rw[(ff.mem m).1]at z;cases z).trans (kb b o z)
 generalize hob:([head,Value.ref L,Value.none,rawInt L,Value.none] ++ (if pl.isEmpty then List.replicate 6 Value.none else pl)).toArray=cells
 have c3:cells[3]? = some (rawInt L):=by rw[<- hob];simp
 obtain⟨tb,etb⟩:∃ tb:Obj,tb={ cls := .type "traceback",dict:=none,data := .fields cells }:=⟨_,rfl⟩
 rw[<- etb]
 have q2:=jB (h:=g) tb q1
 have nt:g.objs.size≠e:=kB (jJ q1)
 refine wpAny_setField q2 rfl sz (k _ ?_ ?_)
 all_goals
  obtain⟨g3,eg3⟩:∃ g3,g3=(g.push tb).update e (Obj.mapFields (·.setIfInBounds 1 (Value.ref g.objs.size))):=⟨_,rfl⟩
  rw[<- eg3]
  have q3:g3.get? e=some ⟨c,od,.fields (vs.setIfInBounds 1 (Value.ref g.objs.size)),sl⟩:=by rw[eg3];exact jm _ q2 rfl
  have t3:g3.get? g.objs.size=some tb:=by rw[eg3,jZ _ _ (Ne.symm nt)];exact jO g (by rw[etb];rfl)
  have kp:∀ b o,b≠e->g.get? b=some o->g3.get? b=some o:=fun b o hb z=>by rw[eg3,jZ _ _ (Ne.symm hb)];exact jB _ z
  have nr:∀ b o,s.heap.get? b=some o->(∀ ws,o.data ≠ .fields ws)->b≠e:=fun b o z hn q=>by
   rw[q,qe]at z;cases z
   exact hn vs rfl
 · refine⟨fun b o z=>kp b o (fun q=>by rw[q,nb]at z;cases z) (b1 b o z),nb,ff.of_keeps fun b o z hn=>?_,?_⟩
   · obtain⟨sl',z'⟩:=sg.2.2 b o z
     exact⟨_,kp b _ (nr b o z hn) z',rfl⟩
   · exact⟨_,sl,g.objs.size,tb,cells,q3,by simp[sz],b1.fresh,nt,t3,by rw[etb],c3⟩
 · intro b o z hn
   obtain⟨sl',z'⟩:=sg.2.2 b o z
   exact⟨sl',kp b _ (nr b o z hn) z'⟩
theorem y9u{Q:Unit->Shared->Prop}(f:y3y base l e c od fl s.heap)(k:∀ h',y3y base l e c od .none h'->s.heap.UpToSlots h'->Q () { s with heap:=h' }):wpAny M A (setFlight (.ref e) none) Q E s:=by
 obtain⟨kb,nb,ff,vs,sl,T,oT,ts,qe,q1,nT,ne,qT,dT,q3⟩:=f
 have z3:3 < ts.size:=(Array.getElem?_eq_some_iff.mp q3).1
 unfold setFlight
 refine wpAny_bind (wpAny_field qe rfl q1 ?_)
 rw[if_pos (show (Value.ref T != Value.none)=true from by simp)]
 have ot:∀ b,b≠T->(s.heap.update T (Obj.mapFields (·.setIfInBounds 3 Value.none))).get? b=s.heap.get? b:=fun b hb=>jZ _ _ (Ne.symm hb)
 have nr:∀ b o,s.heap.get? b=some o->(∀ ws,o.data ≠ .fields ws)->b≠T:=fun b o z hn q=>by
  rw[q,qT]at z;cases z
  exact hn ts dT
 refine wpAny_setField qT dT z3 (k _ ⟨fun b o z=>(ot b fun q=>by rw[q,nT]at z;cases z).trans (kb b o z),nb,ff.of_keeps fun b o z hn=>⟨o,(ot b (nr b o z hn)).trans z,rfl⟩,?_⟩ fun b o z hn=>⟨o.slots,(ot b (nr b o z hn)).trans z⟩)
 exact⟨vs,sl,T,_,_,(ot e (Ne.symm ne)).trans qe,q1,nT,ne,jm _ qT (Obj.isFreed_of_fields (Obj.data_mapFields dT _)),Obj.data_mapFields dT _,by simp[z3]⟩
theorem y8f{Q:Unit->Shared->Prop}(fr:A.frames=some (env :: outer))(fe:env.frame=some L)(f:y3y base (env :: outer) e c od .none s.heap)(k:∀ h',y3y base (env :: outer) e c od (rawInt L) h'->s.heap.UpToSlots h'->Q () { s with heap:=h' }):wpAny M A (noteFrame (.ref e) env) Q E s:=by
 obtain⟨kb,nb,ff,vs,sl,T,oT,ts,qe,q1,nT,ne,qT,dT,q3⟩:=f
 unfold noteFrame
 simp only[fe]
 refine wpAny_bind (wpAny_field qe rfl q1 ?_)
 rw[if_pos (show (Value.ref T != Value.none)=true from by simp)]
 refine wpAny_bind (wpAny_field qT dT q3 ?_)
 rw[if_neg (show ¬ ((Value.none == rawInt L)=true) from by simp[rawInt])]
 refine wpAny_bind (wpAny_setField qT dT (Array.getElem?_eq_some_iff.mp q3).1 ?_)
 have ot:∀ b,b≠T->(s.heap.update T (Obj.mapFields (·.setIfInBounds 3 Value.none))).get? b=s.heap.get? b:=fun b hb=>jZ _ _ (Ne.symm hb)
 have nr:∀ b o,s.heap.get? b=some o->(∀ ws,o.data ≠ .fields ws)->b≠T:=fun b o z hn q=>by
  rw[q,qT]at z;cases z
  exact hn ts dT
 refine y8D fr (ff.of_keeps fun b o z hn=>⟨o,(ot b (nr b o z hn)).trans z,rfl⟩) fe ((ot e (Ne.symm ne)).trans qe) (fun b o z=>(ot b fun q=>by rw[q,nT]at z;cases z).trans (kb b o z)) nb (Array.getElem?_eq_some_iff.mp q1).1 fun h' f' sm=>k h' f' fun b o z hn=>sm b o ((ot b (nr b o z hn)).trans z) hn
end
def CXD(P:Program)(w:World):CXT:=fun outer H s E ev s'=>∃ (e C:Addr) (od:Option Addr) (B:Heap) (H':Hp),ev = .ref e/\s'.os=s.os/\AllBare s'.gens/\Un (frs outer) [] H H' s.heap s'.heap/\HOk P w H' s'.heap /\
 y3y B outer e (.ref C) od .none s'.heap/\(∀ b ob,s'.heap.get? b=some ob->((H' b).isSome=true\/(s.heap.get? b).isSome=true)->b∉frs outer->B.get? b=some ob)/\H' e=none/\E (.ref C) od H'
theorem y5i{P:Program}{w:World}{X:Cx}:z5p (CXD P w) X E0:=fun _ _ _ _ _ _ _ ⟨_,_,_,_,_,_,_,_,_,_,_,_,_,h⟩=>h.elim
section
variable {P:Program}{w:World}{K:PySem.W.Frag}{mg:Str->Option Value}{base:Heap}{N:List Str}{qual:Str}{scope:Scope}{f:Addr}{cd:Value}{A:Around}{outer:List Env}{s0:Shared}{H0:Hp}{E:XK}
def y3m(X:Cx)(E:XK):Prop:=∀ (pins:List (Addr×Obj)) (σ:St) (H:Hp) (s:Shared) (e C:Addr) (od:Option Addr) (t:Addr),Inv X pins σ H s->H e=none->X.s₀.heap.get? e=none->s.heap.get? e=some (y6T C od t)->E (.ref C) od H->X.xe (.ref e) s
end
structure Def2 (P:Program) (w:World) (K:PySem.W.Frag) (mg:Str->Option Value) (base:Heap) (x:Str) (k:Nat) (ps:List Str) (sp:Sp):Prop where
 ex:∃ f fd,FnOk P w K mg base (CXD P w) k f fd ps sp/\Binds K fd ps []/\PySem.W.keepIn K (.ref f)=true/\mg x=some (.ref f)
section
variable {P:Program}{w:World}{K:PySem.W.Frag}{mg:Str->Option Value}{base:Heap}
theorem Fn.ok2{x:Str}{st:Stmt}{N ps:List Str}{k:Nat}{sp:Sp}(F:Fn K mg x st ps)(S:FnScope N ps (defScope st))(len:∀ vs H Q E,sp vs H Q E->vs.length=ps.length)
 (hbody:∀ (f:Addr) (cdv:Value) (A:Around) (outer:List Env) (s:Shared) (H:Hp) (vs:List V) (Q:VK) (E:XK),Room k (A.deeper (envOfC x (defScope st) s.heap.objs.size f cdv))->sp vs H Q E ->
  ∃ t,PSs (y0M (CXD P w) P w K mg base N x (defScope st) f cdv A outer s H E) (defBody st) t/\t { nx:=fun _ H'=>Q .non H',rt:=Q } (z2x N vs) H):Def2 P w K mg base x (k + 1) ps sp:=by
 obtain⟨f,fd,FF,b,m⟩:=F.ex
 have kp:=FF.kp
 obtain⟨oc,od,kV,doc,pm,an,cdv,ct,osl,rfl,lk,hcd⟩:=FF.ex
 exact⟨f,_,y6Q lk hcd S len fun A outer s H vs Q E hr hsp=>hbody f cdv A outer s H vs Q E hr hsp,b,kp,m⟩
end
section
variable {X:Cx}{k j:Nat}{ps:List Str}{sp:Sp}{x:Str}{p pos:Pos}{e:Expr}{es:List Expr}{t:TA}{E:XK}
theorem z8v(D:Def2 X.prog X.w X.K X.mg X.base x j ps sp)(hr:Room k X.A)(hg:Gl X x)(hx:z5p (CXD X.prog X.w) X E)(ha:PA X (e :: es) t)(hjk:j<=k:=by decide)(hdb:(x == ("__debug__" : Str))=false:=by decide)
 (he:starEach (e :: es) X.env=(false,eval e X.env) :: starEach es X.env:=by rfl) (hpl:(backTo pos (starEach es X.env)).any (·.1)=false:=by rfl) :
 PE X (.Call (.Name x p) (e :: es) [] pos) (y0q sp [] E t):=by
 obtain⟨f,fd,F,b,kp,m⟩:=D.ex
 exact z8x F (hr.mono hjk) hg m kp b .nil hx ha hdb he hpl
end
section
variable {X:Cx}{pins:List (Addr×Obj)}{σ:St}{H1:Hp}{s1 s':Shared}{E:XK}{y n:Str}{CH:Addr}{np hpos:Pos}{b0:Stmt}{suite:List Stmt}{rest:List ExceptHandler}{D:Ends}{ts:TS}{i:Nat}
end
section
variable {X:Cx}{k j:Nat}{ps:List Str}{sp:Sp}{x n c:Str}{p pos apos cp hpos tpos:Pos}{e:Expr}{es:List Expr}{t:TA}{CH:Addr}{b0:Stmt}{suite:List Stmt}{ts:TS}{i:Nat}
end
section
variable {X:Cx}{pins:List (Addr×Obj)}{σ:St}{H:Hp}{s s2:Shared}{e dx:Addr}{φ:Heap->Prop}{fs:List (Str×V)}
theorem Inv.dropE(I2:Inv X pins σ (upd (upd H e (.ext φ)) dx (.xd fs)) s2)(he:H e=none)(ne:dx≠e):Inv X pins σ (upd H dx (.xd fs)) s2:=by
 have at2:(upd (upd H e (.ext φ)) dx (.xd fs)) e=some (.ext φ):=by rw[z0k (Ne.symm ne),z0a]
 have off:∀ {b:Addr},b≠e->(upd H dx (.xd fs)) b=(upd (upd H e (.ext φ)) dx (.xd fs)) b:=fun {b} hb=>by
  by_cases z:b=dx
  · rw[z,z0a,z0a]
  · rw[z0k z,z0k z,z0k hb]
 have non:∀ {b:Addr},(upd (upd H e (.ext φ)) dx (.xd fs)) b=none->(upd H dx (.xd fs)) b=none:=fun {b} q=>by
  rw[off (fun z=>by rw[z,at2]at q;cases q)];exact q
 have som:∀ {b:Addr}{u:HO},(upd (upd H e (.ext φ)) dx (.xd fs)) b=some u->(∀ z,u ≠ .ext z)->(upd H dx (.xd fs)) b=some u:=fun {b u} q h=>by
  rw[off (fun z=>by rw[z,at2]at q;exact h _ (Option.some.inj q).symm)];exact q
 have at3:(upd H dx (.xd fs)) e=none:=by rw[z0k (Ne.symm ne)];exact he
 refine⟨I2.ok,I2.os,I2.bare,⟨I2.base.keep,I2.base.slot,fun b ob q n hx=>non (I2.base.free b ob q n hx),I2.base.there,fun b xs q=>som (I2.base.tups b xs q) (fun _ z=>nomatch z),fun b ob u q=>som (I2.base.frzs b ob u q) (fun _ z=>nomatch z),fun b ps q=>?_⟩,I2.loc,I2.cell,non I2.free,fun x c q=>non (I2.freeC x c q),fun p hp=>?_,fun b u q=>?_,I2.len⟩
 · obtain⟨more,z⟩:=I2.base.tbls b ps q
   exact⟨more,som z (fun _ z=>nomatch z)⟩
 · obtain⟨z1,z2,z3,z4,z5⟩:=I2.pin p hp
   exact⟨z1,non z2,z3,z4,z5⟩
 · have hb:b≠e:=fun z=>by rw[z,at3]at q;cases q
   rw[off hb]at q
   exact (I2.hok b u q).stay (fun _ _ _ z=>z) (fun c z=>som z (fun _ z=>nomatch z)) fun c xs z=>som z (fun _ z=>nomatch z)
end
section
variable {X:Cx}{x f:Str}{C:Addr}{k:Nat}{E:XK}{np cpos pos:Pos}{e:Expr}{t:TA}
def y5K(E:XK)(C:Addr)(f:Str)(t:TA):TS:=fun _ σ H=>t σ H fun vs H1=>∃ v,vs=[v]/\∀ ea dx (tt:Addr),H1 ea=none->H1 dx=none->dx≠ea->E (.ref C) (some dx) (upd H1 dx (.xd [(f,v)]))
theorem y1R(c:ExcK X.prog X.w X.K X.mg X.base x C f)(hr:Room (k + 2) X.A)(hc:X.calm=true)(hg:Gl X x)(hx:X.ex=[])(R:y3m X E)(ha:PA X [e] t)(hdb:(x == ("__debug__" : Str))=false:=by decide)(he:starEach [e] X.env=[(false,eval e X.env)]:=by rfl) :
 PS X (.Raise (some (.Call (.Name x np) [e] [] cpos)) none pos) (y5K E C f t):=by
 intro pins s σ H D I h
 rw[arm_exec_Raise]
 obtain⟨bm,Na,nm,qn,bs,hdc,sn,sub,ab,col,dd,k0,k1,k2,k3,k5,mN,fI,oI,fd,hC,hN,hi,T,hf,hfc,FF,hb⟩:=c.cl _ I.ok.mod.kin
 refine wpAny_bind (wpAny_standAt ?_)
 show wpAny _ _ (raiseStmt X.env (some (do let v <- eval (.Call (.Name x np) [e] [] cpos) X.env;standAt pos;pure v)) none) _ _ _
 refine y1M (nm:=nm) (qn:=qn) (Na:=Na) (bs:=bs) (bm:=bm) (hdc:=hdc) (sn:=sn) (sub:=sub) (ab:=ab) (col:=col) (dd:=dd) (k0:=k0) (k1:=k1) (k2:=k2) (k3:=k3) (k5:=k5) (nid := "ValueError.__new__") (C:=C) (T.hasType F.excBase_ValueError.hasBase) (I.ok.hd hc)
  (wpAny_bind (wpAny_mono (y6S (R:=fun _ dx _ H1 v=>E (.ref C) (some dx) (upd H1 dx (.xd [(f,v)]))) c hr hg hx ha I h hdb he) (fun u s' hm=>wpAny_bind (wpAny_standAt (wpAny_pure ?_))) fun _ _ z=>z))
 obtain⟨ea,dx,tt,H1,v,s1,eu,I1,I2,f1,f2,ne,f0,q⟩:=hm
 subst eu
 have I3:=I2.dropE f1 ne
 have hE:s'.heap.get? ea=some (y6T C (some dx) tt):=y2Q I2 (by rw[z0k (Ne.symm ne),z0a])
 exact⟨ea,some dx,tt,rfl,I3.bk _ _ hC,hE,R pins σ _ s' ea C (some dx) tt I3 (by rw[z0k (Ne.symm ne)];exact f1) f0 hE q⟩
end
section
variable {X:Cx}{e:Expr}{f:Str}{pos:Pos}{ta:TE}
end
section
variable {X:Cx}{k j:Nat}{ps:List Str}{sp:Sp}{x y n c:Str}{p pos py apos cp hpos tpos:Pos}{e:Expr}{es:List Expr}{t:TA}{CH:Addr}{b0:Stmt}{suite:List Stmt}{ts:TS}{i m:Nat}
end
def TrI(h B:Heap)(e:Addr)(C:Addr)(od:Option Addr)(L:Addr):Prop:=(∃ t,h.get? e=some (y6T C od t))\/TrD h B e (.ref C) od .none\/TrD h B e (.ref C) od (rawInt L)
structure InF (X:Cx) (B:Heap) (H':Hp) (e:Addr) (s':Shared):Prop where
 os:s'.os=X.s₀.os
 bare:AllBare s'.gens
 un:Un (frs X.outer) [] X.H₀ H' X.s₀.heap s'.heap
 hok:HOk X.prog X.w H' s'.heap
 kb:B.StaysIn s'.heap
 nb:B.get? e=none
 ff:s'.heap.FunFrames B X.stack
 inB:∀ b ob,s'.heap.get? b=some ob->((H' b).isSome=true\/(X.s₀.heap.get? b).isSome=true)->b∉frs X.outer->B.get? b=some ob
 inH:∀ b ob,s'.heap.get? b=some ob->(H' b).isSome=true->B.get? b=some ob
 fr:∀ b∈frs X.outer,b∈X.stack.filterMap (·.frame)
theorem InF.step{X:Cx}{B:Heap}{H':Hp}{e:Addr}{s':Shared}{h2:Heap}(I:InF X B H' e s')(k1:B.StaysIn h2)(ff2:h2.FunFrames B X.stack)(sm:s'.heap.UpToSlots h2):InF X B H' e { s' with heap:=h2 }:=by
 refine⟨I.os,I.bare,Un.fly I.un I.inB k1 (fun b hb ob q=>?_),HOk.fly I.hok I.inH k1,k1,I.nb,ff2,fun b ob q c nb=>?_,fun b ob q c=>?_,I.fr⟩
 · obtain⟨_,o',ho',hnf⟩:=I.ff.mem (I.fr b hb)
   rw[q]at ho';cases ho'
   exact sm b ob q hnf
 · have:∃ o1,s'.heap.get? b=some o1:=by
    rcases c with c | c
    · obtain⟨u,z⟩:=kC.mp c
      exact (I.hok b u z).has
    · obtain⟨o,z⟩:=kC.mp c
      exact I.un.there b o z (fun z=>nomatch z)
   obtain⟨o1,e1⟩:=this
   have z:=I.inB b o1 e1 c nb
   have:=k1 b o1 z
   rw[q]at this;cases this
   exact z
 · obtain⟨u,z⟩:=kC.mp c
   obtain⟨o1,e1⟩:=(I.hok b u z).has
   have z:=I.inH b o1 e1 c
   have:=k1 b o1 z
   rw[q]at this;cases this
   exact z
def y9X(X:Cx)(E:XK)(ev:Value)(s':Shared):Prop:=∃ (e C:Addr) (od:Option Addr) (B:Heap) (H':Hp),ev = .ref e/\InF X B H' e s'/\TrI s'.heap B e C od X.env.locals/\H' e=none/\E (.ref C) od H'
section
variable {M:Model}{A:Around}{E:Value->Shared->Prop}{s:Shared}{base:Heap}{env:Env}{outer l:List Env}{L e C:Addr}{c fl:Value}{od:Option Addr}
theorem y5m{Q:Unit->Shared->Prop}(fr:A.frames=some (env :: outer))(fe:env.frame=some L)(kb:base.StaysIn s.heap)(nb:base.get? e=none)(ff:s.heap.FunFrames base (env :: outer))(tr:TrI s.heap base e C od L)(k:∀ h',y3y base (env :: outer) e (.ref C) od (rawInt L) h'->s.heap.UpToSlots h'->Q () { s with heap:=h' }):wpAny M A (noteFrame (.ref e) env) Q E s:=by
 rcases tr with ⟨t,he⟩ | tr | tr
 · unfold noteFrame
   simp only[fe]
   refine wpAny_bind (wpAny_field he rfl (x := .none) rfl ?_)
   rw[if_neg (by decide)]
   exact y8D fr ff fe he kb nb (by show 1 < 6;decide) k
 · exact y8f fr fe ⟨kb,nb,ff,tr⟩ k
 · have f:y3y base (env :: outer) e (.ref C) od (rawInt L) s.heap:=⟨kb,nb,ff,tr⟩
   obtain⟨vs,sl,T,oT,ts,qe,q1,nT,ne,qT,dT,q3⟩:=tr
   unfold noteFrame
   simp only[fe]
   refine wpAny_bind (wpAny_field qe rfl q1 ?_)
   rw[if_pos (show (Value.ref T != Value.none)=true from by simp)]
   refine wpAny_bind (wpAny_field qT dT q3 ?_)
   rw[if_pos (show (rawInt L == rawInt L)=true from by simp)]
   exact wpAny_pure (k s.heap f (Heap.UpToSlots.refl _))
theorem x0d{Q:Unit->Shared->Prop}(f:y3y base l e c od fl s.heap)(k:∀ h',y3y base l e c od (rawInt L) h'->s.heap.UpToSlots h'->Q () { s with heap:=h' }):wpAny M A (setFlight (.ref e) (some L)) Q E s:=by
 obtain⟨kb,nb,ff,vs,sl,T,oT,ts,qe,q1,nT,ne,qT,dT,q3⟩:=f
 have z3:3 < ts.size:=(Array.getElem?_eq_some_iff.mp q3).1
 unfold setFlight
 refine wpAny_bind (wpAny_field qe rfl q1 ?_)
 rw[if_pos (show (Value.ref T != Value.none)=true from by simp)]
 have ot:∀ b,b≠T->(s.heap.update T (Obj.mapFields (·.setIfInBounds 3 (rawInt L)))).get? b=s.heap.get? b:=fun b hb=>jZ _ _ (Ne.symm hb)
 have nr:∀ b o,s.heap.get? b=some o->(∀ ws,o.data ≠ .fields ws)->b≠T:=fun b o z hn q=>by
  rw[q,qT]at z;cases z
  exact hn ts dT
 refine wpAny_setField qT dT z3 (k _ ⟨fun b o z=>(ot b fun q=>by rw[q,nT]at z;cases z).trans (kb b o z),nb,ff.of_keeps fun b o z hn=>⟨o,(ot b (nr b o z hn)).trans z,rfl⟩,?_⟩ fun b o z hn=>⟨o.slots,(ot b (nr b o z hn)).trans z⟩)
 exact⟨vs,sl,T,_,_,(ot e (Ne.symm ne)).trans qe,q1,nT,ne,jm _ qT (Obj.isFreed_of_fields (Obj.data_mapFields dT _)),Obj.data_mapFields dT _,by simp[z3]⟩
end
section
variable {P:Program}{w:World}{K:PySem.W.Frag}{mg:Str->Option Value}{base:Heap}{N:List Str}{qual:Str}{scope:Scope}{f:Addr}{cd:Value}{A:Around}{outer:List Env}{s0:Shared}{H0:Hp}{E:XK}
abbrev cxI(P:Program)(w:World)(K:PySem.W.Frag)(mg:Str->Option Value)(base:Heap)(N:List Str)(qual:Str)(scope:Scope)(f:Addr)(cd:Value)(A:Around)(outer:List Env)(s0:Shared)(H0:Hp)(E:XK):Cx :=
 (y0M (CXD P w) P w K mg base N qual scope f cd A outer s0 H0 E).wish (y9X (y0M (CXD P w) P w K mg base N qual scope f cd A outer s0 H0 E) E)
theorem y3Z(fr:(A.deeper (envOfC qual scope s0.heap.objs.size f cd)).frames=some (envOfC qual scope s0.heap.objs.size f cd :: outer)):PassesOwn (model (cxI P w K mg base N qual scope f cd A outer s0 H0 E).prog (cxI P w K mg base N qual scope f cd A outer s0 H0 E).w) (cxI P w K mg base N qual scope f cd A outer s0 H0 E).A (cxI P w K mg base N qual scope f cd A outer s0 H0 E).env (cxI P w K mg base N qual scope f cd A outer s0 H0 E).xe:=by
 rintro ev s' ⟨e,C,od,B,H',rfl,I,tr,he,hE⟩
 refine y5m fr rfl I.kb I.nb I.ff tr fun h1 f1 m1=>?_
 have I1:=I.step f1.1 f1.2.2.1 m1
 obtain⟨vs,sl,T,oT,ts,qe,q1,_⟩:=id f1.2.2.2
 show wpAny _ _ _ _ _ _
 refine wpAny_bind (wpAny_field (s:={ s' with heap:=h1 }) qe rfl q1 ?_)
 rw[if_neg (show ¬ ((Value.ref T == Value.none)=true) from by simp)]
 refine x0d (s:={ s' with heap:=h1 }) (L:=(envOfC qual scope s0.heap.objs.size f cd).locals) f1 fun h2 f2 m2=>?_
 exact⟨e,C,od,B,H',rfl,I1.step f2.1 f2.2.2.1 m2,.inr (.inr f2.2.2.2),he,hE⟩
theorem y2y(fr:(A.deeper (envOfC qual scope s0.heap.objs.size f cd)).frames=some (envOfC qual scope s0.heap.objs.size f cd :: outer)){ev:Value}{s':Shared}(h:y9X (y0M (CXD P w) P w K mg base N qual scope f cd A outer s0 H0 E) E ev s'):(y0M (CXD P w) P w K mg base N qual scope f cd A outer s0 H0 E).xe ev s':=by
 obtain⟨e,C,od,B,H',rfl,I,tr,he,hE⟩:=h
 show wpAny _ _ (leaving _ (.ref e)) _ _ s'
 unfold leaving
 refine wpAny_bind (y5m fr rfl I.kb I.nb I.ff tr fun h1 f1 m1=>?_)
 have I1:=I.step f1.1 f1.2.2.1 m1
 refine y9u (s:={ s' with heap:=h1 }) f1 fun h2 f2 m2=>?_
 have I2:=I1.step f2.1 f2.2.2.1 m2
 obtain⟨a,b,⟨_,_,d⟩,t⟩:=f2
 exact⟨e,C,od,B,H',rfl,I2.os,I2.bare,I2.un,I2.hok,⟨a,b,d,t⟩,I2.inB,he,hE⟩
end
section
variable {P:Program}{w:World}{K:PySem.W.Frag}{mg:Str->Option Value}{base:Heap}{N:List Str}{qual:Str}{scope:Scope}{f:Addr}{cd:Value}{A:Around}{outer:List Env}{s0:Shared}{H0:Hp}{E:XK}
theorem y5u{env:Env}{l:List Env}:∀ b∈frs l,b∈(env :: l).filterMap (·.frame):=fun b hb=>by
 obtain⟨v,hv,e⟩:=List.mem_filterMap.mp hb
 exact List.mem_filterMap.mpr ⟨v,jK _ hv,e⟩
theorem y6g:y3m (cxI P w K mg base N qual scope f cd A outer s0 H0 E) E:=by
 intro pins σ H s e C od t I0 hHe h0 he hE
 have I:=I0.unwish
 obtain⟨as,eas⟩:∃ as,as=e :: frs (y0M (CXD P w) P w K mg base N qual scope f cd A outer s0 H0 E).stack:=⟨_,rfl⟩
 have ne:∀ {b:Addr},((H b).isSome=true\/(s0.heap.get? b).isSome=true)->b≠e:=fun {b} c z=>by
  subst z
  rcases c with c | c
  · rw[hHe]at c;cases c
  · have h0':s0.heap.get? b=none:=h0
    rw[h0']at c;cases c
 have inB:∀ b ob,s.heap.get? b=some ob->((H b).isSome=true\/(s0.heap.get? b).isSome=true)->b∉frs outer->(PySem.W.hideAll s.heap as).get? b=some ob:=fun b ob q c nb =>
  PySem.W.hideAll_get _ q (by rw[eas];exact fun z=>(jQ.mp z).elim (ne c) (I.off c nb))
 have inH:∀ b ob,s.heap.get? b=some ob->(H b).isSome=true->(PySem.W.hideAll s.heap as).get? b=some ob:=fun b ob q c =>
  PySem.W.hideAll_get _ q (by rw[eas];exact fun z=>(jQ.mp z).elim (ne (.inl c)) (I.noFr c))
 refine⟨e,C,od,PySem.W.hideAll s.heap as,H,rfl,⟨I.os,I.bare,I.base,I.hok,fun b ob q=>PySem.W.of_hideAll _ q,PySem.W.hideAll_none _ (by rw[eas];exact .head _),PySem.W.funFrames_hide I.stack fun env hev a ha=>by rw[eas];exact jK _ (List.mem_filterMap.mpr ⟨env,hev,ha⟩),inB,inH,y5u⟩,.inl ⟨t,he⟩,hHe,hE⟩
theorem z8y:z5p (CXD P w) (cxI P w K mg base N qual scope f cd A outer s0 H0 E) E:=by
 intro pins σ H s ev s' I0 h
 have I:=I0.unwish
 obtain⟨e,C,od,B,H',rfl,hos,hg,u,hok,fl,hB,he,hE⟩:=h
 have I':=I.call' (s':=s') (ch:=[]) hos u hok hg (fun _ z=>nomatch z)
 have inB:∀ b ob,s'.heap.get? b=some ob->((H' b).isSome=true\/(s0.heap.get? b).isSome=true)->b∉frs outer->B.get? b=some ob:=fun b ob q c nb=>by
  refine hB b ob q ?_ (I'.off c nb)
  rcases c with c | c
  · exact .inl c
  · obtain⟨o1,e1⟩:=I.old rfl (.inr c)
    exact .inr (by rw[e1];rfl)
 exact⟨e,C,od,B,H',rfl,⟨I'.os,I'.bare,I'.base,I'.hok,fl.1,fl.2.1,fl.2.2.1,inB,fun b ob q c=>hB b ob q (.inl c) (I'.noFr c),y5u⟩,.inr (.inl fl.2.2.2),he,hE⟩
theorem z6u{tg iter:Expr}{body:List Stmt}{wi:TI}{g:TG}{tb:TS}{pos:Pos}(hi:PI (cxI P w K mg base N qual scope f cd A outer s0 H0 E) tg iter wi)(hg:PG (cxI P w K mg base N qual scope f cd A outer s0 H0 E) tg g)(hb:PSs (cxI P w K mg base N qual scope f cd A outer s0 H0 E) body tb)
 (hs:∀ x,foldedSetIterable iter (cxI P w K mg base N qual scope f cd A outer s0 H0 E).env x=pure x:=by intro _;rfl):PS (cxI P w K mg base N qual scope f cd A outer s0 H0 E) (.For tg iter body [] pos) (y9O wi g tb) :=
 fun pins s σ H D I h=>z1U (y3Z I.ok.frames) rfl hi hg hb hs pins s σ H D I h
theorem Fn.ok3{x:Str}{st:Stmt}{N ps:List Str}{k:Nat}{sp:Sp}(F:Fn K mg x st ps)(S:FnScope N ps (defScope st))(len:∀ vs H Q E,sp vs H Q E->vs.length=ps.length)
 (hbody:∀ (f:Addr) (cdv:Value) (A:Around) (outer:List Env) (s:Shared) (H:Hp) (vs:List V) (Q:VK) (E:XK),Room k (A.deeper (envOfC x (defScope st) s.heap.objs.size f cdv))->sp vs H Q E ->
  ∃ t,PSs (cxI P w K mg base N x (defScope st) f cdv A outer s H E) (defBody st) t/\t { nx:=fun _ H'=>Q .non H',rt:=Q } (z2x N vs) H):Def2 P w K mg base x (k + 1) ps sp:=by
 refine F.ok2 S len fun f cdv A outer s H vs Q E hr h=>?_
 obtain⟨t,ht,hq⟩:=hbody f cdv A outer s H vs Q E hr h
 refine⟨t,fun pins s1 σ H1 D I q=>?_,hq⟩
 exact wpAny_mono (ht pins s1 σ H1 D (I.wish _) q) (fun fl s2 z=>z.unwish) (fun ev s2 z=>y2y I.ok.frames z)
end
section
variable {P:Program}{w:World}{K:PySem.W.Frag}{mg:Str->Option Value}{base:Heap}
end
section
variable {X:Cx}{C:Addr}{k j:Nat}{ps:List Str}{sp:Sp}{E:XK}{m x:Str}{apos pos p:Pos}{e o:Expr}{es:List Expr}{ta:TE}{t:TA}
end
inductive NK where
 | lf (v:Int) | qn (q:Int) (ns:List Int)
 deriving DecidableEq
section
variable {prog:Program}{w:World}{A:Around}{E:Value->Shared->Prop}{s:Shared}
end
section
variable {prog:Program}{w:World}{h h':Heap}
end
section
variable {prog:Program}{w:World}{A:Around}{E:Value->Shared->Prop}{s:Shared}
end
section
variable {X:Cx}{pins:List (Addr×Obj)}{σ:St}{H:Hp}{s:Shared}{d a:Addr}{k:NK}{ks:List (NK×Addr)}{A:Around}{E:Value->Shared->Prop}
section
variable {o i value:Expr}{pos pos':Pos}{td ty tv:TE}
end
end
structure FunD (K:PySem.W.Frag) (x qual:Str) (st:Stmt) (f:Addr) (fd:FuncData) (dv:Value):Prop where
 ex:∃ (T:Addr) (To:Value) (Td:Option Addr) (Tn:Nat) (Ts:Array (Option Value)) (oc:Value) (od:Option Addr) (kV doc pm:Value) (an:Option Addr) (cdv ct:Value) (osl:Array (Option Value)),
  fd=PySem.W.fnOf x qual (defArgs st) (defBody st) (defScope st) (.ref T) kV doc pm an cdv ct/\K.lookup f=some ⟨oc,od,.func fd,osl⟩/\PySem.W.codeIn K cdv qual=true/\K.lookup T=some ⟨To,Td,.seq #[dv] Tn,Ts⟩
section
variable {P:Program}{w:World}{K:PySem.W.Frag}{mg:Str->Option Value}{base:Heap}
theorem FunD.ok3{x qual:Str}{st:Stmt}{f:Addr}{fd:FuncData}{dv:Value}{N ps:List Str}{k:Nat}{sp:Sp}(F:FunD K x qual st f fd dv)(S:FnScope N ps (defScope st))(len:∀ vs H Q E,sp vs H Q E->vs.length=ps.length)
 (hbody:∀ (cdv:Value) (A:Around) (outer:List Env) (s:Shared) (H:Hp) (vs:List V) (Q:VK) (E:XK),Room k (A.deeper (envOfC qual (defScope st) s.heap.objs.size f cdv))->sp vs H Q E ->
  ∃ t,PSs (cxI P w K mg base N qual (defScope st) f cdv A outer s H E) (defBody st) t/\t { nx:=fun _ H'=>Q .non H',rt:=Q } (z2x N vs) H):FnOk P w K mg base (CXD P w) (k + 1) f fd ps sp:=by
 obtain⟨T,To,Td,Tn,Ts,oc,od,kV,doc,pm,an,cdv,ct,osl,rfl,lk,hcd,_⟩:=F.ex
 refine y6Q lk hcd S len fun A outer s H vs Q E hr hsp=>?_
 obtain⟨t,ht,hq⟩:=hbody cdv A outer s H vs Q E hr hsp
 refine⟨t,fun pins s1 σ H1 D I q=>?_,hq⟩
 exact wpAny_mono (ht pins s1 σ H1 D (I.wish _) q) (fun fl s2 z=>z.unwish) (fun ev s2 z=>y2y I.ok.frames z)
theorem FunD.binds{x qual:Str}{st:Stmt}{f:Addr}{fd:FuncData}{dv:Value}{ps:List Str}(F:FunD K x qual st f fd dv){ds:List Value}
 (h:∀ (T:Addr) (kV doc pm:Value) (an:Option Addr) (cdv ct:Value) (us:List Value),(us ++ ds).length=ps.length->∃ k,bindArgs (PySem.W.fnOf x qual (defArgs st) (defBody st) (defScope st) (.ref T) kV doc pm an cdv ct) ⟨us,[]⟩=seqItems? (.ref T) >>= k/\k (some #[dv])=pure (ps.zip (us ++ ds))):Binds K fd ps ds:=by
 obtain⟨T,To,Td,Tn,Ts,oc,od,kV,doc,pm,an,cdv,ct,osl,rfl,lk,hcd,lT⟩:=F.ex
 intro s us hK hl
 obtain⟨k,h1,h2⟩:=h T kV doc pm an cdv ct us hl
 exact BindsTo.of_defaults (T:=T) rfl (hK _ _ lT) rfl h1 h2
end
section
variable {X:Cx}{C:Addr}{k j:Nat}{ps:List Str}{sp:Sp}{E:XK}{x:Str}{pos p:Pos}{e:Expr}{es:List Expr}{t:TA}{d:V}
end
structure FnD (K:PySem.W.Frag) (mg:Str->Option Value) (x:Str) (st:Stmt) (ps:List Str) (d:V):Prop where
 ex:∃ f fd dv,FunD K x x st f fd dv/\Binds K fd ps []/\Binds K fd ps [dv]/\RelV d dv/\PySem.W.keepIn K (.ref f)=true/\mg x=some (.ref f)
structure DefD (P:Program) (w:World) (K:PySem.W.Frag) (mg:Str->Option Value) (base:Heap) (x:Str) (k:Nat) (ps:List Str) (d:V) (sp:Sp):Prop where
 ex:∃ f fd dv,FnOk P w K mg base (CXD P w) k f fd ps sp/\Binds K fd ps [dv]/\RelV d dv/\PySem.W.keepIn K (.ref f)=true/\mg x=some (.ref f)
section
variable {P:Program}{w:World}{K:PySem.W.Frag}{mg:Str->Option Value}{base:Heap}
theorem FnD.ok3{x:Str}{st:Stmt}{N ps:List Str}{k:Nat}{d:V}{sp:Sp}(F:FnD K mg x st ps d)(S:FnScope N ps (defScope st))(len:∀ vs H Q E,sp vs H Q E->vs.length=ps.length)
 (hbody:∀ (f:Addr) (cdv:Value) (A:Around) (outer:List Env) (s:Shared) (H:Hp) (vs:List V) (Q:VK) (E:XK),Room k (A.deeper (envOfC x (defScope st) s.heap.objs.size f cdv))->sp vs H Q E ->
  ∃ t,PSs (cxI P w K mg base N x (defScope st) f cdv A outer s H E) (defBody st) t/\t { nx:=fun _ H'=>Q .non H',rt:=Q } (z2x N vs) H):Def2 P w K mg base x (k + 1) ps sp/\DefD P w K mg base x (k + 1) ps d sp:=by
 obtain⟨f,fd,dv,FF,b0,b1,r,kp,m⟩:=F.ex
 have ok:=FF.ok3 (k:=k) (sp:=sp) S len (fun cdv A outer s H vs Q E hr h=>hbody f cdv A outer s H vs Q E hr h)
 exact⟨⟨f,fd,ok,b0,kp,m⟩,⟨f,fd,dv,ok,b1,r,kp,m⟩⟩
end
section
variable {X:Cx}{k j:Nat}{ps:List Str}{sp:Sp}{x:Str}{p pos:Pos}{e:Expr}{es:List Expr}{t:TA}{E:XK}{d:V}
theorem y2a(D:DefD X.prog X.w X.K X.mg X.base x j ps d sp)(hr:Room k X.A)(hg:Gl X x)(hx:z5p (CXD X.prog X.w) X E)(ha:PA X (e :: es) t)(hjk:j<=k:=by decide)(hdb:(x == ("__debug__" : Str))=false:=by decide)
 (he:starEach (e :: es) X.env=(false,eval e X.env) :: starEach es X.env:=by rfl) (hpl:(backTo pos (starEach es X.env)).any (·.1)=false:=by rfl) :
 PE X (.Call (.Name x p) (e :: es) [] pos) (y0q sp [d] E t):=by
 obtain⟨f,fd,dv,F,b,r,kp,m⟩:=D.ex
 exact z8x F (hr.mono hjk) hg m kp b (.cons r .nil) hx ha hdb he hpl
end
section
variable {X:Cx}{C:Addr}{k j:Nat}{ps:List Str}{sp:Sp}{E:XK}{x n c m:Str}{p pos apos dpos cp hpos tpos:Pos}{e o:Expr}{es:List Expr}{ta:TE}{t:TA}{CH:Addr}{b0:Stmt}{suite:List Stmt}{ts:TS}{i:Nat}
end
section
variable {X:Cx}
end
section
variable {X:Cx}
end
section
variable {prog:Program}{w:World}{A:Around}{E:Value->Shared->Prop}{s:Shared}
end
section
variable {X:Cx}{pos:Pos}
end
end L2
namespace HT
open PySem PySem.Spec PyProof.Rows
section
variable {prog:Program}{w:World}{A:Around}{E:Value->Shared->Prop}{s:Shared}
end
end HT
namespace L2
open PySem PySem.Spec PyProof.Rows
section
variable {X:Cx}
end
section
variable {X:Cx}{pins:List (Addr×Obj)}{σ:St}{H1:Hp}{s1 s':Shared}{E:XK}{y n:Str}{CH:Addr}{np hpos:Pos}{b0:Stmt}{suite:List Stmt}{rest:List ExceptHandler}{D:Ends}{ts:TS}{i:Nat}
end
section
variable {X:Cx}{k j:Nat}{ps:List Str}{sp:Sp}{x y c:Str}{p pos py apos cp hpos tpos:Pos}{e:Expr}{es:List Expr}{t:TA}{CH:Addr}{b0:Stmt}{suite:List Stmt}{ts:TS}{i:Nat}
end
section
variable {X:Cx}
end
section
variable {X:Cx}{y n:Str}{CH:Addr}{np hpos:Pos}{b0:Stmt}{suite:List Stmt}{rest:List ExceptHandler}{ts:TS}{tr:TH}{i:Nat}
variable {c1 c2 c3:Str}{C1 C2 C3:Addr}{q1 q2 q3 tq:Pos}{kk:Nat}{body1:List Stmt}{nm1:Option Str}
end
section
variable {X:Cx}{st:Stmt}{sts:List Stmt}{t u:TX}{e:Expr}{te:TEX}{pos:Pos}
end
section
variable {X:Cx}{k j:Nat}{ps:List Str}{sp:Sp}{x:Str}{p pos:Pos}{e:Expr}{es:List Expr}{t:TA}{d:V}
end
section
variable {X:Cx}{body:List Stmt}{h0:ExceptHandler}{hs:List ExceptHandler}{tb:TX}{th:TH}{tpos:Pos}
end
section
variable {X:Cx}{a b c d:Expr}{ta tb tc td:TE}{pos:Pos}{x1:_}
theorem y1X:PE X (.Tuple [] x1 pos) (y9a y0p):=z3s z0f
theorem y6n(ha:PE X a ta)(hb:PE X b tb)(hc:PE X c tc)(h1:Pl X a [b,c])(h2:Pl X b [c])(h3:Pl X c []):PE X (.List [a,b,c] pos) (y5L (z2w ta (z2w tb (z2w tc y0p)))):=z3t (z0b ha (z0b hb (z0b hc z0f h3) h2) h1)
theorem z2G{e:Expr}{te:TE}(he:PE X e te):PS X (.Return (some e) pos) (y9c te):=z0X he
end
section
variable {X:Cx}{a b c d:Expr}{ta tb tc td:TE}{pos:Pos}{x1:_}
end
def MkD(H0:Hp)(σ:St)(te:TE)(d:D):Prop:=∀ H,Same H0 H->∀ Q:VK,(∀ v H',Same H H'->IsD [] H' d v->Q v H')->te σ H Q
def MkL(H0:Hp)(σ:St)(ta:TA)(ds:List D):Prop:=∀ H,Same H0 H->∀ Q:List V->Hp->Prop,(∀ vs H',Same H H'->IsDs [] H' ds vs->Q vs H')->ta σ H Q
def rA3:R2:=fun x y H Q=>(rI0 (fun i j => .int (i + j)) x y H Q)\/(∃ i j,x = .str i/\y = .str j/\i.length + j.length<=sizeLine/\Q (.str (i ++ j)) H)\/∃ (l b:Addr) (xs zs:List V),x = .ref l/\y = .ref b/\Rd H l (.lst xs)/\Rd H b (.lst zs)/\xs.length + zs.length<=sizeLine/\∀ p,H p=none->Q (.ref p) (upd H p (.lst (xs ++ zs)))
theorem y8b{X:Cx}:OpR X (binaryOp .Add) rA3:=z1j.or (z0x.or y6o)
section
variable {H0:Hp}{σ:St}{te ta tb:TE}{tr:TA}{d d':D}{ds as bs:List D}{x y:Str}{i n m:Nat}
theorem z1W{k:Int}:MkD H0 σ (tC (.int k)) (.int k):=fun H _ Q q=>q _ H (Same.refl _) rfl
theorem y2q{v:V}(h:σ[i]? = some (some v))(hd:IsD [] H0 d v):MkD H0 σ (y0Z i) d:=fun H s Q q=>⟨v,h,q v H (Same.refl _) (hd.same s)⟩
theorem z4V{k:Int}(h:σ[i]? = some (some (.int k))):MkD H0 σ (y0Z i) (.int k):=y2q h rfl
theorem y2p:MkL H0 σ y0p []:=fun H _ Q q=>q [] H (Same.refl _) rfl
theorem z4s(h:MkD H0 σ te d)(h':MkL H0 σ tr ds):MkL H0 σ (z2w te tr) (d :: ds):=fun H s Q q=>h H s _ fun v H1 s1 dv=>h' H1 (s.trans s1) _ fun vs H2 s2 dvs=>q _ _ (s1.trans s2) ⟨v,vs,rfl,dv.same s2,dvs⟩
theorem y5n(h:MkL H0 σ tr ds)(hl:ds.length<=sizeLine):MkD H0 σ (y5L tr) (.lst ds):=fun H s Q q=>h H s _ fun vs H1 s1 dvs=>⟨by rw[dvs.length];exact hl,fun p fp=>q _ _ (s1.trans (z0e fp _)) ⟨p,vs,rfl,.inl (.inl z0a),dvs.same (z0e fp _)⟩⟩
theorem IsDs.cat{K:PySem.W.Frag}{H:Hp}:∀ {as bs:List D}{xs ys:List V},IsDs K H as xs->IsDs K H bs ys->IsDs K H (as ++ bs) (xs ++ ys)
 | [],_,_,_,h,h'=>by have h:_=[]:=h;subst h;exact h'
 | _ :: _,_,_,_,⟨x,r,e,h1,h2⟩,h'=>by subst e;exact⟨x,_,rfl,h1,IsDs.cat h2 h'⟩
theorem y2s(ha:MkD H0 σ ta (.lst as))(hb:MkD H0 σ tb (.lst bs))(hl:as.length + bs.length<=sizeLine):MkD H0 σ (tOp rA3 ta tb) (.lst (as ++ bs)):=fun H s Q q=>ha H s _ fun v H1 s1 dv=>hb H1 (s.trans s1) _ fun v' H2 s2 dv'=>by
 obtain⟨l,xs,rfl,sl,dxs⟩:=dv.same s2
 obtain⟨b,ys,rfl,sb,dys⟩:=dv'
 refine .inr (.inr ⟨l,b,xs,ys,rfl,rfl,z6g sl,z6g sb,by rw[dxs.length,dys.length];exact hl,fun p fp=>?_⟩)
 have u:=z0e fp (.lst (xs ++ ys))
 exact q _ _ ((s1.trans s2).trans u) ⟨p,_,rfl,.inl (.inl z0a),IsDs.cat (dxs.same u) (dys.same u)⟩
theorem z9V{n:Nat}(h:n<=100):n<=sizeLine:=jY h (by decide)
theorem z5H{u:TS}{D':Ends}{H:Hp}(h:MkD H σ te d)(hu:∀ v H',Same H H'->IsD [] H' d v->u D' (σ.set i (some v)) H'):y7f (y1m te (z0Y i)) u D' σ H:=h H (Same.refl _) _ hu
end
section
variable {X:Cx}
end
section
variable {H0:Hp}{σ:St}{te:TE}{i n m:Nat}{sep:Str}{ts:List Str}
theorem z3B{K:PySem.W.Frag}{H:Hp}:∀ {ns:List Str}{ys:List V},IsDs K H (ns.map D.str) ys->ys=ns.map V.str
 | [],_,h=>h
 | _ :: ns,_,⟨x,r,e1,e2,e3⟩=>by
  have e2:x = .str _:=e2
  have e3:=z3B (ns:=ns) e3
  rw[e1,e2,e3];rfl
theorem sq0{K:PySem.W.Frag}{H:Hp}{a:Addr}{xs:List V}(h:SqL [] H a xs):SqL K H a xs := .inl (z6g h)
end
section
variable {H0:Hp}{σ:St}{te ta tb:TE}{c t u:TT}{tr:TA}{d da db:D}{ds:List D}{a b:Bool}{i j:Int}
theorem y8i{r:R2}(ha:MkD H0 σ ta da)(hb:MkD H0 σ tb db)(hr:∀ x y H,Same H0 H->IsD [] H da x->IsD [] H db y->∀ Q:VK,(∀ v H',Same H H'->IsD [] H' d v->Q v H')->r x y H Q):MkD H0 σ (tOp r ta tb) d:=fun H s Q q=>ha H s _ fun x H1 s1 dx=>hb H1 (s.trans s1) _ fun y H2 s2 dy=>hr x y H2 ((s.trans s1).trans s2) (dx.same s2) dy Q fun v H' s' dv=>q v H' ((s1.trans s2).trans s') dv
theorem y6A{g:Int->Int->V}(ha:MkD H0 σ ta (.int i))(hb:MkD H0 σ tb (.int j))(hd:∀ H,IsD [] H d (g i j)):MkD H0 σ (tOp (rI0 g) ta tb) d:=y8i ha hb fun _ _ H _ dx dy _ q=>⟨i,j,dx,dy,q _ H (Same.refl _) (hd H)⟩
theorem y0B{C:Int->Int->Prop}{g:Int->Int->V}(ha:MkD H0 σ ta (.int i))(hb:MkD H0 σ tb (.int j))(hC:C i j)(hd:∀ H,IsD [] H d (g i j)):MkD H0 σ (tOp (rI C g) ta tb) d:=y8i ha hb fun _ _ H _ dx dy _ q=>⟨i,j,dx,dy,hC,q _ H (Same.refl _) (hd H)⟩
theorem y8j{K:PySem.W.Frag}(h:MkD H0 σ te (.lst ds)):MkD H0 σ (tCB (fun xs H Q=>∃ x n,xs=[x]/\y8T K x H n/\Q (.int (n:Nat)) H) (z2w te y0p)) (.int ((ds.length:Nat):Int)):=fun H s Q q=>h H s _ fun v H1 s1 dv=>by
 obtain⟨l,xs,rfl,sq,dxs⟩:=dv
 exact⟨_,_,rfl,.inl ⟨xs,.inl (z6g sq),dxs.length.symm⟩,q _ _ s1 rfl⟩
end
end L2
namespace PySem
open PyProof.Rows L2
abbrev tk(prog:Program)(w:World):HeapKind prog w (List Key):=tupleKind (z0F prog w)
theorem y3B{prog:Program}{w:World}{h h':Heap}{k:List Key}{a:Addr}(i:(tk prog w).is h k a)(e:∀ o,h.get? a=some o->h'.get? a=some o):(tk prog w).is h' k a:=by
 obtain⟨o,its,n,h1,h2⟩:=i
 exact⟨o,its,n,e o h1,h2⟩
def z8G(xs more:List (List Key×Addr×Value)):List (List Key×Addr×Value):=more.foldl (fun acc kv=>storedH acc kv.1 kv.2.1 kv.2.2) xs
theorem z8j(xs:List (List Key×Addr×Value))(k:List Key)(a:Addr)(v:Value):(storedH xs k a v).length<=xs.length + 1:=by
 unfold storedH
 split <;> simp
def y8N(prog:Program)(w:World)(h:Heap)(x:Value)(kv:List Key×Addr×Value):Prop:=∃ b o m,x = .ref b/\h.get? b=some o/\o.cls = .type "tuple" /\ o.data = .seq #[.ref kv.2.1,kv.2.2] m/\(tk prog w).is h kv.1 kv.2.1
theorem y1f{prog:Program}{w:World}{A:Around}{R:Result->Shared->Prop}{d l I:Addr}{items:Array Value}(hu:A.units + 1 < cLine)(hh:A.handled=none)(hlI:l≠I)(hdI:d≠I)(hdl:d≠l)(more:List (List Key×Addr×Value))(hn:items.size=more.length) :
 ∀ (k i:Nat) (s:Shared) (kvs:List (List Key×Addr×Value)),more.length - i=k->i<=more.length->(s.heap.IsListIter I l i/\s.heap.IsList l items)->s.heap.DictOfH (tk prog w) d kvs->kvs.length + (more.length - i)<=sizeLine ->
  (∀ (j:Nat) (x:Value) (kv:List Key×Addr×Value),items[j]? = some x->more[j]? = some kv->y8N prog w s.heap x kv)->(∀ (j:Nat) (b:Addr),items[j]? = some (.ref b)->b≠d/\b≠I)->(∀ kv∈more,kv.2.1≠d/\kv.2.1≠I)->(∀ kv∈kvs,kv.2.1≠d/\kv.2.1≠I) ->
  (∀ h' tk',h'.DictOfH (tk prog w) d (z8G kvs (more.drop i))->(∀ b o,b≠d->b≠I->s.heap.get? b=some o->h'.get? b=some o)->R (.ok (.ret .none)) { s with heap:=h',toks:=tk' }) ->
  codeAny (model prog w) A (.builtin "dict.update.loop" ⟨[.ref d,.ref I,rawInt i,.none],[]⟩) R s:=by
 have W:=Walks.list (prog:=prog) (w:=w) (A:=A.in1) hh I l hlI items
 have move:∀ {h h':Heap}{xs:List (List Key×Addr×Value)},h.DictOfH (tk prog w) d xs->(∀ kv∈xs,kv.2.1≠d/\kv.2.1≠I)->(∀ b o,b≠I->h.get? b=some o->h'.get? b=some o)->h'.DictOfH (tk prog w) d xs:=fun {h h' xs} hd ne hk=>by
  obtain⟨o,es,ep,ho,h1,h2,h3,h4,h5⟩:=hd
  exact⟨o,es,ep,hk d o hdI ho,h1,h2,h3,fun x hx=>y3B (h4 x hx) fun o e=>hk _ o (ne x hx).2 e,h5⟩
 intro k
 induction k with
 | zero =>
  intro i s kvs hk hi hst hd hz hp hne hka hkk hR
  have hin:i=items.size:=by omega
  refine codeAny_builtin z2k ?_
  rw[Around.under_plainId z0V _]
  show wpAny _ A.in1 (pyNext (.ref I) >>= _) _ _ s
  refine wpAny_bind (W.done s _ _ (hin ▸ hst) fun h' tk' hk'=>?_)
  have kd:∀ b o,b≠d->b≠I->s.heap.get? b=some o->h'.get? b=some o:=fun b o _ hb e=>hk' b o (by simpa using hb) e
  show wpAny _ A.in1 (Builtin.Dict.addKeywords d [] >>= _) _ _ _
  refine wpAny_bind (wpAny_pure (wpAny_pure (hR _ _ ?_ kd)))
  rw[kU (by omega)]
  exact move hd hkk fun b o hb e=>hk' b o (by simpa using hb) e
 | succ k ih =>
  intro i s kvs hk hi hst hd hz hp hne hka hkk hR
  have hlt:i < more.length:=by omega
  refine codeAny_builtin z2k ?_
  rw[Around.under_plainId z0V _]
  show wpAny _ A.in1 (pyNext (.ref I) >>= _) _ _ s
  refine wpAny_bind (W.item i s _ _ (by omega) hst fun v h' tk' hP hst' hk'=>?_)
  have hv:items[i]? = some v:=by simpa using hP
  have hm:more[i]? = some more[i]:=jD hlt
  have mi:more[i]∈more:=kD hlt
  obtain⟨b,o,m,rfl,hb,hc,hdat,hky⟩:=hp i v _ hv hm
  obtain⟨bd,bI⟩:=hne i b hv
  have hk2:∀ b o,b≠I->s.heap.get? b=some o->h'.get? b=some o:=fun b o hb e=>hk' b o (by simpa using hb) e
  have hb':=hk2 b o bI hb
  have hd':=move hd hkk hk2
  show wpAny _ A.in1 (holding [.ref b] (tryCatch (Builtin.Dict.pairItems (.ref b)) _ >>= _) >>= _) _ _ _
  refine wpAny_bind (wpAny_holding (wpAny_bind (wpAny_tryCatch ?_)))
  unfold Builtin.Dict.pairItems
  refine wpAny_bind (wpAny_typeOf ⟨o,hb',hc⟩ ?_)
  rw[if_pos (by decide)]
  refine wpAny_bind (wpAny_seqItems hb' hdat (wpAny_pure ?_))
  show wpAny _ A.in1 (holding [.ref more[i].2.1,more[i].2.2] (dictSet d (.ref more[i].2.1) more[i].2.2)) _ _ _
  have hz':kvs.length<=sizeLine:=by omega
  refine wpAny_holding (wpAny_dictSet_heap (hsz:=hz') (tupleKind_room_in1 hu) (y3B hky fun o e=>hk2 _ o (hka _ mi).2 e) hd' fun h2 hd2 hs2=>?_)
  have kp2:∀ b o,b≠d->b≠I->s.heap.get? b=some o->h2.get? b=some o:=fun b o h1 h3 e=>(hs2.2 b h1).trans (hk2 b o h3 e)
  have hstl:=z8j kvs more[i].1 more[i].2.1 more[i].2.2
  refine wpAny_pure ⟨plainId_quiet z0V _,?_⟩
  have hint:rawInt ((i:Int) + 1)=rawInt ((i + 1:Nat):Int):=by push_cast;rfl
  rw[hint]
  refine ih (i + 1) _ (storedH kvs more[i].1 more[i].2.1 more[i].2.2) (by omega) hlt ⟨?_,?_⟩ hd2 (by omega) (fun j x kv e1 e2=>?_) hne hka (fun kv hkv=>?_) fun h3 tk3 hd3 k3=>hR h3 tk3 ?_ fun b o h1 h4 e=>k3 b o h1 h4 (kp2 b o h1 h4 e)
  · exact hst'.1.at fun o e=>(hs2.2 I (Ne.symm hdI)).trans e
  · obtain⟨ol,e,r⟩:=hst'.2
    exact⟨ol,(hs2.2 l (Ne.symm hdl)).trans e,r⟩
  · obtain⟨b,o,m,rfl,hb,r1,r2,r3⟩:=hp j x kv e1 e2
    obtain⟨bd,bI⟩:=hne j b e1
    have km:=hka kv (jk e2)
    exact⟨b,o,m,rfl,kp2 b o bd bI hb,r1,r2,y3B r3 fun o e=>kp2 _ o km.1 km.2 e⟩
  · have:kv.2.1=more[i].2.1\/∃ y∈kvs,kv.2.1=y.2.1:=by
     unfold storedH at hkv
     split at hkv
     · obtain⟨y,hy,rfl⟩:=jN.mp hkv
       unfold putAt
       split
       · exact .inr ⟨y,hy,rfl⟩
       · exact .inr ⟨y,hy,rfl⟩
     · rcases jL.mp hkv with z | z
       · exact .inr ⟨kv,z,rfl⟩
       · rw[jM.mp z];exact .inl rfl
    rcases this with e | ⟨y,hy,e⟩
    · rw[e];exact hka _ mi
    · rw[e];exact hkk y hy
  · rw[kW hlt]
    exact hd3
end PySem
namespace L2
open PySem PySem.W PySem.Spec PyProof.Rows
def z4i(kvs more:List (List Key×V)):List (List Key×V):=more.foldl (fun acc kv=>z2u acc kv.1 kv.2) kvs
theorem z3y:∀ (more kvs:List (List Key×V)),(z4i kvs more).length<=kvs.length + more.length
 | [],kvs=>jE _
 | kv :: more,kvs=>by
  have:=z3y more (z2u kvs kv.1 kv.2)
  have:=z1O kvs kv.1 kv.2
  show (z4i (z2u kvs kv.1 kv.2) more).length<=_
  rw[jx];omega
theorem KT.merge{H:Hp}:∀ {more:List (List Key×V)}{more':List (List Key×Addr×Value)}{kvs:List (List Key×V)}{xs:List (List Key×Addr×Value)},KT H more more'->KT H kvs xs->KT H (z4i kvs more) (z8G xs more')
 | [],[],_,_,.nil,r=>r
 | kv :: _,q :: _,_,_,.cons h t,r=>by
  obtain⟨h1,h2,h3⟩:=h
  have:=r.put kv.1 (b:=q.2.1) h2 h3
  rw[h1]at this
  have z:=KT.merge t this
  rw[<- h1]at z
  show KT H (z4i (z2u _ kv.1 kv.2) _) (z8G (storedH _ q.1 _ _) _)
  rw[<- h1]
  exact z
def y0h(H:Hp)(y:V)(kv:List Key×V):Prop:=∃ c b,y = .ref c/\H c=some (.tup [.ref b,kv.2])/\H b=some (.tup (kv.1.map kV))
section
variable {X:Cx}{pins:List (Addr×Obj)}{σ:St}{H:Hp}{s:Shared}
theorem z7x(I:Inv X pins σ H s):∀ {ys:List V}{its:List Value}{more:List (List Key×V)},Vals ys its->Paired (y0h H) ys more ->
 ∃ more',KT H more more'/\(∀ kv∈more',∃ q,H kv.2.1=some (.tup q))/\∀ (j:Nat) (x:Value) (kv':List Key×Addr×Value),its[j]? = some x->more'[j]? = some kv'->y8N X.prog X.w s.heap x kv'
 | _,_,_,.nil,.nil=>⟨[],.nil,fun _ h=>(nomatch h),fun j x kv' e1 e2=>by simp at e1⟩
 | _ :: _,_ :: _,kv :: _,.cons r rs,.cons p ps=>by
  obtain⟨more',h1,h0,h2⟩:=z7x I rs ps
  obtain⟨c,b,rfl,hc,hb⟩:=p
  cases r
  obtain⟨its2,rv,⟨o,ho,hcl,m,hd⟩,_⟩:=I.tuple (X:=X) (.of hc)
  match its2,rv,hd with
  | [ky,v],.cons r1 (.cons r2 .nil),hd =>
   cases (show ky=Value.ref b from r1)
   refine⟨(kv.1,b,v) :: more',.cons ⟨rfl,hb,r2⟩ h1,fun y hy=>?_,fun j x kv' e1 e2=>?_⟩
   · rcases jQ.mp hy with rfl | hy
     · exact⟨_,hb⟩
     · exact h0 y hy
   · cases j with
     | zero =>
      simp at e1 e2
      subst e1 e2
      exact⟨c,o,m,rfl,ho,hcl,hd,z3A I.hok hb⟩
     | succ j=>exact h2 j x kv' (by simpa using e1) (by simpa using e2)
theorem z9B:∀ {ys:List V}{its:List Value}{more:List (List Key×V)},Vals ys its->Paired (y0h H) ys more->∀ (j:Nat) (b:Addr),its[j]? = some (.ref b)->∃ q,H b=some (.tup q)
 | _,_,_,.nil,.nil=>fun j b e=>by simp at e
 | _,_,_,.cons r rs,.cons p ps=>fun j b e=>by
  cases j with
  | zero =>
   obtain⟨c,_,rfl,hc,_⟩:=p
   cases r
   simp at e
   exact⟨_,e ▸ hc⟩
  | succ j=>exact z9B rs ps j b (by simpa using e)
theorem y8G{l:Addr}{more:List (List Key×V)}{ys:List V}{E:Value->Shared->Prop}{Q:Value->Shared->Prop}(hu:X.A.units + 2 < cLine)(hh:X.A.handled=none)(I:Inv X pins σ H s)(el:H l=some (.lst ys))(hp:Paired (y0h H) ys more)(z:more.length<=sizeLine)
 (h:∀ a s',H a=none->Inv X pins σ (upd H a (.dT (z4i [] more))) s'->Q (.ref a) s'):wpAny (model X.prog X.w) X.A (call (.type "dict") [.ref l]) Q E s:=by
 refine callType_codes (Q₁:=fun obj s₁=>obj = .ref s.heap.objs.size/\s₁={ s with heap:=s.heap.push { cls := .type "dict",data := .dict #[] } }) F.kt_called_dict (F.kt_typeCall_dict_1 _) F.entry_dict_init (kt_code_dict_new _ ⟨rfl,rfl⟩) ?_
 rintro obj s₁ ⟨rfl,rfl⟩
 have od:(s.heap.push { cls := .type "dict",data := .dict #[] }).get? s.heap.objs.size=some { cls := .type "dict",data := .dict #[] }:=jO _ rfl
 have ty0:(Shared.TypeIs { s with heap:=s.heap.push { cls := .type "dict",data := .dict #[] } } (.ref s.heap.objs.size) "dict"):=⟨_,od,rfl⟩
 have fr:H s.heap.objs.size=none:=I.hok.fresh (jE _)
 have hd:(s.heap.objs.size == sysModules)=false:=beq_eq_false_iff_ne.mpr (Ne.symm (jU I.big))
 obtain⟨_,its,n,r,hl,eo⟩:=I.lstM el
 obtain⟨more',km,kt,pin⟩:=z7x I r hp
 have ref:=z9B r hp
 have kml:=Paired.length km
 have hlm:its.toArray.size=more'.length:=by rw[jI,<- hl,Paired.length hp,kml]
 have kp0:∀ b o,s.heap.get? b=some o->(s.heap.push { cls := .type "dict",data := .dict #[] }).get? b=some o:=fun b o e=>jB _ e
 refine⟨ty0,F.args_dict_init_2 _ _,?_⟩
 unfold Builtin.«dict.__init__»
 refine wpAny_bind ?_
 unfold Builtin.Dict.selfAndRest
 refine wpAny_bind (wpAny_notOrdered_dict ty0 ?_)
 show wpAny _ _ (pure (s.heap.objs.size,[Value.ref l])) _ _ _
 refine wpAny_pure ?_
 show wpAny _ _ (Builtin.Dict.updateFrom "dict.__init__" s.heap.objs.size (.ref l) [] .none) _ _ _
 have lt0:∀ b o,s.heap.get? b=some o->b < s.heap.objs.size:=fun b o e=>jJ e
 generalize s.heap.push { cls := .type "dict",data := .dict #[] }=g at od kp0
 have eo0:=kp0 _ _ eo
 unfold Builtin.Dict.updateFrom
 refine wpAny_bind (wpAny_typeOf (T := "list") ⟨_,eo0,rfl⟩ ?_)
 rw[if_pos (by decide)]
 refine wpAny_bind (y3g eo0 rfl rfl rfl (show X.A.in1.in1.handled=none from hh) fun h1 tk1 k1=>?_)
 simp only[Option.isNone_none,if_true]
 refine wpAny_bind (wpAny_rule ?_)
 have eo1:=k1 _ _ eo0
 have li:h1.IsList l its.toArray:=⟨_,eo1,rfl,_,rfl⟩
 refine wpAny_bind (wpAny_pyIter_list (s:={ s with heap:=h1,toks:=tk1 }) li ?_)
 have hlI:l≠h1.objs.size:=jU (jJ eo1)
 have od1:=k1 _ _ od
 have hdI:s.heap.objs.size≠h1.objs.size:=jU (jJ od1)
 have hdl:s.heap.objs.size≠l:=fun q=>by rw[q,el]at fr;cases fr
 have old:∀ b q,H b=some (.tup q)->b≠s.heap.objs.size/\b≠h1.objs.size:=fun b q hq=>by
  refine⟨fun z=>(by rw[z,fr]at hq;cases hq),jU ?_⟩
  obtain⟨o,ho⟩:∃ o,s.heap.get? b=some o:=by
   obtain⟨its2,rv,⟨o,ho,_⟩,_⟩:=I.tuple (X:=X) (.of hq)
   exact⟨o,ho⟩
  exact jJ (k1 _ _ (kp0 _ _ ho))
 refine wpAny_pure ⟨plainId_quiet z0V _,y1f (prog:=X.prog) (w:=X.w) (A:=X.A.in1) (d:=s.heap.objs.size) (l:=l) (items:=its.toArray) (show X.A.units + 1 + 1 < cLine from hu) (show X.A.in1.handled=none from hh) hlI hdI hdl more' hlm _ 0 _ [] rfl (jg _) ⟨⟨_,jO _ rfl,rfl,rfl⟩,⟨_,jB _ eo1,rfl,_,rfl⟩⟩ ?_ ?_ (fun j x kv e1 e2=>?_) (fun j b e1=>?_) (fun kv hkv=>?_) (fun _ h=>nomatch h) fun h' tk dd' kp=>?_⟩
 · exact⟨_,#[],0,jB _ od1,⟨rfl,rfl,rfl⟩,rfl,rfl,fun _ h=>(nomatch h),List.nodup_nil⟩
 · rw[Nat.sub_zero,<- kml];simpa using z
 · obtain⟨b,o,m,rfl,hb,r1,r2,r3⟩:=pin j x kv (by simpa using e1) e2
   exact⟨b,o,m,rfl,jB _ (k1 _ _ (kp0 _ _ hb)),r1,r2,y3B r3 fun o e=>jB _ (k1 _ _ (kp0 _ _ e))⟩
 · obtain⟨q,hq⟩:=ref j b (by simpa using e1)
   exact old b q hq
 · obtain⟨q,hq⟩:=kt kv hkv
   exact old _ q hq
 · rw[qM]at dd'
   obtain⟨q,es,ep,hq,h2,h3,h4,_,h5⟩:=dd'
   refine⟨rfl,h s.heap.objs.size _ fr (I.laid (t':=tk) (fun b u hu=>kp b u (jU (lt0 b u hu)) (jU (jJ (k1 b u (kp0 _ _ hu)))) (jB _ (k1 b u (kp0 _ _ hu)))) (jE _) ⟨jY (z3y more []) (by simpa using z),hd,_,(km.merge .nil).keeps fun c ys ec=>?_,q,es,ep,hq,h2,h3,h4,h5⟩)⟩
   rw[z0k (fun z=>by rw[z,fr]at ec;cases ec)]
   exact ec
theorem y0P(hu:X.A.units + 2 < cLine)(hc:X.calm=true):CallR X (.type "dict") (fun vs H Q=>∃ (l:Addr) (ys:List V) (more:List (List Key×V)),vs=[.ref l]/\H l=some (.lst ys)/\Paired (y0h H) ys more/\more.length<=sizeLine/\∀ p,H p=none->Q (.ref p) (upd H p (.dT (z4i [] more)))):=by
 intro pins s σ H xs us Q I r h
 obtain⟨l,ys,more,rfl,el,hp,z,q⟩:=h
 obtain⟨u,rfl,ru⟩:=z3H r
 cases ru
 exact y8G hu (I.ok.hd hc) I el hp z fun p s' hp I'=>⟨.ref p,_,I',rfl,q p hp⟩
end
end L2
namespace PySem
open MeetsSeq MeetsSeq2 MeetsSeq3 SeqRoads2
theorem z5a(l:Addr)(as:Array Value)(n:Nat)(t:Addr)(bs:Array Value)(n2:Nat)(dd:Option Addr)(sl:Array (Option Value))(long:¬(!as.isEmpty && Builtin.List.listTooLong (as.size + bs.size))=true)(h1:as.size<=sizeLine)(h2:as.size + bs.size<=sizeLine + 1) :
 Meets (Builtin.«list.extend» ⟨[.ref l,.ref t],[]⟩) (fun _ R s=>s.heap.get? l=some { cls := .type "list",data := .seq as n }/\s.heap.get? t=some { cls := .type "tuple",dict:=dd,data := .seq bs n2,slots:=sl }/\R (.ok (.ret Value.none)) { s with heap:=s.heap.update l (Obj.mapSeq fun x=>x ++ bs) }) :=
 .of_wp fun _ _ _ R s h=>by
  obtain⟨h0,g0,d0,k0,o0⟩:=s
  obtain⟨eL,eT,q⟩:=h
  have a1:=AutoSeq1.sub_list_list
  have a2:=AutoSeq1.sub_tuple_list
  have a3:=AutoSeq1.sub_tuple_tuple
  have sz2:(as ++ bs).size<=sizeLine + 1:=by
   rw[Array.size_append]
   exact h2
  wp_walk using (wpAny_updateSeq eL rfl (hz:=h1) (_hz':=sz2)),AutoSeq1.wpAny_loadPart' eL,AutoSeq1.wpAny_loadPart' eT
  exact⟨_,rfl,q⟩
end PySem
namespace L2
open PySem PySem.Spec PyProof.Rows
section
variable {X:Cx}
def y9n(K:PySem.W.Frag):V->List V->Hp->VK->Prop:=fun x vs H Q=>∃ l b xs zs,x = .ref l/\vs=[.ref b]/\H l=some (.lst xs)/\SqT K H b zs/\xs.length + zs.length<=sizeLine/\Q .non (upd H l (.lst (xs ++ zs)))
theorem y0z(K:PySem.W.Frag)(hK:X.K=K):MtM X "list.extend" (y9n K):=by
 intro pins s σ H x vs v us Q I rx rv h
 obtain⟨l,b,xs,zs,rfl,rfl,hH,hB,hz,q⟩:=h
 cases rx
 obtain⟨u,rfl,ru⟩:=rv.one
 cases ru
 obtain⟨z,its,n,r,hl,e⟩:=I.lstM hH
 obtain⟨its2,r2,⟨o,e2,hc,n2,hd⟩,_⟩:=I.tuple (hK ▸ hB)
 have hl2:=r2.length
 have hsz:its.toArray.size + its2.toArray.size<=sizeLine:=by rw[jI,jI];omega
 have hlong:¬ (!its.toArray.isEmpty && Builtin.List.listTooLong (its.toArray.size + its2.toArray.size))=true:=by
  rw[y4d hsz,Bool.and_false]
  exact jR
 obtain⟨oc,od,oda,os⟩:=o
 cases hc
 cases hd
 refine call_meets F.slot_list_extend ⟨_,e,rfl⟩ F.entry_list_extend (F.args_list_extend_2 _ _)
  (z5a l its.toArray n b its2.toArray n2 od os hlong (by rw[jI];omega) (by omega)) ⟨e,e2,?_⟩
 refine⟨.non,_,I.lset (its':=its ++ its2) hH e (by simp) (r.append r2) ?_,rfl,q⟩
 rw[jG]
 omega
end
end L2
set_option Elab.async false
set_option linter.all false
set_option maxRecDepth 100000
set_option maxHeartbeats 4000000
namespace Fd
open PySem L2
def top(i:Nat):Stmt:=PySem.Challenge.pw_fairdraw_k46_whole_any_order.main.body.getD i (.Pass ⟨0,0,0,0⟩)
abbrev z2C:Stmt:=top 5
abbrev z2d:Stmt:=top 6
abbrev z2f:Stmt:=top 7
abbrev z7p:Stmt:=top 8
abbrev z4J:Stmt:=top 9
abbrev z3q:Stmt:=top 11
abbrev z1J:Stmt:=top 12
abbrev z2e:Stmt:=top 13
abbrev z2z:Stmt:=top 14
abbrev z1T:Stmt:=top 15
abbrev z3n:Stmt:=top 16
abbrev z1t:Stmt:=top 18
abbrev z0K:Stmt:=top 19
abbrev z1L:Stmt:=top 21
abbrev z2c:Stmt:=top 22
abbrev z4K:Stmt:=top 23
abbrev z3o:Stmt:=top 24
abbrev z3p:Stmt:=top 25
abbrev z2A:Stmt:=top 26
abbrev z2b:Stmt:=top 27
abbrev z2B:Stmt:=top 28
abbrev z1K:Stmt:=top 29
abbrev z4L:Stmt:=top 30
abbrev z5t:Stmt:=top 31
structure Bl (mg:Str->Option Value):Prop where
 abs:mg "abs" = none
 bool:mg "bool" = none
 dict:mg "dict" = none
 int:mg "int" = none
 isinstance:mg "isinstance" = none
 len:mg "len" = none
 list:mg "list" = none
 range:mg "range" = none
 reversed:mg "reversed" = none
 set:mg "set" = none
 sorted:mg "sorted" = none
 str:mg "str" = none
 tuple:mg "tuple" = none
def x0n(s:Stmt):List Stmt:=match s with | .ClassDef _ _ _ b _ _ _ _ _ _ _=>b | _=>[]
abbrev z1c:Stmt:=(x0n (top 3)).getD 0 (.Pass ⟨0,0,0,0⟩)
theorem z8p:FnScope ["self", "most"] ["self", "most"] (defScope z1c):=⟨rfl,rfl,rfl,by decide +kernel,rfl,by decide +kernel,by decide +kernel⟩
theorem z8J{P:Program}{w:World}{K:PySem.W.Frag}{mg:Str->Option Value}{base:Heap}{C fI:Addr}{fd:FuncData}(F:Fun K "__init__" "TooMany.__init__" z1c fI fd)(st:ExcSt K C)(na:NoAttr K C "most"):FnOk P w K mg base CX0 1 fI fd ["self", "most"] (spIni C "most"):=by
 refine F.ok z8p (fun vs H Q E h=>?_) (fun cdv A outer s H vs Q E hr h=>?_)
 · obtain⟨e,v,t,rfl,_⟩:=h;rfl
 obtain⟨e,v,t,rfl,he,q⟩:=h
 exact⟨_,z0h (y6k rfl (pv 0) (pv 1) rfl),_,rfl,_,rfl,e,C,t,rfl,he,st,na,fun dx hd=>q dx hd⟩
theorem z1E:FnScope ["one", "other", "rest"] ["one", "other"] (defScope z2C):=⟨rfl,rfl,rfl,by decide +kernel,rfl,by decide +kernel,by decide +kernel⟩
theorem z8q:FnScope ["thing"] ["thing"] (defScope z2d):=⟨rfl,rfl,rfl,by decide +kernel,rfl,by decide +kernel,by decide +kernel⟩
theorem z2Y:FnScope ["top", "bottom", "common"] ["top", "bottom"] (defScope z2f):=⟨rfl,rfl,rfl,by decide +kernel,rfl,by decide +kernel,by decide +kernel⟩
theorem z4H:FnScope ["one", "other", "common", "own", "others", "rest"] ["one", "other"] (defScope z7p):=⟨rfl,rfl,rfl,by decide +kernel,rfl,by decide +kernel,by decide +kernel⟩
theorem z6p:FnScope ["one", "other", "left", "right"] ["one", "other"] (defScope z4J):=⟨rfl,rfl,rfl,by decide +kernel,rfl,by decide +kernel,by decide +kernel⟩
theorem y1G:FnScope ["values", "places"] ["values", "places"] (defScope z3q):=⟨rfl,rfl,rfl,by decide +kernel,rfl,by decide +kernel,by decide +kernel⟩
theorem z7n:FnScope ["names", "some"] ["names", "some"] (defScope z1J):=⟨rfl,rfl,rfl,by decide +kernel,rfl,by decide +kernel,by decide +kernel⟩
theorem z1I:FnScope ["rows", "places", "shares", "values", "share", "rest"] ["rows", "places"] (defScope z2e):=⟨rfl,rfl,rfl,by decide +kernel,rfl,by decide +kernel,by decide +kernel⟩
theorem z3L:FnScope ["rows", "places", "by_values", "row"] ["rows", "places"] (defScope z2z):=⟨rfl,rfl,rfl,by decide +kernel,rfl,by decide +kernel,by decide +kernel⟩
theorem z0P:FnScope ["one", "other", "most", "names", "common", "own_places", "places", "matching", "rows", "values", "share", "others", "other_share"] ["one", "other", "most"] (defScope z1T):=⟨rfl,rfl,rfl,by decide +kernel,rfl,by decide +kernel,by decide +kernel⟩
theorem z7m:FnScope ["table", "name", "rest"] ["table", "name"] (defScope z3n):=⟨rfl,rfl,rfl,by decide +kernel,rfl,by decide +kernel,by decide +kernel⟩
theorem z1B:FnScope ["tables", "most", "so_far", "table"] ["tables", "most"] (defScope z1t):=⟨rfl,rfl,rfl,by decide +kernel,rfl,by decide +kernel,by decide +kernel⟩
theorem z0U:FnScope ["tables", "order", "most", "left", "name", "last", "having"] ["tables", "order", "most"] (defScope z0K):=⟨rfl,rfl,rfl,by decide +kernel,rfl,by decide +kernel,by decide +kernel⟩
theorem z7o:FnScope ["_law_script", "_law_k"] ["_law_script", "_law_k"] (defScope z1L):=⟨rfl,rfl,rfl,by decide +kernel,rfl,by decide +kernel,by decide +kernel⟩
theorem z4I:FnScope ["_law_one", "_law_other"] ["_law_one", "_law_other"] (defScope z2c):=⟨rfl,rfl,rfl,by decide +kernel,rfl,by decide +kernel,by decide +kernel⟩
theorem z9x:FnScope ["_law_top", "_law_bottom", "_law_by"] ["_law_top", "_law_bottom"] (defScope z4K):=⟨rfl,rfl,rfl,by decide +kernel,rfl,by decide +kernel,by decide +kernel⟩
theorem z1s:FnScope ["_law_cell", "_law_k", "_law_letters", "_law_stride", "_law_pair", "_law_way", "_law_more", "_law_j"] ["_law_cell", "_law_k"] (defScope z3o):=⟨rfl,rfl,rfl,by decide +kernel,rfl,by decide +kernel,by decide +kernel⟩
theorem z3m:FnScope ["_law_cell", "_law_other", "_law_first", "_law_some"] ["_law_cell", "_law_other"] (defScope z3p):=⟨rfl,rfl,rfl,by decide +kernel,rfl,by decide +kernel,by decide +kernel⟩
theorem z1d:FnScope ["_law_cells", "_law_names", "_law_menu_here", "_law_great", "_law_rows", "_law_cell", "_law_left", "_law_values", "_law_name_here", "_law_shares"] ["_law_cells", "_law_names", "_law_menu_here", "_law_great"] (defScope z2A):=⟨rfl,rfl,rfl,by decide +kernel,rfl,by decide +kernel,by decide +kernel⟩
theorem z0L:FnScope ["_law_script", "_law_pool", "_law_menu_here", "_law_great", "_law_cells", "_law_many", "_law_tables_here", "_law_turn", "_law_deal", "_law_picked", "_law_mine"] ["_law_script", "_law_pool", "_law_menu_here"] (defScope z2b):=⟨rfl,rfl,rfl,by decide +kernel,rfl,by decide +kernel,by decide +kernel⟩
theorem z1e:FnScope ["_law_names", "_law_menu_here", "_law_found", "_law_name_here", "_law_longer", "_law_ahead", "_law_number", "_law_one"] ["_law_names", "_law_menu_here"] (defScope z2B):=⟨rfl,rfl,rfl,by decide +kernel,rfl,by decide +kernel,by decide +kernel⟩
theorem z0J:FnScope ["_law_tables_here", "_law_book", "_law_top", "_law_bottom", "_law_names", "_law_rows", "_law_worth"] ["_law_tables_here", "_law_book"] (defScope z1K):=⟨rfl,rfl,rfl,by decide +kernel,rfl,by decide +kernel,by decide +kernel⟩
theorem z1S:FnScope ["_law_tables_here", "_law_names", "_law_left", "_law_menu_here", "_law_due_here", "_law_sides", "_law_book", "_law_top", "_law_bottom", "_law_key", "_law_here"] ["_law_tables_here", "_law_names", "_law_left", "_law_menu_here"] (defScope z4L):=⟨rfl,rfl,rfl,by decide +kernel,rfl,by decide +kernel,by decide +kernel⟩
theorem z1i:FnScope ["_law_script", "_law_pool", "_law_menu_here", "_law_tables_here", "_law_have", "_law_table_here", "_law_names", "_law_way", "_law_order", "_law_name_here", "_law_turn", "_law_other", "_law_due_here", "_law_handed", "_law_sequence", "_law_found", "_law_again"] ["_law_script"] (defScope z5t):=⟨rfl,rfl,rfl,by decide +kernel,rfl,by decide +kernel,by decide +kernel⟩
def G(a b:Int):Int:=((Int.gcd a b:Nat):Int)
def ab(i:Int):Int:=if i < 0 then -i else i
theorem z8a(i:Int):0<=ab i:=by unfold ab;split <;> omega
theorem z8b(i:Int):(ab i).natAbs=i.natAbs:=by unfold ab;split <;> omega
theorem y0i(a b:Int):0<=G a b:=Int.natCast_nonneg _
theorem x0p(a b:Int):G (ab a) (ab b)=G a b:=by
 show ((Nat.gcd (ab a).natAbs (ab b).natAbs:Nat):Int)=((Nat.gcd a.natAbs b.natAbs:Nat):Int)
 rw[z8b,z8b]
theorem y0k(a b:Int):G a b=G b a:=by unfold G;rw[Int.gcd_comm]
theorem y5y{a b:Int}(h:0<=a)(hb:b=0):G a b=a:=by
 subst hb;unfold G;rw[Int.gcd_zero_right];omega
theorem y5z{a b:Int}(ha:0<=a)(hb:0 < b):G b (a % b)=G a b:=by
 show ((Nat.gcd b.natAbs (a % b).natAbs:Nat):Int)=((Nat.gcd a.natAbs b.natAbs:Nat):Int)
 rw[Int.natAbs_emod_of_nonneg ha,Nat.gcd_comm b.natAbs,<- Nat.gcd_rec,Nat.gcd_comm]
theorem z2U(a b:Int):G a b ∣ a:=Int.gcd_dvd_left a b
theorem z1Q(a b:Int):G a b ∣ b:=Int.gcd_dvd_right a b
theorem y9D{k a b:Int}(h1:k ∣ a)(h2:k ∣ b):k ∣ G a b:=Int.dvd_coe_gcd h1 h2
theorem y3s{a b:Int}:G a b=0↔a=0/\b=0:=by
 constructor
 · intro h
   have h1:=z2U a b
   have h2:=z1Q a b
   rw[h]at h1 h2
   exact⟨Int.zero_dvd.mp h1,Int.zero_dvd.mp h2⟩
 · rintro⟨rfl,rfl⟩;rfl
theorem z9a{a b:Int}(hb:b≠0):0 < G a b:=by
 have h1:=y0i a b
 have h2:G a b≠0:=fun h=>hb (y3s.mp h).2
 omega
theorem y9N{a b:Int}(hb:b≠0):G a b<=b.natAbs:=by
 have h:=z1Q a b
 have:=Int.le_of_dvd (show 0 < (b.natAbs:Int) by omega) (Int.dvd_natAbs.mpr h)
 exact this
theorem y8P{t b:Int}(hb:b≠0):G (t / G t b) (b / G t b)=1:=by
 have h0:0 < G t b:=z9a hb
 have hg:0 < Int.gcd t b:=by
  have:(0:Int) < (Int.gcd t b:Nat):=h0
  omega
 have:=Int.gcd_ediv_gcd_ediv_gcd (i:=t) (j:=b) hg
 unfold G
 rw[this];rfl
theorem y2Z{p q b:Int}(h1:G p q=1)(h:q ∣ p * b):q ∣ b:=by
 have h':Int.gcd q p=1:=by
  have:((Int.gcd p q:Nat):Int)=1:=h1
  rw[Int.gcd_comm];omega
 have q1:q ∣ ((Int.gcd q (p * b):Nat):Int):=Int.dvd_coe_gcd (Int.dvd_refl q) h
 rw[Int.gcd_mul_right_right_of_gcd_eq_one h']at q1
 exact Int.dvd_trans q1 (Int.gcd_dvd_right q b)
theorem y8W{p q a b:Int}(hq:0 < q)(hb:0 < b)(h1:G p q=1)(h2:G a b=1)(h:p * b=a * q):p=a/\q=b:=by
 have d1:q ∣ b:=y2Z h1 ⟨a,by rw[h,Int.mul_comm]⟩
 have d2:b ∣ q:=y2Z h2 ⟨p,by rw[<- h,Int.mul_comm]⟩
 have e:q=b:=by
  have l1:=Int.le_of_dvd hb d1
  have l2:=Int.le_of_dvd hq d2
  omega
 subst e
 refine⟨Int.eq_of_mul_eq_mul_right (by omega) h,rfl⟩
theorem z5u(r:Rat):G r.num (r.den:Int)=1:=by
 have:=r.reduced
 unfold G
 rw[show Int.gcd r.num (r.den:Int)=Nat.gcd r.num.natAbs r.den from rfl,this];rfl
theorem z0Q(r:Rat):0 < (r.den:Int):=by have:=r.den_pos;omega
theorem z2g{t b:Int}(hb:b≠0):(Rat.divInt t b).num * b=t * ((Rat.divInt t b).den:Int):=by
 have e:=ki (Rat.divInt t b)
 have d:=z0Q (Rat.divInt t b)
 exact (Rat.divInt_eq_divInt_iff (by omega) hb).mp e
def sg(t b:Int):Int:=if b < 0 then -(G t b) else G t b
theorem y9M(a b:Int):G (-a) (-b)=G a b:=by
 unfold G;rw[Int.gcd_neg,Int.neg_gcd]
theorem y5Y{t b:Int}(hb:b≠0):sg t b≠0:=by
 have:=z9a (a:=t) hb
 unfold sg;split <;> omega
theorem z6m{t b:Int}(hb:b≠0):∃ x y,t=sg t b * x/\b=sg t b * y/\0 < y/\G x y=1:=by
 have g0:=z9a (a:=t) hb
 obtain⟨x,hx⟩:=z2U t b
 obtain⟨y,hy⟩:=z1Q t b
 have ex:t / G t b=x:=qG (by omega) hx
 have ey:b / G t b=y:=qG (by omega) hy
 have e1:=y8P (t:=t) hb
 rw[ex,ey]at e1
 have hyn:y≠0:=fun z=>hb (by rw[hy,z,Int.mul_zero])
 unfold sg
 by_cases h:b < 0
 · rw[if_pos h]
   refine⟨-x,-y,by rw[Int.neg_mul_neg];exact hx,by rw[Int.neg_mul_neg];exact hy,?_,by rw[y9M];exact e1⟩
   have:¬ 0<=y:=fun z=>by
    have:=Int.mul_nonneg (qP g0) z
    omega
   omega
 · rw[if_neg h]
   refine⟨x,y,hx,hy,?_,e1⟩
   have:¬ y<=0:=fun z=>by
    have:=Int.mul_nonpos_of_nonneg_of_nonpos (qP g0) z
    omega
   omega
theorem y4y{t b:Int}(hb:b≠0):t.fdiv (sg t b)=(Rat.divInt t b).num/\b.fdiv (sg t b)=((Rat.divInt t b).den:Int):=by
 obtain⟨x,y,hx,hy,y0,e1⟩:=z6m (t:=t) hb
 have s0:=y5Y (t:=t) hb
 have c:=z2g (t:=t) hb
 have c':(Rat.divInt t b).num * y=x * ((Rat.divInt t b).den:Int):=by
  generalize sg t b=s at *
  generalize (Rat.divInt t b).num=n at *
  generalize ((Rat.divInt t b).den:Int)=d at *
  subst hx hy
  have:s * (n * y)=s * (x * d):=by
   have e1:s * (n * y)=n * (s * y):=by rw[<- Int.mul_assoc,Int.mul_comm s n,Int.mul_assoc]
   rw[e1,c,Int.mul_assoc]
  exact Int.eq_of_mul_eq_mul_left s0 this
 have u:=y8W (z0Q _) y0 (z5u _) e1 c'
 constructor
 · conv=>lhs;arg 1;rw[hx]
   rw[kc _ s0];exact u.1.symm
 · conv=>lhs;arg 1;rw[hy]
   rw[kc _ s0];exact u.2.symm
theorem y6f(r s:Rat):Rat.divInt (r.num * (s.den:Int) + s.num * (r.den:Int)) ((r.den:Int) * (s.den:Int))=r + s:=by
 have h1:=z0Q r;have h2:=z0Q s
 rw[<- Rat.divInt_add_divInt _ _ (by omega) (by omega),ki,ki]
theorem y6e(r s:Rat):Rat.divInt (r.num * s.num) ((r.den:Int) * (s.den:Int))=r * s:=by
 rw[<- Rat.divInt_mul_divInt,ki,ki]
theorem z2M{t b:Int}(hb:b≠0):(Rat.divInt t b).num.natAbs<=t.natAbs/\(Rat.divInt t b).den<=b.natAbs:=by
 obtain⟨x,y,hx,hy,y0,e1⟩:=z6m (t:=t) hb
 have s0:=y5Y (t:=t) hb
 have f:=y4y (t:=t) hb
 have fx : t.fdiv (sg t b) = x := by conv => lhs; arg 1; rw [hx]
                                     rw[kc _ s0]
 have fy : b.fdiv (sg t b) = y := by conv => lhs; arg 1; rw [hy]
                                     rw[kc _ s0]
 rw[fx,fy]at f
 have s1:1<=(sg t b).natAbs:=by omega
 constructor
 · rw[<- f.1]
   have : t.natAbs = (sg t b).natAbs * x.natAbs := by conv => lhs; rw [hx]
                                                      rw[Int.natAbs_mul]
   rw[this];exact Nat.le_mul_of_pos_left _ s1
 · have e:(Rat.divInt t b).den=y.natAbs:=by omega
   rw[e]
   have : b.natAbs = (sg t b).natAbs * y.natAbs := by conv => lhs; rw [hy]
                                                      rw[Int.natAbs_mul]
   rw[this];exact Nat.le_mul_of_pos_left _ s1
def z1F(rs:List Rat):Rat:=rs.foldl (· + ·) 0
theorem y1I(rs:List Rat):∀ a,rs.foldl (· + ·) a=a + z1F rs:=by
 induction rs with
 | nil=>intro a;show a=a + 0;grind
 | cons r rs ih=>intro a;show rs.foldl (· + ·) (a + r)=a + rs.foldl (· + ·) (0 + r);rw[ih,ih];grind
theorem z4M(a b:List Rat):z1F (a ++ b)=z1F a + z1F b:=by
 unfold z1F;rw[List.foldl_append,y1I b];rfl
theorem z0H(r:Rat)(rs:List Rat):z1F (r :: rs)=r + z1F rs:=by
 show rs.foldl (· + ·) (0 + r)=_;rw[y1I];grind
theorem y4T{x y z:Int}(h1:G x y=1)(h2:G x z=1):G x (y * z)=1:=by
 have h1':Int.gcd x y=1:=by have:((Int.gcd x y:Nat):Int)=1:=h1;omega
 have h2':Int.gcd x z=1:=by have:((Int.gcd x z:Nat):Int)=1:=h2;omega
 unfold G
 rw[Int.gcd_mul_right_right_of_gcd_eq_one h1',h2'];rfl
theorem y0j{x y z:Int}(h1:G x z=1)(h2:G y z=1):G (x * y) z=1:=by
 rw[y0k]
 exact y4T (by rw[y0k];exact h1) (by rw[y0k];exact h2)
theorem z5X{x y a b:Int}(h:G a b=1)(hx:x ∣ a)(hy:y ∣ b):G x y=1:=by
 have d:G x y ∣ G a b:=y9D (Int.dvd_trans (z2U x y) hx) (Int.dvd_trans (z1Q x y) hy)
 rw[h]at d
 have n:=y0i x y
 have l:=Int.le_of_dvd (by decide) d
 have z:G x y≠0:=fun e=>by rw[e]at d;exact absurd (Int.zero_dvd.mp d) (by decide)
 omega
theorem z3Y{t b:Int}(hb:b≠0):(Rat.divInt t b).num ∣ t/\((Rat.divInt t b).den:Int) ∣ b:=by
 obtain⟨x,y,hx,hy,y0,e1⟩:=z6m (t:=t) hb
 have s0:=y5Y (t:=t) hb
 have f:=y4y (t:=t) hb
 have fx : t.fdiv (sg t b) = x := by conv => lhs; arg 1; rw [hx]
                                     rw[kc _ s0]
 have fy : b.fdiv (sg t b) = y := by conv => lhs; arg 1; rw [hy]
                                     rw[kc _ s0]
 rw[fx,fy]at f
 rw[<- f.1,<- f.2]
 exact⟨⟨sg t b,by rw[Int.mul_comm];exact hx⟩,⟨sg t b,by rw[Int.mul_comm];exact hy⟩⟩
theorem y6x(r s:Rat):(Rat.divInt r.num (s.den:Int)).num * (Rat.divInt s.num (r.den:Int)).num=(r * s).num /\
 ((Rat.divInt r.num (s.den:Int)).den:Int) * ((Rat.divInt s.num (r.den:Int)).den:Int)=((r * s).den:Int):=by
 have dr:=z0Q r;have ds:=z0Q s
 obtain⟨a1,a2⟩:=z3Y (t:=r.num) (b:=(s.den:Int)) (by omega)
 obtain⟨b1,b2⟩:=z3Y (t:=s.num) (b:=(r.den:Int)) (by omega)
 have c1:=z2g (t:=r.num) (b:=(s.den:Int)) (by omega)
 have c2:=z2g (t:=s.num) (b:=(r.den:Int)) (by omega)
 have c3:=z2g (t:=r.num * s.num) (b:=(r.den:Int) * (s.den:Int)) (by have:=qH dr ds;omega)
 rw[y6e]at c3
 have g1:=z5u (Rat.divInt r.num (s.den:Int));have g2:=z5u (Rat.divInt s.num (r.den:Int))
 have p1:=z0Q (Rat.divInt r.num (s.den:Int));have p2:=z0Q (Rat.divInt s.num (r.den:Int))
 have gr:=z5u r;have gs:=z5u s;have g3:=z5u (r * s);have p3:=z0Q (r * s)
 generalize (Rat.divInt r.num (s.den:Int)).num=ln at *
 generalize ((Rat.divInt r.num (s.den:Int)).den:Int)=ld at *
 generalize (Rat.divInt s.num (r.den:Int)).num=mn at *
 generalize ((Rat.divInt s.num (r.den:Int)).den:Int)=md at *
 generalize (r * s).num=pn at *
 generalize ((r * s).den:Int)=pd at *
 generalize r.num=rn at *
 generalize s.num=sn at *
 generalize (r.den:Int)=rd at *
 generalize (s.den:Int)=sd at *
 have hg:G (ln * mn) (ld * md)=1:=by
  refine y4T (y0j g1 (z5X gs b1 a2)) (y0j (z5X gr a1 b2) g2)
 refine y8W (qH p1 p2) p3 hg g3 ?_
 have z:(rd * sd)≠0:=by have:=qH dr ds;omega
 refine Int.eq_of_mul_eq_mul_right z ?_
 grind
theorem y7a(r s:Rat):(Rat.divInt (r.num * ((s.den:Int) / G (r.den:Int) (s.den:Int)) + s.num * ((r.den:Int) / G (r.den:Int) (s.den:Int))) (G (r.den:Int) (s.den:Int))).num=(r + s).num /\
 ((Rat.divInt (r.num * ((s.den:Int) / G (r.den:Int) (s.den:Int)) + s.num * ((r.den:Int) / G (r.den:Int) (s.den:Int))) (G (r.den:Int) (s.den:Int))).den:Int) * ((r.den:Int) / G (r.den:Int) (s.den:Int)) * ((s.den:Int) / G (r.den:Int) (s.den:Int))=((r + s).den:Int):=by
 have dr:=z0Q r;have ds:=z0Q s
 have gc:=z9a (a:=(r.den:Int)) (b:=(s.den:Int)) (by omega)
 have gd:=y8P (t:=(r.den:Int)) (b:=(s.den:Int)) (by omega)
 obtain⟨o,ho⟩:=z2U (r.den:Int) (s.den:Int)
 obtain⟨u,hu⟩:=z1Q (r.den:Int) (s.den:Int)
 have eo:(r.den:Int) / G (r.den:Int) (s.den:Int)=o:=qG (by omega) ho
 have eu:(s.den:Int) / G (r.den:Int) (s.den:Int)=u:=qG (by omega) hu
 rw[eo,eu]at gd ⊢
 have gr:=z5u r;have gs:=z5u s;have g3:=z5u (r + s);have p3:=z0Q (r + s)
 have c3:=z2g (t:=r.num * (s.den:Int) + s.num * (r.den:Int)) (b:=(r.den:Int) * (s.den:Int)) (by have:=qH dr ds;omega)
 rw[y6f]at c3
 generalize (r + s).num=pn at *
 generalize ((r + s).den:Int)=pd at *
 generalize r.num=rn at *
 generalize s.num=sn at *
 generalize G (r.den:Int) (s.den:Int)=c at *
 generalize (r.den:Int)=rd at *
 generalize (s.den:Int)=sd at *
 subst ho hu
 obtain⟨a1,a2⟩:=z3Y (t:=rn * u + sn * o) (b:=c) (by omega)
 have c1:=z2g (t:=rn * u + sn * o) (b:=c) (by omega)
 have g1:=z5u (Rat.divInt (rn * u + sn * o) c)
 have p1:=z0Q (Rat.divInt (rn * u + sn * o) c)
 generalize (Rat.divInt (rn * u + sn * o) c).num=qn at *
 generalize ((Rat.divInt (rn * u + sn * o) c).den:Int)=qd at *
 have o0:0 < o:=by
  rcases Int.lt_trichotomy o 0 with h | h | h
  · have:=Int.mul_neg_of_pos_of_neg gc h;omega
  · rw[h,Int.mul_zero]at dr;omega
  · exact h
 have u0:0 < u:=by
  rcases Int.lt_trichotomy u 0 with h | h | h
  · have:=Int.mul_neg_of_pos_of_neg gc h;omega
  · rw[h,Int.mul_zero]at ds;omega
  · exact h
 have gu:G u o=1:=by rw[y0k];exact gd
 have ro:G rn o=1:=z5X gr (Int.dvd_refl _) ⟨c,Int.mul_comm _ _⟩
 have so:G sn u=1:=z5X gs (Int.dvd_refl _) ⟨c,Int.mul_comm _ _⟩
 have no:G (rn * u + sn * o) o=1:=by
  unfold G;rw[Int.gcd_add_mul_right_left];exact y0j ro gu
 have nu:G (rn * u + sn * o) u=1:=by
  unfold G;rw[Int.gcd_mul_right_add_left];exact y0j so gd
 have hg:G qn (qd * o * u)=1:=y4T (y4T g1 (z5X no a1 (Int.dvd_refl _))) (z5X nu a1 (Int.dvd_refl _))
 refine y8W (qH (qH p1 o0) u0) p3 hg g3 ?_
 have z:(c * o * (c * u))≠0:=by have:=qH dr ds;omega
 refine Int.eq_of_mul_eq_mul_right z ?_
 have e1:pn * (qd * o * u) * (c * o * (c * u))=pn * (c * o * (c * u)) * (qd * o * u):=by grind
 rw[e1,c3]
 have e2:(rn * (c * u) + sn * (c * o)) * pd * (qd * o * u)=((rn * u + sn * o) * qd) * (c * o * u * pd):=by grind
 rw[e2,<- c1]
 grind
def sz(r:Rat):Prop:=r.num.natAbs < 2 ^ 2000/\r.den < 2 ^ 2000
def dF(r:Rat):D := .tup [.int r.num,.int (r.den:Int)]
theorem z2q{K:PySem.W.Frag}{H:Hp}{a b:Int}{x:V}(h:IsD K H (.tup [.int a,.int b]) x):∃ p,x = .ref p/\SqT K H p [.int a,.int b]:=by
 obtain⟨p,xs,rfl,q,y,r,e1,e2,z,r',e3,e4,e5⟩:=h
 have e2':y = .int a:=e2
 have e4':z = .int b:=e4
 have e5':r'=[]:=e5
 subst e1 e2' e3 e4' e5'
 exact⟨p,rfl,q⟩
theorem z1M{K:PySem.W.Frag}{H:Hp}{p:Addr}{a b:Int}(h:H p=some (.tup [.int a,.int b])):IsD K H (.tup [.int a,.int b]) (.ref p) :=
 ⟨p,_,rfl,.of h,_,_,rfl,rfl,_,_,rfl,rfl,rfl⟩
theorem z3w{x:Int}{n:Nat}(h:x.natAbs < 2 ^ n)(hn:n<=9000):x.natAbs.log2 < 9000:=by
 by_cases z:x.natAbs=0
 · rw[z];decide
 · exact jr ((Nat.log2_lt z).mpr h) hn
theorem z6H(a:Str):¬ ltS a a:=List.lt_irrefl _
def y5q(x:Str):List Str->List Str
 | []=>[x]
 | y :: r=>if x=y then y :: r else if decide (x.cps.toList < y.cps.toList)=true then x :: y :: r else y :: y5q x r
def srt(l:List Str):List Str:=l.foldr y5q []
theorem z6F{x k:Str}:∀ {l:List Str},k∈y5q x l↔k=x\/k∈l
 | []=>by simp[y5q]
 | y :: r=>by
  unfold y5q
  split
  · rename_i h
    subst h
    simp
  · split
    · simp
    · rw[jQ,z6F (l:=r),jQ]
      exact⟨fun h=>h.elim (fun h => .inr (.inl h)) fun h=>h.elim .inl fun h => .inr (.inr h),fun h=>h.elim (fun h => .inr (.inl h)) fun h=>h.elim .inl fun h => .inr (.inr h)⟩
theorem y1O{x:Str}:∀ {l:List Str},l.Pairwise ltS->(y5q x l).Pairwise ltS
 | [],_=>List.pairwise_singleton _ _
 | y :: r,h=>by
  obtain⟨h1,h2⟩:=List.pairwise_cons.mp h
  unfold y5q
  split
  · exact h
  · rename_i ne
    split
    · rename_i lt
      have lt:ltS x y:=of_decide_eq_true lt
      exact List.pairwise_cons.mpr ⟨fun k hk=>(jQ.mp hk).elim (fun e=>e ▸ lt) fun hk=>z4X lt (h1 k hk),h⟩
    · rename_i nl
      have lt:ltS y x:=z9M ne fun z=>nl (decide_eq_true z)
      exact List.pairwise_cons.mpr ⟨fun k hk=>(z6F.mp hk).elim (fun e=>e ▸ lt) fun hk=>h1 k hk,y1O h2⟩
theorem z0u{k:Str}:∀ {l:List Str},k∈srt l↔k∈l
 | []=>Iff.rfl
 | x :: l=>by
  show k∈y5q x (srt l)↔_
  rw[z6F,z0u (l:=l),jQ]
theorem z7t:∀ l:List Str,(srt l).Pairwise ltS
 | []=>List.Pairwise.nil
 | _ :: l=>y1O (z7t l)
theorem y1N:∀ {l m:List Str},l.Pairwise ltS->m.Pairwise ltS->(∀ k,k∈l↔k∈m)->l=m
 | [],[],_,_,_=>rfl
 | [],b :: m,_,_,h=>absurd ((h b).mpr (jv ..)) (fun z=>nomatch z)
 | a :: l,[],_,_,h=>absurd ((h a).mp (jv ..)) (fun z=>nomatch z)
 | a :: l,b :: m,hl,hm,h=>by
  obtain⟨l1,l2⟩:=List.pairwise_cons.mp hl
  obtain⟨m1,m2⟩:=List.pairwise_cons.mp hm
  have e:a=b:=by
   rcases jQ.mp ((h a).mp (jv ..)) with e | ha
   · exact e
   rcases jQ.mp ((h b).mpr (jv ..)) with e | hb
   · exact e.symm
   exact absurd (z4X (m1 a ha) (l1 b hb)) (z6H _)
  subst e
  refine congrArg (a :: ·) (y1N l2 m2 fun k=>⟨fun hk=>?_,fun hk=>?_⟩)
  · rcases jQ.mp ((h k).mp (jK _ hk)) with e | z
    · exact absurd (l1 k hk) (e ▸ z6H _)
    · exact z
  · rcases jQ.mp ((h k).mpr (jK _ hk)) with e | z
    · exact absurd (m1 k hk) (e ▸ z6H _)
    · exact z
theorem y1p{l ss:List Str}(pw:ss.Pairwise ltS)(m:∀ k,k∈ss↔k∈l):ss=srt l:=y1N pw (z7t l) fun k=>(m k).trans z0u.symm
theorem z1u{l:List Str}(h:l.Pairwise ltS):l.Nodup:=ku.mpr (h.imp fun {a b} h e=>by rw[e]at h;exact z6H _ h)
local macro_rules | `(tactic| walk_at "sd") => `(tactic| (try dsimp only); first | decide | omega | assumption | (refine ⟨?_, ?_⟩ <;> first | decide | omega | assumption) | (refine ⟨?_, ?_, ?_⟩ <;> first | decide | omega | assumption))
local macro_rules | `(tactic| walk_at "rd1") => `(tactic| first
 | refine⟨_,rfl,?_⟩
 | refine⟨_,_,rfl,rfl,?_⟩
 | refine⟨_,_,rfl,?_⟩
 | refine .inl ⟨_,_,rfl,rfl,?_⟩
 | refine .inr (.inl ⟨_,_,rfl,rfl,?_⟩)
 | refine .inr (.inr (.inl ⟨_,_,rfl,rfl,?_⟩))
 | refine .inl ⟨_,rfl,?_⟩
 | refine .inr ⟨_,rfl,?_⟩
 | refine⟨rfl,?_⟩
 | (refine And.intro ?sd ?_;(case sd=>walk_at "sd"))
 | (refine' .inr (.inl ⟨_,_,_,_,rfl,rfl,?hs,?ha,?_⟩);(case hs=>assumption);(case ha=>rfl))
 | (refine'⟨_,_,_,rfl,?hs,?hk,?_⟩;(case hs=>assumption);(case hk=>decide)))
local macro_rules | `(tactic| walk_at "rd") => `(tactic| repeat (walk_at "rd1"))
local macro_rules | `(tactic| walk_at "mk") => `(tactic| repeat' (first
 | exact mk_str
 | exact z1W
 | exact mk_varS rfl
 | exact y2q rfl (by assumption)
 | exact y2p
 | refine z4s ?_ ?_
 | refine mk_tup ?_ ?_
 | refine y5n ?_ ?_
 | exact mkS_lit (by decide)
 | exact mkS_var rfl (by assumption)
 | apply mk_addS
 | apply mkS_add
 | refine y2s ?_ ?_ ?_
 | exact z9V (Nat.le_of_ble_eq_true rfl)
 | (show _<=sizeLine;decide)))
section
variable {P:Program}{w:World}{K:PySem.W.Frag}{mg:Str->Option Value}{base:Heap}
def z3J:Sp:=fun vs H Q _=>∃ a b,vs=[.int a,.int b]/\Q (.int (G a b)) H
theorem y0y(B:Bl mg)(F:Fn K mg "divisor" z2C ["one", "other"]):Def P w K mg base "divisor" 1 ["one", "other"] z3J:=by
 refine F.ok z1E (fun vs H Q E h=>?_) (fun f cdv A outer s H vs Q E hr h=>?_)
 · obtain⟨a,b,rfl,_⟩:=h;rfl
 obtain⟨a,b,rfl,q⟩:=h
 refine⟨_,(@z0c _ _ _ _ _ (z0l (i:=0) z1E.nd rfl (by first | exact Or.inl rfl | exact Or.inr rfl) (z0W y0d rfl B.abs PyProof.Rows.boot_abs (z0g (pv 0) z0f)))
  (@z0c _ _ _ _ _ (z0l (i:=1) z1E.nd rfl (by first | exact Or.inl rfl | exact Or.inr rfl) (z0W y0d rfl B.abs PyProof.Rows.boot_abs (z0g (pv 1) z0f)))
  (@z0c _ _ _ _ _ (z9D PassesOwn.never (z0B y7V (pv 1) z0d (z1f _)) (@z0c _ _ _ _ _ (z0l (i:=2) z1E.nd rfl (by first | exact Or.inl rfl | exact Or.inr rfl) (z0m z0E (pv 0) (pv 1)))
  (@z0c _ _ _ _ _ (z0l (i:=0) z1E.nd rfl (by first | exact Or.inl rfl | exact Or.inr rfl) (pv 1))
  (@z0h _ _ _ (z0l (i:=1) z1E.nd rfl (by first | exact Or.inl rfl | exact Or.inr rfl) (pv 2))))))
  (@z0h _ _ _ (z0X (pv 0)))))),?_⟩
 walk_at "rd"
 refine z9d (fun σ H'=>H'=H/\∃ x y r,σ=[some (.int x),some (.int y),r]/\0<=x/\0<=y/\G x y=G a b)
  (fun σ _=>match σ with | [_,some (.int y),_]=>y.toNat | _=>0) ?_ ?_ ?_
 · exact⟨rfl,_,_,_,rfl,z8a a,z8a b,x0p a b⟩
 · rintro σ H' ⟨rfl,x,y,r,rfl,hx,hy,e⟩
   walk_at "rd"
   refine y9z (fun c=>?_) (fun c=>?_)
   · have hy':0 < y:=by omega
     refine⟨_,rfl,_,rfl,_,_,rfl,rfl,hy',?_⟩
     walk_at "rd"
     have h1:=Int.emod_nonneg x c
     have h2:=Int.emod_lt_of_pos x hy'
     refine⟨⟨rfl,_,_,_,rfl,hy,h1,(y5z hx hy').trans e⟩,?_⟩
     show (x % y).toNat < y.toNat
     omega
   · walk_at "rd"
     have:=y5y hx c
     rw[e]at this
     show Q (.int x) H'
     rw[<- this];exact q
 · rintro σ H' R R' m ⟨v,e,h⟩
   refine⟨v,e,?_⟩
   obtain⟨i,j,e1,e2,k,e3,h⟩:=h
   exact⟨i,j,e1,e2,k,e3,m _ _ h⟩
end
section
variable {P:Program}{w:World}{K:PySem.W.Frag}{mg:Str->Option Value}{base:Heap}{z0j:Addr}
def z9r:Sp:=fun vs H Q _=>∃ i,vs=[.int i]/\Q (.bl true) H
theorem z8B(B:Bl mg)(F:Fn K mg "is_whole" z2d ["thing"]):Def P w K mg base "is_whole" 1 ["thing"] z9r:=by
 refine F.ok z8q (fun vs H Q E h=>?_) (fun f cdv A outer s H vs Q E hr h=>?_)
 · obtain⟨i,rfl,_⟩:=h;rfl
 obtain⟨i,rfl,q⟩:=h
 refine⟨_,(@z0h _ _ _ (z0X (y5h (z0W (z7U K rfl) rfl B.isinstance PyProof.Rows.boot_isinstance (z0g (pv 0) (z0g (y2b (v := .ty "int") rfl B.int PyProof.Rows.boot_int rfl) z0f))) (y5g (y7R (z0W (z7U K rfl) rfl B.isinstance PyProof.Rows.boot_isinstance (z0g (pv 0) (z0g (y2b (v := .ty "bool") rfl B.bool PyProof.Rows.boot_bool rfl) z0f)))))))),?_⟩
 refine⟨_,rfl,_,_,.type "int",true,rfl,rfl,.of (.int i),rfl,_,rfl,y9y ?_⟩
 refine⟨_,rfl,_,_,.type "int",false,rfl,rfl,.of (.int i),rfl,_,rfl,?_⟩
 exact q
def z2X(K:PySem.W.Frag):Sp:=fun vs H Q _=>∃ t b,vs=[.int t,.int b]/\b≠0/\b.natAbs < 2 ^ 8000/\∀ p H',Same H H'->IsD K H' (dF (Rat.divInt t b)) (.ref p)->Q (.ref p) H'
theorem z8D(B:Bl mg)(F:Fn K mg "fraction" z2f ["top", "bottom"])(z2V:Def P w K mg base "is_whole" 1 ["thing"] z9r)(z2m:Def P w K mg base "divisor" 1 ["one", "other"] z3J) :
 Def P w K mg base "fraction" 2 ["top", "bottom"] (z2X K):=by
 refine F.ok z2Y (fun vs H Q E h=>?_) (fun f cdv A outer s H vs Q E hr h=>?_)
 · obtain⟨t,b,rfl,_⟩:=h;rfl
 obtain⟨t,b,rfl,hb,hz,q⟩:=h
 refine⟨_,(@z0c _ _ _ _ _ (z3O (PW.pt (y7K (y5d (y5c (z0p z2V hr rfl (z0g (pv 0) z0f)))) (y5a (y5d (y5c (z0p z2V hr rfl (z0g (pv 1) z0f))))))) (@z0h _ _ _ z9E) z1k)
  (@z0c _ _ _ _ _ (z3O (z0B (z3u.or (y2f.or (y2g.or (z5J K rfl hr.units)))) (pv 1) z0d (z1f _)) (@z0h _ _ _ z9E) z1k)
  (@z0c _ _ _ _ _ (z0l (i:=2) z2Y.nd rfl (by first | exact Or.inl rfl | exact Or.inr rfl) (z0p z2m hr rfl (z0g (pv 0) (z0g (pv 1) z0f))))
  (@z0c _ _ _ _ _ (z3O (z0B y7X (pv 1) z0d (z1f _)) (@z0h _ _ _ (z0l (i:=2) z2Y.nd rfl (by first | exact Or.inl rfl | exact Or.inr rfl) (y9q y7p (pv 2)))) z1k)
  (@z0h _ _ _ (z0X (z3s (z0g (z0m z6B (pv 0) (pv 2)) (z0g (z0m z6B (pv 1) (pv 2)) z0f))))))))),?_⟩
 walk_at "rd"
 refine y3w (fun c=>absurd c hb) (fun _=>?_)
 walk_at "rd"
 have fr:=y4y (t:=t) hb
 have gl:=y9N (a:=t) hb
 have g0:=z9a (a:=t) hb
 have gz:(G t b).natAbs < 2 ^ 8000:=by omega
 have gz':(-(G t b)).natAbs < 2 ^ 8000:=by omega
 unfold sg at fr
 refine y3w (fun c=>?_) (fun c=>?_)
 · rw[if_pos c]at fr
   walk_at "rd"
   refine⟨⟨by omega,z3w gz' (by decide)⟩,?_⟩
   walk_at "rd"
   refine⟨⟨by omega,z3w gz' (by decide)⟩,(by show 2<=sizeLine;decide),fun p hp=>q p _ (z0e hp _) ?_⟩
   unfold dF
   rw[<- fr.1,<- fr.2]
   exact z1M z0a
 · rw[if_neg c]at fr
   walk_at "rd"
   refine⟨⟨by omega,z3w gz (by decide)⟩,?_⟩
   walk_at "rd"
   refine⟨⟨by omega,z3w gz (by decide)⟩,(by show 2<=sizeLine;decide),fun p hp=>q p _ (z0e hp _) ?_⟩
   unfold dF
   rw[<- fr.1,<- fr.2]
   exact z1M z0a
def y1u(K:PySem.W.Frag):Sp:=fun vs H Q _=>∃ x y r s,vs=[x,y]/\IsD K H (dF r) x/\IsD K H (dF s) y/\sz r/\sz s/\∀ p H',Same H H'->IsD K H' (dF (r + s)) (.ref p)->Q (.ref p) H'
theorem y6r(B:Bl mg)(F:Fn K mg "plus" z7p ["one", "other"])(z2m:Def P w K mg base "divisor" 1 ["one", "other"] z3J)(z1n:Def P w K mg base "fraction" 2 ["top", "bottom"] (z2X K)):Def P w K mg base "plus" 3 ["one", "other"] (y1u K):=by
 refine F.ok z4H (fun vs H Q E h=>?_) (fun f cdv A outer s H vs Q E hr h=>?_)
 · obtain⟨x,y,r,s,rfl,_⟩:=h;rfl
 obtain⟨x,y,r,s,rfl,hx,hy,zr,zs,q⟩:=h
 obtain⟨a,rfl,qa⟩:=z2q hx
 obtain⟨b,rfl,qb⟩:=z2q hy
 have zd:((r.den:Int)).natAbs < 2 ^ 2000:=by have:=zr.2;omega
 have ze:((s.den:Int)).natAbs < 2 ^ 2000:=by have:=zs.2;omega
 have dr:=z0Q r;have ds:=z0Q s
 have al:=y7a r s
 have g0:=z9a (a:=(r.den:Int)) (b:=(s.den:Int)) (by omega)
 have gl:=y9N (a:=(r.den:Int)) (b:=(s.den:Int)) (by omega)
 have gz:(G (r.den:Int) (s.den:Int)).natAbs < 2 ^ 2000:=by omega
 have oz:((r.den:Int) / G (r.den:Int) (s.den:Int)).natAbs < 2 ^ 2000:=kF (Int.natAbs_ediv_le_natAbs ..) zd
 have uz:((s.den:Int) / G (r.den:Int) (s.den:Int)).natAbs < 2 ^ 2000:=kF (Int.natAbs_ediv_le_natAbs ..) ze
 refine⟨_,(@z0c _ _ _ _ _ (z0l (i:=2) z4H.nd rfl (by first | exact Or.inl rfl | exact Or.inr rfl) (z0p z2m hr rfl (z0g (z0q (z0i K rfl) (pv 0) z0d (fun _ _=>rfl)) (z0g (z0q (z0i K rfl) (pv 1) z0d (fun _ _=>rfl)) z0f))))
  (@z0c _ _ _ _ _ (z0l (i:=3) z4H.nd rfl (by first | exact Or.inl rfl | exact Or.inr rfl) (z0m z1N (z0q (z0i K rfl) (pv 0) z0d (fun _ _=>rfl)) (pv 2)))
  (@z0c _ _ _ _ _ (z0l (i:=4) z4H.nd rfl (by first | exact Or.inl rfl | exact Or.inr rfl) (z0m z1N (z0q (z0i K rfl) (pv 1) z0d (fun _ _=>rfl)) (pv 2)))
  (@z0c _ _ _ _ _ (z0l (i:=5) z4H.nd rfl (by first | exact Or.inl rfl | exact Or.inr rfl) (z0p z1n hr rfl (z0g (z0m (z1j.or (z0x.or (z2v.or (z1b K rfl)))) (z0m z0S (z0q (z0i K rfl) (pv 0) z0d (fun _ _=>rfl)) (pv 4)) (z0m z0S (z0q (z0i K rfl) (pv 1) z0d (fun _ _=>rfl)) (pv 3))) (z0g (pv 2) z0f))))
  (@z0h _ _ _ (z0X (z3s (z0g (z0q (z0i K rfl) (pv 5) z0d (fun _ _=>rfl)) (z0g (z0m z0S (z0m z0S (z0q (z0i K rfl) (pv 5) z0d (fun _ _=>rfl)) (pv 3)) (pv 4)) z0f))))))))),?_⟩
 walk_at "rd"
 refine⟨⟨g0,z3w gz (by decide)⟩,?_⟩
 walk_at "rd"
 refine⟨⟨g0,z3w gz (by decide)⟩,?_⟩
 walk_at "rd"
 refine⟨z3d zr.1 uz (by decide),?_⟩
 walk_at "rd"
 refine⟨z3d zs.1 oz (by decide),?_⟩
 walk_at "rd"
 intro p H' sm d
 obtain⟨_,e,qp⟩:=z2q d;cases e
 have pz:=(z2M (t:=r.num * ((s.den:Int) / G (r.den:Int) (s.den:Int)) + s.num * ((r.den:Int) / G (r.den:Int) (s.den:Int))) (b:=G (r.den:Int) (s.den:Int)) (by omega)).2
 generalize Rat.divInt (r.num * ((s.den:Int) / G (r.den:Int) (s.den:Int)) + s.num * ((r.den:Int) / G (r.den:Int) (s.den:Int))) (G (r.den:Int) (s.den:Int))=v at al pz qp d
 have vz:((v.den:Int)).natAbs < 2 ^ 2000:=by omega
 have vo:((v.den:Int) * ((r.den:Int) / G (r.den:Int) (s.den:Int))).natAbs < 2 ^ 4000:=by
  rw[Int.natAbs_mul]
  have:=Nat.mul_lt_mul'' vz oz
  rwa [<- Nat.pow_add]at this
 walk_at "rd"
 refine⟨z3d vz oz (by decide),?_⟩
 walk_at "rd"
 refine⟨z3d vo uz (by decide),(by show 2<=sizeLine;decide),fun p2 hp2=>q p2 _ (sm.trans (z0e hp2 _)) ?_⟩
 unfold dF
 rw[<- al.1,<- al.2]
 exact z1M z0a
def z9s(K:PySem.W.Frag):Sp:=fun vs H Q _=>∃ x y r s,vs=[x,y]/\IsD K H (dF r) x/\IsD K H (dF s) y/\sz r/\sz s/\∀ p H',Same H H'->H p=none->IsD K H' (dF (r * s)) (.ref p)->Q (.ref p) H'
theorem y4a(B:Bl mg)(F:Fn K mg "times" z4J ["one", "other"])(z1n:Def P w K mg base "fraction" 2 ["top", "bottom"] (z2X K)):Def P w K mg base "times" 3 ["one", "other"] (z9s K):=by
 refine F.ok z6p (fun vs H Q E h=>?_) (fun f cdv A outer s H vs Q E hr h=>?_)
 · obtain⟨x,y,r,s,rfl,_⟩:=h;rfl
 obtain⟨x,y,r,s,rfl,hx,hy,zr,zs,q⟩:=h
 obtain⟨a,rfl,qa⟩:=z2q hx
 obtain⟨b,rfl,qb⟩:=z2q hy
 have zd:((r.den:Int)).natAbs < 2 ^ 2000:=by have:=zr.2;omega
 have ze:((s.den:Int)).natAbs < 2 ^ 2000:=by have:=zs.2;omega
 have dr:=z0Q r;have ds:=z0Q s
 have al:=y6x r s
 have big:(2:Nat) ^ 2000<=2 ^ 8000:=qC (by decide) (by decide)
 refine⟨_,(@z0c _ _ _ _ _ (z0l (i:=2) z6p.nd rfl (by first | exact Or.inl rfl | exact Or.inr rfl) (z0p z1n hr rfl (z0g (z0q (z0i K rfl) (pv 0) z0d (fun _ _=>rfl)) (z0g (z0q (z0i K rfl) (pv 1) z0d (fun _ _=>rfl)) z0f))))
  (@z0c _ _ _ _ _ (z0l (i:=3) z6p.nd rfl (by first | exact Or.inl rfl | exact Or.inr rfl) (z0p z1n hr rfl (z0g (z0q (z0i K rfl) (pv 1) z0d (fun _ _=>rfl)) (z0g (z0q (z0i K rfl) (pv 0) z0d (fun _ _=>rfl)) z0f))))
  (@z0h _ _ _ (z0X (z3s (z0g (z0m z0S (z0q (z0i K rfl) (pv 2) z0d (fun _ _=>rfl)) (z0q (z0i K rfl) (pv 3) z0d (fun _ _=>rfl))) (z0g (z0m z0S (z0q (z0i K rfl) (pv 2) z0d (fun _ _=>rfl)) (z0q (z0i K rfl) (pv 3) z0d (fun _ _=>rfl))) z0f))))))),?_⟩
 walk_at "rd"
 intro p H' sm d
 obtain⟨_,e,qp⟩:=z2q d;cases e
 have qa:=sm.tupq qa;have qb:=sm.tupq qb
 walk_at "rd"
 intro p2 H2 sm2 d2
 obtain⟨_,e,qp2⟩:=z2q d2;cases e
 have qp:=sm2.tupq qp
 have l1:=z2M (t:=r.num) (b:=(s.den:Int)) (by omega)
 have l2:=z2M (t:=s.num) (b:=(r.den:Int)) (by omega)
 generalize Rat.divInt r.num (s.den:Int)=u at al l1 qp
 generalize Rat.divInt s.num (r.den:Int)=v at al l2 qp2
 have zrn:=zr.1;have zsn:=zs.1
 have u1:u.num.natAbs < 2 ^ 2000:=by omega
 have u2:((u.den:Int)).natAbs < 2 ^ 2000:=by omega
 have v1:v.num.natAbs < 2 ^ 2000:=by omega
 have v2:((v.den:Int)).natAbs < 2 ^ 2000:=by omega
 walk_at "rd"
 refine⟨z3d u1 v1 (by decide),?_⟩
 walk_at "rd"
 refine⟨z3d u2 v2 (by decide),(by show 2<=sizeLine;decide),fun p3 hp3=>q p3 _ ((sm.trans sm2).trans (z0e hp3 _)) ((sm.trans sm2).free hp3) ?_⟩
 unfold dF
 rw[<- al.1,<- al.2]
 exact z1M z0a
def z3G(r:List Int×Rat):D := .tup [.tup (r.1.map D.int),dF r.2]
def pickN(ns:List Int)(ps:List Int):List Int:=ps.map fun j=>ns.getD j.toNat 0
def z3l(K:PySem.W.Frag):Sp:=fun vs H Q _=>∃ (v p:Addr) (ns ps:List Int),vs=[.ref v,.ref p]/\SqT K H v (ns.map V.int)/\SqL K H p (ps.map V.int)/\(∀ j∈ps,0<=j/\j < ns.length)/\ps.length<=100 /\
 ∀ t H',H t=none->Same H H'->H' t=some (.tup ((pickN ns ps).map V.int))->Q (.ref t) H'
theorem y3Q{ix:List Nat}{wi:TI}{te:TE}{r:List V->Hp->VK->Prop}{D:Ends}{σ:St}{H:Hp}(h:wi σ H (z2O ix te σ fun x H1=>r [x] H1 D.rt)):y9c (tCB r (z2w (z6c ix wi y7g te) y0p)) D σ H:=h
theorem y2l(B:Bl mg)(F:Fn K mg "chosen" z3q ["values", "places"]):Def P w K mg base "chosen" 1 ["values", "places"] (z3l K):=by
 refine F.ok y1G (fun vs H Q E h=>?_) (fun f cdv A outer s H vs Q E hr h=>?_)
 · obtain⟨v,p,ns,ps,rfl,_⟩:=h;rfl
 obtain⟨v,p,ns,ps,rfl,qv,qp,hj,hl,q⟩:=h
 refine⟨_,(@z0h _ _ _ (z0X (z0t (z1m K rfl) rfl B.tuple PyProof.Rows.boot_tuple (z0g (z3Q (CompOk.of (x := "place") (M:=["values"]) (ix:=[0]) rfl rfl (by decide +kernel) (by decide +kernel) rfl ⟨rfl,trivial⟩ (by rfl) ⟨⟨rfl,rfl,rfl,rfl⟩,trivial⟩) rfl (by decide +kernel) (z0I (pv 1)) (fun _ _ _ _ _=>z2Z) (fun _ _ _ _ _=>(z0q (z0i K rfl) (pv 1) (pv 0) (fun _ _=>rfl)))) z0f)))),?_⟩
 refine y3Q ?_
 refine⟨_,rfl,p,rfl,⟨_,qp⟩,?_⟩
 refine y3a (K:=K) (xs:=ps.map V.int) ((pickN ns ps).map D.int) qp (by unfold pickN;simp) (by rw[jA];exact kP (z2a (by omega))) (z4v _) (fun i x d H' R hx hd sm hR=>?_) (fun l H' sm dl=>?_)
 · unfold pickN at hd
   rw[jF]at hx
   rw[jF,jF]at hd
   cases en:ps[i]? with
   | none=>rw[en]at hx;cases hx
   | some j =>
    rw[en]at hx hd
    cases hx;cases hd
    obtain⟨j0,j1⟩:=hj j (jk en)
    have hat:atI (ns.map V.int) j=some (.int (ns.getD j.toNat 0)):=by
     have e:j=((j.toNat:Nat):Int):=by omega
     have hlt:j.toNat < ns.length:=by omega
     conv=>lhs;rw[e]
     refine z3f ?_
     rw[jF,jD hlt]
     simp[List.getD,hlt]
    exact⟨_,rfl,_,rfl,.inr (.inl ⟨v,_,_,_,rfl,rfl,sm.tupq qv,hat,hR _ _ (Same.refl _) rfl⟩)⟩
 · obtain⟨l',ys,e,ql,dd⟩:=dl
   cases e
   rw[z1w dd]at ql
   exact⟨l,_,rfl,.inl ⟨ql,fun t ht=>q t _ (sm.free ht) (sm.trans (z0e ht _)) z0a⟩⟩
def z5Z(acc:List (List Int×Rat))(k:List Int):Option Rat:=(acc.find? fun p=>decide (p.1=k)).map (·.2)
def z3K{β:Type}(acc:List (List Int×β))(k:List Int)(x:β):List (List Int×β):=if (acc.any fun p=>decide (p.1=k))=true then acc.map (fun p=>if p.1=k then (p.1,x) else p) else acc ++ [(k,x)]
def y0g(acc:List (List Int×Rat))(k:List Int)(r:Rat):List (List Int×Rat):=z3K acc k (match z5Z acc k with | some s=>s + r | none=>r)
def gath(ps:List Int)(rs:List (List Int×Rat)):List (List Int×Rat):=rs.foldl (fun acc r=>y0g acc (pickN r.1 ps) r.2) []
theorem z6n{β:Type}(acc:List (List Int×β))(k:List Int)(x:β):(z3K acc k x).length<=acc.length + 1:=by
 unfold z3K
 split
 · rw[jA];omega
 · rw[jG];exact jE _
theorem z5i(ps:List Int)(rs:List (List Int×Rat))(r:List Int×Rat):gath ps (rs ++ [r])=y0g (gath ps rs) (pickN r.1 ps) r.2:=by unfold gath;rw[List.foldl_append];rfl
theorem z6M(ps:List Int)(rs:List (List Int×Rat)):(gath ps rs).length<=rs.length:=by
 have:∀ (rs acc:List (List Int×Rat)),(rs.foldl (fun acc r=>y0g acc (pickN r.1 ps) r.2) acc).length<=acc.length + rs.length:=fun rs=>by
  induction rs with
  | nil=>intro acc;exact jE _
  | cons r rs ih =>
   intro acc
   have h1:=ih (y0g acc (pickN r.1 ps) r.2)
   have h2:(y0g acc (pickN r.1 ps) r.2).length<=acc.length + 1:=z6n _ _ _
   rw[List.foldl_cons,jx]
   omega
 have:=this rs []
 simpa [gath] using this
theorem z3W{a b:List Int}:(a.map (Sum.inl:Int->Key)=b.map Sum.inl)↔a=b:=⟨fun z=>(List.map_inj_right (fun _ _ h=>Sum.inl.inj h)).mp z,fun z=>by rw[z]⟩
theorem y8l(ks:List (List Int×V))(k:List Int):((kz ks).any fun kv=>decide (kv.1=k.map Sum.inl))=ks.any fun kv=>decide (kv.1=k):=by
 show ((ks.map fun kv=>((kv.1.map Sum.inl,kv.2):List Key×V)).any _)=_
 rw[List.any_map]
 congr 1
 funext kv
 exact decide_eq_decide.mpr z3W
theorem z7G(ks:List (List Int×V))(k:List Int)(v:V):z2u (kz ks) (k.map Sum.inl) v=kz (z3K ks k v):=by
 unfold z2u z3K
 rw[y8l]
 split
 · show (ks.map fun kv=>((kv.1.map Sum.inl,kv.2):List Key×V)).map _=(ks.map _).map _
   rw[kh,kh]
   refine jo fun kv _=>?_
   show (if kv.1.map Sum.inl=k.map Sum.inl then _ else _)=((if kv.1=k then (kv.1,v) else kv).1.map Sum.inl,(if kv.1=k then (kv.1,v) else kv).2)
   by_cases z:kv.1=k
   · rw[if_pos (z3W.mpr z),if_pos z]
   · rw[if_neg (fun h=>z (z3W.mp h)),if_neg z]
 · show kz ks ++ _=(ks ++ [(k,v)]).map _
   rw[jT];rfl
abbrev Acc(K:PySem.W.Frag)(H:Hp):List (List Int×Rat)->List (List Int×V)->Prop:=Paired fun p q=>p.1=q.1/\IsD K H (dF p.2) q.2
theorem Acc.mono{H H':Hp}(m:∀ r v,IsD K H (dF r) v->IsD K H' (dF r) v):∀ {acc:List (List Int×Rat)}{ks:List (List Int×V)},Acc K H acc ks->Acc K H' acc ks
 | _,_,.nil => .nil
 | _,_,.cons h t => .cons ⟨h.1,m _ _ h.2⟩ (Acc.mono m t)
theorem Acc.val{H:Hp}(k:List Int):∀ {acc:List (List Int×Rat)}{ks:List (List Int×V)},Acc K H acc ks->(z5Z acc k=none/\valV (kz ks) (k.map Sum.inl)=none)\/∃ r v,z5Z acc k=some r/\valV (kz ks) (k.map Sum.inl)=some v/\IsD K H (dF r) v
 | _,_,.nil => .inl ⟨rfl,rfl⟩
 | p :: acc,q :: ks,.cons h t=>by
  by_cases z:p.1=k
  · refine .inr ⟨p.2,q.2,?_,?_,h.2⟩
    · unfold z5Z;rw[kf,decide_eq_true z];rfl
    · exact z0Z (by show q.1.map Sum.inl=k.map Sum.inl;rw[<- h.1,z])
  · have e1:z5Z (p :: acc) k=z5Z acc k:=by unfold z5Z;rw[kf,decide_eq_false z]
    have e2:valV (kz (q :: ks)) (k.map Sum.inl)=valV (kz ks) (k.map Sum.inl):=z1a (by show ¬ q.1.map Sum.inl=k.map Sum.inl;rw[<- h.1];exact fun y=>z (z3W.mp y))
    rw[e1,e2]
    exact Acc.val k t
theorem Acc.any{H:Hp}(k:List Int):∀ {acc:List (List Int×Rat)}{ks:List (List Int×V)},Acc K H acc ks->(acc.any fun p=>decide (p.1=k))=ks.any fun p=>decide (p.1=k)
 | _,_,.nil=>rfl
 | p :: acc,q :: ks,.cons h t=>by rw[qQ,qQ,Acc.any k t,h.1]
theorem Acc.map{H:Hp}{k:List Int}{x:Rat}{v:V}(d:IsD K H (dF x) v):∀ {acc:List (List Int×Rat)}{ks:List (List Int×V)},Acc K H acc ks->Acc K H (acc.map fun p=>if p.1=k then (p.1,x) else p) (ks.map fun p=>if p.1=k then (p.1,v) else p)
 | _,_,.nil => .nil
 | p :: acc,q :: ks,.cons h t=>by
  rw[jV,jV]
  refine .cons ?_ (Acc.map d t)
  by_cases z:p.1=k
  · rw[if_pos z,if_pos (by rw[<- h.1];exact z)];exact⟨h.1,d⟩
  · rw[if_neg z,if_neg (by rw[<- h.1];exact z)];exact h
theorem y1T{α β:Type}{F:α->β->Prop}{x:α}{y:β}(h:F x y):∀ {l:List α}{m:List β},Paired F l m->Paired F (l ++ [x]) (m ++ [y])
 | _,_,.nil => .cons h .nil
 | _,_,.cons g t => .cons g (y1T h t)
theorem Acc.set{H:Hp}{k:List Int}{x:Rat}{v:V}{acc:List (List Int×Rat)}{ks:List (List Int×V)}(a:Acc K H acc ks)(d:IsD K H (dF x) v):Acc K H (z3K acc k x) (z3K ks k v):=by
 unfold z3K
 rw[a.any k]
 split
 · exact a.map d
 · exact y1T ⟨rfl,d⟩ a
theorem z6w{α β:Type}{F:α->β->Prop}{m m':List β}(h:m'.Perm m):∀ {l:List α},Paired F l m->∃ l',l'.Perm l/\Paired F l' m':=by
 induction h with
 | nil=>intro l t;exact⟨l,.refl _,t⟩
 | cons x _ ih =>
  intro l t
  cases t with
  | cons g t =>
   obtain⟨l',h1,h2⟩:=ih t
   exact⟨_ :: l',h1.cons _,.cons g h2⟩
 | swap x y _ =>
  intro l t
  cases t with
  | cons g t =>
   cases t with
   | cons g2 t=>exact⟨_,.swap _ _ _,.cons g2 (.cons g t)⟩
 | trans _ _ ih1 ih2 =>
  intro l t
  obtain⟨l1,h1,t1⟩:=ih2 t
  obtain⟨l2,h2,t2⟩:=ih1 t1
  exact⟨l2,h2.trans h1,t2⟩
theorem z3b{α β:Type}{G:α->β->Prop}:∀ {l:List (List Int×α)}{m:List (List Int×β)},Paired (fun p q=>p.1=q.1/\G p.2 q.2) l m->l.map (·.1)=m.map (·.1)
 | _,_,.nil=>rfl
 | _,_,.cons h t=>by rw[jV,jV,h.1,z3b t]
theorem z2L{H:Hp}:∀ ns:List Int,IsDs K H (ns.map D.int) (ns.map V.int)
 | []=>rfl
 | _ :: ns=>⟨_,_,rfl,rfl,z2L ns⟩
theorem z5d{H:Hp}:∀ {ds:List D}{xs:List V},xs.length=ds.length->(∀ (i:Nat) (x:V) (d:D),xs[i]? = some x->ds[i]? = some d->IsD K H d x)->IsDs K H ds xs
 | [],[],_,_=>rfl
 | d :: ds,x :: xs,hl,k=>⟨x,xs,rfl,k 0 x d rfl rfl,z5d (by simpa using hl) fun i y e h1 h2=>k (i + 1) y e (by simpa using h1) (by simpa using h2)⟩
theorem z8k{H:Hp}{d p:Addr}{ks:List (List Key×V)}{o:HO}{xs:List V}(e:H d=some (.dT ks))(h:SqT K H p xs):SqT K (upd H d o) p xs:=by
 rcases h with (h | ⟨u,h⟩) | h
 · exact .inl (.inl (by rw[z0k fun z=>by rw[z,e]at h;cases h];exact h))
 · exact .inl (.inr ⟨u,by rw[z0k fun z=>by rw[z,e]at h;cases h];exact h⟩)
 · exact .inr h
theorem z9Z{H:Hp}{d:Addr}{ks:List (List Key×V)}{o:HO}(e:H d=some (.dT ks))(r:Rat)(v:V)(h:IsD K H (dF r) v):IsD K (upd H d o) (dF r) v:=by
 obtain⟨p,rfl,q⟩:=z2q h
 exact⟨p,_,rfl,z8k e q,_,_,rfl,rfl,_,_,rfl,rfl,rfl⟩
def z4F(K:PySem.W.Frag):Sp:=fun vs H Q _=>∃ (a p:Addr) (xs:List V) (rs:List (List Int×Rat)) (ps:List Int),vs=[.ref a,.ref p]/\SqL K H a xs/\IsDs K H (rs.map z3G) xs/\SqL K H p (ps.map V.int)/\(∀ r∈rs,∀ j∈ps,0<=j/\j < r.1.length)/\ps.length<=100/\rs.length<=900/\(∀ r∈rs,sz r.2)/\(∀ i,∀ g∈gath ps (rs.take i),sz g.2) /\
 ∀ l H' (qs:List (List Int×Rat)),Same H H'->H l=none->qs.Perm (gath ps rs)->qs.Pairwise (fun p q=>HT.lexLt p.1 q.1=true)->IsD K H' (.lst (qs.map z3G)) (.ref l)->Q (.ref l) H'
theorem z8C(B:Bl mg)(z1q:Def P w K mg base "chosen" 1 ["values", "places"] (z3l K))(y3t:Def P w K mg base "plus" 3 ["one", "other"] (y1u K))(F:Fn K mg "gathered" z2e ["rows", "places"]):Def P w K mg base "gathered" 4 ["rows", "places"] (z4F K):=by
 refine F.ok z1I (fun vs H Q E h=>?_) (fun f cdv A outer s H vs Q E hr h=>?_)
 · obtain⟨a,p,xs,rs,ps,rfl,_⟩:=h;rfl
 obtain⟨a,p,xs,rs,ps,rfl,qa,dxs,qp,hj,hl,h63,hz,hzg,q⟩:=h
 have xl:=dxs.length
 rw[jA]at xl
 refine⟨_,(@z0c _ _ _ _ _ (z0l (i:=2) z1I.nd rfl (by first | exact Or.inl rfl | exact Or.inr rfl) z4r)
  (@z0c _ _ _ _ _ (z1U PassesOwn.never rfl (z0I (pv 0)) (z7w rfl (z1p (z0v (i:=3) z1I.nd rfl (by first | exact Or.inl rfl | exact Or.inr rfl)) (z1p (z0v (i:=4) z1I.nd rfl (by first | exact Or.inl rfl | exact Or.inr rfl)) z4Q))) (@z0c _ _ _ _ _ (z0l (i:=5) z1I.nd rfl (by first | exact Or.inl rfl | exact Or.inr rfl) (z0p z1q hr rfl (z0g (pv 3) (z0g (pv 1) z0f))))
  (@z0h _ _ _ (z6v (z4m hr) (pv 2) (pv 5) (y3X (z0B (y7Y (z4m hr)) (pv 5) (pv 2) (by rfl)) (z0p y3t hr rfl (z0g (z8u (z4m hr) (pv 2) (pv 5) (fun _ _=>rfl)) (z0g (pv 4) z0f))) (pv 4)) rfl))))
  (@z0h _ _ _ (z0X (z4R rfl (z7N hr) rfl B.sorted PyProof.Rows.boot_sorted (pv 2)))))),?_⟩
 intro d hd
 have s0:Same H (upd H d (.dT [])):=z0e hd _
 refine⟨_,rfl,a,rfl,⟨xs,s0.seq qa⟩,?_⟩
 refine z0N (K:=K) (xs:=xs) (fun i σ H'=>Same H H'/\∃ ks c3 c4 c5,σ=[some (.ref a),some (.ref p),some (.ref d),c3,c4,c5]/\H' d=some (.dT (kz ks))/\Acc K H' (gath ps (rs.take i)) ks) ⟨s0,[],none,none,none,rfl,z0a,.nil⟩ (fun i σ H' _ h=>h.1.seq qa) ?_ ?_
 · rintro i x σ H' hx ⟨sm,ks,c3,c4,c5,rfl,ed,ac⟩
   have hi:i < rs.length:=by have:=(jH.mp hx).1;omega
   obtain⟨y,ey,dy⟩:=dxs.get (i:=i) (d:=z3G rs[i]) (by rw[jF,jD hi];rfl)
   obtain rfl:x=y:=by rw[hx]at ey;exact Option.some.inj ey
   obtain⟨t,zs,rfl,qt,v1,_,rfl,d1,v2,_,rfl,d2,rfl⟩:=dy
   obtain⟨t1,ys,rfl,q1,dys⟩:=d1
   rw[z1w dys]at q1
   have tk:rs.take (i + 1)=rs.take i ++ [rs[i]]:=jw hi
   have hzi:=hz _ (kD hi)
   have hza:=hzg i
   have gl:=z6M ps (rs.take i)
   rw[jS]at gl
   have kl:=ac.length
   rw[tk,z5i]
   refine⟨t,_,rfl,sm.tupq qt,rfl,_,_,rfl,_,_,rfl,rfl,?_⟩
   refine⟨_,rfl,_,rfl,t1,p,_,ps,rfl,sm.tupq q1,sm.seq qp,hj _ (kD hi),hl,fun t2 H2 n2 s2 e2=>?_⟩
   have ed2:=s2 _ _ ed
   have ac2:Acc K H2 _ _:=ac.mono fun r v h=>h.same s2
   have d2':IsD K H2 (dF rs[i].2) v2:=d2.same (sm.trans s2)
   have kt:H2 t2=some (.tup (((pickN rs[i].1 ps).map (Sum.inl:Int->Key)).map kV)):=by rw[z1P];exact e2
   have get:=DGet.t ed2 kt
   have lz:(kz ks).length < sizeLine:=by rw[jA];exact z2a (by omega)
   have nx:∀ (x:Rat) (v':V) (H3:Hp),Same H2 H3->IsD K H3 (dF x) v'->Same H (upd H3 d (.dT (z2u (kz ks) ((pickN rs[i].1 ps).map Sum.inl) v')))/\(upd H3 d (.dT (z2u (kz ks) ((pickN rs[i].1 ps).map Sum.inl) v'))) d=some (.dT (kz (z3K ks (pickN rs[i].1 ps) v'))) /\
    Acc K (upd H3 d (.dT (z2u (kz ks) ((pickN rs[i].1 ps).map Sum.inl) v'))) (z3K (gath ps (rs.take i)) (pickN rs[i].1 ps) x) (z3K ks (pickN rs[i].1 ps) v'):=fun x v' H3 s3 dv=>by
    refine⟨z0o hd ((sm.trans s2).trans s3),by rw[z0a,z7G],?_⟩
    exact ((ac2.mono fun r v h=>h.same s3).set dv).mono (z9Z (s3 _ _ ed2))
   unfold y0g
   refine⟨_,rfl,_,rfl,d,_,rfl,get,_,rfl,?_⟩
   rcases ac2.val (pickN rs[i].1 ps) with ⟨e3,e4⟩ | ⟨r,v,e3,e4,dr⟩
   · rw[e3]
     rw[e4]at get ⊢
     refine y9A ⟨_,rfl,_,rfl,_,rfl,d,_,rfl,DPut.t ed2 kt lz,?_⟩
     obtain⟨b1,b2,b3⟩:=nx rs[i].2 v2 H2 (Same.refl _) d2'
     exact⟨b1,_,_,_,_,rfl,b2,b3⟩
   · rw[e3]
     rw[e4]at get ⊢
     have zr:sz r:=by
      unfold z5Z at e3
      cases ef:(gath ps (rs.take i)).find? fun p=>decide (p.1=pickN rs[i].1 ps) with
      | none=>rw[ef]at e3;cases e3
      | some g =>
       rw[ef]at e3
       cases e3
       exact hza g (List.mem_of_find?_eq_some ef)
     refine y9y ⟨_,rfl,_,rfl,d,v,rfl,get,_,rfl,v,v2,r,rs[i].2,rfl,dr,d2',zr,hzi,fun p3 H3 s3 d3=>⟨_,rfl,_,rfl,d,_,rfl,DPut.t (s3 _ _ ed2) (s3 _ _ kt) lz,?_⟩⟩
     obtain⟨b1,b2,b3⟩:=nx (r + rs[i].2) (.ref p3) H3 s3 d3
     exact⟨b1,_,_,_,_,rfl,b2,b3⟩
 · rintro σ H' ⟨sm,ks,c3,c4,c5,rfl,ed,ac⟩
   rw[xl,jy]at ac
   have gl:=z6M ps rs
   have kl:=ac.length
   refine⟨_,rfl,d,ks,rfl,ed,by omega,fun H2 l qs xs' pm pw s2 nl e2 ln pr=>?_⟩
   obtain⟨acc',h1,h2⟩:=z6w pm ac
   have hk:acc'.map (·.1)=qs.map (·.1):=z3b (G:=fun r v=>IsD K H' (dF r) v) h2
   have al:=h2.length
   refine q l H2 acc' (sm.trans s2) (sm.free nl) h1 ?_ ⟨l,xs',rfl,.of e2,z5d (by rw[jA];omega) fun i x d' e1 e3=>?_⟩
   · have:(qs.map (·.1)).Pairwise fun a b=>HT.lexLt a b=true:=kA.mpr pw
     rw[<- hk]at this
     exact kA.mp this
   · rw[jF]at e3
     cases ea:acc'[i]? with
     | none=>rw[ea]at e3;cases e3
     | some kr =>
      rw[ea]at e3
      cases e3
      obtain⟨kv,e4,e5,e6⟩:=z5I h2 ea
      obtain⟨pp,b,rfl,e7,e8⟩:=pr i x kv e1 e4
      exact⟨pp,_,rfl,.of e7,_,_,rfl,⟨b,_,rfl,.of e8,by rw[<- e5];exact z2L _⟩,_,_,rfl,e6.same s2,rfl⟩
def plc(ns ss:List Str):List Int:=ss.map fun n=>((ns.idxOf n:Nat):Int)
def z4D(K:PySem.W.Frag):Sp:=fun vs H Q _=>∃ (v s:Addr) (ns ss:List Str),vs=[.ref v,.ref s]/\TupZ H v (ns.map V.str)/\(SqL K H s (ss.map V.str)\/SqT K H s (ss.map V.str))/\(∀ n∈ss,n∈ns)/\ss.length<=100 /\
 ∀ l H',Same H H'->H' l=some (.lst ((plc ns ss).map V.int))->Q (.ref l) H'
theorem z9W(m n:Str):eqV (.str m) (.str n)=decide (m=n):=by show (m == n)=_;exact Bool.beq_eq_decide_eq ..
theorem z7A(B:Bl mg)(F:Fn K mg "places_of" z1J ["names", "some"]):Def P w K mg base "places_of" 1 ["names", "some"] (z4D K):=by
 refine F.ok z7n (fun vs H Q E h=>?_) (fun f cdv A outer s H vs Q E hr h=>?_)
 · obtain⟨v,p,ns,ss,rfl,_⟩:=h;rfl
 obtain⟨v,p,ns,ss,rfl,qv,qp,hj,hl,q⟩:=h
 refine⟨_,(@z0h _ _ _ (z0X (z3Q (CompOk.of (x := "name") (M:=["names"]) (ix:=[0]) rfl rfl (by decide +kernel) (by decide +kernel) rfl ⟨rfl,trivial⟩ (by rfl) ⟨⟨rfl,rfl,rfl,rfl⟩,trivial⟩) rfl (by decide +kernel) (y7P (pv 1)) (fun _ _ _ _ _=>z2Z) (fun _ _ _ _ _=>(y7S PySem.F.slot_tuple_index PySem.F.type_tuple_index (y2n K rfl) (pv 1) (z0g (pv 0) z0f)))))),?_⟩
 refine y0O ?_
 have item:∀ (i:Nat) (x:V) (d:D) (H':Hp) (R:VK),(ss.map V.str)[i]? = some x->((plc ns ss).map D.int)[i]? = some d->Same H H'->(∀ y H2,Same H' H2->IsD K H2 d y->R y H2)->∃ n,x = .str n/\∃ (hn:ns.idxOf n < ns.length),d = .int ((ns.idxOf n:Nat):Int):=fun i x d H' R hx hd sm hR=>by
  unfold plc at hd
  rw[jF]at hx
  rw[jF,jF]at hd
  cases en:ss[i]? with
  | none=>rw[en]at hx;cases hx
  | some n =>
   rw[en]at hx hd
   cases hx;cases hd
   exact⟨n,rfl,ke.mpr (hj n (jk en)),rfl⟩
 have eqs:∀ (n:Str) (hn:ns.idxOf n < ns.length),eqV ((ns.map V.str)[ns.idxOf n]'(by rw[jA];exact hn)) (.str n)=true/\∀ m (hm:m < (ns.map V.str).length),m < ns.idxOf n->eqV ((ns.map V.str)[m]) (.str n)=false:=fun n hn=>by
  refine⟨?_,fun m hm hmj=>?_⟩
  · rw[List.getElem_map,z9W,List.getElem_idxOf hn];exact decide_eq_true rfl
  · rw[List.getElem_map,z9W]
    refine decide_eq_false fun z=>?_
    have:=List.not_of_lt_findIdx (p:=(· == n)) (xs:=ns) (i:=m) (by simpa [List.idxOf] using hmj)
    simp[z]at this
 rcases qp with qp | qp
 · refine⟨_,rfl,p,rfl,.inl ⟨⟨_,qp⟩,?_⟩⟩
   refine z5U (K:=K) (xs:=ss.map V.str) ((plc ns ss).map D.int) qp (by unfold plc;simp) (by rw[jA];exact kP (z2a (by omega))) (z4v _) (fun i x d H' R hx hd sm hR=>?_) (fun l H' ys sm e dl=>?_)
   · obtain⟨n,rfl,hn,rfl⟩:=item i x d H' R hx hd sm hR
     obtain⟨e1,e2⟩:=eqs n hn
     exact⟨_,rfl,v,_,rfl,qv.same sm,_,rfl,v,ns.map V.str,.str n,ns.idxOf n,by rw[jA];exact hn,rfl,rfl,sm.tupq qv.sq,rfl,z2j _,e1,e2,hR _ _ (Same.refl _) rfl⟩
   · rw[z1w dl]at e
     exact q l _ sm e
 · refine⟨_,rfl,p,rfl,.inr ⟨⟨_,qp⟩,?_⟩⟩
   refine y4I (K:=K) (xs:=ss.map V.str) ((plc ns ss).map D.int) qp (by unfold plc;simp) (by rw[jA];exact kP (z2a (by omega))) (z4v _) (fun i x d H' R hx hd sm hR=>?_) (fun l H' ys sm e dl=>?_)
   · obtain⟨n,rfl,hn,rfl⟩:=item i x d H' R hx hd sm hR
     obtain⟨e1,e2⟩:=eqs n hn
     exact⟨_,rfl,v,_,rfl,qv.same sm,_,rfl,v,ns.map V.str,.str n,ns.idxOf n,by rw[jA];exact hn,rfl,rfl,sm.tupq qv.sq,rfl,z2j _,e1,e2,hR _ _ (Same.refl _) rfl⟩
   · rw[z1w dl]at e
     exact q l _ sm e
theorem y1D{ix:List Nat}{wi:TI}{tt:TT}{te:TE}{r:List V->Hp->VK->Prop}{g:TG}{u:TS}{D:Ends}{σ:St}{H:Hp}(h:wi σ H (z3h ix tt te σ fun x H1=>r [x] H1 fun v H2=>g v σ H2 (u D))) :
 y7f (y1m (tCB r (z2w (z6c ix wi tt te) y0p)) g) u D σ H:=h
def wo(ns:List Str)(n:Str):List Str:=ns.filter fun m => !decide (m=n)
def z4C(K:PySem.W.Frag):Sp:=fun vs H Q _=>∃ (t v a:Addr) (n:Str) (ns:List Str) (xs:List V) (rs:List (List Int×Rat)),vs=[.ref t,.str n]/\SqT K H t [.ref v,.ref a]/\TupZ H v (ns.map V.str)/\SqL K H a xs/\IsDs K H (rs.map z3G) xs/\ns.length<=60 /\
 (∀ r∈rs,r.1.length=ns.length)/\rs.length<=900/\(∀ r∈rs,sz r.2)/\(∀ i,∀ g∈gath (plc ns (wo ns n)) (rs.take i),sz g.2) /\
 ∀ p r l H' (qs:List (List Int×Rat)),Same H H'->H p=none->H r=none->H l=none->H' p=some (.tup [.ref r,.ref l])->TupZ H' r ((wo ns n).map V.str)->qs.Perm (gath (plc ns (wo ns n)) rs)->qs.Pairwise (fun p q=>HT.lexLt p.1 q.1=true)->IsD K H' (.lst (qs.map z3G)) (.ref l)->Q (.ref p) H'
theorem y2i(B:Bl mg)(z0T:Def P w K mg base "places_of" 1 ["names", "some"] (z4D K))(z4d:Def P w K mg base "gathered" 4 ["rows", "places"] (z4F K))(F:Fn K mg "pushed" z3n ["table", "name"]):Def P w K mg base "pushed" 5 ["table", "name"] (z4C K):=by
 refine F.ok z7m (fun vs H Q E h=>?_) (fun f cdv A outer s H vs Q E hr h=>?_)
 · obtain⟨t,v,a,n,ns,xs,rs,rfl,_⟩:=h;rfl
 obtain⟨t,v,a,n,ns,xs,rs,rfl,qt,qv,qa,dxs,hn,hw,h63,hz,hzg,q⟩:=h
 have fl:(wo ns n).length<=ns.length:=kE _ _
 have sub:∀ m∈wo ns n,m∈ns:=fun m hm=>(ju.mp hm).1
 refine⟨_,(@z0c _ _ _ _ _ (z0l (i:=2) z7m.nd rfl (by first | exact Or.inl rfl | exact Or.inr rfl) (z0t (z1l K rfl) rfl B.tuple PyProof.Rows.boot_tuple (z0g (z3Q (CompOk.of (x := "other") (M:=["name"]) (ix:=[1]) rfl rfl (by decide +kernel) (by decide +kernel) rfl ⟨rfl,trivial⟩ (by rfl) ⟨⟨rfl,rfl,rfl,rfl⟩,trivial⟩) rfl (by decide +kernel) (y5e (z0q (z0i K rfl) (pv 0) z0d (fun _ _=>rfl))) (fun _ _ _ _ _=>(z3N (z0B y7U (pv 0) (pv 1) (z1f _)))) (fun _ _ _ _ _=>(pv 0))) z0f)))
  (@z0h _ _ _ (z0X (z3s (z0g (pv 2) (z0g (z0p z4d hr rfl (z0g (z0q (z0i K rfl) (pv 0) z0d (fun _ _=>rfl)) (z0g (z0p z0T hr rfl (z0g (z0q (z0i K rfl) (pv 0) z0d (fun _ _=>rfl)) (z0g (pv 2) z0f))) z0f))) z0f)))))),?_⟩
 refine y1D ?_
 refine⟨_,rfl,.inr (.inl ⟨t,_,0,.ref v,rfl,rfl,qt,rfl,v,rfl,⟨_,qv.sq⟩,?_⟩)⟩
 refine z5V (K:=K) (fun m => !decide (m=n)) qv.sq (kP (z2a (by omega))) (fun m H' R sm hR=>⟨_,rfl,_,rfl,_,_,rfl,rfl,_,rfl,hR⟩) (fun m H' R hR=>⟨_,rfl,hR⟩) (fun p1 H1 n1 s1 e1=>?_)
 refine⟨p1,_,rfl,.of e1,fun r o hr1 od=>?_⟩
 have s2:Same H (upd H1 r (.frz o (.tup ((wo ns n).map V.str)))):=s1.trans (z0e hr1 _)
 have zr:TupZ (upd H1 r (.frz o (.tup ((wo ns n).map V.str)))) r ((wo ns n).map V.str):=⟨o,z0a,od⟩
 have hr0:H r=none:=s1.free hr1
 refine⟨_,rfl,_,rfl,.inr (.inl ⟨t,_,1,.ref a,rfl,rfl,s2.tupq qt,rfl,?_⟩)⟩
 refine⟨_,rfl,.inr (.inl ⟨t,_,0,.ref v,rfl,rfl,s2.tupq qt,rfl,?_⟩)⟩
 refine⟨_,rfl,v,r,ns,wo ns n,rfl,qv.same s2,.inr zr.sq,sub,by omega,fun l H3 s3 ql=>?_⟩
 have s13:=s2.trans s3
 refine⟨a,l,xs,rs,plc ns (wo ns n),rfl,s13.seq qa,dxs.same s13,.of ql,fun r' hr' j hj=>?_,by unfold plc;rw[jA];omega,h63,hz,hzg,fun l2 H4 qs s4 n4 pm pw dl=>?_⟩
 · unfold plc at hj
   obtain⟨m,hm,rfl⟩:=jN.mp hj
   have:=ke.mpr (sub m hm)
   rw[hw r' hr']
   omega
 · refine⟨(by show 2<=sizeLine;decide),fun p hp=>?_⟩
   have s14:=s13.trans s4
   refine q p r l2 _ qs (s14.trans (z0e hp _)) (s14.free hp) hr0 (s13.free n4) z0a (zr.same ((s3.trans s4).trans (z0e hp _))) pm pw (dl.same (z0e hp _))
theorem z3F{ix:List Nat}{wi:TI}{tt:TT}{te:TE}{g:TG}{u:TS}{D:Ends}{σ:St}{H:Hp}(h:wi σ H (z3h ix tt te σ fun x H1=>g x σ H1 (u D))):y7f (y1m (z6c ix wi tt te) g) u D σ H:=h
def selB(ps:List Int)(zs:List (V×(List Int×Rat)))(k:List Int):List V:=(zs.filter fun z=>decide (pickN z.2.1 ps=k)).map (·.1)
theorem z7k(ps:List Int)(zs:List (V×(List Int×Rat)))(x:V)(r:List Int×Rat)(k:List Int):selB ps (zs ++ [(x,r)]) k=if pickN r.1 ps=k then selB ps zs k ++ [x] else selB ps zs k:=by
 unfold selB
 rw[kL,jT]
 by_cases h:pickN r.1 ps=k
 · rw[if_pos h];simp[h]
 · rw[if_neg h];simp[h]
theorem y3M(ps:List Int)(zs:List (V×(List Int×Rat)))(k:List Int):(selB ps zs k).length<=zs.length:=by
 unfold selB
 rw[jA];exact kE _ _
structure By (H0 H:Hp) (d:Addr) (ps:List Int) (zs:List (V×(List Int×Rat))) (ks:List (List Int×V)):Prop where
 at_:H d=some (.dT (kz ks))
 len:ks.length<=zs.length
 val:∀ k:List Int,(valV (kz ks) (k.map Sum.inl)=none/\selB ps zs k=[])\/∃ l,valV (kz ks) (k.map Sum.inl)=some (.ref l)/\H l=some (.lst (selB ps zs k))/\H0 l=none/\l≠d
 inj:∀ (k k':List Int) l,valV (kz ks) (k.map Sum.inl)=some (.ref l)->valV (kz ks) (k'.map Sum.inl)=some (.ref l)->k=k'
theorem By.same{H0 H H':Hp}{d:Addr}{ps:List Int}{zs:List (V×(List Int×Rat))}{ks:List (List Int×V)}(h:By H0 H d ps zs ks)(s:Same H H'):By H0 H' d ps zs ks :=
 ⟨s _ _ h.at_,h.len,fun k=>(h.val k).imp id fun⟨l,a,b,c⟩=>⟨l,a,s _ _ b,c⟩,h.inj⟩
theorem By.new{H0 H:Hp}{d l:Addr}{ps:List Int}{zs:List (V×(List Int×Rat))}{ks:List (List Int×V)}(h:By H0 H d ps zs ks){x:V}{r:List Int×Rat}(e:valV (kz ks) ((pickN r.1 ps).map Sum.inl)=none)(fl:H l=none)(fl0:H0 l=none) :
 By H0 (upd (upd (upd H l (.lst [])) d (.dT (z2u (kz ks) ((pickN r.1 ps).map Sum.inl) (.ref l)))) l (.lst [x])) d ps (zs ++ [(x,r)]) (z3K ks (pickN r.1 ps) (.ref l)):=by
 have nd:d≠l:=fun z=>by rw[<- z,h.at_]at fl;cases fl
 have vv:∀ k:List Int,valV (kz (z3K ks (pickN r.1 ps) (.ref l))) (k.map Sum.inl)=if k=pickN r.1 ps then some (.ref l) else valV (kz ks) (k.map Sum.inl):=fun k=>by
  rw[<- z7G,z9f]
  by_cases c:k=pickN r.1 ps
  · rw[if_pos c,if_pos (by rw[c])]
  · rw[if_neg c,if_neg fun z=>c (z3W.mp z)]
 have nol:∀ k:List Int,valV (kz ks) (k.map Sum.inl)≠some (.ref l):=fun k z=>by
  rcases h.val k with ⟨a,_⟩ | ⟨l',a,b,_⟩
  · rw[a]at z;cases z
  · rw[a]at z;cases z;rw[fl]at b;cases b
 refine⟨by rw[z0k nd,z0a,z7G],?_,fun k=>?_,fun k k' l' e1 e2=>?_⟩
 · have:=z6n ks (pickN r.1 ps) (V.ref l)
   have:=h.len
   rw[jG]
   show _<=zs.length + 1
   omega
 · rw[vv k,z7k]
   by_cases c:k=pickN r.1 ps
   · rw[if_pos c,if_pos c.symm]
     have e0:selB ps zs k=[]:=by
      rcases h.val k with ⟨_,b⟩ | ⟨l',a,_⟩
      · exact b
      · rw[c,e]at a;cases a
     refine .inr ⟨l,rfl,by rw[z0a,e0];rfl,fl0,nd.symm⟩
   · rw[if_neg c,if_neg (fun z=>c z.symm)]
     rcases h.val k with a | ⟨l',a,b,c',d'⟩
     · exact .inl a
     · have n1:l'≠l:=fun z=>by rw[z,fl]at b;cases b
       exact .inr ⟨l',a,by rw[z0k n1,z0k d',z0k n1];exact b,c',d'⟩
 · rw[vv]at e1 e2
   by_cases c:k=pickN r.1 ps
   · rw[if_pos c]at e1
     cases e1
     by_cases c':k'=pickN r.1 ps
     · rw[c,c']
     · rw[if_neg c']at e2;exact absurd e2 (nol k')
   · rw[if_neg c]at e1
     by_cases c':k'=pickN r.1 ps
     · rw[if_pos c']at e2;cases e2;exact absurd e1 (nol k)
     · rw[if_neg c']at e2;exact h.inj k k' l' e1 e2
theorem By.old{H0 H:Hp}{d l:Addr}{ps:List Int}{zs:List (V×(List Int×Rat))}{ks:List (List Int×V)}(h:By H0 H d ps zs ks){x:V}{r:List Int×Rat}(e:valV (kz ks) ((pickN r.1 ps).map Sum.inl)=some (.ref l)) :
 H l=some (.lst (selB ps zs (pickN r.1 ps)))/\H0 l=none/\By H0 (upd H l (.lst (selB ps zs (pickN r.1 ps) ++ [x]))) d ps (zs ++ [(x,r)]) ks:=by
 rcases h.val (pickN r.1 ps) with ⟨a,_⟩ | ⟨l',a,b,c,nd⟩
 · rw[a]at e;cases e
 rw[a]at e
 cases e
 refine⟨b,c,by rw[z0k nd.symm];exact h.at_,jY h.len (by rw[jG];omega),fun k=>?_,h.inj⟩
 rw[z7k]
 by_cases ck:pickN r.1 ps=k
 · rw[if_pos ck]
   refine .inr ⟨l,by rw[<- ck];exact a,by rw[z0a,ck],c,nd⟩
 · rw[if_neg ck]
   rcases h.val k with z | ⟨l',a',b',c',d'⟩
   · exact .inl z
   · have n1:l'≠l:=fun z=>ck (h.inj _ _ l a (by rw[<- z];exact a'))
     exact .inr ⟨l',a',by rw[z0k n1];exact b',c',d'⟩
def z5E(K:PySem.W.Frag):Sp:=fun vs H Q _=>∃ (a p:Addr) (xs:List V) (rs:List (List Int×Rat)) (ps:List Int),vs=[.ref a,.ref p]/\SqL K H a xs/\IsDs K H (rs.map z3G) xs/\SqL K H p (ps.map V.int)/\(∀ r∈rs,∀ j∈ps,0<=j/\j < r.1.length)/\ps.length<=100/\rs.length<=900 /\
 ∀ d H' ks,Same H H'->H d=none->By H H' d ps (xs.zip rs) ks->Q (.ref d) H'
theorem z5Y{xs:List V}{rs:List (List Int×Rat)}{i:Nat}{x:V}(hx:xs[i]? = some x)(hr:i < rs.length):(xs.zip rs).take (i + 1)=(xs.zip rs).take i ++ [(x,rs[i])]:=by
 have hi:i < xs.length:=(jH.mp hx).1
 rw[jw (by rw[List.length_zip];omega),List.getElem_zip]
 congr 3
 exact (jH.mp hx).2
theorem y0x(B:Bl mg)(z1q:Def P w K mg base "chosen" 1 ["values", "places"] (z3l K))(F:Fn K mg "rows_by" z2z ["rows", "places"]):Def P w K mg base "rows_by" 2 ["rows", "places"] (z5E K):=by
 refine F.ok z3L (fun vs H Q E h=>?_) (fun f cdv A outer s H vs Q E hr h=>?_)
 · obtain⟨a,p,xs,rs,ps,rfl,_⟩:=h;rfl
 obtain⟨a,p,xs,rs,ps,rfl,qa,dxs,qp,hj,hl,h900,q⟩:=h
 have xl:=dxs.length
 rw[jA]at xl
 have big:(1000:Nat) < sizeLine:=by decide
 refine⟨_,(@z0c _ _ _ _ _ (z0l (i:=2) z3L.nd rfl (by first | exact Or.inl rfl | exact Or.inr rfl) z4r)
  (@z0c _ _ _ _ _ (z1U PassesOwn.never rfl (z0I (pv 0)) (z0v (i:=3) z3L.nd rfl (by first | exact Or.inl rfl | exact Or.inr rfl)) (@z0h _ _ _ (z2p (z6A PySem.F.plainAttrs_list PySem.F.slot_list_append PySem.F.type_list_append z1h (y1Z (z4m hr) (pv 2) (z0p z1q hr rfl (z0g (z0q (z0i K rfl) (pv 3) z0d (fun _ _=>rfl)) (z0g (pv 1) z0f))) (z3t z0f) ⟨rfl,rfl,rfl,rfl⟩) (z0g (pv 3) z0f)))))
  (@z0h _ _ _ (z0X (pv 2))))),?_⟩
 intro d hd
 have s0:Same H (upd H d (.dT [])):=z0e hd _
 refine⟨_,rfl,a,rfl,⟨xs,s0.seq qa⟩,?_⟩
 refine z0N (K:=K) (xs:=xs) (fun i σ H'=>Same H H'/\∃ ks c3,σ=[some (.ref a),some (.ref p),some (.ref d),c3]/\By H H' d ps ((xs.zip rs).take i) ks) ⟨s0,[],none,rfl,z0a,jg _,fun k => .inl ⟨rfl,rfl⟩,fun k k' l e=>(by cases e)⟩ (fun i σ H' _ h=>h.1.seq qa) ?_ ?_
 · rintro i x σ H' hx ⟨sm,ks,c3,rfl,by_⟩
   have hi:i < rs.length:=by have:=(jH.mp hx).1;omega
   obtain⟨y,ey,dy⟩:=dxs.get (i:=i) (d:=z3G rs[i]) (by rw[jF,jD hi];rfl)
   obtain rfl:x=y:=by rw[hx]at ey;exact Option.some.inj ey
   obtain⟨t,zs,rfl,qt,v1,_,rfl,d1,v2,_,rfl,d2,rfl⟩:=dy
   obtain⟨t1,ys,rfl,q1,dys⟩:=d1
   rw[z1w dys]at q1
   rw[z5Y hx hi]
   have zl:((xs.zip rs).take i).length<=900:=by rw[jS,List.length_zip];omega
   have bl:=by_.len
   refine⟨_,rfl,d,rfl,.inr ⟨_,.inl by_.at_⟩,_,rfl,.inr (.inl ⟨t,_,0,.ref t1,rfl,rfl,sm.tupq qt,rfl,?_⟩)⟩
   refine⟨_,rfl,t1,p,_,ps,rfl,sm.tupq q1,sm.seq qp,hj _ (kD hi),hl,fun t2 H2 n2 s2 e2=>?_⟩
   have sm2:=sm.trans s2
   refine⟨by show 0<=sizeLine;decide,fun l fl=>?_⟩
   have s3:=z0e fl (.lst [])
   have by3:=(by_.same s2).same s3
   have kt:upd H2 l (.lst []) t2=some (.tup (((pickN rs[i].1 ps).map (Sum.inl:Int->Key)).map kV)):=by rw[z1P];exact s3 _ _ e2
   refine⟨kz ks,(pickN rs[i].1 ps).map Sum.inl,t2,by3.at_,rfl,kt,by rw[jA];omega,fun v ev=>?_,fun ev=>?_⟩
   · obtain⟨l',rfl⟩:∃ l',v = .ref l':=by
      rcases by3.val (pickN rs[i].1 ps) with ⟨a',_⟩ | ⟨l',a',_⟩
      · rw[a']at ev;cases ev
      · rw[a']at ev;cases ev;exact⟨l',rfl⟩
     obtain⟨b1,b2,b3⟩:=by3.old (x := .ref t) (r:=rs[i]) ev
     have:=y3M ps ((xs.zip rs).take i) (pickN rs[i].1 ps)
     exact⟨.inl ⟨rfl,_,.of b1⟩,_,rfl,l',_,_,rfl,rfl,b1,by omega,z0o b2 (sm2.trans s3),ks,_,rfl,b3⟩
   · have nd:d≠l:=fun z=>by have:=s2 _ _ by_.at_;rw[z,fl]at this;cases this
     have e4:upd (upd H2 l (.lst [])) d (.dT (z2u (kz ks) ((pickN rs[i].1 ps).map Sum.inl) (.ref l))) l=some (.lst []):=by rw[z0k nd.symm,z0a]
     exact⟨.inl ⟨rfl,_,.of e4⟩,_,rfl,l,_,_,rfl,rfl,e4,by show 0 < sizeLine;decide,z0o (sm2.free fl) (z0o hd (sm2.trans s3)),_,_,rfl,(by_.same s2).new ev fl (sm2.free fl)⟩
 · rintro σ H' ⟨sm,ks,c3,rfl,by_⟩
   refine⟨_,rfl,q d H' ks sm hd ?_⟩
   rw[kK (by rw[List.length_zip];omega)]at by_
   exact by_
theorem z6y{X:Cx}(K:PySem.W.Frag)(hK:X.K=K){tg l:PySem.Expr}{tl:TE}(hl:PE X l tl):PI X tg l (y8z K tl):=hK ▸ z0I hl
theorem y1W{X:Cx}(K:PySem.W.Frag)(hK:X.K=K){tg l:PySem.Expr}{tl:TE}(hl:PE X l tl):PI X tg l (y9V K tl):=hK ▸ y5e hl
theorem y4J{x y:V}{H:Hp}{Q:VK}{a b:Addr}{xs ys:List V}(ex:x = .ref a)(ey:y = .ref b)(ha:SqT K H a xs)(hb:SqT K H b ys)(hz:xs.length + ys.length<=sizeLine)(k:∀ p H',Same H H'->SqT K H' p (xs ++ ys)->Q (.ref p) H'):y7J K x y H Q :=
 ⟨a,b,xs,ys,ex,ey,ha,hb,hz,fun e=>k b H (Same.refl _) (by rw[e];exact hb),fun _ e=>k a H (Same.refl _) (by rw[e,k7];exact ha),fun _ p hp=>k p _ (z0e hp _) (.of z0a)⟩
def z4u(o1 o2:List Int)(rs2:List (List Int×Rat))(r:List Int×Rat):List (List Int×Rat):=rs2.filter fun s=>decide (pickN s.1 o2=pickN r.1 o1)
def y3v(pl:List Int)(r s:List Int×Rat):List Int×Rat:=(pickN (r.1 ++ s.1) pl,r.2 * s.2)
def z2r(o1 o2 pl:List Int)(rs1 rs2:List (List Int×Rat)):List (List Int×Rat):=rs1.flatMap fun r=>(z4u o1 o2 rs2 r).map (y3v pl r)
def cmn(ns1 ns2:List Str):List Str:=ns1.filter fun n=>decide (n∈ns2)
def z2h(ns1:List Str)(rs1:List (List Int×Rat))(ns2:List Str)(rs2:List (List Int×Rat)):List (List Int×Rat) :=
 z2r (plc ns1 (cmn ns1 ns2)) (plc ns2 (cmn ns1 ns2)) (plc (ns1 ++ ns2) (srt (ns1 ++ ns2))) rs1 rs2
theorem z5P(o1 o2 pl:List Int)(rs1 rs2:List (List Int×Rat))(r:List Int×Rat):z2r o1 o2 pl (rs1 ++ [r]) rs2=z2r o1 o2 pl rs1 rs2 ++ (z4u o1 o2 rs2 r).map (y3v pl r):=by
 unfold z2r;rw[List.flatMap_append];simp
theorem y0J(o1 o2 pl:List Int)(rs1 rs2:List (List Int×Rat))(i:Nat):(z2r o1 o2 pl (rs1.take i) rs2).length<=(z2r o1 o2 pl rs1 rs2).length:=by
 conv=>rhs;rw[<- jq i rs1]
 unfold z2r
 rw[List.flatMap_append,jG]
 omega
theorem z7l{H:Hp}{o1 o2:List Int}{r:List Int×Rat}:∀ {rs2:List (List Int×Rat)}{xs2:List V},IsDs K H (rs2.map z3G) xs2->IsDs K H ((z4u o1 o2 rs2 r).map z3G) (selB o2 (xs2.zip rs2) (pickN r.1 o1))
 | [],xs2,h=>by
  obtain rfl:xs2=[]:=h
  rfl
 | s :: rs2,_,⟨x,xs,rfl,h1,h2⟩=>by
  have ih:=z7l (o1:=o1) (o2:=o2) (r:=r) h2
  unfold selB z4u at ih ⊢
  show IsDs K H (((s :: rs2).filter _).map z3G) ((((x,s) :: xs.zip rs2).filter _).map (·.1))
  rw[qL,qL]
  by_cases c:pickN s.1 o2=pickN r.1 o1
  · rw[if_pos (by simpa using c),if_pos (by simpa using c)]
    exact⟨x,_,rfl,h1,ih⟩
  · rw[if_neg (by simpa using c),if_neg (by simpa using c)]
    exact ih
def z4E(K:PySem.W.Frag)(C:Addr):Sp:=fun vs H Q E=>∃ (t1 v1 a1 t2 v2 a2:Addr) (ns1 ns2:List Str) (xs1 xs2:List V) (rs1 rs2:List (List Int×Rat)) (mo:Nat),vs=[.ref t1,.ref t2,.int mo] /\
 SqT K H t1 [.ref v1,.ref a1]/\TupZ H v1 (ns1.map V.str)/\SqL K H a1 xs1/\IsDs K H (rs1.map z3G) xs1/\SqT K H t2 [.ref v2,.ref a2]/\TupZ H v2 (ns2.map V.str)/\SqL K H a2 xs2/\IsDs K H (rs2.map z3G) xs2 /\
 ns1.length<=30/\ns2.length<=30/\(∀ r∈rs1,r.1.length=ns1.length)/\(∀ r∈rs2,r.1.length=ns2.length)/\rs1.length<=900/\rs2.length<=900/\(∀ r∈rs1,sz r.2)/\(∀ r∈rs2,sz r.2)/\mo < 90000000/\(z2h ns1 rs1 ns2 rs2).length < 90000/\((z2h ns1 rs1 ns2 rs2).map (·.1)).Nodup /\
 ((z2h ns1 rs1 ns2 rs2).length<=mo->∀ p r l H' (qs:List (List Int×Rat)),Same H H'->H p=none->H r=none->H l=none->H' p=some (.tup [.ref r,.ref l])->TupZ H' r ((srt (ns1 ++ ns2)).map V.str)->qs.Perm (z2h ns1 rs1 ns2 rs2)->qs.Pairwise (fun p q=>HT.lexLt p.1 q.1=true)->IsD K H' (.lst (qs.map z3G)) (.ref l)->Q (.ref p) H') /\
 (mo < (z2h ns1 rs1 ns2 rs2).length->∀ (dx:Addr) H1,Same H H1->H1 dx=some (.xd [("most",.int mo)])->E (.ref C) (some dx) H1)
theorem y5T{ns ks:List Str}(h:ns.length<=60)(nd:ks.Nodup)(sub:∀ k∈ks,k∈ns):ks.length < 64:=by
 have:=List.Nodup.length_le_of_subset nd sub
 omega
theorem y1V{ns ss:List Str}(h:∀ n∈ss,n∈ns):∀ j∈plc ns ss,0<=j/\j < ns.length:=fun j hj=>by
 unfold plc at hj
 obtain⟨m,hm,rfl⟩:=jN.mp hj
 have:=ke.mpr (h m hm)
 omega
theorem y5S(l:List Str):(srt l).length<=l.length:=List.Nodup.length_le_of_subset (z1u (z7t l)) fun k hk=>z0u.mp hk
theorem z4o{H:Hp}{d p:Addr}{ys:List V}{o:HO}{xs:List V}(e:H d=some (.lst ys))(h:SqT K H p xs):SqT K (upd H d o) p xs:=by
 rcases h with (h | ⟨u,h⟩) | h
 · exact .inl (.inl (by rw[z0k fun z=>by rw[z,e]at h;cases h];exact h))
 · exact .inl (.inr ⟨u,by rw[z0k fun z=>by rw[z,e]at h;cases h];exact h⟩)
 · exact .inr h
theorem z8O{H:Hp}{d:Addr}{ys:List V}{o:HO}(e:H d=some (.lst ys))(r:Rat)(v:V)(h:IsD K H (dF r) v):IsD K (upd H d o) (dF r) v:=by
 obtain⟨p,rfl,q⟩:=z2q h
 exact⟨p,_,rfl,z4o e q,_,_,rfl,rfl,_,_,rfl,rfl,rfl⟩
def JAt(K:PySem.W.Frag)(H:Hp)(ys:List V)(J:List (List Int×Rat)):Prop:=∃ ks:List (List Int×V),ys.length=ks.length/\Acc K H J ks/\∀ (j:Nat) (x:V) (kv:List Int×V),ys[j]? = some x->ks[j]? = some kv->z2N H x kv
theorem z4T{H H':Hp}{x:V}{kv:List Int×V}(h:z2N H x kv)(s:Same H H'):z2N H' x kv:=by
 obtain⟨p,b,e1,e2,e3⟩:=h
 exact⟨p,b,e1,s _ _ e2,s _ _ e3⟩
theorem z3c{H:Hp}{d:Addr}{ys:List V}{o:HO}{x:V}{kv:List Int×V}(e:H d=some (.lst ys))(h:z2N H x kv):z2N (upd H d o) x kv:=by
 obtain⟨p,b,e1,e2,e3⟩:=h
 exact⟨p,b,e1,by rw[z0k fun z=>by rw[z,e]at e2;cases e2];exact e2,by rw[z0k fun z=>by rw[z,e]at e3;cases e3];exact e3⟩
theorem JAt.len{H:Hp}{ys:List V}{J:List (List Int×Rat)}(h:JAt K H ys J):ys.length=J.length:=by
 obtain⟨ks,a,b,_⟩:=h
 rw[a,b.length]
theorem JAt.same{H H':Hp}{ys:List V}{J:List (List Int×Rat)}(h:JAt K H ys J)(s:Same H H'):JAt K H' ys J:=by
 obtain⟨ks,a,b,c⟩:=h
 exact⟨ks,a,b.mono fun r v h=>h.same s,fun j x kv e1 e2=>z4T (c j x kv e1 e2) s⟩
theorem JAt.snoc{H:Hp}{rl p b:Addr}{sv:V}{ys:List V}{J:List (List Int×Rat)}{r:List Int×Rat}(h:JAt K H ys J)(e:H rl=some (.lst ys))(e1:H p=some (.tup [.ref b,sv]))(e2:H b=some (.tup (r.1.map V.int)))(d:IsD K H (dF r.2) sv):JAt K (upd H rl (.lst (ys ++ [.ref p]))) (ys ++ [.ref p]) (J ++ [r]):=by
 obtain⟨ks,a,bb,c⟩:=h
 refine⟨ks ++ [(r.1,sv)],by rw[jG,jG,a];rfl,Acc.mono (z8O e) (show Acc K H (J ++ [r]) (ks ++ [(r.1,sv)]) from y1T (F:=fun (p:List Int×Rat) (q:List Int×V)=>p.1=q.1/\IsD K H (dF p.2) q.2) ⟨rfl,d⟩ bb),fun j x kv x1 x2=>?_⟩
 by_cases hj:j < ys.length
 · rw[kH hj]at x1
   rw[kH (by omega)]at x2
   exact z3c e (c j x kv x1 x2)
 · rw[jz (by omega)]at x1 x2
   have e0:j - ys.length=0:=by
    rcases Nat.eq_zero_or_pos (j - ys.length) with z | z
    · exact z
    · rw[kO (by rw[List.length_singleton];omega)]at x1;exact nomatch x1
   rw[e0]at x1
   rw[show j - ks.length=0 by omega]at x2
   cases x1;cases x2
   exact z3c e ⟨p,b,rfl,e1,e2⟩
theorem y4r(o1 o2 pl:List Int)(rs1 rs2:List (List Int×Rat)){i j:Nat}(hi:i < rs1.length)(hj:j < (z4u o1 o2 rs2 rs1[i]).length):(z2r o1 o2 pl (rs1.take i) rs2 ++ ((z4u o1 o2 rs2 rs1[i]).take j).map (y3v pl rs1[i])).length < (z2r o1 o2 pl rs1 rs2).length:=by
 have h:=y0J o1 o2 pl rs1 rs2 (i + 1)
 rw[jw hi,z5P,jG,jA]at h
 rw[jG,jA,jS]
 omega
theorem y2j(B:Bl mg)(z3Z:ExcK P w K mg base "TooMany" z0j "most")(z1q:Def P w K mg base "chosen" 1 ["values", "places"] (z3l K))(z0T:Def P w K mg base "places_of" 1 ["names", "some"] (z4D K))(z5q:Def P w K mg base "rows_by" 2 ["rows", "places"] (z5E K))(z9b:Def P w K mg base "times" 3 ["one", "other"] (z9s K))
 (F:FnD K mg "joined" z1T ["one", "other", "most"] (.int 500)):Def2 P w K mg base "joined" 4 ["one", "other", "most"] (z4E K z0j)/\DefD P w K mg base "joined" 4 ["one", "other", "most"] (.int 500) (z4E K z0j):=by
 refine F.ok3 z0P (fun vs H Q E h=>?_) (fun f cdv A outer s H vs Q E hr h=>?_)
 · obtain⟨t1,v1,a1,t2,v2,a2,ns1,ns2,xs1,xs2,rs1,rs2,mo,rfl,_⟩:=h;rfl
 obtain⟨t1,v1,a1,t2,v2,a2,ns1,ns2,xs1,xs2,rs1,rs2,mo,rfl,qt1,qv1,qa1,dx1,qt2,qv2,qa2,dx2,ln1,ln2,hw1,hw2,lr1,lr2,zr1,zr2,mb,jb,jn,q0,q1⟩:=h
 have big:(100000:Nat) < sizeLine:=by decide
 have xl1:=dx1.length
 rw[jA]at xl1
 have xl2:=dx2.length
 rw[jA]at xl2
 have mapp:ns1.map V.str ++ ns2.map V.str=(ns1 ++ ns2).map V.str:=by rw[jT]
 have lapp:(ns1 ++ ns2).length<=60:=by rw[jG];omega
 refine⟨_,(@z0c _ _ _ _ _ (z0l (i:=3) z0P.nd rfl (by first | exact Or.inl rfl | exact Or.inr rfl) (z0t (z1l K rfl) rfl B.tuple PyProof.Rows.boot_tuple (z0g (z3P K rfl rfl rfl B.sorted PyProof.Rows.boot_sorted rfl B.set PyProof.Rows.boot_set (z0m (z8z.or (z8A K rfl)) (z0q (z0i K rfl) (pv 0) z0d (fun _ _=>rfl)) (z0q (z0i K rfl) (pv 1) z0d (fun _ _=>rfl)))) z0f)))
  (@z0c _ _ _ _ _ (z3a (j:=4) z0P.nd rfl rfl (CompOk.of (x := "name") (M:=["other"]) (ix:=[1]) rfl rfl (by decide +kernel) (by decide +kernel) rfl ⟨rfl,trivial⟩ (by rfl) ⟨⟨rfl,rfl,rfl,rfl⟩,trivial⟩) rfl (by decide +kernel) (y1W K rfl (z0q (z0i K rfl) (pv 0) z0d (fun _ _=>rfl))) (fun _ _ _ _ _=>(z3N (z0B (y5k K rfl) (pv 0) (z0q (z0i K rfl) (pv 1) z0d (fun _ _=>rfl)) (by rfl)))) (fun _ _ _ _ _=>(pv 0)))
  (@z0c _ _ _ _ _ (z0l (i:=5) z0P.nd rfl (by first | exact Or.inl rfl | exact Or.inr rfl) (z0p z0T hr rfl (z0g (z0q (z0i K rfl) (pv 0) z0d (fun _ _=>rfl)) (z0g (pv 4) z0f))))
  (@z0c _ _ _ _ _ (z0l (i:=6) z0P.nd rfl (by first | exact Or.inl rfl | exact Or.inr rfl) (z0p z0T hr rfl (z0g (z0m (z8z.or (z8A K rfl)) (z0q (z0i K rfl) (pv 0) z0d (fun _ _=>rfl)) (z0q (z0i K rfl) (pv 1) z0d (fun _ _=>rfl))) (z0g (pv 3) z0f))))
  (@z0c _ _ _ _ _ (z0l (i:=7) z0P.nd rfl (by first | exact Or.inl rfl | exact Or.inr rfl) (z0p z5q hr rfl (z0g (z0q (z0i K rfl) (pv 1) z0d (fun _ _=>rfl)) (z0g (z0p z0T hr rfl (z0g (z0q (z0i K rfl) (pv 1) z0d (fun _ _=>rfl)) (z0g (pv 4) z0f))) z0f))))
  (@z0c _ _ _ _ _ (z0l (i:=8) z0P.nd rfl (by first | exact Or.inl rfl | exact Or.inr rfl) (z3t z0f))
  (@z0c _ _ _ _ _ (z6u (z6y K rfl (z0q (z0i K rfl) (pv 0) z0d (fun _ _=>rfl))) (z7w rfl (z1p (z0v (i:=9) z0P.nd rfl (by first | exact Or.inl rfl | exact Or.inr rfl)) (z1p (z0v (i:=10) z0P.nd rfl (by first | exact Or.inl rfl | exact Or.inr rfl)) z4Q))) (@z0h _ _ _ (z6u (z6y K rfl (z6z (z4m hr) (pv 7) (z0p z1q hr rfl (z0g (pv 9) (z0g (pv 5) z0f))) (z3t z0f) ⟨rfl,rfl,rfl,rfl⟩)) (z7w rfl (z1p (z0v (i:=11) z0P.nd rfl (by first | exact Or.inl rfl | exact Or.inr rfl)) (z1p (z0v (i:=12) z0P.nd rfl (by first | exact Or.inl rfl | exact Or.inr rfl)) z4Q))) (@z0c _ _ _ _ _ (z3O (z0B z3u (z0W (z1x K rfl) rfl B.len PySem.boot_len (z0g (pv 8) z0f)) (pv 2) (z1f _)) (@z0h _ _ _ (y1R z3Z hr rfl rfl rfl y6g (z0g (pv 2) z0f))) z1k)
  (@z0h _ _ _ (z2p (z6A PySem.F.plainAttrs_list PySem.F.slot_list_append PySem.F.type_list_append z1h (pv 8) (z0g (z3s (z0g (z0p z1q hr rfl (z0g (z0m (z8z.or (z8A K rfl)) (pv 9) (pv 11)) (z0g (pv 6) z0f))) (z0g (z0p z9b hr rfl (z0g (pv 10) (z0g (pv 12) z0f))) z0f))) z0f))))))))
  (@z0h _ _ _ (z0X (z3s (z0g (pv 3) (z0g (z0W (z6S K rfl (z7N hr)) rfl B.sorted PyProof.Rows.boot_sorted (z0g (pv 8) z0f)) z0f)))))))))))),?_⟩
 -- the names
 refine⟨_,rfl,.inr (.inl ⟨t1,_,0,.ref v1,rfl,rfl,qt1,rfl,?_⟩)⟩
 refine⟨_,rfl,.inr (.inl ⟨t2,_,0,.ref v2,rfl,rfl,qt2,rfl,.inl ⟨v1,v2,_,_,rfl,rfl,qv1,qv2,by rw[jA,jA];omega,fun p0 H0 s0 z0=>?_⟩⟩)⟩
 rw[mapp]at z0
 refine⟨p0,ns1 ++ ns2,rfl,.inr z0.sq,by omega,fun ks nd sub=>y5T lapp nd sub,fun l1 ss f1 mem pw=>?_⟩
 have es:ss=srt (ns1 ++ ns2):=y1p pw mem
 subst es
 have s1:=z0e f1 (.lst ((srt (ns1 ++ ns2)).map V.str))
 refine⟨l1,_,rfl,.of z0a,fun r o fr od=>?_⟩
 have s2:=z0e fr (.frz o (.tup ((srt (ns1 ++ ns2)).map V.str)))
 have sA:=(s0.trans s1).trans s2
 have zr:TupZ (upd (upd H0 l1 (.lst ((srt (ns1 ++ ns2)).map V.str))) r (.frz o (.tup ((srt (ns1 ++ ns2)).map V.str)))) r ((srt (ns1 ++ ns2)).map V.str):=⟨o,z0a,od⟩
 have fr0:H r=none:=(s0.trans s1).free fr
 generalize upd (upd H0 l1 (.lst ((srt (ns1 ++ ns2)).map V.str))) r (.frz o (.tup ((srt (ns1 ++ ns2)).map V.str)))=HA at sA zr ⊢
 -- common
 dsimp only[z0Y]
 refine z3F ?_
 refine⟨_,rfl,.inr (.inl ⟨t1,_,0,.ref v1,rfl,rfl,sA.tupq qt1,rfl,v1,rfl,⟨_,(qv1.same sA).sq⟩,?_⟩)⟩
 refine z5V (K:=K) (fun n=>decide (n∈ns2)) (qv1.same sA).sq (by omega) (fun n H' R sm hR=>?_) (fun n H' R hR=>⟨_,rfl,hR⟩) (fun c HB fc sB ec=>?_)
 · refine⟨_,rfl,_,rfl,.inr (.inl ⟨t2,_,0,.ref v2,rfl,rfl,(sA.trans sm).tupq qt2,rfl,v2,_,rfl,.inr (qv2.same (sA.trans sm)).sq,rfl,z2j _,?_⟩)⟩
   rw[z5f]
   exact⟨_,rfl,hR⟩
 have csub:∀ n∈cmn ns1 ns2,n∈ns1/\n∈ns2:=fun n hn=>⟨(ju.mp hn).1,by simpa using (ju.mp hn).2⟩
 have cl:(cmn ns1 ns2).length<=30:=jY (kE _ _) ln1
 have sAB:=sA.trans sB
 -- the places
 refine⟨_,rfl,.inr (.inl ⟨t1,_,0,.ref v1,rfl,rfl,sAB.tupq qt1,rfl,?_⟩)⟩
 refine⟨_,rfl,v1,c,ns1,cmn ns1 ns2,rfl,qv1.same sAB,.inl (.of ec),fun n hn=>(csub n hn).1,by omega,fun o1 HC sC e1=>?_⟩
 have sAC:=sAB.trans sC
 refine⟨_,rfl,.inr (.inl ⟨t1,_,0,.ref v1,rfl,rfl,sAC.tupq qt1,rfl,?_⟩)⟩
 refine⟨_,rfl,.inr (.inl ⟨t2,_,0,.ref v2,rfl,rfl,sAC.tupq qt2,rfl,.inl ⟨v1,v2,_,_,rfl,rfl,qv1.same sAC,qv2.same sAC,by rw[jA,jA];omega,fun pb HD sD zb=>?_⟩⟩)⟩
 rw[mapp]at zb
 have sl:=y5S (ns1 ++ ns2)
 refine⟨_,rfl,pb,r,ns1 ++ ns2,srt (ns1 ++ ns2),rfl,zb,.inr (zr.same ((sB.trans sC).trans sD)).sq,fun n hn=>z0u.mp hn,by omega,fun pl HE sE ep=>?_⟩
 have sAE:=(sAC.trans sD).trans sE
 -- the rows by what is common
 refine⟨_,rfl,.inr (.inl ⟨t2,_,1,.ref a2,rfl,rfl,sAE.tupq qt2,rfl,?_⟩)⟩
 refine⟨_,rfl,.inr (.inl ⟨t2,_,0,.ref v2,rfl,rfl,sAE.tupq qt2,rfl,?_⟩)⟩
 refine⟨_,rfl,v2,c,ns2,cmn ns1 ns2,rfl,qv2.same sAE,.inl (.of (((sC.trans sD).trans sE) _ _ ec)),fun n hn=>(csub n hn).2,by omega,fun o2 HF sF e2=>?_⟩
 have sAF:=sAE.trans sF
 refine⟨a2,o2,xs2,rs2,plc ns2 (cmn ns1 ns2),rfl,sAF.seq qa2,dx2.same sAF,.of e2,fun r' hr' j hj=>by rw[hw2 r' hr'];exact y1V (fun n hn=>(csub n hn).2) j hj,by unfold plc;rw[jA];omega,lr2,fun md HG ks sG fmd by_=>?_⟩
 have sAG:=sAF.trans sG
 refine⟨by show 0<=sizeLine;decide,fun rl frl=>?_⟩
 have frl0:H rl=none:=sAG.free frl
 have sR:=z0e frl (.lst [])
 have sGR:=sAG.trans sR
 have eJ:z2h ns1 rs1 ns2 rs2=z2r (plc ns1 (cmn ns1 ns2)) (plc ns2 (cmn ns1 ns2)) (plc (ns1 ++ ns2) (srt (ns1 ++ ns2))) rs1 rs2:=rfl
 rw[eJ]at q0 q1 jb jn
 have okO1:∀ j∈plc ns1 (cmn ns1 ns2),0<=j/\j < ns1.length:=y1V fun n hn=>(csub n hn).1
 have okPL:∀ j∈plc (ns1 ++ ns2) (srt (ns1 ++ ns2)),0<=j/\j < (ns1 ++ ns2).length:=y1V fun n hn=>z0u.mp hn
 have lO1:(plc ns1 (cmn ns1 ns2)).length<=100:=by unfold plc;rw[jA];omega
 have lPL:(plc (ns1 ++ ns2) (srt (ns1 ++ ns2))).length<=100:=by unfold plc;rw[jA];omega
 have e1G:=((((sD.trans sE).trans sF).trans sG)) _ _ e1
 have epG:=((sF.trans sG)) _ _ ep
 clear eJ
 generalize plc ns1 (cmn ns1 ns2)=O1 at q0 q1 jb jn e1G okO1 lO1
 generalize plc ns2 (cmn ns1 ns2)=O2 at q0 q1 jb jn by_
 generalize plc (ns1 ++ ns2) (srt (ns1 ++ ns2))=PL at q0 q1 jb jn epG okPL lPL
 refine⟨_,rfl,.inr (.inl ⟨t1,_,1,.ref a1,rfl,rfl,sGR.tupq qt1,rfl,a1,rfl,⟨_,sGR.seq qa1⟩,?_⟩)⟩
 refine z0N (K:=K) (xs:=xs1) (fun i σ H'=>Same HG H'/\∃ (ys:List V) (c9 c10 c11 c12:Option V),σ=[some (.ref t1),some (.ref t2),some (.int mo),some (.ref r),some (.ref c),some (.ref o1),some (.ref pl),some (.ref md),some (.ref rl),c9,c10,c11,c12]/\H' rl=some (.lst ys)/\JAt K H' ys (z2r O1 O2 PL (rs1.take i) rs2)/\ys.length<=mo)
  ⟨sR,[],none,none,none,none,rfl,z0a,⟨[],rfl,.nil,fun j x kv e=>by simp at e⟩,jg _⟩ (fun i σ H' _ h=>(sAG.trans h.1).seq qa1) ?_ ?_
 · rintro i x σ H' hx ⟨sm,ys,c9,c10,c11,c12,rfl,erl,ja,lj⟩
   have hi:i < rs1.length:=by have:=(jH.mp hx).1;omega
   obtain⟨y,ey,dy⟩:=dx1.get (i:=i) (d:=z3G rs1[i]) (by rw[jF,jD hi];rfl)
   obtain rfl:x=y:=by rw[hx]at ey;exact Option.some.inj ey
   obtain⟨t,zs,rfl,qt,vv1,_,rfl,d1,vv2,_,rfl,d2,rfl⟩:=dy
   obtain⟨tv,ys',rfl,q1',dys⟩:=d1
   rw[z1w dys]at q1'
   have sG':=sAG.trans sm
   have hw:=hw1 _ (kD hi)
   have hz:=zr1 _ (kD hi)
   have tk:rs1.take (i + 1)=rs1.take i ++ [rs1[i]]:=jw hi
   have inJ:=@y4r O1 O2 PL rs1 rs2 i
   generalize er:rs1[i]=row at *
   refine⟨t,_,rfl,sG'.tupq qt,rfl,_,_,rfl,_,_,rfl,rfl,?_⟩
   have byH:=by_.same sm
   refine⟨_,rfl,md,rfl,.inr ⟨_,.inl byH.at_⟩,_,rfl,_,rfl,tv,o1,_,O1,rfl,sG'.tupq q1',.of (sm _ _ e1G),fun j hj=>by rw[hw];exact okO1 j hj,lO1,fun kt H2 n2 s2 e2'=>?_⟩
   refine⟨by show 0<=sizeLine;decide,fun el fel=>?_⟩
   have s3:=z0e fel (.lst [])
   have sm3:=(sm.trans s2).trans s3
   have by3:=by_.same sm3
   have kt3:upd H2 el (.lst []) kt=some (.tup (((pickN row.1 O1).map (Sum.inl:Int->Key)).map kV)):=by rw[z1P];exact s3 _ _ e2'
   obtain⟨m,em,hm,hm2⟩:∃ m,(valV (kz ks) ((pickN row.1 O1).map Sum.inl)).getD (.ref el) = .ref m/\upd H2 el (.lst []) m=some (.lst (selB O2 (xs2.zip rs2) (pickN row.1 O1)))/\m≠rl:=by
    have erl2:=s2 _ _ erl
    rcases by3.val (pickN row.1 O1) with ⟨a',b'⟩ | ⟨l',a',b',c',d'⟩
    · exact⟨el,by rw[a'];rfl,by rw[z0a,b'],fun z=>by rw[z,erl2]at fel;cases fel⟩
    · refine⟨l',by rw[a'];rfl,b',fun z=>?_⟩
      rcases by_.val (pickN row.1 O1) with ⟨a2',_⟩ | ⟨l2,a2',b2,_⟩
      · rw[a2']at a';cases a'
      · rw[a2']at a';cases a';rw[z,frl]at b2;cases b2
   refine⟨_,DGet.t by3.at_ kt3,?_⟩
   rw[em]
   refine⟨m,rfl,⟨_,.of hm⟩,?_⟩
   have dsel0:IsDs K HG ((z4u O1 O2 rs2 row).map z3G) (selB O2 (xs2.zip rs2) (pickN row.1 O1)):=z7l (dx2.same sAG)
   have lsel:=dsel0.length
   rw[jA]at lsel
   generalize selB O2 (xs2.zip rs2) (pickN row.1 O1)=ms at hm dsel0 lsel ⊢
   have msub:∀ s∈z4u O1 O2 rs2 row,s∈rs2:=fun s hs=>(ju.mp hs).1
   have erl3:=s3 _ _ (s2 _ _ erl)
   have ja3:=(ja.same s2).same s3
   have d2G:IsD K HG (dF row.2) vv2:=d2.same sAG
   have qvG:SqT K HG tv (row.1.map V.int):=sAG.tupq q1'
   refine z0N (K:=K) (xs:=ms) (fun j σ H4=>Same HG H4/\H4 m=some (.lst ms)/\∃ (ys4:List V) (c11 c12:Option V),σ=[some (.ref t1),some (.ref t2),some (.int mo),some (.ref r),some (.ref c),some (.ref o1),some (.ref pl),some (.ref md),some (.ref rl),some (.ref tv),some vv2,c11,c12]/\H4 rl=some (.lst ys4)/\JAt K H4 ys4 (z2r O1 O2 PL (rs1.take i) rs2 ++ ((z4u O1 O2 rs2 row).take j).map (y3v PL row))/\ys4.length<=mo)
    ⟨sm3,hm,ys,c11,c12,rfl,erl3,by simpa using ja3,lj⟩ (fun j σ H4 _ h => .of h.2.1) ?_ ?_
   · rintro j x2 σ H4 hx2 ⟨sm4,em4,ys4,c11',c12',rfl,erl4,ja4,lj4⟩
     have hj:j < (z4u O1 O2 rs2 row).length:=by have:=(jH.mp hx2).1;omega
     obtain⟨y2,ey2,dy2⟩:=dsel0.get (i:=j) (d:=z3G (z4u O1 O2 rs2 row)[j]) (by rw[jF,jD hj];rfl)
     obtain rfl:x2=y2:=by rw[hx2]at ey2;exact Option.some.inj ey2
     obtain⟨t',zs',rfl,qt',w1,_,rfl,d1',w2,_,rfl,d2',rfl⟩:=dy2
     obtain⟨tv2,ys2',rfl,q2',dys2⟩:=d1'
     rw[z1w dys2]at q2'
     have hw':=hw2 _ (msub _ (kD hj))
     have hz':=zr2 _ (msub _ (kD hj))
     have tk2:(z4u O1 O2 rs2 row).take (j + 1)=(z4u O1 O2 rs2 row).take j ++ [(z4u O1 O2 rs2 row)[j]]:=jw hj
     have lt:=inJ hi (j:=j) (by rw[er];exact hj)
     rw[er]at lt
     have jl4:=ja4.len
     rw[tk2,jT,<- ji]
     show _
     generalize (z4u O1 O2 rs2 row)[j]=row2 at *
     refine⟨t',_,rfl,sm4.tupq qt',rfl,_,_,rfl,_,_,rfl,rfl,?_⟩
     refine⟨_,rfl,_,ys4.length,rfl,.inl ⟨_,.of erl4,rfl⟩,_,rfl,_,_,rfl,rfl,_,rfl,y3w (fun ce=>?_) (fun ce=>nxt ?_)⟩
     · refine⟨_,rfl,_,rfl,fun ea dx tt f1 f2 f3=>q1 (by omega) dx _ ((sAG.trans sm4).trans (z0e f2 _)) z0a⟩
     · have ly4:ys4.length < mo:=by omega
       refine⟨_,rfl,.inl ⟨rfl,_,.of erl4⟩,_,rfl,_,rfl,.inr (y4J rfl rfl (sm4.tupq qvG) (sm4.tupq q2') (by rw[jA,jA,hw,hw'];omega) fun p5 H5 s5 q5=>?_)⟩
       rw[<- jT]at q5
       have sm5:=sm4.trans s5
       refine⟨_,rfl,p5,pl,_,PL,rfl,q5,.of (sm5 _ _ epG),fun j hj=>by rw[jG,hw,hw',<- jG];exact okPL j hj,lPL,fun t6 H6 n6 s6 e6=>?_⟩
       have sm6:=sm5.trans s6
       refine⟨_,rfl,_,rfl,vv2,w2,row.2,row2.2,rfl,d2G.same sm6,d2'.same sm6,hz,hz',fun p7 H7 s7 n7 d7=>?_⟩
       refine⟨by show 2<=sizeLine;decide,fun p8 f8=>?_⟩
       have s8:=z0e f8 (.tup [V.ref t6,.ref p7])
       have s48:=((s5.trans s6).trans s7).trans s8
       have erl8:=s48 _ _ erl4
       refine⟨rl,ys4,_,rfl,rfl,erl8,by omega,z0o frl (sm4.trans s48),by rw[z0k hm2];exact s48 _ _ em4,ys4 ++ [.ref p8],_,_,rfl,z0a,?_,by rw[jG];show ys4.length + 1<=mo;omega⟩
       exact (ja4.same s48).snoc (r:=y3v PL row row2) erl8 z0a (s8 _ _ (s7 _ _ e6)) (d7.same s8)
   · rintro σ H4 ⟨sm4,em4,ys4,c11',c12',rfl,erl4,ja4,lj4⟩
     rw[lsel,jy]at ja4
     refine⟨sm4,ys4,_,_,_,_,rfl,erl4,?_,lj4⟩
     rw[tk,z5P]
     exact ja4
 · rintro σ H' ⟨sm,ys,c9,c10,c11,c12,rfl,erl,ja,lj⟩
   rw[xl1,jy]at ja
   have jl:=ja.len
   obtain⟨kss,kl,ac,pr⟩:=ja
   have kk:kss.map (·.1)=(z2r O1 O2 PL rs1 rs2).map (·.1):=(z3b (G:=fun r v=>IsD K H' (dF r) v) ac).symm
   refine⟨_,rfl,_,rfl,rl,ys,kss,rfl,.of erl,kl,by omega,pr,by rw[kk];exact jn,fun l qs ys' pm pw fl ln' pr'=>?_⟩
   refine⟨by show 2<=sizeLine;decide,fun p fp=>?_⟩
   have s9:=z0e fl (.lst ys')
   have s10:=z0e fp (.tup [V.ref r,.ref l])
   have s910:=s9.trans s10
   have sH:=sAG.trans sm
   obtain⟨acc',h1,h2⟩:=z6w pm ac
   have hk:acc'.map (·.1)=qs.map (·.1):=z3b (G:=fun r v=>IsD K H' (dF r) v) h2
   have al:=h2.length
   refine q0 (by omega) p r l _ acc' (sH.trans s910) ((sH.trans s9).free fp) fr0 (sH.free fl) z0a (zr.same ((((((sB.trans sC).trans sD).trans sE).trans sF).trans sG).trans (sm.trans s910))) h1 ?_ ⟨l,ys',rfl,.of (s10 _ _ z0a),z5d (by rw[jA];omega) fun i x d' x1 x3=>?_⟩
   · have:(qs.map (·.1)).Pairwise fun a b=>HT.lexLt a b=true:=kA.mpr pw
     rw[<- hk]at this
     exact kA.mp this
   · rw[jF]at x3
     cases ea:acc'[i]? with
     | none=>rw[ea]at x3;cases x3
     | some kr =>
      rw[ea]at x3
      cases x3
      obtain⟨kv,e4,e5,e6⟩:=z5I h2 ea
      obtain⟨pp,b,rfl,e7,e8⟩:=pr' i x kv x1 e4
      exact⟨pp,_,rfl,.of (s910 _ _ e7),_,_,rfl,⟨b,_,rfl,.of (s910 _ _ e8),by rw[<- e5];exact z2L _⟩,_,_,rfl,e6.same s910,rfl⟩
abbrev Rw:=List Int×Rat
def asg(ns:List Str)(k:List Int)(n:Str):Int:=k.getD (ns.idxOf n) 0
theorem z1o(ns ss:List Str)(k:List Int):pickN k (plc ns ss)=ss.map (asg ns k):=by
 unfold pickN plc
 rw[kh]
 rfl
theorem z6T{ns:List Str}{g:Str->Int}{n:Str}(h:n∈ns):asg ns (ns.map g) n=g n:=by
 unfold asg
 have hl:=ke.mpr h
 rw[jC,jF,jD hl,List.getElem_idxOf hl];rfl
theorem z3U{ns:List Str}(nd:ns.Nodup){k:List Int}(hk:k.length=ns.length):ns.map (asg ns k)=k:=by
 refine qK (by simp[hk]) fun i h1 h2=>?_
 rw[jA]at h1
 rw[List.getElem_map]
 unfold asg
 rw[nd.idxOf_getElem _ h1,jC,jD h2];rfl
theorem z5n{ns1 ns2:List Str}{k1 k2:List Int}(h1:k1.length=ns1.length)(n:Str):asg (ns1 ++ ns2) (k1 ++ k2) n=if n∈ns1 then asg ns1 k1 n else asg ns2 k2 n:=by
 unfold asg
 rw[List.idxOf_append]
 by_cases c:n∈ns1
 · rw[if_pos c,if_pos c]
   have hl:=ke.mpr c
   rw[jC,kH (by omega),<- jC]
 · rw[if_neg c,if_neg c,jC,jz (by omega),show ns2.idxOf n + ns1.length - k1.length=ns2.idxOf n by omega,<- jC]
theorem z0y{ns:List Str}{g h:Str->Int}:ns.map g=ns.map h↔∀ n∈ns,g n=h n:=List.map_inj_left
def mass(rs:List Rw)(q:List Int->Bool):Rat:=z1F ((rs.filter fun r=>q r.1).map (·.2))
theorem z4t(a b:List Rw)(q:List Int->Bool):mass (a ++ b) q=mass a q + mass b q:=by
 unfold mass;rw[kL,jT,z4M]
theorem z6G(r:Rw)(q:List Int->Bool):mass [r] q=if q r.1=true then r.2 else 0:=by
 unfold mass
 by_cases c:q r.1=true
 · rw[qL,if_pos c,if_pos c];show (0:Rat) + r.2=r.2;grind
 · rw[qL,if_neg c,if_neg c];rfl
theorem z0z(r:Rw)(rs:List Rw)(q:List Int->Bool):mass (r :: rs) q=(if q r.1=true then r.2 else 0) + mass rs q:=by
 rw[show r :: rs=[r] ++ rs from rfl,z4t,z6G]
theorem z5L{rs:List Rw}{q q':List Int->Bool}(h:∀ r∈rs,q r.1=q' r.1):mass rs q=mass rs q':=by
 unfold mass;rw[List.filter_congr h]
theorem z2J{rs:List Rw}{q:List Int->Bool}(h:∀ r∈rs,q r.1=false):mass rs q=0:=by
 unfold mass
 rw[List.filter_eq_nil_iff.mpr fun r hr=>by simp[h r hr]];rfl
theorem z4W{a b:List Rw}(h:a.Perm b)(q:List Int->Bool):mass a q=mass b q:=by
 induction h with
 | nil=>rfl
 | cons x _ ih=>rw[z0z,z0z,ih]
 | swap x y l=>rw[z0z,z0z,z0z,z0z];grind
 | trans _ _ h1 h2=>rw[h1,h2]
theorem y4l{rs:List Rw}{q:List Int->Bool}{A:Rw->Bool}{c:Rat}{key:Rw->List Int}(h:∀ s∈rs,q (key s)=A s):mass (rs.map fun s=>(key s,c * s.2)) q=c * z1F ((rs.filter A).map (·.2)):=by
 induction rs with
 | nil=>show (0:Rat)=c * 0;grind
 | cons s rs ih =>
  rw[jV,z0z,ih fun s' hs=>h s' (jK _ hs),h s (jv ..),qL]
  by_cases a:A s=true
  · rw[if_pos a,if_pos a,jV,z0H];grind
  · rw[if_neg a,if_neg a];grind
theorem y2u{o1 o2 pl:List Int}{rs1 rs2:List Rw}{q A B:List Int->Bool}(h:∀ r∈rs1,∀ s∈rs2,(decide (pickN s.1 o2=pickN r.1 o1) && q (pickN (r.1 ++ s.1) pl))=(A r.1 && B s.1)):mass (z2r o1 o2 pl rs1 rs2) q=mass rs1 A * mass rs2 B:=by
 induction rs1 with
 | nil=>show (0:Rat)=0 * _;grind
 | cons r rs ih =>
  have e:z2r o1 o2 pl (r :: rs) rs2=(z4u o1 o2 rs2 r).map (y3v pl r) ++ z2r o1 o2 pl rs rs2:=rfl
  rw[e,z4t,ih fun r' hr=>h r' (jK _ hr),z0z]
  have hr:=h r (jv ..)
  have one:mass ((z4u o1 o2 rs2 r).map (y3v pl r)) q=r.2 * z1F (((z4u o1 o2 rs2 r).filter fun s=>q (pickN (r.1 ++ s.1) pl)).map (·.2)):=y4l fun s _=>rfl
  have two:(z4u o1 o2 rs2 r).filter (fun s=>q (pickN (r.1 ++ s.1) pl))=rs2.filter fun s=>A r.1 && B s.1:=by
   unfold z4u
   rw[List.filter_filter]
   exact List.filter_congr fun s hs=>by rw[<- hr s hs,Bool.and_comm]
  rw[one,two]
  by_cases a:A r.1=true
  · rw[if_pos a,a]
    show r.2 * mass rs2 B + _=_
    grind
  · have a':A r.1=false:=by simpa using a
    rw[if_neg a,a']
    rw[show rs2.filter (fun s=>false && B s.1)=[] from List.filter_eq_nil_iff.mpr fun _ _=>by simp]
    show r.2 * 0 + _=_
    grind
theorem z7H{o1 o2 pl:List Int}{rs1 rs2:List Rw}{k:List Int}:k∈(z2r o1 o2 pl rs1 rs2).map (·.1)↔∃ r∈rs1,∃ s∈rs2,pickN s.1 o2=pickN r.1 o1/\k=pickN (r.1 ++ s.1) pl:=by
 unfold z2r z4u
 constructor
 · intro h
   obtain⟨p,hp,rfl⟩:=jN.mp h
   obtain⟨r,hr,hp⟩:=qA.mp hp
   obtain⟨s,hs,rfl⟩:=jN.mp hp
   obtain⟨hs1,hs2⟩:=ju.mp hs
   exact⟨r,hr,s,hs1,by simpa using hs2,rfl⟩
 · rintro⟨r,hr,s,hs,e,rfl⟩
   exact jN.mpr ⟨y3v pl r s,qA.mpr ⟨r,hr,jN.mpr ⟨s,ju.mpr ⟨hs,by simpa using e⟩,rfl⟩⟩,rfl⟩
theorem y3k{acc:List (List Int×Rat)}{k:List Int}{r:Rat}(h:∀ p∈acc,p.1≠k):y0g acc k r=acc ++ [(k,r)]:=by
 have e1:z5Z acc k=none:=by
  unfold z5Z
  have:acc.find? (fun p=>decide (p.1=k))=none:=List.find?_eq_none.mpr fun p hp=>by simpa using h p hp
  rw[this];rfl
 have e2:(acc.any fun p=>decide (p.1=k))=false:=List.any_eq_false.mpr fun p hp=>by simpa using h p hp
 unfold y0g z3K
 rw[e1,e2]
 rfl
theorem y3l(acc:List Rw)(nd:(acc.map (·.1)).Nodup)(k:List Int)(x:Rat)(q:List Int->Bool):mass (y0g acc k x) q=mass acc q + if q k=true then x else 0:=by
 by_cases c:∀ p∈acc,p.1≠k
 · rw[y3k c,z4t,z6G]
 · obtain⟨p,hp,hk⟩:∃ p∈acc,p.1=k:=by
    refine Classical.byContradiction fun z=>c fun p hp e=>z ⟨p,hp,e⟩
   subst hk
   have ev:z5Z acc p.1=some p.2:=by
    unfold z5Z
    induction acc with
    | nil=>cases hp
    | cons a acc ih =>
     rw[jV,kI]at nd
     rw[kf]
     rcases jQ.mp hp with e | hp
     · rw[<- e,decide_eq_true rfl];rfl
     · have:a.1≠p.1:=fun z=>nd.1 (z ▸ jN.mpr ⟨p,hp,rfl⟩)
       rw[decide_eq_false this]
       exact ih nd.2 hp (fun z=>z p hp rfl)
   unfold y0g z3K
   rw[ev,if_pos (List.any_eq_true.mpr ⟨p,hp,by simp⟩)]
   dsimp only
   have go:∀ (acc:List Rw),(acc.map (·.1)).Nodup->p∈acc->mass (acc.map fun p'=>if p'.1=p.1 then (p'.1,p.2 + x) else p') q=mass acc q + if q p.1=true then x else 0:=fun acc=>by
    induction acc with
    | nil=>intro _ h;cases h
    | cons a acc ih =>
     intro nd hp
     rw[jV,kI]at nd
     rw[jV,z0z,z0z]
     rcases jQ.mp hp with e | hp
     · subst e
       rw[if_pos rfl]
       have rest:acc.map (fun p'=>if p'.1=p.1 then (p'.1,p.2 + x) else p')=acc:=by
        conv=>rhs;rw[<- List.map_id acc]
        refine jo fun a ha=>?_
        rw[if_neg (fun z:a.1=p.1=>nd.1 (z ▸ jN.mpr ⟨a,ha,rfl⟩))];rfl
       rw[rest]
       by_cases c:q p.1=true
       · simp only[c,if_true];grind
       · simp only[c];grind
     · have:a.1≠p.1:=fun z=>nd.1 (z ▸ jN.mpr ⟨p,hp,rfl⟩)
       rw[if_neg this,ih nd.2 hp]
       grind
   exact go acc nd hp
theorem y1B{β:Type}{acc:List (List Int×β)}{k:List Int}{x:β}(k':List Int):k'∈(z3K acc k x).map (·.1)↔k'∈acc.map (·.1)\/k'=k:=by
 unfold z3K
 split
 · rename_i h
   obtain⟨p,hp,hk⟩:=List.any_eq_true.mp h
   have hk:p.1=k:=by simpa using hk
   rw[kh]
   have e:acc.map ((fun p=>p.1) ∘ fun p=>if p.1=k then (p.1,x) else p)=acc.map (·.1):=jo fun p _=>by
    show (if p.1=k then (p.1,x) else p).1=p.1
    split <;> rfl
   rw[e]
   constructor
   · exact .inl
   · rintro (z | z)
     · exact z
     · rw[z,<- hk];exact jN.mpr ⟨p,hp,rfl⟩
 · rw[jT,jL]
   simp
theorem y0t{β:Type}{acc:List (List Int×β)}{k:List Int}{x:β}(nd:(acc.map (·.1)).Nodup):((z3K acc k x).map (·.1)).Nodup:=by
 unfold z3K
 split
 · rw[kh]
   have e:acc.map ((fun p=>p.1) ∘ fun p=>if p.1=k then (p.1,x) else p)=acc.map (·.1):=jo fun p _=>by
    show (if p.1=k then (p.1,x) else p).1=p.1
    split <;> rfl
   rw[e];exact nd
 · rename_i h
   rw[jT,kY]
   refine⟨nd,by simp,fun a ha b hb z=>?_⟩
   have:b=k:=by simpa using hb
   subst this
   obtain⟨p,hp,e⟩:=jN.mp ha
   exact h (List.any_eq_true.mpr ⟨p,hp,by simp[e,z]⟩)
theorem z2i(ps:List Int):∀ (n:Nat) (rs:List Rw),rs.length=n->((gath ps rs).map (·.1)).Nodup/\(∀ k,k∈(gath ps rs).map (·.1)↔∃ r∈rs,k=pickN r.1 ps)/\∀ q,mass (gath ps rs) q=mass rs fun k=>q (pickN k ps)
 | 0,rs,h=>by
  have:rs=[]:=List.length_eq_zero_iff.mp h
  subst this
  exact⟨List.nodup_nil,fun k=>⟨fun h=>(nomatch h),fun⟨r,h,_⟩=>(nomatch h)⟩,fun q=>rfl⟩
 | n + 1,rs,h=>by
  obtain⟨l,r,rfl⟩:∃ l r,rs=l ++ [r]:=by
   have hne:rs≠[]:=by intro z;rw[z]at h;simp at h
   exact⟨rs.dropLast,rs.getLast hne,(List.dropLast_concat_getLast hne).symm⟩
  obtain⟨h1,h2,h3⟩:=z2i ps n l (by simpa using h)
  rw[z5i]
  refine⟨y0t h1,fun k=>?_,fun q=>?_⟩
  · unfold y0g
    rw[y1B,h2]
    constructor
    · rintro (⟨r',a,b⟩ | e)
      · exact⟨r',jW _ a,b⟩
      · exact⟨r,by simp,e⟩
    · rintro⟨r',a,b⟩
      rcases jL.mp a with a | a
      · exact .inl ⟨r',a,b⟩
      · rw[jM.mp a]at b;exact .inr b
  · rw[y3l _ h1,h3,z4t,z6G]
theorem z1G{rs:List Rw}(h:rs.Pairwise fun p q=>HT.lexLt p.1 q.1=true):(rs.map (·.1)).Nodup:=by
 rw[ku,kA]
 exact h.imp fun {a b} hab e=>by rw[e,L2.z3e]at hab;cases hab
theorem z3T{rs:List Rw}(nd:(rs.map (·.1)).Nodup){p:Rw}(hp:p∈rs):mass rs (fun k=>decide (k=p.1))=p.2:=by
 induction rs with
 | nil=>cases hp
 | cons a rs ih =>
  rw[jV,kI]at nd
  rw[z0z]
  rcases jQ.mp hp with e | hp
  · rw[<- e,if_pos (by simp),z2J]
    · grind
    · intro r hr
      refine decide_eq_false fun z=>nd.1 ?_
      rw[<- e,<- z]
      exact jN.mpr ⟨r,hr,rfl⟩
  · have:a.1≠p.1:=fun z=>nd.1 (z ▸ jN.mpr ⟨p,hp,rfl⟩)
    rw[if_neg (by simpa using this),ih nd.2 hp]
    grind
theorem z4h{rs:List Rw}(h:(rs.map (·.1)).Nodup):rs.Nodup:=by
 rw[ku,kA]at h
 exact ku.mpr (h.imp fun {a b} hab e=>hab (by rw[e]))
theorem y5H{a b:List Rw}(ha:a.Pairwise fun p q=>HT.lexLt p.1 q.1=true)(hb:b.Pairwise fun p q=>HT.lexLt p.1 q.1=true)(hk:∀ k,k∈a.map (·.1)↔k∈b.map (·.1))(hm:∀ k,mass a (fun x=>decide (x=k))=mass b fun x=>decide (x=k)):a=b:=by
 have na:=z1G ha
 have nb:=z1G hb
 have sub:∀ {a b:List Rw},(a.map (·.1)).Nodup->(b.map (·.1)).Nodup->(∀ k,k∈a.map (·.1)↔k∈b.map (·.1))->(∀ k,mass a (fun x=>decide (x=k))=mass b fun x=>decide (x=k))->∀ p∈a,p∈b:=fun {a b} na nb hk hm p hp=>by
  obtain⟨p',hp',e⟩:=jN.mp ((hk p.1).mp (jN.mpr ⟨p,hp,rfl⟩))
  have h1:=z3T na hp
  have h2:=z3T nb hp'
  rw[e]at h2
  have h3:p'.2=p.2:=by rw[<- h1,<- h2,hm]
  have:p'=p:=Prod.ext e h3
  rw[<- this];exact hp'
 have pm:a.Perm b:=(List.perm_ext_iff_of_nodup (z4h na) (z4h nb)).mpr fun p=>⟨sub na nb hk hm p,sub nb na (fun k=>(hk k).symm) (fun k=>(hm k).symm) p⟩
 exact List.Perm.eq_of_pairwise (fun x y _ _ h1 h2=>by
  have:=z3x h1 h2
  rw[L2.z3e]at this;cases this) ha hb pm
def Bd(D M:Nat)(r:Rat):Prop:=∃ a:Nat,a<=M/\r=Rat.divInt a D
theorem Bd.mono{D M M':Nat}{r:Rat}(h:Bd D M r)(l:M<=M'):Bd D M' r:=by obtain⟨a,h1,h2⟩:=h;exact⟨a,jY h1 l,h2⟩
theorem Bd.mul{D D' M M':Nat}{r s:Rat}(h:Bd D M r)(h':Bd D' M' s):Bd (D * D') (M * M') (r * s):=by
 obtain⟨a,h1,rfl⟩:=h
 obtain⟨b,h2,rfl⟩:=h'
 exact⟨a * b,Nat.mul_le_mul h1 h2,by rw[Rat.divInt_mul_divInt];norm_cast⟩
theorem Bd.add{D M M':Nat}(hD:0 < D){r s:Rat}(h:Bd D M r)(h':Bd D M' s):Bd D (M + M') (r + s):=by
 obtain⟨a,h1,rfl⟩:=h
 obtain⟨b,h2,rfl⟩:=h'
 have h0:(D:Int)≠0:=by omega
 refine⟨a + b,by omega,?_⟩
 rw[Rat.divInt_add_divInt _ _ h0 h0,<- Int.add_mul,Rat.divInt_mul_right h0]
 congr 1
theorem Bd.sz{D M:Nat}(hD:0 < D)(l1:D < 2 ^ 2000)(l2:M < 2 ^ 2000){r:Rat}(h:Bd D M r):Fd.sz r:=by
 obtain⟨a,h1,rfl⟩:=h
 obtain⟨a1,a2⟩:=z2M (t:=(a:Int)) (b:=(D:Int)) (by omega)
 exact⟨kF a1 (by omega),kF a2 (by omega)⟩
theorem y1J{D M:Nat}(hD:0 < D):∀ (l:List Rat),(∀ r∈l,Bd D M r)->Bd D (l.length * M) (z1F l)
 | [],_=>⟨0,jg _,by show (0:Rat)=_;simp⟩
 | r :: l,h=>by
  rw[z0H,jx,Nat.succ_mul,Nat.add_comm]
  exact Bd.add hD (h r (jv ..)) (y1J hD l fun r' hr=>h r' (jK _ hr))
theorem y6B{D M:Nat}(hD:0 < D){rs:List Rw}(h:∀ r∈rs,Bd D M r.2)(q:List Int->Bool):Bd D (rs.length * M) (mass rs q):=by
 unfold mass
 have:=y1J hD ((rs.filter fun r=>q r.1).map (·.2)) (M:=M) fun x hx=>by
  obtain⟨r,hr,rfl⟩:=jN.mp hx
  exact h r (ju.mp hr).1
 refine this.mono (Nat.mul_le_mul_right _ ?_)
 rw[jA];exact kE _ _
theorem z8K{D M:Nat}(hD:0 < D){ps:List Int}{rs:List Rw}(h:∀ r∈rs,Bd D M r.2):∀ g∈gath ps rs,Bd D (rs.length * M) g.2:=fun g hg=>by
 obtain⟨h1,_,h3⟩:=z2i ps _ rs rfl
 rw[<- z3T h1 hg,h3]
 exact y6B hD h _
def y8L(ms:List Int):Nat->List (List Int)
 | 0=>[[]]
 | n + 1=>ms.flatMap fun z=>(y8L ms n).map (z :: ·)
theorem y0f(ms:List Int):∀ n,(y8L ms n).length=ms.length ^ n
 | 0=>rfl
 | n + 1=>by
  show (ms.flatMap fun z=>(y8L ms n).map (z :: ·)).length=_
  rw[List.length_flatMap]
  have:(ms.map fun z=>((y8L ms n).map (z :: ·)).length)=ms.map fun _=>ms.length ^ n:=jo fun z _=>by rw[jA,y0f ms n]
  rw[this,Nat.pow_succ,Nat.mul_comm]
  clear this
  generalize ms.length ^ n=x
  induction ms with
  | nil=>simp
  | cons a ms ih=>rw[jV,List.sum_cons,ih,jx,Nat.succ_mul];omega
theorem z9L{ms:List Int}:∀ {k:List Int},(∀ z∈k,z∈ms)->k∈y8L ms k.length
 | [],_=>by show []∈[[]];simp
 | z :: k,h=>qA.mpr ⟨z,h z (jv ..),jN.mpr ⟨k,z9L fun z hz=>h z (jK _ hz),rfl⟩⟩
theorem z9O{ms:List Int}{n:Nat}{L:List (List Int)}(nd:L.Nodup)(h:∀ k∈L,k.length=n/\∀ z∈k,z∈ms):L.length<=ms.length ^ n:=by
 rw[<- y0f]
 exact List.Nodup.length_le_of_subset nd fun k hk=>by rw[<- (h k hk).1];exact z9L (h k hk).2
structure Tm (pool:List Str) (ms:List Int) (D M:Nat) (ns:List Str) (rs:List Rw):Prop where
 pw:ns.Pairwise ltS
 sub:∀ n∈ns,n∈pool
 w:∀ r∈rs,r.1.length=ns.length
 v:∀ r∈rs,∀ z∈r.1,z∈ms
 b:∀ r∈rs,Bd D M r.2
 st:rs.Pairwise fun p q=>HT.lexLt p.1 q.1=true
section
variable {pool:List Str}{ms:List Int}{D D1 D2 M M1 M2:Nat}{ns ns1 ns2:List Str}{rs rs1 rs2:List Rw}
theorem Tm.nd(t:Tm pool ms D M ns rs):ns.Nodup:=z1u t.pw
theorem z9Q(t:Tm pool ms D M ns rs){k:List Int}(h:k∈rs.map (·.1)):k=ns.map (asg ns k):=by
 obtain⟨r,hr,rfl⟩:=jN.mp h
 exact (z3U t.nd (t.w r hr)).symm
theorem y0e{ns:List Str}{k:List Int}{n:Str}(hn:n∈ns)(hk:k.length=ns.length):asg ns k n∈k:=by
 unfold asg
 have hl:=ke.mpr hn
 rw[jC,jD (by omega)]
 exact kD _
theorem z5c(t1:Tm pool ms D1 M1 ns1 rs1)(t2:Tm pool ms D2 M2 ns2 rs2){W W1 W2:List Str}(hW:∀ n∈W,n∈ns1\/n∈ns2)(hc:∀ n,n∈ns1->n∈ns2->n∈W)(h1:∀ n,n∈W1↔n∈ns1/\n∈W)(h2:∀ n,n∈W2↔n∈ns2/\n∈W)(g:Str->Int){r s:Rw}(hr:r∈rs1)(hs:s∈rs2) :
 (pickN s.1 (plc ns2 (cmn ns1 ns2))=pickN r.1 (plc ns1 (cmn ns1 ns2))/\pickN (pickN (r.1 ++ s.1) (plc (ns1 ++ ns2) (srt (ns1 ++ ns2)))) (plc (srt (ns1 ++ ns2)) W)=W.map g)↔(pickN r.1 (plc ns1 W1)=W1.map g/\pickN s.1 (plc ns2 W2)=W2.map g):=by
 have wr:=t1.w r hr
 simp only[z1o,z0y]
 have cm:∀ n,n∈cmn ns1 ns2↔n∈ns1/\n∈ns2:=fun n=>by unfold cmn;rw[ju];simp
 have app:∀ n∈W,asg (srt (ns1 ++ ns2)) ((srt (ns1 ++ ns2)).map (asg (ns1 ++ ns2) (r.1 ++ s.1))) n=if n∈ns1 then asg ns1 r.1 n else asg ns2 s.1 n:=fun n hn=>by
  rw[z6T (z0u.mpr (jL.mpr (hW n hn))),z5n wr]
 constructor
 · rintro⟨e1,e2⟩
   have e1:=fun n=>e1 n
   have a1:∀ n,n∈ns1->n∈ns2->asg ns2 s.1 n=asg ns1 r.1 n:=fun n x y=>e1 n ((cm n).mpr ⟨x,y⟩)
   have a2:∀ n∈W,(if n∈ns1 then asg ns1 r.1 n else asg ns2 s.1 n)=g n:=fun n hn=>by rw[<- app n hn];exact e2 n hn
   refine⟨fun n hn=>?_,fun n hn=>?_⟩
   · obtain⟨x,y⟩:=(h1 n).mp hn
     have:=a2 n y
     rwa [if_pos x]at this
   · obtain⟨x,y⟩:=(h2 n).mp hn
     have:=a2 n y
     by_cases c:n∈ns1
     · rw[if_pos c]at this
       rw[a1 n c x];exact this
     · rwa [if_neg c]at this
 · rintro⟨e1,e2⟩
   refine⟨fun n hn=>?_,fun n hn=>?_⟩
   · obtain⟨x,y⟩:=(cm n).mp hn
     have hw:=hc n x y
     rw[e1 n ((h1 n).mpr ⟨x,hw⟩),e2 n ((h2 n).mpr ⟨y,hw⟩)]
   · rw[app n hn]
     by_cases c:n∈ns1
     · rw[if_pos c];exact e1 n ((h1 n).mpr ⟨c,hn⟩)
     · rw[if_neg c]
       exact e2 n ((h2 n).mpr ⟨(hW n hn).resolve_left c,hn⟩)
theorem y0I(t1:Tm pool ms D1 M1 ns1 rs1)(t2:Tm pool ms D2 M2 ns2 rs2){W W1 W2:List Str}(hW:∀ n∈W,n∈ns1\/n∈ns2)(hc:∀ n,n∈ns1->n∈ns2->n∈W)(h1:∀ n,n∈W1↔n∈ns1/\n∈W)(h2:∀ n,n∈W2↔n∈ns2/\n∈W)(g:Str->Int) :
 mass (z2h ns1 rs1 ns2 rs2) (fun k=>decide (pickN k (plc (srt (ns1 ++ ns2)) W)=W.map g))=mass rs1 (fun k=>decide (pickN k (plc ns1 W1)=W1.map g)) * mass rs2 fun k=>decide (pickN k (plc ns2 W2)=W2.map g):=by
 refine y2u fun r hr s hs=>?_
 have:=z5c t1 t2 hW hc h1 h2 g hr hs
 rw[<- Bool.decide_and,<- Bool.decide_and]
 exact decide_eq_decide.mpr this
theorem z0D{ns:List Str}(nd:ns.Nodup){k:List Int}(hk:k.length=ns.length):pickN k (plc ns ns)=k:=by rw[z1o,z3U nd hk]
theorem z7D(t:Tm pool ms D M ns rs)(g:Str->Int):mass rs (fun k=>decide (pickN k (plc ns ns)=ns.map g))=mass rs fun k=>decide (k=ns.map g) :=
 z5L fun r hr=>by rw[z0D t.nd (t.w r hr)]
theorem z6x(k ps:List Int):(pickN k ps).length=ps.length:=jA _
theorem y5p{r:Rw}(h:r∈z2h ns1 rs1 ns2 rs2):r.1.length=(srt (ns1 ++ ns2)).length:=by
 obtain⟨_,_,_,_,_,e⟩:=z7H.mp (jN.mpr ⟨r,h,rfl⟩)
 rw[e,z6x];unfold plc;rw[jA]
theorem z4e(l:List Str):(srt l).Nodup:=z1u (z7t l)
theorem y2D(t1:Tm pool ms D1 M1 ns1 rs1)(t2:Tm pool ms D2 M2 ns2 rs2)(g:Str->Int):mass (z2h ns1 rs1 ns2 rs2) (fun k=>decide (k=(srt (ns1 ++ ns2)).map g))=mass rs1 (fun k=>decide (k=ns1.map g)) * mass rs2 fun k=>decide (k=ns2.map g):=by
 have h:=y0I t1 t2 (W:=srt (ns1 ++ ns2)) (W1:=ns1) (W2:=ns2) (fun n hn=>jL.mp (z0u.mp hn)) (fun n x _=>z0u.mpr (jW _ x)) (fun n=>⟨fun x=>⟨x,z0u.mpr (jW _ x)⟩,fun x=>x.1⟩) (fun n=>⟨fun x=>⟨x,z0u.mpr (jP _ x)⟩,fun x=>x.1⟩) g
 rw[z7D t1,z7D t2]at h
 rw[<- h]
 exact z5L fun r hr=>by rw[z0D (z4e _) (y5p hr)]
theorem z7J(t1:Tm pool ms D1 M1 ns1 rs1)(t2:Tm pool ms D2 M2 ns2 rs2){k:List Int}:k∈(z2h ns1 rs1 ns2 rs2).map (·.1)↔∃ g:Str->Int,k=(srt (ns1 ++ ns2)).map g/\ns1.map g∈rs1.map (·.1)/\ns2.map g∈rs2.map (·.1):=by
 have core:=fun (g:Str->Int) {r s:Rw} (hr:r∈rs1) (hs:s∈rs2)=>z5c t1 t2 (W:=srt (ns1 ++ ns2)) (W1:=ns1) (W2:=ns2) (fun n hn=>jL.mp (z0u.mp hn)) (fun n x _=>z0u.mpr (jW _ x)) (fun n=>⟨fun x=>⟨x,z0u.mpr (jW _ x)⟩,fun x=>x.1⟩) (fun n=>⟨fun x=>⟨x,z0u.mpr (jP _ x)⟩,fun x=>x.1⟩) g hr hs
 have kl:∀ r s:Rw,(pickN (r.1 ++ s.1) (plc (ns1 ++ ns2) (srt (ns1 ++ ns2)))).length=(srt (ns1 ++ ns2)).length:=fun r s=>by rw[z6x];unfold plc;rw[jA]
 rw[show z2h ns1 rs1 ns2 rs2=z2r _ _ _ rs1 rs2 from rfl,z7H]
 constructor
 · rintro⟨r,hr,s,hs,e,rfl⟩
   have e2:=(z3U (z4e (ns1 ++ ns2)) (kl r s)).symm
   have c:=(core _ hr hs).mp ⟨e,by rw[z0D (z4e _) (kl r s)];exact e2⟩
   rw[z0D t1.nd (t1.w r hr),z0D t2.nd (t2.w s hs)]at c
   exact⟨_,e2,by rw[<- c.1];exact jN.mpr ⟨r,hr,rfl⟩,by rw[<- c.2];exact jN.mpr ⟨s,hs,rfl⟩⟩
 · rintro⟨g,rfl,h1,h2⟩
   obtain⟨r,hr,e1⟩:=jN.mp h1
   obtain⟨s,hs,e2⟩:=jN.mp h2
   have c:=(core g hr hs).mpr ⟨by rw[z0D t1.nd (t1.w r hr)];exact e1,by rw[z0D t2.nd (t2.w s hs)];exact e2⟩
   rw[z0D (z4e _) (kl r s)]at c
   exact⟨r,hr,s,hs,c.1,c.2.symm⟩
theorem z5O(t1:Tm pool ms D1 M1 ns1 rs1)(t2:Tm pool ms D2 M2 ns2 rs2):((z2h ns1 rs1 ns2 rs2).map (·.1)).Nodup:=by
 have kl:∀ r s:Rw,(pickN (r.1 ++ s.1) (plc (ns1 ++ ns2) (srt (ns1 ++ ns2)))).length=(srt (ns1 ++ ns2)).length:=fun r s=>by rw[z6x];unfold plc;rw[jA]
 have core:=fun (g:Str->Int) {r s:Rw} (hr:r∈rs1) (hs:s∈rs2)=>z5c t1 t2 (W:=srt (ns1 ++ ns2)) (W1:=ns1) (W2:=ns2) (fun n hn=>jL.mp (z0u.mp hn)) (fun n x _=>z0u.mpr (jW _ x)) (fun n=>⟨fun x=>⟨x,z0u.mpr (jW _ x)⟩,fun x=>x.1⟩) (fun n=>⟨fun x=>⟨x,z0u.mpr (jP _ x)⟩,fun x=>x.1⟩) g hr hs
 -- the row's values tell both rows'
 have tell:∀ {r s r' s':Rw},r∈rs1->s∈rs2->r'∈rs1->s'∈rs2->pickN s.1 (plc ns2 (cmn ns1 ns2))=pickN r.1 (plc ns1 (cmn ns1 ns2))->pickN s'.1 (plc ns2 (cmn ns1 ns2))=pickN r'.1 (plc ns1 (cmn ns1 ns2))->pickN (r.1 ++ s.1) (plc (ns1 ++ ns2) (srt (ns1 ++ ns2)))=pickN (r'.1 ++ s'.1) (plc (ns1 ++ ns2) (srt (ns1 ++ ns2)))->r.1=r'.1/\s.1=s'.1:=fun {r s r' s'} hr hs hr' hs' e e' k=>by
  have e2:=(z3U (z4e (ns1 ++ ns2)) (kl r s)).symm
  have c:=(core _ hr hs).mp ⟨e,by rw[z0D (z4e _) (kl r s)];exact e2⟩
  have c':=(core _ hr' hs').mp ⟨e',by rw[z0D (z4e _) (kl r' s'),<- k];exact e2⟩
  rw[z0D t1.nd (t1.w r hr),z0D t2.nd (t2.w s hs)]at c
  rw[z0D t1.nd (t1.w r' hr'),z0D t2.nd (t2.w s' hs')]at c'
  exact⟨c.1.trans c'.1.symm,c.2.trans c'.2.symm⟩
 rw[ku,kA]
 show (rs1.flatMap fun r=>(z4u _ _ rs2 r).map (y3v _ r)).Pairwise _
 rw[List.pairwise_flatMap]
 have mm:∀ {r s:Rw},s∈z4u (plc ns1 (cmn ns1 ns2)) (plc ns2 (cmn ns1 ns2)) rs2 r->s∈rs2/\pickN s.1 (plc ns2 (cmn ns1 ns2))=pickN r.1 (plc ns1 (cmn ns1 ns2)):=fun {r s} h=>⟨(ju.mp h).1,by simpa using (ju.mp h).2⟩
 refine⟨fun r hr=>?_,?_⟩
 · rw[kA]
   have p2:(z4u (plc ns1 (cmn ns1 ns2)) (plc ns2 (cmn ns1 ns2)) rs2 r).Pairwise fun p q=>HT.lexLt p.1 q.1=true:=t2.st.sublist List.filter_sublist
   refine List.Pairwise.imp_of_mem (fun {a b} ha hb hab e=>?_) p2
   have:=(tell hr (mm ha).1 hr (mm hb).1 (mm ha).2 (mm hb).2 e).2
   rw[this,L2.z3e]at hab;cases hab
 · refine List.Pairwise.imp_of_mem (fun {a b} ha hb hab x hx y hy e=>?_) t1.st
   obtain⟨s,hs,rfl⟩:=jN.mp hx
   obtain⟨s',hs',rfl⟩:=jN.mp hy
   have:=(tell ha (mm hs).1 hb (mm hs').1 (mm hs).2 (mm hs').2 e).1
   rw[this,L2.z3e]at hab;cases hab
theorem y6D(t1:Tm pool ms D1 M1 ns1 rs1)(t2:Tm pool ms D2 M2 ns2 rs2){qs:List Rw}(pm:qs.Perm (z2h ns1 rs1 ns2 rs2))(st:qs.Pairwise fun p q=>HT.lexLt p.1 q.1=true):Tm pool ms (D1 * D2) (M1 * M2) (srt (ns1 ++ ns2)) qs:=by
 have each:∀ q∈qs,∃ r∈rs1,∃ s∈rs2,q=y3v (plc (ns1 ++ ns2) (srt (ns1 ++ ns2))) r s:=fun q hq=>by
  obtain⟨r,hr,hp⟩:=qA.mp (show q∈rs1.flatMap _ from pm.mem_iff.mp hq)
  obtain⟨s,hs,rfl⟩:=jN.mp hp
  exact⟨r,hr,s,(ju.mp hs).1,rfl⟩
 refine⟨z7t _,fun n hn=>?_,fun q hq=>y5p (pm.mem_iff.mp hq),fun q hq z hz=>?_,fun q hq=>?_,st⟩
 · rcases jL.mp (z0u.mp hn) with h | h
   · exact t1.sub n h
   · exact t2.sub n h
 · obtain⟨r,hr,s,hs,rfl⟩:=each q hq
   have hz:z∈pickN (r.1 ++ s.1) (plc (ns1 ++ ns2) (srt (ns1 ++ ns2))):=hz
   rw[z1o]at hz
   obtain⟨n,hn,rfl⟩:=jN.mp hz
   rw[z5n (t1.w r hr)]
   by_cases c:n∈ns1
   · rw[if_pos c];exact t1.v r hr _ (y0e c (t1.w r hr))
   · rw[if_neg c]
     have:=(jL.mp (z0u.mp hn)).resolve_left c
     exact t2.v s hs _ (y0e this (t2.w s hs))
 · obtain⟨r,hr,s,hs,rfl⟩:=each q hq
   exact (t1.b r hr).mul (t2.b s hs)
theorem y6i(t:Tm pool ms D M ns rs)(hD:0 < D)(n:Str){L:Nat}(hL:rs.length<=L){qs:List Rw}(pm:qs.Perm (gath (plc ns (wo ns n)) rs))(st:qs.Pairwise fun p q=>HT.lexLt p.1 q.1=true):Tm pool ms D (L * M) (wo ns n) qs:=by
 obtain⟨f1,f2,f3⟩:=z2i (plc ns (wo ns n)) _ rs rfl
 have sub:∀ m∈wo ns n,m∈ns:=fun m hm=>(ju.mp hm).1
 have each:∀ q∈qs,∃ r∈rs,q.1=(wo ns n).map (asg ns r.1):=fun q hq=>by
  obtain⟨r,hr,e⟩:=(f2 q.1).mp (jN.mpr ⟨q,pm.mem_iff.mp hq,rfl⟩)
  exact⟨r,hr,by rw[e,z1o]⟩
 refine⟨t.pw.sublist List.filter_sublist,fun m hm=>t.sub m (sub m hm),fun q hq=>?_,fun q hq z hz=>?_,fun q hq=>?_,st⟩
 · obtain⟨r,_,e⟩:=each q hq
   rw[e,jA]
 · obtain⟨r,hr,e⟩:=each q hq
   rw[e]at hz
   obtain⟨m,hm,rfl⟩:=jN.mp hz
   exact t.v r hr _ (y0e (sub m hm) (t.w r hr))
 · exact (z8K hD t.b q (pm.mem_iff.mp hq)).mono (Nat.mul_le_mul_right _ hL)
end
section
variable {pool:List Str}{ms:List Int}{D D1 D2 D3 M M1 M2 M3:Nat}{ns ns1 ns2 ns3:List Str}{rs rs1 rs2 rs3:List Rw}
structure IsJ (ns1:List Str) (rs1:List Rw) (ns2:List Str) (rs2:List Rw) (qs:List Rw):Prop where
 st:qs.Pairwise fun p q=>HT.lexLt p.1 q.1=true
 k:∀ k,k∈qs.map (·.1)↔∃ g:Str->Int,k=(srt (ns1 ++ ns2)).map g/\ns1.map g∈rs1.map (·.1)/\ns2.map g∈rs2.map (·.1)
 m:∀ g:Str->Int,mass qs (fun k=>decide (k=(srt (ns1 ++ ns2)).map g))=mass rs1 (fun k=>decide (k=ns1.map g)) * mass rs2 fun k=>decide (k=ns2.map g)
theorem y8w(t1:Tm pool ms D1 M1 ns1 rs1)(t2:Tm pool ms D2 M2 ns2 rs2){qs:List Rw}(pm:qs.Perm (z2h ns1 rs1 ns2 rs2))(st:qs.Pairwise fun p q=>HT.lexLt p.1 q.1=true):IsJ ns1 rs1 ns2 rs2 qs :=
 ⟨st,fun k=>by rw[<- z7J t1 t2];exact (pm.map _).mem_iff,fun g=>by rw[z4W pm,y2D t1 t2]⟩
structure IsP (ns:List Str) (rs:List Rw) (n:Str) (qs:List Rw):Prop where
 st:qs.Pairwise fun p q=>HT.lexLt p.1 q.1=true
 k:∀ k,k∈qs.map (·.1)↔∃ k0∈rs.map (·.1),k=pickN k0 (plc ns (wo ns n))
 m:∀ q,mass qs q=mass rs fun k=>q (pickN k (plc ns (wo ns n)))
theorem y8v{n:Str}{qs:List Rw}(pm:qs.Perm (gath (plc ns (wo ns n)) rs))(st:qs.Pairwise fun p q=>HT.lexLt p.1 q.1=true):IsP ns rs n qs:=by
 obtain⟨f1,f2,f3⟩:=z2i (plc ns (wo ns n)) _ rs rfl
 refine⟨st,fun k=>?_,fun q=>by rw[z4W pm,f3]⟩
 rw[(pm.map _).mem_iff,f2]
 exact⟨fun⟨r,hr,e⟩=>⟨r.1,jN.mpr ⟨r,hr,rfl⟩,e⟩,fun⟨k0,h,e⟩=>by obtain⟨r,hr,rfl⟩:=jN.mp h;exact⟨r,hr,e⟩⟩
theorem z2W{ns:List Str}{n m:Str}:m∈wo ns n↔m∈ns/\m≠n:=by unfold wo;rw[ju];simp
end
def cell(ns:List Int)(k:Int):Int:=ns.getD k.toNat 0
def z6h:Sp:=fun vs H Q _=>∃ a ns k,vs=[.ref a,.int k]/\SqL K H a (ns.map V.int)/\0<=k/\Q (.int (cell ns k)) H
theorem y6u(B:Bl mg)(F:Fn K mg "_law_cell_at" z1L ["_law_script", "_law_k"]):Def P w K mg base "_law_cell_at" 1 ["_law_script", "_law_k"] (z6h (K:=K)):=by
 refine F.ok z7o (fun vs H Q E h=>?_) (fun f cdv A outer s H vs Q E hr h=>?_)
 · obtain⟨a,ns,k,rfl,_⟩:=h;rfl
 obtain⟨a,ns,k,rfl,hS,hk,q⟩:=h
 refine⟨_,(@z0c _ _ _ _ _ (z3O (z0B y7X (pv 1) (z0W (z1x K rfl) rfl B.len PySem.boot_len (z0g (pv 0) z0f)) (z1f _)) (@z0h _ _ _ (z0X (z0q (z0i K rfl) (pv 0) (pv 1) (fun _ _=>rfl)))) z1k)
  (@z0h _ _ _ (z0X z0d))),?_⟩
 refine⟨_,rfl,_,rfl,_,_,rfl,y1r hS,_,_,rfl,rfl,_,rfl,?_⟩
 have hl:(ns.map V.int).length=ns.length:=jA _
 refine y3w (fun c=>?_) (fun c=>?_)
 · rw[hl]at c
   refine⟨_,rfl,_,rfl,.inl ⟨a,_,_,.int (cell ns k),rfl,rfl,hS,?_,q⟩⟩
   have hk':k.toNat < ns.length:=by omega
   have e:k=((k.toNat:Nat):Int):=by omega
   rw[e]
   refine z3f ?_
   rw[jF,jD hk']
   show some (V.int ns[k.toNat])=some (V.int (ns.getD _ 0))
   rw[<- e]
   simp[List.getD,hk']
 · rw[hl]at c
   have e:cell ns k=0:=by
    unfold cell
    rw[jC,kO (by omega)];rfl
   rw[e]at q
   exact q
def y4X:Sp:=fun vs H Q _=>∃ a b,vs=[.int a,.int b]/\0<=a/\0<=b/\Q (.int (G a b)) H
theorem y2k(B:Bl mg)(F:Fn K mg "_law_common" z2c ["_law_one", "_law_other"]):Def P w K mg base "_law_common" 1 ["_law_one", "_law_other"] y4X:=by
 refine F.ok z4I (fun vs H Q E h=>?_) (fun f cdv A outer s H vs Q E hr h=>?_)
 · obtain⟨a,b,rfl,_⟩:=h;rfl
 obtain⟨a,b,rfl,ha,hb,q⟩:=h
 refine⟨_,(@z0c _ _ _ _ _ (z9D PassesOwn.never (z0B y2e (pv 1) z0d (z1f _)) (@z0h _ _ _ (y7M (i:=0) (j:=1) rfl z4I.nd rfl rfl (by decide) rfl rfl (z0g (pv 1) (z0g (z0m z0E (pv 0) (pv 1)) z0f)) rfl)))
  (@z0h _ _ _ (z0X (pv 0)))),?_⟩
 refine z9d (fun σ H'=>H'=H/\∃ x y,σ=[some (.int x),some (.int y)]/\0<=x/\0<=y/\G x y=G a b)
  (fun σ _=>match σ with | [_,some (.int y)]=>y.toNat | _=>0) ?_ ?_ ?_
 · exact⟨rfl,_,_,rfl,ha,hb,rfl⟩
 · rintro σ H' ⟨rfl,x,y,rfl,hx,hy,e⟩
   walk_at "rd"
   refine y3w (fun c=>?_) (fun c=>?_)
   · refine⟨_,rfl,_,rfl,_,rfl,_,_,rfl,rfl,c,?_⟩
     walk_at "rd"
     have h1:=Int.emod_nonneg x (show y≠0 by omega)
     have h2:=Int.emod_lt_of_pos x c
     refine⟨⟨rfl,_,_,rfl,hy,h1,(y5z hx c).trans e⟩,?_⟩
     show (x % y).toNat < y.toNat
     omega
   · walk_at "rd"
     have:=y5y (b:=y) hx (by omega)
     rw[e]at this
     show Q (.int x) H'
     rw[<- this];exact q
 · rintro σ H' R R' m ⟨v,e,h⟩
   refine⟨v,e,?_⟩
   obtain⟨i,j,e1,e2,k,e3,h⟩:=h
   exact⟨i,j,e1,e2,k,e3,m _ _ h⟩
def y1x(K:PySem.W.Frag):Sp:=fun vs H Q _=>∃ t b,vs=[.int t,.int b]/\0<=t/\0 < b/\b.natAbs < 2 ^ 8000/\∀ p H',Same H H'->H p=none->IsD K H' (dF (Rat.divInt t b)) (.ref p)->Q (.ref p) H'
theorem y8c(B:Bl mg)(z4c:Def P w K mg base "_law_common" 1 ["_law_one", "_law_other"] y4X)(F:Fn K mg "_law_low" z4K ["_law_top", "_law_bottom"]):Def P w K mg base "_law_low" 2 ["_law_top", "_law_bottom"] (y1x K):=by
 refine F.ok z9x (fun vs H Q E h=>?_) (fun f cdv A outer s H vs Q E hr h=>?_)
 · obtain⟨t,b,rfl,_⟩:=h;rfl
 obtain⟨t,b,rfl,ht,hb,hz,q⟩:=h
 have hb0:b≠0:=by omega
 have fr:=y4y (t:=t) hb0
 have gl:=y9N (a:=t) hb0
 have g0:=z9a (a:=t) hb0
 have gz:(G t b).natAbs < 2 ^ 8000:=by omega
 unfold sg at fr
 rw[if_neg (by omega)]at fr
 refine⟨_,(@z0c _ _ _ _ _ (z0l (i:=2) z9x.nd rfl (by first | exact Or.inl rfl | exact Or.inr rfl) (z0p z4c hr rfl (z0g (pv 0) (z0g (pv 1) z0f))))
  (@z0h _ _ _ (z0X (z3s (z0g (z0m z6B (pv 0) (pv 2)) (z0g (z0m z6B (pv 1) (pv 2)) z0f)))))),?_⟩
 refine⟨_,rfl,_,rfl,t,b,rfl,ht,by omega,?_⟩
 walk_at "rd"
 refine⟨⟨by omega,z3w gz (by decide)⟩,?_⟩
 walk_at "rd"
 refine⟨⟨by omega,z3w gz (by decide)⟩,(by show 2<=sizeLine;decide),fun p hp=>q p _ (z0e hp _) hp ?_⟩
 unfold dF
 rw[<- fr.1,<- fr.2]
 exact z1M z0a
def z9q(c:Int):Int:=([1,3,5,7,9,11,15,17,19,21,23,25]:List Int).getD (c / 26 % 12).toNat 1
def ltr(i:Int):Nat:=97 + (i % 26).toNat
abbrev zro:Str:=(toString (0:Int):String)
def y0A(c:Int):Nat->Str
 | 0 => ""
 | j + 1=>y0A c j ++ ⟨#[ltr (c / 7 + j * j)]⟩
def y4e(c k:Int):Str :=
 if c / 312 % 4=0 then ⟨#[ltr (c + k * z9q c)]⟩
 else if c / 312 % 4=1 then y0A c (c / 1248 % 7).toNat ++ ((⟨#[ltr (c + k * z9q c)]⟩:Str) ++ zro)
 else ((⟨#[ltr (c + k * z9q c)]⟩:Str) ++ zro) ++ y0A c (c / 1248 % 7).toNat
theorem y5o(i:Int):atI ("abcdefghijklmnopqrstuvwxyz" : Str).cps.toList (i % 26)=some (ltr i):=by
 have h:∀ n:Fin 26,atI ("abcdefghijklmnopqrstuvwxyz" : Str).cps.toList ((n.val:Nat):Int)=some (97 + n.val):=by decide +kernel
 have:=h ⟨(i % 26).toNat,by omega⟩
 have e:(((i % 26).toNat:Nat):Int)=i % 26:=by omega
 rw[e]at this
 exact this
theorem y5P(c:Int):atI [V.int 1,.int 3,.int 5,.int 7,.int 9,.int 11,.int 15,.int 17,.int 19,.int 21,.int 23,.int 25] (c / 26 % 12)=some (.int (z9q c)):=by
 have h:c / 26 % 12=0\/c / 26 % 12=1\/c / 26 % 12=2\/c / 26 % 12=3\/c / 26 % 12=4\/c / 26 % 12=5\/c / 26 % 12=6\/c / 26 % 12=7\/c / 26 % 12=8\/c / 26 % 12=9\/c / 26 % 12=10\/c / 26 % 12=11:=by omega
 unfold z9q
 rcases h with h | h | h | h | h | h | h | h | h | h | h | h <;> rw[h] <;> rfl
theorem y5O(c:Int):z9q c∈([1,3,5,7,9,11,15,17,19,21,23,25]:List Int):=by
 have h:c / 26 % 12=0\/c / 26 % 12=1\/c / 26 % 12=2\/c / 26 % 12=3\/c / 26 % 12=4\/c / 26 % 12=5\/c / 26 % 12=6\/c / 26 % 12=7\/c / 26 % 12=8\/c / 26 % 12=9\/c / 26 % 12=10\/c / 26 % 12=11:=by omega
 unfold z9q
 rcases h with h | h | h | h | h | h | h | h | h | h | h | h <;> rw[h] <;> decide
theorem z8V(a b:Str):(a ++ b).length=a.length + b.length:=Array.size_append ..
theorem z6E(c:Int):∀ j,(y0A c j).length=j
 | 0=>rfl
 | j + 1=>by show (y0A c j ++ _).length=_;rw[z8V,z6E c j];rfl
theorem y9s(l:Nat):Txt.slice ((⟨#[l]⟩:Str) ++ zro) none (some (1 + if false=true then 1 else 0))=⟨#[l]⟩:=rfl
def y1v:Sp:=fun vs H Q _=>∃ c k:Int,vs=[.int c,.int k]/\0<=k/\k < 6/\∀ H',Same H H'->Q (.str (y4e c k)) H'
theorem y6s(B:Bl mg)(F:Fn K mg "_law_name" z3o ["_law_cell", "_law_k"]):Def P w K mg base "_law_name" 1 ["_law_cell", "_law_k"] y1v:=by
 refine F.ok z1s (fun vs H Q E h=>?_) (fun f cdv A outer s H vs Q E hr h=>?_)
 · obtain⟨c,k,rfl,_⟩:=h;rfl
 obtain⟨c,k,rfl,k0,k5,q⟩:=h
 refine⟨_,(@z0c _ _ _ _ _ (z0l (i:=2) z1s.nd rfl (by first | exact Or.inl rfl | exact Or.inr rfl) y5f)
  (@z0c _ _ _ _ _ (@y3U _ 3 _ _ _ _ _ _ _ _ _ _ z1s.nd rfl rfl (z0i K rfl) (@z0b _ _ _ _ _ z0d (@z0b _ _ _ _ _ z0d (@z0b _ _ _ _ _ z0d (@z0b _ _ _ _ _ z0d (@z0b _ _ _ _ _ z0d (@z0b _ _ _ _ _ z0d (@z0b _ _ _ _ _ z0d (@z0b _ _ _ _ _ z0d (@z0b _ _ _ _ _ z0d (@z0b _ _ _ _ _ z0d (@z0b _ _ _ _ _ z0d (@z0b _ _ _ _ _ z0d z0f rfl) rfl) rfl) rfl) rfl) rfl) rfl) rfl) rfl) rfl) rfl) rfl) (z0m z0E (z0m z1N (pv 0) z0d) z0d) (fun _ _=>rfl))
  (@z0c _ _ _ _ _ (z0l (i:=4) z1s.nd rfl (by first | exact Or.inl rfl | exact Or.inr rfl) (z0m (z1j.or (z0x.or (z2v.or (z1b K rfl)))) (z0q (z0i K rfl) (pv 2) (z0m z0E (z0m (z1j.or (z0x.or (z2v.or (z1b K rfl)))) (pv 0) (z0m z0S (pv 1) (pv 3))) z0d) (fun _ _=>rfl)) (z0t z7S rfl B.str PyProof.Rows.boot_str (z0g (z0m z1N (pv 1) z0d) z0f))))
  (@z0c _ _ _ _ _ (z0l (i:=5) z1s.nd rfl (by first | exact Or.inl rfl | exact Or.inr rfl) (z0m z0E (z0m z1N (pv 0) z0d) z0d))
  (@z0c _ _ _ _ _ (z3O (z0B (z3u.or (y2f.or (y2g.or (z5J K rfl hr.units)))) (pv 5) z0d (z1f _)) (@z0h _ _ _ (z0X (z1V y5V (pv 4) z2I (z2H (z0m (z1j.or (z0x.or (z2v.or (z1b K rfl)))) z0d (z0t y3d rfl B.int PyProof.Rows.boot_int (z0g (z8w y2e (pv 1) z0d (z1f _)) z0f))))))) z1k)
  (@z0c _ _ _ _ _ (z0l (i:=6) z1s.nd rfl (by first | exact Or.inl rfl | exact Or.inr rfl) y5f)
  (@z0c _ _ _ _ _ (z1U PassesOwn.never rfl (z3r rfl B.range (z0g (z0m z0E (z0m z1N (pv 0) z0d) z0d) z0f)) (z0v (i:=7) z1s.nd rfl (by first | exact Or.inl rfl | exact Or.inr rfl)) (@z0h _ _ _ (z0l (i:=6) z1s.nd rfl (by first | exact Or.inl rfl | exact Or.inr rfl) (z0m (z1j.or (z0x.or (z2v.or (z1b K rfl)))) (pv 6) (z0q (z0i K rfl) (pv 2) (z0m z0E (z0m (z1j.or (z0x.or (z2v.or (z1b K rfl)))) (z0m z1N (pv 0) z0d) (z0m z0S (pv 7) (pv 7))) z0d) (fun _ _=>rfl))))))
  (@z0c _ _ _ _ _ (z3O (z0B (z3u.or (y2f.or (y2g.or (z5J K rfl hr.units)))) (pv 5) z0d (z1f _)) (@z0h _ _ _ (z0X (z0m (z1j.or (z0x.or (z2v.or (z1b K rfl)))) (pv 6) (pv 4)))) z1k)
  (@z0h _ _ _ (z0X (z0m (z1j.or (z0x.or (z2v.or (z1b K rfl)))) (pv 4) (pv 6)))))))))))),?_⟩
 have si:=y5O c
 have sr:1<=z9q c/\z9q c<=25:=by
  simp only[jQ,kj,or_false]at si
  omega
 have k26:k / 26=0:=by omega
 refine⟨(by show 12<=sizeLine;decide),fun p np=>?_⟩
 have s1:=z0e np (.lst [V.int 1,.int 3,.int 5,.int 7,.int 9,.int 11,.int 15,.int 17,.int 19,.int 21,.int 23,.int 25])
 walk_at "rd"
 refine .inl ⟨p,_,_,.int (z9q c),rfl,rfl,.of z0a,y5P c,?_⟩
 walk_at "rd"
 refine⟨z3d (m:=3) (n:=5) (by omega) (by omega) (by decide),?_⟩
 walk_at "rd"
 refine .inr (.inr ⟨_,_,ltr (c + k * z9q c),rfl,rfl,by decide,y5o _,?_⟩)
 walk_at "rd"
 refine⟨(by rw[k26];decide),?_⟩
 rw[k26]
 have zl:zro.length<=10:=by decide +kernel
 have big:(1000:Nat) < sizeLine:=by decide
 refine .inr (.inl ⟨_,_,rfl,rfl,(by show 1 + zro.length<=sizeLine;omega),?_⟩)
 walk_at "rd"
 have nz:=q _ s1
 unfold y4e at nz
 refine y3w (fun h0=>?_) (fun h0=>nxt ?_)
 · walk_at "rd"
   refine⟨(by rw[z8V];show 1 + zro.length<=sizeLine;omega),?_⟩
   rw[decide_eq_false (show ¬ 25 < k by omega)]
   rw[if_pos h0,<- y9s]at nz
   exact nz
 · rw[if_neg h0]at nz
   walk_at "rd"
   have i7:(c / 1248 % 7).toNat<=6:=by omega
   refine z7P (fun i σ H'=>H'=_/\∃ cj,σ=[some (.int c),some (.int k),some (.str "abcdefghijklmnopqrstuvwxyz"),some (.int (z9q c)),some (.str ((⟨#[ltr (c + k * z9q c)]⟩:Str) ++ zro)),some (.int (c / 312 % 4)),some (.str (y0A c i)),cj]) ⟨rfl,none,rfl⟩ ?_ ?_
   · rintro i σ H' hi ⟨rfl,cj,rfl⟩
     rw[Int.zero_add]
     have ml:=z6E c i
     walk_at "rd"
     refine⟨z3d (m:=3) (n:=3) (by omega) (by omega) (by decide),?_⟩
     walk_at "rd"
     refine .inr (.inr ⟨_,_,ltr (c / 7 + i * i),rfl,rfl,by decide,y5o _,?_⟩)
     refine .inr (.inl ⟨_,_,rfl,rfl,(by show _ + 1<=sizeLine;omega),?_⟩)
     exact⟨rfl,_,rfl⟩
   · rintro σ H' ⟨rfl,cj,rfl⟩
     have ml:=z6E c (c / 1248 % 7).toNat
     have pl:((⟨#[ltr (c + k * z9q c)]⟩:Str) ++ zro).length<=11:=by rw[z8V];show 1 + zro.length<=11;omega
     walk_at "rd"
     refine y3w (fun h1=>?_) (fun h1=>nxt ?_)
     · rw[if_pos h1]at nz
       exact⟨_,rfl,_,rfl,.inr (.inl ⟨_,_,rfl,rfl,(by omega),nz⟩)⟩
     · rw[if_neg h1]at nz
       exact⟨_,rfl,_,rfl,.inr (.inl ⟨_,_,rfl,rfl,(by omega),nz⟩)⟩
theorem y8S(x y z c:Int)(h1:x < y)(h2:z < x):∃ ms:List Int,z5y [V.int x,.int y,.int z] none (some (1 + c % 3))=ms.map V.int/\1<=ms.length/\ms.length<=3/\ms.Nodup:=by
 have h:c % 3=0\/c % 3=1\/c % 3=2:=by omega
 rcases h with h | h | h <;> rw[h]
 · exact⟨[x],rfl,by simp,by simp,by simp⟩
 · exact⟨[x,y],rfl,by simp,by simp,by simp;omega⟩
 · exact⟨[x,y,z],rfl,by simp,by simp,by simp;omega⟩
def y1w:Sp:=fun vs H Q _=>∃ c o:Int,vs=[.int c,.int o]/\∀ (ms:List Int) p H',Same H H'->H' p=some (.lst (ms.map V.int))->1<=ms.length->ms.length<=3->ms.Nodup->Q (.ref p) H'
theorem y6t(B:Bl mg)(F:Fn K mg "_law_menu" z3p ["_law_cell", "_law_other"]):Def P w K mg base "_law_menu" 1 ["_law_cell", "_law_other"] y1w:=by
 refine F.ok z3m (fun vs H Q E h=>?_) (fun f cdv A outer s H vs Q E hr h=>?_)
 · obtain⟨c,o,rfl,_⟩:=h;rfl
 obtain⟨c,o,rfl,q⟩:=h
 refine⟨_,(@z0c _ _ _ _ _ (z0l (i:=2) z3m.nd rfl (by first | exact Or.inl rfl | exact Or.inr rfl) (z0m z0E (pv 0) (z0m z9H z0d z0d)))
  (@z0c _ _ _ _ _ (z3O (z0B y2e (z0m z0E (pv 1) z0d) z0d (z1f _)) (@z0h _ _ _ (z0l (i:=2) z3m.nd rfl (by first | exact Or.inl rfl | exact Or.inr rfl) (z0m y2c (z0m z0S (z0m z0E (pv 1) z0d) (z0m z0E (pv 0) z0d)) z0d))) z1k)
  (@z0c _ _ _ _ _ (z0l (i:=3) z3m.nd rfl (by first | exact Or.inl rfl | exact Or.inr rfl) (z3t (z0g (pv 2) (z0g (z0m (z1j.or (z0x.or (z2v.or (z1b K rfl)))) (z0m (z1j.or (z0x.or (z2v.or (z1b K rfl)))) (pv 2) z0d) (z0m z0E (z0m z1N (pv 1) z0d) z0d)) (z0g (z0m y2c (z0m y2c (pv 2) z0d) (z0m z0E (z0m z1N (pv 1) z0d) (z0m z9H z0d z0d))) z0f)))))
  (@z0h _ _ _ (z0X (z1V ((z2n K rfl).or (y5U K rfl)) (pv 3) z2I (z2H (z0m (z1j.or (z0x.or (z2v.or (z1b K rfl)))) z0d (z0m z0E (pv 0) z0d))))))))),?_⟩
 walk_at "rd"
 refine y3w (fun _=>?_) (fun _=>?_)
 · walk_at "rd"
   refine⟨z3d (m:=2) (n:=4) (by omega) (by omega) (by decide),?_⟩
   walk_at "rd"
   refine⟨(by show 3<=sizeLine;decide),fun p np=>?_⟩
   walk_at "rd"
   obtain⟨ms,e,l1,l3,nd⟩:=y8S (o % 3 * (c % 9) - 6) (o % 3 * (c % 9) - 6 + 1 + o / 3 % 7) (o % 3 * (c % 9) - 6 - 1 - o / 21 % 10 ^ Int.toNat 30) c (by omega) (by have:=Int.emod_nonneg (o / 21) (show (10:Int) ^ Int.toNat 30≠0 by decide);omega)
   exact .inl ⟨p,_,rfl,.of z0a,fun p2 n2=>q ms p2 _ ((z0e np _).trans (z0e n2 _)) (by rw[z0a];exact congrArg (fun l=>some (HO.lst l)) e) l1 l3 nd⟩
 · walk_at "rd"
   refine⟨(by show 3<=sizeLine;decide),fun p np=>?_⟩
   walk_at "rd"
   obtain⟨ms,e,l1,l3,nd⟩:=y8S (c % 10 ^ Int.toNat 60) (c % 10 ^ Int.toNat 60 + 1 + o / 3 % 7) (c % 10 ^ Int.toNat 60 - 1 - o / 21 % 10 ^ Int.toNat 30) c (by omega) (by have:=Int.emod_nonneg (o / 21) (show (10:Int) ^ Int.toNat 30≠0 by decide);omega)
   exact .inl ⟨p,_,rfl,.of z0a,fun p2 n2=>q ms p2 _ ((z0e np _).trans (z0e n2 _)) (by rw[z0a];exact congrArg (fun l=>some (HO.lst l)) e) l1 l3 nd⟩
def Shr(B:Int)(n:Nat)(r:Rat):Prop:=∃ a:Nat,a<=n * (210 * 10 ^ 60)/\r=Rat.divInt a (42 * B)/\0 < a
def y8M(B:Int)(n:Nat)(ms:List Int)(c:Nat)(rs:List (List Int×Rat)):Prop:=rs.length<=c/\(∀ r∈rs,r.1.length=n/\(∀ z∈r.1,z∈ms)/\Shr B 1 r.2)/\rs.Pairwise (fun p q=>HT.lexLt p.1 q.1=true)
theorem z5G{B:Int}(h0:0 < B)(h1:B<=10 ^ 60)(r:Rat)(m:Nat)(hm:(r.den:Int) * m=42)(hp:0 < r.num)(hs:r.num * m<=210):Shr B 1 r:=by
 have m1:0 < (m:Int):=by
  rcases Nat.eq_zero_or_pos m with z | z
  · rw[z]at hm;omega
  · omega
 have a0:0 < r.num * m:=qH hp m1
 have a1':0 < r.num * m * B:=qH a0 h0
 have a1:0<=r.num * m * B:=qP a1'
 have a2:r.num * m * B<=210 * 10 ^ 60:=Int.mul_le_mul hs h1 (qP h0) (by decide)
 refine⟨(r.num * m * B).toNat,by omega,?_,by omega⟩
 rw[Int.toNat_of_nonneg a1,<- hm]
 have m0:(m:Int) * B≠0:=by
  intro z
  rcases Int.mul_eq_zero.mp z with z | z
  · rw[z,Int.mul_zero]at hm;omega
  · omega
 rw[Int.mul_assoc,Int.mul_assoc,Rat.divInt_mul_right m0,ki]
theorem y3L{β:Type}{acc:List (List Int×β)}{k:List Int}{x:β}{r:List Int×β}(h:r∈z3K acc k x):r=(k,x)\/r∈acc:=by
 unfold z3K at h
 split at h
 · obtain⟨p,hp,rfl⟩:=jN.mp h
   by_cases z:p.1=k
   · rw[if_pos z,z];exact .inl rfl
   · rw[if_neg z];exact .inr hp
 · rcases jL.mp h with h | h
   · exact .inr h
   · exact .inl (by simpa using h)
def z9t(K:PySem.W.Frag):Sp:=fun vs H Q _=>∃ (a b m g:Addr) (cs ms:List Int) (ns:List Str) (B:Int) (r:Rat),vs=[.ref a,.ref b,.ref m,.ref g]/\SqL K H a (cs.map V.int)/\cs.length<=58/\SqL K H b (ns.map V.str)/\ns.length<=4/\SqL K H m (ms.map V.int)/\1<=ms.length/\ms.length<=3/\IsD K H (dF r) (.ref g)/\0 < B/\B<=10 ^ 60/\Shr B 1 r /\
 ∀ (p v l:Addr) (rs:List (List Int×Rat)) H',Same H H'->H l=none->H' p=some (.tup [.ref v,.ref l])->TupZ H' v (ns.map V.str)->IsD K H' (.lst (rs.map z3G)) (.ref l)->(∃ xs,H' l=some (.lst xs)/\JAt K H' xs rs)->y8M B ns.length ms cs.length rs->Q (.ref p) H'
theorem y4b(B:Bl mg)(F:Fn K mg "_law_table" z2A ["_law_cells", "_law_names", "_law_menu_here", "_law_great"]):Def P w K mg base "_law_table" 2 ["_law_cells", "_law_names", "_law_menu_here", "_law_great"] (z9t K):=by
 refine F.ok z1d (fun vs H Q E h=>?_) (fun f cdv A outer s H vs Q E hr h=>?_)
 · obtain⟨a,b,m,g,cs,ms,ns,B0,r,rfl,_⟩:=h;rfl
 obtain⟨a,b,m,g,cs,ms,ns,B0,r,rfl,qa,lc,qb,ln,qm,l1,l3,dg,B1,B2,hr0,q⟩:=h
 refine⟨_,(@z0c _ _ _ _ _ (@z2o _ 4 _ _ _ _ _ z1d.nd rfl (by first | exact Or.inl rfl | exact Or.inr rfl) z4r rfl (by first | exact .inl rfl | exact .inr rfl))
  (@z0c _ _ _ _ _ (z1U PassesOwn.never rfl (z0I (pv 0)) (z0v (i:=5) z1d.nd rfl (by first | exact Or.inl rfl | exact Or.inr rfl)) (@z0c _ _ _ _ _ (z0l (i:=6) z1d.nd rfl (by first | exact Or.inl rfl | exact Or.inr rfl) (z0m z0E (pv 5) z0d))
  (@z0c _ _ _ _ _ (@z2o _ 7 _ _ _ _ _ z1d.nd rfl (by first | exact Or.inl rfl | exact Or.inr rfl) (@z4S _ _) rfl (by first | exact .inl rfl | exact .inr rfl))
  (@z0c _ _ _ _ _ (z1U PassesOwn.never rfl (z0I (pv 1)) (z0v (i:=8) z1d.nd rfl (by first | exact Or.inl rfl | exact Or.inr rfl)) (@z0c _ _ _ _ _ (z2p (z6A PySem.F.plainAttrs_list PySem.F.slot_list_append PySem.F.type_list_append z1h (pv 7) (@z0b _ _ _ _ _ (z0q (z0i K rfl) (pv 2) (z0m z0E (pv 6) (z0W (z1x K rfl) rfl B.len PySem.boot_len (@z0b _ _ _ _ _ (pv 2) z0f rfl))) (fun _ _=>rfl)) z0f rfl)))
  (@z0h _ _ _ (z0l (i:=6) z1d.nd rfl (by first | exact Or.inl rfl | exact Or.inr rfl) (z0m z1N (pv 6) (z0W (z1x K rfl) rfl B.len PySem.boot_len (@z0b _ _ _ _ _ (pv 2) z0f rfl)))))))
  (@z0c _ _ _ _ _ (@y6l _ 9 _ _ _ _ _ _ z1d.nd rfl rfl (@z0b _ _ _ _ _ (@z0R _ _ _ _ _ _ _ z0d z0d rfl rfl) (@z0b _ _ _ _ _ (@z0R _ _ _ _ _ _ _ z0d z0d rfl rfl) (@z0b _ _ _ _ _ (@z0R _ _ _ _ _ _ _ z0d z0d rfl rfl) (@z0b _ _ _ _ _ (@z0R _ _ _ _ _ _ _ z0d z0d rfl rfl) (@z0b _ _ _ _ _ (@z0R _ _ _ _ _ _ _ z0d z0d rfl rfl) (@z0b _ _ _ _ _ (@z0R _ _ _ _ _ _ _ z0d z0d rfl rfl) (@z0b _ _ _ _ _ (pv 3) z0f rfl) rfl) rfl) rfl) rfl) rfl) rfl))
  (@z0h _ _ _ (z6v (z4m hr) (pv 4) (z0t ((z1l K rfl).or (z1m K rfl)) rfl B.tuple PyProof.Rows.boot_tuple (@z0b _ _ _ _ _ (pv 7) z0f rfl)) (z0q (z0i K rfl) (pv 9) (z0m z0E (z0m z0E (z0m z0S (pv 5) z0d) z0d) z0d) (fun _ _=>rfl)) rfl)))))))
  (@z0h _ _ _ (z0X (@z0R _ _ _ _ _ _ _ (z0t ((z1l K rfl).or (z1m K rfl)) rfl B.tuple PyProof.Rows.boot_tuple (@z0b _ _ _ _ _ (pv 1) z0f rfl)) (z4R rfl (z7N hr) rfl B.sorted PyProof.Rows.boot_sorted (pv 4)) rfl rfl))))),?_⟩
 intro d hd
 have s0:Same H (upd H d (.dT [])):=z0e hd _
 have big:(1000:Nat) < sizeLine:=by decide
 refine⟨_,rfl,a,rfl,⟨_,s0.seq qa⟩,?_⟩
 refine z0N (K:=K) (xs:=cs.map V.int) (fun i σ H'=>Same H H'/\∃ ks acc c5 c6 c7 c8 c9,σ=[some (.ref a),some (.ref b),some (.ref m),some (.ref g),some (.ref d),c5,c6,c7,c8,c9]/\H' d=some (.dT (kz ks))/\Acc K H' acc ks/\acc.length<=i/\∀ r∈acc,r.1.length=ns.length/\(∀ z∈r.1,z∈ms)/\Shr B0 1 r.2) ⟨s0,[],[],none,none,none,none,none,rfl,z0a,.nil,jE _,fun r h=>(nomatch h)⟩ (fun i σ H' _ h=>h.1.seq qa) ?_ ?_
 · rintro i x σ H' hx ⟨sm,ks,acc,c5,c6,c7,c8,c9,rfl,ed,ac,la,oka⟩
   obtain⟨c,rfl⟩:=y6I hx
   have hi:i < cs.length:=by have:=(jH.mp hx).1;rw[jA]at this;exact this
   walk_at "rd"
   refine fun pv nv=>?_
   have s1:Same H' (upd H' pv (.lst [])):=z0e nv _
   refine⟨_,rfl,b,rfl,⟨_,(sm.trans s1).seq qb⟩,?_⟩
   refine z0N (K:=K) (xs:=ns.map V.str) (fun k σ H2=>Same H' H2/\∃ (vs:List Int) (lf:Int) (c8:Option V),σ=[some (.ref a),some (.ref b),some (.ref m),some (.ref g),some (.ref d),some (.int c),some (.int lf),some (.ref pv),c8,c9]/\H2 pv=some (.lst (vs.map V.int))/\vs.length=k/\∀ z∈vs,z∈ms) ⟨s1,[],_,_,rfl,z0a,rfl,fun z h=>(nomatch h)⟩ (fun k σ H2 _ h=>(sm.trans h.1).seq qb) ?_ ?_
   · rintro k x σ H2 hk ⟨s2,vs,lf,c8,rfl,e2,lv,vin⟩
     have hk':k < ns.length:=by have:=(jH.mp hk).1;rw[jA]at this;exact this
     have qm2:=(sm.trans s2).seq qm
     have ml:((ms.map V.int).length:Int)=ms.length:=by rw[jA]
     have lp:(0:Int) < ((ms.map V.int).length:Int):=by rw[ml];omega
     obtain⟨v,hv,mv⟩:=y8J (xs:=ms.map V.int) (Int.emod_nonneg lf (Int.ne_of_gt lp)) (Int.emod_lt_of_pos lf lp)
     obtain⟨z,zin,rfl⟩:=jN.mp mv
     have s3:Same H' (upd H2 pv (.lst (vs.map V.int ++ [V.int z]))):=z0o nv s2
     refine⟨_,rfl,.inl ⟨rfl,_,.of e2⟩,_,rfl,_,rfl,_,rfl,_,_,rfl,y1r qm2,?_⟩
     refine⟨_,_,rfl,rfl,lp,?_⟩
     refine .inl ⟨m,_,_,.int z,rfl,rfl,qm2,hv,?_⟩
     refine⟨pv,_,_,rfl,rfl,e2,(by rw[jA];omega),?_⟩
     refine⟨_,rfl,_,rfl,_,_,rfl,y1r ((sm.trans s3).seq qm),_,_,rfl,rfl,⟨lp,z3w (n:=2) (by rw[ml];omega) (by decide)⟩,?_⟩
     exact⟨s3,vs ++ [z],_,_,rfl,by rw[z0a,jT];rfl,by rw[jG];show _ + 1=_;omega,fun y hy=>(jL.mp hy).elim (vin y) fun h=>by rw[jM.mp h];exact zin⟩
   · rintro σ H2 ⟨s2,vs,lf,c8,rfl,e2,lv,vin⟩
     rw[jA]at lv
     refine⟨(by show 2<=sizeLine;decide),fun p1 n1=>⟨(by show 2<=sizeLine;decide),fun p2 n2=>⟨(by show 2<=sizeLine;decide),fun p3 n3=>⟨(by show 2<=sizeLine;decide),fun p4 n4=>⟨(by show 2<=sizeLine;decide),fun p5 n5=>⟨(by show 2<=sizeLine;decide),fun p6 n6=>⟨_,rfl,(by show 7<=sizeLine;decide),fun pl nl=>?_⟩⟩⟩⟩⟩⟩⟩
     have t1:=z0e n1 (.tup [V.int 1,.int 2])
     have t2:=z0e n2 (.tup [V.int 1,.int 3])
     have t3:=z0e n3 (.tup [V.int 2,.int 3])
     have t4:=z0e n4 (.tup [V.int 1,.int 1])
     have t5:=z0e n5 (.tup [V.int 3,.int 7])
     have t6:=z0e n6 (.tup [V.int 5,.int 1])
     have t7:=z0e nl (.lst [V.ref p1,.ref p2,.ref p3,.ref p4,.ref p5,.ref p6,.ref g])
     have d1:IsD K _ (dF ⟨1,2,by decide,by decide⟩) (.ref p1):=(z1M (K:=K) (p:=p1) (a:=1) (b:=2) (z0a (H:=H2))).same (((((t2.trans t3).trans t4).trans t5).trans t6).trans t7)
     have d2:IsD K _ (dF ⟨1,3,by decide,by decide⟩) (.ref p2):=(z1M (K:=K) (p:=p2) (a:=1) (b:=3) z0a).same ((((t3.trans t4).trans t5).trans t6).trans t7)
     have d3:IsD K _ (dF ⟨2,3,by decide,by decide⟩) (.ref p3):=(z1M (K:=K) (p:=p3) (a:=2) (b:=3) z0a).same (((t4.trans t5).trans t6).trans t7)
     have d4:IsD K _ (dF ⟨1,1,by decide,by decide⟩) (.ref p4):=(z1M (K:=K) (p:=p4) (a:=1) (b:=1) z0a).same ((t5.trans t6).trans t7)
     have d5:IsD K _ (dF ⟨3,7,by decide,by decide⟩) (.ref p5):=(z1M (K:=K) (p:=p5) (a:=3) (b:=7) z0a).same (t6.trans t7)
     have d6:IsD K _ (dF ⟨5,1,by decide,by decide⟩) (.ref p6):=(z1M (K:=K) (p:=p6) (a:=5) (b:=1) z0a).same t7
     have t17:=(((((t1.trans t2).trans t3).trans t4).trans t5).trans t6).trans t7
     have d7:=dg.same ((sm.trans s2).trans t17)
     obtain⟨v,r',hv,dv,sv⟩:∃ v r',atI [V.ref p1,.ref p2,.ref p3,.ref p4,.ref p5,.ref p6,.ref g] (c * 48271 % 2147483647 % 7)=some v/\IsD K _ (dF r') v/\Shr B0 1 r':=by
      have h:c * 48271 % 2147483647 % 7=0\/c * 48271 % 2147483647 % 7=1\/c * 48271 % 2147483647 % 7=2\/c * 48271 % 2147483647 % 7=3\/c * 48271 % 2147483647 % 7=4\/c * 48271 % 2147483647 % 7=5\/c * 48271 % 2147483647 % 7=6:=by omega
      rcases h with h | h | h | h | h | h | h <;> rw[h]
      · exact⟨_,_,rfl,d1,z5G B1 B2 _ 21 rfl (by decide) (by decide)⟩
      · exact⟨_,_,rfl,d2,z5G B1 B2 _ 14 rfl (by decide) (by decide)⟩
      · exact⟨_,_,rfl,d3,z5G B1 B2 _ 14 rfl (by decide) (by decide)⟩
      · exact⟨_,_,rfl,d4,z5G B1 B2 _ 42 rfl (by decide) (by decide)⟩
      · exact⟨_,_,rfl,d5,z5G B1 B2 _ 6 rfl (by decide) (by decide)⟩
      · exact⟨_,_,rfl,d6,z5G B1 B2 _ 42 rfl (by decide) (by decide)⟩
      · exact⟨_,_,rfl,d7,hr0⟩
     have s9:=s2.trans t17
     have e9:=t17 _ _ e2
     have ed9:=s9 _ _ ed
     have ac9:=ac.mono (fun r v h=>h.same s9)
     have lz:(kz ks).length < sizeLine:=by
      rw[jA]
      have:=ac.length
      exact z2a (by omega)
     refine⟨_,rfl,_,rfl,_,_,rfl,rfl,IntMulOk.of_right (by decide),_,_,rfl,rfl,(by show (0:Int) < 2147483647;decide),_,_,rfl,rfl,(by show (0:Int) < 7;decide),.inl ⟨pl,_,_,v,rfl,rfl,.of z0a,hv,?_⟩⟩
     refine⟨_,rfl,_,rfl,.inr ⟨pv,_,rfl,.inl ⟨.of e9,fun pt nt=>?_⟩⟩⟩
     have s10:=z0e nt (.tup (vs.map V.int))
     refine⟨d,_,rfl,DPut.t (k:=vs.map Sum.inl) (s10 _ _ ed9) (by rw[z1P];exact z0a) lz,?_⟩
     refine⟨z0o hd ((sm.trans s9).trans s10),z3K ks vs v,z3K acc vs r',_,_,_,_,_,rfl,by rw[z0a,z7G],?_,?_,?_⟩
     · exact ((ac9.mono fun r v h=>h.same s10).set (dv.same s10)).mono (z9Z (s10 _ _ ed9))
     · have:=z6n acc vs r'
       omega
     · intro r hr'
       rcases y3L hr' with h | h
       · rw[h];exact⟨lv,vin,sv⟩
       · exact oka r h
 · rintro σ H' ⟨sm,ks,acc,c5,c6,c7,c8,c9,rfl,ed,ac,la,oka⟩
   rw[jA]at la
   have kl:=ac.length
   refine⟨_,rfl,.inl ⟨b,_,rfl,sm.seq qb,fun v o nv ov=>?_⟩⟩
   have s1:=z0e nv (.frz o (.tup (ns.map V.str)))
   refine⟨_,rfl,d,ks,rfl,s1 _ _ ed,by omega,fun H2 l qs xs' pm pw s2 nl e2 ln' pr=>⟨(by show 2<=sizeLine;decide),fun p np=>?_⟩⟩
   have s3:=z0e np (.tup [V.ref v,.ref l])
   obtain⟨acc',h1,h2⟩:=z6w pm ac
   have hk:acc'.map (·.1)=qs.map (·.1):=z3b (G:=fun r v=>IsD K H' (dF r) v) h2
   have al:=h2.length
   have zt:TupZ (upd H' v (.frz o (.tup (ns.map V.str)))) v (ns.map V.str):=⟨o,z0a,ov⟩
   have dl:IsD K H2 (.lst (acc'.map z3G)) (.ref l):=by
    refine⟨l,xs',rfl,.of e2,z5d (by rw[jA];omega) fun i x d' e1 e3=>?_⟩
    rw[jF]at e3
    cases ea:acc'[i]? with
    | none=>rw[ea]at e3;cases e3
    | some kr =>
     rw[ea]at e3
     cases e3
     obtain⟨kv,e4,e5,e6⟩:=z5I h2 ea
     obtain⟨pp,b,rfl,e7,e8⟩:=pr i x kv e1 e4
     exact⟨pp,_,rfl,.of e7,_,_,rfl,⟨b,_,rfl,.of e8,by rw[<- e5];exact z2L _⟩,_,_,rfl,e6.same (s1.trans s2),rfl⟩
   refine q p v l acc' _ (((sm.trans s1).trans s2).trans s3) ((sm.trans s1).free nl) z0a (zt.same (s2.trans s3)) (dl.same s3) ⟨xs',s3 _ _ e2,qs,by omega,Acc.mono (fun r v h=>h.same ((s1.trans s2).trans s3)) h2,fun j x kv e1 e2=>z4T (pr j x kv e1 e2) s3⟩ ⟨by rw[h1.length_eq];omega,fun r hr'=>oka r (h1.mem_iff.mp hr'),?_⟩
   have:(qs.map (·.1)).Pairwise fun a b=>HT.lexLt a b=true:=kA.mpr pw
   rw[<- hk]at this
   exact kA.mp this
theorem z1Z{H:Hp}:∀ ns:List Str,IsDs K H (ns.map D.str) (ns.map V.str)
 | []=>rfl
 | _ :: ns=>⟨_,_,rfl,rfl,z1Z ns⟩
theorem z3j:∀ ns:List Str,D.deeps (ns.map D.str)=0
 | []=>rfl
 | _ :: ns=>by show max 0 (D.deeps (ns.map D.str))=0;rw[z3j ns];rfl
theorem z7M:∀ ns:List Int,D.deeps (ns.map D.int)=0
 | []=>rfl
 | _ :: ns=>by show max 0 (D.deeps (ns.map D.int))=0;rw[z7M ns];rfl
theorem z4N:∀ rs:List (List Int×Rat),D.deeps (rs.map z3G)<=2
 | []=>jg _
 | r :: rs=>by
  show max (max (D.deeps (r.1.map D.int) + 1) (max 1 0) + 1) (D.deeps (rs.map z3G))<=2
  have:=z4N rs
  rw[z7M]
  omega
theorem z7L{H:Hp}:∀ {ns:List Str}{ys:List V},IsDs K H (ns.map D.str) ys->ys=ns.map V.str
 | [],_,h=>h
 | n :: ns,_,⟨x,r,h1,h2,h3⟩=>by
  have h2':x=V.str n:=h2
  rw[h1,h2',z7L (ns:=ns) h3];rfl
theorem y7A{H:Hp}{p l:Addr}{o:HO}{xs:List V}(ne:l≠p)(h:SqL K H l xs):SqL K (upd H p o) l xs:=by
 rcases h with (h | ⟨u,h⟩) | h
 · exact .inl (.inl (by rw[z0k ne];exact h))
 · exact .inl (.inr ⟨u,by rw[z0k ne];exact h⟩)
 · exact .inr h
theorem y3N(rs:List (List Int×Rat)):D.noLs (rs.map z3G)=true:=z3v fun d hd=>by
 obtain⟨r,_,rfl⟩:=jN.mp hd
 show (D.noLs (r.1.map D.int) && (true && true))=true
 rw[z4v];rfl
theorem z8i(ns:List Str)(rs:List (List Int×Rat)):(D.tup [.tup (ns.map D.str),.lst (rs.map z3G)]).deep<=60:=by
 show max (D.deeps (ns.map D.str) + 1) (max (D.deeps (rs.map z3G) + 1) 0) + 1<=60
 have:=z4N rs
 rw[z3j]
 omega
theorem z6Q{J:It}{ix:List Nat}{te:TE}{σ:St}{H:Hp}{Q:VK}(n:Nat)(xs:Nat->V)(hz:n<=sizeLine)(I:Nat->Addr->List V->Hp->Prop)
 (z2x:∀ Da,H Da=none->I 0 Da [] (upd H Da (.lst []))) (hlen:∀ i Da ys H',I i Da ys H'->ys.length=i)
 (hstop:∀ Da ys H',I n Da ys H'->J.stop n H') (hgo:∀ i Da ys H',i < n->I i Da ys H'->J.go i H'/\∀ x H'',J.yld i H' x H''->x=xs i/\H''=H')
 (step:∀ (i:Nat) (Da:Addr) (ys:List V) (H':Hp) (R:VK),i < n->I i Da ys H'->(∀ y H'',H'' Da=some (.lst ys)->I (i + 1) Da (ys ++ [y]) (upd H'' Da (.lst (ys ++ [y])))->R y H'')->te (some (xs i) :: cap ix σ) H' R)
 (fin:∀ Da ys H',I n Da ys H'->Q (.ref Da) H'):z2O ix te σ Q J H:=by
 intro Da hD
 refine⟨fun i m H'=>m=n - i/\i<=n/\∃ ys,I i Da ys H',⟨n,by simp,jg _,[],z2x Da hD⟩,?_⟩
 rintro i m H' ⟨rfl,hi,ys,hI⟩
 by_cases hlt:i < n
 · obtain⟨g,y⟩:=hgo i Da ys H' hlt hI
   refine .inr ⟨g,fun x H'' hy=>?_⟩
   obtain⟨rfl,rfl⟩:=y x H'' hy
   show te (some (xs i) :: cap ix σ) H'' _
   refine step i Da ys H'' _ hlt hI fun y H3 e3 h3=>?_
   have:=hlen i Da ys _ hI
   exact⟨ys,e3,by omega,n - (i + 1),by omega,rfl,hlt,_,h3⟩
 · have e:i=n:=by omega
   subst e
   exact .inl ⟨hstop Da ys H' hI,fin Da ys H' hI⟩
theorem z7R{J:It}{ix:List Nat}{tt:TT}{te:TE}{σ:St}{H:Hp}{Q:VK}(n:Nat)(xs:Nat->V)(hz:n<=sizeLine)(I:Nat->Addr->List V->Hp->Prop)
 (z2x:∀ Da,H Da=none->I 0 Da [] (upd H Da (.lst []))) (hlen:∀ i Da ys H',I i Da ys H'->ys.length<=i)
 (hstop:∀ Da ys H',I n Da ys H'->J.stop n H') (hgo:∀ i Da ys H',i < n->I i Da ys H'->J.go i H'/\∀ x H'',J.yld i H' x H''->x=xs i/\H''=H')
 (step:∀ (i:Nat) (Da:Addr) (ys:List V) (H':Hp) (R:Bool->Hp->Prop),i < n->I i Da ys H'->(∀ b H'',(b=true->te (some (xs i) :: cap ix σ) H'' fun y H3=>H3 Da=some (.lst ys)/\I (i + 1) Da (ys ++ [y]) (upd H3 Da (.lst (ys ++ [y]))))->(b=false->I (i + 1) Da ys H'')->R b H'')->tt (some (xs i) :: cap ix σ) H' R)
 (mono:∀ σ H (Q Q':VK),(∀ y H1,Q y H1->Q' y H1)->te σ H Q->te σ H Q')
 (fin:∀ Da ys H',I n Da ys H'->Q (.ref Da) H'):z3h ix tt te σ Q J H:=by
 intro Da hD
 refine⟨fun i m H'=>m=n - i/\i<=n/\∃ ys,I i Da ys H',⟨n,by simp,jg _,[],z2x Da hD⟩,?_⟩
 rintro i m H' ⟨rfl,hi,ys,hI⟩
 by_cases hlt:i < n
 · obtain⟨g,y⟩:=hgo i Da ys H' hlt hI
   refine .inr ⟨g,fun x H'' hy=>?_⟩
   obtain⟨rfl,rfl⟩:=y x H'' hy
   show tt (some (xs i) :: cap ix σ) H'' _
   have hl:=hlen i Da ys _ hI
   refine step i Da ys H'' _ hlt hI fun b H3 h1 h2=>?_
   cases b with
   | true =>
    rw[if_pos rfl]
    exact mono _ _ _ _ (fun y H4 h4=>⟨ys,h4.1,by omega,n - (i + 1),by omega,rfl,hlt,_,h4.2⟩) (h1 rfl)
   | false=>rw[if_neg jR];exact⟨n - (i + 1),by omega,rfl,hlt,ys,h2 rfl⟩
 · have e:i=n:=by omega
   subst e
   exact .inl ⟨hstop Da ys H' hI,fin Da ys H' hI⟩
theorem z7Q{J:It}{ix:List Nat}{te:TE}{σ:St}{H:Hp}{Q:VK}(rows:List Int)(xs:Nat->V)(hz:rows.length<=sizeLine)(hstop:∀ H',Same H H'->J.stop rows.length H')
 (hgo:∀ i H',i < rows.length->Same H H'->J.go i H'/\∀ x H'',J.yld i H' x H''->x=xs i/\H''=H') (step:∀ (i:Nat) (x:Int) (H':Hp) (R:VK),rows[i]? = some x->Same H H'->(∀ H'',Same H' H''->R (.int x) H'')->te (some (xs i) :: cap ix σ) H' R)
 (fin:∀ p H',Same H H'->H p=none->H' p=some (.lst (rows.map V.int))->Q (.ref p) H'):z2O ix te σ Q J H:=by
 refine z6Q rows.length xs hz (fun i Da ys H'=>Same H H'/\H Da=none/\H' Da=some (.lst ys)/\i<=rows.length/\ys=(rows.take i).map V.int) (fun Da f=>⟨z0e f _,f,z0a,jg _,rfl⟩) (fun i Da ys H' h=>by rw[h.2.2.2.2,jA,jS];have:=h.2.2.2.1;omega) (fun Da ys H' h=>hstop H' h.1) (fun i Da ys H' hi h=>hgo i H' hi h.1) (fun i Da ys H' R hi h hR=>?_) (fun Da ys H' h=>?_)
 · obtain⟨s,f,hD,_,rfl⟩:=h
   obtain⟨x,ex⟩:∃ x,rows[i]? = some x:=⟨_,jD hi⟩
   refine step i x H' _ ex s fun H'' s'=>hR _ _ (s' _ _ hD) ⟨z0o f (s.trans s'),f,z0a,hi,?_⟩
   rw[kx,ex,jT];rfl
 · obtain⟨s,f,hD,_,rfl⟩:=h
   rw[jy]at hD
   exact fin Da H' s f hD
def TAt(K:PySem.W.Frag)(H:Hp)(p l:Addr)(ns:List Str)(rs:List Rw):Prop:=∃ v,SqT K H p [.ref v,.ref l]/\TupZ H v (ns.map V.str)/\IsD K H (.lst (rs.map z3G)) (.ref l)
theorem TAt.same{H H':Hp}{p l:Addr}{ns:List Str}{rs:List Rw}(h:TAt K H p l ns rs)(s:Same H H'):TAt K H' p l ns rs:=by
 obtain⟨v,a,b,c⟩:=h
 exact⟨v,s.tupq a,b.same s,c.same s⟩
theorem TAt.updL{H:Hp}{p l d:Addr}{ns:List Str}{rs:List Rw}{ys zs:List V}(h:TAt K H p l ns rs)(e:H d=some (.lst ys))(ne:l≠d):TAt K (upd H d (.lst zs)) p l ns rs:=by
 obtain⟨v,a,⟨u,b1,b2⟩,c⟩:=h
 obtain⟨_,xs,ee,ql,dxs⟩:=c
 cases ee
 exact⟨v,z4o e a,⟨u,by rw[z0k fun z=>by rw[z,e]at b1;cases b1];exact b1,b2⟩,l,xs,rfl,y7A ne ql,IsDs.updL e (y3N _) dxs⟩
theorem y8X{pool ns:List Str}{ms:List Int}{B:Int}{c:Nat}{rs:List Rw}(B1:0 < B)(pw:ns.Pairwise ltS)(sub:∀ n∈ns,n∈pool)(h:y8M B ns.length ms c rs):Tm pool ms (42 * B).toNat (210 * 10 ^ 60) ns rs:=by
 obtain⟨_,h1,h2⟩:=h
 refine⟨pw,sub,fun r hr=>(h1 r hr).1,fun r hr=>(h1 r hr).2.1,fun r hr=>?_,h2⟩
 obtain⟨a,l,e,_⟩:=(h1 r hr).2.2
 exact⟨a,by omega,by rw[e,Int.toNat_of_nonneg (by omega)]⟩
def TJ(K:PySem.W.Frag)(H:Hp)(p l:Addr)(ns:List Str)(rs:List Rw):Prop:=TAt K H p l ns rs/\∃ xs,H l=some (.lst xs)/\JAt K H xs rs
theorem TJ.same{H H':Hp}{p l:Addr}{ns:List Str}{rs:List Rw}(h:TJ K H p l ns rs)(s:Same H H'):TJ K H' p l ns rs:=by
 obtain⟨a,xs,e,j⟩:=h
 exact⟨a.same s,xs,s _ _ e,j.same s⟩
theorem TJ.updL{H:Hp}{p l d:Addr}{ns:List Str}{rs:List Rw}{ys zs:List V}(h:TJ K H p l ns rs)(e:H d=some (.lst ys))(ne:l≠d):TJ K (upd H d (.lst zs)) p l ns rs:=by
 obtain⟨a,xs,el,ks,j1,j2,j3⟩:=h
 exact⟨a.updL e ne,xs,by rw[z0k ne];exact el,ks,j1,Acc.mono (z8O e) j2,fun j x kv e1 e2=>z3c e (j3 j x kv e1 e2)⟩
abbrev Tb:=List Str×List Rw
def JF(mo:Nat)(Qt:Tb->Prop)(Et:Prop):Tb->List Tb->Prop
 | c,[]=>Qt c
 | c,t :: ts=>(c.1.length<=30/\t.1.length<=30/\(∀ r∈c.2,r.1.length=c.1.length)/\(∀ r∈t.2,r.1.length=t.1.length)/\c.2.length<=900/\t.2.length<=900/\(∀ r∈c.2,sz r.2)/\(∀ r∈t.2,sz r.2)/\(z2h c.1 c.2 t.1 t.2).length < 90000/\((z2h c.1 c.2 t.1 t.2).map (·.1)).Nodup) /\
  ((z2h c.1 c.2 t.1 t.2).length<=mo->∀ qs:List Rw,qs.Perm (z2h c.1 c.2 t.1 t.2)->qs.Pairwise (fun p q=>HT.lexLt p.1 q.1=true)->JF mo Qt Et (srt (c.1 ++ t.1),qs) ts)/\(mo < (z2h c.1 c.2 t.1 t.2).length->Et)
def z2y(K:PySem.W.Frag)(C:Addr):Sp:=fun vs H Q E=>∃ (a:Addr) (xs:List V) (t:Tb) (ts:List Tb) (mo:Nat),vs=[.ref a,.int mo]/\SqL K H a xs/\xs.length=ts.length + 1/\mo < 90000000/\(∀ (i:Nat) (x:V) (u:Tb),xs[i]? = some x->(t :: ts)[i]? = some u->∃ p l,x = .ref p/\TAt K H p l u.1 u.2) /\
 JF mo (fun T=>∀ p l H',Same H H'->TAt K H' p l T.1 T.2->Q (.ref p) H') (∀ (dx:Addr) H1,Same H H1->H1 dx=some (.xd [("most",.int mo)])->E (.ref C) (some dx) H1) t ts
theorem z7C(B:Bl mg)(z6W:Def2 P w K mg base "joined" 4 ["one", "other", "most"] (z4E K z0j))(N:Fn K mg "all_joined" z1t ["tables", "most"]):Def2 P w K mg base "all_joined" 5 ["tables", "most"] (z2y K z0j):=by
 refine N.ok3 z1B (fun vs H Q E h=>?_) (fun f cdv A outer s H vs Q E hr h=>?_)
 · obtain⟨a,xs,t,ts,mo,rfl,_⟩:=h;rfl
 obtain⟨a,xs,t,ts,mo,rfl,qa,lx,hm,ht,jf⟩:=h
 refine⟨_,(@z0c _ _ _ _ _ (z0l (i:=2) z1B.nd rfl (by first | exact Or.inl rfl | exact Or.inr rfl) (z0q (z0i K rfl) (pv 0) z0d (fun _ _=>rfl)))
  (@z0c _ _ _ _ _ (z6u (z0I (z1V (z2n K rfl) (pv 0) (z2H z0d) z2I)) (z0v (i:=3) z1B.nd rfl (by first | exact Or.inl rfl | exact Or.inr rfl)) (@z0h _ _ _ (z0l (i:=2) z1B.nd rfl (by first | exact Or.inl rfl | exact Or.inr rfl) (z8v z6W hr rfl z8y (z0g (pv 2) (z0g (pv 3) (z0g (pv 1) z0f)))))))
  (@z0h _ _ _ (z0X (pv 2))))),?_⟩
 obtain⟨x0,ex0⟩:∃ x,xs[0]? = some x:=⟨_,jD (by omega)⟩
 obtain⟨p0,l0,rfl,ta0⟩:=ht 0 x0 t ex0 rfl
 refine⟨_,rfl,.inl ⟨a,xs,0,.ref p0,rfl,rfl,qa,z3f (j:=0) ex0,?_⟩⟩
 refine⟨_,rfl,_,rfl,a,xs,rfl,qa,fun pc npc=>?_⟩
 have ec:z5y xs (some 1) none=xs.drop 1:=by
  unfold z5y
  have e1:HT.sIx xs.length 0 (some 1)=min 1 xs.length:=HT.sIx_nat xs.length 0 1
  have e2:HT.sIx xs.length xs.length none=xs.length:=rfl
  rw[e1,e2,show min 1 xs.length=1 by omega,kK (by rw[js];omega)]
 rw[ec]
 have t1:=z0e npc (.lst (xs.drop 1))
 have qc:upd H pc (.lst (xs.drop 1)) pc=some (.lst (xs.drop 1)):=z0a
 generalize upd H pc (.lst (xs.drop 1))=H1 at t1 qc ⊢
 refine⟨pc,rfl,⟨_,.of qc⟩,?_⟩
 have ld:(xs.drop 1).length=ts.length:=by rw[js];omega
 refine z0N (K:=K) (xs:=xs.drop 1) (fun i σ H'=>Same H1 H'/\∃ (c:Tb) (p l:Addr) (c3:Option V),σ=[some (.ref a),some (.int mo),some (.ref p),c3]/\TAt K H' p l c.1 c.2/\JF mo (fun T=>∀ p l H',Same H H'->TAt K H' p l T.1 T.2->Q (.ref p) H') (∀ (dx:Addr) H1,Same H H1->H1 dx=some (.xd [("most",.int mo)])->E (.ref z0j) (some dx) H1) c (ts.drop i))
  ⟨Same.refl _,t,p0,l0,_,rfl,ta0.same t1,jf⟩ (fun i σ H' _ h => .of (h.1 _ _ qc)) ?_ ?_
 · rintro i x σ H' hx ⟨sm,c,p,l,c3,rfl,ta,j⟩
   have hi:i < ts.length:=by have:=(jH.mp hx).1;omega
   rw[List.getElem?_drop]at hx
   have eu:(t :: ts)[1 + i]? = some ts[i]:=by rw[Nat.add_comm];simp[hi]
   obtain⟨pu,lu,rfl,tu⟩:=ht (1 + i) x ts[i] hx eu
   rw[kW hi]at j
   obtain⟨⟨j1,j2,j3,j4,j5,j6,j7,j8,j9,j10⟩,jd,je⟩:=j
   obtain⟨v1,a1,a2,a3⟩:=id ta
   obtain⟨v2,c1,c2,c3'⟩:=id (tu.same (t1.trans sm))
   obtain⟨_,xs1,e1,q1,x1⟩:=id a3
   cases e1
   obtain⟨_,xs2,e2,q2,x2⟩:=id c3'
   cases e2
   refine⟨_,rfl,_,rfl,_,rfl,p,v1,l,pu,v2,lu,c.1,ts[i].1,xs1,xs2,c.2,ts[i].2,mo,rfl,a1,a2,q1,x1,c1,c2,q2,x2,j1,j2,j3,j4,j5,j6,j7,j8,hm,j9,j10,fun hle p' r' l' H2 qs s2 _ _ _ e z pm pw d=>?_,fun hgt dx H2 s2 e=>je hgt dx H2 ((t1.trans sm).trans s2) e⟩
   exact⟨sm.trans s2,(srt (c.1 ++ ts[i].1),qs),p',l',_,rfl,⟨r',.of e,z,d⟩,jd hle qs pm pw⟩
 · rintro σ H' ⟨sm,c,p,l,c3,rfl,ta,j⟩
   rw[ld,List.drop_length]at j
   exact⟨_,rfl,j p l H' (t1.trans sm) ta⟩
def y3u(ns:List Str)(rs:List Rw):D := .tup [.tup (ns.map D.str),.lst (rs.map z3G)]
theorem TAt.isJ{H:Hp}{p l:Addr}{ns:List Str}{rs:List Rw}(h:TAt K H p l ns rs):IsD K H (y3u ns rs) (.ref p):=by
 obtain⟨v,a,b,c⟩:=h
 exact⟨p,_,rfl,a,_,_,rfl,⟨v,_,rfl,b.sq,z1Z _⟩,_,_,rfl,c,rfl⟩
structure PuOk (c:Tb) (n:Str):Prop where
 nl:c.1.length<=60
 w:∀ r∈c.2,r.1.length=c.1.length
 l:c.2.length<=900
 z:∀ r∈c.2,sz r.2
 g:∀ i,∀ g∈gath (plc c.1 (wo c.1 n)) (c.2.take i),sz g.2
def AP(mo:Nat)(Qt:Tb->Prop)(Et:Prop):List Str->List Tb->Prop
 | [],[]=>Qt ([],[([],1)])
 | [],t :: ts=>JF mo Qt Et t ts
 | n :: ns,ts=>match ts.filter fun t=>decide (n∈t.1) with
  | []=>AP mo Qt Et ns ts
  | h :: hr=>JF mo (fun c=>PuOk c n/\∀ qs:List Rw,qs.Perm (gath (plc c.1 (wo c.1 n)) c.2)->qs.Pairwise (fun p q=>HT.lexLt p.1 q.1=true)->AP mo Qt Et ns (ts.filter (fun t => !decide (n∈t.1)) ++ [(wo c.1 n,qs)])) Et h hr
theorem JF.mono{mo:Nat}{Q Q':Tb->Prop}{E:Prop}(hq:∀ t,Q t->Q' t):∀ {ts:List Tb}{c:Tb},JF mo Q E c ts->JF mo Q' E c ts
 | [],c,h=>hq c h
 | t :: ts,c,⟨h1,h2,h3⟩=>⟨h1,fun a qs b d=>JF.mono hq (h2 a qs b d),h3⟩
theorem JF.monoE{mo:Nat}{Q Q':Tb->Prop}{E E':Prop}(hq:∀ t,Q t->Q' t)(he:E->E'):∀ {ts:List Tb}{c:Tb},JF mo Q E c ts->JF mo Q' E' c ts
 | [],c,h=>hq c h
 | t :: ts,c,⟨h1,h2,h3⟩=>⟨h1,fun a qs b d=>JF.monoE hq he (h2 a qs b d),fun a=>he (h3 a)⟩
def TsAt(K:PySem.W.Frag)(H:Hp)(z:List (V×Tb)):Prop:=∀ q∈z,∃ p l,q.1 = .ref p/\TAt K H p l q.2.1 q.2.2
theorem TsAt.same{H H':Hp}{z:List (V×Tb)}(h:TsAt K H z)(s:Same H H'):TsAt K H' z:=fun q hq=>let ⟨p,l,e,t⟩:=h q hq;⟨p,l,e,t.same s⟩
theorem TsAt.sub{H:Hp}{z z':List (V×Tb)}(h:TsAt K H z)(s:∀ q∈z',q∈z):TsAt K H z':=fun q hq=>h q (s q hq)
def z1r(K:PySem.W.Frag)(C:Addr):Sp:=fun vs H Q E=>∃ (a o:Addr) (z:List (V×Tb)) (ns:List Str) (mo:Nat),vs=[.ref a,.ref o,.int mo]/\SqL K H a (z.map (·.1))/\SqL K H o (ns.map V.str)/\z.length<=900/\ns.length<=900/\mo < 90000000/\TsAt K H z /\
 AP mo (fun T=>∀ p l H',Same H H'->H l=none->(∃ xs,H' l=some (.lst xs))->(z≠[]->TAt K H' p l T.1 T.2)->IsD K H' (y3u T.1 T.2) (.ref p)->Q (.ref p) H') (∀ (dx:Addr) H1,Same H H1->H1 dx=some (.xd [("most",.int mo)])->E (.ref C) (some dx) H1) ns (z.map (·.2))
theorem y0a{a:Addr}{z:List (V×Tb)}{ix:List Nat}{tt:TT}{te:TE}{σ:St}{H:Hp}{Q:VK}(p:Tb->Bool)(hS:SqL K H a (z.map (·.1)))(hz:z.length<=sizeLine)
 (test:∀ (q:V×Tb) (H':Hp) (R:Bool->Hp->Prop),q∈z->Same H H'->R (p q.2) H'->tt (some q.1 :: cap ix σ) H' R)
 (item:∀ (x:V) (H':Hp) (R:VK),R x H'->te (some x :: cap ix σ) H' R)
 (mono:∀ σ H (Q Q':VK),(∀ y H1,Q y H1->Q' y H1)->te σ H Q->te σ H Q')
 (fin:∀ d H',H d=none->Same H H'->H' d=some (.lst ((z.filter fun q=>p q.2).map (·.1)))->Q (.ref d) H'):z3h ix tt te σ Q (Itl K a) H:=by
 refine z7R z.length (fun i=>(z.map (·.1)).getD i .non) hz (fun i Da ys H2=>Same H H2/\H Da=none/\H2 Da=some (.lst ys)/\ys=((z.take i).filter fun q=>p q.2).map (·.1)) (fun Da f=>⟨z0e f _,f,z0a,rfl⟩)
  (fun i Da ys H2 h=>by rw[h.2.2.2,jA];exact jY (kE _ _) (by rw[jS];omega))
  (fun Da ys H2 h=>⟨_,h.1.seq hS,by rw[jA];exact jE _⟩) (fun i Da ys H2 hi h=>?_) (fun i Da ys H2 R hi h hR=>?_) mono (fun Da ys H2 h=>?_)
 · have e:(z.map (·.1))[i]? = some z[i].1:=by rw[jF,jD hi];rfl
   refine⟨⟨_,z[i].1,h.1.seq hS,e⟩,fun x H'' hy=>?_⟩
   obtain⟨e1,y⟩:=hy
   refine⟨?_,e1⟩
   have:=y _ (h.1.seq hS)
   rw[jC,this];rfl
 · obtain⟨sm,fD,hD,ey⟩:=h
   have e:(z.map (·.1)).getD i .non=z[i].1:=by rw[jC,jF,jD hi];rfl
   have tk:z.take (i + 1)=z.take i ++ [z[i]]:=jw hi
   show tt (some ((z.map (·.1)).getD i .non) :: cap ix σ) H2 R
   rw[e]
   refine test z[i] H2 R (kD hi) sm (hR _ H2 (fun hb=>?_) fun hb=>⟨sm,fD,hD,?_⟩)
   · show te (some ((z.map (·.1)).getD i .non) :: cap ix σ) H2 _
     rw[e]
     refine item _ _ _ ⟨hD,z0o fD sm,fD,z0a,?_⟩
     rw[tk,kL,jT,<- ey,qL,if_pos hb];rfl
   · rw[tk,kL,jT,<- ey,qL,if_neg (by rw[hb];exact jR)];simp
 · obtain⟨sm,fD,hD,ey⟩:=h
   rw[jy]at ey
   exact fin Da H2 fD sm (by rw[hD,ey])
theorem y4z{α:Type}(z:List α)(p:α->Bool):(z.filter p).length + (z.filter fun q => !p q).length=z.length:=by
 induction z with
 | nil=>rfl
 | cons a z ih=>by_cases c:p a=true <;> simp[c] <;> omega
theorem y8t{c:Bool}{a b:Prop}(h:c=true)(x:a):if c=true then a else b:=by rw[if_pos h];exact x
theorem y8u{c:Bool}{a b:Prop}(h:c=false)(x:b):if c=true then a else b:=by rw[if_neg (by rw[h];exact jR)];exact x
theorem z6N(z:List (V×Tb))(p:Tb->Bool):(z.filter fun q=>p q.2).map (·.2)=(z.map (·.2)).filter p:=by rw[List.filter_map];rfl
theorem z7B(B:Bl mg)(z1y:Def2 P w K mg base "all_joined" 5 ["tables", "most"] (z2y K z0j))(z4y:Def P w K mg base "pushed" 5 ["table", "name"] (z4C K))
 (F:FnD K mg "all_pushed" z0K ["tables", "order", "most"] (.int 500)):Def2 P w K mg base "all_pushed" 7 ["tables", "order", "most"] (z1r K z0j)/\DefD P w K mg base "all_pushed" 7 ["tables", "order", "most"] (.int 500) (z1r K z0j):=by
 refine F.ok3 z0U (fun vs H Q E h=>?_) (fun f cdv A outer s H vs Q E hr h=>?_)
 · obtain⟨a,o,z,ns,mo,rfl,_⟩:=h;rfl
 obtain⟨a,o,z0,ns,mo,rfl,qa,qo,lz,ln,hm,tz,ap⟩:=h
 have big:(100000:Nat) < sizeLine:=by decide
 generalize sj:z2y K z0j=SJ at z1y
 generalize sq:z4C K=SQ at z4y
 refine⟨_,(@z0c _ _ _ _ _ (z0l (i:=3) z0U.nd rfl (by first | exact Or.inl rfl | exact Or.inr rfl) (z0t (z2l K rfl) rfl B.list PyProof.Rows.boot_list (@z0b _ _ _ _ _ (pv 0) z0f rfl)))
  (@z0c _ _ _ _ _ (z6u (z0I (pv 1)) (z0v (i:=4) z0U.nd rfl (by first | exact Or.inl rfl | exact Or.inr rfl)) (@z0c _ _ _ _ _ (z3a (j:=6) z0U.nd rfl rfl (CompOk.of (x := "table") (M:=["name"]) (ix:=[4]) rfl rfl (by decide +kernel) (by decide +kernel) rfl ⟨rfl,trivial⟩ (by rfl) ⟨⟨rfl,rfl,rfl,rfl⟩,trivial⟩) rfl (by decide +kernel) (z0I (pv 3)) (fun _ _ _ _ _=>(z3N (z0B (y5k K rfl) (pv 1) (z0q (z0i K rfl) (pv 0) z0d (fun _ _=>rfl)) (by rfl)))) (fun _ _ _ _ _=>(pv 0)))
  (@z0h _ _ _ (z3O (z0B y2e (z0W (z1x K rfl) rfl B.len PySem.boot_len (@z0b _ _ _ _ _ (pv 6) z0f rfl)) z0d (z1f _)) (@z0c _ _ _ _ _ (z3a (j:=3) z0U.nd rfl rfl (CompOk.of (x := "table") (M:=["name"]) (ix:=[4]) rfl rfl (by decide +kernel) (by decide +kernel) rfl ⟨rfl,trivial⟩ (by rfl) ⟨⟨rfl,rfl,rfl,rfl⟩,trivial⟩) rfl (by decide +kernel) (z0I (pv 3)) (fun _ _ _ _ _=>(z3N (z0B (z7z K rfl) (pv 1) (z0q (z0i K rfl) (pv 0) z0d (fun _ _=>rfl)) (by rfl)))) (fun _ _ _ _ _=>(pv 0)))
  (@z0h _ _ _ (z2p (z6A PySem.F.plainAttrs_list PySem.F.slot_list_append PySem.F.type_list_append z1h (pv 3) (@z0b _ _ _ _ _ (z0p z4y hr rfl (@z0b _ _ _ _ _ (z8v z1y hr rfl z8y (@z0b _ _ _ _ _ (pv 6) (@z0b _ _ _ _ _ (pv 2) z0f rfl) rfl)) (@z0b _ _ _ _ _ (pv 4) z0f rfl) rfl)) z0f rfl))))) z1k))))
  (@z0c _ _ _ _ _ (z3O (z0B z3u (z0W (z1x K rfl) rfl B.len PySem.boot_len (@z0b _ _ _ _ _ (pv 3) z0f rfl)) z0d (z1f _)) (@z0h _ _ _ (@z2G _ _ _ _ (@z0R _ _ _ _ _ _ _ (@y1X _ _ _) (@y1Y _ _ _ _ (@z0R _ _ _ _ _ _ _ (@y1X _ _ _) (@z0R _ _ _ _ _ _ _ z0d z0d rfl rfl) rfl rfl) rfl) rfl rfl))) z1k)
  (@z0c _ _ _ _ _ (z0l (i:=5) z0U.nd rfl (by first | exact Or.inl rfl | exact Or.inr rfl) (z8v z1y hr rfl z8y (@z0b _ _ _ _ _ (pv 3) (@z0b _ _ _ _ _ (pv 2) z0f rfl) rfl)))
  (@z0h _ _ _ (@z2G _ _ _ _ (@z0R _ _ _ _ _ _ _ (z0q (z0i K rfl) (pv 5) z0d (fun _ _=>rfl)) (z0t (z2l K rfl) rfl B.list PyProof.Rows.boot_list (@z0b _ _ _ _ _ (z0q (z0i K rfl) (pv 5) z0d (fun _ _=>rfl)) z0f rfl)) rfl rfl))))))),?_⟩
 refine⟨_,rfl,a,_,rfl,.inl qa,fun d nd=>?_⟩
 have t1:=z0e nd (.lst (z0.map (·.1)))
 have ed:upd H d (.lst (z0.map (·.1))) d=some (.lst (z0.map (·.1))):=z0a
 generalize upd H d (.lst (z0.map (·.1)))=H1 at t1 ed ⊢
 have qo1:=t1.seq qo
 refine⟨_,rfl,o,rfl,⟨_,qo1⟩,?_⟩
 generalize eQt:(fun T:Tb=>∀ p l H',Same H H'->H l=none->(∃ xs,H' l=some (.lst xs))->(z0≠[]->TAt K H' p l T.1 T.2)->IsD K H' (y3u T.1 T.2) (.ref p)->Q (.ref p) H')=Qt at ap
 generalize eEt:(∀ (dx:Addr) H1,Same H H1->H1 dx=some (.xd [("most",.int mo)])->E (.ref z0j) (some dx) H1)=Et at ap
 -- a list of tables joined
 have join:∀ (hv:Addr) (z:List (V×Tb)) (H2:Hp) (Q2:VK) (Qs:Tb->Prop) (q0:V×Tb),SqL K H2 hv ((q0 :: z).map (·.1))->TsAt K H2 (q0 :: z)->Same H H2->JF mo Qs Et q0.2 (z.map (·.2))->(∀ T p l H3,Qs T->Same H2 H3->TAt K H3 p l T.1 T.2->Q2 (.ref p) H3)->SJ [.ref hv,.int mo] H2 Q2 E:=by
  intro hv z H2 Q2 Qs q0 qh ta s02 jf k
  rw[<- sj]
  refine⟨hv,(q0 :: z).map (·.1),q0.2,z.map (·.2),mo,rfl,qh,by simp,hm,fun i x u ex eu=>?_,JF.monoE (fun T hT p l H3 s3 t3=>k T p l H3 hT s3 t3) (fun he=>?_) jf⟩
  · rw[jF]at ex
    rw[show q0.2 :: z.map (·.2)=(q0 :: z).map (·.2) from rfl,jF]at eu
    obtain⟨q,eq,rfl⟩:=jh.mp ex
    rw[eq]at eu
    cases eu
    exact ta q (jk eq)
  · rw[<- eEt]at he
    exact fun dx H4 s4 e4=>he dx H4 (s02.trans s4) e4
 refine z0N (K:=K) (xs:=ns.map V.str) (fun i σ H'=>Same H H'/\Same H1 H'/\∃ (z:List (V×Tb)) (d:Addr) (c4 c6:Option V),σ=[some (.ref a),some (.ref o),some (.int mo),some (.ref d),c4,none,c6]/\H' d=some (.lst (z.map (·.1)))/\z.length<=z0.length/\(z0≠[]->z≠[])/\TsAt K H' z/\AP mo Qt Et (ns.drop i) (z.map (·.2)))
  ⟨t1,Same.refl _,z0,d,none,none,rfl,ed,jE _,id,tz.same t1,(by rw[qM];exact ap)⟩ (fun i σ H' _ h=>h.2.1.seq qo1) ?_ ?_
 · rintro i x σ H' hx ⟨s0,s1,z,d,c4,c6,rfl,hd,lz',nz,tz',ap'⟩
   rw[jF]at hx
   obtain⟨n,en,rfl⟩:=jh.mp hx
   have hi:i < ns.length:=(jH.mp en).1
   have dn:ns.drop i=n :: ns.drop (i + 1):=by rw[kW hi,(jH.mp en).2]
   rw[dn]at ap'
   have test:∀ (H4:Hp) (R:Bool->Hp->Prop) (q:V×Tb),TsAt K H4 z->q∈z->∃ p v l,q.1 = .ref p/\SqT K H4 p [.ref v,.ref l]/\SqT K H4 v (q.2.1.map V.str):=fun H4 R q ta hq=>by
    obtain⟨p,l,e,v,a1,a2,_⟩:=ta q hq
    exact⟨p,v,l,e,a1,a2.sq⟩
   refine z3F ⟨_,rfl,d,rfl,⟨_,.of hd⟩,?_⟩
   refine y0a (fun t=>decide (n∈t.1)) (.of hd) (by omega) (fun q H4 R hq sm hR=>?_) (fun x H4 R hR=>⟨_,rfl,hR⟩) (fun σ H Q Q' hq z=>y4m _ σ H Q Q' hq z) (fun hv H2 fhv s2 ehv=>?_)
   · obtain⟨p,v,l,e,a1,a2⟩:=test H4 R q (tz'.same sm) hq
     rw[e]
     refine⟨_,rfl,_,rfl,.inr (.inl ⟨p,_,0,.ref v,rfl,rfl,a1,rfl,v,_,rfl,.inr a2,rfl,z2j _,?_⟩)⟩
     rw[z5f]
     exact⟨_,rfl,hR⟩
   have hd2:=s2 _ _ hd
   have lhv:((z.filter fun q=>decide (n∈q.2.1)).map (·.1)).length=(z.filter fun q=>decide (n∈q.2.1)).length:=jA _
   refine⟨_,rfl,_,_,rfl,.inl ⟨_,.of ehv,rfl⟩,_,_,rfl,rfl,_,rfl,?_⟩
   rw[lhv]
   have tz2:=tz'.same s2
   have s02:=s0.trans s2
   have s12:=s1.trans s2
   cases ef:z.filter fun q=>decide (n∈q.2.1) with
   | nil =>
    refine y8u (by simp) (nxt ⟨s02,s12,z,d,_,_,rfl,hd2,lz',nz,tz2,?_⟩)
    have e2:=z6N z fun t=>decide (n∈t.1)
    rw[ef]at e2
    unfold AP at ap'
    rw[<- e2]at ap'
    exact ap'
   | cons q0 zr =>
    refine y8t (by simp) ?_
    have e2:=z6N z fun t=>decide (n∈t.1)
    rw[ef]at e2
    unfold AP at ap'
    rw[<- e2]at ap'
    rw[ef]at ehv
    refine z3F ⟨_,rfl,d,rfl,⟨_,.of hd2⟩,?_⟩
    refine y0a (fun t => !decide (n∈t.1)) (.of hd2) (by omega) (fun q H4 R hq sm hR=>?_) (fun x H4 R hR=>⟨_,rfl,hR⟩) (fun σ H Q Q' hq z=>y4m _ σ H Q Q' hq z) (fun d' H3 fd' s3 ed'=>?_)
    · obtain⟨p,v,l,e,a1,a2⟩:=test H4 R q (tz2.same sm) hq
      rw[e]
      refine⟨_,rfl,_,rfl,.inr (.inl ⟨p,_,0,.ref v,rfl,rfl,a1,rfl,v,_,rfl,.inr a2,rfl,z2j _,?_⟩)⟩
      rw[z5f]
      exact⟨_,rfl,hR⟩
    refine⟨_,rfl,.inl ⟨rfl,_,.of ed'⟩,_,rfl,_,rfl,?_⟩
    have sub:∀ q∈q0 :: zr,q∈z:=fun q hq=>by rw[<- ef]at hq;exact (ju.mp hq).1
    have hlen:(q0 :: zr).length + (z.filter fun q => !decide (n∈q.2.1)).length=z.length:=by
     rw[<- ef]
     exact y4z z _
    refine join hv zr H3 _ _ q0 (.of (s3 _ _ ehv)) ((tz2.same s3).sub sub) (s02.trans s3) ap' fun T p l H4 ⟨pu,hq⟩ s4 ta=>?_
    obtain⟨v,a1,a2,a3⟩:=id ta
    obtain⟨_,xs,ee,ql,dxs⟩:=id a3
    cases ee
    refine⟨_,rfl,?_⟩
    rw[<- sq]
    refine⟨p,v,l,n,T.1,xs,T.2,rfl,a1,a2,ql,dxs,pu.nl,pu.w,pu.l,pu.z,pu.g,fun p' r' l' H5 qs s5 fp fr fl ep zr' pm pw dl=>?_⟩
    have ed5:=s5 _ _ (s4 _ _ ed')
    have lne:l'≠d':=fun e=>by rw[e,s4 _ _ ed']at fl;cases fl
    have lf:(z.filter fun q => !decide (n∈q.2.1)).length<=z.length:=kE _ _
    refine⟨d',_,_,rfl,rfl,ed5,by rw[jA];omega,?_⟩
    have s35:=s4.trans s5
    have sf:Same H2 (upd H5 d' (.lst ((z.filter fun q => !decide (n∈q.2.1)).map (·.1) ++ [.ref p']))):=z0o fd' (s3.trans s35)
    refine⟨s02.trans sf,s12.trans sf,(z.filter fun q => !decide (n∈q.2.1)) ++ [(.ref p',(wo T.1 n,qs))],d',_,_,rfl,by rw[z0a,jT];rfl,?_,fun _=>by simp,fun q hq=>?_,?_⟩
    · rw[jG]
      simp only[jx,qD]at hlen ⊢
      omega
    · rcases jL.mp hq with hq | hq
      · obtain⟨p,l,e,t⟩:=tz2 q (ju.mp hq).1
        exact⟨p,l,e,t.same sf⟩
      · rw[jM.mp hq]
        exact⟨p',l',rfl,TAt.updL ⟨r',.of ep,zr',dl⟩ ed5 lne⟩
    · rw[jT,z6N z fun t => !decide (n∈t.1)]
      exact hq qs pm pw
 · rintro σ H' ⟨s0,s1,z,d,c4,c6,rfl,hd,lz',nz,tz',ap'⟩
   rw[jA,List.drop_length]at ap'
   refine⟨_,rfl,_,_,rfl,.inl ⟨_,.of hd,rfl⟩,_,_,rfl,rfl,_,rfl,?_⟩
   rw[jA]
   cases z with
   | nil =>
    have z00:z0=[]:=Classical.byContradiction fun c=>nz c rfl
    refine y8t (by simp) ?_
    have ap':Qt ([],[([],1)]):=ap'
    rw[<- eQt]at ap'
    refine⟨by show 0<=sizeLine;decide,fun p1 f1=>⟨by show 0<=sizeLine;decide,fun p2 f2=>⟨by show 2<=sizeLine;decide,fun p3 f3=>⟨by show 2<=sizeLine;decide,fun p4 f4=>⟨by show 1<=sizeLine;decide,fun p5 f5=>⟨by show 2<=sizeLine;decide,fun p6 f6=>?_⟩⟩⟩⟩⟩⟩
    have u1:=z0e f1 (.tup [])
    have u2:=z0e f2 (.tup [])
    have u3:=z0e f3 (.tup [.int 1,.int 1])
    have u4:=z0e f4 (.tup [.ref p2,.ref p3])
    have u5:=z0e f5 (.lst [.ref p4])
    have u6:=z0e f6 (.tup [.ref p1,.ref p5])
    have t4:=u5.trans u6
    have t3:=u4.trans t4
    have t2:=u3.trans t3
    have t1':=u2.trans t2
    refine ap' p6 p5 _ (s0.trans (u1.trans t1')) ((s0.trans (((u1.trans u2).trans u3).trans u4)).free f5) ⟨_,u6 _ _ z0a⟩ (fun c=>absurd z00 c) ?_
    refine⟨p6,_,rfl,.of z0a,_,_,rfl,⟨p1,[],rfl,.of (t1' _ _ z0a),rfl⟩,_,_,rfl,⟨p5,_,rfl,.of (u6 _ _ z0a),_,_,rfl,⟨p4,_,rfl,.of (t4 _ _ z0a),_,_,rfl,⟨p2,[],rfl,.of (t2 _ _ z0a),rfl⟩,_,_,rfl,⟨p3,_,rfl,.of (t3 _ _ z0a),_,_,rfl,rfl,_,_,rfl,rfl,rfl⟩,rfl⟩,rfl⟩,rfl⟩
   | cons q0 z =>
    refine y8u (by simp;omega) (nxt ?_)
    have ap':JF mo Qt Et q0.2 (z.map (·.2)):=ap'
    refine⟨_,rfl,_,rfl,join d z H' _ _ q0 (.of hd) tz' s0 ap' fun T p l H4 hq s4 ta=>?_⟩
    rw[<- eQt]at hq
    obtain⟨v,a1,a2,a3⟩:=id ta
    obtain⟨_,xs,ee,ql,dxs⟩:=id a3
    cases ee
    refine⟨_,rfl,.inr (.inl ⟨p,_,0,.ref v,rfl,rfl,a1,rfl,?_⟩)⟩
    refine⟨_,rfl,.inr (.inl ⟨p,_,1,.ref l,rfl,rfl,a1,rfl,l,xs,rfl,.inl ql,fun l' f1=>⟨by show 2<=sizeLine;decide,fun p' f2=>?_⟩⟩)⟩
    have u1:=z0e f1 (.lst xs)
    have u2:=z0e f2 (.tup [.ref v,.ref l'])
    have u12:=u1.trans u2
    have ta':TAt K (upd (upd H4 l' (.lst xs)) p' (.tup [.ref v,.ref l'])) p' l' T.1 T.2:=⟨v,.of z0a,a2.same u12,l',xs,rfl,.of (u2 _ _ z0a),dxs.same u12⟩
    exact hq p' l' _ ((s0.trans s4).trans u12) ((s0.trans s4).free f1) ⟨_,u2 _ _ z0a⟩ (fun _=>ta') ta'.isJ
theorem z9z:z1F []=0:=rfl
theorem z6s{α:Type}(f h:α->Rat):∀ l:List α,z1F (l.map fun a=>f a + h a)=z1F (l.map f) + z1F (l.map h)
 | []=>by rw[qE,qE,qE,z9z,Rat.add_zero]
 | a :: l=>by
  rw[jV,jV,jV,z0H,z0H,z0H,z6s f h l]
  have e:∀ a b c d:Rat,(a + b) + (c + d)=(a + c) + (b + d):=fun a b c d=>by rw[Rat.add_assoc,<- Rat.add_assoc b c d,Rat.add_comm b c,Rat.add_assoc c b d,<- Rat.add_assoc]
  exact e _ _ _ _
theorem z2F{α:Type}{f:α->Rat}:∀ {l:List α},(∀ a∈l,f a=0)->z1F (l.map f)=0
 | [],_=>rfl
 | a :: l,h=>by rw[jV,z0H,h a (by simp),z2F fun b hb=>h b (jK _ hb),Rat.add_zero]
theorem z9A{α:Type}(c:Rat)(f:α->Rat):∀ l:List α,z1F (l.map fun a=>c * f a)=c * z1F (l.map f)
 | []=>by rw[qE,qE,z9z,Rat.mul_zero]
 | a :: l=>by rw[jV,jV,z0H,z0H,z9A c f l,Rat.mul_add]
theorem z7q{α β:Type}(f:α->β->Rat):∀ (l:List α) (m:List β),z1F (l.map fun a=>z1F (m.map (f a)))=z1F (m.map fun b=>z1F (l.map fun a=>f a b))
 | [],m=>(z2F (fun _ _=>rfl)).symm
 | a :: l,m=>by
  rw[jV,z0H,z7q f l m,<- z6s]
  congr 1
  refine jo fun b _=>?_
  rw[jV,z0H]
theorem z6r{α:Type}[DecidableEq α]{f:α->Rat}{a:α}:∀ {l:List α},l.Nodup->a∈l->(∀ b∈l,b≠a->f b=0)->z1F (l.map f)=f a
 | b :: l,nd,ha,h=>by
  obtain⟨n1,n2⟩:=kI.mp nd
  rw[jV,z0H]
  by_cases e:b=a
  · subst e
    rw[z2F fun c hc=>h c (jK _ hc) fun z=>n1 (z ▸ hc),Rat.add_zero]
  · rw[h b (by simp) e,Rat.zero_add]
    exact z6r n2 ((jQ.mp ha).resolve_left fun z=>e z.symm) fun c hc=>h c (jK _ hc)
def pt(g:Str->Int)(n:Str)(v:Int):Str->Int:=fun m=>if m=n then v else g m
theorem z4P(g:Str->Int)(n:Str)(v:Int):pt g n v n=v:=if_pos rfl
theorem z5v{g:Str->Int}{n m:Str}{v:Int}(h:m≠n):pt g n v m=g m:=if_neg h
theorem y6j{g:Str->Int}{n m:Str}(h:n≠m)(v w:Int):pt (pt g n v) m w=pt (pt g m w) n v:=funext fun x=>by
 unfold pt
 by_cases e:x=m
 · rw[if_pos e,if_neg (fun z=>h (z.symm.trans e)),if_pos e]
 · rw[if_neg e,if_neg e]
theorem y9p{g:Str->Int}{n:Str}:pt g n (g n)=g:=funext fun x=>by
 unfold pt
 by_cases e:x=n
 · rw[if_pos e,e]
 · rw[if_neg e]
section
variable {ms:List Int}
def z4k(ms:List Int):List Str->((Str->Int)->Rat)->(Str->Int)->Rat
 | [],F,g=>F g
 | n :: ns,F,g=>z1F (ms.map fun v=>z4k ms ns F (pt g n v))
theorem z4A(n:Str)(F:(Str->Int)->Rat):∀ (ns:List Str) (g:Str->Int),z4k ms (ns ++ [n]) F g=z4k ms ns (fun h=>z1F (ms.map fun v=>F (pt h n v))) g
 | [],_=>rfl
 | m :: ns,g=>by
  show z1F (ms.map fun v=>z4k ms (ns ++ [n]) F (pt g m v))=z1F (ms.map fun v=>z4k ms ns _ (pt g m v))
  congr 1
  exact jo fun v _=>z4A n F ns _
theorem z9p(F:(Str->Int)->Rat):∀ (a b:List Str) (g:Str->Int),z4k ms (a ++ b) F g=z4k ms a (z4k ms b F) g
 | [],_,_=>rfl
 | n :: a,b,g=>by
  show z1F (ms.map fun v=>z4k ms (a ++ b) F (pt g n v))=_
  congr 1
  exact jo fun v _=>z9p F a b _
theorem z3I{F F':(Str->Int)->Rat}{ns:List Str}:∀ {g:Str->Int},(∀ h:Str->Int,(∀ m,m∉ns->h m=g m)->F h=F' h)->z4k ms ns F g=z4k ms ns F' g:=by
 induction ns with
 | nil=>intro g h;exact h g fun _ _=>rfl
 | cons n ns ih =>
  intro g h
  show z1F _=z1F _
  congr 1
  refine jo fun v _=>ih fun h' hh=>h h' fun m hm=>?_
  rw[hh m fun z=>hm (jK _ z),z5v fun z=>hm (by rw[z];exact jv ..)]
theorem z7b{F:(Str->Int)->Rat}{ns:List Str}{g:Str->Int}(h:∀ h:Str->Int,(∀ m,m∉ns->h m=g m)->F h=0):z4k ms ns F g=0:=by
 rw[z3I (F':=fun _=>0) h]
 have:∀ (ns:List Str) (g:Str->Int),z4k ms ns (fun _=>0) g=0:=fun ns=>by
  induction ns with
  | nil=>intro _;rfl
  | cons n ns ih=>intro g;exact z2F fun v _=>ih _
 exact this ns g
theorem z7d{F:(Str->Int)->Rat}{a b:List Str}(p:a.Perm b):a.Nodup->∀ g:Str->Int,z4k ms a F g=z4k ms b F g:=by
 induction p with
 | nil=>intro _ _;rfl
 | cons x _ ih =>
  intro nd g
  show z1F _=z1F _
  congr 1
  exact jo fun v _=>ih (kI.mp nd).2 _
 | swap x y l =>
  intro nd g
  have ne:y≠x:=fun z=>(kI.mp nd).1 (z ▸ jv ..)
  show z1F (ms.map fun v=>z1F (ms.map fun w=>z4k ms l F (pt (pt g y v) x w)))=z1F (ms.map fun w=>z1F (ms.map fun v=>z4k ms l F (pt (pt g x w) y v)))
  rw[z7q]
  congr 1
  refine jo fun w _=>?_
  congr 1
  exact jo fun v _=>by rw[y6j ne]
 | trans p1 _ ih1 ih2=>intro nd g;rw[ih1 nd g,ih2 (p1.nodup_iff.mp nd) g]
theorem z7c{F:(Str->Int)->Rat}(nd:ms.Nodup):∀ {l:List Str}{g:Str->Int},l.Nodup->(∀ n∈l,g n∈ms)->(∀ h:Str->Int,(∀ m,m∉l->h m=g m)->l.map h≠l.map g->F h=0)->z4k ms l F g=F g
 | [],_,_,_,_=>rfl
 | n :: l,g,hl,hg,hF=>by
  obtain⟨n1,n2⟩:=kI.mp hl
  have key:z1F (ms.map fun v=>z4k ms l F (pt g n v))=z4k ms l F (pt g n (g n)):=z6r (f:=fun v=>z4k ms l F (pt g n v)) nd (hg n (by simp)) fun v _ hv=>by
   refine z7b fun h hh=>hF h (fun m hm=>?_) fun e=>?_
   · rw[hh m fun z=>hm (jK _ z),z5v fun z=>hm (by rw[z];exact jv ..)]
   · have e1:h n=g n:=(List.cons.inj (show h n :: l.map h=g n :: l.map g from e)).1
     rw[hh n n1,z4P]at e1
     exact hv e1
  show z1F _=_
  rw[key,y9p]
  exact z7c nd n2 (fun m hm=>hg m (jK _ hm)) fun h hh he=>hF h (fun m hm=>hh m fun z=>hm (jK _ z)) fun e=>he (List.cons.inj (show h n :: l.map h=g n :: l.map g from e)).2
end
section
variable {pool:List Str}{ms:List Int}{D D1 D2 M M1 M2:Nat}
def vl(t:Tb)(g:Str->Int):Rat:=mass t.2 fun k=>decide (k=t.1.map g)
def hv(t:Tb)(g:Str->Int):Prop:=t.1.map g∈t.2.map (·.1)
theorem y3A{t:Tb}{g h:Str->Int}(e:∀ n∈t.1,g n=h n):vl t g=vl t h:=by unfold vl;rw[z0y.mpr e]
theorem z4w{t:Tb}{g h:Str->Int}(e:∀ n∈t.1,g n=h n):hv t g↔hv t h:=by unfold hv;rw[z0y.mpr e]
theorem z8g{t:Tb}{g:Str->Int}(h:¬ hv t g):vl t g=0:=z2J fun r hr=>decide_eq_false fun e=>h (by unfold hv;rw[<- e];exact kM hr)
theorem y7n{t:Tb}{g:Str->Int}(tm:Tm pool ms D M t.1 t.2)(ps:∀ r∈t.2,0 < r.2)(h:hv t g):0 < vl t g:=by
 obtain⟨r,hr,e⟩:=jN.mp h
 unfold vl
 rw[<- e,z3T (z1G tm.st) hr]
 exact ps r hr
theorem y4t{t:Tb}{g:Str->Int}(tm:Tm pool ms D M t.1 t.2)(h:hv t g){n:Str}(hn:n∈t.1):g n∈ms:=by
 obtain⟨r,hr,e⟩:=jN.mp h
 refine tm.v r hr _ ?_
 rw[e]
 exact kM hn
theorem Tm.few5{ns:List Str}{rs:List Rw}(t:Tm pool ms D M ns rs)(hp:pool.length<=5):ns.length<=5:=jY (List.Nodup.length_le_of_subset t.nd t.sub) hp
theorem z9h{m n:Nat}(h1:m<=3)(h2:n<=5):m ^ n<=243:=by
 rcases Nat.eq_zero_or_pos m with rfl | h0
 · cases n with
   | zero=>decide
   | succ n=>rw[Nat.zero_pow (Nat.succ_pos _)];decide
 · exact jY (Nat.pow_le_pow_left h1 n) (qC (by decide) h2)
theorem Tm.cnt5{ns:List Str}{rs:List Rw}(t:Tm pool ms D M ns rs)(hp:pool.length<=5)(hm:ms.length<=3):rs.length<=243:=by
 have:=z9O (ms:=ms) (n:=ns.length) (z1G t.st) fun k hk=>by
  obtain⟨r,hr,rfl⟩:=jN.mp hk
  exact⟨t.w r hr,t.v r hr⟩
 rw[jA]at this
 exact jY this (z9h hm (t.few5 hp))
theorem y4q{c t:Tb}(t1:Tm pool ms D1 M1 c.1 c.2)(t2:Tm pool ms D2 M2 t.1 t.2)(hp:pool.length<=5)(hm:ms.length<=3):(z2h c.1 c.2 t.1 t.2).length<=243:=by
 have sub:∀ n∈srt (c.1 ++ t.1),n∈pool:=fun n hn=>(jL.mp (z0u.mp hn)).elim (t1.sub n) (t2.sub n)
 have l5:(srt (c.1 ++ t.1)).length<=5:=jY (List.Nodup.length_le_of_subset (z4e _) sub) hp
 have:=z9O (ms:=ms) (n:=(srt (c.1 ++ t.1)).length) (z5O t1 t2) fun k hk=>by
  obtain⟨g,rfl,h1,h2⟩:=(z7J t1 t2).mp hk
  refine⟨jA _,fun z hz=>?_⟩
  obtain⟨n,hn,rfl⟩:=jN.mp hz
  rcases jL.mp (z0u.mp hn) with hn | hn
  · exact y4t t1 h1 hn
  · exact y4t t2 h2 hn
 rw[jA]at this
 exact jY this (z9h hm l5)
theorem y3T{c:Tb}{n:Str}{qs:List Rw}(tm:Tm pool ms D M c.1 c.2)(nd:ms.Nodup)(hn:n∈c.1)(p:IsP c.1 c.2 n qs):(∀ g,vl (wo c.1 n,qs) g=z1F (ms.map fun v=>vl c (pt g n v)))/\∀ g,hv (wo c.1 n,qs) g↔∃ v,hv c (pt g n v):=by
 have key:∀ r∈c.2,∀ g:Str->Int,pickN r.1 (plc c.1 (wo c.1 n))=(wo c.1 n).map g↔r.1=c.1.map (pt g n (asg c.1 r.1 n)):=fun r hr g=>by
  have e0:=z3U tm.nd (tm.w r hr)
  rw[z1o,z0y]
  constructor
  · intro h
    conv=>lhs;rw[<- e0]
    refine z0y.mpr fun m hm=>?_
    by_cases e:m=n
    · rw[e,z4P]
    · rw[z5v e];exact h m (z2W.mpr ⟨hm,e⟩)
  · intro h m hm
    obtain⟨m1,m2⟩:=z2W.mp hm
    have:=z0y.mp (e0.trans h) m m1
    rw[this,z5v m2]
 refine⟨fun g=>?_,fun g=>?_⟩
 · show mass qs (fun k=>decide (k=(wo c.1 n).map g))=_
   rw[p.m]
   have tv:∀ r∈c.2,asg c.1 r.1 n∈ms:=fun r hr=>tm.v r hr _ (y0e hn (tm.w r hr))
   have gen:∀ l:List Rw,(∀ r∈l,r∈c.2)->mass l (fun k=>decide (pickN k (plc c.1 (wo c.1 n))=(wo c.1 n).map g))=z1F (ms.map fun v=>mass l fun k=>decide (k=c.1.map (pt g n v))):=fun l=>by
    induction l with
    | nil=>intro _;exact (z2F fun _ _=>rfl).symm
    | cons r l ih =>
     intro hl
     have hr:=hl r (by simp)
     rw[z0z,ih fun x hx=>hl x (jK _ hx)]
     have e1:(ms.map fun v=>mass (r :: l) fun k=>decide (k=c.1.map (pt g n v)))=ms.map fun v=>(if decide (r.1=c.1.map (pt g n v))=true then r.2 else 0) + mass l fun k=>decide (k=c.1.map (pt g n v)):=jo fun v _=>z0z ..
     rw[e1,z6s]
     congr 1
     have e0:=z3U tm.nd (tm.w r hr)
     have un:∀ v,r.1=c.1.map (pt g n v)->v=asg c.1 r.1 n:=fun v e=>by
      have:=z0y.mp (e0.trans e) n hn
      rw[z4P]at this
      exact this.symm
     rw[z6r (a:=asg c.1 r.1 n) nd (tv r hr) fun v _ hv=>if_neg (by rw[decide_eq_true_eq];exact fun e=>hv (un v e))]
     by_cases e:r.1=c.1.map (pt g n (asg c.1 r.1 n))
     · rw[if_pos (decide_eq_true ((key r hr g).mpr e)),if_pos (decide_eq_true e)]
     · rw[if_neg (by rw[decide_eq_true_eq];exact fun z=>e ((key r hr g).mp z)),if_neg (by rw[decide_eq_true_eq];exact e)]
   exact gen c.2 fun _ h=>h
 · show (wo c.1 n).map g∈qs.map (·.1)↔_
   rw[p.k]
   constructor
   · rintro⟨k0,h0,e⟩
     obtain⟨r,hr,rfl⟩:=jN.mp h0
     refine⟨asg c.1 r.1 n,?_⟩
     show c.1.map _∈_
     rw[<- (key r hr g).mp e.symm]
     exact h0
   · rintro⟨v,h0⟩
     refine⟨_,h0,?_⟩
     rw[z1o]
     refine (z0y.mpr fun m hm=>?_).symm
     obtain⟨m1,m2⟩:=z2W.mp hm
     rw[z6T m1,z5v m2]
end
section
variable {pool:List Str}{ms:List Int}{D0 M0:Nat}
abbrev TW:=Tb×Nat×Nat
def TmW(pool:List Str)(ms:List Int)(D0 M0:Nat)(t:TW):Prop:=Tm pool ms (D0 ^ t.2.1) (M0 ^ t.2.1 * 243 ^ t.2.2) t.1.1 t.1.2
def sE(L:List TW):Nat:=(L.map fun t=>t.2.1).sum
def sP(L:List TW):Nat:=(L.map fun t=>t.2.2).sum
def prv:List TW->(Str->Int)->Rat
 | [],_=>1
 | t :: L,g=>vl t.1 g * prv L g
def hs(L:List TW)(g:Str->Int):Prop:=∀ t∈L,hv t.1 g
def nms(L:List TW)(n:Str):Prop:=∃ t∈L,n∈t.1.1
theorem z2E(t:TW)(L:List TW):sE (t :: L)=t.2.1 + sE L:=rfl
theorem z2D(t:TW)(L:List TW):sP (t :: L)=t.2.2 + sP L:=rfl
theorem y3J(L:List TW)(t:TW):sE (L ++ [t])=sE L + t.2.1/\sP (L ++ [t])=sP L + t.2.2:=by
 unfold sE sP
 rw[jT,jT,List.sum_append,List.sum_append]
 exact⟨by simp,by simp⟩
theorem z9o(p:TW->Bool):∀ L:List TW,sE (L.filter p) + sE (L.filter fun t => !p t)=sE L/\sP (L.filter p) + sP (L.filter fun t => !p t)=sP L
 | []=>⟨rfl,rfl⟩
 | t :: L=>by
  obtain⟨h1,h2⟩:=z9o p L
  cases h:p t with
  | true =>
   rw[kn h,ko (by rw[h];decide),z2E,z2E,z2D,z2D]
   exact⟨by omega,by omega⟩
  | false =>
   rw[ko (by rw[h];decide),kn (by rw[h];rfl),z2E,z2E,z2D,z2D]
   exact⟨by omega,by omega⟩
theorem y1Q(p:TW->Bool)(g:Str->Int):∀ L:List TW,prv L g=prv (L.filter fun t => !p t) g * prv (L.filter p) g
 | []=>(Rat.mul_one 1).symm
 | t :: L=>by
  have ih:=y1Q p g L
  show vl t.1 g * prv L g=_
  cases h:p t with
  | true =>
   rw[kn h,ko (by rw[h];decide),ih]
   show vl t.1 g * (_ * _)=_ * (vl t.1 g * _)
   rw[<- Rat.mul_assoc,Rat.mul_comm (vl t.1 g),Rat.mul_assoc]
  | false =>
   rw[ko (p:=p) (by rw[h];decide),kn (p:=fun t => !p t) (by rw[h];rfl),ih]
   show vl t.1 g * (_ * _)=(vl t.1 g * _) * _
   rw[Rat.mul_assoc]
theorem z8t(g:Str->Int)(t:TW):∀ L:List TW,prv (L ++ [t]) g=prv L g * vl t.1 g
 | []=>by show vl t.1 g * 1=1 * vl t.1 g;rw[Rat.mul_one,Rat.one_mul]
 | u :: L=>by show vl u.1 g * prv (L ++ [t]) g=vl u.1 g * prv L g * vl t.1 g;rw[z8t g t L,Rat.mul_assoc]
theorem z4p{g h:Str->Int}:∀ {L:List TW},(∀ n,nms L n->g n=h n)->prv L g=prv L h
 | [],_=>rfl
 | t :: L,e=>by
  show vl t.1 g * prv L g=vl t.1 h * prv L h
  rw[y3A fun n hn=>e n ⟨t,by simp,hn⟩,z4p (L:=L) fun n ⟨u,hu,hn⟩=>e n ⟨u,jK _ hu,hn⟩]
theorem z9R{g h:Str->Int}{L:List TW}(e:∀ n,nms L n->g n=h n):hs L g↔hs L h:=by
 unfold hs
 exact⟨fun z t ht=>(z4w fun n hn=>e n ⟨t,ht,hn⟩).mp (z t ht),fun z t ht=>(z4w fun n hn=>e n ⟨t,ht,hn⟩).mpr (z t ht)⟩
structure Bds (pool:List Str) (ms:List Int) (D0 M0:Nat):Prop where
 p5:pool.length<=5
 m3:ms.length<=3
 nd:ms.Nodup
 d0:0 < D0
 dl:D0<=2 ^ 210
 ml:M0<=2 ^ 210
theorem z9G{a e:Nat}(h:a<=2 ^ 210)(he:e<=8):a ^ e<=2 ^ 1680:=by
 have h1:a ^ e<=(2 ^ 210) ^ e:=Nat.pow_le_pow_left h e
 rw[<- Nat.pow_mul]at h1
 exact jY h1 (qC (by decide) (by omega))
theorem y6m{p:Nat}(h:p<=9):243 ^ p<=2 ^ 72:=by
 have h1:243 ^ p<=(2 ^ 8) ^ p:=Nat.pow_le_pow_left (by decide) p
 rw[<- Nat.pow_mul]at h1
 exact jY h1 (qC (by decide) (by omega))
theorem Bds.lt(b:Bds pool ms D0 M0){e p:Nat}(he:e<=8)(hp:p<=9):0 < D0 ^ e/\D0 ^ e < 2 ^ 2000/\M0 ^ e * 243 ^ p < 2 ^ 2000:=by
 refine⟨Nat.pow_pos b.d0,kF (z9G b.dl he) (Nat.pow_lt_pow_right (by decide) (by decide)),?_⟩
 refine kF (Nat.mul_le_mul (z9G b.ml he) (y6m hp)) ?_
 rw[<- Nat.pow_add]
 exact Nat.pow_lt_pow_right (by decide) (by decide)
theorem TmW.sz{t:TW}(b:Bds pool ms D0 M0)(h:TmW pool ms D0 M0 t)(he:t.2.1<=8)(hp:t.2.2<=8):∀ r∈t.1.2,Fd.sz r.2:=fun r hr=>by
 obtain⟨a1,a2,a3⟩:=b.lt (e:=t.2.1) (p:=t.2.2) he (by omega)
 exact (h.b r hr).sz a1 a2 a3
theorem y2E(b:Bds pool ms D0 M0){mo:Nat}(hmo:243<=mo){Qt:Tb->Prop}{Et:Prop}:∀ (ts:List TW) (c:TW),TmW pool ms D0 M0 c->(∀ t∈ts,TmW pool ms D0 M0 t)->c.2.1 + sE ts<=8->c.2.2 + sP ts<=8 ->
 (∀ T:Tb,TmW pool ms D0 M0 (T,c.2.1 + sE ts,c.2.2 + sP ts)->(∀ n,n∈T.1↔n∈c.1.1\/nms ts n)->(∀ g,vl T g=vl c.1 g * prv ts g)->(∀ g,hv T g↔hv c.1 g/\hs ts g)->Qt T)->JF mo Qt Et c.1 (ts.map (·.1))
 | [],c,hc,_,_,_,k=>k c.1 hc (fun n=>⟨.inl,fun z=>z.elim id fun⟨_,h,_⟩=>nomatch h⟩) (fun g=>(Rat.mul_one _).symm) fun g=>⟨fun z=>⟨z,fun _ h=>nomatch h⟩,fun z=>z.1⟩
 | t :: ts,c,hc,ht,he,hp,k=>by
  have t2:=ht t (by simp)
  rw[z2E]at he
  rw[z2D]at hp
  have jc:=y4q (c:=c.1) (t:=t.1) hc t2 b.p5 b.m3
  have n1:c.1.1.length<=5:=Tm.few5 hc b.p5
  have n2:t.1.1.length<=5:=Tm.few5 t2 b.p5
  have r1:c.1.2.length<=243:=Tm.cnt5 hc b.p5 b.m3
  have r2:t.1.2.length<=243:=Tm.cnt5 t2 b.p5 b.m3
  refine⟨⟨jY n1 (by decide),jY n2 (by decide),Tm.w hc,Tm.w t2,jY r1 (by decide),jY r2 (by decide),hc.sz b (by omega) (by omega),t2.sz b (by omega) (by omega),kF jc (by decide),z5O hc t2⟩,fun _ qs pm pw=>?_,fun hl=>absurd (jr hl jc) (by omega)⟩
  have jj:=y8w hc t2 pm pw
  have tj:TmW pool ms D0 M0 ((srt (c.1.1 ++ t.1.1),qs),c.2.1 + t.2.1,c.2.2 + t.2.2):=by
   have:=y6D hc t2 pm pw
   have e1:D0 ^ c.2.1 * D0 ^ t.2.1=D0 ^ (c.2.1 + t.2.1):=(Nat.pow_add ..).symm
   have e2:M0 ^ c.2.1 * 243 ^ c.2.2 * (M0 ^ t.2.1 * 243 ^ t.2.2)=M0 ^ (c.2.1 + t.2.1) * 243 ^ (c.2.2 + t.2.2):=by rw[Nat.pow_add,Nat.pow_add,Nat.mul_mul_mul_comm]
   rw[e1,e2]at this
   exact this
  refine y2E b hmo ts ((srt (c.1.1 ++ t.1.1),qs),c.2.1 + t.2.1,c.2.2 + t.2.2) tj (fun u hu=>ht u (jK _ hu)) (by show c.2.1 + t.2.1 + sE ts<=8;omega) (by show c.2.2 + t.2.2 + sP ts<=8;omega) fun T hT hn hvl hhv=>k T ?_ (fun n=>?_) (fun g=>?_) fun g=>?_
  · rw[z2E,z2D,<- Nat.add_assoc,<- Nat.add_assoc]
    exact hT
  · rw[hn n]
    show n∈srt (c.1.1 ++ t.1.1)\/_↔_
    rw[z0u,jL]
    constructor
    · rintro ((z | z) | ⟨u,hu,z⟩)
      · exact .inl z
      · exact .inr ⟨t,by simp,z⟩
      · exact .inr ⟨u,jK _ hu,z⟩
    · rintro (z | ⟨u,hu,z⟩)
      · exact .inl (.inl z)
      · rcases jQ.mp hu with rfl | hu
        · exact .inl (.inr z)
        · exact .inr ⟨u,hu,z⟩
  · rw[hvl g]
    show mass qs (fun k=>decide (k=(srt (c.1.1 ++ t.1.1)).map g)) * _=vl c.1 g * (vl t.1 g * prv ts g)
    rw[jj.m g,<- Rat.mul_assoc]
    rfl
  · rw[hhv g]
    have e:hv (srt (c.1.1 ++ t.1.1),qs) g↔hv c.1 g/\hv t.1 g:=by
     show (srt (c.1.1 ++ t.1.1)).map g∈qs.map (·.1)↔_
     rw[jj.k]
     constructor
     · rintro⟨g',e,h1,h2⟩
       have e:=z0y.mp e
       exact⟨(z4w fun n hn=>e n (z0u.mpr (jW _ hn))).mpr h1,(z4w fun n hn=>e n (z0u.mpr (jP _ hn))).mpr h2⟩
     · exact fun⟨h1,h2⟩=>⟨g,rfl,h1,h2⟩
    show hv (srt (c.1.1 ++ t.1.1),qs) g/\hs ts g↔_
    rw[e]
    exact⟨fun⟨⟨h1,h2⟩,h3⟩=>⟨h1,fun u hu=>(jQ.mp hu).elim (fun z=>z ▸ h2) (h3 u)⟩,fun⟨h1,h2⟩=>⟨⟨h1,h2 t (by simp)⟩,fun u hu=>h2 u (jK _ hu)⟩⟩
theorem y3j(b:Bds pool ms D0 M0){mo:Nat}(hmo:243<=mo){Qt:Tb->Prop}{Et:Prop}:∀ (ns:List Str) (L:List TW),L≠[]->(∀ t∈L,TmW pool ms D0 M0 t)->sE L<=8->sP L + ns.length<=8 ->
 (∀ T:Tb,(∃ e p,TmW pool ms D0 M0 (T,e,p))->(∀ n,n∈T.1↔nms L n/\n∉ns)->(∀ X:List Str,X.Nodup->(∀ x,x∈X↔x∈ns/\nms L x)->(∀ g,vl T g=z4k ms X (prv L) g)/\∀ g,hv T g↔∃ h:Str->Int,(∀ x,x∉X->h x=g x)/\hs L h)->Qt T)->AP mo Qt Et ns (L.map (·.1))
 | [],[],h,_,_,_,_=>absurd rfl h
 | [],t :: L,_,ht,he,hp,k=>by
  rw[z2E]at he
  rw[z2D]at hp
  refine y2E b hmo L t (ht t (by simp)) (fun u hu=>ht u (jK _ hu)) he (by simpa using hp) fun T hT hn hvl hhv=>k T ⟨_,_,hT⟩ (fun n=>?_) fun X _ hX=>?_
  · rw[hn n]
    constructor
    · rintro (z | ⟨u,hu,z⟩)
      · exact⟨⟨t,by simp,z⟩,kj⟩
      · exact⟨⟨u,jK _ hu,z⟩,kj⟩
    · rintro⟨⟨u,hu,z⟩,_⟩
      rcases jQ.mp hu with rfl | hu
      · exact .inl z
      · exact .inr ⟨u,hu,z⟩
  · have:X=[]:=List.eq_nil_iff_forall_not_mem.mpr fun x hx=>kj ((hX x).mp hx).1
    subst this
    refine⟨hvl,fun g=>?_⟩
    rw[hhv g]
    constructor
    · exact fun⟨h1,h2⟩=>⟨g,fun _ _=>rfl,fun u hu=>(jQ.mp hu).elim (fun z=>z ▸ h1) (h2 u)⟩
    · rintro⟨h,e,h1⟩
      have:h=g:=funext fun x=>e x kj
      subst this
      exact⟨h1 t (by simp),fun u hu=>h1 u (jK _ hu)⟩
 | n :: ns,L,hL,ht,he,hp,k=>by
  rw[jx]at hp
  have e1:(L.map (·.1)).filter (fun t=>decide (n∈t.1))=(L.filter fun t=>decide (n∈t.1.1)).map (·.1):=by rw[List.filter_map];rfl
  have e2:(L.map (·.1)).filter (fun t => !decide (n∈t.1))=(L.filter fun t => !decide (n∈t.1.1)).map (·.1):=by rw[List.filter_map];rfl
  obtain⟨f1,f2⟩:=z9o (fun t=>decide (n∈t.1.1)) L
  have mO:∀ t∈L.filter (fun t => !decide (n∈t.1.1)),t∈L/\n∉t.1.1:=fun t h=>by simpa using h
  have mH:∀ t∈L.filter (fun t=>decide (n∈t.1.1)),t∈L/\n∈t.1.1:=fun t h=>by simpa using h
  show (match (L.map (·.1)).filter (fun t=>decide (n∈t.1)) with | []=>AP mo Qt Et ns (L.map (·.1)) | h :: hr=>JF mo (fun c=>PuOk c n/\∀ qs:List Rw,qs.Perm (gath (plc c.1 (wo c.1 n)) c.2)->qs.Pairwise (fun p q=>HT.lexLt p.1 q.1=true)->AP mo Qt Et ns ((L.map (·.1)).filter (fun t => !decide (n∈t.1)) ++ [(wo c.1 n,qs)])) Et h hr)
  rw[e1,e2]
  have pf:=fun g=>y1Q (fun t=>decide (n∈t.1.1)) g L
  have hf:∀ g,hs L g↔hs (L.filter fun t => !decide (n∈t.1.1)) g/\hs (L.filter fun t=>decide (n∈t.1.1)) g:=fun g=>by
   refine⟨fun z=>⟨fun t h=>z t (mO t h).1,fun t h=>z t (mH t h).1⟩,fun⟨z1,z2⟩ t h=>?_⟩
   by_cases c:n∈t.1.1
   · exact z2 t (by simp[h,c])
   · exact z1 t (by simp[h,c])
  cases eh:L.filter (fun t=>decide (n∈t.1.1)) with
  | nil =>
   have no:¬ nms L n:=fun⟨t,h,z⟩=>by
    have:t∈L.filter (fun t=>decide (n∈t.1.1)):=by simp[h,z]
    rw[eh]at this;exact nomatch this
   refine y3j b hmo ns L hL ht he (by omega) fun T hT hn hX=>k T hT (fun m=>?_) fun X nX mX=>hX X nX fun x=>?_
   · rw[hn m,jQ,not_or]
     exact⟨fun z=>⟨z.1,fun e=>no (e ▸ z.1),z.2⟩,fun z=>⟨z.1,z.2.2⟩⟩
   · rw[mX x,jQ]
     exact⟨fun z=>⟨z.1.resolve_left fun e=>no (e ▸ z.2),z.2⟩,fun z=>⟨.inr z.1,z.2⟩⟩
  | cons h hr =>
   rw[eh]at f1 f2 mH
   rw[z2E]at f1
   rw[z2D]at f2
   have pf:=fun g=>(pf g).trans (by rw[eh])
   have hf:=fun g=>(hf g).trans (by rw[eh])
   refine y2E b hmo hr h (ht h (mH h (by simp)).1) (fun u hu=>ht u (mH u (jK _ hu)).1) (by omega) (by omega) fun c hc hcn hcv hch=>?_
   have nc:n∈c.1:=(hcn n).mpr (.inl (mH h (by simp)).2)
   have c5:c.1.length<=5:=Tm.few5 hc b.p5
   have cc:c.2.length<=243:=Tm.cnt5 hc b.p5 b.m3
   obtain⟨b1,b2,b3⟩:=b.lt (e:=h.2.1 + sE hr) (p:=h.2.2 + sP hr + 1) (by omega) (by omega)
   have b3':243 * (M0 ^ (h.2.1 + sE hr) * 243 ^ (h.2.2 + sP hr)) < 2 ^ 2000:=by
    rw[Nat.pow_succ,<- Nat.mul_assoc,Nat.mul_comm]at b3
    exact b3
   refine⟨⟨by omega,Tm.w hc,by omega,hc.sz b (by show h.2.1 + sE hr<=8;omega) (by show h.2.2 + sP hr<=8;omega),fun i g hg=>?_⟩,fun qs pm pw=>?_⟩
   · have:=z8K b1 (fun r hr'=>Tm.b hc r (kG hr')) g hg
     refine (this.mono (Nat.mul_le_mul_right _ (show _<=243 from ?_))).sz b1 b2 b3'
     exact jY (by rw[jS];exact Nat.min_le_right _ _) cc
   have ip:=y8v pm pw
   obtain⟨s1,s2⟩:=y3T hc b.nd nc ip
   have tp:=y6i hc b1 n cc pm pw
   have tw:TmW pool ms D0 M0 ((wo c.1 n,qs),h.2.1 + sE hr,h.2.2 + sP hr + 1):=by
    have e:243 * (M0 ^ (h.2.1 + sE hr) * 243 ^ (h.2.2 + sP hr))=M0 ^ (h.2.1 + sE hr) * 243 ^ (h.2.2 + sP hr + 1):=by rw[Nat.pow_succ,Nat.mul_comm,Nat.mul_assoc]
    have tp:Tm pool ms (D0 ^ (h.2.1 + sE hr)) (243 * (M0 ^ (h.2.1 + sE hr) * 243 ^ (h.2.2 + sP hr))) (wo c.1 n) qs:=tp
    rw[e]at tp
    exact tp
   obtain⟨u1,u2⟩:=y3J (L.filter fun t => !decide (n∈t.1.1)) ((wo c.1 n,qs),h.2.1 + sE hr,h.2.2 + sP hr + 1)
   have u1:sE ((L.filter fun t => !decide (n∈t.1.1)) ++ [((wo c.1 n,qs),h.2.1 + sE hr,h.2.2 + sP hr + 1)])=sE (L.filter fun t => !decide (n∈t.1.1)) + (h.2.1 + sE hr):=u1
   have u2:sP ((L.filter fun t => !decide (n∈t.1.1)) ++ [((wo c.1 n,qs),h.2.1 + sE hr,h.2.2 + sP hr + 1)])=sP (L.filter fun t => !decide (n∈t.1.1)) + (h.2.2 + sP hr + 1):=u2
   have nmL:∀ x,nms ((L.filter fun t => !decide (n∈t.1.1)) ++ [((wo c.1 n,qs),h.2.1 + sE hr,h.2.2 + sP hr + 1)]) x↔nms L x/\x≠n:=fun x=>by
    constructor
    · rintro⟨t,hm,z⟩
      rcases jL.mp hm with hm | hm
      · exact⟨⟨t,(mO t hm).1,z⟩,fun e=>(mO t hm).2 (e ▸ z)⟩
      · rw[jM.mp hm]at z
        obtain⟨z1,z2⟩:=z2W.mp z
        refine⟨?_,z2⟩
        rcases (hcn x).mp z1 with z | ⟨u,hu,z⟩
        · exact⟨h,(mH h (by simp)).1,z⟩
        · exact⟨u,(mH u (jK _ hu)).1,z⟩
    · rintro⟨⟨t,hm,z⟩,ne⟩
      by_cases c0:n∈t.1.1
      · refine⟨_,jP _ (jM.mpr rfl),z2W.mpr ⟨(hcn x).mpr ?_,ne⟩⟩
        have:t∈h :: hr:=by rw[<- eh];simp[hm,c0]
        rcases jQ.mp this with rfl | this
        · exact .inl z
        · exact .inr ⟨t,this,z⟩
      · exact⟨t,jW _ (by simp[hm,c0]),z⟩
   have em:(L.filter fun t => !decide (n∈t.1.1)).map (·.1) ++ [(wo c.1 n,qs)]=((L.filter fun t => !decide (n∈t.1.1)) ++ [((wo c.1 n,qs),h.2.1 + sE hr,h.2.2 + sP hr + 1)]).map (·.1):=by rw[jT];rfl
   rw[em]
   have nO:∀ (g:Str->Int) (v:Int) (m:Str),nms (L.filter fun t => !decide (n∈t.1.1)) m->g m=pt g n v m:=fun g v m ⟨t,hm,z⟩=>(z5v fun e=>(mO t hm).2 (by rw[<- e];exact z)).symm
   have pvL:∀ g,prv ((L.filter fun t => !decide (n∈t.1.1)) ++ [((wo c.1 n,qs),h.2.1 + sE hr,h.2.2 + sP hr + 1)]) g=z1F (ms.map fun v=>prv L (pt g n v)):=fun g=>by
    rw[z8t]
    show _ * vl (wo c.1 n,qs) g=_
    rw[s1 g,<- z9A]
    congr 1
    refine jo fun v _=>?_
    rw[pf,hcv,z4p (nO g v)]
    rfl
   have hsL:∀ g,hs ((L.filter fun t => !decide (n∈t.1.1)) ++ [((wo c.1 n,qs),h.2.1 + sE hr,h.2.2 + sP hr + 1)]) g↔∃ v,hs L (pt g n v):=fun g=>by
    have hc':∀ v,hv c (pt g n v)↔hs (h :: hr) (pt g n v):=fun v=>by
     rw[hch]
     exact⟨fun⟨a1,a2⟩ u hu=>(jQ.mp hu).elim (fun z=>z ▸ a1) (a2 u),fun a=>⟨a h (by simp),fun u hu=>a u (jK _ hu)⟩⟩
    constructor
    · intro z
      obtain⟨v,hv'⟩:=(s2 g).mp (z _ (jP _ (jM.mpr rfl)))
      exact⟨v,(hf _).mpr ⟨(z9R (nO g v)).mp fun t hm=>z t (jW _ hm),(hc' v).mp hv'⟩⟩
    · rintro⟨v,z⟩
      obtain⟨z1,z2⟩:=(hf _).mp z
      intro t hm
      rcases jL.mp hm with hm | hm
      · exact (z9R (nO g v)).mpr z1 t hm
      · rw[jM.mp hm]
        exact (s2 g).mpr ⟨v,(hc' v).mpr z2⟩
   refine y3j b hmo ns _ (by simp) (fun t hm=>?_) (by rw[u1];omega) (by rw[u2];omega) fun T hT hn hX=>k T hT (fun m=>?_) fun X nX mX=>?_
   · rcases jL.mp hm with hm | hm
     · exact ht t (mO t hm).1
     · rw[jM.mp hm];exact tw
   · rw[hn m,nmL m,jQ,not_or]
     exact⟨fun z=>⟨z.1.1,z.1.2,z.2⟩,fun z=>⟨⟨z.1,z.2.1⟩,z.2.2⟩⟩
   · have nX':n∈X:=(mX n).mpr ⟨by simp,h,(mH h (by simp)).1,(mH h (by simp)).2⟩
     have wx:=hX (wo X n) (nX.filter _) fun x=>by
      rw[z2W,mX x,nmL x,jQ]
      exact⟨fun⟨⟨z1,z2⟩,z3⟩=>⟨z1.resolve_left z3,z2,z3⟩,fun⟨z1,z2,z3⟩=>⟨⟨.inr z1,z2⟩,z3⟩⟩
     have pm2:X.Perm (wo X n ++ [n]):=by
      refine (List.perm_ext_iff_of_nodup nX ?_).mpr fun x=>?_
      · refine kY.mpr ⟨nX.filter _,(by simp),fun a ha b' hb e=>?_⟩
        rw[jM.mp hb]at e
        exact (z2W.mp ha).2 e
      · rw[jL,z2W,jM]
        constructor
        · intro z
          by_cases e:x=n
          · exact .inr e
          · exact .inl ⟨z,e⟩
        · rintro (z | z)
          · exact z.1
          · rw[z];exact nX'
     refine⟨fun g=>?_,fun g=>?_⟩
     · rw[wx.1 g,z7d pm2 nX g,z4A]
       exact z3I fun h' _=>pvL h'
     · rw[wx.2 g]
       constructor
       · rintro⟨h',e,z⟩
         obtain⟨v,z⟩:=(hsL h').mp z
         refine⟨_,fun x hx=>?_,z⟩
         have ne:x≠n:=fun e=>hx (e ▸ nX')
         rw[z5v ne]
         exact e x fun y=>hx (z2W.mp y).1
       · rintro⟨h',e,z⟩
         refine⟨pt h' n (g n),fun x hx=>?_,(hsL _).mpr ⟨h' n,?_⟩⟩
         · by_cases c0:x=n
           · rw[c0,z4P]
           · rw[z5v c0]
             exact e x fun y=>hx (z2W.mpr ⟨y,c0⟩)
         · have:pt (pt h' n (g n)) n (h' n)=h':=funext fun x=>by
            by_cases c0:x=n
            · rw[c0,z4P]
            · rw[z5v c0,z5v c0]
           rw[this];exact z
end
def bks(ms:List Int):Nat->List (List Int)
 | 0=>[[]]
 | j + 1=>(bks ms j).flatMap fun k=>ms.map fun v=>k ++ [v]
theorem z8S{ms:List Int}:∀ {j:Nat}{k:List Int},k∈bks ms j->k.length=j
 | 0,k,h=>by rw[jM.mp h];rfl
 | j + 1,k,h=>by
  obtain⟨k',h',hk⟩:=qA.mp h
  obtain⟨v,_,rfl⟩:=jN.mp hk
  rw[jG,z8S h'];rfl
theorem z8R(ms:List Int):∀ j,(bks ms j).length=ms.length ^ j
 | 0=>rfl
 | j + 1=>by
  have fl:∀ l:List (List Int),(l.flatMap fun k=>ms.map fun v=>k ++ [v]).length=l.length * ms.length:=fun l=>by
   induction l with
   | nil=>rw[List.flatMap_nil,qD,Nat.zero_mul]
   | cons a l ih=>rw[List.flatMap_cons,jG,jA,ih,jx,Nat.succ_mul,Nat.add_comm]
  show ((bks ms j).flatMap fun k=>ms.map fun v=>k ++ [v]).length=_
  rw[fl,z8R ms j,Nat.pow_succ]
theorem y3f{ms:List Int}{h:Str->Int}:∀ {R:List Str},(∀ n∈R,h n∈ms)->R.reverse.map h∈bks ms R.length
 | [],_=>jM.mpr rfl
 | n :: R,hm=>by
  rw[List.reverse_cons,jT]
  exact qA.mpr ⟨_,y3f fun m hm'=>hm m (jK _ hm'),jN.mpr ⟨h n,hm n (by simp),rfl⟩⟩
def ov(N:List Str)(k:List Int)(g:Str->Int):Str->Int:=fun n=>if n∈N then asg N k n else g n
theorem z7r{α β:Type}(f:α->List β)(h:β->Rat):∀ l:List α,z1F ((l.flatMap f).map h)=z1F (l.map fun a=>z1F ((f a).map h))
 | []=>rfl
 | a :: l=>by rw[List.flatMap_cons,jT,z4M,z7r f h l,jV,z0H]
theorem y3e{ms:List Int}(g:Str->Int):∀ (R:List Str) (F:(Str->Int)->Rat),R.Nodup->z1F ((bks ms R.length).map fun k=>F (ov R.reverse k g))=z4k ms R.reverse F g
 | [],F,_=>by
  show z1F [F (ov [] [] g)]=F g
  have:ov [] [] g=g:=funext fun n=>if_neg kj
  rw[this]
  show 0 + F g=F g
  exact Rat.zero_add _
 | n :: R,F,nd=>by
  obtain⟨n1,n2⟩:=kI.mp nd
  rw[List.reverse_cons,z4A,<- y3e g R _ n2,jx]
  show z1F (((bks ms R.length).flatMap fun k=>ms.map fun v=>k ++ [v]).map fun k=>F (ov (R.reverse ++ [n]) k g))=_
  rw[z7r]
  congr 1
  refine jo fun k hk=>?_
  rw[kh]
  congr 1
  refine jo fun v _=>?_
  show F (ov (R.reverse ++ [n]) (k ++ [v]) g)=F (pt (ov R.reverse k g) n v)
  congr 1
  have kl:k.length=R.reverse.length:=by rw[z8S hk,k6]
  funext m
  show (if m∈R.reverse ++ [n] then asg (R.reverse ++ [n]) (k ++ [v]) m else g m)=if m=n then v else (if m∈R.reverse then asg R.reverse k m else g m)
  by_cases e:m=n
  · subst e
    rw[if_pos rfl,if_pos (jP _ (jM.mpr rfl)),z5n kl,if_neg fun z=>n1 (List.mem_reverse.mp z)]
    unfold asg
    simp
  · rw[if_neg e]
    by_cases c:m∈R.reverse
    · rw[if_pos (jW _ c),if_pos c,z5n kl,if_pos c]
    · rw[if_neg (fun z=>(jL.mp z).elim c fun z=>e (jM.mp z)),if_neg c]
theorem z7E{p:List Int->Bool}{w:List Int->Rat}{q:List Int->Bool}:∀ l:List (List Int),mass ((l.filter p).map fun k=>(k,w k)) q=z1F (l.map fun k=>if q k=true then (if p k=true then w k else 0) else 0)
 | []=>rfl
 | k :: l=>by
  rw[jV,z0H,<- z7E l]
  cases h:p k with
  | true =>
   rw[kn h,jV,z0z]
   simp
  | false =>
   rw[ko (by rw[h];decide)]
   cases q k <;> simp[Rat.zero_add]
section
variable {pool:List Str}{ms:List Int}{D0 M0:Nat}
theorem z8s{g:Str->Int}:∀ {L:List TW},¬ hs L g->prv L g=0
 | [],h=>absurd (fun _ z=>nomatch z) h
 | t :: L,h=>by
  show vl t.1 g * prv L g=0
  by_cases c:hv t.1 g
  · rw[z8s (L:=L) fun z=>h fun u hu=>(jQ.mp hu).elim (fun e=>e ▸ c) (z u),Rat.mul_zero]
  · rw[z8g c,Rat.zero_mul]
theorem y1P{g:Str->Int}:∀ {L:List TW},(∀ t∈L,TmW pool ms D0 M0 t)->(∀ t∈L,∀ r∈t.1.2,0 < r.2)->hs L g->0 < prv L g
 | [],_,_,_=>by show (0:Rat) < 1;decide
 | t :: L,ht,hp,h=>Rat.mul_pos (y7n (ht t (by simp)) (hp t (by simp)) (h t (by simp))) (y1P (fun u hu=>ht u (jK _ hu)) (fun u hu=>hp u (jK _ hu)) fun u hu=>h u (jK _ hu))
def y5v(ms:List Int)(L:List TW)(N left:List Str):List Rw:=gath (plc N left) (((bks ms N.length).filter fun k=>decide (0 < prv L (asg N k))).map fun k=>(k,prv L (asg N k)))
theorem y8E(b:Bds pool ms D0 M0){L:List TW}{N ns left:List Str}{T:Tb}{qs:List Rw}(hL:∀ t∈L,TmW pool ms D0 M0 t)(ps:∀ t∈L,∀ r∈t.1.2,0 < r.2)(pwN:N.Pairwise ltS)(hN:∀ n,n∈N↔nms L n)(hl:left=N.filter fun n => !decide (n∈ns))
 (hT:∃ e p,TmW pool ms D0 M0 (T,e,p)) (hTn:∀ n,n∈T.1↔nms L n/\n∉ns) (hX:∀ X:List Str,X.Nodup->(∀ x,x∈X↔x∈ns/\nms L x)->(∀ g,vl T g=z4k ms X (prv L) g)/\∀ g,hv T g↔∃ h:Str->Int,(∀ x,x∉X->h x=g x)/\hs L h)
 (pm:qs.Perm (y5v ms L N left)) (st:qs.Pairwise fun p q=>HT.lexLt p.1 q.1=true):T=(left,qs):=by
 obtain⟨e0,p0,tm⟩:=hT
 have tm:Tm pool ms (D0 ^ e0) (M0 ^ e0 * 243 ^ p0) T.1 T.2:=tm
 have ml:∀ n,n∈left↔n∈N/\n∉ns:=fun n=>by rw[hl];simp
 have pl:left.Pairwise ltS:=by rw[hl];exact pwN.filter _
 have e1:T.1=left:=by
  have a:T.1=srt left:=y1p tm.pw fun k=>by rw[hTn,ml,hN]
  have c:left=srt left:=y1p pl fun k=>Iff.rfl
  rw[a,<- c]
 have ndN:N.Nodup:=z1u pwN
 obtain⟨X,xn,mX⟩:∃ X:List Str,X.Nodup/\∀ x,x∈X↔x∈ns/\nms L x:=⟨N.filter fun n=>decide (n∈ns),ndN.filter _,fun x=>by rw[<- hN];simp[And.comm]⟩
 obtain⟨hv1,hh1⟩:=hX X xn mX
 have lX:∀ n∈left,n∉X:=fun n hn z=>((ml n).mp hn).2 ((mX n).mp z).1
 have lN:∀ n∈left,n∈N:=fun n hn=>((ml n).mp hn).1
 have pN:N.Perm (left ++ X):=by
  refine (List.perm_ext_iff_of_nodup ndN (kY.mpr ⟨z1u pl,xn,fun a ha c hc e=>lX a ha (e ▸ hc)⟩)).mpr fun x=>?_
  rw[jL,ml,mX,<- hN]
  constructor
  · intro z
    by_cases c:x∈ns
    · exact .inr ⟨c,z⟩
    · exact .inl ⟨z,c⟩
  · rintro (z | z)
    · exact z.1
    · exact z.2
 obtain⟨f1,f2,f3⟩:=z2i (plc N left) _ (((bks ms N.length).filter fun k=>decide (0 < prv L (asg N k))).map fun k=>(k,prv L (asg N k))) rfl
 have hk:∀ k,k∈T.2.map (·.1)↔k∈qs.map (·.1):=fun k=>by
  rw[(pm.map _).mem_iff]
  unfold y5v
  rw[f2]
  constructor
  · intro z
    have ek:=z9Q tm z
    rw[ek]at z
    obtain⟨h,hh,hs'⟩:=(hh1 _).mp z
    have hm:∀ n∈N,h n∈ms:=fun n hn=>by
     obtain⟨t,ht,z⟩:=(hN n).mp hn
     exact y4t (hL t ht) (hs' t ht) z
    have kb:N.map h∈bks ms N.length:=by
     have:=y3f (ms:=ms) (h:=h) (R:=N.reverse) fun n hn=>hm n (List.mem_reverse.mp hn)
     rw[List.reverse_reverse,k6]at this
     exact this
    have ep:prv L (asg N (N.map h))=prv L h:=z4p fun n hn=>z6T ((hN n).mpr hn)
    refine⟨(N.map h,prv L (asg N (N.map h))),jN.mpr ⟨N.map h,ju.mpr ⟨kb,decide_eq_true (by rw[ep];exact y1P hL ps hs')⟩,rfl⟩,?_⟩
    rw[ek,z1o,e1]
    refine z0y.mpr fun n hn=>?_
    rw[z6T (lN n hn),hh n (lX n hn),e1]
  · rintro⟨r,hr,rfl⟩
    obtain⟨kb,hkb,rfl⟩:=jN.mp hr
    have pp:=of_decide_eq_true (ju.mp hkb).2
    have hs':hs L (asg N kb):=Classical.byContradiction fun z=>by
     rw[z8s z]at pp
     exact absurd pp (by decide)
    have:=(hh1 (asg N kb)).mpr ⟨_,fun _ _=>rfl,hs'⟩
    unfold hv at this
    rw[e1]at this
    show pickN kb (plc N left)∈_
    rw[z1o]
    exact this
 refine Prod.ext e1 (y5H tm.st st hk fun k=>?_)
 by_cases c:k∈T.2.map (·.1)
 · have ek:=z9Q tm c
   generalize asg T.1 k=g at ek
   have gm:∀ n∈left,g n∈ms:=fun n hn=>by
    rw[ek]at c
    exact y4t (t:=T) tm c (by rw[e1];exact hn)
   have v1:mass T.2 (fun x=>decide (x=k))=z4k ms X (prv L) g:=by rw[ek];exact hv1 g
   rw[v1,z4W pm]
   unfold y5v
   rw[f3,z7E]
   have F:∀ kb∈bks ms N.length,(if decide (pickN kb (plc N left)=k)=true then (if decide (0 < prv L (asg N kb))=true then prv L (asg N kb) else 0) else 0)=(fun h:Str->Int=>if left.map h=left.map g then prv L h else 0) (ov N kb g):=fun kb _=>by
    have ea:∀ n∈N,ov N kb g n=asg N kb n:=fun n hn=>if_pos hn
    have e2:prv L (ov N kb g)=prv L (asg N kb):=z4p fun n hn=>ea n ((hN n).mpr hn)
    have e3:left.map (ov N kb g)=left.map (asg N kb):=z0y.mpr fun n hn=>ea n (lN n hn)
    show _=if left.map (ov N kb g)=left.map g then prv L (ov N kb g) else 0
    rw[e2,e3,z1o,ek,e1]
    by_cases c1:left.map (asg N kb)=left.map g
    · rw[if_pos (decide_eq_true c1),if_pos c1]
      by_cases c2:0 < prv L (asg N kb)
      · rw[if_pos (decide_eq_true c2)]
      · rw[if_neg (by rw[decide_eq_true_eq];exact c2)]
        have:¬ hs L (asg N kb):=fun z=>c2 (y1P hL ps z)
        rw[z8s this]
    · rw[if_neg (by rw[decide_eq_true_eq];exact c1),if_neg c1]
   rw[jo F]
   have bs:=y3e (ms:=ms) g N.reverse (fun h:Str->Int=>if left.map h=left.map g then prv L h else 0) ((List.reverse_perm N).nodup_iff.mpr ndN)
   rw[List.reverse_reverse,k6]at bs
   rw[bs,z7d pN ndN,z9p,z7c b.nd (z1u pl) gm fun h hh he=>z7b fun h' hh'=>if_neg fun z=>he (by
    rw[<- z]
    exact z0y.mpr fun n hn=>(hh' n (lX n hn)).symm)]
   exact (z3I fun h hh=>if_pos (z0y.mpr fun n hn=>hh n (lX n hn))).symm
 · rw[z2J fun r hr=>decide_eq_false (fun z:r.1=k=>c (by rw[<- z];exact kM hr)),z2J fun r hr=>decide_eq_false (fun z:r.1=k=>c ((hk k).mpr (by rw[<- z];exact kM hr)))]
end
section
variable {H0:Hp}{σ:St}{te tk:TE}{ds:List D}{k:Nat}
end
theorem y9G{sp:Sp}{E':XK}{Q:VK}{σ:St}{H:Hp}{te te':TE}{d d':D}(h:MkD H σ te d)(h':MkD H σ te' d')(k:∀ v v' H',Same H H'->IsD [] H' d v->IsD [] H' d' v'->sp [v,v'] H' Q E'):y0q sp [] E' (z2w te (z2w te' y0p)) σ H Q:=h H (Same.refl _) _ fun v H1 s1 dv=>h' H1 s1 _ fun v' H2 s2 dv'=>k v v' H2 (s1.trans s2) (dv.same s2) dv'
theorem y1C{te:TE}{i:Nat}{u:TS}{D':Ends}{σ:St}{H:Hp}(h:te σ H (fun v H'=>u D' (σ.set i (some v)) H')):y7f (y1m te (z0Y i)) u D' σ H:=h
theorem z3R{H0:Hp}{σ:St}{a:Addr}{ns:List Int}{k:Int}(hv:σ[0]? = some (some (.ref a)))(hS:SqL K H0 a (ns.map V.int))(hk:0<=k):MkD H0 σ (y0q (z6h (K:=K)) [] E0 (z2w (y0Z 0) (z2w (tC (.int k)) y0p))) (.int (cell ns k)):=fun _ s _ q=>⟨_,hv,a,ns,k,rfl,s.seq hS,hk,q _ _ (Same.refl _) rfl⟩
theorem y2r{K':PySem.W.Frag}{H0:Hp}{σ:St}{j:Nat}{a:Addr}{xs:List V}{tb:TE}{i:Int}{v:V}{d:D}(hv:σ[j]? = some (some (.ref a)))(hS:SqL K' H0 a xs)(hb:MkD H0 σ tb (.int i))(hi:atI xs i=some v)(dv:∀ H,Same H0 H->IsD [] H d v):MkD H0 σ (tOp (rIx K') (y0Z j) tb) d:=fun H s Q q=>⟨_,hv,hb H s _ fun w H1 s1 dw => .inl ⟨a,xs,i,v,rfl,dw,(s.trans s1).seq hS,hi,q _ _ s1 (dv _ (s.trans s1))⟩⟩
theorem z3k{t:TS}{D':Ends}{σ σ':St}{H:Hp}(e:σ=σ')(h:t D' σ' H):t D' σ H:=e ▸ h
theorem z5T{a b:Int}(ha:0 < a)(hb:0 < b):(0:Rat) < Rat.divInt a b:=by
 rw[Rat.divInt_eq_div,Rat.div_def]
 exact Rat.mul_pos (Rat.intCast_pos.mpr ha) (Rat.inv_pos.mpr (Rat.intCast_pos.mpr hb))
theorem in5(d:Int)(pool:List Str)(h:5<=pool.length):∃ n,atI (pool.map V.str) (d % 5)=some (.str n)/\n∈pool.take 5:=by
 obtain⟨j,ej,j5⟩:∃ j:Nat,d % 5=(j:Int)/\j < 5:=⟨(d % 5).toNat,by omega,by omega⟩
 have hj:j < pool.length:=by omega
 refine⟨pool[j],?_,?_⟩
 · rw[ej];exact z3f (by rw[jF,jD hj];rfl)
 · exact jk (i:=j) (by rw[ka j5,jD hj])
def TbG(K:PySem.W.Frag)(H:Hp)(tl:Addr)(pool:List Str)(ms:List Int)(D:Nat)(q:V×Tb):Prop:=∃ p k,q.1 = .ref p/\k≠tl/\TJ K H p k q.2.1 q.2.2/\Tm pool ms D (210 * 10 ^ 60) q.2.1 q.2.2/\(∀ r∈q.2.2,0 < r.2)/\q.2.1≠[]
def y1s(K:PySem.W.Frag):Sp:=fun vs H Q _=>∃ (a pa m:Addr) (ns ms:List Int) (pool:List Str),vs=[.ref a,.ref pa,.ref m]/\SqL K H a (ns.map V.int)/\ns.length<=63/\SqL K H pa (pool.map V.str)/\5<=pool.length/\SqL K H m (ms.map V.int)/\1<=ms.length/\ms.length<=3 /\
 ∀ (tl:Addr) (z:List (V×Tb)) (D:Nat) H',Same H H'->H tl=none->H' tl=some (.lst (z.map (·.1)))->1<=z.length->z.length<=8->0 < D->D<=42 * 10 ^ 60->(∀ q∈z,TbG K H' tl (pool.take 5) ms D q)->Q (.ref tl) H'
theorem y6p(B:Bl mg)(z0s:Def P w K mg base "_law_cell_at" 1 ["_law_script", "_law_k"] (z6h (K:=K)))(z4b:Def P w K mg base "_law_low" 2 ["_law_top", "_law_bottom"] (y1x K))
 (z5r:Def P w K mg base "_law_table" 2 ["_law_cells", "_law_names", "_law_menu_here", "_law_great"] (z9t K)) (F:Fn K mg "_law_tables" z2b ["_law_script", "_law_pool", "_law_menu_here"]):Def P w K mg base "_law_tables" 3 ["_law_script", "_law_pool", "_law_menu_here"] (y1s K):=by
 refine F.ok z0L (fun vs H Q E h=>?_) (fun f cdv A outer s H vs Q E hr h=>?_)
 · obtain⟨a,pa,m,ns,ms,pool,rfl,_⟩:=h;rfl
 obtain⟨a,pa,m,ns,ms,pool,rfl,hS,hl,hP,p5,hM,l1,l3,q⟩:=h
 have big:(1000:Nat) < sizeLine:=by decide
 refine⟨_,(@z0c _ _ _ _ _ (z0l (i:=3) z0L.nd rfl (by first | exact Or.inl rfl | exact Or.inr rfl) (z0p z4b hr rfl (@z0b _ _ _ _ _ (z0m z1j z0d (z0m z0E (z0p z0s hr rfl (@z0b _ _ _ _ _ (pv 0) (@z0b _ _ _ _ _ z0d z0f rfl) rfl)) (z0m z9H z0d z0d))) (@z0b _ _ _ _ _ (z0m z1j z0d (z0m z0E (z0p z0s hr rfl (@z0b _ _ _ _ _ (pv 0) (@z0b _ _ _ _ _ z0d z0f rfl) rfl)) (z0m z9H z0d z0d))) z0f rfl) rfl)))
  (@z0c _ _ _ _ _ (z0l (i:=4) z0L.nd rfl (by first | exact Or.inl rfl | exact Or.inr rfl) (z1V (z2n K rfl) (pv 0) (z2H z0d) z2I))
  (@z0c _ _ _ _ _ (z0l (i:=5) z0L.nd rfl (by first | exact Or.inl rfl | exact Or.inr rfl) (z0m z1j z0d (z0m z0E (z0p z0s hr rfl (@z0b _ _ _ _ _ (pv 0) (@z0b _ _ _ _ _ z0d z0f rfl) rfl)) z0d)))
  (@z0c _ _ _ _ _ (@z2o _ 6 _ _ _ _ _ z0L.nd rfl (by first | exact Or.inl rfl | exact Or.inr rfl) (@z4S _ _) rfl (by first | exact .inl rfl | exact .inr rfl))
  (@z0c _ _ _ _ _ (z1U PassesOwn.never rfl (z3r rfl B.range (@z0b _ _ _ _ _ (pv 5) z0f rfl)) (z0v (i:=7) z0L.nd rfl (by first | exact Or.inl rfl | exact Or.inr rfl)) (@z0c _ _ _ _ _ (z0l (i:=8) z0L.nd rfl (by first | exact Or.inl rfl | exact Or.inr rfl) (z0m z0E (z0m z0S (z0m z1j (z0m z1j (z0m z1N (z0p z0s hr rfl (@z0b _ _ _ _ _ (pv 0) (@z0b _ _ _ _ _ z0d z0f rfl) rfl)) z0d) (z0m z0S (pv 7) (pv 7))) z0d) z0d) z0d))
  (@z0c _ _ _ _ _ (@z2o _ 9 _ _ _ _ _ z0L.nd rfl (by first | exact Or.inl rfl | exact Or.inr rfl) (@y6n _ _ _ _ _ _ _ _ (z0q (z0i K rfl) (pv 1) (z0m z0E (pv 8) z0d) (fun _ _=>rfl)) (z0q (z0i K rfl) (pv 1) (z0m z0E (z0m z1N (pv 8) z0d) z0d) (fun _ _=>rfl)) (z0q (z0i K rfl) (pv 1) (z0m z0E (z0m z1N (pv 8) z0d) z0d) (fun _ _=>rfl)) rfl rfl rfl) rfl (by first | exact .inl rfl | exact .inr rfl))
  (@z0c _ _ _ _ _ (z3a (j:=10) z0L.nd rfl rfl (CompOk.of (x := "_law_k") (M:=["_law_cells", "_law_turn", "_law_many"]) (ix:=[4,7,5]) rfl rfl (by decide +kernel) (by decide +kernel) rfl ⟨rfl,⟨rfl,⟨rfl,trivial⟩⟩⟩ (by rfl) ⟨⟨rfl,rfl,rfl,rfl⟩,⟨⟨rfl,rfl,rfl,rfl⟩,⟨⟨rfl,rfl,rfl,rfl⟩,trivial⟩⟩⟩) rfl (by decide +kernel) (z3r rfl B.range (@z0b _ _ _ _ _ (z0W (z1x K rfl) rfl B.len PySem.boot_len (@z0b _ _ _ _ _ (pv 4) z0f rfl)) z0f rfl)) (fun _ _ _ _ _=>(z3N (z0B z3u (z0m z0E (pv 0) (pv 3)) (pv 2) (z1f _)))) (fun _ _ _ _ _=>(z0q (z0i K rfl) (pv 1) (pv 0) (fun _ _=>rfl))))
  (@z0h _ _ _ (z2p (z6A PySem.F.plainAttrs_list PySem.F.slot_list_append PySem.F.type_list_append z1h (pv 6) (@z0b _ _ _ _ _ (z0p z5r hr rfl (@z0b _ _ _ _ _ (pv 10) (@z0b _ _ _ _ _ (z3P K rfl rfl rfl B.sorted PyProof.Rows.boot_sorted rfl B.set PyProof.Rows.boot_set (pv 9)) (@z0b _ _ _ _ _ (pv 2) (@z0b _ _ _ _ _ (pv 3) z0f rfl) rfl) rfl) rfl)) z0f rfl))))))))
  (@z0h _ _ _ (@z2G _ _ _ _ (pv 6)))))))),?_⟩
 walk_at "rd"
 have e12:(10:Int) ^ Int.toNat 12=10 ^ 12:=rfl
 obtain⟨T,T1,T2,eT⟩:∃ T:Int,1<=T/\T<=10 ^ 12/\1 + cell ns 2 % 10 ^ Int.toNat 12=T:=⟨_,by rw[e12];omega,by rw[e12];omega,rfl⟩
 obtain⟨Bt,B1,B2,eB⟩:∃ Bt:Int,0 < Bt/\Bt<=10 ^ 12/\1 + cell ns 3 % 10 ^ Int.toNat 12=Bt:=⟨_,by rw[e12];omega,by rw[e12];omega,rfl⟩
 rw[eT,eB]
 have Bz:Bt.natAbs < 2 ^ 8000:=jr (show Bt.natAbs < 2 ^ 250 by omega) (qC (by decide) (by decide))
 have sgr:Shr Bt 1 (Rat.divInt T Bt):=by
  refine⟨(42 * T).toNat,by omega,?_,by omega⟩
  rw[Int.toNat_of_nonneg (by omega),Rat.divInt_mul_left (by decide)]
 refine⟨Bz,fun pg H4 s4 ng dg=>?_⟩
 have hS4:=s4.seq hS
 dsimp only[z0Y]
 refine⟨_,rfl,_,rfl,a,_,rfl,hS4,fun ps nps=>?_⟩
 rw[show z5y (ns.map V.int) (some 7) none=(ns.drop 7).map V.int from y4G ns 7]
 have s6:=z0e nps (.lst ((ns.drop 7).map V.int))
 have qps:upd H4 ps (.lst ((ns.drop 7).map V.int)) ps=some (.lst ((ns.drop 7).map V.int)):=z0a
 have hS6:=s6.seq hS4
 have dg6:=dg.same s6
 have sH6:=s4.trans s6
 have hP6:=sH6.seq hP
 have hM6:=sH6.seq hM
 generalize upd H4 ps (.lst ((ns.drop 7).map V.int))=H6 at qps hS6 dg6 sH6 hP6 hM6 ⊢
 have ld:(ns.drop 7).length<=58:=by rw[js];omega
 generalize ns.drop 7=cs at qps ld ⊢
 obtain⟨M,eM,M1,M8⟩:∃ M:Nat,1 + cell ns 1 % 8=(M:Int)/\1<=M/\M<=8:=⟨(1 + cell ns 1 % 8).toNat,by omega,by omega,by omega⟩
 dsimp only[z0Y]
 refine z5H (d := .int (M:Int)) (by rw[<- eM];exact y6A z1W (y0B (z3R rfl hS6 (by decide)) z1W (by decide) fun _=>rfl) fun _=>rfl) (fun v H8 s8 dv=>?_)
 have dv:v = .int (M:Int):=dv
 subst dv
 have qps:=s8 _ _ qps
 have hS6:=s8.seq hS6
 have dg6:=dg6.same s8
 have hP6:=s8.seq hP6
 have hM6:=s8.seq hM6
 have sH6:=sH6.trans s8
 clear s8 s6
 generalize H8=H6 at *
 refine⟨by show 0<=sizeLine;decide,fun tl ftl=>?_⟩
 refine z3k (σ':=[some (.ref a),some (.ref pa),some (.ref m),some (.ref pg),some (.ref ps),some (.int (M:Int)),some (.ref tl),none,none,none,none]) rfl ?_
 refine⟨_,rfl,_,rfl,by omega,by omega,?_⟩
 refine z7P (n:=M) (fun i σ H'=>Same H6 H'/\∃ (z:List (V×Tb)) (c7 c8 c9 c10:Option V),σ=[some (.ref a),some (.ref pa),some (.ref m),some (.ref pg),some (.ref ps),some (.int (M:Int)),some (.ref tl),c7,c8,c9,c10]/\H' tl=some (.lst (z.map (·.1)))/\z.length=i/\∀ q∈z,TbG K H' tl (pool.take 5) ms (42 * Bt).toNat q)
  ⟨z0e ftl _,[],none,none,none,none,rfl,z0a,rfl,fun x h=>nomatch h⟩ ?_ ?_
 · rintro i σ H7 hi ⟨s7,z,c7,c8,c9,c10,rfl,etl,lz,hz⟩
   obtain⟨dl,edl⟩:∃ dl:Int,(cell ns 1 / 8 + (0 + (i:Int)) * (0 + (i:Int)) + 1) * 48271 % 2147483647=dl:=⟨_,rfl⟩
   refine z3k (σ':=[some (.ref a),some (.ref pa),some (.ref m),some (.ref pg),some (.ref ps),some (.int (M:Int)),some (.ref tl),some (.int (0 + (i:Int))),c8,c9,c10]) rfl ?_
   have hS7:=s7.seq hS6
   have hP7:=s7.seq hP6
   refine z5H (d := .int dl) (by rw[<- edl];exact y0B (y0B (y6A (y6A (y0B (z3R rfl hS7 (by decide)) z1W (by decide) fun _=>rfl) (y0B (z4V rfl) (z4V rfl) (z3d (m:=8) (n:=8) (by omega) (by omega) (by decide)) fun _=>rfl) fun _=>rfl) z1W fun _=>rfl) z1W (IntMulOk.of_right (by decide)) fun _=>rfl) z1W (by decide) fun _=>rfl) (fun v H8 s8 dv=>?_)
   have dv:v = .int dl:=dv
   subst dv
   obtain⟨n0,x0,m0⟩:=in5 dl pool p5
   obtain⟨n1,x1,m1⟩:=in5 (dl / 5) pool p5
   obtain⟨n2,x2,m2⟩:=in5 (dl / 25) pool p5
   have hP8:=s8.seq hP7
   refine z5H (d := .lst [.str n0,.str n1,.str n2]) (y5n (z4s (y2r rfl hP8 (y0B (z4V rfl) z1W (by decide) fun _=>rfl) x0 fun _ _=>rfl) (z4s (y2r rfl hP8 (y0B (y0B (z4V rfl) z1W (by decide) fun _=>rfl) z1W (by decide) fun _=>rfl) x1 fun _ _=>rfl) (z4s (y2r rfl hP8 (y0B (y0B (z4V rfl) z1W (by decide) fun _=>rfl) z1W (by decide) fun _=>rfl) x2 fun _ _=>rfl) y2p))) (z9V (Nat.le_of_ble_eq_true rfl))) (fun v H9 s9 dv=>?_)
   obtain⟨pk,ys,rfl,sq,dys⟩:=dv
   rw[z3B (ns:=[n0,n1,n2]) dys]at sq
   have s79:=s8.trans s9
   have s69:=s7.trans s79
   refine z3k (σ':=[some (.ref a),some (.ref pa),some (.ref m),some (.ref pg),some (.ref ps),some (.int (M:Int)),some (.ref tl),some (.int (0 + (i:Int))),some (.int dl),some (.ref pk),c10]) rfl ?_
   have lcs:((cs.map V.int).length:Nat)=cs.length:=jA _
   have qcs:H9 ps=some (.lst (cs.map V.int)):=s69 _ _ qps
   refine z3F ⟨_,rfl,_,cs.length,rfl,.inl ⟨_,.of qcs,lcs.symm⟩,_,rfl,by omega,by omega,?_⟩
   refine z7R cs.length (fun k => .int (0 + (k:Nat))) (by omega) (fun k Da ys H2=>Same H9 H2/\H9 Da=none/\H2 Da=some (.lst ys)/\ys.length<=k/\∃ zs:List Int,ys=zs.map V.int)
    (fun Da f=>⟨z0e f _,f,z0a,jE _,[],rfl⟩) (fun k Da ys H2 h=>h.2.2.2.1) (fun Da ys H2 h=>jE _) (fun k Da ys H2 hk h=>⟨hk,fun x H3 hy=>⟨hy.2,hy.1⟩⟩) (fun k Da ys H2 R hk h hR=>?_) (fun σ H Q Q' hq z=>x0e x0f (y4m _) (y4m _) σ H Q Q' hq z) (fun ml ys H2 h=>?_)
   · obtain⟨s2',fD,hD,ly,zs,rfl⟩:=h
     obtain⟨z,ez⟩:∃ z,cs[k]? = some z:=⟨_,jD hk⟩
     refine⟨_,rfl,_,rfl,_,_,rfl,rfl,(by show (0:Int) < (M:Int);omega),_,rfl,_,_,rfl,rfl,_,rfl,hR _ H2 (fun _=>?_) fun _=>⟨s2',fD,hD,by omega,zs,rfl⟩⟩
     refine⟨_,rfl,_,rfl,.inl ⟨ps,_,_,.int z,rfl,rfl,.of (s2' _ _ qcs),by rw[Int.zero_add];exact z3f (by rw[jF,ez];rfl),hD,z0o fD s2',fD,z0a,by rw[jG];show (zs.map V.int).length + 1<=k + 1;omega,zs ++ [z],by rw[jT];rfl⟩⟩
   · obtain⟨s2',fD,hD,ly,zs,rfl⟩:=h
     rw[jA]at ly
     have s62:=s69.trans s2'
     have s72:=s79.trans s2'
     have etl2:=s72 _ _ etl
     refine⟨_,rfl,.inl ⟨rfl,_,.of etl2⟩,_,rfl,_,rfl,pk,[n0,n1,n2],rfl,.inl (sq0 (s2'.seq sq)),(by show 3<=4000;decide),(fun ks nd sub=>kF (List.Nodup.length_le_of_subset nd sub) (by show 3 < 64;decide)),fun nl ss fnl mss pws=>?_⟩
     have tss:=z0e fnl (.lst (ss.map V.str))
     have ess:(upd H2 nl (.lst (ss.map V.str))) nl=some (.lst (ss.map V.str)):=z0a
     generalize upd H2 nl (.lst (ss.map V.str))=H3 at tss ess ⊢
     have ndS:=z1u pws
     have l4:ss.length<=3:=List.Nodup.length_le_of_subset ndS fun k hk=>(mss k).mp hk
     have s63:=s62.trans tss
     have s73:=s72.trans tss
     have etl3:=tss _ _ etl2
     refine⟨_,rfl,_,rfl,ml,nl,m,pg,zs,ms,ss,Bt,Rat.divInt T Bt,rfl,.of (tss _ _ hD),by omega,.of ess,by omega,s63.seq hM6,l1,l3,dg6.same s63,B1,by omega,sgr,fun pt v l rs H8 s8' fl ept tz dl' jj ok=>?_⟩
     have etl8:=s8' _ _ etl3
     have ltl:l≠tl:=fun z=>by rw[z,etl3]at fl;cases fl
     have s78:=s73.trans s8'
     refine⟨tl,z.map (·.1),_,rfl,rfl,etl8,by rw[jA];omega,z0o ftl (s63.trans s8'),z ++ [(.ref pt,(ss,rs))],_,_,_,_,rfl,by rw[z0a,jT];rfl,by rw[jG,lz];rfl,fun q' hq'=>?_⟩
     rcases jL.mp hq' with hq' | hq'
     · obtain⟨p',k',h1,h2,h3,h4⟩:=hz q' hq'
       exact⟨p',k',h1,h2,(h3.same s78).updL etl8 h2,h4⟩
     · rw[jM.mp hq']
       have sub5:∀ n∈ss,n∈pool.take 5:=fun n hn=>by
        have:=(mss n).mp hn
        simp only[jQ,kj,or_false]at this
        rcases this with rfl | rfl | rfl
        · exact m0
        · exact m1
        · exact m2
       refine⟨pt,l,rfl,ltl,TJ.updL ⟨⟨v,.of ept,tz,dl'⟩,jj⟩ etl8 ltl,y8X B1 pws sub5 ok,fun r hr'=>?_,fun z0=>?_⟩
       · obtain⟨a',_,er,a0⟩:=(ok.2.1 r hr').2.2
         rw[er]
         exact z5T (by omega) (by omega)
       · have:n0∈ss:=(mss n0).mpr (by simp)
         have z0:ss=[]:=z0
         rw[z0]at this
         exact nomatch this
 · rintro σ H7 ⟨s7,z,c7,c8,c9,c10,rfl,etl,lz,hz⟩
   exact⟨_,rfl,q tl z _ H7 (sH6.trans s7) (sH6.free ftl) etl (by omega) (by omega) (by omega) (by omega) hz⟩
abbrev kS(n:Str):Key:=Sum.inr n
def BkA(H:Hp)(N:List Str)(k:List Int)(x:V):Prop:=∃ d kvs,x = .ref d/\H d=some (.dK kvs)/\kvs.length<=N.length/\∀ n∈N,valV kvs (kS n)=some (.int (asg N k n))
theorem BkA.same{H H':Hp}{N:List Str}{k:List Int}{x:V}(h:BkA H N k x)(s:Same H H'):BkA H' N k x:=by
 obtain⟨d,kvs,e,h1,h2⟩:=h
 exact⟨d,kvs,e,s _ _ h1,h2⟩
theorem BkA.updL{H:Hp}{N:List Str}{k:List Int}{x:V}{b:Addr}{ys:List V}{o:HO}(h:BkA H N k x)(e:H b=some (.lst ys)):BkA (upd H b o) N k x:=by
 obtain⟨d,kvs,e1,h1,h2⟩:=h
 exact⟨d,kvs,e1,by rw[z0k (fun z:d=b=>by rw[z,e]at h1;cases h1)];exact h1,h2⟩
theorem z1C{α β:Type}{F G:α->β->Prop}(h:∀ a b,F a b->G a b):∀ {l:List α}{m:List β},Paired F l m->Paired G l m
 | _,_,.nil => .nil
 | _,_,.cons a t => .cons (h _ _ a) (z1C h t)
theorem z4q{α β:Type}{F:α->β->Prop}{x:α}{y:β}(h:F x y):∀ {l:List α}{m:List β},Paired F l m->Paired F (l ++ [x]) (m ++ [y])
 | _,_,.nil => .cons h .nil
 | _,_,.cons a t => .cons a (z4q h t)
theorem z9F{α β:Type}{F:α->β->Prop}:∀ {l:List α}{m:List β}{i:Nat}{y:β},Paired F l m->m[i]? = some y->∃ x,l[i]? = some x/\F x y
 | _,_,i,y,.nil,e=>by simp at e
 | _,_,0,y,.cons h _,e=>by simp at e;subst e;exact⟨_,rfl,h⟩
 | _,_,i + 1,y,.cons _ t,e=>by
  obtain⟨x,e1,h⟩:=z9F t (by simpa using e)
  exact⟨x,by simpa using e1,h⟩
theorem BkA.put{H:Hp}{N:List Str}{k:List Int}{d:Addr}{kvs:List (Key×V)}{n:Str}{v:Int}(nn:n∉N)(kl:k.length=N.length)(h2:kvs.length<=N.length)(h3:∀ n∈N,valV kvs (kS n)=some (.int (asg N k n)))(e:H d=some (.dK (z2u kvs (kS n) (.int v)))):BkA H (N ++ [n]) (k ++ [v]) (.ref d):=by
 refine⟨d,_,rfl,e,?_,fun m hm=>?_⟩
 · have:=z1O kvs (kS n) (.int v)
   rw[jG,List.length_singleton];omega
 · rw[z9f,z5n kl]
   by_cases c:m=n
   · subst c
     rw[if_pos rfl,if_neg nn]
     unfold asg
     simp
   · rw[if_neg (fun z=>c (Sum.inr.inj z))]
     have hm:m∈N:=(jL.mp hm).resolve_right fun z=>c (jM.mp z)
     rw[if_pos hm,h3 m hm]
def z9u(K:PySem.W.Frag):Sp:=fun vs H Q _=>∃ (a m:Addr) (N:List Str) (ms:List Int),vs=[.ref a,.ref m]/\SqL K H a (N.map V.str)/\N.Nodup/\N.length<=5/\SqL K H m (ms.map V.int)/\ms.length<=3 /\
 ∀ fl H' xs,Same H H'->H' fl=some (.lst xs)->Paired (BkA H' N) (bks ms N.length) xs->Q (.ref fl) H'
theorem y4c(B:Bl mg)(F:Fn K mg "_law_books" z2B ["_law_names", "_law_menu_here"]):Def P w K mg base "_law_books" 1 ["_law_names", "_law_menu_here"] (z9u K):=by
 refine F.ok z1e (fun vs H Q E h=>?_) (fun f cdv A outer s H vs Q E hr h=>?_)
 · obtain⟨a,m,N,ms,rfl,_⟩:=h;rfl
 obtain⟨a,m,N,ms,rfl,hN,nd,n5,hM,m3,q⟩:=h
 have big:(1000:Nat) < sizeLine:=by decide
 refine⟨_,(@z0c _ _ _ _ _ (@z2o _ 2 _ _ _ _ _ z1e.nd rfl (by first | exact Or.inl rfl | exact Or.inr rfl) (@y1Y _ _ _ _ y3Y rfl) rfl (by first | exact .inl rfl | exact .inr rfl))
  (@z0c _ _ _ _ _ (z1U PassesOwn.never rfl (z0I (pv 0)) (z0v (i:=3) z1e.nd rfl (by first | exact Or.inl rfl | exact Or.inr rfl)) (@z0c _ _ _ _ _ (@z2o _ 4 _ _ _ _ _ z1e.nd rfl (by first | exact Or.inl rfl | exact Or.inr rfl) (@z4S _ _) rfl (by first | exact .inl rfl | exact .inr rfl))
  (@z0c _ _ _ _ _ (z1U PassesOwn.never rfl (z0I (pv 2)) (z0v (i:=5) z1e.nd rfl (by first | exact Or.inl rfl | exact Or.inr rfl)) (@z0h _ _ _ (z1U PassesOwn.never rfl (z0I (pv 1)) (z0v (i:=6) z1e.nd rfl (by first | exact Or.inl rfl | exact Or.inr rfl)) (@z0c _ _ _ _ _ (z0l (i:=7) z1e.nd rfl (by first | exact Or.inl rfl | exact Or.inr rfl) (z0t z7V rfl B.dict PyProof.Rows.boot_dict (@z0b _ _ _ _ _ (pv 5) z0f rfl)))
  (@z0c _ _ _ _ _ (z6v (z4m hr) (pv 7) (pv 3) (pv 6) rfl)
  (@z0h _ _ _ (z2p (z6A PySem.F.plainAttrs_list PySem.F.slot_list_append PySem.F.type_list_append z1h (pv 4) (@z0b _ _ _ _ _ (pv 7) z0f rfl)))))))))
  (@z0h _ _ _ (z0l (i:=2) z1e.nd rfl (by first | exact Or.inl rfl | exact Or.inr rfl) (pv 4))))))
  (@z0h _ _ _ (@z2G _ _ _ _ (pv 2))))),?_⟩
 intro d0 f0
 have s0:=z0e f0 (.dK [])
 have e0:(upd H d0 (.dK [])) d0=some (.dK []):=z0a
 generalize upd H d0 (.dK [])=H0 at s0 e0 ⊢
 refine⟨by show 1<=sizeLine;decide,fun fl f1=>?_⟩
 have s1:=z0e f1 (.lst [V.ref d0])
 have e1:(upd H0 fl (.lst [V.ref d0])) fl=some (.lst [V.ref d0]):=z0a
 have e01:=s1 _ _ e0
 generalize upd H0 fl (.lst [V.ref d0])=H1 at s1 e1 e01 ⊢
 have s01:=s0.trans s1
 dsimp only[z0Y]
 refine z3k (σ':=[some (.ref a),some (.ref m),some (.ref fl),none,none,none,none,none]) rfl ?_
 have num:∀ i,i<=N.length->(bks ms i).length<=243:=fun i hi=>by rw[z8R];exact z9h m3 (by omega)
 refine⟨_,rfl,a,rfl,⟨_,s01.seq hN⟩,z0N (K:=K) (xs:=N.map V.str) (fun i σ H'=>Same H H'/\∃ (fl:Addr) (xs:List V) (c3 c4 c5 c6 c7:Option V),σ=[some (.ref a),some (.ref m),some (.ref fl),c3,c4,c5,c6,c7]/\H' fl=some (.lst xs)/\Paired (BkA H' (N.take i)) (bks ms i) xs) ⟨s01,fl,_,none,none,none,none,none,rfl,e1,.cons ⟨d0,[],rfl,e01,jg _,fun _ h=>nomatch h⟩ .nil⟩ (fun i σ H' _ h=>h.1.seq hN) ?_ ?_⟩
 · rintro i x σ H2 hx ⟨s2,fl,xs,c3,c4,c5,c6,c7,rfl,efl,pr⟩
   rw[jF]at hx
   obtain⟨n,en,rfl⟩:=jh.mp hx
   have hi:i < N.length:=(jH.mp en).1
   have tk:N.take (i + 1)=N.take i ++ [n]:=by rw[kx,en];rfl
   have nn:n∉N.take i:=fun z=>by
    obtain⟨j,hj,e⟩:=List.mem_take_iff_getElem.mp z
    have e2:=(jH.mp en).2
    rw[<- e2]at e
    have:=(qI nd).mp e
    omega
   have tl:(N.take i).length=i:=by rw[jS];omega
   have n243:=num (i + 1) (by omega)
   have bs:bks ms (i + 1)=(bks ms i).flatMap fun k=>ms.map fun v=>k ++ [v]:=rfl
   refine⟨by show 0<=sizeLine;decide,fun ll f3=>?_⟩
   have s3:=z0e f3 (.lst [])
   have e3:(upd H2 ll (.lst [])) ll=some (.lst []):=z0a
   dsimp only[z0Y]
   refine z3k (σ':=[some (.ref a),some (.ref m),some (.ref fl),some (.str n),some (.ref ll),c5,c6,c7]) rfl ?_
   have xl:=pr.length
   refine⟨_,rfl,fl,rfl,⟨_,.of (s3 _ _ efl)⟩,z0N (K:=K) (xs:=xs) (fun j σ H'=>Same H2 H'/\∃ (ys:List V) (c5 c6 c7:Option V),σ=[some (.ref a),some (.ref m),some (.ref fl),some (.str n),some (.ref ll),c5,c6,c7]/\H' ll=some (.lst ys)/\Paired (BkA H' (N.take (i + 1))) (((bks ms i).take j).flatMap fun k=>ms.map fun v=>k ++ [v]) ys) ⟨s3,[],c5,c6,c7,rfl,e3,.nil⟩ (fun j σ H' _ h => .of (h.1 _ _ efl)) ?_ ?_⟩
   · rintro j x σ H4 hx ⟨s4,ys,c5,c6,c7,rfl,e4,pr4⟩
     obtain⟨k,ek,d,kvs,rfl,ed,kl,kv⟩:=z9F pr hx
     have km:=jk ek
     have klen:=z8S km
     have hM4:=(s2.trans s4).seq hM
     have tk2:(bks ms i).take (j + 1)=(bks ms i).take j ++ [k]:=by rw[kx,ek];rfl
     refine⟨_,rfl,m,rfl,⟨_,hM4⟩,z0N (K:=K) (xs:=ms.map V.int) (fun u σ H'=>Same H2 H'/\∃ (ys:List V) (c6 c7:Option V),σ=[some (.ref a),some (.ref m),some (.ref fl),some (.str n),some (.ref ll),some (.ref d),c6,c7]/\H' ll=some (.lst ys)/\Paired (BkA H' (N.take (i + 1))) ((((bks ms i).take j).flatMap fun k=>ms.map fun v=>k ++ [v]) ++ (ms.take u).map fun v=>k ++ [v]) ys) ⟨s4,ys,c6,c7,rfl,e4,by rw[List.take_zero,qE,k7];exact pr4⟩ (fun u σ H' _ h=>(s2.trans h.1).seq hM) ?_ ?_⟩
     · rintro u x σ H5 hx ⟨s5,ys,c6,c7,rfl,e5,pr5⟩
       rw[jF]at hx
       obtain⟨v,ev,rfl⟩:=jh.mp hx
       have tk3:ms.take (u + 1)=ms.take u ++ [v]:=by rw[kx,ev];rfl
       have yl:=pr5.length
       have yl2:ys.length<=800:=by
        rw[<- yl,jG,jA,jS]
        have h1:(((bks ms i).take j).flatMap fun k=>ms.map fun v=>k ++ [v]).length<=(bks ms (i + 1)).length:=by
         rw[bs]
         conv=>rhs;rw[<- jq j (bks ms i),List.flatMap_append,jG]
         omega
        omega
       refine⟨_,rfl,d,kvs,rfl,s5 _ _ ed,fun p fp=>?_⟩
       have t1:=z0e fp (.dK kvs)
       refine⟨_,rfl,_,rfl,_,rfl,p,_,rfl,DPut.k (k:=kS n) z0a (by omega),?_⟩
       have s6:Same H5 (upd (upd H5 p (.dK kvs)) p (.dK (z2u kvs (kS n) (.int v)))):=z0o fp t1
       have e6:(upd (upd H5 p (.dK kvs)) p (.dK (z2u kvs (kS n) (.int v)))) p=some (.dK (z2u kvs (kS n) (.int v))):=z0a
       generalize upd (upd H5 p (.dK kvs)) p (.dK (z2u kvs (kS n) (.int v)))=H6 at s6 e6 ⊢
       have e56:=s6 _ _ e5
       refine⟨_,rfl,.inl ⟨rfl,_,.of e56⟩,_,rfl,ll,ys,.ref p,rfl,rfl,e56,by omega,?_⟩
       refine⟨z0o f3 (s5.trans s6),ys ++ [.ref p],_,_,rfl,z0a,?_⟩
       rw[tk3,jT,<- ji]
       refine z4q ?_ (z1C (fun _ _ h=>(h.same s6).updL e56) pr5)
       rw[tk]
       refine BkA.updL (BkA.put nn (by rw[klen,tl]) kl kv e6) e56
     · rintro σ H5 ⟨s5,ys,c6,c7,rfl,e5,pr5⟩
       refine⟨s5,ys,_,c6,c7,rfl,e5,?_⟩
       rw[tk2,List.flatMap_append,List.flatMap_singleton]
       rw[jA,jy]at pr5
       exact pr5
   · rintro σ H4 ⟨s4,ys,c5,c6,c7,rfl,e4,pr4⟩
     rw[<- xl,jy]at pr4
     exact⟨_,rfl,s2.trans s4,ll,ys,_,_,c5,c6,c7,rfl,e4,pr4⟩
 · rintro σ H2 ⟨s2,fl,xs,c3,c4,c5,c6,c7,rfl,efl,pr⟩
   rw[jA,jy]at pr
   exact⟨_,rfl,q fl H2 xs s2 efl pr⟩
theorem z6Z:∀ {rs:List Rw}{k:List Int},(rs.map (·.1)).Nodup->(z5Z rs k).getD 0=mass rs fun x=>decide (x=k)
 | [],_,_=>rfl
 | r :: rs,k,nd=>by
  obtain⟨n1,n2⟩:=kI.mp (show (r.1 :: rs.map (·.1)).Nodup from nd)
  rw[z0z]
  unfold z5Z
  rw[kf]
  by_cases c:r.1=k
  · rw[decide_eq_true c,if_pos rfl,z2J fun x hx=>decide_eq_false (fun z:x.1=k=>n1 (by rw[c,<- z];exact kM hx)),Rat.add_zero]
    rfl
  · rw[decide_eq_false c,if_neg (by decide),Rat.zero_add,<- z6Z n2]
    rfl
theorem Bd.lim{D M:Nat}{r:Rat}(hD:0 < D)(h:Bd D M r):0<=r.num/\r.num<=M/\r.den<=D:=by
 obtain⟨a,h1,rfl⟩:=h
 obtain⟨a1,a2⟩:=z2M (t:=(a:Int)) (b:=(D:Int)) (by omega)
 exact⟨Rat.num_nonneg.mpr (Rat.divInt_nonneg (by omega) (by omega)),by omega,by omega⟩
def Sd(K:PySem.W.Frag)(dd:Addr)(H:Hp)(t:Tb)(x:V):Prop:=∃ p v d ks,x = .ref p/\SqT K H p [.ref v,.ref d]/\SqT K H v (t.1.map V.str)/\H d=some (.dT (kz ks))/\Acc K H t.2 ks/\d≠dd
theorem Sd.same{dd:Addr}{H H':Hp}{t:Tb}{x:V}(h:Sd K dd H t x)(s:Same H H'):Sd K dd H' t x:=by
 obtain⟨p,v,d,ks,h1,h2,h3,h4,h5,h6⟩:=h
 exact⟨p,v,d,ks,h1,s.tupq h2,s.tupq h3,s _ _ h4,h5.mono fun r v h=>h.same s,h6⟩
theorem Sd.updL{dd:Addr}{H:Hp}{t:Tb}{x:V}{b:Addr}{ys:List V}{o:HO}(h:Sd K dd H t x)(e:H b=some (.lst ys)):Sd K dd (upd H b o) t x:=by
 obtain⟨p,v,d,ks,h1,h2,h3,h4,h5,h6⟩:=h
 exact⟨p,v,d,ks,h1,z4o e h2,z4o e h3,by rw[z0k (fun z:d=b=>by rw[z,e]at h4;cases h4)];exact h4,h5.mono (z8O e),h6⟩
theorem Sd.updD{dd:Addr}{H:Hp}{t:Tb}{x:V}{kk:List (List Key×V)}{o:HO}(h:Sd K dd H t x)(e:H dd=some (.dT kk)):Sd K dd (upd H dd o) t x:=by
 obtain⟨p,v,d,ks,h1,h2,h3,h4,h5,h6⟩:=h
 exact⟨p,v,d,ks,h1,z8k e h2,z8k e h3,by rw[z0k h6];exact h4,h5.mono (z9Z e),h6⟩
def upW(L:List Tb):List TW:=L.map fun t=>(t,1,0)
def Lim(t:Tb):Prop:=(t.2.map (·.1)).Nodup/\t.1.length<=10/\(∀ r∈t.2,0<=r.2.num/\r.2.num<=2 ^ 210/\r.2.den<=2 ^ 210)/\t.2.length<=243
theorem y7o{t:Tb}{g:Str->Int}(h:Lim t):0<=(vl t g).num/\(vl t g).num<=2 ^ 210/\(vl t g).den<=2 ^ 210:=by
 by_cases c:hv t g
 · obtain⟨r,hr,e⟩:=jN.mp c
   have:vl t g=r.2:=by unfold vl;rw[<- e];exact z3T h.1 hr
   rw[this]
   exact h.2.2.1 r hr
 · rw[z8g c]
   exact⟨by decide,by decide,by decide⟩
theorem y6G{a:Addr}{xs:List V}{H:Hp}(hS:SqT K H a xs):(∀ H',Same H H'->(Itt K a).stop xs.length H')/\∀ i H',i < xs.length->Same H H'->(Itt K a).go i H'/\∀ x H'',(Itt K a).yld i H' x H''->x=xs.getD i .non/\H''=H':=by
 refine⟨fun H' sm=>⟨xs,sm.tupq hS,jE _⟩,fun i H' hi sm=>⟨⟨xs,xs[i],sm.tupq hS,jD hi⟩,fun x H'' hy=>?_⟩⟩
 obtain⟨e,y⟩:=hy
 refine⟨?_,e⟩
 have:=y xs (sm.tupq hS)
 rw[jC,this];rfl
theorem z9i{r:List V->Hp->VK->Prop}{ix:List Nat}{wi:TI}{te:TE}{σ:St}{H:Hp}{Q:VK}(h:wi σ H (z2O ix te σ fun x H1=>r [x] H1 Q)):tCB r (z2w (z6c ix wi y7g te) y0p) σ H Q:=h
theorem y8I{H:Hp}{r:Rat}{w:V}(h:IsD K H (dF r) w):∃ q,w = .ref q/\SqT K H q [.int r.num,.int (r.den:Int)]:=by
 obtain⟨q,ys,rfl,sq,v1,_,rfl,e1,v2,_,rfl,e2,rfl⟩:=h
 have e1:v1 = .int r.num:=e1
 have e2:v2 = .int (r.den:Int):=e2
 subst e1 e2
 exact⟨q,rfl,sq⟩
def y1t(K:PySem.W.Frag):Sp:=fun vs H Q _=>∃ (dd a b:Addr) (xs:List V) (L:List Tb) (g:Str->Int) (kvs:List (Key×V)),vs=[.ref a,.ref b]/\SqL K H a xs/\Paired (Sd K dd H) L xs/\H b=some (.dK kvs)/\(∀ t∈L,∀ n∈t.1,valV kvs (kS n)=some (.int (g n)))/\(∀ t∈L,Lim t)/\L.length<=8 /\
 ∀ p (T Bo:Int) H',Same H H'->H' p=some (.tup [.int T,.int Bo])->0<=T->0 < Bo->T<=2 ^ 1680->Bo<=2 ^ 1680->Rat.divInt T Bo=prv (upW L) g->Q (.ref p) H'
theorem y7O(L:List Tb)(g:Str->Int)(t:Tb):prv (upW (L ++ [t])) g=prv (upW L) g * vl t g:=by
 unfold upW
 rw[jT]
 exact z8t g (t,1,0) _
theorem y6q(B:Bl mg)(F:Fn K mg "_law_product" z1K ["_law_tables_here", "_law_book"]):Def P w K mg base "_law_product" 1 ["_law_tables_here", "_law_book"] (y1t K):=by
 refine F.ok z0J (fun vs H Q E h=>?_) (fun f cdv A outer s H vs Q E hr h=>?_)
 · obtain⟨dd,a,b,xs,L,g,kvs,rfl,_⟩:=h;rfl
 obtain⟨dd,a,b,xs,L,g,kvs,rfl,qa,pr,eb,hg,lim,l8,q⟩:=h
 refine⟨_,(@z0c _ _ _ _ _ (z0l (i:=2) z0J.nd rfl (by first | exact Or.inl rfl | exact Or.inr rfl) z0d)
  (@z0c _ _ _ _ _ (z0l (i:=3) z0J.nd rfl (by first | exact Or.inl rfl | exact Or.inr rfl) z0d)
  (@z0c _ _ _ _ _ (z1U PassesOwn.never rfl (z6y K rfl (pv 0)) (z7w rfl (z1p (z0v (i:=4) z0J.nd rfl (by first | exact Or.inl rfl | exact Or.inr rfl)) (z1p (z0v (i:=5) z0J.nd rfl (by first | exact Or.inl rfl | exact Or.inr rfl)) z4Q))) (@z0c _ _ _ _ _ (z0l (i:=6) z0J.nd rfl (by first | exact Or.inl rfl | exact Or.inr rfl) (z6z (z4m hr) (pv 5) (z0t (z1m K rfl) rfl B.tuple PyProof.Rows.boot_tuple (@z0b _ _ _ _ _ (z3Q (CompOk.of (x := "_law_name_here") (M:=["_law_book"]) (ix:=[1]) rfl rfl (by decide +kernel) (by decide +kernel) rfl ⟨rfl,trivial⟩ (by rfl) ⟨⟨rfl,rfl,rfl,rfl⟩,trivial⟩) rfl (by decide +kernel) (y1W K rfl (pv 4)) (fun _ _ _ _ _=>z2Z) (fun _ _ _ _ _=>(z8u (z4m hr) (pv 1) (pv 0) (fun _ _=>rfl)))) z0f rfl)) (@z0R _ _ _ _ _ _ _ z0d z0d rfl rfl) ⟨rfl,rfl,rfl,rfl⟩))
  (@z0c _ _ _ _ _ (z0l (i:=2) z0J.nd rfl (by first | exact Or.inl rfl | exact Or.inr rfl) (z0m z0S (pv 2) (z0q (z0i K rfl) (pv 6) z0d (fun _ _=>rfl))))
  (@z0h _ _ _ (z0l (i:=3) z0J.nd rfl (by first | exact Or.inl rfl | exact Or.inr rfl) (z0m z0S (pv 3) (z0q (z0i K rfl) (pv 6) z0d (fun _ _=>rfl))))))))
  (@z0h _ _ _ (@z2G _ _ _ _ (@z0R _ _ _ _ _ _ _ (pv 2) (pv 3) rfl rfl)))))),?_⟩
 have big:(1000:Nat) < sizeLine:=by decide
 have xl:=pr.length
 dsimp only[z0Y]
 refine⟨_,rfl,a,rfl,⟨xs,qa⟩,z0N (K:=K) (xs:=xs) (fun i σ H'=>Same H H'/\∃ (T Bo:Int) (c4 c5 c6:Option V),σ=[some (.ref a),some (.ref b),some (.int T),some (.int Bo),c4,c5,c6]/\0<=T/\0 < Bo/\T<=2 ^ (210 * i)/\Bo<=2 ^ (210 * i)/\Rat.divInt T Bo=prv (upW (L.take i)) g) ⟨Same.refl _,1,1,none,none,none,rfl,by decide,by decide,by decide,by decide,rfl⟩ (fun i σ H' _ h=>h.1.seq qa) ?_ ?_⟩
 · rintro i x σ H2 hx ⟨s2,T,Bo,c4,c5,c6,rfl,t0,b0,t1,b1,e⟩
   obtain⟨t,et,p,v,d,ks,rfl,sp,sv,ed,ac,_⟩:=z9F pr hx
   have tm:=jk et
   have hl:=lim t tm
   have tk:L.take (i + 1)=L.take i ++ [t]:=by rw[kx,et];rfl
   have i8:i < 8:=by have:=(jH.mp et).1;omega
   refine⟨p,_,rfl,s2.tupq sp,rfl,_,_,rfl,_,_,rfl,rfl,?_⟩
   dsimp only[z0Y]
   have s2d:=s2 _ _ ed
   refine⟨_,rfl,d,rfl,.inr ⟨_,.inl s2d⟩,?_⟩
   have sv2:=s2.tupq sv
   have gi:=y6G sv2
   have gl:(t.1.map g).length=(t.1.map V.str).length:=by rw[jA,jA]
   refine z9i ⟨_,rfl,v,rfl,⟨_,sv2⟩,z7Q (t.1.map g) (fun i=>(t.1.map V.str).getD i .non) (by rw[jA];have:=hl.2.1;omega) (fun H' sm=>by rw[gl];exact gi.1 H' sm) (fun j H' hj sm=>gi.2 j H' (by rw[<- gl];exact hj) sm) (fun j x H3 R ex s3 hR=>?_) (fun p5 H3 s3 f5 e5=>?_)⟩
   · rw[jF]at ex
     obtain⟨n,en,rfl⟩:=jh.mp ex
     have nx:(t.1.map V.str).getD j .non = .str n:=by rw[jC,jF,en];rfl
     rw[nx]
     exact⟨_,rfl,_,rfl,b,.int (g n),rfl,.inl ⟨kvs,kS n,.inl ((s2.trans s3) _ _ eb),rfl,(hg t tm n (jk en)).symm⟩,hR H3 (Same.refl _)⟩
   refine⟨p5,_,rfl,.inl ⟨.of e5,fun kp f6=>?_⟩⟩
   have s4:=z0e f6 (.tup ((t.1.map g).map V.int))
   have e6:(upd H3 kp (.tup ((t.1.map g).map V.int))) kp=some (.tup ((t.1.map g).map V.int)):=z0a
   generalize upd H3 kp (.tup ((t.1.map g).map V.int))=H4 at s4 e6 ⊢
   refine⟨by show 2<=sizeLine;decide,fun dp f7=>?_⟩
   have s5:=z0e f7 (.tup [V.int 0,.int 1])
   have e7:(upd H4 dp (.tup [V.int 0,.int 1])) dp=some (.tup [V.int 0,.int 1]):=z0a
   have e67:=s5 _ _ e6
   generalize upd H4 dp (.tup [V.int 0,.int 1])=H5 at s5 e7 e67 ⊢
   have s25:=(s3.trans s4).trans s5
   have s05:=s2.trans s25
   refine⟨_,DGet.t (k:=(t.1.map g).map Sum.inl) (s25 _ _ s2d) (by rw[z1P];exact e67),?_⟩
   have dw:IsD K H5 (dF (vl t g)) ((valV (kz ks) ((t.1.map g).map Sum.inl)).getD (.ref dp)):=by
    have vm:=z6Z (k:=t.1.map g) hl.1
    rcases (ac.mono fun r v h=>h.same s05).val (t.1.map g) with ⟨h1,h2⟩ | ⟨r,v',h1,h2,h3⟩
    · rw[h2]
      rw[h1]at vm
      have:vl t g=0:=vm.symm
      rw[this]
      exact⟨dp,_,rfl,.of e7,_,_,rfl,rfl,_,_,rfl,rfl,rfl⟩
    · rw[h2]
      rw[h1]at vm
      have:vl t g=r:=vm.symm
      rw[this]
      exact h3
   obtain⟨w,ew,sw⟩:=y8I dw
   rw[ew]
   obtain⟨v0,v1,v2⟩:=y7o (g:=g) hl
   have dp0:=(vl t g).den_pos
   have vn:(vl t g).num.natAbs < 2 ^ 211:=by omega
   have vd:((vl t g).den:Int).natAbs < 2 ^ 211:=by omega
   have pw:∀ j,j<=8->(2:Int) ^ (210 * j) < 2 ^ 1681:=fun j hj=>by
    have:(2:Nat) ^ (210 * j) < 2 ^ 1681:=Nat.pow_lt_pow_right (by decide) (by omega)
    exact_mod_cast this
   have pi:=pw i (by omega)
   have tn:T.natAbs < 2 ^ 1681:=by
    have:(T.natAbs:Int) < (2 ^ 1681:Nat):=by rw[Int.natAbs_of_nonneg t0];push_cast;omega
    exact_mod_cast this
   have bn:Bo.natAbs < 2 ^ 1681:=by
    have:(Bo.natAbs:Int) < (2 ^ 1681:Nat):=by rw[Int.natAbs_of_nonneg (by omega)];push_cast;omega
    exact_mod_cast this
   dsimp only[z0Y]
   refine⟨_,rfl,_,rfl,.inr (.inl ⟨w,_,0,.int (vl t g).num,rfl,rfl,sw,rfl,_,_,rfl,rfl,z3d tn vn (by decide),?_⟩)⟩
   dsimp only[z0Y]
   refine⟨_,rfl,_,rfl,.inr (.inl ⟨w,_,1,.int ((vl t g).den:Int),rfl,rfl,sw,rfl,_,_,rfl,rfl,z3d bn vd (by decide),?_⟩)⟩
   have ps:(2:Int) ^ (210 * (i + 1))=2 ^ (210 * i) * 2 ^ 210:=by rw[Nat.mul_succ,Int.pow_add]
   have p0:(0:Int) < 2 ^ (210 * i):=Int.pow_pos (by decide)
   refine⟨s05,T * (vl t g).num,Bo * ((vl t g).den:Int),_,_,_,rfl,Int.mul_nonneg t0 v0,qH b0 (by omega),?_,?_,?_⟩
   · rw[ps];exact Int.mul_le_mul t1 v1 v0 (qP p0)
   · rw[ps];exact Int.mul_le_mul b1 (by omega) (by omega) (qP p0)
   · rw[tk,y7O,<- e,<- Rat.divInt_mul_divInt,ki]
 · rintro σ H2 ⟨s2,T,Bo,c4,c5,c6,rfl,t0,b0,t1,b1,e⟩
   rw[<- xl,jy]at e
   have m8:(2:Int) ^ (210 * xs.length)<=2 ^ 1680:=by
    have:(2:Nat) ^ (210 * xs.length)<=2 ^ 1680:=qC (by decide) (by omega)
    exact_mod_cast this
   exact⟨_,rfl,_,rfl,by show 2<=sizeLine;decide,fun p fp=>q p T Bo _ (s2.trans (z0e fp _)) z0a t0 b0 (Int.le_trans t1 m8) (Int.le_trans b1 m8) e⟩
theorem z8o{ix:List Nat}{wi:TI}{te:TE}{g:TG}{u:TS}{D:Ends}{σ:St}{H:Hp}(h:wi σ H (z2O ix te σ fun x H1=>g x σ H1 (u D))):y7f (y1m (z6c ix wi y7g te) g) u D σ H:=h
theorem y6H{K':PySem.W.Frag}{a:Addr}{xs:List V}{H:Hp}(hS:SqL K' H a xs):(∀ H',Same H H'->(Itl K' a).stop xs.length H')/\∀ i H',i < xs.length->Same H H'->(Itl K' a).go i H'/\∀ x H'',(Itl K' a).yld i H' x H''->x=xs.getD i .non/\H''=H':=by
 refine⟨fun H' sm=>⟨xs,sm.seq hS,jE _⟩,fun i H' hi sm=>⟨⟨xs,xs[i],sm.seq hS,jD hi⟩,fun x H'' hy=>?_⟩⟩
 obtain⟨e,y⟩:=hy
 refine⟨?_,e⟩
 have:=y xs (sm.seq hS)
 rw[jC,this];rfl
theorem BkA.updD{H:Hp}{N:List Str}{k:List Int}{x:V}{b:Addr}{kk:List (List Key×V)}{o:HO}(h:BkA H N k x)(e:H b=some (.dT kk)):BkA (upd H b o) N k x:=by
 obtain⟨d,kvs,e1,h1,h2⟩:=h
 exact⟨d,kvs,e1,by rw[z0k (fun z:d=b=>by rw[z,e]at h1;cases h1)];exact h1,h2⟩
theorem y1S{α β γ:Type}{F:α->γ->Prop}{f:β->γ}:∀ {ys:List α}{ks:List β},ys.length=ks.length->(∀ (j:Nat) (x:α) (k:β),ys[j]? = some x->ks[j]? = some k->F x (f k))->Paired F ys (ks.map f)
 | [],[],_,_ => .nil
 | y :: ys,k :: ks,hl,h => .cons (h 0 y k rfl rfl) (y1S (by simpa using hl) fun j x k' e1 e2=>h (j + 1) x k' (by simpa using e1) (by simpa using e2))
theorem z9C:∀ {acc:List (List Key×V)}{k:List Key}{v:V},k∉acc.map (·.1)->z2u acc k v=acc ++ [(k,v)]:=by
 intro acc k v h
 unfold z2u
 rw[if_neg]
 intro z
 obtain⟨p,hp,e⟩:=List.any_eq_true.mp z
 exact h (jN.mpr ⟨p,hp,of_decide_eq_true e⟩)
theorem z5K:∀ (more acc:List (List Key×V)),((acc ++ more).map (·.1)).Nodup->z4i acc more=acc ++ more
 | [],acc,_=>(k7 _).symm
 | kv :: more,acc,nd=>by
  show z4i (z2u acc kv.1 kv.2) more=_
  have nk:kv.1∉acc.map (·.1):=fun z=>by
   rw[jT,jV]at nd
   exact (kY.mp nd).2.2 _ z _ (jv ..) rfl
  rw[z9C nk,z5K more (acc ++ [(kv.1,kv.2)]) (by rw[ji];exact nd),ji]
  rfl
theorem y4p{ks:List (List Int×V)}(h:(ks.map (·.1)).Nodup):((kz ks).map (·.1)).Nodup:=by
 have e:(kz ks).map (·.1)=(ks.map (·.1)).map fun k=>k.map (Sum.inl:Int->Key):=by
  unfold kz
  rw[kh,kh];rfl
 rw[e]
 exact List.Pairwise.map _ (fun a b ne z=>ne (z3W.mp z)) h
def z6O(ms:List Int)(L:List TW)(N left:List Str)(i:Nat):List Rw:=gath (plc N left) ((((bks ms N.length).take i).filter fun k=>decide (0 < prv L (asg N k))).map fun k=>(k,prv L (asg N k)))
theorem z9Y(ms:List Int)(L:List TW)(N left:List Str):z6O ms L N left (bks ms N.length).length=y5v ms L N left:=by unfold z6O y5v;rw[jy]
theorem y6V{ms:List Int}{L:List TW}{N left:List Str}{i:Nat}{k:List Int}(e:(bks ms N.length)[i]? = some k)(h:¬ 0 < prv L (asg N k)):z6O ms L N left (i + 1)=z6O ms L N left i:=by
 unfold z6O
 rw[kx,e,kL]
 have:[k].filter (fun k=>decide (0 < prv L (asg N k)))=[]:=by rw[ko (by rw[decide_eq_true_eq];exact h),List.filter_nil]
 show gath _ (((_ ++ [k].filter _)).map _)=_
 rw[this,k7]
theorem y4C{ms:List Int}{L:List TW}{N left:List Str}{i:Nat}{k:List Int}(e:(bks ms N.length)[i]? = some k)(h:0 < prv L (asg N k)):z6O ms L N left (i + 1)=y0g (z6O ms L N left i) (left.map (asg N k)) (prv L (asg N k)):=by
 unfold z6O
 rw[kx,e,kL]
 have:[k].filter (fun k=>decide (0 < prv L (asg N k)))=[k]:=by rw[kn (p:=fun k=>decide (0 < prv L (asg N k))) (decide_eq_true h),List.filter_nil]
 show gath _ ((_ ++ [k].filter _).map _)=_
 rw[this,jT,List.map_singleton,z5i,z1o]
theorem z9X(ms:List Int)(L:List TW)(N left:List Str)(i:Nat):(z6O ms L N left i).length<=(bks ms N.length).length:=by
 unfold z6O
 refine jY (z6M _ _) ?_
 rw[jA]
 refine jY (kE ..) ?_
 rw[jS]
 exact Nat.min_le_right _ _
theorem y6W{ms:List Int}{L:List TW}{N left:List Str}{i D M:Nat}(hD:0 < D)(h:∀ k∈bks ms N.length,Bd D M (prv L (asg N k)))(hn:(bks ms N.length).length<=243):∀ g∈z6O ms L N left i,Bd D (243 * M) g.2:=fun g hg=>by
 have:=z8K hD (fun r hr=>by
  obtain⟨k,hk,rfl⟩:=jN.mp hr
  exact h k (kG (ju.mp hk).1)) g hg
 refine this.mono (Nat.mul_le_mul_right _ ?_)
 rw[jA]
 refine jY (kE ..) ?_
 rw[jS]
 exact jY (Nat.min_le_right _ _) hn
theorem y5F{acc:List Rw}{k:List Int}{r:Rat}(h:z5Z acc k=some r):∃ g∈acc,g.2=r:=by
 unfold z5Z at h
 obtain⟨p,hp,e⟩:=jh.mp h
 exact⟨p,List.mem_of_find?_eq_some hp,e⟩
def y4Y(K:PySem.W.Frag):Sp:=fun vs H Q _=>∃ (a n lf m:Addr) (z:List (V×Tb)) (N left:List Str) (ms:List Int) (D M:Nat),vs=[.ref a,.ref n,.ref lf,.ref m]/\SqL K H a (z.map (·.1))/\(∀ q∈z,∃ p k,q.1 = .ref p/\TJ K H p k q.2.1 q.2.2)/\(∀ q∈z,Lim q.2)/\z.length<=8/\SqL K H n (N.map V.str)/\N.Nodup/\N.length<=5/\SqL K H lf (left.map V.str)/\(∀ x∈left,x∈N)/\left.length<=5/\SqL K H m (ms.map V.int)/\ms.length<=3/\(∀ q∈z,∀ x∈q.2.1,x∈N) /\
 0 < D/\D<=2 ^ 1680/\M<=2 ^ 1680/\(∀ k∈bks ms N.length,Bd D M (prv (upW (z.map (·.2))) (asg N k))) /\
 ∀ p (qs:List Rw) H',Same H H'->qs.Perm (y5v ms (upW (z.map (·.2))) N left)->qs.Pairwise (fun p q=>HT.lexLt p.1 q.1=true)->IsD K H' (y3u left qs) (.ref p)->Q (.ref p) H'
theorem y8e(B:Bl mg)(z4b:Def P w K mg base "_law_low" 2 ["_law_top", "_law_bottom"] (y1x K))(z5s:Def P w K mg base "_law_books" 1 ["_law_names", "_law_menu_here"] (z9u K))(z3g:Def P w K mg base "_law_product" 1 ["_law_tables_here", "_law_book"] (y1t K))(F:Fn K mg "_law_due" z4L ["_law_tables_here", "_law_names", "_law_left", "_law_menu_here"]):Def P w K mg base "_law_due" 3 ["_law_tables_here", "_law_names", "_law_left", "_law_menu_here"] (y4Y K):=by
 refine F.ok z1S (fun vs H Q E h=>?_) (fun f cdv A outer s H vs Q E hr h=>?_)
 · obtain⟨a,n,lf,m,z,N,left,ms,D,M,rfl,_⟩:=h;rfl
 obtain⟨a,n,lf,m,z,N,left,ms,D,M,rfl,qa,hz,lim,z8,hN,nd,n5,hL,lN,l5,hM,m3,sub,D0,Dl,Ml,bd,q⟩:=h
 have big:(1000:Nat) < sizeLine:=by decide
 refine⟨_,(@z0c _ _ _ _ _ (@z2o _ 4 _ _ _ _ _ z1S.nd rfl (by first | exact Or.inl rfl | exact Or.inr rfl) z4r rfl (by first | exact .inl rfl | exact .inr rfl))
  (@z0c _ _ _ _ _ (z3a (j:=5) z1S.nd rfl rfl (CompOk.of (x := "_law_table_here") (M:=[]) (ix:=[]) rfl rfl (by decide +kernel) (by decide +kernel) rfl trivial (by rfl) trivial) rfl (by decide +kernel) (z0I (pv 0)) (fun _ _ _ _ _=>z2Z) (fun _ _ _ _ _=>(@z0R _ _ _ _ _ _ _ (z0q (z0i K rfl) (pv 0) z0d (fun _ _=>rfl)) (z0t (y0P (z7N hr) rfl) rfl B.dict PyProof.Rows.boot_dict (@z0b _ _ _ _ _ (z0t (z2l K rfl) rfl B.list PyProof.Rows.boot_list (@z0b _ _ _ _ _ (z0q (z0i K rfl) (pv 0) z0d (fun _ _=>rfl)) z0f rfl)) z0f rfl)) rfl rfl)))
  (@z0c _ _ _ _ _ (z1U PassesOwn.never rfl (z0I (z0p z5s hr rfl (@z0b _ _ _ _ _ (pv 1) (@z0b _ _ _ _ _ (pv 3) z0f rfl) rfl))) (z0v (i:=6) z1S.nd rfl (by first | exact Or.inl rfl | exact Or.inr rfl)) (@z0c _ _ _ _ _ (y7N (z0p z3g hr rfl (@z0b _ _ _ _ _ (pv 5) (@z0b _ _ _ _ _ (pv 6) z0f rfl) rfl)) (z7w rfl (z1p (z0v (i:=7) z1S.nd rfl (by first | exact Or.inl rfl | exact Or.inr rfl)) (z1p (z0v (i:=8) z1S.nd rfl (by first | exact Or.inl rfl | exact Or.inr rfl)) z4Q))))
  (@z0h _ _ _ (z3O (z0B y2e (pv 7) z0d (z1f _)) (@z0c _ _ _ _ _ (z0l (i:=9) z1S.nd rfl (by first | exact Or.inl rfl | exact Or.inr rfl) (z0t ((z1l K rfl).or (z1m K rfl)) rfl B.tuple PyProof.Rows.boot_tuple (@z0b _ _ _ _ _ (z3Q (CompOk.of (x := "_law_name_here") (M:=["_law_book"]) (ix:=[6]) rfl rfl (by decide +kernel) (by decide +kernel) rfl ⟨rfl,trivial⟩ (by rfl) ⟨⟨rfl,rfl,rfl,rfl⟩,trivial⟩) rfl (by decide +kernel) (z0I (pv 2)) (fun _ _ _ _ _=>z2Z) (fun _ _ _ _ _=>(z8u (z4m hr) (pv 1) (pv 0) (fun _ _=>rfl)))) z0f rfl)))
  (@z0c _ _ _ _ _ (z0l (i:=10) z1S.nd rfl (by first | exact Or.inl rfl | exact Or.inr rfl) (z6z (z4m hr) (pv 4) (pv 9) (@z0R _ _ _ _ _ _ _ z0d z0d rfl rfl) ⟨rfl,rfl,rfl,rfl⟩))
  (@z0h _ _ _ (z6v (z4m hr) (pv 4) (pv 9) (z0p z4b hr rfl (@z0b _ _ _ _ _ (z0m (z1j.or (z0x.or (z2v.or (z1b K rfl)))) (z0m z0S (z0q (z0i K rfl) (pv 10) z0d (fun _ _=>rfl)) (pv 8)) (z0m z0S (pv 7) (z0q (z0i K rfl) (pv 10) z0d (fun _ _=>rfl)))) (@z0b _ _ _ _ _ (z0m z0S (z0q (z0i K rfl) (pv 10) z0d (fun _ _=>rfl)) (pv 8)) z0f rfl) rfl)) rfl)))) z1k))))
  (@z0h _ _ _ (@z2G _ _ _ _ (@z0R _ _ _ _ _ _ _ (z0t ((z1l K rfl).or (z1m K rfl)) rfl B.tuple PyProof.Rows.boot_tuple (@z0b _ _ _ _ _ (pv 2) z0f rfl)) (z4R rfl (z7N hr) rfl B.sorted PyProof.Rows.boot_sorted (pv 4)) rfl rfl)))))),?_⟩
 intro dd fd
 have s0:=z0e fd (.dT [])
 have ed0:(upd H dd (.dT [])) dd=some (.dT []):=z0a
 generalize upd H dd (.dT [])=H0 at s0 ed0 ⊢
 have zl:(z.map (·.1)).length=z.length:=jA _
 dsimp only[z0Y]
 refine z8o ⟨_,rfl,a,rfl,⟨_,s0.seq qa⟩,?_⟩
 refine z6Q z.length (fun i=>(z.map (·.1)).getD i .non) (by omega) (fun i Da ys H'=>Same H0 H'/\H0 Da=none/\H' Da=some (.lst ys)/\i<=z.length/\Paired (Sd K dd H') ((z.take i).map (·.2)) ys) (fun Da f=>⟨z0e f _,f,z0a,jg _,.nil⟩) (fun i Da ys H' h=>by rw[<- h.2.2.2.2.length,jA,jS];have:=h.2.2.2.1;omega) (fun Da ys H' h=>⟨_,(s0.trans h.1).seq qa,by rw[zl];exact jE _⟩) (fun i Da ys H' hi h=>⟨⟨_,(z.map (·.1))[i]'(by omega),(s0.trans h.1).seq qa,jD (by omega)⟩,fun x H'' hy=>?_⟩) (fun i Da ys H' R hi h hR=>?_) (fun sl ys H5 h=>?_)
 · obtain⟨e,y⟩:=hy
   have:=y _ ((s0.trans h.1).seq qa)
   exact⟨by rw[jC,this];rfl,e⟩
 · obtain⟨s1,fD,eD,_,pr⟩:=h
   obtain⟨qq,eq⟩:∃ qq,z[i]? = some qq:=⟨_,jD hi⟩
   have qm:=jk eq
   have ex:(z.map (·.1)).getD i .non=qq.1:=by rw[jC,jF,eq];rfl
   rw[ex]
   obtain⟨p,l,e1,⟨v,sp,tz,dl⟩,zs,el,ks,j1,j2,j3⟩:=hz qq qm
   rw[e1]
   have s01:=s0.trans s1
   have sp1:=s01.tupq sp
   have el1:=s01 _ _ el
   refine⟨_,rfl,.inr (.inl ⟨p,_,0,.ref v,rfl,rfl,sp1,rfl,?_⟩)⟩
   refine⟨_,rfl,.inr (.inl ⟨p,_,1,.ref l,rfl,rfl,sp1,rfl,?_⟩)⟩
   refine⟨l,zs,rfl,.inl (.of el1),fun lq fl=>?_⟩
   have t1:=z0e fl (.lst zs)
   have eq1:(upd H' lq (.lst zs)) lq=some (.lst zs):=z0a
   generalize upd H' lq (.lst zs)=H2 at t1 eq1 ⊢
   have s02:=s01.trans t1
   have kl:=j2.length
   have ndk:(ks.map (·.1)).Nodup:=by rw[<- z3b (G:=fun r v=>IsD K H (dF r) v) j2];exact (lim qq qm).1
   refine⟨lq,zs,kz ks,rfl,eq1,y1S j1 (fun j x kv e1 e2=>?_),?_,fun dp fdp=>?_⟩
   · obtain⟨pp,bb,rfl,h1,h2⟩:=j3 j x kv e1 e2
     exact⟨pp,bb,rfl,s02 _ _ h1,by rw[z1P];exact s02 _ _ h2⟩
   · unfold kz
     rw[jA]
     have:=(lim qq qm).2.2.2
     omega
   rw[z5K _ _ (by rw[List.nil_append];exact y4p ndk),List.nil_append]
   have t2:=z0e fdp (.dT (kz ks))
   have e2:(upd H2 dp (.dT (kz ks))) dp=some (.dT (kz ks)):=z0a
   have ddn:dp≠dd:=fun z=>by rw[z,(s1.trans t1) _ _ ed0]at fdp;cases fdp
   generalize upd H2 dp (.dT (kz ks))=H3 at t2 e2 ⊢
   refine⟨by show 2<=sizeLine;decide,fun tp ftp=>?_⟩
   have t3:=z0e ftp (.tup [V.ref v,.ref dp])
   have e3:(upd H3 tp (.tup [V.ref v,.ref dp])) tp=some (.tup [V.ref v,.ref dp]):=z0a
   generalize upd H3 tp (.tup [V.ref v,.ref dp])=H4 at t3 e3 ⊢
   have t14:=(t1.trans t2).trans t3
   have eD4:=t14 _ _ eD
   refine hR (.ref tp) H4 eD4 ⟨z0o fD (s1.trans t14),fD,z0a,hi,?_⟩
   have tkz:(z.take (i + 1)).map (·.2)=(z.take i).map (·.2) ++ [qq.2]:=by rw[kx,eq,jT];rfl
   rw[tkz]
   refine z4q (Sd.updL ⟨tp,v,dp,ks,rfl,.of e3,(tz.same (s01.trans t14)).sq,t3 _ _ e2,j2.mono fun r v h=>h.same (s01.trans t14),ddn⟩ eD4) (z1C (fun _ _ h=>(h.same t14).updL eD4) pr)
 obtain⟨s1,fD,eD,_,pr⟩:=h
 rw[jy]at pr
 dsimp only[z0Y]
 have s05:=s0.trans s1
 have ed5:=s1 _ _ ed0
 refine z3k (σ':=[some (.ref a),some (.ref n),some (.ref lf),some (.ref m),some (.ref dd),some (.ref sl),none,none,none,none,none]) rfl ?_
 refine⟨_,rfl,_,rfl,n,m,N,ms,rfl,s05.seq hN,nd,n5,s05.seq hM,m3,fun fl H6 bs s6 efl prb=>?_⟩
 have n243:(bks ms N.length).length<=243:=by rw[z8R];exact z9h m3 n5
 have bl:=prb.length
 obtain⟨L,eL⟩:∃ L,L=upW (z.map (·.2)):=⟨_,rfl⟩
 rw[<- eL]at q bd
 refine⟨fl,rfl,⟨_,.of efl⟩,z0N (K:=K) (xs:=bs) (fun i σ H'=>Same H H'/\∃ (ks:List (List Int×V)) (c6 c7 c8 c9 c10:Option V),σ=[some (.ref a),some (.ref n),some (.ref lf),some (.ref m),some (.ref dd),some (.ref sl),c6,c7,c8,c9,c10]/\H' sl=some (.lst ys)/\Paired (Sd K dd H') (z.map (·.2)) ys/\H' fl=some (.lst bs)/\Paired (BkA H' N) (bks ms N.length) bs/\H' dd=some (.dT (kz ks))/\Acc K H' (z6O ms L N left i) ks)
  ⟨s05.trans s6,[],none,none,none,none,none,rfl,s6 _ _ eD,z1C (fun _ _ h=>h.same s6) pr,efl,prb,s6 _ _ ed5,.nil⟩ (fun i σ H' _ h=>by obtain⟨_,_,_,_,_,_,_,_,_,_,e,_⟩:=h;exact .of e) ?_ ?_⟩
 · rintro i x σ H7 hx ⟨s7,ks,c6,c7,c8,c9,c10,rfl,esl,prs,efl7,prb7,ed7,ac⟩
   obtain⟨k,ek,hk⟩:=z9F prb7 hx
   obtain⟨bd7,kvs,rfl,ebd,kvl,kval⟩:=id hk
   have kl:=ac.length
   have dl:=z9X ms L N left i
   have g0:∀ t∈z.map (·.2),∀ x∈t.1,valV kvs (kS x)=some (.int (asg N k x)):=fun t ht x hx=>by
    obtain⟨qq,hq,rfl⟩:=jN.mp ht
    exact kval x (sub qq hq x hx)
   have lim':∀ t∈z.map (·.2),Lim t:=fun t ht=>by
    obtain⟨qq,hq,rfl⟩:=jN.mp ht
    exact lim qq hq
   refine⟨_,rfl,_,rfl,dd,sl,bd7,ys,z.map (·.2),asg N k,kvs,rfl,.of esl,prs,ebd,g0,lim',by rw[jA];exact z8,fun p T Bo H8 s8 e8 t0 b0 t1 b1 eTB=>?_⟩
   rw[<- eL]at eTB
   refine⟨p,_,rfl,.of e8,rfl,_,_,rfl,_,_,rfl,rfl,?_⟩
   have ac8:Acc K H8 (z6O ms L N left i) ks:=ac.mono fun r v h=>h.same s8
   have prs8:Paired (Sd K dd H8) (z.map (·.2)) ys:=z1C (fun _ _ h=>h.same s8) prs
   have prb8:Paired (BkA H8 N) (bks ms N.length) bs:=z1C (fun _ _ h=>h.same s8) prb7
   refine⟨_,rfl,_,_,rfl,rfl,_,rfl,y3w (fun c=>?_) (fun c=>nxt ?_)⟩
   rotate_left
   · have hT:T=0:=by have c:¬ (0:Int) < T:=c;omega
     have:¬ 0 < prv L (asg N k):=by
      rw[<- eTB,hT,Rat.zero_divInt]
      decide
     exact⟨s7.trans s8,ks,_,_,_,c9,c10,rfl,s8 _ _ esl,prs8,s8 _ _ efl7,prb8,s8 _ _ ed7,by rw[y6V ek this];exact ac8⟩
   have c:(0:Int) < T:=c
   have pos:0 < prv L (asg N k):=by rw[<- eTB];exact z5T c b0
   rw[y4C ek pos]
   have hL8:=(s7.trans s8).seq hL
   have gi:=y6H hL8
   have gl:(left.map (asg N k)).length=(left.map V.str).length:=by rw[jA,jA]
   obtain⟨key,ekey⟩:∃ key,key=left.map (asg N k):=⟨_,rfl⟩
   refine y1C (z9i ⟨_,rfl,lf,rfl,⟨_,hL8⟩,z7Q (left.map (asg N k)) (fun i=>(left.map V.str).getD i .non) (by rw[jA];omega) (fun H' sm=>by rw[gl];exact gi.1 H' sm) (fun j H' hj sm=>gi.2 j H' (by rw[<- gl];exact hj) sm) (fun j x H3 R ex s3 hR=>?_) (fun p5 H3 s3 f5 e5=>?_)⟩)
   · rw[jF]at ex
     obtain⟨x0,en,rfl⟩:=jh.mp ex
     have nx:(left.map V.str).getD j .non = .str x0:=by rw[jC,jF,en];rfl
     rw[nx]
     exact⟨_,rfl,_,rfl,bd7,.int (asg N k x0),rfl,.inl ⟨kvs,kS x0,.inl ((s8.trans s3) _ _ ebd),rfl,(kval x0 (lN x0 (jk en))).symm⟩,hR H3 (Same.refl _)⟩
   rw[<- ekey]at e5 ⊢
   refine .inr ⟨p5,_,rfl,.inl ⟨.of e5,fun kp f6=>?_⟩⟩
   have s4:=z0e f6 (.tup (key.map V.int))
   have e6:(upd H3 kp (.tup (key.map V.int))) kp=some (.tup (key.map V.int)):=z0a
   generalize upd H3 kp (.tup (key.map V.int))=H4 at s4 e6 ⊢
   have s84:=s3.trans s4
   have ed4:=(s8.trans s84) _ _ ed7
   dsimp only[z0Y]
   refine⟨_,rfl,dd,rfl,.inr ⟨_,.inl ed4⟩,_,rfl,by show 2<=sizeLine;decide,fun dp f7=>?_⟩
   have s5:=z0e f7 (.tup [V.int 0,.int 1])
   have e7:(upd H4 dp (.tup [V.int 0,.int 1])) dp=some (.tup [V.int 0,.int 1]):=z0a
   have e67:=s5 _ _ e6
   generalize upd H4 dp (.tup [V.int 0,.int 1])=H9 at s5 e7 e67 ⊢
   have s89:=s84.trans s5
   have ed9:=s5 _ _ ed4
   have ac9:Acc K H9 (z6O ms L N left i) ks:=ac8.mono fun r v h=>h.same s89
   refine⟨_,DGet.t (k:=key.map Sum.inl) ed9 (by rw[z1P];exact e67),?_⟩
   obtain⟨r,er⟩:∃ r,r=(z5Z (z6O ms L N left i) key).getD 0:=⟨_,rfl⟩
   have dw:IsD K H9 (dF r) ((valV (kz ks) (key.map Sum.inl)).getD (.ref dp)):=by
    rcases ac9.val key with ⟨h1,h2⟩ | ⟨r',v',h1,h2,h3⟩
    · rw[h2,er,h1]
      exact⟨dp,_,rfl,.of e7,_,_,rfl,rfl,_,_,rfl,rfl,rfl⟩
    · rw[h2,er,h1]
      exact h3
   have ad:y0g (z6O ms L N left i) key (prv L (asg N k))=z3K (z6O ms L N left i) key (r + prv L (asg N k)):=by
    unfold y0g
    rw[er]
    cases z5Z (z6O ms L N left i) key with
    | none=>show z3K _ _ _=z3K _ _ (0 + _);rw[Rat.zero_add]
    | some r'=>rfl
   have rl:0<=r.num/\r.num<=2 ^ 1690/\r.den<=2 ^ 1680:=by
    cases ev:z5Z (z6O ms L N left i) key with
    | none =>
     rw[ev]at er
     subst er
     exact⟨by decide,Int.pow_nonneg (by decide),Nat.pow_pos (by decide)⟩
    | some r' =>
     rw[ev]at er
     obtain⟨gg,hgg,e1⟩:=y5F ev
     have:=(y6W D0 bd n243 gg hgg).lim D0
     rw[e1]at this
     have er:r=r':=er
     rw[er]
     have mm:((243 * M:Nat):Int)<=2 ^ 1690:=by
      have:243 * M<=2 ^ 1690:=jY (Nat.mul_le_mul (show 243<=2 ^ 10 by decide) Ml) (by rw[<- Nat.pow_add];exact jE _)
      exact_mod_cast this
     exact⟨this.1,Int.le_trans this.2.1 mm,jY this.2.2 Dl⟩
   obtain⟨w,ew,sw⟩:=y8I dw
   rw[ew]
   obtain⟨rn0,rn1,rd1⟩:=rl
   have rd0:=r.den_pos
   have big2:∀ {x:Int}{j:Nat},0<=x->x<=2 ^ j->j<=1690->x.natAbs < 2 ^ 1691:=fun {x j} x0 x1 hj=>by
    have h1:(2:Nat) ^ j < 2 ^ 1691:=Nat.pow_lt_pow_right (by decide) (by omega)
    have h2:(x.natAbs:Int)<=((2 ^ j:Nat):Int):=by rw[Int.natAbs_of_nonneg x0];push_cast;exact x1
    have h3:x.natAbs<=2 ^ j:=by exact_mod_cast h2
    omega
   have zn:=big2 rn0 rn1 (by decide)
   have zd:((r.den:Nat):Int).natAbs < 2 ^ 1691:=big2 (by omega) (by exact_mod_cast rd1) (by decide)
   have zT:=big2 t0 t1 (by decide)
   have zB:=big2 (qP b0) b1 (by decide)
   dsimp only[z0Y]
   refine⟨_,rfl,.inr (.inl ⟨w,_,0,.int r.num,rfl,rfl,sw,rfl,_,rfl,_,_,rfl,rfl,z3d zn zB (by decide),?_⟩)⟩
   refine⟨_,rfl,_,rfl,.inr (.inl ⟨w,_,1,.int (r.den:Int),rfl,rfl,sw,rfl,_,_,rfl,rfl,z3d zT zd (by decide),.inl ⟨_,_,rfl,rfl,?_⟩⟩)⟩
   refine⟨_,rfl,.inr (.inl ⟨w,_,1,.int (r.den:Int),rfl,rfl,sw,rfl,_,rfl,_,_,rfl,rfl,z3d zd zB (by decide),?_⟩)⟩
   have rdp:(0:Int) < (r.den:Int):=by omega
   have zz:((r.den:Int) * Bo).natAbs < 2 ^ 8000:=by
    rw[Int.natAbs_mul]
    have h1:((r.den:Int)).natAbs * Bo.natAbs<=2 ^ 1691 * 2 ^ 1691:=Nat.mul_le_mul (kP zd) (kP zB)
    rw[<- Nat.pow_add]at h1
    exact kF h1 (Nat.pow_lt_pow_right (by decide) (by decide))
   refine⟨_,_,rfl,Int.add_nonneg (Int.mul_nonneg rn0 (qP b0)) (Int.mul_nonneg t0 (qP rdp)),qH rdp b0,zz,fun vp HA sA nvp dvp=>?_⟩
   have ev:Rat.divInt (r.num * Bo + T * (r.den:Int)) ((r.den:Int) * Bo)=r + prv L (asg N k):=by
    rw[<- eTB]
    conv=>rhs;rw[<- ki r]
    rw[Rat.divInt_add_divInt _ _ (by omega) (by omega)]
   rw[ev]at dvp
   have edA:=sA _ _ ed9
   have e67A:=sA _ _ e67
   have lz:(kz ks).length < sizeLine:=by unfold kz;rw[jA];omega
   refine⟨_,rfl,_,rfl,dd,_,rfl,DPut.t (k:=key.map Sum.inl) edA (by rw[z1P];exact e67A) lz,?_⟩
   have s8A:=s89.trans sA
   have s7A:=s8.trans s8A
   have ne1:sl≠dd:=fun z=>by rw[z,ed7]at esl;cases esl
   have ne2:fl≠dd:=fun z=>by rw[z,ed7]at efl7;cases efl7
   refine⟨z0o fd (s7.trans s7A),z3K ks key (.ref vp),_,_,_,_,_,rfl,by rw[z0k ne1];exact s7A _ _ esl,z1C (fun _ _ h=>(h.same s8A).updD edA) prs8,by rw[z0k ne2];exact s7A _ _ efl7,z1C (fun _ _ h=>(h.same s8A).updD edA) prb8,by rw[z0a,z7G],?_⟩
   rw[ad]
   exact ((ac9.mono fun r v h=>h.same sA).set dvp).mono (z9Z edA)
 · rintro σ H7 ⟨s7,ks,c6,c7,c8,c9,c10,rfl,esl,prs,efl7,prb7,ed7,ac⟩
   rw[<- bl,z9Y]at ac
   have kl:=ac.length
   have dl:(y5v ms L N left).length<=243:=by rw[<- z9Y];exact jY (z9X ms L N left _) n243
   refine⟨_,rfl,.inl ⟨lf,_,rfl,s7.seq hL,fun v o nv ov=>?_⟩⟩
   have s1':=z0e nv (.frz o (.tup (left.map V.str)))
   refine⟨_,rfl,dd,ks,rfl,s1' _ _ ed7,by omega,fun H2 l qs xs' pm pw s2 nl e2 ln' pr'=>⟨(by show 2<=sizeLine;decide),fun p np=>?_⟩⟩
   have s3:=z0e np (.tup [V.ref v,.ref l])
   obtain⟨acc',h1,h2⟩:=z6w pm ac
   have hk:acc'.map (·.1)=qs.map (·.1):=z3b (G:=fun r v=>IsD K H7 (dF r) v) h2
   have al:=h2.length
   have zt:TupZ (upd H7 v (.frz o (.tup (left.map V.str)))) v (left.map V.str):=⟨o,z0a,ov⟩
   have dl':IsD K H2 (.lst (acc'.map z3G)) (.ref l):=by
    refine⟨l,xs',rfl,.of e2,z5d (by rw[jA];omega) fun i x d' e1 e3=>?_⟩
    rw[jF]at e3
    cases ea:acc'[i]? with
    | none=>rw[ea]at e3;cases e3
    | some kr =>
     rw[ea]at e3
     cases e3
     obtain⟨kv,e4,e5,e6⟩:=z5I h2 ea
     obtain⟨pp,b,rfl,e7,e8⟩:=pr' i x kv e1 e4
     exact⟨pp,_,rfl,.of e7,_,_,rfl,⟨b,_,rfl,.of e8,by rw[<- e5];exact z2L _⟩,_,_,rfl,e6.same (s1'.trans s2),rfl⟩
   refine q p acc' _ (((s7.trans s1').trans s2).trans s3) h1 ?_ ⟨p,_,rfl,.of z0a,_,_,rfl,⟨v,_,rfl,(zt.same (s2.trans s3)).sq,z1Z _⟩,_,_,rfl,dl'.same s3,rfl⟩
   have:(qs.map (·.1)).Pairwise fun a b=>HT.lexLt a b=true:=kA.mpr pw
   rw[<- hk]at this
   exact kA.mp this
theorem AP.mono{mo:Nat}{Q Q':Tb->Prop}{E E':Prop}(hq:∀ t,Q t->Q' t)(he:E->E'):∀ {ns:List Str}{ts:List Tb},AP mo Q E ns ts->AP mo Q' E' ns ts
 | [],[],h=>hq _ h
 | [],_ :: _,h=>JF.monoE hq he h
 | n :: ns,ts,h=>by
  unfold AP at h ⊢
  cases e:ts.filter fun t=>decide (n∈t.1) with
  | nil=>rw[e]at h;exact AP.mono hq he h
  | cons a r=>rw[e]at h;exact JF.monoE (fun c ⟨h1,h2⟩=>⟨h1,fun qs p1 p2=>AP.mono hq he (h2 qs p1 p2)⟩) he h
def y3V(c:Int):List Str:=[y4e c 0,y4e c 1,y4e c 2,y4e c 3,y4e c 4,y4e c 5]
structure Tabs (pool:List Str) (ms:List Int) (D:Nat) (ts:List Tb):Prop where
 p5:pool.length<=5
 m3:ms.length<=3
 nd:ms.Nodup
 d0:0 < D
 dl:D<=42 * 10 ^ 60
 tm:∀ t∈ts,Tm pool ms D (210 * 10 ^ 60) t.1 t.2
 ps:∀ t∈ts,∀ r∈t.2,0 < r.2
 n0:1<=ts.length
 n8:ts.length<=8
section
variable {pool:List Str}{ms:List Int}{D:Nat}{ts:List Tb}
theorem Tabs.bds(h:Tabs pool ms D ts):Bds pool ms D (210 * 10 ^ 60):=⟨h.p5,h.m3,h.nd,h.d0,jY h.dl (by decide),by decide⟩
theorem Tabs.tmw(h:Tabs pool ms D ts):∀ t∈upW ts,TmW pool ms D (210 * 10 ^ 60) t:=fun t ht=>by
 obtain⟨u,hu,rfl⟩:=jN.mp ht
 have:=h.tm u hu
 show Tm pool ms (D ^ 1) ((210 * 10 ^ 60) ^ 1 * 243 ^ 0) u.1 u.2
 rw[Nat.pow_one,Nat.pow_one,Nat.pow_zero,Nat.mul_one]
 exact this
theorem Tabs.psw(h:Tabs pool ms D ts):∀ t∈upW ts,∀ r∈t.1.2,0 < r.2:=fun t ht=>by
 obtain⟨u,hu,rfl⟩:=jN.mp ht
 exact h.ps u hu
theorem y4U:∀ ts:List Tb,sE (upW ts)=ts.length/\sP (upW ts)=0
 | []=>⟨rfl,rfl⟩
 | t :: ts=>by
  obtain⟨h1,h2⟩:=y4U ts
  have e1:sE (upW (t :: ts))=1 + sE (upW ts):=rfl
  have e2:sP (upW (t :: ts))=0 + sP (upW ts):=rfl
  rw[e1,e2,h1,h2,jx]
  exact⟨Nat.add_comm ..,rfl⟩
theorem Tabs.lim(h:Tabs pool ms D ts):∀ t∈ts,Lim t:=fun t ht=>by
 have tm:=h.tm t ht
 refine⟨z1G tm.st,jY (tm.few5 h.p5) (by decide),fun r hr=>?_,tm.cnt5 h.p5 h.m3⟩
 obtain⟨a1,a2,a3⟩:=(tm.b r hr).lim h.d0
 refine⟨a1,Int.le_trans a2 (by decide),jY a3 (jY h.dl (by decide))⟩
theorem y8U{t:Tb}{M:Nat}(tm:Tm pool ms D M t.1 t.2)(g:Str->Int):Bd D M (vl t g):=by
 by_cases c:hv t g
 · obtain⟨r,hr,e⟩:=jN.mp c
   have:vl t g=r.2:=by unfold vl;rw[<- e];exact z3T (z1G tm.st) hr
   rw[this];exact tm.b r hr
 · rw[z8g c]
   exact⟨0,jg _,by simp⟩
theorem y7L{M:Nat}(g:Str->Int):∀ {ts:List Tb},(∀ t∈ts,Tm pool ms D M t.1 t.2)->Bd (D ^ ts.length) (M ^ ts.length) (prv (upW ts) g)
 | [],_=>⟨1,jE _,by show (1:Rat)=Rat.divInt ((1:Nat):Int) ((D ^ 0:Nat):Int);rw[Nat.pow_zero];rfl⟩
 | t :: ts,h=>by
  rw[jx,Nat.pow_succ,Nat.pow_succ,Nat.mul_comm,Nat.mul_comm (M ^ _)]
  exact (y8U (h t (by simp)) g).mul (y7L g fun u hu=>h u (jK _ hu))
theorem Tabs.any(h:Tabs pool ms D ts){N ns left:List Str}{qs:List Rw}(ln:ns.length<=8)(pwN:N.Pairwise ltS)(hN:∀ n,n∈N↔∃ t∈ts,n∈t.1)(hl:left=N.filter fun n => !decide (n∈ns))(pm:qs.Perm (y5v ms (upW ts) N left))(st:qs.Pairwise fun p q=>HT.lexLt p.1 q.1=true){Et:Prop} :
 AP 500 (fun T=>T=(left,qs)) Et ns ts:=by
 have e:(upW ts).map (·.1)=ts:=by unfold upW;rw[kh];exact List.map_id _
 obtain⟨e1,e2⟩:=y4U ts
 have hN':∀ n,n∈N↔nms (upW ts) n:=fun n=>by
  rw[hN]
  constructor
  · rintro⟨t,ht,z⟩;exact⟨(t,1,0),kM ht,z⟩
  · rintro⟨t,ht,z⟩
    obtain⟨u,hu,rfl⟩:=jN.mp ht
    exact⟨u,hu,z⟩
 have:=y3j (Et:=Et) h.bds (mo:=500) (by decide) ns (upW ts) (fun z=>by have:=h.n0;rw[<- e,z]at this;exact absurd this (by decide)) h.tmw (by rw[e1];exact h.n8) (by rw[e2];omega) (Qt:=fun T=>T=(left,qs)) fun T hT hn hX=>y8E h.bds h.tmw h.psw pwN hN' hl hT hn hX pm st
 rw[e]at this
 exact this
end
section
variable {H0:Hp}{σ:St}{j t:Nat}{a:Addr}{xs:List Str}{k:Nat}{te:TE}
theorem z4Y{H:Hp}{p:Addr}{xs:List Str}(e:H p=some (.lst (xs.map V.str))):IsD [] H (.lst (xs.map .str)) (.ref p):=⟨p,_,rfl,.inl (.inl e),z1Z _⟩
theorem y4i(hv:σ[j]? = some (some (.ref a)))(hS:SqL K H0 a (xs.map V.str))(ht:σ[t]? = some (some (.int (k:Int)))):MkD H0 σ (tSl (y7H K) (y0Z j) (y3I (y0Z t)) z6b) (.lst ((xs.drop k).map .str)):=fun H s Q q=>⟨_,hv,_,ht,_,rfl,a,_,rfl,s.seq hS,fun p fp=>q _ _ (z0e fp _) (z4Y (by rw[z0a,y4H,List.map_drop]))⟩
theorem y4g(hv:σ[j]? = some (some (.ref a)))(hS:SqL K H0 a (xs.map V.str))(ht:σ[t]? = some (some (.int (k:Int)))):MkD H0 σ (tSl (y7H K) (y0Z j) z6b (y3I (y0Z t))) (.lst ((xs.take k).map .str)):=fun H s Q q=>⟨_,hv,_,ht,_,rfl,a,_,rfl,s.seq hS,fun p fp=>q _ _ (z0e fp _) (z4Y (by rw[z0a,z6P,List.map_take]))⟩
theorem y4h(hv:σ[j]? = some (some (.ref a)))(hS:SqL K H0 a (xs.map V.str)):MkD H0 σ (tSl (y7H K) (y0Z j) z6b (y3I (tC (.int (k:Int))))) (.lst ((xs.take k).map .str)):=fun H s Q q=>⟨_,hv,_,rfl,a,_,rfl,s.seq hS,fun p fp=>q _ _ (z0e fp _) (z4Y (by rw[z0a,z6P,List.map_take]))⟩
theorem y6z(h:MkD H0 σ te (.lst (xs.map .str))):MkD H0 σ (z9n K te) (.lst (xs.reverse.map .str)):=fun H s Q q=>h H s _ fun v H1 s1 dv=>by
 obtain⟨a,ys,rfl,sq,dy⟩:=dv
 rw[z3B dy]at sq
 exact⟨a,_,rfl,sq0 sq,fun l fl=>q _ _ (s1.trans (z0e fl _)) (z4Y (by rw[z0a,List.map_reverse]))⟩
end
theorem y2O:∀ {z:List (V×Tb)},(∀ q∈z,q.2.1.length<=5)->(z.flatMap fun q=>q.2.1).length<=5 * z.length
 | [],_=>jg _
 | q :: z,h=>by
  have:=y2O (z:=z) fun x hx=>h x (jK _ hx)
  have:=h q (by simp)
  rw[List.flatMap_cons,jG,jx]
  omega
def zD(z:List (V×Tb)):List D:=z.map fun q=>y3u q.2.1 q.2.2
theorem y3i{C:Addr}{sp:Sp}(e:z1r K C=sp){H:Hp}{Q:VK}{E:XK}{a o:Addr}{z:List (V×Tb)}{ns:List Str}{T:Tb}(qa:SqL K H a (z.map (·.1)))(qo:SqL K H o (ns.map V.str))(lz:z.length<=900)(ln:ns.length<=900)(tz:TsAt K H z)(ap:AP 500 (fun T'=>T'=T) False ns (z.map (·.2)))
 (k:∀ p H',Same H H'->IsD K H' (y3u T.1 T.2) (.ref p)->Q (.ref p) H') {vs:List V} (ev:vs=[.ref a,.ref o,.int 500]):sp vs H Q E:=by
 subst e ev
 exact⟨a,o,z,ns,500,rfl,qa,qo,lz,ln,by decide,tz,AP.mono (fun T' hT=>by subst hT;exact fun p l H' s' _ _ _ d=>k p H' s' d) (fun h=>h.elim) ap⟩
theorem y5A{H:Hp}:∀ {z:List (V×Tb)},TsAt K H z->IsDs K H (zD z) (z.map (·.1))
 | [],_=>rfl
 | q :: z,h=>by
  obtain⟨p,l,e,t⟩:=h q (by simp)
  exact⟨q.1,_,rfl,by rw[e];exact t.isJ,y5A fun x hx=>h x (jK _ hx)⟩
theorem y1b:∀ z:List (V×Tb),D.deeps (zD z)<=20
 | []=>jg _
 | q :: z=>by
  have h1:=y1b z
  have h2:(y3u q.2.1 q.2.2).deep<=20:=by
   have a1:=z3j q.2.1
   have a2:=z4N q.2.2
   show D.deeps [.tup (q.2.1.map D.str),.lst (q.2.2.map z3G)] + 1<=20
   show max (D.deeps (q.2.1.map D.str) + 1) (max (D.deeps (q.2.2.map z3G) + 1) 0) + 1<=20
   omega
  show max (y3u q.2.1 q.2.2).deep (D.deeps (zD z))<=20
  omega
theorem z9j(ns:List Str)(rs:List Rw):(y3u ns rs).deep<=60:=z8i ns rs
theorem y7k{F:Tb->V->Prop}:∀ {z:List (V×Tb)}{ys:List V},Paired (fun q y=>F q.2 y) z ys->∃ z':List (V×Tb),z'.map (·.1)=ys/\z'.map (·.2)=z.map (·.2)/\∀ q∈z',F q.2 q.1
 | [],[],.nil=>⟨[],rfl,rfl,fun _ h=>nomatch h⟩
 | q :: z,y :: ys,.cons h t=>by
  obtain⟨z',e1,e2,h'⟩:=y7k t
  refine⟨(y,q.2) :: z',by rw[jV,e1],by rw[jV,e2];rfl,fun x hx=>?_⟩
  rcases jQ.mp hx with rfl | hx
  · exact h
  · exact h' x hx
theorem y7l{z z':List (V×Tb)}(e:z'.map (·.2)=z.map (·.2)):zD z'=zD z:=by
 have:∀ z:List (V×Tb),zD z=(z.map (·.2)).map fun t=>y3u t.1 t.2:=fun z=>by unfold zD;rw[kh];rfl
 rw[this,this,e]
def y1y(K:PySem.W.Frag):Sp:=fun vs H Q _=>∃ (a:Addr) (ns:List Int),vs=[.ref a]/\SqL K H a (ns.map V.int)/\ns.length<=63/\∀ H',Q (.bl true) H'
theorem y8d(B:Bl mg)(z0s:Def P w K mg base "_law_cell_at" 1 ["_law_script", "_law_k"] (z6h (K:=K)))(z6U:Def P w K mg base "_law_name" 1 ["_law_cell", "_law_k"] y1v)(z6V:Def P w K mg base "_law_menu" 1 ["_law_cell", "_law_other"] y1w)(z4a:Def P w K mg base "_law_tables" 3 ["_law_script", "_law_pool", "_law_menu_here"] (y1s K))(z9c:Def P w K mg base "_law_due" 3 ["_law_tables_here", "_law_names", "_law_left", "_law_menu_here"] (y4Y K))
 (z2t:DefD P w K mg base "all_pushed" 7 ["tables", "order", "most"] (.int 500) (z1r K z0j)) {f:Addr}{fd:FuncData} (F:Fun K "law" "law" z5t f fd):FnOk P w K mg base CX0 16 f fd ["_law_script"] (y1y K):=by
 refine F.ok z1i (fun vs H Q E h=>?_) (fun cdv A outer s H vs Q E hr h=>?_)
 · obtain⟨a,ns,rfl,_⟩:=h;rfl
 obtain⟨a,ns,rfl,hS,hl,q⟩:=h
 generalize eA:z1r K z0j=SA at z2t
 refine⟨_,(@z0c _ _ _ _ _ (z3a (j:=1) z1i.nd rfl rfl (CompOk.of (x := "_law_k") (M:=["_law_script"]) (ix:=[0]) rfl rfl (by decide +kernel) (by decide +kernel) rfl ⟨rfl,trivial⟩ (by rfl) ⟨⟨rfl,rfl,rfl,rfl⟩,trivial⟩) rfl (by decide +kernel) (z3r rfl B.range (@z0b _ _ _ _ _ z0d z0f rfl)) (fun _ _ _ _ _=>z2Z) (fun _ _ _ _ _=>(z0p z6U hr rfl (@z0b _ _ _ _ _ (z0p z0s hr rfl (@z0b _ _ _ _ _ (pv 1) (@z0b _ _ _ _ _ z0d z0f rfl) rfl)) (@z0b _ _ _ _ _ (pv 0) z0f rfl) rfl))))
  (@z0c _ _ _ _ _ (z0l (i:=2) z1i.nd rfl (by first | exact Or.inl rfl | exact Or.inr rfl) (z0p z6V hr rfl (@z0b _ _ _ _ _ (z0p z0s hr rfl (@z0b _ _ _ _ _ (pv 0) (@z0b _ _ _ _ _ z0d z0f rfl) rfl)) (@z0b _ _ _ _ _ (z0p z0s hr rfl (@z0b _ _ _ _ _ (pv 0) (@z0b _ _ _ _ _ z0d z0f rfl) rfl)) z0f rfl) rfl)))
  (@z0c _ _ _ _ _ (z0l (i:=3) z1i.nd rfl (by first | exact Or.inl rfl | exact Or.inr rfl) (z0p z4a hr rfl (@z0b _ _ _ _ _ (pv 0) (@z0b _ _ _ _ _ (pv 1) (@z0b _ _ _ _ _ (pv 2) z0f rfl) rfl) rfl)))
  (@z0c _ _ _ _ _ (@z2o _ 4 _ _ _ _ _ z1i.nd rfl (by first | exact Or.inl rfl | exact Or.inr rfl) (@z4S _ _) rfl (by first | exact .inl rfl | exact .inr rfl))
  (@z0c _ _ _ _ _ (z1U PassesOwn.never rfl (z0I (pv 3)) (z0v (i:=5) z1i.nd rfl (by first | exact Or.inl rfl | exact Or.inr rfl)) (@z0h _ _ _ (z2p (z6A PySem.F.plainAttrs_list PySem.F.slot_list_extend PySem.F.type_list_extend (y0z K rfl) (pv 4) (@z0b _ _ _ _ _ (z0q (z0i K rfl) (pv 5) z0d (fun _ _=>rfl)) z0f rfl)))))
  (@z0c _ _ _ _ _ (z0l (i:=6) z1i.nd rfl (by first | exact Or.inl rfl | exact Or.inr rfl) (z3P K rfl rfl rfl B.sorted PyProof.Rows.boot_sorted rfl B.set PyProof.Rows.boot_set (pv 4)))
  (@z0c _ _ _ _ _ (z0l (i:=7) z1i.nd rfl (by first | exact Or.inl rfl | exact Or.inr rfl) (z0m z0E (z0p z0s hr rfl (@z0b _ _ _ _ _ (pv 0) (@z0b _ _ _ _ _ z0d z0f rfl) rfl)) z0d))
  (@z0c _ _ _ _ _ (@z2o _ 8 _ _ _ _ _ z1i.nd rfl (by first | exact Or.inl rfl | exact Or.inr rfl) (@z4S _ _) rfl (by first | exact .inl rfl | exact .inr rfl))
  (@z0c _ _ _ _ _ (z1U PassesOwn.never rfl (z0I (z1V (z2n K rfl) (pv 1) z2I (z2H z0d))) (z0v (i:=9) z1i.nd rfl (by first | exact Or.inl rfl | exact Or.inr rfl)) (@z0c _ _ _ _ _ (z3O (z0B (z3u.or (z5J K rfl hr.units)) (z0m z0E (pv 7) z0d) z0d (z1f _)) (@z0h _ _ _ (z2p (z6A PySem.F.plainAttrs_list PySem.F.slot_list_append PySem.F.type_list_append z1h (pv 8) (@z0b _ _ _ _ _ (pv 9) z0f rfl)))) z1k)
  (@z0h _ _ _ (z0l (i:=7) z1i.nd rfl (by first | exact Or.inl rfl | exact Or.inr rfl) (z0m z1N (pv 7) z0d)))))
  (@z0c _ _ _ _ _ (z2p (z6A PySem.F.plainAttrs_list PySem.F.slot_list_append PySem.F.type_list_append z1h (pv 8) (@z0b _ _ _ _ _ (z0q (z0i K rfl) (pv 1) z0d (fun _ _=>rfl)) z0f rfl)))
  (@z0c _ _ _ _ _ (z0l (i:=10) z1i.nd rfl (by first | exact Or.inl rfl | exact Or.inr rfl) (z0m z0E (z0m z1N (z0p z0s hr rfl (@z0b _ _ _ _ _ (pv 0) (@z0b _ _ _ _ _ z0d z0f rfl) rfl)) z0d) (z0W (z1x K rfl) rfl B.len PySem.boot_len (@z0b _ _ _ _ _ (pv 8) z0f rfl))))
  (@z0c _ _ _ _ _ (z0l (i:=11) z1i.nd rfl (by first | exact Or.inl rfl | exact Or.inr rfl) (z0m y8b (z0m y8b (y0w K rfl rfl rfl B.list PyProof.Rows.boot_list rfl B.reversed PyProof.Rows.boot_reversed (z1V (z2n K rfl) (pv 8) (z2H (pv 10)) z2I)) (z1V (z2n K rfl) (pv 8) z2I (z2H (pv 10)))) (z1V (z2n K rfl) (pv 8) z2I (z2H z0d))))
  (@z0c _ _ _ _ _ (z0l (i:=12) z1i.nd rfl (by first | exact Or.inl rfl | exact Or.inr rfl) (z0p z9c hr rfl (@z0b _ _ _ _ _ (pv 3) (@z0b _ _ _ _ _ (pv 6) (@z0b _ _ _ _ _ (z3Q (CompOk.of (x := "_law_name_here") (M:=["_law_order"]) (ix:=[8]) rfl rfl (by decide +kernel) (by decide +kernel) rfl ⟨rfl,trivial⟩ (by rfl) ⟨⟨rfl,rfl,rfl,rfl⟩,trivial⟩) rfl (by decide +kernel) (z0I (pv 6)) (fun _ _ _ _ _=>(z3N (z0B (z7z K rfl) (pv 0) (pv 1) (by rfl)))) (fun _ _ _ _ _=>(pv 0))) (@z0b _ _ _ _ _ (pv 2) z0f rfl) rfl) rfl) rfl)))
  (@z0c _ _ _ _ _ (z3a (j:=13) z1i.nd rfl rfl (CompOk.of (x := "_law_table_here") (M:=[]) (ix:=[]) rfl rfl (by decide +kernel) (by decide +kernel) rfl trivial (by rfl) trivial) rfl (by decide +kernel) (z0I (pv 3)) (fun _ _ _ _ _=>z2Z) (fun _ _ _ _ _=>(@z0R _ _ _ _ _ _ _ (z0q (z0i K rfl) (pv 0) z0d (fun _ _=>rfl)) (z0t (z2l K rfl) rfl B.list PyProof.Rows.boot_list (@z0b _ _ _ _ _ (z0q (z0i K rfl) (pv 0) z0d (fun _ _=>rfl)) z0f rfl)) rfl rfl)))
  (@z0c _ _ _ _ _ (z0l (i:=14) z1i.nd rfl (by first | exact Or.inl rfl | exact Or.inr rfl) (z0t (z2l K rfl) rfl B.list PyProof.Rows.boot_list (@z0b _ _ _ _ _ (pv 8) z0f rfl)))
  (@z0c _ _ _ _ _ (z0l (i:=15) z1i.nd rfl (by first | exact Or.inl rfl | exact Or.inr rfl) (y2a z2t hr rfl y5i (@z0b _ _ _ _ _ (pv 13) (@z0b _ _ _ _ _ (pv 14) z0f rfl) rfl)))
  (@z0c _ _ _ _ _ (z0l (i:=16) z1i.nd rfl (by first | exact Or.inl rfl | exact Or.inr rfl) (y2a z2t hr rfl y5i (@z0b _ _ _ _ _ (pv 3) (@z0b _ _ _ _ _ (pv 11) z0f rfl) rfl)))
  (@z0c _ _ _ _ _ (z3O (PW.pt (y7K (z0B (y5j K rfl hr.units) (pv 13) (pv 3) (z1f _)) (y5a (z0B (y5j K rfl hr.units) (pv 14) (pv 8) (z1f _))))) (@z0h _ _ _ (@z2G _ _ _ _ y9r)) z1k)
  (@z0h _ _ _ (@z2G _ _ _ _ (y5h (z8w (z3u.or (z5J K rfl hr.units)) (pv 15) (pv 12) (z1f _)) (y5g (z8w (z3u.or (z5J K rfl hr.units)) (pv 16) (pv 12) (z1f _)))))))))))))))))))))))),?_⟩
 have big:(1000:Nat) < sizeLine:=by decide
 refine z8o ⟨_,rfl,(by decide),(by decide),?_⟩
 refine y0N (K:=K) (n:=6) ((y3V (cell ns 0)).map D.str) rfl (by decide) (z3v fun d hd=>by obtain⟨_,_,rfl⟩:=jN.mp hd;rfl) (fun i d H' R hi hd sm hR=>?_) (fun pp H1 s1 dl=>?_)
 · have e:((y3V (cell ns 0)).map D.str)[i]? = some (.str (y4e (cell ns 0) i)):=by
    have h:i=0\/i=1\/i=2\/i=3\/i=4\/i=5:=by omega
    rcases h with rfl | rfl | rfl | rfl | rfl | rfl <;> rfl
   rw[e]at hd
   cases hd
   rw[Int.zero_add]
   exact⟨_,rfl,a,ns,0,rfl,sm.seq hS,(by decide),_,rfl,cell ns 0,i,rfl,by omega,by omega,fun H' s'=>hR _ _ s' rfl⟩
 obtain⟨_,ys,ee,qpp,dys⟩:=dl
 cases ee
 rw[z7L dys]at qpp
 have pl6:(y3V (cell ns 0)).length=6:=rfl
 generalize y3V (cell ns 0)=pool at qpp pl6
 dsimp only[z0Y]
 refine z3k (σ':=[some (.ref a),some (.ref pp),none,none,none,none,none,none,none,none,none,none,none,none,none,none,none]) rfl ?_
 have hS1:=s1.seq hS
 refine y1C (y9G (z3R rfl hS1 (by decide)) (z3R rfl hS1 (by decide)) fun v v' H2 s2 dv dv'=>?_)
 have dv:v = .int _:=dv
 have dv':v' = .int _:=dv'
 subst dv dv'
 refine⟨_,_,rfl,fun ms pm H3 s3 e3 l1 l3 nd=>?_⟩
 have s23:=s2.trans s3
 refine⟨_,rfl,_,rfl,_,rfl,a,pp,pm,ns,ms,pool,rfl,s23.seq hS1,hl,s23.seq qpp,by omega,.of e3,l1,l3,fun tl z Dn H4 s4 ftl etl z1 z8 d0 Dl hz=>?_⟩
 have TB:Tabs (pool.take 5) ms Dn (z.map (·.2)):=⟨by rw[jS];omega,l3,nd,d0,Dl,fun t ht=>by
  obtain⟨qq,hq,rfl⟩:=jN.mp ht
  obtain⟨_,_,_,_,_,h,_⟩:=hz qq hq
  exact h,fun t ht=>by
  obtain⟨qq,hq,rfl⟩:=jN.mp ht
  obtain⟨_,_,_,_,_,_,h,_⟩:=hz qq hq
  exact h,by rw[jA];exact z1,by rw[jA];exact z8⟩
 have s14:=s23.trans s4
 have qp4:=s14.seq qpp
 have hS4:=s14.seq hS1
 have em4:=s4 _ _ e3
 clear s2 s3 s23 s4
 dsimp only[z0Y]
 refine⟨by show 0<=sizeLine;decide,fun hl' fhl=>?_⟩
 dsimp only[z0Y]
 refine z3k (σ':=[some (.ref a),some (.ref pp),some (.ref pm),some (.ref tl),some (.ref hl'),none,none,none,none,none,none,none,none,none,none,none,none]) rfl ?_
 have hz4:=hz
 have zl:(z.map (·.1)).length=z.length:=jA _
 have u0:=z0e fhl (.lst [])
 refine⟨_,rfl,tl,rfl,⟨_,.of (u0 _ _ etl)⟩,z0N (K:=K) (xs:=z.map (·.1)) (fun i σ H'=>Same H4 H'/\∃ (c5:Option V),σ=[some (.ref a),some (.ref pp),some (.ref pm),some (.ref tl),some (.ref hl'),c5,none,none,none,none,none,none,none,none,none,none,none]/\H' hl'=some (.lst (((z.take i).flatMap fun q=>q.2.1).map V.str))) ⟨u0,none,rfl,z0a⟩ (fun i σ H' _ h => .of (h.1 _ _ etl)) ?_ ?_⟩
 · rintro i x σ H5 hx ⟨s5,c5,rfl,e5⟩
   rw[jF]at hx
   obtain⟨qq,eq,rfl⟩:=jh.mp hx
   obtain⟨p,k,e1,_,⟨⟨v,sp,tz,dl⟩,_⟩,tm,_⟩:=hz qq (jk eq)
   rw[e1]
   have tkz:(z.take (i + 1)).flatMap (fun q=>q.2.1)=(z.take i).flatMap (fun q=>q.2.1) ++ qq.2.1:=by rw[kx,eq,List.flatMap_append];show _ ++ [qq].flatMap _=_;rw[List.flatMap_singleton]
   have s05:=s5
   have f5:=y2O (z:=z.take i) fun q hq=>(by obtain⟨_,_,_,_,_,h,_⟩:=hz q (kG hq);exact h.few5 TB.p5)
   have f6:qq.2.1.length<=5:=tm.few5 TB.p5
   rw[jS]at f5
   refine⟨_,rfl,.inl ⟨rfl,_,.of e5⟩,_,rfl,.inr (.inl ⟨p,_,0,.ref v,rfl,rfl,s5.tupq sp,rfl,hl',v,_,_,rfl,rfl,e5,(tz.same s5).sq,by rw[jA,jA];omega,z0o fhl s5,_,rfl,?_⟩)⟩
   rw[z0a,tkz,jT]
 rintro σ H5 ⟨s5,c5,rfl,e5⟩
 rw[zl,jy]at e5
 obtain⟨hv',ehv⟩:∃ hv',hv'=z.flatMap fun q=>q.2.1:=⟨_,rfl⟩
 rw[<- ehv]at e5
 have hv5:∀ n∈hv',n∈pool.take 5:=fun n hn=>by
  rw[ehv]at hn
  obtain⟨qq,hq,hn⟩:=qA.mp hn
  obtain⟨_,_,_,_,_,h,_⟩:=hz qq hq
  exact h.sub n hn
 have hvl:hv'.length<=40:=by
  rw[ehv]
  have:=y2O (z:=z) fun q hq=>(by obtain⟨_,_,_,_,_,h,_⟩:=hz q hq;exact h.few5 TB.p5)
  omega
 have sub5:∀ ks:List Str,ks.Nodup->(∀ k∈ks,k∈hv')->ks.length<=5:=fun ks nk hk=>jY (List.Nodup.length_le_of_subset nk fun k h=>hv5 k (hk k h)) TB.p5
 refine⟨_,rfl,hl',hv',rfl,.inl (.of e5),by omega,fun ks nk hk=>kF (sub5 ks nk hk) (by decide),fun nl N fnl mN pwN=>?_⟩
 have ndN:=z1u pwN
 have n5:N.length<=5:=sub5 N ndN fun k hk=>(mN k).mp hk
 have hN:∀ n,n∈N↔∃ t∈z.map (·.2),n∈t.1:=fun n=>by
  rw[mN n,ehv,qA]
  constructor
  · rintro⟨qq,hq,h⟩;exact⟨qq.2,kM hq,h⟩
  · rintro⟨t,ht,h⟩
    obtain⟨qq,hq,rfl⟩:=jN.mp ht
    exact⟨qq,hq,h⟩
 have t6:=z0e fnl (.lst (N.map V.str))
 have e6:(upd H5 nl (.lst (N.map V.str))) nl=some (.lst (N.map V.str)):=z0a
 generalize upd H5 nl (.lst (N.map V.str))=H6 at t6 e6 ⊢
 have s46:=s5.trans t6
 clear e5 s5 t6
 dsimp only[z0Y]
 refine z3k (σ':=[some (.ref a),some (.ref pp),some (.ref pm),some (.ref tl),some (.ref hl'),c5,some (.ref nl),none,none,none,none,none,none,none,none,none,none]) rfl ?_
 refine z5H (d := .int (cell ns 6 % 32)) (y0B (z3R rfl (s46.seq hS4) (by decide)) z1W (by decide) fun _=>rfl) (fun v H7 s7 dv=>?_)
 have dv:v = .int (cell ns 6 % 32):=dv
 subst dv
 have e7:=s7 _ _ e6
 have s47:=s46.trans s7
 refine⟨by show 0<=sizeLine;decide,fun ol fol=>?_⟩
 have u8:=z0e fol (.lst [])
 have eo8:(upd H7 ol (.lst [])) ol=some (.lst []):=z0a
 generalize upd H7 ol (.lst [])=H8 at u8 eo8 ⊢
 dsimp only[z0Y]
 refine z3k (σ':=[some (.ref a),some (.ref pp),some (.ref pm),some (.ref tl),some (.ref hl'),c5,some (.ref nl),some (.int (cell ns 6 % 32)),some (.ref ol),none,none,none,none,none,none,none,none]) rfl ?_
 have s48:=s47.trans u8
 refine⟨_,rfl,_,rfl,pp,_,rfl,s48.seq qp4,fun p5 fp5=>?_⟩
 have u9:=z0e fp5 (.lst (z5y (pool.map V.str) none (some 5)))
 have e9:(upd H8 p5 (.lst (z5y (pool.map V.str) none (some 5)))) p5=some (.lst (z5y (pool.map V.str) none (some 5))):=z0a
 generalize upd H8 p5 (.lst (z5y (pool.map V.str) none (some 5)))=H9 at u9 e9 ⊢
 rw[show z5y (pool.map V.str) none (some 5)=(pool.take 5).map V.str by rw[show (some 5:Option Int)=some ((5:Nat):Int) from rfl,z6P,List.map_take]]at e9
 have s49:=s48.trans u9
 have fol4:H4 ol=none:=s47.free fol
 refine⟨p5,rfl,⟨_,.of e9⟩,z0N (K:=K) (xs:=(pool.take 5).map V.str) (fun i σ H'=>Same H4 H'/\H' p5=some (.lst ((pool.take 5).map V.str))/\H' nl=some (.lst (N.map V.str))/\∃ (os:List Str) (wy:Int) (c9:Option V),σ=[some (.ref a),some (.ref pp),some (.ref pm),some (.ref tl),some (.ref hl'),c5,some (.ref nl),some (.int wy),some (.ref ol),c9,none,none,none,none,none,none,none]/\H' ol=some (.lst (os.map V.str))/\os.length<=i) ⟨s49,e9,u9 _ _ (u8 _ _ e7),[],_,none,rfl,u9 _ _ eo8,jE _⟩ (fun i σ H' _ h => .of h.2.1) ?_ ?_⟩
 · rintro i x σ HA hx ⟨sA,ep,en,os,wy,c9,rfl,eo,lo⟩
   rw[jF]at hx
   obtain⟨nm,enm,rfl⟩:=jh.mp hx
   have hi:i < 5:=by have:=(jH.mp enm).1;rw[jS]at this;omega
   have ne1:p5≠ol:=fun z=>by rw[z,eo8]at fp5;cases fp5
   have ne2:nl≠ol:=fun z=>by rw[<- z,e7]at fol;cases fol
   refine⟨_,rfl,_,_,rfl,rfl,(by show (0:Int) < 2;decide),.inl ⟨_,_,rfl,rfl,_,rfl,y3w (fun c=>?_) (fun c=>nxt ?_)⟩⟩
   · refine⟨_,rfl,.inl ⟨rfl,_,.of eo⟩,_,rfl,ol,_,_,rfl,rfl,eo,by rw[jA];omega,?_⟩
     refine⟨_,rfl,_,_,rfl,rfl,⟨by decide,by decide⟩,?_⟩
     exact⟨z0o fol4 sA,by rw[z0k ne1];exact ep,by rw[z0k ne2];exact en,os ++ [nm],_,_,rfl,by rw[z0a,jT];rfl,by rw[jG];show _ + 1<=_;omega⟩
   · refine⟨_,rfl,_,_,rfl,rfl,⟨by decide,by decide⟩,?_⟩
     exact⟨sA,ep,en,os,_,_,rfl,eo,by omega⟩
 rintro σ HA ⟨sA,ep,enA,os,wy,c9,rfl,eo,lo⟩
 have lo5:os.length<=5:=by rw[jA,jS]at lo;omega
 obtain⟨x5,ex5⟩:∃ x5,pool[5]? = some x5:=⟨_,jD (by omega)⟩
 dsimp only
 refine⟨_,rfl,.inl ⟨rfl,_,.of eo⟩,_,rfl,.inl ⟨pp,_,5,.str x5,rfl,rfl,sA.seq qp4,z3f (j:=5) (by rw[jF,ex5];rfl),ol,_,_,rfl,rfl,eo,by rw[jA];omega,?_⟩⟩
 have ne2:nl≠ol:=fun z=>by rw[<- z,e7]at fol;cases fol
 have sB:Same H4 (upd HA ol (.lst (os.map V.str ++ [V.str x5]))):=z0o fol4 sA
 have eoB:(upd HA ol (.lst (os.map V.str ++ [V.str x5]))) ol=some (.lst (os.map V.str ++ [V.str x5])):=z0a
 have enB:(upd HA ol (.lst (os.map V.str ++ [V.str x5]))) nl=some (.lst (N.map V.str)):=by rw[z0k ne2];exact enA
 generalize upd HA ol (.lst (os.map V.str ++ [V.str x5]))=HB at sB eoB enB ⊢
 obtain⟨od,eod,o1,o6⟩:∃ od:List Str,os.map V.str ++ [V.str x5]=od.map V.str/\1<=od.length/\od.length<=6:=⟨os ++ [x5],by rw[jT];rfl,by rw[jG];show 1<=_ + 1;omega,by rw[jG];show _ + 1<=6;omega⟩
 rw[eod]at eoB
 obtain⟨tn,etn,tnl⟩:∃ tn:Nat,cell ns 6 / 32 % ((od.map D.str).length:Int)=(tn:Int)/\tn < od.length:=by
  have ll:(od.map D.str).length=od.length:=jA _
  have l0:(0:Int) < ((od.map D.str).length:Int):=by omega
  have h1:=Int.emod_nonneg (cell ns 6 / 32) (Int.ne_of_gt l0)
  have h2:=Int.emod_lt_of_pos (cell ns 6 / 32) l0
  generalize cell ns 6 / 32 % ((od.map D.str).length:Int)=X at h1 h2 ⊢
  exact⟨X.toNat,by omega,by omega⟩
 have l0:(0:Int) < ((od.map D.str).length:Int):=by rw[jA];omega
 dsimp only
 refine z5H (d := .int (cell ns 6 / 32 % ((od.map D.str).length:Int))) (y0B (y0B (z3R rfl (sB.seq hS4) (by decide)) z1W (by decide) fun _=>rfl) (y8j (y2q rfl (z4Y eoB))) l0 fun _=>rfl) (fun v HC sC dv=>?_)
 rw[etn]at dv
 have dv:v = .int (tn:Int):=dv
 subst dv
 have eoC:=sC _ _ eoB
 refine z3k (σ':=[some (.ref a),some (.ref pp),some (.ref pm),some (.ref tl),some (.ref hl'),c5,some (.ref nl),some (.int wy),some (.ref ol),c9,some (.int (tn:Int)),none,none,none,none,none,none]) rfl ?_
 obtain⟨ot,eot⟩:∃ ot:List Str,ot=(od.drop tn).reverse ++ od.take tn ++ od.take 1:=⟨_,rfl⟩
 have otm:∀ x,x∈ot↔x∈od:=fun x=>by
  rw[eot,jL,jL,List.mem_reverse]
  constructor
  · rintro ((h | h) | h)
    · exact List.mem_of_mem_drop h
    · exact kG h
    · exact kG h
  · intro h
    rw[<- jq tn od]at h
    rcases jL.mp h with h | h
    · exact .inl (.inr h)
    · exact .inl (.inl h)
 have otl:ot.length<=8:=by
  rw[eot,jG,jG,k6,js,jS,jS]
  omega
 refine z5H (d := .lst (ot.map .str)) (by
  rw[eot,jT,jT]
  exact y2s (y2s (y6z (y4i rfl (.of eoC) rfl)) (y4g rfl (.of eoC) rfl) (z9V (by rw[jA,jA,k6,js,jS];omega))) (y4h (k:=1) rfl (.of eoC)) (z9V (by rw[jG,jA,jA,jA,k6,js,jS,jS];omega))) (fun v HD sD dv=>?_)
 obtain⟨otp,ys2,rfl,sot,dot⟩:=dv
 rw[z3B dot]at sot
 have eoD:=sD _ _ eoC
 have s4D:=sB.trans (sC.trans sD)
 have enD:=(sC.trans sD) _ _ enB
 refine z3k (σ':=[some (.ref a),some (.ref pp),some (.ref pm),some (.ref tl),some (.ref hl'),c5,some (.ref nl),some (.int wy),some (.ref ol),c9,some (.int (tn:Int)),some (.ref otp),none,none,none,none,none]) rfl ?_
 have hzD:∀ q∈z,∃ p k,q.1 = .ref p/\TJ K HD p k q.2.1 q.2.2:=fun q hq=>by
  obtain⟨p,k,h1,_,h3,_⟩:=hz q hq
  exact⟨p,k,h1,h3.same s4D⟩
 have etD:=s4D _ _ etl
 have emD:=s4D _ _ em4
 obtain⟨left,eleft⟩:∃ left,left=N.filter fun x => !inV (.str x) (od.map V.str):=⟨_,rfl⟩
 have eleft2:left=N.filter fun n => !decide (n∈od):=by rw[eleft];exact List.filter_congr fun x _=>by rw[z5f]
 have eleft3:left=N.filter fun n => !decide (n∈ot):=by rw[eleft2];exact List.filter_congr fun x _=>by rw[decide_eq_decide.mpr (otm x)]
 have lefN:∀ x∈left,x∈N:=fun x hx=>by rw[eleft]at hx;exact (ju.mp hx).1
 have lef5:left.length<=5:=by rw[eleft];exact jY (kE ..) n5
 have zl2:(z.map (·.2)).length=z.length:=jA _
 refine y1C ?_
 refine⟨_,rfl,_,rfl,z8Q ⟨_,rfl,nl,rfl,⟨_,.of enD⟩,y3b (K:=K) (fun x => !inV (.str x) (od.map V.str)) (.of enD) (by omega) (fun y H6 R s6 hR=>⟨_,rfl,_,rfl,ol,_,rfl,.inl (.of (s6 _ _ eoD)),rfl,z2j _,_,rfl,hR⟩) (fun y H6 R hR=>⟨_,rfl,hR⟩) (fun lf HE flf sE elf=>?_)⟩⟩
 rw[<- eleft]at elf
 have hzE:∀ q∈z,∃ p k,q.1 = .ref p/\TJ K HE p k q.2.1 q.2.2:=fun q hq=>by
  obtain⟨p,k,h1,h3⟩:=hzD q hq
  exact⟨p,k,h1,h3.same sE⟩
 refine⟨_,rfl,tl,nl,lf,pm,z,N,left,ms,Dn ^ (z.map (·.2)).length,(210 * 10 ^ 60) ^ (z.map (·.2)).length,rfl,.of (sE _ _ etD),hzE,fun q hq=>TB.lim q.2 (kM hq),z8,.of (sE _ _ enD),ndN,n5,.of elf,lefN,lef5,.of (sE _ _ emD),l3,fun q hq x hx=>(hN x).mpr ⟨q.2,kM hq,hx⟩,Nat.pow_pos d0,z9G TB.bds.dl (by omega),z9G TB.bds.ml (by omega),fun k _=>y7L _ TB.tm,fun dp qs HF sF pmq pwq ddp=>?_⟩
 have sDF:=sE.trans sF
 have etF:=sDF _ _ etD
 have eoF:=sDF _ _ eoD
 have sotF:=sDF.seq sot
 have hzF:TsAt K HF z:=fun q hq=>by
  obtain⟨p,k,h1,h3⟩:=hzD q hq
  exact⟨p,k,h1,h3.1.same sDF⟩
 have ap1:AP 500 (fun T=>T=(left,qs)) False od (z.map (·.2)):=TB.any (by omega) pwN hN eleft2 pmq pwq
 have ap2:AP 500 (fun T=>T=(left,qs)) False ot (z.map (·.2)):=TB.any otl pwN hN eleft3 pmq pwq
 clear hzD hzE sE sF sDF
 dsimp only[z0Y]
 refine z3k (σ':=[some (.ref a),some (.ref pp),some (.ref pm),some (.ref tl),some (.ref hl'),c5,some (.ref nl),some (.int wy),some (.ref ol),c9,some (.int (tn:Int)),some (.ref otp),some (.ref dp),none,none,none,none]) rfl ?_
 refine z8o ⟨_,rfl,tl,rfl,⟨_,.of etF⟩,?_⟩
 refine z6Q z.length (fun i=>(z.map (·.1)).getD i .non) (by omega) (fun i Da ys H'=>Same HF H'/\HF Da=none/\H' Da=some (.lst ys)/\i<=z.length/\Paired (fun q y=>∃ p l,y = .ref p/\l≠Da/\TAt K H' p l q.2.1 q.2.2) (z.take i) ys) (fun Da f=>⟨z0e f _,f,z0a,jg _,.nil⟩) (fun i Da ys H' h=>by rw[<- h.2.2.2.2.length,jS];have:=h.2.2.2.1;omega) (fun Da ys H' h=>⟨_,.of (h.1 _ _ etF),by rw[zl];exact jE _⟩) (fun i Da ys H' hi h=>⟨⟨_,(z.map (·.1))[i]'(by omega),.of (h.1 _ _ etF),jD (by omega)⟩,fun x H'' hy=>?_⟩) (fun i Da ys H' R hi h hR=>?_) (fun hd ys HG h=>?_)
 · obtain⟨e,y⟩:=hy
   have:=y _ (.of (h.1 _ _ etF))
   exact⟨by rw[jC,this];rfl,e⟩
 · obtain⟨s1',fD,eD,_,pr⟩:=h
   obtain⟨qq,eq⟩:∃ qq,z[i]? = some qq:=⟨_,jD hi⟩
   have qm:=jk eq
   have ex:(z.map (·.1)).getD i .non=qq.1:=by rw[jC,jF,eq];rfl
   rw[ex]
   obtain⟨p,l,e1,v,sp,tz,dl⟩:=hzF qq qm
   rw[e1]
   obtain⟨_,zs,ee,sqz,dxz⟩:=dl
   cases ee
   have sp1:=s1'.tupq sp
   refine⟨_,rfl,.inr (.inl ⟨p,_,0,.ref v,rfl,rfl,sp1,rfl,?_⟩)⟩
   refine⟨_,rfl,.inr (.inl ⟨p,_,1,.ref l,rfl,rfl,sp1,rfl,?_⟩)⟩
   refine⟨l,zs,rfl,.inl (s1'.seq sqz),fun lq fl=>?_⟩
   have t1:=z0e fl (.lst zs)
   have eq1:(upd H' lq (.lst zs)) lq=some (.lst zs):=z0a
   have lqD:lq≠Da:=fun z=>by rw[z,eD]at fl;cases fl
   generalize upd H' lq (.lst zs)=H2 at t1 eq1 ⊢
   refine⟨by show 2<=sizeLine;decide,fun tp ftp=>?_⟩
   have t3:=z0e ftp (.tup [V.ref v,.ref lq])
   have e3:(upd H2 tp (.tup [V.ref v,.ref lq])) tp=some (.tup [V.ref v,.ref lq]):=z0a
   generalize upd H2 tp (.tup [V.ref v,.ref lq])=H3 at t3 e3 ⊢
   have t13:=t1.trans t3
   have eD3:=t13 _ _ eD
   refine hR (.ref tp) H3 eD3 ⟨z0o fD (s1'.trans t13),fD,z0a,hi,?_⟩
   have tkz:z.take (i + 1)=z.take i ++ [qq]:=by rw[kx,eq];rfl
   rw[tkz]
   refine z4q ⟨tp,lq,rfl,lqD,TAt.updL ⟨v,.of e3,tz.same (s1'.trans t13),lq,zs,rfl,.of (t3 _ _ eq1),dxz.same (s1'.trans t13)⟩ eD3 lqD⟩ (z1C (fun q y ⟨p',l',h1,h2,h3⟩=>⟨p',l',h1,h2,(h3.same t13).updL eD3 h2⟩) pr)
 obtain⟨sG,fhd,ehd,_,prh⟩:=h
 rw[jy]at prh
 obtain⟨z',ez1,ez2,hz'⟩:=y7k (F:=fun t y=>∃ p l,y = .ref p/\l≠hd/\TAt K HG p l t.1 t.2) prh
 have tsG:TsAt K HG z':=fun q hq=>by
  obtain⟨p,l,h1,_,h3⟩:=hz' q hq
  exact⟨p,l,h1,h3⟩
 have zl3:z'.length=z.length:=by have:=congrArg List.length ez2;rw[jA,jA]at this;exact this
 rw[<- ez1]at ehd
 have eoG:=sG _ _ eoF
 dsimp only[z0Y]
 refine⟨_,rfl,ol,_,rfl,.inl (.of eoG),fun sqp fsq=>?_⟩
 have uH:=z0e fsq (.lst (od.map V.str))
 have esq:(upd HG sqp (.lst (od.map V.str))) sqp=some (.lst (od.map V.str)):=z0a
 generalize upd HG sqp (.lst (od.map V.str))=HH at uH esq ⊢
 have sFH:=sG.trans uH
 have tsH:TsAt K HH z':=tsG.same uH
 have ehH:=uH _ _ ehd
 dsimp only[z0Y]
 refine z3k (σ':=[some (.ref a),some (.ref pp),some (.ref pm),some (.ref tl),some (.ref hl'),c5,some (.ref nl),some (.int wy),some (.ref ol),c9,some (.int (tn:Int)),some (.ref otp),some (.ref dp),some (.ref hd),some (.ref sqp),none,none]) rfl ?_
 refine⟨_,rfl,_,rfl,y3i eA (z:=z') (ns:=od) (.of ehH) (.of esq) (by omega) (by omega) tsH (by rw[ez2];exact ap1) (fun fp HI sI dfp=>?_) rfl⟩
 dsimp only[z0Y]
 have sFI:=sFH.trans sI
 refine⟨_,rfl,_,rfl,y3i eA (z:=z) (ns:=ot) (.of (sFI _ _ etF)) (sFI.seq (sq0 sotF)) (by omega) (by omega) (hzF.same sFI) ap2 (fun gp HJ sJ dgp=>?_) rfl⟩
 dsimp only[z0Y]
 have sFJ:=sFI.trans sJ
 have sHJ:=sI.trans sJ
 have d1:IsD K HJ (.lst (zD z)) (.ref hd):=⟨hd,_,rfl,.of (sHJ _ _ ehH),by rw[<- y7l ez2];exact y5A (tsH.same sHJ)⟩
 have d2:IsD K HJ (.lst (zD z)) (.ref tl):=⟨tl,_,rfl,.of (sFJ _ _ etF),y5A (hzF.same sFJ)⟩
 have d3:IsD K HJ (.lst (od.map .str)) (.ref sqp):=⟨sqp,_,rfl,.of (sHJ _ _ esq),z1Z _⟩
 have d4:IsD K HJ (.lst (od.map .str)) (.ref ol):=⟨ol,_,rfl,.of (sFJ _ _ eoF),z1Z _⟩
 have deep1:(D.lst (zD z)).deep<=60:=by show D.deeps (zD z) + 1<=60;have:=y1b z;omega
 have deep2:(D.lst (od.map D.str)).deep<=60:=by show D.deeps (od.map D.str) + 1<=60;rw[z3j];decide
 refine⟨_,rfl,_,rfl,_,d1,d2,⟨hd,rfl⟩,deep1,_,rfl,y9A ?_⟩
 refine⟨_,rfl,_,rfl,_,d3,d4,⟨sqp,rfl⟩,deep2,_,rfl,y9A (nxt ?_)⟩
 refine⟨_,rfl,_,rfl,.inr ⟨_,dfp.same sJ,ddp.same sFJ,⟨fp,rfl⟩,z9j _ _,_,rfl,y9y ?_⟩⟩
 exact⟨_,rfl,_,rfl,.inr ⟨_,dgp,ddp.same sFJ,⟨gp,rfl⟩,z9j _ _,q _⟩⟩
theorem y6C(B:Bl mg)(y7i:NmC mg "TooMany" z0j)(xm1:PySem.W.exmOne K (.ref z0j) (.ref z0j)=some true)(y7h:ExcIs K z0j)(z3Z:ExcK P w K mg base "TooMany" z0j "most")(y3r:Fn K mg "divisor" z2C ["one", "other"])(y0W:Fn K mg "is_whole" z2d ["thing"])(y0Y:Fn K mg "fraction" z2f ["top", "bottom"])(y8O:Fn K mg "plus" z7p ["one", "other"])(y7b:Fn K mg "times" z4J ["one", "other"])(y4Q:Fn K mg "chosen" z3q ["values", "places"])(z8X:Fn K mg "places_of" z1J ["names", "some"])(y0X:Fn K mg "gathered" z2e ["rows", "places"])(y3o:Fn K mg "rows_by" z2z ["rows", "places"])(y4P:FnD K mg "joined" z1T ["one", "other", "most"] (.int 500))(y4M:Fn K mg "pushed" z3n ["table", "name"])(z8e:Fn K mg "all_joined" z1t ["tables", "most"])(z8d:FnD K mg "all_pushed" z0K ["tables", "order", "most"] (.int 500))(z8Z:Fn K mg "_law_cell_at" z1L ["_law_script", "_law_k"])(y0V:Fn K mg "_law_common" z2c ["_law_one", "_law_other"])(y7c:Fn K mg "_law_low" z4K ["_law_top", "_law_bottom"])(y4N:Fn K mg "_law_name" z3o ["_law_cell", "_law_k"])(y4O:Fn K mg "_law_menu" z3p ["_law_cell", "_law_other"])(y3p:Fn K mg "_law_table" z2A ["_law_cells", "_law_names", "_law_menu_here", "_law_great"])(y0U:Fn K mg "_law_tables" z2b ["_law_script", "_law_pool", "_law_menu_here"])(y3q:Fn K mg "_law_books" z2B ["_law_names", "_law_menu_here"])(z8Y:Fn K mg "_law_product" z1K ["_law_tables_here", "_law_book"])(y7d:Fn K mg "_law_due" z4L ["_law_tables_here", "_law_names", "_law_left", "_law_menu_here"]){f:Addr}{fd:FuncData}(F:Fun K "law" "law" z5t f fd):FnOk P w K mg base CX0 16 f fd ["_law_script"] (y1y K):=by
 have z2m:=y0y (P:=P) (w:=w) (base:=base) B y3r
 have z2V:=z8B (P:=P) (w:=w) (base:=base) B y0W
 have z1n:=z8D B y0Y z2V z2m
 have y3t:=y6r B y8O z2m z1n
 have z9b:=y4a B y7b z1n
 have z1q:=y2l (P:=P) (w:=w) (base:=base) B y4Q
 have z4d:=z8C B z1q y3t y0X
 have z0T:=z7A (P:=P) (w:=w) (base:=base) B z8X
 have z4y:=y2i B z0T z4d y4M
 have z5q:=y0x B z1q y3o
 have z6W:=y2j B z3Z z1q z0T z5q z9b y4P
 have z1y:=z7C B z6W.1 z8e
 have z8f:=z7B B z1y z4y z8d
 have z0s:=y6u (P:=P) (w:=w) (base:=base) B z8Z
 have z4c:=y2k (P:=P) (w:=w) (base:=base) B y0V
 have z4b:=y8c B z4c y7c
 have z6U:=y6s (P:=P) (w:=w) (base:=base) B y4N
 have z6V:=y6t (P:=P) (w:=w) (base:=base) B y4O
 have z5r:=y4b (P:=P) (w:=w) (base:=base) B y3p
 have z4a:=y6p B z0s z4b z5r y0U
 have z5s:=y4c (P:=P) (w:=w) (base:=base) B y3q
 have z3g:=y6q (P:=P) (w:=w) (base:=base) B z8Y
 have z9c:=y8e B z4b z5s z3g y7d
 exact y8d B z0s z6U z6V z4a z9c z8f.2 F
end
def FnIn(K:PySem.W.Frag)(x:Str)(st:Stmt):Prop:=∃ f fd,PySem.W.nsIn K mainGlobals x=some (some (.ref f))/\Fun K x x st f fd
theorem z1Y{K:PySem.W.Frag}{x:Str}{st:Stmt}{f:Addr}{oc:Value}{od an:Option Addr}{osl:Array (Option Value)}{kV doc pm cdv ct:Value}(a:PySem.W.nsIn K mainGlobals x=some (some (.ref f)))(l:K.lookup f=some ⟨oc,od,.func (PySem.W.fnOf x x (defArgs st) (defBody st) (defScope st) .none kV doc pm an cdv ct),osl⟩)(c:PySem.W.codeIn K cdv x=true)(k:PySem.W.keepIn K (.ref f)=true):FnIn K x st:=⟨f,_,a,y2N l c k⟩
theorem FnIn.fn{K:PySem.W.Frag}{h:Heap}{mg:Str->Option Value}{x:Str}{st:Stmt}{ps:List Str}(H:FnIn K x st)(X:K.In h)(G:h.Ns mainGlobals mg)(hb:∀ (kV doc pm:Value) (an:Option Addr) (cdv ct:Value) (us:List Value),us.length=ps.length->bindArgs (PySem.W.fnOf x x (defArgs st) (defBody st) (defScope st) .none kV doc pm an cdv ct) ⟨us,[]⟩=pure (ps.zip us)):Fn K mg x st ps:=by
 obtain⟨f,fd,a,F⟩:=H
 exact⟨f,fd,F,F.binds hb,PySem.W.mg_of X G a⟩
theorem y8K{l:PySem.W.OpenLaw}{w:World}{K:PySem.W.Frag}{h:Heap}{mg:Str->Option Value}{fa f9 f12 f23 z0j i_TooMany:Addr}(X:K.In h)(G:h.Ns mainGlobals mg)(hfa:mg "law" = some (.ref fa))
 {od9 an9 od12 an12 od23 an23:Option Addr}{sl9 sl12 sl23:Array (Option Value)}{oc9 kV9 dc9 pm9 cd9 ct9 oc12 kV12 dc12 pm12 cd12 ct12 oc23 kV23 dc23 pm23 cd23 ct23:Value}
 (H0:FnIn K "divisor" z2C)
 (H1:FnIn K "is_whole" z2d)
 (H2:FnIn K "fraction" z2f)
 (H3:FnIn K "plus" z7p)
 (H4:FnIn K "times" z4J)
 (H5:FnIn K "chosen" z3q)
 (H6:FnIn K "places_of" z1J)
 (H7:FnIn K "gathered" z2e)
 (H8:FnIn K "rows_by" z2z)
 {fT9:Addr}{fTo9:Value}{fTd9:Option Addr}{fTn9:Nat}{fTs9:Array (Option Value)}{fTk9:Tok} (lt9:K.lookup fT9=some ⟨fTo9,fTd9,.seq #[.int 500 fTk9] fTn9,fTs9⟩)
 (a9:PySem.W.nsIn K mainGlobals "joined" = some (some (.ref f9))) (l9:K.lookup f9=some ⟨oc9,od9,.func (PySem.W.fnOf "joined" "joined" (defArgs z1T) (defBody z1T) (defScope z1T) (.ref fT9) kV9 dc9 pm9 an9 cd9 ct9),sl9⟩) (c9:PySem.W.codeIn K cd9 "joined" = true) (k9:PySem.W.keepIn K (.ref f9)=true)
 (H10:FnIn K "pushed" z3n)
 (H11:FnIn K "all_joined" z1t)
 {fT12:Addr}{fTo12:Value}{fTd12:Option Addr}{fTn12:Nat}{fTs12:Array (Option Value)}{fTk12:Tok} (lt12:K.lookup fT12=some ⟨fTo12,fTd12,.seq #[.int 500 fTk12] fTn12,fTs12⟩)
 (a12:PySem.W.nsIn K mainGlobals "all_pushed" = some (some (.ref f12))) (l12:K.lookup f12=some ⟨oc12,od12,.func (PySem.W.fnOf "all_pushed" "all_pushed" (defArgs z0K) (defBody z0K) (defScope z0K) (.ref fT12) kV12 dc12 pm12 an12 cd12 ct12),sl12⟩) (c12:PySem.W.codeIn K cd12 "all_pushed" = true) (k12:PySem.W.keepIn K (.ref f12)=true)
 (H13:FnIn K "_law_cell_at" z1L)
 (H14:FnIn K "_law_common" z2c)
 (H15:FnIn K "_law_low" z4K)
 (H16:FnIn K "_law_name" z3o)
 (H17:FnIn K "_law_menu" z3p)
 (H18:FnIn K "_law_table" z2A)
 (H19:FnIn K "_law_tables" z2b)
 (H20:FnIn K "_law_books" z2B)
 (H21:FnIn K "_law_product" z1K)
 (H22:FnIn K "_law_due" z4L)
 (a23:PySem.W.nsIn K mainGlobals "law" = some (some (.ref f23))) (l23:K.lookup f23=some ⟨oc23,od23,.func (PySem.W.fnOf "law" "law" (defArgs z5t) (defBody z5t) (defScope z5t) .none kV23 dc23 pm23 an23 cd23 ct23),sl23⟩) (c23:PySem.W.codeIn K cd23 "law" = true) (k23:PySem.W.keepIn K (.ref f23)=true)
 {oi_TooMany an_TooMany:Option Addr}{z1c:Array (Option Value)}{kV_TooMany dc_TooMany pm_TooMany cd_TooMany ct_TooMany:Value}
 (li_TooMany:K.lookup i_TooMany=some ⟨.type "function",oi_TooMany,.func (PySem.W.fnOf "__init__" "TooMany.__init__" (defArgs Fd.z1c) (defBody Fd.z1c) (defScope Fd.z1c) .none kV_TooMany dc_TooMany pm_TooMany an_TooMany cd_TooMany ct_TooMany),z1c⟩)
 (ci_TooMany:PySem.W.codeIn K cd_TooMany "TooMany.__init__" = true) (ki_TooMany:PySem.W.keepIn K (.ref i_TooMany)=true) (kp_TooMany:PySem.W.keepIn K (.ref z0j)=true) (na_TooMany:PySem.W.findIn K (.ref z0j) "most" = some none)
 (sa_TooMany:PySem.W.findIn K (.ref z0j) "__setattr__" = some (some (.builtin "object.__setattr__"))) (ov_TooMany:(PySem.W.clsIn K z0j).any (fun cd=>tailV cd.mro)=true)
 {nm_TooMany qn_TooMany:Str}{bs_TooMany bm_TooMany sub_TooMany:List Value}{ns_TooMany:Addr}{hdc_TooMany ab_TooMany:Bool}{sn_TooMany:List Str}{col_TooMany:Option Bool}{dd_TooMany:Option Addr}{k0_TooMany k1_TooMany k2_TooMany k3_TooMany k5_TooMany:Option Value}
 (lk_TooMany:K.lookup z0j=some ⟨.type "type",dd_TooMany,.cls ⟨nm_TooMany,bs_TooMany,.ref z0j :: bm_TooMany,ns_TooMany,qn_TooMany,hdc_TooMany,sn_TooMany,sub_TooMany,ab_TooMany,col_TooMany,false⟩,#[k0_TooMany,k1_TooMany,k2_TooMany,k3_TooMany,some (.builtin "ValueError.__new__"),k5_TooMany]⟩)
 (tl_TooMany:PySem.W.tailIn K vErr bm_TooMany=true) (nk_TooMany:PySem.W.nsOkIn K ns_TooMany=true) (ni_TooMany:PySem.W.nsIn K ns_TooMany "__init__" = some (some (.ref i_TooMany)))
 (ac_TooMany:PySem.W.nsIn K mainGlobals "TooMany" = some (some (.ref z0j)))
 (ei0_TooMany:PySem.W.hasDictIn K z0j=true)
 (ei1_TooMany:PySem.W.findIn K (.ref z0j) "__getattribute__" = some (some (.builtin "BaseException.__getattribute__")))
 (ei2_TooMany:PySem.W.findIn K (.ref z0j) "__getattr__" = some none)
 (ei3_TooMany:PySem.W.findIn K (.ref z0j) "__class__" = some (some (.builtin "object.__class__")))
 (ei4_TooMany:PySem.W.mroIn K z0j (.type "object")=some true)
 (ei5_TooMany:PySem.W.mroIn K z0j (.type "BaseException")=some true)
 (z1g:PySem.W.exmOne K (.ref z0j) (.ref z0j)=some true)
 (z_abs:PySem.W.nsIn K mainGlobals "abs" = some none)
 (z_bool:PySem.W.nsIn K mainGlobals "bool" = some none)
 (z_dict:PySem.W.nsIn K mainGlobals "dict" = some none)
 (z_int:PySem.W.nsIn K mainGlobals "int" = some none)
 (z_isinstance:PySem.W.nsIn K mainGlobals "isinstance" = some none)
 (z_len:PySem.W.nsIn K mainGlobals "len" = some none)
 (z_list:PySem.W.nsIn K mainGlobals "list" = some none)
 (z_range:PySem.W.nsIn K mainGlobals "range" = some none)
 (z_reversed:PySem.W.nsIn K mainGlobals "reversed" = some none)
 (z_set:PySem.W.nsIn K mainGlobals "set" = some none)
 (z_sorted:PySem.W.nsIn K mainGlobals "sorted" = some none)
 (z_str:PySem.W.nsIn K mainGlobals "str" = some none)
 (z_tuple:PySem.W.nsIn K mainGlobals "tuple" = some none)
 : ∃ fd:FuncData,(∀ (s:Shared) (v:Value),BindsTo s fd ⟨[v],[]⟩ [("_law_script",v)])/\∀ base:Heap,K.In base->base.Ns mainGlobals mg->FnOk l.prog w K mg base CX0 16 fa fd ["_law_script"] (y1y K):=by
 have e:=hfa.symm.trans (PySem.W.mg_of X G a23)
 cases e
 have B:Bl mg:=⟨PySem.W.mg_none_of X G z_abs,PySem.W.mg_none_of X G z_bool,PySem.W.mg_none_of X G z_dict,PySem.W.mg_none_of X G z_int,PySem.W.mg_none_of X G z_isinstance,PySem.W.mg_none_of X G z_len,PySem.W.mg_none_of X G z_list,PySem.W.mg_none_of X G z_range,PySem.W.mg_none_of X G z_reversed,PySem.W.mg_none_of X G z_set,PySem.W.mg_none_of X G z_sorted,PySem.W.mg_none_of X G z_str,PySem.W.mg_none_of X G z_tuple⟩
 have N0:Fn K mg "divisor" z2C ["one", "other"]:=H0.fn X G fun _ _ _ _ _ _ us hl=>match us,hl with | [_,_],_=>rfl
 have N1:Fn K mg "is_whole" z2d ["thing"]:=H1.fn X G fun _ _ _ _ _ _ us hl=>match us,hl with | [_],_=>rfl
 have N2:Fn K mg "fraction" z2f ["top", "bottom"]:=H2.fn X G fun _ _ _ _ _ _ us hl=>match us,hl with | [_,_],_=>rfl
 have N3:Fn K mg "plus" z7p ["one", "other"]:=H3.fn X G fun _ _ _ _ _ _ us hl=>match us,hl with | [_,_],_=>rfl
 have N4:Fn K mg "times" z4J ["one", "other"]:=H4.fn X G fun _ _ _ _ _ _ us hl=>match us,hl with | [_,_],_=>rfl
 have N5:Fn K mg "chosen" z3q ["values", "places"]:=H5.fn X G fun _ _ _ _ _ _ us hl=>match us,hl with | [_,_],_=>rfl
 have N6:Fn K mg "places_of" z1J ["names", "some"]:=H6.fn X G fun _ _ _ _ _ _ us hl=>match us,hl with | [_,_],_=>rfl
 have N7:Fn K mg "gathered" z2e ["rows", "places"]:=H7.fn X G fun _ _ _ _ _ _ us hl=>match us,hl with | [_,_],_=>rfl
 have N8:Fn K mg "rows_by" z2z ["rows", "places"]:=H8.fn X G fun _ _ _ _ _ _ us hl=>match us,hl with | [_,_],_=>rfl
 have F9:FunD K "joined" "joined" z1T f9 _ (.int 500 fTk9):=⟨_,_,_,_,_,_,_,_,_,_,_,_,_,_,rfl,l9,c9,lt9⟩
 have bM9:=F9.binds (ps:=["one", "other", "most"]) (ds:=[]) fun _ _ _ _ _ _ _ us hl=>match us,hl with | [_,_,_],_=>⟨_,rfl,rfl⟩
 have bD9:=F9.binds (ps:=["one", "other", "most"]) (ds:=[.int 500 fTk9]) fun _ _ _ _ _ _ _ us hl=>(show us.length=2->_ from fun h=>match us,h with | [_,_],_=>⟨_,rfl,rfl⟩) (by simpa using hl)
 have N9:FnD K mg "joined" z1T ["one", "other", "most"] (.int 500):=⟨_,_,_,F9,bM9,bD9,⟨_,rfl⟩,k9,PySem.W.mg_of X G a9⟩
 have N10:Fn K mg "pushed" z3n ["table", "name"]:=H10.fn X G fun _ _ _ _ _ _ us hl=>match us,hl with | [_,_],_=>rfl
 have N11:Fn K mg "all_joined" z1t ["tables", "most"]:=H11.fn X G fun _ _ _ _ _ _ us hl=>match us,hl with | [_,_],_=>rfl
 have F12:FunD K "all_pushed" "all_pushed" z0K f12 _ (.int 500 fTk12):=⟨_,_,_,_,_,_,_,_,_,_,_,_,_,_,rfl,l12,c12,lt12⟩
 have bM12:=F12.binds (ps:=["tables", "order", "most"]) (ds:=[]) fun _ _ _ _ _ _ _ us hl=>match us,hl with | [_,_,_],_=>⟨_,rfl,rfl⟩
 have bD12:=F12.binds (ps:=["tables", "order", "most"]) (ds:=[.int 500 fTk12]) fun _ _ _ _ _ _ _ us hl=>(show us.length=2->_ from fun h=>match us,h with | [_,_],_=>⟨_,rfl,rfl⟩) (by simpa using hl)
 have N12:FnD K mg "all_pushed" z0K ["tables", "order", "most"] (.int 500):=⟨_,_,_,F12,bM12,bD12,⟨_,rfl⟩,k12,PySem.W.mg_of X G a12⟩
 have N13:Fn K mg "_law_cell_at" z1L ["_law_script", "_law_k"]:=H13.fn X G fun _ _ _ _ _ _ us hl=>match us,hl with | [_,_],_=>rfl
 have N14:Fn K mg "_law_common" z2c ["_law_one", "_law_other"]:=H14.fn X G fun _ _ _ _ _ _ us hl=>match us,hl with | [_,_],_=>rfl
 have N15:Fn K mg "_law_low" z4K ["_law_top", "_law_bottom"]:=H15.fn X G fun _ _ _ _ _ _ us hl=>match us,hl with | [_,_],_=>rfl
 have N16:Fn K mg "_law_name" z3o ["_law_cell", "_law_k"]:=H16.fn X G fun _ _ _ _ _ _ us hl=>match us,hl with | [_,_],_=>rfl
 have N17:Fn K mg "_law_menu" z3p ["_law_cell", "_law_other"]:=H17.fn X G fun _ _ _ _ _ _ us hl=>match us,hl with | [_,_],_=>rfl
 have N18:Fn K mg "_law_table" z2A ["_law_cells", "_law_names", "_law_menu_here", "_law_great"]:=H18.fn X G fun _ _ _ _ _ _ us hl=>match us,hl with | [_,_,_,_],_=>rfl
 have N19:Fn K mg "_law_tables" z2b ["_law_script", "_law_pool", "_law_menu_here"]:=H19.fn X G fun _ _ _ _ _ _ us hl=>match us,hl with | [_,_,_],_=>rfl
 have N20:Fn K mg "_law_books" z2B ["_law_names", "_law_menu_here"]:=H20.fn X G fun _ _ _ _ _ _ us hl=>match us,hl with | [_,_],_=>rfl
 have N21:Fn K mg "_law_product" z1K ["_law_tables_here", "_law_book"]:=H21.fn X G fun _ _ _ _ _ _ us hl=>match us,hl with | [_,_],_=>rfl
 have N22:Fn K mg "_law_due" z4L ["_law_tables_here", "_law_names", "_law_left", "_law_menu_here"]:=H22.fn X G fun _ _ _ _ _ _ us hl=>match us,hl with | [_,_,_,_],_=>rfl
 have F23:=y2N (st:=z5t) l23 c23 k23
 have FI_TooMany:=y2N (st:=Fd.z1c) li_TooMany ci_TooMany ki_TooMany
 have bI_TooMany:=FI_TooMany.binds (ps:=["self", "most"]) fun _ _ _ _ _ _ us hl=>match us,hl with | [_,_],_=>rfl
 have ST_TooMany:ExcSt K z0j:=⟨⟨ei0_TooMany,ei1_TooMany,ei2_TooMany,ei3_TooMany,ei4_TooMany,ei5_TooMany⟩,sa_TooMany,ov_TooMany⟩
 refine⟨PySem.W.fnOf "law" "law" (defArgs z5t) (defBody z5t) (defScope z5t) .none kV23 dc23 pm23 an23 cd23 ct23,fun s v => .of_eq rfl,fun base _ _=>?_⟩
 exact y6C (P:=l.prog) (w:=w) (base:=base) B ⟨PySem.W.mg_of X G ac_TooMany⟩ z1g ⟨ei0_TooMany,ei1_TooMany,ei2_TooMany,ei3_TooMany,ei4_TooMany,ei5_TooMany⟩ (ExcK.mk' (P:=l.prog) (w:=w) (base:=base) (PySem.W.mg_of X G ac_TooMany) ST_TooMany na_TooMany kp_TooMany ⟨_,_,_,_,_,_,_,_,_,_,_,_,_,_,_,_,lk_TooMany,tl_TooMany,nk_TooMany,ni_TooMany⟩ li_TooMany (z8J FI_TooMany ST_TooMany na_TooMany) bI_TooMany) N0 N1 N2 N3 N4 N5 N6 N7 N8 N9 N10 N11 N12 N13 N14 N15 N16 N17 N18 N19 N20 N21 N22 F23
theorem walk{l:PySem.W.OpenLaw}{q:Program}{loose:List Str}{XP:(Str->Option Value)->Heap->Prop}{YP:World->Heap->Prop}{d:DefRec}{K:Params->PySem.W.Frag}(hn:l.most=some 63)(hdf:d.params.defaults=[])
 (hY:∀ (w:World) (h:Heap),YP w h->(K w.params).In h)
 (F:∀ (w:World) (mg:Str->Option Value) (fa:Addr) (h:Heap),(K w.params).In h->h.Ns mainGlobals mg->mg d.name=some (.ref fa) ->
  ∃ fd:FuncData,(∀ (s:Shared) (u:Value),BindsTo s fd ⟨[u],[]⟩ [("_law_script",u)])/\∀ base:Heap,(K w.params).In base->base.Ns mainGlobals mg->FnOk l.prog w (K w.params) mg base CX0 16 fa fd ["_law_script"] (y1y (K w.params))) :
 PySem.W.WalkO q loose XP YP l.row.toRowW d [] (fun f vs=>PySem.call f vs) :=
 L2.y5C (n:=63) (k:=16) (x := "_law_script") (CX:=fun _=>CX0) (sp:=fun w=>y1y (K w.params)) hn (by decide) hdf ⟨rfl,by decide,by decide⟩ hY F (fun _ _ a ns hl _ hS=>⟨a,ns,rfl,hS,hl,fun _=>rfl⟩) fun _ _ _ _ _ z=>z
end Fd
open PySem PySem.W PyProof.Rows
local macro_rules | `(tactic| o_head $H:term) => `(tactic| (refine holds_open (q := FdE.viewQ) (loose := ["joined", "all_pushed"]) (Xt := fun s => xlAt FdE.viewQ [] s && recOk (RowW.records (OpenRow.toRowW (OpenLaw.row PySem.Challenge.rw_fairdraw_k46_whole_any_order))) s) (XP := XL FdE.viewQ []) (Yf := Hook.obs $H) (Ya := Hook.val $H) (YP := Hook.says $H) (N := 2956) ?_ (Hook.of $H) (Hook.keeps $H) (fun s e => xl_of s (Bool.and_eq_true_iff.mp e).1) XL.keeps (by rfl) (by rfl) (by rfl) (fun s e => recFacts_of (Bool.and_eq_true_iff.mp e).2) (by rfl) (by first | assumption | decide +kernel) (by decide +kernel) ⟨rfl, rfl, rfl, rfl, rfl, by decide +kernel⟩ ?_ ?_))
set_option maxRecDepth 100000 in
set_option maxHeartbeats 0 in
theorem PySem.Challenge.cw_fairdraw_k46_whole_any_order_holds : PySem.Challenge.rw_fairdraw_k46_whole_any_order.Holds := by
 w_on;refine holds_law (by as_aux_lemma=>(rw[PySem.W.Fast.te9446332074065402090];kernel_rfl)) fun said=>?_;o_head (kHook FdE.pre.heap_1 ((FdE.pre.heap_1 FdE.P0).map (·.1)) (fun _=>by kernel_rfl))
 · exact FdE.left
 · w_witness2
 k_fill
 refine Fd.walk (l:=PySem.Challenge.rw_fairdraw_k46_whole_any_order) rfl rfl (fun w h Y=>PySem.W.kIn_of Y) ?F
 case F =>
  intro w mg fa h KX G hmg
  refine' Fd.y8K KX G hmg ?H0 ?H1 ?H2 ?H3 ?H4 ?H5 ?H6 ?H7 ?H8 ?lt9 ?a9 ?l9 ?c9 ?k9 ?H10 ?H11 ?lt12 ?a12 ?l12 ?c12 ?k12 ?H13 ?H14 ?H15 ?H16 ?H17 ?H18 ?H19 ?H20 ?H21 ?H22 ?a23 ?l23 ?c23 ?k23  ?li_TooMany ?ci_TooMany ?ki_TooMany ?kp_TooMany ?na_TooMany ?sa_TooMany ?ov_TooMany ?lk_TooMany ?tl_TooMany ?nk_TooMany ?ni_TooMany   ?ac_TooMany ?ei0_TooMany ?ei1_TooMany ?ei2_TooMany ?ei3_TooMany ?ei4_TooMany ?ei5_TooMany  ?z1g    ?z_abs ?z_bool ?z_dict ?z_int ?z_isinstance ?z_len ?z_list ?z_range ?z_reversed ?z_set ?z_sorted ?z_str ?z_tuple
  (case H0=>refine' Fd.z1Y ?a ?l ?c ?k;(case a=>k_is);(case l=>k_is);(case c=>k_is);(case k=>k_is))
  (case H1=>refine' Fd.z1Y ?a ?l ?c ?k;(case a=>k_is);(case l=>k_is);(case c=>k_is);(case k=>k_is))
  (case H2=>refine' Fd.z1Y ?a ?l ?c ?k;(case a=>k_is);(case l=>k_is);(case c=>k_is);(case k=>k_is))
  (case H3=>refine' Fd.z1Y ?a ?l ?c ?k;(case a=>k_is);(case l=>k_is);(case c=>k_is);(case k=>k_is))
  (case H4=>refine' Fd.z1Y ?a ?l ?c ?k;(case a=>k_is);(case l=>k_is);(case c=>k_is);(case k=>k_is))
  (case H5=>refine' Fd.z1Y ?a ?l ?c ?k;(case a=>k_is);(case l=>k_is);(case c=>k_is);(case k=>k_is))
  (case H6=>refine' Fd.z1Y ?a ?l ?c ?k;(case a=>k_is);(case l=>k_is);(case c=>k_is);(case k=>k_is))
  (case H7=>refine' Fd.z1Y ?a ?l ?c ?k;(case a=>k_is);(case l=>k_is);(case c=>k_is);(case k=>k_is))
  (case H8=>refine' Fd.z1Y ?a ?l ?c ?k;(case a=>k_is);(case l=>k_is);(case c=>k_is);(case k=>k_is))
  (case a9=>k_is);(case l9=>k_is);(case c9=>k_is);(case k9=>k_is);(case lt9=>k_is)
  (case H10=>refine' Fd.z1Y ?a ?l ?c ?k;(case a=>k_is);(case l=>k_is);(case c=>k_is);(case k=>k_is))
  (case H11=>refine' Fd.z1Y ?a ?l ?c ?k;(case a=>k_is);(case l=>k_is);(case c=>k_is);(case k=>k_is))
  (case a12=>k_is);(case l12=>k_is);(case c12=>k_is);(case k12=>k_is);(case lt12=>k_is)
  (case H13=>refine' Fd.z1Y ?a ?l ?c ?k;(case a=>k_is);(case l=>k_is);(case c=>k_is);(case k=>k_is))
  (case H14=>refine' Fd.z1Y ?a ?l ?c ?k;(case a=>k_is);(case l=>k_is);(case c=>k_is);(case k=>k_is))
  (case H15=>refine' Fd.z1Y ?a ?l ?c ?k;(case a=>k_is);(case l=>k_is);(case c=>k_is);(case k=>k_is))
  (case H16=>refine' Fd.z1Y ?a ?l ?c ?k;(case a=>k_is);(case l=>k_is);(case c=>k_is);(case k=>k_is))
  (case H17=>refine' Fd.z1Y ?a ?l ?c ?k;(case a=>k_is);(case l=>k_is);(case c=>k_is);(case k=>k_is))
  (case H18=>refine' Fd.z1Y ?a ?l ?c ?k;(case a=>k_is);(case l=>k_is);(case c=>k_is);(case k=>k_is))
  (case H19=>refine' Fd.z1Y ?a ?l ?c ?k;(case a=>k_is);(case l=>k_is);(case c=>k_is);(case k=>k_is))
  (case H20=>refine' Fd.z1Y ?a ?l ?c ?k;(case a=>k_is);(case l=>k_is);(case c=>k_is);(case k=>k_is))
  (case H21=>refine' Fd.z1Y ?a ?l ?c ?k;(case a=>k_is);(case l=>k_is);(case c=>k_is);(case k=>k_is))
  (case H22=>refine' Fd.z1Y ?a ?l ?c ?k;(case a=>k_is);(case l=>k_is);(case c=>k_is);(case k=>k_is))
  (case a23=>k_is);(case l23=>k_is);(case c23=>k_is);(case k23=>k_is)
  (case ac_TooMany=>k_is)
  (case lk_TooMany=>k_is);(case ni_TooMany=>k_is);(case li_TooMany=>k_is);(case ci_TooMany=>k_is);(case ki_TooMany=>k_is);(case kp_TooMany=>k_is);(case na_TooMany=>k_is);(case sa_TooMany=>k_is)
  (case ov_TooMany=>kernel_rfl);(case tl_TooMany=>kernel_rfl);(case nk_TooMany=>kernel_rfl)
  (case ei0_TooMany=>k_is);(case ei1_TooMany=>k_is);(case ei2_TooMany=>k_is);(case ei3_TooMany=>k_is);(case ei4_TooMany=>k_is);(case ei5_TooMany=>k_is)
  (case z1g=>kts_exm)
  (case z_abs=>k_is)
  (case z_bool=>k_is)
  (case z_dict=>k_is)
  (case z_int=>k_is)
  (case z_isinstance=>k_is)
  (case z_len=>k_is)
  (case z_list=>k_is)
  (case z_range=>k_is)
  (case z_reversed=>k_is)
  (case z_set=>k_is)
  (case z_sorted=>k_is)
  (case z_str=>k_is)
  (case z_tuple=>k_is)
