import PyProof.Rows.All
import Wide.All
import KE.KDictOf
import KE.KFromBytes
import KE.LcTurns
import KE.KIsAll
import KE.KItem
import Wide.FinOn
import KE.KNestM
import PySem.Challenge.RW_notring_k31_least_sets_step_by_step
import Lean
import PyProof.EqAt
import PyProof.EqKinds
import PyProof.TupleCall
import PyProof.DictIter
import PyProof.DictWalks
import PyProof.NeKinds
import PyProof.Rows.SetFrom
import PyProof.SetRoads
import PyProof.WalksMore
import PyProof.TupleIter
import PyProof.SumAnyB
import PyProof.Conv_int
import PyProof.Conv_int_bool
import PyProof.ListRange
import PyProof.DictTruth
import PyProof.Rows.SortWalk
import PyProof.Rows.SortRuns
import PyProof.Rows.SortShell
import KE.KSortTup
import KE.KRevIter
import PyProof.EnumMake
import PyProof.EnumIter
import PyProof.EnumFor
import PyProof.EnumStmt
import PyProof.Draws
import PyProof.Rows.CallKwBuiltin
import PyProof.DefCall
import KE.BitLaws
set_option compiler.extract_closed false
set_option Elab.async false
set_option maxRecDepth 100000
set_option maxHeartbeats 4000000
local macro_rules
 |`(tactic|omega)=>`(tactic|first|assumption|lia|omega (splitDisjunctions:=true))
set_option hygiene false
local macro_rules
 |`('a')=>`((by omega))
 |`('b')=>`((by decide))
 |`('c')=>`((model X.prog X.w))
 |`('d')=>`((openSeen K31.viewQ [] (importedModules PySem.Challenge.pw_notring_k31_least_sets_step_by_step.main.body) (λs=>xlAt K31.viewQ [] s&&recOk [] s) true (TopT.absF s)))
local macro_rules
 |`('e')=>`((model prog w))
local macro_rules
 |`(tactic|rw[0])=>`(tactic|(intro X hP hw hK hc i pins s σ H E I hf st hg;subst hP hw hK))
 |`(tactic|rw[1])=>`(tactic|(unfold chkE at h;split at h))
 |`(tactic|rw[2])=>`(tactic|(refine Yb (wpAny_callSpecial?_slot (name:=Str.ofString "__next__") G0.typeIs F.slot_tuple_iterator_next (wpAny_call_entry F.slot_tuple_iterator_next G0.typeIs F.entry_tuple_iterator_next ?_ (F.args_tuple_iterator_next_1 _)));show wpAny _ _ (field (.ref it) 0 >>= _) _ _ s;refine Yb (wpAny_field ho hd (x:=.ref t) rfl ?_);show wpAny _ _ (if(Value.ref t==Value.none)=true then _ else _) _ _ s;rw[if_neg (show ¬((Value.ref t==Value.none)=true) from YG)];show wpAny _ _ (field (.ref it) 1 >>= _) _ _ s;refine Yb (wpAny_field ho hd (x:=.int i 0) rfl ?_);show wpAny _ _ (seqItems? (.ref t) >>= _) _ _ s;refine Yb (wpAny_seqItems Mw MR ?_)))
set_option bootstrap.genMatcherCode false
set_option genSizeOfSpec false
local macro_rules
 |`(command|def $i:declId $s:optDeclSig $v:declVal)=>`(command|noncomputable def $i:declId $s:optDeclSig $v:declVal)
 |`(command|abbrev $i:declId $s:optDeclSig $v:declVal)=>`(command|noncomputable abbrev $i:declId $s:optDeclSig $v:declVal)
def Yb:=@PySem.wpAny_bind
def Yc:=@PySem.wpAny_pure
def Yd:=@PySem.Heap.get?_push_of_some
def Ye:=@PySem.Heap.lt_size
def Yg:=@PySem.Heap.get?_push_size
def Yh:=@False.elim
def Yi:=@Option.some.inj
def Yj:=@PySem.wpAny_holding
def Yk:=@PySem.wpAny_standAt
abbrev Za:=PySem.W.Frag
abbrev Zb:=PySem.Value->PySem.Shared->Prop
abbrev Zc:=List (PySem.Addr×PySem.Obj)
abbrev Zd:=List PySem.Value
abbrev Ze:=PySem.Str->Option PySem.Value
abbrev Zf:=List PySem.Str
abbrev Zg:=List PySem.Expr
abbrev Zh:=List PySem.Addr
abbrev Zi:=List Int
abbrev Zj:=List Nat
abbrev Zk:=PySem.Value->PySem.Value->PySem.Sem PySem.Value
abbrev Zl:=Array PySem.Value
abbrev Zm:=Option PySem.Addr
abbrev Zn:=Array (Option PySem.Value)
abbrev Zo:=Unit->PySem.Shared->Prop
abbrev Zp:=List (Nat×Nat)
abbrev Zq:=Option Int
abbrev Zr:=List (PySem.Str×PySem.Addr)
abbrev Zs:=List (Bool×Int)
abbrev Zt:=List (List PySem.Addr)
abbrev Zu:=List PySem.Stmt
abbrev Zv:=PySem.FuncData
abbrev Zw:=PySem.Program
abbrev Zx:=Option PySem.Value
local macro_rules
  | `(tactic| rfl') => `(tactic| decide +kernel)
def XA:=@Bool.and_eq_true
theorem XB{α β}{f:α→β}:[].map f=[]:=rfl
def XC:=@List.replicate_succ
def XD:=@List.flatten_cons
def XE:=@Array.getElem?_toList
theorem XF{α}(l:List α):[]++l=l:=rfl
def XG:=@Bool.false_eq_true
def XH:=@beq_self_eq_true
def XI:=@List.find?_cons
def XJ:=@List.any_cons
def XM:=@Nat.lt_of_le_of_lt
def XN:=@List.lookup_cons
def XO:=@Nat.lt_succ_of_lt
def XQ:=@List.all_eq_true
def XR:=@List.mem_singleton
def XS:=@of_decide_eq_true
def XT:=@List.all_cons
def XU:=@decide_eq_true_eq
def XV:=@List.drop_eq_getElem_cons
def XW:=@List.getElem?_of_mem
def XX:=@Bool.not_eq_true'
def XY:=@List.perm_append_comm
def XZ:=@List.take_append_drop
def YA:=@List.mem_cons_self
def YB:=@List.mem_cons_of_mem
def YC:=@List.mem_cons
def YD:=@List.mem_append
def YE:=@List.getElem?_eq_some_iff
def YF:=@Array.length_toList
def YG:=@Bool.false_ne_true
def YH:=@Nat.le_refl
def YI:=@List.mem_append_right
def YJ:=@List.size_toArray
theorem YK{α}{a:α}{l}:(a::l).length=l.length+1:=rfl
theorem YM{α β}{f:α→β}{a l}:(a::l).map f=f a::l.map f:=rfl
def YN:=@Nat.lt_succ_self
def YO:=@Nat.zero_le
def YQ:=@Nat.le_succ
def YR:=@List.nodup_cons
def YU:=@List.length_take
def YV:=@List.mem_of_getElem?
theorem YW{α}:([]:List α).length=0:=rfl
def YX:=@decide_eq_true
def YY:=@Int.toNat_natCast
def YZ:=@List.length_drop
def ZA:=@List.append_nil
def ZB:=@Array.toList_push
def ZC:=@List.append_assoc
def ZE:=@List.getElem?_eq_getElem
def ZF:=@List.getElem?_append_left
def ZG:=@List.length_map
def ZH:=@List.getElem?_map
def ZI:=@List.getElem?_append_right
def ZJ:=@List.getElem?_range
def ZK:=@List.getElem?_eq_none
def ZL:=@List.length_range
def ZM:=@List.length_append
def ZN:=@List.map_append
def ZO:=@List.map_map
def ZP:=@List.map_congr_left
def ZQ:=@Option.map_eq_some_iff
def ZS:=@decide_eq_false
def ZT:=@beq_eq_false_iff_ne
def ZU:=@Nat.lt_of_lt_of_le
def ZV:=@Nat.lt_irrefl
def ZW:=@Nat.ne_of_lt
def ZX:=@List.mem_filter
def ZY:=@List.mem_range
def ZZ:=@Nat.le_trans
namespace TopT
open PySem PySem.W PyProof.Rows
def jZ:List Obj->Nat->BT->Option (BT×Nat)
 |[],n,T=>some (T,n)
 |o::r,n,T=>match((T.ins n o).get n).isSome with
  |true=>jZ r (n+1) (T.ins n o)
  |false=>none
theorem sm(a:Life):∀{os:List Obj}{n n':Nat}{T b:BT},jZ os n T=some (b,n')->absHeap b n' a=⟨((absHeap T n a).objs.toList++os).toArray,a⟩
 |[],n,n',T,b,h=>by
  cases h;rw[ZA];rfl
 |o::r,n,n',T,b,h=>by
  unfold jZ at h;cases g:((T.ins n o).get n).isSome with
  |false=>rw[g] at h;cases h
  |true=>
   rw[g] at h;have c:=sm a (os:=r) h;rw[c,absHeap_ins g];show Heap.mk (((absHeap T n a).objs.push o).toList++r).toArray a=_;rw[ZB,ZC];rfl
def nQ(b:String->Option Builtin)(p:Zw)(w:World)(c:Nat)(a:Zx):Nat->SharedT->Thread->Option SharedT
 |0,_,_=>none
 |n+1,s,t=>match through t with
  |true=>some s
  |false=>match stepOk c a t with
   |false=>none
   |true=>match stepT (denote b) p w s t with
    |some (d,t')=>nQ b p w c a n d t'
    |none=>none
theorem sn{b:String->Option Builtin}{p:Zw}{w:World}{c:Nat}{a:Zx}:∀{n:Nat}{s d:SharedT}{t:Thread},nQ b p w c a n s t=some d->topRun b p w c a n s.abs t=some d.abs
 |0,_,_,_,h=>by cases h
 |n+1,s,d,t,h=>by
  unfold nQ at h;unfold topRun;cases ht:through t with
  |true=>rw[ht] at h;cases h;rfl
  |false=>
   rw[ht] at h;cases hk:stepOk c a t with
   |false=>rw[hk] at h;cases h
   |true=>
    rw[hk] at h;cases hs:stepT (denote b) p w s t with
    |none=>rw[hs] at h;cases h
    |some x=>
     obtain⟨s2,f⟩:=x;rw[hs] at h
     have:=stepT_spec hs
     simp only[this];exact sn h
def getT(s:SharedT)(a:Addr):Option Obj:=match Nat.blt a s.n with
 |true=>alive ((s.tree.get a).getD default)
 |false=>none
theorem CD(s:SharedT)(a:Addr):s.abs.heap.get? a=getT s a:=by
 show(absHeap s.tree s.n s.life).get? a=_;unfold getT Heap.get?;rw[absHeap_at];cases e:Nat.blt a s.n with
 |true=>
  have lt:a<s.n:=Nat.le_of_ble_eq_true e;rw[if_pos lt];obtain⟨c,d,b,sl⟩:=(s.tree.get a).getD default;cases b<;>rfl
 |false=>
  have f:¬a<s.n:=λh=>by
   have:Nat.blt a s.n=true:=Nat.ble_eq_true_of_le h
   rw[this] at e;cases e
  rw[if_neg f]
def lft:BT->BT
 |.nil=>.nil
 |.node _ l _=>l
def rgt:BT->BT
 |.nil=>.nil
 |.node _ _ r=>r
def rt:BT->Obj
 |.nil=>default
 |.node v _ _=>v
def atL(ts:List BT)(m i:Nat):Obj:=(((ts[i%m]?).getD .nil).get (i / m)).getD default
def lv:Nat->List BT->Nat->Nat->List Obj
 |0,ts,m,n=>(List.range n).map (atL ts m)
 |k+1,ts,m,n=>match Nat.ble n m with
  |true=>(ts.take n).map rt
  |false=>ts.map rt++lv k (ts.map lft++ts.map rgt) (m+m) (n-m)
theorem Ep(t:BT):(t.get 0).getD default=rt t:=by cases t<;>rfl
theorem CF(t:BT)(j:Nat):t.get (2*j+1)=(lft t).get j:=by
 cases t with
 |nil=>rfl
 |node v l r=>rw[BT.get_node,if_neg 'a',if_pos 'a',show(2*j+1) / 2=j by omega];rfl
theorem AE(t:BT)(j:Nat):t.get (2*j+2)=(rgt t).get j:=by
 cases t with
 |nil=>rfl
 |node v l r=>rw[BT.get_node,if_neg 'a',if_neg 'a',show(2*j+2) / 2-1=j by omega];rfl
theorem pV{ts:List BT}{m r:Nat}(k:Nat)(a:r<m):atL ts m (m*k+r)=((ts[r]?.getD .nil).get k).getD default:=by
 unfold atL;rw[Nat.mul_add_mod,Nat.mod_eq_of_lt a,Nat.mul_add_div 'a',Nat.div_eq_of_lt a,Nat.add_zero]
theorem Er{ts:List BT}{m:Nat}(h:ts.length=m)(hm:0<m)(i:Nat):atL ts m (m+i)=atL (ts.map lft++ts.map rgt) (m+m) i:=by
 have a:i%m<m:=Nat.mod_lt _ hm;have d:=Nat.div_add_mod i m;generalize i%m=r at *;generalize i / m=k at *;subst d;obtain⟨t,e0⟩:∃t,ts[r]?=some t:=⟨_,ZE (h▸a)⟩;rw[show m+(m*k+r)=m*(k+1)+r by rw[Nat.mul_add];omega,pV _ a,e0];rcases Nat.mod_two_eq_zero_or_one k with e | e
 ·obtain⟨j,rfl⟩:∃j,k=2*j:=⟨k / 2,by omega⟩
  rw[show m*(2*j)+r=(m+m)*j+r by rw[←Nat.mul_assoc,Nat.mul_two],pV _ 'a',ZF (by rw[ZG];omega),ZH,e0];exact congrArg (·.getD default) (CF _ j)
 ·obtain⟨j,rfl⟩:∃j,k=2*j+1:=⟨k / 2,by omega⟩
  rw[show m*(2*j+1)+r=(m+m)*j+(m+r) by rw[Nat.mul_add,←Nat.mul_assoc,Nat.mul_two];omega,pV _ 'a',ZI (by rw[ZG];omega),ZG,h,Nat.add_sub_cancel_left,ZH,e0];exact congrArg (·.getD default) (AE _ j)
theorem Cf:∀(k:Nat){ts:List BT}{m:Nat}(n:Nat),ts.length=m->0<m->lv k ts m n=(List.range n).map (atL ts m)
 |0,_,_,_,_,_=>rfl
 |k+1,ts,m,n,h,hm=>by
  have hd:∀j,j<m->atL ts m j=rt (ts[j]?.getD .nil):=λj a=>by
   rw[show j=m*0+j by omega,pV _ a,Ep];simp
  show(match Nat.ble n m with | true=>_ | false=>_)=_;cases e:Nat.ble n m with
  |true=>
   have hn:n<=m:=Nat.le_of_ble_eq_true e;apply List.ext_getElem?;intro j;show((ts.take n).map rt)[j]?=_;rw[ZH,ZH,List.getElem?_take];by_cases a:j<n
   ·rw[if_pos a,ZJ a,ZE 'a']
    show some (rt ts[j])=some (atL ts m j);rw[hd j 'a',ZE 'a'];rfl
   ·rw[if_neg a,ZK (by rw[ZL];omega)];rfl
  |false=>
   have hn:m<n:=Nat.lt_of_not_le λq=>by rw[Nat.ble_eq_true_of_le q] at e;cases e
   show ts.map rt++lv k (ts.map lft++ts.map rgt) (m+m) (n-m)=_;rw[Cf k (n-m) (by rw[ZM,ZG,ZG,h]) 'a',show n=m+(n-m) by omega,List.range_add,ZN,ZO];congr 1
   ·apply List.ext_getElem?
    intro j;rw[ZH,ZH];by_cases a:j<m
    ·rw[ZJ a,ZE 'a']
     show some (rt ts[j])=some (atL ts m j);rw[hd j a,ZE 'a'];rfl
    ·rw[ZK 'a',ZK (by rw[ZL];omega)];rfl
   ·rw[show m+(n-m)-m=n-m by omega]
    exact ZP λi _=>(Er h hm i).symm
theorem list_eq(t:BT)(n:Nat):t.list n=lv 20 [t] 1 n:=by
 rw[Cf (ts:=[t]) (m:=1) 20 n rfl 'b'];unfold BT.list;apply ZP;intro i _;show _=(((([t]:List BT)[i%1]?).getD .nil).get (i / 1)).getD default;rw[Nat.mod_one,Nat.div_one];rfl
def absF(s:SharedT):Shared:=⟨⟨(lv 20 [s.tree] 1 s.n).toArray,s.life⟩,s.gens,s.drawn,s.toks,s.os⟩
theorem wR(s:SharedT):s.abs=absF s:=by
 unfold SharedT.abs absHeap absF;rw[list_eq]
def runC{a:Type}(p:Zw)(w:World)(N:Nat)(C:Shared->SharedT->a):Option a:=(fencedOpening treeTable p w N).bind λs₀=>match s₀.heap.isNs mainGlobals&&s₀.gens.size==0 with
 |true=>match jZ s₀.heap.objs.toList 0 .nil with
  |some (T,n)=>(nQ treeTable p w s₀.heap.objs.size (s₀.heap.nsMap mainGlobals "__annotations__") N ⟨T,n,s₀.heap.life,s₀.gens,s₀.drawn,s₀.toks,s₀.os⟩ (topStub p)).map (C s₀)
  |none=>none
 |false=>none
theorem AF{a:Type}{p:Zw}{w:World}{N:Nat}(C:Shared->SharedT->a):runC p w N C=(runC p w N Prod.mk).map λx=>C x.1 x.2:=by
 unfold runC;cases fencedOpening treeTable p w N with
 |none=>rfl
 |some s₀=>
  show(match s₀.heap.isNs mainGlobals&&s₀.gens.size==0 with | true=>_ | false=>_)=Option.map _ (match s₀.heap.isNs mainGlobals&&s₀.gens.size==0 with | true=>_ | false=>_);cases s₀.heap.isNs mainGlobals&&s₀.gens.size==0 with
  |false=>rfl
  |true=>
   show(match jZ s₀.heap.objs.toList 0 .nil with | some (T,n)=>_ | none=>_)=Option.map _ (match jZ s₀.heap.objs.toList 0 .nil with | some (T,n)=>_ | none=>_);cases jZ s₀.heap.objs.toList 0 .nil with
   |none=>rfl
   |some x=>
    obtain⟨T,n⟩:=x;show Option.map (C s₀) _=Option.map _ (Option.map (Prod.mk s₀) _);rw[Option.map_map];rfl
def tS(p:Zw)(s₀ s:Shared):Bool:=staticsOk (importedModules p.main.body) s₀.heap s.heap&&namesBound p s.heap&&gensDone s&&laidKept s₀.heap s.heap
theorem CG{p:Zw}{w:World}{N:Nat}{s₀:Shared}{s:SharedT}(h:runC p w N Prod.mk=some (s₀,s))(k:tS p s₀ (absF s)=true):openEnds treeTable p w N=some (absF s):=by
 unfold runC at h;obtain⟨b,c,h⟩:=Option.bind_eq_some_iff.mp h;cases g:(b.heap.isNs mainGlobals&&b.gens.size==0) with
 |false=>rw[g] at h;cases h
 |true=>
  rw[g] at h;cases e:jZ b.heap.objs.toList 0 .nil with
  |none=>rw[e] at h;cases h
  |some x=>
   obtain⟨T,n⟩:=x;rw[e] at h;obtain⟨f,d,h2⟩:=ZQ.mp h;cases h2;have a:(⟨T,n,s₀.heap.life,s₀.gens,s₀.drawn,s₀.toks,s₀.os⟩:SharedT).abs=s₀:=by
    show Shared.mk (absHeap T n s₀.heap.life) _ _ _ _=_;rw[sm s₀.heap.life e];rfl
   have r:=sn d;rw[a,wR] at r;unfold openEnds topFrom;rw[c];show(match s₀.heap.isNs mainGlobals&&s₀.gens.size==0 with | true=>_ | false=>_)=_;rw[g];show(topRun treeTable p w s₀.heap.objs.size (s₀.heap.nsMap mainGlobals "__annotations__") N s₀ (topStub p)).bind _=_;rw[r];show(match tS p s₀ (absF s) with | true=>some (absF s) | false=>none)=_;rw[k]
theorem F5{p q:Zw}{loose:Zf}{Xt:Shared->Bool}{N:Nat}{b:Bool}{K:Params->Frag}{as:Zh}{e:∀P,as=(K P).map (·.1)}
  (j:∀w,runC p w N (λs₀ s=>(tS p s₀ (absF s),(openSeen q loose (importedModules p.main.body) Xt b (absF s)).1,(openSeen q loose (importedModules p.main.body) Xt b (absF s)).2.1))=some (true,expectedOf q,bltViewBooted))
  (h2:∀w,runC p w N (λ_ s=>(openSeen q loose (importedModules p.main.body) Xt b (absF s)).2.2.1)=some true)
  (c:∀w,runC p w N (λ_ s=>((openSeen q loose (importedModules p.main.body) Xt b (absF s)).2.2.2.1,(openSeen q loose (importedModules p.main.body) Xt b (absF s)).2.2.2.2.1))=some (true,pinGoodD (drecsOf q)))
  (d:∀w,runC p w N (λ_ s=>(openSeen q loose (importedModules p.main.body) Xt b (absF s)).2.2.2.2.2.1)=some (plainGoodE q (looseW q loose)))
  (f:∀w,runC p w N (λ_ s=>(openSeen q loose (importedModules p.main.body) Xt b (absF s)).2.2.2.2.2.2)=some (plainGoodD q loose,wideGood q,clsGoodW q loose))
  (g:∀w:World,runC p w N (λ_ s=>as.map (getT s))=some ((K w.params).map (λp=>some p.2))):LeftO p q loose Xt (Hook.obs (kHook K as e)) (Hook.val (kHook K as e)) N b:=λw=>by
 have j:=j w;have h2:=h2 w;have c:=c w;have g:=g w;have d:=d w;have f:=f w;rw[AF] at j h2 c g d f;obtain⟨⟨s₀,s⟩,l,m⟩:=ZQ.mp j;rw[l] at h2 c g d f;obtain⟨n,k⟩:=Prod.mk.inj m;obtain⟨k,o⟩:=Prod.mk.inj k;obtain⟨r,u⟩:=Prod.mk.inj (Yi c);rw[CG l n];have y:as.map (absF s).heap.get?=as.map (getT s):=ZP λa _=>by rw[←wR];exact CD s a
 exact congrArg some (Prod.ext (Prod.ext k (Prod.ext o (Prod.ext (Yi h2) (Prod.ext r (Prod.ext u (Prod.ext (Yi d) (Yi f))))))) (y.trans (Yi g)))
end TopT
section
open PySem PySem.W PyProof.Rows
def K31.viewQ:Program:=PySem.W.view PySem.Challenge.pw_notring_k31_least_sets_step_by_step [0,2,3,4,5,6,7,9,10,11,12,13,14,15,16,18,19,20,21,22,23,24,26,27,29,30,31,32,33,34,35,36,37,38,39,40,41,43,44,45,46,47,48,49,50,51,52,53,54,55,56,57,58]
set_option maxHeartbeats 0 in
theorem K31.said:PySem.Challenge.rw_notring_k31_least_sets_step_by_step.wellSaid=true:=by kernel_rfl
set_option maxHeartbeats 0 in
theorem K31.seen1:∀w:World,TopT.runC PySem.Challenge.pw_notring_k31_least_sets_step_by_step w 9100 (λs₀ s=>(TopT.tS PySem.Challenge.pw_notring_k31_least_sets_step_by_step s₀ (TopT.absF s),'d'.1,'d'.2.1))=some (true,expectedOf K31.viewQ,bltViewBooted):=by
 intro w;kernel_rfl
set_option maxHeartbeats 0 in
theorem K31.seen2:∀w:World,TopT.runC PySem.Challenge.pw_notring_k31_least_sets_step_by_step w 9100 (λ_ s=>'d'.2.2.1)=some true:=by
 intro w;kernel_rfl
set_option maxHeartbeats 0 in
theorem K31.seen3:∀w:World,TopT.runC PySem.Challenge.pw_notring_k31_least_sets_step_by_step w 9100 (λ_ s=>('d'.2.2.2.1,'d'.2.2.2.2.1))=some (true,pinGoodD (drecsOf K31.viewQ)):=by
 intro w;kernel_rfl
set_option maxHeartbeats 0 in
theorem K31.seen5:∀w:World,TopT.runC PySem.Challenge.pw_notring_k31_least_sets_step_by_step w 9100 (λ_ s=>'d'.2.2.2.2.2.1)=some (plainGoodE K31.viewQ (looseW K31.viewQ [])):=by
 intro w;kernel_rfl
set_option maxHeartbeats 0 in
theorem K31.seen6:∀w:World,TopT.runC PySem.Challenge.pw_notring_k31_least_sets_step_by_step w 9100 (λ_ s=>'d'.2.2.2.2.2.2)=some (plainGoodD K31.viewQ [],wideGood K31.viewQ,clsGoodW K31.viewQ []):=by
 intro w;kernel_rfl
end
-- CHANGE: your row's module here,as the last of these a_
set_option linter.all false
namespace L2
open PySem PySem.Spec PyProof.Rows
abbrev Key:=Sum Int Str
def lD:Key->Value->Bool
 |.inl k,v=>Value.isInt k v
 |.inr x,v=>Value.isStrOf x v
def keyH(w:World):Key->Int
 |.inl k=>hashInt k
 |.inr x=>hashStr w x
theorem bh:∀{k:Key}{v:Value},lD k v=true->(∃i t,k=Sum.inl i/\v=Value.int i t)\/(∃x t,k=Sum.inr x/\v=Value.str x t)
 |.inl i,v,h=>by
  obtain⟨t,e⟩:=Value.isInt_shape (k:=i) (v:=v) h;exact .inl ⟨i,t,rfl,e⟩
 |.inr x,v,h=>by
  obtain⟨t,e⟩:=Value.isStrOf_shape (x:=x) (v:=v) h;exact .inr ⟨x,t,rfl,e⟩
theorem yP(i:Int)(t:Tok):lD (.inl i) (.int i t)=true:=by simp[lD,Value.isInt]
theorem yQ(x:Str)(t:Tok):lD (.inr x) (.str x t)=true:=by simp[lD,Value.isStrOf]
theorem Et(a b:Int):decide ((Sum.inl a:Key)=Sum.inl b)=(a==b):=by
 by_cases e:a=b
 ·subst e;simp
 ·have h:¬(Sum.inl a:Key)=Sum.inl b:=λq=>e (Sum.inl.inj q)
  rw[ZS h];exact(ZT.mpr e).symm
theorem Eu(a b:Str):decide ((Sum.inr a:Key)=Sum.inr b)=decide (a=b):=by
 by_cases e:a=b
 ·subst e;simp
 ·have h:¬(Sum.inr a:Key)=Sum.inr b:=λq=>e (Sum.inr.inj q)
  rw[ZS h,ZS e]
theorem Ev(a:Int)(b:Str):decide ((Sum.inl a:Key)=Sum.inr b)=false:=ZS (λq=>nomatch q)
theorem Ew(a:Str)(b:Int):decide ((Sum.inr a:Key)=Sum.inl b)=false:=ZS (λq=>nomatch q)
def a9(prog:Zw)(w:World):PySem.KeyKind prog w Key where
 is:=lD
 hash:=keyH w
 inj:=λv a b ha hb=>by
  rcases bh ha with⟨i,t,rfl,rfl⟩ | ⟨x,t,rfl,rfl⟩
  ·rcases bh hb with⟨j,u,rfl,e⟩ | ⟨y,u,rfl,e⟩
   ·injection e with e1 _;rw[e1]
   ·exact nomatch e
  ·rcases bh hb with⟨j,u,rfl,e⟩ | ⟨y,u,rfl,e⟩
   ·exact nomatch e
   ·injection e with e1 _;rw[e1]
 byValue:=λk v h=>by
  rcases bh h with⟨i,t,rfl,rfl⟩ | ⟨x,t,rfl,rfl⟩<;>rfl
 pyHash:=λhv h=>by
  rcases bh hv with⟨i,t,rfl,rfl⟩ | ⟨x,t,rfl,rfl⟩
  ·exact wpAny_pyHash_int h
  ·exact wpAny_pyHash_str h
 eqBool:=λhu hv h=>by
  rcases bh hu with⟨i,t,rfl,rfl⟩ | ⟨x,t,rfl,rfl⟩
  ·rcases bh hv with⟨j,u,rfl,rfl⟩ | ⟨y,u,rfl,rfl⟩
   ·rw[Et] at h;exact wpAny_eqBool_int h
   ·rw[Ev] at h;exact SeqAt.EqAt.int_str i t y u _ _ _ _ h
  ·rcases bh hv with⟨j,u,rfl,rfl⟩ | ⟨y,u,rfl,rfl⟩
   ·rw[Ew] at h;exact SeqAt.EqAt.str_int x t j u _ _ _ _ h
   ·rw[Eu] at h;exact wpAny_eqBool_str h
 «strs»:=λk x t v h=>by
  rcases bh h with⟨i,u,rfl,e⟩ | ⟨y,u,rfl,e⟩
  ·exact nomatch e
  ·injection e with e1 _
   subst e1;cases v<;>rfl
theorem xH(prog:Zw)(w:World)(k:Key)(v:Value):(a9 prog w).is k v=lD k v:=rfl
theorem we(prog:Zw)(w:World)(i:Int)(t:Tok):(a9 prog w).is (.inl i) (.int i t)=true:=yP i t
theorem wf(prog:Zw)(w:World)(x:Str)(t:Tok):(a9 prog w).is (.inr x) (.str x t)=true:=yQ x t
inductive V where
 |non | bl (b:Bool) | int (i:Int) | str (x:Str) | byt (b:Array UInt8) | flt (b:UInt64) | ref (a:Addr) | ty (n:String)
 deriving DecidableEq
def RelV:V->Value->Prop
 |.non,u=>u=Value.none
 |.bl b,u=>u=Value.bool b
 |.int i,u=>∃t,u=Value.int i t
 |.str x,u=>∃t,u=Value.str x t
 |.byt b,u=>∃t,u=Value.bytes b t
 |.flt b,u=>∃t,u=Value.float b t
 |.ref a,u=>u=Value.ref a
 |.ty n,u=>u=Value.type n
abbrev Vals:List V->List Value->Prop:=Paired RelV
theorem Vals.length{xs:List V}{us:Zd}(r:Vals xs us):xs.length=us.length:=Paired.length r
theorem Vals.get:∀{xs:List V}{us:Zd}{i:Nat}{x:V},Vals xs us->xs[i]?=some x->∃u,us[i]?=some u/\RelV x u
 |_,_,_,_,.nil,e=>by simp at e
 |_,_,0,_,.cons r _,e=>by simp at e;subst e;exact⟨_,rfl,r⟩
 |_,_,i+1,x,.cons _ t,e=>by
  obtain⟨u,a,h2⟩:=Vals.get (i:=i) (x:=x) t (by simpa using e);exact⟨u,by simpa using a,h2⟩
theorem Vals.set{x:V}{u:Value}(r:RelV x u):∀{xs:List V}{us:Zd}(i:Nat),Vals xs us->Vals (xs.set i x) (us.set i u)
 |_,_,_,.nil=>.nil
 |_,_,0,.cons _ t=>.cons r t
 |_,_,i+1,.cons q t=>.cons q (Vals.set r i t)
theorem Vals.append{xs ys:List V}{us a:Zd}(h:Vals xs us)(s:Vals ys a):Vals (xs++ys) (us++a):=by
 induction h with
 |nil=>exact s
 |cons r _ b=>exact .cons r b
theorem Vals.take:∀{xs:List V}{us:Zd}(n:Nat),Vals xs us->Vals (xs.take n) (us.take n)
 |_,_,0,_=>.nil
 |_,_,_+1,.nil=>.nil
 |_,_,n+1,.cons r t=>.cons r (Vals.take n t)
theorem Vals.drop:∀{xs:List V}{us:Zd}(n:Nat),Vals xs us->Vals (xs.drop n) (us.drop n)
 |_,_,0,r=>r
 |_,_,_+1,.nil=>.nil
 |_,_,n+1,.cons _ t=>Vals.drop n t
def RelO:Option V->Option Value->Prop
 |some v,some u=>RelV v u
 |none,none=>True
 |_,_=>False
def KV{a:Type}:List (a×V)->List (a×Value)->Prop:=Paired λ(p:a×V) (q:a×Value)=>p.1=q.1/\RelV p.2 q.2
def kV:Key->V
 |.inl i=>.int i
 |.inr x=>.str x
inductive HO where
  /-- a list -/
  | lst (xs:List V)
  /-- a tuple (never changes) -/
  | tup (xs:List V)
  /-- a dict whose keys are ints and texts; one whose keys are tuples of ints and texts (the empty one is both) -/
  | dK (e_:List (Key × V)) | dT (e_:List (List Key × V))
  /-- a set of ints: c_ members,c_ size -/
  | set (S:Int->Bool) (n:Nat)
  /-- an instance of the class at C,c_ dict at dx,c_ attributes -/
  | ins (C dx:Addr) (fs:List (Str × V))
  /-- the dict of the instance at x -/
  | own (x:Addr)
  /-- the dict of an exception -/
  | xd (fs:List (Str × V))
  /-- a bound method,f of x -/
  | met (f x:Addr)
  /-- a range object lo,lo + 1,.. below hi -/
  | rng (lo hi:Int)
  /-- a thing that is known to the object (the script; a dict while a loop walks it): read,never written while it is so -/
  | frz (o:Obj) (u:HO)
  /-- a code object's table -/
  | tbl (ps:Zl)
  /-- any other thing,by what is true of c_ one object (a def of PC own: SetO a S n:=HO.ext λh=>..) -/
  | ext (φ:Heap->Prop)
abbrev Hp:=Addr->Option HO
def upd(H:Hp)(a:Addr)(o:HO):Hp:=λb=>if b=a then some o else H b
theorem aw{H:Hp}{a:Addr}{o:HO}:upd H a o a=some o:=by unfold upd;rw[if_pos rfl]
theorem aB{H:Hp}{a b:Addr}{o:HO}(h:b≠a):upd H a o b=H b:=by unfold upd;rw[if_neg h]
theorem F8{H:Hp}{a b:Addr}{o u:HO}(h:H a=some o)(h':H b=some u)(d:o≠u):a≠b:=by
 intro e;subst e;rw[h] at h';exact d (Yi h')
theorem aT{H:Hp}{a b:Addr}{o:HO}(h:H a=some o)(h':H b=none):a≠b:=by
 intro e;subst e;rw[h] at h';cases h'
section
variable (P:Zw)(w:World)
def aN(H:Hp)(h:Heap)(a:Addr):HO->Prop
 |.lst xs=>xs.length<=sizeLine/\∃(c_:Zd) (n:Nat),Vals xs c_/\h.get? a=some { cls:=.type "list",data:=.seq c_.toArray n }
 |.tup xs=>xs.length<=sizeLine/\∃c_:List Value,Vals xs c_/\IsTup h a c_.toArray
 |.dK b=>b.length<=sizeLine/\(a==sysModules)=false/\∃vs,KV b vs/\h.DictOf (a9 P w) a vs
 |.dT b=>b.length<=sizeLine/\(a==sysModules)=false/\∃xs:List (List Key×Addr×Value),
   Paired (λ(p:List Key×V) (q:List Key×Addr×Value)=>p.1=q.1/\H q.2.1=some (.tup (p.1.map kV))/\RelV p.2 q.2.2) b xs /\
   ∃o es g,h.get? a=some o/\o.ExactDict/\o.data=.dict es g/\es.toList=xs.map (entryOfKey (tupleKind (a9 P w)))/\(xs.map (·.1)).Nodup
 |.set S n=>h.SetOf (intKind P w) a S n
 |.ins C dx fs=>H dx=some (.own a)/\fs.length<=1000/\dx≠a/\h.get? a=some (PySem.W.instObj C dx) /\
   ∃mA,h.Ns1 dx mA/\(∀f,RelO (fs.lookup f) (mA f))/\PySem.Within mA (fs.map (·.1))
 |.own _=>∃o,h.get? a=some o
 |.xd fs=>∃mA,h.Ns1 a mA/\∀f,RelO (fs.lookup f) (mA f)
 |.rng lo hi=>∃t u v,h.get? a=some { cls:=.type "range",data:=.fields #[.int lo t,.int hi u,.int 1 v] }
 |.frz o u=>h.get? a=some o/\aN H h a u
 |.tbl ps=>h.get? a=some { cls:=.none,data:=.fields ps }
 |.met f x=>h.get? a=some (PySem.W.methodObj (.ref f) (.ref x))
 |.ext c=>c h/\(∃o,h.get? a=some o)/\∀d h2:Heap,c d->(∀o,d.get? a=some o->h2.get? a=some o)->c h2
def HOk(H:Hp)(h:Heap):Prop:=∀a o,H a=some o->aN P w H h a o
end
section
variable {P:Zw}{w:World}{H H':Hp}{h h':Heap}{a:Addr}{o:HO}
theorem aN.lt(x:aN P w H h a o):a<h.objs.size:=by
 cases o with
 |lst xs=>obtain⟨_,_,_,_,e⟩:=x;exact Ye e
 |tup xs=>obtain⟨_,_,_,p⟩:=x;exact p.lt
 |dK b=>obtain⟨_,_,_,_,o,_,_,e,_⟩:=x;exact Ye e
 |dT b=>obtain⟨_,_,_,_,o,_,_,e,_⟩:=x;exact Ye e
 |set S n=>obtain⟨o,_,_,_,e,_⟩:=x;exact Ye e
 |ins C dx fs=>obtain⟨_,_,_,e,_⟩:=x;exact Ye e
 |own y=>obtain⟨_,e⟩:=x;exact Ye e
 |xd fs=>obtain⟨_,⟨_,_,_,e,_⟩,_⟩:=x;exact Ye e
 |rng lo hi=>obtain⟨_,_,_,e⟩:=x;exact Ye e
 |frz c u=>obtain⟨e,_⟩:=x;exact Ye e
 |tbl ps=>exact Ye (show h.get? a=some _ from x)
 |met f y=>exact Ye (show h.get? a=some _ from x)
 |ext d=>obtain⟨_,⟨_,e⟩,_⟩:=x;exact Ye e
theorem Paired.mapP{c d:Type}{F G:c->d->Prop}{g:List c}{j:List d}(h:Paired F g j)(f:∀a b,F a b->G a b):Paired G g j:=by
 induction h with
 |nil=>exact .nil
 |cons r _ k=>exact .cons (f _ _ r) k
theorem aN.stay(x:aN P w H h a o)(k:∀b u,(b=a\/H b=some (.own a))->h.get? b=some u->h'.get? b=some u)
  (ho:∀b,H b=some (.own a)->H' b=some (.own a)) (ht:∀b xs,H b=some (.tup xs)->H' b=some (.tup xs)):aN P w H' h' a o:=by
 induction o with
 |lst xs=>obtain⟨z,c_,n,r,e⟩:=x;exact⟨z,c_,n,r,k _ _ (.inl rfl) e⟩
 |tup xs=>obtain⟨z,c_,r,g,e,c⟩:=x;exact⟨z,c_,r,g,k _ _ (.inl rfl) e,c⟩
 |dK l=>obtain⟨z,y,vs,r,g,es,j,e,c⟩:=x;exact⟨z,y,vs,r,g,es,j,k _ _ (.inl rfl) e,c⟩
 |dT l=>
  obtain⟨z,y,xs,r,g,es,j,e,c⟩:=x;exact⟨z,y,xs,Paired.mapP r λp q z=>⟨z.1,ht _ _ z.2.1,z.2.2⟩,g,es,j,k _ _ (.inl rfl) e,c⟩
 |set S n=>obtain⟨g,es,j,t,e,c⟩:=x;exact⟨g,es,j,t,k _ _ (.inl rfl) e,c⟩
 |ins C dx fs=>
  obtain⟨d,z,ne,e,mA,⟨od,es,j,m,c⟩,r⟩:=x;exact⟨ho _ d,z,ne,k _ _ (.inl rfl) e,mA,⟨od,es,j,k _ _ (.inr d) m,c⟩,r⟩
 |own y=>obtain⟨g,e⟩:=x;exact⟨g,k _ _ (.inl rfl) e⟩
 |xd fs=>obtain⟨mA,⟨od,es,j,e,c⟩,r⟩:=x;exact⟨mA,⟨od,es,j,k _ _ (.inl rfl) e,c⟩,r⟩
 |rng lo hi=>obtain⟨t,u,v,e⟩:=x;exact⟨t,u,v,k _ _ (.inl rfl) e⟩
 |frz g u A=>obtain⟨e,q⟩:=x;exact⟨k _ _ (.inl rfl) e,A q⟩
 |tbl ps=>
  have e:h.get? a=some { cls:=.none,data:=.fields ps }:=x;show h'.get? a=some { cls:=.none,data:=.fields ps };exact k a _ (.inl rfl) e
 |met f y=>
  have e:h.get? a=some (PySem.W.methodObj (.ref f) (.ref y)):=x;show h'.get? a=some (PySem.W.methodObj (.ref f) (.ref y));exact k a _ (.inl rfl) e
 |ext B=>obtain⟨p,⟨o,e⟩,st⟩:=x;exact⟨st _ _ p λo q=>k _ _ (.inl rfl) q,⟨o,k _ _ (.inl rfl) e⟩,st⟩
theorem HOk.lt(x:HOk P w H h)(e:H a=some o):a<h.objs.size:=(x a o e).lt
theorem HOk.fresh(x:HOk P w H h)(e:h.objs.size<=a):H a=none:=by
 cases q:H a with
 |none=>rfl
 |some u=>exact absurd (ZU (x.lt q) e) (ZV _)
theorem HOk.kept(x:HOk P w H h)(k:∀b u,h.get? b=some u->h'.get? b=some u):HOk P w H h':=λa o e=>
 (x a o e).stay (λb u _ q=>k b u q) (λ_ q=>q) λ_ _ q=>q
theorem HOk.laid(x:HOk P w H h)(k:∀b u,h.get? b=some u->h'.get? b=some u)(hp:h.objs.size<=a)(new:aN P w (upd H a o) h' a o):HOk P w (upd H a o) h':=λb u e=>by
 have hn:=x.fresh hp;by_cases hb:b=a
 ·subst hb;rw[aw] at e;cases e;exact new
 ·rw[aB hb] at e
  exact(x b u e).stay (λc v _ q=>k c v q) (λc q=>by rw[aB (aT q hn)];exact q) λc xs q=>by rw[aB (aT q hn)];exact q
end
def Rd(H:Hp)(a:Addr)(u:HO):Prop:=H a=some u \/ ∃o,H a=some (.frz o u)
theorem Rd.ok{P:Zw}{w:World}{H:Hp}{h:Heap}{a:Addr}{u:HO}(r:Rd H a u)(x:HOk P w H h):aN P w H h a u:=by
 rcases r with r | ⟨o,r⟩
 ·exact x a u r
 ·obtain⟨_,q⟩:=x a _ r
  exact q
def Mut:Option HO->Prop
 |some (.lst _)=>True
 |some (.dK _)=>True
 |some (.dT _)=>True
 |some (.set _ _)=>True
 |some (.ins _ _ _)=>True
 |some (.ext _)=>True
 |_=>False
section
variable {P:Zw}{w:World}{H:Hp}{h h':Heap}{x e:Addr}{o':HO}
theorem HOk.write(ok:HOk P w H h)(mu:Mut (H x))(d:e=x\/H e=some (.own x))(k:∀b u,b≠e->h.get? b=some u->h'.get? b=some u)(j:∃u,h'.get? e=some u)
  (new:aN P w (upd H x o') h' x o'):HOk P w (upd H x o') h':=λb u q=>by
 have f:∀c y,H c=some (.own y)->c≠x:=λc y r z=>by subst z;rw[r] at mu;exact mu
 have l:∀c xs,H c=some (.tup xs)->c≠x:=λc xs r z=>by subst z;rw[r] at mu;exact mu
 by_cases hb:b=x
 ·subst hb;rw[aw] at q;cases q;exact new
 ·rw[aB hb] at q
  by_cases a:b=e
  ·have g:H b=some (.own x):=by
    rcases d with z | z
    ·exact absurd (a.trans z) hb
    ·rw[a];exact z
   rw[q] at g;cases g;obtain⟨v,hv⟩:=j;exact⟨v,by rw[a];exact hv⟩
  ·refine(ok b u q).stay (λc v hc r=>k c v ?_ r) (λc r=>by rw[aB (f c b r)];exact r) λc xs r=>by rw[aB (l c xs r)];exact r
   rcases hc with rfl | hc
   ·exact a
   ·rintro rfl
    rcases d with z | z
    ·exact f c b hc z
    ·rw[hc] at z;cases z;exact hb rfl
end
structure Un (fs ex:Zh) (H H':Hp) (h h':Heap):Prop where
 keep:∀b o,h.get? b=some o->H b=none->b∉fs->b∉ex->h'.get? b=some o
 slot:∀b o,h.get? b=some o->H b=none->b∈fs->b∉ex->∃sl,h'.get? b=some { o with slots:=sl }
 free:∀b o,h.get? b=some o->H b=none->b∉ex->H' b=none
 there:∀b o,h.get? b=some o->b∉ex->∃o',h'.get? b=some o'
 tups:∀b xs,H b=some (.tup xs)->H' b=some (.tup xs)
 frzs:∀b o u,H b=some (.frz o u)->H' b=some (.frz o u)
 tbls:∀b ps,H b=some (.tbl ps)->∃more,H' b=some (.tbl (ps++more))
section
variable {fs Ig ex Tt:Zh}{H H1 H2:Hp}{h h1 h2 h':Heap}{a x e:Addr}{o:HO}
theorem Un.any(u:Un fs ex H H1 h h1){b:Addr}{c:Obj}(q:h.get? b=some c)(n:H b=none)(hx:b∉ex):∃sl,h1.get? b=some { c with slots:=sl }:=by
 by_cases hb:b∈fs
 ·exact u.slot b c q n hb hx
 ·exact⟨c.slots,u.keep b c q n hb hx⟩
theorem Un.kept(k:∀b u,h.get? b=some u->h'.get? b=some u):Un fs ex H H h h':=
 ⟨λb c q _ _ _=>k b c q,λb c q _ _ _=>⟨c.slots,k b c q⟩,λ_ _ _ n _=>n,λb c q _=>⟨c,k b c q⟩,λ_ _ q=>q,λ_ _ _ q=>q,λ_ ps q=>⟨#[],by rw[q];simp⟩⟩
theorem Un.refl:Un fs ex H H h h:=Un.kept λ_ _ q=>q
theorem Un.laid(k:∀b u,h.get? b=some u->h'.get? b=some u)(hp:h.objs.size<=a)(hn:H a=none):Un fs ex H (upd H a o) h h' where
 keep:=λb u q _ _ _=>k b u q
 slot:=λb u q _ _ _=>⟨u.slots,k b u q⟩
 free:=λb u q n _=>by rw[aB (ZW (ZU (Ye q) hp))];exact n
 there:=λb u q _=>⟨u,k b u q⟩
 tups:=λb xs q=>by rw[aB (aT q hn)];exact q
 frzs:=λb u xs q=>by rw[aB (aT q hn)];exact q
 tbls:=λb ps q=>⟨#[],by rw[aB (aT q hn),q];simp⟩
theorem Un.write(mu:Mut (H x))(d:e=x\/H e=some (.own x))(k:∀b u,b≠e->h.get? b=some u->h'.get? b=some u)(f:∃u,h'.get? e=some u):Un fs ex H (upd H x o) h h':=by
 have hx:∀b,H b=none->b≠x:=λb n z=>by subst z;rw[n] at mu;exact mu
 have hb:∀b,H b=none->b≠e:=λb n z=>by
  subst z;rcases d with r | r
  ·exact hx b n r
  ·rw[n] at r;cases r
 have hm:∀b u,H b=some u->¬Mut (some u)->b≠x:=λb u q nm z=>by subst z;rw[q] at mu;exact nm mu
 refine⟨λb u q n _ _=>k b u (hb b n) q,λb u q n _ _=>⟨u.slots,k b u (hb b n) q⟩,λb u q n _=>by rw[aB (hx b n)];exact n,λb u q _=>?_,
  λb xs q=>by rw[aB (hm b _ q λz=>z)];exact q,λb u xs q=>by rw[aB (hm b _ q λz=>z)];exact q,λb ps q=>⟨#[],by rw[aB (hm b _ q λz=>z),q];simp⟩⟩
 by_cases c:b=e
 ·subst c;exact f
 ·exact⟨u,k b u c q⟩
end
def trk(h:Heap)(H:Hp):List Addr:=(List.range h.objs.size).filter λa=>(H a).isSome
def hidT(h:Heap)(H:Hp):Heap:=PySem.W.hideAll h (trk h H)
theorem yR(h:Heap)(H:Hp):(hidT h H).objs.size=h.objs.size:=PySem.W.hideAll_size _ _
theorem AG{h:Heap}{H:Hp}{b:Addr}{o:Obj}(e:h.get? b=some o)(n:H b=none):(hidT h H).get? b=some o:=
 PySem.W.hideAll_get _ e λhm=>by
  have q:(H b).isSome=true:=(ZX.mp hm).2;rw[n] at q;simp at q
theorem CH{h:Heap}{H:Hp}{b:Addr}{o:Obj}(e:(hidT h H).get? b=some o):h.get? b=some o/\H b=none:=by
 have e':h.get? b=some o:=PySem.W.of_hideAll (trk h H) e;refine⟨e',?_⟩;cases q:H b with
 |none=>rfl
 |some x=>
  have hm:b∈trk h H:=ZX.mpr ⟨ZY.mpr (Ye e'),by simp[q]⟩;have z:(hidT h H).get? b=none:=PySem.W.hideAll_none (trk h H) hm;rw[z] at e;cases e
def CI(g h:Heap)(L:Addr):List (Addr×Obj):=(List.range h.objs.size).filterMap λa=>if a=L\/(g.get? a).isSome=true then none else(h.get? a).map λo=>(a,o)
def rest(g h:Heap)(L d:Addr):List (Addr×Obj):=(CI g h L).filter λp=>decide (p.1≠d)
structure Mod (K:Za) (mg:Ze) (base:Heap):Prop where
 kin:K.In base
 glob:base.Ns mainGlobals mg
 blt:∃mb,base.Ns builtinsNs mb/\∀x:Str,x ≠ "__name__"->mb x=bootBuiltins x
 nolimit:base.NoLimit
structure Cx where
 prog:Program
 w:World
 K:PySem.W.Frag
 mg:Str->Option Value
 base:Heap
 A:Around
 N:List Str
 s₀:Shared
 H₀:Hp
 env:Env
 outer:List Env
 stack:List Env
 ex:List Addr
 fn:Str->Bool
 calm:Bool
 pn:List (Addr×Obj)
 xe:Value->Shared->Prop
def frs(l:List Env):List Addr:=l.filterMap (·.frame)
abbrev Cx.fs(X:Cx):List Addr:=frs X.outer
def Vis(sc:Scope)(x:Str):Prop:=sc.names.lookup x=some .local \/ sc.names.lookup x=some .cell\/sc.names.lookup x=some .free
def Loc(sc:Scope)(x:Str):Prop:=sc.names.lookup x=some .local \/ sc.names.lookup x=some .cell
def Look(env:Env)(h:Heap)(m:Ze)(x:Str)(u:Value):Prop:=
 (env.kindOf x=some .local/\m x=some u)\/((env.kindOf x=some .cell\/env.kindOf x=some .free)/\∃c,env.cells.lookup x=some c/\h.IsCell c (some u))
structure Cx.Ok (X:Cx):Prop where
 mod:Mod X.K X.mg X.base
 kind:X.env.scope.kind=.function
 glob:X.env.globals=mainGlobals
 blt:X.env.builtins=builtinsNs
 above:X.s₀.heap.objs.size<=X.env.locals
 inj:∀x y c,X.env.cells.lookup x=some c->X.env.cells.lookup y=some c->x=y
 has:∀x,(X.env.kindOf x=some .cell\/X.env.kindOf x=some .free)->∃c,X.env.cells.lookup x=some c
 cab:∀x c,X.fn x=true->X.env.cells.lookup x=some c->X.s₀.heap.objs.size<=c
 hd:X.calm=true->X.A.handled=none
 frames:X.A.frames=some X.stack
 stk:X.stack=X.outer\/(X.stack=X.env::X.outer/\X.env.frame=some X.env.locals)
 exf:∀b∈X.ex,b≠X.env.locals/\∀x c,X.env.cells.lookup x=some c->c≠b
 bs:∀b o,X.base.get? b=some o->X.s₀.heap.get? b=some o/\X.H₀ b=none
 bsz:X.base.objs.size<=X.s₀.heap.objs.size
 noex:∀b o,X.base.get? b=some o->b∉X.ex
 exfs:∀b∈X.ex,b∉X.fs
 funs:X.s₀.heap.FunFrames X.base X.outer
 frf:∀b∈X.fs,X.H₀ b=none
structure Inv (X:Cx) (pins:Zc) (σ:List (Option V)) (H:Hp) (s:Shared):Prop where
 ok:X.Ok
 os:s.os=X.s₀.os
 bare:AllBare s.gens
 base:Un X.fs X.ex X.H₀ H X.s₀.heap s.heap
 loc:∃m,s.heap.Ns X.env.locals m/\∀(i:Nat) (x:Str) (v:V),X.N[i]?=some x->σ[i]?=some (some v)->Vis X.env.scope x->∃u,RelV v u/\Look X.env s.heap m x u
 cell:∀x c,X.env.cells.lookup x=some c->∃v,s.heap.IsCell c v
 free:H X.env.locals=none
 freeC:∀x c,X.env.cells.lookup x=some c->H c=none
 pin:∀p∈X.pn++pins,s.heap.get? p.1=some p.2/\H p.1=none/\p.1≠X.env.locals/\p.1∉X.fs/\∀v,p.2.data≠.cell v
 hok:HOk X.prog X.w H s.heap
 len:σ.length=X.N.length
section
variable {X:Cx}{pins:Zc}{σ:List (Option V)}{H H':Hp}{s:Shared}{h':Heap}
theorem Cx.Ok.nofr(ok:X.Ok){b:Addr}{o:Obj}(e:X.base.get? b=some o):b∉X.fs:=λhb=>by
 have:=(ok.funs.mem hb).1
 rw[e] at this;cases this
theorem Inv.bs(I:Inv X pins σ H s):∀b o,X.base.get? b=some o->s.heap.get? b=some o/\H b=none:=λb o e=>
 ⟨I.base.keep b o (I.ok.bs b o e).1 (I.ok.bs b o e).2 (I.ok.nofr e) (I.ok.noex b o e),I.base.free b o (I.ok.bs b o e).1 (I.ok.bs b o e).2 (I.ok.noex b o e)⟩
theorem Inv.bk(I:Inv X pins σ H s):∀b o,X.base.get? b=some o->s.heap.get? b=some o:=λb o e=>(I.bs b o e).1
theorem Inv.mod(I:Inv X pins σ H s):Mod X.K X.mg X.base:=I.ok.mod
theorem Inv.kIn(I:Inv X pins σ H s):X.K.In s.heap:=I.ok.mod.kin.keeps I.bk
theorem Inv.lt(I:Inv X pins σ H s):X.env.locals<s.heap.objs.size:=let⟨_,hn,_⟩:=I.loc;hn.lt
theorem Inv.sz(I:Inv X pins σ H s):X.s₀.heap.objs.size<=s.heap.objs.size:=ZZ I.ok.above (Nat.le_of_lt I.lt)
theorem Inv.nofs(I:Inv X pins σ H s){a:Addr}(h:s.heap.objs.size<=a):a∉X.fs:=λhb=>by
 obtain⟨_,o,ho,_⟩:=I.ok.funs.mem hb;exact absurd (ZU (Ye ho) (ZZ I.sz h)) (ZV _)
theorem Inv.cne(I:Inv X pins σ H s):∀x c,X.env.cells.lookup x=some c->c≠X.env.locals:=λx c e z=>by
 obtain⟨v,o,ho,hd⟩:=I.cell x c e;obtain⟨m,⟨o',es,d,a,b,_⟩,_⟩:=I.loc;rw[z,a] at ho;cases ho;rw[b] at hd;cases hd
theorem Inv.funs(I:Inv X pins σ H s):s.heap.FunFrames X.base X.outer:=by
 have all:∀(l:List Env),(∀b∈frs l,b∈X.fs)->X.s₀.heap.FunFrames X.base l->s.heap.FunFrames X.base l:=by
  intro l;induction l with
  |nil=>intro _ _;trivial
  |cons env r d=>
   intro c hl;obtain⟨hk,⟨L,o,hf,hn,ho,hd⟩,f⟩:=hl;have a:L∈X.fs:=c L (by unfold frs;rw[List.filterMap_cons,hf];exact YA);obtain⟨sl,e⟩:=I.base.slot L o ho (I.ok.frf L a) a λz=>I.ok.exfs L z a
   exact⟨hk,⟨L,_,hf,hn,e,hd⟩,d (λb hb=>c b (by unfold frs;rw[List.filterMap_cons,hf];exact YB _ hb)) f⟩
 exact all X.outer (λ_ hb=>hb) I.ok.funs
theorem Inv.stack(I:Inv X pins σ H s):s.heap.FunFrames X.base X.stack:=by
 rcases I.ok.stk with e | ⟨e,hf⟩
 ·rw[e];exact I.funs
 ·rw[e]
  obtain⟨m,hn,_⟩:=I.loc;refine .cons (by rw[I.ok.kind];decide) hf hn ?_ I.funs;exact Heap.get?_none_of_le (ZZ I.ok.bsz I.ok.above)
theorem Inv.stkSub(I:Inv X pins σ H s):∀b∈frs X.stack,b∈X.env.locals::X.fs:=λb hb=>by
 rcases I.ok.stk with e | ⟨e,hf⟩
 ·rw[e] at hb;exact YB _ hb
 ·rw[e] at hb
  unfold frs at hb;rw[List.filterMap_cons,hf] at hb;exact hb
theorem Inv.stkFree(I:Inv X pins σ H s):∀b∈frs X.stack,H b=none:=λb hb=>by
 rcases YC.mp (I.stkSub b hb) with e | hb
 ·rw[e];exact I.free
 ·obtain⟨_,o,ho,_⟩:=I.ok.funs.mem hb
  exact I.base.free b o ho (I.ok.frf b hb) λz=>I.ok.exfs b z hb
theorem Inv.step{g':Array GenState}{t':Nat}{d':Drawn}{ch:Zh}(I:Inv X pins σ H s)
  (g:∀b∈ch,(b∈X.ex\/X.s₀.heap.objs.size<=b)/\b≠X.env.locals/\(∀x c,X.env.cells.lookup x=some c->c≠b)/\∀p∈X.pn++pins,p.1≠b)
  (keep:∀b o,b≠X.env.locals->b∉X.fs->b∉ch->s.heap.get? b=some o->H b=none->h'.get? b=some o)
  (slot:∀b o,b≠X.env.locals->b∈X.fs->b∉ch->s.heap.get? b=some o->H b=none->∃sl,h'.get? b=some { o with slots:=sl }) (free:∀b o,b∉ch->s.heap.get? b=some o->H b=none->H' b=none)
  (there:∀b o,b∉ch->s.heap.get? b=some o->∃o',h'.get? b=some o')
  (tups:∀b xs,H b=some (.tup xs)->H' b=some (.tup xs)) (frzs:∀b o u,H b=some (.frz o u)->H' b=some (.frz o u)) (tbls:∀b ps,H b=some (.tbl ps)->∃more,H' b=some (.tbl (ps++more)))
  (ns:∀m,s.heap.Ns X.env.locals m->h'.Ns X.env.locals m) (hok:HOk X.prog X.w H' h') (hg:AllBare g'):
  Inv X pins σ H' { s with heap:=h',gens:=g',drawn:=d',toks:=t' }:=by
 have B:∀b o,X.s₀.heap.get? b=some o->b≠X.env.locals:=λb o e=>ZW (ZU (Ye e) I.ok.above)
 have A:∀b o,X.s₀.heap.get? b=some o->b∉X.ex->b∉ch:=λb o e hx hb=>by
  rcases(g b hb).1 with z | z
  ·exact hx z
  ·exact absurd (ZU (Ye e) z) (ZV _)
 have a:∀x c,X.env.cells.lookup x=some c->∀v,s.heap.IsCell c v->h'.IsCell c v:=λx c e v ⟨o,ho,hd⟩=>by
  have j:c∉ch:=λz=>(g c z).2.2.1 x c e rfl
  by_cases hc:c∈X.fs
  ·obtain⟨sl,q⟩:=slot c o (I.cne x c e) hc j ho (I.freeC x c e)
   exact⟨_,q,hd⟩
  ·exact⟨o,keep c o (I.cne x c e) hc j ho (I.freeC x c e),hd⟩
 refine⟨I.ok,I.os,hg,⟨λb o e n hb hx=>?_,λb o e n hb hx=>?_,λb o e n hx=>?_,λb o e hx=>?_,λb xs e=>tups b xs (I.base.tups b xs e),λb o xs e=>frzs b o xs (I.base.frzs b o xs e),λb ps e=>?_⟩,?_,λx c e=>?_,?_,λx c e=>?_,λp hp=>?_,hok,I.len⟩
 ·exact keep b o (B b o e) hb (A b o e hx) (I.base.keep b o e n hb hx) (I.base.free b o e n hx)
 ·obtain⟨sl,f⟩:=I.base.slot b o e n hb hx
  obtain⟨G,y⟩:=slot b _ (B b o e) hb (A b o e hx) f (I.base.free b o e n hx);exact⟨G,y⟩
 ·obtain⟨o',f⟩:=I.base.there b o e hx
  exact free b o' (A b o e hx) f (I.base.free b o e n hx)
 ·obtain⟨o',f⟩:=I.base.there b o e hx
  exact there b o' (A b o e hx) f
 ·obtain⟨J,f⟩:=I.base.tbls b ps e
  obtain⟨K,y⟩:=tbls b _ f;exact⟨J++K,by rw[y,Array.append_assoc]⟩
 ·obtain⟨m,hn,hl⟩:=I.loc
  refine⟨m,ns m hn,λi x v f y L=>?_⟩;obtain⟨u,r,l⟩:=hl i x v f y L;refine⟨u,r,?_⟩;rcases l with l | ⟨k,c,e,z⟩
  ·exact .inl l
  ·exact .inr ⟨k,c,e,a x c e _ z⟩
 ·obtain⟨v,z⟩:=I.cell x c e
  exact⟨v,a x c e v z⟩
 ·obtain⟨m,⟨o,_,_,ho,_⟩,_⟩:=I.loc
  exact free _ o (λz=>(g _ z).2.1 rfl) ho I.free
 ·obtain⟨v,o,ho,hd⟩:=I.cell x c e
  exact free c o (λz=>(g c z).2.2.1 x c e rfl) ho (I.freeC x c e)
 ·obtain⟨e,n,ne,C,d⟩:=I.pin p hp
  have j:p.1∉ch:=λz=>(g p.1 z).2.2.2 p hp rfl
  exact⟨keep p.1 p.2 ne C j e n,free p.1 p.2 j e n,ne,C,d⟩
theorem Inv.un{t':Nat}(I:Inv X pins σ H s)(u:Un X.fs [] H H' s.heap h')(hok:HOk X.prog X.w H' h'):Inv X pins σ H' { s with heap:=h',toks:=t' }:=by
 obtain⟨m,⟨o,es,j,ho,r⟩,_⟩:=id I.loc;obtain⟨sl,c⟩:=u.any ho I.free (by simp);exact I.step (g':=s.gens) (d':=s.drawn) (ch:=[]) (λ_ z=>nomatch z) (λb o _ hb _ e n=>u.keep b o e n hb (by simp)) (λb o _ hb _ e n=>u.slot b o e n hb (by simp)) (λb o _ e n=>u.free b o e n (by simp)) (λb o _ e=>u.there b o e (by simp)) u.tups u.frzs u.tbls (λk hm=>by
  obtain⟨o',d,f,a,g⟩:=hm;rw[ho] at a;cases a;exact⟨_,d,f,c,g⟩) hok I.bare
theorem Inv.call{g':Array GenState}{t':Nat}{d':Drawn}{ch:Zh}(I:Inv X pins σ H s)(u:Un (frs X.stack) ch H H' s.heap h')(hok:HOk X.prog X.w H' h')(hg:AllBare g')
  (d:∀b∈ch,(b∈X.ex\/X.s₀.heap.objs.size<=b)/\b≠X.env.locals/\(∀x c,X.env.cells.lookup x=some c->c≠b)/\∀p∈X.pn++pins,p.1≠b):
  Inv X pins σ H' { s with heap:=h',gens:=g',drawn:=d',toks:=t' }:=by
 obtain⟨m,⟨o,es,l,ho,r⟩,_⟩:=id I.loc;obtain⟨sl,a⟩:=u.any ho I.free λz=>(d _ z).2.1 rfl
 exact I.step (ch:=ch) d (λb o a hb hc e n=>u.keep b o e n (λz=>(YC.mp (I.stkSub b z)).elim a hb) hc) (λb o _ _ hc e n=>u.any e n hc) (λb o hc e n=>u.free b o e n hc) (λb o hc e=>u.there b o e hc) u.tups u.frzs u.tbls (λy hm=>by
  obtain⟨o',g,j,f,k⟩:=hm;rw[ho] at f;cases f;exact⟨_,g,j,a,k⟩) hok hg
theorem Inv.turned{t':Nat}{it:Addr}(I:Inv X pins σ H s)(k:∀b o,b≠it->s.heap.get? b=some o->h'.get? b=some o)(hn:H it=none)(a:it≠X.env.locals)
  (f:it∈X.ex\/X.s₀.heap.objs.size<=it) (h2:∀x c,X.env.cells.lookup x=some c->c≠it) (g:∀p∈X.pn++pins,p.1≠it):Inv X pins σ H { s with heap:=h',toks:=t' }:=by
 have d:∀b u,H b=some u->b≠it:=λb u e z=>by rw[z,hn] at e;cases e
 refine I.step (g':=s.gens) (d':=s.drawn) (ch:=[it]) (λb hb=>?_) (λb o _ _ hc e _=>k b o (λz=>hc (by simp[z])) e) (λb o _ _ hc e _=>⟨o.slots,k b o (λz=>hc (by simp[z])) e⟩) (λ_ _ _ _ n=>n)
  (λb o hc e=>⟨o,k b o (λz=>hc (by simp[z])) e⟩) (λ_ _ e=>e) (λ_ _ _ e=>e) (λb ps e=>⟨#[],by rw[e];simp⟩) (λm hm=>?_) (λb u e=>?_) I.bare
 ·have e:b=it:=by simpa using hb
  subst e;exact⟨f,a,h2,g⟩
 ·obtain⟨o,es,j,ho,r⟩:=hm
  exact⟨o,es,j,k _ o (Ne.symm a) ho,r⟩
 ·refine(I.hok b u e).stay (λc v hc q=>k c v ?_ q) (λ_ q=>q) λ_ _ q=>q
  rcases hc with z | z
  ·rw[z];exact d b u e
  ·exact d c _ z
theorem Inv.tok(I:Inv X pins σ H s)(t:Nat):Inv X pins σ H { s with toks:=t }:=I.un (h':=s.heap) (t':=t) Un.refl I.hok
theorem Inv.kept{t':Nat}(I:Inv X pins σ H s)(k:∀b u,s.heap.get? b=some u->h'.get? b=some u):Inv X pins σ H { s with heap:=h',toks:=t' }:=I.un (Un.kept k) (I.hok.kept k)
theorem Inv.laid{a:Addr}{o:HO}{t':Nat}(I:Inv X pins σ H s)(k:∀b u,s.heap.get? b=some u->h'.get? b=some u)(hp:s.heap.objs.size<=a)(new:aN X.prog X.w (upd H a o) h' a o):
  Inv X pins σ (upd H a o) { s with heap:=h',toks:=t' }:=I.un (Un.laid k hp (I.hok.fresh hp)) (I.hok.laid k hp new)
theorem Inv.write{x e:Addr}{o:HO}{t':Nat}(I:Inv X pins σ H s)(mu:Mut (H x))(a:e=x\/H e=some (.own x))(k:∀b u,b≠e->s.heap.get? b=some u->h'.get? b=some u)(c:∃u,h'.get? e=some u)
  (new:aN X.prog X.w (upd H x o) h' x o):Inv X pins σ (upd H x o) { s with heap:=h',toks:=t' }:=I.un (Un.write mu a k c) (I.hok.write mu a k c new)
theorem Inv.pins_of{a:Zc}(I:Inv X pins σ H s)(h:∀p∈a,s.heap.get? p.1=some p.2/\H p.1=none/\p.1≠X.env.locals/\p.1∉X.fs/\∀v,p.2.data≠.cell v):Inv X a σ H s:=
 ⟨I.ok,I.os,I.bare,I.base,I.loc,I.cell,I.free,I.freeC,λp hp=>(YD.mp hp).elim (λz=>I.pin p (List.mem_append_left _ z)) (h p),I.hok,I.len⟩
theorem uo{N:Zf}(c:N.Nodup){i j:Nat}{x:Str}(a:N[i]?=some x)(b:N[j]?=some x):i=j:=by
 obtain⟨g,d⟩:=YE.mp a;obtain⟨h2,f⟩:=YE.mp b;exact(List.getElem_inj c).mp (d.trans f.symm)
theorem sr{M:Model}{A:Around}{E:Zb}{i:Nat}{x:Str}{v:V}{u:Value}{Q:Zo}(I:Inv X pins σ H s)(T:X.N.Nodup)(hi:X.N[i]?=some x)(hx:Loc X.env.scope x)(r:RelV v u)
  (h:∀J,Inv X pins (σ.set i (some v)) H J->(∃a,Heap.SameBut a s.heap J.heap/\(a=X.env.locals\/X.env.cells.lookup x=some a))->Q () J) (hf:X.fn x=true\/X.env.scope.names.lookup x=some .local:=by first | exact .inl rfl | exact .inr rfl | assumption):wpAny M A (storeName X.env x u) Q E s:=by
 obtain⟨m,hn,hl⟩:=id I.loc;have MU:(X.env.scope.kind==.class||(X.env.scope.kind==.module&&X.env.locals != X.env.globals))=false:=by rw[I.ok.kind];rfl
 have U:i<σ.length:=by rw[I.len];exact(YE.mp hi).1
 have cne:=I.cne;have g:∀{a:Addr}{h':Heap},(∃o,s.heap.get? a=some o/\H a=none)->Heap.SameBut a s.heap h'->HOk X.prog X.w H h':=λ{a h'} ha f b ob e=>by
  obtain⟨_,_,W⟩:=ha;refine(I.hok b ob e).stay (λc G hc q=>(f.2 c ?_).trans q) (λ_ q=>q) λ_ _ q=>q
  rintro rfl;rcases hc with rfl | hc
  ·rw[W] at e;cases e
  ·rw[W] at hc;cases hc
 rcases hx with hk | hk
 ·refine wpAny_storeName_local hk hn (λh' K' f=>?_) MU
  obtain⟨oL,_,_,Q3,_⟩:=id hn;refine h _ ⟨I.ok,I.os,I.bare,⟨λb o e n hb hx=>?_,λb o e n hb hx=>?_,I.base.free,λb o e hx=>?_,I.base.tups,I.base.frzs,I.base.tbls⟩,⟨_,K',λj y K l B L=>?_⟩,λy c e=>?_,I.free,I.freeC,λp hp=>?_,g ⟨oL,Q3,I.free⟩ f,by simpa using I.len⟩ ⟨_,f,.inl rfl⟩
  ·exact(f.2 b (ZW (ZU (Ye e) I.ok.above))).trans (I.base.keep b o e n hb hx)
  ·obtain⟨sl,l⟩:=I.base.slot b o e n hb hx
   exact⟨sl,(f.2 b (ZW (ZU (Ye e) I.ok.above))).trans l⟩
  ·obtain⟨o',l⟩:=I.base.there b o e hx
   exact⟨o',(f.2 b (ZW (ZU (Ye e) I.ok.above))).trans l⟩
  ·by_cases C:j=i
   ·subst C
    rw[hi] at l;cases l;rw[List.getElem?_set_self U] at B;cases B;exact⟨u,r,.inl ⟨hk,by simp⟩⟩
   ·rw[List.getElem?_set_ne (Ne.symm C)] at B
    obtain⟨O,P,q⟩:=hl j y K l B L;refine⟨O,P,?_⟩;rcases q with⟨k,e⟩ | ⟨k,c,e,z⟩
    ·refine .inl ⟨k,?_⟩
     have:y≠x:=λe=>C (uo T l (e▸hi))
     simp[this,e]
    ·exact .inr ⟨k,c,e,z.sameBut f (cne y c e)⟩
  ·obtain⟨G,z⟩:=I.cell y c e
   exact⟨G,z.sameBut f (cne y c e)⟩
  ·obtain⟨e,n,ne,R,d⟩:=I.pin p hp
   exact⟨(f.2 p.1 ne).trans e,n,ne,R,d⟩
 ·have S:X.fn x=true:=by
   rcases hf with z | z
   ·exact z
   ·rw[z] at hk;cases hk
  obtain⟨c,hc⟩:=I.ok.has x (.inl hk);obtain⟨G,z⟩:=I.cell x c hc;refine wpAny_storeName_cell I.ok.kind hk hc z (λh' Y f=>?_);obtain⟨oc,Z,MW⟩:=id z;refine h { s with heap:=h' } ⟨I.ok,I.os,I.bare,⟨λb o e n hb hx=>?_,λb o e n hb hx=>?_,I.base.free,λb o e hx=>?_,I.base.tups,I.base.frzs,I.base.tbls⟩,⟨m,hn.sameBut f (Ne.symm (cne x c hc)),λj y K l B L=>?_⟩,λy c' e=>?_,I.free,I.freeC,λp hp=>?_,g ⟨oc,Z,I.freeC x c hc⟩ f,by simpa using I.len⟩ ⟨c,f,.inr hc⟩
  ·exact(f.2 b (ZW (ZU (Ye e) (I.ok.cab x c S hc)))).trans (I.base.keep b o e n hb hx)
  ·obtain⟨sl,l⟩:=I.base.slot b o e n hb hx
   exact⟨sl,(f.2 b (ZW (ZU (Ye e) (I.ok.cab x c S hc)))).trans l⟩
  ·obtain⟨o',l⟩:=I.base.there b o e hx
   exact⟨o',(f.2 b (ZW (ZU (Ye e) (I.ok.cab x c S hc)))).trans l⟩
  ·by_cases C:j=i
   ·subst C
    rw[hi] at l;cases l;rw[List.getElem?_set_self U] at B;cases B;exact⟨u,r,.inr ⟨.inl hk,c,hc,Y⟩⟩
   ·rw[List.getElem?_set_ne (Ne.symm C)] at B
    obtain⟨O,P,q⟩:=hl j y K l B L;refine⟨O,P,?_⟩;rcases q with q | ⟨k,c',e,z'⟩
    ·exact .inl q
    ·refine .inr ⟨k,c',e,z'.sameBut f ?_⟩
     rintro rfl;exact C (uo T l (I.ok.inj _ _ _ e hc▸hi))
  ·by_cases PH:c'=c
   ·subst PH;exact⟨_,Y⟩
   ·obtain⟨w2,z2⟩:=I.cell y c' e
    exact⟨w2,z2.sameBut f PH⟩
  ·obtain⟨e,n,ne,R,d⟩:=I.pin p hp
   refine⟨(f.2 p.1 ?_).trans e,n,ne,R,d⟩;intro q;rw[q,Z] at e;have q':oc=p.2:=Yi e;exact d G (by rw[←q'];exact MW)
theorem uq{M:Model}{A:Around}{E:Zb}{i:Nat}{x:Str}{v:V}{u:Value}{Q:Zo}(I:Inv X pins σ H s)(b:X.N.Nodup)(hi:X.N[i]?=some x)(hx:Loc X.env.scope x)(r:RelV v u)
  (h:∀a,Inv X pins (σ.set i (some v)) H a->Q () a) (hf:X.fn x=true\/X.env.scope.names.lookup x=some .local:=by first | exact .inl rfl | exact .inr rfl | assumption):wpAny M A (storeName X.env x u) Q E s:=
 sr I b hi hx r (λa c _=>h a c) hf
theorem Inv.call'{a:Shared}{ch:Zh}(I:Inv X pins σ H s)(ho:a.os=s.os)(u:Un (frs X.stack) ch H H' s.heap a.heap)(hok:HOk X.prog X.w H' a.heap)(hg:AllBare a.gens)
  (d:∀b∈ch,(b∈X.ex\/X.s₀.heap.objs.size<=b)/\b≠X.env.locals/\(∀x c,X.env.cells.lookup x=some c->c≠b)/\∀p∈X.pn++pins,p.1≠b):Inv X pins σ H' a:=by
 obtain⟨h',g',d',t',o'⟩:=a;have e:o'=s.os:=ho;subst e;exact I.call (g':=g') (t':=t') (d':=d') u hok hg d
end
abbrev XK:=Value->Option Addr->Hp->Prop
abbrev St:=List (Option V)
abbrev VK:=V->Hp->Prop
abbrev TE:=St->Hp->VK->Prop
abbrev TT:=St->Hp->(Bool->Hp->Prop)->Prop
abbrev TA:=St->Hp->(List V->Hp->Prop)->Prop
structure Ends where
 nx:St->Hp->Prop
 rt:VK
 bk:St->Hp->Prop:=λ_ _=>False
 ct:St->Hp->Prop:=λ_ _=>False
abbrev TS:=Ends->St->Hp->Prop
def EP(X:Cx)(pins:Zc)(σ:St)(Q:VK)(u:Value)(a:Shared):Prop:=∃v H',Inv X pins σ H' a/\RelV v u/\Q v H'
def TP(X:Cx)(pins:Zc)(σ:St)(Q:Bool->Hp->Prop)(b:Bool)(a:Shared):Prop:=∃H',Inv X pins σ H' a/\Q b H'
def AP(X:Cx)(pins:Zc)(σ:St)(Q:List V->Hp->Prop)(us:Zd)(a:Shared):Prop:=∃vs H',Inv X pins σ H' a/\Vals vs us/\Q vs H'
def SP(X:Cx)(pins:Zc)(D:Ends)(f:Flow)(b:Shared):Prop:=
 match f with
 |.next=>∃a H',Inv X pins a H' b/\D.nx a H'
 |.brk=>∃a H',Inv X pins a H' b/\D.bk a H'
 |.cont=>∃a H',Inv X pins a H' b/\D.ct a H'
 |.ret u=>∃v a H',Inv X pins a H' b/\RelV v u/\D.rt v H'
def PE(X:Cx)(e:Expr)(t:TE):Prop:=
 ∀(pins:Zc) (s:Shared) (σ:St) (H:Hp) (Q:VK),Inv X pins σ H s->t σ H Q->wpAny 'c' X.A (eval e X.env) (EP X pins σ Q) X.xe s
def PT(X:Cx)(e:Expr)(t:TT):Prop:=
 ∀(pins:Zc) (s:Shared) (σ:St) (H:Hp) (Q:Bool->Hp->Prop),Inv X pins σ H s->t σ H Q->wpAny 'c' X.A (isTrue e X.env (eval e X.env)) (TP X pins σ Q) X.xe s
def PW(X:Cx)(e:Expr)(t:TT):Prop:=
 ∀(a:Sem Value) (pins:Zc) (s:Shared) (σ:St) (H:Hp) (Q:Bool->Hp->Prop),Inv X pins σ H s->t σ H Q->wpAny 'c' X.A (isTrue e X.env a) (TP X pins σ Q) X.xe s
def PA(X:Cx)(es:Zg)(t:TA):Prop:=
 ∀(pos:Pos) (pins:Zc) (s:Shared) (σ:St) (H:Hp) (Q:List V->Hp->Prop),Inv X pins σ H s->t σ H Q->wpAny 'c' X.A (spliced (backTo pos (starEach es X.env))) (AP X pins σ Q) X.xe s
def PS(X:Cx)(st:Stmt)(t:TS):Prop:=
 ∀(pins:Zc) (s:Shared) (σ:St) (H:Hp) (D:Ends),Inv X pins σ H s->t D σ H->wpAny 'c' X.A (exec st X.env) (SP X pins D) X.xe s
def PSs(X:Cx)(st:Zu)(t:TS):Prop:=
 ∀(pins:Zc) (s:Shared) (σ:St) (H:Hp) (D:Ends),Inv X pins σ H s->t D σ H->wpAny 'c' X.A (execs st X.env) (SP X pins D) X.xe s
theorem thn{b:Type}{t:Sem b}{Q c:b->Shared->Prop}{M:Model}{A:Around}{E:Zb}{s:Shared}(h:wpAny M A t Q E s)(d:∀a s,Q a s->c a s):wpAny M A t c E s:=wpAny_mono h d λ_ _ x=>x
section
variable {X:Cx}
theorem bin{a b:Expr}{g j:TE}(ha:PE X a g)(hb:PE X b j){pins:Zc}{s:Shared}{σ:St}{H:Hp}{R:V->V->Hp->Prop}(I:Inv X pins σ H s)(h:g σ H λx d=>j σ d λy c=>R x y c)
  {k:Type}{Q:k->Shared->Prop}{f:Value->Value->Sem k}
  (hf:∀v u s2 x y c,Inv X pins σ c s2->RelV x v->RelV y u->R x y c->wpAny 'c' X.A (f v u) Q X.xe s2):
  wpAny 'c' X.A (eval a X.env) (λv l=>wpAny 'c' X.A (eval b X.env) (λu m=>wpAny 'c' X.A (f v u) Q X.xe m) X.xe l) X.xe s:=by
 refine thn (ha pins s σ H _ I h) λv s1 n=>?_
 obtain⟨x,d,o,p,r⟩:=n;refine thn (hb pins s1 σ d _ o r) λu s2 z=>?_
 obtain⟨y,c,B,C,G⟩:=z;exact hf v u s2 x y c B p C G
def tVar(i:Nat):TE:=λσ H Q=>∃v,σ[i]?=some (some v)/\Q v H
def tC(v:V):TE:=λ_ H Q=>Q v H
theorem Ex{i:Nat}{x:Str}{pos:Pos}(b:X.N[i]?=some x)(hv:Vis X.env.scope x)(hd:(x==("__debug__" : Str))=false:=by decide)(d:(x==("__classdict__" : Str))=false:=by decide):PE X (.Name x pos) (tVar i):=by
 intro pins s σ H Q I h;obtain⟨v,e,h⟩:=h;obtain⟨m,hn,hl⟩:=I.loc;obtain⟨u,r,l⟩:=hl i x v b e hv;have fin:EP X pins σ Q u s:=⟨v,H,I,r,h⟩;rcases l with⟨hk,hm⟩ | ⟨hk,c,hc,a⟩
 ·exact wpAny_Name (wpAny_loadName_local I.ok.kind hk hn hm fin) hd
 ·rcases hk with hk | hk
  ·exact wpAny_Name (wpAny_loadName_cell I.ok.kind hk hc a fin) hd
  ·exact wpAny_Name (wpAny_loadName_free I.ok.kind hk hc a fin d) hd
theorem Ey{i j pos}:PE X (.Constant (.int i) j pos) (tC (.int i)):=λ_ _ _ H _ I h=>wpAny_Constant_int ⟨.int i,H,I.tok _,⟨_,rfl⟩,h⟩
theorem F9{b j pos}:PE X (.Constant (.bool b) j pos) (tC (.bl b)):=λ_ _ _ H _ I h=>Constant_bool ⟨.bl b,H,I,rfl,h⟩
theorem Ez{j pos}:PE X (.Constant .none j pos) (tC .non):=λ_ _ _ H _ I h=>Constant_none ⟨.non,H,I,rfl,h⟩
theorem EA{x j pos}:PE X (.Constant (.str x) j pos) (tC (.str x)):=λ_ _ _ H _ I h=>Calls.Constant_str ⟨.str x,H,I.tok _,⟨_,rfl⟩,h⟩
def Gl(X:Cx)(x:Str):Prop:=X.env.kindOf x=some .globalImplicit
theorem rH{E:Zb}{pins:Zc}{s:Shared}{σ:St}{H:Hp}{x:Str}{u:Value}{pos:Pos}{Q:Zb}(I:Inv X pins σ H s)(hg:Gl X x)(hm:X.mg x=some u)(h:Q u s)
  (hd:(x==("__debug__" : Str))=false:=by decide):wpAny 'c' X.A (eval (.Name x pos) X.env) Q E s:=
 Calls.Name_function_global I.ok.kind hg (Calls.loadGlobal_global (by rw[I.ok.glob];exact I.mod.glob.keeps I.bk) hm h) hd
theorem bY{E:Zb}{pins:Zc}{s:Shared}{σ:St}{H:Hp}{x:Str}{u:Value}{pos:Pos}{Q:Zb}(I:Inv X pins σ H s)(hg:Gl X x)(hm:X.mg x=none)(hv:bootBuiltins x=some u)(h:Q u s)
  (hn:x ≠ "__name__":=by decide) (hd:(x==("__debug__" : Str))=false:=by decide):wpAny 'c' X.A (eval (.Name x pos) X.env) Q E s:=by
 obtain⟨mb,a,h2⟩:=I.mod.blt;exact Calls.Name_function_global I.ok.kind hg (Calls.loadGlobal_builtin (by rw[I.ok.glob];exact I.mod.glob.keeps I.bk) hm (by rw[I.ok.blt];exact a.keeps I.bk) ((h2 x hn).trans hv) h) hd
theorem CJ{x:Str}{v:V}{u:Value}{pos:Pos}(hg:Gl X x)(hm:X.mg x=some u)(r:RelV v u)(hd:(x==("__debug__" : Str))=false:=by decide):PE X (.Name x pos) (tC v):=
 λ_ _ _ H _ I h=>rH I hg hm ⟨v,H,I,r,h⟩ hd
theorem CK{x:Str}{v:V}{u:Value}{pos:Pos}(hg:Gl X x)(hm:X.mg x=none)(hv:bootBuiltins x=some u)(r:RelV v u)(hn:x ≠ "__name__":=by decide)(hd:(x==("__debug__" : Str))=false:=by decide):PE X (.Name x pos) (tC v):=
 λ_ _ _ H _ I h=>bY I hg hm hv ⟨v,H,I,r,h⟩ hn hd
variable {a b:Expr}{ta tb:TE}{pos:Pos}
variable {tA My:TT}{rest:Zg}
def tAnd(t u:TT):TT:=λσ H Q=>t σ H λc d=>if c=true then u σ d Q else Q false d
def tOr(t u:TT):TT:=λσ H Q=>t σ H λc d=>if c=true then Q true d else u σ d Q
def tNot(t:TT):TT:=λσ H Q=>t σ H λc d=>Q (!c) d
theorem CL(ha:PT X a tA):PW X (.BoolOp .And [a] pos) tA:=by
 intro d pins s σ H Q I h;refine isTrue_and (thn (ha pins s σ H Q I h) λc s1 e=>?_);cases c with
 |true=>exact isTrue_and_nil e
 |false=>exact e
theorem EB(ha:PT X a tA):PW X (.BoolOp .Or [a] pos) tA:=by
 intro d pins s σ H Q I h;refine isTrue_or (thn (ha pins s σ H Q I h) λc s1 e=>?_);cases c with
 |false=>exact isTrue_or_nil e
 |true=>exact e
theorem EC(ha:PT X a tA)(hb:PW X (.BoolOp .And (b::rest) pos) My):PW X (.BoolOp .And (a::b::rest) pos) (tAnd tA My):=by
 intro j pins s σ H Q I h;refine isTrue_and (thn (ha pins s σ H _ I h) λc s1 k=>?_);obtain⟨d,f,g⟩:=k;cases c with
 |true=>exact hb j pins s1 σ d Q f g
 |false=>exact⟨d,f,g⟩
theorem Ga(ha:PT X a tA)(hb:PW X (.BoolOp .Or (b::rest) pos) My):PW X (.BoolOp .Or (a::b::rest) pos) (tOr tA My):=by
 intro j pins s σ H Q I h;refine isTrue_or (thn (ha pins s σ H _ I h) λc s1 k=>?_);obtain⟨d,f,g⟩:=k;cases c with
 |true=>exact⟨d,f,g⟩
 |false=>exact hb j pins s1 σ d Q f g
theorem ED(ha:PT X a tA):PT X (.UnaryOp .Not a pos) (tNot tA):=by
 intro pins s σ H Q I h;exact isTrue_not (ha pins s σ H (λc d=>Q (!c) d) I h)
def Gb(ta tb:TE):TE:=λσ H Q=>ta σ H λx d=>∃c,x=.bl c/\if c=true then tb σ d Q else Q (.bl false) d
def tOrV(ta tb:TE):TE:=λσ H Q=>ta σ H λx d=>∃c,x=.bl c/\if c=true then Q (.bl true) d else tb σ d Q
def Gc(ta:TE):TE:=λσ H Q=>ta σ H λx d=>∃c,x=.bl c/\Q (.bl (!c)) d
theorem EE{op}{t:TE}(h:PE X a t):PE X (.BoolOp op [a] pos) t:=λpins s σ H Q I hw=>BoolOp_one (h pins s σ H Q I hw)
theorem EF(ha:PE X a ta)(hb:PE X (.BoolOp .And (b::rest) pos) tb):PE X (.BoolOp .And (a::b::rest) pos) (Gb ta tb):=by
 intro pins s σ H Q I h;refine BoolOp_and (thn (ha pins s σ H _ I h) λv s1 j=>?_);obtain⟨x,f,g,k,d⟩:=j;obtain⟨c,rfl,d⟩:=d;cases k;refine wpAny_truthy_bool ?_;cases c with
 |true=>exact hb pins s1 σ f Q g d
 |false=>exact⟨.bl false,f,g,rfl,d⟩
theorem Gd(ha:PE X a ta)(hb:PE X (.BoolOp .Or (b::rest) pos) tb):PE X (.BoolOp .Or (a::b::rest) pos) (tOrV ta tb):=by
 intro pins s σ H Q I h;refine BoolOp_or (thn (ha pins s σ H _ I h) λv s1 j=>?_);obtain⟨x,f,g,k,d⟩:=j;obtain⟨c,rfl,d⟩:=d;cases k;refine wpAny_truthy_bool ?_;cases c with
 |false=>exact hb pins s1 σ f Q g d
 |true=>exact⟨.bl true,f,g,rfl,d⟩
theorem EG(ha:PE X a ta):PE X (.UnaryOp .Not a pos) (Gc ta):=by
 intro pins s σ H Q I h;refine UnaryOp_ (thn (ha pins s σ H _ I h) λv s1 f=>?_);obtain⟨x,g,j,k,d⟩:=f;obtain⟨c,rfl,d⟩:=d;cases k;exact not_of (wpAny_truthy_bool ⟨.bl (!c),g,j,rfl,d⟩)
def tIf(t:TT)(ta tb:TE):TE:=λσ H Q=>t σ H λc d=>if c=true then ta σ d Q else tb σ d Q
theorem AH{c:Expr}(hc:PT X c tA)(ha:PE X a ta)(hb:PE X b tb):PE X (.IfExp c a b pos) (tIf tA ta tb):=by
 intro pins s σ H Q I h;refine wpAny_IfExp (thn (hc pins s σ H _ I h) λd s1 k=>?_);obtain⟨f,g,j⟩:=k;cases d with
 |true=>exact ha pins s1 σ f Q g j
 |false=>exact hb pins s1 σ f Q g j
end
def SqL(K:Za)(H:Hp)(a:Addr)(xs:List V):Prop:=
 Rd H a (.lst xs) \/
  ∃(o:Obj) (c_:Zl) (n:Nat),K.lookup a=some o/\o.cls=.type "list"/\o.dict=none/\o.data=.seq c_ n/\c_.size<=sizeLine/\Vals xs c_.toList
def SqT(K:Za)(H:Hp)(a:Addr)(xs:List V):Prop:=
 Rd H a (.tup xs) \/
  ∃(o:Obj) (c_:Zl) (n:Nat),K.lookup a=some o/\o.cls=.type "tuple"/\o.data=.seq c_ n/\c_.size<=sizeLine/\Vals xs c_.toList
def absV:Value->Option V
 |.none=>some .non
 |.bool b=>some (.bl b)
 |.int i _=>some (.int i)
 |.str x _=>some (.str x)
 |.bytes b _=>some (.byt b)
 |.float b _=>some (.flt b)
 |.ref a=>some (.ref a)
 |.type n=>some (.ty n)
 |_=>none
theorem RelV.abs{x:V}{u:Value}(r:RelV x u):absV u=some x:=by
 cases x with
 |non=>cases r;rfl
 |bl _=>cases r;rfl
 |int _=>obtain⟨t,rfl⟩:=r;rfl
 |str _=>obtain⟨t,rfl⟩:=r;rfl
 |byt _=>obtain⟨t,rfl⟩:=r;rfl
 |flt _=>obtain⟨t,rfl⟩:=r;rfl
 |ref _=>cases r;rfl
 |ty _=>cases r;rfl
theorem RelV.inj{x y:V}{u:Value}(r:RelV x u)(q:RelV y u):x=y:=Yi (r.abs.symm.trans q.abs)
theorem Vals.inj{xs ys:List V}{us:Zd}(h:Vals xs us)(h':Vals ys us):xs=ys:=by
 induction h generalizing ys with
 |nil=>cases h';rfl
 |cons r t a=>cases h' with
  |cons b t'=>rw[r.inj b,a t']
section
variable {X:Cx}{pins:Zc}{σ:St}{H:Hp}{s:Shared}{a:Addr}{xs ys:List V}
theorem SqL.of{K:Za}(h:H a=some (.lst xs)):SqL K H a xs:=.inl (.inl h)
theorem SqT.of{K:Za}(h:H a=some (.tup xs)):SqT K H a xs:=.inl (.inl h)
theorem Inv.list(I:Inv X pins σ H s)(h:SqL X.K H a xs):∃c_:List Value,Vals xs c_/\PlainL s.heap a c_.toArray/\xs.length<=sizeLine:=by
 rcases h with h | ⟨o,c_,n,hk,hc,hd,hs,hz,r⟩
 ·obtain⟨z,c_,n,r,e⟩:=h.ok I.hok
  exact⟨c_,r,⟨_,n,e,rfl,rfl,rfl⟩,z⟩
 ·refine⟨c_.toList,r,⟨o,n,I.kIn a o hk,hc,hd,by simpa using hs⟩,?_⟩
  have e:=r.length;simp only[YF] at e;omega
theorem Inv.tuple(I:Inv X pins σ H s)(h:SqT X.K H a xs):∃c_:List Value,Vals xs c_/\IsTup s.heap a c_.toArray/\xs.length<=sizeLine:=by
 rcases h with h | ⟨o,c_,n,hk,hc,hs,hz,r⟩
 ·obtain⟨z,c_,r,p⟩:=h.ok I.hok
  exact⟨c_,r,p,z⟩
 ·refine⟨c_.toList,r,⟨o,I.kIn a o hk,hc,n,by simpa using hs⟩,?_⟩
  have e:=r.length;simp only[YF] at e;omega
theorem Inv.list_inj(I:Inv X pins σ H s)(h:SqL X.K H a xs)(h':SqL X.K H a ys):xs=ys:=by
 obtain⟨c_,r,⟨o,n,e,_,_,d⟩,_⟩:=I.list h;obtain⟨p_,b,⟨o',n',e',_,_,d'⟩,_⟩:=I.list h';rw[e] at e';cases e';rw[d] at d';injection d' with d1 _
 have:c_=p_:=by simpa using congrArg Array.toList d1
 subst this;exact r.inj b
theorem Inv.tuple_inj(I:Inv X pins σ H s)(h:SqT X.K H a xs)(h':SqT X.K H a ys):xs=ys:=by
 obtain⟨c_,r,⟨o,e,_,n,d⟩,_⟩:=I.tuple h;obtain⟨p_,b,⟨o',e',_,n',d'⟩,_⟩:=I.tuple h';rw[e] at e';cases e';rw[d] at d';injection d' with d1 _
 have:c_=p_:=by simpa using congrArg Array.toList d1
 subst this;exact r.inj b
end
abbrev Cx.wish(X:Cx)(E:Zb):Cx:={ X with xe:=E }
abbrev Cx.nox(X:Cx):Cx:=X.wish λ_ _=>False
theorem Cx.Ok.wish{X:Cx}(ok:X.Ok)(E:Zb):(X.wish E).Ok:=
 ⟨ok.mod,ok.kind,ok.glob,ok.blt,ok.above,ok.inj,ok.has,ok.cab,ok.hd,ok.frames,ok.stk,ok.exf,ok.bs,ok.bsz,ok.noex,ok.exfs,ok.funs,ok.frf⟩
theorem Cx.Ok.unwish{X:Cx}{E:Zb}(ok:(X.wish E).Ok):X.Ok:=
 ⟨ok.mod,ok.kind,ok.glob,ok.blt,ok.above,ok.inj,ok.has,ok.cab,ok.hd,ok.frames,ok.stk,ok.exf,ok.bs,ok.bsz,ok.noex,ok.exfs,ok.funs,ok.frf⟩
section
variable {X:Cx}{pins:Zc}{σ:St}{H:Hp}{s:Shared}{E:Zb}
theorem Inv.wish(I:Inv X pins σ H s)(E:Zb):Inv (X.wish E) pins σ H s:=⟨I.ok.wish E,I.os,I.bare,I.base,I.loc,I.cell,I.free,I.freeC,I.pin,I.hok,I.len⟩
theorem Inv.unwish(I:Inv (X.wish E) pins σ H s):Inv X pins σ H s:=⟨I.ok.unwish,I.os,I.bare,I.base,I.loc,I.cell,I.free,I.freeC,I.pin,I.hok,I.len⟩
theorem SP.unwish{D:Ends}{f:Flow}{b:Shared}(h:SP (X.wish E) pins D f b):SP X pins D f b:=by
 cases f with
 |next=>obtain⟨a,H',I,q⟩:=h;exact⟨a,H',I.unwish,q⟩
 |brk=>obtain⟨a,H',I,q⟩:=h;exact⟨a,H',I.unwish,q⟩
 |cont=>obtain⟨a,H',I,q⟩:=h;exact⟨a,H',I.unwish,q⟩
 |ret u=>obtain⟨v,a,H',I,r,q⟩:=h;exact⟨v,a,H',I.unwish,r,q⟩
theorem PSs.nox{st:Zu}{t:TS}(h:PSs X.nox st t):PSs X st t:=λpins s σ H D I hw=>
 wpAny_mono (h pins s σ H D (I.wish _) hw) (λ_ _ q=>q.unwish) λ_ _ z=>Yh z
end
section
variable {X:Cx}{st:Stmt}{rest:Zu}{t u:TS}{e:Expr}{te:TE}{pos:Pos}
def Cg:TS:=λD σ H=>D.nx σ H
def tSeq(t u:TS):TS:=λD σ H=>t { D with nx:=u D } σ H
theorem CM:PSs X [] Cg:=λ_ _ σ H _ I h=>wpAny_execs_nil ⟨σ,H,I,h⟩
theorem AI(a:PS X st t)(h2:PSs X rest u):PSs X (st::rest) (tSeq t u):=by
 intro pins s σ H D I h;refine wpAny_execs_cons (thn (a pins s σ H { D with nx:=u D } I h) λf s1 q=>?_);cases f with
 |next=>
  obtain⟨b,H',c,q⟩:=q;exact h2 pins s1 b H' D c q
 |ret v=>exact q
 |brk=>exact q
 |cont=>exact q
theorem CN:PS X (.Pass pos) Cg:=λ_ _ σ H _ I h=>wpAny_Pass ⟨σ,H,I,h⟩
theorem Inv.quiet{pins:Zc}{σ:St}{H:Hp}{s:Shared}(I:Inv X pins σ H s):interactive X.env=false:=by simp[interactive,I.ok.kind]
def Ge(te:TE):TS:=λD σ H=>te σ H λ_ a=>D.nx σ a
theorem CO(a:PE X e te)(b:swapsWith e none pos.line X.env=pure false:=by rfl):PS X (.Expr e pos) (Ge te):=by
 intro pins s σ H D I h;refine wpAny_Expr_any (thn (a pins s σ H _ I h) λv s1 c=>?_) I.quiet b;obtain⟨x,d,f,j,g⟩:=c;exact⟨σ,d,f,g⟩
def tRet(te:TE):TS:=λD σ H=>te σ H D.rt
theorem EH(a:PE X e te):PS X (.Return (some e) pos) (tRet te):=by
 intro pins s σ H D I h;refine wpAny_Return_some (thn (a pins s σ H _ I h) λv s1 b=>?_);obtain⟨x,c,d,f,g⟩:=b;exact⟨x,σ,c,d,f,g⟩
def tIfS(c:TT)(t u:TS):TS:=λD σ H=>c σ H λb a=>if b=true then t D σ a else u D σ a
theorem Gf{c:Expr}{a b:Zu}{tc:TT}(hc:PT X c tc)(ha:PSs X a t)(hb:PSs X b u):PS X (.If c a b pos) (tIfS tc t u):=by
 intro pins s σ H D I h;refine wpAny_If (thn (hc pins s σ H _ I h) λd s1 k=>?_);obtain⟨f,g,j⟩:=k;cases d with
 |true=>exact ha pins s1 σ f D g j
 |false=>exact hb pins s1 σ f D g j
end
abbrev TG:=V->St->Hp->(St->Hp->Prop)->Prop
abbrev TGs:=List V->St->Hp->(St->Hp->Prop)->Prop
def PG(X:Cx)(a:Expr)(t:TG):Prop:=
 ∀(pins:Zc) (s:Shared) (σ:St) (H:Hp) (v:V) (u:Value) (Q:St->Hp->Prop),Inv X pins σ H s->RelV v u->t v σ H Q ->
  wpAny 'c' X.A (assign a X.env u) (λ_ c=>∃b H',Inv X pins b H' c/\Q b H') X.xe s
def PGs(X:Cx)(ts:Zg)(t:TGs):Prop:=
 ∀(pins:Zc) (s:Shared) (σ:St) (H:Hp) (vs:List V) (us:Zd) (Q:St->Hp->Prop),Inv X pins σ H s->Vals vs us->t vs σ H Q ->
  wpAny 'c' X.A (assignInOrder ((assignEach ts X.env).map (·.2)) us) (λ_ b=>∃a H',Inv X pins a H' b/\Q a H') X.xe s
abbrev TSet:=V->V->V->Hp->(Hp->Prop)->Prop
def PSet(X:Cx)(t:TSet):Prop:=
 ∀(pins:Zc) (s:Shared) (σ:St) (H:Hp) (o i v:V) (a b u:Value) (Q:Hp->Prop),Inv X pins σ H s->RelV o a->RelV i b->RelV v u->t o i v H Q ->
  wpAny 'c' X.A (setItem a b u) (λ_ c=>∃H',Inv X pins σ H' c/\Q H') X.xe s
section
variable {X:Cx}{pos:Pos}
def tT(i:Nat):TG:=λv σ H Q=>Q (σ.set i (some v)) H
theorem wU{i:Nat}{x:Str}(a:X.N.Nodup)(hi:X.N[i]?=some x)(hx:Loc X.env.scope x)(hf:X.fn x=true\/X.env.scope.names.lookup x=some .local:=by first | exact .inl rfl | exact .inr rfl | assumption):PG X (.Name x pos) (tT i):=by
 intro pins s σ H v u Q I r h;exact wpAny_assign_Name (uq I a hi hx r (λc b=>⟨_,H,b,h⟩) hf)
def gNil:TGs:=λvs σ H Q=>vs=[]/\Q σ H
def Ch(t:TG)(u:TGs):TGs:=λvs σ H Q=>∃v r,vs=v::r/\t v σ H λa H'=>u r a H' Q
theorem CP:PGs X [] gNil:=by
 intro pins s σ H vs us Q I r h;obtain⟨e,h⟩:=h;subst e;cases r;exact assignInOrder_nil ⟨σ,H,I,h⟩
theorem AJ{e:Expr}{es:Zg}{t:TG}{u:TGs}(a:PG X e t)(h2:PGs X es u)
  (b:(assignEach (e::es) X.env).map (·.2)=assign e X.env::(assignEach es X.env).map (·.2):=by rfl):PGs X (e::es) (Ch t u):=by
 intro pins s σ H vs us Q I r h;obtain⟨v,m,c,h⟩:=h;subst c;cases r with
 |cons r d=>
  rw[b];refine assignInOrder_cons (thn (a pins s σ H _ _ _ I r h) λ_ s1 f=>?_);obtain⟨g,j,k,l⟩:=f;exact h2 pins s1 g j _ _ Q k d l
def gTup(K:Za)(n:Nat)(t:TGs):TG:=λv σ H Q=>∃a xs,v=.ref a/\SqT K H a xs/\xs.length=n/\t xs σ H Q
theorem EI{es:Zg}{k:Nat}{t:TGs}{n:Nat}(hc:X.calm=true)(h:PGs X es t)
  (hn:(assignEach es X.env).length=n:=by rfl) (d:(assignEach es X.env).findIdx? (·.1)=none:=by rfl):PG X (.Tuple es k pos) (gTup X.K n t):=by
 intro pins s σ H v u Q I r hw;obtain⟨a,xs,f,hq,hl,hw⟩:=hw;subst f;cases r;obtain⟨c_,c,ht,hz⟩:=I.tuple hq;refine assign_Tuple_tuple (I.ok.hd hc) ht (by simp[hn,←hl,c.length]) d λh' hx=>?_
 have g:Inv X pins σ H { s with heap:=h' }:=I.kept (t':=s.toks) λb o e=>hx b o (ZW (Ye e)) e
 exact h pins _ σ H xs _ Q g (by simpa using c) hw
def gSub(a b:TE)(t:TSet):TG:=λv σ H Q=>a σ H λo c=>b σ c λi d=>t o i v d λf=>Q σ f
theorem EJ {o i:Expr} {c d:TE} {t:TSet} (ho:PE X o c) (hi:PE X i d) (f:PSet X t)
    (ha:∀ v,assign (.Subscript o i pos) X.env v = (do
      let a ← holding [v] (eval o X.env)
      let b ← holding [v,a] (eval i X.env)
      standAt pos
      holding [v,a,b] (setItem a b v)
      release [v,a,b] []):=by intro _; rfl):PG X (.Subscript o i pos) (gSub c d t):=by
  intro pins s σ H v u Q I r h
  rw [ha]
  refine Yb (Yj (thn (ho pins s σ H _ I h) λa s1 g=>?_))
  obtain ⟨x,j,k,l,m⟩:=g
  refine Yb (Yj (thn (hi pins s1 σ j _ k m) λb s2 n=>?_))
  obtain ⟨y,p,z,A,B⟩:=n
  refine Yb (Yk (Yb (Yj (thn (f pins s2 σ p x y v a b u _ z l A r B) λ_ L C=>?_))))
  obtain ⟨G,J,K⟩:=C
  exact wpAny_release ⟨σ,G,J,K⟩
def tAsg(te:TE)(g:TG):TS:=λD σ H=>te σ H λx a=>g x σ a D.nx
theorem yS{tg e:Expr}{te:TE}{g:TG}(a:PE X e te)(hg:PG X tg g)(b:swapsWithSole [tg] e pos.line X.env=pure false:=by rfl)(hw:swappedStores [tg] e X.env=pure none:=by rfl)
  (c:(assignEach [tg] X.env).map (·.2)=[assign tg X.env]:=by rfl):PS X (.Assign [tg] e pos) (tAsg te g):=by
 intro pins s σ H D I h;refine wpAny_Assign_stores (thn (a pins s σ H _ I h) λv s1 d=>?_) b hw;obtain⟨x,f,j,k,l⟩:=d;rw[c];exact thn (hg pins s1 σ f x v _ j k l) λ_ s2 q=>q
theorem EK{i:Nat}{x:Str}{e:Expr}{te:TE}{a:Pos}(b:X.N.Nodup)(hi:X.N[i]?=some x)(hx:Loc X.env.scope x)(c:PE X e te)(d:swapsWith e (some (.Name x a)) pos.line X.env=pure false:=by rfl)(hf:X.fn x=true\/X.env.scope.names.lookup x=some .local:=by first | exact .inl rfl | exact .inr rfl | assumption):
  PS X (.Assign [.Name x a] e pos) (tAsg te (tT i)):=by
 intro pins s σ H D I h;refine wpAny_Assign_Name (thn (c pins s σ H _ I h) λv s1 f=>?_) d;obtain⟨y,g,j,k,l⟩:=f;exact uq j b hi hx k (λs2 m=>⟨_,g,m,l⟩) hf
end
section
variable {X:Cx}{pos:Pos}
def EL(c:TT)(g:TS):TS:=λD σ H=>∃W:Nat->St->Hp->Prop,(∃m,W m σ H)/\∀m σ H,W m σ H ->
 c σ H λb a=>if b=true then ∃N:St->Hp->Prop,(∀d H',N d H'->∃f,f<m/\W f d H')/\g { D with nx:=N,ct:=N,bk:=D.nx } σ a else D.nx σ a
theorem AK{c:Expr}{body:Zu}{tc:TT}{u:TS}(hp:PassesOwn 'c' X.A X.env X.xe)(hc:PT X c tc)(hb:PSs X body u):PS X (.While c body [] pos) (EL tc u):=by
 intro pins s σ H D I h;obtain⟨W,⟨J,K⟩,a⟩:=h;refine wpAny_While (codeAny_whileLoop (λn L=>∃y H',Inv X pins y H' L/\W n y H') ?_ J ⟨σ,H,I,K⟩);rintro n s1 ⟨j,z,O,P⟩;refine wpAny_passesOwn hp (thn (hc pins s1 j z _ O (a n j z P)) λb s2 R=>?_);obtain⟨B,C,k⟩:=R;cases b with
 |true=>
  obtain⟨N,G,k⟩:=k;rw[if_pos rfl];refine wpAny_passesOwn hp (thn (hb pins s2 j B _ C k) λf S l=>?_);cases f with
  |next=>
   obtain⟨d,g,m,o⟩:=l;obtain⟨p,hm,r⟩:=G d g o;exact⟨p,hm,d,g,m,r⟩
  |cont=>
   obtain⟨d,g,m,o⟩:=l;obtain⟨p,hm,r⟩:=G d g o;exact⟨p,hm,d,g,m,r⟩
  |brk=>exact l
  |ret v=>exact l
 |false=>
  rw[if_neg YG];exact wpAny_execs_nil ⟨j,B,C,k⟩
end
structure It where
 go:Nat->Hp->Prop
 yld:Nat->Hp->V->Hp->Prop
 stop:Nat->Hp->Prop
def FpOk(X:Cx)(pins:Zc)(H:Hp)(b:Addr):Prop:=
 H b=none/\b≠X.env.locals/\b∉X.fs/\(b∈X.ex\/X.s₀.heap.objs.size<=b)/\(∀x c,X.env.cells.lookup x=some c->c≠b)/\∀p∈X.pn++pins,p.1≠b
theorem Inv.fpOk{X:Cx}{pins:Zc}{σ:St}{H H':Hp}{s:Shared}{b:Addr}(I:Inv X pins σ H s)(hb:s.heap.objs.size<=b)(hn:H' b=none):FpOk X pins H' b:=by
 refine⟨hn,Nat.ne_of_gt (ZU I.lt hb),I.nofs hb,.inr (ZZ I.sz hb),λx c e z=>?_,λp hp z=>?_⟩
 ·obtain⟨v,q⟩:=I.cell x c e
  exact absurd (ZU q.lt (by rw[z];exact hb)) (ZV _)
 ·exact absurd (ZU (Ye (I.pin p hp).1) (by rw[z];exact hb)) (ZV _)
structure Turn (P:Zw) (w:World) (K:Za) (tg:Expr) (J:It) (fp:Zh) (it:Addr) (tn:Nat->Heap->Prop):Prop where
 mem:it∈fp
 obj:∀i h,tn i h->∀b∈fp,∃o,h.get? b=some o/\∀v,o.data≠.cell v
 keep:∀i h h',tn i h->(∀b∈fp,∀o,h.get? b=some o->h'.get? b=some o)->tn i h'
 item:∀(X:Cx),X.prog=P->X.w=w->X.K=K->X.calm=true->∀(i:Nat) (pins:Zc) (s:Shared) (σ:St) (H:Hp) (E:Zb),Inv X pins σ H s->(∀b∈fp,FpOk X pins H b)->tn i s.heap->J.go i H ->
  wpAny (model P w) X.A (pyNext (.ref it)) (λr s1=>∃u,r=some u /\
   wpAny (model P w) X.A (letOwnedTupleGo tg (.ref it) u) (λ_ s2=>∃x H',Inv X pins σ H' s2/\RelV x u/\J.yld i H x H'/\tn (i+1) s2.heap/\∀b∈fp,H' b=none) E s1) E s
 done:∀(X:Cx),X.prog=P->X.w=w->X.K=K->X.calm=true->∀(i:Nat) (pins:Zc) (s:Shared) (σ:St) (H:Hp) (E:Zb),Inv X pins σ H s->(∀b∈fp,FpOk X pins H b)->tn i s.heap->J.stop i H ->
  wpAny (model P w) X.A (pyNext (.ref it)) (λr s1=>r=none/\Inv X pins σ H s1) E s
 self:∀(A:Around) (i:Nat) (s:Shared) (Q:Zb) (E:Zb),tn i s.heap->Q (.ref it) s->wpAny (model P w) A (pyIter (.ref it)) Q E s
abbrev TI:=St->Hp->(It->Hp->Prop)->Prop
def PIE(X:Cx)(pins:Zc)(σ:St)(tg:Expr)(R:It->Hp->Prop)(a:Value)(s2:Shared):Prop:=
 ∃(it:Addr) (fp:Zh) (tn:Nat->Heap->Prop) (J:It) (H':Hp),a=.ref it/\Inv X pins σ H' s2/\Turn X.prog X.w X.K tg J fp it tn/\tn 0 s2.heap/\(∀b∈fp,FpOk X pins H' b)/\R J H'
def PI(X:Cx)(tg a:Expr)(b:TI):Prop:=
 ∀(pins:Zc) (s:Shared) (σ:St) (H:Hp) (R:It->Hp->Prop),Inv X pins σ H s->b σ H R ->
  wpAny 'c' X.A (eval a X.env) (λv s1=>wpAny 'c' X.A (pyIter v) (PIE X pins σ tg R) X.xe s1) X.xe s
theorem nR {M:Model} {A:Around} {E:Zb} {s:Shared} {tg:Expr} {it:Addr} {u:Value} {o:Obj} {n:String} {vs:Zl} {Q:Zo} (ho:s.heap.get? it = some o) (hc:o.cls = .type n) (hd:o.data = .fields vs)
    (hn:["enumerate","zip","dict_itemiterator","dict_reverseitemiterator","odict_iterator","itertools.zip_longest","itertools.pairwise"].contains n = false) (a:Q () s):wpAny M A (letOwnedTupleGo tg (.ref it) u) Q E s:=by
  unfold letOwnedTupleGo
  cases tg <;> first
    | exact Yc a
    | (cases u <;> first
        | exact Yc a
        | (refine Yb (wpAny_load ho ?_)
           rw [hc,hd]
           show wpAny M A (if (["enumerate","zip","dict_itemiterator","dict_reverseitemiterator","odict_iterator","itertools.zip_longest","itertools.pairwise"].contains n && vs[0]? == some (rawInt _)) = true then _ else _) Q E s
           rw [if_neg (by intro h; rw [hn,Bool.false_and] at h; cases h)]
           exact Yc a))
def Itl(K:Za)(a:Addr):It:=
 ⟨λi H=>∃xs x,SqL K H a xs/\xs[i]?=some x,λi H x H'=>H'=H/\∀xs,SqL K H a xs->xs[i]?=some x,λi H=>∃xs,SqL K H a xs/\xs.length<=i⟩
def Itt(K:Za)(a:Addr):It:=
 ⟨λi H=>∃xs x,SqT K H a xs/\xs[i]?=some x,λi H x H'=>H'=H/\∀xs,SqT K H a xs->xs[i]?=some x,λi H=>∃xs,SqT K H a xs/\xs.length<=i⟩
def Itr(lo:Int)(n:Nat):It:=⟨λi _=>i<n,λi H x H'=>H'=H/\x=.int (lo+i),λi _=>n<=i⟩
theorem yT{P:Zw}{w:World}{K:Za}{tg:Expr}(a it:Addr):Turn P w K tg (Itl K a) [it] it (λi h=>h.IsListIter it a i) where
 mem:=by simp
 obj:=λi h st b hb=>by
  have e:b=it:=by simpa using hb
  subst e;obtain⟨o,e,c,d⟩:=st;exact⟨o,e,λv z=>by rw[d] at z;cases z⟩
 keep:=λi h h' st k=>st.at λo e=>k it (by simp) o e
 item:=by
  rw[0];obtain⟨xs,x,hq,hx⟩:=hg;obtain⟨c_,f,p,hz⟩:=I.list hq;obtain⟨u,hu,r⟩:=f.get hx;obtain⟨g,j,y,l,m,n⟩:=hf it (by simp);refine wpAny_pyNext_list_item st p.isList (x:=u) (by simpa using hu) λh' f_ A=>?_
  have B:Inv X pins σ H { s with heap:=h' }:=I.turned (t':=s.toks) (λb o hb e=>(A.2 b hb).trans e) g j l m n;obtain⟨o,e,c,d⟩:=id f_;exact⟨u,rfl,nR (s:={ s with heap:=h' }) e c d 'b' ⟨x,H,B,r,⟨rfl,λys hy=>by rw[I.list_inj hy hq];exact hx⟩,f_,λb hb=>(hf b hb).1⟩⟩
 done:=by
  rw[0];obtain⟨xs,hq,hx⟩:=hg;obtain⟨c_,f,p,hz⟩:=I.list hq;obtain⟨g,j,y,l,m,n⟩:=hf it (by simp);have hl:=f.length;exact wpAny_pyNext_list_end (I.ok.hd hc) st p.isList (by simp;omega) λh' C=>⟨rfl,I.turned (t':=s.toks) (λb o hb e=>C b o hb e) g j l m n⟩
 self:=λ_ _ _ _ _ st h=>wpAny_pyIter_listiter st h
theorem xI{P:Zw}{w:World}{K:Za}{tg:Expr}(a it:Addr):Turn P w K tg (Itt K a) [it] it (λi h=>h.IsTupleIter it a i) where
 mem:=by simp
 obj:=λi h st b hb=>by
  have e:b=it:=by simpa using hb
  subst e;obtain⟨o,e,c,d⟩:=st;exact⟨o,e,λv z=>by rw[d] at z;cases z⟩
 keep:=λi h h' st k=>st.at λo e=>k it (by simp) o e
 item:=by
  rw[0];obtain⟨xs,x,hq,hx⟩:=hg;obtain⟨c_,f,p,hz⟩:=I.tuple hq;obtain⟨u,hu,r⟩:=f.get hx;obtain⟨g,j,y,l,m,n⟩:=hf it (by simp);refine wpAny_pyNext_tuple_item st (show s.heap.IsTuple a c_.toArray from p) (x:=u) (by simpa using hu) λh' f_ A=>?_
  have B:Inv X pins σ H { s with heap:=h' }:=I.turned (t':=s.toks) (λb o hb e=>(A.2 b hb).trans e) g j l m n;obtain⟨o,e,c,d⟩:=id f_;exact⟨u,rfl,nR (s:={ s with heap:=h' }) e c d 'b' ⟨x,H,B,r,⟨rfl,λys hy=>by rw[I.tuple_inj hy hq];exact hx⟩,f_,λb hb=>(hf b hb).1⟩⟩
 done:=by
  rw[0];obtain⟨xs,hq,hx⟩:=hg;obtain⟨c_,f,p,hz⟩:=I.tuple hq;obtain⟨g,j,y,l,m,n⟩:=hf it (by simp);have hl:=f.length;exact wpAny_pyNext_tuple_end (I.ok.hd hc) st (show s.heap.IsTuple a c_.toArray from p) (by simp;omega) λh' C=>⟨rfl,I.turned (t':=s.toks) (λb o hb e=>C b o hb e) g j l m n⟩
 self:=λ_ _ _ _ _ st h=>wpAny_pyIter_tupleiter st h
theorem xJ{P:Zw}{w:World}{K:Za}{tg:Expr}(it:Addr)(lo:Int)(n:Nat):Turn P w K tg (Itr lo n) [it] it (λi h=>IsRangeIter h it (lo+(i:Nat)*1) ((n:Int)-(i:Nat)) 1) where
 mem:=by simp
 obj:=λi h st b hb=>by
  have e:b=it:=by simpa using hb
  subst e;exact⟨_,st,λv z=>by
   have j:Data.fields _=Data.cell v:=z;cases j⟩
 keep:=λi h h' st k=>k it (by simp) _ st
 item:=by
  rw[0];obtain⟨a,c,l,d,f,g⟩:=hf it (by simp);have W:=Walks.range (prog:=X.prog) (w:=X.w) (I.ok.hd hc) it lo 1 n;refine W.item i s _ _ hg st λv h' tk hv f_ kk=>?_
  obtain⟨t,rfl⟩:=hv;have m:Inv X pins σ H { s with heap:=h',toks:=tk }:=I.turned (λb o hb e=>kk b o (by simpa using hb) e) a c d f g;refine⟨_,rfl,nR (s:={ s with heap:=h',toks:=tk }) (n:="range_iterator") f_ rfl rfl 'b' ⟨.int (lo+i),H,m,⟨t,?_⟩,⟨rfl,rfl⟩,f_,λb hb=>(hf b hb).1⟩⟩;rw[Int.mul_one]
 done:=by
  rw[0];obtain⟨a,c,l,d,f,g⟩:=hf it (by simp);exact wpAny_pyNext_range_end (I.ok.hd hc) st (by have:n<=i:=hg;omega) λh' p=>⟨rfl,I.turned (t':=s.toks) (λb o hb e=>p b o hb e) a c d f g⟩
 self:=λ_ _ _ _ _ st h=>wpAny_pyIter_rangeiter st h
section
variable {X:Cx}{tg:Expr}
theorem ur{pins:Zc}{σ:St}{H:Hp}{s:Shared}{R:It->Hp->Prop}{E:Zb}{lo hi:Int}{t u v:Tok}{tk:Nat}(I:Inv X pins σ H s)(c:-(2 ^ 62)<=lo)(h2:lo<2 ^ 62)(d:-(2 ^ 62)<=hi)(f:hi<2 ^ 62)
  (q:R (Itr lo (hi-lo).toNat) H):wpAny 'c' X.A (pyIter (.ref s.heap.objs.size)) (PIE X pins σ tg R) E { s with heap:=s.heap.push { cls:=.type "range",data:=.fields #[.int lo t,.int hi u,.int 1 v] },toks:=tk }:=by
 refine wpAny_pyIter_range (IsRange.new ..) (small_one c h2 d f) ?_;have a:Inv X pins σ H { s with heap:=s.heap.push { cls:=.type "range",data:=.fields #[.int lo t,.int hi u,.int 1 v] },toks:=tk }:=I.kept λb o e=>Yd _ e
 refine⟨(s.heap.push { cls:=.type "range",data:=.fields #[.int lo t,.int hi u,.int 1 v] }).objs.size,[(s.heap.push { cls:=.type "range",data:=.fields #[.int lo t,.int hi u,.int 1 v] }).objs.size],_,_,H,rfl,
  a.kept (t':=tk) λb o e=>Yd _ e,xJ _ lo (hi-lo).toNat,?_,λb hb=>?_,q⟩
 ·have g:lo+((0:Nat):Int)*1=lo:=by simp
  have j:(((hi-lo).toNat:Nat):Int)-((0:Nat):Int)=Builtin.Range.rangeSize lo hi 1:=by rw[rangeSize_one];split<;>omega
  show IsRangeIter _ _ (lo+((0:Nat):Int)*1) ((((hi-lo).toNat:Nat):Int)-((0:Nat):Int)) 1;rw[g,j];exact Yg _ rfl
 ·have e:b=(s.heap.push { cls:=.type "range",data:=.fields #[.int lo t,.int hi u,.int 1 v] }).objs.size:=by simpa using hb
  subst e;exact a.fpOk (YH _) (a.hok.fresh (YH _))
def Gg(a:TA):TI:=λσ H R=>a σ H λvs b=>∃j:Int,vs=[.int j]/\-(2 ^ 62)<=j/\j<2 ^ 62/\R (Itr 0 j.toNat) b
def Gh(a:TA):TI:=λσ H R=>a σ H λvs b=>∃i j:Int,vs=[.int i,.int j]/\(-(2 ^ 62)<=i/\i<2 ^ 62/\-(2 ^ 62)<=j/\j<2 ^ 62)/\R (Itr i (j-i).toNat) b
theorem yU{a:Expr}{c:TA}{p pos:Pos}(hg:Gl X "range")(hm:X.mg "range" = none)(ha:PA X [a] c)(d:starEach [a] X.env=[(false,eval a X.env)]:=by rfl):PI X tg (.Call (.Name "range" p) [a] [] pos) (Gg c):=by
 intro pins s σ H R I h;refine Call_ (bY I hg hm boot_range (PyProof.Rows.callWith_type1 (thn (ha pos pins s σ H _ I h) λus s1 f=>?_) d rfl));obtain⟨vs,n,g,k,b⟩:=f;obtain⟨j,e,b,l,q⟩:=b;subst e;cases k with
 |cons r m=>
  cases m;obtain⟨t,rfl⟩:=r;exact call_range_1 (ur g 'a' 'a' b l (by simpa using q))
theorem yV{a b:Expr}{f:TA}{p pos:Pos}(hg:Gl X "range")(hm:X.mg "range" = none)(ha:PA X [a,b] f)(k:starEach [a,b] X.env=[(false,eval a X.env),(false,eval b X.env)]:=by rfl)(g:starEach [b] X.env=[(false,eval b X.env)]:=by rfl):
  PI X tg (.Call (.Name "range" p) [a,b] [] pos) (Gh f):=by
 intro pins s σ H R I h;refine Call_ (bY I hg hm boot_range (PyProof.Rows.callWith_type1 (thn (ha pos pins s σ H _ I h) λus s1 l=>?_) (by rw[k,g]) (by rw[g];rfl)));obtain⟨vs,A,m,n,c⟩:=l;obtain⟨i,j,e,⟨c,o,u,y⟩,q⟩:=c;subst e;cases n with
 |cons r d=>
  cases d with
  |cons z d=>
   cases d;obtain⟨t,rfl⟩:=r;obtain⟨t',rfl⟩:=z;exact call_range_2 (ur m c o u y q)
def tFor(c:TI)(g:TG)(d:TS):TS:=λD σ H=>c σ H λJ f=>∃W:Nat->Nat->St->Hp->Prop,(∃m,W 0 m σ f)/\∀i m σ H,W i m σ H ->
 (J.stop i H/\D.nx σ H)\/(J.go i H/\∃N:St->Hp->Prop,(∀a H',N a H'->∃b,b<m/\W (i+1) b a H')/\∀x H',J.yld i H x H'->g x σ H' λj k=>d { D with nx:=N,ct:=N,bk:=D.nx } j k)
def ii(fp:Zh)(h:Heap):List (Addr×Obj):=fp.filterMap λb=>(h.get? b).map λo=>(b,o)
theorem jc{fp:Zh}{h:Heap}{b:Addr}{o:Obj}(hb:b∈fp)(e:h.get? b=some o):(b,o)∈ii fp h:=List.mem_filterMap.mpr ⟨b,hb,by rw[e];rfl⟩
theorem ss{fp:Zh}{h:Heap}{p:Addr×Obj}(hp:p∈ii fp h):p.1∈fp/\h.get? p.1=some p.2:=by
 obtain⟨b,hb,e⟩:=List.mem_filterMap.mp hp;cases q:h.get? b with
 |none=>rw[q] at e;cases e
 |some o=>
  rw[q] at e;have e':(b,o)=p:=Yi e;subst e';exact⟨hb,q⟩
theorem Inv.pinned{pins:Zc}{σ:St}{H:Hp}{s:Shared}{fp:Zh}(I:Inv X pins σ H s)(hf:∀b∈fp,FpOk X pins H b)(ho:∀b∈fp,∃o,s.heap.get? b=some o/\∀v,o.data≠.cell v):Inv X (pins++ii fp s.heap) σ H s:=
 I.pins_of λp hp=>(YD.mp hp).elim (λz=>I.pin p (YI _ z)) λz=>by
  obtain⟨hb,e⟩:=ss z;obtain⟨a,c,f,_⟩:=hf p.1 hb;obtain⟨o,e',d⟩:=ho p.1 hb;rw[e] at e';cases e';exact⟨e,a,c,f,d⟩
theorem Inv.unpinned{pins pl:Zc}{σ:St}{H:Hp}{s:Shared}(I:Inv X (pins++pl) σ H s):Inv X pins σ H s:=I.pins_of λp hp=>I.pin p (YI _ (List.mem_append_left _ hp))
theorem EM{a:Expr}{body:Zu}{O:TI}{g:TG}{P:TS}{pos:Pos}(hp:PassesOwn 'c' X.A X.env X.xe)(hc:X.calm=true)(hi:PI X tg a O)(hg:PG X tg g)(hb:PSs X body P)
  (hs:∀x,foldedSetIterable a X.env x=pure x:=by intro _;rfl):PS X (.For tg a body [] pos) (tFor O g P):=by
 intro pins s σ H D I h;refine wpAny_For (thn (hi pins s σ H _ I h) λv s1 h1=>thn h1 λNb s2 h2=>?_) hs;obtain⟨it,fp,tn,J,H2,e,I2,T,Hd,R,W,⟨m0,w0⟩,l⟩:=h2;subst e
 -- what stays true of the iterator's objects through the loop
 have C:∀{H':Hp},(∀b∈fp,H' b=none)->∀b∈fp,FpOk X pins H' b:=λhn b hb=>⟨hn b hb,(R b hb).2⟩
 refine codeAny_forLoop_any (λn S=>∃i p H',Inv X pins p H' S/\tn i S.heap/\(∀b∈fp,H' b=none)/\W i n p H') ?_ m0 ⟨0,σ,H2,I2,Hd,λb hb=>(R b hb).1,w0⟩;rintro n U ⟨i,y,B,V,Y,Z,w3⟩;rcases l i n y B w3 with⟨stop,qn⟩ | ⟨go,N,hN,step⟩
 ·refine wpAny_passesOwn hp (thn (T.done X rfl rfl rfl hc i pins U y B X.xe V (C Z) Y stop) λr s4 Nf=>?_)
  obtain⟨G,I4⟩:=Nf;subst G;exact wpAny_execs_nil ⟨y,B,I4,qn⟩
 ·refine wpAny_passesOwn hp (thn (T.item X rfl rfl rfl hc i pins U y B X.xe V (C Z) Y go) λr s4 Ng=>?_)
  obtain⟨u,G,h4⟩:=Ng;subst G;refine wpAny_passesOwn hp (thn h4 λ_ s5 Nh=>?_);obtain⟨x,H5,I5,r5,y5,K,Ni⟩:=Nh;have Nj:=I5.pinned (C Ni) (T.obj _ _ K);refine wpAny_passesOwn hp (thn (hg _ s5 y H5 x u _ Nj r5 (step x H5 y5)) λ_ s6 Nk=>?_);obtain⟨IF,H6,I6,q6⟩:=Nk;refine wpAny_passesOwn hp (thn (hb _ s6 IF H6 _ I6 q6) λf L k=>?_);have again:∀{c:St}{H7:Hp},Inv X (pins++ii fp s5.heap) c H7 L->N c H7->∃m,m<n/\∃i p H',Inv X pins p H' L/\tn i L.heap/\(∀b∈fp,H' b=none)/\W i m p H':=λ{c H7} j z=>by
   obtain⟨m',hm,w7⟩:=hN c H7 z;refine⟨m',hm,i+1,c,H7,j.unpinned,T.keep _ _ _ K λb hb o e=>(j.pin (b,o) (YI _ (YI _ (jc hb e)))).1,λb hb=>?_,w7⟩;obtain⟨o,e,d⟩:=T.obj _ _ K b hb;exact(j.pin (b,o) (YI _ (YI _ (jc hb e)))).2.1
  cases f with
  |next=>obtain⟨c,H7,j,z⟩:=k;exact again j z
  |cont=>obtain⟨c,H7,j,z⟩:=k;exact again j z
  |brk=>obtain⟨c,H7,j,k⟩:=k;exact⟨c,H7,j.unpinned,k⟩
  |ret v=>obtain⟨x7,c,H7,j,r7,k⟩:=k;exact⟨x7,c,H7,j.unpinned,r7,k⟩
end
abbrev R2:=V->V->Hp->VK->Prop
def OpR(X:Cx)(f:Zk)(r:R2):Prop:=
 ∀(pins:Zc) (s:Shared) (σ:St) (H:Hp) (x y:V) (v u:Value) (Q:VK),Inv X pins σ H s->RelV x v->RelV y u->r x y H Q ->
  wpAny 'c' X.A (f v u) (EP X pins σ Q) X.xe s
def UnR(X:Cx)(f:Value->Sem Value)(r:V->Hp->VK->Prop):Prop:=
 ∀(pins:Zc) (s:Shared) (σ:St) (H:Hp) (x:V) (v:Value) (Q:VK),Inv X pins σ H s->RelV x v->r x H Q ->
  wpAny 'c' X.A (f v) (EP X pins σ Q) X.xe s
def dU(X:Cx)(f:Value)(r:List V->Hp->VK->Prop):Prop:=
 ∀(pins:Zc) (s:Shared) (σ:St) (H:Hp) (xs:List V) (us:Zd) (Q:VK),Inv X pins σ H s->Vals xs us->r xs H Q ->
  wpAny 'c' X.A (call f us) (EP X pins σ Q) X.xe s
def TruR(X:Cx)(r:V->Hp->(Bool->Hp->Prop)->Prop):Prop:=
 ∀(pins:Zc) (s:Shared) (σ:St) (H:Hp) (x:V) (v:Value) (Q:Bool->Hp->Prop),Inv X pins σ H s->RelV x v->r x H Q ->
  wpAny 'c' X.A (truthy v) (TP X pins σ Q) X.xe s
def tOp(r:R2)(a b:TE):TE:=λσ H Q=>a σ H λx c=>b σ c λy d=>r x y d Q
def tUn(r:V->Hp->VK->Prop)(a:TE):TE:=λσ H Q=>a σ H λx b=>r x b Q
def rI(C:Int->Int->Prop)(g:Int->Int->V):R2:=λx y H Q=>∃i j,x=.int i/\y=.int j/\C i j/\Q (g i j) H
def rI0(g:Int->Int->V):R2:=λx y H Q=>∃i j,x=.int i/\y=.int j/\Q (g i j) H
def rU(g:Int->V):V->Hp->VK->Prop:=λx H Q=>∃i,x=.int i/\Q (g i) H
section
variable {X:Cx}{a b c:Expr}{ta tb tc:TE}{pos:Pos}
theorem binT(ha:PE X a ta)(hb:PE X b tb){pins:Zc}{s:Shared}{σ:St}{H:Hp}{R:V->V->Hp->Prop}(I:Inv X pins σ H s)
  (h:ta σ H λx g=>tb σ g λy d=>R x y d){Q:Zb}{f:Zk}
  (hf:∀v u s2 x y d,Inv X pins σ d s2->RelV x v->RelV y u->R x y d->wpAny 'c' X.A (f v u) Q X.xe s2):
  wpAny 'c' X.A (eval a X.env) (λv j=>wpAny 'c' X.A (eval b X.env) (λu k=>wpAny 'c' X.A (f v u) Q X.xe k) X.xe j) X.xe s:=by
 refine thn (ha pins s σ H _ I h) λv s1 l=>?_
 obtain⟨x,g,m,n,o⟩:=l;refine thn (hb pins s1 σ g _ m o) λu s2 p=>?_
 obtain⟨y,d,r,z,B⟩:=p;exact hf v u s2 x y d r n z B
theorem Gi{op:Operator}{r:R2}(ho:OpR X (binaryOp op) r)(ha:PE X a ta)(hb:PE X b tb):PE X (.BinOp a op b pos) (tOp r ta tb):=by
 intro pins s σ H Q I h;exact wpAny_BinOp (binT ha hb I h λv u s2 x y d f g j q=>ho pins s2 σ d x y v u Q f g j q)
theorem Gj{op:UnaryOp}{r:V->Hp->VK->Prop}(ho:UnR X (unaryOp op) r)(ha:PE X a ta):PE X (.UnaryOp op a pos) (tUn r ta):=by
 intro pins s σ H Q I h;refine UnaryOp_ (thn (ha pins s σ H _ I h) λv s1 d=>?_);obtain⟨x,f,g,j,k⟩:=d;exact ho pins s1 σ f x v Q g j k
theorem opI{f:Zk}{C:Int->Int->Prop}{g:Int->Int->Int}
  (rule:∀(i j:Int) (t u:Tok) (s:Shared) (Q:Zb) (E:Zb),C i j->Q (.int (g i j) s.toks) { s with toks:=s.toks+1 }->wpAny 'c' X.A (f (.int i t) (.int j u)) Q E s):
  OpR X f (rI C λi j=>.int (g i j)):=by
 intro pins s σ H x y v u Q I d k h;obtain⟨i,j,rfl,rfl,hc,q⟩:=h;obtain⟨t,rfl⟩:=d;obtain⟨t',rfl⟩:=k;exact rule i j t t' s _ _ hc ⟨.int (g i j),H,I.tok _,⟨_,rfl⟩,q⟩
theorem opI0{f:Zk}{g:Int->Int->Int}
  (rule:∀(i j:Int) (t u:Tok) (s:Shared) (Q:Zb) (E:Zb),Q (.int (g i j) s.toks) { s with toks:=s.toks+1 }->wpAny 'c' X.A (f (.int i t) (.int j u)) Q E s):
  OpR X f (rI0 λi j=>.int (g i j)):=by
 intro pins s σ H x y v u Q I d k h;obtain⟨i,j,rfl,rfl,q⟩:=h;obtain⟨t,rfl⟩:=d;obtain⟨t',rfl⟩:=k;exact rule i j t t' s _ _ ⟨.int (g i j),H,I.tok _,⟨_,rfl⟩,q⟩
theorem opB0{f:Zk}{g:Int->Int->Bool}
  (rule:∀(i j:Int) (t u:Tok) (s:Shared) (Q:Zb) (E:Zb),Q (.bool (g i j)) s->wpAny 'c' X.A (f (.int i t) (.int j u)) Q E s):
  OpR X f (rI0 λi j=>.bl (g i j)):=by
 intro pins s σ H x y v u Q I d k h;obtain⟨i,j,rfl,rfl,q⟩:=h;obtain⟨t,rfl⟩:=d;obtain⟨t',rfl⟩:=k;exact rule i j t t' s _ _ ⟨.bl (g i j),H,I,rfl,q⟩
def CDiv(i j:Int):Prop:=0<j/\j<1073741824
def CPow(i j:Int):Prop:=0<=j/\j<=1000000/\i.natAbs<2 ^ 64
def CMul(i j:Int):Prop:=(-(2 ^ 64)<i/\i<2 ^ 64)\/(-(2 ^ 64)<j/\j<2 ^ 64)
theorem CMul.ok{i j:Int}(h:CMul i j):IntMulOk i j:=by
 rcases h with⟨d,h2⟩ | ⟨d,h2⟩
 ·exact .of_left (intBits_le_64 d h2)
 ·exact .of_right (intBits_le_64 d h2)
theorem xK(k:Nat):(0:Int)<=2 ^ k:=by
 rw[two_pow_cast];exact Int.natCast_nonneg _
theorem EN:OpR X (binaryOp .Add) (rI0 λi j=>.int (i+j)):=opI0 λ_ _ _ _ _ _ _ q=>add_int q
theorem EO:OpR X (binaryOp .Sub) (rI0 λi j=>.int (i-j)):=opI0 λ_ _ _ _ _ _ _ q=>sub_int q
theorem EQ:OpR X (binaryOp .Mult) (rI CMul λi j=>.int (i*j)):=opI λ_ _ _ _ _ _ _ hc q=>mul_int q hc.ok
theorem CQ:OpR X (binaryOp .FloorDiv) (rI CDiv λi j=>.int (i / j)):=opI λi j _ _ _ _ _ hc q=>by
 have d:(0:Int)<j:=hc.1;have h2:j<1073741824:=hc.2;exact floordiv_int 'a' (by rw[Int.fdiv_eq_ediv_of_nonneg i 'a'];exact q) (.inl (PyProof.noPylong_small 'a'))
theorem ER:OpR X (binaryOp .Mod) (rI (λ_ j=>0<j) λi j=>.int (i%j)):=opI λi j _ _ _ _ _ hc q=>by
 have d:(0:Int)<j:=hc;exact mod_int' 'a' (by rw[Int.fmod_eq_emod_of_nonneg i 'a'];exact q)
theorem ES:OpR X (binaryOp .Pow) (rI CPow λi j=>.int (i ^ j.toNat)):=opI λ_ _ _ _ _ _ _ hc q=>pow_int_small hc.1 hc.2.1 hc.2.2 q
theorem ET:OpR X (binaryOp .LShift) (rI CPow λi j=>.int (i*2 ^ j.toNat)):=opI λ_ _ _ _ _ _ _ hc q=>lshift_int_small hc.1 hc.2.1 hc.2.2 q
theorem EU:OpR X (binaryOp .RShift) (rI (λ_ j=>0<=j) λi j=>.int (i / 2 ^ j.toNat)):=opI λi j _ _ _ _ _ hc q=>
 rshift_int hc (by rw[Int.fdiv_eq_ediv_of_nonneg i (xK _)];exact q)
theorem EV:OpR X (binaryOp .BitAnd) (rI0 λi j=>.int (Builtin.bitAnd i j)):=opI0 λ_ _ _ _ _ _ _ q=>and_int q
theorem Gk:OpR X (binaryOp .BitOr) (rI0 λi j=>.int (Builtin.bitOr i j)):=opI0 λ_ _ _ _ _ _ _ q=>or_int q
theorem EW:OpR X (binaryOp .BitXor) (rI0 λi j=>.int (Builtin.bitXor i j)):=opI0 λ_ _ _ _ _ _ _ q=>xor_int q
theorem unI{f:Value->Sem Value}{g:Int->Int}
  (rule:∀(i:Int) (t:Tok) (s:Shared) (Q:Zb) (E:Zb),Q (.int (g i) s.toks) { s with toks:=s.toks+1 }->wpAny 'c' X.A (f (.int i t)) Q E s):
  UnR X f (rU λi=>.int (g i)):=by
 intro pins s σ H x v Q I d h;obtain⟨i,rfl,q⟩:=h;obtain⟨t,rfl⟩:=d;exact rule i t s _ _ ⟨.int (g i),H,I.tok _,⟨_,rfl⟩,q⟩
theorem EX:UnR X (unaryOp .Invert) (rU λi=>.int (Builtin.bitNot i)):=unI λ_ _ _ _ _ q=>invert_int q
end
section
variable {X:Cx}{a b c:Expr}{ta tb tc:TE}{pos:Pos}
theorem yW{pins:Zc}{σ:St}{H:Hp}{s:Shared}{Q:VK}{k k':Bool}(I:Inv X pins σ H s)(q:Q (.bl k) H)(e:k=k'):EP X pins σ Q (.bool k') s:=by
 subst e;exact⟨.bl k,H,I,rfl,q⟩
theorem Gm:OpR X (compareOp .Lt) (rI0 λi j=>.bl (decide (i<j))):=opB0 λ_ _ _ _ _ _ _ q=>lt_int q
theorem Gn:OpR X (compareOp .LtE) (rI0 λi j=>.bl (decide (i<=j))):=opB0 λ_ _ _ _ _ _ _ q=>le_int q
theorem Go:OpR X (compareOp .Gt) (rI0 λi j=>.bl (decide (j<i))):=opB0 λ_ _ _ _ _ _ _ q=>gt_int q
theorem Gp:OpR X (compareOp .GtE) (rI0 λi j=>.bl (decide (j<=i))):=opB0 λ_ _ _ _ _ _ _ q=>ge_int q
theorem EY:OpR X (compareOp .Is) (λx y H Q=>y=.non/\Q (.bl (decide (x=.non))) H):=by
 intro pins s σ H x y v u Q I d f h;obtain⟨rfl,q⟩:=h;cases f;refine is_none_gen (yW I q ?_);cases x<;>first
  |(cases d;rfl)
  |(obtain⟨t,rfl⟩:=d;rfl)
theorem CS:OpR X (compareOp .IsNot) (λx y H Q=>y=.non/\Q (.bl (!decide (x=.non))) H):=by
 intro pins s σ H x y v u Q I d f h;obtain⟨rfl,q⟩:=h;cases f;refine isnot_none_gen (yW I q ?_);cases x<;>first
  |(cases d;rfl)
  |(obtain⟨t,rfl⟩:=d;rfl)
theorem CU{op:CmpOp}{r:R2}(ho:OpR X (compareOp op) r)(ha:PE X a ta)(hb:PE X b tb)(hm:behindInMarks op b=false):PE X (.Compare a [op] [b] pos) (tOp r ta tb):=by
 intro pins s σ H Q I h;exact wpAny_Compare1 (binT ha hb I h λv u s2 x y d f g j q=>ho pins s2 σ d x y v u Q f g j q) hm
def Gq(t:TE):TT:=λσ H Q=>t σ H λx H'=>∃k,x=.bl k/\Q k H'
theorem CV{op:CmpOp}{r:R2}(ho:OpR X (compareOp op) r)(ha:PE X a ta)(hb:PE X b tb)(hm:behindInMarks op b=false):PT X (.Compare a [op] [b] pos) (Gq (tOp r ta tb)):=by
 intro pins s σ H Q I h;refine wpAny_isTrue_Compare1 (thn (ha pins s σ H _ I h) λv s1 ⟨x,d,f,g,j⟩=>thn (hb pins s1 σ d _ f j) λu s2 ⟨y,l,m,n,o⟩=>
  thn (ho pins s2 σ l x y v u _ m g n o) λc G ⟨z,p,A,B,k,e,C⟩=>?_) hm
 subst e;cases B;exact wpAny_truthy_bool ⟨p,A,C⟩
def TruV(K:Za)(x:V)(H:Hp)(k:Bool):Prop:=
 match x with
 |.non=>k=false
 |.bl b=>k=b
 |.int i=>k=(i != 0)
 |.str y=>y.length<=sizeLine/\k=((y.length:Int) != 0)
 |.byt y=>y.size<=sizeLine/\k=((y.size:Int) != 0)
 |.ref p=>(∃xs,SqL K H p xs/\k = !xs.isEmpty)\/(∃xs,SqT K H p xs/\k = !xs.isEmpty) \/ ∃d,H p=some (.dK d)/\k = !d.isEmpty
 |_=>False
theorem xL{d:Type}{f:List (d×V)}{vs:List (d×Value)}(r:KV f vs):(!vs.isEmpty) = !f.isEmpty:=by
 cases r<;>rfl
theorem pX{xs:List V}{c_:Zd}(r:Vals xs c_):(!c_.toArray.isEmpty) = !xs.isEmpty:=by
 cases r<;>simp
theorem jv:(sizeLine:Nat)<2 ^ 63:=by rw[sizeLine_eq];decide
theorem EZ:TruR X (λx H Q=>∃k,TruV X.K x H k/\Q k H):=by
 intro pins s σ H x v Q I d h;obtain⟨k,e,q⟩:=h;have hl:=jv;have j:sizeLine=16777216:=sizeLine_eq;cases x with
 |non=>
  cases d;have e':k=false:=e;subst e';exact truthy_none ⟨H,I,q⟩
 |bl b=>
  cases d;have e':k=b:=e;subst e';exact wpAny_truthy_bool ⟨H,I,q⟩
 |int i=>
  obtain⟨t,rfl⟩:=d;have e':k=(i != 0):=e;subst e';exact PySem.P.truthy_int ⟨H,I,q⟩
 |str y=>
  obtain⟨t,rfl⟩:=d;obtain⟨hy,e'⟩:y.length<=sizeLine/\k=((y.length:Int) != 0):=e;subst e';exact PySem.P.truthy_str 'a' ⟨H,I.tok _,q⟩
 |byt y=>
  obtain⟨t,rfl⟩:=d;obtain⟨hy,e'⟩:y.size<=sizeLine/\k=((y.size:Int) != 0):=e;subst e';exact PySem.W.truthy_bytes 'a' ⟨H,I.tok _,q⟩
 |ref p=>
  cases d;have e':(∃xs,SqL X.K H p xs/\k = !xs.isEmpty)\/(∃xs,SqT X.K H p xs/\k = !xs.isEmpty) \/ ∃f,H p=some (.dK f)/\k = !f.isEmpty:=e;rcases e' with⟨xs,hx,e'⟩ | ⟨xs,hx,e'⟩ | ⟨f,hx,e'⟩
  ·subst e'
   obtain⟨c_,r,pl,hz⟩:=I.list hx;have g:=r.length;exact wpAny_truthy_list pl.isList (by simp only[YJ];omega) ⟨H,I.tok _,by rw[pX r];exact q⟩
  ·subst e'
   obtain⟨c_,r,pl,hz⟩:=I.tuple hx;have g:=r.length;exact truthy_tuple pl (by simp only[YJ];omega) ⟨H,I.tok _,by rw[pX r];exact q⟩
  ·subst e'
   obtain⟨hz,hS,vs,r,m⟩:f.length<=sizeLine/\(p==sysModules)=false/\∃vs,KV f vs/\s.heap.DictOf (a9 X.prog X.w) p vs:=I.hok p _ hx;have g:f.length=vs.length:=Paired.length r;exact wpAny_truthy_dict hS m 'a' ⟨H,I.tok _,by rw[xL r];exact q⟩
 |_=>exact(show False from e).elim
theorem AL(ha:PE X a ta)(f:∀d,isTrue a X.env d=(do let v ←d;standAt a.pos;holding [v] (truthy v))):
  PT X a (λσ H Q=>ta σ H λx H'=>∃k,TruV X.K x H' k/\Q k H'):=by
 intro pins s σ H Q I h;refine isTrue_plain (thn (ha pins s σ H _ I h) λv s1 g=>?_) (f _);obtain⟨x,j,l,m,n⟩:=g;exact EZ pins s1 σ j x v Q l m n
theorem xM:OpR X (binaryOp .Add) (λx y H Q=>∃i j,x=.str i/\y=.str j/\i.length+j.length<=sizeLine/\Q (.str (i++j)) H):=by
 intro pins s σ H x y v u Q I d f h;obtain⟨i,j,rfl,rfl,hz,q⟩:=h;obtain⟨t,rfl⟩:=d;obtain⟨t',rfl⟩:=f;exact add_str (λt' tk=>⟨.str (i++j),H,I.tok _,⟨_,rfl⟩,q⟩) hz
theorem vals1{x:V}{us:Zd}(r:Vals [x] us):∃u,us=[u]/\RelV x u:=by
 cases r with
 |cons d f=>cases f;exact⟨_,rfl,d⟩
theorem vals2{x y:V}{us:Zd}(r:Vals [x,y] us):∃u d,us=[u,d]/\RelV x u/\RelV y d:=by
 cases r with
 |cons f g=>
  cases g with
  |cons j k=>cases k;exact⟨_,_,rfl,f,j⟩
theorem yX(hc:X.calm=true):dU X (.builtin "min") (λxs H Q=>∃i j,xs=[.int i,.int j]/\Q (.int (if j<i then j else i)) H):=by
 intro pins s σ H xs us Q I r h;obtain⟨i,j,rfl,q⟩:=h;obtain⟨u,f,rfl,⟨t,rfl⟩,⟨t',rfl⟩⟩:=vals2 r;refine min_two_ints (I.ok.hd hc) λh' tk k=>⟨_,H,I.kept k,?_,q⟩
 by_cases d:j<i
 ·rw[if_pos d,if_pos d];exact⟨_,rfl⟩
 ·rw[if_neg d,if_neg d];exact⟨_,rfl⟩
end
structure ObjM (h:Heap) (x dx C:Addr) (mA:Ze):Prop where
 obj:h.get? x=some (PySem.W.instObj C dx)
 ns:h.Ns1 dx mA
 ne:dx≠x
theorem yY{h:Heap}{dx:Addr}{mA:Ze}(n:h.Ns1 dx mA):∃od,h.get? dx=some od/\∀name,PySem.W.lookIn name od=some (mA name):=by
 obtain⟨o,es,c,ho,hd,hk,_,hm⟩:=n;refine⟨o,ho,λname=>?_⟩;have e:=hm name;unfold nsFind findBy at e;rw[←Array.find?_toList] at e;unfold PySem.W.lookIn;rw[hd];dsimp only;split
 ·rename_i y q
  rw[q] at e;exact congrArg some e
 ·rename_i q
  rw[q] at e;have a:es.toList.any (·.refKey)=false:=by
   rw[List.any_eq_false];intro y hy;obtain⟨z,t,b⟩:=hk y (Array.mem_toList_iff.mp hy);simp[DictEntry.refKey,b]
  have a':¬es.toList.any (·.refKey)=true:=by rw[a];exact YG
  rw[if_neg a'];exact congrArg some e
theorem ObjM.look{h:Heap}{x dx C:Addr}{mA:Ze}(I:ObjM h x dx C mA):∃od,PySem.W.InstAt h x (PySem.W.instObj C dx) C (some od)/\∀name,PySem.W.lookIn name od=some (mA name):=
 let⟨od,ho,hl⟩:=yY I.ns;⟨od,⟨I.obj,rfl,rfl,ho⟩,hl⟩
section
variable {prog:Zw}{w:World}{A:Around}{E:Zb}{s:Shared}{K:Za}{x dx C f:Addr}{mA:Ze}{name:Str}{v:Value}
theorem CW{expr:Bool}{Q:Zb}(X:K.In s.heap)(I:ObjM s.heap x dx C mA)(hg:PySem.W.plainGet K C name=true)(a:PySem.W.hasDictIn K C=true)
  (ha:PySem.W.findIn K (.ref C) name=some none) (hv:mA name=some v) (b:PySem.W.handedIn v=true) (h:Q v { s with toks:=s.toks+1 }):
  wpAny 'e' A (getAttr (.ref x) name expr) Q E s:=by
 obtain⟨od,J,hl⟩:=I.look;exact PySem.W.get_value X J (PySem.W.plainGet_of hg).1 (PySem.W.findObj_own a ha rfl (by rw[hl,hv])) b h
theorem AM{pl:Sem Bool}{Q:Value×List Value->Shared->Prop}(X:K.In s.heap)(I:ObjM s.heap x dx C mA)(hg:PySem.W.plainGet K C name=true)
  (hf:PySem.W.findIn K (.ref C) name=some (some (.ref f))) (ht:PySem.W.isFn K (.ref f)=true) (hv:mA name=none) (h:Q (.ref f,[.ref x]) s):
  wpAny 'e' A (getMethod (.ref x) name pl) Q E s:=by
 obtain⟨od,J,hl⟩:=I.look;exact PySem.W.method_fn X J (PySem.W.plainGet_of hg).1 (PySem.W.plainGet_of hg).2 hf (beq_iff_eq.mp ht) (by show(PySem.W.lookIn name od).map (·.isSome)=some false;rw[hl,hv];rfl) h
theorem CY{ns:Zf}{Q:Zo}(X:K.In s.heap)(I:ObjM s.heap x dx C mA)
  (g:PySem.W.findIn K (.ref C) "__setattr__" = some (some (.builtin "object.__setattr__"))) (hp:PySem.W.plainOver K C=true) (ht:PySem.W.takerIn K C name=some none) (j:PySem.W.hasDictIn K C=true)
  (hw:PySem.Within mA ns) (hsz:ns.length<=sizeLine)
  (h:∀h',ObjM h' x dx C (λy=>if y=name then some v else mA y)->Heap.SameBut dx s.heap h'->Q () { s with heap:=h',toks:=s.toks+2 }):
  wpAny 'e' A (setAttr (.ref x) name v) Q E s:=by
 obtain⟨od,J,hl⟩:=I.look;refine PySem.W.set_plain X J g (PySem.W.osa_open (s:={ s with toks:=s.toks+1 }) (r:=none) X J hp ht λb=>?_);obtain⟨o,hc,k⟩:=PySem.W.any_some j;have hx:s.heap.get? x=some ⟨.ref C,some dx,.plain,#[]⟩:=I.obj;refine Yb (Yc (Yb (Yb (wpAny_loadPart hx (Yb (PySem.W.Looks.here (s:={ s with toks:=s.toks+1 }) (PySem.W.looks_clsIn X hc) ?_))))));rw[k];refine Yc (a:=some dx) (Yb (Yc (Yb ?_)));refine wpAny_nsSet1 (s:={ s with toks:=s.toks+1 }) I.ns λh' c d=>?_
 obtain⟨p,u,z,l,m,n⟩:=c.count (PySem.Within.cons name v hw);refine Yb (wpAny_lookBehind l (by rw[m];exact pastItsLine_dict (ZZ n (by rw[YK];omega))) ?_);exact Yc (h _ ⟨(d.2 _ (Ne.symm I.ne)).trans I.obj,c,I.ne⟩ d)
theorem AN{R:Result->Shared->Prop}{vs:Zd}{a:List (Str×Value)}(X:K.In s.heap)(hm:PySem.W.makesIn K C=true)
  (hi:PySem.W.findIn K (.ref C) "__init__" = some (some (.ref f))) (hf:PySem.W.typeIn K (.ref f)=some (.type "function"))
  (h:codeAny 'e' (A.under (.builtin "type.__call__" ⟨.ref C::vs,a⟩)) (.call (.ref f) ⟨.ref (s.heap.objs.size+1)::vs,a⟩) (PySem.W.InitBack (s.heap.objs.size+1) R)
   { s with heap:=(s.heap.push PySem.W.emptyDict).push (PySem.W.instObj C s.heap.objs.size) }):
  codeAny 'e' A (.call (.ref C) ⟨vs,a⟩) R s:=by
 obtain⟨b,g,d,t,os⟩:=s;exact PySem.W.make_core (PySem.W.makes_of X hm) (PySem.W.looks_findIn X hi) (λself=>PySem.W.bind_fn X self hf) (.inl rfl) h
end
def putF(f:Str)(v:V):List (Str×V)->List (Str×V)
 |[]=>[(f,v)]
 |(g,x)::r=>if g=f then(g,v)::r else(g,x)::putF f v r
theorem oM(f g:Str)(v:V):∀fs:List (Str×V),(putF f v fs).lookup g=if g=f then some v else fs.lookup g
 |[]=>by
  show List.lookup g [(f,v)]=_;by_cases h:g=f
  ·have hb:(g==f)=true:=beq_iff_eq.mpr h
   simp only[List.lookup,hb,if_pos h]
  ·have hb:(g==f)=false:=ZT.mpr h
   simp only[List.lookup,hb,if_neg h]
 |(k,x)::r=>by
  have a:=oM f g v r;rw[show putF f v ((k,x)::r)=(if k=f then(k,v)::r else(k,x)::putF f v r) from rfl];by_cases hk:k=f
  ·rw[if_pos hk]
   by_cases h:g=k
   ·have hb:(g==k)=true:=beq_iff_eq.mpr h
    simp only[List.lookup,hb,if_pos (h.trans hk)]
   ·have hb:(g==k)=false:=ZT.mpr h
    simp only[List.lookup,hb,if_neg (λe:g=f=>h (e.trans hk.symm))]
  ·rw[if_neg hk]
   by_cases h:g=k
   ·have hb:(g==k)=true:=beq_iff_eq.mpr h
    simp only[List.lookup,hb,if_neg (λe:g=f=>hk (h.symm.trans e))]
   ·have hb:(g==k)=false:=ZT.mpr h
    simp only[List.lookup,hb];exact a
theorem mZ(f:Str)(v:V):∀fs:List (Str×V),f∈(putF f v fs).map (·.1)/\∀g,g∈fs.map (·.1)->g∈(putF f v fs).map (·.1)
 |[]=>⟨by simp[putF],λg h=>by simp at h⟩
 |(k,x)::r=>by
  obtain⟨a,b⟩:=mZ f v r;rw[show putF f v ((k,x)::r)=(if k=f then(k,v)::r else(k,x)::putF f v r) from rfl];by_cases hk:k=f
  ·rw[if_pos hk]
   subst hk;exact⟨by simp,λg h=>by simpa using h⟩
  ·rw[if_neg hk]
   refine⟨?_,λg h=>?_⟩
   ·rw[YM]
    exact YB _ a
   ·rw[YM] at h ⊢
    rcases YC.mp h with e | e
    ·exact YC.mpr (.inl e)
    ·exact YB _ (b g e)
theorem oN(f:Str)(v:V):∀fs:List (Str×V),(putF f v fs).length<=fs.length+1
 |[]=>by simp[putF]
 |(k,x)::r=>by
  have a:=oN f v r;rw[show putF f v ((k,x)::r)=(if k=f then(k,v)::r else(k,x)::putF f v r) from rfl];by_cases hk:k=f
  ·rw[if_pos hk,YK,YK];omega
  ·rw[if_neg hk,YK,YK];omega
theorem RelO.some_of{v:V}{o:Zx}(r:RelO (some v) o):∃u,o=some u/\RelV v u:=by
 cases o with
 |none=>exact(show False from r).elim
 |some u=>exact⟨u,rfl,r⟩
theorem RelO.none_of{o:Zx}(r:RelO none o):o=none:=by
 cases o with
 |none=>rfl
 |some u=>exact(show False from r).elim
theorem yZ{v:V}{u:Value}(r:RelV v u):PySem.W.handedIn u=true:=by
 cases v with
 |non=>cases(show u=Value.none from r);rfl
 |bl b=>cases(show u=Value.bool b from r);rfl
 |int i=>obtain⟨t,e⟩:=(show ∃t,u=Value.int i t from r);cases e;rfl
 |str x=>obtain⟨t,e⟩:=(show ∃t,u=Value.str x t from r);cases e;rfl
 |byt b=>obtain⟨t,e⟩:=(show ∃t,u=Value.bytes b t from r);cases e;rfl
 |flt b=>obtain⟨t,e⟩:=(show ∃t,u=Value.float b t from r);cases e;rfl
 |ref a=>cases(show u=Value.ref a from r);rfl
 |ty n=>cases(show u=Value.type n from r);rfl
section
variable {P:Zw}{w:World}{H H':Hp}{h h':Heap}{a C dx:Addr}{fs Ig:List (Str×V)}
theorem nS(hok:HOk P w H h)(e:H a=some (.ins C dx fs)):∃mA,ObjM h a dx C mA/\(∀f,RelO (fs.lookup f) (mA f))/\PySem.Within mA (fs.map (·.1))/\fs.length<=1000/\H dx=some (.own a):=by
 obtain⟨d,z,ne,b,mA,n,r,q⟩:=(show aN P w H h a (.ins C dx fs) from hok a _ e);exact⟨mA,⟨b,n,ne⟩,r,q,z,d⟩
end
structure Cls (K:Za) (C:Addr):Prop where
 pg:PySem.W.plainGet K C Str.empty=true
 hd:PySem.W.hasDictIn K C=true
 po:PySem.W.plainOver K C=true
 sa:PySem.W.findIn K (.ref C) "__setattr__" = some (some (.builtin "object.__setattr__"))
theorem Cls.get{K:Za}{C:Addr}(c:Cls K C)(f:Str):PySem.W.plainGet K C f=true:=c.pg
def cg(K:Za)(C:Addr)(f:Str):Prop:=PySem.W.findIn K (.ref C) f=some none
theorem cg.taker{K:Za}{C:Addr}{f:Str}(n:cg K C f):PySem.W.takerIn K C f=some none:=by
 unfold PySem.W.takerIn;rw[show PySem.W.findIn K (.ref C) f=some none from n];rfl
structure Meth (K:Za) (C:Addr) (m:Str) (f:Addr):Prop where
 at_:PySem.W.findIn K (.ref C) m=some (some (.ref f))
 fn:PySem.W.isFn K (.ref f)=true
 kp:PySem.W.keepIn K (.ref f)=true
section
variable {X:Cx}{pins:Zc}{σ:St}{H:Hp}{s:Shared}{a C dx:Addr}{fs:List (Str×V)}{f:Str}{v:V}{A:Around}{E:Zb}
theorem xN{b:Bool}{Q:Zb}(I:Inv X pins σ H s)(e:H a=some (.ins C dx fs))(c:Cls X.K C)(n:cg X.K C f)(l:fs.lookup f=some v)
  (h:∀u d,Inv X pins σ H d->RelV v u->Q u d):wpAny 'c' A (getAttr (.ref a) f b) Q E s:=by
 obtain⟨mA,O,r,_,_,_⟩:=nS I.hok e;obtain⟨u,hu,g⟩:=RelO.some_of (v:=v) (o:=mA f) (by rw[←l];exact r f);exact CW I.kIn O (c.get f) c.hd n hu (yZ g) (h u _ (I.tok _) g)
theorem pY{m:Str}{g:Addr}{pl:Sem Bool}{Q:Value×List Value->Shared->Prop}(I:Inv X pins σ H s)(e:H a=some (.ins C dx fs))(c:Cls X.K C)(k:Meth X.K C m g)(l:fs.lookup m=none)
  (h:Q (.ref g,[.ref a]) s):wpAny 'c' A (getMethod (.ref a) m pl) Q E s:=by
 obtain⟨mA,O,r,_,_,_⟩:=nS I.hok e;have hn:mA m=none:=RelO.none_of (by rw[←l];exact r m);exact AM I.kIn O (c.get m) k.at_ k.fn hn h
theorem xO{y:V}{u:Value}{Q:Zo}(I:Inv X pins σ H s)(e:H a=some (.ins C dx fs))(c:Cls X.K C)(n:cg X.K C f)(hl:fs.length<1000)(l:RelV y u)
  (h:∀j,Inv X pins σ (upd H a (.ins C dx (putF f y fs))) j->Q () j):wpAny 'c' A (setAttr (.ref a) f u) Q E s:=by
 obtain⟨mA,O,r,k,_,ho⟩:=nS I.hok e;have hz:(fs.map (·.1)).length<=sizeLine:=by rw[ZG,sizeLine_eq];omega
 refine CY I.kIn O c.sa c.po n.taker c.hd k hz λh' d m=>h _ ?_
 have hd:∃o,h'.get? dx=some o:=let⟨o,_,_,e',_⟩:=d.ns;⟨o,e'⟩;refine I.write (x:=a) (e:=dx) (by rw[e];exact True.intro) (.inr ho) (λb q hb z=>(m.2 b hb).trans z) hd ?_;refine⟨by rw[aB O.ne];exact ho,?_,O.ne,d.obj,_,d.ns,λg=>?_,λg hg=>?_⟩
 ·have:=oN f y fs;omega
 ·show RelO ((putF f y fs).lookup g) (if g=f then some u else mA g)
  rw[oM];by_cases q:g=f
  ·rw[if_pos q,if_pos q];exact l
  ·rw[if_neg q,if_neg q];exact r g
 ·by_cases q:g=f
  ·rw[q];exact(mZ f y fs).1
  ·refine(mZ f y fs).2 g (k g λz=>hg ?_)
   show(if g=f then some u else mA g)=none;rw[if_neg q];exact z
theorem Inv.made(I:Inv X pins σ H s):Inv X pins σ (upd (upd H s.heap.objs.size (.own (s.heap.objs.size+1))) (s.heap.objs.size+1) (.ins C s.heap.objs.size []))
  { s with heap:=(s.heap.push PySem.W.emptyDict).push (PySem.W.instObj C s.heap.objs.size) }:=by
 have c:(s.heap.push PySem.W.emptyDict).get? s.heap.objs.size=some PySem.W.emptyDict:=Yg s.heap rfl;have d:((s.heap.push PySem.W.emptyDict).push (PySem.W.instObj C s.heap.objs.size)).get? (s.heap.objs.size+1)=some (PySem.W.instObj C s.heap.objs.size):=by
  have:=Yg (s.heap.push PySem.W.emptyDict) (o:=PySem.W.instObj C s.heap.objs.size) rfl
  rwa [Heap.size_push] at this
 have g:(s.heap.push PySem.W.emptyDict).Ns s.heap.objs.size (λ_=>none):=⟨PySem.W.emptyDict,#[],_,c,rfl,(λe j=>absurd j (by simp)),λ_=>rfl⟩;have k:=I.laid (a:=s.heap.objs.size) (o:=.own (s.heap.objs.size+1)) (h':=s.heap.push PySem.W.emptyDict) (t':=s.toks) (λb u q=>Yd _ q) (YH _) ⟨_,c⟩;refine k.laid (a:=s.heap.objs.size+1) (o:=.ins C s.heap.objs.size []) (t':=s.toks) (λb u q=>Yd _ q) (Nat.le_of_eq (Heap.size_push _ _)) ?_;have ne:s.heap.objs.size≠s.heap.objs.size+1:=ZW (YN _);refine⟨by rw[aB ne,aw],YO _,ne,d,λ_=>none,(Heap.Ns1.of_empty g).at λo q=>Yd _ q,λ_=>True.intro,λy hy=>absurd rfl hy⟩
theorem CZ{prog:Zw}{w:World}{env:Env}{e:Expr}{f:Str}{pos:Pos}{s:Shared}{Q:Zb}(hb:attributeBase e f env (eval e env)=eval e env)
  (h:wpAny 'e' A (eval e env) (λo b=>wpAny 'e' A (getAttr o f true) Q E b) E s):wpAny 'e' A (eval (.Attribute e f pos) env) Q E s:=
 Attribute_any_ h (by rw[arm_eval_Attribute,hb])
end
def tFld(K:Za)(c:TE)(f:Str):TE:=λσ H Q=>c σ H λx b=>∃a C dx fs v,x=.ref a/\b a=some (.ins C dx fs)/\Cls K C/\cg K C f/\fs.lookup f=some v/\Q v b
def sFld(K:Za)(c d:TE)(f:Str):TS:=λD σ H=>d σ H λy g=>c σ g λx b=>∃a C dx fs,x=.ref a/\b a=some (.ins C dx fs)/\Cls K C/\cg K C f/\fs.length<1000 /\
 D.nx σ (upd b a (.ins C dx (putF f y fs)))
section
variable {X:Cx}{o e value:Expr}{f:Str}{pos pos' Q7:Pos}{ta tv:TE}
theorem E1(b:PE X e ta)(hb:attributeBase e f X.env (eval e X.env)=eval e X.env):PE X (.Attribute e f pos) (tFld X.K ta f):=by
 intro pins s σ H Q I h;refine CZ hb (thn (b pins s σ H _ I h) λu s1 d=>?_);obtain⟨x,g,j,k,a,C,dx,fs,v,ex,m,c,n,l,q⟩:=d;subst ex;obtain rfl:u=Value.ref a:=k;exact xN j m c n l λy s2 p r=>⟨v,g,p,r,q⟩
theorem E2(ha:PE X o ta)(hv:PE X value tv)(b:swapsWith value (some (.Attribute o f pos')) pos.line X.env=pure false):PS X (.Assign [.Attribute o f pos'] value pos) (sFld X.K ta tv f):=by
 intro pins s σ H D I h;refine plainObj_wpAny_Assign_Attribute (thn (hv pins s σ H _ I h) λu s1 d=>?_) b;obtain⟨y,g,j,k,q⟩:=d;refine thn (ha pins s1 σ g _ j q) λm s2 p=>?_
 obtain⟨x,J,r,z,a,C,dx,fs,ex,A,c,n,l,B⟩:=p;subst ex;obtain rfl:m=Value.ref a:=z;exact xO r A c n l k λL G=>⟨σ,_,G,B⟩
end
section
variable {X:Cx}{pins:Zc}{σ:St}{H:Hp}{s:Shared}{A:Around}{E:Zb}{Q:Zb}{c:Value}{b:Bool}
inductive TyOf (K:Za) (H:Hp):V->Value->Prop where
 |non:TyOf K H .non (.type "NoneType")
 |bl (x:Bool):TyOf K H (.bl x) (.type "bool")
 |int (i:Int):TyOf K H (.int i) (.type "int")
 |str (x:Str):TyOf K H (.str x) (.type "str")
 |flt (x:UInt64):TyOf K H (.flt x) (.type "float")
 |lst {a:Addr}{xs:List V}(e:H a=some (.lst xs)):TyOf K H (.ref a) (.type "list")
 |frz {a:Addr}{o:Obj}{xs:List V}(e:H a=some (.frz o (.lst xs))):TyOf K H (.ref a) (.type "list")
 |tup {a:Addr}{xs:List V}(e:H a=some (.tup xs)):TyOf K H (.ref a) (.type "tuple")
 |dK {a:Addr}{e_:List (Key×V)}(e:H a=some (.dK e_)):TyOf K H (.ref a) (.type "dict")
 |dT {a:Addr}{e_:List (List Key×V)}(e:H a=some (.dT e_)):TyOf K H (.ref a) (.type "dict")
 |ins {a C dx:Addr}{fs:List (Str×V)}(e:H a=some (.ins C dx fs)) (cl:Cls K C) (ha:PySem.W.findIn K (.ref C) "__class__" = some (some (.builtin "object.__class__")))
   (hn:PySem.W.specialIn K (.builtin "object.__class__") "__get__" = some (some (.builtin "getset_descriptor.__get__"))) (PJ:PySem.W.takesIn K (.builtin "object.__class__")=some true)
   (hm:PySem.W.mroIn K C (.type "object")=some true):TyOf K H (.ref a) (.ref C)
theorem fj{x:V}{u t:Value}(I:Inv X pins σ H s)(d:RelV x u)(ty:TyOf X.K H x t)(e:PySem.W.kitOne X.K t c=some b)(h:∀tk,Q (.bool b) { s with toks:=tk }):
  wpAny 'c' A (call (.builtin "isinstance") [u,c]) Q E s:=by
 cases ty with
 |non=>cases(show u=Value.none from d);exact PySem.W.kia_one PySem.W.kitx_none I.kIn True.intro e (λz=>nomatch z) h
 |bl y=>cases(show u=Value.bool y from d);exact PySem.W.kia_one PySem.W.kitx_bool I.kIn True.intro e (λz=>nomatch z) h
 |int i=>obtain⟨t,q⟩:=(show ∃t,u=Value.int i t from d);cases q;exact PySem.W.kia_one PySem.W.kitx_int I.kIn True.intro e (λz=>nomatch z) h
 |str y=>obtain⟨t,q⟩:=(show ∃t,u=Value.str y t from d);cases q;exact PySem.W.kia_one PySem.W.kitx_str I.kIn True.intro e (λz=>nomatch z) h
 |flt y=>obtain⟨t,q⟩:=(show ∃t,u=Value.float y t from d);cases q;exact PySem.W.kia_one PySem.W.kitx_float I.kIn True.intro e (λz=>nomatch z) h
 |@lst a xs f=>
  cases(show u=Value.ref a from d);obtain⟨_,_,n,_,g⟩:=(show aN X.prog X.w H s.heap a (.lst xs) from I.hok a _ f);exact PySem.W.kia_one PySem.W.kitx_list I.kIn ⟨_,g,rfl⟩ e (λz=>nomatch z) h
 |@frz a k xs f=>
  cases(show u=Value.ref a from d);obtain⟨_,_,_,n,_,g⟩:=(show aN X.prog X.w H s.heap a (.frz k (.lst xs)) from I.hok a _ f);exact PySem.W.kia_one PySem.W.kitx_list I.kIn ⟨_,g,rfl⟩ e (λz=>nomatch z) h
 |@tup a xs f=>
  cases(show u=Value.ref a from d);obtain⟨_,_,_,p⟩:=(show aN X.prog X.w H s.heap a (.tup xs) from I.hok a _ f);obtain⟨o,g,h2,_⟩:=p;exact PySem.W.kia_one PySem.W.kitx_tuple I.kIn ⟨o,g,h2⟩ e (λz=>nomatch z) h
 |@dK a j f=>
  cases(show u=Value.ref a from d);obtain⟨_,_,vs,_,p⟩:=(show aN X.prog X.w H s.heap a (.dK j) from I.hok a _ f);obtain⟨o,es,l,g,h2,_⟩:=p;exact PySem.W.kia_one PySem.W.kitx_dict I.kIn ⟨o,g,h2.1⟩ e (λz=>nomatch z) h
 |@dT a j f=>
  cases(show u=Value.ref a from d);obtain⟨_,_,xs,_,o,es,l,g,h2,_⟩:=(show aN X.prog X.w H s.heap a (.dT j) from I.hok a _ f);exact PySem.W.kia_one PySem.W.kitx_dict I.kIn ⟨o,g,h2.1⟩ e (λz=>nomatch z) h
 |@ins a C dx fs f cl ha hn m hm=>
  cases(show u=Value.ref a from d);obtain⟨mA,O,_⟩:=nS I.hok f;obtain⟨od,J,_⟩:=O.look;exact PySem.W.kia_one (PySem.W.kitx_own (cl.get _) cl.hd ha hn m hm) I.kIn J e (λz=>nomatch z) h
end
structure Room (k:Nat) (A:Around):Prop where
 hd:A.handled=none
 dp:A.depth+3*k+5<recursionLimit
 un:A.units+16*k+200<cLine
theorem Room.mono{j k:Nat}{A:Around}(r:Room k A)(h:j<=k):Room j A:=⟨r.hd,by have:=r.dp;omega,by have:=r.un;omega⟩
theorem Room.deeper{k:Nat}{A:Around}(r:Room (k+1) A)(env:Env):Room k (A.deeper env):=
 ⟨r.hd,by have:=r.dp;show A.depth+1+3*k+5<_;omega,by have:=r.un;show A.units+3+16*k+200<_;omega⟩
theorem xP{A:Around}{C:Addr}{us:Zd}{a:List (Str×Value)}:(A.under (.builtin "type.__call__" ⟨.ref C::us,a⟩)).depth=A.depth+1:=by
 first | rfl | simp[Around.under,Code.weight,Code.isCreation,Code.isGuard,Code.isCaller,Code.frames,Code.isFrame,guardIds]
theorem xQ{A:Around}{C:Addr}{us:Zd}{a:List (Str×Value)}:(A.under (.builtin "type.__call__" ⟨.ref C::us,a⟩)).units=A.units+1:=by
 first | rfl | simp[Around.under,Code.cUnits,Code.frames,Code.isFrame]
theorem Room.make{k:Nat}{A:Around}(r:Room (k+1) A)(C:Addr)(us:Zd)(a:List (Str×Value)):Room k (A.under (.builtin "type.__call__" ⟨.ref C::us,a⟩)):=
 ⟨r.hd,by have:=r.dp;rw[xP];omega,by have:=r.un;rw[xQ];omega⟩
theorem Room.depth{k:Nat}{A:Around}(r:Room k A):A.depth<recursionLimit:=by have:=r.dp;omega
theorem Room.units{k:Nat}{A:Around}(r:Room k A):A.units+64<cLine:=by have:=r.un;omega
def tNil:TA:=λ_ H Q=>Q [] H
def Gr(a:TE)(b:TA):TA:=λσ H Q=>a σ H λx c=>b σ c λxs d=>Q (x::xs) d
section
variable {X:Cx}{e:Expr}{es:Zg}{te:TE}{t:TA}{pos:Pos}
theorem E3:PA X [] tNil:=λ_ _ _ _ H Q I h=>Calls.spliced_nil ⟨[],H,I,.nil,h⟩
theorem C0(ha:PE X e te)(a:PA X es t)(b:starEach (e::es) X.env=(false,eval e X.env)::starEach es X.env:=by rfl):PA X (e::es) (Gr te t):=by
 intro pos pins s σ H Q I h;rw[b];show wpAny _ _ (spliced ((false,eval e X.env)::backTo pos (starEach es X.env))) _ _ s;refine Calls.spliced_cons (thn (ha pins s σ H _ I h) λu s1 c=>?_);obtain⟨x,d,f,g,j⟩:=c;refine thn (a pos pins s1 σ d _ f j) λus s2 k=>?_
 obtain⟨xs,l,m,n,o⟩:=k;exact⟨x::xs,l,m,.cons g n,o⟩
def tTup(t:TA):TE:=λσ H Q=>t σ H λxs a=>xs.length<=sizeLine/\∀p,a p=none->Q (.ref p) (upd a p (.tup xs))
def tLst(t:TA):TE:=λσ H Q=>t σ H λxs a=>xs.length<=sizeLine/\∀p,a p=none->Q (.ref p) (upd a p (.lst xs))
theorem E4{x1}(h:PA X es t):PE X (.Tuple es x1 pos) (tTup t):=by
 intro pins s σ H Q I hq;refine wpAny_Tuple_spliced (thn (h pos pins s σ H _ I hq) λus s1 ⟨xs,a,c,r,z,q⟩=>⟨by rw[←r.length];exact z,?_⟩);have hf:a s1.heap.objs.size=none:=c.hok.fresh (YH _);refine⟨.ref s1.heap.objs.size,upd a s1.heap.objs.size (.tup xs),c.laid (t':=s1.toks) (λb u e=>Yd _ e) (YH _) ?_,rfl,q _ hf⟩;exact⟨z,us,r,⟨_,Yg _ rfl,rfl,_,rfl⟩⟩
theorem E5(h:PA X es t):PE X (.List es pos) (tLst t):=by
 intro pins s σ H Q I hq;refine wpAny_List_spliced (thn (h pos pins s σ H _ I hq) λus s1 ⟨xs,a,c,r,z,q⟩=>⟨by rw[←r.length];exact z,?_⟩);have hf:a s1.heap.objs.size=none:=c.hok.fresh (YH _);refine⟨.ref s1.heap.objs.size,upd a s1.heap.objs.size (.lst xs),c.laid (t':=s1.toks) (λb u e=>Yd _ e) (YH _) ?_,rfl,q _ hf⟩;exact⟨z,us,0,r,Yg _ rfl⟩
end
abbrev Sp:=List V->Hp->VK->XK->Prop
abbrev CXT:=List Env->Hp->Shared->XK->Value->Shared->Prop
structure Env0 (P:Zw) (w:World) (K:Za) (mg:Ze) (base:Heap) (A:Around) (outer:List Env) (s:Shared) (H:Hp):Prop where
 frames:A.frames=some outer
 mod:Mod K mg base
 bs:∀b o,base.get? b=some o->s.heap.get? b=some o/\H b=none
 bsz:base.objs.size<=s.heap.objs.size
 funs:s.heap.FunFrames base outer
 frf:∀b∈frs outer,H b=none
 hok:HOk P w H s.heap
 bare:AllBare s.gens
def CE(outer:List Env)(P:Zw)(w:World)(H:Hp)(s:Shared)(Q:VK)(u:Value)(a:Shared):Prop:=
 ∃v H',a.os=s.os/\AllBare a.gens/\Un (frs outer) [] H H' s.heap a.heap/\HOk P w H' a.heap/\RelV v u/\Q v H'
def CR(CX:CXT)(outer:List Env)(P:Zw)(w:World)(H:Hp)(s:Shared)(Q:VK)(E:XK)(r:Result)(a:Shared):Prop:=
 match r with
 |.ok (.ret u)=>CE outer P w H s Q u a
 |.ok _=>False
 |.error e=>CX outer H s E e a
structure FnOk (P:Zw) (w:World) (K:Za) (mg:Ze) (base:Heap) (CX:CXT) (k:Nat) (f:Addr) (fd:Zv) (ps:Zf) (sp:Sp):Prop where
 len:∀vs H Q E,sp vs H Q E->vs.length=ps.length
 run:∀(A:Around) (outer:List Env) (s:Shared) (H:Hp) (args:Args) (us:Zd) (vs:List V) (Q:VK) (E:XK),Room k A->Env0 P w K mg base A outer s H->BindsTo s fd args (ps.zip us)->Vals vs us->sp vs H Q E ->
  codeAny (model P w) A (.call (.ref f) args) (CR CX outer P w H s Q E) s
theorem Env0.make{P:Zw}{w:World}{K:Za}{mg:Ze}{base:Heap}{A:Around}{outer:List Env}{s:Shared}{H:Hp}(e:Env0 P w K mg base A outer s H)(C:Addr)(us:Zd)(a:List (Str×Value)):
  Env0 P w K mg base (A.under (.builtin "type.__call__" ⟨.ref C::us,a⟩)) outer s H:=⟨by first | exact e.frames | (simpa [Around.under,Code.envs,Code.isFrame,pushEnvs] using e.frames),e.mod,e.bs,e.bsz,e.funs,e.frf,e.hok,e.bare⟩
section
variable {X:Cx}{pins:Zc}{σ:St}{H:Hp}{s s':Shared}
theorem Inv.env0(I:Inv X pins σ H s):Env0 X.prog X.w X.K X.mg X.base X.A X.stack s H:=
 ⟨I.ok.frames,I.ok.mod,I.bs,ZZ I.ok.bsz I.sz,I.stack,I.stkFree,I.hok,I.bare⟩
theorem Inv.after{Q:VK}{u:Value}(I:Inv X pins σ H s)(h:CE X.stack X.prog X.w H s Q u s'):EP X pins σ Q u s':=by
 obtain⟨v,H',os,bare,un,hok,r,q⟩:=h;obtain⟨a,g,d,t,c⟩:=s';obtain rfl:c=s.os:=os;exact⟨v,H',I.call (h':=a) (g':=g) (d':=d) (t':=t) (ch:=[]) un hok bare (λb z=>absurd z (by simp)),r,q⟩
end
def Ci(sp:Sp)(a:List V)(E:XK)(t:TA):TE:=λσ H Q=>t σ H λvs b=>sp (vs++a) b Q E
def Gs(C:Addr)(sp:Sp)(b:List V)(E:XK)(t:TA):TE:=λσ H Q=>t σ H λvs a=>∀x dx,a x=none->a dx=none->dx≠x ->
 sp (.ref x::(vs++b)) (upd (upd a dx (.own x)) x (.ins C dx [])) (λv c=>v=.non/\Q (.ref x) c) E
def Binds(K:Za)(fd:Zv)(ps:Zf)(ds:Zd):Prop:=
 ∀(s:Shared) (us:Zd),K.In s.heap->(us++ds).length=ps.length->BindsTo s fd ⟨us,[]⟩ (ps.zip (us++ds))
theorem Binds.all{K:Za}{fd:Zv}{ps:Zf}(h:∀us:List Value,us.length=ps.length->bindArgs fd ⟨us,[]⟩=pure (ps.zip us)):Binds K fd ps []:=λs us _ hl=>by
 rw[ZA] at hl ⊢;exact .of_eq (h us hl)
def m7(CX:CXT)(X:Cx)(E:XK):Prop:=∀(pins:Zc) (σ:St) (H:Hp) (s:Shared) (e:Value) (a:Shared),Inv X pins σ H s->CX X.stack H s E e a->X.xe e a
section
variable {X:Cx}{CX:CXT}{k:Nat}{f C:Addr}{fd:Zv}{ps:Zf}{sp:Sp}{HK:List V}{ds:Zd}{E:XK}{x m:Str}{p pos s_:Pos}{e o:Expr}{es:Zg}{ta:TE}{t:TA}
theorem ut{pins:Zc}{σ:St}{H:Hp}{s:Shared}{Q:VK}{us:Zd}{vs:List V}(F:FnOk X.prog X.w X.K X.mg X.base CX k f fd ps sp)(b:Room k X.A)(hb:Binds X.K fd ps ds)(hd:Vals HK ds)(hx:m7 CX X E)
  (I:Inv X pins σ H s) (r:Vals vs us) (h:sp (vs++HK) H Q E):wpAny 'c' X.A (call (.ref f) us) (EP X pins σ Q) X.xe s:=by
 have a:Vals (vs++HK) (us++ds):=r.append hd;have hl:(us++ds).length=ps.length:=by rw[←a.length];exact F.len _ _ _ _ h
 refine wpAny_call (codeAny_mono (F.run X.A X.stack s H ⟨us,[]⟩ (us++ds) (vs++HK) Q E b I.env0 (hb s us I.kIn hl) a h) λr c hq=>?_);cases r with
 |error e=>exact hx pins σ H s e c I hq
 |ok fl=>
  cases fl with
  |ret u=>exact I.after hq
  |next=>exact Yh hq
  |brk=>exact Yh hq
  |cont=>exact Yh hq
theorem C1(F:FnOk X.prog X.w X.K X.mg X.base CX k f fd ps sp)(b:Room k X.A)(hg:Gl X x)(hm:X.mg x=some (.ref f))(hk:PySem.W.keepIn X.K (.ref f)=true)(hb:Binds X.K fd ps ds)(hd:Vals HK ds)(hx:m7 CX X E)
  (ha:PA X (e::es) t) (c:(x==("__debug__" : Str))=false:=by decide) (d:starEach (e::es) X.env=(false,eval e X.env)::starEach es X.env:=by rfl) (g:(backTo pos (starEach es X.env)).any (·.1)=false:=by rfl):
  PE X (.Call (.Name x p) (e::es) [] pos) (Ci sp HK E t):=by
 intro pins s σ H Q I h;refine wpAny_Call_Name_kw (rH I hg hm ?_ c);refine PySem.W.callWith_K (h₀:=X.base) I.ok.mod.kin hk (thn (ha pos pins s σ H _ I h) λus s1 j=>?_) d g;obtain⟨vs,l,a,r,q⟩:=j;refine⟨a.kIn,?_⟩;exact ut F b hb hd hx a r q
structure Mk (K:Za) (C f:Addr):Prop where
 makes:PySem.W.makesIn K C=true
 init:PySem.W.findIn K (.ref C) "__init__" = some (some (.ref f))
 fn:PySem.W.isFn K (.ref f)=true
 kp:PySem.W.keepIn K (.ref C)=true
theorem AO{pins:Zc}{σ:St}{H:Hp}{s:Shared}{Q:VK}{us:Zd}{vs:List V}(M:Mk X.K C f)(F:FnOk X.prog X.w X.K X.mg X.base CX k f fd ps sp)(d:Room (k+1) X.A)(hb:Binds X.K fd ps ds)(hd:Vals HK ds)
  (hx:m7 CX X E) (I:Inv X pins σ H s) (r:Vals vs us)
  (h:∀x dx,H x=none->H dx=none->dx≠x->sp (.ref x::(vs++HK)) (upd (upd H dx (.own x)) x (.ins C dx [])) (λv g=>v=.non/\Q (.ref x) g) E):
  wpAny 'c' X.A (call (.ref C) us) (EP X pins σ Q) X.xe s:=by
 have hq:=h (s.heap.objs.size+1) s.heap.objs.size (I.hok.fresh (YQ _)) (I.hok.fresh (YH _)) (ZW (YN _));have b:=Inv.made (C:=C) I;have c:Vals (V.ref (s.heap.objs.size+1)::(vs++HK)) (Value.ref (s.heap.objs.size+1)::(us++ds)):=.cons rfl (r.append hd);have hl:(Value.ref (s.heap.objs.size+1)::us++ds).length=ps.length:=by
  have e:=c.length;rw[F.len _ _ _ _ hq] at e;exact e.symm
 refine wpAny_call (AN (f:=f) I.kIn M.makes M.init (beq_iff_eq.mp M.fn) (codeAny_mono (F.run _ X.stack _ _ ⟨Value.ref (s.heap.objs.size+1)::us,[]⟩ (Value.ref (s.heap.objs.size+1)::(us++ds)) _ _ E (d.make C us [])
  (b.env0.make C us []) (hb _ (Value.ref (s.heap.objs.size+1)::us) b.kIn hl) c hq) λr j a=>?_))
 cases r with
 |error e=>exact hx pins σ _ _ e j b a
 |ok fl=>
  cases fl with
  |ret u=>
   obtain⟨v,H',l,n,y,z⟩:=b.after a;subst y;exact⟨n,⟨V.ref (s.heap.objs.size+1),H',l,rfl,z⟩⟩
  |next=>exact Yh a
  |brk=>exact Yh a
  |cont=>exact Yh a
theorem C2(M:Mk X.K C f)(F:FnOk X.prog X.w X.K X.mg X.base CX k f fd ps sp)(b:Room (k+1) X.A)(hg:Gl X x)(hm:X.mg x=some (.ref C))(hb:Binds X.K fd ps ds)(hd:Vals HK ds)(hx:m7 CX X E)
  (ha:PA X (e::es) t) (c:(x==("__debug__" : Str))=false:=by decide) (d:starEach (e::es) X.env=(false,eval e X.env)::starEach es X.env:=by rfl) (g:(backTo pos (starEach es X.env)).any (·.1)=false:=by rfl):
  PE X (.Call (.Name x p) (e::es) [] pos) (Gs C sp HK E t):=by
 intro pins s σ H Q I h;refine wpAny_Call_Name_kw (rH I hg hm ?_ c);refine PySem.W.callWith_K (h₀:=X.base) I.ok.mod.kin M.kp (thn (ha pos pins s σ H _ I h) λus s1 j=>?_) d g;obtain⟨vs,l,a,r,q⟩:=j;refine⟨a.kIn,?_⟩;exact AO M F b hb hd hx a r q
end
structure FnScope (N P:Zf) (sc:Scope):Prop where
 kind:sc.kind=.function
 co:sc.isCoroutine=false
 gen:sc.isGenerator=false
 nd:N.Nodup
 pre:N.take P.length=P
 par:∀x∈P,sc.names.lookup x=some .local \/ sc.names.lookup x=some .cell
 nofree:∀y∈sc.names,y.2≠.free
theorem su{kindOf:Str->Option NameKind}{x:Str}:∀{binds:List (Str×Value)}{m:Ze},(∀v,(x,v)∉binds)->bindL kindOf binds m x=m x
 |[],_,_=>rfl
 |(n,v)::r,m,h=>by
  unfold bindL;rw[su λw hw=>h w (YB _ hw)];split
  ·have:x≠n:=by rintro rfl;exact h v YA
   simp[this]
  ·rfl
theorem sv{kindOf:Str->Option NameKind}{x:Str}:∀{binds:List (Str×Value)}{m:Ze},(∀v,(x,v)∉binds)->bindC kindOf binds m x=m x
 |[],_,_=>rfl
 |(n,v)::r,m,h=>by
  unfold bindC;rw[sv λw hw=>h w (YB _ hw)];split
  ·rfl
  ·have:x≠n:=by rintro rfl;exact h v YA
   simp[this]
theorem sw{kindOf:Str->Option NameKind}{x:Str}{v:Value}:∀{P:Zf}{vs:Zd}{i:Nat}{m:Ze},P.Nodup->P[i]?=some x->vs[i]?=some v->kindOf x=some .local ->
  bindL kindOf (P.zip vs) m x=some v
 |[],_,_,_,_,h,_,_=>by simp at h
 |_::_,[],_,_,_,_,h,_=>by simp at h
 |p::P,w::vs,0,m,nd,a,h2,hk=>by
  simp at a h2;subst a;subst h2;show bindL kindOf ((p,w)::P.zip vs) m p=_;unfold bindL;rw[su λv hv=>(YR.mp nd).1 (List.of_mem_zip hv).1,if_pos hk];simp
 |p::P,w::vs,i+1,m,nd,a,h2,hk=>by
  show bindL kindOf ((p,w)::P.zip vs) m x=_;unfold bindL;exact sw (i:=i) (YR.mp nd).2 (by simpa using a) (by simpa using h2) hk
theorem sy{kindOf:Str->Option NameKind}{x:Str}{v:Value}:∀{P:Zf}{vs:Zd}{i:Nat}{m:Ze},P.Nodup->P[i]?=some x->vs[i]?=some v->kindOf x≠some .local ->
  bindC kindOf (P.zip vs) m x=some v
 |[],_,_,_,_,h,_,_=>by simp at h
 |_::_,[],_,_,_,_,h,_=>by simp at h
 |p::P,w::vs,0,m,nd,a,h2,hk=>by
  simp at a h2;subst a;subst h2;show bindC kindOf ((p,w)::P.zip vs) m p=_;unfold bindC;rw[sv λv hv=>(YR.mp nd).1 (List.of_mem_zip hv).1,if_neg hk];simp
 |p::P,w::vs,i+1,m,nd,a,h2,hk=>by
  show bindC kindOf ((p,w)::P.zip vs) m x=_;unfold bindC;exact sy (i:=i) (YR.mp nd).2 (by simpa using a) (by simpa using h2) hk
def start(N:Zf)(vs:List V):St:=vs.map some++List.replicate (N.length-vs.length) none
def cxOf(CX:CXT)(P:Zw)(w:World)(K:Za)(mg:Ze)(base:Heap)(N:Zf)(l_:Str)(scope:Scope)(f:Addr)(a:Value)(A:Around)(outer:List Env)(s:Shared)(H:Hp)(E:XK):Cx where
 prog:=P
 w:=w
 K:=K
 mg:=mg
 base:=base
 A:=A.deeper (envOfC l_ scope s.heap.objs.size f a)
 N:=N
 s₀:=s
 H₀:=H
 env:=envOfC l_ scope s.heap.objs.size f a
 outer:=outer
 stack:=envOfC l_ scope s.heap.objs.size f a::outer
 ex:=[]
 calm:=true
 fn:=λ_=>true
 pn:=[]
 xe:=λe c=>wpAny (model P w) (A.deeper (envOfC l_ scope s.heap.objs.size f a)) (leaving (envOfC l_ scope s.heap.objs.size f a) e) (λ_ b=>CX outer H s E e b) (λe' b=>CX outer H s E e' b) c
theorem uu{sc:Scope}{n:Nat}{x:Str}(h:sc.names.lookup x=some .cell):∃c,(cellsFrom n sc.names []).lookup x=some c:=by
 have q:=PySem.W.cellsFrom_some sc.names n [] (.inl h);exact Option.isSome_iff_exists.mp q
theorem y0{CX:CXT}{P:Zw}{w:World}{K:Za}{mg:Ze}{base:Heap}{N ps:Zf}{l_:Str}{scope:Scope}{f:Addr}{g:Value}{A:Around}{outer:List Env}{s s1:Shared}{H:Hp}{E:XK}{us:Zd}{vs:List V}
  (S:FnScope N ps scope) (hd:A.handled=none) (d:Env0 P w K mg base A outer s H) (hl:vs.length=ps.length) (r:Vals vs us)
  (x:InCallC s s.heap.objs.size (bindL (envOfC l_ scope s.heap.objs.size f g).kindOf (ps.zip us) λ_=>none) (cellsFrom (s.heap.objs.size+1) scope.names []) (bindC (envOfC l_ scope s.heap.objs.size f g).kindOf (ps.zip us) λ_=>none) s1):
  Inv (cxOf CX P w K mg base N l_ scope f g A outer s H E) [] (start N vs) H s1:=by
 have B:ps.length<=N.length:=by have:=congrArg List.length S.pre;rw[YU] at this;omega
 obtain⟨j,tk,rfl,hk⟩:=x.done;have l:∀b:Addr,b∉(cxOf CX P w K mg base N l_ scope f g A outer s H E).ex:=λb z=>absurd (show b∈([]:List Addr) from z) (by simp)
 refine⟨⟨d.mod,S.kind,rfl,rfl,YH _,λy z c j h2=>?_,λy hy=>?_,λy c _ h=>?_,λ_=>hd,Around.frames_deeper d.frames,.inr ⟨rfl,rfl⟩,λb z=>absurd z (l b),d.bs,d.bsz,λb _ _=>l b,λb z=>absurd z (l b),d.funs,d.frf⟩,
  rfl,d.bare,Un.kept hk,⟨_,x.toInCall.ns,λi y v j h2 C=>?_⟩,λy c h=>⟨_,x.cell y c h⟩,d.hok.fresh (YH _),λy c h=>?_,λp hp=>absurd (show p∈([]:List (Addr×Obj)) from hp) (by simp),d.hok.kept hk,?_⟩
 ·exact name_of_addr x.apart (PySem.mem_of_lookup j) (PySem.mem_of_lookup h2)
 ·have hy:scope.names.lookup y=some .cell\/scope.names.lookup y=some .free:=hy
  rcases hy with hy | hy
  ·exact uu hy
  ·exact absurd rfl (S.nofree _ (PySem.mem_of_lookup hy))
 ·exact Nat.le_of_lt (x.above y c (PySem.mem_of_lookup h))
 ·have hi:i<vs.length:=by
   unfold start at h2;by_cases hi:i<vs.length
   ·exact hi
   ·rw[ZI (by simpa using hi)] at h2
    rw[List.getElem?_replicate] at h2;split at h2<;>cases h2
  have ha:vs[i]?=some v:=by
   unfold start at h2;rw[ZF (by simpa using hi),ZH] at h2;cases e:vs[i]? with
   |none=>rw[e] at h2;cases h2
   |some a=>rw[e] at h2;cases h2;rfl
  obtain⟨u,hu,o⟩:=r.get ha;have hp:ps[i]?=some y:=by
   rw[←S.pre,List.getElem?_take_of_lt 'a'];exact j
  have m:ps.Nodup:=by rw[←S.pre];exact S.nd.sublist (List.take_sublist _ _)
  refine⟨u,o,?_⟩;rcases S.par y (YV hp) with k | k
  ·exact .inl ⟨k,sw m hp hu k⟩
  ·obtain⟨c,e⟩:=uu (n:=s.heap.objs.size+1) k
   refine .inr ⟨.inl k,c,e,?_⟩;have q:=x.cell y c e;rw[sy m hp hu (by show scope.names.lookup y≠_;rw[k];decide)] at q;exact q
 ·exact d.hok.fresh (Nat.le_of_lt (x.above y c (PySem.mem_of_lookup h)))
 ·unfold start
  show _=N.length;rw[ZM,ZG,List.length_replicate];omega
theorem Gu{CX:CXT}{P:Zw}{w:World}{K:Za}{mg:Ze}{base:Heap}{k:Nat}{f:Addr}{name l_:Str}{a:Arguments}{body:Zu}{scope:Scope}{z kV B_ pm y_ ct oc:Value}{an od:Zm}
  {GX:Zn}{N ps:Zf}{sp:Sp}(G:K.lookup f=some ⟨oc,od,.func (PySem.W.fnOf name l_ a body scope z kV B_ pm an y_ ct),GX⟩) (L:PySem.W.codeIn K y_ l_=true) (S:FnScope N ps scope)
  (len:∀vs H Q E,sp vs H Q E->vs.length=ps.length)
  (O:∀(A:Around) (outer:List Env) (s:Shared) (H:Hp) (vs:List V) (Q:VK) (E:XK),Room k (A.deeper (envOfC l_ scope s.heap.objs.size f y_))->sp vs H Q E ->
   ∃t,PSs (cxOf CX P w K mg base N l_ scope f y_ A outer s H E) body t/\t { nx:=λ_ H'=>Q .non H',rt:=Q } (start N vs) H):
  FnOk P w K mg base CX (k+1) f (PySem.W.fnOf name l_ a body scope z kV B_ pm an y_ ct) ps sp:=by
 refine⟨len,λA outer s H args us vs Q E j d hb r B=>?_⟩;have hl:=len _ _ _ _ B;have C:K.In s.heap:=d.mod.kin.keeps λb o e=>(d.bs b o e).1
 have l:s.heap.NoLimit:=d.mod.nolimit.keeps λb o e=>(d.bs b o e).1
 have R:∀y∈ps.zip us,scope.names.lookup y.1=some .local \/ (scope.names.lookup y.1=some .cell/\((cellsFrom (s.heap.objs.size+1) scope.names []).lookup y.1).isSome=true):=λ⟨n,v⟩ hy=>by
  rcases S.par n (List.of_mem_zip hy).1 with q | q
  ·exact .inl q
  ·exact .inr ⟨q,PySem.W.cellsFrom_some _ _ _ (.inl q)⟩
 refine codeAny_call_function j.depth (C _ _ G) rfl S.co S.gen rfl (PySem.W.codeRec_of C L) (hb _ _ _ _ ?_);refine wpAny_newFunctionEnv_cells S.kind R λenv T s1 x=>?_
 subst T;refine⟨l.keeps x.toInCall.keep,codeAny_func ?_⟩;obtain⟨t,ht,hq⟩:=O A outer s H vs Q E (j.deeper _) B;have I:Inv (cxOf CX P w K mg base N l_ scope f y_ A outer s H E) [] (start N vs) H s1:=y0 S j.hd d hl r x;refine wpAny_mono (ht [] s1 (start N vs) H _ I hq) (λfl m c=>?_) λe m c=>c
 have fin:∀{g:St}{H':Hp}{v:V}{u:Value},Inv (cxOf CX P w K mg base N l_ scope f y_ A outer s H E) [] g H' m->RelV v u->Q v H'->CE outer P w H s Q u m:=
  λ{g H' v u} J p q=>⟨v,H',J.os,J.bare,J.base,J.hok,p,q⟩
 cases fl with
 |ret u=>
  obtain⟨v,g,H',J,p,q⟩:=c;exact fin J p q
 |next=>
  obtain⟨g,H',J,q⟩:=c;exact fin (v:=V.non) (u:=Value.none) J rfl q
 |brk=>
  obtain⟨_,_,_,q⟩:=c;exact Yh q
 |cont=>
  obtain⟨_,_,_,q⟩:=c;exact Yh q
section
variable {X:Cx}{x:Str}{p pos:Pos}{e:Expr}{es:Zg}{t:TA}{id T:String}{r:List V->Hp->VK->Prop}
def tCB(r:List V->Hp->VK->Prop)(t:TA):TE:=λσ H Q=>t σ H λvs a=>r vs a Q
theorem AQ(hc:dU X (.builtin id) r)(hg:Gl X x)(hm:X.mg x=none)(hv:bootBuiltins x=some (.builtin id))(ha:PA X (e::es) t)(hn:x ≠ "__name__":=by decide)(a:(x==("__debug__" : Str))=false:=by decide)
  (b:starEach (e::es) X.env=(false,eval e X.env)::starEach es X.env:=by rfl) (c:(backTo pos (starEach es X.env)).any (·.1)=false:=by rfl):PE X (.Call (.Name x p) (e::es) [] pos) (tCB r t):=by
 intro pins s σ H Q I h;refine wpAny_Call_Name_kw (bY I hg hm hv ?_ hn a);refine PyProof.Rows.callWith_builtin1 (thn (ha pos pins s σ H _ I h) λus s1 d=>?_) b c;obtain⟨vs,f,g,j,k⟩:=d;exact hc pins s1 σ f vs us Q g j k
theorem y8(hc:dU X (.type T) r)(hg:Gl X x)(hm:X.mg x=none)(hv:bootBuiltins x=some (.type T))(ha:PA X (e::es) t)(hn:x ≠ "__name__":=by decide)(a:(x==("__debug__" : Str))=false:=by decide)
  (b:starEach (e::es) X.env=(false,eval e X.env)::starEach es X.env:=by rfl) (c:(backTo pos (starEach es X.env)).any (·.1)=false:=by rfl):PE X (.Call (.Name x p) (e::es) [] pos) (tCB r t):=by
 intro pins s σ H Q I h;refine wpAny_Call_Name_kw (bY I hg hm hv ?_ hn a);refine PyProof.Rows.callWith_type1 (thn (ha pos pins s σ H _ I h) λus s1 d=>?_) b c;obtain⟨vs,f,g,j,k⟩:=d;exact hc pins s1 σ f vs us Q g j k
end
end L2
namespace HT
open PySem PyProof.Rows
def lexLt:List Int->List Int->Bool
 |[],[]=>false
 |[],_::_=>true
 |_::_,[]=>false
 |x::xs,y::ys=>if x=y then lexLt xs ys else decide (x<y)
theorem lE(x y:Int)(xs ys:Zi):lexLt (x::xs) (y::ys)=if x=y then lexLt xs ys else decide (x<y):=rfl
theorem mz:lexLt [] []=false:=rfl
theorem rJ(y:Int)(ys:Zi):lexLt [] (y::ys)=true:=rfl
theorem rK(x:Int)(xs:Zi):lexLt (x::xs) []=false:=rfl
theorem AR(A:Around)(s:Shared)(a:Int)(t:Tok)(c:Int)(u:Tok):∃e,SeqAt.EqAt A s (.int a t) (.int c u) e/\(e=true↔a=c):=
 ⟨(a==c),SeqAt.EqAt.int_int a t c u,by simp⟩
theorem AS(A:Around)(s:Shared)(a:Int)(t:Tok)(c:Int)(u:Tok)(prog:Zw)(w:World)(E:Zb)(Q:Zb)(h:Q (.bool (decide (a<c))) s):
  wpAny 'e' A (richCompare .Lt (.int a t) (.int c u)) Q E s:=
 (PyProof.Rows.lt_int h:wpAny 'e' A (compareOp .Lt (.int a t) (.int c u)) Q E s)
section
open PySem.SeqAt
open PySem.AutoSeq1 (wpAny_loadPart')
open PySem.MeetsSeq PySem.MeetsSeq2 PySem.MeetsSeq3
theorem tF(l b:Addr)(b_ f:Zl)(n B:Nat)(C G:Zm)(sl J:Zn)(ns m:Zi)(hi:IntsAre b_.toList ns)(r:IntsAre f.toList m):
  Meets (Builtin.«tuple.__lt__» ⟨[.ref l,.ref b],[]⟩)
   (λ_ R s=>s.heap.get? l=some { cls:=.type "tuple",dict:=C,data:=.seq b_ n,slots:=sl }/\s.heap.get? b=some { cls:=.type "tuple",dict:=G,data:=.seq f B,slots:=J } /\
    R (.ok (.ret (.bool (lexLt ns m)))) s):=
 .of_wp λprog w A R s h=>by
  obtain⟨hp,g,d,tk,os⟩:=s;obtain⟨hl,hb,h⟩:=h;have S:=AutoSeq1.sub_tuple_tuple;have T:b_.size=ns.length:=by rw[←hi.length];simp
  have U:f.size=m.length:=by rw[←r.length];simp
  wp_walk using wpAny_loadPart' hl,wpAny_loadPart' hb,wpAny_forIn_list _ (λrest b p=>b.1=none/\p=⟨hp,g,d,tk,os⟩/\∃(vs o:Zd) (j k:Zi),rest=vs.zip o /\
   IntsAre vs j/\IntsAre o k/\j.length+f.size=k.length+b_.size/\R (.ok (.ret (.bool (lexLt j k)))) ⟨hp,g,d,tk,os⟩) _
  case turn=>
   rintro⟨y,x⟩ rest b p ⟨GJ,rfl,vs,o,j,k,hz,hvi,hwi,n_,hR⟩;cases hvi with
   |nil=>rw[List.zip_nil_left] at hz;cases hz
   |cons a t K=>
    cases hwi with
    |nil=>rw[List.zip_nil_right] at hz;cases hz
    |cons c u L=>
     rw[List.zip_cons_cons] at hz;injection hz with hyx hrest
     injection hyx with hy hx
     subst hy hx;rw[lE] at hR;simp only[YK] at n_;obtain⟨e,O,z⟩:=AR A.in1 ⟨hp,g,d,tk,os⟩ a t c u;refine Yb (O prog w _ _ ?_);cases e with
     |true=>
      rw[if_pos (z.mp rfl)] at hR;wp_walk;exact⟨rfl,rfl,_,_,_,_,hrest,K,L,by omega,hR⟩
     |false=>
      rw[if_neg (λq=>absurd (z.mpr q) YG)] at hR;have P:=AS A.in1 ⟨hp,g,d,tk,os⟩ a t c u prog w;wp_walk using P;exact⟨_,rfl,by simpa using hR⟩
  case fin=>
   rintro⟨b1,b2⟩ p ⟨GJ,rfl,vs,o,j,k,hz,hvi,hwi,n_,hR⟩;simp only at GJ;subst GJ;have hv:lexLt j k=decide (b_.size<f.size):=by
    cases hvi with
    |nil=>
     cases hwi with
     |nil=>
      simp only[YW] at n_;rw[mz];exact(ZS 'a').symm
     |cons c u hw=>
      simp only[YW,YK] at n_;rw[rJ];exact(YX 'a').symm
    |cons a t hv=>
     cases hwi with
     |nil=>
      simp only[YW,YK] at n_;rw[rK];exact(ZS 'a').symm
     |cons c u hw=>
      rw[List.zip_cons_cons] at hz;cases hz
   rw[hv] at hR;wp_walk;exact⟨_,rfl,by simpa [Builtin.Tuple.tupleCompareSizes] using hR⟩
  case h=>
   exact⟨rfl,rfl,b_.toList,f.toList,ns,m,rfl,hi,r,by omega,h⟩
end
section
variable {prog:Zw}{w:World}{A:Around}{E:Zb}{s:Shared}
theorem xR{l b:Addr}{b_ c:Zl}{ns a:Zi}{Q:Zb}(hl:IsTup s.heap l b_)(hb:IsTup s.heap b c)(hi:IntsAre b_.toList ns)(j:IntsAre c.toList a)
  (hu:A.units<cLine) (h:Q (.bool (lexLt ns a)) s):wpAny 'e' A (compareOp .Lt (.ref l) (.ref b)) Q E s:=by
 obtain⟨⟨cls,k,data,sl⟩,ho,hc,n,hd⟩:=id hl;obtain⟨⟨r,m,data2,o⟩,d,f,p,g⟩:=id hb;simp only at hc hd f g;subst hc hd f g;exact richCompare_meets_room (op:=.Lt) ⟨_,ho,rfl⟩ ⟨_,d,rfl⟩ PySem.F.slot_tuple_lt PySem.F.entry_tuple_lt (PySem.F.args_tuple_lt_2 _ _) (tF l b b_ c n p k m sl o ns a hi j)
  ⟨ho,d,show Value.bool (lexLt ns a)≠Value.notImplemented/\Q (.bool (lexLt ns a)) s from⟨(λx=>nomatch x),h⟩⟩ hu
theorem C3{t b:Addr}{vs a:Zd}{Q:Zb}(ht:IsTup s.heap t vs.toArray)(hb:IsTup s.heap b a.toArray)(hv:vs≠[])
  (m:a=[]->Q (.ref t) s) (h2:a≠[]->Q (.ref s.heap.objs.size) { s with heap:=s.heap.push { cls:=.type "tuple",data:=.seq (vs++a).toArray } })
  (hsz:vs.length+a.length<=sizeLine):wpAny 'e' A (binaryOp .Add (.ref t) (.ref b)) Q E s:=by
 obtain⟨⟨cls,d,data,sl⟩,ho,hc,n,hd⟩:=id ht;obtain⟨⟨o,f,data2,g⟩,c,j,k,l⟩:=id hb;simp only at hc hd j l;subst hc hd j l;have e:vs.toArray++a.toArray=(vs++a).toArray:=by simp
 by_cases hw:a=[]
 ·exact concat_meets ⟨_,ho,rfl⟩ ⟨_,c,rfl⟩ noFill_tuple_add seq_tuple_add PySem.F.slot_tuple_add PySem.F.entry_tuple_add (PySem.F.args_tuple_add_2 _ _)
   (tuple_addW1 t b vs.toArray a.toArray n k d f sl g (by simpa using hv) (by simp[hw])) ⟨ho,c,m hw⟩
 ·refine concat_meets ⟨_,ho,rfl⟩ ⟨_,c,rfl⟩ noFill_tuple_add seq_tuple_add PySem.F.slot_tuple_add PySem.F.entry_tuple_add (PySem.F.args_tuple_add_2 _ _)
   (tuple_addW2 t b vs.toArray a.toArray n k d f sl g (by simpa using hv) (by simpa using hw) (by rw[YJ,YJ];exact hsz)) ⟨ho,c,?_⟩
  rw[e];exact h2 hw
def sIx(n d:Nat):Option Int->Nat
 |none=>d
 |some v=>if v<0 then(v+(n:Int)).toNat else min v.toNat n
theorem AT(n d:Nat):sIx n d none=d:=rfl
theorem rN(n d k:Nat):sIx n d (some (k:Int))=min k n:=by
 show(if(k:Int)<0 then((k:Int)+(n:Int)).toNat else min (k:Int).toNat n)=min k n;rw[if_neg 'a',YY]
theorem E6(n d:Nat)(hd:d<=n)(o:Zq):sIx n d o<=n:=by
 cases o with
 |none=>exact hd
 |some v=>
  show(if v<0 then(v+(n:Int)).toNat else min v.toNat n)<=n;by_cases hv:v<0
  ·rw[if_pos hv];omega
  ·rw[if_neg hv];exact Nat.min_le_right _ _
theorem wV(v:Int)(n d:Nat):(if v<0 then max (v+(n:Int)) 0 else min v (n:Int))=((sIx n d (some v):Nat):Int):=by
 show(if v<0 then max (v+(n:Int)) 0 else min v (n:Int))=(((if v<0 then(v+(n:Int)).toNat else min v.toNat n):Nat):Int);by_cases hv:v<0
 ·simp only[if_pos hv];omega
 ·simp only[if_neg hv];omega
theorem xS(lo hi:Zq)(n:Nat):Builtin.Slice.sliceAdjust lo hi 1 (n:Int)=(((sIx n 0 lo:Nat):Int),((sIx n n hi:Nat):Int)):=by
 have a:¬((1:Int)<0):=by omega
 unfold Builtin.Slice.sliceAdjust;simp only[a,if_false];refine Prod.ext ?_ ?_
 ·cases lo with
  |none=>rfl
  |some v=>exact wV v n 0
 ·cases hi with
  |none=>rfl
  |some v=>exact wV v n n
theorem xT(i j:Nat):Builtin.Slice.slicePlaces (i:Int) (j:Int) 1=j-i:=by
 unfold Builtin.Slice.slicePlaces;have a:(1:Int)>0:=by omega
 simp only[a,if_true,Int.ediv_one];split<;>omega
theorem pZ{v:Value}{o:Zq}{Q:Option Int->Shared->Prop}(p:IsPart v o)(h:Q o s):wpAny 'e' A (Builtin.Slice.slicePartIndex v) Q E s:=by
 cases p with
 |none=>exact slicePart_none h
 |int i t=>exact slicePart_int h
theorem jw{sl:Addr}{a b:Value}{lo hi:Zq}{n:Nat}{Q:Int×Int×Nat->Shared->Prop}(f:s.heap.IsSliceOf sl a b .none)(pl:IsPart a lo)(g:IsPart b hi)
  (h:Q (((sIx n 0 lo:Nat):Int),1,sIx n n hi-sIx n 0 lo) s):wpAny 'e' A (Builtin.Slice.sliceApplied (.ref sl) (pure (n:Int))) Q E s:=by
 obtain⟨os,c,j,d⟩:=id f;unfold Builtin.Slice.sliceApplied Builtin.Slice.sliceFields;refine Yb (Yb (wpAny_field c d (x:=a) rfl (Yb (wpAny_field c d (x:=b) rfl (Yb (wpAny_field c d (x:=.none) rfl (Yc ?_)))))));refine Yb (slicePart_none ?_);show wpAny _ _ (if((1:Int)==0)=true then _ else _) _ _ s;rw[if_neg 'b'];refine Yb (pZ pl (Yb (pZ g (Yb (Yc ?_)))));show wpAny _ _ (match Builtin.Slice.sliceAdjust lo hi 1 (n:Int) with | (lo,hi)=>pure (lo,(1:Int),Builtin.Slice.slicePlaces lo hi 1)) _ _ s;rw[xS lo hi n];show wpAny _ _ (pure (((sIx n 0 lo:Nat):Int),(1:Int),Builtin.Slice.slicePlaces ((sIx n 0 lo:Nat):Int) ((sIx n n hi:Nat):Int) 1)) _ _ s;rw[xT];exact Yc h
theorem AU(xs:Zl)(i k:Nat):((List.range k).filterMap λ(m:Nat)=>xs[((i:Int)+(m:Int)*1).toNat]?).toArray=((xs.toList.drop i).take k).toArray:=by
 have e:(λ(m:Nat)=>xs[((i:Int)+(m:Int)*1).toNat]?)=λm=>xs[i+m]?:=by
  funext m;have:((i:Int)+(m:Int)*1).toNat=i+m:=by omega
  rw[this]
 rw[e]
 have:=pick_run xs i k
 rw[List.filterMap_map] at this;have a:((λx=>xs[x]?)∘λx=>i+x)=λm=>xs[i+m]?:=rfl
 rw[a] at this;rw[this]
theorem oF{t sl:Addr}{b_:Zl}{b c:Value}{lo hi:Zq}{Q:Zb}(ht:IsTup s.heap t b_)(d:s.heap.IsSliceOf sl b c .none)(pl:IsPart b lo)(f:IsPart c hi)
  (hw:¬(sIx b_.size 0 lo=0/\sIx b_.size b_.size hi=b_.size))
  (h:Q (.ref s.heap.objs.size) { s with heap:=s.heap.push { cls:=.type "tuple",data:=.seq ((b_.toList.drop (sIx b_.size 0 lo)).take (sIx b_.size b_.size hi-sIx b_.size 0 lo)).toArray } })
  (hsz:b_.size<=sizeLine):wpAny 'e' A (getItem (.ref t) (.ref sl)) Q E s:=by
 have a:sizeOk (.seq ((b_.toList.drop (sIx b_.size 0 lo)).take (sIx b_.size b_.size hi-sIx b_.size 0 lo)).toArray):=by
  show((b_.toList.drop (sIx b_.size 0 lo)).take (sIx b_.size b_.size hi-sIx b_.size 0 lo)).toArray.size<=sizeLine;rw[YJ,YU,YZ,YF];omega
 have n:sIx b_.size b_.size hi<=b_.size:=E6 _ _ (YH _) hi;obtain⟨os,g,j,o⟩:=id d;have k:s.TypeIs (.ref sl) "slice":=⟨os,g,j⟩;unfold getItem;try with_reducible refine Yj ?_
 first | refine Yb (Yc ?_) | skip
 refine Yb (wpAny_sequenceKey ht.typeIs 'b' ?_);refine Yb (wpAny_callSpecial?_slot (name:=Str.ofString "__getitem__") ht.typeIs PyProof.Rows.slot_tuple_getitem
  (wpAny_call_entry PyProof.Rows.slot_tuple_getitem ht.typeIs entry_tuple_getitem ?_ (args_tuple_getitem _ _)))
 show wpAny _ _ (Builtin.Tuple.tupleItemsOf (.ref t) >>= _) _ _ s;refine Yb (tupleItemsOf_ ht ?_);refine Yb (wpAny_typeOf k ?_);rw[if_pos 'b'];refine Yb (jw d pl f ?_);have l:¬((((sIx b_.size 0 lo:Nat):Int)==0&&(1:Int)==1&&(sIx b_.size b_.size hi-sIx b_.size 0 lo)==b_.size)=true):=by
  intro q;rw[XA,XA] at q;have p:((sIx b_.size 0 lo:Nat):Int)=0:=eq_of_beq q.1.1;have r:sIx b_.size b_.size hi-sIx b_.size 0 lo=b_.size:=eq_of_beq q.2;exact hw ⟨by omega,by omega⟩
 show wpAny _ _ (if(((sIx b_.size 0 lo:Nat):Int)==0&&(1:Int)==1&&(sIx b_.size b_.size hi-sIx b_.size 0 lo)==b_.size)=true then _ else _) _ _ s;rw[if_neg l,AU];first
  |exact Yb (m:=Builtin.Tuple.tupleExact _) (wpAny_newObj_type (Yc ⟨_,rfl,Yc h⟩) a)
  |exact Yb (m:=Builtin.Tuple.tupleExact _) (wpAny_newObj_type (Yb (Yc (Yc ⟨_,rfl,Yc h⟩))) a)
  |exact Yb (Yb (m:=Builtin.Tuple.tupleExact _) (wpAny_newObj_type (Yc (Yc ⟨_,rfl,Yc h⟩)) a))
  |exact Yb (Yb (m:=Builtin.Tuple.tupleExact _) (wpAny_newObj_type (Yc ⟨_,rfl,Yc h⟩) a))
end
end HT
namespace L2
open PySem PySem.Spec PyProof.Rows
abbrev TO:=St->Hp->(Option Int->Hp->Prop)->Prop
def PO(X:Cx)(e:Option Expr)(t:TO):Prop:=
 ∀(pins:Zc) (s:Shared) (σ:St) (H:Hp) (Q:Option Int->Hp->Prop),Inv X pins σ H s->t σ H Q ->
  wpAny 'c' X.A (evalPart e X.env) (λu a=>∃o H',Inv X pins σ H' a/\IsPart u o/\Q o H') X.xe s
def C4:TO:=λ_ H Q=>Q none H
def Gv(t:TE):TO:=λσ H Q=>t σ H λx a=>∃i,x=.int i/\Q (some i) a
theorem intsAre_of{ns:Zi}:∀{us:Zd},Vals (ns.map V.int) us->IntsAre us ns:=by
 induction ns with
 |nil=>intro us r;rw[XB] at r;cases r;exact .nil
 |cons n ns a=>
  intro us r;rw[YM] at r;cases r with
  |cons b c=>
   obtain⟨t,e⟩:=b;subst e;exact .cons n t (a c)
section
variable {X:Cx}{e:Expr}{te:TE}{lo hi:Option Expr}{tl th:TO}{pos p2:Pos}
theorem C5:PO X none C4:=by
 intro pins s σ H Q I h;rw[evalPart_none];exact Yc ⟨none,H,I,.none,h⟩
theorem C7(h:PE X e te):PO X (some e) (Gv te):=by
 intro pins s σ H Q I hw;rw[evalPart_some];refine thn (h pins s σ H _ I hw) λu s1 a=>?_
 obtain⟨x,b,c,d,f⟩:=a;obtain⟨i,rfl,q⟩:=f;obtain⟨t,rfl⟩:=d;exact⟨some i,b,c,.int i t,q⟩
def SlR(X:Cx)(r:V->Option Int->Option Int->Hp->VK->Prop):Prop:=
 ∀(pins:Zc) (s:Shared) (σ:St) (H:Hp) (x:V) (v a b:Value) (lo hi:Zq) (sl:Addr) (Q:VK),Inv X pins σ H s->RelV x v->s.heap.IsSliceOf sl a b .none->IsPart a lo->IsPart b hi->r x lo hi H Q ->
  ∃T id,typeLookup (.type T) "__getitem__" = pure (some (.builtin id))/\s.TypeIs v T/\wpAny 'c' X.A (getItem v (.ref sl)) (EP X pins σ Q) X.xe s
def tSl(r:V->Option Int->Option Int->Hp->VK->Prop)(te:TE)(tl th:TO):TE:=λσ H Q=>te σ H λx a=>tl σ a λl b=>th σ b λu c=>r x l u c Q
theorem AV{r:V->Option Int->Option Int->Hp->VK->Prop}(g:SlR X r)(j:PE X e te)(hl:PO X lo tl)(hu:PO X hi th):PE X (.Subscript e (.Slice lo hi none p2) pos) (tSl r te tl th):=by
 intro pins s σ H Q I h;refine Subscript_ (thn (j pins s σ H _ I h) λv s1 k=>?_);obtain⟨x,m,n,o,p⟩:=k;refine wpAny_Slice (thn (hl pins s1 σ m _ n p) λc s2 y=>?_);obtain⟨l,z,B,pl,C⟩:=y;refine thn (hu pins s2 σ z _ B C) λd a G=>?_
 obtain⟨u,f,J,K,L⟩:=G;rw[evalPart_none];refine Yc ?_;have O:Inv X pins σ f { a with heap:=a.heap.push { cls:=.type "slice",data:=.fields #[c,d,.none] } }:=J.kept (t':=a.toks) λb R q=>Yd _ q
 obtain⟨T,id,P,ht,hg⟩:=g pins { a with heap:=a.heap.push { cls:=.type "slice",data:=.fields #[c,d,.none] } } σ f x v c d l u a.heap.objs.size Q O o (Heap.IsSliceOf.new ..) pl K L;show wpAny 'c' X.A (subscriptTail e (.Slice lo hi none p2) v (.ref a.heap.objs.size)) (EP X pins σ Q) X.xe { a with heap:=a.heap.push { cls:=.type "slice",data:=.fields #[c,d,.none] } };exact tail_any (ops:=[.ref a.heap.objs.size,v]) ht P hg (by with_unfolding_all rfl)
def cutV(xs:List V)(lo hi:Zq):List V:=(xs.drop (HT.sIx xs.length 0 lo)).take (HT.sIx xs.length xs.length hi-HT.sIx xs.length 0 lo)
theorem oO(xs:List V)(lo hi:Zq):(cutV xs lo hi).length<=xs.length:=by
 unfold cutV;rw[YU,YZ];omega
def rSlT(K:Za):V->Option Int->Option Int->Hp->VK->Prop:=λx lo hi H Q=>∃a xs,x=.ref a/\SqT K H a xs /\
 ¬(HT.sIx xs.length 0 lo=0/\HT.sIx xs.length xs.length hi=xs.length)/\∀p,H p=none->Q (.ref p) (upd H p (.tup (cutV xs lo hi)))
theorem E7:SlR X (rSlT X.K):=by
 intro pins s σ H x v j k lo hi sl Q I d f pl g h;obtain⟨a,xs,rfl,hx,hw,q⟩:=h;cases d;obtain⟨c_,r,ht,hz⟩:=I.tuple hx;have c:c_.toArray.size=xs.length:=by rw[YJ];exact r.length.symm
 refine⟨"tuple",_,PyProof.Rows.slot_tuple_getitem.lookup,ht.typeIs,?_⟩;refine HT.oF ht f pl g (by rw[c];exact hw) ?_ (by rw[c];exact hz);rw[c];refine⟨.ref s.heap.objs.size,_,I.laid (t':=s.toks) (o:=.tup (cutV xs lo hi)) (λb l q=>Yd _ q) (YH _) ?_,rfl,q _ (I.hok.fresh (YH _))⟩;exact⟨ZZ (oO xs lo hi) hz,_,(r.drop (HT.sIx xs.length 0 lo)).take (HT.sIx xs.length xs.length hi-HT.sIx xs.length 0 lo),IsTup.new _ _⟩
def Gw(K:Za):R2:=λx y H Q=>∃a b xs ys,x=.ref a/\y=.ref b/\SqT K H a xs/\SqT K H b ys/\xs≠[]/\xs.length+ys.length<=sizeLine /\
 (ys=[]->Q (.ref a) H)/\(ys≠[]->∀p,H p=none->Q (.ref p) (upd H p (.tup (xs++ys))))
theorem Vals.nil_iff{xs:List V}{us:Zd}(r:Vals xs us):us=[]↔xs=[]:=by
 cases r with
 |nil=>simp
 |cons _ _=>simp
theorem C9:OpR X (binaryOp .Add) (Gw X.K):=by
 intro pins s σ H x y v u Q I f g h;obtain⟨a,b,xs,ys,rfl,rfl,ha,hb,hx,hz,j,k⟩:=h;cases f;cases g;obtain⟨c_,d,p1,_⟩:=I.tuple ha;obtain⟨l,c,p2,_⟩:=I.tuple hb;refine HT.C3 p1 p2 (λz=>hx (d.nil_iff.mp z)) (λz=>⟨.ref a,H,I,rfl,j (c.nil_iff.mp z)⟩) (λz=>?_) (by rw[←d.length,←c.length];exact hz);refine⟨.ref s.heap.objs.size,_,I.laid (t':=s.toks) (o:=.tup (xs++ys)) (λb m q=>Yd _ q) (YH _) ?_,rfl,k (λw=>z (c.nil_iff.mpr w)) _ (I.hok.fresh (YH _))⟩;exact⟨by rw[ZM];exact hz,_,d.append c,IsTup.new _ _⟩
end
def ixN(n:Nat)(i:Int):Option Nat:=if 0<=i then(if i<n then some i.toNat else none) else if -(n:Int)<=i then some (i+n).toNat else none
def atI{a:Type}(xs:List a)(i:Int):Option a:=(ixN xs.length i).bind λj=>xs[j]?
theorem wW{n:Nat}{i:Int}{j:Nat}(h:ixN n i=some j):seqIndex? i n=some j/\j<n/\-(n:Int)<=i/\i<n:=by
 unfold ixN at h;by_cases b:0<=i
 ·rw[if_pos b] at h
  by_cases a:i<n
  ·rw[if_pos a] at h
   have e:i.toNat=j:=Yi h;exact⟨by rw[seqIndex_of b a,e],by omega,by omega,a⟩
  ·rw[if_neg a] at h;cases h
 ·rw[if_neg b] at h
  by_cases a:-(n:Int)<=i
  ·rw[if_pos a] at h
   have e:(i+n).toNat=j:=Yi h;exact⟨by rw[seqIndex_neg 'a' a,e],by omega,a,by omega⟩
  ·rw[if_neg a] at h;cases h
theorem rO{a:Type}{xs:List a}{i:Int}{v:a}(h:atI xs i=some v):∃j,seqIndex? i xs.length=some j/\xs[j]?=some v/\j<xs.length/\-(xs.length:Int)<=i/\i<xs.length:=by
 unfold atI at h;cases e:ixN xs.length i with
 |none=>rw[e] at h;cases h
 |some j=>
  rw[e] at h;obtain⟨b,h2,c,d⟩:=wW e;exact⟨j,b,h,h2,c,d⟩
theorem dk{a:Type}{xs:List a}{j:Nat}{v:a}(h:xs[j]?=some v):atI xs (j:Int)=some v:=by
 have b:j<xs.length:=(YE.mp h).1;have e:ixN xs.length (j:Int)=some j:=by
  unfold ixN;rw[if_pos 'a',if_pos 'a'];simp
 unfold atI;rw[e];exact h
def wX(b:Expr):Prop:=∀o i,subscripted b false o i=operate [o,i] (getItem o i)
def IxR(X:Cx)(r:R2):Prop:=
 ∀(b a:Expr) (pins:Zc) (s:Shared) (σ:St) (H:Hp) (x y:V) (v u:Value) (Q:VK),Inv X pins σ H s->RelV x v->RelV y u->r x y H Q ->
  subscripted a false v u=operate [v,u] (getItem v u)->wpAny 'c' X.A (subscriptTail b a v u) (EP X pins σ Q) X.xe s
def MtR(X:Cx)(id:String)(r:V->List V->Hp->VK->Prop):Prop:=
 ∀(pins:Zc) (s:Shared) (σ:St) (H:Hp) (x:V) (xs:List V) (v:Value) (us:Zd) (Q:VK),Inv X pins σ H s->RelV x v->Vals xs us->r x xs H Q ->
  wpAny 'c' X.A (call (.builtin id) (v::us)) (EP X pins σ Q) X.xe s
section
variable {X:Cx}{a b:Expr}{ta tb:TE}{pos:Pos}
theorem Gx{r:R2}(c:IxR X r)(ha:PE X a ta)(hb:PE X b tb)(d:wX b):PE X (.Subscript a b pos) (tOp r ta tb):=by
 intro pins s σ H Q I h;exact Subscript_ (binT ha hb I h λv u s2 x y f g j k q=>c a b pins s2 σ f x y v u Q g j k q (d _ _))
def rIxL(K:Za):R2:=λx y H Q=>∃p xs i v,x=.ref p/\y=.int i/\SqL K H p xs/\atI xs i=some v/\Q v H
def rIxT(K:Za):R2:=λx y H Q=>∃p xs i v,x=.ref p/\y=.int i/\SqT K H p xs/\atI xs i=some v/\Q v H
def rIxS:R2:=λx y H Q=>∃z i c,x=.str z/\y=.int i/\z.length<=sizeLine/\atI z.cps.toList i=some c/\Q (.str ⟨#[c]⟩) H
theorem wY:IxR X (rIxL X.K):=by
 intro d f pins s σ H x y v u Q I n o h k;obtain⟨p,xs,i,z,rfl,rfl,hq,A,q⟩:=h;cases n;obtain⟨t,rfl⟩:=o;obtain⟨c_,r,pl,hz⟩:=I.list hq;obtain⟨j,c,h2,L,B,C⟩:=rO A;obtain⟨w,l,G⟩:=r.get h2;have hl:=r.length;have hn:=jv;have fin:EP X pins σ Q w s:=⟨z,H,I,G,q⟩;by_cases m:0<=i
 ·have g:i.toNat=j:=by
   rw[seqIndex_of m C] at c;exact Yi c
  exact item_listR pl.isList m 'a' (by rw[g];simpa using l) fin k
 ·have g:(i+(c_.toArray.size:Int)).toNat=j:=by
   rw[seqIndex_neg 'a' B] at c;rw[YJ,←hl];exact Yi c
  exact subscriptTail_builtinR (x:=w) pl.isList.typeIs slot_list_getitem.lookup
   (wpAny_getItem_list_neg (Q:=λr J=>r=w/\EP X pins σ Q r J) pl.isList 'a' (by rw[YJ]<;>omega) 'a' (by rw[g];simpa using l) ⟨rfl,fin⟩) k
theorem E8:IxR X (rIxT X.K):=by
 intro c d pins s σ H x y v u Q I f g h k;obtain⟨p,xs,i,z,rfl,rfl,hq,l,q⟩:=h;cases f;obtain⟨t,rfl⟩:=g;obtain⟨c_,r,pl,hz⟩:=I.tuple hq;obtain⟨j,m,h2,B,C,G⟩:=rO l;obtain⟨w,n,o⟩:=r.get h2;have hl:=r.length;have hn:=jv;have fin:EP X pins σ Q w s:=⟨z,H,I,o,q⟩;exact subscriptTail_builtinR (x:=w) pl.typeIs slot_tuple_getitem.lookup
  (getItem_tuple (j:=j) (Q:=λr A=>r=w/\EP X pins σ Q r A) pl 'a' 'a' (by rw[YJ,←hl];exact m) (by simpa using n) ⟨rfl,fin⟩) k
theorem E9:IxR X rIxS:=by
 intro d f pins s σ H x y v u Q I k l h m;obtain⟨z,i,c,rfl,rfl,hz,n,q⟩:=h;obtain⟨t,rfl⟩:=k;obtain⟨t',rfl⟩:=l;obtain⟨j,g,h2,B,o,p⟩:=rO n;have hl:z.cps.toList.length=z.length:=by simp[Str.length]
 rw[hl] at g o p;have hn:=jv;exact tail_any (typeIs_str s z t) slot_str_getitem.lookup (getItem_str (c:=c) (by
  have r:decide (i < -(2 ^ 63:Int))=false:=ZS 'a';have A:decide (i>=2 ^ 63)=false:=ZS 'a';rw[r,A,Bool.or_false]) (by rw[g];simpa using h2) ⟨.str ⟨#[c]⟩,H,I.tok _,⟨_,rfl⟩,q⟩) m
theorem xU(c_:Zd)(n j:Nat)(u:Value):Obj.mapSeq (·.setIfInBounds j u) { cls:=.type "list",data:=.seq c_.toArray n }={ cls:=.type "list",data:=.seq (c_.set j u).toArray n }:=by
 simp[Obj.mapSeq]
theorem Inv.lst{pins:Zc}{σ:St}{H:Hp}{s:Shared}{p:Addr}{xs:List V}(I:Inv X pins σ H s)(h:H p=some (.lst xs)):
  ∃(c_:Zd) (n:Nat),Vals xs c_/\s.heap.get? p=some { cls:=.type "list",data:=.seq c_.toArray n }/\xs.length<=sizeLine:=by
 obtain⟨z,c_,n,r,e⟩:=I.hok p _ h;exact⟨c_,n,r,e,z⟩
theorem Inv.lstUpd{pins:Zc}{σ:St}{H:Hp}{s:Shared}{p:Addr}{xs ys:List V}{c_ p_:Zd}{n n':Nat}{f:Obj->Obj}(I:Inv X pins σ H s)(h:H p=some (.lst xs))
  (ho:s.heap.get? p=some { cls:=.type "list",data:=.seq c_.toArray n }) (hf:f { cls:=.type "list",data:=.seq c_.toArray n }={ cls:=.type "list",data:=.seq p_.toArray n' }) (r:Vals ys p_) (hz:ys.length<=sizeLine) (t:Nat):
  Inv X pins σ (upd H p (.lst ys)) { s with heap:=s.heap.update p f,toks:=t }:=by
 have e:(s.heap.update p f).get? p=some { cls:=.type "list",data:=.seq p_.toArray n' }:=by
  rw[Heap.get?_update_self f ho (by rw[hf]<;>rfl),hf]
 refine I.write (x:=p) (e:=p) (by rw[h];trivial) (.inl rfl) (λb u hb q=>(Heap.get?_update_other _ _ (Ne.symm hb)).trans q) ⟨_,e⟩ ?_;exact⟨hz,p_,n',r,e⟩
def Gy:V->V->V->Hp->(Hp->Prop)->Prop:=λo i v H Q=>∃p xs k j,o=.ref p/\i=.int k/\H p=some (.lst xs)/\ixN xs.length k=some j/\Q (upd H p (.lst (xs.set j v)))
theorem set_list:PSet X Gy:=by
 intro pins s σ H o i v B C u Q I m y z h;obtain⟨p,xs,k,j,rfl,rfl,hp,A,q⟩:=h;cases m;obtain⟨t,rfl⟩:=y;obtain⟨c_,n,r,ho,hz⟩:=I.lst hp;obtain⟨c,h2,d,f⟩:=wW A;have hl:=r.length;have hn:=jv;have g:Inv X pins σ (upd H p (.lst (xs.set j v))) { s with heap:=s.heap.update p (Obj.mapSeq (·.setIfInBounds j u)) }:=
  I.lstUpd hp ho (xU c_ n j u) (r.set z j) (by rw[List.length_set];exact hz) s.toks
 by_cases l:0<=k
 ·have hk:k.toNat=j:=by
   rw[seqIndex_of l f] at c;exact Yi c
  exact PySem.W.ki_setAt ho l 'a' (by rw[YJ,←hl];exact f) (by rw[hk];exact⟨_,g,q⟩)
 ·have hk:(k+(c_.toArray.size:Int)).toNat=j:=by
   rw[seqIndex_neg 'a' d] at c;rw[YJ,←hl];exact Yi c
  exact PySem.W.ki_setBack ho 'a' (by rw[YJ,←hl];exact d) 'a' (by rw[hk];exact⟨_,g,q⟩)
theorem uv(lo hi:Zq)(n:Nat):(sliceBounds lo hi none n).1=((HT.sIx n 0 lo:Nat):Int)/\(sliceBounds lo hi none n).2.1=((HT.sIx n n hi:Nat):Int)/\(sliceBounds lo hi none n).2.2=1:=by
 refine⟨?_,?_,rfl⟩
 ·cases lo with
  |none=>simp[sliceBounds,HT.sIx]
  |some i=>
   simp only[sliceBounds,HT.sIx,Option.getD_none,show(1:Int)>0 by decide,if_true];by_cases h:i<0
   ·simp only[h,if_true]<;>omega
   ·simp only[h,if_false]<;>omega
 ·cases hi with
  |none=>simp[sliceBounds,HT.sIx]
  |some i=>
   simp only[sliceBounds,HT.sIx,Option.getD_none,show(1:Int)>0 by decide,if_true];by_cases h:i<0
   ·simp only[h,if_true]<;>omega
   ·simp only[h,if_false]<;>omega
theorem tG(c_:Zd)(lo hi:Zq):slicePick c_.toArray lo hi none=((c_.drop (HT.sIx c_.length 0 lo)).take (HT.sIx c_.length c_.length hi-HT.sIx c_.length 0 lo)).toArray:=by
 obtain⟨c,h2,d⟩:=uv lo hi c_.toArray.size;unfold slicePick;rw[c,h2,d];simp only[sliceRange_one,pick_run,YJ]<;>rfl
def rSlL(K:Za):V->Option Int->Option Int->Hp->VK->Prop:=λx lo hi H Q=>∃a xs,x=.ref a/\SqL K H a xs/\∀p,H p=none->Q (.ref p) (upd H p (.lst (cutV xs lo hi)))
theorem Da:SlR X (rSlL X.K):=by
 intro pins s σ H x v j k lo hi sl Q I c d pl f h;obtain⟨a,xs,rfl,hx,q⟩:=h;cases c;obtain⟨c_,r,ht,hz⟩:=I.list hx;have g:=r.length;refine⟨"list",_,slot_list_getitem.lookup,ht.isList.typeIs,?_⟩;refine wpAny_getItem_list_slice ht.isList d pl f .none (by simp) ?_ (by rw[YJ]<;>omega);rw[tG,←g];refine⟨.ref s.heap.objs.size,_,I.laid (t':=s.toks) (o:=.lst (cutV xs lo hi)) (λb l q=>Yd _ q) (YH _) ?_,rfl,q _ (I.hok.fresh (YH _))⟩;exact⟨ZZ (oO xs lo hi) hz,_,0,(r.drop (HT.sIx xs.length 0 lo)).take (HT.sIx xs.length xs.length hi-HT.sIx xs.length 0 lo),Yg _ rfl⟩
def xV:V->Bool
 |.non=>true
 |.bl _=>true
 |.int _=>true
 |.str _=>true
 |_=>false
def eqV:V->V->Bool
 |.non,.non=>true
 |.bl a,.bl b=>a==b
 |.bl a,.int b=>(if a then 1 else 0)==b
 |.int a,.bl b=>a==(if b then 1 else 0)
 |.int a,.int b=>a==b
 |.str a,.str b=>a==b
 |_,_=>false
theorem y9{A:Around}{s:Shared}{y x:V}{u v:Value}(d:RelV y u)(c:RelV x v)(g:xV y=true)(f:xV x=true):SeqAt.EqAt A s u v (eqV y x):=by
 cases y with
 |non=>
  cases d;cases x with
  |non=>cases c;exact SeqAt.EqAt.same _
  |bl b=>cases c;exact SeqAt.EqAt.none_bool b
  |int b=>obtain⟨t,rfl⟩:=c;exact SeqAt.EqAt.none_int b t
  |str b=>obtain⟨t,rfl⟩:=c;exact SeqAt.EqAt.none_str b t
  |_=>exact absurd (show false=true from f) YG
 |bl a=>
  cases d;cases x with
  |non=>cases c;exact SeqAt.EqAt.bool_none a
  |bl b=>cases c;exact SeqAt.EqAt.bool_bool a b
  |int b=>obtain⟨t,rfl⟩:=c;exact SeqAt.EqAt.bool_int a b t
  |str b=>obtain⟨t,rfl⟩:=c;exact SeqAt.EqAt.bool_str a b t
  |_=>exact absurd (show false=true from f) YG
 |int a=>
  obtain⟨t',rfl⟩:=d;cases x with
  |non=>cases c;exact SeqAt.EqAt.int_none a t'
  |bl b=>cases c;exact SeqAt.EqAt.int_bool a t' b
  |int b=>obtain⟨t,rfl⟩:=c;exact SeqAt.EqAt.int_int a t' b t
  |str b=>obtain⟨t,rfl⟩:=c;exact SeqAt.EqAt.int_str a t' b t
  |_=>exact absurd (show false=true from f) YG
 |str a=>
  obtain⟨t',rfl⟩:=d;cases x with
  |non=>cases c;exact SeqAt.EqAt.str_none a t'
  |bl b=>cases c;exact SeqAt.EqAt.str_bool a t' b
  |int b=>obtain⟨t,rfl⟩:=c;exact SeqAt.EqAt.str_int a t' b t
  |str b=>obtain⟨t,rfl⟩:=c;exact SeqAt.EqAt.str_str a t' b t
  |_=>exact absurd (show false=true from f) YG
 |_=>exact absurd (show false=true from g) YG
theorem jx:dU X (.builtin "len") (λxs H Q=>∃p ys,xs=[.ref p]/\(SqL X.K H p ys\/SqT X.K H p ys)/\Q (.int ys.length) H):=by
 intro pins s σ H xs us Q I r h;obtain⟨p,ys,rfl,hq,q⟩:=h;obtain⟨u,rfl,f⟩:=vals1 r;cases f;have hn:=jv;rcases hq with hq | hq
 ·obtain⟨c_,c,pl,hz⟩:=I.list hq
  have d:=c.length;exact Calls.call_len_list pl.isList (by simp only[YJ]<;>omega) ⟨.int ys.length,H,I.tok _,⟨s.toks+1,by rw[YJ,d]⟩,q⟩
 ·obtain⟨c_,c,pl,hz⟩:=I.tuple hq
  have d:=c.length;exact len_tuple pl (by simp only[YJ]<;>omega) ⟨.int ys.length,H,I.tok _,⟨s.toks+1,by rw[YJ,d]⟩,q⟩
theorem uw:dU X (.builtin "len") (λxs H Q=>∃z,xs=[.str z]/\z.length<=sizeLine/\Q (.int z.length) H):=by
 intro pins s σ H xs us Q I r h;obtain⟨z,rfl,hz,q⟩:=h;obtain⟨u,rfl,t,rfl⟩:=vals1 r;have hn:=jv;exact len_str 'a' ⟨.int z.length,H,I.tok _,⟨_,rfl⟩,q⟩
theorem m8:dU X (.type "list") (λxs H Q=>∃p ys,xs=[.ref p]/\(SqL X.K H p ys\/SqT X.K H p ys)/\∀l,H l=none->Q (.ref l) (upd H l (.lst ys))):=by
 intro pins s σ H xs us Q I r h;obtain⟨p,ys,rfl,hq,q⟩:=h;obtain⟨u,rfl,d⟩:=vals1 r;cases d;have fin:∀(c_:Zd),Vals ys c_->ys.length<=sizeLine->∀(h':Heap) (c':Nat),(∀b o',s.heap.get? b=some o'->h'.get? b=some o') ->
   h'.get? s.heap.objs.size=some { cls:=.type "list",dict:=none,data:=.seq c_.toArray c',slots:=#[] }->EP X pins σ Q (.ref s.heap.objs.size) { s with heap:=h' }:=λc_ c hz h' c' kp e=>
  ⟨.ref s.heap.objs.size,_,I.laid (t':=s.toks) kp (YH _) (show aN X.prog X.w _ h' _ (.lst ys) from⟨hz,c_,c',c,e⟩),rfl,q _ (I.hok.fresh (YH _))⟩
 rcases hq with hq | hq
 ·obtain⟨c_,c,pl,hz⟩:=I.list hq
  have f:=c.length;obtain⟨o,ho,hc,n,hd⟩:=pl.isList;exact call_list_seq p (.inl rfl) ho hc hd (λh' c' kp e=>fin c_ c hz h' c' kp e) (by simp only[YJ]<;>omega)
 ·obtain⟨c_,c,pl,hz⟩:=I.tuple hq
  have f:=c.length;obtain⟨o,ho,hc,n,hd⟩:=pl;exact call_list_seq p (.inr rfl) ho hc hd (λh' c' kp e=>fin c_ c hz h' c' kp e) (by simp only[YJ]<;>omega)
theorem mC:dU X (.type "tuple") (λxs H Q=>∃p ys,xs=[.ref p]/\((SqL X.K H p ys/\∀l,H l=none->Q (.ref l) (upd H l (.tup ys)))\/(SqT X.K H p ys/\Q (.ref p) H))):=by
 intro pins s σ H xs us Q I r h;obtain⟨p,ys,rfl,h⟩:=h;obtain⟨u,rfl,f⟩:=vals1 r;cases f;rcases h with⟨hq,q⟩ | ⟨hq,q⟩
 ·obtain⟨c_,c,pl,hz⟩:=I.list hq
  have j:=c.length;refine call_tuple_list pl.isList (λh' kp=>?_) (by simp only[YJ]<;>omega);have d:Inv X pins σ H { s with heap:=h' }:=I.kept (t':=s.toks) kp;have g:Inv X pins σ (upd H h'.objs.size (.tup ys)) { s with heap:=h'.push { cls:=.type "tuple",data:=.seq c_.toArray } }:=
   d.laid (t':=s.toks) (λb o e=>Yd _ e) (YH _) (show aN X.prog X.w _ _ _ (.tup ys) from⟨hz,c_,c,IsTup.new _ _⟩)
  exact⟨.ref h'.objs.size,_,g,rfl,q _ (d.hok.fresh (YH _))⟩
 ·obtain⟨c_,c,pl,hz⟩:=I.tuple hq
  exact call_tuple_same pl ⟨.ref p,H,I,rfl,q⟩
def tyV(K:Za)(T:String)(x:V)(H:Hp):Prop:=match x with
 |.str _=>T = "str"
 |.int _=>T = "int"
 |.ref p=>(T = "list"/\∃xs,SqL K H p xs)\/(T = "tuple"/\∃o,K.lookup p=some o/\o.cls=.type "tuple"/\o.dict=none) \/
   (T = "dict"/\((∃c,H p=some (.dK c)) \/ ∃c,H p=some (.dT c)))\/(T = "set"/\∃S n,H p=some (.set S n))
 |_=>False
theorem za{pins:Zc}{σ:St}{H:Hp}{s:Shared}{T:String}{x:V}{v:Value}(I:Inv X pins σ H s)(r:RelV x v)(ty:tyV X.K T x H):
  s.TypeIs v T/\∀a,v=.ref a->∃f,s.heap.get? a=some f/\f.dict=none:=by
 cases x with
 |str z=>
  obtain⟨t,rfl⟩:=r;cases(show T = "str" from ty);exact⟨typeIs_str s z t,λ_ e=>nomatch e⟩
 |int i=>
  obtain⟨t,rfl⟩:=r;cases(show T = "int" from ty);exact⟨typeIs_int s i t,λ_ e=>nomatch e⟩
 |ref p=>
  cases r;rcases ty with⟨rfl,xs,hq⟩ | ⟨rfl,o,hk,hc,hd⟩ | ⟨rfl,hk⟩ | ⟨rfl,S,n,hk⟩
  ·obtain⟨c_,_,pl,_⟩:=I.list hq
   refine⟨pl.isList.typeIs,λa e=>?_⟩;cases e;obtain⟨o,n,e,c,hd,_⟩:=pl;exact⟨o,e,hd⟩
  ·refine⟨⟨o,I.kIn p o hk,hc⟩,λa e=>?_⟩
   cases e;exact⟨o,I.kIn _ o hk,hd⟩
  ·have z:∃o,s.heap.get? p=some o/\o.ExactDict:=by
    rcases hk with⟨g,hk⟩ | ⟨g,hk⟩
    ·obtain⟨_,_,_,_,o,_,_,e,ex,_⟩:=I.hok p _ hk
     exact⟨o,e,ex⟩
    ·obtain⟨_,_,_,_,o,_,_,e,ex,_⟩:=I.hok p _ hk
     exact⟨o,e,ex⟩
   obtain⟨o,e,ex⟩:=z;refine⟨⟨o,e,ex.1⟩,λa d=>?_⟩;cases d;exact⟨o,e,ex.2.1⟩
  ·obtain⟨o,_,_,_,e,ex,_⟩:=I.hok p _ hk
   refine⟨⟨o,e,ex.1⟩,λa d=>?_⟩;cases d;exact⟨o,e,ex.2.1⟩
 |_=>exact Yh ty
def tBM0(K:Za)(T:String)(r:V->List V->Hp->VK->Prop)(d:TE):TE:=λσ H Q=>d σ H λx c=>tyV K T x c/\r x [] c Q
def tBM(K:Za)(T:String)(r:V->List V->Hp->VK->Prop)(d:TE)(t:TA):TE:=λσ H Q=>d σ H λx c=>tyV K T x c/\t σ c λxs f=>r x xs f Q
variable {o e:Expr}{es:Zg}{to:TE}{t:TA}{name:Str}{s_ GH:Pos}{T id:String}{r:V->List V->Hp->VK->Prop}
theorem Fa(f:PlainAttrs T)(slot:Slot T name id)(g:typeOf (.builtin id)=pure (.type "method_descriptor"))(hm:MtR X id r)(ho:PE X o to)
  (j:attributeBase o name X.env (eval o X.env)=eval o X.env:=by rfl) (k:(s_.endLine==GH.line)=true:=by rfl):PE X (.Call (.Attribute o name s_) [] [] GH) (tBM0 X.K T r to):=by
 intro pins s σ H Q I h;refine wpAny_Call_method0_late j k (thn (ho pins s σ H _ I h) λv s1 l=>?_);obtain⟨x,m,c,d,ty,n⟩:=l;obtain⟨p,h2⟩:=za c d ty;exact⟨T,id,f,slot,g,p,h2,Calls.callWith_builtin rfl (PySem.evalArgs_none (hm pins s1 σ m x [] v [] Q c d .nil n))⟩
theorem Gz(g:PlainAttrs T)(slot:Slot T name id)(j:typeOf (.builtin id)=pure (.type "method_descriptor"))(hm:MtR X id r)(ho:PE X o to)(ha:PA X (e::es) t)
  (k:attributeBase o name X.env (eval o X.env)=eval o X.env:=by rfl)
  (l:((backTo GH (starEach (e::es) X.env)).all (λx=>!x.1)&&(backToKw GH (keywordEach [] X.env)).all (λx=>x.1.isSome)
   && decide ((e::es).length+([]:List Keyword).length+(if([]:List Keyword).isEmpty then 0 else 1)<30))=true:=by rfl)
  (m:(s_.endLine==GH.line)=true:=by rfl) (n:starEach (e::es) X.env=(false,eval e X.env)::starEach es X.env:=by rfl) (p:(backTo GH (starEach es X.env)).any (·.1)=false:=by rfl):
  PE X (.Call (.Attribute o name s_) (e::es) [] GH) (tBM X.K T r to t):=by
 intro pins s σ H Q I h;refine wpAny_Call_method_late k l m rfl (thn (ho pins s σ H _ I h) λv s1 u=>?_);obtain⟨x,y,c,d,ty,z⟩:=u;obtain⟨A,h2⟩:=za c d ty;refine⟨T,id,g,slot,j,A,h2,?_⟩;have f:=ha GH pins s1 σ y _ c z;rw[n] at f ⊢;refine Calls.callWith_builtin (by show(false||(backTo GH (starEach es X.env)).any (·.1))=false;rw[p]<;>rfl) (Calls.evalArgs_plain ?_);refine thn f λus s2 B=>?_
 obtain⟨vs,C,G,J,L⟩:=B;exact hm pins s2 σ C x vs v us Q G d J L
end
def MtM(X:Cx)(id:String)(r:V->List V->Hp->VK->Prop):Prop:=
 ∀(pins:Zc) (s:Shared) (σ:St) (H:Hp) (x:V) (xs:List V) (v:Value) (us:Zd) (Q:VK),Inv X pins σ H s->RelV x v->Vals xs us->r x xs H Q ->
  wpAny 'c' X.A (call (.builtin id) (v::us)) (EP X pins σ Q) X.xe s
theorem Vals.one{x:V}{us:Zd}(h:Vals [x] us):∃u,us=[u]/\RelV x u:=by
 cases h with
 |cons r t=>cases t;exact⟨_,rfl,r⟩
theorem Vals.two{x y:V}{us:Zd}(h:Vals [x,y] us):∃u v,us=[u,v]/\RelV x u/\RelV y v:=by
 cases h with
 |cons r t=>
  obtain⟨v,rfl,q⟩:=Vals.one t;exact⟨_,v,rfl,r,q⟩
theorem Vals.zero:∀{us:Zd},Vals [] us->us=[]
 |_,.nil=>rfl
theorem Vals.dropLast{xs:List V}{us:Zd}(h:Vals xs us):Vals xs.dropLast us.dropLast:=by
 induction h with
 |nil=>exact .nil
 |cons r t a=>
  cases t with
  |nil=>exact .nil
  |cons q t'=>exact .cons r a
theorem Vals.eraseIdx:∀{xs:List V}{us:Zd}(i:Nat),Vals xs us->Vals (xs.eraseIdx i) (us.eraseIdx i)
 |_,_,_,.nil=>.nil
 |_,_,0,.cons _ t=>t
 |_,_,i+1,.cons r t=>.cons r (Vals.eraseIdx i t)
theorem Vals.rep{xs:List V}{us:Zd}(h:Vals xs us):∀k:Nat,Vals (List.replicate k xs).flatten (List.replicate k us).flatten
 |0=>.nil
 |k+1=>by
  rw[XC,XC,XD,XD];exact Vals.append h (Vals.rep h k)
theorem xX{c:Type}(l:List c):l.eraseIdx (l.length-1)=l.dropLast:=by
 induction l with
 |nil=>rfl
 |cons a r d=>
  cases r with
  |nil=>rfl
  |cons b r=>
   have e:(a::b::r).length-1=((b::r).length-1)+1:=by
    have f:(a::b::r).length=r.length+2:=rfl;have h2:(b::r).length=r.length+1:=rfl;omega
   rw[e,List.eraseIdx_cons_succ,d];all_goals rfl
theorem sC{a:Type}:∀(l:List a) (i:Nat),(l.eraseIdx i).length<=l.length
 |[],_=>YH _
 |_::_,0=>YQ _
 |_::r,i+1=>Nat.succ_le_succ (sC r i)
theorem foldl_rep(c_:Zd):∀(k:Nat) (h_:Zd),
  List.foldl (λa b=>a++b) h_.toArray (List.replicate k c_.toArray)=(h_++(List.replicate k c_).flatten).toArray
 |0,h_=>by simp
 |k+1,h_=>by
  have e:h_.toArray++c_.toArray=(h_++c_).toArray:=by simp
  have c:(h_++c_)++(List.replicate k c_).flatten=h_++(List.replicate (k+1) c_).flatten:=by
   rw[XC,XD,ZC]
  rw[←c,←foldl_rep c_ k (h_++c_),←e,XC,List.foldl_cons]
section
variable {X:Cx}{pins:Zc}{σ:St}{H:Hp}{s:Shared}{l b:Addr}{xs ys zs:List V}
theorem Inv.lset{c_ p_:Zd}{n:Nat}{f:Array Value->Array Value}{t':Nat}(I:Inv X pins σ H s)(a:H l=some (.lst xs))
  (e:s.heap.get? l=some { cls:=.type "list",data:=.seq c_.toArray n }) (hf:f c_.toArray=p_.toArray) (hv:Vals ys p_) (hz:ys.length<=sizeLine):
  Inv X pins σ (upd H l (.lst ys)) { s with heap:=s.heap.update l (Obj.mapSeq f),toks:=t' }:=by
 have q:=PySem.IsL.update e f;rw[hf] at q;refine I.write (x:=l) (e:=l) (by rw[a];exact trivial) (.inl rfl) (λb' u hb hu=>(Heap.get?_update_other s.heap (Obj.mapSeq f) (Ne.symm hb)).trans hu) ⟨_,q⟩ ?_;exact⟨hz,p_,_,hv,q⟩
theorem Inv.lnew{c_:Zd}{t':Nat}(I:Inv X pins σ H s)(hv:Vals ys c_)(hz:ys.length<=sizeLine):
  Inv X pins σ (upd H s.heap.objs.size (.lst ys)) { s with heap:=s.heap.push { cls:=.type "list",data:=.seq c_.toArray },toks:=t' }:=
 I.laid (λ_ _ q=>Yd _ q) (YH _) ⟨hz,c_,0,hv,Yg _ rfl⟩
theorem Inv.fresh(I:Inv X pins σ H s):H s.heap.objs.size=none:=I.hok.fresh (YH _)
theorem Inv.lstM(I:Inv X pins σ H s)(a:H l=some (.lst xs)):xs.length<=sizeLine/\∃(c_:Zd) (n:Nat),Vals xs c_/\xs.length=c_.length/\s.heap.get? l=some { cls:=.type "list",data:=.seq c_.toArray n }:=by
 obtain⟨z,c_,n,r,e⟩:=I.hok l _ a;exact⟨z,c_,n,r,r.length,e⟩
theorem lF{n:Nat}(h:n<=sizeLine):Builtin.List.listTooLong n=false:=by
 unfold Builtin.List.listTooLong;exact ZS 'a'
end
section
variable {X:Cx}
def Db:V->List V->Hp->VK->Prop:=λx vs H Q=>∃l xs y,x=.ref l/\vs=[y]/\H l=some (.lst xs)/\xs.length<sizeLine/\Q .non (upd H l (.lst (xs++[y])))
theorem zb:MtM X "list.append" Db:=by
 intro pins s σ H x vs v us Q I b c h;obtain⟨l,xs,y,rfl,rfl,a,hz,q⟩:=h;cases b;obtain⟨u,rfl,d⟩:=c.one;obtain⟨z,c_,n,r,hl,e⟩:=I.lstM a;refine call_meets F.slot_list_append ⟨_,e,rfl⟩ F.entry_list_append (F.args_list_append_2 _ _) (PySem.list_append l c_.toArray n u (by rw[YJ];omega)) ⟨e,?_⟩;refine⟨.non,_,I.lset (p_:=c_++[u]) a e (by simp) (r.append (.cons d .nil)) ?_,rfl,q⟩;rw[ZM,List.length_singleton];omega
def Dc:V->List V->Hp->VK->Prop:=λx vs H Q=>∃l b xs a,x=.ref l/\vs=[.ref b]/\H l=some (.lst xs)/\H b=some (.lst a)/\xs.length+a.length<=sizeLine/\Q .non (upd H l (.lst (xs++a)))
theorem zc:MtM X "list.extend" Dc:=by
 intro pins s σ H x vs v us Q I d f h;obtain⟨l,b,xs,y,rfl,rfl,c,g,hz,q⟩:=h;cases d;obtain⟨u,rfl,j⟩:=f.one;cases j;obtain⟨z,c_,n,r,hl,e⟩:=I.lstM c;obtain⟨A,a,k,m,B,o⟩:=I.lstM g;have hsz:c_.toArray.size+a.toArray.size<=sizeLine:=by rw[YJ,YJ];omega
 have p:¬(!c_.toArray.isEmpty&&Builtin.List.listTooLong (c_.toArray.size+a.toArray.size))=true:=by
  rw[lF hsz,Bool.and_false];exact YG
 refine call_meets F.slot_list_extend ⟨_,e,rfl⟩ F.entry_list_extend (F.args_list_extend_2 _ _)
  (AutoSeq1.list_extend_list_list_0 l c_.toArray n b a.toArray k p (by rw[YJ];omega) 'a') ⟨e,o,?_⟩
 refine⟨.non,_,I.lset (p_:=c_++a) c e (by simp) (r.append m) ?_,rfl,q⟩;rw[ZM];omega
def rPop:V->List V->Hp->VK->Prop:=λx vs H Q=>∃l xs y,x=.ref l/\vs=[]/\H l=some (.lst xs)/\xs[xs.length-1]?=some y/\Q y (upd H l (.lst xs.dropLast))
theorem Fb:MtM X "list.pop" rPop:=by
 intro pins s σ H x vs v us Q I b c h;obtain⟨l,xs,y,rfl,rfl,a,hy,q⟩:=h;cases b;have d:=c.zero;subst d;obtain⟨z,c_,n,r,hl,e⟩:=I.lstM a;obtain⟨u,hu,f⟩:=r.get hy;have g:c_.toArray[c_.toArray.size-1]?=some u:=by
  show c_.toArray[c_.length-1]?=some u;rw[←XE,←hl];exact hu
 refine call_meets F.slot_list_pop ⟨_,e,rfl⟩ F.entry_list_pop (F.args_list_pop_1 _) (MeetsSeq.list_pop_last l c_.toArray n u g (by rw[YJ];omega)) ⟨e,?_⟩;refine⟨y,_,I.lset (p_:=c_.dropLast) a e ?_ r.dropLast ?_,f,q⟩
 ·show c_.toArray.eraseIdxIfInBounds (c_.toArray.size-1)=c_.dropLast.toArray
  rw[YJ,List.eraseIdxIfInBounds_toArray,xX]
 ·rw[List.length_dropLast]
  omega
def Fc:V->List V->Hp->VK->Prop:=λx vs H Q=>∃l xs i k y,x=.ref l/\vs=[.int i]/\H l=some (.lst xs)/\-(2 ^ 63)<=i/\i<2 ^ 63/\seqIndex? i xs.length=some k/\xs[k]?=some y/\Q y (upd H l (.lst (xs.eraseIdx k)))
theorem AW:MtM X "list.pop" Fc:=by
 intro pins s σ H x vs v us Q I b c h;obtain⟨l,xs,i,k,y,rfl,rfl,a,d,h2,hk,hy,q⟩:=h;cases b;obtain⟨u,rfl,f⟩:=c.one;obtain⟨t,rfl⟩:=f;obtain⟨z,c_,n,r,hl,e⟩:=I.lstM a;obtain⟨w,hw,g⟩:=r.get hy;refine call_meets F.slot_list_pop ⟨_,e,rfl⟩ F.entry_list_pop (F.args_list_pop_2 _ _)
  (MeetsSeq.list_pop_at l c_.toArray n i t k w (fitsIndex_both d h2) (by rw[YJ,←hl];exact hk) (by rw[←XE];exact hw) (by rw[YJ];omega)) ⟨e,?_⟩
 refine⟨y,_,I.lset (p_:=c_.eraseIdx k) a e ?_ (r.eraseIdx k) ?_,g,q⟩
 ·show c_.toArray.eraseIdxIfInBounds k=(c_.eraseIdx k).toArray
  rw[List.eraseIdxIfInBounds_toArray]
 ·have:=sC xs k
  omega
def Fd:V->List V->Hp->VK->Prop:=λx vs H Q=>∃l xs,x=.ref l/\vs=[]/\H l=some (.lst xs)/\Q .non (upd H l (.lst []))
theorem AX:MtM X "list.clear" Fd:=by
 intro pins s σ H x vs v us Q I b c h;obtain⟨l,xs,rfl,rfl,a,q⟩:=h;cases b;have d:=c.zero;subst d;obtain⟨z,c_,n,r,hl,e⟩:=I.lstM a;refine call_meets F.slot_list_clear ⟨_,e,rfl⟩ F.entry_list_clear (F.args_list_clear_1 _) (AutoSeq1.list_clear_list_0 l c_.toArray n (by rw[YJ];omega)) ⟨e,?_⟩;exact⟨.non,_,I.lset (p_:=[]) (ys:=[]) a e rfl .nil (YO _),rfl,q⟩
def rCat:R2:=λx y H Q=>∃l b xs a,x=.ref l/\y=.ref b/\H l=some (.lst xs)/\H b=some (.lst a)/\xs.length+a.length<=sizeLine/\∀p,H p=none->Q (.ref p) (upd H p (.lst (xs++a)))
theorem Fe:OpR X (binaryOp .Add) rCat:=by
 intro pins s σ H x y v u Q I c d h;obtain⟨l,b,xs,o,rfl,rfl,f,g,hz,q⟩:=h;cases c;cases d;obtain⟨z,c_,n,r,hl,e⟩:=I.lstM f;obtain⟨p,a,A,j,B,k⟩:=I.lstM g;refine PySem.P.add_list e k ?_ (by rw[YJ,YJ];omega);have m:c_.toArray++a.toArray=(c_++a).toArray:=by simp
 rw[m];exact⟨.ref _,_,I.lnew (t':=s.toks) (r.append j) (by rw[ZM];omega),rfl,q _ I.fresh⟩
def rRep:R2:=λx y H Q=>∃l k xs,x=.ref l/\y=.int k/\H l=some (.lst xs)/\-(2 ^ 63)<=k/\k<2 ^ 63/\xs.length*k.toNat<=sizeLine /\
 ∀p,H p=none->Q (.ref p) (upd H p (.lst (List.replicate k.toNat xs).flatten))
theorem len_rep{a:Type}(xs:List a)(k:Nat):(List.replicate k xs).flatten.length=k*xs.length:=by
 induction k with
 |zero=>simp
 |succ k b=>rw[XC,XD,ZM,b,Nat.succ_mul,Nat.add_comm]
theorem Ff:OpR X (binaryOp .Mult) rRep:=by
 intro pins s σ H x y v u Q I d f h;obtain⟨l,k,xs,rfl,rfl,g,j,h2,hz,q⟩:=h;cases d;obtain⟨t,rfl⟩:=f;obtain⟨z,c_,n,r,hl,e⟩:=I.lstM g;have o:c_.toArray.size*k.toNat<=sizeLine:=by rw[YJ,←hl];exact hz
 have p:¬c_.toArray.size*k.toNat>(2 ^ 63-1) / 8:=by
  have:(sizeLine:Nat)<=(2 ^ 63-1) / 8:=by decide
  omega
 have A:¬(!Builtin.List.listFitsIndex k)=true:=by
  rw[fitsIndex_both j h2];exact YG
 have B:¬Builtin.List.listTooLong (c_.toArray.size*k.toNat)=true:=by
  rw[lF o];exact YG
 have C:List.foldl (λb c=>b++c) #[] (List.replicate (if c_.toArray.isEmpty=true then 0 else k.toNat) c_.toArray)=(List.replicate k.toNat c_).flatten.toArray:=by
  have G:∀m:Nat,List.foldl (λb c=>b++c) #[] (List.replicate m c_.toArray)=(List.replicate m c_).flatten.toArray:=λm=>by
   have:=foldl_rep c_ m []
   rw[XF] at this;exact this
  rw[G];cases c_ with
  |nil=>simp
  |cons a K=>rw[if_neg (by simp)]
 refine wpAny_binaryOp_repeat_ref (T:="list") (U:="int") 'b' ⟨_,e,rfl⟩ (λJ=>typeIs_int J k t) noFill_list_mul F.fills_int_mul F.slot_int_rmul repeat_list F.slot_int_index.lookup
  (call_meets F.slot_int_rmul (typeIs_int s k t) F.entry_int_rmul (F.args_int_rmul_2 _ _) (int___rmul___int_list k t l c_.toArray n)
   ⟨e,rfl,⟨_,e,rfl⟩,call_meets F.slot_list_mul ⟨_,e,rfl⟩ F.entry_list_mul (F.args_list_mul_2 _ _) (AutoListH.list___mul___list_int_3 l c_.toArray n k t A p B) ⟨e,?_⟩⟩)
 rw[C];exact⟨.ref _,_,I.lnew (t':=s.toks) (r.rep k.toNat) (by rw[len_rep,Nat.mul_comm];exact hz),rfl,q _ I.fresh⟩
end
section
variable {prog:Zw}{w:World}{A:Around}{E:Zb}{s:Shared}
theorem xY{a c n:Nat}(d:a<=c)(hc:c<=n):sliceBounds (some (a:Int)) (some (c:Int)) none n=((a:Int),(c:Int),1):=by
 simp only[sliceBounds,Option.getD_none];have b:¬((a:Int)<0):=by omega
 have h2:¬((c:Int)<0):=by omega
 simp only[b,h2,if_false,show(1:Int)>0 by decide,if_true];congr 1
 ·omega
 ·congr 1;omega
/-- list.__setitem__ with a slice of step one and another list -/
theorem Em {l b sl:Addr} {b_ new:Zl} {n r:Nat} {f g:Value} {a c:Nat} {Q:Zo}
    (e:s.heap.get? l = some { cls:=.type "list",data:=.seq b_ n }) (o:s.heap.get? b = some { cls:=.type "list",data:=.seq new r }) (u:l ≠ b)
    (y:s.heap.IsSliceOf sl f g .none) (pl:IsPart f (some (a:Int))) (z:IsPart g (some (c:Int))) (B:a<=c) (hc:c<=b_.size)
    (hsz:b_.size + new.size<=sizeLine) (h:Q () { s with heap:=s.heap.update l (Obj.mapSeq λxs=>xs.extract 0 a ++ new ++ xs.extract c xs.size) }) :
    wpAny 'e' A (setItem (.ref l) (.ref sl) (.ref b)) Q E s:=by
  have hl:s.heap.IsList l b_:=PySem.IsL.isList e
  have hb:s.heap.IsList b new:=PySem.IsL.isList o
  obtain ⟨os,d,C,j⟩:=id y
  have p:s.TypeIs (.ref sl) "slice":=⟨os,d,C⟩
  have G:¬ ((rawPart none == rawInt 0) = true):=YG
  have k:Builtin.List.listSameRef (.ref l) (.ref b) = false:=by
    unfold Builtin.List.listSameRef
    exact ZT.mpr u
  have J:(max (a:Int) (c:Int)).toNat = c:=by omega
  have K:((λxs:Array Value=>xs.extract 0 a ++ new ++ xs.extract c xs.size) b_).size<=sizeLine + 1:=by
    simp only [Array.size_append,Array.size_extract]
    omega
  unfold setItem
  try with_reducible refine Yj ?_
  first | refine Yb (Yc ?_) | skip
  refine Yb (wpAny_sequenceKey hl.typeIs 'b' ?_)
  refine Yb (wpAny_callSpecial?_slot (name:=Str.ofString "__setitem__") hl.typeIs slot_list_setitem
    (wpAny_call_entry slot_list_setitem hl.typeIs entry_list_setitem ?_ (args_list_setitem _ _ _)))
  show wpAny _ _ (Builtin.List.listSubscript? (.ref sl) >>= _) _ _ s
  refine Yb ?_
  unfold Builtin.List.listSubscript?
  refine Yb (wpAny_specialOf p slice_no_index ?_)
  simp only [Option.isNone_none,if_true]
  refine Yc ?_
  show wpAny _ _ (typeOf (.ref sl) >>= _) _ _ s
  refine Yb (wpAny_typeOf p ?_)
  first
    | rw [if_neg 'b']
    | refine PySem.W.KFB.if_not 'b' ?_
  rw [listSliceParts_eq]
  refine Yb (Yb (wpAny_field d j (x:=.none) rfl (Yb (wpAny_listPart .none ?_))))
  rw [if_neg G]
  refine Yb (wpAny_field d j (x:=f) rfl (Yb (wpAny_listPart pl ?_)))
  refine Yb (wpAny_field d j (x:=g) rfl (Yb (wpAny_listPart z (Yc ?_))))
  first
    | simp only [k,XG,if_false]
    | refine PySem.W.KFB.if_not k ?_
    | (dsimp only
       rw [if_neg (by rw [k]; exact YG)])
  refine Yb (m:=Builtin.List.listAllItems (.ref b) "must assign iterable to extended slice") ?_
  unfold Builtin.List.listAllItems
  refine Yb (wpAny_typeOf hb.typeIs ?_)
  first
    | refine PySem.W.KFB.if_so 'b' ?_
    | rw [if_pos 'b']
    | simp only [XH,Bool.true_or,if_true]
  unfold Builtin.List.listItems
  refine Yb (wpAny_seqItems o rfl (Yc ?_))
  refine Yb (Yb (wpAny_seqItems e rfl (Yc ?_)))
  refine Yb (wpAny_of_eq ((sliceIndices_raw (some (a:Int)) (some (c:Int)) none b_.size (by simp)).trans (congrArg (pure:Int × Int × Int->Sem (Int × Int × Int)) (xY B hc))) ?_)
  show wpAny _ _ (if ((1:Int) == 1) = true then _ else _) _ _ s
  rw [if_pos 'b']
  refine Yb (wpAny_rule ?_)
  first
    | simp only [lF hsz,XG,if_false]
    | refine PySem.W.KFB.if_not (lF hsz) ?_
  first | refine Yb (Yc ?_) | skip
  show wpAny _ _ (updateSeq l (λxs=>xs.extract 0 ((a:Int)).toNat ++ new ++ xs.extract (max (a:Int) (c:Int)).toNat xs.size) >>= _) _ _ s
  rw [J,YY]
  refine Yb (wpAny_updateSeq (hz:=ZZ (Nat.le_add_right _ _) hsz) (_hz':=K) e rfl ?_)
  refine Yb (wpAny_letGo ?_)
  first
    | exact Yb (Yc (Yc ⟨.none,rfl,Yc h⟩))
    | exact Yc ⟨.none,rfl,Yc h⟩
end
section
variable {κ:Type}[DecidableEq κ]
def valV(a:List (κ×V))(k:κ):Option V:=(a.find? λb=>decide (b.1=k)).map (·.2)
def putK(b:List (κ×V))(k:κ)(v:V):List (κ×V):=
 if(b.any λa=>decide (a.1=k))=true then b.map (λa=>if a.1=k then(a.1,v) else a) else b++[(k,v)]
theorem o8{p:κ×V}{r:List (κ×V)}{k:κ}(e:p.1=k):valV (p::r) k=some p.2:=by simp[valV,XI,e]
theorem o9{p:κ×V}{r:List (κ×V)}{k:κ}(e:¬p.1=k):valV (p::r) k=valV r k:=by simp[valV,XI,e]
theorem ux(k:κ):∀a:List (κ×V),(a.any λb=>decide (b.1=k))=(valV a k).isSome
 |[]=>rfl
 |p::r=>by
  rw[XJ];by_cases e:p.1=k
  ·simp only[o8 e,YX e,Bool.true_or,Option.isSome_some]
  ·rw[o9 e,ZS e,Bool.false_or];exact ux k r
theorem oP(a:List (κ×V))(k:κ)(v:V):(putK a k v).length<=a.length+1:=by
 unfold putK;split
 ·rw[ZG];omega
 ·rw[ZM,YK,YW];omega
theorem RelO.isSome_eq{o:Option V}{u:Zx}(r:RelO o u):o.isSome=u.isSome:=by
 cases o with
 |none=>cases u with
  |none=>rfl
  |some _=>exact(show False from r).elim
 |some _=>cases u with
  |none=>exact(show False from r).elim
  |some _=>rfl
theorem KV.val{c:List (κ×V)}{vs:List (κ×Value)}(r:KV c vs)(k:κ):RelO (valV c k) (valueAt vs k):=by
 unfold KV at r;induction r with
 |nil=>exact True.intro
 |@cons p q ps a h t f=>
  obtain⟨d,h2⟩:=h;by_cases e:p.1=k
  ·have e':q.1=k:=d.symm.trans e
   have b:valueAt (q::a) k=some q.2:=by simp[valueAt,XI,e']
   rw[o8 e,b];exact h2
  ·have e':¬q.1=k:=λz=>e (d.trans z)
   have b:valueAt (q::a) k=valueAt a k:=by simp[valueAt,XI,e']
   rw[o9 e,b];exact f
theorem KV.any{b:List (κ×V)}{vs:List (κ×Value)}(r:KV b vs)(k:κ):(b.any λa=>decide (a.1=k))=vs.any λa=>decide (a.1=k):=by
 unfold KV at r;induction r with
 |nil=>rfl
 |cons h t c=>rw[XJ,XJ,c,h.1]
theorem KV.repl{c:List (κ×V)}{vs:List (κ×Value)}(r:KV c vs)(k:κ){y:V}{u:Value}(d:RelV y u):
  KV (c.map λa=>if a.1=k then(a.1,y) else a) (vs.map λa=>if a.1=k then(a.1,u) else a):=by
 unfold KV at r ⊢;induction r with
 |nil=>exact .nil
 |@cons p q ps g h t f=>
  rw[YM,YM];refine .cons ?_ f;obtain⟨b,h2⟩:=h;by_cases e:p.1=k
  ·rw[if_pos e,if_pos (b.symm.trans e)];exact⟨b,d⟩
  ·rw[if_neg e,if_neg (λz=>e (b.trans z))];exact⟨b,h2⟩
theorem KV.put{a:List (κ×V)}{vs:List (κ×Value)}(r:KV a vs)(k:κ){y:V}{u:Value}(b:RelV y u):KV (putK a k y) (stored vs k u):=by
 unfold putK stored;rw[r.any k];by_cases e:(vs.any λc=>decide (c.1=k))=true
 ·rw[if_pos e,if_pos e];exact r.repl k b
 ·rw[if_neg e,if_neg e];exact Paired.snoc r ⟨rfl,b⟩
theorem KV.keys{a:List (κ×V)}{vs:List (κ×Value)}(r:KV a vs):a.map (·.1)=vs.map (·.1):=by
 unfold KV at r;induction r with
 |nil=>rfl
 |cons h t b=>rw[YM,YM,b,h.1]
theorem KV.length{a:List (κ×V)}{vs:List (κ×Value)}(r:KV a vs):a.length=vs.length:=Paired.length r
end
theorem qb{P:Zw}{w:World}{k:Key}{u:Value}(r:RelV (kV k) u):(a9 P w).is k u=true:=by
 cases k with
 |inl i=>obtain⟨t,e⟩:=(show ∃t,u=Value.int i t from r);subst e;exact we P w i t
 |inr x=>obtain⟨t,e⟩:=(show ∃t,u=Value.str x t from r);subst e;exact wf P w x t
theorem sD{P:Zw}{w:World}:∀{ks:List Key}{us:Zd},Vals (ks.map kV) us->ItemsAre (a9 P w) ks us
 |[],_,r=>by rw[XB] at r;cases r;exact .nil
 |k::ks,_,r=>by
  rw[YM] at r;cases r with
  |cons h t=>exact .cons (qb h) (sD t)
abbrev KT(H:Hp):List (List Key×V)->List (List Key×Addr×Value)->Prop:=Paired λp q=>p.1=q.1/\H q.2.1=some (.tup (p.1.map kV))/\RelV p.2 q.2.2
theorem KT.val{H:Hp}{c:List (List Key×V)}{xs:List (List Key×Addr×Value)}(r:KT H c xs)(k:List Key):RelO (valV c k) ((atKey xs k).map (·.2)):=by
 induction r with
 |nil=>exact True.intro
 |@cons p q ps a h t f=>
  obtain⟨d,_,h2⟩:=h;by_cases e:p.1=k
  ·have e':q.1=k:=d.symm.trans e
   have b:atKey (q::a) k=some q.2:=by simp[atKey,XI,e']
   rw[o8 e,b];exact h2
  ·have e':¬q.1=k:=λz=>e (d.trans z)
   have b:atKey (q::a) k=atKey a k:=by simp[atKey,XI,e']
   rw[o9 e,b];exact f
theorem KT.repl{H:Hp}{c:List (List Key×V)}{xs:List (List Key×Addr×Value)}(r:KT H c xs)(k:List Key){y:V}{u:Value}(d:RelV y u):
  KT H (c.map λb=>if b.1=k then(b.1,y) else b) (xs.map (putAt k u)):=by
 induction r with
 |nil=>exact .nil
 |@cons p q ps j h t f=>
  rw[YM,YM];refine .cons ?_ f;obtain⟨a,h2,g⟩:=h;unfold putAt;by_cases e:p.1=k
  ·rw[if_pos e,if_pos (a.symm.trans e)];exact⟨a,h2,d⟩
  ·rw[if_neg e,if_neg (λz=>e (a.trans z))];exact⟨a,h2,g⟩
theorem KT.put{H:Hp}{a:List (List Key×V)}{xs:List (List Key×Addr×Value)}(r:KT H a xs)(k:List Key){b:Addr}{y:V}{u:Value}(hb:H b=some (.tup (k.map kV)))(c:RelV y u):
  KT H (putK a k y) (storedH xs k b u):=by
 have e:(a.any λd=>decide (d.1=k))=(atKey xs k).isSome:=by
  rw[ux,(r.val k).isSome_eq,Option.isSome_map]
 unfold putK storedH;rw[e];by_cases q:(atKey xs k).isSome=true
 ·rw[if_pos q,if_pos q];exact r.repl k c
 ·rw[if_neg q,if_neg q];exact Paired.snoc r ⟨rfl,hb,c⟩
theorem KT.keeps{H H':Hp}{a:List (List Key×V)}{xs:List (List Key×Addr×Value)}(r:KT H a xs)(ht:∀b ys,H b=some (.tup ys)->H' b=some (.tup ys)):KT H' a xs:=
 Paired.mapP r λ_ _ z=>⟨z.1,ht _ _ z.2.1,z.2.2⟩
section
variable {P:Zw}{w:World}{H:Hp}{h:Heap}{a:Addr}
theorem Cj{u:HO}(ok:HOk P w H h)(e:Rd H a u):aN P w H h a u:=e.ok ok
theorem j0{b:List (Key×V)}(ok:HOk P w H h)(e:Rd H a (.dK b)):b.length<=sizeLine/\(a==sysModules)=false/\∃vs,KV b vs/\h.DictOf (a9 P w) a vs:=
 show aN P w H h a (.dK b) from Cj ok e
theorem Ck{b:List (Key×V)}(ok:HOk P w H h)(e:H a=some (.dK b)):b.length<=sizeLine/\(a==sysModules)=false/\∃vs,KV b vs/\h.DictOf (a9 P w) a vs:=j0 ok (.inl e)
theorem m9{ks:List Key}(ok:HOk P w H h)(e:H a=some (.tup (ks.map kV))):(tupleKind (a9 P w)).is h ks a:=by
 obtain⟨_,c_,r,o,b,h2,n,c⟩:=(show aN P w H h a (.tup (ks.map kV)) from ok a _ e);exact⟨o,c_.toArray,n,b,h2,c,by simpa using sD r⟩
theorem qc{b:List (List Key×V)}(ok:HOk P w H h)(e:Rd H a (.dT b)):b.length<=sizeLine/\(a==sysModules)=false /\
  ∃xs,KT H b xs/\h.DictOfH (tupleKind (a9 P w)) a xs:=by
 obtain⟨z,y,xs,r,o,es,c,d,h2,f,g,j⟩:=(show aN P w H h a (.dT b) from Cj ok e);refine⟨z,y,xs,r,o,es,c,d,h2,f,g,λx hx=>?_,j⟩;have all:∀{l:List (List Key×V)}{m:List (List Key×Addr×Value)},KT H l m->∀x∈m,(tupleKind (a9 P w)).is h x.1 x.2.1:=by
  intro l m q;induction q with
  |nil=>intro x hx;exact nomatch hx
  |@cons p q ps n hq t k=>
   intro x hx;rcases YC.mp hx with e | hx
   ·subst e
    exact m9 ok (by rw[←hq.1];exact hq.2.1)
   ·exact k x hx
 exact all r x hx
theorem GA{b:List (List Key×V)}(ok:HOk P w H h)(e:H a=some (.dT b)):b.length<=sizeLine/\(a==sysModules)=false /\
  ∃xs,KT H b xs/\h.DictOfH (tupleKind (a9 P w)) a xs:=qc ok (.inl e)
end
def DGet(H:Hp)(a:Addr)(y:V)(r:Option V):Prop:=
 (∃c k,Rd H a (.dK c)/\y=kV k/\r=valV c k) \/ ∃c k b,Rd H a (.dT c)/\y=.ref b/\H b=some (.tup (k.map kV))/\r=valV c k
def DPut(H:Hp)(a:Addr)(y v:V)(H':Hp):Prop:=
 (∃c k,H a=some (.dK c)/\y=kV k/\c.length<sizeLine/\H'=upd H a (.dK (putK c k v))) \/
 ∃c k b,H a=some (.dT c)/\y=.ref b/\H b=some (.tup (k.map kV))/\c.length<sizeLine/\H'=upd H a (.dT (putK c k v))
theorem DGet.k{H:Hp}{a:Addr}{b:List (Key×V)}{k:Key}(e:H a=some (.dK b)):DGet H a (kV k) (valV b k):=.inl ⟨b,k,.inl e,rfl,rfl⟩
section
variable {X:Cx}{pins:Zc}{σ:St}{H:Hp}{s:Shared}{a:Addr}{y v:V}{u r:Value}{o:Option V}{A:Around}{E:Zb}
theorem Inv.big(I:Inv X pins σ H s):sysModules<s.heap.objs.size:=by
 have h:mainGlobals<s.heap.objs.size:=(I.mod.glob.keeps I.bk).lt;exact Nat.lt_trans 'b' h
theorem zd{Q:Zb}(hu:A.units+1<cLine)(I:Inv X pins σ H s)(g:DGet H a y (some v))(n:RelV y u)(h:∀c B,Inv X pins σ H B->RelV v c->Q c B):
  wpAny 'c' A (getItem (.ref a) u) Q E s:=by
 rcases g with⟨C,k,e,d,l⟩ | ⟨C,k,b,e,d,G,l⟩
 ·subst d
  obtain⟨z,hd,vs,f,j⟩:=j0 I.hok e;obtain⟨c,hw,m⟩:=RelO.some_of (v:=v) (o:=valueAt vs k) (by rw[l];exact f.val k);exact wpAny_getItem_of (qb n) j.mapOf hw (h c _ (I.tok _) m)
 ·subst d
  cases(show u=Value.ref b from n);obtain⟨z,hd,xs,f,j⟩:=qc I.hok e;obtain⟨c,hw,m⟩:=RelO.some_of (v:=v) (o:=(atKey xs k).map (·.2)) (by rw[l];exact f.val k);obtain⟨p,hp,J⟩:=ZQ.mp hw;refine wpAny_getItem_heap (tupleKind_room_in1 hu) (m9 I.hok G) j hp ?_;rw[J];exact h c _ (I.tok _) m
theorem d_in{Q:Zb}(hu:A.units+1<cLine)(I:Inv X pins σ H s)(g:DGet H a y o)(j:RelV y u)(h:∀m,Inv X pins σ H m->Q (.bool o.isSome) m):
  wpAny 'c' A (compareOp .In u (.ref a)) Q E s:=by
 rcases g with⟨n,k,e,c,l⟩ | ⟨n,k,b,e,c,p,l⟩
 ·subst c
  obtain⟨z,hd,vs,d,f⟩:=j0 I.hok e;refine wpAny_in_of (qb j) hd f.mapOf ?_;rw[←(d.val k).isSome_eq,←l];exact h _ (I.tok _)
 ·subst c
  cases(show u=Value.ref b from j);obtain⟨z,hd,xs,d,f⟩:=qc I.hok e;refine wpAny_in_heap (tupleKind_room_in1 hu) (m9 I.hok p) hd f ?_;have q:=(d.val k).isSome_eq;rw[Option.isSome_map] at q;rw[←q,←l];exact h _ (I.tok _)
theorem Dd{Q:Zb}(hu:A.units+1<cLine)(I:Inv X pins σ H s)(g:DGet H a y o)(j:RelV y u)(h:∀m,Inv X pins σ H m->Q (.bool (!o.isSome)) m):
  wpAny 'c' A (compareOp .NotIn u (.ref a)) Q E s:=by
 rcases g with⟨n,k,e,c,l⟩ | ⟨n,k,b,e,c,p,l⟩
 ·subst c
  obtain⟨z,hd,vs,d,f⟩:=j0 I.hok e;refine wpAny_notIn_of (qb j) hd f.mapOf ?_;rw[←(d.val k).isSome_eq,←l];exact h _ (I.tok _)
 ·subst c
  cases(show u=Value.ref b from j);obtain⟨z,hd,xs,d,f⟩:=qc I.hok e;refine wpAny_notIn_heap (tupleKind_room_in1 hu) (m9 I.hok p) hd f ?_;have q:=(d.val k).isSome_eq;rw[Option.isSome_map] at q;rw[←q,←l];exact h _ (I.tok _)
theorem wZ{h':Heap}{t':Nat}{c:HO}(I:Inv X pins σ H s)(mu:Mut (H a))(d:Heap.SameBut a s.heap h')(f:∃q,h'.get? a=some q)(new:aN X.prog X.w (upd H a c) h' a c):
  Inv X pins σ (upd H a c) { s with heap:=h',toks:=t' }:=
 I.write (x:=a) (e:=a) mu (.inl rfl) (λb q hb z=>(d.2 b hb).trans z) f new
theorem Fg{P:Zw}{w:World}{H':Hp}{h':Heap}{b:List (Key×V)}{vs:List (Key×Value)}(z:b.length<=sizeLine)(hd:(a==sysModules)=false)(c:KV b vs)(d:h'.DictOf (a9 P w) a vs):
  aN P w H' h' a (.dK b):=⟨z,hd,vs,c,d⟩
theorem ze{H':Hp}{Q:Zo}(hu:A.units+1<cLine)(I:Inv X pins σ H s)(g:DPut H a y v H')(C:RelV y u)(G:RelV v r)(h:∀J,Inv X pins σ H' J->Q () J):
  wpAny 'c' A (setItem (.ref a) u r) Q E s:=by
 rcases g with⟨d,k,e,m,l,n⟩ | ⟨d,k,b,e,m,K,l,n⟩
 ·subst m n
  obtain⟨z,hd,vs,f,p⟩:=Ck I.hok e;have hz:vs.length<=sizeLine:=by rw[←f.length];exact z
  have hl:(putK d k v).length<=sizeLine:=by have:=oP d k v;omega
  refine wpAny_setItem_pairs (hsz:=hz) (qb C) p λh' j B=>h _ ?_
  have O:∃q,h'.get? a=some q:=let⟨q,_,_,hq,_⟩:=j;⟨q,hq⟩;exact wZ I (by rw[e];exact True.intro) B O (Fg hl hd (f.put k G) j)
 ·subst m n
  cases(show u=Value.ref b from C);obtain⟨z,hd,xs,f,p⟩:=GA I.hok e;have hz:xs.length<=sizeLine:=by rw[←Paired.length f];exact z
  have hl:(putK d k v).length<=sizeLine:=by have:=oP d k v;omega
  refine wpAny_setItem_heap (hsz:=hz) (tupleKind_room_in1 hu) (m9 I.hok K) p λh' j B=>h _ ?_
  obtain⟨q,es,P,hq,h2,R,S,_,T⟩:=j;refine wZ I (by rw[e];exact True.intro) B ⟨q,hq⟩ ⟨hl,hd,_,(f.put k K G).keeps λc ys L=>?_,q,es,P,hq,h2,R,S,T⟩;rw[aB (F8 L e (λz=>nomatch z))];exact L
end
section
variable {X:Cx}{pins:Zc}{σ:St}{H:Hp}{s:Shared}{a:Addr}{e_:List (Key×V)}{k:Key}{u:Value}{A:Around}{E:Zb}
theorem Cl{Q:Zb}(I:Inv X pins σ H s)(e:Rd H a (.dK e_))(h:∀t b,Inv X pins σ H b->Q (.int e_.length t) b):wpAny 'c' A (call (.builtin "len") [.ref a]) Q E s:=by
 obtain⟨z,hd,vs,c,d⟩:=j0 I.hok e;refine call_len_dict hd d (by rw[←c.length];rw[sizeLine_eq] at z;omega) ?_;rw[←c.length];exact h _ _ (I.tok _)
end
theorem wj{X:Cx}{pins:Zc}{σ:St}{H:Hp}{s:Shared}{a:Addr}{y:V}{o:Option V}(I:Inv X pins σ H s)(g:DGet H a y o):s.TypeIs (.ref a) "dict":=by
 rcases g with⟨d,k,e,_,_⟩ | ⟨d,k,b,e,_,_,_⟩
 ·obtain⟨_,_,vs,_,c⟩:=j0 I.hok e
  exact c.typeIs
 ·obtain⟨_,_,xs,_,c⟩:=qc I.hok e
  exact c.typeIs
theorem AY{P:Zw}{w:World}{H:Hp}(h:Heap)(hb:sysModules<h.objs.size):aN P w H (h.push { cls:=.type "dict",data:=.dict #[] }) h.objs.size (.dK []):=
 ⟨YO _,ZT.mpr (Ne.symm (ZW hb)),[],.nil,Heap.DictOf.new h⟩
def Fh:TE:=λ_ H Q=>∀p,H p=none->Q (.ref p) (upd H p (.dK []))
section
variable {X:Cx}{pos:Pos}
theorem AZ:PE X (.Dict [] [] pos) Fh:=λpins s σ H Q I h=>
 wpAny_Dict_empty ⟨.ref s.heap.objs.size,_,I.laid (a:=s.heap.objs.size) (o:=.dK []) (t':=s.toks) (λ_ _ q=>Yd _ q) (YH _) (AY s.heap I.big),rfl,h _ (I.hok.fresh (YH _))⟩
end
structure M1 (X:Cx) (o:Expr) (m:Str) (s_:Pos) (e:Expr) (GH:Pos):Prop where
 base:attributeBase o m X.env (eval o X.env)=eval o X.env
 few:((backTo GH (starEach [e] X.env)).all (λx=>!x.1)&&(backToKw GH (keywordEach [] X.env)).all (λx=>x.1.isSome)
  && decide (([e]:List Expr).length+([]:List Keyword).length+(if([]:List Keyword).isEmpty then 0 else 1)<30))=true
 line:(s_.endLine==GH.line)=true
 trees:backTo GH (starEach [e] X.env)=[(false,eval e X.env)]
structure M2 (X:Cx) (o:Expr) (m:Str) (s_:Pos) (e f:Expr) (GH:Pos):Prop where
 base:attributeBase o m X.env (eval o X.env)=eval o X.env
 few:((backTo GH (starEach [e,f] X.env)).all (λx=>!x.1)&&(backToKw GH (keywordEach [] X.env)).all (λx=>x.1.isSome)
  && decide (([e,f]:List Expr).length+([]:List Keyword).length+(if([]:List Keyword).isEmpty then 0 else 1)<30))=true
 line:(s_.endLine==GH.line)=true
 trees:backTo GH (starEach [e,f] X.env)=[(false,eval e X.env),(false,eval f X.env)]
end L2
namespace Att
open PySem PySem.W PySem.Calls PyProof.Rows
theorem qe{P:Params}{h:Heap}:∀(ns:Zi) (vs:Zd),WellAll P h vs (ns.map WData.int)->IntsAre vs ns:=by
 intro ns;induction ns with
 |nil=>
  intro vs w;rw[XB] at w;cases w;exact .nil
 |cons n ns c=>
  intro vs w;rw[YM] at w;cases w with
  |cons a b=>
   cases a;exact .cons _ _ (c _ b)
theorem zf{l:OpenLaw}{n:Nat}(hn:l.most=some n){P:Params}{h:Heap}{args:List WData}{b:Zd}
  (g:l.row.toRowW.claim.pre args=true) (j:WellAll P h b args):
  ∃a vs ns,b=[Value.ref a]/\args=[WData.list (ns.map WData.int)]/\h.get? a=some { cls:=.type "list",data:=.seq vs.toArray }/\IntsAre vs ns/\ns.length<=n:=by
 have k:WShape.hasAll [] args [.list .int]=true:=(pre_splitW g).1;have hc:l.pre.holds [] { args:=args }=true:=(pre_splitW g).2;obtain⟨d,r,rfl,m,h2⟩:=hasAllW_cons k;obtain rfl:=hasAllW_nil h2;obtain⟨xs,rfl,o⟩:=hasW_list m;obtain⟨ns,rfl⟩:=items_int o;have p:ns.length<=n:=by
  unfold OpenLaw.pre at hc;have c:(WTm.not (.lt (.lit (.int (n:Int))) (.len (.arg 0)))).holds [] { args:=[.list (ns.map .int)] }=true:=by
   have c:=(holds_andW hc).1;rw[hn] at c;exact c
  have f:=condW_of c (w_not (w_lt w_lit (w_len_list (w_arg rfl))));rw[ZG] at f;refine Nat.le_of_not_lt λq=>?_
  have u:(n:Int)<((ns.length:Nat):Int):=by omega
  first
   |(rw[YX u] at f;exact absurd f 'b')
   |(simp at f;omega)
 cases j with
 |cons y w2=>
  cases w2;cases y with
  |list ho z=>exact⟨_,_,ns,rfl,rfl,ho,qe ns _ z,p⟩
theorem zg(l:OpenLaw)(args:List WData):l.row.toRowW.claim.post args (.bool true) args=true:=
 postW_of (r:=l.row.toRowW) (X:=(true==true))
  (show WShape.has [] (.bool true) .bool=true by first | rfl | decide | simp[WShape.has,WShape.arms,WShape.armsAll])
  (show(WTm.eq .res (.lit (.bool true))).value [] { args:=args,res:=some (.bool true),after:=args }=some (.bool (true==true)) from w_eq_bool (w_res rfl) w_lit) rfl
theorem wk{l:OpenLaw}{n:Nat}{q:Zw}{loose:Zf}{XP:(Str->Option Value)->Heap->Prop}{YP:World->Heap->Prop}{d:DefRec}
  (hn:l.most=some n) (u:d.params.defaults=[])
  (call:∀(w:World) (s₀ b:Shared) (mg mb:Ze) (g:Addr) (o:Obj) (pm j B_:Value) (a:Addr) (vs:Zd) (ns:Zi),
   Ground q loose [] XP w s₀ mg mb b.heap->YP w b.heap ->
   b.heap.get? g=some o->o.data=.func (docDef d.name d.params d.body d.scope pm j B_)->b.heap.CodeRec j d.name->mg d.name=some (.ref g) ->
   b.heap.get? a=some { cls:=.type "list",data:=.seq vs.toArray }->IntsAre vs ns->ns.length<=n->b.gens = #[] ->
   codeAny (model l.prog w) callerA (.call (.ref g) ⟨[.ref a],[]⟩) (λr k=>r=.ok (.ret (.bool true))/\OldK b.heap k.heap/\k.os=b.os/\AllBare k.gens) b):
  WalkO q loose XP YP l.row.toRowW d [] (λf vs=>PySem.call f vs):=by
 intro w s₀ b mg mb G Y g o pm j B_ y kV ho hd z m A hg args p as B P R C S;obtain rfl:y=.none:=Dflts.none m u;obtain rfl:kV=.none:=Dflts.noKw m;obtain⟨a,vs,ns,rfl,rfl,J,c,K⟩:=zf hn B C;refine enter_call (codeAny_mono (call w s₀ b mg mb g o pm j B_ a vs ns G Y ho (fd_plain hd) z A J c K hg) λr k hq=>?_);obtain⟨rfl,h2,L,O⟩:=hq;exact⟨.inl ⟨.bool true,.bool true,[],rfl,λ_=>rfl,.bool true,zg l _,λ_=>⟨List.Pairwise.nil,λ_ hm=>(nomatch hm)⟩⟩,h2,L,O⟩
section
variable {prog:Zw}{w:World}{A:Around}{E:Zb}{s:Shared}{K:Frag}
end
end Att
namespace L2
open PySem PySem.Spec PyProof.Rows
theorem sF:∀{vs:Zd}{ns:Zi},IntsAre vs ns->Vals (ns.map V.int) vs
 |_,_,.nil=>.nil
 |_,_,.cons n t h=>.cons ⟨t,rfl⟩ (sF h)
def Only(H:Hp):Prop:=∀b,H b=none \/ ∃o xs,H b=some (.frz o (.lst xs))
theorem A0{P:Zw}{w:World}{K:Za}{mg mb:Ze}{CX:CXT}{k:Nat}{y a:Addr}{fd:Zv}{x:Str}{sp:Sp}{c:Shared}{vs:Zd}{ns:Zi}
  (A:K.In c.heap) (B:c.heap.Ns mainGlobals mg) (hb:c.heap.Ns builtinsNs mb) (S:∀x:Str,x ≠ "__name__"->mb x=bootBuiltins x) (T:c.heap.NoLimit) (hg:c.gens = #[])
  (ha:c.heap.get? a=some { cls:=.type "list",data:=.seq vs.toArray }) (hi:IntsAre vs ns) (hl:ns.length<=sizeLine) (U:Room k callerA)
  (F:∀base:Heap,K.In base->base.Ns mainGlobals mg->FnOk P w K mg base CX k y fd [x] sp) (W:∀(s:Shared) (u:Value),BindsTo s fd ⟨[u],[]⟩ [(x,u)])
  (Y:∀H:Hp,Only H->SqL K H a (ns.map V.int)->sp [.ref a] H (λv _=>v=.bl true) λ_ _ _=>False)
  (Z:∀H e f,CX [] H c (λ_ _ _=>False) e f->False):
  codeAny (model P w) callerA (.call (.ref y) ⟨[.ref a],[]⟩) (λr f=>r=.ok (.ret (.bool true))/\OldK c.heap f.heap/\f.os=c.os/\AllBare f.gens) c:=by
 have C:=sF hi;have NS:=hi.length
 -- from an abstract heap in which nothing but the script may be tracked
 have g:∀H:Hp,Only H->SqL K H a (ns.map V.int)->HOk P w H c.heap->(∀b,H b≠none->b=a)->(H a≠none->K.lookup a=none) ->
   codeAny (model P w) callerA (.call (.ref y) ⟨[.ref a],[]⟩) (λr f=>r=.ok (.ret (.bool true))/\OldK c.heap f.heap/\f.os=c.os/\AllBare f.gens) c:=by
  intro H G hS hok J hK;have L:∀{b:Addr}{o:Obj},c.heap.get? b=some o->H b=none->(hidT c.heap H).get? b=some o:=λe n=>AG e n
  have Le:∀{b:Addr}{o:Obj}{es:Array DictEntry}{j:Nat},c.heap.get? b=some o->o.data=.dict es j->H b=none:=λ{b o es j} e d=>by
   cases q:H b with
   |none=>rfl
   |some u=>
    have e':b=a:=J b (by rw[q];simp);subst e';rw[ha] at e;cases e;have d':Data.seq vs.toArray _=Data.dict es j:=d;cases d'
  have p:∀{b:Addr}{m:Ze},c.heap.Ns b m->(hidT c.heap H).Ns b m:=λ{b m} ⟨o,es,j,e,d,r⟩=>⟨o,es,j,L e (Le e d),d,r⟩
  have O:K.In (hidT c.heap H):=λb o e=>L (A b o e) (by
   cases q:H b with
   |none=>rfl
   |some u=>
    have e':b=a:=J b (by rw[q];simp);subst e';rw[hK (by rw[q];simp)] at e;cases e)
  have hM:Mod K mg (hidT c.heap H):=⟨O,p B,⟨mb,p hb,S⟩,let⟨mc,h1,h2⟩:=T;⟨mc,p h1,h2⟩⟩;have e0:Env0 P w K mg (hidT c.heap H) callerA [] c H:=⟨rfl,hM,λb o e=>CH e,Nat.le_of_eq (yR _ _),trivial,λb hb=>absurd (show b∈([]:List Addr) from hb) (by simp),hok,.of_eq hg⟩;refine codeAny_mono ((F _ O (p B)).run callerA [] c H ⟨[.ref a],[]⟩ [.ref a] [.ref a] _ _ U e0 (W c (.ref a)) (.cons rfl .nil) (Y H G hS)) λr f h=>?_
  cases r with
  |error e=>exact(Z H e f h).elim
  |ok fl=>
   cases fl with
   |next=>exact Yh h
   |brk=>exact Yh h
   |cont=>exact Yh h
   |ret u=>
    obtain⟨v,H',os,bare,un,Ka,r',q⟩:=h;have q':v=.bl true:=q;subst q';obtain rfl:u=Value.bool true:=r';refine⟨rfl,OldK.of_keep λb o e=>?_,os,bare⟩;cases q:H b with
    |none=>exact un.keep b o e q (by intro z;exact absurd (show b∈([]:List Addr) from z) (by simp)) (by simp)
    |some u=>
     rcases G b with z | ⟨ob,xs,z⟩
     ·rw[q] at z;cases z
     ·have z2:=un.frzs b ob _ z
      obtain⟨R,_⟩:=hok b _ z;obtain⟨e2,_⟩:=Ka b _ z2;rw[e] at R;cases R;exact e2
 cases hk:K.lookup a with
 |some o=>
  -- the script is one of the module's own objects
  have e:=A a o hk;rw[ha] at e;cases e;refine g (λ_=>none) (λ_=>.inl rfl) (.inr ⟨_,vs.toArray,_,hk,rfl,rfl,rfl,by rw[YJ,NS];exact hl,by simpa using C⟩) (λb u z=>by have l:(none:Option HO)=some u:=z;cases l) (λb z=>absurd rfl z) λz=>absurd rfl z
 |none=>
  refine g (λb=>if b=a then some (.frz { cls:=.type "list",data:=.seq vs.toArray } (.lst (ns.map V.int))) else none) (λb=>?_) (.inl (.inr ⟨{ cls:=.type "list",data:=.seq vs.toArray },if_pos rfl⟩)) (λb u z=>?_) (λb z=>?_) λ_=>hk
  ·by_cases hb:b=a
   ·exact .inr ⟨_,_,if_pos hb⟩
   ·exact .inl (if_neg hb)
  ·by_cases hb:b=a
   ·have l:=(if_pos hb).symm.trans z
    cases l;subst hb;exact⟨ha,by rw[ZG];exact hl,vs,_,C,ha⟩
   ·have l:=(if_neg hb).symm.trans z
    cases l
  ·by_cases hb:b=a
   ·exact hb
   ·exact absurd (if_neg hb) z
theorem De{l:PySem.W.OpenLaw}{n k:Nat}{q:Zw}{loose:Zf}{XP:(Str->Option Value)->Heap->Prop}{YP:World->Heap->Prop}{d:DefRec}{K:Params->PySem.W.Frag}{CX:World->CXT}{sp:World->Sp}{x:Str}
  (hn:l.most=some n) (y:n<=sizeLine) (z:d.params.defaults=[]) (A:Room k callerA)
  (B:∀(w:World) (h:Heap),YP w h->(K w.params).In h)
  (F:∀(w:World) (mg:Ze) (j:Addr) (h:Heap),(K w.params).In h->h.Ns mainGlobals mg->mg d.name=some (.ref j) ->
   ∃fd:FuncData,(∀(s:Shared) (u:Value),BindsTo s fd ⟨[u],[]⟩ [(x,u)]) /\
    ∀base:Heap,(K w.params).In base->base.Ns mainGlobals mg->FnOk l.prog w (K w.params) mg base (CX w) k j fd [x] (sp w))
  (C:∀(w:World) (H:Hp) (a:Addr) (ns:Zi),ns.length<=n->Only H->SqL (K w.params) H a (ns.map V.int)->sp w [.ref a] H (λv _=>v=.bl true) λ_ _ _=>False)
  (J:∀(w:World) (H:Hp) (s:Shared) (e:Value) (m:Shared),CX w [] H s (λ_ _ _=>False) e m->False):
  PySem.W.WalkO q loose XP YP l.row.toRowW d [] (λf vs=>PySem.call f vs):=by
 refine Att.wk hn z λw s₀ L mg mb j o pm Z B_ a vs ns G Y ho hd Iw O P c p hg=>?_
 have r:=B w _ Y;obtain⟨fd,hb,R⟩:=F w mg j _ r G.T.g O;exact A0 r G.T.g G.T.b G.T.builtins G.T.nolimit hg P c (ZZ p y) A R hb (λH S U=>C w H a ns p S U) λH e m=>J w H L e m
def inClass(s:Stmt)(j:Nat):Stmt:=match s with
 |.ClassDef _ _ _ body _ _ _ _ _ _ _=>body.getD j (.Pass ⟨0,0,0,0⟩)
 |_=>.Pass ⟨0,0,0,0⟩
def bd(s:Stmt):Arguments:=match s with
 |.FunctionDef _ a _ _ _ _ _ _ _ _=>a
 |_=>{ posonlyargs:=[],args:=[],vararg:=none,kwonlyargs:=[],kw_defaults:=[],kwarg:=none,defaults:=[] }
def aF(s:Stmt):List Stmt:=match s with
 |.FunctionDef _ _ b _ _ _ _ _ _ _=>b
 |_=>[]
def ak(s:Stmt):Scope:=match s with
 |.FunctionDef _ _ _ _ _ _ sc _ _ _=>sc
 |_=>{ kind:=.function,names:=[],isGenerator:=false,isCoroutine:=false }
abbrev CX0:CXT:=λ_ _ _ _ _ _=>False
abbrev E0:XK:=λ_ _ _=>False
theorem tU{X:Cx}:m7 CX0 X E0:=λ_ _ _ _ _ _ _ h=>h.elim
structure Fun (K:Za) (x l_:Str) (st:Stmt) (f:Addr) (fd:Zv):Prop where
 ex:∃(oc:Value) (od:Zm) (kV B_ pm:Value) (an:Zm) (y_ ct:Value) (GX:Zn),
  fd=PySem.W.fnOf x l_ (bd st) (aF st) (ak st) .none kV B_ pm an y_ ct/\K.lookup f=some ⟨oc,od,.func fd,GX⟩/\PySem.W.codeIn K y_ l_=true
 kp:PySem.W.keepIn K (.ref f)=true
section
variable {P:Zw}{w:World}{K:Za}{mg:Ze}{base:Heap}
theorem Fun.ok{x l_:Str}{st:Stmt}{f:Addr}{fd:Zv}{N ps:Zf}{k:Nat}{sp:Sp}(F:Fun K x l_ st f fd)(S:FnScope N ps (ak st))(len:∀vs H Q E,sp vs H Q E->vs.length=ps.length)
  (a:∀(y_:Value) (A:Around) (outer:List Env) (s:Shared) (H:Hp) (vs:List V) (Q:VK) (E:XK),Room k (A.deeper (envOfC l_ (ak st) s.heap.objs.size f y_))->sp vs H Q E ->
   ∃t,PSs (cxOf CX0 P w K mg base N l_ (ak st) f y_ A outer s H E).nox (aF st) t/\t { nx:=λ_ H'=>Q .non H',rt:=Q } (start N vs) H):FnOk P w K mg base CX0 (k+1) f fd ps sp:=by
 obtain⟨oc,od,kV,B_,pm,an,y_,ct,GX,rfl,b,c⟩:=F.ex;refine Gu b c S len λA outer s H vs Q E d g=>?_
 obtain⟨t,h,q⟩:=a y_ A outer s H vs Q E d g;exact⟨t,h.nox,q⟩
theorem Fun.binds{x l_:Str}{st:Stmt}{f:Addr}{fd:Zv}{ps:Zf}(F:Fun K x l_ st f fd)
  (h:∀(kV B_ pm:Value) (an:Zm) (y_ ct:Value) (us:Zd),us.length=ps.length->bindArgs (PySem.W.fnOf x l_ (bd st) (aF st) (ak st) .none kV B_ pm an y_ ct) ⟨us,[]⟩=pure (ps.zip us)):Binds K fd ps []:=by
 obtain⟨oc,od,kV,B_,pm,an,y_,ct,GX,rfl,a,b⟩:=F.ex;exact .all (h kV B_ pm an y_ ct)
theorem uz{x l_:Str}{st:Stmt}{f:Addr}{oc:Value}{od an:Zm}{GX:Zn}{kV B_ pm y_ ct:Value}(l:K.lookup f=some ⟨oc,od,.func (PySem.W.fnOf x l_ (bd st) (aF st) (ak st) .none kV B_ pm an y_ ct),GX⟩)
  (c:PySem.W.codeIn K y_ l_=true) (k:PySem.W.keepIn K (.ref f)=true):Fun K x l_ st f (PySem.W.fnOf x l_ (bd st) (aF st) (ak st) .none kV B_ pm an y_ ct):=⟨⟨oc,od,kV,B_,pm,an,y_,ct,GX,rfl,l,c⟩,k⟩
end
theorem sG{n:Nat}(h:n<=1000):n<sizeLine:=XM h 'b'
section
variable {X:Cx}
theorem zh:dU X (.builtin "len") (λxs H Q=>∃a b,xs=[V.ref a]/\H a=some (.dK b)/\Q (.int b.length) H):=by
 intro pins s σ H xs us Q I r h;obtain⟨a,b,rfl,ha,q⟩:=h;obtain⟨u,rfl,c⟩:=vals1 r;cases c;exact Cl I (.inl ha) λt f d=>⟨.int b.length,H,d,⟨t,rfl⟩,q⟩
end
def ik(cells:Zr):List (Str×NameKind)->List (Str×Addr)->List (Str×Addr)
 |[],h_=>h_
 |(n,k)::r,h_=>ik cells r (if k==.free then(n,(cells.lookup n).getD 0)::h_ else h_)
def clOf(scope:Scope)(env:Env):List (Str×Addr):=ik env.cells scope.names []
theorem tH{scope:Scope}{env:Env}(h:∀x∈scope.names,x.2=.free->∃c,env.cells.lookup x.1=some c):closureFor scope env=pure (clOf scope env):=by
 have b:∀(l:List (Str×NameKind)) (h_:Zr),(∀x∈l,x.2=.free->∃c,env.cells.lookup x.1=some c) ->
   (forIn l h_ λ(x:Str×NameKind) (d:Zr)=>
    (if x.2==.free then(do let c ←cellOf env x.1;pure (ForInStep.yield ((x.1,c)::d))) else pure (ForInStep.yield d):Sem (ForInStep (List (Str×Addr)))))=pure (ik env.cells l h_):=by
  intro l;induction l with
  |nil=>intro h_ _;rfl
  |cons x r g=>
   intro h_ hx;obtain⟨n,k⟩:=x;have a:=g (if k==.free then(n,(env.cells.lookup n).getD 0)::h_ else h_) λy hy=>hx y (YB _ hy)
   rw[List.forIn_cons];by_cases hk:k=.free
   ·subst hk
    obtain⟨c,hc⟩:=hx (n,.free) YA rfl;have e:cellOf env n=pure c:=by unfold cellOf;rw[hc]
    have f:env.cells.lookup n=some c:=hc;simp only[XH,if_true,f,Option.getD_some] at a;simp only[XH,if_true,e,pure_bind];rw[a];simp only[ik,XH,if_true,f,Option.getD_some]
   ·have hb:(k==NameKind.free)=false:=by simpa using hk
    simp only[hb,XG,if_false] at a;simp only[hb,XG,if_false,pure_bind];rw[a];simp only[ik,hb,XG,if_false]
 have:=b scope.names [] h
 unfold closureFor clOf;simp only[bind_pure];exact this
theorem qf{cells:Zr}:∀{l:List (Str×NameKind)}{h_:Zr}{p:Str×Addr},p∈ik cells l h_->p∈h_\/((p.1,NameKind.free)∈l/\p.2=(cells.lookup p.1).getD 0)
 |[],_,_,h=>.inl h
 |(n,k)::r,h_,p,h=>by
  rcases qf (l:=r) h with q | ⟨q1,q2⟩
  ·by_cases hk:k=.free
   ·subst hk
    simp only[XH,if_true] at q;rcases YC.mp q with e | q
    ·subst e;exact .inr ⟨YA,rfl⟩
    ·exact .inl q
   ·have hb:(k==NameKind.free)=false:=by simpa using hk
    simp only[hb,XG,if_false] at q;exact .inl q
  ·exact .inr ⟨YB _ q1,q2⟩
theorem qg{cells:Zr}:∀{l:List (Str×NameKind)}{h_:Zr}{p:Str×Addr},p∈h_->p∈ik cells l h_
 |[],_,_,h=>h
 |(n,k)::r,h_,p,h=>by
  refine qg (l:=r) ?_;split
  ·exact YB _ h
  ·exact h
theorem qh{cells:Zr}:∀{l:List (Str×NameKind)}{h_:Zr}{n:Str},(n,NameKind.free)∈l->∃c,(n,c)∈ik cells l h_
 |(m,k)::r,h_,n,h=>by
  rcases YC.mp h with e | h
  ·cases e
   exact⟨_,qg (l:=r) (by simp only[XH,if_true];exact YA)⟩
  ·exact qh (l:=r) h
theorem il{a:Type}:∀{l:List (Str×a)}{n:Str}{c:a},(n,c)∈l->∃d,l.lookup n=some d
 |(m,d)::r,n,c,h=>by
  rcases YC.mp h with e | h
  ·cases e;exact⟨d,by simp[XN]⟩
  ·cases hb:n==m with
   |true=>exact⟨d,by simp[XN,hb]⟩
   |false=>
    obtain⟨d',e⟩:=il (l:=r) h;exact⟨d',by simp[XN,hb,e]⟩
theorem im{scope:Scope}{env:Env}(h:∀x∈scope.names,x.2=.free->∃c,env.cells.lookup x.1=some c){y:Str}{c:Addr}(e:(clOf scope env).lookup y=some c):env.cells.lookup y=some c:=by
 have m:=PySem.mem_of_lookup e;rcases qf m with z | ⟨z1,z2⟩
 ·cases z
 ·obtain⟨c',d⟩:=h _ z1 rfl
  have a:env.cells.lookup y=some c':=d;have b:c=(env.cells.lookup y).getD 0:=z2;rw[a] at b;rw[a,b];rfl
theorem zi{scope:Scope}{env:Env}(h:∀x∈scope.names,x.2=.free->∃c,env.cells.lookup x.1=some c){y:Str}{c:Addr}(hy:(y,NameKind.free)∈scope.names)(e:env.cells.lookup y=some c):
  (clOf scope env).lookup y=some c:=by
 obtain⟨c',m⟩:=qh (cells:=env.cells) (h_:=[]) hy;obtain⟨d,q⟩:=il m;have a:(clOf scope env).lookup y=some d:=q
 have:=im h a
 rw[e] at this;rw[a,←this]
theorem dl{env:Env}:∀{names:List (Str×NameKind)}{x:Str},
  (names.map λ(n,k)=>if(k==NameKind.free&&env.scope.kind==.function&&env.kindOf n==some .cell) then(n,NameKind.cell) else(n,k)).lookup x =
   (names.lookup x).map λk=>if(k==NameKind.free&&env.scope.kind==.function&&env.kindOf x==some .cell) then NameKind.cell else k
 |[],_=>rfl
 |(n,k)::r,x=>by
  have a:=@dl env r x;show List.lookup x ((if(k==NameKind.free&&env.scope.kind==.function&&env.kindOf n==some .cell)=true then(n,NameKind.cell) else(n,k))::_)=_;cases hx:x==n with
  |true=>
   have e:x=n:=by simpa using hx
   subst e;by_cases hc:(k==NameKind.free&&env.scope.kind==.function&&env.kindOf x==some .cell)=true
   ·rw[if_pos hc];simp only[XN,XH,Option.map_some];rw[if_pos hc]
   ·rw[if_neg hc];simp only[XN,XH,Option.map_some];rw[if_neg hc]
  |false=>
   by_cases hc:(k==NameKind.free&&env.scope.kind==.function&&env.kindOf n==some .cell)=true
   ·rw[if_pos hc];simp only[XN,hx];exact a
   ·rw[if_neg hc];simp only[XN,hx];exact a
structure CompScope (Hq scope:Scope) (N own N2:Zf):Prop where
 kind:scope.kind=.function
 nocell:∀y∈scope.names,y.2≠.cell
 names:∀y∈scope.names,y.2=.local->scope.names.lookup y.1=some .local
 free:∀y∈scope.names,y.2=.free->(Hq.names.lookup y.1=some .cell\/Hq.names.lookup y.1=some .free)
 len:N2.length=N.length
 vis:∀p∈N2.zip N,(scope.names.lookup p.1=some .free->p.1=p.2)/\scope.names.lookup p.1≠some .local
def cxC(X:Cx)(scope:Scope)(own N2:Zf)(C:Addr)(s:Shared)(H:Hp)(ex:Zh)(pn:Zc):Cx where
 prog:=X.prog
 w:=X.w
 K:=X.K
 mg:=X.mg
 base:=X.base
 A:=X.A
 N:=N2++own
 s₀:=s
 H₀:=H
 env:=compEnvC scope (clOf scope X.env) C X.env
 outer:=X.stack
 stack:=X.stack
 ex:=ex
 calm:=X.calm
 fn:=λ_=>false
 pn:=pn
 xe:=λ_ _=>False
theorem Un.track{fs ex:Zh}{H H':Hp}{h h':Heap}{a:Addr}{o:HO}(u:Un fs ex H H' h h')(hp:h.objs.size<=a)(hn:H a=none):Un fs ex H (upd H' a o) h h' where
 keep:=u.keep
 slot:=u.slot
 free:=λb c q n hx=>by rw[aB (ZW (ZU (Ye q) hp))];exact u.free b c q n hx
 there:=u.there
 tups:=λb xs q=>by rw[aB (aT q hn)];exact u.tups b xs q
 frzs:=λb c xs q=>by rw[aB (aT q hn)];exact u.frzs b c xs q
 tbls:=λb ps q=>by rw[aB (aT q hn)];exact u.tbls b ps q
def PTs(X:Cx)(a:Zg)(t:TT):Prop:=
 ∀(pins:Zc) (s:Shared) (σ:St) (H:Hp) (Q:Bool->Hp->Prop),Inv X pins σ H s->t σ H Q ->
  wpAny 'c' X.A (forIn a true λc r=>if r=true then do let ok ←isTrue c X.env (eval c X.env);pure (ForInStep.yield ok) else pure (ForInStep.yield r)) (TP X pins σ Q) X.xe s
def tYes:TT:=λ_ H Q=>Q true H
theorem Df{X:Cx}:PTs X [] tYes:=λ_ _ _ H _ I h=>wpAny_tests_nil ⟨H,I,h⟩
theorem Dg{X:Cx}{c:Expr}{t:TT}(h:PT X c t):PTs X [c] t:=λpins s σ H Q I q=>wpAny_tests_one (h pins s σ H Q I q)
def tV(J:It)(g:TG)(tc:TT)(te:TE)(Fin:List V->Hp->Prop)(σ0:St)(k:Hp):Prop:=
 ∃W:Nat->Nat->List V->St->Hp->Prop,(∃m,W 0 m [] σ0 k)/\∀i m ys σ H,W i m ys σ H ->
  (J.stop i H/\Fin ys H)\/(J.go i H/\ys.length<sizeLine/\∃N:List V->St->Hp->Prop,(∀c d H',N c d H'->∃f,f<m/\W (i+1) f c d H') /\
   ∀x H',J.yld i H x H'->g x σ H' λa l=>tc a l λb j=>if b=true then te a j (λy n=>N (ys++[y]) a n) else N ys a j)
section
variable {prog:Zw}{w:World}{A:Around}{R:Result->Shared->Prop}{s:Shared}
theorem oG{g a b:Expr}{d:Zg}{scope:Scope}{pos:Pos}{it h_:Value}{env:Env}(I:Nat->Shared->Prop)
  (f:∀n s,I n s->wpAny 'e' A (pyNext it) (λr j=>match r with
   |none=>R (.ok .next) j
   |some v=>wpAny 'e' A (letOwnedTupleGo a it v) (λ_ l=>wpAny 'e' A (assign a env v) (λ_ o=>
     wpAny 'e' A (forIn d true λc r=>if r=true then do let ok ←isTrue c env (eval c env);pure (ForInStep.yield ok) else pure (ForInStep.yield r)) (λok k=>
      if ok=true then wpAny 'e' A (eval g env) (λx p=>
       wpAny 'e' A (call (.builtin "list.append") [h_,x]) (λ_ u=>∃m,m<n/\I m u) (λ_ _=>False) p) (λ_ _=>False) k
      else ∃m,m<n/\I m k) (λ_ _=>False) o) (λ_ _=>False) l) (λ_ _=>False) j) (λ_ _=>False) s)
  (n:Nat) (h:I n s):
  codeAny 'e' A (.compLoop (.ListComp g [⟨a,b,d,0⟩] scope pos) 0 it h_ env) R s:=by
 refine codeAny_loop rfl I (λn s B=>?_) n h;show wpAny _ A ((compTurn (.ListComp g [⟨a,b,d,0⟩] scope pos) 0 it h_ env).onRaise (λx=>do noteFrame x env;theTreesLotGoes x)) _ _ s;refine wpAny_noted (wpAny_noRaise ?_);rw[compTurn_list];refine Yb (Yk (Yb (wpAny_mono (f n s B) (λr j y=>?_) λ_ _ h'=>h')));cases r with
 |none=>exact Yc y
 |some v=>
  refine Yb (wpAny_mono y (λ_ l C=>?_) λ_ _ h'=>h');refine Yb (wpAny_mono C (λ_ o G=>Yb (wpAny_mono G (λok k z=>?_) λ_ _ h'=>h')) λ_ _ h'=>h');cases ok with
  |false=>exact Yc ⟨rfl,z⟩
  |true=>
   exact Yb (Yb (wpAny_mono z (λx p J=>Yb (wpAny_mono J (λ_ u K=>Yc (Yc ⟨rfl,K⟩)) λ_ _ h'=>h')) λ_ _ h'=>h'))
end
section
variable {X:Cx}{pins:Zc}{σ:St}{H:Hp}{s:Shared}
theorem sH{GS tg l:Expr}{ac:Zg}{scope Hq:Scope}{N own N2:Zf}{pos ap:Pos}{wi:TI}{g:TG}{tc:TT}{te:TE}{use:Option (Value->Sem Unit)}{QQ:Zb}{Fin:List V->Hp->Prop}
  (L:CompScope Hq scope N own N2) (ho:X.env.scope=Hq) (hN:X.N=N) (hc:X.calm=true) (hi:PI X tg l wi)
  (hg:∀C s H ex pn,PG (cxC X scope own N2 C s H ex pn) tg g) (ht:∀C s H ex pn,PTs (cxC X scope own N2 C s H ex pn) ac tc) (he:∀C s H ex pn,PE (cxC X scope own N2 C s H ex pn) GS te)
  (I:Inv X pins σ H s) (h:wi σ H λJ H1=>tV J g tc te Fin (σ++List.replicate own.length none) H1)
  (fin:∀(D C:Addr) (ys:List V) (H':Hp) (P:Shared) (m:Ze),Fin ys H'->H' D=none->Inv X pins σ (upd H' D (.lst ys)) P->P.heap.Ns C m->FpOk X pins (upd H' D (.lst ys)) C ->
   compPost 'c' X.A X.xe use QQ (.ref D) C (.ok .next) P)
  (hs:∀x,foldedSetIterable l X.env x=pure x):
  wpAny 'c' X.A (comprehension (.ListComp GS [⟨tg,l,ac,0⟩] scope pos) scope X.env ap (newList []) false (eval l X.env) use) QQ X.xe s:=by
 subst ho hN;have O:∀x∈scope.names,x.2=.free->∃c,X.env.cells.lookup x.1=some c:=λx hx hf=>I.ok.has x.1 (L.free x hx hf)
 refine wpAny_comprehension_free (use:=use) rfl hs (tH O) L.kind L.names (thn (hi pins s σ H _ I h) λv s1 h1=>thn h1 λNb s2 h2=>?_);obtain⟨it,fp,tn,J,R,e,a,T,Hd,U,W,⟨m0,w0⟩,a1⟩:=h2;subst e;refine wpAny_newObj_type (wpAny_newFunctionEnv L.nocell (by intro y hy;simp at hy) (λG7 HM Hr=>?_) L.kind);dsimp only at HM Hr ⊢;generalize hG:s2.heap.push { cls:=.type "list",dict:=none,data:=.seq ([]:List Value).toArray }=G at HM Hr ⊢;have hC:G.objs.size=s2.heap.objs.size+1:=by rw[←hG,Heap.size_push]
 have ME:s2.heap.objs.size≠G.objs.size:=by rw[hC];exact ZW (YN _)
 have Kb:s2.heap.objs.size<=G.objs.size:=by rw[hC];exact YQ _
 have f:∀b,b<s2.heap.objs.size->b≠G.objs.size/\b≠s2.heap.objs.size:=λb hb=>⟨by rw[hC];exact ZW (XO hb),ZW hb⟩
 have B:∀b o,s2.heap.get? b=some o->G7.get? b=some o:=λb o e=>Hr.extBut b o (f b (Ye e)).1 (Yd _ (hG▸Yd _ e))
 have z_:G7.get? s2.heap.objs.size=some (LCg.lst []):=Hr.extBut _ _ ME (Yd _ (hG▸Yg _ rfl));have Jp:∀b∈fp,b<s2.heap.objs.size:=λb hb=>let⟨o,e,_⟩:=T.obj 0 _ Hd b hb;Ye e
 have PR:R s2.heap.objs.size=none:=a.hok.fresh (YH _);have Rf:R G.objs.size=none:=a.hok.fresh Kb;have Kc:∀x c,X.env.cells.lookup x=some c->c<s2.heap.objs.size:=λx c e=>let⟨v,z⟩:=a.cell x c e;z.lt
 have Lu:∀p∈X.pn++pins,p.1<s2.heap.objs.size:=λp hp=>Ye (a.pin p hp).1
 -- the block's context
 generalize hX:cxC X scope own N2 G.objs.size s2 R fp (X.pn++pins)=j;have Ka:j.Ok:=by
  subst hX;refine⟨a.ok.mod,L.kind,a.ok.glob,a.ok.blt,Kb,λx y c e1 e2=>a.ok.inj x y c (im O e1) (im O e2),λx hx=>?_,λx c hf=>?_,a.ok.hd,a.ok.frames,.inl rfl,λb hb=>?_,a.bs,
   ZZ a.ok.bsz a.sz,λb o e hb=>?_,λb hb hz=>?_,a.stack,a.stkFree⟩
  ·have Kd:(relabel scope X.env).names.lookup x=some .cell\/(relabel scope X.env).names.lookup x=some .free:=hx
   unfold relabel at Kd;dsimp only at Kd;rw[dl] at Kd;have hm:∃k,scope.names.lookup x=some k:=by
    cases q:scope.names.lookup x with
    |none=>rw[q] at Kd;rcases Kd with z | z<;>cases z
    |some k=>exact⟨k,rfl⟩
   obtain⟨k,hk⟩:=hm;have GK:=PySem.mem_of_lookup hk;have Rg:k=.free:=by
    rw[hk] at Kd;cases k with
    |free=>rfl
    |cell=>exact absurd rfl (L.nocell _ GK)
    |_=>rcases Kd with z | z<;>cases z
   subst Rg;obtain⟨c,hc⟩:=O _ GK rfl;exact⟨c,zi O GK hc⟩
  ·cases hf
  ·obtain⟨_,f1,ff,fx,fc,PU⟩:=U b hb
   exact⟨(f b (Jp b hb)).1,λx c e=>fc x c (im O e)⟩
  ·obtain⟨_,_,_,fx,_,_⟩:=U b hb
   rcases fx with z | z
   ·exact a.ok.noex b o e z
   ·exact absurd (ZU (Ye e) (ZZ a.ok.bsz z)) (ZV _)
  ·obtain⟨_,f1,ff,_⟩:=U b hb
   rcases YC.mp (a.stkSub b hz) with z | z
   ·exact f1 z
   ·exact ff z
 have I0:Inv j [(s2.heap.objs.size,LCg.lst [])] (σ++List.replicate own.length none) R { s2 with heap:=G7,toks:=s2.toks+([]:List (Str×Value)).length }:=by
  subst hX;refine⟨Ka,rfl,a.bare,Un.kept B,⟨_,HM,λi x v e1 e2 e3=>?_⟩,λx c e=>?_,Rf,λx c e=>a.freeC x c (im O e),λp hp=>?_,a.hok.kept B,?_⟩
  ·have e1:(N2++own)[i]?=some x:=e1
   have MF:i<σ.length:=by
    by_cases MF:i<σ.length
    ·exact MF
    ·rw[ZI 'a',List.getElem?_replicate] at e2
     split at e2<;>cases e2
   rw[ZF MF] at e2;have n_:N2.length=σ.length:=L.len.trans a.len.symm;rw[ZF 'a'] at e1;have PV:i<X.N.length:=by rw[←a.len];exact MF
   have hz:(x,X.N[i])∈N2.zip X.N:=by
    refine YV (i:=i) ?_;rw[List.getElem?_zip_eq_some];exact⟨e1,ZE PV⟩
   obtain⟨v1,v2⟩:=L.vis _ hz;have Ke:Vis (relabel scope X.env) x:=e3;have NW:scope.names.lookup x=some .free:=by
    unfold Vis relabel at Ke;dsimp only at Ke;rw[dl] at Ke;cases q:scope.names.lookup x with
    |none=>rw[q] at Ke;rcases Ke with z | z | z<;>cases z
    |some k=>
     rw[q] at Ke;cases k with
     |free=>rfl
     |cell=>exact absurd rfl (L.nocell _ (PySem.mem_of_lookup q))
     |«local»=>exact absurd q v2
     |_=>rcases Ke with z | z | z<;>cases z
   have GK:=PySem.mem_of_lookup NW;have ex:x=X.N[i]:=v1 NW;have Rh:X.N[i]?=some x:=by rw[ex];exact ZE PV
   have PX:=L.free _ GK rfl;obtain⟨m,hn,hl⟩:=a.loc;obtain⟨u,ru,lk⟩:=hl i x v Rh e2 (.inr PX);refine⟨u,ru,?_⟩;rcases lk with⟨k,_⟩ | ⟨k,c,ec,z⟩
   ·have k':X.env.scope.names.lookup x=some .local:=k
    rcases PX with q | q<;>(have q':X.env.scope.names.lookup x=_:=q;rw[k'] at q';cases q')
   ·refine .inr ⟨?_,c,zi O GK ec,?_⟩
    ·show(relabel scope X.env).names.lookup x=some .cell\/(relabel scope X.env).names.lookup x=some .free
     unfold relabel;dsimp only;rw[dl,NW];show some (if _ then NameKind.cell else NameKind.free)=_\/some (if _ then NameKind.cell else NameKind.free)=_;split
     ·exact .inl rfl
     ·exact .inr rfl
    ·obtain⟨o,eo,d⟩:=z
     exact⟨o,B _ _ eo,d⟩
  ·obtain⟨v,o,eo,d⟩:=a.cell x c (im O e)
   exact⟨v,o,B _ _ eo,d⟩
  ·have hp:p∈(X.pn++pins)++[(s2.heap.objs.size,LCg.lst [])]:=hp
   rcases YD.mp hp with hp | hp
   ·obtain⟨e,n,nl,nf,d⟩:=a.pin p hp
    refine⟨B _ _ e,n,(f _ (Ye e)).1,λhz=>?_,d⟩;rcases YC.mp (a.stkSub p.1 hz) with z | z
    ·exact nl z
    ·exact nf z
   ·have e:p=(s2.heap.objs.size,LCg.lst []):=by simpa using hp
    subst e;refine⟨z_,PR,ME,λhz=>?_,λv z=>by cases z⟩;rcases YC.mp (a.stkSub _ hz) with z | z
    ·exact absurd a.lt (by rw[←z];exact ZV _)
    ·exact a.nofs (YH _) z
  ·show(σ++List.replicate own.length none).length=(N2++own).length
   rw[ZM,ZM,List.length_replicate,L.len,a.len]
 have HJ:∀{H':Hp}{us:Zd},(∀b∈fp,H' b=none)->∀b∈fp,FpOk j [(s2.heap.objs.size,LCg.lst us)] H' b:=λ{H' us} hn b hb=>by
  subst hX;obtain⟨_,f1,ff,fx,fc,PU⟩:=U b hb;refine⟨hn b hb,(f b (Jp b hb)).1,λhz=>?_,.inl hb,λx c e=>fc x c (im O e),λp hp z=>?_⟩
  ·rcases YC.mp (a.stkSub b hz) with z | z
   ·exact f1 z
   ·exact ff z
  ·have hp:p∈(X.pn++pins)++[(s2.heap.objs.size,LCg.lst us)]:=hp
   rcases YD.mp hp with hp | hp
   ·exact PU p hp z
   ·have e:p=(s2.heap.objs.size,LCg.lst us):=by simpa using hp
    subst e;exact(f b (Jp b hb)).2 z.symm
 have eP:j.prog=X.prog:=by subst hX;rfl
 have eW:j.w=X.w:=by subst hX;rfl
 have eK:j.K=X.K:=by subst hX;rfl
 have eA:j.A=X.A:=by subst hX;rfl
 have eE:j.env=compEnvC scope (clOf scope X.env) G.objs.size X.env:=by subst hX;rfl
 have eX:j.xe=λ_ _=>False:=by subst hX;rfl
 have eC:j.calm=true:=by subst hX;exact hc
 have eS:j.s₀=s2:=by subst hX;rfl
 have eH:j.H₀=R:=by subst hX;rfl
 have eF:j.fs=frs X.stack:=by subst hX;rfl
 have Ri:j.ex=fp:=by subst hX;rfl
 have eN:j.pn=X.pn++pins:=by subst hX;rfl
 have A_:=hg G.objs.size s2 R fp (X.pn++pins);have JW:=ht G.objs.size s2 R fp (X.pn++pins);have PY:=he G.objs.size s2 R fp (X.pn++pins);rw[hX] at A_ JW PY;have Z:∀HL:Shared,HL={ s2 with heap:=G7,toks:=s2.toks+([]:List (Str×Value)).length } ->
   codeAny 'c' X.A (.compLoop (.ListComp GS [⟨tg,l,ac,0⟩] scope pos) 0 (.ref it) (.ref s2.heap.objs.size) (compEnvC scope (clOf scope X.env) G.objs.size X.env))
    (compPost 'c' X.A X.xe use QQ (.ref s2.heap.objs.size) G.objs.size) HL:=by
  rintro HL rfl;refine oG (λn P=>∃i ys us k_ H',Inv j [(s2.heap.objs.size,LCg.lst us)] k_ H' P/\tn i P.heap/\(∀b∈fp,H' b=none)/\Vals ys us/\ys.length<=sizeLine/\W i n ys k_ H') ?_ m0
   ⟨0,[],[],_,R,I0,T.keep 0 _ _ Hd λb _ o e=>B b o e,λb hb=>(U b hb).1,.nil,YO _,w0⟩
  rintro n s3 ⟨i,ys,us,G6,S,I3,Je,Lc,hv,hz,w3⟩;rcases a1 i n ys G6 S w3 with⟨stop,qn⟩ | ⟨go,GI,NN,PZ,step⟩
  ·have dn:=T.done j eP eW eK eC i _ s3 G6 S (λ_ _=>False) I3 (HJ Lc) Je stop
   rw[eA] at dn;refine thn dn λr s4 G5=>?_
   obtain⟨hr,I4⟩:=G5;subst hr;have pD:=I4.pin (s2.heap.objs.size,LCg.lst us) (YI _ YA);have NX:S s2.heap.objs.size=none:=pD.2.1;have Rj:S G.objs.size=none:=by have:=I4.free;rw[eE] at this;exact this
   have un:Un (frs X.stack) fp R S s2.heap s4.heap:=by have:=I4.base;rw[eF,Ri,eH,eS] at this;exact this
   have Rk:HOk X.prog X.w S s4.heap:=by have:=I4.hok;rw[eP,eW] at this;exact this
   have NY:HOk X.prog X.w (upd S s2.heap.objs.size (.lst ys)) s4.heap:=λb u e=>by
    by_cases hb:b=s2.heap.objs.size
    ·subst hb
     rw[aw] at e;cases e;exact⟨hz,us,us.length,hv,pD.1⟩
    ·rw[aB hb] at e
     refine(Rk b u e).stay (λc v _ q=>q) (λc q=>?_) λc xs q=>?_
     ·rw[aB (aT q NX)];exact q
     ·rw[aB (aT q NX)];exact q
   have Rl:s4.os=s2.os:=by have:=I4.os;rw[eS] at this;exact this
   have I5:Inv X pins σ (upd S s2.heap.objs.size (.lst ys)) s4:=a.call' Rl (un.track (YH _) PR) NY I4.bare λb hb=>⟨(U b hb).2.2.2.1,(U b hb).2.1,(U b hb).2.2.2.2.1,(U b hb).2.2.2.2.2⟩
   obtain⟨m,hn,_⟩:=I4.loc;rw[eE] at hn;exact fin _ _ ys S s4 m qn NX I5 hn (a.fpOk Kb (by rw[aB (Ne.symm ME)];exact Rj))
  ·have P0:=T.item j eP eW eK eC i _ s3 G6 S (λ_ _=>False) I3 (HJ Lc) Je go
   rw[eA] at P0;refine thn P0 λr s4 Ho=>?_
   obtain⟨u,hr,h4⟩:=Ho;subst hr;refine thn h4 λ_ s5 IM=>?_
   obtain⟨x,H5,I5,r5,y5,J3,Ni⟩:=IM;have Nj:=I5.pinned (HJ Ni) (T.obj _ _ J3);have a5:=A_ _ s5 G6 H5 x u _ Nj r5 (step x H5 y5);rw[eP,eW,eA,eE,eX] at a5;refine thn a5 λ_ s6 IP=>?_
   obtain⟨Y,H6,I6,q6⟩:=IP;have a6:=JW _ s6 Y H6 _ I6 q6;rw[eP,eW,eA,eE,eX] at a6;refine thn a6 λok s7 HN=>?_
   obtain⟨H7,I7,q7⟩:=HN;have Ia:∀{k_:St}{H':Hp}{P:Shared}{Jq:Zd},Inv j ([(s2.heap.objs.size,LCg.lst Jq)]++ii fp s5.heap) k_ H' P->tn (i+1) P.heap/\∀b∈fp,H' b=none:=λ{k_ H' P Jq} J'=>by
    refine⟨T.keep _ _ _ J3 λb hb o e=>(J'.pin (b,o) (YI _ (YI _ (jc hb e)))).1,λb hb=>?_⟩;obtain⟨o,e,d⟩:=T.obj _ _ J3 b hb;exact(J'.pin (b,o) (YI _ (YI _ (jc hb e)))).2.1
   cases ok with
   |false=>
    obtain⟨m',hm,w7⟩:=PZ _ _ _ (by simpa using q7);exact⟨m',hm,i+1,ys,us,Y,H7,I7.unpinned,(Ia I7).1,(Ia I7).2,hv,hz,w7⟩
   |true=>
    have q7:te Y H7 (λy H4=>NN (ys++[y]) Y H4):=by simpa using q7
    have a7:=PY _ s7 Y H7 _ I7 q7;rw[eP,eW,eA,eE,eX] at a7;refine thn a7 λuy s8 Jr=>?_
    obtain⟨y,H8,I8,r8,q8⟩:=Jr;have pD:=I8.pin (s2.heap.objs.size,LCg.lst us) (YI _ (List.mem_append_left _ YA));have Tx:us.length=ys.length:=hv.length.symm;refine append_at (hsz:=by rw[YJ];omega) pD.1 λh9 Rm Rn=>?_
    obtain⟨m',hm,w8⟩:=PZ _ _ _ q8;have Ro:Inv j (ii fp s5.heap) Y H8 s8:=I8.pins_of λp hp=>I8.pin p (YI _ (YI _ hp))
    have I9:Inv j (ii fp s5.heap) Y H8 { s8 with heap:=h9 }:=Ro.turned (t':=s8.toks) (it:=s2.heap.objs.size) (λb o hb e=>(Rm.2 b hb).trans e) pD.2.1 (by rw[eE];exact ME) (.inr (by rw[eS];exact YH _))
     (λx c e=>by
      rw[eE] at e;exact ZW (Kc x c (im O e)))
     (λp hp=>by
      rw[eN] at hp;rcases YD.mp hp with z | z
      ·exact ZW (Lu p z)
      ·exact ZW (Jp _ (ss z).1))
    have NZ:Inv j ([(s2.heap.objs.size,LCg.lst (us++[uy]))]++ii fp s5.heap) Y H8 { s8 with heap:=h9 }:=I9.pins_of λp hp=>by
     rcases YD.mp hp with z | z
     ·have e:p=(s2.heap.objs.size,LCg.lst (us++[uy])):=by simpa using z
      subst e;exact⟨Rn.trans (congrArg some (LCg.lst_snoc us uy)),pD.2.1,pD.2.2.1,pD.2.2.2.1,λv z=>by cases z⟩
     ·exact I9.pin p (YI _ z)
    exact⟨m',hm,i+1,ys++[y],us++[uy],Y,H8,NZ.unpinned,(Ia NZ).1,(Ia NZ).2,hv.append (.cons r8 .nil),by rw[ZM,List.length_singleton];omega,w8⟩
 exact codeAny_compStart_list (Z _ rfl) (T.self X.A 0 _ _ _ (T.keep 0 _ _ Hd λb _ o e=>B b o e) (Z _ rfl))
def GB(k:Nat)(a:TI)(g:TG)(tc:TT)(te:TE):TE:=λσ H Q=>a σ H λJ b=>tV J g tc te (λys H'=>∀p,H' p=none->Q (.ref p) (upd H' p (.lst ys))) (σ++List.replicate k none) b
theorem Dh{f tg a:Expr}{c:Zg}{scope Hq:Scope}{N own N2:Zf}{pos:Pos}{j:TI}{g:TG}{tc:TT}{te:TE}(k:CompScope Hq scope N own N2)(hc:X.calm=true)(hi:PI X tg a j)
  (hg:∀C s H ex pn,PG (cxC X scope own N2 C s H ex pn) tg g) (ht:∀C s H ex pn,PTs (cxC X scope own N2 C s H ex pn) c tc) (l:∀C s H ex pn,PE (cxC X scope own N2 C s H ex pn) f te)
  (ho:X.env.scope=Hq:=by rfl) (n:X.N=N:=by rfl) (p:∀x,foldedSetIterable a X.env x=pure x:=by intro _;rfl):
  PE X (.ListComp f [⟨tg,a,c,0⟩] scope pos) (GB own.length j g tc te):=by
 intro pins s σ H Q I h;rw[eval_ListComp];refine sH (use:=none) k ho n hc hi hg ht l I h (λD C ys H' r m q u y hn d=>⟨m,hn,λh' z=>⟨.ref D,_,?_,rfl,q D u⟩⟩) p;exact y.turned (t':=r.toks) (λb o hb e=>(z.2 b hb).trans e) d.1 d.2.1 d.2.2.2.1 d.2.2.2.2.1 d.2.2.2.2.2
def GC(i k:Nat)(a:TI)(g:TG)(tc:TT)(te:TE):TS:=λD σ H=>a σ H λJ b=>tV J g tc te (λys H'=>∀p,H' p=none->D.nx (σ.set i (some (.ref p))) (upd H' p (.lst ys))) (σ++List.replicate k none) b
theorem Di{k tg c:Expr}{d:Zg}{scope Hq:Scope}{N own N2:Zf}{pos j n:Pos}{p:TI}{g:TG}{tc:TT}{te:TE}{i:Nat}{y:Str}(r:CompScope Hq scope N own N2)(hc:X.calm=true)
  (u:X.N.Nodup) (hy:X.N[i]?=some y) (hl:X.env.scope.names.lookup y=some .local)
  (hi:PI X tg c p)
  (hg:∀C s H ex pn,PG (cxC X scope own N2 C s H ex pn) tg g) (ht:∀C s H ex pn,PTs (cxC X scope own N2 C s H ex pn) d tc) (B:∀C s H ex pn,PE (cxC X scope own N2 C s H ex pn) k te)
  (G:swapsWith (.ListComp k [⟨tg,c,d,0⟩] scope pos) (some (.Name y j)) n.line X.env=pure true:=by rfl)
  (ho:X.env.scope=Hq:=by rfl) (J:X.N=N:=by rfl) (K:∀x,foldedSetIterable c X.env x=pure x:=by intro _;rfl):
  PS X (.Assign [.Name y j] (.ListComp k [⟨tg,c,d,0⟩] scope pos) n) (GC i own.length p g tc te):=by
 intro pins s σ H D I h;rw[exec_Assign_Name_used _ _ _ _ G];refine Yb (Yk (Yb ?_));show wpAny _ X.A (do let _ ←comprehension (.ListComp k [⟨tg,c,d,0⟩] scope pos) scope X.env _ (newList []) false (eval c X.env) (some (assign (.Name y j) X.env))) _ _ s;refine Yb (thn (sH (use:=some (assign (.Name y j) X.env)) (QQ:=λ_ l=>SP X pins D .next l) r ho J hc hi hg ht B I h (λD' C ys H' l m q L O hn f=>?_) K) (λ_ l hq=>Yc (Yc hq)));show wpAny _ X.A (assign (.Name y j) X.env (.ref D')) _ _ _;refine wpAny_assign_Name (sr O u hy (.inl hl) (show RelV (.ref D') (.ref D') from rfl) (λP R S=>?_) (.inr hl));obtain⟨a,T,ha⟩:=S;have U:C≠a:=by
  rcases ha with z | z
  ·rw[z];exact f.2.1
  ·exact(f.2.2.2.2.1 y a z).symm
 refine⟨m,hn.sameBut T U,λh' V=>⟨_,_,?_,q D' L⟩⟩;exact R.turned (t':=P.toks) (λb o hb e=>(V.2 b hb).trans e) f.1 f.2.1 f.2.2.2.1 f.2.2.2.2.1 f.2.2.2.2.2
end
def Its(x:Str):It:=⟨λi _=>i<x.cps.size,λi H v H'=>H'=H/\∃c,x.cps[i]?=some c/\v=.str ⟨#[c]⟩,λi _=>i=x.cps.size⟩
theorem zj{P:Zw}{w:World}{K:Za}{tg:Expr}(it:Addr)(x:Str)(t:Tok):Turn P w K tg (Its x) [it] it (λi h=>h.IsStrIter it "str_ascii_iterator" x t i) where
 mem:=by simp
 obj:=λi h st b hb=>by
  have e:b=it:=by simpa using hb
  subst e;obtain⟨o,e,c,d⟩:=st;exact⟨o,e,λv z=>by rw[d] at z;cases z⟩
 keep:=λi h h' st k=>let⟨o,e,r⟩:=st;⟨o,k it (by simp) o e,r⟩
 item:=by
  rw[0];obtain⟨a,f,m,g,j,l⟩:=hf it (by simp);have W:=Walks.strAscii (prog:=X.prog) (w:=X.w) (I.ok.hd hc) it x t;refine W.item i s _ _ hg st λv h' tk hv f_ kk=>?_
  obtain⟨c,u,n,rfl⟩:=hv;have p:Inv X pins σ H { s with heap:=h',toks:=tk }:=I.turned (λb o hb e=>kk b o (by simpa using hb) e) a f g j l;obtain⟨o,e,y,d⟩:=id f_;exact⟨_,rfl,nR (s:={ s with heap:=h',toks:=tk }) e y d 'b' ⟨.str ⟨#[c]⟩,H,p,⟨u,rfl⟩,⟨rfl,c,n,rfl⟩,f_,λb hb=>(hf b hb).1⟩⟩
 done:=by
  rw[0];obtain⟨a,f,m,g,j,l⟩:=hf it (by simp);have W:=Walks.strAscii (prog:=X.prog) (w:=X.w) (I.ok.hd hc) it x t;have A:i=x.cps.size:=hg;subst A;exact W.done s _ _ st λh' tk kk=>⟨rfl,I.turned (λb o hb e=>kk b o (by simpa using hb) e) a f g j l⟩
 self:=λ_ _ _ _ _ st h=>wpAny_pyIter_striter_ascii st h
theorem zk{P:Zw}{w:World}{K:Za}{tg:Expr}(it:Addr)(x:Str)(t:Tok):Turn P w K tg (Its x) [it] it (λi h=>h.IsStrIter it "str_iterator" x t i) where
 mem:=by simp
 obj:=λi h st b hb=>by
  have e:b=it:=by simpa using hb
  subst e;obtain⟨o,e,c,d⟩:=st;exact⟨o,e,λv z=>by rw[d] at z;cases z⟩
 keep:=λi h h' st k=>let⟨o,e,r⟩:=st;⟨o,k it (by simp) o e,r⟩
 item:=by
  rw[0];obtain⟨a,f,m,g,j,l⟩:=hf it (by simp);have W:=Walks.strWide (prog:=X.prog) (w:=X.w) (I.ok.hd hc) it x t;refine W.item i s _ _ hg st λv h' tk hv f_ kk=>?_
  obtain⟨c,u,n,rfl⟩:=hv;have p:Inv X pins σ H { s with heap:=h',toks:=tk }:=I.turned (λb o hb e=>kk b o (by simpa using hb) e) a f g j l;obtain⟨o,e,y,d⟩:=id f_;exact⟨_,rfl,nR (s:={ s with heap:=h',toks:=tk }) e y d 'b' ⟨.str ⟨#[c]⟩,H,p,⟨u,rfl⟩,⟨rfl,c,n,rfl⟩,f_,λb hb=>(hf b hb).1⟩⟩
 done:=by
  rw[0];obtain⟨a,f,m,g,j,l⟩:=hf it (by simp);have W:=Walks.strWide (prog:=X.prog) (w:=X.w) (I.ok.hd hc) it x t;have A:i=x.cps.size:=hg;subst A;exact W.done s _ _ st λh' tk kk=>⟨rfl,I.turned (λb o hb e=>kk b o (by simpa using hb) e) a f g j l⟩
 self:=λ_ _ _ _ _ st h=>wpAny_pyIter_striter_wide st h
section
variable {X:Cx}
theorem zl{bs:List Bool}{c_:Zd}(r:Vals (bs.map V.bl) c_){i:Nat}{v:Value}(h:c_[i]?=some v):v=.bool ((bs[i]?).getD false):=by
 have hl:=r.length;rw[ZG] at hl;have hi:i<bs.length:=by have:=(YE.mp h).1;omega
 obtain⟨u,hu,a⟩:=r.get (i:=i) (x:=V.bl bs[i]) (by rw[ZH,ZE hi];rfl);rw[h] at hu;cases hu;have a:v=Value.bool bs[i]:=a;rw[a,ZE hi];rfl
theorem range_all{bs:List Bool}{n:Nat}(hn:n=bs.length):((List.range n).all λi=>(bs[i]?).getD false)=bs.all id:=by
 subst hn;rw[Bool.eq_iff_iff,XQ,XQ];constructor
 ·intro h b hb
  obtain⟨i,hi,e⟩:=List.mem_iff_getElem.mp hb
  have:=h i (ZY.mpr hi)
  rw[ZE hi] at this;rw[←e];exact this
 ·intro h i hi
  have hi:=ZY.mp hi;rw[ZE hi];exact h _ (List.getElem_mem hi)
theorem A1(hc:X.calm=true):dU X (.builtin "all") (λxs H Q=>∃p bs,xs=[.ref p]/\SqL X.K H p (List.map V.bl bs)/\Q (.bl (bs.all id)) H):=by
 intro pins s σ H xs us Q I r h;obtain⟨p,bs,rfl,hq,q⟩:=h;obtain⟨u,rfl,c⟩:=vals1 r;cases c;obtain⟨c_,a,pl,hz⟩:=I.list hq;have d:p<s.heap.objs.size:=by obtain⟨o,_,e,_⟩:=pl;exact Ye e
 refine call_all_walk (wpAny_pyIter_list pl.isList ⟨s.heap.objs.size,_,_,_,_,_,λi=>(bs[i]?).getD false,rfl,Walks.list (A:=X.A.in1) (I.ok.hd hc) s.heap.objs.size p (ZW d) c_.toArray,
  ⟨⟨_,Yg _ rfl,rfl,rfl⟩,pl.isList.push _⟩,λi v g j k hv f=>?_,λh' tk kk=>?_⟩)
 ·have hv:c_[i]?=some v:=by simpa using hv
  rw[zl a hv];exact wpAny_truthy_bool f
 ·have e:c_.toArray.size=bs.length:=by have:=a.length;rw[ZG] at this;simp;omega
  rw[range_all e];refine⟨.bl _,H,I.kept λb o e=>kk b o ?_ (Yd _ e),rfl,q⟩;simp only[XR];exact ZW (Ye e)
theorem mulOk_of{x:Str}{n:Int}(a:0<=n)(h:x.length*n.toNat<=1048576)(hn:n<=1048576):MulOk x n:=by
 refine⟨?_,λb h2=>?_,λb h2=>?_⟩
 ·rw[Bool.or_eq_false_iff]
  exact⟨ZS 'a',ZS 'a'⟩
 ·intro c
  have d:1<=n:=by omega
  have f:(2 ^ 63-1:Int) / n*n<=2 ^ 63-1:=Int.ediv_mul_le _ 'a';have g:(2 ^ 63-1:Int)<((2 ^ 63-1) / n+1)*n:=Int.lt_ediv_add_one_mul_self _ 'a';have j:((2 ^ 63-1:Int) / n+1)*n<=(x.length:Int)*n:=Int.mul_le_mul_of_nonneg_right 'a' 'a';have k:((x.length*n.toNat:Nat):Int)=(x.length:Int)*n:=by rw[Int.natCast_mul,Int.toNat_of_nonneg a]
  have l:((x.length*n.toNat:Nat):Int)<=1048576:=by omega
  omega
 ·show decide (x.length*n.toNat>sizeLine)=false
  rw[sizeLine_eq];exact ZS 'a'
theorem xZ:OpR X (binaryOp .Mult) (λx y H Q=>∃z n,x=.str z/\y=.int n/\0<=n/\n<=1048576/\z.length*n.toNat<=1048576/\Q (.str (Txt.mul z n)) H):=by
 intro pins s σ H x y v u Q I a b h;obtain⟨z,n,rfl,rfl,c,hn,hz,q⟩:=h;obtain⟨t,rfl⟩:=a;obtain⟨t',rfl⟩:=b;exact SB.mul (mulOk_of c hz hn) λd k=>⟨.str _,H,I.tok _,⟨d,rfl⟩,q⟩
end
structure IsDef (K:Za) (mg:Ze) (x:Str) (st:Stmt) (ps:Zf) (f:Addr) (fd:Zv):Prop where
 fn:Fun K x x st f fd
 mgf:mg x=some (.ref f)
 b:Binds K fd ps []
theorem A2{K:Za}{h:Heap}{mg:Ze}{x:Str}{st:Stmt}{ps:Zf}{f:Addr}{oc:Value}{od an:Zm}{GX:Zn}{kV B_ pm y_ ct:Value}(X:K.In h)(G:h.Ns mainGlobals mg)
  (a:PySem.W.nsIn K mainGlobals x=some (some (.ref f))) (l:K.lookup f=some ⟨oc,od,.func (PySem.W.fnOf x x (bd st) (aF st) (ak st) .none kV B_ pm an y_ ct),GX⟩)
  (c:PySem.W.codeIn K y_ x=true) (k:PySem.W.keepIn K (.ref f)=true)
  (hb:∀(kV B_ pm:Value) (an:Zm) (y_ ct:Value) (us:Zd),us.length=ps.length->bindArgs (PySem.W.fnOf x x (bd st) (aF st) (ak st) .none kV B_ pm an y_ ct) ⟨us,[]⟩=pure (ps.zip us)):
  IsDef K mg x st ps f (PySem.W.fnOf x x (bd st) (aF st) (ak st) .none kV B_ pm an y_ ct):=by
 have F:=uz (st:=st) l c k;exact⟨F,PySem.W.mg_of X G a,F.binds hb⟩
section
variable {X:Cx}{k:Nat}{f:Addr}{fd:Zv}{ps:Zf}{sp:Sp}{x:Str}{st:Stmt}{p pos:Pos}{e:Expr}{es:Zg}{t:TA}
theorem Fi(D:IsDef X.K X.mg x st ps f fd)(F:FnOk X.prog X.w X.K X.mg X.base CX0 k f fd ps sp)(a:Room k X.A)(ha:PA X (e::es) t)(hg:Gl X x:=by rfl)(c:(x==("__debug__" : Str))=false:=by decide)
  (d:starEach (e::es) X.env=(false,eval e X.env)::starEach es X.env:=by rfl) (g:(backTo pos (starEach es X.env)).any (·.1)=false:=by rfl):PE X (.Call (.Name x p) (e::es) [] pos) (Ci sp [] E0 t):=
 C1 F a hg D.mgf D.fn.kp D.b .nil tU ha c d g
end
theorem zm(K:Za){a b:String}{r:Bool}(h:(if(Value.type a==Value.type b)=true then some true else if PySem.W.kitMeta b=true then(fastBuiltinMro a).map (·.contains (.type b)) else none)=some r):
  PySem.W.kitOne K (.type a) (.type b)=some r:=h
def ao:Expr->Bool
 |.Starred _ _=>false
 |_=>true
theorem aM{e:Expr}{es:Zg}{env:Env}(h:ao e=true):starEach (e::es) env=(false,eval e env)::starEach es env:=by
 cases e<;>first | rfl | (exact absurd (show false=true from h) YG)
end L2
namespace DD
open PySem PySem.Spec PyProof.Rows L2
inductive D where
 |non | bl (b:Bool) | int (i:Int) | str (x:Str) | tup (ds:List D) | ref (a:Addr) | ty (n:String)
section
variable {α β:Type}{F G:α->β->Prop}
theorem k7:∀{l:List α}{m:List β},Paired F l m->l.length=m.length
 |_,_,.nil=>rfl
 |_,_,.cons _ t=>by simp[k7 t]
theorem cy:∀{l:List α}{m:List β}{i:Nat}{a:α},Paired F l m->l[i]?=some a->∃b,m[i]?=some b/\F a b
 |_,_,_,_,.nil,e=>by simp at e
 |_,_,0,_,.cons r _,e=>by simp at e;subst e;exact⟨_,rfl,r⟩
 |_,_,i+1,a,.cons _ t,e=>by
  obtain⟨b,c,h2⟩:=cy (i:=i) (a:=a) t (by simpa using e);exact⟨b,by simpa using c,h2⟩
theorem aX:∀{l a:List α}{m b:List β},Paired F l m->Paired F a b->Paired F (l++a) (m++b)
 |_,_,_,_,.nil,s=>s
 |_,_,_,_,.cons r t,s=>.cons r (aX t s)
theorem nT:∀{l:List α}{m:List β}(n:Nat),Paired F l m->Paired F (l.take n) (m.take n)
 |_,_,0,_=>.nil
 |_,_,_+1,.nil=>.nil
 |_,_,n+1,.cons r t=>.cons r (nT n t)
theorem xa:∀{l:List α}{m:List β}(n:Nat),Paired F l m->Paired F (l.drop n) (m.drop n)
 |_,_,0,r=>r
 |_,_,_+1,.nil=>.nil
 |_,_,n+1,.cons _ t=>xa n t
theorem uA{a:α}{b:β}(r:F a b):∀{l:List α}{m:List β}(i:Nat),Paired F l m->Paired F (l.set i a) (m.set i b)
 |_,_,_,.nil=>.nil
 |_,_,0,.cons _ t=>.cons r t
 |_,_,i+1,.cons q t=>.cons q (uA r i t)
theorem k8(f:∀a b,F a b->G a b):∀{l:List α}{m:List β},Paired F l m->Paired G l m
 |_,_,.nil=>.nil
 |_,_,.cons r t=>.cons (f _ _ r) (k8 f t)
theorem lG{l:List α}{m:List β}(h:Paired F l m):Paired F l.reverse m.reverse:=by
 induction h with
 |nil=>exact .nil
 |cons r _ a=>rw[List.reverse_cons,List.reverse_cons];exact aX a (.cons r .nil)
theorem zn{l:List α}{m:List β}(h:Paired F l m):∀n,Paired F (List.replicate n l).flatten (List.replicate n m).flatten
 |0=>.nil
 |n+1=>by rw[XC,XC,XD,XD];exact aX h (zn h n)
theorem jy{a:α}{b:β}(r:F a b):∀n,Paired F (List.replicate n a) (List.replicate n b)
 |0=>.nil
 |n+1=>.cons r (jy r n)
end
section
variable (K:Za)(H:Hp)
mutual
noncomputable def RV:D->V->Prop
 |.non,v=>v=.non
 |.bl b,v=>v=.bl b
 |.int i,v=>v=.int i
 |.str x,v=>v=.str x
 |.ref a,v=>v=.ref a
 |.ty n,v=>v=.ty n
 |.tup ds,v=>∃a xs,v=.ref a/\SqT K H a xs/\RVs ds xs
noncomputable def RVs:List D->List V->Prop
 |[],xs=>xs=[]
 |d::ds,xs=>∃v vs,xs=v::vs/\RV d v/\RVs ds vs
end
end
section
variable {K:Za}{H H' P1:Hp}
theorem RVs.p:∀{ds:List D}{xs:List V},RVs K H ds xs->Paired (RV K H) ds xs
 |[],_,h=>by rw[RVs] at h;subst h;exact .nil
 |d::ds,_,h=>by
  rw[RVs] at h;obtain⟨v,vs,rfl,r,t⟩:=h;exact .cons r (RVs.p t)
theorem RVs.of:∀{ds:List D}{xs:List V},Paired (RV K H) ds xs->RVs K H ds xs
 |_,_,.nil=>by rw[RVs]
 |_,_,.cons r t=>by rw[RVs];exact⟨_,_,rfl,r,RVs.of t⟩
theorem RVs.nil:RVs K H [] []:=by rw[RVs]
theorem RVs.cons{d:D}{v:V}{ds:List D}{vs:List V}(r:RV K H d v)(t:RVs K H ds vs):RVs K H (d::ds) (v::vs):=by rw[RVs];exact⟨_,_,rfl,r,t⟩
theorem RVs.len{ds:List D}{xs:List V}(h:RVs K H ds xs):ds.length=xs.length:=k7 h.p
def Kp(H H':Hp):Prop:=(∀a xs,Rd H a (.tup xs)->Rd H' a (.tup xs))/\∀a u o,H a=some (.frz u o)->H' a=some (.frz u o)
theorem Kp.refl(H:Hp):Kp H H:=⟨λ_ _ h=>h,λ_ _ _ h=>h⟩
theorem Kp.trans(a:Kp H H')(b:Kp H' P1):Kp H P1:=⟨λc xs h=>b.1 c xs (a.1 c xs h),λc u o h=>b.2 c u o (a.2 c u o h)⟩
theorem Kp.new{p:Addr}{o:HO}(h:H p=none):Kp H (upd H p o):=⟨λa xs r=>by
 rcases r with r | ⟨u,r⟩
 ·exact .inl (by rw[aB (aT r h)];exact r)
 ·exact .inr ⟨u,by rw[aB (aT r h)];exact r⟩,λa u o r=>by rw[aB (aT r h)];exact r⟩
def Cm:HO->Prop
 |.tup _=>False
 |.frz _ _=>False
 |_=>True
theorem Kp.put{p:Addr}{o o':HO}(h:H p=some o)(n:Cm o):Kp H (upd H p o'):=⟨λa xs r=>by
 rcases r with r | ⟨u,r⟩
 ·have:a≠p:=λe=>by subst e;rw[h] at r;cases r;exact n
  exact .inl (by rw[aB this];exact r)
 ·have:a≠p:=λe=>by subst e;rw[h] at r;cases r;exact n
  exact .inr ⟨u,by rw[aB this];exact r⟩,λa u o r=>by
  have:a≠p:=λe=>by subst e;rw[h] at r;cases r;exact n
  rw[aB this];exact r⟩
theorem Kp.sq(t:Kp H H'){a:Addr}{xs:List V}(h:SqT K H a xs):SqT K H' a xs:=by
 rcases h with h | h
 ·exact .inl (t.1 a xs h)
 ·exact .inr h
mutual
theorem RV.mono(t:Kp H H'):∀(d:D){v:V},RV K H d v->RV K H' d v
 |.non,_,h=>by rw[RV] at h ⊢;exact h
 |.bl _,_,h=>by rw[RV] at h ⊢;exact h
 |.int _,_,h=>by rw[RV] at h ⊢;exact h
 |.str _,_,h=>by rw[RV] at h ⊢;exact h
 |.ref _,_,h=>by rw[RV] at h ⊢;exact h
 |.ty _,_,h=>by rw[RV] at h ⊢;exact h
 |.tup ds,_,h=>by
  rw[RV] at h ⊢;obtain⟨a,xs,e,s,r⟩:=h;exact⟨a,xs,e,t.sq s,RVs.mono t ds r⟩
theorem RVs.mono(t:Kp H H'):∀(ds:List D){xs:List V},RVs K H ds xs->RVs K H' ds xs
 |[],_,h=>by rw[RVs] at h ⊢;exact h
 |d::ds,_,h=>by
  rw[RVs] at h ⊢;obtain⟨v,vs,e,r,q⟩:=h;exact⟨v,vs,e,RV.mono t d r,RVs.mono t ds q⟩
end
theorem RV.non_{v:V}:RV K H .non v↔v=.non:=by rw[RV]
theorem RV.bl_{v:V}{b:Bool}:RV K H (.bl b) v↔v=.bl b:=by rw[RV]
theorem RV.int_{v:V}{b:Int}:RV K H (.int b) v↔v=.int b:=by rw[RV]
theorem RV.str_{v:V}{b:Str}:RV K H (.str b) v↔v=.str b:=by rw[RV]
theorem RV.ref_{v:V}{b:Addr}:RV K H (.ref b) v↔v=.ref b:=by rw[RV]
theorem RV.ty_{v:V}{b:String}:RV K H (.ty b) v↔v=.ty b:=by rw[RV]
theorem RV.tup_{v:V}{ds:List D}:RV K H (.tup ds) v ↔ ∃a xs,v=.ref a/\SqT K H a xs/\RVs K H ds xs:=by rw[RV]
inductive MO where
 |lst (ds:List D) | rol (ds:List D) | dic (e_:List (Key×D)) | rod (e_:List (Key×D)) | ins (C:Addr) (fs:List (Str×D))
abbrev MH:=Addr->Option MO
def updM(M:MH)(a:Addr)(o:MO):MH:=λb=>if b=a then some o else M b
theorem aa{M:MH}{a:Addr}{o:MO}:updM M a o a=some o:=by unfold updM;rw[if_pos rfl]
theorem az{M:MH}{a b:Addr}{o:MO}(h:b≠a):updM M a o b=M b:=by unfold updM;rw[if_neg h]
def RO(K:Za)(H:Hp)(a:Addr):MO->Prop
 |.lst ds=>∃xs,H a=some (.lst xs)/\RVs K H ds xs
 |.rol ds=>∃xs,Rd H a (.lst xs)/\RVs K H ds xs
 |.dic c=>∃b:List (Key×V),H a=some (.dK b)/\b.map (·.1)=c.map (·.1)/\RVs K H (c.map (·.2)) (b.map (·.2))
 |.rod c=>∃(u:Obj) (b:List (Key×V)),H a=some (.frz u (.dK b))/\b.map (·.1)=c.map (·.1)/\RVs K H (c.map (·.2)) (b.map (·.2))
 |.ins C fs=>∃(dx:Addr) (d:List (Str×V)),H a=some (.ins C dx d)/\d.map (·.1)=fs.map (·.1)/\RVs K H (fs.map (·.2)) (d.map (·.2))
def RM(K:Za)(M:MH)(H:Hp):Prop:=∀a o,M a=some o->RO K H a o
theorem RO.stay{a:Addr}{o:MO}(h:RO K H a o)(t:Kp H H')(e:H' a=H a):RO K H' a o:=by
 cases o with
 |lst ds=>obtain⟨xs,q,r⟩:=h;exact⟨xs,e.trans q,RVs.mono t _ r⟩
 |rol ds=>
  obtain⟨xs,q,r⟩:=h;refine⟨xs,?_,RVs.mono t _ r⟩;rcases q with q | ⟨u,q⟩
  ·exact .inl (e.trans q)
  ·exact .inr ⟨u,e.trans q⟩
 |dic c=>obtain⟨b,q,k,r⟩:=h;exact⟨b,e.trans q,k,RVs.mono t _ r⟩
 |rod c=>obtain⟨u,b,q,k,r⟩:=h;exact⟨u,b,e.trans q,k,RVs.mono t _ r⟩
 |ins C fs=>obtain⟨dx,d,q,k,r⟩:=h;exact⟨dx,d,e.trans q,k,RVs.mono t _ r⟩
theorem RO.some{a:Addr}{o:MO}(h:RO K H a o):H a≠none:=by
 cases o with
 |lst ds=>obtain⟨xs,q,_⟩:=h;rw[q];exact λz=>nomatch z
 |rol ds=>obtain⟨xs,q | ⟨u,q⟩,_⟩:=h<;>(rw[q];exact λz=>nomatch z)
 |dic b=>obtain⟨c,q,_⟩:=h;rw[q];exact λz=>nomatch z
 |rod b=>obtain⟨u,c,q,_⟩:=h;rw[q];exact λz=>nomatch z
 |ins C fs=>obtain⟨dx,d,q,_⟩:=h;rw[q];exact λz=>nomatch z
theorem RM.fresh{M:MH}{p:Addr}(h:RM K M H)(e:H p=none):M p=none:=by
 cases q:M p with
 |none=>rfl
 |some o=>exact absurd e (h p o q).some
theorem RM.newH{M:MH}{p:Addr}{o:HO}(h:RM K M H)(e:H p=none):RM K M (upd H p o):=λa u q=>
 (h a u q).stay (Kp.new e) (aB (λz=>by subst z;exact(h a u q).some e))
theorem RM.new{M:MH}{p:Addr}{o:HO}{m:MO}(h:RM K M H)(e:H p=none)(r:RO K (upd H p o) p m):RM K (updM M p m) (upd H p o):=λa u q=>by
 by_cases z:a=p
 ·subst z;rw[aa] at q;cases q;exact r
 ·rw[az z] at q;exact(h a u q).stay (Kp.new e) (aB z)
theorem RM.put{M:MH}{p:Addr}{o o':HO}{m:MO}(h:RM K M H)(e:H p=some o)(n:Cm o)(r:RO K (upd H p o') p m):RM K (updM M p m) (upd H p o'):=λa u q=>by
 by_cases z:a=p
 ·subst z;rw[aa] at q;cases q;exact r
 ·rw[az z] at q;exact(h a u q).stay (Kp.put e n) (aB z)
abbrev DS:=List (Option D)
abbrev ZD:=List (Key×D)
abbrev Zz:=Option D
def RS(K:Za)(H:Hp)(σ:DS)(ρ:L2.St):Prop:=Paired (λ(od:Zz) (a:Option V)=>∀d,od=some d->∃v,a=some v/\RV K H d v) σ ρ
theorem RS.mono{σ:DS}{ρ:L2.St}(t:Kp H H')(h:RS K H σ ρ):RS K H' σ ρ:=k8 (λod a r d e=>let⟨v,q,s⟩:=r d e;⟨v,q,RV.mono t d s⟩) h
theorem RS.get{σ:DS}{ρ:L2.St}{i:Nat}{d:D}(h:RS K H σ ρ)(e:σ[i]?=some (some d)):∃v,ρ[i]?=some (some v)/\RV K H d v:=by
 obtain⟨a,q,r⟩:=cy h e;obtain⟨v,rfl,s⟩:=r d rfl;exact⟨v,q,s⟩
theorem RS.set{σ:DS}{ρ:L2.St}{d:D}{v:V}(i:Nat)(h:RS K H σ ρ)(r:RV K H d v):RS K H (σ.set i (some d)) (ρ.set i (some v)):=uA (by intro d' e;cases e;exact⟨v,rfl,r⟩) i h
theorem RS.more{σ:DS}{ρ:L2.St}(n:Nat)(h:RS K H σ ρ):RS K H (σ++List.replicate n none) (ρ++List.replicate n none):=aX h (jy (λd e=>nomatch e) n)
end
abbrev DK:=D->MH->Prop
abbrev WE:=DS->MH->DK->Prop
abbrev WT:=DS->MH->(Bool->MH->Prop)->Prop
abbrev WA:=DS->MH->(List D->MH->Prop)->Prop
def lift(K:Za)(H:Hp)(Q:DK):VK:=λv H'=>Kp H H'/\∃d M',RV K H' d v/\RM K M' H'/\Q d M'
def tX(K:Za)(H:Hp)(Q:Bool->MH->Prop):Bool->Hp->Prop:=λb H'=>Kp H H'/\∃M',RM K M' H'/\Q b M'
def GD(K:Za)(H:Hp)(n:Nat)(Q:List D->MH->Prop):List V->Hp->Prop:=λvs H'=>Kp H H'/\∃ds M',RVs K H' ds vs/\ds.length=n/\RM K M' H'/\Q ds M'
section
variable (X:Cx)
def tW(e:Expr):TE:=λρ H Q=>∀pins s,Inv X pins ρ H s->wpAny 'c' X.A (eval e X.env) (EP X pins ρ Q) X.xe s
def tWT(e:Expr):TT:=λρ H Q=>∀pins s,Inv X pins ρ H s->wpAny 'c' X.A (isTrue e X.env (eval e X.env)) (TP X pins ρ Q) X.xe s
def tWA(es:Zg):TA:=λρ H Q=>∀pos pins s,Inv X pins ρ H s->wpAny 'c' X.A (spliced (backTo pos (starEach es X.env))) (AP X pins ρ Q) X.xe s
def tWS(st:Stmt):L2.TS:=λD ρ H=>∀pins s,Inv X pins ρ H s->wpAny 'c' X.A (exec st X.env) (SP X pins D) X.xe s
end
section
variable {X:Cx}{e a b c:Expr}{es:Zg}{ρ:L2.St}{H H':Hp}{pos:Pos}
theorem pe_W(e:Expr):PE X e (tW X e):=λpins s _ _ _ I h=>h pins s I
theorem pt_W(e:Expr):PT X e (tWT X e):=λpins s _ _ _ I h=>h pins s I
theorem pa_W(es:Zg):PA X es (tWA X es):=λpos pins s _ _ _ I h=>h pos pins s I
theorem bj{t:TE}{Q:VK}(h:PE X e t)(q:t ρ H Q):tW X e ρ H Q:=λpins s I=>h pins s ρ H Q I q
theorem uB{t:TT}{Q:Bool->Hp->Prop}(h:PT X e t)(q:t ρ H Q):tWT X e ρ H Q:=λpins s I=>h pins s ρ H Q I q
theorem zo{t:TA}{Q:List V->Hp->Prop}(h:PA X es t)(q:t ρ H Q):tWA X es ρ H Q:=λpos pins s I=>h pos pins s ρ H Q I q
theorem aD{Q d:VK}(h:tW X e ρ H Q)(f:∀v H',Q v H'->d v H'):tW X e ρ H d:=λpins s I=>thn (h pins s I) λ_ _ ⟨v,H',g,r,q⟩=>⟨v,H',g,r,f v H' q⟩
theorem et{Q d:Bool->Hp->Prop}(h:tWT X e ρ H Q)(f:∀v H',Q v H'->d v H'):tWT X e ρ H d:=λpins s I=>thn (h pins s I) λ_ _ ⟨H',g,q⟩=>⟨H',g,f _ H' q⟩
theorem ca{Q d:List V->Hp->Prop}(h:tWA X es ρ H Q)(f:∀v H',Q v H'->d v H'):tWA X es ρ H d:=λpos pins s I=>thn (h pos pins s I) λ_ _ ⟨v,H',g,r,q⟩=>⟨v,H',g,r,f v H' q⟩
theorem bA{K:Za}{Q:DK}{v:V}{d:Hp}(k:Kp H H')(h:lift K H' Q v d):lift K H Q v d:=⟨k.trans h.1,h.2⟩
theorem uC{K:Za}{Q:Bool->MH->Prop}{v:Bool}{d:Hp}(k:Kp H H')(h:tX K H' Q v d):tX K H Q v d:=⟨k.trans h.1,h.2⟩
theorem ay{K:Za}{Q:DK}{v:V}{d:D}{M:MH}(r:RV K H d v)(m:RM K M H)(q:Q d M):lift K H Q v H:=⟨Kp.refl H,d,M,r,m,q⟩
def PEd(X:Cx)(e:Expr)(t:WE):Prop:=∀σ M ρ H Q,RS X.K H σ ρ->RM X.K M H->t σ M Q->tW X e ρ H (lift X.K H Q)
def PTd(X:Cx)(e:Expr)(t:WT):Prop:=∀σ M ρ H Q,RS X.K H σ ρ->RM X.K M H->t σ M Q->tWT X e ρ H (tX X.K H Q)
def PAd(X:Cx)(es:Zg)(t:WA):Prop:=∀σ M ρ H Q,RS X.K H σ ρ->RM X.K M H->t σ M Q->tWA X es ρ H (GD X.K H es.length Q)
def Bif(b:Bool)(A B:Prop):Prop:=match b with
 |true=>A
 |false=>B
theorem aI{A B:Prop}:Bif true A B=A:=rfl
theorem ax{A B:Prop}:Bif false A B=B:=rfl
theorem Bif2{b:Bool}{A B:Prop}(d:b=true->A)(h2:b=false->B):Bif b A B:=by
 cases b with
 |true=>exact d rfl
 |false=>exact h2 rfl
theorem xb{p:Prop}[Decidable p]{A B:Prop}(d:p->A)(h2:¬p->B):Bif (decide p) A B:=Bif2 (λe=>d (XS e)) (λe=>h2 (of_decide_eq_false e))
def getS(σ:DS)(i:Nat)(Q:D->Prop):Prop:=match σ[i]? with
 |some (some d)=>Q d
 |_=>False
theorem Dj{σ:DS}{i:Nat}{Q:D->Prop}(h:getS σ i Q):∃d,σ[i]?=some (some d)/\Q d:=by
 unfold getS at h;split at h
 ·exact⟨_,by assumption,h⟩
 ·exact Yh h
theorem Dk{i:Nat}{x:Str}(f:X.N[i]?=some x)(hv:Vis X.env.scope x)(hd:(x==("__debug__" : Str))=false)(g:(x==("__classdict__" : Str))=false):PEd X (.Name x pos) (λσ M Q=>getS σ i λd=>Q d M):=by
 intro σ M ρ H Q rs j h;obtain⟨d,e,q⟩:=Dj h;obtain⟨v,e',r⟩:=rs.get e;exact bj (Ex f hv hd g) ⟨v,e',ay r j q⟩
theorem nU{d:D}{v:V}(h:PE X e (tC v))(r:∀H,RV X.K H d v):PEd X e (λ_ M Q=>Q d M):=λ_ _ _ H _ _ f q=>bj h (ay (r H) f q)
theorem Dl{i:Int}{j:Nat}:PEd X (.Constant (.int i) j pos) (λ_ M Q=>Q (.int i) M):=nU Ey λ_=>RV.int_.2 rfl
theorem Fk{i:Bool}{j:Nat}:PEd X (.Constant (.bool i) j pos) (λ_ M Q=>Q (.bl i) M):=nU F9 λ_=>RV.bl_.2 rfl
theorem Dm{i:Str}{j:Nat}:PEd X (.Constant (.str i) j pos) (λ_ M Q=>Q (.str i) M):=nU EA λ_=>RV.str_.2 rfl
theorem Do{j:Nat}:PEd X (.Constant .none j pos) (λ_ M Q=>Q .non M):=nU Ez λ_=>RV.non_.2 rfl
def ng(K:Za)(mg:Ze)(x:Str)(d:D):Prop:=∃v u,mg x=some u/\RelV v u/\∀H,RV K H d v
theorem A3{x:Str}{d:D}(hg:Gl X x)(h:ng X.K X.mg x d)(hd:(x==("__debug__" : Str))=false):PEd X (.Name x pos) (λ_ M Q=>Q d M):=by
 obtain⟨v,u,hm,r,f⟩:=h;exact nU (CJ hg hm r hd) f
def oW(X:Cx)(f:Zk):R2:=λx y H Q=>∀pins s ρ v u,Inv X pins ρ H s->RelV x v->RelV y u->wpAny 'c' X.A (f v u) (EP X pins ρ Q) X.xe s
theorem op_W(f:Zk):OpR X f (oW X f):=λpins s σ _ _ _ v u _ I d g h=>h pins s σ v u I d g
theorem dW{f:Zk}{r:R2}{x y:V}{Q:VK}(h:OpR X f r)(q:r x y H Q):oW X f x y H Q:=λpins s ρ v u I d g=>h pins s ρ H x y v u Q I d g q
theorem rQ{f:Zk}{x y:V}{Q d:VK}(h:oW X f x y H Q)(g:∀v H',Q v H'->d v H'):oW X f x y H d:=λpins s ρ v u I j k=>thn (h pins s ρ v u I j k) λ_ _ ⟨v,H',l,r,q⟩=>⟨v,H',l,r,g v H' q⟩
abbrev R2d:=D->D->MH->DK->Prop
def OpD(X:Cx)(f:Zk)(r:R2d):Prop:=∀x y v u H M Q,RV X.K H x v->RV X.K H y u->RM X.K M H->r x y M Q->oW X f v u H (lift X.K H Q)
theorem two{g j:WE}{σ:DS}{M:MH}{R:D->D->MH->Prop}(ha:PEd X a g)(hb:PEd X b j)(rs:RS X.K H σ ρ)(m:RM X.K M H)(h:g σ M λx M1=>j σ M1 λy M2=>R x y M2):
  tW X a ρ H λv f=>tW X b ρ f λu d=>Kp H d/\∃x y M2,RV X.K d x v/\RV X.K d y u/\RM X.K M2 d/\R x y M2:=by
 refine aD (ha σ M ρ H _ rs m h) ?_;rintro v f ⟨k,x,M1,n,o,p⟩;refine aD (hb σ M1 ρ f _ (rs.mono k) o p) ?_;rintro u d ⟨l,y,M2,r,z,h2⟩;exact⟨k.trans l,x,y,M2,RV.mono l x n,r,z,h2⟩
def wOp(r:R2d)(d f:WE):WE:=λσ M Q=>d σ M λx M1=>f σ M1 λy M2=>r x y M2 Q
theorem Dp{op:Operator}{r:R2d}{d f:WE}(ho:OpD X (binaryOp op) r)(ha:PEd X a d)(hb:PEd X b f):PEd X (.BinOp a op b pos) (wOp r d f):=by
 intro σ M ρ H Q rs g h;refine bj (Gi (op_W _) (pe_W a) (pe_W b)) ?_;show tW X a ρ H _;refine aD (two ha hb rs g h) λv j l=>?_
 show tW X b ρ j _;refine aD l λu m n=>?_
 obtain⟨k,x,y,M2,o,p,z,q⟩:=n;exact rQ (ho x y v u m M2 Q o p z q) λ_ _=>bA k
theorem Dq{op:CmpOp}{r:R2d}{d f:WE}(ho:OpD X (compareOp op) r)(ha:PEd X a d)(hb:PEd X b f)(hm:behindInMarks op b=false):PEd X (.Compare a [op] [b] pos) (wOp r d f):=by
 intro σ M ρ H Q rs g h;refine bj (CU (op_W _) (pe_W a) (pe_W b) hm) ?_;show tW X a ρ H _;refine aD (two ha hb rs g h) λv j l=>?_
 show tW X b ρ j _;refine aD l λu m n=>?_
 obtain⟨k,x,y,M2,o,p,z,q⟩:=n;exact rQ (ho x y v u m M2 Q o p z q) λ_ _=>bA k
def lH(x:D)(Q:Bool->Prop):Prop:=match x with
 |.bl b=>Q b
 |_=>False
theorem lI{x:D}{Q:Bool->Prop}(h:lH x Q):∃b,x=.bl b/\Q b:=by
 cases x with
 |bl b=>exact⟨b,rfl,h⟩
 |_=>exact Yh h
def tY(t:WE):WT:=λσ M Q=>t σ M λx M1=>lH x λb=>Q b M1
theorem Dr{op:CmpOp}{r:R2d}{g j:WE}(ho:OpD X (compareOp op) r)(ha:PEd X a g)(hb:PEd X b j)(hm:behindInMarks op b=false):PTd X (.Compare a [op] [b] pos) (tY (wOp r g j)):=by
 intro σ M ρ H Q rs l h;refine uB (CV (op_W _) (pe_W a) (pe_W b) hm) ?_;show tW X a ρ H _;refine aD (two ha hb rs l h) λv m n=>?_
 show tW X b ρ m _;refine aD n λu o p=>?_
 obtain⟨k,x,y,M2,A,B,C,q⟩:=p;refine rQ (ho x y v u o M2 _ A B C q) λz P G=>?_
 obtain⟨J,d,K,L,O,f⟩:=G;obtain⟨c,rfl,f⟩:=lI f;exact⟨c,RV.bl_.1 L,k.trans J,K,O,f⟩
def wAnd(t u:WT):WT:=λσ M Q=>t σ M λc M1=>Bif c (u σ M1 Q) (Q false M1)
def wOr(t u:WT):WT:=λσ M Q=>t σ M λc M1=>Bif c (Q true M1) (u σ M1 Q)
def wNot(t:WT):WT:=λσ M Q=>t σ M λc M1=>Q (!c) M1
theorem Ds{t:WT}(h:PTd X a t):PTd X (.UnaryOp .Not a pos) (wNot t):=by
 intro σ M ρ H Q rs d q;refine uB (ED (pt_W a)) ?_;show tWT X a ρ H _;exact et (h σ M ρ H _ rs d q) λc g f=>f
def PWd(X:Cx)(e:Expr)(t:WT):Prop:=∀σ M ρ H Q,RS X.K H σ ρ->RM X.K M H->t σ M Q->∀d pins s,Inv X pins ρ H s->wpAny 'c' X.A (isTrue e X.env d) (TP X pins ρ (tX X.K H Q)) X.xe s
theorem PWd.pt{t:WT}(h:PWd X e t):PTd X e t:=λσ M ρ H Q rs d q pins s I=>h σ M ρ H Q rs d q _ pins s I
def tWW(X:Cx)(e:Expr):TT:=λρ H Q=>∀d pins s,Inv X pins ρ H s->wpAny 'c' X.A (isTrue e X.env d) (TP X pins ρ Q) X.xe s
theorem pw_W(e:Expr):PW X e (tWW X e):=λd pins s _ _ _ I h=>h d pins s I
theorem uD{Q g:Bool->Hp->Prop}(h:tWW X e ρ H Q)(f:∀v H',Q v H'->g v H'):tWW X e ρ H g:=λd pins s I=>thn (h d pins s I) λ_ _ ⟨H',j,q⟩=>⟨H',j,f _ H' q⟩
theorem qi{t:TT}{Q:Bool->Hp->Prop}(h:PW X e t)(q:t ρ H Q):tWW X e ρ H Q:=λd pins s I=>h d pins s ρ H Q I q
theorem A4{t:WT}(h:PTd X a t):PWd X (.BoolOp .And [a] pos) t:=λσ M ρ H Q rs d q=>qi (CL (pt_W a)) (h σ M ρ H Q rs d q)
theorem Dt{t:WT}(h:PTd X a t):PWd X (.BoolOp .Or [a] pos) t:=λσ M ρ H Q rs d q=>qi (EB (pt_W a)) (h σ M ρ H Q rs d q)
theorem xc{t u:WT}{rest:Zg}(h:PTd X a t)(h':PWd X (.BoolOp .And (b::rest) pos) u):PWd X (.BoolOp .And (a::b::rest) pos) (wAnd t u):=by
 intro σ M ρ H Q rs j q;refine qi (EC (pt_W a) (pw_W _)) ?_;show tWT X a ρ H _;refine et (h σ M ρ H _ rs j q) λc k l=>?_
 obtain⟨d,M1,f,g⟩:=l;cases c with
 |true=>exact uD (h' σ M1 ρ k Q (rs.mono d) f g) λ_ _=>uC d
 |false=>exact⟨d,M1,f,g⟩
theorem zp{t u:WT}{rest:Zg}(h:PTd X a t)(h':PWd X (.BoolOp .Or (b::rest) pos) u):PWd X (.BoolOp .Or (a::b::rest) pos) (wOr t u):=by
 intro σ M ρ H Q rs j q;refine qi (Ga (pt_W a) (pw_W _)) ?_;show tWT X a ρ H _;refine et (h σ M ρ H _ rs j q) λc k l=>?_
 obtain⟨d,M1,f,g⟩:=l;cases c with
 |false=>exact uD (h' σ M1 ρ k Q (rs.mono d) f g) λ_ _=>uC d
 |true=>exact⟨d,M1,f,g⟩
def tZ(d f:WE):WE:=λσ M Q=>d σ M λx M1=>lH x λc=>Bif c (f σ M1 Q) (Q (.bl false) M1)
def wOrV(d f:WE):WE:=λσ M Q=>d σ M λx M1=>lH x λc=>Bif c (Q (.bl true) M1) (f σ M1 Q)
def t3(d:WE):WE:=λσ M Q=>d σ M λx M1=>lH x λc=>Q (.bl (!c)) M1
theorem xf{op:BoolOp}{t:WE}(h:PEd X a t):PEd X (.BoolOp op [a] pos) t:=λσ M ρ H Q rs d q=>bj (EE (pe_W a)) (h σ M ρ H Q rs d q)
theorem xg{g j:WE}{rest:Zg}(h:PEd X a g)(h':PEd X (.BoolOp .And (b::rest) pos) j):PEd X (.BoolOp .And (a::b::rest) pos) (tZ g j):=by
 intro σ M ρ H Q rs l q;refine bj (EF (pe_W a) (pe_W _)) ?_;show tW X a ρ H _;refine aD (h σ M ρ H _ rs l q) λv m n=>?_
 obtain⟨f,x,M1,o,k,d⟩:=n;obtain⟨c,rfl,d⟩:=lI d;refine⟨c,RV.bl_.1 o,?_⟩;cases c with
 |true=>exact aD (h' σ M1 ρ m Q (rs.mono f) k d) λ_ _=>bA f
 |false=>exact⟨f,.bl false,M1,RV.bl_.2 rfl,k,d⟩
theorem zq{g j:WE}{rest:Zg}(h:PEd X a g)(h':PEd X (.BoolOp .Or (b::rest) pos) j):PEd X (.BoolOp .Or (a::b::rest) pos) (wOrV g j):=by
 intro σ M ρ H Q rs l q;refine bj (Gd (pe_W a) (pe_W _)) ?_;show tW X a ρ H _;refine aD (h σ M ρ H _ rs l q) λv m n=>?_
 obtain⟨f,x,M1,o,k,d⟩:=n;obtain⟨c,rfl,d⟩:=lI d;refine⟨c,RV.bl_.1 o,?_⟩;cases c with
 |false=>exact aD (h' σ M1 ρ m Q (rs.mono f) k d) λ_ _=>bA f
 |true=>exact⟨f,.bl true,M1,RV.bl_.2 rfl,k,d⟩
theorem Du{f:WE}(h:PEd X a f):PEd X (.UnaryOp .Not a pos) (t3 f):=by
 intro σ M ρ H Q rs g q;refine bj (EG (pe_W a)) ?_;show tW X a ρ H _;refine aD (h σ M ρ H _ rs g q) λv n j=>?_
 obtain⟨k,x,M1,l,m,d⟩:=j;obtain⟨c,rfl,d⟩:=lI d;exact⟨c,RV.bl_.1 l,k,.bl (!c),M1,RV.bl_.2 rfl,m,d⟩
def wIf(t:WT)(d f:WE):WE:=λσ M Q=>t σ M λc M1=>Bif c (d σ M1 Q) (f σ M1 Q)
theorem zr{t:WT}{f g:WE}(hc:PTd X c t)(ha:PEd X a f)(hb:PEd X b g):PEd X (.IfExp c a b pos) (wIf t f g):=by
 intro σ M ρ H Q rs n q;refine bj (AH (pt_W c) (pe_W a) (pe_W b)) ?_;show tWT X c ρ H _;refine et (hc σ M ρ H _ rs n q) λk j o=>?_
 obtain⟨d,M1,l,m⟩:=o;cases k with
 |true=>exact aD (ha σ M1 ρ j Q (rs.mono d) l m) λ_ _=>bA d
 |false=>exact aD (hb σ M1 ρ j Q (rs.mono d) l m) λ_ _=>bA d
def rdL:Option MO->Option (List D)
 |some (.lst ds)=>some ds
 |some (.rol ds)=>some ds
 |_=>none
def truD(x:D)(M:MH)(Q:Bool->Prop):Prop:=match x with
 |.non=>Q false
 |.bl b=>Q b
 |.int i=>Q (i != 0)
 |.str y=>y.length<=sizeLine/\Q ((y.length:Int) != 0)
 |.tup ds=>Q (!ds.isEmpty)
 |.ref a=>match M a with
  |some (.lst ds)=>Q (!ds.isEmpty)
  |some (.rol ds)=>Q (!ds.isEmpty)
  |some (.dic d)=>Q (!d.isEmpty)
  |_=>False
 |.ty _=>False
theorem nV{d f:Type}{l:List d}{m:List f}(h:l.length=m.length):l.isEmpty=m.isEmpty:=by
 cases l<;>cases m<;>simp_all
theorem Dv{K:Za}{M:MH}{x:D}{v:V}{Q:Bool->Prop}(r:RV K H x v)(m:RM K M H)(h:truD x M Q):∃k,TruV K v H k/\Q k:=by
 cases x with
 |non=>cases RV.non_.1 r;exact⟨_,rfl,h⟩
 |bl b=>cases RV.bl_.1 r;exact⟨_,rfl,h⟩
 |int i=>cases RV.int_.1 r;exact⟨_,rfl,h⟩
 |str y=>cases RV.str_.1 r;exact⟨_,⟨h.1,rfl⟩,h.2⟩
 |ty n=>exact Yh h
 |tup ds=>
  obtain⟨a,xs,rfl,s,d⟩:=RV.tup_.1 r;exact⟨_,.inr (.inl ⟨xs,s,rfl⟩),by rw[←nV d.len];exact h⟩
 |ref a=>
  cases RV.ref_.1 r;have h:match M a with
   |some (.lst ds)=>Q (!ds.isEmpty)
   |some (.rol ds)=>Q (!ds.isEmpty)
   |some (.dic f)=>Q (!f.isEmpty)
   |_=>False:=h
  split at h
  ·rename_i ds e
   obtain⟨xs,q,d⟩:=m a _ e;exact⟨_,.inl ⟨xs,SqL.of q,rfl⟩,by rw[←nV d.len];exact h⟩
  ·rename_i ds e
   obtain⟨xs,q,d⟩:=m a _ e;exact⟨_,.inl ⟨xs,.inl q,rfl⟩,by rw[←nV d.len];exact h⟩
  ·rename_i f e
   obtain⟨g,q,k,d⟩:=m a _ e;refine⟨_,.inr (.inr ⟨g,q,rfl⟩),?_⟩;have:g.length=f.length:=by have:=congrArg List.length k;simpa using this
   rw[nV this];exact h
  ·exact Yh h
def wTru(t:WE):WT:=λσ M Q=>t σ M λx M1=>truD x M1 λk=>Q k M1
theorem Dw{t:WE}(h:PEd X a t)(g:∀d,isTrue a X.env d=(do let v ←d;standAt a.pos;holding [v] (truthy v))):PTd X a (wTru t):=by
 intro σ M ρ H Q rs j q;refine uB (AL (pe_W a) g) ?_;show tW X a ρ H _;refine aD (h σ M ρ H _ rs j q) λv u l=>?_
 obtain⟨m,x,M1,n,f,o⟩:=l;obtain⟨k,p,r⟩:=Dv n f o;exact⟨k,p,m,M1,f,r⟩
def wNil:WA:=λ_ M Q=>Q [] M
def t4(t:WE)(u:WA):WA:=λσ M Q=>t σ M λx M1=>u σ M1 λxs M2=>Q (x::xs) M2
theorem Dx:PAd X [] wNil:=λσ M ρ H Q rs d q=>zo E3 ⟨Kp.refl H,[],M,RVs.nil,rfl,d,q⟩
theorem A5{t:WE}{u:WA}(h:PEd X e t)(h':PAd X es u)(j:ao e=true):PAd X (e::es) (t4 t u):=by
 intro σ M ρ H Q rs k q;refine zo (C0 (pe_W e) (pa_W es) (aM j)) ?_;show tW X e ρ H _;refine aD (h σ M ρ H _ rs k q) λv d l=>?_
 obtain⟨f,x,M1,m,n,o⟩:=l;show tWA X es ρ d _;refine ca (h' σ M1 ρ d _ (rs.mono f) n o) λvs B p=>?_
 obtain⟨g,xs,M2,r,y,z,A⟩:=p;exact⟨f.trans g,x::xs,M2,RVs.cons (RV.mono g x m) r,by simp[y],z,A⟩
def wTup(t:WA):WE:=λσ M Q=>t σ M λxs M1=>Q (.tup xs) M1
def wLst(t:WA):WE:=λσ M Q=>t σ M λxs M1=>∀p,M1 p=none->Q (.ref p) (updM M1 p (.lst xs))
theorem Dy{t:WA}{k:Nat}(h:PAd X es t)(hz:es.length<=1000):PEd X (.Tuple es k pos) (wTup t):=by
 intro σ M ρ H Q rs j q;refine bj (E4 (pa_W es)) ?_;show tWA X es ρ H _;refine ca (h σ M ρ H _ rs j q) λvs d l=>?_
 obtain⟨m,xs,M1,f,n,o,r⟩:=l;refine⟨?_,λp hp=>?_⟩
 ·rw[←f.len,n];exact Nat.le_of_lt (sG hz)
 ·have g:Kp d (upd d p (.tup vs)):=Kp.new hp
  exact⟨m.trans g,.tup xs,M1,RV.tup_.2 ⟨p,vs,rfl,SqT.of aw,RVs.mono g _ f⟩,o.newH hp,r⟩
theorem Dz{t:WA}(h:PAd X es t)(hz:es.length<=1000):PEd X (.List es pos) (wLst t):=by
 intro σ M ρ H Q rs k q;refine bj (E5 (pa_W es)) ?_;show tWA X es ρ H _;refine ca (h σ M ρ H _ rs k q) λvs d l=>?_
 obtain⟨n,xs,M1,f,o,g,r⟩:=l;refine⟨?_,λp hp=>?_⟩
 ·rw[←f.len,o];exact Nat.le_of_lt (sG hz)
 ·have j:Kp d (upd d p (.lst vs)):=Kp.new hp
  exact⟨n.trans j,.ref p,_,RV.ref_.2 rfl,g.new (m:=.lst xs) hp ⟨vs,aw,RVs.mono j _ f⟩,r p (g.fresh hp)⟩
abbrev SpD:=List D->MH->DK->Prop
abbrev Yl:SpD:=λ_ _ _=>False
def fE(K:Za)(sp:SpD):Sp:=λvs H Q _=>∃ds M f,RVs K H ds vs/\RM K M H/\sp ds M f/\∀d M' v H',f d M'->Kp H H'->RV K H' d v->RM K M' H'->Q v H'
def FnD(P:Zw)(w:World)(K:Za)(mg:Ze)(base:Heap)(k:Nat)(x:Str)(sp:SpD):Prop:=
 ∃st ps f fd,IsDef K mg x st ps f fd/\FnOk P w K mg base CX0 k f fd ps (fE K sp)
theorem ck{env:Env}{pos:Pos}:∀{es:Zg},es.all ao=true->(backTo pos (starEach es env)).any (·.1)=false
 |[],_=>rfl
 |e::es,h=>by
  rw[XT,XA] at h;rw[aM h.1];show(false||(backTo pos (starEach es env)).any (·.1))=false;rw[ck h.2];rfl
def fF(sp:SpD)(t:WA):WE:=λσ M Q=>t σ M λds M1=>sp ds M1 Q
theorem DA{k:Nat}{x:Str}{sp:SpD}{t:WA}{p:Pos}(F:FnD X.prog X.w X.K X.mg X.base k x sp)(g:Room k X.A)(hg:Gl X x)(j:(x==("__debug__" : Str))=false)(l:ao e=true)(m:es.all ao=true)(ha:PAd X (e::es) t):
  PEd X (.Call (.Name x p) (e::es) [] pos) (fF sp t):=by
 obtain⟨st,ps,f,fd,n,G⟩:=F;intro σ M ρ H Q rs o q;refine bj (Fi n G g (pa_W (e::es)) hg j (aM l) (ck m)) ?_;show tWA X (e::es) ρ H _;refine ca (ha σ M ρ H _ rs o q) λvs O r=>?_
 obtain⟨u,xs,M1,y,P,z,B⟩:=r;rw[ZA];exact⟨xs,M1,Q,y,z,B,λd M' v H' C kk J L=>⟨u.trans kk,d,M',J,L,C⟩⟩
end
def qj(K:Za):Bool:=K.all λp=>match p.2.cls with
 |.type t=>!(t == "list")
 |_=>true
theorem sJ{a:Addr}{o:Obj}:∀{K:Za},qj K=true->K.lookup a=some o->o.cls=.type "list"->False
 |[],_,h,_=>by cases h
 |(b,p)::K,hn,h,hc=>by
  unfold qj at hn;rw[XT,XA] at hn;rw[XN] at h;split at h
  ·cases h
   have c:=hn.1;simp only[hc] at c;exact absurd c 'b'
  ·exact sJ (K:=K) hn.2 h hc
theorem uE{K:Za}{H:Hp}:∀(ns:Zi),RVs K H (ns.map D.int) (ns.map V.int)
 |[]=>.nil
 |n::ns=>.cons (RV.int_.2 rfl) (uE ns)
def nW(a:Addr)(ns:Zi):MH:=λb=>if b=a then some (.rol (ns.map D.int)) else none
def t5(n:Nat)(sp:SpD):Prop:=∀a ns,ns.length<=n->sp [.ref a] (nW a ns) λd _=>d=.bl true
theorem Fl{K:Za}{H:Hp}{a:Addr}{ns:Zi}{n:Nat}{sp:SpD}(hK:qj K=true)(f:t5 n sp)(hl:ns.length<=n)(c:SqL K H a (ns.map V.int))(E:XK):fE K sp [.ref a] H (λv _=>v=.bl true) E:=by
 rcases c with c | ⟨o,c_,m,h1,h2,_⟩
 ·refine⟨[.ref a],nW a ns,λd _=>d=.bl true,.cons (RV.ref_.2 rfl) .nil,λb o e=>?_,f a ns hl,λd M' v H' q _ r _=>?_⟩
  ·unfold nW at e
   split at e
   ·rename_i hb
    subst hb;cases e;exact⟨_,c,uE ns⟩
   ·cases e
  ·subst q
   exact RV.bl_.1 r
 ·exact(sJ hK h1 h2).elim
mutual
noncomputable def hU(K:Za):D->Value->Bool
 |.non,u=>match u with
  |.none=>true
  |_=>false
 |.bl b,u=>match u with
  |.bool c=>decide (b=c)
  |_=>false
 |.int i,u=>match u with
  |.int j _=>decide (i=j)
  |_=>false
 |.str x,u=>match u with
  |.str y _=>decide (x=y)
  |_=>false
 |.ty n,u=>match u with
  |.type m=>decide (n=m)
  |_=>false
 |.ref a,u=>match u with
  |.ref b=>decide (a=b)
  |_=>false
 |.tup ds,u=>match u with
  |.ref a=>(match K.lookup a with
   |some ⟨.type t,_,.seq c_ _,_⟩=>decide (t = "tuple")&&decide (c_.size<=sizeLine)&&nh K ds c_.toList
   |_=>false)
  |_=>false
noncomputable def nh(K:Za):List D->List Value->Bool
 |[],us=>us.isEmpty
 |d::ds,us=>match us with
  |u::us=>hU K d u&&nh K ds us
  |[]=>false
end
mutual
theorem uF{K:Za}:∀(d:D){u:Value},hU K d u=true->∃v,RelV v u/\∀H,RV K H d v
 |.non,u,h=>by
  unfold hU at h;split at h
  ·exact⟨.non,rfl,λ_=>RV.non_.2 rfl⟩
  ·cases h
 |.bl b,u,h=>by
  unfold hU at h;split at h
  ·cases XS h;exact⟨.bl _,rfl,λ_=>RV.bl_.2 rfl⟩
  ·cases h
 |.int b,u,h=>by
  unfold hU at h;split at h
  ·cases XS h;exact⟨.int _,⟨_,rfl⟩,λ_=>RV.int_.2 rfl⟩
  ·cases h
 |.str b,u,h=>by
  unfold hU at h;split at h
  ·cases XS h;exact⟨.str _,⟨_,rfl⟩,λ_=>RV.str_.2 rfl⟩
  ·cases h
 |.ty b,u,h=>by
  unfold hU at h;split at h
  ·cases XS h;exact⟨.ty _,rfl,λ_=>RV.ty_.2 rfl⟩
  ·cases h
 |.ref a,u,h=>by
  unfold hU at h;split at h
  ·cases XS h;exact⟨.ref _,rfl,λ_=>RV.ref_.2 rfl⟩
  ·cases h
 |.tup ds,u,h=>by
  unfold hU at h;split at h
  ·rename_i a
   split at h
   ·rename_i t od c_ n sl e
    simp only[XA,XU] at h;obtain⟨⟨h1,h2⟩,h3⟩:=h;obtain⟨vs,r1,r2⟩:=sK ds h3;exact⟨.ref a,rfl,λH=>RV.tup_.2 ⟨a,vs,rfl,.inr ⟨_,c_,n,e,by rw[h1],rfl,h2,r1⟩,r2 H⟩⟩
   ·cases h
  ·cases h
theorem sK{K:Za}:∀(ds:List D){us:Zd},nh K ds us=true->∃vs,Vals vs us/\∀H,RVs K H ds vs
 |[],us,h=>by
  unfold nh at h;cases us with
  |nil=>exact⟨[],.nil,λ_=>.nil⟩
  |cons u us=>cases h
 |d::ds,us,h=>by
  unfold nh at h;split at h
  ·rename_i u us
   rw[XA] at h;obtain⟨v,r1,r2⟩:=uF d h.1;obtain⟨vs,r3,r4⟩:=sK ds h.2;exact⟨v::vs,.cons r1 r3,λH=>.cons (r2 H) (r4 H)⟩
  ·cases h
end
def nX(K:Za):List Str->List D->Bool
 |[],_=>true
 |x::xs,ds=>(match PySem.W.nsIn K mainGlobals x with
  |some (some u)=>hU K (ds.headD .non) u
  |_=>false)&&nX K xs ds.tail
theorem qk{K:Za}{h:Heap}{mg:Ze}(X:K.In h)(G:h.Ns mainGlobals mg):∀{xs:Zf}{ds:List D},nX K xs ds=true->∀(j:Nat) x,xs[j]?=some x->ng K mg x (ds.getD j .non)
 |[],_,_,j,x,e=>by cases e
 |y::xs,ds,hk,j,x,e=>by
  unfold nX at hk;rw[XA] at hk;cases j with
  |zero=>
   have e:y=x:=by simpa using e
   subst e;have a:=hk.1;split at a
   ·rename_i u q
    obtain⟨v,b,c⟩:=uF _ a;have:ds.getD 0 .non=ds.headD .non:=by cases ds<;>rfl
    rw[this];exact⟨v,u,PySem.W.mg_of X G q,b,c⟩
   ·cases a
  |succ j=>
   have:=qk X G hk.2 j x (by simpa using e)
   have d:ds.getD (j+1) .non=ds.tail.getD j .non:=by cases ds<;>simp
   rw[d];exact this
def zt(K:Za)(xs:Zf):Bool:=xs.all λx=>match PySem.W.nsIn K mainGlobals x with
 |some none=>true
 |_=>false
theorem zu{K:Za}{h:Heap}{mg:Ze}(X:K.In h)(G:h.Ns mainGlobals mg){xs:Zf}(hk:zt K xs=true):∀x,xs.contains x=true->mg x=none:=by
 intro x hx
 have:=XQ.1 hk x (by simpa using hx)
 split at this
 ·rename_i q
  exact PySem.W.mg_none_of X G q
 ·cases this
theorem GE{l:PySem.W.OpenLaw}{n k:Nat}{q:Zw}{loose:Zf}{XP:(Str->Option Value)->Heap->Prop}{YP:World->Heap->Prop}{d:DefRec}{K:Params->PySem.W.Frag}{sp:SpD}{x:Str}
  (hn:l.most=some n) (c:n<=sizeLine) (g:d.params.defaults=[]) (j:Room k callerA) (m:t5 n sp)
  (o:∀(w:World) (h:Heap),YP w h->(K w.params).In h) (hK:∀w:World,qj (K w.params)=true)
  (F:∀(w:World) (mg:Ze) (b:Addr) (h:Heap),(K w.params).In h->h.Ns mainGlobals mg->mg d.name=some (.ref b) ->
   ∃fd:FuncData,(∀(s:Shared) (u:Value),BindsTo s fd ⟨[u],[]⟩ [(x,u)]) /\
    ∀base:Heap,(K w.params).In base->base.Ns mainGlobals mg->FnOk l.prog w (K w.params) mg base CX0 k b fd [x] (fE (K w.params) sp)):
  PySem.W.WalkO q loose XP YP l.row.toRowW d [] (λf vs=>PySem.call f vs):=
 L2.De (n:=n) (k:=k) (x:=x) (CX:=λ_=>CX0) (sp:=λw=>fE (K w.params) sp) hn c g j o F (λw _ a ns hl _ p=>Fl (hK w) m hl p _) λ_ _ _ _ _ z=>z
section
variable {P:Zw}{w:World}{K:Za}{mg:Ze}{base:Heap}{k:Nat}
structure DefAt (K:Za) (x:Str) (st:Stmt) (f:Addr) (fd:Zv):Prop where
 ex:∃(oc:Value) (od an:Zm) (GX:Zn) (kV B_ pm y_ ct:Value),PySem.W.nsIn K mainGlobals x=some (some (.ref f)) /\
  fd=PySem.W.fnOf x x (bd st) (aF st) (ak st) .none kV B_ pm an y_ ct/\K.lookup f=some ⟨oc,od,.func fd,GX⟩/\PySem.W.codeIn K y_ x=true/\PySem.W.keepIn K (.ref f)=true
theorem DefAt.mk'{x:Str}{st:Stmt}{f:Addr}{oc:Value}{od an:Zm}{GX:Zn}{kV B_ pm y_ ct:Value}
  (a:PySem.W.nsIn K mainGlobals x=some (some (.ref f))) (l:K.lookup f=some ⟨oc,od,.func (PySem.W.fnOf x x (bd st) (aF st) (ak st) .none kV B_ pm an y_ ct),GX⟩)
  (c:PySem.W.codeIn K y_ x=true) (k:PySem.W.keepIn K (.ref f)=true):DefAt K x st f (PySem.W.fnOf x x (bd st) (aF st) (ak st) .none kV B_ pm an y_ ct):=
 ⟨⟨oc,od,an,GX,kV,B_,pm,y_,ct,a,rfl,l,c,k⟩⟩
theorem DefAt.def_{h:Heap}{x:Str}{st:Stmt}{ps:Zf}{f:Addr}{fd:Zv}(A:DefAt K x st f fd)(X:K.In h)(G:h.Ns mainGlobals mg)
  (hb:∀(kV B_ pm:Value) (an:Zm) (y_ ct:Value) (us:Zd),us.length=ps.length->bindArgs (PySem.W.fnOf x x (bd st) (aF st) (ak st) .none kV B_ pm an y_ ct) ⟨us,[]⟩=pure (ps.zip us)):
  IsDef K mg x st ps f fd:=by
 obtain⟨oc,od,an,GX,kV,B_,pm,y_,ct,a,rfl,l,c,k⟩:=A.ex;exact A2 X G a l c k hb
def isBt:Option (Option Value)->String->Bool
 |some (some (.builtin n)),s=>decide (n=s)
 |_,_=>false
def isNo:Option (Option Value)->Bool
 |some none=>true
 |_=>false
theorem DB{o:Option (Option Value)}{s:String}(h:isBt o s=true):o=some (some (.builtin s)):=by
 unfold isBt at h;split at h
 ·cases XS h;rfl
 ·cases h
theorem DC{o:Option (Option Value)}(h:isNo o=true):o=some none:=by
 unfold isNo at h;split at h
 ·rfl
 ·cases h
def clsIn(K:Za)(C:Addr)(fs:Zf):Bool:=
 PySem.W.plainGet K C Str.empty&&PySem.W.hasDictIn K C&&PySem.W.plainOver K C&&isBt (PySem.W.findIn K (.ref C) "__setattr__") "object.__setattr__" && fs.all (λf=>isNo (PySem.W.findIn K (.ref C) f))
theorem aZ{C:Addr}{fs:Zf}(h:clsIn K C fs=true):Cls K C:=by
 unfold clsIn at h;simp only[XA] at h;exact⟨h.1.1.1.1,h.1.1.1.2,h.1.1.2,DB h.1.2⟩
theorem uG{C:Addr}{fs:Zf}{f:Str}(h:clsIn K C fs=true)(hf:f∈fs):cg K C f:=by
 unfold clsIn at h;simp only[XA] at h;exact DC (XQ.1 h.2 f hf)
structure MethAt (K:Za) (C:Addr) (m l_:Str) (st:Stmt) (f:Addr) (fd:Zv):Prop where
 at_:PySem.W.findIn K (.ref C) m=some (some (.ref f))
 fn:PySem.W.isFn K (.ref f)=true
 fun_:Fun K m l_ st f fd
theorem MethAt.mk'{C:Addr}{m l_:Str}{st:Stmt}{f:Addr}{oc:Value}{od an:Zm}{GX:Zn}{kV B_ pm y_ ct:Value}
  (a:PySem.W.findIn K (.ref C) m=some (some (.ref f))) (l:K.lookup f=some ⟨oc,od,.func (PySem.W.fnOf m l_ (bd st) (aF st) (ak st) .none kV B_ pm an y_ ct),GX⟩)
  (n:PySem.W.isFn K (.ref f)=true) (c:PySem.W.codeIn K y_ l_=true) (k:PySem.W.keepIn K (.ref f)=true):MethAt K C m l_ st f (PySem.W.fnOf m l_ (bd st) (aF st) (ak st) .none kV B_ pm an y_ ct):=
 ⟨a,n,uz l c k⟩
theorem MethAt.meth{C:Addr}{m l_:Str}{st:Stmt}{f:Addr}{fd:Zv}(A:MethAt K C m l_ st f fd):Meth K C m f:=⟨A.at_,A.fn,A.fun_.kp⟩
end
end DD
namespace K31
open PySem PySem.Spec PyProof.Rows L2 DD
def top(i:Nat):Stmt:=PySem.Challenge.pw_notring_k31_least_sets_step_by_step.main.body.getD i (.Pass ⟨0,0,0,0⟩)
abbrev bltL:List Str:=["all","bool","enumerate","int","isinstance","len","list","min","range","reversed","set","sorted","str","tuple"]
abbrev fG:List Str:=["MOST_CONDS","HIGHEST_NUMBER","MOST_LISTED","MOST_FACTS","MOST_ROWS"]
abbrev nY:List D:=[(.int 6),(.int 6),(.int 6),(.int 120),(.int 400)]
abbrev lJ:Stmt:=top 2
abbrev lK:Stmt:=top 3
abbrev lL:Stmt:=top 4
abbrev pb:Stmt:=top 5
abbrev ni:Stmt:=top 6
abbrev kA:Stmt:=top 7
abbrev lM:Stmt:=top 14
abbrev kB:Stmt:=top 15
abbrev iE:Stmt:=top 16
abbrev kC:Stmt:=top 18
abbrev jz:Stmt:=top 19
abbrev iF:Stmt:=top 20
abbrev gF:Stmt:=top 21
abbrev lN:Stmt:=top 22
abbrev iG:Stmt:=top 23
abbrev fH:Stmt:=top 24
abbrev gG:Stmt:=top 35
abbrev gH:Stmt:=top 36
abbrev dm:Stmt:=top 37
abbrev pc:Stmt:=top 38
abbrev nj:Stmt:=top 39
abbrev kE:Stmt:=top 40
abbrev jA:Stmt:=top 41
abbrev iH:Stmt:=top 43
abbrev lO:Stmt:=top 44
abbrev hV:Stmt:=top 45
abbrev lP:Stmt:=top 46
abbrev lQ:Stmt:=top 47
abbrev lR:Stmt:=top 48
abbrev lS:Stmt:=top 49
abbrev kF:Stmt:=top 50
abbrev iI:Stmt:=top 51
abbrev nk:Stmt:=top 52
abbrev lT:Stmt:=top 53
abbrev gI:Stmt:=top 54
abbrev fI:Stmt:=top 55
abbrev jB:Stmt:=top 56
abbrev cm:Stmt:=top 57
abbrev ql:Stmt:=top 58
abbrev kG:Stmt:=inClass (top 10) 0
abbrev gJ:Stmt:=inClass (top 10) 2
abbrev gK:Stmt:=inClass (top 10) 4
abbrev kH:Stmt:=inClass (top 11) 0
abbrev gL:Stmt:=inClass (top 11) 2
abbrev gM:Stmt:=inClass (top 11) 4
abbrev kI:Stmt:=inClass (top 12) 0
abbrev gN:Stmt:=inClass (top 12) 2
abbrev gO:Stmt:=inClass (top 12) 4
abbrev kJ:Stmt:=inClass (top 13) 0
abbrev gP:Stmt:=inClass (top 13) 2
abbrev gQ:Stmt:=inClass (top 13) 4
abbrev jC:Stmt:=inClass (top 34) 0
abbrev ez:Stmt:=inClass (top 34) 1
abbrev eD:Stmt:=inClass (top 34) 4
abbrev cF:Stmt:=inClass (top 34) 5
abbrev fJ:Stmt:=inClass (top 34) 6
abbrev eG:Stmt:=inClass (top 34) 7
def HDef(K:Za)(x:Str)(st:Stmt):Prop:=∃f fd,DefAt K x st f fd
def bH(K:Za)(C:Addr)(m q:Str)(st:Stmt):Prop:=∃f fd,MethAt K C m q st f fd
abbrev fldL:List Str:=["fact","number","facts","at"]
abbrev Fm:List Str:=["many","heads","conds","headed","leanings","helped"]
structure Hyps (K:Za) (cH cL cS cD S:Addr):Prop where
 a_0:HDef K "has_fact" lL
 a_1:HDef K "count_in" lM
 a_2:HDef K "all_carried" iE
 a_3:HDef K "carried_heads" fH
 a_4:HDef K "helped_rows" iG
 a_5:HDef K "set_of" pb
 a_6:HDef K "members" ni
 a_7:HDef K "all_rows" lN
 a_8:HDef K "ranked_among" gF
 a_9:HDef K "all_facts" kA
 a_10:HDef K "ranked_set" jz
 a_11:HDef K "rows_by_help" dm
 a_12:HDef K "row_leanings" gG
 a_13:HDef K "rows_by_head" gH
 a_14:HDef K "made_cond" kB
 a_15:HDef K "is_whole" lJ
 a_16:HDef K "is_below" lK
 a_17:HDef K "is_listing" jA
 a_18:HDef K "is_number" kE
 a_19:HDef K "is_cond" nj
 a_20:HDef K "is_row" pc
 a_21:HDef K "_law_draw" lO
 a_22:HDef K "_law_places" jB
 a_23:HDef K "_law_chain_good" cm
 a_24:HDef K "_law_cell_at" iH
 a_25:HDef K "least_among" iF
 a_26:HDef K "least_set" kC
 a_27:HDef K "_law_plain" hV
 a_28:HDef K "_law_same" lP
 a_29:HDef K "_law_upto" lT
 a_30:HDef K "_law_carried" iI
 a_31:HDef K "_law_met" nk
 a_32:HDef K "_law_is_first" gI
 a_33:HDef K "_law_walked" fI
 a_34:HDef K "_law_sheet" kF
 a_35:HDef K "_law_told" lS
 a_36:HDef K "_law_cond" lQ
 a_37:HDef K "_law_rows" lR
 a_57:bH K cH "__init__" "Have.__init__" kG
 a_58:bH K cH "carried" "Have.carried" gJ
 a_59:bH K cH "leaning" "Have.leaning" gK
 a_60:bH K cL "__init__" "Lack.__init__" kH
 a_61:bH K cL "carried" "Lack.carried" gL
 a_62:bH K cL "leaning" "Lack.leaning" gM
 a_63:bH K cS "__init__" "Some.__init__" kI
 a_64:bH K cS "carried" "Some.carried" gN
 a_65:bH K cS "leaning" "Some.leaning" gO
 a_66:bH K cD "__init__" "Lead.__init__" kJ
 a_67:bH K cD "carried" "Lead.carried" gP
 a_68:bH K cD "leaning" "Lead.leaning" gQ
 a_69:bH K S "__init__" "Sheet.__init__" jC
 a_70:bH K S "how_many" "Sheet.how_many" ez
 a_71:bH K S "rows_for" "Sheet.rows_for" eD
 a_72:bH K S "rows_helped" "Sheet.rows_helped" cF
 a_73:bH K S "head_of" "Sheet.head_of" fJ
 a_74:bH K S "conds_of" "Sheet.conds_of" eG
def Co(sp:SpD):Prop:=∀{l:PySem.W.OpenLaw}{w:World}{K:Za}{h:Heap}{mg:Ze}{a cH cL cS cD S:Addr}(X:K.In h) (G:h.Ns mainGlobals mg) (d:mg "law" = some (.ref a))
 (f:(decide (cH≠cL)&&decide (cH≠cS)&&decide (cH≠cD)&&decide (cL≠cS)&&decide (cL≠cD)&&decide (cS≠cD))=true) (gl:nX K fG nY=true) (bl:zt K bltL=true)
 (g:PySem.W.nsIn K mainGlobals "Have" = some (some (.ref cH))) (Jt:(clsIn K cH fldL&&PySem.W.makesIn K cH&&PySem.W.keepIn K (.ref cH))=true)
 (Ju:PySem.W.nsIn K mainGlobals "Lack" = some (some (.ref cL))) (Jv:(clsIn K cL fldL&&PySem.W.makesIn K cL&&PySem.W.keepIn K (.ref cL))=true)
 (Jw:PySem.W.nsIn K mainGlobals "Some" = some (some (.ref cS))) (Jx:(clsIn K cS fldL&&PySem.W.makesIn K cS&&PySem.W.keepIn K (.ref cS))=true)
 (Jy:PySem.W.nsIn K mainGlobals "Lead" = some (some (.ref cD))) (Jz:(clsIn K cD fldL&&PySem.W.makesIn K cD&&PySem.W.keepIn K (.ref cD))=true)
 (JA:PySem.W.nsIn K mainGlobals "Sheet" = some (some (.ref S))) (JB:(clsIn K S Fm&&PySem.W.makesIn K S&&PySem.W.keepIn K (.ref S))=true)
 {b:Addr}{c:Zv}(HA:DefAt K "law" ql b c)
 (hy:Hyps K cH cL cS cD S),
 ∃fd:FuncData,(∀(s:Shared) (v:Value),BindsTo s fd ⟨[v],[]⟩ [("_law_script",v)])/\∀base:Heap,K.In base->base.Ns mainGlobals mg->FnOk l.prog w K mg base CX0 9 a fd ["_law_script"] (fE K sp)
end K31
section
open PySem PySem.W PyProof.Rows L2 DD
local macro_rules
  | `(tactic| o_head $H:term) => `(tactic| refine holds_open (q := K31.viewQ) (loose := []) (Xt := λs => xlAt K31.viewQ [] s && recOk [] s) (XP := XL K31.viewQ []) (Yf := Hook.obs $H) (Ya := Hook.val $H) (YP := Hook.says $H) (N := 9100) ?$(Lean.mkIdent `hl) (Hook.of $H) (Hook.keeps $H)
      (λs e=>xl_of s (Bool.and_eq_true_iff.mp e).1) XL.keeps (by rfl) (by rfl) (by rfl) (λs e=>recFacts_of (Bool.and_eq_true_iff.mp e).2) (by rfl) (by first | assumption | rfl') (by rfl') ⟨rfl,rfl,rfl,rfl,rfl,by rfl'⟩ ?$(Lean.mkIdent `hw) ?$(Lean.mkIdent `hc))
set_option maxHeartbeats 0 in
theorem K31.over{sp:SpD}(ok:t5 63 sp)(a:K31.Co sp):PySem.Challenge.rw_notring_k31_least_sets_step_by_step.Holds:=by
 w_on;refine holds_law K31.said λsaid=>?_;k_head
 (case hl=>exact TopT.F5 K31.seen1 K31.seen2 K31.seen3 K31.seen5 K31.seen6 (λw=>by kernel_rfl))
 (case hw=>w_witness2);k_fill;refine DD.GE (l:=PySem.Challenge.rw_notring_k31_least_sets_step_by_step) (n:=63) (k:=9) (x:="_law_script") rfl 'b' rfl ⟨rfl,by decide,by decide⟩ ok (λw h Y=>PySem.W.kIn_of Y) ?noL ?defs
 case noL=>intro w;kernel_rfl
 case defs=>
  intro w mg d h b G c;refine' a b G c ?ap ?gl ?bl ?Js ?Jt ?Ju ?Jv ?Jw ?Jx ?Jy ?Jz ?JA ?JB (DefAt.mk' ?HA ?l_38 ?c_38 ?k_38) ⟨⟨_,_,DefAt.mk' ?a_0 ?l_0 ?c_0 ?k_0⟩,⟨_,_,DefAt.mk' ?a_1 ?l_1 ?c_1 ?k_1⟩,⟨_,_,DefAt.mk' ?a_2 ?l_2 ?c_2 ?k_2⟩,⟨_,_,DefAt.mk' ?a_3 ?l_3 ?c_3 ?k_3⟩,⟨_,_,DefAt.mk' ?a_4 ?l_4 ?c_4 ?k_4⟩,⟨_,_,DefAt.mk' ?a_5 ?l_5 ?c_5 ?k_5⟩,⟨_,_,DefAt.mk' ?a_6 ?l_6 ?c_6 ?k_6⟩,⟨_,_,DefAt.mk' ?a_7 ?l_7 ?c_7 ?k_7⟩,⟨_,_,DefAt.mk' ?a_8 ?l_8 ?c_8 ?k_8⟩,⟨_,_,DefAt.mk' ?a_9 ?l_9 ?c_9 ?k_9⟩,⟨_,_,DefAt.mk' ?a_10 ?l_10 ?c_10 ?k_10⟩,⟨_,_,DefAt.mk' ?a_11 ?l_11 ?c_11 ?k_11⟩,⟨_,_,DefAt.mk' ?a_12 ?l_12 ?c_12 ?k_12⟩,⟨_,_,DefAt.mk' ?a_13 ?l_13 ?c_13 ?k_13⟩,⟨_,_,DefAt.mk' ?a_14 ?l_14 ?c_14 ?k_14⟩,⟨_,_,DefAt.mk' ?a_15 ?l_15 ?c_15 ?k_15⟩,⟨_,_,DefAt.mk' ?a_16 ?l_16 ?c_16 ?k_16⟩,⟨_,_,DefAt.mk' ?a_17 ?l_17 ?c_17 ?k_17⟩,⟨_,_,DefAt.mk' ?a_18 ?l_18 ?c_18 ?k_18⟩,⟨_,_,DefAt.mk' ?a_19 ?l_19 ?c_19 ?k_19⟩,⟨_,_,DefAt.mk' ?a_20 ?l_20 ?c_20 ?k_20⟩,⟨_,_,DefAt.mk' ?a_21 ?l_21 ?c_21 ?k_21⟩,⟨_,_,DefAt.mk' ?a_22 ?l_22 ?c_22 ?k_22⟩,⟨_,_,DefAt.mk' ?a_23 ?l_23 ?c_23 ?k_23⟩,⟨_,_,DefAt.mk' ?a_24 ?l_24 ?c_24 ?k_24⟩,⟨_,_,DefAt.mk' ?a_25 ?l_25 ?c_25 ?k_25⟩,⟨_,_,DefAt.mk' ?a_26 ?l_26 ?c_26 ?k_26⟩,⟨_,_,DefAt.mk' ?a_27 ?l_27 ?c_27 ?k_27⟩,⟨_,_,DefAt.mk' ?a_28 ?l_28 ?c_28 ?k_28⟩,⟨_,_,DefAt.mk' ?a_29 ?l_29 ?c_29 ?k_29⟩,⟨_,_,DefAt.mk' ?a_30 ?l_30 ?c_30 ?k_30⟩,⟨_,_,DefAt.mk' ?a_31 ?l_31 ?c_31 ?k_31⟩,⟨_,_,DefAt.mk' ?a_32 ?l_32 ?c_32 ?k_32⟩,⟨_,_,DefAt.mk' ?a_33 ?l_33 ?c_33 ?k_33⟩,⟨_,_,DefAt.mk' ?a_34 ?l_34 ?c_34 ?k_34⟩,⟨_,_,DefAt.mk' ?a_35 ?l_35 ?c_35 ?k_35⟩,⟨_,_,DefAt.mk' ?a_36 ?l_36 ?c_36 ?k_36⟩,⟨_,_,DefAt.mk' ?a_37 ?l_37 ?c_37 ?k_37⟩,⟨_,_,MethAt.mk' ?a_57 ?l_57 ?n_57 ?c_57 ?k_57⟩,⟨_,_,MethAt.mk' ?a_58 ?l_58 ?n_58 ?c_58 ?k_58⟩,⟨_,_,MethAt.mk' ?a_59 ?l_59 ?n_59 ?c_59 ?k_59⟩,⟨_,_,MethAt.mk' ?a_60 ?l_60 ?n_60 ?c_60 ?k_60⟩,⟨_,_,MethAt.mk' ?a_61 ?l_61 ?n_61 ?c_61 ?k_61⟩,⟨_,_,MethAt.mk' ?a_62 ?l_62 ?n_62 ?c_62 ?k_62⟩,⟨_,_,MethAt.mk' ?a_63 ?l_63 ?n_63 ?c_63 ?k_63⟩,⟨_,_,MethAt.mk' ?a_64 ?l_64 ?n_64 ?c_64 ?k_64⟩,⟨_,_,MethAt.mk' ?a_65 ?l_65 ?n_65 ?c_65 ?k_65⟩,⟨_,_,MethAt.mk' ?a_66 ?l_66 ?n_66 ?c_66 ?k_66⟩,⟨_,_,MethAt.mk' ?a_67 ?l_67 ?n_67 ?c_67 ?k_67⟩,⟨_,_,MethAt.mk' ?a_68 ?l_68 ?n_68 ?c_68 ?k_68⟩,⟨_,_,MethAt.mk' ?a_69 ?l_69 ?n_69 ?c_69 ?k_69⟩,⟨_,_,MethAt.mk' ?a_70 ?l_70 ?n_70 ?c_70 ?k_70⟩,⟨_,_,MethAt.mk' ?a_71 ?l_71 ?n_71 ?c_71 ?k_71⟩,⟨_,_,MethAt.mk' ?a_72 ?l_72 ?n_72 ?c_72 ?k_72⟩,⟨_,_,MethAt.mk' ?a_73 ?l_73 ?n_73 ?c_73 ?k_73⟩,⟨_,_,MethAt.mk' ?a_74 ?l_74 ?n_74 ?c_74 ?N1⟩⟩
  case Js | Ju | Jw | Jy | JA | a_0 | l_0 | c_0 | k_0 | a_1 | l_1 | c_1 | k_1 | a_2 | l_2 | c_2 | k_2 | a_3 | l_3 | c_3 | k_3 | a_4 | l_4 | c_4 | k_4 | a_5 | l_5 | c_5 | k_5 | a_6 | l_6 | c_6 | k_6 | a_7 | l_7 | c_7 | k_7 | a_8 | l_8 | c_8 | k_8 | a_9 | l_9 | c_9 | k_9 | a_10 | l_10 | c_10 | k_10 | a_11 | l_11 | c_11 | k_11 | a_12 | l_12 | c_12 | k_12 | a_13 | l_13 | c_13 | k_13 | a_14 | l_14 | c_14 | k_14 | a_15 | l_15 | c_15 | k_15 | a_16 | l_16 | c_16 | k_16 | a_17 | l_17 | c_17 | k_17 | a_18 | l_18 | c_18 | k_18 | a_19 | l_19 | c_19 | k_19 | a_20 | l_20 | c_20 | k_20 | a_21 | l_21 | c_21 | k_21 | a_22 | l_22 | c_22 | k_22 | a_23 | l_23 | c_23 | k_23 | a_24 | l_24 | c_24 | k_24 | a_25 | l_25 | c_25 | k_25 | a_26 | l_26 | c_26 | k_26 | a_27 | l_27 | c_27 | k_27 | a_28 | l_28 | c_28 | k_28 | a_29 | l_29 | c_29 | k_29 | a_30 | l_30 | c_30 | k_30 | a_31 | l_31 | c_31 | k_31 | a_32 | l_32 | c_32 | k_32 | a_33 | l_33 | c_33 | k_33 | a_34 | l_34 | c_34 | k_34 | a_35 | l_35 | c_35 | k_35 | a_36 | l_36 | c_36 | k_36 | a_37 | l_37 | c_37 | k_37 | HA | l_38 | c_38 | k_38 | a_57 | l_57 | n_57 | c_57 | k_57 | a_58 | l_58 | n_58 | c_58 | k_58 | a_59 | l_59 | n_59 | c_59 | k_59 | a_60 | l_60 | n_60 | c_60 | k_60 | a_61 | l_61 | n_61 | c_61 | k_61 | a_62 | l_62 | n_62 | c_62 | k_62 | a_63 | l_63 | n_63 | c_63 | k_63 | a_64 | l_64 | n_64 | c_64 | k_64 | a_65 | l_65 | n_65 | c_65 | k_65 | a_66 | l_66 | n_66 | c_66 | k_66 | a_67 | l_67 | n_67 | c_67 | k_67 | a_68 | l_68 | n_68 | c_68 | k_68 | a_69 | l_69 | n_69 | c_69 | k_69 | a_70 | l_70 | n_70 | c_70 | k_70 | a_71 | l_71 | n_71 | c_71 | k_71 | a_72 | l_72 | n_72 | c_72 | k_72 | a_73 | l_73 | n_73 | c_73 | k_73 | a_74 | l_74 | n_74 | c_74 | N1=>k_is
  case ap | gl | bl | Jt | Jv | Jx | Jz | JB=>kernel_rfl
end
namespace DD
open PySem PySem.Spec PyProof.Rows L2
theorem rR{P:Zw}{w:World}{k:Key}{u:Value}(h:(a9 P w).is k u=true):RelV (kV k) u:=by
 rw[xH] at h;rcases bh h with⟨i,t,rfl,rfl⟩ | ⟨x,t,rfl,rfl⟩
 ·exact⟨t,rfl⟩
 ·exact⟨t,rfl⟩
def Itd(a:Addr)(u:Obj)(b:List (Key×V)):It:=
 ⟨λi H=>H a=some (.frz u (.dK b))/\i<b.length,λi H x H'=>H'=H/\∃c,b[i]?=some c/\x=kV c.1,λi H=>H a=some (.frz u (.dK b))/\b.length<=i⟩
theorem k9{X:Cx}{pins:Zc}{σ:L2.St}{H:Hp}{s:Shared}{a:Addr}{u:Obj}{b:List (Key×V)}(I:Inv X pins σ H s)(h:H a=some (.frz u (.dK b))):
  (a==sysModules)=false/\b.length<=sizeLine/\∃vs es c,KV b vs/\u.data=.dict es c/\s.heap.DictAt (a9 X.prog X.w) a vs c:=by
 obtain⟨d,hz,hd,vs,f,o,es,c,ho,r⟩:=(show aN X.prog X.w H s.heap a (.frz u (.dK b)) from I.hok a _ h);have e:o=u:=by rw[d] at ho;cases ho;rfl
 subst e;exact⟨hd,hz,vs,es,c,f,r.2.1,o,es,ho,r⟩
theorem zv{P:Zw}{w:World}{K:Za}{tg:Expr}(a it:Addr){u:Obj}{j:List (Key×V)}{es:Array DictEntry}{l:Nat}(hu:u.data=.dict es l):
  Turn P w K tg (Itd a u j) [it] it (λi h=>h.IsKeyIter it a i j.length l) where
 mem:=by simp
 obj:=λi h st b hb=>by
  have e:b=it:=by simpa using hb
  subst e;obtain⟨o,e,c,d⟩:=st;exact⟨o,e,λv z=>by rw[d] at z;cases z⟩
 keep:=λi h h' st k=>st.at λo e=>k it (by simp) o e
 item:=by
  rw[0];obtain⟨hq,hi⟩:=hg;obtain⟨hd,hz,vs,G,m,f,g,hm⟩:=k9 I hq;have n:m=l:=by rw[hu] at g;cases g;rfl
  subst n;obtain⟨⟨k,x⟩,hx,J⟩:=cy f (ZE hi);obtain⟨p,r,L,y,A,B⟩:=hf it (by simp);rw[f.length] at st;refine wpAny_pyNext_dict_item st hm hx λC h' O f_ R=>?_
  have S:Inv X pins σ H { s with heap:=h' }:=I.turned (t':=s.toks) (λb o hb e=>(R.2 b hb).trans e) p r y A B;obtain⟨o,e,c,d⟩:=id f_;rw[←f.length] at f_;have T:j[i].1=k:=J.1;exact⟨C,rfl,nR (s:={ s with heap:=h' }) e c d 'b' ⟨kV k,H,S,rR O,⟨rfl,j[i],ZE hi,by rw[T]⟩,f_,λb hb=>(hf b hb).1⟩⟩
 done:=by
  rw[0];obtain⟨hq,hi⟩:=hg;obtain⟨hd,hz,vs,G,m,f,g,hm⟩:=k9 I hq;have n:m=l:=by rw[hu] at g;cases g;rfl
  subst n;obtain⟨p,r,L,y,A,B⟩:=hf it (by simp);rw[f.length] at st;have hx:vs[i]?=none:=by rw[List.getElem?_eq_none_iff,←f.length];exact hi
  exact wpAny_pyNext_dict_end (I.ok.hd hc) st hm hx λh' U=>⟨rfl,I.turned (t':=s.toks) (λb o hb e=>U b o hb e) p r y A B⟩
 self:=λ_ _ _ _ _ st h=>wpAny_pyIter_keyiter st h
section
variable {X:Cx}{ρ:L2.St}{H:Hp}
theorem xh{pins:Zc}{s:Shared}{tg:Expr}{a:Addr}{u:Obj}{c:List (Key×V)}{R:It->Hp->Prop}(I:Inv X pins ρ H s)(hq:H a=some (.frz u (.dK c)))(q:R (Itd a u c) H):
  wpAny 'c' X.A (pyIter (.ref a)) (PIE X pins ρ tg R) X.xe s:=by
 obtain⟨hd,hz,vs,es,f,d,hu,hm⟩:=k9 I hq;refine wpAny_pyIter_dict hd hm ?_;refine⟨s.heap.objs.size,[s.heap.objs.size],_,_,H,rfl,I.kept (t':=s.toks) λb o e=>Yd _ e,zv a _ hu,⟨_,Yg _ rfl,rfl,by rw[d.length];rfl⟩,λb hb=>?_,q⟩;have e:b=s.heap.objs.size:=by simpa using hb
 subst e;exact I.fpOk (YH _) (I.hok.fresh (YH _))
theorem freeze{pins:Zc}{s:Shared}{a:Addr}{c:List (Key×V)}(I:Inv X pins ρ H s)(hq:H a=some (.dK c)):∃u,Inv X pins ρ (upd H a (.frz u (.dK c))) s:=by
 obtain⟨hz,hd,vs,f,d⟩:=(show aN X.prog X.w H s.heap a (.dK c) from I.hok a _ hq);obtain⟨o,es,g,ho,r⟩:=id d;refine⟨o,?_⟩
 have:=I.write (x:=a) (e:=a) (o:=.frz o (.dK c)) (h':=s.heap) (t':=s.toks) (by rw[hq];exact trivial) (.inl rfl) (λb u _ e=>e) ⟨_,ho⟩ ⟨ho,hz,hd,vs,f,d⟩
 exact this
end
structure EndsD where
 nx:DS->MH->Prop
 rt:DK
 bk:DS->MH->Prop:=λ_ _=>False
 ct:DS->MH->Prop:=λ_ _=>False
abbrev WS:=EndsD->DS->MH->Prop
def qm(K:Za)(H:Hp)(n:DS->MH->Prop):L2.St->Hp->Prop:=λb H'=>Kp H H'/\∃a M',RS K H' a b/\RM K M' H'/\n a M'
def t6(K:Za)(H:Hp)(D:EndsD):Ends:={ nx:=qm K H D.nx,rt:=lift K H D.rt,bk:=qm K H D.bk,ct:=qm K H D.ct }
structure EImp (D D':Ends):Prop where
 nx:∀ρ H,D.nx ρ H->D'.nx ρ H
 rt:∀v H,D.rt v H->D'.rt v H
 bk:∀ρ H,D.bk ρ H->D'.bk ρ H
 ct:∀ρ H,D.ct ρ H->D'.ct ρ H
section
variable {X:Cx}{st:Stmt}{HG:Zu}{ρ:L2.St}{H H':Hp}{pos:Pos}{e:Expr}
theorem jD{K:Za}{n:DS->MH->Prop}{a:L2.St}{b:Hp}(k:Kp H H')(h:qm K H' n a b):qm K H n a b:=⟨k.trans h.1,h.2⟩
theorem pi{K:Za}{D:EndsD}(k:Kp H H'):EImp (t6 K H' D) (t6 K H D):=⟨λ_ _=>jD k,λ_ _=>bA k,λ_ _=>jD k,λ_ _=>jD k⟩
theorem SP.imp{pins:Zc}{D D':Ends}{f:Flow}{g:Shared}(i:EImp D D')(h:SP X pins D f g):SP X pins D' f g:=by
 cases f with
 |next=>obtain⟨a,b,c,d⟩:=h;exact⟨a,b,c,i.nx _ _ d⟩
 |brk=>obtain⟨a,b,c,d⟩:=h;exact⟨a,b,c,i.bk _ _ d⟩
 |cont=>obtain⟨a,b,c,d⟩:=h;exact⟨a,b,c,i.ct _ _ d⟩
 |ret u=>obtain⟨v,a,b,c,r,d⟩:=h;exact⟨v,a,b,c,r,i.rt _ _ d⟩
def tWSs(X:Cx)(HG:Zu):L2.TS:=λD ρ H=>∀pins s,Inv X pins ρ H s->wpAny 'c' X.A (execs HG X.env) (SP X pins D) X.xe s
theorem ps_W(st:Stmt):PS X st (tWS X st):=λpins s _ _ _ I h=>h pins s I
theorem lU(HG:Zu):PSs X HG (tWSs X HG):=λpins s _ _ _ I h=>h pins s I
theorem cV{t:L2.TS}{D:Ends}(h:PS X st t)(q:t D ρ H):tWS X st D ρ H:=λpins s I=>h pins s ρ H D I q
theorem xi{t:L2.TS}{D:Ends}(h:PSs X HG t)(q:t D ρ H):tWSs X HG D ρ H:=λpins s I=>h pins s ρ H D I q
theorem A6{D D':Ends}(h:tWS X st D ρ H)(i:EImp D D'):tWS X st D' ρ H:=λpins s I=>thn (h pins s I) λ_ _ q=>SP.imp i q
theorem cX{D D':Ends}(h:tWSs X HG D ρ H)(i:EImp D D'):tWSs X HG D' ρ H:=λpins s I=>thn (h pins s I) λ_ _ q=>SP.imp i q
def PSd(X:Cx)(st:Stmt)(t:WS):Prop:=∀σ M ρ H D,RS X.K H σ ρ->RM X.K M H->t D σ M->tWS X st (t6 X.K H D) ρ H
def PSsd(X:Cx)(HG:Zu)(t:WS):Prop:=∀σ M ρ H D,RS X.K H σ ρ->RM X.K M H->t D σ M->tWSs X HG (t6 X.K H D) ρ H
def nZ:WS:=λD σ M=>D.nx σ M
def wSeq(t u:WS):WS:=λD σ M=>t { D with nx:=u D } σ M
theorem A8:PSsd X [] nZ:=λσ M ρ H D rs a q=>xi CM ⟨Kp.refl H,σ,M,rs,a,q⟩
theorem zw{t u:WS}(h:PSd X st t)(h':PSsd X HG u):PSsd X (st::HG) (wSeq t u):=by
 intro σ M ρ H D rs a q;refine xi (AI (ps_W st) (lU HG)) ?_;show tWS X st _ ρ H;refine A6 (h σ M ρ H _ rs a q) ⟨λb H' c=>?_,λ_ _ z=>z,λ_ _ z=>z,λ_ _ z=>z⟩;obtain⟨k,d,M',f,g,j⟩:=c;exact cX (h' d M' b H' D f g j) (pi k)
def wRet(t:WE):WS:=λD σ M=>t σ M D.rt
theorem DE{t:WE}(h:PEd X e t):PSd X (.Return (some e) pos) (wRet t):=λσ M ρ H D rs a q=>cV (EH (pe_W e)) (h σ M ρ H _ rs a q)
theorem A9:PSd X (.Pass pos) nZ:=λσ M ρ H D rs a q=>cV CN ⟨Kp.refl H,σ,M,rs,a,q⟩
theorem zx:PSd X st (λ_ _ _=>False):=λ_ _ _ _ _ _ _ q=>Yh q
def cA:Expr->Bool
 |.ListComp _ _ _ _=>false
 |.SetComp _ _ _ _=>false
 |.DictComp _ _ _ _ _=>false
 |_=>true
theorem qo{t:Option Expr}{n:Nat}{env:Env}(h:cA e=true):swapsWith e t n env=pure false:=by
 cases e<;>first | rfl | (exact absurd (show false=true from h) YG)
def t7(t:WE):WS:=λD σ M=>t σ M λ_ M1=>D.nx σ M1
theorem Ba{t:WE}(h:PEd X e t)(hc:cA e=true):PSd X (.Expr e pos) (t7 t):=by
 intro σ M ρ H D rs b q;refine cV (CO (pe_W e) (qo hc)) ?_;show tW X e ρ H _;refine aD (h σ M ρ H _ rs b q) λv g c=>?_
 obtain⟨a,x,M1,j,d,f⟩:=c;exact⟨a,σ,M1,rs.mono a,d,f⟩
def wSet(i:Nat)(t:WE):WS:=λD σ M=>t σ M λx M1=>D.nx (σ.set i (some x)) M1
def wIfS(c:WT)(t u:WS):WS:=λD σ M=>c σ M λb M1=>Bif b (t D σ M1) (u D σ M1)
theorem Fn{c:Expr}{a b:Zu}{tc:WT}{t u:WS}(hc:PTd X c tc)(ha:PSsd X a t)(hb:PSsd X b u):PSd X (.If c a b pos) (wIfS tc t u):=by
 intro σ M ρ H D rs l q;refine cV (Gf (pt_W c) (lU a) (lU b)) ?_;show tWT X c ρ H _;refine et (hc σ M ρ H _ rs l q) λk f m=>?_
 obtain⟨d,M1,g,j⟩:=m;cases k with
 |true=>exact cX (ha σ M1 ρ f D (rs.mono d) g j) (pi d)
 |false=>exact cX (hb σ M1 ρ f D (rs.mono d) g j) (pi d)
inductive Tgt where
 |nm (i:Nat) | tp (is:Zj)
def gsOf:List Nat->TGs
 |[]=>gNil
 |i::is=>Ch (tT i) (gsOf is)
section
variable {prog:Zw}{w:World}{A:Around}{E:Zb}
theorem uH{it l:Addr}{c_:Zl}(ne:l≠it):∀(n i:Nat) (s:Shared) (Q:List Value->Shared->Prop),s.heap.IsListIter it l i->s.heap.IsList l c_->i+n<=c_.size ->
  (∀h',h'.IsListIter it l (i+n)->Heap.SameBut it s.heap h'->Q ((c_.toList.drop i).take n) { s with heap:=h' })->wpAny 'e' A (draw (.ref it) n) Q E s
 |0,i,s,Q,hi,_,_,q=>by
  rw[draw];exact Yc (by simpa using q s.heap hi (Heap.SameBut.refl ..))
 |n+1,i,s,Q,hi,hl,le,q=>by
  have lt:i<c_.size:=by omega
  rw[draw];refine Yb (wpAny_pyNext_list_item hi hl (x:=c_[i]) (by simp[lt]) λc a s1=>?_);refine Yb (Yj (uH ne n (i+1) _ _ a (hl.extBut s1.extBut ne) 'a' λh2 b s2=>Yc ?_));have e:c_.toList.drop i=c_[i]::c_.toList.drop (i+1):=by simp[XV,lt]
  have r:=q h2 (by rw[show i+(n+1)=i+1+n by omega];exact b) (s1.trans s2);rw[e,List.take_succ_cons] at r;exact r
theorem x0{s:Shared}{l:Addr}{c_:Zl}{ts:List (Bool×(Value->Sem Unit))}{Q:Zo}(a:A.handled=none)(hl:s.heap.IsList l c_)(hn:ts.length=c_.size)(c:ts.findIdx? (·.1)=none)
  (h:∀h',Heap.ExtBut s.heap.objs.size s.heap h'->wpAny 'e' A (assignInOrder (ts.map (·.2)) c_.toList) Q E { s with heap:=h' }):wpAny 'e' A (unpack (.ref l) ts) Q E s:=by
 have ne:l≠s.heap.objs.size:=by obtain⟨o,ho,_⟩:=hl;exact ZW (Ye ho)
 unfold unpack;rw[hn,c];refine Yb (Yj ?_);unfold unpackItems;refine Yb ?_;unfold notIterableAtAll;refine Yb (wpAny_specialOf hl.typeIs slot_list_iter.lookup (Yc ?_));simp only[XG,if_false];refine Yb (Yj (wpAny_pyIter_list hl ?_));refine Yb (Yj (uH ne c_.size 0 _ _ ⟨_,Yg _ rfl,rfl,rfl⟩ (hl.push _) 'a' λg d s1=>?_));have e:List.take c_.size (List.drop 0 c_.toList)=c_.toList:=by rw[List.drop_zero];exact List.take_of_length_le (by simp)
 rw[e,if_neg (by simp)];refine Yb (Yj (wpAny_pyNext_list_end a d ((hl.push _).extBut s1.extBut ne) (by simp) λh2 f=>?_));simp only[Option.isSome_none,XG,if_false];exact Yc (h h2 λb o hb z=>f b o hb (s1.extBut b o hb (Yd _ z)))
end
def gSeq(K:Za)(n:Nat)(t:TGs):TG:=λv σ H Q=>∃a xs,v=.ref a/\(SqT K H a xs\/SqL K H a xs)/\xs.length=n/\t xs σ H Q
theorem Fo{X:Cx}{pos:Pos}{es:Zg}{k:Nat}{t:TGs}{n:Nat}(hc:X.calm=true)(h:PGs X es t)(hn:(assignEach es X.env).length=n)(c:(assignEach es X.env).findIdx? (·.1)=none):PG X (.Tuple es k pos) (gSeq X.K n t):=by
 intro pins s σ H v u Q I r hw;obtain⟨a,xs,d,hq | hq,hl,hw⟩:=hw
 ·exact EI hc h hn c pins s σ H v u Q I r ⟨a,xs,d,hq,hl,hw⟩
 ·subst d
  cases r;obtain⟨c_,f,ht,hz⟩:=I.list hq;rw[PyProof.Rows.assign_Tuple];refine Yb (Yk (x0 (I.ok.hd hc) ht.isList (by simp[hn,←hl,f.length]) c λh' hx=>?_));have g:Inv X pins σ H { s with heap:=h' }:=I.kept (t':=s.toks) λb o e=>hx b o (ZW (Ye e)) e
  exact h pins _ σ H xs _ Q g (by simpa using f) hw
def gOf(K:Za):Tgt->TG
 |.nm i=>tT i
 |.tp is=>gSeq K is.length (gsOf is)
def setM:List Nat->List D->DS->DS
 |i::is,d::ds,σ=>setM is ds (σ.set i (some d))
 |_,_,σ=>σ
def n0:Tgt->D->DS->(DS->Prop)->Prop
 |.nm i,d,σ,Q=>Q (σ.set i (some d))
 |.tp is,.tup ds,σ,Q=>ds.length=is.length/\Q (setM is ds σ)
 |.tp _,_,_,_=>False
theorem rS{K:Za}:∀(is:Zj) (ds:List D) (vs:List V) (σ:DS) (ρ:L2.St) (H:Hp) (Q:L2.St->Hp->Prop),RVs K H ds vs->RS K H σ ρ->ds.length=is.length ->
  (∀a,RS K H (setM is ds σ) a->Q a H)->gsOf is vs ρ H Q
 |[],[],vs,σ,ρ,H,Q,r,rs,_,q=>by rw[RVs] at r;subst r;exact⟨rfl,q ρ rs⟩
 |i::is,d::ds,vs,σ,ρ,H,Q,r,rs,l,q=>by
  rw[RVs] at r;obtain⟨v,b,rfl,c,f⟩:=r;exact⟨v,b,rfl,rS is ds b (σ.set i (some d)) (ρ.set i (some v)) H Q f (rs.set i c) (by simpa using l) q⟩
theorem uI{K:Za}{t:Tgt}{d:D}{v:V}{σ:DS}{ρ:L2.St}{H:Hp}{Q:L2.St->Hp->Prop}{c:DS->Prop}(r:RV K H d v)(rs:RS K H σ ρ)(h:n0 t d σ c)(f:∀b g,RS K H g b->c g->Q b H):gOf K t v ρ H Q:=by
 cases t with
 |nm i=>exact f _ _ (rs.set i r) h
 |tp is=>
  cases d with
  |tup ds=>
   obtain⟨a,xs,rfl,s,j⟩:=RV.tup_.1 r;exact⟨a,xs,rfl,.inl s,by rw[←j.len];exact h.1,rS is ds xs σ ρ H Q j rs h.1 λb k=>f b _ k h.2⟩
  |_=>exact Yh h
def PGd(X:Cx)(tg:Expr)(t:Tgt):Prop:=PG X tg (gOf X.K t)
theorem RM.list{K:Za}{H:Hp}{M:MH}{a:Addr}{ds:List D}(m:RM K M H)(h:rdL (M a)=some ds):∃vs,SqL K H a vs/\RVs K H ds vs:=by
 cases e:M a with
 |none=>rw[e] at h;cases h
 |some o=>
  rw[e] at h;cases o with
  |lst xs=>cases h;obtain⟨vs,q,r⟩:=m a _ e;exact⟨vs,SqL.of q,r⟩
  |rol xs=>cases h;obtain⟨vs,q,r⟩:=m a _ e;exact⟨vs,.inl q,r⟩
  |_=>cases h
def t8(t:Tgt)(d:D)(M:MH)(σ:DS)(Q:DS->Prop):Prop:=match d with
 |.ref a=>match t with
  |.nm i=>Q (σ.set i (some (.ref a)))
  |.tp is=>match rdL (M a) with
   |some ds=>ds.length=is.length/\Q (setM is ds σ)
   |none=>False
 |d=>n0 t d σ Q
theorem DF{K:Za}{t:Tgt}{d:D}{v:V}{M:MH}{σ:DS}{ρ:L2.St}{H:Hp}{Q:L2.St->Hp->Prop}{c:DS->Prop}(r:RV K H d v)(rs:RS K H σ ρ)(m:RM K M H)(h:t8 t d M σ c)(f:∀b g,RS K H g b->c g->Q b H):gOf K t v ρ H Q:=by
 cases d with
 |ref a=>
  cases t with
  |nm i=>exact f _ _ (rs.set i r) h
  |tp is=>
   have h:match rdL (M a) with | some ds=>ds.length=is.length/\c (setM is ds σ) | none=>False:=h
   split at h
   ·rename_i ds e
    obtain⟨vs,sq,j⟩:=m.list e;cases RV.ref_.1 r;exact⟨a,vs,rfl,.inr sq,by rw[←j.len];exact h.1,rS is ds vs σ ρ H Q j rs h.1 λb k=>f b _ k h.2⟩
   ·exact Yh h
 |_=>exact uI r rs h f
def wAsg(t:WE)(g:Tgt):WS:=λD σ M=>t σ M λx M1=>t8 g x M1 σ λa=>D.nx a M1
theorem DG{tg:Expr}{t:WE}{g:Tgt}(h:PEd X e t)(hg:PGd X tg g)(c:swapsWithSole [tg] e pos.line X.env=pure false)(hw:swappedStores [tg] e X.env=pure none)(d:(assignEach [tg] X.env).map (·.2)=[assign tg X.env]):PSd X (.Assign [tg] e pos) (wAsg t g):=by
 intro σ M ρ H D rs f q;refine cV (yS (pe_W e) hg c hw d) ?_;show tW X e ρ H _;refine aD (h σ M ρ H _ rs f q) λv p j=>?_
 obtain⟨a,x,M1,k,b,l⟩:=j;exact DF k (rs.mono a) b l λr m n o=>⟨a,m,M1,n,b,o⟩
abbrev WI:=DS->MH->(List D->(MH->Prop)->MH->Prop)->Prop
def JOk(K:Za)(J:It)(a:Hp)(xs:List D)(g:MH->Prop):Prop:=∀i H M,Kp a H->RM K M H->g M->(i<xs.length->J.go i H)/\(i=xs.length->J.stop i H)/\∀x H' d,xs[i]?=some d->J.yld i H x H'->Kp H H'/\RM K M H'/\RV K H' d x
def iW(X:Cx)(tg a:Expr):TI:=λρ H R=>∀pins s,Inv X pins ρ H s->wpAny 'c' X.A (eval a X.env) (λv s1=>wpAny 'c' X.A (pyIter v) (PIE X pins ρ tg R) X.xe s1) X.xe s
theorem pi_W(tg a:Expr):PI X tg a (iW X tg a):=λpins s _ _ _ I h=>h pins s I
theorem Cp{tg a:Expr}{t:TI}{R:It->Hp->Prop}(h:PI X tg a t)(q:t ρ H R):iW X tg a ρ H R:=λpins s I=>h pins s ρ H R I q
theorem rT{tg a:Expr}{R b:It->Hp->Prop}(h:iW X tg a ρ H R)(f:∀J H',R J H'->b J H'):iW X tg a ρ H b:=λpins s I=>thn (h pins s I) λ_ _ q=>thn q λ_ _ ⟨it,fp,tn,J,H',e,c,T,st,d,r⟩=>⟨it,fp,tn,J,H',e,c,T,st,d,f J H' r⟩
def IEnd(K:Za)(H:Hp)(R:List D->(MH->Prop)->MH->Prop):It->Hp->Prop:=λJ H'=>Kp H H'/\∃xs g M',RM K M' H'/\g M'/\JOk K J H' xs g/\xs.length<=sizeLine/\R xs g M'
def PId(X:Cx)(tg a:Expr)(t:WI):Prop:=∀σ M ρ H R,RS X.K H σ ρ->RM X.K M H->t σ M R->iW X tg a ρ H (IEnd X.K H R)
def kD:Key->D
 |.inl i=>.int i
 |.inr x=>.str x
def keysOf(a:ZD):List D:=a.map λb=>kD b.1
theorem Cq{K:Za}{H:Hp}(k:Key):RV K H (kD k) (kV k):=by
 cases k with
 |inl i=>exact RV.int_.2 rfl
 |inr x=>exact RV.str_.2 rfl
theorem uJ{K:Za}{a:Addr}{u:Obj}{b:ZD}{f:List (Key×V)}{j:Hp}(e:j a=some (.frz u (.dK f)))(hk:f.map (·.1)=b.map (·.1))(g:MH->Prop):JOk K (Itd a u f) j (keysOf b) g:=by
 intro i H M k n _;have hl:f.length=b.length:=by have:=congrArg List.length hk;simpa using this
 have e':=k.2 a _ _ e;have hn:(keysOf b).length=b.length:=by unfold keysOf;rw[ZG]
 rw[hn];refine⟨λhi=>⟨e',by omega⟩,λhi=>⟨e',by omega⟩,λx H' d hd o=>?_⟩;obtain⟨r,m,y,h2⟩:=o;subst r h2;unfold keysOf at hd;rw[ZH] at hd;have c:(b[i]?).map (·.1)=some m.1:=by
  have:=congrArg (λl=>l[i]?) hk
  simp only[ZH,y] at this;rw[←this];rfl
 cases q:b[i]? with
 |none=>rw[q] at c;cases c
 |some p=>
  rw[q] at c hd;cases hd;have c:p.1=m.1:=by simpa using c
  refine⟨Kp.refl _,n,?_⟩;show RV K _ (kD p.1) _;rw[c];exact Cq _
def seqD(x:D)(M:MH)(R:List D->(MH->Prop)->MH->Prop):Prop:=match x with
 |.tup ds=>R ds (λ_=>True) M
 |.ref a=>match M a with
  |some (.lst ds)=>R ds (λM'=>M' a=some (.lst ds)) M
  |some (.rol ds)=>R ds (λM'=>M' a=some (.rol ds)) M
  |some (.dic b)=>R (keysOf b) (λM'=>M' a=some (.rod b)) (updM M a (.rod b))
  |some (.rod b)=>R (keysOf b) (λM'=>M' a=some (.rod b)) M
  |_=>False
 |.str z=>z.cps.size<=sizeLine/\R (z.cps.toList.map λc=>.str ⟨#[c]⟩) (λ_=>True) M
 |_=>False
theorem uK{K:Za}{a:Addr}{ds:List D}{f:Hp}{g:MH->Prop}(hg:∀H M,RM K M H->g M->∃vs,SqL K H a vs/\RVs K H ds vs):JOk K (Itl K a) f ds g:=by
 intro i H M _ c q;obtain⟨vs,sq,b⟩:=hg H M c q;refine⟨λhi=>?_,λhi=>⟨vs,sq,by rw[←b.len];exact Nat.le_of_eq hi.symm⟩,λx H' d hd ⟨e,y⟩=>?_⟩
 ·have:i<vs.length:=by rw[←b.len];exact hi
  exact⟨vs,vs[i],sq,ZE this⟩
 ·subst e
  obtain⟨v,hv,r⟩:=cy b.p hd
  have:=y vs sq
  rw[hv] at this;cases this;exact⟨Kp.refl _,c,r⟩
theorem DH{K:Za}{a:Addr}{ds:List D}{vs:List V}{c:Hp}(sq:SqT K c a vs)(b:RVs K c ds vs):JOk K (Itt K a) c ds (λ_=>True):=by
 intro i H M k f _;have sq:=k.sq sq;have b:=RVs.mono k _ b;refine⟨λhi=>?_,λhi=>⟨vs,sq,by rw[←b.len];exact Nat.le_of_eq hi.symm⟩,λx H' d hd ⟨e,y⟩=>?_⟩
 ·have:i<vs.length:=by rw[←b.len];exact hi
  exact⟨vs,vs[i],sq,ZE this⟩
 ·subst e
  obtain⟨v,hv,r⟩:=cy b.p hd
  have:=y vs sq
  rw[hv] at this;cases this;exact⟨Kp.refl _,f,r⟩
theorem DI{K:Za}{z:Str}{a:Hp}:JOk K (Its z) a (z.cps.toList.map λc=>.str ⟨#[c]⟩) (λ_=>True):=by
 intro i H M k b _;rw[ZG];refine⟨λhi=>?_,λhi=>?_,λx H' d hd ⟨e,c,hc,y⟩=>?_⟩
 ·show i<z.cps.size
  simpa using hi
 ·show i=z.cps.size
  simpa using hi
 ·subst e y
  rw[ZH] at hd;have:z.cps.toList[i]?=some c:=by simpa using hc
  rw[this] at hd;cases hd;exact⟨Kp.refl _,b,RV.str_.2 rfl⟩
def t9(t:WE):WI:=λσ M R=>t σ M λx M1=>seqD x M1 R
theorem xj{pins:Zc}{s:Shared}{tg:Expr}{a:Addr}{xs:List V}{R:It->Hp->Prop}(I:Inv X pins ρ H s)(hq:SqL X.K H a xs)(q:R (Itl X.K a) H):wpAny 'c' X.A (pyIter (.ref a)) (PIE X pins ρ tg R) X.xe s:=by
 obtain⟨c_,c,p,hz⟩:=I.list hq;refine wpAny_pyIter_list p.isList ?_;refine⟨s.heap.objs.size,[s.heap.objs.size],_,_,H,rfl,I.kept (t':=s.toks) λb o e=>Yd _ e,yT a _,⟨_,Yg _ rfl,rfl,rfl⟩,λb hb=>?_,q⟩;have e:b=s.heap.objs.size:=by simpa using hb
 subst e;exact I.fpOk (YH _) (I.hok.fresh (YH _))
theorem Fp{pins:Zc}{s:Shared}{tg:Expr}{a:Addr}{xs:List V}{R:It->Hp->Prop}(I:Inv X pins ρ H s)(hq:SqT X.K H a xs)(q:R (Itt X.K a) H):wpAny 'c' X.A (pyIter (.ref a)) (PIE X pins ρ tg R) X.xe s:=by
 obtain⟨c_,c,p,hz⟩:=I.tuple hq;refine wpAny_pyIter_tuple (show s.heap.IsTuple a c_.toArray from p) ?_;refine⟨s.heap.objs.size,[s.heap.objs.size],_,_,H,rfl,I.kept (t':=s.toks) λb o e=>Yd _ e,xI a _,⟨_,Yg _ rfl,rfl,rfl⟩,λb hb=>?_,q⟩;have e:b=s.heap.objs.size:=by simpa using hb
 subst e;exact I.fpOk (YH _) (I.hok.fresh (YH _))
theorem Fq{pins:Zc}{s:Shared}{tg:Expr}{z:Str}{t:Tok}{R:It->Hp->Prop}(I:Inv X pins ρ H s)(q:R (Its z) H):wpAny 'c' X.A (pyIter (.str z t)) (PIE X pins ρ tg R) X.xe s:=by
 have fp:∀b∈[s.heap.objs.size],FpOk X pins H b:=λb hb=>by
  have e:b=s.heap.objs.size:=by simpa using hb
  subst e;exact I.fpOk (YH _) (I.hok.fresh (YH _))
 cases ha:z.cps.all (· < 128)
 ·refine wpAny_pyIter_wide ha ?_
  exact⟨s.heap.objs.size,[s.heap.objs.size],_,_,H,rfl,I.kept (t':=s.toks) λb o e=>Yd _ e,zk _ z t,⟨_,Yg _ rfl,rfl,rfl⟩,fp,q⟩
 ·refine wpAny_pyIter_ascii ha ?_
  exact⟨s.heap.objs.size,[s.heap.objs.size],_,_,H,rfl,I.kept (t':=s.toks) λb o e=>Yd _ e,zj _ z t,⟨_,Yg _ rfl,rfl,rfl⟩,fp,q⟩
theorem DJ{l tg:Expr}{t:WE}(h:PEd X l t):PId X tg l (t9 t):=by
 intro σ M ρ H R rs L q pins s I;refine thn (h σ M ρ H _ rs L q pins s I) λu s1 O=>?_
 obtain⟨v,P,g,r,⟨n,d,M1,y,j,f⟩⟩:=O;cases d with
 |tup ds=>
  obtain⟨a,xs,rfl,sq,k⟩:=RV.tup_.1 y;cases r;obtain⟨_,_,_,hz⟩:=g.tuple sq;exact Fp g sq ⟨n,ds,_,M1,j,trivial,DH sq k,by rw[k.len];exact hz,f⟩
 |ref a=>
  cases RV.ref_.1 y;cases r;have f:match M1 a with
   |some (.lst ds)=>R ds (λM'=>M' a=some (.lst ds)) M1
   |some (.rol ds)=>R ds (λM'=>M' a=some (.rol ds)) M1
   |some (.dic c)=>R (keysOf c) (λM'=>M' a=some (.rod c)) (updM M1 a (.rod c))
   |some (.rod c)=>R (keysOf c) (λM'=>M' a=some (.rod c)) M1
   |_=>False:=f
  split at f
  ·rename_i ds e
   obtain⟨xs,b,k⟩:=j a _ e;obtain⟨_,_,_,hz⟩:=g.list (SqL.of b);refine xj g (SqL.of b) ⟨n,ds,_,M1,j,e,uK λH' M' A g'=>?_,by rw[k.len];exact hz,f⟩;obtain⟨B,e',C⟩:=A a _ g';exact⟨B,SqL.of e',C⟩
  ·rename_i ds e
   obtain⟨xs,b,k⟩:=j a _ e;have b:SqL X.K P a xs:=.inl b;obtain⟨_,_,_,hz⟩:=g.list b;refine xj g b ⟨n,ds,_,M1,j,e,uK λH' M' A g'=>?_,by rw[k.len];exact hz,f⟩;obtain⟨B,e',C⟩:=A a _ g';exact⟨B,.inl e',C⟩
  ·rename_i c e
   obtain⟨o,b,p,k⟩:=j a _ e;obtain⟨u,G⟩:=freeze g b;have J:=Kp.put (o':=.frz u (.dK o)) b trivial;have S:=j.put (m:=.rod c) b trivial (o':=.frz u (.dK o)) ⟨u,o,aw,p,RVs.mono J _ k⟩;refine xh G aw ⟨n.trans J,keysOf c,_,_,S,aa,uJ aw p _,?_,f⟩;obtain⟨_,hz,_⟩:=k9 G aw;have hl:o.length=c.length:=by have:=congrArg List.length p;simpa using this
   unfold keysOf;rw[ZG];omega
  ·rename_i c e
   obtain⟨u,o,b,p,k⟩:=j a _ e;refine xh g b ⟨n,keysOf c,_,M1,j,e,uJ b p _,?_,f⟩;obtain⟨_,hz,_⟩:=k9 g b;have hl:o.length=c.length:=by have:=congrArg List.length p;simpa using this
   unfold keysOf;rw[ZG];omega
  ·exact Yh f
 |str z=>
  cases RV.str_.1 y;obtain⟨t,rfl⟩:=r;exact Fq g ⟨n,_,_,M1,j,trivial,DI,by rw[ZG];simpa using f.1,f.2⟩
 |_=>exact Yh f
def aY(a b:Int):List D:=(List.range (b-a).toNat).map λ(i:Nat)=>.int (a+(i:Int))
theorem sL{K:Za}{a b:Int}{c:Hp}:JOk K (Itr a (b-a).toNat) c (aY a b) (λ_=>True):=by
 intro i H M k f _;have hl:(aY a b).length=(b-a).toNat:=by unfold aY;rw[ZG,ZL]
 rw[hl];refine⟨λhi=>hi,λhi=>Nat.le_of_eq hi.symm,λx H' d hd g=>?_⟩;obtain⟨e,y⟩:=g;subst e y;have hi:i<(b-a).toNat:=by have:=(YE.mp hd).1;rw[hl] at this;exact this
 unfold aY at hd;rw[ZH,ZJ hi] at hd;cases hd;exact⟨Kp.refl _,f,RV.int_.2 rfl⟩
def ua(t:WA):WI:=λσ M R=>t σ M λds M1=>match ds with
 |[.int j]=>(-1000000<=j/\j<=1000000)/\R (aY 0 j) (λ_=>True) M1
 |_=>False
def ub(t:WA):WI:=λσ M R=>t σ M λds M1=>match ds with
 |[.int i,.int j]=>(-1000000<=i/\i<=1000000/\-1000000<=j/\j<=1000000)/\R (aY i j) (λ_=>True) M1
 |_=>False
theorem sM{a b:Int}(c:-1000000<=a)(h2:b<=1000000):(aY a b).length<=sizeLine:=by
 unfold aY;rw[ZG,ZL,sizeLine_eq];omega
theorem ya{a tg:Expr}{t:WA}{p:Pos}(hg:Gl X "range")(hm:X.mg "range" = none)(ha:PAd X [a] t)(d:ao a=true):PId X tg (.Call (.Name "range" p) [a] [] pos) (ua t):=by
 intro σ M ρ H R rs f q;refine Cp (yU hg hm (pa_W [a]) (by rw[aM d];rfl)) ?_;show tWA X [a] ρ H _;refine ca (ha σ M ρ H _ rs f q) λvs g k=>?_
 obtain⟨l,ds,M1,c,o,m,b⟩:=k;try dsimp only at b
 split at b
 ·rename_i j
  have c:=c.p;cases c with
  |cons r n=>
   cases n;cases RV.int_.1 r;refine⟨j,rfl,by omega,by omega,l,_,_,M1,m,trivial,?_,sM 'a' b.1.2,b.2⟩
   have:=@sL X.K 0 j g
   rw[Int.sub_zero] at this;exact this
 ·exact Yh b
theorem yb{a b tg:Expr}{t:WA}{p:Pos}(hg:Gl X "range")(hm:X.mg "range" = none)(ha:PAd X [a,b] t)(k:ao a=true)(g:ao b=true):PId X tg (.Call (.Name "range" p) [a,b] [] pos) (ub t):=by
 intro σ M ρ H R rs l q;refine Cp (yV hg hm (pa_W [a,b]) (by rw[aM k,aM g];rfl) (by rw[aM g];rfl)) ?_;show tWA X [a,b] ρ H _;refine ca (ha σ M ρ H _ rs l q) λvs y m=>?_
 obtain⟨n,ds,M1,d,z,o,c⟩:=m;try dsimp only at c
 split at c
 ·rename_i i j
  have d:=d.p;cases d with
  |cons r f=>
   cases f with
   |cons u f=>
    cases f;cases RV.int_.1 r;cases RV.int_.1 u;exact⟨i,j,rfl,⟨by omega,by omega,by omega,by omega⟩,n,_,_,M1,o,trivial,sL,sM c.1.1 c.1.2.2.2,c.2⟩
 ·exact Yh c
def jE:Expr->Bool
 |.Set _ _ _=>false
 |_=>true
theorem yc{env:Env}(h:jE e=true):∀x,foldedSetIterable e env x=pure x:=by
 intro x;cases e<;>first | rfl | (exact absurd (show false=true from h) YG)
def aq(g:MH->Prop)(t:Tgt)(a:WS)(E:EndsD):List D->DS->MH->Prop
 |[],σ,M=>E.nx σ M
 |x::xs,σ,M=>n0 t x σ λc=>a { E with nx:=λb M2=>g M2/\aq g t a E xs b M2,ct:=λb M2=>g M2/\aq g t a E xs b M2,bk:=E.nx } c M
def wFor(t:WI)(g:Tgt)(a:WS):WS:=λE σ M=>t σ M λxs b M1=>aq b g a E xs σ M1
theorem DL{tg d:Expr}{body:Zu}{t:WI}{g:Tgt}{k:WS}(hp:PassesOwn 'c' X.A X.env X.xe)(hc:X.calm=true)(hi:PId X tg d t)(hg:PGd X tg g)(hb:PSsd X body k)(T:jE d=true):
  PSd X (.For tg d body [] pos) (wFor t g k):=by
 intro σ M ρ H E rs U q;refine cV (EM hp hc (pi_W tg d) hg (lU body) (yc T)) ?_;show iW X tg d ρ H _;refine rT (hi σ M ρ H _ rs U q) λJ G V=>?_
 obtain⟨l,xs,n,M1,W,Y,Z,hz,q1⟩:=V;refine⟨λi m L H'=>m=xs.length-i/\i<=xs.length/\Kp G H'/\∃o M',RS X.K H' o L/\RM X.K M' H'/\n M'/\aq n g k E (xs.drop i) o M',⟨xs.length,by simp,YO _,Kp.refl _,σ,M1,rs.mono l,W,Y,q1⟩,?_⟩;rintro i m L H' ⟨rfl,Kh,k',o,M',O,P,g',p⟩;obtain⟨j1,j2,j3⟩:=Z i H' M' k' P g';by_cases u:i<xs.length
 ·rw[XV u] at p
  refine .inr ⟨j1 u,λR f=>Kp G f/\∃S M2,RS X.K f S R/\RM X.K M2 f/\n M2/\aq n g k E (xs.drop (i+1)) S M2,λR f ⟨j,r⟩=>⟨xs.length-(i+1),by omega,rfl,u,j,r⟩,λx f y=>?_⟩;obtain⟨j,m2,r2⟩:=j3 x f xs[i] (ZE u) y;refine uI r2 (O.mono j) p λMG G6 Iv q3=>?_
  refine cX (hb G6 M' MG f _ Iv m2 q3) ⟨λN4 H4 IA=>?_,λ_ _=>bA ((l.trans k').trans j),λ_ _=>jD ((l.trans k').trans j),λN4 H4 ⟨z,B,C,a,b,c⟩=>⟨k'.trans (j.trans z),B,C,a,b,c.1,c.2⟩⟩;obtain⟨z,B,C,a,b,c⟩:=IA;exact⟨k'.trans (j.trans z),B,C,a,b,c.1,c.2⟩
 ·have e:i=xs.length:=by omega
  subst e;rw[List.drop_length] at p;exact .inl ⟨j2 rfl,l.trans k',o,M',O,P,p⟩
def aE(g:MH->Prop)(t:Tgt)(c:WT)(e:WE)(F:List D->MH->Prop):List D->List D->DS->MH->Prop
 |[],h_,_,M=>F h_ M
 |x::xs,h_,σ,M=>n0 t x σ λa=>c a M λb M1=>Bif b (e a M1 λy M2=>g M2/\aE g t c e F xs (h_++[y]) a M2) (g M1/\aE g t c e F xs h_ a M1)
def uc(n:Nat)(t:WI)(g:Tgt)(c:WT)(e:WE):WE:=λσ M Q=>t σ M λxs a M1=>aE a g c e (λds M'=>∀p,M' p=none->Q (.ref p) (updM M' p (.lst ds))) xs [] (σ++List.replicate n none) M1
def PTsd(X:Cx)(a:Zg)(t:WT):Prop:=(a=[]/\t=λ_ M Q=>Q true M) \/ ∃c,a=[c]/\PTd X c t
theorem uL{K:Za}{J:It}{f:Hp}{xs:List D}{j:MH->Prop}{g:Tgt}{c:WT}{e:WE}{tc:TT}{te:TE}{F:List D->MH->Prop}{Fin:List V->Hp->Prop}{σ:DS}{M1:MH}{ρ:L2.St}
  (Kg:JOk K J f xs j) (hz:xs.length<=sizeLine) (rs:RS K f σ ρ) (m1:RM K M1 f) (g1:j M1)
  (hc:∀σ M ρ H Q (n:Bool->Hp->Prop),RS K H σ ρ->RM K M H->c σ M Q->(∀b H',Kp H H'->∀M',RM K M' H'->Q b M'->n b H')->tc ρ H n)
  (he:∀σ M ρ H Q (n:VK),RS K H σ ρ->RM K M H->e σ M Q->(∀v H',Kp H H'->∀d M',RV K H' d v->RM K M' H'->Q d M'->n v H')->te ρ H n)
  (hF:∀ds vs H' M',Kp f H'->RM K M' H'->RVs K H' ds vs->F ds M'->Fin vs H') (q:aE j g c e F xs [] σ M1):tV J (gOf K g) tc te Fin ρ f:=by
 refine⟨λi m ys O H'=>m=xs.length-i/\i<=xs.length/\Kp f H'/\∃C M' ds,RS K H' C O/\RM K M' H'/\j M'/\RVs K H' ds ys/\ds.length<=i/\aE j g c e F (xs.drop i) ds C M',⟨xs.length,by simp,YO _,Kp.refl _,σ,M1,[],rs,m1,g1,RVs.nil,YH _,q⟩,?_⟩;rintro i m ys O H' ⟨rfl,Kh,k',C,M',ds,GW,P,g',o,hd,u⟩;obtain⟨j1,j2,j3⟩:=Kg i H' M' k' P g';by_cases z:i<xs.length
 ·rw[XV z] at u
  refine .inr ⟨j1 z,by rw[←o.len];omega,λR S a=>Kp f a/\∃T M2 G,RS K a T S/\RM K M2 a/\j M2/\RVs K a G R/\G.length<=i+1/\aE j g c e F (xs.drop (i+1)) G T M2,λR S a ⟨k,r⟩=>⟨xs.length-(i+1),by omega,rfl,z,k,r⟩,λx a y=>?_⟩;obtain⟨k,m2,r2⟩:=j3 x a xs[i] (ZE z) y;refine uI r2 (GW.mono k) u λU A B q3=>?_
  refine hc A M' U a _ _ B m2 q3 λb H4 l W Y L=>?_
  cases b with
  |true=>
   refine he A W U H4 _ _ (B.mono l) Y L λv H5 Z d M5 rv m5 q5=>?_
   have kk:=k.trans (l.trans Z);exact⟨k'.trans kk,A,M5,ds++[d],B.mono (l.trans Z),m5,q5.1,RVs.of (aX (RVs.mono kk _ o).p (.cons rv .nil)),by simp;omega,q5.2⟩
  |false=>exact⟨k'.trans (k.trans l),A,W,ds,B.mono l,Y,L.1,RVs.mono (k.trans l) _ o,by omega,L.2⟩
 ·have e:i=xs.length:=by omega
  subst e;rw[List.drop_length] at u;exact .inl ⟨j2 rfl,hF ds ys H' M' k' P o u⟩
section
variable {GS tg iter:Expr}{ifs:Zg}{scope Hq:Scope}{own N2:Zf}
def bT(X:Cx)(scope:Scope)(own N2:Zf)(ifs:Zg):TT:=λρ H Q=>∀C s a ex pn pins b,Inv (cxC X scope own N2 C s a ex pn) pins ρ H b ->
 wpAny 'c' X.A (forIn ifs true λc r=>if r=true then do let ok ←isTrue c (cxC X scope own N2 C s a ex pn).env (eval c (cxC X scope own N2 C s a ex pn).env);pure (ForInStep.yield ok) else pure (ForInStep.yield r)) (TP (cxC X scope own N2 C s a ex pn) pins ρ Q) (cxC X scope own N2 C s a ex pn).xe b
def bE(X:Cx)(scope:Scope)(own N2:Zf)(e:Expr):TE:=λρ H Q=>∀C s a ex pn,tW (cxC X scope own N2 C s a ex pn) e ρ H Q
theorem oQ{c:WT}{te:WE}(hc:∀C s a ex pn,PTsd (cxC X scope own N2 C s a ex pn) ifs c)(p:∀C s a ex pn,PEd (cxC X scope own N2 C s a ex pn) GS te):
  (∀σ M ρ H Q (g:Bool->Hp->Prop),RS X.K H σ ρ->RM X.K M H->c σ M Q->(∀b H',Kp H H'->∀M',RM X.K M' H'->Q b M'->g b H')->bT X scope own N2 ifs ρ H g) /\
  (∀σ M ρ H Q (g:VK),RS X.K H σ ρ->RM X.K M H->te σ M Q->(∀v H',Kp H H'->∀d M',RV X.K H' d v->RM X.K M' H'->Q d M'->g v H')->bE X scope own N2 GS ρ H g):=by
 refine⟨λσ M ρ H Q g rs j q f C s a ex pn pins o I=>?_,λσ M ρ H Q g rs j q f C s a ex pn=>?_⟩
 ·rcases hc C s a ex pn with⟨l,u⟩ | ⟨c',l,h⟩
  ·subst l u
   exact Df (X:=cxC X scope own N2 C s a ex pn) pins o ρ H _ I (f true H (Kp.refl H) M j q)
  ·subst l
   refine Dg (X:=cxC X scope own N2 C s a ex pn) (pt_W c') pins o ρ H _ I ?_;refine et (h σ M ρ H Q rs j q) λb H' y=>?_
   obtain⟨k,M',m,n⟩:=y;exact f b H' k M' m n
 ·refine aD (p C s a ex pn σ M ρ H Q rs j q) λv H' z=>?_
  obtain⟨k,d,M',r,m,n⟩:=z;exact f v H' k d M' r m n
theorem Bb{t:WI}{g:Tgt}{c:WT}{te:WE}(l:CompScope Hq scope X.N own N2)(ho:X.env.scope=Hq)(n:X.calm=true)(hi:PId X tg iter t)(hg:∀C s a ex pn,PG (cxC X scope own N2 C s a ex pn) tg (gOf X.K g))
  (hc:∀C s a ex pn,PTsd (cxC X scope own N2 C s a ex pn) ifs c) (o:∀C s a ex pn,PEd (cxC X scope own N2 C s a ex pn) GS te) (r:jE iter=true):PEd X (.ListComp GS [⟨tg,iter,ifs,0⟩] scope pos) (uc own.length t g c te):=by
 intro σ M ρ H Q rs u q;obtain⟨y,z⟩:=oQ hc o;refine bj (Dh (te:=bE X scope own N2 GS) (tc:=bT X scope own N2 ifs) l n (pi_W tg iter) hg (λC s a ex pn pins b A H' B I h=>h C s a ex pn pins b I) (λC s a ex pn pins b A H' B I h=>h C s a ex pn pins b I) ho rfl (yc r)) ?_;show iW X tg iter ρ H _;refine rT (hi σ M ρ H _ rs u q) λJ T G=>?_
 obtain⟨d,xs,U,M1,L,O,P,hz,R⟩:=G;refine uL P hz ((rs.mono d).more own.length) L O y z ?_ R;intro ds vs H' M' k' j S f p hp;have k:Kp H' (upd H' p (.lst vs)):=Kp.new hp;exact⟨(d.trans k').trans k,.ref p,_,RV.ref_.2 rfl,j.new (m:=.lst ds) hp ⟨vs,aw,RVs.mono k _ S⟩,f p (j.fresh hp)⟩
def ud(i n:Nat)(t:WI)(g:Tgt)(c:WT)(e:WE):WS:=λE σ M=>t σ M λxs a M1=>aE a g c e (λds M'=>∀p,M' p=none->E.nx (σ.set i (some (.ref p))) (updM M' p (.lst ds))) xs [] (σ++List.replicate n none) M1
theorem Bc{t:WI}{g:Tgt}{c:WT}{te:WE}{i:Nat}{y:Str}{k l:Pos}(o:CompScope Hq scope X.N own N2)(ho:X.env.scope=Hq)(r:X.calm=true)(u:X.N.Nodup)(hy:X.N[i]?=some y)(hl:X.env.scope.names.lookup y=some .local)(hi:PId X tg iter t)
  (hg:∀C s a ex pn,PG (cxC X scope own N2 C s a ex pn) tg (gOf X.K g))
  (hc:∀C s a ex pn,PTsd (cxC X scope own N2 C s a ex pn) ifs c) (z:∀C s a ex pn,PEd (cxC X scope own N2 C s a ex pn) GS te) (A:jE iter=true)
  (B:swapsWith (.ListComp GS [⟨tg,iter,ifs,0⟩] scope pos) (some (.Name y k)) l.line X.env=pure true):PSd X (.Assign [.Name y k] (.ListComp GS [⟨tg,iter,ifs,0⟩] scope pos) l) (ud i own.length t g c te):=by
 intro σ M ρ H E rs G q;obtain⟨L,O⟩:=oQ hc z;refine cV (Di (te:=bE X scope own N2 GS) (tc:=bT X scope own N2 ifs) (i:=i) o r u hy hl (pi_W tg iter) hg (λC s a ex pn pins b P H' R I h=>h C s a ex pn pins b I) (λC s a ex pn pins b P H' R I h=>h C s a ex pn pins b I) B ho rfl (yc A)) ?_;show iW X tg iter ρ H _;refine rT (hi σ M ρ H _ rs G q) λJ Z S=>?_
 obtain⟨d,xs,gd,M1,T,U,V,hz,W⟩:=S;refine uL V hz ((rs.mono d).more own.length) T U L O ?_ W;intro ds vs H' M' k' n Y f p hp;have j:Kp H' (upd H' p (.lst vs)):=Kp.new hp;exact⟨(d.trans k').trans j,_,_,(rs.mono ((d.trans k').trans j)).set i (RV.ref_.2 rfl),n.new (m:=.lst ds) hp ⟨vs,aw,RVs.mono j _ Y⟩,f p (n.fresh hp)⟩
end
def ae(N:Zf)(ds:List D):DS:=ds.map some++List.replicate (N.length-ds.length) none
theorem uM{K:Za}{H:Hp}{N:Zf}{ds:List D}{vs:List V}(r:RVs K H ds vs):RS K H (ae N ds) (L2.start N vs):=by
 unfold ae L2.start;rw[r.len];refine aX ?_ (jy (λd e=>nomatch e) _);have p:=r.p;clear r;induction p with
 |nil=>exact .nil
 |cons r _ a=>exact .cons (λd e=>by cases e;exact⟨_,rfl,r⟩) a
end
section
variable {P:Zw}{w:World}{K:Za}{mg:Ze}{base:Heap}
theorem fnD{x:Str}{st:Stmt}{ps N:Zf}{f:Addr}{fd:Zv}{k:Nat}{sp:SpD}{t:WS}(c:IsDef K mg x st ps f fd)(S:FnScope N ps (ak st))(len:∀ds M Q,sp ds M Q->ds.length=ps.length)
  (hb:∀y_ A outer s H E,Room k (A.deeper (envOfC x (ak st) s.heap.objs.size f y_))->PSsd (cxOf CX0 P w K mg base N x (ak st) f y_ A outer s H E).nox (aF st) t)
  (h:∀ds M Q,sp ds M Q->t { nx:=λ_ M'=>Q .non M',rt:=Q } (ae N ds) M):FnD P w K mg base (k+1) x sp:=by
 refine⟨st,ps,f,fd,c,c.fn.ok S (λvs H Q E ⟨ds,M,a,r,_,s,_⟩=>by rw[←r.len];exact len ds M a s) λy_ A outer s H vs Q E j ⟨ds,M,a,r,m,sq,g⟩=>⟨tWSs _ _,lU _,?_⟩⟩;refine cX (hb y_ A outer s H E j (ae N ds) M (L2.start N vs) H _ (uM r) m (h ds M a sq)) ⟨λo H' l=>?_,λv H' ⟨k',d,M',n,b,q⟩=>g _ _ _ _ q k' n b,λ_ _ ⟨_,_,_,_,_,q⟩=>q,λ_ _ ⟨_,_,_,_,_,q⟩=>q⟩;obtain⟨k',p,M',_,b,q⟩:=l;exact g _ _ _ _ q k' (RV.non_.2 rfl) b
end
mutual
noncomputable def aL:D->Bool
 |.ref _=>false
 |.ty _=>false
 |.tup ds=>aK ds
 |_=>true
noncomputable def aK:List D->Bool
 |[]=>true
 |d::ds=>aL d&&aK ds
end
mutual
noncomputable def depD:D->Nat
 |.tup ds=>bm ds+1
 |_=>0
noncomputable def bm:List D->Nat
 |[]=>0
 |d::ds=>max (depD d) (bm ds)
end
mutual
noncomputable def eqD:D->D->Bool
 |.non,.non=>true
 |.bl a,.bl b=>a==b
 |.bl a,.int b=>(if a then 1 else 0)==b
 |.int a,.bl b=>a==(if b then 1 else 0)
 |.int a,.int b=>a==b
 |.str a,.str b=>a==b
 |.tup as,.tup bs=>eqDs as bs
 |_,_=>false
noncomputable def eqDs:List D->List D->Bool
 |[],[]=>true
 |a::as,b::bs=>eqD a b&&eqDs as bs
 |_,_=>false
end
mutual
theorem uN:∀d:D,aL d=true->eqD d d=true
 |.non,_=>by rw[eqD]
 |.bl b,_=>by rw[eqD];simp
 |.int b,_=>by rw[eqD];simp
 |.str b,_=>by rw[eqD];simp
 |.ref _,h=>by rw[aL] at h;cases h
 |.ty _,h=>by rw[aL] at h;cases h
 |.tup ds,h=>by rw[aL] at h;rw[eqD];exact io ds h
theorem io:∀ds:List D,aK ds=true->eqDs ds ds=true
 |[],_=>by rw[eqDs]
 |d::ds,h=>by
  rw[aK,XA] at h;rw[eqDs,uN d h.1,io ds h.2];rfl
end
theorem jF:∀{as bs:List D},eqDs as bs=((List.range (min as.length bs.length)).all (λj=>eqD ((as[j]?).getD .non) ((bs[j]?).getD .non))&&as.length==bs.length)
 |[],[]=>by rw[eqDs];rfl
 |[],b::bs=>by rw[eqDs]<;>simp
 |a::as,[]=>by rw[eqDs]<;>simp
 |a::as,b::bs=>by
  rw[eqDs,jF (as:=as) (bs:=bs)];have e:min (a::as).length (b::bs).length=min as.length bs.length+1:=by simp only[YK];omega
  rw[e,List.range_succ_eq_map,XT,List.all_map];simp only[List.getElem?_cons_zero,Option.getD_some,YK];rw[Bool.and_assoc];congr 1;congr 1;rw[Bool.eq_iff_iff];simp
theorem bB:∀{ds:List D}{i:Nat}{d:D},aK ds=true->ds[i]?=some d->aL d=true
 |d::ds,0,_,h,e=>by rw[aK,XA] at h;simp at e;subst e;exact h.1
 |d::ds,i+1,_,h,e=>by rw[aK,XA] at h;exact bB (ds:=ds) (i:=i) h.2 (by simpa using e)
theorem fm:∀{ds:List D}{i:Nat}{d:D},ds[i]?=some d->depD d<=bm ds
 |d::ds,0,_,e=>by rw[bm];simp at e;subst e;omega
 |d::ds,i+1,_,e=>by rw[bm];have:=fm (ds:=ds) (i:=i) (by simpa using e);omega
section
variable {X:Cx}{pins:Zc}{ρ:L2.St}{H:Hp}{s:Shared}
def jd:D->Bool
 |.non=>true
 |.bl _=>true
 |.int _=>true
 |.str _=>true
 |_=>false
def toV:D->V
 |.non=>.non
 |.bl b=>.bl b
 |.int i=>.int i
 |.str x=>.str x
 |_=>.non
theorem n5{K:Za}{d:D}{v:V}(f:jd d=true)(r:RV K H d v):v=toV d/\xV v=true:=by
 cases d with
 |non=>cases RV.non_.1 r;exact⟨rfl,rfl⟩
 |bl b=>cases RV.bl_.1 r;exact⟨rfl,rfl⟩
 |int b=>cases RV.int_.1 r;exact⟨rfl,rfl⟩
 |str b=>cases RV.str_.1 r;exact⟨rfl,rfl⟩
 |_=>exact absurd (show false=true from f) YG
theorem xk{d e:D}(f:jd d=true)(g:jd e=true):eqD d e=eqV (toV d) (toV e):=by
 cases d<;>cases e<;>first | exact absurd (show false=true from f) YG | exact absurd (show false=true from g) YG | (rw[eqD]<;>first | rfl | (intros;contradiction) | skip)
mutual
theorem uO(I:Inv X pins ρ H s):∀(d e:D){v:V},aL d=true->aL e=true->RV X.K H d v->RV X.K H e v->d=e:=λd e v pd pe rd re=>by
 cases d with
 |non=>cases RV.non_.1 rd;cases e with
  |non=>rfl
  |tup ds=>obtain⟨a,xs,z,_⟩:=RV.tup_.1 re;cases z
  |_=>rw[RV] at re;cases re
 |bl b=>cases RV.bl_.1 rd;cases e with
  |bl b'=>cases RV.bl_.1 re;rfl
  |tup ds=>obtain⟨a,xs,z,_⟩:=RV.tup_.1 re;cases z
  |_=>rw[RV] at re;cases re
 |int b=>cases RV.int_.1 rd;cases e with
  |int b'=>cases RV.int_.1 re;rfl
  |tup ds=>obtain⟨a,xs,z,_⟩:=RV.tup_.1 re;cases z
  |_=>rw[RV] at re;cases re
 |str b=>cases RV.str_.1 rd;cases e with
  |str b'=>cases RV.str_.1 re;rfl
  |tup ds=>obtain⟨a,xs,z,_⟩:=RV.tup_.1 re;cases z
  |_=>rw[RV] at re;cases re
 |ref a=>rw[aL] at pd;cases pd
 |ty a=>rw[aL] at pd;cases pd
 |tup ds=>
  obtain⟨a,xs,rfl,sq,rr⟩:=RV.tup_.1 rd;cases e with
  |tup es=>
   obtain⟨a',JX,z,HR,GL⟩:=RV.tup_.1 re;cases z
   have:=I.tuple_inj sq HR
   subst this;rw[aL] at pd pe;rw[xl I ds es pd pe rr GL]
  |ref a=>rw[aL] at pe;cases pe
  |_=>rw[RV] at re;cases re
theorem xl(I:Inv X pins ρ H s):∀(ds es:List D){vs:List V},aK ds=true->aK es=true->RVs X.K H ds vs->RVs X.K H es vs->ds=es
 |[],[],_,_,_,_,_=>rfl
 |[],e::es,_,_,_,rd,re=>by have:=rd.len;have:=re.len;simp only[YK,YW] at *;omega
 |d::ds,[],_,_,_,rd,re=>by have:=rd.len;have:=re.len;simp only[YK,YW] at *;omega
 |d::ds,e::es,_,pd,pe,rd,re=>by
  rw[RVs] at rd re;rw[aK,XA] at pd pe;obtain⟨v,vs,rfl,r1,r2⟩:=rd;obtain⟨v',HQ,z,Ru,Rv⟩:=re;cases z;rw[uO I d e pd.1 pe.1 r1 Ru,xl I ds es pd.2 pe.2 r2 Rv]
end
theorem rV{A:Around}{ds:List D}{e:D}{v u:V}{g j:Value}(I:Inv X pins ρ H s)(hu:A.units<cLine)(f:jd e=true)(k:RV X.K H (.tup ds) v)(c:RV X.K H e u)(r:RelV v g)(d:RelV u j):
  SeqAt.EqAt A s g j false/\SeqAt.EqAt A s j g false:=by
 obtain⟨a,xs,rfl,sq,l⟩:=RV.tup_.1 k;obtain⟨c_,_,tp,_⟩:=I.tuple sq;cases r;have tp:s.heap.IsTuple a c_.toArray:=tp;cases e with
 |non=>cases RV.non_.1 c;cases d;exact⟨SeqAt.EqAt.tuple_none tp hu,SeqAt.EqAt.none_tuple tp hu⟩
 |bl b=>cases RV.bl_.1 c;cases d;exact⟨SeqAt.EqAt.tuple_bool b tp hu,SeqAt.EqAt.bool_tuple b tp hu⟩
 |int b=>cases RV.int_.1 c;obtain⟨t,rfl⟩:=d;exact⟨SeqAt.EqAt.tuple_int b t tp hu,SeqAt.EqAt.int_tuple b t tp hu⟩
 |str b=>cases RV.str_.1 c;obtain⟨t,rfl⟩:=d;exact⟨SeqAt.EqAt.tuple_str b t tp hu,SeqAt.EqAt.str_tuple b t tp hu⟩
 |_=>exact absurd (show false=true from f) YG
theorem nn{ds:List D}{e:D}(f:jd e=true):eqD (.tup ds) e=false/\eqD e (.tup ds)=false:=by
 cases e<;>first | exact absurd (show false=true from f) YG | (constructor<;>(rw[eqD]<;>(intros;contradiction)))
theorem dq{d:D}(h:aL d=true):jd d=true \/ ∃ds,d=.tup ds:=by
 cases d with
 |ref a=>rw[aL] at h;cases h
 |ty a=>rw[aL] at h;cases h
 |tup ds=>exact .inr ⟨ds,rfl⟩
 |_=>exact .inl rfl
theorem units_in1(A:Around):A.in1.units=A.units+1:=rfl
theorem eI{K:Za}{ds:List D}{vs:List V}{c_:Zd}(a:RVs K H ds vs)(b:Vals vs c_){j:Nat}(h:j<c_.toArray.size):
  ∃d v,ds[j]?=some d/\RV K H d v/\RelV v c_.toArray[j]:=by
 have c:j<c_.length:=by simpa using h
 have h2:j<vs.length:=by rw[b.length];exact c
 have f:j<ds.length:=by rw[a.len];exact h2
 obtain⟨v,hv,r⟩:=cy a.p (ZE f);obtain⟨u,hu,g⟩:=b.get hv;have:c_.toArray[j]=u:=by
  have:=ZE c
  rw[this] at hu;simpa using hu
 exact⟨ds[j],v,ZE f,r,by rw[this];exact g⟩
theorem qp(n:Nat):∀{s:Shared}{A:Around}(d e:D){v u:V}{p y:Value},Inv X pins ρ H s->depD d<=n->A.units+n<cLine->aL d=true->aL e=true->RV X.K H d v->RV X.K H e u->RelV v p->RelV u y->SeqAt.EqAt A s p y (eqD d e):=by
 induction n with
 |zero=>
  intro s A d e v u p y I hd hu m o c k r l;rcases dq m with f | ⟨ds,rfl⟩
  ·rcases dq o with g | ⟨es,rfl⟩
   ·rw[xk f g]
    obtain⟨B,C⟩:=n5 f c;obtain⟨G,J⟩:=n5 g k;rw[←B,←G];exact y9 r l C J
   ·rw[(nn f).2];exact(rV I 'a' f k c l r).2
  ·rw[depD] at hd;omega
 |succ n W=>
  intro s A d e v u p y I hd hu m o c k r l;rcases dq m with f | ⟨ds,rfl⟩
  ·rcases dq o with g | ⟨es,rfl⟩
   ·rw[xk f g]
    obtain⟨B,C⟩:=n5 f c;obtain⟨G,J⟩:=n5 g k;rw[←B,←G];exact y9 r l C J
   ·rw[(nn f).2];exact(rV I 'a' f k c l r).2
  ·rcases dq o with g | ⟨es,rfl⟩
   ·rw[(nn g).1];exact(rV I 'a' g c k r l).1
   ·by_cases z:v=u
    ·subst z
     have:=uO I _ _ m o c k
     cases this;rw[uN _ m];obtain⟨a,xs,rfl,_⟩:=RV.tup_.1 c;cases r;cases l;exact SeqAt.EqAt.same _
    ·obtain⟨a,xs,rfl,sq,P⟩:=RV.tup_.1 c
     obtain⟨b,ys,rfl,Y,R⟩:=RV.tup_.1 k;cases r;cases l;have Z:a≠b:=λq=>z (by rw[q])
     obtain⟨c_,S,tp,_⟩:=I.tuple sq;obtain⟨p_,T,He,_⟩:=I.tuple Y;rw[depD] at hd;rw[aL] at m o;have L:=SeqAt.RcAt.tuples (A:=A) (e:=λj=>eqD ((ds[j]?).getD .non) ((es[j]?).getD .non)) (show s.heap.IsTuple a c_.toArray from tp) (show s.heap.IsTuple b p_.toArray from He) 'a' (λj h1 h2=>by
      obtain⟨d,v,O,r1,q1⟩:=eI P S h1;obtain⟨e,u,U,r2,q2⟩:=eI R T h2;rw[O,U]
      have:=fm O
      exact W d e I 'a' (by rw[units_in1];omega) (bB m O) (bB o U) r1 r2 q1 q2)
     have e:eqD (.tup ds) (.tup es)=((List.range (min c_.toArray.size p_.toArray.size)).all (λj=>eqD ((ds[j]?).getD .non) ((es[j]?).getD .non))&&c_.toArray.size==p_.toArray.size):=by
      have l1:c_.toArray.size=ds.length:=by rw[P.len,S.length];simp
      have l2:p_.toArray.size=es.length:=by rw[R.len,T.length];simp
      rw[eqD,jF,l1,l2]
     rw[e];exact SeqAt.EqAt.of_refs Z L
end
section
variable {X:Cx}{H:Hp}
def dAdd:D->D->MH->DK->Prop
 |.int i,.int j,M,Q=>Q (.int (i+j)) M
 |.str i,.str j,M,Q=>i.length+j.length<=sizeLine/\Q (.str (i++j)) M
 |.tup xs,.tup ys,M,Q=>(xs≠[]/\xs.length+ys.length<=sizeLine)/\Q (.tup (xs++ys)) M
 |.ref a,.ref b,M,Q=>match M a,M b with
  |some (.lst xs),some (.lst ys)=>xs.length+ys.length<=sizeLine/\∀p,M p=none->Q (.ref p) (updM M p (.lst (xs++ys)))
  |_,_=>False
 |_,_,_,_=>False
theorem DM:OpD X (binaryOp .Add) dAdd:=by
 intro x y v u H M Q g l c h;cases x with
 |int i=>cases y with
  |int j=>cases RV.int_.1 g;cases RV.int_.1 l;exact dW EN ⟨i,j,rfl,rfl,ay (RV.int_.2 rfl) c h⟩
  |_=>exact Yh h
 |str i=>cases y with
  |str j=>cases RV.str_.1 g;cases RV.str_.1 l;exact dW xM ⟨i,j,rfl,rfl,h.1,ay (RV.str_.2 rfl) c h.2⟩
  |_=>exact Yh h
 |tup xs=>cases y with
  |tup ys=>
   obtain⟨a,vs,rfl,sq,d⟩:=RV.tup_.1 g;obtain⟨b,us,rfl,r,f⟩:=RV.tup_.1 l;obtain⟨⟨A,h2⟩,n⟩:=h;refine dW C9 ⟨a,b,vs,us,rfl,rfl,sq,r,λz=>A ?_,by rw[←d.len,←f.len];exact h2,λz=>?_,λz p hp=>?_⟩
   ·have:=d.len;rw[z] at this;exact List.eq_nil_of_length_eq_zero this
   ·have:=f.len;rw[z] at this
    have:ys=[]:=List.eq_nil_of_length_eq_zero this
    subst this;rw[ZA] at n;exact ay g c n
   ·have k:=Kp.new (o:=.tup (vs++us)) hp
    exact⟨k,.tup (xs++ys),M,RV.tup_.2 ⟨p,_,rfl,SqT.of aw,RVs.of (aX (RVs.mono k _ d).p (RVs.mono k _ f).p)⟩,c.newH hp,n⟩
  |_=>exact Yh h
 |ref a=>cases y with
  |ref b=>
   cases RV.ref_.1 g;cases RV.ref_.1 l;have h:match M a,M b with
    |some (.lst xs),some (.lst ys)=>xs.length+ys.length<=sizeLine/\∀p,M p=none->Q (.ref p) (updM M p (.lst (xs++ys)))
    |_,_=>False:=h
   split at h
   ·rename_i xs ys B C
    obtain⟨vs,G,d⟩:=c a _ B;obtain⟨us,J,f⟩:=c b _ C;refine dW Fe ⟨a,b,vs,us,rfl,rfl,G,J,by rw[←d.len,←f.len];exact h.1,λp hp=>?_⟩;have k:=Kp.new (o:=.lst (vs++us)) hp;exact⟨k,.ref p,_,RV.ref_.2 rfl,c.new (m:=.lst (xs++ys)) hp ⟨_,aw,RVs.of (aX (RVs.mono k _ d).p (RVs.mono k _ f).p)⟩,h.2 p (c.fresh hp)⟩
   ·exact Yh h
  |_=>exact Yh h
 |_=>exact Yh h
def dI(C:Int->Int->Prop)(g:Int->Int->Int):D->D->MH->DK->Prop
 |.int i,.int j,M,Q=>C i j/\Q (.int (g i j)) M
 |_,_,_,_=>False
theorem qr{f:Zk}{C:Int->Int->Prop}{g:Int->Int->Int}(a:OpR X f (rI C λi j=>.int (g i j))):OpD X f (dI C g):=by
 intro x y v u H M Q b c d h;cases x with
 |int i=>cases y with
  |int j=>cases RV.int_.1 b;cases RV.int_.1 c;exact dW a ⟨i,j,rfl,rfl,h.1,ay (RV.int_.2 rfl) d h.2⟩
  |_=>exact Yh h
 |_=>exact Yh h
def dI0(g:Int->Int->Int):D->D->MH->DK->Prop
 |.int i,.int j,M,Q=>Q (.int (g i j)) M
 |_,_,_,_=>False
theorem qt{f:Zk}{g:Int->Int->Int}(a:OpR X f (rI0 λi j=>.int (g i j))):OpD X f (dI0 g):=by
 intro x y v u H M Q b c d h;cases x with
 |int i=>cases y with
  |int j=>cases RV.int_.1 b;cases RV.int_.1 c;exact dW a ⟨i,j,rfl,rfl,ay (RV.int_.2 rfl) d h⟩
  |_=>exact Yh h
 |_=>exact Yh h
def dMul:D->D->MH->DK->Prop
 |.int i,.int j,M,Q=>CMul i j/\Q (.int (i*j)) M
 |.str z,.int n,M,Q=>(0<=n/\n<=1048576/\z.length*n.toNat<=1048576)/\Q (.str (Txt.mul z n)) M
 |.ref a,.int k,M,Q=>match M a with
  |some (.lst xs)=>(-1000000<=k/\k<=1000000/\xs.length*k.toNat<=sizeLine)/\∀p,M p=none->Q (.ref p) (updM M p (.lst (List.replicate k.toNat xs).flatten))
  |_=>False
 |_,_,_,_=>False
theorem DN:OpD X (binaryOp .Mult) dMul:=by
 intro x y v u H M Q c d b h;cases x with
 |int i=>cases y with
  |int j=>cases RV.int_.1 c;cases RV.int_.1 d;exact dW EQ ⟨i,j,rfl,rfl,h.1,ay (RV.int_.2 rfl) b h.2⟩
  |_=>exact Yh h
 |str z=>cases y with
  |int n=>cases RV.str_.1 c;cases RV.int_.1 d;exact dW xZ ⟨z,n,rfl,rfl,h.1.1,h.1.2.1,h.1.2.2,ay (RV.str_.2 rfl) b h.2⟩
  |_=>exact Yh h
 |ref a=>cases y with
  |int k=>
   cases RV.ref_.1 c;cases RV.int_.1 d;have h:match M a with
    |some (.lst xs)=>(-1000000<=k/\k<=1000000/\xs.length*k.toNat<=sizeLine)/\∀p,M p=none->Q (.ref p) (updM M p (.lst (List.replicate k.toNat xs).flatten))
    |_=>False:=h
   split at h
   ·rename_i xs g
    obtain⟨vs,l,f⟩:=b a _ g;refine dW Ff ⟨a,k,vs,rfl,rfl,l,by omega,by omega,by rw[←f.len];exact h.1.2.2,λp hp=>?_⟩;have kk:=Kp.new (o:=.lst (List.replicate k.toNat vs).flatten) hp;exact⟨kk,.ref p,_,RV.ref_.2 rfl,b.new (m:=.lst (List.replicate k.toNat xs).flatten) hp ⟨_,aw,RVs.of (zn (RVs.mono kk _ f).p _)⟩,h.2 p (b.fresh hp)⟩
   ·exact Yh h
  |_=>exact Yh h
 |_=>exact Yh h
def dBin:Operator->D->D->MH->DK->Prop
 |.Add=>dAdd
 |.Sub=>dI0 λi j=>i-j
 |.Mult=>dMul
 |.FloorDiv=>dI CDiv λi j=>i / j
 |.Mod=>dI (λ_ j=>0<j) λi j=>i%j
 |.Pow=>dI CPow λi j=>i ^ j.toNat
 |.LShift=>dI CPow λi j=>i*2 ^ j.toNat
 |.RShift=>dI (λ_ j=>0<=j) λi j=>i / 2 ^ j.toNat
 |.BitAnd=>dI0 Builtin.bitAnd
 |.BitOr=>dI0 Builtin.bitOr
 |.BitXor=>dI0 Builtin.bitXor
 |_=>λ_ _ _ _=>False
theorem DO(op:Operator):OpD X (binaryOp op) (dBin op):=by
 cases op with
 |Add=>exact DM
 |Sub=>exact qt EO
 |Mult=>exact DN
 |FloorDiv=>exact qr CQ
 |Mod=>exact qr ER
 |Pow=>exact qr ES
 |LShift=>exact qr ET
 |RShift=>exact qr EU
 |BitAnd=>exact qt EV
 |BitOr=>exact qt Gk
 |BitXor=>exact qt EW
 |_=>exact λ_ _ _ _ _ _ _ _ _ _ h=>Yh h
def dIB(g:Int->Int->Bool):D->D->MH->DK->Prop
 |.int i,.int j,M,Q=>Q (.bl (g i j)) M
 |_,_,_,_=>False
theorem qu{f:Zk}{g:Int->Int->Bool}(a:OpR X f (rI0 λi j=>.bl (g i j))):OpD X f (dIB g):=by
 intro x y v u H M Q b c d h;cases x with
 |int i=>cases y with
  |int j=>cases RV.int_.1 b;cases RV.int_.1 c;exact dW a ⟨i,j,rfl,rfl,ay (RV.bl_.2 rfl) d h⟩
  |_=>exact Yh h
 |_=>exact Yh h
def dEq(x y:D)(M:MH)(Q:Bool->Prop):Prop:=match x,y with
 |.ref a,.ref b=>match rdL (M a),rdL (M b) with
  |some xs,some ys=>(aK xs=true/\aK ys=true/\bm xs<=30)/\Q (eqDs xs ys)
  |_,_=>False
 |.ref a,y=>match rdL (M a) with
  |some _=>aL y=true/\Q false
  |none=>False
 |x,.ref b=>match rdL (M b) with
  |some _=>aL x=true/\Q false
  |none=>False
 |x,y=>(aL x=true/\aL y=true/\depD x<=30)/\Q (eqD x y)
theorem zy{A:Around}{s:Shared}{d e:D}{v u:V}{l m:Value}{K:Za}(f:jd d=true)(g:jd e=true)(k:RV K H d v)(c:RV K H e u)(r:RelV v l)(j:RelV u m):
  SeqAt.RcAt A s l m (eqD d e)/\SeqAt.RcNeAt A s l m (!eqD d e):=by
 cases d with
 |non=>
  cases RV.non_.1 k;cases r;cases e with
  |non=>cases RV.non_.1 c;cases j;rw[eqD];exact⟨SeqAt.RcAt.none_none,SeqAt.RcNeAt.none_none⟩
  |bl b=>cases RV.bl_.1 c;cases j;rw[eqD]<;>first | exact⟨SeqAt.RcAt.none_bool b,SeqAt.RcNeAt.none_bool b⟩ | (intros;contradiction)
  |int b=>cases RV.int_.1 c;obtain⟨t,rfl⟩:=j;rw[eqD]<;>first | exact⟨SeqAt.RcAt.none_int b t,SeqAt.RcNeAt.none_int b t⟩ | (intros;contradiction)
  |str b=>cases RV.str_.1 c;obtain⟨t,rfl⟩:=j;rw[eqD]<;>first | exact⟨SeqAt.RcAt.none_str b t,SeqAt.RcNeAt.none_str b t⟩ | (intros;contradiction)
  |_=>exact absurd (show false=true from g) YG
 |bl a=>
  cases RV.bl_.1 k;cases r;cases e with
  |non=>cases RV.non_.1 c;cases j;rw[eqD]<;>first | exact⟨SeqAt.RcAt.bool_none a,SeqAt.RcNeAt.bool_none a⟩ | (intros;contradiction)
  |bl b=>cases RV.bl_.1 c;cases j;rw[eqD];exact⟨SeqAt.RcAt.bool_bool a b,SeqAt.RcNeAt.bool_bool a b⟩
  |int b=>cases RV.int_.1 c;obtain⟨t,rfl⟩:=j;rw[eqD];exact⟨SeqAt.RcAt.bool_int a b t,SeqAt.RcNeAt.bool_int a b t⟩
  |str b=>cases RV.str_.1 c;obtain⟨t,rfl⟩:=j;rw[eqD]<;>first | exact⟨SeqAt.RcAt.bool_str a b t,SeqAt.RcNeAt.bool_str a b t⟩ | (intros;contradiction)
  |_=>exact absurd (show false=true from g) YG
 |int a=>
  cases RV.int_.1 k;obtain⟨t',rfl⟩:=r;cases e with
  |non=>cases RV.non_.1 c;cases j;rw[eqD]<;>first | exact⟨SeqAt.RcAt.int_none a t',SeqAt.RcNeAt.int_none a t'⟩ | (intros;contradiction)
  |bl b=>cases RV.bl_.1 c;cases j;rw[eqD];exact⟨SeqAt.RcAt.int_bool a t' b,SeqAt.RcNeAt.int_bool a t' b⟩
  |int b=>cases RV.int_.1 c;obtain⟨t,rfl⟩:=j;rw[eqD];exact⟨SeqAt.RcAt.int_int a t' b t,SeqAt.RcNeAt.int_int a t' b t⟩
  |str b=>cases RV.str_.1 c;obtain⟨t,rfl⟩:=j;rw[eqD]<;>first | exact⟨SeqAt.RcAt.int_str a t' b t,SeqAt.RcNeAt.int_str a t' b t⟩ | (intros;contradiction)
  |_=>exact absurd (show false=true from g) YG
 |str a=>
  cases RV.str_.1 k;obtain⟨t',rfl⟩:=r;cases e with
  |non=>cases RV.non_.1 c;cases j;rw[eqD]<;>first | exact⟨SeqAt.RcAt.str_none a t',SeqAt.RcNeAt.str_none a t'⟩ | (intros;contradiction)
  |bl b=>cases RV.bl_.1 c;cases j;rw[eqD]<;>first | exact⟨SeqAt.RcAt.str_bool a t' b,SeqAt.RcNeAt.str_bool a t' b⟩ | (intros;contradiction)
  |int b=>cases RV.int_.1 c;obtain⟨t,rfl⟩:=j;rw[eqD]<;>first | exact⟨SeqAt.RcAt.str_int a t' b t,SeqAt.RcNeAt.str_int a t' b t⟩ | (intros;contradiction)
  |str b=>cases RV.str_.1 c;obtain⟨t,rfl⟩:=j;rw[eqD];exact⟨SeqAt.RcAt.str_str a t' b t,SeqAt.RcNeAt.str_str a t' b t⟩
  |_=>exact absurd (show false=true from g) YG
 |_=>exact absurd (show false=true from f) YG
theorem rW{A:Around}{s:Shared}{pins:Zc}{ρ:L2.St}{a:Addr}{c_:Zl}{e:D}{u:V}{g:Value}(hu:A.units<cLine)(f:jd e=true)(tp:s.heap.IsTuple a c_\/s.heap.IsList a c_)(c:RV X.K H e u)(d:RelV u g):
  (SeqAt.RcAt A s (.ref a) g false/\SeqAt.RcNeAt A s (.ref a) g true)/\(SeqAt.RcAt A s g (.ref a) false/\SeqAt.RcNeAt A s g (.ref a) true):=by
 rcases tp with tp | tp
 ·cases e with
  |non=>cases RV.non_.1 c;cases d;exact⟨⟨SeqAt.RcAt.tuple_none tp hu,SeqAt.RcNeAt.tuple_none tp hu⟩,⟨SeqAt.RcAt.none_tuple tp hu,SeqAt.RcNeAt.none_tuple tp hu⟩⟩
  |bl b=>cases RV.bl_.1 c;cases d;exact⟨⟨SeqAt.RcAt.tuple_bool b tp hu,SeqAt.RcNeAt.tuple_bool b tp hu⟩,⟨SeqAt.RcAt.bool_tuple b tp hu,SeqAt.RcNeAt.bool_tuple b tp hu⟩⟩
  |int b=>cases RV.int_.1 c;obtain⟨t,rfl⟩:=d;exact⟨⟨SeqAt.RcAt.tuple_int b t tp hu,SeqAt.RcNeAt.tuple_int b t tp hu⟩,⟨SeqAt.RcAt.int_tuple b t tp hu,SeqAt.RcNeAt.int_tuple b t tp hu⟩⟩
  |str b=>cases RV.str_.1 c;obtain⟨t,rfl⟩:=d;exact⟨⟨SeqAt.RcAt.tuple_str b t tp hu,SeqAt.RcNeAt.tuple_str b t tp hu⟩,⟨SeqAt.RcAt.str_tuple b t tp hu,SeqAt.RcNeAt.str_tuple b t tp hu⟩⟩
  |_=>exact absurd (show false=true from f) YG
 ·cases e with
  |non=>cases RV.non_.1 c;cases d;exact⟨⟨SeqAt.RcAt.list_none tp hu,SeqAt.RcNeAt.list_none tp hu⟩,⟨SeqAt.RcAt.none_list tp hu,SeqAt.RcNeAt.none_list tp hu⟩⟩
  |bl b=>cases RV.bl_.1 c;cases d;exact⟨⟨SeqAt.RcAt.list_bool b tp hu,SeqAt.RcNeAt.list_bool b tp hu⟩,⟨SeqAt.RcAt.bool_list b tp hu,SeqAt.RcNeAt.bool_list b tp hu⟩⟩
  |int b=>cases RV.int_.1 c;obtain⟨t,rfl⟩:=d;exact⟨⟨SeqAt.RcAt.list_int b t tp hu,SeqAt.RcNeAt.list_int b t tp hu⟩,⟨SeqAt.RcAt.int_list b t tp hu,SeqAt.RcNeAt.int_list b t tp hu⟩⟩
  |str b=>cases RV.str_.1 c;obtain⟨t,rfl⟩:=d;exact⟨⟨SeqAt.RcAt.list_str b t tp hu,SeqAt.RcNeAt.list_str b t tp hu⟩,⟨SeqAt.RcAt.str_list b t tp hu,SeqAt.RcNeAt.str_list b t tp hu⟩⟩
  |_=>exact absurd (show false=true from f) YG
def Rc2(A:Around)(s:Shared)(v u:Value)(b:Bool):Prop:=SeqAt.RcAt A s v u b/\SeqAt.RcNeAt A s v u (!b)
theorem DP{A:Around}{s:Shared}{pins:Zc}{ρ:L2.St}{ds es:List D}{vs us:List V}{c_ p_:Zd}{a b:Addr}(I:Inv X pins ρ H s)(hd:bm ds<=30)(hu:A.units+40<cLine)(r:aK ds=true)(y:aK es=true)
  (f:RVs X.K H ds vs) (g:RVs X.K H es us) (k:Vals vs c_) (l:Vals us p_) (tp:s.heap.IsTuple a c_.toArray) (m:s.heap.IsTuple b p_.toArray):Rc2 A s (.ref a) (.ref b) (eqDs ds es):=by
 have z:c_.toArray.size=ds.length:=by rw[f.len,k.length];simp
 have B:p_.toArray.size=es.length:=by rw[g.len,l.length];simp
 have n:∀j (o:j<c_.toArray.size) (h2:j<p_.toArray.size),SeqAt.EqAt A.in1 s c_.toArray[j] p_.toArray[j] (eqD ((ds[j]?).getD .non) ((es[j]?).getD .non)):=λj o h2=>by
  obtain⟨d,v,c,C,G⟩:=eI f k o;obtain⟨e,u,p,J,L⟩:=eI g l h2;rw[c,p]
  have:=fm c
  exact qp 30 d e I 'a' (by rw[units_in1];omega) (bB r c) (bB y p) C J G L
 have e:eqDs ds es=((List.range (min c_.toArray.size p_.toArray.size)).all (λj=>eqD ((ds[j]?).getD .non) ((es[j]?).getD .non))&&c_.toArray.size==p_.toArray.size):=by rw[jF,z,B]
 rw[e];exact⟨SeqAt.RcAt.tuples tp m 'a' n,SeqAt.RcNeAt.tuples tp m 'a' n⟩
theorem Bd{A:Around}{s:Shared}{pins:Zc}{ρ:L2.St}{ds es:List D}{vs us:List V}{c_ p_:Zd}{a b:Addr}(I:Inv X pins ρ H s)(hd:bm ds<=30)(hu:A.units+40<cLine)(z:aK ds=true)(B:aK es=true)
  (g:RVs X.K H ds vs) (k:RVs X.K H es us) (l:Vals vs c_) (m:Vals us p_) (tp:s.heap.IsList a c_.toArray) (c:s.heap.IsList b p_.toArray):Rc2 A s (.ref a) (.ref b) (eqDs ds es):=by
 have n:c_.toArray.size=ds.length:=by rw[g.len,l.length];simp
 have C:p_.toArray.size=es.length:=by rw[k.len,m.length];simp
 have o:∀j (p:j<c_.toArray.size) (h2:j<p_.toArray.size),SeqAt.EqAt A.in1 s c_.toArray[j] p_.toArray[j] (eqD ((ds[j]?).getD .non) ((es[j]?).getD .non)):=λj p h2=>by
  obtain⟨d,v,f,G,J⟩:=eI g l p;obtain⟨e,u,r,L,O⟩:=eI k m h2;rw[f,r]
  have:=fm f
  exact qp 30 d e I 'a' (by rw[units_in1];omega) (bB z f) (bB B r) G L J O
 by_cases hl:ds.length=es.length
 ·have e:eqDs ds es=(List.range c_.toArray.size).all (λj=>eqD ((ds[j]?).getD .non) ((es[j]?).getD .non)):=by rw[jF,n,hl,Nat.min_self];simp
  rw[e];exact⟨SeqAt.RcAt.lists tp c 'a' 'a' o,SeqAt.RcNeAt.lists tp c 'a' 'a' o⟩
 ·have e:eqDs ds es=false:=by rw[jF];simp[hl]
  rw[e];have y:(c_.toArray.size != p_.toArray.size)=true:=by rw[n,C];simpa using hl
  exact⟨SeqAt.RcAt.lists_lengths tp c y 'a',SeqAt.RcNeAt.lists_lengths tp c y 'a'⟩
theorem rc_D{s:Shared}{pins:Zc}{ρ:L2.St}{M:MH}{x y:D}{v u:V}{J L:Value}{Q:Bool->Prop}(I:Inv X pins ρ H s)(hu:X.A.units+40<cLine)(l:RV X.K H x v)(c:RV X.K H y u)(m:RM X.K M H)(r:RelV v J)(d:RelV u L)(h:dEq x y M Q):
  ∃b,Rc2 X.A s J L b/\Q b:=by
 have R:aL x=true->aL y=true->depD x<=30->Q (eqD x y)->∃b,Rc2 X.A s J L b/\Q b:=λO k hd q=>by
  rcases dq O with f | ⟨ds,rfl⟩
  ·rcases dq k with g | ⟨es,rfl⟩
   ·exact⟨_,zy f g l c r d,q⟩
   ·obtain⟨b,us,rfl,sq,n⟩:=RV.tup_.1 c
    obtain⟨c_,o,tp,_⟩:=I.tuple sq;cases d;rw[(nn f).2] at q;exact⟨false,(rW (X:=X) (pins:=pins) (ρ:=ρ) 'a' f (.inl (show s.heap.IsTuple b c_.toArray from tp)) l r).2,q⟩
  ·obtain⟨a,vs,rfl,sq,n⟩:=RV.tup_.1 l
   obtain⟨c_,o,tp,_⟩:=I.tuple sq;cases r;rcases dq k with g | ⟨es,rfl⟩
   ·rw[(nn g).1] at q
    exact⟨false,(rW (X:=X) (pins:=pins) (ρ:=ρ) 'a' g (.inl (show s.heap.IsTuple a c_.toArray from tp)) c d).1,q⟩
   ·obtain⟨b,us,rfl,p,B⟩:=RV.tup_.1 c
    obtain⟨p_,C,j,_⟩:=I.tuple p;cases d;rw[aL] at O k;rw[depD] at hd;rw[eqD] at q;exact⟨_,DP I 'a' hu O k n B o C (show s.heap.IsTuple a c_.toArray from tp) (show s.heap.IsTuple b p_.toArray from j),q⟩
 have P:∀{a:Addr}{w:V}{G:Value}{y:D}{xs:List D},rdL (M a)=some xs->RV X.K H y w->RelV w G->aL y=true->(Rc2 X.A s (.ref a) G false/\Rc2 X.A s G (.ref a) false):=λ{a w G y xs} hl c d k=>by
  obtain⟨vs,sq,n⟩:=m.list hl;obtain⟨c_,o,tp,_⟩:=I.list sq;rcases dq k with g | ⟨es,rfl⟩
  ·have:=rW (X:=X) (pins:=pins) (ρ:=ρ) (A:=X.A) 'a' g (.inr tp.isList) c d
   exact⟨this.1,this.2⟩
  ·obtain⟨b,us,rfl,p,B⟩:=RV.tup_.1 c
   obtain⟨p_,C,j,_⟩:=I.tuple p;cases d;have j:s.heap.IsTuple b p_.toArray:=j;exact⟨⟨SeqAt.RcAt.list_tuple tp.isList j 'a',SeqAt.RcNeAt.list_tuple tp.isList j 'a'⟩,⟨SeqAt.RcAt.tuple_list j tp.isList 'a',SeqAt.RcNeAt.tuple_list j tp.isList 'a'⟩⟩
 cases x with
 |ref a=>
  cases RV.ref_.1 l;cases r;cases y with
  |ref b=>
   cases RV.ref_.1 c;cases d;have h:match rdL (M a),rdL (M b) with
    |some xs,some ys=>(aK xs=true/\aK ys=true/\bm xs<=30)/\Q (eqDs xs ys)
    |_,_=>False:=h
   split at h
   ·rename_i xs ys z S
    obtain⟨vs,sq,n⟩:=m.list z;obtain⟨us,p,B⟩:=m.list S;obtain⟨c_,o,tp,_⟩:=I.list sq;obtain⟨p_,C,j,_⟩:=I.list p;exact⟨_,Bd I h.1.2.2 hu h.1.1 h.1.2.1 n B o C tp.isList j.isList,h.2⟩
   ·exact Yh h
  |_=>
   simp only[dEq] at h;split at h
   ·rename_i xs z
    exact⟨false,(P z c d h.1).1,h.2⟩
   ·exact Yh h
 |_=>
  cases y with
  |ref b=>
   cases RV.ref_.1 c;cases d;simp only[dEq] at h;split at h
   ·rename_i ys z
    exact⟨false,(P z l r h.1).2,h.2⟩
   ·exact Yh h
  |_=>exact R h.1.1 h.1.2.1 h.1.2.2 h.2
def dEqV:D->D->MH->DK->Prop:=λx y M Q=>dEq x y M λb=>Q (.bl b) M
def dNeV:D->D->MH->DK->Prop:=λx y M Q=>dEq x y M λb=>Q (.bl (!b)) M
theorem Fr(hu:X.A.units+40<cLine):OpD X (compareOp .Eq) dEqV:=by
 intro x y v u H M Q c d a h pins s ρ j k I r f;obtain⟨b,g,q⟩:=rc_D I hu c d a r f h;exact g.1 _ _ _ _ ⟨.bl b,H,I,rfl,ay (RV.bl_.2 rfl) a q⟩
theorem Fs(hu:X.A.units+40<cLine):OpD X (compareOp .NotEq) dNeV:=by
 intro x y v u H M Q c d a h pins s ρ j k I r f;obtain⟨b,g,q⟩:=rc_D I hu c d a r f h;exact g.2 _ _ _ _ ⟨.bl (!b),H,I,rfl,ay (RV.bl_.2 rfl) a q⟩
end
section
variable {X:Cx}{H:Hp}{e a b c:Expr}{es:Zg}{pos:Pos}
noncomputable def lc(K:Za)(H:Hp)(ds:List D)(x:D)(y:Value):Bool:=@decide (∃d v,d∈ds/\RV K H d v/\RelV v y/\eqD d x=true) (Classical.propDecidable _)
theorem j4{pins:Zc}{ρ:L2.St}{s:Shared}{ds:List D}{x d:D}{v:V}{y:Value}(I:Inv X pins ρ H s)(g:aK ds=true)(hd:d∈ds)(r:RV X.K H d v)(f:RelV v y):lc X.K H ds x y=eqD d x:=by
 have pg:∀d∈ds,aL d=true:=λd h=>let⟨i,hi⟩:=XW h;bB g hi
 unfold lc;cases q:eqD d x with
 |true=>exact @decide_eq_true _ (Classical.propDecidable _) ⟨d,v,hd,r,f,q⟩
 |false=>
  refine @decide_eq_false _ (Classical.propDecidable _) ?_;rintro⟨d',v',Ih,r1,r2,q'⟩
  have:=L2.RelV.inj r2 f
  subst this
  have:=uO I d' d (pg d' Ih) (pg d hd) r1 r
  subst this;rw[q] at q';cases q'
theorem sN{K:Za}{x:D}{f:Value->Bool}:∀{ds:List D}{vs:List V}{c_:Zd},RVs K H ds vs->Vals vs c_->(∀d v u,d∈ds->RV K H d v->RelV v u->f u=eqD d x)->c_.any f=ds.any λd=>eqD d x
 |[],vs,c_,r,g,_=>by
  rw[RVs] at r;subst r;cases g;rfl
 |d::ds,vs,c_,r,g,h=>by
  rw[RVs] at r;obtain⟨v,p,rfl,j,k⟩:=r;cases g with
  |cons l m=>rw[XJ,XJ,h d v _ (YA) j l,sN k m λd' n o hd=>h d' n o (YB _ hd)]
theorem np{K:Za}:∀{ds:List D}{vs:List V}{c_:Zd}{y:Value},RVs K H ds vs->Vals vs c_->y∈c_->∃d v,d∈ds/\RV K H d v/\RelV v y
 |[],vs,c_,y,r,f,hy=>by rw[RVs] at r;subst r;cases f;cases hy
 |d::ds,vs,c_,y,r,f,hy=>by
  rw[RVs] at r;obtain⟨v,o,rfl,g,j⟩:=r;cases f with
  |cons k l=>
   rcases YC.mp hy with rfl | hy
   ·exact⟨d,v,YA,g,k⟩
   ·obtain⟨d',m,n,h2⟩:=np j l hy
    exact⟨d',m,YB _ n,h2⟩
def keyD:D->Option Key
 |.int i=>some (.inl i)
 |.str x=>some (.inr x)
 |_=>none
theorem xm{K:Za}{d:D}{k:Key}{v:V}(h:keyD d=some k)(r:RV K H d v):v=kV k:=by
 cases d with
 |int i=>cases h;exact RV.int_.1 r
 |str i=>cases h;exact RV.str_.1 r
 |_=>cases h
def valD(d:ZD)(k:Key):Option D:=(d.find? λf=>decide (f.1=k)).map (·.2)
theorem pj{k:Key}:∀{d:ZD}{f:List (Key×V)},f.map (·.1)=d.map (·.1)->(valV f k).isSome=(valD d k).isSome
 |[],[],_=>rfl
 |[],_::_,e=>by cases e
 |_::_,[],e=>by cases e
 |(m,n)::d,(g,o)::f,e=>by
  simp only[YM,List.cons.injEq] at e;obtain⟨j,l⟩:=e;subst j;unfold valV valD;rw[XI,XI];by_cases q:g=k
  ·simp only[YX q,Option.map_some,Option.isSome_some]
  ·simp only[ZS q]
   exact pj l
def rdD:Option MO->Option (List (Key×D))
 |some (.dic d)=>some d
 |some (.rod d)=>some d
 |_=>none
theorem RM.dict{K:Za}{H:Hp}{M:MH}{a:Addr}{f:ZD}(m:RM K M H)(h:rdD (M a)=some f):∃d:List (Key×V),Rd H a (.dK d)/\d.map (·.1)=f.map (·.1)/\RVs K H (f.map (·.2)) (d.map (·.2)):=by
 cases e:M a with
 |none=>rw[e] at h;cases h
 |some o=>
  rw[e] at h;cases o with
  |dic xs=>cases h;obtain⟨d,q,r⟩:=m a _ e;exact⟨d,.inl q,r⟩
  |rod xs=>cases h;obtain⟨u,d,q,r⟩:=m a _ e;exact⟨d,.inr ⟨u,q⟩,r⟩
  |_=>cases h
def inD(x:D)(ds:List D):Bool:=ds.any λd=>eqD d x
def n6{d:Type}(o:Option d)(Q:d->Prop):Prop:=match o with
 |some x=>Q x
 |none=>False
theorem uP{d:Type}{o:Option d}{Q:d->Prop}(h:n6 o Q):∃x,o=some x/\Q x:=by
 cases o with
 |none=>exact Yh h
 |some x=>exact⟨x,rfl,h⟩
def dInP(x y:D)(M:MH)(Q:Bool->Prop):Prop:=match y with
 |.tup ds=>(aL x=true/\aK ds=true/\bm ds<=30)/\Q (inD x ds)
 |.ref a=>match rdL (M a) with
  |some ds=>(aL x=true/\aK ds=true/\bm ds<=30)/\Q (inD x ds)
  |none=>n6 (rdD (M a)) λd=>n6 (keyD x) λk=>Q (valD d k).isSome
 |.str j=>match x with
  |.str i=>Q (!(Builtin.Str.occurrences j i 0 j.length 1).isEmpty)
  |_=>False
 |_=>False
theorem in_D{s:Shared}{pins:Zc}{ρ:L2.St}{M:MH}{x y:D}{v u:V}{C L:Value}{Q:Bool->Prop}(I:Inv X pins ρ H s)(hu:X.A.units+40<cLine)(O:RV X.K H x v)(R:RV X.K H y u)(m:RM X.K M H)(r:RelV v C)(S:RelV u L)(h:dInP x y M Q):
  ∃k,Q k/\(∀(f:Zb),(∀l,Inv X pins ρ H l->f (.bool k) l)->wpAny 'c' X.A (compareOp .In C L) f X.xe s)/\(∀(f:Zb),(∀l,Inv X pins ρ H l->f (.bool (!k)) l)->wpAny 'c' X.A (compareOp .NotIn C L) f X.xe s):=by
 have p:∀{ds:List D}{vs:List V}{c_:Zd},aL x=true->aK ds=true->bm ds<=30->RVs X.K H ds vs->Vals vs c_ ->
   (∀y,y∈c_.toArray->SeqAt.EqAt X.A.in1 s y C (lc X.K H ds x y))/\c_.toArray.any (lc X.K H ds x)=inD x ds:=λ{ds vs c_} px T hd n o=>by
  refine⟨λy hy=>?_,?_⟩
  ·obtain⟨d,w',G,h2,J⟩:=np n o (by simpa using hy)
   rw[j4 I T G h2 J];obtain⟨i,hi⟩:=XW G
   have:=fm hi
   exact qp 30 d x I 'a' (by rw[units_in1];omega) (bB T hi) px h2 O J r
  ·rw[List.any_toArray]
   exact sN n o λd w' u G h2 J=>j4 I T G h2 J
 cases y with
 |tup ds=>
  obtain⟨b,us,rfl,sq,n⟩:=RV.tup_.1 R;obtain⟨c_,o,tp,_⟩:=I.tuple sq;cases S;obtain⟨z,B⟩:=p h.1.1 h.1.2.1 h.1.2.2 n o;have tp:s.heap.IsTuple b c_.toArray:=tp;exact⟨_,h.2,λf q=>SeqAt.in_tupleAt _ tp z (by rw[B];exact q s I),λf q=>SeqAt.notIn_tupleAt _ tp z (by rw[B];exact q s I)⟩
 |ref b=>
  cases RV.ref_.1 R;cases S;have h:match rdL (M b) with
   |some ds=>(aL x=true/\aK ds=true/\bm ds<=30)/\Q (inD x ds)
   |none=>n6 (rdD (M b)) λY=>n6 (keyD x) λk=>Q (valD Y k).isSome:=h
  split at h
  ·rename_i ds U
   obtain⟨vs,sq,n⟩:=m.list U;obtain⟨c_,o,tp,_⟩:=I.list sq;obtain⟨z,B⟩:=p h.1.1 h.1.2.1 h.1.2.2 n o;exact⟨_,h.2,λf q=>SeqAt.in_listAt _ tp.isList z (by rw[B];exact q s I),λf q=>SeqAt.notIn_listAt _ tp.isList z (by rw[B];exact q s I)⟩
  ·obtain⟨Y,U,h⟩:=uP h
   obtain⟨k,e2,h⟩:=uP h;obtain⟨Z,e3,e4,_⟩:=m.dict U
   have:=xm e2 O
   subst this;have g:DGet H b (kV k) (valV Z k):=.inl ⟨Z,k,e3,rfl,rfl⟩;refine⟨_,h,λf q=>d_in 'a' I g r λl W=>?_,λf q=>Dd 'a' I g r λl W=>?_⟩
   ·rw[pj e4];exact q l W
   ·rw[pj e4];exact q l W
 |str j=>
  cases RV.str_.1 R;cases x with
  |str i=>
   cases RV.str_.1 O;obtain⟨t,rfl⟩:=r;obtain⟨t',rfl⟩:=S;exact⟨_,h,λf q=>P.in_str (q s I),λf q=>notIn_str (q s I)⟩
  |_=>exact Yh h
 |_=>exact Yh h
def dInV:R2d:=λx y M Q=>dInP x y M λb=>Q (.bl b) M
def n9:R2d:=λx y M Q=>dInP x y M λb=>Q (.bl (!b)) M
theorem Ft(hu:X.A.units+40<cLine):OpD X (compareOp .In) dInV:=by
 intro x y v u H M Q f g d h pins s ρ m n I r j;obtain⟨b,q,k,_⟩:=in_D I hu f g d r j h;exact k _ λo l=>⟨.bl b,H,l,rfl,ay (RV.bl_.2 rfl) d q⟩
theorem zz(hu:X.A.units+40<cLine):OpD X (compareOp .NotIn) n9:=by
 intro x y v u H M Q f g d h pins s ρ m n I r j;obtain⟨b,q,_,k⟩:=in_D I hu f g d r j h;exact k _ λo l=>⟨.bl (!b),H,l,rfl,ay (RV.bl_.2 rfl) d q⟩
def qv:D->Bool
 |.non=>true
 |_=>false
def isBl:D->Bool
 |.bl _=>true
 |_=>false
def isB:Bool->D->Bool
 |true,.bl a=>a
 |false,.bl a=>!a
 |_,_=>false
def isW(x y:D):Bool:=match y with
 |.non=>true
 |.bl _=>isBl x
 |_=>false
def ue(x y:D):Bool:=match y with
 |.non=>qv x
 |.bl b=>isB b x
 |_=>false
def dIsV:R2d:=λx y M Q=>isW x y=true/\Q (.bl (ue x y)) M
def oa:R2d:=λx y M Q=>isW x y=true/\Q (.bl (!ue x y)) M
theorem pk{K:Za}{x:D}{v:V}(r:RV K H x v):decide (v=.non)=qv x:=by
 cases x with
 |non=>cases RV.non_.1 r;rfl
 |tup ds=>obtain⟨a,xs,rfl,_⟩:=RV.tup_.1 r;rfl
 |bl _=>cases RV.bl_.1 r;rfl
 |int _=>cases RV.int_.1 r;rfl
 |str _=>cases RV.str_.1 r;rfl
 |ref _=>cases RV.ref_.1 r;rfl
 |ty _=>cases RV.ty_.1 r;rfl
theorem Fu(a b:Bool):(a==b)=isB b (.bl a):=by cases a<;>cases b<;>rfl
theorem Fv:OpD X (compareOp .Is) dIsV:=by
 intro x y v u H M Q d f g h;obtain⟨j,h2⟩:=h;cases y with
 |non=>
  cases RV.non_.1 f;exact dW EY ⟨rfl,by rw[pk d];exact ay (RV.bl_.2 rfl) g h2⟩
 |bl b=>
  cases x with
  |bl a=>
   cases RV.bl_.1 d;cases RV.bl_.1 f;intro pins s ρ l m I r k;cases r;cases k;refine is_bool ?_;rw[Fu];exact⟨.bl (isB b (.bl a)),H,I,rfl,ay (RV.bl_.2 rfl) g h2⟩
  |_=>cases j
 |_=>cases j
theorem zA:OpD X (compareOp .IsNot) oa:=by
 intro x y v u H M Q d f g h;obtain⟨j,h2⟩:=h;cases y with
 |non=>
  cases RV.non_.1 f;exact dW CS ⟨rfl,by rw[pk d];exact ay (RV.bl_.2 rfl) g h2⟩
 |bl b=>
  cases x with
  |bl a=>
   cases RV.bl_.1 d;cases RV.bl_.1 f;intro pins s ρ l m I r k;cases r;cases k;refine isnot_bool ?_;rw[show(a != b) = !isB b (.bl a) by cases a<;>cases b<;>rfl];exact⟨.bl (!isB b (.bl a)),H,I,rfl,ay (RV.bl_.2 rfl) g h2⟩
  |_=>cases j
 |_=>cases j
def dLt:D->D->MH->DK->Prop
 |.int i,.int j,M,Q=>Q (.bl (decide (i<j))) M
 |.tup [.int a,.int b],.tup [.int c,.int d],M,Q=>Q (.bl (decide (a<c\/a=c/\b<d))) M
 |_,_,_,_=>False
theorem lex2(a b c d:Int):HT.lexLt [a,b] [c,d]=decide (a<c\/a=c/\b<d):=by
 rw[HT.lE,HT.lE,HT.mz];split
 ·rename_i e
  subst e;split
  ·rename_i e
   subst e;simp
  ·simp
 ·rename_i e
  simp[e]
theorem Cr{K:Za}{H:Hp}{a b:Int}{vs:List V}{c_:Zd}(r:RVs K H [.int a,.int b] vs)(v:Vals vs c_):IntsAre c_.toArray.toList [a,b]:=by
 rw[RVs] at r;obtain⟨x,k,rfl,g,d⟩:=r;rw[RVs] at d;obtain⟨y,l,rfl,j,f⟩:=d;rw[RVs] at f;subst f;cases RV.int_.1 g;cases RV.int_.1 j;exact intsAre_of (ns:=[a,b]) v
theorem Fw(hu:X.A.units+40<cLine):OpD X (compareOp .Lt) dLt:=by
 intro x y v u H M Q d f k h;unfold dLt at h;split at h
 ·exact qu (g:=λi j=>decide (i<j)) Gm _ _ v u H _ _ d f k h
 ·obtain⟨p,us,rfl,sq,l⟩:=RV.tup_.1 d
  obtain⟨q,G,rfl,m,n⟩:=RV.tup_.1 f;intro pins s ρ J K I r o;obtain⟨c_,z,tp,_⟩:=I.tuple sq;obtain⟨p_,B,C,_⟩:=I.tuple m;cases r;cases o;refine HT.xR tp C (Cr l z) (Cr n B) 'a' ?_;rw[lex2];exact⟨.bl _,H,I,rfl,ay (RV.bl_.2 rfl) k h⟩
 ·exact Yh h
def dCmp:CmpOp->R2d
 |.Eq=>dEqV
 |.NotEq=>dNeV
 |.Lt=>dLt
 |.LtE=>dIB λi j=>decide (i<=j)
 |.Gt=>dIB λi j=>decide (j<i)
 |.GtE=>dIB λi j=>decide (j<=i)
 |.Is=>dIsV
 |.IsNot=>oa
 |.In=>dInV
 |.NotIn=>n9
theorem xn(hu:X.A.units+40<cLine)(op:CmpOp):OpD X (compareOp op) (dCmp op):=by
 cases op with
 |Eq=>exact Fr hu
 |NotEq=>exact Fs hu
 |Lt=>exact Fw hu
 |LtE=>exact qu Gn
 |Gt=>exact qu Go
 |GtE=>exact qu Gp
 |Is=>exact Fv
 |IsNot=>exact zA
 |In=>exact Ft hu
 |NotIn=>exact zz hu
def xW(X:Cx):R2:=λx y H Q=>∀f d pins s ρ v u,Inv X pins ρ H s->RelV x v->RelV y u->subscripted d false v u=operate [v,u] (getItem v u)->wpAny 'c' X.A (subscriptTail f d v u) (EP X pins ρ Q) X.xe s
theorem ix_W:IxR X (xW X):=λd f pins s σ _ _ _ v u _ I g j h k=>h d f pins s σ v u I g j k
theorem j5{r:R2}{x y:V}{Q:VK}(h:IxR X r)(q:r x y H Q):xW X x y H Q:=λd f pins s ρ v u I g j k=>h d f pins s ρ H x y v u Q I g j q k
theorem DQ{x y:V}{Q j:VK}(h:xW X x y H Q)(g:∀v H',Q v H'->j v H'):xW X x y H j:=λd f pins s ρ v u I k l m=>thn (h d f pins s ρ v u I k l m) λ_ _ ⟨v,H',n,r,q⟩=>⟨v,H',n,r,g v H' q⟩
theorem oe(hu:X.A.units+1<cLine):IxR X (λx y H Q=>∃a v,x=.ref a/\DGet H a y (some v)/\Q v H):=by
 intro d f pins s σ H x y v u Q I j k h l;obtain⟨a,z,rfl,g,q⟩:=h;cases j;exact tail_any (wj I g) PySem.F.slot_dict_getitem.lookup (zd hu I g k λo p m n=>⟨z,H,m,n,q⟩) l
theorem ld{K:Za}:∀{f:ZD}{g:List (Key×V)}{k:Key}{d:D},g.map (·.1)=f.map (·.1)->RVs K H (f.map (·.2)) (g.map (·.2))->valD f k=some d->∃v,valV g k=some v/\RV K H d v
 |[],_,_,_,_,_,h=>by cases h
 |(k',d')::f,[],_,_,e,_,_=>by cases e
 |(k',d')::f,(j,l)::g,k,d,e,r,h=>by
  simp only[YM,List.cons.injEq] at e;obtain⟨m,n⟩:=e;subst m;simp only[YM] at r;rw[RVs] at r;obtain⟨v,vs,z,o,p⟩:=r;cases z;unfold valD at h;unfold valV;rw[XI] at h ⊢;by_cases q:j=k
  ·simp only[YX q,Option.map_some] at h ⊢
   cases h;exact⟨l,rfl,o⟩
  ·simp only[ZS q] at h ⊢
   exact ld n p h
def optD{d:Type}(o:Option d)(Q:d->Prop):Prop:=match o with
 |some x=>Q x
 |none=>False
theorem aH{d:Type}{o:Option d}{Q:d->Prop}(h:optD o Q):∃x,o=some x/\Q x:=by
 cases o with
 |none=>exact Yh h
 |some x=>exact⟨x,rfl,h⟩
def dIx:R2d:=λx y M Q=>match x,y with
 |.tup ds,.int i=>optD (atI ds i) λd=>Q d M
 |.str z,.int i=>z.length<=sizeLine/\optD (atI z.cps.toList i) λc=>Q (.str ⟨#[c]⟩) M
 |.ref a,.int i=>match M a with
  |some (.lst ds)=>optD (atI ds i) λd=>Q d M
  |some (.rol ds)=>optD (atI ds i) λd=>Q d M
  |some (.dic f)=>optD (valD f (.inl i)) λd=>Q d M
  |some (.rod f)=>optD (valD f (.inl i)) λd=>Q d M
  |_=>False
 |.ref a,.str k=>match M a with
  |some (.dic f)=>optD (valD f (.inr k)) λd=>Q d M
  |some (.rod f)=>optD (valD f (.inr k)) λd=>Q d M
  |_=>False
 |_,_=>False
theorem uQ{K:Za}{ds:List D}{vs:List V}{i:Int}{d:D}(f:RVs K H ds vs)(h:atI ds i=some d):∃v,atI vs i=some v/\RV K H d v:=by
 unfold atI at h ⊢;rw[←f.len];cases q:ixN ds.length i with
 |none=>rw[q] at h;cases h
 |some j=>
  rw[q] at h;obtain⟨v,hv,r⟩:=cy f.p (show ds[j]?=some d from h);exact⟨v,hv,r⟩
theorem ixd(hu:X.A.units+40<cLine){x y:D}{v u:V}{M:MH}{Q:DK}(J:RV X.K H x v)(G:RV X.K H y u)(g:RM X.K M H)(h:dIx x y M Q):xW X v u H (lift X.K H Q):=by
 cases x with
 |tup ds=>cases y with
  |int i=>
   obtain⟨d,f,q⟩:=aH h;obtain⟨a,vs,rfl,sq,j⟩:=RV.tup_.1 J;cases RV.int_.1 G;obtain⟨l,m,r⟩:=uQ j f;exact j5 E8 ⟨a,vs,i,l,rfl,rfl,sq,m,ay r g q⟩
  |_=>exact Yh h
 |str z=>cases y with
  |int i=>
   obtain⟨O,h⟩:=h;obtain⟨c,f,q⟩:=aH h;cases RV.str_.1 J;cases RV.int_.1 G;exact j5 E9 ⟨z,i,c,rfl,rfl,O,f,ay (RV.str_.2 rfl) g q⟩
  |_=>exact Yh h
 |ref a=>
  cases RV.ref_.1 J;cases y with
  |int i=>
   cases RV.int_.1 G;have h:match M a with
    |some (.lst ds)=>optD (atI ds i) λd=>Q d M
    |some (.rol ds)=>optD (atI ds i) λd=>Q d M
    |some (.dic n)=>optD (valD n (.inl i)) λd=>Q d M
    |some (.rod n)=>optD (valD n (.inl i)) λd=>Q d M
    |_=>False:=h
   split at h
   ·rename_i ds o
    obtain⟨d,f,q⟩:=aH h;obtain⟨vs,m,j⟩:=g a _ o;obtain⟨l,p,r⟩:=uQ j f;exact j5 wY ⟨a,vs,i,l,rfl,rfl,SqL.of m,p,ay r g q⟩
   ·rename_i ds o
    obtain⟨d,f,q⟩:=aH h;obtain⟨vs,m,j⟩:=g a _ o;obtain⟨l,p,r⟩:=uQ j f;exact j5 wY ⟨a,vs,i,l,rfl,rfl,.inl m,p,ay r g q⟩
   ·rename_i n o
    obtain⟨d,f,q⟩:=aH h;obtain⟨C,m,p,j⟩:=g a _ o;obtain⟨l,B,r⟩:=ld p j f;exact j5 (oe 'a') ⟨a,l,rfl,by rw[←B];exact DGet.k (k:=.inl i) m,ay r g q⟩
   ·rename_i n o
    obtain⟨d,f,q⟩:=aH h;obtain⟨L,C,m,p,j⟩:=g a _ o;obtain⟨l,B,r⟩:=ld p j f;exact j5 (oe 'a') ⟨a,l,rfl,by rw[←B];exact .inl ⟨C,.inl i,.inr ⟨L,m⟩,rfl,rfl⟩,ay r g q⟩
   ·exact Yh h
  |str k=>
   cases RV.str_.1 G;have h:match M a with
    |some (.dic n)=>optD (valD n (.inr k)) λd=>Q d M
    |some (.rod n)=>optD (valD n (.inr k)) λd=>Q d M
    |_=>False:=h
   split at h
   ·rename_i n o
    obtain⟨d,f,q⟩:=aH h;obtain⟨C,m,p,j⟩:=g a _ o;obtain⟨l,B,r⟩:=ld p j f;exact j5 (oe 'a') ⟨a,l,rfl,by rw[←B];exact DGet.k (k:=.inr k) m,ay r g q⟩
   ·rename_i n o
    obtain⟨d,f,q⟩:=aH h;obtain⟨L,C,m,p,j⟩:=g a _ o;obtain⟨l,B,r⟩:=ld p j f;exact j5 (oe 'a') ⟨a,l,rfl,by rw[←B];exact .inl ⟨C,.inr k,.inr ⟨L,m⟩,rfl,rfl⟩,ay r g q⟩
   ·exact Yh h
  |_=>exact Yh h
 |_=>exact Yh h
def jG:Expr->Bool
 |.Slice _ _ _ _=>false
 |_=>true
theorem DR(h:jG b=true):wX b:=by
 intro o i;cases b<;>first | rfl | (exact absurd (show false=true from h) YG)
theorem Fx(hu:X.A.units+40<cLine){d f:WE}(ha:PEd X a d)(hb:PEd X b f)(g:jG b=true):PEd X (.Subscript a b pos) (wOp dIx d f):=by
 intro σ M ρ H Q rs j h;refine bj (Gx ix_W (pe_W a) (pe_W b) (DR g)) ?_;show tW X a ρ H _;refine aD (two ha hb rs j h) λv l m=>?_
 show tW X b ρ l _;refine aD m λu z n=>?_
 obtain⟨k,x,y,M2,o,p,r,q⟩:=n;exact DQ (ixd hu o p r q) λ_ _=>bA k
end
end DD
namespace HT
open PySem PySem.Spec PyProof.Rows L2
section
variable {prog:Zw}{w:World}{A:Around}{E:Zb}{s:Shared}
theorem oH{t sl:Addr}{b_:Zl}{a b:Value}{lo hi:Zq}{Q:Zb}(ht:IsTup s.heap t b_)(c:s.heap.IsSliceOf sl a b .none)(pl:IsPart a lo)(d:IsPart b hi)
  (hw:sIx b_.size 0 lo=0/\sIx b_.size b_.size hi=b_.size) (h:Q (.ref t) s):wpAny 'e' A (getItem (.ref t) (.ref sl)) Q E s:=by
 obtain⟨os,f,g,k⟩:=id c;have j:s.TypeIs (.ref sl) "slice":=⟨os,f,g⟩;unfold getItem;try with_reducible refine Yj ?_
 first | refine Yb (Yc ?_) | skip
 refine Yb (wpAny_sequenceKey ht.typeIs 'b' ?_);refine Yb (wpAny_callSpecial?_slot (name:=Str.ofString "__getitem__") ht.typeIs PyProof.Rows.slot_tuple_getitem
  (wpAny_call_entry PyProof.Rows.slot_tuple_getitem ht.typeIs entry_tuple_getitem ?_ (args_tuple_getitem _ _)))
 show wpAny _ _ (Builtin.Tuple.tupleItemsOf (.ref t) >>= _) _ _ s;refine Yb (tupleItemsOf_ ht ?_);refine Yb (wpAny_typeOf j ?_);rw[if_pos 'b'];refine Yb (jw c pl d ?_);show wpAny _ _ (if(((sIx b_.size 0 lo:Nat):Int)==0&&(1:Int)==1&&(sIx b_.size b_.size hi-sIx b_.size 0 lo)==b_.size)=true then _ else _) _ _ s;rw[if_pos (by rw[hw.1,hw.2];simp)];refine Yb (m:=Builtin.Tuple.tupleIsExact _) (Yb (wpAny_typeOf ht.typeIs (Yc ?_)));rw[if_pos 'b'];refine Yb (wpAny_rule ?_);exact Yc ⟨_,rfl,Yc h⟩
end
end HT
namespace DD
open PySem PySem.Spec PyProof.Rows L2
section
variable {X:Cx}{H:Hp}{e a b c o:Expr}{es:Zg}{pos:Pos}
theorem Fy:SlR X (λx lo hi H Q=>∃z,x=.str z/\z.length<=sizeLine/\Q (.str (Txt.slice z lo hi)) H):=by
 intro pins s σ H x v y A lo hi sl Q I p r pl m h;obtain⟨z,rfl,hz,q⟩:=h;obtain⟨t,rfl⟩:=p;obtain⟨d,f,h2,g⟩:=r;refine⟨"str",_,F.slot_str_getitem.lookup,typeIs_str _ _ _,?_⟩;cases pl with
 |none=>cases m with
  |none=>exact wpAny_getItem_str_slice (l:=none) (u:=none) (st:=none) ⟨d,f,h2,g⟩ rfl (post_val_or_str ⟨ZZ (Txt.slice_le z _ _) hz,λt' k=>⟨.str _,H,I.tok _,⟨t',rfl⟩,q⟩⟩)
  |int j u=>exact wpAny_getItem_str_slice (l:=none) (u:=some (j,u)) (st:=none) ⟨d,f,h2,g⟩ rfl (post_val_or_str ⟨ZZ (Txt.slice_le z _ _) hz,λt' k=>⟨.str _,H,I.tok _,⟨t',rfl⟩,q⟩⟩)
 |int i n=>cases m with
  |none=>exact wpAny_getItem_str_slice (l:=some (i,n)) (u:=none) (st:=none) ⟨d,f,h2,g⟩ rfl (post_val_or_str ⟨ZZ (Txt.slice_le z _ _) hz,λt' k=>⟨.str _,H,I.tok _,⟨t',rfl⟩,q⟩⟩)
  |int j u=>exact wpAny_getItem_str_slice (l:=some (i,n)) (u:=some (j,u)) (st:=none) ⟨d,f,h2,g⟩ rfl (post_val_or_str ⟨ZZ (Txt.slice_le z _ _) hz,λt' k=>⟨.str _,H,I.tok _,⟨t',rfl⟩,q⟩⟩)
def slW(X:Cx):V->Option Int->Option Int->Hp->VK->Prop:=λx lo hi H Q=>∀pins s ρ v d f sl,Inv X pins ρ H s->RelV x v->s.heap.IsSliceOf sl d f .none->IsPart d lo->IsPart f hi ->
 ∃T id,typeLookup (.type T) "__getitem__" = pure (some (.builtin id))/\s.TypeIs v T/\wpAny 'c' X.A (getItem v (.ref sl)) (EP X pins ρ Q) X.xe s
theorem sl_W:SlR X (slW X):=λpins s σ _ _ v d f _ _ sl _ I g j pl k h=>h pins s σ v d f sl I g j pl k
theorem qw{r:V->Option Int->Option Int->Hp->VK->Prop}{x:V}{lo hi:Zq}{Q:VK}(h:SlR X r)(q:r x lo hi H Q):slW X x lo hi H Q:=λpins s ρ v d f sl I g j pl k=>h pins s ρ H x v d f lo hi sl Q I g j pl k q
theorem Be{x:V}{lo hi:Zq}{Q d:VK}(h:slW X x lo hi H Q)(g:∀v H',Q v H'->d v H'):slW X x lo hi H d:=λpins s ρ v f j sl I k l pl m=>
 let⟨T,id,h1,h2,h3⟩:=h pins s ρ v f j sl I k l pl m;⟨T,id,h1,h2,thn h3 λ_ _ ⟨v,H',n,r,q⟩=>⟨v,H',n,r,g v H' q⟩⟩
def cutL{d:Type}(xs:List d)(lo hi:Zq):List d:=(xs.drop (HT.sIx xs.length 0 lo)).take (HT.sIx xs.length xs.length hi-HT.sIx xs.length 0 lo)
theorem zB{K:Za}{ds:List D}{vs:List V}(r:RVs K H ds vs)(lo hi:Zq):RVs K H (cutL ds lo hi) (cutV vs lo hi):=by
 unfold cutL cutV;rw[←r.len];exact RVs.of (nT _ (xa _ r.p))
def rSlW(K:Za):V->Option Int->Option Int->Hp->VK->Prop:=λx lo hi H Q=>∃a xs,x=.ref a/\SqT K H a xs/\(HT.sIx xs.length 0 lo=0/\HT.sIx xs.length xs.length hi=xs.length)/\Q (.ref a) H
theorem DT:SlR X (rSlW X.K):=by
 intro pins s σ H x v k l lo hi sl Q I d f pl g h;obtain⟨a,xs,rfl,hx,hw,q⟩:=h;cases d;obtain⟨c_,r,ht,hz⟩:=I.tuple hx;have j:c_.toArray.size=xs.length:=by rw[YJ];exact r.length.symm
 refine⟨"tuple",_,PyProof.Rows.slot_tuple_getitem.lookup,ht.typeIs,?_⟩;exact HT.oH ht f pl g (by rw[j];exact hw) ⟨.ref a,H,I,rfl,q⟩
def dSl(x:D)(lo hi:Zq)(M:MH)(Q:DK):Prop:=match x with
 |.tup ds=>Q (.tup (cutL ds lo hi)) M
 |.str z=>z.length<=sizeLine/\Q (.str (Txt.slice z lo hi)) M
 |.ref a=>optD (rdL (M a)) λds=>∀p,M p=none->Q (.ref p) (updM M p (.lst (cutL ds lo hi)))
 |_=>False
theorem sld{x:D}{v:V}{lo hi:Zq}{M:MH}{Q:DK}(g:RV X.K H x v)(d:RM X.K M H)(h:dSl x lo hi M Q):slW X v lo hi H (lift X.K H Q):=by
 cases x with
 |tup ds=>
  obtain⟨a,vs,rfl,sq,f⟩:=RV.tup_.1 g;by_cases hw:HT.sIx ds.length 0 lo=0/\HT.sIx ds.length ds.length hi=ds.length
  ·have h:Q (.tup (cutL ds lo hi)) M:=h
   have e:cutL ds lo hi=ds:=by unfold cutL;rw[hw.1,hw.2];simp
   rw[e] at h;exact qw DT ⟨a,vs,rfl,sq,by rw[←f.len];exact hw,ay g d h⟩
  refine qw E7 ⟨a,vs,rfl,sq,by rw[←f.len];exact hw,λp hp=>?_⟩;have k:=Kp.new (o:=.tup (cutV vs lo hi)) hp;exact⟨k,.tup (cutL ds lo hi),M,RV.tup_.2 ⟨p,_,rfl,SqT.of aw,RVs.mono k _ (zB f lo hi)⟩,d.newH hp,h⟩
 |str z=>cases RV.str_.1 g;exact qw Fy ⟨z,rfl,h.1,ay (RV.str_.2 rfl) d h.2⟩
 |ref a=>
  cases RV.ref_.1 g;obtain⟨ds,j,q⟩:=aH h;obtain⟨vs,sq,f⟩:=d.list j;refine qw Da ⟨a,vs,rfl,sq,λp hp=>?_⟩;have k:=Kp.new (o:=.lst (cutV vs lo hi)) hp;exact⟨k,.ref p,_,RV.ref_.2 rfl,d.new (m:=.lst (cutL ds lo hi)) hp ⟨_,aw,RVs.mono k _ (zB f lo hi)⟩,q p (d.fresh hp)⟩
 |_=>exact Yh h
def intD(x:D)(Q:Int->Prop):Prop:=match x with
 |.int i=>Q i
 |_=>False
theorem rX{x:D}{Q:Int->Prop}(h:intD x Q):∃i,x=.int i/\Q i:=by
 cases x with
 |int i=>exact⟨i,rfl,h⟩
 |_=>exact Yh h
abbrev WO:=DS->MH->(Option Int->MH->Prop)->Prop
def oWp(X:Cx)(e:Option Expr):TO:=λρ H Q=>∀pins s,Inv X pins ρ H s->wpAny 'c' X.A (evalPart e X.env) (λu d=>∃o H',Inv X pins ρ H' d/\IsPart u o/\Q o H') X.xe s
theorem po_W(e:Option Expr):PO X e (oWp X e):=λpins s _ _ _ I h=>h pins s I
def POd(X:Cx)(e:Option Expr)(t:WO):Prop:=∀σ M ρ H Q,RS X.K H σ ρ->RM X.K M H->t σ M Q->oWp X e ρ H λo H'=>Kp H H'/\∃M',RM X.K M' H'/\Q o M'
theorem Bf:POd X none (λ_ M Q=>Q none M):=λσ M ρ H Q rs d q pins s I=>C5 pins s ρ H _ I ⟨Kp.refl H,M,d,q⟩
theorem Bg{t:WE}(h:PEd X e t):POd X (some e) (λσ M Q=>t σ M λx M1=>intD x λi=>Q (some i) M1):=λσ M ρ H Q rs f q pins s I=>
 C7 (pe_W e) pins s ρ H _ I (aD (h σ M ρ H _ rs f q) λv l ⟨g,x,M1,j,k,d⟩=>by
  obtain⟨i,rfl,d⟩:=rX d;exact⟨i,RV.int_.1 j,g,M1,k,d⟩)
theorem uR{e:Option Expr}{ρ:L2.St}{Q d:Option Int->Hp->Prop}(h:oWp X e ρ H Q)(f:∀o H',Q o H'->d o H'):oWp X e ρ H d:=λpins s I=>thn (h pins s I) λ_ _ ⟨o,H',g,r,q⟩=>⟨o,H',g,r,f o H' q⟩
def wSl(d:WE)(f g:WO):WE:=λσ M Q=>d σ M λx M1=>f σ M1 λl M2=>g σ M2 λu j=>dSl x l u j Q
theorem Fz{g:WE}{j k:WO}{lo hi:Option Expr}{p2:Pos}(ha:PEd X a g)(hl:POd X lo j)(r:POd X hi k):PEd X (.Subscript a (.Slice lo hi none p2) pos) (wSl g j k):=by
 intro σ M ρ H Q rs y h;refine bj (AV sl_W (pe_W a) (po_W lo) (po_W hi)) ?_;show tW X a ρ H _;refine aD (ha σ M ρ H _ rs y h) λv m z=>?_
 obtain⟨d,x,M1,A,B,C⟩:=z;show oWp X lo ρ m _;refine uR (hl σ M1 ρ m _ (rs.mono d) B C) λl n G=>?_
 obtain⟨f,M2,J,K⟩:=G;show oWp X hi ρ n _;refine uR (r σ M2 ρ n _ (rs.mono (d.trans f)) J K) λu R L=>?_
 obtain⟨p,S,O,P⟩:=L;exact Be (sld (RV.mono (f.trans p) x A) O P) λ_ _=>bA (d.trans (f.trans p))
def cW(X:Cx)(f:Value):List V->Hp->VK->Prop:=λvs H Q=>∀pins s ρ us,Inv X pins ρ H s->Vals vs us->wpAny 'c' X.A (call f us) (EP X pins ρ Q) X.xe s
theorem c_W(f:Value):dU X f (cW X f):=λpins s σ _ _ us _ I r h=>h pins s σ us I r
theorem dX{f:Value}{r:List V->Hp->VK->Prop}{vs:List V}{Q:VK}(h:dU X f r)(q:r vs H Q):cW X f vs H Q:=λpins s ρ us I d=>h pins s ρ H vs us Q I d q
theorem xo{f:Value}{vs:List V}{Q d:VK}(h:cW X f vs H Q)(g:∀v H',Q v H'->d v H'):cW X f vs H d:=λpins s ρ us I j=>thn (h pins s ρ us I j) λ_ _ ⟨v,H',k,r,q⟩=>⟨v,H',k,r,g v H' q⟩
def fK(X:Cx)(f:Value)(r:SpD):Prop:=∀ds vs H M Q,RVs X.K H ds vs->RM X.K M H->r ds M Q->cW X f vs H (lift X.K H Q)
theorem fo{x:Str}{id:String}{r:SpD}{t:WA}{p:Pos}(hc:fK X (.builtin id) r)(hg:Gl X x)(hm:X.mg x=none)(hv:bootBuiltins x=some (.builtin id))(hn:x ≠ "__name__")(d:(x==("__debug__" : Str))=false)(f:ao e=true)(g:es.all ao=true)
  (ha:PAd X (e::es) t):PEd X (.Call (.Name x p) (e::es) [] pos) (fF r t):=by
 intro σ M ρ H Q rs j h;refine bj (AQ (c_W _) hg hm hv (pa_W (e::es)) hn d (aM f) (ck g)) ?_;show tWA X (e::es) ρ H _;refine ca (ha σ M ρ H _ rs j h) λvs k l=>?_
 obtain⟨m,ds,M1,n,_,u,y⟩:=l;exact xo (hc ds vs k M1 Q n u y) λ_ _=>bA m
theorem qx{x:Str}{id:String}{r:SpD}{t:WA}{p:Pos}(hc:fK X (.type id) r)(hg:Gl X x)(hm:X.mg x=none)(hv:bootBuiltins x=some (.type id))(hn:x ≠ "__name__")(d:(x==("__debug__" : Str))=false)(f:ao e=true)(g:es.all ao=true)
  (ha:PAd X (e::es) t):PEd X (.Call (.Name x p) (e::es) [] pos) (fF r t):=by
 intro σ M ρ H Q rs j h;refine bj (y8 (c_W _) hg hm hv (pa_W (e::es)) hn d (aM f) (ck g)) ?_;show tWA X (e::es) ρ H _;refine ca (ha σ M ρ H _ rs j h) λvs k l=>?_
 obtain⟨m,ds,M1,n,_,u,y⟩:=l;exact xo (hc ds vs k M1 Q n u y) λ_ _=>bA m
theorem rvs1{K:Za}{d:D}{vs:List V}(r:RVs K H [d] vs):∃v,vs=[v]/\RV K H d v:=by
 rw[RVs] at r;obtain⟨v,j,rfl,g,f⟩:=r;rw[RVs] at f;subst f;exact⟨v,rfl,g⟩
theorem rvs2{K:Za}{d d':D}{vs:List V}(r:RVs K H [d,d'] vs):∃v f,vs=[v,f]/\RV K H d v/\RV K H d' f:=by
 rw[RVs] at r;obtain⟨v,l,rfl,g,j⟩:=r;obtain⟨f,rfl,k⟩:=rvs1 j;exact⟨v,f,rfl,g,k⟩
def dLen:SpD:=λds M Q=>match ds with
 |[.str z]=>z.length<=sizeLine/\Q (.int z.length) M
 |[.tup xs]=>Q (.int xs.length) M
 |[.ref a]=>match M a with
  |some (.lst xs)=>Q (.int xs.length) M
  |some (.rol xs)=>Q (.int xs.length) M
  |some (.dic d)=>Q (.int d.length) M
  |some (.rod d)=>Q (.int d.length) M
  |_=>False
 |_=>False
theorem zC:dU X (.builtin "len") (λxs H Q=>∃a d,xs=[V.ref a]/\Rd H a (.dK d)/\Q (.int d.length) H):=by
 rintro pins s σ H xs us Q I r ⟨a,d,rfl,ha,q⟩;obtain⟨u,rfl,f⟩:=vals1 r;cases f;exact Cl I ha λt j g=>⟨.int d.length,H,g,⟨t,rfl⟩,q⟩
theorem FA:fK X (.builtin "len") dLen:=by
 intro ds vs H M Q r d h;unfold dLen at h;split at h
 ·obtain⟨v,rfl,j⟩:=rvs1 r
  cases RV.str_.1 j;exact dX uw ⟨_,rfl,h.1,ay (RV.int_.2 rfl) d h.2⟩
 ·obtain⟨v,rfl,j⟩:=rvs1 r
  obtain⟨a,us,rfl,sq,f⟩:=RV.tup_.1 j;exact dX jx ⟨a,us,rfl,.inr sq,ay (RV.int_.2 (by rw[f.len])) d h⟩
 ·obtain⟨v,rfl,j⟩:=rvs1 r
  cases RV.ref_.1 j;split at h
  ·rename_i xs g
   obtain⟨us,sq,f⟩:=d _ _ g;exact dX jx ⟨_,us,rfl,.inl (SqL.of sq),ay (RV.int_.2 (by rw[f.len])) d h⟩
  ·rename_i xs g
   obtain⟨us,sq,f⟩:=d _ _ g;exact dX jx ⟨_,us,rfl,.inl (.inl sq),ay (RV.int_.2 (by rw[f.len])) d h⟩
  ·rename_i n g
   obtain⟨k,l,m,f⟩:=d _ _ g;exact dX zh ⟨_,k,rfl,l,ay (RV.int_.2 (by have:=congrArg List.length m;simp only[ZG] at this;rw[this])) d h⟩
  ·rename_i n g
   obtain⟨p,k,l,m,f⟩:=d _ _ g;exact dX zC ⟨_,k,rfl,.inr ⟨p,l⟩,ay (RV.int_.2 (by have:=congrArg List.length m;simp only[ZG] at this;rw[this])) d h⟩
  ·exact Yh h
 ·exact Yh h
def tyD(x:D)(M:MH):Option String:=match x with
 |.non=>some "NoneType"
 |.bl _=>some "bool"
 |.int _=>some "int"
 |.str _=>some "str"
 |.tup _=>some "tuple"
 |.ref a=>match M a with
  |some (.lst _)=>some "list"
  |some (.dic _)=>some "dict"
  |_=>none
 |.ty _=>none
def isT(t T:String):Bool:=t==T||(t == "bool" && T == "int")
def kinds:List String:=["NoneType","bool","int","str","tuple","list","dict"]
theorem zD:∀t∈kinds,∀T∈kinds,T ≠ "NoneType"->(if(Value.type t==Value.type T)=true then some true else if PySem.W.kitMeta T=true then(fastBuiltinMro t).map (·.contains (.type T)) else none)=some (isT t T):=by rfl'
def tysD:List D->Option (List String)
 |[]=>some []
 |.ty T::r=>(tysD r).map (T :: ·)
 |_=>none
def yd(T:String):Bool:=kinds.contains T&&T != "NoneType"
def lf:SpD:=λds M Q=>match ds with
 |[x,.ty T]=>(T∈kinds/\T ≠ "NoneType")/\optD (tyD x M) λt=>Q (.bl (isT t T)) M
 |[x,.tup ts]=>optD (tysD ts) λd=>d.all yd=true/\optD (tyD x M) λt=>Q (.bl (d.any (isT t))) M
 |_=>False
theorem xp{K:Za}:∀{ts:List D}{d:List String}{vs:List V},tysD ts=some d->RVs K H ts vs->vs=d.map V.ty
 |[],d,vs,h,r=>by cases h;rw[RVs] at r;subst r;rfl
 |.ty T::ts,d,vs,h,r=>by
  rw[tysD] at h;rw[RVs] at r;obtain⟨v,j,rfl,f,g⟩:=r;cases q:tysD ts with
  |none=>rw[q] at h;cases h
  |some k=>rw[q] at h;cases h;rw[xp q g,RV.ty_.1 f];rfl
 |.non::_,_,_,h,_=>by cases h
 |.bl _::_,_,_,h,_=>by cases h
 |.int _::_,_,_,h,_=>by cases h
 |.str _::_,_,_,h,_=>by cases h
 |.tup _::_,_,_,h,_=>by cases h
 |.ref _::_,_,_,h,_=>by cases h
theorem sO{K:Za}{t:String}(ht:t∈kinds):∀{d:List String}{us:Zd},d.all yd=true->Vals (d.map V.ty) us->PySem.W.kitAny K (.type t) us=some (d.any (isT t))
 |[],_,_,r=>by cases r;rfl
 |T::d,_,h,r=>by
  cases r with
  |cons f j=>
   rw[XT,XA] at h;cases f;have g:=h.1;unfold yd at g;rw[XA] at g;have k:=zm K (zD t ht T (by simpa using g.1) (by simpa using g.2));unfold PySem.W.kitAny;rw[k,XJ];cases isT t T with
   |true=>rfl
   |false=>exact sO ht h.2 j
theorem uS{x:D}{M:MH}{t:String}(h:tyD x M=some t):t∈kinds:=by
 cases x with
 |ref a=>
  have h:(match M a with
   |some (.lst _)=>some "list"
   |some (.dic _)=>some "dict"
   |_=>none)=some t:=h
  split at h<;>first | (cases h;decide) | cases h
 |ty _=>cases h
 |_=>cases h;decide
theorem Bh{s:Shared}{pins:Zc}{ρ:L2.St}{M:MH}{x:D}{v:V}{g c:Value}{t:String}{k:Bool}{Q:Zb}(I:Inv X pins ρ H s)(d:RV X.K H x v)(j:RM X.K M H)(r:RelV v g)(h:tyD x M=some t)(e:PySem.W.kitOne X.K (.type t) c=some k)
  (hq:∀tk,Q (.bool k) { s with toks:=tk }):wpAny 'c' X.A (call (.builtin "isinstance") [g,c]) Q X.xe s:=by
 cases x with
 |non=>cases h;cases RV.non_.1 d;exact fj I r .non e hq
 |bl b=>cases h;cases RV.bl_.1 d;exact fj I r (.bl b) e hq
 |int b=>cases h;cases RV.int_.1 d;exact fj I r (.int b) e hq
 |str b=>cases h;cases RV.str_.1 d;exact fj I r (.str b) e hq
 |ty b=>cases h
 |tup ds=>
  cases h;obtain⟨a,xs,rfl,sq,l⟩:=RV.tup_.1 d;obtain⟨_,_,tp,_⟩:=I.tuple sq;cases r;obtain⟨o,m,h2,_⟩:=tp;exact PySem.W.kia_one PySem.W.kitx_tuple I.kIn ⟨o,m,h2⟩ e (λz=>nomatch z) hq
 |ref a=>
  cases RV.ref_.1 d;have h:(match M a with
   |some (.lst _)=>some "list"
   |some (.dic _)=>some "dict"
   |_=>none)=some t:=h
  split at h
  ·rename_i f;cases h
   obtain⟨us,sq,l⟩:=j _ _ f;exact fj I r (.lst sq) e hq
  ·rename_i f;cases h
   obtain⟨us,sq,_⟩:=j _ _ f;exact fj I r (.dK sq) e hq
  ·cases h
theorem Bj{s:Shared}{pins:Zc}{ρ:L2.St}{M:MH}{x:D}{v:V}{m:Value}{t:String}{k:Bool}{tp:Addr}{us:Zd}{Q:Zb}(I:Inv X pins ρ H s)(f:RV X.K H x v)(p:RM X.K M H)(r:RelV v m)(h:tyD x M=some t)
  (ht:IsTup s.heap tp us.toArray) (e:PySem.W.kitAny X.K (.type t) us=some k) (hq:∀tk,Q (.bool k) { s with toks:=tk }):wpAny 'c' X.A (call (.builtin "isinstance") [m,.ref tp]) Q X.xe s:=by
 obtain⟨⟨oc,od,u,GX⟩,d,h2,n,y⟩:=ht;obtain rfl:oc=.type "tuple":=h2;obtain rfl:u=.seq us.toArray n:=y;cases x with
 |non=>cases h;cases RV.non_.1 f;cases r;exact PySem.W.kia_tup PySem.W.kitx_none I.kIn True.intro d e (λz=>nomatch z) hq
 |bl b=>cases h;cases RV.bl_.1 f;cases r;exact PySem.W.kia_tup PySem.W.kitx_bool I.kIn True.intro d e (λz=>nomatch z) hq
 |int b=>cases h;cases RV.int_.1 f;obtain⟨_,rfl⟩:=r;exact PySem.W.kia_tup PySem.W.kitx_int I.kIn True.intro d e (λz=>nomatch z) hq
 |str b=>cases h;cases RV.str_.1 f;obtain⟨_,rfl⟩:=r;exact PySem.W.kia_tup PySem.W.kitx_str I.kIn True.intro d e (λz=>nomatch z) hq
 |ty b=>cases h
 |tup ds=>
  cases h;obtain⟨a,xs,rfl,sq,B⟩:=RV.tup_.1 f;obtain⟨_,_,⟨o,g,j,_⟩,_⟩:=I.tuple sq;cases r;exact PySem.W.kia_tup PySem.W.kitx_tuple I.kIn ⟨o,g,j⟩ d e (λz=>nomatch z) hq
 |ref a=>
  cases RV.ref_.1 f;cases r;have h:(match M a with
   |some (.lst _)=>some "list"
   |some (.dic _)=>some "dict"
   |_=>none)=some t:=h
  split at h
  ·rename_i l;cases h
   obtain⟨C,sq,B⟩:=p _ _ l;obtain⟨_,_,_,_,_,g⟩:=I.lstM sq;exact PySem.W.kia_tup PySem.W.kitx_list I.kIn ⟨_,g,rfl⟩ d e (λz=>nomatch z) hq
  ·rename_i l;cases h
   obtain⟨C,sq,_⟩:=p _ _ l;obtain⟨_,_,_,_,o,es,G,g,j,_⟩:=Ck I.hok sq;exact PySem.W.kia_tup PySem.W.kitx_dict I.kIn ⟨o,g,j.1⟩ d e (λz=>nomatch z) hq
  ·cases h
theorem zE:fK X (.builtin "isinstance") lf:=by
 intro ds vs H M Q r f h;unfold lf at h;split at h
 ·rename_i x T
  obtain⟨v,p,rfl,g,j⟩:=rvs2 r;cases RV.ty_.1 j;obtain⟨t,d,q⟩:=aH h.2;intro pins s ρ us I k;obtain⟨u,y,rfl,l,m⟩:=k.two;cases m;exact Bh I g f l d (zm X.K (zD t (uS d) T h.1.1 h.1.2)) λtk=>⟨.bl _,H,I.tok tk,rfl,ay (RV.bl_.2 rfl) f q⟩
 ·rename_i x ts
  obtain⟨v,p,rfl,g,j⟩:=rvs2 r;obtain⟨B,z,h⟩:=aH h;obtain⟨t,d,q⟩:=aH h.2;obtain⟨tp,xs,rfl,sq,A⟩:=RV.tup_.1 j;intro pins s ρ us I k;obtain⟨u,y,rfl,l,m⟩:=k.two;cases m;obtain⟨c_,n,ht,_⟩:=I.tuple sq;rw[xp z A] at n;exact Bj I g f l d ht (sO (uS d) h.1 n) λtk=>⟨.bl _,H,I.tok tk,rfl,ay (RV.bl_.2 rfl) f q⟩
 ·exact Yh h
def blsD:List D->Option (List Bool)
 |[]=>some []
 |.bl b::r=>(blsD r).map (b :: ·)
 |_=>none
theorem xq{K:Za}:∀{ds:List D}{bs:List Bool}{vs:List V},blsD ds=some bs->RVs K H ds vs->vs=bs.map V.bl
 |[],bs,vs,h,r=>by rw[RVs] at r;subst r;cases h;rfl
 |.bl b::ds,bs,vs,h,r=>by
  rw[RVs] at r;obtain⟨v,g,rfl,d,f⟩:=r;cases RV.bl_.1 d;unfold blsD at h;cases q:blsD ds with
  |none=>rw[q] at h;cases h
  |some j=>rw[q] at h;cases h;rw[xq q f];rfl
def dAll(f:List Bool->Bool):SpD:=λds M Q=>match ds with
 |[.ref a]=>match M a with
  |some (.lst xs)=>optD (blsD xs) λbs=>Q (.bl (f bs)) M
  |_=>False
 |_=>False
theorem FB(hc:X.calm=true):fK X (.builtin "all") (dAll λbs=>bs.all id):=by
 intro ds vs H M Q r d h;unfold dAll at h;split at h
 ·obtain⟨v,rfl,f⟩:=rvs1 r
  cases RV.ref_.1 f;split at h
  ·rename_i xs g
   obtain⟨bs,j,q⟩:=aH h;obtain⟨us,sq,k⟩:=d _ _ g
   have:=xq j k
   subst this;exact dX (A1 hc) ⟨_,bs,rfl,SqL.of sq,ay (RV.bl_.2 rfl) d q⟩
  ·exact Yh h
 ·exact Yh h
def dII(f:Int->Int->Int):SpD:=λds M Q=>match ds with
 |[.int i,.int j]=>Q (.int (f i j)) M
 |_=>False
theorem FC(hc:X.calm=true):fK X (.builtin "min") (dII λi j=>if j<i then j else i):=by
 intro ds vs H M Q r d h;unfold dII at h;split at h
 ·obtain⟨v,k,rfl,f,g⟩:=rvs2 r
  cases RV.int_.1 f;cases RV.int_.1 g;exact dX (yX hc) ⟨_,_,rfl,ay (RV.int_.2 rfl) d h⟩
 ·exact Yh h
def nq:SpD:=λds M Q=>match ds with
 |[.tup xs]=>Q (.tup xs) M
 |[.ref a]=>optD (rdL (M a)) λxs=>Q (.tup xs) M
 |_=>False
theorem Bl:fK X (.type "tuple") nq:=by
 intro ds vs H M Q r f h;unfold nq at h;split at h
 ·obtain⟨v,rfl,d⟩:=rvs1 r
  obtain⟨a,us,rfl,sq,g⟩:=RV.tup_.1 d;exact dX mC ⟨a,us,rfl,.inr ⟨sq,ay d f h⟩⟩
 ·obtain⟨v,rfl,d⟩:=rvs1 r
  cases RV.ref_.1 d;obtain⟨xs,j,q⟩:=aH h;obtain⟨us,sq,g⟩:=f.list j;refine dX mC ⟨_,us,rfl,.inl ⟨sq,λp hp=>?_⟩⟩;have k:=Kp.new (o:=.tup us) hp;exact⟨k,.tup xs,M,RV.tup_.2 ⟨p,_,rfl,SqT.of aw,RVs.mono k _ g⟩,f.newH hp,q⟩
 ·exact Yh h
def lV:SpD:=λds M Q=>match ds with
 |[.tup xs]=>∀p,M p=none->Q (.ref p) (updM M p (.lst xs))
 |[.ref a]=>optD (rdL (M a)) λxs=>∀p,M p=none->Q (.ref p) (updM M p (.lst xs))
 |_=>False
theorem xr:fK X (.type "list") lV:=by
 intro ds vs H M Q r d h;unfold lV at h;split at h
 ·rename_i xs
  obtain⟨v,rfl,f⟩:=rvs1 r;obtain⟨a,us,rfl,sq,g⟩:=RV.tup_.1 f;refine dX m8 ⟨a,us,rfl,.inr sq,λp hp=>?_⟩;have k:=Kp.new (o:=.lst us) hp;exact⟨k,.ref p,_,RV.ref_.2 rfl,d.new (m:=.lst xs) hp ⟨us,aw,RVs.mono k _ g⟩,h p (d.fresh hp)⟩
 ·obtain⟨v,rfl,f⟩:=rvs1 r
  cases RV.ref_.1 f;obtain⟨xs,j,q⟩:=aH h;obtain⟨us,sq,g⟩:=d.list j;refine dX m8 ⟨_,us,rfl,.inl sq,λp hp=>?_⟩;have k:=Kp.new (o:=.lst us) hp;exact⟨k,.ref p,_,RV.ref_.2 rfl,d.new (m:=.lst xs) hp ⟨us,aw,RVs.mono k _ g⟩,q p (d.fresh hp)⟩
 ·exact Yh h
inductive Bi where
 |len | isinst | all | min | tuple
 deriving DecidableEq
def dBi:Bi->SpD
 |.len=>dLen
 |.isinst=>lf
 |.all=>dAll λbs=>bs.all id
 |.min=>dII λi j=>if j<i then j else i
 |.tuple=>nq
def qz:Bi->Str
 |.len=>"len"
 |.isinst=>"isinstance"
 |.all=>"all"
 |.min=>"min"
 |.tuple=>"tuple"
theorem FD(b:Bi)(hc:X.calm=true){t:WA}{p:Pos}(hg:Gl X (qz b))(hm:X.mg (qz b)=none)(d:ao e=true)(f:es.all ao=true)(ha:PAd X (e::es) t):PEd X (.Call (.Name (qz b) p) (e::es) [] pos) (fF (dBi b) t):=by
 cases b with
 |len=>exact fo FA hg hm PySem.boot_len 'b' 'b' d f ha
 |isinst=>exact fo zE hg hm PyProof.Rows.boot_isinstance 'b' 'b' d f ha
 |all=>exact fo (FB hc) hg hm (by rfl') 'b' 'b' d f ha
 |min=>exact fo (FC hc) hg hm PyProof.Rows.boot_min 'b' 'b' d f ha
 |tuple=>exact qx Bl hg hm (by rfl') 'b' 'b' d f ha
end
section
variable {X:Cx}{H:Hp}{e a b c o:Expr}{es:Zg}{pos:Pos}
def bn:Expr->Bool
 |.Call (.Name _ _) [] [] _=>false
 |_=>true
theorem og{env:Env}{f:Str}{w:Sem Value}(h:bn o=true):attributeBase o f env w=w:=by
 unfold attributeBase;split
 ·exact absurd (show false=true from h) YG
 ·rfl
theorem pv{env:Env}{p:Pos}:∀{es:Zg},es.all ao=true->(backTo p (starEach es env)).all (λx=>!x.1)=true
 |[],_=>rfl
 |e::es,h=>by
  rw[XT,XA] at h;rw[aM h.1];show(true&&(backTo p (starEach es env)).all (λx=>!x.1))=true;rw[pv h.2];rfl
def mW(X:Cx)(id:String):V->List V->Hp->VK->Prop:=λx xs H Q=>∀pins s ρ v us,Inv X pins ρ H s->RelV x v->Vals xs us->wpAny 'c' X.A (call (.builtin id) (v::us)) (EP X pins ρ Q) X.xe s
theorem m_W(id:String):MtR X id (mW X id):=λpins s σ _ _ _ v us _ I r d h=>h pins s σ v us I r d
theorem oh{id:String}{r:V->List V->Hp->VK->Prop}{x:V}{xs:List V}{Q:VK}(h:MtR X id r)(q:r x xs H Q):mW X id x xs H Q:=λpins s ρ v us I d f=>h pins s ρ H x xs v us Q I d f q
theorem xt{id:String}{x:V}{xs:List V}{Q d:VK}(h:mW X id x xs H Q)(g:∀v H',Q v H'->d v H'):mW X id x xs H d:=λpins s ρ v us I f j=>thn (h pins s ρ v us I f j) λ_ _ ⟨v,H',k,r,q⟩=>⟨v,H',k,r,g v H' q⟩
abbrev SpM:=D->List D->MH->DK->Prop
def MtD(X:Cx)(id:String)(r:SpM):Prop:=∀x ds v vs H M Q,RV X.K H x v->RVs X.K H ds vs->RM X.K M H->r x ds M Q->mW X id v vs H (lift X.K H Q)
inductive Rc where
 |str | lst | dic | int
def uf:Rc->D->MH->Prop
 |.str,.str _,_=>True
 |.int,.int _,_=>True
 |.lst,.ref a,M=>(rdL (M a)).isSome=true
 |.dic,.ref a,M=>match M a with
  |some (.dic _)=>True
  |_=>False
 |_,_,_=>False
def rcT:Rc->String
 |.str=>"str"
 |.lst=>"list"
 |.dic=>"dict"
 |.int=>"int"
theorem xu{K:Za}{M:MH}{c:Rc}{x:D}{v:V}(r:RV K H x v)(m:RM K M H)(h:uf c x M):tyV K (rcT c) v H:=by
 cases c with
 |int=>cases x with
  |int z=>cases RV.int_.1 r;rfl
  |_=>exact Yh h
 |str=>cases x with
  |str z=>cases RV.str_.1 r;rfl
  |_=>exact Yh h
 |lst=>cases x with
  |ref a=>
   cases RV.ref_.1 r;obtain⟨ds,e⟩:=Option.isSome_iff_exists.mp h;obtain⟨vs,sq,_⟩:=m.list e;exact .inl ⟨rfl,vs,sq⟩
  |_=>exact Yh h
 |dic=>cases x with
  |ref a=>
   cases RV.ref_.1 r;have h:match M a with
    |some (.dic _)=>True
    |_=>False:=h
   split at h
   ·rename_i e
    obtain⟨d,q,_⟩:=m a _ e;exact .inr (.inr (.inl ⟨rfl,.inl ⟨d,q⟩⟩))
   ·exact Yh h
  |_=>exact Yh h
def wMt(c:Rc)(r:SpM)(d:WE)(t:WA):WE:=λσ M Q=>d σ M λx M1=>uf c x M1/\t σ M1 λds M2=>r x ds M2 Q
theorem lg{c:Rc}{name:Str}{id:String}{r:SpM}{d:WE}{t:WA}{s_:Pos}(u:PlainAttrs (rcT c))(slot:Slot (rcT c) name id)(y:typeOf (.builtin id)=pure (.type "method_descriptor"))(hm:MtD X id r)(ho:PEd X o d)(ha:PAd X (e::es) t)
  (hb:bn o=true) (f:ao e=true) (g:es.all ao=true) (hl:es.length<20) (z:(s_.endLine==pos.line)=true):PEd X (.Call (.Attribute o name s_) (e::es) [] pos) (wMt c r d t):=by
 intro σ M ρ H Q rs A h;refine bj (Gz u slot y (m_W id) (pe_W o) (pa_W (e::es)) (og hb) ?_ z (aM f) (ck g)) ?_
 ·rw[pv (es:=e::es) (by rw[XT,f,g];rfl)]
  show(true&&true&&decide ((e::es).length+0+0<30))=true;rw[Bool.and_self,Bool.true_and];exact YX (by rw[YK];omega)
 ·show tW X o ρ H _
  refine aD (ho σ M ρ H _ rs A h) λv j B=>?_
  obtain⟨k,x,M1,l,m,n⟩:=B;refine⟨xu l m n.1,?_⟩;show tWA X (e::es) ρ j _;refine ca (ha σ M1 ρ j _ (rs.mono k) m n.2) λvs C G=>?_
  obtain⟨p,ds,M2,J,_,K,L⟩:=G;exact xt (hm x ds v vs C M2 Q (RV.mono p x l) J K L) λ_ _=>bA (k.trans p)
theorem ji{c:Rc}{name:Str}{id:String}{r:SpM}{d:WE}{s_:Pos}(k:PlainAttrs (rcT c))(slot:Slot (rcT c) name id)(l:typeOf (.builtin id)=pure (.type "method_descriptor"))(hm:MtD X id r)(ho:PEd X o d)
  (hb:bn o=true) (m:(s_.endLine==pos.line)=true):PEd X (.Call (.Attribute o name s_) [] [] pos) (wMt c r d wNil):=by
 intro σ M ρ H Q rs n h;refine bj (Fa k slot l (m_W id) (pe_W o) (og hb) m) ?_;show tW X o ρ H _;refine aD (ho σ M ρ H _ rs n h) λv p u=>?_
 obtain⟨y,x,M1,f,g,j⟩:=u;refine⟨xu f g j.1,?_⟩;exact xt (hm x [] v [] p M1 Q f RVs.nil g j.2) λ_ _=>bA y
def lh:SpM:=λx ds M Q=>match x,ds with
 |.ref a,[d]=>match M a with
  |some (.lst xs)=>xs.length<sizeLine/\Q .non (updM M a (.lst (xs++[d])))
  |_=>False
 |_,_=>False
theorem sQ:MtD X "list.append" lh:=by
 intro x ds v vs H M Q l r f h;unfold lh at h;split at h
 ·rename_i a d
  obtain⟨g,rfl,n⟩:=rvs1 r;cases RV.ref_.1 l;split at h
  ·rename_i xs u
   obtain⟨us,sq,j⟩:=f _ _ u;have k:=Kp.put (o':=.lst (us++[g])) sq trivial;exact oh zb ⟨a,us,g,rfl,rfl,sq,by rw[←j.len];exact h.1,k,.non,_,RV.non_.2 rfl,f.put (m:=.lst (xs++[d])) sq trivial ⟨_,aw,RVs.of (aX (RVs.mono k _ j).p (.cons (RV.mono k _ n) .nil))⟩,h.2⟩
  ·exact Yh h
 ·exact Yh h
def li:SpM:=λx ds M Q=>match x,ds with
 |.ref a,[.ref b]=>match M a,M b with
  |some (.lst xs),some (.lst ys)=>xs.length+ys.length<=sizeLine/\Q .non (updM M a (.lst (xs++ys)))
  |_,_=>False
 |_,_=>False
theorem sR:MtD X "list.extend" li:=by
 intro x ds v vs H M Q l r d h;unfold li at h;split at h
 ·rename_i a b
  obtain⟨A,rfl,n⟩:=rvs1 r;cases RV.ref_.1 l;cases RV.ref_.1 n;split at h
  ·rename_i xs ys u y
   obtain⟨us,sq,f⟩:=d _ _ u;obtain⟨g,z,j⟩:=d _ _ y;have k:=Kp.put (o':=.lst (us++g)) sq trivial;exact oh zc ⟨a,b,us,g,rfl,rfl,sq,z,by rw[←f.len,←j.len];exact h.1,k,.non,_,RV.non_.2 rfl,d.put (m:=.lst (xs++ys)) sq trivial ⟨_,aw,RVs.of (aX (RVs.mono k _ f).p (RVs.mono k _ j).p)⟩,h.2⟩
  ·exact Yh h
 ·exact Yh h
theorem uT{d f:Type}{F:d->f->Prop}:∀{l:List d}{m:List f}(i:Nat),Paired F l m->Paired F (l.eraseIdx i) (m.eraseIdx i)
 |_,_,_,.nil=>.nil
 |_,_,0,.cons _ t=>t
 |_,_,i+1,.cons q t=>.cons q (uT i t)
theorem wl{d f:Type}{F:d->f->Prop}{l:List d}{m:List f}(h:Paired F l m):Paired F l.dropLast m.dropLast:=by
 rw[List.dropLast_eq_take,List.dropLast_eq_take,←k7 h];exact nT _ h
def dPop:SpM:=λx ds M Q=>match x,ds with
 |.ref a,[.int i]=>match M a with
  |some (.lst xs)=>(0<=i/\i<1000000)/\optD xs[i.toNat]? λd=>Q d (updM M a (.lst (xs.eraseIdx i.toNat)))
  |_=>False
 |.ref a,[]=>match M a with
  |some (.lst xs)=>optD xs[xs.length-1]? λd=>Q d (updM M a (.lst xs.dropLast))
  |_=>False
 |_,_=>False
theorem zF:MtD X "list.pop" dPop:=by
 intro x ds v vs H M Q z r g h;unfold dPop at h;split at h
 ·rename_i a i
  obtain⟨G,rfl,A⟩:=rvs1 r;cases RV.ref_.1 z;cases RV.int_.1 A;split at h
  ·rename_i xs l
   obtain⟨us,sq,f⟩:=g _ _ l;obtain⟨d,n,q⟩:=aH h.2;obtain⟨u,j,y⟩:=cy f.p n;have k:=Kp.put (o':=.lst (us.eraseIdx i.toNat)) sq trivial;have J:i.toNat<us.length:=(YE.1 j).1;have B:seqIndex? i us.length=some i.toNat:=by
    unfold seqIndex?;have C:¬i<0:=by omega
    have h2:i<(us.length:Int):=by omega
    simp[C,h.1.1,h2]
   exact oh AW ⟨a,us,i,i.toNat,u,rfl,rfl,sq,by omega,by omega,B,j,k,d,_,RV.mono k _ y,g.put (m:=.lst (xs.eraseIdx i.toNat)) sq trivial ⟨_,aw,RVs.of (uT _ (RVs.mono k _ f).p)⟩,q⟩
  ·exact Yh h
 ·rename_i a
  obtain rfl:vs=[]:=by rw[RVs] at r;exact r
  cases RV.ref_.1 z;split at h
  ·rename_i xs l
   obtain⟨us,sq,f⟩:=g _ _ l;obtain⟨d,n,q⟩:=aH h;obtain⟨u,j,y⟩:=cy f.p n;have k:=Kp.put (o':=.lst us.dropLast) sq trivial;exact oh Fb ⟨a,us,u,rfl,rfl,sq,by rw[←f.len];exact j,k,d,_,RV.mono k _ y,g.put (m:=.lst xs.dropLast) sq trivial ⟨_,aw,RVs.of (wl (RVs.mono k _ f).p)⟩,q⟩
  ·exact Yh h
 ·exact Yh h
def nr:SpM:=λx ds M Q=>match x,ds with
 |.ref a,[]=>match M a with
  |some (.lst _)=>Q .non (updM M a (.lst []))
  |_=>False
 |_,_=>False
theorem uU:MtD X "list.clear" nr:=by
 intro x ds v vs H M Q f r d h;unfold nr at h;split at h
 ·rename_i a
  obtain rfl:vs=[]:=by rw[RVs] at r;exact r
  cases RV.ref_.1 f;split at h
  ·rename_i xs g
   obtain⟨us,sq,j⟩:=d _ _ g;have k:=Kp.put (o':=.lst []) sq trivial;exact oh AX ⟨a,us,rfl,rfl,sq,k,.non,_,RV.non_.2 rfl,d.put (m:=.lst []) sq trivial ⟨_,aw,RVs.nil⟩,h⟩
  ·exact Yh h
 ·exact Yh h
def dY(i:Int):Nat:=Builtin.Int.intBits i
def ug:SpM:=λx ds M Q=>match x,ds with
 |.int i,[]=>Q (.int (dY i)) M
 |_,_=>False
theorem DU:MtR X "int.bit_length" (λx xs H Q=>∃i,x=.int i/\xs=[]/\Q (.int (dY i)) H):=by
 rintro pins s σ H x xs v us Q I d f ⟨i,rfl,rfl,q⟩;obtain⟨t,rfl⟩:=d;have g:=f.zero;subst g;exact call_int_bit_length ⟨.int (dY i),H,I.tok _,⟨_,rfl⟩,q⟩
theorem xv:MtD X "int.bit_length" ug:=by
 intro x ds v vs H M Q d r f h;unfold ug at h;split at h
 ·rename_i i
  obtain rfl:vs=[]:=by rw[RVs] at r;exact r
  cases RV.int_.1 d;exact oh DU ⟨i,rfl,rfl,ay (RV.int_.2 rfl) f h⟩
 ·exact Yh h
def lj:SpM:=λx ds M Q=>match x,ds with
 |.ref a,[y]=>optD (rdL (M a)) λxs=>(aL y=true/\aK xs=true/\bm xs<=30)/\optD (xs.findIdx? λd=>eqD d y) λ(j:Nat)=>Q (.int (j:Int)) M
 |_,_=>False
theorem uV(hu:X.A.units+40<cLine):MtD X "list.index" lj:=by
 intro x ds v vs H M Q J r B h;unfold lj at h;split at h
 ·rename_i a y
  obtain⟨w',rfl,L⟩:=rvs1 r;cases RV.ref_.1 J;obtain⟨xs,O,h⟩:=aH h;obtain⟨⟨P,g,hd⟩,h⟩:=h;obtain⟨j,R,q⟩:=aH h;obtain⟨us,sq,f⟩:=B.list O;intro pins s ρ v' Jq I S T;cases S;obtain⟨U,rfl,V⟩:=vals1 T;obtain⟨c_,k,tp,hz⟩:=I.list sq;have W:=tp.isList;obtain⟨⟨cls,Y,data,sl⟩,ho,hc,n,C⟩:=id W;simp only at hc C;subst hc C;obtain⟨l,hp,Z⟩:=List.findIdx?_eq_some_iff_getElem.1 R;have G:c_.length=xs.length:=by rw[f.len,k.length]
  have item:∀m (hm:m<c_.toArray.size) (hx:m<xs.length),lc X.K H xs y c_.toArray[m]=eqD xs[m] y:=by
   intro m hm hx;obtain⟨d,w,e,r2,r3⟩:=eI f k hm;have:d=xs[m]:=by rw[ZE hx] at e;exact(Yi e).symm
   subst this;exact j4 I g (List.getElem_mem hx) r2 r3
  refine call_meets PySem.F.slot_list_index ⟨_,ho,rfl⟩ PySem.F.entry_list_index (PySem.F.args_list_index_2 _ _) (SeqAt.list_indexAt a c_.toArray n Y sl U (lc X.K H xs y) j (by simpa [G] using l) ?_ ?_ ?_) ⟨ho,λu hu=>?_,?_⟩
  ·have p:us.length<=sizeLine:=hz
   have h2:us.length=xs.length:=f.len.symm;have z:(sizeLine:Int)<2 ^ 63-1:=by decide
   omega (splitDisjunctions:=true)
  ·rw[item j (by simpa [G] using l) l];exact hp
  ·intro m hm GI
   rw[item m hm 'a']
   have:=Z m GI
   simpa using this
  ·obtain⟨d,w,p,h2,z⟩:=np f k (by simpa using hu)
   rw[j4 I g p h2 z];obtain⟨i,hi⟩:=XW p
   have:=fm hi
   exact qp 30 d y I 'a' (by rw[units_in1];omega) (bB g hi) P h2 L z V
  ·exact⟨.int (j:Int),H,I.tok _,⟨_,rfl⟩,ay (RV.int_.2 rfl) B q⟩
 ·exact Yh h
inductive Mt where
 |append | extend | pop | clear | bits | index
 deriving DecidableEq
def qA:Mt->Str
 |.append=>"append"
 |.extend=>"extend"
 |.pop=>"pop"
 |.clear=>"clear"
 |.bits=>"bit_length"
 |.index=>"index"
def mtRc:Mt->Rc
 |.append=>.lst
 |.extend=>.lst
 |.pop=>.lst
 |.clear=>.lst
 |.bits=>.int
 |.index=>.lst
def dMt:Mt->SpM
 |.append=>lh
 |.extend=>li
 |.pop=>dPop
 |.clear=>nr
 |.bits=>ug
 |.index=>lj
theorem DV(hu:X.A.units+40<cLine)(m:Mt){j:WE}{t:WA}{s_:Pos}(ho:PEd X o j)(ha:PAd X (e::es) t)(hb:bn o=true)(d:ao e=true)(f:es.all ao=true)(hl:es.length<20)(g:(s_.endLine==pos.line)=true):
  PEd X (.Call (.Attribute o (qA m) s_) (e::es) [] pos) (wMt (mtRc m) (dMt m) j t):=by
 cases m with
 |append=>exact lg (c:=.lst) PySem.F.plainAttrs_list PySem.F.slot_list_append PySem.F.type_list_append sQ ho ha hb d f hl g
 |extend=>exact lg (c:=.lst) PySem.F.plainAttrs_list PySem.F.slot_list_extend PySem.F.type_list_extend sR ho ha hb d f hl g
 |pop=>exact lg (c:=.lst) PySem.F.plainAttrs_list PySem.F.slot_list_pop PySem.F.type_list_pop zF ho ha hb d f hl g
 |clear=>exact lg (c:=.lst) PySem.F.plainAttrs_list PySem.F.slot_list_clear PySem.F.type_list_clear uU ho ha hb d f hl g
 |bits=>exact lg (c:=.int) PySem.F.plainAttrs_int PySem.F.slot_int_bit_length PySem.F.type_int_bit_length xv ho ha hb d f hl g
 |index=>exact lg (c:=.lst) PySem.F.plainAttrs_list PySem.F.slot_list_index PySem.F.type_list_index (uV hu) ho ha hb d f hl g
theorem Bm(hu:X.A.units+40<cLine)(m:Mt){f:WE}{s_:Pos}(ho:PEd X o f)(hb:bn o=true)(d:(s_.endLine==pos.line)=true):
  PEd X (.Call (.Attribute o (qA m) s_) [] [] pos) (wMt (mtRc m) (dMt m) f wNil):=by
 cases m with
 |append=>exact ji (c:=.lst) PySem.F.plainAttrs_list PySem.F.slot_list_append PySem.F.type_list_append sQ ho hb d
 |extend=>exact ji (c:=.lst) PySem.F.plainAttrs_list PySem.F.slot_list_extend PySem.F.type_list_extend sR ho hb d
 |pop=>exact ji (c:=.lst) PySem.F.plainAttrs_list PySem.F.slot_list_pop PySem.F.type_list_pop zF ho hb d
 |clear=>exact ji (c:=.lst) PySem.F.plainAttrs_list PySem.F.slot_list_clear PySem.F.type_list_clear uU ho hb d
 |bits=>exact ji (c:=.int) PySem.F.plainAttrs_int PySem.F.slot_int_bit_length PySem.F.type_int_bit_length xv ho hb d
 |index=>exact ji (c:=.lst) PySem.F.plainAttrs_list PySem.F.slot_list_index PySem.F.type_list_index (uV hu) ho hb d
end
section
variable {X:Cx}{H:Hp}{e a b c o i v:Expr}{es:Zg}{pos:Pos}
def wInv(t:WE):WE:=λσ M Q=>t σ M λx M1=>intD x λi=>Q (.int (-i-1)) M1
theorem bitNot_eq(i:Int):Builtin.bitNot i = -i-1:=by unfold Builtin.bitNot;omega
theorem DW{t:WE}(h:PEd X a t):PEd X (.UnaryOp .Invert a pos) (wInv t):=by
 intro σ M ρ H Q rs f q;refine bj (Gj EX (pe_W a)) ?_;show tW X a ρ H _;refine aD (h σ M ρ H _ rs f q) λv m g=>?_
 obtain⟨j,x,M1,k,l,d⟩:=g;obtain⟨i,rfl,d⟩:=rX d;exact⟨i,RV.int_.1 k,j,.int (-i-1),M1,RV.int_.2 (congrArg V.int (bitNot_eq i)),l,d⟩
def putD(g:ZD)(k:Key)(d:D):List (Key×D):=if(g.any λf=>decide (f.1=k))=true then g.map (λf=>if f.1=k then(f.1,d) else f) else g++[(k,d)]
theorem Bn{g j:Type}{l:List (Key×g)}{m:List (Key×j)}(e:m.map (·.1)=l.map (·.1))(k:Key):(m.any λd=>decide (d.1=k))=l.any λd=>decide (d.1=k):=by
 have f:∀{n:Type}(l:List (Key×n)),(l.any λd=>decide (d.1=k))=(l.map (·.1)).any λq=>decide (q=k):=λl=>by rw[List.any_map];rfl
 rw[f,f,e]
theorem map_put{K:Za}{k:Key}{d:D}{v:V}(r:RV K H d v):∀{l:ZD}{m:List (Key×V)},m.map (·.1)=l.map (·.1)->RVs K H (l.map (·.2)) (m.map (·.2)) ->
  ((m.map λf=>if f.1=k then(f.1,v) else f).map (·.1)=(l.map λf=>if f.1=k then(f.1,d) else f).map (·.1))/\RVs K H ((l.map λf=>if f.1=k then(f.1,d) else f).map (·.2)) ((m.map λf=>if f.1=k then(f.1,v) else f).map (·.2))
 |[],[],_,_=>⟨rfl,.nil⟩
 |[],_::_,e,_=>by cases e
 |_::_,[],e,_=>by cases e
 |(C,G)::l,(p,J)::m,e,g=>by
  simp only[YM,List.cons.injEq] at e;obtain⟨u,y⟩:=e;subst u;simp only[YM] at g;rw[RVs] at g;obtain⟨L,O,z,A,B⟩:=g;cases z;obtain⟨j,n⟩:=map_put r (k:=k) y B;by_cases q:p=k
  ·simp only[YM,if_pos q]
   exact⟨by rw[j],.cons r n⟩
  ·simp only[YM,if_neg q]
   exact⟨by rw[j],.cons A n⟩
theorem FE{K:Za}{k:Key}{d:D}{v:V}{l:ZD}{m:List (Key×V)}(r:RV K H d v)(e:m.map (·.1)=l.map (·.1))(f:RVs K H (l.map (·.2)) (m.map (·.2))):(putK m k v).map (·.1)=(putD l k d).map (·.1)/\RVs K H ((putD l k d).map (·.2)) ((putK m k v).map (·.2)):=by
 unfold putK putD;rw[Bn e k];split
 ·exact map_put r e f
 ·refine⟨by rw[ZN,ZN,e];rfl,?_⟩
  rw[ZN,ZN];exact RVs.of (aX f.p (.cons r .nil))
def dPut(o i d:D)(M:MH)(Q:MH->Prop):Prop:=match o with
 |.ref a=>match M a with
  |some (.lst xs)=>intD i λk=>optD (ixN xs.length k) λj=>Q (updM M a (.lst (xs.set j d)))
  |some (.dic f)=>optD (keyD i) λk=>f.length<sizeLine/\Q (updM M a (.dic (putD f k d)))
  |_=>False
 |_=>False
def pW(X:Cx):TSet:=λo i v H Q=>∀pins s ρ d f u,Inv X pins ρ H s->RelV o d->RelV i f->RelV v u->wpAny 'c' X.A (setItem d f u) (λ_ g=>∃H',Inv X pins ρ H' g/\Q H') X.xe s
theorem p_W:PSet X (pW X):=λpins s σ _ _ _ _ d f u _ I g j k h=>h pins s σ d f u I g j k
theorem DX{o i v:V}{Q d:Hp->Prop}(h:pW X o i v H Q)(g:∀H',Q H'->d H'):pW X o i v H d:=λpins s ρ f j u I k l m=>thn (h pins s ρ f j u I k l m) λ_ _ ⟨H',n,q⟩=>⟨H',n,g H' q⟩
theorem putd(hu:X.A.units+40<cLine){x y d:D}{o i v:V}{M:MH}{Q:MH->Prop}(S:RV X.K H x o)(J:RV X.K H y i)(L:RV X.K H d v)(f:RM X.K M H)(h:dPut x y d M Q):pW X o i v H λH'=>Kp H H'/\∃M',RM X.K M' H'/\Q M':=by
 cases x with
 |ref a=>
  cases RV.ref_.1 S;have h:match M a with
   |some (.lst xs)=>intD y λk=>optD (ixN xs.length k) λj=>Q (updM M a (.lst (xs.set j d)))
   |some (.dic g)=>optD (keyD y) λk=>g.length<sizeLine/\Q (updM M a (.dic (putD g k d)))
   |_=>False:=h
  split at h
  ·rename_i xs n
   obtain⟨k,rfl,h⟩:=rX h;obtain⟨j,r,q⟩:=aH h;cases RV.int_.1 J;obtain⟨us,sq,l⟩:=f _ _ n;have kk:=Kp.put (o':=.lst (us.set j v)) sq trivial;intro pins s ρ O P u I z B C;exact set_list pins s ρ H _ _ _ O P u _ I z B C ⟨a,us,k,j,rfl,rfl,sq,by rw[←l.len];exact r,kk,_,f.put (m:=.lst (xs.set j d)) sq trivial ⟨_,aw,RVs.of (uA (RV.mono kk _ L) j (RVs.mono kk _ l).p)⟩,q⟩
  ·rename_i g n
   obtain⟨k,r,hl,q⟩:=aH h
   have:=xm r J
   subst this;obtain⟨G,sq,R,l⟩:=f _ _ n;have kk:=Kp.put (o':=.dK (putK G k v)) sq trivial;obtain⟨p1,p2⟩:=FE (k:=k) (RV.mono kk _ L) R (RVs.mono kk _ l);have T:G.length<sizeLine:=by have:=congrArg List.length R;simp only[ZG] at this;omega
   intro pins s ρ O P u I z B C;cases z;exact ze 'a' I (.inl ⟨G,k,sq,rfl,T,rfl⟩) B C λW U=>⟨_,U,kk,_,f.put (m:=.dic (putD g k d)) sq trivial ⟨_,aw,p1,p2⟩,q⟩
  ·exact Yh h
 |_=>exact Yh h
theorem sole{tg:Expr}{n:Nat}{env:Env}(h:cA v=true):swapsWithSole [tg] v n env=pure false:=qo h
def qB(f g j:WE):WS:=λE σ M=>f σ M λd M1=>g σ M1 λx M2=>j σ M2 λy k=>dPut x y d k λl=>E.nx σ l
theorem zG{k l m:WE}{p:Pos}(hu:X.A.units+40<cLine)(hv:PEd X v k)(ho:PEd X o l)(hi:PEd X i m)(hc:cA v=true)(C:jG i=true):PSd X (.Assign [.Subscript o i p] v pos) (qB k l m):=by
 intro σ M ρ H E rs G h;refine cV (yS (pe_W v) (EJ (pe_W o) (pe_W i) p_W (by intro w;cases i<;>first | rfl | exact absurd (show false=true from C) YG)) (sole hc) (by cases v<;>rfl) rfl) ?_;show tW X v ρ H _;refine aD (hv σ M ρ H _ rs G h) λu n J=>?_
 obtain⟨f,d,M1,K,L,O⟩:=J;show tW X o ρ n _;refine aD (ho σ M1 ρ n _ (rs.mono f) L O) λw' r P=>?_
 obtain⟨g,x,M2,R,S,T⟩:=P;show tW X i ρ r _;refine aD (hi σ M2 ρ r _ (rs.mono (f.trans g)) S T) λz H3 U=>?_
 obtain⟨j,y,M3,V,W,Y⟩:=U;refine DX (putd hu (RV.mono j x R) V (RV.mono (g.trans j) d K) W Y) λH4 Z=>?_
 obtain⟨B,M4,m4,q4⟩:=Z;exact⟨f.trans (g.trans (j.trans B)),σ,M4,rs.mono (f.trans (g.trans (j.trans B))),m4,q4⟩
abbrev WP:=DS->MH->(List (D×D)->MH->Prop)->Prop
def wPs:List (WE×WE)->WP
 |[],_,M,Q=>Q [] M
 |(tk,d)::r,σ,M,Q=>tk σ M λx M1=>d σ M1 λy M2=>wPs r σ M2 λps f=>Q ((x,y)::ps) f
inductive PPd (X:Cx):List (Option Expr)->List Expr->List (WE×WE)->Prop where
 |nil:PPd X [] [] []
 |cons {k v:Expr}{ks:List (Option Expr)}{vs:Zg}{tk tv:WE}{r:List (WE×WE)}:PEd X k tk->PEd X v tv->PPd X ks vs r->PPd X (some k::ks) (v::vs) ((tk,tv)::r)
def Cs:List (D×D)->Option (List (Key×D))
 |[]=>some []
 |(k,d)::r=>(keyD k).bind λq=>(Cs r).map ((q,d) :: ·)
def FF(f:ZD)(more:ZD):List (Key×D):=more.foldl (λh_ d=>putD h_ d.1 d.2) f
def Ct(ts:List (WE×WE)):WE:=λσ M Q=>∀p,M p=none->wPs ts σ (updM M p (.dic [])) λds M2=>match M2 p with
 |some (.dic [])=>optD (Cs ds) λd=>Q (.ref p) (updM M2 p (.dic (FF [] d)))
 |_=>False
theorem Bo:PEd X (.Dict [] [] pos) (λ_ M Q=>∀p,M p=none->Q (.ref p) (updM M p (.dic []))):=by
 intro σ M ρ H Q rs d q;refine bj AZ ?_;intro p hp;exact⟨Kp.new hp,.ref p,_,RV.ref_.2 rfl,d.new (m:=.dic []) hp ⟨[],aw,rfl,.nil⟩,q p (d.fresh hp)⟩
end
abbrev OK0:=Addr->Str->Prop
theorem hZ{K:Za}{H:Hp}{f:Str}:∀{fs:List (Str×D)}{a:List (Str×V)},a.map (·.1)=fs.map (·.1)->RVs K H (fs.map (·.2)) (a.map (·.2)) ->
  (fs.lookup f=none->a.lookup f=none)/\∀d,fs.lookup f=some d->∃v,a.lookup f=some v/\RV K H d v
 |[],[],_,_=>⟨λ_=>rfl,λ_ h=>nomatch h⟩
 |[],_::_,e,_=>by cases e
 |_::_,[],e,_=>by cases e
 |(n,o)::fs,(b,c)::a,e,r=>by
  simp only[YM,List.cons.injEq] at e;obtain⟨g,j⟩:=e;subst g;simp only[YM] at r;rw[RVs] at r;obtain⟨v,vs,z,k,l⟩:=r;cases z;obtain⟨m,h2⟩:=hZ (f:=f) j l;cases q:f==b with
  |true=>simp only[XN,q];exact⟨(λz=>nomatch z),λd z=>by cases z;exact⟨c,rfl,k⟩⟩
  |false=>simp only[XN,q];exact⟨m,h2⟩
def dZ(f:Str)(v:D):List (Str×D)->List (Str×D)
 |[]=>[(f,v)]
 |(g,x)::r=>if g=f then(g,v)::r else(g,x)::dZ f v r
theorem xw{K:Za}{H:Hp}{f:Str}{d:D}{v:V}(b:RV K H d v):∀{fs:List (Str×D)}{a:List (Str×V)},a.map (·.1)=fs.map (·.1)->RVs K H (fs.map (·.2)) (a.map (·.2)) ->
  (putF f v a).map (·.1)=(dZ f d fs).map (·.1)/\RVs K H ((dZ f d fs).map (·.2)) ((putF f v a).map (·.2))
 |[],[],_,_=>⟨rfl,.cons b .nil⟩
 |[],_::_,e,_=>by cases e
 |_::_,[],e,_=>by cases e
 |(n,o)::fs,(j,p)::a,e,r=>by
  simp only[YM,List.cons.injEq] at e;obtain⟨k,c⟩:=e;subst k;simp only[YM] at r;rw[RVs] at r;obtain⟨u,vs,z,l,g⟩:=r;cases z;obtain⟨m,h2⟩:=xw (f:=f) b c g;unfold putF dZ;by_cases q:j=f
  ·rw[if_pos q,if_pos q];exact⟨by simp only[YM,c],.cons b g⟩
  ·rw[if_neg q,if_neg q];exact⟨by simp only[YM,m],.cons l h2⟩
section
variable {X:Cx}{H:Hp}{e a b c o i v:Expr}{es:Zg}{pos:Pos}
def fldD(O:OK0)(x:D)(f:Str)(M:MH)(Q:D->Prop):Prop:=match x with
 |.ref a=>match M a with
  |some (.ins C fs)=>O C f/\optD (fs.lookup f) Q
  |_=>False
 |_=>False
def wFld(O:OK0)(f:Str)(t:WE):WE:=λσ M Q=>t σ M λx M1=>fldD O x f M1 λd=>Q d M1
theorem DY{O:OK0}{f:Str}{t:WE}(j:∀C f,O C f->Cls X.K C/\cg X.K C f)(h:PEd X o t)(hb:bn o=true):PEd X (.Attribute o f pos) (wFld O f t):=by
 intro σ M ρ H Q rs l q;refine bj (E1 (pe_W o) (og hb)) ?_;show tW X o ρ H _;refine aD (h σ M ρ H _ rs l q) λv P m=>?_
 obtain⟨n,x,M1,p,k,g⟩:=m;unfold fldD at g;try dsimp only at g
 split at g
 ·rename_i a
  split at g
  ·rename_i C fs r
   obtain⟨d,u,y⟩:=aH g.2;cases RV.ref_.1 p;obtain⟨dx,z,sq,A,B⟩:=k _ _ r;obtain⟨G,J,L⟩:=(hZ A B).2 d u;exact⟨a,C,dx,z,G,rfl,sq,(j C f g.1).1,(j C f g.1).2,J,n,d,M1,L,k,y⟩
  ·exact Yh g
 ·exact Yh g
def uh(O:OK0)(x:D)(f:Str)(d:D)(M:MH)(Q:MH->Prop):Prop:=match x with
 |.ref a=>match M a with
  |some (.ins C fs)=>(O C f/\fs.length<1000)/\Q (updM M a (.ins C (dZ f d fs)))
  |_=>False
 |_=>False
def ui(O:OK0)(f:Str)(g j:WE):WS:=λE σ M=>j σ M λd M1=>g σ M1 λx M2=>uh O x f d M2 λk=>E.nx σ k
theorem Bp{O:OK0}{f:Str}{n r:WE}{p:Pos}(y:∀C f,O C f->Cls X.K C/\cg X.K C f)(ho:PEd X o n)(hv:PEd X v r):PSd X (.Assign [.Attribute o f p] v pos) (ui O f n r):=by
 intro σ M ρ H E rs G q;refine cV (E2 (pe_W o) (pe_W v) (by cases v<;>rfl)) ?_;show tW X v ρ H _;refine aD (hv σ M ρ H _ rs G q) λu z J=>?_
 obtain⟨j,d,M1,L,P,R⟩:=J;show tW X o ρ z _;refine aD (ho σ M1 ρ z _ (rs.mono j) P R) λW Y S=>?_
 obtain⟨k,x,M2,T,A,g⟩:=S;unfold uh at g;dsimp only at g;split at g
 ·rename_i a
  split at g
  ·rename_i C fs U
   cases RV.ref_.1 T;obtain⟨dx,l,sq,B,V⟩:=A _ _ U;have kk:=Kp.put (o':=.ins C dx (putF f u l)) sq trivial;obtain⟨p1,p2⟩:=xw (f:=f) (RV.mono (k.trans kk) d L) B (RVs.mono kk _ V);have hl:l.length<1000:=by have:=congrArg List.length B;simp only[ZG] at this;omega
   exact⟨a,C,dx,l,rfl,sq,(y C f g.1.1).1,(y C f g.1.1).2,hl,j.trans (k.trans kk),σ,_,rs.mono (j.trans (k.trans kk)),A.put (m:=.ins C (dZ f d fs)) sq trivial ⟨dx,_,aw,p1,p2⟩,g.2⟩
  ·exact Yh g
 ·exact Yh g
def a8(C:Addr)(sp:SpD):SpD:=λds M Q=>∀x,M x=none->sp (.ref x::ds) (updM M x (.ins C [])) λd M2=>qv d=true/\Q (.ref x) M2
def MkD(P:Zw)(w:World)(K:Za)(mg:Ze)(base:Heap)(k:Nat)(x:Str)(sp:SpD):Prop:=
 ∃C f fd ps d,Mk K C f/\mg x=some (.ref C)/\Binds K fd ps []/\FnOk P w K mg base CX0 k f fd ps (fE K d)/\sp=a8 C d
theorem Bq{k:Nat}{x:Str}{sp:SpD}{t:WA}{p:Pos}(F:MkD X.prog X.w X.K X.mg X.base k x sp)(r:Room (k+1) X.A)(hg:Gl X x)(u:(x==("__debug__" : Str))=false)(y:ao e=true)(B:es.all ao=true)(ha:PAd X (e::es) t):
  PEd X (.Call (.Name x p) (e::es) [] pos) (fF sp t):=by
 obtain⟨C,f,fd,ps,N7,M0,hm,hb,G,rfl⟩:=F;intro σ M ρ H Q rs J q;refine bj (C2 M0 G r hg hm hb .nil tU (pa_W (e::es)) u (aM y) (ck B)) ?_;show tWA X (e::es) ρ H _;refine ca (ha σ M ρ H _ rs J q) λvs L O=>?_
 obtain⟨P,ds,M1,R,l1,g,S⟩:=O;intro z dx hz j T;have U:=Kp.new (o:=.own z) j;have l:(upd L dx (.own z)) z=none:=by rw[aB T.symm];exact hz
 have V:=Kp.new (o:=.ins C dx []) l;have kk:=U.trans V;rw[ZA];refine⟨.ref z::ds,updM M1 z (.ins C []),_,.cons (RV.ref_.2 rfl) (RVs.mono kk _ R),(g.newH j).new (m:=.ins C []) l ⟨dx,[],aw,rfl,.nil⟩,S z (g.fresh hz),λd M' v H' n W Y Z=>⟨?_,P.trans (kk.trans W),.ref z,M',RV.ref_.2 rfl,Z,n.2⟩⟩
 have:=pk Y
 rw[n.1] at this;exact XS this
abbrev MT0:=Addr->Str->Option SpD
def bo(P:Zw)(w:World)(K:Za)(mg:Ze)(base:Heap)(k:Nat)(C:Addr)(m:Str)(sp:SpD):Prop:=
 ∃f fd ps,Cls K C/\Meth K C m f/\Binds K fd ps []/\FnOk P w K mg base CX0 k f fd ps (fE K sp)
def ye(X:Cx)(T:MT0):Prop:=∀C m sp,T C m=some sp->∃k,bo X.prog X.w X.K X.mg X.base k C m sp/\Room k X.A
def qC(x:D)(m:Str)(M:MH)(Q:Addr->Prop):Prop:=match x with
 |.ref a=>match M a with
  |some (.ins C fs)=>fs.lookup m=none/\Q C
  |_=>False
 |_=>False
def oj(T:MT0)(m:Str)(d:WE)(t:WA):WE:=λσ M Q=>d σ M λx M1=>qC x m M1 λC=>optD (T C m) λsp=>t σ M1 λds M2=>sp (x::ds) M2 Q
theorem FG{env:Env}{p:Pos}(h:es.all ao=true)(hl:es.length<20):methodCallForm (es.length+([]:List Keyword).length) (backTo p (starEach es env)) (backToKw p (keywordEach [] env))=true:=by
 unfold methodCallForm;rw[pv h];show(true&&true&&decide (es.length+0+0<30))=true;rw[Bool.and_self,Bool.true_and];exact YX 'a'
theorem Cu {env:Env} {m:Str} {s_:Pos} (hb:bn o = true) (h:es.all ao = true) (hl:es.length < 20) (g:(s_.endLine == pos.line) = true):eval (.Call (.Attribute o m s_) es [] pos) env = (do
   let d ← eval o env
   standAt s_.atName
   let (f,first) ← holding [d] (getMethod d m (do return (← importBound o env).getD true))
   callWith pos f first (backTo pos (starEach es env)) (backToKw pos (keywordEach [] env))):=by
 rw [arm_eval_Call,og hb]
 unfold methodCall calleeOf methodCallPos
 rw [FG h hl]
 simp [g]
theorem Br{T:MT0}{m:Str}{l:WE}{t:WA}{s_:Pos}(G:ye X T)(ho:PEd X o l)(ha:PAd X (e::es) t)(hb:bn o=true)(n:ao e=true)(p:es.all ao=true)(hl:es.length<19)(J:(s_.endLine==pos.line)=true):
  PEd X (.Call (.Attribute o m s_) (e::es) [] pos) (oj T m l t):=by
 intro σ M ρ H Q rs K h pins s I;have L:(e::es).all ao=true:=by rw[XT,n,p];rfl
 refine PySem.W.methodCall_KW (thn (ho σ M ρ H _ rs K h pins s I) λu s1 O=>?_) (Cu hb L (by rw[YK];omega) J);obtain⟨v,P,y,j,⟨z,x,M1,R,A,g⟩⟩:=O;unfold qC at g;dsimp only at g;split at g
 ·rename_i a
  split at g
  ·rename_i C fs S
   obtain⟨hn,g⟩:=g;obtain⟨sp,U,g⟩:=aH g;cases RV.ref_.1 R;obtain rfl:u=Value.ref a:=j;obtain⟨dx,gs,sq,V,Y⟩:=A _ _ S;obtain⟨k,⟨f,fd,ps,c,hm,Z,F⟩,hr⟩:=G C m sp U
   ·refine pY y sq c hm ((hZ V Y).1 hn) ?_
    refine PySem.W.callWith_K (first:=[.ref a]) (h₀:=X.base) I.ok.mod.kin hm.kp (thn (ha σ M1 ρ P _ (rs.mono z) A g pos pins s1 y) λus s2 Jr=>?_) (aM n) (ck p);obtain⟨vs,H2,B,r,⟨k2,ds,M2,r2,l2,m2,q2⟩⟩:=Jr;refine⟨B.kIn,?_⟩;refine ut (us:=.ref a::us) (vs:=.ref a::vs) F hr Z .nil tU B (.cons rfl r) ?_;rw[ZA];exact⟨.ref a::ds,M2,Q,.cons (RV.ref_.2 rfl) r2,m2,q2,λd M' v H' qd kq j mm=>⟨z.trans (k2.trans kq),d,M',j,mm,qd⟩⟩
  ·exact Yh g
 ·exact Yh g
theorem zH{T:MT0}{m:Str}{n:WE}{s_:Pos}(r:ye X T)(ho:PEd X o n)(hb:bn o=true)(y:(s_.endLine==pos.line)=true):
  PEd X (.Call (.Attribute o m s_) [] [] pos) (oj T m n wNil):=by
 intro σ M ρ H Q rs z h pins s I;refine PySem.W.methodCall_KW (thn (ho σ M ρ H _ rs z h pins s I) λu s1 A=>?_) (Cu hb rfl 'b' y);obtain⟨v,Y,j,l,⟨B,x,M1,G,p,g⟩⟩:=A;unfold qC at g;dsimp only at g;split at g
 ·rename_i a
  split at g
  ·rename_i C fs J
   obtain⟨hn,g⟩:=g;obtain⟨sp,K,g⟩:=aH g;cases RV.ref_.1 G;obtain rfl:u=Value.ref a:=l;obtain⟨dx,Z,sq,L,O⟩:=p _ _ J;obtain⟨k,⟨f,fd,ps,c,hm,P,F⟩,R⟩:=r C m sp K;refine pY j sq c hm ((hZ L O).1 hn) ?_;refine PySem.W.callWith_K0 (first:=[.ref a]) j.kIn hm.kp (ut (us:=[.ref a]) (vs:=[.ref a]) F R P .nil tU j (.cons rfl .nil) ?_);exact⟨[.ref a],M1,Q,.cons (RV.ref_.2 rfl) .nil,p,g,λd M' v H' S U l V=>⟨B.trans U,d,M',l,V,S⟩⟩
  ·exact Yh g
 ·exact Yh g
end
end DD
namespace DD
open PySem PyProof.Rows L2
section
variable {K:Type}[DecidableEq K]
def addK(l:List K)(k:K):List K:=if k∈l then l else l++[k]
def aO(ks:List K):List K:=ks.foldl addK []
theorem qD(ks:List K)(k:K):aO (ks++[k])=addK (aO ks) k:=by unfold aO;rw[List.foldl_append];rfl
theorem uW(l:List K)(k:K):(addK l k).length=if decide (k∈l) then l.length else l.length+1:=by
 unfold addK;by_cases h:k∈l
 ·rw[if_pos h,if_pos (YX h)]
 ·rw[if_neg h,if_neg (by simpa using h)];simp
theorem Bs(l:List K)(k j:K):decide (j∈addK l k)=(decide (j∈l)||decide (j=k)):=by
 unfold addK;by_cases h:k∈l
 ·rw[if_pos h]
  by_cases e:j=k
  ·subst e;simp[h]
  ·simp[e]
 ·rw[if_neg h];simp
theorem mD:∀(ks l:List K),(ks.foldl addK l).length<=l.length+ks.length
 |[],l=>by simp
 |k::ks,l=>by
  have a:=mD ks (addK l k);have h2:(addK l k).length<=l.length+1:=by rw[uW];split<;>omega
  simp only[List.foldl_cons,YK];omega
theorem Bt(ks:List K):(aO ks).length<=ks.length:=by have:=mD ks [];simpa [aO] using this
end
section
variable {prog:Zw}{w:World}{A:Around}{R:Result->Shared->Prop}{K:Type}[DecidableEq K]{knd:KeyKind prog w K}
theorem uX{h:Heap}{a:Addr}{S S':K->Bool}{n n':Nat}(q:h.SetOf knd a S n)(e:∀k,S k=S' k)(b:n=n'):h.SetOf knd a S' n':=by
 obtain rfl:S=S':=funext e;subst b;exact q
theorem qE{h h':Heap}{a:Addr}{S:K->Bool}{n:Nat}(q:h.SetOf knd a S n)(k:∀o,h.get? a=some o->h'.get? a=some o):h'.SetOf knd a S n:=by
 obtain⟨o,es,b,t,y,r⟩:=q;exact⟨o,es,b,t,k o y,r⟩
theorem Bu{I:Addr}{fp wr:Zh}{G:Array GenState->Array GenState->Prop}{n:Nat}{P:Nat->Value->Prop}{St:Nat->Shared->Prop}(W:WalksS prog w A.in1 I fp wr G n P St){B:Addr}(f:B∉fp){ks:List K}
  (hn:ks.length=n) (hv:∀i v,P i v->∀k,ks[i]?=some k->knd.is k v=true/\v.scannable=true) (hb:n+1<scanBound):
  ∀(j i:Nat) (t:Shared),n-i=j->i<=n->St i t->t.heap.SetOf knd B (λk=>decide (k∈aO (ks.take i))) (aO (ks.take i)).length ->
   (∀t',Moved (B::wr) G t t'->t'.heap.SetOf knd B (λk=>decide (k∈aO ks)) (aO ks).length->R (.ok (.ret .none)) t') ->
   codeAny 'e' A (.builtin "set.update.loop" ⟨[.ref B,.ref I],[]⟩) R t:=by
 have hw:B∉wr:=λh=>f (W.sub _ h)
 have g:∀b∈wr,b∈B::wr:=λb y=>.tail _ y
 intro j;induction j with
 |zero=>
  intro i t e hi st q d;obtain rfl:i=n:=by omega
  refine codeAny_builtin F.entry_set_update_loop ?_;rw[Around.under_plainId F.plain_set_update_loop _];refine Yb (show wpAny _ A.in1 (pyNext (.ref I)) _ _ t from W.done t _ _ st λt' a=>?_);refine show wpAny _ A.in1 (ret Value.none) _ _ t' from Yc (d t' (a.mono g) ?_);rw[List.take_of_length_le (Nat.le_of_eq hn)] at q;exact qE q λo y=>a.heap B _ hw y
 |succ j m=>
  intro i t e hi st q d;have lt:i<n:=by omega
  refine codeAny_builtin F.entry_set_update_loop ?_;rw[Around.under_plainId F.plain_set_update_loop _];refine Yb (show wpAny _ A.in1 (pyNext (.ref I)) _ _ t from W.item i t _ _ lt st λv t' p f_ a=>?_);obtain⟨k,hk⟩:∃k,ks[i]?=some k:=⟨_,ZE 'a'⟩;obtain⟨is,sc⟩:=hv i v p k hk;have r:=qE (h':=t'.heap) q λo y=>a.heap B _ hw y
  refine Yb (show wpAny _ A.in1 (holding [v] (setAdd B v)) _ _ t' from Yj ?_);unfold setAdd;refine Yj (Yb (knd.pyHash is ?_));have c:(aO (ks.take i)).length+1<scanBound:=by have:=Bt (ks.take i);rw[YU] at this;omega
  have tk:ks.take (i+1)=ks.take i++[k]:=by rw[List.take_add_one,hk];rfl
  refine wpAny_setAddHashed_of (knd:=knd) (s:={ t' with toks:=t'.toks+1 }) is sc r c λh' l u=>?_
  have C:=uX (S':=λk'=>decide (k'∈aO (ks.take (i+1)))) (n':=(aO (ks.take (i+1))).length) u (λk'=>by rw[tk,qD,Bs]) (by rw[tk,qD,uW]);refine Yc ⟨plainId_quiet F.plain_set_update_loop _,m (i+1) _ 'a' lt (W.frame _ t' _ _ f_ (YQ _) λb y o e=>?_) C λJ L O=>?_⟩
  ·rw[l.2 b (λz:b=B=>f (z▸y))];exact e
  ·refine d J (Moved.trans W.gtrans ((a.mono g).then_heap (YQ _) λb o y e=>?_) L) O
   rw[l.2 b (λz:b=B=>y (z▸YA))];exact e
end
end DD
set_option maxHeartbeats 8000000
namespace DD
open PySem PyProof.Rows L2
section
variable {prog:Zw}{w:World}{A:Around}{Z:Zb}{s:Shared}{K:Type}[DecidableEq K]{knd:KeyKind prog w K}
def cY(led:Bool):Obj:={ cls:=.type "set",dict:=none,data:=.set #[] 0 (.fresh 0 0 led) }
theorem sU{T I:String}{l:Addr}{b_:Zl}{ks:List K}{Q:Zb}{od:Zm}{m:Nat}{GX:Zn}(C:A.handled=none)(n:s.heap.get? l=some { cls:=.type T,dict:=od,data:=.seq b_ m,slots:=GX })(s1:isSubtype (.type T) (.type "set")=pure false)(s2:isSubtype (.type T) (.type "frozenset")=pure false)(s3:(Value.type T==Value.type "dict")=false)
  (G:∀{A:Around} {E:Zb} {t:Shared} {Q:Zb},t.heap.get? l=some { cls:=.type T,dict:=od,data:=.seq b_ m,slots:=GX }->Q (.ref t.heap.objs.size) { t with heap:=t.heap.push { cls:=.type I,data:=.fields #[.ref l,.int 0 0] } }->wpAny 'e' A (pyIter (.ref l)) Q E t)
  (L:∀J,l≠J->∃St:Nat->Heap->Prop,(∀{A:Around},A.handled=none->Walks prog w A J [J,l] [J] b_.size (λi v=>b_[i]?=some v) St)/\∀h:Heap,h.get? J=some { cls:=.type I,data:=.fields #[.ref l,.int 0 0] }->h.get? l=some { cls:=.type T,dict:=od,data:=.seq b_ m,slots:=GX }->St 0 h)
  (hn:ks.length=b_.size)
  (hv:∀(i:Nat) (v:Value),b_[i]?=some v->∀k,ks[i]?=some k->knd.is k v=true/\v.scannable=true) (hb:b_.size+1<scanBound)
  (q:∀(h':Heap) (tk:Nat),h'.SetOf knd s.heap.objs.size (λk=>decide (k∈aO ks)) (aO ks).length ->
   (∀b o,b<s.heap.objs.size->s.heap.get? b=some o->h'.get? b=some o)->Q (.ref s.heap.objs.size) { s with heap:=h',toks:=tk }):
  wpAny 'e' A (call (.type "set") [.ref l]) Q Z s:=by
 obtain⟨c,tl,RC⟩:=F.called_set.mro;have P7:=F.called_set.made;have N9:=F.called_set.sub;have n1:=F.called_set.notType;have n2:=F.called_set.canCreate;have n3:=F.typeCall_set_1 (.ref l);refine wpAny_call (codeAny_of_tree (show wpAny _ _ (callAny (.type "set") _) _ _ _ from Yc ⟨Code.quiet_builtin _ (by rfl'),codeAny_builtin F.entry_type_call ?_⟩));rw[Around.under_plain (weight_type_call_type "set" [.ref l] []) rfl];repeat (any_goals (first | assumption | wp_step))
 refine codeAny_mono (code_set_new_1 (.ref l) (E:=Z) (Q₁:=λo t=>∃led:Bool,o=.ref s.heap.objs.size/\t={ s with heap:=s.heap.push (cY led) }) λled=>⟨led,rfl,rfl⟩) λr t d=>?_
 cases r with
 |error e=>exact d
 |ok fl=>
  cases fl with
  |ret o=>
   obtain⟨led,rfl,rfl⟩:=d;have p:(s.heap.push (cY led)).get? s.heap.objs.size=some (cY led):=Yg _ rfl;have ty:Shared.TypeIs { s with heap:=s.heap.push (cY led) } (.ref s.heap.objs.size) "set":=⟨_,p,rfl⟩;have l1:=F.called_set.init.lookup;have l2:=F.called_set.init.bind (.ref s.heap.objs.size);repeat (any_goals (first | assumption | wp_step))
   refine codeAny_mono (codeAny_call_builtin (R:=wants (λr u=>r=.none/\∃h' tk,u={ s with heap:=h',toks:=tk }/\h'.SetOf knd s.heap.objs.size (λk=>decide (k∈aO ks)) (aO ks).length /\
     (∀b o,b<s.heap.objs.size->s.heap.get? b=some o->h'.get? b=some o)) Z) F.called_set.init.plain F.entry_set_init (check_set_init_1 ty ?_)) λO u f=>?_
   ·have z:(s.heap.push (cY led)).get? l=some { cls:=.type T,dict:=od,data:=.seq b_ m,slots:=GX }:=Yd _ n
    unfold Builtin.«set.__init__» noKeywords Builtin.Frozenset.updateFrom;generalize hPI:pyIter=PI;wp_walk;subst hPI;refine G z (Yb (wpAny_runValue ?_));have g:(s.heap.push (cY led)).objs.size=s.heap.objs.size+1:=Heap.size_push ..;have B:l<s.heap.objs.size:=Ye n;have P:l≠(s.heap.push (cY led)).objs.size:=by rw[g];exact ZW (XO B)
    have S:s.heap.objs.size∉[(s.heap.push (cY led)).objs.size,l]:=by
     rw[g];intro y;rcases YC.1 y with y | y
     ·exact absurd y (ZW (YN _))
     ·exact absurd (XR.1 y) (Nat.ne_of_gt B)
    obtain⟨St,W,U⟩:=L _ P;refine Bu ((W (by simp[C])).toS) (knd:=knd) (ks:=ks) S hn hv hb (b_.size-0) 0 _ 'a' (YO _) (U _ (Yg _ rfl) (Yd _ z)) ?_ ?_
    ·have:=(setObjOf_fresh (knd:=knd) led).setOf (Yd ({ cls:=.type I,data:=.fields #[.ref l,.int 0 0] }:Obj) p) (by unfold scanBound;omega)
     exact uX this (λk=>by simp[aO]) (by simp[aO])
    ·intro t' a j
     obtain⟨h',g',d',V,Y⟩:=t';obtain rfl:g'=s.gens:=a.gens;obtain rfl:d'=s.drawn:=a.drawn;obtain rfl:Y=s.os:=a.os;refine Yc (show wpAny _ _ (ret Value.none) _ _ _ from Yc ⟨rfl,h',V,rfl,j,λb o lt e=>a.heap b o ?_ (Yd _ (Yd _ e))⟩);rw[g];intro y;rcases YC.1 y with y | y
     ·exact ZW lt y
     ·exact ZW (XO lt) (XR.1 y)
   ·cases O with
    |error e=>exact f
    |ok RD=>
     cases RD with
     |ret r=>
      obtain⟨rfl,h',tk,rfl,j,k'⟩:=f;repeat (any_goals (first | assumption | wp_step))
      exact q _ _ j k'
     |_=>exact f.elim
  |_=>exact d.elim
theorem zI{l:Addr}{b_:Zl}{ks:List K}{Q:Zb}(c:A.handled=none)(hl:s.heap.IsList l b_)(hn:ks.length=b_.size)
  (hv:∀(i:Nat) (v:Value),b_[i]?=some v->∀k,ks[i]?=some k->knd.is k v=true/\v.scannable=true) (hb:b_.size+1<scanBound)
  (q:∀(h':Heap) (tk:Nat),h'.SetOf knd s.heap.objs.size (λk=>decide (k∈aO ks)) (aO ks).length ->
   (∀b o,b<s.heap.objs.size->s.heap.get? b=some o->h'.get? b=some o)->Q (.ref s.heap.objs.size) { s with heap:=h',toks:=tk }):
  wpAny 'e' A (call (.type "set") [.ref l]) Q Z s:=by
 obtain⟨⟨oc,od,d,GX⟩,f,j,m,n⟩:=hl;obtain rfl:oc=.type "list":=j;obtain rfl:d=.seq b_ m:=n;exact sU (I:="list_iterator") c f F.sub_list_set F.sub_list_frozenset 'b' (λg=>wpAny_pyIter_list ⟨_,g,rfl,_,rfl⟩) (λJ p=>⟨_,λh=>Walks.list h J l p b_,λh' a b=>⟨⟨_,a,rfl,rfl⟩,⟨_,b,rfl,_,rfl⟩⟩⟩) hn hv hb q
theorem yf{l:Addr}{b_:Zl}{ks:List K}{Q:Zb}(c:A.handled=none)(hl:s.heap.IsTuple l b_)(hn:ks.length=b_.size)
  (hv:∀(i:Nat) (v:Value),b_[i]?=some v->∀k,ks[i]?=some k->knd.is k v=true/\v.scannable=true) (hb:b_.size+1<scanBound)
  (q:∀(h':Heap) (tk:Nat),h'.SetOf knd s.heap.objs.size (λk=>decide (k∈aO ks)) (aO ks).length ->
   (∀b o,b<s.heap.objs.size->s.heap.get? b=some o->h'.get? b=some o)->Q (.ref s.heap.objs.size) { s with heap:=h',toks:=tk }):
  wpAny 'e' A (call (.type "set") [.ref l]) Q Z s:=by
 obtain⟨⟨oc,od,d,GX⟩,f,j,m,n⟩:=hl;obtain rfl:oc=.type "tuple":=j;obtain rfl:d=.seq b_ m:=n;exact sU (I:="tuple_iterator") c f F.sub_tuple_set F.sub_tuple_frozenset 'b' (λg=>wpAny_pyIter_tuple ⟨_,g,rfl,_,rfl⟩) (λJ p=>⟨_,λh=>Walks.tuple h J l p b_,λh' a b=>⟨⟨_,a,rfl,rfl⟩,⟨_,b,rfl,_,rfl⟩⟩⟩) hn hv hb q
end
end DD
namespace DD
open PySem PySem.Spec PyProof.Rows L2
def lW:List D->Option (List Str)
 |[]=>some []
 |.str x::r=>(lW r).map (x :: ·)
 |_=>none
def ic:List D->Option (List Int)
 |[]=>some []
 |.int x::r=>(ic r).map (x :: ·)
 |_=>none
theorem uY{K:Za}{H:Hp}:∀{ds:List D}{ks:Zf}{vs:List V},lW ds=some ks->RVs K H ds vs->vs=ks.map V.str
 |[],ks,vs,h,r=>by
  rw[lW] at h;cases h;rw[RVs] at r;subst r;rfl
 |.str x::ds,ks,vs,h,r=>by
  rw[lW] at h;rw[RVs] at r;obtain⟨v,c,rfl,a,b⟩:=r;cases q:lW ds with
  |none=>rw[q] at h;cases h
  |some d=>
   rw[q] at h;cases h;rw[uY q b,RV.str_.1 a];rfl
 |.non::_,_,_,h,_=>by cases h
 |.bl _::_,_,_,h,_=>by cases h
 |.int _::_,_,_,h,_=>by cases h
 |.tup _::_,_,_,h,_=>by cases h
 |.ref _::_,_,_,h,_=>by cases h
 |.ty _::_,_,_,h,_=>by cases h
theorem pA{K:Za}{H:Hp}:∀{ds:List D}{ks:Zi}{vs:List V},ic ds=some ks->RVs K H ds vs->vs=ks.map V.int
 |[],ks,vs,h,r=>by
  rw[ic] at h;cases h;rw[RVs] at r;subst r;rfl
 |.int x::ds,ks,vs,h,r=>by
  rw[ic] at h;rw[RVs] at r;obtain⟨v,c,rfl,a,b⟩:=r;cases q:ic ds with
  |none=>rw[q] at h;cases h
  |some d=>
   rw[q] at h;cases h;rw[pA q b,RV.int_.1 a];rfl
 |.non::_,_,_,h,_=>by cases h
 |.bl _::_,_,_,h,_=>by cases h
 |.str _::_,_,_,h,_=>by cases h
 |.tup _::_,_,_,h,_=>by cases h
 |.ref _::_,_,_,h,_=>by cases h
 |.ty _::_,_,_,h,_=>by cases h
def lX(xs:List D)(Q:Int->Prop):Prop:=xs.length<4000/\match lW xs with
 |some ks=>Q ((aO ks).length:Nat)
 |none=>match ic xs with
  |some ks=>Q ((aO ks).length:Nat)
  |none=>False
def lstD(d:D)(M:MH)(Q:List D->Prop):Prop:=match d with
 |.ref a=>match M a with
  |some (.lst xs)=>Q xs
  |some (.rol xs)=>Q xs
  |_=>False
 |_=>False
def seqL(d:D)(M:MH)(Q:List D->Prop):Prop:=match d with
 |.tup xs=>Q xs
 |d=>lstD d M Q
def lm(t:WE):WE:=λσ M Q=>t σ M λd M1=>seqL d M1 λxs=>lX xs λn=>Q (.int n) M1
section
variable {X:Cx}{H:Hp}{pos:Pos}
theorem DZ{K:Za}{d:D}{M:MH}{Q:List D->Prop}{v:V}(q:lstD d M Q)(f:RV K H d v)(g:RM K M H):∃a xs vs,v=.ref a/\SqL K H a vs/\RVs K H xs vs/\Q xs:=by
 unfold lstD at q;split at q
 ·rename_i a
  split at q
  ·rename_i xs e
   obtain⟨ys,b,c⟩:=g a _ e;exact⟨a,xs,ys,RV.ref_.1 f,SqL.of b,c,q⟩
  ·rename_i xs e
   obtain⟨ys,b,c⟩:=g a _ e;exact⟨a,xs,ys,RV.ref_.1 f,.inl b,c,q⟩
  ·exact Yh q
 ·exact Yh q
theorem zJ{pins:Zc}{ρ:L2.St}{s:Shared}{a:Addr}{xs:List D}{vs:List V}{Q:Int->Prop}{Z:Zb}{R:Zb}(hc:X.calm=true)(I:Inv X pins ρ H s)(hq:SqL X.K H a vs\/SqT X.K H a vs)(f:RVs X.K H xs vs)(q:lX xs Q)
  (g:∀n tk h' m,Q n->Inv X pins ρ H { s with heap:=h',toks:=m }->R (.int n tk) { s with heap:=h',toks:=m }):
  wpAny 'c' X.A (call (.type "set") [.ref a]) (λu s1=>wpAny 'c' X.A (call (.builtin "len") [u]) R Z s1) Z s:=by
 have ht:∃c_,Vals vs c_/\(s.heap.IsList a c_.toArray\/s.heap.IsTuple a c_.toArray):=by
  rcases hq with hq | hq
  ·obtain⟨c_,c,p,_⟩:=I.list hq
   exact⟨c_,c,.inl p.isList⟩
  ·obtain⟨c_,c,p,_⟩:=I.tuple hq
   exact⟨c_,c,.inr p⟩
 obtain⟨c_,c,p⟩:=ht;have U:xs.length=c_.length:=by rw[f.len,c.length]
 have r:∀{K:Type}[DecidableEq K] {knd:KeyKind X.prog X.w K}{ks:List K}{j:Zb},ks.length=c_.toArray.size->(∀(i:Nat) (v:Value),c_.toArray[i]?=some v->∀k,ks[i]?=some k->knd.is k v=true/\v.scannable=true)->c_.toArray.size+1<scanBound ->
   (∀(h':Heap) (tk:Nat),h'.SetOf knd s.heap.objs.size (λk=>decide (k∈aO ks)) (aO ks).length->(∀b o,b<s.heap.objs.size->s.heap.get? b=some o->h'.get? b=some o)->j (.ref s.heap.objs.size) { s with heap:=h',toks:=tk }) ->
   wpAny 'c' X.A (call (.type "set") [.ref a]) j Z s:=by
  intro K _ knd ks j y z B C;rcases p with p | p
  ·exact zI (I.ok.hd hc) p y z B C
  ·exact yf (I.ok.hd hc) p y z B C
 unfold lX at q;obtain⟨hl,q⟩:=q;have fin:∀{K:Type}[DecidableEq K] {knd:KeyKind X.prog X.w K}{ks:List K}(h':Heap) (tk:Nat),h'.SetOf knd s.heap.objs.size (λk=>decide (k∈aO ks)) (aO ks).length->Q ((aO ks).length:Nat) ->
   (∀b o,b<s.heap.objs.size->s.heap.get? b=some o->h'.get? b=some o)->wpAny 'c' X.A (call (.builtin "len") [.ref s.heap.objs.size]) R Z { s with heap:=h',toks:=tk }:=by
  intro K _ knd ks h' tk st G kp;obtain⟨o,es,W,t,J,L,O,_,_,P,S,T⟩:=st;rw[←T] at G;refine call_len_set (s:={ s with heap:=h',toks:=tk }) J L O S (by unfold scanBound at P;omega) ?_;exact g _ _ h' (tk+1+1) G (I.kept (t':=tk+1+1) λb o e=>kp b o (Ye e) e)
 split at q
 ·rename_i ks e
  obtain rfl:=uY e f;have l:ks.length=c_.length:=by have:=c.length;simpa using this
  refine r (knd:=strKind X.prog X.w) (ks:=ks) (by simpa using l) (λi v hv k hk=>?_) (by unfold scanBound;simp;omega) λh' tk st kp=>fin h' tk st q kp
  obtain⟨u,d,h2⟩:=c.get (i:=i) (x:=.str k) (by simp[hk]);have:v=u:=by simp at hv;rw[hv] at d;cases d;rfl
  subst this;obtain⟨t,rfl⟩:∃t,v=Value.str k t:=h2;exact⟨strKind_is _ _ _ _,rfl⟩
 ·split at q
  ·rename_i ks e
   obtain rfl:=pA e f;have l:ks.length=c_.length:=by have:=c.length;simpa using this
   refine r (knd:=intKind X.prog X.w) (ks:=ks) (by simpa using l) (λi v hv k hk=>?_) (by unfold scanBound;simp;omega) λh' tk st kp=>fin h' tk st q kp
   obtain⟨u,d,h2⟩:=c.get (i:=i) (x:=.int k) (by simp[hk]);have:v=u:=by simp at hv;rw[hv] at d;cases d;rfl
   subst this;obtain⟨t,rfl⟩:∃t,v=Value.int k t:=h2;exact⟨intKind_is _ _ _ _,rfl⟩
  ·exact Yh q
theorem yg{l:Expr}{t:WE}{p p2 o:Pos}(hc:X.calm=true)(hg:Gl X "len")(hm:X.mg "len" = none)(r:Gl X "set")(z:X.mg "set" = none)(h:PEd X l t)(j:ao l=true):PEd X (.Call (.Name "len" p) [.Call (.Name "set" p2) [l] [] o] [] pos) (lm t):=by
 intro σ M ρ H Q rs A q pins s I;refine Call_ (bY I hg hm PySem.boot_len (callWith_builtin1 (args_cons (Call_ (bY I r z (by rfl':bootBuiltins "set" = some (.type "set")) (PyProof.Rows.callWith_type1 (args_cons (thn (h σ M ρ H _ rs A q pins s I) λu s1 B=>?_) (aM j)) (aM j) rfl))))));obtain⟨v,f,C,G,⟨J,d,M1,k,m,b⟩⟩:=B;have L:∃a xs vs,v=.ref a/\(SqL X.K f a vs\/SqT X.K f a vs)/\RVs X.K f xs vs/\lX xs λn=>Q (.int n) M1:=by
  unfold seqL at b;dsimp only at b;split at b
  ·obtain⟨a,vs,rfl,sq,c⟩:=RV.tup_.1 k
   exact⟨a,_,vs,rfl,.inr sq,c,b⟩
  ·obtain⟨a,xs,vs,rfl,sq,c,g⟩:=DZ b k m
   exact⟨a,xs,vs,rfl,.inl sq,c,g⟩
 obtain⟨a,xs,vs,rfl,sq,c,g⟩:=L;cases G;refine args_nil ?_
 have:=zJ (X:=X) (R:=λw t=>EP X pins ρ (lift X.K H Q) w t) (Z:=X.xe) hc C sq c g λn tk h' S O P=>⟨.int n,f,P,⟨_,rfl⟩,J,.int n,M1,RV.int_.2 rfl,m,O⟩
 exact wpAny_mono this (λu t y=>args_nil y) λ_ _ y=>y
end
def cZ(a:Int)(n:Nat):List V:=(List.range n).map λ(i:Nat)=>.int (a+(i:Int))
theorem yh(a:Int)(n:Nat):(cZ a n).length=n:=by unfold cZ;rw[ZG,ZL]
theorem om{K:Za}{H:Hp}{a:Type}{f:a->D}{g:a->V}(h:∀x,RV K H (f x) (g x)):∀(l:List a),RVs K H (l.map f) (l.map g)
 |[]=>.nil
 |x::l=>.cons (h x) (om h l)
theorem Bv{K:Za}{H:Hp}(a b:Int):RVs K H (aY a b) (cZ a (b-a).toNat):=om (λ_=>RV.int_.2 rfl) _
theorem qF:∀(c_:Zd) (a:Int),(∀(j:Nat) v,c_[j]?=some v->∃t,v=Value.int (a+j*1) t)->Vals (cZ a c_.length) c_
 |[],_,_=>.nil
 |u::c_,a,h=>by
  have e:cZ a (u::c_).length=.int a::cZ (a+1) c_.length:=by
   unfold cZ;rw[YK,List.range_succ_eq_map,YM,ZO];congr 1
   ·simp
   ·refine ZP λi _=>?_
    show V.int (a+((i+1:Nat):Int))=V.int (a+1+(i:Int));congr 1;omega
  rw[e];refine .cons ?_ (qF c_ (a+1) λj v e=>?_)
  ·obtain⟨t,e⟩:=h 0 u rfl
   exact⟨t,by rw[e];simp⟩
  ·obtain⟨t,b⟩:=h (j+1) v (by simpa using e)
   refine⟨t,?_⟩;rw[b];congr 1;omega
def rngD(ds:List D)(Q:List D->Prop):Prop:=match ds with
 |[.int j]=>(-1000000<j/\j<1000000)/\Q (aY 0 j)
 |[.int i,.int j]=>(-1000000<i/\i<1000000/\-1000000<j/\j<1000000)/\Q (aY i j)
 |_=>False
def wLrg(t:WA):WE:=λσ M Q=>t σ M λds M1=>rngD ds λxs=>∀p,M1 p=none->Q (.ref p) (updM M1 p (.lst xs))
section
variable {X:Cx}{H:Hp}{pos:Pos}{e:Expr}{es:Zg}
theorem zK{pins:Zc}{ρ:L2.St}{s:Shared}{lo hi:Int}{t u v:Tok}{tk:Nat}{M:MH}{c:Hp}{Q:DK}(hc:X.calm=true)(I:Inv X pins ρ H s)(g:Kp c H)(d:RM X.K M H)(z:-1000000<lo)(h2:lo<1000000)(B:-1000000<hi)(C:hi<1000000)
  (q:∀p,M p=none->Q (.ref p) (updM M p (.lst (aY lo hi)))):
  wpAny 'c' X.A (call (.type "list") [.ref s.heap.objs.size]) (EP X pins ρ (lift X.K c Q)) X.xe { s with heap:=s.heap.push { cls:=.type "range",data:=.fields #[.int lo t,.int hi u,.int 1 v] },toks:=tk }:=by
 have f:Inv X pins ρ H { s with heap:=s.heap.push { cls:=.type "range",data:=.fields #[.int lo t,.int hi u,.int 1 v] },toks:=tk }:=I.kept λb o e=>Yd _ e
 refine call_list_range (s:={ s with heap:=s.heap.push { cls:=.type "range",data:=.fields #[.int lo t,.int hi u,.int 1 v] },toks:=tk }) (n:=(hi-lo).toNat) (I.ok.hd hc) (IsRange.new ..) (small_one 'a' 'a' 'a' 'a')
  (by rw[rangeSize_one];split<;>omega) 'a' λh' l h_ c' hk r a=>?_
 obtain⟨y,a⟩:=a;have hl:h_.toList.length=(hi-lo).toNat:=by rw[←y];simp
 have hv:Vals (cZ lo (hi-lo).toNat) h_.toList:=by
  rw[←hl];refine qF h_.toList lo λj w e=>?_
  exact a j w (by rw[←XE];exact e)
 have hf:H (s.heap.push { cls:=.type "range",data:=.fields #[.int lo t,.int hi u,.int 1 v] }).objs.size=none:=f.hok.fresh (YH _);have k:=Kp.new (o:=.lst (cZ lo (hi-lo).toNat)) hf;have hz:(cZ lo (hi-lo).toNat).length<=sizeLine:=by
  rw[yh];have:(2000000:Nat)<=sizeLine:=by decide
  omega
 exact⟨.ref _,_,f.laid (t':=l) hk (YH _) (show aN X.prog X.w _ h' _ (.lst (cZ lo (hi-lo).toNat)) from⟨hz,h_.toList,c',hv,by simpa using r⟩),rfl,g.trans k,.ref _,_,RV.ref_.2 rfl,d.new (m:=.lst (aY lo hi)) hf ⟨_,aw,Bv _ _⟩,q _ (d.fresh hf)⟩
theorem Bw{a:Expr}{t:WA}{p p2 c:Pos}(hc:X.calm=true)(hg:Gl X "list")(hm:X.mg "list" = none)(d:Gl X "range")(f:X.mg "range" = none)(ha:PAd X [a] t)(g:ao a=true):
  PEd X (.Call (.Name "list" p) [.Call (.Name "range" p2) [a] [] c] [] pos) (wLrg t):=by
 intro σ M ρ H Q rs k q pins s I;refine Call_ (bY I hg hm (by rfl':bootBuiltins "list" = some (.type "list")) (PyProof.Rows.callWith_type1 (args_cons (Call_ (bY I d f boot_range (PyProof.Rows.callWith_type1 (thn (ha σ M ρ H _ rs k q _ pins s I) λus s1 l=>?_) (aM g) rfl)))) rfl rfl));obtain⟨vs,J,m,n,⟨o,ds,M1,r,y,z,b⟩⟩:=l;unfold rngD at b;dsimp only at b;split at b
 ·obtain⟨v,rfl,A⟩:=rvs1 r
  cases RV.int_.1 A;obtain⟨u,rfl,B⟩:=vals1 n;obtain⟨t,rfl⟩:=B;obtain⟨⟨C,G⟩,b⟩:=b;refine call_range_1 (args_nil ?_);exact zK hc m o z 'b' 'b' C G b
 ·rename_i i j
  exact absurd y (by simp)
 ·exact Yh b
theorem Bx{a b:Expr}{t:WA}{p p2 d:Pos}(hc:X.calm=true)(hg:Gl X "list")(hm:X.mg "list" = none)(f:Gl X "range")(g:X.mg "range" = none)(ha:PAd X [a,b] t)(j:ao a=true)(k:ao b=true):
  PEd X (.Call (.Name "list" p) [.Call (.Name "range" p2) [a,b] [] d] [] pos) (wLrg t):=by
 intro σ M ρ H Q rs l q pins s I;refine Call_ (bY I hg hm (by rfl':bootBuiltins "list" = some (.type "list")) (PyProof.Rows.callWith_type1 (args_cons (Call_ (bY I f g boot_range (PyProof.Rows.callWith_type1 (thn (ha σ M ρ H _ rs l q _ pins s I) λus s1 m=>?_) (aM j) (ck (by rw[XT,k];rfl)))))) rfl rfl));obtain⟨vs,R,n,o,⟨r,ds,M1,y,z,A,c⟩⟩:=m;unfold rngD at c;dsimp only at c;split at c
 ·exact absurd z (by simp)
 ·obtain⟨v,S,rfl,B,C⟩:=rvs2 y
  cases RV.int_.1 B;cases RV.int_.1 C;obtain⟨u,T,rfl,G,J⟩:=o.two;obtain⟨t,rfl⟩:=G;obtain⟨t',rfl⟩:=J;obtain⟨⟨K,L,O,P⟩,c⟩:=c;refine call_range_2 (args_nil ?_);exact zK hc n r A K L O P c
 ·exact Yh c
structure IsiOk (K:Za) (C D:Addr) (b:Bool):Prop where
 cl:Cls K C
 ha:PySem.W.findIn K (.ref C) "__class__" = some (some (.builtin "object.__class__"))
 hn:PySem.W.specialIn K (.builtin "object.__class__") "__get__" = some (some (.builtin "getset_descriptor.__get__"))
 ht:PySem.W.takesIn K (.builtin "object.__class__")=some true
 hm:PySem.W.mroIn K C (.type "object")=some true
 ki:PySem.W.kitOne K (.ref C) (.ref D)=some b
abbrev IS0:=Addr->Addr->Option Bool
end
section
variable {prog:Zw}{w:World}{A:Around}{E:Zb}{s:Shared}{κ:Type}[DecidableEq κ]{knd:KeyKind prog w κ}
abbrev uj(knd:KeyKind prog w κ)(a:List (κ×Value)):Nat->Value->Prop:=λi v=>∃k x,a[i]?=some (k,x)/\knd.is k v=true
theorem zL{d:Addr}{g:List (κ×Value)}{j:Nat}{Q:Bool->Shared->Prop}(hd:(d==sysModules)=false)(hm:s.heap.DictAt knd d g j)(hl:g.length<=2 ^ 24)(h:∀b tk,Q b { s with toks:=tk }):
  wpAny 'e' A (Builtin.List.listLengthHint (.ref d)) Q E s:=by
 have a:s.TypeIs (.ref d) "dict":=hm.dictOf.typeIs;unfold Builtin.List.listLengthHint;refine Yb (wpAny_specialOf a F.slot_dict_len.lookup ?_);generalize hid:("dict.__len__" : String)=c;wp_delta;rw[show splitId c=some ("dict","__len__") from by subst hid;rfl'];subst hid;refine Yb (wpAny_isInstance (T:="dict") (b:=true) a (by rw[isSubtype_type];kernel_rfl) ?_);refine wpAny_ite_split (λf=>absurd f 'b') (λ_=>?_);refine wpAny_ite_split (λ_=>?_) (λf=>absurd (by rfl') f);refine Yb (wpAny_typeOf a ?_);exact Yc (h false s.toks)
theorem oR{R:Result->Shared->Prop}{d:Addr}{a:List (κ×Value)}{g:Nat}(K:A.handled=none)(hd:(d==sysModules)=false)(hm:s.heap.DictAt knd d a g)(hl:a.length<=2 ^ 24)(S:Addr)(res:Value)(u:Nat)
  (k:s.heap.get? S=some { cls:=.type "list",data:=.seq #[] u })
  (L:∀h' tk h_ c',(∀b o,b≠S->s.heap.get? b=some o->h'.get? b=some o)->h'.get? S=some { cls:=.type "list",dict:=none,data:=.seq h_ c',slots:=#[] }->ItemsOf (uj knd a) h_ a.length->R (.ok (.ret res)) { s with heap:=h',toks:=tk }):
  wpAny 'e' A.in1 (Builtin.List.listExtendWith (.ref S) (.ref d) res)
   (λfin j=>match fin with
    |.done f=>R (.ok f) j
    |.again c'=>c'.quiet=true/\codeAny 'e' A c' R j) (λe j=>R (.error e) j) s:=by
 have O:s.TypeIs (.ref d) "dict":=hm.dictOf.typeIs;have l:S≠d:=λe=>by
  obtain⟨o,es,ho,_,P,_⟩:=id hm;rw[e,ho] at k;cases k;cases P
 have T:d≠s.heap.objs.size:=ZW hm.lt_size;have m:S≠s.heap.objs.size:=ZW (Ye k);have W:=(Walks.dictKeys (prog:=prog) (w:=w) (A:=A.in1) (knd:=knd) K s.heap.objs.size d T a g).toS;have go:∀(h:Heap) (c tk:Nat),h.IsKeyIter s.heap.objs.size d 0 a.length g->(∀b o,b≠S->s.heap.get? b=some o->h.get? b=some o)->h.get? S=some { cls:=.type "list",data:=.seq #[] c } ->
   codeAny 'e' A (.builtin "list.extend.loop" ⟨[.ref S,.ref s.heap.objs.size,res],[]⟩) R { s with heap:=h,toks:=tk }:=by
  intro h c tk G0 hk U;refine codeAny_extend_loopS W (by rw[sizeLine_eq];omega) S (by simp;exact⟨m,l⟩) res a.length 0 _ #[] c rfl (YO _) ⟨G0,hm.at' λo e=>hk d o (Ne.symm l) e⟩ U (ItemsOf.nil _) λj h_ c' y V Y=>?_
  rw[Moved.eq_with y];refine L j.heap j.toks h_ c' (λb o hb e=>y.heap b o (λGK=>?_) (hk b o hb e)) V Y;rcases YC.mp GK with e' | e'
  ·exact hb e'
  ·exact absurd (Ye e) (by rw[XR.mp e'];exact ZV _)
 unfold Builtin.List.listExtendWith;refine Yb (wpAny_typeOf O ?_);have Z:Builtin.List.listSameRef (.ref S) (.ref d)=false:=by simp[Builtin.List.listSameRef,l]
 simp only[Z,show(Value.type "dict" == Value.type "list")=false by decide,show(Value.type "dict" == Value.type "tuple")=false by decide,Bool.or_false,XG,if_false];refine Yb (wpAny_pyIter_dict hd hm ?_);refine Yb (Yj (zL hd (hm.push _) hl λb tk=>?_));have n:(s.heap.push { cls:=.type "dict_keyiterator",data:=.fields #[.ref d,.int 0 0,.int a.length 0,.int g 0] }).IsKeyIter s.heap.objs.size d 0 a.length g:=⟨_,Yg _ rfl,rfl,rfl⟩;have s1:=Yd { cls:=.type "dict_keyiterator",data:=.fields #[.ref d,.int 0 0,.int a.length 0,.int g 0] } k;have p:∀b o,b≠S->s.heap.get? b=some o->(s.heap.push { cls:=.type "dict_keyiterator",data:=.fields #[.ref d,.int 0 0,.int a.length 0,.int g 0] }).get? b=some o:=λb o _ e=>Yd _ e
 generalize s.heap.push { cls:=.type "dict_keyiterator",data:=.fields #[.ref d,.int 0 0,.int a.length 0,.int g 0] }=r at n s1 p ⊢;refine wpAny_ite_split (λ_=>?_) (λ_=>Yc ⟨plainId_quiet F.plain_extend_loop _,go _ u _ n p s1⟩);refine Yb (wpAny_rule (Yb ?_));show wpAny _ _ (updateSeq S (·.push .none) >>= λ_=>updateSeq S (·.pop)) _ _ _;refine Yb (wpAny_updateSeq s1 rfl ?_);have s2:=Heap.get?_update_self (Obj.mapSeq (·.push Value.none)) s1 rfl;have z:(r.update S (Obj.mapSeq (·.push Value.none))).IsKeyIter s.heap.objs.size d 0 a.length g:=n.at λo e=>(Heap.get?_update_other _ _ m).trans e
 have B:∀b o,b≠S->s.heap.get? b=some o->(r.update S (Obj.mapSeq (·.push Value.none))).get? b=some o:=λb o hb e=>(Heap.get?_update_other _ _ (Ne.symm hb)).trans (p b o hb e)
 generalize r.update S (Obj.mapSeq (·.push Value.none))=h2 at z s2 B ⊢;refine wpAny_updateSeq (hz:=by seq_fits) s2 rfl ?_;have C:=Heap.get?_update_self (Obj.mapSeq (·.pop)) s2 rfl;have G:(h2.update S (Obj.mapSeq (·.pop))).IsKeyIter s.heap.objs.size d 0 a.length g:=z.at λo e=>(Heap.get?_update_other _ _ m).trans e
 have J:∀b o,b≠S->s.heap.get? b=some o->(h2.update S (Obj.mapSeq (·.pop))).get? b=some o:=λb o hb e=>(Heap.get?_update_other _ _ (Ne.symm hb)).trans (B b o hb e)
 generalize h2.update S (Obj.mapSeq (·.pop))=h3 at G C J ⊢;exact Yc ⟨plainId_quiet F.plain_extend_loop _,go h3 _ _ G J C⟩
end
end DD
namespace TS
open PySem PyProof.Rows
def fq:Bool->Keyed->Array Keyed->Nat->Nat->Nat->StateT SortSt Sem (Option Nat):=sortPriv% PySem.Builtin.gallop
theorem yi (left:Bool) (c:Keyed) (arr:Array Keyed) (base n b:Nat):fq left c arr base n b = (do
  let a (i:Nat):StateT SortSt Sem (Option Bool):=do
    let x ← elem' arr (base + i)
    if left then lt' x c else return (← lt' c x).map (!·)
  let mut lastofs:=0
  let mut ofs:=1
  let mut lo:=0
  let mut hi:=0
  let some right ← a b | return none
  if right then
    let d:=n - b
    for _ in [0:n] do
      if ofs >= d then break
      let some more ← a (b + ofs) | return none
      if !more then break
      lastofs:=ofs
      ofs:=2 * ofs + 1
    lo:=b + lastofs + 1
    hi:=b + min ofs d
  else
    let d:=b + 1
    for _ in [0:n] do
      if ofs >= d then break
      let some found ← a (b - ofs) | return none
      if found then break
      lastofs:=ofs
      ofs:=2 * ofs + 1
    lo:=b + 1 - min ofs d
    hi:=b - lastofs
  for _ in [0:n] do
    if lo >= hi then break
    let m:=lo + (hi - lo) / 2
    let some more ← a m | return none
    if more then lo:=m + 1 else hi:=m
  return some hi):=rfl
section
variable {prog:Zw}{w:World}{A:Around}{E:Zb}{s:Shared}{kd:SortKind}{R:Keyed->Int}{a₀:Array Keyed}
def Lts(prog:Zw)(w:World)(A:Around)(s:Shared)(kd:SortKind)(R:Keyed->Int)(a₀:Array Keyed):Prop:=
 ∀x y,x∈a₀.toList->y∈a₀.toList->∀(Q:Bool->Shared->Prop) (E:Zb),Q (decide (R x<R y)) s->wpAny 'e' A (keyLt' kd x.1 y.1) Q E s
theorem qG{st:SortSt}{x y:Keyed}{Q:Option Bool->SortSt->Prop}(a:Lts prog w A s kd R a₀)(hk:kindOf st=kd)(hx:x∈a₀.toList)(hy:y∈a₀.toList)(h:Q (some (decide (R x<R y))) st):wpS 'e' A E s (lt' x y) Q st:=by
 rw[lt'_eq];refine wpS_bind (wpS_get ?_);rw[hk];refine wpS_bind (wpS_lift (wpAny_attempt (a x y hx hy _ _ ?_)));exact⟨rfl,wpS_pure h⟩
theorem aQ{st:SortSt}{xs:Array Keyed}{i:Nat}{p:Keyed}{Q:Keyed->SortSt->Prop}(h:xs[i]?=some p)(hq:Q p st):wpS 'e' A E s (elem' xs i) Q st:=by
 rw[elem'_eq,h];exact wpS_pure hq
theorem zM {st:SortSt} {p:Nat->StateT SortSt Sem (Option Bool)} {b:Nat->Bool} {n lo hi:Nat} {Q:Option Nat->SortSt->Prop} (hb:∀ i,i < n->∀ Q:Option Bool->SortSt->Prop,Q (some (b i)) st->wpS 'e' A E s (p i) Q st) (u:∀ i j,i<=j->j < n->b j = true->b i = true)
    (g:lo<=hi) (h2:hi<=n) (B:∀ i,i < lo->b i = true) (C:∀ i,hi<=i->i < n->b i = false) (h:∀ k,k<=n->(∀ i,i < n->b i = decide (i < k))->Q (some k) st) :
    wpS 'e' A E s (do
      let mut lo:=lo
      let mut hi:=hi
      for _ in [0:n] do
        if lo >= hi then break
        let m:=lo + (hi - lo) / 2
        let some more ← p m | return none
        if more then lo:=m + 1 else hi:=m
      return some hi) Q st:=by
  refine wpS_bind (wpS_mono (wpS_forRange (I:=λx c f_=>f_ = st/\∃ lo hi,c = (none,lo,hi)/\lo<=hi/\hi<=n/\hi - lo<=n - x/\(∀ i,i < lo->b i = true)/\∀ i,hi<=i->i < n->b i = false)
    (Q:=λc f_=>f_ = st/\∃ lo hi,c = (none,lo,hi)/\hi<=n/\(∀ i,i < n->b i = decide (i < hi))) ?step ?fin ⟨rfl,lo,hi,rfl,g,h2,by omega,B,C⟩) ?post)
  case fin=>
    rintro c f_ ⟨rfl,l,r,rfl,G,a,o,d,f⟩
    refine ⟨rfl,l,r,rfl,a,λi hi=>?_⟩
    by_cases z:i < r
    · rw [YX z]; exact d i 'a'
    · rw [ZS z]; exact f i 'a' hi
  case post=>
    rintro c f_ ⟨rfl,l,r,rfl,a,o⟩
    exact wpS_pure (h r a o)
  case step=>
    rintro x c f_ _ hx ⟨rfl,l,r,rfl,G,a,o,d,f⟩
    dsimp only
    by_cases y:l >= r
    · rw [if_pos y]
      refine wpS_pure ⟨rfl,l,r,rfl,a,λi hi=>?_⟩
      by_cases z:i < r
      · rw [YX z]; exact d i 'a'
      · rw [ZS z]; exact f i 'a' hi
    · rw [if_neg y]
      refine wpS_bind (hb _ 'a' _ ?_)
      cases e:b (l + (r - l) / 2) with
      | true=>
        refine wpS_pure ⟨rfl,_,r,rfl,by omega,a,by omega,λi hi=>?_,f⟩
        exact u i _ 'a' 'a' e
      | false=>
        refine wpS_pure ⟨rfl,l,_,rfl,by omega,by omega,by omega,d,λi g h2=>?_⟩
        cases e2:b i with
        | false=>rfl
        | true=>rw [u _ i g h2 e2] at e; cases e
theorem fu {st:SortSt} {left:Bool} {a:Keyed} {arr:Array Keyed} {base n d:Nat} {Q:Option Nat->SortSt->Prop} (K:Lts prog w A s kd R a₀) (hk:kindOf st = kd) (L:a ∈ a₀.toList) (T:d < n)
    (hm:∀ i,i < n->∃ x,arr[base + i]? = some x/\x ∈ a₀.toList) (U:∀ i j x y,i<=j->j < n->arr[base + i]? = some x->arr[base + j]? = some y->R x<=R y)
    (h:∀ k,k<=n->(∀ i x,i < k->arr[base + i]? = some x->cond left (R x < R a) (R x<=R a))->(∀ i x,k<=i->i < n->arr[base + i]? = some x->cond left (R a<=R x) (R a < R x))->Q (some k) st) :
    wpS 'e' A E s (fq left a arr base n d) Q st:=by
  rw [yi]
  generalize Jk:(λi:Nat=>(do
    let x ← elem' arr (base + i)
    if left then lt' x a else return (← lt' a x).map (!·):StateT SortSt Sem (Option Bool))) = MI
  let b:Nat->Bool:=λi=>match arr[base + i]? with
    | some x=>cond left (decide (R x < R a)) (!decide (R a < R x))
    | none=>false
  have B:∀ i x,arr[base + i]? = some x->b i = cond left (decide (R x < R a)) (!decide (R a < R x)):=λi x e=>by
    show (match arr[base + i]? with | some x=>_ | none=>_) = _
    rw [e]
  have hb:∀ i,i < n->∀ Q:Option Bool->SortSt->Prop,Q (some (b i)) st->wpS 'e' A E s (MI i) Q st:=by
    intro i hi Q G
    obtain ⟨x,hx,O⟩:=hm i hi
    rw [B i x hx] at G
    rw [← Jk]
    refine wpS_bind (aQ hx ?_)
    cases left with
    | true=>exact qG K hk O L G
    | false=>exact wpS_bind (qG K hk L O (wpS_pure G))
  have u:∀ i j,i<=j->j < n->b j = true->b i = true:=by
    intro i j V P e
    obtain ⟨x,hx,_⟩:=hm i 'a'
    obtain ⟨y,hy,_⟩:=hm j P
    have:=U i j x y V P hx hy
    rw [B i x hx]
    rw [B j y hy] at e
    cases left with
    | true=>exact YX (by have:=XS e; omega)
    | false=>
      have e:(!decide (R a < R y)) = true:=e
      show (!decide (R a < R x)) = true
      rw [XX,decide_eq_false_iff_not] at e ⊢
      omega
  have out:∀ k,k<=n->(∀ i,i < n->b i = decide (i < k))->Q (some k) st:=by
    intro k W S
    refine h k W (λi x hi hx=>?_) λi x J h2 hx=>?_
    · have:=S i 'a'
      rw [B i x hx,YX hi] at this
      cases left with
      | true=>exact XS (p:=R x < R a) this
      | false=>
        have this:(!decide (R a < R x)) = true:=this
        rw [XX,decide_eq_false_iff_not] at this
        exact Int.not_lt.1 this
    · have:=S i h2
      rw [B i x hx,ZS (show ¬ i < k by omega)] at this
      cases left with
      | true=>exact Int.not_lt.1 (of_decide_eq_false (p:=R x < R a) this)
      | false=>
        have this:(!decide (R a < R x)) = false:=this
        rw [Bool.not_eq_false',XU] at this
        exact this
  refine wpS_bind (hb d T _ ?_)
  cases e:b d with
  | true=>
    dsimp only
    rw [if_pos rfl]
    refine wpS_bind (wpS_mono (wpS_forRange (I:=λx c f_=>f_ = st/\∃ l o,c = (none,l,o)/\l < n - d/\l < o/\x + 1<=o/\b (d + l) = true)
      (Q:=λc f_=>f_ = st/\∃ l o,c = (none,l,o)/\l < n - d/\l < o/\b (d + l) = true/\(o < n - d->b (d + o) = false)) ?s1 ?f1 ⟨rfl,0,1,rfl,by omega,by omega,by omega,e⟩) ?p1)
    case f1=>
      rintro c f_ ⟨rfl,l,o,rfl,g,m,r,f⟩
      exact ⟨rfl,l,o,rfl,g,m,f,λz=>by omega⟩
    case s1=>
      rintro x c f_ _ hx ⟨rfl,l,o,rfl,g,m,r,f⟩
      dsimp only
      by_cases C:o >= n - d
      · rw [if_pos C]
        exact wpS_pure ⟨rfl,l,o,rfl,g,m,f,λz=>by omega⟩
      · rw [if_neg C]
        refine wpS_bind (hb _ 'a' _ ?_)
        cases e2:b (d + o) with
        | true=>exact wpS_pure ⟨rfl,o,_,rfl,by omega,by omega,by omega,e2⟩
        | false=>exact wpS_pure ⟨rfl,l,o,rfl,g,m,f,λ_=>e2⟩
    case p1=>
      rintro c f_ ⟨rfl,l,o,rfl,g,m,r,f⟩
      dsimp only
      refine zM hb u 'a' 'a' (λi hi=>u i (d + l) 'a' 'a' r) (λi J h2=>?_) out
      cases e2:b i with
      | false=>rfl
      | true=>rw [u _ i 'a' h2 e2] at f; cases f 'a'
  | false=>
    dsimp only
    rw [if_neg 'b']
    refine wpS_bind (wpS_mono (wpS_forRange (I:=λx c f_=>f_ = st/\∃ l o,c = (none,l,o)/\l<=d/\l < o/\x + 1<=o/\b (d - l) = false)
      (Q:=λc f_=>f_ = st/\∃ l o,c = (none,l,o)/\l<=d/\l < o/\b (d - l) = false/\(o<=d->b (d - o) = true)) ?s2 ?f2 ⟨rfl,0,1,rfl,by omega,by omega,by omega,e⟩) ?p2)
    case f2=>
      rintro c f_ ⟨rfl,l,o,rfl,g,m,r,f⟩
      exact ⟨rfl,l,o,rfl,g,m,f,λz=>by omega⟩
    case s2=>
      rintro x c f_ _ hx ⟨rfl,l,o,rfl,g,m,r,f⟩
      dsimp only
      by_cases C:o >= d + 1
      · rw [if_pos C]
        exact wpS_pure ⟨rfl,l,o,rfl,g,m,f,λz=>by omega⟩
      · rw [if_neg C]
        refine wpS_bind (hb _ 'a' _ ?_)
        cases e2:b (d - o) with
        | true=>exact wpS_pure ⟨rfl,l,o,rfl,g,m,f,λ_=>e2⟩
        | false=>exact wpS_pure ⟨rfl,o,_,rfl,by omega,by omega,by omega,e2⟩
    case p2=>
      rintro c f_ ⟨rfl,l,o,rfl,g,m,r,f⟩
      dsimp only
      refine zM hb u 'a' 'a' (λi hi=>?_) (λi J h2=>?_) out
      · exact u i (d - o) 'a' 'a' (f 'a')
      · cases e2:b i with
        | false=>rfl
        | true=>rw [u _ i J h2 e2] at r; cases r
end
structure Mg (R:Keyed->Int) (la lb out:List Keyed) (i j:Nat):Prop where
 perm:out.Perm (la.take i++lb.take j)
 srt:out.Pairwise λx y=>R x<=R y
 leA:∀x∈out,∀y∈la.drop i,R x<=R y
 leB:∀x∈out,∀y∈lb.drop j,R x<=R y
section
variable {R:Keyed->Int}{la lb out:List Keyed}{i j:Nat}
theorem Mg.swap(h:Mg R la lb out i j):Mg R lb la out j i:=⟨h.perm.trans XY,h.srt,h.leB,h.leA⟩
theorem Mg.takeA(b:la.Pairwise λx y=>R x<=R y)(h:Mg R la lb out i j)(k:Nat)(c:∀x∈(la.drop i).take k,∀y∈lb.drop j,R x<=R y):Mg R la lb (out++(la.drop i).take k) (i+k) j:=by
 have hd:(la.drop i).Pairwise λx y=>R x<=R y:=b.sublist (List.drop_sublist _ _)
 have a:=hd;rw[←XZ k (la.drop i),List.pairwise_append] at a;refine⟨?_,List.pairwise_append.2 ⟨h.srt,a.1,λx hx y hy=>h.leA x hx y (List.mem_of_mem_take hy)⟩,λx hx y hy=>?_,λx hx y hy=>?_⟩
 ·rw[List.take_add,ZC]
  refine(h.perm.append_right _).trans ?_;rw[ZC];exact XY.append_left _
 ·rw[←List.drop_drop] at hy
  rcases YD.1 hx with z | z
  ·exact h.leA x z y (List.mem_of_mem_drop hy)
  ·exact a.2.2 x z y hy
 ·rcases YD.1 hx with z | z
  ·exact h.leB x z y hy
  ·exact c x z y hy
theorem Mg.takeB(a:lb.Pairwise λx y=>R x<=R y)(h:Mg R la lb out i j)(k:Nat)(b:∀x∈(lb.drop j).take k,∀y∈la.drop i,R x<=R y):Mg R la lb (out++(lb.drop j).take k) i (j+k):=(h.swap.takeA a k b).swap
theorem Mg.oneA(a:la.Pairwise λx y=>R x<=R y)(h:Mg R la lb out i j){x:Keyed}(hx:la[i]?=some x)(b:∀y∈lb.drop j,R x<=R y):Mg R la lb (out++[x]) (i+1) j:=by
 have e:(la.drop i).take 1=[x]:=by
  obtain⟨c,h2⟩:=YE.mp hx;rw[XV c,h2];rfl
 have:=h.takeA a 1 (λz hz y hy=>by
  rw[e,XR] at hz;rw[hz];exact b y hy)
 rwa [e] at this
theorem Mg.oneB(a:lb.Pairwise λx y=>R x<=R y)(h:Mg R la lb out i j){x:Keyed}(hx:lb[j]?=some x)(b:∀y∈la.drop i,R x<=R y):Mg R la lb (out++[x]) i (j+1):=(h.swap.oneA a hx b).swap
theorem lq(a:la.Pairwise λx y=>R x<=R y){x:Keyed}(hx:la[i]?=some x):∀y∈la.drop i,R x<=R y:=by
 obtain⟨b,h2⟩:=YE.mp hx;have hd:(la.drop i).Pairwise λx y=>R x<=R y:=a.sublist (List.drop_sublist _ _)
 rw[XV b,h2] at hd ⊢;intro y hy;rcases YC.1 hy with rfl | hy
 ·exact Int.le_refl _
 ·exact(List.pairwise_cons.1 hd).1 y hy
theorem Mg.fin(a:la.Pairwise λx y=>R x<=R y)(h:Mg R la lb out i lb.length):(out++la.drop i).Perm (la++lb)/\(out++la.drop i).Pairwise λx y=>R x<=R y:=by
 refine⟨(h.perm.append_right _).trans ?_,List.pairwise_append.2 ⟨h.srt,a.sublist (List.drop_sublist _ _),h.leA⟩⟩;rw[List.take_length,ZC];refine(XY.append_left _).trans ?_;rw[←ZC,XZ]
theorem Mg.finB(a:la.Pairwise λx y=>R x<=R y)(b:lb.Pairwise λx y=>R x<=R y)(h:Mg R la lb out i j)(c:∀x∈lb,∀y∈la.drop i,R x<=R y):(out++lb.drop j++la.drop i).Perm (la++lb)/\(out++lb.drop j++la.drop i).Pairwise λx y=>R x<=R y:=by
 have:=h.takeB b (lb.drop j).length (λx hx=>c x (List.mem_of_mem_drop (List.mem_of_mem_take hx)))
 rw[List.take_length] at this;by_cases z:j<=lb.length
 ·rw[YZ,show j+(lb.length-j)=lb.length by omega] at this
  exact this.fin a
 ·have e:lb.drop j=[]:=List.drop_eq_nil_of_le 'a'
  rw[e,ZA] at this ⊢;have h2:Mg R la lb out i lb.length:=⟨by rw[List.take_length];have:=h.perm;rwa [List.take_of_length_le (l:=lb) 'a'] at this,h.srt,h.leA,λx hx y hy=>by rw[List.drop_length] at hy;cases hy⟩;exact h2.fin a
end
structure SG (st f_:SortSt):Prop where
 kind:kindOf f_=kindOf st
 arr:arrOf f_=arrOf st
 pend:pendingOf f_=pendingOf st
 fail:failedOf f_=failedOf st
theorem SG.refl(st:SortSt):SG st st:=⟨rfl,rfl,rfl,rfl⟩
def jj:Nat->StateT SortSt Sem Unit:=sortPriv% PySem.Builtin.setMinGallop
theorem yj(g:Nat):jj g=modify λs=>SortSt.mk' (kindOf s) (arrOf s) (pendingOf s) g (failedOf s):=rfl
section
variable {prog:Zw}{w:World}{A:Around}{E:Zb}{s:Shared}
theorem j6{g:Nat}{i_ st:SortSt}{Q:Unit->SortSt->Prop}(h:SG i_ st)(hq:∀f_,SG i_ f_->Q () f_):wpS 'e' A E s (jj g) Q st:=by
 rw[yj];exact wpS_modify (hq _ ⟨h.kind,h.arr,h.pend,h.fail⟩)
end
abbrev S5:Type:=Option (Array Keyed)×Array Keyed×Nat×Nat×Nat
abbrev S6:Type:=Option (Array Keyed)×Array Keyed×Nat×Nat×Nat×Nat
abbrev S7:Type:=Option (Array Keyed)×Array Keyed×Nat×Nat×Nat×Nat×Nat
def dnL(a b out:Array Keyed)(c d:Nat):Array Keyed:=out++a.extract c a.size++b.extract d b.size
def laL(a b out:Array Keyed)(c d:Nat):Array Keyed:=out++b.extract d b.size++a.extract c a.size
def lo1 (a b:Array Keyed) (mg:Nat) (out:Array Keyed) (c d f g:Nat):StateT SortSt Sem (ForInStep S6):=do
  let y ← elem' b d
  let x ← elem' a c
  match ← lt' y x with
  | some j=>
    if j = true then do
      let y ← elem' b d
      if (d + 1 == b.size) = true then pure (.done (some (dnL a b (out.push y) c (d + 1)),out.push y,c,d + 1,0,g + 1))
      else if g + 1 >= mg then pure (.done (none,out.push y,c,d + 1,0,g + 1))
      else pure (.yield (none,out.push y,c,d + 1,0,g + 1))
    else do
      let x ← elem' a c
      if (c + 1 + 1 == a.size) = true then pure (.done (some (laL a b (out.push x) (c + 1) d),out.push x,c + 1,d,f + 1,0))
      else if f + 1 >= mg then pure (.done (none,out.push x,c + 1,d,f + 1,0))
      else pure (.yield (none,out.push x,c + 1,d,f + 1,0))
  | _=>pure (.done (some (dnL a b out c d),out,c,d,f,g))
def lo4 (a b:Array Keyed) (mg d f c:Nat) (out:Array Keyed) (g:Nat):StateT SortSt Sem (ForInStep S7):=do
  let x ← elem' a c
  if (c + 1 + 1 == a.size) = true then pure (.done (some (laL a b (out.push x) (c + 1) g),out.push x,c + 1,g,mg,d,f))
  else if (decide (d < 7) && decide (f < 7)) = true then pure (.done (none,out.push x,c + 1,g,mg,d,f))
  else pure (.yield (none,out.push x,c + 1,g,mg,d,f))
def lo3 (a b:Array Keyed) (mg f g c:Nat) (out:Array Keyed) (d:Nat):StateT SortSt Sem (ForInStep S7):=do
  let y ← elem' b c
  if (c + 1 == b.size) = true then pure (.done (some (dnL a b (out.push y) d (c + 1)),out.push y,d,c + 1,mg,f,g))
  else do
    let x ← elem' a d
    match ← fq true x b (c + 1) (b.size - (c + 1)) 0 with
    | some k=>
      if k > 0 then
        if (c + 1 + k == b.size) = true then pure (.done (some (dnL a b (out.push y ++ b.extract (c + 1) (c + 1 + k)) d (c + 1 + k)),out.push y ++ b.extract (c + 1) (c + 1 + k),d,c + 1 + k,mg,f,k))
        else lo4 a b mg f k d (out.push y ++ b.extract (c + 1) (c + 1 + k)) (c + 1 + k)
      else lo4 a b mg f k d (out.push y) (c + 1)
    | _=>pure (.done (some (dnL a b (out.push y) d (c + 1)),out.push y,d,c + 1,mg,f,g))
def lo2 (a b out:Array Keyed) (c d g f mg:Nat):StateT SortSt Sem (ForInStep S7):=do
  jj mg
  let y ← elem' b d
  match ← fq false y a c (a.size - c) 0 with
  | some k=>
    if k > 0 then
      if (c + k + 1 == a.size) = true then pure (.done (some (laL a b (out ++ a.extract c (c + k)) (c + k) d),out ++ a.extract c (c + k),c + k,d,mg,k,f))
      else if (c + k == a.size) = true then pure (.done (some (dnL a b (out ++ a.extract c (c + k)) (c + k) d),out ++ a.extract c (c + k),c + k,d,mg,k,f))
      else lo3 a b mg k f d (out ++ a.extract c (c + k)) (c + k)
    else lo3 a b mg k f d out c
  | _=>pure (.done (some (dnL a b out c d),out,c,d,mg,g,f))
def loB (a b out:Array Keyed) (c d mg:Nat):StateT SortSt Sem (ForInStep S5):=do
  let s1:S6 ← forIn [0:a.size + b.size] ((none,out,c,d,0,0):S6) λ_ s=>lo1 a b mg s.2.1 s.2.2.1 s.2.2.2.1 s.2.2.2.2.1 s.2.2.2.2.2
  match s1.1 with
  | some r=>pure (.done (some r,s1.2.1,s1.2.2.1,s1.2.2.2.1,mg))
  | none=>do
    liftM (rule "list.sort.gallop")
    let s2:S7 ← forIn [0:a.size + b.size] ((none,s1.2.1,s1.2.2.1,s1.2.2.2.1,mg + 1,s1.2.2.2.2.1,s1.2.2.2.2.2):S7) λ_ s=>
      if s.2.2.2.2.1 > 1 then lo2 a b s.2.1 s.2.2.1 s.2.2.2.1 s.2.2.2.2.2.1 s.2.2.2.2.2.2 (s.2.2.2.2.1 - 1) else lo2 a b s.2.1 s.2.2.1 s.2.2.2.1 s.2.2.2.2.2.1 s.2.2.2.2.2.2 s.2.2.2.2.1
    match s2.1 with
    | some r=>pure (.done (some r,s2.2.1,s2.2.2.1,s2.2.2.2.1,s2.2.2.2.2.1))
    | none=>do
      jj (s2.2.2.2.2.1 + 1)
      pure (.yield (none,s2.2.1,s2.2.2.1,s2.2.2.2.1,s2.2.2.2.2.1 + 1))
def pB:Array Keyed->Array Keyed->StateT SortSt Sem (Array Keyed):=sortPriv% PySem.Builtin.mergeLo
theorem wm (a b:Array Keyed):pB a b = (do
  liftM (rule "list.sort.merge-lo")
  let y ← elem' b 0
  if (1 == b.size) = true then pure (dnL a b #[y] 0 1)
  else if (0 + 1 == a.size) = true then pure (laL a b #[y] 0 1)
  else do
    let st ← get
    let s1:S5 ← forIn [0:a.size + b.size] ((none,#[y],0,1,gallopOf st):S5) λ_ s=>loB a b s.2.1 s.2.2.1 s.2.2.2.1 s.2.2.2.2
    match s1.1 with
    | some r=>pure r
    | none=>unsupported "internal:list.sort.merge-bound"):=by kernel_rfl
section
variable {l:List Keyed}{R:Keyed->Int}
theorem pC{i:Nat}{x:Keyed}(h:x∈l.drop i):∃m,l[i+m]?=some x/\i+m<l.length:=by
 obtain⟨m,hm⟩:=XW h;rw[List.getElem?_drop] at hm;exact⟨m,hm,(YE.mp hm).1⟩
theorem lY{i k:Nat}{x:Keyed}(h:x∈(l.drop i).take k):∃m,m<k/\l[i+m]?=some x:=by
 obtain⟨m,hm⟩:=XW h;rw[List.getElem?_take] at hm;split at hm
 ·rw[List.getElem?_drop] at hm
  exact⟨m,by assumption,hm⟩
 ·cases hm
theorem jk(h:l.Pairwise λx y=>R x<=R y){i j:Nat}{x y:Keyed}(b:i<=j)(hx:l[i]?=some x)(hy:l[j]?=some y):R x<=R y:=by
 refine lq h hx y ?_
 have:=YV (l:=l.drop i) (i:=j-i) (a:=y) (by rw[List.getElem?_drop,show i+(j-i)=j by omega];exact hy)
 exact this
theorem zN(out b:Array Keyed)(i k:Nat):(out++b.extract i (i+k)).toList=out.toList++(b.toList.drop i).take k:=by
 rw[Array.toList_append,Array.toList_extract,List.extract_eq_take_drop,show i+k-i=k by omega]
theorem lr(out b:Array Keyed)(i:Nat):(out++b.extract i b.size).toList=out.toList++b.toList.drop i:=by
 rw[Array.toList_append,Array.toList_extract,List.extract_eq_take_drop,List.take_of_length_le];rw[YZ,YF];exact YH _
end
structure MC (R:Keyed->Int) (a₀ a b:Array Keyed):Prop where
 sA:a.toList.Pairwise λx y=>R x<=R y
 sB:b.toList.Pairwise λx y=>R x<=R y
 mA:∀x∈a.toList,x∈a₀.toList
 mB:∀x∈b.toList,x∈a₀.toList
 nA:0<a.size
 nB:0<b.size
def Good(R:Keyed->Int)(a b r:Array Keyed):Prop:=r.toList.Perm (a.toList++b.toList)/\r.toList.Pairwise λx y=>R x<=R y
section
variable {prog:Zw}{w:World}{A:Around}{E:Zb}{s:Shared}{kd:SortKind}{R:Keyed->Int}{a₀ a b:Array Keyed}{st:SortSt}
theorem MC.getA(C:MC R a₀ a b){i:Nat}(h:i<a.size):∃x,a[i]?=some x/\a.toList[i]?=some x/\x∈a₀.toList:=by
 have e:a[i]?=some a[i]:=getElem?_pos a i h;have c:a.toList[i]?=some a[i]:=by rw[XE];exact e
 exact⟨_,e,c,C.mA _ (YV c)⟩
theorem MC.getB(C:MC R a₀ a b){i:Nat}(h:i<b.size):∃x,b[i]?=some x/\b.toList[i]?=some x/\x∈a₀.toList:=by
 have e:b[i]?=some b[i]:=getElem?_pos b i h;have c:b.toList[i]?=some b[i]:=by rw[XE];exact e
 exact⟨_,e,c,C.mB _ (YV c)⟩
theorem on(C:MC R a₀ a b){out:Array Keyed}{d c:Nat}(h:Mg R a.toList b.toList out.toList d c)(e:c=b.size):Good R a b (dnL a b out d c):=by
 subst e;rw[show b.size=b.toList.length from YF.symm] at h
 have:=h.fin C.sA
 unfold Good dnL;rw[lr,lr,←YF,List.drop_length,ZA];exact this
theorem By(C:MC R a₀ a b){out:Array Keyed}{c d:Nat}(h:Mg R a.toList b.toList out.toList c d)(e:c=a.size):Good R a b (dnL a b out c d):=by
 subst e;rw[show a.size=a.toList.length from YF.symm] at h
 have:=h.swap.fin C.sB
 unfold Good dnL;rw[lr,lr,←YF,List.drop_length,ZA];exact⟨this.1.trans XY,this.2⟩
theorem oo(C:MC R a₀ a b)(hl:∀y∈b.toList,∀x∈a.toList.drop (a.size-1),R y<=R x){out:Array Keyed}{c d:Nat}(h:Mg R a.toList b.toList out.toList c d)(e:c+1=a.size):Good R a b (laL a b out c d):=by
 have:=h.finB C.sA C.sB (λx hx y hy=>hl x hx y (by rw[show a.size-1=c by omega];exact hy))
 unfold Good laL;rw[lr,lr];exact this
theorem FH(L:Lts prog w A s kd R a₀)(hk:kindOf st=kd)(C:MC R a₀ a b)(hl:∀y∈b.toList,∀x∈a.toList.drop (a.size-1),R y<=R x){mg d f l m:Nat}{out:Array Keyed}{Q:ForInStep S6->SortSt->Prop}(h:Mg R a.toList b.toList out.toList d f)(O:d+1<a.size)(n:f<b.size)
  (o:∀r c,Good R a b r->Q (.done (some r,c)) st) (hn:∀k g j p u,Mg R a.toList b.toList k.toList g j->g+1<a.size->j<b.size->g+j=d+f+1->Q (.done (none,k,g,j,p,u)) st/\Q (.yield (none,k,g,j,p,u)) st):
  wpS 'e' A E s (lo1 a b mg out d f l m) Q st:=by
 obtain⟨y,B,G,P⟩:=C.getB n;obtain⟨x,J,K,S⟩:=C.getA (i:=d) 'a';unfold lo1;refine wpS_bind (aQ B (wpS_bind (aQ J (wpS_bind (qG L hk P S ?_)))));dsimp only;by_cases hw:R y<R x
 ·rw[YX hw,if_pos rfl]
  refine wpS_bind (aQ B ?_);have h':=h.oneB C.sB G λz hz=>Int.le_trans (Int.le_of_lt hw) (lq C.sA K z hz)
  rw[←ZB] at h';by_cases e:f+1=b.size
  ·rw[if_pos (beq_iff_eq.2 e)]
   exact wpS_pure (o _ _ (on C h' e))
  ·rw[if_neg (λz=>e (beq_iff_eq.1 z))]
   have hn:=hn _ _ _ 0 (m+1) h' O 'a' 'a';split
   ·exact wpS_pure hn.1
   ·exact wpS_pure hn.2
 ·rw[ZS hw,if_neg 'b']
  refine wpS_bind (aQ J ?_);have h':=h.oneA C.sA K λz hz=>Int.le_trans (Int.not_lt.1 hw) (lq C.sB G z hz)
  rw[←ZB] at h';by_cases e:d+1+1=a.size
  ·rw[if_pos (beq_iff_eq.2 e)]
   exact wpS_pure (o _ _ (oo C hl h' e))
  ·rw[if_neg (λz=>e (beq_iff_eq.1 z))]
   have hn:=hn _ _ _ (l+1) 0 h' 'a' n 'a';split
   ·exact wpS_pure hn.1
   ·exact wpS_pure hn.2
theorem zO(C:MC R a₀ a b)(hl:∀y∈b.toList,∀x∈a.toList.drop (a.size-1),R y<=R x){mg d f l m:Nat}{x:Keyed}{out:Array Keyed}{Q:ForInStep S7->SortSt->Prop}(h:Mg R a.toList b.toList out.toList d f)(J:d+1<a.size)(u:f<b.size)(hx:a.toList[d]?=some x)(B:∀y∈b.toList.drop f,R x<=R y)
  (G:∀r c,Good R a b r->Q (.done (some r,c)) st) (hn:∀k g j n o p,Mg R a.toList b.toList k.toList g j->g+1<a.size->j<b.size->d+f<=g+j->Q (.done (none,k,g,j,n,o,p)) st/\Q (.yield (none,k,g,j,n,o,p)) st):
  wpS 'e' A E s (lo4 a b mg l m d out f) Q st:=by
 unfold lo4;refine wpS_bind (aQ (by rw[←XE];exact hx) ?_);have h':=h.oneA C.sA hx B;rw[←ZB] at h';by_cases e:d+1+1=a.size
 ·rw[if_pos (beq_iff_eq.2 e)]
  exact wpS_pure (G _ _ (oo C hl h' e))
 ·rw[if_neg (λz=>e (beq_iff_eq.1 z))]
  have hn:=hn _ _ _ mg l m h' 'a' u 'a';split
  ·exact wpS_pure hn.1
  ·exact wpS_pure hn.2
theorem zP(U:Lts prog w A s kd R a₀)(hk:kindOf st=kd)(C:MC R a₀ a b)(hl:∀y∈b.toList,∀x∈a.toList.drop (a.size-1),R y<=R x){mg g f V W:Nat}{y:Keyed}{out:Array Keyed}{Q:ForInStep S7->SortSt->Prop}(h:Mg R a.toList b.toList out.toList g f)(K:g+1<a.size)(IU:f<b.size)(hy:b.toList[f]?=some y)(Y:∀x∈a.toList.drop g,R y<=R x)
  (p:∀r c,Good R a b r->Q (.done (some r,c)) st) (hn:∀B l n L O P,Mg R a.toList b.toList B.toList l n->l+1<a.size->n<b.size->g+f<=l+n->Q (.done (none,B,l,n,L,O,P)) st/\Q (.yield (none,B,l,n,L,O,P)) st):
  wpS 'e' A E s (lo3 a b mg V W f out g) Q st:=by
 unfold lo3;refine wpS_bind (aQ (by rw[←XE];exact hy) ?_);have h':=h.oneB C.sB hy Y;rw[←ZB] at h';by_cases e:f+1=b.size
 ·rw[if_pos (beq_iff_eq.2 e)]
  exact wpS_pure (p _ _ (on C h' e))
 ·rw[if_neg (λz=>e (beq_iff_eq.1 z))]
  obtain⟨x,Z,G,x3⟩:=C.getA (i:=g) 'a';refine wpS_bind (aQ Z (wpS_bind (fu (a₀:=a₀) U hk x3 'a' (λi hi=>?_) (λi j u v G2 hj hu hv=>?_) λk MJ lt ge=>?_)))
  ·obtain⟨z,z1,_,z3⟩:=C.getB (i:=f+1+i) 'a'
   exact⟨z,z1,z3⟩
  ·rw[←XE] at hu hv
   exact jk C.sB 'a' hu hv
  dsimp only;have S:∀z∈b.toList.drop (f+1+k),R x<=R z:=by
   intro z hz;obtain⟨m,hm,KS⟩:=pC hz;rw[YF] at KS;exact ge (k+m) z 'a' 'a' (by rw[←XE,show f+1+(k+m)=f+1+k+m by omega];exact hm)
  by_cases T:k>0
  ·rw[if_pos T]
   have h2:=h'.takeB C.sB k λz hz v hv=>by
    obtain⟨m,hm,H9⟩:=lY hz;exact Int.le_trans (Int.le_of_lt (lt m z hm (by rw[←XE];exact H9))) (lq C.sA G v hv)
   rw[←zN] at h2;by_cases J:f+1+k=b.size
   ·rw[if_pos (beq_iff_eq.2 J)]
    exact wpS_pure (p _ _ (on C h2 J))
   ·rw[if_neg (λz=>J (beq_iff_eq.1 z))]
    exact zO C hl h2 K 'a' G S p λo i j m c d p1 p2 p3 p4=>hn o i j m c d p1 p2 p3 'a'
  ·rw[if_neg T]
   obtain rfl:k=0:=by omega
   exact zO C hl h' K 'a' G S p λo i j m c d p1 p2 p3 p4=>hn o i j m c d p1 p2 p3 'a'
theorem FI{i_:SortSt}(J:Lts prog w A s kd R a₀)(hk:kindOf i_=kd)(hg:SG i_ st)(C:MC R a₀ a b)(hl:∀y∈b.toList,∀x∈a.toList.drop (a.size-1),R y<=R x){mg f B Y Z:Nat}{out:Array Keyed}{Q:ForInStep S7->SortSt->Prop}(h:Mg R a.toList b.toList out.toList f B)(JD:f+1<a.size)(K:B<b.size)
  (G:∀r c f_,SG i_ f_->Good R a b r->Q (.done (some r,c)) f_) (hn:∀L n p S T U f_,SG i_ f_->Mg R a.toList b.toList L.toList n p->n+1<a.size->p<b.size->f+B<=n+p->Q (.done (none,L,n,p,S,T,U)) f_/\Q (.yield (none,L,n,p,S,T,U)) f_):
  wpS 'e' A E s (lo2 a b out f B Y Z mg) Q st:=by
 unfold lo2;refine wpS_bind (j6 hg λf_ l=>?_);obtain⟨y,y1,O,y3⟩:=C.getB K;refine wpS_bind (aQ y1 (wpS_bind (fu (a₀:=a₀) J (l.kind.trans hk) y3 'a' (λi hi=>?_) (λi j u v G2 hj hu hv=>?_) λk MJ lt ge=>?_)))
 ·obtain⟨z,z1,_,z3⟩:=C.getA (i:=f+i) 'a'
  exact⟨z,z1,z3⟩
 ·rw[←XE] at hu hv
  exact jk C.sA 'a' hu hv
 dsimp only;have V:∀z∈a.toList.drop (f+k),R y<=R z:=by
  intro z hz;obtain⟨m,hm,KS⟩:=pC hz;rw[YF] at KS;exact Int.le_of_lt (ge (k+m) z 'a' 'a' (by rw[←XE,show f+(k+m)=f+k+m by omega];exact hm))
 by_cases W:k>0
 ·rw[if_pos W]
  have h2:=h.takeA C.sA k λz hz v hv=>by
   obtain⟨m,hm,H9⟩:=lY hz;exact Int.le_trans (lt m z hm (by rw[←XE];exact H9)) (lq C.sB O v hv)
  rw[←zN] at h2;by_cases e:f+k+1=a.size
  ·rw[if_pos (beq_iff_eq.2 e)]
   exact wpS_pure (G _ _ _ l (oo C hl h2 e))
  ·rw[if_neg (λz=>e (beq_iff_eq.1 z))]
   by_cases P:f+k=a.size
   ·rw[if_pos (beq_iff_eq.2 P)]
    exact wpS_pure (G _ _ _ l (By C h2 P))
   ·rw[if_neg (λz=>P (beq_iff_eq.1 z))]
    exact zP J (l.kind.trans hk) C hl h2 'a' K O V (λr c g=>G r c f_ l g) λo i j m c d p1 p2 p3 p4=>hn o i j m c d f_ l p1 p2 p3 'a'
 ·rw[if_neg W]
  obtain rfl:k=0:=by omega
  exact zP J (l.kind.trans hk) C hl h JD K O V (λr c g=>G r c f_ l g) λo i j m c d p1 p2 p3 p4=>hn o i j m c d f_ l p1 p2 p3 'a'
theorem FJ{i_:SortSt}(U:Lts prog w A s kd R a₀)(hk:kindOf i_=kd)(hg:SG i_ st)(C:MC R a₀ a b)(hl:∀y∈b.toList,∀x∈a.toList.drop (a.size-1),R y<=R x){mg l n:Nat}{out:Array Keyed}{Q:ForInStep S5->SortSt->Prop}(h:Mg R a.toList b.toList out.toList l n)(Z:l+1<a.size)(IU:n<b.size)
  (V:∀r c f_,SG i_ f_->Good R a b r->Q (.done (some r,c)) f_) (hn:∀W S T Hi f_,SG i_ f_->Mg R a.toList b.toList W.toList S T->S+1<a.size->T<b.size->l+n+1<=S+T->Q (.yield (none,W,S,T,Hi)) f_):
  wpS 'e' A E s (loB a b out l n mg) Q st:=by
 unfold loB;refine wpS_bind (wpS_mono (wpS_forRange (I:=λx c f_=>SG i_ f_/\∃o i j p q,c=(none,o,i,j,p,q)/\Mg R a.toList b.toList o.toList i j/\i+1<a.size/\j<b.size/\l+n+x<=i+j)
  (Q:=λc f_=>SG i_ f_/\((∃r d,c=(some r,d)/\Good R a b r) \/ ∃o i j p q,c=(none,o,i,j,p,q)/\Mg R a.toList b.toList o.toList i j/\i+1<a.size/\j<b.size/\l+n+1<=i+j)) ?s1 ?f1 ⟨hg,out,l,n,0,0,rfl,h,Z,IU,by omega⟩) ?p1)
 case f1=>
  rintro c f_ ⟨_,o,i,j,p,q,rfl,f,h2,k,u⟩;omega
 case s1=>
  rintro x c f_ _ hx ⟨g,o,i,j,p,q,rfl,f,h2,k,u⟩;dsimp only;exact FH U (g.kind.trans hk) C hl f h2 k (λr d z=>⟨g,.inl ⟨r,d,rfl,z⟩⟩) λo' B G J K L O P m4=>⟨⟨g,.inr ⟨o',B,G,J,K,rfl,L,O,P,by omega⟩⟩,⟨g,o',B,G,J,K,rfl,L,O,P,by omega⟩⟩
 case p1=>
  rintro c f_ ⟨g,(⟨r,d,rfl,z⟩ | ⟨o,i,j,p,q,rfl,f,h2,k,u⟩)⟩
  ·exact wpS_pure (V r _ f_ g z)
  ·dsimp only
   refine wpS_bind (wpS_lift (wpAny_rule ⟨rfl,?_⟩));refine wpS_bind (wpS_mono (wpS_forRange (I:=λx c f_=>SG i_ f_/\∃o i j m p q,c=(none,o,i,j,m,p,q)/\Mg R a.toList b.toList o.toList i j/\i+1<a.size/\j<b.size/\l+n+1<=i+j)
    (Q:=λc f_=>SG i_ f_/\((∃r d,c=(some r,d)/\Good R a b r) \/ ∃o i j m p q,c=(none,o,i,j,m,p,q)/\Mg R a.toList b.toList o.toList i j/\i+1<a.size/\j<b.size/\l+n+1<=i+j)) ?s2 ?f2 ⟨g,o,i,j,mg+1,p,q,rfl,f,h2,k,u⟩) ?p2)
   case f2=>
    rintro c f_ ⟨g,o,i,j,m,p,q,rfl,f,h2,k,u⟩;exact⟨g,.inr ⟨o,i,j,m,p,q,rfl,f,h2,k,u⟩⟩
   case s2=>
    rintro x c f_ _ hx ⟨g,o,i,j,m,p,q,rfl,f,h2,k,u⟩;dsimp only;rw[←apply_ite (lo2 a b o i j p q)];exact FI U hk g C hl f h2 k (λr d f_ g z=>⟨g,.inl ⟨r,d,rfl,z⟩⟩) λo' B G Y J K f_ g L O P m4=>⟨⟨g,.inr ⟨o',B,G,Y,J,K,rfl,L,O,P,by omega⟩⟩,⟨g,o',B,G,Y,J,K,rfl,L,O,P,by omega⟩⟩
   case p2=>
    rintro c f_ ⟨g,(⟨r,d,rfl,z⟩ | ⟨o,i,j,m,p,q,rfl,f,h2,k,u⟩)⟩
    ·exact wpS_pure (V r _ f_ g z)
    ·dsimp only
     exact wpS_bind (j6 g λf_ g=>wpS_pure (hn _ _ _ _ _ g f h2 k u))
theorem yk(J:Lts prog w A s kd R a₀)(hk:kindOf st=kd)(C:MC R a₀ a b)(hl:∀y∈b.toList,∀x∈a.toList.drop (a.size-1),R y<=R x)(K:∀y,b.toList[0]?=some y->∀x∈a.toList,R y<=R x){Q:Array Keyed->SortSt->Prop}(h:∀r f_,SG st f_->Good R a b r->Q r f_):
  wpS 'e' A E s (pB a b) Q st:=by
 rw[wm];refine wpS_bind (wpS_lift (wpAny_rule ⟨rfl,?_⟩));obtain⟨y,L,u,Y⟩:=C.getB C.nB;refine wpS_bind (aQ L ?_);have O:Mg R a.toList b.toList [] 0 0:=⟨List.Perm.refl _,.nil,(λx hx=>by cases hx),λx hx=>by cases hx⟩;have k:Mg R a.toList b.toList (#[y]:Array Keyed).toList 0 (0+1):=O.oneB C.sB u λx hx=>K y u x hx
 by_cases e:1=b.size
 ·rw[if_pos (beq_iff_eq.2 e)]
  exact wpS_pure (h _ _ (SG.refl _) (on C k e))
 ·rw[if_neg (λz=>e (beq_iff_eq.1 z))]
  by_cases l:0+1=a.size
  ·rw[if_pos (beq_iff_eq.2 l)]
   exact wpS_pure (h _ _ (SG.refl _) (oo C hl k l))
  ·rw[if_neg (λz=>l (beq_iff_eq.1 z))]
   have:=C.nA
   have:=C.nB
   refine wpS_bind (wpS_get ?_);refine wpS_bind (wpS_mono (wpS_forRange (I:=λx c f_=>SG st f_/\∃o i j m,c=(none,o,i,j,m)/\Mg R a.toList b.toList o.toList i j/\i+1<a.size/\j<b.size/\x+1<=i+j)
    (Q:=λc f_=>SG st f_/\∃r d,c=(some r,d)/\Good R a b r) ?s ?f ⟨SG.refl _,_,0,1,_,rfl,k,by omega,by omega,by omega⟩) ?p)
   case f=>
    rintro c f_ ⟨_,o,i,j,m,rfl,B,h2,G,P⟩;omega
   case s=>
    rintro x c f_ _ hx ⟨g,o,i,j,m,rfl,B,h2,G,P⟩;dsimp only;exact FJ J hk g C hl B h2 G (λr d f_ g n=>⟨g,r,d,rfl,n⟩) λo' S T U f_ g k V W Z=>⟨g,o',S,T,U,rfl,k,V,W,by omega⟩
   case p=>
    rintro c f_ ⟨g,r,d,rfl,n⟩;exact wpS_pure (h r f_ g n)
end
abbrev H5:Type:=Option (Array Keyed)×Nat×Nat×Array Keyed×Nat
abbrev H6:Type:=Option (Array Keyed)×Nat×Nat×Array Keyed×Nat×Nat
abbrev H7:Type:=Option (Array Keyed)×Nat×Nat×Array Keyed×Nat×Nat×Nat
def dnH(a b out:Array Keyed)(c d:Nat):Array Keyed:=a.extract 0 c++b.extract 0 d++out.reverse
def fbH(a b out:Array Keyed)(c d:Nat):Array Keyed:=b.extract 0 d++a.extract 0 c++out.reverse
def hi1 (a b:Array Keyed) (mg c d:Nat) (out:Array Keyed) (f g:Nat):StateT SortSt Sem (ForInStep H6):=do
  let y ← elem' b (d - 1)
  let x ← elem' a (c - 1)
  match ← lt' y x with
  | some j=>
    if j = true then do
      let x ← elem' a (c - 1)
      if (c - 1 == 0) = true then pure (.done (some (dnH a b (out.push x) (c - 1) d),c - 1,d,out.push x,f + 1,0))
      else if f + 1 >= mg then pure (.done (none,c - 1,d,out.push x,f + 1,0))
      else pure (.yield (none,c - 1,d,out.push x,f + 1,0))
    else do
      let y ← elem' b (d - 1)
      if (d - 1 == 1) = true then pure (.done (some (fbH a b (out.push y) c (d - 1)),c,d - 1,out.push y,0,g + 1))
      else if g + 1 >= mg then pure (.done (none,c,d - 1,out.push y,0,g + 1))
      else pure (.yield (none,c,d - 1,out.push y,0,g + 1))
  | _=>pure (.done (some (dnH a b out c d),c,d,out,f,g))
def hi4 (a b:Array Keyed) (mg d f c g:Nat) (out:Array Keyed):StateT SortSt Sem (ForInStep H7):=do
  let x ← elem' a (c - 1)
  if (c - 1 == 0) = true then pure (.done (some (dnH a b (out.push x) (c - 1) g),c - 1,g,out.push x,mg,d,f))
  else if (decide (d < 7) && decide (f < 7)) = true then pure (.done (none,c - 1,g,out.push x,mg,d,f))
  else pure (.yield (none,c - 1,g,out.push x,mg,d,f))
def hi3 (a b:Array Keyed) (mg f g c d:Nat) (out:Array Keyed):StateT SortSt Sem (ForInStep H7):=do
  let y ← elem' b (c - 1)
  if (c - 1 == 1) = true then pure (.done (some (fbH a b (out.push y) d (c - 1)),d,c - 1,out.push y,mg,f,g))
  else do
    let x ← elem' a (d - 1)
    match ← fq true x b 0 (c - 1) (c - 1 - 1) with
    | some t=>
      if c - 1 - t > 0 then
        if (t == 1) = true then pure (.done (some (fbH a b (out.push y ++ (b.extract t (c - 1)).reverse) d t),d,t,out.push y ++ (b.extract t (c - 1)).reverse,mg,f,c - 1 - t))
        else if (t == 0) = true then pure (.done (some (dnH a b (out.push y ++ (b.extract t (c - 1)).reverse) d t),d,t,out.push y ++ (b.extract t (c - 1)).reverse,mg,f,c - 1 - t))
        else hi4 a b mg f (c - 1 - t) d t (out.push y ++ (b.extract t (c - 1)).reverse)
      else hi4 a b mg f (c - 1 - t) d (c - 1) (out.push y)
    | _=>pure (.done (some (dnH a b (out.push y) d (c - 1)),d,c - 1,out.push y,mg,f,g))
def hi2 (a b:Array Keyed) (c d:Nat) (out:Array Keyed) (g f mg:Nat):StateT SortSt Sem (ForInStep H7):=do
  jj mg
  let y ← elem' b (d - 1)
  match ← fq false y a 0 c (c - 1) with
  | some t=>
    if c - t > 0 then
      if (t == 0) = true then pure (.done (some (dnH a b (out ++ (a.extract t c).reverse) t d),t,d,out ++ (a.extract t c).reverse,mg,c - t,f))
      else hi3 a b mg (c - t) f d t (out ++ (a.extract t c).reverse)
    else hi3 a b mg (c - t) f d c out
  | _=>pure (.done (some (dnH a b out c d),c,d,out,mg,g,f))
def hiB (a b:Array Keyed) (c d:Nat) (out:Array Keyed) (mg:Nat):StateT SortSt Sem (ForInStep H5):=do
  let s1:H6 ← forIn [0:a.size + b.size] ((none,c,d,out,0,0):H6) λ_ s=>hi1 a b mg s.2.1 s.2.2.1 s.2.2.2.1 s.2.2.2.2.1 s.2.2.2.2.2
  match s1.1 with
  | some r=>pure (.done (some r,s1.2.1,s1.2.2.1,s1.2.2.2.1,mg))
  | none=>do
    liftM (rule "list.sort.gallop")
    let s2:H7 ← forIn [0:a.size + b.size] ((none,s1.2.1,s1.2.2.1,s1.2.2.2.1,mg + 1,s1.2.2.2.2.1,s1.2.2.2.2.2):H7) λ_ s=>
      if s.2.2.2.2.1 > 1 then hi2 a b s.2.1 s.2.2.1 s.2.2.2.1 s.2.2.2.2.2.1 s.2.2.2.2.2.2 (s.2.2.2.2.1 - 1) else hi2 a b s.2.1 s.2.2.1 s.2.2.2.1 s.2.2.2.2.2.1 s.2.2.2.2.2.2 s.2.2.2.2.1
    match s2.1 with
    | some r=>pure (.done (some r,s2.2.1,s2.2.2.1,s2.2.2.2.1,s2.2.2.2.2.1))
    | none=>do
      jj (s2.2.2.2.2.1 + 1)
      pure (.yield (none,s2.2.1,s2.2.2.1,s2.2.2.2.1,s2.2.2.2.2.1 + 1))
def pE:Array Keyed->Array Keyed->StateT SortSt Sem (Array Keyed):=sortPriv% PySem.Builtin.mergeHi
theorem wn (a b:Array Keyed):pE a b = (do
  liftM (rule "list.sort.merge-hi")
  let x ← elem' a (a.size - 1)
  if (a.size - 1 == 0) = true then pure (dnH a b #[x] (a.size - 1) b.size)
  else if (b.size == 1) = true then pure (fbH a b #[x] (a.size - 1) b.size)
  else do
    let st ← get
    let s1:H5 ← forIn [0:a.size + b.size] ((none,a.size - 1,b.size,#[x],gallopOf st):H5) λ_ s=>hiB a b s.2.1 s.2.2.1 s.2.2.2.1 s.2.2.2.2
    match s1.1 with
    | some r=>pure r
    | none=>unsupported "internal:list.sort.merge-bound"):=by kernel_rfl
section
variable {R:Keyed->Int}{a₀ a b:Array Keyed}
theorem zQ{l:List Keyed}{n:Nat}(h:0<n)(h2:n<=l.length):l.reverse[l.length-n]?=l[n-1]?:=by
 rw[List.getElem?_reverse 'a',show l.length-1-(l.length-n)=n-1 by omega]
theorem jl{l:List Keyed}{n:Nat}(h:n<=l.length):l.reverse.drop (l.length-n)=(l.take n).reverse:=by rw[List.reverse_take]
theorem rY{l:List Keyed}{t n:Nat}(h:t<=n)(h2:n<=l.length):(l.reverse.drop (l.length-n)).take (n-t)=((l.drop t).take (n-t)).reverse:=by
 rw[jl h2,List.take_reverse,YU,show min n l.length-(n-t)=t by omega,List.drop_take]
theorem fv{l:List Keyed}(h:l.Pairwise λx y=>R x<=R y):l.reverse.Pairwise λx y=>-R x<=-R y:=by
 rw[List.pairwise_reverse];exact h.imp λz=>by omega
theorem qH{l:List Keyed}{n:Nat}{x:Keyed}(h:n<=l.length)(hx:x∈l.reverse.drop (l.length-n)):∃m,m<n/\l[m]?=some x:=by
 rw[jl h,List.mem_reverse] at hx;obtain⟨m,hm⟩:=XW hx;rw[List.getElem?_take] at hm;split at hm
 ·exact⟨m,by assumption,hm⟩
 ·cases hm
theorem zR(out b:Array Keyed){t n:Nat}(h:t<=n)(h2:n<=b.size):(out++(b.extract t n).reverse).toList=out.toList++(b.toList.reverse.drop (b.size-n)).take (n-t):=by
 rw[Array.toList_append,Array.toList_reverse,Array.toList_extract,List.extract_eq_take_drop]
 have:=rY (l:=b.toList) h (by rw[YF];exact h2)
 rw[YF] at this;rw[this]
abbrev MH(R:Keyed->Int)(a b out:Array Keyed)(c d:Nat):Prop:=Mg (λx=>-R x) a.toList.reverse b.toList.reverse out.toList (a.size-c) (b.size-d)
theorem pF{r:Array Keyed}{X:List Keyed}(e:r.toList=X.reverse)(h:X.Perm (a.toList.reverse++b.toList.reverse))(h2:X.Pairwise λx y=>-R x<=-R y):Good R a b r:=by
 unfold Good;rw[e];refine⟨(List.reverse_perm _).trans (h.trans ((List.reverse_perm _).append (List.reverse_perm _))),?_⟩;rw[List.pairwise_reverse];exact h2.imp λz=>by omega
theorem ex0(a:Array Keyed)(n:Nat):(a.extract 0 n).toList=a.toList.take n:=by
 rw[Array.toList_extract,List.extract_eq_take_drop,List.drop_zero,Nat.sub_zero]
theorem lZ(C:MC R a₀ a b){out:Array Keyed}{d c:Nat}(h:MH R a b out d c)(hb:c<=b.size)(e:d=0):Good R a b (dnH a b out d c):=by
 subst e;have h:Mg (λx=>-R x) a.toList.reverse b.toList.reverse out.toList a.toList.reverse.length (b.size-c):=by
  rw[List.length_reverse,YF];exact h
 have:=h.swap.fin (fv C.sB)
 refine pF (X:=out.toList++b.toList.reverse.drop (b.size-c)) ?_ (this.1.trans XY) this.2;unfold dnH;have e:=jl (l:=b.toList) (n:=c) (by rw[YF];exact hb);rw[YF] at e;rw[Array.toList_append,Array.toList_append,ex0,ex0,Array.toList_reverse,List.take_zero,XF,e,List.reverse_append,List.reverse_reverse]
theorem zS(C:MC R a₀ a b){out:Array Keyed}{c d:Nat}(h:MH R a b out c d)(ha:c<=a.size)(e:d=0):Good R a b (dnH a b out c d):=by
 subst e;have h:Mg (λx=>-R x) a.toList.reverse b.toList.reverse out.toList (a.size-c) b.toList.reverse.length:=by
  rw[List.length_reverse,YF];exact h
 have:=h.fin (fv C.sA)
 refine pF (X:=out.toList++a.toList.reverse.drop (a.size-c)) ?_ this.1 this.2;unfold dnH;have e:=jl (l:=a.toList) (n:=c) (by rw[YF];exact ha);rw[YF] at e;rw[Array.toList_append,Array.toList_append,ex0,ex0,Array.toList_reverse,List.take_zero,ZA,e,List.reverse_append,List.reverse_reverse]
theorem l0(C:MC R a₀ a b)(j:∀y,b.toList[0]?=some y->∀x∈a.toList,R y<=R x){out:Array Keyed}{c d:Nat}(h:MH R a b out c d)(ha:c<=a.size)(e:d=1):Good R a b (fbH a b out c d):=by
 subst e;have hb:=C.nB
 have:=h.swap.finB (fv C.sB) (fv C.sA) (λx hx y hy=>by
  have:=qH (l:=b.toList) (n:=1) (by rw[YF];exact hb) (by rw[YF];exact hy)
  obtain⟨m,hm,hy⟩:=this;obtain rfl:m=0:=by omega
  have:=j y hy x (List.mem_reverse.1 hx)
  show -R x<=-R y;omega)
 refine pF (X:=out.toList++a.toList.reverse.drop (a.size-c)++b.toList.reverse.drop (b.size-1)) ?_ (this.1.trans XY) this.2;unfold fbH;have f:=jl (l:=a.toList) (n:=c) (by rw[YF];exact ha);have g:=jl (l:=b.toList) (n:=1) (by rw[YF];exact hb);rw[YF] at f g;rw[Array.toList_append,Array.toList_append,ex0,ex0,Array.toList_reverse,f,g,List.reverse_append,List.reverse_append,List.reverse_reverse,List.reverse_reverse,ZC]
theorem MH.oneA(C:MC R a₀ a b){out:Array Keyed}{c d:Nat}(h:MH R a b out c d)(f:0<c)(h2:c<=a.size){x:Keyed}(hx:a.toList[c-1]?=some x)(g:∀y∈b.toList.reverse.drop (b.size-d),R y<=R x):MH R a b (out.push x) (c-1) d:=by
 have:=Mg.oneA (fv C.sA) h (x:=x) (by
  have:=zQ (l:=a.toList) f (by rw[YF];exact h2)
  rw[YF] at this;rw[this];exact hx) (λy hy=>by have:=g y hy;show -R x<=-R y;omega)
 rw[←ZB,show a.size-c+1=a.size-(c-1) by omega] at this;exact this
theorem MH.oneB(C:MC R a₀ a b){out:Array Keyed}{d c:Nat}(h:MH R a b out d c)(f:0<c)(h2:c<=b.size){x:Keyed}(hx:b.toList[c-1]?=some x)(g:∀y∈a.toList.reverse.drop (a.size-d),R y<=R x):MH R a b (out.push x) d (c-1):=by
 have:=Mg.oneB (fv C.sB) h (x:=x) (by
  have:=zQ (l:=b.toList) f (by rw[YF];exact h2)
  rw[YF] at this;rw[this];exact hx) (λy hy=>by have:=g y hy;show -R x<=-R y;omega)
 rw[←ZB,show b.size-c+1=b.size-(c-1) by omega] at this;exact this
theorem oq{a:Array Keyed}(c:a.toList.Pairwise λx y=>R x<=R y){n:Nat}(h2:n<=a.size){x:Keyed}(hx:a.toList[n-1]?=some x):∀y∈a.toList.reverse.drop (a.size-n),R y<=R x:=by
 intro y hy;obtain⟨m,hm,hy⟩:=qH (l:=a.toList) (n:=n) (by rw[YF];exact h2) (by rw[YF];exact hy);exact jk c 'a' hy hx
variable {prog:Zw}{w:World}{A:Around}{E:Zb}{s:Shared}{kd:SortKind}{st:SortSt}
theorem FK(O:Lts prog w A s kd R a₀)(hk:kindOf st=kd)(C:MC R a₀ a b)(P:∀y,b.toList[0]?=some y->∀x∈a.toList,R y<=R x){mg d f n o:Nat}{out:Array Keyed}{Q:ForInStep H6->SortSt->Prop}(h:MH R a b out d f)(ha:0<d)(k:d<=a.size)(hb:1<f)(l:f<=b.size)
  (p:∀r c,Good R a b r->Q (.done (some r,c)) st) (hn:∀g j m u B,MH R a b m g j->0<g->g<=a.size->1<j->j<=b.size->g+j+1=d+f->Q (.done (none,g,j,m,u,B)) st/\Q (.yield (none,g,j,m,u,B)) st):
  wpS 'e' A E s (hi1 a b mg d f out n o) Q st:=by
 obtain⟨y,G,J,S⟩:=C.getB (i:=f-1) 'a';obtain⟨x,K,L,T⟩:=C.getA (i:=d-1) 'a';unfold hi1;refine wpS_bind (aQ G (wpS_bind (aQ K (wpS_bind (qG O hk S T ?_)))));dsimp only;by_cases hw:R y<R x
 ·rw[YX hw,if_pos rfl]
  refine wpS_bind (aQ K ?_);have h':=MH.oneA C h ha k L λz hz=>Int.le_trans (oq C.sB l J z hz) (Int.le_of_lt hw)
  by_cases e:d-1=0
  ·rw[if_pos (beq_iff_eq.2 e)]
   exact wpS_pure (p _ _ (lZ C h' l e))
  ·rw[if_neg (λz=>e (beq_iff_eq.1 z))]
   have hn:=hn _ _ _ (n+1) 0 h' 'a' 'a' hb l 'a';split
   ·exact wpS_pure hn.1
   ·exact wpS_pure hn.2
 ·rw[ZS hw,if_neg 'b']
  refine wpS_bind (aQ G ?_);have h':=MH.oneB C h 'a' l J λz hz=>Int.le_trans (oq C.sA k L z hz) (Int.not_lt.1 hw)
  by_cases e:f-1=1
  ·rw[if_pos (beq_iff_eq.2 e)]
   exact wpS_pure (p _ _ (l0 C P h' k e))
  ·rw[if_neg (λz=>e (beq_iff_eq.1 z))]
   have hn:=hn _ _ _ 0 (o+1) h' ha k 'a' 'a' 'a';split
   ·exact wpS_pure hn.1
   ·exact wpS_pure hn.2
theorem zT(C:MC R a₀ a b){mg d f l m:Nat}{x:Keyed}{out:Array Keyed}{Q:ForInStep H7->SortSt->Prop}(h:MH R a b out d f)(ha:0<d)(B:d<=a.size)(hb:1<f)(n:f<=b.size)(hx:a.toList[d-1]?=some x)(G:∀y∈b.toList.reverse.drop (b.size-f),R y<=R x)
  (J:∀r c,Good R a b r->Q (.done (some r,c)) st) (hn:∀g j k o p u,MH R a b k g j->0<g->g<=a.size->1<j->j<=b.size->g+j<=d+f->Q (.done (none,g,j,k,o,p,u)) st/\Q (.yield (none,g,j,k,o,p,u)) st):
  wpS 'e' A E s (hi4 a b mg l m d f out) Q st:=by
 unfold hi4;refine wpS_bind (aQ (by rw[←XE];exact hx) ?_);have h':=MH.oneA C h ha B hx G;by_cases e:d-1=0
 ·rw[if_pos (beq_iff_eq.2 e)]
  exact wpS_pure (J _ _ (lZ C h' n e))
 ·rw[if_neg (λz=>e (beq_iff_eq.1 z))]
  have hn:=hn _ _ _ mg l m h' 'a' 'a' hb n 'a';split
  ·exact wpS_pure hn.1
  ·exact wpS_pure hn.2
theorem zU(hL:Lts prog w A s kd R a₀)(hk:kindOf st=kd)(C:MC R a₀ a b)(T:∀y,b.toList[0]?=some y->∀x∈a.toList,R y<=R x){mg g f ac bc:Nat}{y:Keyed}{out:Array Keyed}{Q:ForInStep H7->SortSt->Prop}(h:MH R a b out g f)(ha:0<g)(k:g<=a.size)(hb:1<f)(GJ:f<=b.size)(hy:b.toList[f-1]?=some y)(G_:∀x∈a.toList.reverse.drop (a.size-g),R x<=R y)
  (J:∀r c,Good R a b r->Q (.done (some r,c)) st) (hn:∀p B K U V W,MH R a b K p B->0<p->p<=a.size->1<B->B<=b.size->p+B<=g+f->Q (.done (none,p,B,K,U,V,W)) st/\Q (.yield (none,p,B,K,U,V,W)) st):
  wpS 'e' A E s (hi3 a b mg ac bc f g out) Q st:=by
 unfold hi3;refine wpS_bind (aQ (by rw[←XE];exact hy) ?_);have h':=MH.oneB C h 'a' GJ hy G_;by_cases e:f-1=1
 ·rw[if_pos (beq_iff_eq.2 e)]
  exact wpS_pure (J _ _ (l0 C T h' k e))
 ·rw[if_neg (λz=>e (beq_iff_eq.1 z))]
  obtain⟨x,x1,L,x3⟩:=C.getA (i:=g-1) 'a';refine wpS_bind (aQ x1 (wpS_bind (fu (a₀:=a₀) hL hk x3 'a' (λi hi=>?_) (λi j u v G2 hj hu hv=>?_) λt ht lt ge=>?_)))
  ·obtain⟨z,z1,_,z3⟩:=C.getB (i:=0+i) 'a'
   exact⟨z,z1,z3⟩
  ·rw[←XE] at hu hv
   exact jk C.sB 'a' hu hv
  dsimp only;have Y:∀z∈b.toList.reverse.drop (b.size-t),R z<=R x:=by
   intro z hz;obtain⟨m,hm,hz⟩:=qH (l:=b.toList) (n:=t) (by rw[YF];omega) (by rw[YF];exact hz);exact Int.le_of_lt (lt m z hm (by rw[←XE,Nat.zero_add];exact hz))
  by_cases Z:f-1-t>0
  ·rw[if_pos Z]
   have h2:Mg _ _ _ _ _ _:=Mg.takeB (fv C.sB) h' (f-1-t) λz hz v hv=>by
    have G:=rY (l:=b.toList) (t:=t) (n:=f-1) ht (by rw[YF];omega);rw[YF] at G;rw[G,List.mem_reverse] at hz;obtain⟨m,hm,H9⟩:=lY hz;have g1:=ge (t+m) z 'a' 'a' (by rw[←XE,Nat.zero_add];exact H9);have g2:=oq C.sA k L v hv;have g1:R x<=R z:=g1;show -R z<=-R v;omega
   rw[←zR _ _ ht 'a',show b.size-(f-1)+(f-1-t)=b.size-t by omega] at h2;by_cases O:t=1
   ·rw[if_pos (beq_iff_eq.2 O)]
    exact wpS_pure (J _ _ (l0 C T h2 k O))
   ·rw[if_neg (λz=>O (beq_iff_eq.1 z))]
    by_cases G:t=0
    ·rw[if_pos (beq_iff_eq.2 G)]
     exact wpS_pure (J _ _ (zS C h2 k G))
    ·rw[if_neg (λz=>G (beq_iff_eq.1 z))]
     exact zT C h2 ha k 'a' 'a' L Y J λi j o m c d p1 p2 p3 P S p6=>hn i j o m c d p1 p2 p3 P S 'a'
  ·rw[if_neg Z]
   obtain rfl:t=f-1:=by omega
   exact zT C h' ha k 'a' 'a' L Y J λi j o m c d p1 p2 p3 P S p6=>hn i j o m c d p1 p2 p3 P S 'a'
theorem FM{i_:SortSt}(K:Lts prog w A s kd R a₀)(hk:kindOf i_=kd)(hg:SG i_ st)(C:MC R a₀ a b)(V:∀y,b.toList[0]?=some y->∀x∈a.toList,R y<=R x){mg f p ac bc:Nat}{out:Array Keyed}{Q:ForInStep H7->SortSt->Prop}(h:MH R a b out f p)(ha:0<f)(W:f<=a.size)(hb:1<p)(J:p<=b.size)
  (L:∀r c f_,SG i_ f_->Good R a b r->Q (.done (some r,c)) f_) (hn:∀B G O Y Z Ha f_,SG i_ f_->MH R a b O B G->0<B->B<=a.size->1<G->G<=b.size->B+G<=f+p->Q (.done (none,B,G,O,Y,Z,Ha)) f_/\Q (.yield (none,B,G,O,Y,Z,Ha)) f_):
  wpS 'e' A E s (hi2 a b f p out ac bc mg) Q st:=by
 unfold hi2;refine wpS_bind (j6 hg λf_ k=>?_);obtain⟨y,y1,P,y3⟩:=C.getB (i:=p-1) 'a';refine wpS_bind (aQ y1 (wpS_bind (fu (a₀:=a₀) K (k.kind.trans hk) y3 'a' (λi hi=>?_) (λi j u v G2 hj hu hv=>?_) λt ht lt ge=>?_)))
 ·obtain⟨z,z1,_,z3⟩:=C.getA (i:=0+i) 'a'
  exact⟨z,z1,z3⟩
 ·rw[←XE] at hu hv
  exact jk C.sA 'a' hu hv
 dsimp only;have IX:∀z∈a.toList.reverse.drop (a.size-t),R z<=R y:=by
  intro z hz;obtain⟨m,hm,hz⟩:=qH (l:=a.toList) (n:=t) (by rw[YF];omega) (by rw[YF];exact hz);exact lt m z hm (by rw[←XE,Nat.zero_add];exact hz)
 by_cases IW:f-t>0
 ·rw[if_pos IW]
  have h2:Mg _ _ _ _ _ _:=Mg.takeA (fv C.sA) h (f-t) λz hz v hv=>by
   have e3:=rY (l:=a.toList) (t:=t) (n:=f) ht (by rw[YF];omega);rw[YF] at e3;rw[e3,List.mem_reverse] at hz;obtain⟨m,hm,H9⟩:=lY hz;have g1:=ge (t+m) z 'a' 'a' (by rw[←XE,Nat.zero_add];exact H9);have g2:=oq C.sB J P v hv;have g1:R y<R z:=g1;show -R z<=-R v;omega
  rw[←zR _ _ ht W,show a.size-f+(f-t)=a.size-t by omega] at h2;by_cases S:t=0
  ·rw[if_pos (beq_iff_eq.2 S)]
   exact wpS_pure (L _ _ _ k (lZ C h2 J S))
  ·rw[if_neg (λz=>S (beq_iff_eq.1 z))]
   exact zU K (k.kind.trans hk) C V h2 'a' 'a' hb J P IX (λr c g=>L r c f_ k g) λi j o m c d p1 p2 p3 T U p6=>hn i j o m c d f_ k p1 p2 p3 T U 'a'
 ·rw[if_neg IW]
  obtain rfl:t=f:=by omega
  exact zU K (k.kind.trans hk) C V h ha W hb J P IX (λr c g=>L r c f_ k g) λi j o m c d p1 p2 p3 T U p6=>hn i j o m c d f_ k p1 p2 p3 T U 'a'
theorem FN{i_:SortSt}(hL:Lts prog w A s kd R a₀)(hk:kindOf i_=kd)(hg:SG i_ st)(C:MC R a₀ a b)(h0:∀y,b.toList[0]?=some y->∀x∈a.toList,R y<=R x){mg f k:Nat}{out:Array Keyed}{Q:ForInStep H5->SortSt->Prop}(h:MH R a b out f k)(ha:0<f)(Hv:f<=a.size)(hb:1<k)(GJ:k<=b.size)
  (hr:∀r c f_,SG i_ f_->Good R a b r->Q (.done (some r,c)) f_) (hn:∀K L u_ Hi f_,SG i_ f_->MH R a b u_ K L->0<K->K<=a.size->1<L->L<=b.size->K+L+1<=f+k->Q (.yield (none,K,L,u_,Hi)) f_):
  wpS 'e' A E s (hiB a b f k out mg) Q st:=by
 unfold hiB;refine wpS_bind (wpS_mono (wpS_forRange (I:=λx c f_=>SG i_ f_/\∃i j o p q,c=(none,i,j,o,p,q)/\MH R a b o i j/\0<i/\i<=a.size/\1<j/\j<=b.size/\i+j+x<=f+k)
  (Q:=λc f_=>SG i_ f_/\((∃r d,c=(some r,d)/\Good R a b r) \/ ∃i j o p q,c=(none,i,j,o,p,q)/\MH R a b o i j/\0<i/\i<=a.size/\1<j/\j<=b.size/\i+j+1<=f+k)) ?s1 ?f1 ⟨hg,f,k,out,0,0,rfl,h,ha,Hv,hb,GJ,by omega⟩) ?p1)
 case f1=>
  rintro c f_ ⟨_,i,j,o,p,q,rfl,l,h2,n,u,B,J⟩;omega
 case s1=>
  rintro x c f_ _ hx ⟨g,i,j,o,p,q,rfl,l,h2,n,u,B,J⟩;dsimp only;exact FK hL (g.kind.trans hk) C h0 l h2 n u B (λr d G=>⟨g,.inl ⟨r,d,rfl,G⟩⟩) λO P o' S T U V W Y Z m6=>⟨⟨g,.inr ⟨O,P,o',S,T,rfl,U,V,W,Y,Z,by omega⟩⟩,⟨g,O,P,o',S,T,rfl,U,V,W,Y,Z,by omega⟩⟩
 case p1=>
  rintro c f_ ⟨g,(⟨r,d,rfl,G⟩ | ⟨i,j,o,p,q,rfl,l,h2,n,u,B,J⟩)⟩
  ·exact wpS_pure (hr r _ f_ g G)
  ·dsimp only
   refine wpS_bind (wpS_lift (wpAny_rule ⟨rfl,?_⟩));refine wpS_bind (wpS_mono (wpS_forRange (I:=λx c f_=>SG i_ f_/\∃i j o m p q,c=(none,i,j,o,m,p,q)/\MH R a b o i j/\0<i/\i<=a.size/\1<j/\j<=b.size/\i+j+1<=f+k)
    (Q:=λc f_=>SG i_ f_/\((∃r d,c=(some r,d)/\Good R a b r) \/ ∃i j o m p q,c=(none,i,j,o,m,p,q)/\MH R a b o i j/\0<i/\i<=a.size/\1<j/\j<=b.size/\i+j+1<=f+k)) ?s2 ?f2 ⟨g,i,j,o,mg+1,p,q,rfl,l,h2,n,u,B,J⟩) ?p2)
   case f2=>
    rintro c f_ ⟨g,z⟩;exact⟨g,.inr z⟩
   case s2=>
    rintro x c f_ _ hx ⟨g,i,j,o,m,p,q,rfl,l,h2,n,u,B,J⟩;dsimp only;rw[←apply_ite (hi2 a b i j o p q)];exact FM hL hk g C h0 l h2 n u B (λr d f_ g G=>⟨g,.inl ⟨r,d,rfl,G⟩⟩) λO P o' m' S T f_ g U V W Y Z m6=>⟨⟨g,.inr ⟨O,P,o',m',S,T,rfl,U,V,W,Y,Z,by omega⟩⟩,⟨g,O,P,o',m',S,T,rfl,U,V,W,Y,Z,by omega⟩⟩
   case p2=>
    rintro c f_ ⟨g,(⟨r,d,rfl,G⟩ | ⟨i,j,o,m,p,q,rfl,l,h2,n,u,B,J⟩)⟩
    ·exact wpS_pure (hr r _ f_ g G)
    ·dsimp only
     exact wpS_bind (j6 g λf_ g=>wpS_pure (hn _ _ _ _ _ g l h2 n u B J))
theorem yl(K:Lts prog w A s kd R a₀)(hk:kindOf st=kd)(C:MC R a₀ a b)(hl:∀y∈b.toList,∀x∈a.toList.drop (a.size-1),R y<=R x)(n:∀y,b.toList[0]?=some y->∀x∈a.toList,R y<=R x){Q:Array Keyed->SortSt->Prop}(h:∀r f_,SG st f_->Good R a b r->Q r f_):
  wpS 'e' A E s (pE a b) Q st:=by
 have L:=C.nA;have hB:=C.nB;rw[wn];refine wpS_bind (wpS_lift (wpAny_rule ⟨rfl,?_⟩));obtain⟨x,O,p,x3⟩:=C.getA (i:=a.size-1) 'a';refine wpS_bind (aQ O ?_);have P:MH R a b #[] a.size b.size:=by
  show Mg _ _ _ _ (a.size-a.size) (b.size-b.size);rw[Nat.sub_self,Nat.sub_self];exact⟨List.Perm.refl _,.nil,(λx hx=>by cases hx),λx hx=>by cases hx⟩
 have f:MH R a b #[x] (a.size-1) b.size:=MH.oneA C P L (YH _) p λy hy=>hl y (List.mem_reverse.1 (List.mem_of_mem_drop hy)) x (YV (i:=0) (by rw[List.getElem?_drop];exact p))
 by_cases e:a.size-1=0
 ·rw[if_pos (beq_iff_eq.2 e)]
  exact wpS_pure (h _ _ (SG.refl _) (lZ C f (YH _) e))
 ·rw[if_neg (λz=>e (beq_iff_eq.1 z))]
  by_cases k:b.size=1
  ·rw[if_pos (beq_iff_eq.2 k)]
   exact wpS_pure (h _ _ (SG.refl _) (l0 C n f 'a' k))
  ·rw[if_neg (λz=>k (beq_iff_eq.1 z))]
   refine wpS_bind (wpS_get ?_);refine wpS_bind (wpS_mono (wpS_forRange (I:=λx c f_=>SG st f_/\∃i j o m,c=(none,i,j,o,m)/\MH R a b o i j/\0<i/\i<=a.size/\1<j/\j<=b.size/\i+j+x<=a.size+b.size)
    (Q:=λc f_=>SG st f_/\∃r d,c=(some r,d)/\Good R a b r) ?sx ?fx ⟨SG.refl _,_,_,_,_,rfl,f,by omega,by omega,by omega,by omega,by omega⟩) ?px)
   case fx=>
    rintro c f_ ⟨_,i,j,o,m,rfl,u,h2,B,G,J,S⟩;omega
   case sx=>
    rintro x c f_ _ hx ⟨g,i,j,o,m,rfl,u,h2,B,G,J,S⟩;dsimp only;exact FN K hk g C n u h2 B G J (λr d f_ g l=>⟨g,r,d,rfl,l⟩) λT U o' V f_ g f W Y Z m5 m6=>⟨g,T,U,o',V,rfl,f,W,Y,Z,m5,by omega⟩
   case px=>
    rintro c f_ ⟨g,r,d,rfl,l⟩;exact wpS_pure (h r f_ g l)
end
def wr(base:Nat)(r:List Keyed)(b:Nat)(xs:Array Keyed):Array Keyed:=(r.zipIdx b).foldl (λa (p,j)=>a.setIfInBounds (base+j) p) xs
theorem uZ(base:Nat):∀(r:List Keyed) (a:Nat) (xs:Array Keyed),base+a+r.length<=xs.size->∀k:Nat,(wr base r a xs)[k]?=if base+a<=k/\k<base+a+r.length then r[k-(base+a)]? else xs[k]?
 |[],a,xs,_,k=>by
  show xs[k]?=_;rw[if_neg (by simp only[YW];omega)]
 |p::r,a,xs,h,k=>by
  rw[YK] at h;show(wr base r (a+1) (xs.setIfInBounds (base+a) p))[k]?=_;rw[uZ base r (a+1) _ (by rw[Array.size_setIfInBounds];omega) k,YK];by_cases b:base+(a+1)<=k/\k<base+(a+1)+r.length
  ·rw[if_pos b,if_pos 'a',show k-(base+a)=(k-(base+(a+1)))+1 by omega,List.getElem?_cons_succ]
  ·rw[if_neg b]
   by_cases h2:k=base+a
   ·subst h2
    rw[if_pos 'a',Nat.sub_self,List.getElem?_cons_zero,Array.getElem?_setIfInBounds,if_pos rfl,if_pos 'a']
   ·rw[if_neg 'a',Array.getElem?_setIfInBounds,if_neg 'a']
def Srt(R:Keyed->Int)(xs:Array Keyed)(lo hi:Nat):Prop:=∀i j x y,lo<=i->i<=j->j<hi->xs[i]?=some x->xs[j]?=some y->R x<=R y
structure SB (kd:SortKind) (a₀:Array Keyed) (st:SortSt):Prop where
 perm:(arrOf st).Perm a₀
 kind:kindOf st=kd
 fail:failedOf st=none
def wo (i:Nat):mergeAt' i = (do
  let s ← get
  match (pendingOf s)[i]?,(pendingOf s)[i + 1]? with
  | some (sa,c,b),some (a,d,_)=>do
    set (setPending s (((pendingOf s).setIfInBounds i (sa,c + d,b)).eraseIdxIfInBounds (i + 1)))
    let y ← elem' (arrOf s) a
    match ← fq false y (arrOf s) sa c 0 with
    | some k=>
      if (c - k == 0) = true then pure true
      else do
        let x ← elem' (arrOf s) (sa + k + (c - k) - 1)
        match ← fq true x (arrOf s) a d (d - 1) with
        | some t=>
          if (t == 0) = true then pure true
          else do
            let r ← if c - k<=t then pB ((arrOf s).extract (sa + k) a) ((arrOf s).extract a (a + t)) else pE ((arrOf s).extract (sa + k) a) ((arrOf s).extract a (a + t))
            modify λs=>setArr s (wr (sa + k) r.toList 0 (arrOf s))
            let s ← get
            pure (failedOf s).isNone
        | _=>pure false
    | _=>pure false
  | _,_=>unsupported "internal:list.sort.pending"):=by kernel_rfl
section
variable {prog:Zw}{w:World}{A:Around}{E:Zb}{s:Shared}{kd:SortKind}{R:Keyed->Int}{a₀:Array Keyed}{st:SortSt}
theorem D1{σ:Type}{M:Model}{x st:σ}{Q:PUnit->σ->Prop}(h:Q ⟨⟩ x):wpS M A E s (set x:StateT σ Sem PUnit) Q st:=by
 unfold wpS;rw[StateT.run_set];exact Yc ⟨rfl,h⟩
theorem SB.size(h:SB kd a₀ st):(arrOf st).size=a₀.size:=h.perm.size_eq
theorem SB.at(h:SB kd a₀ st){i:Nat}(hi:i<a₀.size):∃x,(arrOf st)[i]?=some x/\x∈a₀.toList:=by
 have a:i<(arrOf st).size:=by rw[h.size];exact hi
 exact⟨_,getElem?_pos _ i a,(Array.perm_iff_toList_perm.mp h.perm).mem_iff.mp (by simp)⟩
theorem lu(xs:Array Keyed)(i j k:Nat)(h:j<=xs.size)(hk:k<j-i):(xs.extract i j).toList[k]?=xs[i+k]?:=by
 rw[Array.toList_extract,List.extract_eq_take_drop,List.getElem?_take,if_pos hk,List.getElem?_drop,XE]
theorem pG(xs:Array Keyed)(i j:Nat)(h:j<=xs.size):(xs.extract i j).size=j-i:=by rw[Array.size_extract];omega
theorem jm(xs:Array Keyed)(i j:Nat)(h:j<=xs.size):(xs.extract i j).toList.length=j-i:=by rw[YF,pG xs i j h]
theorem lw{xs:Array Keyed}{i j:Nat}{x:Keyed}(h:j<=xs.size)(hx:x∈(xs.extract i j).toList):∃k,i<=k/\k<j/\xs[k]?=some x:=by
 obtain⟨m,hm⟩:=XW hx;have hl:=(YE.mp hm).1;rw[jm xs i j h] at hl;rw[lu xs i j m h hl] at hm;exact⟨i+m,by omega,by omega,hm⟩
theorem xx{xs:Array Keyed}{i j:Nat}(h:j<=xs.size)(a:Srt R xs i j):(xs.extract i j).toList.Pairwise λx y=>R x<=R y:=by
 rw[List.pairwise_iff_getElem];intro p q hp hq b;rw[jm xs i j h] at hp hq;refine a (i+p) (i+q) _ _ 'a' 'a' 'a' ?_ ?_
 ·rw[←lu xs i j p h hp];exact ZE _
 ·rw[←lu xs i j q h hq];exact ZE _
theorem D2{xs:Array Keyed}{p q:Nat}{r:List Keyed}(d:p<=q)(h2:q<=xs.size)(a:r.Perm (xs.extract p q).toList):(wr p r 0 xs).Perm xs:=by
 have hl:r.length=q-p:=by rw[a.length_eq,jm xs p q h2]
 have hx:xs.toList=xs.toList.take p++((xs.extract p q).toList++xs.toList.drop q):=by
  rw[Array.toList_extract,List.extract_eq_take_drop];have:xs.toList.drop q=(xs.toList.drop p).drop (q-p):=by rw[List.drop_drop,show p+(q-p)=q by omega]
  rw[this,XZ,XZ]
 have hw:(wr p r 0 xs).toList=xs.toList.take p++(r++xs.toList.drop q):=by
  refine List.ext_getElem? λk=>?_
  rw[XE,uZ p r 0 xs 'a' k];have b:(xs.toList.take p).length=p:=by rw[YU,YF];omega
  by_cases c:k<p
  ·rw[if_neg 'a',ZF 'a',List.getElem?_take,if_pos c,XE]
  ·rw[ZI 'a',b]
   by_cases f:k<q
   ·rw[if_pos 'a',ZF 'a'];rfl
   ·rw[if_neg 'a',ZI 'a',List.getElem?_drop,XE,hl,show q+(k-p-(q-p))=k by omega]
 rw[Array.perm_iff_toList_perm,hw];refine List.Perm.trans (List.Perm.append_left _ (a.append_right _)) ?_;rw[←hx]
theorem ym (V:Lts prog w A s kd R a₀) (l:SB kd a₀ st) {i sa b p o q:Nat} (h1:(pendingOf st)[i]? = some (sa,b,p)) (h2:(pendingOf st)[i + 1]? = some (sa + b,o,q)) (Od:0 < b) (TC:0 < o) (hsz:sa + b + o<=a₀.size) (s1:Srt R (arrOf st) sa (sa + b)) (s2:Srt R (arrOf st) (sa + b) (sa + b + o))
    {Q:Bool->SortSt->Prop} (h:∀ f_,SB kd a₀ f_->pendingOf f_ = ((pendingOf st).setIfInBounds i (sa,b + o,p)).eraseIdxIfInBounds (i + 1)->Srt R (arrOf f_) sa (sa + b + o)->(∀ k,k < sa \/ sa + b + o<=k->(arrOf f_)[k]? = (arrOf st)[k]?)->Q true f_) :
    wpS 'e' A E s (mergeAt' i) Q st:=by
  have sz:=l.size
  rw [wo]
  refine wpS_bind (wpS_get ?_)
  rw [h1,h2]
  dsimp only
  refine wpS_bind (D1 ?_)
  generalize Hx:setPending st (((pendingOf st).setIfInBounds i (sa,b + o,p)).eraseIdxIfInBounds (i + 1)) = JE
  have T:arrOf JE = arrOf st:=by rw [← Hx]
  have p1:pendingOf JE = ((pendingOf st).setIfInBounds i (sa,b + o,p)).eraseIdxIfInBounds (i + 1):=by rw [← Hx]
  have O:SB kd a₀ JE:=by rw [← Hx]; exact ⟨l.perm,l.kind,l.fail⟩
  obtain ⟨y,Y,y3⟩:=l.at (i:=sa + b) 'a'
  refine wpS_bind (aQ Y (wpS_bind (fu (a₀:=a₀) V O.kind y3 Od (λm hm=>l.at 'a') (λm n u v d f hu hv=>s1 (sa + m) (sa + n) u v 'a' 'a' 'a' hu hv) λk hk lt ge=>?_)))
  dsimp only
  have Z:∀ m v,sa<=m->m < sa + k->(arrOf st)[m]? = some v->R v<=R y:=λm v d f hv=>lt (m - sa) v 'a' (by rw [show sa + (m - sa) = m by omega]; exact hv)
  have Qa:∀ m v,sa + k<=m->m < sa + b->(arrOf st)[m]? = some v->R y < R v:=λm v d f hv=>ge (m - sa) v 'a' 'a' (by rw [show sa + (m - sa) = m by omega]; exact hv)
  have yB:∀ m v,sa + b<=m->m < sa + b + o->(arrOf st)[m]? = some v->R y<=R v:=λm v d f hv=>s2 (sa + b) m y v 'a' d f Y hv
  by_cases e1:b - k = 0
  · rw [if_pos (beq_iff_eq.2 e1)]
    refine wpS_pure (h JE O p1 ?_ λk _=>by rw [T])
    rw [T]
    intro m n u v d f j hu hv
    by_cases S:n < sa + b
    · exact s1 m n u v d f S hu hv
    · by_cases K:m < sa + b
      · exact Int.le_trans (Z m u d 'a' hu) (yB n v 'a' j hv)
      · exact s2 m n u v 'a' f j hu hv
  · rw [if_neg (λz=>e1 (beq_iff_eq.1 z))]
    have ex:sa + k + (b - k) - 1 = sa + b - 1:=by omega
    rw [ex]
    obtain ⟨x,x1,x3⟩:=l.at (i:=sa + b - 1) 'a'
    refine wpS_bind (aQ x1 (wpS_bind (fu (a₀:=a₀) V O.kind x3 'a' (λm hm=>l.at 'a') (λm n u v d f hu hv=>s2 (sa + b + m) (sa + b + n) u v 'a' 'a' 'a' hu hv) λt ht RI RJ=>?_)))
    dsimp only
    have Qb:∀ m v,sa + b<=m->m < sa + b + t->(arrOf st)[m]? = some v->R v < R x:=λm v d f hv=>RI (m - (sa + b)) v 'a' (by rw [show sa + b + (m - (sa + b)) = m by omega]; exact hv)
    have Qc:∀ m v,sa + b + t<=m->m < sa + b + o->(arrOf st)[m]? = some v->R x<=R v:=λm v d f hv=>RJ (m - (sa + b)) v 'a' 'a' (by rw [show sa + b + (m - (sa + b)) = m by omega]; exact hv)
    have xA:∀ m v,sa<=m->m < sa + b->(arrOf st)[m]? = some v->R v<=R x:=λm v d f hv=>s1 m (sa + b - 1) v x d 'a' 'a' hv x1
    by_cases e2:t = 0
    · rw [if_pos (beq_iff_eq.2 e2)]
      refine wpS_pure (h JE O p1 ?_ λk _=>by rw [T])
      rw [T]
      intro m n u v d f j hu hv
      by_cases S:n < sa + b
      · exact s1 m n u v d f S hu hv
      · by_cases K:m < sa + b
        · exact Int.le_trans (xA m u d K hu) (Qc n v 'a' j hv)
        · exact s2 m n u v 'a' f j hu hv
    · rw [if_neg (λz=>e2 (beq_iff_eq.1 z))]
      have P:sa + b<=(arrOf st).size:=by omega
      have L:sa + b + t<=(arrOf st).size:=by omega
      have z1:=pG (arrOf st) (sa + k) (sa + b) P
      have z2:=pG (arrOf st) (sa + b) (sa + b + t) L
      have C:MC R a₀ ((arrOf st).extract (sa + k) (sa + b)) ((arrOf st).extract (sa + b) (sa + b + t)):=by
        refine ⟨xx P λm n u v d f j=>s1 m n u v 'a' f j,xx L λm n u v d f j=>s2 m n u v d f 'a',λv hv=>?_,λv hv=>?_,by omega,by omega⟩
        · obtain ⟨m,d,f,j⟩:=lw P hv
          obtain ⟨v',B,G⟩:=l.at (i:=m) 'a'
          rw [j] at B; cases B; exact G
        · obtain ⟨m,d,f,j⟩:=lw L hv
          obtain ⟨v',B,G⟩:=l.at (i:=m) 'a'
          rw [j] at B; cases B; exact G
      have hl:∀ v ∈ ((arrOf st).extract (sa + b) (sa + b + t)).toList,∀ u ∈ ((arrOf st).extract (sa + k) (sa + b)).toList.drop (((arrOf st).extract (sa + k) (sa + b)).size - 1),R v<=R u:=by
        intro v hv u hu
        obtain ⟨m,d,f,j⟩:=lw L hv
        obtain ⟨n,B,G⟩:=pC hu
        rw [jm _ _ _ P] at G
        rw [z1] at B G
        rw [lu _ _ _ _ P G,show sa + k + (sa + b - (sa + k) - 1 + n) = sa + b - 1 by omega,x1] at B
        cases B
        exact Int.le_of_lt (Qb m v d f j)
      have h0:∀ v,((arrOf st).extract (sa + b) (sa + b + t)).toList[0]? = some v->∀ u ∈ ((arrOf st).extract (sa + k) (sa + b)).toList,R v<=R u:=by
        intro v hv u hu
        rw [lu _ _ _ _ L 'a',Nat.add_zero,Y] at hv
        cases hv
        obtain ⟨m,d,f,j⟩:=lw P hu
        exact Int.le_of_lt (Qa m u d f j)
      have fin:∀ (r:Array Keyed) (J:SortSt),SG JE J->Good R ((arrOf st).extract (sa + k) (sa + b)) ((arrOf st).extract (sa + b) (sa + b + t)) r->wpS 'e' A E s (do
          modify λs=>setArr s (wr (sa + k) r.toList 0 (arrOf s))
          let s ← get
          pure (failedOf s).isNone) Q J:=by
        intro r J g hr
        have IY:r.toList.length = (b - k) + t:=by
          rw [hr.1.length_eq,ZM,jm _ _ _ P,jm _ _ _ L]; omega
        have Qd:r.toList.Perm ((arrOf st).extract (sa + k) (sa + b + t)).toList:=by
          refine hr.1.trans ?_
          rw [Array.toList_extract,Array.toList_extract,Array.toList_extract,List.extract_eq_take_drop,List.extract_eq_take_drop,List.extract_eq_take_drop]
          rw [show sa + b + t - (sa + k) = (sa + b - (sa + k)) + (sa + b + t - (sa + b)) by omega,List.take_add,List.drop_drop,show sa + k + (sa + b - (sa + k)) = sa + b by omega]
        refine wpS_bind (wpS_modify (wpS_bind (wpS_get ?_)))
        have ef:failedOf J = none:=g.fail.trans O.fail
        have ea:arrOf J = arrOf st:=g.arr.trans T
        show wpS _ _ _ _ (pure (failedOf J).isNone) Q _
        rw [ef]
        have wg:=uZ (sa + k) r.toList 0 (arrOf st) (by rw [IY]; omega)
        rw [IY] at wg
        refine wpS_pure (h _ ⟨?_,g.kind.trans O.kind,ef⟩ (g.pend.trans p1) ?_ λm hm=>?_)
        · show (wr (sa + k) r.toList 0 (arrOf J)).Perm a₀
          rw [ea]
          exact (D2 'a' L Qd).trans l.perm
        · show Srt R (wr (sa + k) r.toList 0 (arrOf J)) _ _
          rw [ea]
          intro m n u v d f j hu hv
          rw [wg] at hu hv
          -- where a place of the merged ones comes from
          have Qe:∀ (m:Nat) (u:Keyed),r.toList[m]? = some u->R y<=R u/\R u<=R x:=by
            intro m u hu
            obtain ⟨U,B,G,W⟩:=lw L (Qd.mem_iff.1 (YV hu))
            by_cases c:U < sa + b
            · exact ⟨Int.le_of_lt (Qa U u B c W),xA U u 'a' c W⟩
            · exact ⟨yB U u 'a' 'a' W,Int.le_of_lt (Qb U u 'a' G W)⟩
          by_cases S:sa + k + 0<=m/\m < sa + k + 0 + (b - k + t)
          · rw [if_pos S] at hu
            by_cases K:sa + k + 0<=n/\n < sa + k + 0 + (b - k + t)
            · rw [if_pos K] at hv
              exact jk hr.2 'a' hu hv
            · rw [if_neg K] at hv
              exact Int.le_trans (Qe _ u hu).2 (Qc n v 'a' j hv)
          · rw [if_neg S] at hu
            by_cases K:sa + k + 0<=n/\n < sa + k + 0 + (b - k + t)
            · rw [if_pos K] at hv
              exact Int.le_trans (Z m u d 'a' hu) (Qe _ v hv).1
            · rw [if_neg K] at hv
              by_cases c3:m < sa + k
              · by_cases c4:n < sa + b
                · exact s1 m n u v d f c4 hu hv
                · exact Int.le_trans (Z m u d c3 hu) (yB n v 'a' j hv)
              · exact s2 m n u v 'a' f j hu hv
        · show (wr (sa + k) r.toList 0 (arrOf J))[m]? = _
          rw [ea,wg,if_neg 'a']
      have g1:kindOf JE = kd:=O.kind
      by_cases c:b - k<=t
      · rw [if_pos c]
        exact wpS_bind (yk V g1 C hl h0 fin)
      · rw [if_neg c]
        exact wpS_bind (yl V g1 C hl h0 fin)
end
def kk(R:Keyed->Int)(xs:Array Keyed)(i:Nat):Int:=match xs[i]? with
 |some p=>R p
 |none=>0
abbrev N2:Type:=Option (Option Nat)×Nat
abbrev N3:Type:=Option (Option Nat)×Nat×Nat
def asc(lo a d:Nat):StateT SortSt Sem N2:=forIn [a:d] ((none,a):N2) λ_ c=>do
 match ←ltAt' (lo+c.2) (lo+c.2-1) with
 |some b=>if b=true then pure (.done (none,c.2)) else pure (.yield (none,c.2+1))
 |_=>pure (.done (some none,c.2))
def tl3 (lo n a:Nat):StateT SortSt Sem (Option Nat):=do
  reverseSlice' lo (lo + n)
  let c ← asc lo n a
  match c.1 with
  | some r=>pure r
  | none=>pure (some c.2)
def desc (lo n a:Nat):StateT SortSt Sem N3:=forIn [n:a] ((none,n,0):N3) λ_ c=>do
  match ← ltAt' (lo + c.2.1) (lo + c.2.1 - 1) with
  | some b=>
    if b = true then
      if c.2.2 > 0 then do
        reverseSlice' (lo + c.2.1 - (c.2.2 + 1)) (lo + c.2.1)
        pure (.yield (none,c.2.1 + 1,0))
      else pure (.yield (none,c.2.1 + 1,0))
    else do
      match ← ltAt' (lo + c.2.1 - 1) (lo + c.2.1) with
      | some b=>if b = true then pure (.done (none,c.2.1,c.2.2)) else pure (.yield (none,c.2.1 + 1,c.2.2 + 1))
      | _=>pure (.done (some none,c.2.1,c.2.2))
  | _=>pure (.done (some none,c.2.1,c.2.2))
def dsc (lo n a:Nat):StateT SortSt Sem (Option Nat):=do
  liftM (rule "list.sort.descending-run")
  let c ← desc lo (n + 1) a
  match c.1 with
  | some r=>pure r
  | none=>
    if c.2.2 > 0 then do
      reverseSlice' (lo + c.2.1 - (c.2.2 + 1)) (lo + c.2.1)
      tl3 lo c.2.1 a
    else tl3 lo c.2.1 a
theorem u3 (lo a:Nat):countRun' lo a = (do
  let c ← asc lo 1 a
  match c.1 with
  | some r=>pure r
  | none=>
    if (c.2 == a) = true then pure (some c.2)
    else if c.2 > 1 then do
      match ← ltAt' lo (lo + c.2 - 1) with
      | some b=>if b = true then pure (some c.2) else do
          reverseSlice' lo (lo + c.2)
          dsc lo c.2 a
      | _=>pure none
    else dsc lo c.2 a):=by kernel_rfl
structure Ins (kd:SortKind) (a₀:Array Keyed) (i_:SortSt) (lo hi:Nat) (st:SortSt):Prop extends SB kd a₀ st where
 pend:pendingOf st=pendingOf i_
 out:∀k,k<lo\/hi<=k->(arrOf st)[k]?=(arrOf i_)[k]?
section
variable {prog:Zw}{w:World}{A:Around}{E:Zb}{s:Shared}{kd:SortKind}{R:Keyed->Int}{a₀:Array Keyed}{st i_:SortSt}{lo hi:Nat}
theorem Ins.set(h:Ins kd a₀ i_ lo hi st){xs:Array Keyed}(hp:xs.Perm (arrOf st))(ho:∀k,k<lo\/hi<=k->xs[k]?=(arrOf st)[k]?):Ins kd a₀ i_ lo hi (setArr st xs):=
 ⟨⟨hp.trans h.perm,h.kind,h.fail⟩,h.pend,λk hk=>(ho k hk).trans (h.out k hk)⟩
theorem Ins.rev(h:Ins kd a₀ i_ lo hi st){i j:Nat}(a:lo<=i)(h2:j<=hi)(b:hi<=a₀.size):Ins kd a₀ i_ lo hi (setArr st (mirror (arrOf st) i j ((j-i) / 2))):=
 h.set (mirror_perm _ _ _ _) λk hk=>by rw[getElem?_mirror_all (by rw[h.toSB.size];omega),if_neg 'a']
theorem qI{i j:Nat}{Q:Unit->SortSt->Prop}(h:Q () (setArr st (mirror (arrOf st) i j ((j-i) / 2)))):wpS 'e' A E s (reverseSlice' i j) Q st:=by
 rw[reverseSlice'_eq];exact wpS_modify h
theorem wp_at(d:Lts prog w A s kd R a₀)(a:SB kd a₀ st){i j:Nat}{Q:Option Bool->SortSt->Prop}(hi:i<a₀.size)(f:j<a₀.size)(h:Q (some (decide (kk R (arrOf st) i<kk R (arrOf st) j))) st):wpS 'e' A E s (ltAt' i j) Q st:=by
 obtain⟨x,b,g⟩:=a.at hi;obtain⟨y,c,k⟩:=a.at f;unfold kk at h;rw[b,c] at h;rw[ltAt'_eq];exact wpS_bind (wpS_get (wpS_bind (aQ b (wpS_bind (aQ c (qG d a.kind g k h))))))
theorem qJ{xs ys:Array Keyed}{i j:Nat}(h:xs[i]?=ys[j]?):kk R xs i=kk R ys j:=by unfold kk;rw[h]
theorem u4{xs:Array Keyed}{i j:Nat}(a:j<=xs.size)(k:Nat):kk R (mirror xs i j ((j-i) / 2)) k=if i<=k/\k<j then kk R xs (i+j-1-k) else kk R xs k:=by
 have e:=getElem?_mirror_all (i:=i) a k;by_cases c:i<=k/\k<j
 ·rw[if_pos c] at e ⊢;exact qJ e
 ·rw[if_neg c] at e ⊢;exact qJ e
theorem jn{xs:Array Keyed}{i j:Nat}(b:j<=xs.size)(a:∀k,i<=k->k<j->kk R xs k=kk R xs (j-1))(k:Nat):kk R (mirror xs i j ((j-i) / 2)) k=kk R xs k:=by
 rw[u4 b];split
 ·rw[a _ 'a' 'a',a k 'a' 'a']
 ·rfl
def Up(R:Keyed->Int)(xs:Array Keyed)(lo n:Nat):Prop:=∀i j,i<=j->j<n->kk R xs (lo+i)<=kk R xs (lo+j)
def Dn(R:Keyed->Int)(xs:Array Keyed)(lo n:Nat):Prop:=∀i j,i<=j->j<n->kk R xs (lo+j)<=kk R xs (lo+i)
theorem Up.srt{xs:Array Keyed}{n:Nat}(h:Up R xs lo n):Srt R xs lo (lo+n):=λi j x y a h2 b hx hy=>by
 have:=h (i-lo) (j-lo) 'a' 'a'
 rw[show lo+(i-lo)=i by omega,show lo+(j-lo)=j by omega] at this;unfold kk at this;rw[hx,hy] at this;exact this
theorem Up.more{xs:Array Keyed}{n:Nat}(h:Up R xs lo n)(a:n=0\/kk R xs (lo+n-1)<=kk R xs (lo+n)):Up R xs lo (n+1):=by
 intro i j b f;by_cases c:j<n
 ·exact h i j b c
 ·obtain rfl:j=n:=by omega
  by_cases d:i=j
  ·subst d;exact Int.le_refl _
  ·have:=h i (j-1) 'a' 'a'
   rw[show lo+(j-1)=lo+j-1 by omega] at this;exact Int.le_trans this (a.resolve_left 'a')
theorem Dn.more{xs:Array Keyed}{n:Nat}(h:Dn R xs lo n)(a:n=0\/kk R xs (lo+n)<=kk R xs (lo+n-1)):Dn R xs lo (n+1):=by
 intro i j b f;by_cases c:j<n
 ·exact h i j b c
 ·obtain rfl:j=n:=by omega
  by_cases d:i=j
  ·subst d;exact Int.le_refl _
  ·have:=h i (j-1) 'a' 'a'
   rw[show lo+(j-1)=lo+j-1 by omega] at this;exact Int.le_trans (a.resolve_left 'a') this
theorem zV(f:Lts prog w A s kd R a₀)(g:SB kd a₀ st){a b:Nat}{Q:N2->SortSt->Prop}(hn:lo+b<=a₀.size)(ha:1<=a)(j:a<=b)(k:Up R (arrOf st) lo a)
  (h:∀n,a<=n->n<=b->Up R (arrOf st) lo n->(n=b\/kk R (arrOf st) (lo+n)<kk R (arrOf st) (lo+n-1))->Q (none,n) st):wpS 'e' A E s (asc lo a b) Q st:=by
 unfold asc;refine wpS_forRange (I:=λx c f_=>f_=st/\c=(none,x)/\Up R (arrOf st) lo x) ?step ?fin ⟨rfl,rfl,k⟩
 case fin=>
  rintro c f_ ⟨rfl,rfl,d⟩;rw[show max a b=b by omega] at d ⊢;exact h b j (YH _) d (.inl rfl)
 case step=>
  rintro x c f_ l m ⟨rfl,rfl,d⟩;dsimp only;refine wpS_bind (wp_at f g 'a' 'a' ?_);by_cases c:kk R (arrOf f_) (lo+x)<kk R (arrOf f_) (lo+x-1)
  ·rw[YX c]
   exact wpS_pure (h x l 'a' d (.inr c))
  ·rw[ZS c]
   exact wpS_pure ⟨rfl,rfl,d.more (.inr (Int.not_lt.1 c))⟩
theorem zW(d:Lts prog w A s kd R a₀){n a:Nat}{Q:Option Nat->SortSt->Prop}(b:Ins kd a₀ i_ lo (lo+a) st)(hn:lo+a<=a₀.size)(f:1<=n)(g:n<=a)(k:Dn R (arrOf st) lo n)
  (h:∀m f_,Ins kd a₀ i_ lo (lo+a) f_->1<=m->m<=a->Up R (arrOf f_) lo m->Q (some m) f_):wpS 'e' A E s (tl3 lo n a) Q st:=by
 unfold tl3;have hz:lo+n<=(arrOf st).size:=by rw[b.toSB.size];omega
 have c:=b.rev (i:=lo) (j:=lo+n) (YH _) 'a' hn;refine wpS_bind (qI (wpS_bind (zV d c.toSB hn f g ?_ λm p l o _=>wpS_pure (h m _ c 'a' l o))));intro i j r u;show kk R (mirror (arrOf st) lo (lo+n) ((lo+n-lo) / 2)) _<=kk R (mirror (arrOf st) lo (lo+n) ((lo+n-lo) / 2)) _;rw[u4 hz,u4 hz,if_pos 'a',if_pos 'a']
 have:=k (n-1-j) (n-1-i) 'a' 'a'
 rw[show lo+(n-1-j)=lo+(lo+n)-1-(lo+j) by omega,show lo+(n-1-i)=lo+(lo+n)-1-(lo+i) by omega] at this;exact this
theorem D4(o:Lts prog w A s kd R a₀){n b:Nat}{Q:N3->SortSt->Prop}(u:Ins kd a₀ i_ lo (lo+b) st)(hn:lo+b<=a₀.size)(l:1<=n)(y:n<=b)(z:Dn R (arrOf st) lo n)
  (h:∀m a f_,Ins kd a₀ i_ lo (lo+b) f_->n<=m->m<=b->Dn R (arrOf f_) lo m->a+1<=m->(∀k,lo+m-(a+1)<=k->k<lo+m->kk R (arrOf f_) k=kk R (arrOf f_) (lo+m-1))->Q (none,m,a) f_):wpS 'e' A E s (desc lo n b) Q st:=by
 unfold desc;refine wpS_forRange (I:=λx c f_=>∃a,c=(none,x,a)/\Ins kd a₀ i_ lo (lo+b) f_/\Dn R (arrOf f_) lo x/\a+1<=x/\(∀k,lo+x-(a+1)<=k->k<lo+x->kk R (arrOf f_) k=kk R (arrOf f_) (lo+x-1))) ?step ?fin ⟨0,rfl,u,z,by omega,λk l h2=>by congr 1;omega⟩
 case fin=>
  rintro c f_ ⟨a,rfl,d,g,hq,f⟩;rw[show max n b=b by omega] at g hq f ⊢;exact h b a f_ d y (YH _) g hq f
 case step=>
  rintro x c f_ B K ⟨a,rfl,d,g,hq,f⟩;dsimp only;have hz:lo+x<=(arrOf f_).size:=by rw[d.toSB.size];omega
  refine wpS_bind (wp_at o d.toSB 'a' 'a' ?_);by_cases c:kk R (arrOf f_) (lo+x)<kk R (arrOf f_) (lo+x-1)
  ·rw[YX c]
   dsimp only;rw[if_pos rfl];have go:=g.more (.inr (Int.le_of_lt c));by_cases p:a>0
   ·rw[if_pos p]
    refine wpS_bind (qI (wpS_pure ⟨0,rfl,d.rev 'a' 'a' hn,λi j C G=>?_,by omega,λk l h2=>by congr 1;omega⟩));show kk R (mirror (arrOf f_) _ _ _) _<=kk R (mirror (arrOf f_) _ _ _) _;rw[jn hz f,jn hz f];exact go i j C G
   ·rw[if_neg p]
    exact wpS_pure ⟨0,rfl,d,go,by omega,λk l h2=>by congr 1;omega⟩
  ·rw[ZS c]
   dsimp only;rw[if_neg 'b'];refine wpS_bind (wp_at o d.toSB 'a' 'a' ?_);by_cases r:kk R (arrOf f_) (lo+x-1)<kk R (arrOf f_) (lo+x)
   ·rw[YX r]
    exact wpS_pure (h x a f_ d B 'a' g hq f)
   ·rw[ZS r]
    have hx:kk R (arrOf f_) (lo+x)=kk R (arrOf f_) (lo+x-1):=by omega
    refine wpS_pure ⟨a+1,rfl,d,g.more (.inr 'a'),by omega,λk l h2=>?_⟩;rw[show lo+(x+1)-1=lo+x by omega];by_cases J:k=lo+x
    ·rw[J]
    ·rw[hx];exact f k 'a' 'a'
theorem zX(b:Lts prog w A s kd R a₀){n a:Nat}{Q:Option Nat->SortSt->Prop}(l:Ins kd a₀ i_ lo (lo+a) st)(hn:lo+a<=a₀.size)(o:n+1<=a)(p:Dn R (arrOf st) lo (n+1))
  (h:∀m f_,Ins kd a₀ i_ lo (lo+a) f_->1<=m->m<=a->Up R (arrOf f_) lo m->Q (some m) f_):wpS 'e' A E s (dsc lo n a) Q st:=by
 unfold dsc;refine wpS_bind (wpS_lift (wpAny_rule ⟨rfl,?_⟩));refine wpS_bind (D4 b l hn 'a' o p λm r f_ c z d f hq g=>?_);dsimp only;have hz:lo+m<=(arrOf f_).size:=by rw[c.toSB.size];omega
 by_cases k:r>0
 ·rw[if_pos k]
  refine wpS_bind (qI (zW b (c.rev 'a' 'a' hn) hn 'a' d (λi j u y=>?_) h));show kk R (mirror (arrOf f_) _ _ _) _<=kk R (mirror (arrOf f_) _ _ _) _;rw[jn hz g,jn hz g];exact f i j u y
 ·rw[if_neg k]
  exact zW b c hn 'a' d f h
theorem wp(b:Lts prog w A s kd R a₀){a:Nat}{Q:Option Nat->SortSt->Prop}(d:SB kd a₀ st)(hn:lo+a<=a₀.size)(K:1<=a)
  (h:∀m f_,Ins kd a₀ st lo (lo+a) f_->1<=m->m<=a->Up R (arrOf f_) lo m->Q (some m) f_):wpS 'e' A E s (countRun' lo a) Q st:=by
 have f:Ins kd a₀ st lo (lo+a) st:=⟨d,rfl,λ_ _=>rfl⟩;rw[u3];refine wpS_bind (zV b d hn (YH 1) K (λi j g l=>by cases(show i=j by omega);exact Int.le_refl _) λn u y o L=>?_);dsimp only;by_cases r:n=a
 ·rw[if_pos (beq_iff_eq.2 r)]
  exact wpS_pure (h n st f u y o)
 ·rw[if_neg (λz=>r (beq_iff_eq.1 z))]
  have B:=L.resolve_left r;have hz:lo+n<=(arrOf st).size:=by rw[d.size];omega
  by_cases C:n>1
  ·rw[if_pos C]
   refine wpS_bind (wp_at b d 'a' 'a' ?_);by_cases c:kk R (arrOf st) lo<kk R (arrOf st) (lo+n-1)
   ·rw[YX c]
    exact wpS_pure (h n st f u y o)
   ·rw[ZS c]
    dsimp only;rw[if_neg 'b'];have p:∀k,lo<=k->k<lo+n->kk R (arrOf st) k=kk R (arrOf st) (lo+n-1):=by
     intro k P S;have G:=o 0 (k-lo) 'a' 'a';have J:=o (k-lo) (n-1) 'a' 'a';rw[show lo+(k-lo)=k by omega] at G J;rw[show lo+(n-1)=lo+n-1 by omega] at J;rw[Nat.add_zero] at G;omega
    refine wpS_bind (qI (zX b (f.rev 'a' 'a' hn) hn 'a' ?_ h));have O:Dn R (arrOf st) lo (n+1):=by
     refine Dn.more (λi j g l=>?_) (.inr (Int.le_of_lt B));rw[p (lo+i) 'a' 'a',p (lo+j) 'a' 'a'];exact Int.le_refl _
    intro i j g l;show kk R (mirror (arrOf st) _ _ _) _<=kk R (mirror (arrOf st) _ _ _) _;rw[jn hz p,jn hz p];exact O i j g l
  ·rw[if_neg C]
   obtain rfl:n=1:=by omega
   refine zX b f hn 'a' (Dn.more (λi j g l=>?_) (.inr (Int.le_of_lt B))) h;obtain rfl:i=j:=by omega
   exact Int.le_refl _
theorem zY{xs:Array Keyed}{a d:Nat}(f:a<xs.size)(hd:d<=a)(k:Nat):kk R (bubble xs a d) k=if k=a-d then kk R xs a else if a-d<k/\k<=a then kk R xs (k-1) else kk R xs k:=by
 have e:=getElem?_bubble f d hd k;by_cases b:k=a-d
 ·rw[if_pos b] at e ⊢;exact qJ e
 ·rw[if_neg b] at e ⊢
  by_cases c:a-d<k/\k<=a
  ·rw[if_pos c] at e ⊢;exact qJ e
  ·rw[if_neg c] at e ⊢;exact qJ e
theorem tI (G:Lts prog w A s kd R a₀) {n ok f:Nat} {Q:Bool->SortSt->Prop} (J:Ins kd a₀ i_ lo (lo + f) st) (O:n<=f) (hn:lo + f<=a₀.size) (hok:ok<=n) (K:Up R (arrOf st) lo ok)
    (h:∀ f_,Ins kd a₀ i_ lo (lo + f) f_->Up R (arrOf f_) lo n->Q true f_):wpS 'e' A E s (binarySort' lo n ok) Q st:=by
  rw [binarySort'_eq]
  refine wpS_bind (wpS_mono (wpS_forRange (I:=λk c f_=>c = (none,())/\Ins kd a₀ i_ lo (lo + f) f_/\Up R (arrOf f_) lo (min k n))
    (Q:=λc f_=>c = (none,())/\Ins kd a₀ i_ lo (lo + f) f_/\Up R (arrOf f_) lo n) ?step ?fin ?init) ?post)
  case post=>
    rintro c f_ ⟨rfl,d,b⟩
    exact wpS_pure (h f_ d b)
  case init=>
    refine ⟨rfl,J,λi j z L=>?_⟩
    by_cases c:ok = 0
    · obtain rfl:i = j:=by omega
      exact Int.le_refl _
    · exact K i j z 'a'
  case fin=>
    rintro c f_ ⟨hc,d,b⟩
    refine ⟨hc,d,?_⟩
    rwa [show min (max (max ok 1) n) n = n by omega] at b
  case step=>
    rintro k c f_ P S ⟨rfl,d,b⟩
    rw [show min k n = k by omega] at b
    refine wpS_bind (wpS_mono (wpS_forRange (I:=λx c a=>a = f_/\∃ l r,c = (none,l,r)/\l<=r/\r<=k/\r - l<=k - x/\(∀ i,i < l->kk R (arrOf f_) (lo + i)<=kk R (arrOf f_) (lo + k))/\(∀ i,r<=i->i < k->kk R (arrOf f_) (lo + k) < kk R (arrOf f_) (lo + i)))
      (Q:=λc a=>a = f_/\∃ l r,c = (none,l,r)/\l<=k/\(∀ i,i < l->kk R (arrOf f_) (lo + i)<=kk R (arrOf f_) (lo + k))/\(∀ i,l<=i->i < k->kk R (arrOf f_) (lo + k) < kk R (arrOf f_) (lo + i))) ?istep ?ifin ?iinit) ?ipost)
    case iinit=>exact ⟨rfl,0,k,rfl,by omega,by omega,by omega,λi hi=>by omega,λi y h2=>by omega⟩
    case ifin=>
      rintro c a ⟨rfl,l,r,rfl,B,g,o,p,u⟩
      obtain rfl:l = r:=by omega
      exact ⟨rfl,l,l,rfl,g,p,u⟩
    case istep=>
      rintro x c a _ T ⟨rfl,l,r,rfl,B,g,o,p,u⟩
      dsimp only
      by_cases C:l >= r
      · rw [if_pos C]
        obtain rfl:l = r:=by omega
        exact wpS_pure ⟨rfl,l,l,rfl,g,p,u⟩
      · rw [if_neg C]
        refine wpS_bind (wp_at G d.toSB 'a' 'a' ?_)
        by_cases c:kk R (arrOf a) (lo + k) < kk R (arrOf a) (lo + (l + r) / 2)
        · rw [YX c]
          exact wpS_pure ⟨rfl,l,(l + r) / 2,rfl,by omega,by omega,by omega,p,λi y h2=>Int.lt_of_lt_of_le c (b _ _ y h2)⟩
        · rw [ZS c]
          exact wpS_pure ⟨rfl,(l + r) / 2 + 1,r,rfl,by omega,by omega,by omega,λi y=>Int.le_trans (b i ((l + r) / 2) 'a' 'a') (Int.not_lt.mp c),u⟩
    case ipost=>
      rintro c a ⟨rfl,l,r,rfl,B,g,o⟩
      show wpS _ _ _ _ (do moveDown' (lo + k) (lo + l); pure (ForInStep.yield (none,()))) _ _
      rw [moveDown'_eq]
      have hz:lo + k < (arrOf a).size:=by rw [d.toSB.size]; omega
      refine wpS_bind (wpS_modify (wpS_pure ⟨rfl,d.set (bubble_perm _ _ _) λm hm=>?_,?_⟩))
      · rw [getElem?_bubble hz _ 'a',if_neg 'a',if_neg 'a']
      · rw [show min (k + 1) n = k + 1 by omega]
        intro i j z L
        show kk R (bubble (arrOf a) (lo + k) (lo + k - (lo + l))) (lo + i)<=kk R (bubble (arrOf a) (lo + k) (lo + k - (lo + l))) (lo + j)
        rw [zY hz 'a',zY hz 'a',show lo + k - (lo + k - (lo + l)) = lo + l by omega]
        repeat' split
        all_goals first
          | (exfalso; omega)
          | exact Int.le_refl _
          | exact g _ 'a'
          | (rw [show lo + j - 1 = lo + (j - 1) by omega]; exact Int.le_of_lt (o _ 'a' 'a'))
          | exact Int.le_of_lt (o _ 'a' 'a')
          | (rw [show lo + i - 1 = lo + (i - 1) by omega,show lo + j - 1 = lo + (j - 1) by omega]; exact b _ _ 'a' 'a')
          | (rw [show lo + j - 1 = lo + (j - 1) by omega]; exact b _ _ 'a' 'a')
          | exact b _ _ 'a' 'a'
end
abbrev U1:Type:=Option Unit×Unit
abbrev UN:Type:=Option Unit×Nat
def rM (a:Nat):StateT SortSt Sem (ForInStep U1):=do
  let s ← get
  match (if (pendingOf s).size > 1 then (pendingOf s)[(pendingOf s).size - 2]? else none) with
  | some (_,_,c)=>
    if c<=a then pure (.done (none,()))
    else do
      let b ← mergeAt' ((pendingOf s).size - 2)
      if (!b) = true then pure (.done (some (),())) else pure (.yield (none,()))
  | _=>pure (.done (none,()))
def rL(lo n:Nat):StateT SortSt Sem (ForInStep UN):=do
 modify λs=>setPending s ((pendingOf s).push (lo,n,0))
 pure (.yield (none,lo+n))
def rP (size lo n:Nat):StateT SortSt Sem (ForInStep UN):=do
  let s ← get
  match (pendingOf s).back? with
  | some (s1,a,_)=>do
    let c ← forIn [0:size] ((none,()):U1) λ_ _=>rM (power' size (2 * s1 + a) (2 * s1 + a + a + n) size)
    match c.1 with
    | some r=>pure (.done (some r,lo))
    | none=>do
      modify λs=>setPending s ((pendingOf s).modify ((pendingOf s).size - 1) λ(st,len,_)=>(st,len,power' size (2 * s1 + a) (2 * s1 + a + a + n) size))
      rL lo n
  | _=>rL lo n
def rB (size c lo:Nat):StateT SortSt Sem (ForInStep UN):=
  if lo >= size then pure (.done (none,lo))
  else do
    match ← countRun' lo (size - lo) with
    | some a=>
      if a < c then do
        liftM (rule "list.sort.binary-insertion")
        let b ← binarySort' lo (min (size - lo) c) a
        if (!b) = true then pure (.done (some (),lo)) else rP size lo (min (size - lo) c)
      else rP size lo a
    | _=>pure (.done (some (),lo))
def rF:StateT SortSt Sem (ForInStep U1):=do
  let s ← get
  if (pendingOf s).size<=1 then pure (.done (none,()))
  else do
    let b ← mergeAt' (if (if (pendingOf s).size - 2 > 0 then (pendingOf s)[(pendingOf s).size - 2 - 1]?.map (·.2.1) else none).any (· < ((pendingOf s)[(pendingOf s).size - 2 + 1]?.elim 0 (·.2.1))) = true then (pendingOf s).size - 2 - 1 else (pendingOf s).size - 2)
    if (!b) = true then pure (.done (some (),())) else pure (.yield (none,()))
theorem u5:sortRuns' = (do
  let s ← get
  let c ← forIn [0:(arrOf s).size] ((none,0):UN) λ_ c=>rB (arrOf s).size (minRun' (arrOf s).size (arrOf s).size 0) c.2
  match c.1 with
  | some r=>pure r
  | none=>do
    let c ← forIn [0:(arrOf s).size] ((none,()):U1) λ_ _=>rF
    match c.1 with
    | some r=>pure r
    | none=>pure ()):=by kernel_rfl
def Chn(R:Keyed->Int)(xs:Array Keyed):Nat->List (Nat×Nat×Nat)->Nat->Prop
 |lo,[],hi=>lo=hi
 |lo,(s,n,_)::l,hi=>s=lo/\0<n/\Srt R xs lo (lo+n)/\Chn R xs (lo+n) l hi
section
variable {R:Keyed->Int}{xs ys:Array Keyed}
theorem Chn.le:∀{l:List (Nat×Nat×Nat)}{lo hi:Nat},Chn R xs lo l hi->lo+l.length<=hi
 |[],lo,hi,h=>by rw[show lo=hi from h];exact YH _
 |(s,n,_)::l,lo,hi,⟨_,a,_,h2⟩=>by
  have:=h2.le
  rw[YK];omega
theorem Chn.congr:∀{l d:List (Nat×Nat×Nat)}{lo hi:Nat},(∀k,lo<=k->k<hi->ys[k]?=xs[k]?)->d.map (λx=>(x.1,x.2.1))=l.map (λx=>(x.1,x.2.1))->Chn R xs lo l hi->Chn R ys lo d hi
 |[],[],lo,hi,_,_,h=>h
 |[],_::_,_,_,_,e,_=>by cases e
 |_::_,[],_,_,_,e,_=>by cases e
 |(s,n,p)::l,(u,n',z)::d,lo,hi,hk,e,⟨g,m,h2,f⟩=>by
  rw[YM,YM,List.cons.injEq] at e;obtain⟨o,r⟩:=e;cases o
  have:=f.le
  refine⟨g,m,λi j x y a b c hx hy=>?_,f.congr (λk a b=>hk k 'a' b) r⟩;rw[hk i a 'a'] at hx;rw[hk j 'a' 'a'] at hy;exact h2 i j x y a b c hx hy
theorem Chn.snoc:∀{l:List (Nat×Nat×Nat)}{lo hi n p:Nat},Chn R xs lo l hi->0<n->Srt R xs hi (hi+n)->Chn R xs lo (l++[(hi,n,p)]) (hi+n)
 |[],lo,hi,n,p,h,f,h2=>by cases(show lo=hi from h);exact⟨rfl,f,h2,rfl⟩
 |(s,m,q)::l,lo,hi,n,p,⟨a,b,c,d⟩,f,h2=>⟨a,b,c,d.snoc f h2⟩
theorem Chn.two:∀{pre j:List (Nat×Nat×Nat)}{lo hi s1 k p1 s2 l p2:Nat},Chn R xs lo (pre++(s1,k,p1)::(s2,l,p2)::j) hi->lo<=s1/\s2=s1+k/\0<k/\0<l/\s1+k+l<=hi/\Srt R xs s1 (s1+k)/\Srt R xs (s1+k) (s1+k+l)
 |[],j,lo,hi,s1,k,p1,s2,l,p2,h=>by
  obtain⟨rfl,b,c,rfl,e,f,g⟩:=h
  have:=g.le
  exact⟨YH _,rfl,b,e,by omega,c,f⟩
 |(s,n,p)::pre,j,lo,hi,s1,k,p1,s2,l,p2,⟨a,b,c,d⟩=>by
  obtain⟨m,h2⟩:=Chn.two d;exact⟨by omega,h2⟩
theorem Chn.one:∀{pre l:List (Nat×Nat×Nat)}{lo hi s1 m p1 s2 o p2:Nat},Chn R xs lo (pre++(s1,m,p1)::(s2,o,p2)::l) hi->Srt R ys s1 (s1+m+o)->(∀k,k<s1\/s1+m+o<=k->ys[k]?=xs[k]?)->Chn R ys lo (pre++(s1,m+o,p1)::l) hi
 |[],l,lo,hi,s1,m,p1,s2,o,p2,h,r,hk=>by
  obtain⟨rfl,b,c,rfl,e,f,g⟩:=h
  have:=g.le
  refine⟨rfl,by omega,by rw[←Nat.add_assoc];exact r,?_⟩;rw[←Nat.add_assoc];exact g.congr (λk a b=>hk k (.inr a)) rfl
 |(s,n,p)::pre,l,lo,hi,s1,m,p1,s2,o,p2,⟨a,b,c,d⟩,r,hk=>by
  have u:=(Chn.two d).1;refine⟨a,b,λi j x y a b c' hx hy=>?_,Chn.one d r hk⟩;rw[hk i (.inl 'a')] at hx;rw[hk j (.inl 'a')] at hy;exact c i j x y a b c' hx hy
end
theorem ite_le{c:Prop}[Decidable c]{a b n:Nat}(d:a<=n)(h2:b<=n):(if c then a else b)<=n:=by split<;>assumption
theorem zZ{a:Type}{l:List a}{i:Nat}{x y v:a}(f:l[i]?=some x)(h2:l[i+1]?=some y):l=l.take i++x::y::l.drop (i+2)/\(l.set i v).eraseIdx (i+1)=l.take i++v::l.drop (i+2):=by
 obtain⟨g,j⟩:=YE.mp f;obtain⟨k,m⟩:=YE.mp h2;have e:l=l.take i++x::y::l.drop (i+2):=by
  have b:=XV g;have c:=XV k;rw[j] at b;rw[m] at c;rw[←c,←b,XZ]
 refine⟨e,?_⟩;have hl:(l.take i).length=i:=by rw[YU];omega
 generalize l.take i=pre at *;generalize l.drop (i+2)=d at *;subst e;subst hl;rw[List.set_append_right _ _ (YH _),Nat.sub_self,List.set_cons_zero,List.eraseIdx_append_of_length_le 'a',show pre.length+1-pre.length=1 by omega];rfl
section
variable {prog:Zw}{w:World}{A:Around}{E:Zb}{s:Shared}{kd:SortKind}{R:Keyed->Int}{a₀:Array Keyed}{st:SortSt}
theorem u6(j:Lts prog w A s kd R a₀)(l:SB kd a₀ st){hi i:Nat}(hc:Chn R (arrOf st) 0 (pendingOf st).toList hi)(J:hi<=a₀.size)(hi2:i+1<(pendingOf st).size){Q:Bool->SortSt->Prop}
  (h:∀f_,SB kd a₀ f_->Chn R (arrOf f_) 0 (pendingOf f_).toList hi->(pendingOf f_).size+1=(pendingOf st).size->(∀k,hi<=k->(arrOf f_)[k]?=(arrOf st)[k]?)->Q true f_):wpS 'e' A E s (mergeAt' i) Q st:=by
 have a:(pendingOf st)[i]?=some (pendingOf st)[i]:=getElem?_pos _ i 'a';have b:(pendingOf st)[i+1]?=some (pendingOf st)[i+1]:=getElem?_pos _ (i+1) hi2;generalize (pendingOf st)[i]=u at a;generalize (pendingOf st)[i+1]=v at b;obtain⟨s1,c,p1⟩:=u;obtain⟨s2,d,p2⟩:=v;have m:(pendingOf st).toList[i]?=some (s1,c,p1):=by rw[XE];exact a
 have n:(pendingOf st).toList[i+1]?=some (s2,d,p2):=by rw[XE];exact b
 obtain⟨o,p⟩:=zZ (v:=(s1,c+d,p1)) m n;have f:=hc;rw[o] at f;obtain⟨K,rfl,r,y,L,z,B⟩:=Chn.two f;refine ym j l a b r y 'a' z B λf_ C hp G hk=>?_
 have g:(pendingOf f_).toList=(pendingOf st).toList.take i++(s1,c+d,p1)::(pendingOf st).toList.drop (i+2):=by
  rw[hp,←p,Array.toList_eraseIdxIfInBounds,Array.toList_setIfInBounds]
 refine h f_ C ?_ ?_ λk O=>hk k (.inr 'a')
 ·rw[g]
  exact Chn.one f G hk
 ·rw[←YF,g,ZM,YK,YU,YZ,YF]
  omega
theorem Cv(a:SB kd a₀ st){lo n:Nat}(hc:Chn R (arrOf st) 0 (pendingOf st).toList lo)(hn:0<n)(b:Srt R (arrOf st) lo (lo+n)){Q:ForInStep UN->SortSt->Prop}
  (h:∀f_,SB kd a₀ f_->Chn R (arrOf f_) 0 (pendingOf f_).toList (lo+n)->Q (.yield (none,lo+n)) f_):wpS 'e' A E s (rL lo n) Q st:=by
 unfold rL;refine wpS_bind (wpS_modify (wpS_pure (h _ ⟨a.perm,a.kind,a.fail⟩ ?_)));show Chn R (arrOf st) 0 ((pendingOf st).push (lo,n,0)).toList (lo+n);rw[ZB];exact hc.snoc hn b
theorem Cw (p:Lts prog w A s kd R a₀) (l:SB kd a₀ st) {lo n:Nat} (hc:Chn R (arrOf st) 0 (pendingOf st).toList lo) (hn:0 < n) (hsz:lo + n<=a₀.size) (m:Srt R (arrOf st) lo (lo + n)) {size:Nat} {Q:ForInStep UN->SortSt->Prop}
    (h:∀ f_,SB kd a₀ f_->Chn R (arrOf f_) 0 (pendingOf f_).toList (lo + n)->Q (.yield (none,lo + n)) f_):wpS 'e' A E s (rP size lo n) Q st:=by
  unfold rP
  refine wpS_bind (wpS_get ?_)
  split
  · rename_i s1 C p1 hb
    refine wpS_bind (wpS_mono (wpS_forRange (I:=λ_ c f_=>c = (none,())/\SB kd a₀ f_/\Chn R (arrOf f_) 0 (pendingOf f_).toList lo/\Srt R (arrOf f_) lo (lo + n)) (Q:=λc f_=>c = (none,())/\SB kd a₀ f_/\Chn R (arrOf f_) 0 (pendingOf f_).toList lo/\Srt R (arrOf f_) lo (lo + n)) ?step (λ_ _ z=>z) ⟨rfl,l,hc,m⟩) ?post)
    case step=>
      rintro x c f_ _ _ ⟨rfl,f,c',g⟩
      unfold rM
      refine wpS_bind (wpS_get ?_)
      by_cases z:(pendingOf f_).size > 1
      · rw [if_pos z,getElem?_pos (pendingOf f_) ((pendingOf f_).size - 2) 'a']
        generalize (pendingOf f_)[(pendingOf f_).size - 2] = u
        obtain ⟨_,_,G⟩:=u
        dsimp only
        split
        · exact wpS_pure ⟨rfl,f,c',g⟩
        · refine wpS_bind (u6 p f c' 'a' 'a' λJ r B _ o=>?_)
          refine wpS_pure ⟨rfl,r,B,λi j x y a b d hx hy=>?_⟩
          rw [o i a] at hx
          rw [o j 'a'] at hy
          exact g i j x y a b d hx hy
      · rw [if_neg z]
        exact wpS_pure ⟨rfl,f,c',g⟩
    case post=>
      rintro c f_ ⟨rfl,f,c',g⟩
      dsimp only
      refine wpS_bind (wpS_modify ?_)
      refine Cv (a₀:=a₀) (kd:=kd) (R:=R) ?_ ?_ hn ?_ h
      · exact ⟨f.perm,f.kind,f.fail⟩
      rotate_left
      · exact g
      refine Chn.congr (λ_ _ _=>rfl) ?_ c'
      show ((pendingOf f_).modify ((pendingOf f_).size - 1) _).toList.map _ = _
      refine List.ext_getElem? λk=>?_
      rw [ZH,ZH,XE,XE,Array.getElem?_modify]
      split
      · cases (pendingOf f_)[k]? <;> rfl
      · rfl
  · exact Cv l hc hn m h
theorem oS(g:Lts prog w A s kd R a₀)(C:SB kd a₀ st)(hp:pendingOf st = #[]){Q:Unit->SortSt->Prop}(h:∀f_,(arrOf f_).Perm a₀->failedOf f_=none->Srt R (arrOf f_) 0 a₀.size->Q () f_):wpS 'e' A E s sortRuns' Q st:=by
 rw[u5];refine wpS_bind (wpS_get ?_);rw[C.size];refine wpS_bind (wpS_mono (wpS_forRange (I:=λx c f_=>∃lo,c=(none,lo)/\x<=lo/\lo<=a₀.size/\SB kd a₀ f_/\Chn R (arrOf f_) 0 (pendingOf f_).toList lo) (Q:=λc f_=>c=(none,a₀.size)/\SB kd a₀ f_/\Chn R (arrOf f_) 0 (pendingOf f_).toList a₀.size) ?step ?fin ⟨0,rfl,YH _,YO _,C,by rw[hp];rfl⟩) ?post)
 case fin=>
  rintro c f_ ⟨lo,rfl,L,h2,d,c'⟩;obtain rfl:lo=a₀.size:=by omega
  exact⟨rfl,d,c'⟩
 case step=>
  rintro x c f_ _ hx ⟨lo,rfl,L,h2,d,c'⟩;dsimp only;unfold rB;by_cases z:lo>=a₀.size
  ·rw[if_pos z]
   obtain rfl:lo=a₀.size:=by omega
   exact wpS_pure ⟨rfl,d,c'⟩
  ·rw[if_neg z]
   refine wpS_bind (wp g d 'a' 'a' λm r u T U G=>?_);dsimp only;have o:∀{p:SortSt},Ins kd a₀ f_ lo (lo+(a₀.size-lo)) p->Chn R (arrOf p) 0 (pendingOf p).toList lo:=λI=>by
    rw[I.pend];exact c'.congr (λk _ b=>I.out k (.inl b)) rfl
   by_cases y:m<minRun' a₀.size a₀.size 0
   ·rw[if_pos y]
    refine wpS_bind (wpS_lift (wpAny_rule ⟨rfl,?_⟩));refine wpS_bind (tI g u 'a' 'a' 'a' G λp J O=>?_);exact Cw g J.toSB (o J) 'a' 'a' O.srt λP B f=>⟨_,rfl,by omega,by omega,B,f⟩
   ·rw[if_neg y]
    exact Cw g u.toSB (o u) 'a' 'a' G.srt λP B f=>⟨_,rfl,by omega,by omega,B,f⟩
 case post=>
  rintro c f_ ⟨rfl,d,c'⟩;dsimp only;refine wpS_bind (wpS_mono (wpS_forRange (I:=λx c f_=>c=(none,())/\SB kd a₀ f_/\Chn R (arrOf f_) 0 (pendingOf f_).toList a₀.size/\((pendingOf f_).size+x<=a₀.size\/(pendingOf f_).size<=1)) (Q:=λc f_=>c=(none,())/\SB kd a₀ f_/\Chn R (arrOf f_) 0 (pendingOf f_).toList a₀.size/\(pendingOf f_).size<=1) ?r ?fn2 ⟨rfl,d,c',.inl (by have:=c'.le;rw[YF] at this;omega)⟩) ?po2)
  case fn2=>
   rintro c f_ ⟨rfl,d,c',z⟩;exact⟨rfl,d,c',by omega⟩
  case r=>
   rintro x c f_ _ hx ⟨rfl,d,c',z⟩;unfold rF;refine wpS_bind (wpS_get ?_);by_cases y:(pendingOf f_).size<=1
   ·rw[if_pos y]
    exact wpS_pure ⟨rfl,d,c',y⟩
   ·rw[if_neg y]
    refine wpS_bind (u6 g d c' (YH _) ?_ λr S o V _=>wpS_pure ⟨rfl,S,o,.inl 'a'⟩);exact XM (Nat.succ_le_succ (ite_le (n:=(pendingOf f_).size-2) 'a' (YH _))) 'a'
  case po2=>
   rintro c f_ ⟨rfl,d,c',z⟩;dsimp only;refine wpS_pure (h f_ d.perm d.fail ?_);generalize hl:(pendingOf f_).toList=l at c';have hz:l.length<=1:=by rw[←hl,YF];exact z
   match l,hz,c' with
   |[],_,c'=>exact λi j x y _ a b=>by have:0=a₀.size:=c';omega
   |[(q,n,_)],_,c'=>
    obtain⟨_,_,K,f⟩:=c';have f:0+n=a₀.size:=f;rw[f] at K;exact K
   |_::_::_,hz,_=>simp at hz
end
section
variable {prog:Zw}{w:World}{A:Around}{E:Zb}{s:Shared}
theorem u7 {a:Addr} {P:Fin->Shared->Prop} {e:Nat} {st:SortSt} (g:s.heap.get? a = some (seqObj "list" #[] e)) (hf:failedOf st = none) (hz:(arrOf st).size<=4000) (h:P (.done (.ret .none)) { s with heap:=s.heap.update a (Obj.mapSeq λ_=>(arrOf st).map (·.2)) }) :
    wpAny 'e' A (do
      let b:=(← seqEpoch a) != e
      Builtin.List.listUpdate (.ref a) λ_=>(arrOf st).map (·.2)
      if let some e:=failedOf st then rule "list.sort.comparison-raised"; throw e
      if b then rule "list.sort.modified"; raiseError "ValueError" "list modified during sort"
      ret .none) P E s:=by
  refine Yb (seqEpoch_at g rfl (Yb (listUpdate_at g rfl ?_ (hsz2:=by rw [Array.size_map,sizeLine_eq]; omega))))
  rw [hf,bne_self_eq_false]
  exact Yc h
theorem rZ{R:Keyed->Int}{kd:SortKind}{a:Addr}{vs:Zd}{n:Nat}{P:Fin->Shared->Prop}(g:s.heap.get? a=some (seqObj "list" vs.toArray n))(d:∀s,Lts prog w A s kd R (pairsOf vs))(hk:2<=vs.length->keyKind' vs.toArray=pure kd)(hz:vs.length<=4000)
  (h:∀xs:Array Keyed,xs.Perm (pairsOf vs)->Srt R xs 0 (pairsOf vs).size->P (.done (.ret .none)) { s with heap:=sortedHeap s.heap a vs (xs.map (·.2)) }):wpAny 'e' A (Builtin.«list.sort» ⟨[.ref a],[]⟩) P E s:=by
 have z:vs.toArray.size=vs.length:=by simp
 have o:=pairsOf_size vs;rw[list_sort_plain];refine Yb (listItems_at g rfl (Yb (listUpdate_at g rfl ?_ (hsz:=by rw[z,sizeLine_eq];omega))));have b:=get?_update_seq g (λ_=>#[]);generalize (if(#[]:Array Value).size==vs.toArray.size then n else n+1)=e at b;refine Yb (seqEpoch_at b rfl (Yb (wpAny_newTuple (Yb (wpAny_newList (Yj ?_))))));have k:(((s.heap.update a (Obj.mapSeq λ_=>#[])).push (seqObj "tuple" vs.toArray 0)).push (seqObj "list" #[] 0)).get? a=some (seqObj "list" #[] e):=Yd _ (Yd _ b);have fin:=λ(st:SortSt) (p:(arrOf st).Perm (pairsOf vs)) (f:failedOf st=none) (q:Srt R (arrOf st) 0 (pairsOf vs).size)=>u7 (prog:=prog) (w:=w) (A:=A) (E:=E) (s:={ s with heap:=((s.heap.update a (Obj.mapSeq λ_=>#[])).push (seqObj "tuple" vs.toArray 0)).push (seqObj "list" #[] 0) }) k f (by rw[p.size_eq];omega) (h _ p q)
 by_cases c:vs.toArray.size<2
 ·rw[if_pos c,if_pos c]
  refine Yb (Yc ?_);dsimp only;rw[StateT.run_pure];refine Yb (Yc (fin _ (Array.Perm.refl _) rfl λi j x y _ u B l h2=>?_));obtain rfl:i=j:=by omega
  rw[l] at h2;cases h2;exact Int.le_refl _
 ·rw[if_neg c,if_neg c,hk 'a']
  refine Yb (Yc (Yb (wpAny_mono (oS (d _) ⟨Array.Perm.refl _,rfl,rfl⟩ rfl (Q:=λ_ st=>(arrOf st).Perm (pairsOf vs)/\failedOf st=none/\Srt R (arrOf st) 0 (pairsOf vs).size) λst p f q=>⟨p,f,q⟩) ?_ λ_ _ e=>e)));intro r C m;obtain⟨rfl,p,f,q⟩:=m;exact fin r.2 p f q
theorem list_sort_ints{a:Addr}{vs:Zd}{ns:Zi}{n:Nat}{P:Fin->Shared->Prop}(g:s.heap.get? a=some (seqObj "list" vs.toArray n))(b:IntsAre vs ns)(hz:vs.length<=4000)
  (h:∀(out:Zl) (c:Zi),IntsAre out.toList c->c.Perm ns->c.Pairwise (·<=·)->P (.done (.ret .none)) { s with heap:=sortedHeap s.heap a vs out }):wpAny 'e' A (Builtin.«list.sort» ⟨[.ref a],[]⟩) P E s:=by
 refine rZ (R:=λp=>numOf p.1) (kd:=oneType') g (λs x y hx hy Q E q=>?_) (λh2=>?_) hz λxs p q=>?_
 ·obtain⟨i,t,f⟩:=b.intKeys x hx
  obtain⟨j,u,k⟩:=b.intKeys y hy;have q:Q (decide (numOf x.1<numOf y.1)) s:=q;rw[keyLt'_oneType];revert q;rw[f,k];exact λq=>oneLt_int q
 ·match vs,b,h2 with
  |_::_::_,b,_=>exact keyKind_ints b
 ·have l:SortedTo xs (pairsOf vs).size:=λi j m o=>by
   have hx:=p.size_eq;have d:xs[i]?=some (xs[i]' 'a'):=Array.getElem?_eq_getElem 'a';have h2:xs[j]?=some (xs[j]' 'a'):=Array.getElem?_eq_getElem 'a';unfold K;rw[d,h2];exact q i j _ _ (YO _) m o d h2
  obtain⟨c,d,h2,r⟩:=sorted_out b p l;exact h _ c d h2 r
end
end TS
namespace DD
open PySem PySem.Spec PyProof.Rows L2
section
variable {prog:Zw}{w:World}{A:Around}{E:Zb}{s:Shared}{κ:Type}[DecidableEq κ]{knd:KeyKind prog w κ}
theorem list_dict{Q:Zb}{d:Addr}{a:List (κ×Value)}{g:Nat}(k:A.handled=none)(hd:(d==sysModules)=false)(hm:s.heap.DictAt knd d a g)(hl:a.length<=2 ^ 24)
  (l:∀h' tk h_ c',(∀b o,s.heap.get? b=some o->h'.get? b=some o)->h'.get? s.heap.objs.size=some { cls:=.type "list",dict:=none,data:=.seq h_ c',slots:=#[] }->ItemsOf (uj knd a) h_ a.length ->
   Q (.ref s.heap.objs.size) { s with heap:=h',toks:=tk }):wpAny 'e' A (call (.type "list") [.ref d]) Q E s:=by
 refine callType_codes (Q₁:=λobj j=>obj=.ref s.heap.objs.size/\j={ s with heap:=s.heap.push { cls:=.type "list",data:=.seq #[] } }) F.called_list (F.typeCall_list_1 _) F.entry_list_init (code_list_new _ ⟨rfl,rfl⟩) λobj j m=>?_
 obtain⟨rfl,rfl⟩:=m;have c:(s.heap.push { cls:=.type "list",data:=.seq #[] }).get? s.heap.objs.size=some { cls:=.type "list",data:=.seq #[] }:=Yg _ rfl;refine⟨⟨_,c,rfl⟩,F.args_list_init_2 _ _,?_⟩;show wpAny _ _ (do let f ←Builtin.List.listItems (.ref s.heap.objs.size);Builtin.List.listUpdate (.ref s.heap.objs.size) (λ_=>#[]);letGo f.toList.reverse;Builtin.List.listExtendWith (.ref s.heap.objs.size) (.ref d) .none) _ _ _;refine Yb ?_;unfold Builtin.List.listItems;refine Yb (wpAny_seqItems c rfl (Yc ?_));show wpAny _ _ (updateSeq s.heap.objs.size (λ_=>#[]) >>= λ_=>letGo (#[]:Array Value).toList.reverse >>= λ_=>Builtin.List.listExtendWith (.ref s.heap.objs.size) (.ref d) .none) _ _ _;refine Yb (wpAny_updateSeq c rfl ?_);have p1:=Heap.get?_update_self (Obj.mapSeq (λ_=>(#[]:Array Value))) c rfl;have nd:d≠s.heap.objs.size:=ZW hm.lt_size;have n:((s.heap.push { cls:=.type "list",data:=.seq #[] }).update s.heap.objs.size (Obj.mapSeq (λ_=>(#[]:Array Value)))).DictAt knd d a g:=(hm.push _).at' λo e=>(Heap.get?_update_other _ _ (Ne.symm nd)).trans e
 refine Yb (wpAny_letGo ?_);refine oR (A:=A.in1) (s:={ s with heap:=(s.heap.push { cls:=.type "list",data:=.seq #[] }).update s.heap.objs.size (Obj.mapSeq (λ_=>(#[]:Array Value))) }) k hd n hl s.heap.objs.size .none _ p1 ?_;intro h' tk h_ c' hk p r;refine⟨rfl,l h' tk h_ c' (λb o e=>hk b o (ZW (Ye e)) ?_) p r⟩;exact(Heap.get?_update_other _ _ (Ne.symm (ZW (Ye e)))).trans (Yd _ e)
theorem u8{Q:List Value->Shared->Prop}{d:Addr}{a:List (κ×Value)}{g:Nat}(j:A.handled=none)(hd:(d==sysModules)=false)(hm:s.heap.DictAt knd d a g)(hl:a.length<=2 ^ 24)
  (k:∀h' tk h_,(∀b o,s.heap.get? b=some o->h'.get? b=some o)->s.heap.objs.size<h'.objs.size->ItemsOf (uj knd a) h_ a.length->Q h_.toList { s with heap:=h',toks:=tk }):wpAny 'e' A (collect (.ref d)) Q E s:=by
 have go:∀R:Result->Shared->Prop,(∀h' tk h_ c',(∀b o,s.heap.get? b=some o->h'.get? b=some o)->h'.get? s.heap.objs.size=some { cls:=.type "list",dict:=none,data:=.seq h_ c',slots:=#[] }->ItemsOf (uj knd a) h_ a.length ->
   R (.ok (.ret (.ref s.heap.objs.size))) { s with heap:=h',toks:=tk })->codeAny 'e' A (.builtin "list.__iadd__" ⟨[.ref s.heap.objs.size,.ref d],[]⟩) R { s with heap:=s.heap.push (seqObj "list" #[] 0) }:=by
  intro R l;refine codeAny_builtin entry_list_iadd' ?_;show wpAny _ _ (Builtin.List.listExtendWith (.ref s.heap.objs.size) (.ref d) (.ref s.heap.objs.size)) _ _ { s with heap:=s.heap.push (seqObj "list" #[] 0) };rw[Around.under_plainId (id:="list.__iadd__") (by rfl')];refine oR (A:=A) (R:=R) (s:={ s with heap:=s.heap.push (seqObj "list" #[] 0) }) j hd (hm.push _) hl s.heap.objs.size _ 0 (Yg _ rfl) ?_;intro h' tk h_ c' hk c f;exact l h' tk h_ c' (λb o e=>hk b o (ZW (Ye e)) (Yd _ e)) c f
 unfold collect;refine Yb (wpAny_runValue (codeAny_builtin entry_proto_collect' ?_));show wpAny _ _ (do again (.builtin "list.__iadd__" ⟨[←newList [],.ref d],[]⟩)) _ _ s;refine Yb (wpAny_newList (Yc ⟨Code.quiet_builtin _ (by rfl'),go _ λh' tk h_ c' hk c f=>?_⟩));refine Yb (wpAny_load c ?_);exact Yc (k h' tk h_ hk (Ye c) f)
theorem xy:∀{vs:Zd}{c:Zi},vs.length=c.length->(∀(i:Nat) (v:Value) (n:Int),vs[i]?=some v->c[i]?=some n->∃t,v=Value.int n t)->IntsAre vs c
 |[],[],_,_=>.nil
 |[],_::_,h,_=>by cases h
 |_::_,[],h,_=>by cases h
 |v::vs,n::c,h,g=>by
  obtain⟨t,rfl⟩:=g 0 v n rfl rfl;exact .cons n t (xy (by simpa using h) λi v m a b=>g (i+1) v m (by simpa using a) (by simpa using b))
theorem qK {it:Value} {vs:Zd} {ns:Zi} {h':Heap} {tk:Nat} {Q:Zb} (c:IntsAre vs ns) (d:vs.length<=4000)
  (h:∀ (out:Zl) (a:Zi),IntsAre out.toList a->a.Perm ns->a.Pairwise (·<=·)->Q (.ref h'.objs.size) { s with heap:=sortedHeap (h'.push (seqObj "list" vs.toArray 0)) h'.objs.size vs out,toks:=tk }) :
  wpAny 'e' A.in1 (do
   let l ← newList vs
   let _ ← holding [l] (call (.builtin "list.sort") [l] [])
   ret l) (λfin f=>∃ v,fin = Fin.done (.ret v)/\Q v f) E { s with heap:=h',toks:=tk }:=by
 refine Yb (wpAny_newList ?_)
 have b:(h'.push (seqObj "list" vs.toArray 0)).get? h'.objs.size = some (seqObj "list" vs.toArray 0):=Yg _ rfl
 show wpAny _ _ _ _ _ { s with heap:=h'.push (seqObj "list" vs.toArray 0),toks:=tk }
 refine Yb (Yj (wpAny_call_entry slot_list_sort ⟨_,b,rfl⟩ entry_list_sort (TS.list_sort_ints b c d λout a g j k=>⟨_,rfl,?_⟩) (args_list_sort _)))
 exact Yc ⟨_,rfl,h out a g j k⟩
end
def intKeys:List (Key×D)->Option (List Int)
 |[]=>some []
 |(.inl i,_)::r=>(intKeys r).map (i :: ·)
 |_=>none
theorem oT:∀{a:ZD}{ns:Zi},intKeys a=some ns->a.map (·.1)=ns.map Sum.inl
 |[],ns,h=>by cases h;rfl
 |(.inl i,d)::r,ns,h=>by
  rw[intKeys] at h;cases q:intKeys r with
  |none=>rw[q] at h;cases h
  |some b=>rw[q] at h;cases h;rw[YM,YM,oT q]
 |(.inr x,d)::r,ns,h=>by cases h
def ot(ns:Zi)(M:MH)(Q:DK):Prop:=ns.length<=4000/\∀(p:Addr) (a:Zi),M p=none->a.Perm ns->a.Pairwise (·<=·)->Q (.ref p) (updM M p (.lst (a.map .int)))
def jo:SpD:=λds M Q=>match ds with
 |[.ref a]=>match rdL (M a) with
  |some xs=>optD (ic xs) λns=>ot ns M Q
  |none=>optD (rdD (M a)) λb=>optD (intKeys b) λns=>ot ns M Q
 |_=>False
theorem nt:∀{us:Zd}{a:Zi},IntsAre us a->Vals (a.map V.int) us
 |_,_,.nil=>.nil
 |_,_,.cons n t r=>.cons ⟨t,rfl⟩ (nt r)
theorem nu:∀{a:Zi}{us:Zd},Vals (a.map V.int) us->IntsAre us a
 |[],_,h=>by cases h;exact .nil
 |n::a,_,h=>by
  cases h with
  |cons r t=>
   obtain⟨tk,rfl⟩:=r;exact .cons n tk (nu t)
section
variable {X:Cx}{H:Hp}
theorem u9{pins:Zc}{ρ:L2.St}{s:Shared}{M:MH}{Q:DK}{ns a:Zi}{h':Heap}{tk:Nat}{p:Addr}{out:Zl}{e:Nat}(I:Inv X pins ρ H s)(c:RM X.K M H)(q:ot ns M Q)(k:∀b o,s.heap.get? b=some o->h'.get? b=some o)(hp:s.heap.objs.size<=p)
  (ho:h'.get? p=some (seqObj "list" out e)) (f:IntsAre out.toList a) (d:a.Perm ns) (g:a.Pairwise (·<=·)):EP X pins ρ (lift X.K H Q) (.ref p) { s with heap:=h',toks:=tk }:=by
 have hf:H p=none:=I.hok.fresh hp;have kk:=Kp.new (o:=.lst (a.map V.int)) hf;have hz:(a.map V.int).length<=sizeLine:=by
  rw[ZG,d.length_eq];have:(4000:Nat)<=sizeLine:=by decide
  have:=q.1
  omega
 exact⟨.ref p,_,I.laid (t':=tk) k hp (show aN X.prog X.w _ h' p (.lst (a.map V.int)) from⟨hz,out.toList,e,nt f,by simpa [seqObj] using ho⟩),rfl,kk,.ref p,_,RV.ref_.2 rfl,c.new (m:=.lst (a.map .int)) hf ⟨_,aw,om (λ_=>RV.int_.2 rfl) a⟩,q.2 p a (c.fresh hf) d g⟩
theorem z0(hc:X.calm=true):fK X (.builtin "sorted") jo:=by
 intro ds vs H M Q r d h;unfold jo at h;split at h
 ·obtain⟨v,rfl,K⟩:=rvs1 r
  cases RV.ref_.1 K;split at h
  ·rename_i xs f
   obtain⟨ns,g,q⟩:=aH h;obtain⟨us,sq,L⟩:=d.list f;obtain rfl:=pA g L;intro pins s ρ O I j;obtain⟨u,rfl,p⟩:=vals1 j;cases p;obtain⟨c_,J,pl,hz⟩:=I.list sq;have hl:c_.length=ns.length:=by have:=J.length;simpa using this.symm
   have h4:(4000:Nat)<=sizeLine:=by decide
   have P:c_.length<=sizeLine:=by have:=q.1;omega
   refine Calls.call_function_entry kind_sorted plain_sorted entry_sorted (args_sorted1 _) ?_;unfold Builtin.«sorted»;refine Yb (m:=checkCount "sorted" 1 1 _) (Yc ?_);refine Yb (collect_list pl.isList ?_ P);refine qK (s:=s) (A:=X.A) (it:=.none) (h':=(s.heap.push (seqObj "list" #[] 0)).update s.heap.objs.size (Obj.mapSeq (· ++ c_.toArray))) (tk:=s.toks) (nu J) (by have:=q.1;omega) λout R y z B=>?_
   have hsz:((s.heap.push (seqObj "list" #[] 0)).update s.heap.objs.size (Obj.mapSeq (· ++ c_.toArray))).objs.size=s.heap.objs.size+1:=by rw[Heap.size_update,Heap.size_push]
   have C:∀b o,s.heap.get? b=some o->((s.heap.push (seqObj "list" #[] 0)).update s.heap.objs.size (Obj.mapSeq (· ++ c_.toArray))).get? b=some o:=λb o e=>
    (Heap.get?_update_other _ _ (Ne.symm (ZW (Ye e)))).trans (Yd _ e)
   generalize (s.heap.push (seqObj "list" #[] 0)).update s.heap.objs.size (Obj.mapSeq (· ++ c_.toArray))=h' at *;obtain⟨e,ho⟩:=sortedHeap_at (h:=h'.push (seqObj "list" c_.toArray 0)) (a:=h'.objs.size) (vs:=c_) (n:=0) (out:=out) (Yg _ rfl);refine u9 (tk:=s.toks) I d q (λb o e=>?_) 'a' ho y z B;have c:=C b o e;have hb:b<h'.objs.size:=Ye c;rw[sortedHeap_old (ZW hb) (by rw[Heap.size_push];exact XO hb)];exact Yd _ c
  ·obtain⟨e_,f,h⟩:=aH h
   obtain⟨ns,g,q⟩:=aH h;obtain⟨o_,S,T,_⟩:=d.dict f;intro pins s ρ O I j;obtain⟨u,rfl,p⟩:=vals1 j;cases p;obtain⟨hz,hd,xs,U,V⟩:=j0 I.hok S;obtain⟨ep,hm⟩:=V.dictAt;have hk:xs.map (·.1)=ns.map Sum.inl:=by rw[←U.keys,T,oT g]
   have hl:xs.length=ns.length:=by have:=congrArg List.length hk;simpa using this
   refine Calls.call_function_entry kind_sorted plain_sorted entry_sorted (args_sorted1 _) ?_;unfold Builtin.«sorted»;refine Yb (m:=checkCount "sorted" 1 1 _) (Yc ?_);refine Yb (u8 (A:=X.A.in1) (I.ok.hd hc) hd hm (by have:=q.1;omega) λh' tk h_ C hsz G=>?_);obtain⟨W,G⟩:=G;have Y:h_.toList.length=ns.length:=by rw[←hl,←W];simp
   have Z:IntsAre h_.toList ns:=xy Y λi v n hv hn=>by
    obtain⟨k,x,hx,hi⟩:=G i v (by rw[←XE];exact hv);have Qg:k=Sum.inl n:=by
     have:=congrArg (λl=>l[i]?) hk
     simp only[ZH,hx,hn,Option.map_some] at this;cases this;rfl
    subst Qg;exact rR hi
   refine qK (s:=s) (A:=X.A) (it:=.none) Z (by have:=q.1;omega) λout R y z B=>?_
   obtain⟨e,ho⟩:=sortedHeap_at (h:=h'.push (seqObj "list" h_.toList.toArray 0)) (a:=h'.objs.size) (vs:=h_.toList) (n:=0) (out:=out) (Yg _ rfl);refine u9 I d q (λb o e=>?_) (Nat.le_of_lt hsz) ho y z B;have c:=C b o e;have hb:b<h'.objs.size:=Ye c;rw[sortedHeap_old (ZW hb) (by rw[Heap.size_push];exact XO hb)];exact Yd _ c
 ·exact Yh h
def dP:SpD:=λds M Q=>match ds with
 |[.ref a]=>match rdD (M a) with
  |some b=>∀p,M p=none->Q (.ref p) (updM M p (.lst (keysOf b)))
  |none=>lV ds M Q
 |ds=>lV ds M Q
theorem sV{P:Zw}{w:World}:∀{xs:List (Key×Value)}{us:Zd},us.length=xs.length->(∀(i:Nat) (v:Value) (k:Key) (x:Value),us[i]?=some v->xs[i]?=some (k,x)->(a9 P w).is k v=true)->Vals (xs.map λp=>kV p.1) us
 |[],[],_,_=>.nil
 |[],_::_,h,_=>by cases h
 |_::_,[],h,_=>by cases h
 |(k,x)::xs,u::us,h,g=>.cons (rR (g 0 u k x rfl rfl)) (sV (by simpa using h) λi v k x a b=>g (i+1) v k x (by simpa using a) (by simpa using b))
theorem Bz(hc:X.calm=true):fK X (.type "list") dP:=by
 intro ds vs H M Q r d h;unfold dP at h;split at h
 ·rename_i a
  split at h
  ·rename_i f n
   obtain⟨v,rfl,y⟩:=rvs1 r;cases RV.ref_.1 y;obtain⟨c,z,A,_⟩:=d.dict n;intro pins s ρ U I B;obtain⟨u,rfl,C⟩:=vals1 B;cases C;obtain⟨hz,hd,xs,j,G⟩:=j0 I.hok z;obtain⟨V,hm⟩:=G.dictAt;have J:xs.length=c.length:=j.length.symm;by_cases l:xs.length<=2 ^ 24
   ·refine list_dict (I.ok.hd hc) hd hm l λh' tk h_ c' hk L g=>?_
    obtain⟨O,g⟩:=g;have hv:Vals (xs.map λp=>kV p.1) h_.toList:=sV (P:=X.prog) (w:=X.w) (by rw[←O];simp) λi v k x a b=>by
     obtain⟨k',W,hx,hi⟩:=g i v (by rw[←XE];exact a);rw[b] at hx;cases hx;exact hi
    have R:(xs.map λp=>kV p.1)=c.map λp=>kV p.1:=by
     have:=j.keys
     have h2:(c.map (·.1)).map kV=(xs.map (·.1)).map kV:=by rw[this]
     rw[ZO,ZO] at h2;exact h2.symm
    rw[R] at hv;have hf:H s.heap.objs.size=none:=I.hok.fresh (YH _);have kk:=Kp.new (o:=.lst (c.map λp=>kV p.1)) hf;have S:RVs X.K (upd H s.heap.objs.size (.lst (c.map λp=>kV p.1))) (keysOf f) (c.map λp=>kV p.1):=by
     have h2:keysOf f=(c.map (·.1)).map kD:=by unfold keysOf;rw[A,ZO];rfl
     have T:(c.map λp=>kV p.1)=(c.map (·.1)).map kV:=by rw[ZO];rfl
     rw[h2,T];exact om (λk=>Cq k) _
    exact⟨.ref s.heap.objs.size,_,I.laid (t':=tk) hk (YH _) (show aN X.prog X.w _ h' _ (.lst (c.map λp=>kV p.1)) from⟨by rw[ZG];exact hz,h_.toList,c',hv,by simpa using L⟩),rfl,kk,.ref _,_,RV.ref_.2 rfl,d.new (m:=.lst (keysOf f)) hf ⟨_,aw,S⟩,h _ (d.fresh hf)⟩
   ·exact absurd (by rw[J];rw[sizeLine_eq] at hz;omega) l
  ·exact xr _ vs H M Q r d h
 ·exact xr _ vs H M Q r d h
end
end DD
namespace TS
open PySem PyProof.Rows
section
variable {prog:Zw}{w:World}{A:Around}{E:Zb}{s:Shared}
def But(a:Addr)(h h':Heap):Prop:=∀b o,b≠a->h.get? b=some o->h'.get? b=some o
theorem va{R:Keyed->Int}{kd:SortKind}{a:Addr}{vs:Zd}{n:Nat}{P:Fin->Shared->Prop}(g:s.heap.get? a=some (seqObj "list" vs.toArray n))(l:∀h',But a s.heap h'->Lts prog w A { s with heap:=h' } kd R (pairsOf vs))
  (hk:2<=vs.length->∀h',But a s.heap h'->∀Q:SortKind->Shared->Prop,Q kd { s with heap:=h' }->wpAny 'e' A (keyKind' vs.toArray) Q E { s with heap:=h' }) (hz:vs.length<=4000)
  (h:∀xs:Array Keyed,xs.Perm (pairsOf vs)->Srt R xs 0 (pairsOf vs).size->P (.done (.ret .none)) { s with heap:=sortedHeap s.heap a vs (xs.map (·.2)) }):wpAny 'e' A (Builtin.«list.sort» ⟨[.ref a],[]⟩) P E s:=by
 have z:vs.toArray.size=vs.length:=by simp
 have G:=pairsOf_size vs;rw[list_sort_plain];refine Yb (listItems_at g rfl (Yb (listUpdate_at g rfl ?_ (hsz:=by rw[z,sizeLine_eq];omega))));have d:=get?_update_seq g (λ_=>#[]);generalize (if(#[]:Array Value).size==vs.toArray.size then n else n+1)=e at d;refine Yb (seqEpoch_at d rfl (Yb (wpAny_newTuple (Yb (wpAny_newList (Yj ?_))))));have m:(((s.heap.update a (Obj.mapSeq λ_=>#[])).push (seqObj "tuple" vs.toArray 0)).push (seqObj "list" #[] 0)).get? a=some (seqObj "list" #[] e):=Yd _ (Yd _ d);have k:But a s.heap (((s.heap.update a (Obj.mapSeq λ_=>#[])).push (seqObj "tuple" vs.toArray 0)).push (seqObj "list" #[] 0)):=λb o hb u=>Yd _ (Yd _ ((Heap.get?_update_other _ _ (Ne.symm hb)).trans u))
 have fin:=λ(st:SortSt) (p:(arrOf st).Perm (pairsOf vs)) (f:failedOf st=none) (q:Srt R (arrOf st) 0 (pairsOf vs).size)=>u7 (prog:=prog) (w:=w) (A:=A) (E:=E) (s:={ s with heap:=((s.heap.update a (Obj.mapSeq λ_=>#[])).push (seqObj "tuple" vs.toArray 0)).push (seqObj "list" #[] 0) }) m f (by rw[p.size_eq];omega) (h _ p q)
 by_cases c:vs.toArray.size<2
 ·rw[if_pos c,if_pos c]
  refine Yb (Yc ?_);dsimp only;rw[StateT.run_pure];refine Yb (Yc (fin _ (Array.Perm.refl _) rfl λi j x y _ J K B h2=>?_));obtain rfl:i=j:=by omega
  rw[B] at h2;cases h2;exact Int.le_refl _
 ·rw[if_neg c,if_neg c]
  refine Yb (hk 'a' _ k _ (Yb (wpAny_mono (oS (l _ k) ⟨Array.Perm.refl _,rfl,rfl⟩ rfl (Q:=λ_ st=>(arrOf st).Perm (pairsOf vs)/\failedOf st=none/\Srt R (arrOf st) 0 (pairsOf vs).size) λst p f q=>⟨p,f,q⟩) ?_ λ_ _ e=>e)));intro r L C;obtain⟨rfl,p,f,q⟩:=C;exact fin r.2 p f q
def PairAt(h:Heap)(p:Int×Int)(v:Value):Prop:=∃a t u,v=.ref a/\h.IsTuple a #[.int p.1 t,.int p.2 u]
def rkP(p:Int×Int):Int:=p.1*1048576+p.2
def rkV(h:Heap)(v:Value):Int:=match v with
 |.ref a=>match h.get? a with
  |some o=>match o.data with
   |.seq xs _=>numOf (xs[0]?.getD .none)*1048576+numOf (xs[1]?.getD .none)
   |_=>0
  |none=>0
 |_=>0
theorem l4{h:Heap}{p:Int×Int}{v:Value}(r:PairAt h p v):rkV h v=rkP p:=by
 obtain⟨a,t,u,rfl,o,ho,_,n,hd⟩:=r;unfold rkV;simp only[ho,hd];rfl
def smallP(p:Int×Int):Prop:=0<=p.2/\p.2<1048576
theorem FO{p q:Int×Int}{x y:Value}{Q:Bool->Shared->Prop}(hp:PairAt s.heap p x)(hq:PairAt s.heap q y)(sp:smallP p)(sq:smallP q)(k:Q (decide (rkP p<rkP q)) s):wpAny 'e' A (keyLt' (tuples' true) x y) Q E s:=by
 obtain⟨a,t,u,rfl,o,ho,_,n,hd⟩:=hp;obtain⟨b,t',m,rfl,o',j,_,n',l⟩:=hq;obtain⟨p1,p2⟩:=p;obtain⟨f,c⟩:=q;unfold smallP rkP at *;dsimp only at *;refine PySem.W.kat_lt ho hd j l ?_;refine PySem.W.kat_cons (wpAny_eqBool_int ?_);by_cases e:p1=f
 ·subst e
  rw[XH];refine PySem.W.kat_yes (PySem.W.kat_cons (wpAny_eqBool_int ?_));by_cases g:p2=c
  ·subst g
   rw[XH];refine PySem.W.kat_yes (PySem.W.kat_nil ?_);have d:decide (p1*1048576+p2<p1*1048576+p2)=false:=by simp
   rw[d] at k;exact k
  ·rw[show(p2==c)=false by simpa using g]
   refine PySem.W.kat_no (PySem.W.kat_one _ _ (lt_int (show Q (decide (p2<c)) s from ?_)));have d:decide (p1*1048576+p2<p1*1048576+c)=decide (p2<c):=by rw[decide_eq_decide];omega
   rw[d] at k;exact k
 ·rw[show(p1==f)=false by simpa using e]
  refine PySem.W.kat_no ?_;show wpAny _ _ (oneLt' true _ _) _ _ _;refine oneLt_int ?_;have d:decide (p1*1048576+p2<f*1048576+c)=decide (p1<f):=by rw[decide_eq_decide];omega
  rw[d] at k;exact k
theorem vb{h:Heap}:∀{ps:List (Int×Int)}{vs:Zd},Paired (PairAt h) ps vs->∃fs,PySem.W.KatTups h vs fs/\fs.length=vs.length/\∀v∈fs,∃i t,v=Value.int i t
 |_,_,.nil=>⟨[],.nil,rfl,λ_ z=>nomatch z⟩
 |_,_,.cons r t=>by
  obtain⟨fs,b,h2,c⟩:=vb t;obtain⟨a,t,u,rfl,o,ho,hc,n,hd⟩:=r;refine⟨_::fs,PySem.W.KatTups.cons ho hc hd rfl b,by simp[h2],λv hv=>?_⟩;rcases YC.mp hv with rfl | hv
  ·exact⟨_,_,rfl⟩
  ·exact c v hv
theorem D7{b c:Type}{F:b->c->Prop}{m d:List c}(h:d.Perm m):∀{l:List b},Paired F l m->∃a,a.Perm l/\Paired F a d:=by
 induction h with
 |nil=>intro l hl;cases hl;exact⟨[],.refl _,.nil⟩
 |cons x h f=>
  intro l hl;cases hl with
  |cons r t=>
   obtain⟨a,p,q⟩:=f t;exact⟨_::a,p.cons _,.cons r q⟩
 |swap x y k=>
  intro l hl;cases hl with
  |cons r t=>cases t with
   |cons g t=>exact⟨_,.swap _ _ _,.cons g (.cons r t)⟩
 |trans B h2 j n=>
  intro l hl;obtain⟨C,p1,o⟩:=n hl;obtain⟨u,p2,z⟩:=j o;exact⟨u,p2.trans p1,z⟩
theorem vc{d c:Type}{F:d->c->Prop}:∀{l:List d}{m:List c}{b:c},Paired F l m->b∈m->∃a∈l,F a b
 |_,_,_,.nil,h=>nomatch h
 |_,_,_,.cons r t,h=>by
  rcases YC.mp h with rfl | h
  ·exact⟨_,YA,r⟩
  ·obtain⟨a,f,h2⟩:=vc t h
   exact⟨a,.tail _ f,h2⟩
theorem r0{c d:Type}{F:c->d->Prop}:∀{l:List c}{m:List d}{i:Nat}{a:c},Paired F l m->l[i]?=some a->∃b,m[i]?=some b/\F a b
 |_,_,_,_,.nil,e=>by simp at e
 |_,_,0,_,.cons r _,e=>by simp at e;subst e;exact⟨_,rfl,r⟩
 |_,_,i+1,a,.cons _ t,e=>by
  obtain⟨b,f,h2⟩:=r0 (i:=i) (a:=a) t (by simpa using e);exact⟨b,by simpa using f,h2⟩
theorem pairsOf_toList(vs:Zd):(pairsOf vs).toList=vs.map λv=>(v,v):=by
 unfold pairsOf;rw[Array.toList_zip];show vs.zip vs=_;induction vs with
 |nil=>rfl
 |cons v vs a=>simp[a]
theorem list_sort_prs{B:Type}{G:B->Value->Prop}{f:B->Int×Int}{l:List B}{a:Addr}{vs:Zd}{n:Nat}{P:Fin->Shared->Prop}(g:s.heap.get? a=some (seqObj "list" vs.toArray n))(m:∀x v,G x v->PairAt s.heap (f x) v)(V:∀x v t,G x v->v=.ref t->t≠a)(C:∀x∈l,smallP (f x))(hl:Paired G l vs)(hz:vs.length<=4000)
  (h:∀(out:Zl) (d:List B),Paired G d out.toList->d.Perm l->d.Pairwise (λx y=>rkP (f x)<=rkP (f y))->P (.done (.ret .none)) { s with heap:=sortedHeap s.heap a vs out }):wpAny 'e' A (Builtin.«list.sort» ⟨[.ref a],[]⟩) P E s:=by
 have c:∀h',But a s.heap h'->∀x v,G x v->PairAt h' (f x) v:=λh' hb x v r=>by
  obtain⟨b,t,u,rfl,o,ho,q⟩:=m x v r;exact⟨b,t,u,rfl,o,hb b o (V x _ b r rfl) ho,q⟩
 have z:∀k∈(pairsOf vs).toList,k.1=k.2/\k.1∈vs:=λk hk=>by
  rw[pairsOf_toList,List.mem_map] at hk;obtain⟨v,hv,rfl⟩:=hk;exact⟨rfl,hv⟩
 refine va (R:=λk=>rkV s.heap k.1) (kd:=tuples' true) g (λh' hb x y hx hy Q E q=>?_) (λh2 h' hb Q q=>?_) hz λxs p q=>?_
 ·obtain⟨a1,Y,K⟩:=vc hl (z x hx).2
  obtain⟨a2,Z,L⟩:=vc hl (z y hy).2;refine FO (c h' hb _ _ K) (c h' hb _ _ L) (C _ Y) (C _ Z) ?_;have e1:=l4 (m _ _ K);have e2:=l4 (m _ _ L);rw[←e1,←e2];exact q
 ·have KS:Paired (PairAt h') (l.map f) vs:=by
   clear g hz h2 z h C;induction hl with
   |nil=>exact .nil
   |cons r t ih=>exact .cons (c h' hb _ _ r) ih
  obtain⟨fs,k1,k2,k3⟩:=vb KS;refine PySem.W.kat_kind (T:=.type "int") k1 'a' (λv hv=>?_) 'b' ?_
  ·obtain⟨i,t,rfl⟩:=k3 v hv
   exact .now
  ·exact q
 ·have hp:(xs.map (·.2)).toList.Perm vs:=by
   have:=(Array.perm_iff_toList_perm.mp p).map (·.2)
   rw[pairsOf_toList,ZO] at this;rw[Array.toList_map];refine this.trans (List.Perm.of_eq ?_);exact List.map_id' vs
  obtain⟨d,h1,h2⟩:=D7 hp hl;refine h _ d h2 h1 ?_;rw[List.pairwise_iff_getElem];intro i j hi hj G2;have hsz:d.length=xs.size:=by
   have:=Paired.length h2
   simpa using this
  obtain⟨v,hv,rv⟩:=r0 h2 (ZE hi);obtain⟨v',O,Hj⟩:=r0 h2 (ZE hj);have S:xs[i]?=some (xs[i]' 'a'):=Array.getElem?_eq_getElem 'a';have U:xs[j]?=some (xs[j]' 'a'):=Array.getElem?_eq_getElem 'a';have m1:=(z _ ((Array.perm_iff_toList_perm.mp p).mem_iff.mp (by simpa using(Array.getElem_mem (xs:=xs) (i:=i) 'a')))).1;have m2:=(z _ ((Array.perm_iff_toList_perm.mp p).mem_iff.mp (by simpa using(Array.getElem_mem (xs:=xs) (i:=j) 'a')))).1;have J:=q i j _ _ (YO _) (Nat.le_of_lt G2) (by rw[←p.size_eq];omega) S U;rw[Array.toList_map,ZH,XE,S] at hv;rw[Array.toList_map,ZH,XE,U] at O;cases hv;cases O;dsimp only at J;rw[m1,m2,l4 (m _ _ rv),l4 (m _ _ Hj)] at J;exact J
end
end TS
namespace DD
open PySem PySem.Spec PyProof.Rows L2
def prD(p:Int×Int):D:=.tup [.int p.1,.int p.2]
def l5:SpD:=λds M Q=>match ds with
 |[.ref a]=>∃ps:List (Int×Int),rdL (M a)=some (ps.map prD)/\ps.length<=4000/\(∀p∈ps,TS.smallP p)/\∀(p:Addr) (b:List (Int×Int)),M p=none->b.Perm ps->b.Pairwise (λx y=>TS.rkP x<=TS.rkP y)->Q (.ref p) (updM M p (.lst (b.map prD)))
 |_=>False
section
variable {prog:Zw}{w:World}{A:Around}{E:Zb}{s:Shared}
theorem yn {c:Type} {G:c->Value->Prop} {f:c->Int × Int} {l:List c} {vs:Zd} {h':Heap} {tk:Nat} {Q:Zb} (d:∀ x v,G x v->TS.PairAt h' (f x) v) (j:∀ x ∈ l,TS.smallP (f x)) (hl:Paired G l vs) (hz:vs.length<=4000)
  (h:∀ (out:Zl) (b:List c),Paired G b out.toList->b.Perm l->b.Pairwise (λx y=>TS.rkP (f x)<=TS.rkP (f y))->Q (.ref h'.objs.size) { s with heap:=sortedHeap (h'.push (seqObj "list" vs.toArray 0)) h'.objs.size vs out,toks:=tk }) :
  wpAny 'e' A.in1 (do
   let l ← newList vs
   let _ ← holding [l] (call (.builtin "list.sort") [l] [])
   ret l) (λfin k=>∃ v,fin = Fin.done (.ret v)/\Q v k) E { s with heap:=h',toks:=tk }:=by
 refine Yb (wpAny_newList ?_)
 have g:(h'.push (seqObj "list" vs.toArray 0)).get? h'.objs.size = some (seqObj "list" vs.toArray 0):=Yg _ rfl
 show wpAny _ _ _ _ _ { s with heap:=h'.push (seqObj "list" vs.toArray 0),toks:=tk }
 refine Yb (Yj (wpAny_call_entry slot_list_sort ⟨_,g,rfl⟩ entry_list_sort (TS.list_sort_prs (G:=G) (f:=f) g (λx v r=>?_) (λx v t r e=>?_) j hl hz λout b m n p=>⟨_,rfl,?_⟩) (args_list_sort _)))
 ·obtain ⟨a,t,u,rfl,o,ho,q⟩:=d x v r
  exact ⟨a,t,u,rfl,o,Yd _ ho,q⟩
 ·obtain ⟨a,t',u,rfl,o,ho,q⟩:=d x v r
  cases e
  exact ZW (Ye ho)
 ·exact Yc ⟨_,rfl,h out b m n p⟩
end
section
variable {X:Cx}{H:Hp}
theorem r9{pins:Zc}{ρ:L2.St}{s:Shared}(I:Inv X pins ρ H s):∀{ps:List (Int×Int)}{us:List V}{c_:Zd},RVs X.K H (ps.map prD) us->Vals us c_->Paired (λ(x:(Int×Int)×V) (v:Value)=>RV X.K H (prD x.1) x.2/\RelV x.2 v/\TS.PairAt s.heap x.1 v) (ps.zip us) c_
 |[],us,c_,r,v=>by
  have:=r.len
  cases us with
  |nil=>cases v;exact .nil
  |cons _ _=>cases this
 |p::ps,us,c_,r,v=>by
  rw[YM,RVs] at r;obtain⟨u,o,rfl,b,c⟩:=r;cases v with
  |cons q t=>
   refine .cons ⟨b,q,?_⟩ (r9 I c t);obtain⟨a,xs,rfl,sq,d⟩:=RV.tup_.1 b;cases q;obtain⟨ys,f,h2,_⟩:=I.tuple sq;obtain⟨y,z,rfl,g,j⟩:=rvs2 d;cases RV.int_.1 g;cases RV.int_.1 j;obtain⟨A,B,rfl,k,l⟩:=f.two;obtain⟨m,rfl⟩:=k;obtain⟨n,rfl⟩:=l;exact⟨a,m,n,rfl,h2⟩
theorem xz{c d:Type}:∀{l:List c}{m:List d},l.length=m.length->(l.zip m).map (·.1)=l
 |[],[],_=>rfl
 |[],_::_,h=>by cases h
 |_::_,[],h=>by cases h
 |a::l,b::m,h=>by rw[List.zip_cons_cons,YM,xz (by simpa using h)]
theorem yo:fK X (.builtin "sorted") l5:=by
 intro ds vs H M Q r j h;unfold l5 at h;split at h
 ·rename_i a
  obtain⟨v,rfl,P⟩:=rvs1 r;cases RV.ref_.1 P;obtain⟨ps,R,Y,S,q⟩:=h;obtain⟨us,sq,l⟩:=j.list R;intro pins s ρ Z I T;obtain⟨u,rfl,U⟩:=vals1 T;cases U;obtain⟨c_,p,pl,hz⟩:=I.list sq;have C:ps.length=us.length:=by simpa using l.len
  have hl:c_.length=ps.length:=by rw[C];exact p.length.symm
  have h4:(4000:Nat)<=sizeLine:=by decide
  have J:c_.length<=sizeLine:=by omega
  refine Calls.call_function_entry kind_sorted plain_sorted entry_sorted (args_sorted1 _) ?_;unfold Builtin.«sorted»;refine Yb (m:=checkCount "sorted" 1 1 _) (Yc ?_);refine Yb (collect_list pl.isList ?_ J);have hsz:((s.heap.push (seqObj "list" #[] 0)).update s.heap.objs.size (Obj.mapSeq (· ++ c_.toArray))).objs.size=s.heap.objs.size+1:=by rw[Heap.size_update,Heap.size_push]
  have L:∀b o,s.heap.get? b=some o->((s.heap.push (seqObj "list" #[] 0)).update s.heap.objs.size (Obj.mapSeq (· ++ c_.toArray))).get? b=some o:=λb o e=>
   (Heap.get?_update_other _ _ (Ne.symm (ZW (Ye e)))).trans (Yd _ e)
  refine yn (s:=s) (A:=X.A) (f:=(·.1)) (tk:=s.toks) (G:=λ(x:(Int×Int)×V) (v:Value)=>RV X.K H (prD x.1) x.2/\RelV x.2 v/\TS.PairAt s.heap x.1 v) (λx v r=>?_) (λx hx=>S _ (List.of_mem_zip hx).1) (r9 I l p) 'a' λout c d g y=>?_
  ·obtain⟨_,_,a,t,u,rfl,o,ho,q⟩:=r
   exact⟨a,t,u,rfl,o,L _ _ ho,q⟩
  ·generalize (s.heap.push (seqObj "list" #[] 0)).update s.heap.objs.size (Obj.mapSeq (· ++ c_.toArray))=h' at *
   obtain⟨e,ho⟩:=sortedHeap_at (h:=h'.push (seqObj "list" c_.toArray 0)) (a:=h'.objs.size) (vs:=c_) (n:=0) (out:=out) (Yg _ rfl);have k:∀b o,s.heap.get? b=some o->(sortedHeap (h'.push (seqObj "list" c_.toArray 0)) h'.objs.size c_ out).get? b=some o:=λb o e=>by
    have O:=L b o e;have hb:b<h'.objs.size:=Ye O;rw[sortedHeap_old (ZW hb) (by rw[Heap.size_push];exact XO hb)];exact Yd _ O
   have hf:H h'.objs.size=none:=I.hok.fresh 'a';have kk:=Kp.new (o:=.lst (c.map (·.2))) hf;have z:c.length=c_.length:=by rw[g.length_eq];exact Paired.length (r9 I l p)
   have hv:Vals (c.map (·.2)) out.toList:=by
    clear ho g y z kk;generalize out.toList=o' at d;induction d with
    |nil=>exact .nil
    |cons r t B=>exact .cons r.2.1 B
   have W:RVs X.K H ((c.map (·.1)).map prD) (c.map (·.2)):=by
    clear ho g y z kk hv;generalize out.toList=o' at d;induction d with
    |nil=>exact .nil
    |cons r t B=>exact .cons r.1 B
   refine⟨.ref h'.objs.size,_,I.laid (t':=s.toks) k 'a' (show aN X.prog X.w _ _ h'.objs.size (.lst (c.map (·.2))) from⟨by rw[ZG,z];exact J,out.toList,e,hv,by simpa [seqObj] using ho⟩),rfl,kk,.ref _,_,RV.ref_.2 rfl,j.new (m:=.lst ((c.map (·.1)).map prD)) hf ⟨_,aw,RVs.mono kk _ W⟩,q _ _ (j.fresh hf) ?_ ?_⟩
   ·have:=g.map (·.1)
    rwa [xz C] at this
   ·rw[List.pairwise_map]
    exact y
 ·exact Yh h
end
theorem z5:typeLookup (.type "list_reverseiterator") "__len__" = pure none:=by rw[typeLookup_type,builtinLookup_eq_fast];kernel_rfl
theorem BA:typeLookup (.type "list_reverseiterator") "__length_hint__" = pure (some (.builtin "list_reverseiterator.__length_hint__")):=by rw[typeLookup_type,builtinLookup_eq_fast];kernel_rfl
section
variable {prog:Zw}{w:World}{A:Around}{E:Zb}{s:Shared}{R:Result->Shared->Prop}
variable {I:Addr}{fp wr:Zh}{G:Array GenState->Array GenState->Prop}{n:Nat}{P:Nat->Value->Prop}{St:Nat->Shared->Prop}
theorem yp(W:WalksS prog w A.in1 I fp wr G n P St)(d:∀i s,St i s->s.TypeIs (.ref I) "list_reverseiterator")(S:Addr)(res:Value)(l:Nat)(c:St 0 s)(k:S∉fp)(m:I∈fp)
  (o:s.heap.get? S=some { cls:=.type "list",data:=.seq #[] l })
  (p:∀a g c',Moved (S::wr) G s a->a.heap.get? S=some { cls:=.type "list",dict:=none,data:=.seq g c',slots:=#[] }->ItemsOf P g n->R (.ok (.ret res)) a) (hn:n<=sizeLine):
  wpAny 'e' A.in1 (Builtin.List.listExtendWith (.ref S) (.ref I) res)
   (λfin a=>match fin with | .done f=>R (.ok f) a | .again c'=>c'.quiet=true/\codeAny 'e' A c' R a) (λe a=>R (.error e) a) s:=by
 have r:S≠I:=λe=>k (e▸m)
 have u:Builtin.List.listSameRef (.ref S) (.ref I)=false:=by simp[Builtin.List.listSameRef,r]
 unfold Builtin.List.listExtendWith;refine Yb (wpAny_typeOf (d 0 _ c) ?_);rw[if_neg (by rw[u];decide)];refine Yb (W.self 0 _ _ _ c ?_);refine Yb (Yj ?_);unfold Builtin.List.listLengthHint;refine Yb (wpAny_specialOf (d 0 _ c) z5 ?_);show wpAny _ A.in1 (specialOf (Value.ref I) (Str.ofString "__length_hint__") >>= _) _ _ _;refine Yb (wpAny_specialOf (d 0 _ c) BA ?_);generalize hid:("list_reverseiterator.__length_hint__" : String)=j;wp_delta;rw[show splitId j=some ("list_reverseiterator","__length_hint__") from by subst hid;rfl'];subst hid;refine Yb (wpAny_isInstance (b:=true) (d 0 _ c) (by rw[isSubtype_type];kernel_rfl) ?_);refine Yc ?_;rw[if_neg 'b'];exact Yc ⟨plainId_quiet F.plain_extend_loop _,codeAny_extend_loopS W hn _ k _ n 0 _ _ _ rfl (YO _) c o (ItemsOf.nil P) λa g c' hm y z=>p a g c' hm y z⟩
theorem tJ{Q:Zb}{l:Addr}{b_:Zl}(g:A.handled=none)(G0:s.heap.IsRevIter I l ((b_.size:Int)-1))(hl:s.heap.IsList l b_)(j:l≠I)(hn:b_.size<=sizeLine)
  (k:∀h' tk h_ c',(∀b o,b≠I->s.heap.get? b=some o->h'.get? b=some o)->h'.get? s.heap.objs.size=some { cls:=.type "list",dict:=none,data:=.seq h_ c',slots:=#[] }->ItemsOf (λi v=>b_[b_.size-1-i]?=some v) h_ b_.size->Q (.ref s.heap.objs.size) { s with heap:=h',toks:=tk }):
  wpAny 'e' A (call (.type "list") [.ref I]) Q E s:=by
 obtain⟨J,m,_⟩:=id G0;obtain⟨K,Mw,_⟩:=id hl;have L:=Ye m;have O:=Ye Mw;refine callType_codes (Q₁:=λobj d=>obj=.ref s.heap.objs.size/\d={ s with heap:=s.heap.push { cls:=.type "list",data:=.seq #[] } }) F.called_list (F.typeCall_list_1 _) F.entry_list_init (code_list_new _ ⟨rfl,rfl⟩) λobj d p=>?_
 obtain⟨rfl,rfl⟩:=p;have a:(s.heap.push { cls:=.type "list",data:=.seq #[] }).get? s.heap.objs.size=some { cls:=.type "list",data:=.seq #[] }:=Yg _ rfl;refine⟨⟨_,a,rfl⟩,F.args_list_init_2 _ _,?_⟩;show wpAny _ _ (do let c ←Builtin.List.listItems (.ref s.heap.objs.size);Builtin.List.listUpdate (.ref s.heap.objs.size) (λ_=>#[]);letGo c.toList.reverse;Builtin.List.listExtendWith (.ref s.heap.objs.size) (.ref I) .none) _ _ _;refine Yb ?_;unfold Builtin.List.listItems;refine Yb (wpAny_seqItems a rfl (Yc ?_));show wpAny _ _ (updateSeq s.heap.objs.size (λ_=>#[]) >>= λ_=>letGo (#[]:Array Value).toList.reverse >>= λ_=>Builtin.List.listExtendWith (.ref s.heap.objs.size) (.ref I) .none) _ _ _;refine Yb (wpAny_updateSeq a rfl ?_);have p1:=Heap.get?_update_self (Obj.mapSeq (λ_=>(#[]:Array Value))) a rfl;have keep:∀b o,s.heap.get? b=some o->((s.heap.push { cls:=.type "list",data:=.seq #[] }).update s.heap.objs.size (Obj.mapSeq (λ_=>(#[]:Array Value)))).get? b=some o:=λb o e=>
  (Heap.get?_update_other _ _ (Ne.symm (ZW (Ye e)))).trans (Yd _ e)
 refine Yb (wpAny_letGo ?_);have W:=(Walks.listRev (prog:=prog) (w:=w) (A:=A.in1.in1) g I l j b_).toS;have r:(0:Nat)<=b_.size/\((s.heap.push { cls:=.type "list",data:=.seq #[] }).update s.heap.objs.size (Obj.mapSeq (λ_=>(#[]:Array Value)))).IsRevIter I l ((b_.size:Int)-1-((0:Nat):Int))/\((s.heap.push { cls:=.type "list",data:=.seq #[] }).update s.heap.objs.size (Obj.mapSeq (λ_=>(#[]:Array Value)))).IsList l b_:=by
  refine⟨YO _,?_,hl.at λo e=>keep l o e⟩;have e:(b_.size:Int)-1-((0:Nat):Int)=(b_.size:Int)-1:=by omega
  rw[e];exact G0.at λo e=>keep I o e
 refine yp (A:=A.in1) (s:={ s with heap:=(s.heap.push { cls:=.type "list",data:=.seq #[] }).update s.heap.objs.size (Obj.mapSeq (λ_=>(#[]:Array Value))) }) W (λi s st=>st.2.1.typeIs) s.heap.objs.size .none _ r (λhm=>?_) YA p1 (λf h_ c' hm u y=>?_) hn
 ·obtain⟨S,z,_⟩:=G0
  obtain⟨T,h2,_⟩:=hl;have B:I<s.heap.objs.size:=Ye z;have C:l<s.heap.objs.size:=Ye h2;rcases YC.mp hm with e | hm
  ·exact ZW B e.symm
  ·exact ZW C (XR.mp hm).symm
 ·rw[Moved.eq_with hm]
  refine⟨rfl,k f.heap f.toks h_ c' (λb o hb e=>hm.heap b o (λGK=>?_) (keep b o e)) u y⟩;rcases YC.mp GK with e' | GK
  ·exact absurd (Ye e) (by rw[e'];exact ZV _)
  ·exact hb (XR.mp GK)
end
theorem BB:∀{vs:List V}{us:Zd},Vals vs us->Vals vs.reverse us.reverse:=λh=>lG h
theorem z6{c_:Zd}{h_:Zl}(h:ItemsOf (λi v=>c_.toArray[c_.toArray.size-1-i]?=some v) h_ c_.toArray.size):h_.toList=c_.reverse:=by
 obtain⟨b,h2⟩:=h;have e:c_.toArray.size=c_.length:=by simp
 refine List.ext_getElem? λi=>?_
 by_cases hi:i<c_.length
 ·have hx:h_[i]?=some (h_[i]' 'a'):=Array.getElem?_eq_getElem 'a'
  have a:=h2 i _ hx;rw[XE,List.getElem?_reverse hi,hx,←a,e,List.getElem?_toArray]
 ·rw[ZK (by simp;omega),ZK (by simp;omega)]
def yq(t:WA):WE:=λσ M Q=>t σ M λds M1=>match ds with
 |[.ref a]=>optD (rdL (M1 a)) λxs=>∀p,M1 p=none->Q (.ref p) (updM M1 p (.lst xs.reverse))
 |_=>False
section
variable {X:Cx}{H:Hp}{pos:Pos}
theorem BC{a:Expr}{t:WA}{p p2 r:Pos}(hc:X.calm=true)(hg:Gl X "list")(hm:X.mg "list" = none)(y:Gl X "reversed")(z:X.mg "reversed" = none)(ha:PAd X [a] t)(A:ao a=true):
  PEd X (.Call (.Name "list" p) [.Call (.Name "reversed" p2) [a] [] r] [] pos) (yq t):=by
 intro σ M ρ H Q rs B q pins s I;refine Call_ (bY I hg hm (by rfl':bootBuiltins "list" = some (.type "list")) (PyProof.Rows.callWith_type1 (args_cons (Call_ (bY I y z boot_reversed (PyProof.Rows.callWith_type1 (thn (ha σ M ρ H _ rs B q _ pins s I) λus s1 C=>?_) (aM A) rfl)))) rfl rfl));obtain⟨vs,G,c,J,⟨K,ds,M1,L,W,d,f⟩⟩:=C;split at f
 ·rename_i l
  obtain⟨v,rfl,O⟩:=rvs1 L;cases RV.ref_.1 O;obtain⟨u,rfl,P⟩:=vals1 J;cases P;obtain⟨xs,R,q⟩:=aH f;obtain⟨g,sq,S⟩:=d.list R;obtain⟨c_,n,pl,hz⟩:=c.list sq;have T:l<s1.heap.objs.size:=by obtain⟨o,ho,_⟩:=pl.isList;exact Ye ho
  have Y:c_.length=g.length:=n.length.symm;refine call_reversed_list pl.isList (args_nil ?_);have keep:∀b o,s1.heap.get? b=some o->(s1.heap.push (revObj l ((c_.toArray.size:Int)-1))).get? b=some o:=λb o e=>Yd _ e
  refine tJ (s:={ s1 with heap:=s1.heap.push (revObj l ((c_.toArray.size:Int)-1)) }) (b_:=c_.toArray) (c.ok.hd hc) ⟨_,Yg _ rfl,rfl,rfl⟩ (pl.isList.at λo e=>keep l o e) (ZW T) (by simp;omega) λh' tk h_ c' hk U j=>?_
  have j:=z6 j;have V:∀b o,s1.heap.get? b=some o->h'.get? b=some o:=λb o e=>hk b o (ZW (Ye e)) (keep b o e)
  have hf:G (s1.heap.push (revObj l ((c_.toArray.size:Int)-1))).objs.size=none:=c.hok.fresh (by rw[Heap.size_push];omega);have k:=Kp.new (o:=.lst g.reverse) hf;exact⟨.ref _,_,c.laid (t':=tk) V (by rw[Heap.size_push];omega) (show aN X.prog X.w _ h' _ (.lst g.reverse) from⟨by simpa using hz,h_.toList,c',by rw[j];exact BB n,by simpa using U⟩),rfl,K.trans k,.ref _,_,RV.ref_.2 rfl,d.new (m:=.lst xs.reverse) hf ⟨_,aw,RVs.mono k _ (RVs.of (lG S.p))⟩,q _ (d.fresh hf)⟩
 ·exact Yh f
end
section
variable {X:Cx}{H:Hp}{pos:Pos}{e:Expr}{es:Zg}
inductive Bk where
 |sorted | list | sortedP
 deriving DecidableEq
def dBk:Bk->SpD
 |.sorted=>jo
 |.list=>dP
 |.sortedP=>l5
def qL:Bk->Str
 |.sorted=>"sorted"
 |.list=>"list"
 |.sortedP=>"sorted"
theorem FP(b:Bk)(hc:X.calm=true){t:WA}{p:Pos}(hg:Gl X (qL b))(hm:X.mg (qL b)=none)(a:ao e=true)(c:es.all ao=true)(ha:PAd X (e::es) t):PEd X (.Call (.Name (qL b) p) (e::es) [] pos) (fF (dBk b) t):=by
 cases b with
 |sorted=>exact fo (z0 hc) hg hm (by rfl') 'b' 'b' a c ha
 |sortedP=>exact fo yo hg hm (by rfl') 'b' 'b' a c ha
 |list=>exact qx (Bz hc) hg hm (by rfl') 'b' 'b' a c ha
end
section
variable {prog:Zw}{w:World}{A:Around}{E:Zb}{s:Shared}
theorem vd{it t:Addr}{i:Nat}{b_:Zl}{x:Value}{Q:Zb}(G0:s.heap.IsTupleIter it t i)(ht:s.heap.IsTuple t b_)(hx:b_[i]?=some x)
  (a:∀h',h'.IsTupleIter it t (i+1)->Heap.SameBut it s.heap h'->Q x { s with heap:=h' }):wpAny 'e' A (Builtin.SmallTypes.nextOf (.ref it)) Q E s:=by
 obtain⟨o,ho,hc,hd⟩:=id G0;obtain⟨b,Mw,_,c,MR⟩:=ht;unfold Builtin.SmallTypes.nextOf;rw[2];simp only[YY,hx];refine Yb (wpAny_setField ho hd (by simp) (Yc ⟨x,rfl,Yc (a _ ⟨_,Heap.get?_update_self _ ho (Obj.isFreed_of_fields (Obj.data_mapFields hd _)),(Obj.cls_mapFields ..).trans hc,?_⟩ (Heap.SameBut.update ..))⟩));rw[Obj.data_mapFields hd];simp[rawInt]
theorem pH{it t:Addr}{i:Nat}{b_:Zl}{Q:Zb}(b:A.handled=none)(G0:s.heap.IsTupleIter it t i)(ht:s.heap.IsTuple t b_)(hx:b_[i]?=none)
  (c:∀h' e,Heap.ExtBut it s.heap h'->(∃o,h'.get? e=some o/\o.cls=.type "StopIteration")->E (.ref e) { s with heap:=h' }):wpAny 'e' A (Builtin.SmallTypes.nextOf (.ref it)) Q E s:=by
 obtain⟨o,ho,hc,hd⟩:=id G0;obtain⟨d,Mw,_,f,MR⟩:=ht;unfold Builtin.SmallTypes.nextOf;rw[2];simp only[YY,hx];refine Yb (wpAny_rule (Yb (wpAny_setField ho hd (by simp) ?_)));show wpAny _ _ (newExc (.type "StopIteration") [] >>= _) _ _ _;refine Yb ?_;simp only[newExc,newTuple];refine Yb (wpAny_newObj_type ?_ (by size_fits));refine Yb (m:=firstArgMember _ _) (wpAny_of_eq (a:=Value.none) (by first | rfl | (simp only[firstArgMember];rfl)) (wpAny_newObj_type ?_ (by size_fits)));simp only[raiseNew];refine Yb (wpAny_handled ?_);first | rw[show A.in1.handled=none from b] | rw[b]
 refine Yb (Yc (wpAny_throw (c _ _ (((Heap.SameBut.update ..).extBut.push _).push _) ⟨_,Yg _ rfl,rfl⟩)))
theorem oU(b:A.handled=none)(it t:Addr)(c:t≠it)(b_:Zl):Draws prog w A it [it,t] b_.size (λi v=>b_[i]?=some v) (λi h=>h.IsTupleIter it t i/\h.IsTuple t b_) where
 live:=λ_ _ st=>let⟨o,ho,_⟩:=st.1;⟨o,ho⟩
 frame:=λ_ _ _ st hk=>⟨st.1.at λo e=>hk it (by simp) o e,let⟨o,ho,r⟩:=st.2;⟨o,hk t (by simp) o ho,r⟩⟩
 item:=λi s Q E hi st d=>vd st.1 st.2 (x:=b_[i]) (by simp[hi]) λh' f a=>d _ h' s.toks (by simp[hi]) ⟨f,st.2.extBut a.extBut c⟩ a
 done:=λs Q E st g=>pH b st.1 st.2 (by simp) g
theorem z7(l:Addr)(b_:Zl)(n:Nat)(b:Zm)(sl:Zn):
  Meets (Builtin.«enumerate.__new__» ⟨[.type "enumerate",.ref l],[]⟩) (λ_ R s=>s.heap.get? l=some { cls:=.type "tuple",dict:=b,data:=.seq b_ n,slots:=sl } /\
   R (.ok (.ret (.ref (s.heap.push { cls:=.type "tuple_iterator",data:=.fields #[.ref l,.int 0 0] }).objs.size)))
    { s with heap:=(s.heap.push { cls:=.type "tuple_iterator",data:=.fields #[.ref l,.int 0 0] }).push { cls:=.type "enumerate",data:=.fields #[.none,.bool false,.ref s.heap.objs.size,rawInt 0,.none,.none] } }):=by
 refine .of_wp λprog w A R s h=>?_
 obtain⟨hp,g,d,tk,os⟩:=s;obtain⟨hl,h⟩:=h;have f:=sub_enumerate;have a:Heap.IsTuple (Shared.heap ⟨hp,g,d,tk,os⟩) l b_:=⟨_,hl,rfl,n,rfl⟩;wp_walk using AutoSeq1.wpAny_loadPart' hl;refine wpAny_stack_any λst=>Yc ?_
 split
 ·rename_i c _ _ _ _ _
  cases(c==Value.type "enumerate")<;>(wp_walk using AutoSeq1.wpAny_loadPart' hl,wpAny_pyIter_tuple a;exact⟨_,rfl,h⟩)
 ·wp_walk using AutoSeq1.wpAny_loadPart' hl,wpAny_pyIter_tuple a
  exact⟨_,rfl,h⟩
theorem yr{l:Addr}{b_:Zl}{Q:Zb}(d:s.heap.IsTuple l b_)
  (h:∀h',IsEnum h' (s.heap.objs.size+1) s.heap.objs.size 0 .none->h'.IsTupleIter s.heap.objs.size l 0->(∀b o,s.heap.get? b=some o->h'.get? b=some o)->Q (.ref (s.heap.objs.size+1)) { s with heap:=h' }):
  wpAny 'e' A (call (.type "enumerate") [.ref l]) Q E s:=by
 obtain⟨⟨c,f,g,sl⟩,hl,hc,n,hd⟩:=d;obtain rfl:c=.type "tuple":=hc;obtain rfl:g=.seq b_ n:=hd;refine callType_new F.called_enumerate 'b' (F.typeCall_enumerate_1 _) (F.newCall_enumerate_1 _) (λobj=>F.args_object_init_2 obj _) F.entry_enumerate_new (z7 l b_ n f sl) ⟨hl,?_⟩;have hz:(s.heap.push { cls:=.type "tuple_iterator",data:=.fields #[.ref l,.int 0 0] }).objs.size=s.heap.objs.size+1:=Heap.size_push ..;show _/\_;rw[hz];have a:=Yg (s.heap.push { cls:=.type "tuple_iterator",data:=.fields #[.ref l,.int 0 0] }) (o:={ cls:=.type "enumerate",data:=.fields #[.none,.bool false,.ref s.heap.objs.size,rawInt 0,.none,.none] }) rfl;rw[hz] at a;exact⟨⟨_,a,rfl⟩,h _ a ⟨_,Yd _ (Yg _ rfl),rfl,rfl⟩ λb o x=>Yd _ (Yd _ x)⟩
end
section
variable {X:Cx}{pins:Zc}{σ:L2.St}{H:Hp}{s:Shared}{h':Heap}
theorem GF{fs ch:Zh}{h:Heap}(k:∀b o,b∉ch->h.get? b=some o->h'.get? b=some o):Un fs ch H H h h' where
 keep:=λb o e _ _ hc=>k b o hc e
 slot:=λb o e _ _ hc=>⟨o.slots,k b o hc e⟩
 free:=λ_ _ _ n _=>n
 there:=λb o e hc=>⟨o,k b o hc e⟩
 tups:=λ_ _ e=>e
 frzs:=λ_ _ _ e=>e
 tbls:=λb ps e=>⟨#[],by rw[e];simp⟩
theorem FQ{P:Zw}{w:World}{ch:Zh}{h:Heap}(ok:HOk P w H h)(k:∀b o,b∉ch->h.get? b=some o->h'.get? b=some o)(hn:∀b∈ch,H b=none):HOk P w H h':=λb u e=>by
 have a:∀c v,H c=some v->c∉ch:=λc v d z=>by rw[hn c z] at d;cases d
 refine(ok b u e).stay (λc v hc q=>k c v ?_ q) (λ_ q=>q) λ_ _ q=>q
 rcases hc with z | z
 ·rw[z];exact a b u e
 ·exact a c _ z
theorem Inv.turnedT{ch:Zh}{T:Addr}{xs:List V}{c_:Zd}{tk:Nat}(I:Inv X pins σ H s)(k:∀b o,b∉ch->s.heap.get? b=some o->h'.get? b=some o)(hn:∀b∈ch,H b=none)
  (d:∀b∈ch,(b∈X.ex\/X.s₀.heap.objs.size<=b)/\b≠X.env.locals/\(∀x c,X.env.cells.lookup x=some c->c≠b)/\∀p∈X.pn++pins,p.1≠b) (a:s.heap.objs.size<=T) (r:Vals xs c_) (hz:xs.length<=sizeLine) (ht:IsTup h' T c_.toArray):
  Inv X pins σ (upd H T (.tup xs)) { s with heap:=h',toks:=tk }:=by
 have hf:H T=none:=I.hok.fresh a;have f:=FQ I.hok k hn;refine I.call (g':=s.gens) (d':=s.drawn) (t':=tk) (Un.track (GF k) a hf) (λb u e=>?_) I.bare d;by_cases hb:b=T
 ·subst hb
  rw[aw] at e;cases e;exact⟨hz,c_,r,ht⟩
 ·rw[aB hb] at e
  refine(f b u e).stay (λc v _ q=>q) (λc q=>?_) λc ys q=>?_
  ·rw[aB (aT q hf)];exact q
  ·rw[aB (aT q hf)];exact q
end
def Ite(K:Za)(a:Addr):It:=
 ⟨λi H=>∃xs x,SqL K H a xs/\xs[i]?=some x,λi H x H'=>∃v p,(∀xs,SqL K H a xs->xs[i]?=some v)/\H p=none/\H'=upd H p (.tup [.int (i:Int),v])/\x=.ref p,λi H=>∃xs,SqL K H a xs/\xs.length<=i⟩
theorem z8{P:Zw}{w:World}{K:Za}{j:Zg}{kk:Nat}{tp:Pos}(a e it:Addr)(r:e≠it):Turn P w K (.Tuple j kk tp) (Ite K a) [e,it] e (λi h=>(∃f,IsEnum h e it i f)/\h.IsListIter it a i) where
 mem:=by simp
 obj:=λi h st b hb=>by
  obtain⟨⟨f,g⟩,⟨o,A,c,d⟩⟩:=st;have m:b=e\/b=it:=by simpa using hb
  rcases m with rfl | rfl
  ·exact⟨_,g,λv z=>by cases z⟩
  ·exact⟨o,A,λv z=>by rw[d] at z;cases z⟩
 keep:=λi h h' st k=>by
  obtain⟨⟨f,g⟩,G0⟩:=st;exact⟨⟨f,k e (by simp) _ g⟩,G0.at λo x=>k it (by simp) o x⟩
 item:=by
  rw[0];obtain⟨xs,x,hq,hx⟩:=hg;obtain⟨c_,n,p,hz⟩:=I.list hq;obtain⟨u,hu,B⟩:=n.get hx;obtain⟨⟨f,g⟩,G0⟩:=st;have l:=hf e (by simp);have fi:=hf it (by simp);refine wpAny_pyNext_enum_item g G0 p.isList (x:=u) (by simpa using hu) r λh' ho C G hsz hk=>⟨_,rfl,?_⟩
  have J:H s.heap.objs.size=none:=I.hok.fresh (YH _);have L:Inv X pins σ (upd H s.heap.objs.size (.tup [.int (i:Int),x])) { s with heap:=h',toks:=s.toks+1 }:=Inv.turnedT (ch:=[e,it]) (c_:=[.int (i:Int) s.toks,u]) I
   (λb o hb q=>hk b o (λz=>hb (by simp[z])) (λz=>hb (by simp[z])) q)
   (λb hb=>(hf b hb).1) (λb hb=>⟨(hf b hb).2.2.2.1,(hf b hb).2.1,(hf b hb).2.2.2.2.1,(hf b hb).2.2.2.2.2⟩) (YH _) (.cons ⟨_,rfl⟩ (.cons B .nil)) (by show 2<=sizeLine;decide) ⟨_,G,rfl,_,rfl⟩
  have neT:∀b∈[e,it],b≠s.heap.objs.size:=λb hb z=>by
   have m:b=e\/b=it:=by simpa using hb
   rcases m with rfl | rfl
   ·exact absurd (Ye g) (by rw[z];exact ZV _)
   ·obtain⟨_,O,_⟩:=G0;exact absurd (Ye O) (by rw[z];exact ZV _)
  refine wpAny_letOwnedTupleGo_enum (s:={ s with heap:=h',toks:=s.toks+1 }) ho λR S y=>?_
  have T:=L2.Inv.turned (h':=R) (t':=s.toks+1) (it:=e) L (λb o hb q=>(y.2 b hb).trans q) (by rw[aB (neT e (by simp))];exact l.1) l.2.1 l.2.2.2.1 l.2.2.2.2.1 l.2.2.2.2.2;refine⟨.ref s.heap.objs.size,_,T,rfl,⟨x,s.heap.objs.size,λys hy=>by rw[I.list_inj hy hq];exact hx,J,rfl,rfl⟩,⟨⟨u,by simpa using S⟩,C.at λo q=>(y.2 it r.symm).trans q⟩,λb hb=>?_⟩;rw[aB (neT b hb)];exact(hf b hb).1
 done:=by
  rw[0];obtain⟨xs,hq,hx⟩:=hg;obtain⟨c_,n,p,hz⟩:=I.list hq;obtain⟨⟨f,g⟩,G0⟩:=st;obtain⟨U,V,f2,W,Y,Z⟩:=hf it (by simp);have hl:=n.length;exact wpAny_pyNext_enum_end (I.ok.hd hc) g G0 p.isList (by simp;omega) λh' eb=>⟨rfl,I.turned (t':=s.toks) (λb o hb q=>eb b o hb q) U V W Y Z⟩
 self:=λ_ _ _ _ _ st h=>by
  obtain⟨⟨f,g⟩,_⟩:=st;exact wpAny_pyIter_enum g h
def IteT(K:Za)(a:Addr):It:=
 ⟨λi H=>∃xs x,SqT K H a xs/\xs[i]?=some x,λi H x H'=>∃v p,(∀xs,SqT K H a xs->xs[i]?=some v)/\H p=none/\H'=upd H p (.tup [.int (i:Int),v])/\x=.ref p,λi H=>∃xs,SqT K H a xs/\xs.length=i⟩
theorem yt{P:Zw}{w:World}{K:Za}{m:Zg}{kk:Nat}{tp:Pos}(a e it:Addr)(r:e≠it):Turn P w K (.Tuple m kk tp) (IteT K a) [e,it] e (λi h=>(∃f,IsEnum h e it i f)/\h.IsTupleIter it a i) where
 mem:=by simp
 obj:=λi h st b hb=>by
  obtain⟨⟨f,g⟩,⟨o,S,c,d⟩⟩:=st;have A:b=e\/b=it:=by simpa using hb
  rcases A with rfl | rfl
  ·exact⟨_,g,λv z=>by cases z⟩
  ·exact⟨o,S,λv z=>by rw[d] at z;cases z⟩
 keep:=λi h h' st k=>by
  obtain⟨⟨f,g⟩,G0⟩:=st;exact⟨⟨f,k e (by simp) _ g⟩,G0.at λo x=>k it (by simp) o x⟩
 item:=by
  rw[0];obtain⟨xs,x,hq,hx⟩:=hg;obtain⟨c_,B,p,hz⟩:=I.tuple hq;obtain⟨u,hu,T⟩:=B.get hx;obtain⟨⟨f,g⟩,G0⟩:=st;have p:s.heap.IsTuple a c_.toArray:=p;have n:=hf e (by simp);have fi:=hf it (by simp);have C:a≠it:=λz=>by
   obtain⟨L,j,l,_⟩:=p;obtain⟨U,G,J,_⟩:=G0;rw[z,G] at j;cases j;rw[J] at l;exact absurd l 'b'
  have V:e≠a:=λz=>by
   obtain⟨L,j,l,_⟩:=p;rw[←z,g] at j;cases j;exact absurd (show Value.type "enumerate" = Value.type "tuple" from l) 'b'
  have hi:i<c_.toArray.size:=by have:=(YE.1 hu).1;simpa using this
  refine wpAny_pyNext_enum_itemD (oU (by simp[I.ok.hd hc]) it a C c_.toArray) g ⟨G0,p⟩ hi r (by simp;exact⟨r,V⟩) λy h' tk hy ho f_ W hsz hk=>⟨_,rfl,?_⟩
  have Y:y=u:=by
   have O:c_[i]?=some y:=by simpa using hy
   rw[hu] at O;cases O;rfl
  subst Y;have Z:H s.heap.objs.size=none:=I.hok.fresh (YH _);have I1:Inv X pins σ (upd H s.heap.objs.size (.tup [.int (i:Int),x])) { s with heap:=h',toks:=tk+1 }:=Inv.turnedT (ch:=[e,it]) (c_:=[.int (i:Int) tk,y]) I
   (λb o hb q=>hk b o (λz=>hb (by simp[z])) (λz=>hb (by simp[z])) q)
   (λb hb=>(hf b hb).1) (λb hb=>⟨(hf b hb).2.2.2.1,(hf b hb).2.1,(hf b hb).2.2.2.2.1,(hf b hb).2.2.2.2.2⟩) (YH _) (.cons ⟨_,rfl⟩ (.cons T .nil)) (by show 2<=sizeLine;decide) ⟨_,W,rfl,_,rfl⟩
  have neT:∀b∈[e,it],b≠s.heap.objs.size:=λb hb z=>by
   have A:b=e\/b=it:=by simpa using hb
   rcases A with rfl | rfl
   ·exact absurd (Ye g) (by rw[z];exact ZV _)
   ·obtain⟨_,x1,_⟩:=G0;exact absurd (Ye x1) (by rw[z];exact ZV _)
  refine wpAny_letOwnedTupleGo_enum (s:={ s with heap:=h',toks:=tk+1 }) ho λOh Kq R=>?_
  have I2:=L2.Inv.turned (h':=Oh) (t':=tk+1) (it:=e) I1 (λb o hb q=>(R.2 b hb).trans q) (by rw[aB (neT e (by simp))];exact n.1) n.2.1 n.2.2.2.1 n.2.2.2.2.1 n.2.2.2.2.2;refine⟨.ref s.heap.objs.size,_,I2,rfl,⟨x,s.heap.objs.size,λys hy=>by rw[I.tuple_inj hy hq];exact hx,Z,rfl,rfl⟩,⟨⟨y,by simpa using Kq⟩,f_.1.at λo q=>(R.2 it r.symm).trans q⟩,λb hb=>?_⟩;rw[aB (neT b hb)];exact(hf b hb).1
 done:=by
  rw[0];obtain⟨xs,hq,hx⟩:=hg;obtain⟨c_,B,p,hz⟩:=I.tuple hq;have p:s.heap.IsTuple a c_.toArray:=p;obtain⟨⟨f,g⟩,G0⟩:=st;obtain⟨f0,f1,f2,f3,f4,f5⟩:=hf it (by simp);have C:a≠it:=λz=>by
   obtain⟨L,j,l,_⟩:=p;obtain⟨U,G,J,_⟩:=G0;rw[z,G] at j;cases j;rw[J] at l;exact absurd l 'b'
  have hn:i=c_.toArray.size:=by rw[←hx,B.length];simp
  subst hn;exact wpAny_pyNext_enum_endD (oU (by simp[I.ok.hd hc]) it a C c_.toArray) g ⟨G0,p⟩ λh' eb=>⟨rfl,I.turned (t':=s.toks) (λb o hb q=>eb b o hb q) f0 f1 f3 f4 f5⟩
 self:=λ_ _ _ _ _ st h=>by
  obtain⟨⟨f,g⟩,_⟩:=st;exact wpAny_pyIter_enum g h
def bp:Int->List D->List D
 |_,[]=>[]
 |n,d::r=>.tup [.int n,d]::bp (n+1) r
theorem fw:∀(n:Int) (ds:List D),(bp n ds).length=ds.length
 |_,[]=>rfl
 |n,d::r=>by rw[bp,YK,YK,fw]
theorem nv:∀{n:Int}{ds:List D}{i:Nat}{x:D},(bp n ds)[i]?=some x->∃d,ds[i]?=some d/\x=.tup [.int (n+i),d]
 |_,[],_,_,h=>by cases h
 |n,d::r,0,x,h=>by
  rw[bp] at h;simp at h;exact⟨d,rfl,by rw[←h];simp⟩
 |n,d::r,i+1,x,h=>by
  rw[bp] at h;obtain⟨d',a,h2⟩:=nv (n:=n+1) (ds:=r) (i:=i) (x:=x) (by simpa using h);refine⟨d',by simpa using a,?_⟩;rw[h2];congr 2;congr 1;omega
theorem ve{K:Za}{a:Addr}{ds:List D}{f:Hp}{g:MH->Prop}(hg:∀H M,RM K M H->g M->∃vs,SqL K H a vs/\RVs K H ds vs):JOk K (Ite K a) f (bp 0 ds) g:=by
 intro i H M _ c q;obtain⟨vs,sq,b⟩:=hg H M c q;rw[fw];refine⟨λhi=>?_,λhi=>⟨vs,sq,by rw[←b.len];exact Nat.le_of_eq hi.symm⟩,λx H' d hd ⟨v,p,hv,hp,e,y⟩=>?_⟩
 ·have:i<vs.length:=by rw[←b.len];exact hi
  exact⟨vs,vs[i],sq,ZE this⟩
 ·subst e y
  obtain⟨d',j,rfl⟩:=nv hd;obtain⟨l,h2,r⟩:=cy b.p j
  have:=hv vs sq
  rw[h2] at this;cases this;have k:=Kp.new (o:=.tup [.int (i:Int),v]) hp;refine⟨k,c.newH hp,RV.tup_.2 ⟨p,_,rfl,SqT.of aw,.cons (RV.int_.2 (by rw[Int.zero_add])) (.cons (RV.mono k _ r) .nil)⟩⟩
theorem z9{K:Za}{a:Addr}{ds:List D}{vs:List V}{c:Hp}(sq:SqT K c a vs)(b:RVs K c ds vs):JOk K (IteT K a) c (bp 0 ds) (λ_=>True):=by
 intro i H M k f _;have sq:=k.sq sq;have b:=RVs.mono k _ b;rw[fw];refine⟨λhi=>?_,λhi=>⟨vs,sq,by rw[←b.len];exact hi.symm⟩,λx H' d hd ⟨v,p,hv,hp,e,y⟩=>?_⟩
 ·have:i<vs.length:=by rw[←b.len];exact hi
  exact⟨vs,vs[i],sq,ZE this⟩
 ·subst e y
  obtain⟨d',g,rfl⟩:=nv hd;obtain⟨j,h2,r⟩:=cy b.p g
  have:=hv vs sq
  rw[h2] at this;cases this;have k:=Kp.new (o:=.tup [.int (i:Int),v]) hp;refine⟨k,f.newH hp,RV.tup_.2 ⟨p,_,rfl,SqT.of aw,.cons (RV.int_.2 (by rw[Int.zero_add])) (.cons (RV.mono k _ r) .nil)⟩⟩
def uk(t:WA):WI:=λσ M R=>t σ M λds M1=>match ds with
 |[.tup xs]=>R (bp 0 xs) (λ_=>True) M1
 |[.ref a]=>match M1 a with
  |some (.lst xs)=>R (bp 0 xs) (λM'=>M' a=some (.lst xs)) M1
  |some (.rol xs)=>R (bp 0 xs) (λM'=>M' a=some (.rol xs)) M1
  |_=>False
 |_=>False
section
variable {X:Cx}{H:Hp}{pos:Pos}
theorem xB{pins:Zc}{ρ:L2.St}{s:Shared}{c:Zg}{kk:Nat}{tp:Pos}{a:Addr}{xs:List V}{R:It->Hp->Prop}(I:Inv X pins ρ H s)(hq:SqL X.K H a xs)(q:R (Ite X.K a) H):
  wpAny 'c' X.A (call (.type "enumerate") [.ref a]) (λv s1=>wpAny 'c' X.A (pyIter v) (PIE X pins ρ (.Tuple c kk tp) R) X.xe s1) X.xe s:=by
 obtain⟨c_,k,p,hz⟩:=I.list hq;refine call_enumerate_list p.isList λh' d f hsz hk=>?_
 refine wpAny_pyIter_enum d ?_;have g:Inv X pins ρ H { s with heap:=h' }:=I.kept (t':=s.toks) hk;refine⟨s.heap.objs.size+1,[s.heap.objs.size+1,s.heap.objs.size],_,_,H,rfl,g,z8 a _ _ (Nat.succ_ne_self _),⟨⟨.none,d⟩,f⟩,λb hb=>?_,q⟩;have j:b=s.heap.objs.size+1\/b=s.heap.objs.size:=by simpa using hb
 rcases j with rfl | rfl
 ·exact I.fpOk (YQ _) (I.hok.fresh (YQ _))
 ·exact I.fpOk (YH _) (I.hok.fresh (YH _))
theorem BD{pins:Zc}{ρ:L2.St}{s:Shared}{c:Zg}{kk:Nat}{tp:Pos}{a:Addr}{xs:List V}{R:It->Hp->Prop}(I:Inv X pins ρ H s)(hq:SqT X.K H a xs)(q:R (IteT X.K a) H):
  wpAny 'c' X.A (call (.type "enumerate") [.ref a]) (λv s1=>wpAny 'c' X.A (pyIter v) (PIE X pins ρ (.Tuple c kk tp) R) X.xe s1) X.xe s:=by
 obtain⟨c_,k,p,hz⟩:=I.tuple hq;refine yr (show s.heap.IsTuple a c_.toArray from p) λh' d f hk=>?_
 refine wpAny_pyIter_enum d ?_;have g:Inv X pins ρ H { s with heap:=h' }:=I.kept (t':=s.toks) hk;refine⟨s.heap.objs.size+1,[s.heap.objs.size+1,s.heap.objs.size],_,_,H,rfl,g,yt a _ _ (Nat.succ_ne_self _),⟨⟨.none,d⟩,f⟩,λb hb=>?_,q⟩;have j:b=s.heap.objs.size+1\/b=s.heap.objs.size:=by simpa using hb
 rcases j with rfl | rfl
 ·exact I.fpOk (YQ _) (I.hok.fresh (YQ _))
 ·exact I.fpOk (YH _) (I.hok.fresh (YH _))
theorem BE{l:Expr}{t:WA}{p:Pos}{g:Zg}{kk:Nat}{tp:Pos}(hg:Gl X "enumerate")(hm:X.mg "enumerate" = none)(h:PAd X [l] t)(C:ao l=true):PId X (.Tuple g kk tp) (.Call (.Name "enumerate" p) [l] [] pos) (uk t):=by
 intro σ M ρ H R rs G q pins s I;refine Call_ (bY I hg hm (by rfl':bootBuiltins "enumerate" = some (.type "enumerate")) (PyProof.Rows.callWith_type1 (thn (h σ M ρ H _ rs G q pos pins s I) λus s1 J=>?_) (aM C) rfl));obtain⟨vs,L,d,B,⟨n,ds,M1,m,P,j,b⟩⟩:=J;try dsimp only at b
 split at b
 ·rename_i S
  rw[RVs] at m;obtain⟨v,O,rfl,o,k⟩:=m;rw[RVs] at k;subst k;obtain⟨a,xs,rfl,sq,f⟩:=RV.tup_.1 o;obtain⟨u,rfl,r⟩:=B.one;cases r;obtain⟨_,_,_,hz⟩:=d.tuple sq;exact BD d sq ⟨n,_,_,M1,j,trivial,z9 sq f,by rw[fw,f.len];exact hz,b⟩
 ·rename_i a
  rw[RVs] at m;obtain⟨v,O,rfl,o,k⟩:=m;rw[RVs] at k;subst k;cases RV.ref_.1 o;obtain⟨u,rfl,r⟩:=B.one;cases r;split at b
  ·rename_i xs e
   obtain⟨ys,c,f⟩:=j a _ e;obtain⟨_,_,_,hz⟩:=d.list (SqL.of c);refine xB d (SqL.of c) ⟨n,_,_,M1,j,e,ve λH' M' y g'=>?_,by rw[fw,f.len];exact hz,b⟩;obtain⟨z,e',A⟩:=y a _ g';exact⟨z,SqL.of e',A⟩
  ·rename_i xs e
   obtain⟨ys,c,f⟩:=j a _ e;have c:SqL X.K L a ys:=.inl c;obtain⟨_,_,_,hz⟩:=d.list c;refine xB d c ⟨n,_,_,M1,j,e,ve λH' M' y g'=>?_,by rw[fw,f.len];exact hz,b⟩;obtain⟨z,e',A⟩:=y a _ g';exact⟨z,.inl e',A⟩
  ·exact Yh b
 ·exact Yh b
end
end DD
namespace DD
open PySem PySem.Spec PyProof.Rows L2
set_option genInjectivity false
set_option genSizeOf false
set_option genCtorIdx false
mutual
inductive E where
 |var (i:Nat) | int (i:Int) | str (x:Str) | bl (b:Bool) | non | glob (j:Nat) | ty (T:String)
 |bin (o:Operator) (a b:E) | cmp (o:CmpOp) (a b:E)
 |and (a b:E) | or (a b:E) | not (a:E) | ite (c:T) (a b:E)
 |fn (j:Nat) (es:Es) | bi (b:Bi) (es:Es) | mt (m:Mt) (o:E) (es:Es) | mt0 (m:Mt) (o:E)
 |ix (a b:E) | sl (a:E) (lo hi:Eo) | lst (es:Es) | tup (es:Es) | comp (n:Nat) (e:E) (t:Tgt) (i:I) (c:To)
 |dnew | fld (o:E) (f:Str) | mu (m:Str) (o:E) (es:Es) | mu0 (m:Str) (o:E) | lenSet (a:E) | lrg (es:Es) | lrev (es:Es) | inv (a:E) | bk (b:Bk) (es:Es)
inductive Ps where
 |nil | cons (k v:E) (r:Ps)
inductive Es where
 |nil | cons (e:E) (es:Es)
inductive Eo where
 |no | yes (e:E)
inductive To where
 |no | yes (t:T)
inductive T where
 |val (e:E) | cmp (o:CmpOp) (a b:E) | and (t u:T) | or (t u:T) | not (t:T)
inductive I where
 |seq (e:E) | rg1 (es:Es) | rg2 (es:Es) | enum (es:Es)
end
mutual
inductive S where
 |set (i:Nat) (e:E) | setC (i n:Nat) (e:E) (t:Tgt) (it:I) (c:To) | asg (g:Tgt) (e:E) | expr (e:E) | ret (e:E)
 |ite (t:T) (a b:Ss) | for (g:Tgt) (it:I) (b:Ss) | pass | never
 |putIx (o i e:E) | setF (o:E) (f:Str) (e:E) | while (t:T) (b:Ss)
inductive Ss where
 |nil | cons (s:S) (r:Ss)
end
set_option genInjectivity true
set_option genSizeOf true
set_option genCtorIdx true
structure Cn where
 F:List SpD
 G:List D
 O:OK0
 T:MT0
 I:IS0:=λ_ _=>none
def vf(c:WT)(f:WS):WS:=λE σ M=>∃W:Nat->DS->MH->Prop,(∃m,W m σ M)/\∀m σ M,W m σ M ->
 c σ M λb M1=>Bif b (∃N:DS->MH->Prop,(∀a M',N a M'->∃d,d<m/\W d a M')/\f { E with nx:=N,ct:=N,bk:=E.nx } σ M1) (E.nx σ M1)
section
variable (c:Cn)
mutual
noncomputable def wE:E->WE
 |.var i=>λσ M Q=>getS σ i λd=>Q d M
 |.int i=>λ_ M Q=>Q (.int i) M
 |.str i=>λ_ M Q=>Q (.str i) M
 |.bl i=>λ_ M Q=>Q (.bl i) M
 |.non=>λ_ M Q=>Q .non M
 |.glob j=>λ_ M Q=>Q (c.G.getD j .non) M
 |.ty n=>λ_ M Q=>Q (.ty n) M
 |.bin o a b=>wOp (dBin o) (wE a) (wE b)
 |.cmp o a b=>wOp (dCmp o) (wE a) (wE b)
 |.and a b=>tZ (wE a) (wE b)
 |.or a b=>wOrV (wE a) (wE b)
 |.not a=>t3 (wE a)
 |.ite t a b=>wIf (wT t) (wE a) (wE b)
 |.fn j es=>fF (c.F.getD j λ_ _ _=>False) (wEs es)
 |.bi b es=>fF (dBi b) (wEs es)
 |.lenSet a=>lm (wE a)
 |.bk b es=>fF (dBk b) (wEs es)
 |.lrg es=>wLrg (wEs es)
 |.lrev es=>yq (wEs es)
 |.mt m o es=>wMt (mtRc m) (dMt m) (wE o) (wEs es)
 |.mt0 m o=>wMt (mtRc m) (dMt m) (wE o) wNil
 |.ix a b=>wOp dIx (wE a) (wE b)
 |.sl a lo hi=>wSl (wE a) (wEo lo) (wEo hi)
 |.lst es=>wLst (wEs es)
 |.tup es=>wTup (wEs es)
 |.comp n e t i d=>uc n (wI i) t (wTo d) (wE e)
 |.inv a=>wInv (wE a)
 |.dnew=>λ_ M Q=>∀p,M p=none->Q (.ref p) (updM M p (.dic []))
 |.fld o f=>wFld c.O f (wE o)
 |.mu m o es=>oj c.T m (wE o) (wEs es)
 |.mu0 m o=>oj c.T m (wE o) wNil
noncomputable def wP:Ps->List (WE×WE)
 |.nil=>[]
 |.cons k v r=>(wE k,wE v)::wP r
noncomputable def wEs:Es->WA
 |.nil=>wNil
 |.cons e es=>t4 (wE e) (wEs es)
noncomputable def wEo:Eo->WO
 |.no=>λ_ M Q=>Q none M
 |.yes e=>λσ M Q=>wE e σ M λx M1=>intD x λi=>Q (some i) M1
noncomputable def wTo:To->WT
 |.no=>λ_ M Q=>Q true M
 |.yes t=>wT t
noncomputable def wT:T->WT
 |.val e=>wTru (wE e)
 |.cmp o a b=>tY (wOp (dCmp o) (wE a) (wE b))
 |.and t u=>wAnd (wT t) (wT u)
 |.or t u=>wOr (wT t) (wT u)
 |.not t=>wNot (wT t)
noncomputable def wI:I->WI
 |.seq e=>t9 (wE e)
 |.rg1 es=>ua (wEs es)
 |.rg2 es=>ub (wEs es)
 |.enum es=>uk (wEs es)
end
mutual
noncomputable def wS:S->WS
 |.set i e=>wSet i (wE c e)
 |.setC i n e t it d=>ud i n (wI c it) t (wTo c d) (wE c e)
 |.asg g e=>wAsg (wE c e) g
 |.expr e=>t7 (wE c e)
 |.ret e=>wRet (wE c e)
 |.ite t a b=>wIfS (wT c t) (wSs a) (wSs b)
 |.for g it b=>wFor (wI c it) g (wSs b)
 |.pass=>nZ
 |.never=>λ_ _ _=>False
 |.putIx o i e=>qB (wE c e) (wE c o) (wE c i)
 |.setF o f e=>ui c.O f (wE c o) (wE c e)
 |.while t b=>vf (wT c t) (wSs b)
noncomputable def wSs:Ss->WS
 |.nil=>nZ
 |.cons s r=>wSeq (wS s) (wSs r)
end
end
structure Gam where
 N:List Str
 sc:Scope
 all:Bool
 glob:List Str
 blt:List Str
 fns:List Str
def yu:Option NameKind->Bool
 |some .local=>true
 |some .cell=>true
 |some .free=>true
 |_=>false
def yv:Option NameKind->Bool
 |some .local=>true
 |some .cell=>true
 |_=>false
def Aa(Γ:Gam)(i:Nat)(x:Str):Bool:=decide (Γ.N[i]?=some x)&&yu (Γ.sc.names.lookup x) && !(x==("__debug__" : Str)) && !(x==("__classdict__" : Str))
def nw(Γ:Gam)(i:Nat)(x:Str):Bool:=decide (Γ.N[i]?=some x)&&yv (Γ.sc.names.lookup x)&&(Γ.all||decide (Γ.sc.names.lookup x=some .local))
def bS(Γ:Gam)(x:Str):Bool:=decide (Γ.sc.names.lookup x=some .globalImplicit) && !(x==("__debug__" : Str))
def qM:List String:=["bool","int","str","tuple","list","dict"]
def ownOf(sc:Scope):List Str:=sc.names.filterMap λp=>if p.2=.local/\p.1≠(".0" : Str) then some p.1 else none
def n2Of(Γ:Gam)(sc:Scope):List Str:=Γ.N.map λy=>if sc.names.lookup y=some .local then "" else y
def lx(Γ:Gam)(sc:Scope):Bool:=decide (sc.kind=.function)&&sc.names.all (λy=>decide (y.2≠.cell))&&sc.names.all (λy=>decide (y.2=.local->sc.names.lookup y.1=some .local)) &&
 sc.names.all (λy=>decide (y.2=.free->(Γ.sc.names.lookup y.1=some .cell\/Γ.sc.names.lookup y.1=some .free)))&&((n2Of Γ sc).zip Γ.N).all (λp=>decide ((sc.names.lookup p.1=some .free->p.1=p.2)/\sc.names.lookup p.1≠some .local))&&decide ((n2Of Γ sc++ownOf sc).Nodup)
def relS(sc Hq:Scope):Scope:={ sc with names:=sc.names.map λ(p:Str×NameKind)=>if(p.2==NameKind.free&&Hq.kind==.function&&Hq.names.lookup p.1==some .cell)=true then(p.1,NameKind.cell) else(p.1,p.2) }
def inComp(Γ:Gam)(sc:Scope):Gam:={ Γ with N:=n2Of Γ sc++ownOf sc,sc:=relS sc Γ.sc,all:=false }
def qN(Γ:Gam):List Nat->List Expr->Bool
 |[],[]=>true
 |i::is,.Name x _::es=>nw Γ i x&&qN Γ is es
 |_,_=>false
def ou(Γ:Gam):Tgt->Expr->Bool
 |.nm i,.Name x _=>nw Γ i x
 |.tp is,.Tuple es _ _=>qN Γ is es
 |_,_=>false
def Ab:Expr->Bool
 |.UnaryOp .Not _ _=>false
 |.BoolOp _ _ _=>false
 |.IfExp _ _ _ _=>false
 |.Compare _ _ _ _=>false
 |_=>true
def je:Expr->Option (Str×List Expr×List Keyword)
 |.Call f es ks _=>match f with
  |.Name x _=>some (x,es,ks)
  |_=>none
 |_=>none
def ny(e:Expr):Option (Str×Str×List Expr):=match je e with
 |some (x,[c],[])=>match je c with
  |some (y,es,[])=>some (x,y,es)
  |_=>none
 |_=>none
def isTup:Expr->Bool
 |.Tuple _ _ _=>true
 |_=>false
theorem nos{b:Type}{a:b}{P:Prop}(h:none=some a):P:=by cases h
theorem ff{P:Prop}(h:false=true):P:=by cases h
theorem c0{e:Expr}{x:Str}{es:Zg}{ks:List Keyword}(h:je e=some (x,es,ks)):∃p q,e=.Call (.Name x p) es ks q:=by
 cases e with
 |Call f es ks q=>
  cases f with
  |Name x p=>cases h;exact⟨p,q,rfl⟩
  |_=>exact nos h
 |_=>exact nos h
theorem j7{e:Expr}{x y:Str}{es:Zg}(h:ny e=some (x,y,es)):∃p q a b,e=.Call (.Name x p) [.Call (.Name y a) es [] b] [] q:=by
 unfold ny at h;split at h
 ·rename_i c
  split at h
  ·rename_i h2
   cases h;obtain⟨p,q,rfl⟩:=c0 c;obtain⟨a,b,rfl⟩:=c0 h2;exact⟨p,q,a,b,rfl⟩
  ·cases h
 ·cases h
theorem BF{e:Expr}(h:isTup e=true):∃es k p,e=.Tuple es k p:=by
 cases e with
 |Tuple es k p=>exact⟨es,k,p,rfl⟩
 |_=>exact ff h
mutual
noncomputable def chkE:Gam->E->Expr->Bool
 |Γ,.var i,e=>match e with
  |.Name x _=>Aa Γ i x
  |_=>false
 |_,.int i,e=>match e with
  |.Constant (.int j) _ _=>decide (i=j)
  |_=>false
 |_,.str i,e=>match e with
  |.Constant (.str j) _ _=>decide (i=j)
  |_=>false
 |_,.bl i,e=>match e with
  |.Constant (.bool j) _ _=>decide (i=j)
  |_=>false
 |_,.non,e=>match e with
  |.Constant .none _ _=>true
  |_=>false
 |Γ,.glob j,e=>match e with
  |.Name x _=>bS Γ x&&decide (Γ.glob[j]?=some x)
  |_=>false
 |Γ,.ty n,e=>match e with
  |.Name x _=>bS Γ x&&Γ.blt.contains x&&decide (x=Str.ofString n)&&qM.contains n
  |_=>false
 |Γ,.bin o a b,e=>match e with
  |.BinOp l op r _=>decide (o=op)&&chkE Γ a l&&chkE Γ b r
  |_=>false
 |Γ,.cmp o a b,e=>match e with
  |.Compare l [op] [r] _=>decide (o=op)&&chkE Γ a l&&chkE Γ b r && !(behindInMarks op r)
  |_=>false
 |Γ,.and a b,e=>match e with
  |.BoolOp .And [l,r] _=>chkE Γ a l&&chkE Γ b r
  |.BoolOp .And (l::r::q::rest) pos=>chkE Γ a l&&chkE Γ b (.BoolOp .And (r::q::rest) pos)
  |_=>false
 |Γ,.or a b,e=>match e with
  |.BoolOp .Or [l,r] _=>chkE Γ a l&&chkE Γ b r
  |.BoolOp .Or (l::r::q::rest) pos=>chkE Γ a l&&chkE Γ b (.BoolOp .Or (r::q::rest) pos)
  |_=>false
 |Γ,.not a,e=>match e with
  |.UnaryOp .Not l _=>chkE Γ a l
  |_=>false
 |Γ,.ite c a b,e=>match e with
  |.IfExp t l r _=>chkT Γ c t&&chkE Γ a l&&chkE Γ b r
  |_=>false
 |Γ,.fn j es,e=>match je e with
  |some (x,a::as,[])=>bS Γ x&&decide (Γ.fns[j]?=some x)&&ao a&&as.all ao&&bZ Γ es (a::as)
  |_=>false
 |Γ,.bi b es,e=>match je e with
  |some (x,a::as,[])=>bS Γ x&&Γ.blt.contains x&&decide (x=qz b)&&ao a&&as.all ao&&bZ Γ es (a::as)
  |_=>false
 |Γ,.bk b es,e=>match je e with
  |some (x,a::as,[])=>bS Γ x&&Γ.blt.contains x&&decide (x=qL b)&&ao a&&as.all ao&&bZ Γ es (a::as)
  |_=>false
 |Γ,.lenSet a,e=>match ny e with
  |some (x,y,[l])=>bS Γ x&&Γ.blt.contains x&&decide (x=("len" : Str))&&bS Γ y&&Γ.blt.contains y&&decide (y=("set" : Str))&&ao l&&chkE Γ a l
  |_=>false
 |Γ,.lrev es,e=>match ny e with
  |some (x,y,[l])=>bS Γ x&&Γ.blt.contains x&&decide (x=("list" : Str))&&bS Γ y&&Γ.blt.contains y&&decide (y=("reversed" : Str))&&ao l&&bZ Γ es [l]
  |_=>false
 |Γ,.lrg es,e=>match ny e with
  |some (x,y,[l])=>bS Γ x&&Γ.blt.contains x&&decide (x=("list" : Str))&&bS Γ y&&Γ.blt.contains y&&decide (y=("range" : Str))&&ao l&&bZ Γ es [l]
  |some (x,y,[l,r])=>bS Γ x&&Γ.blt.contains x&&decide (x=("list" : Str))&&bS Γ y&&Γ.blt.contains y&&decide (y=("range" : Str))&&ao l&&ao r&&bZ Γ es [l,r]
  |_=>false
 |Γ,.mt m o es,e=>match e with
  |.Call (.Attribute l x s_) (a::as) [] pos=>decide (x=qA m)&&chkE Γ o l&&bn l&&ao a&&as.all ao&&decide (as.length<20)&&(s_.endLine==pos.line)&&bZ Γ es (a::as)
  |_=>false
 |Γ,.mt0 m o,e=>match e with
  |.Call (.Attribute l x s_) [] [] pos=>decide (x=qA m)&&chkE Γ o l&&bn l&&(s_.endLine==pos.line)
  |_=>false
 |Γ,.ix a b,e=>match e with
  |.Subscript l r _=>chkE Γ a l&&chkE Γ b r&&jG r
  |_=>false
 |Γ,.sl a lo hi,e=>match e with
  |.Subscript l (.Slice x y none _) _=>chkE Γ a l&&qO Γ lo x&&qO Γ hi y
  |_=>false
 |Γ,.lst es,e=>match e with
  |.List as _=>bZ Γ es as&&decide (as.length<=1000)
  |_=>false
 |Γ,.tup es,e=>match e with
  |.Tuple as _ _=>bZ Γ es as&&decide (as.length<=1000)
  |_=>false
 |Γ,.comp n e t i c,ex=>match ex with
  |.ListComp GS [⟨tg,it,ifs,ia⟩] sc _=>lx Γ sc&&decide (n=(ownOf sc).length)&&decide (ia=0)&&chkI Γ i tg it&&jE it&&ou (inComp Γ sc) t tg&&qP (inComp Γ sc) c ifs&&chkE (inComp Γ sc) e GS
  |_=>false
 |Γ,.inv a,e=>match e with
  |.UnaryOp .Invert l _=>chkE Γ a l
  |_=>false
 |_,.dnew,e=>match e with
  |.Dict [] [] _=>true
  |_=>false
 |Γ,.fld o f,e=>match e with
  |.Attribute l x _=>chkE Γ o l&&decide (x=f)&&bn l
  |_=>false
 |Γ,.mu m o es,e=>match e with
  |.Call (.Attribute l x s_) (a::as) [] pos=>decide (x=m)&&chkE Γ o l&&bn l&&ao a&&as.all ao&&decide (as.length<19)&&(s_.endLine==pos.line)&&bZ Γ es (a::as)
  |_=>false
 |Γ,.mu0 m o,e=>match e with
  |.Call (.Attribute l x s_) [] [] pos=>decide (x=m)&&chkE Γ o l&&bn l&&(s_.endLine==pos.line)
  |_=>false
noncomputable def chkP:Gam->Ps->List (Option Expr)->List Expr->Bool
 |_,.nil,ks,vs=>match ks,vs with
  |[],[]=>true
  |_,_=>false
 |Γ,.cons k v r,ks,vs=>match ks,vs with
  |some x::ks,y::vs=>chkE Γ k x&&chkE Γ v y&&chkP Γ r ks vs
  |_,_=>false
noncomputable def bZ:Gam->Es->List Expr->Bool
 |_,.nil,as=>match as with
  |[]=>true
  |_=>false
 |Γ,.cons e es,as=>match as with
  |a::as=>chkE Γ e a&&ao a&&bZ Γ es as
  |_=>false
noncomputable def qO:Gam->Eo->Option Expr->Bool
 |_,.no,a=>match a with
  |none=>true
  |_=>false
 |Γ,.yes e,a=>match a with
  |some a=>chkE Γ e a
  |_=>false
noncomputable def qP:Gam->To->List Expr->Bool
 |_,.no,as=>match as with
  |[]=>true
  |_=>false
 |Γ,.yes t,as=>match as with
  |[a]=>chkT Γ t a
  |_=>false
noncomputable def chkT:Gam->T->Expr->Bool
 |Γ,.val e,ex=>chkE Γ e ex&&Ab ex
 |Γ,.cmp o a b,e=>match e with
  |.Compare l [op] [r] _=>decide (o=op)&&chkE Γ a l&&chkE Γ b r && !(behindInMarks op r)
  |_=>false
 |Γ,.and a b,e=>match e with
  |.BoolOp .And [l,r] _=>chkT Γ a l&&chkT Γ b r
  |.BoolOp .And (l::r::q::rest) pos=>chkT Γ a l&&chkT Γ b (.BoolOp .And (r::q::rest) pos)
  |_=>false
 |Γ,.or a b,e=>match e with
  |.BoolOp .Or [l,r] _=>chkT Γ a l&&chkT Γ b r
  |.BoolOp .Or (l::r::q::rest) pos=>chkT Γ a l&&chkT Γ b (.BoolOp .Or (r::q::rest) pos)
  |_=>false
 |Γ,.not a,e=>match e with
  |.UnaryOp .Not l _=>chkT Γ a l
  |_=>false
noncomputable def chkI:Gam->I->Expr->Expr->Bool
 |Γ,.seq e,_,ex=>chkE Γ e ex
 |Γ,.enum es,tg,e=>match isTup tg,je e with
  |true,some (x,[a],[])=>bS Γ x&&Γ.blt.contains x&&decide (x=("enumerate" : Str))&&ao a&&bZ Γ es [a]
  |_,_=>false
 |Γ,.rg1 es,_,e=>match je e with
  |some (x,[a],[])=>bS Γ x&&Γ.blt.contains x&&decide (x=("range" : Str))&&ao a&&bZ Γ es [a]
  |_=>false
 |Γ,.rg2 es,_,e=>match je e with
  |some (x,[a,b],[])=>bS Γ x&&Γ.blt.contains x&&decide (x=("range" : Str))&&ao a&&ao b&&bZ Γ es [a,b]
  |_=>false
end
def xC:Expr->Bool
 |.Tuple _ _ _=>false
 |_=>true
mutual
noncomputable def chkS:Gam->S->Stmt->Bool
 |Γ,.set i e,st=>match st with
  |.Assign [.Name x _] v _=>nw Γ i x&&(cA v||decide (Γ.sc.names.lookup x=some .cell))&&chkE Γ e v
  |_=>false
 |Γ,.setC i n e t j c,st=>match st with
  |.Assign [.Name y py] (.ListComp GS [⟨tg,it,ifs,ia⟩] sc pos) Ik=>decide (Γ.N[i]?=some y)&&decide (Γ.sc.names.lookup y=some .local)&&(py.line==pos.line) && !(sc.names.any λ(p:Str×NameKind)=>p.1==y&&(p.2==.local || p.2==.cell)) &&
   lx Γ sc&&decide (n=(ownOf sc).length)&&decide (ia=0)&&chkI Γ j tg it&&jE it&&ou (inComp Γ sc) t tg&&qP (inComp Γ sc) c ifs&&chkE (inComp Γ sc) e GS
  |_=>false
 |Γ,.asg g e,st=>match st with
  |.Assign [.Tuple es k p] v _=>ou Γ g (.Tuple es k p)&&cA v&&xC v&&chkE Γ e v
  |_=>false
 |Γ,.expr e,st=>match st with
  |.Expr v _=>cA v&&chkE Γ e v
  |_=>false
 |Γ,.ret e,st=>match st with
  |.Return (some v) _=>chkE Γ e v
  |_=>false
 |Γ,.ite t a b,st=>match st with
  |.If c x y _=>chkT Γ t c&&bI Γ a x&&bI Γ b y
  |_=>false
 |Γ,.for g j b,st=>match st with
  |.For tg it body [] _=>ou Γ g tg&&chkI Γ j tg it&&jE it&&bI Γ b body
  |_=>false
 |_,.pass,st=>match st with
  |.Pass _=>true
  |_=>false
 |_,.never,_=>true
 |Γ,.putIx o i e,st=>match st with
  |.Assign [.Subscript l r _] v _=>chkE Γ o l&&chkE Γ i r&&chkE Γ e v&&cA v&&jG r
  |_=>false
 |Γ,.setF o f e,st=>match st with
  |.Assign [.Attribute l x _] v _=>chkE Γ o l&&decide (x=f)&&chkE Γ e v
  |_=>false
 |Γ,.while t b,st=>match st with
  |.While c body [] _=>chkT Γ t c&&bI Γ b body
  |_=>false
noncomputable def bI:Gam->Ss->List Stmt->Bool
 |_,.nil,l=>match l with
  |[]=>true
  |_=>false
 |Γ,.cons s r,l=>match l with
  |st::HG=>chkS Γ s st&&bI Γ r HG
  |_=>false
end
end DD
namespace DD
open PySem PySem.Spec PyProof.Rows L2
def cI(P:Zw)(w:World)(K:Za)(mg:Ze)(base:Heap)(k:Nat)(x:Str)(sp:SpD):Prop:=FnD P w K mg base k x sp \/ ∃k',k=k'+1/\MkD P w K mg base k' x sp
structure GOk (Γ:Gam) (c:Cn) (X:Cx):Prop where
 N:X.N=Γ.N
 sc:X.env.scope=Γ.sc
 kind:Γ.sc.kind=.function
 nd:Γ.N.Nodup
 calm:X.calm=true
 fn:Γ.all=true->∀x,X.fn x=true
 own:PassesOwn 'c' X.A X.env X.xe
 glob:∀(j:Nat) x,Γ.glob[j]?=some x->ng X.K X.mg x (c.G.getD j .non)
 blt:∀x,Γ.blt.contains x=true->X.mg x=none
 fns:∀(j:Nat) x,Γ.fns[j]?=some x->∃k,cI X.prog X.w X.K X.mg X.base k x (c.F.getD j λ_ _ _=>False)/\Room k X.A
 flds:∀C f,c.O C f->Cls X.K C/\cg X.K C f
 mts:ye X c.T
 isi:∀C d b,c.I C d=some b->IsiOk X.K C d b
 hu:X.A.units+40<cLine
section
variable {Γ:Gam}{X:Cx}{e:Expr}{pos:Pos}{cn:Cn}
theorem FR(sc:Scope)(env:Env):relabel sc env=relS sc env.scope:=rfl
theorem GOk.comp{sc:Scope}{C:Addr}{s:Shared}{H:Hp}{ex:Zh}{pn:Zc}(g:GOk Γ cn X)(h:lx Γ sc=true):GOk (inComp Γ sc) cn (cxC X sc (ownOf sc) (n2Of Γ sc) C s H ex pn):=by
 unfold lx at h;simp only[XA,XU] at h;obtain⟨⟨⟨⟨⟨a,h2⟩,c⟩,d⟩,f⟩,b⟩:=h;refine⟨rfl,?_,a,b,g.calm,(λz=>nomatch z),PassesOwn.never,g.glob,g.blt,g.fns,g.flds,g.mts,g.isi,g.hu⟩;show relabel sc X.env=relS sc Γ.sc;rw[FR,g.sc]
theorem GOk.cscope{sc:Scope}(g:GOk Γ cn X)(h:lx Γ sc=true):CompScope Γ.sc sc X.N (ownOf sc) (n2Of Γ sc):=by
 unfold lx at h;simp only[XA,XU] at h;obtain⟨⟨⟨⟨⟨d,h2⟩,a⟩,b⟩,c⟩,f⟩:=h;rw[XQ] at h2 a b c;refine⟨d,λy hy=>XS (h2 y hy),λy hy=>XS (a y hy),λy hy=>XS (b y hy),?_,λp hp=>?_⟩
 ·rw[g.N];unfold n2Of;rw[ZG]
 ·rw[g.N] at hp;exact XS (c p hp)
theorem BG{sc:Scope}{x:Str}(h:yu (sc.names.lookup x)=true):Vis sc x:=by
 unfold yu at h;unfold Vis;split at h
 ·exact .inl (by assumption)
 ·exact .inr (.inl (by assumption))
 ·exact .inr (.inr (by assumption))
 ·exact ff h
theorem BH{sc:Scope}{x:Str}(h:yv (sc.names.lookup x)=true):L2.Loc sc x:=by
 unfold yv at h;unfold L2.Loc;split at h
 ·exact .inl (by assumption)
 ·exact .inr (by assumption)
 ·exact ff h
theorem yw{i:Nat}{x:Str}(g:GOk Γ cn X)(h:nw Γ i x=true):X.N.Nodup/\X.N[i]?=some x/\L2.Loc X.env.scope x/\(X.fn x=true\/X.env.scope.names.lookup x=some .local):=by
 unfold nw at h;simp only[XA,Bool.or_eq_true,XU] at h;obtain⟨⟨a,h2⟩,b⟩:=h;rw[g.N,g.sc];exact⟨g.nd,a,BH h2,b.imp (λz=>g.fn z x) id⟩
theorem s_gl{x:Str}(g:GOk Γ cn X)(h:bS Γ x=true):Gl X x/\(x==("__debug__" : Str))=false:=by
 unfold bS at h;simp only[XA,XU,XX] at h;refine⟨?_,h.2⟩;show X.env.scope.names.lookup x=_;rw[g.sc];exact h.1
theorem Cy(g:GOk Γ cn X):∀{is:Zj}{es:Zg},qN Γ is es=true->PGs X es (gsOf is)/\(assignEach es X.env).length=is.length/\(assignEach es X.env).findIdx? (·.1)=none
 |[],[],_=>⟨CP,rfl,rfl⟩
 |i::is,.Name x p::es,h=>by
  unfold qN at h;rw[XA] at h;obtain⟨f,h2,j⟩:=Cy g h.2;obtain⟨a,b,c,d⟩:=yw g h.1;refine⟨AJ (wU a b c d) f rfl,?_,?_⟩
  ·show(assignEach es X.env).length+1=is.length+1;rw[h2]
  ·show List.findIdx? (·.1) ((false,assign (.Name x p) X.env)::assignEach es X.env)=none
   rw[List.findIdx?_cons];simp[j]
 |[],_::_,h=>ff h
 |_::_,[],h=>ff h
 |_::_,.BoolOp .. :: _,h=>ff h
 |_::_,.NamedExpr .. :: _,h=>ff h
 |_::_,.BinOp .. :: _,h=>ff h
 |_::_,.UnaryOp .. :: _,h=>ff h
 |_::_,.Lambda .. :: _,h=>ff h
 |_::_,.IfExp .. :: _,h=>ff h
 |_::_,.Dict .. :: _,h=>ff h
 |_::_,.Set .. :: _,h=>ff h
 |_::_,.ListComp .. :: _,h=>ff h
 |_::_,.SetComp .. :: _,h=>ff h
 |_::_,.DictComp .. :: _,h=>ff h
 |_::_,.GeneratorExp .. :: _,h=>ff h
 |_::_,.Await .. :: _,h=>ff h
 |_::_,.Yield .. :: _,h=>ff h
 |_::_,.YieldFrom .. :: _,h=>ff h
 |_::_,.Compare .. :: _,h=>ff h
 |_::_,.Call .. :: _,h=>ff h
 |_::_,.FormattedValue .. :: _,h=>ff h
 |_::_,.JoinedStr .. :: _,h=>ff h
 |_::_,.Constant .. :: _,h=>ff h
 |_::_,.Attribute .. :: _,h=>ff h
 |_::_,.Subscript .. :: _,h=>ff h
 |_::_,.Starred .. :: _,h=>ff h
 |_::_,.List .. :: _,h=>ff h
 |_::_,.Tuple .. :: _,h=>ff h
 |_::_,.Slice .. :: _,h=>ff h
theorem s_tg{t:Tgt}{tg:Expr}(g:GOk Γ cn X)(h:ou Γ t tg=true):PG X tg (gOf X.K t):=by
 unfold ou at h;split at h
 ·obtain⟨a,b,c,d⟩:=yw g h
  exact wU a b c d
 ·obtain⟨f,h2,j⟩:=Cy g h
  exact Fo g.calm f h2 j
 ·exact ff h
theorem Ac{env:Env}(h:Ab e=true):∀b,isTrue e env b=(do let v ←b;standAt e.pos;holding [v] (truthy v)):=by
 intro w;cases e with
 |UnaryOp op a p=>cases op<;>first | rfl | exact absurd (show false=true from h) YG
 |BoolOp _ _ _=>exact absurd (show false=true from h) YG
 |IfExp _ _ _ _=>exact absurd (show false=true from h) YG
 |Compare _ _ _ _=>exact absurd (show false=true from h) YG
 |_=>rfl
theorem D8:∀n∈qM,bootBuiltins (Str.ofString n)=some (.type n):=by rfl'
theorem D9:∀n∈qM,Str.ofString n≠("__name__" : Str):=by rfl'
theorem qQ{t:WT}(h:PTd X e t)(hp:(∃vs p,e=.BoolOp .And vs p) \/ ∃vs p,e=.BoolOp .Or vs p):PWd X e t:=by
 rcases hp with⟨vs,p,rfl⟩ | ⟨vs,p,rfl⟩
 ·intro σ M ρ H Q rs b q a pins s I
  exact h σ M ρ H Q rs b q pins s I
 ·intro σ M ρ H Q rs b q a pins s I
  exact h σ M ρ H Q rs b q pins s I
mutual
theorem sE:∀(ir:E){Γ:Gam}{cn:Cn}{X:Cx}{e:Expr},GOk Γ cn X->chkE Γ ir e=true->PEd X e (wE cn ir)
 |.var i,Γ,cn,X,e,g,h=>by
  rw[1]
  ·unfold Aa at h
   simp only[XA,XU,XX] at h;rw[wE];exact Dk (by rw[g.N];exact h.1.1.1) (by rw[g.sc];exact BG h.1.1.2) h.1.2 h.2
  ·exact ff h
 |.int i,Γ,cn,X,e,g,h=>by
  rw[1]
  ·cases XS h;rw[wE];exact Dl
  ·exact ff h
 |.str i,Γ,cn,X,e,g,h=>by
  rw[1]
  ·cases XS h;rw[wE];exact Dm
  ·exact ff h
 |.bl i,Γ,cn,X,e,g,h=>by
  rw[1]
  ·cases XS h;rw[wE];exact Fk
  ·exact ff h
 |.non,Γ,cn,X,e,g,h=>by
  rw[1]
  ·rw[wE];exact Do
  ·exact ff h
 |.glob j,Γ,cn,X,e,g,h=>by
  rw[1]
  ·rw[XA] at h
   obtain⟨h1,h2⟩:=s_gl g h.1;rw[wE];exact A3 h1 (g.glob j _ (XS h.2)) h2
  ·exact ff h
 |.ty n,Γ,cn,X,e,g,h=>by
  rw[1]
  ·simp only[XA,XU] at h
   obtain⟨⟨⟨h1,h2⟩,rfl⟩,h4⟩:=h;obtain⟨h5,h6⟩:=s_gl g h1;have h4:n∈qM:=by simpa using h4
   rw[wE];exact nU (CK (v:=.ty n) h5 (g.blt _ h2) (D8 n h4) rfl (D9 n h4) h6) λ_=>RV.ty_.2 rfl
  ·exact ff h
 |.bin o a b,Γ,cn,X,e,g,h=>by
  rw[1]
  ·simp only[XA,XU] at h
   obtain⟨⟨rfl,h2⟩,h3⟩:=h;rw[wE];exact Dp (DO o) (sE a g h2) (sE b g h3)
  ·exact ff h
 |.cmp o a b,Γ,cn,X,e,g,h=>by
  rw[1]
  ·simp only[XA,XU,XX] at h
   obtain⟨⟨⟨rfl,h2⟩,h3⟩,h4⟩:=h;rw[wE];exact Dq (xn g.hu o) (sE a g h2) (sE b g h3) h4
  ·exact ff h
 |.and a b,Γ,cn,X,e,g,h=>by
  rw[1]
  ·rw[XA] at h
   rw[wE];exact xg (sE a g h.1) (xf (sE b g h.2))
  ·rw[XA] at h
   rw[wE];exact xg (sE a g h.1) (sE b g h.2)
  ·exact ff h
 |.or a b,Γ,cn,X,e,g,h=>by
  rw[1]
  ·rw[XA] at h
   rw[wE];exact zq (sE a g h.1) (xf (sE b g h.2))
  ·rw[XA] at h
   rw[wE];exact zq (sE a g h.1) (sE b g h.2)
  ·exact ff h
 |.not a,Γ,cn,X,e,g,h=>by
  rw[1]
  ·rw[wE];exact Du (sE a g h)
  ·exact ff h
 |.ite c a b,Γ,cn,X,e,g,h=>by
  rw[1]
  ·simp only[XA] at h
   rw[wE];exact zr (sT c g h.1.1) (sE a g h.1.2) (sE b g h.2)
  ·exact ff h
 |.fn j es,Γ,cn,X,e,g,h=>by
  rw[1]
  ·rename_i q_
   obtain⟨_,_,rfl⟩:=c0 q_;simp only[XA,XU] at h;obtain⟨⟨⟨⟨h1,h2⟩,h3⟩,h4⟩,h5⟩:=h;obtain⟨h6,h7⟩:=s_gl g h1;obtain⟨k,Fj,hr⟩:=g.fns j _ h2;rw[wE];rcases Fj with Fj | ⟨k',rfl,Fj⟩
   ·exact DA Fj hr h6 h7 h3 h4 (sEs es g h5)
   ·exact Bq Fj hr h6 h7 h3 h4 (sEs es g h5)
  ·exact ff h
 |.bi b es,Γ,cn,X,e,g,h=>by
  rw[1]
  ·rename_i q_
   obtain⟨_,_,rfl⟩:=c0 q_;simp only[XA,XU] at h;obtain⟨⟨⟨⟨⟨h1,h2⟩,rfl⟩,h3⟩,h4⟩,h5⟩:=h;obtain⟨h6,h7⟩:=s_gl g h1;rw[wE];exact FD b g.calm h6 (g.blt _ h2) h3 h4 (sEs es g h5)
  ·exact ff h
 |.bk b es,Γ,cn,X,e,g,h=>by
  rw[1]
  ·rename_i q_
   obtain⟨_,_,rfl⟩:=c0 q_;simp only[XA,XU] at h;obtain⟨⟨⟨⟨⟨h1,h2⟩,rfl⟩,h3⟩,h4⟩,h5⟩:=h;obtain⟨h6,h7⟩:=s_gl g h1;rw[wE];exact FP b g.calm h6 (g.blt _ h2) h3 h4 (sEs es g h5)
  ·exact ff h
 |.lenSet a,Γ,cn,X,e,g,h=>by
  rw[1]
  ·rename_i q_
   obtain⟨_,_,_,_,rfl⟩:=j7 q_;simp only[XA,XU] at h;obtain⟨⟨⟨⟨⟨⟨⟨h1,h2⟩,rfl⟩,h3⟩,h4⟩,rfl⟩,h5⟩,h6⟩:=h;rw[wE];exact yg g.calm (s_gl g h1).1 (g.blt _ h2) (s_gl g h3).1 (g.blt _ h4) (sE a g h6) h5
  ·exact ff h
 |.lrev es,Γ,cn,X,e,g,h=>by
  rw[1]
  ·rename_i q_
   obtain⟨_,_,_,_,rfl⟩:=j7 q_;simp only[XA,XU] at h;obtain⟨⟨⟨⟨⟨⟨⟨h1,h2⟩,rfl⟩,h3⟩,h4⟩,rfl⟩,h5⟩,h6⟩:=h;rw[wE];exact BC g.calm (s_gl g h1).1 (g.blt _ h2) (s_gl g h3).1 (g.blt _ h4) (sEs es g h6) h5
  ·cases h
 |.lrg es,Γ,cn,X,e,g,h=>by
  rw[1]
  ·rename_i q_
   obtain⟨_,_,_,_,rfl⟩:=j7 q_;simp only[XA,XU] at h;obtain⟨⟨⟨⟨⟨⟨⟨h1,h2⟩,rfl⟩,h3⟩,h4⟩,rfl⟩,h5⟩,h6⟩:=h;rw[wE];exact Bw g.calm (s_gl g h1).1 (g.blt _ h2) (s_gl g h3).1 (g.blt _ h4) (sEs es g h6) h5
  ·rename_i q_
   obtain⟨_,_,_,_,rfl⟩:=j7 q_;simp only[XA,XU] at h;obtain⟨⟨⟨⟨⟨⟨⟨⟨h1,h2⟩,rfl⟩,h3⟩,h4⟩,rfl⟩,h5⟩,R8⟩,h6⟩:=h;rw[wE];exact Bx g.calm (s_gl g h1).1 (g.blt _ h2) (s_gl g h3).1 (g.blt _ h4) (sEs es g h6) h5 R8
  ·exact ff h
 |.mt m o es,Γ,cn,X,e,g,h=>by
  rw[1]
  ·simp only[XA,XU] at h
   obtain⟨⟨⟨⟨⟨⟨⟨rfl,h1⟩,h2⟩,h3⟩,h4⟩,h5⟩,h6⟩,h7⟩:=h;rw[wE];exact DV g.hu m (sE o g h1) (sEs es g h7) h2 h3 h4 h5 h6
  ·exact ff h
 |.mt0 m o,Γ,cn,X,e,g,h=>by
  rw[1]
  ·simp only[XA,XU] at h
   obtain⟨⟨⟨rfl,h1⟩,h2⟩,h3⟩:=h;rw[wE];exact Bm g.hu m (sE o g h1) h2 h3
  ·exact ff h
 |.ix a b,Γ,cn,X,e,g,h=>by
  rw[1]
  ·simp only[XA] at h
   rw[wE];exact Fx g.hu (sE a g h.1.1) (sE b g h.1.2) h.2
  ·exact ff h
 |.sl a lo hi,Γ,cn,X,e,g,h=>by
  rw[1]
  ·simp only[XA] at h
   rw[wE];exact Fz (sE a g h.1.1) (sEo lo g h.1.2) (sEo hi g h.2)
  ·exact ff h
 |.lst es,Γ,cn,X,e,g,h=>by
  rw[1]
  ·simp only[XA,XU] at h
   rw[wE];exact Dz (sEs es g h.1) h.2
  ·exact ff h
 |.tup es,Γ,cn,X,e,g,h=>by
  rw[1]
  ·simp only[XA,XU] at h
   rw[wE];exact Dy (sEs es g h.1) h.2
  ·exact ff h
 |.comp n el t i c,Γ,cn,X,e,g,h=>by
  rw[1]
  ·simp only[XA,XU] at h
   obtain⟨⟨⟨⟨⟨⟨⟨h1,rfl⟩,rfl⟩,h2⟩,h3⟩,h4⟩,h5⟩,h6⟩:=h;rw[wE];exact Bb (g.cscope h1) g.sc g.calm (sI i g h2) (λC s H0 ex pn=>s_tg (g.comp h1) h4) (λC s H0 ex pn=>sTo c (Γ:=inComp Γ _) (g.comp h1) h5) (λC s H0 ex pn=>sE el (Γ:=inComp Γ _) (g.comp h1) h6) h3
  ·exact ff h
 |.inv a,Γ,cn,X,e,g,h=>by
  rw[1]
  ·rw[wE];exact DW (sE a g h)
  ·exact ff h
 |.dnew,Γ,cn,X,e,g,h=>by
  rw[1]
  ·rw[wE];exact Bo
  ·exact ff h
 |.fld o f,Γ,cn,X,e,g,h=>by
  rw[1]
  ·simp only[XA,XU] at h
   obtain⟨⟨h1,rfl⟩,h3⟩:=h;rw[wE];exact DY g.flds (sE o g h1) h3
  ·exact ff h
 |.mu m o es,Γ,cn,X,e,g,h=>by
  rw[1]
  ·simp only[XA,XU] at h
   obtain⟨⟨⟨⟨⟨⟨⟨rfl,h1⟩,h2⟩,h3⟩,h4⟩,h5⟩,h6⟩,h7⟩:=h;rw[wE];exact Br g.mts (sE o g h1) (sEs es g h7) h2 h3 h4 h5 h6
  ·exact ff h
 |.mu0 m o,Γ,cn,X,e,g,h=>by
  rw[1]
  ·simp only[XA,XU] at h
   obtain⟨⟨⟨rfl,h1⟩,h2⟩,h3⟩:=h;rw[wE];exact zH g.mts (sE o g h1) h2 h3
  ·exact ff h
theorem sP:∀(ir:Ps){Γ:Gam}{cn:Cn}{X:Cx}{ks:List (Option Expr)}{vs:Zg},GOk Γ cn X->chkP Γ ir ks vs=true->PPd X ks vs (wP cn ir)
 |.nil,Γ,cn,X,ks,vs,g,h=>by
  unfold chkP at h;split at h
  ·rw[wP];exact .nil
  ·exact ff h
 |.cons k v r,Γ,cn,X,ks,vs,g,h=>by
  unfold chkP at h;split at h
  ·simp only[XA] at h
   rw[wP];exact .cons (sE k g h.1.1) (sE v g h.1.2) (sP r g h.2)
  ·exact ff h
theorem sEs:∀(ir:Es){Γ:Gam}{cn:Cn}{X:Cx}{es:Zg},GOk Γ cn X->bZ Γ ir es=true->PAd X es (wEs cn ir)
 |.nil,Γ,cn,X,es,g,h=>by
  unfold bZ at h;split at h
  ·rw[wEs];exact Dx
  ·exact ff h
 |.cons e r,Γ,cn,X,es,g,h=>by
  unfold bZ at h;split at h
  ·simp only[XA] at h
   rw[wEs];exact A5 (sE e g h.1.1) (sEs r g h.2) h.1.2
  ·exact ff h
theorem sEo:∀(ir:Eo){Γ:Gam}{cn:Cn}{X:Cx}{e:Option Expr},GOk Γ cn X->qO Γ ir e=true->POd X e (wEo cn ir)
 |.no,Γ,cn,X,e,g,h=>by
  unfold qO at h;split at h
  ·rw[wEo];exact Bf
  ·exact ff h
 |.yes a,Γ,cn,X,e,g,h=>by
  unfold qO at h;split at h
  ·rw[wEo];exact Bg (sE a g h)
  ·exact ff h
theorem sTo:∀(ir:To){Γ:Gam}{cn:Cn}{X:Cx}{e:Zg},GOk Γ cn X->qP Γ ir e=true->PTsd X e (wTo cn ir)
 |.no,Γ,cn,X,e,g,h=>by
  unfold qP at h;split at h
  ·rw[wTo];exact .inl ⟨rfl,rfl⟩
  ·exact ff h
 |.yes a,Γ,cn,X,e,g,h=>by
  unfold qP at h;split at h
  ·rw[wTo];exact .inr ⟨_,rfl,sT a g h⟩
  ·exact ff h
theorem sT:∀(ir:T){Γ:Gam}{cn:Cn}{X:Cx}{e:Expr},GOk Γ cn X->chkT Γ ir e=true->PTd X e (wT cn ir)
 |.val a,Γ,cn,X,e,g,h=>by
  unfold chkT at h;rw[XA] at h;rw[wT];exact Dw (sE a g h.1) (Ac h.2)
 |.cmp o a b,Γ,cn,X,e,g,h=>by
  unfold chkT at h;split at h
  ·simp only[XA,XU,XX] at h
   obtain⟨⟨⟨rfl,h2⟩,h3⟩,h4⟩:=h;rw[wT];exact Dr (xn g.hu o) (sE a g h2) (sE b g h3) h4
  ·exact ff h
 |.and a b,Γ,cn,X,e,g,h=>by
  unfold chkT at h;split at h
  ·rw[XA] at h
   rw[wT];exact(xc (sT a g h.1) (A4 (sT b g h.2))).pt
  ·rw[XA] at h
   rw[wT];exact(xc (sT a g h.1) (qQ (sT b g h.2) (.inl ⟨_,_,rfl⟩))).pt
  ·exact ff h
 |.or a b,Γ,cn,X,e,g,h=>by
  unfold chkT at h;split at h
  ·rw[XA] at h
   rw[wT];exact(zp (sT a g h.1) (Dt (sT b g h.2))).pt
  ·rw[XA] at h
   rw[wT];exact(zp (sT a g h.1) (qQ (sT b g h.2) (.inr ⟨_,_,rfl⟩))).pt
  ·exact ff h
 |.not a,Γ,cn,X,e,g,h=>by
  unfold chkT at h;split at h
  ·rw[wT];exact Ds (sT a g h)
  ·exact ff h
theorem sI:∀(ir:I){Γ:Gam}{cn:Cn}{X:Cx}{tg e:Expr},GOk Γ cn X->chkI Γ ir tg e=true->PId X tg e (wI cn ir)
 |.seq a,Γ,cn,X,tg,e,g,h=>by
  unfold chkI at h;rw[wI];exact DJ (sE a g h)
 |.enum es,Γ,cn,X,tg,e,g,h=>by
  unfold chkI at h;split at h
  ·rename_i t_ q_
   obtain⟨_,_,_,rfl⟩:=BF t_;obtain⟨_,_,rfl⟩:=c0 q_;simp only[XA,XU] at h;obtain⟨⟨⟨⟨h1,h2⟩,rfl⟩,h3⟩,h4⟩:=h;rw[wI];exact BE (s_gl g h1).1 (g.blt _ h2) (sEs es g h4) h3
  ·exact ff h
 |.rg1 es,Γ,cn,X,tg,e,g,h=>by
  unfold chkI at h;split at h
  ·rename_i q_
   obtain⟨_,_,rfl⟩:=c0 q_;simp only[XA,XU] at h;obtain⟨⟨⟨⟨h1,h2⟩,rfl⟩,h3⟩,h4⟩:=h;rw[wI];exact ya (s_gl g h1).1 (g.blt _ h2) (sEs es g h4) h3
  ·exact ff h
 |.rg2 es,Γ,cn,X,tg,e,g,h=>by
  unfold chkI at h;split at h
  ·rename_i q_
   obtain⟨_,_,rfl⟩:=c0 q_;simp only[XA,XU] at h;obtain⟨⟨⟨⟨⟨h1,h2⟩,rfl⟩,h3⟩,R9⟩,h4⟩:=h;rw[wI];exact yb (s_gl g h1).1 (g.blt _ h2) (sEs es g h4) h3 R9
  ·exact ff h
end
theorem yx{y:Str}{a sp pos:Pos}{b:Expr}{c:List Comprehension}{sc:Scope}(g:GOk Γ cn X)(d:Γ.sc.names.lookup y=some .local)(h2:(a.line==pos.line)=true)(f:(sc.names.any λ(p:Str×NameKind)=>p.1==y&&(p.2==.local || p.2==.cell))=false):
  swapsWith (.ListComp b c sc pos) (some (.Name y a)) sp.line X.env=pure true:=by
 show pure (X.env.blockKind==.function&&X.env.kindOf y==some .local && a.line==pos.line && !(sc.names.any λ(p:Str×NameKind)=>p.1==y&&(p.2==.local || p.2==.cell)))=(pure true:Sem Bool);have j:X.env.blockKind=.function:=by
  unfold Env.blockKind;rw[g.sc,g.kind];rfl
 have k:X.env.kindOf y=some .local:=by show X.env.scope.names.lookup y=_;rw[g.sc];exact d
 rw[j,k,h2,f];rfl
theorem yy{y:Str}{f:Pos}{n:Nat}(g:GOk Γ cn X)(j:Γ.sc.names.lookup y=some .cell)(v:Expr):swapsWith v (some (.Name y f)) n X.env=pure false:=by
 have k:X.env.kindOf y=some .cell:=by show X.env.scope.names.lookup y=_;rw[g.sc];exact j
 have l:(some NameKind.cell==some NameKind.local)=false:=rfl;have a:∀(b c d:Bool),(b&&X.env.kindOf y==some .local && c&&d)=false:=λb c d=>by rw[k,l,Bool.and_false,Bool.false_and,Bool.false_and]
 cases v<;>first | rfl | exact congrArg pure (a _ _ _)
theorem BI{t:WE}{i:Nat}{x:Str}{pos a:Pos}{e:Expr}(c:X.N.Nodup)(hi:X.N[i]?=some x)(hx:Loc X.env.scope x)(hf:X.fn x=true\/X.env.scope.names.lookup x=some .local)(hc:swapsWith e (some (.Name x a)) pos.line X.env=pure false)(h:PEd X e t):
  PSd X (.Assign [.Name x a] e pos) (wSet i t):=by
 intro σ M ρ H D rs f q;refine cV (EK c hi hx (pe_W e) hc hf) ?_;show tW X e ρ H _;refine aD (h σ M ρ H _ rs f q) λv l z=>?_
 obtain⟨b,d,M1,g,j,k⟩:=z;exact⟨b,σ.set i (some d),M1,(rs.mono b).set i g,j,k⟩
theorem Ad{tg v:Expr}{n:Nat}{env:Env}(h:cA v=true):swapsWithSole [tg] v n env=pure false:=qo h
theorem BJ{es:Zg}{k:Nat}{p:Pos}{v:Expr}{n:Nat}{env:Env}(h:cA v=true)(h':xC v=true):swapsWithSole [.Tuple es k p] v n env=pure false/\swappedStores [.Tuple es k p] v env=pure none:=by
 refine⟨Ad h,?_⟩;cases v<;>first | rfl | exact ff h'
theorem Ae{c:Expr}{body:Zu}{tc:WT}{y:WS}(hp:PassesOwn 'c' X.A X.env X.xe)(hc:PTd X c tc)(hb:PSsd X body y):PSd X (.While c body [] pos) (vf tc y):=by
 intro σ M ρ H E rs G q;obtain⟨W,⟨J,L⟩,step⟩:=q;refine cV (AK hp (pt_W c) (lU body)) ?_;refine⟨λm j H'=>Kp H H'/\∃d M',RS X.K H' d j/\RM X.K M' H'/\W m d M',⟨J,Kp.refl H,σ,M,rs,G,L⟩,?_⟩;rintro m j H' ⟨k,d,M',o,O,P⟩;refine et (hc d M' j H' _ o O (step m d M' P)) λb R S=>?_
 obtain⟨f,M1,z,B⟩:=S;cases b with
 |true=>
  obtain⟨N,T,U⟩:=B;refine⟨λC l=>Kp H l/\∃g M2,RS X.K l g C/\RM X.K M2 l/\N g M2,λC l ⟨V,g,M2,a,b,n⟩=>let⟨m',h1,h2⟩:=T g M2 n;⟨m',h1,V,g,M2,a,b,h2⟩,?_⟩;refine cX (hb d M1 j R _ (o.mono f) z U) ⟨λY Z Ho=>?_,λ_ _=>bA (k.trans f),λ_ _=>jD (k.trans f),λY Z ⟨p,r,u,a,b,c⟩=>⟨(k.trans f).trans p,r,u,a,b,c⟩⟩;obtain⟨p,r,u,a,b,c⟩:=Ho;exact⟨(k.trans f).trans p,r,u,a,b,c⟩
 |false=>exact⟨k.trans f,d,M1,o.mono f,z,B⟩
mutual
theorem sS:∀(ir:S){Γ:Gam}{cn:Cn}{X:Cx}{st:Stmt},GOk Γ cn X->chkS Γ ir st=true->PSd X st (wS cn ir)
 |.set i e,Γ,cn,X,st,g,h=>by
  unfold chkS at h;split at h
  ·simp only[XA] at h
   obtain⟨a,b,c,d⟩:=yw g h.1.1;rw[wS];refine BI a b c d ?_ (sE e g h.2);rcases Bool.or_eq_true_iff.1 h.1.2 with z | z
   ·exact qo z
   ·exact yy g (XS z) _
  ·exact ff h
 |.setC i n e t j c,Γ,cn,X,st,g,h=>by
  unfold chkS at h;split at h
  ·simp only[XA,XU,XX] at h
   obtain⟨⟨⟨⟨⟨⟨⟨⟨⟨⟨⟨a1,a2⟩,a3⟩,a4⟩,h1⟩,rfl⟩,rfl⟩,h2⟩,h3⟩,h4⟩,h5⟩,h6⟩:=h;rw[wS];exact Bc (g.cscope h1) g.sc g.calm (by rw[g.N];exact g.nd) (by rw[g.N];exact a1) (by rw[g.sc];exact a2) (sI j g h2) (λC s H0 ex pn=>s_tg (g.comp h1) h4)
    (λC s H0 ex pn=>sTo c (Γ:=inComp Γ _) (g.comp h1) h5) (λC s H0 ex pn=>sE e (Γ:=inComp Γ _) (g.comp h1) h6) h3 (yx g a2 a3 a4)
  ·exact ff h
 |.asg t e,Γ,cn,X,st,g,h=>by
  unfold chkS at h;split at h
  ·simp only[XA] at h
   obtain⟨⟨⟨h1,h2⟩,h3⟩,h4⟩:=h;obtain⟨q1,q2⟩:=BJ h2 h3;rw[wS];exact DG (sE e g h4) (s_tg g h1) q1 q2 rfl
  ·exact ff h
 |.expr e,Γ,cn,X,st,g,h=>by
  unfold chkS at h;split at h
  ·simp only[XA] at h
   rw[wS];exact Ba (sE e g h.2) h.1
  ·exact ff h
 |.ret e,Γ,cn,X,st,g,h=>by
  unfold chkS at h;split at h
  ·rw[wS];exact DE (sE e g h)
  ·exact ff h
 |.ite t a b,Γ,cn,X,st,g,h=>by
  unfold chkS at h;split at h
  ·simp only[XA] at h
   rw[wS];exact Fn (sT t g h.1.1) (sSs a g h.1.2) (sSs b g h.2)
  ·exact ff h
 |.for t j b,Γ,cn,X,st,g,h=>by
  unfold chkS at h;split at h
  ·simp only[XA] at h
   rw[wS];exact DL g.own g.calm (sI j g h.1.1.2) (s_tg g h.1.1.1) (sSs b g h.2) h.1.2
  ·exact ff h
 |.pass,Γ,cn,X,st,g,h=>by
  unfold chkS at h;split at h
  ·rw[wS];exact A9
  ·exact ff h
 |.never,Γ,cn,X,st,g,h=>by rw[wS];exact zx
 |.putIx o i e,Γ,cn,X,st,g,h=>by
  unfold chkS at h;split at h
  ·simp only[XA] at h
   rw[wS];exact zG g.hu (sE e g h.1.1.2) (sE o g h.1.1.1.1) (sE i g h.1.1.1.2) h.1.2 h.2
  ·exact ff h
 |.setF o f e,Γ,cn,X,st,g,h=>by
  unfold chkS at h;split at h
  ·simp only[XA,XU] at h
   obtain⟨⟨h1,rfl⟩,h3⟩:=h;rw[wS];exact Bp g.flds (sE o g h1) (sE e g h3)
  ·exact ff h
 |.while t b,Γ,cn,X,st,g,h=>by
  unfold chkS at h;split at h
  ·simp only[XA] at h
   rw[wS];exact Ae g.own (sT t g h.1) (sSs b g h.2)
  ·exact ff h
theorem sSs:∀(ir:Ss){Γ:Gam}{cn:Cn}{X:Cx}{st:Zu},GOk Γ cn X->bI Γ ir st=true->PSsd X st (wSs cn ir)
 |.nil,Γ,cn,X,st,g,h=>by
  unfold bI at h;split at h
  ·rw[wSs];exact A8
  ·exact ff h
 |.cons s r,Γ,cn,X,st,g,h=>by
  unfold bI at h;split at h
  ·simp only[XA] at h
   rw[wSs];exact zw (sS s g h.1) (sSs r g h.2)
  ·exact ff h
end
end
section
variable {P:Zw}{w:World}{K:Za}{mg:Ze}{base:Heap}
structure Names (P:Zw) (w:World) (K:Za) (mg:Ze) (base:Heap) (k:Nat) (glob:Zf) (blt:Zf) (fns:Zf) (cn:Cn):Prop where
 glob:∀(j:Nat) x,glob[j]?=some x->ng K mg x (cn.G.getD j .non)
 blt:∀x,blt.contains x=true->mg x=none
 fns:∀(j:Nat) x,fns[j]?=some x->∃k',k'<=k/\cI P w K mg base k' x (cn.F.getD j λ_ _ _=>False)
 flds:∀C f,cn.O C f->Cls K C/\cg K C f
 mts:∀C m sp,cn.T C m=some sp->∃k',k'<=k/\bo P w K mg base k' C m sp
 isi:∀C d b,cn.I C d=some b->IsiOk K C d b
theorem vg{x:Str}{st:Stmt}{ps N:Zf}{f:Addr}{fd:Zv}{k:Nat}{sp:SpD}{a:Ss}{glob:Zf}{blt:Zf}{fns:Zf}{cn:Cn}(c:IsDef K mg x st ps f fd)(S:FnScope N ps (ak st))(nm:Names P w K mg base k glob blt fns cn)
  (hc:bI ⟨N,ak st,true,glob,blt,fns⟩ a (aF st)=true) (len:∀ds M Q,sp ds M Q->ds.length=ps.length)
  (h:∀ds M Q,sp ds M Q->wSs cn a { nx:=λ_ M'=>Q .non M',rt:=Q } (ae N ds) M):FnD P w K mg base (k+1) x sp:=by
 refine fnD c S len (λy_ A outer s H E b=>?_) h;exact sSs a (Γ:=⟨N,ak st,true,glob,blt,fns⟩) ⟨rfl,rfl,S.kind,S.nd,rfl,λ_ _=>rfl,PassesOwn.never,nm.glob,nm.blt,λj x e=>let⟨k',h1,h2⟩:=nm.fns j x e;⟨k',h2,b.mono h1⟩,nm.flds,λC m sp e=>let⟨k',h1,h2⟩:=nm.mts C m sp e;⟨k',h2,b.mono h1⟩,nm.isi,XM (Nat.add_le_add_left (by decide:40<=64) _) b.units⟩ hc
theorem vh{x l_:Str}{st:Stmt}{ps N:Zf}{f:Addr}{fd:Zv}{k:Nat}{sp:SpD}{a:Ss}{glob:Zf}{blt:Zf}{fns:Zf}{cn:Cn}(n:Fun K x l_ st f fd)(S:FnScope N ps (ak st))(nm:Names P w K mg base k glob blt fns cn)
  (hc:bI ⟨N,ak st,true,glob,blt,fns⟩ a (aF st)=true) (len:∀ds M Q,sp ds M Q->ds.length=ps.length)
  (h:∀ds M Q,sp ds M Q->wSs cn a { nx:=λ_ M'=>Q .non M',rt:=Q } (ae N ds) M):FnOk P w K mg base CX0 (k+1) f fd ps (fE K sp):=by
 refine n.ok S (λvs H Q E ⟨ds,M,b,r,_,s,_⟩=>by rw[←r.len];exact len ds M b s) λy_ A outer s H vs Q E c ⟨ds,M,b,r,m,sq,l⟩=>⟨tWSs _ _,lU _,?_⟩
 have hb:=sSs a (Γ:=⟨N,ak st,true,glob,blt,fns⟩) (X:=(cxOf CX0 P w K mg base N l_ (ak st) f y_ A outer s H E).nox) ⟨rfl,rfl,S.kind,S.nd,rfl,λ_ _=>rfl,PassesOwn.never,nm.glob,nm.blt,λj x e=>let⟨k',h1,h2⟩:=nm.fns j x e;⟨k',h2,c.mono h1⟩,nm.flds,λC m sp e=>let⟨k',h1,h2⟩:=nm.mts C m sp e;⟨k',h2,c.mono h1⟩,nm.isi,XM (Nat.add_le_add_left (by decide:40<=64) _) c.units⟩ hc;refine cX (hb (ae N ds) M (L2.start N vs) H _ (uM r) m (h ds M b sq)) ⟨λu H' o=>?_,λv H' ⟨k',d,M',p,g,q⟩=>l _ _ _ _ q k' p g,λ_ _ ⟨_,_,_,_,_,q⟩=>q,λ_ _ ⟨_,_,_,_,_,q⟩=>q⟩;obtain⟨k',y,M',_,g,q⟩:=o;exact l _ _ _ _ q k' (RV.non_.2 rfl) g
end
section
variable {P:Zw}{w:World}{K:Za}{mg:Ze}{base:Heap}{k:Nat}
theorem al{F:List SpD}:∀(j:Nat) (x:Str),([]:List Str)[j]?=some x->∃k',k'<=k/\cI P w K mg base k' x (F.getD j λ_ _ _=>False):=λj x e=>by simp at e
theorem ab{y:Str}{ys:Zf}{sp:SpD}{F:List SpD}{a:Nat}(b:a<=k)(h:cI P w K mg base a y sp)(t:∀(j:Nat) (x:Str),ys[j]?=some x->∃k',k'<=k/\cI P w K mg base k' x (F.getD j λ_ _ _=>False)):
  ∀(j:Nat) (x:Str),(y::ys)[j]?=some x->∃k',k'<=k/\cI P w K mg base k' x ((sp::F).getD j λ_ _ _=>False):=λj x e=>by
 cases j with
 |zero=>
  have:y=x:=by simpa using e
  subst this;exact⟨a,b,h⟩
 |succ j=>exact t j x (by simpa using e)
theorem BK{C:Addr}{m l_:Str}{st:Stmt}{ps N:Zf}{f:Addr}{fd:Zv}{sp:SpD}{a:Ss}{glob:Zf}{blt:Zf}{fns:Zf}{cn:Cn}(cl:Cls K C)(A:MethAt K C m l_ st f fd)(S:FnScope N ps (ak st))(nm:Names P w K mg base k glob blt fns cn)
  (hb:∀(kV B_ pm:Value) (an:Zm) (y_ ct:Value) (us:Zd),us.length=ps.length->bindArgs (PySem.W.fnOf m l_ (bd st) (aF st) (ak st) .none kV B_ pm an y_ ct) ⟨us,[]⟩=pure (ps.zip us))
  (hc:bI ⟨N,ak st,true,glob,blt,fns⟩ a (aF st)=true) (len:∀ds M Q,sp ds M Q->ds.length=ps.length)
  (h:∀ds M Q,sp ds M Q->wSs cn a { nx:=λ_ M'=>Q .non M',rt:=Q } (ae N ds) M):bo P w K mg base (k+1) C m sp:=
 ⟨f,fd,ps,cl,A.meth,A.fun_.binds hb,vh A.fun_ S nm hc len h⟩
theorem FS{x:Str}{C:Addr}{l_:Str}{st:Stmt}{ps N:Zf}{f:Addr}{fd:Zv}{sp:SpD}{a:Ss}{glob:Zf}{blt:Zf}{fns:Zf}{cn:Cn}(hx:mg x=some (.ref C))(hm:PySem.W.makesIn K C=true)(hk:PySem.W.keepIn K (.ref C)=true)(A:MethAt K C "__init__" l_ st f fd)
  (S:FnScope N ps (ak st)) (nm:Names P w K mg base k glob blt fns cn)
  (hb:∀(kV B_ pm:Value) (an:Zm) (y_ ct:Value) (us:Zd),us.length=ps.length->bindArgs (PySem.W.fnOf "__init__" l_ (bd st) (aF st) (ak st) .none kV B_ pm an y_ ct) ⟨us,[]⟩=pure (ps.zip us))
  (hc:bI ⟨N,ak st,true,glob,blt,fns⟩ a (aF st)=true) (len:∀ds M Q,sp ds M Q->ds.length=ps.length)
  (h:∀ds M Q,sp ds M Q->wSs cn a { nx:=λ_ M'=>Q .non M',rt:=Q } (ae N ds) M):cI P w K mg base (k+2) x (a8 C sp):=
 .inr ⟨k+1,rfl,C,f,fd,ps,sp,⟨hm,A.at_,A.fn,hk⟩,hx,A.fun_.binds hb,vh A.fun_ S nm hc len h,rfl⟩
end
theorem DefAt.fun_{K:Za}{x:Str}{st:Stmt}{f:Addr}{fd:Zv}(A:DefAt K x st f fd):Fun K x x st f fd:=by
 obtain⟨oc,od,an,GX,kV,B_,pm,y_,ct,a,rfl,l,c,k⟩:=A.ex;exact uz l c k
end DD
open PySem L2 DD
local macro_rules
  | `(#v[]) => `(.nil)
  | `(#v[$x]) => `(.cons $x .nil)
  | `(#v[$x, $xs,*]) => `(.cons $x #v[$xs,*])
local macro_rules
  | `(~~~$x) => `(some (DD.D.int ($x : Int)))
local macro_rules
  | `(↑$x) => `(some (DD.D.ref $x))
local macro_rules
  | `(⇑$x) => `(DD.D.int ($x : Int))
local macro_rules
  | `(tactic| simp! only [$ts,*]) => `(tactic| simp only [wSs, wS, wE, wEs, wEo, wTo, wT, wI, wP, wSeq, nZ, wIfS, tY, wTru, wOp, wAnd, wOr, wNot, tZ, wOrV, t3, wIf, wRet, wSet, wAsg, t8, t7, fF, wMt, wSl, wLst, wTup, wNil, t4, wFor, t9, ua, ub, uk, uc, ud, qB, wFld, ui, oj, Ct, getS, lH, truD, intD, optD, n0, setM, dBin, dCmp, dIB, dLt, dI, dI0, dMul, dAdd, dBi, dLen, lf, dAll, dII, nq, lV, dMt, mtRc, uf, lh, li, dIx, dSl, dPut, dEqV, dNeV, dIsV, oa, dInV, n9, dInP, dEq, qv, isW, ue, isBl, isB, seqD, fldD, uh, qC, keyD, lm, lstD, lX, wLrg, rngD, dPop, nr, lj, aI, ax, List.getElem?_cons_zero, List.getElem?_cons_succ, $ts,*])
namespace SH
open PySem L2 DD
abbrev fin(Q:DK):EndsD:={ nx:=λ_ M'=>Q .non M',rt:=Q }
def Ext(M M':MH):Prop:=∀a o,M a=some o->M' a=some o
theorem Ext.refl(M:MH):Ext M M:=λ_ _ h=>h
theorem Ext.trans{M M' d:MH}(a:Ext M M')(b:Ext M' d):Ext M d:=λc o h=>b c o (a c o h)
theorem Ext.new{M:MH}{p:Addr}{o:MO}(h:M p=none):Ext M (updM M p o):=λa u e=>by
 rw[az (λz=>by subst z;rw[h] at e;cases e)];exact e
theorem Ext.then{M M':MH}{p:Addr}{o:MO}(e:Ext M M')(h:M' p=none):Ext M (updM M' p o):=e.trans (Ext.new h)
def ExtBut(p:Addr)(M M':MH):Prop:=∀a o,a≠p->M a=some o->M' a=some o
theorem bR{g:MH->Prop}{t:Tgt}{c:WT}{e:WE}{F:List D->MH->Prop}{f:D->D}{ok:DS->Prop}{M:MH}:∀{xs:List D}(h_:List D) (σ:DS),ok σ ->
  (∀x∈xs,∀σ h_ rest,ok σ->(∀a,ok a->aE g t c e F rest (h_++[f x]) a M)->aE g t c e F (x::rest) h_ σ M)->F (h_++xs.map f) M->aE g t c e F xs h_ σ M
 |[],h_,σ,_,_,q=>by
  rw[XB,ZA] at q;exact q
 |x::xs,h_,σ,h,st,q=>st x YA σ h_ xs h λa h'=>bR (h_++[f x]) a h' (λy hy=>st y (.tail _ hy)) (by simpa using q)
theorem dQ{g:MH->Prop}{t:Tgt}{c:WT}{e:WE}{F:List D->MH->Prop}{p:D->Bool}{ok:DS->Prop}{M:MH}:∀{xs:List D}(h_:List D) (σ:DS),ok σ ->
  (∀x∈xs,∀σ h_ rest,ok σ->(∀a,ok a->aE g t c e F rest (h_++cond (p x) [x] []) a M)->aE g t c e F (x::rest) h_ σ M)->F (h_++xs.filter p) M->aE g t c e F xs h_ σ M
 |[],h_,σ,_,_,q=>by
  rw[List.filter_nil,ZA] at q;exact q
 |x::xs,h_,σ,h,st,q=>st x YA σ h_ xs h λa h'=>dQ (h_++cond (p x) [x] []) a h' (λy hy=>st y (.tail _ hy)) (by
  rw[List.filter_cons] at q;cases e:p x with
  |true=>rw[e] at q;simpa using q
  |false=>rw[e] at q;simpa using q)
theorem at0{a:Type}(x:a)(xs:List a):atI (x::xs) 0=some x:=dk (j:=0) rfl
theorem at1{a:Type}(x y:a)(xs:List a):atI (x::y::xs) 1=some y:=dk (j:=1) rfl
theorem at2{a:Type}(x y z:a)(xs:List a):atI (x::y::z::xs) 2=some z:=dk (j:=2) rfl
theorem af(x:Str):aL (.str x)=true:=rfl
theorem ag(x:Int):aL (.int x)=true:=rfl
theorem ar(x:Bool):aL (.bl x)=true:=rfl
theorem ah(x:Str):depD (.str x)=0:=rfl
theorem ai(x:Int):depD (.int x)=0:=rfl
theorem au(x:Bool):depD (.bl x)=0:=rfl
theorem ad(x y:Int):eqD (.int x) (.int y)=(x==y):=by rw[eqD]
theorem aj(x y:Str):eqD (.str x) (.str y)=(x==y):=by rw[eqD]
def bitZ(h f:Int):Int:=h / 2 ^ f.toNat%2
theorem Ea(h f:Int):bitZ h f=0\/bitZ h f=1:=by unfold bitZ;omega
def hasB(h f:Int):Bool:=bitZ h f==1
theorem Af(h f:Int):(bitZ h f==0) = !hasB h f:=by
 unfold hasB;rcases Ea h f with e | e<;>rw[e]<;>rfl
def intL(fs:Zi):List D:=fs.map .int
def bits(h:Int)(fs:Zi):List D:=fs.map λf=>.int (bitZ h f)
def cntB(fs:Zi)(h:Int):Nat:=(fs.filter (hasB h)).length
theorem nz:∀(fs:Zi),aK (intL fs)=true
 |[]=>rfl
 |f::fs=>by
  show(aL (.int f)&&aK (intL fs))=true;rw[nz fs];rfl
theorem pI:∀(fs:Zi),bm (intL fs)=0
 |[]=>rfl
 |f::fs=>by
  show bm (.int f::intL fs)=0;rw[bm,pI fs];rfl
theorem sd{fs:Zi}{k:Nat}(h:k<fs.length):atI (intL fs) (k:Int)=some (.int (fs.getD k 0)):=by
 refine dk ?_;unfold intL;rw[ZH,ZE h];simp[List.getD,ZE h]
theorem cutK{a:Type}(xs:List a)(k:Nat):cutL xs none (some (k:Int))=xs.take k:=by
 unfold cutL;rw[HT.rN,HT.AT];simp
theorem ow(fs:Zi)(k:Nat):cutL (intL fs) none (some (k:Int))=intL (fs.take k):=by rw[cutK];unfold intL;rw[List.map_take]
theorem l6(fs:Zi):(intL fs).length=fs.length:=by unfold intL;rw[ZG]
inductive CT where
 |hav (f:Int) | lck (f:Int) | som (n:Int) (fs:Zi) | led (fs:Zi) (k:Nat)
def CT.ok:CT->Prop
 |.hav f=>0<=f/\f<120
 |.lck f=>0<=f/\f<120
 |.som _ fs=>(0<fs.length/\fs.length<=6)/\∀f∈fs,0<=f/\f<120
 |.led fs k=>(k<fs.length/\fs.length<=6)/\∀f∈fs,0<=f/\f<120
def CT.told:CT->D
 |.hav f=>.tup [.str "have",.int f]
 |.lck f=>.tup [.str "lack",.int f]
 |.som n fs=>.tup [.str "some",.int n,.tup (intL fs)]
 |.led fs k=>.tup [.str "lead",.tup (intL fs),.int k]
def CT.flds:CT->List (Str×D)
 |.hav f=>[("fact",.int f)]
 |.lck f=>[("fact",.int f)]
 |.som n fs=>[("number",.int n),("facts",.tup (intL fs))]
 |.led fs k=>[("facts",.tup (intL fs)),("at",.int k)]
def CT.kind:CT->Nat
 |.hav _=>0
 |.lck _=>1
 |.som _ _=>2
 |.led _ _=>3
def CT.carried(h m:Int):CT->Bool
 |.hav f=>hasB h f
 |.lck f=>!hasB m f
 |.som n fs=>decide (n<=((cntB fs h:Nat):Int))
 |.led fs k=>hasB h (fs.getD k 0)&&(((cntB (fs.take k) m:Nat):Int)==0)
def bN(b:Bool)(f:Int):D:=.tup [.int f,.bl b]
def CT.leans:CT->List D
 |.hav f=>[bN false f]
 |.lck f=>[bN true f]
 |.som _ fs=>fs.map (bN false)
 |.led fs k=>(fs.take k).map (bN true)++[bN false (fs.getD k 0)]
structure CA where
 h:Addr
 l:Addr
 s:Addr
 d:Addr
def CA.at(c:CA):Nat->Addr
 |0=>c.h
 |1=>c.l
 |2=>c.s
 |_=>c.d
def CT.obj(c:CA)(t:CT):MO:=.ins (c.at t.kind) t.flds
theorem CT.kind_lt(t:CT):t.kind<4:=by
 cases t with
 |hav _=>exact(by decide:(0:Nat)<4)
 |lck _=>exact(by decide:(1:Nat)<4)
 |som _ _=>exact(by decide:(2:Nat)<4)
 |led _ _=>exact(by decide:(3:Nat)<4)
theorem xD{fs:Zi}{k:Nat}(h:k<fs.length)(hf:∀f∈fs,0<=f/\f<120):0<=fs.getD k 0:=by
 have:fs.getD k 0=fs[k]:=by simp[List.getD,ZE h]
 rw[this];exact(hf _ (List.getElem_mem h)).1
def cJ:SpD:=λds M Q=>∃h f:Int,ds=[.int h,.int f]/\0<=f/\Q (.bl (hasB h f)) M
def jp:SpD:=λds M Q=>∃(fs:Zi) (h:Int),ds=[.tup (intL fs),.int h]/\(∀f∈fs,0<=f)/\∀M',Ext M M'->Q (.int (cntB fs h:Nat)) M'
def bw(c:CA)(k:Nat):SpD:=λds M Q=>∃(a:Addr) (t:CT) (h m:Int),t.kind=k/\t.ok/\ds=[.ref a,.int h,.int m]/\M a=some (t.obj c)/\∀M',Ext M M'->Q (.bl (t.carried h m)) M'
def bz(c:CA)(k:Nat):SpD:=λds M Q=>∃(a:Addr) (t:CT),t.kind=k/\t.ok/\ds=[.ref a]/\M a=some (t.obj c)/\∀p M',M p=none->Ext M M'->M' p=some (.lst t.leans)->Q (.ref p) M'
def bF(c:CA)(k:Nat):SpD:=λds M Q=>∃(a:Addr) (t:CT),t.kind=k/\ds=.ref a::t.flds.map (·.2)/\M a=some (.ins (c.at k) [])/\∀M',(∀b,b≠a->M' b=M b)->M' a=some (t.obj c)->Q .non M'
def kindAt(c:CA)(a:Addr):Option Nat:=if a=c.h then some 0 else if a=c.l then some 1 else if a=c.s then some 2 else if a=c.d then some 3 else none
def CA.apart(c:CA):Prop:=∀k,k<4->kindAt c (c.at k)=some k
def eJ:List Str:=["fact","number","facts","at"]
def fldO(c:CA):OK0:=λa f=>∃k,k<4/\a=c.at k/\f∈eJ
theorem bg(c:CA){k:Nat}{f:Str}(hk:k<4)(h:f∈eJ):fldO c (c.at k) f:=⟨k,hk,rfl,h⟩
def kK:Ss:=#v[.ret (.cmp .Eq (.bin .BitAnd (.bin .RShift (.var 0) (.var 1)) (.int 1)) (.int 1))]
def kL:Ss:=#v[.ret (.bi .len #v[.comp 1 (.var 2) (.nm 2) (.seq (.var 0)) (.yes (.val (.fn 0 #v[.var 1,.var 2])))])]
section
variable {cn:Cn}
theorem wq{ds:List D}{M:MH}{Q:DK}(h:cJ ds M Q):wSs cn kK (fin Q) (ae ["",""] ds) M:=by
 obtain⟨x,f,rfl,hf,q⟩:=h;show wSs cn kK (fin Q) [some (.int x),some (.int f)] M;unfold kK;simp! only[];refine⟨hf,⟨rfl,rfl,(by decide:(0:Nat)<=30)⟩,?_⟩;rw[PyProof.Rows.bitAnd_m1];exact q
theorem wt{ds:List D}{M:MH}{Q:DK}(b:cn.F.getD 0 Yl=cJ)(h:jp ds M Q):wSs cn kL (fin Q) (ae ["",""] ds) M:=by
 obtain⟨fs,x,rfl,hf,q⟩:=h;show wSs cn kL (fin Q) [some (.tup (intL fs)),some (.int x)] M;unfold kL;simp! only[b];refine dQ (p:=λd=>match d with | .int f=>hasB x f | _=>false) (ok:=λσ=>∃v,σ=[some (.tup (intL fs)),some (.int x),v]) [] _ ⟨none,rfl⟩ ?_ ?_
 ·intro d hd σ h_ rest ⟨v,hv⟩ k
  subst hv;obtain⟨f,c,rfl⟩:=List.mem_map.1 hd;refine⟨x,f,rfl,hf f c,?_⟩;have a:=k _ ⟨some (.int f),rfl⟩;show Bif (hasB x f) _ _;dsimp only at a;cases hb:hasB x f with
  |true=>rw[hb] at a;exact⟨trivial,a⟩
  |false=>rw[hb] at a;exact⟨trivial,by simpa using a⟩
 ·intro p hp
  rw[aa];have e:([]++(intL fs).filter (λ(d:D)=>match d with | .int f=>hasB x f | _=>false)).length=cntB fs x:=by
   unfold intL cntB;rw[XF,List.filter_map,ZG];rfl
  dsimp only;rw[e];exact q _ (Ext.new hp)
end
end SH
local macro_rules
  | `(tactic| simp_all! only [$ts,*]) => `(tactic| simp! only [SH.af,SH.ag,SH.ar,SH.ah,SH.ai,SH.au,SH.ad,SH.aj,YO,and_self,true_and,and_true,$ts,*])
namespace SH
open PySem L2 DD
theorem ox(x:D):List.lookup ("fact" : Str) [("fact",x)]=some x:=rfl
theorem sW(x y:D):List.lookup ("number" : Str) [("number",x),("facts",y)]=some x:=rfl
theorem vi(x y:D):List.lookup ("facts" : Str) [("number",x),("facts",y)]=some y:=rfl
theorem j8(x y:D):List.lookup ("facts" : Str) [("facts",x),("at",y)]=some x:=rfl
theorem ul(x y:D):List.lookup ("at" : Str) [("facts",x),("at",y)]=some y:=rfl
theorem jq:("fact" : Str)∈eJ:=by rfl'
theorem sX:("number" : Str)∈eJ:=by rfl'
theorem c8:("facts" : Str)∈eJ:=by rfl'
theorem qR:("at" : Str)∈eJ:=by rfl'
def ci:Ss:=#v[.setF (.var 0) "fact" (.var 1)]
def fL:Ss:=#v[.ret (.fn 0 #v[.var 1,.fld (.var 0) "fact"])]
def fM:Ss:=#v[.ret (.not (.fn 0 #v[.var 2,.fld (.var 0) "fact"]))]
def fN:Ss:=#v[.ret (.lst #v[.tup #v[.fld (.var 0) "fact",.bl false]])]
def fO:Ss:=#v[.ret (.lst #v[.tup #v[.fld (.var 0) "fact",.bl true]])]
def ly:Ss:=#v[.setF (.var 0) "facts" (.var 2)]
def jH:Ss:=.cons (.setF (.var 0) "number" (.var 1)) ly
def fP:Ss:=#v[.ret (.cmp .GtE (.fn 0 #v[.fld (.var 0) "facts",.var 1]) (.fld (.var 0) "number"))]
def fQ:Ss:=#v[.ret (.comp 1 (.tup #v[.var 1,.bl false]) (.nm 1) (.seq (.fld (.var 0) "facts")) .no)]
def lz:Ss:=#v[.setF (.var 0) "at" (.var 2)]
def jI:Ss:=.cons (.setF (.var 0) "facts" (.var 1)) lz
def fR:Ss:=#v[.ret (.and (.fn 0 #v[.var 1,.ix (.fld (.var 0) "facts") (.fld (.var 0) "at")]) (.cmp .Eq (.fn 1 #v[.sl (.fld (.var 0) "facts") .no (.yes (.fld (.var 0) "at")),.var 2]) (.int 0)))]
def fS:Ss:=#v[.ret (.bin .Add (.comp 1 (.tup #v[.var 1,.bl true]) (.nm 1) (.seq (.sl (.fld (.var 0) "facts") .no (.yes (.fld (.var 0) "at")))) .no) (.lst #v[.tup #v[.ix (.fld (.var 0) "facts") (.fld (.var 0) "at"),.bl false]]))]
section
variable {cn:Cn}{c:CA}{ds:List D}{M:MH}{Q:DK}
theorem vj(d:cn.O=fldO c)(h:bF c 0 ds M Q):wSs cn ci (fin Q) (ae ["",""] ds) M:=by
 obtain⟨a,t,hk,rfl,g,q⟩:=h;cases t with
 |hav f=>
  show wSs cn ci (fin Q) [↑a,some (.int f)] M;unfold ci;simp! only[g,d];exact⟨⟨bg c 'b' jq,by decide⟩,q _ (λb hb=>az hb) aa⟩
 |lck f=>cases hk
 |som n fs=>cases hk
 |led fs k=>cases hk
theorem vk(d:cn.O=fldO c)(h:bF c 1 ds M Q):wSs cn ci (fin Q) (ae ["",""] ds) M:=by
 obtain⟨a,t,hk,rfl,g,q⟩:=h;cases t with
 |lck f=>
  show wSs cn ci (fin Q) [↑a,some (.int f)] M;unfold ci;simp! only[g,d];exact⟨⟨bg c 'b' jq,by decide⟩,q _ (λb hb=>az hb) aa⟩
 |hav f=>cases hk
 |som n fs=>cases hk
 |led fs k=>cases hk
theorem vm(d:cn.O=fldO c)(h:bF c 2 ds M Q):wSs cn jH (fin Q) (ae ["","",""] ds) M:=by
 obtain⟨a,t,hk,rfl,g,q⟩:=h;cases t with
 |som n fs=>
  show wSs cn jH (fin Q) [↑a,some (.int n),some (.tup (intL fs))] M;unfold jH;simp! only[g,d];refine⟨⟨bg c 'b' sX,by decide⟩,?_⟩;unfold ly;simp! only[aa,d];exact⟨⟨bg c 'b' c8,(show(1:Nat)<1000 by decide)⟩,q _ (λb hb=>by rw[az hb,az hb]) aa⟩
 |hav f=>cases hk
 |lck f=>cases hk
 |led fs k=>cases hk
theorem vn(d:cn.O=fldO c)(h:bF c 3 ds M Q):wSs cn jI (fin Q) (ae ["","",""] ds) M:=by
 obtain⟨a,t,hk,rfl,g,q⟩:=h;cases t with
 |led fs k=>
  show wSs cn jI (fin Q) [↑a,some (.tup (intL fs)),some (.int k)] M;unfold jI;simp! only[g,d];refine⟨⟨bg c 'b' c8,by decide⟩,?_⟩;unfold lz;simp! only[aa,d];exact⟨⟨bg c 'b' qR,(show(1:Nat)<1000 by decide)⟩,q _ (λb hb=>by rw[az hb,az hb]) aa⟩
 |hav f=>cases hk
 |lck f=>cases hk
 |som n fs=>cases hk
theorem qS(d:cn.O=fldO c)(g:cn.F.getD 0 Yl=cJ)(h:bw c 0 ds M Q):wSs cn fL (fin Q) (ae ["","",""] ds) M:=by
 obtain⟨a,t,h,m,hk,ho,rfl,b,q⟩:=h;cases t with
 |hav f=>
  have b:M a=some (.ins (c.at 0) [("fact",.int f)]):=b;show wSs cn fL (fin Q) [↑a,some (.int h),some (.int m)] M;unfold fL;simp! only[b,d,ox,g];exact⟨bg c 'b' jq,h,f,rfl,ho.1,q M (Ext.refl M)⟩
 |lck f=>cases hk
 |som n fs=>cases hk
 |led fs k=>cases hk
theorem qT(d:cn.O=fldO c)(g:cn.F.getD 0 Yl=cJ)(h:bw c 1 ds M Q):wSs cn fM (fin Q) (ae ["","",""] ds) M:=by
 obtain⟨a,t,h,m,hk,ho,rfl,b,q⟩:=h;cases t with
 |lck f=>
  have b:M a=some (.ins (c.at 1) [("fact",.int f)]):=b;show wSs cn fM (fin Q) [↑a,some (.int h),some (.int m)] M;unfold fM;simp! only[b,d,ox,g];exact⟨bg c 'b' jq,m,f,rfl,ho.1,q M (Ext.refl M)⟩
 |hav f=>cases hk
 |som n fs=>cases hk
 |led fs k=>cases hk
theorem qU(g:cn.O=fldO c)(j:cn.F.getD 0 Yl=jp)(h:bw c 2 ds M Q):wSs cn fP (fin Q) (ae ["","",""] ds) M:=by
 obtain⟨a,t,h,m,hk,ho,rfl,b,q⟩:=h;cases t with
 |som n fs=>
  have b:M a=some (.ins (c.at 2) [("number",.int n),("facts",.tup (intL fs))]):=b;show wSs cn fP (fin Q) [↑a,some (.int h),some (.int m)] M;unfold fP;simp! only[b,g,sW,vi,j];refine⟨bg c 'b' c8,fs,h,rfl,λf hf=>(ho.2 f hf).1,λM1 d=>?_⟩;simp only[d a _ b,sW];exact⟨bg c 'b' sX,q M1 d⟩
 |hav f=>cases hk
 |lck f=>cases hk
 |led fs k=>cases hk
theorem qV(d:cn.O=fldO c)(g:cn.F.getD 0 Yl=cJ)(j:cn.F.getD 1 Yl=jp)(h:bw c 3 ds M Q):wSs cn fR (fin Q) (ae ["","",""] ds) M:=by
 obtain⟨a,t,h,m,hk,ho,rfl,b,q⟩:=h;cases t with
 |led fs k=>
  have b:M a=some (.ins (c.at 3) [("facts",.tup (intL fs)),("at",.int k)]):=b;show wSs cn fR (fin Q) [↑a,some (.int h),some (.int m)] M;unfold fR;simp! only[b,d,j8,ul,g,j,sd ho.1.1,ow];refine⟨bg c 'b' c8,bg c 'b' qR,h,fs.getD k 0,rfl,xD ho.1.1 ho.2,?_⟩;have q:∀M',Ext M M'->Q (.bl (hasB h (fs.getD k 0)&&(((cntB (fs.take k) m:Nat):Int)==0))) M':=q;cases hb:hasB h (fs.getD k 0) with
  |false=>rw[hb,Bool.false_and] at q;exact q M (Ext.refl M)
  |true=>
   rw[hb,Bool.true_and] at q;simp only[aI,b,j8,ul,ow];refine⟨bg c 'b' c8,bg c 'b' qR,fs.take k,m,rfl,λf hf=>(ho.2 f (List.mem_of_mem_take hf)).1,λM1 l=>⟨⟨rfl,rfl,(by decide:(0:Nat)<=30)⟩,?_⟩⟩;rw[ad];exact q M1 l
 |hav f=>cases hk
 |lck f=>cases hk
 |som n fs=>cases hk
theorem qW(d:cn.O=fldO c)(h:bz c 0 ds M Q):wSs cn fN (fin Q) (ae [""] ds) M:=by
 obtain⟨a,t,hk,ho,rfl,b,q⟩:=h;cases t with
 |hav f=>
  have b:M a=some (.ins (c.at 0) [("fact",.int f)]):=b;show wSs cn fN (fin Q) [↑a] M;unfold fN;simp! only[b,d,ox];exact⟨bg c 'b' jq,λp hp=>q p _ hp (Ext.new hp) aa⟩
 |lck f=>cases hk
 |som n fs=>cases hk
 |led fs k=>cases hk
theorem qX(d:cn.O=fldO c)(h:bz c 1 ds M Q):wSs cn fO (fin Q) (ae [""] ds) M:=by
 obtain⟨a,t,hk,ho,rfl,b,q⟩:=h;cases t with
 |lck f=>
  have b:M a=some (.ins (c.at 1) [("fact",.int f)]):=b;show wSs cn fO (fin Q) [↑a] M;unfold fO;simp! only[b,d,ox];exact⟨bg c 'b' jq,λp hp=>q p _ hp (Ext.new hp) aa⟩
 |hav f=>cases hk
 |som n fs=>cases hk
 |led fs k=>cases hk
def vo(b:Bool):D->D
 |.int f=>bN b f
 |d=>d
theorem vp(b:Bool)(fs:Zi):(intL fs).map (vo b)=fs.map (bN b):=by
 unfold intL;rw[ZO];rfl
theorem qY(g:cn.O=fldO c)(h:bz c 2 ds M Q):wSs cn fQ (fin Q) (ae [""] ds) M:=by
 obtain⟨a,t,hk,ho,rfl,b,q⟩:=h;cases t with
 |som n fs=>
  have b:M a=some (.ins (c.at 2) [("number",.int n),("facts",.tup (intL fs))]):=b;show wSs cn fQ (fin Q) [↑a] M;unfold fQ;simp! only[b,g,vi];refine⟨bg c 'b' c8,?_⟩;refine bR (f:=vo false) (ok:=λσ=>∃v,σ=[↑a,v]) [] _ ⟨none,rfl⟩ ?_ ?_
  ·intro d hd σ h_ rest ⟨v,hv⟩ k
   subst hv;obtain⟨f,j,rfl⟩:=List.mem_map.1 hd;exact⟨trivial,k _ ⟨_,rfl⟩⟩
  ·intro p hp
   rw[XF,vp];exact q p _ hp (Ext.new hp) aa
 |hav f=>cases hk
 |lck f=>cases hk
 |led fs k=>cases hk
theorem qZ(m:cn.O=fldO c)(h:bz c 3 ds M Q):wSs cn fS (fin Q) (ae [""] ds) M:=by
 obtain⟨a,t,hk,ho,rfl,b,q⟩:=h;cases t with
 |led fs k=>
  have b:M a=some (.ins (c.at 3) [("facts",.tup (intL fs)),("at",.int k)]):=b;show wSs cn fS (fin Q) [↑a] M;unfold fS;simp! only[b,m,j8,ul,ow];refine⟨bg c 'b' c8,bg c 'b' qR,?_⟩;refine bR (f:=vo true) (ok:=λσ=>∃v,σ=[↑a,v]) [] _ ⟨none,rfl⟩ ?_ ?_
  ·intro d hd σ h_ rest ⟨v,hv⟩ k
   subst hv;obtain⟨f,A,rfl⟩:=List.mem_map.1 hd;exact⟨trivial,k _ ⟨_,rfl⟩⟩
  ·intro p hp
   rw[XF,vp];have g:=Ext.new (o:=MO.lst ((fs.take k).map (bN true))) hp;have r:=g a _ b;have u:updM M p (MO.lst ((fs.take k).map (bN true))) p=some (.lst ((fs.take k).map (bN true))):=aa;generalize updM M p (MO.lst ((fs.take k).map (bN true)))=M1 at *;simp only[r,j8,ul,sd ho.1.1];refine⟨bg c 'b' c8,bg c 'b' qR,λp2 y=>?_⟩;have j:=Ext.new (o:=MO.lst [D.tup [D.int (fs.getD k 0),D.bl false]]) y;have h2:=j p _ u;have z:updM M1 p2 (MO.lst [D.tup [D.int (fs.getD k 0),D.bl false]]) p2=some (.lst [D.tup [D.int (fs.getD k 0),D.bl false]]):=aa;generalize updM M1 p2 (MO.lst [D.tup [D.int (fs.getD k 0),D.bl false]])=M2 at *;simp only[h2,z];refine⟨?_,λp3 l=>q p3 _ ?_ ((g.trans j).then l) aa⟩
   ·have:((fs.take k).map (bN true)).length<=6:=by rw[ZG];exact ZZ (List.length_take_le' _ _) ho.1.2
    have B:(7:Nat)<=sizeLine:=by decide
    simp only[YK,YW];omega
   ·cases e:M p3 with
    |none=>rfl
    |some o=>have:=(g.trans j) p3 o e;rw[l] at this;cases this
 |hav f=>cases hk
 |lck f=>cases hk
 |som n fs=>cases hk
end
theorem Ext.free{M M':MH}{p:Addr}(e:Ext M M')(h:M' p=none):M p=none:=by
 cases q:M p with
 |none=>rfl
 |some o=>have:=e p o q;rw[h] at this;cases this
theorem Ext.put{M M':MH}{p:Addr}{o:MO}(e:Ext M M')(h:M p=none):Ext M (updM M' p o):=λa u q=>by
 have:a≠p:=λz=>by subst z;rw[h] at q;cases q
 rw[az this];exact e a u q
theorem q0{M M':MH}{x:Addr}{o:MO}(hx:M x=none)(h:∀b,b≠x->M' b=updM M x o b):Ext M M':=λb u e=>by
 have:b≠x:=λz=>by subst z;rw[hx] at e;cases e
 rw[h b this,az this];exact e
theorem bG{M:MH}{a p:Addr}{o:MO}(h:M a=some o)(hp:M p=none):a≠p:=λz=>by subst z;rw[hp] at h;cases h
theorem ExtBut.refl(p:Addr)(M:MH):ExtBut p M M:=λ_ _ _ h=>h
theorem ExtBut.trans{p:Addr}{M M' d:MH}(a:ExtBut p M M')(b:ExtBut p M' d):ExtBut p M d:=λc o n h=>b c o n (a c o n h)
theorem Ext.but{p:Addr}{M M':MH}(a:Ext M M'):ExtBut p M M':=λc o _ h=>a c o h
theorem ExtBut.upd(p:Addr)(M:MH)(o:MO):ExtBut p M (updM M p o):=λc u n h=>by rw[az n];exact h
theorem ExtBut.ext{p:Addr}{M M1 M2:MH}(a:Ext M M1)(b:ExtBut p M1 M2)(h:M p=none):Ext M M2:=λc o q=>b c o (bG q h) (a c o q)
theorem sh_:(("have" : Str) == "have")=true:=XH _
theorem s_ss:(("some" : Str) == "some")=true:=XH _
theorem s_ll:(("lack" : Str) == "lack")=true:=XH _
theorem s_dd:(("lead" : Str) == "lead")=true:=XH _
theorem s_lh:(("lack" : Str) == "have")=false:=by rfl'
theorem s_sh:(("some" : Str) == "have")=false:=by rfl'
theorem s_sl:(("some" : Str) == "lack")=false:=by rfl'
theorem s_dh:(("lead" : Str) == "have")=false:=by rfl'
theorem s_dl:(("lead" : Str) == "lack")=false:=by rfl'
theorem s_ds:(("lead" : Str) == "some")=false:=by rfl'
def q9(c:CA):SpD:=λds M Q=>∃t:CT,ds=[t.told]/\∀p M',M p=none->Ext M M'->M' p=some (t.obj c)->Q (.ref p) M'
def mE:Ss:=#v[.ret (.fn 0 #v[.ix (.var 0) (.int 1),.ix (.var 0) (.int 2)])]
def iJ:Ss:=.cons (.ite (.cmp .Eq (.ix (.var 0) (.int 0)) (.str "some")) #v[.ret (.fn 1 #v[.ix (.var 0) (.int 1),.ix (.var 0) (.int 2)])] .nil) mE
def d2:Ss:=.cons (.ite (.cmp .Eq (.ix (.var 0) (.int 0)) (.str "lack")) #v[.ret (.fn 2 #v[.ix (.var 0) (.int 1)])] .nil) iJ
def cB:Ss:=.cons (.ite (.cmp .Eq (.ix (.var 0) (.int 0)) (.str "have")) #v[.ret (.fn 3 #v[.ix (.var 0) (.int 1)])] .nil) d2
section
variable {cn:Cn}{c:CA}{ds:List D}{M:MH}{Q:DK}
theorem Eb(a:cn.F=[a8 (c.at 3) (bF c 3),a8 (c.at 2) (bF c 2),a8 (c.at 1) (bF c 1),a8 (c.at 0) (bF c 0)])(h:q9 c ds M Q):wSs cn cB (fin Q) (ae [""] ds) M:=by
 obtain⟨t,rfl,q⟩:=h;show wSs cn cB (fin Q) [some t.told] M;cases t with
 |hav f=>
  unfold cB;simp_all! only[CT.told,at0,at1,at2,a,List.getD_cons_zero,List.getD_cons_succ,sh_];exact λx hx=>⟨x,.hav f,rfl,rfl,aa,λM' b h2=>⟨rfl,q x M' hx (q0 hx b) h2⟩⟩
 |lck f=>
  unfold cB;simp_all! only[CT.told,at0,at1,at2,a,List.getD_cons_zero,List.getD_cons_succ,s_lh];unfold d2;simp_all! only[CT.told,at0,at1,at2,a,List.getD_cons_zero,List.getD_cons_succ,s_ll];exact λx hx=>⟨x,.lck f,rfl,rfl,aa,λM' b h2=>⟨rfl,q x M' hx (q0 hx b) h2⟩⟩
 |som n fs=>
  unfold cB;simp_all! only[CT.told,at0,at1,at2,a,List.getD_cons_zero,List.getD_cons_succ,s_sh];unfold d2;simp_all! only[CT.told,at0,at1,at2,a,List.getD_cons_zero,List.getD_cons_succ,s_sl];unfold iJ;simp_all! only[CT.told,at0,at1,at2,a,List.getD_cons_zero,List.getD_cons_succ,s_ss];exact λx hx=>⟨x,.som n fs,rfl,rfl,aa,λM' b h2=>⟨rfl,q x M' hx (q0 hx b) h2⟩⟩
 |led fs k=>
  unfold cB;simp_all! only[CT.told,at0,at1,at2,a,List.getD_cons_zero,List.getD_cons_succ,s_dh];unfold d2;simp_all! only[CT.told,at0,at1,at2,a,List.getD_cons_zero,List.getD_cons_succ,s_dl];unfold iJ;simp_all! only[CT.told,at0,at1,at2,a,List.getD_cons_zero,List.getD_cons_succ,s_ds];unfold mE;simp_all! only[CT.told,at0,at1,at2,a,List.getD_cons_zero,List.getD_cons_succ];exact λx hx=>⟨x,.led fs k,rfl,rfl,aa,λM' b h2=>⟨rfl,q x M' hx (q0 hx b) h2⟩⟩
end
theorem gR(n k:Nat):hasB (n:Int) (k:Int)=n.testBit k:=by
 unfold hasB bitZ;rw[Nat.testBit_eq_decide_div_mod_eq,YY];have e:(n:Int) / 2 ^ k%2=((n / 2 ^ k%2:Nat):Int):=by simp
 rw[e];by_cases h:n / 2 ^ k%2=1
 ·simp[h]
 ·have h2:n / 2 ^ k%2=0:=by omega
  simp[h2]
def aA(a b:Nat):Nat:=a ^^^ (a&&&b)
theorem a0(a b k:Nat):(aA a b).testBit k=(a.testBit k && !b.testBit k):=by
 unfold aA;rw[Nat.testBit_xor,Nat.testBit_and];cases a.testBit k<;>cases b.testBit k<;>rfl
theorem l7(a b:Nat):aA a b+(a&&&b)=a:=by
 have h:=PyProof.Rows.nat_or_add_and (aA a b) (a&&&b);have c:aA a b|||(a&&&b)=a:=by
  refine Nat.eq_of_testBit_eq λk=>?_
  rw[Nat.testBit_or,a0,Nat.testBit_and];cases a.testBit k<;>cases b.testBit k<;>rfl
 have h2:aA a b&&&(a&&&b)=0:=by
  refine Nat.eq_of_testBit_eq λk=>?_
  rw[Nat.testBit_and,a0,Nat.testBit_and,Nat.zero_testBit];cases a.testBit k<;>cases b.testBit k<;>rfl
 omega
theorem vq(a b:Nat):Builtin.bitOr (a:Int) (b:Int)=((a|||b:Nat):Int):=by
 rw[PyProof.Rows.bitOr_and,PyProof.Rows.bitAnd_pp 'a' 'a',YY,YY]
 have:=PyProof.Rows.nat_or_add_and a b
 omega
theorem xE(a b:Nat):Builtin.bitAnd (a:Int) (b:Int)=((a&&&b:Nat):Int):=by
 rw[PyProof.Rows.bitAnd_pp 'a' 'a',YY,YY]
theorem ra(a b:Nat):Builtin.bitAnd (a:Int) (-(b:Int)-1)=((aA a b:Nat):Int):=by
 rw[←bitNot_eq,PyProof.Rows.bitAnd_not,xE]
 have:=l7 a b
 omega
def nats(fs:Zj):List D:=fs.map λ(f:Nat)=>D.int (f:Int)
def setN(fs:Zj):Nat:=fs.foldl (λa f=>a|||2 ^ f) 0
theorem bq(fs:Zj)(k:Nat):(setN fs).testBit k=decide (k∈fs):=by
 have b:∀(fs:Zj) (a:Nat),(fs.foldl (λa f=>a|||2 ^ f) a).testBit k=(a.testBit k||decide (k∈fs)):=by
  intro fs;induction fs with
  |nil=>intro a;simp
  |cons f fs c=>
   intro a;rw[List.foldl_cons,c,Nat.testBit_or,Nat.testBit_two_pow];by_cases e:f=k
   ·subst e;simp
   ·have:k≠f:=λz=>e z.symm
    simp[e,this]
 unfold setN;rw[b];simp
def memb(n:Nat):List Nat:=(List.range (dY (n:Int))).filter λf=>n.testBit f
theorem br(n f:Nat):f∈memb n↔n.testBit f=true:=by
 unfold memb;rw[ZX,ZY];refine⟨λh=>h.2,λh=>⟨?_,h⟩⟩;unfold dY Builtin.Int.intBits;have hn:n≠0:=λz=>by subst z;simp at h
 have hb:((n:Int)==0)=false:=by rw[ZT];omega
 rw[hb];simp only[XG,if_false,Int.natAbs_natCast];have a:=Nat.ge_two_pow_of_testBit h;have h2:=(Nat.le_log2 hn).2 a;omega
theorem jf(n:Nat):(memb n).Nodup:=List.Pairwise.filter _ List.nodup_range
theorem BL{n m:Nat}(h:n<2 ^ m):dY (n:Int)<=m:=by
 unfold dY Builtin.Int.intBits;by_cases hn:n=0
 ·subst hn;simp
 ·have hb:((n:Int)==0)=false:=by rw[ZT];omega
  rw[hb];simp only[XG,if_false,Int.natAbs_natCast]
  have:=(Nat.log2_lt hn).2 h
  omega
def Meets(d:D)(M:MH)(fs:Zj)(M':MH):Prop:=(d=.tup (nats fs)/\M'=M) \/ ∃a,d=.ref a/\((M a=some (.lst (nats fs))/\M'=M) \/ ∃b,keysOf b=nats fs/\((M a=some (.dic b)/\M'=updM M a (.rod b))\/(M a=some (.rod b)/\M'=M)))
def jr:SpD:=λds M Q=>∃i:Int,ds=[.int i]/\Q (.bl true) M
def cC:SpD:=λds M Q=>∃i m:Int,ds=[.int i,.int m]/\Q (.bl (decide (0<=i)&&decide (i<m))) M
def gS:SpD:=λds M Q=>∃(d:D) (fs:Zj) (M':MH),ds=[d]/\Meets d M fs M'/\(∀f∈fs,f<=1000)/\Q (.int (setN fs:Nat)) M'
def fz:SpD:=λds M Q=>∃n:Nat,ds=[⇑n]/\n<2 ^ 1000/\∀p M',M p=none->Ext M M'->M' p=some (.lst (nats (memb n)))->Q (.ref p) M'
def dr:SpD:=λds M Q=>∃m:Nat,ds=[⇑m]/\m<=1000/\Q (.int ((2 ^ m-1:Nat):Int)) M
def kM:Ss:=#v[.ret (.and (.bi .isinst #v[.var 0,.ty "int"]) (.not (.bi .isinst #v[.var 0,.ty "bool"])))]
def kN:Ss:=#v[.ret (.and (.fn 0 #v[.var 0]) (.and (.cmp .GtE (.var 0) (.int 0)) (.cmp .Lt (.var 0) (.var 1))))]
def ie:Ss:=#v[.ret (.var 1)]
def dR:Ss:=#v[.set 1 (.bin .BitOr (.var 1) (.bin .LShift (.int 1) (.var 2)))]
def oV:Ss:=.cons (.for (.nm 2) (.seq (.var 0)) dR) ie
def nC:Ss:=.cons (.set 1 (.int 0)) oV
def l9:Ss:=#v[.ret (.comp 1 (.var 1) (.nm 1) (.rg1 #v[.mt0 .bits (.var 0)]) (.yes (.val (.fn 0 #v[.var 0,.var 1]))))]
def jJ:Ss:=#v[.ret (.bin .Sub (.bin .LShift (.int 1) (.var 0)) (.int 1))]
section
variable {cn:Cn}{ds:List D}{M:MH}{Q:DK}
theorem wu(h:jr ds M Q):wSs cn kM (fin Q) (ae [""] ds) M:=by
 obtain⟨i,rfl,q⟩:=h;show wSs cn kM (fin Q) [some (.int i)] M;unfold kM;simp! only[tyD];refine⟨by decide,?_⟩;show Bif true _ _;refine⟨by decide,?_⟩;exact q
theorem wv(a:cn.F.getD 0 Yl=jr)(h:cC ds M Q):wSs cn kN (fin Q) (ae ["",""] ds) M:=by
 obtain⟨i,m,rfl,q⟩:=h;show wSs cn kN (fin Q) [some (.int i),some (.int m)] M;unfold kN;simp! only[a];refine⟨i,rfl,?_⟩;show Bif (decide (0<=i)) _ _;cases b:decide (0<=i) with
 |true=>rw[b,Bool.true_and] at q;exact q
 |false=>rw[b,Bool.false_and] at q;exact q
theorem vt(h:dr ds M Q):wSs cn jJ (fin Q) (ae [""] ds) M:=by
 obtain⟨m,rfl,hm,q⟩:=h;show wSs cn jJ (fin Q) [~~~m] M;unfold jJ;simp! only[];refine⟨⟨by omega (splitDisjunctions:=true),by omega (splitDisjunctions:=true),by decide⟩,?_⟩;have e:(1:Int)*2 ^ (m:Int).toNat-1=((2 ^ m-1:Nat):Int):=by
  have a:1<=2 ^ m:=Nat.one_le_two_pow;rw[YY,Int.one_mul,Int.ofNat_sub a];simp
 rw[e];exact q
theorem yz(b:cn.F.getD 0 Yl=cJ)(h:fz ds M Q):wSs cn l9 (fin Q) (ae [""] ds) M:=by
 obtain⟨n,rfl,hn,q⟩:=h;show wSs cn l9 (fin Q) [~~~n] M;unfold l9;simp! only[b,ug,List.cons_append,XF,List.replicate];have hb:=BL hn;refine⟨trivial,⟨by omega,by omega⟩,?_⟩;refine dQ (p:=λd=>match d with | .int f=>hasB (n:Int) f | _=>false) (ok:=λσ=>∃v,σ=[~~~n,v]) [] _ ⟨none,rfl⟩ ?_ ?_
 ·intro d hd σ h_ rest ⟨v,hv⟩ k
  subst hv;unfold aY at hd;obtain⟨i,hi,rfl⟩:=List.mem_map.1 hd;refine⟨n,0+(i:Int),rfl,by omega,?_⟩;have a:=k _ ⟨some (.int (0+(i:Int))),rfl⟩;show Bif (hasB (n:Int) (0+(i:Int))) _ _;dsimp only at a;cases hb:hasB (n:Int) (0+(i:Int)) with
  |true=>rw[hb] at a;exact⟨trivial,a⟩
  |false=>rw[hb] at a;exact⟨trivial,by simpa using a⟩
 ·intro p hp
  have e:([]++(aY 0 (dY (n:Int))).filter (λ(d:D)=>match d with | .int f=>hasB (n:Int) f | _=>false))=nats (memb n):=by
   unfold aY nats memb;rw[XF,List.filter_map];have c:((dY (n:Int):Int)-0).toNat=dY (n:Int):=by omega
   rw[c];have h2:(List.range (dY (n:Int))).filter ((λ(d:D)=>match d with | .int f=>hasB (n:Int) f | _=>false)∘λ(i:Nat)=>D.int (0+(i:Int)))=(List.range (dY (n:Int))).filter λf=>n.testBit f:=by
    refine List.filter_congr λi _=>?_
    show hasB (n:Int) (0+(i:Int))=_;rw[Int.zero_add,gR]
   rw[h2];refine ZP λi _=>?_
   rw[Int.zero_add]
  rw[e];exact q p _ hp (Ext.new hp) aa
theorem Ag(h:gS ds M Q):wSs cn nC (fin Q) (ae ["","",""] ds) M:=by
 obtain⟨d,fs,M',rfl,hm,hb,q⟩:=h;show wSs cn nC (fin Q) [some d,none,none] M;unfold nC;simp! only[List.set];unfold oV;simp! only[List.set];have go:∀(g:MH->Prop),g M'->aq g (.nm 2) (wSs cn dR) { nx:=wSs cn ie (fin Q),rt:=Q } (nats fs) [some d,some (.int 0),none] M':=by
  intro g hg;have c:∀(fs:Zj) (a:Nat) (v:Zz),(∀f∈fs,f<=1000)->Q (.int (fs.foldl (λa f=>a|||2 ^ f) a:Nat)) M'->aq g (.nm 2) (wSs cn dR) { nx:=wSs cn ie (fin Q),rt:=Q } (nats fs) [some d,~~~a,v] M':=by
   intro fs;induction fs with
   |nil=>
    intro a v _ q;rw[show nats []=[] from rfl,aq];unfold ie;simp! only[];exact q
   |cons f fs j=>
    intro a v hb q;show aq g (.nm 2) (wSs cn dR) _ (⇑f::nats fs) _ M';rw[aq];unfold dR;simp! only[List.set];have hf:=hb f (.head _);refine⟨⟨by omega (splitDisjunctions:=true),by omega (splitDisjunctions:=true),by decide⟩,hg,?_⟩;have e:Builtin.bitOr (a:Int) (1*2 ^ (f:Int).toNat)=((a|||2 ^ f:Nat):Int):=by
     rw[←vq];simp
    rw[e];exact j (a|||2 ^ f) _ (λx hx=>hb x (.tail _ hx)) q
  exact c fs 0 none hb q
 rcases hm with⟨rfl,rfl⟩ | ⟨a,rfl,hm⟩
 ·exact go _ trivial
 ·rcases hm with⟨b,rfl⟩ | ⟨k,hk,⟨b,rfl⟩ | ⟨b,rfl⟩⟩
  ·simp only[b]
   exact go _ b
  ·simp only[b,hk]
   exact go _ aa
  ·simp only[b,hk]
   exact go _ b
end
def CT.fit(m:Int):CT->Prop
 |.hav f=>0<=f/\f<m
 |.lck f=>0<=f/\f<m
 |.som n fs=>(1<=n/\n<=6)/\(0<fs.length/\fs.length<=6)/\fs.Nodup/\∀f∈fs,0<=f/\f<m
 |.led fs k=>(k<fs.length/\fs.length<=6)/\fs.Nodup/\∀f∈fs,0<=f/\f<m
theorem CT.fit_ok{m:Int}(hm:m<=120):∀{t:CT},t.fit m->t.ok
 |.hav f,h=>⟨h.1,Int.lt_of_lt_of_le h.2 hm⟩
 |.lck f,h=>⟨h.1,Int.lt_of_lt_of_le h.2 hm⟩
 |.som n fs,h=>⟨h.2.1,λf hf=>⟨(h.2.2.2 f hf).1,Int.lt_of_lt_of_le (h.2.2.2 f hf).2 hm⟩⟩
 |.led fs k,h=>⟨h.1,λf hf=>⟨(h.2.2 f hf).1,Int.lt_of_lt_of_le (h.2.2 f hf).2 hm⟩⟩
def ma:SpD:=λds M Q=>∃n:Int,ds=[.int n]/\(1<=n/\n<=6)/\Q (.bl true) M
def j9:SpD:=λds M Q=>∃(fs:Zi) (m:Int),ds=[.tup (intL fs),.int m]/\(0<fs.length/\fs.length<=6)/\fs.Nodup/\(∀f∈fs,0<=f/\f<m)/\∀M',Ext M M'->Q (.bl true) M'
def md:SpD:=λds M Q=>∃(t:CT) (m:Int),ds=[t.told,.int m]/\t.fit m/\∀M',Ext M M'->Q (.bl true) M'
def oy:SpD:=λds M Q=>∃(h m:Int) (p:Addr) (ts:List CT),ds=[.tup [.int h,.ref p],.int m]/\M p=some (.lst (ts.map CT.told))/\(0<=h/\h<m)/\ts.length<=6/\(∀t∈ts,t.fit m)/\∀M',Ext M M'->Q (.bl true) M'
def jK(j:Nat):Ss:=#v[.ret (.and (.fn 0 #v[.var 0]) (.and (.cmp .GtE (.var 0) (.int 1)) (.cmp .LtE (.var 0) (.glob j))))]
def ka:Ss:=#v[.ret (.and (.bi .all #v[.comp 1 (.fn 0 #v[.var 2,.var 1]) (.nm 2) (.seq (.var 0)) .no]) (.cmp .Eq (.lenSet (.var 0)) (.bi .len #v[.var 0])))]
def iK(j:Nat):Ss:=.cons (.ite (.or (.not (.val (.bi .isinst #v[.var 0,.ty "tuple"]))) (.or (.cmp .Lt (.bi .len #v[.var 0]) (.int 1)) (.cmp .Gt (.bi .len #v[.var 0]) (.glob j)))) #v[.ret (.bl false)] .nil) ka
def nD:Ss:=#v[.ret (.and (.cmp .Eq (.ix (.var 0) (.int 0)) (.str "lead")) (.and (.fn 0 #v[.ix (.var 0) (.int 1),.var 1]) (.fn 1 #v[.ix (.var 0) (.int 2),.bi .len #v[.ix (.var 0) (.int 1)]])))]
def jL:Ss:=.cons (.ite (.cmp .Eq (.ix (.var 0) (.int 0)) (.str "some")) #v[.ret (.and (.fn 2 #v[.ix (.var 0) (.int 1)]) (.fn 0 #v[.ix (.var 0) (.int 2),.var 1]))] .nil) nD
def jM:Ss:=.cons (.ite (.cmp .NotEq (.bi .len #v[.var 0]) (.int 3)) #v[.ret (.bl false)] .nil) jL
def c9:Ss:=.cons (.ite (.or (.cmp .Eq (.ix (.var 0) (.int 0)) (.str "have")) (.cmp .Eq (.ix (.var 0) (.int 0)) (.str "lack"))) #v[.ret (.and (.cmp .Eq (.bi .len #v[.var 0]) (.int 2)) (.fn 1 #v[.ix (.var 0) (.int 1),.var 1]))] .nil) jM
def du:Ss:=.cons (.ite (.or (.not (.val (.bi .isinst #v[.var 0,.ty "tuple"]))) (.cmp .Lt (.bi .len #v[.var 0]) (.int 2))) #v[.ret (.bl false)] .nil) c9
def oX:Ss:=#v[.ret (.bi .all #v[.comp 1 (.fn 0 #v[.var 3,.var 1]) (.nm 3) (.seq (.var 2)) .no])]
def oY(j:Nat):Ss:=.cons (.ite (.or (.not (.val (.bi .isinst #v[.var 2,.ty "list"]))) (.cmp .Gt (.bi .len #v[.var 2]) (.glob j))) #v[.ret (.bl false)] .nil) oX
def kO(j:Nat):Ss:=.cons (.set 2 (.ix (.var 0) (.int 1))) (oY j)
def nE(j:Nat):Ss:=.cons (.ite (.or (.not (.val (.bi .isinst #v[.var 0,.ty "tuple"]))) (.or (.cmp .NotEq (.bi .len #v[.var 0]) (.int 2)) (.not (.val (.fn 1 #v[.ix (.var 0) (.int 0),.var 1]))))) #v[.ret (.bl false)] .nil) (kO j)
theorem vv{g:MH->Prop}{t:Tgt}{c:WT}{e:WE}{F:List D->MH->Prop}{f:D->D}{ok:DS->Prop}{M0:MH}:∀{xs:List D}(h_:List D) (σ:DS) (M:MH),ok σ->Ext M0 M ->
  (∀x∈xs,∀σ h_ rest M,ok σ->Ext M0 M->(∀a M',ok a->Ext M0 M'->aE g t c e F rest (h_++[f x]) a M')->aE g t c e F (x::rest) h_ σ M)->(∀M',Ext M0 M'->F (h_++xs.map f) M')->aE g t c e F xs h_ σ M
 |[],h_,σ,M,_,b,_,q=>by
  rw[XB,ZA] at q;exact q M b
 |x::xs,h_,σ,M,h,b,st,q=>st x YA σ h_ xs M h b λa M' h' d=>vv (h_++[f x]) a M' h' d (λy hy=>st y (.tail _ hy)) (by simpa using q)
theorem jN(t:String):isT t t=true:=by unfold isT;simp
theorem pJ:∀(l:List D),blsD (l.map λ_=>D.bl true)=some (l.map λ_=>true)
 |[]=>rfl
 |a::l=>by rw[YM,blsD,pJ l];rfl
theorem vw{a:Type}(l:List a):(l.map λ_=>true).all id=true:=by simp
theorem sY{f:Int}{fs:Zi}:lW (intL (f::fs))=none:=rfl
theorem kb:∀(fs:Zi),ic (intL fs)=some fs
 |[]=>rfl
 |f::fs=>by
  show Option.map _ (ic (intL fs))=_;rw[kb fs];rfl
theorem vx{a:Type}[DecidableEq a]:∀(ks l:List a),(l++ks).Nodup->ks.foldl addK l=l++ks
 |[],l,_=>by simp
 |k::ks,l,h=>by
  have hk:k∉l:=λz=>by
   have:=(List.nodup_append.1 h).2.2 k z k (.head _)
   exact this rfl
  rw[List.foldl_cons,addK,if_neg hk,vx ks (l++[k]) (by simpa using h)];simp
theorem oZ{a:Type}[DecidableEq a](l:List a)(h:l.Nodup):(aO l).length=l.length:=by
 unfold aO;rw[vx l [] (by simpa using h)];simp
section
variable {cn:Cn}{ds:List D}{M:MH}{Q:DK}{j:Nat}
theorem vy(a:cn.F.getD 0 Yl=jr)(b:cn.G.getD j .non=.int 6)(h:ma ds M Q):wSs cn (jK j) (fin Q) (ae [""] ds) M:=by
 obtain⟨n,rfl,hn,q⟩:=h;show wSs cn (jK j) (fin Q) [some (.int n)] M;unfold jK;simp! only[a,b];refine⟨n,rfl,?_⟩;have c:decide ((1:Int)<=n)=true:=YX hn.1;have d:decide (n<=(6:Int))=true:=YX hn.2;simp only[c,d,aI];exact q
theorem tK(b:cn.F.getD 0 Yl=cC)(c:cn.G.getD j .non=.int 6)(h:j9 ds M Q):wSs cn (iK j) (fin Q) (ae ["",""] ds) M:=by
 obtain⟨fs,m,rfl,hl,g,hf,q⟩:=h;show wSs cn (iK j) (fin Q) [some (.tup (intL fs)),some (.int m)] M;unfold iK;simp! only[c,tyD,l6];refine⟨by decide,?_⟩;show Bif false _ _;have l:decide ((fs.length:Int)<1)=false:=ZS 'a';have n:decide ((6:Int)<(fs.length:Int))=false:=ZS 'a';simp only[l,n,ax];unfold ka;simp! only[b,List.cons_append,XF,List.replicate];refine bR (f:=λ_=>.bl true) (ok:=λσ=>∃v,σ=[some (.tup (intL fs)),some (.int m),v]) [] _ ⟨none,rfl⟩ ?_ ?_
 ·intro d hd σ h_ rest ⟨v,hv⟩ k
  subst hv;obtain⟨f,a,rfl⟩:=List.mem_map.1 hd;refine⟨f,m,rfl,?_⟩;have r:decide (0<=f)=true:=YX (hf f a).1;have h2:decide (f<m)=true:=YX (hf f a).2;rw[r,h2];exact⟨trivial,k _ ⟨_,rfl⟩⟩
 ·intro p hp
  rw[XF,aa];dsimp only;rw[pJ];dsimp only;rw[vw];simp only[aI,seqL];have u:=Ext.new (o:=MO.lst ((intL fs).map λ_=>D.bl true)) hp;generalize updM M p (MO.lst ((intL fs).map λ_=>D.bl true))=M1 at *;cases fs with
  |nil=>exact absurd hl.1 (by simp)
  |cons f fs=>
   simp only[lX,sY,kb,l6];refine⟨by have:=hl.2;omega,⟨rfl,rfl,(by decide:(0:Nat)<=30)⟩,?_⟩;rw[oZ _ g,ad,XH];exact q M1 u
theorem yA(g:cn.F.getD 0 Yl=j9)(d:cn.F.getD 1 Yl=cC)(p:cn.F.getD 2 Yl=ma)(h:md ds M Q):wSs cn du (fin Q) (ae ["",""] ds) M:=by
 obtain⟨t,m,rfl,ho,q⟩:=h;show wSs cn du (fin Q) [some t.told,some (.int m)] M;have b:decide (((1+1:Nat):Int)<2)=false:=by decide
 have c:decide (((1+1+1:Nat):Int)<2)=false:=by decide
 have l:(((1+1:Nat):Int)==2)=true:=by decide
 have o:(((1+1+1:Nat):Int)==3)=true:=by decide
 cases t with
 |hav f=>
  unfold du;simp_all! only[CT.told,tyD,YK,YW,Nat.zero_add];refine⟨by decide,?_⟩;simp only[jN,Bool.not_true,ax,b,c];unfold c9;simp_all! only[CT.told,at0,at1,at2,sh_,YK,YW,Nat.zero_add,d];simp only[aI,l];refine⟨f,m,rfl,?_⟩;have a:decide (0<=f)=true:=YX ho.1;have h2:decide (f<m)=true:=YX ho.2;rw[a,h2];exact q M (Ext.refl M)
 |lck f=>
  unfold du;simp_all! only[CT.told,tyD,YK,YW,Nat.zero_add];refine⟨by decide,?_⟩;simp only[jN,Bool.not_true,ax,b,c];unfold c9;simp_all! only[CT.told,at0,at1,at2,s_lh,s_ll,YK,YW,Nat.zero_add,d];simp only[aI,l];refine⟨f,m,rfl,?_⟩;have a:decide (0<=f)=true:=YX ho.1;have h2:decide (f<m)=true:=YX ho.2;rw[a,h2];exact q M (Ext.refl M)
 |som n fs=>
  unfold du;simp_all! only[CT.told,tyD,YK,YW,Nat.zero_add];refine⟨by decide,?_⟩;simp only[jN,Bool.not_true,ax,b,c];unfold c9;simp_all! only[CT.told,at0,at1,at2,s_sh,s_sl];unfold jM;simp_all! only[CT.told,at0,at1,at2,YK,YW,Nat.zero_add];simp only[Bool.not_true,ax,o];unfold jL;simp_all! only[CT.told,at0,at1,at2,s_ss,g,p];refine⟨n,rfl,ho.1,?_⟩;show Bif true _ _;exact⟨fs,m,rfl,ho.2.1,ho.2.2.1,ho.2.2.2,q⟩
 |led fs k=>
  unfold du;simp_all! only[CT.told,tyD,YK,YW,Nat.zero_add];refine⟨by decide,?_⟩;simp only[jN,Bool.not_true,ax,b,c];unfold c9;simp_all! only[CT.told,at0,at1,at2,s_dh,s_dl];unfold jM;simp_all! only[CT.told,at0,at1,at2,YK,YW,Nat.zero_add];simp only[Bool.not_true,ax,o];unfold jL;simp_all! only[CT.told,at0,at1,at2,s_ds];unfold nD;simp_all! only[CT.told,at0,at1,at2,s_dd,g,d,l6];refine⟨fs,m,rfl,⟨by have:=ho.1.1;omega,ho.1.2⟩,ho.2.1,ho.2.2,λM1 r=>?_⟩;show Bif true _ _;refine⟨k,(fs.length:Int),rfl,?_⟩;have a:decide (0<=(k:Int))=true:=YX 'a';have h2:decide ((k:Int)<(fs.length:Int))=true:=YX (by have:=ho.1.1;omega);rw[a,h2];exact q M1 r
theorem Ah(l:cn.F.getD 0 Yl=md)(n:cn.F.getD 1 Yl=cC)(o:cn.G.getD j .non=.int 6)(h:oy ds M Q):wSs cn (nE j) (fin Q) (ae ["","",""] ds) M:=by
 obtain⟨hd,m,p,ts,rfl,b,c,hl,hf,q⟩:=h;show wSs cn (nE j) (fin Q) [some (.tup [.int hd,.ref p]),some (.int m),none] M;unfold nE;simp_all! only[List.set,tyD,at0,at1,YK,YW,Nat.zero_add,n];refine⟨by decide,?_⟩;show Bif false _ _;show Bif false _ _;refine⟨hd,m,rfl,?_⟩;have r:decide (0<=hd)=true:=YX c.1;have h2:decide (hd<m)=true:=YX c.2;rw[r,h2];show wSs cn (kO j) (fin Q) _ M;unfold kO;simp_all! only[List.set,at0,at1];unfold oY;simp_all! only[List.set,tyD,b,o,ZG];refine⟨by decide,?_⟩;show Bif false _ _;have u:decide ((6:Int)<(ts.length:Int))=false:=ZS 'a';simp only[u,ax];unfold oX;simp_all! only[List.set,b,l,List.cons_append,XF,List.replicate];refine vv (f:=λ_=>.bl true) (M0:=M) (ok:=λσ=>∃v,σ=[some (.tup [.int hd,.ref p]),some (.int m),↑p,v]) [] _ M ⟨none,rfl⟩ (Ext.refl M) ?_ ?_
 ·intro d y σ h_ rest M1 ⟨v,hv⟩ a k
  subst hv;obtain⟨t,z,rfl⟩:=List.mem_map.1 y;exact⟨t,m,rfl,hf t z,λM2 g=>⟨(a.trans g) p _ b,k _ M2 ⟨_,rfl⟩ (a.trans g)⟩⟩
 ·intro M1 a p2 A
  rw[XF,aa];dsimp only;rw[pJ];dsimp only;rw[vw];exact q _ (a.then A)
end
def am(rs:Zh):List D:=rs.map D.ref
def bP(c:CA)(M:MH)(rs:Zh)(ts:List CT):Prop:=Paired (λr (t:CT)=>M r=some (t.obj c)) rs ts
theorem bP.ext{c:CA}{M M':MH}{rs:Zh}{ts:List CT}(e:Ext M M')(h:bP c M rs ts):bP c M' rs ts:=k8 (λr t q=>e r _ q) h
def fT(c:CA):SpD:=λds M Q=>∃(a:Addr) (h m:Int) (rs:Zh) (ts:List CT),ds=[.ref a,.int h,.int m]/\M a=some (.lst (am rs))/\bP c M rs ts/\(∀t∈ts,t.ok)/\∀M',Ext M M'->Q (.bl (ts.all (CT.carried h m))) M'
def cz(c:CA):SpD:=λds M Q=>∃(rs:Zh) (ts:List CT),ds=[.tup (am rs)]/\bP c M rs ts/\(∀t∈ts,t.ok)/\ts.length<=6/\∀p M',M p=none->Ext M M'->M' p=some (.lst (ts.flatMap CT.leans))->Q (.ref p) M'
def eL:Ss:=#v[.ret (.bl true)]
def eM:Ss:=#v[.ite (.not (.val (.mu "carried" (.var 3) #v[.var 1,.var 2]))) #v[.ret (.bl false)] .nil]
def gT:Ss:=.cons (.for (.nm 3) (.seq (.var 0)) eM) eL
def dC:Ss:=#v[.ret (.var 1)]
def dD:Ss:=#v[.expr (.mt .extend (.var 1) #v[.mu0 "leaning" (.var 2)])]
def iS:Ss:=.cons (.for (.nm 2) (.seq (.var 0)) dD) dC
def fU:Ss:=.cons (.set 1 (.lst .nil)) iS
theorem ww(t:CT):t.flds.lookup ("carried" : Str)=none:=by cases t<;>rfl
theorem wx(t:CT):t.flds.lookup ("leaning" : Str)=none:=by cases t<;>rfl
theorem Ai{t:CT}(h:t.ok):t.leans.length<=7:=by
 cases t with
 |hav f=>exact(by decide:(1:Nat)<=7)
 |lck f=>exact(by decide:(1:Nat)<=7)
 |som n fs=>
  show(fs.map (bN false)).length<=7;rw[ZG];have:=h.1.2;omega
 |led fs k=>
  show((fs.take k).map (bN true)++[bN false (fs.getD k 0)]).length<=7;rw[ZM,ZG,YU]
  have:=h.1.2
  simp only[YK,YW];omega
section
variable {cn:Cn}{c:CA}{ds:List D}{M:MH}{Q:DK}
theorem se(n:∀t:CT,cn.T (c.at t.kind) "carried" = some (bw c t.kind))(h:fT c ds M Q):wSs cn gT (fin Q) (ae ["","","",""] ds) M:=by
 obtain⟨a,x,m,j,o,rfl,k,hc,ho,q⟩:=h;show wSs cn gT (fin Q) [↑a,some (.int x),some (.int m),none] M;unfold gT;simp! only[List.set,k];have f:∀(rs:Zh) (ts:List CT) (v:Zz) (M1:MH),Ext M M1->bP c M rs ts->(∀t∈ts,t.ok)->(∀M',Ext M M'->Q (.bl (ts.all (CT.carried x m))) M') ->
   aq (λM'=>M' a=some (.lst (am j))) (.nm 3) (wSs cn eM) { nx:=wSs cn eL (fin Q),rt:=Q } (am rs) [↑a,some (.int x),some (.int m),v] M1:=by
  intro rs ts v M1 d hc;induction hc generalizing v M1 with
  |nil=>
   intro _ q;rw[show am []=[] from rfl,aq];unfold eL;simp! only[];exact q M1 d
  |@cons r t rs ts p _ u=>
   intro ho q;rw[show am (r::rs)=.ref r::am rs from rfl,aq];have l:M1 r=some (.ins (c.at t.kind) t.flds):=d r _ p;unfold eM;simp! only[List.set,l,n,ww];refine⟨trivial,r,t,x,m,rfl,ho t (.head _),rfl,l,λM2 g=>?_⟩;simp only[XT] at q;cases b:t.carried x m with
   |false=>
    rw[b] at q;exact q M2 (d.trans g)
   |true=>
    rw[b] at q;refine⟨(d.trans g) a _ k,u _ M2 (d.trans g) (λt' h'=>ho t' (.tail _ h')) ?_⟩;simpa using q
 exact f j o none M (Ext.refl M) hc ho q
theorem rb(l:∀t:CT,cn.T (c.at t.kind) "leaning" = some (bz c t.kind))(h:cz c ds M Q):wSs cn fU (fin Q) (ae ["","",""] ds) M:=by
 obtain⟨a,m,rfl,hc,ho,hl,q⟩:=h;show wSs cn fU (fin Q) [some (.tup (am a)),none,none] M;unfold fU;simp! only[List.set];intro p hp;unfold iS;simp! only[List.set];have b:∀(rs:Zh) (ts:List CT) (v:Zz) (M1:MH) (h_:List D),Ext M M1->M1 p=some (.lst h_)->h_.length+7*ts.length<=42->bP c M rs ts->(∀t∈ts,t.ok)->(∀M',Ext M M'->M' p=some (.lst (h_++ts.flatMap CT.leans))->Q (.ref p) M') ->
   aq (λ_=>True) (.nm 2) (wSs cn dD) { nx:=wSs cn dC (fin Q),rt:=Q } (am rs) [some (.tup (am a)),↑p,v] M1:=by
  intro rs ts v M1 h_ d f hl hc;induction hc generalizing v M1 h_ with
  |nil=>
   intro _ q;rw[show am []=[] from rfl,aq];unfold dC;simp! only[];exact q M1 d (by simpa using f)
  |@cons r t rs ts n _ o=>
   intro ho q;rw[show am (r::rs)=.ref r::am rs from rfl,aq];have g:M1 r=some (.ins (c.at t.kind) t.flds):=d r _ n;have j:=ho t (.head _);have B:=Ai j;unfold dD;simp! only[List.set,g,f,l,wx];refine⟨rfl,trivial,r,t,rfl,j,rfl,g,λp2 M2 C k u=>?_⟩;have y:=k p _ f;simp only[y,u];rw[YK] at hl;have G:(42:Nat)<=sizeLine:=by decide
   refine⟨by omega,trivial,?_⟩;have z:M p=none:=hp;have A:Ext M (updM M2 p (.lst (h_++t.leans))):=(d.trans k).put z;refine o _ _ (h_++t.leans) A aa (by rw[ZM];omega) (λt' h'=>ho t' (.tail _ h')) λM' e' g'=>q M' e' ?_
   rw[List.flatMap_cons,←ZC];exact g'
 exact b a m none _ [] (Ext.new hp) aa (by simp;omega) hc ho λM' e' g'=>q p M' hp e' (by simpa using g')
end
def bC(M:MH)(ps:Zh)(L:Nat->MO):Prop:=∀f r,ps[f]?=some r->M r=some (L f)
theorem bC.ext{M M':MH}{ps:Zh}{L:Nat->MO}(e:Ext M M')(h:bC M ps L):bC M' ps L:=λf r q=>e r _ (h f r q)
theorem Aj{b:Type}{ps:List b}{i j:Nat}{a:b}(nd:ps.Nodup)(c:ps[i]?=some a)(h2:ps[j]?=some a):i=j:=
 (List.getElem?_inj (YE.mp c).1 nd).1 (c.trans h2.symm)
theorem bC.put{M:MH}{ps:Zh}{L a:Nat->MO}{h:Nat}{r:Addr}{o:MO}(nd:ps.Nodup)(b:ps[h]?=some r)(s:bC M ps L)(d:a h=o)(g:∀f,f≠h->a f=L f):bC (updM M r o) ps a:=λf c q=>by
 by_cases e:f=h
 ·subst e
  rw[b] at q;cases q;rw[aa,d]
 ·have:c≠r:=λz=>by subst z;exact e (Aj nd q b)
  rw[az this,g f e];exact s f c q
theorem oz{ps:Zh}{f:Nat}{r:Addr}(h:ps[f]?=some r):atI (am ps) (f:Int)=↑r:=dk (by unfold am;rw[ZH,h];rfl)
theorem rc(m:Nat):(aY 0 (m:Int)).length=m:=by unfold aY;rw[ZG,ZL];omega
theorem db(fs:Zj):(nats fs).length=fs.length:=by unfold nats;rw[ZG]
theorem me{i:Nat}{c:WT}{e:WE}{o:MO}{F:List D->MH->Prop}(M0:MH)(hc:∀σ M Q,Q true M->c σ M Q)(k:∀σ M Q,(∀p,M p=none->Q (.ref p) (updM M p o))->e σ M Q):∀(xs:List D) (ps:Zh) (σ:DS) (M:MH),Ext M0 M->ps.Nodup->(∀p∈ps,M0 p=none/\M p=some o) ->
  (∀g M',Ext M0 M'->g.Nodup->g.length=ps.length+xs.length->(∀p∈g,M0 p=none/\M' p=some o)->F (am g) M')->aE (λ_=>True) (.nm i) c e F xs (am ps) σ M
 |[],ps,σ,M,j,nd,hp,q=>q ps M j nd rfl hp
 |x::xs,ps,σ,M,j,nd,hp,q=>by
  rw[aE];show c _ M _;refine hc _ _ _ ?_;rw[aI];refine k _ _ _ λp hn=>⟨trivial,?_⟩
  have:am ps++[D.ref p]=am (ps++[p]):=by unfold am;rw[ZN];rfl
  rw[this];refine me M0 hc k xs (ps++[p]) _ _ (j.then hn) ?_ ?_ ?_
  ·rw[List.nodup_append]
   refine⟨nd,by simp,λa ha b hb z=>?_⟩;have hb:b=p:=by simpa using hb
   subst hb;subst z
   have:=(hp a ha).2
   rw[hn] at this;cases this
  ·intro a ha
   rw[YD] at ha;rcases ha with ha | ha
   ·exact⟨(hp a ha).1,(Ext.new hn) a _ (hp a ha).2⟩
   ·have ha:a=p:=by simpa using ha
    subst ha;exact⟨j.free hn,aa⟩
  ·intro g M' a b d f
   refine q g M' a b ?_ f;rw[d,ZM,YK,YK,YW];omega
def bU(a:Zj)(k f:Nat):List Nat:=(List.range k).filter λr=>decide (a[r]?=some f)
theorem rf{a:Zj}{k h:Nat}(f:Nat)(e:a[k]?=some h):bU a (k+1) f=bU a k f++(if f=h then[k] else[]):=by
 unfold bU;rw[List.range_succ,List.filter_append];congr 1;by_cases q:f=h
 ·subst q;simp[e]
 ·have:h≠f:=λz=>q z.symm
  simp[e,q,this]
theorem vz(a:Zj)(k f:Nat):(bU a k f).length<=k:=by
 have:=List.length_filter_le (λr=>decide (a[r]?=some f)) (List.range k)
 rw[ZL] at this;exact this
def fV:SpD:=λds M Q=>∃(m:Nat) (a:Zj),ds=[⇑m,.tup (nats a)]/\m<=1000/\a.length<=1000/\(∀h∈a,h<m) /\
 ∀p ps M',M p=none->Ext M M'->M' p=some (.lst (am ps))->ps.length=m->bC M' ps (λf=>.lst (nats (bU a a.length f)))->Q (.ref p) M'
def dE:Ss:=#v[.ret (.var 2)]
def dF:Ss:=#v[.expr (.mt .append (.ix (.var 2) (.var 4)) #v[.var 3])]
def iT:Ss:=.cons (.for (.tp [3,4]) (.enum #v[.var 1]) dF) dE
def fW:Ss:=.cons (.setC 2 1 (.lst .nil) (.nm 5) (.rg1 #v[.var 0]) .no) iT
def cc:Ss:=#v[.ret (.comp 1 (.bk .list #v[.var 7]) (.nm 7) (.seq (.var 2)) .no)]
def dG:Ss:=#v[.ite (.not (.val (.var 6))) #v[.putIx (.ix (.var 2) (.var 5)) (.var 3) (.bl true)] .nil]
def dH:Ss:=#v[.for (.tp [5,6]) (.seq (.var 4)) dG]
def iU:Ss:=.cons (.for (.tp [3,4]) (.enum #v[.var 1]) dH) cc
def cK:Ss:=.cons (.setC 2 1 .dnew (.nm 7) (.rg1 #v[.var 0]) .no) iU
def CT.leanP:CT->List (Bool×Int)
 |.hav f=>[(false,f)]
 |.lck f=>[(true,f)]
 |.som _ fs=>fs.map λf=>(false,f)
 |.led fs k=>(fs.take k).map (λf=>(true,f))++[(false,fs.getD k 0)]
def pairD(x:Bool×Int):D:=bN x.1 x.2
theorem BM(t:CT):t.leans=t.leanP.map pairD:=by
 cases t with
 |hav f=>rfl
 |lck f=>rfl
 |som n fs=>show fs.map (bN false)=(fs.map λf=>(false,f)).map pairD;rw[ZO];rfl
 |led fs k=>show(fs.take k).map (bN true)++[bN false (fs.getD k 0)]=((fs.take k).map (λf=>(true,f))++[(false,fs.getD k 0)]).map pairD;rw[ZN,ZO];rfl
theorem yC(ts:List CT):ts.flatMap CT.leans=(ts.flatMap CT.leanP).map pairD:=by
 rw[List.map_flatMap];congr 1
 funext t;exact BM t
theorem getD_mem{fs:Zi}{k:Nat}(h:k<fs.length):fs.getD k 0∈fs:=by
 have:fs.getD k 0=fs[k]:=by simp[List.getD,ZE h]
 rw[this];exact List.getElem_mem h
theorem sZ{m:Int}{t:CT}(h:t.fit m):∀x∈t.leanP,0<=x.2/\x.2<m:=by
 cases t with
 |hav f=>
  intro x hx;have:x=(false,f):=by simpa [CT.leanP] using hx
  subst this;exact h
 |lck f=>
  intro x hx;have:x=(true,f):=by simpa [CT.leanP] using hx
  subst this;exact h
 |som n fs=>
  intro x hx;obtain⟨f,hf,rfl⟩:=List.mem_map.1 hx;exact h.2.2.2 f hf
 |led fs k=>
  intro x hx;rcases YD.1 hx with hx | hx
  ·obtain⟨f,hf,rfl⟩:=List.mem_map.1 hx
   exact h.2.2 f (List.mem_of_mem_take hf)
  ·have:x=(false,fs.getD k 0):=by simpa using hx
   subst this;exact h.2.2 _ (getD_mem h.1.1)
def aS(l:Zs)(f:Nat):Bool:=decide ((false,(f:Int))∈l)
def bt(a:List (List (Bool×Int)))(k f:Nat):List Nat:=(List.range k).filter λr=>aS (a.getD r []) f
theorem yD{a:List (List (Bool×Int))}{k:Nat}{l:Zs}(f:Nat)(e:a[k]?=some l):bt a (k+1) f=bt a k f++(if aS l f=true then[k] else[]):=by
 unfold bt;rw[List.range_succ,List.filter_append];congr 1;have b:a.getD k []=l:=by rw[List.getD_eq_getElem?_getD,e];rfl
 rw[List.filter_cons,b,List.filter_nil]
theorem vA{a:List (List (Bool×Int))}{k f r:Nat}(h:r∈bt a k f):r<k:=ZY.1 (ZX.1 h).1
theorem BN(a:List (List (Bool×Int)))(k f:Nat):(bt a k f).length<=k:=by
 have:=List.length_filter_le (λr=>aS (a.getD r []) f) (List.range k)
 rw[ZL] at this;exact this
def rowK(rs:Zj):List (Key×D):=rs.map λ(r:Nat)=>(.inl (r:Int),.bl true)
theorem Ak(rs:Zj):keysOf (rowK rs)=nats rs:=by unfold keysOf rowK nats;rw[ZO];rfl
theorem BO(rs:Zj)(r:Nat):((rowK rs).any λb=>decide (b.1=(.inl (r:Int):Key)))=decide (r∈rs):=by
 induction rs with
 |nil=>simp[rowK]
 |cons a rs c=>
  have:rowK (a::rs)=(.inl (a:Int),.bl true)::rowK rs:=rfl
  rw[this,XJ,c];by_cases e:a=r
  ·subst e;simp
  ·have d:r≠a:=λz=>e z.symm
   have h2:¬((a:Int)=(r:Int)):=by omega
   simp[d,h2]
theorem vB(rs:Zj)(r:Nat):putD (rowK rs) (.inl (r:Int)) (.bl true)=rowK (if r∈rs then rs else rs++[r]):=by
 unfold putD;rw[BO];by_cases e:r∈rs
 ·rw[if_pos (YX e),if_pos e]
  unfold rowK;rw[ZO];refine ZP λa _=>?_
  show(if(Sum.inl (a:Int):Key)=.inl (r:Int) then _ else _)=_;split<;>rfl
 ·rw[if_neg (by simpa using e),if_neg e]
  unfold rowK;rw[ZN];rfl
def fX:SpD:=λds M Q=>∃(m:Nat) (pl:Addr) (rs:Zh) (a:List (List (Bool×Int))),ds=[⇑m,.ref pl]/\M pl=some (.lst (am rs))/\rs.length=a.length/\(∀(k:Nat) (r:Addr) (l:Zs),rs[k]?=some r->a[k]?=some l->M r=some (.lst (l.map pairD)))/\m<=1000/\a.length<=1000/\(∀l∈a,∀x∈l,0<=x.2/\x.2<(m:Int)) /\
 ∀p ps M',M p=none->Ext M M'->M' p=some (.lst (am ps))->ps.length=m->bC M' ps (λf=>.lst (nats (bt a a.length f)))->Q (.ref p) M'
section
variable {cn:Cn}{ds:List D}{M:MH}{Q:DK}
theorem rg(h:fV ds M Q):wSs cn fW (fin Q) (ae ["","","","",""] ds) M:=by
 obtain⟨m,a,rfl,hm,hl,z,q⟩:=h;show wSs cn fW (fin Q) [~~~m,some (.tup (nats a)),none,none,none] M;unfold fW;simp! only[List.cons_append,XF,List.replicate];refine⟨⟨by omega,by omega⟩,?_⟩;refine me (o:=.lst []) M (λ_ _ _ h=>h) (λ_ _ _ h=>h) (aY 0 (m:Int)) [] _ M (Ext.refl M) .nil (λp hp=>nomatch hp) ?_;intro ps M1 A nd B j p hp;rw[rc,YW,Nat.zero_add] at B;have G:M p=none:=A.free hp;have J:∀r∈ps,r≠p:=λr b=>bG (j r b).2 hp
 have K:Ext M (updM M1 p (.lst (am ps))):=A.then hp;have L:updM M1 p (MO.lst (am ps)) p=some (.lst (am ps)):=aa;have s2:bC (updM M1 p (MO.lst (am ps))) ps (λf=>.lst (nats (bU a 0 f))):=λf r b=>(Ext.new hp) r _ (j r (YV b)).2
 generalize updM M1 p (MO.lst (am ps))=M2 at *;unfold iT;simp! only[List.set];have l:∀(rest:Zj) (k:Nat) (n u:Zz) (c:MH),a.drop k=rest->k<=a.length->Ext M c->c p=some (.lst (am ps))->bC c ps (λf=>.lst (nats (bU a k f))) ->
   aq (λ_=>True) (.tp [3,4]) (wSs cn dF) { nx:=wSs cn dE (fin Q),rt:=Q } (bp (k:Int) (nats rest)) [~~~m,some (.tup (nats a)),↑p,n,u] c:=by
  intro rest;induction rest with
  |nil=>
   intro k n u c hd O y d g;rw[show nats []=[] from rfl,bp,aq];unfold dE;simp! only[];have hk:a.length<=k:=by
    have:=congrArg List.length hd
    rw[YZ,YW] at this;omega
   obtain rfl:k=a.length:=by omega
   exact q p ps c G y d B g
  |cons h rest P=>
   intro k n u c hd O y d g;have hk:a[k]?=some h:=by
    have:=congrArg (·[0]?) hd
    simpa using this
   have R:a.drop (k+1)=rest:=by
    have:=congrArg (List.drop 1) hd
    rw[List.drop_drop] at this;simpa using this
   have GK:h∈a:=YV hk;have S:k<a.length:=(YE.mp hk).1;obtain⟨r,b⟩:∃r,ps[h]?=some r:=⟨ps[h]'(by have:=z h GK;omega),ZE (by have:=z h GK;omega)⟩;have C:=YV b;rw[show nats (h::rest)=⇑h::nats rest from rfl,bp,aq];unfold dF;simp! only[List.set,d,oz b,g h r b,db];have hsz:(1000:Nat)<sizeLine:=by decide
   have T:=vz a k h;refine⟨rfl,rfl,by omega,trivial,?_⟩;rw[show((k:Int)+1)=((k+1:Nat):Int) by simp];refine P (k+1) _ _ _ R S (y.put (j r C).1) ?_ ?_
   ·rw[az (J r C).symm];exact d
   ·refine bC.put nd b g ?_ ?_
    ·show MO.lst _=_
     rw[rf h hk,if_pos rfl];unfold nats;rw[ZN];rfl
    ·intro f hf
     show MO.lst _=_;rw[rf f hk,if_neg hf,ZA]
 exact l a 0 none none M2 rfl (YO _) K L s2
def fY(a:List (List (Bool×Int)))(k:Nat)(b:Zs)(f:Nat):MO:=.dic (rowK (bt a k f++(if aS b f=true then[k] else[])))
theorem wy(a:Zs)(g:Int)(f:Nat):aS (a++[(true,g)]) f=aS a f:=by
 unfold aS;congr 1;simp
theorem wz(a:Zs)(f:Nat):aS (a++[(false,(f:Int))]) f=true:=by
 unfold aS;simp
theorem vC(a:Zs){g f:Nat}(h:f≠g):aS (a++[(false,(g:Int))]) f=aS a f:=by
 unfold aS;congr 1;have:¬(f:Int)=(g:Int):=by omega
 simp[this]
theorem Al(a:List (List (Bool×Int)))(k:Nat)(b:Zs)(g:Nat):MO.dic (putD (rowK (bt a k g++(if aS b g=true then[k] else[]))) (.inl (k:Int)) (.bl true))=fY a k (b++[(false,(g:Int))]) g:=by
 unfold fY;rw[vB,wz,if_pos rfl];have hk:k∉bt a k g:=λz=>absurd (vA z) (ZV _)
 by_cases e:aS b g=true
 ·rw[if_pos e,if_pos (by simp)]
 ·rw[if_neg e,ZA,if_neg hk]
theorem rh(h:fX ds M Q):wSs cn cK (fin Q) (ae ["","","","","","",""] ds) M:=by
 obtain⟨m,pl,rs,a,rfl,Ij,IY,Ks,hm,hl,hf,q⟩:=h;show wSs cn cK (fin Q) [~~~m,↑pl,none,none,none,none,none] M;unfold cK;simp! only[List.cons_append,XF,List.replicate];refine⟨⟨by omega,by omega⟩,?_⟩;refine me (o:=.dic []) M (λ_ _ _ h=>h) (λ_ _ _ h=>h) (aY 0 (m:Int)) [] _ M (Ext.refl M) .nil (λp hp=>nomatch hp) ?_;intro ps M1 e1 nd n_ Im p hp;rw[rc,YW,Nat.zero_add] at n_;have HW:M p=none:=e1.free hp;have F_:∀r∈ps,r≠p:=λr C=>bG (Im r C).2 hp
 have e2:Ext M (updM M1 p (.lst (am ps))):=e1.then hp;have g2:updM M1 p (MO.lst (am ps)) p=some (.lst (am ps)):=aa;have s2:bC (updM M1 p (MO.lst (am ps))) ps (fY a 0 []):=λf r C=>(Ext.new hp) r _ (Im r (YV C)).2
 generalize updM M1 p (MO.lst (am ps))=M2 at *;unfold iU;simp! only[List.set,e2 pl _ Ij];have U:∀(J K j n:Zz) (c:MH),Ext M c->c p=some (.lst (am ps))->bC c ps (fY a a.length [])->wSs cn cc (fin Q) [~~~m,↑pl,↑p,J,K,j,n] c:=by
  intro J K j n c L S V;unfold cc;simp! only[S,List.cons_append,XF,List.replicate,dBk,dP];have ac:∀(rest:Zh) (k:Nat) (y:Zh) (v:Zz) (d:MH),ps.drop k=rest->k<=ps.length->y.length=k->Ext c d->bC d y (λf=>.lst (nats (bt a a.length f))) ->
    aE (λM'=>M' p=some (.lst (am ps))) (.nm 7) (wTo cn .no) (wE cn (.bk .list (.cons (.var 7) .nil))) (λds M'=>∀p,M' p=none->Q (.ref p) (updM M' p (.lst ds))) (am rest) (am y) [~~~m,↑pl,↑p,J,K,j,n,v] d:=by
   intro rest;induction rest with
   |nil=>
    intro k y v d hd LI hq u G;rw[show am []=[] from rfl,aE];intro p2 O;have hk:ps.length<=k:=by
     have:=congrArg List.length hd
     rw[YZ,YW] at this;omega
    exact q p2 y _ ((L.trans u).free O) ((L.trans u).then O) aa 'a' (G.ext (Ext.new O))
   |cons r rest ih=>
    intro k y v d hd LI hq u G;have hk:ps[k]?=some r:=by
     have:=congrArg (·[0]?) hd
     simpa using this
    have Hh:ps.drop (k+1)=rest:=by
     have:=congrArg (List.drop 1) hd
     rw[List.drop_drop] at this;simpa using this
    have LJ:k<ps.length:=(YE.mp hk).1;have Se:d r=some (.dic (rowK (bt a a.length k))):=by
     rw[u r _ (V k r hk)];unfold fY;rw[if_neg (by unfold aS;simp),ZA]
    rw[show am (r::rest)=.ref r::am rest from rfl,aE];simp! only[List.set,dBk,dP,Se,rdD,Ak];intro p2 O;refine⟨(u.trans (Ext.new O)) p _ S,?_⟩;have:am y++[D.ref p2]=am (y++[p2]):=by unfold am;rw[ZN];rfl
    rw[this];refine ih (k+1) (y++[p2]) _ _ Hh LJ (by rw[ZM,hq];rfl) (u.then O) λf P A=>?_
    by_cases Sg:f<y.length
    ·rw[ZF Sg] at A
     exact(Ext.new O) P _ (G f P A)
    ·rw[ZI 'a'] at A
     have hz:f-y.length=0:=by
      have:=(YE.mp A).1
      simp only[YK,YW] at this;omega
     rw[hz] at A;have:p2=P:=by simpa using A
     subst this;obtain rfl:f=k:=by omega
     exact aa
  exact ac ps 0 [] none c rfl (YO _) rfl (Ext.refl c) (λf r C=>by simp at C)
 have outer:∀(rest:Zh) (k:Nat) (J K j n:Zz) (c:MH),rs.drop k=rest->k<=rs.length->Ext M c->c p=some (.lst (am ps))->bC c ps (fY a k []) ->
   aq (λM'=>M' pl=some (.lst (am rs))) (.tp [3,4]) (wSs cn dH) { nx:=wSs cn cc (fin Q),rt:=Q } (bp (k:Int) (am rest)) [~~~m,↑pl,↑p,J,K,j,n] c:=by
  intro rest;induction rest with
  |nil=>
   intro k J K j n c hd LI L S V;rw[show am []=[] from rfl,bp,aq];have hk:rs.length<=k:=by
    have:=congrArg List.length hd
    rw[YZ,YW] at this;omega
   obtain rfl:k=a.length:=by omega
   exact U J K j n c L S V
  |cons r rest ih=>
   intro k J K j n c hd LI L S V;have hk:rs[k]?=some r:=by
    have:=congrArg (·[0]?) hd
    simpa using this
   have Hh:rs.drop (k+1)=rest:=by
    have:=congrArg (List.drop 1) hd
    rw[List.drop_drop] at this;simpa using this
   have LJ:k<rs.length:=(YE.mp hk).1;obtain⟨l,hlk⟩:∃l,a[k]?=some l:=⟨a[k]' 'a',ZE 'a'⟩;have C:=Ks k r l hk hlk;have Oo:=hf l (YV hlk);rw[show am (r::rest)=.ref r::am rest from rfl,bp,aq];unfold dH;simp! only[List.set,L r _ C];refine⟨rfl,?_⟩;have R:∀(T B:Zs) (j n:Zz) (d:MH),l=B++T->Ext M d->d p=some (.lst (am ps))->bC d ps (fY a k B)->∀(N:DS->MH->Prop),
     (∀w5 w6 M5,Ext M M5->M5 p=some (.lst (am ps))->bC M5 ps (fY a k l)->N [~~~m,↑pl,↑p,~~~k,↑r,w5,w6] M5) ->
     ∀E:EndsD,E.nx=N ->
     aq (λM'=>M' r=some (.lst (l.map pairD))) (.tp [5,6]) (wSs cn dG) E (T.map pairD) [~~~m,↑pl,↑p,~~~k,↑r,j,n] d:=by
    intro T;induction T with
    |nil=>
     intro B j n d W u Y G N hN E hE;rw[ZA] at W;subst W;rw[XB,aq,hE];exact hN j n d u Y G
    |cons x T Kn=>
     intro B j n d W u Y G N hN E hE;obtain⟨b,gi⟩:=x;have hx:=Oo (b,gi) (by rw[W];simp);obtain⟨g,rfl⟩:∃g:Nat,gi=(g:Int):=⟨gi.toNat,by have:=hx.1;simp only at this;omega⟩;have Si:g<ps.length:=by have:=hx.2;simp only at this;omega
     obtain⟨z,hz⟩:∃z,ps[g]?=some z:=⟨ps[g],ZE Si⟩;have Ql:=YV hz;have LL:l=(B++[(b,(g:Int))])++T:=by rw[W];simp
     rw[YM,show pairD (b,(g:Int))=.tup [⇑g,.bl b] from rfl,aq];unfold dG;cases b with
     |true=>
      simp! only[List.set,Bool.not_true];refine⟨rfl,u r _ C,Kn _ _ _ d LL u Y (λf P A=>?_) N hN E hE⟩;rw[G f P A];unfold fY;rw[wy]
     |false=>
      have Sj:d z=some (.dic (rowK (bt a k g++(if aS B g=true then[k] else[])))):=G g z hz;simp! only[List.set,Bool.not_false,Y,oz hz,Sj];have hsz:(2000:Nat)<sizeLine:=by decide
      have G_:=BN a k g;refine⟨rfl,?_,?_⟩
      ·unfold rowK
       rw[ZG,ZM];have:(if aS B g=true then[k] else[]).length<=1:=by split<;>simp
       omega
      have Z:=u.put (o:=.dic (putD (rowK (bt a k g++(if aS B g=true then[k] else[]))) (.inl (k:Int)) (.bl true))) (Im z Ql).1;refine⟨Z r _ C,Kn _ _ _ _ LL Z ?_ (bC.put nd hz G ?_ ?_) N hN E hE⟩
      ·rw[az (F_ z Ql).symm];exact Y
      ·exact(Al a k B g).symm
      ·intro f Sk
       unfold fY;rw[vC B Sk]
   refine R l [] j n c rfl L S V _ ?_ _ rfl;intro w5 w6 M5 Z g5 s5;refine⟨Z pl _ Ij,?_⟩;rw[show((k:Int)+1)=((k+1:Nat):Int) by simp];refine ih (k+1) _ _ _ _ M5 Hh LJ Z g5 λf P A=>?_
   rw[s5 f P A];unfold fY;rw[yD f hlk,if_neg (show ¬aS [] f=true by unfold aS;simp),ZA]
 exact outer rs 0 none none none none M2 rfl (YO _) e2 g2 s2
end
abbrev Row:=Nat×List CT
abbrev Zy:=List Row
structure RowsOk (m:Nat) (a_:Zy):Prop where
 most:m<=120
 few:a_.length<=400
 fit:∀x∈a_,x.1<m/\x.2.length<=6/\∀t∈x.2,t.fit (m:Int)
def bJ(x:Row):List (Bool×Int):=x.2.flatMap CT.leanP
def aC(a_:Zy):List Nat:=a_.map (·.1)
def aJ(w_:Zt):List D:=w_.map λrs=>.tup (am rs)
def hid(a:Addr)(M:MH):MH:=λb=>if b=a then none else M b
theorem jt(a:Addr)(M:MH)(o:MO):hid a (updM M a o)=hid a M:=by
 funext b;unfold hid updM;split<;>rfl
theorem vD{a b:Addr}{M:MH}(h:b≠a):hid a M b=M b:=if_neg h
theorem bu{a:Addr}{M M':MH}(e:Ext M M'):Ext (hid a M) (hid a M'):=λb o q=>by
 unfold hid at q ⊢;split at q
 ·cases q
 ·rename_i n
  rw[if_neg n];exact e b o q
theorem ip(a:Addr)(M:MH):Ext (hid a M) M:=λb o q=>by
 unfold hid at q;split at q
 ·cases q
 ·exact q
theorem fA{a b S:Addr}{M:MH}{fs:List (Str×D)}{xs:List D}(ha:M a=some (.ins S fs))(hb:M b=some (.lst xs)):hid a M b=some (.lst xs):=by
 rw[vD]
 ·exact hb
 ·intro z;subst z;rw[ha] at hb;cases hb
theorem Ec{a b S:Addr}{M M':MH}{fs:List (Str×D)}{o:MO}(ha:M a=some (.ins S fs))(hb:M b=none)(h:M' b=some o):hid a M' b=some o:=by
 rw[vD]
 ·exact h
 ·intro z;subst z;rw[ha] at hb;cases hb
def aG(M:MH)(v_:List D)(a_:Zy):Prop:=Paired (λd (x:Row)=>∃q,d=.tup [⇑x.1,.ref q]/\M q=some (.lst (x.2.map CT.told))) v_ a_
theorem aG.ext{M M':MH}{v_:List D}{a_:Zy}(e:Ext M M')(h:aG M v_ a_):aG M' v_ a_:=k8 (λ_ _ ⟨q,a,b⟩=>⟨q,a,e q _ b⟩) h
theorem aG.hid{a S:Addr}{M:MH}{fs:List (Str×D)}{v_:List D}{a_:Zy}(ha:M a=some (.ins S fs))(h:aG M v_ a_):aG (SH.hid a M) v_ a_:=k8 (λ_ _ ⟨q,a,b⟩=>⟨q,a,fA ha b⟩) h
def eO(c:CA)(M:MH)(w_:Zt)(a_:Zy):Prop:=Paired (λrs (x:Row)=>bP c M rs x.2) w_ a_
theorem eO.ext{c:CA}{M M':MH}{w_:Zt}{a_:Zy}(e:Ext M M')(h:eO c M w_ a_):eO c M' w_ a_:=k8 (λ_ _ q=>bP.ext e q) h
def dc(m:Nat)(a_:Zy)(w_:Zt)(p1 p2 p3:Addr):List (Str×D):=[("many",⇑m),("heads",.tup (nats (aC a_))),("conds",.tup (aJ w_)),("headed",.ref p1),("leanings",.ref p2),("helped",.ref p3)]
def oA(M:MH)(ps:Zh)(a_:Zy):Prop:=ps.length=a_.length/\∀(k:Nat) (r:Addr) (x:Row),ps[k]?=some r->a_[k]?=some x->M r=some (.lst ((bJ x).map pairD))
structure SheetAt (c:CA) (S:Addr) (M:MH) (a:Addr) (m:Nat) (a_:Zy):Prop where
 ok:RowsOk m a_
 ex:∃(w_:Zt) (p1 p2 p3:Addr) (Hf G4 Hm:Zh),M a=some (.ins S (dc m a_ w_ p1 p2 p3))/\eO c M w_ a_ /\
  (M p1=some (.lst (am Hf))/\Hf.length=m/\bC M Hf (λf=>.lst (nats (bU (aC a_) a_.length f)))) /\
  (M p2=some (.lst (am G4))/\oA M G4 a_) /\
  (M p3=some (.lst (am Hm))/\Hm.length=m/\bC M Hm (λf=>.lst (nats (bt (a_.map bJ) a_.length f))))
theorem SheetAt.ext{c:CA}{S:Addr}{M M':MH}{a:Addr}{m:Nat}{a_:Zy}(e:Ext M M')(h:SheetAt c S M a m a_):SheetAt c S M' a m a_:=by
 obtain⟨ok,w_,p1,p2,p3,Hf,G4,Hm,d,h2,⟨f,g,j⟩,⟨l,b⟩,n,o,p⟩:=h;exact⟨ok,w_,p1,p2,p3,Hf,G4,Hm,e _ _ d,h2.ext e,⟨e _ _ f,g,j.ext e⟩,⟨e _ _ l,b.1,λk r x u y=>e _ _ (b.2 k r x u y)⟩,e _ _ n,o,p.ext e⟩
def iq:List Str:=["many","heads","conds","headed","leanings","helped"]
def bO(c:CA)(S:Addr):SpD:=λds M Q=>∃(a:Addr) (m:Nat) (b:Addr) (v_:List D) (a_:Zy),ds=[.ref a,⇑m,.ref b]/\M a=some (.ins S [])/\M b=some (.lst v_)/\aG M v_ a_/\RowsOk m a_ /\
 ∀M',ExtBut a M M'->SheetAt c S M' a m a_->Q .non M'
def fB(c:CA)(S:Addr):SpD:=λds M Q=>∃(a:Addr) (m:Nat) (a_:Zy),ds=[.ref a]/\SheetAt c S M a m a_/\Q (⇑m) M
def iu(c:CA)(S:Addr):SpD:=λds M Q=>∃(a:Addr) (m:Nat) (a_:Zy) (f:Nat),ds=[.ref a,⇑f]/\SheetAt c S M a m a_/\f<m/\∀p M',M p=none->Ext M M'->M' p=some (.lst (nats (bU (aC a_) a_.length f)))->Q (.ref p) M'
def de(c:CA)(S:Addr):SpD:=λds M Q=>∃(a:Addr) (m:Nat) (a_:Zy) (f:Nat),ds=[.ref a,⇑f]/\SheetAt c S M a m a_/\f<m/\∀p M',M p=none->Ext M M'->M' p=some (.lst (nats (bt (a_.map bJ) a_.length f)))->Q (.ref p) M'
def gU(c:CA)(S:Addr):SpD:=λds M Q=>∃(a:Addr) (m:Nat) (a_:Zy) (r:Nat) (x:Row),ds=[.ref a,⇑r]/\SheetAt c S M a m a_/\a_[r]?=some x/\Q (⇑x.1) M
def iw(c:CA)(S:Addr):SpD:=λds M Q=>∃(a:Addr) (m:Nat) (a_:Zy) (r:Nat) (x:Row),ds=[.ref a,⇑r]/\SheetAt c S M a m a_/\a_[r]?=some x/\∀p rs M',M p=none->Ext M M'->M' p=some (.lst (am rs))->bP c M' rs x.2->Q (.ref p) M'
def dJ:Ss:=#v[.ret (.fld (.var 0) "many")]
def dL:Ss:=#v[.ret (.bk .list #v[.ix (.fld (.var 0) "headed") (.var 1)])]
def cp:Ss:=#v[.ret (.bk .list #v[.ix (.fld (.var 0) "helped") (.var 1)])]
def eQ:Ss:=#v[.ret (.ix (.fld (.var 0) "heads") (.var 1))]
def dM:Ss:=#v[.ret (.bk .list #v[.ix (.fld (.var 0) "conds") (.var 1)])]
section
variable {m:Nat}{a_:Zy}{w_:Zt}{p1 p2 p3:Addr}
theorem Ed:(dc m a_ w_ p1 p2 p3).lookup ("many" : Str)= ~~~m:=rfl
theorem BP:(dc m a_ w_ p1 p2 p3).lookup ("heads" : Str)=some (.tup (nats (aC a_))):=rfl
theorem BQ:(dc m a_ w_ p1 p2 p3).lookup ("conds" : Str)=some (.tup (aJ w_)):=rfl
theorem Am:(dc m a_ w_ p1 p2 p3).lookup ("headed" : Str)=↑p1:=rfl
theorem An:(dc m a_ w_ p1 p2 p3).lookup ("helped" : Str)=↑p3:=rfl
end
section
variable {cn:Cn}{c:CA}{S:Addr}{ds:List D}{M:MH}{Q:DK}
theorem wA(b:∀f∈iq,cn.O S f)(h:fB c S ds M Q):wSs cn dJ (fin Q) (ae [""] ds) M:=by
 obtain⟨a,m,a_,rfl,⟨ok,w_,p1,p2,p3,Hf,G4,Hm,d,-⟩,q⟩:=h;show wSs cn dJ (fin Q) [↑a] M;unfold dJ;simp! only[d,Ed];exact⟨b _ (by rfl'),q⟩
theorem wB(b:∀f∈iq,cn.O S f)(h:iu c S ds M Q):wSs cn dL (fin Q) (ae ["",""] ds) M:=by
 obtain⟨a,m,a_,f,rfl,⟨ok,w_,p1,p2,p3,Hf,G4,Hm,d,-,⟨g,k,j⟩,-,-⟩,hf,q⟩:=h;show wSs cn dL (fin Q) [↑a,~~~f] M;have hz:Hf[f]?=some (Hf[f]' 'a'):=ZE 'a';unfold dL;simp! only[d,Am,g,oz hz,dBk,dP,j f _ hz,rdD,rdL];exact⟨b _ (by rfl'),λp hp=>q p _ hp (Ext.new hp) aa⟩
theorem sf(b:∀f∈iq,cn.O S f)(h:de c S ds M Q):wSs cn cp (fin Q) (ae ["",""] ds) M:=by
 obtain⟨a,m,a_,f,rfl,⟨ok,w_,p1,p2,p3,Hf,G4,Hm,d,-,-,-,g,k,j⟩,hf,q⟩:=h;show wSs cn cp (fin Q) [↑a,~~~f] M;have hz:Hm[f]?=some (Hm[f]' 'a'):=ZE 'a';unfold cp;simp! only[d,An,g,oz hz,dBk,dP,j f _ hz,rdD,rdL];exact⟨b _ (by rfl'),λp hp=>q p _ hp (Ext.new hp) aa⟩
theorem yE(b:∀f∈iq,cn.O S f)(h:gU c S ds M Q):wSs cn eQ (fin Q) (ae ["",""] ds) M:=by
 obtain⟨a,m,a_,r,x,rfl,⟨ok,w_,p1,p2,p3,Hf,G4,Hm,d,-⟩,g,q⟩:=h;show wSs cn eQ (fin Q) [↑a,~~~r] M;have hz:atI (nats (aC a_)) (r:Int)= ~~~x.1:=dk (by unfold nats aC;rw[ZH,ZH,g];rfl);unfold eQ;simp! only[d,BP,hz];exact⟨b _ (by rfl'),q⟩
theorem xF{f d:Type}{F:f->d->Prop}:∀{l:List f}{m:List d}{i:Nat}{b:d},Paired F l m->m[i]?=some b->∃a,l[i]?=some a/\F a b
 |_,_,_,_,.nil,h=>by simp at h
 |_,_,0,_,.cons r _,h=>by
  rw[List.getElem?_cons_zero] at h;cases h;exact⟨_,rfl,r⟩
 |_,_,i+1,_,.cons _ t,h=>xF (i:=i) t (by simpa using h)
theorem wC(b:∀f∈iq,cn.O S f)(h:iw c S ds M Q):wSs cn dM (fin Q) (ae ["",""] ds) M:=by
 obtain⟨a,m,a_,r,x,rfl,⟨ok,w_,p1,p2,p3,Hf,G4,Hm,d,h2,-⟩,g,q⟩:=h;show wSs cn dM (fin Q) [↑a,~~~r] M;obtain⟨rs,j,hc⟩:=xF h2 g;have hz:atI (aJ w_) (r:Int)=some (.tup (am rs)):=dk (by unfold aJ;rw[ZH,j];rfl);unfold dM;simp! only[d,BQ,hz,dBk,dP];exact⟨b _ (by rfl'),λp hp=>q p rs _ hp (Ext.new hp) aa (hc.ext (Ext.new hp))⟩
end
def kc:Ss:=#v[.setF (.var 0) "helped" (.fn 0 #v[.var 1,.fld (.var 0) "leanings"])]
def ke:Ss:=.cons (.setF (.var 0) "leanings" (.comp 1 (.fn 1 #v[.var 5]) (.nm 5) (.seq (.fld (.var 0) "conds")) .no)) kc
def kf:Ss:=.cons (.setF (.var 0) "headed" (.fn 2 #v[.var 1,.fld (.var 0) "heads"])) ke
def kg:Ss:=.cons (.setF (.var 0) "conds" (.bi .tuple #v[.comp 1 (.bi .tuple #v[.comp 1 (.fn 3 #v[.var 6]) (.nm 6) (.seq (.ix (.var 5) (.int 1))) .no]) (.nm 5) (.seq (.var 2)) .no])) kf
def kh:Ss:=.cons (.setF (.var 0) "heads" (.bi .tuple #v[.comp 1 (.ix (.var 5) (.int 0)) (.nm 5) (.seq (.var 2)) .no])) kg
def cM:Ss:=.cons (.setF (.var 0) "many" (.var 1)) kh
def cN:Ss:=#v[.ite (.not (.val (.fn 4 #v[.var 4,.var 1]))) #v[.never] .nil]
def kj:Ss:=.cons (.for (.tp [3,4]) (.enum #v[.var 2]) cN) cM
def iL(j l:Nat):Ss:=.cons (.ite (.or (.not (.val (.fn 5 #v[.var 1,.bin .Add (.glob j) (.int 1)]))) (.or (.not (.val (.bi .isinst #v[.var 2,.ty "list"]))) (.cmp .Gt (.bi .len #v[.var 2]) (.glob l)))) #v[.never] .nil) kj
abbrev sF1(x:D):List (Str×D):=[("many",x)]
abbrev sF2(x y:D):List (Str×D):=[("many",x),("heads",y)]
abbrev sF3(x y z:D):List (Str×D):=[("many",x),("heads",y),("conds",z)]
abbrev sF4(x y z u:D):List (Str×D):=[("many",x),("heads",y),("conds",z),("headed",u)]
abbrev sF5(x y z u v:D):List (Str×D):=[("many",x),("heads",y),("conds",z),("headed",u),("leanings",v)]
abbrev sF6(x y z u v w:D):List (Str×D):=[("many",x),("heads",y),("conds",z),("headed",u),("leanings",v),("helped",w)]
theorem pf0(x:D):dZ ("many" : Str) x []=sF1 x:=rfl
theorem pf1(x y:D):dZ ("heads" : Str) y (sF1 x)=sF2 x y:=rfl
theorem pf2(x y z:D):dZ ("conds" : Str) z (sF2 x y)=sF3 x y z:=rfl
theorem pf3(x y z u:D):dZ ("headed" : Str) u (sF3 x y z)=sF4 x y z u:=rfl
theorem pf4(x y z u v:D):dZ ("leanings" : Str) v (sF4 x y z u)=sF5 x y z u v:=rfl
theorem pf5(x y z u v w:D):dZ ("helped" : Str) w (sF5 x y z u v)=sF6 x y z u v w:=rfl
theorem lf2(x y z:D):List.lookup ("heads" : Str) (sF3 x y z)=some y:=rfl
theorem lf3(x y z u:D):List.lookup ("conds" : Str) (sF4 x y z u)=some z:=rfl
theorem lf4(x y z u v:D):List.lookup ("leanings" : Str) (sF5 x y z u v)=some v:=rfl
theorem BR{M:MH}{v_:List D}{a_:Zy}(h:aG M v_ a_):([]++v_.map λd=>match d with | .tup (h::_)=>h | _=>.non)=nats (aC a_):=by
 rw[XF];induction h with
 |nil=>rfl
 |@cons d x ds rs hd _ a=>
  obtain⟨b,rfl,-⟩:=hd;rw[YM,a];rfl
section
variable {cn:Cn}{c:CA}{S:Addr}
theorem s0{g:MH->Prop}{tc:WT}{te:WE}{F:List D->MH->Prop}{a:Addr}{fs:List (Str×D)}{σ0:DS}{i:Nat}{M0:MH}(hc:∀σ M Q,Q true M->tc σ M Q)(hg:∀M,Ext M0 M->g M)
  (d:∀(t:CT) (M:MH) (Q:DK),(∀p M',M p=none->Ext M M'->M' p=some (t.obj c)->Q (.ref p) M')->te (σ0.set i (some (CT.told t))) M Q) (f:∀v w:Option D,(σ0.set i v).set i w=σ0.set i w) (j:M0 a=some (.ins S fs)):
  ∀(ts:List CT) (b:List CT) (rs:Zh) (v:Zz) (M:MH),Ext M0 M->bP c (hid a M) rs b->(∀k M',Ext M0 M'->bP c (hid a M') k (b++ts)->F (am k) M')->aE g (.nm i) tc te F (ts.map CT.told) (am rs) (σ0.set i v) M
 |[],b,rs,v,M,e,h,q=>by
  rw[ZA] at q;exact q rs M e h
 |t::ts,b,rs,v,M,e,h,q=>by
  rw[YM,aE];show tc _ M _;refine hc _ _ _ ?_;rw[aI,f];refine d t M _ λp M' hp e' l=>⟨hg _ (e.trans e'),?_⟩
  have:am rs++[D.ref p]=am (rs++[p]):=by unfold am;rw[ZN];rfl
  rw[this];refine s0 hc hg d f j ts (b++[t]) (rs++[p]) _ M' (e.trans e') ?_ (by simpa using q);exact aX (h.ext (bu e')) (.cons (Ec (e a _ j) hp l) .nil)
variable {ds:List D}{M:MH}{Q:DK}{j l:Nat}
theorem tL(Z:∀f∈iq,cn.O S f)(f0:cn.F.getD 0 Yl=fX)(f1:cn.F.getD 1 Yl=cz c)(f2:cn.F.getD 2 Yl=fV)(f3:cn.F.getD 3 Yl=q9 c)(f4:cn.F.getD 4 Yl=oy)(f5:cn.F.getD 5 Yl=cC)
  (gj:cn.G.getD j .non=.int 120) (gl:cn.G.getD l .non=.int 400) (h:bO c S ds M Q):wSs cn (iL j l) (fin Q) (ae ["","","","",""] ds) M:=by
 obtain⟨a,m,J,v_,a_,rfl,ha,Ib,hR,ok,q⟩:=h;show wSs cn (iL j l) (fin Q) [↑a,~~~m,↑J,none,none] M;have Sl:=ok.most;have TQ:=ok.few;have IY:v_.length=a_.length:=k7 hR;unfold iL;simp_all! only[List.set,tyD,Ib,f5,gj,gl];refine⟨(m:Int),120+1,rfl,?_⟩;have h1:decide (0<=(m:Int))=true:=YX 'a';have h2:decide ((m:Int)<120+1)=true:=YX 'a';simp only[h1,h2,Bool.and_self,Bool.not_true,ax,aI];refine⟨by decide,?_⟩;simp only[Ib,jN,Bool.not_true,ax];have b2:decide ((400:Int)<(v_.length:Int))=false:=ZS 'a';simp only[b2,ax];unfold kj;simp_all! only[List.set,Ib];have rest:∀(z A:Zz) (M1:MH),Ext M M1->wSs cn cM (fin Q) [↑a,~~~m,↑J,z,A] M1:=by
  intro z A M1 R;have Ji:=R _ _ ha;have R1:aG (hid a M1) v_ a_:=(hR.ext R).hid Ji;have JI:hid a M1 J=some (.lst v_):=fA Ji (R _ _ Ib);have x1:Ext (hid a M) (hid a M1):=bu R;unfold cM;simp_all! only[List.set,Ji,pf0];refine⟨⟨Z _ (by rfl'),by decide⟩,?_⟩;have KU:updM M1 a (MO.ins S (sF1 (⇑m))) a=some (.ins S (sF1 (⇑m))):=aa;have g:=jt a M1 (MO.ins S (sF1 (⇑m)));generalize updM M1 a (MO.ins S (sF1 (⇑m)))=M2 at *;rw[←g] at R1 JI x1;clear g Ji R;clear M1;have Kt:=ip a M2 _ _ JI
  -- d_
  unfold kh;simp_all! only[List.set,List.cons_append,XF,List.replicate,Kt];refine bR (f:=λd=>match d with | .tup (h::_)=>h | _=>.non) (ok:=λσ=>∃v,σ=[↑a,~~~m,↑J,z,A,v]) [] _ ⟨none,rfl⟩ ?_ ?_
  ·intro d hd σ h_ GR ⟨v,hv⟩ k
   subst hv;obtain⟨i,hi⟩:=XW hd;obtain⟨x,-,B,rfl,-⟩:=cy R1 hi;rw[aE];simp_all! only[List.set,at0];exact⟨Kt,k _ ⟨_,rfl⟩⟩
  intro p hp;have d_:=BR R1;rw[d_];have e3:=Ext.new (o:=MO.lst (nats (aC a_))) hp;have g3:updM M2 p (MO.lst (nats (aC a_))) p=some (.lst (nats (aC a_))):=aa;generalize updM M2 p (MO.lst (nats (aC a_)))=M3 at *;have Qm:=e3 _ _ KU;simp only[g3,rdL,Qm,pf1];refine⟨⟨Z _ (by rfl'),(by decide:(1:Nat)<1000)⟩,?_⟩;have x3:Ext (hid a M) (hid a M3):=x1.trans (bu e3);have R3:=R1.ext (bu (a:=a) e3);have Ku:=bu (a:=a) e3 _ _ JI;clear R1 JI x1 KU e3 g3 Kt hp d_;clear M2;have Oq:updM M3 a (MO.ins S (sF2 (⇑m) (.tup (nats (aC a_))))) a=some (.ins S (sF2 (⇑m) (.tup (nats (aC a_))))):=aa;have g:=jt a M3 (MO.ins S (sF2 (⇑m) (.tup (nats (aC a_)))));generalize updM M3 a (MO.ins S (sF2 (⇑m) (.tup (nats (aC a_)))))=M4 at *;rw[←g] at R3 Ku x3;clear g Qm;clear M3;have Kv:=ip a M4 _ _ Ku
  -- HC
  unfold kg;simp_all! only[List.set,List.cons_append,XF,List.replicate,Kv];have hm:∀(x:Row) (B:Addr) (M5:MH) (K:DK),M5 a=some (.ins S (sF2 (⇑m) (.tup (nats (aC a_)))))->M5 B=some (.lst (x.2.map CT.told))->(∀rs n,Ext M5 n->bP c (hid a n) rs x.2->K (.tup (am rs)) n) ->
    wE cn (.bi .tuple (.cons (.comp 1 (.fn 3 (.cons (.var 6) .nil)) (.nm 6) (.seq (.ix (.var 5) (.int 1))) .no) .nil)) [↑a,~~~m,↑J,z,A,some (.tup [⇑x.1,.ref B])] M5 K:=by
   intro x B M5 K Ot Hn k;simp_all! only[List.set,List.cons_append,XF,List.replicate,at1,Hn,f3];refine s0 (c:=c) (S:=S) (a:=a) (M0:=M5) (i:=6) (σ0:=[↑a,~~~m,↑J,z,A,some (.tup [⇑x.1,.ref B]),none]) (λ_ _ _ h=>h) (λn P=>P _ _ Hn) ?_ (λ_ _=>rfl) Ot x.2 [] [] none M5 (Ext.refl M5) .nil ?_
   ·intro t n K2 k2
    exact⟨t,rfl,k2⟩
   ·intro rs n P Ou p hp
    rw[aa];exact k rs _ (P.then hp) (Ou.ext (bu (Ext.new hp)))
  have HC:∀(F:List D->MH->Prop) (xs:List D) (C T:Zy) (w_:Zt) (v:Zz) (M5:MH),aG (hid a M4) xs C->Ext M4 M5->eO c (hid a M5) w_ T->(∀LN n,Ext M4 n->eO c (hid a n) LN (T++C)->F (aJ LN) n) ->
    aE (λM'=>M' J=some (.lst v_)) (.nm 5) (wTo cn .no) (wE cn (.bi .tuple (.cons (.comp 1 (.fn 3 (.cons (.var 6) .nil)) (.nm 6) (.seq (.ix (.var 5) (.int 1))) .no) .nil))) F xs (aJ w_) [↑a,~~~m,↑J,z,A,v] M5:=by
   intro F xs C T w_ v M5 hp;induction hp generalizing T w_ v M5 with
   |nil=>
    intro W h5 k;rw[aE];rw[ZA] at k;exact k w_ M5 W h5
   |@cons d x xs C hd _ ih=>
    intro W h5 k;obtain⟨B,rfl,Hn⟩:=hd;rw[aE];refine hm x B M5 _ (W _ _ Oq) (W _ _ (ip a M4 _ _ Hn)) λrs n P Ou=>⟨(W.trans P) _ _ Kv,?_⟩
    have:aJ w_++[D.tup (am rs)]=aJ (w_++[rs]):=by unfold aJ;rw[ZN];rfl
    rw[this];refine ih (T++[x]) (w_++[rs]) _ n (W.trans P) (aX (h5.ext (bu P)) (.cons Ou .nil)) (by simpa using k)
  refine HC _ v_ a_ [] [] none M4 R3 (Ext.refl M4) .nil ?_;clear HC hm;intro w_ M5 W Ov p hp;rw[XF] at Ov;have P:=Ext.new (o:=MO.lst (aJ w_)) hp;have g6:updM M5 p (MO.lst (aJ w_)) p=some (.lst (aJ w_)):=aa;generalize updM M5 p (MO.lst (aJ w_))=n at *;have Qn:=(W.trans P) _ _ Oq;simp only[g6,rdL,Qn,pf2];refine⟨⟨Z _ (by rfl'),(by decide:(2:Nat)<1000)⟩,?_⟩;have x6:Ext (hid a M) (hid a n):=x3.trans (bu (W.trans P));have C6:=Ov.ext (bu (a:=a) P);clear R3 Ku x3 Oq W Ov hp P g6 Kv;clear M4 M5;have Ow:updM n a (MO.ins S (sF3 (⇑m) (.tup (nats (aC a_))) (.tup (aJ w_)))) a=some (.ins S (sF3 (⇑m) (.tup (nats (aC a_))) (.tup (aJ w_)))):=aa;have g:=jt a n (MO.ins S (sF3 (⇑m) (.tup (nats (aC a_))) (.tup (aJ w_))));generalize updM n a (MO.ins S (sF3 (⇑m) (.tup (nats (aC a_))) (.tup (aJ w_))))=M7 at *;rw[←g] at C6 x6;clear g Qn;clear n
  -- headed
  unfold kf;simp_all! only[List.set,Ow,lf2,f2];have Sm:(aC a_).length=a_.length:=by unfold aC;rw[ZG]
  refine⟨Z _ (by rfl'),m,aC a_,rfl,by omega,by omega,?_,?_⟩
  ·intro h g
   obtain⟨x,hx,rfl⟩:=List.mem_map.1 g;exact(ok.fit x hx).1
  intro p1 Hf M8 Kr e8 g8 l8 s8;rw[Sm] at s8;have MK:=e8 _ _ Ow;simp only[MK,pf3];refine⟨⟨Z _ (by rfl'),(by decide:(3:Nat)<1000)⟩,?_⟩;have x8:Ext (hid a M) (hid a M8):=x6.trans (bu e8);have C8:=C6.ext (bu (a:=a) e8);have G8:hid a M8 p1=some (.lst (am Hf)):=fA MK g8;have S8:bC (hid a M8) Hf (λf=>.lst (nats (bU (aC a_) a_.length f))):=λf r u=>fA MK (s8 f r u)
  clear C6 x6 Ow Kr e8 g8 s8;clear M7;have Ox:updM M8 a (MO.ins S (sF4 (⇑m) (.tup (nats (aC a_))) (.tup (aJ w_)) (.ref p1))) a=some (.ins S (sF4 (⇑m) (.tup (nats (aC a_))) (.tup (aJ w_)) (.ref p1))):=aa;have g:=jt a M8 (MO.ins S (sF4 (⇑m) (.tup (nats (aC a_))) (.tup (aJ w_)) (.ref p1)));generalize updM M8 a (MO.ins S (sF4 (⇑m) (.tup (nats (aC a_))) (.tup (aJ w_)) (.ref p1)))=M9 at *;rw[←g] at C8 x8 G8 S8;clear g MK;clear M8
  -- leanings
  unfold ke;simp_all! only[List.set,List.cons_append,XF,List.replicate,Ox,lf3];refine⟨Z _ (by rfl'),?_⟩;have ac:∀(F:List D->MH->Prop) (cs:Zt) (C T:Zy) (ps:Zh) (v:Zz) (U:MH),eO c (hid a M9) cs C->(∀x∈C,x.1<m/\x.2.length<=6/\∀t∈x.2,t.fit (m:Int))->Ext M9 U->oA U ps T->(∀JG L,Ext M9 L->oA L JG (T++C)->F (am JG) L) ->
    aE (λ_=>True) (.nm 5) (wTo cn .no) (wE cn (.fn 1 (.cons (.var 5) .nil))) F (aJ cs) (am ps) [↑a,~~~m,↑J,z,A,v] U:=by
   intro F cs C T ps v U hp;induction hp generalizing T ps v U with
   |nil=>
    intro _ V JH k;rw[show aJ []=[] from rfl,aE];rw[ZA] at k;exact k ps U V JH
   |@cons rs x cs C hd _ ih=>
    intro hf V JH k;obtain⟨Oy,LO,LP⟩:=hf x (.head _);rw[show aJ (rs::cs)=.tup (am rs)::aJ cs from rfl,aE];have go:cz c [.tup (am rs)] U (λy M2=>True/\aE (λ_=>True) (.nm 5) (wTo cn .no) (wE cn (.fn 1 (.cons (.var 5) .nil))) F (aJ cs) (am ps++[y]) [↑a,~~~m,↑J,z,A,some (.tup (am rs))] M2):=by
     refine⟨rs,x.2,rfl,(hd.ext (ip a M9)).ext V,λt ht=>CT.fit_ok 'a' (LP t ht),LO,λp L hp Y Kw=>⟨trivial,?_⟩⟩;have:am ps++[D.ref p]=am (ps++[p]):=by unfold am;rw[ZN];rfl
     rw[this];refine ih (T++[x]) (ps++[p]) _ L (λy hy=>hf y (.tail _ hy)) (V.trans Y) ⟨by rw[ZM,ZM,JH.1];rfl,λk r y u hy=>?_⟩ (by simpa using k);by_cases hk:k<ps.length
     ·rw[ZF hk] at u
      rw[ZF (by rw[←JH.1];exact hk)] at hy;exact Y _ _ (JH.2 k r y u hy)
     ·rw[ZI 'a'] at u
      rw[ZI (by rw[←JH.1];omega),←JH.1] at hy;have hz:k-ps.length=0:=by
       have:=(YE.mp u).1
       simp only[YK,YW] at this;omega
      rw[hz,List.getElem?_cons_zero] at u hy;cases u;cases hy;rw[Kw,yC];rfl
    rw[←f1] at go;exact go
  refine ac _ w_ a_ [] [] none M9 C8 ok.fit (Ext.refl M9) ⟨rfl,λk r x u=>by simp at u⟩ ?_;clear ac;intro G4 U V ML p2 C';rw[XF] at ML;have Y:=Ext.new (o:=MO.lst (am G4)) C';have Kw:updM U p2 (MO.lst (am G4)) p2=some (.lst (am G4)):=aa;generalize updM U p2 (MO.lst (am G4))=L at *;have JJ:=(V.trans Y) _ _ Ox;simp only[JJ,pf4];refine⟨⟨Z _ (by rfl'),(by decide:(4:Nat)<1000)⟩,?_⟩;have Qo:Ext (hid a M) (hid a L):=x8.trans (bu (V.trans Y));have Qp:=C8.ext (bu (a:=a) (V.trans Y));have Qq:=bu (a:=a) (V.trans Y) _ _ G8;have Qr:=S8.ext (bu (a:=a) (V.trans Y));have Oz:hid a L p2=some (.lst (am G4)):=fA JJ Kw;have LQ:oA (hid a L) G4 a_:=⟨ML.1,λk r x u hx=>fA JJ (Y _ _ (ML.2 k r x u hx))⟩;clear C8 x8 Ox C' V ML Y Kw G8 S8;clear M9 U;have LR:updM L a (MO.ins S (sF5 (⇑m) (.tup (nats (aC a_))) (.tup (aJ w_)) (.ref p1) (.ref p2))) a=some (.ins S (sF5 (⇑m) (.tup (nats (aC a_))) (.tup (aJ w_)) (.ref p1) (.ref p2))):=aa;have g:=jt a L (MO.ins S (sF5 (⇑m) (.tup (nats (aC a_))) (.tup (aJ w_)) (.ref p1) (.ref p2)));generalize updM L a (MO.ins S (sF5 (⇑m) (.tup (nats (aC a_))) (.tup (aJ w_)) (.ref p1) (.ref p2)))=Qs at *;rw[←g] at Qp Qo Qq Qr Oz LQ;clear g JJ;clear L
  -- helped
  unfold kc;simp_all! only[List.set,LR,lf4,f0];refine⟨Z _ (by rfl'),m,p2,G4,a_.map bJ,rfl,ip a Qs _ _ Oz,by rw[ZG];exact LQ.1,?_,by omega,by rw[ZG];omega,?_,?_⟩
  ·intro k r l u hl
   rw[ZH] at hl;obtain⟨x,hx,rfl⟩:=ZQ.1 hl;exact ip a Qs _ _ (LQ.2 k r x u hx)
  ·intro l hl x hx
   obtain⟨y,hy,rfl⟩:=List.mem_map.1 hl;obtain⟨t,ht,Sn⟩:=List.mem_flatMap.1 hx;exact sZ ((ok.fit y hy).2.2 t ht) x Sn
  intro p3 Hm Qt Il Qu So Sq Qv;rw[ZG] at Qv;have Kx:=Qu _ _ LR;simp only[Kx,pf5];refine⟨⟨Z _ (by rfl'),(by decide:(5:Nat)<1000)⟩,?_⟩;have g:=jt a Qt (MO.ins S (sF6 (⇑m) (.tup (nats (aC a_))) (.tup (aJ w_)) (.ref p1) (.ref p2) (.ref p3)));have he:=bu (a:=a) Qu;have hl:=ip a (updM Qt a (MO.ins S (sF6 (⇑m) (.tup (nats (aC a_))) (.tup (aJ w_)) (.ref p1) (.ref p2) (.ref p3))));rw[g] at hl;have ee:=he.trans hl;refine q _ ?_ ⟨ok,w_,p1,p2,p3,Hf,G4,Hm,aa,Qp.ext ee,⟨ee _ _ Qq,l8,Qr.ext ee⟩,⟨ee _ _ Oz,LQ.1,λk r x u hx=>ee _ _ (LQ.2 k r x u hx)⟩,hl _ _ (fA Kx So),Sq,λf r u=>hl _ _ (fA Kx (Qv f r u))⟩;intro b o hb Sr;refine ee b o (Qo b o ?_);rw[vD hb];exact Sr
 have step:∀(E:EndsD) (v0 v2:Zz) (z A:Zz) (M1:MH) (x:Row) (B:Addr),(x.1<m/\x.2.length<=6/\∀t∈x.2,t.fit (m:Int))->M1 B=some (.lst (x.2.map CT.told))->(∀M2,Ext M1 M2->E.nx [v0,~~~m,v2,z,some (.tup [⇑x.1,.ref B])] M2) ->
   wSs cn cN E [v0,~~~m,v2,z,some (.tup [⇑x.1,.ref B])] M1:=by
  intro E v0 v2 z A M1 x B ⟨Oy,LO,LP⟩ hq k;unfold cN;simp_all! only[List.set,f4];exact⟨(x.1:Int),(m:Int),B,x.2,rfl,hq,⟨by omega,by omega⟩,LO,LP,λM2 e2=>k M2 e2⟩
 have ap:∀(xs:List D) (C:Zy) (k:Int) (z A:Zz) (M1:MH),aG M xs C->(∀x∈C,x.1<m/\x.2.length<=6/\∀t∈x.2,t.fit (m:Int))->Ext M M1 ->
   aq (λM'=>M' J=some (.lst v_)) (.tp [3,4]) (wSs cn cN) { nx:=wSs cn cM (fin Q),rt:=Q } (bp k xs) [↑a,~~~m,↑J,z,A] M1:=by
  intro xs C k z A M1 hp;induction hp generalizing k z A M1 with
  |nil=>
   intro _ R;rw[bp,aq];exact rest z A M1 R
  |@cons d x xs C hd _ ih=>
   intro hf R;obtain⟨B,rfl,Hn⟩:=hd;obtain⟨Oy,LO,LP⟩:=hf x (.head _);rw[bp,aq];refine⟨rfl,step _ _ _ _ none M1 x B ⟨Oy,LO,LP⟩ (R _ _ Hn) λM2 e2=>?_⟩;exact⟨(R.trans e2) J _ Ib,ih _ _ _ M2 (λy hy=>hf y (.tail _ hy)) (R.trans e2)⟩
 exact ap v_ a_ 0 none none M hR ok.fit (Ext.refl M)
end
theorem BS(n:Nat)(f:Int):hasB (n:Int) f=n.testBit f.toNat:=gR n f.toNat▸(by unfold hasB bitZ;rw[YY])
def Sub(a b:Nat):Prop:=∀f,a.testBit f=true->b.testBit f=true
theorem Sub.refl(a:Nat):Sub a a:=λ_ h=>h
theorem Sub.trans{a b c:Nat}(h:Sub a b)(g:Sub b c):Sub a c:=λf q=>g f (h f q)
theorem Sub.or_l(a b:Nat):Sub a (a|||b):=λf h=>by rw[Nat.testBit_or,h];rfl
theorem Sub.or{a b c:Nat}(h:Sub a c)(g:Sub b c):Sub (a|||b) c:=λf q=>by
 rw[Nat.testBit_or,Bool.or_eq_true] at q;exact q.elim (h f) (g f)
theorem Sub.hasB{a b:Nat}(h:Sub a b){f:Int}(q:SH.hasB (a:Int) f=true):SH.hasB (b:Int) f=true:=by
 rw[BS] at q ⊢;exact h _ q
theorem Ao{p q:Int->Bool}(h:∀f,p f=true->q f=true):∀fs:List Int,(fs.filter p).length<=(fs.filter q).length
 |[]=>YH _
 |f::fs=>by
  have a:=Ao h fs;rw[List.filter_cons,List.filter_cons];by_cases e:p f=true
  ·rw[if_pos e,if_pos (h f e),YK,YK];omega
  ·rw[if_neg e]
   split
   ·rw[YK];omega
   ·exact a
theorem vE{p q:Int->Bool}:∀{fs:Zi},(fs.filter p).length<(fs.filter q).length->∃f∈fs,p f=false/\q f=true
 |[],h=>absurd h (ZV _)
 |f::fs,h=>by
  by_cases e:p f=false/\q f=true
  ·exact⟨f,.head _,e⟩
  ·rw[List.filter_cons,List.filter_cons] at h
   have:(fs.filter p).length<(fs.filter q).length:=by
    cases hp:p f with
    |true=>
     rw[if_pos hp] at h;split at h
     ·simpa using h
     ·rw[YK] at h;omega
    |false=>
     have hq:q f=false:=by
      cases hq:q f with
      |false=>rfl
      |true=>exact absurd ⟨hp,hq⟩ e
     rw[if_neg (by simp[hp]),if_neg (by simp[hq])] at h;exact h
   obtain⟨g,hg,w⟩:=vE this;exact⟨g,.tail _ hg,w⟩
theorem Ap{a b:Nat}(h:Sub a b)(fs:Zi):cntB fs (a:Int)<=cntB fs (b:Int):=by
 unfold cntB;exact Ao (λf q=>h.hasB q) fs
theorem vF{h h' g:Nat}(s:Sub h h'){t:CT}(q:t.carried (h:Int) (g:Int)=true):t.carried (h':Int) (g:Int)=true:=by
 cases t with
 |hav f=>exact s.hasB q
 |lck f=>exact q
 |som n fs=>
  have q:decide (n<=((cntB fs (h:Int):Nat):Int))=true:=q;show decide (n<=((cntB fs (h':Int):Nat):Int))=true
  have:=XS q
  have:=Ap s fs
  exact YX 'a'
 |led fs k=>
  have q:(hasB (h:Int) (fs.getD k 0)&&(((cntB (fs.take k) (g:Int):Nat):Int)==0))=true:=q;show(hasB (h':Int) (fs.getD k 0)&&(((cntB (fs.take k) (g:Int):Nat):Int)==0))=true;rw[XA] at q ⊢;exact⟨s.hasB q.1,q.2⟩
theorem vG{h h' g:Nat}{t:CT}(q:t.carried (h:Int) (g:Int)=false)(a:t.carried (h':Int) (g:Int)=true):∃f,(false,f)∈t.leanP/\hasB (h:Int) f=false/\hasB (h':Int) f=true:=by
 cases t with
 |hav f=>exact⟨f,by simp[CT.leanP],q,a⟩
 |lck f=>
  have q:(!hasB (g:Int) f)=false:=q;have a:(!hasB (g:Int) f)=true:=a;rw[q] at a;cases a
 |som n fs=>
  have q:decide (n<=((cntB fs (h:Int):Nat):Int))=false:=q;have a:decide (n<=((cntB fs (h':Int):Nat):Int))=true:=a;have b:=of_decide_eq_false q;have h2:=XS a;have:(fs.filter (hasB (h:Int))).length<(fs.filter (hasB (h':Int))).length:=by
   unfold cntB at b h2;omega
  obtain⟨f,hf,w⟩:=vE this;exact⟨f,List.mem_map.2 ⟨f,hf,rfl⟩,w⟩
 |led fs k=>
  have q:(hasB (h:Int) (fs.getD k 0)&&(((cntB (fs.take k) (g:Int):Nat):Int)==0))=false:=q;have a:(hasB (h':Int) (fs.getD k 0)&&(((cntB (fs.take k) (g:Int):Nat):Int)==0))=true:=a;rw[XA] at a;rw[a.2,Bool.and_true] at q;exact⟨_,YD.2 (.inr (.head _)),q,a.1⟩
def aU(h g:Nat)(x:Row):Bool:=x.2.all (CT.carried (h:Int) (g:Int))
theorem wD{h h' g:Nat}(s:Sub h h'){x:Row}(q:aU h g x=true):aU h' g x=true:=by
 unfold aU at q ⊢;rw[XQ] at q ⊢;exact λt ht=>vF s (q t ht)
theorem wF{h h' g:Nat}{x:Row}(q:aU h g x=false)(a:aU h' g x=true):∃f,(false,f)∈bJ x/\hasB (h:Int) f=false/\hasB (h':Int) f=true:=by
 unfold aU at q a;rw[XQ] at a;rw[List.all_eq_false] at q;obtain⟨t,ht,hq⟩:=q;obtain⟨f,hf,w⟩:=vG (by simpa using hq) (a t ht);exact⟨f,List.mem_flatMap.2 ⟨t,ht,hf⟩,w⟩
def vH(a_:Zy)(told g s:Nat):Prop:=Sub told s/\∀x∈a_,aU s g x=true->s.testBit x.1=true
def d3(a_:Zy)(told g n:Nat):Prop:=vH a_ told g n/\∀s,vH a_ told g s->Sub n s
def hits(a_:Zy)(h g f r:Nat):Bool:=match a_[r]? with
 |some x=>decide (x.1=f)&&aU h g x
 |none=>false
theorem cq{a_:Zy}{h g f r:Nat}:hits a_ h g f r=true ↔ ∃x,a_[r]?=some x/\x.1=f/\aU h g x=true:=by
 unfold hits;cases e:a_[r]? with
 |none=>simp
 |some x=>simp
def aV(a_:Zy)(h g f:Nat):Option Nat:=(List.range a_.length).find? (hits a_ h g f)
def av(a_:Zy)(h g left:Nat):List (Nat×Nat):=(memb left).filterMap λf=>(aV a_ h g f).map λr=>(f,r)
def newB(fr:Zp):Nat:=setN (fr.map (·.1))
def aP(a_:Zy)(g:Nat):Nat->Nat->Nat->Nat->List (Nat×Nat×Nat)
 |0,_,_,_=>[]
 |k+1,step,a,left=>if av a_ a g left=[] then[] else(av a_ a g left).map (λx=>(x.1,step,x.2))++aP a_ g k (step+1) (a|||newB (av a_ a g left)) (aA left (newB (av a_ a g left)))
theorem kP{a_:Zy}{h g f:Nat}(q:aV a_ h g f=none){x:Row}(hx:x∈a_)(hf:x.1=f):aU h g x=false:=by
 obtain⟨r,a⟩:=XW hx;have hl:r<a_.length:=(YE.mp a).1;unfold aV at q;rw[List.find?_eq_none] at q
 have:=q r (ZY.2 hl)
 rw[cq] at this;cases e:aU h g x with
 |false=>rfl
 |true=>exact absurd ⟨x,a,hf,e⟩ this
theorem kQ{a_:Zy}{h g f r:Nat}(q:aV a_ h g f=some r):∃x,a_[r]?=some x/\x.1=f/\aU h g x=true:=
 cq.1 (List.find?_some q)
theorem cr{a_:Zy}{h g left f r:Nat}:(f,r)∈av a_ h g left↔left.testBit f=true/\aV a_ h g f=some r:=by
 unfold av;rw[List.mem_filterMap];constructor
 ·rintro⟨f',hf',q⟩
  obtain⟨d,c,e⟩:=ZQ.1 q;cases e;exact⟨(br _ _).1 hf',c⟩
 ·rintro⟨a,b⟩
  exact⟨f,(br _ _).2 a,by rw[b];rfl⟩
theorem pK{fr:Zp}{f:Nat}:(newB fr).testBit f=true ↔ ∃r,(f,r)∈fr:=by
 unfold newB;rw[bq,XU,List.mem_map];constructor
 ·rintro⟨⟨a,b⟩,h,rfl⟩;exact⟨b,h⟩
 ·rintro⟨r,h⟩;exact⟨_,h,rfl⟩
theorem Aq{a b f:Nat}(c:a.testBit f=true)(h2:b.testBit f=true):aA a b<a:=by
 have:=l7 a b
 have d:a&&&b≠0:=λz=>by
  have:(a&&&b).testBit f=true:=by rw[Nat.testBit_and,c,h2];rfl
  rw[z,Nat.zero_testBit] at this;cases this
 omega
theorem mf{a_:Zy}{h g left:Nat}(q:av a_ h g left≠[]):aA left (newB (av a_ h g left))<left:=by
 obtain⟨⟨f,r⟩,hx⟩:=List.exists_mem_of_ne_nil _ q;exact Aq (cr.1 hx).1 (pK.2 ⟨r,hx⟩)
def mh(a_:Zy)(g told d_:Nat):Nat:=told|||setN ((aP a_ g (aA d_ told+1) 1 told (aA d_ told)).map (·.1))
theorem rj{a_:Zy}{g told d_:Nat}(d:∀x∈a_,d_.testBit x.1=true):∀(k step a left:Nat),left<k->(∀f,left.testBit f=(d_.testBit f && !a.testBit f))->Sub told a->(∀s,vH a_ told g s->Sub a s) ->
  d3 a_ told g (a|||setN ((aP a_ g k step a left).map (·.1)))
 |0,_,_,_,h,_,_,_=>absurd h (Nat.not_lt_zero _)
 |k+1,step,a,left,hk,hl,ht,hc=>by
  rw[aP];by_cases e:av a_ a g left=[]
  ·rw[if_pos e]
   have z:a|||setN (([]:List (Nat×Nat×Nat)).map (·.1))=a:=by simp[setN]
   rw[z];refine⟨⟨ht,λx hx q=>?_⟩,hc⟩;cases b:a.testBit x.1 with
   |true=>rfl
   |false=>
    have j:left.testBit x.1=true:=by rw[hl,d x hx,b];rfl
    cases f1:aV a_ a g x.1 with
    |none=>rw[kP f1 hx rfl] at q;cases q
    |some r=>
     have:=cr.2 ⟨j,f1⟩
     rw[e] at this;cases this
  ·rw[if_neg e]
   have l:=rj (g:=g) (told:=told) d k (step+1) (a|||newB (av a_ a g left)) (aA left (newB (av a_ a g left))) (by have:=mf e;omega) ?_ (ht.trans (Sub.or_l _ _)) ?_
   ·refine cast (congrArg (d3 a_ told g) ?_) l
    refine Nat.eq_of_testBit_eq λf=>?_
    rw[Nat.testBit_or,Nat.testBit_or,Nat.testBit_or,bq,bq,ZN,ZO];have z:(newB (av a_ a g left)).testBit f=decide (f∈(av a_ a g left).map ((·.1)∘λ(x:Nat×Nat)=>(x.1,step,x.2))):=by
     unfold newB;rw[bq];rfl
    rw[z,Bool.or_assoc];congr 1;rw[←Bool.decide_or];simp only[YD]
   ·intro f
    rw[a0,hl,Nat.testBit_or];cases d_.testBit f<;>cases a.testBit f<;>cases(newB (av a_ a g left)).testBit f<;>rfl
   ·intro s c
    refine(hc s c).or λf hf=>?_
    obtain⟨r,m⟩:=pK.1 hf;obtain⟨x,hx,rfl,hq⟩:=kQ (cr.1 m).2;exact c.2 x (YV hx) (wD (hc s c) hq)
theorem mi{a_:Zy}{g told d_:Nat}(a:∀x∈a_,d_.testBit x.1=true):d3 a_ told g (mh a_ g told d_):=
 rj a _ 1 told _ (YN _) (λf=>a0 _ _ _) (Sub.refl _) λs b=>b.1
theorem mj:∀{l m:Zj},l.Pairwise (· < ·)->m.Pairwise (· < ·)->(∀x,x∈l↔x∈m)->l=m
 |[],[],_,_,_=>rfl
 |[],b::m,_,_,h=>absurd ((h b).2 (.head _)) (by simp)
 |a::l,[],_,_,h=>absurd ((h a).1 (.head _)) (by simp)
 |a::l,b::m,hl,hm,h=>by
  rw[List.pairwise_cons] at hl hm;have e:a=b:=by
   rcases YC.1 ((h a).1 (.head _)) with e | e
   ·exact e
   ·rcases YC.1 ((h b).2 (.head _)) with e' | e'
    ·exact e'.symm
    ·have:=hl.1 b e';have:=hm.1 a e;omega
  subst e;rw[mj hl.2 hm.2 λx=>?_];constructor
  ·intro hx
   rcases YC.1 ((h x).1 (.tail _ hx)) with e | e
   ·subst e;exact absurd (hl.1 x hx) (ZV _)
   ·exact e
  ·intro hx
   rcases YC.1 ((h x).2 (.tail _ hx)) with e | e
   ·subst e;exact absurd (hm.1 x hx) (ZV _)
   ·exact e
theorem bM:∀{n:Nat}{l:Zj},l.Nodup->(∀x∈l,x<n)->l.length<=n
 |0,[],_,_=>YH _
 |0,a::l,_,h=>absurd (h a (.head _)) (Nat.not_lt_zero _)
 |n+1,l,hd,h=>by
  have c:=bM (n:=n) (l:=l.filter λx=>decide (x≠n)) (List.Pairwise.filter _ hd) (λx hx=>by
   have h2:=ZX.1 hx
   have:=h x h2.1
   have:x≠n:=XS h2.2
   omega)
  have h2:∀{l:Zj},l.Nodup->l.length<=(l.filter λx=>decide (x≠n)).length+1:=by
   intro l hd;induction l with
   |nil=>simp
   |cons a l b=>
    rw[YR] at hd;rw[List.filter_cons];by_cases e:a=n
    ·subst e
     rw[if_neg (by simp),YK];have:l.filter (λx=>decide (x≠a))=l:=List.filter_eq_self.2 λx hx=>YX λz=>hd.1 (z▸hx)
     rw[this];exact YH _
    ·rw[if_pos (by simpa using e),YK,YK]
     have:=b hd.2
     omega
  have:=h2 hd
  omega
theorem kR{b:Zi}{xs:Zj}(hp:b.Perm (xs.map λ(x:Nat)=>(x:Int)))(d:b.Pairwise (·<=·))(hd:xs.Nodup):∃ns:List Nat,b=ns.map (λ(x:Nat)=>(x:Int))/\ns.Pairwise (· < ·)/\∀r,r∈ns↔r∈xs:=by
 have f:(b.map Int.toNat).map (λ(x:Nat)=>(x:Int))=b:=by
  rw[ZO];refine(ZP λa ha=>?_).trans (List.map_id _);obtain⟨x,_,rfl⟩:=List.mem_map.1 (hp.mem_iff.1 ha);simp
 have c:(b.map Int.toNat).Perm xs:=by
  have:=hp.map Int.toNat
  rw[ZO] at this;refine this.trans ?_;rw[show(Int.toNat∘λ(x:Nat)=>(x:Int))=id by funext x;simp,List.map_id]
 refine⟨b.map Int.toNat,f.symm,?_,λr=>c.mem_iff⟩;have nd:(b.map Int.toNat).Nodup:=c.nodup_iff.2 hd;have le:(b.map Int.toNat).Pairwise (·<=·):=List.pairwise_map.2 (d.imp λh=>by omega);exact List.Pairwise.imp (λ⟨g,h2⟩=>Nat.lt_of_le_of_ne g h2) (List.pairwise_and_iff.2 ⟨le,nd⟩)
def kl(c:CA)(S:Addr):SpD:=λds M Q=>∃(a:Addr) (m:Nat) (a_:Zy) (left:Nat),ds=[.ref a,⇑left]/\SheetAt c S M a m a_/\a_.length<401/\left<2 ^ m /\
 ∀p ns M',M p=none->Ext M M'->M' p=some (.lst (nats ns))->ns.Pairwise (· < ·)->(∀r,r∈ns ↔ ∃x,a_[r]?=some x/\left.testBit x.1=true)->Q (.ref p) M'
def df(c:CA)(S:Addr):SpD:=λds M Q=>∃(a:Addr) (m:Nat) (a_:Zy) (b:Addr) (d:ZD) (fs:Zj) (left:Nat),ds=[.ref a,.ref b,⇑left]/\SheetAt c S M a m a_/\a_.length<401/\M b=some (.rod d)/\keysOf d=nats fs/\(∀f∈fs,f<m) /\
 ∀p ns M',M p=none->Ext M M'->M' p=some (.lst (nats ns))->ns.Pairwise (· < ·)->(∀r,r∈ns ↔ ∃x,a_[r]?=some x/\left.testBit x.1=true/\∃f∈fs,aS (bJ x) f=true)->Q (.ref p) M'
def aR(fr:Zp):List (Key×D):=fr.map λ(x:Nat×Nat)=>(.inl (x.1:Int),⇑x.2)
def cj(c:CA)(S:Addr):SpD:=λds M Q=>∃(a:Addr) (m:Nat) (a_:Zy) (b:Addr) (ns:Zj) (h g:Nat),ds=[.ref a,.ref b,⇑h,⇑g]/\SheetAt c S M a m a_/\M b=some (.lst (nats ns))/\(∀r∈ns,r<a_.length) /\
 ∀p fr M',M p=none->Ext M M'->M' p=some (.dic (aR fr))->(fr.map (·.1)).Nodup->(∀f r,(f,r)∈fr↔ns.find? (hits a_ h g f)=some r)->Q (.ref p) M'
def iM:Ss:=#v[.ret (.bk .sorted #v[.var 2])]
def iN:Ss:=#v[.expr (.mt .extend (.var 2) #v[.mu "rows_for" (.var 0) #v[.var 3]])]
def mF:Ss:=.cons (.for (.nm 3) (.seq (.fn 0 #v[.var 1])) iN) iM
def kS:Ss:=.cons (.set 2 (.lst .nil)) mF
def eR:Ss:=#v[.ret (.bk .sorted #v[.var 3])]
def cu:Ss:=#v[.ite (.val (.fn 0 #v[.var 2,.mu "head_of" (.var 0) #v[.var 5]])) #v[.putIx (.var 3) (.var 5) (.bl true)] .nil]
def eU:Ss:=#v[.for (.nm 5) (.seq (.mu "rows_helped" (.var 0) #v[.var 4])) cu]
def jO:Ss:=.cons (.for (.nm 4) (.seq (.var 1)) eU) eR
def gV:Ss:=.cons (.set 3 .dnew) jO
def dg:Ss:=#v[.ret (.var 4)]
def iy:Ss:=#v[.ite (.and (.cmp .NotIn (.var 6) (.var 4)) (.val (.fn 0 #v[.mu "conds_of" (.var 0) #v[.var 5],.var 2,.var 3]))) #v[.putIx (.var 4) (.var 6) (.var 5)] .nil]
def b0:Ss:=.cons (.set 6 (.mu "head_of" (.var 0) #v[.var 5])) iy
def iz:Ss:=.cons (.for (.nm 5) (.seq (.var 1)) b0) dg
def eV:Ss:=.cons (.set 4 .dnew) iz
section
variable {m:Nat}{a_:Zy}{w_:Zt}{p1 p2 p3:Addr}
theorem wG:(dc m a_ w_ p1 p2 p3).lookup ("rows_for" : Str)=none:=rfl
theorem sg:(dc m a_ w_ p1 p2 p3).lookup ("rows_helped" : Str)=none:=rfl
theorem rl:(dc m a_ w_ p1 p2 p3).lookup ("head_of" : Str)=none:=rfl
theorem wH:(dc m a_ w_ p1 p2 p3).lookup ("conds_of" : Str)=none:=rfl
theorem o0:(dc m a_ w_ p1 p2 p3).lookup ("how_many" : Str)=none:=rfl
end
theorem Ar(xs:Zj):ic (nats xs)=some (xs.map λ(x:Nat)=>(x:Int)):=by
 have:nats xs=intL (xs.map λ(x:Nat)=>(x:Int)):=by unfold nats intL;rw[ZO];rfl
 rw[this,kb]
theorem BU(xs ys:Zj):nats xs++nats ys=nats (xs++ys):=by unfold nats;rw[ZN]
theorem nF(xs:Zj):(xs.map λ(x:Nat)=>(x:Int)).map D.int=nats xs:=by unfold nats;rw[ZO];rfl
theorem fD{a:Zj}{k f r:Nat}:r∈bU a k f↔r<k/\a[r]?=some f:=by
 unfold bU;rw[ZX,ZY,XU]
theorem wJ(a:Zj)(k f:Nat):(bU a k f).Nodup:=List.Pairwise.filter _ List.nodup_range
theorem ml(c:Zj)(k:Nat):∀{d:Zj},d.Nodup->(d.flatMap (bU c k)).Nodup
 |[],_=>by simp
 |f::d,h=>by
  rw[YR] at h;rw[List.flatMap_cons,List.nodup_append];refine⟨wJ c k f,ml c k h.2,λa ha b hb z=>?_⟩;subst z;obtain⟨g,hg,hb⟩:=List.mem_flatMap.1 hb;have j:=(fD.1 ha).2;have h2:=(fD.1 hb).2;rw[j] at h2;cases h2;exact h.1 hg
theorem fZ{n m f:Nat}(h:n<2 ^ m)(q:n.testBit f=true):f<m:=by
 have a:=Nat.ge_two_pow_of_testBit q;exact(Nat.pow_lt_pow_iff_right (by decide:1<2)).1 (XM a h)
theorem td{a_:Zy}{r f:Nat}:(aC a_)[r]?=some f ↔ ∃x,a_[r]?=some x/\x.1=f:=by
 unfold aC;rw[ZH];cases a_[r]? with
 |none=>simp
 |some x=>simp
theorem vI{m:Nat}{a_:Zy}(h:RowsOk m a_){r:Nat}{x:Row}(e:a_[r]?=some x):x.1<m/\x.2.length<=6/\∀t∈x.2,t.fit (m:Int):=h.fit x (YV e)
section
variable {cn:Cn}{c:CA}{S:Addr}{ds:List D}{M:MH}{Q:DK}
theorem wK(L:cn.F.getD 0 Yl=fz)(O:cn.T S "rows_for" = some (iu c S))(h:kl c S ds M Q):wSs cn kS (fin Q) (ae ["","","",""] ds) M:=by
 obtain⟨a,m,a_,left,rfl,A,hn,hl,q⟩:=h;show wSs cn kS (fin Q) [↑a,~~~left,none,none] M;have hm:=A.ok.most;unfold kS;simp! only[List.set];intro p hp;unfold mF;simp! only[List.set,L];refine⟨left,rfl,ZU hl (Nat.pow_le_pow_right 'b' 'a'),λy M1 B l C=>?_⟩;simp only[C];have G:Ext M M1:=(Ext.new hp).trans l;have P:M1 p=some (.lst []):=l p _ aa;have J:y≠p:=λz=>by subst z;rw[aa] at B;cases B
 clear l;have n:∀(b d:Zj) (v:Zz) (M2:MH),memb left=d++b->ExtBut p M1 M2->M2 p=some (.lst (nats (d.flatMap (bU (aC a_) a_.length)))) ->
   aq (λM'=>M' y=some (.lst (nats (memb left)))) (.nm 3) (wSs cn iN) { nx:=wSs cn iM (fin Q),rt:=Q } (nats b) [↑a,~~~left,↑p,v] M2:=by
  intro b;induction b with
  |nil=>
   intro d v M2 hd g k;rw[ZA] at hd;subst hd;have nd:=ml (aC a_) a_.length (jf left);rw[show nats []=[] from rfl,aq];unfold iM;simp! only[dBk,jo,k,rdL,Ar,ot];have R:((memb left).flatMap (bU (aC a_) a_.length)).length<=a_.length:=bM nd λx hx=>by
    obtain⟨f,_,hx⟩:=List.mem_flatMap.1 hx;exact(fD.1 hx).1
   refine⟨by rw[ZG];omega,λp2 Z K o h2=>?_⟩;obtain⟨ns,rfl,U,V⟩:=kR o h2 nd;rw[nF];have j:Ext M M2:=g.ext G hp;refine q p2 ns _ (j.free K) (j.then K) aa U λr=>?_
   rw[V,List.mem_flatMap];constructor
   ·rintro⟨f,hf,hr⟩
    obtain⟨x,hx,rfl⟩:=td.1 (fD.1 hr).2;exact⟨x,hx,(br _ _).1 hf⟩
   ·rintro⟨x,hx,hb⟩
    exact⟨x.1,(br _ _).2 hb,fD.2 ⟨(YE.mp hx).1,td.2 ⟨x,hx,rfl⟩⟩⟩
  |cons f b W=>
   intro d v M2 hd g k;have j:Ext M M2:=g.ext G hp;obtain⟨ok,w_,p1,p2,p3,Hf,G4,Hm,o,-⟩:=A.ext j;have hf:f<m:=fZ hl ((br _ _).1 (by rw[hd];simp));rw[show nats (f::b)=⇑f::nats b from rfl,aq];unfold iN;simp! only[List.set,k,o,wG,O];refine⟨rfl,trivial,a,m,a_,f,rfl,A.ext j,hf,λp4 M4 Ky u Y=>?_⟩;simp only[u p _ k,Y,db,BU];have nd:(d.flatMap (bU (aC a_) a_.length)).Nodup:=ml _ _ (by have:=jf left;rw[hd,List.nodup_append] at this;exact this.1);have R:(d.flatMap (bU (aC a_) a_.length)).length<=a_.length:=bM nd λx hx=>by
    obtain⟨f,_,hx⟩:=List.mem_flatMap.1 hx;exact(fD.1 hx).1
   have Qw:=vz (aC a_) a_.length f;have hsz:(2000:Nat)<sizeLine:=by decide
   refine⟨by omega,?_,?_⟩
   ·rw[az J]
    exact u _ _ (g _ _ J C)
   ·refine W (d++[f]) _ _ (by rw[hd];simp) ((g.trans u.but).trans (ExtBut.upd _ _ _)) ?_
    rw[aa,List.flatMap_append,List.flatMap_cons,List.flatMap_nil,ZA]
 exact n (memb left) [] none M1 rfl (ExtBut.refl p M1) P
theorem As(rs:Zj):intKeys (rowK rs)=some (rs.map λ(x:Nat)=>(x:Int)):=by
 induction rs with
 |nil=>rfl
 |cons r rs a=>
  show Option.map _ (intKeys (rowK rs))=_;rw[a];rfl
theorem tf{a_:Zy}{r f:Nat}{x:Row}(h:a_[r]?=some x):r∈bt (a_.map bJ) a_.length f↔aS (bJ x) f=true:=by
 unfold bt;rw[ZX,ZY];have hl:r<a_.length:=(YE.mp h).1;have:(a_.map bJ).getD r []=bJ x:=by rw[List.getD_eq_getElem?_getD,ZH,h];rfl
 rw[this];exact⟨λh=>h.2,λh=>⟨hl,h⟩⟩
theorem si(f0:cn.F.getD 0 Yl=cJ)(hT:cn.T S "rows_helped" = some (de c S))(OA:cn.T S "head_of" = some (gU c S))(h:df c S ds M Q):wSs cn gV (fin Q) (ae ["","","","","",""] ds) M:=by
 obtain⟨a,m,a_,b,e_,fs,left,rfl,A,hn,hb,hk,hf,q⟩:=h;show wSs cn gV (fin Q) [↑a,↑b,~~~left,none,none,none] M;have hm:=A.ok.most;unfold gV;simp! only[List.set];intro p hp;have L:Ext M (updM M p (MO.dic [])):=Ext.new hp;have g0:updM M p (MO.dic []) p=some (.dic (rowK [])):=aa;generalize updM M p (MO.dic [])=M1 at *;unfold jO;simp! only[List.set,L b _ hb,hk];have LS:b≠p:=bG hb hp;have outer:∀(n o:Zj) (rs:Zj) (v4 j:Zz) (M2:MH),fs=o++n->ExtBut p M1 M2->M2 p=some (.dic (rowK rs))->rs.Nodup->(∀r,r∈rs ↔ ∃x,a_[r]?=some x/\left.testBit x.1=true/\∃f∈o,aS (bJ x) f=true) ->
   aq (λM'=>M' b=some (.rod e_)) (.nm 4) (wSs cn eU) { nx:=wSs cn eR (fin Q),rt:=Q } (nats n) [↑a,↑b,~~~left,↑p,v4,j] M2:=by
  intro n;induction n with
  |nil=>
   intro o rs v4 j M2 hd O Y nd Z;rw[ZA] at hd;subst hd;rw[show nats []=[] from rfl,aq];unfold eR;simp! only[dBk,jo,Y,rdL,rdD,As,ot];have n_:rs.length<=a_.length:=bM nd λx hx=>by
    obtain⟨y,hy,_⟩:=(Z x).1 hx;exact(YE.mp hy).1
   refine⟨by rw[ZG];omega,λp2 ms C' P h2=>?_⟩;obtain⟨ns,rfl,h3,h4⟩:=kR P h2 nd;rw[nF];have R:Ext M M2:=O.ext L hp;exact q p2 ns _ (R.free C') (R.then C') aa h3 λr=>(h4 r).trans (Z r)
  |cons f n ih=>
   intro o rs v4 j M2 hd O Y nd Z;have R:Ext M M2:=O.ext L hp;have Ht:f<m:=hf f (by rw[hd];simp);obtain⟨ok,w_,p1,p2,p3,Hf,G4,Hm,P,-⟩:=A.ext R;rw[show nats (f::n)=⇑f::nats n from rfl,aq];unfold eU;simp! only[List.set,P,sg,hT];refine⟨trivial,a,m,a_,f,rfl,A.ext R,Ht,λp4 M4 Ky e4 g4=>?_⟩;simp only[g4];have LU:p4≠p:=λz=>by subst z;rw[Y] at Ky;cases Ky
   have u:∀(E:EndsD) (l B d:Zj) (j:Zz) (M5:MH),bt (a_.map bJ) a_.length f=B++l->ExtBut p M4 M5->M5 p=some (.dic (rowK d))->d.Nodup ->
     (∀r,r∈d↔(∃x,a_[r]?=some x/\left.testBit x.1=true/\∃f∈o,aS (bJ x) f=true)\/(r∈B/\∃x,a_[r]?=some x/\left.testBit x.1=true)) ->
     (∀U w C,ExtBut p M4 C->C p=some (.dic (rowK U))->U.Nodup->(∀r,r∈U↔(∃x,a_[r]?=some x/\left.testBit x.1=true/\∃f∈o,aS (bJ x) f=true)\/(r∈bt (a_.map bJ) a_.length f/\∃x,a_[r]?=some x/\left.testBit x.1=true)) ->
      E.nx [↑a,↑b,~~~left,↑p,~~~f,w] C) ->
     aq (λM'=>M' p4=some (.lst (nats (bt (a_.map bJ) a_.length f)))) (.nm 5) (wSs cn cu) E (nats l) [↑a,↑b,~~~left,↑p,~~~f,j] M5:=by
    intro E l;induction l with
    |nil=>
     intro B d j M5 V G g5 J K k;rw[ZA] at V;rw[←V] at K;rw[show nats []=[] from rfl,aq];exact k d j M5 G g5 J K
    |cons r l Kn=>
     intro B d j M5 V G g5 J K k;have IY:r<a_.length:=vA (show r∈bt (a_.map bJ) a_.length f by rw[V];simp);have hx:a_[r]?=some a_[r]:=ZE IY;generalize a_[r]=x at hx;have e5:Ext M M5:=((O.trans e4.but).trans G).ext L hp;obtain⟨ok,w_,p1,p2,p3,Hf,G4,Hm,P,-⟩:=A.ext e5;have Qx:bt (a_.map bJ) a_.length f=(B++[r])++l:=by rw[V];simp
     have Qy:M5 p4=some (.lst (nats (bt (a_.map bJ) a_.length f))):=G _ _ LU g4;have has:hasB (left:Int) (x.1:Int)=left.testBit x.1:=gR _ _;have body:∀(E:EndsD),Bif (left.testBit x.1) (E.nx [↑a,↑b,~~~left,↑p,~~~f,~~~r] (updM M5 p (.dic (rowK (if r∈d then d else d++[r]))))) (E.nx [↑a,↑b,~~~left,↑p,~~~f,~~~r] M5) ->
       wSs cn cu E [↑a,↑b,~~~left,↑p,~~~f,~~~r] M5:=by
      intro E kk;unfold cu;simp! only[List.set,P,rl,OA,f0];refine⟨trivial,a,m,a_,r,x,rfl,A.ext e5,hx,left,x.1,rfl,by omega,?_⟩;rw[has];cases bb:left.testBit x.1 with
      |false=>rw[bb] at kk;exact kk
      |true=>
       rw[bb] at kk;simp only[aI,g5,vB];have n_:d.length<=a_.length:=bM J λy hy=>by
        rcases(K y).1 hy with⟨z,hz,_⟩ | ⟨_,z,hz,_⟩<;>exact(YE.mp hz).1
       have hsz:(2000:Nat)<sizeLine:=by decide
       exact⟨by unfold rowK;rw[ZG];omega,kk⟩
     rw[show nats (r::l)=⇑r::nats l from rfl,aq];refine body _ ?_;cases bb:left.testBit x.1 with
     |false=>
      refine⟨Qy,Kn (B++[r]) d _ M5 Qx G g5 J (λW=>?_) k⟩;rw[K];constructor
      ·rintro(h | ⟨h,h'⟩)
       ·exact .inl h
       ·exact .inr ⟨YD.2 (.inl h),h'⟩
      ·rintro(h | ⟨h,h'⟩)
       ·exact .inl h
       ·rcases YD.1 h with h | h
        ·exact .inr ⟨h,h'⟩
        ·have:W=r:=by simpa using h
         subst this;obtain⟨y,hy,GJ⟩:=h';rw[hx] at hy;cases hy;rw[bb] at GJ;cases GJ
     |true=>
      refine⟨?_,Kn (B++[r]) (if r∈d then d else d++[r]) _ _ Qx (G.trans (ExtBut.upd _ _ _)) aa ?_ (λW=>?_) k⟩
      ·rw[az LU];exact Qy
      ·split
       ·exact J
       ·rename_i Su
        rw[List.nodup_append];refine⟨J,by simp,λy hy z hz w=>?_⟩;have hz:z=r:=by simpa using hz
        subst hz;subst w;exact Su hy
      ·have Qf:W∈(if r∈d then d else d++[r])↔W∈d\/W=r:=by
        split
        ·rename_i hi
         exact⟨.inl,λh=>h.elim id λz=>z▸hi⟩
        ·simp
       rw[Qf,K];constructor
       ·rintro((h | ⟨h,h'⟩) | h)
        ·exact .inl h
        ·exact .inr ⟨YD.2 (.inl h),h'⟩
        ·subst h
         exact .inr ⟨YD.2 (.inr (.head _)),x,hx,bb⟩
       ·rintro(h | ⟨h,h'⟩)
        ·exact .inl (.inl h)
        ·rcases YD.1 h with h | h
         ·exact .inl (.inr ⟨h,h'⟩)
         ·exact .inr (by simpa using h)
   refine u _ _ [] rs _ M4 rfl (ExtBut.refl p M4) (e4 _ _ Y) nd (λr=>?_) ?_
   ·rw[Z]
    constructor
    ·exact .inl
    ·rintro(h | ⟨h,-⟩)
     ·exact h
     ·cases h
   ·intro U w C b6 g6 Sv Sw
    have Qz:ExtBut p M1 C:=(O.trans e4.but).trans b6;refine⟨(Qz.ext L hp) _ _ hb,ih (o++[f]) U _ _ C (by rw[hd];simp) Qz g6 Sv λr=>?_⟩;rw[Sw];constructor
    ·rintro(⟨x,hx,hb1,g,hg,hh⟩ | ⟨h,x,hx,hb1⟩)
     ·exact⟨x,hx,hb1,g,YD.2 (.inl hg),hh⟩
     ·exact⟨x,hx,hb1,f,YD.2 (.inr (.head _)),(tf hx).1 h⟩
    ·rintro⟨x,hx,hb1,g,hg,hh⟩
     rcases YD.1 hg with hg | hg
     ·exact .inl ⟨x,hx,hb1,g,hg,hh⟩
     ·have:g=f:=by simpa using hg
      subst this;exact .inr ⟨(tf hx).2 hh,x,hx,hb1⟩
 exact outer fs [] [] none none M1 rfl (ExtBut.refl p M1) g0 .nil λr=>by simp
theorem rn(fr:Zp):keysOf (aR fr)=nats (fr.map (·.1)):=by unfold keysOf aR nats;rw[ZO,ZO];rfl
theorem yF(fr:Zp):intKeys (aR fr)=some ((fr.map (·.1)).map λ(x:Nat)=>(x:Int)):=by
 induction fr with
 |nil=>rfl
 |cons r rs a=>
  show Option.map _ (intKeys (aR rs))=_;rw[a];rfl
theorem nG(f:Nat):∀{fr:Zp}{r:Nat},(fr.map (·.1)).Nodup->(f,r)∈fr->valD (aR fr) (.inl (f:Int))= ~~~r
 |[],r,_,h=>nomatch h
 |(g,s)::fr,r,nd,h=>by
  rw[YM,YR] at nd;unfold valD;show Option.map _ (List.find? _ ((.inl (g:Int),⇑s)::aR fr))=_;rw[XI];by_cases e:g=f
  ·subst e
   rcases YC.1 h with h | h
   ·cases h;simp
   ·exact absurd (List.mem_map.2 ⟨_,h,rfl⟩) nd.1
  ·have h2:¬((g:Int)=(f:Int)):=by omega
   rw[show decide ((Sum.inl (g:Int):Key)=.inl (f:Int))=false by simp[h2]];rcases YC.1 h with h | h
   ·cases h;exact absurd rfl e
   ·exact nG f nd.2 h
theorem pL(f:Nat):∀{fr:Zp},(∀r,(f,r)∉fr)->valD (aR fr) (.inl (f:Int))=none/\((aR fr).any λb=>decide (b.1=(.inl (f:Int):Key)))=false
 |[],_=>⟨rfl,rfl⟩
 |(g,s)::fr,h=>by
  have e:g≠f:=λz=>by subst z;exact h s (.head _)
  have h2:¬((g:Int)=(f:Int)):=by omega
  have a:=pL f (fr:=fr) λr d=>h r (.tail _ d)
  constructor
  ·unfold valD
   show Option.map _ (List.find? _ ((.inl (g:Int),⇑s)::aR fr))=_;rw[XI,show decide ((Sum.inl (g:Int):Key)=.inl (f:Int))=false by simp[h2]];exact a.1
  ·show(List.any ((.inl (g:Int),⇑s)::aR fr) _)=false
   rw[XJ,a.2,show decide ((Sum.inl (g:Int):Key)=.inl (f:Int))=false by simp[h2]];rfl
theorem At{f r:Nat}{fr:Zp}(h:∀r,(f,r)∉fr):putD (aR fr) (.inl (f:Int)) (⇑r)=aR (fr++[(f,r)]):=by
 unfold putD;rw[(pL f h).2];unfold aR;rw[ZN];rfl
theorem pM(f0:cn.F.getD 0 Yl=fT c)(hT:cn.T S "head_of" = some (gU c S))(OA:cn.T S "conds_of" = some (iw c S))(h:cj c S ds M Q):wSs cn eV (fin Q) (ae ["","","","","","",""] ds) M:=by
 obtain⟨a,m,a_,b,ns,h,g,rfl,A,hb,JU,q⟩:=h;show wSs cn eV (fin Q) [↑a,↑b,~~~h,~~~g,none,none,none] M;have hm:=A.ok.most;unfold eV;simp! only[List.set];intro p hp;have O:Ext M (updM M p (MO.dic [])):=Ext.new hp;have g0:updM M p (MO.dic []) p=some (.dic (aR [])):=aa;generalize updM M p (MO.dic [])=M1 at *;unfold iz;simp! only[List.set,O b _ hb];have LS:b≠p:=bG hb hp;have outer:∀(k j:Zj) (fr:Zp) (P n:Zz) (M2:MH),ns=j++k->ExtBut p M1 M2->M2 p=some (.dic (aR fr))->(fr.map (·.1)).Nodup->(∀f r,(f,r)∈fr↔j.find? (hits a_ h g f)=some r) ->
   aq (λM'=>M' b=some (.lst (nats ns))) (.nm 5) (wSs cn b0) { nx:=wSs cn dg (fin Q),rt:=Q } (nats k) [↑a,↑b,~~~h,~~~g,↑p,P,n] M2:=by
  intro k;induction k with
  |nil=>
   intro j fr P n M2 hd o u nd l;rw[ZA] at hd;subst hd;rw[show nats []=[] from rfl,aq];unfold dg;simp! only[];exact q p fr M2 hp (o.ext O hp) u nd l
  |cons r k R=>
   intro j fr P n M2 hd o u nd l;have B:Ext M M2:=o.ext O hp;have IY:r<a_.length:=JU r (by rw[hd];simp);have hx:a_[r]?=some a_[r]:=ZE IY;generalize a_[r]=x at hx;have U:ns=(j++[r])++k:=by rw[hd];simp
   have J8:=vI A.ok hx;have Ht:∀f∈fr.map (·.1),f<m:=by
    intro f hf;obtain⟨⟨Z,d⟩,V,rfl⟩:=List.mem_map.1 hf;obtain⟨y,hy,Sx,_⟩:=cq.1 (List.find?_some ((l _ _).1 V));rw[←Sx];exact(vI A.ok hy).1
   have n_:fr.length<=m:=by have:=bM nd Ht;rwa [ZG] at this
   have body:∀(E:EndsD) (n:Zz),((∃d,(x.1,d)∈fr)->E.nx [↑a,↑b,~~~h,~~~g,↑p,~~~r,~~~x.1] M2) ->
     ((∀d,(x.1,d)∉fr)->∀G,Ext M2 G->Bif (aU h g x) (E.nx [↑a,↑b,~~~h,~~~g,↑p,~~~r,~~~x.1] (updM G p (.dic (aR (fr++[(x.1,r)]))))) (E.nx [↑a,↑b,~~~h,~~~g,↑p,~~~r,~~~x.1] G)) ->
     wSs cn b0 E [↑a,↑b,~~~h,~~~g,↑p,~~~r,n] M2:=by
    intro E n k1 k2;obtain⟨ok,w_,p1,p2,p3,Hf,G4,Hm,h1,-⟩:=A.ext B;unfold b0;simp! only[List.set,h1,rl,hT];refine⟨trivial,a,m,a_,r,x,rfl,A.ext B,hx,?_⟩;unfold iy;simp! only[List.set,h1,wH,OA,u,rdL,rdD,n6,f0];by_cases Jj:∃d,(x.1,d)∈fr
    ·obtain⟨d,K⟩:=Jj
     rw[nG x.1 nd K];exact k1 ⟨d,K⟩
    ·have C:∀d,(x.1,d)∉fr:=λd z=>Jj ⟨d,z⟩
     rw[(pL x.1 C).1];simp only[Option.isSome_none,Bool.not_false,aI];refine⟨trivial,a,m,a_,r,x,rfl,A.ext B,hx,λp4 rs M4 Ky e4 g4 c4=>?_⟩;refine⟨p4,h,g,rs,x.2,rfl,g4,c4,λt ht=>CT.fit_ok 'a' (J8.2.2 t ht),λM5 e5=>?_⟩;have L:=k2 C M5 (e4.trans e5);have rm:x.2.all (CT.carried (h:Int) (g:Int))=aU h g x:=rfl;rw[rm];cases bb:aU h g x with
     |false=>rw[bb] at L;exact L
     |true=>
      rw[bb] at L;have hsz:(2000:Nat)<sizeLine:=by decide
      simp only[aI,(e4.trans e5) p _ u,At C];exact⟨by unfold aR;rw[ZG];omega,L⟩
   rw[show nats (r::k)=⇑r::nats k from rfl,aq];refine body _ _ ?_ ?_
   ·rintro⟨d,K⟩
    refine⟨B _ _ hb,R (j++[r]) fr _ _ M2 U o u nd λf W=>?_⟩;rw[l,List.find?_append];by_cases hf:x.1=f
    ·subst hf
     rw[(l _ _).1 K];rfl
    ·have:hits a_ h g f r=false:=by unfold hits;rw[hx];simp[hf]
     rw[XI,this,List.find?_nil,Option.or_none]
   ·intro C G J
    have OB:j.find? (hits a_ h g x.1)=none:=by
     cases e:j.find? (hits a_ h g x.1) with
     |none=>rfl
     |some d=>exact absurd ((l _ _).2 e) (C d)
    cases bb:aU h g x with
    |false=>
     refine⟨(B.trans J) _ _ hb,R (j++[r]) fr _ _ G U (o.trans J.but) (J _ _ u) nd λf W=>?_⟩;rw[l,List.find?_append];have:hits a_ h g f r=false:=by unfold hits;rw[hx];simp[bb]
     rw[XI,this,List.find?_nil,Option.or_none]
    |true=>
     refine⟨?_,R (j++[r]) (fr++[(x.1,r)]) _ _ _ U ((o.trans J.but).trans (ExtBut.upd _ _ _)) aa ?_ λf W=>?_⟩
     ·rw[az LS];exact(B.trans J) _ _ hb
     ·rw[ZN,List.nodup_append]
      refine⟨nd,by simp,λy hy z hz w=>?_⟩;have hz:z=x.1:=by simpa using hz
      subst hz;subst w;obtain⟨⟨Z,d⟩,V,Y⟩:=List.mem_map.1 hy;have Y:Z=x.1:=Y;subst Y;exact C d V
     ·rw[YD,l,List.find?_append]
      by_cases hf:x.1=f
      ·subst hf
       have:hits a_ h g x.1 r=true:=by unfold hits;rw[hx];simp[bb]
       rw[OB,XI,this];simp only[Option.none_or,YC,List.not_mem_nil,or_false,Prod.mk.injEq,true_and,Option.some.injEq];constructor
       ·rintro(h | h)
        ·cases h
        ·exact h.symm
       ·exact λh=>.inr h.symm
      ·have:hits a_ h g f r=false:=by unfold hits;rw[hx];simp[hf]
       rw[XI,this,List.find?_nil,Option.or_none];constructor
       ·rintro(h | h)
        ·exact h
        ·have:f=x.1/\W=r:=by simpa using h
         exact absurd this.1.symm hf
       ·exact .inl
 exact outer ns [] [] none none M1 rfl (ExtBut.refl p M1) g0 .nil λf r=>by simp
end
def jP:Ss:=#v[.ret (.fn 0 #v[.var 0,.fn 1 #v[.mu0 "how_many" (.var 0)],.var 1,.var 2])]
def gW:Ss:=#v[.ret (.fn 0 #v[.comp 1 (.ix (.var 4) (.int 0)) (.nm 4) (.seq (.fn 1 #v[.var 0,.var 1,.var 2,.var 3])) .no])]
def iV:Ss:=#v[.ret (.var 4)]
def iX:Ss:=#v[.set 8 (.fn 0 #v[.var 0,.fn 1 #v[.var 0,.var 8,.var 5],.var 7,.var 3])]
def iY:Ss:=.cons (.set 6 (.bin .Add (.var 6) (.int 1))) iX
def iZ:Ss:=.cons (.set 5 (.bin .BitAnd (.var 5) (.inv (.var 9)))) iY
def i0:Ss:=.cons (.set 7 (.bin .BitOr (.var 7) (.var 9))) iZ
def i3:Ss:=.cons (.set 9 (.fn 2 #v[.var 8])) i0
def dN:Ss:=.cons (.expr (.mt .extend (.var 4) #v[.comp 1 (.tup #v[.var 10,.var 6,.ix (.var 8) (.var 10)]) (.nm 10) (.seq (.bk .sorted #v[.var 8])) .no])) i3
def i5:Ss:=.cons (.while (.cmp .Gt (.bi .len #v[.var 8]) (.int 0)) dN) iV
def i6:Ss:=.cons (.set 8 (.fn 0 #v[.var 0,.fn 3 #v[.var 0,.var 5],.var 7,.var 3])) i5
def i7:Ss:=.cons (.set 7 (.var 2)) i6
def iA:Ss:=.cons (.set 6 (.int 1)) i7
def iB:Ss:=.cons (.set 5 (.bin .BitAnd (.var 1) (.inv (.var 2)))) iA
def ga:Ss:=.cons (.setC 4 1 (.tup #v[.var 10,.int 0,.non]) (.nm 10) (.seq (.fn 4 #v[.var 2])) .no) iB
def oB(x:Nat×Nat×Nat):D:=.tup [⇑x.1,.int (x.2.1:Int),.int (x.2.2:Int)]
def mn(f:Nat):D:=.tup [⇑f,.int 0,.non]
def bX(a_:Zy)(g told d_:Nat):List D:=(memb told).map mn++(aP a_ g (aA d_ told+1) 1 told (aA d_ told)).map oB
def gX(c:CA)(S:Addr):SpD:=λds M Q=>∃(a:Addr) (m:Nat) (a_:Zy) (d_ told g:Nat),ds=[.ref a,⇑d_,⇑told,⇑g]/\SheetAt c S M a m a_/\a_.length<401/\m<121/\d_<2 ^ m/\told<2 ^ m /\
 ∀p M',M p=none->Ext M M'->M' p=some (.lst (bX a_ g told d_))->Q (.ref p) M'
def gf(c:CA)(S:Addr):SpD:=λds M Q=>∃(a:Addr) (m:Nat) (a_:Zy) (d_ told g:Nat),ds=[.ref a,⇑d_,⇑told,⇑g]/\SheetAt c S M a m a_/\a_.length<401/\m<121/\d_<2 ^ m/\told<2 ^ m /\
 ∀M',Ext M M'->Q (.int (mh a_ g told d_:Nat)) M'
def jg(c:CA)(S:Addr):SpD:=λds M Q=>∃(a:Addr) (m:Nat) (a_:Zy) (told g:Nat),ds=[.ref a,⇑told,⇑g]/\SheetAt c S M a m a_/\a_.length<401/\m<121/\told<2 ^ m /\
 ∀(n:Nat) M',d3 a_ told g n->n<2 ^ m->Ext M M'->Q (⇑n) M'
theorem tj(a_:Zy)(h g left:Nat):av a_ h g left=((memb left).filter λf=>(aV a_ h g f).isSome).map λf=>(f,(aV a_ h g f).getD 0):=by
 unfold av;induction memb left with
 |nil=>rfl
 |cons f l a=>
  rw[List.filterMap_cons,List.filter_cons];cases e:aV a_ h g f with
  |none=>simpa using a
  |some r=>simp[a,e]
theorem kT(n:Nat):(memb n).Pairwise (· < ·):=List.Pairwise.filter _ List.pairwise_lt_range
theorem BV{n m:Nat}(h:n<2 ^ m):(memb n).length<=m:=bM (jf n) λf hf=>fZ h ((br _ _).1 hf)
theorem nH(a_:Zy)(h g left:Nat):(av a_ h g left).map (·.1)=(memb left).filter λf=>(aV a_ h g f).isSome:=by
 rw[tj,ZO];exact List.map_id _
theorem mG(a_:Zy)(h g left:Nat):((av a_ h g left).map (·.1)).Pairwise (· < ·):=by
 rw[nH];exact List.Pairwise.filter _ (kT left)
theorem yG{l a:Zj}(h:∀f,f∈l↔f∈a):setN l=setN a:=by
 refine Nat.eq_of_testBit_eq λf=>?_
 rw[bq,bq];exact decide_eq_decide.2 (h f)
theorem tm{a_:Zy}{g:Nat}:∀(k k' step a left:Nat),left<k->left<k'->aP a_ g k step a left=aP a_ g k' step a left
 |0,_,_,_,_,h,_=>absurd h (Nat.not_lt_zero _)
 |_,0,_,_,_,_,h=>absurd h (Nat.not_lt_zero _)
 |k+1,k'+1,step,a,left,h,h'=>by
  rw[aP,aP];by_cases e:av a_ a g left=[]
  ·rw[if_pos e,if_pos e]
  ·rw[if_neg e,if_neg e]
   have:=mf e
   rw[tm k k' _ _ _ 'a' 'a']
theorem gh{a_:Zy}{g:Nat}:∀(k step a left:Nat),((aP a_ g k step a left).map (·.1)).Nodup/\∀f∈(aP a_ g k step a left).map (·.1),left.testBit f=true
 |0,_,_,_=>⟨.nil,λf h=>nomatch h⟩
 |k+1,step,a,left=>by
  rw[aP];by_cases e:av a_ a g left=[]
  ·rw[if_pos e];exact⟨.nil,λf h=>nomatch h⟩
  ·rw[if_neg e]
   obtain⟨b,h2⟩:=gh (a_:=a_) (g:=g) k (step+1) (a|||newB (av a_ a g left)) (aA left (newB (av a_ a g left)));have c:((av a_ a g left).map λx=>(x.1,step,x.2)).map (·.1)=(av a_ a g left).map (·.1):=by rw[ZO];rfl
   have d:∀f∈(av a_ a g left).map (·.1),left.testBit f=true:=by
    intro f hf;obtain⟨⟨l,r⟩,hx,rfl⟩:=List.mem_map.1 hf;exact(cr.1 hx).1
   rw[ZN,c];refine⟨?_,λf hf=>?_⟩
   ·rw[List.nodup_append]
    refine⟨(mG a_ a g left).imp λh=>ZW h,b,λx hx y hy z=>?_⟩;subst z
    have:=h2 x hy
    rw[a0] at this;have j:(newB (av a_ a g left)).testBit x=true:=by unfold newB;rw[bq];exact YX hx
    rw[j,Bool.not_true,Bool.and_false] at this;cases this
   ·rcases YD.1 hf with hf | hf
    ·exact d f hf
    ·have:=h2 f hf
     rw[a0,XA] at this;exact this.1
theorem yH{p:Nat->Bool}{ns:Zj}{n:Nat}(c:ns.Pairwise (· < ·))(hl:∀r∈ns,r<n)(hp:∀r,r<n->p r=true->r∈ns):ns.find? p=(List.range n).find? p:=by
 have d:ns.filter p=(List.range n).filter p:=mj (List.Pairwise.filter _ c) (List.Pairwise.filter _ List.pairwise_lt_range) λx=>by
  rw[ZX,ZX,ZY];exact⟨λ⟨a,b⟩=>⟨hl x a,b⟩,λ⟨a,b⟩=>⟨hp x a b,b⟩⟩
 rw[←List.head?_filter,←List.head?_filter,d]
theorem vJ{a_:Zy}{h g left:Nat}{ns:Zj}(c:ns.Pairwise (· < ·))(hl:∀r∈ns,∃x,a_[r]?=some x/\left.testBit x.1=true)(hp:∀f r,left.testBit f=true->hits a_ h g f r=true->r∈ns)(f r:Nat):
  ns.find? (hits a_ h g f)=some r↔left.testBit f=true/\aV a_ h g f=some r:=by
 cases b:left.testBit f with
 |true=>
  unfold aV;rw[yH c (λr a=>let⟨x,hx,_⟩:=hl r a;(YE.mp hx).1) λr _ q=>hp f r b q];simp
 |false=>
  have:ns.find? (hits a_ h g f)=none:=by
   rw[List.find?_eq_none];intro r a q;obtain⟨x,hx,hb⟩:=hl r a;obtain⟨y,hy,hf,_⟩:=cq.1 q;rw[hx] at hy;cases hy;rw[hf,b] at hb;cases hb
  rw[this];simp
def dv(a_:Zy)(a g left:Nat)(fr:Zp):Prop:=(fr.map (·.1)).Nodup/\∀f r,(f,r)∈fr↔left.testBit f=true/\aV a_ a g f=some r
theorem dv.mem{a_:Zy}{a g left:Nat}{fr:Zp}(h:dv a_ a g left fr)(f:Nat):f∈fr.map (·.1)↔f∈(av a_ a g left).map (·.1):=by
 rw[List.mem_map,List.mem_map];constructor
 ·rintro⟨⟨f',r⟩,hx,rfl⟩;exact⟨_,cr.2 ((h.2 _ _).1 hx),rfl⟩
 ·rintro⟨⟨f',r⟩,hx,rfl⟩;exact⟨_,(h.2 _ _).2 (cr.1 hx),rfl⟩
theorem dv.nil{a_:Zy}{a g left:Nat}{fr:Zp}(h:dv a_ a g left fr)(e:fr.length=0):av a_ a g left=[]:=by
 have e:fr=[]:=List.length_eq_zero_iff.1 e;subst e;cases q:av a_ a g left with
 |nil=>rfl
 |cons x l=>
  have:=(h.mem x.1).2 (by rw[q];exact .head _)
  cases this
theorem yI{m:Nat}{a_:Zy}{a g left:Nat}{fr:Zp}{ns:Zj}(ok:RowsOk m a_)(h:dv a_ a g left fr)(l:ns.Pairwise (· < ·))
  (c:∀r,r∈ns ↔ ∃x,a_[r]?=some x/\(aA left (setN (fr.map (·.1)))).testBit x.1=true/\∃f∈fr.map (·.1),aS (bJ x) f=true) (f r:Nat):
  ns.find? (hits a_ (a|||setN (fr.map (·.1))) g f)=some r↔(aA left (setN (fr.map (·.1)))).testBit f=true/\aV a_ (a|||setN (fr.map (·.1))) g f=some r:=by
 refine vJ l (λr n=>let⟨x,hx,hb,_⟩:=(c r).1 n;⟨x,hx,hb⟩) ?_ f r;intro f r hf o;obtain⟨x,hx,rfl,hq⟩:=cq.1 o;refine(c r).2 ⟨x,hx,hf,?_⟩;rw[a0,XA,bq] at hf;have p:x.1∉fr.map (·.1):=by simpa using hf.2
 have u:aV a_ a g x.1=none:=by
  cases e:aV a_ a g x.1 with
  |none=>rfl
  |some A=>exact absurd (List.mem_map.2 ⟨_,(h.2 _ _).2 ⟨hf.1,e⟩,rfl⟩) p
 obtain⟨d,j,h2,b⟩:=wF (kP u (YV hx) rfl) hq;obtain⟨t,ht,y⟩:=List.mem_flatMap.1 j;have z:=sZ ((vI ok hx).2.2 t ht) _ y;obtain⟨k,rfl⟩:∃k:Nat,d=(k:Int):=⟨d.toNat,by have:=z.1;simp only at this;omega⟩;rw[gR] at h2 b;rw[Nat.testBit_or,h2,Bool.false_or,bq] at b;exact⟨k,XS b,YX j⟩
section
variable {cn:Cn}{c:CA}{S:Addr}{ds:List D}{M:MH}{Q:DK}
theorem Au(f0:cn.F.getD 0 Yl=cj c S)(f1:cn.F.getD 1 Yl=df c S)(f2:cn.F.getD 2 Yl=gS)
  {E:EndsD}{a p b:Addr}{m:Nat}{a_:Zy}{d_ told g left step j:Nat}{fr:Zp}{h_:List D}{G:Zz}{M0 M:MH}(A:SheetAt c S M0 a m a_) (hn:a_.length<401) (hm:m<121) (hl:left<2 ^ m) (V:Ext M0 M) (KZ:M0 p=none) (Sz:M0 b=none)
  (hp:M p=some (.lst h_)) (hb:M b=some (.dic (aR fr))) (F:dv a_ j g left fr) (z_:h_.length+130<=2000)
  (k:∀b' W w9 M',Ext M0 M'->M0 b'=none->M' p=some (.lst (h_++(av a_ j g left).map λx=>oB (x.1,step,x.2)))->M' b'=some (.dic (aR W)) ->
   dv a_ (j|||newB (av a_ j g left)) g (aA left (newB (av a_ j g left))) W ->
   E.nx [↑a,~~~d_,~~~told,~~~g,↑p,some (.int (aA left (newB (av a_ j g left)):Nat)),some (.int ((step+1:Nat):Int)),some (.int (j|||newB (av a_ j g left):Nat)),↑b',w9] M'):
  wSs cn dN E [↑a,~~~d_,~~~told,~~~g,↑p,~~~left,~~~step,~~~j,↑b,G] M:=by
 have J9:newB (av a_ j g left)=setN (fr.map (·.1)):=yG λf=>(F.mem f).symm
 have n:∀f∈fr.map (·.1),f<m:=by
  intro f hf;obtain⟨⟨J,r⟩,hx,rfl⟩:=List.mem_map.1 hf;exact fZ hl ((F.2 _ _).1 hx).1
 have Oo:fr.length<=m:=by have:=bM F.1 n;rwa [ZG] at this
 have hsz:(2000:Nat)<sizeLine:=by decide
 unfold dN;simp! only[List.set,List.cons_append,XF,List.replicate,dBk,jo,hp,hb,rdL,rdD,yF,ot];refine⟨rfl,by rw[ZG,ZG];omega,λp2 ms Y Z h2=>?_⟩;obtain⟨ns,rfl,K,u⟩:=kR Z h2 F.1;rw[nF];have L:ns=(av a_ j g left).map (·.1):=mj K (mG _ _ _ _) λf=>(u f).trans (F.mem f)
 have O:=Ext.new (o:=MO.lst (nats ns)) Y;have P:updM M p2 (MO.lst (nats ns)) p2=some (.lst (nats ns)):=aa;generalize updM M p2 (MO.lst (nats ns))=R at *;simp only[P];refine bR (f:=λd=>match d with | .int i=>.tup [.int i,⇑step,.int ((aV a_ j g i.toNat).getD 0:Nat)] | _=>.non) (ok:=λσ=>∃v,σ=[↑a,~~~d_,~~~told,~~~g,↑p,~~~left,~~~step,~~~j,↑b,G,v]) [] _ ⟨none,rfl⟩ ?_ ?_
 ·intro d hd σ E_ rest ⟨v,hv⟩ kk
  subst hv;obtain⟨f,hf,rfl⟩:=List.mem_map.1 hd;obtain⟨⟨J,r⟩,hx,rfl⟩:=List.mem_map.1 ((u f).1 hf);have hv:=nG J F.1 hx;have T:=((F.2 _ _).1 hx).2;rw[aE];simp! only[List.set,O b _ hb,hv];refine⟨P,?_⟩
  have:=kk [↑a,~~~d_,~~~told,~~~g,↑p,~~~left,~~~step,~~~j,↑b,G,~~~J] ⟨_,rfl⟩
  dsimp only at this;rw[YY,T] at this;exact this
 intro U Ky;have HF:([]++(nats ns).map λd=>match d with | .int i=>D.tup [.int i,⇑step,.int ((aV a_ j g i.toNat).getD 0:Nat)] | _=>.non)=(av a_ j g left).map λx=>oB (x.1,step,x.2):=by
  rw[XF,L,tj,ZO,ZO];unfold nats;rw[ZO];rw[show((λ(x:Nat×Nat)=>x.1)∘λf=>(f,(aV a_ j g f).getD 0))=id from rfl,List.map_id];rfl
 rw[HF];have TR:((av a_ j g left).map λx=>oB (x.1,step,x.2)).length<=130:=by
  have h5:ns.length=(av a_ j g left).length:=by rw[L,ZG]
  have h6:ns.length<=m:=bM (K.imp λh=>ZW h) λf hf=>n f ((u f).1 hf)
  rw[ZG];omega
 generalize hnw:((av a_ j g left).map λx=>oB (x.1,step,x.2))=new at *;have y:=O.trans (Ext.new (o:=MO.lst new) Ky);have g4:updM R U (MO.lst new) U=some (.lst new):=aa;generalize updM R U (MO.lst new)=l at *;simp only[y p _ hp,g4];refine⟨by omega,?_⟩;have e5:Ext M0 (updM l p (.lst (h_++new))):=(V.trans y).put KZ;have g5:updM l p (MO.lst (h_++new)) p=some (.lst (h_++new)):=aa;have LS:b≠p:=λz=>by subst z;rw[hp] at hb;cases hb
 have b5:updM l p (MO.lst (h_++new)) b=some (.dic (aR fr)):=by rw[az LS];exact y _ _ hb
 generalize updM l p (MO.lst (h_++new))=M5 at *;clear y g4 Ky O P Y HF Z h2 L K u hb hp V;clear R l M;unfold i3;simp! only[List.set,f2];refine⟨.ref b,fr.map (·.1),updM M5 b (.rod (aR fr)),rfl,.inr ⟨b,rfl,.inr ⟨aR fr,rn fr,.inl ⟨b5,rfl⟩⟩⟩,λf hf=>by have:=n f hf;omega,?_⟩;have B:Ext M0 (updM M5 b (.rod (aR fr))):=e5.put Sz;have b6:updM M5 b (MO.rod (aR fr)) b=some (.rod (aR fr)):=aa;have g6:updM M5 b (MO.rod (aR fr)) p=some (.lst (h_++new)):=by rw[az LS.symm];exact g5
 generalize updM M5 b (MO.rod (aR fr))=M6 at *;unfold i0;simp! only[List.set,vq];unfold iZ;simp! only[wInv,List.set,ra];unfold iY;simp! only[List.set];unfold iX;simp! only[List.set,f0,f1];refine⟨a,m,a_,b,aR fr,fr.map (·.1),_,rfl,A.ext B,hn,b6,rn fr,n,λp7 SA M7 TU C g7 s7 r7=>?_⟩;refine⟨a,m,a_,p7,SA,_,g,rfl,A.ext (B.trans C),g7,λr T=>?_,λp8 SD M8 SE e8 g8 n8 r8=>?_⟩
 ·obtain⟨x,hx,_⟩:=(r7 r).1 T
  exact(YE.mp hx).1
 have:=k p8 SD (some (.int (setN (fr.map (·.1)):Nat))) M8 ((B.trans C).trans e8) ((B.trans C).free SE) ((C.trans e8) _ _ g6) g8
 rw[J9] at this;exact this ⟨n8,λf r=>(r8 f r).trans (yI A.ok F s7 r7 f r)⟩
end
theorem wL{m:Nat}{a_:Zy}{g told d_:Nat}(c:told<2 ^ m)(h2:d_<2 ^ m):(bX a_ g told d_).length<=2*m:=by
 unfold bX;rw[ZM,ZG,ZG];have a:=BV c;obtain⟨nd,hf⟩:=gh (a_:=a_) (g:=g) (aA d_ told+1) 1 told (aA d_ told);have b:=bM (n:=m) nd λf q=>fZ h2 (by have:=hf f q;rw[a0,XA] at this;exact this.1)
 rw[ZG] at b;omega
section
variable {cn:Cn}{c:CA}{S:Addr}{ds:List D}{M:MH}{Q:DK}
theorem Av (L:cn.F.getD 0 Yl = cj c S) (f1:cn.F.getD 1 Yl = df c S) (f2:cn.F.getD 2 Yl = gS) (f3:cn.F.getD 3 Yl = kl c S) (f4:cn.F.getD 4 Yl = fz)
  (h:gX c S ds M Q):wSs cn ga (fin Q) (ae ["","","","","","","","","",""] ds) M:=by
 obtain ⟨a,m,a_,d_,told,g,rfl,A,hn,hm,hh,ht,q⟩:=h
 show wSs cn ga (fin Q) [↑a,~~~d_,~~~told,~~~g,none,none,none,none,none,none] M
 have TV:=wL (a_:=a_) (g:=g) ht hh
 unfold ga
 simp! only [List.cons_append,XF,List.replicate,f4]
 refine ⟨told,rfl,ZU ht (Nat.pow_le_pow_right 'b' 'a'),λp0 M1 KZ u y=>?_⟩
 simp only [y]
 refine bR (f:=λd=>.tup [d,.int 0,.non]) (ok:=λσ=>∃ v,σ = [↑a,~~~d_,~~~told,~~~g,none,none,none,none,none,none,v]) [] _ ⟨none,rfl⟩ ?_ ?_
 ·intro d hd σ E_ rest ⟨v,hv⟩ kk
  subst hv
  exact ⟨y,kk _ ⟨_,rfl⟩⟩
 intro p hp
 have HF:([] ++ (nats (memb told)).map λd=>D.tup [d,.int 0,.non]) = (memb told).map mn:=by
  rw [XF]; unfold nats; rw [ZO]; rfl
 rw [HF]
 have l:Ext M (updM M1 p (.lst ((memb told).map mn))):=u.then hp
 have g2:updM M1 p (MO.lst ((memb told).map mn)) p = some (.lst ((memb told).map mn)):=aa
 have O:M p = none:=u.free hp
 generalize updM M1 p (MO.lst ((memb told).map mn)) = M2 at *
 clear hp u y KZ
 clear M1
 unfold iB
 simp! only [wInv,List.set,ra]
 unfold iA
 simp! only [List.set]
 unfold i7
 simp! only [List.set]
 unfold i6
 simp! only [List.set,L,f3]
 have hl:aA d_ told < 2 ^ m:=by have:=l7 d_ told; omega
 refine ⟨a,m,a_,aA d_ told,rfl,A.ext l,hn,hl,λp3 ns M3 Il n g3 s3 B=>?_⟩
 refine ⟨a,m,a_,p3,ns,told,g,rfl,A.ext (l.trans n),g3,λr C=>?_,λb fr P hb R g4 n4 r4=>?_⟩
 ·obtain ⟨x,hx,_⟩:=(B r).1 C
  exact (YE.mp hx).1
 have F4:dv a_ told g (aA d_ told) fr:=⟨n4,λf r=>(r4 f r).trans (vJ s3 (λr C=>(B r).1 C) (λf r h1 h2=>by
  obtain ⟨x,hx,rfl,_⟩:=cq.1 h2
  exact (B r).2 ⟨x,hx,h1⟩) f r)⟩
 have SF:M b = none:=(l.trans n).free hb
 have e5:Ext M P:=(l.trans n).trans R
 have g5:P p = some (.lst ((memb told).map mn)):=(n.trans R) _ _ g2
 unfold i5
 show vf _ _ _ _ _
 refine ⟨λk σ M'=>∃ (left step j:Nat) (b:Addr) (fr:List (Nat × Nat)) (G:Zz) (h_:List D),left = k/\σ = [↑a,~~~d_,~~~told,~~~g,↑p,~~~left,~~~step,~~~j,↑b,G] /\
  Ext M M'/\M b = none/\M' p = some (.lst h_)/\M' b = some (.dic (aR fr))/\dv a_ j g left fr/\left < 2 ^ m/\h_ ++ (aP a_ g (left + 1) step j left).map oB = bX a_ g told d_,?_,?_⟩
 ·exact ⟨_,aA d_ told,1,told,b,fr,none,_,rfl,rfl,e5,SF,g5,g4,F4,hl,rfl⟩
 rintro k σ M' ⟨left,step,j,b,fr,G,h_,rfl,rfl,T,OC,U,V,J,QA,o⟩
 have LV:=congrArg List.length o
 rw [ZM] at LV
 have Lv:∀ K:Bool->MH->Prop,K (decide (0 < (fr.length:Int))) M'->wT cn (.cmp .Gt (.bi .len (.cons (.var 8) .nil)) (.int 0)) [↑a,~~~d_,~~~told,~~~g,↑p,~~~left,~~~step,~~~j,↑b,G] M' K:=by
  intro K hK
  simp! only [List.set,V]
  rw [show (aR fr).length = fr.length by unfold aR; rw [ZG]]
  exact hK
 refine Lv _ ?_
 by_cases hz:fr.length = 0
 ·rw [ZS 'a']
  have HZ:=J.nil hz
  rw [aP,if_pos HZ,XB,ZA] at o
  rw [ax]
  dsimp only
  unfold iV
  simp! only [List.set]
  refine q p M' O T ?_
  rw [U,o]
 ·rw [YX 'a']
  have W:av a_ j g left ≠ []:=λz=>by
   have hx:fr ≠ []:=λw=>hz (by rw [w]; rfl)
   obtain ⟨x,hx⟩:=List.exists_mem_of_ne_nil _ hx
   have:=(J.mem x.1).1 (List.mem_map.2 ⟨x,hx,rfl⟩)
   rw [z] at this; cases this
  have Y:=mf W
  rw [aI]
  refine ⟨λk_ Z=>∃ k',k' < left/\_,λk_ Z h=>h,?_⟩
  refine Au L f1 f2 A hn hm QA T O OC U V J 'a' ?_
  intro b' MM w9 Z e7 SI g7 d7 F7
  refine ⟨_,Y,_,step + 1,_,b',MM,w9,_,rfl,rfl,e7,SI,g7,d7,F7,by omega,?_⟩
  have r1:aP a_ g (left + 1) step j left = (av a_ j g left).map (λx=>(x.1,step,x.2)) ++ aP a_ g left (step + 1) (j ||| newB (av a_ j g left)) (aA left (newB (av a_ j g left))):=by rw [aP,if_neg W]
  rw [← o,r1,ZN,ZO,ZC,tm (aA left (newB (av a_ j g left)) + 1) left _ _ _ 'a' Y]
  rfl
theorem sj(k:cn.F.getD 0 Yl=gS)(l:cn.F.getD 1 Yl=gX c S)(h:gf c S ds M Q):wSs cn gW (fin Q) (ae ["","","",""] ds) M:=by
 obtain⟨a,m,a_,d_,told,g,rfl,A,hn,hm,b,ht,q⟩:=h;show wSs cn gW (fin Q) [↑a,~~~d_,~~~told,~~~g] M;unfold gW;simp! only[List.cons_append,XF,List.replicate,k,l];refine⟨a,m,a_,d_,told,g,rfl,A,hn,hm,b,ht,λp M1 hp n j=>?_⟩;simp only[j];have o:∀d∈bX a_ g told d_,∃(f:Nat) (r:List D),d=.tup (⇑f::r):=by
  intro d hd;rcases YD.1 hd with hd | hd
  ·obtain⟨f,_,rfl⟩:=List.mem_map.1 hd
   exact⟨f,_,rfl⟩
  ·obtain⟨x,_,rfl⟩:=List.mem_map.1 hd
   exact⟨x.1,_,rfl⟩
 refine bR (f:=λd=>match d with | .tup (h::_)=>h | _=>.non) (ok:=λσ=>∃v,σ=[↑a,~~~d_,~~~told,~~~g,v]) [] _ ⟨none,rfl⟩ ?_ ?_
 ·intro d hd σ z rest ⟨v,hv⟩ kk
  subst hv;obtain⟨f,r,rfl⟩:=o d hd;rw[aE];simp! only[List.set,at0];exact⟨j,kk _ ⟨_,rfl⟩⟩
 intro p2 u;have y:([]++(bX a_ g told d_).map λd=>match d with | .tup (h::_)=>h | _=>.non)=nats (memb told++(aP a_ g (aA d_ told+1) 1 told (aA d_ told)).map (·.1)):=by
  rw[XF];unfold bX nats;rw[ZN,ZN,ZO,ZO,ZO];rfl
 rw[y];refine⟨.ref p2,_,_,rfl,.inr ⟨p2,rfl,.inl ⟨aa,rfl⟩⟩,?_,?_⟩
 ·intro f hf
  rcases YD.1 hf with hf | hf
  ·have:=fZ ht ((br _ _).1 hf);omega
  ·have:=(gh _ _ _ _).2 f hf
   rw[a0,XA] at this
   have:=fZ b this.1
   omega
 ·have:setN (memb told++(aP a_ g (aA d_ told+1) 1 told (aA d_ told)).map (·.1))=mh a_ g told d_:=by
   refine Nat.eq_of_testBit_eq λf=>?_
   unfold mh;rw[Nat.testBit_or,bq,bq];cases e:told.testBit f with
   |true=>rw[Bool.true_or];exact YX (YD.2 (.inl ((br _ _).2 e)))
   |false=>
    rw[Bool.false_or];refine decide_eq_decide.2 ⟨λh=>?_,λh=>YD.2 (.inr h)⟩;rcases YD.1 h with h | h
    ·rw[(br _ _).1 h] at e;cases e
    ·exact h
  rw[this];exact q _ (n.then u)
theorem vK(d:cn.T S "how_many" = some (fB c S))(j:cn.F.getD 0 Yl=gf c S)(k:cn.F.getD 1 Yl=dr)(h:jg c S ds M Q):wSs cn jP (fin Q) (ae ["","",""] ds) M:=by
 obtain⟨a,m,a_,told,g,rfl,A,hn,hm,ht,q⟩:=h;show wSs cn jP (fin Q) [↑a,~~~told,~~~g] M;obtain⟨ok,w_,p1,p2,p3,Hf,G4,Hm,l,-⟩:=A.ext (Ext.refl M);have o:1<=2 ^ m:=Nat.one_le_two_pow;unfold jP;simp! only[l,o0,d,j,k];refine⟨trivial,a,m,a_,rfl,A,m,rfl,by omega,a,m,a_,2 ^ m-1,told,g,rfl,A,hn,hm,by omega,ht,λM' e'=>?_⟩;have b:∀f,f<m->(2 ^ m-1).testBit f=true:=λf hf=>by rw[Nat.testBit_two_pow_sub_one];exact YX hf
 have L:=mi (a_:=a_) (g:=g) (told:=told) (d_:=2 ^ m-1) λx hx=>b x.1 (ok.fit x hx).1
 have n:Sub (mh a_ g told (2 ^ m-1)) (2 ^ m-1):=L.2 _ ⟨λf hf=>b f (fZ ht hf),λx hx _=>b x.1 (ok.fit x hx).1⟩;refine q _ M' L ?_ e';refine Nat.lt_pow_two_of_testBit _ λf hf=>?_
 cases e:(mh a_ g told (2 ^ m-1)).testBit f with
 |false=>rfl
 |true=>
  have:=n f e
  rw[Nat.testBit_two_pow_sub_one] at this
  have:=XS this
  omega
end
def cellAt(ns:Zi)(k:Nat):Int:=(ns[k]?).getD 0
def dh:SpD:=λds M Q=>∃(a:Addr) (ns:Zi) (k:Nat),ds=[.ref a,⇑k]/\M a=some (.rol (ns.map .int))/\Q (.int (cellAt ns k)) M
def dS:SpD:=λds M Q=>∃(p:Addr) (b k:Int) (m:Nat),ds=[.ref p,⇑m]/\M p=some (.lst [.int b,.int k])/\(0<m/\m<1000)/\∀(v:Nat) (b':Int),v<m->Q (⇑v) (updM M p (.lst [.int b',.int k]))
def Ee:SpD:=λds M Q=>∃i:Int,ds=[.int i]/\Q (.bl true) M
structure Box2 (p:Addr) (k:Int) (M M':MH) (b:Int):Prop where
 but:ExtBut p M M'
 at_:M' p=some (.lst [.int b,.int k])
theorem ExtBut.put{p r:Addr}{o:MO}{M M':MH}(h:ExtBut p M M')(b:M r=none):ExtBut p M (updM M' r o):=λa u n q=>by
 have:a≠r:=λz=>by subst z;rw[b] at q;cases q
 rw[az this];exact h a u n q
theorem Box2.draw{p:Addr}{k b:Int}{M M':MH}(h:Box2 p k M M' b)(b':Int):Box2 p k M (updM M' p (.lst [.int b',.int k])) b':=⟨h.but.trans (ExtBut.upd _ _ _),aa⟩
theorem Box2.ext{p:Addr}{k b:Int}{M M' a:MH}(h:Box2 p k M M' b)(e:Ext M' a):Box2 p k M a b:=⟨h.but.trans e.but,e _ _ h.at_⟩
theorem Box2.put{p r:Addr}{k b:Int}{o:MO}{M M':MH}(h:Box2 p k M M' b)(a:M r=none)(hp:M p≠none):Box2 p k M (updM M' r o) b:=⟨h.but.put a,by
 have:p≠r:=λz=>by subst z;exact hp a
 rw[az this];exact h.at_⟩
def jQ:Ss:=#v[.ret (.int 0)]
def gY:Ss:=.cons (.ite (.cmp .Lt (.var 1) (.bi .len #v[.var 0])) #v[.ret (.ix (.var 0) (.var 1))] .nil) jQ
def mH:Ss:=#v[.ret (.bin .Mod (.bin .Mod (.bin .Mult (.var 3) (.var 3)) (.int 2147483587)) (.var 1))]
def mI:Ss:=.cons (.set 3 (.bin .Mod (.bin .Add (.bin .Mult (.ix (.var 0) (.int 0)) (.ix (.var 0) (.int 0))) (.int 12345)) (.int 2147483629))) mH
def mJ:Ss:=.cons (.putIx (.var 0) (.int 0) (.bin .Mod (.bin .Add (.bin .Mult (.ix (.var 0) (.int 0)) (.int 48271)) (.int 7919)) (.int 2147483647))) mI
def mK:Ss:=#v[.ret (.var 2)]
def mL:Ss:=.cons (.putIx (.var 0) (.int 0) (.bin .FloorDiv (.ix (.var 0) (.int 0)) (.var 1))) mK
def kU:Ss:=.cons (.ite (.cmp .Eq (.bin .Mod (.ix (.var 0) (.int 1)) (.int 2)) (.int 1)) (.cons (.set 2 (.bin .Mod (.ix (.var 0) (.int 0)) (.var 1))) mL) .nil) mJ
def lA:Ss:=#v[.ret (.and (.bi .isinst #v[.var 0,.ty "int"]) (.not (.bi .isinst #v[.var 0,.ty "bool"])))]
def dw:Ss:=.cons (.ite (.or (.cmp .Is (.var 0) .non) (.val (.bi .isinst #v[.var 0,.ty "str"]))) #v[.ret (.bl true)] .nil) lA
def gZ:Ss:=#v[.ret (.bl true)]
def dy:Ss:=#v[.ite (.not (.val (.fn 0 #v[.var 1]))) #v[.ret (.bl false)] .nil]
def aW:Ss:=.cons (.ite (.val (.bi .isinst #v[.var 0,.tup #v[.ty "tuple",.ty "list"]])) (.cons (.for (.nm 1) (.seq (.var 0)) dy) gZ) .nil) dw
theorem modB{y m:Int}(h:0<m):0<=y%m/\y%m<m:=⟨Int.emod_nonneg _ 'a',Int.emod_lt_of_pos _ h⟩
theorem ix00(x y:D):atI [x,y] 0=some x:=at0 x [y]
theorem ix01(x y:D):atI [x,y] 1=some y:=at1 x y []
theorem Cz(x y:D):ixN ([x,y]:List D).length 0=some 0:=rfl
section
variable {cn:Cn}{ds:List D}{M:MH}{Q:DK}
theorem yJ(h:dh ds M Q):wSs cn gY (fin Q) (ae ["",""] ds) M:=by
 obtain⟨a,ns,k,rfl,b,q⟩:=h;show wSs cn gY (fin Q) [↑a,~~~k] M;unfold gY;simp! only[b,ZG];unfold cellAt at q;refine xb (λc=>?_) (λc=>?_)
 ·have hk:k<ns.length:=by omega
  rw[dk (by rw[ZH,ZE hk];rfl)];rw[ZE hk] at q;exact q
 ·have hk:ns.length<=k:=by omega
  rw[ZK hk] at q;unfold jQ;simp! only[];exact q
theorem Ef(h:dS ds M Q):wSs cn kU (fin Q) (ae ["","","",""] ds) M:=by
 obtain⟨p,b,k,m,rfl,a,hm,q⟩:=h;show wSs cn kU (fin Q) [↑p,~~~m,none,none] M;have done:∀(z b':Int),Q (.int (z%(m:Int))) (updM M p (.lst [.int b',.int k])):=by
  intro z b';have c:=modB (y:=z) (m:=(m:Int)) 'a'
  have:=q (z%(m:Int)).toNat b' 'a'
  rwa [Int.toNat_of_nonneg c.1] at this
 unfold kU;simp_all! only[List.set,a,ix00,ix01];refine⟨by decide,?_⟩;refine Bif2 (λ_=>?_) (λ_=>?_)
 ·refine⟨by omega,?_⟩
  unfold mL;simp! only[List.set,a,ix00,ix01,Cz];refine⟨⟨by omega,by omega⟩,?_⟩;unfold mK;simp! only[List.set];exact done _ _
 ·unfold mJ
  simp! only[List.set,a,ix00,ix01,Cz];refine⟨.inr ⟨by decide,by decide⟩,by decide,?_⟩;have d:=modB (y:=b*48271+7919) (m:=2147483647) 'b';generalize (b*48271+7919)%2147483647=y at *;unfold mI;simp! only[List.set,aa,ix00,ix01];refine⟨.inl ⟨by omega,by omega⟩,by decide,?_⟩;have f:=modB (y:=y*y+12345) (m:=2147483629) 'b';generalize (y*y+12345)%2147483629=z at *;unfold mH;simp! only[List.set];exact⟨.inl ⟨by omega,by omega⟩,by decide,by omega,done _ _⟩
theorem BW(h:Ee ds M Q):wSs cn aW (fin Q) (ae ["",""] ds) M:=by
 obtain⟨i,rfl,q⟩:=h;show wSs cn aW (fin Q) [some (.int i),none] M;unfold aW;simp! only[tyD,tysD];refine⟨by decide,?_⟩;show Bif false _ _;unfold dw;simp! only[tyD];refine⟨trivial,by decide,?_⟩;show Bif false _ _;unfold lA;simp! only[tyD];refine⟨by decide,?_⟩;show Bif true _ _;refine⟨by decide,?_⟩;exact q
end
def mM:Ss:=#v[.ret (.tup #v[.str "lead",.bi .tuple #v[.var 4],.fn 0 #v[.var 0,.bi .len #v[.var 4]]])]
def d4:Ss:=.cons (.ite (.cmp .Eq (.var 2) (.int 4)) #v[.ret (.tup #v[.str "some",.bin .Add (.int 1) (.fn 0 #v[.var 0,.bi .min #v[.int 6,.bin .Add (.bi .len #v[.var 4]) (.int 1)]]),.bi .tuple #v[.var 4]])] .nil) mM
def d8:Ss:=#v[.expr (.mt .append (.var 4) #v[.mt .pop (.var 3) #v[.fn 0 #v[.var 0,.bi .len #v[.var 3]]]])]
def mN:Ss:=.cons (.for (.nm 5) (.rg1 #v[.bin .Add (.int 1) (.fn 0 #v[.var 0,.bi .min #v[.var 1,.int 6]])]) d8) d4
def mO:Ss:=.cons (.set 4 (.lst .nil)) mN
def mP:Ss:=.cons (.set 3 (.lrg #v[.var 1])) mO
def mQ:Ss:=.cons (.ite (.cmp .Lt (.var 2) (.int 4)) #v[.ret (.tup #v[.ix (.lst #v[.str "have",.str "lack"]) (.bin .Mod (.var 2) (.int 2)),.fn 0 #v[.var 0,.var 1]])] .nil) mP
def kW:Ss:=.cons (.set 2 (.fn 0 #v[.var 0,.int 6])) mQ
def iC:SpD:=λds M Q=>∃(p:Addr) (b k:Int) (m:Nat),ds=[.ref p,⇑m]/\M p=some (.lst [.int b,.int k])/\(0<m/\m<64)/\∀(t:CT) M' b',t.fit (m:Int)->Box2 p k M M' b'->Q t.told M'
theorem cb(m:Nat):aY 0 (m:Int)=nats (List.range m):=by
 unfold aY nats;rw[show((m:Int)-0).toNat=m by omega];refine ZP λi _=>?_
 rw[Int.zero_add]
theorem km(fs:Zj):nats fs=intL (fs.map λ(f:Nat)=>(f:Int)):=by unfold nats intL;rw[ZO];rfl
theorem rp(b:Zj)(i:Nat):(nats b).eraseIdx i=nats (b.eraseIdx i):=by
 unfold nats;induction b generalizing i with
 |nil=>rfl
 |cons a r c=>
  cases i with
  |zero=>rfl
  |succ i=>rw[YM,List.eraseIdx_cons_succ,List.eraseIdx_cons_succ,YM,c]
theorem rq{b:Type}:∀{l:List b}{i:Nat}{x:b},l[i]?=some x->(x::l.eraseIdx i).Perm l
 |[],_,_,h=>by simp at h
 |a::l,0,x,h=>by
  rw[List.getElem?_cons_zero] at h;cases h;exact List.Perm.refl _
 |a::l,i+1,x,h=>by
  rw[List.getElem?_cons_succ] at h;rw[List.eraseIdx_cons_succ];exact(List.Perm.swap _ _ _).trans ((rq h).cons a)
theorem wM{fs:Zj}(h:fs.Nodup):(fs.map λ(f:Nat)=>(f:Int)).Nodup:=by
 unfold List.Nodup;rw[List.pairwise_map];exact List.Pairwise.imp (λh z=>h 'a') h
structure Drawn (m:Nat) (rs fs:Zj):Prop where
 nd:(fs++rs).Nodup
 lt:∀f∈fs++rs,f<m
 len:fs.length+rs.length=m
theorem Drawn.pop{m:Nat}{rs fs:Zj}{i x:Nat}(h:Drawn m rs fs)(hx:rs[i]?=some x):Drawn m (rs.eraseIdx i) (fs++[x]):=by
 have hp:(fs++[x]++rs.eraseIdx i).Perm (fs++rs):=by
  rw[ZC];exact List.Perm.append_left _ (rq hx)
 have hl:=hp.length_eq;refine⟨hp.nodup_iff.2 h.nd,λf hf=>h.lt f (hp.mem_iff.1 hf),?_⟩
 have:=h.len
 simp only[ZM] at hl ⊢;omega
section
variable {cn:Cn}{ds:List D}{M:MH}{Q:DK}
theorem wN(J:cn.F.getD 0 Yl=dS)(h:iC ds M Q):wSs cn kW (fin Q) (ae ["","","","","",""] ds) M:=by
 obtain⟨p,b,k,m,rfl,hM,hm,q⟩:=h;show wSs cn kW (fin Q) [↑p,~~~m,none,none,none,none] M;have W:M p≠none:=by rw[hM];simp
 unfold kW;simp! only[List.set,J];refine⟨p,b,k,6,rfl,hM,⟨by decide,by decide⟩,λv B hv=>?_⟩;have O:Box2 p k M (updM M p (.lst [.int B,.int k])) B:=⟨ExtBut.upd _ _ _,aa⟩;generalize updM M p (MO.lst [.int B,.int k])=M1 at *;unfold mQ;simp! only[List.set];refine xb (λGI=>?_) (λGI=>?_)
 ·intro p2 C'
  have C:Box2 p k M (updM M1 p2 (.lst [.str "have",.str "lack"])) B:=O.ext (Ext.new C');have K:updM M1 p2 (MO.lst [.str "have",.str "lack"]) p2=some (.lst [.str "have",.str "lack"]):=aa;generalize updM M1 p2 (MO.lst [.str "have",.str "lack"])=M2 at *;simp only[K];refine⟨by decide,?_⟩;have h2:(v:Int)%2=0\/(v:Int)%2=1:=by omega
  rcases h2 with h2 | h2
  ·rw[h2,ix00]
   simp only[J];refine⟨p,B,k,m,rfl,C.at_,⟨hm.1,by omega⟩,λw P hw=>?_⟩;exact q (.hav (w:Int)) _ P ⟨by omega,by omega⟩ (C.draw P)
  ·rw[h2,ix01]
   simp only[J];refine⟨p,B,k,m,rfl,C.at_,⟨hm.1,by omega⟩,λw P hw=>?_⟩;exact q (.lck (w:Int)) _ P ⟨by omega,by omega⟩ (C.draw P)
 ·unfold mP
  simp! only[List.set];refine⟨⟨by omega,by omega⟩,λa L=>?_⟩;rw[cb];have HX:M a=none:=by
   cases e:M a with
   |none=>rfl
   |some o=>
    by_cases z:a=p
    ·subst z;rw[O.at_] at L;cases L
    ·rw[O.but _ _ z e] at L;cases L
  have C:Box2 p k M (updM M1 a (.lst (nats (List.range m)))) B:=O.ext (Ext.new L);have K:updM M1 a (MO.lst (nats (List.range m))) a=some (.lst (nats (List.range m))):=aa;generalize updM M1 a (MO.lst (nats (List.range m)))=M2 at *;unfold mO;simp! only[List.set];intro c G;have Ip:M c=none:=by
   cases e:M c with
   |none=>rfl
   |some o=>
    by_cases z:c=p
    ·subst z;rw[C.at_] at G;cases G
    ·rw[C.but _ _ z e] at G;cases G
  have B3:Box2 p k M (updM M2 c (.lst [])) B:=C.ext (Ext.new G);have g3:updM M2 c (MO.lst []) c=some (.lst (nats [])):=aa;have r3:updM M2 c (MO.lst []) a=some (.lst (nats (List.range m))):=(Ext.new G) _ _ K;have F_:c≠a:=λz=>by subst z;rw[G] at K;cases K
  have J0:p≠a:=λz=>by subst z;exact W HX
  have Jc:p≠c:=λz=>by subst z;exact W Ip
  generalize updM M2 c (MO.lst [])=Y at *;clear O C K L G;clear M1 M2;have D3:Drawn m (List.range m) []:=⟨List.nodup_range,λf hf=>by simpa using hf,by simp⟩;unfold mN;simp! only[List.set,J];refine⟨p,B,k,min m 6,?_,B3.at_,⟨by omega,by omega⟩,λw R hw=>?_⟩
  ·congr 3
   split<;>omega
  have B4:=B3.draw R;have g4:updM Y p (MO.lst [.int R,.int k]) c=some (.lst (nats [])):=by rw[az Jc.symm];exact g3
  have r4:updM Y p (MO.lst [.int R,.int k]) a=some (.lst (nats (List.range m))):=by rw[az J0.symm];exact r3
  generalize updM Y p (MO.lst [.int R,.int k])=M4 at *;clear B3 g3 r3;clear Y;refine⟨⟨by omega,by omega⟩,?_⟩;rw[show(1:Int)+(w:Int)=((w+1:Nat):Int) by omega,cb];have OE:w+1<=m/\w+1<=6:=by omega
  have S:∀(fs rs:Zj) (l:Zz) (j:Int) (M5:MH),fs.length=w+1->Drawn m rs fs->Box2 p k M M5 j->M5 c=some (.lst (nats fs))->wSs cn d4 (fin Q) [↑p,~~~m,~~~v,↑a,↑c,l] M5:=by
   intro fs rs l j M5 Oo y r A;have fit:∀f∈fs.map (λ(f:Nat)=>(f:Int)),0<=f/\f<(m:Int):=by
    intro f hf;obtain⟨g,hg,rfl⟩:=List.mem_map.1 hf
    have:=y.lt g (YD.2 (.inl hg))
    omega
   have nd:(fs.map λ(f:Nat)=>(f:Int)).Nodup:=wM (List.nodup_append.1 y.nd).1;have ln:(fs.map λ(f:Nat)=>(f:Int)).length=fs.length:=ZG _;unfold d4;simp! only[List.set,J,A,db];refine⟨⟨rfl,rfl,(by decide:(0:Nat)<=30)⟩,?_⟩;refine Bif2 (λ_=>?_) (λ_=>?_)
   ·refine⟨p,j,k,min 6 (fs.length+1),?_,r.at_,⟨by omega,by omega⟩,λn d hn=>?_⟩
    ·congr 3
     split<;>omega
    have T:updM M5 p (MO.lst [.int d,.int k]) c=some (.lst (nats fs)):=by rw[az Jc.symm];exact A
    simp only[T,rdL,km];refine q (.som (1+(n:Int)) _) _ d ⟨⟨by omega,by omega⟩,⟨by omega,by omega⟩,nd,fit⟩ (r.draw d)
   ·unfold mM
    simp! only[List.set,J,A,rdL,db];refine⟨p,j,k,fs.length,rfl,r.at_,⟨by omega,by omega⟩,λn d hn=>?_⟩;rw[km];exact q (.led _ n) _ d ⟨⟨by omega,by omega⟩,nd,fit⟩ (r.draw d)
  have body:∀(E:EndsD) (fs rs:Zj) (l:Zz) (j:Int) (M5:MH),Drawn m rs fs->0<rs.length->Box2 p k M M5 j->M5 c=some (.lst (nats fs))->M5 a=some (.lst (nats rs)) ->
    (∀U Z d u,Drawn m Z U->U.length=fs.length+1->Box2 p k M u d->u c=some (.lst (nats U))->u a=some (.lst (nats Z))->E.nx [↑p,~~~m,~~~v,↑a,↑c,l] u) ->
    wSs cn d8 E [↑p,~~~m,~~~v,↑a,↑c,l] M5:=by
   intro E fs rs l j M5 y Ks r A V kk;have JF:=y.len;unfold d8;simp! only[List.set,J,A,V,db];refine⟨rfl,rfl,p,j,k,rs.length,rfl,r.at_,⟨Ks,by omega⟩,λi d hi=>?_⟩;have B6:=r.draw d;have T:updM M5 p (MO.lst [.int d,.int k]) c=some (.lst (nats fs)):=by rw[az Jc.symm];exact A
   have r6:updM M5 p (MO.lst [.int d,.int k]) a=some (.lst (nats rs)):=by rw[az J0.symm];exact V
   generalize updM M5 p (MO.lst [.int d,.int k])=u at *;have hx:rs[i]?=some rs[i]:=ZE hi;generalize rs[i]=x at hx;have LD:(nats rs)[(i:Int).toNat]?= ~~~x:=by unfold nats;rw[YY,ZH,hx];rfl
   simp only[r6,LD];refine⟨⟨by omega,by omega⟩,?_⟩;rw[YY,rp];have B7:Box2 p k M (updM u a (.lst (nats (rs.eraseIdx i)))) d:=B6.put HX W;have g7:updM u a (MO.lst (nats (rs.eraseIdx i))) c=some (.lst (nats fs)):=by rw[az F_];exact T
   have r7:updM u a (MO.lst (nats (rs.eraseIdx i))) a=some (.lst (nats (rs.eraseIdx i))):=aa;generalize updM u a (MO.lst (nats (rs.eraseIdx i)))=M7 at *;simp only[g7,db];have hsz:(2000:Nat)<sizeLine:=by decide
   refine⟨by omega,?_⟩;rw[show nats fs++[D.int (x:Int)]=nats (fs++[x]) by unfold nats;rw[ZN];rfl];exact kk (fs++[x]) (rs.eraseIdx i) d _ (y.pop hx) (by rw[ZM];rfl) (B7.put Ip W) aa (by rw[az F_.symm];exact r7)
  have ac:∀(xs:Zj) (fs rs:Zj) (l:Zz) (j:Int) (M5:MH),fs.length+xs.length=w+1->Drawn m rs fs->Box2 p k M M5 j->M5 c=some (.lst (nats fs))->M5 a=some (.lst (nats rs)) ->
    aq (λ_=>True) (.nm 5) (wSs cn d8) { nx:=wSs cn d4 (fin Q),rt:=Q } (nats xs) [↑p,~~~m,~~~v,↑a,↑c,l] M5:=by
   intro xs;induction xs with
   |nil=>
    intro fs rs l j M5 hl y r A V;rw[show nats []=[] from rfl,aq];exact S fs rs l j M5 (by simpa using hl) y r A
   |cons x xs ih=>
    intro fs rs l j M5 hl y r A V;rw[YK] at hl
    have:=y.len
    rw[show nats (x::xs)=⇑x::nats xs from rfl,aq];refine body _ fs rs _ j M5 y 'a' r A V ?_;intro U Z d u D6 h6 B6 T r6;exact⟨trivial,ih U Z _ d u 'a' D6 B6 T r6⟩
  exact ac (List.range (w+1)) [] (List.range m) none R M4 (by simp) D3 B4 g4 r4
end
def d9:Ss:=#v[.ret (.sl (.var 4) .no (.yes (.var 3)))]
def mR:Ss:=#v[.expr (.mt .append (.var 4) #v[.tup #v[.var 8,.comp 1 (.fn 1 #v[.var 6,.var 1]) (.nm 9) (.rg1 #v[.fn 0 #v[.var 6,.int 4]]) .no]])]
def eh:Ss:=.cons (.set 8 (.fn 0 #v[.var 6,.var 1])) mR
def mS:Ss:=#v[.for (.nm 7) (.rg1 #v[.bin .Add (.int 1) (.fn 0 #v[.var 6,.int 3])]) eh]
def ei:Ss:=.cons (.set 6 (.lst #v[.var 5,.fn 2 #v[.var 0,.int 1]])) mS
def mT:Ss:=.cons (.for (.nm 5) (.seq (.sl (.var 0) (.yes (.var 2)) (.yes (.int 63)))) ei) d9
def kX:Ss:=.cons (.set 4 (.lst .nil)) mT
def kn:SpD:=λds M Q=>∃(a:Addr) (ns:Zi) (m b most:Nat),ds=[.ref a,⇑m,⇑b,⇑most]/\M a=some (.rol (ns.map .int))/\(0<m/\m<64)/\most<=400 /\
 ∀p v_ a_ M',M' p=some (.lst v_)->aG M' v_ a_->RowsOk m a_->a_.length<=most->Ext M M'->Q (.ref p) M'
def hid2(r p:Addr)(M:MH):MH:=λb=>if b=r then none else if b=p then none else M b
section
variable {r p q:Addr}{M M':MH}{o:MO}
theorem FT(r p:Addr)(M:MH)(o:MO):hid2 r p (updM M r o)=hid2 r p M:=by
 funext b;unfold hid2 updM;split<;>rfl
theorem pN(h:ExtBut p M M'):Ext (hid2 r p M) (hid2 r p M'):=λb o q=>by
 unfold hid2 at q ⊢;split at q
 ·cases q
 ·rename_i c
  rw[if_neg c];split at q
  ·cases q
  ·rename_i a
   rw[if_neg a];exact h b o a q
theorem vL(h:Ext M M'):Ext (hid2 r p M) (hid2 r p M'):=pN h.but
theorem BX(r p:Addr)(M:MH):Ext (hid2 r p M) (hid r M):=λb o q=>by
 unfold hid2 at q;unfold hid;split at q
 ·cases q
 ·rename_i a
  rw[if_neg a];split at q
  ·cases q
  ·exact q
theorem BY(h:M p=none):Ext (hid r M) (hid2 r p M):=λb o q=>by
 unfold hid at q;unfold hid2;split at q
 ·cases q
 ·rename_i a
  rw[if_neg a];have:b≠p:=bG q h
  rw[if_neg this];exact q
theorem Eg(a:q≠r)(b:q≠p):hid2 r p M q=M q:=by
 unfold hid2;rw[if_neg a,if_neg b]
end
def nI(m:Nat)(a_:Zy):Prop:=∀x∈a_,x.1<m/\x.2.length<=6/\∀t∈x.2,t.fit (m:Int)
theorem nI.add{m:Nat}{a_:Zy}{x:Row}(h:nI m a_)(a:x.1<m)(h2:x.2.length<=6)(b:∀t∈x.2,t.fit (m:Int)):nI m (a_++[x]):=λy hy=>by
 rcases YD.1 hy with hy | hy
 ·exact h y hy
 ·have:y=x:=by simpa using hy
  subst this;exact⟨a,h2,b⟩
theorem Eh{c:Type}(xs:List c)(a b:Nat):(cutL xs (some (a:Int)) (some (b:Int))).length<=b:=by
 unfold cutL;rw[HT.rN,HT.rN,YU];omega
theorem Ei{a:Type}{xs:List a}{lo hi:Zq}{x:a}(h:x∈cutL xs lo hi):x∈xs:=List.mem_of_mem_drop (List.mem_of_mem_take h)
structure RowsSt (m:Nat) (R:Addr) (M2 M5:MH) (n:Nat):Prop where
 but:ExtBut R M2 M5
 ex:∃v_ a_,M5 R=some (.lst v_)/\aG (hid R M5) v_ a_/\nI m a_/\a_.length<=n
structure RowsSt2 (m:Nat) (R p:Addr) (k:Int) (M2 M5:MH) (n:Nat):Prop where
 but:ExtBut R M2 M5
 box:∃b,M5 p=some (.lst [.int b,.int k])
 ex:∃v_ a_,M5 R=some (.lst v_)/\aG (hid2 R p M5) v_ a_/\nI m a_/\a_.length<=n
section
variable {cn:Cn}{ds:List D}{M:MH}{Q:DK}
theorem wO(f0:cn.F.getD 0 Yl=dS)(f1:cn.F.getD 1 Yl=iC)(f2:cn.F.getD 2 Yl=dh)(h:kn ds M Q):wSs cn kX (fin Q) (ae ["","","","","","","","",""] ds) M:=by
 obtain⟨a,ns,m,l,most,rfl,hM,hm,QB,q⟩:=h;show wSs cn kX (fin Q) [↑a,~~~m,~~~l,~~~most,none,none,none,none,none] M;have hsz:(2000:Nat)<sizeLine:=by decide
 unfold kX;simp! only[List.set];intro R hR;have e1:Ext M (updM M R (.lst [])):=Ext.new hR;have g1:updM M R (MO.lst []) R=some (.lst []):=aa;generalize updM M R (MO.lst [])=M1 at *;have Ji:=e1 _ _ hM;unfold mT;simp! only[List.set,Ji,rdL];intro L hL;have SJ:L≠R:=(bG g1 hL).symm;have TX:(cutL (ns.map D.int) (some (l:Int)) (some (63:Int))).length<=63:=Eh _ l 63;have J5:∀d∈cutL (ns.map D.int) (some (l:Int)) (some (63:Int)),∃c,d=D.int c:=λd hd=>by
  obtain⟨c,-,rfl⟩:=List.mem_map.1 (Ei hd);exact⟨c,rfl⟩
 generalize cutL (ns.map D.int) (some (l:Int)) (some (63:Int))=cells at *;have e2:Ext M1 (updM M1 L (.lst cells)):=Ext.new hL;have g2:updM M1 L (MO.lst cells) L=some (.lst cells):=aa;generalize updM M1 L (MO.lst cells)=M2 at *;have KU:=e2 _ _ Ji;have r2:=e2 _ _ g1;have LW:Ext M M2:=e1.trans e2;simp only[g2];clear e1 e2 g1 Ji hL;clear M1;have TY:M2 R≠none:=by rw[r2];simp
 have SM:a≠R:=bG hM hR;have V:∀(u B f g:Zz) (M5:MH) (n:Nat),RowsSt m R M2 M5 n->wSs cn d9 (fin Q) [↑a,~~~m,~~~l,~~~most,↑R,u,B,f,g] M5:=by
  intro u B f g M5 n ⟨hb,v_,a_,A,h2,G,K⟩;unfold d9;simp! only[List.set,A,rdL,cutK];intro p hp;have lt:(a_.take most).length<=most:=by rw[YU];omega
  refine q p _ (a_.take most) _ aa (aG.ext ((ip R M5).trans (Ext.new hp)) (nT most h2)) ⟨by omega,by omega,λx hx=>G x (List.mem_of_mem_take hx)⟩ lt ?_;intro b o QC;have SN:b≠R:=bG QC hR;exact Ext.new hp _ _ (hb b o SN (LW b o QC))
 -- one W
 have W:∀(E:EndsD) (p:Addr) (k:Int) (u f g:Zz) (M5:MH) (n:Nat),p≠R->M2 p=none->n<2000->RowsSt2 m R p k M2 M5 n ->
   (∀Y j,RowsSt2 m R p k M2 j (n+1)->E.nx [↑a,~~~m,~~~l,~~~most,↑R,u,↑p,f,Y] j) ->
   wSs cn eh E [↑a,~~~m,~~~l,~~~most,↑R,u,↑p,f,g] M5:=by
  intro E p k u f g M5 n O Z hn ⟨hb,⟨b,OF⟩,v_,a_,A,h2,G,K⟩ kk;unfold eh;simp! only[List.set,f0];refine⟨p,b,k,m,rfl,OF,⟨hm.1,by omega⟩,λhd U SO=>?_⟩;have B6:Box2 p k M5 (updM M5 p (.lst [.int U,.int k])) U:=⟨ExtBut.upd _ _ _,aa⟩;generalize updM M5 p (MO.lst [.int U,.int k])=j at *;unfold mR;have QD:=B6.but _ _ O.symm A;simp! only[List.set,List.cons_append,XF,List.replicate,f0,QD];refine⟨rfl,p,U,k,4,rfl,B6.at_,⟨by decide,by decide⟩,λnc P TZ=>?_⟩;have B7:=B6.draw P;generalize updM j p (MO.lst [.int P,.int k])=M7 at *;refine⟨⟨by omega,by omega⟩,?_⟩;rw[cb];clear B6 QD;clear j;have HC:∀(F:List D->MH->Prop),(∀(ts:List CT) r J,ts.length<=6->(∀t∈ts,CT.fit (m:Int) t)->Box2 p k M5 r J->F (ts.map CT.told) r) ->
    ∀(xs:Zj) (ts:List CT) (v9:Zz) (r:MH) (J:Int),ts.length+xs.length<=6->(∀t∈ts,CT.fit (m:Int) t)->Box2 p k M5 r J ->
    aE (λ_=>True) (.nm 9) (wTo cn .no) (wE cn (.fn 1 (.cons (.var 6) (.cons (.var 1) .nil)))) F (nats xs) (ts.map CT.told) [↑a,~~~m,~~~l,~~~most,↑R,u,↑p,f,~~~hd,v9] r:=by
   intro F hF xs;induction xs with
   |nil=>
    intro ts v9 r J hl ht C;rw[show nats []=[] from rfl,aE];exact hF ts r J (by simpa using hl) ht C
   |cons x xs ih=>
    intro ts v9 r J hl ht C;rw[YK] at hl;rw[show nats (x::xs)=⇑x::nats xs from rfl,aE];have go:iC [.ref p,⇑m] r (λy M2=>True/\aE (λ_=>True) (.nm 9) (wTo cn .no) (wE cn (.fn 1 (.cons (.var 6) (.cons (.var 1) .nil)))) F (nats xs) (ts.map CT.told++[y]) [↑a,~~~m,~~~l,~~~most,↑R,u,↑p,f,~~~hd,~~~x] M2):=by
     refine⟨p,J,k,m,rfl,C.at_,hm,λt M9 b9 ft B9=>⟨trivial,?_⟩⟩;rw[show ts.map CT.told++[t.told]=(ts++[t]).map CT.told by rw[ZN];rfl];refine ih (ts++[t]) _ M9 b9 (by rw[ZM];simp;omega) (λt' JW=>?_) ⟨C.but.trans B9.but,B9.at_⟩;rcases YD.1 JW with JW | JW
     ·exact ht t' JW
     ·have:t'=t:=by simpa using JW
      subst this;exact ft
    rw[←f1] at go;exact go
  refine HC _ ?_ (List.range nc) [] none M7 P (by simp;omega) (by simp) B7;intro ts r J SS ft C c hc;have QE:=C.but _ _ O.symm A;have e9:Ext r (updM r c (.lst (ts.map CT.told))):=Ext.new hc;have g9:updM r c (MO.lst (ts.map CT.told)) c=some (.lst (ts.map CT.told)):=aa;generalize updM r c (MO.lst (ts.map CT.told))=M9 at *;have SU:=e9 _ _ QE;have SV:c≠R:=(bG QE hc).symm;have SW:c≠p:=(bG C.at_ hc).symm;simp only[SU];have IY:v_.length=a_.length:=k7 h2;refine⟨by omega,?_⟩;refine kk _ _ ⟨?_,⟨J,?_⟩,v_++[.tup [⇑hd,.ref c]],a_++[(hd,ts)],aa,?_,G.add SO SS ft,by rw[ZM];simpa using K⟩
  ·intro z o hz QF
   have SX:z≠p:=bG QF Z;rw[az hz];exact e9 _ _ (C.but _ _ SX (hb _ _ hz QF))
  ·rw[az O];exact e9 _ _ C.at_
  ·rw[FT]
   refine aX (aG.ext ((pN C.but).trans (vL e9)) h2) (.cons ⟨c,rfl,?_⟩ .nil);rw[Eg SV SW];exact g9
 -- one cell
 have cell:∀(E:EndsD) (x:Int) (B f g:Zz) (M5:MH) (n:Nat),n<1000->RowsSt m R M2 M5 n ->
   (∀QG QH Y j,RowsSt m R M2 j (n+3)->E.nx [↑a,~~~m,~~~l,~~~most,↑R,some (.int x),QG,QH,Y] j) ->
   wSs cn ei E [↑a,~~~m,~~~l,~~~most,↑R,some (.int x),B,f,g] M5:=by
  intro E x B f g M5 n hn ⟨hb,v_,a_,A,h2,G,K⟩ kk;have Ot:=hb _ _ SM KU;unfold ei;simp! only[List.set,f2];refine⟨a,ns,1,rfl,Ot,?_⟩;generalize cellAt ns 1=k;intro p hp;have O:p≠R:=(bG A hp).symm;have Z:M2 p=none:=by
   cases e:M2 p with
   |none=>rfl
   |some o=>rw[hb _ _ O e] at hp;cases hp
  have S6:RowsSt2 m R p k M2 (updM M5 p (.lst [.int x,.int k])) n:=by
   refine⟨hb.put Z,⟨x,aa⟩,v_,a_,?_,?_,G,K⟩
   ·exact Ext.new hp _ _ A
   ·exact aG.ext ((BY hp).trans (vL (Ext.new hp))) h2
  generalize updM M5 p (MO.lst [.int x,.int k])=j at *;unfold mS;obtain⟨U,OC⟩:=S6.box;simp! only[List.set,f0];refine⟨p,U,k,3,rfl,OC,⟨by decide,by decide⟩,λw P hw=>?_⟩;have S7:RowsSt2 m R p k M2 (updM j p (.lst [.int P,.int k])) n:=by
   obtain⟨hb,-,v_,a_,A,h2,G,K⟩:=S6;refine⟨hb.put Z,⟨P,aa⟩,v_,a_,?_,aG.ext (pN (ExtBut.upd _ _ _)) h2,G,K⟩;rw[az O.symm];exact A
  generalize updM j p (MO.lst [.int P,.int k])=M7 at *;refine⟨⟨by omega,by omega⟩,?_⟩;rw[show(1:Int)+(w:Int)=((w+1:Nat):Int) by omega,cb];have T:∀(xs:Zj) (f g:Zz) (M5:MH) (n':Nat),n'+xs.length<=n+3->RowsSt2 m R p k M2 M5 n' ->
    aq (λ_=>True) (.nm 7) (wSs cn eh) E (nats xs) [↑a,~~~m,~~~l,~~~most,↑R,some (.int x),↑p,f,g] M5:=by
   intro xs;induction xs with
   |nil=>
    intro f g M5 n' K' ⟨hb,_,v_,a_,A,h2,G,K⟩;rw[show nats []=[] from rfl,aq];exact kk _ _ _ _ ⟨hb,v_,a_,A,aG.ext (BX _ _ _) h2,G,by simp at K';omega⟩
   |cons y xs ih=>
    intro f g M5 n' K' S;rw[YK] at K';rw[show nats (y::xs)=⇑y::nats xs from rfl,aq];refine W _ p k _ _ _ M5 n' O Z 'a' S ?_;intro Y j S6;exact⟨trivial,ih _ _ j (n'+1) 'a' S6⟩
  exact T (List.range (w+1)) _ _ M7 n (by simp;omega) S7
 have T:∀(xs:List D) (u B f g:Zz) (M5:MH) (n:Nat),(∀d∈xs,∃c,d=D.int c)->n+3*xs.length<=189->RowsSt m R M2 M5 n ->
   aq (λM'=>M' L=some (.lst cells)) (.nm 5) (wSs cn ei) { nx:=wSs cn d9 (fin Q),rt:=Q } xs [↑a,~~~m,~~~l,~~~most,↑R,u,B,f,g] M5:=by
  intro xs;induction xs with
  |nil=>
   intro u B f g M5 n _ _ S;rw[aq];exact V u B f g M5 n S
  |cons d xs ih=>
   intro u B f g M5 n hd hn S;rw[YK] at hn;obtain⟨c,rfl⟩:=hd d (.head _);rw[aq];refine cell _ c _ _ _ M5 n 'a' S ?_;intro QG QH Y j S6;exact⟨S6.but _ _ SJ g2,ih _ _ _ _ j (n+3) (λd Ih=>hd d (.tail _ Ih)) 'a' S6⟩
 refine T cells none none none none M2 0 J5 'a' ⟨ExtBut.refl _ _,[],[],r2,.nil,λx hx=>(by cases hx),YH _⟩
end
def mU:Ss:=#v[.ret (.bin .BitAnd (.bin .Mod (.var 2) (.bin .LShift (.int 1) (.var 1))) (.bin .Mod (.bin .FloorDiv (.var 2) (.bin .LShift (.int 1) (.var 1))) (.bin .LShift (.int 1) (.var 1))))]
def kY:Ss:=.cons (.set 2 (.fn 0 #v[.var 0,.int 2])) mU
def jR:Ss:=#v[.ret (.fn 0 #v[.var 0,.comp 2 (.tup #v[.var 2,.bk .list #v[.var 3]]) (.tp [2,3]) (.seq (.var 1)) .no])]
def eY:Ss:=#v[.ret (.and (.cmp .Eq (.bin .BitAnd (.bin .RShift (.var 1) (.ix (.ix (.var 0) (.int 1)) (.ix (.var 0) (.int 2)))) (.int 1)) (.int 1)) (.cmp .Eq (.var 3) (.lst .nil)))]
def jS:Ss:=.cons (.setC 3 1 (.var 4) (.nm 4) (.seq (.sl (.ix (.var 0) (.int 1)) .no (.yes (.ix (.var 0) (.int 2))))) (.yes (.cmp .Eq (.bin .BitAnd (.bin .RShift (.var 2) (.var 4)) (.int 1)) (.int 1)))) eY
def eZ:Ss:=.cons (.ite (.cmp .Eq (.ix (.var 0) (.int 0)) (.str "some")) #v[.ret (.cmp .GtE (.bi .len #v[.comp 1 (.var 4) (.nm 4) (.seq (.ix (.var 0) (.int 2))) (.yes (.cmp .Eq (.bin .BitAnd (.bin .RShift (.var 1) (.var 4)) (.int 1)) (.int 1)))]) (.ix (.var 0) (.int 1)))] .nil) jS
def cv:Ss:=.cons (.ite (.cmp .Eq (.ix (.var 0) (.int 0)) (.str "lack")) #v[.ret (.cmp .Eq (.bin .BitAnd (.bin .RShift (.var 2) (.ix (.var 0) (.int 1))) (.int 1)) (.int 0))] .nil) eZ
def bQ:Ss:=.cons (.ite (.cmp .Eq (.ix (.var 0) (.int 0)) (.str "have")) #v[.ret (.cmp .Eq (.bin .BitAnd (.bin .RShift (.var 1) (.ix (.var 0) (.int 1))) (.int 1)) (.int 1))] .nil) cv
def jT:Ss:=#v[.ret (.bl true)]
def gk:Ss:=#v[.ite (.not (.val (.fn 0 #v[.var 3,.var 1,.var 2]))) #v[.ret (.bl false)] .nil]
def mo:Ss:=.cons (.for (.nm 3) (.seq (.var 0)) gk) jT
def ko:SpD:=λds M Q=>∃(a:Addr) (ns:Zi) (m:Nat),ds=[.ref a,⇑m]/\M a=some (.rol (ns.map .int))/\m<30/\∀told:Nat,told<2 ^ m->Q (⇑told) M
def jh(c:CA)(S:Addr):SpD:=λds M Q=>∃(m:Nat) (p:Addr) (v_:List D) (a_:Zy),ds=[⇑m,.ref p]/\M p=some (.lst v_)/\aG M v_ a_/\RowsOk m a_/\∀a M',Ext M M'->SheetAt c S M' a m a_->Q (.ref a) M'
def gm:SpD:=λds M Q=>∃(t:CT) (h g:Int),ds=[t.told,.int h,.int g]/\t.ok/\∀M',Ext M M'->Q (.bl (t.carried h g)) M'
def hJ:SpD:=λds M Q=>∃(p:Addr) (ts:List CT) (h g:Int),ds=[.ref p,.int h,.int g]/\M p=some (.lst (ts.map CT.told))/\(∀t∈ts,t.ok)/\∀M',Ext M M'->Q (.bl (ts.all (CT.carried h g))) M'
theorem ju(m:Nat):(1:Int)*2 ^ (m:Int).toNat=((2 ^ m:Nat):Int):=by rw[YY,Int.one_mul];simp
theorem Aw{m:Nat}(h:m<30):((2 ^ m:Nat):Int)<1073741824:=by
 have:2 ^ m<2 ^ 30:=Nat.pow_lt_pow_right 'b' h
 exact Int.ofNat_lt.2 (ZU this 'b')
theorem oC(m:Nat):0<((2 ^ m:Nat):Int):=Int.ofNat_lt.2 (Nat.two_pow_pos m)
theorem modN{x:Int}{n:Nat}(h:0<(n:Int)):∃u:Nat,x%(n:Int)=(u:Int)/\u<n:=by
 have a:=modB (y:=x) h;refine⟨(x%(n:Int)).toNat,(Int.toNat_of_nonneg a.1).symm,?_⟩;omega
theorem eq_nil(L:Zi):eqDs (intL L) []=(((L.length:Nat):Int)==0):=by
 cases L with
 |nil=>show eqDs [] []=_;rw[eqDs];rfl
 |cons a l=>
  have h2:((((a::l).length:Nat):Int)==0)=false:=by rw[ZT,YK];omega
  rw[h2];show eqDs (.int a::intL l) []=false;simp[eqDs]
section
variable {cn:Cn}{ds:List D}{M:MH}{Q:DK}{c:CA}{S:Addr}
theorem wQ(b:cn.F.getD 0 Yl=dh)(h:ko ds M Q):wSs cn kY (fin Q) (ae ["","",""] ds) M:=by
 obtain⟨a,ns,m,rfl,d,hm,q⟩:=h;show wSs cn kY (fin Q) [↑a,~~~m,none] M;unfold kY;simp! only[List.set,b];refine⟨a,ns,2,rfl,d,?_⟩;generalize cellAt ns 2=x;unfold mU;simp! only[List.set,ju];have hp:=oC m;have P:CPow 1 (m:Int):=⟨by omega (splitDisjunctions:=true),by omega (splitDisjunctions:=true),by decide⟩;refine⟨P,hp,P,⟨hp,Aw hm⟩,P,hp,?_⟩;obtain⟨u,hu,f⟩:=modN (x:=x) hp;obtain⟨v,hv,g⟩:=modN (x:=x / ((2 ^ m:Nat):Int)) hp;rw[hu,hv,xE];exact q _ (XM Nat.and_le_left f)
theorem vM(L:cn.F.getD 0 Yl=a8 S (bO c S))(h:jh c S ds M Q):wSs cn jR (fin Q) (ae ["",""] ds) M:=by
 obtain⟨m,p,v_,a_,rfl,hp,O,ok,q⟩:=h;show wSs cn jR (fin Q) [~~~m,↑p] M;have u:∀(F:List D->MH->Prop) (xs:List D) (g b:Zy) (h_:List D) (y A:Zz) (M5:MH),aG M xs g->Ext M M5->aG M5 h_ b->(∀j a,Ext M a->aG a j (b++g)->F j a) ->
   aE (λM'=>M' p=some (.lst v_)) (.tp [2,3]) (wTo cn .no) (wE cn (.tup (.cons (.var 2) (.cons (.bk .list (.cons (.var 3) .nil)) .nil)))) F xs h_ [~~~m,↑p,y,A] M5:=by
  intro F xs g b h_ y A M5 hx;induction hx generalizing b h_ y A M5 with
  |nil=>
   intro l B k;rw[aE];rw[ZA] at k;exact k h_ M5 l B
  |@cons d x xs g hd _ P=>
   intro l B k;obtain⟨q1,rfl,R⟩:=hd;have T:=l _ _ R;rw[aE];simp! only[List.set,dBk,dP,T,rdD,rdL];refine⟨rfl,λr f=>?_⟩;have n:=l.then (o:=MO.lst (x.2.map CT.told)) f;refine⟨n _ _ hp,P (b++[x]) _ _ _ _ n ?_ ?_⟩
   ·exact aX (aG.ext (Ext.new f) B) (.cons ⟨r,rfl,aa⟩ .nil)
   ·intro j a e h
    rw[ZC] at h;exact k j a e h
 unfold jR;simp! only[List.set,List.cons_append,XF,List.replicate,hp,L];refine u _ v_ a_ [] [] none none M O (Ext.refl M) .nil ?_;intro h_ a n G r f x hx;rw[XF] at G;have J:=n.then (o:=MO.lst h_) f;have U:updM a r (MO.lst h_) r=some (.lst h_):=aa;have V:=G.ext (Ext.new (o:=MO.lst h_) f);generalize updM a r (MO.lst h_)=K at *;have C:Ext K (updM K x (.ins S [])):=Ext.new hx;refine⟨x,m,r,h_,a_,rfl,aa,C _ _ U,V.ext C,ok,λW Y Z=>⟨rfl,q x W ?_ Z⟩⟩;exact ExtBut.ext (J.trans C) Y (by
  cases z:M x with
  |none=>rfl
  |some o=>rw[J _ _ z] at hx;cases hx)
theorem sk(h:gm ds M Q):wSs cn bQ (fin Q) (ae ["","","",""] ds) M:=by
 obtain⟨t,h,g,rfl,ho,q⟩:=h;show wSs cn bQ (fin Q) [some t.told,some (.int h),some (.int g),none] M;cases t with
 |hav f=>
  unfold bQ;simp_all! only[CT.told,at0,at1,at2,sh_];refine⟨ho.1,?_⟩;rw[PyProof.Rows.bitAnd_m1];exact q M (Ext.refl M)
 |lck f=>
  unfold bQ;simp_all! only[CT.told,at0,at1,at2,s_lh];unfold cv;simp_all! only[CT.told,at0,at1,at2,s_ll];refine⟨ho.1,?_⟩;rw[PyProof.Rows.bitAnd_m1];have b:Q (.bl (!hasB g f)) M:=q M (Ext.refl M);rw[←Af] at b;exact b
 |som n fs=>
  unfold bQ;simp_all! only[CT.told,at0,at1,at2,s_sh];unfold cv;simp_all! only[CT.told,at0,at1,at2,s_sl];unfold eZ;simp_all! only[CT.told,at0,at1,at2,s_ss,List.cons_append,XF,List.replicate];refine dQ (p:=λd=>match d with | .int f=>hasB h f | _=>false) (ok:=λσ=>∃v,σ=[some (.tup [.str "some",.int n,.tup (intL fs)]),some (.int h),some (.int g),none,v]) [] _ ⟨none,rfl⟩ ?_ ?_
  ·intro d hd σ h_ rest ⟨v,hv⟩ k
   subst hv;obtain⟨f,j,rfl⟩:=List.mem_map.1 hd;have a:=k _ ⟨some (.int f),rfl⟩;dsimp only at a;refine⟨(ho.2 f j).1,⟨rfl,rfl,(by decide:(0:Nat)<=30)⟩,?_⟩;show Bif (Builtin.bitAnd (h / 2 ^ f.toNat) 1==1) _ _;rw[PyProof.Rows.bitAnd_m1];show Bif (hasB h f) _ _;cases hb:hasB h f with
   |true=>rw[hb] at a;exact⟨trivial,a⟩
   |false=>rw[hb] at a;exact⟨trivial,by simpa using a⟩
  ·intro p hp
   rw[aa];have e:([]++(intL fs).filter (λ(d:D)=>match d with | .int f=>hasB h f | _=>false)).length=cntB fs h:=by
    unfold intL cntB;rw[XF,List.filter_map,ZG];rfl
   dsimp only;rw[e];exact q _ (Ext.new hp)
 |led fs k=>
  unfold bQ;simp_all! only[CT.told,at0,at1,at2,s_dh];unfold cv;simp_all! only[CT.told,at0,at1,at2,s_dl];unfold eZ;simp_all! only[CT.told,at0,at1,at2,s_ds];unfold jS;simp_all! only[CT.told,at0,at1,at2,ow,List.cons_append,XF,List.replicate];refine dQ (p:=λd=>match d with | .int f=>hasB g f | _=>false) (ok:=λσ=>∃v,σ=[some (.tup [.str "lead",.tup (intL fs),⇑k]),some (.int h),some (.int g),none,v]) [] _ ⟨none,rfl⟩ ?_ ?_
  ·intro d hd σ h_ rest ⟨v,hv⟩ k
   subst hv;obtain⟨f,j,rfl⟩:=List.mem_map.1 hd;have a:=k _ ⟨some (.int f),rfl⟩;dsimp only at a;refine⟨(ho.2 f (List.mem_of_mem_take j)).1,⟨rfl,rfl,(by decide:(0:Nat)<=30)⟩,?_⟩;show Bif (Builtin.bitAnd (g / 2 ^ f.toNat) 1==1) _ _;rw[PyProof.Rows.bitAnd_m1];show Bif (hasB g f) _ _;cases hb:hasB g f with
   |true=>rw[hb] at a;exact⟨trivial,a⟩
   |false=>rw[hb] at a;exact⟨trivial,by simpa using a⟩
  ·intro p hp
   have e:([]++(intL (fs.take k)).filter (λ(d:D)=>match d with | .int f=>hasB g f | _=>false))=intL ((fs.take k).filter (hasB g)):=by
    unfold intL;rw[XF,List.filter_map];rfl
   rw[e];have l:=Ext.new (o:=MO.lst (intL ((fs.take k).filter (hasB g)))) hp;have r:updM M p (MO.lst (intL ((fs.take k).filter (hasB g)))) p=some (.lst (intL ((fs.take k).filter (hasB g)))):=aa;generalize updM M p (MO.lst (intL ((fs.take k).filter (hasB g))))=M1 at *;show wSs cn eY (fin Q) [some (.tup [.str "lead",.tup (intL fs),⇑k]),some (.int h),some (.int g),↑p] M1;have b:∀M',Ext M M'->Q (.bl (hasB h (fs.getD k 0)&&(((cntB (fs.take k) g:Nat):Int)==0))) M':=q;unfold eY;simp_all! only[CT.told,at0,at1,at2,sd ho.1.1];refine⟨xD ho.1.1 ho.2,?_⟩;rw[PyProof.Rows.bitAnd_m1];show Bif (hasB h (fs.getD k 0)) _ _;cases hb:hasB h (fs.getD k 0) with
   |false=>
    rw[hb] at b;exact b M1 l
   |true=>
    rw[hb] at b;intro p2 u;have m:=Ext.new (o:=MO.lst []) u;have y:updM M1 p2 (MO.lst []) p2=some (.lst []):=aa;generalize updM M1 p2 (MO.lst [])=M2 at *;simp only[m _ _ r,y,rdL];refine⟨⟨nz _,rfl,by rw[pI];decide⟩,?_⟩;rw[eq_nil];exact b M2 (l.trans m)
theorem yK(l:cn.F.getD 0 Yl=gm)(h:hJ ds M Q):wSs cn mo (fin Q) (ae ["","","",""] ds) M:=by
 obtain⟨p,ts,h,g,rfl,hp,ho,q⟩:=h;show wSs cn mo (fin Q) [↑p,some (.int h),some (.int g),none] M;have body:∀(E:EndsD) (t:CT) (M5:MH),t.ok->(∀a,Ext M5 a->t.carried h g=true->E.nx [↑p,some (.int h),some (.int g),some t.told] a)->(∀a,Ext M5 a->t.carried h g=false->E.rt (.bl false) a) ->
   wSs cn gk E [↑p,some (.int h),some (.int g),some t.told] M5:=by
  intro E t M5 ht m n;unfold gk;simp! only[List.set,l];refine⟨t,h,g,rfl,ht,λa d=>?_⟩;simp! only[];cases b:t.carried h g with
  |true=>exact m a d b
  |false=>exact n a d b
 have j:∀(xs:List CT) (v:Zz) (M5:MH),(∀t∈xs,t.ok)->Ext M M5->(∀M',Ext M M'->Q (.bl (xs.all (CT.carried h g))) M') ->
   aq (λM'=>M' p=some (.lst (ts.map CT.told))) (.nm 3) (wSs cn gk) { nx:=wSs cn jT (fin Q),rt:=Q } (xs.map CT.told) [↑p,some (.int h),some (.int g),v] M5:=by
  intro xs;induction xs with
  |nil=>
   intro v M5 _ f k;rw[XB,aq];unfold jT;simp! only[];exact k M5 f
  |cons t xs o=>
   intro v M5 ht f k;rw[YM,aq];refine body _ t M5 (ht t (.head _)) (λa d hb=>?_) (λa d hb=>?_)
   ·refine⟨f.trans d _ _ hp,o _ a (λt h=>ht t (.tail _ h)) (f.trans d) λM' e'=>?_⟩
    have:=k M' e'
    rw[XT,hb,Bool.true_and] at this;exact this
   ·have:=k a (f.trans d)
    rw[XT,hb,Bool.false_and] at this;exact this
 unfold mo;simp! only[List.set,hp];exact j ts none M ho (Ext.refl M) q
end
end SH
namespace SQ
open PySem L2 DD
open SH
end SQ
namespace SH
open PySem L2 DD
theorem d3.uniq{a_:Zy}{told g n n':Nat}(h:d3 a_ told g n)(h':d3 a_ told g n'):n=n':=by
 refine Nat.eq_of_testBit_eq λf=>?_
 have a:=h.2 _ h'.1 f;have b:=h'.2 _ h.1 f;cases e:n.testBit f with
 |true=>exact(a e).symm
 |false=>
  cases e':n'.testBit f with
  |false=>rfl
  |true=>rw[b e'] at e;cases e
theorem Sub.zero(a:Nat):Sub 0 a:=λf h=>by rw[Nat.zero_testBit] at h;cases h
def iD(x:Nat×Nat):D:=.tup [⇑x.1,⇑x.2]
def stg(a_:Zy)(g told:Nat):Nat->Nat
 |0=>told
 |s+1=>stg a_ g told s|||setN ((a_.filter (aU (stg a_ g told s) g)).map (·.1))
def Came(a_:Zy)(g told f s r:Nat):Prop:=(stg a_ g told s).testBit f=false/\aV a_ (stg a_ g told s) g f=some r
section
variable {a_:Zy}{g told:Nat}
theorem di(s f:Nat):(stg a_ g told (s+1)).testBit f=true↔(stg a_ g told s).testBit f=true \/ ∃x∈a_,x.1=f/\aU (stg a_ g told s) g x=true:=by
 rw[stg,Nat.testBit_or,Bool.or_eq_true,bq,XU,List.mem_map];refine or_congr Iff.rfl ⟨λ⟨x,hx,e⟩=>?_,λ⟨x,hx,e,q⟩=>⟨x,ZX.2 ⟨hx,q⟩,e⟩⟩;exact⟨x,(ZX.1 hx).1,e,(ZX.1 hx).2⟩
theorem vN(s:Nat):Sub (stg a_ g told s) (stg a_ g told (s+1)):=λf h=>(di s f).2 (.inl h)
theorem vO{s t:Nat}(h:s<=t):Sub (stg a_ g told s) (stg a_ g told t):=by
 induction h with
 |refl=>exact Sub.refl _
 |step _ a=>exact a.trans (vN _)
theorem Came.in{f s r:Nat}(h:Came a_ g told f s r):(stg a_ g told (s+1)).testBit f=true:=by
 obtain⟨x,hx,e,q⟩:=kQ h.2;exact(di s f).2 (.inr ⟨x,YV hx,e,q⟩)
theorem nJ{h f:Nat}{x:Row}(hx:x∈a_)(e:x.1=f)(q:aU h g x=true):∃r,aV a_ h g f=some r:=by
 cases z:aV a_ h g f with
 |none=>rw[kP z hx e] at q;cases q
 |some r=>exact⟨r,rfl⟩
theorem vP(f:Nat):∀s,(stg a_ g told s).testBit f=true↔told.testBit f=true \/ ∃t r,t<s/\Came a_ g told f t r
 |0=>by rw[stg];exact⟨.inl,λh=>h.elim id λ⟨t,r,h,_⟩=>absurd h (Nat.not_lt_zero _)⟩
 |s+1=>by
  constructor
  ·intro h
   cases b:(stg a_ g told s).testBit f with
   |true=>
    rcases(vP f s).1 b with z | ⟨t,r,ht,c⟩
    ·exact .inl z
    ·exact .inr ⟨t,r,XO ht,c⟩
   |false=>
    rcases(di s f).1 h with z | ⟨x,hx,e,q⟩
    ·rw[z] at b;cases b
    ·obtain⟨r,a⟩:=nJ hx e q
     exact .inr ⟨s,r,YN s,b,a⟩
  ·rintro(h | ⟨t,r,ht,c⟩)
   ·exact vO (YO _) f h
   ·exact vO ht f c.in
theorem tq{d_:Nat}(j:∀x∈a_,d_.testBit x.1=true):∀(k s left:Nat),left<k->(∀f,left.testBit f=(d_.testBit f && !(stg a_ g told s).testBit f))->∀f t r,(f,t,r)∈aP a_ g k (s+1) (stg a_ g told s) left ↔ ∃t',t=t'+1/\s<=t'/\Came a_ g told f t' r
 |0,_,_,h,_,_,_,_=>absurd h (Nat.not_lt_zero _)
 |k+1,s,left,hk,hl,f,t,r=>by
  have fr:∀f r,(f,r)∈av a_ (stg a_ g told s) g left↔Came a_ g told f s r:=by
   intro f r;rw[cr,hl];constructor
   ·rintro⟨a,b⟩
    rw[XA] at a;exact⟨by simpa using a.2,b⟩
   ·rintro⟨a,b⟩
    obtain⟨x,hx,e,q⟩:=kQ b
    have:=j x (YV hx)
    rw[e] at this;rw[this,a];exact⟨rfl,b⟩
  have nx:stg a_ g told s|||newB (av a_ (stg a_ g told s) g left)=stg a_ g told (s+1):=by
   refine Nat.eq_of_testBit_eq λf=>?_
   rw[Bool.eq_iff_iff,Nat.testBit_or,Bool.or_eq_true,pK];constructor
   ·rintro(h | ⟨r,h⟩)
    ·exact vN s f h
    ·exact((fr f r).1 h).in
   ·intro h
    cases b:(stg a_ g told s).testBit f with
    |true=>exact .inl rfl
    |false=>
     rcases(di s f).1 h with z | ⟨x,hx,e,q⟩
     ·rw[z] at b;cases b
     ·obtain⟨r,d⟩:=nJ hx e q
      exact .inr ⟨r,(fr f r).2 ⟨b,d⟩⟩
  rw[aP];by_cases e:av a_ (stg a_ g told s) g left=[]
  ·rw[if_pos e]
   refine⟨λh=>(by cases h),λ⟨t',_,ht,c⟩=>?_⟩;have st:∀u,s<=u->stg a_ g told u=stg a_ g told s:=by
    intro u hu;induction hu with
    |refl=>rfl
    |@step u _ l=>
     refine Nat.eq_of_testBit_eq λf=>?_
     rw[Bool.eq_iff_iff];refine⟨λh=>?_,λh=>vO (Nat.le_succ_of_le ‹_›) f h⟩;rcases(di u f).1 h with z | ⟨x,hx,e',q⟩
     ·rw[l] at z;exact z
     ·rw[l] at q
      cases b:(stg a_ g told s).testBit f with
      |true=>rfl
      |false=>
       obtain⟨r,d⟩:=nJ hx e' q
       have:=(fr f r).2 ⟨b,d⟩
       rw[e] at this;cases this
   unfold Came at c;rw[st t' ht] at c
   have:=(fr f r).2 c
   rw[e] at this;cases this
  ·rw[if_neg e,nx,YD,tq j k (s+1) _ (by have:=mf e;omega) ?_ f t r]
   ·constructor
    ·rintro(h | ⟨t',h1,h2,h3⟩)
     ·obtain⟨⟨m,n⟩,hx,z⟩:=List.mem_map.1 h
      cases z;exact⟨s,rfl,YH _,(fr _ _).1 hx⟩
     ·exact⟨t',h1,by omega,h3⟩
    ·rintro⟨t',h1,h2,h3⟩
     by_cases z:t'=s
     ·subst z
      exact .inl (List.mem_map.2 ⟨(f,r),(fr f r).2 h3,by rw[h1]⟩)
     ·exact .inr ⟨t',h1,by omega,h3⟩
   ·intro f
    rw[a0,hl,←nx,Nat.testBit_or];cases d_.testBit f<;>cases(stg a_ g told s).testBit f<;>cases(newB (av a_ (stg a_ g told s) g left)).testBit f<;>rfl
theorem mq{d_:Nat}(c:∀x∈a_,d_.testBit x.1=true)(f t r:Nat):(f,t,r)∈aP a_ g (aA d_ told+1) 1 told (aA d_ told) ↔ ∃t',t=t'+1/\Came a_ g told f t' r:=by
 rw[show aP a_ g (aA d_ told+1) 1 told (aA d_ told)=aP a_ g (aA d_ told+1) (0+1) (stg a_ g told 0) (aA d_ told) from rfl];rw[tq c _ 0 _ (YN _) (λf=>by rw[stg];exact a0 _ _ _)];exact⟨λ⟨t',a,_,b⟩=>⟨t',a,b⟩,λ⟨t',a,b⟩=>⟨t',a,YO _,b⟩⟩
theorem d3.came{d_ n:Nat}(a:∀x∈a_,d_.testBit x.1=true)(L:d3 a_ told g n)(f:Nat):n.testBit f=true↔told.testBit f=true \/ ∃s r,Came a_ g told f s r:=by
 rw[L.uniq (mi (d_:=d_) a)];unfold mh;rw[Nat.testBit_or,Bool.or_eq_true,bq,XU,List.mem_map];refine or_congr Iff.rfl ⟨λ⟨⟨b,t,r⟩,hx,e⟩=>?_,λ⟨s,r,c⟩=>⟨(f,s+1,r),(mq a _ _ _).2 ⟨s,rfl,c⟩,rfl⟩⟩;cases e;obtain⟨t',-,c⟩:=(mq a _ _ _).1 hx;exact⟨t',r,c⟩
end
inductive Pap where
 |told
 |tru (turn step row:Nat)
 |fls (turn:Nat)
 |opn (step row:Nat)
def cE(c:CA)(S:Addr):SpD:=λds M Q=>∃(a:Addr) (m:Nat) (a_:Zy) (told g:Nat),ds=[.ref a,⇑told,⇑g]/\SheetAt c S M a m a_/\a_.length<401/\m<121/\told<2 ^ m /\
 ∀p M',M p=none->Ext M M'->M' p=some (.lst (bX a_ g told (2 ^ m-1)))->Q (.ref p) M'
def iO:Ss:=#v[.ret (.fn 0 #v[.var 0,.fn 1 #v[.mu0 "how_many" (.var 0)],.var 1,.var 2])]
section
variable {cn:Cn}{ds:List D}{M:MH}{Q:DK}{c:CA}{S Z:Addr}
theorem tM(b:cn.T S "how_many" = some (fB c S))(d:cn.F.getD 0 Yl=gX c S)(f:cn.F.getD 1 Yl=dr)(h:cE c S ds M Q):wSs cn iO (fin Q) (ae ["","",""] ds) M:=by
 obtain⟨a,m,a_,told,g,rfl,A,hn,hm,ht,q⟩:=h;show wSs cn iO (fin Q) [↑a,~~~told,~~~g] M;obtain⟨ok,w_,p1,p2,p3,Hf,G4,Hm,j,-⟩:=A.ext (Ext.refl M);have n:1<=2 ^ m:=Nat.one_le_two_pow;unfold iO;simp! only[j,o0,b,d,f];refine⟨trivial,a,m,a_,rfl,A,m,rfl,by omega,?_⟩;exact⟨a,m,a_,2 ^ m-1,told,g,rfl,A,hn,hm,by omega,ht,λp M1 hp k l=>q p M1 hp k l⟩
end
end SH
namespace SQ
open PySem L2 DD
open SH
section
variable {a_:Zy}{g told m i j:Nat}{more:Nat}{e_:ZD}
def left(a_:Zy)(s:Nat):Nat:=a_.countP λx=>!s.testBit x.1
end
end SQ
namespace SH
open PySem L2 DD
end SH
namespace SQ
open PySem L2 DD
open SH
theorem dz:∀l:List (Nat×Nat),aK (l.map iD)=true
 |[]=>rfl
 |y::l=>by rw[YM,aK,dz l];rfl
theorem nK:∀l:List (Nat×Nat),bm (l.map iD)<=1
 |[]=>YO _
 |y::l=>by
  rw[YM,bm]
  have:=nK l
  have h:depD (iD y)=1:=rfl;rw[h];omega
end SQ
namespace SH
open PySem L2 DD
def enP:Nat->List Pap->List (Nat×Pap)
 |_,[]=>[]
 |n,q::l=>(n,q)::enP (n+1) l
def ones(a:List Pap)(p:Pap->Bool):List (Nat×Pap):=(enP 0 a).filter λx=>p x.2
end SH
namespace SQ
open PySem L2 DD
open SH
end SQ
namespace SH
open PySem L2 DD
end SH
namespace SQ
open PySem L2 DD
open SH
end SQ
namespace SH
open PySem L2 DD
theorem BZ{n:Nat}:memb n=[]↔n=0:=by
 constructor
 ·intro h
  refine Nat.eq_of_testBit_eq λf=>?_
  rw[Nat.zero_testBit];cases e:n.testBit f with
  |false=>rfl
  |true=>
   have:=(br n f).2 e
   rw[h] at this;cases this
 ·rintro rfl
  rfl
def um:D->Bool
 |.non=>true
 |.int _=>true
 |.str _=>true
 |_=>false
def B0:SpD:=λds M Q=>∃d:D,ds=[d]/\um d=true/\Q (.bl true) M
theorem GG(ns:Zj):aK (nats ns)=true:=by rw[km];exact nz _
theorem depN(ns:Zj):bm (nats ns)<=30:=by rw[km,pI];decide
section
variable {cn:Cn}{ds:List D}{M:MH}{Q:DK}{c:CA}{S Z:Addr}
theorem rz(h:B0 ds M Q):wSs cn aW (fin Q) (ae ["",""] ds) M:=by
 obtain⟨d,rfl,hd,q⟩:=h;show wSs cn aW (fin Q) [some d,none] M;cases d with
 |int i=>
  exact BW ⟨i,rfl,q⟩
 |non=>
  unfold aW;simp! only[tyD,tysD];refine⟨by decide,?_⟩;show Bif false _ _;unfold dw;simp! only[tyD];exact⟨trivial,q⟩
 |str z=>
  unfold aW;simp! only[tyD,tysD];refine⟨by decide,?_⟩;show Bif false _ _;unfold dw;simp! only[tyD];refine⟨trivial,by decide,?_⟩;show Bif true _ _;exact q
 |_=>cases hd
end
end SH
namespace SR
open PySem L2 DD
open SH
section
variable {pl:Zj}{f i k m:Nat}
theorem bK(h:pl[i]?=some f):pl.getD i 0=f:=by
 rw[List.getD_eq_getElem?_getD,h];rfl
structure Chn (pl:Zj):Prop where
 nd:pl.Nodup
 lt:∀f∈pl,f<pl.length
 all:∀f,f<pl.length->f∈pl
 pos:0<pl.length
 few:pl.length<=120
end
end SR
namespace SH
open PySem L2 DD
def lB(M:MH):Nat->D->Prop
 |0,x=>um x=true
 |d+1,x=>um x=true \/ ∃xs,(x=.tup xs \/ ∃a,x=.ref a/\M a=some (.lst xs))/\∀y∈xs,lB M d y
def cw(d:Nat):SpD:=λds M Q=>∃x:D,ds=[x]/\lB M d x/\Q (.bl true) M
theorem cx{M:MH}{x:D}(h:um x=true):∀d,lB M d x
 |0=>h
 |_+1=>.inl h
section
variable {cn:Cn}{ds:List D}{M:MH}{Q:DK}{c:CA}{S Z:Addr}
theorem yL(h:cw 0 ds M Q):wSs cn aW (fin Q) (ae ["",""] ds) M:=by
 obtain⟨x,rfl,hx,q⟩:=h;exact rz ⟨x,rfl,hx,q⟩
theorem yM {d:Nat} (f:cn.F.getD 0 Yl = cw d) (h:cw (d + 1) ds M Q):wSs cn aW (fin Q) (ae ["",""] ds) M:=by
 obtain ⟨x,rfl,hx | ⟨xs,hd,hx⟩,q⟩:=h
 ·exact rz ⟨x,rfl,hx,q⟩
 show wSs cn aW (fin Q) [some x,none] M
 have body:∀ (E:EndsD) (y:D),lB M d y->E.nx [some x,some y] M->wSs cn dy E [some x,some y] M:=by
  intro E y ha k
  unfold dy
  simp! only [List.set,f]
  exact ⟨y,rfl,ha,k⟩
 have b:∀ (g:MH->Prop),g M->∀ (ys:List D) (v:Zz),(∀ y ∈ ys,lB M d y)->aq g (.nm 1) (wSs cn dy) { nx:=wSs cn gZ (fin Q),rt:=Q } ys [some x,v] M:=by
  intro g hg ys
  induction ys with
  | nil=>
   intro v _
   rw [aq]
   unfold gZ
   simp! only []
   exact q
  | cons y ys j=>
   intro v hy
   rw [aq]
   exact body _ y (hy y (.head _)) ⟨hg,j _ λx h=>hy x (.tail _ h)⟩
 unfold aW
 rcases hd with rfl | ⟨a,rfl,hM⟩
 ·simp! only [tyD,tysD]
  refine ⟨by decide,?_⟩
  show Bif true _ _
  rw [aI]
  exact b _ trivial xs none hx
 ·simp! only [tyD,tysD,hM]
  refine ⟨by decide,?_⟩
  show Bif true _ _
  rw [aI]
  exact b _ hM xs none hx
end
end SH
namespace SR
open PySem L2 DD
open SH
def kZ:Ss:=#v[.ret (.and (.fn 0 #v[.var 0]) (.cmp .Eq (.var 0) (.var 1)))]
def FU(M:MH)(x y:D):Prop:=(∃i:Int,x=.int i/\y=.int i)\/(∃z:Str,x=.str z/\y=.str z) \/ ∃(a b:Addr) (ps:Zp),x=.ref a/\y=.ref b/\M a=some (.lst (ps.map iD))/\M b=some (.lst (ps.map iD))
def spSame:SpD:=λds M Q=>∃(x y:D),ds=[x,y]/\FU M x y/\Q (.bl true) M
theorem pairs_refl(ps:Zp):eqDs (ps.map iD) (ps.map iD)=true:=io _ (SQ.dz ps)
theorem Drawn.chn{m:Nat}{fs:Zj}(h:Drawn m [] fs)(a:0<m)(b:m<=120):Chn fs/\fs.length=m:=by
 have hl:fs.length=m:=by have:=h.len;simpa using this
 have nd:fs.Nodup:=by have:=h.nd;simpa using this
 have lt:∀f∈fs,f<m:=λf hf=>h.lt f (by simpa using hf)
 refine⟨⟨nd,by rw[hl];exact lt,λf hf=>?_,by omega,by omega⟩,hl⟩;by_cases c:f∈fs
 ·exact c
 ·have:=bM (n:=m) (l:=f::fs) (YR.2 ⟨c,nd⟩) λx hx=>by
   rcases YC.1 hx with rfl | hx
   ·omega
   ·exact lt x hx
  rw[YK] at this;omega
section
variable {cn:Cn}{ds:List D}{M:MH}{Q:DK}{c:CA}{S Z:Addr}
theorem rd_same(d:cn.F.getD 0 Yl=cw 2)(h:spSame ds M Q):wSs cn kZ (fin Q) (ae ["",""] ds) M:=by
 obtain⟨x,y,rfl,h,q⟩:=h;show wSs cn kZ (fin Q) [some x,some y] M;unfold kZ;rcases h with⟨i,rfl,rfl⟩ | ⟨z,rfl,rfl⟩ | ⟨a,b,ps,rfl,rfl,f,h2⟩
 ·simp_all! only[List.set,d]
  refine⟨_,rfl,cx rfl 2,?_⟩;simp_all! only[XH];exact q
 ·simp_all! only[List.set,d]
  refine⟨_,rfl,cx rfl 2,?_⟩;simp_all! only[XH];exact q
 ·simp! only[List.set,d]
  refine⟨_,rfl,.inr ⟨_,.inr ⟨a,rfl,f⟩,λy hy=>?_⟩,?_⟩
  ·obtain⟨w,_,rfl⟩:=List.mem_map.1 hy
   refine .inr ⟨_,.inl rfl,λy hy=>?_⟩;rcases YC.1 hy with rfl | hy
   ·exact cx rfl 0
   ·rw[XR.1 hy];exact cx rfl 0
  simp! only[f,h2,rdL,pairs_refl];exact⟨⟨SQ.dz _,SQ.dz _,by have:=SQ.nK ps;omega⟩,q⟩
end
end SR
namespace SK
open PySem L2 DD
open SH
abbrev En:=Nat×Nat×Option Nat
def rowD:Option Nat->D
 |none=>.non
 |some r=>.int (r:Int)
def enD(x:En):D:=.tup [.int (x.1:Int),.int (x.2.1:Int),rowD x.2.2]
def ens(a_:Zy)(g told d_:Nat):List En:=(memb told).map (λf=>(f,0,none))++(aP a_ g (aA d_ told+1) 1 told (aA d_ told)).map λx=>(x.1,x.2.1,some x.2.2)
theorem ig(a_:Zy)(g told d_:Nat):bX a_ g told d_=(ens a_ g told d_).map enD:=by
 unfold bX ens;rw[ZN,ZO,ZO];rfl
def Lx(x y:En):Prop:=x.2.1<y.2.1\/(x.2.1=y.2.1/\x.1<y.1)
theorem Lx.irr(x:En):¬Lx x x:=λh=>by unfold Lx at h;omega
theorem Lx.asy{x y:En}(h:Lx x y)(h':Lx y x):False:=by unfold Lx at h h';omega
section
variable {a_:Zy}{g told d_ m:Nat}
theorem mr:∀(k step c left:Nat),((aP a_ g k step c left).map λx=>((x.1,x.2.1,some x.2.2):En)).Pairwise Lx/\∀x∈aP a_ g k step c left,step<=x.2.1
 |0,_,_,_=>⟨.nil,λ_ h=>nomatch h⟩
 |k+1,step,c,left=>by
  rw[aP];by_cases e:av a_ c g left=[]
  ·rw[if_pos e]
   exact⟨.nil,λ_ h=>nomatch h⟩
  ·rw[if_neg e]
   obtain⟨a,b⟩:=mr k (step+1) (c|||newB (av a_ c g left)) (aA left (newB (av a_ c g left)));refine⟨?_,λx hx=>?_⟩
   ·rw[ZN,List.pairwise_append]
    refine⟨?_,a,λx hx y hy=>?_⟩
    ·rw[ZO,List.pairwise_map]
     have d:((av a_ c g left).map (·.1)).Pairwise (· < ·):=by
      rw[nH];exact List.Pairwise.filter _ (kT left)
     rw[List.pairwise_map] at d;exact d.imp λh=>.inr ⟨rfl,h⟩
    ·obtain⟨u,hu,rfl⟩:=List.mem_map.1 hx
     obtain⟨f,j,rfl⟩:=List.mem_map.1 hu;obtain⟨v,hv,rfl⟩:=List.mem_map.1 hy;exact .inl (Nat.lt_of_succ_le (b v hv))
   ·rcases YD.1 hx with h | h
    ·obtain⟨u,hu,rfl⟩:=List.mem_map.1 h
     exact YH _
    ·exact Nat.le_of_succ_le (b x h)
theorem rA:∀(k step a left:Nat),∀x∈aP a_ g k step a left,x.2.1<step+(aP a_ g k step a left).length
 |0,_,_,_,_,h=>nomatch h
 |k+1,step,a,left,x,hx=>by
  rw[aP] at hx ⊢;by_cases e:av a_ a g left=[]
  ·rw[if_pos e] at hx;cases hx
  ·rw[if_neg e] at hx ⊢
   have hp:0<(av a_ a g left).length:=List.length_pos_iff.2 e;rw[ZM,ZG];rcases YD.1 hx with h | h
   ·obtain⟨u,hu,rfl⟩:=List.mem_map.1 h
    show step<_;omega
   ·have:=rA k (step+1) _ _ x h
    omega
theorem tt:(ens a_ g told d_).Pairwise Lx:=by
 unfold ens;rw[List.pairwise_append];refine⟨?_,(mr _ _ _ _).1,λx hx y hy=>?_⟩
 ·rw[List.pairwise_map]
  exact(kT told).imp λh=>.inr ⟨rfl,h⟩
 ·obtain⟨u,hu,rfl⟩:=List.mem_map.1 hx
  obtain⟨v,hv,rfl⟩:=List.mem_map.1 hy;exact .inl ((mr (a_:=a_) (g:=g) _ _ _ _).2 v hv)
theorem dA(b:∀x∈a_,d_.testBit x.1=true){x:En}:x∈ens a_ g told d_↔(x.2=(0,none)/\told.testBit x.1=true) \/ ∃t r,x.2=(t+1,some r)/\Came a_ g told x.1 t r:=by
 obtain⟨f,s,r⟩:=x;unfold ens;rw[YD,List.mem_map,List.mem_map];refine or_congr ⟨λ⟨u,hu,e⟩=>?_,λ⟨e,h⟩=>?_⟩ ⟨λ⟨⟨d,j,a⟩,hu,e⟩=>?_,λ⟨t,a,e,c⟩=>?_⟩
 ·cases e
  exact⟨rfl,(br _ _).1 hu⟩
 ·cases e
  exact⟨f,(br _ _).2 h,rfl⟩
 ·cases e
  obtain⟨t',rfl,c⟩:=(mq b _ _ _).1 hu;exact⟨t',a,rfl,c⟩
 ·cases e
  exact⟨(f,t+1,a),(mq b _ _ _).2 ⟨t,rfl,c⟩,rfl⟩
theorem tu:((ens a_ g told d_).map (·.1)).Nodup:=by
 unfold ens;rw[ZN,ZO,ZO];obtain⟨a,b⟩:=gh (a_:=a_) (g:=g) (aA d_ told+1) 1 told (aA d_ told);refine List.nodup_append.2 ⟨?_,a,λx hx y hy e=>?_⟩
 ·have:(memb told).map ((·.1)∘λf=>((f,0,none):En))=memb told:=List.map_id _
  rw[this];exact jf told
 ·subst e
  have d:=b x hy;obtain⟨f,hf,rfl⟩:=List.mem_map.1 hx;rw[a0,XA] at d;have h2:=(br _ _).1 hf;have c:=d.2;change (!told.testBit f)=true at c;rw[h2] at c;cases c
theorem vQ(ht:told<2 ^ m)(a:d_<2 ^ m):∀x∈ens a_ g told d_,x.1<m:=by
 intro x hx;unfold ens at hx;rcases YD.1 hx with h | h
 ·obtain⟨f,hf,rfl⟩:=List.mem_map.1 h
  exact fZ ht ((br _ _).1 hf)
 ·obtain⟨y,hy,rfl⟩:=List.mem_map.1 h
  have:=(gh (a_:=a_) (g:=g) _ _ _ _).2 _ (List.mem_map.2 ⟨y,hy,rfl⟩)
  rw[a0,XA] at this;exact fZ a this.1
theorem Ej(ht:told<2 ^ m)(a:d_<2 ^ m):(ens a_ g told d_).length<=m:=by
 have:=bM (n:=m) (tu (a_:=a_) (g:=g) (told:=told) (d_:=d_)) λf hf=>by
  obtain⟨x,hx,rfl⟩:=List.mem_map.1 hf;exact vQ ht a x hx
 rwa [ZG] at this
theorem Ca:∀x∈ens a_ g told d_,x.2.1<=(ens a_ g told d_).length:=by
 intro x hx;have hl:(ens a_ g told d_).length=(memb told).length+(aP a_ g (aA d_ told+1) 1 told (aA d_ told)).length:=by
  unfold ens;rw[ZM,ZG,ZG]
 unfold ens at hx;rcases YD.1 hx with h | h
 ·obtain⟨f,hf,rfl⟩:=List.mem_map.1 h
  exact YO _
 ·obtain⟨y,hy,rfl⟩:=List.mem_map.1 h
  have:=rA (a_:=a_) (g:=g) _ _ _ _ y hy
  show y.2.1<=_;omega
def bD(es:List En)(s:Int):Nat:=setN ((es.filter λx=>decide ((x.2.1:Int)<=s)).map (·.1))
theorem vR{es:List En}{s:Int}{f:Nat}:(bD es s).testBit f=true ↔ ∃x∈es,x.1=f/\(x.2.1:Int)<=s:=by
 unfold bD;rw[bq,XU,List.mem_map];exact⟨λ⟨x,hx,e⟩=>⟨x,(ZX.1 hx).1,e,XS (ZX.1 hx).2⟩,λ⟨x,hx,e,q⟩=>⟨x,ZX.2 ⟨hx,YX q⟩,e⟩⟩
theorem pO(a:∀x∈a_,d_.testBit x.1=true)(s:Nat):bD (ens a_ g told d_) (s:Int)=stg a_ g told s:=by
 refine Nat.eq_of_testBit_eq λf=>?_
 rw[Bool.eq_iff_iff,vR,vP];constructor
 ·rintro⟨⟨f',s',r⟩,hx,rfl,b⟩
  rcases(dA a).1 hx with⟨e,h⟩ | ⟨t,d,e,c⟩
  ·exact .inl h
  ·cases e
   exact .inr ⟨t,d,by have b:((t+1:Nat):Int)<=s:=b;omega,c⟩
 ·rintro(h | ⟨t,r,ht,c⟩)
  ·exact⟨(f,0,none),(dA a).2 (.inl ⟨rfl,h⟩),rfl,by show((0:Nat):Int)<=s;omega⟩
  ·exact⟨(f,t+1,some r),(dA a).2 (.inr ⟨t,r,rfl,c⟩),rfl,by show((t+1:Nat):Int)<=s;omega⟩
theorem vS(a:∀x∈a_,d_.testBit x.1=true){n:Nat}(L:d3 a_ told g n):bD (ens a_ g told d_) ((ens a_ g told d_).length:Int)=n:=by
 refine Nat.eq_of_testBit_eq λf=>?_
 rw[Bool.eq_iff_iff,vR,L.came a];constructor
 ·rintro⟨⟨f',s',r⟩,hx,rfl,hs⟩
  rcases(dA a).1 hx with⟨e,h⟩ | ⟨t,b,e,c⟩
  ·exact .inl h
  ·exact .inr ⟨t,b,c⟩
 ·rintro(h | ⟨t,r,c⟩)
  ·exact⟨(f,0,none),(dA a).2 (.inl ⟨rfl,h⟩),rfl,by show((0:Nat):Int)<=_;omega⟩
  ·have hx:((f,t+1,some r):En)∈ens a_ g told d_:=(dA a).2 (.inr ⟨t,r,rfl,c⟩)
   exact⟨_,hx,rfl,by have:=Ca _ hx;omega⟩
theorem Cb{f t r:Nat}(c:Came a_ g told f (t+1) r){x:Row}(hx:x∈a_)(e:x.1=f):aU (stg a_ g told t) g x=false:=by
 cases q:aU (stg a_ g told t) g x with
 |false=>rfl
 |true=>
  have:=(di t f).2 (.inr ⟨x,hx,e,q⟩)
  rw[c.1] at this;cases this
end
def ordP(x:En):Int×Int:=((x.2.1:Int),(x.1:Int))
theorem xG{d:Type}(c:d->Int):∀{l m:List d},m.Perm l->l.Pairwise (λx y=>c x<c y)->m.Pairwise (λx y=>c x<=c y)->m=l
 |[],m,hp,_,_=>hp.eq_nil
 |a::l,[],hp,_,_=>absurd hp.length_eq (by simp)
 |a::l,b::m,hp,hl,hm=>by
  rw[List.pairwise_cons] at hl hm;have e:b=a:=by
   rcases YC.1 (hp.mem_iff.1 YA) with e | e
   ·exact e
   ·have f:=hl.1 b e
    rcases YC.1 (hp.mem_iff.2 YA) with e' | e'
    ·exact e'.symm
    ·have h2:=hm.1 a e'
     omega
  subst e;rw[xG c (List.Perm.cons_inv hp) hl.2 hm.2]
theorem yN{es:List En}(h:es.Pairwise Lx)(a:∀x∈es,x.1<1048576):(es.map ordP).Pairwise (λx y=>TS.rkP x<TS.rkP y):=by
 rw[List.pairwise_map];induction h with
 |nil=>exact .nil
 |@cons x es hx _ b=>
  refine .cons (λy hy=>?_) (b λz hz=>a z (.tail _ hz));have c:=hx y hy;have h2:=a x YA;have d:=a y (.tail _ hy);show(x.2.1:Int)*1048576+(x.1:Int)<(y.2.1:Int)*1048576+(y.1:Int);unfold Lx at c;omega
theorem Ax:∀{l m:List En},l.Pairwise Lx->m.Pairwise Lx->(∀x,x∈l↔x∈m)->l=m
 |[],[],_,_,_=>rfl
 |[],b::m,_,_,h=>absurd ((h b).2 (.head _)) (by simp)
 |a::l,[],_,_,h=>absurd ((h a).1 (.head _)) (by simp)
 |a::l,b::m,hl,hm,h=>by
  rw[List.pairwise_cons] at hl hm;have e:a=b:=by
   rcases YC.1 ((h a).1 (.head _)) with e | e
   ·exact e
   ·rcases YC.1 ((h b).2 (.head _)) with e' | e'
    ·exact e'.symm
    ·exact((hl.1 b e').asy (hm.1 a e)).elim
  subst e;rw[Ax hl.2 hm.2 λx=>?_];constructor
  ·intro hx
   rcases YC.1 ((h x).1 (.tail _ hx)) with e | e
   ·subst e;exact absurd (hl.1 x hx) (Lx.irr _)
   ·exact e
  ·intro hx
   rcases YC.1 ((h x).2 (.tail _ hx)) with e | e
   ·subst e;exact absurd (hm.1 x hx) (Lx.irr _)
   ·exact e
open SR (Chn bK)
structure Chr (pl:Zj) (a_:Zy):Prop where
 sound:∀x∈a_,∃k e f:Nat,pl[k]?=some e/\pl[k+1]?=some f/\x=(f,[.hav (e:Int)])
 all:∀k e f:Nat,pl[k]?=some e->pl[k+1]?=some f->((f,[.hav (e:Int)]):Row)∈a_
theorem mw(s g e f:Nat):aU s g (f,[.hav (e:Int)])=s.testBit e:=by
 show(([CT.hav (e:Int)]).all _)=_;rw[XT,List.all_nil,Bool.and_true,←gR];rfl
section
variable {pl:Zj}{a_:Zy}{g:Nat}
theorem vT(nd:pl.Nodup){i j f:Nat}(h:pl[i]?=some f)(h':pl[j]?=some f):i=j:=
 (List.getElem?_inj (YE.mp h).1 nd).1 (h.trans h'.symm)
theorem dj(C:Chn pl)(R:Chr pl a_){j:Nat}(c:pl[0]?=some j):∀(s f:Nat),(stg a_ g (2 ^ j) s).testBit f=true ↔ ∃i,i<=s/\pl[i]?=some f
 |0,f=>by
  rw[stg,Nat.testBit_two_pow,XU];constructor
  ·rintro rfl
   exact⟨0,YH _,c⟩
  ·rintro⟨i,hi,e⟩
   obtain rfl:i=0:=by omega
   exact Yi (c.symm.trans e)
 |s+1,f=>by
  rw[di,dj C R c s f];constructor
  ·rintro(⟨i,hi,e⟩ | ⟨x,hx,e,q⟩)
   ·exact⟨i,by omega,e⟩
   ·obtain⟨k,a,b,d,h2,rfl⟩:=R.sound x hx
    cases e;rw[mw,dj C R c s a] at q;obtain⟨i,hi,e⟩:=q;obtain rfl:=vT C.nd e d;exact⟨i+1,by omega,h2⟩
  ·rintro⟨i,hi,e⟩
   by_cases z:i<=s
   ·exact .inl ⟨i,z,e⟩
   ·obtain rfl:i=s+1:=by omega
    have hl:=(YE.mp e).1;have d:pl[s]?=some (pl[s]' 'a'):=ZE 'a';exact .inr ⟨_,R.all s _ _ d e,rfl,by rw[mw,dj C R c s];exact⟨s,YH _,d⟩⟩
def idxR(a_:Zy)(f:Nat):Nat:=(a_.map (·.1)).idxOf f
theorem o4(C:Chn pl)(R:Chr pl a_){d f k:Nat}(B:pl[0]?=some d)(hf:pl[k+1]?=some f):aV a_ (stg a_ g (2 ^ d) k) g f=some (idxR a_ f):=by
 have hl:=(YE.mp hf).1;have l:pl[k]?=some (pl[k]' 'a'):=ZE 'a';generalize pl[k]' 'a'=e at l;have met:∀x∈a_,x.1=f->aU (stg a_ g (2 ^ d) k) g x=true:=by
  intro x hx ex;obtain⟨k',a,b,G,J,rfl⟩:=R.sound x hx;cases ex
  have:=vT C.nd J hf
  obtain rfl:k'=k:=by omega
  rw[mw,dj C R B];exact⟨k',YH _,G⟩
 have mem:=R.all k e f l hf;have hm:f∈a_.map (·.1):=List.mem_map.2 ⟨_,mem,rfl⟩;have j:idxR a_ f<a_.length:=by have:=List.idxOf_lt_length_of_mem hm;rwa [ZG] at this
 have m:(a_.map (·.1))[idxR a_ f]?=some f:=by
  rw[ZE (by rw[ZG];exact j)];exact congrArg some (List.getElem_idxOf _)
 rw[ZH] at m;obtain⟨x,hx,ex⟩:=ZQ.1 m;have n:hits a_ (stg a_ g (2 ^ d) k) g f (idxR a_ f)=true:=cq.2 ⟨x,hx,ex,met x (YV hx) ex⟩;unfold aV;cases z:(List.range a_.length).find? (hits a_ (stg a_ g (2 ^ d) k) g f) with
 |none=>
  rw[List.find?_eq_none] at z;exact absurd n (z _ (ZY.2 j))
 |some r=>
  have K:=List.find?_some z;obtain⟨y,hy,L,_⟩:=cq.1 K;have O:idxR a_ f<=r:=by
   rcases Nat.lt_or_ge r (idxR a_ f) with w | w
   ·have o:=List.not_of_lt_findIdx (p:=(· == f)) (xs:=a_.map (λx:Row=>x.1)) (i:=r) (show r<(a_.map (λx:Row=>x.1)).idxOf f from w)
    have hg:(a_.map (·.1))[r]?=some f:=by rw[ZH,hy];exact congrArg some L
    obtain⟨T,P⟩:=YE.1 hg;rw[P] at o;simp at o
   ·exact w
  have le:r<=idxR a_ f:=by
   rcases Nat.lt_or_ge (idxR a_ f) r with w | w
   ·obtain⟨hq,as,bs,u,S⟩:=List.find?_eq_some_iff_append.1 z
    have U:r=as.length:=by
     have c:(List.range a_.length)[as.length]?=some r:=by rw[u,ZI (YH _),Nat.sub_self];rfl
     have A:=(YE.mp c).1;rw[ZL] at A;rw[ZJ A] at c;exact(Yi c).symm
    have:idxR a_ f∈as:=by
     have c:(List.range a_.length)[idxR a_ f]?=some (idxR a_ f):=ZJ j;rw[u,ZF 'a'] at c;exact YV c
    have:=S _ this
    rw[n] at this;cases this
   ·exact w
  rw[Nat.le_antisymm le O]
theorem rC(C:Chn pl)(R:Chr pl a_){j:Nat}(d:pl[0]?=some j)(f t r:Nat):Came a_ g (2 ^ j) f t r↔pl[t+1]?=some f/\r=idxR a_ f:=by
 constructor
 ·intro c
  have a:=c.in;rw[dj C R d] at a;obtain⟨i,hi,e⟩:=a;have b:¬i<=t:=λz=>by
   have:=(dj (g:=g) C R d t f).2 ⟨i,z,e⟩
   rw[c.1] at this;cases this
  obtain rfl:i=t+1:=by omega
  exact⟨e,Yi (c.2.symm.trans (o4 C R d e))⟩
 ·rintro⟨e,rfl⟩
  refine⟨?_,o4 C R d e⟩;cases b:(stg a_ g (2 ^ j) t).testBit f with
  |false=>rfl
  |true=>
   obtain⟨i,hi,e'⟩:=(dj C R d t f).1 b
   have:=vT C.nd e e'
   omega
def dueE(a_:Zy)(pl:Zj)(k:Nat):En:=(pl.getD k 0,k,if k=0 then none else some (idxR a_ (pl.getD k 0)))
def dueL(pl:Zj)(a_:Zy)(n:Nat):List En:=(List.range n).map (dueE a_ pl)
theorem o5(C:Chn pl)(R:Chr pl a_):∀x∈a_,(2 ^ pl.length-1).testBit x.1=true:=λx hx=>by
 obtain⟨k,e,f,a,h2,rfl⟩:=R.sound x hx;rw[Nat.testBit_two_pow_sub_one];exact YX (C.lt f (List.mem_iff_getElem?.2 ⟨_,h2⟩))
theorem Ay(C:Chn pl)(R:Chr pl a_):ens a_ g (2 ^ pl.getD 0 0) (2 ^ pl.length-1)=dueL pl a_ pl.length:=by
 have hp:=C.pos;have a:pl[0]?=some (pl.getD 0 0):=by rw[bK (ZE hp)];exact ZE hp
 refine Ax tt ?_ λx=>?_
 ·unfold dueL
  rw[List.pairwise_map];exact List.pairwise_lt_range.imp λh=>.inl h
 ·obtain⟨f,s,r⟩:=x
  rw[dA (o5 C R)];unfold dueL;rw[List.mem_map];constructor
  ·rintro(⟨e,h⟩ | ⟨t,r',e,c⟩)
   ·cases e
    rw[Nat.testBit_two_pow,XU] at h;exact⟨0,ZY.2 hp,by unfold dueE;rw[h];rfl⟩
   ·cases e
    obtain⟨b,j⟩:=(rC C R a _ _ _).1 (show Came a_ g (2 ^ pl.getD 0 0) f t r' from c);subst j;refine⟨t+1,ZY.2 (YE.mp b).1,?_⟩;unfold dueE;rw[bK b,if_neg 'a']
  ·rintro⟨k,hk,e⟩
   rw[ZY] at hk;unfold dueE at e;cases k with
   |zero=>
    rw[if_pos rfl] at e;cases e;exact .inl ⟨rfl,by rw[Nat.testBit_two_pow];exact YX rfl⟩
   |succ k=>
    rw[if_neg 'a'] at e;cases e;have d:pl[k+1]?=some (pl[k+1]'hk):=ZE hk;exact .inr ⟨k,_,rfl,(rC C R a _ _ _).2 ⟨by rw[bK d];exact d,rfl⟩⟩
theorem yO(C:Chn pl)(R:Chr pl a_):ens a_ g 0 (2 ^ pl.length-1)=[]:=by
 have st:∀s,stg a_ g 0 s=0:=by
  intro s;induction s with
  |zero=>rfl
  |succ s d=>
   refine Nat.eq_of_testBit_eq λf=>?_
   rw[Nat.zero_testBit,Bool.eq_false_iff];intro h;rcases(di s f).1 h with z | ⟨x,hx,e,q⟩
   ·rw[d,Nat.zero_testBit] at z;cases z
   ·obtain⟨k,a,b,j,h2,rfl⟩:=R.sound x hx
    rw[d,mw,Nat.zero_testBit] at q;cases q
 cases z:ens a_ g 0 (2 ^ pl.length-1) with
 |nil=>rfl
 |cons x l=>
  have hx:x∈ens a_ g 0 (2 ^ pl.length-1):=by rw[z];exact .head _
  rcases(dA (o5 C R)).1 hx with⟨e,h⟩ | ⟨t,m,e,c⟩
  ·rw[Nat.zero_testBit] at h;cases h
  ·have:=c.in
   rw[st,Nat.zero_testBit] at this;cases this
end
def iP:Ss:=#v[.ret (.var 2)]
def iQ:Ss:=#v[.ite (.cmp .LtE (.var 4) (.var 1)) #v[.set 2 (.bin .BitOr (.var 2) (.bin .LShift (.int 1) (.var 3)))] .nil]
def mV:Ss:=.cons (.for (.tp [3,4,5]) (.seq (.var 0)) iQ) iP
def k6:Ss:=.cons (.set 2 (.int 0)) mV
def dO:Ss:=#v[.ret (.var 7)]
def ce:Ss:=#v[.ite (.and (.cmp .Gt (.var 3) (.int 1)) (.and (.cmp .Eq (.ix (.var 9) (.int 0)) (.var 2)) (.val (.fn 0 #v[.ix (.var 9) (.int 1),.var 6,.var 4])))) #v[.ret .non] .nil]
def cf:Ss:=.cons (.ite (.and (.cmp .Eq (.ix (.var 9) (.int 0)) (.var 2)) (.and (.cmp .Is (.var 7) .non) (.val (.fn 0 #v[.ix (.var 9) (.int 1),.var 5,.var 4])))) #v[.set 7 (.var 8)] .nil) ce
def i8:Ss:=.cons (.for (.tp [8,9]) (.enum #v[.var 0]) cf) dO
def i9:Ss:=.cons (.set 7 .non) i8
def ja:Ss:=.cons (.set 6 (.fn 1 #v[.var 1,.bin .Sub (.var 3) (.int 2)])) i9
def gn:Ss:=.cons (.set 5 (.fn 1 #v[.var 1,.bin .Sub (.var 3) (.int 1)])) ja
def mx(M:MH)(p:Addr)(es:List En):Prop:=M p=some (.lst (es.map enD))/\∀x∈es,x.1<=1000
theorem mx.ext{M M':MH}{p:Addr}{es:List En}(h:mx M p es)(e:Ext M M'):mx M' p es:=⟨e _ _ h.1,h.2⟩
def spUpto:SpD:=λds M Q=>∃(p:Addr) (es:List En) (s:Int),ds=[.ref p,.int s]/\mx M p es/\Q (.int ((bD es s:Nat):Int)) M
def jU(a_:Zy)(h g f j:Nat):Option Nat:=(List.range j).find? (hits a_ h g f)
def anyT(a_:Zy)(a g f j:Nat):Bool:=(List.range j).any (hits a_ a g f)
theorem o6(a_:Zy)(h g f j:Nat):jU a_ h g f (j+1)=(jU a_ h g f j).or (if hits a_ h g f j=true then some j else none):=by
 unfold jU;rw[List.range_succ,List.find?_append];congr 1;rw[XI];cases hits a_ h g f j<;>rfl
theorem tw(a_:Zy)(a g f j:Nat):anyT a_ a g f (j+1)=(anyT a_ a g f j||hits a_ a g f j):=by
 unfold anyT;rw[List.range_succ,List.any_append];simp
def jV(a_:Zy)(h a g f:Nat)(s:Int):D:=if 1<s/\anyT a_ a g f a_.length=true then .non else rowD (jU a_ h g f a_.length)
def spIsFirst:SpD:=λds M Q=>∃(R p:Addr) (m:Nat) (v_:List D) (a_:Zy) (es:List En) (f g:Nat) (s:Int),ds=[.ref R,.ref p,.int (f:Int),.int s,.int (g:Int)]/\M R=some (.lst v_)/\aG M v_ a_/\RowsOk m a_/\mx M p es /\
 ∀M',Ext M M'->Q (jV a_ (bD es (s-1)) (bD es (s-2)) g f s) M'
theorem Cc(es:List En)(x:En)(s:Int):bD (es++[x]) s=if(x.2.1:Int)<=s then bD es s|||2 ^ x.1 else bD es s:=by
 unfold bD;rw[List.filter_append,ZN];by_cases c:(x.2.1:Int)<=s
 ·rw[if_pos c,List.filter_cons,if_pos (YX c)]
  unfold setN;rw[List.foldl_append];rfl
 ·rw[if_neg c,List.filter_cons,if_neg (by simpa using c),List.filter_nil,XB,ZA]
section
variable {cn:Cn}{ds:List D}{M:MH}{Q:DK}
theorem rd_upto(h:spUpto ds M Q):wSs cn k6 (fin Q) (ae ["","","","","",""] ds) M:=by
 obtain⟨p,es,s,rfl,⟨hp,hb⟩,q⟩:=h;show wSs cn k6 (fin Q) [some (.ref p),some (.int s),none,none,none,none] M;unfold k6;simp! only[List.set];unfold mV;simp! only[List.set,hp];have b:∀(xs a:List En) (d f g:Zz),es=a++xs->aq (λM'=>M' p=some (.lst (es.map enD))) (.tp [3,4,5]) (wSs cn iQ) { nx:=wSs cn iP (fin Q),rt:=Q } (xs.map enD) [some (.ref p),some (.int s),some (.int ((bD a s:Nat):Int)),d,f,g] M:=by
  intro xs;induction xs with
  |nil=>
   intro a d f g hd;rw[ZA] at hd;rw[XB,aq];unfold iP;simp! only[];rw[←hd];exact q
  |cons x xs j=>
   intro a d f g hd;rw[YM,aq];refine⟨rfl,?_⟩;have hx:=hb x (by rw[hd];simp);have nx:=j (a++[x]) (some (.int (x.1:Int))) (some (.int (x.2.1:Int))) (some (rowD x.2.2)) (by rw[hd];simp);rw[Cc] at nx;unfold iQ;simp_all! only[List.set];by_cases c:(x.2.1:Int)<=s
   ·rw[if_pos c] at nx
    rw[YX c,aI];refine⟨⟨by omega (splitDisjunctions:=true),by omega (splitDisjunctions:=true),by decide⟩,hp,?_⟩;rw[ju,vq];exact nx
   ·rw[if_neg c] at nx
    rw[ZS c,ax];exact⟨hp,nx⟩
 exact b es [] none none none rfl
theorem rd_is_first(Y:cn.F.getD 0 Yl=hJ)(f1:cn.F.getD 1 Yl=spUpto)(h:spIsFirst ds M Q):wSs cn gn (fin Q) (ae ["","","","","","","","","",""] ds) M:=by
 obtain⟨R,p,m,v_,a_,es,f,g,s,rfl,hR,hr,ok,hE,q⟩:=h;show wSs cn gn (fin Q) [some (.ref R),some (.ref p),some (.int (f:Int)),some (.int s),some (.int (g:Int)),none,none,none,none,none] M;have hok:∀x∈a_,∀t∈x.2,CT.ok t:=λx hx t ht=>CT.fit_ok (by have:=ok.most;omega) ((ok.fit x hx).2.2 t ht)
 unfold gn;simp! only[List.set,f1];refine⟨p,es,s-1,rfl,hE,?_⟩;unfold ja;simp! only[List.set,f1];refine⟨p,es,s-2,rfl,hE,?_⟩;generalize bD es (s-1)=h at *;generalize bD es (s-2)=a at *;unfold i9;simp! only[List.set];unfold i8;simp! only[List.set,hR]
 -- the d test
 have d:∀(E:EndsD) (j:Nat) (x:Row) (l:Addr) (o:D) (M5:MH),a_[j]?=some x->M5 l=some (.lst (x.2.map CT.told)) ->
   (∀c,Ext M5 c->¬(1<s/\hits a_ a g f j=true)->E.nx [some (.ref R),some (.ref p),some (.int (f:Int)),some (.int s),some (.int (g:Int)),some (.int (h:Int)),some (.int (a:Int)),some o,some (.int (j:Int)),some (.tup [.int (x.1:Int),.ref l])] c) ->
   (∀c,Ext M5 c->1<s->hits a_ a g f j=true->E.rt .non c) ->
   wSs cn ce E [some (.ref R),some (.ref p),some (.int (f:Int)),some (.int s),some (.int (g:Int)),some (.int (h:Int)),some (.int (a:Int)),some o,some (.int (j:Int)),some (.tup [.int (x.1:Int),.ref l])] M5:=by
  intro E j x l o M5 hx A B K;have Z:=YV hx;have L:hits a_ a g f j=(decide (x.1=f)&&aU a g x):=by unfold hits;rw[hx]
  rw[L] at B K;unfold ce;simp_all! only[List.set,at0,at1,Y];by_cases V:1<s
  ·rw[YX V,aI]
   by_cases y:x.1=f
   ·have hb:(((x.1:Nat):Int)==((f:Nat):Int))=true:=by rw[y];simp
    rw[hb,aI];refine⟨l,x.2,(a:Int),(g:Int),rfl,A,hok x Z,λc n=>?_⟩;simp! only[];cases b:x.2.all (CT.carried (a:Int) (g:Int)) with
    |true=>exact K c n V (by rw[YX y];exact b)
    |false=>
     refine B c n λz=>?_
     have z:=z.2;rw[YX y,Bool.true_and] at z;have z:x.2.all (CT.carried (a:Int) (g:Int))=true:=z;rw[b] at z;cases z
   ·have hb:(((x.1:Nat):Int)==((f:Nat):Int))=false:=beq_false_of_ne λz=>y (Int.ofNat_inj.1 z)
    rw[hb,ax];exact B M5 (Ext.refl _) λz=>by
     have z:=z.2;rw[ZS y,Bool.false_and] at z;cases z
  ·rw[ZS V,ax]
   exact B M5 (Ext.refl _) λz=>V z.1
 have body:∀(E:EndsD) (j:Nat) (x:Row) (l:Addr) (o:Option Nat) (M5:MH),a_[j]?=some x->M5 l=some (.lst (x.2.map CT.told)) ->
   (∀c,Ext M5 c->¬(1<s/\hits a_ a g f j=true)->E.nx [some (.ref R),some (.ref p),some (.int (f:Int)),some (.int s),some (.int (g:Int)),some (.int (h:Int)),some (.int (a:Int)),some (rowD (o.or (if hits a_ h g f j=true then some j else none))),some (.int (j:Int)),some (.tup [.int (x.1:Int),.ref l])] c) ->
   (∀c,Ext M5 c->1<s->hits a_ a g f j=true->E.rt .non c) ->
   wSs cn cf E [some (.ref R),some (.ref p),some (.int (f:Int)),some (.int s),some (.int (g:Int)),some (.int (h:Int)),some (.int (a:Int)),some (rowD o),some (.int (j:Int)),some (.tup [.int (x.1:Int),.ref l])] M5:=by
  intro E j x l o M5 hx A B K;have Z:=YV hx;have L:hits a_ h g f j=(decide (x.1=f)&&aU h g x):=by unfold hits;rw[hx]
  have skip:hits a_ h g f j=false\/o.isSome=true->∀c,Ext M5 c->wSs cn ce E [some (.ref R),some (.ref p),some (.int (f:Int)),some (.int s),some (.int (g:Int)),some (.int (h:Int)),some (.int (a:Int)),some (rowD o),some (.int (j:Int)),some (.tup [.int (x.1:Int),.ref l])] c:=by
   intro hz c n;refine d E j x l (rowD o) c hx (n _ _ A) (λC G z=>?_) (λC G O P=>K C (n.trans G) O P)
   have:=B C (n.trans G) z
   have ee:o.or (if hits a_ h g f j=true then some j else none)=o:=by
    rcases hz with hz | hz
    ·rw[hz,if_neg YG,Option.or_none]
    ·cases o with
     |none=>cases hz
     |some _=>rfl
   rw[ee] at this;exact this
  unfold cf;cases o with
  |some r=>
   simp only[rowD] at skip ⊢;simp_all! only[List.set,at0,at1,Y];by_cases y:x.1=f
   ·have hb:(((x.1:Nat):Int)==((f:Nat):Int))=true:=by rw[y];simp
    rw[hb];exact skip (.inr rfl) M5 (Ext.refl _)
   ·have hb:(((x.1:Nat):Int)==((f:Nat):Int))=false:=beq_false_of_ne λz=>y (Int.ofNat_inj.1 z)
    rw[hb];exact skip (.inr rfl) M5 (Ext.refl _)
  |none=>
   simp only[rowD] at skip ⊢;simp_all! only[List.set,at0,at1,Y];by_cases y:x.1=f
   ·have hb:(((x.1:Nat):Int)==((f:Nat):Int))=true:=by rw[y];simp
    rw[hb];refine⟨l,x.2,(h:Int),(g:Int),rfl,A,hok x Z,λc n=>?_⟩;simp! only[];cases b:x.2.all (CT.carried (h:Int) (g:Int)) with
    |true=>
     have hz:hits a_ h g f j=true:=by rw[L,YX y];exact b
     refine d E j x l _ c hx (n _ _ A) (λC G z=>?_) (λC G O P=>K C (n.trans G) O P)
     have:=B C (n.trans G) z
     rw[hz] at this;exact this
    |false=>exact skip (.inl (by rw[L,YX y];exact b)) c n
   ·have hb:(((x.1:Nat):Int)==((f:Nat):Int))=false:=beq_false_of_ne λz=>y (Int.ofNat_inj.1 z)
    rw[hb];exact skip (.inl (by rw[L,ZS y];rfl)) M5 (Ext.refl _)
 have ac:∀(xs:List D) (S:Zy) (j:Nat) (v8 v9:Zz) (M5:MH),aG M xs S->a_.drop j=S->Ext M M5->¬(1<s/\anyT a_ a g f j=true) ->
   aq (λM'=>M' R=some (.lst v_)) (.tp [8,9]) (wSs cn cf) { nx:=wSs cn dO (fin Q),rt:=Q } (bp (j:Int) xs) [some (.ref R),some (.ref p),some (.int (f:Int)),some (.int s),some (.int (g:Int)),some (.int (h:Int)),some (.int (a:Int)),some (rowD (jU a_ h g f j)),v8,v9] M5:=by
  intro xs S j v8 v9 M5 hx;induction hx generalizing j v8 v9 M5 with
  |nil=>
   intro W J hn;have hj:a_.length<=j:=List.drop_eq_nil_iff.1 W;have T:∀u k,a_.length<=k->hits a_ u g f k=false:=λu k hk=>by unfold hits;rw[ZK hk]
   have JE:∀k,jU a_ h g f (a_.length+k)=jU a_ h g f a_.length:=by
    intro k;induction k with
    |zero=>rfl
    |succ k U=>rw[show a_.length+(k+1)=a_.length+k+1 by omega,o6,U,T _ _ 'a',if_neg YG,Option.or_none]
   have Hd:∀k,anyT a_ a g f (a_.length+k)=anyT a_ a g f a_.length:=by
    intro k;induction k with
    |zero=>rfl
    |succ k U=>rw[show a_.length+(k+1)=a_.length+k+1 by omega,tw,U,T _ _ 'a',Bool.or_false]
   have h1:=JE (j-a_.length);have h2:=Hd (j-a_.length);rw[show a_.length+(j-a_.length)=j by omega] at h1 h2;rw[h1];rw[h2] at hn;rw[bp,aq];unfold dO;simp! only[]
   have:=q M5 J
   unfold jV at this;rw[if_neg hn] at this;exact this
  |@cons d' x xs S Ih _ U=>
   intro W J hn;obtain⟨l,rfl,A⟩:=Ih;have hx:a_[j]?=some x:=by
    have:=congrArg (·[0]?) W
    simpa using this
   have OG:a_.drop (j+1)=S:=by
    have:=congrArg List.tail W
    simpa using this
   rw[bp,aq];refine⟨rfl,?_⟩;refine body _ j x l _ M5 hx (J _ _ A) (λc n z=>?_) (λc n O P=>?_)
   ·refine⟨(J.trans n) _ _ hR,?_⟩
    rw[←o6];refine U (j+1) _ _ c OG (J.trans n) λw=>?_
    rw[tw,Bool.or_eq_true] at w;rcases w.2 with w2 | w2
    ·exact hn ⟨w.1,w2⟩
    ·exact z ⟨w.1,w2⟩
   ·have:=q c (J.trans n)
    unfold jV at this;have hl:=(YE.mp hx).1;rw[if_pos ⟨O,List.any_eq_true.2 ⟨j,ZY.2 hl,P⟩⟩] at this;exact this
 exact ac v_ a_ 0 none none M hr rfl (Ext.refl M) (λz=>YG z.2)
end
def gp:Ss:=#v[.ret (.bl true)]
def cO:Ss:=#v[.ite (.and (.cmp .Eq (.bin .BitAnd (.bin .RShift (.var 10) (.var 11)) (.int 1)) (.int 0)) (.val (.fn 0 #v[.var 12,.var 10,.var 2]))) #v[.ret (.bl false)] .nil]
def kr:Ss:=.cons (.for (.tp [11,12]) (.seq (.var 0)) cO) gp
def cP:Ss:=.cons (.set 10 (.fn 1 #v[.var 3,.bi .len #v[.var 3]])) kr
def cQ:Ss:=#v[.ite (.and (.cmp .NotEq (.var 7) (.int 0)) (.or (.cmp .Is (.var 8) .non) (.cmp .NotEq (.var 8) (.var 9)))) #v[.ret (.bl false)] .nil]
def gq:Ss:=.cons (.set 9 (.fn 2 #v[.var 0,.var 3,.var 6,.var 7,.var 2])) cQ
def cR:Ss:=.cons (.ite (.and (.cmp .Eq (.var 7) (.int 0)) (.cmp .IsNot (.var 8) .non)) #v[.ret (.bl false)] .nil) gq
def kt:Ss:=.cons (.asg (.tp [6,7,8]) (.var 5)) cR
def cT:Ss:=.cons (.ite (.or (.not (.val (.bi .isinst #v[.var 5,.ty "tuple"]))) (.cmp .NotEq (.bi .len #v[.var 5]) (.int 3))) #v[.ret (.bl false)] .nil) kt
def gt:Ss:=.cons (.for (.nm 5) (.seq (.var 3)) cT) cP
def fb:Ss:=.cons (.ite (.or (.cmp .NotEq (.fn 1 #v[.var 3,.int 0]) (.var 1)) (.cmp .NotEq (.lenSet (.comp 1 (.ix (.var 13) (.int 0)) (.nm 13) (.seq (.var 3)) .no)) (.bi .len #v[.var 3]))) #v[.ret (.bl false)] .nil) gt
def jW:Ss:=.cons (.ite (.cmp .NotEq (.var 4) (.bk .sortedP #v[.var 4])) #v[.ret (.bl false)] .nil) fb
def fg:Ss:=.cons (.setC 4 1 (.tup #v[.ix (.var 13) (.int 1),.ix (.var 13) (.int 0)]) (.nm 13) (.seq (.var 3)) .no) jW
def ir_law_walked:Ss:=.cons (.ite (.or (.not (.val (.bi .isinst #v[.var 3,.ty "list"]))) (.not (.val (.fn 3 #v[.var 3])))) #v[.ret (.bl false)] .nil) fg
def spWalked:SpD:=λds M Q=>∃(R p:Addr) (m:Nat) (v_:List D) (a_:Zy) (told g:Nat),ds=[.ref R,.int (told:Int),.int (g:Int),.ref p]/\M R=some (.lst v_)/\aG M v_ a_/\RowsOk m a_/\told<2 ^ m/\M p=some (.lst ((ens a_ g told (2 ^ m-1)).map enD)) /\
 ∀M',Ext M M'->Q (.bl true) M'
section
variable {a_:Zy}{g told m:Nat}
theorem ku(ok:RowsOk m a_):∀x∈a_,(2 ^ m-1).testBit x.1=true:=λx hx=>by
 rw[Nat.testBit_two_pow_sub_one];exact YX (ok.fit x hx).1
theorem Az(ok:RowsOk m a_){x:En}{t r:Nat}(e:x.2=(t+1,some r))(c:Came a_ g told x.1 t r):jV a_ (bD (ens a_ g told (2 ^ m-1)) ((x.2.1:Int)-1)) (bD (ens a_ g told (2 ^ m-1)) ((x.2.1:Int)-2)) g x.1 (x.2.1:Int)=.int (r:Int):=by
 rw[e];have b:(((t+1:Nat):Int)-1)=(t:Int):=by omega
 show jV a_ (bD _ (((t+1:Nat):Int)-1)) (bD _ (((t+1:Nat):Int)-2)) g x.1 ((t+1:Nat):Int)=_;rw[b,pO (ku ok)];unfold jV;rw[if_neg]
 ·show rowD (aV a_ (stg a_ g told t) g x.1)=_
  rw[c.2];rfl
 ·rintro⟨h1,h2⟩
  obtain⟨t,rfl⟩:∃t',t=t'+1:=⟨t-1,by omega⟩;rw[show(((t+1+1:Nat):Int)-2)=(t:Int) by omega,pO (ku ok)] at h2;obtain⟨j,_,d⟩:=List.any_eq_true.1 h2;obtain⟨y,hy,f,a⟩:=cq.1 d;rw[Cb c (YV hy) f] at a;cases a
end
theorem AA (M:MH) (p:Addr) (es:List En) (hp:M p = some (.lst (es.map enD))):lB M 2 (.ref p):=by
  refine .inr ⟨_,.inr ⟨p,rfl,hp⟩,λy hy=>?_⟩
  obtain ⟨w,_,rfl⟩:=List.mem_map.1 hy
  refine .inr ⟨_,.inl rfl,λy hy=>?_⟩
  rcases YC.1 hy with rfl | hy
  · exact cx rfl 0
  rcases YC.1 hy with rfl | hy
  · exact cx rfl 0
  rw [XR.1 hy]
  cases w.2.2 <;> exact cx rfl 0
section
variable {cn:Cn}{ds:List D}{M:MH}{Q:DK}
theorem rd_walked(f0:cn.F.getD 0 Yl=hJ)(f1:cn.F.getD 1 Yl=spUpto)(f2:cn.F.getD 2 Yl=spIsFirst)(f3:cn.F.getD 3 Yl=cw 2)(h:spWalked ds M Q):wSs cn ir_law_walked (fin Q) (ae ["","","","","","","","","","","","",""] ds) M:=by
 obtain⟨R,p,m,v_,a_,told,g,rfl,hR,hr,ok,ht,hp,q⟩:=h;show wSs cn ir_law_walked (fin Q) [some (.ref R),some (.int (told:Int)),some (.int (g:Int)),some (.ref p),none,none,none,none,none,none,none,none,none] M;have hok:∀x∈a_,∀t∈x.2,CT.ok t:=λx hx t ht=>CT.fit_ok (by have:=ok.most;omega) ((ok.fit x hx).2.2 t ht)
 have hh:=ku ok;have Sl:=ok.most;have MQ:2 ^ m-1<2 ^ m:=by have:=Nat.two_pow_pos m;omega
 have n_:=Ej (a_:=a_) (g:=g) ht MQ;have GI:=vQ (a_:=a_) (g:=g) ht MQ;have Kf:=tu (a_:=a_) (g:=g) (told:=told) (d_:=2 ^ m-1);have OH:=tt (a_:=a_) (g:=g) (told:=told) (d_:=2 ^ m-1);have GK:=λx=>(dA (g:=g) (told:=told) hh (x:=x)).1
 have OI:=λ{x:En}{t r:Nat}=>Az (g:=g) (told:=told) ok (x:=x) (t:=t) (r:=r)
 have OJ:bD (ens a_ g told (2 ^ m-1)) 0=told:=pO hh 0;obtain⟨n,L⟩:∃n,d3 a_ told g n:=⟨_,mi hh⟩;have OK:=vS hh L;generalize ens a_ g told (2 ^ m-1)=es at *;have hE:mx M p es:=⟨hp,λx hx=>by have:=GI x hx;omega⟩;have hsz:(2000:Nat)<sizeLine:=by decide
 unfold ir_law_walked;simp_all! only[List.set,tyD,tysD,hp,f3];refine⟨by decide,?_⟩;show Bif false _ _;rw[ax];refine⟨_,rfl,AA M p es hp,?_⟩;show wSs cn fg (fin Q) _ M;unfold fg;simp! only[List.set,List.cons_append,XF,List.replicate,hp];have G1:∀d∈es.map enD,∃x:En,d=enD x:=λd hd=>by
  obtain⟨x,_,rfl⟩:=List.mem_map.1 hd;exact⟨x,rfl⟩
 refine bR (f:=λd=>match d with | .tup [a,b,_]=>.tup [b,a] | _=>.non) (ok:=λσ=>∃v,σ=[some (.ref R),some (.int (told:Int)),some (.int (g:Int)),some (.ref p),none,none,none,none,none,none,none,none,none,v]) [] _ ⟨none,rfl⟩ ?_ ?_
 ·intro d hd σ E_ rest ⟨v,hv⟩ kk
  subst hv;obtain⟨x,rfl⟩:=G1 d hd;rw[aE];simp! only[List.set,enD,at0,at1];exact⟨hp,kk _ ⟨_,rfl⟩⟩
 have HF:([]++(es.map enD).map λd=>match d with | .tup [a,b,_]=>D.tup [b,a] | _=>.non)=(es.map ordP).map prD:=by
  rw[XF,ZO,ZO];rfl
 rw[HF];intro o ho;have e1:Ext M (updM M o (.lst ((es.map ordP).map prD))):=Ext.new ho;have g1:updM M o (.lst ((es.map ordP).map prD)) o=some (.lst ((es.map ordP).map prD)):=aa;generalize updM M o (MO.lst ((es.map ordP).map prD))=M1 at *;unfold jW;simp! only[List.set,g1,dBk,l5];refine⟨es.map ordP,rfl,by rw[ZG];omega,λy hy=>?_,λT ms Jf pm srt=>?_⟩
 ·obtain⟨x,hx,rfl⟩:=List.mem_map.1 hy
  have:=GI x hx
  exact⟨by show(0:Int)<=(x.1:Int);omega,by show(x.1:Int)<1048576;omega⟩
 obtain rfl:ms=es.map ordP:=xG TS.rkP pm (yN OH λx hx=>by have:=GI x hx;omega) srt;have F_:o≠T:=bG g1 Jf;have e2:Ext M1 (updM M1 T (.lst ((es.map ordP).map prD))):=Ext.new Jf;have g2:updM M1 T (.lst ((es.map ordP).map prD)) T=some (.lst ((es.map ordP).map prD)):=aa;have g3:=e2 _ _ g1;generalize updM M1 T (MO.lst ((es.map ordP).map prD))=M2 at *;have Ib:(es.map ordP).map prD=(es.map λx=>(x.2.1,x.1)).map iD:=by rw[ZO,ZO];rfl
 simp only[g2,g3,rdL];rw[Ib];refine⟨⟨SQ.dz _,SQ.dz _,by have:=SQ.nK (es.map λx=>(x.2.1,x.1));omega⟩,?_⟩;rw[SR.pairs_refl];show wSs cn fb (fin Q) _ M2;have LW:=e1.trans e2;have C':=LW _ _ hp;unfold fb;simp_all! only[List.set,List.cons_append,XF,List.replicate,f1];refine⟨p,es,0,rfl,hE.ext LW,?_⟩;rw[OJ];simp_all! only[XH,Bool.not_true,ax,List.set,List.cons_append,XF,List.replicate,C',lm];refine bR (f:=λd=>match d with | .tup (h::_)=>h | _=>.non) (ok:=λσ=>∃v,σ=[some (.ref R),some (.int (told:Int)),some (.int (g:Int)),some (.ref p),some (.ref o),none,none,none,none,none,none,none,none,v]) [] _ ⟨none,rfl⟩ ?_ ?_
 ·intro d hd σ E_ rest ⟨v,hv⟩ kk
  subst hv;obtain⟨x,rfl⟩:=G1 d hd;rw[aE];simp! only[List.set,enD,at0];exact⟨C',kk _ ⟨_,rfl⟩⟩
 have LY:([]++(es.map enD).map λd=>match d with | .tup (h::_)=>h | _=>.non)=intL ((es.map (·.1)).map λ(n:Nat)=>(n:Int)):=by
  unfold intL;rw[XF,ZO,ZO,ZO];rfl
 rw[LY];intro o3 S1;have e3:Ext M2 (updM M2 o3 (.lst (intL ((es.map (·.1)).map λ(n:Nat)=>(n:Int))))):=Ext.new S1;have g4:updM M2 o3 (.lst (intL ((es.map (·.1)).map λ(n:Nat)=>(n:Int)))) o3=some (.lst (intL ((es.map (·.1)).map λ(n:Nat)=>(n:Int)))):=aa;generalize updM M2 o3 (MO.lst (intL ((es.map (·.1)).map λ(n:Nat)=>(n:Int))))=K at *;have U:=LW.trans e3;have Il:=U _ _ hp;have L0:((es.map (·.1)).map λ(n:Nat)=>(n:Int)).Nodup:=List.Pairwise.map _ (λa b h z=>h (Int.ofNat_inj.1 z)) Kf;simp only[seqL,lstD,g4,Il,l6];refine⟨by rw[ZG,ZG];omega,?_⟩;have OL:=U _ _ hR;have QJ:=hr.ext U;have QK:=hE.ext U
 -- one entry
 have body:∀(E:EndsD) (x:En) (l u A j:Zz) (M5:MH),x∈es->Ext K M5->(∀QL B,Ext K B->E.nx [some (.ref R),some (.int (told:Int)),some (.int (g:Int)),some (.ref p),some (.ref o),some (enD x),some (.int (x.1:Int)),some (.int (x.2.1:Int)),some (rowD x.2.2),QL,none,none,none] B) ->
   wSs cn cT E [some (.ref R),some (.int (told:Int)),some (.int (g:Int)),some (.ref p),some (.ref o),some (enD x),l,u,A,j,none,none,none] M5:=by
  intro E x l u A j M5 hx C kk;have QM:∀(E:EndsD),(∀B,Ext K B->wSs cn cQ E [some (.ref R),some (.int (told:Int)),some (.int (g:Int)),some (.ref p),some (.ref o),some (enD x),some (.int (x.1:Int)),some (.int (x.2.1:Int)),some (rowD x.2.2),some (jV a_ (bD es ((x.2.1:Int)-1)) (bD es ((x.2.1:Int)-2)) g x.1 (x.2.1:Int)),none,none,none] B)->wSs cn gq E [some (.ref R),some (.int (told:Int)),some (.int (g:Int)),some (.ref p),some (.ref o),some (enD x),some (.int (x.1:Int)),some (.int (x.2.1:Int)),some (rowD x.2.2),j,none,none,none] M5:=by
   intro E k;unfold gq;simp! only[List.set,f2];exact⟨R,p,m,v_,a_,es,x.1,g,(x.2.1:Int),rfl,C _ _ OL,QJ.ext C,ok,QK.ext C,λB J=>k B (C.trans J)⟩
  unfold cT;simp_all! only[List.set,tyD,tysD,enD];refine⟨by decide,?_⟩;rw[show isT "tuple" "tuple" = true by decide,show((((([D.int (x.1:Int),.int (x.2.1:Int),rowD x.2.2]).length:Nat):Int)==3)=true) from rfl,Bool.not_true,ax,ax];unfold kt;simp_all! only[List.set];refine⟨rfl,?_⟩;show wSs cn cR E [some (.ref R),some (.int (told:Int)),some (.int (g:Int)),some (.ref p),some (.ref o),some (enD x),some (.int (x.1:Int)),some (.int (x.2.1:Int)),some (rowD x.2.2),j,none,none,none] M5;obtain⟨f,st,ro⟩:=x;rcases GK _ hx with⟨e,_⟩ | ⟨t,r,e,c⟩
  ·cases e
   have V:(((0:Nat):Int)==0)=true:=rfl;unfold cR;simp_all! only[List.set,rowD,V,aI,Bool.not_true,ax];refine QM _ λB J=>?_
   unfold cQ;simp_all! only[List.set,rowD,V,aI,Bool.not_true,ax];exact kk _ B J
  ·cases e
   have V:(((t+1:Nat):Int)==0)=false:=beq_false_of_ne 'a';unfold cR;simp_all! only[List.set,rowD,V,ax];refine QM _ λB J=>?_
   rw[OI rfl c];unfold cQ;simp_all! only[List.set,rowD,V,Bool.not_false,aI,XH,Bool.not_true,ax];exact kk _ B J
 -- the a_ are closed
 have one:∀(E:EndsD) (x:Row) (O:Addr) (G l u A j:Zz) (M5:MH),x∈a_->M5 O=some (.lst (x.2.map CT.told))->(∀B,Ext M5 B->E.nx [some (.ref R),some (.int (told:Int)),some (.int (g:Int)),some (.ref p),some (.ref o),G,l,u,A,j,some (.int (n:Int)),some (.int (x.1:Int)),some (.ref O)] B) ->
   wSs cn cO E [some (.ref R),some (.int (told:Int)),some (.int (g:Int)),some (.ref p),some (.ref o),G,l,u,A,j,some (.int (n:Int)),some (.int (x.1:Int)),some (.ref O)] M5:=by
  intro E x O G l u A j M5 QN Hn k;unfold cO;simp_all! only[List.set,f0];refine⟨by omega,?_⟩;rw[PyProof.Rows.bitAnd_m1];show Bif (bitZ (n:Int) (x.1:Int)==0) _ _;rw[Af,gR];cases b:n.testBit x.1 with
  |true=>
   rw[Bool.not_true,ax];exact k M5 (Ext.refl _)
  |false=>
   rw[Bool.not_false,aI];refine⟨O,x.2,(n:Int),(g:Int),rfl,Hn,hok x QN,λB J=>?_⟩;simp! only[];have hm:x.2.all (CT.carried (n:Int) (g:Int))=false:=by
    cases b2:x.2.all (CT.carried (n:Int) (g:Int)) with
    |false=>rfl
    |true=>
     have:=L.1.2 x QN b2
     rw[b] at this;cases this
   rw[hm,ax];exact k B J
 have W:∀(xs:List D) (GU:Zy) (G l u A j P OM:Zz) (M5:MH),aG K xs GU->(∀x∈GU,x∈a_)->Ext K M5 ->
   aq (λM'=>M' R=some (.lst v_)) (.tp [11,12]) (wSs cn cO) { nx:=wSs cn gp (fin Q),rt:=Q } xs [some (.ref R),some (.int (told:Int)),some (.int (g:Int)),some (.ref p),some (.ref o),G,l,u,A,j,some (.int (n:Int)),P,OM] M5:=by
  intro xs GU G l u A j P OM M5 hx;induction hx generalizing P OM M5 with
  |nil=>
   intro _ C;rw[aq];unfold gp;simp! only[];exact q M5 (U.trans C)
  |@cons d x xs GU hd _ ih=>
   intro Y C;obtain⟨O,rfl,Hn⟩:=hd;rw[aq];refine⟨rfl,?_⟩;exact one _ x O G l u A j M5 (Y x (.head _)) (C _ _ Hn) λB J=>⟨(C.trans J) _ _ OL,ih _ _ B (λy hy=>Y y (.tail _ hy)) (C.trans J)⟩
 have S:∀(G l u A j:Zz) (M5:MH),Ext K M5->wSs cn cP (fin Q) [some (.ref R),some (.int (told:Int)),some (.int (g:Int)),some (.ref p),some (.ref o),G,l,u,A,j,none,none,none] M5:=by
  intro G l u A j M5 C;unfold cP;simp! only[List.set,f1,C _ _ Il];refine⟨p,es,(((es.map enD).length:Nat):Int),rfl,QK.ext C,?_⟩;rw[ZG,OK];unfold kr;simp! only[List.set,C _ _ OL];exact W v_ a_ G l u A j none none M5 QJ (λ_ h=>h) C
 have Z:∀(xs:List En) (G l u A j:Zz) (M5:MH),(∀x∈xs,x∈es)->Ext K M5 ->
   aq (λM'=>M' p=some (.lst (es.map enD))) (.nm 5) (wSs cn cT) { nx:=wSs cn cP (fin Q),rt:=Q } (xs.map enD) [some (.ref R),some (.int (told:Int)),some (.int (g:Int)),some (.ref p),some (.ref o),G,l,u,A,j,none,none,none] M5:=by
  intro xs;induction xs with
  |nil=>
   intro G l u A j M5 _ C;rw[XB,aq];exact S G l u A j M5 C
  |cons x xs ih=>
   intro G l u A j M5 Y C;rw[YM,aq];exact body _ x l u A j M5 (Y x (.head _)) C λQL B J=>⟨J _ _ Il,ih _ _ _ _ _ B (λy hy=>Y y (.tail _ hy)) J⟩
 have L1:wSs cn gt (fin Q) [some (.ref R),some (.int (told:Int)),some (.int (g:Int)),some (.ref p),some (.ref o),none,none,none,none,none,none,none,none] K:=by
  unfold gt;simp! only[List.set,Il];exact Z es none none none none none K (λ_ h=>h) (Ext.refl _)
 have QO:((es.map (·.1)).map λ(n:Nat)=>(n:Int)).length=(es.map enD).length:=by rw[ZG,ZG,ZG]
 generalize ((es.map (·.1)).map λ(n:Nat)=>(n:Int))=zs at L0 QO ⊢;rw[←QO];cases zs with
 |nil=>
  show Bif (!((((aO ([]:List Str)).length:Nat):Int)==((([]:List Int).length:Nat):Int))) _ _;rw[show((((aO ([]:List Str)).length:Nat):Int)==((([]:List Int).length:Nat):Int))=true from rfl,Bool.not_true,ax];exact L1
 |cons z zs=>
  rw[sY,kb];dsimp only;rw[oZ _ L0,XH,Bool.not_true,ax];exact L1
end
end SK
namespace SK
open PySem L2 DD
open SH
open SR (Chn bK)
def gu:Ss:=#v[.ret (.var 3)]
def cU:Ss:=#v[.expr (.mt .append (.var 3) #v[.mt .pop (.var 2) #v[.fn 0 #v[.var 0,.bi .len #v[.var 2]]]])]
def kx:Ss:=.cons (.for (.nm 4) (.rg1 #v[.var 1]) cU) gu
def ky:Ss:=.cons (.set 3 (.lst .nil)) kx
def iR:Ss:=.cons (.set 2 (.lrg #v[.var 1])) ky
def gy:Ss:=#v[.ret (.and (.cmp .Eq (.fn 0 #v[.var 9,.bin .LShift (.int 1) (.ix (.var 4) (.int 0)),.var 10]) (.var 7)) (.cmp .Eq (.fn 0 #v[.var 9,.int 0,.var 10]) (.lst .nil)))]
def gz:Ss:=.cons (.set 10 (.bin .Mod (.bin .FloorDiv (.var 0) (.int 120)) (.bin .LShift (.int 1) (.var 2)))) gy
def bV:Ss:=.cons (.set 9 (.fn 1 #v[.var 2,.var 5])) gz
def bW:Ss:=#v[.expr (.mt .append (.var 7) #v[.tup #v[.ix (.var 4) (.var 8),.var 8,.mt .index (.var 6) #v[.ix (.var 4) (.var 8)]]])]
def gA:Ss:=.cons (.for (.nm 8) (.rg2 #v[.int 1,.var 2]) bW) bV
def gB:Ss:=.cons (.set 7 (.lst #v[.tup #v[.ix (.var 4) (.int 0),.int 0,.non]])) gA
def cG:Ss:=.cons (.setC 6 2 (.var 11) (.tp [11,12]) (.seq (.var 5)) .no) gB
def gC:Ss:=.cons (.ite (.cmp .Eq (.fn 2 #v[.var 3,.int 2]) (.int 1)) #v[.set 5 (.lrev #v[.var 5])] .nil) cG
def gD:Ss:=.cons (.setC 5 1 (.tup #v[.ix (.var 4) (.bin .Add (.var 11) (.int 1)),.lst #v[.tup #v[.str "have",.ix (.var 4) (.var 11)]]]) (.nm 11) (.rg1 #v[.bin .Sub (.var 2) (.int 1)]) .no) gC
def gE:Ss:=.cons (.set 4 (.fn 3 #v[.var 3,.var 2])) gD
def gv:Ss:=.cons (.set 3 (.lst #v[.var 1,.int 0])) gE
def ir_law_chain_good:Ss:=.cons (.set 2 (.bin .Add (.int 1) (.bin .Mod (.var 0) (.int 120)))) gv
def spChain:SpD:=λds M Q=>∃(i j:Int),ds=[.int i,.int j]/\∀M',Q (.bl true) M'
def spPlaces:SpD:=λds M Q=>∃(p:Addr) (b k:Int) (m:Nat),ds=[.ref p,.int (m:Int)]/\M p=some (.lst [.int b,.int k])/\(0<m/\m<=120) /\
 ∀(q:Addr) (pl:Zj) (b':Int) M',M q=none->ExtBut p M M'->M' p=some (.lst [.int b',.int k])->M' q=some (.lst (nats pl))->Chn pl->pl.length=m->Q (.ref q) M'
theorem oE{l:Zj}{i f:Nat}(h:l[i]?=some f):atI (nats l) (i:Int)=some (.int (f:Int)):=dk (by unfold nats;rw[ZH,h];rfl)
theorem vU{M:MH}{a:Addr}{b k:Int}{o:MO}(hb:M a=some (.lst [.int b,.int k])):∀{v_:List D}{a_:Zy},aG M v_ a_->aG (updM M a o) v_ a_
 |_,_,.nil=>.nil
 |_,_,.cons (b:=x) ⟨c,e,h⟩ t=>by
  refine .cons ⟨c,e,?_⟩ (vU hb t);have d:c≠a:=λz=>by
   subst z;rw[h] at hb;injection hb with hb
   injection hb with hb
   cases hx:x.2 with
   |nil=>rw[hx] at hb;cases hb
   |cons t ts=>
    rw[hx,YM] at hb;injection hb with hb
    cases t<;>cases hb
  rw[az d];exact h
theorem FV(pl:Zj):Chr pl ((List.range (pl.length-1)).map λk=>(pl.getD (k+1) 0,[CT.hav ((pl.getD k 0:Nat):Int)])):=by
 refine⟨λx hx=>?_,λk e f c h2=>?_⟩
 ·obtain⟨k,hk,rfl⟩:=List.mem_map.1 hx
  rw[ZY] at hk;have a:pl[k]?=some (pl[k]' 'a'):=ZE 'a';have b:pl[k+1]?=some (pl[k+1]' 'a'):=ZE 'a';exact⟨k,_,_,a,b,by rw[bK a,bK b]⟩
 ·have hl:=(YE.mp h2).1
  exact List.mem_map.2 ⟨k,ZY.2 'a',by rw[bK c,bK h2]⟩
theorem Chr.rev{pl:Zj}{a_:Zy}(R:Chr pl a_):Chr pl a_.reverse:=⟨λx hx=>R.sound x (List.mem_reverse.1 hx),λk e f a h2=>List.mem_reverse.2 (R.all k e f a h2)⟩
theorem Chr.ok{pl:Zj}{a_:Zy}(C:Chn pl)(R:Chr pl a_)(hl:a_.length=pl.length-1):RowsOk pl.length a_:=by
 have few:=C.few;refine⟨few,by omega,λx hx=>?_⟩;obtain⟨k,e,f,a,h2,rfl⟩:=R.sound x hx;have b:=C.lt e (List.mem_iff_getElem?.2 ⟨_,a⟩);refine⟨C.lt f (List.mem_iff_getElem?.2 ⟨_,h2⟩),by simp,λt ht=>?_⟩;rw[XR.1 ht];exact⟨by omega,by omega⟩
theorem tx{M:MH}:∀{v_:List D}{a_:Zy},aG M v_ a_->(∀d∈v_,∃(f:Nat) (r:Addr),d=.tup [.int (f:Int),.ref r])/\(v_.map λd=>match d with | .tup (h::_)=>h | _=>.non)=nats (a_.map (·.1))
 |_,_,.nil=>And.intro (λ_ h=>nomatch h) rfl
 |_,_,.cons (b:=x) ⟨c,e,h⟩ t=>by
  obtain⟨a,b⟩:=tx t;subst e;refine⟨λd hd=>?_,?_⟩
  ·rcases YC.1 hd with rfl | hd
   ·exact⟨x.1,c,rfl⟩
   ·exact a d hd
  ·rw[YM,b];rfl
theorem vV{f:Nat}:∀{b:Zj},f∈b->(nats b).findIdx? (λd=>eqD d (.int (f:Int)))=some (b.idxOf f)
 |[],h=>nomatch h
 |a::b,h=>by
  show(D.int (a:Int)::nats b).findIdx? _=_;rw[List.findIdx?_cons,List.idxOf_cons,ad];by_cases e:a=f
  ·subst e
   simp
  ·have c:(((a:Nat):Int)==((f:Nat):Int))=false:=beq_false_of_ne λz=>e (Int.ofNat_inj.1 z)
   have h2:(a==f)=false:=beq_false_of_ne e;rw[c,h2,if_neg YG,vV (List.mem_of_ne_of_mem (λz=>e z.symm) h)];rfl
theorem Ek(x:En):aL (enD x)=true:=by
 obtain⟨f,s,r⟩:=x;cases r<;>rfl
theorem pP:∀es:List En,aK (es.map enD)=true/\bm (es.map enD)<=1
 |[]=>⟨rfl,YO _⟩
 |x::es=>by
  obtain⟨a,h2⟩:=pP es;rw[YM,aK,bm,a,Ek];refine⟨rfl,?_⟩;have:depD (enD x)<=1:=by
   obtain⟨f,s,r⟩:=x;cases r<;>simp[enD,rowD,depD,bm]
  omega
theorem AB(n:Nat):aY 1 (n:Int)=nats (List.range' 1 (n-1)):=by
 unfold aY nats;rw[show((n:Int)-1).toNat=n-1 by omega,List.range'_eq_map_range,ZO];refine ZP λi _=>?_
 show D.int (1+(i:Int))=D.int ((1+i:Nat):Int);congr 1
section
variable {cn:Cn}{ds:List D}{M:MH}{Q:DK}{c:CA}{S:Addr}
theorem rd_places(Y:cn.F.getD 0 Yl=dS)(h:spPlaces ds M Q):wSs cn iR (fin Q) (ae ["","","","",""] ds) M:=by
 obtain⟨p,b,k,m,rfl,V,hm,q⟩:=h;show wSs cn iR (fin Q) [some (.ref p),some (.int (m:Int)),none,none,none] M;have B:M p≠none:=by rw[V];simp
 have hsz:(2000:Nat)<sizeLine:=by decide
 have Z:Box2 p k M M b:=⟨ExtBut.refl _ _,V⟩;unfold iR;simp! only[List.set];refine⟨⟨by omega,by omega⟩,λa G=>?_⟩;rw[cb];have B2:Box2 p k M (updM M a (.lst (nats (List.range m)))) b:=Z.ext (Ext.new G);have L:updM M a (MO.lst (nats (List.range m))) a=some (.lst (nats (List.range m))):=aa;have n2:∀z,updM M a (MO.lst (nats (List.range m))) z=none->M z=none:=λz=>(Ext.new G).free
 generalize updM M a (MO.lst (nats (List.range m)))=M2 at *;unfold ky;simp! only[List.set];intro d J;have O:=n2 d J;have B3:Box2 p k M (updM M2 d (.lst [])) b:=B2.ext (Ext.new J);have g3:updM M2 d (MO.lst []) d=some (.lst (nats [])):=aa;have r3:updM M2 d (MO.lst []) a=some (.lst (nats (List.range m))):=(Ext.new J) _ _ L;have W:d≠a:=λz=>by subst z;rw[J] at L;cases L
 have J0:p≠a:=λz=>by subst z;exact B G
 have Jc:p≠d:=λz=>by subst z;exact B O
 generalize updM M2 d (MO.lst [])=M3 at *;have D3:Drawn m (List.range m) []:=⟨List.nodup_range,λf hf=>by simpa using hf,by simp⟩;unfold kx;simp! only[List.set];refine⟨⟨by omega,by omega⟩,?_⟩;rw[cb];have body:∀(E:EndsD) (fs rs:Zj) (o:Zz) (l:Int) (M5:MH),Drawn m rs fs->0<rs.length->Box2 p k M M5 l->M5 d=some (.lst (nats fs))->M5 a=some (.lst (nats rs)) ->
   (∀y K j g,Drawn m K y->y.length=fs.length+1->Box2 p k M g j->g d=some (.lst (nats y))->g a=some (.lst (nats K))->E.nx [some (.ref p),some (.int (m:Int)),some (.ref a),some (.ref d),o] g) ->
   wSs cn cU E [some (.ref p),some (.int (m:Int)),some (.ref a),some (.ref d),o] M5:=by
  intro E fs rs o l M5 n Ks r u A kk;have JF:=n.len;unfold cU;simp! only[List.set,Y,u,A,db];refine⟨rfl,rfl,p,l,k,rs.length,rfl,r.at_,⟨Ks,by omega⟩,λi j hi=>?_⟩;have P:=r.draw j;have R:updM M5 p (MO.lst [.int j,.int k]) d=some (.lst (nats fs)):=by rw[az Jc.symm];exact u
  have T:updM M5 p (MO.lst [.int j,.int k]) a=some (.lst (nats rs)):=by rw[az J0.symm];exact A
  generalize updM M5 p (MO.lst [.int j,.int k])=g at *;have hx:rs[i]?=some rs[i]:=ZE hi;generalize rs[i]=x at hx;have LD:(nats rs)[(i:Int).toNat]?=some (.int (x:Int)):=by unfold nats;rw[YY,ZH,hx];rfl
  simp only[T,LD];refine⟨⟨by omega,by omega⟩,?_⟩;rw[YY,rp];have B7:Box2 p k M (updM g a (.lst (nats (rs.eraseIdx i)))) j:=P.put G B;have g7:updM g a (MO.lst (nats (rs.eraseIdx i))) d=some (.lst (nats fs)):=by rw[az W];exact R
  have r7:updM g a (MO.lst (nats (rs.eraseIdx i))) a=some (.lst (nats (rs.eraseIdx i))):=aa;generalize updM g a (MO.lst (nats (rs.eraseIdx i)))=M7 at *;simp only[g7,db];refine⟨by omega,?_⟩;rw[show nats fs++[D.int (x:Int)]=nats (fs++[x]) by unfold nats;rw[ZN];rfl];exact kk (fs++[x]) (rs.eraseIdx i) j _ (n.pop hx) (by rw[ZM];rfl) (B7.put O B) aa (by rw[az W.symm];exact r7)
 have U:∀(xs:Zj) (fs rs:Zj) (o:Zz) (l:Int) (M5:MH),fs.length+xs.length=m->Drawn m rs fs->Box2 p k M M5 l->M5 d=some (.lst (nats fs))->M5 a=some (.lst (nats rs)) ->
   aq (λ_=>True) (.nm 4) (wSs cn cU) { nx:=wSs cn gu (fin Q),rt:=Q } (nats xs) [some (.ref p),some (.int (m:Int)),some (.ref a),some (.ref d),o] M5:=by
  intro xs;induction xs with
  |nil=>
   intro fs rs o l M5 hl n r u A;have hr:=n.len;obtain rfl:rs=[]:=List.length_eq_zero_iff.1 (by simp at hl;omega);obtain⟨C,hC⟩:=SR.Drawn.chn n hm.1 hm.2;rw[show nats []=[] from rfl,aq];unfold gu;simp! only[];exact q d fs l M5 O r.but r.at_ u C hC
  |cons x xs ih=>
   intro fs rs o l M5 hl n r u A;have hr:=n.len;rw[YK] at hl;rw[show nats (x::xs)=.int (x:Int)::nats xs from rfl,aq];exact body _ fs rs _ l M5 n 'a' r u A λy K j g D6 QA P R T=>⟨trivial,ih y K _ j g 'a' D6 P R T⟩
 exact U (List.range m) [] (List.range m) none b M3 (by simp) D3 B3 g3 r3
theorem rd_chain(f0:cn.F.getD 0 Yl=cE c S)(f1:cn.F.getD 1 Yl=a8 S (bO c S))(f2:cn.F.getD 2 Yl=dS)(f3:cn.F.getD 3 Yl=spPlaces)(h:spChain ds M Q):
  wSs cn ir_law_chain_good (fin Q) (ae ["","","","","","","","","","",""] ds) M:=by
 obtain⟨i,j,rfl,q⟩:=h;show wSs cn ir_law_chain_good (fin Q) [some (.int i),some (.int j),none,none,none,none,none,none,none,none,none] M;have hsz:(2000:Nat)<sizeLine:=by decide
 unfold ir_law_chain_good;simp! only[List.set];refine⟨by decide,?_⟩;obtain⟨m,em,hm⟩:∃m:Nat,1+i%120=(m:Int)/\(0<m/\m<=120):=⟨(1+i%120).toNat,by omega,by omega,by omega⟩;rw[em];unfold gv;simp! only[List.set];intro b T2;have gx:updM M b (MO.lst [.int j,.int 0]) b=some (.lst [.int j,.int 0]):=aa;generalize updM M b (MO.lst [.int j,.int 0])=M0 at *;unfold gE;simp! only[List.set,f3];refine⟨b,j,0,m,rfl,gx,hm,λA pl b1 M1 P' x1 gb g1 C hl=>?_⟩;subst hl;clear em;have KB:=C.pos;have few:=C.few;have ac:∀(k:Nat),k+1<pl.length->atI (nats pl) ((k:Int)+1)=some (.int ((pl.getD (k+1) 0:Nat):Int))/\atI (nats pl) (k:Int)=some (.int ((pl.getD k 0:Nat):Int)):=λk hk=>by
  have P:pl[k+1]?=some (pl[k+1]'hk):=ZE hk;have h2:pl[k]?=some (pl[k]' 'a'):=ZE 'a';refine⟨?_,?_⟩
  ·rw[show(k:Int)+1=((k+1:Nat):Int) by omega,oE P,bK P]
  ·rw[oE h2,bK h2]
 have L3:atI (nats pl) 0=some (.int ((pl.getD 0 0:Nat):Int)):=by
  have h2:pl[0]?=some (pl[0]'KB):=ZE KB;rw[show(0:Int)=((0:Nat):Int) from rfl,oE h2,bK h2]
 unfold gD;simp! only[List.set,List.cons_append,XF,List.replicate];refine⟨⟨by omega,by omega⟩,?_⟩;rw[show((pl.length:Nat):Int)-1=((pl.length-1:Nat):Int) by omega,cb];have mk:∀(F:List D->MH->Prop) (l:Zj) (h_:List D) (y:Zy) (v:Zz) (M5:MH),(∀k∈l,k+1<pl.length)->Ext M1 M5->aG M5 h_ y ->
   (∀U a,Ext M1 a->aG a U (y++l.map λk=>(pl.getD (k+1) 0,[CT.hav ((pl.getD k 0:Nat):Int)]))->F U a) ->
   aE (λ_=>True) (.nm 11) (λ_ M Q=>Q true M) (wE cn (.tup (.cons (.ix (.var 4) (.bin .Add (.var 11) (.int 1))) (.cons (.lst (.cons (.tup (.cons (.str "have") (.cons (.ix (.var 4) (.var 11)) .nil))) .nil)) .nil)))) F (nats l) h_ [some (.int i),some (.int j),some (.int ((pl.length:Nat):Int)),some (.ref b),some (.ref A),none,none,none,none,none,none,v] M5:=by
  intro F l;induction l with
  |nil=>
   intro h_ y v M5 _ o G h;rw[show nats []=[] from rfl,aE];rw[XB,ZA] at h;exact h h_ M5 o G
  |cons k l ih=>
   intro h_ y v M5 hk o G h;obtain⟨r1,r2⟩:=ac k (hk k YA);have R:=o _ _ g1;rw[show nats (k::l)=.int (k:Int)::nats l from rfl,aE];simp! only[List.set,R,r1,r2];intro w hw;have J:Ext M5 (updM M5 w (.lst [.tup [.str "have",.int ((pl.getD k 0:Nat):Int)]])):=Ext.new hw;have V:updM M5 w (MO.lst [.tup [.str "have",.int ((pl.getD k 0:Nat):Int)]]) w=some (.lst (([CT.hav ((pl.getD k 0:Nat):Int)]:List CT).map CT.told)):=aa;generalize updM M5 w (MO.lst [.tup [.str "have",.int ((pl.getD k 0:Nat):Int)]])=a at *;refine⟨trivial,ih _ (y++[(pl.getD (k+1) 0,[CT.hav ((pl.getD k 0:Nat):Int)])]) _ a (λz hz=>hk z (.tail _ hz)) (o.trans J) ?_ λU K e7 Y=>?_⟩
   ·exact aX (G.ext J) (.cons ⟨w,rfl,V⟩ .nil)
   ·refine h U K e7 ?_
    simpa using Y
 refine mk _ (List.range (pl.length-1)) [] [] none M1 (λk hk=>by rw[ZY] at hk;omega) (Ext.refl _) .nil λh_ M5 o G=>?_
 rw[XF] at G;intro p2 C';have J:Ext M5 (updM M5 p2 (.lst h_)):=Ext.new C';have V:updM M5 p2 (MO.lst h_) p2=some (.lst h_):=aa;generalize updM M5 p2 (MO.lst h_)=a at *;have R6:=G.ext J;have QP:=o.trans J;have T3:h_.length=pl.length-1:=by have:=k7 G;rw[ZG,ZL] at this;exact this
 have rest:∀(B:Addr) (v_:List D) (a_:Zy) (g:MH),g B=some (.lst v_)->aG g v_ a_->Chr pl a_->a_.length=pl.length-1->g A=some (.lst (nats pl))->wSs cn cG (fin Q) [some (.int i),some (.int j),some (.int ((pl.length:Nat):Int)),some (.ref b),some (.ref A),some (.ref B),none,none,none,none,none] g:=by
  intro B v_ a_ g gr RR CR IY qq;obtain⟨tups,d_⟩:=tx RR;have S2:=CR.ok C IY;unfold cG;simp! only[List.set,List.cons_append,XF,List.replicate,gr];refine bR (f:=λd=>match d with | .tup (h::_)=>h | _=>.non) (ok:=λσ=>∃v w,σ=[some (.int i),some (.int j),some (.int ((pl.length:Nat):Int)),some (.ref b),some (.ref A),some (.ref B),none,none,none,none,none,v,w]) [] _ ⟨none,none,rfl⟩ ?_ ?_
  ·intro d hd σ U rest ⟨v,w,hv⟩ kk
   subst hv;obtain⟨f,r,rfl⟩:=tups d hd;rw[aE];simp! only[List.set];exact⟨rfl,gr,kk _ ⟨_,_,rfl⟩⟩
  rw[XF,d_];intro u S3;have e9:Ext g (updM g u (.lst (nats (a_.map (·.1))))):=Ext.new S3;have g9:updM g u (.lst (nats (a_.map (·.1)))) u=some (.lst (nats (a_.map (·.1)))):=aa;generalize updM g u (MO.lst (nats (a_.map (·.1))))=Z at *;unfold gB;simp! only[List.set,e9 _ _ qq,L3];intro p ON;have HH:Ext Z (updM Z p (.lst [.tup [.int ((pl.getD 0 0:Nat):Int),.int 0,.non]])):=Ext.new ON;have OO:updM Z p (.lst [.tup [.int ((pl.getD 0 0:Nat):Int),.int 0,.non]]) p=some (.lst ((dueL pl a_ 1).map enD)):=aa;generalize updM Z p (MO.lst [.tup [.int ((pl.getD 0 0:Nat):Int),.int 0,.non]])=Ic at *;unfold gA;simp! only[List.set];refine⟨⟨by omega,by omega,by omega,by omega⟩,?_⟩;rw[AB];have OP:=e9.trans HH;have body:∀(E:EndsD) (k:Nat) (v9 L:Zz) (M5:MH),0<k->k<pl.length->Ext g M5->M5 u=some (.lst (nats (a_.map (·.1))))->M5 p=some (.lst ((dueL pl a_ k).map enD)) ->
    (∀a,Ext g a->a u=some (.lst (nats (a_.map (·.1))))->a p=some (.lst ((dueL pl a_ (k+1)).map enD))->E.nx [some (.int i),some (.int j),some (.int ((pl.length:Nat):Int)),some (.ref b),some (.ref A),some (.ref B),some (.ref u),some (.ref p),some (.int (k:Int)),v9,L] a) ->
    wSs cn bW E [some (.int i),some (.int j),some (.int ((pl.length:Nat):Int)),some (.ref b),some (.ref A),some (.ref B),some (.ref u),some (.ref p),some (.int (k:Int)),v9,L] M5:=by
   intro E k v9 L M5 h0 hk o R T kk;obtain⟨k,rfl⟩:∃k',k=k'+1:=⟨k-1,by omega⟩;have P:pl[k+1]?=some (pl[k+1]'hk):=ZE hk;have h2:pl[k]?=some (pl[k]' 'a'):=ZE 'a';have MN:=oE P;have Jj:pl[k+1]∈a_.map (·.1):=List.mem_map.2 ⟨_,CR.all k _ _ h2 P,rfl⟩;have OQ:=vV Jj;unfold bW;simp_all! only[List.set,o _ _ qq,MN,R,T,lj,rdL,OQ,GG];have MR:((dueL pl a_ (k+1)).map enD).length=k+1:=by unfold dueL;rw[ZG,ZG,ZL]
   refine⟨rfl,rfl,depN _,by omega,?_⟩;have S4:(dueL pl a_ (k+1)).map enD++[.tup [.int ((pl[k+1]:Nat):Int),.int ((k+1:Nat):Int),.int ((List.idxOf pl[k+1] (a_.map (·.1)):Nat):Int)]]=(dueL pl a_ (k+1+1)).map enD:=by
    unfold dueL;rw[List.range_succ (n:=k+1),ZN,ZN];congr 1;show _=[enD (dueE a_ pl (k+1))];unfold dueE idxR;rw[bK P,if_neg 'a'];rfl
   rw[S4];have F_:p≠u:=λz=>by
    subst z;rw[ON] at g9;cases g9
   exact kk _ (o.put (by have:=e9.free ON;exact this)) (by rw[az F_.symm];exact R) aa
  have W:∀(r k:Nat) (O:Zz) (M5:MH),k+r=pl.length->0<k->Ext g M5->M5 u=some (.lst (nats (a_.map (·.1))))->M5 p=some (.lst ((dueL pl a_ k).map enD)) ->
    (∀O a,Ext g a->a p=some (.lst ((dueL pl a_ pl.length).map enD))->wSs cn bV (fin Q) [some (.int i),some (.int j),some (.int ((pl.length:Nat):Int)),some (.ref b),some (.ref A),some (.ref B),some (.ref u),some (.ref p),O,none,none] a) ->
    aq (λ_=>True) (.nm 8) (wSs cn bW) { nx:=wSs cn bV (fin Q),rt:=Q } (nats (List.range' k r)) [some (.int i),some (.int j),some (.int ((pl.length:Nat):Int)),some (.ref b),some (.ref A),some (.ref B),some (.ref u),some (.ref p),O,none,none] M5:=by
   intro r;induction r with
   |zero=>
    intro k O M5 hk _ o _ T kk;rw[show nats (List.range' k 0)=[] from rfl,aq];rw[show k=pl.length by omega] at T;exact kk O M5 o T
   |succ r ih=>
    intro k O M5 hk h0 o R T kk;rw[show nats (List.range' k (r+1))=.int (k:Int)::nats (List.range' (k+1) r) from rfl,aq];exact body _ k none none M5 h0 'a' o R T λa J V d6=>⟨trivial,ih (k+1) _ a 'a' 'a' J V d6 kk⟩
  refine W (pl.length-1) 1 none Ic 'a' 'a' OP (HH _ _ g9) OO λO Hu HD S9=>?_
  unfold bV;simp! only[List.set,f1];intro sh MB;have es:Ext Hu (updM Hu sh (.ins S [])):=Ext.new MB;refine⟨sh,pl.length,B,_,a_,rfl,aa,es _ _ (HD _ _ gr),(RR.ext HD).ext es,S2,λMa ba Sa=>⟨rfl,?_⟩⟩;have ea:Ext Hu Ma:=ExtBut.ext es ba MB;have da:=ea _ _ S9;have qa:=ea _ _ (HD _ _ qq);unfold gz;simp! only[List.set];refine⟨⟨by decide,by decide⟩,⟨by omega (splitDisjunctions:=true),by omega (splitDisjunctions:=true),by decide⟩,by rw[ju];exact oC _,?_⟩;rw[ju];obtain⟨gg,eg,-⟩:=modN (x:=i / 120) (n:=2 ^ pl.length) (oC _);rw[eg];have OR:pl.getD 0 0<pl.length:=by
   rw[bK (ZE KB)];exact C.lt _ (List.getElem_mem _)
  unfold gy;simp! only[List.set,qa,L3,f0];refine⟨⟨by omega (splitDisjunctions:=true),by omega (splitDisjunctions:=true),by decide⟩,?_⟩;rw[ju];refine⟨sh,pl.length,a_,2 ^ pl.getD 0 0,gg,rfl,Sa,by omega,by omega,Nat.pow_lt_pow_right 'b' OR,λw1 Mb OE eb QR=>?_⟩;rw[ig,Ay C CR] at QR;have pe:=pP (dueL pl a_ pl.length);simp! only[QR,eb _ _ da,rdL,pe.1,io _ pe.1];refine⟨⟨trivial,trivial,by omega⟩,?_⟩;refine⟨sh,pl.length,a_,0,gg,rfl,Sa.ext eb,by omega,by omega,Nat.two_pow_pos _,λw2 Mc S_ ec gc=>?_⟩;rw[ig,yO C CR] at gc;intro w3 OS;have e3:Ext Mc (updM Mc w3 (.lst [])):=Ext.new OS;have g3:updM Mc w3 (.lst []) w3=some (.lst []):=aa;have g4:=e3 _ _ gc;generalize updM Mc w3 (MO.lst [])=Md at *;simp only[g3,g4];exact⟨⟨rfl,rfl,YO _⟩,q Md⟩
 have R0:=FV pl;have Ta:b≠A:=bG gx P';have Tb:b≠p2:=bG (o _ _ gb) C';have QS:=QP _ _ gb;unfold gC;simp_all! only[List.set,f2];refine⟨b,b1,0,2,rfl,QS,⟨by omega,by omega⟩,λv b2 hv=>?_⟩;have g7:updM a b (.lst [.int b2,.int 0]) p2=some (.lst h_):=by rw[az Tb.symm];exact V
 have q7:updM a b (.lst [.int b2,.int 0]) A=some (.lst (nats pl)):=by rw[az Ta.symm];exact QP _ _ g1
 have Y:aG (updM a b (.lst [.int b2,.int 0])) h_ _:=vU QS R6;generalize updM a b (MO.lst [.int b2,.int 0])=K at *;simp_all! only[List.set,yq,g7,rdL];cases bv:((v:Int)==1) with
 |true=>
  rw[aI];intro p3 Il;have e8:Ext K (updM K p3 (.lst h_.reverse)):=Ext.new Il;have g8:updM K p3 (.lst h_.reverse) p3=some (.lst h_.reverse):=aa;generalize updM K p3 (MO.lst h_.reverse)=g at *;exact rest p3 _ _ g g8 (lG (Y.ext e8)) R0.rev (by rw[List.length_reverse,ZG,ZL]) (e8 _ _ q7)
 |false=>
  rw[ax];exact rest p2 _ _ K g7 Y R0 (by rw[ZG,ZL]) q7
end
end SK
namespace SK
open PySem L2 DD
open SH
def pQ:Ss:=#v[.ret (.fn 0 #v[.var 5,.fn 1 #v[.var 0,.int 2]])]
def pR:Ss:=.cons (.ite (.or (.cmp .NotEq (.fn 2 #v[.fn 3 #v[.int 0,.lst .nil],.int 0,.int 0]) (.lst .nil)) (.cmp .NotEq (.fn 4 #v[.fn 3 #v[.int 0,.lst .nil],.int 0,.int 0]) (.int 0))) #v[.ret (.bl false)] .nil) pQ
def vW:Ss:=#v[.ite (.cmp .NotEq (.fn 2 #v[.var 4,.var 3,.var 6]) (.var 9)) #v[.ret (.bl false)] .nil]
def vX:Ss:=.cons (.expr (.mt0 .clear (.var 7))) vW
def pS:Ss:=.cons (.set 9 (.bk .list #v[.var 7])) vX
def vY:Ss:=.cons (.ite (.not (.val (.fn 5 #v[.fn 4 #v[.var 4,.var 3,.var 6],.var 8]))) #v[.ret (.bl false)] .nil) pS
def pT:Ss:=.cons (.set 8 (.fn 6 #v[.var 7,.bi .len #v[.var 7]])) vY
def vZ:Ss:=.cons (.ite (.not (.val (.fn 7 #v[.var 2,.var 3,.var 6,.var 7]))) #v[.ret (.bl false)] .nil) pT
def jX:Ss:=.cons (.set 7 (.fn 2 #v[.var 4,.var 3,.var 6])) vZ
def wa:Ss:=.cons (.for (.nm 6) (.seq (.lst #v[.bin .Mod (.var 5) (.bin .LShift (.int 1) (.var 1)),.bin .Mod (.bin .FloorDiv (.var 5) (.bin .LShift (.int 1) (.var 1))) (.bin .LShift (.int 1) (.var 1))])) jX) pR
def tz:Ss:=.cons (.set 5 (.fn 1 #v[.var 0,.int 3])) wa
def tB:Ss:=.cons (.set 4 (.fn 8 #v[.var 1,.var 2])) tz
def tD:Ss:=.cons (.set 3 (.fn 9 #v[.var 0,.var 1])) tB
def tE:Ss:=.cons (.set 2 (.fn 10 #v[.var 0,.var 1,.int 4,.int 40])) tD
def ir_law:Ss:=.cons (.set 1 (.bin .Add (.int 1) (.bin .Mod (.fn 1 #v[.var 0,.int 0]) (.int 10)))) tE
def spLaw:SpD:=λds M Q=>∃(a:Addr) (ns:Zi),ds=[.ref a]/\M a=some (.rol (ns.map .int))/\ns.length<=63/\∀M',Q (.bl true) M'
theorem El:bX [] 0 0 (2 ^ 0-1)=[]:=by
 have a:memb 0=[]:=BZ.2 rfl;have b:aA (2 ^ 0-1) 0=0:=rfl;unfold bX;rw[a,b,aP];have h2:av [] 0 0 0=[]:=by unfold av;rw[a];rfl
 rw[if_pos h2];rfl
theorem Cd{n:Nat}(L:d3 [] 0 0 n):n=0:=L.uniq ⟨⟨Sub.refl _,λ_ h=>nomatch h⟩,λs _=>Sub.zero s⟩
theorem CB:RowsOk 0 []:=⟨by omega,by simp,λ_ h=>nomatch h⟩
section
variable {cn:Cn}{ds:List D}{M:MH}{Q:DK}{c:CA}{S:Addr}
theorem rd_law(f0:cn.F.getD 0 Yl=spChain)(f1:cn.F.getD 1 Yl=dh)(f2:cn.F.getD 2 Yl=cE c S)(f3:cn.F.getD 3 Yl=a8 S (bO c S))(f4:cn.F.getD 4 Yl=jg c S)
  (f5:cn.F.getD 5 Yl=SR.spSame) (f6:cn.F.getD 6 Yl=spUpto) (f7:cn.F.getD 7 Yl=spWalked) (f8:cn.F.getD 8 Yl=jh c S) (f9:cn.F.getD 9 Yl=ko) (Tc:cn.F.getD 10 Yl=kn) (h:spLaw ds M Q):wSs cn ir_law (fin Q) (ae ["","","","","","","","","",""] ds) M:=by
 obtain⟨a,ns,rfl,z,-,q⟩:=h;show wSs cn ir_law (fin Q) [some (.ref a),none,none,none,none,none,none,none,none,none] M;have hsz:(2000:Nat)<sizeLine:=by decide
 unfold ir_law;simp! only[List.set,f1];refine⟨a,ns,0,rfl,z,by decide,?_⟩;obtain⟨m,em,hm⟩:∃m:Nat,1+cellAt ns 0%10=(m:Int)/\(0<m/\m<=10):=by
  refine⟨(1+cellAt ns 0%10).toNat,?_,?_⟩<;>omega
 dsimp only;rw[em];unfold tE;simp! only[List.set,Tc];refine⟨a,ns,m,4,40,rfl,z,⟨by omega,by omega⟩,by omega,λR v_ a_ M1 g1 r1 ok Lh e1=>?_⟩;unfold tD;simp! only[List.set,f9];refine⟨a,ns,m,rfl,e1 _ _ z,by omega,λtold ht=>?_⟩;unfold tB;simp! only[List.set,f8];refine⟨m,R,v_,a_,rfl,g1,r1,ok,λsh M2 L Sh=>?_⟩;unfold tz;simp! only[List.set,f1];refine⟨a,ns,3,rfl,L _ _ (e1 _ _ z),?_⟩;generalize cellAt ns 3=cell;have Td:=L _ _ (e1 _ _ z);have g2:=L _ _ g1;have r2:=r1.ext L;have hh:=ku ok;have MQ:2 ^ m-1<2 ^ m:=by have:=Nat.two_pow_pos m;omega
 -- one of the two
 have body:∀(E:EndsD) (B:MH) (g:Nat) (b d f:Zz) (M5:MH),Ext M2 B->Ext B M5->(∀b d f j,Ext B j->E.nx [some (.ref a),some (.int (m:Int)),some (.ref R),some (.int (told:Int)),some (.ref sh),some (.int cell),some (.int (g:Int)),b,d,f] j) ->
   wSs cn jX E [some (.ref a),some (.int (m:Int)),some (.ref R),some (.int (told:Int)),some (.ref sh),some (.int cell),some (.int (g:Int)),b,d,f] M5:=by
  intro E B g b d f M5 eB OT kk;have o:=eB.trans OT;unfold jX;simp! only[List.set,f2];refine⟨sh,m,a_,told,g,rfl,Sh.ext o,by omega,by omega,ht,λp j hp k O=>?_⟩;rw[ig] at O;have Te:B p=none:=OT.free hp;have hE:mx j p (ens a_ g told (2 ^ m-1)):=⟨O,λx hx=>by have:=vQ ht MQ x hx;omega⟩;unfold vZ;simp! only[List.set,f7];refine⟨R,p,m,v_,a_,told,g,rfl,k _ _ (o _ _ g2),(r2.ext o).ext k,ok,ht,O,λM7 l=>?_⟩;show wSs cn pT _ _ M7;have g7:=l _ _ O;unfold pT;simp! only[List.set,f6,g7];refine⟨p,_,_,rfl,hE.ext l,?_⟩;rw[ZG];unfold vY;simp! only[List.set,f4,f5];have Tf:=o.trans (k.trans l);refine⟨sh,m,a_,told,g,rfl,Sh.ext Tf,by omega,by omega,ht,λn A Ln hn e8=>?_⟩;rw[vS hh Ln];refine⟨_,_,rfl,.inl ⟨_,rfl,rfl⟩,?_⟩;show wSs cn pS _ _ A;have P:=e8 _ _ g7;unfold pS;simp! only[List.set,P,dBk];simp only[dP,lV,P,wSs,wS,wE,wEs,wEo,wTo,wT,wI,wP,wSeq,nZ,wIfS,tY,wTru,wOp,wAnd,wOr,wNot,tZ,wOrV,t3,wIf,wRet,wSet,wAsg,t8,t7,fF,wMt,wSl,wLst,wTup,wNil,t4,wFor,t9,ua,ub,uk,uc,ud,qB,wFld,ui,oj,Ct,getS,lH,truD,intD,optD,n0,setM,dBin,dCmp,dIB,dLt,dI,dI0,dMul,dAdd,dBi,dLen,lf,dAll,dII,nq,lV,dMt,mtRc,uf,lh,li,dIx,dSl,dPut,dEqV,dNeV,dIsV,oa,dInV,n9,dInP,dEq,qv,isW,ue,isBl,isB,seqD,fldD,uh,qC,keyD,lm,lstD,lX,wLrg,rngD,dPop,nr,lj,aI,ax];simp only[rdD,rdL];intro r QT;have F_:p≠r:=bG P QT;have e9:Ext A (updM A r (.lst ((ens a_ g told (2 ^ m-1)).map enD))):=Ext.new QT;have g9:updM A r (.lst ((ens a_ g told (2 ^ m-1)).map enD)) r=some (.lst ((ens a_ g told (2 ^ m-1)).map enD)):=aa;have OU:=e9 _ _ P;generalize updM A r (MO.lst ((ens a_ g told (2 ^ m-1)).map enD))=T at *;have OV:Ext B T:=OT.trans ((k.trans l).trans (e8.trans e9));unfold vX;simp! only[List.set,OU];refine⟨rfl,?_⟩;have L4:Ext B (updM T p (.lst [])):=OV.put Te;have HH:=eB.trans L4;have OO:updM T p (.lst []) r=some (.lst ((ens a_ g told (2 ^ m-1)).map enD)):=by rw[az F_.symm];exact g9
  generalize updM T p (MO.lst [])=Ic at *;unfold vW;simp! only[List.set,f2];refine⟨sh,m,a_,told,g,rfl,Sh.ext HH,by omega,by omega,ht,λT4 Hu Tg HD Kw=>?_⟩;rw[ig] at Kw;have pe:=pP (ens a_ g told (2 ^ m-1));simp only[Kw,HD _ _ OO,rdL,pe.1,io _ pe.1];refine⟨⟨trivial,trivial,by omega⟩,?_⟩;rw[Bool.not_true,ax];exact kk _ _ _ Hu (L4.trans HD)
 have C:∀(v6 b d f:Zz) (M5:MH),Ext M2 M5->wSs cn pR (fin Q) [some (.ref a),some (.int (m:Int)),some (.ref R),some (.int (told:Int)),some (.ref sh),some (.int cell),v6,b,d,f] M5:=by
  intro v6 b d f M5 o;unfold pR;simp! only[List.set,f2,f3,f4];intro G OE;have x1:Ext M5 (updM M5 G (.lst [])):=Ext.new OE;have y1:updM M5 G (.lst []) G=some (.lst []):=aa;generalize updM M5 G (MO.lst [])=Ma at *;intro s1 QU;have x2:Ext Ma (updM Ma s1 (.ins S [])):=Ext.new QU;refine⟨s1,0,G,[],[],rfl,aa,x2 _ _ y1,.nil,CB,λMb bb Sb=>⟨rfl,?_⟩⟩;have x3:Ext Ma Mb:=ExtBut.ext x2 bb QU;refine⟨s1,0,[],0,0,rfl,Sb,by simp,by omega,by simp,λw2 U S_ x4 y4=>?_⟩;rw[El] at y4;intro V OS;have x5:Ext U (updM U V (.lst [])):=Ext.new OS;have y5:updM U V (.lst []) V=some (.lst []):=aa;have y6:=x5 _ _ y4;generalize updM U V (MO.lst [])=W at *;simp only[y5,y6,rdL];refine⟨⟨rfl,rfl,YO _⟩,?_⟩;rw[show eqDs [] []=true from rfl,Bool.not_true,ax];intro J Th;have x6:Ext W (updM W J (.lst [])):=Ext.new Th;have y7:updM W J (.lst []) J=some (.lst []):=aa;generalize updM W J (MO.lst [])=Me at *;intro s2 Jd;have x7:Ext Me (updM Me s2 (.ins S [])):=Ext.new Jd;refine⟨s2,0,J,[],[],rfl,aa,x7 _ _ y7,.nil,CB,λMf bf Sf=>⟨rfl,?_⟩⟩;have x8:Ext Me Mf:=ExtBut.ext x7 bf Jd;refine⟨s2,0,[],0,0,rfl,Sf,by simp,by omega,by simp,λn Mg Ln _ x9=>?_⟩;rw[Cd Ln];simp only[af,ag,ar,ah,ai,au,ad,aj,YO,and_self,true_and,and_true];have OW:Ext M2 Mg:=o.trans (x1.trans (x3.trans (x4.trans (x5.trans (x6.trans (x8.trans x9))))));have OX:wSs cn pQ (fin Q) [some (.ref a),some (.int (m:Int)),some (.ref R),some (.int (told:Int)),some (.ref sh),some (.int cell),v6,b,d,f] Mg:=by
   unfold pQ;simp! only[List.set,f0,f1];exact⟨a,ns,2,rfl,OW _ _ Td,_,_,rfl,λM'=>q M'⟩
  rw[show(((0:Nat):Int)==0)=true from rfl,Bool.not_true,ax];exact OX
 unfold wa;simp! only[List.set,ju];have Ti:=Aw (m:=m) 'a';have K:=oC m;refine⟨⟨by omega (splitDisjunctions:=true),by omega (splitDisjunctions:=true),by decide⟩,K,⟨by omega (splitDisjunctions:=true),by omega (splitDisjunctions:=true),by decide⟩,⟨K,Ti⟩,⟨by omega (splitDisjunctions:=true),by omega (splitDisjunctions:=true),by decide⟩,K,λY J0=>?_⟩;obtain⟨u,Tj,-⟩:=modN (x:=cell) (n:=2 ^ m) K;obtain⟨y,Tl,-⟩:=modN (x:=cell / ((2 ^ m:Nat):Int)) (n:=2 ^ m) K;rw[Tj,Tl,aa];have e3:Ext M2 (updM M2 Y (.lst [.int (u:Int),.int (y:Int)])):=Ext.new J0;have g3:updM M2 Y (.lst [.int (u:Int),.int (y:Int)]) Y=some (.lst [.int (u:Int),.int (y:Int)]):=aa;generalize updM M2 Y (MO.lst [.int (u:Int),.int (y:Int)])=Z at *;dsimp only;rw[aq];show wSs cn jX _ [some (.ref a),some (.int (m:Int)),some (.ref R),some (.int (told:Int)),some (.ref sh),some (.int cell),some (.int (u:Int)),none,none,none] Z;refine body _ Z u none none none Z e3 (Ext.refl _) λb d f j k=>⟨k _ _ g3,?_⟩
 rw[aq];show wSs cn jX _ [some (.ref a),some (.int (m:Int)),some (.ref R),some (.int (told:Int)),some (.ref sh),some (.int cell),some (.int (y:Int)),b,d,f] j;refine body _ Z y b d f j e3 k λb d f M7 l=>⟨l _ _ g3,?_⟩
 rw[aq];exact C _ b d f M7 (e3.trans l)
end
end SK
namespace K31
open PySem L2 DD
abbrev lC:List Str:=["many","leanings","found","row","row_leaned","fact","lack"]
abbrev kz:List Str:=["many","leanings"]
theorem rD:FnScope lC kz (ak dm):=⟨rfl,rfl,rfl,by rfl',rfl,by rfl',by rfl'⟩
abbrev rE:List Str:=[]
theorem rG:bI ⟨lC,ak dm,true,fG,bltL,rE⟩ SH.cK (aF dm)=true:=by rfl'
abbrev o7:List Str:=["_law_thing","_law_part"]
abbrev gw:List Str:=["_law_thing"]
theorem nL:FnScope o7 gw (ak hV):=⟨rfl,rfl,rfl,by rfl',rfl,by rfl',by rfl'⟩
abbrev wb:List Str:=["_law_plain"]
theorem nM:bI ⟨o7,ak hV,true,fG,bltL,wb⟩ SH.aW (aF hV)=true:=by rfl'
abbrev nN:List Str:=["_law_rows_here","_law_told_here","_law_against","_law_found","_law_order","_law_thing","_law_fact","_law_step","_law_row","_law_due","_law_whole","_law_head","_law_conds"]
abbrev mX:List Str:=["_law_rows_here","_law_told_here","_law_against","_law_found"]
theorem tN:FnScope nN mX (ak fI):=⟨rfl,rfl,rfl,by rfl',rfl,by rfl',by rfl'⟩
abbrev tO:List Str:=["_law_met","_law_upto","_law_is_first","_law_plain"]
theorem tP:bI ⟨nN,ak fI,true,fG,bltL,tO⟩ SK.ir_law_walked (aF fI)=true:=by rfl'
abbrev jY:List Str:=["_law_cell","_law_other","_law_many","_law_left","_law_place","_law_rows_here","_law_heads","_law_due","_law_k","_law_sheet_here","_law_against"]
abbrev jb:List Str:=["_law_cell","_law_other"]
theorem oI:FnScope jY jb (ak cm):=⟨rfl,rfl,rfl,by rfl',rfl,by rfl',by rfl'⟩
abbrev oJ:List Str:=["ranked_set","Sheet","_law_draw","_law_places"]
theorem oK:bI ⟨jY,ak cm,true,fG,bltL,oJ⟩ SK.ir_law_chain_good (aF cm)=true:=by rfl'
abbrev CC:List Str:=["_law_script","_law_many","_law_rows_here","_law_told_here","_law_sheet_here","_law_cell","_law_against","_law_found","_law_whole","_law_known"]
abbrev FW:List Str:=["_law_script"]
theorem FX:FnScope CC FW (ak ql):=⟨rfl,rfl,rfl,by rfl',rfl,by rfl',by rfl'⟩
abbrev FY:List Str:=["_law_chain_good","_law_cell_at","ranked_set","Sheet","least_set","_law_same","_law_upto","_law_walked","_law_sheet","_law_told","_law_rows"]
theorem FZ:bI ⟨CC,ak ql,true,fG,bltL,FY⟩ SK.ir_law (aF ql)=true:=by rfl'
end K31
namespace K31
open PySem PySem.Spec PyProof.Rows L2 DD
theorem us0{P:List Value->Prop}(h:P []):∀us:List Value,us.length=0->P us
 |[],_=>h
theorem us1{P:List Value->Prop}(h:∀a,P [a]):∀us:List Value,us.length=1->P us
 |a::t,hl=>us0 (P:=λt=>P (a::t)) (h a) t (Nat.succ.inj hl)
 |[],hl=>nomatch hl
theorem us2{P:List Value->Prop}(h:∀a b,P [a,b]):∀us:List Value,us.length=2->P us
 |a::t,hl=>us1 (P:=λt=>P (a::t)) (h a) t (Nat.succ.inj hl)
 |[],hl=>nomatch hl
theorem us3{P:List Value->Prop}(h:∀a b c,P [a,b,c]):∀us:List Value,us.length=3->P us
 |a::t,hl=>us2 (P:=λt=>P (a::t)) (h a) t (Nat.succ.inj hl)
 |[],hl=>nomatch hl
theorem us4{P:List Value->Prop}(h:∀a b c d,P [a,b,c,d]):∀us:List Value,us.length=4->P us
 |a::t,hl=>us3 (P:=λt=>P (a::t)) (h a) t (Nat.succ.inj hl)
 |[],hl=>nomatch hl
theorem us5{P:List Value->Prop}(h:∀a b c d e,P [a,b,c,d,e]):∀us:List Value,us.length=5->P us
 |a::t,hl=>us4 (P:=λt=>P (a::t)) (h a) t (Nat.succ.inj hl)
 |[],hl=>nomatch hl
theorem us6{P:List Value->Prop}(h:∀a b c d e f,P [a,b,c,d,e,f]):∀us:List Value,us.length=6->P us
 |a::t,hl=>us5 (P:=λt=>P (a::t)) (h a) t (Nat.succ.inj hl)
 |[],hl=>nomatch hl
local macro_rules
 | `(tactic| ac_rfl) => `(tactic| exact ⟨rfl, rfl, rfl, by rfl', rfl, by rfl', by rfl'⟩)
abbrev nO(st:Stmt):List Str:=((ak st).names.filter λp=>p.2==.local || p.2==.cell).map (·.1)
local macro_rules
 | `(tactic| ac_nf) => `(tactic| first | exact λ_ _ _ _ _ _ => us1 λ_ => rfl | exact λ_ _ _ _ _ _ => us2 λ_ _ => rfl | exact λ_ _ _ _ _ _ => us3 λ_ _ _ => rfl | exact λ_ _ _ _ _ _ => us4 λ_ _ _ _ => rfl | exact λ_ _ _ _ _ _ => us5 λ_ _ _ _ _ => rfl | exact λ_ _ _ _ _ _ => us6 λ_ _ _ _ _ _ => rfl)
local macro_rules
 | `(tactic| bv_omega) => `(tactic| (intro ds M Q h; first | (obtain ⟨_, e, _⟩ := h; subst e; rfl) | (obtain ⟨_, _, e, _⟩ := h; subst e; rfl) | (obtain ⟨_, _, _, e, _⟩ := h; subst e; rfl) | (obtain ⟨_, _, _, _, e, _⟩ := h; subst e; rfl) | (obtain ⟨_, _, _, _, _, e, _⟩ := h; subst e; rfl) | (obtain ⟨_, _, _, _, _, _, e, _⟩ := h; subst e; rfl) | (obtain ⟨_, _, _, _, _, _, _, e, _⟩ := h; subst e; rfl) | (obtain ⟨_, _, _, _, _, _, _, _, e, _⟩ := h; subst e; rfl) | (obtain ⟨_, _, _, _, _, _, _, _, _, e, _⟩ := h; subst e; rfl) | (obtain ⟨_, _, _, _, _, _, _, _, _, _, e, _⟩ := h; subst e; rfl) | (obtain ⟨_, _, _, _, _, _, _, _, _, _, _, e, _⟩ := h; subst e; rfl) | (obtain ⟨_, _, _, _, _, _, _, _, _, _, _, _, e, _⟩ := h; subst e; rfl) | (obtain ⟨_, _, _, _, _, _, _, _, _, _, _, _, _, e, _⟩ := h; subst e; rfl) | (obtain ⟨_, _, _, _, _, _, _, _, _, _, _, _, _, _, e, _⟩ := h; subst e; rfl)))
def metC(c:SH.CA):MT0:=λa m=>(SH.kindAt c a).bind λk=>if m = "carried" then some (SH.bw c k) else if m = "leaning" then some (SH.bz c k) else none
def metS(c:SH.CA)(S:Addr):MT0:=λa m=>if a=S then(if m = "how_many" then some (SH.fB c S) else if m = "rows_for" then some (SH.iu c S) else if m = "rows_helped" then some (SH.de c S) else if m = "head_of" then some (SH.gU c S) else if m = "conds_of" then some (SH.iw c S) else none) else none
def AC(S:Addr):OK0:=λC f=>C=S/\f∈SH.iq
section
variable {P:Zw}{w:World}{K:Za}{mg:Ze}{base:Heap}{c:SH.CA}{S:Addr}{k:Nat}
theorem wc(h:c.apart)(t:SH.CT):metC c (c.at t.kind) "carried" = some (SH.bw c t.kind):=by
 unfold metC;rw[h _ t.kind_lt];rfl
theorem wd(h:c.apart)(t:SH.CT):metC c (c.at t.kind) "leaning" = some (SH.bz c t.kind):=by
 unfold metC;rw[h _ t.kind_lt];rfl
theorem mY:metS c S S "how_many" = some (SH.fB c S):=by unfold metS;rw[if_pos rfl];kernel_rfl
theorem tQ:metS c S S "rows_for" = some (SH.iu c S):=by unfold metS;rw[if_pos rfl];kernel_rfl
theorem pU:metS c S S "rows_helped" = some (SH.de c S):=by unfold metS;rw[if_pos rfl];kernel_rfl
theorem nP:metS c S S "head_of" = some (SH.gU c S):=by unfold metS;rw[if_pos rfl];kernel_rfl
theorem tR:metS c S S "conds_of" = some (SH.iw c S):=by unfold metS;rw[if_pos rfl];kernel_rfl
theorem AD{x:Str}{st:Stmt}{ps:Zf}{f:Addr}{fd:Zv}(a:IsDef K mg x st ps f fd):FnD P w K mg base k x (λ_ _ _=>False):=
 ⟨st,ps,f,fd,a,⟨λ_ _ _ _ ⟨_,_,_,_,_,z,_⟩=>z.elim,λ_ _ _ _ _ _ _ _ _ _ _ _ _ ⟨_,_,_,_,_,z,_⟩=>z.elim⟩⟩
theorem fnH{h:Heap}{x:Str}{st:Stmt}{N:Zf}{sp:SpD}{a:Ss}{glob blt fns:Zf}{cn:Cn}(A:HDef K x st){ps:Zf}(X:K.In h)(G:h.Ns mainGlobals mg)
  (hb:∀(kV B_ pm:Value) (an:Zm) (y_ ct:Value) (us:Zd),us.length=ps.length->bindArgs (PySem.W.fnOf x x (bd st) (aF st) (ak st) .none kV B_ pm an y_ ct) ⟨us,[]⟩=pure (ps.zip us))
  (S:FnScope N ps (ak st)) (nm:Names P w K mg base k glob blt fns cn) (hc:bI ⟨N,ak st,true,glob,blt,fns⟩ a (aF st)=true) (len:∀ds M Q,sp ds M Q->ds.length=ps.length)
  (h':∀ds M Q,sp ds M Q->wSs cn a { nx:=λ_ M'=>Q .non M',rt:=Q } (ae N ds) M):FnD P w K mg base (k+1) x sp:=by
 obtain⟨_,_,A⟩:=A;exact vg (A.def_ X G hb) S nm hc len h'
theorem dB{C:Addr}{m l_:Str}{st:Stmt}{ps N:Zf}{sp:SpD}{a:Ss}{glob blt fns:Zf}{cn:Cn}(cl:Cls K C)(A:bH K C m l_ st)(S:FnScope N ps (ak st))(nm:Names P w K mg base k glob blt fns cn)
  (hb:∀(kV B_ pm:Value) (an:Zm) (y_ ct:Value) (us:Zd),us.length=ps.length->bindArgs (PySem.W.fnOf m l_ (bd st) (aF st) (ak st) .none kV B_ pm an y_ ct) ⟨us,[]⟩=pure (ps.zip us))
  (hc:bI ⟨N,ak st,true,glob,blt,fns⟩ a (aF st)=true) (len:∀ds M Q,sp ds M Q->ds.length=ps.length)
  (h:∀ds M Q,sp ds M Q->wSs cn a { nx:=λ_ M'=>Q .non M',rt:=Q } (ae N ds) M):bo P w K mg base (k+1) C m sp:=by
 obtain⟨_,_,A⟩:=A;exact BK cl A S nm hb hc len h
theorem mkH{x:Str}{C:Addr}{l_:Str}{st:Stmt}{ps N:Zf}{sp:SpD}{a:Ss}{glob blt fns:Zf}{cn:Cn}(hx:mg x=some (.ref C))(hm:PySem.W.makesIn K C=true)(hk:PySem.W.keepIn K (.ref C)=true)(A:bH K C "__init__" l_ st)
  (S:FnScope N ps (ak st)) (nm:Names P w K mg base k glob blt fns cn)
  (hb:∀(kV B_ pm:Value) (an:Zm) (y_ ct:Value) (us:Zd),us.length=ps.length->bindArgs (PySem.W.fnOf "__init__" l_ (bd st) (aF st) (ak st) .none kV B_ pm an y_ ct) ⟨us,[]⟩=pure (ps.zip us))
  (hc:bI ⟨N,ak st,true,glob,blt,fns⟩ a (aF st)=true) (len:∀ds M Q,sp ds M Q->ds.length=ps.length)
  (h:∀ds M Q,sp ds M Q->wSs cn a { nx:=λ_ M'=>Q .non M',rt:=Q } (ae N ds) M):cI P w K mg base (k+2) x (a8 C sp):=by
 obtain⟨_,_,A⟩:=A;exact FS hx hm hk A S nm hb hc len h
structure Env0 (K:Za) (mg:Ze) (c:SH.CA) (S:Addr):Prop where
 gl:∀(j:Nat) x,fG[j]?=some x->ng K mg x (nY.getD j .non)
 bl:∀x,bltL.contains x=true->mg x=none
 cl:∀i,i<4->clsIn K (c.at i) SH.eJ=true
 sh:clsIn K S SH.iq=true
theorem Env0.fl(E:Env0 K mg c S):∀C f,SH.fldO c C f->Cls K C/\cg K C f:=by
 rintro C f ⟨i,hi,rfl,hf⟩;exact⟨aZ (E.cl i hi),uG (E.cl i hi) hf⟩
theorem Env0.fs(E:Env0 K mg c S):∀C f,AC S C f->Cls K C/\cg K C f:=by
 rintro C f ⟨rfl,hf⟩;exact⟨aZ E.sh,uG E.sh hf⟩
abbrev Fns(P:Zw)(w:World)(K:Za)(mg:Ze)(base:Heap)(k:Nat)(fns:Zf)(F:List SpD):Prop:=∀(j:Nat) (x:Str),fns[j]?=some x->∃k',k'<=k/\cI P w K mg base k' x (F.getD j λ_ _ _=>False)
theorem nm0{fns:Zf}{F:List SpD}(E:Env0 K mg c S)(hf:Fns P w K mg base k fns F):
 Names P w K mg base k fG bltL fns ⟨F,nY,SH.fldO c,λ_ _=>none,λ_ _=>none⟩:=⟨E.gl,E.bl,hf,E.fl,(λ_ _ _ z=>nomatch z),(λ_ _ _ z=>nomatch z)⟩
theorem nmO{fns:Zf}{F:List SpD}(E:Env0 K mg c S)(hf:Fns P w K mg base k fns F):
 Names P w K mg base k fG bltL fns ⟨F,nY,AC S,λ_ _=>none,λ_ _=>none⟩:=⟨E.gl,E.bl,hf,E.fs,(λ_ _ _ z=>nomatch z),(λ_ _ _ z=>nomatch z)⟩
theorem nmC{fns:Zf}{F:List SpD}(E:Env0 K mg c S)(mt:∀C m sp,metC c C m=some sp->∃k',k'<=k/\bo P w K mg base k' C m sp)(hf:Fns P w K mg base k fns F):
 Names P w K mg base k fG bltL fns ⟨F,nY,SH.fldO c,metC c,λ_ _=>none⟩:=⟨E.gl,E.bl,hf,E.fl,mt,(λ_ _ _ z=>nomatch z)⟩
theorem nmS{fns:Zf}{F:List SpD}(E:Env0 K mg c S)(mt:∀C m sp,metS c S C m=some sp->∃k',k'<=k/\bo P w K mg base k' C m sp)(hf:Fns P w K mg base k fns F):
 Names P w K mg base k fG bltL fns ⟨F,nY,SH.fldO c,metS c S,λ_ _=>none⟩:=⟨E.gl,E.bl,hf,E.fl,mt,(λ_ _ _ z=>nomatch z)⟩
theorem fh{T:MT0}{j:Nat}(h:j<=k)(mt:∀C m sp,T C m=some sp->∃k',k'<=j/\bo P w K mg base k' C m sp):∀C m sp,T C m=some sp->∃k',k'<=k/\bo P w K mg base k' C m sp:=λC m sp e=>let⟨k',h1,h2⟩:=mt C m sp e;⟨k',ZZ h1 h,h2⟩
theorem my(i:Nat){n:Nat}(h:∀t:SH.CT,t.kind=i->t.flds.length+1=n){ps:Zf}(hp:ps.length=n):∀ds M Q,SH.bF c i ds M Q->ds.length=ps.length:=by
 rintro ds M Q ⟨a,t,hk,rfl,_⟩;rw[YK,ZG,h t hk,hp]
theorem F1(E:Env0 K mg c S)
  (y:c.apart)
  {hp:Heap}
  (X:K.In hp)
  (G:hp.Ns mainGlobals mg)
  {z:Addr}{A:Zv}(HA:DefAt K "law" ql z A)
  (L5:mg "Have" = some (.ref (c.at 0))) (L6:PySem.W.makesIn K (c.at 0)=true) (L7:PySem.W.keepIn K (.ref (c.at 0))=true)
  (L8:mg "Lack" = some (.ref (c.at 1))) (L9:PySem.W.makesIn K (c.at 1)=true) (L_:PySem.W.keepIn K (.ref (c.at 1))=true)
  (Mh:mg "Some" = some (.ref (c.at 2))) (Mi:PySem.W.makesIn K (c.at 2)=true) (Mj:PySem.W.keepIn K (.ref (c.at 2))=true)
  (Ml:mg "Lead" = some (.ref (c.at 3))) (Mm:PySem.W.makesIn K (c.at 3)=true) (Mn:PySem.W.keepIn K (.ref (c.at 3))=true)
  (Mo:mg "Sheet" = some (.ref S)) (Mp:PySem.W.makesIn K S=true) (Mq:PySem.W.keepIn K (.ref S)=true)
  (hy:Hyps K (c.at 0) (c.at 1) (c.at 2) (c.at 3) S):
  FnOk P w K mg base CX0 9 z A ["_law_script"] (fE K SK.spLaw):=by
 obtain⟨_,_,a_27⟩:=hy.a_27;have a:FnD P w K mg base 1 "has_fact" (SH.cJ):=fnH hy.a_0 (N:=nO lL) (ps:=(nO lL).take 2) X G (by ac_nf) (by ac_rfl) (nm0 (F:=[]) (k:=0) E (al (F:=[]))) (by rfl') (by bv_omega) (λds M Q h=>SH.wq h);have B:FnD P w K mg base 2 "count_in" (SH.jp):=fnH hy.a_1 (N:=nO lM) (ps:=(nO lM).take 2) X G (by ac_nf) (by ac_rfl) (nm0 (F:=[SH.cJ]) (k:=1) E (ab 'b' (.inl a) (al (F:=[])))) (by rfl') (by bv_omega) (λds M Q h=>SH.wt rfl h);have OY:cI P w K mg base 2 "Have" (a8 (c.at 0) (SH.bF c 0)):=mkH (N:=nO kG) (ps:=(nO kG).take 2) L5 L6 L7 hy.a_57 (by ac_rfl) (nm0 (F:=[]) (k:=0) E (al (F:=[]))) (by ac_nf) (by rfl') (my 0 (n:=2) (λt ht=>by cases t<;>first | rfl | cases ht) rfl) (λds M Q h=>SH.vj rfl h);have OZ:bo P w K mg base 2 (c.at 0) "carried" (SH.bw c 0):=dB (N:=nO gJ) (ps:=(nO gJ).take 3) (aZ (E.cl 0 'b')) hy.a_58 (by ac_rfl) (nm0 (F:=[SH.cJ]) (k:=1) E (ab 'b' (.inl a) (al (F:=[])))) (by ac_nf) (by rfl') (by bv_omega) (λds M Q h=>SH.qS rfl rfl h);have O0:bo P w K mg base 1 (c.at 0) "leaning" (SH.bz c 0):=dB (N:=nO gK) (ps:=(nO gK).take 1) (aZ (E.cl 0 'b')) hy.a_59 (by ac_rfl) (nm0 (F:=[]) (k:=0) E (al (F:=[]))) (by ac_nf) (by rfl') (by bv_omega) (λds M Q h=>SH.qW rfl h);have O1:cI P w K mg base 2 "Lack" (a8 (c.at 1) (SH.bF c 1)):=mkH (N:=nO kH) (ps:=(nO kH).take 2) L8 L9 L_ hy.a_60 (by ac_rfl) (nm0 (F:=[]) (k:=0) E (al (F:=[]))) (by ac_nf) (by rfl') (my 1 (n:=2) (λt ht=>by cases t<;>first | rfl | cases ht) rfl) (λds M Q h=>SH.vk rfl h);have O2:bo P w K mg base 2 (c.at 1) "carried" (SH.bw c 1):=dB (N:=nO gL) (ps:=(nO gL).take 3) (aZ (E.cl 1 'b')) hy.a_61 (by ac_rfl) (nm0 (F:=[SH.cJ]) (k:=1) E (ab 'b' (.inl a) (al (F:=[])))) (by ac_nf) (by rfl') (by bv_omega) (λds M Q h=>SH.qT rfl rfl h);have O3:bo P w K mg base 1 (c.at 1) "leaning" (SH.bz c 1):=dB (N:=nO gM) (ps:=(nO gM).take 1) (aZ (E.cl 1 'b')) hy.a_62 (by ac_rfl) (nm0 (F:=[]) (k:=0) E (al (F:=[]))) (by ac_nf) (by rfl') (by bv_omega) (λds M Q h=>SH.qX rfl h);have O4:cI P w K mg base 2 "Some" (a8 (c.at 2) (SH.bF c 2)):=mkH (N:=nO kI) (ps:=(nO kI).take 3) Mh Mi Mj hy.a_63 (by ac_rfl) (nm0 (F:=[]) (k:=0) E (al (F:=[]))) (by ac_nf) (by rfl') (my 2 (n:=3) (λt ht=>by cases t<;>first | rfl | cases ht) rfl) (λds M Q h=>SH.vm rfl h);have O5:bo P w K mg base 3 (c.at 2) "carried" (SH.bw c 2):=dB (N:=nO gN) (ps:=(nO gN).take 3) (aZ (E.cl 2 'b')) hy.a_64 (by ac_rfl) (nm0 (F:=[SH.jp]) (k:=2) E (ab 'b' (.inl B) (al (F:=[])))) (by ac_nf) (by rfl') (by bv_omega) (λds M Q h=>SH.qU rfl rfl h);have O6:bo P w K mg base 1 (c.at 2) "leaning" (SH.bz c 2):=dB (N:=nO gO) (ps:=(nO gO).take 1) (aZ (E.cl 2 'b')) hy.a_65 (by ac_rfl) (nm0 (F:=[]) (k:=0) E (al (F:=[]))) (by ac_nf) (by rfl') (by bv_omega) (λds M Q h=>SH.qY rfl h);have O7:cI P w K mg base 2 "Lead" (a8 (c.at 3) (SH.bF c 3)):=mkH (N:=nO kJ) (ps:=(nO kJ).take 3) Ml Mm Mn hy.a_66 (by ac_rfl) (nm0 (F:=[]) (k:=0) E (al (F:=[]))) (by ac_nf) (by rfl') (my 3 (n:=3) (λt ht=>by cases t<;>first | rfl | cases ht) rfl) (λds M Q h=>SH.vn rfl h);have O8:bo P w K mg base 3 (c.at 3) "carried" (SH.bw c 3):=dB (N:=nO gP) (ps:=(nO gP).take 3) (aZ (E.cl 3 'b')) hy.a_67 (by ac_rfl) (nm0 (F:=[SH.cJ,SH.jp]) (k:=2) E (ab 'b' (.inl a) (ab 'b' (.inl B) (al (F:=[]))))) (by ac_nf) (by rfl') (by bv_omega) (λds M Q h=>SH.qV rfl rfl rfl h);have O9:bo P w K mg base 1 (c.at 3) "leaning" (SH.bz c 3):=dB (N:=nO gQ) (ps:=(nO gQ).take 1) (aZ (E.cl 3 'b')) hy.a_68 (by ac_rfl) (nm0 (F:=[]) (k:=0) E (al (F:=[]))) (by ac_nf) (by rfl') (by bv_omega) (λds M Q h=>SH.qZ rfl h);have O_:bo P w K mg base 1 S "how_many" (SH.fB c S):=dB (N:=nO ez) (ps:=(nO ez).take 1) (aZ E.sh) hy.a_70 (by ac_rfl) (nmO (F:=[]) (k:=0) E (al (F:=[]))) (by ac_nf) (by rfl') (by bv_omega) (λds M Q h=>SH.wA (λf hf=>⟨rfl,hf⟩) h);have Pa:bo P w K mg base 1 S "rows_for" (SH.iu c S):=dB (N:=nO eD) (ps:=(nO eD).take 2) (aZ E.sh) hy.a_71 (by ac_rfl) (nmO (F:=[]) (k:=0) E (al (F:=[]))) (by ac_nf) (by rfl') (by bv_omega) (λds M Q h=>SH.wB (λf hf=>⟨rfl,hf⟩) h);have Pb:bo P w K mg base 1 S "rows_helped" (SH.de c S):=dB (N:=nO cF) (ps:=(nO cF).take 2) (aZ E.sh) hy.a_72 (by ac_rfl) (nmO (F:=[]) (k:=0) E (al (F:=[]))) (by ac_nf) (by rfl') (by bv_omega) (λds M Q h=>SH.sf (λf hf=>⟨rfl,hf⟩) h);have Pc:bo P w K mg base 1 S "head_of" (SH.gU c S):=dB (N:=nO fJ) (ps:=(nO fJ).take 2) (aZ E.sh) hy.a_73 (by ac_rfl) (nmO (F:=[]) (k:=0) E (al (F:=[]))) (by ac_nf) (by rfl') (by bv_omega) (λds M Q h=>SH.yE (λf hf=>⟨rfl,hf⟩) h);have Pd:bo P w K mg base 1 S "conds_of" (SH.iw c S):=dB (N:=nO eG) (ps:=(nO eG).take 2) (aZ E.sh) hy.a_74 (by ac_rfl) (nmO (F:=[]) (k:=0) E (al (F:=[]))) (by ac_nf) (by rfl') (by bv_omega) (λds M Q h=>SH.wC (λf hf=>⟨rfl,hf⟩) h);have MC:∀C m sp,metC c C m=some sp->∃k',k'<=3/\bo P w K mg base k' C m sp:=by
  intro C m sp e;unfold metC at e;have at_:∀i,SH.kindAt c C=some i->C=c.at i/\i<4:=by
   intro i hi;unfold SH.kindAt at hi;split at hi
   ·cases hi;exact⟨by assumption,by decide⟩
   ·split at hi
    ·cases hi;exact⟨by assumption,by decide⟩
    ·split at hi
     ·cases hi;exact⟨by assumption,by decide⟩
     ·split at hi
      ·cases hi;exact⟨by assumption,by decide⟩
      ·cases hi
  cases q:SH.kindAt c C with
  |none=>rw[q] at e;cases e
  |some i=>
   rw[q] at e;obtain⟨rfl,hi⟩:=at_ i q;have e:(if m = "carried" then some (SH.bw c i) else if m = "leaning" then some (SH.bz c i) else none)=some sp:=e;have J:i=0\/i=1\/i=2\/i=3:=by omega
   split at e
   ·rename_i hm
    subst hm;cases e;rcases J with rfl | rfl | rfl | rfl
    ·exact⟨_,by decide,OZ⟩
    ·exact⟨_,by decide,O2⟩
    ·exact⟨_,by decide,O5⟩
    ·exact⟨_,by decide,O8⟩
   ·split at e
    ·rename_i hm
     subst hm;cases e;rcases J with rfl | rfl | rfl | rfl
     ·exact⟨_,by decide,O0⟩
     ·exact⟨_,by decide,O3⟩
     ·exact⟨_,by decide,O6⟩
     ·exact⟨_,by decide,O9⟩
    ·cases e
 have b:∀C m sp,metS c S C m=some sp->∃k',k'<=1/\bo P w K mg base k' C m sp:=by
  intro C m sp e;unfold metS at e;split at e
  ·rename_i hC
   subst hC;split at e
   ·rename_i hm;subst hm;cases e;exact⟨_,by decide,O_⟩
   ·split at e
    ·rename_i hm;subst hm;cases e;exact⟨_,by decide,Pa⟩
    ·split at e
     ·rename_i hm;subst hm;cases e;exact⟨_,by decide,Pb⟩
     ·split at e
      ·rename_i hm;subst hm;cases e;exact⟨_,by decide,Pc⟩
      ·split at e
       ·rename_i hm;subst hm;cases e;exact⟨_,by decide,Pd⟩
       ·cases e
  ·cases e
 have Tn:FnD P w K mg base 4 "all_carried" (SH.fT c):=fnH hy.a_2 (N:=nO iE) (ps:=(nO iE).take 3) X G (by ac_nf) (by ac_rfl) (nmC (F:=[]) (k:=3) E (fh 'b' MC) (al (F:=[]))) (by rfl') (by bv_omega) (λds M Q h=>SH.se (wc y) h);have Tp:FnD P w K mg base 5 "carried_heads" (SH.cj c S):=fnH hy.a_3 (N:=nO fH) (ps:=(nO fH).take 4) X G (by ac_nf) (by ac_rfl) (nmS (F:=[SH.fT c]) (k:=4) E (fh 'b' b) (ab 'b' (.inl Tn) (al (F:=[])))) (by rfl') (by bv_omega) (λds M Q h=>SH.pM rfl nP tR h);have Tq:FnD P w K mg base 2 "helped_rows" (SH.df c S):=fnH hy.a_4 (N:=nO iG) (ps:=(nO iG).take 3) X G (by ac_nf) (by ac_rfl) (nmS (F:=[SH.cJ]) (k:=1) E (fh 'b' b) (ab 'b' (.inl a) (al (F:=[])))) (by rfl') (by bv_omega) (λds M Q h=>SH.si rfl pU nP h);have L:FnD P w K mg base 1 "set_of" (SH.gS):=fnH hy.a_5 (N:=nO pb) (ps:=(nO pb).take 1) X G (by ac_nf) (by ac_rfl) (nm0 (F:=[]) (k:=0) E (al (F:=[]))) (by rfl') (by bv_omega) (λds M Q h=>SH.Ag h);have O:FnD P w K mg base 2 "members" (SH.fz):=fnH hy.a_6 (N:=nO ni) (ps:=(nO ni).take 1) X G (by ac_nf) (by ac_rfl) (nm0 (F:=[SH.cJ]) (k:=1) E (ab 'b' (.inl a) (al (F:=[])))) (by rfl') (by bv_omega) (λds M Q h=>SH.yz rfl h);have Tr:FnD P w K mg base 3 "all_rows" (SH.kl c S):=fnH hy.a_7 (N:=nO lN) (ps:=(nO lN).take 2) X G (by ac_nf) (by ac_rfl) (nmS (F:=[SH.fz]) (k:=2) E (fh 'b' b) (ab 'b' (.inl O) (al (F:=[])))) (by rfl') (by bv_omega) (λds M Q h=>SH.wK rfl tQ h);have R:FnD P w K mg base 6 "ranked_among" (SH.gX c S):=fnH hy.a_8 (N:=nO gF) (ps:=(nO gF).take 4) X G (by ac_nf) (by ac_rfl) (nm0 (F:=[SH.cj c S,SH.df c S,SH.gS,SH.kl c S,SH.fz]) (k:=5) E (ab 'b' (.inl Tp) (ab 'b' (.inl Tq) (ab 'b' (.inl L) (ab 'b' (.inl Tr) (ab 'b' (.inl O) (al (F:=[])))))))) (by rfl') (by bv_omega) (λds M Q h=>SH.Av rfl rfl rfl rfl rfl h);have T:FnD P w K mg base 1 "all_facts" (SH.dr):=fnH hy.a_9 (N:=nO kA) (ps:=(nO kA).take 1) X G (by ac_nf) (by ac_rfl) (nm0 (F:=[]) (k:=0) E (al (F:=[]))) (by rfl') (by bv_omega) (λds M Q h=>SH.vt h);have U:FnD P w K mg base 7 "ranked_set" (SH.cE c S):=fnH hy.a_10 (N:=nO jz) (ps:=(nO jz).take 3) X G (by ac_nf) (by ac_rfl) (nmS (F:=[SH.gX c S,SH.dr]) (k:=6) E (fh 'b' b) (ab 'b' (.inl R) (ab 'b' (.inl T) (al (F:=[]))))) (by rfl') (by bv_omega) (λds M Q h=>SH.tM mY rfl rfl h);have Pe:FnD P w K mg base 1 "rows_by_help" (SH.fX):=fnH hy.a_11 (ps:=kz) X G (by ac_nf) rD (nm0 (F:=[]) (k:=0) E (al (F:=[]))) rG (by bv_omega) (λds M Q h=>SH.rh h);have Pf:FnD P w K mg base 4 "row_leanings" (SH.cz c):=fnH hy.a_12 (N:=nO gG) (ps:=(nO gG).take 1) X G (by ac_nf) (by ac_rfl) (nmC (F:=[]) (k:=3) E (fh 'b' MC) (al (F:=[]))) (by rfl') (by bv_omega) (λds M Q h=>SH.rb (wd y) h);have Pg:FnD P w K mg base 1 "rows_by_head" (SH.fV):=fnH hy.a_13 (N:=nO gH) (ps:=(nO gH).take 2) X G (by ac_nf) (by ac_rfl) (nm0 (F:=[]) (k:=0) E (al (F:=[]))) (by rfl') (by bv_omega) (λds M Q h=>SH.rg h);have Ph:FnD P w K mg base 3 "made_cond" (SH.q9 c):=fnH hy.a_14 (N:=nO kB) (ps:=(nO kB).take 1) X G (by ac_nf) (by ac_rfl) (nm0 (F:=[a8 (c.at 3) (SH.bF c 3),a8 (c.at 2) (SH.bF c 2),a8 (c.at 1) (SH.bF c 1),a8 (c.at 0) (SH.bF c 0)]) (k:=2) E (ab 'b' O7 (ab 'b' O4 (ab 'b' O1 (ab 'b' OY (al (F:=[]))))))) (by rfl') (by bv_omega) (λds M Q h=>SH.Eb (c:=c) rfl h);have V:FnD P w K mg base 1 "is_whole" (SH.jr):=fnH hy.a_15 (N:=nO lJ) (ps:=(nO lJ).take 1) X G (by ac_nf) (by ac_rfl) (nm0 (F:=[]) (k:=0) E (al (F:=[]))) (by rfl') (by bv_omega) (λds M Q h=>SH.wu h);have g:FnD P w K mg base 2 "is_below" (SH.cC):=fnH hy.a_16 (N:=nO lK) (ps:=(nO lK).take 2) X G (by ac_nf) (by ac_rfl) (nm0 (F:=[SH.jr]) (k:=1) E (ab 'b' (.inl V) (al (F:=[])))) (by rfl') (by bv_omega) (λds M Q h=>SH.wv rfl h);have Pj:FnD P w K mg base 3 "is_listing" (SH.j9):=fnH hy.a_17 (N:=nO jA) (ps:=(nO jA).take 2) X G (by ac_nf) (by ac_rfl) (nm0 (F:=[SH.cC]) (k:=2) E (ab 'b' (.inl g) (al (F:=[])))) (by rfl') (by bv_omega) (λds M Q h=>SH.tK (j:=2) rfl rfl h);have Pk:FnD P w K mg base 2 "is_number" (SH.ma):=fnH hy.a_18 (N:=nO kE) (ps:=(nO kE).take 1) X G (by ac_nf) (by ac_rfl) (nm0 (F:=[SH.jr]) (k:=1) E (ab 'b' (.inl V) (al (F:=[])))) (by rfl') (by bv_omega) (λds M Q h=>SH.vy (j:=1) rfl rfl h);have Pl:FnD P w K mg base 4 "is_cond" (SH.md):=fnH hy.a_19 (N:=nO nj) (ps:=(nO nj).take 2) X G (by ac_nf) (by ac_rfl) (nm0 (F:=[SH.j9,SH.cC,SH.ma]) (k:=3) E (ab 'b' (.inl Pj) (ab 'b' (.inl g) (ab 'b' (.inl Pk) (al (F:=[])))))) (by rfl') (by bv_omega) (λds M Q h=>SH.yA rfl rfl rfl h);have Pm:FnD P w K mg base 5 "is_row" (SH.oy):=fnH hy.a_20 (N:=nO pc) (ps:=(nO pc).take 2) X G (by ac_nf) (by ac_rfl) (nm0 (F:=[SH.md,SH.cC]) (k:=4) E (ab 'b' (.inl Pl) (ab 'b' (.inl g) (al (F:=[]))))) (by rfl') (by bv_omega) (λds M Q h=>SH.Ah (j:=0) rfl rfl rfl h);have p:cI P w K mg base 7 "Sheet" (a8 S (SH.bO c S)):=mkH (N:=nO jC) (ps:=(nO jC).take 3) Mo Mp Mq hy.a_69 (by ac_rfl) (nmO (F:=[SH.fX,SH.cz c,SH.fV,SH.q9 c,SH.oy,SH.cC]) (k:=5) E (ab 'b' (.inl Pe) (ab 'b' (.inl Pf) (ab 'b' (.inl Pg) (ab 'b' (.inl Ph) (ab 'b' (.inl Pm) (ab 'b' (.inl g) (al (F:=[]))))))))) (by ac_nf) (by rfl') (by bv_omega) (λds M Q h=>SH.tL (j:=3) (l:=4) (λf hf=>⟨rfl,hf⟩) rfl rfl rfl rfl rfl rfl rfl rfl h);have o:FnD P w K mg base 1 "_law_draw" (SH.dS):=fnH hy.a_21 (N:=nO lO) (ps:=(nO lO).take 2) X G (by ac_nf) (by ac_rfl) (nm0 (F:=[]) (k:=0) E (al (F:=[]))) (by rfl') (by bv_omega) (λds M Q h=>SH.Ef h);have Pn:FnD P w K mg base 2 "_law_places" (SK.spPlaces):=fnH hy.a_22 (N:=nO jB) (ps:=(nO jB).take 2) X G (by ac_nf) (by ac_rfl) (nm0 (F:=[SH.dS]) (k:=1) E (ab 'b' (.inl o) (al (F:=[])))) (by rfl') (by bv_omega) (λds M Q h=>SK.rd_places rfl h);have Po:FnD P w K mg base 8 "_law_chain_good" (SK.spChain):=fnH hy.a_23 (ps:=jb) X G (by ac_nf) oI (nm0 (F:=[SH.cE c S,a8 S (SH.bO c S),SH.dS,SK.spPlaces]) (k:=7) E (ab 'b' (.inl U) (ab 'b' p (ab 'b' (.inl o) (ab 'b' (.inl Pn) (al (F:=[]))))))) oK (by bv_omega) (λds M Q h=>SK.rd_chain rfl rfl rfl rfl h);have r:FnD P w K mg base 1 "_law_cell_at" (SH.dh):=fnH hy.a_24 (N:=nO iH) (ps:=(nO iH).take 2) X G (by ac_nf) (by ac_rfl) (nm0 (F:=[]) (k:=0) E (al (F:=[]))) (by rfl') (by bv_omega) (λds M Q h=>SH.yJ h);have Pp:FnD P w K mg base 7 "least_among" (SH.gf c S):=fnH hy.a_25 (N:=nO iF) (ps:=(nO iF).take 4) X G (by ac_nf) (by ac_rfl) (nm0 (F:=[SH.gS,SH.gX c S]) (k:=6) E (ab 'b' (.inl L) (ab 'b' (.inl R) (al (F:=[]))))) (by rfl') (by bv_omega) (λds M Q h=>SH.sj rfl rfl h);have Pq:FnD P w K mg base 8 "least_set" (SH.jg c S):=fnH hy.a_26 (N:=nO kC) (ps:=(nO kC).take 3) X G (by ac_nf) (by ac_rfl) (nmS (F:=[SH.gf c S,SH.dr]) (k:=7) E (fh 'b' b) (ab 'b' (.inl Pp) (ab 'b' (.inl T) (al (F:=[]))))) (by rfl') (by bv_omega) (λds M Q h=>SH.vK mY rfl rfl h);have Y:∀d,FnD P w K mg base (1+d) "_law_plain" (SH.cw d):=by
  intro d;induction d with
  |zero=>exact vg (k:=0) (a_27.def_ (ps:=gw) X G (by ac_nf)) nL (nm0 (F:=[(λ_ _ _=>False)]) (k:=0) E (ab 'a' (.inl (AD (k:=0) (a_27.def_ (ps:=gw) X G (by ac_nf)))) (al (F:=[])))) nM (by bv_omega) (λds M Q h=>SH.yL h)
  |succ d ih=>exact vg (k:=1+d) (a_27.def_ (ps:=gw) X G (by ac_nf)) nL (nm0 (F:=[SH.cw d]) (k:=1+d) E (ab (YH _) (.inl ih) (al (F:=[])))) nM (by bv_omega) (λds M Q h=>SH.yM rfl h)
 have Pr:FnD P w K mg base 4 "_law_same" (SR.spSame):=fnH hy.a_28 (N:=nO lP) (ps:=(nO lP).take 2) X G (by ac_nf) (by ac_rfl) (nm0 (F:=[SH.cw 2]) (k:=3) E (ab 'b' (.inl (Y 2)) (al (F:=[])))) (by rfl') (by bv_omega) (λds M Q h=>SR.rd_same rfl h);have u:FnD P w K mg base 1 "_law_upto" (SK.spUpto):=fnH hy.a_29 (N:=nO lT) (ps:=(nO lT).take 2) X G (by ac_nf) (by ac_rfl) (nm0 (F:=[]) (k:=0) E (al (F:=[]))) (by rfl') (by bv_omega) (λds M Q h=>SK.rd_upto h);have Pt:FnD P w K mg base 1 "_law_carried" (SH.gm):=fnH hy.a_30 (N:=nO iI) (ps:=(nO iI).take 3) X G (by ac_nf) (by ac_rfl) (nm0 (F:=[]) (k:=0) E (al (F:=[]))) (by rfl') (by bv_omega) (λds M Q h=>SH.sk h);have Z:FnD P w K mg base 2 "_law_met" (SH.hJ):=fnH hy.a_31 (N:=nO nk) (ps:=(nO nk).take 3) X G (by ac_nf) (by ac_rfl) (nm0 (F:=[SH.gm]) (k:=1) E (ab 'b' (.inl Pt) (al (F:=[])))) (by rfl') (by bv_omega) (λds M Q h=>SH.yK rfl h);have Pu:FnD P w K mg base 3 "_law_is_first" (SK.spIsFirst):=fnH hy.a_32 (N:=nO gI) (ps:=(nO gI).take 5) X G (by ac_nf) (by ac_rfl) (nm0 (F:=[SH.hJ,SK.spUpto]) (k:=2) E (ab 'b' (.inl Z) (ab 'b' (.inl u) (al (F:=[]))))) (by rfl') (by bv_omega) (λds M Q h=>SK.rd_is_first rfl rfl h);have Pw:FnD P w K mg base 4 "_law_walked" (SK.spWalked):=fnH hy.a_33 (ps:=mX) X G (by ac_nf) tN (nm0 (F:=[SH.hJ,SK.spUpto,SK.spIsFirst,SH.cw 2]) (k:=3) E (ab 'b' (.inl Z) (ab 'b' (.inl u) (ab 'b' (.inl Pu) (ab 'b' (.inl (Y 2)) (al (F:=[]))))))) tP (by bv_omega) (λds M Q h=>SK.rd_walked rfl rfl rfl rfl h);have Px:FnD P w K mg base 8 "_law_sheet" (SH.jh c S):=fnH hy.a_34 (N:=nO kF) (ps:=(nO kF).take 2) X G (by ac_nf) (by ac_rfl) (nm0 (F:=[a8 S (SH.bO c S)]) (k:=7) E (ab 'b' p (al (F:=[])))) (by rfl') (by bv_omega) (λds M Q h=>SH.vM rfl h);have Py:FnD P w K mg base 2 "_law_told" (SH.ko):=fnH hy.a_35 (N:=nO lS) (ps:=(nO lS).take 2) X G (by ac_nf) (by ac_rfl) (nm0 (F:=[SH.dh]) (k:=1) E (ab 'b' (.inl r) (al (F:=[])))) (by rfl') (by bv_omega) (λds M Q h=>SH.wQ rfl h);have Pz:FnD P w K mg base 2 "_law_cond" (SH.iC):=fnH hy.a_36 (N:=nO lQ) (ps:=(nO lQ).take 2) X G (by ac_nf) (by ac_rfl) (nm0 (F:=[SH.dS]) (k:=1) E (ab 'b' (.inl o) (al (F:=[])))) (by rfl') (by bv_omega) (λds M Q h=>SH.wN rfl h);have PB:FnD P w K mg base 3 "_law_rows" (SH.kn):=fnH hy.a_37 (N:=nO lR) (ps:=(nO lR).take 4) X G (by ac_nf) (by ac_rfl) (nm0 (F:=[SH.dS,SH.iC,SH.dh]) (k:=2) E (ab 'b' (.inl o) (ab 'b' (.inl Pz) (ab 'b' (.inl r) (al (F:=[])))))) (by rfl') (by bv_omega) (λds M Q h=>SH.wO rfl rfl rfl h);exact vh (HA.fun_) FX (nm0 (F:=[SK.spChain,SH.dh,SH.cE c S,a8 S (SH.bO c S),SH.jg c S,SR.spSame,SK.spUpto,SK.spWalked,SH.jh c S,SH.ko,SH.kn]) (k:=8) E (ab 'b' (.inl Po) (ab 'b' (.inl r) (ab 'b' (.inl U) (ab 'b' p (ab 'b' (.inl Pq) (ab 'b' (.inl Pr) (ab 'b' (.inl u) (ab 'b' (.inl Pw) (ab 'b' (.inl Px) (ab 'b' (.inl Py) (ab 'b' (.inl PB) (al (F:=[])))))))))))))) FZ (by bv_omega) (λds M Q h=>SK.rd_law rfl rfl rfl rfl rfl rfl rfl rfl rfl rfl rfl h)
end
theorem Ce{a b d e:Addr}(h:(decide (a≠b)&&decide (a≠d)&&decide (a≠e)&&decide (b≠d)&&decide (b≠e)&&decide (d≠e))=true):SH.CA.apart ⟨a,b,d,e⟩:=by
 simp only[XA,XU] at h;obtain⟨⟨⟨⟨⟨c,h2⟩,f⟩,g⟩,j⟩,l⟩:=h;intro k hk;have m:k=0\/k=1\/k=2\/k=3:=by omega
 rcases m with rfl | rfl | rfl | rfl
 ·show(if a=a then some 0 else if a=b then some 1 else if a=d then some 2 else if a=e then some 3 else none)=some 0
  rw[if_pos rfl]
 ·show(if b=a then some 0 else if b=b then some 1 else if b=d then some 2 else if b=e then some 3 else none)=some 1
  rw[if_neg (λz=>c z.symm),if_pos rfl]
 ·show(if d=a then some 0 else if d=b then some 1 else if d=d then some 2 else if d=e then some 3 else none)=some 2
  rw[if_neg (λz=>h2 z.symm),if_neg (λz=>g z.symm),if_pos rfl]
 ·show(if e=a then some 0 else if e=b then some 1 else if e=d then some 2 else if e=e then some 3 else none)=some 3
  rw[if_neg (λz=>f z.symm),if_neg (λz=>j z.symm),if_neg (λz=>l z.symm),if_pos rfl]
theorem all4{p:Nat->Prop}(b:p 0)(c:p 1)(h2:p 2)(d:p 3):∀i,i<4->p i:=by
 intro i hi;have a:i=0\/i=1\/i=2\/i=3:=by omega
 rcases a with rfl | rfl | rfl | rfl<;>assumption
theorem F2:t5 63 SK.spLaw:=λa ns hl=>⟨a,ns,rfl,by unfold nW;rw[if_pos rfl],hl,λ_=>rfl⟩
theorem F3:Co SK.spLaw:=by
 intro l w K h mg y cH cL cS cD S X G n o gl bl p Jt Ju Jv Jw Jx Jy Jz JA JB z m HA hy;have b:=Jt;simp only[XA] at b;have d:=Jv;simp only[XA] at d;have f:=Jx;simp only[XA] at f;have g:=Jz;simp only[XA] at g;have j:=JB;simp only[XA] at j;have E:Env0 K mg ⟨cH,cL,cS,cD⟩ S:=⟨qk X G gl,zu X G bl,all4 b.1.1 d.1.1 f.1.1 g.1.1,j.1.1⟩;have r:∀(s:Shared) (v:Value),BindsTo s m ⟨[v],[]⟩ [("_law_script",v)]:=by
  obtain⟨oc,od,an,GX,kV,B_,pm,y_,ct,a,rfl,l,c,k⟩:=HA.ex;exact λs v=>.of_eq rfl
 have u:=HA.def_ (ps:=["_law_script"]) X G λ_ _ _ _ _ _=>us1 λ_=>rfl
 have e:=n.symm.trans u.mgf;cases e;exact⟨m,r,λbase _ _=>F1 (c:=⟨cH,cL,cS,cD⟩) (S:=S) E (Ce o) X G HA (PySem.W.mg_of X G p) b.1.2 b.2 (PySem.W.mg_of X G Ju) d.1.2 d.2 (PySem.W.mg_of X G Jw) f.1.2 f.2 (PySem.W.mg_of X G Jy) g.1.2 g.2 (PySem.W.mg_of X G JA) j.1.2 j.2 hy⟩
end K31
open PySem PySem.W PyProof.Rows L2 DD
theorem PySem.Challenge.cw_notring_k31_least_sets_step_by_step_holds : PySem.Challenge.rw_notring_k31_least_sets_step_by_step.Holds := by
  exact K31.over K31.F2 K31.F3
#print axioms PySem.Challenge.cw_notring_k31_least_sets_step_by_step_holds
