import PyProof.Rows.All
import Wide.All
import KE.KDictOf
import KE.KFromBytes
import KE.LcTurns
import KE.KIsAll
import KE.KItem
import Wide.FinOn
import KE.KNestM
import PySem.Challenge.RW_notring_k53_what_is_no_paper
import Lean
import PyProof.EqAt
import PyProof.EqKinds
import PyProof.TupleCall
import PyProof.DictIter
import PyProof.DictWalks
import PyProof.NeKinds
import PyProof.EnumMake
import PyProof.EnumIter
import PyProof.EnumFor
import PyProof.EnumStmt
import PyProof.Draws
import PyProof.TupleIter
import PyProof.WalksMore
import PyProof.ZipIter
import PyProof.Rows.SetFrom
import PyProof.SetRoads
import PyProof.SumAnyB
import PyProof.Conv_int
import PyProof.Conv_int_bool
import PyProof.ListRange
import PyProof.DictTruth
import PyProof.Rows.SortWalk
import PyProof.Rows.CallKwBuiltin
import PyProof.DefCall
import KE.BitLaws
set_option compiler.extract_closed false
set_option Elab.async false
set_option maxRecDepth 100000
set_option maxHeartbeats 4000000
local macro_rules
 |`(tactic|omega)=>`(tactic|first|assumption|lia|omega (splitDisjunctions:=true))
set_option hygiene false
local macro_rules
 |`('a')=>`((by decide))
 |`('b')=>`((by omega))
 |`('c')=>`((model X.prog X.w))
 |`('d')=>`((openSeen K53.viewQ [] (importedModules PySem.Challenge.pw_notring_k53_what_is_no_paper.main.body) (λs=>xlAt K53.viewQ [] s&&recOk [] s) true (TopT.absF s)))
local macro_rules
 |`('e')=>`((by bv_omega))
 |`('f')=>`((by rfl'))
 |`('g')=>`((ac (F:=[])))
 |`('h')=>`((by ac_rfl))
local macro_rules
 |`('i')=>`((.int ((2 ^ pps.length-1:Nat):Int)))
local macro_rules
 |`(tactic|rw[0])=>`(tactic|(intro X hP hw hK hc i pins s σ H E I hf st hg;subst hP hw hK))
 |`(tactic|rw[1])=>`(tactic|(unfold chkE at h;split at h))
 |`(tactic|rw[2])=>`(tactic|(refine Yb (wpAny_callSpecial?_slot (name:=Str.ofString "__next__") J0.typeIs F.slot_tuple_iterator_next (wpAny_call_entry F.slot_tuple_iterator_next J0.typeIs F.entry_tuple_iterator_next ?_ (F.args_tuple_iterator_next_1 _)));show wpAny _ _ (field (.ref it) 0 >>= _) _ _ s;refine Yb (wpAny_field ho hd (x:=.ref t) rfl ?_);show wpAny _ _ (if(Value.ref t==Value.none)=true then _ else _) _ _ s;rw[if_neg (show ¬((Value.ref t==Value.none)=true) from YC)];show wpAny _ _ (field (.ref it) 1 >>= _) _ _ s;refine Yb (wpAny_field ho hd (x:=.int i 0) rfl ?_);show wpAny _ _ (seqItems? (.ref t) >>= _) _ _ s;refine Yb (wpAny_seqItems T8 T9 ?_)))
set_option bootstrap.genMatcherCode false
set_option genSizeOfSpec false
local macro_rules
 |`(command|def $i:declId $s:optDeclSig $v:declVal)=>`(command|noncomputable def $i:declId $s:optDeclSig $v:declVal)
 |`(command|abbrev $i:declId $s:optDeclSig $v:declVal)=>`(command|noncomputable abbrev $i:declId $s:optDeclSig $v:declVal)
def Yb:=@PySem.wpAny_bind
def Yc:=@PySem.wpAny_pure
def Yd:=@PySem.Heap.get?_push_of_some
def Ye:=@PySem.Heap.lt_size
def Yg:=@PySem.Heap.get?_push_size
def Yh:=@False.elim
def Yi:=@Option.some.inj
def Yj:=@PySem.wpAny_holding
def Yk:=@PySem.wpAny_standAt
abbrev Za:=PySem.W.Frag
abbrev Zb:=PySem.Value->PySem.Shared->Prop
abbrev Zc:=List (PySem.Addr×PySem.Obj)
abbrev Zd:=List PySem.Value
abbrev Ze:=PySem.Str->Option PySem.Value
abbrev Zf:=List PySem.Str
abbrev Zg:=List PySem.Expr
abbrev Zh:=List PySem.Addr
abbrev Zi:=List Int
abbrev Zj:=List Nat
abbrev Zk:=PySem.Value->PySem.Value->PySem.Sem PySem.Value
abbrev Zl:=Array PySem.Value
abbrev Zm:=Option PySem.Addr
abbrev Zn:=Array (Option PySem.Value)
abbrev Zo:=Unit->PySem.Shared->Prop
abbrev Zp:=List (Nat×Nat)
abbrev Zq:=Option Int
abbrev Zr:=List (PySem.Str×PySem.Addr)
abbrev Zs:=List (Bool×Int)
abbrev Zt:=List (List PySem.Addr)
abbrev Zu:=List PySem.Stmt
abbrev Zv:=PySem.FuncData
abbrev Zw:=PySem.Program
abbrev Zx:=Option PySem.Value
local macro_rules
  | `(tactic| rfl') => `(tactic| decide +kernel)
def XA:=@List.replicate_succ
def XB:=@List.flatten_cons
def XC:=@Array.getElem?_toList
theorem XD{α}(l:List α):[]++l=l:=rfl
def XE:=@Bool.false_eq_true
def XF:=@beq_self_eq_true
def XG:=@List.find?_cons
def XH:=@List.any_cons
def XI:=@Nat.lt_of_le_of_lt
def XJ:=@List.lookup_cons
def XM:=@List.all_eq_true
def XN:=@List.mem_singleton
def XO:=@of_decide_eq_true
def XQ:=@List.all_cons
def XR:=@decide_eq_true_eq
def XS:=@List.getElem?_of_mem
def XT:=@Bool.or_eq_true
def XU:=@List.filter_cons
def XV:=@List.mem_map
def XW:=@List.getD_cons_zero
def XX:=@List.getD_cons_succ
def XY:=@Nat.eq_of_testBit_eq
def XZ:=@Nat.testBit_or
def YA:=@List.mem_append
def YB:=@List.getElem?_eq_some_iff
def YC:=@Bool.false_ne_true
theorem YD(b):(false&&b)=false:=rfl
def YE:=@Nat.le_refl
def YF:=@List.mem_append_right
def YG:=@List.size_toArray
theorem YH{α}{a:α}{l}:(a::l).length=l.length+1:=rfl
theorem YJ{α β}{f:α→β}{a l}:(a::l).map f=f a::l.map f:=rfl
def YK:=@Nat.lt_succ_self
def YL:=@Nat.zero_le
def YM:=@Nat.le_succ
def YN:=@List.nodup_cons
def YQ:=@Option.isSome_iff_exists
def YS:=@List.length_take
def YT:=@List.mem_of_getElem?
theorem YU{α}:([]:List α).length=0:=rfl
def YV:=@decide_eq_true
def YW:=@Int.toNat_natCast
def YX:=@List.length_drop
def YY:=@Bool.and_eq_true
theorem YZ{α β}{f:α→β}:[].map f=[]:=rfl
def ZA:=@List.append_nil
def ZC:=@List.getElem?_eq_getElem
def ZD:=@List.getElem?_append_left
def ZE:=@List.length_map
def ZF:=@List.getElem?_map
def ZG:=@List.getElem?_append_right
def ZH:=@List.getElem?_eq_none
def ZI:=@List.length_range
def ZJ:=@List.length_append
def ZK:=@List.map_append
def ZL:=@List.map_map
def ZM:=@List.map_congr_left
def ZN:=@Option.map_eq_some_iff
def ZP:=@decide_eq_false
def ZQ:=@beq_eq_false_iff_ne
def ZR:=@Nat.lt_of_lt_of_le
def ZS:=@Nat.lt_irrefl
def ZT:=@Nat.ne_of_lt
def ZU:=@List.mem_filter
def ZV:=@List.mem_range
def ZW:=@Nat.le_trans
def ZX:=@List.mem_cons_self
def ZY:=@List.mem_cons_of_mem
def ZZ:=@List.mem_cons
namespace TopT
open PySem PySem.W PyProof.Rows
def mq:List Obj->Nat->BT->Option (BT×Nat)
 |[],n,T=>some (T,n)
 |o::r,n,T=>match((T.ins n o).get n).isSome with
  |true=>mq r (n+1) (T.ins n o)
  |false=>none
theorem vQ(a:Life):∀{os:List Obj}{n n':Nat}{T b:BT},mq os n T=some (b,n')->absHeap b n' a=⟨((absHeap T n a).objs.toList++os).toArray,a⟩
 |[],n,n',T,b,h=>by
  cases h;rw[ZA];rfl
 |o::r,n,n',T,b,h=>by
  unfold mq at h;cases g:((T.ins n o).get n).isSome with
  |false=>rw[g] at h;cases h
  |true=>
   rw[g] at h;have c:=vQ a (os:=r) h;rw[c,absHeap_ins g];show Heap.mk (((absHeap T n a).objs.push o).toList++r).toArray a=_;rw[Array.toList_push,List.append_assoc];rfl
def qX(b:String->Option Builtin)(p:Zw)(w:World)(c:Nat)(a:Zx):Nat->SharedT->Thread->Option SharedT
 |0,_,_=>none
 |n+1,s,t=>match through t with
  |true=>some s
  |false=>match stepOk c a t with
   |false=>none
   |true=>match stepT (denote b) p w s t with
    |some (d,t')=>qX b p w c a n d t'
    |none=>none
theorem vR{b:String->Option Builtin}{p:Zw}{w:World}{c:Nat}{a:Zx}:∀{n:Nat}{s d:SharedT}{t:Thread},qX b p w c a n s t=some d->topRun b p w c a n s.abs t=some d.abs
 |0,_,_,_,h=>by cases h
 |n+1,s,d,t,h=>by
  unfold qX at h;unfold topRun;cases ht:through t with
  |true=>rw[ht] at h;cases h;rfl
  |false=>
   rw[ht] at h;cases hk:stepOk c a t with
   |false=>rw[hk] at h;cases h
   |true=>
    rw[hk] at h;cases hs:stepT (denote b) p w s t with
    |none=>rw[hs] at h;cases h
    |some x=>
     obtain⟨s2,f⟩:=x;rw[hs] at h
     have:=stepT_spec hs
     simp only[this];exact vR h
def getT(s:SharedT)(a:Addr):Option Obj:=match Nat.blt a s.n with
 |true=>alive ((s.tree.get a).getD default)
 |false=>none
theorem Fo(s:SharedT)(a:Addr):s.abs.heap.get? a=getT s a:=by
 show(absHeap s.tree s.n s.life).get? a=_;unfold getT Heap.get?;rw[absHeap_at];cases e:Nat.blt a s.n with
 |true=>
  have lt:a<s.n:=Nat.le_of_ble_eq_true e;rw[if_pos lt];obtain⟨c,d,b,sl⟩:=(s.tree.get a).getD default;cases b<;>rfl
 |false=>
  have f:¬a<s.n:=λh=>by
   have:Nat.blt a s.n=true:=Nat.ble_eq_true_of_le h
   rw[this] at e;cases e
  rw[if_neg f]
def lft:BT->BT
 |.nil=>.nil
 |.node _ l _=>l
def rgt:BT->BT
 |.nil=>.nil
 |.node _ _ r=>r
def rt:BT->Obj
 |.nil=>default
 |.node v _ _=>v
def atL(ts:List BT)(m i:Nat):Obj:=(((ts[i%m]?).getD .nil).get (i / m)).getD default
def lv:Nat->List BT->Nat->Nat->List Obj
 |0,ts,m,n=>(List.range n).map (atL ts m)
 |k+1,ts,m,n=>match Nat.ble n m with
  |true=>(ts.take n).map rt
  |false=>ts.map rt++lv k (ts.map lft++ts.map rgt) (m+m) (n-m)
theorem Hb(t:BT):(t.get 0).getD default=rt t:=by cases t<;>rfl
theorem Fp(t:BT)(j:Nat):t.get (2*j+1)=(lft t).get j:=by
 cases t with
 |nil=>rfl
 |node v l r=>rw[BT.get_node,if_neg 'b',if_pos 'b',show(2*j+1) / 2=j by omega];rfl
theorem Du(t:BT)(j:Nat):t.get (2*j+2)=(rgt t).get j:=by
 cases t with
 |nil=>rfl
 |node v l r=>rw[BT.get_node,if_neg 'b',if_neg 'b',show(2*j+2) / 2-1=j by omega];rfl
theorem s9{ts:List BT}{m r:Nat}(k:Nat)(a:r<m):atL ts m (m*k+r)=((ts[r]?.getD .nil).get k).getD default:=by
 unfold atL;rw[Nat.mul_add_mod,Nat.mod_eq_of_lt a,Nat.mul_add_div 'b',Nat.div_eq_of_lt a,Nat.add_zero]
theorem Hc{ts:List BT}{m:Nat}(h:ts.length=m)(hm:0<m)(i:Nat):atL ts m (m+i)=atL (ts.map lft++ts.map rgt) (m+m) i:=by
 have a:i%m<m:=Nat.mod_lt _ hm;have d:=Nat.div_add_mod i m;generalize i%m=r at *;generalize i / m=k at *;subst d;obtain⟨t,e0⟩:∃t,ts[r]?=some t:=⟨_,ZC (h▸a)⟩;rw[show m+(m*k+r)=m*(k+1)+r by rw[Nat.mul_add];omega,s9 _ a,e0];rcases Nat.mod_two_eq_zero_or_one k with e | e
 ·obtain⟨j,rfl⟩:∃j,k=2*j:=⟨k / 2,by omega⟩
  rw[show m*(2*j)+r=(m+m)*j+r by rw[←Nat.mul_assoc,Nat.mul_two],s9 _ 'b',ZD (by rw[ZE];omega),ZF,e0];exact congrArg (·.getD default) (Fp _ j)
 ·obtain⟨j,rfl⟩:∃j,k=2*j+1:=⟨k / 2,by omega⟩
  rw[show m*(2*j+1)+r=(m+m)*j+(m+r) by rw[Nat.mul_add,←Nat.mul_assoc,Nat.mul_two];omega,s9 _ 'b',ZG (by rw[ZE];omega),ZE,h,Nat.add_sub_cancel_left,ZF,e0];exact congrArg (·.getD default) (Du _ j)
theorem E3:∀(k:Nat){ts:List BT}{m:Nat}(n:Nat),ts.length=m->0<m->lv k ts m n=(List.range n).map (atL ts m)
 |0,_,_,_,_,_=>rfl
 |k+1,ts,m,n,h,hm=>by
  have hd:∀j,j<m->atL ts m j=rt (ts[j]?.getD .nil):=λj a=>by
   rw[show j=m*0+j by omega,s9 _ a,Hb];simp
  show(match Nat.ble n m with | true=>_ | false=>_)=_;cases e:Nat.ble n m with
  |true=>
   have hn:n<=m:=Nat.le_of_ble_eq_true e;apply List.ext_getElem?;intro j;show((ts.take n).map rt)[j]?=_;rw[ZF,ZF,List.getElem?_take];by_cases a:j<n
   ·rw[if_pos a,List.getElem?_range a,ZC 'b']
    show some (rt ts[j])=some (atL ts m j);rw[hd j 'b',ZC 'b'];rfl
   ·rw[if_neg a,ZH (by rw[ZI];omega)];rfl
  |false=>
   have hn:m<n:=Nat.lt_of_not_le λq=>by rw[Nat.ble_eq_true_of_le q] at e;cases e
   show ts.map rt++lv k (ts.map lft++ts.map rgt) (m+m) (n-m)=_;rw[E3 k (n-m) (by rw[ZJ,ZE,ZE,h]) 'b',show n=m+(n-m) by omega,List.range_add,ZK,ZL];congr 1
   ·apply List.ext_getElem?
    intro j;rw[ZF,ZF];by_cases a:j<m
    ·rw[List.getElem?_range a,ZC 'b']
     show some (rt ts[j])=some (atL ts m j);rw[hd j a,ZC 'b'];rfl
    ·rw[ZH 'b',ZH (by rw[ZI];omega)];rfl
   ·rw[show m+(n-m)-m=n-m by omega]
    exact ZM λi _=>(Hc h hm i).symm
theorem list_eq(t:BT)(n:Nat):t.list n=lv 20 [t] 1 n:=by
 rw[E3 (ts:=[t]) (m:=1) 20 n rfl 'a'];unfold BT.list;apply ZM;intro i _;show _=(((([t]:List BT)[i%1]?).getD .nil).get (i / 1)).getD default;rw[Nat.mod_one,Nat.div_one];rfl
def absF(s:SharedT):Shared:=⟨⟨(lv 20 [s.tree] 1 s.n).toArray,s.life⟩,s.gens,s.drawn,s.toks,s.os⟩
theorem zC(s:SharedT):s.abs=absF s:=by
 unfold SharedT.abs absHeap absF;rw[list_eq]
def runC{a:Type}(p:Zw)(w:World)(N:Nat)(C:Shared->SharedT->a):Option a:=(fencedOpening treeTable p w N).bind λs₀=>match s₀.heap.isNs mainGlobals&&s₀.gens.size==0 with
 |true=>match mq s₀.heap.objs.toList 0 .nil with
  |some (T,n)=>(qX treeTable p w s₀.heap.objs.size (s₀.heap.nsMap mainGlobals "__annotations__") N ⟨T,n,s₀.heap.life,s₀.gens,s₀.drawn,s₀.toks,s₀.os⟩ (topStub p)).map (C s₀)
  |none=>none
 |false=>none
theorem Dv{a:Type}{p:Zw}{w:World}{N:Nat}(C:Shared->SharedT->a):runC p w N C=(runC p w N Prod.mk).map λx=>C x.1 x.2:=by
 unfold runC;cases fencedOpening treeTable p w N with
 |none=>rfl
 |some s₀=>
  show(match s₀.heap.isNs mainGlobals&&s₀.gens.size==0 with | true=>_ | false=>_)=Option.map _ (match s₀.heap.isNs mainGlobals&&s₀.gens.size==0 with | true=>_ | false=>_);cases s₀.heap.isNs mainGlobals&&s₀.gens.size==0 with
  |false=>rfl
  |true=>
   show(match mq s₀.heap.objs.toList 0 .nil with | some (T,n)=>_ | none=>_)=Option.map _ (match mq s₀.heap.objs.toList 0 .nil with | some (T,n)=>_ | none=>_);cases mq s₀.heap.objs.toList 0 .nil with
   |none=>rfl
   |some x=>
    obtain⟨T,n⟩:=x;show Option.map (C s₀) _=Option.map _ (Option.map (Prod.mk s₀) _);rw[Option.map_map];rfl
def wZ(p:Zw)(s₀ s:Shared):Bool:=staticsOk (importedModules p.main.body) s₀.heap s.heap&&namesBound p s.heap&&gensDone s&&laidKept s₀.heap s.heap
theorem Fq{p:Zw}{w:World}{N:Nat}{s₀:Shared}{s:SharedT}(h:runC p w N Prod.mk=some (s₀,s))(k:wZ p s₀ (absF s)=true):openEnds treeTable p w N=some (absF s):=by
 unfold runC at h;obtain⟨b,c,h⟩:=Option.bind_eq_some_iff.mp h;cases g:(b.heap.isNs mainGlobals&&b.gens.size==0) with
 |false=>rw[g] at h;cases h
 |true=>
  rw[g] at h;cases e:mq b.heap.objs.toList 0 .nil with
  |none=>rw[e] at h;cases h
  |some x=>
   obtain⟨T,n⟩:=x;rw[e] at h;obtain⟨j,d,f⟩:=ZN.mp h;cases f;have a:(⟨T,n,s₀.heap.life,s₀.gens,s₀.drawn,s₀.toks,s₀.os⟩:SharedT).abs=s₀:=by
    show Shared.mk (absHeap T n s₀.heap.life) _ _ _ _=_;rw[vQ s₀.heap.life e];rfl
   have r:=vR d;rw[a,zC] at r;unfold openEnds topFrom;rw[c];show(match s₀.heap.isNs mainGlobals&&s₀.gens.size==0 with | true=>_ | false=>_)=_;rw[g];show(topRun treeTable p w s₀.heap.objs.size (s₀.heap.nsMap mainGlobals "__annotations__") N s₀ (topStub p)).bind _=_;rw[r];show(match wZ p s₀ (absF s) with | true=>some (absF s) | false=>none)=_;rw[k]
theorem Jm{p q:Zw}{loose:Zf}{Xt:Shared->Bool}{N:Nat}{b:Bool}{K:Params->Frag}{as:Zh}{e:∀P,as=(K P).map (·.1)}
  (k:∀w,runC p w N (λs₀ s=>(wZ p s₀ (absF s),(openSeen q loose (importedModules p.main.body) Xt b (absF s)).1,(openSeen q loose (importedModules p.main.body) Xt b (absF s)).2.1))=some (true,expectedOf q,bltViewBooted))
  (c:∀w,runC p w N (λ_ s=>(openSeen q loose (importedModules p.main.body) Xt b (absF s)).2.2.1)=some true)
  (d:∀w,runC p w N (λ_ s=>((openSeen q loose (importedModules p.main.body) Xt b (absF s)).2.2.2.1,(openSeen q loose (importedModules p.main.body) Xt b (absF s)).2.2.2.2.1))=some (true,pinGoodD (drecsOf q)))
  (f:∀w,runC p w N (λ_ s=>(openSeen q loose (importedModules p.main.body) Xt b (absF s)).2.2.2.2.2.1)=some (plainGoodE q (looseW q loose)))
  (g:∀w,runC p w N (λ_ s=>(openSeen q loose (importedModules p.main.body) Xt b (absF s)).2.2.2.2.2.2)=some (plainGoodD q loose,wideGood q,clsGoodW q loose))
  (j:∀w:World,runC p w N (λ_ s=>as.map (getT s))=some ((K w.params).map (λp=>some p.2))):LeftO p q loose Xt (Hook.obs (kHook K as e)) (Hook.val (kHook K as e)) N b:=λw=>by
 have k:=k w;have c:=c w;have d:=d w;have j:=j w;have f:=f w;have g:=g w;rw[Dv] at k c d j f g;obtain⟨⟨s₀,s⟩,m,n⟩:=ZN.mp k;rw[m] at c d j f g;obtain⟨o,l⟩:=Prod.mk.inj n;obtain⟨l,r⟩:=Prod.mk.inj l;obtain⟨u,y⟩:=Prod.mk.inj (Yi d);rw[Fq m o];have z:as.map (absF s).heap.get?=as.map (getT s):=ZM λa _=>by rw[←zC];exact Fo s a
 exact congrArg some (Prod.ext (Prod.ext l (Prod.ext r (Prod.ext (Yi c) (Prod.ext u (Prod.ext y (Prod.ext (Yi f) (Yi g))))))) (z.trans (Yi j)))
end TopT
section
open PySem PySem.W PyProof.Rows
def K53.viewQ:Program:=PySem.W.view PySem.Challenge.pw_notring_k53_what_is_no_paper [0,2,3,4,5,6,7,9,10,11,12,13,14,15,16,17,19,20,21,22,23,24,26,27,28,29,31,32,33,34,35,36,37,38,39,40,42,43,45,46,47,48,49,50,51,52,53,54,55,56,57,59,60,61,62,63,64,65,66,67,68,69]
set_option maxHeartbeats 0 in
theorem K53.said:PySem.Challenge.rw_notring_k53_what_is_no_paper.wellSaid=true:=by kernel_rfl
set_option maxHeartbeats 0 in
theorem K53.seen1:∀w:World,TopT.runC PySem.Challenge.pw_notring_k53_what_is_no_paper w 13100 (λs₀ s=>(TopT.wZ PySem.Challenge.pw_notring_k53_what_is_no_paper s₀ (TopT.absF s),'d'.1,'d'.2.1))=some (true,expectedOf K53.viewQ,bltViewBooted):=by
 intro w;kernel_rfl
set_option maxHeartbeats 0 in
theorem K53.seen2:∀w:World,TopT.runC PySem.Challenge.pw_notring_k53_what_is_no_paper w 13100 (λ_ s=>'d'.2.2.1)=some true:=by
 intro w;kernel_rfl
set_option maxHeartbeats 0 in
theorem K53.seen3:∀w:World,TopT.runC PySem.Challenge.pw_notring_k53_what_is_no_paper w 13100 (λ_ s=>('d'.2.2.2.1,'d'.2.2.2.2.1))=some (true,pinGoodD (drecsOf K53.viewQ)):=by
 intro w;kernel_rfl
set_option maxHeartbeats 0 in
theorem K53.seen5:∀w:World,TopT.runC PySem.Challenge.pw_notring_k53_what_is_no_paper w 13100 (λ_ s=>'d'.2.2.2.2.2.1)=some (plainGoodE K53.viewQ (looseW K53.viewQ [])):=by
 intro w;kernel_rfl
set_option maxHeartbeats 0 in
theorem K53.seen6:∀w:World,TopT.runC PySem.Challenge.pw_notring_k53_what_is_no_paper w 13100 (λ_ s=>'d'.2.2.2.2.2.2)=some (plainGoodD K53.viewQ [],wideGood K53.viewQ,clsGoodW K53.viewQ []):=by
 intro w;kernel_rfl
end
-- CHANGE: your row's module here,as the last of these a_
set_option linter.all false
namespace L2
open PySem PySem.Spec PyProof.Rows
abbrev Key:=Sum Int Str
def oI:Key->Value->Bool
 |.inl k,v=>Value.isInt k v
 |.inr x,v=>Value.isStrOf x v
def keyH(w:World):Key->Int
 |.inl k=>hashInt k
 |.inr x=>hashStr w x
theorem bI:∀{k:Key}{v:Value},oI k v=true->(∃i t,k=Sum.inl i/\v=Value.int i t)\/(∃x t,k=Sum.inr x/\v=Value.str x t)
 |.inl i,v,h=>by
  obtain⟨t,e⟩:=Value.isInt_shape (k:=i) (v:=v) h;exact .inl ⟨i,t,rfl,e⟩
 |.inr x,v,h=>by
  obtain⟨t,e⟩:=Value.isStrOf_shape (x:=x) (v:=v) h;exact .inr ⟨x,t,rfl,e⟩
theorem BD(i:Int)(t:Tok):oI (.inl i) (.int i t)=true:=by simp[oI,Value.isInt]
theorem BE(x:Str)(t:Tok):oI (.inr x) (.str x t)=true:=by simp[oI,Value.isStrOf]
theorem Hd(a b:Int):decide ((Sum.inl a:Key)=Sum.inl b)=(a==b):=by
 by_cases e:a=b
 ·subst e;simp
 ·have h:¬(Sum.inl a:Key)=Sum.inl b:=λq=>e (Sum.inl.inj q)
  rw[ZP h];exact(ZQ.mpr e).symm
theorem He(a b:Str):decide ((Sum.inr a:Key)=Sum.inr b)=decide (a=b):=by
 by_cases e:a=b
 ·subst e;simp
 ·have h:¬(Sum.inr a:Key)=Sum.inr b:=λq=>e (Sum.inr.inj q)
  rw[ZP h,ZP e]
theorem Hf(a:Int)(b:Str):decide ((Sum.inl a:Key)=Sum.inr b)=false:=ZP (λq=>nomatch q)
theorem Hg(a:Str)(b:Int):decide ((Sum.inr a:Key)=Sum.inl b)=false:=ZP (λq=>nomatch q)
def bx(prog:Zw)(w:World):PySem.KeyKind prog w Key where
 is:=oI
 hash:=keyH w
 inj:=λv a b ha hb=>by
  rcases bI ha with⟨i,t,rfl,rfl⟩ | ⟨x,t,rfl,rfl⟩
  ·rcases bI hb with⟨j,u,rfl,e⟩ | ⟨y,u,rfl,e⟩
   ·injection e with e1 _;rw[e1]
   ·exact nomatch e
  ·rcases bI hb with⟨j,u,rfl,e⟩ | ⟨y,u,rfl,e⟩
   ·exact nomatch e
   ·injection e with e1 _;rw[e1]
 byValue:=λk v h=>by
  rcases bI h with⟨i,t,rfl,rfl⟩ | ⟨x,t,rfl,rfl⟩<;>rfl
 pyHash:=λc h=>by
  rcases bI c with⟨i,t,rfl,rfl⟩ | ⟨x,t,rfl,rfl⟩
  ·exact wpAny_pyHash_int h
  ·exact wpAny_pyHash_str h
 eqBool:=λhu c h=>by
  rcases bI hu with⟨i,t,rfl,rfl⟩ | ⟨x,t,rfl,rfl⟩
  ·rcases bI c with⟨j,u,rfl,rfl⟩ | ⟨y,u,rfl,rfl⟩
   ·rw[Hd] at h;exact wpAny_eqBool_int h
   ·rw[Hf] at h;exact SeqAt.EqAt.int_str i t y u _ _ _ _ h
  ·rcases bI c with⟨j,u,rfl,rfl⟩ | ⟨y,u,rfl,rfl⟩
   ·rw[Hg] at h;exact SeqAt.EqAt.str_int x t j u _ _ _ _ h
   ·rw[He] at h;exact wpAny_eqBool_str h
 «strs»:=λk x t v h=>by
  rcases bI h with⟨i,u,rfl,e⟩ | ⟨y,u,rfl,e⟩
  ·exact nomatch e
  ·injection e with e1 _
   subst e1;cases v<;>rfl
theorem As(prog:Zw)(w:World)(k:Key)(v:Value):(bx prog w).is k v=oI k v:=rfl
theorem y8(prog:Zw)(w:World)(i:Int)(t:Tok):(bx prog w).is (.inl i) (.int i t)=true:=BD i t
theorem y9(prog:Zw)(w:World)(x:Str)(t:Tok):(bx prog w).is (.inr x) (.str x t)=true:=BE x t
inductive V where
 |non | bl (b:Bool) | int (i:Int) | str (x:Str) | byt (b:Array UInt8) | flt (b:UInt64) | ref (a:Addr) | ty (n:String)
 deriving DecidableEq
def RelV:V->Value->Prop
 |.non,u=>u=Value.none
 |.bl b,u=>u=Value.bool b
 |.int i,u=>∃t,u=Value.int i t
 |.str x,u=>∃t,u=Value.str x t
 |.byt b,u=>∃t,u=Value.bytes b t
 |.flt b,u=>∃t,u=Value.float b t
 |.ref a,u=>u=Value.ref a
 |.ty n,u=>u=Value.type n
abbrev Vals:List V->List Value->Prop:=Paired RelV
theorem Vals.length{xs:List V}{us:Zd}(r:Vals xs us):xs.length=us.length:=Paired.length r
theorem Vals.get:∀{xs:List V}{us:Zd}{i:Nat}{x:V},Vals xs us->xs[i]?=some x->∃u,us[i]?=some u/\RelV x u
 |_,_,_,_,.nil,e=>by simp at e
 |_,_,0,_,.cons r _,e=>by simp at e;subst e;exact⟨_,rfl,r⟩
 |_,_,i+1,x,.cons _ t,e=>by
  obtain⟨u,a,b⟩:=Vals.get (i:=i) (x:=x) t (by simpa using e);exact⟨u,by simpa using a,b⟩
theorem Vals.set{x:V}{u:Value}(r:RelV x u):∀{xs:List V}{us:Zd}(i:Nat),Vals xs us->Vals (xs.set i x) (us.set i u)
 |_,_,_,.nil=>.nil
 |_,_,0,.cons _ t=>.cons r t
 |_,_,i+1,.cons q t=>.cons q (Vals.set r i t)
theorem Vals.append{xs ys:List V}{us a:Zd}(h:Vals xs us)(s:Vals ys a):Vals (xs++ys) (us++a):=by
 induction h with
 |nil=>exact s
 |cons r _ b=>exact .cons r b
theorem Vals.take:∀{xs:List V}{us:Zd}(n:Nat),Vals xs us->Vals (xs.take n) (us.take n)
 |_,_,0,_=>.nil
 |_,_,_+1,.nil=>.nil
 |_,_,n+1,.cons r t=>.cons r (Vals.take n t)
theorem Vals.drop:∀{xs:List V}{us:Zd}(n:Nat),Vals xs us->Vals (xs.drop n) (us.drop n)
 |_,_,0,r=>r
 |_,_,_+1,.nil=>.nil
 |_,_,n+1,.cons _ t=>Vals.drop n t
def RelO:Option V->Option Value->Prop
 |some v,some u=>RelV v u
 |none,none=>True
 |_,_=>False
def KV{a:Type}:List (a×V)->List (a×Value)->Prop:=Paired λ(p:a×V) (q:a×Value)=>p.1=q.1/\RelV p.2 q.2
def kV:Key->V
 |.inl i=>.int i
 |.inr x=>.str x
inductive HO where
  /-- a list -/
  | lst (xs:List V)
  /-- a tuple (never changes) -/
  | tup (xs:List V)
  /-- a dict whose keys are ints and texts; one whose keys are tuples of ints and texts (the empty one is both) -/
  | dK (b_:List (Key × V)) | dT (b_:List (List Key × V))
  /-- a set of ints: d_ members,d_ size -/
  | set (S:Int->Bool) (n:Nat)
  /-- an instance of the class at C,d_ dict at dx,d_ attributes -/
  | ins (C dx:Addr) (fs:List (Str × V))
  /-- the dict of the instance at x -/
  | own (x:Addr)
  /-- the dict of an exception -/
  | xd (fs:List (Str × V))
  /-- a bound method,f of x -/
  | met (f x:Addr)
  /-- a range object lo,lo + 1,.. below hi -/
  | rng (lo hi:Int)
  /-- a thing that is known to the object (the script; a dict while a loop walks it): read,never written while it is so -/
  | frz (o:Obj) (u:HO)
  /-- a code object's table -/
  | tbl (ps:Zl)
  /-- any other thing,by what is true of d_ one object (a def of T_ own: SetO a S n:=HO.ext λh=>..) -/
  | ext (φ:Heap->Prop)
abbrev Hp:=Addr->Option HO
def upd(H:Hp)(a:Addr)(o:HO):Hp:=λb=>if b=a then some o else H b
theorem aG{H:Hp}{a:Addr}{o:HO}:upd H a o a=some o:=by unfold upd;rw[if_pos rfl]
theorem aK{H:Hp}{a b:Addr}{o:HO}(h:b≠a):upd H a o b=H b:=by unfold upd;rw[if_neg h]
theorem Jn{H:Hp}{a b:Addr}{o u:HO}(h:H a=some o)(h':H b=some u)(d:o≠u):a≠b:=by
 intro e;subst e;rw[h] at h';exact d (Yi h')
theorem bd{H:Hp}{a b:Addr}{o:HO}(h:H a=some o)(h':H b=none):a≠b:=by
 intro e;subst e;rw[h] at h';cases h'
section
variable (P:Zw)(w:World)
def a0(H:Hp)(h:Heap)(a:Addr):HO->Prop
 |.lst xs=>xs.length<=sizeLine/\∃(d_:Zd) (n:Nat),Vals xs d_/\h.get? a=some { cls:=.type "list",data:=.seq d_.toArray n }
 |.tup xs=>xs.length<=sizeLine/\∃d_:List Value,Vals xs d_/\IsTup h a d_.toArray
 |.dK b=>b.length<=sizeLine/\(a==sysModules)=false/\∃vs,KV b vs/\h.DictOf (bx P w) a vs
 |.dT b=>b.length<=sizeLine/\(a==sysModules)=false/\∃xs:List (List Key×Addr×Value),
   Paired (λ(p:List Key×V) (q:List Key×Addr×Value)=>p.1=q.1/\H q.2.1=some (.tup (p.1.map kV))/\RelV p.2 q.2.2) b xs /\
   ∃o es j,h.get? a=some o/\o.ExactDict/\o.data=.dict es j/\es.toList=xs.map (entryOfKey (tupleKind (bx P w)))/\(xs.map (·.1)).Nodup
 |.set S n=>h.SetOf (intKind P w) a S n
 |.ins C dx fs=>H dx=some (.own a)/\fs.length<=1000/\dx≠a/\h.get? a=some (PySem.W.instObj C dx) /\
   ∃mA,h.Ns1 dx mA/\(∀f,RelO (fs.lookup f) (mA f))/\PySem.Within mA (fs.map (·.1))
 |.own _=>∃o,h.get? a=some o
 |.xd fs=>∃mA,h.Ns1 a mA/\∀f,RelO (fs.lookup f) (mA f)
 |.rng lo hi=>∃t u v,h.get? a=some { cls:=.type "range",data:=.fields #[.int lo t,.int hi u,.int 1 v] }
 |.frz o u=>h.get? a=some o/\a0 H h a u
 |.tbl ps=>h.get? a=some { cls:=.none,data:=.fields ps }
 |.met f x=>h.get? a=some (PySem.W.methodObj (.ref f) (.ref x))
 |.ext c=>c h/\(∃o,h.get? a=some o)/\∀d g:Heap,c d->(∀o,d.get? a=some o->g.get? a=some o)->c g
def HOk(H:Hp)(h:Heap):Prop:=∀a o,H a=some o->a0 P w H h a o
end
section
variable {P:Zw}{w:World}{H H':Hp}{h h':Heap}{a:Addr}{o:HO}
theorem a0.lt(x:a0 P w H h a o):a<h.objs.size:=by
 cases o with
 |lst xs=>obtain⟨_,_,_,_,e⟩:=x;exact Ye e
 |tup xs=>obtain⟨_,_,_,p⟩:=x;exact p.lt
 |dK b=>obtain⟨_,_,_,_,o,_,_,e,_⟩:=x;exact Ye e
 |dT b=>obtain⟨_,_,_,_,o,_,_,e,_⟩:=x;exact Ye e
 |set S n=>obtain⟨o,_,_,_,e,_⟩:=x;exact Ye e
 |ins C dx fs=>obtain⟨_,_,_,e,_⟩:=x;exact Ye e
 |own y=>obtain⟨_,e⟩:=x;exact Ye e
 |xd fs=>obtain⟨_,⟨_,_,_,e,_⟩,_⟩:=x;exact Ye e
 |rng lo hi=>obtain⟨_,_,_,e⟩:=x;exact Ye e
 |frz c u=>obtain⟨e,_⟩:=x;exact Ye e
 |tbl ps=>exact Ye (show h.get? a=some _ from x)
 |met f y=>exact Ye (show h.get? a=some _ from x)
 |ext d=>obtain⟨_,⟨_,e⟩,_⟩:=x;exact Ye e
theorem Paired.mapP{c d:Type}{F G:c->d->Prop}{l₁:List c}{g:List d}(h:Paired F l₁ g)(f:∀a b,F a b->G a b):Paired G l₁ g:=by
 induction h with
 |nil=>exact .nil
 |cons r _ j=>exact .cons (f _ _ r) j
theorem a0.stay(x:a0 P w H h a o)(k:∀b u,(b=a\/H b=some (.own a))->h.get? b=some u->h'.get? b=some u)
  (ho:∀b,H b=some (.own a)->H' b=some (.own a)) (ht:∀b xs,H b=some (.tup xs)->H' b=some (.tup xs)):a0 P w H' h' a o:=by
 induction o with
 |lst xs=>obtain⟨z,d_,n,r,e⟩:=x;exact⟨z,d_,n,r,k _ _ (.inl rfl) e⟩
 |tup xs=>obtain⟨z,d_,r,g,e,c⟩:=x;exact⟨z,d_,r,g,k _ _ (.inl rfl) e,c⟩
 |dK l=>obtain⟨z,y,vs,r,g,es,j,e,c⟩:=x;exact⟨z,y,vs,r,g,es,j,k _ _ (.inl rfl) e,c⟩
 |dT l=>
  obtain⟨z,y,xs,r,g,es,j,e,c⟩:=x;exact⟨z,y,xs,Paired.mapP r λp q z=>⟨z.1,ht _ _ z.2.1,z.2.2⟩,g,es,j,k _ _ (.inl rfl) e,c⟩
 |set S n=>obtain⟨g,es,j,t,e,c⟩:=x;exact⟨g,es,j,t,k _ _ (.inl rfl) e,c⟩
 |ins C dx fs=>
  obtain⟨d,z,ne,e,mA,⟨od,es,j,m,c⟩,r⟩:=x;exact⟨ho _ d,z,ne,k _ _ (.inl rfl) e,mA,⟨od,es,j,k _ _ (.inr d) m,c⟩,r⟩
 |own y=>obtain⟨g,e⟩:=x;exact⟨g,k _ _ (.inl rfl) e⟩
 |xd fs=>obtain⟨mA,⟨od,es,j,e,c⟩,r⟩:=x;exact⟨mA,⟨od,es,j,k _ _ (.inl rfl) e,c⟩,r⟩
 |rng lo hi=>obtain⟨t,u,v,e⟩:=x;exact⟨t,u,v,k _ _ (.inl rfl) e⟩
 |frz g u A=>obtain⟨e,q⟩:=x;exact⟨k _ _ (.inl rfl) e,A q⟩
 |tbl ps=>
  have e:h.get? a=some { cls:=.none,data:=.fields ps }:=x;show h'.get? a=some { cls:=.none,data:=.fields ps };exact k a _ (.inl rfl) e
 |met f y=>
  have e:h.get? a=some (PySem.W.methodObj (.ref f) (.ref y)):=x;show h'.get? a=some (PySem.W.methodObj (.ref f) (.ref y));exact k a _ (.inl rfl) e
 |ext B=>obtain⟨p,⟨o,e⟩,st⟩:=x;exact⟨st _ _ p λo q=>k _ _ (.inl rfl) q,⟨o,k _ _ (.inl rfl) e⟩,st⟩
theorem HOk.lt(x:HOk P w H h)(e:H a=some o):a<h.objs.size:=(x a o e).lt
theorem HOk.fresh(x:HOk P w H h)(e:h.objs.size<=a):H a=none:=by
 cases q:H a with
 |none=>rfl
 |some u=>exact absurd (ZR (x.lt q) e) (ZS _)
theorem HOk.kept(x:HOk P w H h)(k:∀b u,h.get? b=some u->h'.get? b=some u):HOk P w H h':=λa o e=>
 (x a o e).stay (λb u _ q=>k b u q) (λ_ q=>q) λ_ _ q=>q
theorem HOk.laid(x:HOk P w H h)(k:∀b u,h.get? b=some u->h'.get? b=some u)(hp:h.objs.size<=a)(new:a0 P w (upd H a o) h' a o):HOk P w (upd H a o) h':=λb u e=>by
 have hn:=x.fresh hp;by_cases hb:b=a
 ·subst hb;rw[aG] at e;cases e;exact new
 ·rw[aK hb] at e
  exact(x b u e).stay (λc v _ q=>k c v q) (λc q=>by rw[aK (bd q hn)];exact q) λc xs q=>by rw[aK (bd q hn)];exact q
end
def Rd(H:Hp)(a:Addr)(u:HO):Prop:=H a=some u \/ ∃o,H a=some (.frz o u)
theorem Rd.ok{P:Zw}{w:World}{H:Hp}{h:Heap}{a:Addr}{u:HO}(r:Rd H a u)(x:HOk P w H h):a0 P w H h a u:=by
 rcases r with r | ⟨o,r⟩
 ·exact x a u r
 ·obtain⟨_,q⟩:=x a _ r
  exact q
def Mut:Option HO->Prop
 |some (.lst _)=>True
 |some (.dK _)=>True
 |some (.dT _)=>True
 |some (.set _ _)=>True
 |some (.ins _ _ _)=>True
 |some (.ext _)=>True
 |_=>False
section
variable {P:Zw}{w:World}{H:Hp}{h h':Heap}{x e:Addr}{o':HO}
theorem HOk.write(ok:HOk P w H h)(mu:Mut (H x))(d:e=x\/H e=some (.own x))(k:∀b u,b≠e->h.get? b=some u->h'.get? b=some u)(j:∃u,h'.get? e=some u)
  (new:a0 P w (upd H x o') h' x o'):HOk P w (upd H x o') h':=λb u q=>by
 have f:∀c y,H c=some (.own y)->c≠x:=λc y r z=>by subst z;rw[r] at mu;exact mu
 have l:∀c xs,H c=some (.tup xs)->c≠x:=λc xs r z=>by subst z;rw[r] at mu;exact mu
 by_cases hb:b=x
 ·subst hb;rw[aG] at q;cases q;exact new
 ·rw[aK hb] at q
  by_cases a:b=e
  ·have g:H b=some (.own x):=by
    rcases d with z | z
    ·exact absurd (a.trans z) hb
    ·rw[a];exact z
   rw[q] at g;cases g;obtain⟨v,m⟩:=j;exact⟨v,by rw[a];exact m⟩
  ·refine(ok b u q).stay (λc v hc r=>k c v ?_ r) (λc r=>by rw[aK (f c b r)];exact r) λc xs r=>by rw[aK (l c xs r)];exact r
   rcases hc with rfl | hc
   ·exact a
   ·rintro rfl
    rcases d with z | z
    ·exact f c b hc z
    ·rw[hc] at z;cases z;exact hb rfl
end
structure Un (fs ex:Zh) (H H':Hp) (h h':Heap):Prop where
 keep:∀b o,h.get? b=some o->H b=none->b∉fs->b∉ex->h'.get? b=some o
 slot:∀b o,h.get? b=some o->H b=none->b∈fs->b∉ex->∃sl,h'.get? b=some { o with slots:=sl }
 free:∀b o,h.get? b=some o->H b=none->b∉ex->H' b=none
 there:∀b o,h.get? b=some o->b∉ex->∃o',h'.get? b=some o'
 tups:∀b xs,H b=some (.tup xs)->H' b=some (.tup xs)
 frzs:∀b o u,H b=some (.frz o u)->H' b=some (.frz o u)
 tbls:∀b ps,H b=some (.tbl ps)->∃more,H' b=some (.tbl (ps++more))
section
variable {fs MU ex Xr:Zh}{H H1 H2:Hp}{h h1 h2 h':Heap}{a x e:Addr}{o:HO}
theorem Un.any(u:Un fs ex H H1 h h1){b:Addr}{c:Obj}(q:h.get? b=some c)(n:H b=none)(hx:b∉ex):∃sl,h1.get? b=some { c with slots:=sl }:=by
 by_cases hb:b∈fs
 ·exact u.slot b c q n hb hx
 ·exact⟨c.slots,u.keep b c q n hb hx⟩
theorem Un.kept(k:∀b u,h.get? b=some u->h'.get? b=some u):Un fs ex H H h h':=
 ⟨λb c q _ _ _=>k b c q,λb c q _ _ _=>⟨c.slots,k b c q⟩,λ_ _ _ n _=>n,λb c q _=>⟨c,k b c q⟩,λ_ _ q=>q,λ_ _ _ q=>q,λ_ ps q=>⟨#[],by rw[q];simp⟩⟩
theorem Un.refl:Un fs ex H H h h:=Un.kept λ_ _ q=>q
theorem Un.laid(k:∀b u,h.get? b=some u->h'.get? b=some u)(hp:h.objs.size<=a)(hn:H a=none):Un fs ex H (upd H a o) h h' where
 keep:=λb u q _ _ _=>k b u q
 slot:=λb u q _ _ _=>⟨u.slots,k b u q⟩
 free:=λb u q n _=>by rw[aK (ZT (ZR (Ye q) hp))];exact n
 there:=λb u q _=>⟨u,k b u q⟩
 tups:=λb xs q=>by rw[aK (bd q hn)];exact q
 frzs:=λb u xs q=>by rw[aK (bd q hn)];exact q
 tbls:=λb ps q=>⟨#[],by rw[aK (bd q hn),q];simp⟩
theorem Un.write(mu:Mut (H x))(d:e=x\/H e=some (.own x))(k:∀b u,b≠e->h.get? b=some u->h'.get? b=some u)(f:∃u,h'.get? e=some u):Un fs ex H (upd H x o) h h':=by
 have hx:∀b,H b=none->b≠x:=λb n z=>by subst z;rw[n] at mu;exact mu
 have hb:∀b,H b=none->b≠e:=λb n z=>by
  subst z;rcases d with r | r
  ·exact hx b n r
  ·rw[n] at r;cases r
 have hm:∀b u,H b=some u->¬Mut (some u)->b≠x:=λb u q nm z=>by subst z;rw[q] at mu;exact nm mu
 refine⟨λb u q n _ _=>k b u (hb b n) q,λb u q n _ _=>⟨u.slots,k b u (hb b n) q⟩,λb u q n _=>by rw[aK (hx b n)];exact n,λb u q _=>?_,
  λb xs q=>by rw[aK (hm b _ q λz=>z)];exact q,λb u xs q=>by rw[aK (hm b _ q λz=>z)];exact q,λb ps q=>⟨#[],by rw[aK (hm b _ q λz=>z),q];simp⟩⟩
 by_cases c:b=e
 ·subst c;exact f
 ·exact⟨u,k b u c q⟩
end
def trk(h:Heap)(H:Hp):List Addr:=(List.range h.objs.size).filter λa=>(H a).isSome
def hidT(h:Heap)(H:Hp):Heap:=PySem.W.hideAll h (trk h H)
theorem BF(h:Heap)(H:Hp):(hidT h H).objs.size=h.objs.size:=PySem.W.hideAll_size _ _
theorem Dw{h:Heap}{H:Hp}{b:Addr}{o:Obj}(e:h.get? b=some o)(n:H b=none):(hidT h H).get? b=some o:=
 PySem.W.hideAll_get _ e λhm=>by
  have q:(H b).isSome=true:=(ZU.mp hm).2;rw[n] at q;simp at q
theorem Fr{h:Heap}{H:Hp}{b:Addr}{o:Obj}(e:(hidT h H).get? b=some o):h.get? b=some o/\H b=none:=by
 have e':h.get? b=some o:=PySem.W.of_hideAll (trk h H) e;refine⟨e',?_⟩;cases q:H b with
 |none=>rfl
 |some x=>
  have hm:b∈trk h H:=ZU.mpr ⟨ZV.mpr (Ye e'),by simp[q]⟩;have z:(hidT h H).get? b=none:=PySem.W.hideAll_none (trk h H) hm;rw[z] at e;cases e
def Fs(g h:Heap)(L:Addr):List (Addr×Obj):=(List.range h.objs.size).filterMap λa=>if a=L\/(g.get? a).isSome=true then none else(h.get? a).map λo=>(a,o)
def rest(g h:Heap)(L d:Addr):List (Addr×Obj):=(Fs g h L).filter λp=>decide (p.1≠d)
structure Mod (K:Za) (mg:Ze) (base:Heap):Prop where
 kin:K.In base
 glob:base.Ns mainGlobals mg
 blt:∃mb,base.Ns builtinsNs mb/\∀x:Str,x ≠ "__name__"->mb x=bootBuiltins x
 nolimit:base.NoLimit
structure Cx where
 prog:Program
 w:World
 K:PySem.W.Frag
 mg:Str->Option Value
 base:Heap
 A:Around
 N:List Str
 s₀:Shared
 H₀:Hp
 env:Env
 outer:List Env
 stack:List Env
 ex:List Addr
 fn:Str->Bool
 calm:Bool
 pn:List (Addr×Obj)
 xe:Value->Shared->Prop
def frs(l:List Env):List Addr:=l.filterMap (·.frame)
abbrev Cx.fs(X:Cx):List Addr:=frs X.outer
def Vis(sc:Scope)(x:Str):Prop:=sc.names.lookup x=some .local \/ sc.names.lookup x=some .cell\/sc.names.lookup x=some .free
def Loc(sc:Scope)(x:Str):Prop:=sc.names.lookup x=some .local \/ sc.names.lookup x=some .cell
def Look(env:Env)(h:Heap)(m:Ze)(x:Str)(u:Value):Prop:=
 (env.kindOf x=some .local/\m x=some u)\/((env.kindOf x=some .cell\/env.kindOf x=some .free)/\∃c,env.cells.lookup x=some c/\h.IsCell c (some u))
structure Cx.Ok (X:Cx):Prop where
 mod:Mod X.K X.mg X.base
 kind:X.env.scope.kind=.function
 glob:X.env.globals=mainGlobals
 blt:X.env.builtins=builtinsNs
 above:X.s₀.heap.objs.size<=X.env.locals
 inj:∀x y c,X.env.cells.lookup x=some c->X.env.cells.lookup y=some c->x=y
 has:∀x,(X.env.kindOf x=some .cell\/X.env.kindOf x=some .free)->∃c,X.env.cells.lookup x=some c
 cab:∀x c,X.fn x=true->X.env.cells.lookup x=some c->X.s₀.heap.objs.size<=c
 hd:X.calm=true->X.A.handled=none
 frames:X.A.frames=some X.stack
 stk:X.stack=X.outer\/(X.stack=X.env::X.outer/\X.env.frame=some X.env.locals)
 exf:∀b∈X.ex,b≠X.env.locals/\∀x c,X.env.cells.lookup x=some c->c≠b
 bs:∀b o,X.base.get? b=some o->X.s₀.heap.get? b=some o/\X.H₀ b=none
 bsz:X.base.objs.size<=X.s₀.heap.objs.size
 noex:∀b o,X.base.get? b=some o->b∉X.ex
 exfs:∀b∈X.ex,b∉X.fs
 funs:X.s₀.heap.FunFrames X.base X.outer
 frf:∀b∈X.fs,X.H₀ b=none
structure Inv (X:Cx) (pins:Zc) (σ:List (Option V)) (H:Hp) (s:Shared):Prop where
 ok:X.Ok
 os:s.os=X.s₀.os
 bare:AllBare s.gens
 base:Un X.fs X.ex X.H₀ H X.s₀.heap s.heap
 loc:∃m,s.heap.Ns X.env.locals m/\∀(i:Nat) (x:Str) (v:V),X.N[i]?=some x->σ[i]?=some (some v)->Vis X.env.scope x->∃u,RelV v u/\Look X.env s.heap m x u
 cell:∀x c,X.env.cells.lookup x=some c->∃v,s.heap.IsCell c v
 free:H X.env.locals=none
 freeC:∀x c,X.env.cells.lookup x=some c->H c=none
 pin:∀p∈X.pn++pins,s.heap.get? p.1=some p.2/\H p.1=none/\p.1≠X.env.locals/\p.1∉X.fs/\∀v,p.2.data≠.cell v
 hok:HOk X.prog X.w H s.heap
 len:σ.length=X.N.length
section
variable {X:Cx}{pins:Zc}{σ:List (Option V)}{H H':Hp}{s:Shared}{h':Heap}
theorem Cx.Ok.nofr(ok:X.Ok){b:Addr}{o:Obj}(e:X.base.get? b=some o):b∉X.fs:=λhb=>by
 have:=(ok.funs.mem hb).1
 rw[e] at this;cases this
theorem Inv.bs(I:Inv X pins σ H s):∀b o,X.base.get? b=some o->s.heap.get? b=some o/\H b=none:=λb o e=>
 ⟨I.base.keep b o (I.ok.bs b o e).1 (I.ok.bs b o e).2 (I.ok.nofr e) (I.ok.noex b o e),I.base.free b o (I.ok.bs b o e).1 (I.ok.bs b o e).2 (I.ok.noex b o e)⟩
theorem Inv.bk(I:Inv X pins σ H s):∀b o,X.base.get? b=some o->s.heap.get? b=some o:=λb o e=>(I.bs b o e).1
theorem Inv.mod(I:Inv X pins σ H s):Mod X.K X.mg X.base:=I.ok.mod
theorem Inv.kIn(I:Inv X pins σ H s):X.K.In s.heap:=I.ok.mod.kin.keeps I.bk
theorem Inv.lt(I:Inv X pins σ H s):X.env.locals<s.heap.objs.size:=let⟨_,hn,_⟩:=I.loc;hn.lt
theorem Inv.sz(I:Inv X pins σ H s):X.s₀.heap.objs.size<=s.heap.objs.size:=ZW I.ok.above (Nat.le_of_lt I.lt)
theorem Inv.nofs(I:Inv X pins σ H s){a:Addr}(h:s.heap.objs.size<=a):a∉X.fs:=λhb=>by
 obtain⟨_,o,ho,_⟩:=I.ok.funs.mem hb;exact absurd (ZR (Ye ho) (ZW I.sz h)) (ZS _)
theorem Inv.cne(I:Inv X pins σ H s):∀x c,X.env.cells.lookup x=some c->c≠X.env.locals:=λx c e z=>by
 obtain⟨v,o,ho,hd⟩:=I.cell x c e;obtain⟨m,⟨o',es,d,a,b,_⟩,_⟩:=I.loc;rw[z,a] at ho;cases ho;rw[b] at hd;cases hd
theorem Inv.funs(I:Inv X pins σ H s):s.heap.FunFrames X.base X.outer:=by
 have all:∀(l:List Env),(∀b∈frs l,b∈X.fs)->X.s₀.heap.FunFrames X.base l->s.heap.FunFrames X.base l:=by
  intro l;induction l with
  |nil=>intro _ _;trivial
  |cons env r d=>
   intro c hl;obtain⟨hk,⟨L,o,hf,hn,ho,hd⟩,f⟩:=hl;have a:L∈X.fs:=c L (by unfold frs;rw[List.filterMap_cons,hf];exact ZX);obtain⟨sl,e⟩:=I.base.slot L o ho (I.ok.frf L a) a λz=>I.ok.exfs L z a
   exact⟨hk,⟨L,_,hf,hn,e,hd⟩,d (λb hb=>c b (by unfold frs;rw[List.filterMap_cons,hf];exact ZY _ hb)) f⟩
 exact all X.outer (λ_ hb=>hb) I.ok.funs
theorem Inv.stack(I:Inv X pins σ H s):s.heap.FunFrames X.base X.stack:=by
 rcases I.ok.stk with e | ⟨e,hf⟩
 ·rw[e];exact I.funs
 ·rw[e]
  obtain⟨m,hn,_⟩:=I.loc;refine .cons (by rw[I.ok.kind];decide) hf hn ?_ I.funs;exact Heap.get?_none_of_le (ZW I.ok.bsz I.ok.above)
theorem Inv.stkSub(I:Inv X pins σ H s):∀b∈frs X.stack,b∈X.env.locals::X.fs:=λb hb=>by
 rcases I.ok.stk with e | ⟨e,hf⟩
 ·rw[e] at hb;exact ZY _ hb
 ·rw[e] at hb
  unfold frs at hb;rw[List.filterMap_cons,hf] at hb;exact hb
theorem Inv.stkFree(I:Inv X pins σ H s):∀b∈frs X.stack,H b=none:=λb hb=>by
 rcases ZZ.mp (I.stkSub b hb) with e | hb
 ·rw[e];exact I.free
 ·obtain⟨_,o,ho,_⟩:=I.ok.funs.mem hb
  exact I.base.free b o ho (I.ok.frf b hb) λz=>I.ok.exfs b z hb
theorem Inv.step{g':Array GenState}{t':Nat}{d':Drawn}{ch:Zh}(I:Inv X pins σ H s)
  (g:∀b∈ch,(b∈X.ex\/X.s₀.heap.objs.size<=b)/\b≠X.env.locals/\(∀x c,X.env.cells.lookup x=some c->c≠b)/\∀p∈X.pn++pins,p.1≠b)
  (keep:∀b o,b≠X.env.locals->b∉X.fs->b∉ch->s.heap.get? b=some o->H b=none->h'.get? b=some o)
  (slot:∀b o,b≠X.env.locals->b∈X.fs->b∉ch->s.heap.get? b=some o->H b=none->∃sl,h'.get? b=some { o with slots:=sl }) (free:∀b o,b∉ch->s.heap.get? b=some o->H b=none->H' b=none)
  (there:∀b o,b∉ch->s.heap.get? b=some o->∃o',h'.get? b=some o')
  (tups:∀b xs,H b=some (.tup xs)->H' b=some (.tup xs)) (frzs:∀b o u,H b=some (.frz o u)->H' b=some (.frz o u)) (tbls:∀b ps,H b=some (.tbl ps)->∃more,H' b=some (.tbl (ps++more)))
  (ns:∀m,s.heap.Ns X.env.locals m->h'.Ns X.env.locals m) (hok:HOk X.prog X.w H' h') (hg:AllBare g'):
  Inv X pins σ H' { s with heap:=h',gens:=g',drawn:=d',toks:=t' }:=by
 have B:∀b o,X.s₀.heap.get? b=some o->b≠X.env.locals:=λb o e=>ZT (ZR (Ye e) I.ok.above)
 have A:∀b o,X.s₀.heap.get? b=some o->b∉X.ex->b∉ch:=λb o e hx hb=>by
  rcases(g b hb).1 with z | z
  ·exact hx z
  ·exact absurd (ZR (Ye e) z) (ZS _)
 have a:∀x c,X.env.cells.lookup x=some c->∀v,s.heap.IsCell c v->h'.IsCell c v:=λx c e v ⟨o,ho,hd⟩=>by
  have j:c∉ch:=λz=>(g c z).2.2.1 x c e rfl
  by_cases hc:c∈X.fs
  ·obtain⟨sl,q⟩:=slot c o (I.cne x c e) hc j ho (I.freeC x c e)
   exact⟨_,q,hd⟩
  ·exact⟨o,keep c o (I.cne x c e) hc j ho (I.freeC x c e),hd⟩
 refine⟨I.ok,I.os,hg,⟨λb o e n hb hx=>?_,λb o e n hb hx=>?_,λb o e n hx=>?_,λb o e hx=>?_,λb xs e=>tups b xs (I.base.tups b xs e),λb o xs e=>frzs b o xs (I.base.frzs b o xs e),λb ps e=>?_⟩,?_,λx c e=>?_,?_,λx c e=>?_,λp hp=>?_,hok,I.len⟩
 ·exact keep b o (B b o e) hb (A b o e hx) (I.base.keep b o e n hb hx) (I.base.free b o e n hx)
 ·obtain⟨sl,f⟩:=I.base.slot b o e n hb hx
  obtain⟨G,y⟩:=slot b _ (B b o e) hb (A b o e hx) f (I.base.free b o e n hx);exact⟨G,y⟩
 ·obtain⟨o',f⟩:=I.base.there b o e hx
  exact free b o' (A b o e hx) f (I.base.free b o e n hx)
 ·obtain⟨o',f⟩:=I.base.there b o e hx
  exact there b o' (A b o e hx) f
 ·obtain⟨J,f⟩:=I.base.tbls b ps e
  obtain⟨K,y⟩:=tbls b _ f;exact⟨J++K,by rw[y,Array.append_assoc]⟩
 ·obtain⟨m,hn,hl⟩:=I.loc
  refine⟨m,ns m hn,λi x v f y L=>?_⟩;obtain⟨u,r,l⟩:=hl i x v f y L;refine⟨u,r,?_⟩;rcases l with l | ⟨k,c,e,z⟩
  ·exact .inl l
  ·exact .inr ⟨k,c,e,a x c e _ z⟩
 ·obtain⟨v,z⟩:=I.cell x c e
  exact⟨v,a x c e v z⟩
 ·obtain⟨m,⟨o,_,_,ho,_⟩,_⟩:=I.loc
  exact free _ o (λz=>(g _ z).2.1 rfl) ho I.free
 ·obtain⟨v,o,ho,hd⟩:=I.cell x c e
  exact free c o (λz=>(g c z).2.2.1 x c e rfl) ho (I.freeC x c e)
 ·obtain⟨e,n,ne,C,d⟩:=I.pin p hp
  have j:p.1∉ch:=λz=>(g p.1 z).2.2.2 p hp rfl
  exact⟨keep p.1 p.2 ne C j e n,free p.1 p.2 j e n,ne,C,d⟩
theorem Inv.un{t':Nat}(I:Inv X pins σ H s)(u:Un X.fs [] H H' s.heap h')(hok:HOk X.prog X.w H' h'):Inv X pins σ H' { s with heap:=h',toks:=t' }:=by
 obtain⟨m,⟨o,es,j,ho,r⟩,_⟩:=id I.loc;obtain⟨sl,c⟩:=u.any ho I.free (by simp);exact I.step (g':=s.gens) (d':=s.drawn) (ch:=[]) (λ_ z=>nomatch z) (λb o _ hb _ e n=>u.keep b o e n hb (by simp)) (λb o _ hb _ e n=>u.slot b o e n hb (by simp)) (λb o _ e n=>u.free b o e n (by simp)) (λb o _ e=>u.there b o e (by simp)) u.tups u.frzs u.tbls (λk hm=>by
  obtain⟨o',d,f,a,g⟩:=hm;rw[ho] at a;cases a;exact⟨_,d,f,c,g⟩) hok I.bare
theorem Inv.call{g':Array GenState}{t':Nat}{d':Drawn}{ch:Zh}(I:Inv X pins σ H s)(u:Un (frs X.stack) ch H H' s.heap h')(hok:HOk X.prog X.w H' h')(hg:AllBare g')
  (d:∀b∈ch,(b∈X.ex\/X.s₀.heap.objs.size<=b)/\b≠X.env.locals/\(∀x c,X.env.cells.lookup x=some c->c≠b)/\∀p∈X.pn++pins,p.1≠b):
  Inv X pins σ H' { s with heap:=h',gens:=g',drawn:=d',toks:=t' }:=by
 obtain⟨m,⟨o,es,l,ho,r⟩,_⟩:=id I.loc;obtain⟨sl,a⟩:=u.any ho I.free λz=>(d _ z).2.1 rfl
 exact I.step (ch:=ch) d (λb o a hb hc e n=>u.keep b o e n (λz=>(ZZ.mp (I.stkSub b z)).elim a hb) hc) (λb o _ _ hc e n=>u.any e n hc) (λb o hc e n=>u.free b o e n hc) (λb o hc e=>u.there b o e hc) u.tups u.frzs u.tbls (λy hm=>by
  obtain⟨o',g,j,f,k⟩:=hm;rw[ho] at f;cases f;exact⟨_,g,j,a,k⟩) hok hg
theorem Inv.turned{t':Nat}{it:Addr}(I:Inv X pins σ H s)(k:∀b o,b≠it->s.heap.get? b=some o->h'.get? b=some o)(hn:H it=none)(a:it≠X.env.locals)
  (f:it∈X.ex\/X.s₀.heap.objs.size<=it) (g:∀x c,X.env.cells.lookup x=some c->c≠it) (j:∀p∈X.pn++pins,p.1≠it):Inv X pins σ H { s with heap:=h',toks:=t' }:=by
 have d:∀b u,H b=some u->b≠it:=λb u e z=>by rw[z,hn] at e;cases e
 refine I.step (g':=s.gens) (d':=s.drawn) (ch:=[it]) (λb hb=>?_) (λb o _ _ hc e _=>k b o (λz=>hc (by simp[z])) e) (λb o _ _ hc e _=>⟨o.slots,k b o (λz=>hc (by simp[z])) e⟩) (λ_ _ _ _ n=>n)
  (λb o hc e=>⟨o,k b o (λz=>hc (by simp[z])) e⟩) (λ_ _ e=>e) (λ_ _ _ e=>e) (λb ps e=>⟨#[],by rw[e];simp⟩) (λm hm=>?_) (λb u e=>?_) I.bare
 ·have e:b=it:=by simpa using hb
  subst e;exact⟨f,a,g,j⟩
 ·obtain⟨o,es,l,ho,r⟩:=hm
  exact⟨o,es,l,k _ o (Ne.symm a) ho,r⟩
 ·refine(I.hok b u e).stay (λc v hc q=>k c v ?_ q) (λ_ q=>q) λ_ _ q=>q
  rcases hc with z | z
  ·rw[z];exact d b u e
  ·exact d c _ z
theorem Inv.tok(I:Inv X pins σ H s)(t:Nat):Inv X pins σ H { s with toks:=t }:=I.un (h':=s.heap) (t':=t) Un.refl I.hok
theorem Inv.kept{t':Nat}(I:Inv X pins σ H s)(k:∀b u,s.heap.get? b=some u->h'.get? b=some u):Inv X pins σ H { s with heap:=h',toks:=t' }:=I.un (Un.kept k) (I.hok.kept k)
theorem Inv.laid{a:Addr}{o:HO}{t':Nat}(I:Inv X pins σ H s)(k:∀b u,s.heap.get? b=some u->h'.get? b=some u)(hp:s.heap.objs.size<=a)(new:a0 X.prog X.w (upd H a o) h' a o):
  Inv X pins σ (upd H a o) { s with heap:=h',toks:=t' }:=I.un (Un.laid k hp (I.hok.fresh hp)) (I.hok.laid k hp new)
theorem Inv.write{x e:Addr}{o:HO}{t':Nat}(I:Inv X pins σ H s)(mu:Mut (H x))(a:e=x\/H e=some (.own x))(k:∀b u,b≠e->s.heap.get? b=some u->h'.get? b=some u)(c:∃u,h'.get? e=some u)
  (new:a0 X.prog X.w (upd H x o) h' x o):Inv X pins σ (upd H x o) { s with heap:=h',toks:=t' }:=I.un (Un.write mu a k c) (I.hok.write mu a k c new)
theorem Inv.pins_of{a:Zc}(I:Inv X pins σ H s)(h:∀p∈a,s.heap.get? p.1=some p.2/\H p.1=none/\p.1≠X.env.locals/\p.1∉X.fs/\∀v,p.2.data≠.cell v):Inv X a σ H s:=
 ⟨I.ok,I.os,I.bare,I.base,I.loc,I.cell,I.free,I.freeC,λp hp=>(YA.mp hp).elim (λz=>I.pin p (List.mem_append_left _ z)) (h p),I.hok,I.len⟩
theorem xp{N:Zf}(c:N.Nodup){i j:Nat}{x:Str}(a:N[i]?=some x)(b:N[j]?=some x):i=j:=by
 obtain⟨g,d⟩:=YB.mp a;obtain⟨k,f⟩:=YB.mp b;exact(List.getElem_inj c).mp (d.trans f.symm)
theorem vS{M:Model}{A:Around}{E:Zb}{i:Nat}{x:Str}{v:V}{u:Value}{Q:Zo}(I:Inv X pins σ H s)(T:X.N.Nodup)(hi:X.N[i]?=some x)(hx:Loc X.env.scope x)(r:RelV v u)
  (h:∀J,Inv X pins (σ.set i (some v)) H J->(∃a,Heap.SameBut a s.heap J.heap/\(a=X.env.locals\/X.env.cells.lookup x=some a))->Q () J) (hf:X.fn x=true\/X.env.scope.names.lookup x=some .local:=by first | exact .inl rfl | exact .inr rfl | assumption):wpAny M A (storeName X.env x u) Q E s:=by
 obtain⟨m,hn,hl⟩:=id I.loc;have Qx:(X.env.scope.kind==.class||(X.env.scope.kind==.module&&X.env.locals != X.env.globals))=false:=by rw[I.ok.kind];rfl
 have U:i<σ.length:=by rw[I.len];exact(YB.mp hi).1
 have cne:=I.cne;have g:∀{a:Addr}{h':Heap},(∃o,s.heap.get? a=some o/\H a=none)->Heap.SameBut a s.heap h'->HOk X.prog X.w H h':=λ{a h'} ha f b ob e=>by
  obtain⟨_,_,W⟩:=ha;refine(I.hok b ob e).stay (λc G hc q=>(f.2 c ?_).trans q) (λ_ q=>q) λ_ _ q=>q
  rintro rfl;rcases hc with rfl | hc
  ·rw[W] at e;cases e
  ·rw[W] at hc;cases hc
 rcases hx with hk | hk
 ·refine wpAny_storeName_local hk hn (λh' Vf f=>?_) Qx
  obtain⟨oL,_,_,Vg,_⟩:=id hn;refine h _ ⟨I.ok,I.os,I.bare,⟨λb o e n hb hx=>?_,λb o e n hb hx=>?_,I.base.free,λb o e hx=>?_,I.base.tups,I.base.frzs,I.base.tbls⟩,⟨_,Vf,λj y K l B L=>?_⟩,λy c e=>?_,I.free,I.freeC,λp hp=>?_,g ⟨oL,Vg,I.free⟩ f,by simpa using I.len⟩ ⟨_,f,.inl rfl⟩
  ·exact(f.2 b (ZT (ZR (Ye e) I.ok.above))).trans (I.base.keep b o e n hb hx)
  ·obtain⟨sl,l⟩:=I.base.slot b o e n hb hx
   exact⟨sl,(f.2 b (ZT (ZR (Ye e) I.ok.above))).trans l⟩
  ·obtain⟨o',l⟩:=I.base.there b o e hx
   exact⟨o',(f.2 b (ZT (ZR (Ye e) I.ok.above))).trans l⟩
  ·by_cases C:j=i
   ·subst C
    rw[hi] at l;cases l;rw[List.getElem?_set_self U] at B;cases B;exact⟨u,r,.inl ⟨hk,by simp⟩⟩
   ·rw[List.getElem?_set_ne (Ne.symm C)] at B
    obtain⟨O,P,q⟩:=hl j y K l B L;refine⟨O,P,?_⟩;rcases q with⟨k,e⟩ | ⟨k,c,e,z⟩
    ·refine .inl ⟨k,?_⟩
     have:y≠x:=λe=>C (xp T l (e▸hi))
     simp[this,e]
    ·exact .inr ⟨k,c,e,z.sameBut f (cne y c e)⟩
  ·obtain⟨G,z⟩:=I.cell y c e
   exact⟨G,z.sameBut f (cne y c e)⟩
  ·obtain⟨e,n,ne,R,d⟩:=I.pin p hp
   exact⟨(f.2 p.1 ne).trans e,n,ne,R,d⟩
 ·have S:X.fn x=true:=by
   rcases hf with z | z
   ·exact z
   ·rw[z] at hk;cases hk
  obtain⟨c,hc⟩:=I.ok.has x (.inl hk);obtain⟨G,z⟩:=I.cell x c hc;refine wpAny_storeName_cell I.ok.kind hk hc z (λh' Y f=>?_);obtain⟨oc,Z,Qy⟩:=id z;refine h { s with heap:=h' } ⟨I.ok,I.os,I.bare,⟨λb o e n hb hx=>?_,λb o e n hb hx=>?_,I.base.free,λb o e hx=>?_,I.base.tups,I.base.frzs,I.base.tbls⟩,⟨m,hn.sameBut f (Ne.symm (cne x c hc)),λj y K l B L=>?_⟩,λy c' e=>?_,I.free,I.freeC,λp hp=>?_,g ⟨oc,Z,I.freeC x c hc⟩ f,by simpa using I.len⟩ ⟨c,f,.inr hc⟩
  ·exact(f.2 b (ZT (ZR (Ye e) (I.ok.cab x c S hc)))).trans (I.base.keep b o e n hb hx)
  ·obtain⟨sl,l⟩:=I.base.slot b o e n hb hx
   exact⟨sl,(f.2 b (ZT (ZR (Ye e) (I.ok.cab x c S hc)))).trans l⟩
  ·obtain⟨o',l⟩:=I.base.there b o e hx
   exact⟨o',(f.2 b (ZT (ZR (Ye e) (I.ok.cab x c S hc)))).trans l⟩
  ·by_cases C:j=i
   ·subst C
    rw[hi] at l;cases l;rw[List.getElem?_set_self U] at B;cases B;exact⟨u,r,.inr ⟨.inl hk,c,hc,Y⟩⟩
   ·rw[List.getElem?_set_ne (Ne.symm C)] at B
    obtain⟨O,P,q⟩:=hl j y K l B L;refine⟨O,P,?_⟩;rcases q with q | ⟨k,c',e,z'⟩
    ·exact .inl q
    ·refine .inr ⟨k,c',e,z'.sameBut f ?_⟩
     rintro rfl;exact C (xp T l (I.ok.inj _ _ _ e hc▸hi))
  ·by_cases Uc:c'=c
   ·subst Uc;exact⟨_,Y⟩
   ·obtain⟨w2,z2⟩:=I.cell y c' e
    exact⟨w2,z2.sameBut f Uc⟩
  ·obtain⟨e,n,ne,R,d⟩:=I.pin p hp
   refine⟨(f.2 p.1 ?_).trans e,n,ne,R,d⟩;intro q;rw[q,Z] at e;have q':oc=p.2:=Yi e;exact d G (by rw[←q'];exact Qy)
theorem xq{M:Model}{A:Around}{E:Zb}{i:Nat}{x:Str}{v:V}{u:Value}{Q:Zo}(I:Inv X pins σ H s)(b:X.N.Nodup)(hi:X.N[i]?=some x)(hx:Loc X.env.scope x)(r:RelV v u)
  (h:∀a,Inv X pins (σ.set i (some v)) H a->Q () a) (hf:X.fn x=true\/X.env.scope.names.lookup x=some .local:=by first | exact .inl rfl | exact .inr rfl | assumption):wpAny M A (storeName X.env x u) Q E s:=
 vS I b hi hx r (λa c _=>h a c) hf
theorem Inv.call'{a:Shared}{ch:Zh}(I:Inv X pins σ H s)(ho:a.os=s.os)(u:Un (frs X.stack) ch H H' s.heap a.heap)(hok:HOk X.prog X.w H' a.heap)(hg:AllBare a.gens)
  (d:∀b∈ch,(b∈X.ex\/X.s₀.heap.objs.size<=b)/\b≠X.env.locals/\(∀x c,X.env.cells.lookup x=some c->c≠b)/\∀p∈X.pn++pins,p.1≠b):Inv X pins σ H' a:=by
 obtain⟨h',g',d',t',o'⟩:=a;have e:o'=s.os:=ho;subst e;exact I.call (g':=g') (t':=t') (d':=d') u hok hg d
end
abbrev XK:=Value->Option Addr->Hp->Prop
abbrev St:=List (Option V)
abbrev VK:=V->Hp->Prop
abbrev TE:=St->Hp->VK->Prop
abbrev TT:=St->Hp->(Bool->Hp->Prop)->Prop
abbrev TA:=St->Hp->(List V->Hp->Prop)->Prop
structure Ends where
 nx:St->Hp->Prop
 rt:VK
 bk:St->Hp->Prop:=λ_ _=>False
 ct:St->Hp->Prop:=λ_ _=>False
abbrev TS:=Ends->St->Hp->Prop
def EP(X:Cx)(pins:Zc)(σ:St)(Q:VK)(u:Value)(a:Shared):Prop:=∃v H',Inv X pins σ H' a/\RelV v u/\Q v H'
def TP(X:Cx)(pins:Zc)(σ:St)(Q:Bool->Hp->Prop)(b:Bool)(a:Shared):Prop:=∃H',Inv X pins σ H' a/\Q b H'
def AP(X:Cx)(pins:Zc)(σ:St)(Q:List V->Hp->Prop)(us:Zd)(a:Shared):Prop:=∃vs H',Inv X pins σ H' a/\Vals vs us/\Q vs H'
def SP(X:Cx)(pins:Zc)(D:Ends)(f:Flow)(b:Shared):Prop:=
 match f with
 |.next=>∃a H',Inv X pins a H' b/\D.nx a H'
 |.brk=>∃a H',Inv X pins a H' b/\D.bk a H'
 |.cont=>∃a H',Inv X pins a H' b/\D.ct a H'
 |.ret u=>∃v a H',Inv X pins a H' b/\RelV v u/\D.rt v H'
def PE(X:Cx)(e:Expr)(t:TE):Prop:=
 ∀(pins:Zc) (s:Shared) (σ:St) (H:Hp) (Q:VK),Inv X pins σ H s->t σ H Q->wpAny 'c' X.A (eval e X.env) (EP X pins σ Q) X.xe s
def PT(X:Cx)(e:Expr)(t:TT):Prop:=
 ∀(pins:Zc) (s:Shared) (σ:St) (H:Hp) (Q:Bool->Hp->Prop),Inv X pins σ H s->t σ H Q->wpAny 'c' X.A (isTrue e X.env (eval e X.env)) (TP X pins σ Q) X.xe s
def PW(X:Cx)(e:Expr)(t:TT):Prop:=
 ∀(a:Sem Value) (pins:Zc) (s:Shared) (σ:St) (H:Hp) (Q:Bool->Hp->Prop),Inv X pins σ H s->t σ H Q->wpAny 'c' X.A (isTrue e X.env a) (TP X pins σ Q) X.xe s
def PA(X:Cx)(es:Zg)(t:TA):Prop:=
 ∀(a:Pos) (pins:Zc) (s:Shared) (σ:St) (H:Hp) (Q:List V->Hp->Prop),Inv X pins σ H s->t σ H Q->wpAny 'c' X.A (spliced (backTo a (starEach es X.env))) (AP X pins σ Q) X.xe s
def PS(X:Cx)(st:Stmt)(t:TS):Prop:=
 ∀(pins:Zc) (s:Shared) (σ:St) (H:Hp) (D:Ends),Inv X pins σ H s->t D σ H->wpAny 'c' X.A (exec st X.env) (SP X pins D) X.xe s
def PSs(X:Cx)(st:Zu)(t:TS):Prop:=
 ∀(pins:Zc) (s:Shared) (σ:St) (H:Hp) (D:Ends),Inv X pins σ H s->t D σ H->wpAny 'c' X.A (execs st X.env) (SP X pins D) X.xe s
theorem thn{b:Type}{t:Sem b}{Q c:b->Shared->Prop}{M:Model}{A:Around}{E:Zb}{s:Shared}(h:wpAny M A t Q E s)(d:∀a s,Q a s->c a s):wpAny M A t c E s:=wpAny_mono h d λ_ _ x=>x
section
variable {X:Cx}
theorem bin{a b:Expr}{g j:TE}(ha:PE X a g)(hb:PE X b j){pins:Zc}{s:Shared}{σ:St}{H:Hp}{R:V->V->Hp->Prop}(I:Inv X pins σ H s)(h:g σ H λx d=>j σ d λy c=>R x y c)
  {k:Type}{Q:k->Shared->Prop}{f:Value->Value->Sem k}
  (hf:∀v u s2 x y c,Inv X pins σ c s2->RelV x v->RelV y u->R x y c->wpAny 'c' X.A (f v u) Q X.xe s2):
  wpAny 'c' X.A (eval a X.env) (λv l=>wpAny 'c' X.A (eval b X.env) (λu m=>wpAny 'c' X.A (f v u) Q X.xe m) X.xe l) X.xe s:=by
 refine thn (ha pins s σ H _ I h) λv s1 n=>?_
 obtain⟨x,d,o,p,r⟩:=n;refine thn (hb pins s1 σ d _ o r) λu s2 z=>?_
 obtain⟨y,c,B,C,G⟩:=z;exact hf v u s2 x y c B p C G
def tVar(i:Nat):TE:=λσ H Q=>∃v,σ[i]?=some (some v)/\Q v H
def tC(v:V):TE:=λ_ H Q=>Q v H
theorem Hh{i:Nat}{x:Str}{a:Pos}(d:X.N[i]?=some x)(f:Vis X.env.scope x)(hd:(x==("__debug__" : Str))=false:=by decide)(g:(x==("__classdict__" : Str))=false:=by decide):PE X (.Name x a) (tVar i):=by
 intro pins s σ H Q I h;obtain⟨v,e,h⟩:=h;obtain⟨m,hn,hl⟩:=I.loc;obtain⟨u,r,l⟩:=hl i x v d e f;have fin:EP X pins σ Q u s:=⟨v,H,I,r,h⟩;rcases l with⟨hk,hm⟩ | ⟨hk,c,hc,b⟩
 ·exact wpAny_Name (wpAny_loadName_local I.ok.kind hk hn hm fin) hd
 ·rcases hk with hk | hk
  ·exact wpAny_Name (wpAny_loadName_cell I.ok.kind hk hc b fin) hd
  ·exact wpAny_Name (wpAny_loadName_free I.ok.kind hk hc b fin g) hd
theorem Hi{i j pos}:PE X (.Constant (.int i) j pos) (tC (.int i)):=λ_ _ _ H _ I h=>wpAny_Constant_int ⟨.int i,H,I.tok _,⟨_,rfl⟩,h⟩
theorem Jo{b j pos}:PE X (.Constant (.bool b) j pos) (tC (.bl b)):=λ_ _ _ H _ I h=>Constant_bool ⟨.bl b,H,I,rfl,h⟩
theorem Hj{j pos}:PE X (.Constant .none j pos) (tC .non):=λ_ _ _ H _ I h=>Constant_none ⟨.non,H,I,rfl,h⟩
theorem Hk{x j pos}:PE X (.Constant (.str x) j pos) (tC (.str x)):=λ_ _ _ H _ I h=>Calls.Constant_str ⟨.str x,H,I.tok _,⟨_,rfl⟩,h⟩
def Gl(X:Cx)(x:Str):Prop:=X.env.kindOf x=some .globalImplicit
theorem u7{E:Zb}{pins:Zc}{s:Shared}{σ:St}{H:Hp}{x:Str}{u:Value}{a:Pos}{Q:Zb}(I:Inv X pins σ H s)(hg:Gl X x)(hm:X.mg x=some u)(h:Q u s)
  (hd:(x==("__debug__" : Str))=false:=by decide):wpAny 'c' X.A (eval (.Name x a) X.env) Q E s:=
 Calls.Name_function_global I.ok.kind hg (Calls.loadGlobal_global (by rw[I.ok.glob];exact I.mod.glob.keeps I.bk) hm h) hd
theorem dB{E:Zb}{pins:Zc}{s:Shared}{σ:St}{H:Hp}{x:Str}{u:Value}{a:Pos}{Q:Zb}(I:Inv X pins σ H s)(hg:Gl X x)(hm:X.mg x=none)(b:bootBuiltins x=some u)(h:Q u s)
  (hn:x ≠ "__name__":=by decide) (hd:(x==("__debug__" : Str))=false:=by decide):wpAny 'c' X.A (eval (.Name x a) X.env) Q E s:=by
 obtain⟨mb,c,d⟩:=I.mod.blt;exact Calls.Name_function_global I.ok.kind hg (Calls.loadGlobal_builtin (by rw[I.ok.glob];exact I.mod.glob.keeps I.bk) hm (by rw[I.ok.blt];exact c.keeps I.bk) ((d x hn).trans b) h) hd
theorem Ft{x:Str}{v:V}{u:Value}{a:Pos}(hg:Gl X x)(hm:X.mg x=some u)(r:RelV v u)(hd:(x==("__debug__" : Str))=false:=by decide):PE X (.Name x a) (tC v):=
 λ_ _ _ H _ I h=>u7 I hg hm ⟨v,H,I,r,h⟩ hd
theorem Fu{x:Str}{v:V}{u:Value}{a:Pos}(hg:Gl X x)(hm:X.mg x=none)(b:bootBuiltins x=some u)(r:RelV v u)(hn:x ≠ "__name__":=by decide)(hd:(x==("__debug__" : Str))=false:=by decide):PE X (.Name x a) (tC v):=
 λ_ _ _ H _ I h=>dB I hg hm b ⟨v,H,I,r,h⟩ hn hd
variable {a b:Expr}{ta tb:TE}{pos:Pos}
variable {tA P2:TT}{rest:Zg}
def tAnd(t u:TT):TT:=λσ H Q=>t σ H λc d=>if c=true then u σ d Q else Q false d
def tOr(t u:TT):TT:=λσ H Q=>t σ H λc d=>if c=true then Q true d else u σ d Q
def tNot(t:TT):TT:=λσ H Q=>t σ H λc d=>Q (!c) d
theorem Fv(ha:PT X a tA):PW X (.BoolOp .And [a] pos) tA:=by
 intro d pins s σ H Q I h;refine isTrue_and (thn (ha pins s σ H Q I h) λc s1 e=>?_);cases c with
 |true=>exact isTrue_and_nil e
 |false=>exact e
theorem Hl(ha:PT X a tA):PW X (.BoolOp .Or [a] pos) tA:=by
 intro d pins s σ H Q I h;refine isTrue_or (thn (ha pins s σ H Q I h) λc s1 e=>?_);cases c with
 |false=>exact isTrue_or_nil e
 |true=>exact e
theorem Hm(ha:PT X a tA)(hb:PW X (.BoolOp .And (b::rest) pos) P2):PW X (.BoolOp .And (a::b::rest) pos) (tAnd tA P2):=by
 intro j pins s σ H Q I h;refine isTrue_and (thn (ha pins s σ H _ I h) λc s1 k=>?_);obtain⟨d,f,g⟩:=k;cases c with
 |true=>exact hb j pins s1 σ d Q f g
 |false=>exact⟨d,f,g⟩
theorem Jp(ha:PT X a tA)(hb:PW X (.BoolOp .Or (b::rest) pos) P2):PW X (.BoolOp .Or (a::b::rest) pos) (tOr tA P2):=by
 intro j pins s σ H Q I h;refine isTrue_or (thn (ha pins s σ H _ I h) λc s1 k=>?_);obtain⟨d,f,g⟩:=k;cases c with
 |true=>exact⟨d,f,g⟩
 |false=>exact hb j pins s1 σ d Q f g
theorem Hn(ha:PT X a tA):PT X (.UnaryOp .Not a pos) (tNot tA):=by
 intro pins s σ H Q I h;exact isTrue_not (ha pins s σ H (λc d=>Q (!c) d) I h)
def Jq(ta tb:TE):TE:=λσ H Q=>ta σ H λx d=>∃c,x=.bl c/\if c=true then tb σ d Q else Q (.bl false) d
def tOrV(ta tb:TE):TE:=λσ H Q=>ta σ H λx d=>∃c,x=.bl c/\if c=true then Q (.bl true) d else tb σ d Q
def Jr(ta:TE):TE:=λσ H Q=>ta σ H λx d=>∃c,x=.bl c/\Q (.bl (!c)) d
theorem Ho{op}{t:TE}(h:PE X a t):PE X (.BoolOp op [a] pos) t:=λpins s σ H Q I hw=>BoolOp_one (h pins s σ H Q I hw)
theorem Hq(ha:PE X a ta)(hb:PE X (.BoolOp .And (b::rest) pos) tb):PE X (.BoolOp .And (a::b::rest) pos) (Jq ta tb):=by
 intro pins s σ H Q I h;refine BoolOp_and (thn (ha pins s σ H _ I h) λv s1 j=>?_);obtain⟨x,f,g,k,d⟩:=j;obtain⟨c,rfl,d⟩:=d;cases k;refine wpAny_truthy_bool ?_;cases c with
 |true=>exact hb pins s1 σ f Q g d
 |false=>exact⟨.bl false,f,g,rfl,d⟩
theorem Js(ha:PE X a ta)(hb:PE X (.BoolOp .Or (b::rest) pos) tb):PE X (.BoolOp .Or (a::b::rest) pos) (tOrV ta tb):=by
 intro pins s σ H Q I h;refine BoolOp_or (thn (ha pins s σ H _ I h) λv s1 j=>?_);obtain⟨x,f,g,k,d⟩:=j;obtain⟨c,rfl,d⟩:=d;cases k;refine wpAny_truthy_bool ?_;cases c with
 |false=>exact hb pins s1 σ f Q g d
 |true=>exact⟨.bl true,f,g,rfl,d⟩
theorem Hr(ha:PE X a ta):PE X (.UnaryOp .Not a pos) (Jr ta):=by
 intro pins s σ H Q I h;refine UnaryOp_ (thn (ha pins s σ H _ I h) λv s1 f=>?_);obtain⟨x,g,j,k,d⟩:=f;obtain⟨c,rfl,d⟩:=d;cases k;exact not_of (wpAny_truthy_bool ⟨.bl (!c),g,j,rfl,d⟩)
def tIf(t:TT)(ta tb:TE):TE:=λσ H Q=>t σ H λc d=>if c=true then ta σ d Q else tb σ d Q
theorem Dx{c:Expr}(hc:PT X c tA)(ha:PE X a ta)(hb:PE X b tb):PE X (.IfExp c a b pos) (tIf tA ta tb):=by
 intro pins s σ H Q I h;refine wpAny_IfExp (thn (hc pins s σ H _ I h) λd s1 k=>?_);obtain⟨f,g,j⟩:=k;cases d with
 |true=>exact ha pins s1 σ f Q g j
 |false=>exact hb pins s1 σ f Q g j
end
def SqL(K:Za)(H:Hp)(a:Addr)(xs:List V):Prop:=
 Rd H a (.lst xs) \/
  ∃(o:Obj) (d_:Zl) (n:Nat),K.lookup a=some o/\o.cls=.type "list"/\o.dict=none/\o.data=.seq d_ n/\d_.size<=sizeLine/\Vals xs d_.toList
def SqT(K:Za)(H:Hp)(a:Addr)(xs:List V):Prop:=
 Rd H a (.tup xs) \/
  ∃(o:Obj) (d_:Zl) (n:Nat),K.lookup a=some o/\o.cls=.type "tuple"/\o.data=.seq d_ n/\d_.size<=sizeLine/\Vals xs d_.toList
def absV:Value->Option V
 |.none=>some .non
 |.bool b=>some (.bl b)
 |.int i _=>some (.int i)
 |.str x _=>some (.str x)
 |.bytes b _=>some (.byt b)
 |.float b _=>some (.flt b)
 |.ref a=>some (.ref a)
 |.type n=>some (.ty n)
 |_=>none
theorem RelV.abs{x:V}{u:Value}(r:RelV x u):absV u=some x:=by
 cases x with
 |non=>cases r;rfl
 |bl _=>cases r;rfl
 |int _=>obtain⟨t,rfl⟩:=r;rfl
 |str _=>obtain⟨t,rfl⟩:=r;rfl
 |byt _=>obtain⟨t,rfl⟩:=r;rfl
 |flt _=>obtain⟨t,rfl⟩:=r;rfl
 |ref _=>cases r;rfl
 |ty _=>cases r;rfl
theorem RelV.inj{x y:V}{u:Value}(r:RelV x u)(q:RelV y u):x=y:=Yi (r.abs.symm.trans q.abs)
theorem Vals.inj{xs ys:List V}{us:Zd}(h:Vals xs us)(h':Vals ys us):xs=ys:=by
 induction h generalizing ys with
 |nil=>cases h';rfl
 |cons r t a=>cases h' with
  |cons b t'=>rw[r.inj b,a t']
section
variable {X:Cx}{pins:Zc}{σ:St}{H:Hp}{s:Shared}{a:Addr}{xs ys:List V}
theorem SqL.of{K:Za}(h:H a=some (.lst xs)):SqL K H a xs:=.inl (.inl h)
theorem SqT.of{K:Za}(h:H a=some (.tup xs)):SqT K H a xs:=.inl (.inl h)
theorem Inv.list(I:Inv X pins σ H s)(h:SqL X.K H a xs):∃d_:List Value,Vals xs d_/\PlainL s.heap a d_.toArray/\xs.length<=sizeLine:=by
 rcases h with h | ⟨o,d_,n,hk,hc,hd,hs,hz,r⟩
 ·obtain⟨z,d_,n,r,e⟩:=h.ok I.hok
  exact⟨d_,r,⟨_,n,e,rfl,rfl,rfl⟩,z⟩
 ·refine⟨d_.toList,r,⟨o,n,I.kIn a o hk,hc,hd,by simpa using hs⟩,?_⟩
  have e:=r.length;simp only[Array.length_toList] at e;omega
theorem Inv.tuple(I:Inv X pins σ H s)(h:SqT X.K H a xs):∃d_:List Value,Vals xs d_/\IsTup s.heap a d_.toArray/\xs.length<=sizeLine:=by
 rcases h with h | ⟨o,d_,n,hk,hc,hs,hz,r⟩
 ·obtain⟨z,d_,r,p⟩:=h.ok I.hok
  exact⟨d_,r,p,z⟩
 ·refine⟨d_.toList,r,⟨o,I.kIn a o hk,hc,n,by simpa using hs⟩,?_⟩
  have e:=r.length;simp only[Array.length_toList] at e;omega
theorem Inv.list_inj(I:Inv X pins σ H s)(h:SqL X.K H a xs)(h':SqL X.K H a ys):xs=ys:=by
 obtain⟨d_,r,⟨o,n,e,_,_,d⟩,_⟩:=I.list h;obtain⟨l_,b,⟨o',n',e',_,_,d'⟩,_⟩:=I.list h';rw[e] at e';cases e';rw[d] at d';injection d' with d1 _
 have:d_=l_:=by simpa using congrArg Array.toList d1
 subst this;exact r.inj b
theorem Inv.tuple_inj(I:Inv X pins σ H s)(h:SqT X.K H a xs)(h':SqT X.K H a ys):xs=ys:=by
 obtain⟨d_,r,⟨o,e,_,n,d⟩,_⟩:=I.tuple h;obtain⟨l_,b,⟨o',e',_,n',d'⟩,_⟩:=I.tuple h';rw[e] at e';cases e';rw[d] at d';injection d' with d1 _
 have:d_=l_:=by simpa using congrArg Array.toList d1
 subst this;exact r.inj b
end
abbrev Cx.wish(X:Cx)(E:Zb):Cx:={ X with xe:=E }
abbrev Cx.nox(X:Cx):Cx:=X.wish λ_ _=>False
theorem Cx.Ok.wish{X:Cx}(ok:X.Ok)(E:Zb):(X.wish E).Ok:=
 ⟨ok.mod,ok.kind,ok.glob,ok.blt,ok.above,ok.inj,ok.has,ok.cab,ok.hd,ok.frames,ok.stk,ok.exf,ok.bs,ok.bsz,ok.noex,ok.exfs,ok.funs,ok.frf⟩
theorem Cx.Ok.unwish{X:Cx}{E:Zb}(ok:(X.wish E).Ok):X.Ok:=
 ⟨ok.mod,ok.kind,ok.glob,ok.blt,ok.above,ok.inj,ok.has,ok.cab,ok.hd,ok.frames,ok.stk,ok.exf,ok.bs,ok.bsz,ok.noex,ok.exfs,ok.funs,ok.frf⟩
section
variable {X:Cx}{pins:Zc}{σ:St}{H:Hp}{s:Shared}{E:Zb}
theorem Inv.wish(I:Inv X pins σ H s)(E:Zb):Inv (X.wish E) pins σ H s:=⟨I.ok.wish E,I.os,I.bare,I.base,I.loc,I.cell,I.free,I.freeC,I.pin,I.hok,I.len⟩
theorem Inv.unwish(I:Inv (X.wish E) pins σ H s):Inv X pins σ H s:=⟨I.ok.unwish,I.os,I.bare,I.base,I.loc,I.cell,I.free,I.freeC,I.pin,I.hok,I.len⟩
theorem SP.unwish{D:Ends}{f:Flow}{b:Shared}(h:SP (X.wish E) pins D f b):SP X pins D f b:=by
 cases f with
 |next=>obtain⟨a,H',I,q⟩:=h;exact⟨a,H',I.unwish,q⟩
 |brk=>obtain⟨a,H',I,q⟩:=h;exact⟨a,H',I.unwish,q⟩
 |cont=>obtain⟨a,H',I,q⟩:=h;exact⟨a,H',I.unwish,q⟩
 |ret u=>obtain⟨v,a,H',I,r,q⟩:=h;exact⟨v,a,H',I.unwish,r,q⟩
theorem PSs.nox{st:Zu}{t:TS}(h:PSs X.nox st t):PSs X st t:=λpins s σ H D I hw=>
 wpAny_mono (h pins s σ H D (I.wish _) hw) (λ_ _ q=>q.unwish) λ_ _ z=>Yh z
end
section
variable {X:Cx}{st:Stmt}{rest:Zu}{t u:TS}{e:Expr}{te:TE}{pos:Pos}
def E4:TS:=λD σ H=>D.nx σ H
def tSeq(t u:TS):TS:=λD σ H=>t { D with nx:=u D } σ H
theorem Fw:PSs X [] E4:=λ_ _ σ H _ I h=>wpAny_execs_nil ⟨σ,H,I,h⟩
theorem Dy(a:PS X st t)(b:PSs X rest u):PSs X (st::rest) (tSeq t u):=by
 intro pins s σ H D I h;refine wpAny_execs_cons (thn (a pins s σ H { D with nx:=u D } I h) λf s1 q=>?_);cases f with
 |next=>
  obtain⟨c,H',d,q⟩:=q;exact b pins s1 c H' D d q
 |ret v=>exact q
 |brk=>exact q
 |cont=>exact q
theorem Fx:PS X (.Pass pos) E4:=λ_ _ σ H _ I h=>wpAny_Pass ⟨σ,H,I,h⟩
theorem Inv.quiet{pins:Zc}{σ:St}{H:Hp}{s:Shared}(I:Inv X pins σ H s):interactive X.env=false:=by simp[interactive,I.ok.kind]
def Jt(te:TE):TS:=λD σ H=>te σ H λ_ a=>D.nx σ a
theorem Fy(a:PE X e te)(b:swapsWith e none pos.line X.env=pure false:=by rfl):PS X (.Expr e pos) (Jt te):=by
 intro pins s σ H D I h;refine wpAny_Expr_any (thn (a pins s σ H _ I h) λv s1 c=>?_) I.quiet b;obtain⟨x,d,f,j,g⟩:=c;exact⟨σ,d,f,g⟩
def tRet(te:TE):TS:=λD σ H=>te σ H D.rt
theorem Hs(a:PE X e te):PS X (.Return (some e) pos) (tRet te):=by
 intro pins s σ H D I h;refine wpAny_Return_some (thn (a pins s σ H _ I h) λv s1 b=>?_);obtain⟨x,c,d,f,g⟩:=b;exact⟨x,σ,c,d,f,g⟩
def tIfS(c:TT)(t u:TS):TS:=λD σ H=>c σ H λb a=>if b=true then t D σ a else u D σ a
theorem Ju{c:Expr}{a b:Zu}{tc:TT}(hc:PT X c tc)(ha:PSs X a t)(hb:PSs X b u):PS X (.If c a b pos) (tIfS tc t u):=by
 intro pins s σ H D I h;refine wpAny_If (thn (hc pins s σ H _ I h) λd s1 k=>?_);obtain⟨f,g,j⟩:=k;cases d with
 |true=>exact ha pins s1 σ f D g j
 |false=>exact hb pins s1 σ f D g j
end
abbrev TG:=V->St->Hp->(St->Hp->Prop)->Prop
abbrev TGs:=List V->St->Hp->(St->Hp->Prop)->Prop
def PG(X:Cx)(a:Expr)(t:TG):Prop:=
 ∀(pins:Zc) (s:Shared) (σ:St) (H:Hp) (v:V) (u:Value) (Q:St->Hp->Prop),Inv X pins σ H s->RelV v u->t v σ H Q ->
  wpAny 'c' X.A (assign a X.env u) (λ_ c=>∃b H',Inv X pins b H' c/\Q b H') X.xe s
def PGs(X:Cx)(ts:Zg)(t:TGs):Prop:=
 ∀(pins:Zc) (s:Shared) (σ:St) (H:Hp) (vs:List V) (us:Zd) (Q:St->Hp->Prop),Inv X pins σ H s->Vals vs us->t vs σ H Q ->
  wpAny 'c' X.A (assignInOrder ((assignEach ts X.env).map (·.2)) us) (λ_ b=>∃a H',Inv X pins a H' b/\Q a H') X.xe s
abbrev TSet:=V->V->V->Hp->(Hp->Prop)->Prop
def PSet(X:Cx)(t:TSet):Prop:=
 ∀(pins:Zc) (s:Shared) (σ:St) (H:Hp) (o i v:V) (a b u:Value) (Q:Hp->Prop),Inv X pins σ H s->RelV o a->RelV i b->RelV v u->t o i v H Q ->
  wpAny 'c' X.A (setItem a b u) (λ_ c=>∃H',Inv X pins σ H' c/\Q H') X.xe s
section
variable {X:Cx}{pos:Pos}
def xa(i:Nat):TG:=λv σ H Q=>Q (σ.set i (some v)) H
theorem zD{i:Nat}{x:Str}(a:X.N.Nodup)(hi:X.N[i]?=some x)(hx:Loc X.env.scope x)(hf:X.fn x=true\/X.env.scope.names.lookup x=some .local:=by first | exact .inl rfl | exact .inr rfl | assumption):PG X (.Name x pos) (xa i):=by
 intro pins s σ H v u Q I r h;exact wpAny_assign_Name (xq I a hi hx r (λc b=>⟨_,H,b,h⟩) hf)
def gNil:TGs:=λvs σ H Q=>vs=[]/\Q σ H
def E5(t:TG)(u:TGs):TGs:=λvs σ H Q=>∃v r,vs=v::r/\t v σ H λa H'=>u r a H' Q
theorem Fz:PGs X [] gNil:=by
 intro pins s σ H vs us Q I r h;obtain⟨e,h⟩:=h;subst e;cases r;exact assignInOrder_nil ⟨σ,H,I,h⟩
theorem Dz{e:Expr}{es:Zg}{t:TG}{u:TGs}(a:PG X e t)(b:PGs X es u)
  (c:(assignEach (e::es) X.env).map (·.2)=assign e X.env::(assignEach es X.env).map (·.2):=by rfl):PGs X (e::es) (E5 t u):=by
 intro pins s σ H vs us Q I r h;obtain⟨v,n,d,h⟩:=h;subst d;cases r with
 |cons r f=>
  rw[c];refine assignInOrder_cons (thn (a pins s σ H _ _ _ I r h) λ_ s1 g=>?_);obtain⟨j,k,l,m⟩:=g;exact b pins s1 j k _ _ Q l f m
def gTup(K:Za)(n:Nat)(t:TGs):TG:=λv σ H Q=>∃a xs,v=.ref a/\SqT K H a xs/\xs.length=n/\t xs σ H Q
theorem Ht{es:Zg}{k:Nat}{t:TGs}{n:Nat}(hc:X.calm=true)(h:PGs X es t)
  (hn:(assignEach es X.env).length=n:=by rfl) (d:(assignEach es X.env).findIdx? (·.1)=none:=by rfl):PG X (.Tuple es k pos) (gTup X.K n t):=by
 intro pins s σ H v u Q I r hw;obtain⟨a,xs,f,hq,hl,hw⟩:=hw;subst f;cases r;obtain⟨d_,c,ht,hz⟩:=I.tuple hq;refine assign_Tuple_tuple (I.ok.hd hc) ht (by simp[hn,←hl,c.length]) d λh' hx=>?_
 have g:Inv X pins σ H { s with heap:=h' }:=I.kept (t':=s.toks) λb o e=>hx b o (ZT (Ye e)) e
 exact h pins _ σ H xs _ Q g (by simpa using c) hw
def gSub(a b:TE)(t:TSet):TG:=λv σ H Q=>a σ H λo c=>b σ c λi d=>t o i v d λf=>Q σ f
theorem Hu {o i:Expr} {c d:TE} {t:TSet} (ho:PE X o c) (hi:PE X i d) (f:PSet X t)
    (ha:∀ v,assign (.Subscript o i pos) X.env v = (do
      let a ← holding [v] (eval o X.env)
      let b ← holding [v,a] (eval i X.env)
      standAt pos
      holding [v,a,b] (setItem a b v)
      release [v,a,b] []):=by intro _; rfl):PG X (.Subscript o i pos) (gSub c d t):=by
  intro pins s σ H v u Q I r h
  rw [ha]
  refine Yb (Yj (thn (ho pins s σ H _ I h) λa s1 g=>?_))
  obtain ⟨x,j,k,l,m⟩:=g
  refine Yb (Yj (thn (hi pins s1 σ j _ k m) λb s2 n=>?_))
  obtain ⟨y,p,z,A,B⟩:=n
  refine Yb (Yk (Yb (Yj (thn (f pins s2 σ p x y v a b u _ z l A r B) λ_ L C=>?_))))
  obtain ⟨G,J,K⟩:=C
  exact wpAny_release ⟨σ,G,J,K⟩
def tAsg(te:TE)(g:TG):TS:=λD σ H=>te σ H λx a=>g x σ a D.nx
theorem BG{tg e:Expr}{te:TE}{g:TG}(a:PE X e te)(hg:PG X tg g)(b:swapsWithSole [tg] e pos.line X.env=pure false:=by rfl)(hw:swappedStores [tg] e X.env=pure none:=by rfl)
  (c:(assignEach [tg] X.env).map (·.2)=[assign tg X.env]:=by rfl):PS X (.Assign [tg] e pos) (tAsg te g):=by
 intro pins s σ H D I h;refine wpAny_Assign_stores (thn (a pins s σ H _ I h) λv s1 d=>?_) b hw;obtain⟨x,f,j,k,l⟩:=d;rw[c];exact thn (hg pins s1 σ f x v _ j k l) λ_ s2 q=>q
theorem Hv{i:Nat}{x:Str}{e:Expr}{te:TE}{a:Pos}(b:X.N.Nodup)(hi:X.N[i]?=some x)(hx:Loc X.env.scope x)(c:PE X e te)(d:swapsWith e (some (.Name x a)) pos.line X.env=pure false:=by rfl)(hf:X.fn x=true\/X.env.scope.names.lookup x=some .local:=by first | exact .inl rfl | exact .inr rfl | assumption):
  PS X (.Assign [.Name x a] e pos) (tAsg te (xa i)):=by
 intro pins s σ H D I h;refine wpAny_Assign_Name (thn (c pins s σ H _ I h) λv s1 f=>?_) d;obtain⟨y,g,j,k,l⟩:=f;exact xq j b hi hx k (λs2 m=>⟨_,g,m,l⟩) hf
end
section
variable {X:Cx}{pos:Pos}
def Hw(c:TT)(g:TS):TS:=λD σ H=>∃W:Nat->St->Hp->Prop,(∃m,W m σ H)/\∀m σ H,W m σ H ->
 c σ H λb a=>if b=true then ∃N:St->Hp->Prop,(∀d H',N d H'->∃f,f<m/\W f d H')/\g { D with nx:=N,ct:=N,bk:=D.nx } σ a else D.nx σ a
theorem DA{c:Expr}{body:Zu}{tc:TT}{u:TS}(hp:PassesOwn 'c' X.A X.env X.xe)(hc:PT X c tc)(hb:PSs X body u):PS X (.While c body [] pos) (Hw tc u):=by
 intro pins s σ H D I h;obtain⟨W,⟨J,K⟩,a⟩:=h;refine wpAny_While (codeAny_whileLoop (λn L=>∃y H',Inv X pins y H' L/\W n y H') ?_ J ⟨σ,H,I,K⟩);rintro n s1 ⟨j,z,O,P⟩;refine wpAny_passesOwn hp (thn (hc pins s1 j z _ O (a n j z P)) λb s2 R=>?_);obtain⟨B,C,k⟩:=R;cases b with
 |true=>
  obtain⟨N,G,k⟩:=k;rw[if_pos rfl];refine wpAny_passesOwn hp (thn (hb pins s2 j B _ C k) λf S l=>?_);cases f with
  |next=>
   obtain⟨d,g,m,o⟩:=l;obtain⟨p,hm,r⟩:=G d g o;exact⟨p,hm,d,g,m,r⟩
  |cont=>
   obtain⟨d,g,m,o⟩:=l;obtain⟨p,hm,r⟩:=G d g o;exact⟨p,hm,d,g,m,r⟩
  |brk=>exact l
  |ret v=>exact l
 |false=>
  rw[if_neg YC];exact wpAny_execs_nil ⟨j,B,C,k⟩
end
structure It where
 go:Nat->Hp->Prop
 yld:Nat->Hp->V->Hp->Prop
 stop:Nat->Hp->Prop
def FpOk(X:Cx)(pins:Zc)(H:Hp)(b:Addr):Prop:=
 H b=none/\b≠X.env.locals/\b∉X.fs/\(b∈X.ex\/X.s₀.heap.objs.size<=b)/\(∀x c,X.env.cells.lookup x=some c->c≠b)/\∀p∈X.pn++pins,p.1≠b
theorem Inv.fpOk{X:Cx}{pins:Zc}{σ:St}{H H':Hp}{s:Shared}{b:Addr}(I:Inv X pins σ H s)(hb:s.heap.objs.size<=b)(hn:H' b=none):FpOk X pins H' b:=by
 refine⟨hn,Nat.ne_of_gt (ZR I.lt hb),I.nofs hb,.inr (ZW I.sz hb),λx c e z=>?_,λp hp z=>?_⟩
 ·obtain⟨v,q⟩:=I.cell x c e
  exact absurd (ZR q.lt (by rw[z];exact hb)) (ZS _)
 ·exact absurd (ZR (Ye (I.pin p hp).1) (by rw[z];exact hb)) (ZS _)
structure Turn (P:Zw) (w:World) (K:Za) (tg:Expr) (J:It) (fp:Zh) (it:Addr) (tn:Nat->Heap->Prop):Prop where
 mem:it∈fp
 obj:∀i h,tn i h->∀b∈fp,∃o,h.get? b=some o/\∀v,o.data≠.cell v
 keep:∀i h h',tn i h->(∀b∈fp,∀o,h.get? b=some o->h'.get? b=some o)->tn i h'
 item:∀(X:Cx),X.prog=P->X.w=w->X.K=K->X.calm=true->∀(i:Nat) (pins:Zc) (s:Shared) (σ:St) (H:Hp) (E:Zb),Inv X pins σ H s->(∀b∈fp,FpOk X pins H b)->tn i s.heap->J.go i H ->
  wpAny (model P w) X.A (pyNext (.ref it)) (λr s1=>∃u,r=some u /\
   wpAny (model P w) X.A (letOwnedTupleGo tg (.ref it) u) (λ_ s2=>∃x H',Inv X pins σ H' s2/\RelV x u/\J.yld i H x H'/\tn (i+1) s2.heap/\∀b∈fp,H' b=none) E s1) E s
 done:∀(X:Cx),X.prog=P->X.w=w->X.K=K->X.calm=true->∀(i:Nat) (pins:Zc) (s:Shared) (σ:St) (H:Hp) (E:Zb),Inv X pins σ H s->(∀b∈fp,FpOk X pins H b)->tn i s.heap->J.stop i H ->
  wpAny (model P w) X.A (pyNext (.ref it)) (λr s1=>r=none/\Inv X pins σ H s1) E s
 self:∀(A:Around) (i:Nat) (s:Shared) (Q:Zb) (E:Zb),tn i s.heap->Q (.ref it) s->wpAny (model P w) A (pyIter (.ref it)) Q E s
abbrev TI:=St->Hp->(It->Hp->Prop)->Prop
def PIE(X:Cx)(pins:Zc)(σ:St)(tg:Expr)(R:It->Hp->Prop)(a:Value)(s2:Shared):Prop:=
 ∃(it:Addr) (fp:Zh) (tn:Nat->Heap->Prop) (J:It) (H':Hp),a=.ref it/\Inv X pins σ H' s2/\Turn X.prog X.w X.K tg J fp it tn/\tn 0 s2.heap/\(∀b∈fp,FpOk X pins H' b)/\R J H'
def PI(X:Cx)(tg a:Expr)(b:TI):Prop:=
 ∀(pins:Zc) (s:Shared) (σ:St) (H:Hp) (R:It->Hp->Prop),Inv X pins σ H s->b σ H R ->
  wpAny 'c' X.A (eval a X.env) (λv s1=>wpAny 'c' X.A (pyIter v) (PIE X pins σ tg R) X.xe s1) X.xe s
theorem qY {M:Model} {A:Around} {E:Zb} {s:Shared} {tg:Expr} {it:Addr} {u:Value} {o:Obj} {n:String} {vs:Zl} {Q:Zo} (ho:s.heap.get? it = some o) (hc:o.cls = .type n) (hd:o.data = .fields vs)
    (hn:["enumerate","zip","dict_itemiterator","dict_reverseitemiterator","odict_iterator","itertools.zip_longest","itertools.pairwise"].contains n = false) (a:Q () s):wpAny M A (letOwnedTupleGo tg (.ref it) u) Q E s:=by
  unfold letOwnedTupleGo
  cases tg <;> first
    | exact Yc a
    | (cases u <;> first
        | exact Yc a
        | (refine Yb (wpAny_load ho ?_)
           rw [hc,hd]
           show wpAny M A (if (["enumerate","zip","dict_itemiterator","dict_reverseitemiterator","odict_iterator","itertools.zip_longest","itertools.pairwise"].contains n && vs[0]? == some (rawInt _)) = true then _ else _) Q E s
           rw [if_neg (by intro h; rw [hn,YD] at h; cases h)]
           exact Yc a))
def Itl(K:Za)(a:Addr):It:=
 ⟨λi H=>∃xs x,SqL K H a xs/\xs[i]?=some x,λi H x H'=>H'=H/\∀xs,SqL K H a xs->xs[i]?=some x,λi H=>∃xs,SqL K H a xs/\xs.length<=i⟩
def Itt(K:Za)(a:Addr):It:=
 ⟨λi H=>∃xs x,SqT K H a xs/\xs[i]?=some x,λi H x H'=>H'=H/\∀xs,SqT K H a xs->xs[i]?=some x,λi H=>∃xs,SqT K H a xs/\xs.length<=i⟩
def Itr(lo:Int)(n:Nat):It:=⟨λi _=>i<n,λi H x H'=>H'=H/\x=.int (lo+i),λi _=>n<=i⟩
theorem BH{P:Zw}{w:World}{K:Za}{tg:Expr}(a it:Addr):Turn P w K tg (Itl K a) [it] it (λi h=>h.IsListIter it a i) where
 mem:=by simp
 obj:=λi h st b hb=>by
  have e:b=it:=by simpa using hb
  subst e;obtain⟨o,e,c,d⟩:=st;exact⟨o,e,λv z=>by rw[d] at z;cases z⟩
 keep:=λi h h' st k=>st.at λo e=>k it (by simp) o e
 item:=by
  rw[0];obtain⟨xs,x,hq,hx⟩:=hg;obtain⟨d_,f,p,hz⟩:=I.list hq;obtain⟨u,hu,y⟩:=f.get hx;obtain⟨g,j,A,l,m,n⟩:=hf it (by simp);refine wpAny_pyNext_list_item st p.isList (x:=u) (by simpa using hu) λh' r B=>?_
  have C:Inv X pins σ H { s with heap:=h' }:=I.turned (t':=s.toks) (λb o hb e=>(B.2 b hb).trans e) g j l m n;obtain⟨o,e,c,d⟩:=id r;exact⟨u,rfl,qY (s:={ s with heap:=h' }) e c d 'a' ⟨x,H,C,y,⟨rfl,λys hy=>by rw[I.list_inj hy hq];exact hx⟩,r,λb hb=>(hf b hb).1⟩⟩
 done:=by
  rw[0];obtain⟨xs,hq,hx⟩:=hg;obtain⟨d_,f,p,hz⟩:=I.list hq;obtain⟨g,j,A,l,m,n⟩:=hf it (by simp);have hl:=f.length;exact wpAny_pyNext_list_end (I.ok.hd hc) st p.isList (by simp;omega) λh' G=>⟨rfl,I.turned (t':=s.toks) (λb o hb e=>G b o hb e) g j l m n⟩
 self:=λ_ _ _ _ _ st h=>wpAny_pyIter_listiter st h
theorem At{P:Zw}{w:World}{K:Za}{tg:Expr}(a it:Addr):Turn P w K tg (Itt K a) [it] it (λi h=>h.IsTupleIter it a i) where
 mem:=by simp
 obj:=λi h st b hb=>by
  have e:b=it:=by simpa using hb
  subst e;obtain⟨o,e,c,d⟩:=st;exact⟨o,e,λv z=>by rw[d] at z;cases z⟩
 keep:=λi h h' st k=>st.at λo e=>k it (by simp) o e
 item:=by
  rw[0];obtain⟨xs,x,hq,hx⟩:=hg;obtain⟨d_,f,p,hz⟩:=I.tuple hq;obtain⟨u,hu,y⟩:=f.get hx;obtain⟨g,j,A,l,m,n⟩:=hf it (by simp);refine wpAny_pyNext_tuple_item st (show s.heap.IsTuple a d_.toArray from p) (x:=u) (by simpa using hu) λh' r B=>?_
  have C:Inv X pins σ H { s with heap:=h' }:=I.turned (t':=s.toks) (λb o hb e=>(B.2 b hb).trans e) g j l m n;obtain⟨o,e,c,d⟩:=id r;exact⟨u,rfl,qY (s:={ s with heap:=h' }) e c d 'a' ⟨x,H,C,y,⟨rfl,λys hy=>by rw[I.tuple_inj hy hq];exact hx⟩,r,λb hb=>(hf b hb).1⟩⟩
 done:=by
  rw[0];obtain⟨xs,hq,hx⟩:=hg;obtain⟨d_,f,p,hz⟩:=I.tuple hq;obtain⟨g,j,A,l,m,n⟩:=hf it (by simp);have hl:=f.length;exact wpAny_pyNext_tuple_end (I.ok.hd hc) st (show s.heap.IsTuple a d_.toArray from p) (by simp;omega) λh' G=>⟨rfl,I.turned (t':=s.toks) (λb o hb e=>G b o hb e) g j l m n⟩
 self:=λ_ _ _ _ _ st h=>wpAny_pyIter_tupleiter st h
theorem Au{P:Zw}{w:World}{K:Za}{tg:Expr}(it:Addr)(lo:Int)(n:Nat):Turn P w K tg (Itr lo n) [it] it (λi h=>IsRangeIter h it (lo+(i:Nat)*1) ((n:Int)-(i:Nat)) 1) where
 mem:=by simp
 obj:=λi h st b hb=>by
  have e:b=it:=by simpa using hb
  subst e;exact⟨_,st,λv z=>by
   have l:Data.fields _=Data.cell v:=z;cases l⟩
 keep:=λi h h' st k=>k it (by simp) _ st
 item:=by
  rw[0];obtain⟨a,c,m,d,f,g⟩:=hf it (by simp);have W:=Walks.range (prog:=X.prog) (w:=X.w) (I.ok.hd hc) it lo 1 n;refine W.item i s _ _ hg st λv h' tk p j r=>?_
  obtain⟨t,rfl⟩:=p;have u:Inv X pins σ H { s with heap:=h',toks:=tk }:=I.turned (λb o hb e=>r b o (by simpa using hb) e) a c d f g;refine⟨_,rfl,qY (s:={ s with heap:=h',toks:=tk }) (n:="range_iterator") j rfl rfl 'a' ⟨.int (lo+i),H,u,⟨t,?_⟩,⟨rfl,rfl⟩,j,λb hb=>(hf b hb).1⟩⟩;rw[Int.mul_one]
 done:=by
  rw[0];obtain⟨a,c,m,d,f,g⟩:=hf it (by simp);exact wpAny_pyNext_range_end (I.ok.hd hc) st (by have:n<=i:=hg;omega) λh' y=>⟨rfl,I.turned (t':=s.toks) (λb o hb e=>y b o hb e) a c d f g⟩
 self:=λ_ _ _ _ _ st h=>wpAny_pyIter_rangeiter st h
section
variable {X:Cx}{tg:Expr}
theorem DB{pins:Zc}{σ:St}{H:Hp}{s:Shared}{R:It->Hp->Prop}{E:Zb}{lo hi:Int}{t u v:Tok}{tk:Nat}(I:Inv X pins σ H s)(c:-(2 ^ 62)<=lo)(d:lo<2 ^ 62)(f:-(2 ^ 62)<=hi)(g:hi<2 ^ 62)
  (q:R (Itr lo (hi-lo).toNat) H):wpAny 'c' X.A (pyIter (.ref s.heap.objs.size)) (PIE X pins σ tg R) E { s with heap:=s.heap.push { cls:=.type "range",data:=.fields #[.int lo t,.int hi u,.int 1 v] },toks:=tk }:=by
 refine wpAny_pyIter_range (IsRange.new ..) (small_one c d f g) ?_;have a:Inv X pins σ H { s with heap:=s.heap.push { cls:=.type "range",data:=.fields #[.int lo t,.int hi u,.int 1 v] },toks:=tk }:=I.kept λb o e=>Yd _ e
 refine⟨(s.heap.push { cls:=.type "range",data:=.fields #[.int lo t,.int hi u,.int 1 v] }).objs.size,[(s.heap.push { cls:=.type "range",data:=.fields #[.int lo t,.int hi u,.int 1 v] }).objs.size],_,_,H,rfl,
  a.kept (t':=tk) λb o e=>Yd _ e,Au _ lo (hi-lo).toNat,?_,λb hb=>?_,q⟩
 ·have j:lo+((0:Nat):Int)*1=lo:=by simp
  have k:(((hi-lo).toNat:Nat):Int)-((0:Nat):Int)=Builtin.Range.rangeSize lo hi 1:=by rw[rangeSize_one];split<;>omega
  show IsRangeIter _ _ (lo+((0:Nat):Int)*1) ((((hi-lo).toNat:Nat):Int)-((0:Nat):Int)) 1;rw[j,k];exact Yg _ rfl
 ·have e:b=(s.heap.push { cls:=.type "range",data:=.fields #[.int lo t,.int hi u,.int 1 v] }).objs.size:=by simpa using hb
  subst e;exact a.fpOk (YE _) (a.hok.fresh (YE _))
def Jv(a:TA):TI:=λσ H R=>a σ H λvs b=>∃j:Int,vs=[.int j]/\-(2 ^ 62)<=j/\j<2 ^ 62/\R (Itr 0 j.toNat) b
theorem BI{a:Expr}{d:TA}{p b:Pos}(hg:Gl X "range")(hm:X.mg "range" = none)(ha:PA X [a] d)(f:starEach [a] X.env=[(false,eval a X.env)]:=by rfl):PI X tg (.Call (.Name "range" p) [a] [] b) (Jv d):=by
 intro pins s σ H R I h;refine Call_ (dB I hg hm boot_range (PyProof.Rows.callWith_type1 (thn (ha b pins s σ H _ I h) λus s1 g=>?_) f rfl));obtain⟨vs,o,k,l,c⟩:=g;obtain⟨j,e,c,m,q⟩:=c;subst e;cases l with
 |cons r n=>
  cases n;obtain⟨t,rfl⟩:=r;exact call_range_1 (DB k 'b' 'b' c m (by simpa using q))
def tFor(c:TI)(g:TG)(d:TS):TS:=λD σ H=>c σ H λJ f=>∃W:Nat->Nat->St->Hp->Prop,(∃m,W 0 m σ f)/\∀i m σ H,W i m σ H ->
 (J.stop i H/\D.nx σ H)\/(J.go i H/\∃N:St->Hp->Prop,(∀a H',N a H'->∃b,b<m/\W (i+1) b a H')/\∀x H',J.yld i H x H'->g x σ H' λj k=>d { D with nx:=N,ct:=N,bk:=D.nx } j k)
def jU(fp:Zh)(h:Heap):List (Addr×Obj):=fp.filterMap λb=>(h.get? b).map λo=>(b,o)
theorem k6{fp:Zh}{h:Heap}{b:Addr}{o:Obj}(hb:b∈fp)(e:h.get? b=some o):(b,o)∈jU fp h:=List.mem_filterMap.mpr ⟨b,hb,by rw[e];rfl⟩
theorem vT{fp:Zh}{h:Heap}{p:Addr×Obj}(hp:p∈jU fp h):p.1∈fp/\h.get? p.1=some p.2:=by
 obtain⟨b,hb,e⟩:=List.mem_filterMap.mp hp;cases q:h.get? b with
 |none=>rw[q] at e;cases e
 |some o=>
  rw[q] at e;have e':(b,o)=p:=Yi e;subst e';exact⟨hb,q⟩
theorem Inv.pinned{pins:Zc}{σ:St}{H:Hp}{s:Shared}{fp:Zh}(I:Inv X pins σ H s)(hf:∀b∈fp,FpOk X pins H b)(ho:∀b∈fp,∃o,s.heap.get? b=some o/\∀v,o.data≠.cell v):Inv X (pins++jU fp s.heap) σ H s:=
 I.pins_of λp hp=>(YA.mp hp).elim (λz=>I.pin p (YF _ z)) λz=>by
  obtain⟨hb,e⟩:=vT z;obtain⟨a,c,f,_⟩:=hf p.1 hb;obtain⟨o,e',d⟩:=ho p.1 hb;rw[e] at e';cases e';exact⟨e,a,c,f,d⟩
theorem Inv.unpinned{pins a:Zc}{σ:St}{H:Hp}{s:Shared}(I:Inv X (pins++a) σ H s):Inv X pins σ H s:=I.pins_of λp hp=>I.pin p (YF _ (List.mem_append_left _ hp))
theorem Hx{a:Expr}{body:Zu}{R:TI}{g:TG}{S:TS}{G:Pos}(hp:PassesOwn 'c' X.A X.env X.xe)(hc:X.calm=true)(hi:PI X tg a R)(hg:PG X tg g)(hb:PSs X body S)
  (hs:∀x,foldedSetIterable a X.env x=pure x:=by intro _;rfl):PS X (.For tg a body [] G) (tFor R g S):=by
 intro pins s σ H D I h;refine wpAny_For (thn (hi pins s σ H _ I h) λv s1 h1=>thn h1 λQE s2 h2=>?_) hs;obtain⟨it,fp,tn,J,H2,e,I2,T,Ol,U,W,⟨m0,w0⟩,p⟩:=h2;subst e
 -- what stays true of the iterator's objects through the loop
 have K:∀{H':Hp},(∀b∈fp,H' b=none)->∀b∈fp,FpOk X pins H' b:=λhn b hb=>⟨hn b hb,(U b hb).2⟩
 refine codeAny_forLoop_any (λn V=>∃i y H',Inv X pins y H' V/\tn i V.heap/\(∀b∈fp,H' b=none)/\W i n y H') ?_ m0 ⟨0,σ,H2,I2,Ol,λb hb=>(U b hb).1,w0⟩;rintro n Y ⟨i,z,C,Z,Om,Oo,w3⟩;rcases p i n z C w3 with⟨stop,qn⟩ | ⟨go,N,hN,step⟩
 ·refine wpAny_passesOwn hp (thn (T.done X rfl rfl rfl hc i pins Y z C X.xe Z (K Oo) Om stop) λr s4 QG=>?_)
  obtain⟨L,I4⟩:=QG;subst L;exact wpAny_execs_nil ⟨z,C,I4,qn⟩
 ·refine wpAny_passesOwn hp (thn (T.item X rfl rfl rfl hc i pins Y z C X.xe Z (K Oo) Om go) λr s4 QH=>?_)
  obtain⟨u,L,h4⟩:=QH;subst L;refine wpAny_passesOwn hp (thn h4 λ_ s5 QI=>?_);obtain⟨x,H5,I5,r5,y5,O,QJ⟩:=QI;have QK:=I5.pinned (K QJ) (T.obj _ _ O);refine wpAny_passesOwn hp (thn (hg _ s5 z H5 x u _ QK r5 (step x H5 y5)) λ_ s6 QL=>?_);obtain⟨Lg,H6,I6,q6⟩:=QL;refine wpAny_passesOwn hp (thn (hb _ s6 Lg H6 _ I6 q6) λf P l=>?_);have again:∀{c:St}{j:Hp},Inv X (pins++jU fp s5.heap) c j P->N c j->∃m,m<n/\∃i y H',Inv X pins y H' P/\tn i P.heap/\(∀b∈fp,H' b=none)/\W i m y H':=λ{c j} k B=>by
   obtain⟨m',hm,w7⟩:=hN c j B;refine⟨m',hm,i+1,c,j,k.unpinned,T.keep _ _ _ O λb hb o e=>(k.pin (b,o) (YF _ (YF _ (k6 hb e)))).1,λb hb=>?_,w7⟩;obtain⟨o,e,d⟩:=T.obj _ _ O b hb;exact(k.pin (b,o) (YF _ (YF _ (k6 hb e)))).2.1
  cases f with
  |next=>obtain⟨c,j,k,B⟩:=l;exact again k B
  |cont=>obtain⟨c,j,k,B⟩:=l;exact again k B
  |brk=>obtain⟨c,j,k,l⟩:=l;exact⟨c,j,k.unpinned,l⟩
  |ret v=>obtain⟨x7,c,j,k,r7,l⟩:=l;exact⟨x7,c,j,k.unpinned,r7,l⟩
end
abbrev R2:=V->V->Hp->VK->Prop
def OpR(X:Cx)(f:Zk)(r:R2):Prop:=
 ∀(pins:Zc) (s:Shared) (σ:St) (H:Hp) (x y:V) (v u:Value) (Q:VK),Inv X pins σ H s->RelV x v->RelV y u->r x y H Q ->
  wpAny 'c' X.A (f v u) (EP X pins σ Q) X.xe s
def UnR(X:Cx)(f:Value->Sem Value)(r:V->Hp->VK->Prop):Prop:=
 ∀(pins:Zc) (s:Shared) (σ:St) (H:Hp) (x:V) (v:Value) (Q:VK),Inv X pins σ H s->RelV x v->r x H Q ->
  wpAny 'c' X.A (f v) (EP X pins σ Q) X.xe s
def fq(X:Cx)(f:Value)(r:List V->Hp->VK->Prop):Prop:=
 ∀(pins:Zc) (s:Shared) (σ:St) (H:Hp) (xs:List V) (us:Zd) (Q:VK),Inv X pins σ H s->Vals xs us->r xs H Q ->
  wpAny 'c' X.A (call f us) (EP X pins σ Q) X.xe s
def TruR(X:Cx)(r:V->Hp->(Bool->Hp->Prop)->Prop):Prop:=
 ∀(pins:Zc) (s:Shared) (σ:St) (H:Hp) (x:V) (v:Value) (Q:Bool->Hp->Prop),Inv X pins σ H s->RelV x v->r x H Q ->
  wpAny 'c' X.A (truthy v) (TP X pins σ Q) X.xe s
def tOp(r:R2)(a b:TE):TE:=λσ H Q=>a σ H λx c=>b σ c λy d=>r x y d Q
def tUn(r:V->Hp->VK->Prop)(a:TE):TE:=λσ H Q=>a σ H λx b=>r x b Q
def rI(C:Int->Int->Prop)(g:Int->Int->V):R2:=λx y H Q=>∃i j,x=.int i/\y=.int j/\C i j/\Q (g i j) H
def rI0(g:Int->Int->V):R2:=λx y H Q=>∃i j,x=.int i/\y=.int j/\Q (g i j) H
def rU(g:Int->V):V->Hp->VK->Prop:=λx H Q=>∃i,x=.int i/\Q (g i) H
section
variable {X:Cx}{a b c:Expr}{ta tb tc:TE}{pos:Pos}
theorem binT(ha:PE X a ta)(hb:PE X b tb){pins:Zc}{s:Shared}{σ:St}{H:Hp}{R:V->V->Hp->Prop}(I:Inv X pins σ H s)
  (h:ta σ H λx g=>tb σ g λy d=>R x y d){Q:Zb}{f:Zk}
  (hf:∀v u s2 x y d,Inv X pins σ d s2->RelV x v->RelV y u->R x y d->wpAny 'c' X.A (f v u) Q X.xe s2):
  wpAny 'c' X.A (eval a X.env) (λv j=>wpAny 'c' X.A (eval b X.env) (λu k=>wpAny 'c' X.A (f v u) Q X.xe k) X.xe j) X.xe s:=by
 refine thn (ha pins s σ H _ I h) λv s1 l=>?_
 obtain⟨x,g,m,n,o⟩:=l;refine thn (hb pins s1 σ g _ m o) λu s2 p=>?_
 obtain⟨y,d,r,z,B⟩:=p;exact hf v u s2 x y d r n z B
theorem Jw{op:Operator}{r:R2}(ho:OpR X (binaryOp op) r)(ha:PE X a ta)(hb:PE X b tb):PE X (.BinOp a op b pos) (tOp r ta tb):=by
 intro pins s σ H Q I h;exact wpAny_BinOp (binT ha hb I h λv u s2 x y d f g j q=>ho pins s2 σ d x y v u Q f g j q)
theorem E6{op:UnaryOp}{r:V->Hp->VK->Prop}(ho:UnR X (unaryOp op) r)(ha:PE X a ta):PE X (.UnaryOp op a pos) (tUn r ta):=by
 intro pins s σ H Q I h;refine UnaryOp_ (thn (ha pins s σ H _ I h) λv s1 d=>?_);obtain⟨x,f,g,j,k⟩:=d;exact ho pins s1 σ f x v Q g j k
theorem opI{f:Zk}{C:Int->Int->Prop}{g:Int->Int->Int}
  (rule:∀(i j:Int) (t u:Tok) (s:Shared) (Q:Zb) (E:Zb),C i j->Q (.int (g i j) s.toks) { s with toks:=s.toks+1 }->wpAny 'c' X.A (f (.int i t) (.int j u)) Q E s):
  OpR X f (rI C λi j=>.int (g i j)):=by
 intro pins s σ H x y v u Q I d k h;obtain⟨i,j,rfl,rfl,hc,q⟩:=h;obtain⟨t,rfl⟩:=d;obtain⟨t',rfl⟩:=k;exact rule i j t t' s _ _ hc ⟨.int (g i j),H,I.tok _,⟨_,rfl⟩,q⟩
theorem opI0{f:Zk}{g:Int->Int->Int}
  (rule:∀(i j:Int) (t u:Tok) (s:Shared) (Q:Zb) (E:Zb),Q (.int (g i j) s.toks) { s with toks:=s.toks+1 }->wpAny 'c' X.A (f (.int i t) (.int j u)) Q E s):
  OpR X f (rI0 λi j=>.int (g i j)):=by
 intro pins s σ H x y v u Q I d k h;obtain⟨i,j,rfl,rfl,q⟩:=h;obtain⟨t,rfl⟩:=d;obtain⟨t',rfl⟩:=k;exact rule i j t t' s _ _ ⟨.int (g i j),H,I.tok _,⟨_,rfl⟩,q⟩
theorem opB0{f:Zk}{g:Int->Int->Bool}
  (rule:∀(i j:Int) (t u:Tok) (s:Shared) (Q:Zb) (E:Zb),Q (.bool (g i j)) s->wpAny 'c' X.A (f (.int i t) (.int j u)) Q E s):
  OpR X f (rI0 λi j=>.bl (g i j)):=by
 intro pins s σ H x y v u Q I d k h;obtain⟨i,j,rfl,rfl,q⟩:=h;obtain⟨t,rfl⟩:=d;obtain⟨t',rfl⟩:=k;exact rule i j t t' s _ _ ⟨.bl (g i j),H,I,rfl,q⟩
def CDiv(i j:Int):Prop:=0<j/\j<1073741824
def CPow(i j:Int):Prop:=0<=j/\j<=1000000/\i.natAbs<2 ^ 64
def CMul(i j:Int):Prop:=(-(2 ^ 64)<i/\i<2 ^ 64)\/(-(2 ^ 64)<j/\j<2 ^ 64)
theorem CMul.ok{i j:Int}(h:CMul i j):IntMulOk i j:=by
 rcases h with⟨d,f⟩ | ⟨d,f⟩
 ·exact .of_left (intBits_le_64 d f)
 ·exact .of_right (intBits_le_64 d f)
theorem Av(k:Nat):(0:Int)<=2 ^ k:=by
 rw[two_pow_cast];exact Int.natCast_nonneg _
theorem Hy:OpR X (binaryOp .Add) (rI0 λi j=>.int (i+j)):=opI0 λ_ _ _ _ _ _ _ q=>add_int q
theorem Hz:OpR X (binaryOp .Sub) (rI0 λi j=>.int (i-j)):=opI0 λ_ _ _ _ _ _ _ q=>sub_int q
theorem HA:OpR X (binaryOp .Mult) (rI CMul λi j=>.int (i*j)):=opI λ_ _ _ _ _ _ _ hc q=>mul_int q hc.ok
theorem FA:OpR X (binaryOp .FloorDiv) (rI CDiv λi j=>.int (i / j)):=opI λi j _ _ _ _ _ hc q=>by
 have d:(0:Int)<j:=hc.1;have f:j<1073741824:=hc.2;exact floordiv_int 'b' (by rw[Int.fdiv_eq_ediv_of_nonneg i 'b'];exact q) (.inl (PyProof.noPylong_small 'b'))
theorem HB:OpR X (binaryOp .Mod) (rI (λ_ j=>0<j) λi j=>.int (i%j)):=opI λi j _ _ _ _ _ hc q=>by
 have d:(0:Int)<j:=hc;exact mod_int' 'b' (by rw[Int.fmod_eq_emod_of_nonneg i 'b'];exact q)
theorem HC:OpR X (binaryOp .Pow) (rI CPow λi j=>.int (i ^ j.toNat)):=opI λ_ _ _ _ _ _ _ hc q=>pow_int_small hc.1 hc.2.1 hc.2.2 q
theorem HD:OpR X (binaryOp .LShift) (rI CPow λi j=>.int (i*2 ^ j.toNat)):=opI λ_ _ _ _ _ _ _ hc q=>lshift_int_small hc.1 hc.2.1 hc.2.2 q
theorem HE:OpR X (binaryOp .RShift) (rI (λ_ j=>0<=j) λi j=>.int (i / 2 ^ j.toNat)):=opI λi j _ _ _ _ _ hc q=>
 rshift_int hc (by rw[Int.fdiv_eq_ediv_of_nonneg i (Av _)];exact q)
theorem HF:OpR X (binaryOp .BitAnd) (rI0 λi j=>.int (Builtin.bitAnd i j)):=opI0 λ_ _ _ _ _ _ _ q=>and_int q
theorem Jx:OpR X (binaryOp .BitOr) (rI0 λi j=>.int (Builtin.bitOr i j)):=opI0 λ_ _ _ _ _ _ _ q=>or_int q
theorem HG:OpR X (binaryOp .BitXor) (rI0 λi j=>.int (Builtin.bitXor i j)):=opI0 λ_ _ _ _ _ _ _ q=>xor_int q
theorem unI{f:Value->Sem Value}{g:Int->Int}
  (rule:∀(i:Int) (t:Tok) (s:Shared) (Q:Zb) (E:Zb),Q (.int (g i) s.toks) { s with toks:=s.toks+1 }->wpAny 'c' X.A (f (.int i t)) Q E s):
  UnR X f (rU λi=>.int (g i)):=by
 intro pins s σ H x v Q I d h;obtain⟨i,rfl,q⟩:=h;obtain⟨t,rfl⟩:=d;exact rule i t s _ _ ⟨.int (g i),H,I.tok _,⟨_,rfl⟩,q⟩
theorem HH:UnR X (unaryOp .USub) (rU λi=>.int (-i)):=unI λ_ _ _ _ _ q=>neg_int q
theorem HI:UnR X (unaryOp .Invert) (rU λi=>.int (Builtin.bitNot i)):=unI λ_ _ _ _ _ q=>invert_int q
end
section
variable {X:Cx}{a b c:Expr}{ta tb tc:TE}{pos:Pos}
theorem BJ{pins:Zc}{σ:St}{H:Hp}{s:Shared}{Q:VK}{k k':Bool}(I:Inv X pins σ H s)(q:Q (.bl k) H)(e:k=k'):EP X pins σ Q (.bool k') s:=by
 subst e;exact⟨.bl k,H,I,rfl,q⟩
theorem Jy:OpR X (compareOp .Lt) (rI0 λi j=>.bl (decide (i<j))):=opB0 λ_ _ _ _ _ _ _ q=>lt_int q
theorem Jz:OpR X (compareOp .LtE) (rI0 λi j=>.bl (decide (i<=j))):=opB0 λ_ _ _ _ _ _ _ q=>le_int q
theorem JA:OpR X (compareOp .Gt) (rI0 λi j=>.bl (decide (j<i))):=opB0 λ_ _ _ _ _ _ _ q=>gt_int q
theorem JB:OpR X (compareOp .GtE) (rI0 λi j=>.bl (decide (j<=i))):=opB0 λ_ _ _ _ _ _ _ q=>ge_int q
theorem HJ:OpR X (compareOp .Is) (λx y H Q=>y=.non/\Q (.bl (decide (x=.non))) H):=by
 intro pins s σ H x y v u Q I d f h;obtain⟨rfl,q⟩:=h;cases f;refine is_none_gen (BJ I q ?_);cases x<;>first
  |(cases d;rfl)
  |(obtain⟨t,rfl⟩:=d;rfl)
theorem FB:OpR X (compareOp .IsNot) (λx y H Q=>y=.non/\Q (.bl (!decide (x=.non))) H):=by
 intro pins s σ H x y v u Q I d f h;obtain⟨rfl,q⟩:=h;cases f;refine isnot_none_gen (BJ I q ?_);cases x<;>first
  |(cases d;rfl)
  |(obtain⟨t,rfl⟩:=d;rfl)
theorem FC{op:CmpOp}{r:R2}(ho:OpR X (compareOp op) r)(ha:PE X a ta)(hb:PE X b tb)(hm:behindInMarks op b=false):PE X (.Compare a [op] [b] pos) (tOp r ta tb):=by
 intro pins s σ H Q I h;exact wpAny_Compare1 (binT ha hb I h λv u s2 x y d f g j q=>ho pins s2 σ d x y v u Q f g j q) hm
def JC(t:TE):TT:=λσ H Q=>t σ H λx H'=>∃k,x=.bl k/\Q k H'
theorem FD{op:CmpOp}{r:R2}(ho:OpR X (compareOp op) r)(ha:PE X a ta)(hb:PE X b tb)(hm:behindInMarks op b=false):PT X (.Compare a [op] [b] pos) (JC (tOp r ta tb)):=by
 intro pins s σ H Q I h;refine wpAny_isTrue_Compare1 (thn (ha pins s σ H _ I h) λv s1 ⟨x,d,f,g,j⟩=>thn (hb pins s1 σ d _ f j) λu s2 ⟨y,l,m,n,o⟩=>
  thn (ho pins s2 σ l x y v u _ m g n o) λc G ⟨z,p,A,B,k,e,C⟩=>?_) hm
 subst e;cases B;exact wpAny_truthy_bool ⟨p,A,C⟩
def TruV(K:Za)(x:V)(H:Hp)(k:Bool):Prop:=
 match x with
 |.non=>k=false
 |.bl b=>k=b
 |.int i=>k=(i != 0)
 |.str y=>y.length<=sizeLine/\k=((y.length:Int) != 0)
 |.byt y=>y.size<=sizeLine/\k=((y.size:Int) != 0)
 |.ref p=>(∃xs,SqL K H p xs/\k = !xs.isEmpty)\/(∃xs,SqT K H p xs/\k = !xs.isEmpty) \/ ∃d,H p=some (.dK d)/\k = !d.isEmpty
 |_=>False
theorem Aw{d:Type}{f:List (d×V)}{vs:List (d×Value)}(r:KV f vs):(!vs.isEmpty) = !f.isEmpty:=by
 cases r<;>rfl
theorem tf{xs:List V}{d_:Zd}(r:Vals xs d_):(!d_.toArray.isEmpty) = !xs.isEmpty:=by
 cases r<;>simp
theorem lq:(sizeLine:Nat)<2 ^ 63:=by rw[sizeLine_eq];decide
theorem HK:TruR X (λx H Q=>∃k,TruV X.K x H k/\Q k H):=by
 intro pins s σ H x v Q I d h;obtain⟨k,e,q⟩:=h;have hl:=lq;have l:sizeLine=16777216:=sizeLine_eq;cases x with
 |non=>
  cases d;have e':k=false:=e;subst e';exact truthy_none ⟨H,I,q⟩
 |bl b=>
  cases d;have e':k=b:=e;subst e';exact wpAny_truthy_bool ⟨H,I,q⟩
 |int i=>
  obtain⟨t,rfl⟩:=d;have e':k=(i != 0):=e;subst e';exact PySem.P.truthy_int ⟨H,I,q⟩
 |str y=>
  obtain⟨t,rfl⟩:=d;obtain⟨hy,e'⟩:y.length<=sizeLine/\k=((y.length:Int) != 0):=e;subst e';exact PySem.P.truthy_str 'b' ⟨H,I.tok _,q⟩
 |byt y=>
  obtain⟨t,rfl⟩:=d;obtain⟨hy,e'⟩:y.size<=sizeLine/\k=((y.size:Int) != 0):=e;subst e';exact PySem.W.truthy_bytes 'b' ⟨H,I.tok _,q⟩
 |ref p=>
  cases d;have e':(∃xs,SqL X.K H p xs/\k = !xs.isEmpty)\/(∃xs,SqT X.K H p xs/\k = !xs.isEmpty) \/ ∃f,H p=some (.dK f)/\k = !f.isEmpty:=e;rcases e' with⟨xs,hx,e'⟩ | ⟨xs,hx,e'⟩ | ⟨f,hx,e'⟩
  ·subst e'
   obtain⟨d_,r,g,hz⟩:=I.list hx;have j:=r.length;exact wpAny_truthy_list g.isList (by simp only[YG];omega) ⟨H,I.tok _,by rw[tf r];exact q⟩
  ·subst e'
   obtain⟨d_,r,g,hz⟩:=I.tuple hx;have j:=r.length;exact truthy_tuple g (by simp only[YG];omega) ⟨H,I.tok _,by rw[tf r];exact q⟩
  ·subst e'
   obtain⟨hz,hS,vs,r,m⟩:f.length<=sizeLine/\(p==sysModules)=false/\∃vs,KV f vs/\s.heap.DictOf (bx X.prog X.w) p vs:=I.hok p _ hx;have j:f.length=vs.length:=Paired.length r;exact wpAny_truthy_dict hS m 'b' ⟨H,I.tok _,by rw[Aw r];exact q⟩
 |_=>exact(show False from e).elim
theorem DC(ha:PE X a ta)(f:∀d,isTrue a X.env d=(do let v ←d;standAt a.pos;holding [v] (truthy v))):
  PT X a (λσ H Q=>ta σ H λx H'=>∃k,TruV X.K x H' k/\Q k H'):=by
 intro pins s σ H Q I h;refine isTrue_plain (thn (ha pins s σ H _ I h) λv s1 g=>?_) (f _);obtain⟨x,j,l,m,n⟩:=g;exact HK pins s1 σ j x v Q l m n
theorem Ax:OpR X (binaryOp .Add) (λx y H Q=>∃i j,x=.str i/\y=.str j/\i.length+j.length<=sizeLine/\Q (.str (i++j)) H):=by
 intro pins s σ H x y v u Q I d f h;obtain⟨i,j,rfl,rfl,hz,q⟩:=h;obtain⟨t,rfl⟩:=d;obtain⟨t',rfl⟩:=f;exact add_str (λt' tk=>⟨.str (i++j),H,I.tok _,⟨_,rfl⟩,q⟩) hz
theorem vals1{x:V}{us:Zd}(r:Vals [x] us):∃u,us=[u]/\RelV x u:=by
 cases r with
 |cons d f=>cases f;exact⟨_,rfl,d⟩
theorem vals2{x y:V}{us:Zd}(r:Vals [x,y] us):∃u d,us=[u,d]/\RelV x u/\RelV y d:=by
 cases r with
 |cons f g=>
  cases g with
  |cons j k=>cases k;exact⟨_,_,rfl,f,j⟩
theorem BK(hc:X.calm=true):fq X (.builtin "max") (λxs H Q=>∃i j,xs=[.int i,.int j]/\Q (.int (if j>i then j else i)) H):=by
 intro pins s σ H xs us Q I r h;obtain⟨i,j,rfl,q⟩:=h;obtain⟨u,f,rfl,⟨t,rfl⟩,⟨t',rfl⟩⟩:=vals2 r;refine max_two_ints (I.ok.hd hc) λh' tk k=>⟨_,H,I.kept k,?_,q⟩
 by_cases d:j>i
 ·rw[if_pos d,if_pos d];exact⟨_,rfl⟩
 ·rw[if_neg d,if_neg d];exact⟨_,rfl⟩
theorem BL(hc:X.calm=true):fq X (.builtin "min") (λxs H Q=>∃i j,xs=[.int i,.int j]/\Q (.int (if j<i then j else i)) H):=by
 intro pins s σ H xs us Q I r h;obtain⟨i,j,rfl,q⟩:=h;obtain⟨u,f,rfl,⟨t,rfl⟩,⟨t',rfl⟩⟩:=vals2 r;refine min_two_ints (I.ok.hd hc) λh' tk k=>⟨_,H,I.kept k,?_,q⟩
 by_cases d:j<i
 ·rw[if_pos d,if_pos d];exact⟨_,rfl⟩
 ·rw[if_neg d,if_neg d];exact⟨_,rfl⟩
end
structure ObjM (h:Heap) (x dx C:Addr) (mA:Ze):Prop where
 obj:h.get? x=some (PySem.W.instObj C dx)
 ns:h.Ns1 dx mA
 ne:dx≠x
theorem BM{h:Heap}{dx:Addr}{mA:Ze}(n:h.Ns1 dx mA):∃od,h.get? dx=some od/\∀name,PySem.W.lookIn name od=some (mA name):=by
 obtain⟨o,es,c,ho,hd,hk,_,hm⟩:=n;refine⟨o,ho,λname=>?_⟩;have e:=hm name;unfold nsFind findBy at e;rw[←Array.find?_toList] at e;unfold PySem.W.lookIn;rw[hd];dsimp only;split
 ·rename_i y q
  rw[q] at e;exact congrArg some e
 ·rename_i q
  rw[q] at e;have a:es.toList.any (·.refKey)=false:=by
   rw[List.any_eq_false];intro y hy;obtain⟨z,t,b⟩:=hk y (Array.mem_toList_iff.mp hy);simp[DictEntry.refKey,b]
  have a':¬es.toList.any (·.refKey)=true:=by rw[a];exact YC
  rw[if_neg a'];exact congrArg some e
theorem ObjM.look{h:Heap}{x dx C:Addr}{mA:Ze}(I:ObjM h x dx C mA):∃od,PySem.W.InstAt h x (PySem.W.instObj C dx) C (some od)/\∀name,PySem.W.lookIn name od=some (mA name):=
 let⟨od,ho,hl⟩:=BM I.ns;⟨od,⟨I.obj,rfl,rfl,ho⟩,hl⟩
section
variable {prog:Zw}{w:World}{A:Around}{E:Zb}{s:Shared}{K:Za}{x dx C f:Addr}{mA:Ze}{name:Str}{v:Value}
theorem FE{expr:Bool}{Q:Zb}(X:K.In s.heap)(I:ObjM s.heap x dx C mA)(hg:PySem.W.plainGet K C name=true)(a:PySem.W.hasDictIn K C=true)
  (ha:PySem.W.findIn K (.ref C) name=some none) (b:mA name=some v) (c:PySem.W.handedIn v=true) (h:Q v { s with toks:=s.toks+1 }):
  wpAny (model prog w) A (getAttr (.ref x) name expr) Q E s:=by
 obtain⟨od,J,hl⟩:=I.look;exact PySem.W.get_value X J (PySem.W.plainGet_of hg).1 (PySem.W.findObj_own a ha rfl (by rw[hl,b])) c h
theorem DE{a:Sem Bool}{Q:Value×List Value->Shared->Prop}(X:K.In s.heap)(I:ObjM s.heap x dx C mA)(hg:PySem.W.plainGet K C name=true)
  (hf:PySem.W.findIn K (.ref C) name=some (some (.ref f))) (ht:PySem.W.isFn K (.ref f)=true) (b:mA name=none) (h:Q (.ref f,[.ref x]) s):
  wpAny (model prog w) A (getMethod (.ref x) name a) Q E s:=by
 obtain⟨od,J,hl⟩:=I.look;exact PySem.W.method_fn X J (PySem.W.plainGet_of hg).1 (PySem.W.plainGet_of hg).2 hf (beq_iff_eq.mp ht) (by show(PySem.W.lookIn name od).map (·.isSome)=some false;rw[hl,b];rfl) h
theorem FF{ns:Zf}{Q:Zo}(X:K.In s.heap)(I:ObjM s.heap x dx C mA)
  (g:PySem.W.findIn K (.ref C) "__setattr__" = some (some (.builtin "object.__setattr__"))) (hp:PySem.W.plainOver K C=true) (ht:PySem.W.takerIn K C name=some none) (j:PySem.W.hasDictIn K C=true)
  (hw:PySem.Within mA ns) (hsz:ns.length<=sizeLine)
  (h:∀h',ObjM h' x dx C (λy=>if y=name then some v else mA y)->Heap.SameBut dx s.heap h'->Q () { s with heap:=h',toks:=s.toks+2 }):
  wpAny (model prog w) A (setAttr (.ref x) name v) Q E s:=by
 obtain⟨od,J,hl⟩:=I.look;refine PySem.W.set_plain X J g (PySem.W.osa_open (s:={ s with toks:=s.toks+1 }) (r:=none) X J hp ht λb=>?_);obtain⟨o,hc,k⟩:=PySem.W.any_some j;have hx:s.heap.get? x=some ⟨.ref C,some dx,.plain,#[]⟩:=I.obj;refine Yb (Yc (Yb (Yb (wpAny_loadPart hx (Yb (PySem.W.Looks.here (s:={ s with toks:=s.toks+1 }) (PySem.W.looks_clsIn X hc) ?_))))));rw[k];refine Yc (a:=some dx) (Yb (Yc (Yb ?_)));refine wpAny_nsSet1 (s:={ s with toks:=s.toks+1 }) I.ns λh' c d=>?_
 obtain⟨p,u,z,l,m,n⟩:=c.count (PySem.Within.cons name v hw);refine Yb (wpAny_lookBehind l (by rw[m];exact pastItsLine_dict (ZW n (by rw[YH];omega))) ?_);exact Yc (h _ ⟨(d.2 _ (Ne.symm I.ne)).trans I.obj,c,I.ne⟩ d)
theorem DF{R:Result->Shared->Prop}{vs:Zd}{a:List (Str×Value)}(X:K.In s.heap)(hm:PySem.W.makesIn K C=true)
  (hi:PySem.W.findIn K (.ref C) "__init__" = some (some (.ref f))) (hf:PySem.W.typeIn K (.ref f)=some (.type "function"))
  (h:codeAny (model prog w) (A.under (.builtin "type.__call__" ⟨.ref C::vs,a⟩)) (.call (.ref f) ⟨.ref (s.heap.objs.size+1)::vs,a⟩) (PySem.W.InitBack (s.heap.objs.size+1) R)
   { s with heap:=(s.heap.push PySem.W.emptyDict).push (PySem.W.instObj C s.heap.objs.size) }):
  codeAny (model prog w) A (.call (.ref C) ⟨vs,a⟩) R s:=by
 obtain⟨b,g,d,t,os⟩:=s;exact PySem.W.make_core (PySem.W.makes_of X hm) (PySem.W.looks_findIn X hi) (λself=>PySem.W.bind_fn X self hf) (.inl rfl) h
end
def putF(f:Str)(v:V):List (Str×V)->List (Str×V)
 |[]=>[(f,v)]
 |(g,x)::r=>if g=f then(g,v)::r else(g,x)::putF f v r
theorem rX(f g:Str)(v:V):∀fs:List (Str×V),(putF f v fs).lookup g=if g=f then some v else fs.lookup g
 |[]=>by
  show List.lookup g [(f,v)]=_;by_cases h:g=f
  ·have hb:(g==f)=true:=beq_iff_eq.mpr h
   simp only[List.lookup,hb,if_pos h]
  ·have hb:(g==f)=false:=ZQ.mpr h
   simp only[List.lookup,hb,if_neg h]
 |(k,x)::r=>by
  have a:=rX f g v r;rw[show putF f v ((k,x)::r)=(if k=f then(k,v)::r else(k,x)::putF f v r) from rfl];by_cases hk:k=f
  ·rw[if_pos hk]
   by_cases h:g=k
   ·have hb:(g==k)=true:=beq_iff_eq.mpr h
    simp only[List.lookup,hb,if_pos (h.trans hk)]
   ·have hb:(g==k)=false:=ZQ.mpr h
    simp only[List.lookup,hb,if_neg (λe:g=f=>h (e.trans hk.symm))]
  ·rw[if_neg hk]
   by_cases h:g=k
   ·have hb:(g==k)=true:=beq_iff_eq.mpr h
    simp only[List.lookup,hb,if_neg (λe:g=f=>hk (h.symm.trans e))]
   ·have hb:(g==k)=false:=ZQ.mpr h
    simp only[List.lookup,hb];exact a
theorem qh(f:Str)(v:V):∀fs:List (Str×V),f∈(putF f v fs).map (·.1)/\∀g,g∈fs.map (·.1)->g∈(putF f v fs).map (·.1)
 |[]=>⟨by simp[putF],λg h=>by simp at h⟩
 |(k,x)::r=>by
  obtain⟨a,b⟩:=qh f v r;rw[show putF f v ((k,x)::r)=(if k=f then(k,v)::r else(k,x)::putF f v r) from rfl];by_cases hk:k=f
  ·rw[if_pos hk]
   subst hk;exact⟨by simp,λg h=>by simpa using h⟩
  ·rw[if_neg hk]
   refine⟨?_,λg h=>?_⟩
   ·rw[YJ]
    exact ZY _ a
   ·rw[YJ] at h ⊢
    rcases ZZ.mp h with e | e
    ·exact ZZ.mpr (.inl e)
    ·exact ZY _ (b g e)
theorem rY(f:Str)(v:V):∀fs:List (Str×V),(putF f v fs).length<=fs.length+1
 |[]=>by simp[putF]
 |(k,x)::r=>by
  have a:=rY f v r;rw[show putF f v ((k,x)::r)=(if k=f then(k,v)::r else(k,x)::putF f v r) from rfl];by_cases hk:k=f
  ·rw[if_pos hk,YH,YH];omega
  ·rw[if_neg hk,YH,YH];omega
theorem RelO.some_of{v:V}{o:Zx}(r:RelO (some v) o):∃u,o=some u/\RelV v u:=by
 cases o with
 |none=>exact(show False from r).elim
 |some u=>exact⟨u,rfl,r⟩
theorem RelO.none_of{o:Zx}(r:RelO none o):o=none:=by
 cases o with
 |none=>rfl
 |some u=>exact(show False from r).elim
theorem BN{v:V}{u:Value}(r:RelV v u):PySem.W.handedIn u=true:=by
 cases v with
 |non=>cases(show u=Value.none from r);rfl
 |bl b=>cases(show u=Value.bool b from r);rfl
 |int i=>obtain⟨t,e⟩:=(show ∃t,u=Value.int i t from r);cases e;rfl
 |str x=>obtain⟨t,e⟩:=(show ∃t,u=Value.str x t from r);cases e;rfl
 |byt b=>obtain⟨t,e⟩:=(show ∃t,u=Value.bytes b t from r);cases e;rfl
 |flt b=>obtain⟨t,e⟩:=(show ∃t,u=Value.float b t from r);cases e;rfl
 |ref a=>cases(show u=Value.ref a from r);rfl
 |ty n=>cases(show u=Value.type n from r);rfl
section
variable {P:Zw}{w:World}{H H':Hp}{h h':Heap}{a C dx:Addr}{fs MU:List (Str×V)}
theorem qZ(hok:HOk P w H h)(e:H a=some (.ins C dx fs)):∃mA,ObjM h a dx C mA/\(∀f,RelO (fs.lookup f) (mA f))/\PySem.Within mA (fs.map (·.1))/\fs.length<=1000/\H dx=some (.own a):=by
 obtain⟨d,z,ne,b,mA,n,r,q⟩:=(show a0 P w H h a (.ins C dx fs) from hok a _ e);exact⟨mA,⟨b,n,ne⟩,r,q,z,d⟩
end
structure Cls (K:Za) (C:Addr):Prop where
 pg:PySem.W.plainGet K C Str.empty=true
 hd:PySem.W.hasDictIn K C=true
 po:PySem.W.plainOver K C=true
 sa:PySem.W.findIn K (.ref C) "__setattr__" = some (some (.builtin "object.__setattr__"))
theorem Cls.get{K:Za}{C:Addr}(c:Cls K C)(f:Str):PySem.W.plainGet K C f=true:=c.pg
def cm(K:Za)(C:Addr)(f:Str):Prop:=PySem.W.findIn K (.ref C) f=some none
theorem cm.taker{K:Za}{C:Addr}{f:Str}(n:cm K C f):PySem.W.takerIn K C f=some none:=by
 unfold PySem.W.takerIn;rw[show PySem.W.findIn K (.ref C) f=some none from n];rfl
structure Meth (K:Za) (C:Addr) (m:Str) (f:Addr):Prop where
 at_:PySem.W.findIn K (.ref C) m=some (some (.ref f))
 fn:PySem.W.isFn K (.ref f)=true
 kp:PySem.W.keepIn K (.ref f)=true
section
variable {X:Cx}{pins:Zc}{σ:St}{H:Hp}{s:Shared}{a C dx:Addr}{fs:List (Str×V)}{f:Str}{v:V}{A:Around}{E:Zb}
theorem Ay{b:Bool}{Q:Zb}(I:Inv X pins σ H s)(e:H a=some (.ins C dx fs))(c:Cls X.K C)(n:cm X.K C f)(l:fs.lookup f=some v)
  (h:∀u d,Inv X pins σ H d->RelV v u->Q u d):wpAny 'c' A (getAttr (.ref a) f b) Q E s:=by
 obtain⟨mA,O,r,_,_,_⟩:=qZ I.hok e;obtain⟨u,hu,g⟩:=RelO.some_of (v:=v) (o:=mA f) (by rw[←l];exact r f);exact FE I.kIn O (c.get f) c.hd n hu (BN g) (h u _ (I.tok _) g)
theorem tj{m:Str}{g:Addr}{b:Sem Bool}{Q:Value×List Value->Shared->Prop}(I:Inv X pins σ H s)(e:H a=some (.ins C dx fs))(c:Cls X.K C)(k:Meth X.K C m g)(l:fs.lookup m=none)
  (h:Q (.ref g,[.ref a]) s):wpAny 'c' A (getMethod (.ref a) m b) Q E s:=by
 obtain⟨mA,O,r,_,_,_⟩:=qZ I.hok e;have hn:mA m=none:=RelO.none_of (by rw[←l];exact r m);exact DE I.kIn O (c.get m) k.at_ k.fn hn h
theorem Az{y:V}{u:Value}{Q:Zo}(I:Inv X pins σ H s)(e:H a=some (.ins C dx fs))(c:Cls X.K C)(n:cm X.K C f)(hl:fs.length<1000)(l:RelV y u)
  (h:∀j,Inv X pins σ (upd H a (.ins C dx (putF f y fs))) j->Q () j):wpAny 'c' A (setAttr (.ref a) f u) Q E s:=by
 obtain⟨mA,O,r,k,_,ho⟩:=qZ I.hok e;have hz:(fs.map (·.1)).length<=sizeLine:=by rw[ZE,sizeLine_eq];omega
 refine FF I.kIn O c.sa c.po n.taker c.hd k hz λh' d m=>h _ ?_
 have hd:∃o,h'.get? dx=some o:=let⟨o,_,_,e',_⟩:=d.ns;⟨o,e'⟩;refine I.write (x:=a) (e:=dx) (by rw[e];exact True.intro) (.inr ho) (λb q hb z=>(m.2 b hb).trans z) hd ?_;refine⟨by rw[aK O.ne];exact ho,?_,O.ne,d.obj,_,d.ns,λg=>?_,λg hg=>?_⟩
 ·have:=rY f y fs;omega
 ·show RelO ((putF f y fs).lookup g) (if g=f then some u else mA g)
  rw[rX];by_cases q:g=f
  ·rw[if_pos q,if_pos q];exact l
  ·rw[if_neg q,if_neg q];exact r g
 ·by_cases q:g=f
  ·rw[q];exact(qh f y fs).1
  ·refine(qh f y fs).2 g (k g λz=>hg ?_)
   show(if g=f then some u else mA g)=none;rw[if_neg q];exact z
theorem Inv.made(I:Inv X pins σ H s):Inv X pins σ (upd (upd H s.heap.objs.size (.own (s.heap.objs.size+1))) (s.heap.objs.size+1) (.ins C s.heap.objs.size []))
  { s with heap:=(s.heap.push PySem.W.emptyDict).push (PySem.W.instObj C s.heap.objs.size) }:=by
 have c:(s.heap.push PySem.W.emptyDict).get? s.heap.objs.size=some PySem.W.emptyDict:=Yg s.heap rfl;have d:((s.heap.push PySem.W.emptyDict).push (PySem.W.instObj C s.heap.objs.size)).get? (s.heap.objs.size+1)=some (PySem.W.instObj C s.heap.objs.size):=by
  have:=Yg (s.heap.push PySem.W.emptyDict) (o:=PySem.W.instObj C s.heap.objs.size) rfl
  rwa [Heap.size_push] at this
 have g:(s.heap.push PySem.W.emptyDict).Ns s.heap.objs.size (λ_=>none):=⟨PySem.W.emptyDict,#[],_,c,rfl,(λe j=>absurd j (by simp)),λ_=>rfl⟩;have k:=I.laid (a:=s.heap.objs.size) (o:=.own (s.heap.objs.size+1)) (h':=s.heap.push PySem.W.emptyDict) (t':=s.toks) (λb u q=>Yd _ q) (YE _) ⟨_,c⟩;refine k.laid (a:=s.heap.objs.size+1) (o:=.ins C s.heap.objs.size []) (t':=s.toks) (λb u q=>Yd _ q) (Nat.le_of_eq (Heap.size_push _ _)) ?_;have ne:s.heap.objs.size≠s.heap.objs.size+1:=ZT (YK _);refine⟨by rw[aK ne,aG],YL _,ne,d,λ_=>none,(Heap.Ns1.of_empty g).at λo q=>Yd _ q,λ_=>True.intro,λy hy=>absurd rfl hy⟩
theorem FG{prog:Zw}{w:World}{env:Env}{e:Expr}{f:Str}{b:Pos}{s:Shared}{Q:Zb}(hb:attributeBase e f env (eval e env)=eval e env)
  (h:wpAny (model prog w) A (eval e env) (λo c=>wpAny (model prog w) A (getAttr o f true) Q E c) E s):wpAny (model prog w) A (eval (.Attribute e f b) env) Q E s:=
 Attribute_any_ h (by rw[arm_eval_Attribute,hb])
end
def tFld(K:Za)(c:TE)(f:Str):TE:=λσ H Q=>c σ H λx b=>∃a C dx fs v,x=.ref a/\b a=some (.ins C dx fs)/\Cls K C/\cm K C f/\fs.lookup f=some v/\Q v b
def sFld(K:Za)(c d:TE)(f:Str):TS:=λD σ H=>d σ H λy g=>c σ g λx b=>∃a C dx fs,x=.ref a/\b a=some (.ins C dx fs)/\Cls K C/\cm K C f/\fs.length<1000 /\
 D.nx σ (upd b a (.ins C dx (putF f y fs)))
section
variable {X:Cx}{o e value:Expr}{f:Str}{pos pos' Vl:Pos}{ta tv:TE}
theorem HL(b:PE X e ta)(hb:attributeBase e f X.env (eval e X.env)=eval e X.env):PE X (.Attribute e f pos) (tFld X.K ta f):=by
 intro pins s σ H Q I h;refine FG hb (thn (b pins s σ H _ I h) λu s1 d=>?_);obtain⟨x,g,j,k,a,C,dx,fs,v,ex,m,c,n,l,q⟩:=d;subst ex;obtain rfl:u=Value.ref a:=k;exact Ay j m c n l λy s2 p r=>⟨v,g,p,r,q⟩
theorem HM(ha:PE X o ta)(b:PE X value tv)(d:swapsWith value (some (.Attribute o f pos')) pos.line X.env=pure false):PS X (.Assign [.Attribute o f pos'] value pos) (sFld X.K ta tv f):=by
 intro pins s σ H D I h;refine plainObj_wpAny_Assign_Attribute (thn (b pins s σ H _ I h) λu s1 g=>?_) d;obtain⟨y,j,k,m,q⟩:=g;refine thn (ha pins s1 σ j _ k q) λp s2 r=>?_
 obtain⟨x,L,z,A,a,C,dx,fs,ex,B,c,n,l,G⟩:=r;subst ex;obtain rfl:p=Value.ref a:=A;exact Az z B c n l m λO J=>⟨σ,_,J,G⟩
end
section
variable {X:Cx}{pins:Zc}{σ:St}{H:Hp}{s:Shared}{A:Around}{E:Zb}{Q:Zb}{c:Value}{b:Bool}
inductive TyOf (K:Za) (H:Hp):V->Value->Prop where
 |non:TyOf K H .non (.type "NoneType")
 |bl (x:Bool):TyOf K H (.bl x) (.type "bool")
 |int (i:Int):TyOf K H (.int i) (.type "int")
 |str (x:Str):TyOf K H (.str x) (.type "str")
 |flt (x:UInt64):TyOf K H (.flt x) (.type "float")
 |lst {a:Addr}{xs:List V}(e:H a=some (.lst xs)):TyOf K H (.ref a) (.type "list")
 |frz {a:Addr}{o:Obj}{xs:List V}(e:H a=some (.frz o (.lst xs))):TyOf K H (.ref a) (.type "list")
 |tup {a:Addr}{xs:List V}(e:H a=some (.tup xs)):TyOf K H (.ref a) (.type "tuple")
 |dK {a:Addr}{b_:List (Key×V)}(e:H a=some (.dK b_)):TyOf K H (.ref a) (.type "dict")
 |dT {a:Addr}{b_:List (List Key×V)}(e:H a=some (.dT b_)):TyOf K H (.ref a) (.type "dict")
 |ins {a C dx:Addr}{fs:List (Str×V)}(e:H a=some (.ins C dx fs)) (cl:Cls K C) (ha:PySem.W.findIn K (.ref C) "__class__" = some (some (.builtin "object.__class__")))
   (hn:PySem.W.specialIn K (.builtin "object.__class__") "__get__" = some (some (.builtin "getset_descriptor.__get__"))) (Ud:PySem.W.takesIn K (.builtin "object.__class__")=some true)
   (hm:PySem.W.mroIn K C (.type "object")=some true):TyOf K H (.ref a) (.ref C)
theorem gW{x:V}{u t:Value}(I:Inv X pins σ H s)(d:RelV x u)(ty:TyOf X.K H x t)(e:PySem.W.kitOne X.K t c=some b)(h:∀tk,Q (.bool b) { s with toks:=tk }):
  wpAny 'c' A (call (.builtin "isinstance") [u,c]) Q E s:=by
 cases ty with
 |non=>cases(show u=Value.none from d);exact PySem.W.kia_one PySem.W.kitx_none I.kIn True.intro e (λz=>nomatch z) h
 |bl y=>cases(show u=Value.bool y from d);exact PySem.W.kia_one PySem.W.kitx_bool I.kIn True.intro e (λz=>nomatch z) h
 |int i=>obtain⟨t,q⟩:=(show ∃t,u=Value.int i t from d);cases q;exact PySem.W.kia_one PySem.W.kitx_int I.kIn True.intro e (λz=>nomatch z) h
 |str y=>obtain⟨t,q⟩:=(show ∃t,u=Value.str y t from d);cases q;exact PySem.W.kia_one PySem.W.kitx_str I.kIn True.intro e (λz=>nomatch z) h
 |flt y=>obtain⟨t,q⟩:=(show ∃t,u=Value.float y t from d);cases q;exact PySem.W.kia_one PySem.W.kitx_float I.kIn True.intro e (λz=>nomatch z) h
 |@lst a xs f=>
  cases(show u=Value.ref a from d);obtain⟨_,_,n,_,g⟩:=(show a0 X.prog X.w H s.heap a (.lst xs) from I.hok a _ f);exact PySem.W.kia_one PySem.W.kitx_list I.kIn ⟨_,g,rfl⟩ e (λz=>nomatch z) h
 |@frz a l xs f=>
  cases(show u=Value.ref a from d);obtain⟨_,_,_,n,_,g⟩:=(show a0 X.prog X.w H s.heap a (.frz l (.lst xs)) from I.hok a _ f);exact PySem.W.kia_one PySem.W.kitx_list I.kIn ⟨_,g,rfl⟩ e (λz=>nomatch z) h
 |@tup a xs f=>
  cases(show u=Value.ref a from d);obtain⟨_,_,_,p⟩:=(show a0 X.prog X.w H s.heap a (.tup xs) from I.hok a _ f);obtain⟨o,g,j,_⟩:=p;exact PySem.W.kia_one PySem.W.kitx_tuple I.kIn ⟨o,g,j⟩ e (λz=>nomatch z) h
 |@dK a k f=>
  cases(show u=Value.ref a from d);obtain⟨_,_,vs,_,p⟩:=(show a0 X.prog X.w H s.heap a (.dK k) from I.hok a _ f);obtain⟨o,es,m,g,j,_⟩:=p;exact PySem.W.kia_one PySem.W.kitx_dict I.kIn ⟨o,g,j.1⟩ e (λz=>nomatch z) h
 |@dT a k f=>
  cases(show u=Value.ref a from d);obtain⟨_,_,xs,_,o,es,m,g,j,_⟩:=(show a0 X.prog X.w H s.heap a (.dT k) from I.hok a _ f);exact PySem.W.kia_one PySem.W.kitx_dict I.kIn ⟨o,g,j.1⟩ e (λz=>nomatch z) h
 |@ins a C dx fs f cl ha hn r hm=>
  cases(show u=Value.ref a from d);obtain⟨mA,O,_⟩:=qZ I.hok f;obtain⟨od,J,_⟩:=O.look;exact PySem.W.kia_one (PySem.W.kitx_own (cl.get _) cl.hd ha hn r hm) I.kIn J e (λz=>nomatch z) h
end
structure Room (k:Nat) (A:Around):Prop where
 hd:A.handled=none
 dp:A.depth+3*k+5<recursionLimit
 un:A.units+16*k+200<cLine
theorem Room.mono{j k:Nat}{A:Around}(r:Room k A)(h:j<=k):Room j A:=⟨r.hd,by have:=r.dp;omega,by have:=r.un;omega⟩
theorem Room.deeper{k:Nat}{A:Around}(r:Room (k+1) A)(env:Env):Room k (A.deeper env):=
 ⟨r.hd,by have:=r.dp;show A.depth+1+3*k+5<_;omega,by have:=r.un;show A.units+3+16*k+200<_;omega⟩
theorem AA{A:Around}{C:Addr}{us:Zd}{a:List (Str×Value)}:(A.under (.builtin "type.__call__" ⟨.ref C::us,a⟩)).depth=A.depth+1:=by
 first | rfl | simp[Around.under,Code.weight,Code.isCreation,Code.isGuard,Code.isCaller,Code.frames,Code.isFrame,guardIds]
theorem AB{A:Around}{C:Addr}{us:Zd}{a:List (Str×Value)}:(A.under (.builtin "type.__call__" ⟨.ref C::us,a⟩)).units=A.units+1:=by
 first | rfl | simp[Around.under,Code.cUnits,Code.frames,Code.isFrame]
theorem Room.make{k:Nat}{A:Around}(r:Room (k+1) A)(C:Addr)(us:Zd)(a:List (Str×Value)):Room k (A.under (.builtin "type.__call__" ⟨.ref C::us,a⟩)):=
 ⟨r.hd,by have:=r.dp;rw[AA];omega,by have:=r.un;rw[AB];omega⟩
theorem Room.depth{k:Nat}{A:Around}(r:Room k A):A.depth<recursionLimit:=by have:=r.dp;omega
theorem Room.units{k:Nat}{A:Around}(r:Room k A):A.units+64<cLine:=by have:=r.un;omega
def tNil:TA:=λ_ H Q=>Q [] H
def JD(a:TE)(b:TA):TA:=λσ H Q=>a σ H λx c=>b σ c λxs d=>Q (x::xs) d
section
variable {X:Cx}{e:Expr}{es:Zg}{te:TE}{t:TA}{pos:Pos}
theorem HN:PA X [] tNil:=λ_ _ _ _ H Q I h=>Calls.spliced_nil ⟨[],H,I,.nil,h⟩
theorem FH(ha:PE X e te)(a:PA X es t)(b:starEach (e::es) X.env=(false,eval e X.env)::starEach es X.env:=by rfl):PA X (e::es) (JD te t):=by
 intro pos pins s σ H Q I h;rw[b];show wpAny _ _ (spliced ((false,eval e X.env)::backTo pos (starEach es X.env))) _ _ s;refine Calls.spliced_cons (thn (ha pins s σ H _ I h) λu s1 c=>?_);obtain⟨x,d,f,g,j⟩:=c;refine thn (a pos pins s1 σ d _ f j) λus s2 k=>?_
 obtain⟨xs,l,m,n,o⟩:=k;exact⟨x::xs,l,m,.cons g n,o⟩
def tTup(t:TA):TE:=λσ H Q=>t σ H λxs a=>xs.length<=sizeLine/\∀p,a p=none->Q (.ref p) (upd a p (.tup xs))
def tLst(t:TA):TE:=λσ H Q=>t σ H λxs a=>xs.length<=sizeLine/\∀p,a p=none->Q (.ref p) (upd a p (.lst xs))
theorem HP{x1}(h:PA X es t):PE X (.Tuple es x1 pos) (tTup t):=by
 intro pins s σ H Q I hq;refine wpAny_Tuple_spliced (thn (h pos pins s σ H _ I hq) λus s1 ⟨xs,a,c,r,z,q⟩=>⟨by rw[←r.length];exact z,?_⟩);have hf:a s1.heap.objs.size=none:=c.hok.fresh (YE _);refine⟨.ref s1.heap.objs.size,upd a s1.heap.objs.size (.tup xs),c.laid (t':=s1.toks) (λb u e=>Yd _ e) (YE _) ?_,rfl,q _ hf⟩;exact⟨z,us,r,⟨_,Yg _ rfl,rfl,_,rfl⟩⟩
theorem HQ(h:PA X es t):PE X (.List es pos) (tLst t):=by
 intro pins s σ H Q I hq;refine wpAny_List_spliced (thn (h pos pins s σ H _ I hq) λus s1 ⟨xs,a,c,r,z,q⟩=>⟨by rw[←r.length];exact z,?_⟩);have hf:a s1.heap.objs.size=none:=c.hok.fresh (YE _);refine⟨.ref s1.heap.objs.size,upd a s1.heap.objs.size (.lst xs),c.laid (t':=s1.toks) (λb u e=>Yd _ e) (YE _) ?_,rfl,q _ hf⟩;exact⟨z,us,0,r,Yg _ rfl⟩
end
abbrev Sp:=List V->Hp->VK->XK->Prop
abbrev CXT:=List Env->Hp->Shared->XK->Value->Shared->Prop
structure Env0 (P:Zw) (w:World) (K:Za) (mg:Ze) (base:Heap) (A:Around) (outer:List Env) (s:Shared) (H:Hp):Prop where
 frames:A.frames=some outer
 mod:Mod K mg base
 bs:∀b o,base.get? b=some o->s.heap.get? b=some o/\H b=none
 bsz:base.objs.size<=s.heap.objs.size
 funs:s.heap.FunFrames base outer
 frf:∀b∈frs outer,H b=none
 hok:HOk P w H s.heap
 bare:AllBare s.gens
def CE(outer:List Env)(P:Zw)(w:World)(H:Hp)(s:Shared)(Q:VK)(u:Value)(a:Shared):Prop:=
 ∃v H',a.os=s.os/\AllBare a.gens/\Un (frs outer) [] H H' s.heap a.heap/\HOk P w H' a.heap/\RelV v u/\Q v H'
def CR(CX:CXT)(outer:List Env)(P:Zw)(w:World)(H:Hp)(s:Shared)(Q:VK)(E:XK)(r:Result)(a:Shared):Prop:=
 match r with
 |.ok (.ret u)=>CE outer P w H s Q u a
 |.ok _=>False
 |.error e=>CX outer H s E e a
structure FnOk (P:Zw) (w:World) (K:Za) (mg:Ze) (base:Heap) (CX:CXT) (k:Nat) (f:Addr) (fd:Zv) (ps:Zf) (sp:Sp):Prop where
 len:∀vs H Q E,sp vs H Q E->vs.length=ps.length
 run:∀(A:Around) (outer:List Env) (s:Shared) (H:Hp) (args:Args) (us:Zd) (vs:List V) (Q:VK) (E:XK),Room k A->Env0 P w K mg base A outer s H->BindsTo s fd args (ps.zip us)->Vals vs us->sp vs H Q E ->
  codeAny (model P w) A (.call (.ref f) args) (CR CX outer P w H s Q E) s
theorem Env0.make{P:Zw}{w:World}{K:Za}{mg:Ze}{base:Heap}{A:Around}{outer:List Env}{s:Shared}{H:Hp}(e:Env0 P w K mg base A outer s H)(C:Addr)(us:Zd)(a:List (Str×Value)):
  Env0 P w K mg base (A.under (.builtin "type.__call__" ⟨.ref C::us,a⟩)) outer s H:=⟨by first | exact e.frames | (simpa [Around.under,Code.envs,Code.isFrame,pushEnvs] using e.frames),e.mod,e.bs,e.bsz,e.funs,e.frf,e.hok,e.bare⟩
section
variable {X:Cx}{pins:Zc}{σ:St}{H:Hp}{s s':Shared}
theorem Inv.env0(I:Inv X pins σ H s):Env0 X.prog X.w X.K X.mg X.base X.A X.stack s H:=
 ⟨I.ok.frames,I.ok.mod,I.bs,ZW I.ok.bsz I.sz,I.stack,I.stkFree,I.hok,I.bare⟩
theorem Inv.after{Q:VK}{u:Value}(I:Inv X pins σ H s)(h:CE X.stack X.prog X.w H s Q u s'):EP X pins σ Q u s':=by
 obtain⟨v,H',os,bare,un,hok,r,q⟩:=h;obtain⟨a,g,d,t,c⟩:=s';obtain rfl:c=s.os:=os;exact⟨v,H',I.call (h':=a) (g':=g) (d':=d) (t':=t) (ch:=[]) un hok bare (λb z=>absurd z (by simp)),r,q⟩
end
def E7(sp:Sp)(a:List V)(E:XK)(t:TA):TE:=λσ H Q=>t σ H λvs b=>sp (vs++a) b Q E
def JE(C:Addr)(sp:Sp)(b:List V)(E:XK)(t:TA):TE:=λσ H Q=>t σ H λvs a=>∀x dx,a x=none->a dx=none->dx≠x ->
 sp (.ref x::(vs++b)) (upd (upd a dx (.own x)) x (.ins C dx [])) (λv c=>v=.non/\Q (.ref x) c) E
def Binds(K:Za)(fd:Zv)(ps:Zf)(ds:Zd):Prop:=
 ∀(s:Shared) (us:Zd),K.In s.heap->(us++ds).length=ps.length->BindsTo s fd ⟨us,[]⟩ (ps.zip (us++ds))
theorem Binds.all{K:Za}{fd:Zv}{ps:Zf}(h:∀us:List Value,us.length=ps.length->bindArgs fd ⟨us,[]⟩=pure (ps.zip us)):Binds K fd ps []:=λs us _ hl=>by
 rw[ZA] at hl ⊢;exact .of_eq (h us hl)
def qi(CX:CXT)(X:Cx)(E:XK):Prop:=∀(pins:Zc) (σ:St) (H:Hp) (s:Shared) (e:Value) (a:Shared),Inv X pins σ H s->CX X.stack H s E e a->X.xe e a
section
variable {X:Cx}{CX:CXT}{k:Nat}{f C:Addr}{fd:Zv}{ps:Zf}{sp:Sp}{KA:List V}{ds:Zd}{E:XK}{x m:Str}{p pos m_:Pos}{e o:Expr}{es:Zg}{ta:TE}{t:TA}
theorem xr{pins:Zc}{σ:St}{H:Hp}{s:Shared}{Q:VK}{us:Zd}{vs:List V}(F:FnOk X.prog X.w X.K X.mg X.base CX k f fd ps sp)(b:Room k X.A)(hb:Binds X.K fd ps ds)(hd:Vals KA ds)(hx:qi CX X E)
  (I:Inv X pins σ H s) (r:Vals vs us) (h:sp (vs++KA) H Q E):wpAny 'c' X.A (call (.ref f) us) (EP X pins σ Q) X.xe s:=by
 have a:Vals (vs++KA) (us++ds):=r.append hd;have hl:(us++ds).length=ps.length:=by rw[←a.length];exact F.len _ _ _ _ h
 refine wpAny_call (codeAny_mono (F.run X.A X.stack s H ⟨us,[]⟩ (us++ds) (vs++KA) Q E b I.env0 (hb s us I.kIn hl) a h) λr c hq=>?_);cases r with
 |error e=>exact hx pins σ H s e c I hq
 |ok fl=>
  cases fl with
  |ret u=>exact I.after hq
  |next=>exact Yh hq
  |brk=>exact Yh hq
  |cont=>exact Yh hq
theorem FI(F:FnOk X.prog X.w X.K X.mg X.base CX k f fd ps sp)(b:Room k X.A)(hg:Gl X x)(hm:X.mg x=some (.ref f))(hk:PySem.W.keepIn X.K (.ref f)=true)(hb:Binds X.K fd ps ds)(hd:Vals KA ds)(hx:qi CX X E)
  (ha:PA X (e::es) t) (c:(x==("__debug__" : Str))=false:=by decide) (d:starEach (e::es) X.env=(false,eval e X.env)::starEach es X.env:=by rfl) (g:(backTo pos (starEach es X.env)).any (·.1)=false:=by rfl):
  PE X (.Call (.Name x p) (e::es) [] pos) (E7 sp KA E t):=by
 intro pins s σ H Q I h;refine wpAny_Call_Name_kw (u7 I hg hm ?_ c);refine PySem.W.callWith_K (h₀:=X.base) I.ok.mod.kin hk (thn (ha pos pins s σ H _ I h) λus s1 j=>?_) d g;obtain⟨vs,l,a,r,q⟩:=j;refine⟨a.kIn,?_⟩;exact xr F b hb hd hx a r q
structure Mk (K:Za) (C f:Addr):Prop where
 makes:PySem.W.makesIn K C=true
 init:PySem.W.findIn K (.ref C) "__init__" = some (some (.ref f))
 fn:PySem.W.isFn K (.ref f)=true
 kp:PySem.W.keepIn K (.ref C)=true
theorem DG{pins:Zc}{σ:St}{H:Hp}{s:Shared}{Q:VK}{us:Zd}{vs:List V}(M:Mk X.K C f)(F:FnOk X.prog X.w X.K X.mg X.base CX k f fd ps sp)(d:Room (k+1) X.A)(hb:Binds X.K fd ps ds)(hd:Vals KA ds)
  (hx:qi CX X E) (I:Inv X pins σ H s) (r:Vals vs us)
  (h:∀x dx,H x=none->H dx=none->dx≠x->sp (.ref x::(vs++KA)) (upd (upd H dx (.own x)) x (.ins C dx [])) (λv g=>v=.non/\Q (.ref x) g) E):
  wpAny 'c' X.A (call (.ref C) us) (EP X pins σ Q) X.xe s:=by
 have hq:=h (s.heap.objs.size+1) s.heap.objs.size (I.hok.fresh (YM _)) (I.hok.fresh (YE _)) (ZT (YK _));have b:=Inv.made (C:=C) I;have c:Vals (V.ref (s.heap.objs.size+1)::(vs++KA)) (Value.ref (s.heap.objs.size+1)::(us++ds)):=.cons rfl (r.append hd);have hl:(Value.ref (s.heap.objs.size+1)::us++ds).length=ps.length:=by
  have e:=c.length;rw[F.len _ _ _ _ hq] at e;exact e.symm
 refine wpAny_call (DF (f:=f) I.kIn M.makes M.init (beq_iff_eq.mp M.fn) (codeAny_mono (F.run _ X.stack _ _ ⟨Value.ref (s.heap.objs.size+1)::us,[]⟩ (Value.ref (s.heap.objs.size+1)::(us++ds)) _ _ E (d.make C us [])
  (b.env0.make C us []) (hb _ (Value.ref (s.heap.objs.size+1)::us) b.kIn hl) c hq) λr j a=>?_))
 cases r with
 |error e=>exact hx pins σ _ _ e j b a
 |ok fl=>
  cases fl with
  |ret u=>
   obtain⟨v,H',l,n,y,z⟩:=b.after a;subst y;exact⟨n,⟨V.ref (s.heap.objs.size+1),H',l,rfl,z⟩⟩
  |next=>exact Yh a
  |brk=>exact Yh a
  |cont=>exact Yh a
theorem FJ(M:Mk X.K C f)(F:FnOk X.prog X.w X.K X.mg X.base CX k f fd ps sp)(b:Room (k+1) X.A)(hg:Gl X x)(hm:X.mg x=some (.ref C))(hb:Binds X.K fd ps ds)(hd:Vals KA ds)(hx:qi CX X E)
  (ha:PA X (e::es) t) (c:(x==("__debug__" : Str))=false:=by decide) (d:starEach (e::es) X.env=(false,eval e X.env)::starEach es X.env:=by rfl) (g:(backTo pos (starEach es X.env)).any (·.1)=false:=by rfl):
  PE X (.Call (.Name x p) (e::es) [] pos) (JE C sp KA E t):=by
 intro pins s σ H Q I h;refine wpAny_Call_Name_kw (u7 I hg hm ?_ c);refine PySem.W.callWith_K (h₀:=X.base) I.ok.mod.kin M.kp (thn (ha pos pins s σ H _ I h) λus s1 j=>?_) d g;obtain⟨vs,l,a,r,q⟩:=j;refine⟨a.kIn,?_⟩;exact DG M F b hb hd hx a r q
end
structure FnScope (N P:Zf) (sc:Scope):Prop where
 kind:sc.kind=.function
 co:sc.isCoroutine=false
 gen:sc.isGenerator=false
 nd:N.Nodup
 pre:N.take P.length=P
 par:∀x∈P,sc.names.lookup x=some .local \/ sc.names.lookup x=some .cell
 nofree:∀y∈sc.names,y.2≠.free
theorem vU{kindOf:Str->Option NameKind}{x:Str}:∀{binds:List (Str×Value)}{m:Ze},(∀v,(x,v)∉binds)->bindL kindOf binds m x=m x
 |[],_,_=>rfl
 |(n,v)::r,m,h=>by
  unfold bindL;rw[vU λw hw=>h w (ZY _ hw)];split
  ·have:x≠n:=by rintro rfl;exact h v ZX
   simp[this]
  ·rfl
theorem vV{kindOf:Str->Option NameKind}{x:Str}:∀{binds:List (Str×Value)}{m:Ze},(∀v,(x,v)∉binds)->bindC kindOf binds m x=m x
 |[],_,_=>rfl
 |(n,v)::r,m,h=>by
  unfold bindC;rw[vV λw hw=>h w (ZY _ hw)];split
  ·rfl
  ·have:x≠n:=by rintro rfl;exact h v ZX
   simp[this]
theorem vW{kindOf:Str->Option NameKind}{x:Str}{v:Value}:∀{P:Zf}{vs:Zd}{i:Nat}{m:Ze},P.Nodup->P[i]?=some x->vs[i]?=some v->kindOf x=some .local ->
  bindL kindOf (P.zip vs) m x=some v
 |[],_,_,_,_,h,_,_=>by simp at h
 |_::_,[],_,_,_,_,h,_=>by simp at h
 |p::P,w::vs,0,m,nd,a,b,hk=>by
  simp at a b;subst a;subst b;show bindL kindOf ((p,w)::P.zip vs) m p=_;unfold bindL;rw[vU λv c=>(YN.mp nd).1 (List.of_mem_zip c).1,if_pos hk];simp
 |p::P,w::vs,i+1,m,nd,a,b,hk=>by
  show bindL kindOf ((p,w)::P.zip vs) m x=_;unfold bindL;exact vW (i:=i) (YN.mp nd).2 (by simpa using a) (by simpa using b) hk
theorem vX{kindOf:Str->Option NameKind}{x:Str}{v:Value}:∀{P:Zf}{vs:Zd}{i:Nat}{m:Ze},P.Nodup->P[i]?=some x->vs[i]?=some v->kindOf x≠some .local ->
  bindC kindOf (P.zip vs) m x=some v
 |[],_,_,_,_,h,_,_=>by simp at h
 |_::_,[],_,_,_,_,h,_=>by simp at h
 |p::P,w::vs,0,m,nd,a,b,hk=>by
  simp at a b;subst a;subst b;show bindC kindOf ((p,w)::P.zip vs) m p=_;unfold bindC;rw[vV λv c=>(YN.mp nd).1 (List.of_mem_zip c).1,if_neg hk];simp
 |p::P,w::vs,i+1,m,nd,a,b,hk=>by
  show bindC kindOf ((p,w)::P.zip vs) m x=_;unfold bindC;exact vX (i:=i) (YN.mp nd).2 (by simpa using a) (by simpa using b) hk
def start(N:Zf)(vs:List V):St:=vs.map some++List.replicate (N.length-vs.length) none
def cxOf(CX:CXT)(P:Zw)(w:World)(K:Za)(mg:Ze)(base:Heap)(N:Zf)(i_:Str)(scope:Scope)(f:Addr)(a:Value)(A:Around)(outer:List Env)(s:Shared)(H:Hp)(E:XK):Cx where
 prog:=P
 w:=w
 K:=K
 mg:=mg
 base:=base
 A:=A.deeper (envOfC i_ scope s.heap.objs.size f a)
 N:=N
 s₀:=s
 H₀:=H
 env:=envOfC i_ scope s.heap.objs.size f a
 outer:=outer
 stack:=envOfC i_ scope s.heap.objs.size f a::outer
 ex:=[]
 calm:=true
 fn:=λ_=>true
 pn:=[]
 xe:=λe c=>wpAny (model P w) (A.deeper (envOfC i_ scope s.heap.objs.size f a)) (leaving (envOfC i_ scope s.heap.objs.size f a) e) (λ_ b=>CX outer H s E e b) (λe' b=>CX outer H s E e' b) c
theorem xt{sc:Scope}{n:Nat}{x:Str}(h:sc.names.lookup x=some .cell):∃c,(cellsFrom n sc.names []).lookup x=some c:=by
 have q:=PySem.W.cellsFrom_some sc.names n [] (.inl h);exact YQ.mp q
theorem BO{CX:CXT}{P:Zw}{w:World}{K:Za}{mg:Ze}{base:Heap}{N ps:Zf}{i_:Str}{scope:Scope}{f:Addr}{j:Value}{A:Around}{outer:List Env}{s s1:Shared}{H:Hp}{E:XK}{us:Zd}{vs:List V}
  (S:FnScope N ps scope) (hd:A.handled=none) (g:Env0 P w K mg base A outer s H) (hl:vs.length=ps.length) (r:Vals vs us)
  (x:InCallC s s.heap.objs.size (bindL (envOfC i_ scope s.heap.objs.size f j).kindOf (ps.zip us) λ_=>none) (cellsFrom (s.heap.objs.size+1) scope.names []) (bindC (envOfC i_ scope s.heap.objs.size f j).kindOf (ps.zip us) λ_=>none) s1):
  Inv (cxOf CX P w K mg base N i_ scope f j A outer s H E) [] (start N vs) H s1:=by
 have C:ps.length<=N.length:=by have:=congrArg List.length S.pre;rw[YS] at this;omega
 obtain⟨l,tk,rfl,hk⟩:=x.done;have m:∀b:Addr,b∉(cxOf CX P w K mg base N i_ scope f j A outer s H E).ex:=λb z=>absurd (show b∈([]:List Addr) from z) (by simp)
 refine⟨⟨g.mod,S.kind,rfl,rfl,YE _,λy z c l d=>?_,λy hy=>?_,λy c _ h=>?_,λ_=>hd,Around.frames_deeper g.frames,.inr ⟨rfl,rfl⟩,λb z=>absurd z (m b),g.bs,g.bsz,λb _ _=>m b,λb z=>absurd z (m b),g.funs,g.frf⟩,
  rfl,g.bare,Un.kept hk,⟨_,x.toInCall.ns,λi y v l d G=>?_⟩,λy c h=>⟨_,x.cell y c h⟩,g.hok.fresh (YE _),λy c h=>?_,λp hp=>absurd (show p∈([]:List (Addr×Obj)) from hp) (by simp),g.hok.kept hk,?_⟩
 ·exact name_of_addr x.apart (PySem.mem_of_lookup l) (PySem.mem_of_lookup d)
 ·have hy:scope.names.lookup y=some .cell\/scope.names.lookup y=some .free:=hy
  rcases hy with hy | hy
  ·exact xt hy
  ·exact absurd rfl (S.nofree _ (PySem.mem_of_lookup hy))
 ·exact Nat.le_of_lt (x.above y c (PySem.mem_of_lookup h))
 ·have hi:i<vs.length:=by
   unfold start at d;by_cases hi:i<vs.length
   ·exact hi
   ·rw[ZG (by simpa using hi)] at d
    rw[List.getElem?_replicate] at d;split at d<;>cases d
  have ha:vs[i]?=some v:=by
   unfold start at d;rw[ZD (by simpa using hi),ZF] at d;cases e:vs[i]? with
   |none=>rw[e] at d;cases d
   |some a=>rw[e] at d;cases d;rfl
  obtain⟨u,hu,B⟩:=r.get ha;have hp:ps[i]?=some y:=by
   rw[←S.pre,List.getElem?_take_of_lt 'b'];exact l
  have o:ps.Nodup:=by rw[←S.pre];exact S.nd.sublist (List.take_sublist _ _)
  refine⟨u,B,?_⟩;rcases S.par y (YT hp) with k | k
  ·exact .inl ⟨k,vW o hp hu k⟩
  ·obtain⟨c,e⟩:=xt (n:=s.heap.objs.size+1) k
   refine .inr ⟨.inl k,c,e,?_⟩;have q:=x.cell y c e;rw[vX o hp hu (by show scope.names.lookup y≠_;rw[k];decide)] at q;exact q
 ·exact g.hok.fresh (Nat.le_of_lt (x.above y c (PySem.mem_of_lookup h)))
 ·unfold start
  show _=N.length;rw[ZJ,ZE,List.length_replicate];omega
theorem JF{CX:CXT}{P:Zw}{w:World}{K:Za}{mg:Ze}{base:Heap}{k:Nat}{f:Addr}{name i_:Str}{a:Arguments}{body:Zu}{scope:Scope}{z kV r_ pm p_ ct oc:Value}{an od:Zm}
  {G_:Zn}{N ps:Zf}{sp:Sp}(G:K.lookup f=some ⟨oc,od,.func (PySem.W.fnOf name i_ a body scope z kV r_ pm an p_ ct),G_⟩) (L:PySem.W.codeIn K p_ i_=true) (S:FnScope N ps scope)
  (len:∀vs H Q E,sp vs H Q E->vs.length=ps.length)
  (O:∀(A:Around) (outer:List Env) (s:Shared) (H:Hp) (vs:List V) (Q:VK) (E:XK),Room k (A.deeper (envOfC i_ scope s.heap.objs.size f p_))->sp vs H Q E ->
   ∃t,PSs (cxOf CX P w K mg base N i_ scope f p_ A outer s H E) body t/\t { nx:=λ_ H'=>Q .non H',rt:=Q } (start N vs) H):
  FnOk P w K mg base CX (k+1) f (PySem.W.fnOf name i_ a body scope z kV r_ pm an p_ ct) ps sp:=by
 refine⟨len,λA outer s H args us vs Q E j d hb r B=>?_⟩;have hl:=len _ _ _ _ B;have C:K.In s.heap:=d.mod.kin.keeps λb o e=>(d.bs b o e).1
 have l:s.heap.NoLimit:=d.mod.nolimit.keeps λb o e=>(d.bs b o e).1
 have R:∀y∈ps.zip us,scope.names.lookup y.1=some .local \/ (scope.names.lookup y.1=some .cell/\((cellsFrom (s.heap.objs.size+1) scope.names []).lookup y.1).isSome=true):=λ⟨n,v⟩ hy=>by
  rcases S.par n (List.of_mem_zip hy).1 with q | q
  ·exact .inl q
  ·exact .inr ⟨q,PySem.W.cellsFrom_some _ _ _ (.inl q)⟩
 refine codeAny_call_function j.depth (C _ _ G) rfl S.co S.gen rfl (PySem.W.codeRec_of C L) (hb _ _ _ _ ?_);refine wpAny_newFunctionEnv_cells S.kind R λenv T s1 x=>?_
 subst T;refine⟨l.keeps x.toInCall.keep,codeAny_func ?_⟩;obtain⟨t,ht,hq⟩:=O A outer s H vs Q E (j.deeper _) B;have I:Inv (cxOf CX P w K mg base N i_ scope f p_ A outer s H E) [] (start N vs) H s1:=BO S j.hd d hl r x;refine wpAny_mono (ht [] s1 (start N vs) H _ I hq) (λfl m c=>?_) λe m c=>c
 have fin:∀{g:St}{H':Hp}{v:V}{u:Value},Inv (cxOf CX P w K mg base N i_ scope f p_ A outer s H E) [] g H' m->RelV v u->Q v H'->CE outer P w H s Q u m:=
  λ{g H' v u} J p q=>⟨v,H',J.os,J.bare,J.base,J.hok,p,q⟩
 cases fl with
 |ret u=>
  obtain⟨v,g,H',J,p,q⟩:=c;exact fin J p q
 |next=>
  obtain⟨g,H',J,q⟩:=c;exact fin (v:=V.non) (u:=Value.none) J rfl q
 |brk=>
  obtain⟨_,_,_,q⟩:=c;exact Yh q
 |cont=>
  obtain⟨_,_,_,q⟩:=c;exact Yh q
section
variable {X:Cx}{x:Str}{p pos:Pos}{e:Expr}{es:Zg}{t:TA}{id T:String}{r:List V->Hp->VK->Prop}
def tCB(r:List V->Hp->VK->Prop)(t:TA):TE:=λσ H Q=>t σ H λvs a=>r vs a Q
theorem DH(hc:fq X (.builtin id) r)(hg:Gl X x)(hm:X.mg x=none)(a:bootBuiltins x=some (.builtin id))(ha:PA X (e::es) t)(hn:x ≠ "__name__":=by decide)(b:(x==("__debug__" : Str))=false:=by decide)
  (c:starEach (e::es) X.env=(false,eval e X.env)::starEach es X.env:=by rfl) (d:(backTo pos (starEach es X.env)).any (·.1)=false:=by rfl):PE X (.Call (.Name x p) (e::es) [] pos) (tCB r t):=by
 intro pins s σ H Q I h;refine wpAny_Call_Name_kw (dB I hg hm a ?_ hn b);refine PyProof.Rows.callWith_builtin1 (thn (ha pos pins s σ H _ I h) λus s1 f=>?_) c d;obtain⟨vs,g,j,k,l⟩:=f;exact hc pins s1 σ g vs us Q j k l
theorem BP(hc:fq X (.type T) r)(hg:Gl X x)(hm:X.mg x=none)(a:bootBuiltins x=some (.type T))(ha:PA X (e::es) t)(hn:x ≠ "__name__":=by decide)(b:(x==("__debug__" : Str))=false:=by decide)
  (c:starEach (e::es) X.env=(false,eval e X.env)::starEach es X.env:=by rfl) (d:(backTo pos (starEach es X.env)).any (·.1)=false:=by rfl):PE X (.Call (.Name x p) (e::es) [] pos) (tCB r t):=by
 intro pins s σ H Q I h;refine wpAny_Call_Name_kw (dB I hg hm a ?_ hn b);refine PyProof.Rows.callWith_type1 (thn (ha pos pins s σ H _ I h) λus s1 f=>?_) c d;obtain⟨vs,g,j,k,l⟩:=f;exact hc pins s1 σ g vs us Q j k l
end
end L2
namespace HT
open PySem PyProof.Rows
def lexLt:List Int->List Int->Bool
 |[],[]=>false
 |[],_::_=>true
 |_::_,[]=>false
 |x::xs,y::ys=>if x=y then lexLt xs ys else decide (x<y)
theorem oJ(x y:Int)(xs ys:Zi):lexLt (x::xs) (y::ys)=if x=y then lexLt xs ys else decide (x<y):=rfl
theorem pJ:lexLt [] []=false:=rfl
theorem u8(y:Int)(ys:Zi):lexLt [] (y::ys)=true:=rfl
theorem u9(x:Int)(xs:Zi):lexLt (x::xs) []=false:=rfl
theorem DI(A:Around)(s:Shared)(a:Int)(t:Tok)(c:Int)(u:Tok):∃e,SeqAt.EqAt A s (.int a t) (.int c u) e/\(e=true↔a=c):=
 ⟨(a==c),SeqAt.EqAt.int_int a t c u,by simp⟩
theorem DJ(A:Around)(s:Shared)(a:Int)(t:Tok)(c:Int)(u:Tok)(prog:Zw)(w:World)(E:Zb)(Q:Zb)(h:Q (.bool (decide (a<c))) s):
  wpAny (model prog w) A (richCompare .Lt (.int a t) (.int c u)) Q E s:=
 (PyProof.Rows.lt_int h:wpAny (model prog w) A (compareOp .Lt (.int a t) (.int c u)) Q E s)
section
open PySem.SeqAt
open PySem.AutoSeq1 (wpAny_loadPart')
open PySem.MeetsSeq PySem.MeetsSeq2 PySem.MeetsSeq3
theorem wB(l b:Addr)(f j:Zl)(n G:Nat)(J K:Zm)(sl L:Zn)(ns o:Zi)(hi:IntsAre f.toList ns)(z:IntsAre j.toList o):
  Meets (Builtin.«tuple.__lt__» ⟨[.ref l,.ref b],[]⟩)
   (λ_ R s=>s.heap.get? l=some { cls:=.type "tuple",dict:=J,data:=.seq f n,slots:=sl }/\s.heap.get? b=some { cls:=.type "tuple",dict:=K,data:=.seq j G,slots:=L } /\
    R (.ok (.ret (.bool (lexLt ns o)))) s):=
 .of_wp λprog w A R s h=>by
  obtain⟨hp,g,d,tk,os⟩:=s;obtain⟨hl,hb,h⟩:=h;have U:=AutoSeq1.sub_tuple_tuple;have V:f.size=ns.length:=by rw[←hi.length];simp
  have W:j.size=o.length:=by rw[←z.length];simp
  wp_walk using wpAny_loadPart' hl,wpAny_loadPart' hb,wpAny_forIn_list _ (λrest b r=>b.1=none/\r=⟨hp,g,d,tk,os⟩/\∃(vs p:Zd) (k m:Zi),rest=vs.zip p /\
   IntsAre vs k/\IntsAre p m/\k.length+j.size=m.length+f.size/\R (.ok (.ret (.bool (lexLt k m)))) ⟨hp,g,d,tk,os⟩) _
  case turn=>
   rintro⟨y,x⟩ rest b r ⟨Kk,rfl,vs,p,k,m,hz,hvi,hwi,h_,hR⟩;cases hvi with
   |nil=>rw[List.zip_nil_left] at hz;cases hz
   |cons a t O=>
    cases hwi with
    |nil=>rw[List.zip_nil_right] at hz;cases hz
    |cons c u P=>
     rw[List.zip_cons_cons] at hz;injection hz with hyx hrest
     injection hyx with hy hx
     subst hy hx;rw[oJ] at hR;simp only[YH] at h_;obtain⟨e,S,B⟩:=DI A.in1 ⟨hp,g,d,tk,os⟩ a t c u;refine Yb (S prog w _ _ ?_);cases e with
     |true=>
      rw[if_pos (B.mp rfl)] at hR;wp_walk;exact⟨rfl,rfl,_,_,_,_,hrest,O,P,by omega,hR⟩
     |false=>
      rw[if_neg (λq=>absurd (B.mpr q) YC)] at hR;have T:=DJ A.in1 ⟨hp,g,d,tk,os⟩ a t c u prog w;wp_walk using T;exact⟨_,rfl,by simpa using hR⟩
  case fin=>
   rintro⟨b1,b2⟩ r ⟨Kk,rfl,vs,p,k,m,hz,hvi,hwi,h_,hR⟩;simp only at Kk;subst Kk;have C:lexLt k m=decide (f.size<j.size):=by
    cases hvi with
    |nil=>
     cases hwi with
     |nil=>
      simp only[YU] at h_;rw[pJ];exact(ZP 'b').symm
     |cons c u hw=>
      simp only[YU,YH] at h_;rw[u8];exact(YV 'b').symm
    |cons a t C=>
     cases hwi with
     |nil=>
      simp only[YU,YH] at h_;rw[u9];exact(ZP 'b').symm
     |cons c u hw=>
      rw[List.zip_cons_cons] at hz;cases hz
   rw[C] at hR;wp_walk;exact⟨_,rfl,by simpa [Builtin.Tuple.tupleCompareSizes] using hR⟩
  case h=>
   exact⟨rfl,rfl,f.toList,j.toList,ns,o,rfl,hi,z,by omega,h⟩
end
section
variable {prog:Zw}{w:World}{A:Around}{E:Zb}{s:Shared}
theorem AC{l b:Addr}{c d:Zl}{ns a:Zi}{Q:Zb}(hl:IsTup s.heap l c)(hb:IsTup s.heap b d)(hi:IntsAre c.toList ns)(k:IntsAre d.toList a)
  (hu:A.units<cLine) (h:Q (.bool (lexLt ns a)) s):wpAny (model prog w) A (compareOp .Lt (.ref l) (.ref b)) Q E s:=by
 obtain⟨⟨cls,m,data,sl⟩,ho,hc,n,hd⟩:=id hl;obtain⟨⟨u,o,data2,p⟩,f,g,r,j⟩:=id hb;simp only at hc hd g j;subst hc hd g j;exact richCompare_meets_room (op:=.Lt) ⟨_,ho,rfl⟩ ⟨_,f,rfl⟩ PySem.F.slot_tuple_lt PySem.F.entry_tuple_lt (PySem.F.args_tuple_lt_2 _ _) (wB l b c d n r m o sl p ns a hi k)
  ⟨ho,f,show Value.bool (lexLt ns a)≠Value.notImplemented/\Q (.bool (lexLt ns a)) s from⟨(λx=>nomatch x),h⟩⟩ hu
theorem FK{t b:Addr}{vs a:Zd}{Q:Zb}(ht:IsTup s.heap t vs.toArray)(hb:IsTup s.heap b a.toArray)(d:vs≠[])
  (o:a=[]->Q (.ref t) s) (p:a≠[]->Q (.ref s.heap.objs.size) { s with heap:=s.heap.push { cls:=.type "tuple",data:=.seq (vs++a).toArray } })
  (hsz:vs.length+a.length<=sizeLine):wpAny (model prog w) A (binaryOp .Add (.ref t) (.ref b)) Q E s:=by
 obtain⟨⟨cls,f,data,sl⟩,ho,hc,n,hd⟩:=id ht;obtain⟨⟨r,g,data2,j⟩,c,k,l,m⟩:=id hb;simp only at hc hd k m;subst hc hd k m;have e:vs.toArray++a.toArray=(vs++a).toArray:=by simp
 by_cases hw:a=[]
 ·exact concat_meets ⟨_,ho,rfl⟩ ⟨_,c,rfl⟩ noFill_tuple_add seq_tuple_add PySem.F.slot_tuple_add PySem.F.entry_tuple_add (PySem.F.args_tuple_add_2 _ _)
   (tuple_addW1 t b vs.toArray a.toArray n l f g sl j (by simpa using d) (by simp[hw])) ⟨ho,c,o hw⟩
 ·refine concat_meets ⟨_,ho,rfl⟩ ⟨_,c,rfl⟩ noFill_tuple_add seq_tuple_add PySem.F.slot_tuple_add PySem.F.entry_tuple_add (PySem.F.args_tuple_add_2 _ _)
   (tuple_addW2 t b vs.toArray a.toArray n l f g sl j (by simpa using d) (by simpa using hw) (by rw[YG,YG];exact hsz)) ⟨ho,c,?_⟩
  rw[e];exact p hw
def sIx(n d:Nat):Option Int->Nat
 |none=>d
 |some v=>if v<0 then(v+(n:Int)).toNat else min v.toNat n
theorem oK(n d:Nat):sIx n d none=d:=rfl
theorem va(n d k:Nat):sIx n d (some (k:Int))=min k n:=by
 show(if(k:Int)<0 then((k:Int)+(n:Int)).toNat else min (k:Int).toNat n)=min k n;rw[if_neg 'b',YW]
theorem HR(n d:Nat)(hd:d<=n)(o:Zq):sIx n d o<=n:=by
 cases o with
 |none=>exact hd
 |some v=>
  show(if v<0 then(v+(n:Int)).toNat else min v.toNat n)<=n;by_cases a:v<0
  ·rw[if_pos a];omega
  ·rw[if_neg a];exact Nat.min_le_right _ _
theorem zE(v:Int)(n d:Nat):(if v<0 then max (v+(n:Int)) 0 else min v (n:Int))=((sIx n d (some v):Nat):Int):=by
 show(if v<0 then max (v+(n:Int)) 0 else min v (n:Int))=(((if v<0 then(v+(n:Int)).toNat else min v.toNat n):Nat):Int);by_cases a:v<0
 ·simp only[if_pos a];omega
 ·simp only[if_neg a];omega
theorem AD(lo hi:Zq)(n:Nat):Builtin.Slice.sliceAdjust lo hi 1 (n:Int)=(((sIx n 0 lo:Nat):Int),((sIx n n hi:Nat):Int)):=by
 have a:¬((1:Int)<0):=by omega
 unfold Builtin.Slice.sliceAdjust;simp only[a,if_false];refine Prod.ext ?_ ?_
 ·cases lo with
  |none=>rfl
  |some v=>exact zE v n 0
 ·cases hi with
  |none=>rfl
  |some v=>exact zE v n n
theorem AE(i j:Nat):Builtin.Slice.slicePlaces (i:Int) (j:Int) 1=j-i:=by
 unfold Builtin.Slice.slicePlaces;have a:(1:Int)>0:=by omega
 simp only[a,if_true,Int.ediv_one];split<;>omega
theorem tm{v:Value}{o:Zq}{Q:Option Int->Shared->Prop}(p:IsPart v o)(h:Q o s):wpAny (model prog w) A (Builtin.Slice.slicePartIndex v) Q E s:=by
 cases p with
 |none=>exact slicePart_none h
 |int i t=>exact slicePart_int h
theorem lr{sl:Addr}{a b:Value}{lo hi:Zq}{n:Nat}{Q:Int×Int×Nat->Shared->Prop}(f:s.heap.IsSliceOf sl a b .none)(g:IsPart a lo)(j:IsPart b hi)
  (h:Q (((sIx n 0 lo:Nat):Int),1,sIx n n hi-sIx n 0 lo) s):wpAny (model prog w) A (Builtin.Slice.sliceApplied (.ref sl) (pure (n:Int))) Q E s:=by
 obtain⟨os,c,k,d⟩:=id f;unfold Builtin.Slice.sliceApplied Builtin.Slice.sliceFields;refine Yb (Yb (wpAny_field c d (x:=a) rfl (Yb (wpAny_field c d (x:=b) rfl (Yb (wpAny_field c d (x:=.none) rfl (Yc ?_)))))));refine Yb (slicePart_none ?_);show wpAny _ _ (if((1:Int)==0)=true then _ else _) _ _ s;rw[if_neg 'a'];refine Yb (tm g (Yb (tm j (Yb (Yc ?_)))));show wpAny _ _ (match Builtin.Slice.sliceAdjust lo hi 1 (n:Int) with | (lo,hi)=>pure (lo,(1:Int),Builtin.Slice.slicePlaces lo hi 1)) _ _ s;rw[AD lo hi n];show wpAny _ _ (pure (((sIx n 0 lo:Nat):Int),(1:Int),Builtin.Slice.slicePlaces ((sIx n 0 lo:Nat):Int) ((sIx n n hi:Nat):Int) 1)) _ _ s;rw[AE];exact Yc h
theorem DL(xs:Zl)(i k:Nat):((List.range k).filterMap λ(m:Nat)=>xs[((i:Int)+(m:Int)*1).toNat]?).toArray=((xs.toList.drop i).take k).toArray:=by
 have e:(λ(m:Nat)=>xs[((i:Int)+(m:Int)*1).toNat]?)=λm=>xs[i+m]?:=by
  funext m;have:((i:Int)+(m:Int)*1).toNat=i+m:=by omega
  rw[this]
 rw[e]
 have:=pick_run xs i k
 rw[List.filterMap_map] at this;have a:((λx=>xs[x]?)∘λx=>i+x)=λm=>xs[i+m]?:=rfl
 rw[a] at this;rw[this]
theorem rS{t sl:Addr}{a:Zl}{c d:Value}{lo hi:Zq}{Q:Zb}(ht:IsTup s.heap t a)(f:s.heap.IsSliceOf sl c d .none)(g:IsPart c lo)(j:IsPart d hi)
  (hw:¬(sIx a.size 0 lo=0/\sIx a.size a.size hi=a.size))
  (h:Q (.ref s.heap.objs.size) { s with heap:=s.heap.push { cls:=.type "tuple",data:=.seq ((a.toList.drop (sIx a.size 0 lo)).take (sIx a.size a.size hi-sIx a.size 0 lo)).toArray } })
  (hsz:a.size<=sizeLine):wpAny (model prog w) A (getItem (.ref t) (.ref sl)) Q E s:=by
 have b:sizeOk (.seq ((a.toList.drop (sIx a.size 0 lo)).take (sIx a.size a.size hi-sIx a.size 0 lo)).toArray):=by
  show((a.toList.drop (sIx a.size 0 lo)).take (sIx a.size a.size hi-sIx a.size 0 lo)).toArray.size<=sizeLine;rw[YG,YS,YX,Array.length_toList];omega
 have p:sIx a.size a.size hi<=a.size:=HR _ _ (YE _) hi;obtain⟨os,k,l,r⟩:=id f;have n:s.TypeIs (.ref sl) "slice":=⟨os,k,l⟩;unfold getItem;try with_reducible refine Yj ?_
 first | refine Yb (Yc ?_) | skip
 refine Yb (wpAny_sequenceKey ht.typeIs 'a' ?_);refine Yb (wpAny_callSpecial?_slot (name:=Str.ofString "__getitem__") ht.typeIs PyProof.Rows.slot_tuple_getitem
  (wpAny_call_entry PyProof.Rows.slot_tuple_getitem ht.typeIs entry_tuple_getitem ?_ (args_tuple_getitem _ _)))
 show wpAny _ _ (Builtin.Tuple.tupleItemsOf (.ref t) >>= _) _ _ s;refine Yb (tupleItemsOf_ ht ?_);refine Yb (wpAny_typeOf n ?_);rw[if_pos 'a'];refine Yb (lr f g j ?_);have o:¬((((sIx a.size 0 lo:Nat):Int)==0&&(1:Int)==1&&(sIx a.size a.size hi-sIx a.size 0 lo)==a.size)=true):=by
  intro q;rw[YY,YY] at q;have u:((sIx a.size 0 lo:Nat):Int)=0:=eq_of_beq q.1.1;have y:sIx a.size a.size hi-sIx a.size 0 lo=a.size:=eq_of_beq q.2;exact hw ⟨by omega,by omega⟩
 show wpAny _ _ (if(((sIx a.size 0 lo:Nat):Int)==0&&(1:Int)==1&&(sIx a.size a.size hi-sIx a.size 0 lo)==a.size)=true then _ else _) _ _ s;rw[if_neg o,DL];first
  |exact Yb (m:=Builtin.Tuple.tupleExact _) (wpAny_newObj_type (Yc ⟨_,rfl,Yc h⟩) b)
  |exact Yb (m:=Builtin.Tuple.tupleExact _) (wpAny_newObj_type (Yb (Yc (Yc ⟨_,rfl,Yc h⟩))) b)
  |exact Yb (Yb (m:=Builtin.Tuple.tupleExact _) (wpAny_newObj_type (Yc (Yc ⟨_,rfl,Yc h⟩)) b))
  |exact Yb (Yb (m:=Builtin.Tuple.tupleExact _) (wpAny_newObj_type (Yc ⟨_,rfl,Yc h⟩) b))
end
end HT
namespace L2
open PySem PySem.Spec PyProof.Rows
abbrev TO:=St->Hp->(Option Int->Hp->Prop)->Prop
def PO(X:Cx)(e:Option Expr)(t:TO):Prop:=
 ∀(pins:Zc) (s:Shared) (σ:St) (H:Hp) (Q:Option Int->Hp->Prop),Inv X pins σ H s->t σ H Q ->
  wpAny 'c' X.A (evalPart e X.env) (λu a=>∃o H',Inv X pins σ H' a/\IsPart u o/\Q o H') X.xe s
def FM:TO:=λ_ H Q=>Q none H
def JG(t:TE):TO:=λσ H Q=>t σ H λx a=>∃i,x=.int i/\Q (some i) a
theorem intsAre_of{ns:Zi}:∀{us:Zd},Vals (ns.map V.int) us->IntsAre us ns:=by
 induction ns with
 |nil=>intro us r;rw[YZ] at r;cases r;exact .nil
 |cons n ns a=>
  intro us r;rw[YJ] at r;cases r with
  |cons b c=>
   obtain⟨t,e⟩:=b;subst e;exact .cons n t (a c)
section
variable {X:Cx}{e:Expr}{te:TE}{lo hi:Option Expr}{tl th:TO}{pos p2:Pos}
theorem FN:PO X none FM:=by
 intro pins s σ H Q I h;rw[evalPart_none];exact Yc ⟨none,H,I,.none,h⟩
theorem FO(h:PE X e te):PO X (some e) (JG te):=by
 intro pins s σ H Q I hw;rw[evalPart_some];refine thn (h pins s σ H _ I hw) λu s1 a=>?_
 obtain⟨x,b,c,d,f⟩:=a;obtain⟨i,rfl,q⟩:=f;obtain⟨t,rfl⟩:=d;exact⟨some i,b,c,.int i t,q⟩
def SlR(X:Cx)(r:V->Option Int->Option Int->Hp->VK->Prop):Prop:=
 ∀(pins:Zc) (s:Shared) (σ:St) (H:Hp) (x:V) (v a b:Value) (lo hi:Zq) (sl:Addr) (Q:VK),Inv X pins σ H s->RelV x v->s.heap.IsSliceOf sl a b .none->IsPart a lo->IsPart b hi->r x lo hi H Q ->
  ∃T id,typeLookup (.type T) "__getitem__" = pure (some (.builtin id))/\s.TypeIs v T/\wpAny 'c' X.A (getItem v (.ref sl)) (EP X pins σ Q) X.xe s
def tSl(r:V->Option Int->Option Int->Hp->VK->Prop)(te:TE)(tl th:TO):TE:=λσ H Q=>te σ H λx a=>tl σ a λl b=>th σ b λu c=>r x l u c Q
theorem DM{r:V->Option Int->Option Int->Hp->VK->Prop}(g:SlR X r)(j:PE X e te)(hl:PO X lo tl)(hu:PO X hi th):PE X (.Subscript e (.Slice lo hi none p2) pos) (tSl r te tl th):=by
 intro pins s σ H Q I h;refine Subscript_ (thn (j pins s σ H _ I h) λv s1 k=>?_);obtain⟨x,m,n,o,p⟩:=k;refine wpAny_Slice (thn (hl pins s1 σ m _ n p) λc s2 y=>?_);obtain⟨l,z,B,C,G⟩:=y;refine thn (hu pins s2 σ z _ B G) λd a J=>?_
 obtain⟨u,f,K,L,O⟩:=J;rw[evalPart_none];refine Yc ?_;have P:Inv X pins σ f { a with heap:=a.heap.push { cls:=.type "slice",data:=.fields #[c,d,.none] } }:=K.kept (t':=a.toks) λb S q=>Yd _ q
 obtain⟨T,id,R,ht,hg⟩:=g pins { a with heap:=a.heap.push { cls:=.type "slice",data:=.fields #[c,d,.none] } } σ f x v c d l u a.heap.objs.size Q P o (Heap.IsSliceOf.new ..) C L O;show wpAny 'c' X.A (subscriptTail e (.Slice lo hi none p2) v (.ref a.heap.objs.size)) (EP X pins σ Q) X.xe { a with heap:=a.heap.push { cls:=.type "slice",data:=.fields #[c,d,.none] } };exact tail_any (ops:=[.ref a.heap.objs.size,v]) ht R hg (by with_unfolding_all rfl)
def cutV(xs:List V)(lo hi:Zq):List V:=(xs.drop (HT.sIx xs.length 0 lo)).take (HT.sIx xs.length xs.length hi-HT.sIx xs.length 0 lo)
theorem rZ(xs:List V)(lo hi:Zq):(cutV xs lo hi).length<=xs.length:=by
 unfold cutV;rw[YS,YX];omega
def rSlT(K:Za):V->Option Int->Option Int->Hp->VK->Prop:=λx lo hi H Q=>∃a xs,x=.ref a/\SqT K H a xs /\
 ¬(HT.sIx xs.length 0 lo=0/\HT.sIx xs.length xs.length hi=xs.length)/\∀p,H p=none->Q (.ref p) (upd H p (.tup (cutV xs lo hi)))
theorem HS:SlR X (rSlT X.K):=by
 intro pins s σ H x v k l lo hi sl Q I d f g j h;obtain⟨a,xs,rfl,hx,hw,q⟩:=h;cases d;obtain⟨d_,r,ht,hz⟩:=I.tuple hx;have c:d_.toArray.size=xs.length:=by rw[YG];exact r.length.symm
 refine⟨"tuple",_,PyProof.Rows.slot_tuple_getitem.lookup,ht.typeIs,?_⟩;refine HT.rS ht f g j (by rw[c];exact hw) ?_ (by rw[c];exact hz);rw[c];refine⟨.ref s.heap.objs.size,_,I.laid (t':=s.toks) (o:=.tup (cutV xs lo hi)) (λb m q=>Yd _ q) (YE _) ?_,rfl,q _ (I.hok.fresh (YE _))⟩;exact⟨ZW (rZ xs lo hi) hz,_,(r.drop (HT.sIx xs.length 0 lo)).take (HT.sIx xs.length xs.length hi-HT.sIx xs.length 0 lo),IsTup.new _ _⟩
def JH(K:Za):R2:=λx y H Q=>∃a b xs ys,x=.ref a/\y=.ref b/\SqT K H a xs/\SqT K H b ys/\xs≠[]/\xs.length+ys.length<=sizeLine /\
 (ys=[]->Q (.ref a) H)/\(ys≠[]->∀p,H p=none->Q (.ref p) (upd H p (.tup (xs++ys))))
theorem Vals.nil_iff{xs:List V}{us:Zd}(r:Vals xs us):us=[]↔xs=[]:=by
 cases r with
 |nil=>simp
 |cons _ _=>simp
theorem FP:OpR X (binaryOp .Add) (JH X.K):=by
 intro pins s σ H x y v u Q I f g h;obtain⟨a,b,xs,ys,rfl,rfl,ha,hb,hx,hz,j,k⟩:=h;cases f;cases g;obtain⟨d_,d,p1,_⟩:=I.tuple ha;obtain⟨l,c,p2,_⟩:=I.tuple hb;refine HT.FK p1 p2 (λz=>hx (d.nil_iff.mp z)) (λz=>⟨.ref a,H,I,rfl,j (c.nil_iff.mp z)⟩) (λz=>?_) (by rw[←d.length,←c.length];exact hz);refine⟨.ref s.heap.objs.size,_,I.laid (t':=s.toks) (o:=.tup (xs++ys)) (λb m q=>Yd _ q) (YE _) ?_,rfl,k (λw=>z (c.nil_iff.mpr w)) _ (I.hok.fresh (YE _))⟩;exact⟨by rw[ZJ];exact hz,_,d.append c,IsTup.new _ _⟩
end
def ixN(n:Nat)(i:Int):Option Nat:=if 0<=i then(if i<n then some i.toNat else none) else if -(n:Int)<=i then some (i+n).toNat else none
def atI{a:Type}(xs:List a)(i:Int):Option a:=(ixN xs.length i).bind λj=>xs[j]?
theorem zF{n:Nat}{i:Int}{j:Nat}(h:ixN n i=some j):seqIndex? i n=some j/\j<n/\-(n:Int)<=i/\i<n:=by
 unfold ixN at h;by_cases b:0<=i
 ·rw[if_pos b] at h
  by_cases a:i<n
  ·rw[if_pos a] at h
   have e:i.toNat=j:=Yi h;exact⟨by rw[seqIndex_of b a,e],by omega,by omega,a⟩
  ·rw[if_neg a] at h;cases h
 ·rw[if_neg b] at h
  by_cases a:-(n:Int)<=i
  ·rw[if_pos a] at h
   have e:(i+n).toNat=j:=Yi h;exact⟨by rw[seqIndex_neg 'b' a,e],by omega,a,by omega⟩
  ·rw[if_neg a] at h;cases h
theorem vb{a:Type}{xs:List a}{i:Int}{v:a}(h:atI xs i=some v):∃j,seqIndex? i xs.length=some j/\xs[j]?=some v/\j<xs.length/\-(xs.length:Int)<=i/\i<xs.length:=by
 unfold atI at h;cases e:ixN xs.length i with
 |none=>rw[e] at h;cases h
 |some j=>
  rw[e] at h;obtain⟨b,c,d,f⟩:=zF e;exact⟨j,b,h,c,d,f⟩
theorem bW{a:Type}{xs:List a}{j:Nat}{v:a}(h:xs[j]?=some v):atI xs (j:Int)=some v:=by
 have b:j<xs.length:=(YB.mp h).1;have e:ixN xs.length (j:Int)=some j:=by
  unfold ixN;rw[if_pos 'b',if_pos 'b'];simp
 unfold atI;rw[e];exact h
theorem DN{a:Type}(xs:List a)(v:a):atI (xs++[v]) (-1)=some v:=by
 have hl:(xs++[v]).length=xs.length+1:=by simp
 have e:ixN (xs++[v]).length (-1)=some xs.length:=by
  unfold ixN;rw[hl,if_neg 'a',if_pos 'b'];congr 1;omega
 unfold atI;rw[e];show(xs++[v])[xs.length]?=some v;simp
def zG(b:Expr):Prop:=∀o i,subscripted b false o i=operate [o,i] (getItem o i)
def IxR(X:Cx)(r:R2):Prop:=
 ∀(b a:Expr) (pins:Zc) (s:Shared) (σ:St) (H:Hp) (x y:V) (v u:Value) (Q:VK),Inv X pins σ H s->RelV x v->RelV y u->r x y H Q ->
  subscripted a false v u=operate [v,u] (getItem v u)->wpAny 'c' X.A (subscriptTail b a v u) (EP X pins σ Q) X.xe s
def MtR(X:Cx)(id:String)(r:V->List V->Hp->VK->Prop):Prop:=
 ∀(pins:Zc) (s:Shared) (σ:St) (H:Hp) (x:V) (xs:List V) (v:Value) (us:Zd) (Q:VK),Inv X pins σ H s->RelV x v->Vals xs us->r x xs H Q ->
  wpAny 'c' X.A (call (.builtin id) (v::us)) (EP X pins σ Q) X.xe s
section
variable {X:Cx}{a b:Expr}{ta tb:TE}{pos:Pos}
theorem JI{r:R2}(c:IxR X r)(ha:PE X a ta)(hb:PE X b tb)(d:zG b):PE X (.Subscript a b pos) (tOp r ta tb):=by
 intro pins s σ H Q I h;exact Subscript_ (binT ha hb I h λv u s2 x y f g j k q=>c a b pins s2 σ f x y v u Q g j k q (d _ _))
def rIxL(K:Za):R2:=λx y H Q=>∃p xs i v,x=.ref p/\y=.int i/\SqL K H p xs/\atI xs i=some v/\Q v H
def rIxT(K:Za):R2:=λx y H Q=>∃p xs i v,x=.ref p/\y=.int i/\SqT K H p xs/\atI xs i=some v/\Q v H
def rIxS:R2:=λx y H Q=>∃z i c,x=.str z/\y=.int i/\z.length<=sizeLine/\atI z.cps.toList i=some c/\Q (.str ⟨#[c]⟩) H
theorem zH:IxR X (rIxL X.K):=by
 intro d f pins s σ H x y v u Q I o A h l;obtain⟨p,xs,i,z,rfl,rfl,hq,B,q⟩:=h;cases o;obtain⟨t,rfl⟩:=A;obtain⟨d_,r,g,hz⟩:=I.list hq;obtain⟨j,c,C,P,G,J⟩:=vb B;obtain⟨w,m,L⟩:=r.get C;have hl:=r.length;have hn:=lq;have fin:EP X pins σ Q w s:=⟨z,H,I,L,q⟩;by_cases n:0<=i
 ·have k:i.toNat=j:=by
   rw[seqIndex_of n J] at c;exact Yi c
  exact item_listR g.isList n 'b' (by rw[k];simpa using m) fin l
 ·have k:(i+(d_.toArray.size:Int)).toNat=j:=by
   rw[seqIndex_neg 'b' G] at c;rw[YG,←hl];exact Yi c
  exact subscriptTail_builtinR (x:=w) g.isList.typeIs slot_list_getitem.lookup
   (wpAny_getItem_list_neg (Q:=λr O=>r=w/\EP X pins σ Q r O) g.isList 'b' (by rw[YG]<;>omega) 'b' (by rw[k];simpa using m) ⟨rfl,fin⟩) l
theorem HU:IxR X (rIxT X.K):=by
 intro c d pins s σ H x y v u Q I g k h l;obtain⟨p,xs,i,z,rfl,rfl,hq,m,q⟩:=h;cases g;obtain⟨t,rfl⟩:=k;obtain⟨d_,r,f,hz⟩:=I.tuple hq;obtain⟨j,n,o,G,J,L⟩:=vb m;obtain⟨w,A,B⟩:=r.get o;have hl:=r.length;have hn:=lq;have fin:EP X pins σ Q w s:=⟨z,H,I,B,q⟩;exact subscriptTail_builtinR (x:=w) f.typeIs slot_tuple_getitem.lookup
  (getItem_tuple (j:=j) (Q:=λr C=>r=w/\EP X pins σ Q r C) f 'b' 'b' (by rw[YG,←hl];exact n) (by simpa using A) ⟨rfl,fin⟩) l
theorem HV:IxR X rIxS:=by
 intro d f pins s σ H x y v u Q I k l h m;obtain⟨z,i,c,rfl,rfl,hz,n,q⟩:=h;obtain⟨t,rfl⟩:=k;obtain⟨t',rfl⟩:=l;obtain⟨j,g,o,C,p,r⟩:=vb n;have hl:z.cps.toList.length=z.length:=by simp[Str.length]
 rw[hl] at g p r;have hn:=lq;exact tail_any (typeIs_str s z t) slot_str_getitem.lookup (getItem_str (c:=c) (by
  have A:decide (i < -(2 ^ 63:Int))=false:=ZP 'b';have B:decide (i>=2 ^ 63)=false:=ZP 'b';rw[A,B,Bool.or_false]) (by rw[g];simpa using o) ⟨.str ⟨#[c]⟩,H,I.tok _,⟨_,rfl⟩,q⟩) m
theorem AF(d_:Zd)(n j:Nat)(u:Value):Obj.mapSeq (·.setIfInBounds j u) { cls:=.type "list",data:=.seq d_.toArray n }={ cls:=.type "list",data:=.seq (d_.set j u).toArray n }:=by
 simp[Obj.mapSeq]
theorem Inv.lst{pins:Zc}{σ:St}{H:Hp}{s:Shared}{p:Addr}{xs:List V}(I:Inv X pins σ H s)(h:H p=some (.lst xs)):
  ∃(d_:Zd) (n:Nat),Vals xs d_/\s.heap.get? p=some { cls:=.type "list",data:=.seq d_.toArray n }/\xs.length<=sizeLine:=by
 obtain⟨z,d_,n,r,e⟩:=I.hok p _ h;exact⟨d_,n,r,e,z⟩
theorem Inv.lstUpd{pins:Zc}{σ:St}{H:Hp}{s:Shared}{p:Addr}{xs ys:List V}{d_ l_:Zd}{n n':Nat}{f:Obj->Obj}(I:Inv X pins σ H s)(h:H p=some (.lst xs))
  (ho:s.heap.get? p=some { cls:=.type "list",data:=.seq d_.toArray n }) (hf:f { cls:=.type "list",data:=.seq d_.toArray n }={ cls:=.type "list",data:=.seq l_.toArray n' }) (r:Vals ys l_) (hz:ys.length<=sizeLine) (t:Nat):
  Inv X pins σ (upd H p (.lst ys)) { s with heap:=s.heap.update p f,toks:=t }:=by
 have e:(s.heap.update p f).get? p=some { cls:=.type "list",data:=.seq l_.toArray n' }:=by
  rw[Heap.get?_update_self f ho (by rw[hf]<;>rfl),hf]
 refine I.write (x:=p) (e:=p) (by rw[h];trivial) (.inl rfl) (λb u hb q=>(Heap.get?_update_other _ _ (Ne.symm hb)).trans q) ⟨_,e⟩ ?_;exact⟨hz,l_,n',r,e⟩
def JJ:V->V->V->Hp->(Hp->Prop)->Prop:=λo i v H Q=>∃p xs k j,o=.ref p/\i=.int k/\H p=some (.lst xs)/\ixN xs.length k=some j/\Q (upd H p (.lst (xs.set j v)))
theorem set_list:PSet X JJ:=by
 intro pins s σ H o i v B C u Q I m y z h;obtain⟨p,xs,k,j,rfl,rfl,hp,A,q⟩:=h;cases m;obtain⟨t,rfl⟩:=y;obtain⟨d_,n,r,ho,hz⟩:=I.lst hp;obtain⟨c,G,d,f⟩:=zF A;have hl:=r.length;have hn:=lq;have g:Inv X pins σ (upd H p (.lst (xs.set j v))) { s with heap:=s.heap.update p (Obj.mapSeq (·.setIfInBounds j u)) }:=
  I.lstUpd hp ho (AF d_ n j u) (r.set z j) (by rw[List.length_set];exact hz) s.toks
 by_cases l:0<=k
 ·have hk:k.toNat=j:=by
   rw[seqIndex_of l f] at c;exact Yi c
  exact PySem.W.ki_setAt ho l 'b' (by rw[YG,←hl];exact f) (by rw[hk];exact⟨_,g,q⟩)
 ·have hk:(k+(d_.toArray.size:Int)).toNat=j:=by
   rw[seqIndex_neg 'b' d] at c;rw[YG,←hl];exact Yi c
  exact PySem.W.ki_setBack ho 'b' (by rw[YG,←hl];exact d) 'b' (by rw[hk];exact⟨_,g,q⟩)
theorem xu(lo hi:Zq)(n:Nat):(sliceBounds lo hi none n).1=((HT.sIx n 0 lo:Nat):Int)/\(sliceBounds lo hi none n).2.1=((HT.sIx n n hi:Nat):Int)/\(sliceBounds lo hi none n).2.2=1:=by
 refine⟨?_,?_,rfl⟩
 ·cases lo with
  |none=>simp[sliceBounds,HT.sIx]
  |some i=>
   simp only[sliceBounds,HT.sIx,Option.getD_none,show(1:Int)>0 by decide,if_true];by_cases h:i<0
   ·simp only[h,if_true]<;>omega
   ·simp only[h,if_false]<;>omega
 ·cases hi with
  |none=>simp[sliceBounds,HT.sIx]
  |some i=>
   simp only[sliceBounds,HT.sIx,Option.getD_none,show(1:Int)>0 by decide,if_true];by_cases h:i<0
   ·simp only[h,if_true]<;>omega
   ·simp only[h,if_false]<;>omega
theorem wC(d_:Zd)(lo hi:Zq):slicePick d_.toArray lo hi none=((d_.drop (HT.sIx d_.length 0 lo)).take (HT.sIx d_.length d_.length hi-HT.sIx d_.length 0 lo)).toArray:=by
 obtain⟨c,d,f⟩:=xu lo hi d_.toArray.size;unfold slicePick;rw[c,d,f];simp only[sliceRange_one,pick_run,YG]<;>rfl
def rSlL(K:Za):V->Option Int->Option Int->Hp->VK->Prop:=λx lo hi H Q=>∃a xs,x=.ref a/\SqL K H a xs/\∀p,H p=none->Q (.ref p) (upd H p (.lst (cutV xs lo hi)))
theorem FQ:SlR X (rSlL X.K):=by
 intro pins s σ H x v k l lo hi sl Q I c d f g h;obtain⟨a,xs,rfl,hx,q⟩:=h;cases c;obtain⟨d_,r,ht,hz⟩:=I.list hx;have j:=r.length;refine⟨"list",_,slot_list_getitem.lookup,ht.isList.typeIs,?_⟩;refine wpAny_getItem_list_slice ht.isList d f g .none (by simp) ?_ (by rw[YG]<;>omega);rw[wC,←j];refine⟨.ref s.heap.objs.size,_,I.laid (t':=s.toks) (o:=.lst (cutV xs lo hi)) (λb m q=>Yd _ q) (YE _) ?_,rfl,q _ (I.hok.fresh (YE _))⟩;exact⟨ZW (rZ xs lo hi) hz,_,0,(r.drop (HT.sIx xs.length 0 lo)).take (HT.sIx xs.length xs.length hi-HT.sIx xs.length 0 lo),Yg _ rfl⟩
def AG:V->Bool
 |.non=>true
 |.bl _=>true
 |.int _=>true
 |.str _=>true
 |_=>false
def eqV:V->V->Bool
 |.non,.non=>true
 |.bl a,.bl b=>a==b
 |.bl a,.int b=>(if a then 1 else 0)==b
 |.int a,.bl b=>a==(if b then 1 else 0)
 |.int a,.int b=>a==b
 |.str a,.str b=>a==b
 |_,_=>false
theorem BQ{A:Around}{s:Shared}{y x:V}{u v:Value}(d:RelV y u)(c:RelV x v)(g:AG y=true)(f:AG x=true):SeqAt.EqAt A s u v (eqV y x):=by
 cases y with
 |non=>
  cases d;cases x with
  |non=>cases c;exact SeqAt.EqAt.same _
  |bl b=>cases c;exact SeqAt.EqAt.none_bool b
  |int b=>obtain⟨t,rfl⟩:=c;exact SeqAt.EqAt.none_int b t
  |str b=>obtain⟨t,rfl⟩:=c;exact SeqAt.EqAt.none_str b t
  |_=>exact absurd (show false=true from f) YC
 |bl a=>
  cases d;cases x with
  |non=>cases c;exact SeqAt.EqAt.bool_none a
  |bl b=>cases c;exact SeqAt.EqAt.bool_bool a b
  |int b=>obtain⟨t,rfl⟩:=c;exact SeqAt.EqAt.bool_int a b t
  |str b=>obtain⟨t,rfl⟩:=c;exact SeqAt.EqAt.bool_str a b t
  |_=>exact absurd (show false=true from f) YC
 |int a=>
  obtain⟨t',rfl⟩:=d;cases x with
  |non=>cases c;exact SeqAt.EqAt.int_none a t'
  |bl b=>cases c;exact SeqAt.EqAt.int_bool a t' b
  |int b=>obtain⟨t,rfl⟩:=c;exact SeqAt.EqAt.int_int a t' b t
  |str b=>obtain⟨t,rfl⟩:=c;exact SeqAt.EqAt.int_str a t' b t
  |_=>exact absurd (show false=true from f) YC
 |str a=>
  obtain⟨t',rfl⟩:=d;cases x with
  |non=>cases c;exact SeqAt.EqAt.str_none a t'
  |bl b=>cases c;exact SeqAt.EqAt.str_bool a t' b
  |int b=>obtain⟨t,rfl⟩:=c;exact SeqAt.EqAt.str_int a t' b t
  |str b=>obtain⟨t,rfl⟩:=c;exact SeqAt.EqAt.str_str a t' b t
  |_=>exact absurd (show false=true from f) YC
 |_=>exact absurd (show false=true from g) YC
theorem lu:fq X (.builtin "len") (λxs H Q=>∃p ys,xs=[.ref p]/\(SqL X.K H p ys\/SqT X.K H p ys)/\Q (.int ys.length) H):=by
 intro pins s σ H xs us Q I r h;obtain⟨p,ys,rfl,hq,q⟩:=h;obtain⟨u,rfl,g⟩:=vals1 r;cases g;have hn:=lq;rcases hq with hq | hq
 ·obtain⟨d_,c,d,hz⟩:=I.list hq
  have f:=c.length;exact Calls.call_len_list d.isList (by simp only[YG]<;>omega) ⟨.int ys.length,H,I.tok _,⟨s.toks+1,by rw[YG,f]⟩,q⟩
 ·obtain⟨d_,c,d,hz⟩:=I.tuple hq
  have f:=c.length;exact len_tuple d (by simp only[YG]<;>omega) ⟨.int ys.length,H,I.tok _,⟨s.toks+1,by rw[YG,f]⟩,q⟩
theorem xv:fq X (.builtin "len") (λxs H Q=>∃z,xs=[.str z]/\z.length<=sizeLine/\Q (.int z.length) H):=by
 intro pins s σ H xs us Q I r h;obtain⟨z,rfl,hz,q⟩:=h;obtain⟨u,rfl,t,rfl⟩:=vals1 r;have hn:=lq;exact len_str 'b' ⟨.int z.length,H,I.tok _,⟨_,rfl⟩,q⟩
theorem qj:fq X (.type "list") (λxs H Q=>∃p ys,xs=[.ref p]/\(SqL X.K H p ys\/SqT X.K H p ys)/\∀l,H l=none->Q (.ref l) (upd H l (.lst ys))):=by
 intro pins s σ H xs us Q I r h;obtain⟨p,ys,rfl,hq,q⟩:=h;obtain⟨u,rfl,f⟩:=vals1 r;cases f;have fin:∀(d_:Zd),Vals ys d_->ys.length<=sizeLine->∀(h':Heap) (c':Nat),(∀b o',s.heap.get? b=some o'->h'.get? b=some o') ->
   h'.get? s.heap.objs.size=some { cls:=.type "list",dict:=none,data:=.seq d_.toArray c',slots:=#[] }->EP X pins σ Q (.ref s.heap.objs.size) { s with heap:=h' }:=λd_ c hz h' c' kp e=>
  ⟨.ref s.heap.objs.size,_,I.laid (t':=s.toks) kp (YE _) (show a0 X.prog X.w _ h' _ (.lst ys) from⟨hz,d_,c',c,e⟩),rfl,q _ (I.hok.fresh (YE _))⟩
 rcases hq with hq | hq
 ·obtain⟨d_,c,d,hz⟩:=I.list hq
  have g:=c.length;obtain⟨o,ho,hc,n,hd⟩:=d.isList;exact call_list_seq p (.inl rfl) ho hc hd (λh' c' kp e=>fin d_ c hz h' c' kp e) (by simp only[YG]<;>omega)
 ·obtain⟨d_,c,d,hz⟩:=I.tuple hq
  have g:=c.length;obtain⟨o,ho,hc,n,hd⟩:=d;exact call_list_seq p (.inr rfl) ho hc hd (λh' c' kp e=>fin d_ c hz h' c' kp e) (by simp only[YG]<;>omega)
theorem pK:fq X (.type "tuple") (λxs H Q=>∃p ys,xs=[.ref p]/\((SqL X.K H p ys/\∀l,H l=none->Q (.ref l) (upd H l (.tup ys)))\/(SqT X.K H p ys/\Q (.ref p) H))):=by
 intro pins s σ H xs us Q I r h;obtain⟨p,ys,rfl,h⟩:=h;obtain⟨u,rfl,g⟩:=vals1 r;cases g;rcases h with⟨hq,q⟩ | ⟨hq,q⟩
 ·obtain⟨d_,c,d,hz⟩:=I.list hq
  have k:=c.length;refine call_tuple_list d.isList (λh' kp=>?_) (by simp only[YG]<;>omega);have f:Inv X pins σ H { s with heap:=h' }:=I.kept (t':=s.toks) kp;have j:Inv X pins σ (upd H h'.objs.size (.tup ys)) { s with heap:=h'.push { cls:=.type "tuple",data:=.seq d_.toArray } }:=
   f.laid (t':=s.toks) (λb o e=>Yd _ e) (YE _) (show a0 X.prog X.w _ _ _ (.tup ys) from⟨hz,d_,c,IsTup.new _ _⟩)
  exact⟨.ref h'.objs.size,_,j,rfl,q _ (f.hok.fresh (YE _))⟩
 ·obtain⟨d_,c,d,hz⟩:=I.tuple hq
  exact call_tuple_same d ⟨.ref p,H,I,rfl,q⟩
def tyV(K:Za)(T:String)(x:V)(H:Hp):Prop:=match x with
 |.str _=>T = "str"
 |.int _=>T = "int"
 |.ref p=>(T = "list"/\∃xs,SqL K H p xs)\/(T = "tuple"/\∃o,K.lookup p=some o/\o.cls=.type "tuple"/\o.dict=none) \/
   (T = "dict"/\((∃c,H p=some (.dK c)) \/ ∃c,H p=some (.dT c)))\/(T = "set"/\∃S n,H p=some (.set S n))
 |_=>False
theorem BR{pins:Zc}{σ:St}{H:Hp}{s:Shared}{T:String}{x:V}{v:Value}(I:Inv X pins σ H s)(r:RelV x v)(ty:tyV X.K T x H):
  s.TypeIs v T/\∀a,v=.ref a->∃f,s.heap.get? a=some f/\f.dict=none:=by
 cases x with
 |str z=>
  obtain⟨t,rfl⟩:=r;cases(show T = "str" from ty);exact⟨typeIs_str s z t,λ_ e=>nomatch e⟩
 |int i=>
  obtain⟨t,rfl⟩:=r;cases(show T = "int" from ty);exact⟨typeIs_int s i t,λ_ e=>nomatch e⟩
 |ref p=>
  cases r;rcases ty with⟨rfl,xs,hq⟩ | ⟨rfl,o,hk,hc,hd⟩ | ⟨rfl,hk⟩ | ⟨rfl,S,n,hk⟩
  ·obtain⟨d_,_,g,_⟩:=I.list hq
   refine⟨g.isList.typeIs,λa e=>?_⟩;cases e;obtain⟨o,n,e,c,hd,_⟩:=g;exact⟨o,e,hd⟩
  ·refine⟨⟨o,I.kIn p o hk,hc⟩,λa e=>?_⟩
   cases e;exact⟨o,I.kIn _ o hk,hd⟩
  ·have z:∃o,s.heap.get? p=some o/\o.ExactDict:=by
    rcases hk with⟨j,hk⟩ | ⟨j,hk⟩
    ·obtain⟨_,_,_,_,o,_,_,e,ex,_⟩:=I.hok p _ hk
     exact⟨o,e,ex⟩
    ·obtain⟨_,_,_,_,o,_,_,e,ex,_⟩:=I.hok p _ hk
     exact⟨o,e,ex⟩
   obtain⟨o,e,ex⟩:=z;refine⟨⟨o,e,ex.1⟩,λa d=>?_⟩;cases d;exact⟨o,e,ex.2.1⟩
  ·obtain⟨o,_,_,_,e,ex,_⟩:=I.hok p _ hk
   refine⟨⟨o,e,ex.1⟩,λa d=>?_⟩;cases d;exact⟨o,e,ex.2.1⟩
 |_=>exact Yh ty
def tBM0(K:Za)(T:String)(r:V->List V->Hp->VK->Prop)(d:TE):TE:=λσ H Q=>d σ H λx c=>tyV K T x c/\r x [] c Q
def tBM(K:Za)(T:String)(r:V->List V->Hp->VK->Prop)(d:TE)(t:TA):TE:=λσ H Q=>d σ H λx c=>tyV K T x c/\t σ c λxs f=>r x xs f Q
variable {o e:Expr}{es:Zg}{to:TE}{t:TA}{name:Str}{m_ w_:Pos}{T id:String}{r:V->List V->Hp->VK->Prop}
theorem HW(f:PlainAttrs T)(slot:Slot T name id)(g:typeOf (.builtin id)=pure (.type "method_descriptor"))(hm:MtR X id r)(ho:PE X o to)
  (j:attributeBase o name X.env (eval o X.env)=eval o X.env:=by rfl) (k:(m_.endLine==w_.line)=true:=by rfl):PE X (.Call (.Attribute o name m_) [] [] w_) (tBM0 X.K T r to):=by
 intro pins s σ H Q I h;refine wpAny_Call_method0_late j k (thn (ho pins s σ H _ I h) λv s1 l=>?_);obtain⟨x,m,c,d,ty,n⟩:=l;obtain⟨p,u⟩:=BR c d ty;exact⟨T,id,f,slot,g,p,u,Calls.callWith_builtin rfl (PySem.evalArgs_none (hm pins s1 σ m x [] v [] Q c d .nil n))⟩
theorem JK(g:PlainAttrs T)(slot:Slot T name id)(j:typeOf (.builtin id)=pure (.type "method_descriptor"))(hm:MtR X id r)(ho:PE X o to)(ha:PA X (e::es) t)
  (k:attributeBase o name X.env (eval o X.env)=eval o X.env:=by rfl)
  (l:((backTo w_ (starEach (e::es) X.env)).all (λx=>!x.1)&&(backToKw w_ (keywordEach [] X.env)).all (λx=>x.1.isSome)
   && decide ((e::es).length+([]:List Keyword).length+(if([]:List Keyword).isEmpty then 0 else 1)<30))=true:=by rfl)
  (m:(m_.endLine==w_.line)=true:=by rfl) (n:starEach (e::es) X.env=(false,eval e X.env)::starEach es X.env:=by rfl) (p:(backTo w_ (starEach es X.env)).any (·.1)=false:=by rfl):
  PE X (.Call (.Attribute o name m_) (e::es) [] w_) (tBM X.K T r to t):=by
 intro pins s σ H Q I h;refine wpAny_Call_method_late k l m rfl (thn (ho pins s σ H _ I h) λv s1 u=>?_);obtain⟨x,y,c,d,ty,z⟩:=u;obtain⟨A,B⟩:=BR c d ty;refine⟨T,id,g,slot,j,A,B,?_⟩;have f:=ha w_ pins s1 σ y _ c z;rw[n] at f ⊢;refine Calls.callWith_builtin (by show(false||(backTo w_ (starEach es X.env)).any (·.1))=false;rw[p]<;>rfl) (Calls.evalArgs_plain ?_);refine thn f λus s2 C=>?_
 obtain⟨vs,G,J,L,O⟩:=C;exact hm pins s2 σ G x vs v us Q J d L O
end
def MtM(X:Cx)(id:String)(r:V->List V->Hp->VK->Prop):Prop:=
 ∀(pins:Zc) (s:Shared) (σ:St) (H:Hp) (x:V) (xs:List V) (v:Value) (us:Zd) (Q:VK),Inv X pins σ H s->RelV x v->Vals xs us->r x xs H Q ->
  wpAny 'c' X.A (call (.builtin id) (v::us)) (EP X pins σ Q) X.xe s
theorem Vals.one{x:V}{us:Zd}(h:Vals [x] us):∃u,us=[u]/\RelV x u:=by
 cases h with
 |cons r t=>cases t;exact⟨_,rfl,r⟩
theorem Vals.two{x y:V}{us:Zd}(h:Vals [x,y] us):∃u v,us=[u,v]/\RelV x u/\RelV y v:=by
 cases h with
 |cons r t=>
  obtain⟨v,rfl,q⟩:=Vals.one t;exact⟨_,v,rfl,r,q⟩
theorem Vals.zero:∀{us:Zd},Vals [] us->us=[]
 |_,.nil=>rfl
theorem Vals.dropLast{xs:List V}{us:Zd}(h:Vals xs us):Vals xs.dropLast us.dropLast:=by
 induction h with
 |nil=>exact .nil
 |cons r t a=>
  cases t with
  |nil=>exact .nil
  |cons q t'=>exact .cons r a
theorem Vals.eraseIdx:∀{xs:List V}{us:Zd}(i:Nat),Vals xs us->Vals (xs.eraseIdx i) (us.eraseIdx i)
 |_,_,_,.nil=>.nil
 |_,_,0,.cons _ t=>t
 |_,_,i+1,.cons r t=>.cons r (Vals.eraseIdx i t)
theorem Vals.rep{xs:List V}{us:Zd}(h:Vals xs us):∀k:Nat,Vals (List.replicate k xs).flatten (List.replicate k us).flatten
 |0=>.nil
 |k+1=>by
  rw[XA,XA,XB,XB];exact Vals.append h (Vals.rep h k)
theorem AH{c:Type}(l:List c):l.eraseIdx (l.length-1)=l.dropLast:=by
 induction l with
 |nil=>rfl
 |cons a r d=>
  cases r with
  |nil=>rfl
  |cons b r=>
   have e:(a::b::r).length-1=((b::r).length-1)+1:=by
    have f:(a::b::r).length=r.length+2:=rfl;have g:(b::r).length=r.length+1:=rfl;omega
   rw[e,List.eraseIdx_cons_succ,d];all_goals rfl
theorem vY{a:Type}:∀(l:List a) (i:Nat),(l.eraseIdx i).length<=l.length
 |[],_=>YE _
 |_::_,0=>YM _
 |_::r,i+1=>Nat.succ_le_succ (vY r i)
theorem foldl_rep(d_:Zd):∀(k:Nat) (e_:Zd),
  List.foldl (λa b=>a++b) e_.toArray (List.replicate k d_.toArray)=(e_++(List.replicate k d_).flatten).toArray
 |0,e_=>by simp
 |k+1,e_=>by
  have e:e_.toArray++d_.toArray=(e_++d_).toArray:=by simp
  have c:(e_++d_)++(List.replicate k d_).flatten=e_++(List.replicate (k+1) d_).flatten:=by
   rw[XA,XB,List.append_assoc]
  rw[←c,←foldl_rep d_ k (e_++d_),←e,XA,List.foldl_cons]
section
variable {X:Cx}{pins:Zc}{σ:St}{H:Hp}{s:Shared}{l b:Addr}{xs ys zs:List V}
theorem Inv.lset{d_ l_:Zd}{n:Nat}{f:Array Value->Array Value}{t':Nat}(I:Inv X pins σ H s)(a:H l=some (.lst xs))
  (e:s.heap.get? l=some { cls:=.type "list",data:=.seq d_.toArray n }) (hf:f d_.toArray=l_.toArray) (c:Vals ys l_) (hz:ys.length<=sizeLine):
  Inv X pins σ (upd H l (.lst ys)) { s with heap:=s.heap.update l (Obj.mapSeq f),toks:=t' }:=by
 have q:=PySem.IsL.update e f;rw[hf] at q;refine I.write (x:=l) (e:=l) (by rw[a];exact trivial) (.inl rfl) (λb' u hb hu=>(Heap.get?_update_other s.heap (Obj.mapSeq f) (Ne.symm hb)).trans hu) ⟨_,q⟩ ?_;exact⟨hz,l_,_,c,q⟩
theorem Inv.lnew{d_:Zd}{t':Nat}(I:Inv X pins σ H s)(a:Vals ys d_)(hz:ys.length<=sizeLine):
  Inv X pins σ (upd H s.heap.objs.size (.lst ys)) { s with heap:=s.heap.push { cls:=.type "list",data:=.seq d_.toArray },toks:=t' }:=
 I.laid (λ_ _ q=>Yd _ q) (YE _) ⟨hz,d_,0,a,Yg _ rfl⟩
theorem Inv.fresh(I:Inv X pins σ H s):H s.heap.objs.size=none:=I.hok.fresh (YE _)
theorem Inv.lstM(I:Inv X pins σ H s)(a:H l=some (.lst xs)):xs.length<=sizeLine/\∃(d_:Zd) (n:Nat),Vals xs d_/\xs.length=d_.length/\s.heap.get? l=some { cls:=.type "list",data:=.seq d_.toArray n }:=by
 obtain⟨z,d_,n,r,e⟩:=I.hok l _ a;exact⟨z,d_,n,r,r.length,e⟩
theorem oM{n:Nat}(h:n<=sizeLine):Builtin.List.listTooLong n=false:=by
 unfold Builtin.List.listTooLong;exact ZP 'b'
end
section
variable {X:Cx}
def FR:V->List V->Hp->VK->Prop:=λx vs H Q=>∃l xs y,x=.ref l/\vs=[y]/\H l=some (.lst xs)/\xs.length<sizeLine/\Q .non (upd H l (.lst (xs++[y])))
theorem BS:MtM X "list.append" FR:=by
 intro pins s σ H x vs v us Q I b c h;obtain⟨l,xs,y,rfl,rfl,a,hz,q⟩:=h;cases b;obtain⟨u,rfl,d⟩:=c.one;obtain⟨z,d_,n,r,hl,e⟩:=I.lstM a;refine call_meets F.slot_list_append ⟨_,e,rfl⟩ F.entry_list_append (F.args_list_append_2 _ _) (PySem.list_append l d_.toArray n u (by rw[YG];omega)) ⟨e,?_⟩;refine⟨.non,_,I.lset (l_:=d_++[u]) a e (by simp) (r.append (.cons d .nil)) ?_,rfl,q⟩;rw[ZJ,List.length_singleton];omega
def FS:V->List V->Hp->VK->Prop:=λx vs H Q=>∃l b xs a,x=.ref l/\vs=[.ref b]/\H l=some (.lst xs)/\H b=some (.lst a)/\xs.length+a.length<=sizeLine/\Q .non (upd H l (.lst (xs++a)))
theorem BU:MtM X "list.extend" FS:=by
 intro pins s σ H x vs v us Q I d f h;obtain⟨l,b,xs,y,rfl,rfl,c,g,hz,q⟩:=h;cases d;obtain⟨u,rfl,j⟩:=f.one;cases j;obtain⟨z,d_,n,r,hl,e⟩:=I.lstM c;obtain⟨A,a,k,m,B,o⟩:=I.lstM g;have hsz:d_.toArray.size+a.toArray.size<=sizeLine:=by rw[YG,YG];omega
 have p:¬(!d_.toArray.isEmpty&&Builtin.List.listTooLong (d_.toArray.size+a.toArray.size))=true:=by
  rw[oM hsz,Bool.and_false];exact YC
 refine call_meets F.slot_list_extend ⟨_,e,rfl⟩ F.entry_list_extend (F.args_list_extend_2 _ _)
  (AutoSeq1.list_extend_list_list_0 l d_.toArray n b a.toArray k p (by rw[YG];omega) 'b') ⟨e,o,?_⟩
 refine⟨.non,_,I.lset (l_:=d_++a) c e (by simp) (r.append m) ?_,rfl,q⟩;rw[ZJ];omega
def rPop:V->List V->Hp->VK->Prop:=λx vs H Q=>∃l xs y,x=.ref l/\vs=[]/\H l=some (.lst xs)/\xs[xs.length-1]?=some y/\Q y (upd H l (.lst xs.dropLast))
theorem HX:MtM X "list.pop" rPop:=by
 intro pins s σ H x vs v us Q I b c h;obtain⟨l,xs,y,rfl,rfl,a,hy,q⟩:=h;cases b;have d:=c.zero;subst d;obtain⟨z,d_,n,r,hl,e⟩:=I.lstM a;obtain⟨u,hu,f⟩:=r.get hy;have g:d_.toArray[d_.toArray.size-1]?=some u:=by
  show d_.toArray[d_.length-1]?=some u;rw[←XC,←hl];exact hu
 refine call_meets F.slot_list_pop ⟨_,e,rfl⟩ F.entry_list_pop (F.args_list_pop_1 _) (MeetsSeq.list_pop_last l d_.toArray n u g (by rw[YG];omega)) ⟨e,?_⟩;refine⟨y,_,I.lset (l_:=d_.dropLast) a e ?_ r.dropLast ?_,f,q⟩
 ·show d_.toArray.eraseIdxIfInBounds (d_.toArray.size-1)=d_.dropLast.toArray
  rw[YG,List.eraseIdxIfInBounds_toArray,AH]
 ·rw[List.length_dropLast]
  omega
def HY:V->List V->Hp->VK->Prop:=λx vs H Q=>∃l xs i k y,x=.ref l/\vs=[.int i]/\H l=some (.lst xs)/\-(2 ^ 63)<=i/\i<2 ^ 63/\seqIndex? i xs.length=some k/\xs[k]?=some y/\Q y (upd H l (.lst (xs.eraseIdx k)))
theorem DO:MtM X "list.pop" HY:=by
 intro pins s σ H x vs v us Q I b c h;obtain⟨l,xs,i,k,y,rfl,rfl,a,d,f,hk,hy,q⟩:=h;cases b;obtain⟨u,rfl,g⟩:=c.one;obtain⟨t,rfl⟩:=g;obtain⟨z,d_,n,r,hl,e⟩:=I.lstM a;obtain⟨w,hw,j⟩:=r.get hy;refine call_meets F.slot_list_pop ⟨_,e,rfl⟩ F.entry_list_pop (F.args_list_pop_2 _ _)
  (MeetsSeq.list_pop_at l d_.toArray n i t k w (fitsIndex_both d f) (by rw[YG,←hl];exact hk) (by rw[←XC];exact hw) (by rw[YG];omega)) ⟨e,?_⟩
 refine⟨y,_,I.lset (l_:=d_.eraseIdx k) a e ?_ (r.eraseIdx k) ?_,j,q⟩
 ·show d_.toArray.eraseIdxIfInBounds k=(d_.eraseIdx k).toArray
  rw[List.eraseIdxIfInBounds_toArray]
 ·have:=vY xs k
  omega
def rCat:R2:=λx y H Q=>∃l b xs a,x=.ref l/\y=.ref b/\H l=some (.lst xs)/\H b=some (.lst a)/\xs.length+a.length<=sizeLine/\∀p,H p=none->Q (.ref p) (upd H p (.lst (xs++a)))
theorem HZ:OpR X (binaryOp .Add) rCat:=by
 intro pins s σ H x y v u Q I c d h;obtain⟨l,b,xs,o,rfl,rfl,f,g,hz,q⟩:=h;cases c;cases d;obtain⟨z,d_,n,r,hl,e⟩:=I.lstM f;obtain⟨p,a,A,j,B,k⟩:=I.lstM g;refine PySem.P.add_list e k ?_ (by rw[YG,YG];omega);have m:d_.toArray++a.toArray=(d_++a).toArray:=by simp
 rw[m];exact⟨.ref _,_,I.lnew (t':=s.toks) (r.append j) (by rw[ZJ];omega),rfl,q _ I.fresh⟩
def rRep:R2:=λx y H Q=>∃l k xs,x=.ref l/\y=.int k/\H l=some (.lst xs)/\-(2 ^ 63)<=k/\k<2 ^ 63/\xs.length*k.toNat<=sizeLine /\
 ∀p,H p=none->Q (.ref p) (upd H p (.lst (List.replicate k.toNat xs).flatten))
theorem len_rep{a:Type}(xs:List a)(k:Nat):(List.replicate k xs).flatten.length=k*xs.length:=by
 induction k with
 |zero=>simp
 |succ k b=>rw[XA,XB,ZJ,b,Nat.succ_mul,Nat.add_comm]
theorem H9:OpR X (binaryOp .Mult) rRep:=by
 intro pins s σ H x y v u Q I d f h;obtain⟨l,k,xs,rfl,rfl,g,j,o,hz,q⟩:=h;cases d;obtain⟨t,rfl⟩:=f;obtain⟨z,d_,n,r,hl,e⟩:=I.lstM g;have p:d_.toArray.size*k.toNat<=sizeLine:=by rw[YG,←hl];exact hz
 have A:¬d_.toArray.size*k.toNat>(2 ^ 63-1) / 8:=by
  have:(sizeLine:Nat)<=(2 ^ 63-1) / 8:=by decide
  omega
 have B:¬(!Builtin.List.listFitsIndex k)=true:=by
  rw[fitsIndex_both j o];exact YC
 have C:¬Builtin.List.listTooLong (d_.toArray.size*k.toNat)=true:=by
  rw[oM p];exact YC
 have G:List.foldl (λb c=>b++c) #[] (List.replicate (if d_.toArray.isEmpty=true then 0 else k.toNat) d_.toArray)=(List.replicate k.toNat d_).flatten.toArray:=by
  have J:∀m:Nat,List.foldl (λb c=>b++c) #[] (List.replicate m d_.toArray)=(List.replicate m d_).flatten.toArray:=λm=>by
   have:=foldl_rep d_ m []
   rw[XD] at this;exact this
  rw[J];cases d_ with
  |nil=>simp
  |cons a L=>rw[if_neg (by simp)]
 refine wpAny_binaryOp_repeat_ref (T:="list") (U:="int") 'a' ⟨_,e,rfl⟩ (λK=>typeIs_int K k t) noFill_list_mul F.fills_int_mul F.slot_int_rmul repeat_list F.slot_int_index.lookup
  (call_meets F.slot_int_rmul (typeIs_int s k t) F.entry_int_rmul (F.args_int_rmul_2 _ _) (int___rmul___int_list k t l d_.toArray n)
   ⟨e,rfl,⟨_,e,rfl⟩,call_meets F.slot_list_mul ⟨_,e,rfl⟩ F.entry_list_mul (F.args_list_mul_2 _ _) (AutoListH.list___mul___list_int_3 l d_.toArray n k t B A C) ⟨e,?_⟩⟩)
 rw[G];exact⟨.ref _,_,I.lnew (t':=s.toks) (r.rep k.toNat) (by rw[len_rep,Nat.mul_comm];exact hz),rfl,q _ I.fresh⟩
end
section
variable {prog:Zw}{w:World}{A:Around}{E:Zb}{s:Shared}
theorem AI{a c n:Nat}(f:a<=c)(hc:c<=n):sliceBounds (some (a:Int)) (some (c:Int)) none n=((a:Int),(c:Int),1):=by
 simp only[sliceBounds,Option.getD_none];have b:¬((a:Int)<0):=by omega
 have d:¬((c:Int)<0):=by omega
 simp only[b,d,if_false,show(1:Int)>0 by decide,if_true];congr 1
 ·omega
 ·congr 1;omega
/-- list.__setitem__ with a slice of step one and another list -/
theorem Ha {l b sl:Addr} {d new:Zl} {n u:Nat} {g j:Value} {a c:Nat} {Q:Zo}
    (e:s.heap.get? l = some { cls:=.type "list",data:=.seq d n }) (p:s.heap.get? b = some { cls:=.type "list",data:=.seq new u }) (y:l ≠ b)
    (z:s.heap.IsSliceOf sl g j .none) (B:IsPart g (some (a:Int))) (C:IsPart j (some (c:Int))) (G:a<=c) (hc:c<=d.size)
    (hsz:d.size + new.size<=sizeLine) (h:Q () { s with heap:=s.heap.update l (Obj.mapSeq λxs=>xs.extract 0 a ++ new ++ xs.extract c xs.size) }) :
    wpAny (model prog w) A (setItem (.ref l) (.ref sl) (.ref b)) Q E s:=by
  have hl:s.heap.IsList l d:=PySem.IsL.isList e
  have hb:s.heap.IsList b new:=PySem.IsL.isList p
  obtain ⟨os,f,J,k⟩:=id z
  have r:s.TypeIs (.ref sl) "slice":=⟨os,f,J⟩
  have K:¬ ((rawPart none == rawInt 0) = true):=YC
  have o:Builtin.List.listSameRef (.ref l) (.ref b) = false:=by
    unfold Builtin.List.listSameRef
    exact ZQ.mpr y
  have L:(max (a:Int) (c:Int)).toNat = c:=by omega
  have O:((λxs:Array Value=>xs.extract 0 a ++ new ++ xs.extract c xs.size) d).size<=sizeLine + 1:=by
    simp only [Array.size_append,Array.size_extract]
    omega
  unfold setItem
  try with_reducible refine Yj ?_
  first | refine Yb (Yc ?_) | skip
  refine Yb (wpAny_sequenceKey hl.typeIs 'a' ?_)
  refine Yb (wpAny_callSpecial?_slot (name:=Str.ofString "__setitem__") hl.typeIs slot_list_setitem
    (wpAny_call_entry slot_list_setitem hl.typeIs entry_list_setitem ?_ (args_list_setitem _ _ _)))
  show wpAny _ _ (Builtin.List.listSubscript? (.ref sl) >>= _) _ _ s
  refine Yb ?_
  unfold Builtin.List.listSubscript?
  refine Yb (wpAny_specialOf r slice_no_index ?_)
  simp only [Option.isNone_none,if_true]
  refine Yc ?_
  show wpAny _ _ (typeOf (.ref sl) >>= _) _ _ s
  refine Yb (wpAny_typeOf r ?_)
  first
    | rw [if_neg 'a']
    | refine PySem.W.KFB.if_not 'a' ?_
  rw [listSliceParts_eq]
  refine Yb (Yb (wpAny_field f k (x:=.none) rfl (Yb (wpAny_listPart .none ?_))))
  rw [if_neg K]
  refine Yb (wpAny_field f k (x:=g) rfl (Yb (wpAny_listPart B ?_)))
  refine Yb (wpAny_field f k (x:=j) rfl (Yb (wpAny_listPart C (Yc ?_))))
  first
    | simp only [o,XE,if_false]
    | refine PySem.W.KFB.if_not o ?_
    | (dsimp only
       rw [if_neg (by rw [o]; exact YC)])
  refine Yb (m:=Builtin.List.listAllItems (.ref b) "must assign iterable to extended slice") ?_
  unfold Builtin.List.listAllItems
  refine Yb (wpAny_typeOf hb.typeIs ?_)
  first
    | refine PySem.W.KFB.if_so 'a' ?_
    | rw [if_pos 'a']
    | simp only [XF,Bool.true_or,if_true]
  unfold Builtin.List.listItems
  refine Yb (wpAny_seqItems p rfl (Yc ?_))
  refine Yb (Yb (wpAny_seqItems e rfl (Yc ?_)))
  refine Yb (wpAny_of_eq ((sliceIndices_raw (some (a:Int)) (some (c:Int)) none d.size (by simp)).trans (congrArg (pure:Int × Int × Int->Sem (Int × Int × Int)) (AI G hc))) ?_)
  show wpAny _ _ (if ((1:Int) == 1) = true then _ else _) _ _ s
  rw [if_pos 'a']
  refine Yb (wpAny_rule ?_)
  first
    | simp only [oM hsz,XE,if_false]
    | refine PySem.W.KFB.if_not (oM hsz) ?_
  first | refine Yb (Yc ?_) | skip
  show wpAny _ _ (updateSeq l (λxs=>xs.extract 0 ((a:Int)).toNat ++ new ++ xs.extract (max (a:Int) (c:Int)).toNat xs.size) >>= _) _ _ s
  rw [L,YW]
  refine Yb (wpAny_updateSeq (hz:=ZW (Nat.le_add_right _ _) hsz) (_hz':=O) e rfl ?_)
  refine Yb (wpAny_letGo ?_)
  first
    | exact Yb (Yc (Yc ⟨.none,rfl,Yc h⟩))
    | exact Yc ⟨.none,rfl,Yc h⟩
end
section
variable {κ:Type}[DecidableEq κ]
def valV(a:List (κ×V))(k:κ):Option V:=(a.find? λkv=>decide (kv.1=k)).map (·.2)
def putK(a:List (κ×V))(k:κ)(v:V):List (κ×V):=
 if(a.any λkv=>decide (kv.1=k))=true then a.map (λkv=>if kv.1=k then(kv.1,v) else kv) else a++[(k,v)]
theorem sr{p:κ×V}{r:List (κ×V)}{k:κ}(e:p.1=k):valV (p::r) k=some p.2:=by simp[valV,XG,e]
theorem ss{p:κ×V}{r:List (κ×V)}{k:κ}(e:¬p.1=k):valV (p::r) k=valV r k:=by simp[valV,XG,e]
theorem xw(k:κ):∀a:List (κ×V),(a.any λkv=>decide (kv.1=k))=(valV a k).isSome
 |[]=>rfl
 |p::r=>by
  rw[XH];by_cases e:p.1=k
  ·simp only[sr e,YV e,Bool.true_or,Option.isSome_some]
  ·rw[ss e,ZP e,Bool.false_or];exact xw k r
theorem r0(a:List (κ×V))(k:κ)(v:V):(putK a k v).length<=a.length+1:=by
 unfold putK;split
 ·rw[ZE];omega
 ·rw[ZJ,YH,YU];omega
theorem RelO.isSome_eq{o:Option V}{u:Zx}(r:RelO o u):o.isSome=u.isSome:=by
 cases o with
 |none=>cases u with
  |none=>rfl
  |some _=>exact(show False from r).elim
 |some _=>cases u with
  |none=>exact(show False from r).elim
  |some _=>rfl
theorem KV.val{c:List (κ×V)}{vs:List (κ×Value)}(r:KV c vs)(k:κ):RelO (valV c k) (valueAt vs k):=by
 unfold KV at r;induction r with
 |nil=>exact True.intro
 |@cons p q ps a h t f=>
  obtain⟨d,g⟩:=h;by_cases e:p.1=k
  ·have e':q.1=k:=d.symm.trans e
   have b:valueAt (q::a) k=some q.2:=by simp[valueAt,XG,e']
   rw[sr e,b];exact g
  ·have e':¬q.1=k:=λz=>e (d.trans z)
   have b:valueAt (q::a) k=valueAt a k:=by simp[valueAt,XG,e']
   rw[ss e,b];exact f
theorem KV.any{a:List (κ×V)}{vs:List (κ×Value)}(r:KV a vs)(k:κ):(a.any λkv=>decide (kv.1=k))=vs.any λkv=>decide (kv.1=k):=by
 unfold KV at r;induction r with
 |nil=>rfl
 |cons h t b=>rw[XH,XH,b,h.1]
theorem KV.repl{b:List (κ×V)}{vs:List (κ×Value)}(r:KV b vs)(k:κ){y:V}{u:Value}(c:RelV y u):
  KV (b.map λkv=>if kv.1=k then(kv.1,y) else kv) (vs.map λkv=>if kv.1=k then(kv.1,u) else kv):=by
 unfold KV at r ⊢;induction r with
 |nil=>exact .nil
 |@cons p q ps g h t d=>
  rw[YJ,YJ];refine .cons ?_ d;obtain⟨a,f⟩:=h;by_cases e:p.1=k
  ·rw[if_pos e,if_pos (a.symm.trans e)];exact⟨a,c⟩
  ·rw[if_neg e,if_neg (λz=>e (a.trans z))];exact⟨a,f⟩
theorem KV.put{a:List (κ×V)}{vs:List (κ×Value)}(r:KV a vs)(k:κ){y:V}{u:Value}(b:RelV y u):KV (putK a k y) (stored vs k u):=by
 unfold putK stored;rw[r.any k];by_cases e:(vs.any λkv=>decide (kv.1=k))=true
 ·rw[if_pos e,if_pos e];exact r.repl k b
 ·rw[if_neg e,if_neg e];exact Paired.snoc r ⟨rfl,b⟩
theorem KV.keys{a:List (κ×V)}{vs:List (κ×Value)}(r:KV a vs):a.map (·.1)=vs.map (·.1):=by
 unfold KV at r;induction r with
 |nil=>rfl
 |cons h t b=>rw[YJ,YJ,b,h.1]
theorem KV.length{a:List (κ×V)}{vs:List (κ×Value)}(r:KV a vs):a.length=vs.length:=Paired.length r
end
theorem tq{P:Zw}{w:World}{k:Key}{u:Value}(r:RelV (kV k) u):(bx P w).is k u=true:=by
 cases k with
 |inl i=>obtain⟨t,e⟩:=(show ∃t,u=Value.int i t from r);subst e;exact y8 P w i t
 |inr x=>obtain⟨t,e⟩:=(show ∃t,u=Value.str x t from r);subst e;exact y9 P w x t
theorem vZ{P:Zw}{w:World}:∀{ks:List Key}{us:Zd},Vals (ks.map kV) us->ItemsAre (bx P w) ks us
 |[],_,r=>by rw[YZ] at r;cases r;exact .nil
 |k::ks,_,r=>by
  rw[YJ] at r;cases r with
  |cons h t=>exact .cons (tq h) (vZ t)
abbrev KT(H:Hp):List (List Key×V)->List (List Key×Addr×Value)->Prop:=Paired λp q=>p.1=q.1/\H q.2.1=some (.tup (p.1.map kV))/\RelV p.2 q.2.2
theorem KT.val{H:Hp}{c:List (List Key×V)}{xs:List (List Key×Addr×Value)}(r:KT H c xs)(k:List Key):RelO (valV c k) ((atKey xs k).map (·.2)):=by
 induction r with
 |nil=>exact True.intro
 |@cons p q ps a h t f=>
  obtain⟨d,_,g⟩:=h;by_cases e:p.1=k
  ·have e':q.1=k:=d.symm.trans e
   have b:atKey (q::a) k=some q.2:=by simp[atKey,XG,e']
   rw[sr e,b];exact g
  ·have e':¬q.1=k:=λz=>e (d.trans z)
   have b:atKey (q::a) k=atKey a k:=by simp[atKey,XG,e']
   rw[ss e,b];exact f
theorem KT.repl{H:Hp}{b:List (List Key×V)}{xs:List (List Key×Addr×Value)}(r:KT H b xs)(k:List Key){y:V}{u:Value}(d:RelV y u):
  KT H (b.map λkv=>if kv.1=k then(kv.1,y) else kv) (xs.map (putAt k u)):=by
 induction r with
 |nil=>exact .nil
 |@cons p q ps j h t f=>
  rw[YJ,YJ];refine .cons ?_ f;obtain⟨a,c,g⟩:=h;unfold putAt;by_cases e:p.1=k
  ·rw[if_pos e,if_pos (a.symm.trans e)];exact⟨a,c,d⟩
  ·rw[if_neg e,if_neg (λz=>e (a.trans z))];exact⟨a,c,g⟩
theorem KT.put{H:Hp}{a:List (List Key×V)}{xs:List (List Key×Addr×Value)}(r:KT H a xs)(k:List Key){b:Addr}{y:V}{u:Value}(hb:H b=some (.tup (k.map kV)))(c:RelV y u):
  KT H (putK a k y) (storedH xs k b u):=by
 have e:(a.any λkv=>decide (kv.1=k))=(atKey xs k).isSome:=by
  rw[xw,(r.val k).isSome_eq,Option.isSome_map]
 unfold putK storedH;rw[e];by_cases q:(atKey xs k).isSome=true
 ·rw[if_pos q,if_pos q];exact r.repl k c
 ·rw[if_neg q,if_neg q];exact Paired.snoc r ⟨rfl,hb,c⟩
theorem KT.keeps{H H':Hp}{a:List (List Key×V)}{xs:List (List Key×Addr×Value)}(r:KT H a xs)(ht:∀b ys,H b=some (.tup ys)->H' b=some (.tup ys)):KT H' a xs:=
 Paired.mapP r λ_ _ z=>⟨z.1,ht _ _ z.2.1,z.2.2⟩
section
variable {P:Zw}{w:World}{H:Hp}{h:Heap}{a:Addr}
theorem E8{u:HO}(ok:HOk P w H h)(e:Rd H a u):a0 P w H h a u:=e.ok ok
theorem mr{b:List (Key×V)}(ok:HOk P w H h)(e:Rd H a (.dK b)):b.length<=sizeLine/\(a==sysModules)=false/\∃vs,KV b vs/\h.DictOf (bx P w) a vs:=
 show a0 P w H h a (.dK b) from E8 ok e
theorem E9{b:List (Key×V)}(ok:HOk P w H h)(e:H a=some (.dK b)):b.length<=sizeLine/\(a==sysModules)=false/\∃vs,KV b vs/\h.DictOf (bx P w) a vs:=mr ok (.inl e)
theorem qk{ks:List Key}(ok:HOk P w H h)(e:H a=some (.tup (ks.map kV))):(tupleKind (bx P w)).is h ks a:=by
 obtain⟨_,d_,r,o,b,c,n,d⟩:=(show a0 P w H h a (.tup (ks.map kV)) from ok a _ e);exact⟨o,d_.toArray,n,b,c,d,by simpa using vZ r⟩
theorem tt{b:List (List Key×V)}(ok:HOk P w H h)(e:Rd H a (.dT b)):b.length<=sizeLine/\(a==sysModules)=false /\
  ∃xs,KT H b xs/\h.DictOfH (tupleKind (bx P w)) a xs:=by
 obtain⟨z,y,xs,r,o,es,c,d,f,g,j,k⟩:=(show a0 P w H h a (.dT b) from E8 ok e);refine⟨z,y,xs,r,o,es,c,d,f,g,j,λx hx=>?_,k⟩;have all:∀{l:List (List Key×V)}{m:List (List Key×Addr×Value)},KT H l m->∀x∈m,(tupleKind (bx P w)).is h x.1 x.2.1:=by
  intro l m q;induction q with
  |nil=>intro x hx;exact nomatch hx
  |@cons p q ps u hq t n=>
   intro x hx;rcases ZZ.mp hx with e | hx
   ·subst e
    exact qk ok (by rw[←hq.1];exact hq.2.1)
   ·exact n x hx
 exact all r x hx
theorem JL{b:List (List Key×V)}(ok:HOk P w H h)(e:H a=some (.dT b)):b.length<=sizeLine/\(a==sysModules)=false /\
  ∃xs,KT H b xs/\h.DictOfH (tupleKind (bx P w)) a xs:=tt ok (.inl e)
end
def DGet(H:Hp)(a:Addr)(y:V)(r:Option V):Prop:=
 (∃c k,Rd H a (.dK c)/\y=kV k/\r=valV c k) \/ ∃c k b,Rd H a (.dT c)/\y=.ref b/\H b=some (.tup (k.map kV))/\r=valV c k
def DPut(H:Hp)(a:Addr)(y v:V)(H':Hp):Prop:=
 (∃c k,H a=some (.dK c)/\y=kV k/\c.length<sizeLine/\H'=upd H a (.dK (putK c k v))) \/
 ∃c k b,H a=some (.dT c)/\y=.ref b/\H b=some (.tup (k.map kV))/\c.length<sizeLine/\H'=upd H a (.dT (putK c k v))
theorem DGet.k{H:Hp}{a:Addr}{b:List (Key×V)}{k:Key}(e:H a=some (.dK b)):DGet H a (kV k) (valV b k):=.inl ⟨b,k,.inl e,rfl,rfl⟩
section
variable {X:Cx}{pins:Zc}{σ:St}{H:Hp}{s:Shared}{a:Addr}{y v:V}{u r:Value}{o:Option V}{A:Around}{E:Zb}
theorem Inv.big(I:Inv X pins σ H s):sysModules<s.heap.objs.size:=by
 have h:mainGlobals<s.heap.objs.size:=(I.mod.glob.keeps I.bk).lt;exact Nat.lt_trans 'a' h
theorem BV{Q:Zb}(hu:A.units+1<cLine)(I:Inv X pins σ H s)(g:DGet H a y (some v))(n:RelV y u)(h:∀c B,Inv X pins σ H B->RelV v c->Q c B):
  wpAny 'c' A (getItem (.ref a) u) Q E s:=by
 rcases g with⟨C,k,e,d,l⟩ | ⟨C,k,b,e,d,G,l⟩
 ·subst d
  obtain⟨z,hd,vs,f,j⟩:=mr I.hok e;obtain⟨c,hw,m⟩:=RelO.some_of (v:=v) (o:=valueAt vs k) (by rw[l];exact f.val k);exact wpAny_getItem_of (tq n) j.mapOf hw (h c _ (I.tok _) m)
 ·subst d
  cases(show u=Value.ref b from n);obtain⟨z,hd,xs,f,j⟩:=tt I.hok e;obtain⟨c,hw,m⟩:=RelO.some_of (v:=v) (o:=(atKey xs k).map (·.2)) (by rw[l];exact f.val k);obtain⟨p,hp,J⟩:=ZN.mp hw;refine wpAny_getItem_heap (tupleKind_room_in1 hu) (qk I.hok G) j hp ?_;rw[J];exact h c _ (I.tok _) m
theorem d_in{Q:Zb}(hu:A.units+1<cLine)(I:Inv X pins σ H s)(g:DGet H a y o)(j:RelV y u)(h:∀m,Inv X pins σ H m->Q (.bool o.isSome) m):
  wpAny 'c' A (compareOp .In u (.ref a)) Q E s:=by
 rcases g with⟨n,k,e,c,l⟩ | ⟨n,k,b,e,c,p,l⟩
 ·subst c
  obtain⟨z,hd,vs,d,f⟩:=mr I.hok e;refine wpAny_in_of (tq j) hd f.mapOf ?_;rw[←(d.val k).isSome_eq,←l];exact h _ (I.tok _)
 ·subst c
  cases(show u=Value.ref b from j);obtain⟨z,hd,xs,d,f⟩:=tt I.hok e;refine wpAny_in_heap (tupleKind_room_in1 hu) (qk I.hok p) hd f ?_;have q:=(d.val k).isSome_eq;rw[Option.isSome_map] at q;rw[←q,←l];exact h _ (I.tok _)
theorem FT{Q:Zb}(hu:A.units+1<cLine)(I:Inv X pins σ H s)(g:DGet H a y o)(j:RelV y u)(h:∀m,Inv X pins σ H m->Q (.bool (!o.isSome)) m):
  wpAny 'c' A (compareOp .NotIn u (.ref a)) Q E s:=by
 rcases g with⟨n,k,e,c,l⟩ | ⟨n,k,b,e,c,p,l⟩
 ·subst c
  obtain⟨z,hd,vs,d,f⟩:=mr I.hok e;refine wpAny_notIn_of (tq j) hd f.mapOf ?_;rw[←(d.val k).isSome_eq,←l];exact h _ (I.tok _)
 ·subst c
  cases(show u=Value.ref b from j);obtain⟨z,hd,xs,d,f⟩:=tt I.hok e;refine wpAny_notIn_heap (tupleKind_room_in1 hu) (qk I.hok p) hd f ?_;have q:=(d.val k).isSome_eq;rw[Option.isSome_map] at q;rw[←q,←l];exact h _ (I.tok _)
theorem zI{h':Heap}{t':Nat}{c:HO}(I:Inv X pins σ H s)(mu:Mut (H a))(d:Heap.SameBut a s.heap h')(f:∃q,h'.get? a=some q)(new:a0 X.prog X.w (upd H a c) h' a c):
  Inv X pins σ (upd H a c) { s with heap:=h',toks:=t' }:=
 I.write (x:=a) (e:=a) mu (.inl rfl) (λb q hb z=>(d.2 b hb).trans z) f new
theorem Ia{P:Zw}{w:World}{H':Hp}{h':Heap}{b:List (Key×V)}{vs:List (Key×Value)}(z:b.length<=sizeLine)(hd:(a==sysModules)=false)(c:KV b vs)(d:h'.DictOf (bx P w) a vs):
  a0 P w H' h' a (.dK b):=⟨z,hd,vs,c,d⟩
theorem BW{H':Hp}{Q:Zo}(hu:A.units+1<cLine)(I:Inv X pins σ H s)(g:DPut H a y v H')(C:RelV y u)(G:RelV v r)(h:∀J,Inv X pins σ H' J->Q () J):
  wpAny 'c' A (setItem (.ref a) u r) Q E s:=by
 rcases g with⟨d,k,e,m,l,n⟩ | ⟨d,k,b,e,m,K,l,n⟩
 ·subst m n
  obtain⟨z,hd,vs,f,p⟩:=E9 I.hok e;have hz:vs.length<=sizeLine:=by rw[←f.length];exact z
  have hl:(putK d k v).length<=sizeLine:=by have:=r0 d k v;omega
  refine wpAny_setItem_pairs (hsz:=hz) (tq C) p λh' j B=>h _ ?_
  have O:∃q,h'.get? a=some q:=let⟨q,_,_,hq,_⟩:=j;⟨q,hq⟩;exact zI I (by rw[e];exact True.intro) B O (Ia hl hd (f.put k G) j)
 ·subst m n
  cases(show u=Value.ref b from C);obtain⟨z,hd,xs,f,p⟩:=JL I.hok e;have hz:xs.length<=sizeLine:=by rw[←Paired.length f];exact z
  have hl:(putK d k v).length<=sizeLine:=by have:=r0 d k v;omega
  refine wpAny_setItem_heap (hsz:=hz) (tupleKind_room_in1 hu) (qk I.hok K) p λh' j B=>h _ ?_
  obtain⟨q,es,P,hq,R,S,T,_,U⟩:=j;refine zI I (by rw[e];exact True.intro) B ⟨q,hq⟩ ⟨hl,hd,_,(f.put k K G).keeps λc ys L=>?_,q,es,P,hq,R,S,T,U⟩;rw[aK (Jn L e (λz=>nomatch z))];exact L
end
section
variable {X:Cx}{pins:Zc}{σ:St}{H:Hp}{s:Shared}{a:Addr}{b_:List (Key×V)}{k:Key}{u:Value}{A:Around}{E:Zb}
theorem Fa{Q:Zb}(I:Inv X pins σ H s)(e:Rd H a (.dK b_))(h:∀t b,Inv X pins σ H b->Q (.int b_.length t) b):wpAny 'c' A (call (.builtin "len") [.ref a]) Q E s:=by
 obtain⟨z,hd,vs,c,d⟩:=mr I.hok e;refine call_len_dict hd d (by rw[←c.length];rw[sizeLine_eq] at z;omega) ?_;rw[←c.length];exact h _ _ (I.tok _)
end
theorem zc{X:Cx}{pins:Zc}{σ:St}{H:Hp}{s:Shared}{a:Addr}{y:V}{o:Option V}(I:Inv X pins σ H s)(g:DGet H a y o):s.TypeIs (.ref a) "dict":=by
 rcases g with⟨d,k,e,_,_⟩ | ⟨d,k,b,e,_,_,_⟩
 ·obtain⟨_,_,vs,_,c⟩:=mr I.hok e
  exact c.typeIs
 ·obtain⟨_,_,xs,_,c⟩:=tt I.hok e
  exact c.typeIs
theorem DP{P:Zw}{w:World}{H:Hp}(h:Heap)(hb:sysModules<h.objs.size):a0 P w H (h.push { cls:=.type "dict",data:=.dict #[] }) h.objs.size (.dK []):=
 ⟨YL _,ZQ.mpr (Ne.symm (ZT hb)),[],.nil,Heap.DictOf.new h⟩
def Ib:TE:=λ_ H Q=>∀p,H p=none->Q (.ref p) (upd H p (.dK []))
section
variable {X:Cx}{pos:Pos}
theorem DQ:PE X (.Dict [] [] pos) Ib:=λpins s σ H Q I h=>
 wpAny_Dict_empty ⟨.ref s.heap.objs.size,_,I.laid (a:=s.heap.objs.size) (o:=.dK []) (t':=s.toks) (λ_ _ q=>Yd _ q) (YE _) (DP s.heap I.big),rfl,h _ (I.hok.fresh (YE _))⟩
end
structure M1 (X:Cx) (o:Expr) (m:Str) (m_:Pos) (e:Expr) (w_:Pos):Prop where
 base:attributeBase o m X.env (eval o X.env)=eval o X.env
 few:((backTo w_ (starEach [e] X.env)).all (λx=>!x.1)&&(backToKw w_ (keywordEach [] X.env)).all (λx=>x.1.isSome)
  && decide (([e]:List Expr).length+([]:List Keyword).length+(if([]:List Keyword).isEmpty then 0 else 1)<30))=true
 line:(m_.endLine==w_.line)=true
 trees:backTo w_ (starEach [e] X.env)=[(false,eval e X.env)]
structure M2 (X:Cx) (o:Expr) (m:Str) (m_:Pos) (e f:Expr) (w_:Pos):Prop where
 base:attributeBase o m X.env (eval o X.env)=eval o X.env
 few:((backTo w_ (starEach [e,f] X.env)).all (λx=>!x.1)&&(backToKw w_ (keywordEach [] X.env)).all (λx=>x.1.isSome)
  && decide (([e,f]:List Expr).length+([]:List Keyword).length+(if([]:List Keyword).isEmpty then 0 else 1)<30))=true
 line:(m_.endLine==w_.line)=true
 trees:backTo w_ (starEach [e,f] X.env)=[(false,eval e X.env),(false,eval f X.env)]
end L2
namespace Att
open PySem PySem.W PySem.Calls PyProof.Rows
theorem tw{P:Params}{h:Heap}:∀(ns:Zi) (vs:Zd),WellAll P h vs (ns.map WData.int)->IntsAre vs ns:=by
 intro ns;induction ns with
 |nil=>
  intro vs w;rw[YZ] at w;cases w;exact .nil
 |cons n ns c=>
  intro vs w;rw[YJ] at w;cases w with
  |cons a b=>
   cases a;exact .cons _ _ (c _ b)
theorem BX{l:OpenLaw}{n:Nat}(hn:l.most=some n){P:Params}{h:Heap}{args:List WData}{b:Zd}
  (g:l.row.toRowW.claim.pre args=true) (j:WellAll P h b args):
  ∃a vs ns,b=[Value.ref a]/\args=[WData.list (ns.map WData.int)]/\h.get? a=some { cls:=.type "list",data:=.seq vs.toArray }/\IntsAre vs ns/\ns.length<=n:=by
 have k:WShape.hasAll [] args [.list .int]=true:=(pre_splitW g).1;have hc:l.pre.holds [] { args:=args }=true:=(pre_splitW g).2;obtain⟨d,r,rfl,m,o⟩:=hasAllW_cons k;obtain rfl:=hasAllW_nil o;obtain⟨xs,rfl,p⟩:=hasW_list m;obtain⟨ns,rfl⟩:=items_int p;have u:ns.length<=n:=by
  unfold OpenLaw.pre at hc;have c:(WTm.not (.lt (.lit (.int (n:Int))) (.len (.arg 0)))).holds [] { args:=[.list (ns.map .int)] }=true:=by
   have c:=(holds_andW hc).1;rw[hn] at c;exact c
  have f:=condW_of c (w_not (w_lt w_lit (w_len_list (w_arg rfl))));rw[ZE] at f;refine Nat.le_of_not_lt λq=>?_
  have y:(n:Int)<((ns.length:Nat):Int):=by omega
  first
   |(rw[YV y] at f;exact absurd f 'a')
   |(simp at f;omega)
 cases j with
 |cons z A=>
  cases A;cases z with
  |list ho B=>exact⟨_,_,ns,rfl,rfl,ho,tw ns _ B,u⟩
theorem BY(l:OpenLaw)(args:List WData):l.row.toRowW.claim.post args (.bool true) args=true:=
 postW_of (r:=l.row.toRowW) (X:=(true==true))
  (show WShape.has [] (.bool true) .bool=true by first | rfl | decide | simp[WShape.has,WShape.arms,WShape.armsAll])
  (show(WTm.eq .res (.lit (.bool true))).value [] { args:=args,res:=some (.bool true),after:=args }=some (.bool (true==true)) from w_eq_bool (w_res rfl) w_lit) rfl
theorem zd{l:OpenLaw}{n:Nat}{q:Zw}{loose:Zf}{XP:(Str->Option Value)->Heap->Prop}{YP:World->Heap->Prop}{d:DefRec}
  (hn:l.most=some n) (u:d.params.defaults=[])
  (call:∀(w:World) (s₀ b:Shared) (mg mb:Ze) (g:Addr) (o:Obj) (pm j r_:Value) (a:Addr) (vs:Zd) (ns:Zi),
   Ground q loose [] XP w s₀ mg mb b.heap->YP w b.heap ->
   b.heap.get? g=some o->o.data=.func (docDef d.name d.params d.body d.scope pm j r_)->b.heap.CodeRec j d.name->mg d.name=some (.ref g) ->
   b.heap.get? a=some { cls:=.type "list",data:=.seq vs.toArray }->IntsAre vs ns->ns.length<=n->b.gens = #[] ->
   codeAny (model l.prog w) callerA (.call (.ref g) ⟨[.ref a],[]⟩) (λr k=>r=.ok (.ret (.bool true))/\OldK b.heap k.heap/\k.os=b.os/\AllBare k.gens) b):
  WalkO q loose XP YP l.row.toRowW d [] (λf vs=>PySem.call f vs):=by
 intro w s₀ b mg mb G Y g o pm j r_ y kV ho hd z m A hg args p as B R S C T;obtain rfl:y=.none:=Dflts.none m u;obtain rfl:kV=.none:=Dflts.noKw m;obtain⟨a,vs,ns,rfl,rfl,J,c,K⟩:=BX hn B C;refine enter_call (codeAny_mono (call w s₀ b mg mb g o pm j r_ a vs ns G Y ho (fd_plain hd) z A J c K hg) λr k hq=>?_);obtain⟨rfl,L,O,P⟩:=hq;exact⟨.inl ⟨.bool true,.bool true,[],rfl,λ_=>rfl,.bool true,BY l _,λ_=>⟨List.Pairwise.nil,λ_ hm=>(nomatch hm)⟩⟩,L,O,P⟩
section
variable {prog:Zw}{w:World}{A:Around}{E:Zb}{s:Shared}{K:Frag}
end
end Att
namespace L2
open PySem PySem.Spec PyProof.Rows
theorem wa:∀{vs:Zd}{ns:Zi},IntsAre vs ns->Vals (ns.map V.int) vs
 |_,_,.nil=>.nil
 |_,_,.cons n t h=>.cons ⟨t,rfl⟩ (wa h)
def Only(H:Hp):Prop:=∀b,H b=none \/ ∃o xs,H b=some (.frz o (.lst xs))
theorem DR{P:Zw}{w:World}{K:Za}{mg mb:Ze}{CX:CXT}{k:Nat}{y a:Addr}{fd:Zv}{x:Str}{sp:Sp}{c:Shared}{vs:Zd}{ns:Zi}
  (A:K.In c.heap) (B:c.heap.Ns mainGlobals mg) (hb:c.heap.Ns builtinsNs mb) (S:∀x:Str,x ≠ "__name__"->mb x=bootBuiltins x) (T:c.heap.NoLimit) (hg:c.gens = #[])
  (ha:c.heap.get? a=some { cls:=.type "list",data:=.seq vs.toArray }) (hi:IntsAre vs ns) (hl:ns.length<=sizeLine) (U:Room k callerA)
  (F:∀base:Heap,K.In base->base.Ns mainGlobals mg->FnOk P w K mg base CX k y fd [x] sp) (W:∀(s:Shared) (u:Value),BindsTo s fd ⟨[u],[]⟩ [(x,u)])
  (Y:∀H:Hp,Only H->SqL K H a (ns.map V.int)->sp [.ref a] H (λv _=>v=.bl true) λ_ _ _=>False)
  (Z:∀H e f,CX [] H c (λ_ _ _=>False) e f->False):
  codeAny (model P w) callerA (.call (.ref y) ⟨[.ref a],[]⟩) (λr f=>r=.ok (.ret (.bool true))/\OldK c.heap f.heap/\f.os=c.os/\AllBare f.gens) c:=by
 have C:=wa hi;have Rn:=hi.length
 -- from an abstract heap in which nothing but the script may be tracked
 have g:∀H:Hp,Only H->SqL K H a (ns.map V.int)->HOk P w H c.heap->(∀b,H b≠none->b=a)->(H a≠none->K.lookup a=none) ->
   codeAny (model P w) callerA (.call (.ref y) ⟨[.ref a],[]⟩) (λr f=>r=.ok (.ret (.bool true))/\OldK c.heap f.heap/\f.os=c.os/\AllBare f.gens) c:=by
  intro H G hS hok J hK;have L:∀{b:Addr}{o:Obj},c.heap.get? b=some o->H b=none->(hidT c.heap H).get? b=some o:=λe n=>Dw e n
  have Ot:∀{b:Addr}{o:Obj}{es:Array DictEntry}{j:Nat},c.heap.get? b=some o->o.data=.dict es j->H b=none:=λ{b o es j} e d=>by
   cases q:H b with
   |none=>rfl
   |some u=>
    have e':b=a:=J b (by rw[q];simp);subst e';rw[ha] at e;cases e;have d':Data.seq vs.toArray _=Data.dict es j:=d;cases d'
  have p:∀{b:Addr}{m:Ze},c.heap.Ns b m->(hidT c.heap H).Ns b m:=λ{b m} ⟨o,es,j,e,d,r⟩=>⟨o,es,j,L e (Ot e d),d,r⟩
  have O:K.In (hidT c.heap H):=λb o e=>L (A b o e) (by
   cases q:H b with
   |none=>rfl
   |some u=>
    have e':b=a:=J b (by rw[q];simp);subst e';rw[hK (by rw[q];simp)] at e;cases e)
  have hM:Mod K mg (hidT c.heap H):=⟨O,p B,⟨mb,p hb,S⟩,let⟨mc,h1,h2⟩:=T;⟨mc,p h1,h2⟩⟩;have e0:Env0 P w K mg (hidT c.heap H) callerA [] c H:=⟨rfl,hM,λb o e=>Fr e,Nat.le_of_eq (BF _ _),trivial,λb hb=>absurd (show b∈([]:List Addr) from hb) (by simp),hok,.of_eq hg⟩;refine codeAny_mono ((F _ O (p B)).run callerA [] c H ⟨[.ref a],[]⟩ [.ref a] [.ref a] _ _ U e0 (W c (.ref a)) (.cons rfl .nil) (Y H G hS)) λr f h=>?_
  cases r with
  |error e=>exact(Z H e f h).elim
  |ok fl=>
   cases fl with
   |next=>exact Yh h
   |brk=>exact Yh h
   |cont=>exact Yh h
   |ret u=>
    obtain⟨v,H',os,bare,un,Nk,r',q⟩:=h;have q':v=.bl true:=q;subst q';obtain rfl:u=Value.bool true:=r';refine⟨rfl,OldK.of_keep λb o e=>?_,os,bare⟩;cases q:H b with
    |none=>exact un.keep b o e q (by intro z;exact absurd (show b∈([]:List Addr) from z) (by simp)) (by simp)
    |some u=>
     rcases G b with z | ⟨ob,xs,z⟩
     ·rw[q] at z;cases z
     ·have z2:=un.frzs b ob _ z
      obtain⟨R,_⟩:=hok b _ z;obtain⟨e2,_⟩:=Nk b _ z2;rw[e] at R;cases R;exact e2
 cases hk:K.lookup a with
 |some o=>
  -- the script is one of the module's own objects
  have e:=A a o hk;rw[ha] at e;cases e;refine g (λ_=>none) (λ_=>.inl rfl) (.inr ⟨_,vs.toArray,_,hk,rfl,rfl,rfl,by rw[YG,Rn];exact hl,by simpa using C⟩) (λb u z=>by have l:(none:Option HO)=some u:=z;cases l) (λb z=>absurd rfl z) λz=>absurd rfl z
 |none=>
  refine g (λb=>if b=a then some (.frz { cls:=.type "list",data:=.seq vs.toArray } (.lst (ns.map V.int))) else none) (λb=>?_) (.inl (.inr ⟨{ cls:=.type "list",data:=.seq vs.toArray },if_pos rfl⟩)) (λb u z=>?_) (λb z=>?_) λ_=>hk
  ·by_cases hb:b=a
   ·exact .inr ⟨_,_,if_pos hb⟩
   ·exact .inl (if_neg hb)
  ·by_cases hb:b=a
   ·have l:=(if_pos hb).symm.trans z
    cases l;subst hb;exact⟨ha,by rw[ZE];exact hl,vs,_,C,ha⟩
   ·have l:=(if_neg hb).symm.trans z
    cases l
  ·by_cases hb:b=a
   ·exact hb
   ·exact absurd (if_neg hb) z
theorem FU{l:PySem.W.OpenLaw}{n k:Nat}{q:Zw}{loose:Zf}{XP:(Str->Option Value)->Heap->Prop}{YP:World->Heap->Prop}{d:DefRec}{K:Params->PySem.W.Frag}{CX:World->CXT}{sp:World->Sp}{x:Str}
  (hn:l.most=some n) (y:n<=sizeLine) (z:d.params.defaults=[]) (A:Room k callerA)
  (B:∀(w:World) (h:Heap),YP w h->(K w.params).In h)
  (F:∀(w:World) (mg:Ze) (j:Addr) (h:Heap),(K w.params).In h->h.Ns mainGlobals mg->mg d.name=some (.ref j) ->
   ∃fd:FuncData,(∀(s:Shared) (u:Value),BindsTo s fd ⟨[u],[]⟩ [(x,u)]) /\
    ∀base:Heap,(K w.params).In base->base.Ns mainGlobals mg->FnOk l.prog w (K w.params) mg base (CX w) k j fd [x] (sp w))
  (C:∀(w:World) (H:Hp) (a:Addr) (ns:Zi),ns.length<=n->Only H->SqL (K w.params) H a (ns.map V.int)->sp w [.ref a] H (λv _=>v=.bl true) λ_ _ _=>False)
  (J:∀(w:World) (H:Hp) (s:Shared) (e:Value) (m:Shared),CX w [] H s (λ_ _ _=>False) e m->False):
  PySem.W.WalkO q loose XP YP l.row.toRowW d [] (λf vs=>PySem.call f vs):=by
 refine Att.zd hn z λw s₀ L mg mb j o pm Z r_ a vs ns G Y ho hd K' O P c p hg=>?_
 have r:=B w _ Y;obtain⟨fd,hb,R⟩:=F w mg j _ r G.T.g O;exact DR r G.T.g G.T.b G.T.builtins G.T.nolimit hg P c (ZW p y) A R hb (λH S U=>C w H a ns p S U) λH e m=>J w H L e m
def inClass(s:Stmt)(j:Nat):Stmt:=match s with
 |.ClassDef _ _ _ body _ _ _ _ _ _ _=>body.getD j (.Pass ⟨0,0,0,0⟩)
 |_=>.Pass ⟨0,0,0,0⟩
def bp(s:Stmt):Arguments:=match s with
 |.FunctionDef _ a _ _ _ _ _ _ _ _=>a
 |_=>{ posonlyargs:=[],args:=[],vararg:=none,kwonlyargs:=[],kw_defaults:=[],kwarg:=none,defaults:=[] }
def aO(s:Stmt):List Stmt:=match s with
 |.FunctionDef _ _ b _ _ _ _ _ _ _=>b
 |_=>[]
def au(s:Stmt):Scope:=match s with
 |.FunctionDef _ _ _ _ _ _ sc _ _ _=>sc
 |_=>{ kind:=.function,names:=[],isGenerator:=false,isCoroutine:=false }
abbrev CX0:CXT:=λ_ _ _ _ _ _=>False
abbrev E0:XK:=λ_ _ _=>False
theorem xb{X:Cx}:qi CX0 X E0:=λ_ _ _ _ _ _ _ h=>h.elim
structure Fun (K:Za) (x i_:Str) (st:Stmt) (f:Addr) (fd:Zv):Prop where
 ex:∃(oc:Value) (od:Zm) (kV r_ pm:Value) (an:Zm) (p_ ct:Value) (G_:Zn),
  fd=PySem.W.fnOf x i_ (bp st) (aO st) (au st) .none kV r_ pm an p_ ct/\K.lookup f=some ⟨oc,od,.func fd,G_⟩/\PySem.W.codeIn K p_ i_=true
 kp:PySem.W.keepIn K (.ref f)=true
section
variable {P:Zw}{w:World}{K:Za}{mg:Ze}{base:Heap}
theorem Fun.ok{x i_:Str}{st:Stmt}{f:Addr}{fd:Zv}{N ps:Zf}{k:Nat}{sp:Sp}(F:Fun K x i_ st f fd)(S:FnScope N ps (au st))(len:∀vs H Q E,sp vs H Q E->vs.length=ps.length)
  (a:∀(p_:Value) (A:Around) (outer:List Env) (s:Shared) (H:Hp) (vs:List V) (Q:VK) (E:XK),Room k (A.deeper (envOfC i_ (au st) s.heap.objs.size f p_))->sp vs H Q E ->
   ∃t,PSs (cxOf CX0 P w K mg base N i_ (au st) f p_ A outer s H E).nox (aO st) t/\t { nx:=λ_ H'=>Q .non H',rt:=Q } (start N vs) H):FnOk P w K mg base CX0 (k+1) f fd ps sp:=by
 obtain⟨oc,od,kV,r_,pm,an,p_,ct,G_,rfl,b,c⟩:=F.ex;refine JF b c S len λA outer s H vs Q E d g=>?_
 obtain⟨t,h,q⟩:=a p_ A outer s H vs Q E d g;exact⟨t,h.nox,q⟩
theorem Fun.binds{x i_:Str}{st:Stmt}{f:Addr}{fd:Zv}{ps:Zf}(F:Fun K x i_ st f fd)
  (h:∀(kV r_ pm:Value) (an:Zm) (p_ ct:Value) (us:Zd),us.length=ps.length->bindArgs (PySem.W.fnOf x i_ (bp st) (aO st) (au st) .none kV r_ pm an p_ ct) ⟨us,[]⟩=pure (ps.zip us)):Binds K fd ps []:=by
 obtain⟨oc,od,kV,r_,pm,an,p_,ct,G_,rfl,a,b⟩:=F.ex;exact .all (h kV r_ pm an p_ ct)
theorem xx{x i_:Str}{st:Stmt}{f:Addr}{oc:Value}{od an:Zm}{G_:Zn}{kV r_ pm p_ ct:Value}(l:K.lookup f=some ⟨oc,od,.func (PySem.W.fnOf x i_ (bp st) (aO st) (au st) .none kV r_ pm an p_ ct),G_⟩)
  (c:PySem.W.codeIn K p_ i_=true) (k:PySem.W.keepIn K (.ref f)=true):Fun K x i_ st f (PySem.W.fnOf x i_ (bp st) (aO st) (au st) .none kV r_ pm an p_ ct):=⟨⟨oc,od,kV,r_,pm,an,p_,ct,G_,rfl,l,c⟩,k⟩
end
theorem wb{n:Nat}(h:n<=1000):n<sizeLine:=XI h 'a'
section
variable {X:Cx}
theorem BZ:fq X (.builtin "len") (λxs H Q=>∃a b,xs=[V.ref a]/\H a=some (.dK b)/\Q (.int b.length) H):=by
 intro pins s σ H xs us Q I r h;obtain⟨a,b,rfl,ha,q⟩:=h;obtain⟨u,rfl,c⟩:=vals1 r;cases c;exact Fa I (.inl ha) λt f d=>⟨.int b.length,H,d,⟨t,rfl⟩,q⟩
end
def jV(cells:Zr):List (Str×NameKind)->List (Str×Addr)->List (Str×Addr)
 |[],e_=>e_
 |(n,k)::r,e_=>jV cells r (if k==.free then(n,(cells.lookup n).getD 0)::e_ else e_)
def clOf(scope:Scope)(env:Env):List (Str×Addr):=jV env.cells scope.names []
theorem wD{scope:Scope}{env:Env}(h:∀x∈scope.names,x.2=.free->∃c,env.cells.lookup x.1=some c):closureFor scope env=pure (clOf scope env):=by
 have b:∀(l:List (Str×NameKind)) (e_:Zr),(∀x∈l,x.2=.free->∃c,env.cells.lookup x.1=some c) ->
   (forIn l e_ λ(x:Str×NameKind) (d:Zr)=>
    (if x.2==.free then(do let c ←cellOf env x.1;pure (ForInStep.yield ((x.1,c)::d))) else pure (ForInStep.yield d):Sem (ForInStep (List (Str×Addr)))))=pure (jV env.cells l e_):=by
  intro l;induction l with
  |nil=>intro e_ _;rfl
  |cons x r g=>
   intro e_ hx;obtain⟨n,k⟩:=x;have a:=g (if k==.free then(n,(env.cells.lookup n).getD 0)::e_ else e_) λy hy=>hx y (ZY _ hy)
   rw[List.forIn_cons];by_cases hk:k=.free
   ·subst hk
    obtain⟨c,hc⟩:=hx (n,.free) ZX rfl;have e:cellOf env n=pure c:=by unfold cellOf;rw[hc]
    have f:env.cells.lookup n=some c:=hc;simp only[XF,if_true,f,Option.getD_some] at a;simp only[XF,if_true,e,pure_bind];rw[a];simp only[jV,XF,if_true,f,Option.getD_some]
   ·have hb:(k==NameKind.free)=false:=by simpa using hk
    simp only[hb,XE,if_false] at a;simp only[hb,XE,if_false,pure_bind];rw[a];simp only[jV,hb,XE,if_false]
 have:=b scope.names [] h
 unfold closureFor clOf;simp only[bind_pure];exact this
theorem tx{cells:Zr}:∀{l:List (Str×NameKind)}{e_:Zr}{p:Str×Addr},p∈jV cells l e_->p∈e_\/((p.1,NameKind.free)∈l/\p.2=(cells.lookup p.1).getD 0)
 |[],_,_,h=>.inl h
 |(n,k)::r,e_,p,h=>by
  rcases tx (l:=r) h with q | ⟨q1,q2⟩
  ·by_cases hk:k=.free
   ·subst hk
    simp only[XF,if_true] at q;rcases ZZ.mp q with e | q
    ·subst e;exact .inr ⟨ZX,rfl⟩
    ·exact .inl q
   ·have hb:(k==NameKind.free)=false:=by simpa using hk
    simp only[hb,XE,if_false] at q;exact .inl q
  ·exact .inr ⟨ZY _ q1,q2⟩
theorem tz{cells:Zr}:∀{l:List (Str×NameKind)}{e_:Zr}{p:Str×Addr},p∈e_->p∈jV cells l e_
 |[],_,_,h=>h
 |(n,k)::r,e_,p,h=>by
  refine tz (l:=r) ?_;split
  ·exact ZY _ h
  ·exact h
theorem tB{cells:Zr}:∀{l:List (Str×NameKind)}{e_:Zr}{n:Str},(n,NameKind.free)∈l->∃c,(n,c)∈jV cells l e_
 |(m,k)::r,e_,n,h=>by
  rcases ZZ.mp h with e | h
  ·cases e
   exact⟨_,tz (l:=r) (by simp only[XF,if_true];exact ZX)⟩
  ·exact tB (l:=r) h
theorem jW{a:Type}:∀{l:List (Str×a)}{n:Str}{c:a},(n,c)∈l->∃d,l.lookup n=some d
 |(m,d)::r,n,c,h=>by
  rcases ZZ.mp h with e | h
  ·cases e;exact⟨d,by simp[XJ]⟩
  ·cases hb:n==m with
   |true=>exact⟨d,by simp[XJ,hb]⟩
   |false=>
    obtain⟨d',e⟩:=jW (l:=r) h;exact⟨d',by simp[XJ,hb,e]⟩
theorem jX{scope:Scope}{env:Env}(h:∀x∈scope.names,x.2=.free->∃c,env.cells.lookup x.1=some c){y:Str}{c:Addr}(e:(clOf scope env).lookup y=some c):env.cells.lookup y=some c:=by
 have m:=PySem.mem_of_lookup e;rcases tx m with z | ⟨z1,z2⟩
 ·cases z
 ·obtain⟨c',d⟩:=h _ z1 rfl
  have a:env.cells.lookup y=some c':=d;have b:c=(env.cells.lookup y).getD 0:=z2;rw[a] at b;rw[a,b];rfl
theorem B0{scope:Scope}{env:Env}(h:∀x∈scope.names,x.2=.free->∃c,env.cells.lookup x.1=some c){y:Str}{c:Addr}(hy:(y,NameKind.free)∈scope.names)(e:env.cells.lookup y=some c):
  (clOf scope env).lookup y=some c:=by
 obtain⟨c',m⟩:=tB (cells:=env.cells) (e_:=[]) hy;obtain⟨d,q⟩:=jW m;have a:(clOf scope env).lookup y=some d:=q
 have:=jX h a
 rw[e] at this;rw[a,←this]
theorem fu{env:Env}:∀{names:List (Str×NameKind)}{x:Str},
  (names.map λ(n,k)=>if(k==NameKind.free&&env.scope.kind==.function&&env.kindOf n==some .cell) then(n,NameKind.cell) else(n,k)).lookup x =
   (names.lookup x).map λk=>if(k==NameKind.free&&env.scope.kind==.function&&env.kindOf x==some .cell) then NameKind.cell else k
 |[],_=>rfl
 |(n,k)::r,x=>by
  have a:=@fu env r x;show List.lookup x ((if(k==NameKind.free&&env.scope.kind==.function&&env.kindOf n==some .cell)=true then(n,NameKind.cell) else(n,k))::_)=_;cases hx:x==n with
  |true=>
   have e:x=n:=by simpa using hx
   subst e;by_cases hc:(k==NameKind.free&&env.scope.kind==.function&&env.kindOf x==some .cell)=true
   ·rw[if_pos hc];simp only[XJ,XF,Option.map_some];rw[if_pos hc]
   ·rw[if_neg hc];simp only[XJ,XF,Option.map_some];rw[if_neg hc]
  |false=>
   by_cases hc:(k==NameKind.free&&env.scope.kind==.function&&env.kindOf n==some .cell)=true
   ·rw[if_pos hc];simp only[XJ,hx];exact a
   ·rw[if_neg hc];simp only[XJ,hx];exact a
structure CompScope (Kd scope:Scope) (N own N2:Zf):Prop where
 kind:scope.kind=.function
 nocell:∀y∈scope.names,y.2≠.cell
 names:∀y∈scope.names,y.2=.local->scope.names.lookup y.1=some .local
 free:∀y∈scope.names,y.2=.free->(Kd.names.lookup y.1=some .cell\/Kd.names.lookup y.1=some .free)
 len:N2.length=N.length
 vis:∀p∈N2.zip N,(scope.names.lookup p.1=some .free->p.1=p.2)/\scope.names.lookup p.1≠some .local
def cxC(X:Cx)(scope:Scope)(own N2:Zf)(C:Addr)(s:Shared)(H:Hp)(ex:Zh)(pn:Zc):Cx where
 prog:=X.prog
 w:=X.w
 K:=X.K
 mg:=X.mg
 base:=X.base
 A:=X.A
 N:=N2++own
 s₀:=s
 H₀:=H
 env:=compEnvC scope (clOf scope X.env) C X.env
 outer:=X.stack
 stack:=X.stack
 ex:=ex
 calm:=X.calm
 fn:=λ_=>false
 pn:=pn
 xe:=λ_ _=>False
theorem Un.track{fs ex:Zh}{H H':Hp}{h h':Heap}{a:Addr}{o:HO}(u:Un fs ex H H' h h')(hp:h.objs.size<=a)(hn:H a=none):Un fs ex H (upd H' a o) h h' where
 keep:=u.keep
 slot:=u.slot
 free:=λb c q n hx=>by rw[aK (ZT (ZR (Ye q) hp))];exact u.free b c q n hx
 there:=u.there
 tups:=λb xs q=>by rw[aK (bd q hn)];exact u.tups b xs q
 frzs:=λb c xs q=>by rw[aK (bd q hn)];exact u.frzs b c xs q
 tbls:=λb ps q=>by rw[aK (bd q hn)];exact u.tbls b ps q
def PTs(X:Cx)(a:Zg)(t:TT):Prop:=
 ∀(pins:Zc) (s:Shared) (σ:St) (H:Hp) (Q:Bool->Hp->Prop),Inv X pins σ H s->t σ H Q ->
  wpAny 'c' X.A (forIn a true λc r=>if r=true then do let ok ←isTrue c X.env (eval c X.env);pure (ForInStep.yield ok) else pure (ForInStep.yield r)) (TP X pins σ Q) X.xe s
def tYes:TT:=λ_ H Q=>Q true H
theorem FV{X:Cx}:PTs X [] tYes:=λ_ _ _ H _ I h=>wpAny_tests_nil ⟨H,I,h⟩
theorem FW{X:Cx}{c:Expr}{t:TT}(h:PT X c t):PTs X [c] t:=λpins s σ H Q I q=>wpAny_tests_one (h pins s σ H Q I q)
def xc(J:It)(g:TG)(tc:TT)(te:TE)(Fin:List V->Hp->Prop)(σ0:St)(k:Hp):Prop:=
 ∃W:Nat->Nat->List V->St->Hp->Prop,(∃m,W 0 m [] σ0 k)/\∀i m ys σ H,W i m ys σ H ->
  (J.stop i H/\Fin ys H)\/(J.go i H/\ys.length<sizeLine/\∃N:List V->St->Hp->Prop,(∀c d H',N c d H'->∃f,f<m/\W (i+1) f c d H') /\
   ∀x H',J.yld i H x H'->g x σ H' λa l=>tc a l λb j=>if b=true then te a j (λy n=>N (ys++[y]) a n) else N ys a j)
section
variable {prog:Zw}{w:World}{A:Around}{R:Result->Shared->Prop}{s:Shared}
theorem rT{j a b:Expr}{d:Zg}{scope:Scope}{f:Pos}{it e_:Value}{env:Env}(I:Nat->Shared->Prop)
  (g:∀n s,I n s->wpAny (model prog w) A (pyNext it) (λr k=>match r with
   |none=>R (.ok .next) k
   |some v=>wpAny (model prog w) A (letOwnedTupleGo a it v) (λ_ o=>wpAny (model prog w) A (assign a env v) (λ_ p=>
     wpAny (model prog w) A (forIn d true λc r=>if r=true then do let ok ←isTrue c env (eval c env);pure (ForInStep.yield ok) else pure (ForInStep.yield r)) (λok l=>
      if ok=true then wpAny (model prog w) A (eval j env) (λx u=>
       wpAny (model prog w) A (call (.builtin "list.append") [e_,x]) (λ_ y=>∃m,m<n/\I m y) (λ_ _=>False) u) (λ_ _=>False) l
      else ∃m,m<n/\I m l) (λ_ _=>False) p) (λ_ _=>False) o) (λ_ _=>False) k) (λ_ _=>False) s)
  (n:Nat) (h:I n s):
  codeAny (model prog w) A (.compLoop (.ListComp j [⟨a,b,d,0⟩] scope f) 0 it e_ env) R s:=by
 refine codeAny_loop rfl I (λn s C=>?_) n h;show wpAny _ A ((compTurn (.ListComp j [⟨a,b,d,0⟩] scope f) 0 it e_ env).onRaise (λx=>do noteFrame x env;theTreesLotGoes x)) _ _ s;refine wpAny_noted (wpAny_noRaise ?_);rw[compTurn_list];refine Yb (Yk (Yb (wpAny_mono (g n s C) (λr k z=>?_) λ_ _ h'=>h')));cases r with
 |none=>exact Yc z
 |some v=>
  refine Yb (wpAny_mono z (λ_ o G=>?_) λ_ _ h'=>h');refine Yb (wpAny_mono G (λ_ p J=>Yb (wpAny_mono J (λok l B=>?_) λ_ _ h'=>h')) λ_ _ h'=>h');cases ok with
  |false=>exact Yc ⟨rfl,B⟩
  |true=>
   exact Yb (Yb (wpAny_mono B (λx u K=>Yb (wpAny_mono K (λ_ y L=>Yc (Yc ⟨rfl,L⟩)) λ_ _ h'=>h')) λ_ _ h'=>h'))
end
section
variable {X:Cx}{pins:Zc}{σ:St}{H:Hp}{s:Shared}
theorem wc{D_ tg j:Expr}{ap:Zg}{scope Kd:Scope}{N own N2:Zf}{a1 a2:Pos}{wi:TI}{g:TG}{tc:TT}{te:TE}{use:Option (Value->Sem Unit)}{QQ:Zb}{Fin:List V->Hp->Prop}
  (B:CompScope Kd scope N own N2) (ho:X.env.scope=Kd) (hN:X.N=N) (hc:X.calm=true) (hi:PI X tg j wi)
  (hg:∀C s H ex pn,PG (cxC X scope own N2 C s H ex pn) tg g) (ht:∀C s H ex pn,PTs (cxC X scope own N2 C s H ex pn) ap tc) (he:∀C s H ex pn,PE (cxC X scope own N2 C s H ex pn) D_ te)
  (I:Inv X pins σ H s) (h:wi σ H λJ H1=>xc J g tc te Fin (σ++List.replicate own.length none) H1)
  (fin:∀(D C:Addr) (ys:List V) (H':Hp) (O:Shared) (m:Ze),Fin ys H'->H' D=none->Inv X pins σ (upd H' D (.lst ys)) O->O.heap.Ns C m->FpOk X pins (upd H' D (.lst ys)) C ->
   compPost 'c' X.A X.xe use QQ (.ref D) C (.ok .next) O)
  (hs:∀x,foldedSetIterable j X.env x=pure x):
  wpAny 'c' X.A (comprehension (.ListComp D_ [⟨tg,j,ap,0⟩] scope a1) scope X.env a2 (newList []) false (eval j X.env) use) QQ X.xe s:=by
 subst ho hN;have L:∀x∈scope.names,x.2=.free->∃c,X.env.cells.lookup x.1=some c:=λx hx hf=>I.ok.has x.1 (B.free x hx hf)
 refine wpAny_comprehension_free (use:=use) rfl hs (wD L) B.kind B.names (thn (hi pins s σ H _ I h) λv s1 h1=>thn h1 λQE s2 h2=>?_);obtain⟨it,fp,tn,J,P,e,a,T,Ol,S,W,⟨m0,w0⟩,a3⟩:=h2;subst e;refine wpAny_newObj_type (wpAny_newFunctionEnv B.nocell (by intro y hy;simp at hy) (λKe KC Kf=>?_) B.kind);dsimp only at KC Kf ⊢;generalize hG:s2.heap.push { cls:=.type "list",dict:=none,data:=.seq ([]:List Value).toArray }=G at KC Kf ⊢;have hC:G.objs.size=s2.heap.objs.size+1:=by rw[←hG,Heap.size_push]
 have P9:s2.heap.objs.size≠G.objs.size:=by rw[hC];exact ZT (YK _)
 have Nl:s2.heap.objs.size<=G.objs.size:=by rw[hC];exact YM _
 have below:∀b,b<s2.heap.objs.size->b≠G.objs.size/\b≠s2.heap.objs.size:=λb hb=>⟨by rw[hC];exact ZT (Nat.lt_succ_of_lt hb),ZT hb⟩
 have l:∀b o,s2.heap.get? b=some o->Ke.get? b=some o:=λb o e=>Kf.extBut b o (below b (Ye e)).1 (Yd _ (hG▸Yd _ e))
 have y_:Ke.get? s2.heap.objs.size=some (LCg.lst []):=Kf.extBut _ _ P9 (Yd _ (hG▸Yg _ rfl));have LG:∀b∈fp,b<s2.heap.objs.size:=λb hb=>let⟨o,e,_⟩:=T.obj 0 _ Ol b hb;Ye e
 have Uj:P s2.heap.objs.size=none:=a.hok.fresh (YE _);have Vp:P G.objs.size=none:=a.hok.fresh Nl;have Nm:∀x c,X.env.cells.lookup x=some c->c<s2.heap.objs.size:=λx c e=>let⟨v,z⟩:=a.cell x c e;z.lt
 have OG:∀p∈X.pn++pins,p.1<s2.heap.objs.size:=λp hp=>Ye (a.pin p hp).1
 -- the block's context
 generalize hX:cxC X scope own N2 G.objs.size s2 P fp (X.pn++pins)=f;have Nk:f.Ok:=by
  subst hX;refine⟨a.ok.mod,B.kind,a.ok.glob,a.ok.blt,Nl,λx y c e1 e2=>a.ok.inj x y c (jX L e1) (jX L e2),λx hx=>?_,λx c hf=>?_,a.ok.hd,a.ok.frames,.inl rfl,λb hb=>?_,a.bs,
   ZW a.ok.bsz a.sz,λb o e hb=>?_,λb hb hz=>?_,a.stack,a.stkFree⟩
  ·have Nn:(relabel scope X.env).names.lookup x=some .cell\/(relabel scope X.env).names.lookup x=some .free:=hx
   unfold relabel at Nn;dsimp only at Nn;rw[fu] at Nn;have hm:∃k,scope.names.lookup x=some k:=by
    cases q:scope.names.lookup x with
    |none=>rw[q] at Nn;rcases Nn with z | z<;>cases z
    |some k=>exact⟨k,rfl⟩
   obtain⟨k,hk⟩:=hm;have J2:=PySem.mem_of_lookup hk;have Vq:k=.free:=by
    rw[hk] at Nn;cases k with
    |free=>rfl
    |cell=>exact absurd rfl (B.nocell _ J2)
    |_=>rcases Nn with z | z<;>cases z
   subst Vq;obtain⟨c,hc⟩:=L _ J2 rfl;exact⟨c,B0 L J2 hc⟩
  ·cases hf
  ·obtain⟨_,f1,ff,fx,fc,Uk⟩:=S b hb
   exact⟨(below b (LG b hb)).1,λx c e=>fc x c (jX L e)⟩
  ·obtain⟨_,_,_,fx,_,_⟩:=S b hb
   rcases fx with z | z
   ·exact a.ok.noex b o e z
   ·exact absurd (ZR (Ye e) (ZW a.ok.bsz z)) (ZS _)
  ·obtain⟨_,f1,ff,_⟩:=S b hb
   rcases ZZ.mp (a.stkSub b hz) with z | z
   ·exact f1 z
   ·exact ff z
 have I0:Inv f [(s2.heap.objs.size,LCg.lst [])] (σ++List.replicate own.length none) P { s2 with heap:=Ke,toks:=s2.toks+([]:List (Str×Value)).length }:=by
  subst hX;refine⟨Nk,rfl,a.bare,Un.kept l,⟨_,KC,λi x v e1 e2 e3=>?_⟩,λx c e=>?_,Vp,λx c e=>a.freeC x c (jX L e),λp hp=>?_,a.hok.kept l,?_⟩
  ·have e1:(N2++own)[i]?=some x:=e1
   have Np:i<σ.length:=by
    by_cases Np:i<σ.length
    ·exact Np
    ·rw[ZG 'b',List.getElem?_replicate] at e2
     split at e2<;>cases e2
   rw[ZD Np] at e2;have h_:N2.length=σ.length:=B.len.trans a.len.symm;rw[ZD 'b'] at e1;have Ul:i<X.N.length:=by rw[←a.len];exact Np
   have hz:(x,X.N[i])∈N2.zip X.N:=by
    refine YT (i:=i) ?_;rw[List.getElem?_zip_eq_some];exact⟨e1,ZC Ul⟩
   obtain⟨v1,v2⟩:=B.vis _ hz;have Nq:Vis (relabel scope X.env) x:=e3;have Rr:scope.names.lookup x=some .free:=by
    unfold Vis relabel at Nq;dsimp only at Nq;rw[fu] at Nq;cases q:scope.names.lookup x with
    |none=>rw[q] at Nq;rcases Nq with z | z | z<;>cases z
    |some k=>
     rw[q] at Nq;cases k with
     |free=>rfl
     |cell=>exact absurd rfl (B.nocell _ (PySem.mem_of_lookup q))
     |«local»=>exact absurd q v2
     |_=>rcases Nq with z | z | z<;>cases z
   have J2:=PySem.mem_of_lookup Rr;have ex:x=X.N[i]:=v1 Rr;have Vr:X.N[i]?=some x:=by rw[ex];exact ZC Ul
   have Um:=B.free _ J2 rfl;obtain⟨m,hn,hl⟩:=a.loc;obtain⟨u,ru,lk⟩:=hl i x v Vr e2 (.inr Um);refine⟨u,ru,?_⟩;rcases lk with⟨k,_⟩ | ⟨k,c,ec,z⟩
   ·have k':X.env.scope.names.lookup x=some .local:=k
    rcases Um with q | q<;>(have q':X.env.scope.names.lookup x=_:=q;rw[k'] at q';cases q')
   ·refine .inr ⟨?_,c,B0 L J2 ec,?_⟩
    ·show(relabel scope X.env).names.lookup x=some .cell\/(relabel scope X.env).names.lookup x=some .free
     unfold relabel;dsimp only;rw[fu,Rr];show some (if _ then NameKind.cell else NameKind.free)=_\/some (if _ then NameKind.cell else NameKind.free)=_;split
     ·exact .inl rfl
     ·exact .inr rfl
    ·obtain⟨o,eo,d⟩:=z
     exact⟨o,l _ _ eo,d⟩
  ·obtain⟨v,o,eo,d⟩:=a.cell x c (jX L e)
   exact⟨v,o,l _ _ eo,d⟩
  ·have hp:p∈(X.pn++pins)++[(s2.heap.objs.size,LCg.lst [])]:=hp
   rcases YA.mp hp with hp | hp
   ·obtain⟨e,n,nl,nf,d⟩:=a.pin p hp
    refine⟨l _ _ e,n,(below _ (Ye e)).1,λhz=>?_,d⟩;rcases ZZ.mp (a.stkSub p.1 hz) with z | z
    ·exact nl z
    ·exact nf z
   ·have e:p=(s2.heap.objs.size,LCg.lst []):=by simpa using hp
    subst e;refine⟨y_,Uj,P9,λhz=>?_,λv z=>by cases z⟩;rcases ZZ.mp (a.stkSub _ hz) with z | z
    ·exact absurd a.lt (by rw[←z];exact ZS _)
    ·exact a.nofs (YE _) z
  ·show(σ++List.replicate own.length none).length=(N2++own).length
   rw[ZJ,ZJ,List.length_replicate,B.len,a.len]
 have Kz:∀{H':Hp}{us:Zd},(∀b∈fp,H' b=none)->∀b∈fp,FpOk f [(s2.heap.objs.size,LCg.lst us)] H' b:=λ{H' us} hn b hb=>by
  subst hX;obtain⟨_,f1,ff,fx,fc,Uk⟩:=S b hb;refine⟨hn b hb,(below b (LG b hb)).1,λhz=>?_,.inl hb,λx c e=>fc x c (jX L e),λp hp z=>?_⟩
  ·rcases ZZ.mp (a.stkSub b hz) with z | z
   ·exact f1 z
   ·exact ff z
  ·have hp:p∈(X.pn++pins)++[(s2.heap.objs.size,LCg.lst us)]:=hp
   rcases YA.mp hp with hp | hp
   ·exact Uk p hp z
   ·have e:p=(s2.heap.objs.size,LCg.lst us):=by simpa using hp
    subst e;exact(below b (LG b hb)).2 z.symm
 have eP:f.prog=X.prog:=by subst hX;rfl
 have eW:f.w=X.w:=by subst hX;rfl
 have eK:f.K=X.K:=by subst hX;rfl
 have eA:f.A=X.A:=by subst hX;rfl
 have eE:f.env=compEnvC scope (clOf scope X.env) G.objs.size X.env:=by subst hX;rfl
 have eX:f.xe=λ_ _=>False:=by subst hX;rfl
 have eC:f.calm=true:=by subst hX;exact hc
 have eS:f.s₀=s2:=by subst hX;rfl
 have eH:f.H₀=P:=by subst hX;rfl
 have eF:f.fs=frs X.stack:=by subst hX;rfl
 have Vs:f.ex=fp:=by subst hX;rfl
 have eN:f.pn=X.pn++pins:=by subst hX;rfl
 have N1:=hg G.objs.size s2 P fp (X.pn++pins);have ME:=ht G.objs.size s2 P fp (X.pn++pins);have Uo:=he G.objs.size s2 P fp (X.pn++pins);rw[hX] at N1 ME Uo;have Y:∀KB:Shared,KB={ s2 with heap:=Ke,toks:=s2.toks+([]:List (Str×Value)).length } ->
   codeAny 'c' X.A (.compLoop (.ListComp D_ [⟨tg,j,ap,0⟩] scope a1) 0 (.ref it) (.ref s2.heap.objs.size) (compEnvC scope (clOf scope X.env) G.objs.size X.env))
    (compPost 'c' X.A X.xe use QQ (.ref s2.heap.objs.size) G.objs.size) KB:=by
  rintro KB rfl;refine rT (λn O=>∃i ys us g_ H',Inv f [(s2.heap.objs.size,LCg.lst us)] g_ H' O/\tn i O.heap/\(∀b∈fp,H' b=none)/\Vals ys us/\ys.length<=sizeLine/\W i n ys g_ H') ?_ m0
   ⟨0,[],[],_,P,I0,T.keep 0 _ _ Ol λb _ o e=>l b o e,λb hb=>(S b hb).1,.nil,YL _,w0⟩
  rintro n s3 ⟨i,ys,us,J1,R,I3,Om,Oo,hv,hz,w3⟩;rcases a3 i n ys J1 R w3 with⟨stop,qn⟩ | ⟨go,JV,NN,Up,step⟩
  ·have dn:=T.done f eP eW eK eC i _ s3 J1 R (λ_ _=>False) I3 (Kz Oo) Om stop
   rw[eA] at dn;refine thn dn λr s4 JX=>?_
   obtain⟨hr,I4⟩:=JX;subst hr;have Z:=I4.pin (s2.heap.objs.size,LCg.lst us) (YF _ ZX);have Rt:R s2.heap.objs.size=none:=Z.2.1;have Vt:R G.objs.size=none:=by have:=I4.free;rw[eE] at this;exact this
   have un:Un (frs X.stack) fp P R s2.heap s4.heap:=by have:=I4.base;rw[eF,Vs,eH,eS] at this;exact this
   have Vu:HOk X.prog X.w R s4.heap:=by have:=I4.hok;rw[eP,eW] at this;exact this
   have Ru:HOk X.prog X.w (upd R s2.heap.objs.size (.lst ys)) s4.heap:=λb u e=>by
    by_cases hb:b=s2.heap.objs.size
    ·subst hb
     rw[aG] at e;cases e;exact⟨hz,us,us.length,hv,Z.1⟩
    ·rw[aK hb] at e
     refine(Vu b u e).stay (λc v _ q=>q) (λc q=>?_) λc xs q=>?_
     ·rw[aK (bd q Rt)];exact q
     ·rw[aK (bd q Rt)];exact q
   have Vv:s4.os=s2.os:=by have:=I4.os;rw[eS] at this;exact this
   have I5:Inv X pins σ (upd R s2.heap.objs.size (.lst ys)) s4:=a.call' Vv (un.track (YE _) Uj) Ru I4.bare λb hb=>⟨(S b hb).2.2.2.1,(S b hb).2.1,(S b hb).2.2.2.2.1,(S b hb).2.2.2.2.2⟩
   obtain⟨m,hn,_⟩:=I4.loc;rw[eE] at hn;exact fin _ _ ys R s4 m qn Rt I5 hn (a.fpOk Nl (by rw[aK (Ne.symm P9)];exact Vt))
  ·have Uq:=T.item f eP eW eK eC i _ s3 J1 R (λ_ _=>False) I3 (Kz Oo) Om go
   rw[eA] at Uq;refine thn Uq λr s4 Kc=>?_
   obtain⟨u,hr,h4⟩:=Kc;subst hr;refine thn h4 λ_ s5 Ln=>?_
   obtain⟨x,H5,I5,r5,y5,Nb,QJ⟩:=Ln;have QK:=I5.pinned (Kz QJ) (T.obj _ _ Nb);have a5:=N1 _ s5 J1 H5 x u _ QK r5 (step x H5 y5);rw[eP,eW,eA,eE,eX] at a5;refine thn a5 λ_ s6 Lo=>?_
   obtain⟨U,H6,I6,q6⟩:=Lo;have a6:=ME _ s6 U H6 _ I6 q6;rw[eP,eW,eA,eE,eX] at a6;refine thn a6 λok s7 KD=>?_
   obtain⟨H7,I7,q7⟩:=KD;have KQ:∀{g_:St}{H':Hp}{O:Shared}{MF:Zd},Inv f ([(s2.heap.objs.size,LCg.lst MF)]++jU fp s5.heap) g_ H' O->tn (i+1) O.heap/\∀b∈fp,H' b=none:=λ{g_ H' O MF} J'=>by
    refine⟨T.keep _ _ _ Nb λb hb o e=>(J'.pin (b,o) (YF _ (YF _ (k6 hb e)))).1,λb hb=>?_⟩;obtain⟨o,e,d⟩:=T.obj _ _ Nb b hb;exact(J'.pin (b,o) (YF _ (YF _ (k6 hb e)))).2.1
   cases ok with
   |false=>
    obtain⟨m',hm,w7⟩:=Up _ _ _ (by simpa using q7);exact⟨m',hm,i+1,ys,us,U,H7,I7.unpinned,(KQ I7).1,(KQ I7).2,hv,hz,w7⟩
   |true=>
    have q7:te U H7 (λy H4=>NN (ys++[y]) U H4):=by simpa using q7
    have a7:=Uo _ s7 U H7 _ I7 q7;rw[eP,eW,eA,eE,eX] at a7;refine thn a7 λuy s8 LH=>?_
    obtain⟨y,H8,I8,r8,q8⟩:=LH;have Z:=I8.pin (s2.heap.objs.size,LCg.lst us) (YF _ (List.mem_append_left _ ZX));have Xx:us.length=ys.length:=hv.length.symm;refine append_at (hsz:=by rw[YG];omega) Z.1 λh9 Vw Vx=>?_
    obtain⟨m',hm,w8⟩:=Up _ _ _ q8;have Vy:Inv f (jU fp s5.heap) U H8 s8:=I8.pins_of λp hp=>I8.pin p (YF _ (YF _ hp))
    have I9:Inv f (jU fp s5.heap) U H8 { s8 with heap:=h9 }:=Vy.turned (t':=s8.toks) (it:=s2.heap.objs.size) (λb o hb e=>(Vw.2 b hb).trans e) Z.2.1 (by rw[eE];exact P9) (.inr (by rw[eS];exact YE _))
     (λx c e=>by
      rw[eE] at e;exact ZT (Nm x c (jX L e)))
     (λp hp=>by
      rw[eN] at hp;rcases YA.mp hp with z | z
      ·exact ZT (OG p z)
      ·exact ZT (LG _ (vT z).1))
    have Rv:Inv f ([(s2.heap.objs.size,LCg.lst (us++[uy]))]++jU fp s5.heap) U H8 { s8 with heap:=h9 }:=I9.pins_of λp hp=>by
     rcases YA.mp hp with z | z
     ·have e:p=(s2.heap.objs.size,LCg.lst (us++[uy])):=by simpa using z
      subst e;exact⟨Vx.trans (congrArg some (LCg.lst_snoc us uy)),Z.2.1,Z.2.2.1,Z.2.2.2.1,λv z=>by cases z⟩
     ·exact I9.pin p (YF _ z)
    exact⟨m',hm,i+1,ys++[y],us++[uy],U,H8,Rv.unpinned,(KQ Rv).1,(KQ Rv).2,hv.append (.cons r8 .nil),by rw[ZJ,List.length_singleton];omega,w8⟩
 exact codeAny_compStart_list (Y _ rfl) (T.self X.A 0 _ _ _ (T.keep 0 _ _ Ol λb _ o e=>l b o e) (Y _ rfl))
def JM(k:Nat)(a:TI)(g:TG)(tc:TT)(te:TE):TE:=λσ H Q=>a σ H λJ b=>xc J g tc te (λys H'=>∀p,H' p=none->Q (.ref p) (upd H' p (.lst ys))) (σ++List.replicate k none) b
theorem FX{j tg a:Expr}{c:Zg}{scope Kd:Scope}{N own N2:Zf}{f:Pos}{k:TI}{g:TG}{tc:TT}{te:TE}(l:CompScope Kd scope N own N2)(hc:X.calm=true)(hi:PI X tg a k)
  (hg:∀C s H ex pn,PG (cxC X scope own N2 C s H ex pn) tg g) (ht:∀C s H ex pn,PTs (cxC X scope own N2 C s H ex pn) c tc) (n:∀C s H ex pn,PE (cxC X scope own N2 C s H ex pn) j te)
  (ho:X.env.scope=Kd:=by rfl) (p:X.N=N:=by rfl) (r:∀x,foldedSetIterable a X.env x=pure x:=by intro _;rfl):
  PE X (.ListComp j [⟨tg,a,c,0⟩] scope f) (JM own.length k g tc te):=by
 intro pins s σ H Q I h;rw[eval_ListComp];refine wc (use:=none) l ho p hc hi hg ht n I h (λD C ys H' u m q y z hn d=>⟨m,hn,λh' A=>⟨.ref D,_,?_,rfl,q D y⟩⟩) r;exact z.turned (t':=u.toks) (λb o hb e=>(A.2 b hb).trans e) d.1 d.2.1 d.2.2.2.1 d.2.2.2.2.1 d.2.2.2.2.2
def JN(i k:Nat)(a:TI)(g:TG)(tc:TT)(te:TE):TS:=λD σ H=>a σ H λJ b=>xc J g tc te (λys H'=>∀p,H' p=none->D.nx (σ.set i (some (.ref p))) (upd H' p (.lst ys))) (σ++List.replicate k none) b
theorem FY{l tg c:Expr}{d:Zg}{scope Kd:Scope}{N own N2:Zf}{f k p:Pos}{r:TI}{g:TG}{tc:TT}{te:TE}{i:Nat}{y:Str}(u:CompScope Kd scope N own N2)(hc:X.calm=true)
  (B:X.N.Nodup) (hy:X.N[i]?=some y) (hl:X.env.scope.names.lookup y=some .local)
  (hi:PI X tg c r)
  (hg:∀C s H ex pn,PG (cxC X scope own N2 C s H ex pn) tg g) (ht:∀C s H ex pn,PTs (cxC X scope own N2 C s H ex pn) d tc) (G:∀C s H ex pn,PE (cxC X scope own N2 C s H ex pn) l te)
  (J:swapsWith (.ListComp l [⟨tg,c,d,0⟩] scope f) (some (.Name y k)) p.line X.env=pure true:=by rfl)
  (ho:X.env.scope=Kd:=by rfl) (K:X.N=N:=by rfl) (L:∀x,foldedSetIterable c X.env x=pure x:=by intro _;rfl):
  PS X (.Assign [.Name y k] (.ListComp l [⟨tg,c,d,0⟩] scope f) p) (JN i own.length r g tc te):=by
 intro pins s σ H D I h;rw[exec_Assign_Name_used _ _ _ _ J];refine Yb (Yk (Yb ?_));show wpAny _ X.A (do let _ ←comprehension (.ListComp l [⟨tg,c,d,0⟩] scope f) scope X.env _ (newList []) false (eval c X.env) (some (assign (.Name y k) X.env))) _ _ s;refine Yb (thn (wc (use:=some (assign (.Name y k) X.env)) (QQ:=λ_ n=>SP X pins D .next n) u ho K hc hi hg ht G I h (λD' C ys H' n m q O P hn j=>?_) L) (λ_ n hq=>Yc (Yc hq)));show wpAny _ X.A (assign (.Name y k) X.env (.ref D')) _ _ _;refine wpAny_assign_Name (vS P B hy (.inl hl) (show RelV (.ref D') (.ref D') from rfl) (λR S T=>?_) (.inr hl));obtain⟨a,U,ha⟩:=T;have V:C≠a:=by
  rcases ha with z | z
  ·rw[z];exact j.2.1
  ·exact(j.2.2.2.2.1 y a z).symm
 refine⟨m,hn.sameBut U V,λh' W=>⟨_,_,?_,q D' O⟩⟩;exact S.turned (t':=R.toks) (λb o hb e=>(W.2 b hb).trans e) j.1 j.2.1 j.2.2.2.1 j.2.2.2.2.1 j.2.2.2.2.2
end
def Its(x:Str):It:=⟨λi _=>i<x.cps.size,λi H v H'=>H'=H/\∃c,x.cps[i]?=some c/\v=.str ⟨#[c]⟩,λi _=>i=x.cps.size⟩
theorem Ca{P:Zw}{w:World}{K:Za}{tg:Expr}(it:Addr)(x:Str)(t:Tok):Turn P w K tg (Its x) [it] it (λi h=>h.IsStrIter it "str_ascii_iterator" x t i) where
 mem:=by simp
 obj:=λi h st b hb=>by
  have e:b=it:=by simpa using hb
  subst e;obtain⟨o,e,c,d⟩:=st;exact⟨o,e,λv z=>by rw[d] at z;cases z⟩
 keep:=λi h h' st k=>let⟨o,e,r⟩:=st;⟨o,k it (by simp) o e,r⟩
 item:=by
  rw[0];obtain⟨a,f,p,g,j,l⟩:=hf it (by simp);have W:=Walks.strAscii (prog:=X.prog) (w:=X.w) (I.ok.hd hc) it x t;refine W.item i s _ _ hg st λv h' tk y n m=>?_
  obtain⟨c,u,A,rfl⟩:=y;have B:Inv X pins σ H { s with heap:=h',toks:=tk }:=I.turned (λb o hb e=>m b o (by simpa using hb) e) a f g j l;obtain⟨o,e,C,d⟩:=id n;exact⟨_,rfl,qY (s:={ s with heap:=h',toks:=tk }) e C d 'a' ⟨.str ⟨#[c]⟩,H,B,⟨u,rfl⟩,⟨rfl,c,A,rfl⟩,n,λb hb=>(hf b hb).1⟩⟩
 done:=by
  rw[0];obtain⟨a,f,p,g,j,l⟩:=hf it (by simp);have W:=Walks.strAscii (prog:=X.prog) (w:=X.w) (I.ok.hd hc) it x t;have G:i=x.cps.size:=hg;subst G;exact W.done s _ _ st λh' tk m=>⟨rfl,I.turned (λb o hb e=>m b o (by simpa using hb) e) a f g j l⟩
 self:=λ_ _ _ _ _ st h=>wpAny_pyIter_striter_ascii st h
theorem Cb{P:Zw}{w:World}{K:Za}{tg:Expr}(it:Addr)(x:Str)(t:Tok):Turn P w K tg (Its x) [it] it (λi h=>h.IsStrIter it "str_iterator" x t i) where
 mem:=by simp
 obj:=λi h st b hb=>by
  have e:b=it:=by simpa using hb
  subst e;obtain⟨o,e,c,d⟩:=st;exact⟨o,e,λv z=>by rw[d] at z;cases z⟩
 keep:=λi h h' st k=>let⟨o,e,r⟩:=st;⟨o,k it (by simp) o e,r⟩
 item:=by
  rw[0];obtain⟨a,f,p,g,j,l⟩:=hf it (by simp);have W:=Walks.strWide (prog:=X.prog) (w:=X.w) (I.ok.hd hc) it x t;refine W.item i s _ _ hg st λv h' tk y n m=>?_
  obtain⟨c,u,A,rfl⟩:=y;have B:Inv X pins σ H { s with heap:=h',toks:=tk }:=I.turned (λb o hb e=>m b o (by simpa using hb) e) a f g j l;obtain⟨o,e,C,d⟩:=id n;exact⟨_,rfl,qY (s:={ s with heap:=h',toks:=tk }) e C d 'a' ⟨.str ⟨#[c]⟩,H,B,⟨u,rfl⟩,⟨rfl,c,A,rfl⟩,n,λb hb=>(hf b hb).1⟩⟩
 done:=by
  rw[0];obtain⟨a,f,p,g,j,l⟩:=hf it (by simp);have W:=Walks.strWide (prog:=X.prog) (w:=X.w) (I.ok.hd hc) it x t;have G:i=x.cps.size:=hg;subst G;exact W.done s _ _ st λh' tk m=>⟨rfl,I.turned (λb o hb e=>m b o (by simpa using hb) e) a f g j l⟩
 self:=λ_ _ _ _ _ st h=>wpAny_pyIter_striter_wide st h
section
variable {X:Cx}
theorem Cc{bs:List Bool}{d_:Zd}(r:Vals (bs.map V.bl) d_){i:Nat}{v:Value}(h:d_[i]?=some v):v=.bool ((bs[i]?).getD false):=by
 have hl:=r.length;rw[ZE] at hl;have hi:i<bs.length:=by have:=(YB.mp h).1;omega
 obtain⟨u,hu,a⟩:=r.get (i:=i) (x:=V.bl bs[i]) (by rw[ZF,ZC hi];rfl);rw[h] at hu;cases hu;have a:v=Value.bool bs[i]:=a;rw[a,ZC hi];rfl
theorem range_all{bs:List Bool}{n:Nat}(hn:n=bs.length):((List.range n).all λi=>(bs[i]?).getD false)=bs.all id:=by
 subst hn;rw[Bool.eq_iff_iff,XM,XM];constructor
 ·intro h b hb
  obtain⟨i,hi,e⟩:=List.mem_iff_getElem.mp hb
  have:=h i (ZV.mpr hi)
  rw[ZC hi] at this;rw[←e];exact this
 ·intro h i hi
  have hi:=ZV.mp hi;rw[ZC hi];exact h _ (List.getElem_mem hi)
theorem DT(hc:X.calm=true):fq X (.builtin "all") (λxs H Q=>∃p bs,xs=[.ref p]/\SqL X.K H p (List.map V.bl bs)/\Q (.bl (bs.all id)) H):=by
 intro pins s σ H xs us Q I r h;obtain⟨p,bs,rfl,hq,q⟩:=h;obtain⟨u,rfl,f⟩:=vals1 r;cases f;obtain⟨d_,d,a,hz⟩:=I.list hq;have g:p<s.heap.objs.size:=by obtain⟨o,_,e,_⟩:=a;exact Ye e
 refine call_all_walk (wpAny_pyIter_list a.isList ⟨s.heap.objs.size,_,_,_,_,_,λi=>(bs[i]?).getD false,rfl,Walks.list (A:=X.A.in1) (I.ok.hd hc) s.heap.objs.size p (ZT g) d_.toArray,
  ⟨⟨_,Yg _ rfl,rfl,rfl⟩,a.isList.push _⟩,λi v l m n c j=>?_,λh' tk k=>?_⟩)
 ·have c:d_[i]?=some v:=by simpa using c
  rw[Cc d c];exact wpAny_truthy_bool j
 ·have e:d_.toArray.size=bs.length:=by have:=d.length;rw[ZE] at this;simp;omega
  rw[range_all e];refine⟨.bl _,H,I.kept λb o e=>k b o ?_ (Yd _ e),rfl,q⟩;simp only[XN];exact ZT (Ye e)
theorem mulOk_of{x:Str}{n:Int}(a:0<=n)(h:x.length*n.toNat<=1048576)(hn:n<=1048576):MulOk x n:=by
 refine⟨?_,λb c=>?_,λb c=>?_⟩
 ·rw[Bool.or_eq_false_iff]
  exact⟨ZP 'b',ZP 'b'⟩
 ·intro d
  have f:1<=n:=by omega
  have g:(2 ^ 63-1:Int) / n*n<=2 ^ 63-1:=Int.ediv_mul_le _ 'b';have j:(2 ^ 63-1:Int)<((2 ^ 63-1) / n+1)*n:=Int.lt_ediv_add_one_mul_self _ 'b';have k:((2 ^ 63-1:Int) / n+1)*n<=(x.length:Int)*n:=Int.mul_le_mul_of_nonneg_right 'b' 'b';have l:((x.length*n.toNat:Nat):Int)=(x.length:Int)*n:=by rw[Int.natCast_mul,Int.toNat_of_nonneg a]
  have m:((x.length*n.toNat:Nat):Int)<=1048576:=by omega
  omega
 ·show decide (x.length*n.toNat>sizeLine)=false
  rw[sizeLine_eq];exact ZP 'b'
theorem AJ:OpR X (binaryOp .Mult) (λx y H Q=>∃z n,x=.str z/\y=.int n/\0<=n/\n<=1048576/\z.length*n.toNat<=1048576/\Q (.str (Txt.mul z n)) H):=by
 intro pins s σ H x y v u Q I a b h;obtain⟨z,n,rfl,rfl,c,hn,hz,q⟩:=h;obtain⟨t,rfl⟩:=a;obtain⟨t',rfl⟩:=b;exact SB.mul (mulOk_of c hz hn) λd k=>⟨.str _,H,I.tok _,⟨d,rfl⟩,q⟩
end
structure IsDef (K:Za) (mg:Ze) (x:Str) (st:Stmt) (ps:Zf) (f:Addr) (fd:Zv):Prop where
 fn:Fun K x x st f fd
 mgf:mg x=some (.ref f)
 b:Binds K fd ps []
theorem DU{K:Za}{h:Heap}{mg:Ze}{x:Str}{st:Stmt}{ps:Zf}{f:Addr}{oc:Value}{od an:Zm}{G_:Zn}{kV r_ pm p_ ct:Value}(X:K.In h)(G:h.Ns mainGlobals mg)
  (a:PySem.W.nsIn K mainGlobals x=some (some (.ref f))) (l:K.lookup f=some ⟨oc,od,.func (PySem.W.fnOf x x (bp st) (aO st) (au st) .none kV r_ pm an p_ ct),G_⟩)
  (c:PySem.W.codeIn K p_ x=true) (k:PySem.W.keepIn K (.ref f)=true)
  (hb:∀(kV r_ pm:Value) (an:Zm) (p_ ct:Value) (us:Zd),us.length=ps.length->bindArgs (PySem.W.fnOf x x (bp st) (aO st) (au st) .none kV r_ pm an p_ ct) ⟨us,[]⟩=pure (ps.zip us)):
  IsDef K mg x st ps f (PySem.W.fnOf x x (bp st) (aO st) (au st) .none kV r_ pm an p_ ct):=by
 have F:=xx (st:=st) l c k;exact⟨F,PySem.W.mg_of X G a,F.binds hb⟩
section
variable {X:Cx}{k:Nat}{f:Addr}{fd:Zv}{ps:Zf}{sp:Sp}{x:Str}{st:Stmt}{p pos:Pos}{e:Expr}{es:Zg}{t:TA}
theorem Ic(D:IsDef X.K X.mg x st ps f fd)(F:FnOk X.prog X.w X.K X.mg X.base CX0 k f fd ps sp)(a:Room k X.A)(ha:PA X (e::es) t)(hg:Gl X x:=by rfl)(c:(x==("__debug__" : Str))=false:=by decide)
  (d:starEach (e::es) X.env=(false,eval e X.env)::starEach es X.env:=by rfl) (g:(backTo pos (starEach es X.env)).any (·.1)=false:=by rfl):PE X (.Call (.Name x p) (e::es) [] pos) (E7 sp [] E0 t):=
 FI F a hg D.mgf D.fn.kp D.b .nil xb ha c d g
end
theorem Cd(K:Za){a b:String}{r:Bool}(h:(if(Value.type a==Value.type b)=true then some true else if PySem.W.kitMeta b=true then(fastBuiltinMro a).map (·.contains (.type b)) else none)=some r):
  PySem.W.kitOne K (.type a) (.type b)=some r:=h
def aA:Expr->Bool
 |.Starred _ _=>false
 |_=>true
theorem a9{e:Expr}{es:Zg}{env:Env}(h:aA e=true):starEach (e::es) env=(false,eval e env)::starEach es env:=by
 cases e<;>first | rfl | (exact absurd (show false=true from h) YC)
end L2
namespace DD
open PySem PySem.Spec PyProof.Rows L2
inductive D where
 |non | bl (b:Bool) | int (i:Int) | str (x:Str) | tup (ds:List D) | ref (a:Addr) | ty (n:String)
section
variable {α β:Type}{F G:α->β->Prop}
theorem lw:∀{l:List α}{m:List β},Paired F l m->l.length=m.length
 |_,_,.nil=>rfl
 |_,_,.cons _ t=>by simp[lw t]
theorem cB:∀{l:List α}{m:List β}{i:Nat}{a:α},Paired F l m->l[i]?=some a->∃b,m[i]?=some b/\F a b
 |_,_,_,_,.nil,e=>by simp at e
 |_,_,0,_,.cons r _,e=>by simp at e;subst e;exact⟨_,rfl,r⟩
 |_,_,i+1,a,.cons _ t,e=>by
  obtain⟨b,c,d⟩:=cB (i:=i) (a:=a) t (by simpa using e);exact⟨b,by simpa using c,d⟩
theorem bC:∀{l a:List α}{m b:List β},Paired F l m->Paired F a b->Paired F (l++a) (m++b)
 |_,_,_,_,.nil,s=>s
 |_,_,_,_,.cons r t,s=>.cons r (bC t s)
theorem vc:∀{l:List α}{m:List β}(n:Nat),Paired F l m->Paired F (l.take n) (m.take n)
 |_,_,0,_=>.nil
 |_,_,_+1,.nil=>.nil
 |_,_,n+1,.cons r t=>.cons r (vc n t)
theorem zJ:∀{l:List α}{m:List β}(n:Nat),Paired F l m->Paired F (l.drop n) (m.drop n)
 |_,_,0,r=>r
 |_,_,_+1,.nil=>.nil
 |_,_,n+1,.cons _ t=>zJ n t
theorem xy{a:α}{b:β}(r:F a b):∀{l:List α}{m:List β}(i:Nat),Paired F l m->Paired F (l.set i a) (m.set i b)
 |_,_,_,.nil=>.nil
 |_,_,0,.cons _ t=>.cons r t
 |_,_,i+1,.cons q t=>.cons q (xy r i t)
theorem nN(f:∀a b,F a b->G a b):∀{l:List α}{m:List β},Paired F l m->Paired G l m
 |_,_,.nil=>.nil
 |_,_,.cons r t=>.cons (f _ _ r) (nN f t)
theorem Ce{l:List α}{m:List β}(h:Paired F l m):∀n,Paired F (List.replicate n l).flatten (List.replicate n m).flatten
 |0=>.nil
 |n+1=>by rw[XA,XA,XB,XB];exact bC h (Ce h n)
theorem lx{a:α}{b:β}(r:F a b):∀n,Paired F (List.replicate n a) (List.replicate n b)
 |0=>.nil
 |n+1=>.cons r (lx r n)
end
section
variable (K:Za)(H:Hp)
mutual
noncomputable def RV:D->V->Prop
 |.non,v=>v=.non
 |.bl b,v=>v=.bl b
 |.int i,v=>v=.int i
 |.str x,v=>v=.str x
 |.ref a,v=>v=.ref a
 |.ty n,v=>v=.ty n
 |.tup ds,v=>∃a xs,v=.ref a/\SqT K H a xs/\RVs ds xs
noncomputable def RVs:List D->List V->Prop
 |[],xs=>xs=[]
 |d::ds,xs=>∃v vs,xs=v::vs/\RV d v/\RVs ds vs
end
end
section
variable {K:Za}{H H' Us:Hp}
theorem RVs.p:∀{ds:List D}{xs:List V},RVs K H ds xs->Paired (RV K H) ds xs
 |[],_,h=>by rw[RVs] at h;subst h;exact .nil
 |d::ds,_,h=>by
  rw[RVs] at h;obtain⟨v,vs,rfl,r,t⟩:=h;exact .cons r (RVs.p t)
theorem RVs.of:∀{ds:List D}{xs:List V},Paired (RV K H) ds xs->RVs K H ds xs
 |_,_,.nil=>by rw[RVs]
 |_,_,.cons r t=>by rw[RVs];exact⟨_,_,rfl,r,RVs.of t⟩
theorem RVs.nil:RVs K H [] []:=by rw[RVs]
theorem RVs.cons{d:D}{v:V}{ds:List D}{vs:List V}(r:RV K H d v)(t:RVs K H ds vs):RVs K H (d::ds) (v::vs):=by rw[RVs];exact⟨_,_,rfl,r,t⟩
theorem RVs.len{ds:List D}{xs:List V}(h:RVs K H ds xs):ds.length=xs.length:=lw h.p
def Kp(H H':Hp):Prop:=(∀a xs,Rd H a (.tup xs)->Rd H' a (.tup xs))/\∀a u o,H a=some (.frz u o)->H' a=some (.frz u o)
theorem Kp.refl(H:Hp):Kp H H:=⟨λ_ _ h=>h,λ_ _ _ h=>h⟩
theorem Kp.trans(a:Kp H H')(b:Kp H' Us):Kp H Us:=⟨λc xs h=>b.1 c xs (a.1 c xs h),λc u o h=>b.2 c u o (a.2 c u o h)⟩
theorem Kp.new{p:Addr}{o:HO}(h:H p=none):Kp H (upd H p o):=⟨λa xs r=>by
 rcases r with r | ⟨u,r⟩
 ·exact .inl (by rw[aK (bd r h)];exact r)
 ·exact .inr ⟨u,by rw[aK (bd r h)];exact r⟩,λa u o r=>by rw[aK (bd r h)];exact r⟩
def Fb:HO->Prop
 |.tup _=>False
 |.frz _ _=>False
 |_=>True
theorem Kp.put{p:Addr}{o o':HO}(h:H p=some o)(n:Fb o):Kp H (upd H p o'):=⟨λa xs r=>by
 rcases r with r | ⟨u,r⟩
 ·have:a≠p:=λe=>by subst e;rw[h] at r;cases r;exact n
  exact .inl (by rw[aK this];exact r)
 ·have:a≠p:=λe=>by subst e;rw[h] at r;cases r;exact n
  exact .inr ⟨u,by rw[aK this];exact r⟩,λa u o r=>by
  have:a≠p:=λe=>by subst e;rw[h] at r;cases r;exact n
  rw[aK this];exact r⟩
theorem Kp.sq(t:Kp H H'){a:Addr}{xs:List V}(h:SqT K H a xs):SqT K H' a xs:=by
 rcases h with h | h
 ·exact .inl (t.1 a xs h)
 ·exact .inr h
mutual
theorem RV.mono(t:Kp H H'):∀(d:D){v:V},RV K H d v->RV K H' d v
 |.non,_,h=>by rw[RV] at h ⊢;exact h
 |.bl _,_,h=>by rw[RV] at h ⊢;exact h
 |.int _,_,h=>by rw[RV] at h ⊢;exact h
 |.str _,_,h=>by rw[RV] at h ⊢;exact h
 |.ref _,_,h=>by rw[RV] at h ⊢;exact h
 |.ty _,_,h=>by rw[RV] at h ⊢;exact h
 |.tup ds,_,h=>by
  rw[RV] at h ⊢;obtain⟨a,xs,e,s,r⟩:=h;exact⟨a,xs,e,t.sq s,RVs.mono t ds r⟩
theorem RVs.mono(t:Kp H H'):∀(ds:List D){xs:List V},RVs K H ds xs->RVs K H' ds xs
 |[],_,h=>by rw[RVs] at h ⊢;exact h
 |d::ds,_,h=>by
  rw[RVs] at h ⊢;obtain⟨v,vs,e,r,q⟩:=h;exact⟨v,vs,e,RV.mono t d r,RVs.mono t ds q⟩
end
theorem RV.non_{v:V}:RV K H .non v↔v=.non:=by rw[RV]
theorem RV.bl_{v:V}{b:Bool}:RV K H (.bl b) v↔v=.bl b:=by rw[RV]
theorem RV.int_{v:V}{b:Int}:RV K H (.int b) v↔v=.int b:=by rw[RV]
theorem RV.str_{v:V}{b:Str}:RV K H (.str b) v↔v=.str b:=by rw[RV]
theorem RV.ref_{v:V}{b:Addr}:RV K H (.ref b) v↔v=.ref b:=by rw[RV]
theorem RV.ty_{v:V}{b:String}:RV K H (.ty b) v↔v=.ty b:=by rw[RV]
theorem RV.tup_{v:V}{ds:List D}:RV K H (.tup ds) v ↔ ∃a xs,v=.ref a/\SqT K H a xs/\RVs K H ds xs:=by rw[RV]
inductive MO where
 |lst (ds:List D) | rol (ds:List D) | dic (b_:List (Key×D)) | rod (b_:List (Key×D)) | ins (C:Addr) (fs:List (Str×D))
abbrev MH:=Addr->Option MO
def updM(M:MH)(a:Addr)(o:MO):MH:=λb=>if b=a then some o else M b
theorem aa{M:MH}{a:Addr}{o:MO}:updM M a o a=some o:=by unfold updM;rw[if_pos rfl]
theorem ay{M:MH}{a b:Addr}{o:MO}(h:b≠a):updM M a o b=M b:=by unfold updM;rw[if_neg h]
def RO(K:Za)(H:Hp)(a:Addr):MO->Prop
 |.lst ds=>∃xs,H a=some (.lst xs)/\RVs K H ds xs
 |.rol ds=>∃xs,Rd H a (.lst xs)/\RVs K H ds xs
 |.dic c=>∃b:List (Key×V),H a=some (.dK b)/\b.map (·.1)=c.map (·.1)/\RVs K H (c.map (·.2)) (b.map (·.2))
 |.rod c=>∃(u:Obj) (b:List (Key×V)),H a=some (.frz u (.dK b))/\b.map (·.1)=c.map (·.1)/\RVs K H (c.map (·.2)) (b.map (·.2))
 |.ins C fs=>∃(dx:Addr) (d:List (Str×V)),H a=some (.ins C dx d)/\d.map (·.1)=fs.map (·.1)/\RVs K H (fs.map (·.2)) (d.map (·.2))
def RM(K:Za)(M:MH)(H:Hp):Prop:=∀a o,M a=some o->RO K H a o
theorem RO.stay{a:Addr}{o:MO}(h:RO K H a o)(t:Kp H H')(e:H' a=H a):RO K H' a o:=by
 cases o with
 |lst ds=>obtain⟨xs,q,r⟩:=h;exact⟨xs,e.trans q,RVs.mono t _ r⟩
 |rol ds=>
  obtain⟨xs,q,r⟩:=h;refine⟨xs,?_,RVs.mono t _ r⟩;rcases q with q | ⟨u,q⟩
  ·exact .inl (e.trans q)
  ·exact .inr ⟨u,e.trans q⟩
 |dic c=>obtain⟨b,q,k,r⟩:=h;exact⟨b,e.trans q,k,RVs.mono t _ r⟩
 |rod c=>obtain⟨u,b,q,k,r⟩:=h;exact⟨u,b,e.trans q,k,RVs.mono t _ r⟩
 |ins C fs=>obtain⟨dx,d,q,k,r⟩:=h;exact⟨dx,d,e.trans q,k,RVs.mono t _ r⟩
theorem RO.some{a:Addr}{o:MO}(h:RO K H a o):H a≠none:=by
 cases o with
 |lst ds=>obtain⟨xs,q,_⟩:=h;rw[q];exact λz=>nomatch z
 |rol ds=>obtain⟨xs,q | ⟨u,q⟩,_⟩:=h<;>(rw[q];exact λz=>nomatch z)
 |dic b=>obtain⟨c,q,_⟩:=h;rw[q];exact λz=>nomatch z
 |rod b=>obtain⟨u,c,q,_⟩:=h;rw[q];exact λz=>nomatch z
 |ins C fs=>obtain⟨dx,d,q,_⟩:=h;rw[q];exact λz=>nomatch z
theorem RM.fresh{M:MH}{p:Addr}(h:RM K M H)(e:H p=none):M p=none:=by
 cases q:M p with
 |none=>rfl
 |some o=>exact absurd e (h p o q).some
theorem RM.newH{M:MH}{p:Addr}{o:HO}(h:RM K M H)(e:H p=none):RM K M (upd H p o):=λa u q=>
 (h a u q).stay (Kp.new e) (aK (λz=>by subst z;exact(h a u q).some e))
theorem RM.new{M:MH}{p:Addr}{o:HO}{m:MO}(h:RM K M H)(e:H p=none)(r:RO K (upd H p o) p m):RM K (updM M p m) (upd H p o):=λa u q=>by
 by_cases z:a=p
 ·subst z;rw[aa] at q;cases q;exact r
 ·rw[ay z] at q;exact(h a u q).stay (Kp.new e) (aK z)
theorem RM.put{M:MH}{p:Addr}{o o':HO}{m:MO}(h:RM K M H)(e:H p=some o)(n:Fb o)(r:RO K (upd H p o') p m):RM K (updM M p m) (upd H p o'):=λa u q=>by
 by_cases z:a=p
 ·subst z;rw[aa] at q;cases q;exact r
 ·rw[ay z] at q;exact(h a u q).stay (Kp.put e n) (aK z)
abbrev DS:=List (Option D)
abbrev ZB:=List (Key×D)
abbrev Zz:=Option D
def RS(K:Za)(H:Hp)(σ:DS)(ρ:L2.St):Prop:=Paired (λ(od:Zz) (a:Option V)=>∀d,od=some d->∃v,a=some v/\RV K H d v) σ ρ
theorem RS.mono{σ:DS}{ρ:L2.St}(t:Kp H H')(h:RS K H σ ρ):RS K H' σ ρ:=nN (λod a r d e=>let⟨v,q,s⟩:=r d e;⟨v,q,RV.mono t d s⟩) h
theorem RS.get{σ:DS}{ρ:L2.St}{i:Nat}{d:D}(h:RS K H σ ρ)(e:σ[i]?=some (some d)):∃v,ρ[i]?=some (some v)/\RV K H d v:=by
 obtain⟨a,q,r⟩:=cB h e;obtain⟨v,rfl,s⟩:=r d rfl;exact⟨v,q,s⟩
theorem RS.set{σ:DS}{ρ:L2.St}{d:D}{v:V}(i:Nat)(h:RS K H σ ρ)(r:RV K H d v):RS K H (σ.set i (some d)) (ρ.set i (some v)):=xy (by intro d' e;cases e;exact⟨v,rfl,r⟩) i h
theorem RS.more{σ:DS}{ρ:L2.St}(n:Nat)(h:RS K H σ ρ):RS K H (σ++List.replicate n none) (ρ++List.replicate n none):=bC h (lx (λd e=>nomatch e) n)
end
abbrev DK:=D->MH->Prop
abbrev WE:=DS->MH->DK->Prop
abbrev WT:=DS->MH->(Bool->MH->Prop)->Prop
abbrev WA:=DS->MH->(List D->MH->Prop)->Prop
def lift(K:Za)(H:Hp)(Q:DK):VK:=λv H'=>Kp H H'/\∃d M',RV K H' d v/\RM K M' H'/\Q d M'
def xf(K:Za)(H:Hp)(Q:Bool->MH->Prop):Bool->Hp->Prop:=λb H'=>Kp H H'/\∃M',RM K M' H'/\Q b M'
def JO(K:Za)(H:Hp)(n:Nat)(Q:List D->MH->Prop):List V->Hp->Prop:=λvs H'=>Kp H H'/\∃ds M',RVs K H' ds vs/\ds.length=n/\RM K M' H'/\Q ds M'
section
variable (X:Cx)
def tW(e:Expr):TE:=λρ H Q=>∀pins s,Inv X pins ρ H s->wpAny 'c' X.A (eval e X.env) (EP X pins ρ Q) X.xe s
def tWT(e:Expr):TT:=λρ H Q=>∀pins s,Inv X pins ρ H s->wpAny 'c' X.A (isTrue e X.env (eval e X.env)) (TP X pins ρ Q) X.xe s
def tWA(es:Zg):TA:=λρ H Q=>∀a pins s,Inv X pins ρ H s->wpAny 'c' X.A (spliced (backTo a (starEach es X.env))) (AP X pins ρ Q) X.xe s
def tWS(st:Stmt):L2.TS:=λD ρ H=>∀pins s,Inv X pins ρ H s->wpAny 'c' X.A (exec st X.env) (SP X pins D) X.xe s
end
section
variable {X:Cx}{e a b c:Expr}{es:Zg}{ρ:L2.St}{H H':Hp}{pos:Pos}
theorem pe_W(e:Expr):PE X e (tW X e):=λpins s _ _ _ I h=>h pins s I
theorem pt_W(e:Expr):PT X e (tWT X e):=λpins s _ _ _ I h=>h pins s I
theorem pa_W(es:Zg):PA X es (tWA X es):=λpos pins s _ _ _ I h=>h pos pins s I
theorem bH{t:TE}{Q:VK}(h:PE X e t)(q:t ρ H Q):tW X e ρ H Q:=λpins s I=>h pins s ρ H Q I q
theorem xz{t:TT}{Q:Bool->Hp->Prop}(h:PT X e t)(q:t ρ H Q):tWT X e ρ H Q:=λpins s I=>h pins s ρ H Q I q
theorem Cf{t:TA}{Q:List V->Hp->Prop}(h:PA X es t)(q:t ρ H Q):tWA X es ρ H Q:=λpos pins s I=>h pos pins s ρ H Q I q
theorem aN{Q d:VK}(h:tW X e ρ H Q)(f:∀v H',Q v H'->d v H'):tW X e ρ H d:=λpins s I=>thn (h pins s I) λ_ _ ⟨v,H',g,r,q⟩=>⟨v,H',g,r,f v H' q⟩
theorem gC{Q d:Bool->Hp->Prop}(h:tWT X e ρ H Q)(f:∀v H',Q v H'->d v H'):tWT X e ρ H d:=λpins s I=>thn (h pins s I) λ_ _ ⟨H',g,q⟩=>⟨H',g,f _ H' q⟩
theorem dl{Q d:List V->Hp->Prop}(h:tWA X es ρ H Q)(f:∀v H',Q v H'->d v H'):tWA X es ρ H d:=λpos pins s I=>thn (h pos pins s I) λ_ _ ⟨v,H',g,r,q⟩=>⟨v,H',g,r,f v H' q⟩
theorem bX{K:Za}{Q:DK}{v:V}{d:Hp}(k:Kp H H')(h:lift K H' Q v d):lift K H Q v d:=⟨k.trans h.1,h.2⟩
theorem xA{K:Za}{Q:Bool->MH->Prop}{v:Bool}{d:Hp}(k:Kp H H')(h:xf K H' Q v d):xf K H Q v d:=⟨k.trans h.1,h.2⟩
theorem aD{K:Za}{Q:DK}{v:V}{d:D}{M:MH}(r:RV K H d v)(m:RM K M H)(q:Q d M):lift K H Q v H:=⟨Kp.refl H,d,M,r,m,q⟩
def PEd(X:Cx)(e:Expr)(t:WE):Prop:=∀σ M ρ H Q,RS X.K H σ ρ->RM X.K M H->t σ M Q->tW X e ρ H (lift X.K H Q)
def PTd(X:Cx)(e:Expr)(t:WT):Prop:=∀σ M ρ H Q,RS X.K H σ ρ->RM X.K M H->t σ M Q->tWT X e ρ H (xf X.K H Q)
def PAd(X:Cx)(es:Zg)(t:WA):Prop:=∀σ M ρ H Q,RS X.K H σ ρ->RM X.K M H->t σ M Q->tWA X es ρ H (JO X.K H es.length Q)
def Bif(b:Bool)(A B:Prop):Prop:=match b with
 |true=>A
 |false=>B
theorem aH{A B:Prop}:Bif true A B=A:=rfl
theorem ag{A B:Prop}:Bif false A B=B:=rfl
theorem Bif2{b:Bool}{A B:Prop}(d:b=true->A)(f:b=false->B):Bif b A B:=by
 cases b with
 |true=>exact d rfl
 |false=>exact f rfl
theorem q0{p:Prop}[Decidable p]{A B:Prop}(d:p->A)(f:¬p->B):Bif (decide p) A B:=Bif2 (λe=>d (XO e)) (λe=>f (of_decide_eq_false e))
def getS(σ:DS)(i:Nat)(Q:D->Prop):Prop:=match σ[i]? with
 |some (some d)=>Q d
 |_=>False
theorem FZ{σ:DS}{i:Nat}{Q:D->Prop}(h:getS σ i Q):∃d,σ[i]?=some (some d)/\Q d:=by
 unfold getS at h;split at h
 ·exact⟨_,by assumption,h⟩
 ·exact Yh h
theorem F1{i:Nat}{x:Str}(f:X.N[i]?=some x)(g:Vis X.env.scope x)(hd:(x==("__debug__" : Str))=false)(j:(x==("__classdict__" : Str))=false):PEd X (.Name x pos) (λσ M Q=>getS σ i λd=>Q d M):=by
 intro σ M ρ H Q rs k h;obtain⟨d,e,q⟩:=FZ h;obtain⟨v,e',r⟩:=rs.get e;exact bH (Hh f g hd j) ⟨v,e',aD r k q⟩
theorem q9{d:D}{v:V}(h:PE X e (tC v))(r:∀H,RV X.K H d v):PEd X e (λ_ M Q=>Q d M):=λ_ _ _ H _ _ f q=>bH h (aD (r H) f q)
theorem F2{i:Int}{j:Nat}:PEd X (.Constant (.int i) j pos) (λ_ M Q=>Q (.int i) M):=q9 Hi λ_=>RV.int_.2 rfl
theorem Id{i:Bool}{j:Nat}:PEd X (.Constant (.bool i) j pos) (λ_ M Q=>Q (.bl i) M):=q9 Jo λ_=>RV.bl_.2 rfl
theorem F3{i:Str}{j:Nat}:PEd X (.Constant (.str i) j pos) (λ_ M Q=>Q (.str i) M):=q9 Hk λ_=>RV.str_.2 rfl
theorem F5{j:Nat}:PEd X (.Constant .none j pos) (λ_ M Q=>Q .non M):=q9 Hj λ_=>RV.non_.2 rfl
def ql(K:Za)(mg:Ze)(x:Str)(d:D):Prop:=∃v u,mg x=some u/\RelV v u/\∀H,RV K H d v
theorem DV{x:Str}{d:D}(hg:Gl X x)(h:ql X.K X.mg x d)(hd:(x==("__debug__" : Str))=false):PEd X (.Name x pos) (λ_ M Q=>Q d M):=by
 obtain⟨v,u,hm,r,f⟩:=h;exact q9 (Ft hg hm r hd) f
def oW(X:Cx)(f:Zk):R2:=λx y H Q=>∀pins s ρ v u,Inv X pins ρ H s->RelV x v->RelV y u->wpAny 'c' X.A (f v u) (EP X pins ρ Q) X.xe s
theorem op_W(f:Zk):OpR X f (oW X f):=λpins s σ _ _ _ v u _ I d g h=>h pins s σ v u I d g
theorem gg{f:Zk}{r:R2}{x y:V}{Q:VK}(h:OpR X f r)(q:r x y H Q):oW X f x y H Q:=λpins s ρ v u I d g=>h pins s ρ H x y v u Q I d g q
theorem vd{f:Zk}{x y:V}{Q d:VK}(h:oW X f x y H Q)(g:∀v H',Q v H'->d v H'):oW X f x y H d:=λpins s ρ v u I j k=>thn (h pins s ρ v u I j k) λ_ _ ⟨v,H',l,r,q⟩=>⟨v,H',l,r,g v H' q⟩
abbrev R2d:=D->D->MH->DK->Prop
def OpD(X:Cx)(f:Zk)(r:R2d):Prop:=∀x y v u H M Q,RV X.K H x v->RV X.K H y u->RM X.K M H->r x y M Q->oW X f v u H (lift X.K H Q)
theorem two{g j:WE}{σ:DS}{M:MH}{R:D->D->MH->Prop}(ha:PEd X a g)(hb:PEd X b j)(rs:RS X.K H σ ρ)(m:RM X.K M H)(h:g σ M λx M1=>j σ M1 λy M2=>R x y M2):
  tW X a ρ H λv f=>tW X b ρ f λu d=>Kp H d/\∃x y M2,RV X.K d x v/\RV X.K d y u/\RM X.K M2 d/\R x y M2:=by
 refine aN (ha σ M ρ H _ rs m h) ?_;rintro v f ⟨k,x,M1,n,o,p⟩;refine aN (hb σ M1 ρ f _ (rs.mono k) o p) ?_;rintro u d ⟨l,y,M2,r,z,A⟩;exact⟨k.trans l,x,y,M2,RV.mono l x n,r,z,A⟩
def wOp(r:R2d)(d f:WE):WE:=λσ M Q=>d σ M λx M1=>f σ M1 λy M2=>r x y M2 Q
theorem F8{op:Operator}{r:R2d}{d f:WE}(ho:OpD X (binaryOp op) r)(ha:PEd X a d)(hb:PEd X b f):PEd X (.BinOp a op b pos) (wOp r d f):=by
 intro σ M ρ H Q rs g h;refine bH (Jw (op_W _) (pe_W a) (pe_W b)) ?_;show tW X a ρ H _;refine aN (two ha hb rs g h) λv j l=>?_
 show tW X b ρ j _;refine aN l λu m n=>?_
 obtain⟨k,x,y,M2,o,p,z,q⟩:=n;exact vd (ho x y v u m M2 Q o p z q) λ_ _=>bX k
theorem F9{op:CmpOp}{r:R2d}{d f:WE}(ho:OpD X (compareOp op) r)(ha:PEd X a d)(hb:PEd X b f)(hm:behindInMarks op b=false):PEd X (.Compare a [op] [b] pos) (wOp r d f):=by
 intro σ M ρ H Q rs g h;refine bH (FC (op_W _) (pe_W a) (pe_W b) hm) ?_;show tW X a ρ H _;refine aN (two ha hb rs g h) λv j l=>?_
 show tW X b ρ j _;refine aN l λu m n=>?_
 obtain⟨k,x,y,M2,o,p,z,q⟩:=n;exact vd (ho x y v u m M2 Q o p z q) λ_ _=>bX k
def rc(x:D)(Q:Bool->Prop):Prop:=match x with
 |.bl b=>Q b
 |_=>False
theorem oN{x:D}{Q:Bool->Prop}(h:rc x Q):∃b,x=.bl b/\Q b:=by
 cases x with
 |bl b=>exact⟨b,rfl,h⟩
 |_=>exact Yh h
def AK(t:WE):WT:=λσ M Q=>t σ M λx M1=>rc x λb=>Q b M1
theorem Ga{op:CmpOp}{r:R2d}{g j:WE}(ho:OpD X (compareOp op) r)(ha:PEd X a g)(hb:PEd X b j)(hm:behindInMarks op b=false):PTd X (.Compare a [op] [b] pos) (AK (wOp r g j)):=by
 intro σ M ρ H Q rs l h;refine xz (FD (op_W _) (pe_W a) (pe_W b) hm) ?_;show tW X a ρ H _;refine aN (two ha hb rs l h) λv m n=>?_
 show tW X b ρ m _;refine aN n λu o p=>?_
 obtain⟨k,x,y,M2,A,B,C,q⟩:=p;refine vd (ho x y v u o M2 _ A B C q) λz P G=>?_
 obtain⟨J,d,K,L,O,f⟩:=G;obtain⟨c,rfl,f⟩:=oN f;exact⟨c,RV.bl_.1 L,k.trans J,K,O,f⟩
def wAnd(t u:WT):WT:=λσ M Q=>t σ M λc M1=>Bif c (u σ M1 Q) (Q false M1)
def wOr(t u:WT):WT:=λσ M Q=>t σ M λc M1=>Bif c (Q true M1) (u σ M1 Q)
def wNot(t:WT):WT:=λσ M Q=>t σ M λc M1=>Q (!c) M1
theorem Gb{t:WT}(h:PTd X a t):PTd X (.UnaryOp .Not a pos) (wNot t):=by
 intro σ M ρ H Q rs d q;refine xz (Hn (pt_W a)) ?_;show tWT X a ρ H _;exact gC (h σ M ρ H _ rs d q) λc g f=>f
def PWd(X:Cx)(e:Expr)(t:WT):Prop:=∀σ M ρ H Q,RS X.K H σ ρ->RM X.K M H->t σ M Q->∀d pins s,Inv X pins ρ H s->wpAny 'c' X.A (isTrue e X.env d) (TP X pins ρ (xf X.K H Q)) X.xe s
theorem PWd.pt{t:WT}(h:PWd X e t):PTd X e t:=λσ M ρ H Q rs d q pins s I=>h σ M ρ H Q rs d q _ pins s I
def tWW(X:Cx)(e:Expr):TT:=λρ H Q=>∀d pins s,Inv X pins ρ H s->wpAny 'c' X.A (isTrue e X.env d) (TP X pins ρ Q) X.xe s
theorem pw_W(e:Expr):PW X e (tWW X e):=λd pins s _ _ _ I h=>h d pins s I
theorem xB{Q g:Bool->Hp->Prop}(h:tWW X e ρ H Q)(f:∀v H',Q v H'->g v H'):tWW X e ρ H g:=λd pins s I=>thn (h d pins s I) λ_ _ ⟨H',j,q⟩=>⟨H',j,f _ H' q⟩
theorem tD{t:TT}{Q:Bool->Hp->Prop}(h:PW X e t)(q:t ρ H Q):tWW X e ρ H Q:=λd pins s I=>h d pins s ρ H Q I q
theorem DW{t:WT}(h:PTd X a t):PWd X (.BoolOp .And [a] pos) t:=λσ M ρ H Q rs d q=>tD (Fv (pt_W a)) (h σ M ρ H Q rs d q)
theorem Gc{t:WT}(h:PTd X a t):PWd X (.BoolOp .Or [a] pos) t:=λσ M ρ H Q rs d q=>tD (Hl (pt_W a)) (h σ M ρ H Q rs d q)
theorem zK{t u:WT}{rest:Zg}(h:PTd X a t)(h':PWd X (.BoolOp .And (b::rest) pos) u):PWd X (.BoolOp .And (a::b::rest) pos) (wAnd t u):=by
 intro σ M ρ H Q rs j q;refine tD (Hm (pt_W a) (pw_W _)) ?_;show tWT X a ρ H _;refine gC (h σ M ρ H _ rs j q) λc k l=>?_
 obtain⟨d,M1,f,g⟩:=l;cases c with
 |true=>exact xB (h' σ M1 ρ k Q (rs.mono d) f g) λ_ _=>xA d
 |false=>exact⟨d,M1,f,g⟩
theorem Cg{t u:WT}{rest:Zg}(h:PTd X a t)(h':PWd X (.BoolOp .Or (b::rest) pos) u):PWd X (.BoolOp .Or (a::b::rest) pos) (wOr t u):=by
 intro σ M ρ H Q rs j q;refine tD (Jp (pt_W a) (pw_W _)) ?_;show tWT X a ρ H _;refine gC (h σ M ρ H _ rs j q) λc k l=>?_
 obtain⟨d,M1,f,g⟩:=l;cases c with
 |false=>exact xB (h' σ M1 ρ k Q (rs.mono d) f g) λ_ _=>xA d
 |true=>exact⟨d,M1,f,g⟩
def AL(d f:WE):WE:=λσ M Q=>d σ M λx M1=>rc x λc=>Bif c (f σ M1 Q) (Q (.bl false) M1)
def wOrV(d f:WE):WE:=λσ M Q=>d σ M λx M1=>rc x λc=>Bif c (Q (.bl true) M1) (f σ M1 Q)
def AM(d:WE):WE:=λσ M Q=>d σ M λx M1=>rc x λc=>Q (.bl (!c)) M1
theorem zL{op:BoolOp}{t:WE}(h:PEd X a t):PEd X (.BoolOp op [a] pos) t:=λσ M ρ H Q rs d q=>bH (Ho (pe_W a)) (h σ M ρ H Q rs d q)
theorem zM{g j:WE}{rest:Zg}(h:PEd X a g)(h':PEd X (.BoolOp .And (b::rest) pos) j):PEd X (.BoolOp .And (a::b::rest) pos) (AL g j):=by
 intro σ M ρ H Q rs l q;refine bH (Hq (pe_W a) (pe_W _)) ?_;show tW X a ρ H _;refine aN (h σ M ρ H _ rs l q) λv m n=>?_
 obtain⟨f,x,M1,o,k,d⟩:=n;obtain⟨c,rfl,d⟩:=oN d;refine⟨c,RV.bl_.1 o,?_⟩;cases c with
 |true=>exact aN (h' σ M1 ρ m Q (rs.mono f) k d) λ_ _=>bX f
 |false=>exact⟨f,.bl false,M1,RV.bl_.2 rfl,k,d⟩
theorem Ch{g j:WE}{rest:Zg}(h:PEd X a g)(h':PEd X (.BoolOp .Or (b::rest) pos) j):PEd X (.BoolOp .Or (a::b::rest) pos) (wOrV g j):=by
 intro σ M ρ H Q rs l q;refine bH (Js (pe_W a) (pe_W _)) ?_;show tW X a ρ H _;refine aN (h σ M ρ H _ rs l q) λv m n=>?_
 obtain⟨f,x,M1,o,k,d⟩:=n;obtain⟨c,rfl,d⟩:=oN d;refine⟨c,RV.bl_.1 o,?_⟩;cases c with
 |false=>exact aN (h' σ M1 ρ m Q (rs.mono f) k d) λ_ _=>bX f
 |true=>exact⟨f,.bl true,M1,RV.bl_.2 rfl,k,d⟩
theorem Ge{f:WE}(h:PEd X a f):PEd X (.UnaryOp .Not a pos) (AM f):=by
 intro σ M ρ H Q rs g q;refine bH (Hr (pe_W a)) ?_;show tW X a ρ H _;refine aN (h σ M ρ H _ rs g q) λv n j=>?_
 obtain⟨k,x,M1,l,m,d⟩:=j;obtain⟨c,rfl,d⟩:=oN d;exact⟨c,RV.bl_.1 l,k,.bl (!c),M1,RV.bl_.2 rfl,m,d⟩
def wIf(t:WT)(d f:WE):WE:=λσ M Q=>t σ M λc M1=>Bif c (d σ M1 Q) (f σ M1 Q)
theorem Ci{t:WT}{f g:WE}(hc:PTd X c t)(ha:PEd X a f)(hb:PEd X b g):PEd X (.IfExp c a b pos) (wIf t f g):=by
 intro σ M ρ H Q rs n q;refine bH (Dx (pt_W c) (pe_W a) (pe_W b)) ?_;show tWT X c ρ H _;refine gC (hc σ M ρ H _ rs n q) λk j o=>?_
 obtain⟨d,M1,l,m⟩:=o;cases k with
 |true=>exact aN (ha σ M1 ρ j Q (rs.mono d) l m) λ_ _=>bX d
 |false=>exact aN (hb σ M1 ρ j Q (rs.mono d) l m) λ_ _=>bX d
def rdL:Option MO->Option (List D)
 |some (.lst ds)=>some ds
 |some (.rol ds)=>some ds
 |_=>none
def truD(x:D)(M:MH)(Q:Bool->Prop):Prop:=match x with
 |.non=>Q false
 |.bl b=>Q b
 |.int i=>Q (i != 0)
 |.str y=>y.length<=sizeLine/\Q ((y.length:Int) != 0)
 |.tup ds=>Q (!ds.isEmpty)
 |.ref a=>match M a with
  |some (.lst ds)=>Q (!ds.isEmpty)
  |some (.rol ds)=>Q (!ds.isEmpty)
  |some (.dic d)=>Q (!d.isEmpty)
  |_=>False
 |.ty _=>False
theorem rf{d f:Type}{l:List d}{m:List f}(h:l.length=m.length):l.isEmpty=m.isEmpty:=by
 cases l<;>cases m<;>simp_all
theorem Gf{K:Za}{M:MH}{x:D}{v:V}{Q:Bool->Prop}(r:RV K H x v)(m:RM K M H)(h:truD x M Q):∃k,TruV K v H k/\Q k:=by
 cases x with
 |non=>cases RV.non_.1 r;exact⟨_,rfl,h⟩
 |bl b=>cases RV.bl_.1 r;exact⟨_,rfl,h⟩
 |int i=>cases RV.int_.1 r;exact⟨_,rfl,h⟩
 |str y=>cases RV.str_.1 r;exact⟨_,⟨h.1,rfl⟩,h.2⟩
 |ty n=>exact Yh h
 |tup ds=>
  obtain⟨a,xs,rfl,s,d⟩:=RV.tup_.1 r;exact⟨_,.inr (.inl ⟨xs,s,rfl⟩),by rw[←rf d.len];exact h⟩
 |ref a=>
  cases RV.ref_.1 r;have h:match M a with
   |some (.lst ds)=>Q (!ds.isEmpty)
   |some (.rol ds)=>Q (!ds.isEmpty)
   |some (.dic f)=>Q (!f.isEmpty)
   |_=>False:=h
  split at h
  ·rename_i ds e
   obtain⟨xs,q,d⟩:=m a _ e;exact⟨_,.inl ⟨xs,SqL.of q,rfl⟩,by rw[←rf d.len];exact h⟩
  ·rename_i ds e
   obtain⟨xs,q,d⟩:=m a _ e;exact⟨_,.inl ⟨xs,.inl q,rfl⟩,by rw[←rf d.len];exact h⟩
  ·rename_i f e
   obtain⟨g,q,k,d⟩:=m a _ e;refine⟨_,.inr (.inr ⟨g,q,rfl⟩),?_⟩;have:g.length=f.length:=by have:=congrArg List.length k;simpa using this
   rw[rf this];exact h
  ·exact Yh h
def wTru(t:WE):WT:=λσ M Q=>t σ M λx M1=>truD x M1 λk=>Q k M1
theorem Gg{t:WE}(h:PEd X a t)(g:∀d,isTrue a X.env d=(do let v ←d;standAt a.pos;holding [v] (truthy v))):PTd X a (wTru t):=by
 intro σ M ρ H Q rs j q;refine xz (DC (pe_W a) g) ?_;show tW X a ρ H _;refine aN (h σ M ρ H _ rs j q) λv u l=>?_
 obtain⟨m,x,M1,n,f,o⟩:=l;obtain⟨k,p,r⟩:=Gf n f o;exact⟨k,p,m,M1,f,r⟩
def wNil:WA:=λ_ M Q=>Q [] M
def AN(t:WE)(u:WA):WA:=λσ M Q=>t σ M λx M1=>u σ M1 λxs M2=>Q (x::xs) M2
theorem Gh:PAd X [] wNil:=λσ M ρ H Q rs d q=>Cf HN ⟨Kp.refl H,[],M,RVs.nil,rfl,d,q⟩
theorem DX{t:WE}{u:WA}(h:PEd X e t)(h':PAd X es u)(j:aA e=true):PAd X (e::es) (AN t u):=by
 intro σ M ρ H Q rs k q;refine Cf (FH (pe_W e) (pa_W es) (a9 j)) ?_;show tW X e ρ H _;refine aN (h σ M ρ H _ rs k q) λv d l=>?_
 obtain⟨f,x,M1,m,n,o⟩:=l;show tWA X es ρ d _;refine dl (h' σ M1 ρ d _ (rs.mono f) n o) λvs A p=>?_
 obtain⟨g,xs,M2,r,l2,y,z⟩:=p;exact⟨f.trans g,x::xs,M2,RVs.cons (RV.mono g x m) r,by simp[l2],y,z⟩
def wTup(t:WA):WE:=λσ M Q=>t σ M λxs M1=>Q (.tup xs) M1
def wLst(t:WA):WE:=λσ M Q=>t σ M λxs M1=>∀p,M1 p=none->Q (.ref p) (updM M1 p (.lst xs))
theorem Gi{t:WA}{k:Nat}(h:PAd X es t)(hz:es.length<=1000):PEd X (.Tuple es k pos) (wTup t):=by
 intro σ M ρ H Q rs j q;refine bH (HP (pa_W es)) ?_;show tWA X es ρ H _;refine dl (h σ M ρ H _ rs j q) λvs d l=>?_
 obtain⟨m,xs,M1,f,l1,n,o⟩:=l;refine⟨?_,λp hp=>?_⟩
 ·rw[←f.len,l1];exact Nat.le_of_lt (wb hz)
 ·have g:Kp d (upd d p (.tup vs)):=Kp.new hp
  exact⟨m.trans g,.tup xs,M1,RV.tup_.2 ⟨p,vs,rfl,SqT.of aG,RVs.mono g _ f⟩,n.newH hp,o⟩
theorem Gj{t:WA}(h:PAd X es t)(hz:es.length<=1000):PEd X (.List es pos) (wLst t):=by
 intro σ M ρ H Q rs k q;refine bH (HQ (pa_W es)) ?_;show tWA X es ρ H _;refine dl (h σ M ρ H _ rs k q) λvs d l=>?_
 obtain⟨n,xs,M1,f,l1,g,o⟩:=l;refine⟨?_,λp hp=>?_⟩
 ·rw[←f.len,l1];exact Nat.le_of_lt (wb hz)
 ·have j:Kp d (upd d p (.lst vs)):=Kp.new hp
  exact⟨n.trans j,.ref p,_,RV.ref_.2 rfl,g.new (m:=.lst xs) hp ⟨vs,aG,RVs.mono j _ f⟩,o p (g.fresh hp)⟩
abbrev SpD:=List D->MH->DK->Prop
abbrev Yl:SpD:=λ_ _ _=>False
def dC(K:Za)(sp:SpD):Sp:=λvs H Q _=>∃ds M f,RVs K H ds vs/\RM K M H/\sp ds M f/\∀d M' v H',f d M'->Kp H H'->RV K H' d v->RM K M' H'->Q v H'
def FnD(P:Zw)(w:World)(K:Za)(mg:Ze)(base:Heap)(k:Nat)(x:Str)(sp:SpD):Prop:=
 ∃st ps f fd,IsDef K mg x st ps f fd/\FnOk P w K mg base CX0 k f fd ps (dC K sp)
theorem dh{env:Env}{pos:Pos}:∀{es:Zg},es.all aA=true->(backTo pos (starEach es env)).any (·.1)=false
 |[],_=>rfl
 |e::es,h=>by
  rw[XQ,YY] at h;rw[a9 h.1];show(false||(backTo pos (starEach es env)).any (·.1))=false;rw[dh h.2];rfl
def jK(sp:SpD)(t:WA):WE:=λσ M Q=>t σ M λds M1=>sp ds M1 Q
theorem Gk{k:Nat}{x:Str}{sp:SpD}{t:WA}{p:Pos}(F:FnD X.prog X.w X.K X.mg X.base k x sp)(g:Room k X.A)(hg:Gl X x)(j:(x==("__debug__" : Str))=false)(l:aA e=true)(m:es.all aA=true)(ha:PAd X (e::es) t):
  PEd X (.Call (.Name x p) (e::es) [] pos) (jK sp t):=by
 obtain⟨st,ps,f,fd,n,G⟩:=F;intro σ M ρ H Q rs o q;refine bH (Ic n G g (pa_W (e::es)) hg j (a9 l) (dh m)) ?_;show tWA X (e::es) ρ H _;refine dl (ha σ M ρ H _ rs o q) λvs P r=>?_
 obtain⟨u,xs,M1,y,l1,z,B⟩:=r;rw[ZA];exact⟨xs,M1,Q,y,z,B,λd M' v H' C J L O=>⟨u.trans J,d,M',L,O,C⟩⟩
end
def tE(K:Za):Bool:=K.all λp=>match p.2.cls with
 |.type t=>!(t == "list")
 |_=>true
theorem wd{a:Addr}{o:Obj}:∀{K:Za},tE K=true->K.lookup a=some o->o.cls=.type "list"->False
 |[],_,h,_=>by cases h
 |(b,p)::K,hn,h,hc=>by
  unfold tE at hn;rw[XQ,YY] at hn;rw[XJ] at h;split at h
  ·cases h
   have c:=hn.1;simp only[hc] at c;exact absurd c 'a'
  ·exact wd (K:=K) hn.2 h hc
theorem xC{K:Za}{H:Hp}:∀(ns:Zi),RVs K H (ns.map D.int) (ns.map V.int)
 |[]=>.nil
 |n::ns=>.cons (RV.int_.2 rfl) (xC ns)
def rg(a:Addr)(ns:Zi):MH:=λb=>if b=a then some (.rol (ns.map D.int)) else none
def xg(n:Nat)(sp:SpD):Prop:=∀a ns,ns.length<=n->sp [.ref a] (rg a ns) λd _=>d=.bl true
theorem Ie{K:Za}{H:Hp}{a:Addr}{ns:Zi}{n:Nat}{sp:SpD}(hK:tE K=true)(f:xg n sp)(hl:ns.length<=n)(c:SqL K H a (ns.map V.int))(E:XK):dC K sp [.ref a] H (λv _=>v=.bl true) E:=by
 rcases c with c | ⟨o,d_,m,h1,h2,_⟩
 ·refine⟨[.ref a],rg a ns,λd _=>d=.bl true,.cons (RV.ref_.2 rfl) .nil,λb o e=>?_,f a ns hl,λd M' v H' q _ r _=>?_⟩
  ·unfold rg at e
   split at e
   ·rename_i hb
    subst hb;cases e;exact⟨_,c,xC ns⟩
   ·cases e
  ·subst q
   exact RV.bl_.1 r
 ·exact(wd hK h1 h2).elim
mutual
noncomputable def jL(K:Za):D->Value->Bool
 |.non,u=>match u with
  |.none=>true
  |_=>false
 |.bl b,u=>match u with
  |.bool c=>decide (b=c)
  |_=>false
 |.int i,u=>match u with
  |.int j _=>decide (i=j)
  |_=>false
 |.str x,u=>match u with
  |.str y _=>decide (x=y)
  |_=>false
 |.ty n,u=>match u with
  |.type m=>decide (n=m)
  |_=>false
 |.ref a,u=>match u with
  |.ref b=>decide (a=b)
  |_=>false
 |.tup ds,u=>match u with
  |.ref a=>(match K.lookup a with
   |some ⟨.type t,_,.seq d_ _,_⟩=>decide (t = "tuple")&&decide (d_.size<=sizeLine)&&qm K ds d_.toList
   |_=>false)
  |_=>false
noncomputable def qm(K:Za):List D->List Value->Bool
 |[],us=>us.isEmpty
 |d::ds,us=>match us with
  |u::us=>jL K d u&&qm K ds us
  |[]=>false
end
mutual
theorem xD{K:Za}:∀(d:D){u:Value},jL K d u=true->∃v,RelV v u/\∀H,RV K H d v
 |.non,u,h=>by
  unfold jL at h;split at h
  ·exact⟨.non,rfl,λ_=>RV.non_.2 rfl⟩
  ·cases h
 |.bl b,u,h=>by
  unfold jL at h;split at h
  ·cases XO h;exact⟨.bl _,rfl,λ_=>RV.bl_.2 rfl⟩
  ·cases h
 |.int b,u,h=>by
  unfold jL at h;split at h
  ·cases XO h;exact⟨.int _,⟨_,rfl⟩,λ_=>RV.int_.2 rfl⟩
  ·cases h
 |.str b,u,h=>by
  unfold jL at h;split at h
  ·cases XO h;exact⟨.str _,⟨_,rfl⟩,λ_=>RV.str_.2 rfl⟩
  ·cases h
 |.ty b,u,h=>by
  unfold jL at h;split at h
  ·cases XO h;exact⟨.ty _,rfl,λ_=>RV.ty_.2 rfl⟩
  ·cases h
 |.ref a,u,h=>by
  unfold jL at h;split at h
  ·cases XO h;exact⟨.ref _,rfl,λ_=>RV.ref_.2 rfl⟩
  ·cases h
 |.tup ds,u,h=>by
  unfold jL at h;split at h
  ·rename_i a
   split at h
   ·rename_i t od d_ n sl e
    simp only[YY,XR] at h;obtain⟨⟨h1,h2⟩,h3⟩:=h;obtain⟨vs,r1,r2⟩:=we ds h3;exact⟨.ref a,rfl,λH=>RV.tup_.2 ⟨a,vs,rfl,.inr ⟨_,d_,n,e,by rw[h1],rfl,h2,r1⟩,r2 H⟩⟩
   ·cases h
  ·cases h
theorem we{K:Za}:∀(ds:List D){us:Zd},qm K ds us=true->∃vs,Vals vs us/\∀H,RVs K H ds vs
 |[],us,h=>by
  unfold qm at h;cases us with
  |nil=>exact⟨[],.nil,λ_=>.nil⟩
  |cons u us=>cases h
 |d::ds,us,h=>by
  unfold qm at h;split at h
  ·rename_i u us
   rw[YY] at h;obtain⟨v,r1,r2⟩:=xD d h.1;obtain⟨vs,r3,r4⟩:=we ds h.2;exact⟨v::vs,.cons r1 r3,λH=>.cons (r2 H) (r4 H)⟩
  ·cases h
end
def rh(K:Za):List Str->List D->Bool
 |[],_=>true
 |x::xs,ds=>(match PySem.W.nsIn K mainGlobals x with
  |some (some u)=>jL K (ds.headD .non) u
  |_=>false)&&rh K xs ds.tail
theorem tF{K:Za}{h:Heap}{mg:Ze}(X:K.In h)(G:h.Ns mainGlobals mg):∀{xs:Zf}{ds:List D},rh K xs ds=true->∀(j:Nat) x,xs[j]?=some x->ql K mg x (ds.getD j .non)
 |[],_,_,j,x,e=>by cases e
 |y::xs,ds,hk,j,x,e=>by
  unfold rh at hk;rw[YY] at hk;cases j with
  |zero=>
   have e:y=x:=by simpa using e
   subst e;have a:=hk.1;split at a
   ·rename_i u q
    obtain⟨v,b,c⟩:=xD _ a;have:ds.getD 0 .non=ds.headD .non:=by cases ds<;>rfl
    rw[this];exact⟨v,u,PySem.W.mg_of X G q,b,c⟩
   ·cases a
  |succ j=>
   have:=tF X G hk.2 j x (by simpa using e)
   have d:ds.getD (j+1) .non=ds.tail.getD j .non:=by cases ds<;>simp
   rw[d];exact this
def Cj(K:Za)(xs:Zf):Bool:=xs.all λx=>match PySem.W.nsIn K mainGlobals x with
 |some none=>true
 |_=>false
theorem Ck{K:Za}{h:Heap}{mg:Ze}(X:K.In h)(G:h.Ns mainGlobals mg){xs:Zf}(hk:Cj K xs=true):∀x,xs.contains x=true->mg x=none:=by
 intro x hx
 have:=XM.1 hk x (by simpa using hx)
 split at this
 ·rename_i q
  exact PySem.W.mg_none_of X G q
 ·cases this
theorem JP{l:PySem.W.OpenLaw}{n k:Nat}{q:Zw}{loose:Zf}{XP:(Str->Option Value)->Heap->Prop}{YP:World->Heap->Prop}{d:DefRec}{K:Params->PySem.W.Frag}{sp:SpD}{x:Str}
  (hn:l.most=some n) (c:n<=sizeLine) (g:d.params.defaults=[]) (j:Room k callerA) (m:xg n sp)
  (o:∀(w:World) (h:Heap),YP w h->(K w.params).In h) (hK:∀w:World,tE (K w.params)=true)
  (F:∀(w:World) (mg:Ze) (b:Addr) (h:Heap),(K w.params).In h->h.Ns mainGlobals mg->mg d.name=some (.ref b) ->
   ∃fd:FuncData,(∀(s:Shared) (u:Value),BindsTo s fd ⟨[u],[]⟩ [(x,u)]) /\
    ∀base:Heap,(K w.params).In base->base.Ns mainGlobals mg->FnOk l.prog w (K w.params) mg base CX0 k b fd [x] (dC (K w.params) sp)):
  PySem.W.WalkO q loose XP YP l.row.toRowW d [] (λf vs=>PySem.call f vs):=
 L2.FU (n:=n) (k:=k) (x:=x) (CX:=λ_=>CX0) (sp:=λw=>dC (K w.params) sp) hn c g j o F (λw _ a ns hl _ p=>Ie (hK w) m hl p _) λ_ _ _ _ _ z=>z
section
variable {P:Zw}{w:World}{K:Za}{mg:Ze}{base:Heap}{k:Nat}
structure DefAt (K:Za) (x:Str) (st:Stmt) (f:Addr) (fd:Zv):Prop where
 ex:∃(oc:Value) (od an:Zm) (G_:Zn) (kV r_ pm p_ ct:Value),PySem.W.nsIn K mainGlobals x=some (some (.ref f)) /\
  fd=PySem.W.fnOf x x (bp st) (aO st) (au st) .none kV r_ pm an p_ ct/\K.lookup f=some ⟨oc,od,.func fd,G_⟩/\PySem.W.codeIn K p_ x=true/\PySem.W.keepIn K (.ref f)=true
theorem DefAt.mk'{x:Str}{st:Stmt}{f:Addr}{oc:Value}{od an:Zm}{G_:Zn}{kV r_ pm p_ ct:Value}
  (a:PySem.W.nsIn K mainGlobals x=some (some (.ref f))) (l:K.lookup f=some ⟨oc,od,.func (PySem.W.fnOf x x (bp st) (aO st) (au st) .none kV r_ pm an p_ ct),G_⟩)
  (c:PySem.W.codeIn K p_ x=true) (k:PySem.W.keepIn K (.ref f)=true):DefAt K x st f (PySem.W.fnOf x x (bp st) (aO st) (au st) .none kV r_ pm an p_ ct):=
 ⟨⟨oc,od,an,G_,kV,r_,pm,p_,ct,a,rfl,l,c,k⟩⟩
theorem DefAt.def_{h:Heap}{x:Str}{st:Stmt}{ps:Zf}{f:Addr}{fd:Zv}(A:DefAt K x st f fd)(X:K.In h)(G:h.Ns mainGlobals mg)
  (hb:∀(kV r_ pm:Value) (an:Zm) (p_ ct:Value) (us:Zd),us.length=ps.length->bindArgs (PySem.W.fnOf x x (bp st) (aO st) (au st) .none kV r_ pm an p_ ct) ⟨us,[]⟩=pure (ps.zip us)):
  IsDef K mg x st ps f fd:=by
 obtain⟨oc,od,an,G_,kV,r_,pm,p_,ct,a,rfl,l,c,k⟩:=A.ex;exact DU X G a l c k hb
def isBt:Option (Option Value)->String->Bool
 |some (some (.builtin n)),s=>decide (n=s)
 |_,_=>false
def isNo:Option (Option Value)->Bool
 |some none=>true
 |_=>false
theorem Gm{o:Option (Option Value)}{s:String}(h:isBt o s=true):o=some (some (.builtin s)):=by
 unfold isBt at h;split at h
 ·cases XO h;rfl
 ·cases h
theorem Gn{o:Option (Option Value)}(h:isNo o=true):o=some none:=by
 unfold isNo at h;split at h
 ·rfl
 ·cases h
def clsIn(K:Za)(C:Addr)(fs:Zf):Bool:=
 PySem.W.plainGet K C Str.empty&&PySem.W.hasDictIn K C&&PySem.W.plainOver K C&&isBt (PySem.W.findIn K (.ref C) "__setattr__") "object.__setattr__" && fs.all (λf=>isNo (PySem.W.findIn K (.ref C) f))
theorem aC{C:Addr}{fs:Zf}(h:clsIn K C fs=true):Cls K C:=by
 unfold clsIn at h;simp only[YY] at h;exact⟨h.1.1.1.1,h.1.1.1.2,h.1.1.2,Gm h.1.2⟩
theorem oO{C:Addr}{fs:Zf}{f:Str}(h:clsIn K C fs=true)(hf:f∈fs):cm K C f:=by
 unfold clsIn at h;simp only[YY] at h;exact Gn (XM.1 h.2 f hf)
structure MethAt (K:Za) (C:Addr) (m i_:Str) (st:Stmt) (f:Addr) (fd:Zv):Prop where
 at_:PySem.W.findIn K (.ref C) m=some (some (.ref f))
 fn:PySem.W.isFn K (.ref f)=true
 fun_:Fun K m i_ st f fd
theorem MethAt.mk'{C:Addr}{m i_:Str}{st:Stmt}{f:Addr}{oc:Value}{od an:Zm}{G_:Zn}{kV r_ pm p_ ct:Value}
  (a:PySem.W.findIn K (.ref C) m=some (some (.ref f))) (l:K.lookup f=some ⟨oc,od,.func (PySem.W.fnOf m i_ (bp st) (aO st) (au st) .none kV r_ pm an p_ ct),G_⟩)
  (n:PySem.W.isFn K (.ref f)=true) (c:PySem.W.codeIn K p_ i_=true) (k:PySem.W.keepIn K (.ref f)=true):MethAt K C m i_ st f (PySem.W.fnOf m i_ (bp st) (aO st) (au st) .none kV r_ pm an p_ ct):=
 ⟨a,n,xx l c k⟩
theorem MethAt.meth{C:Addr}{m i_:Str}{st:Stmt}{f:Addr}{fd:Zv}(A:MethAt K C m i_ st f fd):Meth K C m f:=⟨A.at_,A.fn,A.fun_.kp⟩
end
end DD
namespace K53
open PySem PySem.Spec PyProof.Rows L2 DD
def top(i:Nat):Stmt:=PySem.Challenge.pw_notring_k53_what_is_no_paper.main.body.getD i (.Pass ⟨0,0,0,0⟩)
abbrev bltL:List Str:=["all","bool","enumerate","int","isinstance","len","list","max","min","range","set","sorted","tuple","zip"]
abbrev dX:List Str:=["TOLD_PAPER","MOST_CONDS","HIGHEST_NUMBER","MOST_LISTED","MOST_FACTS","MOST_ROWS"]
abbrev k7:List D:=[(.tup [(.str "true"),(.int 0),(.int 0),.non]),(.int 6),(.int 6),(.int 6),(.int 120),(.int 400)]
abbrev ie:Stmt:=top 2
abbrev ig:Stmt:=top 3
abbrev oP:Stmt:=top 4
abbrev su:Stmt:=top 5
abbrev qo:Stmt:=top 6
abbrev nk:Stmt:=top 7
abbrev oQ:Stmt:=top 14
abbrev nn:Stmt:=top 15
abbrev ke:Stmt:=top 16
abbrev kf:Stmt:=top 17
abbrev ly:Stmt:=top 19
abbrev kg:Stmt:=top 20
abbrev jg:Stmt:=top 21
abbrev oR:Stmt:=top 22
abbrev kh:Stmt:=top 23
abbrev ii:Stmt:=top 24
abbrev np:Stmt:=top 27
abbrev lz:Stmt:=top 28
abbrev nq:Stmt:=top 29
abbrev nr:Stmt:=top 32
abbrev ve:Stmt:=top 33
abbrev gm:Stmt:=top 34
abbrev ik:Stmt:=top 35
abbrev d9:Stmt:=top 36
abbrev oS:Stmt:=top 37
abbrev gD:Stmt:=top 38
abbrev il:Stmt:=top 39
abbrev jh:Stmt:=top 51
abbrev ji:Stmt:=top 52
abbrev fv:Stmt:=top 53
abbrev sv:Stmt:=top 54
abbrev qp:Stmt:=top 55
abbrev nt:Stmt:=top 56
abbrev lA:Stmt:=top 57
abbrev oT:Stmt:=top 59
abbrev lB:Stmt:=top 60
abbrev nu:Stmt:=top 61
abbrev lC:Stmt:=top 62
abbrev oU:Stmt:=top 63
abbrev oV:Stmt:=top 64
abbrev oX:Stmt:=top 65
abbrev cT:Stmt:=top 66
abbrev im:Stmt:=top 67
abbrev nv:Stmt:=top 68
abbrev tG:Stmt:=top 69
abbrev nw:Stmt:=inClass (top 10) 0
abbrev lD:Stmt:=inClass (top 10) 1
abbrev jj:Stmt:=inClass (top 10) 2
abbrev jk:Stmt:=inClass (top 10) 3
abbrev jl:Stmt:=inClass (top 10) 4
abbrev ny:Stmt:=inClass (top 11) 0
abbrev lE:Stmt:=inClass (top 11) 1
abbrev jm:Stmt:=inClass (top 11) 2
abbrev jn:Stmt:=inClass (top 11) 3
abbrev jo:Stmt:=inClass (top 11) 4
abbrev nz:Stmt:=inClass (top 12) 0
abbrev lF:Stmt:=inClass (top 12) 1
abbrev jp:Stmt:=inClass (top 12) 2
abbrev jq:Stmt:=inClass (top 12) 3
abbrev jr:Stmt:=inClass (top 12) 4
abbrev nA:Stmt:=inClass (top 13) 0
abbrev lG:Stmt:=inClass (top 13) 1
abbrev jt:Stmt:=inClass (top 13) 2
abbrev ju:Stmt:=inClass (top 13) 3
abbrev jv:Stmt:=inClass (top 13) 4
abbrev jw:Stmt:=inClass (top 26) 0
abbrev jx:Stmt:=inClass (top 26) 1
abbrev dR:Stmt:=inClass (top 26) 5
abbrev dm:Stmt:=inClass (top 26) 6
abbrev cZ:Stmt:=inClass (top 26) 7
abbrev kj:Stmt:=inClass (top 40) 0
abbrev dS:Stmt:=inClass (top 40) 1
abbrev cr:Stmt:=inClass (top 40) 2
abbrev c5:Stmt:=inClass (top 40) 3
abbrev dU:Stmt:=inClass (top 40) 4
abbrev lH:Stmt:=inClass (top 50) 0
abbrev gE:Stmt:=inClass (top 50) 1
abbrev gF:Stmt:=inClass (top 50) 2
abbrev fJ:Stmt:=inClass (top 50) 3
abbrev gG:Stmt:=inClass (top 50) 4
abbrev dW:Stmt:=inClass (top 50) 5
abbrev io:Stmt:=inClass (top 50) 6
abbrev gH:Stmt:=inClass (top 50) 7
def HDef(K:Za)(x:Str)(st:Stmt):Prop:=∃f fd,DefAt K x st f fd
def aS(K:Za)(C:Addr)(m q:Str)(st:Stmt):Prop:=∃f fd,MethAt K C m q st f fd
abbrev fldL:List Str:=["fact","number","facts","at"]
abbrev Ig:List Str:=["many","heads","conds","headed","leanings","helped"]
abbrev JQ:List Str:=["pairs","sure","unsure","others"]
abbrev Ih:List Str:=["everything","true_ones","false_ones","open_ones","sure","not_false"]
structure Hyps (K:Za) (cH cL cS cD S Z W:Addr):Prop where
 a_0:HDef K "has_fact" oP
 a_1:HDef K "count_in" oQ
 a_2:HDef K "answer_in" np
 a_3:HDef K "set_of" su
 a_4:HDef K "all_carried" ke
 a_5:HDef K "open_is_right" il
 a_6:HDef K "any_blocked" kf
 a_7:HDef K "false_is_right" gD
 a_8:HDef K "is_right" oS
 a_9:HDef K "all_facts" nk
 a_10:HDef K "is_whole" ie
 a_11:HDef K "is_below" ig
 a_12:HDef K "is_own_row" d9
 a_13:HDef K "is_paper" ik
 a_14:HDef K "papers_hold" gm
 a_15:HDef K "carried_heads" ii
 a_16:HDef K "helped_rows" kh
 a_17:HDef K "members" qo
 a_18:HDef K "all_rows" oR
 a_19:HDef K "ranked_among" jg
 a_20:HDef K "ranked_set" ly
 a_21:HDef K "ranks" ve
 a_22:HDef K "least_among" kg
 a_23:HDef K "next_pair" nq
 a_24:HDef K "to_and_fro" lz
 a_25:HDef K "papers_of" nr
 a_26:HDef K "rows_by_help" fv
 a_27:HDef K "row_leanings" jh
 a_28:HDef K "rows_by_head" ji
 a_29:HDef K "made_cond" nn
 a_30:HDef K "is_listing" lA
 a_31:HDef K "is_number" nt
 a_32:HDef K "is_cond" qp
 a_33:HDef K "is_row" sv
 a_34:HDef K "_law_digit" nu
 a_35:HDef K "_law_wrong_paper" cT
 a_36:HDef K "_law_truths" im
 a_37:HDef K "_law_wrong" nv
 a_38:HDef K "_law_cell" oT
 a_39:HDef K "_law_source" lB
 a_40:HDef K "_law_picked" lC
 a_41:HDef K "_law_cond" oU
 a_42:HDef K "_law_rows" oV
 a_43:HDef K "_law_made" oX
 a_63:aS K cH "__init__" "Have.__init__" nw
 a_64:aS K cH "carried" "Have.carried" jj
 a_65:aS K cH "leaning" "Have.leaning" jl
 a_66:aS K cH "blocked" "Have.blocked" jk
 a_67:aS K cH "shown" "Have.shown" lD
 a_68:aS K cL "__init__" "Lack.__init__" ny
 a_69:aS K cL "carried" "Lack.carried" jm
 a_70:aS K cL "leaning" "Lack.leaning" jo
 a_71:aS K cL "blocked" "Lack.blocked" jn
 a_72:aS K cL "shown" "Lack.shown" lE
 a_73:aS K cS "__init__" "Some.__init__" nz
 a_74:aS K cS "carried" "Some.carried" jp
 a_75:aS K cS "leaning" "Some.leaning" jr
 a_76:aS K cS "blocked" "Some.blocked" jq
 a_77:aS K cS "shown" "Some.shown" lF
 a_78:aS K cD "__init__" "Lead.__init__" nA
 a_79:aS K cD "carried" "Lead.carried" jt
 a_80:aS K cD "leaning" "Lead.leaning" jv
 a_81:aS K cD "blocked" "Lead.blocked" ju
 a_82:aS K cD "shown" "Lead.shown" lG
 a_83:aS K S "__init__" "Sheet.__init__" lH
 a_84:aS K S "how_many" "Sheet.how_many" gE
 a_85:aS K S "rows_for" "Sheet.rows_for" gG
 a_86:aS K S "rows_helped" "Sheet.rows_helped" dW
 a_87:aS K S "head_of" "Sheet.head_of" io
 a_88:aS K S "conds_of" "Sheet.conds_of" gH
 a_62:aS K S "row_count" "Sheet.row_count" fJ
 a_Sheet_row_list:aS K S "row_list" "Sheet.row_list" gF
 a_99:aS K Z "__init__" "Sorting.__init__" jw
 a_58:aS K Z "runs" "Sorting.runs" jx
 a_59:aS K Z "answer_of" "Sorting.answer_of" dR
 a_60:aS K Z "true_round" "Sorting.true_round" dm
 a_61:aS K Z "false_round" "Sorting.false_round" cZ
 a_53:aS K W "__init__" "Claims.__init__" kj
 a_54:aS K W "true_ahead" "Claims.true_ahead" dS
 a_55:aS K W "true_by_rounds" "Claims.true_by_rounds" cr
 a_56:aS K W "not_false_by" "Claims.not_false_by" c5
 a_57:aS K W "open_ahead" "Claims.open_ahead" dU
def Fc(sp:SpD):Prop:=∀{l:PySem.W.OpenLaw}{w:World}{K:Za}{h:Heap}{mg:Ze}{a cH cL cS cD S Z W:Addr}(X:K.In h) (G:h.Ns mainGlobals mg) (d:mg "law" = some (.ref a))
 (f:(decide (cH≠cL)&&decide (cH≠cS)&&decide (cH≠cD)&&decide (cL≠cS)&&decide (cL≠cD)&&decide (cS≠cD))=true) (gl:rh K dX k7=true) (bl:Cj K bltL=true)
 (g:PySem.W.nsIn K mainGlobals "Have" = some (some (.ref cH))) (LJ:(clsIn K cH fldL&&PySem.W.makesIn K cH&&PySem.W.keepIn K (.ref cH))=true)
 (LK:PySem.W.nsIn K mainGlobals "Lack" = some (some (.ref cL))) (LL:(clsIn K cL fldL&&PySem.W.makesIn K cL&&PySem.W.keepIn K (.ref cL))=true)
 (LM:PySem.W.nsIn K mainGlobals "Some" = some (some (.ref cS))) (LN:(clsIn K cS fldL&&PySem.W.makesIn K cS&&PySem.W.keepIn K (.ref cS))=true)
 (LO:PySem.W.nsIn K mainGlobals "Lead" = some (some (.ref cD))) (LP:(clsIn K cD fldL&&PySem.W.makesIn K cD&&PySem.W.keepIn K (.ref cD))=true)
 (LQ:PySem.W.nsIn K mainGlobals "Sheet" = some (some (.ref S))) (LR:(clsIn K S Ig&&PySem.W.makesIn K S&&PySem.W.keepIn K (.ref S))=true)
 (LS:PySem.W.nsIn K mainGlobals "Sorting" = some (some (.ref Z))) (LU:(clsIn K Z JQ&&PySem.W.makesIn K Z&&PySem.W.keepIn K (.ref Z))=true)
 (LV:PySem.W.nsIn K mainGlobals "Claims" = some (some (.ref W))) (LW:(clsIn K W Ih&&PySem.W.makesIn K W&&PySem.W.keepIn K (.ref W))=true)
 {b:Addr}{c:Zv}(Kt:DefAt K "law" tG b c)
 (hy:Hyps K cH cL cS cD S Z W),
 ∃fd:FuncData,(∀(s:Shared) (v:Value),BindsTo s fd ⟨[v],[]⟩ [("_law_script",v)])/\∀base:Heap,K.In base->base.Ns mainGlobals mg->FnOk l.prog w K mg base CX0 13 a fd ["_law_script"] (dC K sp)
end K53
section
open PySem PySem.W PyProof.Rows L2 DD
local macro_rules
  | `(tactic| o_head $H:term) => `(tactic| refine holds_open (q := K53.viewQ) (loose := []) (Xt := λs => xlAt K53.viewQ [] s && recOk [] s) (XP := XL K53.viewQ []) (Yf := Hook.obs $H) (Ya := Hook.val $H) (YP := Hook.says $H) (N := 13100) ?$(Lean.mkIdent `hl) (Hook.of $H) (Hook.keeps $H)
      (λs e=>xl_of s (Bool.and_eq_true_iff.mp e).1) XL.keeps (by rfl) (by rfl) (by rfl) (λs e=>recFacts_of (Bool.and_eq_true_iff.mp e).2) (by rfl) (by first | assumption | rfl') (by rfl') ⟨rfl,rfl,rfl,rfl,rfl,by rfl'⟩ ?$(Lean.mkIdent `hw) ?$(Lean.mkIdent `hc))
set_option maxHeartbeats 0 in
theorem K53.over{sp:SpD}(ok:xg 63 sp)(a:K53.Fc sp):PySem.Challenge.rw_notring_k53_what_is_no_paper.Holds:=by
 w_on;refine holds_law K53.said λsaid=>?_;k_head
 (case hl=>exact TopT.Jm K53.seen1 K53.seen2 K53.seen3 K53.seen5 K53.seen6 (λw=>by kernel_rfl))
 (case hw=>w_witness2);k_fill;refine DD.JP (l:=PySem.Challenge.rw_notring_k53_what_is_no_paper) (n:=63) (k:=13) (x:="_law_script") rfl 'a' rfl ⟨rfl,by decide,by decide⟩ ok (λw h Y=>PySem.W.kIn_of Y) ?noL ?defs
 case noL=>intro w;kernel_rfl
 case defs=>
  intro w mg d h b G c;refine' a b G c ?ap ?gl ?bl ?LI ?LJ ?LK ?LL ?LM ?LN ?LO ?LP ?LQ ?LR ?LS ?LU ?LV ?LW (DefAt.mk' ?Kt ?l_44 ?c_44 ?k_44) ⟨⟨_,_,DefAt.mk' ?a_0 ?l_0 ?c_0 ?k_0⟩,⟨_,_,DefAt.mk' ?a_1 ?l_1 ?c_1 ?k_1⟩,⟨_,_,DefAt.mk' ?a_2 ?l_2 ?c_2 ?k_2⟩,⟨_,_,DefAt.mk' ?a_3 ?l_3 ?c_3 ?k_3⟩,⟨_,_,DefAt.mk' ?a_4 ?l_4 ?c_4 ?k_4⟩,⟨_,_,DefAt.mk' ?a_5 ?l_5 ?c_5 ?k_5⟩,⟨_,_,DefAt.mk' ?a_6 ?l_6 ?c_6 ?k_6⟩,⟨_,_,DefAt.mk' ?a_7 ?l_7 ?c_7 ?k_7⟩,⟨_,_,DefAt.mk' ?a_8 ?l_8 ?c_8 ?k_8⟩,⟨_,_,DefAt.mk' ?a_9 ?l_9 ?c_9 ?k_9⟩,⟨_,_,DefAt.mk' ?a_10 ?l_10 ?c_10 ?k_10⟩,⟨_,_,DefAt.mk' ?a_11 ?l_11 ?c_11 ?k_11⟩,⟨_,_,DefAt.mk' ?a_12 ?l_12 ?c_12 ?k_12⟩,⟨_,_,DefAt.mk' ?a_13 ?l_13 ?c_13 ?k_13⟩,⟨_,_,DefAt.mk' ?a_14 ?l_14 ?c_14 ?k_14⟩,⟨_,_,DefAt.mk' ?a_15 ?l_15 ?c_15 ?k_15⟩,⟨_,_,DefAt.mk' ?a_16 ?l_16 ?c_16 ?k_16⟩,⟨_,_,DefAt.mk' ?a_17 ?l_17 ?c_17 ?k_17⟩,⟨_,_,DefAt.mk' ?a_18 ?l_18 ?c_18 ?k_18⟩,⟨_,_,DefAt.mk' ?a_19 ?l_19 ?c_19 ?k_19⟩,⟨_,_,DefAt.mk' ?a_20 ?l_20 ?c_20 ?k_20⟩,⟨_,_,DefAt.mk' ?a_21 ?l_21 ?c_21 ?k_21⟩,⟨_,_,DefAt.mk' ?a_22 ?l_22 ?c_22 ?k_22⟩,⟨_,_,DefAt.mk' ?a_23 ?l_23 ?c_23 ?k_23⟩,⟨_,_,DefAt.mk' ?a_24 ?l_24 ?c_24 ?k_24⟩,⟨_,_,DefAt.mk' ?a_25 ?l_25 ?c_25 ?k_25⟩,⟨_,_,DefAt.mk' ?a_26 ?l_26 ?c_26 ?k_26⟩,⟨_,_,DefAt.mk' ?a_27 ?l_27 ?c_27 ?k_27⟩,⟨_,_,DefAt.mk' ?a_28 ?l_28 ?c_28 ?k_28⟩,⟨_,_,DefAt.mk' ?a_29 ?l_29 ?c_29 ?k_29⟩,⟨_,_,DefAt.mk' ?a_30 ?l_30 ?c_30 ?k_30⟩,⟨_,_,DefAt.mk' ?a_31 ?l_31 ?c_31 ?k_31⟩,⟨_,_,DefAt.mk' ?a_32 ?l_32 ?c_32 ?k_32⟩,⟨_,_,DefAt.mk' ?a_33 ?l_33 ?c_33 ?k_33⟩,⟨_,_,DefAt.mk' ?a_34 ?l_34 ?c_34 ?k_34⟩,⟨_,_,DefAt.mk' ?a_35 ?l_35 ?c_35 ?k_35⟩,⟨_,_,DefAt.mk' ?a_36 ?l_36 ?c_36 ?k_36⟩,⟨_,_,DefAt.mk' ?a_37 ?l_37 ?c_37 ?k_37⟩,⟨_,_,DefAt.mk' ?a_38 ?l_38 ?c_38 ?k_38⟩,⟨_,_,DefAt.mk' ?a_39 ?l_39 ?c_39 ?k_39⟩,⟨_,_,DefAt.mk' ?a_40 ?l_40 ?c_40 ?k_40⟩,⟨_,_,DefAt.mk' ?a_41 ?l_41 ?c_41 ?k_41⟩,⟨_,_,DefAt.mk' ?a_42 ?l_42 ?c_42 ?k_42⟩,⟨_,_,DefAt.mk' ?a_43 ?l_43 ?c_43 ?k_43⟩,⟨_,_,MethAt.mk' ?a_63 ?l_63 ?n_63 ?c_63 ?k_63⟩,⟨_,_,MethAt.mk' ?a_64 ?l_64 ?n_64 ?c_64 ?k_64⟩,⟨_,_,MethAt.mk' ?a_65 ?l_65 ?n_65 ?c_65 ?k_65⟩,⟨_,_,MethAt.mk' ?a_66 ?l_66 ?n_66 ?c_66 ?k_66⟩,⟨_,_,MethAt.mk' ?a_67 ?l_67 ?n_67 ?c_67 ?k_67⟩,⟨_,_,MethAt.mk' ?a_68 ?l_68 ?n_68 ?c_68 ?k_68⟩,⟨_,_,MethAt.mk' ?a_69 ?l_69 ?n_69 ?c_69 ?k_69⟩,⟨_,_,MethAt.mk' ?a_70 ?l_70 ?n_70 ?c_70 ?k_70⟩,⟨_,_,MethAt.mk' ?a_71 ?l_71 ?n_71 ?c_71 ?k_71⟩,⟨_,_,MethAt.mk' ?a_72 ?l_72 ?n_72 ?c_72 ?k_72⟩,⟨_,_,MethAt.mk' ?a_73 ?l_73 ?n_73 ?c_73 ?k_73⟩,⟨_,_,MethAt.mk' ?a_74 ?l_74 ?n_74 ?c_74 ?k_74⟩,⟨_,_,MethAt.mk' ?a_75 ?l_75 ?n_75 ?c_75 ?k_75⟩,⟨_,_,MethAt.mk' ?a_76 ?l_76 ?n_76 ?c_76 ?k_76⟩,⟨_,_,MethAt.mk' ?a_77 ?l_77 ?n_77 ?c_77 ?k_77⟩,⟨_,_,MethAt.mk' ?a_78 ?l_78 ?n_78 ?c_78 ?k_78⟩,⟨_,_,MethAt.mk' ?a_79 ?l_79 ?n_79 ?c_79 ?k_79⟩,⟨_,_,MethAt.mk' ?a_80 ?l_80 ?n_80 ?c_80 ?k_80⟩,⟨_,_,MethAt.mk' ?a_81 ?l_81 ?n_81 ?c_81 ?k_81⟩,⟨_,_,MethAt.mk' ?a_82 ?l_82 ?n_82 ?c_82 ?k_82⟩,⟨_,_,MethAt.mk' ?a_83 ?l_83 ?n_83 ?c_83 ?k_83⟩,⟨_,_,MethAt.mk' ?a_84 ?l_84 ?n_84 ?c_84 ?k_84⟩,⟨_,_,MethAt.mk' ?a_85 ?l_85 ?n_85 ?c_85 ?k_85⟩,⟨_,_,MethAt.mk' ?a_86 ?l_86 ?n_86 ?c_86 ?k_86⟩,⟨_,_,MethAt.mk' ?a_87 ?l_87 ?n_87 ?c_87 ?k_87⟩,⟨_,_,MethAt.mk' ?a_88 ?l_88 ?n_88 ?c_88 ?k_88⟩,⟨_,_,MethAt.mk' ?a_62 ?l_62 ?n_62 ?c_62 ?k_62⟩,⟨_,_,MethAt.mk' ?a_Sheet_row_list ?l_Sheet_row_list ?n_Sheet_row_list ?c_Sheet_row_list ?k_Sheet_row_list⟩,⟨_,_,MethAt.mk' ?a_99 ?l_99 ?n_99 ?c_99 ?k_99⟩,⟨_,_,MethAt.mk' ?a_58 ?l_58 ?n_58 ?c_58 ?k_58⟩,⟨_,_,MethAt.mk' ?a_59 ?l_59 ?n_59 ?c_59 ?k_59⟩,⟨_,_,MethAt.mk' ?a_60 ?l_60 ?n_60 ?c_60 ?k_60⟩,⟨_,_,MethAt.mk' ?a_61 ?l_61 ?n_61 ?c_61 ?k_61⟩,⟨_,_,MethAt.mk' ?a_53 ?l_53 ?n_53 ?c_53 ?k_53⟩,⟨_,_,MethAt.mk' ?a_54 ?l_54 ?n_54 ?c_54 ?k_54⟩,⟨_,_,MethAt.mk' ?a_55 ?l_55 ?n_55 ?c_55 ?k_55⟩,⟨_,_,MethAt.mk' ?a_56 ?l_56 ?n_56 ?c_56 ?k_56⟩,⟨_,_,MethAt.mk' ?a_57 ?l_57 ?n_57 ?c_57 ?Rx⟩⟩
  case LI | LK | LM | LO | LQ | LS | LV | a_0 | l_0 | c_0 | k_0 | a_1 | l_1 | c_1 | k_1 | a_2 | l_2 | c_2 | k_2 | a_3 | l_3 | c_3 | k_3 | a_4 | l_4 | c_4 | k_4 | a_5 | l_5 | c_5 | k_5 | a_6 | l_6 | c_6 | k_6 | a_7 | l_7 | c_7 | k_7 | a_8 | l_8 | c_8 | k_8 | a_9 | l_9 | c_9 | k_9 | a_10 | l_10 | c_10 | k_10 | a_11 | l_11 | c_11 | k_11 | a_12 | l_12 | c_12 | k_12 | a_13 | l_13 | c_13 | k_13 | a_14 | l_14 | c_14 | k_14 | a_15 | l_15 | c_15 | k_15 | a_16 | l_16 | c_16 | k_16 | a_17 | l_17 | c_17 | k_17 | a_18 | l_18 | c_18 | k_18 | a_19 | l_19 | c_19 | k_19 | a_20 | l_20 | c_20 | k_20 | a_21 | l_21 | c_21 | k_21 | a_22 | l_22 | c_22 | k_22 | a_23 | l_23 | c_23 | k_23 | a_24 | l_24 | c_24 | k_24 | a_25 | l_25 | c_25 | k_25 | a_26 | l_26 | c_26 | k_26 | a_27 | l_27 | c_27 | k_27 | a_28 | l_28 | c_28 | k_28 | a_29 | l_29 | c_29 | k_29 | a_30 | l_30 | c_30 | k_30 | a_31 | l_31 | c_31 | k_31 | a_32 | l_32 | c_32 | k_32 | a_33 | l_33 | c_33 | k_33 | a_34 | l_34 | c_34 | k_34 | a_35 | l_35 | c_35 | k_35 | a_36 | l_36 | c_36 | k_36 | a_37 | l_37 | c_37 | k_37 | a_38 | l_38 | c_38 | k_38 | a_39 | l_39 | c_39 | k_39 | a_40 | l_40 | c_40 | k_40 | a_41 | l_41 | c_41 | k_41 | a_42 | l_42 | c_42 | k_42 | a_43 | l_43 | c_43 | k_43 | Kt | l_44 | c_44 | k_44 | a_63 | l_63 | n_63 | c_63 | k_63 | a_64 | l_64 | n_64 | c_64 | k_64 | a_65 | l_65 | n_65 | c_65 | k_65 | a_66 | l_66 | n_66 | c_66 | k_66 | a_67 | l_67 | n_67 | c_67 | k_67 | a_68 | l_68 | n_68 | c_68 | k_68 | a_69 | l_69 | n_69 | c_69 | k_69 | a_70 | l_70 | n_70 | c_70 | k_70 | a_71 | l_71 | n_71 | c_71 | k_71 | a_72 | l_72 | n_72 | c_72 | k_72 | a_73 | l_73 | n_73 | c_73 | k_73 | a_74 | l_74 | n_74 | c_74 | k_74 | a_75 | l_75 | n_75 | c_75 | k_75 | a_76 | l_76 | n_76 | c_76 | k_76 | a_77 | l_77 | n_77 | c_77 | k_77 | a_78 | l_78 | n_78 | c_78 | k_78 | a_79 | l_79 | n_79 | c_79 | k_79 | a_80 | l_80 | n_80 | c_80 | k_80 | a_81 | l_81 | n_81 | c_81 | k_81 | a_82 | l_82 | n_82 | c_82 | k_82 | a_83 | l_83 | n_83 | c_83 | k_83 | a_84 | l_84 | n_84 | c_84 | k_84 | a_85 | l_85 | n_85 | c_85 | k_85 | a_86 | l_86 | n_86 | c_86 | k_86 | a_87 | l_87 | n_87 | c_87 | k_87 | a_88 | l_88 | n_88 | c_88 | k_88 | a_62 | l_62 | n_62 | c_62 | k_62 | a_Sheet_row_list | l_Sheet_row_list | n_Sheet_row_list | c_Sheet_row_list | k_Sheet_row_list | a_99 | l_99 | n_99 | c_99 | k_99 | a_58 | l_58 | n_58 | c_58 | k_58 | a_59 | l_59 | n_59 | c_59 | k_59 | a_60 | l_60 | n_60 | c_60 | k_60 | a_61 | l_61 | n_61 | c_61 | k_61 | a_53 | l_53 | n_53 | c_53 | k_53 | a_54 | l_54 | n_54 | c_54 | k_54 | a_55 | l_55 | n_55 | c_55 | k_55 | a_56 | l_56 | n_56 | c_56 | k_56 | a_57 | l_57 | n_57 | c_57 | Rx=>k_is
  case ap | gl | bl | LJ | LL | LN | LP | LR | LU | LW=>kernel_rfl
end
namespace DD
open PySem PySem.Spec PyProof.Rows L2
theorem vf{P:Zw}{w:World}{k:Key}{u:Value}(h:(bx P w).is k u=true):RelV (kV k) u:=by
 rw[As] at h;rcases bI h with⟨i,t,rfl,rfl⟩ | ⟨x,t,rfl,rfl⟩
 ·exact⟨t,rfl⟩
 ·exact⟨t,rfl⟩
def Itd(a:Addr)(u:Obj)(b:List (Key×V)):It:=
 ⟨λi H=>H a=some (.frz u (.dK b))/\i<b.length,λi H x H'=>H'=H/\∃kv,b[i]?=some kv/\x=kV kv.1,λi H=>H a=some (.frz u (.dK b))/\b.length<=i⟩
theorem nP{X:Cx}{pins:Zc}{σ:L2.St}{H:Hp}{s:Shared}{a:Addr}{u:Obj}{b:List (Key×V)}(I:Inv X pins σ H s)(h:H a=some (.frz u (.dK b))):
  (a==sysModules)=false/\b.length<=sizeLine/\∃vs es c,KV b vs/\u.data=.dict es c/\s.heap.DictAt (bx X.prog X.w) a vs c:=by
 obtain⟨d,hz,hd,vs,f,o,es,c,ho,r⟩:=(show a0 X.prog X.w H s.heap a (.frz u (.dK b)) from I.hok a _ h);have e:o=u:=by rw[d] at ho;cases ho;rfl
 subst e;exact⟨hd,hz,vs,es,c,f,r.2.1,o,es,ho,r⟩
theorem Cl{P:Zw}{w:World}{K:Za}{tg:Expr}(a it:Addr){u:Obj}{j:List (Key×V)}{es:Array DictEntry}{l:Nat}(hu:u.data=.dict es l):
  Turn P w K tg (Itd a u j) [it] it (λi h=>h.IsKeyIter it a i j.length l) where
 mem:=by simp
 obj:=λi h st b hb=>by
  have e:b=it:=by simpa using hb
  subst e;obtain⟨o,e,c,d⟩:=st;exact⟨o,e,λv z=>by rw[d] at z;cases z⟩
 keep:=λi h h' st k=>st.at λo e=>k it (by simp) o e
 item:=by
  rw[0];obtain⟨hq,hi⟩:=hg;obtain⟨hd,hz,vs,J,m,f,g,hm⟩:=nP I hq;have n:m=l:=by rw[hu] at g;cases g;rfl
  subst n;obtain⟨⟨k,x⟩,hx,L⟩:=cB f (ZC hi);obtain⟨p,r,O,y,A,B⟩:=hf it (by simp);rw[f.length] at st;refine wpAny_pyNext_dict_item st hm hx λC h' R G S=>?_
  have T:Inv X pins σ H { s with heap:=h' }:=I.turned (t':=s.toks) (λb o hb e=>(S.2 b hb).trans e) p r y A B;obtain⟨o,e,c,d⟩:=id G;rw[←f.length] at G;have U:j[i].1=k:=L.1;exact⟨C,rfl,qY (s:={ s with heap:=h' }) e c d 'a' ⟨kV k,H,T,vf R,⟨rfl,j[i],ZC hi,by rw[U]⟩,G,λb hb=>(hf b hb).1⟩⟩
 done:=by
  rw[0];obtain⟨hq,hi⟩:=hg;obtain⟨hd,hz,vs,J,m,f,g,hm⟩:=nP I hq;have n:m=l:=by rw[hu] at g;cases g;rfl
  subst n;obtain⟨p,r,O,y,A,B⟩:=hf it (by simp);rw[f.length] at st;have hx:vs[i]?=none:=by rw[List.getElem?_eq_none_iff,←f.length];exact hi
  exact wpAny_pyNext_dict_end (I.ok.hd hc) st hm hx λh' W=>⟨rfl,I.turned (t':=s.toks) (λb o hb e=>W b o hb e) p r y A B⟩
 self:=λ_ _ _ _ _ st h=>wpAny_pyIter_keyiter st h
section
variable {X:Cx}{ρ:L2.St}{H:Hp}
theorem zN{pins:Zc}{s:Shared}{tg:Expr}{a:Addr}{u:Obj}{c:List (Key×V)}{R:It->Hp->Prop}(I:Inv X pins ρ H s)(hq:H a=some (.frz u (.dK c)))(q:R (Itd a u c) H):
  wpAny 'c' X.A (pyIter (.ref a)) (PIE X pins ρ tg R) X.xe s:=by
 obtain⟨hd,hz,vs,es,f,d,hu,hm⟩:=nP I hq;refine wpAny_pyIter_dict hd hm ?_;refine⟨s.heap.objs.size,[s.heap.objs.size],_,_,H,rfl,I.kept (t':=s.toks) λb o e=>Yd _ e,Cl a _ hu,⟨_,Yg _ rfl,rfl,by rw[d.length];rfl⟩,λb hb=>?_,q⟩;have e:b=s.heap.objs.size:=by simpa using hb
 subst e;exact I.fpOk (YE _) (I.hok.fresh (YE _))
theorem freeze{pins:Zc}{s:Shared}{a:Addr}{c:List (Key×V)}(I:Inv X pins ρ H s)(hq:H a=some (.dK c)):∃u,Inv X pins ρ (upd H a (.frz u (.dK c))) s:=by
 obtain⟨hz,hd,vs,f,d⟩:=(show a0 X.prog X.w H s.heap a (.dK c) from I.hok a _ hq);obtain⟨o,es,g,ho,r⟩:=id d;refine⟨o,?_⟩
 have:=I.write (x:=a) (e:=a) (o:=.frz o (.dK c)) (h':=s.heap) (t':=s.toks) (by rw[hq];exact trivial) (.inl rfl) (λb u _ e=>e) ⟨_,ho⟩ ⟨ho,hz,hd,vs,f,d⟩
 exact this
end
structure EndsD where
 nx:DS->MH->Prop
 rt:DK
 bk:DS->MH->Prop:=λ_ _=>False
 ct:DS->MH->Prop:=λ_ _=>False
abbrev WS:=EndsD->DS->MH->Prop
def tH(K:Za)(H:Hp)(n:DS->MH->Prop):L2.St->Hp->Prop:=λb H'=>Kp H H'/\∃a M',RS K H' a b/\RM K M' H'/\n a M'
def xh(K:Za)(H:Hp)(D:EndsD):Ends:={ nx:=tH K H D.nx,rt:=lift K H D.rt,bk:=tH K H D.bk,ct:=tH K H D.ct }
structure EImp (D D':Ends):Prop where
 nx:∀ρ H,D.nx ρ H->D'.nx ρ H
 rt:∀v H,D.rt v H->D'.rt v H
 bk:∀ρ H,D.bk ρ H->D'.bk ρ H
 ct:∀ρ H,D.ct ρ H->D'.ct ρ H
section
variable {X:Cx}{st:Stmt}{Kx:Zu}{ρ:L2.St}{H H':Hp}{pos:Pos}{e:Expr}
theorem lI{K:Za}{n:DS->MH->Prop}{a:L2.St}{b:Hp}(k:Kp H H')(h:tH K H' n a b):tH K H n a b:=⟨k.trans h.1,h.2⟩
theorem sw{K:Za}{D:EndsD}(k:Kp H H'):EImp (xh K H' D) (xh K H D):=⟨λ_ _=>lI k,λ_ _=>bX k,λ_ _=>lI k,λ_ _=>lI k⟩
theorem SP.imp{pins:Zc}{D D':Ends}{f:Flow}{g:Shared}(i:EImp D D')(h:SP X pins D f g):SP X pins D' f g:=by
 cases f with
 |next=>obtain⟨a,b,c,d⟩:=h;exact⟨a,b,c,i.nx _ _ d⟩
 |brk=>obtain⟨a,b,c,d⟩:=h;exact⟨a,b,c,i.bk _ _ d⟩
 |cont=>obtain⟨a,b,c,d⟩:=h;exact⟨a,b,c,i.ct _ _ d⟩
 |ret u=>obtain⟨v,a,b,c,r,d⟩:=h;exact⟨v,a,b,c,r,i.rt _ _ d⟩
def tWSs(X:Cx)(Kx:Zu):L2.TS:=λD ρ H=>∀pins s,Inv X pins ρ H s->wpAny 'c' X.A (execs Kx X.env) (SP X pins D) X.xe s
theorem ps_W(st:Stmt):PS X st (tWS X st):=λpins s _ _ _ I h=>h pins s I
theorem oY(Kx:Zu):PSs X Kx (tWSs X Kx):=λpins s _ _ _ I h=>h pins s I
theorem eg{t:L2.TS}{D:Ends}(h:PS X st t)(q:t D ρ H):tWS X st D ρ H:=λpins s I=>h pins s ρ H D I q
theorem zO{t:L2.TS}{D:Ends}(h:PSs X Kx t)(q:t D ρ H):tWSs X Kx D ρ H:=λpins s I=>h pins s ρ H D I q
theorem DY{D D':Ends}(h:tWS X st D ρ H)(i:EImp D D'):tWS X st D' ρ H:=λpins s I=>thn (h pins s I) λ_ _ q=>SP.imp i q
theorem et{D D':Ends}(h:tWSs X Kx D ρ H)(i:EImp D D'):tWSs X Kx D' ρ H:=λpins s I=>thn (h pins s I) λ_ _ q=>SP.imp i q
def PSd(X:Cx)(st:Stmt)(t:WS):Prop:=∀σ M ρ H D,RS X.K H σ ρ->RM X.K M H->t D σ M->tWS X st (xh X.K H D) ρ H
def PSsd(X:Cx)(Kx:Zu)(t:WS):Prop:=∀σ M ρ H D,RS X.K H σ ρ->RM X.K M H->t D σ M->tWSs X Kx (xh X.K H D) ρ H
def tI:WS:=λD σ M=>D.nx σ M
def wSeq(t u:WS):WS:=λD σ M=>t { D with nx:=u D } σ M
theorem DZ:PSsd X [] tI:=λσ M ρ H D rs a q=>zO Fw ⟨Kp.refl H,σ,M,rs,a,q⟩
theorem Cm{t u:WS}(h:PSd X st t)(h':PSsd X Kx u):PSsd X (st::Kx) (wSeq t u):=by
 intro σ M ρ H D rs a q;refine zO (Dy (ps_W st) (oY Kx)) ?_;show tWS X st _ ρ H;refine DY (h σ M ρ H _ rs a q) ⟨λb H' c=>?_,λ_ _ z=>z,λ_ _ z=>z,λ_ _ z=>z⟩;obtain⟨k,d,M',f,g,j⟩:=c;exact et (h' d M' b H' D f g j) (sw k)
def wRet(t:WE):WS:=λD σ M=>t σ M D.rt
theorem Go{t:WE}(h:PEd X e t):PSd X (.Return (some e) pos) (wRet t):=λσ M ρ H D rs a q=>eg (Hs (pe_W e)) (h σ M ρ H _ rs a q)
theorem D1:PSd X (.Pass pos) tI:=λσ M ρ H D rs a q=>eg Fx ⟨Kp.refl H,σ,M,rs,a,q⟩
theorem Co:PSd X st (λ_ _ _=>False):=λ_ _ _ _ _ _ _ q=>Yh q
def dL:Expr->Bool
 |.ListComp _ _ _ _=>false
 |.SetComp _ _ _ _=>false
 |.DictComp _ _ _ _ _=>false
 |_=>true
theorem tJ{t:Option Expr}{n:Nat}{env:Env}(h:dL e=true):swapsWith e t n env=pure false:=by
 cases e<;>first | rfl | (exact absurd (show false=true from h) YC)
def AO(t:WE):WS:=λD σ M=>t σ M λ_ M1=>D.nx σ M1
theorem D2{t:WE}(h:PEd X e t)(hc:dL e=true):PSd X (.Expr e pos) (AO t):=by
 intro σ M ρ H D rs b q;refine eg (Fy (pe_W e) (tJ hc)) ?_;show tW X e ρ H _;refine aN (h σ M ρ H _ rs b q) λv g c=>?_
 obtain⟨a,x,M1,j,d,f⟩:=c;exact⟨a,σ,M1,rs.mono a,d,f⟩
def wSet(i:Nat)(t:WE):WS:=λD σ M=>t σ M λx M1=>D.nx (σ.set i (some x)) M1
def wIfS(c:WT)(t u:WS):WS:=λD σ M=>c σ M λb M1=>Bif b (t D σ M1) (u D σ M1)
theorem Ii{c:Expr}{a b:Zu}{tc:WT}{t u:WS}(hc:PTd X c tc)(ha:PSsd X a t)(hb:PSsd X b u):PSd X (.If c a b pos) (wIfS tc t u):=by
 intro σ M ρ H D rs l q;refine eg (Ju (pt_W c) (oY a) (oY b)) ?_;show tWT X c ρ H _;refine gC (hc σ M ρ H _ rs l q) λk f m=>?_
 obtain⟨d,M1,g,j⟩:=m;cases k with
 |true=>exact et (ha σ M1 ρ f D (rs.mono d) g j) (sw d)
 |false=>exact et (hb σ M1 ρ f D (rs.mono d) g j) (sw d)
inductive Tgt where
 |nm (i:Nat) | tp (is:Zj)
def gsOf:List Nat->TGs
 |[]=>gNil
 |i::is=>E5 (xa i) (gsOf is)
section
variable {prog:Zw}{w:World}{A:Around}{E:Zb}
theorem xE{it l:Addr}{d_:Zl}(ne:l≠it):∀(n i:Nat) (s:Shared) (Q:List Value->Shared->Prop),s.heap.IsListIter it l i->s.heap.IsList l d_->i+n<=d_.size ->
  (∀h',h'.IsListIter it l (i+n)->Heap.SameBut it s.heap h'->Q ((d_.toList.drop i).take n) { s with heap:=h' })->wpAny (model prog w) A (draw (.ref it) n) Q E s
 |0,i,s,Q,hi,_,_,q=>by
  rw[draw];exact Yc (by simpa using q s.heap hi (Heap.SameBut.refl ..))
 |n+1,i,s,Q,hi,hl,le,q=>by
  have lt:i<d_.size:=by omega
  rw[draw];refine Yb (wpAny_pyNext_list_item hi hl (x:=d_[i]) (by simp[lt]) λd a s1=>?_);refine Yb (Yj (xE ne n (i+1) _ _ a (hl.extBut s1.extBut ne) 'b' λb c s2=>Yc ?_));have e:d_.toList.drop i=d_[i]::d_.toList.drop (i+1):=by simp[List.drop_eq_getElem_cons,lt]
  have r:=q b (by rw[show i+(n+1)=i+1+n by omega];exact c) (s1.trans s2);rw[e,List.take_succ_cons] at r;exact r
theorem AQ{s:Shared}{l:Addr}{d_:Zl}{ts:List (Bool×(Value->Sem Unit))}{Q:Zo}(a:A.handled=none)(hl:s.heap.IsList l d_)(hn:ts.length=d_.size)(c:ts.findIdx? (·.1)=none)
  (h:∀h',Heap.ExtBut s.heap.objs.size s.heap h'->wpAny (model prog w) A (assignInOrder (ts.map (·.2)) d_.toList) Q E { s with heap:=h' }):wpAny (model prog w) A (unpack (.ref l) ts) Q E s:=by
 have ne:l≠s.heap.objs.size:=by obtain⟨o,ho,_⟩:=hl;exact ZT (Ye ho)
 unfold unpack;rw[hn,c];refine Yb (Yj ?_);unfold unpackItems;refine Yb ?_;unfold notIterableAtAll;refine Yb (wpAny_specialOf hl.typeIs slot_list_iter.lookup (Yc ?_));simp only[XE,if_false];refine Yb (Yj (wpAny_pyIter_list hl ?_));refine Yb (Yj (xE ne d_.size 0 _ _ ⟨_,Yg _ rfl,rfl,rfl⟩ (hl.push _) 'b' λj d s1=>?_));have e:List.take d_.size (List.drop 0 d_.toList)=d_.toList:=by rw[List.drop_zero];exact List.take_of_length_le (by simp)
 rw[e,if_neg (by simp)];refine Yb (Yj (wpAny_pyNext_list_end a d ((hl.push _).extBut s1.extBut ne) (by simp) λf g=>?_));simp only[Option.isSome_none,XE,if_false];exact Yc (h f λb o hb z=>g b o hb (s1.extBut b o hb (Yd _ z)))
end
def gSeq(K:Za)(n:Nat)(t:TGs):TG:=λv σ H Q=>∃a xs,v=.ref a/\(SqT K H a xs\/SqL K H a xs)/\xs.length=n/\t xs σ H Q
theorem Ij{X:Cx}{pos:Pos}{es:Zg}{k:Nat}{t:TGs}{n:Nat}(hc:X.calm=true)(h:PGs X es t)(hn:(assignEach es X.env).length=n)(c:(assignEach es X.env).findIdx? (·.1)=none):PG X (.Tuple es k pos) (gSeq X.K n t):=by
 intro pins s σ H v u Q I r hw;obtain⟨a,xs,d,hq | hq,hl,hw⟩:=hw
 ·exact Ht hc h hn c pins s σ H v u Q I r ⟨a,xs,d,hq,hl,hw⟩
 ·subst d
  cases r;obtain⟨d_,f,ht,hz⟩:=I.list hq;rw[PyProof.Rows.assign_Tuple];refine Yb (Yk (AQ (I.ok.hd hc) ht.isList (by simp[hn,←hl,f.length]) c λh' hx=>?_));have g:Inv X pins σ H { s with heap:=h' }:=I.kept (t':=s.toks) λb o e=>hx b o (ZT (Ye e)) e
  exact h pins _ σ H xs _ Q g (by simpa using f) hw
def gOf(K:Za):Tgt->TG
 |.nm i=>xa i
 |.tp is=>gSeq K is.length (gsOf is)
def setM:List Nat->List D->DS->DS
 |i::is,d::ds,σ=>setM is ds (σ.set i (some d))
 |_,_,σ=>σ
def rj:Tgt->D->DS->(DS->Prop)->Prop
 |.nm i,d,σ,Q=>Q (σ.set i (some d))
 |.tp is,.tup ds,σ,Q=>ds.length=is.length/\Q (setM is ds σ)
 |.tp _,_,_,_=>False
theorem vg{K:Za}:∀(is:Zj) (ds:List D) (vs:List V) (σ:DS) (ρ:L2.St) (H:Hp) (Q:L2.St->Hp->Prop),RVs K H ds vs->RS K H σ ρ->ds.length=is.length ->
  (∀a,RS K H (setM is ds σ) a->Q a H)->gsOf is vs ρ H Q
 |[],[],vs,σ,ρ,H,Q,r,rs,_,q=>by rw[RVs] at r;subst r;exact⟨rfl,q ρ rs⟩
 |i::is,d::ds,vs,σ,ρ,H,Q,r,rs,l,q=>by
  rw[RVs] at r;obtain⟨v,b,rfl,c,f⟩:=r;exact⟨v,b,rfl,vg is ds b (σ.set i (some d)) (ρ.set i (some v)) H Q f (rs.set i c) (by simpa using l) q⟩
theorem xF{K:Za}{t:Tgt}{d:D}{v:V}{σ:DS}{ρ:L2.St}{H:Hp}{Q:L2.St->Hp->Prop}{c:DS->Prop}(r:RV K H d v)(rs:RS K H σ ρ)(h:rj t d σ c)(f:∀b g,RS K H g b->c g->Q b H):gOf K t v ρ H Q:=by
 cases t with
 |nm i=>exact f _ _ (rs.set i r) h
 |tp is=>
  cases d with
  |tup ds=>
   obtain⟨a,xs,rfl,s,j⟩:=RV.tup_.1 r;exact⟨a,xs,rfl,.inl s,by rw[←j.len];exact h.1,vg is ds xs σ ρ H Q j rs h.1 λb k=>f b _ k h.2⟩
  |_=>exact Yh h
def PGd(X:Cx)(tg:Expr)(t:Tgt):Prop:=PG X tg (gOf X.K t)
theorem RM.list{K:Za}{H:Hp}{M:MH}{a:Addr}{ds:List D}(m:RM K M H)(h:rdL (M a)=some ds):∃vs,SqL K H a vs/\RVs K H ds vs:=by
 cases e:M a with
 |none=>rw[e] at h;cases h
 |some o=>
  rw[e] at h;cases o with
  |lst xs=>cases h;obtain⟨vs,q,r⟩:=m a _ e;exact⟨vs,SqL.of q,r⟩
  |rol xs=>cases h;obtain⟨vs,q,r⟩:=m a _ e;exact⟨vs,.inl q,r⟩
  |_=>cases h
def AR(t:Tgt)(d:D)(M:MH)(σ:DS)(Q:DS->Prop):Prop:=match d with
 |.ref a=>match t with
  |.nm i=>Q (σ.set i (some (.ref a)))
  |.tp is=>match rdL (M a) with
   |some ds=>ds.length=is.length/\Q (setM is ds σ)
   |none=>False
 |d=>rj t d σ Q
theorem Gp{K:Za}{t:Tgt}{d:D}{v:V}{M:MH}{σ:DS}{ρ:L2.St}{H:Hp}{Q:L2.St->Hp->Prop}{c:DS->Prop}(r:RV K H d v)(rs:RS K H σ ρ)(m:RM K M H)(h:AR t d M σ c)(f:∀b g,RS K H g b->c g->Q b H):gOf K t v ρ H Q:=by
 cases d with
 |ref a=>
  cases t with
  |nm i=>exact f _ _ (rs.set i r) h
  |tp is=>
   have h:match rdL (M a) with | some ds=>ds.length=is.length/\c (setM is ds σ) | none=>False:=h
   split at h
   ·rename_i ds e
    obtain⟨vs,sq,j⟩:=m.list e;cases RV.ref_.1 r;exact⟨a,vs,rfl,.inr sq,by rw[←j.len];exact h.1,vg is ds vs σ ρ H Q j rs h.1 λb k=>f b _ k h.2⟩
   ·exact Yh h
 |_=>exact xF r rs h f
def wAsg(t:WE)(g:Tgt):WS:=λD σ M=>t σ M λx M1=>AR g x M1 σ λa=>D.nx a M1
theorem Gq{tg:Expr}{t:WE}{g:Tgt}(h:PEd X e t)(hg:PGd X tg g)(c:swapsWithSole [tg] e pos.line X.env=pure false)(hw:swappedStores [tg] e X.env=pure none)(d:(assignEach [tg] X.env).map (·.2)=[assign tg X.env]):PSd X (.Assign [tg] e pos) (wAsg t g):=by
 intro σ M ρ H D rs f q;refine eg (BG (pe_W e) hg c hw d) ?_;show tW X e ρ H _;refine aN (h σ M ρ H _ rs f q) λv p j=>?_
 obtain⟨a,x,M1,k,b,l⟩:=j;exact Gp k (rs.mono a) b l λr m n o=>⟨a,m,M1,n,b,o⟩
abbrev WI:=DS->MH->(List D->(MH->Prop)->MH->Prop)->Prop
def JOk(K:Za)(J:It)(a:Hp)(xs:List D)(g:MH->Prop):Prop:=∀i H M,Kp a H->RM K M H->g M->(i<xs.length->J.go i H)/\(i=xs.length->J.stop i H)/\∀x H' d,xs[i]?=some d->J.yld i H x H'->Kp H H'/\RM K M H'/\RV K H' d x
def iW(X:Cx)(tg a:Expr):TI:=λρ H R=>∀pins s,Inv X pins ρ H s->wpAny 'c' X.A (eval a X.env) (λv s1=>wpAny 'c' X.A (pyIter v) (PIE X pins ρ tg R) X.xe s1) X.xe s
theorem pi_W(tg a:Expr):PI X tg a (iW X tg a):=λpins s _ _ _ I h=>h pins s I
theorem JR{tg a:Expr}{t:TI}{R:It->Hp->Prop}(h:PI X tg a t)(q:t ρ H R):iW X tg a ρ H R:=λpins s I=>h pins s ρ H R I q
theorem vh{tg a:Expr}{R b:It->Hp->Prop}(h:iW X tg a ρ H R)(f:∀J H',R J H'->b J H'):iW X tg a ρ H b:=λpins s I=>thn (h pins s I) λ_ _ q=>thn q λ_ _ ⟨it,fp,tn,J,H',e,c,T,st,d,r⟩=>⟨it,fp,tn,J,H',e,c,T,st,d,f J H' r⟩
def IEnd(K:Za)(H:Hp)(R:List D->(MH->Prop)->MH->Prop):It->Hp->Prop:=λJ H'=>Kp H H'/\∃xs g M',RM K M' H'/\g M'/\JOk K J H' xs g/\xs.length<=sizeLine/\R xs g M'
def PId(X:Cx)(tg a:Expr)(t:WI):Prop:=∀σ M ρ H R,RS X.K H σ ρ->RM X.K M H->t σ M R->iW X tg a ρ H (IEnd X.K H R)
def kD:Key->D
 |.inl i=>.int i
 |.inr x=>.str x
def keysOf(a:ZB):List D:=a.map λkv=>kD kv.1
theorem Fd{K:Za}{H:Hp}(k:Key):RV K H (kD k) (kV k):=by
 cases k with
 |inl i=>exact RV.int_.2 rfl
 |inr x=>exact RV.str_.2 rfl
theorem xG{K:Za}{a:Addr}{u:Obj}{b:ZB}{f:List (Key×V)}{j:Hp}(e:j a=some (.frz u (.dK f)))(hk:f.map (·.1)=b.map (·.1))(g:MH->Prop):JOk K (Itd a u f) j (keysOf b) g:=by
 intro i H M k m _;have hl:f.length=b.length:=by have:=congrArg List.length hk;simpa using this
 have e':=k.2 a _ _ e;have hn:(keysOf b).length=b.length:=by unfold keysOf;rw[ZE]
 rw[hn];refine⟨λhi=>⟨e',by omega⟩,λhi=>⟨e',by omega⟩,λx H' d hd n=>?_⟩;obtain⟨o,kv,r,y⟩:=n;subst o y;unfold keysOf at hd;rw[ZF] at hd;have c:(b[i]?).map (·.1)=some kv.1:=by
  have:=congrArg (λl=>l[i]?) hk
  simp only[ZF,r] at this;rw[←this];rfl
 cases q:b[i]? with
 |none=>rw[q] at c;cases c
 |some p=>
  rw[q] at c hd;cases hd;have c:p.1=kv.1:=by simpa using c
  refine⟨Kp.refl _,m,?_⟩;show RV K _ (kD p.1) _;rw[c];exact Fd _
def seqD(x:D)(M:MH)(R:List D->(MH->Prop)->MH->Prop):Prop:=match x with
 |.tup ds=>R ds (λ_=>True) M
 |.ref a=>match M a with
  |some (.lst ds)=>R ds (λM'=>M' a=some (.lst ds)) M
  |some (.rol ds)=>R ds (λM'=>M' a=some (.rol ds)) M
  |some (.dic b)=>R (keysOf b) (λM'=>M' a=some (.rod b)) (updM M a (.rod b))
  |some (.rod b)=>R (keysOf b) (λM'=>M' a=some (.rod b)) M
  |_=>False
 |.str z=>z.cps.size<=sizeLine/\R (z.cps.toList.map λc=>.str ⟨#[c]⟩) (λ_=>True) M
 |_=>False
theorem xH{K:Za}{a:Addr}{ds:List D}{f:Hp}{g:MH->Prop}(hg:∀H M,RM K M H->g M->∃vs,SqL K H a vs/\RVs K H ds vs):JOk K (Itl K a) f ds g:=by
 intro i H M _ c q;obtain⟨vs,sq,b⟩:=hg H M c q;refine⟨λhi=>?_,λhi=>⟨vs,sq,by rw[←b.len];exact Nat.le_of_eq hi.symm⟩,λx H' d hd ⟨e,y⟩=>?_⟩
 ·have:i<vs.length:=by rw[←b.len];exact hi
  exact⟨vs,vs[i],sq,ZC this⟩
 ·subst e
  obtain⟨v,j,r⟩:=cB b.p hd
  have:=y vs sq
  rw[j] at this;cases this;exact⟨Kp.refl _,c,r⟩
theorem Gr{K:Za}{a:Addr}{ds:List D}{vs:List V}{c:Hp}(sq:SqT K c a vs)(b:RVs K c ds vs):JOk K (Itt K a) c ds (λ_=>True):=by
 intro i H M k f _;have sq:=k.sq sq;have b:=RVs.mono k _ b;refine⟨λhi=>?_,λhi=>⟨vs,sq,by rw[←b.len];exact Nat.le_of_eq hi.symm⟩,λx H' d hd ⟨e,y⟩=>?_⟩
 ·have:i<vs.length:=by rw[←b.len];exact hi
  exact⟨vs,vs[i],sq,ZC this⟩
 ·subst e
  obtain⟨v,g,r⟩:=cB b.p hd
  have:=y vs sq
  rw[g] at this;cases this;exact⟨Kp.refl _,f,r⟩
theorem Gs{K:Za}{z:Str}{a:Hp}:JOk K (Its z) a (z.cps.toList.map λc=>.str ⟨#[c]⟩) (λ_=>True):=by
 intro i H M k b _;rw[ZE];refine⟨λhi=>?_,λhi=>?_,λx H' d hd ⟨e,c,hc,y⟩=>?_⟩
 ·show i<z.cps.size
  simpa using hi
 ·show i=z.cps.size
  simpa using hi
 ·subst e y
  rw[ZF] at hd;have:z.cps.toList[i]?=some c:=by simpa using hc
  rw[this] at hd;cases hd;exact⟨Kp.refl _,b,RV.str_.2 rfl⟩
def AS(t:WE):WI:=λσ M R=>t σ M λx M1=>seqD x M1 R
theorem zP{pins:Zc}{s:Shared}{tg:Expr}{a:Addr}{xs:List V}{R:It->Hp->Prop}(I:Inv X pins ρ H s)(hq:SqL X.K H a xs)(q:R (Itl X.K a) H):wpAny 'c' X.A (pyIter (.ref a)) (PIE X pins ρ tg R) X.xe s:=by
 obtain⟨d_,c,p,hz⟩:=I.list hq;refine wpAny_pyIter_list p.isList ?_;refine⟨s.heap.objs.size,[s.heap.objs.size],_,_,H,rfl,I.kept (t':=s.toks) λb o e=>Yd _ e,BH a _,⟨_,Yg _ rfl,rfl,rfl⟩,λb hb=>?_,q⟩;have e:b=s.heap.objs.size:=by simpa using hb
 subst e;exact I.fpOk (YE _) (I.hok.fresh (YE _))
theorem Ik{pins:Zc}{s:Shared}{tg:Expr}{a:Addr}{xs:List V}{R:It->Hp->Prop}(I:Inv X pins ρ H s)(hq:SqT X.K H a xs)(q:R (Itt X.K a) H):wpAny 'c' X.A (pyIter (.ref a)) (PIE X pins ρ tg R) X.xe s:=by
 obtain⟨d_,c,p,hz⟩:=I.tuple hq;refine wpAny_pyIter_tuple (show s.heap.IsTuple a d_.toArray from p) ?_;refine⟨s.heap.objs.size,[s.heap.objs.size],_,_,H,rfl,I.kept (t':=s.toks) λb o e=>Yd _ e,At a _,⟨_,Yg _ rfl,rfl,rfl⟩,λb hb=>?_,q⟩;have e:b=s.heap.objs.size:=by simpa using hb
 subst e;exact I.fpOk (YE _) (I.hok.fresh (YE _))
theorem Il{pins:Zc}{s:Shared}{tg:Expr}{z:Str}{t:Tok}{R:It->Hp->Prop}(I:Inv X pins ρ H s)(q:R (Its z) H):wpAny 'c' X.A (pyIter (.str z t)) (PIE X pins ρ tg R) X.xe s:=by
 have fp:∀b∈[s.heap.objs.size],FpOk X pins H b:=λb hb=>by
  have e:b=s.heap.objs.size:=by simpa using hb
  subst e;exact I.fpOk (YE _) (I.hok.fresh (YE _))
 cases ha:z.cps.all (· < 128)
 ·refine wpAny_pyIter_wide ha ?_
  exact⟨s.heap.objs.size,[s.heap.objs.size],_,_,H,rfl,I.kept (t':=s.toks) λb o e=>Yd _ e,Cb _ z t,⟨_,Yg _ rfl,rfl,rfl⟩,fp,q⟩
 ·refine wpAny_pyIter_ascii ha ?_
  exact⟨s.heap.objs.size,[s.heap.objs.size],_,_,H,rfl,I.kept (t':=s.toks) λb o e=>Yd _ e,Ca _ z t,⟨_,Yg _ rfl,rfl,rfl⟩,fp,q⟩
theorem Gu{l tg:Expr}{t:WE}(h:PEd X l t):PId X tg l (AS t):=by
 intro σ M ρ H R rs L q pins s I;refine thn (h σ M ρ H _ rs L q pins s I) λu s1 O=>?_
 obtain⟨v,P,g,r,⟨n,d,M1,y,j,f⟩⟩:=O;cases d with
 |tup ds=>
  obtain⟨a,xs,rfl,sq,k⟩:=RV.tup_.1 y;cases r;obtain⟨_,_,_,hz⟩:=g.tuple sq;exact Ik g sq ⟨n,ds,_,M1,j,trivial,Gr sq k,by rw[k.len];exact hz,f⟩
 |ref a=>
  cases RV.ref_.1 y;cases r;have f:match M1 a with
   |some (.lst ds)=>R ds (λM'=>M' a=some (.lst ds)) M1
   |some (.rol ds)=>R ds (λM'=>M' a=some (.rol ds)) M1
   |some (.dic c)=>R (keysOf c) (λM'=>M' a=some (.rod c)) (updM M1 a (.rod c))
   |some (.rod c)=>R (keysOf c) (λM'=>M' a=some (.rod c)) M1
   |_=>False:=f
  split at f
  ·rename_i ds e
   obtain⟨xs,b,k⟩:=j a _ e;obtain⟨_,_,_,hz⟩:=g.list (SqL.of b);refine zP g (SqL.of b) ⟨n,ds,_,M1,j,e,xH λH' M' A g'=>?_,by rw[k.len];exact hz,f⟩;obtain⟨B,e',C⟩:=A a _ g';exact⟨B,SqL.of e',C⟩
  ·rename_i ds e
   obtain⟨xs,b,k⟩:=j a _ e;have b:SqL X.K P a xs:=.inl b;obtain⟨_,_,_,hz⟩:=g.list b;refine zP g b ⟨n,ds,_,M1,j,e,xH λH' M' A g'=>?_,by rw[k.len];exact hz,f⟩;obtain⟨B,e',C⟩:=A a _ g';exact⟨B,.inl e',C⟩
  ·rename_i c e
   obtain⟨o,b,p,k⟩:=j a _ e;obtain⟨u,G⟩:=freeze g b;have J:=Kp.put (o':=.frz u (.dK o)) b trivial;have S:=j.put (m:=.rod c) b trivial (o':=.frz u (.dK o)) ⟨u,o,aG,p,RVs.mono J _ k⟩;refine zN G aG ⟨n.trans J,keysOf c,_,_,S,aa,xG aG p _,?_,f⟩;obtain⟨_,hz,_⟩:=nP G aG;have hl:o.length=c.length:=by have:=congrArg List.length p;simpa using this
   unfold keysOf;rw[ZE];omega
  ·rename_i c e
   obtain⟨u,o,b,p,k⟩:=j a _ e;refine zN g b ⟨n,keysOf c,_,M1,j,e,xG b p _,?_,f⟩;obtain⟨_,hz,_⟩:=nP g b;have hl:o.length=c.length:=by have:=congrArg List.length p;simpa using this
   unfold keysOf;rw[ZE];omega
  ·exact Yh f
 |str z=>
  cases RV.str_.1 y;obtain⟨t,rfl⟩:=r;exact Il g ⟨n,_,_,M1,j,trivial,Gs,by rw[ZE];simpa using f.1,f.2⟩
 |_=>exact Yh f
def bA(a b:Int):List D:=(List.range (b-a).toNat).map λ(i:Nat)=>.int (a+(i:Int))
theorem Cp{K:Za}{a b:Int}{c:Hp}:JOk K (Itr a (b-a).toNat) c (bA a b) (λ_=>True):=by
 intro i H M k f _;have hl:(bA a b).length=(b-a).toNat:=by unfold bA;rw[ZE,ZI]
 rw[hl];refine⟨λhi=>hi,λhi=>Nat.le_of_eq hi.symm,λx H' d hd g=>?_⟩;obtain⟨e,y⟩:=g;subst e y;have hi:i<(b-a).toNat:=by have:=(YB.mp hd).1;rw[hl] at this;exact this
 unfold bA at hd;rw[ZF,List.getElem?_range hi] at hd;cases hd;exact⟨Kp.refl _,f,RV.int_.2 rfl⟩
def AT(t:WA):WI:=λσ M R=>t σ M λds M1=>match ds with
 |[.int j]=>(-1000000<=j/\j<=1000000)/\R (bA 0 j) (λ_=>True) M1
 |_=>False
theorem Cq{a b:Int}(c:-1000000<=a)(d:b<=1000000):(bA a b).length<=sizeLine:=by
 unfold bA;rw[ZE,ZI,sizeLine_eq];omega
theorem AU{a tg:Expr}{t:WA}{p:Pos}(hg:Gl X "range")(hm:X.mg "range" = none)(ha:PAd X [a] t)(d:aA a=true):PId X tg (.Call (.Name "range" p) [a] [] pos) (AT t):=by
 intro σ M ρ H R rs f q;refine JR (BI hg hm (pa_W [a]) (by rw[a9 d];rfl)) ?_;show tWA X [a] ρ H _;refine dl (ha σ M ρ H _ rs f q) λvs g k=>?_
 obtain⟨l,ds,M1,c,l1,m,b⟩:=k;try dsimp only at b
 split at b
 ·rename_i j
  have c:=c.p;cases c with
  |cons r n=>
   cases n;cases RV.int_.1 r;refine⟨j,rfl,by omega,by omega,l,_,_,M1,m,trivial,?_,Cq 'b' b.1.2,b.2⟩
   have:=@Cp X.K 0 j g
   rw[Int.sub_zero] at this;exact this
 ·exact Yh b
def lJ:Expr->Bool
 |.Set _ _ _=>false
 |_=>true
theorem AV{env:Env}(h:lJ e=true):∀x,foldedSetIterable e env x=pure x:=by
 intro x;cases e<;>first | rfl | (exact absurd (show false=true from h) YC)
def aB(g:MH->Prop)(t:Tgt)(a:WS)(E:EndsD):List D->DS->MH->Prop
 |[],σ,M=>E.nx σ M
 |x::xs,σ,M=>rj t x σ λc=>a { E with nx:=λb M2=>g M2/\aB g t a E xs b M2,ct:=λb M2=>g M2/\aB g t a E xs b M2,bk:=E.nx } c M
def wFor(t:WI)(g:Tgt)(a:WS):WS:=λE σ M=>t σ M λxs b M1=>aB b g a E xs σ M1
theorem Gv{tg d:Expr}{body:Zu}{t:WI}{g:Tgt}{k:WS}(hp:PassesOwn 'c' X.A X.env X.xe)(hc:X.calm=true)(hi:PId X tg d t)(hg:PGd X tg g)(hb:PSsd X body k)(T:lJ d=true):
  PSd X (.For tg d body [] pos) (wFor t g k):=by
 intro σ M ρ H E rs U q;refine eg (Hx hp hc (pi_W tg d) hg (oY body) (AV T)) ?_;show iW X tg d ρ H _;refine vh (hi σ M ρ H _ rs U q) λJ G V=>?_
 obtain⟨l,xs,n,M1,W,Y,Z,hz,q1⟩:=V;refine⟨λi m L H'=>m=xs.length-i/\i<=xs.length/\Kp G H'/\∃o M',RS X.K H' o L/\RM X.K M' H'/\n M'/\aB n g k E (xs.drop i) o M',⟨xs.length,by simp,YL _,Kp.refl _,σ,M1,rs.mono l,W,Y,q1⟩,?_⟩;rintro i m L H' ⟨rfl,MI,k',o,M',O,P,g',p⟩;obtain⟨j1,j2,j3⟩:=Z i H' M' k' P g';by_cases u:i<xs.length
 ·rw[List.drop_eq_getElem_cons u] at p
  refine .inr ⟨j1 u,λR f=>Kp G f/\∃S M2,RS X.K f S R/\RM X.K M2 f/\n M2/\aB n g k E (xs.drop (i+1)) S M2,λR f ⟨j,r⟩=>⟨xs.length-(i+1),by omega,rfl,u,j,r⟩,λx f y=>?_⟩;obtain⟨j,m2,r2⟩:=j3 x f xs[i] (ZC u) y;refine xF r2 (O.mono j) p λP_ J1 K9 q3=>?_
  refine et (hb J1 M' P_ f _ K9 m2 q3) ⟨λRy H4 Lb=>?_,λ_ _=>bX ((l.trans k').trans j),λ_ _=>lI ((l.trans k').trans j),λRy H4 ⟨z,B,C,a,b,c⟩=>⟨k'.trans (j.trans z),B,C,a,b,c.1,c.2⟩⟩;obtain⟨z,B,C,a,b,c⟩:=Lb;exact⟨k'.trans (j.trans z),B,C,a,b,c.1,c.2⟩
 ·have e:i=xs.length:=by omega
  subst e;rw[List.drop_length] at p;exact .inl ⟨j2 rfl,l.trans k',o,M',O,P,p⟩
def ar(g:MH->Prop)(t:Tgt)(c:WT)(e:WE)(F:List D->MH->Prop):List D->List D->DS->MH->Prop
 |[],e_,_,M=>F e_ M
 |x::xs,e_,σ,M=>rj t x σ λa=>c a M λb M1=>Bif b (e a M1 λy M2=>g M2/\ar g t c e F xs (e_++[y]) a M2) (g M1/\ar g t c e F xs e_ a M1)
def AW(n:Nat)(t:WI)(g:Tgt)(c:WT)(e:WE):WE:=λσ M Q=>t σ M λxs a M1=>ar a g c e (λds M'=>∀p,M' p=none->Q (.ref p) (updM M' p (.lst ds))) xs [] (σ++List.replicate n none) M1
def PTsd(X:Cx)(a:Zg)(t:WT):Prop:=(a=[]/\t=λ_ M Q=>Q true M) \/ ∃c,a=[c]/\PTd X c t
theorem xI{K:Za}{J:It}{f:Hp}{xs:List D}{j:MH->Prop}{g:Tgt}{c:WT}{e:WE}{tc:TT}{te:TE}{F:List D->MH->Prop}{Fin:List V->Hp->Prop}{σ:DS}{M1:MH}{ρ:L2.St}
  (Nr:JOk K J f xs j) (hz:xs.length<=sizeLine) (rs:RS K f σ ρ) (m1:RM K M1 f) (g1:j M1)
  (hc:∀σ M ρ H Q (n:Bool->Hp->Prop),RS K H σ ρ->RM K M H->c σ M Q->(∀b H',Kp H H'->∀M',RM K M' H'->Q b M'->n b H')->tc ρ H n)
  (he:∀σ M ρ H Q (n:VK),RS K H σ ρ->RM K M H->e σ M Q->(∀v H',Kp H H'->∀d M',RV K H' d v->RM K M' H'->Q d M'->n v H')->te ρ H n)
  (hF:∀ds vs H' M',Kp f H'->RM K M' H'->RVs K H' ds vs->F ds M'->Fin vs H') (q:ar j g c e F xs [] σ M1):xc J (gOf K g) tc te Fin ρ f:=by
 refine⟨λi m ys O H'=>m=xs.length-i/\i<=xs.length/\Kp f H'/\∃C M' ds,RS K H' C O/\RM K M' H'/\j M'/\RVs K H' ds ys/\ds.length<=i/\ar j g c e F (xs.drop i) ds C M',⟨xs.length,by simp,YL _,Kp.refl _,σ,M1,[],rs,m1,g1,RVs.nil,YE _,q⟩,?_⟩;rintro i m ys O H' ⟨rfl,MI,k',C,M',ds,JZ,P,g',o,hd,u⟩;obtain⟨j1,j2,j3⟩:=Nr i H' M' k' P g';by_cases z:i<xs.length
 ·rw[List.drop_eq_getElem_cons z] at u
  refine .inr ⟨j1 z,by rw[←o.len];omega,λR S a=>Kp f a/\∃T M2 G,RS K a T S/\RM K M2 a/\j M2/\RVs K a G R/\G.length<=i+1/\ar j g c e F (xs.drop (i+1)) G T M2,λR S a ⟨k,r⟩=>⟨xs.length-(i+1),by omega,rfl,z,k,r⟩,λx a y=>?_⟩;obtain⟨k,m2,r2⟩:=j3 x a xs[i] (ZC z) y;refine xF r2 (JZ.mono k) u λU A B q3=>?_
  refine hc A M' U a _ _ B m2 q3 λb H4 l W Y L=>?_
  cases b with
  |true=>
   refine he A W U H4 _ _ (B.mono l) Y L λv H5 Z d M5 rv m5 q5=>?_
   have kk:=k.trans (l.trans Z);exact⟨k'.trans kk,A,M5,ds++[d],B.mono (l.trans Z),m5,q5.1,RVs.of (bC (RVs.mono kk _ o).p (.cons rv .nil)),by simp;omega,q5.2⟩
  |false=>exact⟨k'.trans (k.trans l),A,W,ds,B.mono l,Y,L.1,RVs.mono (k.trans l) _ o,by omega,L.2⟩
 ·have e:i=xs.length:=by omega
  subst e;rw[List.drop_length] at u;exact .inl ⟨j2 rfl,hF ds ys H' M' k' P o u⟩
section
variable {D_ tg iter:Expr}{ifs:Zg}{scope Kd:Scope}{own N2:Zf}
def bT(X:Cx)(scope:Scope)(own N2:Zf)(ifs:Zg):TT:=λρ H Q=>∀C s a ex pn pins b,Inv (cxC X scope own N2 C s a ex pn) pins ρ H b ->
 wpAny 'c' X.A (forIn ifs true λc r=>if r=true then do let ok ←isTrue c (cxC X scope own N2 C s a ex pn).env (eval c (cxC X scope own N2 C s a ex pn).env);pure (ForInStep.yield ok) else pure (ForInStep.yield r)) (TP (cxC X scope own N2 C s a ex pn) pins ρ Q) (cxC X scope own N2 C s a ex pn).xe b
def bE(X:Cx)(scope:Scope)(own N2:Zf)(e:Expr):TE:=λρ H Q=>∀C s a ex pn,tW (cxC X scope own N2 C s a ex pn) e ρ H Q
theorem r9{c:WT}{te:WE}(hc:∀C s a ex pn,PTsd (cxC X scope own N2 C s a ex pn) ifs c)(p:∀C s a ex pn,PEd (cxC X scope own N2 C s a ex pn) D_ te):
  (∀σ M ρ H Q (g:Bool->Hp->Prop),RS X.K H σ ρ->RM X.K M H->c σ M Q->(∀b H',Kp H H'->∀M',RM X.K M' H'->Q b M'->g b H')->bT X scope own N2 ifs ρ H g) /\
  (∀σ M ρ H Q (g:VK),RS X.K H σ ρ->RM X.K M H->te σ M Q->(∀v H',Kp H H'->∀d M',RV X.K H' d v->RM X.K M' H'->Q d M'->g v H')->bE X scope own N2 D_ ρ H g):=by
 refine⟨λσ M ρ H Q g rs j q f C s a ex pn pins o I=>?_,λσ M ρ H Q g rs j q f C s a ex pn=>?_⟩
 ·rcases hc C s a ex pn with⟨l,u⟩ | ⟨c',l,h⟩
  ·subst l u
   exact FV (X:=cxC X scope own N2 C s a ex pn) pins o ρ H _ I (f true H (Kp.refl H) M j q)
  ·subst l
   refine FW (X:=cxC X scope own N2 C s a ex pn) (pt_W c') pins o ρ H _ I ?_;refine gC (h σ M ρ H Q rs j q) λb H' y=>?_
   obtain⟨k,M',m,n⟩:=y;exact f b H' k M' m n
 ·refine aN (p C s a ex pn σ M ρ H Q rs j q) λv H' z=>?_
  obtain⟨k,d,M',r,m,n⟩:=z;exact f v H' k d M' r m n
theorem D4{t:WI}{g:Tgt}{c:WT}{te:WE}(l:CompScope Kd scope X.N own N2)(ho:X.env.scope=Kd)(n:X.calm=true)(hi:PId X tg iter t)(hg:∀C s a ex pn,PG (cxC X scope own N2 C s a ex pn) tg (gOf X.K g))
  (hc:∀C s a ex pn,PTsd (cxC X scope own N2 C s a ex pn) ifs c) (o:∀C s a ex pn,PEd (cxC X scope own N2 C s a ex pn) D_ te) (r:lJ iter=true):PEd X (.ListComp D_ [⟨tg,iter,ifs,0⟩] scope pos) (AW own.length t g c te):=by
 intro σ M ρ H Q rs u q;obtain⟨y,z⟩:=r9 hc o;refine bH (FX (te:=bE X scope own N2 D_) (tc:=bT X scope own N2 ifs) l n (pi_W tg iter) hg (λC s a ex pn pins b A H' B I h=>h C s a ex pn pins b I) (λC s a ex pn pins b A H' B I h=>h C s a ex pn pins b I) ho rfl (AV r)) ?_;show iW X tg iter ρ H _;refine vh (hi σ M ρ H _ rs u q) λJ T G=>?_
 obtain⟨d,xs,U,M1,L,O,P,hz,R⟩:=G;refine xI P hz ((rs.mono d).more own.length) L O y z ?_ R;intro ds vs H' M' k' j S f p hp;have k:Kp H' (upd H' p (.lst vs)):=Kp.new hp;exact⟨(d.trans k').trans k,.ref p,_,RV.ref_.2 rfl,j.new (m:=.lst ds) hp ⟨vs,aG,RVs.mono k _ S⟩,f p (j.fresh hp)⟩
def AX(i n:Nat)(t:WI)(g:Tgt)(c:WT)(e:WE):WS:=λE σ M=>t σ M λxs a M1=>ar a g c e (λds M'=>∀p,M' p=none->E.nx (σ.set i (some (.ref p))) (updM M' p (.lst ds))) xs [] (σ++List.replicate n none) M1
theorem D7{t:WI}{g:Tgt}{c:WT}{te:WE}{i:Nat}{y:Str}{k l:Pos}(o:CompScope Kd scope X.N own N2)(ho:X.env.scope=Kd)(r:X.calm=true)(u:X.N.Nodup)(hy:X.N[i]?=some y)(hl:X.env.scope.names.lookup y=some .local)(hi:PId X tg iter t)
  (hg:∀C s a ex pn,PG (cxC X scope own N2 C s a ex pn) tg (gOf X.K g))
  (hc:∀C s a ex pn,PTsd (cxC X scope own N2 C s a ex pn) ifs c) (z:∀C s a ex pn,PEd (cxC X scope own N2 C s a ex pn) D_ te) (A:lJ iter=true)
  (B:swapsWith (.ListComp D_ [⟨tg,iter,ifs,0⟩] scope pos) (some (.Name y k)) l.line X.env=pure true):PSd X (.Assign [.Name y k] (.ListComp D_ [⟨tg,iter,ifs,0⟩] scope pos) l) (AX i own.length t g c te):=by
 intro σ M ρ H E rs G q;obtain⟨L,O⟩:=r9 hc z;refine eg (FY (te:=bE X scope own N2 D_) (tc:=bT X scope own N2 ifs) (i:=i) o r u hy hl (pi_W tg iter) hg (λC s a ex pn pins b P H' R I h=>h C s a ex pn pins b I) (λC s a ex pn pins b P H' R I h=>h C s a ex pn pins b I) B ho rfl (AV A)) ?_;show iW X tg iter ρ H _;refine vh (hi σ M ρ H _ rs G q) λJ Z S=>?_
 obtain⟨d,xs,gd,M1,T,U,V,hz,W⟩:=S;refine xI V hz ((rs.mono d).more own.length) T U L O ?_ W;intro ds vs H' M' k' n Y f p hp;have j:Kp H' (upd H' p (.lst vs)):=Kp.new hp;exact⟨(d.trans k').trans j,_,_,(rs.mono ((d.trans k').trans j)).set i (RV.ref_.2 rfl),n.new (m:=.lst ds) hp ⟨vs,aG,RVs.mono j _ Y⟩,f p (n.fresh hp)⟩
end
def ad(N:Zf)(ds:List D):DS:=ds.map some++List.replicate (N.length-ds.length) none
theorem xJ{K:Za}{H:Hp}{N:Zf}{ds:List D}{vs:List V}(r:RVs K H ds vs):RS K H (ad N ds) (L2.start N vs):=by
 unfold ad L2.start;rw[r.len];refine bC ?_ (lx (λd e=>nomatch e) _);have p:=r.p;clear r;induction p with
 |nil=>exact .nil
 |cons r _ a=>exact .cons (λd e=>by cases e;exact⟨_,rfl,r⟩) a
end
section
variable {P:Zw}{w:World}{K:Za}{mg:Ze}{base:Heap}
theorem fnD{x:Str}{st:Stmt}{ps N:Zf}{f:Addr}{fd:Zv}{k:Nat}{sp:SpD}{t:WS}(c:IsDef K mg x st ps f fd)(S:FnScope N ps (au st))(len:∀ds M Q,sp ds M Q->ds.length=ps.length)
  (hb:∀p_ A outer s H E,Room k (A.deeper (envOfC x (au st) s.heap.objs.size f p_))->PSsd (cxOf CX0 P w K mg base N x (au st) f p_ A outer s H E).nox (aO st) t)
  (h:∀ds M Q,sp ds M Q->t { nx:=λ_ M'=>Q .non M',rt:=Q } (ad N ds) M):FnD P w K mg base (k+1) x sp:=by
 refine⟨st,ps,f,fd,c,c.fn.ok S (λvs H Q E ⟨ds,M,a,r,_,s,_⟩=>by rw[←r.len];exact len ds M a s) λp_ A outer s H vs Q E j ⟨ds,M,a,r,m,sq,g⟩=>⟨tWSs _ _,oY _,?_⟩⟩;refine et (hb p_ A outer s H E j (ad N ds) M (L2.start N vs) H _ (xJ r) m (h ds M a sq)) ⟨λo H' l=>?_,λv H' ⟨k',d,M',n,b,q⟩=>g _ _ _ _ q k' n b,λ_ _ ⟨_,_,_,_,_,q⟩=>q,λ_ _ ⟨_,_,_,_,_,q⟩=>q⟩;obtain⟨k',p,M',_,b,q⟩:=l;exact g _ _ _ _ q k' (RV.non_.2 rfl) b
end
mutual
noncomputable def aJ:D->Bool
 |.ref _=>false
 |.ty _=>false
 |.tup ds=>aI ds
 |_=>true
noncomputable def aI:List D->Bool
 |[]=>true
 |d::ds=>aJ d&&aI ds
end
mutual
noncomputable def depD:D->Nat
 |.tup ds=>aT ds+1
 |_=>0
noncomputable def aT:List D->Nat
 |[]=>0
 |d::ds=>max (depD d) (aT ds)
end
mutual
noncomputable def eqD:D->D->Bool
 |.non,.non=>true
 |.bl a,.bl b=>a==b
 |.bl a,.int b=>(if a then 1 else 0)==b
 |.int a,.bl b=>a==(if b then 1 else 0)
 |.int a,.int b=>a==b
 |.str a,.str b=>a==b
 |.tup as,.tup bs=>eqDs as bs
 |_,_=>false
noncomputable def eqDs:List D->List D->Bool
 |[],[]=>true
 |a::as,b::bs=>eqD a b&&eqDs as bs
 |_,_=>false
end
mutual
theorem oZ:∀d:D,aJ d=true->eqD d d=true
 |.non,_=>by rw[eqD]
 |.bl b,_=>by rw[eqD];simp
 |.int b,_=>by rw[eqD];simp
 |.str b,_=>by rw[eqD];simp
 |.ref _,h=>by rw[aJ] at h;cases h
 |.ty _,h=>by rw[aJ] at h;cases h
 |.tup ds,h=>by rw[aJ] at h;rw[eqD];exact qr ds h
theorem qr:∀ds:List D,aI ds=true->eqDs ds ds=true
 |[],_=>by rw[eqDs]
 |d::ds,h=>by
  rw[aI,YY] at h;rw[eqDs,oZ d h.1,qr ds h.2];rfl
end
theorem gI:∀{as bs:List D},eqDs as bs=((List.range (min as.length bs.length)).all (λj=>eqD ((as[j]?).getD .non) ((bs[j]?).getD .non))&&as.length==bs.length)
 |[],[]=>by rw[eqDs];rfl
 |[],b::bs=>by rw[eqDs]<;>simp
 |a::as,[]=>by rw[eqDs]<;>simp
 |a::as,b::bs=>by
  rw[eqDs,gI (as:=as) (bs:=bs)];have e:min (a::as).length (b::bs).length=min as.length bs.length+1:=by simp only[YH];omega
  rw[e,List.range_succ_eq_map,XQ,List.all_map];simp only[List.getElem?_cons_zero,Option.getD_some,YH];rw[Bool.and_assoc];congr 1;congr 1;rw[Bool.eq_iff_iff];simp
theorem bZ:∀{ds:List D}{i:Nat}{d:D},aI ds=true->ds[i]?=some d->aJ d=true
 |d::ds,0,_,h,e=>by rw[aI,YY] at h;simp at e;subst e;exact h.1
 |d::ds,i+1,_,h,e=>by rw[aI,YY] at h;exact bZ (ds:=ds) (i:=i) h.2 (by simpa using e)
theorem gX:∀{ds:List D}{i:Nat}{d:D},ds[i]?=some d->depD d<=aT ds
 |d::ds,0,_,e=>by rw[aT];simp at e;subst e;omega
 |d::ds,i+1,_,e=>by rw[aT];have:=gX (ds:=ds) (i:=i) (by simpa using e);omega
section
variable {X:Cx}{pins:Zc}{ρ:L2.St}{H:Hp}{s:Shared}
def k9:D->Bool
 |.non=>true
 |.bl _=>true
 |.int _=>true
 |.str _=>true
 |_=>false
def toV:D->V
 |.non=>.non
 |.bl b=>.bl b
 |.int i=>.int i
 |.str x=>.str x
 |_=>.non
theorem rk{K:Za}{d:D}{v:V}(f:k9 d=true)(r:RV K H d v):v=toV d/\AG v=true:=by
 cases d with
 |non=>cases RV.non_.1 r;exact⟨rfl,rfl⟩
 |bl b=>cases RV.bl_.1 r;exact⟨rfl,rfl⟩
 |int b=>cases RV.int_.1 r;exact⟨rfl,rfl⟩
 |str b=>cases RV.str_.1 r;exact⟨rfl,rfl⟩
 |_=>exact absurd (show false=true from f) YC
theorem zQ{d e:D}(f:k9 d=true)(g:k9 e=true):eqD d e=eqV (toV d) (toV e):=by
 cases d<;>cases e<;>first | exact absurd (show false=true from f) YC | exact absurd (show false=true from g) YC | (rw[eqD]<;>first | rfl | (intros;contradiction) | skip)
mutual
theorem xK(I:Inv X pins ρ H s):∀(d e:D){v:V},aJ d=true->aJ e=true->RV X.K H d v->RV X.K H e v->d=e:=λd e v pd pe rd re=>by
 cases d with
 |non=>cases RV.non_.1 rd;cases e with
  |non=>rfl
  |tup ds=>obtain⟨a,xs,z,_⟩:=RV.tup_.1 re;cases z
  |_=>rw[RV] at re;cases re
 |bl b=>cases RV.bl_.1 rd;cases e with
  |bl b'=>cases RV.bl_.1 re;rfl
  |tup ds=>obtain⟨a,xs,z,_⟩:=RV.tup_.1 re;cases z
  |_=>rw[RV] at re;cases re
 |int b=>cases RV.int_.1 rd;cases e with
  |int b'=>cases RV.int_.1 re;rfl
  |tup ds=>obtain⟨a,xs,z,_⟩:=RV.tup_.1 re;cases z
  |_=>rw[RV] at re;cases re
 |str b=>cases RV.str_.1 rd;cases e with
  |str b'=>cases RV.str_.1 re;rfl
  |tup ds=>obtain⟨a,xs,z,_⟩:=RV.tup_.1 re;cases z
  |_=>rw[RV] at re;cases re
 |ref a=>rw[aJ] at pd;cases pd
 |ty a=>rw[aJ] at pd;cases pd
 |tup ds=>
  obtain⟨a,xs,rfl,sq,rr⟩:=RV.tup_.1 rd;cases e with
  |tup es=>
   obtain⟨a',MG,z,KH,B_⟩:=RV.tup_.1 re;cases z
   have:=I.tuple_inj sq KH
   subst this;rw[aJ] at pd pe;rw[zR I ds es pd pe rr B_]
  |ref a=>rw[aJ] at pe;cases pe
  |_=>rw[RV] at re;cases re
theorem zR(I:Inv X pins ρ H s):∀(ds es:List D){vs:List V},aI ds=true->aI es=true->RVs X.K H ds vs->RVs X.K H es vs->ds=es
 |[],[],_,_,_,_,_=>rfl
 |[],e::es,_,_,_,rd,re=>by have:=rd.len;have:=re.len;simp only[YH,YU] at *;omega
 |d::ds,[],_,_,_,rd,re=>by have:=rd.len;have:=re.len;simp only[YH,YU] at *;omega
 |d::ds,e::es,_,pd,pe,rd,re=>by
  rw[RVs] at rd re;rw[aI,YY] at pd pe;obtain⟨v,vs,rfl,r1,r2⟩:=rd;obtain⟨v',Ky,z,VD,VE⟩:=re;cases z;rw[xK I d e pd.1 pe.1 r1 VD,zR I ds es pd.2 pe.2 r2 VE]
end
theorem vi{A:Around}{ds:List D}{e:D}{v u:V}{g j:Value}(I:Inv X pins ρ H s)(hu:A.units<cLine)(f:k9 e=true)(k:RV X.K H (.tup ds) v)(c:RV X.K H e u)(r:RelV v g)(d:RelV u j):
  SeqAt.EqAt A s g j false/\SeqAt.EqAt A s j g false:=by
 obtain⟨a,xs,rfl,sq,l⟩:=RV.tup_.1 k;obtain⟨d_,_,tp,_⟩:=I.tuple sq;cases r;have tp:s.heap.IsTuple a d_.toArray:=tp;cases e with
 |non=>cases RV.non_.1 c;cases d;exact⟨SeqAt.EqAt.tuple_none tp hu,SeqAt.EqAt.none_tuple tp hu⟩
 |bl b=>cases RV.bl_.1 c;cases d;exact⟨SeqAt.EqAt.tuple_bool b tp hu,SeqAt.EqAt.bool_tuple b tp hu⟩
 |int b=>cases RV.int_.1 c;obtain⟨t,rfl⟩:=d;exact⟨SeqAt.EqAt.tuple_int b t tp hu,SeqAt.EqAt.int_tuple b t tp hu⟩
 |str b=>cases RV.str_.1 c;obtain⟨t,rfl⟩:=d;exact⟨SeqAt.EqAt.tuple_str b t tp hu,SeqAt.EqAt.str_tuple b t tp hu⟩
 |_=>exact absurd (show false=true from f) YC
theorem qt{ds:List D}{e:D}(f:k9 e=true):eqD (.tup ds) e=false/\eqD e (.tup ds)=false:=by
 cases e<;>first | exact absurd (show false=true from f) YC | (constructor<;>(rw[eqD]<;>(intros;contradiction)))
theorem fA{d:D}(h:aJ d=true):k9 d=true \/ ∃ds,d=.tup ds:=by
 cases d with
 |ref a=>rw[aJ] at h;cases h
 |ty a=>rw[aJ] at h;cases h
 |tup ds=>exact .inr ⟨ds,rfl⟩
 |_=>exact .inl rfl
theorem units_in1(A:Around):A.in1.units=A.units+1:=rfl
theorem gJ{K:Za}{ds:List D}{vs:List V}{d_:Zd}(a:RVs K H ds vs)(b:Vals vs d_){j:Nat}(h:j<d_.toArray.size):
  ∃d v,ds[j]?=some d/\RV K H d v/\RelV v d_.toArray[j]:=by
 have c:j<d_.length:=by simpa using h
 have g:j<vs.length:=by rw[b.length];exact c
 have f:j<ds.length:=by rw[a.len];exact g
 obtain⟨v,k,r⟩:=cB a.p (ZC f);obtain⟨u,hu,l⟩:=b.get k;have:d_.toArray[j]=u:=by
  have:=ZC c
  rw[this] at hu;simpa using hu
 exact⟨ds[j],v,ZC f,r,by rw[this];exact l⟩
theorem tK(n:Nat):∀{s:Shared}{A:Around}(d e:D){v u:V}{p y:Value},Inv X pins ρ H s->depD d<=n->A.units+n<cLine->aJ d=true->aJ e=true->RV X.K H d v->RV X.K H e u->RelV v p->RelV u y->SeqAt.EqAt A s p y (eqD d e):=by
 induction n with
 |zero=>
  intro s A d e v u p y I hd hu m o c k r l;rcases fA m with f | ⟨ds,rfl⟩
  ·rcases fA o with g | ⟨es,rfl⟩
   ·rw[zQ f g]
    obtain⟨B,C⟩:=rk f c;obtain⟨G,J⟩:=rk g k;rw[←B,←G];exact BQ r l C J
   ·rw[(qt f).2];exact(vi I 'b' f k c l r).2
  ·rw[depD] at hd;omega
 |succ n W=>
  intro s A d e v u p y I hd hu m o c k r l;rcases fA m with f | ⟨ds,rfl⟩
  ·rcases fA o with g | ⟨es,rfl⟩
   ·rw[zQ f g]
    obtain⟨B,C⟩:=rk f c;obtain⟨G,J⟩:=rk g k;rw[←B,←G];exact BQ r l C J
   ·rw[(qt f).2];exact(vi I 'b' f k c l r).2
  ·rcases fA o with g | ⟨es,rfl⟩
   ·rw[(qt g).1];exact(vi I 'b' g c k r l).1
   ·by_cases z:v=u
    ·subst z
     have:=xK I _ _ m o c k
     cases this;rw[oZ _ m];obtain⟨a,xs,rfl,_⟩:=RV.tup_.1 c;cases r;cases l;exact SeqAt.EqAt.same _
    ·obtain⟨a,xs,rfl,sq,P⟩:=RV.tup_.1 c
     obtain⟨b,ys,rfl,Y,R⟩:=RV.tup_.1 k;cases r;cases l;have Z:a≠b:=λq=>z (by rw[q])
     obtain⟨d_,S,tp,_⟩:=I.tuple sq;obtain⟨l_,T,J8,_⟩:=I.tuple Y;rw[depD] at hd;rw[aJ] at m o;have L:=SeqAt.RcAt.tuples (A:=A) (e:=λj=>eqD ((ds[j]?).getD .non) ((es[j]?).getD .non)) (show s.heap.IsTuple a d_.toArray from tp) (show s.heap.IsTuple b l_.toArray from J8) 'b' (λj h1 h2=>by
      obtain⟨d,v,O,r1,q1⟩:=gJ P S h1;obtain⟨e,u,U,r2,q2⟩:=gJ R T h2;rw[O,U]
      have:=gX O
      exact W d e I 'b' (by rw[units_in1];omega) (bZ m O) (bZ o U) r1 r2 q1 q2)
     have e:eqD (.tup ds) (.tup es)=((List.range (min d_.toArray.size l_.toArray.size)).all (λj=>eqD ((ds[j]?).getD .non) ((es[j]?).getD .non))&&d_.toArray.size==l_.toArray.size):=by
      have l1:d_.toArray.size=ds.length:=by rw[P.len,S.length];simp
      have l2:l_.toArray.size=es.length:=by rw[R.len,T.length];simp
      rw[eqD,gI,l1,l2]
     rw[e];exact SeqAt.EqAt.of_refs Z L
end
section
variable {X:Cx}{H:Hp}
def dAdd:D->D->MH->DK->Prop
 |.int i,.int j,M,Q=>Q (.int (i+j)) M
 |.str i,.str j,M,Q=>i.length+j.length<=sizeLine/\Q (.str (i++j)) M
 |.tup xs,.tup ys,M,Q=>(xs≠[]/\xs.length+ys.length<=sizeLine)/\Q (.tup (xs++ys)) M
 |.ref a,.ref b,M,Q=>match M a,M b with
  |some (.lst xs),some (.lst ys)=>xs.length+ys.length<=sizeLine/\∀p,M p=none->Q (.ref p) (updM M p (.lst (xs++ys)))
  |_,_=>False
 |_,_,_,_=>False
theorem Gw:OpD X (binaryOp .Add) dAdd:=by
 intro x y v u H M Q g l c h;cases x with
 |int i=>cases y with
  |int j=>cases RV.int_.1 g;cases RV.int_.1 l;exact gg Hy ⟨i,j,rfl,rfl,aD (RV.int_.2 rfl) c h⟩
  |_=>exact Yh h
 |str i=>cases y with
  |str j=>cases RV.str_.1 g;cases RV.str_.1 l;exact gg Ax ⟨i,j,rfl,rfl,h.1,aD (RV.str_.2 rfl) c h.2⟩
  |_=>exact Yh h
 |tup xs=>cases y with
  |tup ys=>
   obtain⟨a,vs,rfl,sq,d⟩:=RV.tup_.1 g;obtain⟨b,us,rfl,r,f⟩:=RV.tup_.1 l;obtain⟨⟨A,B⟩,n⟩:=h;refine gg FP ⟨a,b,vs,us,rfl,rfl,sq,r,λz=>A ?_,by rw[←d.len,←f.len];exact B,λz=>?_,λz p hp=>?_⟩
   ·have:=d.len;rw[z] at this;exact List.eq_nil_of_length_eq_zero this
   ·have:=f.len;rw[z] at this
    have:ys=[]:=List.eq_nil_of_length_eq_zero this
    subst this;rw[ZA] at n;exact aD g c n
   ·have k:=Kp.new (o:=.tup (vs++us)) hp
    exact⟨k,.tup (xs++ys),M,RV.tup_.2 ⟨p,_,rfl,SqT.of aG,RVs.of (bC (RVs.mono k _ d).p (RVs.mono k _ f).p)⟩,c.newH hp,n⟩
  |_=>exact Yh h
 |ref a=>cases y with
  |ref b=>
   cases RV.ref_.1 g;cases RV.ref_.1 l;have h:match M a,M b with
    |some (.lst xs),some (.lst ys)=>xs.length+ys.length<=sizeLine/\∀p,M p=none->Q (.ref p) (updM M p (.lst (xs++ys)))
    |_,_=>False:=h
   split at h
   ·rename_i xs ys C G
    obtain⟨vs,J,d⟩:=c a _ C;obtain⟨us,K,f⟩:=c b _ G;refine gg HZ ⟨a,b,vs,us,rfl,rfl,J,K,by rw[←d.len,←f.len];exact h.1,λp hp=>?_⟩;have k:=Kp.new (o:=.lst (vs++us)) hp;exact⟨k,.ref p,_,RV.ref_.2 rfl,c.new (m:=.lst (xs++ys)) hp ⟨_,aG,RVs.of (bC (RVs.mono k _ d).p (RVs.mono k _ f).p)⟩,h.2 p (c.fresh hp)⟩
   ·exact Yh h
  |_=>exact Yh h
 |_=>exact Yh h
def dI(C:Int->Int->Prop)(g:Int->Int->Int):D->D->MH->DK->Prop
 |.int i,.int j,M,Q=>C i j/\Q (.int (g i j)) M
 |_,_,_,_=>False
theorem tL{f:Zk}{C:Int->Int->Prop}{g:Int->Int->Int}(a:OpR X f (rI C λi j=>.int (g i j))):OpD X f (dI C g):=by
 intro x y v u H M Q b c d h;cases x with
 |int i=>cases y with
  |int j=>cases RV.int_.1 b;cases RV.int_.1 c;exact gg a ⟨i,j,rfl,rfl,h.1,aD (RV.int_.2 rfl) d h.2⟩
  |_=>exact Yh h
 |_=>exact Yh h
def dI0(g:Int->Int->Int):D->D->MH->DK->Prop
 |.int i,.int j,M,Q=>Q (.int (g i j)) M
 |_,_,_,_=>False
theorem tM{f:Zk}{g:Int->Int->Int}(a:OpR X f (rI0 λi j=>.int (g i j))):OpD X f (dI0 g):=by
 intro x y v u H M Q b c d h;cases x with
 |int i=>cases y with
  |int j=>cases RV.int_.1 b;cases RV.int_.1 c;exact gg a ⟨i,j,rfl,rfl,aD (RV.int_.2 rfl) d h⟩
  |_=>exact Yh h
 |_=>exact Yh h
def dMul:D->D->MH->DK->Prop
 |.int i,.int j,M,Q=>CMul i j/\Q (.int (i*j)) M
 |.str z,.int n,M,Q=>(0<=n/\n<=1048576/\z.length*n.toNat<=1048576)/\Q (.str (Txt.mul z n)) M
 |.ref a,.int k,M,Q=>match M a with
  |some (.lst xs)=>(-1000000<=k/\k<=1000000/\xs.length*k.toNat<=sizeLine)/\∀p,M p=none->Q (.ref p) (updM M p (.lst (List.replicate k.toNat xs).flatten))
  |_=>False
 |_,_,_,_=>False
theorem Gx:OpD X (binaryOp .Mult) dMul:=by
 intro x y v u H M Q c d b h;cases x with
 |int i=>cases y with
  |int j=>cases RV.int_.1 c;cases RV.int_.1 d;exact gg HA ⟨i,j,rfl,rfl,h.1,aD (RV.int_.2 rfl) b h.2⟩
  |_=>exact Yh h
 |str z=>cases y with
  |int n=>cases RV.str_.1 c;cases RV.int_.1 d;exact gg AJ ⟨z,n,rfl,rfl,h.1.1,h.1.2.1,h.1.2.2,aD (RV.str_.2 rfl) b h.2⟩
  |_=>exact Yh h
 |ref a=>cases y with
  |int k=>
   cases RV.ref_.1 c;cases RV.int_.1 d;have h:match M a with
    |some (.lst xs)=>(-1000000<=k/\k<=1000000/\xs.length*k.toNat<=sizeLine)/\∀p,M p=none->Q (.ref p) (updM M p (.lst (List.replicate k.toNat xs).flatten))
    |_=>False:=h
   split at h
   ·rename_i xs l
    obtain⟨vs,r,f⟩:=b a _ l;refine gg H9 ⟨a,k,vs,rfl,rfl,r,by omega,by omega,by rw[←f.len];exact h.1.2.2,λp hp=>?_⟩;have g:=Kp.new (o:=.lst (List.replicate k.toNat vs).flatten) hp;exact⟨g,.ref p,_,RV.ref_.2 rfl,b.new (m:=.lst (List.replicate k.toNat xs).flatten) hp ⟨_,aG,RVs.of (Ce (RVs.mono g _ f).p _)⟩,h.2 p (b.fresh hp)⟩
   ·exact Yh h
  |_=>exact Yh h
 |_=>exact Yh h
def dBin:Operator->D->D->MH->DK->Prop
 |.Add=>dAdd
 |.Sub=>dI0 λi j=>i-j
 |.Mult=>dMul
 |.FloorDiv=>dI CDiv λi j=>i / j
 |.Mod=>dI (λ_ j=>0<j) λi j=>i%j
 |.Pow=>dI CPow λi j=>i ^ j.toNat
 |.LShift=>dI CPow λi j=>i*2 ^ j.toNat
 |.RShift=>dI (λ_ j=>0<=j) λi j=>i / 2 ^ j.toNat
 |.BitAnd=>dI0 Builtin.bitAnd
 |.BitOr=>dI0 Builtin.bitOr
 |.BitXor=>dI0 Builtin.bitXor
 |_=>λ_ _ _ _=>False
theorem Gy(op:Operator):OpD X (binaryOp op) (dBin op):=by
 cases op with
 |Add=>exact Gw
 |Sub=>exact tM Hz
 |Mult=>exact Gx
 |FloorDiv=>exact tL FA
 |Mod=>exact tL HB
 |Pow=>exact tL HC
 |LShift=>exact tL HD
 |RShift=>exact tL HE
 |BitAnd=>exact tM HF
 |BitOr=>exact tM Jx
 |BitXor=>exact tM HG
 |_=>exact λ_ _ _ _ _ _ _ _ _ _ h=>Yh h
def dIB(g:Int->Int->Bool):D->D->MH->DK->Prop
 |.int i,.int j,M,Q=>Q (.bl (g i j)) M
 |_,_,_,_=>False
theorem tN{f:Zk}{g:Int->Int->Bool}(a:OpR X f (rI0 λi j=>.bl (g i j))):OpD X f (dIB g):=by
 intro x y v u H M Q b c d h;cases x with
 |int i=>cases y with
  |int j=>cases RV.int_.1 b;cases RV.int_.1 c;exact gg a ⟨i,j,rfl,rfl,aD (RV.bl_.2 rfl) d h⟩
  |_=>exact Yh h
 |_=>exact Yh h
def dEq(x y:D)(M:MH)(Q:Bool->Prop):Prop:=match x,y with
 |.ref a,.ref b=>match rdL (M a),rdL (M b) with
  |some xs,some ys=>(aI xs=true/\aI ys=true/\aT xs<=30)/\Q (eqDs xs ys)
  |_,_=>False
 |.ref a,y=>match rdL (M a) with
  |some _=>aJ y=true/\Q false
  |none=>False
 |x,.ref b=>match rdL (M b) with
  |some _=>aJ x=true/\Q false
  |none=>False
 |x,y=>(aJ x=true/\aJ y=true/\depD x<=30)/\Q (eqD x y)
theorem Cr{A:Around}{s:Shared}{d e:D}{v u:V}{l m:Value}{K:Za}(f:k9 d=true)(g:k9 e=true)(k:RV K H d v)(c:RV K H e u)(r:RelV v l)(j:RelV u m):
  SeqAt.RcAt A s l m (eqD d e)/\SeqAt.RcNeAt A s l m (!eqD d e):=by
 cases d with
 |non=>
  cases RV.non_.1 k;cases r;cases e with
  |non=>cases RV.non_.1 c;cases j;rw[eqD];exact⟨SeqAt.RcAt.none_none,SeqAt.RcNeAt.none_none⟩
  |bl b=>cases RV.bl_.1 c;cases j;rw[eqD]<;>first | exact⟨SeqAt.RcAt.none_bool b,SeqAt.RcNeAt.none_bool b⟩ | (intros;contradiction)
  |int b=>cases RV.int_.1 c;obtain⟨t,rfl⟩:=j;rw[eqD]<;>first | exact⟨SeqAt.RcAt.none_int b t,SeqAt.RcNeAt.none_int b t⟩ | (intros;contradiction)
  |str b=>cases RV.str_.1 c;obtain⟨t,rfl⟩:=j;rw[eqD]<;>first | exact⟨SeqAt.RcAt.none_str b t,SeqAt.RcNeAt.none_str b t⟩ | (intros;contradiction)
  |_=>exact absurd (show false=true from g) YC
 |bl a=>
  cases RV.bl_.1 k;cases r;cases e with
  |non=>cases RV.non_.1 c;cases j;rw[eqD]<;>first | exact⟨SeqAt.RcAt.bool_none a,SeqAt.RcNeAt.bool_none a⟩ | (intros;contradiction)
  |bl b=>cases RV.bl_.1 c;cases j;rw[eqD];exact⟨SeqAt.RcAt.bool_bool a b,SeqAt.RcNeAt.bool_bool a b⟩
  |int b=>cases RV.int_.1 c;obtain⟨t,rfl⟩:=j;rw[eqD];exact⟨SeqAt.RcAt.bool_int a b t,SeqAt.RcNeAt.bool_int a b t⟩
  |str b=>cases RV.str_.1 c;obtain⟨t,rfl⟩:=j;rw[eqD]<;>first | exact⟨SeqAt.RcAt.bool_str a b t,SeqAt.RcNeAt.bool_str a b t⟩ | (intros;contradiction)
  |_=>exact absurd (show false=true from g) YC
 |int a=>
  cases RV.int_.1 k;obtain⟨t',rfl⟩:=r;cases e with
  |non=>cases RV.non_.1 c;cases j;rw[eqD]<;>first | exact⟨SeqAt.RcAt.int_none a t',SeqAt.RcNeAt.int_none a t'⟩ | (intros;contradiction)
  |bl b=>cases RV.bl_.1 c;cases j;rw[eqD];exact⟨SeqAt.RcAt.int_bool a t' b,SeqAt.RcNeAt.int_bool a t' b⟩
  |int b=>cases RV.int_.1 c;obtain⟨t,rfl⟩:=j;rw[eqD];exact⟨SeqAt.RcAt.int_int a t' b t,SeqAt.RcNeAt.int_int a t' b t⟩
  |str b=>cases RV.str_.1 c;obtain⟨t,rfl⟩:=j;rw[eqD]<;>first | exact⟨SeqAt.RcAt.int_str a t' b t,SeqAt.RcNeAt.int_str a t' b t⟩ | (intros;contradiction)
  |_=>exact absurd (show false=true from g) YC
 |str a=>
  cases RV.str_.1 k;obtain⟨t',rfl⟩:=r;cases e with
  |non=>cases RV.non_.1 c;cases j;rw[eqD]<;>first | exact⟨SeqAt.RcAt.str_none a t',SeqAt.RcNeAt.str_none a t'⟩ | (intros;contradiction)
  |bl b=>cases RV.bl_.1 c;cases j;rw[eqD]<;>first | exact⟨SeqAt.RcAt.str_bool a t' b,SeqAt.RcNeAt.str_bool a t' b⟩ | (intros;contradiction)
  |int b=>cases RV.int_.1 c;obtain⟨t,rfl⟩:=j;rw[eqD]<;>first | exact⟨SeqAt.RcAt.str_int a t' b t,SeqAt.RcNeAt.str_int a t' b t⟩ | (intros;contradiction)
  |str b=>cases RV.str_.1 c;obtain⟨t,rfl⟩:=j;rw[eqD];exact⟨SeqAt.RcAt.str_str a t' b t,SeqAt.RcNeAt.str_str a t' b t⟩
  |_=>exact absurd (show false=true from g) YC
 |_=>exact absurd (show false=true from f) YC
theorem vj{A:Around}{s:Shared}{pins:Zc}{ρ:L2.St}{a:Addr}{d_:Zl}{e:D}{u:V}{g:Value}(hu:A.units<cLine)(f:k9 e=true)(tp:s.heap.IsTuple a d_\/s.heap.IsList a d_)(c:RV X.K H e u)(d:RelV u g):
  (SeqAt.RcAt A s (.ref a) g false/\SeqAt.RcNeAt A s (.ref a) g true)/\(SeqAt.RcAt A s g (.ref a) false/\SeqAt.RcNeAt A s g (.ref a) true):=by
 rcases tp with tp | tp
 ·cases e with
  |non=>cases RV.non_.1 c;cases d;exact⟨⟨SeqAt.RcAt.tuple_none tp hu,SeqAt.RcNeAt.tuple_none tp hu⟩,⟨SeqAt.RcAt.none_tuple tp hu,SeqAt.RcNeAt.none_tuple tp hu⟩⟩
  |bl b=>cases RV.bl_.1 c;cases d;exact⟨⟨SeqAt.RcAt.tuple_bool b tp hu,SeqAt.RcNeAt.tuple_bool b tp hu⟩,⟨SeqAt.RcAt.bool_tuple b tp hu,SeqAt.RcNeAt.bool_tuple b tp hu⟩⟩
  |int b=>cases RV.int_.1 c;obtain⟨t,rfl⟩:=d;exact⟨⟨SeqAt.RcAt.tuple_int b t tp hu,SeqAt.RcNeAt.tuple_int b t tp hu⟩,⟨SeqAt.RcAt.int_tuple b t tp hu,SeqAt.RcNeAt.int_tuple b t tp hu⟩⟩
  |str b=>cases RV.str_.1 c;obtain⟨t,rfl⟩:=d;exact⟨⟨SeqAt.RcAt.tuple_str b t tp hu,SeqAt.RcNeAt.tuple_str b t tp hu⟩,⟨SeqAt.RcAt.str_tuple b t tp hu,SeqAt.RcNeAt.str_tuple b t tp hu⟩⟩
  |_=>exact absurd (show false=true from f) YC
 ·cases e with
  |non=>cases RV.non_.1 c;cases d;exact⟨⟨SeqAt.RcAt.list_none tp hu,SeqAt.RcNeAt.list_none tp hu⟩,⟨SeqAt.RcAt.none_list tp hu,SeqAt.RcNeAt.none_list tp hu⟩⟩
  |bl b=>cases RV.bl_.1 c;cases d;exact⟨⟨SeqAt.RcAt.list_bool b tp hu,SeqAt.RcNeAt.list_bool b tp hu⟩,⟨SeqAt.RcAt.bool_list b tp hu,SeqAt.RcNeAt.bool_list b tp hu⟩⟩
  |int b=>cases RV.int_.1 c;obtain⟨t,rfl⟩:=d;exact⟨⟨SeqAt.RcAt.list_int b t tp hu,SeqAt.RcNeAt.list_int b t tp hu⟩,⟨SeqAt.RcAt.int_list b t tp hu,SeqAt.RcNeAt.int_list b t tp hu⟩⟩
  |str b=>cases RV.str_.1 c;obtain⟨t,rfl⟩:=d;exact⟨⟨SeqAt.RcAt.list_str b t tp hu,SeqAt.RcNeAt.list_str b t tp hu⟩,⟨SeqAt.RcAt.str_list b t tp hu,SeqAt.RcNeAt.str_list b t tp hu⟩⟩
  |_=>exact absurd (show false=true from f) YC
def Rc2(A:Around)(s:Shared)(v u:Value)(b:Bool):Prop:=SeqAt.RcAt A s v u b/\SeqAt.RcNeAt A s v u (!b)
theorem Gz{A:Around}{s:Shared}{pins:Zc}{ρ:L2.St}{ds es:List D}{vs us:List V}{d_ l_:Zd}{a b:Addr}(I:Inv X pins ρ H s)(hd:aT ds<=30)(hu:A.units+40<cLine)(y:aI ds=true)(z:aI es=true)
  (f:RVs X.K H ds vs) (g:RVs X.K H es us) (k:Vals vs d_) (l:Vals us l_) (tp:s.heap.IsTuple a d_.toArray) (m:s.heap.IsTuple b l_.toArray):Rc2 A s (.ref a) (.ref b) (eqDs ds es):=by
 have l1:d_.toArray.size=ds.length:=by rw[f.len,k.length];simp
 have l2:l_.toArray.size=es.length:=by rw[g.len,l.length];simp
 have n:∀j (o:j<d_.toArray.size) (p:j<l_.toArray.size),SeqAt.EqAt A.in1 s d_.toArray[j] l_.toArray[j] (eqD ((ds[j]?).getD .non) ((es[j]?).getD .non)):=λj o p=>by
  obtain⟨d,v,c,B,C⟩:=gJ f k o;obtain⟨e,u,r,G,J⟩:=gJ g l p;rw[c,r]
  have:=gX c
  exact tK 30 d e I 'b' (by rw[units_in1];omega) (bZ y c) (bZ z r) B G C J
 have e:eqDs ds es=((List.range (min d_.toArray.size l_.toArray.size)).all (λj=>eqD ((ds[j]?).getD .non) ((es[j]?).getD .non))&&d_.toArray.size==l_.toArray.size):=by rw[gI,l1,l2]
 rw[e];exact⟨SeqAt.RcAt.tuples tp m 'b' n,SeqAt.RcNeAt.tuples tp m 'b' n⟩
theorem D8{A:Around}{s:Shared}{pins:Zc}{ρ:L2.St}{ds es:List D}{vs us:List V}{d_ l_:Zd}{a b:Addr}(I:Inv X pins ρ H s)(hd:aT ds<=30)(hu:A.units+40<cLine)(z:aI ds=true)(B:aI es=true)
  (g:RVs X.K H ds vs) (k:RVs X.K H es us) (l:Vals vs d_) (m:Vals us l_) (tp:s.heap.IsList a d_.toArray) (c:s.heap.IsList b l_.toArray):Rc2 A s (.ref a) (.ref b) (eqDs ds es):=by
 have l1:d_.toArray.size=ds.length:=by rw[g.len,l.length];simp
 have l2:l_.toArray.size=es.length:=by rw[k.len,m.length];simp
 have n:∀j (o:j<d_.toArray.size) (p:j<l_.toArray.size),SeqAt.EqAt A.in1 s d_.toArray[j] l_.toArray[j] (eqD ((ds[j]?).getD .non) ((es[j]?).getD .non)):=λj o p=>by
  obtain⟨d,v,f,C,G⟩:=gJ g l o;obtain⟨e,u,r,J,L⟩:=gJ k m p;rw[f,r]
  have:=gX f
  exact tK 30 d e I 'b' (by rw[units_in1];omega) (bZ z f) (bZ B r) C J G L
 by_cases hl:ds.length=es.length
 ·have e:eqDs ds es=(List.range d_.toArray.size).all (λj=>eqD ((ds[j]?).getD .non) ((es[j]?).getD .non)):=by rw[gI,l1,hl,Nat.min_self];simp
  rw[e];exact⟨SeqAt.RcAt.lists tp c 'b' 'b' n,SeqAt.RcNeAt.lists tp c 'b' 'b' n⟩
 ·have e:eqDs ds es=false:=by rw[gI];simp[hl]
  rw[e];have y:(d_.toArray.size != l_.toArray.size)=true:=by rw[l1,l2];simpa using hl
  exact⟨SeqAt.RcAt.lists_lengths tp c y 'b',SeqAt.RcNeAt.lists_lengths tp c y 'b'⟩
theorem rc_D{s:Shared}{pins:Zc}{ρ:L2.St}{M:MH}{x y:D}{v u:V}{J L:Value}{Q:Bool->Prop}(I:Inv X pins ρ H s)(hu:X.A.units+40<cLine)(l:RV X.K H x v)(c:RV X.K H y u)(m:RM X.K M H)(r:RelV v J)(d:RelV u L)(h:dEq x y M Q):
  ∃b,Rc2 X.A s J L b/\Q b:=by
 have R:aJ x=true->aJ y=true->depD x<=30->Q (eqD x y)->∃b,Rc2 X.A s J L b/\Q b:=λO k hd q=>by
  rcases fA O with f | ⟨ds,rfl⟩
  ·rcases fA k with g | ⟨es,rfl⟩
   ·exact⟨_,Cr f g l c r d,q⟩
   ·obtain⟨b,us,rfl,sq,n⟩:=RV.tup_.1 c
    obtain⟨d_,o,tp,_⟩:=I.tuple sq;cases d;rw[(qt f).2] at q;exact⟨false,(vj (X:=X) (pins:=pins) (ρ:=ρ) 'b' f (.inl (show s.heap.IsTuple b d_.toArray from tp)) l r).2,q⟩
  ·obtain⟨a,vs,rfl,sq,n⟩:=RV.tup_.1 l
   obtain⟨d_,o,tp,_⟩:=I.tuple sq;cases r;rcases fA k with g | ⟨es,rfl⟩
   ·rw[(qt g).1] at q
    exact⟨false,(vj (X:=X) (pins:=pins) (ρ:=ρ) 'b' g (.inl (show s.heap.IsTuple a d_.toArray from tp)) c d).1,q⟩
   ·obtain⟨b,us,rfl,p,B⟩:=RV.tup_.1 c
    obtain⟨l_,C,j,_⟩:=I.tuple p;cases d;rw[aJ] at O k;rw[depD] at hd;rw[eqD] at q;exact⟨_,Gz I 'b' hu O k n B o C (show s.heap.IsTuple a d_.toArray from tp) (show s.heap.IsTuple b l_.toArray from j),q⟩
 have P:∀{a:Addr}{w:V}{G:Value}{y:D}{xs:List D},rdL (M a)=some xs->RV X.K H y w->RelV w G->aJ y=true->(Rc2 X.A s (.ref a) G false/\Rc2 X.A s G (.ref a) false):=λ{a w G y xs} hl c d k=>by
  obtain⟨vs,sq,n⟩:=m.list hl;obtain⟨d_,o,tp,_⟩:=I.list sq;rcases fA k with g | ⟨es,rfl⟩
  ·have:=vj (X:=X) (pins:=pins) (ρ:=ρ) (A:=X.A) 'b' g (.inr tp.isList) c d
   exact⟨this.1,this.2⟩
  ·obtain⟨b,us,rfl,p,B⟩:=RV.tup_.1 c
   obtain⟨l_,C,j,_⟩:=I.tuple p;cases d;have j:s.heap.IsTuple b l_.toArray:=j;exact⟨⟨SeqAt.RcAt.list_tuple tp.isList j 'b',SeqAt.RcNeAt.list_tuple tp.isList j 'b'⟩,⟨SeqAt.RcAt.tuple_list j tp.isList 'b',SeqAt.RcNeAt.tuple_list j tp.isList 'b'⟩⟩
 cases x with
 |ref a=>
  cases RV.ref_.1 l;cases r;cases y with
  |ref b=>
   cases RV.ref_.1 c;cases d;have h:match rdL (M a),rdL (M b) with
    |some xs,some ys=>(aI xs=true/\aI ys=true/\aT xs<=30)/\Q (eqDs xs ys)
    |_,_=>False:=h
   split at h
   ·rename_i xs ys z S
    obtain⟨vs,sq,n⟩:=m.list z;obtain⟨us,p,B⟩:=m.list S;obtain⟨d_,o,tp,_⟩:=I.list sq;obtain⟨l_,C,j,_⟩:=I.list p;exact⟨_,D8 I h.1.2.2 hu h.1.1 h.1.2.1 n B o C tp.isList j.isList,h.2⟩
   ·exact Yh h
  |_=>
   simp only[dEq] at h;split at h
   ·rename_i xs z
    exact⟨false,(P z c d h.1).1,h.2⟩
   ·exact Yh h
 |_=>
  cases y with
  |ref b=>
   cases RV.ref_.1 c;cases d;simp only[dEq] at h;split at h
   ·rename_i ys z
    exact⟨false,(P z l r h.1).2,h.2⟩
   ·exact Yh h
  |_=>exact R h.1.1 h.1.2.1 h.1.2.2 h.2
def dEqV:D->D->MH->DK->Prop:=λx y M Q=>dEq x y M λb=>Q (.bl b) M
def dNeV:D->D->MH->DK->Prop:=λx y M Q=>dEq x y M λb=>Q (.bl (!b)) M
theorem Im(hu:X.A.units+40<cLine):OpD X (compareOp .Eq) dEqV:=by
 intro x y v u H M Q c d a h pins s ρ j k I r f;obtain⟨b,g,q⟩:=rc_D I hu c d a r f h;exact g.1 _ _ _ _ ⟨.bl b,H,I,rfl,aD (RV.bl_.2 rfl) a q⟩
theorem Io(hu:X.A.units+40<cLine):OpD X (compareOp .NotEq) dNeV:=by
 intro x y v u H M Q c d a h pins s ρ j k I r f;obtain⟨b,g,q⟩:=rc_D I hu c d a r f h;exact g.2 _ _ _ _ ⟨.bl (!b),H,I,rfl,aD (RV.bl_.2 rfl) a q⟩
end
section
variable {X:Cx}{H:Hp}{e a b c:Expr}{es:Zg}{pos:Pos}
noncomputable def nQ(K:Za)(H:Hp)(ds:List D)(x:D)(y:Value):Bool:=@decide (∃d v,d∈ds/\RV K H d v/\RelV v y/\eqD d x=true) (Classical.propDecidable _)
theorem mw{pins:Zc}{ρ:L2.St}{s:Shared}{ds:List D}{x d:D}{v:V}{y:Value}(I:Inv X pins ρ H s)(g:aI ds=true)(hd:d∈ds)(r:RV X.K H d v)(f:RelV v y):nQ X.K H ds x y=eqD d x:=by
 have pg:∀d∈ds,aJ d=true:=λd h=>let⟨i,hi⟩:=XS h;bZ g hi
 unfold nQ;cases q:eqD d x with
 |true=>exact @decide_eq_true _ (Classical.propDecidable _) ⟨d,v,hd,r,f,q⟩
 |false=>
  refine @decide_eq_false _ (Classical.propDecidable _) ?_;rintro⟨d',v',MX,r1,r2,q'⟩
  have:=L2.RelV.inj r2 f
  subst this
  have:=xK I d' d (pg d' MX) (pg d hd) r1 r
  subst this;rw[q] at q';cases q'
theorem wf{K:Za}{x:D}{f:Value->Bool}:∀{ds:List D}{vs:List V}{d_:Zd},RVs K H ds vs->Vals vs d_->(∀d v u,d∈ds->RV K H d v->RelV v u->f u=eqD d x)->d_.any f=ds.any λd=>eqD d x
 |[],vs,d_,r,g,_=>by
  rw[RVs] at r;subst r;cases g;rfl
 |d::ds,vs,d_,r,g,h=>by
  rw[RVs] at r;obtain⟨v,p,rfl,j,k⟩:=r;cases g with
  |cons l m=>rw[XH,XH,h d v _ (ZX) j l,wf k m λd' n o hd=>h d' n o (ZY _ hd)]
theorem qu{K:Za}:∀{ds:List D}{vs:List V}{d_:Zd}{y:Value},RVs K H ds vs->Vals vs d_->y∈d_->∃d v,d∈ds/\RV K H d v/\RelV v y
 |[],vs,d_,y,r,f,hy=>by rw[RVs] at r;subst r;cases f;cases hy
 |d::ds,vs,d_,y,r,f,hy=>by
  rw[RVs] at r;obtain⟨v,p,rfl,g,j⟩:=r;cases f with
  |cons k l=>
   rcases ZZ.mp hy with rfl | hy
   ·exact⟨d,v,ZX,g,k⟩
   ·obtain⟨d',m,n,o⟩:=qu j l hy
    exact⟨d',m,ZY _ n,o⟩
def keyD:D->Option Key
 |.int i=>some (.inl i)
 |.str x=>some (.inr x)
 |_=>none
theorem zS{K:Za}{d:D}{k:Key}{v:V}(h:keyD d=some k)(r:RV K H d v):v=kV k:=by
 cases d with
 |int i=>cases h;exact RV.int_.1 r
 |str i=>cases h;exact RV.str_.1 r
 |_=>cases h
def valD(d:ZB)(k:Key):Option D:=(d.find? λkv=>decide (kv.1=k)).map (·.2)
theorem sx{k:Key}:∀{d:ZB}{f:List (Key×V)},f.map (·.1)=d.map (·.1)->(valV f k).isSome=(valD d k).isSome
 |[],[],_=>rfl
 |[],_::_,e=>by cases e
 |_::_,[],e=>by cases e
 |(m,n)::d,(g,o)::f,e=>by
  simp only[YJ,List.cons.injEq] at e;obtain⟨j,l⟩:=e;subst j;unfold valV valD;rw[XG,XG];by_cases q:g=k
  ·simp only[YV q,Option.map_some,Option.isSome_some]
  ·simp only[ZP q]
   exact sx l
def rdD:Option MO->Option (List (Key×D))
 |some (.dic d)=>some d
 |some (.rod d)=>some d
 |_=>none
theorem RM.dict{K:Za}{H:Hp}{M:MH}{a:Addr}{f:ZB}(m:RM K M H)(h:rdD (M a)=some f):∃d:List (Key×V),Rd H a (.dK d)/\d.map (·.1)=f.map (·.1)/\RVs K H (f.map (·.2)) (d.map (·.2)):=by
 cases e:M a with
 |none=>rw[e] at h;cases h
 |some o=>
  rw[e] at h;cases o with
  |dic xs=>cases h;obtain⟨d,q,r⟩:=m a _ e;exact⟨d,.inl q,r⟩
  |rod xs=>cases h;obtain⟨u,d,q,r⟩:=m a _ e;exact⟨d,.inr ⟨u,q⟩,r⟩
  |_=>cases h
def inD(x:D)(ds:List D):Bool:=ds.any λd=>eqD d x
def rl{d:Type}(o:Option d)(Q:d->Prop):Prop:=match o with
 |some x=>Q x
 |none=>False
theorem xL{d:Type}{o:Option d}{Q:d->Prop}(h:rl o Q):∃x,o=some x/\Q x:=by
 cases o with
 |none=>exact Yh h
 |some x=>exact⟨x,rfl,h⟩
def dInP(x y:D)(M:MH)(Q:Bool->Prop):Prop:=match y with
 |.tup ds=>(aJ x=true/\aI ds=true/\aT ds<=30)/\Q (inD x ds)
 |.ref a=>match rdL (M a) with
  |some ds=>(aJ x=true/\aI ds=true/\aT ds<=30)/\Q (inD x ds)
  |none=>rl (rdD (M a)) λd=>rl (keyD x) λk=>Q (valD d k).isSome
 |.str j=>match x with
  |.str i=>Q (!(Builtin.Str.occurrences j i 0 j.length 1).isEmpty)
  |_=>False
 |_=>False
theorem in_D{s:Shared}{pins:Zc}{ρ:L2.St}{M:MH}{x y:D}{v u:V}{C O:Value}{Q:Bool->Prop}(I:Inv X pins ρ H s)(hu:X.A.units+40<cLine)(R:RV X.K H x v)(S:RV X.K H y u)(m:RM X.K M H)(r:RelV v C)(T:RelV u O)(h:dInP x y M Q):
  ∃k,Q k/\(∀(f:Zb),(∀l,Inv X pins ρ H l->f (.bool k) l)->wpAny 'c' X.A (compareOp .In C O) f X.xe s)/\(∀(f:Zb),(∀l,Inv X pins ρ H l->f (.bool (!k)) l)->wpAny 'c' X.A (compareOp .NotIn C O) f X.xe s):=by
 have p:∀{ds:List D}{vs:List V}{d_:Zd},aJ x=true->aI ds=true->aT ds<=30->RVs X.K H ds vs->Vals vs d_ ->
   (∀y,y∈d_.toArray->SeqAt.EqAt X.A.in1 s y C (nQ X.K H ds x y))/\d_.toArray.any (nQ X.K H ds x)=inD x ds:=λ{ds vs d_} px U hd n o=>by
  refine⟨λy hy=>?_,?_⟩
  ·obtain⟨d,w',G,J,L⟩:=qu n o (by simpa using hy)
   rw[mw I U G J L];obtain⟨i,hi⟩:=XS G
   have:=gX hi
   exact tK 30 d x I 'b' (by rw[units_in1];omega) (bZ U hi) px J R L r
  ·rw[List.any_toArray]
   exact wf n o λd w' u G J L=>mw I U G J L
 cases y with
 |tup ds=>
  obtain⟨b,us,rfl,sq,n⟩:=RV.tup_.1 S;obtain⟨d_,o,tp,_⟩:=I.tuple sq;cases T;obtain⟨z,B⟩:=p h.1.1 h.1.2.1 h.1.2.2 n o;have tp:s.heap.IsTuple b d_.toArray:=tp;exact⟨_,h.2,λf q=>SeqAt.in_tupleAt _ tp z (by rw[B];exact q s I),λf q=>SeqAt.notIn_tupleAt _ tp z (by rw[B];exact q s I)⟩
 |ref b=>
  cases RV.ref_.1 S;cases T;have h:match rdL (M b) with
   |some ds=>(aJ x=true/\aI ds=true/\aT ds<=30)/\Q (inD x ds)
   |none=>rl (rdD (M b)) λZ=>rl (keyD x) λk=>Q (valD Z k).isSome:=h
  split at h
  ·rename_i ds W
   obtain⟨vs,sq,n⟩:=m.list W;obtain⟨d_,o,tp,_⟩:=I.list sq;obtain⟨z,B⟩:=p h.1.1 h.1.2.1 h.1.2.2 n o;exact⟨_,h.2,λf q=>SeqAt.in_listAt _ tp.isList z (by rw[B];exact q s I),λf q=>SeqAt.notIn_listAt _ tp.isList z (by rw[B];exact q s I)⟩
  ·obtain⟨Z,W,h⟩:=xL h
   obtain⟨k,e2,h⟩:=xL h;obtain⟨j',e3,e4,_⟩:=m.dict W
   have:=zS e2 R
   subst this;have g:DGet H b (kV k) (valV j' k):=.inl ⟨j',k,e3,rfl,rfl⟩;refine⟨_,h,λf q=>d_in 'b' I g r λl Y=>?_,λf q=>FT 'b' I g r λl Y=>?_⟩
   ·rw[sx e4];exact q l Y
   ·rw[sx e4];exact q l Y
 |str j=>
  cases RV.str_.1 S;cases x with
  |str i=>
   cases RV.str_.1 R;obtain⟨t,rfl⟩:=r;obtain⟨t',rfl⟩:=T;exact⟨_,h,λf q=>P.in_str (q s I),λf q=>notIn_str (q s I)⟩
  |_=>exact Yh h
 |_=>exact Yh h
def dInV:R2d:=λx y M Q=>dInP x y M λb=>Q (.bl b) M
def vk:R2d:=λx y M Q=>dInP x y M λb=>Q (.bl (!b)) M
theorem Ip(hu:X.A.units+40<cLine):OpD X (compareOp .In) dInV:=by
 intro x y v u H M Q f g d h pins s ρ m n I r j;obtain⟨b,q,k,_⟩:=in_D I hu f g d r j h;exact k _ λo l=>⟨.bl b,H,l,rfl,aD (RV.bl_.2 rfl) d q⟩
theorem Cs(hu:X.A.units+40<cLine):OpD X (compareOp .NotIn) vk:=by
 intro x y v u H M Q f g d h pins s ρ m n I r j;obtain⟨b,q,_,k⟩:=in_D I hu f g d r j h;exact k _ λo l=>⟨.bl (!b),H,l,rfl,aD (RV.bl_.2 rfl) d q⟩
def xi:D->Bool
 |.non=>true
 |_=>false
def isBl:D->Bool
 |.bl _=>true
 |_=>false
def isB:Bool->D->Bool
 |true,.bl a=>a
 |false,.bl a=>!a
 |_,_=>false
def isW(x y:D):Bool:=match y with
 |.non=>true
 |.bl _=>isBl x
 |_=>false
def AY(x y:D):Bool:=match y with
 |.non=>xi x
 |.bl b=>isB b x
 |_=>false
def dIsV:R2d:=λx y M Q=>isW x y=true/\Q (.bl (AY x y)) M
def vm:R2d:=λx y M Q=>isW x y=true/\Q (.bl (!AY x y)) M
theorem sy{K:Za}{x:D}{v:V}(r:RV K H x v):decide (v=.non)=xi x:=by
 cases x with
 |non=>cases RV.non_.1 r;rfl
 |tup ds=>obtain⟨a,xs,rfl,_⟩:=RV.tup_.1 r;rfl
 |bl _=>cases RV.bl_.1 r;rfl
 |int _=>cases RV.int_.1 r;rfl
 |str _=>cases RV.str_.1 r;rfl
 |ref _=>cases RV.ref_.1 r;rfl
 |ty _=>cases RV.ty_.1 r;rfl
theorem Iq(a b:Bool):(a==b)=isB b (.bl a):=by cases a<;>cases b<;>rfl
theorem Ir:OpD X (compareOp .Is) dIsV:=by
 intro x y v u H M Q d f g h;obtain⟨j,k⟩:=h;cases y with
 |non=>
  cases RV.non_.1 f;exact gg HJ ⟨rfl,by rw[sy d];exact aD (RV.bl_.2 rfl) g k⟩
 |bl b=>
  cases x with
  |bl a=>
   cases RV.bl_.1 d;cases RV.bl_.1 f;intro pins s ρ m n I r l;cases r;cases l;refine is_bool ?_;rw[Iq];exact⟨.bl (isB b (.bl a)),H,I,rfl,aD (RV.bl_.2 rfl) g k⟩
  |_=>cases j
 |_=>cases j
theorem Ct:OpD X (compareOp .IsNot) vm:=by
 intro x y v u H M Q d f g h;obtain⟨j,k⟩:=h;cases y with
 |non=>
  cases RV.non_.1 f;exact gg FB ⟨rfl,by rw[sy d];exact aD (RV.bl_.2 rfl) g k⟩
 |bl b=>
  cases x with
  |bl a=>
   cases RV.bl_.1 d;cases RV.bl_.1 f;intro pins s ρ m n I r l;cases r;cases l;refine isnot_bool ?_;rw[show(a != b) = !isB b (.bl a) by cases a<;>cases b<;>rfl];exact⟨.bl (!isB b (.bl a)),H,I,rfl,aD (RV.bl_.2 rfl) g k⟩
  |_=>cases j
 |_=>cases j
def dLt:D->D->MH->DK->Prop
 |.int i,.int j,M,Q=>Q (.bl (decide (i<j))) M
 |.tup [.int a,.int b],.tup [.int c,.int d],M,Q=>Q (.bl (decide (a<c\/a=c/\b<d))) M
 |_,_,_,_=>False
theorem lex2(a b c d:Int):HT.lexLt [a,b] [c,d]=decide (a<c\/a=c/\b<d):=by
 rw[HT.oJ,HT.oJ,HT.pJ];split
 ·rename_i e
  subst e;split
  ·rename_i e
   subst e;simp
  ·simp
 ·rename_i e
  simp[e]
theorem Fe{K:Za}{H:Hp}{a b:Int}{vs:List V}{d_:Zd}(r:RVs K H [.int a,.int b] vs)(v:Vals vs d_):IntsAre d_.toArray.toList [a,b]:=by
 rw[RVs] at r;obtain⟨x,k,rfl,g,d⟩:=r;rw[RVs] at d;obtain⟨y,l,rfl,j,f⟩:=d;rw[RVs] at f;subst f;cases RV.int_.1 g;cases RV.int_.1 j;exact intsAre_of (ns:=[a,b]) v
theorem Iu(hu:X.A.units+40<cLine):OpD X (compareOp .Lt) dLt:=by
 intro x y v u H M Q d f k h;unfold dLt at h;split at h
 ·exact tN (g:=λi j=>decide (i<j)) Jy _ _ v u H _ _ d f k h
 ·obtain⟨p,us,rfl,sq,l⟩:=RV.tup_.1 d
  obtain⟨q,G,rfl,m,n⟩:=RV.tup_.1 f;intro pins s ρ J K I r o;obtain⟨d_,z,tp,_⟩:=I.tuple sq;obtain⟨l_,B,C,_⟩:=I.tuple m;cases r;cases o;refine HT.AC tp C (Fe l z) (Fe n B) 'b' ?_;rw[lex2];exact⟨.bl _,H,I,rfl,aD (RV.bl_.2 rfl) k h⟩
 ·exact Yh h
def dCmp:CmpOp->R2d
 |.Eq=>dEqV
 |.NotEq=>dNeV
 |.Lt=>dLt
 |.LtE=>dIB λi j=>decide (i<=j)
 |.Gt=>dIB λi j=>decide (j<i)
 |.GtE=>dIB λi j=>decide (j<=i)
 |.Is=>dIsV
 |.IsNot=>vm
 |.In=>dInV
 |.NotIn=>vk
theorem zT(hu:X.A.units+40<cLine)(op:CmpOp):OpD X (compareOp op) (dCmp op):=by
 cases op with
 |Eq=>exact Im hu
 |NotEq=>exact Io hu
 |Lt=>exact Iu hu
 |LtE=>exact tN Jz
 |Gt=>exact tN JA
 |GtE=>exact tN JB
 |Is=>exact Ir
 |IsNot=>exact Ct
 |In=>exact Ip hu
 |NotIn=>exact Cs hu
def xW(X:Cx):R2:=λx y H Q=>∀f d pins s ρ v u,Inv X pins ρ H s->RelV x v->RelV y u->subscripted d false v u=operate [v,u] (getItem v u)->wpAny 'c' X.A (subscriptTail f d v u) (EP X pins ρ Q) X.xe s
theorem ix_W:IxR X (xW X):=λd f pins s σ _ _ _ v u _ I g j h k=>h d f pins s σ v u I g j k
theorem mx{r:R2}{x y:V}{Q:VK}(h:IxR X r)(q:r x y H Q):xW X x y H Q:=λd f pins s ρ v u I g j k=>h d f pins s ρ H x y v u Q I g j q k
theorem GA{x y:V}{Q j:VK}(h:xW X x y H Q)(g:∀v H',Q v H'->j v H'):xW X x y H j:=λd f pins s ρ v u I k l m=>thn (h d f pins s ρ v u I k l m) λ_ _ ⟨v,H',n,r,q⟩=>⟨v,H',n,r,g v H' q⟩
theorem rp(hu:X.A.units+1<cLine):IxR X (λx y H Q=>∃a v,x=.ref a/\DGet H a y (some v)/\Q v H):=by
 intro d f pins s σ H x y v u Q I j k h l;obtain⟨a,z,rfl,g,q⟩:=h;cases j;exact tail_any (zc I g) PySem.F.slot_dict_getitem.lookup (BV hu I g k λo p m n=>⟨z,H,m,n,q⟩) l
theorem nS{K:Za}:∀{f:ZB}{g:List (Key×V)}{k:Key}{d:D},g.map (·.1)=f.map (·.1)->RVs K H (f.map (·.2)) (g.map (·.2))->valD f k=some d->∃v,valV g k=some v/\RV K H d v
 |[],_,_,_,_,_,h=>by cases h
 |(k',d')::f,[],_,_,e,_,_=>by cases e
 |(k',d')::f,(j,l)::g,k,d,e,r,h=>by
  simp only[YJ,List.cons.injEq] at e;obtain⟨m,n⟩:=e;subst m;simp only[YJ] at r;rw[RVs] at r;obtain⟨v,vs,z,o,p⟩:=r;cases z;unfold valD at h;unfold valV;rw[XG] at h ⊢;by_cases q:j=k
  ·simp only[YV q,Option.map_some] at h ⊢
   cases h;exact⟨l,rfl,o⟩
  ·simp only[ZP q] at h ⊢
   exact nS n p h
def optD{d:Type}(o:Option d)(Q:d->Prop):Prop:=match o with
 |some x=>Q x
 |none=>False
theorem aU{d:Type}{o:Option d}{Q:d->Prop}(h:optD o Q):∃x,o=some x/\Q x:=by
 cases o with
 |none=>exact Yh h
 |some x=>exact⟨x,rfl,h⟩
def dIx:R2d:=λx y M Q=>match x,y with
 |.tup ds,.int i=>optD (atI ds i) λd=>Q d M
 |.str z,.int i=>z.length<=sizeLine/\optD (atI z.cps.toList i) λc=>Q (.str ⟨#[c]⟩) M
 |.ref a,.int i=>match M a with
  |some (.lst ds)=>optD (atI ds i) λd=>Q d M
  |some (.rol ds)=>optD (atI ds i) λd=>Q d M
  |some (.dic f)=>optD (valD f (.inl i)) λd=>Q d M
  |some (.rod f)=>optD (valD f (.inl i)) λd=>Q d M
  |_=>False
 |.ref a,.str k=>match M a with
  |some (.dic f)=>optD (valD f (.inr k)) λd=>Q d M
  |some (.rod f)=>optD (valD f (.inr k)) λd=>Q d M
  |_=>False
 |_,_=>False
theorem xM{K:Za}{ds:List D}{vs:List V}{i:Int}{d:D}(f:RVs K H ds vs)(h:atI ds i=some d):∃v,atI vs i=some v/\RV K H d v:=by
 unfold atI at h ⊢;rw[←f.len];cases q:ixN ds.length i with
 |none=>rw[q] at h;cases h
 |some j=>
  rw[q] at h;obtain⟨v,g,r⟩:=cB f.p (show ds[j]?=some d from h);exact⟨v,g,r⟩
theorem ixd(hu:X.A.units+40<cLine){x y:D}{v u:V}{M:MH}{Q:DK}(J:RV X.K H x v)(G:RV X.K H y u)(g:RM X.K M H)(h:dIx x y M Q):xW X v u H (lift X.K H Q):=by
 cases x with
 |tup ds=>cases y with
  |int i=>
   obtain⟨d,f,q⟩:=aU h;obtain⟨a,vs,rfl,sq,j⟩:=RV.tup_.1 J;cases RV.int_.1 G;obtain⟨l,m,r⟩:=xM j f;exact mx HU ⟨a,vs,i,l,rfl,rfl,sq,m,aD r g q⟩
  |_=>exact Yh h
 |str z=>cases y with
  |int i=>
   obtain⟨O,h⟩:=h;obtain⟨c,f,q⟩:=aU h;cases RV.str_.1 J;cases RV.int_.1 G;exact mx HV ⟨z,i,c,rfl,rfl,O,f,aD (RV.str_.2 rfl) g q⟩
  |_=>exact Yh h
 |ref a=>
  cases RV.ref_.1 J;cases y with
  |int i=>
   cases RV.int_.1 G;have h:match M a with
    |some (.lst ds)=>optD (atI ds i) λd=>Q d M
    |some (.rol ds)=>optD (atI ds i) λd=>Q d M
    |some (.dic n)=>optD (valD n (.inl i)) λd=>Q d M
    |some (.rod n)=>optD (valD n (.inl i)) λd=>Q d M
    |_=>False:=h
   split at h
   ·rename_i ds o
    obtain⟨d,f,q⟩:=aU h;obtain⟨vs,m,j⟩:=g a _ o;obtain⟨l,p,r⟩:=xM j f;exact mx zH ⟨a,vs,i,l,rfl,rfl,SqL.of m,p,aD r g q⟩
   ·rename_i ds o
    obtain⟨d,f,q⟩:=aU h;obtain⟨vs,m,j⟩:=g a _ o;obtain⟨l,p,r⟩:=xM j f;exact mx zH ⟨a,vs,i,l,rfl,rfl,.inl m,p,aD r g q⟩
   ·rename_i n o
    obtain⟨d,f,q⟩:=aU h;obtain⟨C,m,p,j⟩:=g a _ o;obtain⟨l,B,r⟩:=nS p j f;exact mx (rp 'b') ⟨a,l,rfl,by rw[←B];exact DGet.k (k:=.inl i) m,aD r g q⟩
   ·rename_i n o
    obtain⟨d,f,q⟩:=aU h;obtain⟨L,C,m,p,j⟩:=g a _ o;obtain⟨l,B,r⟩:=nS p j f;exact mx (rp 'b') ⟨a,l,rfl,by rw[←B];exact .inl ⟨C,.inl i,.inr ⟨L,m⟩,rfl,rfl⟩,aD r g q⟩
   ·exact Yh h
  |str k=>
   cases RV.str_.1 G;have h:match M a with
    |some (.dic n)=>optD (valD n (.inr k)) λd=>Q d M
    |some (.rod n)=>optD (valD n (.inr k)) λd=>Q d M
    |_=>False:=h
   split at h
   ·rename_i n o
    obtain⟨d,f,q⟩:=aU h;obtain⟨C,m,p,j⟩:=g a _ o;obtain⟨l,B,r⟩:=nS p j f;exact mx (rp 'b') ⟨a,l,rfl,by rw[←B];exact DGet.k (k:=.inr k) m,aD r g q⟩
   ·rename_i n o
    obtain⟨d,f,q⟩:=aU h;obtain⟨L,C,m,p,j⟩:=g a _ o;obtain⟨l,B,r⟩:=nS p j f;exact mx (rp 'b') ⟨a,l,rfl,by rw[←B];exact .inl ⟨C,.inr k,.inr ⟨L,m⟩,rfl,rfl⟩,aD r g q⟩
   ·exact Yh h
  |_=>exact Yh h
 |_=>exact Yh h
def lK:Expr->Bool
 |.Slice _ _ _ _=>false
 |_=>true
theorem GB(h:lK b=true):zG b:=by
 intro o i;cases b<;>first | rfl | (exact absurd (show false=true from h) YC)
theorem Iv(hu:X.A.units+40<cLine){d f:WE}(ha:PEd X a d)(hb:PEd X b f)(g:lK b=true):PEd X (.Subscript a b pos) (wOp dIx d f):=by
 intro σ M ρ H Q rs j h;refine bH (JI ix_W (pe_W a) (pe_W b) (GB g)) ?_;show tW X a ρ H _;refine aN (two ha hb rs j h) λv l m=>?_
 show tW X b ρ l _;refine aN m λu z n=>?_
 obtain⟨k,x,y,M2,o,p,r,q⟩:=n;exact GA (ixd hu o p r q) λ_ _=>bX k
end
end DD
namespace HT
open PySem PySem.Spec PyProof.Rows L2
section
variable {prog:Zw}{w:World}{A:Around}{E:Zb}{s:Shared}
theorem rV{t sl:Addr}{a:Zl}{b c:Value}{lo hi:Zq}{Q:Zb}(ht:IsTup s.heap t a)(d:s.heap.IsSliceOf sl b c .none)(f:IsPart b lo)(g:IsPart c hi)
  (hw:sIx a.size 0 lo=0/\sIx a.size a.size hi=a.size) (h:Q (.ref t) s):wpAny (model prog w) A (getItem (.ref t) (.ref sl)) Q E s:=by
 obtain⟨os,j,k,n⟩:=id d;have l:s.TypeIs (.ref sl) "slice":=⟨os,j,k⟩;unfold getItem;try with_reducible refine Yj ?_
 first | refine Yb (Yc ?_) | skip
 refine Yb (wpAny_sequenceKey ht.typeIs 'a' ?_);refine Yb (wpAny_callSpecial?_slot (name:=Str.ofString "__getitem__") ht.typeIs PyProof.Rows.slot_tuple_getitem
  (wpAny_call_entry PyProof.Rows.slot_tuple_getitem ht.typeIs entry_tuple_getitem ?_ (args_tuple_getitem _ _)))
 show wpAny _ _ (Builtin.Tuple.tupleItemsOf (.ref t) >>= _) _ _ s;refine Yb (tupleItemsOf_ ht ?_);refine Yb (wpAny_typeOf l ?_);rw[if_pos 'a'];refine Yb (lr d f g ?_);show wpAny _ _ (if(((sIx a.size 0 lo:Nat):Int)==0&&(1:Int)==1&&(sIx a.size a.size hi-sIx a.size 0 lo)==a.size)=true then _ else _) _ _ s;rw[if_pos (by rw[hw.1,hw.2];simp)];refine Yb (m:=Builtin.Tuple.tupleIsExact _) (Yb (wpAny_typeOf ht.typeIs (Yc ?_)));rw[if_pos 'a'];refine Yb (wpAny_rule ?_);exact Yc ⟨_,rfl,Yc h⟩
end
end HT
namespace DD
open PySem PySem.Spec PyProof.Rows L2
section
variable {X:Cx}{H:Hp}{e a b c o:Expr}{es:Zg}{pos:Pos}
theorem Iw:SlR X (λx lo hi H Q=>∃z,x=.str z/\z.length<=sizeLine/\Q (.str (Txt.slice z lo hi)) H):=by
 intro pins s σ H x v B C lo hi sl Q I r y A n h;obtain⟨z,rfl,hz,q⟩:=h;obtain⟨t,rfl⟩:=r;obtain⟨d,f,g,m⟩:=y;refine⟨"str",_,F.slot_str_getitem.lookup,typeIs_str _ _ _,?_⟩;cases A with
 |none=>cases n with
  |none=>exact wpAny_getItem_str_slice (l:=none) (u:=none) (st:=none) ⟨d,f,g,m⟩ rfl (post_val_or_str ⟨ZW (Txt.slice_le z _ _) hz,λt' k=>⟨.str _,H,I.tok _,⟨t',rfl⟩,q⟩⟩)
  |int j u=>exact wpAny_getItem_str_slice (l:=none) (u:=some (j,u)) (st:=none) ⟨d,f,g,m⟩ rfl (post_val_or_str ⟨ZW (Txt.slice_le z _ _) hz,λt' k=>⟨.str _,H,I.tok _,⟨t',rfl⟩,q⟩⟩)
 |int i p=>cases n with
  |none=>exact wpAny_getItem_str_slice (l:=some (i,p)) (u:=none) (st:=none) ⟨d,f,g,m⟩ rfl (post_val_or_str ⟨ZW (Txt.slice_le z _ _) hz,λt' k=>⟨.str _,H,I.tok _,⟨t',rfl⟩,q⟩⟩)
  |int j u=>exact wpAny_getItem_str_slice (l:=some (i,p)) (u:=some (j,u)) (st:=none) ⟨d,f,g,m⟩ rfl (post_val_or_str ⟨ZW (Txt.slice_le z _ _) hz,λt' k=>⟨.str _,H,I.tok _,⟨t',rfl⟩,q⟩⟩)
def slW(X:Cx):V->Option Int->Option Int->Hp->VK->Prop:=λx lo hi H Q=>∀pins s ρ v d f sl,Inv X pins ρ H s->RelV x v->s.heap.IsSliceOf sl d f .none->IsPart d lo->IsPart f hi ->
 ∃T id,typeLookup (.type T) "__getitem__" = pure (some (.builtin id))/\s.TypeIs v T/\wpAny 'c' X.A (getItem v (.ref sl)) (EP X pins ρ Q) X.xe s
theorem sl_W:SlR X (slW X):=λpins s σ _ _ v d f _ _ sl _ I g j k l h=>h pins s σ v d f sl I g j k l
theorem tO{r:V->Option Int->Option Int->Hp->VK->Prop}{x:V}{lo hi:Zq}{Q:VK}(h:SlR X r)(q:r x lo hi H Q):slW X x lo hi H Q:=λpins s ρ v d f sl I g j k l=>h pins s ρ H x v d f lo hi sl Q I g j k l q
theorem D9{x:V}{lo hi:Zq}{Q d:VK}(h:slW X x lo hi H Q)(g:∀v H',Q v H'->d v H'):slW X x lo hi H d:=λpins s ρ v f j sl I k l m n=>
 let⟨T,id,h1,h2,h3⟩:=h pins s ρ v f j sl I k l m n;⟨T,id,h1,h2,thn h3 λ_ _ ⟨v,H',p,r,q⟩=>⟨v,H',p,r,g v H' q⟩⟩
def cutL{d:Type}(xs:List d)(lo hi:Zq):List d:=(xs.drop (HT.sIx xs.length 0 lo)).take (HT.sIx xs.length xs.length hi-HT.sIx xs.length 0 lo)
theorem Cu{K:Za}{ds:List D}{vs:List V}(r:RVs K H ds vs)(lo hi:Zq):RVs K H (cutL ds lo hi) (cutV vs lo hi):=by
 unfold cutL cutV;rw[←r.len];exact RVs.of (vc _ (zJ _ r.p))
def rSlW(K:Za):V->Option Int->Option Int->Hp->VK->Prop:=λx lo hi H Q=>∃a xs,x=.ref a/\SqT K H a xs/\(HT.sIx xs.length 0 lo=0/\HT.sIx xs.length xs.length hi=xs.length)/\Q (.ref a) H
theorem GC:SlR X (rSlW X.K):=by
 intro pins s σ H x v l m lo hi sl Q I d f g j h;obtain⟨a,xs,rfl,hx,hw,q⟩:=h;cases d;obtain⟨d_,r,ht,hz⟩:=I.tuple hx;have k:d_.toArray.size=xs.length:=by rw[YG];exact r.length.symm
 refine⟨"tuple",_,PyProof.Rows.slot_tuple_getitem.lookup,ht.typeIs,?_⟩;exact HT.rV ht f g j (by rw[k];exact hw) ⟨.ref a,H,I,rfl,q⟩
def dSl(x:D)(lo hi:Zq)(M:MH)(Q:DK):Prop:=match x with
 |.tup ds=>Q (.tup (cutL ds lo hi)) M
 |.str z=>z.length<=sizeLine/\Q (.str (Txt.slice z lo hi)) M
 |.ref a=>optD (rdL (M a)) λds=>∀p,M p=none->Q (.ref p) (updM M p (.lst (cutL ds lo hi)))
 |_=>False
theorem sld{x:D}{v:V}{lo hi:Zq}{M:MH}{Q:DK}(g:RV X.K H x v)(d:RM X.K M H)(h:dSl x lo hi M Q):slW X v lo hi H (lift X.K H Q):=by
 cases x with
 |tup ds=>
  obtain⟨a,vs,rfl,sq,f⟩:=RV.tup_.1 g;by_cases hw:HT.sIx ds.length 0 lo=0/\HT.sIx ds.length ds.length hi=ds.length
  ·have h:Q (.tup (cutL ds lo hi)) M:=h
   have e:cutL ds lo hi=ds:=by unfold cutL;rw[hw.1,hw.2];simp
   rw[e] at h;exact tO GC ⟨a,vs,rfl,sq,by rw[←f.len];exact hw,aD g d h⟩
  refine tO HS ⟨a,vs,rfl,sq,by rw[←f.len];exact hw,λp hp=>?_⟩;have k:=Kp.new (o:=.tup (cutV vs lo hi)) hp;exact⟨k,.tup (cutL ds lo hi),M,RV.tup_.2 ⟨p,_,rfl,SqT.of aG,RVs.mono k _ (Cu f lo hi)⟩,d.newH hp,h⟩
 |str z=>cases RV.str_.1 g;exact tO Iw ⟨z,rfl,h.1,aD (RV.str_.2 rfl) d h.2⟩
 |ref a=>
  cases RV.ref_.1 g;obtain⟨ds,j,q⟩:=aU h;obtain⟨vs,sq,f⟩:=d.list j;refine tO FQ ⟨a,vs,rfl,sq,λp hp=>?_⟩;have k:=Kp.new (o:=.lst (cutV vs lo hi)) hp;exact⟨k,.ref p,_,RV.ref_.2 rfl,d.new (m:=.lst (cutL ds lo hi)) hp ⟨_,aG,RVs.mono k _ (Cu f lo hi)⟩,q p (d.fresh hp)⟩
 |_=>exact Yh h
def intD(x:D)(Q:Int->Prop):Prop:=match x with
 |.int i=>Q i
 |_=>False
theorem rq{x:D}{Q:Int->Prop}(h:intD x Q):∃i,x=.int i/\Q i:=by
 cases x with
 |int i=>exact⟨i,rfl,h⟩
 |_=>exact Yh h
abbrev WO:=DS->MH->(Option Int->MH->Prop)->Prop
def oWp(X:Cx)(e:Option Expr):TO:=λρ H Q=>∀pins s,Inv X pins ρ H s->wpAny 'c' X.A (evalPart e X.env) (λu d=>∃o H',Inv X pins ρ H' d/\IsPart u o/\Q o H') X.xe s
theorem po_W(e:Option Expr):PO X e (oWp X e):=λpins s _ _ _ I h=>h pins s I
def POd(X:Cx)(e:Option Expr)(t:WO):Prop:=∀σ M ρ H Q,RS X.K H σ ρ->RM X.K M H->t σ M Q->oWp X e ρ H λo H'=>Kp H H'/\∃M',RM X.K M' H'/\Q o M'
theorem Ea:POd X none (λ_ M Q=>Q none M):=λσ M ρ H Q rs d q pins s I=>FN pins s ρ H _ I ⟨Kp.refl H,M,d,q⟩
theorem Eb{t:WE}(h:PEd X e t):POd X (some e) (λσ M Q=>t σ M λx M1=>intD x λi=>Q (some i) M1):=λσ M ρ H Q rs f q pins s I=>
 FO (pe_W e) pins s ρ H _ I (aN (h σ M ρ H _ rs f q) λv l ⟨g,x,M1,j,k,d⟩=>by
  obtain⟨i,rfl,d⟩:=rq d;exact⟨i,RV.int_.1 j,g,M1,k,d⟩)
theorem xN{e:Option Expr}{ρ:L2.St}{Q d:Option Int->Hp->Prop}(h:oWp X e ρ H Q)(f:∀o H',Q o H'->d o H'):oWp X e ρ H d:=λpins s I=>thn (h pins s I) λ_ _ ⟨o,H',g,r,q⟩=>⟨o,H',g,r,f o H' q⟩
def wSl(d:WE)(tl f:WO):WE:=λσ M Q=>d σ M λx M1=>tl σ M1 λl M2=>f σ M2 λu g=>dSl x l u g Q
theorem Ix{g:WE}{tl j:WO}{lo hi:Option Expr}{p2:Pos}(ha:PEd X a g)(hl:POd X lo tl)(p:POd X hi j):PEd X (.Subscript a (.Slice lo hi none p2) pos) (wSl g tl j):=by
 intro σ M ρ H Q rs r h;refine bH (DM sl_W (pe_W a) (po_W lo) (po_W hi)) ?_;show tW X a ρ H _;refine aN (ha σ M ρ H _ rs r h) λv k y=>?_
 obtain⟨d,x,M1,z,A,B⟩:=y;show oWp X lo ρ k _;refine xN (hl σ M1 ρ k _ (rs.mono d) A B) λl m C=>?_
 obtain⟨f,M2,G,J⟩:=C;show oWp X hi ρ m _;refine xN (p σ M2 ρ m _ (rs.mono (d.trans f)) G J) λu P K=>?_
 obtain⟨n,R,L,O⟩:=K;exact D9 (sld (RV.mono (f.trans n) x z) L O) λ_ _=>bX (d.trans (f.trans n))
def cW(X:Cx)(f:Value):List V->Hp->VK->Prop:=λvs H Q=>∀pins s ρ us,Inv X pins ρ H s->Vals vs us->wpAny 'c' X.A (call f us) (EP X pins ρ Q) X.xe s
theorem c_W(f:Value):fq X f (cW X f):=λpins s σ _ _ us _ I r h=>h pins s σ us I r
theorem fB{f:Value}{r:List V->Hp->VK->Prop}{vs:List V}{Q:VK}(h:fq X f r)(q:r vs H Q):cW X f vs H Q:=λpins s ρ us I d=>h pins s ρ H vs us Q I d q
theorem zU{f:Value}{vs:List V}{Q d:VK}(h:cW X f vs H Q)(g:∀v H',Q v H'->d v H'):cW X f vs H d:=λpins s ρ us I j=>thn (h pins s ρ us I j) λ_ _ ⟨v,H',k,r,q⟩=>⟨v,H',k,r,g v H' q⟩
def ip(X:Cx)(f:Value)(r:SpD):Prop:=∀ds vs H M Q,RVs X.K H ds vs->RM X.K M H->r ds M Q->cW X f vs H (lift X.K H Q)
theorem gY{x:Str}{id:String}{r:SpD}{t:WA}{p:Pos}(hc:ip X (.builtin id) r)(hg:Gl X x)(hm:X.mg x=none)(d:bootBuiltins x=some (.builtin id))(hn:x ≠ "__name__")(f:(x==("__debug__" : Str))=false)(g:aA e=true)(j:es.all aA=true)
  (ha:PAd X (e::es) t):PEd X (.Call (.Name x p) (e::es) [] pos) (jK r t):=by
 intro σ M ρ H Q rs k h;refine bH (DH (c_W _) hg hm d (pa_W (e::es)) hn f (a9 g) (dh j)) ?_;show tWA X (e::es) ρ H _;refine dl (ha σ M ρ H _ rs k h) λvs l m=>?_
 obtain⟨n,ds,M1,u,_,y,z⟩:=m;exact zU (hc ds vs l M1 Q u y z) λ_ _=>bX n
theorem tP{x:Str}{id:String}{r:SpD}{t:WA}{p:Pos}(hc:ip X (.type id) r)(hg:Gl X x)(hm:X.mg x=none)(d:bootBuiltins x=some (.type id))(hn:x ≠ "__name__")(f:(x==("__debug__" : Str))=false)(g:aA e=true)(j:es.all aA=true)
  (ha:PAd X (e::es) t):PEd X (.Call (.Name x p) (e::es) [] pos) (jK r t):=by
 intro σ M ρ H Q rs k h;refine bH (BP (c_W _) hg hm d (pa_W (e::es)) hn f (a9 g) (dh j)) ?_;show tWA X (e::es) ρ H _;refine dl (ha σ M ρ H _ rs k h) λvs l m=>?_
 obtain⟨n,ds,M1,u,_,y,z⟩:=m;exact zU (hc ds vs l M1 Q u y z) λ_ _=>bX n
theorem rvs1{K:Za}{d:D}{vs:List V}(r:RVs K H [d] vs):∃v,vs=[v]/\RV K H d v:=by
 rw[RVs] at r;obtain⟨v,j,rfl,g,f⟩:=r;rw[RVs] at f;subst f;exact⟨v,rfl,g⟩
theorem rvs2{K:Za}{d d':D}{vs:List V}(r:RVs K H [d,d'] vs):∃v f,vs=[v,f]/\RV K H d v/\RV K H d' f:=by
 rw[RVs] at r;obtain⟨v,l,rfl,g,j⟩:=r;obtain⟨f,rfl,k⟩:=rvs1 j;exact⟨v,f,rfl,g,k⟩
def dLen:SpD:=λds M Q=>match ds with
 |[.str z]=>z.length<=sizeLine/\Q (.int z.length) M
 |[.tup xs]=>Q (.int xs.length) M
 |[.ref a]=>match M a with
  |some (.lst xs)=>Q (.int xs.length) M
  |some (.rol xs)=>Q (.int xs.length) M
  |some (.dic d)=>Q (.int d.length) M
  |some (.rod d)=>Q (.int d.length) M
  |_=>False
 |_=>False
theorem Cv:fq X (.builtin "len") (λxs H Q=>∃a d,xs=[V.ref a]/\Rd H a (.dK d)/\Q (.int d.length) H):=by
 rintro pins s σ H xs us Q I r ⟨a,d,rfl,ha,q⟩;obtain⟨u,rfl,f⟩:=vals1 r;cases f;exact Fa I ha λt j g=>⟨.int d.length,H,g,⟨t,rfl⟩,q⟩
theorem Iy:ip X (.builtin "len") dLen:=by
 intro ds vs H M Q r d h;unfold dLen at h;split at h
 ·obtain⟨v,rfl,j⟩:=rvs1 r
  cases RV.str_.1 j;exact fB xv ⟨_,rfl,h.1,aD (RV.int_.2 rfl) d h.2⟩
 ·obtain⟨v,rfl,j⟩:=rvs1 r
  obtain⟨a,us,rfl,sq,f⟩:=RV.tup_.1 j;exact fB lu ⟨a,us,rfl,.inr sq,aD (RV.int_.2 (by rw[f.len])) d h⟩
 ·obtain⟨v,rfl,j⟩:=rvs1 r
  cases RV.ref_.1 j;split at h
  ·rename_i xs g
   obtain⟨us,sq,f⟩:=d _ _ g;exact fB lu ⟨_,us,rfl,.inl (SqL.of sq),aD (RV.int_.2 (by rw[f.len])) d h⟩
  ·rename_i xs g
   obtain⟨us,sq,f⟩:=d _ _ g;exact fB lu ⟨_,us,rfl,.inl (.inl sq),aD (RV.int_.2 (by rw[f.len])) d h⟩
  ·rename_i n g
   obtain⟨k,l,m,f⟩:=d _ _ g;exact fB BZ ⟨_,k,rfl,l,aD (RV.int_.2 (by have:=congrArg List.length m;simp only[ZE] at this;rw[this])) d h⟩
  ·rename_i n g
   obtain⟨p,k,l,m,f⟩:=d _ _ g;exact fB Cv ⟨_,k,rfl,.inr ⟨p,l⟩,aD (RV.int_.2 (by have:=congrArg List.length m;simp only[ZE] at this;rw[this])) d h⟩
  ·exact Yh h
 ·exact Yh h
def tyD(x:D)(M:MH):Option String:=match x with
 |.non=>some "NoneType"
 |.bl _=>some "bool"
 |.int _=>some "int"
 |.str _=>some "str"
 |.tup _=>some "tuple"
 |.ref a=>match M a with
  |some (.lst _)=>some "list"
  |some (.dic _)=>some "dict"
  |_=>none
 |.ty _=>none
def isT(t T:String):Bool:=t==T||(t == "bool" && T == "int")
def kinds:List String:=["NoneType","bool","int","str","tuple","list","dict"]
theorem Cw:∀t∈kinds,∀T∈kinds,T ≠ "NoneType"->(if(Value.type t==Value.type T)=true then some true else if PySem.W.kitMeta T=true then(fastBuiltinMro t).map (·.contains (.type T)) else none)=some (isT t T):=by rfl'
def tysD:List D->Option (List String)
 |[]=>some []
 |.ty T::r=>(tysD r).map (T :: ·)
 |_=>none
def AZ(T:String):Bool:=kinds.contains T&&T != "NoneType"
def rz:SpD:=λds M Q=>match ds with
 |[x,.ty T]=>(T∈kinds/\T ≠ "NoneType")/\optD (tyD x M) λt=>Q (.bl (isT t T)) M
 |[x,.tup ts]=>optD (tysD ts) λd=>d.all AZ=true/\optD (tyD x M) λt=>Q (.bl (d.any (isT t))) M
 |_=>False
theorem zV{K:Za}:∀{ts:List D}{d:List String}{vs:List V},tysD ts=some d->RVs K H ts vs->vs=d.map V.ty
 |[],d,vs,h,r=>by cases h;rw[RVs] at r;subst r;rfl
 |.ty T::ts,d,vs,h,r=>by
  rw[tysD] at h;rw[RVs] at r;obtain⟨v,j,rfl,f,g⟩:=r;cases q:tysD ts with
  |none=>rw[q] at h;cases h
  |some k=>rw[q] at h;cases h;rw[zV q g,RV.ty_.1 f];rfl
 |.non::_,_,_,h,_=>by cases h
 |.bl _::_,_,_,h,_=>by cases h
 |.int _::_,_,_,h,_=>by cases h
 |.str _::_,_,_,h,_=>by cases h
 |.tup _::_,_,_,h,_=>by cases h
 |.ref _::_,_,_,h,_=>by cases h
theorem wg{K:Za}{t:String}(ht:t∈kinds):∀{d:List String}{us:Zd},d.all AZ=true->Vals (d.map V.ty) us->PySem.W.kitAny K (.type t) us=some (d.any (isT t))
 |[],_,_,r=>by cases r;rfl
 |T::d,_,h,r=>by
  cases r with
  |cons f j=>
   rw[XQ,YY] at h;cases f;have g:=h.1;unfold AZ at g;rw[YY] at g;have k:=Cd K (Cw t ht T (by simpa using g.1) (by simpa using g.2));unfold PySem.W.kitAny;rw[k,XH];cases isT t T with
   |true=>rfl
   |false=>exact wg ht h.2 j
theorem xO{x:D}{M:MH}{t:String}(h:tyD x M=some t):t∈kinds:=by
 cases x with
 |ref a=>
  have h:(match M a with
   |some (.lst _)=>some "list"
   |some (.dic _)=>some "dict"
   |_=>none)=some t:=h
  split at h<;>first | (cases h;decide) | cases h
 |ty _=>cases h
 |_=>cases h;decide
theorem Ec{s:Shared}{pins:Zc}{ρ:L2.St}{M:MH}{x:D}{v:V}{g c:Value}{t:String}{k:Bool}{Q:Zb}(I:Inv X pins ρ H s)(d:RV X.K H x v)(j:RM X.K M H)(r:RelV v g)(h:tyD x M=some t)(e:PySem.W.kitOne X.K (.type t) c=some k)
  (hq:∀tk,Q (.bool k) { s with toks:=tk }):wpAny 'c' X.A (call (.builtin "isinstance") [g,c]) Q X.xe s:=by
 cases x with
 |non=>cases h;cases RV.non_.1 d;exact gW I r .non e hq
 |bl b=>cases h;cases RV.bl_.1 d;exact gW I r (.bl b) e hq
 |int b=>cases h;cases RV.int_.1 d;exact gW I r (.int b) e hq
 |str b=>cases h;cases RV.str_.1 d;exact gW I r (.str b) e hq
 |ty b=>cases h
 |tup ds=>
  cases h;obtain⟨a,xs,rfl,sq,l⟩:=RV.tup_.1 d;obtain⟨_,_,tp,_⟩:=I.tuple sq;cases r;obtain⟨o,m,n,_⟩:=tp;exact PySem.W.kia_one PySem.W.kitx_tuple I.kIn ⟨o,m,n⟩ e (λz=>nomatch z) hq
 |ref a=>
  cases RV.ref_.1 d;have h:(match M a with
   |some (.lst _)=>some "list"
   |some (.dic _)=>some "dict"
   |_=>none)=some t:=h
  split at h
  ·rename_i f;cases h
   obtain⟨us,sq,l⟩:=j _ _ f;exact gW I r (.lst sq) e hq
  ·rename_i f;cases h
   obtain⟨us,sq,_⟩:=j _ _ f;exact gW I r (.dK sq) e hq
  ·cases h
theorem Ed{s:Shared}{pins:Zc}{ρ:L2.St}{M:MH}{x:D}{v:V}{m:Value}{t:String}{k:Bool}{tp:Addr}{us:Zd}{Q:Zb}(I:Inv X pins ρ H s)(f:RV X.K H x v)(p:RM X.K M H)(r:RelV v m)(h:tyD x M=some t)
  (ht:IsTup s.heap tp us.toArray) (e:PySem.W.kitAny X.K (.type t) us=some k) (hq:∀tk,Q (.bool k) { s with toks:=tk }):wpAny 'c' X.A (call (.builtin "isinstance") [m,.ref tp]) Q X.xe s:=by
 obtain⟨⟨oc,od,u,G_⟩,d,y,n,B⟩:=ht;obtain rfl:oc=.type "tuple":=y;obtain rfl:u=.seq us.toArray n:=B;cases x with
 |non=>cases h;cases RV.non_.1 f;cases r;exact PySem.W.kia_tup PySem.W.kitx_none I.kIn True.intro d e (λz=>nomatch z) hq
 |bl b=>cases h;cases RV.bl_.1 f;cases r;exact PySem.W.kia_tup PySem.W.kitx_bool I.kIn True.intro d e (λz=>nomatch z) hq
 |int b=>cases h;cases RV.int_.1 f;obtain⟨_,rfl⟩:=r;exact PySem.W.kia_tup PySem.W.kitx_int I.kIn True.intro d e (λz=>nomatch z) hq
 |str b=>cases h;cases RV.str_.1 f;obtain⟨_,rfl⟩:=r;exact PySem.W.kia_tup PySem.W.kitx_str I.kIn True.intro d e (λz=>nomatch z) hq
 |ty b=>cases h
 |tup ds=>
  cases h;obtain⟨a,xs,rfl,sq,C⟩:=RV.tup_.1 f;obtain⟨_,_,⟨o,g,j,_⟩,_⟩:=I.tuple sq;cases r;exact PySem.W.kia_tup PySem.W.kitx_tuple I.kIn ⟨o,g,j⟩ d e (λz=>nomatch z) hq
 |ref a=>
  cases RV.ref_.1 f;cases r;have h:(match M a with
   |some (.lst _)=>some "list"
   |some (.dic _)=>some "dict"
   |_=>none)=some t:=h
  split at h
  ·rename_i l;cases h
   obtain⟨G,sq,C⟩:=p _ _ l;obtain⟨_,_,_,_,_,g⟩:=I.lstM sq;exact PySem.W.kia_tup PySem.W.kitx_list I.kIn ⟨_,g,rfl⟩ d e (λz=>nomatch z) hq
  ·rename_i l;cases h
   obtain⟨G,sq,_⟩:=p _ _ l;obtain⟨_,_,_,_,o,es,J,g,j,_⟩:=E9 I.hok sq;exact PySem.W.kia_tup PySem.W.kitx_dict I.kIn ⟨o,g,j.1⟩ d e (λz=>nomatch z) hq
  ·cases h
theorem Cy:ip X (.builtin "isinstance") rz:=by
 intro ds vs H M Q r f h;unfold rz at h;split at h
 ·rename_i x T
  obtain⟨v,p,rfl,g,j⟩:=rvs2 r;cases RV.ty_.1 j;obtain⟨t,d,q⟩:=aU h.2;intro pins s ρ us I k;obtain⟨u,y,rfl,l,m⟩:=k.two;cases m;exact Ec I g f l d (Cd X.K (Cw t (xO d) T h.1.1 h.1.2)) λtk=>⟨.bl _,H,I.tok tk,rfl,aD (RV.bl_.2 rfl) f q⟩
 ·rename_i x ts
  obtain⟨v,p,rfl,g,j⟩:=rvs2 r;obtain⟨B,z,h⟩:=aU h;obtain⟨t,d,q⟩:=aU h.2;obtain⟨tp,xs,rfl,sq,A⟩:=RV.tup_.1 j;intro pins s ρ us I k;obtain⟨u,y,rfl,l,m⟩:=k.two;cases m;obtain⟨d_,n,ht,_⟩:=I.tuple sq;rw[zV z A] at n;exact Ed I g f l d ht (wg (xO d) h.1 n) λtk=>⟨.bl _,H,I.tok tk,rfl,aD (RV.bl_.2 rfl) f q⟩
 ·exact Yh h
def blsD:List D->Option (List Bool)
 |[]=>some []
 |.bl b::r=>(blsD r).map (b :: ·)
 |_=>none
theorem zW{K:Za}:∀{ds:List D}{bs:List Bool}{vs:List V},blsD ds=some bs->RVs K H ds vs->vs=bs.map V.bl
 |[],bs,vs,h,r=>by rw[RVs] at r;subst r;cases h;rfl
 |.bl b::ds,bs,vs,h,r=>by
  rw[RVs] at r;obtain⟨v,g,rfl,d,f⟩:=r;cases RV.bl_.1 d;unfold blsD at h;cases q:blsD ds with
  |none=>rw[q] at h;cases h
  |some j=>rw[q] at h;cases h;rw[zW q f];rfl
def dAll(f:List Bool->Bool):SpD:=λds M Q=>match ds with
 |[.ref a]=>match M a with
  |some (.lst xs)=>optD (blsD xs) λbs=>Q (.bl (f bs)) M
  |_=>False
 |_=>False
theorem Iz(hc:X.calm=true):ip X (.builtin "all") (dAll λbs=>bs.all id):=by
 intro ds vs H M Q r d h;unfold dAll at h;split at h
 ·obtain⟨v,rfl,f⟩:=rvs1 r
  cases RV.ref_.1 f;split at h
  ·rename_i xs g
   obtain⟨bs,j,q⟩:=aU h;obtain⟨us,sq,k⟩:=d _ _ g
   have:=zW j k
   subst this;exact fB (DT hc) ⟨_,bs,rfl,SqL.of sq,aD (RV.bl_.2 rfl) d q⟩
  ·exact Yh h
 ·exact Yh h
def dII(f:Int->Int->Int):SpD:=λds M Q=>match ds with
 |[.int i,.int j]=>Q (.int (f i j)) M
 |_=>False
theorem IA(hc:X.calm=true):ip X (.builtin "max") (dII λi j=>if j>i then j else i):=by
 intro ds vs H M Q r d h;unfold dII at h;split at h
 ·obtain⟨v,k,rfl,f,g⟩:=rvs2 r
  cases RV.int_.1 f;cases RV.int_.1 g;exact fB (BK hc) ⟨_,_,rfl,aD (RV.int_.2 rfl) d h⟩
 ·exact Yh h
theorem IB(hc:X.calm=true):ip X (.builtin "min") (dII λi j=>if j<i then j else i):=by
 intro ds vs H M Q r d h;unfold dII at h;split at h
 ·obtain⟨v,k,rfl,f,g⟩:=rvs2 r
  cases RV.int_.1 f;cases RV.int_.1 g;exact fB (BL hc) ⟨_,_,rfl,aD (RV.int_.2 rfl) d h⟩
 ·exact Yh h
def tQ:SpD:=λds M Q=>match ds with
 |[.tup xs]=>Q (.tup xs) M
 |[.ref a]=>optD (rdL (M a)) λxs=>Q (.tup xs) M
 |_=>False
theorem Ee:ip X (.type "tuple") tQ:=by
 intro ds vs H M Q r f h;unfold tQ at h;split at h
 ·obtain⟨v,rfl,d⟩:=rvs1 r
  obtain⟨a,us,rfl,sq,g⟩:=RV.tup_.1 d;exact fB pK ⟨a,us,rfl,.inr ⟨sq,aD d f h⟩⟩
 ·obtain⟨v,rfl,d⟩:=rvs1 r
  cases RV.ref_.1 d;obtain⟨xs,j,q⟩:=aU h;obtain⟨us,sq,g⟩:=f.list j;refine fB pK ⟨_,us,rfl,.inl ⟨sq,λp hp=>?_⟩⟩;have k:=Kp.new (o:=.tup us) hp;exact⟨k,.tup xs,M,RV.tup_.2 ⟨p,_,rfl,SqT.of aG,RVs.mono k _ g⟩,f.newH hp,q⟩
 ·exact Yh h
def tR:SpD:=λds M Q=>match ds with
 |[.tup xs]=>∀p,M p=none->Q (.ref p) (updM M p (.lst xs))
 |[.ref a]=>optD (rdL (M a)) λxs=>∀p,M p=none->Q (.ref p) (updM M p (.lst xs))
 |_=>False
theorem zX:ip X (.type "list") tR:=by
 intro ds vs H M Q r d h;unfold tR at h;split at h
 ·rename_i xs
  obtain⟨v,rfl,f⟩:=rvs1 r;obtain⟨a,us,rfl,sq,g⟩:=RV.tup_.1 f;refine fB qj ⟨a,us,rfl,.inr sq,λp hp=>?_⟩;have k:=Kp.new (o:=.lst us) hp;exact⟨k,.ref p,_,RV.ref_.2 rfl,d.new (m:=.lst xs) hp ⟨us,aG,RVs.mono k _ g⟩,h p (d.fresh hp)⟩
 ·obtain⟨v,rfl,f⟩:=rvs1 r
  cases RV.ref_.1 f;obtain⟨xs,j,q⟩:=aU h;obtain⟨us,sq,g⟩:=d.list j;refine fB qj ⟨_,us,rfl,.inl sq,λp hp=>?_⟩;have k:=Kp.new (o:=.lst us) hp;exact⟨k,.ref p,_,RV.ref_.2 rfl,d.new (m:=.lst xs) hp ⟨us,aG,RVs.mono k _ g⟩,q p (d.fresh hp)⟩
 ·exact Yh h
inductive Bi where
 |len | isinst | all | max | min | tuple
 deriving DecidableEq
def dBi:Bi->SpD
 |.len=>dLen
 |.isinst=>rz
 |.all=>dAll λbs=>bs.all id
 |.max=>dII λi j=>if j>i then j else i
 |.min=>dII λi j=>if j<i then j else i
 |.tuple=>tQ
def tS:Bi->Str
 |.len=>"len"
 |.isinst=>"isinstance"
 |.all=>"all"
 |.max=>"max"
 |.min=>"min"
 |.tuple=>"tuple"
theorem IC(b:Bi)(hc:X.calm=true){t:WA}{p:Pos}(hg:Gl X (tS b))(hm:X.mg (tS b)=none)(d:aA e=true)(f:es.all aA=true)(ha:PAd X (e::es) t):PEd X (.Call (.Name (tS b) p) (e::es) [] pos) (jK (dBi b) t):=by
 cases b with
 |len=>exact gY Iy hg hm PySem.boot_len 'a' 'a' d f ha
 |isinst=>exact gY Cy hg hm PyProof.Rows.boot_isinstance 'a' 'a' d f ha
 |all=>exact gY (Iz hc) hg hm 'f' 'a' 'a' d f ha
 |max=>exact gY (IA hc) hg hm PyProof.Rows.boot_max 'a' 'a' d f ha
 |min=>exact gY (IB hc) hg hm PyProof.Rows.boot_min 'a' 'a' d f ha
 |tuple=>exact tP Ee hg hm 'f' 'a' 'a' d f ha
end
section
variable {X:Cx}{H:Hp}{e a b c o:Expr}{es:Zg}{pos:Pos}
def bK:Expr->Bool
 |.Call (.Name _ _) [] [] _=>false
 |_=>true
theorem rA{env:Env}{f:Str}{w:Sem Value}(h:bK o=true):attributeBase o f env w=w:=by
 unfold attributeBase;split
 ·exact absurd (show false=true from h) YC
 ·rfl
theorem sA{env:Env}{p:Pos}:∀{es:Zg},es.all aA=true->(backTo p (starEach es env)).all (λx=>!x.1)=true
 |[],_=>rfl
 |e::es,h=>by
  rw[XQ,YY] at h;rw[a9 h.1];show(true&&(backTo p (starEach es env)).all (λx=>!x.1))=true;rw[sA h.2];rfl
def mW(X:Cx)(id:String):V->List V->Hp->VK->Prop:=λx xs H Q=>∀pins s ρ v us,Inv X pins ρ H s->RelV x v->Vals xs us->wpAny 'c' X.A (call (.builtin id) (v::us)) (EP X pins ρ Q) X.xe s
theorem m_W(id:String):MtR X id (mW X id):=λpins s σ _ _ _ v us _ I r d h=>h pins s σ v us I r d
theorem tT{id:String}{r:V->List V->Hp->VK->Prop}{x:V}{xs:List V}{Q:VK}(h:MtR X id r)(q:r x xs H Q):mW X id x xs H Q:=λpins s ρ v us I d f=>h pins s ρ H x xs v us Q I d f q
theorem zY{id:String}{x:V}{xs:List V}{Q d:VK}(h:mW X id x xs H Q)(g:∀v H',Q v H'->d v H'):mW X id x xs H d:=λpins s ρ v us I f j=>thn (h pins s ρ v us I f j) λ_ _ ⟨v,H',k,r,q⟩=>⟨v,H',k,r,g v H' q⟩
abbrev SpM:=D->List D->MH->DK->Prop
def MtD(X:Cx)(id:String)(r:SpM):Prop:=∀x ds v vs H M Q,RV X.K H x v->RVs X.K H ds vs->RM X.K M H->r x ds M Q->mW X id v vs H (lift X.K H Q)
inductive Rc where
 |str | lst | dic | int
def A0:Rc->D->MH->Prop
 |.str,.str _,_=>True
 |.int,.int _,_=>True
 |.lst,.ref a,M=>(rdL (M a)).isSome=true
 |.dic,.ref a,M=>match M a with
  |some (.dic _)=>True
  |_=>False
 |_,_,_=>False
def rcT:Rc->String
 |.str=>"str"
 |.lst=>"list"
 |.dic=>"dict"
 |.int=>"int"
theorem zZ{K:Za}{M:MH}{c:Rc}{x:D}{v:V}(r:RV K H x v)(m:RM K M H)(h:A0 c x M):tyV K (rcT c) v H:=by
 cases c with
 |int=>cases x with
  |int z=>cases RV.int_.1 r;rfl
  |_=>exact Yh h
 |str=>cases x with
  |str z=>cases RV.str_.1 r;rfl
  |_=>exact Yh h
 |lst=>cases x with
  |ref a=>
   cases RV.ref_.1 r;obtain⟨ds,e⟩:=YQ.mp h;obtain⟨vs,sq,_⟩:=m.list e;exact .inl ⟨rfl,vs,sq⟩
  |_=>exact Yh h
 |dic=>cases x with
  |ref a=>
   cases RV.ref_.1 r;have h:match M a with
    |some (.dic _)=>True
    |_=>False:=h
   split at h
   ·rename_i e
    obtain⟨d,q,_⟩:=m a _ e;exact .inr (.inr (.inl ⟨rfl,.inl ⟨d,q⟩⟩))
   ·exact Yh h
  |_=>exact Yh h
def wMt(c:Rc)(r:SpM)(d:WE)(t:WA):WE:=λσ M Q=>d σ M λx M1=>A0 c x M1/\t σ M1 λds M2=>r x ds M2 Q
theorem qv{c:Rc}{name:Str}{id:String}{r:SpM}{d:WE}{t:WA}{m_:Pos}(u:PlainAttrs (rcT c))(slot:Slot (rcT c) name id)(y:typeOf (.builtin id)=pure (.type "method_descriptor"))(hm:MtD X id r)(ho:PEd X o d)(ha:PAd X (e::es) t)
  (hb:bK o=true) (f:aA e=true) (g:es.all aA=true) (hl:es.length<20) (z:(m_.endLine==pos.line)=true):PEd X (.Call (.Attribute o name m_) (e::es) [] pos) (wMt c r d t):=by
 intro σ M ρ H Q rs A h;refine bH (JK u slot y (m_W id) (pe_W o) (pa_W (e::es)) (rA hb) ?_ z (a9 f) (dh g)) ?_
 ·rw[sA (es:=e::es) (by rw[XQ,f,g];rfl)]
  show(true&&true&&decide ((e::es).length+0+0<30))=true;rw[Bool.and_self,Bool.true_and];exact YV (by rw[YH];omega)
 ·show tW X o ρ H _
  refine aN (ho σ M ρ H _ rs A h) λv j B=>?_
  obtain⟨k,x,M1,l,m,n⟩:=B;refine⟨zZ l m n.1,?_⟩;show tWA X (e::es) ρ j _;refine dl (ha σ M1 ρ j _ (rs.mono k) m n.2) λvs C G=>?_
  obtain⟨p,ds,M2,J,_,K,L⟩:=G;exact zY (hm x ds v vs C M2 Q (RV.mono p x l) J K L) λ_ _=>bX (k.trans p)
theorem nT{c:Rc}{name:Str}{id:String}{r:SpM}{d:WE}{m_:Pos}(k:PlainAttrs (rcT c))(slot:Slot (rcT c) name id)(l:typeOf (.builtin id)=pure (.type "method_descriptor"))(hm:MtD X id r)(ho:PEd X o d)
  (hb:bK o=true) (m:(m_.endLine==pos.line)=true):PEd X (.Call (.Attribute o name m_) [] [] pos) (wMt c r d wNil):=by
 intro σ M ρ H Q rs n h;refine bH (HW k slot l (m_W id) (pe_W o) (rA hb) m) ?_;show tW X o ρ H _;refine aN (ho σ M ρ H _ rs n h) λv p u=>?_
 obtain⟨y,x,M1,f,g,j⟩:=u;refine⟨zZ f g j.1,?_⟩;exact zY (hm x [] v [] p M1 Q f RVs.nil g j.2) λ_ _=>bX y
def rB:SpM:=λx ds M Q=>match x,ds with
 |.ref a,[d]=>match M a with
  |some (.lst xs)=>xs.length<sizeLine/\Q .non (updM M a (.lst (xs++[d])))
  |_=>False
 |_,_=>False
theorem wj:MtD X "list.append" rB:=by
 intro x ds v vs H M Q l r f h;unfold rB at h;split at h
 ·rename_i a d
  obtain⟨g,rfl,n⟩:=rvs1 r;cases RV.ref_.1 l;split at h
  ·rename_i xs u
   obtain⟨us,sq,j⟩:=f _ _ u;have k:=Kp.put (o':=.lst (us++[g])) sq trivial;exact tT BS ⟨a,us,g,rfl,rfl,sq,by rw[←j.len];exact h.1,k,.non,_,RV.non_.2 rfl,f.put (m:=.lst (xs++[d])) sq trivial ⟨_,aG,RVs.of (bC (RVs.mono k _ j).p (.cons (RV.mono k _ n) .nil))⟩,h.2⟩
  ·exact Yh h
 ·exact Yh h
def rC:SpM:=λx ds M Q=>match x,ds with
 |.ref a,[.ref b]=>match M a,M b with
  |some (.lst xs),some (.lst ys)=>xs.length+ys.length<=sizeLine/\Q .non (updM M a (.lst (xs++ys)))
  |_,_=>False
 |_,_=>False
theorem wk:MtD X "list.extend" rC:=by
 intro x ds v vs H M Q l r d h;unfold rC at h;split at h
 ·rename_i a b
  obtain⟨A,rfl,n⟩:=rvs1 r;cases RV.ref_.1 l;cases RV.ref_.1 n;split at h
  ·rename_i xs ys u y
   obtain⟨us,sq,f⟩:=d _ _ u;obtain⟨g,z,j⟩:=d _ _ y;have k:=Kp.put (o':=.lst (us++g)) sq trivial;exact tT BU ⟨a,b,us,g,rfl,rfl,sq,z,by rw[←f.len,←j.len];exact h.1,k,.non,_,RV.non_.2 rfl,d.put (m:=.lst (xs++ys)) sq trivial ⟨_,aG,RVs.of (bC (RVs.mono k _ f).p (RVs.mono k _ j).p)⟩,h.2⟩
  ·exact Yh h
 ·exact Yh h
theorem xP{d f:Type}{F:d->f->Prop}:∀{l:List d}{m:List f}(i:Nat),Paired F l m->Paired F (l.eraseIdx i) (m.eraseIdx i)
 |_,_,_,.nil=>.nil
 |_,_,0,.cons _ t=>t
 |_,_,i+1,.cons q t=>.cons q (xP i t)
theorem ze{d f:Type}{F:d->f->Prop}{l:List d}{m:List f}(h:Paired F l m):Paired F l.dropLast m.dropLast:=by
 rw[List.dropLast_eq_take,List.dropLast_eq_take,←lw h];exact vc _ h
def dPop:SpM:=λx ds M Q=>match x,ds with
 |.ref a,[.int i]=>match M a with
  |some (.lst xs)=>(0<=i/\i<1000000)/\optD xs[i.toNat]? λd=>Q d (updM M a (.lst (xs.eraseIdx i.toNat)))
  |_=>False
 |.ref a,[]=>match M a with
  |some (.lst xs)=>optD xs[xs.length-1]? λd=>Q d (updM M a (.lst xs.dropLast))
  |_=>False
 |_,_=>False
theorem Cz:MtD X "list.pop" dPop:=by
 intro x ds v vs H M Q z r g h;unfold dPop at h;split at h
 ·rename_i a i
  obtain⟨J,rfl,A⟩:=rvs1 r;cases RV.ref_.1 z;cases RV.int_.1 A;split at h
  ·rename_i xs l
   obtain⟨us,sq,f⟩:=g _ _ l;obtain⟨d,n,q⟩:=aU h.2;obtain⟨u,j,y⟩:=cB f.p n;have k:=Kp.put (o':=.lst (us.eraseIdx i.toNat)) sq trivial;have K:i.toNat<us.length:=(YB.1 j).1;have B:seqIndex? i us.length=some i.toNat:=by
    unfold seqIndex?;have C:¬i<0:=by omega
    have G:i<(us.length:Int):=by omega
    simp[C,h.1.1,G]
   exact tT DO ⟨a,us,i,i.toNat,u,rfl,rfl,sq,by omega,by omega,B,j,k,d,_,RV.mono k _ y,g.put (m:=.lst (xs.eraseIdx i.toNat)) sq trivial ⟨_,aG,RVs.of (xP _ (RVs.mono k _ f).p)⟩,q⟩
  ·exact Yh h
 ·rename_i a
  obtain rfl:vs=[]:=by rw[RVs] at r;exact r
  cases RV.ref_.1 z;split at h
  ·rename_i xs l
   obtain⟨us,sq,f⟩:=g _ _ l;obtain⟨d,n,q⟩:=aU h;obtain⟨u,j,y⟩:=cB f.p n;have k:=Kp.put (o':=.lst us.dropLast) sq trivial;exact tT HX ⟨a,us,u,rfl,rfl,sq,by rw[←f.len];exact j,k,d,_,RV.mono k _ y,g.put (m:=.lst xs.dropLast) sq trivial ⟨_,aG,RVs.of (ze (RVs.mono k _ f).p)⟩,q⟩
  ·exact Yh h
 ·exact Yh h
def gr(i:Int):Nat:=Builtin.Int.intBits i
def xj:SpM:=λx ds M Q=>match x,ds with
 |.int i,[]=>Q (.int (gr i)) M
 |_,_=>False
theorem GD:MtR X "int.bit_length" (λx xs H Q=>∃i,x=.int i/\xs=[]/\Q (.int (gr i)) H):=by
 rintro pins s σ H x xs v us Q I d f ⟨i,rfl,rfl,q⟩;obtain⟨t,rfl⟩:=d;have g:=f.zero;subst g;exact call_int_bit_length ⟨.int (gr i),H,I.tok _,⟨_,rfl⟩,q⟩
theorem z0:MtD X "int.bit_length" xj:=by
 intro x ds v vs H M Q d r f h;unfold xj at h;split at h
 ·rename_i i
  obtain rfl:vs=[]:=by rw[RVs] at r;exact r
  cases RV.int_.1 d;exact tT GD ⟨i,rfl,rfl,aD (RV.int_.2 rfl) f h⟩
 ·exact Yh h
def tU:SpM:=λx ds M Q=>match x,ds with
 |.ref a,[y]=>optD (rdL (M a)) λxs=>(aJ y=true/\aI xs=true/\aT xs<=30)/\optD (xs.findIdx? λd=>eqD d y) λ(j:Nat)=>Q (.int (j:Int)) M
 |_,_=>False
theorem xQ(hu:X.A.units+40<cLine):MtD X "list.index" tU:=by
 intro x ds v vs H M Q L r C h;unfold tU at h;split at h
 ·rename_i a y
  obtain⟨w',rfl,O⟩:=rvs1 r;cases RV.ref_.1 L;obtain⟨xs,P,h⟩:=aU h;obtain⟨⟨R,g,hd⟩,h⟩:=h;obtain⟨j,S,q⟩:=aU h;obtain⟨us,sq,f⟩:=C.list P;intro pins s ρ v' MF I T U;cases T;obtain⟨V,rfl,W⟩:=vals1 U;obtain⟨d_,k,tp,hz⟩:=I.list sq;have tl:=tp.isList;obtain⟨⟨cls,Y,data,sl⟩,ho,hc,n,G⟩:=id tl;simp only at hc G;subst hc G;obtain⟨l,hp,Z⟩:=List.findIdx?_eq_some_iff_getElem.1 S;have J:d_.length=xs.length:=by rw[f.len,k.length]
  have item:∀m (hm:m<d_.toArray.size) (hx:m<xs.length),nQ X.K H xs y d_.toArray[m]=eqD xs[m] y:=by
   intro m hm hx;obtain⟨d,w,e,r2,r3⟩:=gJ f k hm;have:d=xs[m]:=by rw[ZC hx] at e;exact(Yi e).symm
   subst this;exact mw I g (List.getElem_mem hx) r2 r3
  refine call_meets PySem.F.slot_list_index ⟨_,ho,rfl⟩ PySem.F.entry_list_index (PySem.F.args_list_index_2 _ _) (SeqAt.list_indexAt a d_.toArray n Y sl V (nQ X.K H xs y) j (by simpa [J] using l) ?_ ?_ ?_) ⟨ho,λu hu=>?_,?_⟩
  ·have p:us.length<=sizeLine:=hz
   have z:us.length=xs.length:=f.len.symm;have B:(sizeLine:Int)<2 ^ 63-1:=by decide
   omega (splitDisjunctions:=true)
  ·rw[item j (by simpa [J] using l) l];exact hp
  ·intro m hm JV
   rw[item m hm 'b']
   have:=Z m JV
   simpa using this
  ·obtain⟨d,w,p,z,B⟩:=qu f k (by simpa using hu)
   rw[mw I g p z B];obtain⟨i,hi⟩:=XS p
   have:=gX hi
   exact tK 30 d y I 'b' (by rw[units_in1];omega) (bZ g hi) R z O B W
  ·exact⟨.int (j:Int),H,I.tok _,⟨_,rfl⟩,aD (RV.int_.2 rfl) C q⟩
 ·exact Yh h
inductive Mt where
 |append | extend | pop | bits | index
 deriving DecidableEq
def tV:Mt->Str
 |.append=>"append"
 |.extend=>"extend"
 |.pop=>"pop"
 |.bits=>"bit_length"
 |.index=>"index"
def mtRc:Mt->Rc
 |.append=>.lst
 |.extend=>.lst
 |.pop=>.lst
 |.bits=>.int
 |.index=>.lst
def dMt:Mt->SpM
 |.append=>rB
 |.extend=>rC
 |.pop=>dPop
 |.bits=>xj
 |.index=>tU
theorem GE(hu:X.A.units+40<cLine)(m:Mt){j:WE}{t:WA}{m_:Pos}(ho:PEd X o j)(ha:PAd X (e::es) t)(hb:bK o=true)(d:aA e=true)(f:es.all aA=true)(hl:es.length<20)(g:(m_.endLine==pos.line)=true):
  PEd X (.Call (.Attribute o (tV m) m_) (e::es) [] pos) (wMt (mtRc m) (dMt m) j t):=by
 cases m with
 |append=>exact qv (c:=.lst) PySem.F.plainAttrs_list PySem.F.slot_list_append PySem.F.type_list_append wj ho ha hb d f hl g
 |extend=>exact qv (c:=.lst) PySem.F.plainAttrs_list PySem.F.slot_list_extend PySem.F.type_list_extend wk ho ha hb d f hl g
 |pop=>exact qv (c:=.lst) PySem.F.plainAttrs_list PySem.F.slot_list_pop PySem.F.type_list_pop Cz ho ha hb d f hl g
 |bits=>exact qv (c:=.int) PySem.F.plainAttrs_int PySem.F.slot_int_bit_length PySem.F.type_int_bit_length z0 ho ha hb d f hl g
 |index=>exact qv (c:=.lst) PySem.F.plainAttrs_list PySem.F.slot_list_index PySem.F.type_list_index (xQ hu) ho ha hb d f hl g
theorem Ef(hu:X.A.units+40<cLine)(m:Mt){f:WE}{m_:Pos}(ho:PEd X o f)(hb:bK o=true)(d:(m_.endLine==pos.line)=true):
  PEd X (.Call (.Attribute o (tV m) m_) [] [] pos) (wMt (mtRc m) (dMt m) f wNil):=by
 cases m with
 |append=>exact nT (c:=.lst) PySem.F.plainAttrs_list PySem.F.slot_list_append PySem.F.type_list_append wj ho hb d
 |extend=>exact nT (c:=.lst) PySem.F.plainAttrs_list PySem.F.slot_list_extend PySem.F.type_list_extend wk ho hb d
 |pop=>exact nT (c:=.lst) PySem.F.plainAttrs_list PySem.F.slot_list_pop PySem.F.type_list_pop Cz ho hb d
 |bits=>exact nT (c:=.int) PySem.F.plainAttrs_int PySem.F.slot_int_bit_length PySem.F.type_int_bit_length z0 ho hb d
 |index=>exact nT (c:=.lst) PySem.F.plainAttrs_list PySem.F.slot_list_index PySem.F.type_list_index (xQ hu) ho hb d
end
section
variable {X:Cx}{H:Hp}{e a b c o i v:Expr}{es:Zg}{pos:Pos}
def wNeg(t:WE):WE:=λσ M Q=>t σ M λx M1=>intD x λi=>Q (.int (-i)) M1
theorem GF{t:WE}(h:PEd X a t):PEd X (.UnaryOp .USub a pos) (wNeg t):=by
 intro σ M ρ H Q rs f q;refine bH (E6 HH (pe_W a)) ?_;show tW X a ρ H _;refine aN (h σ M ρ H _ rs f q) λv m g=>?_
 obtain⟨j,x,M1,k,l,d⟩:=g;obtain⟨i,rfl,d⟩:=rq d;exact⟨i,RV.int_.1 k,j,.int (-i),M1,RV.int_.2 rfl,l,d⟩
def wInv(t:WE):WE:=λσ M Q=>t σ M λx M1=>intD x λi=>Q (.int (-i-1)) M1
theorem bitNot_eq(i:Int):Builtin.bitNot i = -i-1:=by unfold Builtin.bitNot;omega
theorem GG{t:WE}(h:PEd X a t):PEd X (.UnaryOp .Invert a pos) (wInv t):=by
 intro σ M ρ H Q rs f q;refine bH (E6 HI (pe_W a)) ?_;show tW X a ρ H _;refine aN (h σ M ρ H _ rs f q) λv m g=>?_
 obtain⟨j,x,M1,k,l,d⟩:=g;obtain⟨i,rfl,d⟩:=rq d;exact⟨i,RV.int_.1 k,j,.int (-i-1),M1,RV.int_.2 (congrArg V.int (bitNot_eq i)),l,d⟩
def putD(f:ZB)(k:Key)(d:D):List (Key×D):=if(f.any λkv=>decide (kv.1=k))=true then f.map (λkv=>if kv.1=k then(kv.1,d) else kv) else f++[(k,d)]
theorem Eg{d g:Type}{l:List (Key×d)}{m:List (Key×g)}(e:m.map (·.1)=l.map (·.1))(k:Key):(m.any λkv=>decide (kv.1=k))=l.any λkv=>decide (kv.1=k):=by
 have f:∀{j:Type}(l:List (Key×j)),(l.any λkv=>decide (kv.1=k))=(l.map (·.1)).any λq=>decide (q=k):=λl=>by rw[List.any_map];rfl
 rw[f,f,e]
theorem map_put{K:Za}{k:Key}{d:D}{v:V}(r:RV K H d v):∀{l:ZB}{m:List (Key×V)},m.map (·.1)=l.map (·.1)->RVs K H (l.map (·.2)) (m.map (·.2)) ->
  ((m.map λkv=>if kv.1=k then(kv.1,v) else kv).map (·.1)=(l.map λkv=>if kv.1=k then(kv.1,d) else kv).map (·.1))/\RVs K H ((l.map λkv=>if kv.1=k then(kv.1,d) else kv).map (·.2)) ((m.map λkv=>if kv.1=k then(kv.1,v) else kv).map (·.2))
 |[],[],_,_=>⟨rfl,.nil⟩
 |[],_::_,e,_=>by cases e
 |_::_,[],e,_=>by cases e
 |(B,C)::l,(n,G)::m,e,f=>by
  simp only[YJ,List.cons.injEq] at e;obtain⟨p,u⟩:=e;subst p;simp only[YJ] at f;rw[RVs] at f;obtain⟨J,L,z,y,A⟩:=f;cases z;obtain⟨g,j⟩:=map_put r (k:=k) u A;by_cases q:n=k
  ·simp only[YJ,if_pos q]
   exact⟨by rw[g],.cons r j⟩
  ·simp only[YJ,if_neg q]
   exact⟨by rw[g],.cons y j⟩
theorem ID{K:Za}{k:Key}{d:D}{v:V}{l:ZB}{m:List (Key×V)}(r:RV K H d v)(e:m.map (·.1)=l.map (·.1))(f:RVs K H (l.map (·.2)) (m.map (·.2))):(putK m k v).map (·.1)=(putD l k d).map (·.1)/\RVs K H ((putD l k d).map (·.2)) ((putK m k v).map (·.2)):=by
 unfold putK putD;rw[Eg e k];split
 ·exact map_put r e f
 ·refine⟨by rw[ZK,ZK,e];rfl,?_⟩
  rw[ZK,ZK];exact RVs.of (bC f.p (.cons r .nil))
def dPut(o i d:D)(M:MH)(Q:MH->Prop):Prop:=match o with
 |.ref a=>match M a with
  |some (.lst xs)=>intD i λk=>optD (ixN xs.length k) λj=>Q (updM M a (.lst (xs.set j d)))
  |some (.dic f)=>optD (keyD i) λk=>f.length<sizeLine/\Q (updM M a (.dic (putD f k d)))
  |_=>False
 |_=>False
def pW(X:Cx):TSet:=λo i v H Q=>∀pins s ρ d f u,Inv X pins ρ H s->RelV o d->RelV i f->RelV v u->wpAny 'c' X.A (setItem d f u) (λ_ g=>∃H',Inv X pins ρ H' g/\Q H') X.xe s
theorem p_W:PSet X (pW X):=λpins s σ _ _ _ _ d f u _ I g j k h=>h pins s σ d f u I g j k
theorem GH{o i v:V}{Q d:Hp->Prop}(h:pW X o i v H Q)(g:∀H',Q H'->d H'):pW X o i v H d:=λpins s ρ f j u I k l m=>thn (h pins s ρ f j u I k l m) λ_ _ ⟨H',n,q⟩=>⟨H',n,g H' q⟩
theorem putd(hu:X.A.units+40<cLine){x y d:D}{o i v:V}{M:MH}{Q:MH->Prop}(T:RV X.K H x o)(L:RV X.K H y i)(O:RV X.K H d v)(g:RM X.K M H)(h:dPut x y d M Q):pW X o i v H λH'=>Kp H H'/\∃M',RM X.K M' H'/\Q M':=by
 cases x with
 |ref a=>
  cases RV.ref_.1 T;have h:match M a with
   |some (.lst xs)=>intD y λk=>optD (ixN xs.length k) λj=>Q (updM M a (.lst (xs.set j d)))
   |some (.dic l)=>optD (keyD y) λk=>l.length<sizeLine/\Q (updM M a (.dic (putD l k d)))
   |_=>False:=h
  split at h
  ·rename_i xs r
   obtain⟨k,rfl,h⟩:=rq h;obtain⟨j,z,q⟩:=aU h;cases RV.int_.1 L;obtain⟨us,sq,n⟩:=g _ _ r;have f:=Kp.put (o':=.lst (us.set j v)) sq trivial;intro pins s ρ P R u I B C G;exact set_list pins s ρ H _ _ _ P R u _ I B C G ⟨a,us,k,j,rfl,rfl,sq,by rw[←n.len];exact z,f,_,g.put (m:=.lst (xs.set j d)) sq trivial ⟨_,aG,RVs.of (xy (RV.mono f _ O) j (RVs.mono f _ n).p)⟩,q⟩
  ·rename_i l r
   obtain⟨k,z,hl,q⟩:=aU h
   have:=zS z L
   subst this;obtain⟨J,sq,S,n⟩:=g _ _ r;have f:=Kp.put (o':=.dK (putK J k v)) sq trivial;obtain⟨p1,p2⟩:=ID (k:=k) (RV.mono f _ O) S (RVs.mono f _ n);have U:J.length<sizeLine:=by have:=congrArg List.length S;simp only[ZE] at this;omega
   intro pins s ρ P R u I B C G;cases B;exact BW 'b' I (.inl ⟨J,k,sq,rfl,U,rfl⟩) C G λY W=>⟨_,W,f,_,g.put (m:=.dic (putD l k d)) sq trivial ⟨_,aG,p1,p2⟩,q⟩
  ·exact Yh h
 |_=>exact Yh h
theorem sole{tg:Expr}{n:Nat}{env:Env}(h:dL v=true):swapsWithSole [tg] v n env=pure false:=tJ h
def xR(f g j:WE):WS:=λE σ M=>f σ M λd M1=>g σ M1 λx M2=>j σ M2 λy k=>dPut x y d k λl=>E.nx σ l
theorem CB{k l m:WE}{p:Pos}(hu:X.A.units+40<cLine)(C:PEd X v k)(ho:PEd X o l)(hi:PEd X i m)(hc:dL v=true)(G:lK i=true):PSd X (.Assign [.Subscript o i p] v pos) (xR k l m):=by
 intro σ M ρ H E rs J h;refine eg (BG (pe_W v) (Hu (pe_W o) (pe_W i) p_W (by intro w;cases i<;>first | rfl | exact absurd (show false=true from G) YC)) (sole hc) (by cases v<;>rfl) rfl) ?_;show tW X v ρ H _;refine aN (C σ M ρ H _ rs J h) λu n K=>?_
 obtain⟨f,d,M1,L,O,P⟩:=K;show tW X o ρ n _;refine aN (ho σ M1 ρ n _ (rs.mono f) O P) λw' r R=>?_
 obtain⟨g,x,M2,S,T,U⟩:=R;show tW X i ρ r _;refine aN (hi σ M2 ρ r _ (rs.mono (f.trans g)) T U) λz H3 V=>?_
 obtain⟨j,y,M3,W,Y,Z⟩:=V;refine GH (putd hu (RV.mono j x S) W (RV.mono (g.trans j) d L) Y Z) λH4 LH=>?_
 obtain⟨B,M4,m4,q4⟩:=LH;exact⟨f.trans (g.trans (j.trans B)),σ,M4,rs.mono (f.trans (g.trans (j.trans B))),m4,q4⟩
abbrev WP:=DS->MH->(List (D×D)->MH->Prop)->Prop
def wPs:List (WE×WE)->WP
 |[],_,M,Q=>Q [] M
 |(tk,d)::r,σ,M,Q=>tk σ M λx M1=>d σ M1 λy M2=>wPs r σ M2 λps f=>Q ((x,y)::ps) f
inductive PPd (X:Cx):List (Option Expr)->List Expr->List (WE×WE)->Prop where
 |nil:PPd X [] [] []
 |cons {k v:Expr}{ks:List (Option Expr)}{vs:Zg}{tk tv:WE}{r:List (WE×WE)}:PEd X k tk->PEd X v tv->PPd X ks vs r->PPd X (some k::ks) (v::vs) ((tk,tv)::r)
def Ff:List (D×D)->Option (List (Key×D))
 |[]=>some []
 |(k,d)::r=>(keyD k).bind λq=>(Ff r).map ((q,d) :: ·)
def IE(d:ZB)(more:ZB):List (Key×D):=more.foldl (λe_ kv=>putD e_ kv.1 kv.2) d
def JS(ts:List (WE×WE)):WE:=λσ M Q=>∀p,M p=none->wPs ts σ (updM M p (.dic [])) λds M2=>match M2 p with
 |some (.dic [])=>optD (Ff ds) λd=>Q (.ref p) (updM M2 p (.dic (IE [] d)))
 |_=>False
theorem Eh:PEd X (.Dict [] [] pos) (λ_ M Q=>∀p,M p=none->Q (.ref p) (updM M p (.dic []))):=by
 intro σ M ρ H Q rs d q;refine bH DQ ?_;intro p hp;exact⟨Kp.new hp,.ref p,_,RV.ref_.2 rfl,d.new (m:=.dic []) hp ⟨[],aG,rfl,.nil⟩,q p (d.fresh hp)⟩
end
abbrev OK0:=Addr->Str->Prop
theorem jM{K:Za}{H:Hp}{f:Str}:∀{fs:List (Str×D)}{a:List (Str×V)},a.map (·.1)=fs.map (·.1)->RVs K H (fs.map (·.2)) (a.map (·.2)) ->
  (fs.lookup f=none->a.lookup f=none)/\∀d,fs.lookup f=some d->∃v,a.lookup f=some v/\RV K H d v
 |[],[],_,_=>⟨λ_=>rfl,λ_ h=>nomatch h⟩
 |[],_::_,e,_=>by cases e
 |_::_,[],e,_=>by cases e
 |(o,p)::fs,(b,c)::a,e,r=>by
  simp only[YJ,List.cons.injEq] at e;obtain⟨g,j⟩:=e;subst g;simp only[YJ] at r;rw[RVs] at r;obtain⟨v,vs,z,k,l⟩:=r;cases z;obtain⟨m,n⟩:=jM (f:=f) j l;cases q:f==b with
  |true=>simp only[XJ,q];exact⟨(λz=>nomatch z),λd z=>by cases z;exact⟨c,rfl,k⟩⟩
  |false=>simp only[XJ,q];exact⟨m,n⟩
def bU(f:Str)(v:D):List (Str×D)->List (Str×D)
 |[]=>[(f,v)]
 |(g,x)::r=>if g=f then(g,v)::r else(g,x)::bU f v r
theorem z9{K:Za}{H:Hp}{f:Str}{d:D}{v:V}(b:RV K H d v):∀{fs:List (Str×D)}{a:List (Str×V)},a.map (·.1)=fs.map (·.1)->RVs K H (fs.map (·.2)) (a.map (·.2)) ->
  (putF f v a).map (·.1)=(bU f d fs).map (·.1)/\RVs K H ((bU f d fs).map (·.2)) ((putF f v a).map (·.2))
 |[],[],_,_=>⟨rfl,.cons b .nil⟩
 |[],_::_,e,_=>by cases e
 |_::_,[],e,_=>by cases e
 |(o,p)::fs,(j,u)::a,e,r=>by
  simp only[YJ,List.cons.injEq] at e;obtain⟨k,c⟩:=e;subst k;simp only[YJ] at r;rw[RVs] at r;obtain⟨y,vs,z,l,g⟩:=r;cases z;obtain⟨m,n⟩:=z9 (f:=f) b c g;unfold putF bU;by_cases q:j=f
  ·rw[if_pos q,if_pos q];exact⟨by simp only[YJ,c],.cons b g⟩
  ·rw[if_neg q,if_neg q];exact⟨by simp only[YJ,m],.cons l n⟩
section
variable {X:Cx}{H:Hp}{e a b c o i v:Expr}{es:Zg}{pos:Pos}
def fldD(O:OK0)(x:D)(f:Str)(M:MH)(Q:D->Prop):Prop:=match x with
 |.ref a=>match M a with
  |some (.ins C fs)=>O C f/\optD (fs.lookup f) Q
  |_=>False
 |_=>False
def wFld(O:OK0)(f:Str)(t:WE):WE:=λσ M Q=>t σ M λx M1=>fldD O x f M1 λd=>Q d M1
theorem GI{O:OK0}{f:Str}{t:WE}(j:∀C f,O C f->Cls X.K C/\cm X.K C f)(h:PEd X o t)(hb:bK o=true):PEd X (.Attribute o f pos) (wFld O f t):=by
 intro σ M ρ H Q rs l q;refine bH (HL (pe_W o) (rA hb)) ?_;show tW X o ρ H _;refine aN (h σ M ρ H _ rs l q) λv P m=>?_
 obtain⟨n,x,M1,p,k,g⟩:=m;unfold fldD at g;try dsimp only at g
 split at g
 ·rename_i a
  split at g
  ·rename_i C fs r
   obtain⟨d,u,y⟩:=aU g.2;cases RV.ref_.1 p;obtain⟨dx,z,sq,A,B⟩:=k _ _ r;obtain⟨G,J,L⟩:=(jM A B).2 d u;exact⟨a,C,dx,z,G,rfl,sq,(j C f g.1).1,(j C f g.1).2,J,n,d,M1,L,k,y⟩
  ·exact Yh g
 ·exact Yh g
def A7(O:OK0)(x:D)(f:Str)(d:D)(M:MH)(Q:MH->Prop):Prop:=match x with
 |.ref a=>match M a with
  |some (.ins C fs)=>(O C f/\fs.length<1000)/\Q (updM M a (.ins C (bU f d fs)))
  |_=>False
 |_=>False
def A8(O:OK0)(f:Str)(g j:WE):WS:=λE σ M=>j σ M λd M1=>g σ M1 λx M2=>A7 O x f d M2 λk=>E.nx σ k
theorem Ei{O:OK0}{f:Str}{r y:WE}{p:Pos}(z:∀C f,O C f->Cls X.K C/\cm X.K C f)(ho:PEd X o r)(J:PEd X v y):PSd X (.Assign [.Attribute o f p] v pos) (A8 O f r y):=by
 intro σ M ρ H E rs L q;refine eg (HM (pe_W o) (pe_W v) (by cases v<;>rfl)) ?_;show tW X v ρ H _;refine aN (J σ M ρ H _ rs L q) λu A P=>?_
 obtain⟨k,d,M1,R,S,T⟩:=P;show tW X o ρ A _;refine aN (ho σ M1 ρ A _ (rs.mono k) S T) λZ H2 U=>?_
 obtain⟨l,x,M2,V,B,g⟩:=U;unfold A7 at g;dsimp only at g;split at g
 ·rename_i a
  split at g
  ·rename_i C fs W
   cases RV.ref_.1 V;obtain⟨dx,n,sq,G,Y⟩:=B _ _ W;have j:=Kp.put (o':=.ins C dx (putF f u n)) sq trivial;obtain⟨p1,p2⟩:=z9 (f:=f) (RV.mono (l.trans j) d R) G (RVs.mono j _ Y);have hl:n.length<1000:=by have:=congrArg List.length G;simp only[ZE] at this;omega
   exact⟨a,C,dx,n,rfl,sq,(z C f g.1.1).1,(z C f g.1.1).2,hl,k.trans (l.trans j),σ,_,rs.mono (k.trans (l.trans j)),B.put (m:=.ins C (bU f d fs)) sq trivial ⟨dx,_,aG,p1,p2⟩,g.2⟩
  ·exact Yh g
 ·exact Yh g
def bm(C:Addr)(sp:SpD):SpD:=λds M Q=>∀x,M x=none->sp (.ref x::ds) (updM M x (.ins C [])) λd M2=>xi d=true/\Q (.ref x) M2
def MkD(P:Zw)(w:World)(K:Za)(mg:Ze)(base:Heap)(k:Nat)(x:Str)(sp:SpD):Prop:=
 ∃C f fd ps d,Mk K C f/\mg x=some (.ref C)/\Binds K fd ps []/\FnOk P w K mg base CX0 k f fd ps (dC K d)/\sp=bm C d
theorem Ej{k:Nat}{x:Str}{sp:SpD}{t:WA}{p:Pos}(F:MkD X.prog X.w X.K X.mg X.base k x sp)(u:Room (k+1) X.A)(hg:Gl X x)(y:(x==("__debug__" : Str))=false)(B:aA e=true)(G:es.all aA=true)(ha:PAd X (e::es) t):
  PEd X (.Call (.Name x p) (e::es) [] pos) (jK sp t):=by
 obtain⟨C,f,fd,ps,RB,M0,hm,hb,J,rfl⟩:=F;intro σ M ρ H Q rs L q;refine bH (FJ M0 J u hg hm hb .nil xb (pa_W (e::es)) y (a9 B) (dh G)) ?_;show tWA X (e::es) ρ H _;refine dl (ha σ M ρ H _ rs L q) λvs O P=>?_
 obtain⟨R,ds,M1,S,l1,g,T⟩:=P;intro z dx hz j U;have V:=Kp.new (o:=.own z) j;have l:(upd O dx (.own z)) z=none:=by rw[aK U.symm];exact hz
 have W:=Kp.new (o:=.ins C dx []) l;have n:=V.trans W;rw[ZA];refine⟨.ref z::ds,updM M1 z (.ins C []),_,.cons (RV.ref_.2 rfl) (RVs.mono n _ S),(g.newH j).new (m:=.ins C []) l ⟨dx,[],aG,rfl,.nil⟩,T z (g.fresh hz),λd M' v H' r Y Z mm=>⟨?_,R.trans (n.trans Y),.ref z,M',RV.ref_.2 rfl,mm,r.2⟩⟩
 have:=sy Z
 rw[r.1] at this;exact XO this
abbrev MT0:=Addr->Str->Option SpD
def aM(P:Zw)(w:World)(K:Za)(mg:Ze)(base:Heap)(k:Nat)(C:Addr)(m:Str)(sp:SpD):Prop:=
 ∃f fd ps,Cls K C/\Meth K C m f/\Binds K fd ps []/\FnOk P w K mg base CX0 k f fd ps (dC K sp)
def A9(X:Cx)(T:MT0):Prop:=∀C m sp,T C m=some sp->∃k,aM X.prog X.w X.K X.mg X.base k C m sp/\Room k X.A
def xk(x:D)(m:Str)(M:MH)(Q:Addr->Prop):Prop:=match x with
 |.ref a=>match M a with
  |some (.ins C fs)=>fs.lookup m=none/\Q C
  |_=>False
 |_=>False
def tX(T:MT0)(m:Str)(d:WE)(t:WA):WE:=λσ M Q=>d σ M λx M1=>xk x m M1 λC=>optD (T C m) λsp=>t σ M1 λds M2=>sp (x::ds) M2 Q
theorem IF{env:Env}{p:Pos}(h:es.all aA=true)(hl:es.length<20):methodCallForm (es.length+([]:List Keyword).length) (backTo p (starEach es env)) (backToKw p (keywordEach [] env))=true:=by
 unfold methodCallForm;rw[sA h];show(true&&true&&decide (es.length+0+0<30))=true;rw[Bool.and_self,Bool.true_and];exact YV 'b'
theorem Fg {env:Env} {m:Str} {m_:Pos} (hb:bK o = true) (h:es.all aA = true) (hl:es.length < 20) (g:(m_.endLine == pos.line) = true):eval (.Call (.Attribute o m m_) es [] pos) env = (do
   let d ← eval o env
   standAt m_.atName
   let (f,first) ← holding [d] (getMethod d m (do return (← importBound o env).getD true))
   callWith pos f first (backTo pos (starEach es env)) (backToKw pos (keywordEach [] env))):=by
 rw [arm_eval_Call,rA hb]
 unfold methodCall calleeOf methodCallPos
 rw [IF h hl]
 simp [g]
theorem Ek{T:MT0}{m:Str}{l:WE}{t:WA}{m_:Pos}(G:A9 X T)(ho:PEd X o l)(ha:PAd X (e::es) t)(hb:bK o=true)(n:aA e=true)(p:es.all aA=true)(hl:es.length<19)(J:(m_.endLine==pos.line)=true):
  PEd X (.Call (.Attribute o m m_) (e::es) [] pos) (tX T m l t):=by
 intro σ M ρ H Q rs K h pins s I;have L:(e::es).all aA=true:=by rw[XQ,n,p];rfl
 refine PySem.W.methodCall_KW (thn (ho σ M ρ H _ rs K h pins s I) λu s1 O=>?_) (Fg hb L (by rw[YH];omega) J);obtain⟨v,P,y,j,⟨z,x,M1,R,A,g⟩⟩:=O;unfold xk at g;dsimp only at g;split at g
 ·rename_i a
  split at g
  ·rename_i C fs S
   obtain⟨hn,g⟩:=g;obtain⟨sp,U,g⟩:=aU g;cases RV.ref_.1 R;obtain rfl:u=Value.ref a:=j;obtain⟨dx,gs,sq,V,Y⟩:=A _ _ S;obtain⟨k,⟨f,fd,ps,c,hm,Z,F⟩,hr⟩:=G C m sp U
   ·refine tj y sq c hm ((jM V Y).1 hn) ?_
    refine PySem.W.callWith_K (first:=[.ref a]) (h₀:=X.base) I.ok.mod.kin hm.kp (thn (ha σ M1 ρ P _ (rs.mono z) A g pos pins s1 y) λus s2 LH=>?_) (a9 n) (dh p);obtain⟨vs,H2,B,r,⟨k2,ds,M2,r2,l2,m2,q2⟩⟩:=LH;refine⟨B.kIn,?_⟩;refine xr (us:=.ref a::us) (vs:=.ref a::vs) F hr Z .nil xb B (.cons rfl r) ?_;rw[ZA];exact⟨.ref a::ds,M2,Q,.cons (RV.ref_.2 rfl) r2,m2,q2,λd M' v H' qd kq j mm=>⟨z.trans (k2.trans kq),d,M',j,mm,qd⟩⟩
  ·exact Yh g
 ·exact Yh g
theorem CC{T:MT0}{m:Str}{n:WE}{m_:Pos}(r:A9 X T)(ho:PEd X o n)(hb:bK o=true)(y:(m_.endLine==pos.line)=true):
  PEd X (.Call (.Attribute o m m_) [] [] pos) (tX T m n wNil):=by
 intro σ M ρ H Q rs z h pins s I;refine PySem.W.methodCall_KW (thn (ho σ M ρ H _ rs z h pins s I) λu s1 A=>?_) (Fg hb rfl 'a' y);obtain⟨v,Y,j,l,⟨B,x,M1,G,p,g⟩⟩:=A;unfold xk at g;dsimp only at g;split at g
 ·rename_i a
  split at g
  ·rename_i C fs J
   obtain⟨hn,g⟩:=g;obtain⟨sp,K,g⟩:=aU g;cases RV.ref_.1 G;obtain rfl:u=Value.ref a:=l;obtain⟨dx,Z,sq,L,O⟩:=p _ _ J;obtain⟨k,⟨f,fd,ps,c,hm,P,F⟩,R⟩:=r C m sp K;refine tj j sq c hm ((jM L O).1 hn) ?_;refine PySem.W.callWith_K0 (first:=[.ref a]) j.kIn hm.kp (xr (us:=[.ref a]) (vs:=[.ref a]) F R P .nil xb j (.cons rfl .nil) ?_);exact⟨[.ref a],M1,Q,.cons (RV.ref_.2 rfl) .nil,p,g,λd M' v H' S U l V=>⟨B.trans U,d,M',l,V,S⟩⟩
  ·exact Yh g
 ·exact Yh g
end
section
variable {prog:Zw}{w:World}{A:Around}{E:Zb}{s:Shared}
theorem lL{it t:Addr}{i:Nat}{a:Zl}{x:Value}{Q:Zb}(J0:s.heap.IsTupleIter it t i)(ht:s.heap.IsTuple t a)(hx:a[i]?=some x)
  (b:∀h',h'.IsTupleIter it t (i+1)->Heap.SameBut it s.heap h'->Q x { s with heap:=h' }):wpAny (model prog w) A (Builtin.SmallTypes.nextOf (.ref it)) Q E s:=by
 obtain⟨o,ho,hc,hd⟩:=id J0;obtain⟨c,T8,_,d,T9⟩:=ht;unfold Builtin.SmallTypes.nextOf;rw[2];simp only[YW,hx];refine Yb (wpAny_setField ho hd (by simp) (Yc ⟨x,rfl,Yc (b _ ⟨_,Heap.get?_update_self _ ho (Obj.isFreed_of_fields (Obj.data_mapFields hd _)),(Obj.cls_mapFields ..).trans hc,?_⟩ (Heap.SameBut.update ..))⟩));rw[Obj.data_mapFields hd];simp[rawInt]
theorem lM{it t:Addr}{i:Nat}{b:Zl}{Q:Zb}(c:A.handled=none)(J0:s.heap.IsTupleIter it t i)(ht:s.heap.IsTuple t b)(hx:b[i]?=none)
  (d:∀h' e,Heap.ExtBut it s.heap h'->(∃o,h'.get? e=some o/\o.cls=.type "StopIteration")->E (.ref e) { s with heap:=h' }):wpAny (model prog w) A (Builtin.SmallTypes.nextOf (.ref it)) Q E s:=by
 obtain⟨o,ho,hc,hd⟩:=id J0;obtain⟨f,T8,_,g,T9⟩:=ht;unfold Builtin.SmallTypes.nextOf;rw[2];simp only[YW,hx];refine Yb (wpAny_rule (Yb (wpAny_setField ho hd (by simp) ?_)));show wpAny _ _ (newExc (.type "StopIteration") [] >>= _) _ _ _;refine Yb ?_;simp only[newExc,newTuple];refine Yb (wpAny_newObj_type ?_ (by size_fits));refine Yb (m:=firstArgMember _ _) (wpAny_of_eq (a:=Value.none) (by first | rfl | (simp only[firstArgMember];rfl)) (wpAny_newObj_type ?_ (by size_fits)));simp only[raiseNew];refine Yb (wpAny_handled ?_);first | rw[show A.in1.handled=none from c] | rw[c]
 refine Yb (Yc (wpAny_throw (d _ _ (((Heap.SameBut.update ..).extBut.push _).push _) ⟨_,Yg _ rfl,rfl⟩)))
theorem sd(c:A.handled=none)(it t:Addr)(d:t≠it)(a:Zl):Draws prog w A it [it,t] a.size (λi v=>a[i]?=some v) (λi h=>h.IsTupleIter it t i/\h.IsTuple t a) where
 live:=λ_ _ st=>let⟨o,ho,_⟩:=st.1;⟨o,ho⟩
 frame:=λ_ _ _ st hk=>⟨st.1.at λo e=>hk it (by simp) o e,let⟨o,ho,r⟩:=st.2;⟨o,hk t (by simp) o ho,r⟩⟩
 item:=λi s Q E hi st f=>lL st.1 st.2 (x:=a[i]) (by simp[hi]) λh' g b=>f _ h' s.toks (by simp[hi]) ⟨g,st.2.extBut b.extBut d⟩ b
 done:=λs Q E st j=>lM c st.1 st.2 (by simp) j
theorem CD(l:Addr)(a:Zl)(n:Nat)(f:Zm)(sl:Zn):
  Meets (Builtin.«enumerate.__new__» ⟨[.type "enumerate",.ref l],[]⟩) (λ_ R s=>s.heap.get? l=some { cls:=.type "tuple",dict:=f,data:=.seq a n,slots:=sl } /\
   R (.ok (.ret (.ref (s.heap.push { cls:=.type "tuple_iterator",data:=.fields #[.ref l,.int 0 0] }).objs.size)))
    { s with heap:=(s.heap.push { cls:=.type "tuple_iterator",data:=.fields #[.ref l,.int 0 0] }).push { cls:=.type "enumerate",data:=.fields #[.none,.bool false,.ref s.heap.objs.size,rawInt 0,.none,.none] } }):=by
 refine .of_wp λprog w A R s h=>?_
 obtain⟨hp,g,d,tk,os⟩:=s;obtain⟨hl,h⟩:=h;have j:=sub_enumerate;have b:Heap.IsTuple (Shared.heap ⟨hp,g,d,tk,os⟩) l a:=⟨_,hl,rfl,n,rfl⟩;wp_walk using AutoSeq1.wpAny_loadPart' hl;refine wpAny_stack_any λst=>Yc ?_
 split
 ·rename_i c _ _ _ _ _
  cases(c==Value.type "enumerate")<;>(wp_walk using AutoSeq1.wpAny_loadPart' hl,wpAny_pyIter_tuple b;exact⟨_,rfl,h⟩)
 ·wp_walk using AutoSeq1.wpAny_loadPart' hl,wpAny_pyIter_tuple b
  exact⟨_,rfl,h⟩
theorem Ba{l:Addr}{a:Zl}{Q:Zb}(f:s.heap.IsTuple l a)
  (h:∀h',IsEnum h' (s.heap.objs.size+1) s.heap.objs.size 0 .none->h'.IsTupleIter s.heap.objs.size l 0->(∀b o,s.heap.get? b=some o->h'.get? b=some o)->Q (.ref (s.heap.objs.size+1)) { s with heap:=h' }):
  wpAny (model prog w) A (call (.type "enumerate") [.ref l]) Q E s:=by
 obtain⟨⟨c,g,j,sl⟩,hl,hc,n,hd⟩:=f;obtain rfl:c=.type "tuple":=hc;obtain rfl:j=.seq a n:=hd;refine callType_new F.called_enumerate 'a' (F.typeCall_enumerate_1 _) (F.newCall_enumerate_1 _) (λobj=>F.args_object_init_2 obj _) F.entry_enumerate_new (CD l a n g sl) ⟨hl,?_⟩;have hz:(s.heap.push { cls:=.type "tuple_iterator",data:=.fields #[.ref l,.int 0 0] }).objs.size=s.heap.objs.size+1:=Heap.size_push ..;show _/\_;rw[hz];have d:=Yg (s.heap.push { cls:=.type "tuple_iterator",data:=.fields #[.ref l,.int 0 0] }) (o:={ cls:=.type "enumerate",data:=.fields #[.none,.bool false,.ref s.heap.objs.size,rawInt 0,.none,.none] }) rfl;rw[hz] at d;exact⟨⟨_,d,rfl⟩,h _ d ⟨_,Yd _ (Yg _ rfl),rfl,rfl⟩ λb o x=>Yd _ (Yd _ x)⟩
end
section
variable {X:Cx}{pins:Zc}{σ:L2.St}{H:Hp}{s:Shared}{h':Heap}
theorem Fh{fs ch:Zh}{h:Heap}(k:∀b o,b∉ch->h.get? b=some o->h'.get? b=some o):Un fs ch H H h h' where
 keep:=λb o e _ _ hc=>k b o hc e
 slot:=λb o e _ _ hc=>⟨o.slots,k b o hc e⟩
 free:=λ_ _ _ n _=>n
 there:=λb o e hc=>⟨o,k b o hc e⟩
 tups:=λ_ _ e=>e
 frzs:=λ_ _ _ e=>e
 tbls:=λb ps e=>⟨#[],by rw[e];simp⟩
theorem CF{P:Zw}{w:World}{ch:Zh}{h:Heap}(ok:HOk P w H h)(k:∀b o,b∉ch->h.get? b=some o->h'.get? b=some o)(hn:∀b∈ch,H b=none):HOk P w H h':=λb u e=>by
 have a:∀c v,H c=some v->c∉ch:=λc v d z=>by rw[hn c z] at d;cases d
 refine(ok b u e).stay (λc v hc q=>k c v ?_ q) (λ_ q=>q) λ_ _ q=>q
 rcases hc with z | z
 ·rw[z];exact a b u e
 ·exact a c _ z
theorem Inv.turnedT{ch:Zh}{T:Addr}{xs:List V}{d_:Zd}{tk:Nat}(I:Inv X pins σ H s)(k:∀b o,b∉ch->s.heap.get? b=some o->h'.get? b=some o)(hn:∀b∈ch,H b=none)
  (d:∀b∈ch,(b∈X.ex\/X.s₀.heap.objs.size<=b)/\b≠X.env.locals/\(∀x c,X.env.cells.lookup x=some c->c≠b)/\∀p∈X.pn++pins,p.1≠b) (a:s.heap.objs.size<=T) (r:Vals xs d_) (hz:xs.length<=sizeLine) (ht:IsTup h' T d_.toArray):
  Inv X pins σ (upd H T (.tup xs)) { s with heap:=h',toks:=tk }:=by
 have hf:H T=none:=I.hok.fresh a;have f:=CF I.hok k hn;refine I.call (g':=s.gens) (d':=s.drawn) (t':=tk) (Un.track (Fh k) a hf) (λb u e=>?_) I.bare d;by_cases hb:b=T
 ·subst hb
  rw[aG] at e;cases e;exact⟨hz,d_,r,ht⟩
 ·rw[aK hb] at e
  refine(f b u e).stay (λc v _ q=>q) (λc q=>?_) λc ys q=>?_
  ·rw[aK (bd q hf)];exact q
  ·rw[aK (bd q hf)];exact q
end
def Ite(K:Za)(a:Addr):It:=
 ⟨λi H=>∃xs x,SqL K H a xs/\xs[i]?=some x,λi H x H'=>∃v p,(∀xs,SqL K H a xs->xs[i]?=some v)/\H p=none/\H'=upd H p (.tup [.int (i:Int),v])/\x=.ref p,λi H=>∃xs,SqL K H a xs/\xs.length<=i⟩
theorem CG{P:Zw}{w:World}{K:Za}{j:Zg}{A:Nat}{tp:Pos}(a e it:Addr)(r:e≠it):Turn P w K (.Tuple j A tp) (Ite K a) [e,it] e (λi h=>(∃f,IsEnum h e it i f)/\h.IsListIter it a i) where
 mem:=by simp
 obj:=λi h st b hb=>by
  obtain⟨⟨f,g⟩,⟨o,B,c,d⟩⟩:=st;have m:b=e\/b=it:=by simpa using hb
  rcases m with rfl | rfl
  ·exact⟨_,g,λv z=>by cases z⟩
  ·exact⟨o,B,λv z=>by rw[d] at z;cases z⟩
 keep:=λi h h' st k=>by
  obtain⟨⟨f,g⟩,J0⟩:=st;exact⟨⟨f,k e (by simp) _ g⟩,J0.at λo x=>k it (by simp) o x⟩
 item:=by
  rw[0];obtain⟨xs,x,hq,hx⟩:=hg;obtain⟨d_,n,p,hz⟩:=I.list hq;obtain⟨u,hu,C⟩:=n.get hx;obtain⟨⟨f,g⟩,J0⟩:=st;have l:=hf e (by simp);have fi:=hf it (by simp);refine wpAny_pyNext_enum_item g J0 p.isList (x:=u) (by simpa using hu) r λh' ho G J hsz hk=>⟨_,rfl,?_⟩
  have L:H s.heap.objs.size=none:=I.hok.fresh (YE _);have O:Inv X pins σ (upd H s.heap.objs.size (.tup [.int (i:Int),x])) { s with heap:=h',toks:=s.toks+1 }:=Inv.turnedT (ch:=[e,it]) (d_:=[.int (i:Int) s.toks,u]) I
   (λb o hb q=>hk b o (λz=>hb (by simp[z])) (λz=>hb (by simp[z])) q)
   (λb hb=>(hf b hb).1) (λb hb=>⟨(hf b hb).2.2.2.1,(hf b hb).2.1,(hf b hb).2.2.2.2.1,(hf b hb).2.2.2.2.2⟩) (YE _) (.cons ⟨_,rfl⟩ (.cons C .nil)) (by show 2<=sizeLine;decide) ⟨_,J,rfl,_,rfl⟩
  have neT:∀b∈[e,it],b≠s.heap.objs.size:=λb hb z=>by
   have m:b=e\/b=it:=by simpa using hb
   rcases m with rfl | rfl
   ·exact absurd (Ye g) (by rw[z];exact ZS _)
   ·obtain⟨_,R,_⟩:=J0;exact absurd (Ye R) (by rw[z];exact ZS _)
  refine wpAny_letOwnedTupleGo_enum (s:={ s with heap:=h',toks:=s.toks+1 }) ho λS T y=>?_
  have U:=L2.Inv.turned (h':=S) (t':=s.toks+1) (it:=e) O (λb o hb q=>(y.2 b hb).trans q) (by rw[aK (neT e (by simp))];exact l.1) l.2.1 l.2.2.2.1 l.2.2.2.2.1 l.2.2.2.2.2;refine⟨.ref s.heap.objs.size,_,U,rfl,⟨x,s.heap.objs.size,λys hy=>by rw[I.list_inj hy hq];exact hx,L,rfl,rfl⟩,⟨⟨u,by simpa using T⟩,G.at λo q=>(y.2 it r.symm).trans q⟩,λb hb=>?_⟩;rw[aK (neT b hb)];exact(hf b hb).1
 done:=by
  rw[0];obtain⟨xs,hq,hx⟩:=hg;obtain⟨d_,n,p,hz⟩:=I.list hq;obtain⟨⟨f,g⟩,J0⟩:=st;obtain⟨V,W,f2,Y,Z,f5⟩:=hf it (by simp);have hl:=n.length;exact wpAny_pyNext_enum_end (I.ok.hd hc) g J0 p.isList (by simp;omega) λh' eb=>⟨rfl,I.turned (t':=s.toks) (λb o hb q=>eb b o hb q) V W Y Z f5⟩
 self:=λ_ _ _ _ _ st h=>by
  obtain⟨⟨f,g⟩,_⟩:=st;exact wpAny_pyIter_enum g h
def IteT(K:Za)(a:Addr):It:=
 ⟨λi H=>∃xs x,SqT K H a xs/\xs[i]?=some x,λi H x H'=>∃v p,(∀xs,SqT K H a xs->xs[i]?=some v)/\H p=none/\H'=upd H p (.tup [.int (i:Int),v])/\x=.ref p,λi H=>∃xs,SqT K H a xs/\xs.length=i⟩
theorem Bb{P:Zw}{w:World}{K:Za}{m:Zg}{S:Nat}{tp:Pos}(a e it:Addr)(r:e≠it):Turn P w K (.Tuple m S tp) (IteT K a) [e,it] e (λi h=>(∃f,IsEnum h e it i f)/\h.IsTupleIter it a i) where
 mem:=by simp
 obj:=λi h st b hb=>by
  obtain⟨⟨f,g⟩,⟨o,T,c,d⟩⟩:=st;have A:b=e\/b=it:=by simpa using hb
  rcases A with rfl | rfl
  ·exact⟨_,g,λv z=>by cases z⟩
  ·exact⟨o,T,λv z=>by rw[d] at z;cases z⟩
 keep:=λi h h' st k=>by
  obtain⟨⟨f,g⟩,J0⟩:=st;exact⟨⟨f,k e (by simp) _ g⟩,J0.at λo x=>k it (by simp) o x⟩
 item:=by
  rw[0];obtain⟨xs,x,hq,hx⟩:=hg;obtain⟨d_,B,p,hz⟩:=I.tuple hq;obtain⟨u,hu,U⟩:=B.get hx;obtain⟨⟨f,g⟩,J0⟩:=st;have p:s.heap.IsTuple a d_.toArray:=p;have n:=hf e (by simp);have fi:=hf it (by simp);have C:a≠it:=λz=>by
   obtain⟨L,j,l,_⟩:=p;obtain⟨V,G,J,_⟩:=J0;rw[z,G] at j;cases j;rw[J] at l;exact absurd l 'a'
  have W:e≠a:=λz=>by
   obtain⟨L,j,l,_⟩:=p;rw[←z,g] at j;cases j;exact absurd (show Value.type "enumerate" = Value.type "tuple" from l) 'a'
  have hi:i<d_.toArray.size:=by have:=(YB.1 hu).1;simpa using this
  refine wpAny_pyNext_enum_itemD (sd (by simp[I.ok.hd hc]) it a C d_.toArray) g ⟨J0,p⟩ hi r (by simp;exact⟨r,W⟩) λy h' tk hy ho Y Z hsz hk=>⟨_,rfl,?_⟩
  have VN:y=u:=by
   have O:d_[i]?=some y:=by simpa using hy
   rw[hu] at O;cases O;rfl
  subst VN;have Lw:H s.heap.objs.size=none:=I.hok.fresh (YE _);have I1:Inv X pins σ (upd H s.heap.objs.size (.tup [.int (i:Int),x])) { s with heap:=h',toks:=tk+1 }:=Inv.turnedT (ch:=[e,it]) (d_:=[.int (i:Int) tk,y]) I
   (λb o hb q=>hk b o (λz=>hb (by simp[z])) (λz=>hb (by simp[z])) q)
   (λb hb=>(hf b hb).1) (λb hb=>⟨(hf b hb).2.2.2.1,(hf b hb).2.1,(hf b hb).2.2.2.2.1,(hf b hb).2.2.2.2.2⟩) (YE _) (.cons ⟨_,rfl⟩ (.cons U .nil)) (by show 2<=sizeLine;decide) ⟨_,Z,rfl,_,rfl⟩
  have neT:∀b∈[e,it],b≠s.heap.objs.size:=λb hb z=>by
   have A:b=e\/b=it:=by simpa using hb
   rcases A with rfl | rfl
   ·exact absurd (Ye g) (by rw[z];exact ZS _)
   ·obtain⟨_,x1,_⟩:=J0;exact absurd (Ye x1) (by rw[z];exact ZS _)
  refine wpAny_letOwnedTupleGo_enum (s:={ s with heap:=h',toks:=tk+1 }) ho λN4 Nv R=>?_
  have I2:=L2.Inv.turned (h':=N4) (t':=tk+1) (it:=e) I1 (λb o hb q=>(R.2 b hb).trans q) (by rw[aK (neT e (by simp))];exact n.1) n.2.1 n.2.2.2.1 n.2.2.2.2.1 n.2.2.2.2.2;refine⟨.ref s.heap.objs.size,_,I2,rfl,⟨x,s.heap.objs.size,λys hy=>by rw[I.tuple_inj hy hq];exact hx,Lw,rfl,rfl⟩,⟨⟨y,by simpa using Nv⟩,Y.1.at λo q=>(R.2 it r.symm).trans q⟩,λb hb=>?_⟩;rw[aK (neT b hb)];exact(hf b hb).1
 done:=by
  rw[0];obtain⟨xs,hq,hx⟩:=hg;obtain⟨d_,B,p,hz⟩:=I.tuple hq;have p:s.heap.IsTuple a d_.toArray:=p;obtain⟨⟨f,g⟩,J0⟩:=st;obtain⟨f0,f1,f2,f3,f4,f5⟩:=hf it (by simp);have C:a≠it:=λz=>by
   obtain⟨L,j,l,_⟩:=p;obtain⟨V,G,J,_⟩:=J0;rw[z,G] at j;cases j;rw[J] at l;exact absurd l 'a'
  have hn:i=d_.toArray.size:=by rw[←hx,B.length];simp
  subst hn;exact wpAny_pyNext_enum_endD (sd (by simp[I.ok.hd hc]) it a C d_.toArray) g ⟨J0,p⟩ λh' eb=>⟨rfl,I.turned (t':=s.toks) (λb o hb q=>eb b o hb q) f0 f1 f3 f4 f5⟩
 self:=λ_ _ _ _ _ st h=>by
  obtain⟨⟨f,g⟩,_⟩:=st;exact wpAny_pyIter_enum g h
def aX:Int->List D->List D
 |_,[]=>[]
 |n,d::r=>.tup [.int n,d]::aX (n+1) r
theorem gZ:∀(n:Int) (ds:List D),(aX n ds).length=ds.length
 |_,[]=>rfl
 |n,d::r=>by rw[aX,YH,YH,gZ]
theorem qw:∀{n:Int}{ds:List D}{i:Nat}{x:D},(aX n ds)[i]?=some x->∃d,ds[i]?=some d/\x=.tup [.int (n+i),d]
 |_,[],_,_,h=>by cases h
 |n,d::r,0,x,h=>by
  rw[aX] at h;simp at h;exact⟨d,rfl,by rw[←h];simp⟩
 |n,d::r,i+1,x,h=>by
  rw[aX] at h;obtain⟨d',a,b⟩:=qw (n:=n+1) (ds:=r) (i:=i) (x:=x) (by simpa using h);refine⟨d',by simpa using a,?_⟩;rw[b];congr 2;congr 1;omega
theorem xS{K:Za}{a:Addr}{ds:List D}{f:Hp}{g:MH->Prop}(hg:∀H M,RM K M H->g M->∃vs,SqL K H a vs/\RVs K H ds vs):JOk K (Ite K a) f (aX 0 ds) g:=by
 intro i H M _ c q;obtain⟨vs,sq,b⟩:=hg H M c q;rw[gZ];refine⟨λhi=>?_,λhi=>⟨vs,sq,by rw[←b.len];exact Nat.le_of_eq hi.symm⟩,λx H' d hd ⟨v,p,j,hp,e,y⟩=>?_⟩
 ·have:i<vs.length:=by rw[←b.len];exact hi
  exact⟨vs,vs[i],sq,ZC this⟩
 ·subst e y
  obtain⟨d',l,rfl⟩:=qw hd;obtain⟨n,m,r⟩:=cB b.p l
  have:=j vs sq
  rw[m] at this;cases this;have k:=Kp.new (o:=.tup [.int (i:Int),v]) hp;refine⟨k,c.newH hp,RV.tup_.2 ⟨p,_,rfl,SqT.of aG,.cons (RV.int_.2 (by rw[Int.zero_add])) (.cons (RV.mono k _ r) .nil)⟩⟩
theorem CH{K:Za}{a:Addr}{ds:List D}{vs:List V}{c:Hp}(sq:SqT K c a vs)(b:RVs K c ds vs):JOk K (IteT K a) c (aX 0 ds) (λ_=>True):=by
 intro i H M k f _;have sq:=k.sq sq;have b:=RVs.mono k _ b;rw[gZ];refine⟨λhi=>?_,λhi=>⟨vs,sq,by rw[←b.len];exact hi.symm⟩,λx H' d hd ⟨v,p,g,hp,e,y⟩=>?_⟩
 ·have:i<vs.length:=by rw[←b.len];exact hi
  exact⟨vs,vs[i],sq,ZC this⟩
 ·subst e y
  obtain⟨d',j,rfl⟩:=qw hd;obtain⟨m,l,r⟩:=cB b.p j
  have:=g vs sq
  rw[l] at this;cases this;have k:=Kp.new (o:=.tup [.int (i:Int),v]) hp;refine⟨k,f.newH hp,RV.tup_.2 ⟨p,_,rfl,SqT.of aG,.cons (RV.int_.2 (by rw[Int.zero_add])) (.cons (RV.mono k _ r) .nil)⟩⟩
def Bc(t:WA):WI:=λσ M R=>t σ M λds M1=>match ds with
 |[.tup xs]=>R (aX 0 xs) (λ_=>True) M1
 |[.ref a]=>match M1 a with
  |some (.lst xs)=>R (aX 0 xs) (λM'=>M' a=some (.lst xs)) M1
  |some (.rol xs)=>R (aX 0 xs) (λM'=>M' a=some (.rol xs)) M1
  |_=>False
 |_=>False
section
variable {X:Cx}{H:Hp}{pos:Pos}
theorem Aa{pins:Zc}{ρ:L2.St}{s:Shared}{c:Zg}{f:Nat}{tp:Pos}{a:Addr}{xs:List V}{R:It->Hp->Prop}(I:Inv X pins ρ H s)(hq:SqL X.K H a xs)(q:R (Ite X.K a) H):
  wpAny 'c' X.A (call (.type "enumerate") [.ref a]) (λv s1=>wpAny 'c' X.A (pyIter v) (PIE X pins ρ (.Tuple c f tp) R) X.xe s1) X.xe s:=by
 obtain⟨d_,l,p,hz⟩:=I.list hq;refine call_enumerate_list p.isList λh' d g hsz hk=>?_
 refine wpAny_pyIter_enum d ?_;have j:Inv X pins ρ H { s with heap:=h' }:=I.kept (t':=s.toks) hk;refine⟨s.heap.objs.size+1,[s.heap.objs.size+1,s.heap.objs.size],_,_,H,rfl,j,CG a _ _ (Nat.succ_ne_self _),⟨⟨.none,d⟩,g⟩,λb hb=>?_,q⟩;have k:b=s.heap.objs.size+1\/b=s.heap.objs.size:=by simpa using hb
 rcases k with rfl | rfl
 ·exact I.fpOk (YM _) (I.hok.fresh (YM _))
 ·exact I.fpOk (YE _) (I.hok.fresh (YE _))
theorem El{pins:Zc}{ρ:L2.St}{s:Shared}{c:Zg}{f:Nat}{tp:Pos}{a:Addr}{xs:List V}{R:It->Hp->Prop}(I:Inv X pins ρ H s)(hq:SqT X.K H a xs)(q:R (IteT X.K a) H):
  wpAny 'c' X.A (call (.type "enumerate") [.ref a]) (λv s1=>wpAny 'c' X.A (pyIter v) (PIE X pins ρ (.Tuple c f tp) R) X.xe s1) X.xe s:=by
 obtain⟨d_,l,p,hz⟩:=I.tuple hq;refine Ba (show s.heap.IsTuple a d_.toArray from p) λh' d g hk=>?_
 refine wpAny_pyIter_enum d ?_;have j:Inv X pins ρ H { s with heap:=h' }:=I.kept (t':=s.toks) hk;refine⟨s.heap.objs.size+1,[s.heap.objs.size+1,s.heap.objs.size],_,_,H,rfl,j,Bb a _ _ (Nat.succ_ne_self _),⟨⟨.none,d⟩,g⟩,λb hb=>?_,q⟩;have k:b=s.heap.objs.size+1\/b=s.heap.objs.size:=by simpa using hb
 rcases k with rfl | rfl
 ·exact I.fpOk (YM _) (I.hok.fresh (YM _))
 ·exact I.fpOk (YE _) (I.hok.fresh (YE _))
theorem Em{l:Expr}{t:WA}{p:Pos}{g:Zg}{C:Nat}{tp:Pos}(hg:Gl X "enumerate")(hm:X.mg "enumerate" = none)(h:PAd X [l] t)(G:aA l=true):PId X (.Tuple g C tp) (.Call (.Name "enumerate" p) [l] [] pos) (Bc t):=by
 intro σ M ρ H R rs J q pins s I;refine Call_ (dB I hg hm (by rfl':bootBuiltins "enumerate" = some (.type "enumerate")) (PyProof.Rows.callWith_type1 (thn (h σ M ρ H _ rs J q pos pins s I) λus s1 L=>?_) (a9 G) rfl));obtain⟨vs,O,d,B,⟨n,ds,M1,m,l1,j,b⟩⟩:=L;try dsimp only at b
 split at b
 ·rename_i S
  rw[RVs] at m;obtain⟨v,P,rfl,o,k⟩:=m;rw[RVs] at k;subst k;obtain⟨a,xs,rfl,sq,f⟩:=RV.tup_.1 o;obtain⟨u,rfl,r⟩:=B.one;cases r;obtain⟨_,_,_,hz⟩:=d.tuple sq;exact El d sq ⟨n,_,_,M1,j,trivial,CH sq f,by rw[gZ,f.len];exact hz,b⟩
 ·rename_i a
  rw[RVs] at m;obtain⟨v,P,rfl,o,k⟩:=m;rw[RVs] at k;subst k;cases RV.ref_.1 o;obtain⟨u,rfl,r⟩:=B.one;cases r;split at b
  ·rename_i xs e
   obtain⟨ys,c,f⟩:=j a _ e;obtain⟨_,_,_,hz⟩:=d.list (SqL.of c);refine Aa d (SqL.of c) ⟨n,_,_,M1,j,e,xS λH' M' y g'=>?_,by rw[gZ,f.len];exact hz,b⟩;obtain⟨z,e',A⟩:=y a _ g';exact⟨z,SqL.of e',A⟩
  ·rename_i xs e
   obtain⟨ys,c,f⟩:=j a _ e;have c:SqL X.K O a ys:=.inl c;obtain⟨_,_,_,hz⟩:=d.list c;refine Aa d c ⟨n,_,_,M1,j,e,xS λH' M' y g'=>?_,by rw[gZ,f.len];exact hz,b⟩;obtain⟨z,e',A⟩:=y a _ g';exact⟨z,.inl e',A⟩
  ·exact Yh b
 ·exact Yh b
end
section
variable {prog:Zw}{w:World}{A:Around}{E:Zb}{s:Shared}
structure ZAp (z u o i j a b:Addr):Prop where
 uz:u≠z
 oz:o≠z
 iz:i≠z
 jz:j≠z
 uo:u≠o
 ui:u≠i
 uj:u≠j
 oi:o≠i
 oj:o≠j
 ij:i≠j
 az:a≠z
 ao:a≠o
 ai:a≠i
 aj:a≠j
 bz:b≠z
 bo:b≠o
 bi:b≠i
 bj:b≠j
theorem zAp(n a b:Nat)(c:a<n)(d:b<n):ZAp (n+4) (n+2) (n+3) n (n+1) a b:=by
 constructor<;>(intro y;have f:@Eq Nat _ _:=y;omega)
def ZSt(z u o i j a b:Addr)(xs ys:Zl)(f:Value)(k:Nat)(h:Heap):Prop:=
 IsZip h z u o f/\IsPair h u (.ref i) (.ref j)/\(∃p q,IsPair h o p q)/\h.IsTupleIter i a k/\h.IsTupleIter j b k/\h.IsTuple a xs/\h.IsTuple b ys
theorem CI{z u o i j a b:Addr}{k:Nat}{xs ys:Zl}{x y:Value}{Q:Zb}(D:ZAp z u o i j a b)(st:ZSt z u o i j a b xs ys .none k s.heap)(hx:xs[k]?=some x)(hy:ys[k]?=some y)
  (hQ:∀h',ZSt z u o i j a b xs ys (rawInt s.heap.objs.size) (k+1) h'->IsPair h' s.heap.objs.size x y->(∀c q,c≠z->c≠o->c≠i->c≠j->s.heap.get? c=some q->h'.get? c=some q)->Q (.ref s.heap.objs.size) { s with heap:=h' }):
  wpAny (model prog w) A (Builtin.«zip.__next__» ⟨[.ref z],[]⟩) (λfin t=>∃v,fin=.done (.ret v)/\Q v t) E s:=by
 obtain⟨hz,hu,⟨p,q,ho⟩,hi,hj,ha,hb⟩:=st;show wpAny _ _ (field (.ref z) 2 >>= λ_=>_) _ _ s;refine Yb (wpAny_field hz rfl (x:=.bool false) rfl (Yb (wpAny_field hz rfl (x:=.ref u) rfl (Yb (wpAny_seqItems hu rfl (Yb ?_))))));unfold Builtin.SmallTypes.ownedTupleIsFree;refine Yb (wpAny_field hz rfl (x:=.none) rfl (Yc ?_));simp only[if_true];refine Yb (wpAny_rule (Yb (wpAny_field hz rfl (x:=.ref o) rfl (Yb (wpAny_setField_rec hz (by simp) λS z1 f=>Yb ?_)))));have z1:IsZip S z u o .ellipsis:=z1;have f:Heap.SameBut z s.heap S:=f;simp only[List.zipIdx_cons,List.zipIdx_nil,List.forIn_cons,List.forIn_nil];refine Yb (Yb (wpAny_onRaise (show wpAny _ _ (Builtin.SmallTypes.nextOf (.ref i) >>= λ_=>_) _ _ { s with heap:=S } from Yb (lL (hi.extBut f.extBut D.iz) (ha.extBut f.extBut D.az) hx λL i2 g=>Yc ?_))));have g:Heap.SameBut i S L:=g;have o2:IsPair L o p q:=g.extBut _ _ D.oi (f.extBut _ _ D.oz ho);refine Yb (wpAny_seqItems (s:={ s with heap:=L }) o2 rfl (Yb (wpAny_updateSeq_pair (s:={ s with heap:=L }) o2 λm o3 l=>Yb (wpAny_letGo (Yc ?_)))));have o3:IsPair m o x q:=o3;have l:Heap.SameBut o L m:=l;have j3:m.IsTupleIter j b k:=((hj.extBut f.extBut D.jz).extBut g.extBut D.ij.symm).extBut l.extBut D.oj.symm;have y3:m.IsTuple b ys:=((hb.extBut f.extBut D.bz).extBut g.extBut D.bi).extBut l.extBut D.bo;refine Yb (Yb (wpAny_onRaise (show wpAny _ _ (Builtin.SmallTypes.nextOf (.ref j) >>= λ_=>_) _ _ { s with heap:=m } from Yb (lL (s:={ s with heap:=m }) j3 y3 hy λO j4 B=>Yc ?_))));have B:Heap.SameBut j m O:=B;have o4:IsPair O o x q:=B.extBut _ _ D.oj o3;refine Yb (wpAny_seqItems (s:={ s with heap:=O }) o4 rfl (Yb (wpAny_updateSeq_pair (s:={ s with heap:=O }) o4 λd T C=>Yb (wpAny_letGo (Yc (Yc ?_))))));have T:IsPair d o x y:=T;have C:Heap.SameBut o O d:=C;refine Yb (wpAny_seqItems (s:={ s with heap:=d }) T rfl (Yb (wpAny_newTuple ?_)));have sz:d.objs.size=s.heap.objs.size:=by rw[C.1,B.1,l.1,g.1,f.1]
 have kp:∀c r,c≠z->c≠o->c≠i->c≠j->s.heap.get? c=some r->d.get? c=some r:=λc r J K P R e=>C.extBut _ _ K (B.extBut _ _ R (l.extBut _ _ K (g.extBut _ _ P (f.extBut _ _ J e))))
 have z5:IsZip d z u o .ellipsis:=C.extBut _ _ D.oz.symm (B.extBut _ _ D.jz.symm (l.extBut _ _ D.oz.symm (g.extBut _ _ D.iz.symm z1)));have i5:d.IsTupleIter i a (k+1):=((i2.extBut l.extBut D.oi.symm).extBut B.extBut D.ij).extBut C.extBut D.oi.symm;have j5:d.IsTupleIter j b (k+1):=j4.extBut C.extBut D.oj.symm;have zl:z<d.objs.size:=Ye z5;show wpAny _ _ (Builtin.SmallTypes.ownedTupleHandOut (.ref z) (.ref d.objs.size) >>= λ_=>_) _ _ { s with heap:=d.push { cls:=.type "tuple",data:=.seq #[x,y] } };refine Yb ?_;unfold Builtin.SmallTypes.ownedTupleHandOut;have z6:IsZip (d.push { cls:=.type "tuple",data:=.seq #[x,y] }) z u o .ellipsis:=Yd _ z5;refine Yb (wpAny_setField_rec (s:={ s with heap:=d.push { cls:=.type "tuple",data:=.seq #[x,y] } }) z6 (by simp) λU z7 V=>?_);have z7:IsZip U z u o (rawInt d.objs.size):=z7;have V:Heap.SameBut z (d.push { cls:=.type "tuple",data:=.seq #[x,y] }) U:=V;refine wpAny_setField_rec (s:={ s with heap:=U }) z7 (by simp) λG W Y=>?_
 have W:IsZip G z u o (rawInt d.objs.size):=W;have Y:Heap.SameBut z U G:=Y;have Z:∀c r,c≠z->d.get? c=some r->G.get? c=some r:=λc r n e=>Y.extBut _ _ n (V.extBut _ _ n (Yd _ e))
 have t8:IsPair G d.objs.size x y:=Y.extBut _ _ (Nat.ne_of_gt zl) (V.extBut _ _ (Nat.ne_of_gt zl) (Yg _ rfl));rw[sz] at W t8;refine Yc ⟨_,rfl,?_⟩;show Q (.ref d.objs.size) _;rw[sz];have RG:∀c r,c≠z->c≠o->c≠i->c≠j->s.heap.get? c=some r->G.get? c=some r:=λc r J K P R e=>Z c r J (kp c r J K P R e)
 have tup:∀{c vs},s.heap.IsTuple c vs->c≠z->c≠o->c≠i->c≠j->G.IsTuple c vs:=λe J K P R=>by
  obtain⟨r,e1,e2⟩:=e;exact⟨r,RG _ _ J K P R e1,e2⟩
 refine hQ G ⟨W,RG _ _ D.uz D.uo D.ui D.uj hu,⟨x,y,Z _ _ D.oz T⟩,i5.at λr e=>Z _ r D.iz e,j5.at λr e=>Z _ r D.jz e,tup ha D.az D.ao D.ai D.aj,tup hb D.bz D.bo D.bi D.bj⟩ t8 RG
theorem CJ{z u o i j a b:Addr}{k:Nat}{xs ys:Zl}{Q:Fin->Shared->Prop}(L:A.handled=none)(D:ZAp z u o i j a b)(st:ZSt z u o i j a b xs ys .none k s.heap)(hx:xs[k]?=none)
  (O:∀h' e,(∀c q,c≠z->c≠o->c≠i->c≠j->s.heap.get? c=some q->h'.get? c=some q)->(∃q,h'.get? e=some q/\q.cls=.type "StopIteration")->E (.ref e) { s with heap:=h' }):
  wpAny (model prog w) A (Builtin.«zip.__next__» ⟨[.ref z],[]⟩) Q E s:=by
 obtain⟨hz,hu,⟨p,q,ho⟩,hi,U,ha,hb⟩:=st;show wpAny _ _ (field (.ref z) 2 >>= λ_=>_) _ _ s;refine Yb (wpAny_field hz rfl (x:=.bool false) rfl (Yb (wpAny_field hz rfl (x:=.ref u) rfl (Yb (wpAny_seqItems hu rfl (Yb ?_))))));unfold Builtin.SmallTypes.ownedTupleIsFree;refine Yb (wpAny_field hz rfl (x:=.none) rfl (Yc ?_));simp only[if_true];refine Yb (wpAny_rule (Yb (wpAny_field hz rfl (x:=.ref o) rfl (Yb (wpAny_setField_rec hz (by simp) λf n d=>Yb ?_)))));have n:IsZip f z u o .ellipsis:=n;have d:Heap.SameBut z s.heap f:=d;simp only[List.zipIdx_cons,List.zipIdx_nil,List.forIn_cons,List.forIn_nil];refine Yb (Yb (wpAny_onRaise (show wpAny _ _ (Builtin.SmallTypes.nextOf (.ref i) >>= λ_=>_) _ _ { s with heap:=f } from Yb (lM L (hi.extBut d.extBut D.iz) (ha.extBut d.extBut D.az) hx λg e l P=>?_))));obtain⟨R,B,C⟩:=P;have l:Heap.ExtBut i f g:=l;have G:IsZip g z u o .ellipsis:=l _ _ D.iz.symm n;have S:e≠z:=λy=>by subst y;rw[G] at B;cases B;simp at C
 refine wpAny_setField_rec (s:={ s with heap:=g }) G (by simp) λJ _ m=>?_
 have m:Heap.SameBut z g J:=m;exact O J e (λc r K _ T _ y=>m.extBut _ _ K (l _ _ T (d.extBut _ _ K y))) ⟨R,m.extBut _ _ S B,C⟩
theorem CK{z u o i j a b:Addr}{k:Nat}{xs ys:Zl}{x y:Value}{Q:Option Value->Shared->Prop}(D:ZAp z u o i j a b)(st:ZSt z u o i j a b xs ys .none k s.heap)(hx:xs[k]?=some x)(hy:ys[k]?=some y)
  (d:∀h',ZSt z u o i j a b xs ys (rawInt s.heap.objs.size) (k+1) h'->IsPair h' s.heap.objs.size x y->(∀c q,c≠z->c≠o->c≠i->c≠j->s.heap.get? c=some q->h'.get? c=some q)->Q (some (.ref s.heap.objs.size)) { s with heap:=h' }):
  wpAny (model prog w) A (pyNext (.ref z)) Q E s:=by
 have ty:s.TypeIs (.ref z) "zip":=⟨_,st.1,rfl⟩;unfold pyNext;refine Yb (wpAny_attempt (wpAny_callSpecial?_slot (name:=Str.ofString "__next__") ty F.slot_zip_next (wpAny_call_entry F.slot_zip_next ty F.entry_zip_next ?_ (F.args_zip_next_1 _))));exact CI D st hx hy λh' f g l=>Yc (d h' f g l)
theorem En{z u o i j a b:Addr}{k:Nat}{xs ys:Zl}{Q:Option Value->Shared->Prop}(d:A.handled=none)(D:ZAp z u o i j a b)(st:ZSt z u o i j a b xs ys .none k s.heap)(hx:xs[k]?=none)
  (f:∀h',(∀c q,c≠z->c≠o->c≠i->c≠j->s.heap.get? c=some q->h'.get? c=some q)->Q none { s with heap:=h' }):wpAny (model prog w) A (pyNext (.ref z)) Q E s:=by
 have ty:s.TypeIs (.ref z) "zip":=⟨_,st.1,rfl⟩;unfold pyNext;refine Yb (wpAny_attempt (wpAny_callSpecial?_slot (name:=Str.ofString "__next__") ty F.slot_zip_next (wpAny_call_entry F.slot_zip_next ty F.entry_zip_next ?_ (F.args_zip_next_1 _))));refine CJ d D st hx λh' e g l=>?_
 obtain⟨q,m,n⟩:=l;exact Yb (wpAny_isInstance (T:="StopIteration") (b:=true) ⟨q,m,n⟩ isSubtype_stop (Yc (f _ g)))
def my(h:Heap)(a b:Addr):Heap:=((((h.push { cls:=.type "tuple_iterator",data:=.fields #[.ref a,.int 0 0] }).push { cls:=.type "tuple_iterator",data:=.fields #[.ref b,.int 0 0] }).push { cls:=.type "tuple",data:=.seq #[.ref h.objs.size,.ref (h.objs.size+1)] }).push { cls:=.type "tuple",data:=.seq #[.none,.none] }).push { cls:=.type "zip",data:=.fields #[.none,.bool false,.bool false,.ref (h.objs.size+2),.ref (h.objs.size+3)] }
theorem Ep(a b:Addr)(xs ys:Zl):Meets (Builtin.«zip.__new__» ⟨[.type "zip",.ref a,.ref b],[]⟩) (λ_ R t=>t.heap.IsTuple a xs/\t.heap.IsTuple b ys/\R (.ok (.ret (.ref (t.heap.objs.size+4)))) { t with heap:=my t.heap a b }):=by
 refine .of_wp λj k l R t h=>?_
 obtain⟨hp,g,d,tk,os⟩:=t;obtain⟨ha,hb,h⟩:=h;have m:=sub_zip;have c:Heap.IsTuple (Shared.heap ⟨hp,g,d,tk,os⟩) a xs:=ha;have f:Heap.IsTuple (Shared.heap ⟨hp.push { cls:=.type "tuple_iterator",data:=.fields #[.ref a,.int 0 0] },g,d,tk,os⟩) b ys:=Heap.IsTuple.push hb _;wp_walk using wpAny_pyIter_tuple c,wpAny_pyIter_tuple f;refine⟨_,rfl,?_⟩;simp only[Heap.size_push];exact h
theorem CL{a b:Addr}{xs ys:Zl}{Q:Zb}(ha:s.heap.IsTuple a xs)(hb:s.heap.IsTuple b ys)
  (h:∀h',ZSt (s.heap.objs.size+4) (s.heap.objs.size+2) (s.heap.objs.size+3) s.heap.objs.size (s.heap.objs.size+1) a b xs ys .none 0 h'->(∀c q,s.heap.get? c=some q->h'.get? c=some q)->Q (.ref (s.heap.objs.size+4)) { s with heap:=h' }):
  wpAny (model prog w) A (call (.type "zip") [.ref a,.ref b]) Q E s:=by
 refine callType_new F.called_zip 'a' (F.typeCall_zip_2 _ _) (F.newCall_zip_2 _ _) (λobj=>F.args_object_init_3 obj _ _) F.entry_zip_new (Ep a b xs ys) ⟨ha,hb,?_⟩;have kp:∀c q,s.heap.get? c=some q->(my s.heap a b).get? c=some q:=λc q e=>Yd _ (Yd _ (Yd _ (Yd _ (Yd _ e))))
 have j:(my s.heap a b).get? s.heap.objs.size=some { cls:=.type "tuple_iterator",data:=.fields #[.ref a,.int 0 0] }:=Yd _ (Yd _ (Yd _ (Yd _ (Yg _ rfl))));have at_:∀(h:Heap) (n:Nat) (q:Obj),h.objs.size=n->q.isFreed=false->(h.push q).get? n=some q:=λh n q e f=>by rw[←e];exact Yg _ f
 have k:(my s.heap a b).get? (s.heap.objs.size+1)=some { cls:=.type "tuple_iterator",data:=.fields #[.ref b,.int 0 0] }:=Yd _ (Yd _ (Yd _ (at_ _ _ _ (by simp only[Heap.size_push]) rfl)));have l:(my s.heap a b).get? (s.heap.objs.size+2)=some { cls:=.type "tuple",data:=.seq #[.ref s.heap.objs.size,.ref (s.heap.objs.size+1)] }:=Yd _ (Yd _ (at_ _ _ _ (by simp only[Heap.size_push]) rfl));have m:(my s.heap a b).get? (s.heap.objs.size+3)=some { cls:=.type "tuple",data:=.seq #[.none,.none] }:=Yd _ (at_ _ _ _ (by simp only[Heap.size_push]) rfl);have d:(my s.heap a b).get? (s.heap.objs.size+4)=some { cls:=.type "zip",data:=.fields #[.none,.bool false,.bool false,.ref (s.heap.objs.size+2),.ref (s.heap.objs.size+3)] }:=at_ _ _ _ (by simp only[Heap.size_push]) rfl;have g:∀{c vs},s.heap.IsTuple c vs->(my s.heap a b).IsTuple c vs:=λe=>by
  obtain⟨r,o,p⟩:=e;exact⟨r,kp _ _ o,p⟩
 exact⟨⟨_,d,rfl⟩,h _ ⟨d,l,⟨_,_,m⟩,⟨_,j,rfl,rfl⟩,⟨_,k,rfl,rfl⟩,g ha,g hb⟩ kp⟩
end
section
variable {X:Cx}{pins:Zc}{σ:L2.St}{H:Hp}{s:Shared}{h':Heap}
theorem Inv.turnedC{ch:Zh}{tk:Nat}(I:Inv X pins σ H s)(k:∀b o,b∉ch->s.heap.get? b=some o->h'.get? b=some o)(hn:∀b∈ch,H b=none)
  (a:∀b∈ch,(b∈X.ex\/X.s₀.heap.objs.size<=b)/\b≠X.env.locals/\(∀x c,X.env.cells.lookup x=some c->c≠b)/\∀p∈X.pn++pins,p.1≠b):Inv X pins σ H { s with heap:=h',toks:=tk }:=
 I.call (g':=s.gens) (d':=s.drawn) (t':=tk) (Fh k) (CF I.hok k hn) I.bare a
end
def Itz(K:Za)(a b:Addr):It:=
 ⟨λi H=>∃xs ys x y,SqT K H a xs/\SqT K H b ys/\xs[i]?=some x/\ys[i]?=some y,λi H x H'=>∃u v p,(∀xs,SqT K H a xs->xs[i]?=some u)/\(∀ys,SqT K H b ys->ys[i]?=some v)/\H p=none/\H'=upd H p (.tup [u,v])/\x=.ref p,λi H=>∃xs ys,SqT K H a xs/\SqT K H b ys/\xs.length=i⟩
theorem CM{P:Zw}{w:World}{K:Za}{g:Zg}{V:Nat}{tp:Pos}(z u o i j a b:Addr)(D:ZAp z u o i j a b):Turn P w K (.Tuple g V tp) (Itz K a b) [z,u,o,i,j] z (λk h=>IsZip h z u o .none/\IsPair h u (.ref i) (.ref j)/\(∃p q,IsPair h o p q)/\h.IsTupleIter i a k/\h.IsTupleIter j b k) where
 mem:=by simp
 obj:=λk h st c hc=>by
  obtain⟨hz,hu,⟨p,q,ho⟩,⟨L,l,c1,W⟩,⟨O,m,c2,Y⟩⟩:=st;have n:c=z\/c=u\/c=o\/c=i\/c=j:=by simpa using hc
  rcases n with rfl | rfl | rfl | rfl | rfl
  ·exact⟨_,hz,λv y=>by cases y⟩
  ·exact⟨_,hu,λv y=>by cases y⟩
  ·exact⟨_,ho,λv y=>by cases y⟩
  ·exact⟨L,l,λv y=>by rw[W] at y;cases y⟩
  ·exact⟨O,m,λv y=>by rw[Y] at y;cases y⟩
 keep:=λk h h' st kp=>by
  obtain⟨hz,hu,⟨p,q,ho⟩,hi,f⟩:=st;exact⟨kp z (by simp) _ hz,kp u (by simp) _ hu,⟨p,q,kp o (by simp) _ ho⟩,hi.at λr x=>kp i (by simp) r x,f.at λr x=>kp j (by simp) r x⟩
 item:=by
  intro X hP hw hK hc k pins s σ H E I hf st hg;subst hP hw hK;obtain⟨xs,ys,x,y,ha,hb,hx,hy⟩:=hg;obtain⟨Z,A,B,za⟩:=I.tuple ha;obtain⟨ib,R,C,zb⟩:=I.tuple hb;obtain⟨S,VO,VP⟩:=A.get hx;obtain⟨T,VQ,VR⟩:=R.get hy;obtain⟨hz,hu,ho,hi,f⟩:=st;have fz:=hf z (by simp);refine CK D ⟨hz,hu,ho,hi,f,B,C⟩ (x:=S) (y:=T) (by simpa using VO) (by simpa using VQ) λh' JY hT hk=>⟨_,rfl,?_⟩
  have Lw:H s.heap.objs.size=none:=I.hok.fresh (YE _);have I1:Inv X pins σ (upd H s.heap.objs.size (.tup [x,y])) { s with heap:=h',toks:=s.toks }:=Inv.turnedT (ch:=[z,u,o,i,j]) (d_:=[S,T]) I
   (λc r hc q=>hk c r (λz=>hc (by simp[z])) (λz=>hc (by simp[z])) (λz=>hc (by simp[z])) (λz=>hc (by simp[z])) q)
   (λc hc=>(hf c hc).1) (λc hc=>⟨(hf c hc).2.2.2.1,(hf c hc).2.1,(hf c hc).2.2.2.2.1,(hf c hc).2.2.2.2.2⟩) (YE _) (.cons VP (.cons VR .nil)) (by show 2<=sizeLine;decide) ⟨_,hT,rfl,_,rfl⟩
  have live:∀c∈[z,u,o,i,j],c≠s.heap.objs.size:=λc hc y=>by
   have lt:∀{c:Addr}{r:Obj},s.heap.get? c=some r->c≠s.heap.objs.size:=λe=>ZT (Ye e)
   have n:c=z\/c=u\/c=o\/c=i\/c=j:=by simpa using hc
   obtain⟨p,q,ho⟩:=ho;obtain⟨L,l,_⟩:=hi;obtain⟨O,m,_⟩:=f;rcases n with rfl | rfl | rfl | rfl | rfl
   ·exact lt hz y
   ·exact lt hu y
   ·exact lt ho y
   ·exact lt l y
   ·exact lt m y
  obtain⟨z1,u1,G,i1,j1,_,_⟩:=JY;refine wpAny_letOwnedTupleGo_zip (s:={ s with heap:=h' }) z1 λU z2 d=>?_
  have d:Heap.SameBut z h' U:=d;have I2:=L2.Inv.turned (h':=U) (t':=s.toks) (it:=z) I1 (λc r hc q=>(d.2 c hc).trans q) (by rw[aK (live z (by simp))];exact fz.1) fz.2.1 fz.2.2.2.1 fz.2.2.2.2.1 fz.2.2.2.2.2;obtain⟨p,q,G⟩:=G;refine⟨.ref s.heap.objs.size,_,I2,rfl,⟨x,y,s.heap.objs.size,λvs J=>by rw[I.tuple_inj J ha];exact hx,λvs J=>by rw[I.tuple_inj J hb];exact hy,Lw,rfl,rfl⟩,⟨z2,(d.2 u D.uz).trans u1,⟨p,q,(d.2 o D.oz).trans G⟩,i1.at λr e=>(d.2 i D.iz).trans e,j1.at λr e=>(d.2 j D.jz).trans e⟩,λc hc=>?_⟩;rw[aK (live c hc)];exact(hf c hc).1
 done:=by
  intro X hP hw hK hc k pins s σ H E I hf st hg;subst hP hw hK;obtain⟨xs,ys,ha,hb,hx⟩:=hg;obtain⟨Z,A,B,za⟩:=I.tuple ha;obtain⟨ib,R,C,zb⟩:=I.tuple hb;obtain⟨hz,hu,ho,hi,f⟩:=st;have hl:=A.length;refine En (I.ok.hd hc) D ⟨hz,hu,ho,hi,f,B,C⟩ (by simp;omega) λh' hk=>⟨rfl,?_⟩
  exact Inv.turnedC (ch:=[z,u,o,i,j]) (tk:=s.toks) I (λc r hc q=>hk c r (λz=>hc (by simp[z])) (λz=>hc (by simp[z])) (λz=>hc (by simp[z])) (λz=>hc (by simp[z])) q)
   (λc hc=>(hf c hc).1) (λc hc=>⟨(hf c hc).2.2.2.1,(hf c hc).2.1,(hf c hc).2.2.2.2.1,(hf c hc).2.2.2.2.2⟩)
 self:=λ_ _ _ _ _ st h=>wpAny_pyIter_zip st.1 h
def zipD:List D->List D->List D
 |x::xs,y::ys=>.tup [x,y]::zipD xs ys
 |_,_=>[]
theorem sB:∀{xs ys:List D},xs.length=ys.length->(zipD xs ys).length=xs.length
 |[],_,_=>rfl
 |_::_,[],h=>by cases h
 |x::xs,y::ys,h=>by rw[zipD,YH,YH,sB (by simpa using h)]
theorem xT:∀{xs ys:List D}{i:Nat}{x:D},(zipD xs ys)[i]?=some x->∃d e,xs[i]?=some d/\ys[i]?=some e/\x=.tup [d,e]
 |[],_,_,_,h=>by rw[zipD] at h;cases h;intros;contradiction
 |_::_,[],_,_,h=>by rw[zipD] at h;cases h;intros;contradiction
 |a::xs,b::ys,0,x,h=>by
  rw[zipD] at h;cases h;exact⟨a,b,rfl,rfl,rfl⟩
 |a::xs,b::ys,i+1,x,h=>by
  rw[zipD] at h;exact xT (xs:=xs) (ys:=ys) (i:=i) (by simpa using h)
theorem Er{K:Za}{a b:Addr}{ds es:List D}{vs us:List V}{c:Hp}(sa:SqT K c a vs)(g:RVs K c ds vs)(f:SqT K c b us)(j:RVs K c es us)(hl:ds.length=es.length):JOk K (Itz K a b) c (zipD ds es) (λ_=>True):=by
 intro i H M k n _;have sa:=k.sq sa;have g:=RVs.mono k _ g;have f:=k.sq f;have j:=RVs.mono k _ j;rw[sB hl];have L:=g.len;have O:=j.len;refine⟨λhi=>⟨vs,us,vs[i]' 'b',us[i]' 'b',sa,f,ZC _,ZC _⟩,λhi=>⟨vs,us,sa,f,by omega⟩,λx H' d hd ⟨v,u,p,r,hu,hp,e,y⟩=>?_⟩;subst e y;obtain⟨P,R,z,A,rfl⟩:=xT hd;obtain⟨S,B,C⟩:=cB g.p z;obtain⟨T,G,J⟩:=cB j.p A;have l:=r vs sa;have m:=hu us f;rw[B] at l;rw[G] at m;cases l;cases m;have k:=Kp.new (o:=.tup [v,u]) hp;exact⟨k,n.newH hp,RV.tup_.2 ⟨p,_,rfl,SqT.of aG,.cons (RV.mono k _ C) (.cons (RV.mono k _ J) .nil)⟩⟩
def wZip(t:WA):WI:=λσ M R=>t σ M λds M1=>match ds with
 |[.tup xs,.tup ys]=>xs.length=ys.length/\R (zipD xs ys) (λ_=>True) M1
 |_=>False
section
variable {X:Cx}{H:Hp}{pos:Pos}
theorem GJ{l r:Expr}{t:WA}{p:Pos}{f:Zg}{C:Nat}{tp:Pos}(hg:Gl X "zip")(hm:X.mg "zip" = none)(h:PAd X [l,r] t)(G:aA l=true)(J:aA r=true):PId X (.Tuple f C tp) (.Call (.Name "zip" p) [l,r] [] pos) (wZip t):=by
 intro σ M ρ H R rs K q pins s I;refine Call_ (dB I hg hm (by rfl':bootBuiltins "zip" = some (.type "zip")) (PyProof.Rows.callWith_type1 (thn (h σ M ρ H _ rs K q pos pins s I) λus s1 L=>?_) (a9 G) (by rw[a9 J];rfl)));obtain⟨vs,k,g,j,⟨O,ds,M1,m,l1,P,d⟩⟩:=L;try dsimp only at d
 split at d
 ·rename_i xs ys
  rw[RVs] at m;obtain⟨v,Ky,rfl,S,n⟩:=m;rw[RVs] at n;obtain⟨v2,X_,rfl,T,o⟩:=n;rw[RVs] at o;subst o;obtain⟨a,Ym,rfl,sa,u⟩:=RV.tup_.1 S;obtain⟨b,Yn,rfl,y,U⟩:=RV.tup_.1 T;cases j with
  |cons V j=>
  cases j with
  |cons W j=>
  cases j;cases V;cases W;obtain⟨ia,fa,z,Y⟩:=g.tuple sa;obtain⟨ib,fb,A,zb⟩:=g.tuple y;have Z:a<s1.heap.objs.size:=by obtain⟨_,e,_⟩:=z;exact Ye e
  have lb:b<s1.heap.objs.size:=by obtain⟨_,e,_⟩:=A;exact Ye e
  refine CL z A λh' st hk=>?_
  obtain⟨hz,hu,ho,hi,hj,_,_⟩:=st;refine wpAny_pyIter_zip (s:={ s1 with heap:=h' }) hz ?_;have I2:Inv X pins ρ k { s1 with heap:=h' }:=g.kept (t':=s1.toks) hk;have D:=zAp s1.heap.objs.size a b Z lb;refine⟨s1.heap.objs.size+4,[s1.heap.objs.size+4,s1.heap.objs.size+2,s1.heap.objs.size+3,s1.heap.objs.size,s1.heap.objs.size+1],_,_,k,rfl,I2,CM _ _ _ _ _ a b D,⟨hz,hu,ho,hi,hj⟩,λc hc=>?_,⟨O,_,_,M1,P,trivial,Er sa u y U d.1,by rw[sB d.1,u.len];exact Y,d.2⟩⟩;have B:s1.heap.objs.size<=c:=by
   have Kn:c=s1.heap.objs.size+4\/c=s1.heap.objs.size+2\/c=s1.heap.objs.size+3\/c=s1.heap.objs.size\/c=s1.heap.objs.size+1:=by simpa using hc
   rcases Kn with rfl | rfl | rfl | rfl | rfl
   ·exact Nat.le_add_right _ _
   ·exact Nat.le_add_right _ _
   ·exact Nat.le_add_right _ _
   ·exact YE _
   ·exact Nat.le_add_right _ _
  exact g.fpOk B (g.hok.fresh B)
 ·exact Yh d
end
end DD
namespace DD
open PySem PyProof.Rows L2
section
variable {K:Type}[DecidableEq K]
def addK(l:List K)(k:K):List K:=if k∈l then l else l++[k]
def bf(ks:List K):List K:=ks.foldl addK []
theorem tY(ks:List K)(k:K):bf (ks++[k])=addK (bf ks) k:=by unfold bf;rw[List.foldl_append];rfl
theorem xU(l:List K)(k:K):(addK l k).length=if decide (k∈l) then l.length else l.length+1:=by
 unfold addK;by_cases h:k∈l
 ·rw[if_pos h,if_pos (YV h)]
 ·rw[if_neg h,if_neg (by simpa using h)];simp
theorem Et(l:List K)(k j:K):decide (j∈addK l k)=(decide (j∈l)||decide (j=k)):=by
 unfold addK;by_cases h:k∈l
 ·rw[if_pos h]
  by_cases e:j=k
  ·subst e;simp[h]
  ·simp[e]
 ·rw[if_neg h];simp
theorem pL:∀(ks l:List K),(ks.foldl addK l).length<=l.length+ks.length
 |[],l=>by simp
 |k::ks,l=>by
  have a:=pL ks (addK l k);have b:(addK l k).length<=l.length+1:=by rw[xU];split<;>omega
  simp only[List.foldl_cons,YH];omega
theorem Eu(ks:List K):(bf ks).length<=ks.length:=by have:=pL ks [];simpa [bf] using this
end
section
variable {prog:Zw}{w:World}{A:Around}{R:Result->Shared->Prop}{K:Type}[DecidableEq K]{knd:KeyKind prog w K}
theorem xV{h:Heap}{a:Addr}{S S':K->Bool}{n n':Nat}(q:h.SetOf knd a S n)(e:∀k,S k=S' k)(b:n=n'):h.SetOf knd a S' n':=by
 obtain rfl:S=S':=funext e;subst b;exact q
theorem tZ{h h':Heap}{a:Addr}{S:K->Bool}{n:Nat}(q:h.SetOf knd a S n)(k:∀o,h.get? a=some o->h'.get? a=some o):h'.SetOf knd a S n:=by
 obtain⟨o,es,b,t,y,r⟩:=q;exact⟨o,es,b,t,k o y,r⟩
theorem Ev{I:Addr}{fp a:Zh}{G:Array GenState->Array GenState->Prop}{n:Nat}{P:Nat->Value->Prop}{St:Nat->Shared->Prop}(W:WalksS prog w A.in1 I fp a G n P St){B:Addr}(g:B∉fp){ks:List K}
  (hn:ks.length=n) (r:∀i v,P i v->∀k,ks[i]?=some k->knd.is k v=true/\v.scannable=true) (hb:n+1<scanBound):
  ∀(j i:Nat) (t:Shared),n-i=j->i<=n->St i t->t.heap.SetOf knd B (λk=>decide (k∈bf (ks.take i))) (bf (ks.take i)).length ->
   (∀t',Moved (B::a) G t t'->t'.heap.SetOf knd B (λk=>decide (k∈bf ks)) (bf ks).length->R (.ok (.ret .none)) t') ->
   codeAny (model prog w) A (.builtin "set.update.loop" ⟨[.ref B,.ref I],[]⟩) R t:=by
 have hw:B∉a:=λh=>g (W.sub _ h)
 have l:∀b∈a,b∈B::a:=λb y=>.tail _ y
 intro j;induction j with
 |zero=>
  intro i t e hi st q f;obtain rfl:i=n:=by omega
  refine codeAny_builtin F.entry_set_update_loop ?_;rw[Around.under_plainId F.plain_set_update_loop _];refine Yb (show wpAny _ A.in1 (pyNext (.ref I)) _ _ t from W.done t _ _ st λt' c=>?_);refine show wpAny _ A.in1 (ret Value.none) _ _ t' from Yc (f t' (c.mono l) ?_);rw[List.take_of_length_le (Nat.le_of_eq hn)] at q;exact tZ q λo y=>c.heap B _ hw y
 |succ j u=>
  intro i t e hi st q f;have lt:i<n:=by omega
  refine codeAny_builtin F.entry_set_update_loop ?_;rw[Around.under_plainId F.plain_set_update_loop _];refine Yb (show wpAny _ A.in1 (pyNext (.ref I)) _ _ t from W.item i t _ _ lt st λv t' p C c=>?_);obtain⟨k,hk⟩:∃k,ks[i]?=some k:=⟨_,ZC 'b'⟩;obtain⟨is,sc⟩:=r i v p k hk;have J:=tZ (h':=t'.heap) q λo y=>c.heap B _ hw y
  refine Yb (show wpAny _ A.in1 (holding [v] (setAdd B v)) _ _ t' from Yj ?_);unfold setAdd;refine Yj (Yb (knd.pyHash is ?_));have d:(bf (ks.take i)).length+1<scanBound:=by have:=Eu (ks.take i);rw[YS] at this;omega
  have tk:ks.take (i+1)=ks.take i++[k]:=by rw[List.take_add_one,hk];rfl
  refine wpAny_setAddHashed_of (knd:=knd) (s:={ t' with toks:=t'.toks+1 }) is sc J d λh' m L=>?_
  have O:=xV (S':=λk'=>decide (k'∈bf (ks.take (i+1)))) (n':=(bf (ks.take (i+1))).length) L (λk'=>by rw[tk,tY,Et]) (by rw[tk,tY,xU]);refine Yc ⟨plainId_quiet F.plain_set_update_loop _,u (i+1) _ 'b' lt (W.frame _ t' _ _ C (YM _) λb y o e=>?_) O λS T U=>?_⟩
  ·rw[m.2 b (λz:b=B=>g (z▸y))];exact e
  ·refine f S (Moved.trans W.gtrans ((c.mono l).then_heap (YM _) λb o y e=>?_) T) U
   rw[m.2 b (λz:b=B=>y (z▸ZX))];exact e
end
end DD
set_option maxHeartbeats 8000000
namespace DD
open PySem PyProof.Rows L2
section
variable {prog:Zw}{w:World}{A:Around}{Z:Zb}{s:Shared}{K:Type}[DecidableEq K]{knd:KeyKind prog w K}
def eD(led:Bool):Obj:={ cls:=.type "set",dict:=none,data:=.set #[] 0 (.fresh 0 0 led) }
theorem wl{T I:String}{l:Addr}{a:Zl}{ks:List K}{Q:Zb}{od:Zm}{m:Nat}{G_:Zn}(G:A.handled=none)(p:s.heap.get? l=some { cls:=.type T,dict:=od,data:=.seq a m,slots:=G_ })(s1:isSubtype (.type T) (.type "set")=pure false)(s2:isSubtype (.type T) (.type "frozenset")=pure false)(s3:(Value.type T==Value.type "dict")=false)
  (L:∀{A:Around} {E:Zb} {t:Shared} {Q:Zb},t.heap.get? l=some { cls:=.type T,dict:=od,data:=.seq a m,slots:=G_ }->Q (.ref t.heap.objs.size) { t with heap:=t.heap.push { cls:=.type I,data:=.fields #[.ref l,.int 0 0] } }->wpAny (model prog w) A (pyIter (.ref l)) Q E t)
  (O:∀J,l≠J->∃St:Nat->Heap->Prop,(∀{A:Around},A.handled=none->Walks prog w A J [J,l] [J] a.size (λi v=>a[i]?=some v) St)/\∀h:Heap,h.get? J=some { cls:=.type I,data:=.fields #[.ref l,.int 0 0] }->h.get? l=some { cls:=.type T,dict:=od,data:=.seq a m,slots:=G_ }->St 0 h)
  (hn:ks.length=a.size)
  (P:∀(i:Nat) (v:Value),a[i]?=some v->∀k,ks[i]?=some k->knd.is k v=true/\v.scannable=true) (hb:a.size+1<scanBound)
  (q:∀(h':Heap) (tk:Nat),h'.SetOf knd s.heap.objs.size (λk=>decide (k∈bf ks)) (bf ks).length ->
   (∀b o,b<s.heap.objs.size->s.heap.get? b=some o->h'.get? b=some o)->Q (.ref s.heap.objs.size) { s with heap:=h',toks:=tk }):
  wpAny (model prog w) A (call (.type "set") [.ref l]) Q Z s:=by
 obtain⟨c,tl,VU⟩:=F.called_set.mro;have Ux:=F.called_set.made;have RE:=F.called_set.sub;have n1:=F.called_set.notType;have n2:=F.called_set.canCreate;have n3:=F.typeCall_set_1 (.ref l);refine wpAny_call (codeAny_of_tree (show wpAny _ _ (callAny (.type "set") _) _ _ _ from Yc ⟨Code.quiet_builtin _ 'f',codeAny_builtin F.entry_type_call ?_⟩));rw[Around.under_plain (weight_type_call_type "set" [.ref l] []) rfl];repeat (any_goals (first | assumption | wp_step))
 refine codeAny_mono (code_set_new_1 (.ref l) (E:=Z) (Q₁:=λo t=>∃led:Bool,o=.ref s.heap.objs.size/\t={ s with heap:=s.heap.push (eD led) }) λled=>⟨led,rfl,rfl⟩) λr t f=>?_
 cases r with
 |error e=>exact f
 |ok fl=>
  cases fl with
  |ret o=>
   obtain⟨led,rfl,rfl⟩:=f;have u:(s.heap.push (eD led)).get? s.heap.objs.size=some (eD led):=Yg _ rfl;have ty:Shared.TypeIs { s with heap:=s.heap.push (eD led) } (.ref s.heap.objs.size) "set":=⟨_,u,rfl⟩;have l1:=F.called_set.init.lookup;have l2:=F.called_set.init.bind (.ref s.heap.objs.size);repeat (any_goals (first | assumption | wp_step))
   refine codeAny_mono (codeAny_call_builtin (R:=wants (λr z=>r=.none/\∃h' tk,z={ s with heap:=h',toks:=tk }/\h'.SetOf knd s.heap.objs.size (λk=>decide (k∈bf ks)) (bf ks).length /\
     (∀b o,b<s.heap.objs.size->s.heap.get? b=some o->h'.get? b=some o)) Z) F.called_set.init.plain F.entry_set_init (check_set_init_1 ty ?_)) λS z g=>?_
   ·have B:(s.heap.push (eD led)).get? l=some { cls:=.type T,dict:=od,data:=.seq a m,slots:=G_ }:=Yd _ p
    unfold Builtin.«set.__init__» noKeywords Builtin.Frozenset.updateFrom;generalize hPI:pyIter=PI;wp_walk;subst hPI;refine L B (Yb (wpAny_runValue ?_));have j:(s.heap.push (eD led)).objs.size=s.heap.objs.size+1:=Heap.size_push ..;have C:l<s.heap.objs.size:=Ye p;have U:l≠(s.heap.push (eD led)).objs.size:=by rw[j];exact ZT (Nat.lt_succ_of_lt C)
    have V:s.heap.objs.size∉[(s.heap.push (eD led)).objs.size,l]:=by
     rw[j];intro y;rcases ZZ.1 y with y | y
     ·exact absurd y (ZT (YK _))
     ·exact absurd (XN.1 y) (Nat.ne_of_gt C)
    obtain⟨St,W,Y⟩:=O _ U;refine Ev ((W (by simp[G])).toS) (knd:=knd) (ks:=ks) V hn P hb (a.size-0) 0 _ 'b' (YL _) (Y _ (Yg _ rfl) (Yd _ B)) ?_ ?_
    ·have:=(setObjOf_fresh (knd:=knd) led).setOf (Yd ({ cls:=.type I,data:=.fields #[.ref l,.int 0 0] }:Obj) u) (by unfold scanBound;omega)
     exact xV this (λk=>by simp[bf]) (by simp[bf])
    ·intro t' d n
     obtain⟨h',g',d',Nw,QW⟩:=t';obtain rfl:g'=s.gens:=d.gens;obtain rfl:d'=s.drawn:=d.drawn;obtain rfl:QW=s.os:=d.os;refine Yc (show wpAny _ _ (ret Value.none) _ _ _ from Yc ⟨rfl,h',Nw,rfl,n,λb o lt e=>d.heap b o ?_ (Yd _ (Yd _ e))⟩);rw[j];intro y;rcases ZZ.1 y with y | y
     ·exact ZT lt y
     ·exact ZT (Nat.lt_succ_of_lt lt) (XN.1 y)
   ·cases S with
    |error e=>exact g
    |ok VV=>
     cases VV with
     |ret r=>
      obtain⟨rfl,h',tk,rfl,n,k'⟩:=g;repeat (any_goals (first | assumption | wp_step))
      exact q _ _ n k'
     |_=>exact g.elim
  |_=>exact f.elim
theorem CN{l:Addr}{c:Zl}{ks:List K}{Q:Zb}(d:A.handled=none)(hl:s.heap.IsList l c)(hn:ks.length=c.size)
  (f:∀(i:Nat) (v:Value),c[i]?=some v->∀k,ks[i]?=some k->knd.is k v=true/\v.scannable=true) (hb:c.size+1<scanBound)
  (q:∀(h':Heap) (tk:Nat),h'.SetOf knd s.heap.objs.size (λk=>decide (k∈bf ks)) (bf ks).length ->
   (∀b o,b<s.heap.objs.size->s.heap.get? b=some o->h'.get? b=some o)->Q (.ref s.heap.objs.size) { s with heap:=h',toks:=tk }):
  wpAny (model prog w) A (call (.type "set") [.ref l]) Q Z s:=by
 obtain⟨⟨oc,od,j,G_⟩,n,p,m,r⟩:=hl;obtain rfl:oc=.type "list":=p;obtain rfl:j=.seq c m:=r;exact wl (I:="list_iterator") d n F.sub_list_set F.sub_list_frozenset 'a' (λg=>wpAny_pyIter_list ⟨_,g,rfl,_,rfl⟩) (λJ u=>⟨_,λh=>Walks.list h J l u c,λh' a b=>⟨⟨_,a,rfl,rfl⟩,⟨_,b,rfl,_,rfl⟩⟩⟩) hn f hb q
theorem Bd{l:Addr}{c:Zl}{ks:List K}{Q:Zb}(d:A.handled=none)(hl:s.heap.IsTuple l c)(hn:ks.length=c.size)
  (f:∀(i:Nat) (v:Value),c[i]?=some v->∀k,ks[i]?=some k->knd.is k v=true/\v.scannable=true) (hb:c.size+1<scanBound)
  (q:∀(h':Heap) (tk:Nat),h'.SetOf knd s.heap.objs.size (λk=>decide (k∈bf ks)) (bf ks).length ->
   (∀b o,b<s.heap.objs.size->s.heap.get? b=some o->h'.get? b=some o)->Q (.ref s.heap.objs.size) { s with heap:=h',toks:=tk }):
  wpAny (model prog w) A (call (.type "set") [.ref l]) Q Z s:=by
 obtain⟨⟨oc,od,j,G_⟩,n,p,m,r⟩:=hl;obtain rfl:oc=.type "tuple":=p;obtain rfl:j=.seq c m:=r;exact wl (I:="tuple_iterator") d n F.sub_tuple_set F.sub_tuple_frozenset 'a' (λg=>wpAny_pyIter_tuple ⟨_,g,rfl,_,rfl⟩) (λJ u=>⟨_,λh=>Walks.tuple h J l u c,λh' a b=>⟨⟨_,a,rfl,rfl⟩,⟨_,b,rfl,_,rfl⟩⟩⟩) hn f hb q
end
end DD
namespace DD
open PySem PySem.Spec PyProof.Rows L2
def o0:List D->Option (List Str)
 |[]=>some []
 |.str x::r=>(o0 r).map (x :: ·)
 |_=>none
def jN:List D->Option (List Int)
 |[]=>some []
 |.int x::r=>(jN r).map (x :: ·)
 |_=>none
theorem xX{K:Za}{H:Hp}:∀{ds:List D}{ks:Zf}{vs:List V},o0 ds=some ks->RVs K H ds vs->vs=ks.map V.str
 |[],ks,vs,h,r=>by
  rw[o0] at h;cases h;rw[RVs] at r;subst r;rfl
 |.str x::ds,ks,vs,h,r=>by
  rw[o0] at h;rw[RVs] at r;obtain⟨v,c,rfl,a,b⟩:=r;cases q:o0 ds with
  |none=>rw[q] at h;cases h
  |some d=>
   rw[q] at h;cases h;rw[xX q b,RV.str_.1 a];rfl
 |.non::_,_,_,h,_=>by cases h
 |.bl _::_,_,_,h,_=>by cases h
 |.int _::_,_,_,h,_=>by cases h
 |.tup _::_,_,_,h,_=>by cases h
 |.ref _::_,_,_,h,_=>by cases h
 |.ty _::_,_,_,h,_=>by cases h
theorem sC{K:Za}{H:Hp}:∀{ds:List D}{ks:Zi}{vs:List V},jN ds=some ks->RVs K H ds vs->vs=ks.map V.int
 |[],ks,vs,h,r=>by
  rw[jN] at h;cases h;rw[RVs] at r;subst r;rfl
 |.int x::ds,ks,vs,h,r=>by
  rw[jN] at h;rw[RVs] at r;obtain⟨v,c,rfl,a,b⟩:=r;cases q:jN ds with
  |none=>rw[q] at h;cases h
  |some d=>
   rw[q] at h;cases h;rw[sC q b,RV.int_.1 a];rfl
 |.non::_,_,_,h,_=>by cases h
 |.bl _::_,_,_,h,_=>by cases h
 |.str _::_,_,_,h,_=>by cases h
 |.tup _::_,_,_,h,_=>by cases h
 |.ref _::_,_,_,h,_=>by cases h
 |.ty _::_,_,_,h,_=>by cases h
def rD(xs:List D)(Q:Int->Prop):Prop:=xs.length<4000/\match o0 xs with
 |some ks=>Q ((bf ks).length:Nat)
 |none=>match jN xs with
  |some ks=>Q ((bf ks).length:Nat)
  |none=>False
def lstD(d:D)(M:MH)(Q:List D->Prop):Prop:=match d with
 |.ref a=>match M a with
  |some (.lst xs)=>Q xs
  |some (.rol xs)=>Q xs
  |_=>False
 |_=>False
def seqL(d:D)(M:MH)(Q:List D->Prop):Prop:=match d with
 |.tup xs=>Q xs
 |d=>lstD d M Q
def vn(t:WE):WE:=λσ M Q=>t σ M λd M1=>seqL d M1 λxs=>rD xs λn=>Q (.int n) M1
section
variable {X:Cx}{H:Hp}{pos:Pos}
theorem GK{K:Za}{d:D}{M:MH}{Q:List D->Prop}{v:V}(q:lstD d M Q)(f:RV K H d v)(g:RM K M H):∃a xs vs,v=.ref a/\SqL K H a vs/\RVs K H xs vs/\Q xs:=by
 unfold lstD at q;split at q
 ·rename_i a
  split at q
  ·rename_i xs e
   obtain⟨ys,b,c⟩:=g a _ e;exact⟨a,xs,ys,RV.ref_.1 f,SqL.of b,c,q⟩
  ·rename_i xs e
   obtain⟨ys,b,c⟩:=g a _ e;exact⟨a,xs,ys,RV.ref_.1 f,.inl b,c,q⟩
  ·exact Yh q
 ·exact Yh q
theorem CO{pins:Zc}{ρ:L2.St}{s:Shared}{a:Addr}{xs:List D}{vs:List V}{Q:Int->Prop}{Z:Zb}{R:Zb}(hc:X.calm=true)(I:Inv X pins ρ H s)(hq:SqL X.K H a vs\/SqT X.K H a vs)(j:RVs X.K H xs vs)(q:rD xs Q)
  (g:∀n tk h' y,Q n->Inv X pins ρ H { s with heap:=h',toks:=y }->R (.int n tk) { s with heap:=h',toks:=y }):
  wpAny 'c' X.A (call (.type "set") [.ref a]) (λu s1=>wpAny 'c' X.A (call (.builtin "len") [u]) R Z s1) Z s:=by
 have ht:∃d_,Vals vs d_/\(s.heap.IsList a d_.toArray\/s.heap.IsTuple a d_.toArray):=by
  rcases hq with hq | hq
  ·obtain⟨d_,c,p,_⟩:=I.list hq
   exact⟨d_,c,.inl p.isList⟩
  ·obtain⟨d_,c,p,_⟩:=I.tuple hq
   exact⟨d_,c,.inr p⟩
 obtain⟨d_,c,p⟩:=ht;have Y:xs.length=d_.length:=by rw[j.len,c.length]
 have z:∀{K:Type}[DecidableEq K] {knd:KeyKind X.prog X.w K}{ks:List K}{l:Zb},ks.length=d_.toArray.size->(∀(i:Nat) (v:Value),d_.toArray[i]?=some v->∀k,ks[i]?=some k->knd.is k v=true/\v.scannable=true)->d_.toArray.size+1<scanBound ->
   (∀(h':Heap) (tk:Nat),h'.SetOf knd s.heap.objs.size (λk=>decide (k∈bf ks)) (bf ks).length->(∀b o,b<s.heap.objs.size->s.heap.get? b=some o->h'.get? b=some o)->l (.ref s.heap.objs.size) { s with heap:=h',toks:=tk }) ->
   wpAny 'c' X.A (call (.type "set") [.ref a]) l Z s:=by
  intro K _ knd ks l B C G J;rcases p with p | p
  ·exact CN (I.ok.hd hc) p B C G J
  ·exact Bd (I.ok.hd hc) p B C G J
 unfold rD at q;obtain⟨hl,q⟩:=q;have fin:∀{K:Type}[DecidableEq K] {knd:KeyKind X.prog X.w K}{ks:List K}(h':Heap) (tk:Nat),h'.SetOf knd s.heap.objs.size (λk=>decide (k∈bf ks)) (bf ks).length->Q ((bf ks).length:Nat) ->
   (∀b o,b<s.heap.objs.size->s.heap.get? b=some o->h'.get? b=some o)->wpAny 'c' X.A (call (.builtin "len") [.ref s.heap.objs.size]) R Z { s with heap:=h',toks:=tk }:=by
  intro K _ knd ks h' tk st L kp;obtain⟨o,es,ep,t,O,P,S,_,_,T,U,W⟩:=st;rw[←W] at L;refine call_len_set (s:={ s with heap:=h',toks:=tk }) O P S U (by unfold scanBound at T;omega) ?_;exact g _ _ h' (tk+1+1) L (I.kept (t':=tk+1+1) λb o e=>kp b o (Ye e) e)
 split at q
 ·rename_i ks e
  obtain rfl:=xX e j;have m:ks.length=d_.length:=by have:=c.length;simpa using this
  refine z (knd:=strKind X.prog X.w) (ks:=ks) (by simpa using m) (λi v d k hk=>?_) (by unfold scanBound;simp;omega) λh' tk st kp=>fin h' tk st q kp
  obtain⟨u,f,r⟩:=c.get (i:=i) (x:=.str k) (by simp[hk]);have:v=u:=by simp at d;rw[d] at f;cases f;rfl
  subst this;obtain⟨t,rfl⟩:∃t,v=Value.str k t:=r;exact⟨strKind_is _ _ _ _,rfl⟩
 ·split at q
  ·rename_i ks e
   obtain rfl:=sC e j;have m:ks.length=d_.length:=by have:=c.length;simpa using this
   refine z (knd:=intKind X.prog X.w) (ks:=ks) (by simpa using m) (λi v d k hk=>?_) (by unfold scanBound;simp;omega) λh' tk st kp=>fin h' tk st q kp
   obtain⟨u,f,r⟩:=c.get (i:=i) (x:=.int k) (by simp[hk]);have:v=u:=by simp at d;rw[d] at f;cases f;rfl
   subst this;obtain⟨t,rfl⟩:∃t,v=Value.int k t:=r;exact⟨intKind_is _ _ _ _,rfl⟩
  ·exact Yh q
theorem Be{l:Expr}{t:WE}{p p2 o:Pos}(hc:X.calm=true)(hg:Gl X "len")(hm:X.mg "len" = none)(r:Gl X "set")(z:X.mg "set" = none)(h:PEd X l t)(j:aA l=true):PEd X (.Call (.Name "len" p) [.Call (.Name "set" p2) [l] [] o] [] pos) (vn t):=by
 intro σ M ρ H Q rs A q pins s I;refine Call_ (dB I hg hm PySem.boot_len (callWith_builtin1 (args_cons (Call_ (dB I r z (by rfl':bootBuiltins "set" = some (.type "set")) (PyProof.Rows.callWith_type1 (args_cons (thn (h σ M ρ H _ rs A q pins s I) λu s1 B=>?_) (a9 j)) (a9 j) rfl))))));obtain⟨v,f,C,G,⟨J,d,M1,k,m,b⟩⟩:=B;have L:∃a xs vs,v=.ref a/\(SqL X.K f a vs\/SqT X.K f a vs)/\RVs X.K f xs vs/\rD xs λn=>Q (.int n) M1:=by
  unfold seqL at b;dsimp only at b;split at b
  ·obtain⟨a,vs,rfl,sq,c⟩:=RV.tup_.1 k
   exact⟨a,_,vs,rfl,.inr sq,c,b⟩
  ·obtain⟨a,xs,vs,rfl,sq,c,g⟩:=GK b k m
   exact⟨a,xs,vs,rfl,.inl sq,c,g⟩
 obtain⟨a,xs,vs,rfl,sq,c,g⟩:=L;cases G;refine args_nil ?_
 have:=CO (X:=X) (R:=λw t=>EP X pins ρ (lift X.K H Q) w t) (Z:=X.xe) hc C sq c g λn tk h' S O P=>⟨.int n,f,P,⟨_,rfl⟩,J,.int n,M1,RV.int_.2 rfl,m,O⟩
 exact wpAny_mono this (λu t y=>args_nil y) λ_ _ y=>y
end
def eG(a:Int)(n:Nat):List V:=(List.range n).map λ(i:Nat)=>.int (a+(i:Int))
theorem Bf(a:Int)(n:Nat):(eG a n).length=n:=by unfold eG;rw[ZE,ZI]
theorem rE{K:Za}{H:Hp}{a:Type}{f:a->D}{g:a->V}(h:∀x,RV K H (f x) (g x)):∀(l:List a),RVs K H (l.map f) (l.map g)
 |[]=>.nil
 |x::l=>.cons (h x) (rE h l)
theorem Ew{K:Za}{H:Hp}(a b:Int):RVs K H (bA a b) (eG a (b-a).toNat):=rE (λ_=>RV.int_.2 rfl) _
theorem t5:∀(d_:Zd) (a:Int),(∀(j:Nat) v,d_[j]?=some v->∃t,v=Value.int (a+j*1) t)->Vals (eG a d_.length) d_
 |[],_,_=>.nil
 |u::d_,a,h=>by
  have e:eG a (u::d_).length=.int a::eG (a+1) d_.length:=by
   unfold eG;rw[YH,List.range_succ_eq_map,YJ,ZL];congr 1
   ·simp
   ·refine ZM λi _=>?_
    show V.int (a+((i+1:Nat):Int))=V.int (a+1+(i:Int));congr 1;omega
  rw[e];refine .cons ?_ (t5 d_ (a+1) λj v e=>?_)
  ·obtain⟨t,e⟩:=h 0 u rfl
   exact⟨t,by rw[e];simp⟩
  ·obtain⟨t,b⟩:=h (j+1) v (by simpa using e)
   refine⟨t,?_⟩;rw[b];congr 1;omega
def rngD(ds:List D)(Q:List D->Prop):Prop:=match ds with
 |[.int j]=>(-1000000<j/\j<1000000)/\Q (bA 0 j)
 |[.int i,.int j]=>(-1000000<i/\i<1000000/\-1000000<j/\j<1000000)/\Q (bA i j)
 |_=>False
def wLrg(t:WA):WE:=λσ M Q=>t σ M λds M1=>rngD ds λxs=>∀p,M1 p=none->Q (.ref p) (updM M1 p (.lst xs))
section
variable {X:Cx}{H:Hp}{pos:Pos}{e:Expr}{es:Zg}
theorem CP{pins:Zc}{ρ:L2.St}{s:Shared}{lo hi:Int}{t u v:Tok}{tk:Nat}{M:MH}{c:Hp}{Q:DK}(hc:X.calm=true)(I:Inv X pins ρ H s)(g:Kp c H)(d:RM X.K M H)(B:-1000000<lo)(C:lo<1000000)(G:-1000000<hi)(J:hi<1000000)
  (q:∀p,M p=none->Q (.ref p) (updM M p (.lst (bA lo hi)))):
  wpAny 'c' X.A (call (.type "list") [.ref s.heap.objs.size]) (EP X pins ρ (lift X.K c Q)) X.xe { s with heap:=s.heap.push { cls:=.type "range",data:=.fields #[.int lo t,.int hi u,.int 1 v] },toks:=tk }:=by
 have f:Inv X pins ρ H { s with heap:=s.heap.push { cls:=.type "range",data:=.fields #[.int lo t,.int hi u,.int 1 v] },toks:=tk }:=I.kept λb o e=>Yd _ e
 refine call_list_range (s:={ s with heap:=s.heap.push { cls:=.type "range",data:=.fields #[.int lo t,.int hi u,.int 1 v] },toks:=tk }) (n:=(hi-lo).toNat) (I.ok.hd hc) (IsRange.new ..) (small_one 'b' 'b' 'b' 'b')
  (by rw[rangeSize_one];split<;>omega) 'b' λh' l e_ c' hk r a=>?_
 obtain⟨y,a⟩:=a;have hl:e_.toList.length=(hi-lo).toNat:=by rw[←y];simp
 have z:Vals (eG lo (hi-lo).toNat) e_.toList:=by
  rw[←hl];refine t5 e_.toList lo λj w e=>?_
  exact a j w (by rw[←XC];exact e)
 have hf:H (s.heap.push { cls:=.type "range",data:=.fields #[.int lo t,.int hi u,.int 1 v] }).objs.size=none:=f.hok.fresh (YE _);have k:=Kp.new (o:=.lst (eG lo (hi-lo).toNat)) hf;have hz:(eG lo (hi-lo).toNat).length<=sizeLine:=by
  rw[Bf];have:(2000000:Nat)<=sizeLine:=by decide
  omega
 exact⟨.ref _,_,f.laid (t':=l) hk (YE _) (show a0 X.prog X.w _ h' _ (.lst (eG lo (hi-lo).toNat)) from⟨hz,e_.toList,c',z,by simpa using r⟩),rfl,g.trans k,.ref _,_,RV.ref_.2 rfl,d.new (m:=.lst (bA lo hi)) hf ⟨_,aG,Ew _ _⟩,q _ (d.fresh hf)⟩
theorem Ex{a:Expr}{t:WA}{p p2 c:Pos}(hc:X.calm=true)(hg:Gl X "list")(hm:X.mg "list" = none)(d:Gl X "range")(f:X.mg "range" = none)(ha:PAd X [a] t)(g:aA a=true):
  PEd X (.Call (.Name "list" p) [.Call (.Name "range" p2) [a] [] c] [] pos) (wLrg t):=by
 intro σ M ρ H Q rs k q pins s I;refine Call_ (dB I hg hm (by rfl':bootBuiltins "list" = some (.type "list")) (PyProof.Rows.callWith_type1 (args_cons (Call_ (dB I d f boot_range (PyProof.Rows.callWith_type1 (thn (ha σ M ρ H _ rs k q _ pins s I) λus s1 l=>?_) (a9 g) rfl)))) rfl rfl));obtain⟨vs,G,m,n,⟨o,ds,M1,r,l2,y,b⟩⟩:=l;unfold rngD at b;dsimp only at b;split at b
 ·obtain⟨v,rfl,z⟩:=rvs1 r
  cases RV.int_.1 z;obtain⟨u,rfl,A⟩:=vals1 n;obtain⟨t,rfl⟩:=A;obtain⟨⟨B,C⟩,b⟩:=b;refine call_range_1 (args_nil ?_);exact CP hc m o y 'a' 'a' B C b
 ·rename_i i j
  exact absurd l2 (by simp)
 ·exact Yh b
theorem Ey{a b:Expr}{t:WA}{p p2 d:Pos}(hc:X.calm=true)(hg:Gl X "list")(hm:X.mg "list" = none)(f:Gl X "range")(g:X.mg "range" = none)(ha:PAd X [a,b] t)(j:aA a=true)(k:aA b=true):
  PEd X (.Call (.Name "list" p) [.Call (.Name "range" p2) [a,b] [] d] [] pos) (wLrg t):=by
 intro σ M ρ H Q rs l q pins s I;refine Call_ (dB I hg hm (by rfl':bootBuiltins "list" = some (.type "list")) (PyProof.Rows.callWith_type1 (args_cons (Call_ (dB I f g boot_range (PyProof.Rows.callWith_type1 (thn (ha σ M ρ H _ rs l q _ pins s I) λus s1 m=>?_) (a9 j) (dh (by rw[XQ,k];rfl)))))) rfl rfl));obtain⟨vs,P,n,o,⟨r,ds,M1,y,l2,z,c⟩⟩:=m;unfold rngD at c;dsimp only at c;split at c
 ·exact absurd l2 (by simp)
 ·obtain⟨v,R,rfl,A,B⟩:=rvs2 y
  cases RV.int_.1 A;cases RV.int_.1 B;obtain⟨u,S,rfl,C,G⟩:=o.two;obtain⟨t,rfl⟩:=C;obtain⟨t',rfl⟩:=G;obtain⟨⟨J,K,L,O⟩,c⟩:=c;refine call_range_2 (args_nil ?_);exact CP hc n r z J K L O c
 ·exact Yh c
structure IsiOk (K:Za) (C D:Addr) (b:Bool):Prop where
 cl:Cls K C
 ha:PySem.W.findIn K (.ref C) "__class__" = some (some (.builtin "object.__class__"))
 hn:PySem.W.specialIn K (.builtin "object.__class__") "__get__" = some (some (.builtin "getset_descriptor.__get__"))
 ht:PySem.W.takesIn K (.builtin "object.__class__")=some true
 hm:PySem.W.mroIn K C (.type "object")=some true
 ki:PySem.W.kitOne K (.ref C) (.ref D)=some b
abbrev IS0:=Addr->Addr->Option Bool
end
section
variable {prog:Zw}{w:World}{A:Around}{E:Zb}{s:Shared}{κ:Type}[DecidableEq κ]{knd:KeyKind prog w κ}
abbrev xl(knd:KeyKind prog w κ)(a:List (κ×Value)):Nat->Value->Prop:=λi v=>∃k x,a[i]?=some (k,x)/\knd.is k v=true
theorem CQ{d:Addr}{g:List (κ×Value)}{j:Nat}{Q:Bool->Shared->Prop}(hd:(d==sysModules)=false)(hm:s.heap.DictAt knd d g j)(hl:g.length<=2 ^ 24)(h:∀b tk,Q b { s with toks:=tk }):
  wpAny (model prog w) A (Builtin.List.listLengthHint (.ref d)) Q E s:=by
 have a:s.TypeIs (.ref d) "dict":=hm.dictOf.typeIs;unfold Builtin.List.listLengthHint;refine Yb (wpAny_specialOf a F.slot_dict_len.lookup ?_);generalize hid:("dict.__len__" : String)=c;wp_delta;rw[show splitId c=some ("dict","__len__") from by subst hid;rfl'];subst hid;refine Yb (wpAny_isInstance (T:="dict") (b:=true) a (by rw[isSubtype_type];kernel_rfl) ?_);refine wpAny_ite_split (λf=>absurd f 'a') (λ_=>?_);refine wpAny_ite_split (λ_=>?_) (λf=>absurd 'f' f);refine Yb (wpAny_typeOf a ?_);exact Yc (h false s.toks)
theorem se{R:Result->Shared->Prop}{d:Addr}{a:List (κ×Value)}{g:Nat}(L:A.handled=none)(hd:(d==sysModules)=false)(hm:s.heap.DictAt knd d a g)(hl:a.length<=2 ^ 24)(S:Addr)(res:Value)(y:Nat)
  (k:s.heap.get? S=some { cls:=.type "list",data:=.seq #[] y })
  (O:∀h' tk e_ c',(∀b o,b≠S->s.heap.get? b=some o->h'.get? b=some o)->h'.get? S=some { cls:=.type "list",dict:=none,data:=.seq e_ c',slots:=#[] }->ItemsOf (xl knd a) e_ a.length->R (.ok (.ret res)) { s with heap:=h',toks:=tk }):
  wpAny (model prog w) A.in1 (Builtin.List.listExtendWith (.ref S) (.ref d) res)
   (λfin j=>match fin with
    |.done f=>R (.ok f) j
    |.again c'=>c'.quiet=true/\codeAny (model prog w) A c' R j) (λe j=>R (.error e) j) s:=by
 have P:s.TypeIs (.ref d) "dict":=hm.dictOf.typeIs;have l:S≠d:=λe=>by
  obtain⟨o,es,ho,_,T,_⟩:=id hm;rw[e,ho] at k;cases k;cases T
 have U:d≠s.heap.objs.size:=ZT hm.lt_size;have m:S≠s.heap.objs.size:=ZT (Ye k);have W:=(Walks.dictKeys (prog:=prog) (w:=w) (A:=A.in1) (knd:=knd) L s.heap.objs.size d U a g).toS;have go:∀(h:Heap) (c tk:Nat),h.IsKeyIter s.heap.objs.size d 0 a.length g->(∀b o,b≠S->s.heap.get? b=some o->h.get? b=some o)->h.get? S=some { cls:=.type "list",data:=.seq #[] c } ->
   codeAny (model prog w) A (.builtin "list.extend.loop" ⟨[.ref S,.ref s.heap.objs.size,res],[]⟩) R { s with heap:=h,toks:=tk }:=by
  intro h c tk J0 hk V;refine codeAny_extend_loopS W (by rw[sizeLine_eq];omega) S (by simp;exact⟨m,l⟩) res a.length 0 _ #[] c rfl (YL _) ⟨J0,hm.at' λo e=>hk d o (Ne.symm l) e⟩ V (ItemsOf.nil _) λj e_ c' z Y Z=>?_
  rw[Moved.eq_with z];refine O j.heap j.toks e_ c' (λb o hb e=>z.heap b o (λJ2=>?_) (hk b o hb e)) Y Z;rcases ZZ.mp J2 with e' | e'
  ·exact hb e'
  ·exact absurd (Ye e) (by rw[XN.mp e'];exact ZS _)
 unfold Builtin.List.listExtendWith;refine Yb (wpAny_typeOf P ?_);have n1:Builtin.List.listSameRef (.ref S) (.ref d)=false:=by simp[Builtin.List.listSameRef,l]
 simp only[n1,show(Value.type "dict" == Value.type "list")=false by decide,show(Value.type "dict" == Value.type "tuple")=false by decide,Bool.or_false,XE,if_false];refine Yb (wpAny_pyIter_dict hd hm ?_);refine Yb (Yj (CQ hd (hm.push _) hl λb tk=>?_));have n:(s.heap.push { cls:=.type "dict_keyiterator",data:=.fields #[.ref d,.int 0 0,.int a.length 0,.int g 0] }).IsKeyIter s.heap.objs.size d 0 a.length g:=⟨_,Yg _ rfl,rfl,rfl⟩;have s1:=Yd { cls:=.type "dict_keyiterator",data:=.fields #[.ref d,.int 0 0,.int a.length 0,.int g 0] } k;have p:∀b o,b≠S->s.heap.get? b=some o->(s.heap.push { cls:=.type "dict_keyiterator",data:=.fields #[.ref d,.int 0 0,.int a.length 0,.int g 0] }).get? b=some o:=λb o _ e=>Yd _ e
 generalize s.heap.push { cls:=.type "dict_keyiterator",data:=.fields #[.ref d,.int 0 0,.int a.length 0,.int g 0] }=r at n s1 p ⊢;refine wpAny_ite_split (λ_=>?_) (λ_=>Yc ⟨plainId_quiet F.plain_extend_loop _,go _ y _ n p s1⟩);refine Yb (wpAny_rule (Yb ?_));show wpAny _ _ (updateSeq S (·.push .none) >>= λ_=>updateSeq S (·.pop)) _ _ _;refine Yb (wpAny_updateSeq s1 rfl ?_);have s2:=Heap.get?_update_self (Obj.mapSeq (·.push Value.none)) s1 rfl;have B:(r.update S (Obj.mapSeq (·.push Value.none))).IsKeyIter s.heap.objs.size d 0 a.length g:=n.at λo e=>(Heap.get?_update_other _ _ m).trans e
 have C:∀b o,b≠S->s.heap.get? b=some o->(r.update S (Obj.mapSeq (·.push Value.none))).get? b=some o:=λb o hb e=>(Heap.get?_update_other _ _ (Ne.symm hb)).trans (p b o hb e)
 generalize r.update S (Obj.mapSeq (·.push Value.none))=u at B s2 C ⊢;refine wpAny_updateSeq (hz:=by seq_fits) s2 rfl ?_;have G:=Heap.get?_update_self (Obj.mapSeq (·.pop)) s2 rfl;have J:(u.update S (Obj.mapSeq (·.pop))).IsKeyIter s.heap.objs.size d 0 a.length g:=B.at λo e=>(Heap.get?_update_other _ _ m).trans e
 have K:∀b o,b≠S->s.heap.get? b=some o->(u.update S (Obj.mapSeq (·.pop))).get? b=some o:=λb o hb e=>(Heap.get?_update_other _ _ (Ne.symm hb)).trans (C b o hb e)
 generalize u.update S (Obj.mapSeq (·.pop))=h3 at J G K ⊢;exact Yc ⟨plainId_quiet F.plain_extend_loop _,go h3 _ _ J K G⟩
end
section
variable {prog:Zw}{w:World}{A:Around}{E:Zb}{s:Shared}{κ:Type}[DecidableEq κ]{knd:KeyKind prog w κ}
theorem list_dict{Q:Zb}{d:Addr}{a:List (κ×Value)}{g:Nat}(k:A.handled=none)(hd:(d==sysModules)=false)(hm:s.heap.DictAt knd d a g)(hl:a.length<=2 ^ 24)
  (l:∀h' tk e_ c',(∀b o,s.heap.get? b=some o->h'.get? b=some o)->h'.get? s.heap.objs.size=some { cls:=.type "list",dict:=none,data:=.seq e_ c',slots:=#[] }->ItemsOf (xl knd a) e_ a.length ->
   Q (.ref s.heap.objs.size) { s with heap:=h',toks:=tk }):wpAny (model prog w) A (call (.type "list") [.ref d]) Q E s:=by
 refine callType_codes (Q₁:=λobj j=>obj=.ref s.heap.objs.size/\j={ s with heap:=s.heap.push { cls:=.type "list",data:=.seq #[] } }) F.called_list (F.typeCall_list_1 _) F.entry_list_init (code_list_new _ ⟨rfl,rfl⟩) λobj j m=>?_
 obtain⟨rfl,rfl⟩:=m;have c:(s.heap.push { cls:=.type "list",data:=.seq #[] }).get? s.heap.objs.size=some { cls:=.type "list",data:=.seq #[] }:=Yg _ rfl;refine⟨⟨_,c,rfl⟩,F.args_list_init_2 _ _,?_⟩;show wpAny _ _ (do let f ←Builtin.List.listItems (.ref s.heap.objs.size);Builtin.List.listUpdate (.ref s.heap.objs.size) (λ_=>#[]);letGo f.toList.reverse;Builtin.List.listExtendWith (.ref s.heap.objs.size) (.ref d) .none) _ _ _;refine Yb ?_;unfold Builtin.List.listItems;refine Yb (wpAny_seqItems c rfl (Yc ?_));show wpAny _ _ (updateSeq s.heap.objs.size (λ_=>#[]) >>= λ_=>letGo (#[]:Array Value).toList.reverse >>= λ_=>Builtin.List.listExtendWith (.ref s.heap.objs.size) (.ref d) .none) _ _ _;refine Yb (wpAny_updateSeq c rfl ?_);have p1:=Heap.get?_update_self (Obj.mapSeq (λ_=>(#[]:Array Value))) c rfl;have nd:d≠s.heap.objs.size:=ZT hm.lt_size;have n:((s.heap.push { cls:=.type "list",data:=.seq #[] }).update s.heap.objs.size (Obj.mapSeq (λ_=>(#[]:Array Value)))).DictAt knd d a g:=(hm.push _).at' λo e=>(Heap.get?_update_other _ _ (Ne.symm nd)).trans e
 refine Yb (wpAny_letGo ?_);refine se (A:=A.in1) (s:={ s with heap:=(s.heap.push { cls:=.type "list",data:=.seq #[] }).update s.heap.objs.size (Obj.mapSeq (λ_=>(#[]:Array Value))) }) k hd n hl s.heap.objs.size .none _ p1 ?_;intro h' tk e_ c' hk p r;refine⟨rfl,l h' tk e_ c' (λb o e=>hk b o (ZT (Ye e)) ?_) p r⟩;exact(Heap.get?_update_other _ _ (Ne.symm (ZT (Ye e)))).trans (Yd _ e)
theorem xY{Q:List Value->Shared->Prop}{d:Addr}{a:List (κ×Value)}{g:Nat}(j:A.handled=none)(hd:(d==sysModules)=false)(hm:s.heap.DictAt knd d a g)(hl:a.length<=2 ^ 24)
  (k:∀h' tk e_,(∀b o,s.heap.get? b=some o->h'.get? b=some o)->s.heap.objs.size<h'.objs.size->ItemsOf (xl knd a) e_ a.length->Q e_.toList { s with heap:=h',toks:=tk }):wpAny (model prog w) A (collect (.ref d)) Q E s:=by
 have go:∀R:Result->Shared->Prop,(∀h' tk e_ c',(∀b o,s.heap.get? b=some o->h'.get? b=some o)->h'.get? s.heap.objs.size=some { cls:=.type "list",dict:=none,data:=.seq e_ c',slots:=#[] }->ItemsOf (xl knd a) e_ a.length ->
   R (.ok (.ret (.ref s.heap.objs.size))) { s with heap:=h',toks:=tk })->codeAny (model prog w) A (.builtin "list.__iadd__" ⟨[.ref s.heap.objs.size,.ref d],[]⟩) R { s with heap:=s.heap.push (seqObj "list" #[] 0) }:=by
  intro R l;refine codeAny_builtin entry_list_iadd' ?_;show wpAny _ _ (Builtin.List.listExtendWith (.ref s.heap.objs.size) (.ref d) (.ref s.heap.objs.size)) _ _ { s with heap:=s.heap.push (seqObj "list" #[] 0) };rw[Around.under_plainId (id:="list.__iadd__") 'f'];refine se (A:=A) (R:=R) (s:={ s with heap:=s.heap.push (seqObj "list" #[] 0) }) j hd (hm.push _) hl s.heap.objs.size _ 0 (Yg _ rfl) ?_;intro h' tk e_ c' hk c f;exact l h' tk e_ c' (λb o e=>hk b o (ZT (Ye e)) (Yd _ e)) c f
 unfold collect;refine Yb (wpAny_runValue (codeAny_builtin entry_proto_collect' ?_));show wpAny _ _ (do again (.builtin "list.__iadd__" ⟨[←newList [],.ref d],[]⟩)) _ _ s;refine Yb (wpAny_newList (Yc ⟨Code.quiet_builtin _ 'f',go _ λh' tk e_ c' hk c f=>?_⟩));refine Yb (wpAny_load c ?_);exact Yc (k h' tk e_ hk (Ye c) f)
theorem Ab:∀{vs:Zd}{c:Zi},vs.length=c.length->(∀(i:Nat) (v:Value) (n:Int),vs[i]?=some v->c[i]?=some n->∃t,v=Value.int n t)->IntsAre vs c
 |[],[],_,_=>.nil
 |[],_::_,h,_=>by cases h
 |_::_,[],h,_=>by cases h
 |v::vs,n::c,h,g=>by
  obtain⟨t,rfl⟩:=g 0 v n rfl rfl;exact .cons n t (Ab (by simpa using h) λi v m a b=>g (i+1) v m (by simpa using a) (by simpa using b))
theorem Bg {it:Value} {vs:Zd} {ns:Zi} {h':Heap} {tk:Nat} {Q:Zb} (c:IntsAre vs ns) (d:vs.length < 64)
  (h:∀ (out:Zl) (a:Zi),IntsAre out.toList a->a.Perm ns->a.Pairwise (·<=·)->Q (.ref h'.objs.size) { s with heap:=sortedHeap (h'.push (seqObj "list" vs.toArray 0)) h'.objs.size vs out,toks:=tk }) :
  wpAny (model prog w) A.in1 (do
   let l ← newList vs
   let _ ← holding [l] (call (.builtin "list.sort") [l] [])
   ret l) (λfin f=>∃ v,fin = Fin.done (.ret v)/\Q v f) E { s with heap:=h',toks:=tk }:=by
 refine Yb (wpAny_newList ?_)
 have b:(h'.push (seqObj "list" vs.toArray 0)).get? h'.objs.size = some (seqObj "list" vs.toArray 0):=Yg _ rfl
 show wpAny _ _ _ _ _ { s with heap:=h'.push (seqObj "list" vs.toArray 0),toks:=tk }
 refine Yb (Yj (wpAny_call_entry slot_list_sort ⟨_,b,rfl⟩ entry_list_sort (list_sort_tree b c d λout a g j k=>⟨_,rfl,?_⟩) (args_list_sort _)))
 exact Yc ⟨_,rfl,h out a g j k⟩
end
def intKeys:List (Key×D)->Option (List Int)
 |[]=>some []
 |(.inl i,_)::r=>(intKeys r).map (i :: ·)
 |_=>none
theorem sf:∀{a:ZB}{ns:Zi},intKeys a=some ns->a.map (·.1)=ns.map Sum.inl
 |[],ns,h=>by cases h;rfl
 |(.inl i,d)::r,ns,h=>by
  rw[intKeys] at h;cases q:intKeys r with
  |none=>rw[q] at h;cases h
  |some b=>rw[q] at h;cases h;rw[YJ,YJ,sf q]
 |(.inr x,d)::r,ns,h=>by cases h
def rF(ns:Zi)(M:MH)(Q:DK):Prop:=ns.length<64/\∀(p:Addr) (a:Zi),M p=none->a.Perm ns->a.Pairwise (·<=·)->Q (.ref p) (updM M p (.lst (a.map .int)))
def lj:SpD:=λds M Q=>match ds with
 |[.ref a]=>match rdL (M a) with
  |some xs=>optD (jN xs) λns=>rF ns M Q
  |none=>optD (rdD (M a)) λb=>optD (intKeys b) λns=>rF ns M Q
 |_=>False
theorem qx:∀{us:Zd}{a:Zi},IntsAre us a->Vals (a.map V.int) us
 |_,_,.nil=>.nil
 |_,_,.cons n t r=>.cons ⟨t,rfl⟩ (qx r)
theorem qy:∀{a:Zi}{us:Zd},Vals (a.map V.int) us->IntsAre us a
 |[],_,h=>by cases h;exact .nil
 |n::a,_,h=>by
  cases h with
  |cons r t=>
   obtain⟨tk,rfl⟩:=r;exact .cons n tk (qy t)
section
variable {X:Cx}{H:Hp}
theorem xZ{pins:Zc}{ρ:L2.St}{s:Shared}{M:MH}{Q:DK}{ns a:Zi}{h':Heap}{tk:Nat}{p:Addr}{out:Zl}{e:Nat}(I:Inv X pins ρ H s)(c:RM X.K M H)(q:rF ns M Q)(k:∀b o,s.heap.get? b=some o->h'.get? b=some o)(hp:s.heap.objs.size<=p)
  (ho:h'.get? p=some (seqObj "list" out e)) (f:IntsAre out.toList a) (d:a.Perm ns) (g:a.Pairwise (·<=·)):EP X pins ρ (lift X.K H Q) (.ref p) { s with heap:=h',toks:=tk }:=by
 have hf:H p=none:=I.hok.fresh hp;have j:=Kp.new (o:=.lst (a.map V.int)) hf;have hz:(a.map V.int).length<=sizeLine:=by
  rw[ZE,d.length_eq];have:(64:Nat)<=sizeLine:=by decide
  have:=q.1
  omega
 exact⟨.ref p,_,I.laid (t':=tk) k hp (show a0 X.prog X.w _ h' p (.lst (a.map V.int)) from⟨hz,out.toList,e,qx f,by simpa [seqObj] using ho⟩),rfl,j,.ref p,_,RV.ref_.2 rfl,c.new (m:=.lst (a.map .int)) hf ⟨_,aG,rE (λ_=>RV.int_.2 rfl) a⟩,q.2 p a (c.fresh hf) d g⟩
theorem CS(hc:X.calm=true):ip X (.builtin "sorted") lj:=by
 intro ds vs H M Q r c h;unfold lj at h;split at h
 ·obtain⟨v,rfl,J⟩:=rvs1 r
  cases RV.ref_.1 J;split at h
  ·rename_i xs d
   obtain⟨ns,f,q⟩:=aU h;obtain⟨us,sq,K⟩:=c.list d;obtain rfl:=sC f K;intro pins s ρ L I g;obtain⟨u,rfl,j⟩:=vals1 g;cases j;obtain⟨d_,C,O,hz⟩:=I.list sq;have hl:d_.length=ns.length:=by have:=C.length;simpa using this.symm
   refine sorted_ints (vs:=d_) O.isList (qy C) (by have:=q.1;omega) λout P p y z=>?_
   obtain⟨e,ho⟩:=sortedAll_at s.heap d_ out;exact xZ (tk:=s.toks) I c q (λb o e=>sortedAll_old e) (YM _) ho p y z
  ·obtain⟨b_,d,h⟩:=aU h
   obtain⟨ns,f,q⟩:=aU h;obtain⟨j',R,S,_⟩:=c.dict d;intro pins s ρ L I g;obtain⟨u,rfl,j⟩:=vals1 g;cases j;obtain⟨hz,hd,xs,T,U⟩:=mr I.hok R;obtain⟨ep,hm⟩:=U.dictAt;have hk:xs.map (·.1)=ns.map Sum.inl:=by rw[←T.keys,S,sf f]
   have hl:xs.length=ns.length:=by have:=congrArg List.length hk;simpa using this
   refine Calls.call_function_entry kind_sorted plain_sorted entry_sorted (args_sorted1 _) ?_;unfold Builtin.«sorted»;refine Yb (m:=checkCount "sorted" 1 1 _) (Yc ?_);refine Yb (xY (A:=X.A.in1) (I.ok.hd hc) hd hm (by have:=q.1;omega) λh' tk e_ V hsz B=>?_);obtain⟨W,B⟩:=B;have Y:e_.toList.length=ns.length:=by rw[←hl,←W];simp
   have Z:IntsAre e_.toList ns:=Ab Y λi v n hv hn=>by
    obtain⟨k,x,hx,hi⟩:=B i v (by rw[←XC];exact hv);have V1:k=Sum.inl n:=by
     have:=congrArg (λl=>l[i]?) hk
     simp only[ZF,hx,hn,Option.map_some] at this;cases this;rfl
    subst V1;exact vf hi
   refine Bg (s:=s) (A:=X.A) (it:=.none) Z (by have:=q.1;omega) λout P p y z=>?_
   obtain⟨e,ho⟩:=sortedHeap_at (h:=h'.push (seqObj "list" e_.toList.toArray 0)) (a:=h'.objs.size) (vs:=e_.toList) (n:=0) (out:=out) (Yg _ rfl);refine xZ I c q (λb o e=>?_) (Nat.le_of_lt hsz) ho p y z;have G:=V b o e;have hb:b<h'.objs.size:=Ye G;rw[sortedHeap_old (ZT hb) (by rw[Heap.size_push];exact Nat.lt_succ_of_lt hb)];exact Yd _ G
 ·exact Yh h
def dD:SpD:=λds M Q=>match ds with
 |[.ref a]=>match rdD (M a) with
  |some b=>∀p,M p=none->Q (.ref p) (updM M p (.lst (keysOf b)))
  |none=>tR ds M Q
 |ds=>tR ds M Q
theorem wm{P:Zw}{w:World}:∀{xs:List (Key×Value)}{us:Zd},us.length=xs.length->(∀(i:Nat) (v:Value) (k:Key) (x:Value),us[i]?=some v->xs[i]?=some (k,x)->(bx P w).is k v=true)->Vals (xs.map λp=>kV p.1) us
 |[],[],_,_=>.nil
 |[],_::_,h,_=>by cases h
 |_::_,[],h,_=>by cases h
 |(k,x)::xs,u::us,h,g=>.cons (vf (g 0 u k x rfl rfl)) (wm (by simpa using h) λi v k x a b=>g (i+1) v k x (by simpa using a) (by simpa using b))
theorem Ez(hc:X.calm=true):ip X (.type "list") dD:=by
 intro ds vs H M Q r d h;unfold dD at h;split at h
 ·rename_i a
  split at h
  ·rename_i g z
   obtain⟨v,rfl,A⟩:=rvs1 r;cases RV.ref_.1 A;obtain⟨c,B,C,_⟩:=d.dict z;intro pins s ρ Y I G;obtain⟨u,rfl,J⟩:=vals1 G;cases J;obtain⟨hz,hd,xs,l,L⟩:=mr I.hok B;obtain⟨Z,hm⟩:=L.dictAt;have O:xs.length=c.length:=l.length.symm;by_cases n:xs.length<=2 ^ 24
   ·refine list_dict (I.ok.hd hc) hd hm n λh' tk e_ c' hk R j=>?_
    obtain⟨S,j⟩:=j;have y:Vals (xs.map λp=>kV p.1) e_.toList:=wm (P:=X.prog) (w:=X.w) (by rw[←S];simp) λi v k x a b=>by
     obtain⟨k',x',hx,hi⟩:=j i v (by rw[←XC];exact a);rw[b] at hx;cases hx;exact hi
    have T:(xs.map λp=>kV p.1)=c.map λp=>kV p.1:=by
     have:=l.keys
     have f:(c.map (·.1)).map kV=(xs.map (·.1)).map kV:=by rw[this]
     rw[ZL,ZL] at f;exact f.symm
    rw[T] at y;have hf:H s.heap.objs.size=none:=I.hok.fresh (YE _);have U:=Kp.new (o:=.lst (c.map λp=>kV p.1)) hf;have V:RVs X.K (upd H s.heap.objs.size (.lst (c.map λp=>kV p.1))) (keysOf g) (c.map λp=>kV p.1):=by
     have f:keysOf g=(c.map (·.1)).map kD:=by unfold keysOf;rw[C,ZL];rfl
     have W:(c.map λp=>kV p.1)=(c.map (·.1)).map kV:=by rw[ZL];rfl
     rw[f,W];exact rE (λk=>Fd k) _
    exact⟨.ref s.heap.objs.size,_,I.laid (t':=tk) hk (YE _) (show a0 X.prog X.w _ h' _ (.lst (c.map λp=>kV p.1)) from⟨by rw[ZE];exact hz,e_.toList,c',y,by simpa using R⟩),rfl,U,.ref _,_,RV.ref_.2 rfl,d.new (m:=.lst (keysOf g)) hf ⟨_,aG,V⟩,h _ (d.fresh hf)⟩
   ·exact absurd (by rw[O];rw[sizeLine_eq] at hz;omega) n
  ·exact zX _ vs H M Q r d h
 ·exact zX _ vs H M Q r d h
end
section
variable {X:Cx}{H:Hp}{pos:Pos}{e:Expr}{es:Zg}
inductive Bk where
 |sorted | list
 deriving DecidableEq
def dBk:Bk->SpD
 |.sorted=>lj
 |.list=>dD
def t6:Bk->Str
 |.sorted=>"sorted"
 |.list=>"list"
theorem IG(b:Bk)(hc:X.calm=true){t:WA}{p:Pos}(hg:Gl X (t6 b))(hm:X.mg (t6 b)=none)(a:aA e=true)(c:es.all aA=true)(ha:PAd X (e::es) t):PEd X (.Call (.Name (t6 b) p) (e::es) [] pos) (jK (dBk b) t):=by
 cases b with
 |sorted=>exact gY (CS hc) hg hm 'f' 'a' 'a' a c ha
 |list=>exact tP (Ez hc) hg hm 'f' 'a' 'a' a c ha
end
end DD
namespace DD
open PySem PySem.Spec PyProof.Rows L2
set_option genInjectivity false
set_option genSizeOf false
set_option genCtorIdx false
mutual
inductive E where
 |var (i:Nat) | int (i:Int) | str (x:Str) | bl (b:Bool) | non | glob (j:Nat) | ty (T:String)
 |bin (o:Operator) (a b:E) | cmp (o:CmpOp) (a b:E)
 |and (a b:E) | or (a b:E) | not (a:E) | ite (c:T) (a b:E)
 |fn (j:Nat) (es:Es) | bi (b:Bi) (es:Es) | mt (m:Mt) (o:E) (es:Es) | mt0 (m:Mt) (o:E)
 |ix (a b:E) | sl (a:E) (lo hi:Eo) | lst (es:Es) | tup (es:Es) | comp (n:Nat) (e:E) (t:Tgt) (i:I) (c:To)
 |neg (a:E) | dnew | fld (o:E) (f:Str) | mu (m:Str) (o:E) (es:Es) | mu0 (m:Str) (o:E) | lenSet (a:E) | lrg (es:Es) | inv (a:E) | bk (b:Bk) (es:Es)
inductive Ps where
 |nil | cons (k v:E) (r:Ps)
inductive Es where
 |nil | cons (e:E) (es:Es)
inductive Eo where
 |no | yes (e:E)
inductive To where
 |no | yes (t:T)
inductive T where
 |val (e:E) | cmp (o:CmpOp) (a b:E) | and (t u:T) | or (t u:T) | not (t:T)
inductive I where
 |seq (e:E) | rg1 (es:Es) | enum (es:Es) | zip (es:Es)
end
mutual
inductive S where
 |set (i:Nat) (e:E) | setC (i n:Nat) (e:E) (t:Tgt) (it:I) (c:To) | asg (g:Tgt) (e:E) | expr (e:E) | ret (e:E)
 |ite (t:T) (a b:Ss) | for (g:Tgt) (it:I) (b:Ss) | pass | never
 |putIx (o i e:E) | setF (o:E) (f:Str) (e:E) | while (t:T) (b:Ss)
inductive Ss where
 |nil | cons (s:S) (r:Ss)
end
set_option genInjectivity true
set_option genSizeOf true
set_option genCtorIdx true
structure Cn where
 F:List SpD
 G:List D
 O:OK0
 T:MT0
 I:IS0:=λ_ _=>none
def t7(c:WT)(f:WS):WS:=λE σ M=>∃W:Nat->DS->MH->Prop,(∃m,W m σ M)/\∀m σ M,W m σ M ->
 c σ M λb M1=>Bif b (∃N:DS->MH->Prop,(∀a M',N a M'->∃d,d<m/\W d a M')/\f { E with nx:=N,ct:=N,bk:=E.nx } σ M1) (E.nx σ M1)
section
variable (c:Cn)
mutual
noncomputable def wE:E->WE
 |.var i=>λσ M Q=>getS σ i λd=>Q d M
 |.int i=>λ_ M Q=>Q (.int i) M
 |.str i=>λ_ M Q=>Q (.str i) M
 |.bl i=>λ_ M Q=>Q (.bl i) M
 |.non=>λ_ M Q=>Q .non M
 |.glob j=>λ_ M Q=>Q (c.G.getD j .non) M
 |.ty n=>λ_ M Q=>Q (.ty n) M
 |.bin o a b=>wOp (dBin o) (wE a) (wE b)
 |.cmp o a b=>wOp (dCmp o) (wE a) (wE b)
 |.and a b=>AL (wE a) (wE b)
 |.or a b=>wOrV (wE a) (wE b)
 |.not a=>AM (wE a)
 |.ite t a b=>wIf (wT t) (wE a) (wE b)
 |.fn j es=>jK (c.F.getD j λ_ _ _=>False) (wEs es)
 |.bi b es=>jK (dBi b) (wEs es)
 |.lenSet a=>vn (wE a)
 |.bk b es=>jK (dBk b) (wEs es)
 |.lrg es=>wLrg (wEs es)
 |.mt m o es=>wMt (mtRc m) (dMt m) (wE o) (wEs es)
 |.mt0 m o=>wMt (mtRc m) (dMt m) (wE o) wNil
 |.ix a b=>wOp dIx (wE a) (wE b)
 |.sl a lo hi=>wSl (wE a) (wEo lo) (wEo hi)
 |.lst es=>wLst (wEs es)
 |.tup es=>wTup (wEs es)
 |.comp n e t i d=>AW n (wI i) t (wTo d) (wE e)
 |.neg a=>wNeg (wE a)
 |.inv a=>wInv (wE a)
 |.dnew=>λ_ M Q=>∀p,M p=none->Q (.ref p) (updM M p (.dic []))
 |.fld o f=>wFld c.O f (wE o)
 |.mu m o es=>tX c.T m (wE o) (wEs es)
 |.mu0 m o=>tX c.T m (wE o) wNil
noncomputable def wP:Ps->List (WE×WE)
 |.nil=>[]
 |.cons k v r=>(wE k,wE v)::wP r
noncomputable def wEs:Es->WA
 |.nil=>wNil
 |.cons e es=>AN (wE e) (wEs es)
noncomputable def wEo:Eo->WO
 |.no=>λ_ M Q=>Q none M
 |.yes e=>λσ M Q=>wE e σ M λx M1=>intD x λi=>Q (some i) M1
noncomputable def wTo:To->WT
 |.no=>λ_ M Q=>Q true M
 |.yes t=>wT t
noncomputable def wT:T->WT
 |.val e=>wTru (wE e)
 |.cmp o a b=>AK (wOp (dCmp o) (wE a) (wE b))
 |.and t u=>wAnd (wT t) (wT u)
 |.or t u=>wOr (wT t) (wT u)
 |.not t=>wNot (wT t)
noncomputable def wI:I->WI
 |.seq e=>AS (wE e)
 |.rg1 es=>AT (wEs es)
 |.enum es=>Bc (wEs es)
 |.zip es=>wZip (wEs es)
end
mutual
noncomputable def wS:S->WS
 |.set i e=>wSet i (wE c e)
 |.setC i n e t it d=>AX i n (wI c it) t (wTo c d) (wE c e)
 |.asg g e=>wAsg (wE c e) g
 |.expr e=>AO (wE c e)
 |.ret e=>wRet (wE c e)
 |.ite t a b=>wIfS (wT c t) (wSs a) (wSs b)
 |.for g it b=>wFor (wI c it) g (wSs b)
 |.pass=>tI
 |.never=>λ_ _ _=>False
 |.putIx o i e=>xR (wE c e) (wE c o) (wE c i)
 |.setF o f e=>A8 c.O f (wE c o) (wE c e)
 |.while t b=>t7 (wT c t) (wSs b)
noncomputable def wSs:Ss->WS
 |.nil=>tI
 |.cons s r=>wSeq (wS s) (wSs r)
end
end
structure Gam where
 N:List Str
 sc:Scope
 all:Bool
 glob:List Str
 blt:List Str
 fns:List Str
def Bh:Option NameKind->Bool
 |some .local=>true
 |some .cell=>true
 |some .free=>true
 |_=>false
def Bj:Option NameKind->Bool
 |some .local=>true
 |some .cell=>true
 |_=>false
def CU(Γ:Gam)(i:Nat)(x:Str):Bool:=decide (Γ.N[i]?=some x)&&Bh (Γ.sc.names.lookup x) && !(x==("__debug__" : Str)) && !(x==("__classdict__" : Str))
def qz(Γ:Gam)(i:Nat)(x:Str):Bool:=decide (Γ.N[i]?=some x)&&Bj (Γ.sc.names.lookup x)&&(Γ.all||decide (Γ.sc.names.lookup x=some .local))
def cU(Γ:Gam)(x:Str):Bool:=decide (Γ.sc.names.lookup x=some .globalImplicit) && !(x==("__debug__" : Str))
def t9:List String:=["bool","int","str","tuple","list","dict"]
def ownOf(sc:Scope):List Str:=sc.names.filterMap λp=>if p.2=.local/\p.1≠(".0" : Str) then some p.1 else none
def n2Of(Γ:Gam)(sc:Scope):List Str:=Γ.N.map λy=>if sc.names.lookup y=some .local then "" else y
def nU(Γ:Gam)(sc:Scope):Bool:=decide (sc.kind=.function)&&sc.names.all (λy=>decide (y.2≠.cell))&&sc.names.all (λy=>decide (y.2=.local->sc.names.lookup y.1=some .local)) &&
 sc.names.all (λy=>decide (y.2=.free->(Γ.sc.names.lookup y.1=some .cell\/Γ.sc.names.lookup y.1=some .free)))&&((n2Of Γ sc).zip Γ.N).all (λp=>decide ((sc.names.lookup p.1=some .free->p.1=p.2)/\sc.names.lookup p.1≠some .local))&&decide ((n2Of Γ sc++ownOf sc).Nodup)
def relS(sc Kd:Scope):Scope:={ sc with names:=sc.names.map λ(p:Str×NameKind)=>if(p.2==NameKind.free&&Kd.kind==.function&&Kd.names.lookup p.1==some .cell)=true then(p.1,NameKind.cell) else(p.1,p.2) }
def inComp(Γ:Gam)(sc:Scope):Gam:={ Γ with N:=n2Of Γ sc++ownOf sc,sc:=relS sc Γ.sc,all:=false }
def ua(Γ:Gam):List Nat->List Expr->Bool
 |[],[]=>true
 |i::is,.Name x _::es=>qz Γ i x&&ua Γ is es
 |_,_=>false
def rG(Γ:Gam):Tgt->Expr->Bool
 |.nm i,.Name x _=>qz Γ i x
 |.tp is,.Tuple es _ _=>ua Γ is es
 |_,_=>false
def CV:Expr->Bool
 |.UnaryOp .Not _ _=>false
 |.BoolOp _ _ _=>false
 |.IfExp _ _ _ _=>false
 |.Compare _ _ _ _=>false
 |_=>true
def lc:Expr->Option (Str×List Expr×List Keyword)
 |.Call f es ks _=>match f with
  |.Name x _=>some (x,es,ks)
  |_=>none
 |_=>none
def ub(e:Expr):Option (Str×Str×List Expr):=match lc e with
 |some (x,[c],[])=>match lc c with
  |some (y,es,[])=>some (x,y,es)
  |_=>none
 |_=>none
def isTup:Expr->Bool
 |.Tuple _ _ _=>true
 |_=>false
theorem nos{b:Type}{a:b}{P:Prop}(h:none=some a):P:=by cases h
theorem ff{P:Prop}(h:false=true):P:=by cases h
theorem eI{e:Expr}{x:Str}{es:Zg}{ks:List Keyword}(h:lc e=some (x,es,ks)):∃p q,e=.Call (.Name x p) es ks q:=by
 cases e with
 |Call f es ks q=>
  cases f with
  |Name x p=>cases h;exact⟨p,q,rfl⟩
  |_=>exact nos h
 |_=>exact nos h
theorem qA{e:Expr}{x y:Str}{es:Zg}(h:ub e=some (x,y,es)):∃p q a b,e=.Call (.Name x p) [.Call (.Name y a) es [] b] [] q:=by
 unfold ub at h;split at h
 ·rename_i c
  split at h
  ·rename_i d
   cases h;obtain⟨p,q,rfl⟩:=eI c;obtain⟨a,b,rfl⟩:=eI d;exact⟨p,q,a,b,rfl⟩
  ·cases h
 ·cases h
theorem x0{e:Expr}(h:isTup e=true):∃es k p,e=.Tuple es k p:=by
 cases e with
 |Tuple es k p=>exact⟨es,k,p,rfl⟩
 |_=>exact ff h
mutual
noncomputable def chkE:Gam->E->Expr->Bool
 |Γ,.var i,e=>match e with
  |.Name x _=>CU Γ i x
  |_=>false
 |_,.int i,e=>match e with
  |.Constant (.int j) _ _=>decide (i=j)
  |_=>false
 |_,.str i,e=>match e with
  |.Constant (.str j) _ _=>decide (i=j)
  |_=>false
 |_,.bl i,e=>match e with
  |.Constant (.bool j) _ _=>decide (i=j)
  |_=>false
 |_,.non,e=>match e with
  |.Constant .none _ _=>true
  |_=>false
 |Γ,.glob j,e=>match e with
  |.Name x _=>cU Γ x&&decide (Γ.glob[j]?=some x)
  |_=>false
 |Γ,.ty n,e=>match e with
  |.Name x _=>cU Γ x&&Γ.blt.contains x&&decide (x=Str.ofString n)&&t9.contains n
  |_=>false
 |Γ,.bin o a b,e=>match e with
  |.BinOp l op r _=>decide (o=op)&&chkE Γ a l&&chkE Γ b r
  |_=>false
 |Γ,.cmp o a b,e=>match e with
  |.Compare l [op] [r] _=>decide (o=op)&&chkE Γ a l&&chkE Γ b r && !(behindInMarks op r)
  |_=>false
 |Γ,.and a b,e=>match e with
  |.BoolOp .And [l,r] _=>chkE Γ a l&&chkE Γ b r
  |.BoolOp .And (l::r::q::rest) pos=>chkE Γ a l&&chkE Γ b (.BoolOp .And (r::q::rest) pos)
  |_=>false
 |Γ,.or a b,e=>match e with
  |.BoolOp .Or [l,r] _=>chkE Γ a l&&chkE Γ b r
  |.BoolOp .Or (l::r::q::rest) pos=>chkE Γ a l&&chkE Γ b (.BoolOp .Or (r::q::rest) pos)
  |_=>false
 |Γ,.not a,e=>match e with
  |.UnaryOp .Not l _=>chkE Γ a l
  |_=>false
 |Γ,.ite c a b,e=>match e with
  |.IfExp t l r _=>chkT Γ c t&&chkE Γ a l&&chkE Γ b r
  |_=>false
 |Γ,.fn j es,e=>match lc e with
  |some (x,a::as,[])=>cU Γ x&&decide (Γ.fns[j]?=some x)&&aA a&&as.all aA&&cV Γ es (a::as)
  |_=>false
 |Γ,.bi b es,e=>match lc e with
  |some (x,a::as,[])=>cU Γ x&&Γ.blt.contains x&&decide (x=tS b)&&aA a&&as.all aA&&cV Γ es (a::as)
  |_=>false
 |Γ,.bk b es,e=>match lc e with
  |some (x,a::as,[])=>cU Γ x&&Γ.blt.contains x&&decide (x=t6 b)&&aA a&&as.all aA&&cV Γ es (a::as)
  |_=>false
 |Γ,.lenSet a,e=>match ub e with
  |some (x,y,[l])=>cU Γ x&&Γ.blt.contains x&&decide (x=("len" : Str))&&cU Γ y&&Γ.blt.contains y&&decide (y=("set" : Str))&&aA l&&chkE Γ a l
  |_=>false
 |Γ,.lrg es,e=>match ub e with
  |some (x,y,[l])=>cU Γ x&&Γ.blt.contains x&&decide (x=("list" : Str))&&cU Γ y&&Γ.blt.contains y&&decide (y=("range" : Str))&&aA l&&cV Γ es [l]
  |some (x,y,[l,r])=>cU Γ x&&Γ.blt.contains x&&decide (x=("list" : Str))&&cU Γ y&&Γ.blt.contains y&&decide (y=("range" : Str))&&aA l&&aA r&&cV Γ es [l,r]
  |_=>false
 |Γ,.mt m o es,e=>match e with
  |.Call (.Attribute l x m_) (a::as) [] pos=>decide (x=tV m)&&chkE Γ o l&&bK l&&aA a&&as.all aA&&decide (as.length<20)&&(m_.endLine==pos.line)&&cV Γ es (a::as)
  |_=>false
 |Γ,.mt0 m o,e=>match e with
  |.Call (.Attribute l x m_) [] [] pos=>decide (x=tV m)&&chkE Γ o l&&bK l&&(m_.endLine==pos.line)
  |_=>false
 |Γ,.ix a b,e=>match e with
  |.Subscript l r _=>chkE Γ a l&&chkE Γ b r&&lK r
  |_=>false
 |Γ,.sl a lo hi,e=>match e with
  |.Subscript l (.Slice x y none _) _=>chkE Γ a l&&uc Γ lo x&&uc Γ hi y
  |_=>false
 |Γ,.lst es,e=>match e with
  |.List as _=>cV Γ es as&&decide (as.length<=1000)
  |_=>false
 |Γ,.tup es,e=>match e with
  |.Tuple as _ _=>cV Γ es as&&decide (as.length<=1000)
  |_=>false
 |Γ,.comp n e t i c,ex=>match ex with
  |.ListComp D_ [⟨tg,it,ifs,ia⟩] sc _=>nU Γ sc&&decide (n=(ownOf sc).length)&&decide (ia=0)&&chkI Γ i tg it&&lJ it&&rG (inComp Γ sc) t tg&&ud (inComp Γ sc) c ifs&&chkE (inComp Γ sc) e D_
  |_=>false
 |Γ,.neg a,e=>match e with
  |.UnaryOp .USub l _=>chkE Γ a l
  |_=>false
 |Γ,.inv a,e=>match e with
  |.UnaryOp .Invert l _=>chkE Γ a l
  |_=>false
 |_,.dnew,e=>match e with
  |.Dict [] [] _=>true
  |_=>false
 |Γ,.fld o f,e=>match e with
  |.Attribute l x _=>chkE Γ o l&&decide (x=f)&&bK l
  |_=>false
 |Γ,.mu m o es,e=>match e with
  |.Call (.Attribute l x m_) (a::as) [] pos=>decide (x=m)&&chkE Γ o l&&bK l&&aA a&&as.all aA&&decide (as.length<19)&&(m_.endLine==pos.line)&&cV Γ es (a::as)
  |_=>false
 |Γ,.mu0 m o,e=>match e with
  |.Call (.Attribute l x m_) [] [] pos=>decide (x=m)&&chkE Γ o l&&bK l&&(m_.endLine==pos.line)
  |_=>false
noncomputable def chkP:Gam->Ps->List (Option Expr)->List Expr->Bool
 |_,.nil,ks,vs=>match ks,vs with
  |[],[]=>true
  |_,_=>false
 |Γ,.cons k v r,ks,vs=>match ks,vs with
  |some x::ks,y::vs=>chkE Γ k x&&chkE Γ v y&&chkP Γ r ks vs
  |_,_=>false
noncomputable def cV:Gam->Es->List Expr->Bool
 |_,.nil,as=>match as with
  |[]=>true
  |_=>false
 |Γ,.cons e es,as=>match as with
  |a::as=>chkE Γ e a&&aA a&&cV Γ es as
  |_=>false
noncomputable def uc:Gam->Eo->Option Expr->Bool
 |_,.no,a=>match a with
  |none=>true
  |_=>false
 |Γ,.yes e,a=>match a with
  |some a=>chkE Γ e a
  |_=>false
noncomputable def ud:Gam->To->List Expr->Bool
 |_,.no,as=>match as with
  |[]=>true
  |_=>false
 |Γ,.yes t,as=>match as with
  |[a]=>chkT Γ t a
  |_=>false
noncomputable def chkT:Gam->T->Expr->Bool
 |Γ,.val e,ex=>chkE Γ e ex&&CV ex
 |Γ,.cmp o a b,e=>match e with
  |.Compare l [op] [r] _=>decide (o=op)&&chkE Γ a l&&chkE Γ b r && !(behindInMarks op r)
  |_=>false
 |Γ,.and a b,e=>match e with
  |.BoolOp .And [l,r] _=>chkT Γ a l&&chkT Γ b r
  |.BoolOp .And (l::r::q::rest) pos=>chkT Γ a l&&chkT Γ b (.BoolOp .And (r::q::rest) pos)
  |_=>false
 |Γ,.or a b,e=>match e with
  |.BoolOp .Or [l,r] _=>chkT Γ a l&&chkT Γ b r
  |.BoolOp .Or (l::r::q::rest) pos=>chkT Γ a l&&chkT Γ b (.BoolOp .Or (r::q::rest) pos)
  |_=>false
 |Γ,.not a,e=>match e with
  |.UnaryOp .Not l _=>chkT Γ a l
  |_=>false
noncomputable def chkI:Gam->I->Expr->Expr->Bool
 |Γ,.seq e,_,ex=>chkE Γ e ex
 |Γ,.enum es,tg,e=>match isTup tg,lc e with
  |true,some (x,[a],[])=>cU Γ x&&Γ.blt.contains x&&decide (x=("enumerate" : Str))&&aA a&&cV Γ es [a]
  |_,_=>false
 |Γ,.zip es,tg,e=>match isTup tg,lc e with
  |true,some (x,[a,b],[])=>cU Γ x&&Γ.blt.contains x&&decide (x=("zip" : Str))&&aA a&&aA b&&cV Γ es [a,b]
  |_,_=>false
 |Γ,.rg1 es,_,e=>match lc e with
  |some (x,[a],[])=>cU Γ x&&Γ.blt.contains x&&decide (x=("range" : Str))&&aA a&&cV Γ es [a]
  |_=>false
end
def Ac:Expr->Bool
 |.Tuple _ _ _=>false
 |_=>true
mutual
noncomputable def chkS:Gam->S->Stmt->Bool
 |Γ,.set i e,st=>match st with
  |.Assign [.Name x _] v _=>qz Γ i x&&(dL v||decide (Γ.sc.names.lookup x=some .cell))&&chkE Γ e v
  |_=>false
 |Γ,.setC i n e t j c,st=>match st with
  |.Assign [.Name y py] (.ListComp D_ [⟨tg,it,ifs,ia⟩] sc pos) KW=>decide (Γ.N[i]?=some y)&&decide (Γ.sc.names.lookup y=some .local)&&(py.line==pos.line) && !(sc.names.any λ(p:Str×NameKind)=>p.1==y&&(p.2==.local || p.2==.cell)) &&
   nU Γ sc&&decide (n=(ownOf sc).length)&&decide (ia=0)&&chkI Γ j tg it&&lJ it&&rG (inComp Γ sc) t tg&&ud (inComp Γ sc) c ifs&&chkE (inComp Γ sc) e D_
  |_=>false
 |Γ,.asg g e,st=>match st with
  |.Assign [.Tuple es k p] v _=>rG Γ g (.Tuple es k p)&&dL v&&Ac v&&chkE Γ e v
  |_=>false
 |Γ,.expr e,st=>match st with
  |.Expr v _=>dL v&&chkE Γ e v
  |_=>false
 |Γ,.ret e,st=>match st with
  |.Return (some v) _=>chkE Γ e v
  |_=>false
 |Γ,.ite t a b,st=>match st with
  |.If c x y _=>chkT Γ t c&&ca Γ a x&&ca Γ b y
  |_=>false
 |Γ,.for g j b,st=>match st with
  |.For tg it body [] _=>rG Γ g tg&&chkI Γ j tg it&&lJ it&&ca Γ b body
  |_=>false
 |_,.pass,st=>match st with
  |.Pass _=>true
  |_=>false
 |_,.never,_=>true
 |Γ,.putIx o i e,st=>match st with
  |.Assign [.Subscript l r _] v _=>chkE Γ o l&&chkE Γ i r&&chkE Γ e v&&dL v&&lK r
  |_=>false
 |Γ,.setF o f e,st=>match st with
  |.Assign [.Attribute l x _] v _=>chkE Γ o l&&decide (x=f)&&chkE Γ e v
  |_=>false
 |Γ,.while t b,st=>match st with
  |.While c body [] _=>chkT Γ t c&&ca Γ b body
  |_=>false
noncomputable def ca:Gam->Ss->List Stmt->Bool
 |_,.nil,l=>match l with
  |[]=>true
  |_=>false
 |Γ,.cons s r,l=>match l with
  |st::Kx=>chkS Γ s st&&ca Γ r Kx
  |_=>false
end
end DD
namespace DD
open PySem PySem.Spec PyProof.Rows L2
def cX(P:Zw)(w:World)(K:Za)(mg:Ze)(base:Heap)(k:Nat)(x:Str)(sp:SpD):Prop:=FnD P w K mg base k x sp \/ ∃k',k=k'+1/\MkD P w K mg base k' x sp
structure GOk (Γ:Gam) (c:Cn) (X:Cx):Prop where
 N:X.N=Γ.N
 sc:X.env.scope=Γ.sc
 kind:Γ.sc.kind=.function
 nd:Γ.N.Nodup
 calm:X.calm=true
 fn:Γ.all=true->∀x,X.fn x=true
 own:PassesOwn 'c' X.A X.env X.xe
 glob:∀(j:Nat) x,Γ.glob[j]?=some x->ql X.K X.mg x (c.G.getD j .non)
 blt:∀x,Γ.blt.contains x=true->X.mg x=none
 fns:∀(j:Nat) x,Γ.fns[j]?=some x->∃k,cX X.prog X.w X.K X.mg X.base k x (c.F.getD j λ_ _ _=>False)/\Room k X.A
 flds:∀C f,c.O C f->Cls X.K C/\cm X.K C f
 mts:A9 X c.T
 isi:∀C d b,c.I C d=some b->IsiOk X.K C d b
 hu:X.A.units+40<cLine
section
variable {Γ:Gam}{X:Cx}{e:Expr}{pos:Pos}{cn:Cn}
theorem IH(sc:Scope)(env:Env):relabel sc env=relS sc env.scope:=rfl
theorem GOk.comp{sc:Scope}{C:Addr}{s:Shared}{H:Hp}{ex:Zh}{pn:Zc}(g:GOk Γ cn X)(h:nU Γ sc=true):GOk (inComp Γ sc) cn (cxC X sc (ownOf sc) (n2Of Γ sc) C s H ex pn):=by
 unfold nU at h;simp only[YY,XR] at h;obtain⟨⟨⟨⟨⟨a,c⟩,d⟩,f⟩,j⟩,b⟩:=h;refine⟨rfl,?_,a,b,g.calm,(λz=>nomatch z),PassesOwn.never,g.glob,g.blt,g.fns,g.flds,g.mts,g.isi,g.hu⟩;show relabel sc X.env=relS sc Γ.sc;rw[IH,g.sc]
theorem GOk.cscope{sc:Scope}(g:GOk Γ cn X)(h:nU Γ sc=true):CompScope Γ.sc sc X.N (ownOf sc) (n2Of Γ sc):=by
 unfold nU at h;simp only[YY,XR] at h;obtain⟨⟨⟨⟨⟨f,a⟩,b⟩,c⟩,d⟩,j⟩:=h;rw[XM] at a b c d;refine⟨f,λy hy=>XO (a y hy),λy hy=>XO (b y hy),λy hy=>XO (c y hy),?_,λp hp=>?_⟩
 ·rw[g.N];unfold n2Of;rw[ZE]
 ·rw[g.N] at hp;exact XO (d p hp)
theorem EA{sc:Scope}{x:Str}(h:Bh (sc.names.lookup x)=true):Vis sc x:=by
 unfold Bh at h;unfold Vis;split at h
 ·exact .inl (by assumption)
 ·exact .inr (.inl (by assumption))
 ·exact .inr (.inr (by assumption))
 ·exact ff h
theorem EB{sc:Scope}{x:Str}(h:Bj (sc.names.lookup x)=true):L2.Loc sc x:=by
 unfold Bj at h;unfold L2.Loc;split at h
 ·exact .inl (by assumption)
 ·exact .inr (by assumption)
 ·exact ff h
theorem Bl{i:Nat}{x:Str}(g:GOk Γ cn X)(h:qz Γ i x=true):X.N.Nodup/\X.N[i]?=some x/\L2.Loc X.env.scope x/\(X.fn x=true\/X.env.scope.names.lookup x=some .local):=by
 unfold qz at h;simp only[YY,XT,XR] at h;obtain⟨⟨a,b⟩,c⟩:=h;rw[g.N,g.sc];exact⟨g.nd,a,EB b,c.imp (λz=>g.fn z x) id⟩
theorem s_gl{x:Str}(g:GOk Γ cn X)(h:cU Γ x=true):Gl X x/\(x==("__debug__" : Str))=false:=by
 unfold cU at h;simp only[YY,XR,Bool.not_eq_true'] at h;refine⟨?_,h.2⟩;show X.env.scope.names.lookup x=_;rw[g.sc];exact h.1
theorem Fi(g:GOk Γ cn X):∀{is:Zj}{es:Zg},ua Γ is es=true->PGs X es (gsOf is)/\(assignEach es X.env).length=is.length/\(assignEach es X.env).findIdx? (·.1)=none
 |[],[],_=>⟨Fz,rfl,rfl⟩
 |i::is,.Name x p::es,h=>by
  unfold ua at h;rw[YY] at h;obtain⟨f,j,k⟩:=Fi g h.2;obtain⟨a,b,c,d⟩:=Bl g h.1;refine⟨Dz (zD a b c d) f rfl,?_,?_⟩
  ·show(assignEach es X.env).length+1=is.length+1;rw[j]
  ·show List.findIdx? (·.1) ((false,assign (.Name x p) X.env)::assignEach es X.env)=none
   rw[List.findIdx?_cons];simp[k]
 |[],_::_,h=>ff h
 |_::_,[],h=>ff h
 |_::_,.BoolOp .. :: _,h=>ff h
 |_::_,.NamedExpr .. :: _,h=>ff h
 |_::_,.BinOp .. :: _,h=>ff h
 |_::_,.UnaryOp .. :: _,h=>ff h
 |_::_,.Lambda .. :: _,h=>ff h
 |_::_,.IfExp .. :: _,h=>ff h
 |_::_,.Dict .. :: _,h=>ff h
 |_::_,.Set .. :: _,h=>ff h
 |_::_,.ListComp .. :: _,h=>ff h
 |_::_,.SetComp .. :: _,h=>ff h
 |_::_,.DictComp .. :: _,h=>ff h
 |_::_,.GeneratorExp .. :: _,h=>ff h
 |_::_,.Await .. :: _,h=>ff h
 |_::_,.Yield .. :: _,h=>ff h
 |_::_,.YieldFrom .. :: _,h=>ff h
 |_::_,.Compare .. :: _,h=>ff h
 |_::_,.Call .. :: _,h=>ff h
 |_::_,.FormattedValue .. :: _,h=>ff h
 |_::_,.JoinedStr .. :: _,h=>ff h
 |_::_,.Constant .. :: _,h=>ff h
 |_::_,.Attribute .. :: _,h=>ff h
 |_::_,.Subscript .. :: _,h=>ff h
 |_::_,.Starred .. :: _,h=>ff h
 |_::_,.List .. :: _,h=>ff h
 |_::_,.Tuple .. :: _,h=>ff h
 |_::_,.Slice .. :: _,h=>ff h
theorem s_tg{t:Tgt}{tg:Expr}(g:GOk Γ cn X)(h:rG Γ t tg=true):PG X tg (gOf X.K t):=by
 unfold rG at h;split at h
 ·obtain⟨a,b,c,d⟩:=Bl g h
  exact zD a b c d
 ·obtain⟨f,j,k⟩:=Fi g h
  exact Ij g.calm f j k
 ·exact ff h
theorem CW{env:Env}(h:CV e=true):∀b,isTrue e env b=(do let v ←b;standAt e.pos;holding [v] (truthy v)):=by
 intro w;cases e with
 |UnaryOp op a p=>cases op<;>first | rfl | exact absurd (show false=true from h) YC
 |BoolOp _ _ _=>exact absurd (show false=true from h) YC
 |IfExp _ _ _ _=>exact absurd (show false=true from h) YC
 |Compare _ _ _ _=>exact absurd (show false=true from h) YC
 |_=>rfl
theorem GL:∀n∈t9,bootBuiltins (Str.ofString n)=some (.type n):=by rfl'
theorem GM:∀n∈t9,Str.ofString n≠("__name__" : Str):=by rfl'
theorem ue{t:WT}(h:PTd X e t)(hp:(∃vs p,e=.BoolOp .And vs p) \/ ∃vs p,e=.BoolOp .Or vs p):PWd X e t:=by
 rcases hp with⟨vs,p,rfl⟩ | ⟨vs,p,rfl⟩
 ·intro σ M ρ H Q rs b q a pins s I
  exact h σ M ρ H Q rs b q pins s I
 ·intro σ M ρ H Q rs b q a pins s I
  exact h σ M ρ H Q rs b q pins s I
mutual
theorem sE:∀(ir:E){Γ:Gam}{cn:Cn}{X:Cx}{e:Expr},GOk Γ cn X->chkE Γ ir e=true->PEd X e (wE cn ir)
 |.var i,Γ,cn,X,e,g,h=>by
  rw[1]
  ·unfold CU at h
   simp only[YY,XR,Bool.not_eq_true'] at h;rw[wE];exact F1 (by rw[g.N];exact h.1.1.1) (by rw[g.sc];exact EA h.1.1.2) h.1.2 h.2
  ·exact ff h
 |.int i,Γ,cn,X,e,g,h=>by
  rw[1]
  ·cases XO h;rw[wE];exact F2
  ·exact ff h
 |.str i,Γ,cn,X,e,g,h=>by
  rw[1]
  ·cases XO h;rw[wE];exact F3
  ·exact ff h
 |.bl i,Γ,cn,X,e,g,h=>by
  rw[1]
  ·cases XO h;rw[wE];exact Id
  ·exact ff h
 |.non,Γ,cn,X,e,g,h=>by
  rw[1]
  ·rw[wE];exact F5
  ·exact ff h
 |.glob j,Γ,cn,X,e,g,h=>by
  rw[1]
  ·rw[YY] at h
   obtain⟨h1,h2⟩:=s_gl g h.1;rw[wE];exact DV h1 (g.glob j _ (XO h.2)) h2
  ·exact ff h
 |.ty n,Γ,cn,X,e,g,h=>by
  rw[1]
  ·simp only[YY,XR] at h
   obtain⟨⟨⟨h1,h2⟩,rfl⟩,h4⟩:=h;obtain⟨h5,h6⟩:=s_gl g h1;have h4:n∈t9:=by simpa using h4
   rw[wE];exact q9 (Fu (v:=.ty n) h5 (g.blt _ h2) (GL n h4) rfl (GM n h4) h6) λ_=>RV.ty_.2 rfl
  ·exact ff h
 |.bin o a b,Γ,cn,X,e,g,h=>by
  rw[1]
  ·simp only[YY,XR] at h
   obtain⟨⟨rfl,h2⟩,h3⟩:=h;rw[wE];exact F8 (Gy o) (sE a g h2) (sE b g h3)
  ·exact ff h
 |.cmp o a b,Γ,cn,X,e,g,h=>by
  rw[1]
  ·simp only[YY,XR,Bool.not_eq_true'] at h
   obtain⟨⟨⟨rfl,h2⟩,h3⟩,h4⟩:=h;rw[wE];exact F9 (zT g.hu o) (sE a g h2) (sE b g h3) h4
  ·exact ff h
 |.and a b,Γ,cn,X,e,g,h=>by
  rw[1]
  ·rw[YY] at h
   rw[wE];exact zM (sE a g h.1) (zL (sE b g h.2))
  ·rw[YY] at h
   rw[wE];exact zM (sE a g h.1) (sE b g h.2)
  ·exact ff h
 |.or a b,Γ,cn,X,e,g,h=>by
  rw[1]
  ·rw[YY] at h
   rw[wE];exact Ch (sE a g h.1) (zL (sE b g h.2))
  ·rw[YY] at h
   rw[wE];exact Ch (sE a g h.1) (sE b g h.2)
  ·exact ff h
 |.not a,Γ,cn,X,e,g,h=>by
  rw[1]
  ·rw[wE];exact Ge (sE a g h)
  ·exact ff h
 |.ite c a b,Γ,cn,X,e,g,h=>by
  rw[1]
  ·simp only[YY] at h
   rw[wE];exact Ci (sT c g h.1.1) (sE a g h.1.2) (sE b g h.2)
  ·exact ff h
 |.fn j es,Γ,cn,X,e,g,h=>by
  rw[1]
  ·rename_i q_
   obtain⟨_,_,rfl⟩:=eI q_;simp only[YY,XR] at h;obtain⟨⟨⟨⟨h1,h2⟩,h3⟩,h4⟩,h5⟩:=h;obtain⟨h6,h7⟩:=s_gl g h1;obtain⟨k,Fj,hr⟩:=g.fns j _ h2;rw[wE];rcases Fj with Fj | ⟨k',rfl,Fj⟩
   ·exact Gk Fj hr h6 h7 h3 h4 (sEs es g h5)
   ·exact Ej Fj hr h6 h7 h3 h4 (sEs es g h5)
  ·exact ff h
 |.bi b es,Γ,cn,X,e,g,h=>by
  rw[1]
  ·rename_i q_
   obtain⟨_,_,rfl⟩:=eI q_;simp only[YY,XR] at h;obtain⟨⟨⟨⟨⟨h1,h2⟩,rfl⟩,h3⟩,h4⟩,h5⟩:=h;obtain⟨h6,h7⟩:=s_gl g h1;rw[wE];exact IC b g.calm h6 (g.blt _ h2) h3 h4 (sEs es g h5)
  ·exact ff h
 |.bk b es,Γ,cn,X,e,g,h=>by
  rw[1]
  ·rename_i q_
   obtain⟨_,_,rfl⟩:=eI q_;simp only[YY,XR] at h;obtain⟨⟨⟨⟨⟨h1,h2⟩,rfl⟩,h3⟩,h4⟩,h5⟩:=h;obtain⟨h6,h7⟩:=s_gl g h1;rw[wE];exact IG b g.calm h6 (g.blt _ h2) h3 h4 (sEs es g h5)
  ·exact ff h
 |.lenSet a,Γ,cn,X,e,g,h=>by
  rw[1]
  ·rename_i q_
   obtain⟨_,_,_,_,rfl⟩:=qA q_;simp only[YY,XR] at h;obtain⟨⟨⟨⟨⟨⟨⟨h1,h2⟩,rfl⟩,h3⟩,h4⟩,rfl⟩,h5⟩,h6⟩:=h;rw[wE];exact Be g.calm (s_gl g h1).1 (g.blt _ h2) (s_gl g h3).1 (g.blt _ h4) (sE a g h6) h5
  ·exact ff h
 |.lrg es,Γ,cn,X,e,g,h=>by
  rw[1]
  ·rename_i q_
   obtain⟨_,_,_,_,rfl⟩:=qA q_;simp only[YY,XR] at h;obtain⟨⟨⟨⟨⟨⟨⟨h1,h2⟩,rfl⟩,h3⟩,h4⟩,rfl⟩,h5⟩,h6⟩:=h;rw[wE];exact Ex g.calm (s_gl g h1).1 (g.blt _ h2) (s_gl g h3).1 (g.blt _ h4) (sEs es g h6) h5
  ·rename_i q_
   obtain⟨_,_,_,_,rfl⟩:=qA q_;simp only[YY,XR] at h;obtain⟨⟨⟨⟨⟨⟨⟨⟨h1,h2⟩,rfl⟩,h3⟩,h4⟩,rfl⟩,h5⟩,V3⟩,h6⟩:=h;rw[wE];exact Ey g.calm (s_gl g h1).1 (g.blt _ h2) (s_gl g h3).1 (g.blt _ h4) (sEs es g h6) h5 V3
  ·exact ff h
 |.mt m o es,Γ,cn,X,e,g,h=>by
  rw[1]
  ·simp only[YY,XR] at h
   obtain⟨⟨⟨⟨⟨⟨⟨rfl,h1⟩,h2⟩,h3⟩,h4⟩,h5⟩,h6⟩,h7⟩:=h;rw[wE];exact GE g.hu m (sE o g h1) (sEs es g h7) h2 h3 h4 h5 h6
  ·exact ff h
 |.mt0 m o,Γ,cn,X,e,g,h=>by
  rw[1]
  ·simp only[YY,XR] at h
   obtain⟨⟨⟨rfl,h1⟩,h2⟩,h3⟩:=h;rw[wE];exact Ef g.hu m (sE o g h1) h2 h3
  ·exact ff h
 |.ix a b,Γ,cn,X,e,g,h=>by
  rw[1]
  ·simp only[YY] at h
   rw[wE];exact Iv g.hu (sE a g h.1.1) (sE b g h.1.2) h.2
  ·exact ff h
 |.sl a lo hi,Γ,cn,X,e,g,h=>by
  rw[1]
  ·simp only[YY] at h
   rw[wE];exact Ix (sE a g h.1.1) (sEo lo g h.1.2) (sEo hi g h.2)
  ·exact ff h
 |.lst es,Γ,cn,X,e,g,h=>by
  rw[1]
  ·simp only[YY,XR] at h
   rw[wE];exact Gj (sEs es g h.1) h.2
  ·exact ff h
 |.tup es,Γ,cn,X,e,g,h=>by
  rw[1]
  ·simp only[YY,XR] at h
   rw[wE];exact Gi (sEs es g h.1) h.2
  ·exact ff h
 |.comp n el t i c,Γ,cn,X,e,g,h=>by
  rw[1]
  ·simp only[YY,XR] at h
   obtain⟨⟨⟨⟨⟨⟨⟨h1,rfl⟩,rfl⟩,h2⟩,h3⟩,h4⟩,h5⟩,h6⟩:=h;rw[wE];exact D4 (g.cscope h1) g.sc g.calm (sI i g h2) (λC s H0 ex pn=>s_tg (g.comp h1) h4) (λC s H0 ex pn=>sTo c (Γ:=inComp Γ _) (g.comp h1) h5) (λC s H0 ex pn=>sE el (Γ:=inComp Γ _) (g.comp h1) h6) h3
  ·exact ff h
 |.neg a,Γ,cn,X,e,g,h=>by
  rw[1]
  ·rw[wE];exact GF (sE a g h)
  ·exact ff h
 |.inv a,Γ,cn,X,e,g,h=>by
  rw[1]
  ·rw[wE];exact GG (sE a g h)
  ·exact ff h
 |.dnew,Γ,cn,X,e,g,h=>by
  rw[1]
  ·rw[wE];exact Eh
  ·exact ff h
 |.fld o f,Γ,cn,X,e,g,h=>by
  rw[1]
  ·simp only[YY,XR] at h
   obtain⟨⟨h1,rfl⟩,h3⟩:=h;rw[wE];exact GI g.flds (sE o g h1) h3
  ·exact ff h
 |.mu m o es,Γ,cn,X,e,g,h=>by
  rw[1]
  ·simp only[YY,XR] at h
   obtain⟨⟨⟨⟨⟨⟨⟨rfl,h1⟩,h2⟩,h3⟩,h4⟩,h5⟩,h6⟩,h7⟩:=h;rw[wE];exact Ek g.mts (sE o g h1) (sEs es g h7) h2 h3 h4 h5 h6
  ·exact ff h
 |.mu0 m o,Γ,cn,X,e,g,h=>by
  rw[1]
  ·simp only[YY,XR] at h
   obtain⟨⟨⟨rfl,h1⟩,h2⟩,h3⟩:=h;rw[wE];exact CC g.mts (sE o g h1) h2 h3
  ·exact ff h
theorem sP:∀(ir:Ps){Γ:Gam}{cn:Cn}{X:Cx}{ks:List (Option Expr)}{vs:Zg},GOk Γ cn X->chkP Γ ir ks vs=true->PPd X ks vs (wP cn ir)
 |.nil,Γ,cn,X,ks,vs,g,h=>by
  unfold chkP at h;split at h
  ·rw[wP];exact .nil
  ·exact ff h
 |.cons k v r,Γ,cn,X,ks,vs,g,h=>by
  unfold chkP at h;split at h
  ·simp only[YY] at h
   rw[wP];exact .cons (sE k g h.1.1) (sE v g h.1.2) (sP r g h.2)
  ·exact ff h
theorem sEs:∀(ir:Es){Γ:Gam}{cn:Cn}{X:Cx}{es:Zg},GOk Γ cn X->cV Γ ir es=true->PAd X es (wEs cn ir)
 |.nil,Γ,cn,X,es,g,h=>by
  unfold cV at h;split at h
  ·rw[wEs];exact Gh
  ·exact ff h
 |.cons e r,Γ,cn,X,es,g,h=>by
  unfold cV at h;split at h
  ·simp only[YY] at h
   rw[wEs];exact DX (sE e g h.1.1) (sEs r g h.2) h.1.2
  ·exact ff h
theorem sEo:∀(ir:Eo){Γ:Gam}{cn:Cn}{X:Cx}{e:Option Expr},GOk Γ cn X->uc Γ ir e=true->POd X e (wEo cn ir)
 |.no,Γ,cn,X,e,g,h=>by
  unfold uc at h;split at h
  ·rw[wEo];exact Ea
  ·exact ff h
 |.yes a,Γ,cn,X,e,g,h=>by
  unfold uc at h;split at h
  ·rw[wEo];exact Eb (sE a g h)
  ·exact ff h
theorem sTo:∀(ir:To){Γ:Gam}{cn:Cn}{X:Cx}{e:Zg},GOk Γ cn X->ud Γ ir e=true->PTsd X e (wTo cn ir)
 |.no,Γ,cn,X,e,g,h=>by
  unfold ud at h;split at h
  ·rw[wTo];exact .inl ⟨rfl,rfl⟩
  ·exact ff h
 |.yes a,Γ,cn,X,e,g,h=>by
  unfold ud at h;split at h
  ·rw[wTo];exact .inr ⟨_,rfl,sT a g h⟩
  ·exact ff h
theorem sT:∀(ir:T){Γ:Gam}{cn:Cn}{X:Cx}{e:Expr},GOk Γ cn X->chkT Γ ir e=true->PTd X e (wT cn ir)
 |.val a,Γ,cn,X,e,g,h=>by
  unfold chkT at h;rw[YY] at h;rw[wT];exact Gg (sE a g h.1) (CW h.2)
 |.cmp o a b,Γ,cn,X,e,g,h=>by
  unfold chkT at h;split at h
  ·simp only[YY,XR,Bool.not_eq_true'] at h
   obtain⟨⟨⟨rfl,h2⟩,h3⟩,h4⟩:=h;rw[wT];exact Ga (zT g.hu o) (sE a g h2) (sE b g h3) h4
  ·exact ff h
 |.and a b,Γ,cn,X,e,g,h=>by
  unfold chkT at h;split at h
  ·rw[YY] at h
   rw[wT];exact(zK (sT a g h.1) (DW (sT b g h.2))).pt
  ·rw[YY] at h
   rw[wT];exact(zK (sT a g h.1) (ue (sT b g h.2) (.inl ⟨_,_,rfl⟩))).pt
  ·exact ff h
 |.or a b,Γ,cn,X,e,g,h=>by
  unfold chkT at h;split at h
  ·rw[YY] at h
   rw[wT];exact(Cg (sT a g h.1) (Gc (sT b g h.2))).pt
  ·rw[YY] at h
   rw[wT];exact(Cg (sT a g h.1) (ue (sT b g h.2) (.inr ⟨_,_,rfl⟩))).pt
  ·exact ff h
 |.not a,Γ,cn,X,e,g,h=>by
  unfold chkT at h;split at h
  ·rw[wT];exact Gb (sT a g h)
  ·exact ff h
theorem sI:∀(ir:I){Γ:Gam}{cn:Cn}{X:Cx}{tg e:Expr},GOk Γ cn X->chkI Γ ir tg e=true->PId X tg e (wI cn ir)
 |.seq a,Γ,cn,X,tg,e,g,h=>by
  unfold chkI at h;rw[wI];exact Gu (sE a g h)
 |.enum es,Γ,cn,X,tg,e,g,h=>by
  unfold chkI at h;split at h
  ·rename_i t_ q_
   obtain⟨_,_,_,rfl⟩:=x0 t_;obtain⟨_,_,rfl⟩:=eI q_;simp only[YY,XR] at h;obtain⟨⟨⟨⟨h1,h2⟩,rfl⟩,h3⟩,h4⟩:=h;rw[wI];exact Em (s_gl g h1).1 (g.blt _ h2) (sEs es g h4) h3
  ·exact ff h
 |.zip es,Γ,cn,X,tg,e,g,h=>by
  unfold chkI at h;split at h
  ·rename_i t_ q_
   obtain⟨_,_,_,rfl⟩:=x0 t_;obtain⟨_,_,rfl⟩:=eI q_;simp only[YY,XR] at h;obtain⟨⟨⟨⟨⟨h1,h2⟩,rfl⟩,h3⟩,KY⟩,h4⟩:=h;rw[wI];exact GJ (s_gl g h1).1 (g.blt _ h2) (sEs es g h4) h3 KY
  ·exact ff h
 |.rg1 es,Γ,cn,X,tg,e,g,h=>by
  unfold chkI at h;split at h
  ·rename_i q_
   obtain⟨_,_,rfl⟩:=eI q_;simp only[YY,XR] at h;obtain⟨⟨⟨⟨h1,h2⟩,rfl⟩,h3⟩,h4⟩:=h;rw[wI];exact AU (s_gl g h1).1 (g.blt _ h2) (sEs es g h4) h3
  ·exact ff h
end
theorem Bm{y:Str}{a sp pos:Pos}{b:Expr}{c:List Comprehension}{sc:Scope}(g:GOk Γ cn X)(d:Γ.sc.names.lookup y=some .local)(f:(a.line==pos.line)=true)(j:(sc.names.any λ(p:Str×NameKind)=>p.1==y&&(p.2==.local || p.2==.cell))=false):
  swapsWith (.ListComp b c sc pos) (some (.Name y a)) sp.line X.env=pure true:=by
 show pure (X.env.blockKind==.function&&X.env.kindOf y==some .local && a.line==pos.line && !(sc.names.any λ(p:Str×NameKind)=>p.1==y&&(p.2==.local || p.2==.cell)))=(pure true:Sem Bool);have k:X.env.blockKind=.function:=by
  unfold Env.blockKind;rw[g.sc,g.kind];rfl
 have l:X.env.kindOf y=some .local:=by show X.env.scope.names.lookup y=_;rw[g.sc];exact d
 rw[k,l,f,j];rfl
theorem Bn{y:Str}{f:Pos}{n:Nat}(g:GOk Γ cn X)(j:Γ.sc.names.lookup y=some .cell)(v:Expr):swapsWith v (some (.Name y f)) n X.env=pure false:=by
 have k:X.env.kindOf y=some .cell:=by show X.env.scope.names.lookup y=_;rw[g.sc];exact j
 have l:(some NameKind.cell==some NameKind.local)=false:=rfl;have a:∀(b c d:Bool),(b&&X.env.kindOf y==some .local && c&&d)=false:=λb c d=>by rw[k,l,Bool.and_false,YD,YD]
 cases v<;>first | rfl | exact congrArg pure (a _ _ _)
theorem EC{t:WE}{i:Nat}{x:Str}{pos a:Pos}{e:Expr}(c:X.N.Nodup)(hi:X.N[i]?=some x)(hx:Loc X.env.scope x)(hf:X.fn x=true\/X.env.scope.names.lookup x=some .local)(hc:swapsWith e (some (.Name x a)) pos.line X.env=pure false)(h:PEd X e t):
  PSd X (.Assign [.Name x a] e pos) (wSet i t):=by
 intro σ M ρ H D rs f q;refine eg (Hv c hi hx (pe_W e) hc hf) ?_;show tW X e ρ H _;refine aN (h σ M ρ H _ rs f q) λv l z=>?_
 obtain⟨b,d,M1,g,j,k⟩:=z;exact⟨b,σ.set i (some d),M1,(rs.mono b).set i g,j,k⟩
theorem CY{tg v:Expr}{n:Nat}{env:Env}(h:dL v=true):swapsWithSole [tg] v n env=pure false:=tJ h
theorem ED{es:Zg}{k:Nat}{p:Pos}{v:Expr}{n:Nat}{env:Env}(h:dL v=true)(h':Ac v=true):swapsWithSole [.Tuple es k p] v n env=pure false/\swappedStores [.Tuple es k p] v env=pure none:=by
 refine⟨CY h,?_⟩;cases v<;>first | rfl | exact ff h'
theorem CZ{c:Expr}{body:Zu}{tc:WT}{y:WS}(hp:PassesOwn 'c' X.A X.env X.xe)(hc:PTd X c tc)(hb:PSsd X body y):PSd X (.While c body [] pos) (t7 tc y):=by
 intro σ M ρ H E rs G q;obtain⟨W,⟨J,L⟩,step⟩:=q;refine eg (DA hp (pt_W c) (oY body)) ?_;refine⟨λm j H'=>Kp H H'/\∃d M',RS X.K H' d j/\RM X.K M' H'/\W m d M',⟨J,Kp.refl H,σ,M,rs,G,L⟩,?_⟩;rintro m j H' ⟨k,d,M',o,O,P⟩;refine gC (hc d M' j H' _ o O (step m d M' P)) λb R S=>?_
 obtain⟨f,M1,z,B⟩:=S;cases b with
 |true=>
  obtain⟨N,T,U⟩:=B;refine⟨λC l=>Kp H l/\∃g M2,RS X.K l g C/\RM X.K M2 l/\N g M2,λC l ⟨V,g,M2,a,b,n⟩=>let⟨m',h1,h2⟩:=T g M2 n;⟨m',h1,V,g,M2,a,b,h2⟩,?_⟩;refine et (hb d M1 j R _ (o.mono f) z U) ⟨λY Z Kc=>?_,λ_ _=>bX (k.trans f),λ_ _=>lI (k.trans f),λY Z ⟨p,r,u,a,b,c⟩=>⟨(k.trans f).trans p,r,u,a,b,c⟩⟩;obtain⟨p,r,u,a,b,c⟩:=Kc;exact⟨(k.trans f).trans p,r,u,a,b,c⟩
 |false=>exact⟨k.trans f,d,M1,o.mono f,z,B⟩
mutual
theorem sS:∀(ir:S){Γ:Gam}{cn:Cn}{X:Cx}{st:Stmt},GOk Γ cn X->chkS Γ ir st=true->PSd X st (wS cn ir)
 |.set i e,Γ,cn,X,st,g,h=>by
  unfold chkS at h;split at h
  ·simp only[YY] at h
   obtain⟨a,b,c,d⟩:=Bl g h.1.1;rw[wS];refine EC a b c d ?_ (sE e g h.2);rcases Bool.or_eq_true_iff.1 h.1.2 with z | z
   ·exact tJ z
   ·exact Bn g (XO z) _
  ·exact ff h
 |.setC i n e t j c,Γ,cn,X,st,g,h=>by
  unfold chkS at h;split at h
  ·simp only[YY,XR,Bool.not_eq_true'] at h
   obtain⟨⟨⟨⟨⟨⟨⟨⟨⟨⟨⟨a1,a2⟩,a3⟩,a4⟩,h1⟩,rfl⟩,rfl⟩,h2⟩,h3⟩,h4⟩,h5⟩,h6⟩:=h;rw[wS];exact D7 (g.cscope h1) g.sc g.calm (by rw[g.N];exact g.nd) (by rw[g.N];exact a1) (by rw[g.sc];exact a2) (sI j g h2) (λC s H0 ex pn=>s_tg (g.comp h1) h4)
    (λC s H0 ex pn=>sTo c (Γ:=inComp Γ _) (g.comp h1) h5) (λC s H0 ex pn=>sE e (Γ:=inComp Γ _) (g.comp h1) h6) h3 (Bm g a2 a3 a4)
  ·exact ff h
 |.asg t e,Γ,cn,X,st,g,h=>by
  unfold chkS at h;split at h
  ·simp only[YY] at h
   obtain⟨⟨⟨h1,h2⟩,h3⟩,h4⟩:=h;obtain⟨q1,q2⟩:=ED h2 h3;rw[wS];exact Gq (sE e g h4) (s_tg g h1) q1 q2 rfl
  ·exact ff h
 |.expr e,Γ,cn,X,st,g,h=>by
  unfold chkS at h;split at h
  ·simp only[YY] at h
   rw[wS];exact D2 (sE e g h.2) h.1
  ·exact ff h
 |.ret e,Γ,cn,X,st,g,h=>by
  unfold chkS at h;split at h
  ·rw[wS];exact Go (sE e g h)
  ·exact ff h
 |.ite t a b,Γ,cn,X,st,g,h=>by
  unfold chkS at h;split at h
  ·simp only[YY] at h
   rw[wS];exact Ii (sT t g h.1.1) (sSs a g h.1.2) (sSs b g h.2)
  ·exact ff h
 |.for t j b,Γ,cn,X,st,g,h=>by
  unfold chkS at h;split at h
  ·simp only[YY] at h
   rw[wS];exact Gv g.own g.calm (sI j g h.1.1.2) (s_tg g h.1.1.1) (sSs b g h.2) h.1.2
  ·exact ff h
 |.pass,Γ,cn,X,st,g,h=>by
  unfold chkS at h;split at h
  ·rw[wS];exact D1
  ·exact ff h
 |.never,Γ,cn,X,st,g,h=>by rw[wS];exact Co
 |.putIx o i e,Γ,cn,X,st,g,h=>by
  unfold chkS at h;split at h
  ·simp only[YY] at h
   rw[wS];exact CB g.hu (sE e g h.1.1.2) (sE o g h.1.1.1.1) (sE i g h.1.1.1.2) h.1.2 h.2
  ·exact ff h
 |.setF o f e,Γ,cn,X,st,g,h=>by
  unfold chkS at h;split at h
  ·simp only[YY,XR] at h
   obtain⟨⟨h1,rfl⟩,h3⟩:=h;rw[wS];exact Ei g.flds (sE o g h1) (sE e g h3)
  ·exact ff h
 |.while t b,Γ,cn,X,st,g,h=>by
  unfold chkS at h;split at h
  ·simp only[YY] at h
   rw[wS];exact CZ g.own (sT t g h.1) (sSs b g h.2)
  ·exact ff h
theorem sSs:∀(ir:Ss){Γ:Gam}{cn:Cn}{X:Cx}{st:Zu},GOk Γ cn X->ca Γ ir st=true->PSsd X st (wSs cn ir)
 |.nil,Γ,cn,X,st,g,h=>by
  unfold ca at h;split at h
  ·rw[wSs];exact DZ
  ·exact ff h
 |.cons s r,Γ,cn,X,st,g,h=>by
  unfold ca at h;split at h
  ·simp only[YY] at h
   rw[wSs];exact Cm (sS s g h.1) (sSs r g h.2)
  ·exact ff h
end
end
section
variable {P:Zw}{w:World}{K:Za}{mg:Ze}{base:Heap}
structure Names (P:Zw) (w:World) (K:Za) (mg:Ze) (base:Heap) (k:Nat) (glob:Zf) (blt:Zf) (fns:Zf) (cn:Cn):Prop where
 glob:∀(j:Nat) x,glob[j]?=some x->ql K mg x (cn.G.getD j .non)
 blt:∀x,blt.contains x=true->mg x=none
 fns:∀(j:Nat) x,fns[j]?=some x->∃k',k'<=k/\cX P w K mg base k' x (cn.F.getD j λ_ _ _=>False)
 flds:∀C f,cn.O C f->Cls K C/\cm K C f
 mts:∀C m sp,cn.T C m=some sp->∃k',k'<=k/\aM P w K mg base k' C m sp
 isi:∀C d b,cn.I C d=some b->IsiOk K C d b
theorem II{x:Str}{st:Stmt}{ps N:Zf}{f:Addr}{fd:Zv}{k:Nat}{sp:SpD}{a:Ss}{glob:Zf}{blt:Zf}{fns:Zf}{cn:Cn}(c:IsDef K mg x st ps f fd)(S:FnScope N ps (au st))(nm:Names P w K mg base k glob blt fns cn)
  (hc:ca ⟨N,au st,true,glob,blt,fns⟩ a (aO st)=true) (len:∀ds M Q,sp ds M Q->ds.length=ps.length)
  (h:∀ds M Q,sp ds M Q->wSs cn a { nx:=λ_ M'=>Q .non M',rt:=Q } (ad N ds) M):FnD P w K mg base (k+1) x sp:=by
 refine fnD c S len (λp_ A outer s H E b=>?_) h;exact sSs a (Γ:=⟨N,au st,true,glob,blt,fns⟩) ⟨rfl,rfl,S.kind,S.nd,rfl,λ_ _=>rfl,PassesOwn.never,nm.glob,nm.blt,λj x e=>let⟨k',h1,h2⟩:=nm.fns j x e;⟨k',h2,b.mono h1⟩,nm.flds,λC m sp e=>let⟨k',h1,h2⟩:=nm.mts C m sp e;⟨k',h2,b.mono h1⟩,nm.isi,XI (Nat.add_le_add_left (by decide:40<=64) _) b.units⟩ hc
theorem qB{x i_:Str}{st:Stmt}{ps N:Zf}{f:Addr}{fd:Zv}{k:Nat}{sp:SpD}{a:Ss}{glob:Zf}{blt:Zf}{fns:Zf}{cn:Cn}(n:Fun K x i_ st f fd)(S:FnScope N ps (au st))(nm:Names P w K mg base k glob blt fns cn)
  (hc:ca ⟨N,au st,true,glob,blt,fns⟩ a (aO st)=true) (len:∀ds M Q,sp ds M Q->ds.length=ps.length)
  (h:∀ds M Q,sp ds M Q->wSs cn a { nx:=λ_ M'=>Q .non M',rt:=Q } (ad N ds) M):FnOk P w K mg base CX0 (k+1) f fd ps (dC K sp):=by
 refine n.ok S (λvs H Q E ⟨ds,M,b,r,_,s,_⟩=>by rw[←r.len];exact len ds M b s) λp_ A outer s H vs Q E c ⟨ds,M,b,r,m,sq,l⟩=>⟨tWSs _ _,oY _,?_⟩
 have hb:=sSs a (Γ:=⟨N,au st,true,glob,blt,fns⟩) (X:=(cxOf CX0 P w K mg base N i_ (au st) f p_ A outer s H E).nox) ⟨rfl,rfl,S.kind,S.nd,rfl,λ_ _=>rfl,PassesOwn.never,nm.glob,nm.blt,λj x e=>let⟨k',h1,h2⟩:=nm.fns j x e;⟨k',h2,c.mono h1⟩,nm.flds,λC m sp e=>let⟨k',h1,h2⟩:=nm.mts C m sp e;⟨k',h2,c.mono h1⟩,nm.isi,XI (Nat.add_le_add_left (by decide:40<=64) _) c.units⟩ hc;refine et (hb (ad N ds) M (L2.start N vs) H _ (xJ r) m (h ds M b sq)) ⟨λu H' o=>?_,λv H' ⟨k',d,M',p,g,q⟩=>l _ _ _ _ q k' p g,λ_ _ ⟨_,_,_,_,_,q⟩=>q,λ_ _ ⟨_,_,_,_,_,q⟩=>q⟩;obtain⟨k',y,M',_,g,q⟩:=o;exact l _ _ _ _ q k' (RV.non_.2 rfl) g
end
section
variable {P:Zw}{w:World}{K:Za}{mg:Ze}{base:Heap}{k:Nat}
theorem ac{F:List SpD}:∀(j:Nat) (x:Str),([]:List Str)[j]?=some x->∃k',k'<=k/\cX P w K mg base k' x (F.getD j λ_ _ _=>False):=λj x e=>by simp at e
theorem ab{y:Str}{ys:Zf}{sp:SpD}{F:List SpD}{a:Nat}(b:a<=k)(h:cX P w K mg base a y sp)(t:∀(j:Nat) (x:Str),ys[j]?=some x->∃k',k'<=k/\cX P w K mg base k' x (F.getD j λ_ _ _=>False)):
  ∀(j:Nat) (x:Str),(y::ys)[j]?=some x->∃k',k'<=k/\cX P w K mg base k' x ((sp::F).getD j λ_ _ _=>False):=λj x e=>by
 cases j with
 |zero=>
  have:y=x:=by simpa using e
  subst this;exact⟨a,b,h⟩
 |succ j=>exact t j x (by simpa using e)
theorem EE{C:Addr}{m i_:Str}{st:Stmt}{ps N:Zf}{f:Addr}{fd:Zv}{sp:SpD}{a:Ss}{glob:Zf}{blt:Zf}{fns:Zf}{cn:Cn}(cl:Cls K C)(A:MethAt K C m i_ st f fd)(S:FnScope N ps (au st))(nm:Names P w K mg base k glob blt fns cn)
  (hb:∀(kV r_ pm:Value) (an:Zm) (p_ ct:Value) (us:Zd),us.length=ps.length->bindArgs (PySem.W.fnOf m i_ (bp st) (aO st) (au st) .none kV r_ pm an p_ ct) ⟨us,[]⟩=pure (ps.zip us))
  (hc:ca ⟨N,au st,true,glob,blt,fns⟩ a (aO st)=true) (len:∀ds M Q,sp ds M Q->ds.length=ps.length)
  (h:∀ds M Q,sp ds M Q->wSs cn a { nx:=λ_ M'=>Q .non M',rt:=Q } (ad N ds) M):aM P w K mg base (k+1) C m sp:=
 ⟨f,fd,ps,cl,A.meth,A.fun_.binds hb,qB A.fun_ S nm hc len h⟩
theorem IJ{x:Str}{C:Addr}{i_:Str}{st:Stmt}{ps N:Zf}{f:Addr}{fd:Zv}{sp:SpD}{a:Ss}{glob:Zf}{blt:Zf}{fns:Zf}{cn:Cn}(hx:mg x=some (.ref C))(hm:PySem.W.makesIn K C=true)(hk:PySem.W.keepIn K (.ref C)=true)(A:MethAt K C "__init__" i_ st f fd)
  (S:FnScope N ps (au st)) (nm:Names P w K mg base k glob blt fns cn)
  (hb:∀(kV r_ pm:Value) (an:Zm) (p_ ct:Value) (us:Zd),us.length=ps.length->bindArgs (PySem.W.fnOf "__init__" i_ (bp st) (aO st) (au st) .none kV r_ pm an p_ ct) ⟨us,[]⟩=pure (ps.zip us))
  (hc:ca ⟨N,au st,true,glob,blt,fns⟩ a (aO st)=true) (len:∀ds M Q,sp ds M Q->ds.length=ps.length)
  (h:∀ds M Q,sp ds M Q->wSs cn a { nx:=λ_ M'=>Q .non M',rt:=Q } (ad N ds) M):cX P w K mg base (k+2) x (bm C sp):=
 .inr ⟨k+1,rfl,C,f,fd,ps,sp,⟨hm,A.at_,A.fn,hk⟩,hx,A.fun_.binds hb,qB A.fun_ S nm hc len h,rfl⟩
end
theorem DefAt.fun_{K:Za}{x:Str}{st:Stmt}{f:Addr}{fd:Zv}(A:DefAt K x st f fd):Fun K x x st f fd:=by
 obtain⟨oc,od,an,G_,kV,r_,pm,p_,ct,a,rfl,l,c,k⟩:=A.ex;exact xx l c k
end DD
open PySem L2 DD
local macro_rules
  | `(#v[]) => `(.nil)
  | `(#v[$x]) => `(.cons $x .nil)
  | `(#v[$x, $xs,*]) => `(.cons $x #v[$xs,*])
local macro_rules
  | `(~~~$x) => `(some (DD.D.int ($x : Int)))
local macro_rules
  | `(↑$x) => `(some (DD.D.ref $x))
local macro_rules
  | `(⇑$x) => `(DD.D.int ($x : Int))
local macro_rules
  | `(tactic| simp! only [$ts,*]) => `(tactic| simp only [wSs, wS, wE, wEs, wEo, wTo, wT, wI, wP, wSeq, tI, wIfS, AK, wTru, wOp, wAnd, wOr, wNot, AL, wOrV, AM, wIf, wRet, wSet, wAsg, AR, AO, jK, wMt, wSl, wLst, wTup, wNil, AN, wNeg, wFor, AS, AT, Bc, AW, AX, xR, wFld, A8, tX, JS, getS, rc, truD, intD, optD, rj, setM, dBin, dCmp, dIB, dLt, dI, dI0, dMul, dAdd, dBi, dLen, rz, dAll, dII, tQ, tR, dMt, mtRc, A0, rB, rC, dIx, dSl, dPut, dEqV, dNeV, dIsV, vm, dInV, vk, dInP, dEq, xi, isW, AY, isBl, isB, seqD, fldD, A7, xk, keyD, vn, lstD, rD, wLrg, rngD, dPop, tU, aH, ag, List.getElem?_cons_zero, List.getElem?_cons_succ, $ts,*])
namespace SH
open PySem L2 DD
abbrev fin(Q:DK):EndsD:={ nx:=λ_ M'=>Q .non M',rt:=Q }
def Ext(M M':MH):Prop:=∀a o,M a=some o->M' a=some o
theorem Ext.refl(M:MH):Ext M M:=λ_ _ h=>h
theorem Ext.trans{M M' d:MH}(a:Ext M M')(b:Ext M' d):Ext M d:=λc o h=>b c o (a c o h)
theorem Ext.new{M:MH}{p:Addr}{o:MO}(h:M p=none):Ext M (updM M p o):=λa u e=>by
 rw[ay (λz=>by subst z;rw[h] at e;cases e)];exact e
theorem Ext.then{M M':MH}{p:Addr}{o:MO}(e:Ext M M')(h:M' p=none):Ext M (updM M' p o):=e.trans (Ext.new h)
def ExtBut(p:Addr)(M M':MH):Prop:=∀a o,a≠p->M a=some o->M' a=some o
theorem cN{g:MH->Prop}{t:Tgt}{c:WT}{e:WE}{F:List D->MH->Prop}{f:D->D}{ok:DS->Prop}{M:MH}:∀{xs:List D}(e_:List D) (σ:DS),ok σ ->
  (∀x∈xs,∀σ e_ rest,ok σ->(∀a,ok a->ar g t c e F rest (e_++[f x]) a M)->ar g t c e F (x::rest) e_ σ M)->F (e_++xs.map f) M->ar g t c e F xs e_ σ M
 |[],e_,σ,_,_,q=>by
  rw[YZ,ZA] at q;exact q
 |x::xs,e_,σ,h,st,q=>st x ZX σ e_ xs h λa h'=>cN (e_++[f x]) a h' (λy hy=>st y (.tail _ hy)) (by simpa using q)
theorem nB{g:MH->Prop}{t:Tgt}{c:WT}{e:WE}{F:List D->MH->Prop}{p:D->Bool}{ok:DS->Prop}{M:MH}:∀{xs:List D}(e_:List D) (σ:DS),ok σ ->
  (∀x∈xs,∀σ e_ rest,ok σ->(∀a,ok a->ar g t c e F rest (e_++cond (p x) [x] []) a M)->ar g t c e F (x::rest) e_ σ M)->F (e_++xs.filter p) M->ar g t c e F xs e_ σ M
 |[],e_,σ,_,_,q=>by
  rw[List.filter_nil,ZA] at q;exact q
 |x::xs,e_,σ,h,st,q=>st x ZX σ e_ xs h λa h'=>nB (e_++cond (p x) [x] []) a h' (λy hy=>st y (.tail _ hy)) (by
  rw[XU] at q;cases e:p x with
  |true=>rw[e] at q;simpa using q
  |false=>rw[e] at q;simpa using q)
theorem at0{a:Type}(x:a)(xs:List a):atI (x::xs) 0=some x:=bW (j:=0) rfl
theorem at1{a:Type}(x y:a)(xs:List a):atI (x::y::xs) 1=some y:=bW (j:=1) rfl
theorem at2{a:Type}(x y z:a)(xs:List a):atI (x::y::z::xs) 2=some z:=bW (j:=2) rfl
theorem al(x:Str):aJ (.str x)=true:=rfl
theorem am(x:Int):aJ (.int x)=true:=rfl
theorem aw(x:Bool):aJ (.bl x)=true:=rfl
theorem aq(x:Str):depD (.str x)=0:=rfl
theorem ak(x:Int):depD (.int x)=0:=rfl
theorem ax(x:Bool):depD (.bl x)=0:=rfl
theorem ae(x y:Int):eqD (.int x) (.int y)=(x==y):=by rw[eqD]
theorem ah(x y:Str):eqD (.str x) (.str y)=(x==y):=by rw[eqD]
def bitZ(h f:Int):Int:=h / 2 ^ f.toNat%2
def hasB(h f:Int):Bool:=bitZ h f==1
def intL(fs:Zi):List D:=fs.map .int
def bits(h:Int)(fs:Zi):List D:=fs.map λf=>.int (bitZ h f)
def cntB(fs:Zi)(h:Int):Nat:=(fs.filter (hasB h)).length
theorem vo{fs:Zi}{k:Nat}(h:k<fs.length):atI (intL fs) (k:Int)=some (.int (fs.getD k 0)):=by
 refine bW ?_;unfold intL;rw[ZF,ZC h];simp[List.getD,ZC h]
theorem cutK{a:Type}(xs:List a)(k:Nat):cutL xs none (some (k:Int))=xs.take k:=by
 unfold cutL;rw[HT.va,HT.oK];simp
theorem nV(fs:Zi)(k:Nat):cutL (intL fs) none (some (k:Int))=intL (fs.take k):=by rw[cutK];unfold intL;rw[List.map_take]
theorem sD(fs:Zi):(intL fs).length=fs.length:=by unfold intL;rw[ZE]
inductive CT where
 |hav (f:Int) | lck (f:Int) | som (n:Int) (fs:Zi) | led (fs:Zi) (k:Nat)
def CT.ok:CT->Prop
 |.hav f=>0<=f/\f<120
 |.lck f=>0<=f/\f<120
 |.som _ fs=>(0<fs.length/\fs.length<=6)/\∀f∈fs,0<=f/\f<120
 |.led fs k=>(k<fs.length/\fs.length<=6)/\∀f∈fs,0<=f/\f<120
def CT.told:CT->D
 |.hav f=>.tup [.str "have",.int f]
 |.lck f=>.tup [.str "lack",.int f]
 |.som n fs=>.tup [.str "some",.int n,.tup (intL fs)]
 |.led fs k=>.tup [.str "lead",.tup (intL fs),.int k]
def CT.flds:CT->List (Str×D)
 |.hav f=>[("fact",.int f)]
 |.lck f=>[("fact",.int f)]
 |.som n fs=>[("number",.int n),("facts",.tup (intL fs))]
 |.led fs k=>[("facts",.tup (intL fs)),("at",.int k)]
def CT.kind:CT->Nat
 |.hav _=>0
 |.lck _=>1
 |.som _ _=>2
 |.led _ _=>3
def CT.carried(h m:Int):CT->Bool
 |.hav f=>hasB h f
 |.lck f=>!hasB m f
 |.som n fs=>decide (n<=((cntB fs h:Nat):Int))
 |.led fs k=>hasB h (fs.getD k 0)&&(((cntB (fs.take k) m:Nat):Int)==0)
def CT.blocked(h m:Int):CT->Bool
 |.hav f=>!hasB m f
 |.lck f=>hasB h f
 |.som n fs=>decide (((cntB fs m:Nat):Int)<n)
 |.led fs k=>!hasB m (fs.getD k 0)||decide (0<((cntB (fs.take k) h:Nat):Int))
def cp(b:Bool)(f:Int):D:=.tup [.int f,.bl b]
def CT.leans:CT->List D
 |.hav f=>[cp false f]
 |.lck f=>[cp true f]
 |.som _ fs=>fs.map (cp false)
 |.led fs k=>(fs.take k).map (cp true)++[cp false (fs.getD k 0)]
structure CA where
 h:Addr
 l:Addr
 s:Addr
 d:Addr
def CA.at(c:CA):Nat->Addr
 |0=>c.h
 |1=>c.l
 |2=>c.s
 |_=>c.d
def CT.obj(c:CA)(t:CT):MO:=.ins (c.at t.kind) t.flds
theorem CT.kind_lt(t:CT):t.kind<4:=by
 cases t with
 |hav _=>exact(by decide:(0:Nat)<4)
 |lck _=>exact(by decide:(1:Nat)<4)
 |som _ _=>exact(by decide:(2:Nat)<4)
 |led _ _=>exact(by decide:(3:Nat)<4)
theorem Ad{fs:Zi}{k:Nat}(h:k<fs.length)(hf:∀f∈fs,0<=f/\f<120):0<=fs.getD k 0:=by
 have:fs.getD k 0=fs[k]:=by simp[List.getD,ZC h]
 rw[this];exact(hf _ (List.getElem_mem h)).1
def bn:SpD:=λds M Q=>∃h f:Int,ds=[.int h,.int f]/\0<=f/\Q (.bl (hasB h f)) M
def dM:SpD:=λds M Q=>∃(fs:Zi) (h:Int),ds=[.tup (intL fs),.int h]/\(∀f∈fs,0<=f)/\∀M',Ext M M'->Q (.int (cntB fs h:Nat)) M'
def cu(c:CA)(k:Nat):SpD:=λds M Q=>∃(a:Addr) (t:CT),t.kind=k/\ds=[.ref a]/\M a=some (t.obj c)/\Q t.told M
def bP(c:CA)(k:Nat):SpD:=λds M Q=>∃(a:Addr) (t:CT) (h m:Int),t.kind=k/\t.ok/\ds=[.ref a,.int h,.int m]/\M a=some (t.obj c)/\∀M',Ext M M'->Q (.bl (t.carried h m)) M'
def bQ(c:CA)(k:Nat):SpD:=λds M Q=>∃(a:Addr) (t:CT) (h m:Int),t.kind=k/\t.ok/\ds=[.ref a,.int h,.int m]/\M a=some (t.obj c)/\∀M',Ext M M'->Q (.bl (t.blocked h m)) M'
def bR(c:CA)(k:Nat):SpD:=λds M Q=>∃(a:Addr) (t:CT),t.kind=k/\t.ok/\ds=[.ref a]/\M a=some (t.obj c)/\∀p M',M p=none->Ext M M'->M' p=some (.lst t.leans)->Q (.ref p) M'
def cc(c:CA)(k:Nat):SpD:=λds M Q=>∃(a:Addr) (t:CT),t.kind=k/\ds=.ref a::t.flds.map (·.2)/\M a=some (.ins (c.at k) [])/\∀M',(∀b,b≠a->M' b=M b)->M' a=some (t.obj c)->Q .non M'
def kindAt(c:CA)(a:Addr):Option Nat:=if a=c.h then some 0 else if a=c.l then some 1 else if a=c.s then some 2 else if a=c.d then some 3 else none
def CA.apart(c:CA):Prop:=∀k,k<4->kindAt c (c.at k)=some k
def gK:List Str:=["fact","number","facts","at"]
def fldO(c:CA):OK0:=λa f=>∃k,k<4/\a=c.at k/\f∈gK
theorem aP(c:CA){k:Nat}{f:Str}(hk:k<4)(h:f∈gK):fldO c (c.at k) f:=⟨k,hk,rfl,h⟩
def nC:Ss:=#v[.ret (.cmp .Eq (.bin .BitAnd (.bin .RShift (.var 0) (.var 1)) (.int 1)) (.int 1))]
def nD:Ss:=#v[.ret (.bi .len #v[.comp 1 (.var 2) (.nm 2) (.seq (.var 0)) (.yes (.val (.fn 0 #v[.var 1,.var 2])))])]
section
variable {cn:Cn}
theorem zf{ds:List D}{M:MH}{Q:DK}(h:bn ds M Q):wSs cn nC (fin Q) (ad ["",""] ds) M:=by
 obtain⟨x,f,rfl,hf,q⟩:=h;show wSs cn nC (fin Q) [some (.int x),some (.int f)] M;unfold nC;simp! only[];refine⟨hf,⟨rfl,rfl,(by decide:(0:Nat)<=30)⟩,?_⟩;rw[PyProof.Rows.bitAnd_m1];exact q
theorem zg{ds:List D}{M:MH}{Q:DK}(b:cn.F.getD 0 Yl=bn)(h:dM ds M Q):wSs cn nD (fin Q) (ad ["",""] ds) M:=by
 obtain⟨fs,x,rfl,hf,q⟩:=h;show wSs cn nD (fin Q) [some (.tup (intL fs)),some (.int x)] M;unfold nD;simp! only[b];refine nB (p:=λd=>match d with | .int f=>hasB x f | _=>false) (ok:=λσ=>∃v,σ=[some (.tup (intL fs)),some (.int x),v]) [] _ ⟨none,rfl⟩ ?_ ?_
 ·intro d hd σ e_ rest ⟨v,c⟩ k
  subst c;obtain⟨f,g,rfl⟩:=XV.1 hd;refine⟨x,f,rfl,hf f g,?_⟩;have a:=k _ ⟨some (.int f),rfl⟩;show Bif (hasB x f) _ _;dsimp only at a;cases hb:hasB x f with
  |true=>rw[hb] at a;exact⟨trivial,a⟩
  |false=>rw[hb] at a;exact⟨trivial,by simpa using a⟩
 ·intro p hp
  rw[aa];have e:([]++(intL fs).filter (λ(d:D)=>match d with | .int f=>hasB x f | _=>false)).length=cntB fs x:=by
   unfold intL cntB;rw[XD,List.filter_map,ZE];rfl
  dsimp only;rw[e];exact q _ (Ext.new hp)
end
end SH
local macro_rules
  | `(tactic| simp_all! only [$ts,*]) => `(tactic| simp! only [SH.al,SH.am,SH.aw,SH.aq,SH.ak,SH.ax,SH.ae,SH.ah,YL,and_self,true_and,and_true,$ts,*])
namespace SH
open PySem L2 DD
theorem hJ(x:D):List.lookup ("fact" : Str) [("fact",x)]=some x:=rfl
theorem jY(x y:D):List.lookup ("number" : Str) [("number",x),("facts",y)]=some x:=rfl
theorem o6(x y:D):List.lookup ("facts" : Str) [("number",x),("facts",y)]=some y:=rfl
theorem eJ(x y:D):List.lookup ("facts" : Str) [("facts",x),("at",y)]=some x:=rfl
theorem o7(x y:D):List.lookup ("at" : Str) [("facts",x),("at",y)]=some y:=rfl
theorem dN:("fact" : Str)∈gK:=by rfl'
theorem mz:("number" : Str)∈gK:=by rfl'
theorem bY:("facts" : Str)∈gK:=by rfl'
theorem mC:("at" : Str)∈gK:=by rfl'
def c8:Ss:=#v[.setF (.var 0) "fact" (.var 1)]
def kl:Ss:=#v[.ret (.tup #v[.str "have",.fld (.var 0) "fact"])]
def cf:Ss:=#v[.ret (.fn 0 #v[.var 1,.fld (.var 0) "fact"])]
def cg:Ss:=#v[.ret (.not (.fn 0 #v[.var 2,.fld (.var 0) "fact"]))]
def iq:Ss:=#v[.ret (.lst #v[.tup #v[.fld (.var 0) "fact",.bl false]])]
def km:Ss:=#v[.ret (.tup #v[.str "lack",.fld (.var 0) "fact"])]
def iu:Ss:=#v[.ret (.lst #v[.tup #v[.fld (.var 0) "fact",.bl true]])]
def nW:Ss:=#v[.setF (.var 0) "facts" (.var 2)]
def lN:Ss:=.cons (.setF (.var 0) "number" (.var 1)) nW
def kn:Ss:=#v[.ret (.tup #v[.str "some",.fld (.var 0) "number",.fld (.var 0) "facts"])]
def iw:Ss:=#v[.ret (.cmp .GtE (.fn 0 #v[.fld (.var 0) "facts",.var 1]) (.fld (.var 0) "number"))]
def iy:Ss:=#v[.ret (.cmp .Lt (.fn 0 #v[.fld (.var 0) "facts",.var 2]) (.fld (.var 0) "number"))]
def iA:Ss:=#v[.ret (.comp 1 (.tup #v[.var 1,.bl false]) (.nm 1) (.seq (.fld (.var 0) "facts")) .no)]
def nX:Ss:=#v[.setF (.var 0) "at" (.var 2)]
def lO:Ss:=.cons (.setF (.var 0) "facts" (.var 1)) nX
def ko:Ss:=#v[.ret (.tup #v[.str "lead",.fld (.var 0) "facts",.fld (.var 0) "at"])]
def iB:Ss:=#v[.ret (.and (.fn 0 #v[.var 1,.ix (.fld (.var 0) "facts") (.fld (.var 0) "at")]) (.cmp .Eq (.fn 1 #v[.sl (.fld (.var 0) "facts") .no (.yes (.fld (.var 0) "at")),.var 2]) (.int 0)))]
def iC:Ss:=#v[.ret (.or (.not (.fn 0 #v[.var 2,.ix (.fld (.var 0) "facts") (.fld (.var 0) "at")])) (.cmp .Gt (.fn 1 #v[.sl (.fld (.var 0) "facts") .no (.yes (.fld (.var 0) "at")),.var 1]) (.int 0)))]
def iD:Ss:=#v[.ret (.bin .Add (.comp 1 (.tup #v[.var 1,.bl true]) (.nm 1) (.seq (.sl (.fld (.var 0) "facts") .no (.yes (.fld (.var 0) "at")))) .no) (.lst #v[.tup #v[.ix (.fld (.var 0) "facts") (.fld (.var 0) "at"),.bl false]]))]
section
variable {cn:Cn}{c:CA}{ds:List D}{M:MH}{Q:DK}
theorem x4(d:cn.O=fldO c)(h:cc c 0 ds M Q):wSs cn c8 (fin Q) (ad ["",""] ds) M:=by
 obtain⟨a,t,hk,rfl,g,q⟩:=h;cases t with
 |hav f=>
  show wSs cn c8 (fin Q) [↑a,some (.int f)] M;unfold c8;simp! only[g,d];exact⟨⟨aP c 'a' dN,by decide⟩,q _ (λb hb=>ay hb) aa⟩
 |lck f=>cases hk
 |som n fs=>cases hk
 |led fs k=>cases hk
theorem x9(d:cn.O=fldO c)(h:cc c 1 ds M Q):wSs cn c8 (fin Q) (ad ["",""] ds) M:=by
 obtain⟨a,t,hk,rfl,g,q⟩:=h;cases t with
 |lck f=>
  show wSs cn c8 (fin Q) [↑a,some (.int f)] M;unfold c8;simp! only[g,d];exact⟨⟨aP c 'a' dN,by decide⟩,q _ (λb hb=>ay hb) aa⟩
 |hav f=>cases hk
 |som n fs=>cases hk
 |led fs k=>cases hk
theorem ya(d:cn.O=fldO c)(h:cc c 2 ds M Q):wSs cn lN (fin Q) (ad ["","",""] ds) M:=by
 obtain⟨a,t,hk,rfl,g,q⟩:=h;cases t with
 |som n fs=>
  show wSs cn lN (fin Q) [↑a,some (.int n),some (.tup (intL fs))] M;unfold lN;simp! only[g,d];refine⟨⟨aP c 'a' mz,by decide⟩,?_⟩;unfold nW;simp! only[aa,d];exact⟨⟨aP c 'a' bY,(show(1:Nat)<1000 by decide)⟩,q _ (λb hb=>by rw[ay hb,ay hb]) aa⟩
 |hav f=>cases hk
 |lck f=>cases hk
 |led fs k=>cases hk
theorem yb(d:cn.O=fldO c)(h:cc c 3 ds M Q):wSs cn lO (fin Q) (ad ["","",""] ds) M:=by
 obtain⟨a,t,hk,rfl,g,q⟩:=h;cases t with
 |led fs k=>
  show wSs cn lO (fin Q) [↑a,some (.tup (intL fs)),some (.int k)] M;unfold lO;simp! only[g,d];refine⟨⟨aP c 'a' bY,by decide⟩,?_⟩;unfold nX;simp! only[aa,d];exact⟨⟨aP c 'a' mC,(show(1:Nat)<1000 by decide)⟩,q _ (λb hb=>by rw[ay hb,ay hb]) aa⟩
 |hav f=>cases hk
 |lck f=>cases hk
 |som n fs=>cases hk
theorem wF(d:cn.O=fldO c)(h:cu c 0 ds M Q):wSs cn kl (fin Q) (ad [""] ds) M:=by
 obtain⟨a,t,hk,rfl,b,q⟩:=h;cases t with
 |hav f=>
  have b:M a=some (.ins (c.at 0) [("fact",.int f)]):=b;show wSs cn kl (fin Q) [↑a] M;unfold kl;simp! only[b,d,hJ];exact⟨aP c 'a' dN,q⟩
 |lck f=>cases hk
 |som n fs=>cases hk
 |led fs k=>cases hk
theorem wG(d:cn.O=fldO c)(h:cu c 1 ds M Q):wSs cn km (fin Q) (ad [""] ds) M:=by
 obtain⟨a,t,hk,rfl,b,q⟩:=h;cases t with
 |lck f=>
  have b:M a=some (.ins (c.at 1) [("fact",.int f)]):=b;show wSs cn km (fin Q) [↑a] M;unfold km;simp! only[b,d,hJ];exact⟨aP c 'a' dN,q⟩
 |hav f=>cases hk
 |som n fs=>cases hk
 |led fs k=>cases hk
theorem wH(d:cn.O=fldO c)(h:cu c 2 ds M Q):wSs cn kn (fin Q) (ad [""] ds) M:=by
 obtain⟨a,t,hk,rfl,b,q⟩:=h;cases t with
 |som n fs=>
  have b:M a=some (.ins (c.at 2) [("number",.int n),("facts",.tup (intL fs))]):=b;show wSs cn kn (fin Q) [↑a] M;unfold kn;simp! only[b,d,jY,o6];exact⟨aP c 'a' mz,aP c 'a' bY,q⟩
 |hav f=>cases hk
 |lck f=>cases hk
 |led fs k=>cases hk
theorem wJ(d:cn.O=fldO c)(h:cu c 3 ds M Q):wSs cn ko (fin Q) (ad [""] ds) M:=by
 obtain⟨a,t,hk,rfl,b,q⟩:=h;cases t with
 |led fs k=>
  have b:M a=some (.ins (c.at 3) [("facts",.tup (intL fs)),("at",.int k)]):=b;show wSs cn ko (fin Q) [↑a] M;unfold ko;simp! only[b,d,eJ,o7];exact⟨aP c 'a' bY,aP c 'a' mC,q⟩
 |hav f=>cases hk
 |lck f=>cases hk
 |som n fs=>cases hk
theorem uf(d:cn.O=fldO c)(g:cn.F.getD 0 Yl=bn)(h:bP c 0 ds M Q):wSs cn cf (fin Q) (ad ["","",""] ds) M:=by
 obtain⟨a,t,h,m,hk,ho,rfl,b,q⟩:=h;cases t with
 |hav f=>
  have b:M a=some (.ins (c.at 0) [("fact",.int f)]):=b;show wSs cn cf (fin Q) [↑a,some (.int h),some (.int m)] M;unfold cf;simp! only[b,d,hJ,g];exact⟨aP c 'a' dN,h,f,rfl,ho.1,q M (Ext.refl M)⟩
 |lck f=>cases hk
 |som n fs=>cases hk
 |led fs k=>cases hk
theorem ug(d:cn.O=fldO c)(g:cn.F.getD 0 Yl=bn)(h:bQ c 1 ds M Q):wSs cn cf (fin Q) (ad ["","",""] ds) M:=by
 obtain⟨a,t,h,m,hk,ho,rfl,b,q⟩:=h;cases t with
 |lck f=>
  have b:M a=some (.ins (c.at 1) [("fact",.int f)]):=b;show wSs cn cf (fin Q) [↑a,some (.int h),some (.int m)] M;unfold cf;simp! only[b,d,hJ,g];exact⟨aP c 'a' dN,h,f,rfl,ho.1,q M (Ext.refl M)⟩
 |hav f=>cases hk
 |som n fs=>cases hk
 |led fs k=>cases hk
theorem uh(d:cn.O=fldO c)(g:cn.F.getD 0 Yl=bn)(h:bQ c 0 ds M Q):wSs cn cg (fin Q) (ad ["","",""] ds) M:=by
 obtain⟨a,t,h,m,hk,ho,rfl,b,q⟩:=h;cases t with
 |hav f=>
  have b:M a=some (.ins (c.at 0) [("fact",.int f)]):=b;show wSs cn cg (fin Q) [↑a,some (.int h),some (.int m)] M;unfold cg;simp! only[b,d,hJ,g];exact⟨aP c 'a' dN,m,f,rfl,ho.1,q M (Ext.refl M)⟩
 |lck f=>cases hk
 |som n fs=>cases hk
 |led fs k=>cases hk
theorem uk(d:cn.O=fldO c)(g:cn.F.getD 0 Yl=bn)(h:bP c 1 ds M Q):wSs cn cg (fin Q) (ad ["","",""] ds) M:=by
 obtain⟨a,t,h,m,hk,ho,rfl,b,q⟩:=h;cases t with
 |lck f=>
  have b:M a=some (.ins (c.at 1) [("fact",.int f)]):=b;show wSs cn cg (fin Q) [↑a,some (.int h),some (.int m)] M;unfold cg;simp! only[b,d,hJ,g];exact⟨aP c 'a' dN,m,f,rfl,ho.1,q M (Ext.refl M)⟩
 |hav f=>cases hk
 |som n fs=>cases hk
 |led fs k=>cases hk
theorem ul(g:cn.O=fldO c)(j:cn.F.getD 0 Yl=dM)(h:bP c 2 ds M Q):wSs cn iw (fin Q) (ad ["","",""] ds) M:=by
 obtain⟨a,t,h,m,hk,ho,rfl,b,q⟩:=h;cases t with
 |som n fs=>
  have b:M a=some (.ins (c.at 2) [("number",.int n),("facts",.tup (intL fs))]):=b;show wSs cn iw (fin Q) [↑a,some (.int h),some (.int m)] M;unfold iw;simp! only[b,g,jY,o6,j];refine⟨aP c 'a' bY,fs,h,rfl,λf hf=>(ho.2 f hf).1,λM1 d=>?_⟩;simp only[d a _ b,jY];exact⟨aP c 'a' mz,q M1 d⟩
 |hav f=>cases hk
 |lck f=>cases hk
 |led fs k=>cases hk
theorem um(g:cn.O=fldO c)(j:cn.F.getD 0 Yl=dM)(h:bQ c 2 ds M Q):wSs cn iy (fin Q) (ad ["","",""] ds) M:=by
 obtain⟨a,t,h,m,hk,ho,rfl,b,q⟩:=h;cases t with
 |som n fs=>
  have b:M a=some (.ins (c.at 2) [("number",.int n),("facts",.tup (intL fs))]):=b;show wSs cn iy (fin Q) [↑a,some (.int h),some (.int m)] M;unfold iy;simp! only[b,g,jY,o6,j];refine⟨aP c 'a' bY,fs,m,rfl,λf hf=>(ho.2 f hf).1,λM1 d=>?_⟩;simp only[d a _ b,jY];exact⟨aP c 'a' mz,q M1 d⟩
 |hav f=>cases hk
 |lck f=>cases hk
 |led fs k=>cases hk
theorem uq(d:cn.O=fldO c)(g:cn.F.getD 0 Yl=bn)(j:cn.F.getD 1 Yl=dM)(h:bP c 3 ds M Q):wSs cn iB (fin Q) (ad ["","",""] ds) M:=by
 obtain⟨a,t,h,m,hk,ho,rfl,b,q⟩:=h;cases t with
 |led fs k=>
  have b:M a=some (.ins (c.at 3) [("facts",.tup (intL fs)),("at",.int k)]):=b;show wSs cn iB (fin Q) [↑a,some (.int h),some (.int m)] M;unfold iB;simp! only[b,d,eJ,o7,g,j,vo ho.1.1,nV];refine⟨aP c 'a' bY,aP c 'a' mC,h,fs.getD k 0,rfl,Ad ho.1.1 ho.2,?_⟩;have q:∀M',Ext M M'->Q (.bl (hasB h (fs.getD k 0)&&(((cntB (fs.take k) m:Nat):Int)==0))) M':=q;cases hb:hasB h (fs.getD k 0) with
  |false=>rw[hb,YD] at q;exact q M (Ext.refl M)
  |true=>
   rw[hb,Bool.true_and] at q;simp only[aH,b,eJ,o7,nV];refine⟨aP c 'a' bY,aP c 'a' mC,fs.take k,m,rfl,λf hf=>(ho.2 f (List.mem_of_mem_take hf)).1,λM1 l=>⟨⟨rfl,rfl,(by decide:(0:Nat)<=30)⟩,?_⟩⟩;rw[ae];exact q M1 l
 |hav f=>cases hk
 |lck f=>cases hk
 |som n fs=>cases hk
theorem ur(d:cn.O=fldO c)(g:cn.F.getD 0 Yl=bn)(j:cn.F.getD 1 Yl=dM)(h:bQ c 3 ds M Q):wSs cn iC (fin Q) (ad ["","",""] ds) M:=by
 obtain⟨a,t,h,m,hk,ho,rfl,b,q⟩:=h;cases t with
 |led fs k=>
  have b:M a=some (.ins (c.at 3) [("facts",.tup (intL fs)),("at",.int k)]):=b;show wSs cn iC (fin Q) [↑a,some (.int h),some (.int m)] M;unfold iC;simp! only[b,d,eJ,o7,g,j,vo ho.1.1,nV];refine⟨aP c 'a' bY,aP c 'a' mC,m,fs.getD k 0,rfl,Ad ho.1.1 ho.2,?_⟩;have q:∀M',Ext M M'->Q (.bl (!hasB m (fs.getD k 0)||decide (0<((cntB (fs.take k) h:Nat):Int)))) M':=q;cases hb:hasB m (fs.getD k 0) with
  |false=>rw[hb] at q;exact q M (Ext.refl M)
  |true=>
   rw[hb] at q;simp only[Bool.not_true,ag,b,eJ,o7,nV];refine⟨aP c 'a' bY,aP c 'a' mC,fs.take k,h,rfl,λf hf=>(ho.2 f (List.mem_of_mem_take hf)).1,λM1 l=>?_⟩;exact q M1 l
 |hav f=>cases hk
 |lck f=>cases hk
 |som n fs=>cases hk
theorem ut(d:cn.O=fldO c)(h:bR c 0 ds M Q):wSs cn iq (fin Q) (ad [""] ds) M:=by
 obtain⟨a,t,hk,ho,rfl,b,q⟩:=h;cases t with
 |hav f=>
  have b:M a=some (.ins (c.at 0) [("fact",.int f)]):=b;show wSs cn iq (fin Q) [↑a] M;unfold iq;simp! only[b,d,hJ];exact⟨aP c 'a' dN,λp hp=>q p _ hp (Ext.new hp) aa⟩
 |lck f=>cases hk
 |som n fs=>cases hk
 |led fs k=>cases hk
theorem uu(d:cn.O=fldO c)(h:bR c 1 ds M Q):wSs cn iu (fin Q) (ad [""] ds) M:=by
 obtain⟨a,t,hk,ho,rfl,b,q⟩:=h;cases t with
 |lck f=>
  have b:M a=some (.ins (c.at 1) [("fact",.int f)]):=b;show wSs cn iu (fin Q) [↑a] M;unfold iu;simp! only[b,d,hJ];exact⟨aP c 'a' dN,λp hp=>q p _ hp (Ext.new hp) aa⟩
 |hav f=>cases hk
 |som n fs=>cases hk
 |led fs k=>cases hk
def yc(b:Bool):D->D
 |.int f=>cp b f
 |d=>d
theorem yd(b:Bool)(fs:Zi):(intL fs).map (yc b)=fs.map (cp b):=by
 unfold intL;rw[ZL];rfl
theorem uv(g:cn.O=fldO c)(h:bR c 2 ds M Q):wSs cn iA (fin Q) (ad [""] ds) M:=by
 obtain⟨a,t,hk,ho,rfl,b,q⟩:=h;cases t with
 |som n fs=>
  have b:M a=some (.ins (c.at 2) [("number",.int n),("facts",.tup (intL fs))]):=b;show wSs cn iA (fin Q) [↑a] M;unfold iA;simp! only[b,g,o6];refine⟨aP c 'a' bY,?_⟩;refine cN (f:=yc false) (ok:=λσ=>∃v,σ=[↑a,v]) [] _ ⟨none,rfl⟩ ?_ ?_
  ·intro d hd σ e_ rest ⟨v,j⟩ k
   subst j;obtain⟨f,l,rfl⟩:=XV.1 hd;exact⟨trivial,k _ ⟨_,rfl⟩⟩
  ·intro p hp
   rw[XD,yd];exact q p _ hp (Ext.new hp) aa
 |hav f=>cases hk
 |lck f=>cases hk
 |led fs k=>cases hk
theorem uw(m:cn.O=fldO c)(h:bR c 3 ds M Q):wSs cn iD (fin Q) (ad [""] ds) M:=by
 obtain⟨a,t,hk,ho,rfl,b,q⟩:=h;cases t with
 |led fs k=>
  have b:M a=some (.ins (c.at 3) [("facts",.tup (intL fs)),("at",.int k)]):=b;show wSs cn iD (fin Q) [↑a] M;unfold iD;simp! only[b,m,eJ,o7,nV];refine⟨aP c 'a' bY,aP c 'a' mC,?_⟩;refine cN (f:=yc true) (ok:=λσ=>∃v,σ=[↑a,v]) [] _ ⟨none,rfl⟩ ?_ ?_
  ·intro d hd σ e_ rest ⟨v,r⟩ k
   subst r;obtain⟨f,C,rfl⟩:=XV.1 hd;exact⟨trivial,k _ ⟨_,rfl⟩⟩
  ·intro p hp
   rw[XD,yd];have g:=Ext.new (o:=MO.lst ((fs.take k).map (cp true))) hp;have u:=g a _ b;have y:updM M p (MO.lst ((fs.take k).map (cp true))) p=some (.lst ((fs.take k).map (cp true))):=aa;generalize updM M p (MO.lst ((fs.take k).map (cp true)))=M1 at *;simp only[u,eJ,o7,vo ho.1.1];refine⟨aP c 'a' bY,aP c 'a' mC,λp2 z=>?_⟩;have j:=Ext.new (o:=MO.lst [D.tup [D.int (fs.getD k 0),D.bl false]]) z;have A:=j p _ y;have B:updM M1 p2 (MO.lst [D.tup [D.int (fs.getD k 0),D.bl false]]) p2=some (.lst [D.tup [D.int (fs.getD k 0),D.bl false]]):=aa;generalize updM M1 p2 (MO.lst [D.tup [D.int (fs.getD k 0),D.bl false]])=M2 at *;simp only[A,B];refine⟨?_,λp3 l=>q p3 _ ?_ ((g.trans j).then l) aa⟩
   ·have:((fs.take k).map (cp true)).length<=6:=by rw[ZE];exact ZW (List.length_take_le' _ _) ho.1.2
    have G:(7:Nat)<=sizeLine:=by decide
    simp only[YH,YU];omega
   ·cases e:M p3 with
    |none=>rfl
    |some o=>have:=(g.trans j) p3 o e;rw[l] at this;cases this
 |hav f=>cases hk
 |lck f=>cases hk
 |som n fs=>cases hk
end
theorem Ext.free{M M':MH}{p:Addr}(e:Ext M M')(h:M' p=none):M p=none:=by
 cases q:M p with
 |none=>rfl
 |some o=>have:=e p o q;rw[h] at this;cases this
theorem Ext.put{M M':MH}{p:Addr}{o:MO}(e:Ext M M')(h:M p=none):Ext M (updM M' p o):=λa u q=>by
 have:a≠p:=λz=>by subst z;rw[h] at q;cases q
 rw[ay this];exact e a u q
theorem uA{M M':MH}{x:Addr}{o:MO}(hx:M x=none)(h:∀b,b≠x->M' b=updM M x o b):Ext M M':=λb u e=>by
 have:b≠x:=λz=>by subst z;rw[hx] at e;cases e
 rw[h b this,ay this];exact e
theorem aR{M:MH}{a p:Addr}{o:MO}(h:M a=some o)(hp:M p=none):a≠p:=λz=>by subst z;rw[hp] at h;cases h
theorem ExtBut.refl(p:Addr)(M:MH):ExtBut p M M:=λ_ _ _ h=>h
theorem ExtBut.trans{p:Addr}{M M' d:MH}(a:ExtBut p M M')(b:ExtBut p M' d):ExtBut p M d:=λc o n h=>b c o n (a c o n h)
theorem Ext.but{p:Addr}{M M':MH}(a:Ext M M'):ExtBut p M M':=λc o _ h=>a c o h
theorem ExtBut.upd(p:Addr)(M:MH)(o:MO):ExtBut p M (updM M p o):=λc u n h=>by rw[ay n];exact h
theorem ExtBut.ext{p:Addr}{M M1 M2:MH}(a:Ext M M1)(b:ExtBut p M1 M2)(h:M p=none):Ext M M2:=λc o q=>b c o (aR q h) (a c o q)
theorem sh_:(("have" : Str) == "have")=true:=XF _
theorem s_ss:(("some" : Str) == "some")=true:=XF _
theorem s_ll:(("lack" : Str) == "lack")=true:=XF _
theorem s_dd:(("lead" : Str) == "lead")=true:=XF _
theorem s_lh:(("lack" : Str) == "have")=false:=by rfl'
theorem s_sh:(("some" : Str) == "have")=false:=by rfl'
theorem s_sl:(("some" : Str) == "lack")=false:=by rfl'
theorem s_dh:(("lead" : Str) == "have")=false:=by rfl'
theorem s_dl:(("lead" : Str) == "lack")=false:=by rfl'
theorem s_ds:(("lead" : Str) == "some")=false:=by rfl'
def iE(c:CA):SpD:=λds M Q=>∃t:CT,ds=[t.told]/\∀p M',M p=none->Ext M M'->M' p=some (t.obj c)->Q (.ref p) M'
def cv:Ss:=#v[.ret (.fn 0 #v[.ix (.var 0) (.int 1),.ix (.var 0) (.int 2)])]
def cx:Ss:=.cons (.ite (.cmp .Eq (.ix (.var 0) (.int 0)) (.str "some")) #v[.ret (.fn 1 #v[.ix (.var 0) (.int 1),.ix (.var 0) (.int 2)])] .nil) cv
def bS:Ss:=.cons (.ite (.cmp .Eq (.ix (.var 0) (.int 0)) (.str "lack")) #v[.ret (.fn 2 #v[.ix (.var 0) (.int 1)])] .nil) cx
def bJ:Ss:=.cons (.ite (.cmp .Eq (.ix (.var 0) (.int 0)) (.str "have")) #v[.ret (.fn 3 #v[.ix (.var 0) (.int 1)])] .nil) bS
section
variable {cn:Cn}{c:CA}{ds:List D}{M:MH}{Q:DK}
theorem vp(a:cn.F=[bm (c.at 3) (cc c 3),bm (c.at 2) (cc c 2),bm (c.at 1) (cc c 1),bm (c.at 0) (cc c 0)])(h:iE c ds M Q):wSs cn bJ (fin Q) (ad [""] ds) M:=by
 obtain⟨t,rfl,q⟩:=h;show wSs cn bJ (fin Q) [some t.told] M;cases t with
 |hav f=>
  unfold bJ;simp_all! only[CT.told,at0,at1,at2,a,XW,XX,sh_];exact λx hx=>⟨x,.hav f,rfl,rfl,aa,λM' b d=>⟨rfl,q x M' hx (uA hx b) d⟩⟩
 |lck f=>
  unfold bJ;simp_all! only[CT.told,at0,at1,at2,a,XW,XX,s_lh];unfold bS;simp_all! only[CT.told,at0,at1,at2,a,XW,XX,s_ll];exact λx hx=>⟨x,.lck f,rfl,rfl,aa,λM' b d=>⟨rfl,q x M' hx (uA hx b) d⟩⟩
 |som n fs=>
  unfold bJ;simp_all! only[CT.told,at0,at1,at2,a,XW,XX,s_sh];unfold bS;simp_all! only[CT.told,at0,at1,at2,a,XW,XX,s_sl];unfold cx;simp_all! only[CT.told,at0,at1,at2,a,XW,XX,s_ss];exact λx hx=>⟨x,.som n fs,rfl,rfl,aa,λM' b d=>⟨rfl,q x M' hx (uA hx b) d⟩⟩
 |led fs k=>
  unfold bJ;simp_all! only[CT.told,at0,at1,at2,a,XW,XX,s_dh];unfold bS;simp_all! only[CT.told,at0,at1,at2,a,XW,XX,s_dl];unfold cx;simp_all! only[CT.told,at0,at1,at2,a,XW,XX,s_ds];unfold cv;simp_all! only[CT.told,at0,at1,at2,a,XW,XX];exact λx hx=>⟨x,.led fs k,rfl,rfl,aa,λM' b d=>⟨rfl,q x M' hx (uA hx b) d⟩⟩
end
theorem ck(n k:Nat):hasB (n:Int) (k:Int)=n.testBit k:=by
 unfold hasB bitZ;rw[Nat.testBit_eq_decide_div_mod_eq,YW];have e:(n:Int) / 2 ^ k%2=((n / 2 ^ k%2:Nat):Int):=by simp
 rw[e];by_cases h:n / 2 ^ k%2=1
 ·simp[h]
 ·have a:n / 2 ^ k%2=0:=by omega
  simp[a]
def av(a b:Nat):Nat:=a ^^^ (a&&&b)
theorem aZ(a b k:Nat):(av a b).testBit k=(a.testBit k && !b.testBit k):=by
 unfold av;rw[Nat.testBit_xor,Nat.testBit_and];cases a.testBit k<;>cases b.testBit k<;>rfl
theorem o8(a b:Nat):av a b+(a&&&b)=a:=by
 have h:=PyProof.Rows.nat_or_add_and (av a b) (a&&&b);have c:av a b|||(a&&&b)=a:=by
  refine XY λk=>?_
  rw[XZ,aZ,Nat.testBit_and];cases a.testBit k<;>cases b.testBit k<;>rfl
 have d:av a b&&&(a&&&b)=0:=by
  refine XY λk=>?_
  rw[Nat.testBit_and,aZ,Nat.testBit_and,Nat.zero_testBit];cases a.testBit k<;>cases b.testBit k<;>rfl
 omega
theorem ye(a b:Nat):Builtin.bitOr (a:Int) (b:Int)=((a|||b:Nat):Int):=by
 rw[PyProof.Rows.bitOr_and,PyProof.Rows.bitAnd_pp 'b' 'b',YW,YW]
 have:=PyProof.Rows.nat_or_add_and a b
 omega
theorem vq(a b:Nat):Builtin.bitAnd (a:Int) (b:Int)=((a&&&b:Nat):Int):=by
 rw[PyProof.Rows.bitAnd_pp 'b' 'b',YW,YW]
theorem fD(a b:Nat):Builtin.bitAnd (a:Int) (-(b:Int)-1)=((av a b:Nat):Int):=by
 rw[←bitNot_eq,PyProof.Rows.bitAnd_not,vq]
 have:=o8 a b
 omega
def nats(fs:Zj):List D:=fs.map λ(f:Nat)=>D.int (f:Int)
def setN(fs:Zj):Nat:=fs.foldl (λa f=>a|||2 ^ f) 0
theorem bv(fs:Zj)(k:Nat):(setN fs).testBit k=decide (k∈fs):=by
 have b:∀(fs:Zj) (a:Nat),(fs.foldl (λa f=>a|||2 ^ f) a).testBit k=(a.testBit k||decide (k∈fs)):=by
  intro fs;induction fs with
  |nil=>intro a;simp
  |cons f fs c=>
   intro a;rw[List.foldl_cons,c,XZ,Nat.testBit_two_pow];by_cases e:f=k
   ·subst e;simp
   ·have:k≠f:=λz=>e z.symm
    simp[e,this]
 unfold setN;rw[b];simp
def memb(n:Nat):List Nat:=(List.range (gr (n:Int))).filter λf=>n.testBit f
theorem dq(n f:Nat):f∈memb n↔n.testBit f=true:=by
 unfold memb;rw[ZU,ZV];refine⟨λh=>h.2,λh=>⟨?_,h⟩⟩;unfold gr Builtin.Int.intBits;have hn:n≠0:=λz=>by subst z;simp at h
 have hb:((n:Int)==0)=false:=by rw[ZQ];omega
 rw[hb];simp only[XE,if_false,Int.natAbs_natCast];have a:=Nat.ge_two_pow_of_testBit h;have b:=(Nat.le_log2 hn).2 a;omega
theorem o9(n:Nat):(memb n).Nodup:=List.Pairwise.filter _ List.nodup_range
theorem EF{n m:Nat}(h:n<2 ^ m):gr (n:Int)<=m:=by
 unfold gr Builtin.Int.intBits;by_cases hn:n=0
 ·subst hn;simp
 ·have hb:((n:Int)==0)=false:=by rw[ZQ];omega
  rw[hb];simp only[XE,if_false,Int.natAbs_natCast]
  have:=(Nat.log2_lt hn).2 h
  omega
def Meets(d:D)(M:MH)(fs:Zj)(M':MH):Prop:=(d=.tup (nats fs)/\M'=M) \/ ∃a,d=.ref a/\((M a=some (.lst (nats fs))/\M'=M) \/ ∃b,keysOf b=nats fs/\((M a=some (.dic b)/\M'=updM M a (.rod b))\/(M a=some (.rod b)/\M'=M)))
def hU:SpD:=λds M Q=>∃i:Int,ds=[.int i]/\Q (.bl true) M
def cy:SpD:=λds M Q=>∃i m:Int,ds=[.int i,.int m]/\Q (.bl (decide (0<=i)&&decide (i<m))) M
def bD:SpD:=λds M Q=>∃(d:D) (fs:Zj) (M':MH),ds=[d]/\Meets d M fs M'/\(∀f∈fs,f<=1000)/\Q (.int (setN fs:Nat)) M'
def hV:SpD:=λds M Q=>∃n:Nat,ds=[⇑n]/\n<2 ^ 1000/\∀p M',M p=none->Ext M M'->M' p=some (.lst (nats (memb n)))->Q (.ref p) M'
def cC:SpD:=λds M Q=>∃m:Nat,ds=[⇑m]/\m<=1000/\Q (.int ((2 ^ m-1:Nat):Int)) M
def dO:Ss:=#v[.ret (.and (.bi .isinst #v[.var 0,.ty "int"]) (.not (.bi .isinst #v[.var 0,.ty "bool"])))]
def dP:Ss:=#v[.ret (.and (.fn 0 #v[.var 0]) (.and (.cmp .GtE (.var 0) (.int 0)) (.cmp .Lt (.var 0) (.var 1))))]
def jO:Ss:=#v[.ret (.var 1)]
def fW:Ss:=#v[.set 1 (.bin .BitOr (.var 1) (.bin .LShift (.int 1) (.var 2)))]
def sg:Ss:=.cons (.for (.nm 2) (.seq (.var 0)) fW) jO
def qC:Ss:=.cons (.set 1 (.int 0)) sg
def pc:Ss:=#v[.ret (.comp 1 (.var 1) (.nm 1) (.rg1 #v[.mt0 .bits (.var 0)]) (.yes (.val (.fn 0 #v[.var 0,.var 1]))))]
def lP:Ss:=#v[.ret (.bin .Sub (.bin .LShift (.int 1) (.var 0)) (.int 1))]
section
variable {cn:Cn}{ds:List D}{M:MH}{Q:DK}
theorem zh(h:hU ds M Q):wSs cn dO (fin Q) (ad [""] ds) M:=by
 obtain⟨i,rfl,q⟩:=h;show wSs cn dO (fin Q) [some (.int i)] M;unfold dO;simp! only[tyD];refine⟨by decide,?_⟩;show Bif true _ _;refine⟨by decide,?_⟩;exact q
theorem zi(a:cn.F.getD 0 Yl=hU)(h:cy ds M Q):wSs cn dP (fin Q) (ad ["",""] ds) M:=by
 obtain⟨i,m,rfl,q⟩:=h;show wSs cn dP (fin Q) [some (.int i),some (.int m)] M;unfold dP;simp! only[a];refine⟨i,rfl,?_⟩;show Bif (decide (0<=i)) _ _;cases b:decide (0<=i) with
 |true=>rw[b,Bool.true_and] at q;exact q
 |false=>rw[b,YD] at q;exact q
theorem yf(h:cC ds M Q):wSs cn lP (fin Q) (ad [""] ds) M:=by
 obtain⟨m,rfl,hm,q⟩:=h;show wSs cn lP (fin Q) [~~~m] M;unfold lP;simp! only[];refine⟨⟨by omega (splitDisjunctions:=true),by omega (splitDisjunctions:=true),by decide⟩,?_⟩;have e:(1:Int)*2 ^ (m:Int).toNat-1=((2 ^ m-1:Nat):Int):=by
  have a:1<=2 ^ m:=Nat.one_le_two_pow;rw[YW,Int.one_mul,Int.ofNat_sub a];simp
 rw[e];exact q
theorem Bo(b:cn.F.getD 0 Yl=bn)(h:hV ds M Q):wSs cn pc (fin Q) (ad [""] ds) M:=by
 obtain⟨n,rfl,hn,q⟩:=h;show wSs cn pc (fin Q) [~~~n] M;unfold pc;simp! only[b,xj,List.cons_append,XD,List.replicate];have hb:=EF hn;refine⟨trivial,⟨by omega,by omega⟩,?_⟩;refine nB (p:=λd=>match d with | .int f=>hasB (n:Int) f | _=>false) (ok:=λσ=>∃v,σ=[~~~n,v]) [] _ ⟨none,rfl⟩ ?_ ?_
 ·intro d hd σ e_ rest ⟨v,c⟩ k
  subst c;unfold bA at hd;obtain⟨i,hi,rfl⟩:=XV.1 hd;refine⟨n,0+(i:Int),rfl,by omega,?_⟩;have a:=k _ ⟨some (.int (0+(i:Int))),rfl⟩;show Bif (hasB (n:Int) (0+(i:Int))) _ _;dsimp only at a;cases hb:hasB (n:Int) (0+(i:Int)) with
  |true=>rw[hb] at a;exact⟨trivial,a⟩
  |false=>rw[hb] at a;exact⟨trivial,by simpa using a⟩
 ·intro p hp
  have e:([]++(bA 0 (gr (n:Int))).filter (λ(d:D)=>match d with | .int f=>hasB (n:Int) f | _=>false))=nats (memb n):=by
   unfold bA nats memb;rw[XD,List.filter_map];have g:((gr (n:Int):Int)-0).toNat=gr (n:Int):=by omega
   rw[g];have j:(List.range (gr (n:Int))).filter ((λ(d:D)=>match d with | .int f=>hasB (n:Int) f | _=>false)∘λ(i:Nat)=>D.int (0+(i:Int)))=(List.range (gr (n:Int))).filter λf=>n.testBit f:=by
    refine List.filter_congr λi _=>?_
    show hasB (n:Int) (0+(i:Int))=_;rw[Int.zero_add,ck]
   rw[j];refine ZM λi _=>?_
   rw[Int.zero_add]
  rw[e];exact q p _ hp (Ext.new hp) aa
theorem C0(h:bD ds M Q):wSs cn qC (fin Q) (ad ["","",""] ds) M:=by
 obtain⟨d,fs,M',rfl,hm,hb,q⟩:=h;show wSs cn qC (fin Q) [some d,none,none] M;unfold qC;simp! only[List.set];unfold sg;simp! only[List.set];have go:∀(g:MH->Prop),g M'->aB g (.nm 2) (wSs cn fW) { nx:=wSs cn jO (fin Q),rt:=Q } (nats fs) [some d,some (.int 0),none] M':=by
  intro g hg;have c:∀(fs:Zj) (a:Nat) (v:Zz),(∀f∈fs,f<=1000)->Q (.int (fs.foldl (λa f=>a|||2 ^ f) a:Nat)) M'->aB g (.nm 2) (wSs cn fW) { nx:=wSs cn jO (fin Q),rt:=Q } (nats fs) [some d,~~~a,v] M':=by
   intro fs;induction fs with
   |nil=>
    intro a v _ q;rw[show nats []=[] from rfl,aB];unfold jO;simp! only[];exact q
   |cons f fs j=>
    intro a v hb q;show aB g (.nm 2) (wSs cn fW) _ (⇑f::nats fs) _ M';rw[aB];unfold fW;simp! only[List.set];have hf:=hb f (.head _);refine⟨⟨by omega (splitDisjunctions:=true),by omega (splitDisjunctions:=true),by decide⟩,hg,?_⟩;have e:Builtin.bitOr (a:Int) (1*2 ^ (f:Int).toNat)=((a|||2 ^ f:Nat):Int):=by
     rw[←ye];simp
    rw[e];exact j (a|||2 ^ f) _ (λx hx=>hb x (.tail _ hx)) q
  exact c fs 0 none hb q
 rcases hm with⟨rfl,rfl⟩ | ⟨a,rfl,hm⟩
 ·exact go _ trivial
 ·rcases hm with⟨b,rfl⟩ | ⟨k,hk,⟨b,rfl⟩ | ⟨b,rfl⟩⟩
  ·simp only[b]
   exact go _ b
  ·simp only[b,hk]
   exact go _ aa
  ·simp only[b,hk]
   exact go _ b
end
def CT.fit(m:Int):CT->Prop
 |.hav f=>0<=f/\f<m
 |.lck f=>0<=f/\f<m
 |.som n fs=>(1<=n/\n<=6)/\(0<fs.length/\fs.length<=6)/\fs.Nodup/\∀f∈fs,0<=f/\f<m
 |.led fs k=>(k<fs.length/\fs.length<=6)/\fs.Nodup/\∀f∈fs,0<=f/\f<m
theorem CT.fit_ok{m:Int}(hm:m<=120):∀{t:CT},t.fit m->t.ok
 |.hav f,h=>⟨h.1,Int.lt_of_lt_of_le h.2 hm⟩
 |.lck f,h=>⟨h.1,Int.lt_of_lt_of_le h.2 hm⟩
 |.som n fs,h=>⟨h.2.1,λf hf=>⟨(h.2.2.2 f hf).1,Int.lt_of_lt_of_le (h.2.2.2 f hf).2 hm⟩⟩
 |.led fs k,h=>⟨h.1,λf hf=>⟨(h.2.2 f hf).1,Int.lt_of_lt_of_le (h.2.2 f hf).2 hm⟩⟩
def ph:SpD:=λds M Q=>∃n:Int,ds=[.int n]/\(1<=n/\n<=6)/\Q (.bl true) M
def mD:SpD:=λds M Q=>∃(fs:Zi) (m:Int),ds=[.tup (intL fs),.int m]/\(0<fs.length/\fs.length<=6)/\fs.Nodup/\(∀f∈fs,0<=f/\f<m)/\∀M',Ext M M'->Q (.bl true) M'
def pi:SpD:=λds M Q=>∃(t:CT) (m:Int),ds=[t.told,.int m]/\t.fit m/\∀M',Ext M M'->Q (.bl true) M'
def rH:SpD:=λds M Q=>∃(h m:Int) (p:Addr) (ts:List CT),ds=[.tup [.int h,.ref p],.int m]/\M p=some (.lst (ts.map CT.told))/\(0<=h/\h<m)/\ts.length<=6/\(∀t∈ts,t.fit m)/\∀M',Ext M M'->Q (.bl true) M'
def lQ(j:Nat):Ss:=#v[.ret (.and (.fn 0 #v[.var 0]) (.and (.cmp .GtE (.var 0) (.int 1)) (.cmp .LtE (.var 0) (.glob j))))]
def mE:Ss:=#v[.ret (.and (.bi .all #v[.comp 1 (.fn 0 #v[.var 2,.var 1]) (.nm 2) (.seq (.var 0)) .no]) (.cmp .Eq (.lenSet (.var 0)) (.bi .len #v[.var 0])))]
def kr(j:Nat):Ss:=.cons (.ite (.or (.not (.val (.bi .isinst #v[.var 0,.ty "tuple"]))) (.or (.cmp .Lt (.bi .len #v[.var 0]) (.int 1)) (.cmp .Gt (.bi .len #v[.var 0]) (.glob j)))) #v[.ret (.bl false)] .nil) mE
def qD:Ss:=#v[.ret (.and (.cmp .Eq (.ix (.var 0) (.int 0)) (.str "lead")) (.and (.fn 0 #v[.ix (.var 0) (.int 1),.var 1]) (.fn 1 #v[.ix (.var 0) (.int 2),.bi .len #v[.ix (.var 0) (.int 1)]])))]
def lR:Ss:=.cons (.ite (.cmp .Eq (.ix (.var 0) (.int 0)) (.str "some")) #v[.ret (.and (.fn 2 #v[.ix (.var 0) (.int 1)]) (.fn 0 #v[.ix (.var 0) (.int 2),.var 1]))] .nil) qD
def lS:Ss:=.cons (.ite (.cmp .NotEq (.bi .len #v[.var 0]) (.int 3)) #v[.ret (.bl false)] .nil) lR
def eL:Ss:=.cons (.ite (.or (.cmp .Eq (.ix (.var 0) (.int 0)) (.str "have")) (.cmp .Eq (.ix (.var 0) (.int 0)) (.str "lack"))) #v[.ret (.and (.cmp .Eq (.bi .len #v[.var 0]) (.int 2)) (.fn 1 #v[.ix (.var 0) (.int 1),.var 1]))] .nil) lS
def fE:Ss:=.cons (.ite (.or (.not (.val (.bi .isinst #v[.var 0,.ty "tuple"]))) (.cmp .Lt (.bi .len #v[.var 0]) (.int 2))) #v[.ret (.bl false)] .nil) eL
def si:Ss:=#v[.ret (.bi .all #v[.comp 1 (.fn 0 #v[.var 3,.var 1]) (.nm 3) (.seq (.var 2)) .no])]
def sj(j:Nat):Ss:=.cons (.ite (.or (.not (.val (.bi .isinst #v[.var 2,.ty "list"]))) (.cmp .Gt (.bi .len #v[.var 2]) (.glob j))) #v[.ret (.bl false)] .nil) si
def nE(j:Nat):Ss:=.cons (.set 2 (.ix (.var 0) (.int 1))) (sj j)
def qE(j:Nat):Ss:=.cons (.ite (.or (.not (.val (.bi .isinst #v[.var 0,.ty "tuple"]))) (.or (.cmp .NotEq (.bi .len #v[.var 0]) (.int 2)) (.not (.val (.fn 1 #v[.ix (.var 0) (.int 0),.var 1]))))) #v[.ret (.bl false)] .nil) (nE j)
theorem yg{g:MH->Prop}{t:Tgt}{c:WT}{e:WE}{F:List D->MH->Prop}{f:D->D}{ok:DS->Prop}{M0:MH}:∀{xs:List D}(e_:List D) (σ:DS) (M:MH),ok σ->Ext M0 M ->
  (∀x∈xs,∀σ e_ rest M,ok σ->Ext M0 M->(∀a M',ok a->Ext M0 M'->ar g t c e F rest (e_++[f x]) a M')->ar g t c e F (x::rest) e_ σ M)->(∀M',Ext M0 M'->F (e_++xs.map f) M')->ar g t c e F xs e_ σ M
 |[],e_,σ,M,_,b,_,q=>by
  rw[YZ,ZA] at q;exact q M b
 |x::xs,e_,σ,M,h,b,st,q=>st x ZX σ e_ xs M h b λa M' h' d=>yg (e_++[f x]) a M' h' d (λy hy=>st y (.tail _ hy)) (by simpa using q)
theorem lT(t:String):isT t t=true:=by unfold isT;simp
theorem sF:∀(l:List D),blsD (l.map λ_=>D.bl true)=some (l.map λ_=>true)
 |[]=>rfl
 |a::l=>by rw[YJ,blsD,sF l];rfl
theorem yh{a:Type}(l:List a):(l.map λ_=>true).all id=true:=by simp
theorem C1{f:Int}{fs:Zi}:o0 (intL (f::fs))=none:=rfl
theorem qF:∀(fs:Zi),jN (intL fs)=some fs
 |[]=>rfl
 |f::fs=>by
  show Option.map _ (jN (intL fs))=_;rw[qF fs];rfl
theorem yi{a:Type}[DecidableEq a]:∀(ks l:List a),(l++ks).Nodup->ks.foldl addK l=l++ks
 |[],l,_=>by simp
 |k::ks,l,h=>by
  have hk:k∉l:=λz=>by
   have:=(List.nodup_append.1 h).2.2 k z k (.head _)
   exact this rfl
  rw[List.foldl_cons,addK,if_neg hk,yi ks (l++[k]) (by simpa using h)];simp
theorem zj{a:Type}[DecidableEq a](l:List a)(h:l.Nodup):(bf l).length=l.length:=by
 unfold bf;rw[yi l [] (by simpa using h)];simp
section
variable {cn:Cn}{ds:List D}{M:MH}{Q:DK}{j:Nat}
theorem yj(a:cn.F.getD 0 Yl=hU)(b:cn.G.getD j .non=.int 6)(h:ph ds M Q):wSs cn (lQ j) (fin Q) (ad [""] ds) M:=by
 obtain⟨n,rfl,hn,q⟩:=h;show wSs cn (lQ j) (fin Q) [some (.int n)] M;unfold lQ;simp! only[a,b];refine⟨n,rfl,?_⟩;have c:decide ((1:Int)<=n)=true:=YV hn.1;have d:decide (n<=(6:Int))=true:=YV hn.2;simp only[c,d,aH];exact q
theorem wK(b:cn.F.getD 0 Yl=cy)(c:cn.G.getD j .non=.int 6)(h:mD ds M Q):wSs cn (kr j) (fin Q) (ad ["",""] ds) M:=by
 obtain⟨fs,m,rfl,hl,g,hf,q⟩:=h;show wSs cn (kr j) (fin Q) [some (.tup (intL fs)),some (.int m)] M;unfold kr;simp! only[c,tyD,sD];refine⟨by decide,?_⟩;show Bif false _ _;have l:decide ((fs.length:Int)<1)=false:=ZP 'b';have n:decide ((6:Int)<(fs.length:Int))=false:=ZP 'b';simp only[l,n,ag];unfold mE;simp! only[b,List.cons_append,XD,List.replicate];refine cN (f:=λ_=>.bl true) (ok:=λσ=>∃v,σ=[some (.tup (intL fs)),some (.int m),v]) [] _ ⟨none,rfl⟩ ?_ ?_
 ·intro d hd σ e_ rest ⟨v,r⟩ k
  subst r;obtain⟨f,a,rfl⟩:=XV.1 hd;refine⟨f,m,rfl,?_⟩;have u:decide (0<=f)=true:=YV (hf f a).1;have y:decide (f<m)=true:=YV (hf f a).2;rw[u,y];exact⟨trivial,k _ ⟨_,rfl⟩⟩
 ·intro p hp
  rw[XD,aa];dsimp only;rw[sF];dsimp only;rw[yh];simp only[aH,seqL];have z:=Ext.new (o:=MO.lst ((intL fs).map λ_=>D.bl true)) hp;generalize updM M p (MO.lst ((intL fs).map λ_=>D.bl true))=M1 at *;cases fs with
  |nil=>exact absurd hl.1 (by simp)
  |cons f fs=>
   simp only[rD,C1,qF,sD];refine⟨by have:=hl.2;omega,⟨rfl,rfl,(by decide:(0:Nat)<=30)⟩,?_⟩;rw[zj _ g,ae,XF];exact q M1 z
theorem Bp(g:cn.F.getD 0 Yl=mD)(d:cn.F.getD 1 Yl=cy)(p:cn.F.getD 2 Yl=ph)(h:pi ds M Q):wSs cn fE (fin Q) (ad ["",""] ds) M:=by
 obtain⟨t,m,rfl,ho,q⟩:=h;show wSs cn fE (fin Q) [some t.told,some (.int m)] M;have l2:decide (((1+1:Nat):Int)<2)=false:=by decide
 have c:decide (((1+1+1:Nat):Int)<2)=false:=by decide
 have l:(((1+1:Nat):Int)==2)=true:=by decide
 have o:(((1+1+1:Nat):Int)==3)=true:=by decide
 cases t with
 |hav f=>
  unfold fE;simp_all! only[CT.told,tyD,YH,YU,Nat.zero_add];refine⟨by decide,?_⟩;simp only[lT,Bool.not_true,ag,l2,c];unfold eL;simp_all! only[CT.told,at0,at1,at2,sh_,YH,YU,Nat.zero_add,d];simp only[aH,l];refine⟨f,m,rfl,?_⟩;have a:decide (0<=f)=true:=YV ho.1;have b:decide (f<m)=true:=YV ho.2;rw[a,b];exact q M (Ext.refl M)
 |lck f=>
  unfold fE;simp_all! only[CT.told,tyD,YH,YU,Nat.zero_add];refine⟨by decide,?_⟩;simp only[lT,Bool.not_true,ag,l2,c];unfold eL;simp_all! only[CT.told,at0,at1,at2,s_lh,s_ll,YH,YU,Nat.zero_add,d];simp only[aH,l];refine⟨f,m,rfl,?_⟩;have a:decide (0<=f)=true:=YV ho.1;have b:decide (f<m)=true:=YV ho.2;rw[a,b];exact q M (Ext.refl M)
 |som n fs=>
  unfold fE;simp_all! only[CT.told,tyD,YH,YU,Nat.zero_add];refine⟨by decide,?_⟩;simp only[lT,Bool.not_true,ag,l2,c];unfold eL;simp_all! only[CT.told,at0,at1,at2,s_sh,s_sl];unfold lS;simp_all! only[CT.told,at0,at1,at2,YH,YU,Nat.zero_add];simp only[Bool.not_true,ag,o];unfold lR;simp_all! only[CT.told,at0,at1,at2,s_ss,g,p];refine⟨n,rfl,ho.1,?_⟩;show Bif true _ _;exact⟨fs,m,rfl,ho.2.1,ho.2.2.1,ho.2.2.2,q⟩
 |led fs k=>
  unfold fE;simp_all! only[CT.told,tyD,YH,YU,Nat.zero_add];refine⟨by decide,?_⟩;simp only[lT,Bool.not_true,ag,l2,c];unfold eL;simp_all! only[CT.told,at0,at1,at2,s_dh,s_dl];unfold lS;simp_all! only[CT.told,at0,at1,at2,YH,YU,Nat.zero_add];simp only[Bool.not_true,ag,o];unfold lR;simp_all! only[CT.told,at0,at1,at2,s_ds];unfold qD;simp_all! only[CT.told,at0,at1,at2,s_dd,g,d,sD];refine⟨fs,m,rfl,⟨by have:=ho.1.1;omega,ho.1.2⟩,ho.2.1,ho.2.2,λM1 r=>?_⟩;show Bif true _ _;refine⟨k,(fs.length:Int),rfl,?_⟩;have a:decide (0<=(k:Int))=true:=YV 'b';have b:decide ((k:Int)<(fs.length:Int))=true:=YV (by have:=ho.1.1;omega);rw[a,b];exact q M1 r
theorem C2(l:cn.F.getD 0 Yl=pi)(n:cn.F.getD 1 Yl=cy)(o:cn.G.getD j .non=.int 6)(h:rH ds M Q):wSs cn (qE j) (fin Q) (ad ["","",""] ds) M:=by
 obtain⟨hd,m,p,ts,rfl,b,c,hl,hf,q⟩:=h;show wSs cn (qE j) (fin Q) [some (.tup [.int hd,.ref p]),some (.int m),none] M;unfold qE;simp_all! only[List.set,tyD,at0,at1,YH,YU,Nat.zero_add,n];refine⟨by decide,?_⟩;show Bif false _ _;show Bif false _ _;refine⟨hd,m,rfl,?_⟩;have r:decide (0<=hd)=true:=YV c.1;have u:decide (hd<m)=true:=YV c.2;rw[r,u];show wSs cn (nE j) (fin Q) _ M;unfold nE;simp_all! only[List.set,at0,at1];unfold sj;simp_all! only[List.set,tyD,b,o,ZE];refine⟨by decide,?_⟩;show Bif false _ _;have y:decide ((6:Int)<(ts.length:Int))=false:=ZP 'b';simp only[y,ag];unfold si;simp_all! only[List.set,b,l,List.cons_append,XD,List.replicate];refine yg (f:=λ_=>.bl true) (M0:=M) (ok:=λσ=>∃v,σ=[some (.tup [.int hd,.ref p]),some (.int m),↑p,v]) [] _ M ⟨none,rfl⟩ (Ext.refl M) ?_ ?_
 ·intro d z σ e_ rest M1 ⟨v,A⟩ a k
  subst A;obtain⟨t,B,rfl⟩:=XV.1 z;exact⟨t,m,rfl,hf t B,λM2 g=>⟨(a.trans g) p _ b,k _ M2 ⟨_,rfl⟩ (a.trans g)⟩⟩
 ·intro M1 a p2 C
  rw[XD,aa];dsimp only;rw[sF];dsimp only;rw[yh];exact q _ (a.then C)
end
def af(rs:Zh):List D:=rs.map D.ref
def bF(c:CA)(M:MH)(rs:Zh)(ts:List CT):Prop:=Paired (λr (t:CT)=>M r=some (t.obj c)) rs ts
theorem bF.ext{c:CA}{M M':MH}{rs:Zh}{ts:List CT}(e:Ext M M')(h:bF c M rs ts):bF c M' rs ts:=nN (λr t q=>e r _ q) h
def ce(c:CA):SpD:=λds M Q=>∃(a:Addr) (h m:Int) (rs:Zh) (ts:List CT),ds=[.ref a,.int h,.int m]/\M a=some (.lst (af rs))/\bF c M rs ts/\(∀t∈ts,t.ok)/\∀M',Ext M M'->Q (.bl (ts.all (CT.carried h m))) M'
def dE(c:CA):SpD:=λds M Q=>∃(rs:Zh) (ts:List CT),ds=[.tup (af rs)]/\bF c M rs ts/\(∀t∈ts,t.ok)/\ts.length<=6/\∀p M',M p=none->Ext M M'->M' p=some (.lst (ts.flatMap CT.leans))->Q (.ref p) M'
def gL:Ss:=#v[.ret (.bl true)]
def gM:Ss:=#v[.ite (.not (.val (.mu "carried" (.var 3) #v[.var 1,.var 2]))) #v[.ret (.bl false)] .nil]
def jy:Ss:=.cons (.for (.nm 3) (.seq (.var 0)) gM) gL
def fK:Ss:=#v[.ret (.var 1)]
def fL:Ss:=#v[.expr (.mt .extend (.var 1) #v[.mu0 "leaning" (.var 2)])]
def kH:Ss:=.cons (.for (.nm 2) (.seq (.var 0)) fL) fK
def iF:Ss:=.cons (.set 1 (.lst .nil)) kH
theorem zk(t:CT):t.flds.lookup ("carried" : Str)=none:=by cases t<;>rfl
theorem zm(t:CT):t.flds.lookup ("leaning" : Str)=none:=by cases t<;>rfl
theorem C4{t:CT}(h:t.ok):t.leans.length<=7:=by
 cases t with
 |hav f=>exact(by decide:(1:Nat)<=7)
 |lck f=>exact(by decide:(1:Nat)<=7)
 |som n fs=>
  show(fs.map (cp false)).length<=7;rw[ZE];have:=h.1.2;omega
 |led fs k=>
  show((fs.take k).map (cp true)++[cp false (fs.getD k 0)]).length<=7;rw[ZJ,ZE,YS]
  have:=h.1.2
  simp only[YH,YU];omega
section
variable {cn:Cn}{c:CA}{ds:List D}{M:MH}{Q:DK}
theorem vt(n:∀t:CT,cn.T (c.at t.kind) "carried" = some (bP c t.kind))(h:ce c ds M Q):wSs cn jy (fin Q) (ad ["","","",""] ds) M:=by
 obtain⟨a,x,m,j,o,rfl,k,hc,ho,q⟩:=h;show wSs cn jy (fin Q) [↑a,some (.int x),some (.int m),none] M;unfold jy;simp! only[List.set,k];have f:∀(rs:Zh) (ts:List CT) (v:Zz) (M1:MH),Ext M M1->bF c M rs ts->(∀t∈ts,t.ok)->(∀M',Ext M M'->Q (.bl (ts.all (CT.carried x m))) M') ->
   aB (λM'=>M' a=some (.lst (af j))) (.nm 3) (wSs cn gM) { nx:=wSs cn gL (fin Q),rt:=Q } (af rs) [↑a,some (.int x),some (.int m),v] M1:=by
  intro rs ts v M1 d hc;induction hc generalizing v M1 with
  |nil=>
   intro _ q;rw[show af []=[] from rfl,aB];unfold gL;simp! only[];exact q M1 d
  |@cons r t rs ts p _ u=>
   intro ho q;rw[show af (r::rs)=.ref r::af rs from rfl,aB];have l:M1 r=some (.ins (c.at t.kind) t.flds):=d r _ p;unfold gM;simp! only[List.set,l,n,zk];refine⟨trivial,r,t,x,m,rfl,ho t (.head _),rfl,l,λM2 g=>?_⟩;simp only[XQ] at q;cases b:t.carried x m with
   |false=>
    rw[b] at q;exact q M2 (d.trans g)
   |true=>
    rw[b] at q;refine⟨(d.trans g) a _ k,u _ M2 (d.trans g) (λt' h'=>ho t' (.tail _ h')) ?_⟩;simpa using q
 exact f j o none M (Ext.refl M) hc ho q
theorem uB(l:∀t:CT,cn.T (c.at t.kind) "leaning" = some (bR c t.kind))(h:dE c ds M Q):wSs cn iF (fin Q) (ad ["","",""] ds) M:=by
 obtain⟨a,m,rfl,hc,ho,hl,q⟩:=h;show wSs cn iF (fin Q) [some (.tup (af a)),none,none] M;unfold iF;simp! only[List.set];intro p hp;unfold kH;simp! only[List.set];have b:∀(rs:Zh) (ts:List CT) (v:Zz) (M1:MH) (e_:List D),Ext M M1->M1 p=some (.lst e_)->e_.length+7*ts.length<=42->bF c M rs ts->(∀t∈ts,t.ok)->(∀M',Ext M M'->M' p=some (.lst (e_++ts.flatMap CT.leans))->Q (.ref p) M') ->
   aB (λ_=>True) (.nm 2) (wSs cn fL) { nx:=wSs cn fK (fin Q),rt:=Q } (af rs) [some (.tup (af a)),↑p,v] M1:=by
  intro rs ts v M1 e_ d f hl hc;induction hc generalizing v M1 e_ with
  |nil=>
   intro _ q;rw[show af []=[] from rfl,aB];unfold fK;simp! only[];exact q M1 d (by simpa using f)
  |@cons r t rs ts n _ o=>
   intro ho q;rw[show af (r::rs)=.ref r::af rs from rfl,aB];have g:M1 r=some (.ins (c.at t.kind) t.flds):=d r _ n;have j:=ho t (.head _);have B:=C4 j;unfold fL;simp! only[List.set,g,f,l,zm];refine⟨rfl,trivial,r,t,rfl,j,rfl,g,λp2 M2 C k u=>?_⟩;have y:=k p _ f;simp only[y,u];rw[YH] at hl;have G:(42:Nat)<=sizeLine:=by decide
   refine⟨by omega,trivial,?_⟩;have z:M p=none:=hp;have A:Ext M (updM M2 p (.lst (e_++t.leans))):=(d.trans k).put z;refine o _ _ (e_++t.leans) A aa (by rw[ZJ];omega) (λt' h'=>ho t' (.tail _ h')) λM' e' g'=>q M' e' ?_
   rw[List.flatMap_cons,←List.append_assoc];exact g'
 exact b a m none _ [] (Ext.new hp) aa (by simp;omega) hc ho λM' e' g'=>q p M' hp e' (by simpa using g')
end
def cb(M:MH)(ps:Zh)(L:Nat->MO):Prop:=∀f r,ps[f]?=some r->M r=some (L f)
theorem cb.ext{M M':MH}{ps:Zh}{L:Nat->MO}(e:Ext M M')(h:cb M ps L):cb M' ps L:=λf r q=>e r _ (h f r q)
theorem C5{b:Type}{ps:List b}{i j:Nat}{a:b}(nd:ps.Nodup)(c:ps[i]?=some a)(d:ps[j]?=some a):i=j:=
 (List.getElem?_inj (YB.mp c).1 nd).1 (c.trans d.symm)
theorem cb.put{M:MH}{ps:Zh}{L a:Nat->MO}{h:Nat}{r:Addr}{o:MO}(nd:ps.Nodup)(b:ps[h]?=some r)(s:cb M ps L)(d:a h=o)(g:∀f,f≠h->a f=L f):cb (updM M r o) ps a:=λf c q=>by
 by_cases e:f=h
 ·subst e
  rw[b] at q;cases q;rw[aa,d]
 ·have:c≠r:=λz=>by subst z;exact e (C5 nd q b)
  rw[ay this,g f e];exact s f c q
theorem rJ{ps:Zh}{f:Nat}{r:Addr}(h:ps[f]?=some r):atI (af ps) (f:Int)=↑r:=bW (by unfold af;rw[ZF,h];rfl)
theorem uC(m:Nat):(bA 0 (m:Int)).length=m:=by unfold bA;rw[ZE,ZI];omega
theorem jA(fs:Zj):(nats fs).length=fs.length:=by unfold nats;rw[ZE]
theorem pj{i:Nat}{c:WT}{e:WE}{o:MO}{F:List D->MH->Prop}(M0:MH)(hc:∀σ M Q,Q true M->c σ M Q)(k:∀σ M Q,(∀p,M p=none->Q (.ref p) (updM M p o))->e σ M Q):∀(xs:List D) (ps:Zh) (σ:DS) (M:MH),Ext M0 M->ps.Nodup->(∀p∈ps,M0 p=none/\M p=some o) ->
  (∀g M',Ext M0 M'->g.Nodup->g.length=ps.length+xs.length->(∀p∈g,M0 p=none/\M' p=some o)->F (af g) M')->ar (λ_=>True) (.nm i) c e F xs (af ps) σ M
 |[],ps,σ,M,j,nd,hp,q=>q ps M j nd rfl hp
 |x::xs,ps,σ,M,j,nd,hp,q=>by
  rw[ar];show c _ M _;refine hc _ _ _ ?_;rw[aH];refine k _ _ _ λp hn=>⟨trivial,?_⟩
  have:af ps++[D.ref p]=af (ps++[p]):=by unfold af;rw[ZK];rfl
  rw[this];refine pj M0 hc k xs (ps++[p]) _ _ (j.then hn) ?_ ?_ ?_
  ·rw[List.nodup_append]
   refine⟨nd,by simp,λa ha b hb z=>?_⟩;have hb:b=p:=by simpa using hb
   subst hb;subst z
   have:=(hp a ha).2
   rw[hn] at this;cases this
  ·intro a ha
   rw[YA] at ha;rcases ha with ha | ha
   ·exact⟨(hp a ha).1,(Ext.new hn) a _ (hp a ha).2⟩
   ·have ha:a=p:=by simpa using ha
    subst ha;exact⟨j.free hn,aa⟩
  ·intro g M' a b d f
   refine q g M' a b ?_ f;rw[d,ZJ,YH,YH,YU];omega
def ci(a:Zj)(k f:Nat):List Nat:=(List.range k).filter λr=>decide (a[r]?=some f)
theorem uD{a:Zj}{k h:Nat}(f:Nat)(e:a[k]?=some h):ci a (k+1) f=ci a k f++(if f=h then[k] else[]):=by
 unfold ci;rw[List.range_succ,List.filter_append];congr 1;by_cases q:f=h
 ·subst q;simp[e]
 ·have:h≠f:=λz=>q z.symm
  simp[e,q,this]
theorem yk(a:Zj)(k f:Nat):(ci a k f).length<=k:=by
 have:=List.length_filter_le (λr=>decide (a[r]?=some f)) (List.range k)
 rw[ZI] at this;exact this
def iG:SpD:=λds M Q=>∃(m:Nat) (a:Zj),ds=[⇑m,.tup (nats a)]/\m<=1000/\a.length<=1000/\(∀h∈a,h<m) /\
 ∀p ps M',M p=none->Ext M M'->M' p=some (.lst (af ps))->ps.length=m->cb M' ps (λf=>.lst (nats (ci a a.length f)))->Q (.ref p) M'
def fM:Ss:=#v[.ret (.var 2)]
def fN:Ss:=#v[.expr (.mt .append (.ix (.var 2) (.var 4)) #v[.var 3])]
def kI:Ss:=.cons (.for (.tp [3,4]) (.enum #v[.var 1]) fN) fM
def iH:Ss:=.cons (.setC 2 1 (.lst .nil) (.nm 5) (.rg1 #v[.var 0]) .no) kI
def cY:Ss:=#v[.ret (.comp 1 (.bk .list #v[.var 7]) (.nm 7) (.seq (.var 2)) .no)]
def fO:Ss:=#v[.ite (.not (.val (.var 6))) #v[.putIx (.ix (.var 2) (.var 5)) (.var 3) (.bl true)] .nil]
def fP:Ss:=#v[.for (.tp [5,6]) (.seq (.var 4)) fO]
def kJ:Ss:=.cons (.for (.tp [3,4]) (.enum #v[.var 1]) fP) cY
def dY:Ss:=.cons (.setC 2 1 .dnew (.nm 7) (.rg1 #v[.var 0]) .no) kJ
def CT.leanP:CT->List (Bool×Int)
 |.hav f=>[(false,f)]
 |.lck f=>[(true,f)]
 |.som _ fs=>fs.map λf=>(false,f)
 |.led fs k=>(fs.take k).map (λf=>(true,f))++[(false,fs.getD k 0)]
def pairD(x:Bool×Int):D:=cp x.1 x.2
theorem EG(t:CT):t.leans=t.leanP.map pairD:=by
 cases t with
 |hav f=>rfl
 |lck f=>rfl
 |som n fs=>show fs.map (cp false)=(fs.map λf=>(false,f)).map pairD;rw[ZL];rfl
 |led fs k=>show(fs.take k).map (cp true)++[cp false (fs.getD k 0)]=((fs.take k).map (λf=>(true,f))++[(false,fs.getD k 0)]).map pairD;rw[ZK,ZL];rfl
theorem Bq(ts:List CT):ts.flatMap CT.leans=(ts.flatMap CT.leanP).map pairD:=by
 rw[List.map_flatMap];congr 1
 funext t;exact EG t
theorem getD_mem{fs:Zi}{k:Nat}(h:k<fs.length):fs.getD k 0∈fs:=by
 have:fs.getD k 0=fs[k]:=by simp[List.getD,ZC h]
 rw[this];exact List.getElem_mem h
theorem wn{m:Int}{t:CT}(h:t.fit m):∀x∈t.leanP,0<=x.2/\x.2<m:=by
 cases t with
 |hav f=>
  intro x hx;have:x=(false,f):=by simpa [CT.leanP] using hx
  subst this;exact h
 |lck f=>
  intro x hx;have:x=(true,f):=by simpa [CT.leanP] using hx
  subst this;exact h
 |som n fs=>
  intro x hx;obtain⟨f,hf,rfl⟩:=XV.1 hx;exact h.2.2.2 f hf
 |led fs k=>
  intro x hx;rcases YA.1 hx with hx | hx
  ·obtain⟨f,hf,rfl⟩:=XV.1 hx
   exact h.2.2 f (List.mem_of_mem_take hf)
  ·have:x=(false,fs.getD k 0):=by simpa using hx
   subst this;exact h.2.2 _ (getD_mem h.1.1)
def ba(l:Zs)(f:Nat):Bool:=decide ((false,(f:Int))∈l)
def bM(a:List (List (Bool×Int)))(k f:Nat):List Nat:=(List.range k).filter λr=>ba (a.getD r []) f
theorem Br{a:List (List (Bool×Int))}{k:Nat}{l:Zs}(f:Nat)(e:a[k]?=some l):bM a (k+1) f=bM a k f++(if ba l f=true then[k] else[]):=by
 unfold bM;rw[List.range_succ,List.filter_append];congr 1;have b:a.getD k []=l:=by rw[List.getD_eq_getElem?_getD,e];rfl
 rw[XU,b,List.filter_nil]
theorem yl{a:List (List (Bool×Int))}{k f r:Nat}(h:r∈bM a k f):r<k:=ZV.1 (ZU.1 h).1
theorem EH(a:List (List (Bool×Int)))(k f:Nat):(bM a k f).length<=k:=by
 have:=List.length_filter_le (λr=>ba (a.getD r []) f) (List.range k)
 rw[ZI] at this;exact this
def rowK(rs:Zj):List (Key×D):=rs.map λ(r:Nat)=>(.inl (r:Int),.bl true)
theorem C7(rs:Zj):keysOf (rowK rs)=nats rs:=by unfold keysOf rowK nats;rw[ZL];rfl
theorem EI(rs:Zj)(r:Nat):((rowK rs).any λkv=>decide (kv.1=(.inl (r:Int):Key)))=decide (r∈rs):=by
 induction rs with
 |nil=>simp[rowK]
 |cons a rs b=>
  have:rowK (a::rs)=(.inl (a:Int),.bl true)::rowK rs:=rfl
  rw[this,XH,b];by_cases e:a=r
  ·subst e;simp
  ·have c:r≠a:=λz=>e z.symm
   have d:¬((a:Int)=(r:Int)):=by omega
   simp[c,d]
theorem ym(rs:Zj)(r:Nat):putD (rowK rs) (.inl (r:Int)) (.bl true)=rowK (if r∈rs then rs else rs++[r]):=by
 unfold putD;rw[EI];by_cases e:r∈rs
 ·rw[if_pos (YV e),if_pos e]
  unfold rowK;rw[ZL];refine ZM λa _=>?_
  show(if(Sum.inl (a:Int):Key)=.inl (r:Int) then _ else _)=_;split<;>rfl
 ·rw[if_neg (by simpa using e),if_neg e]
  unfold rowK;rw[ZK];rfl
def iI:SpD:=λds M Q=>∃(m:Nat) (b:Addr) (rs:Zh) (a:List (List (Bool×Int))),ds=[⇑m,.ref b]/\M b=some (.lst (af rs))/\rs.length=a.length/\(∀(k:Nat) (r:Addr) (l:Zs),rs[k]?=some r->a[k]?=some l->M r=some (.lst (l.map pairD)))/\m<=1000/\a.length<=1000/\(∀l∈a,∀x∈l,0<=x.2/\x.2<(m:Int)) /\
 ∀p ps M',M p=none->Ext M M'->M' p=some (.lst (af ps))->ps.length=m->cb M' ps (λf=>.lst (nats (bM a a.length f)))->Q (.ref p) M'
section
variable {cn:Cn}{ds:List D}{M:MH}{Q:DK}
theorem uE(h:iG ds M Q):wSs cn iH (fin Q) (ad ["","","","",""] ds) M:=by
 obtain⟨m,a,rfl,hm,hl,z,q⟩:=h;show wSs cn iH (fin Q) [~~~m,some (.tup (nats a)),none,none,none] M;unfold iH;simp! only[List.cons_append,XD,List.replicate];refine⟨⟨by omega,by omega⟩,?_⟩;refine pj (o:=.lst []) M (λ_ _ _ h=>h) (λ_ _ _ h=>h) (bA 0 (m:Int)) [] _ M (Ext.refl M) .nil (λp hp=>nomatch hp) ?_;intro ps M1 A nd B j p hp;rw[uC,YU,Nat.zero_add] at B;have J:M p=none:=A.free hp;have K:∀r∈ps,r≠p:=λr b=>aR (j r b).2 hp
 have L:Ext M (updM M1 p (.lst (af ps))):=A.then hp;have O:updM M1 p (MO.lst (af ps)) p=some (.lst (af ps)):=aa;have s2:cb (updM M1 p (MO.lst (af ps))) ps (λf=>.lst (nats (ci a 0 f))):=λf r b=>(Ext.new hp) r _ (j r (YT b)).2
 generalize updM M1 p (MO.lst (af ps))=M2 at *;unfold kI;simp! only[List.set];have l:∀(rest:Zj) (k:Nat) (n u:Zz) (c:MH),a.drop k=rest->k<=a.length->Ext M c->c p=some (.lst (af ps))->cb c ps (λf=>.lst (nats (ci a k f))) ->
   aB (λ_=>True) (.tp [3,4]) (wSs cn fN) { nx:=wSs cn fM (fin Q),rt:=Q } (aX (k:Int) (nats rest)) [~~~m,some (.tup (nats a)),↑p,n,u] c:=by
  intro rest;induction rest with
  |nil=>
   intro k n u c hd P y d g;rw[show nats []=[] from rfl,aX,aB];unfold fM;simp! only[];have hk:a.length<=k:=by
    have:=congrArg List.length hd
    rw[YX,YU] at this;omega
   obtain rfl:k=a.length:=by omega
   exact q p ps c J y d B g
  |cons h rest R=>
   intro k n u c hd P y d g;have hk:a[k]?=some h:=by
    have:=congrArg (·[0]?) hd
    simpa using this
   have S:a.drop (k+1)=rest:=by
    have:=congrArg (List.drop 1) hd
    rw[List.drop_drop] at this;simpa using this
   have C:h∈a:=YT hk;have T:k<a.length:=(YB.mp hk).1;obtain⟨r,b⟩:∃r,ps[h]?=some r:=⟨ps[h]'(by have:=z h C;omega),ZC (by have:=z h C;omega)⟩;have G:=YT b;rw[show nats (h::rest)=⇑h::nats rest from rfl,aX,aB];unfold fN;simp! only[List.set,d,rJ b,g h r b,jA];have hsz:(1000:Nat)<sizeLine:=by decide
   have U:=yk a k h;refine⟨rfl,rfl,by omega,trivial,?_⟩;rw[show((k:Int)+1)=((k+1:Nat):Int) by simp];refine R (k+1) _ _ _ S T (y.put (j r G).1) ?_ ?_
   ·rw[ay (K r G).symm];exact d
   ·refine cb.put nd b g ?_ ?_
    ·show MO.lst _=_
     rw[uD h hk,if_pos rfl];unfold nats;rw[ZK];rfl
    ·intro f hf
     show MO.lst _=_;rw[uD f hk,if_neg hf,ZA]
 exact l a 0 none none M2 rfl (YL _) L O s2
def iJ(a:List (List (Bool×Int)))(k:Nat)(b:Zs)(f:Nat):MO:=.dic (rowK (bM a k f++(if ba b f=true then[k] else[])))
theorem zn(a:Zs)(g:Int)(f:Nat):ba (a++[(true,g)]) f=ba a f:=by
 unfold ba;congr 1;simp
theorem zo(a:Zs)(f:Nat):ba (a++[(false,(f:Int))]) f=true:=by
 unfold ba;simp
theorem yn(a:Zs){g f:Nat}(h:f≠g):ba (a++[(false,(g:Int))]) f=ba a f:=by
 unfold ba;congr 1;have:¬(f:Int)=(g:Int):=by omega
 simp[this]
theorem C9(a:List (List (Bool×Int)))(k:Nat)(b:Zs)(g:Nat):MO.dic (putD (rowK (bM a k g++(if ba b g=true then[k] else[]))) (.inl (k:Int)) (.bl true))=iJ a k (b++[(false,(g:Int))]) g:=by
 unfold iJ;rw[ym,zo,if_pos rfl];have hk:k∉bM a k g:=λz=>absurd (yl z) (ZS _)
 by_cases e:ba b g=true
 ·rw[if_pos e,if_pos (by simp)]
 ·rw[if_neg e,ZA,if_neg hk]
theorem uF(h:iI ds M Q):wSs cn dY (fin Q) (ad ["","","","","","",""] ds) M:=by
 obtain⟨m,C,rs,a,rfl,Kq,Ny,OX,hm,hl,hf,q⟩:=h;show wSs cn dY (fin Q) [~~~m,↑C,none,none,none,none,none] M;unfold dY;simp! only[List.cons_append,XD,List.replicate];refine⟨⟨by omega,by omega⟩,?_⟩;refine pj (o:=.dic []) M (λ_ _ _ h=>h) (λ_ _ _ h=>h) (bA 0 (m:Int)) [] _ M (Ext.refl M) .nil (λp hp=>nomatch hp) ?_;intro ps M1 e1 nd h_ Nx p hp;rw[uC,YU,Nat.zero_add] at h_;have KI:M p=none:=e1.free hp;have E_:∀r∈ps,r≠p:=λr G=>aR (Nx r G).2 hp
 have e2:Ext M (updM M1 p (.lst (af ps))):=e1.then hp;have g2:updM M1 p (MO.lst (af ps)) p=some (.lst (af ps)):=aa;have s2:cb (updM M1 p (MO.lst (af ps))) ps (iJ a 0 []):=λf r G=>(Ext.new hp) r _ (Nx r (YT G)).2
 generalize updM M1 p (MO.lst (af ps))=M2 at *;unfold kJ;simp! only[List.set,e2 C _ Kq];have last:∀(K L j n:Zz) (c:MH),Ext M c->c p=some (.lst (af ps))->cb c ps (iJ a a.length [])->wSs cn cY (fin Q) [~~~m,↑C,↑p,K,L,j,n] c:=by
  intro K L j n c O T V;unfold cY;simp! only[T,List.cons_append,XD,List.replicate,dBk,dD];have ap:∀(rest:Zh) (k:Nat) (y:Zh) (v:Zz) (d:MH),ps.drop k=rest->k<=ps.length->y.length=k->Ext c d->cb d y (λf=>.lst (nats (bM a a.length f))) ->
    ar (λM'=>M' p=some (.lst (af ps))) (.nm 7) (wTo cn .no) (wE cn (.bk .list (.cons (.var 7) .nil))) (λds M'=>∀p,M' p=none->Q (.ref p) (updM M' p (.lst ds))) (af rest) (af y) [~~~m,↑C,↑p,K,L,j,n,v] d:=by
   intro rest;induction rest with
   |nil=>
    intro k y v d hd OV hq u J;rw[show af []=[] from rfl,ar];intro p2 P;have hk:ps.length<=k:=by
     have:=congrArg List.length hd
     rw[YX,YU] at this;omega
    exact q p2 y _ ((O.trans u).free P) ((O.trans u).then P) aa 'b' (J.ext (Ext.new P))
   |cons r rest ih=>
    intro k y v d hd OV hq u J;have hk:ps[k]?=some r:=by
     have:=congrArg (·[0]?) hd
     simpa using this
    have Ka:ps.drop (k+1)=rest:=by
     have:=congrArg (List.drop 1) hd
     rw[List.drop_drop] at this;simpa using this
    have OW:k<ps.length:=(YB.mp hk).1;have V5:d r=some (.dic (rowK (bM a a.length k))):=by
     rw[u r _ (V k r hk)];unfold iJ;rw[if_neg (by unfold ba;simp),ZA]
    rw[show af (r::rest)=.ref r::af rest from rfl,ar];simp! only[List.set,dBk,dD,V5,rdD,C7];intro p2 P;refine⟨(u.trans (Ext.new P)) p _ T,?_⟩;have:af y++[D.ref p2]=af (y++[p2]):=by unfold af;rw[ZK];rfl
    rw[this];refine ih (k+1) (y++[p2]) _ _ Ka OW (by rw[ZJ,hq];rfl) (u.then P) λf R A=>?_
    by_cases V6:f<y.length
    ·rw[ZD V6] at A
     exact(Ext.new P) R _ (J f R A)
    ·rw[ZG 'b'] at A
     have hz:f-y.length=0:=by
      have:=(YB.mp A).1
      simp only[YH,YU] at this;omega
     rw[hz] at A;have:p2=R:=by simpa using A
     subst this;obtain rfl:f=k:=by omega
     exact aa
  exact ap ps 0 [] none c rfl (YL _) rfl (Ext.refl c) (λf r G=>by simp at G)
 have outer:∀(rest:Zh) (k:Nat) (K L j n:Zz) (c:MH),rs.drop k=rest->k<=rs.length->Ext M c->c p=some (.lst (af ps))->cb c ps (iJ a k []) ->
   aB (λM'=>M' C=some (.lst (af rs))) (.tp [3,4]) (wSs cn fP) { nx:=wSs cn cY (fin Q),rt:=Q } (aX (k:Int) (af rest)) [~~~m,↑C,↑p,K,L,j,n] c:=by
  intro rest;induction rest with
  |nil=>
   intro k K L j n c hd OV O T V;rw[show af []=[] from rfl,aX,aB];have hk:rs.length<=k:=by
    have:=congrArg List.length hd
    rw[YX,YU] at this;omega
   obtain rfl:k=a.length:=by omega
   exact last K L j n c O T V
  |cons r rest ih=>
   intro k K L j n c hd OV O T V;have hk:rs[k]?=some r:=by
    have:=congrArg (·[0]?) hd
    simpa using this
   have Ka:rs.drop (k+1)=rest:=by
    have:=congrArg (List.drop 1) hd
    rw[List.drop_drop] at this;simpa using this
   have OW:k<rs.length:=(YB.mp hk).1;obtain⟨l,hlk⟩:∃l,a[k]?=some l:=⟨a[k]' 'b',ZC 'b'⟩;have G:=OX k r l hk hlk;have N6:=hf l (YT hlk);rw[show af (r::rest)=.ref r::af rest from rfl,aX,aB];unfold fP;simp! only[List.set,O r _ G];refine⟨rfl,?_⟩;have S:∀(U B:Zs) (j n:Zz) (d:MH),l=B++U->Ext M d->d p=some (.lst (af ps))->cb d ps (iJ a k B)->∀(N:DS->MH->Prop),
     (∀w5 w6 M5,Ext M M5->M5 p=some (.lst (af ps))->cb M5 ps (iJ a k l)->N [~~~m,↑C,↑p,~~~k,↑r,w5,w6] M5) ->
     ∀E:EndsD,E.nx=N ->
     aB (λM'=>M' r=some (.lst (l.map pairD))) (.tp [5,6]) (wSs cn fO) E (U.map pairD) [~~~m,↑C,↑p,~~~k,↑r,j,n] d:=by
    intro U;induction U with
    |nil=>
     intro B j n d W u Y J N hN E hE;rw[ZA] at W;subst W;rw[YZ,aB,hE];exact hN j n d u Y J
    |cons x U OZ=>
     intro B j n d W u Y J N hN E hE;obtain⟨b,gi⟩:=x;have hx:=N6 (b,gi) (by rw[W];simp);obtain⟨g,rfl⟩:∃g:Nat,gi=(g:Int):=⟨gi.toNat,by have:=hx.1;simp only at this;omega⟩;have V7:g<ps.length:=by have:=hx.2;simp only at this;omega
     obtain⟨z,hz⟩:∃z,ps[g]?=some z:=⟨ps[g],ZC V7⟩;have UC:=YT hz;have O0:l=(B++[(b,(g:Int))])++U:=by rw[W];simp
     rw[YJ,show pairD (b,(g:Int))=.tup [⇑g,.bl b] from rfl,aB];unfold fO;cases b with
     |true=>
      simp! only[List.set,Bool.not_true];refine⟨rfl,u r _ G,OZ _ _ _ d O0 u Y (λf R A=>?_) N hN E hE⟩;rw[J f R A];unfold iJ;rw[zn]
     |false=>
      have V8:d z=some (.dic (rowK (bM a k g++(if ba B g=true then[k] else[])))):=J g z hz;simp! only[List.set,Bool.not_false,Y,rJ hz,V8];have hsz:(2000:Nat)<sizeLine:=by decide
      have P':=EH a k g;refine⟨rfl,?_,?_⟩
      ·unfold rowK
       rw[ZE,ZJ];have:(if ba B g=true then[k] else[]).length<=1:=by split<;>simp
       omega
      have Z:=u.put (o:=.dic (putD (rowK (bM a k g++(if ba B g=true then[k] else[]))) (.inl (k:Int)) (.bl true))) (Nx z UC).1;refine⟨Z r _ G,OZ _ _ _ _ O0 Z ?_ (cb.put nd hz J ?_ ?_) N hN E hE⟩
      ·rw[ay (E_ z UC).symm];exact Y
      ·exact(C9 a k B g).symm
      ·intro f V9
       unfold iJ;rw[yn B V9]
   refine S l [] j n c rfl O T V _ ?_ _ rfl;intro w5 w6 M5 Z g5 s5;refine⟨Z C _ Kq,?_⟩;rw[show((k:Int)+1)=((k+1:Nat):Int) by simp];refine ih (k+1) _ _ _ _ M5 Ka OW Z g5 λf R A=>?_
   rw[s5 f R A];unfold iJ;rw[Br f hlk,if_neg (show ¬ba [] f=true by unfold ba;simp),ZA]
 exact outer rs 0 none none none none M2 rfl (YL _) e2 g2 s2
end
abbrev Row:=Nat×List CT
abbrev Zy:=List Row
structure RowsOk (m:Nat) (a_:Zy):Prop where
 most:m<=120
 few:a_.length<=400
 fit:∀x∈a_,x.1<m/\x.2.length<=6/\∀t∈x.2,t.fit (m:Int)
def cj(x:Row):List (Bool×Int):=x.2.flatMap CT.leanP
def aE(a_:Zy):List Nat:=a_.map (·.1)
def aQ(k_:Zt):List D:=k_.map λrs=>.tup (af rs)
def hid(a:Addr)(M:MH):MH:=λb=>if b=a then none else M b
theorem lm(a:Addr)(M:MH)(o:MO):hid a (updM M a o)=hid a M:=by
 funext b;unfold hid updM;split<;>rfl
theorem yo{a b:Addr}{M:MH}(h:b≠a):hid a M b=M b:=if_neg h
theorem bO{a:Addr}{M M':MH}(e:Ext M M'):Ext (hid a M) (hid a M'):=λb o q=>by
 unfold hid at q ⊢;split at q
 ·cases q
 ·rename_i n
  rw[if_neg n];exact e b o q
theorem lU(a:Addr)(M:MH):Ext (hid a M) M:=λb o q=>by
 unfold hid at q;split at q
 ·cases q
 ·exact q
theorem hZ{a b S:Addr}{M:MH}{fs:List (Str×D)}{xs:List D}(ha:M a=some (.ins S fs))(hb:M b=some (.lst xs)):hid a M b=some (.lst xs):=by
 rw[yo]
 ·exact hb
 ·intro z;subst z;rw[ha] at hb;cases hb
theorem GN{a b S:Addr}{M M':MH}{fs:List (Str×D)}{o:MO}(ha:M a=some (.ins S fs))(hb:M b=none)(h:M' b=some o):hid a M' b=some o:=by
 rw[yo]
 ·exact h
 ·intro z;subst z;rw[ha] at hb;cases hb
def bq(M:MH)(o_:List D)(a_:Zy):Prop:=Paired (λd (x:Row)=>∃q,d=.tup [⇑x.1,.ref q]/\M q=some (.lst (x.2.map CT.told))) o_ a_
theorem bq.ext{M M':MH}{o_:List D}{a_:Zy}(e:Ext M M')(h:bq M o_ a_):bq M' o_ a_:=nN (λ_ _ ⟨q,a,b⟩=>⟨q,a,e q _ b⟩) h
theorem bq.hid{a S:Addr}{M:MH}{fs:List (Str×D)}{o_:List D}{a_:Zy}(ha:M a=some (.ins S fs))(h:bq M o_ a_):bq (SH.hid a M) o_ a_:=nN (λ_ _ ⟨q,a,b⟩=>⟨q,a,hZ ha b⟩) h
def eM(c:CA)(M:MH)(k_:Zt)(a_:Zy):Prop:=Paired (λrs (x:Row)=>bF c M rs x.2) k_ a_
theorem eM.ext{c:CA}{M M':MH}{k_:Zt}{a_:Zy}(e:Ext M M')(h:eM c M k_ a_):eM c M' k_ a_:=nN (λ_ _ q=>bF.ext e q) h
def c9(m:Nat)(a_:Zy)(k_:Zt)(p1 p2 p3:Addr):List (Str×D):=[("many",⇑m),("heads",.tup (nats (aE a_))),("conds",.tup (aQ k_)),("headed",.ref p1),("leanings",.ref p2),("helped",.ref p3)]
def rK(M:MH)(ps:Zh)(a_:Zy):Prop:=ps.length=a_.length/\∀(k:Nat) (r:Addr) (x:Row),ps[k]?=some r->a_[k]?=some x->M r=some (.lst ((cj x).map pairD))
structure SheetAt (c:CA) (S:Addr) (M:MH) (a:Addr) (m:Nat) (a_:Zy):Prop where
 ok:RowsOk m a_
 ex:∃(k_:Zt) (p1 p2 p3:Addr) (z_ x_ B':Zh),M a=some (.ins S (c9 m a_ k_ p1 p2 p3))/\eM c M k_ a_ /\
  (M p1=some (.lst (af z_))/\z_.length=m/\cb M z_ (λf=>.lst (nats (ci (aE a_) a_.length f)))) /\
  (M p2=some (.lst (af x_))/\rK M x_ a_) /\
  (M p3=some (.lst (af B'))/\B'.length=m/\cb M B' (λf=>.lst (nats (bM (a_.map cj) a_.length f))))
theorem SheetAt.ext{c:CA}{S:Addr}{M M':MH}{a:Addr}{m:Nat}{a_:Zy}(e:Ext M M')(h:SheetAt c S M a m a_):SheetAt c S M' a m a_:=by
 obtain⟨ok,k_,p1,p2,p3,z_,x_,B',d,f,⟨g,j,l⟩,⟨n,b⟩,o,p,u⟩:=h;exact⟨ok,k_,p1,p2,p3,z_,x_,B',e _ _ d,f.ext e,⟨e _ _ g,j,l.ext e⟩,⟨e _ _ n,b.1,λk r x y z=>e _ _ (b.2 k r x y z)⟩,e _ _ o,p,u.ext e⟩
def fX:List Str:=["many","heads","conds","headed","leanings","helped"]
def jP(c:CA)(S:Addr):SpD:=λds M Q=>∃(a:Addr) (m:Nat) (b:Addr) (o_:List D) (a_:Zy),ds=[.ref a,⇑m,.ref b]/\M a=some (.ins S [])/\M b=some (.lst o_)/\bq M o_ a_/\RowsOk m a_ /\
 ∀M',ExtBut a M M'->SheetAt c S M' a m a_->Q .non M'
def cE(c:CA)(S:Addr):SpD:=λds M Q=>∃(a:Addr) (m:Nat) (a_:Zy),ds=[.ref a]/\SheetAt c S M a m a_/\Q (⇑m) M
def eO(c:CA)(S:Addr):SpD:=λds M Q=>∃(a:Addr) (m:Nat) (a_:Zy) (f:Nat),ds=[.ref a,⇑f]/\SheetAt c S M a m a_/\f<m/\∀p M',M p=none->Ext M M'->M' p=some (.lst (nats (ci (aE a_) a_.length f)))->Q (.ref p) M'
def eQ(c:CA)(S:Addr):SpD:=λds M Q=>∃(a:Addr) (m:Nat) (a_:Zy) (f:Nat),ds=[.ref a,⇑f]/\SheetAt c S M a m a_/\f<m/\∀p M',M p=none->Ext M M'->M' p=some (.lst (nats (bM (a_.map cj) a_.length f)))->Q (.ref p) M'
def eR(c:CA)(S:Addr):SpD:=λds M Q=>∃(a:Addr) (m:Nat) (a_:Zy) (r:Nat) (x:Row),ds=[.ref a,⇑r]/\SheetAt c S M a m a_/\a_[r]?=some x/\Q (⇑x.1) M
def di(c:CA)(S:Addr):SpD:=λds M Q=>∃(a:Addr) (m:Nat) (a_:Zy) (r:Nat) (x:Row),ds=[.ref a,⇑r]/\SheetAt c S M a m a_/\a_[r]?=some x/\∀p rs M',M p=none->Ext M M'->M' p=some (.lst (af rs))->bF c M' rs x.2->Q (.ref p) M'
def fQ:Ss:=#v[.ret (.fld (.var 0) "many")]
def fR:Ss:=#v[.ret (.bk .list #v[.ix (.fld (.var 0) "headed") (.var 1)])]
def dr:Ss:=#v[.ret (.bk .list #v[.ix (.fld (.var 0) "helped") (.var 1)])]
def gN:Ss:=#v[.ret (.ix (.fld (.var 0) "heads") (.var 1))]
def fS:Ss:=#v[.ret (.bk .list #v[.ix (.fld (.var 0) "conds") (.var 1)])]
section
variable {m:Nat}{a_:Zy}{k_:Zt}{p1 p2 p3:Addr}
theorem GO:(c9 m a_ k_ p1 p2 p3).lookup ("many" : Str)= ~~~m:=rfl
theorem sG:(c9 m a_ k_ p1 p2 p3).lookup ("heads" : Str)=some (.tup (nats (aE a_))):=rfl
theorem yp:(c9 m a_ k_ p1 p2 p3).lookup ("conds" : Str)=some (.tup (aQ k_)):=rfl
theorem Da:(c9 m a_ k_ p1 p2 p3).lookup ("headed" : Str)=↑p1:=rfl
theorem Db:(c9 m a_ k_ p1 p2 p3).lookup ("helped" : Str)=↑p3:=rfl
end
section
variable {cn:Cn}{c:CA}{S:Addr}{ds:List D}{M:MH}{Q:DK}
theorem zp(b:∀f∈fX,cn.O S f)(h:cE c S ds M Q):wSs cn fQ (fin Q) (ad [""] ds) M:=by
 obtain⟨a,m,a_,rfl,⟨ok,k_,p1,p2,p3,z_,x_,B',d,-⟩,q⟩:=h;show wSs cn fQ (fin Q) [↑a] M;unfold fQ;simp! only[d,GO];exact⟨b _ 'f',q⟩
theorem zq(b:∀f∈fX,cn.O S f)(h:eO c S ds M Q):wSs cn fR (fin Q) (ad ["",""] ds) M:=by
 obtain⟨a,m,a_,f,rfl,⟨ok,k_,p1,p2,p3,z_,x_,B',d,-,⟨g,k,j⟩,-,-⟩,hf,q⟩:=h;show wSs cn fR (fin Q) [↑a,~~~f] M;have hz:z_[f]?=some (z_[f]' 'b'):=ZC 'b';unfold fR;simp! only[d,Da,g,rJ hz,dBk,dD,j f _ hz,rdD,rdL];exact⟨b _ 'f',λp hp=>q p _ hp (Ext.new hp) aa⟩
theorem vv(b:∀f∈fX,cn.O S f)(h:eQ c S ds M Q):wSs cn dr (fin Q) (ad ["",""] ds) M:=by
 obtain⟨a,m,a_,f,rfl,⟨ok,k_,p1,p2,p3,z_,x_,B',d,-,-,-,g,k,j⟩,hf,q⟩:=h;show wSs cn dr (fin Q) [↑a,~~~f] M;have hz:B'[f]?=some (B'[f]' 'b'):=ZC 'b';unfold dr;simp! only[d,Db,g,rJ hz,dBk,dD,j f _ hz,rdD,rdL];exact⟨b _ 'f',λp hp=>q p _ hp (Ext.new hp) aa⟩
theorem Bs(b:∀f∈fX,cn.O S f)(h:eR c S ds M Q):wSs cn gN (fin Q) (ad ["",""] ds) M:=by
 obtain⟨a,m,a_,r,x,rfl,⟨ok,k_,p1,p2,p3,z_,x_,B',d,-⟩,g,q⟩:=h;show wSs cn gN (fin Q) [↑a,~~~r] M;have hz:atI (nats (aE a_)) (r:Int)= ~~~x.1:=bW (by unfold nats aE;rw[ZF,ZF,g];rfl);unfold gN;simp! only[d,sG,hz];exact⟨b _ 'f',q⟩
theorem Ae{f d:Type}{F:f->d->Prop}:∀{l:List f}{m:List d}{i:Nat}{b:d},Paired F l m->m[i]?=some b->∃a,l[i]?=some a/\F a b
 |_,_,_,_,.nil,h=>by simp at h
 |_,_,0,_,.cons r _,h=>by
  rw[List.getElem?_cons_zero] at h;cases h;exact⟨_,rfl,r⟩
 |_,_,i+1,_,.cons _ t,h=>Ae (i:=i) t (by simpa using h)
theorem zr(b:∀f∈fX,cn.O S f)(h:di c S ds M Q):wSs cn fS (fin Q) (ad ["",""] ds) M:=by
 obtain⟨a,m,a_,r,x,rfl,⟨ok,k_,p1,p2,p3,z_,x_,B',d,g,-⟩,j,q⟩:=h;show wSs cn fS (fin Q) [↑a,~~~r] M;obtain⟨rs,k,hc⟩:=Ae g j;have hz:atI (aQ k_) (r:Int)=some (.tup (af rs)):=bW (by unfold aQ;rw[ZF,k];rfl);unfold fS;simp! only[d,yp,hz,dBk,dD];exact⟨b _ 'f',λp hp=>q p rs _ hp (Ext.new hp) aa (hc.ext (Ext.new hp))⟩
end
def mF:Ss:=#v[.setF (.var 0) "helped" (.fn 0 #v[.var 1,.fld (.var 0) "leanings"])]
def mG:Ss:=.cons (.setF (.var 0) "leanings" (.comp 1 (.fn 1 #v[.var 5]) (.nm 5) (.seq (.fld (.var 0) "conds")) .no)) mF
def mH:Ss:=.cons (.setF (.var 0) "headed" (.fn 2 #v[.var 1,.fld (.var 0) "heads"])) mG
def mI:Ss:=.cons (.setF (.var 0) "conds" (.bi .tuple #v[.comp 1 (.bi .tuple #v[.comp 1 (.fn 3 #v[.var 6]) (.nm 6) (.seq (.ix (.var 5) (.int 1))) .no]) (.nm 5) (.seq (.var 2)) .no])) mH
def mJ:Ss:=.cons (.setF (.var 0) "heads" (.bi .tuple #v[.comp 1 (.ix (.var 5) (.int 0)) (.nm 5) (.seq (.var 2)) .no])) mI
def dZ:Ss:=.cons (.setF (.var 0) "many" (.var 1)) mJ
def d0:Ss:=#v[.ite (.not (.val (.fn 4 #v[.var 4,.var 1]))) #v[.never] .nil]
def mK:Ss:=.cons (.for (.tp [3,4]) (.enum #v[.var 2]) d0) dZ
def kt(j l:Nat):Ss:=.cons (.ite (.or (.not (.val (.fn 5 #v[.var 1,.bin .Add (.glob j) (.int 1)]))) (.or (.not (.val (.bi .isinst #v[.var 2,.ty "list"]))) (.cmp .Gt (.bi .len #v[.var 2]) (.glob l)))) #v[.never] .nil) mK
abbrev sF1(x:D):List (Str×D):=[("many",x)]
abbrev sF2(x y:D):List (Str×D):=[("many",x),("heads",y)]
abbrev sF3(x y z:D):List (Str×D):=[("many",x),("heads",y),("conds",z)]
abbrev sF4(x y z u:D):List (Str×D):=[("many",x),("heads",y),("conds",z),("headed",u)]
abbrev sF5(x y z u v:D):List (Str×D):=[("many",x),("heads",y),("conds",z),("headed",u),("leanings",v)]
abbrev sF6(x y z u v w:D):List (Str×D):=[("many",x),("heads",y),("conds",z),("headed",u),("leanings",v),("helped",w)]
theorem pf0(x:D):bU ("many" : Str) x []=sF1 x:=rfl
theorem pf1(x y:D):bU ("heads" : Str) y (sF1 x)=sF2 x y:=rfl
theorem pf2(x y z:D):bU ("conds" : Str) z (sF2 x y)=sF3 x y z:=rfl
theorem pf3(x y z u:D):bU ("headed" : Str) u (sF3 x y z)=sF4 x y z u:=rfl
theorem pf4(x y z u v:D):bU ("leanings" : Str) v (sF4 x y z u)=sF5 x y z u v:=rfl
theorem pf5(x y z u v w:D):bU ("helped" : Str) w (sF5 x y z u v)=sF6 x y z u v w:=rfl
theorem lf2(x y z:D):List.lookup ("heads" : Str) (sF3 x y z)=some y:=rfl
theorem lf3(x y z u:D):List.lookup ("conds" : Str) (sF4 x y z u)=some z:=rfl
theorem lf4(x y z u v:D):List.lookup ("leanings" : Str) (sF5 x y z u v)=some v:=rfl
theorem EJ{M:MH}{o_:List D}{a_:Zy}(h:bq M o_ a_):([]++o_.map λd=>match d with | .tup (h::_)=>h | _=>.non)=nats (aE a_):=by
 rw[XD];induction h with
 |nil=>rfl
 |@cons d x ds rs hd _ a=>
  obtain⟨b,rfl,-⟩:=hd;rw[YJ,a];rfl
section
variable {cn:Cn}{c:CA}{S:Addr}
theorem wo{g:MH->Prop}{tc:WT}{te:WE}{F:List D->MH->Prop}{a:Addr}{fs:List (Str×D)}{σ0:DS}{i:Nat}{M0:MH}(hc:∀σ M Q,Q true M->tc σ M Q)(hg:∀M,Ext M0 M->g M)
  (d:∀(t:CT) (M:MH) (Q:DK),(∀p M',M p=none->Ext M M'->M' p=some (t.obj c)->Q (.ref p) M')->te (σ0.set i (some (CT.told t))) M Q) (f:∀v w:Option D,(σ0.set i v).set i w=σ0.set i w) (j:M0 a=some (.ins S fs)):
  ∀(ts:List CT) (b:List CT) (rs:Zh) (v:Zz) (M:MH),Ext M0 M->bF c (hid a M) rs b->(∀k M',Ext M0 M'->bF c (hid a M') k (b++ts)->F (af k) M')->ar g (.nm i) tc te F (ts.map CT.told) (af rs) (σ0.set i v) M
 |[],b,rs,v,M,e,h,q=>by
  rw[ZA] at q;exact q rs M e h
 |t::ts,b,rs,v,M,e,h,q=>by
  rw[YJ,ar];show tc _ M _;refine hc _ _ _ ?_;rw[aH,f];refine d t M _ λp M' hp e' l=>⟨hg _ (e.trans e'),?_⟩
  have:af rs++[D.ref p]=af (rs++[p]):=by unfold af;rw[ZK];rfl
  rw[this];refine wo hc hg d f j ts (b++[t]) (rs++[p]) _ M' (e.trans e') ?_ (by simpa using q);exact bC (h.ext (bO e')) (.cons (GN (e a _ j) hp l) .nil)
variable {ds:List D}{M:MH}{Q:DK}{j l:Nat}
theorem wL(Z:∀f∈fX,cn.O S f)(f0:cn.F.getD 0 Yl=iI)(f1:cn.F.getD 1 Yl=dE c)(f2:cn.F.getD 2 Yl=iG)(f3:cn.F.getD 3 Yl=iE c)(f4:cn.F.getD 4 Yl=rH)(f5:cn.F.getD 5 Yl=cy)
  (gj:cn.G.getD j .non=.int 120) (gl:cn.G.getD l .non=.int 400) (h:jP c S ds M Q):wSs cn (kt j l) (fin Q) (ad ["","","","",""] ds) M:=by
 obtain⟨a,m,J,o_,a_,rfl,ha,L1,hR,ok,q⟩:=h;show wSs cn (kt j l) (fin Q) [↑a,~~~m,↑J,none,none] M;have V_:=ok.most;have Yp:=ok.few;have Ny:o_.length=a_.length:=lw hR;unfold kt;simp_all! only[List.set,tyD,L1,f5,gj,gl];refine⟨(m:Int),120+1,rfl,?_⟩;have h1:decide (0<=(m:Int))=true:=YV 'b';have h2:decide ((m:Int)<120+1)=true:=YV 'b';simp only[h1,h2,Bool.and_self,Bool.not_true,ag,aH];refine⟨by decide,?_⟩;simp only[L1,lT,Bool.not_true,ag];have b2:decide ((400:Int)<(o_.length:Int))=false:=ZP 'b';simp only[b2,ag];unfold mK;simp_all! only[List.set,L1];have rest:∀(z A:Zz) (M1:MH),Ext M M1->wSs cn dZ (fin Q) [↑a,~~~m,↑J,z,A] M1:=by
  intro z A M1 R;have Nz:=R _ _ ha;have R1:bq (hid a M1) o_ a_:=(hR.ext R).hid Nz;have L3:hid a M1 J=some (.lst o_):=hZ Nz (R _ _ L1);have x1:Ext (hid a M) (hid a M1):=bO R;unfold dZ;simp_all! only[List.set,Nz,pf0];refine⟨⟨Z _ 'f',by decide⟩,?_⟩;have O2:updM M1 a (MO.ins S (sF1 (⇑m))) a=some (.ins S (sF1 (⇑m))):=aa;have g:=lm a M1 (MO.ins S (sF1 (⇑m)));generalize updM M1 a (MO.ins S (sF1 (⇑m)))=M2 at *;rw[←g] at R1 L3 x1;clear g Nz R;clear M1;have NA:=lU a M2 _ _ L3
  -- heads
  unfold mJ;simp_all! only[List.set,List.cons_append,XD,List.replicate,NA];refine cN (f:=λd=>match d with | .tup (h::_)=>h | _=>.non) (ok:=λσ=>∃v,σ=[↑a,~~~m,↑J,z,A,v]) [] _ ⟨none,rfl⟩ ?_ ?_
  ·intro d hd σ e_ C' ⟨v,hv⟩ k
   subst hv;obtain⟨i,hi⟩:=XS hd;obtain⟨x,-,B,rfl,-⟩:=cB R1 hi;rw[ar];simp_all! only[List.set,at0];exact⟨NA,k _ ⟨_,rfl⟩⟩
  intro p hp;have heads:=EJ R1;rw[heads];have e3:=Ext.new (o:=MO.lst (nats (aE a_))) hp;have g3:updM M2 p (MO.lst (nats (aE a_))) p=some (.lst (nats (aE a_))):=aa;generalize updM M2 p (MO.lst (nats (aE a_)))=M3 at *;have O3:=e3 _ _ O2;simp only[g3,rdL,O3,pf1];refine⟨⟨Z _ 'f',(by decide:(1:Nat)<1000)⟩,?_⟩;have x3:Ext (hid a M) (hid a M3):=x1.trans (bO e3);have R3:=R1.ext (bO (a:=a) e3);have NB:=bO (a:=a) e3 _ _ L3;clear R1 L3 x1 O2 e3 g3 NA hp heads;clear M2;have O4:updM M3 a (MO.ins S (sF2 (⇑m) (.tup (nats (aE a_))))) a=some (.ins S (sF2 (⇑m) (.tup (nats (aE a_))))):=aa;have g:=lm a M3 (MO.ins S (sF2 (⇑m) (.tup (nats (aE a_)))));generalize updM M3 a (MO.ins S (sF2 (⇑m) (.tup (nats (aE a_)))))=M4 at *;rw[←g] at R3 NB x3;clear g O3;clear M3;have NC:=lU a M4 _ _ NB
  -- JW
  unfold mI;simp_all! only[List.set,List.cons_append,XD,List.replicate,NC];have hm:∀(x:Row) (B:Addr) (M5:MH) (K:DK),M5 a=some (.ins S (sF2 (⇑m) (.tup (nats (aE a_)))))->M5 B=some (.lst (x.2.map CT.told))->(∀rs n,Ext M5 n->bF c (hid a n) rs x.2->K (.tup (af rs)) n) ->
    wE cn (.bi .tuple (.cons (.comp 1 (.fn 3 (.cons (.var 6) .nil)) (.nm 6) (.seq (.ix (.var 5) (.int 1))) .no) .nil)) [↑a,~~~m,↑J,z,A,some (.tup [⇑x.1,.ref B])] M5 K:=by
   intro x B M5 K V' Lx k;simp_all! only[List.set,List.cons_append,XD,List.replicate,at1,Lx,f3];refine wo (c:=c) (S:=S) (a:=a) (M0:=M5) (i:=6) (σ0:=[↑a,~~~m,↑J,z,A,some (.tup [⇑x.1,.ref B]),none]) (λ_ _ _ h=>h) (λn P=>P _ _ Lx) ?_ (λ_ _=>rfl) V' x.2 [] [] none M5 (Ext.refl M5) .nil ?_
   ·intro t n K2 k2
    exact⟨t,rfl,k2⟩
   ·intro rs n P RQ p hp
    rw[aa];exact k rs _ (P.then hp) (RQ.ext (bO (Ext.new hp)))
  have JW:∀(F:List D->MH->Prop) (xs:List D) (C T:Zy) (k_:Zt) (v:Zz) (M5:MH),bq (hid a M4) xs C->Ext M4 M5->eM c (hid a M5) k_ T->(∀O5 n,Ext M4 n->eM c (hid a n) O5 (T++C)->F (aQ O5) n) ->
    ar (λM'=>M' J=some (.lst o_)) (.nm 5) (wTo cn .no) (wE cn (.bi .tuple (.cons (.comp 1 (.fn 3 (.cons (.var 6) .nil)) (.nm 6) (.seq (.ix (.var 5) (.int 1))) .no) .nil))) F xs (aQ k_) [↑a,~~~m,↑J,z,A,v] M5:=by
   intro F xs C T k_ v M5 hp;induction hp generalizing T k_ v M5 with
   |nil=>
    intro W h5 k;rw[ar];rw[ZA] at k;exact k k_ M5 W h5
   |@cons d x xs C hd _ ih=>
    intro W h5 k;obtain⟨B,rfl,Lx⟩:=hd;rw[ar];refine hm x B M5 _ (W _ _ O4) (W _ _ (lU a M4 _ _ Lx)) λrs n P RQ=>⟨(W.trans P) _ _ NC,?_⟩
    have:aQ k_++[D.tup (af rs)]=aQ (k_++[rs]):=by unfold aQ;rw[ZK];rfl
    rw[this];refine ih (T++[x]) (k_++[rs]) _ n (W.trans P) (bC (h5.ext (bO P)) (.cons RQ .nil)) (by simpa using k)
  refine JW _ o_ a_ [] [] none M4 R3 (Ext.refl M4) .nil ?_;clear JW hm;intro k_ M5 W RR p hp;rw[XD] at RR;have P:=Ext.new (o:=MO.lst (aQ k_)) hp;have g6:updM M5 p (MO.lst (aQ k_)) p=some (.lst (aQ k_)):=aa;generalize updM M5 p (MO.lst (aQ k_))=n at *;have UD:=(W.trans P) _ _ O4;simp only[g6,rdL,UD,pf2];refine⟨⟨Z _ 'f',(by decide:(2:Nat)<1000)⟩,?_⟩;have x6:Ext (hid a M) (hid a n):=x3.trans (bO (W.trans P));have C6:=RR.ext (bO (a:=a) P);clear R3 NB x3 O4 W RR hp P g6 NC;clear M4 M5;have RT:updM n a (MO.ins S (sF3 (⇑m) (.tup (nats (aE a_))) (.tup (aQ k_)))) a=some (.ins S (sF3 (⇑m) (.tup (nats (aE a_))) (.tup (aQ k_)))):=aa;have g:=lm a n (MO.ins S (sF3 (⇑m) (.tup (nats (aE a_))) (.tup (aQ k_))));generalize updM n a (MO.ins S (sF3 (⇑m) (.tup (nats (aE a_))) (.tup (aQ k_))))=M7 at *;rw[←g] at C6 x6;clear g UD;clear n
  -- headed
  unfold mH;simp_all! only[List.set,RT,lf2,f2];have Wa:(aE a_).length=a_.length:=by unfold aE;rw[ZE]
  refine⟨Z _ 'f',m,aE a_,rfl,by omega,by omega,?_,?_⟩
  ·intro h g
   obtain⟨x,hx,rfl⟩:=XV.1 g;exact(ok.fit x hx).1
  intro p1 z_ M8 J3 e8 g8 l8 s8;rw[Wa] at s8;have Qc:=e8 _ _ RT;simp only[Qc,pf3];refine⟨⟨Z _ 'f',(by decide:(3:Nat)<1000)⟩,?_⟩;have x8:Ext (hid a M) (hid a M8):=x6.trans (bO e8);have C8:=C6.ext (bO (a:=a) e8);have G8:hid a M8 p1=some (.lst (af z_)):=hZ Qc g8;have S8:cb (hid a M8) z_ (λf=>.lst (nats (ci (aE a_) a_.length f))):=λf r u=>hZ Qc (s8 f r u)
  clear C6 x6 RT J3 e8 g8 s8;clear M7;have RU:updM M8 a (MO.ins S (sF4 (⇑m) (.tup (nats (aE a_))) (.tup (aQ k_)) (.ref p1))) a=some (.ins S (sF4 (⇑m) (.tup (nats (aE a_))) (.tup (aQ k_)) (.ref p1))):=aa;have g:=lm a M8 (MO.ins S (sF4 (⇑m) (.tup (nats (aE a_))) (.tup (aQ k_)) (.ref p1)));generalize updM M8 a (MO.ins S (sF4 (⇑m) (.tup (nats (aE a_))) (.tup (aQ k_)) (.ref p1)))=M9 at *;rw[←g] at C8 x8 G8 S8;clear g Qc;clear M8
  -- leanings
  unfold mG;simp_all! only[List.set,List.cons_append,XD,List.replicate,RU,lf3];refine⟨Z _ 'f',?_⟩;have ap:∀(F:List D->MH->Prop) (cs:Zt) (C T:Zy) (ps:Zh) (v:Zz) (U:MH),eM c (hid a M9) cs C->(∀x∈C,x.1<m/\x.2.length<=6/\∀t∈x.2,t.fit (m:Int))->Ext M9 U->rK U ps T->(∀LZ L,Ext M9 L->rK L LZ (T++C)->F (af LZ) L) ->
    ar (λ_=>True) (.nm 5) (wTo cn .no) (wE cn (.fn 1 (.cons (.var 5) .nil))) F (aQ cs) (af ps) [↑a,~~~m,↑J,z,A,v] U:=by
   intro F cs C T ps v U hp;induction hp generalizing T ps v U with
   |nil=>
    intro _ V L0 k;rw[show aQ []=[] from rfl,ar];rw[ZA] at k;exact k ps U V L0
   |@cons rs x cs C hd _ ih=>
    intro hf V L0 k;obtain⟨L4,Lu,ML⟩:=hf x (.head _);rw[show aQ (rs::cs)=.tup (af rs)::aQ cs from rfl,ar];have go:dE c [.tup (af rs)] U (λy M2=>True/\ar (λ_=>True) (.nm 5) (wTo cn .no) (wE cn (.fn 1 (.cons (.var 5) .nil))) F (aQ cs) (af ps++[y]) [↑a,~~~m,↑J,z,A,some (.tup (af rs))] M2):=by
     refine⟨rs,x.2,rfl,(hd.ext (lU a M9)).ext V,λt ht=>CT.fit_ok 'b' (ML t ht),Lu,λp L hp Y Qd=>⟨trivial,?_⟩⟩;have:af ps++[D.ref p]=af (ps++[p]):=by unfold af;rw[ZK];rfl
     rw[this];refine ih (T++[x]) (ps++[p]) _ L (λy hy=>hf y (.tail _ hy)) (V.trans Y) ⟨by rw[ZJ,ZJ,L0.1];rfl,λk r y u hy=>?_⟩ (by simpa using k);by_cases hk:k<ps.length
     ·rw[ZD hk] at u
      rw[ZD (by rw[←L0.1];exact hk)] at hy;exact Y _ _ (L0.2 k r y u hy)
     ·rw[ZG 'b'] at u
      rw[ZG (by rw[←L0.1];omega),←L0.1] at hy;have hz:k-ps.length=0:=by
       have:=(YB.mp u).1
       simp only[YH,YU] at this;omega
      rw[hz,List.getElem?_cons_zero] at u hy;cases u;cases hy;rw[Qd,Bq];rfl
    rw[←f1] at go;exact go
  refine ap _ k_ a_ [] [] none M9 C8 ok.fit (Ext.refl M9) ⟨rfl,λk r x u=>by simp at u⟩ ?_;clear ap;intro x_ U V Qe p2 A_;rw[XD] at Qe;have Y:=Ext.new (o:=MO.lst (af x_)) A_;have Qd:updM U p2 (MO.lst (af x_)) p2=some (.lst (af x_)):=aa;generalize updM U p2 (MO.lst (af x_))=L at *;have L8:=(V.trans Y) _ _ RU;simp only[L8,pf4];refine⟨⟨Z _ 'f',(by decide:(4:Nat)<1000)⟩,?_⟩;have UE:Ext (hid a M) (hid a L):=x8.trans (bO (V.trans Y));have UG:=C8.ext (bO (a:=a) (V.trans Y));have UH:=bO (a:=a) (V.trans Y) _ _ G8;have UI:=S8.ext (bO (a:=a) (V.trans Y));have RW:hid a L p2=some (.lst (af x_)):=hZ L8 Qd;have O6:rK (hid a L) x_ a_:=⟨Qe.1,λk r x u hx=>hZ L8 (Y _ _ (Qe.2 k r x u hx))⟩;clear C8 x8 RU A_ V Qe Y Qd G8 S8;clear M9 U;have O7:updM L a (MO.ins S (sF5 (⇑m) (.tup (nats (aE a_))) (.tup (aQ k_)) (.ref p1) (.ref p2))) a=some (.ins S (sF5 (⇑m) (.tup (nats (aE a_))) (.tup (aQ k_)) (.ref p1) (.ref p2))):=aa;have g:=lm a L (MO.ins S (sF5 (⇑m) (.tup (nats (aE a_))) (.tup (aQ k_)) (.ref p1) (.ref p2)));generalize updM L a (MO.ins S (sF5 (⇑m) (.tup (nats (aE a_))) (.tup (aQ k_)) (.ref p1) (.ref p2)))=UJ at *;rw[←g] at UG UE UH UI RW O6;clear g L8;clear L
  -- helped
  unfold mF;simp_all! only[List.set,O7,lf4,f0];refine⟨Z _ 'f',m,p2,x_,a_.map cj,rfl,lU a UJ _ _ RW,by rw[ZE];exact O6.1,?_,by omega,by rw[ZE];omega,?_,?_⟩
  ·intro k r l u hl
   rw[ZF] at hl;obtain⟨x,hx,rfl⟩:=ZN.1 hl;exact lU a UJ _ _ (O6.2 k r x u hx)
  ·intro l hl x hx
   obtain⟨y,hy,rfl⟩:=XV.1 hl;obtain⟨t,ht,Wb⟩:=List.mem_flatMap.1 hx;exact wn ((ok.fit y hy).2.2 t ht) x Wb
  intro p3 B' UK LX UL Wc Wd UM;rw[ZE] at UM;have ND:=UL _ _ O7;simp only[ND,pf5];refine⟨⟨Z _ 'f',(by decide:(5:Nat)<1000)⟩,?_⟩;have g:=lm a UK (MO.ins S (sF6 (⇑m) (.tup (nats (aE a_))) (.tup (aQ k_)) (.ref p1) (.ref p2) (.ref p3)));have he:=bO (a:=a) UL;have hl:=lU a (updM UK a (MO.ins S (sF6 (⇑m) (.tup (nats (aE a_))) (.tup (aQ k_)) (.ref p1) (.ref p2) (.ref p3))));rw[g] at hl;have ee:=he.trans hl;refine q _ ?_ ⟨ok,k_,p1,p2,p3,z_,x_,B',aa,UG.ext ee,⟨ee _ _ UH,l8,UI.ext ee⟩,⟨ee _ _ RW,O6.1,λk r x u hx=>ee _ _ (O6.2 k r x u hx)⟩,hl _ _ (hZ ND Wc),Wd,λf r u=>hl _ _ (hZ ND (UM f r u))⟩;intro b o hb We;refine ee b o (UE b o ?_);rw[yo hb];exact We
 have step:∀(E:EndsD) (v0 v2:Zz) (z A:Zz) (M1:MH) (x:Row) (B:Addr),(x.1<m/\x.2.length<=6/\∀t∈x.2,t.fit (m:Int))->M1 B=some (.lst (x.2.map CT.told))->(∀M2,Ext M1 M2->E.nx [v0,~~~m,v2,z,some (.tup [⇑x.1,.ref B])] M2) ->
   wSs cn d0 E [v0,~~~m,v2,z,some (.tup [⇑x.1,.ref B])] M1:=by
  intro E v0 v2 z A M1 x B ⟨L4,Lu,ML⟩ hq k;unfold d0;simp_all! only[List.set,f4];exact⟨(x.1:Int),(m:Int),B,x.2,rfl,hq,⟨by omega,by omega⟩,Lu,ML,λM2 e2=>k M2 e2⟩
 have a1:∀(xs:List D) (C:Zy) (k:Int) (z A:Zz) (M1:MH),bq M xs C->(∀x∈C,x.1<m/\x.2.length<=6/\∀t∈x.2,t.fit (m:Int))->Ext M M1 ->
   aB (λM'=>M' J=some (.lst o_)) (.tp [3,4]) (wSs cn d0) { nx:=wSs cn dZ (fin Q),rt:=Q } (aX k xs) [↑a,~~~m,↑J,z,A] M1:=by
  intro xs C k z A M1 hp;induction hp generalizing k z A M1 with
  |nil=>
   intro _ R;rw[aX,aB];exact rest z A M1 R
  |@cons d x xs C hd _ ih=>
   intro hf R;obtain⟨B,rfl,Lx⟩:=hd;obtain⟨L4,Lu,ML⟩:=hf x (.head _);rw[aX,aB];refine⟨rfl,step _ _ _ _ none M1 x B ⟨L4,Lu,ML⟩ (R _ _ Lx) λM2 e2=>?_⟩;exact⟨(R.trans e2) J _ L1,ih _ _ _ M2 (λy hy=>hf y (.tail _ hy)) (R.trans e2)⟩
 exact a1 o_ a_ 0 none none M hR ok.fit (Ext.refl M)
end
theorem EK(n:Nat)(f:Int):hasB (n:Int) f=n.testBit f.toNat:=ck n f.toNat▸(by unfold hasB bitZ;rw[YW])
def Sub(a b:Nat):Prop:=∀f,a.testBit f=true->b.testBit f=true
theorem Sub.refl(a:Nat):Sub a a:=λ_ h=>h
theorem Sub.trans{a b c:Nat}(h:Sub a b)(g:Sub b c):Sub a c:=λf q=>g f (h f q)
theorem Sub.or_l(a b:Nat):Sub a (a|||b):=λf h=>by rw[XZ,h];rfl
theorem Sub.or{a b c:Nat}(h:Sub a c)(g:Sub b c):Sub (a|||b) c:=λf q=>by
 rw[XZ,XT] at q;exact q.elim (h f) (g f)
theorem Sub.hasB{a b:Nat}(h:Sub a b){f:Int}(q:SH.hasB (a:Int) f=true):SH.hasB (b:Int) f=true:=by
 rw[EK] at q ⊢;exact h _ q
theorem Dc{p q:Int->Bool}(h:∀f,p f=true->q f=true):∀fs:List Int,(fs.filter p).length<=(fs.filter q).length
 |[]=>YE _
 |f::fs=>by
  have a:=Dc h fs;rw[XU,XU];by_cases e:p f=true
  ·rw[if_pos e,if_pos (h f e),YH,YH];omega
  ·rw[if_neg e]
   split
   ·rw[YH];omega
   ·exact a
theorem yq{p q:Int->Bool}:∀{fs:Zi},(fs.filter p).length<(fs.filter q).length->∃f∈fs,p f=false/\q f=true
 |[],h=>absurd h (ZS _)
 |f::fs,h=>by
  by_cases e:p f=false/\q f=true
  ·exact⟨f,.head _,e⟩
  ·rw[XU,XU] at h
   have:(fs.filter p).length<(fs.filter q).length:=by
    cases hp:p f with
    |true=>
     rw[if_pos hp] at h;split at h
     ·simpa using h
     ·rw[YH] at h;omega
    |false=>
     have hq:q f=false:=by
      cases hq:q f with
      |false=>rfl
      |true=>exact absurd ⟨hp,hq⟩ e
     rw[if_neg (by simp[hp]),if_neg (by simp[hq])] at h;exact h
   obtain⟨g,hg,w⟩:=yq this;exact⟨g,.tail _ hg,w⟩
theorem wp{a b:Nat}(h:Sub a b)(fs:Zi):cntB fs (a:Int)<=cntB fs (b:Int):=by
 unfold cntB;exact Dc (λf q=>h.hasB q) fs
theorem yr{h h' g:Nat}(s:Sub h h'){t:CT}(q:t.carried (h:Int) (g:Int)=true):t.carried (h':Int) (g:Int)=true:=by
 cases t with
 |hav f=>exact s.hasB q
 |lck f=>exact q
 |som n fs=>
  have q:decide (n<=((cntB fs (h:Int):Nat):Int))=true:=q;show decide (n<=((cntB fs (h':Int):Nat):Int))=true
  have:=XO q
  have:=wp s fs
  exact YV 'b'
 |led fs k=>
  have q:(hasB (h:Int) (fs.getD k 0)&&(((cntB (fs.take k) (g:Int):Nat):Int)==0))=true:=q;show(hasB (h':Int) (fs.getD k 0)&&(((cntB (fs.take k) (g:Int):Nat):Int)==0))=true;rw[YY] at q ⊢;exact⟨s.hasB q.1,q.2⟩
theorem yt{h g g':Nat}(s:Sub g g'){t:CT}(q:t.carried (h:Int) (g':Int)=true):t.carried (h:Int) (g:Int)=true:=by
 cases t with
 |hav f=>exact q
 |lck f=>
  have q:(!hasB (g':Int) f)=true:=q;show(!hasB (g:Int) f)=true;cases e:hasB (g:Int) f with
  |false=>rfl
  |true=>rw[s.hasB e] at q;exact q
 |som n fs=>exact q
 |led fs k=>
  have q:(hasB (h:Int) (fs.getD k 0)&&(((cntB (fs.take k) (g':Int):Nat):Int)==0))=true:=q;show(hasB (h:Int) (fs.getD k 0)&&(((cntB (fs.take k) (g:Int):Nat):Int)==0))=true;rw[YY] at q ⊢;refine⟨q.1,?_⟩;have a:=q.2;have b:=wp s (fs.take k);rw[beq_iff_eq] at a ⊢;omega
theorem yu{h h' g:Nat}{t:CT}(q:t.carried (h:Int) (g:Int)=false)(a:t.carried (h':Int) (g:Int)=true):∃f,(false,f)∈t.leanP/\hasB (h:Int) f=false/\hasB (h':Int) f=true:=by
 cases t with
 |hav f=>exact⟨f,by simp[CT.leanP],q,a⟩
 |lck f=>
  have q:(!hasB (g:Int) f)=false:=q;have a:(!hasB (g:Int) f)=true:=a;rw[q] at a;cases a
 |som n fs=>
  have q:decide (n<=((cntB fs (h:Int):Nat):Int))=false:=q;have a:decide (n<=((cntB fs (h':Int):Nat):Int))=true:=a;have b:=of_decide_eq_false q;have c:=XO a;have:(fs.filter (hasB (h:Int))).length<(fs.filter (hasB (h':Int))).length:=by
   unfold cntB at b c;omega
  obtain⟨f,hf,w⟩:=yq this;exact⟨f,XV.2 ⟨f,hf,rfl⟩,w⟩
 |led fs k=>
  have q:(hasB (h:Int) (fs.getD k 0)&&(((cntB (fs.take k) (g:Int):Nat):Int)==0))=false:=q;have a:(hasB (h':Int) (fs.getD k 0)&&(((cntB (fs.take k) (g:Int):Nat):Int)==0))=true:=a;rw[YY] at a;rw[a.2,Bool.and_true] at q;exact⟨_,YA.2 (.inr (.head _)),q,a.1⟩
def aV(h g:Nat)(x:Row):Bool:=x.2.all (CT.carried (h:Int) (g:Int))
theorem jQ{h h' g:Nat}(s:Sub h h'){x:Row}(q:aV h g x=true):aV h' g x=true:=by
 unfold aV at q ⊢;rw[XM] at q ⊢;exact λt ht=>yr s (q t ht)
theorem jR{h g g':Nat}(s:Sub g g'){x:Row}(q:aV h g' x=true):aV h g x=true:=by
 unfold aV at q ⊢;rw[XM] at q ⊢;exact λt ht=>yt s (q t ht)
theorem zt{h h' g:Nat}{x:Row}(q:aV h g x=false)(a:aV h' g x=true):∃f,(false,f)∈cj x/\hasB (h:Int) f=false/\hasB (h':Int) f=true:=by
 unfold aV at q a;rw[XM] at a;rw[List.all_eq_false] at q;obtain⟨t,ht,hq⟩:=q;obtain⟨f,hf,w⟩:=yu (by simpa using hq) (a t ht);exact⟨f,List.mem_flatMap.2 ⟨t,ht,hf⟩,w⟩
def yv(a_:Zy)(told g s:Nat):Prop:=Sub told s/\∀x∈a_,aV s g x=true->s.testBit x.1=true
def bV(a_:Zy)(told g n:Nat):Prop:=yv a_ told g n/\∀s,yv a_ told g s->Sub n s
theorem bV.anti{a_:Zy}{told g g' n n':Nat}(s:Sub g g')(h:bV a_ told g n)(h':bV a_ told g' n'):Sub n' n:=
 h'.2 n ⟨h.1.1,λx hx q=>h.1.2 x hx (jR s q)⟩
def hits(a_:Zy)(h g f r:Nat):Bool:=match a_[r]? with
 |some x=>decide (x.1=f)&&aV h g x
 |none=>false
theorem jB{a_:Zy}{h g f r:Nat}:hits a_ h g f r=true ↔ ∃x,a_[r]?=some x/\x.1=f/\aV h g x=true:=by
 unfold hits;cases e:a_[r]? with
 |none=>simp
 |some x=>simp
def bu(a_:Zy)(h g f:Nat):Option Nat:=(List.range a_.length).find? (hits a_ h g f)
def aF(a_:Zy)(h g left:Nat):List (Nat×Nat):=(memb left).filterMap λf=>(bu a_ h g f).map λr=>(f,r)
def newB(fr:Zp):Nat:=setN (fr.map (·.1))
def bw(a_:Zy)(g:Nat):Nat->Nat->Nat->Nat->List (Nat×Nat×Nat)
 |0,_,_,_=>[]
 |k+1,step,a,left=>if aF a_ a g left=[] then[] else(aF a_ a g left).map (λx=>(x.1,step,x.2))++bw a_ g k (step+1) (a|||newB (aF a_ a g left)) (av left (newB (aF a_ a g left)))
theorem nF{a_:Zy}{h g f:Nat}(q:bu a_ h g f=none){x:Row}(hx:x∈a_)(hf:x.1=f):aV h g x=false:=by
 obtain⟨r,a⟩:=XS hx;have hl:r<a_.length:=(YB.mp a).1;unfold bu at q;rw[List.find?_eq_none] at q
 have:=q r (ZV.2 hl)
 rw[jB] at this;cases e:aV h g x with
 |false=>rfl
 |true=>exact absurd ⟨x,a,hf,e⟩ this
theorem fY{a_:Zy}{h g f r:Nat}(q:bu a_ h g f=some r):∃x,a_[r]?=some x/\x.1=f/\aV h g x=true:=
 jB.1 (List.find?_some q)
theorem du{a_:Zy}{h g left f r:Nat}:(f,r)∈aF a_ h g left↔left.testBit f=true/\bu a_ h g f=some r:=by
 unfold aF;rw[List.mem_filterMap];constructor
 ·rintro⟨f',MM,q⟩
  obtain⟨d,c,e⟩:=ZN.1 q;cases e;exact⟨(dq _ _).1 MM,c⟩
 ·rintro⟨a,b⟩
  exact⟨f,(dq _ _).2 a,by rw[b];rfl⟩
theorem sH{fr:Zp}{f:Nat}:(newB fr).testBit f=true ↔ ∃r,(f,r)∈fr:=by
 unfold newB;rw[bv,XR,XV];constructor
 ·rintro⟨⟨a,b⟩,h,rfl⟩;exact⟨b,h⟩
 ·rintro⟨r,h⟩;exact⟨_,h,rfl⟩
theorem Dd{a b f:Nat}(c:a.testBit f=true)(d:b.testBit f=true):av a b<a:=by
 have:=o8 a b
 have g:a&&&b≠0:=λz=>by
  have:(a&&&b).testBit f=true:=by rw[Nat.testBit_and,c,d];rfl
  rw[z,Nat.zero_testBit] at this;cases this
 omega
theorem pk{a_:Zy}{h g left:Nat}(q:aF a_ h g left≠[]):av left (newB (aF a_ h g left))<left:=by
 obtain⟨⟨f,r⟩,hx⟩:=List.exists_mem_of_ne_nil _ q;exact Dd (du.1 hx).1 (sH.2 ⟨r,hx⟩)
def iK(a_:Zy)(g told heads:Nat):Nat:=told|||setN ((bw a_ g (av heads told+1) 1 told (av heads told)).map (·.1))
theorem uG{a_:Zy}{g told heads:Nat}(d:∀x∈a_,heads.testBit x.1=true):∀(k step a left:Nat),left<k->(∀f,left.testBit f=(heads.testBit f && !a.testBit f))->Sub told a->(∀s,yv a_ told g s->Sub a s) ->
  bV a_ told g (a|||setN ((bw a_ g k step a left).map (·.1)))
 |0,_,_,_,h,_,_,_=>absurd h (Nat.not_lt_zero _)
 |k+1,step,a,left,hk,hl,ht,hc=>by
  rw[bw];by_cases e:aF a_ a g left=[]
  ·rw[if_pos e]
   have z:a|||setN (([]:List (Nat×Nat×Nat)).map (·.1))=a:=by simp[setN]
   rw[z];refine⟨⟨ht,λx hx q=>?_⟩,hc⟩;cases b:a.testBit x.1 with
   |true=>rfl
   |false=>
    have j:left.testBit x.1=true:=by rw[hl,d x hx,b];rfl
    cases f1:bu a_ a g x.1 with
    |none=>rw[nF f1 hx rfl] at q;cases q
    |some r=>
     have:=du.2 ⟨j,f1⟩
     rw[e] at this;cases this
  ·rw[if_neg e]
   have l:=uG (g:=g) (told:=told) d k (step+1) (a|||newB (aF a_ a g left)) (av left (newB (aF a_ a g left))) (by have:=pk e;omega) ?_ (ht.trans (Sub.or_l _ _)) ?_
   ·refine cast (congrArg (bV a_ told g) ?_) l
    refine XY λf=>?_
    rw[XZ,XZ,XZ,bv,bv,ZK,ZL];have z:(newB (aF a_ a g left)).testBit f=decide (f∈(aF a_ a g left).map ((·.1)∘λ(x:Nat×Nat)=>(x.1,step,x.2))):=by
     unfold newB;rw[bv];rfl
    rw[z,Bool.or_assoc];congr 1;rw[←Bool.decide_or];simp only[YA]
   ·intro f
    rw[aZ,hl,XZ];cases heads.testBit f<;>cases a.testBit f<;>cases(newB (aF a_ a g left)).testBit f<;>rfl
   ·intro s c
    refine(hc s c).or λf hf=>?_
    obtain⟨r,m⟩:=sH.1 hf;obtain⟨x,hx,rfl,hq⟩:=fY (du.1 m).2;exact c.2 x (YT hx) (jQ (hc s c) hq)
theorem cF{a_:Zy}{g told heads:Nat}(a:∀x∈a_,heads.testBit x.1=true):bV a_ told g (iK a_ g told heads):=
 uG a _ 1 told _ (YK _) (λf=>aZ _ _ _) (Sub.refl _) λs b=>b.1
theorem pq:∀{l m:Zj},l.Pairwise (· < ·)->m.Pairwise (· < ·)->(∀x,x∈l↔x∈m)->l=m
 |[],[],_,_,_=>rfl
 |[],b::m,_,_,h=>absurd ((h b).2 (.head _)) (by simp)
 |a::l,[],_,_,h=>absurd ((h a).1 (.head _)) (by simp)
 |a::l,b::m,hl,hm,h=>by
  rw[List.pairwise_cons] at hl hm;have e:a=b:=by
   rcases ZZ.1 ((h a).1 (.head _)) with e | e
   ·exact e
   ·rcases ZZ.1 ((h b).2 (.head _)) with e' | e'
    ·exact e'.symm
    ·have:=hl.1 b e';have:=hm.1 a e;omega
  subst e;rw[pq hl.2 hm.2 λx=>?_];constructor
  ·intro hx
   rcases ZZ.1 ((h x).1 (.tail _ hx)) with e | e
   ·subst e;exact absurd (hl.1 x hx) (ZS _)
   ·exact e
  ·intro hx
   rcases ZZ.1 ((h x).2 (.tail _ hx)) with e | e
   ·subst e;exact absurd (hm.1 x hx) (ZS _)
   ·exact e
theorem cO:∀{n:Nat}{l:Zj},l.Nodup->(∀x∈l,x<n)->l.length<=n
 |0,[],_,_=>YE _
 |0,a::l,_,h=>absurd (h a (.head _)) (Nat.not_lt_zero _)
 |n+1,l,hd,h=>by
  have d:=cO (n:=n) (l:=l.filter λx=>decide (x≠n)) (List.Pairwise.filter _ hd) (λx hx=>by
   have b:=ZU.1 hx
   have:=h x b.1
   have:x≠n:=XO b.2
   omega)
  have b:∀{l:Zj},l.Nodup->l.length<=(l.filter λx=>decide (x≠n)).length+1:=by
   intro l hd;induction l with
   |nil=>simp
   |cons a l c=>
    rw[YN] at hd;rw[XU];by_cases e:a=n
    ·subst e
     rw[if_neg (by simp),YH];have:l.filter (λx=>decide (x≠a))=l:=List.filter_eq_self.2 λx hx=>YV λz=>hd.1 (z▸hx)
     rw[this];exact YE _
    ·rw[if_pos (by simpa using e),YH,YH]
     have:=c hd.2
     omega
  have:=b hd
  omega
theorem nG{b:Zi}{xs:Zj}(hp:b.Perm (xs.map λ(x:Nat)=>(x:Int)))(d:b.Pairwise (·<=·))(hd:xs.Nodup):∃ns:List Nat,b=ns.map (λ(x:Nat)=>(x:Int))/\ns.Pairwise (· < ·)/\∀r,r∈ns↔r∈xs:=by
 have f:(b.map Int.toNat).map (λ(x:Nat)=>(x:Int))=b:=by
  rw[ZL];refine(ZM λa ha=>?_).trans (List.map_id _);obtain⟨x,_,rfl⟩:=XV.1 (hp.mem_iff.1 ha);simp
 have c:(b.map Int.toNat).Perm xs:=by
  have:=hp.map Int.toNat
  rw[ZL] at this;refine this.trans ?_;rw[show(Int.toNat∘λ(x:Nat)=>(x:Int))=id by funext x;simp,List.map_id]
 refine⟨b.map Int.toNat,f.symm,?_,λr=>c.mem_iff⟩;have nd:(b.map Int.toNat).Nodup:=c.nodup_iff.2 hd;have le:(b.map Int.toNat).Pairwise (·<=·):=List.pairwise_map.2 (d.imp λh=>by omega);exact List.Pairwise.imp (λ⟨g,j⟩=>Nat.lt_of_le_of_ne g j) (List.pairwise_and_iff.2 ⟨le,nd⟩)
def mL(c:CA)(S:Addr):SpD:=λds M Q=>∃(a:Addr) (m:Nat) (a_:Zy) (left:Nat),ds=[.ref a,⇑left]/\SheetAt c S M a m a_/\a_.length<64/\left<2 ^ m /\
 ∀p ns M',M p=none->Ext M M'->M' p=some (.lst (nats ns))->ns.Pairwise (· < ·)->(∀r,r∈ns ↔ ∃x,a_[r]?=some x/\left.testBit x.1=true)->Q (.ref p) M'
def eU(c:CA)(S:Addr):SpD:=λds M Q=>∃(a:Addr) (m:Nat) (a_:Zy) (b:Addr) (d:ZB) (fs:Zj) (left:Nat),ds=[.ref a,.ref b,⇑left]/\SheetAt c S M a m a_/\a_.length<64/\M b=some (.rod d)/\keysOf d=nats fs/\(∀f∈fs,f<m) /\
 ∀p ns M',M p=none->Ext M M'->M' p=some (.lst (nats ns))->ns.Pairwise (· < ·)->(∀r,r∈ns ↔ ∃x,a_[r]?=some x/\left.testBit x.1=true/\∃f∈fs,ba (cj x) f=true)->Q (.ref p) M'
def a8(fr:Zp):List (Key×D):=fr.map λ(x:Nat×Nat)=>(.inl (x.1:Int),⇑x.2)
def da(c:CA)(S:Addr):SpD:=λds M Q=>∃(a:Addr) (m:Nat) (a_:Zy) (b:Addr) (ns:Zj) (h g:Nat),ds=[.ref a,.ref b,⇑h,⇑g]/\SheetAt c S M a m a_/\M b=some (.lst (nats ns))/\(∀r∈ns,r<a_.length) /\
 ∀p fr M',M p=none->Ext M M'->M' p=some (.dic (a8 fr))->(fr.map (·.1)).Nodup->(∀f r,(f,r)∈fr↔ns.find? (hits a_ h g f)=some r)->Q (.ref p) M'
def ku:Ss:=#v[.ret (.bk .sorted #v[.var 2])]
def kx:Ss:=#v[.expr (.mt .extend (.var 2) #v[.mu "rows_for" (.var 0) #v[.var 3]])]
def pM:Ss:=.cons (.for (.nm 3) (.seq (.fn 0 #v[.var 1])) kx) ku
def nH:Ss:=.cons (.set 2 (.lst .nil)) pM
def gO:Ss:=#v[.ret (.bk .sorted #v[.var 3])]
def dv:Ss:=#v[.ite (.val (.fn 0 #v[.var 2,.mu "head_of" (.var 0) #v[.var 5]])) #v[.putIx (.var 3) (.var 5) (.bl true)] .nil]
def gP:Ss:=#v[.for (.nm 5) (.seq (.mu "rows_helped" (.var 0) #v[.var 4])) dv]
def lV:Ss:=.cons (.for (.nm 4) (.seq (.var 1)) gP) gO
def jC:Ss:=.cons (.set 3 .dnew) lV
def eV:Ss:=#v[.ret (.var 4)]
def jZ:Ss:=#v[.ite (.and (.cmp .NotIn (.var 6) (.var 4)) (.val (.fn 0 #v[.mu "conds_of" (.var 0) #v[.var 5],.var 2,.var 3]))) #v[.putIx (.var 4) (.var 6) (.var 5)] .nil]
def cG:Ss:=.cons (.set 6 (.mu "head_of" (.var 0) #v[.var 5])) jZ
def j6:Ss:=.cons (.for (.nm 5) (.seq (.var 1)) cG) eV
def gQ:Ss:=.cons (.set 4 .dnew) j6
section
variable {m:Nat}{a_:Zy}{k_:Zt}{p1 p2 p3:Addr}
theorem nI:(c9 m a_ k_ p1 p2 p3).lookup ("rows_for" : Str)=none:=rfl
theorem vw:(c9 m a_ k_ p1 p2 p3).lookup ("rows_helped" : Str)=none:=rfl
theorem ld:(c9 m a_ k_ p1 p2 p3).lookup ("head_of" : Str)=none:=rfl
theorem fZ:(c9 m a_ k_ p1 p2 p3).lookup ("conds_of" : Str)=none:=rfl
theorem f6:(c9 m a_ k_ p1 p2 p3).lookup ("how_many" : Str)=none:=rfl
end
theorem De(xs:Zj):jN (nats xs)=some (xs.map λ(x:Nat)=>(x:Int)):=by
 have:nats xs=intL (xs.map λ(x:Nat)=>(x:Int)):=by unfold nats intL;rw[ZL];rfl
 rw[this,qF]
theorem EL(xs ys:Zj):nats xs++nats ys=nats (xs++ys):=by unfold nats;rw[ZK]
theorem qG(xs:Zj):(xs.map λ(x:Nat)=>(x:Int)).map D.int=nats xs:=by unfold nats;rw[ZL];rfl
theorem dj{a:Zj}{k f r:Nat}:r∈ci a k f↔r<k/\a[r]?=some f:=by
 unfold ci;rw[ZU,ZV,XR]
theorem zu(a:Zj)(k f:Nat):(ci a k f).Nodup:=List.Pairwise.filter _ List.nodup_range
theorem pv(c:Zj)(k:Nat):∀{d:Zj},d.Nodup->(d.flatMap (ci c k)).Nodup
 |[],_=>by simp
 |f::d,h=>by
  rw[YN] at h;rw[List.flatMap_cons,List.nodup_append];refine⟨zu c k f,pv c k h.2,λa ha b hb z=>?_⟩;subst z;obtain⟨g,hg,hb⟩:=List.mem_flatMap.1 hb;have l:=(dj.1 ha).2;have j:=(dj.1 hb).2;rw[l] at j;cases j;exact h.1 hg
theorem dF{n m f:Nat}(h:n<2 ^ m)(q:n.testBit f=true):f<m:=by
 have a:=Nat.ge_two_pow_of_testBit q;exact(Nat.pow_lt_pow_iff_right (by decide:1<2)).1 (XI a h)
theorem mM{a_:Zy}{r f:Nat}:(aE a_)[r]?=some f ↔ ∃x,a_[r]?=some x/\x.1=f:=by
 unfold aE;rw[ZF];cases a_[r]? with
 |none=>simp
 |some x=>simp
theorem nY{m:Nat}{a_:Zy}(h:RowsOk m a_){r:Nat}{x:Row}(e:a_[r]?=some x):x.1<m/\x.2.length<=6/\∀t∈x.2,t.fit (m:Int):=h.fit x (YT e)
section
variable {cn:Cn}{c:CA}{S:Addr}{ds:List D}{M:MH}{Q:DK}
theorem zv(L:cn.F.getD 0 Yl=hV)(O:cn.T S "rows_for" = some (eO c S))(h:mL c S ds M Q):wSs cn nH (fin Q) (ad ["","","",""] ds) M:=by
 obtain⟨a,m,a_,left,rfl,A,hn,hl,q⟩:=h;show wSs cn nH (fin Q) [↑a,~~~left,none,none] M;have hm:=A.ok.most;unfold nH;simp! only[List.set];intro p hp;unfold pM;simp! only[List.set,L];refine⟨left,rfl,ZR hl (Nat.pow_le_pow_right 'a' 'b'),λy M1 B l C=>?_⟩;simp only[C];have G:Ext M M1:=(Ext.new hp).trans l;have P:M1 p=some (.lst []):=l p _ aa;have J:y≠p:=λz=>by subst z;rw[aa] at B;cases B
 clear l;have n:∀(b d:Zj) (v:Zz) (M2:MH),memb left=d++b->ExtBut p M1 M2->M2 p=some (.lst (nats (d.flatMap (ci (aE a_) a_.length)))) ->
   aB (λM'=>M' y=some (.lst (nats (memb left)))) (.nm 3) (wSs cn kx) { nx:=wSs cn ku (fin Q),rt:=Q } (nats b) [↑a,~~~left,↑p,v] M2:=by
  intro b;induction b with
  |nil=>
   intro d v M2 hd g k;rw[ZA] at hd;subst hd;have nd:=pv (aE a_) a_.length (o9 left);rw[show nats []=[] from rfl,aB];unfold ku;simp! only[dBk,lj,k,rdL,De,rF];have R:((memb left).flatMap (ci (aE a_) a_.length)).length<=a_.length:=cO nd λx hx=>by
    obtain⟨f,_,hx⟩:=List.mem_flatMap.1 hx;exact(dj.1 hx).1
   refine⟨by rw[ZE];omega,λp2 ms K o U=>?_⟩;obtain⟨ns,rfl,V,W⟩:=nG o U nd;rw[qG];have j:Ext M M2:=g.ext G hp;refine q p2 ns _ (j.free K) (j.then K) aa V λr=>?_
   rw[W,List.mem_flatMap];constructor
   ·rintro⟨f,hf,hr⟩
    obtain⟨x,hx,rfl⟩:=mM.1 (dj.1 hr).2;exact⟨x,hx,(dq _ _).1 hf⟩
   ·rintro⟨x,hx,hb⟩
    exact⟨x.1,(dq _ _).2 hb,dj.2 ⟨(YB.mp hx).1,mM.2 ⟨x,hx,rfl⟩⟩⟩
  |cons f b Y=>
   intro d v M2 hd g k;have j:Ext M M2:=g.ext G hp;obtain⟨ok,k_,p1,p2,p3,z_,x_,B',o,-⟩:=A.ext j;have hf:f<m:=dF hl ((dq _ _).1 (by rw[hd];simp));rw[show nats (f::b)=⇑f::nats b from rfl,aB];unfold kx;simp! only[List.set,k,o,nI,O];refine⟨rfl,trivial,a,m,a_,f,rfl,A.ext j,hf,λp4 M4 K3 u Z=>?_⟩;simp only[u p _ k,Z,jA,EL];have nd:(d.flatMap (ci (aE a_) a_.length)).Nodup:=pv _ _ (by have:=o9 left;rw[hd,List.nodup_append] at this;exact this.1);have R:(d.flatMap (ci (aE a_) a_.length)).length<=a_.length:=cO nd λx hx=>by
    obtain⟨f,_,hx⟩:=List.mem_flatMap.1 hx;exact(dj.1 hx).1
   have UN:=yk (aE a_) a_.length f;have hsz:(2000:Nat)<sizeLine:=by decide
   refine⟨by omega,?_,?_⟩
   ·rw[ay J]
    exact u _ _ (g _ _ J C)
   ·refine Y (d++[f]) _ _ (by rw[hd];simp) ((g.trans u.but).trans (ExtBut.upd _ _ _)) ?_
    rw[aa,List.flatMap_append,List.flatMap_cons,List.flatMap_nil,ZA]
 exact n (memb left) [] none M1 rfl (ExtBut.refl p M1) P
theorem Df(rs:Zj):intKeys (rowK rs)=some (rs.map λ(x:Nat)=>(x:Int)):=by
 induction rs with
 |nil=>rfl
 |cons r rs a=>
  show Option.map _ (intKeys (rowK rs))=_;rw[a];rfl
theorem wq{a_:Zy}{r f:Nat}{x:Row}(h:a_[r]?=some x):r∈bM (a_.map cj) a_.length f↔ba (cj x) f=true:=by
 unfold bM;rw[ZU,ZV];have hl:r<a_.length:=(YB.mp h).1;have:(a_.map cj).getD r []=cj x:=by rw[List.getD_eq_getElem?_getD,ZF,h];rfl
 rw[this];exact⟨λh=>h.2,λh=>⟨hl,h⟩⟩
theorem vx(f0:cn.F.getD 0 Yl=bn)(hT:cn.T S "rows_helped" = some (eQ c S))(RX:cn.T S "head_of" = some (eR c S))(h:eU c S ds M Q):wSs cn jC (fin Q) (ad ["","","","","",""] ds) M:=by
 obtain⟨a,m,a_,b,b_,fs,left,rfl,A,hn,hb,hk,hf,q⟩:=h;show wSs cn jC (fin Q) [↑a,↑b,~~~left,none,none,none] M;have hm:=A.ok.most;unfold jC;simp! only[List.set];intro p hp;have L:Ext M (updM M p (MO.dic [])):=Ext.new hp;have g0:updM M p (MO.dic []) p=some (.dic (rowK [])):=aa;generalize updM M p (MO.dic [])=M1 at *;unfold lV;simp! only[List.set,L b _ hb,hk];have K_:b≠p:=aR hb hp;have outer:∀(n o:Zj) (rs:Zj) (v4 j:Zz) (M2:MH),fs=o++n->ExtBut p M1 M2->M2 p=some (.dic (rowK rs))->rs.Nodup->(∀r,r∈rs ↔ ∃x,a_[r]?=some x/\left.testBit x.1=true/\∃f∈o,ba (cj x) f=true) ->
   aB (λM'=>M' b=some (.rod b_)) (.nm 4) (wSs cn gP) { nx:=wSs cn gO (fin Q),rt:=Q } (nats n) [↑a,↑b,~~~left,↑p,v4,j] M2:=by
  intro n;induction n with
  |nil=>
   intro o rs v4 j M2 hd O Y nd Z;rw[ZA] at hd;subst hd;rw[show nats []=[] from rfl,aB];unfold gO;simp! only[dBk,lj,Y,rdL,rdD,Df,rF];have h_:rs.length<=a_.length:=cO nd λx hx=>by
    obtain⟨y,hy,_⟩:=(Z x).1 hx;exact(YB.mp hy).1
   refine⟨by rw[ZE];omega,λp2 ms A_ P h2=>?_⟩;obtain⟨ns,rfl,h3,h4⟩:=nG P h2 nd;rw[qG];have R:Ext M M2:=O.ext L hp;exact q p2 ns _ (R.free A_) (R.then A_) aa h3 λr=>(h4 r).trans (Z r)
  |cons f n ih=>
   intro o rs v4 j M2 hd O Y nd Z;have R:Ext M M2:=O.ext L hp;have Kg:f<m:=hf f (by rw[hd];simp);obtain⟨ok,k_,p1,p2,p3,z_,x_,B',P,-⟩:=A.ext R;rw[show nats (f::n)=⇑f::nats n from rfl,aB];unfold gP;simp! only[List.set,P,vw,hT];refine⟨trivial,a,m,a_,f,rfl,A.ext R,Kg,λp4 M4 K3 e4 g4=>?_⟩;simp only[g4];have O8:p4≠p:=λz=>by subst z;rw[Y] at K3;cases K3
   have u:∀(E:EndsD) (l B d:Zj) (j:Zz) (M5:MH),bM (a_.map cj) a_.length f=B++l->ExtBut p M4 M5->M5 p=some (.dic (rowK d))->d.Nodup ->
     (∀r,r∈d↔(∃x,a_[r]?=some x/\left.testBit x.1=true/\∃f∈o,ba (cj x) f=true)\/(r∈B/\∃x,a_[r]?=some x/\left.testBit x.1=true)) ->
     (∀U w C,ExtBut p M4 C->C p=some (.dic (rowK U))->U.Nodup->(∀r,r∈U↔(∃x,a_[r]?=some x/\left.testBit x.1=true/\∃f∈o,ba (cj x) f=true)\/(r∈bM (a_.map cj) a_.length f/\∃x,a_[r]?=some x/\left.testBit x.1=true)) ->
      E.nx [↑a,↑b,~~~left,↑p,~~~f,w] C) ->
     aB (λM'=>M' p4=some (.lst (nats (bM (a_.map cj) a_.length f)))) (.nm 5) (wSs cn dv) E (nats l) [↑a,↑b,~~~left,↑p,~~~f,j] M5:=by
    intro E l;induction l with
    |nil=>
     intro B d j M5 V G g5 J K k;rw[ZA] at V;rw[←V] at K;rw[show nats []=[] from rfl,aB];exact k d j M5 G g5 J K
    |cons r l OZ=>
     intro B d j M5 V G g5 J K k;have Ny:r<a_.length:=yl (show r∈bM (a_.map cj) a_.length f by rw[V];simp);have hx:a_[r]?=some a_[r]:=ZC Ny;generalize a_[r]=x at hx;have e5:Ext M M5:=((O.trans e4.but).trans G).ext L hp;obtain⟨ok,k_,p1,p2,p3,z_,x_,B',P,-⟩:=A.ext e5;have UO:bM (a_.map cj) a_.length f=(B++[r])++l:=by rw[V];simp
     have UP:M5 p4=some (.lst (nats (bM (a_.map cj) a_.length f))):=G _ _ O8 g4;have has:hasB (left:Int) (x.1:Int)=left.testBit x.1:=ck _ _;have body:∀(E:EndsD),Bif (left.testBit x.1) (E.nx [↑a,↑b,~~~left,↑p,~~~f,~~~r] (updM M5 p (.dic (rowK (if r∈d then d else d++[r]))))) (E.nx [↑a,↑b,~~~left,↑p,~~~f,~~~r] M5) ->
       wSs cn dv E [↑a,↑b,~~~left,↑p,~~~f,~~~r] M5:=by
      intro E kk;unfold dv;simp! only[List.set,P,ld,RX,f0];refine⟨trivial,a,m,a_,r,x,rfl,A.ext e5,hx,left,x.1,rfl,by omega,?_⟩;rw[has];cases bb:left.testBit x.1 with
      |false=>rw[bb] at kk;exact kk
      |true=>
       rw[bb] at kk;simp only[aH,g5,ym];have h_:d.length<=a_.length:=cO J λy hy=>by
        rcases(K y).1 hy with⟨z,hz,_⟩ | ⟨_,z,hz,_⟩<;>exact(YB.mp hz).1
       have hsz:(2000:Nat)<sizeLine:=by decide
       exact⟨by unfold rowK;rw[ZE];omega,kk⟩
     rw[show nats (r::l)=⇑r::nats l from rfl,aB];refine body _ ?_;cases bb:left.testBit x.1 with
     |false=>
      refine⟨UP,OZ (B++[r]) d _ M5 UO G g5 J (λW=>?_) k⟩;rw[K];constructor
      ·rintro(h | ⟨h,h'⟩)
       ·exact .inl h
       ·exact .inr ⟨YA.2 (.inl h),h'⟩
      ·rintro(h | ⟨h,h'⟩)
       ·exact .inl h
       ·rcases YA.1 h with h | h
        ·exact .inr ⟨h,h'⟩
        ·have:W=r:=by simpa using h
         subst this;obtain⟨y,hy,Kk⟩:=h';rw[hx] at hy;cases hy;rw[bb] at Kk;cases Kk
     |true=>
      refine⟨?_,OZ (B++[r]) (if r∈d then d else d++[r]) _ _ UO (G.trans (ExtBut.upd _ _ _)) aa ?_ (λW=>?_) k⟩
      ·rw[ay O8];exact UP
      ·split
       ·exact J
       ·rename_i Wf
        rw[List.nodup_append];refine⟨J,by simp,λy hy z hz w=>?_⟩;have hz:z=r:=by simpa using hz
        subst hz;subst w;exact Wf hy
      ·have Wg:W∈(if r∈d then d else d++[r])↔W∈d\/W=r:=by
        split
        ·rename_i hi
         exact⟨.inl,λh=>h.elim id λz=>z▸hi⟩
        ·simp
       rw[Wg,K];constructor
       ·rintro((h | ⟨h,h'⟩) | h)
        ·exact .inl h
        ·exact .inr ⟨YA.2 (.inl h),h'⟩
        ·subst h
         exact .inr ⟨YA.2 (.inr (.head _)),x,hx,bb⟩
       ·rintro(h | ⟨h,h'⟩)
        ·exact .inl (.inl h)
        ·rcases YA.1 h with h | h
         ·exact .inl (.inr ⟨h,h'⟩)
         ·exact .inr (by simpa using h)
   refine u _ _ [] rs _ M4 rfl (ExtBut.refl p M4) (e4 _ _ Y) nd (λr=>?_) ?_
   ·rw[Z]
    constructor
    ·exact .inl
    ·rintro(h | ⟨h,-⟩)
     ·exact h
     ·cases h
   ·intro U w C b6 g6 Wh Wi
    have UQ:ExtBut p M1 C:=(O.trans e4.but).trans b6;refine⟨(UQ.ext L hp) _ _ hb,ih (o++[f]) U _ _ C (by rw[hd];simp) UQ g6 Wh λr=>?_⟩;rw[Wi];constructor
    ·rintro(⟨x,hx,Kh,g,hg,hh⟩ | ⟨h,x,hx,Kh⟩)
     ·exact⟨x,hx,Kh,g,YA.2 (.inl hg),hh⟩
     ·exact⟨x,hx,Kh,f,YA.2 (.inr (.head _)),(wq hx).1 h⟩
    ·rintro⟨x,hx,Kh,g,hg,hh⟩
     rcases YA.1 hg with hg | hg
     ·exact .inl ⟨x,hx,Kh,g,hg,hh⟩
     ·have:g=f:=by simpa using hg
      subst this;exact .inr ⟨(wq hx).2 hh,x,hx,Kh⟩
 exact outer fs [] [] none none M1 rfl (ExtBut.refl p M1) g0 .nil λr=>by simp
theorem uH(fr:Zp):keysOf (a8 fr)=nats (fr.map (·.1)):=by unfold keysOf a8 nats;rw[ZL,ZL];rfl
theorem Bt(fr:Zp):intKeys (a8 fr)=some ((fr.map (·.1)).map λ(x:Nat)=>(x:Int)):=by
 induction fr with
 |nil=>rfl
 |cons r rs a=>
  show Option.map _ (intKeys (a8 rs))=_;rw[a];rfl
theorem qH(f:Nat):∀{fr:Zp}{r:Nat},(fr.map (·.1)).Nodup->(f,r)∈fr->valD (a8 fr) (.inl (f:Int))= ~~~r
 |[],r,_,h=>nomatch h
 |(g,s)::fr,r,nd,h=>by
  rw[YJ,YN] at nd;unfold valD;show Option.map _ (List.find? _ ((.inl (g:Int),⇑s)::a8 fr))=_;rw[XG];by_cases e:g=f
  ·subst e
   rcases ZZ.1 h with h | h
   ·cases h;simp
   ·exact absurd (XV.2 ⟨_,h,rfl⟩) nd.1
  ·have a:¬((g:Int)=(f:Int)):=by omega
   rw[show decide ((Sum.inl (g:Int):Key)=.inl (f:Int))=false by simp[a]];rcases ZZ.1 h with h | h
   ·cases h;exact absurd rfl e
   ·exact qH f nd.2 h
theorem sJ(f:Nat):∀{fr:Zp},(∀r,(f,r)∉fr)->valD (a8 fr) (.inl (f:Int))=none/\((a8 fr).any λkv=>decide (kv.1=(.inl (f:Int):Key)))=false
 |[],_=>⟨rfl,rfl⟩
 |(g,s)::fr,h=>by
  have e:g≠f:=λz=>by subst z;exact h s (.head _)
  have a:¬((g:Int)=(f:Int)):=by omega
  have b:=sJ f (fr:=fr) λr d=>h r (.tail _ d)
  constructor
  ·unfold valD
   show Option.map _ (List.find? _ ((.inl (g:Int),⇑s)::a8 fr))=_;rw[XG,show decide ((Sum.inl (g:Int):Key)=.inl (f:Int))=false by simp[a]];exact b.1
  ·show(List.any ((.inl (g:Int),⇑s)::a8 fr) _)=false
   rw[XH,b.2,show decide ((Sum.inl (g:Int):Key)=.inl (f:Int))=false by simp[a]];rfl
theorem Dg{f r:Nat}{fr:Zp}(h:∀r,(f,r)∉fr):putD (a8 fr) (.inl (f:Int)) (⇑r)=a8 (fr++[(f,r)]):=by
 unfold putD;rw[(sJ f h).2];unfold a8;rw[ZK];rfl
theorem sK(f0:cn.F.getD 0 Yl=ce c)(hT:cn.T S "head_of" = some (eR c S))(RX:cn.T S "conds_of" = some (di c S))(h:da c S ds M Q):wSs cn gQ (fin Q) (ad ["","","","","","",""] ds) M:=by
 obtain⟨a,m,a_,b,ns,h,g,rfl,A,hb,LF,q⟩:=h;show wSs cn gQ (fin Q) [↑a,↑b,~~~h,~~~g,none,none,none] M;have hm:=A.ok.most;unfold gQ;simp! only[List.set];intro p hp;have O:Ext M (updM M p (MO.dic [])):=Ext.new hp;have g0:updM M p (MO.dic []) p=some (.dic (a8 [])):=aa;generalize updM M p (MO.dic [])=M1 at *;unfold j6;simp! only[List.set,O b _ hb];have K_:b≠p:=aR hb hp;have outer:∀(k j:Zj) (fr:Zp) (P n:Zz) (M2:MH),ns=j++k->ExtBut p M1 M2->M2 p=some (.dic (a8 fr))->(fr.map (·.1)).Nodup->(∀f r,(f,r)∈fr↔j.find? (hits a_ h g f)=some r) ->
   aB (λM'=>M' b=some (.lst (nats ns))) (.nm 5) (wSs cn cG) { nx:=wSs cn eV (fin Q),rt:=Q } (nats k) [↑a,↑b,~~~h,~~~g,↑p,P,n] M2:=by
  intro k;induction k with
  |nil=>
   intro j fr P n M2 hd o u nd l;rw[ZA] at hd;subst hd;rw[show nats []=[] from rfl,aB];unfold eV;simp! only[];exact q p fr M2 hp (o.ext O hp) u nd l
  |cons r k R=>
   intro j fr P n M2 hd o u nd l;have B:Ext M M2:=o.ext O hp;have Ny:r<a_.length:=LF r (by rw[hd];simp);have hx:a_[r]?=some a_[r]:=ZC Ny;generalize a_[r]=x at hx;have U:ns=(j++[r])++k:=by rw[hd];simp
   have Nh:=nY A.ok hx;have Kg:∀f∈fr.map (·.1),f<m:=by
    intro f hf;obtain⟨⟨f',d⟩,V,rfl⟩:=XV.1 hf;obtain⟨y,hy,Wj,_⟩:=jB.1 (List.find?_some ((l _ _).1 V));rw[←Wj];exact(nY A.ok hy).1
   have h_:fr.length<=m:=by have:=cO nd Kg;rwa [ZE] at this
   have body:∀(E:EndsD) (n:Zz),((∃d,(x.1,d)∈fr)->E.nx [↑a,↑b,~~~h,~~~g,↑p,~~~r,~~~x.1] M2) ->
     ((∀d,(x.1,d)∉fr)->∀G,Ext M2 G->Bif (aV h g x) (E.nx [↑a,↑b,~~~h,~~~g,↑p,~~~r,~~~x.1] (updM G p (.dic (a8 (fr++[(x.1,r)]))))) (E.nx [↑a,↑b,~~~h,~~~g,↑p,~~~r,~~~x.1] G)) ->
     wSs cn cG E [↑a,↑b,~~~h,~~~g,↑p,~~~r,n] M2:=by
    intro E n k1 k2;obtain⟨ok,k_,p1,p2,p3,z_,x_,B',Z,-⟩:=A.ext B;unfold cG;simp! only[List.set,Z,ld,hT];refine⟨trivial,a,m,a_,r,x,rfl,A.ext B,hx,?_⟩;unfold jZ;simp! only[List.set,Z,fZ,RX,u,rdL,rdD,rl,f0];by_cases L_:∃d,(x.1,d)∈fr
    ·obtain⟨d,K⟩:=L_
     rw[qH x.1 nd K];exact k1 ⟨d,K⟩
    ·have C:∀d,(x.1,d)∉fr:=λd z=>L_ ⟨d,z⟩
     rw[(sJ x.1 C).1];simp only[Option.isSome_none,Bool.not_false,aH];refine⟨trivial,a,m,a_,r,x,rfl,A.ext B,hx,λp4 rs M4 K3 e4 g4 c4=>?_⟩;refine⟨p4,h,g,rs,x.2,rfl,g4,c4,λt ht=>CT.fit_ok 'b' (Nh.2.2 t ht),λM5 e5=>?_⟩;have L:=k2 C M5 (e4.trans e5);have rm:x.2.all (CT.carried (h:Int) (g:Int))=aV h g x:=rfl;rw[rm];cases bb:aV h g x with
     |false=>rw[bb] at L;exact L
     |true=>
      rw[bb] at L;have hsz:(2000:Nat)<sizeLine:=by decide
      simp only[aH,(e4.trans e5) p _ u,Dg C];exact⟨by unfold a8;rw[ZE];omega,L⟩
   rw[show nats (r::k)=⇑r::nats k from rfl,aB];refine body _ _ ?_ ?_
   ·rintro⟨d,K⟩
    refine⟨B _ _ hb,R (j++[r]) fr _ _ M2 U o u nd λf W=>?_⟩;rw[l,List.find?_append];by_cases hf:x.1=f
    ·subst hf
     rw[(l _ _).1 K];rfl
    ·have:hits a_ h g f r=false:=by unfold hits;rw[hx];simp[hf]
     rw[XG,this,List.find?_nil,Option.or_none]
   ·intro C G J
    have RY:j.find? (hits a_ h g x.1)=none:=by
     cases e:j.find? (hits a_ h g x.1) with
     |none=>rfl
     |some d=>exact absurd ((l _ _).2 e) (C d)
    cases bb:aV h g x with
    |false=>
     refine⟨(B.trans J) _ _ hb,R (j++[r]) fr _ _ G U (o.trans J.but) (J _ _ u) nd λf W=>?_⟩;rw[l,List.find?_append];have:hits a_ h g f r=false:=by unfold hits;rw[hx];simp[bb]
     rw[XG,this,List.find?_nil,Option.or_none]
    |true=>
     refine⟨?_,R (j++[r]) (fr++[(x.1,r)]) _ _ _ U ((o.trans J.but).trans (ExtBut.upd _ _ _)) aa ?_ λf W=>?_⟩
     ·rw[ay K_];exact(B.trans J) _ _ hb
     ·rw[ZK,List.nodup_append]
      refine⟨nd,by simp,λy hy z hz w=>?_⟩;have hz:z=x.1:=by simpa using hz
      subst hz;subst w;obtain⟨⟨f',d⟩,V,Y⟩:=XV.1 hy;have Y:f'=x.1:=Y;subst Y;exact C d V
     ·rw[YA,l,List.find?_append]
      by_cases hf:x.1=f
      ·subst hf
       have:hits a_ h g x.1 r=true:=by unfold hits;rw[hx];simp[bb]
       rw[RY,XG,this];simp only[Option.none_or,ZZ,List.not_mem_nil,or_false,Prod.mk.injEq,true_and,Option.some.injEq];constructor
       ·rintro(h | h)
        ·cases h
        ·exact h.symm
       ·exact λh=>.inr h.symm
      ·have:hits a_ h g f r=false:=by unfold hits;rw[hx];simp[hf]
       rw[XG,this,List.find?_nil,Option.or_none];constructor
       ·rintro(h | h)
        ·exact h
        ·have:f=x.1/\W=r:=by simpa using h
         exact absurd this.1.symm hf
       ·exact .inl
 exact outer ns [] [] none none M1 rfl (ExtBut.refl p M1) g0 .nil λf r=>by simp
end
def jD:Ss:=#v[.ret (.fn 0 #v[.comp 1 (.ix (.var 4) (.int 0)) (.nm 4) (.seq (.fn 1 #v[.var 0,.var 1,.var 2,.var 3])) .no])]
def kK:Ss:=#v[.ret (.var 4)]
def kL:Ss:=#v[.set 8 (.fn 0 #v[.var 0,.fn 1 #v[.var 0,.var 8,.var 5],.var 7,.var 3])]
def kM:Ss:=.cons (.set 6 (.bin .Add (.var 6) (.int 1))) kL
def kN:Ss:=.cons (.set 5 (.bin .BitAnd (.var 5) (.inv (.var 9)))) kM
def kO:Ss:=.cons (.set 7 (.bin .BitOr (.var 7) (.var 9))) kN
def kP:Ss:=.cons (.set 9 (.fn 2 #v[.var 8])) kO
def fT:Ss:=.cons (.expr (.mt .extend (.var 4) #v[.comp 1 (.tup #v[.var 10,.var 6,.ix (.var 8) (.var 10)]) (.nm 10) (.seq (.bk .sorted #v[.var 8])) .no])) kP
def kQ:Ss:=.cons (.while (.cmp .Gt (.bi .len #v[.var 8]) (.int 0)) fT) kK
def kR:Ss:=.cons (.set 8 (.fn 0 #v[.var 0,.fn 3 #v[.var 0,.var 5],.var 7,.var 3])) kQ
def kS:Ss:=.cons (.set 7 (.var 2)) kR
def j7:Ss:=.cons (.set 6 (.int 1)) kS
def j8:Ss:=.cons (.set 5 (.bin .BitAnd (.var 1) (.inv (.var 2)))) j7
def iL:Ss:=.cons (.setC 4 1 (.tup #v[.var 10,.int 0,.non]) (.nm 10) (.seq (.fn 4 #v[.var 2])) .no) j8
def mN(x:Nat×Nat×Nat):D:=.tup [⇑x.1,.int (x.2.1:Int),.int (x.2.2:Int)]
def mO(f:Nat):D:=.tup [⇑f,.int 0,.non]
def db(a_:Zy)(g told heads:Nat):List D:=(memb told).map mO++(bw a_ g (av heads told+1) 1 told (av heads told)).map mN
def jE(c:CA)(S:Addr):SpD:=λds M Q=>∃(a:Addr) (m:Nat) (a_:Zy) (heads told g:Nat),ds=[.ref a,⇑heads,⇑told,⇑g]/\SheetAt c S M a m a_/\a_.length<64/\m<64/\heads<2 ^ m/\told<2 ^ m /\
 ∀p M',M p=none->Ext M M'->M' p=some (.lst (db a_ g told heads))->Q (.ref p) M'
def iM(c:CA)(S:Addr):SpD:=λds M Q=>∃(a:Addr) (m:Nat) (a_:Zy) (heads told g:Nat),ds=[.ref a,⇑heads,⇑told,⇑g]/\SheetAt c S M a m a_/\a_.length<64/\m<64/\heads<2 ^ m/\told<2 ^ m /\
 ∀M',Ext M M'->Q (.int (iK a_ g told heads:Nat)) M'
theorem wt(a_:Zy)(h g left:Nat):aF a_ h g left=((memb left).filter λf=>(bu a_ h g f).isSome).map λf=>(f,(bu a_ h g f).getD 0):=by
 unfold aF;induction memb left with
 |nil=>rfl
 |cons f l a=>
  rw[List.filterMap_cons,XU];cases e:bu a_ h g f with
  |none=>simpa using a
  |some r=>simp[a,e]
theorem zw(n:Nat):(memb n).Pairwise (· < ·):=List.Pairwise.filter _ List.pairwise_lt_range
theorem EM{n m:Nat}(h:n<2 ^ m):(memb n).length<=m:=cO (o9 n) λf hf=>dF h ((dq _ _).1 hf)
theorem yw(a_:Zy)(h g left:Nat):(aF a_ h g left).map (·.1)=(memb left).filter λf=>(bu a_ h g f).isSome:=by
 rw[wt,ZL];exact List.map_id _
theorem pN(a_:Zy)(h g left:Nat):((aF a_ h g left).map (·.1)).Pairwise (· < ·):=by
 rw[yw];exact List.Pairwise.filter _ (zw left)
theorem Bu{l a:Zj}(h:∀f,f∈l↔f∈a):setN l=setN a:=by
 refine XY λf=>?_
 rw[bv,bv];exact decide_eq_decide.2 (h f)
theorem wu{a_:Zy}{g:Nat}:∀(k k' step a left:Nat),left<k->left<k'->bw a_ g k step a left=bw a_ g k' step a left
 |0,_,_,_,_,h,_=>absurd h (Nat.not_lt_zero _)
 |_,0,_,_,_,_,h=>absurd h (Nat.not_lt_zero _)
 |k+1,k'+1,step,a,left,h,h'=>by
  rw[bw,bw];by_cases e:aF a_ a g left=[]
  ·rw[if_pos e,if_pos e]
  ·rw[if_neg e,if_neg e]
   have:=pk e
   rw[wu k k' _ _ _ 'b' 'b']
theorem iN{a_:Zy}{g:Nat}:∀(k step a left:Nat),((bw a_ g k step a left).map (·.1)).Nodup/\∀f∈(bw a_ g k step a left).map (·.1),left.testBit f=true
 |0,_,_,_=>⟨.nil,λf h=>nomatch h⟩
 |k+1,step,a,left=>by
  rw[bw];by_cases e:aF a_ a g left=[]
  ·rw[if_pos e];exact⟨.nil,λf h=>nomatch h⟩
  ·rw[if_neg e]
   obtain⟨c,b⟩:=iN (a_:=a_) (g:=g) k (step+1) (a|||newB (aF a_ a g left)) (av left (newB (aF a_ a g left)));have d:((aF a_ a g left).map λx=>(x.1,step,x.2)).map (·.1)=(aF a_ a g left).map (·.1):=by rw[ZL];rfl
   have j:∀f∈(aF a_ a g left).map (·.1),left.testBit f=true:=by
    intro f hf;obtain⟨⟨f',r⟩,hx,rfl⟩:=XV.1 hf;exact(du.1 hx).1
   rw[ZK,d];refine⟨?_,λf hf=>?_⟩
   ·rw[List.nodup_append]
    refine⟨(pN a_ a g left).imp λh=>ZT h,c,λx hx y hy z=>?_⟩;subst z
    have:=b x hy
    rw[aZ] at this;have l:(newB (aF a_ a g left)).testBit x=true:=by unfold newB;rw[bv];exact YV hx
    rw[l,Bool.not_true,Bool.and_false] at this;cases this
   ·rcases YA.1 hf with hf | hf
    ·exact j f hf
    ·have:=b f hf
     rw[aZ,YY] at this;exact this.1
theorem Bv{p:Nat->Bool}{ns:Zj}{n:Nat}(c:ns.Pairwise (· < ·))(hl:∀r∈ns,r<n)(hp:∀r,r<n->p r=true->r∈ns):ns.find? p=(List.range n).find? p:=by
 have d:ns.filter p=(List.range n).filter p:=pq (List.Pairwise.filter _ c) (List.Pairwise.filter _ List.pairwise_lt_range) λx=>by
  rw[ZU,ZU,ZV];exact⟨λ⟨a,b⟩=>⟨hl x a,b⟩,λ⟨a,b⟩=>⟨hp x a b,b⟩⟩
 rw[←List.head?_filter,←List.head?_filter,d]
theorem yx{a_:Zy}{h g left:Nat}{ns:Zj}(c:ns.Pairwise (· < ·))(hl:∀r∈ns,∃x,a_[r]?=some x/\left.testBit x.1=true)(hp:∀f r,left.testBit f=true->hits a_ h g f r=true->r∈ns)(f r:Nat):
  ns.find? (hits a_ h g f)=some r↔left.testBit f=true/\bu a_ h g f=some r:=by
 cases b:left.testBit f with
 |true=>
  unfold bu;rw[Bv c (λr a=>let⟨x,hx,_⟩:=hl r a;(YB.mp hx).1) λr _ q=>hp f r b q];simp
 |false=>
  have:ns.find? (hits a_ h g f)=none:=by
   rw[List.find?_eq_none];intro r a q;obtain⟨x,hx,hb⟩:=hl r a;obtain⟨y,hy,hf,_⟩:=jB.1 q;rw[hx] at hy;cases hy;rw[hf,b] at hb;cases hb
  rw[this];simp
def fF(a_:Zy)(a g left:Nat)(fr:Zp):Prop:=(fr.map (·.1)).Nodup/\∀f r,(f,r)∈fr↔left.testBit f=true/\bu a_ a g f=some r
theorem fF.mem{a_:Zy}{a g left:Nat}{fr:Zp}(h:fF a_ a g left fr)(f:Nat):f∈fr.map (·.1)↔f∈(aF a_ a g left).map (·.1):=by
 rw[XV,XV];constructor
 ·rintro⟨⟨f',r⟩,hx,rfl⟩;exact⟨_,du.2 ((h.2 _ _).1 hx),rfl⟩
 ·rintro⟨⟨f',r⟩,hx,rfl⟩;exact⟨_,(h.2 _ _).2 (du.1 hx),rfl⟩
theorem fF.nil{a_:Zy}{a g left:Nat}{fr:Zp}(h:fF a_ a g left fr)(e:fr.length=0):aF a_ a g left=[]:=by
 have e:fr=[]:=List.length_eq_zero_iff.1 e;subst e;cases q:aF a_ a g left with
 |nil=>rfl
 |cons x l=>
  have:=(h.mem x.1).2 (by rw[q];exact .head _)
  cases this
theorem Bw{m:Nat}{a_:Zy}{a g left:Nat}{fr:Zp}{ns:Zj}(ok:RowsOk m a_)(h:fF a_ a g left fr)(n:ns.Pairwise (· < ·))
  (c:∀r,r∈ns ↔ ∃x,a_[r]?=some x/\(av left (setN (fr.map (·.1)))).testBit x.1=true/\∃f∈fr.map (·.1),ba (cj x) f=true) (f r:Nat):
  ns.find? (hits a_ (a|||setN (fr.map (·.1))) g f)=some r↔(av left (setN (fr.map (·.1)))).testBit f=true/\bu a_ (a|||setN (fr.map (·.1))) g f=some r:=by
 refine yx n (λr o=>let⟨x,hx,hb,_⟩:=(c r).1 o;⟨x,hx,hb⟩) ?_ f r;intro f r hf p;obtain⟨x,hx,rfl,hq⟩:=jB.1 p;refine(c r).2 ⟨x,hx,hf,?_⟩;rw[aZ,YY,bv] at hf;have u:x.1∉fr.map (·.1):=by simpa using hf.2
 have y:bu a_ a g x.1=none:=by
  cases e:bu a_ a g x.1 with
  |none=>rfl
  |some B=>exact absurd (XV.2 ⟨_,(h.2 _ _).2 ⟨hf.1,e⟩,rfl⟩) u
 obtain⟨d,j,l,b⟩:=zt (nF y (YT hx) rfl) hq;obtain⟨t,ht,z⟩:=List.mem_flatMap.1 j;have A:=wn ((nY ok hx).2.2 t ht) _ z;obtain⟨k,rfl⟩:∃k:Nat,d=(k:Int):=⟨d.toNat,by have:=A.1;simp only at this;omega⟩;rw[ck] at l b;rw[XZ,l,Bool.false_or,bv] at b;exact⟨k,XO b,YV j⟩
section
variable {cn:Cn}{c:CA}{S:Addr}{ds:List D}{M:MH}{Q:DK}
theorem Dh(f0:cn.F.getD 0 Yl=da c S)(f1:cn.F.getD 1 Yl=eU c S)(f2:cn.F.getD 2 Yl=bD)
  {E:EndsD}{a p b:Addr}{m:Nat}{a_:Zy}{heads told g left step j:Nat}{fr:Zp}{e_:List D}{G:Zz}{M0 M:MH}(A:SheetAt c S M0 a m a_) (hn:a_.length<64) (hm:m<64) (hl:left<2 ^ m) (V:Ext M0 M) (MN:M0 p=none) (Wl:M0 b=none)
  (hp:M p=some (.lst e_)) (hb:M b=some (.dic (a8 fr))) (F:fF a_ j g left fr) (y_:e_.length+64<=2000)
  (k:∀b' W w9 M',Ext M0 M'->M0 b'=none->M' p=some (.lst (e_++(aF a_ j g left).map λx=>mN (x.1,step,x.2)))->M' b'=some (.dic (a8 W)) ->
   fF a_ (j|||newB (aF a_ j g left)) g (av left (newB (aF a_ j g left))) W ->
   E.nx [↑a,~~~heads,~~~told,~~~g,↑p,some (.int (av left (newB (aF a_ j g left)):Nat)),some (.int ((step+1:Nat):Int)),some (.int (j|||newB (aF a_ j g left):Nat)),↑b',w9] M'):
  wSs cn fT E [↑a,~~~heads,~~~told,~~~g,↑p,~~~left,~~~step,~~~j,↑b,G] M:=by
 have Ni:newB (aF a_ j g left)=setN (fr.map (·.1)):=Bu λf=>(F.mem f).symm
 have n:∀f∈fr.map (·.1),f<m:=by
  intro f hf;obtain⟨⟨f',r⟩,hx,rfl⟩:=XV.1 hf;exact dF hl ((F.2 _ _).1 hx).1
 have N6:fr.length<=m:=by have:=cO F.1 n;rwa [ZE] at this
 have hsz:(2000:Nat)<sizeLine:=by decide
 unfold fT;simp! only[List.set,List.cons_append,XD,List.replicate,dBk,lj,hp,hb,rdL,rdD,Bt,rF];refine⟨rfl,by rw[ZE,ZE];omega,λp2 ms Y Z h2=>?_⟩;obtain⟨ns,rfl,J,u⟩:=nG Z h2 F.1;rw[qG];have K:ns=(aF a_ j g left).map (·.1):=pq J (pN _ _ _ _) λf=>(u f).trans (F.mem f)
 have L:=Ext.new (o:=MO.lst (nats ns)) Y;have O:updM M p2 (MO.lst (nats ns)) p2=some (.lst (nats ns)):=aa;generalize updM M p2 (MO.lst (nats ns))=P at *;simp only[O];refine cN (f:=λd=>match d with | .int i=>.tup [.int i,⇑step,.int ((bu a_ j g i.toNat).getD 0:Nat)] | _=>.non) (ok:=λσ=>∃v,σ=[↑a,~~~heads,~~~told,~~~g,↑p,~~~left,~~~step,~~~j,↑b,G,v]) [] _ ⟨none,rfl⟩ ?_ ?_
 ·intro d hd σ Kb rest ⟨v,R⟩ kk
  subst R;obtain⟨f,hf,rfl⟩:=XV.1 hd;obtain⟨⟨f',r⟩,hx,rfl⟩:=XV.1 ((u f).1 hf);have R:=qH f' F.1 hx;have T:=((F.2 _ _).1 hx).2;rw[ar];simp! only[List.set,L b _ hb,R];refine⟨O,?_⟩
  have:=kk [↑a,~~~heads,~~~told,~~~g,↑p,~~~left,~~~step,~~~j,↑b,G,~~~f'] ⟨_,rfl⟩
  dsimp only at this;rw[YW,T] at this;exact this
 intro U K3;have K4:([]++(nats ns).map λd=>match d with | .int i=>D.tup [.int i,⇑step,.int ((bu a_ j g i.toNat).getD 0:Nat)] | _=>.non)=(aF a_ j g left).map λx=>mN (x.1,step,x.2):=by
  rw[XD,K,wt,ZL,ZL];unfold nats;rw[ZL];rw[show((λ(x:Nat×Nat)=>x.1)∘λf=>(f,(bu a_ j g f).getD 0))=id from rfl,List.map_id];rfl
 rw[K4];have Wm:((aF a_ j g left).map λx=>mN (x.1,step,x.2)).length<=64:=by
  have h5:ns.length=(aF a_ j g left).length:=by rw[K,ZE]
  have h6:ns.length<=m:=cO (J.imp λh=>ZT h) λf hf=>n f ((u f).1 hf)
  rw[ZE];omega
 generalize hnw:((aF a_ j g left).map λx=>mN (x.1,step,x.2))=new at *;have y:=L.trans (Ext.new (o:=MO.lst new) K3);have g4:updM P U (MO.lst new) U=some (.lst new):=aa;generalize updM P U (MO.lst new)=l at *;simp only[y p _ hp,g4];refine⟨by omega,?_⟩;have e5:Ext M0 (updM l p (.lst (e_++new))):=(V.trans y).put MN;have g5:updM l p (MO.lst (e_++new)) p=some (.lst (e_++new)):=aa;have K_:b≠p:=λz=>by subst z;rw[hp] at hb;cases hb
 have b5:updM l p (MO.lst (e_++new)) b=some (.dic (a8 fr)):=by rw[ay K_];exact y _ _ hb
 generalize updM l p (MO.lst (e_++new))=M5 at *;clear y g4 K3 L O Y K4 Z h2 K J u hb hp V;clear P l M;unfold kP;simp! only[List.set,f2];refine⟨.ref b,fr.map (·.1),updM M5 b (.rod (a8 fr)),rfl,.inr ⟨b,rfl,.inr ⟨a8 fr,uH fr,.inl ⟨b5,rfl⟩⟩⟩,λf hf=>by have:=n f hf;omega,?_⟩;have B:Ext M0 (updM M5 b (.rod (a8 fr))):=e5.put Wl;have b6:updM M5 b (MO.rod (a8 fr)) b=some (.rod (a8 fr)):=aa;have g6:updM M5 b (MO.rod (a8 fr)) p=some (.lst (e_++new)):=by rw[ay K_.symm];exact g5
 generalize updM M5 b (MO.rod (a8 fr))=M6 at *;unfold kO;simp! only[List.set,ye];unfold kN;simp! only[wInv,List.set,fD];unfold kM;simp! only[List.set];unfold kL;simp! only[List.set,f0,f1];refine⟨a,m,a_,b,a8 fr,fr.map (·.1),_,rfl,A.ext B,hn,b6,uH fr,n,λp7 Wn M7 Yq C g7 s7 r7=>?_⟩;refine⟨a,m,a_,p7,Wn,_,g,rfl,A.ext (B.trans C),g7,λr T=>?_,λp8 Wo M8 Wq e8 g8 n8 r8=>?_⟩
 ·obtain⟨x,hx,_⟩:=(r7 r).1 T
  exact(YB.mp hx).1
 have:=k p8 Wo (some (.int (setN (fr.map (·.1)):Nat))) M8 ((B.trans C).trans e8) ((B.trans C).free Wq) ((C.trans e8) _ _ g6) g8
 rw[Ni] at this;exact this ⟨n8,λf r=>(r8 f r).trans (Bw A.ok F s7 r7 f r)⟩
end
theorem sk{m:Nat}{a_:Zy}{g told heads:Nat}(c:told<2 ^ m)(d:heads<2 ^ m):(db a_ g told heads).length<=2*m:=by
 unfold db;rw[ZJ,ZE,ZE];have a:=EM c;obtain⟨nd,hf⟩:=iN (a_:=a_) (g:=g) (av heads told+1) 1 told (av heads told);have b:=cO (n:=m) nd λf q=>dF d (by have:=hf f q;rw[aZ,YY] at this;exact this.1)
 rw[ZE] at b;omega
section
variable {cn:Cn}{c:CA}{S:Addr}{ds:List D}{M:MH}{Q:DK}
theorem Di (L:cn.F.getD 0 Yl = da c S) (f1:cn.F.getD 1 Yl = eU c S) (f2:cn.F.getD 2 Yl = bD) (f3:cn.F.getD 3 Yl = mL c S) (f4:cn.F.getD 4 Yl = hV)
  (h:jE c S ds M Q):wSs cn iL (fin Q) (ad ["","","","","","","","","",""] ds) M:=by
 obtain ⟨a,m,a_,heads,told,g,rfl,A,hn,hm,hh,ht,q⟩:=h
 show wSs cn iL (fin Q) [↑a,~~~heads,~~~told,~~~g,none,none,none,none,none,none] M
 have Yr:=sk (a_:=a_) (g:=g) ht hh
 unfold iL
 simp! only [List.cons_append,XD,List.replicate,f4]
 refine ⟨told,rfl,ZR ht (Nat.pow_le_pow_right 'a' 'b'),λp0 M1 MN u y=>?_⟩
 simp only [y]
 refine cN (f:=λd=>.tup [d,.int 0,.non]) (ok:=λσ=>∃ v,σ = [↑a,~~~heads,~~~told,~~~g,none,none,none,none,none,none,v]) [] _ ⟨none,rfl⟩ ?_ ?_
 ·intro d hd σ Kb rest ⟨v,hv⟩ kk
  subst hv
  exact ⟨y,kk _ ⟨_,rfl⟩⟩
 intro p hp
 have K4:([] ++ (nats (memb told)).map λd=>D.tup [d,.int 0,.non]) = (memb told).map mO:=by
  rw [XD]; unfold nats; rw [ZL]; rfl
 rw [K4]
 have l:Ext M (updM M1 p (.lst ((memb told).map mO))):=u.then hp
 have g2:updM M1 p (MO.lst ((memb told).map mO)) p = some (.lst ((memb told).map mO)):=aa
 have O:M p = none:=u.free hp
 generalize updM M1 p (MO.lst ((memb told).map mO)) = M2 at *
 clear hp u y MN
 clear M1
 unfold j8
 simp! only [wInv,List.set,fD]
 unfold j7
 simp! only [List.set]
 unfold kS
 simp! only [List.set]
 unfold kR
 simp! only [List.set,L,f3]
 have hl:av heads told < 2 ^ m:=by have:=o8 heads told; omega
 refine ⟨a,m,a_,av heads told,rfl,A.ext l,hn,hl,λp3 ns M3 LX n g3 s3 B=>?_⟩
 refine ⟨a,m,a_,p3,ns,told,g,rfl,A.ext (l.trans n),g3,λr C=>?_,λb fr P hb R g4 n4 r4=>?_⟩
 ·obtain ⟨x,hx,_⟩:=(B r).1 C
  exact (YB.mp hx).1
 have F4:fF a_ told g (av heads told) fr:=⟨n4,λf r=>(r4 f r).trans (yx s3 (λr C=>(B r).1 C) (λf r h1 h2=>by
  obtain ⟨x,hx,rfl,_⟩:=jB.1 h2
  exact (B r).2 ⟨x,hx,h1⟩) f r)⟩
 have Wr:M b = none:=(l.trans n).free hb
 have e5:Ext M P:=(l.trans n).trans R
 have g5:P p = some (.lst ((memb told).map mO)):=(n.trans R) _ _ g2
 unfold kQ
 show t7 _ _ _ _ _
 refine ⟨λk σ M'=>∃ (left step j:Nat) (b:Addr) (fr:List (Nat × Nat)) (G:Zz) (e_:List D),left = k/\σ = [↑a,~~~heads,~~~told,~~~g,↑p,~~~left,~~~step,~~~j,↑b,G] /\
  Ext M M'/\M b = none/\M' p = some (.lst e_)/\M' b = some (.dic (a8 fr))/\fF a_ j g left fr/\left < 2 ^ m/\e_ ++ (bw a_ g (left + 1) step j left).map mN = db a_ g told heads,?_,?_⟩
 ·exact ⟨_,av heads told,1,told,b,fr,none,_,rfl,rfl,e5,Wr,g5,g4,F4,hl,rfl⟩
 rintro k σ M' ⟨left,step,j,b,fr,G,e_,rfl,rfl,T,Ws,U,V,J,Wt,o⟩
 have O9:=congrArg List.length o
 rw [ZJ] at O9
 have Ur:∀ K:Bool->MH->Prop,K (decide (0 < (fr.length:Int))) M'->wT cn (.cmp .Gt (.bi .len (.cons (.var 8) .nil)) (.int 0)) [↑a,~~~heads,~~~told,~~~g,↑p,~~~left,~~~step,~~~j,↑b,G] M' K:=by
  intro K hK
  simp! only [List.set,V]
  rw [show (a8 fr).length = fr.length by unfold a8; rw [ZE]]
  exact hK
 refine Ur _ ?_
 by_cases hz:fr.length = 0
 ·rw [ZP 'b']
  have Kw:=J.nil hz
  rw [bw,if_pos Kw,YZ,ZA] at o
  rw [ag]
  dsimp only
  unfold kK
  simp! only [List.set]
  refine q p M' O T ?_
  rw [U,o]
 ·rw [YV 'b']
  have W:aF a_ j g left ≠ []:=λz=>by
   have hx:fr ≠ []:=λw=>hz (by rw [w]; rfl)
   obtain ⟨x,hx⟩:=List.exists_mem_of_ne_nil _ hx
   have:=(J.mem x.1).1 (XV.2 ⟨x,hx,rfl⟩)
   rw [z] at this; cases this
  have Y:=pk W
  rw [aH]
  refine ⟨λg_ Z=>∃ k',k' < left/\_,λg_ Z h=>h,?_⟩
  refine Dh L f1 f2 A hn hm Wt T O Ws U V J 'b' ?_
  intro b' Qf w9 Z e7 RZ g7 d7 F7
  refine ⟨_,Y,_,step + 1,_,b',Qf,w9,_,rfl,rfl,e7,RZ,g7,d7,F7,by omega,?_⟩
  have r1:bw a_ g (left + 1) step j left = (aF a_ j g left).map (λx=>(x.1,step,x.2)) ++ bw a_ g left (step + 1) (j ||| newB (aF a_ j g left)) (av left (newB (aF a_ j g left))):=by rw [bw,if_neg W]
  rw [← o,r1,ZK,ZL,List.append_assoc,wu (av left (newB (aF a_ j g left)) + 1) left _ _ _ 'b' Y]
  rfl
theorem vy(k:cn.F.getD 0 Yl=bD)(l:cn.F.getD 1 Yl=jE c S)(h:iM c S ds M Q):wSs cn jD (fin Q) (ad ["","","",""] ds) M:=by
 obtain⟨a,m,a_,heads,told,g,rfl,A,hn,hm,b,ht,q⟩:=h;show wSs cn jD (fin Q) [↑a,~~~heads,~~~told,~~~g] M;unfold jD;simp! only[List.cons_append,XD,List.replicate,k,l];refine⟨a,m,a_,heads,told,g,rfl,A,hn,hm,b,ht,λp M1 hp n j=>?_⟩;simp only[j];have o:∀d∈db a_ g told heads,∃(f:Nat) (r:List D),d=.tup (⇑f::r):=by
  intro d hd;rcases YA.1 hd with hd | hd
  ·obtain⟨f,_,rfl⟩:=XV.1 hd
   exact⟨f,_,rfl⟩
  ·obtain⟨x,_,rfl⟩:=XV.1 hd
   exact⟨x.1,_,rfl⟩
 refine cN (f:=λd=>match d with | .tup (h::_)=>h | _=>.non) (ok:=λσ=>∃v,σ=[↑a,~~~heads,~~~told,~~~g,v]) [] _ ⟨none,rfl⟩ ?_ ?_
 ·intro d hd σ C rest ⟨v,u⟩ y
  subst u;obtain⟨f,r,rfl⟩:=o d hd;rw[ar];simp! only[List.set,at0];exact⟨j,y _ ⟨_,rfl⟩⟩
 intro p2 z;have B:([]++(db a_ g told heads).map λd=>match d with | .tup (h::_)=>h | _=>.non)=nats (memb told++(bw a_ g (av heads told+1) 1 told (av heads told)).map (·.1)):=by
  rw[XD];unfold db nats;rw[ZK,ZK,ZL,ZL,ZL];rfl
 rw[B];refine⟨.ref p2,_,_,rfl,.inr ⟨p2,rfl,.inl ⟨aa,rfl⟩⟩,?_,?_⟩
 ·intro f hf
  rcases YA.1 hf with hf | hf
  ·have:=dF ht ((dq _ _).1 hf);omega
  ·have:=(iN _ _ _ _).2 f hf
   rw[aZ,YY] at this
   have:=dF b this.1
   omega
 ·have:setN (memb told++(bw a_ g (av heads told+1) 1 told (av heads told)).map (·.1))=iK a_ g told heads:=by
   refine XY λf=>?_
   unfold iK;rw[XZ,bv,bv];cases e:told.testBit f with
   |true=>rw[Bool.true_or];exact YV (YA.2 (.inl ((dq _ _).2 e)))
   |false=>
    rw[Bool.false_or];refine decide_eq_decide.2 ⟨λh=>?_,λh=>YA.2 (.inr h)⟩;rcases YA.1 h with h | h
    ·rw[(dq _ _).1 h] at e;cases e
    ·exact h
  rw[this];exact q _ (n.then z)
end
theorem ExtBut.put{p r:Addr}{o:MO}{M M':MH}(h:ExtBut p M M')(b:M r=none):ExtBut p M (updM M' r o):=λa u n q=>by
 have:a≠r:=λz=>by subst z;rw[b] at q;cases q
 rw[ay this];exact h a u n q
theorem modB{y m:Int}(h:0<m):0<=y%m/\y%m<m:=⟨Int.emod_nonneg _ 'b',Int.emod_lt_of_pos _ h⟩
theorem cP(m:Nat):bA 0 (m:Int)=nats (List.range m):=by
 unfold bA nats;rw[show((m:Int)-0).toNat=m by omega];refine ZM λi _=>?_
 rw[Int.zero_add]
theorem wv(fs:Zj):nats fs=intL (fs.map λ(f:Nat)=>(f:Int)):=by unfold nats intL;rw[ZL];rfl
theorem Bx(b:Zj)(i:Nat):(nats b).eraseIdx i=nats (b.eraseIdx i):=by
 unfold nats;induction b generalizing i with
 |nil=>rfl
 |cons a r c=>
  cases i with
  |zero=>rfl
  |succ i=>rw[YJ,List.eraseIdx_cons_succ,List.eraseIdx_cons_succ,YJ,c]
theorem uI{b:Type}:∀{l:List b}{i:Nat}{x:b},l[i]?=some x->(x::l.eraseIdx i).Perm l
 |[],_,_,h=>by simp at h
 |a::l,0,x,h=>by
  rw[List.getElem?_cons_zero] at h;cases h;exact List.Perm.refl _
 |a::l,i+1,x,h=>by
  rw[List.getElem?_cons_succ] at h;rw[List.eraseIdx_cons_succ];exact(List.Perm.swap _ _ _).trans ((uI h).cons a)
theorem zx{fs:Zj}(h:fs.Nodup):(fs.map λ(f:Nat)=>(f:Int)).Nodup:=by
 unfold List.Nodup;rw[List.pairwise_map];exact List.Pairwise.imp (λh z=>h 'b') h
structure Drawn (m:Nat) (rs fs:Zj):Prop where
 nd:(fs++rs).Nodup
 lt:∀f∈fs++rs,f<m
 len:fs.length+rs.length=m
theorem Drawn.pop{m:Nat}{rs fs:Zj}{i x:Nat}(h:Drawn m rs fs)(hx:rs[i]?=some x):Drawn m (rs.eraseIdx i) (fs++[x]):=by
 have hp:(fs++[x]++rs.eraseIdx i).Perm (fs++rs):=by
  rw[List.append_assoc];exact List.Perm.append_left _ (uI hx)
 have hl:=hp.length_eq;refine⟨hp.nodup_iff.2 h.nd,λf hf=>h.lt f (hp.mem_iff.1 hf),?_⟩
 have:=h.len
 simp only[ZJ] at hl ⊢;omega
def hid2(r p:Addr)(M:MH):MH:=λb=>if b=r then none else if b=p then none else M b
section
variable {r p q:Addr}{M M':MH}{o:MO}
theorem IK(r p:Addr)(M:MH)(o:MO):hid2 r p (updM M r o)=hid2 r p M:=by
 funext b;unfold hid2 updM;split<;>rfl
theorem sL(h:ExtBut p M M'):Ext (hid2 r p M) (hid2 r p M'):=λb o q=>by
 unfold hid2 at q ⊢;split at q
 ·cases q
 ·rename_i c
  rw[if_neg c];split at q
  ·cases q
  ·rename_i a
   rw[if_neg a];exact h b o a q
theorem EN(h:Ext M M'):Ext (hid2 r p M) (hid2 r p M'):=sL h.but
theorem GP(a:q≠r)(b:q≠p):hid2 r p M q=M q:=by
 unfold hid2;rw[if_neg a,if_neg b]
end
def uJ(m:Nat)(a_:Zy):Prop:=∀x∈a_,x.1<m/\x.2.length<=6/\∀t∈x.2,t.fit (m:Int)
theorem uJ.add{m:Nat}{a_:Zy}{x:Row}(h:uJ m a_)(a:x.1<m)(b:x.2.length<=6)(c:∀t∈x.2,t.fit (m:Int)):uJ m (a_++[x]):=λy hy=>by
 rcases YA.1 hy with hy | hy
 ·exact h y hy
 ·have:y=x:=by simpa using hy
  subst this;exact⟨a,b,c⟩
theorem GQ(m:Nat):(1:Int)*2 ^ (m:Int).toNat=((2 ^ m:Nat):Int):=by rw[YW,Int.one_mul];simp
theorem Af{a_:Zy}{g told heads m:Nat}(b:told<2 ^ m)(c:heads<2 ^ m):iK a_ g told heads<2 ^ m:=by
 refine Nat.lt_pow_two_of_testBit _ λf hf=>?_
 unfold iK;have a:told.testBit f=false:=Nat.testBit_lt_two_pow (ZR b (Nat.pow_le_pow_right 'a' hf));rw[XZ,bv,a,Bool.false_or];refine ZP λh=>?_
 have:=(iN _ _ _ _).2 f h
 rw[aZ,YY] at this
 have:=dF c this.1
 omega
theorem bV.uniq{a_:Zy}{told g n n':Nat}(h:bV a_ told g n)(h':bV a_ told g n'):n=n':=by
 refine XY λf=>?_
 have a:=h.2 _ h'.1 f;have b:=h'.2 _ h.1 f;cases e:n.testBit f with
 |true=>exact(a e).symm
 |false=>
  cases e':n'.testBit f with
  |false=>rfl
  |true=>rw[b e'] at e;cases e
theorem Sub.antisymm{a b:Nat}(h:Sub a b)(h':Sub b a):a=b:=by
 refine XY λf=>?_
 cases e:a.testBit f with
 |true=>exact(h f e).symm
 |false=>
  cases e':b.testBit f with
  |false=>rfl
  |true=>rw[h' f e'] at e;cases e
theorem Sub.zero(a:Nat):Sub 0 a:=λf h=>by rw[Nat.zero_testBit] at h;cases h
def cnt(m n:Nat):Nat:=(List.range m).countP λf=>n.testBit f
theorem ww{p q:Nat->Bool}{f:Nat}(hp:p f=false)(hq:q f=true)(h:∀x,p x=true->q x=true):∀{l:Zj},f∈l->l.countP p<l.countP q
 |[],hf=>by cases hf
 |a::l,hf=>by
  have le:l.countP p<=l.countP q:=List.countP_mono_left λx _=>h x
  rw[List.countP_cons,List.countP_cons];rcases ZZ.1 hf with rfl | hf
  ·rw[hp,hq];simp;omega
  ·have:=ww hp hq h hf
   cases e:p a with
   |true=>rw[h a e];simp;omega
   |false=>
    cases q a with
    |true=>simp;omega
    |false=>simp;omega
theorem Ag{m a b:Nat}(h:Sub a b):cnt m a<=cnt m b:=List.countP_mono_left λf _=>h f
theorem Ah(m n:Nat):cnt m n<=m:=by
 have:=List.countP_le_length (p:=λf=>n.testBit f) (l:=List.range m)
 rw[ZI] at this;exact this
theorem Ai{m a b:Nat}(h:Sub a b)(d:a≠b)(hb:b<2 ^ m):cnt m a<cnt m b:=by
 have:∃f,a.testBit f=false/\b.testBit f=true:=by
  refine Classical.byContradiction λz=>d (h.antisymm λf hf=>?_)
  cases e:a.testBit f with
  |true=>rfl
  |false=>exact absurd ⟨f,e,hf⟩ z
 obtain⟨f,g,c⟩:=this;exact ww g c h (ZV.2 (dF hb c))
def bg(a_:Zy)(heads wide narrow known:Nat):Nat×Nat:=(iK a_ known wide heads,iK a_ (iK a_ known wide heads) narrow heads)
def aL(x:Nat×Nat):D:=.tup [⇑x.1,⇑x.2]
structure Rounds0 (a_:Zy) (heads wide narrow known:Nat) (ps:Zp):Prop where
 first:ps[0]?=some (bg a_ heads wide narrow known)
 next:∀i x y,ps[i]?=some x->ps[i+1]?=some y->y=bg a_ heads wide narrow x.2/\y≠x
structure Rounds (a_:Zy) (heads wide narrow known:Nat) (ps:Zp):Prop extends Rounds0 a_ heads wide narrow known ps where
 last:∀x,ps.getLast?=some x->bg a_ heads wide narrow x.2=x
section
variable {a_:Zy}{heads wide narrow known m:Nat}
theorem yy(a:heads<2 ^ m)(b:wide<2 ^ m)(c:narrow<2 ^ m)(known:Nat):(bg a_ heads wide narrow known).1<2 ^ m/\(bg a_ heads wide narrow known).2<2 ^ m:=⟨Af b a,Af c a⟩
theorem By(b:∀x∈a_,heads.testBit x.1=true){k k':Nat}(h:Sub k k'):Sub (bg a_ heads wide narrow k').1 (bg a_ heads wide narrow k).1/\Sub (bg a_ heads wide narrow k).2 (bg a_ heads wide narrow k').2:=by
 have a:Sub (bg a_ heads wide narrow k').1 (bg a_ heads wide narrow k).1:=bV.anti h (cF b) (cF b);exact⟨a,bV.anti a (cF b) (cF b)⟩
def farP(m:Nat)(x:Nat×Nat):Nat:=cnt m x.1+(m-cnt m x.2)
theorem GR(m:Nat)(x:Nat×Nat):farP m x<=2*m:=by
 unfold farP
 have:=Ah m x.1
 omega
theorem GS{x y:Nat×Nat}(a:Sub y.1 x.1)(b:Sub x.2 y.2)(c:y≠x)(d:x.1<2 ^ m)(f:y.2<2 ^ m):farP m y<farP m x:=by
 unfold farP;have j:=Ag (m:=m) a;have k:=Ag (m:=m) b;have l:=Ah m y.2;by_cases e:y.1=x.1
 ·have g:x.2≠y.2:=λz=>c (Prod.ext e z.symm)
  have:=Ai b g f
  omega
 ·have:=Ai a e d
  omega
end
def mP:Ss:=#v[.ret (.var 5)]
def mQ:Ss:=#v[.set 6 (.fn 0 #v[.var 0,.var 1,.ix (.var 6) (.int 1),.var 3,.var 4])]
def mR:Ss:=.cons (.expr (.mt .append (.var 5) #v[.var 6])) mQ
def mS:Ss:=.cons (.while (.cmp .NotEq (.var 6) (.ix (.var 5) (.neg (.int 1)))) mR) mP
def mT:Ss:=.cons (.set 6 (.fn 0 #v[.var 0,.var 1,.ix (.ix (.var 5) (.neg (.int 1))) (.int 1),.var 3,.var 4])) mS
def ky:Ss:=.cons (.set 5 (.lst #v[.fn 0 #v[.var 0,.var 1,.var 2,.var 3,.var 4]])) mT
def nZ:Ss:=#v[.ret (.tup #v[.var 5,.fn 0 #v[.var 0,.var 1,.var 4,.var 5]])]
def lW:Ss:=.cons (.set 5 (.fn 0 #v[.var 0,.var 1,.var 3,.var 2])) nZ
def kT:Ss:=#v[.setF (.var 0) "others" (.bin .BitAnd (.var 3) (.inv (.ix (.ix (.fld (.var 0) "pairs") (.neg (.int 1))) (.int 0))))]
def kU:Ss:=.cons (.setF (.var 0) "unsure" (.bin .BitAnd (.ix (.ix (.fld (.var 0) "pairs") (.neg (.int 1))) (.int 0)) (.inv (.fld (.var 0) "sure")))) kT
def kW:Ss:=.cons (.setF (.var 0) "sure" (.ix (.ix (.fld (.var 0) "pairs") (.neg (.int 1))) (.int 1))) kU
def kX:Ss:=.cons (.setF (.var 0) "pairs" (.fn 0 #v[.var 1,.var 3,.int 0,.var 2,.var 2])) kW
def iO:Ss:=.cons (.set 3 (.fn 1 #v[.mu0 "how_many" (.var 1)])) kX
def lf(c:CA)(S:Addr):SpD:=λds M Q=>∃(a:Addr) (m:Nat) (a_:Zy) (heads known wide narrow:Nat),ds=[.ref a,⇑heads,⇑known,⇑wide,⇑narrow]/\SheetAt c S M a m a_/\a_.length<64/\m<64/\heads<2 ^ m/\wide<2 ^ m/\narrow<2 ^ m /\
 ∀M',Ext M M'->Q (aL (bg a_ heads wide narrow known)) M'
def lg(c:CA)(S:Addr):SpD:=λds M Q=>∃(a:Addr) (m:Nat) (a_:Zy) (heads known wide narrow:Nat),ds=[.ref a,⇑heads,⇑known,⇑wide,⇑narrow]/\SheetAt c S M a m a_/\a_.length<64/\m<64/\heads<2 ^ m/\wide<2 ^ m/\narrow<2 ^ m /\
 (∀x∈a_,heads.testBit x.1=true)/\Sub known (bg a_ heads wide narrow known).2/\∀p ps x M',M p=none->Ext M M'->M' p=some (.lst ((ps++[x]).map aL))->Rounds a_ heads wide narrow known (ps++[x])->Q (.ref p) M'
def mU(m:Nat)(p:Addr)(x:Nat×Nat):List (Str×D):=[("pairs",.ref p),("sure",⇑x.2),("unsure",.int (av x.1 x.2:Nat)),("others",.int (av (2 ^ m-1) x.1:Nat))]
structure SortAt (Z:Addr) (M:MH) (a:Addr) (m:Nat) (ps:Zp) (x:Nat×Nat):Prop where
 ex:∃p,M a=some (.ins Z (mU m p x))/\M p=some (.lst ((ps++[x]).map aL))
theorem SortAt.ext{Z:Addr}{M M':MH}{a:Addr}{m:Nat}{ps:Zp}{x:Nat×Nat}(e:Ext M M')(h:SortAt Z M a m ps x):SortAt Z M' a m ps x:=by
 obtain⟨p,b,c⟩:=h;exact⟨p,e _ _ b,e _ _ c⟩
def pw:List Str:=["pairs","sure","unsure","others"]
def gt(c:CA)(S Z:Addr):SpD:=λds M Q=>∃(a sh:Addr) (m:Nat) (a_:Zy) (told:Nat),ds=[.ref a,.ref sh,⇑told]/\M a=some (.ins Z [])/\SheetAt c S M sh m a_/\a_.length<64/\m<64/\told<2 ^ m /\
 ∀ps x M',ExtBut a M M'->SortAt Z M' a m ps x->Rounds a_ (2 ^ m-1) told told 0 (ps++[x])->Q .non M'
section
variable {m:Nat}{p:Addr}{x:Nat×Nat}
theorem GT:(mU m p x).lookup ("sure" : Str)= ~~~x.2:=rfl
theorem Dj:(mU m p x).lookup ("unsure" : Str)=some (.int (av x.1 x.2:Nat)):=rfl
end
abbrev zF1(x:D):List (Str×D):=[("pairs",x)]
abbrev zF2(x y:D):List (Str×D):=[("pairs",x),("sure",y)]
abbrev zF3(x y z:D):List (Str×D):=[("pairs",x),("sure",y),("unsure",z)]
theorem zp0(x:D):bU ("pairs" : Str) x []=zF1 x:=rfl
theorem zp1(x y:D):bU ("sure" : Str) y (zF1 x)=zF2 x y:=rfl
theorem zp2(x y z:D):bU ("unsure" : Str) z (zF2 x y)=zF3 x y z:=rfl
theorem zp3(x y z u:D):bU ("others" : Str) u (zF3 x y z)=([("pairs",x),("sure",y),("unsure",z),("others",u)]:List (Str×D)):=rfl
theorem zl1(x:D):List.lookup ("pairs" : Str) (zF1 x)=some x:=rfl
theorem zl2(x y:D):List.lookup ("pairs" : Str) (zF2 x y)=some x:=rfl
theorem zl2s(x y:D):List.lookup ("sure" : Str) (zF2 x y)=some y:=rfl
theorem zl3(x y z:D):List.lookup ("pairs" : Str) (zF3 x y z)=some x:=rfl
theorem fG(ps:Zp)(x:Nat×Nat):atI ((ps++[x]).map aL) (-1)=some (.tup [⇑x.1,⇑x.2]):=by
 rw[ZK];exact DN _ _
theorem GU(x y:Nat×Nat):eqD (aL x) (aL y)=decide (x=y):=by
 unfold aL;rw[eqD,eqDs,eqDs,eqDs,ae,ae,Bool.and_true];by_cases h:x=y
 ·subst h;simp
 ·rw[ZP h]
  cases a:((x.1:Int)==(y.1:Int)) with
  |false=>rfl
  |true=>
   rw[Bool.true_and,ZQ];intro z;have a:=eq_of_beq a;exact h (Prod.ext (Int.ofNat_inj.1 a) (Int.ofNat_inj.1 z))
theorem wx(x:Nat×Nat):aJ (aL x)=true:=rfl
theorem EO(x:Nat×Nat):depD (aL x)<=30:=by
 unfold aL;rw[depD,aT,aT,aT,ak,ak];decide
section
variable {cn:Cn}{ds:List D}{M:MH}{Q:DK}{c:CA}{S Z:Addr}
theorem yz(b:cn.F.getD 0 Yl=iM c S)(h:lf c S ds M Q):wSs cn lW (fin Q) (ad ["","","","","",""] ds) M:=by
 obtain⟨a,m,a_,heads,known,wide,narrow,rfl,A,hn,hm,d,hw,g,q⟩:=h;show wSs cn lW (fin Q) [↑a,~~~heads,~~~known,~~~wide,~~~narrow,none] M;unfold lW;simp! only[List.set,b];refine⟨a,m,a_,heads,wide,known,rfl,A,hn,hm,d,hw,λM1 f=>?_⟩;unfold nZ;simp! only[List.set,b];exact⟨a,m,a_,heads,narrow,_,rfl,A.ext f,hn,hm,d,g,λM2 j=>q M2 (f.trans j)⟩
theorem wM(o:cn.F.getD 0 Yl=lf c S)(h:lg c S ds M Q):wSs cn ky (fin Q) (ad ["","","","","","",""] ds) M:=by
 obtain⟨a,m,a_,heads,known,wide,narrow,rfl,A,hn,hm,j,hw,l,V,hk,q⟩:=h;show wSs cn ky (fin Q) [↑a,~~~heads,~~~known,~~~wide,~~~narrow,none,none] M;have hsz:(2000:Nat)<sizeLine:=by decide
 have J:=yy (a_:=a_) j hw l;unfold ky;simp! only[List.set,o];refine⟨a,m,a_,heads,known,wide,narrow,rfl,A,hn,hm,j,hw,l,λM1 r p hp=>?_⟩;have L:M p=none:=r.free hp;have u:Ext M (updM M1 p (.lst [aL (bg a_ heads wide narrow known)])):=r.then hp;have B:updM M1 p (MO.lst [aL (bg a_ heads wide narrow known)]) p=some (.lst (([]++[bg a_ heads wide narrow known]).map aL)):=aa;generalize updM M1 p (MO.lst [aL (bg a_ heads wide narrow known)])=M2 at *;clear r hp;clear M1;unfold mT;simp! only[List.set,o,B,fG,at1];refine⟨a,m,a_,heads,_,wide,narrow,rfl,A.ext u,hn,hm,j,hw,l,λM3 C=>?_⟩;have W:=C _ _ B;have Y:=u.trans C;clear u B C;clear M2;unfold mS;show t7 _ _ _ _ _;refine⟨λk σ M'=>∃(e_:Zp) (x:Nat×Nat),farP m x=k/\σ=[↑a,~~~heads,~~~known,~~~wide,~~~narrow,↑p,some (aL (bg a_ heads wide narrow x.2))] /\
  Ext M M'/\M' p=some (.lst ((e_++[x]).map aL))/\(∃n,x=bg a_ heads wide narrow n/\Sub n x.2)/\e_.length+farP m x<=2*m/\Rounds0 a_ heads wide narrow known (e_++[x]),?_,?_⟩
 ·refine⟨_,[],_,rfl,rfl,Y,W,⟨known,rfl,hk⟩,?_,rfl,?_⟩
  ·have:=GR m (bg a_ heads wide narrow known)
   simpa using this
  ·intro i x y d b
   cases i with
   |zero=>cases b
   |succ i=>cases b
 rintro k σ M' ⟨e_,x,rfl,rfl,O,G,⟨n,hx,Wv⟩,h_,R⟩;have f:∀K:Bool->MH->Prop,K (!decide (bg a_ heads wide narrow x.2=x)) M'->wT cn (.cmp .NotEq (.var 6) (.ix (.var 5) (.neg (.int 1)))) [↑a,~~~heads,~~~known,~~~wide,~~~narrow,↑p,some (aL (bg a_ heads wide narrow x.2))] M' K:=by
  intro K hK;simp! only[List.set,G,fG];rw[←GU] at hK;exact⟨⟨wx _,wx x,EO _⟩,hK⟩
 refine f _ ?_;by_cases g:bg a_ heads wide narrow x.2=x
 ·rw[YV g,Bool.not_true,ag]
  dsimp only;unfold mP;simp! only[List.set];refine q p e_ x M' L O G ⟨R,λy hy=>?_⟩;rw[List.getLast?_append] at hy;have:x=y:=by simpa using hy
  subst this;exact g
 ·rw[ZP g,Bool.not_false,aH]
  have mono:=By (wide:=wide) (narrow:=narrow) V Wv;rw[←hx] at mono;have hb:=J n;rw[←hx] at hb;have Ww:=GS (m:=m) mono.1 mono.2 g hb.1 (J x.2).2;have N5:((e_++[x]).map aL).length=e_.length+1:=by rw[ZE,ZJ];rfl
  refine⟨λg_ KZ=>∃k',k'<farP m x/\_,λg_ KZ h=>h,?_⟩;unfold mR;simp! only[List.set,G];refine⟨rfl,by omega,?_⟩;have P:Ext M (updM M' p (.lst ((e_++[x]).map aL++[aL (bg a_ heads wide narrow x.2)]))):=O.put L;have g5:updM M' p (MO.lst ((e_++[x]).map aL++[aL (bg a_ heads wide narrow x.2)])) p=some (.lst ((e_++[x]++[bg a_ heads wide narrow x.2]).map aL)):=by
   rw[aa,ZK (l₁:=e_++[x])];rfl
  generalize updM M' p (MO.lst ((e_++[x]).map aL++[aL (bg a_ heads wide narrow x.2)]))=M5 at *;unfold mQ;simp! only[List.set,o,aL,at1];refine⟨a,m,a_,heads,_,wide,narrow,rfl,A.ext P,hn,hm,j,hw,l,λM6 T=>?_⟩;refine⟨_,Ww,e_++[x],bg a_ heads wide narrow x.2,rfl,rfl,P.trans T,T _ _ g5,⟨x.2,rfl,mono.2⟩,by rw[ZJ];simp;omega,?_,?_⟩
  ·have h0:0<(e_++[x]).length:=by simp
   rw[ZD h0];exact R.first
  ·intro i y z d b
   have hi:i+1<(e_++[x]++[bg a_ heads wide narrow x.2]).length:=(YB.mp b).1;simp only[ZJ,YH,YU] at hi;by_cases U:i+1<(e_++[x]).length
   ·rw[ZD 'b'] at d
    rw[ZD U] at b;exact R.next i y z d b
   ·simp only[ZJ,YH,YU] at U
    have Wx:i=e_.length:=by omega
    subst Wx;have hy:y=x:=by
     rw[ZD (by simp),ZG 'b'] at d;simpa using d.symm
    have hz:z=bg a_ heads wide narrow x.2:=by
     rw[ZG (by simp)] at b;simpa using b.symm
    subst hy hz;exact⟨rfl,g⟩
theorem uK(b:∀f∈pw,cn.O Z f)(G:cn.T S "how_many" = some (cE c S))(J:cn.F.getD 0 Yl=lg c S)(K:cn.F.getD 1 Yl=cC)(h:gt c S Z ds M Q):wSs cn iO (fin Q) (ad ["","","",""] ds) M:=by
 obtain⟨a,sh,m,a_,told,rfl,ha,A,hn,hm,ht,q⟩:=h;show wSs cn iO (fin Q) [↑a,↑sh,~~~told,none] M;obtain⟨ok,k_,p1,p2,p3,z_,x_,B',L,-⟩:=A.ext (Ext.refl M);have V:1<=2 ^ m:=Nat.one_le_two_pow;unfold iO;simp! only[List.set,L,f6,G,K];refine⟨trivial,sh,m,a_,rfl,A,m,rfl,by omega,?_⟩;unfold kX;simp! only[List.set,J];have j:∀f,f<m->(2 ^ m-1).testBit f=true:=λf hf=>by rw[Nat.testBit_two_pow_sub_one];exact YV hf
 refine⟨sh,m,a_,2 ^ m-1,0,told,told,rfl,A,hn,hm,by omega,ht,ht,λx hx=>j x.1 (ok.fit x hx).1,Sub.zero _,λp ps x M1 hp k o R=>?_⟩;have g:a≠p:=aR ha hp;have r:=k _ _ ha;simp only[r,zp0];refine⟨⟨b _ 'f',by decide⟩,?_⟩;have u:ExtBut a M (updM M1 a (.ins Z (zF1 (.ref p)))):=k.but.trans (ExtBut.upd _ _ _);have y:updM M1 a (MO.ins Z (zF1 (.ref p))) a=some (.ins Z (zF1 (.ref p))):=aa;have l:updM M1 a (MO.ins Z (zF1 (.ref p))) p=some (.lst ((ps++[x]).map aL)):=by rw[ay g.symm];exact o
 generalize updM M1 a (MO.ins Z (zF1 (.ref p)))=M2 at *;clear k o r hp;clear M1;unfold kW;simp! only[List.set,y,zl1,l,fG,at1,zp1];refine⟨b _ 'f',⟨b _ 'f',(by decide:(1:Nat)<1000)⟩,?_⟩;have z:=u.trans (ExtBut.upd a M2 (.ins Z (zF2 (.ref p) (⇑x.2))));have B:updM M2 a (MO.ins Z (zF2 (.ref p) (⇑x.2))) a=some (.ins Z (zF2 (.ref p) (⇑x.2))):=aa;have n:updM M2 a (MO.ins Z (zF2 (.ref p) (⇑x.2))) p=some (.lst ((ps++[x]).map aL)):=by rw[ay g.symm];exact l
 generalize updM M2 a (MO.ins Z (zF2 (.ref p) (⇑x.2)))=d at *;clear u y l;clear M2;unfold kU;simp! only[wInv,List.set,B,zl2,zl2s,n,fG,at0,fD,zp2];refine⟨b _ 'f',b _ 'f',⟨b _ 'f',(by decide:(2:Nat)<1000)⟩,?_⟩;have P:=z.trans (ExtBut.upd a d (.ins Z (zF3 (.ref p) (⇑x.2) (.int (av x.1 x.2:Nat)))));have U:updM d a (MO.ins Z (zF3 (.ref p) (⇑x.2) (.int (av x.1 x.2:Nat)))) a=some (.ins Z (zF3 (.ref p) (⇑x.2) (.int (av x.1 x.2:Nat)))):=aa;have C:updM d a (MO.ins Z (zF3 (.ref p) (⇑x.2) (.int (av x.1 x.2:Nat)))) p=some (.lst ((ps++[x]).map aL)):=by rw[ay g.symm];exact n
 generalize updM d a (MO.ins Z (zF3 (.ref p) (⇑x.2) (.int (av x.1 x.2:Nat))))=W at *;clear z B n;clear d;unfold kT;simp! only[wInv,List.set,U,zl3,C,fG,at0,fD,zp3];refine⟨b _ 'f',⟨b _ 'f',(by decide:(3:Nat)<1000)⟩,?_⟩;exact q ps x _ (P.trans (ExtBut.upd _ _ _)) ⟨p,aa,by rw[ay g.symm];exact C⟩ R
end
def stg(a_:Zy)(g told:Nat):Nat->Nat
 |0=>told
 |s+1=>stg a_ g told s|||setN ((a_.filter (aV (stg a_ g told s) g)).map (·.1))
def Came(a_:Zy)(g told f s r:Nat):Prop:=(stg a_ g told s).testBit f=false/\bu a_ (stg a_ g told s) g f=some r
section
variable {a_:Zy}{g told:Nat}
theorem lX(s f:Nat):(stg a_ g told (s+1)).testBit f=true↔(stg a_ g told s).testBit f=true \/ ∃x∈a_,x.1=f/\aV (stg a_ g told s) g x=true:=by
 rw[stg,XZ,XT,bv,XR,XV];refine or_congr Iff.rfl ⟨λ⟨x,hx,e⟩=>?_,λ⟨x,hx,e,q⟩=>⟨x,ZU.2 ⟨hx,q⟩,e⟩⟩;exact⟨x,(ZU.1 hx).1,e,(ZU.1 hx).2⟩
theorem yA(s:Nat):Sub (stg a_ g told s) (stg a_ g told (s+1)):=λf h=>(lX s f).2 (.inl h)
theorem qI{s t:Nat}(h:s<=t):Sub (stg a_ g told s) (stg a_ g told t):=by
 induction h with
 |refl=>exact Sub.refl _
 |step _ a=>exact a.trans (yA _)
theorem Came.in{f s r:Nat}(h:Came a_ g told f s r):(stg a_ g told (s+1)).testBit f=true:=by
 obtain⟨x,hx,e,q⟩:=fY h.2;exact(lX s f).2 (.inr ⟨x,YT hx,e,q⟩)
theorem Came.uniq{f s r a c:Nat}(h:Came a_ g told f s r)(h':Came a_ g told f a c):s=a/\r=c:=by
 have b:s=a:=by
  rcases Nat.lt_trichotomy s a with z | z | z
  ·have:=qI z f h.in
   rw[h'.1] at this;cases this
  ·exact z
  ·have:=qI z f h'.in
   rw[h.1] at this;cases this
 subst b
 have:=h.2.symm.trans h'.2
 exact⟨rfl,Yi this⟩
theorem qJ{h f:Nat}{x:Row}(hx:x∈a_)(e:x.1=f)(q:aV h g x=true):∃r,bu a_ h g f=some r:=by
 cases z:bu a_ h g f with
 |none=>rw[nF z hx e] at q;cases q
 |some r=>exact⟨r,rfl⟩
theorem sM(f:Nat):∀s,(stg a_ g told s).testBit f=true↔told.testBit f=true \/ ∃t r,t<s/\Came a_ g told f t r
 |0=>by rw[stg];exact⟨.inl,λh=>h.elim id λ⟨t,r,h,_⟩=>absurd h (Nat.not_lt_zero _)⟩
 |s+1=>by
  constructor
  ·intro h
   cases b:(stg a_ g told s).testBit f with
   |true=>
    rcases(sM f s).1 b with z | ⟨t,r,ht,c⟩
    ·exact .inl z
    ·exact .inr ⟨t,r,Nat.lt_succ_of_lt ht,c⟩
   |false=>
    rcases(lX s f).1 h with z | ⟨x,hx,e,q⟩
    ·rw[z] at b;cases b
    ·obtain⟨r,a⟩:=qJ hx e q
     exact .inr ⟨s,r,YK s,b,a⟩
  ·rintro(h | ⟨t,r,ht,c⟩)
   ·exact qI (YL _) f h
   ·exact qI ht f c.in
theorem wy{heads:Nat}(j:∀x∈a_,heads.testBit x.1=true):∀(k s left:Nat),left<k->(∀f,left.testBit f=(heads.testBit f && !(stg a_ g told s).testBit f))->∀f t r,(f,t,r)∈bw a_ g k (s+1) (stg a_ g told s) left ↔ ∃t',t=t'+1/\s<=t'/\Came a_ g told f t' r
 |0,_,_,h,_,_,_,_=>absurd h (Nat.not_lt_zero _)
 |k+1,s,left,hk,hl,f,t,r=>by
  have fr:∀f r,(f,r)∈aF a_ (stg a_ g told s) g left↔Came a_ g told f s r:=by
   intro f r;rw[du,hl];constructor
   ·rintro⟨a,b⟩
    rw[YY] at a;exact⟨by simpa using a.2,b⟩
   ·rintro⟨a,b⟩
    obtain⟨x,hx,e,q⟩:=fY b
    have:=j x (YT hx)
    rw[e] at this;rw[this,a];exact⟨rfl,b⟩
  have nx:stg a_ g told s|||newB (aF a_ (stg a_ g told s) g left)=stg a_ g told (s+1):=by
   refine XY λf=>?_
   rw[Bool.eq_iff_iff,XZ,XT,sH];constructor
   ·rintro(h | ⟨r,h⟩)
    ·exact yA s f h
    ·exact((fr f r).1 h).in
   ·intro h
    cases b:(stg a_ g told s).testBit f with
    |true=>exact .inl rfl
    |false=>
     rcases(lX s f).1 h with z | ⟨x,hx,e,q⟩
     ·rw[z] at b;cases b
     ·obtain⟨r,d⟩:=qJ hx e q
      exact .inr ⟨r,(fr f r).2 ⟨b,d⟩⟩
  rw[bw];by_cases e:aF a_ (stg a_ g told s) g left=[]
  ·rw[if_pos e]
   refine⟨λh=>(by cases h),λ⟨t',_,ht,c⟩=>?_⟩;have st:∀u,s<=u->stg a_ g told u=stg a_ g told s:=by
    intro u hu;induction hu with
    |refl=>rfl
    |@step u _ l=>
     refine XY λf=>?_
     rw[Bool.eq_iff_iff];refine⟨λh=>?_,λh=>qI (Nat.le_succ_of_le ‹_›) f h⟩;rcases(lX u f).1 h with z | ⟨x,hx,e',q⟩
     ·rw[l] at z;exact z
     ·rw[l] at q
      cases b:(stg a_ g told s).testBit f with
      |true=>rfl
      |false=>
       obtain⟨r,d⟩:=qJ hx e' q
       have:=(fr f r).2 ⟨b,d⟩
       rw[e] at this;cases this
   unfold Came at c;rw[st t' ht] at c
   have:=(fr f r).2 c
   rw[e] at this;cases this
  ·rw[if_neg e,nx,YA,wy j k (s+1) _ (by have:=pk e;omega) ?_ f t r]
   ·constructor
    ·rintro(h | ⟨t',h1,h2,h3⟩)
     ·obtain⟨⟨f',m⟩,hx,z⟩:=XV.1 h
      cases z;exact⟨s,rfl,YE _,(fr _ _).1 hx⟩
     ·exact⟨t',h1,by omega,h3⟩
    ·rintro⟨t',h1,h2,h3⟩
     by_cases z:t'=s
     ·subst z
      exact .inl (XV.2 ⟨(f,r),(fr f r).2 h3,by rw[h1]⟩)
     ·exact .inr ⟨t',h1,by omega,h3⟩
   ·intro f
    rw[aZ,hl,←nx,XZ];cases heads.testBit f<;>cases(stg a_ g told s).testBit f<;>cases(newB (aF a_ (stg a_ g told s) g left)).testBit f<;>rfl
theorem sN{heads:Nat}(c:∀x∈a_,heads.testBit x.1=true)(f t r:Nat):(f,t,r)∈bw a_ g (av heads told+1) 1 told (av heads told) ↔ ∃t',t=t'+1/\Came a_ g told f t' r:=by
 rw[show bw a_ g (av heads told+1) 1 told (av heads told)=bw a_ g (av heads told+1) (0+1) (stg a_ g told 0) (av heads told) from rfl];rw[wy c _ 0 _ (YK _) (λf=>by rw[stg];exact aZ _ _ _)];exact⟨λ⟨t',a,_,b⟩=>⟨t',a,b⟩,λ⟨t',a,b⟩=>⟨t',a,YL _,b⟩⟩
theorem bV.came{heads n:Nat}(a:∀x∈a_,heads.testBit x.1=true)(L:bV a_ told g n)(f:Nat):n.testBit f=true↔told.testBit f=true \/ ∃s r,Came a_ g told f s r:=by
 rw[L.uniq (cF (heads:=heads) a)];unfold iK;rw[XZ,XT,bv,XR,XV];refine or_congr Iff.rfl ⟨λ⟨⟨f',t,r⟩,hx,e⟩=>?_,λ⟨s,r,c⟩=>⟨(f,s+1,r),(sN a _ _ _).2 ⟨s,rfl,c⟩,rfl⟩⟩;cases e;obtain⟨t',-,c⟩:=(sN a _ _ _).1 hx;exact⟨t',r,c⟩
end
inductive Pap where
 |told
 |tru (turn step row:Nat)
 |fls (turn:Nat)
 |opn (step row:Nat)
def Pap.D:Pap->D
 |.told=>.tup [.str "true",.int 0,.int 0,.non]
 |.tru i s r=>.tup [.str "true",⇑i,⇑s,⇑r]
 |.fls i=>.tup [.str "false",⇑i]
 |.opn s r=>.tup [.str "open",⇑s,⇑r]
abbrev ZO:=List Pap
structure Runs (a_:Zy) (m told:Nat) (ps:Zp):Prop where
 ok:RowsOk m a_
 tl:told<2 ^ m
 ne:ps≠[]
 rounds:Rounds a_ (2 ^ m-1) told told 0 ps
def mV(a_:Zy)(told:Nat)(ps:Zp)(f:Nat):Pap->Prop
 |.told=>told.testBit f=true
 |.tru i s r=>told.testBit f=false/\∃a b x,i=a+1/\s=b+1/\ps[a]?=some x/\x.2.testBit f=true/\(∀j y,j<a->ps[j]?=some y->y.2.testBit f=false)/\Came a_ x.1 told f b r
 |.fls i=>told.testBit f=false/\∃a x,i=a+1/\ps[a]?=some x/\x.1.testBit f=false/\∀j y,j<a->ps[j]?=some y->y.1.testBit f=true
 |.opn s r=>told.testBit f=false/\∃b x,s=b+1/\ps.getLast?=some x/\x.1.testBit f=true/\x.2.testBit f=false/\Came a_ x.2 told f b r
section
variable {a_:Zy}{m told:Nat}{ps:Zp}
theorem Runs.heads(R:Runs a_ m told ps):∀x∈a_,(2 ^ m-1).testBit x.1=true:=λx hx=>by
 rw[Nat.testBit_two_pow_sub_one];exact YV (R.ok.fit x hx).1
def ahead(ps:Zp):Nat->Nat
 |0=>0
 |i+1=>((ps[i]?).getD (0,0)).2
theorem Runs.at(R:Runs a_ m told ps):∀{i:Nat}{x:Nat×Nat},ps[i]?=some x->x=bg a_ (2 ^ m-1) told told (ahead ps i)
 |0,x,h=>by have:=R.rounds.first;rw[h] at this;exact Yi this
 |i+1,x,h=>by
  have hl:=(YB.mp h).1;have hi:ps[i]?=some (ps[i]' 'b'):=ZC 'b';rw[(R.rounds.next i _ _ hi h).1,ahead,hi];rfl
theorem Runs.l1(R:Runs a_ m told ps){i:Nat}{x:Nat×Nat}(h:ps[i]?=some x):bV a_ told (ahead ps i) x.1:=by
 rw[R.at h];exact cF R.heads
theorem Runs.l2(R:Runs a_ m told ps){i:Nat}{x:Nat×Nat}(h:ps[i]?=some x):bV a_ told x.1 x.2:=by
 rw[R.at h];exact cF R.heads
theorem Runs.step(R:Runs a_ m told ps):∀{i:Nat}{x:Nat×Nat},ps[i]?=some x->Sub (ahead ps i) x.2/\Sub x.2 x.1
 |0,x,h=>by
  refine⟨Sub.zero _,?_⟩;exact bV.anti (Sub.zero _) (R.l1 h) (R.l2 h)
 |i+1,x,h=>by
  have hl:=(YB.mp h).1;have hi:ps[i]?=some (ps[i]' 'b'):=ZC 'b';generalize ps[i]' 'b'=y at hi;obtain⟨a,b⟩:=R.step hi;have e:ahead ps (i+1)=y.2:=by rw[ahead,hi];rfl
  have l1:=R.l1 h;rw[e] at l1 ⊢;have c:Sub x.1 y.1:=bV.anti a (R.l1 hi) l1;have d:Sub y.2 x.2:=bV.anti c (R.l2 h) (R.l2 hi);have f:Sub y.2 x.1:=bV.anti b l1 (R.l2 hi);exact⟨d,bV.anti f l1 (R.l2 h)⟩
theorem Runs.mono(R:Runs a_ m told ps){i j:Nat}(g:i<=j):∀{x y:Nat×Nat},ps[i]?=some x->ps[j]?=some y->Sub y.1 x.1/\Sub x.2 y.2:=by
 induction g with
 |refl=>intro x y f c;rw[f] at c;cases c;exact⟨Sub.refl _,Sub.refl _⟩
 |@step j _ k=>
  intro x y f c;have hl:=(YB.mp c).1;have d:ps[j]?=some (ps[j]' 'b'):=ZC 'b';generalize ps[j]' 'b'=z at d;obtain⟨a,b⟩:=k f d;have e:ahead ps (j+1)=z.2:=by rw[ahead,d];rfl
  have s2:=R.step c;have s1:=R.step d;have l1:=R.l1 c;rw[e] at s2 l1;exact⟨(bV.anti s1.1 (R.l1 d) l1).trans a,b.trans s2.1⟩
theorem Runs.below(R:Runs a_ m told ps){i j:Nat}{x y:Nat×Nat}(a:ps[i]?=some x)(b:ps[j]?=some y):Sub x.2 y.1:=by
 rcases Nat.le_total i j with h | h
 ·exact(R.mono h a b).2.trans (R.step b).2
 ·exact(R.step a).2.trans (R.mono h b a).1
theorem Runs.tolds(R:Runs a_ m told ps){i:Nat}{x:Nat×Nat}(h:ps[i]?=some x):Sub told x.1/\Sub told x.2:=⟨(R.l1 h).1.1,(R.l2 h).1.1⟩
theorem Runs.lt(R:Runs a_ m told ps){i:Nat}{x:Nat×Nat}(h:ps[i]?=some x):x.1<2 ^ m/\x.2<2 ^ m:=by
 have hp:2 ^ m-1<2 ^ m:=by have:=Nat.two_pow_pos m;omega
 rw[R.at h];exact yy hp R.tl R.tl _
theorem bN{a:Type}{l:List a}{x:a}(h:l.getLast?=some x):l[l.length-1]?=some x:=by
 rw[List.getLast?_eq_getElem?] at h;exact h
theorem Runs.end_(R:Runs a_ m told ps){x:Nat×Nat}(h:ps.getLast?=some x):bV a_ told x.2 x.1:=by
 have e:x.1=iK a_ x.2 told (2 ^ m-1):=(congrArg Prod.fst (R.rounds.last x h)).symm;rw[e];exact cF R.heads
theorem mV.uniq(R:Runs a_ m told ps){f:Nat}{p q:Pap}(h:mV a_ told ps f p)(h':mV a_ told ps f q):p=q:=by
 have no:∀{b:Bool},b=true->b=false->p=q:=λz y=>by rw[z] at y;cases y
 cases p with
 |told=>
  cases q with
  |told=>rfl
  |_=>exact no h h'.1
 |tru=>
  obtain⟨n,i,s,x,rfl,rfl,d,k,o,u⟩:=h;have hl:=(YB.mp d).1;cases q with
  |told=>exact no h' n
  |tru=>
   obtain⟨_,i',r,j,rfl,rfl,a,c,g,l⟩:=h';rcases Nat.lt_trichotomy i i' with z | z | z
   ·exact no k (g i x z d)
   ·subst z
    rw[d] at a;cases a;obtain⟨rfl,rfl⟩:=u.uniq l;rfl
   ·exact no c (o i' j z a)
  |fls=>
   obtain⟨_,i',j,rfl,a,c,g⟩:=h';exact no (R.below d a f k) c
  |opn=>
   obtain⟨_,r,j,rfl,a,c,g,l⟩:=h';exact no ((R.mono 'b' d (bN a)).2 f k) g
 |fls=>
  obtain⟨n,i,x,rfl,d,k,o⟩:=h;have hl:=(YB.mp d).1;cases q with
  |told=>exact no h' n
  |tru=>
   obtain⟨_,i',r,j,rfl,rfl,a,c,g,l⟩:=h';exact no (R.below a d f c) k
  |fls=>
   obtain⟨_,i',j,rfl,a,c,g⟩:=h';rcases Nat.lt_trichotomy i i' with z | z | z
   ·exact no (g i x z d) k
   ·subst z;rfl
   ·exact no (o i' j z a) c
  |opn=>
   obtain⟨_,r,j,rfl,a,c,g,l⟩:=h';exact no ((R.mono 'b' d (bN a)).1 f c) k
 |opn=>
  obtain⟨n,s,x,rfl,d,k,o,u⟩:=h;cases q with
  |told=>exact no h' n
  |tru=>
   obtain⟨_,i',r,j,rfl,rfl,a,c,g,l⟩:=h';have hl:=(YB.mp a).1;exact no ((R.mono 'b' a (bN d)).2 f c) o
  |fls=>
   obtain⟨_,i',j,rfl,a,c,g⟩:=h';have hl:=(YB.mp a).1;exact no ((R.mono 'b' a (bN d)).1 f k) c
  |opn=>
   obtain⟨_,r,j,rfl,a,c,g,l⟩:=h';rw[d] at a;cases a;obtain⟨rfl,rfl⟩:=u.uniq l;rfl
def setP(pps:ZO)(p:Pap->Bool):Nat:=setN ((List.range pps.length).filter λf=>((pps[f]?).map p).getD false)
theorem eY(pps:ZO)(p:Pap->Bool)(f:Nat):(setP pps p).testBit f=true ↔ ∃q,pps[f]?=some q/\p q=true:=by
 unfold setP;rw[bv,XR,ZU,ZV];constructor
 ·rintro⟨h1,h2⟩
  rw[ZC h1] at h2;exact⟨_,ZC h1,by simpa using h2⟩
 ·rintro⟨q,h1,h2⟩
  exact⟨(YB.mp h1).1,by rw[h1];simpa using h2⟩
def Pap.isT:Pap->Bool | .told=>true | .tru ..=>true | _=>false
def Pap.isF:Pap->Bool | .fls _=>true | _=>false
def Pap.isO:Pap->Bool | .opn ..=>true | _=>false
def cI(i s:Nat):Pap->Bool | .told=>decide (0<i\/0=i/\0<s) | .tru i' a _=>decide (i'<i\/i'=i/\a<s) | _=>false
def pBy(i:Nat):Pap->Bool | .told=>decide (0<i) | .tru i' _ _=>decide (i'<i) | _=>false
def pFls(i:Nat):Pap->Bool | .fls i'=>decide (i'<=i) | _=>false
def pOpn(s:Nat):Pap->Bool | .opn a _=>decide (a<s) | _=>false
structure Papers (a_:Zy) (m told:Nat) (ps:Zp) (pps:ZO):Prop where
 runs:Runs a_ m told ps
 len:pps.length=m
 pap:∀f q,pps[f]?=some q->mV a_ told ps f q
variable {pps:ZO}
theorem Papers.get(P:Papers a_ m told ps pps){f:Nat}(h:f<m):∃q,pps[f]?=some q/\mV a_ told ps f q:=
 ⟨_,ZC (by rw[P.len];exact h),P.pap f _ (ZC (by rw[P.len];exact h))⟩
theorem Papers.may(P:Papers a_ m told ps pps){i:Nat}{x:Nat×Nat}(hx:ps[i]?=some x):Sub (av (2 ^ m-1) (setP pps (pFls (i+1)))) x.1:=by
 intro f hf;rw[aZ,YY,Nat.testBit_two_pow_sub_one,XR] at hf;obtain⟨hm,hf⟩:=hf;cases b:x.1.testBit f with
 |true=>rfl
 |false=>
  exfalso;obtain⟨q,hq,hp⟩:=P.get hm;have no:¬pFls (i+1) q=true:=λz=>by
   rw[(eY pps _ f).2 ⟨q,hq,z⟩] at hf;cases hf
  cases q with
  |told=>rw[(P.runs.tolds hx).1 f hp] at b;cases b
  |tru i' s r=>
   obtain⟨_,g,j,y,rfl,rfl,a,c,d,k⟩:=hp;rw[P.runs.below a hx f c] at b;cases b
  |fls i'=>
   obtain⟨_,g,y,rfl,a,c,d⟩:=hp;refine no (YV ?_);rcases Nat.lt_or_ge i g with z | z
   ·rw[d i x z hx] at b;cases b
   ·omega
  |opn s r=>
   obtain⟨_,j,y,rfl,a,c,d,k⟩:=hp;have hl:=(YB.mp hx).1;rw[(P.runs.mono 'b' hx (bN a)).1 f c] at b;cases b
theorem Papers.tru_by(P:Papers a_ m told ps pps){i f:Nat}{x:Nat×Nat}(hx:ps[i]?=some x)(h:x.2.testBit f=true):∃q,pps[f]?=some q/\(q=.told \/ ∃i' s r,q=.tru i' s r/\i'<=i+1):=by
 obtain⟨q,hq,hp⟩:=P.get (dF (P.runs.lt hx).2 h);refine⟨q,hq,?_⟩;cases q with
 |told=>exact .inl rfl
 |tru i' s r=>
  obtain⟨_,d,g,y,rfl,rfl,b,c,a,j⟩:=hp;refine .inr ⟨_,_,_,rfl,?_⟩;rcases Nat.lt_or_ge i d with z | z
  ·rw[a i x z hx] at h;cases h
  ·omega
 |fls i'=>
  obtain⟨_,d,y,rfl,b,c,a⟩:=hp;rw[P.runs.below hx b f h] at c;cases c
 |opn s r=>
  obtain⟨_,g,y,rfl,b,c,a,j⟩:=hp;have hl:=(YB.mp hx).1;rw[(P.runs.mono 'b' hx (bN b)).2 f h] at a;cases a
theorem Papers.true_right(P:Papers a_ m told ps pps){f i s r:Nat}(h:pps[f]?=some (.tru i s r)):∃x,a_[r]?=some x/\x.1=f/\aV (setP pps (cI i s)) (av (2 ^ m-1) (setP pps (pFls i))) x=true:=by
 obtain⟨u,g,j,y,rfl,rfl,a,A,B,k⟩:=P.pap f _ h;obtain⟨x,hx,e,q⟩:=fY k.2;refine⟨x,hx,e,jQ ?_ (jR (P.may a) q)⟩;intro f' l;rw[eY];rcases(sM f' j).1 l with z | ⟨t,r',ht,c⟩
 ·obtain⟨q,hq,hp⟩:=P.get (dF P.runs.tl z)
  refine⟨q,hq,?_⟩;cases q with
  |told=>simp[cI]
  |tru _ _ _=>rw[hp.1] at z;cases z
  |fls _=>rw[hp.1] at z;cases z
  |opn _ _=>rw[hp.1] at z;cases z
 ·have b:y.2.testBit f'=true:=((P.runs.l2 a).came P.runs.heads f').2 (.inr ⟨t,r',c⟩)
  obtain⟨q,hq,n⟩:=P.tru_by a b;refine⟨q,hq,?_⟩;rcases n with rfl | ⟨i',s',r2,rfl,MI⟩
  ·simp[cI]
  ·refine YV ?_
   obtain⟨_,o,s1,C,rfl,rfl,d,G,J,p⟩:=P.pap f' _ hq;by_cases z:o=g
   ·subst z
    rw[a] at d;cases d;obtain⟨rfl,rfl⟩:=p.uniq c;exact .inr ⟨rfl,by omega⟩
   ·exact .inl 'b'
theorem Papers.false_right(P:Papers a_ m told ps pps){f i:Nat}(h:pps[f]?=some (.fls i)){x:Row}(hx:x∈a_)(e:x.1=f):aV (av (2 ^ m-1) (setP pps (pFls i))) (setP pps (pBy i)) x=false:=by
 obtain⟨n,c,y,rfl,d,k,o⟩:=P.pap f _ h;cases b:aV (av (2 ^ m-1) (setP pps (pFls (c+1)))) (setP pps (pBy (c+1))) x with
 |false=>rfl
 |true=>
  exfalso;have a:=jQ (P.may d) b;have s:Sub (ahead ps c) (setP pps (pBy (c+1))):=by
   cases c with
   |zero=>exact Sub.zero _
   |succ g=>
    have hl:=(YB.mp d).1;have hi:ps[g]?=some (ps[g]' 'b'):=ZC 'b';generalize ps[g]' 'b'=z at hi;intro f' j;rw[ahead,hi] at j;obtain⟨q,hq,l⟩:=P.tru_by hi j;rw[eY];refine⟨q,hq,?_⟩;rcases l with rfl | ⟨i',s',r2,rfl,MI⟩
    ·simp[pBy]
    ·simp[pBy];omega
  have:=(P.runs.l1 d).1.2 x hx (jR s a)
  rw[e,k] at this;cases this
theorem Papers.sure(P:Papers a_ m told ps pps){x:Nat×Nat}(hx:ps.getLast?=some x):setP pps Pap.isT=x.2:=by
 have a:=bN hx;refine Sub.antisymm (λf hf=>?_) λf hf=>?_
 ·obtain⟨q,hq,t⟩:=(eY pps _ f).1 hf
  have hp:=P.pap f q hq;cases q with
  |told=>exact(P.runs.tolds a).2 f hp
  |tru i s r=>
   obtain⟨_,g,j,y,rfl,rfl,b,c,k,l⟩:=hp;have hl:=(YB.mp b).1;exact(P.runs.mono 'b' b a).2 f c
  |fls _=>cases t
  |opn _ _=>cases t
 ·obtain⟨q,hq,d⟩:=P.tru_by a hf
  rw[eY];refine⟨q,hq,?_⟩;rcases d with rfl | ⟨i',s',r2,rfl,MI⟩<;>rfl
theorem Papers.not_false(P:Papers a_ m told ps pps){x:Nat×Nat}(hx:ps.getLast?=some x):Sub x.1 (av (2 ^ m-1) (setP pps Pap.isF)):=by
 have a:=bN hx;intro f hf;rw[aZ,YY,Nat.testBit_two_pow_sub_one,XR];refine⟨dF (P.runs.lt a).1 hf,?_⟩;cases b:(setP pps Pap.isF).testBit f with
 |false=>rfl
 |true=>
  obtain⟨q,hq,t⟩:=(eY pps _ f).1 b;have hp:=P.pap f q hq;cases q with
  |told=>cases t
  |tru _ _ _=>cases t
  |opn _ _=>cases t
  |fls i=>
   obtain⟨_,g,y,rfl,c,d,j⟩:=hp;have hl:=(YB.mp c).1;rw[(P.runs.mono 'b' c a).1 f hf] at d;cases d
theorem Papers.open_no(P:Papers a_ m told ps pps){f s r:Nat}(h:pps[f]?=some (.opn s r)){x:Row}(hx:x∈a_)(e:x.1=f):aV (setP pps Pap.isT) (av (2 ^ m-1) (setP pps Pap.isF)) x=false:=by
 obtain⟨d,g,y,rfl,a,j,c,k⟩:=P.pap f _ h;cases b:aV (setP pps Pap.isT) (av (2 ^ m-1) (setP pps Pap.isF)) x with
 |false=>rfl
 |true=>
  exfalso;rw[P.sure a] at b
  have:=(P.runs.l2 (bN a)).1.2 x hx (jR (P.not_false a) b)
  rw[e,c] at this;cases this
theorem Papers.open_right(P:Papers a_ m told ps pps){f s r:Nat}(h:pps[f]?=some (.opn s r)):∃x,a_[r]?=some x/\x.1=f/\aV (setP pps Pap.isT|||setP pps (pOpn s)) (setP pps Pap.isT) x=true:=by
 obtain⟨A,n,y,rfl,a,B,C,o⟩:=P.pap f _ h;obtain⟨x,hx,e,q⟩:=fY o.2;refine⟨x,hx,e,?_⟩;rw[P.sure a];refine jQ ?_ q;intro f' p;rw[XZ,XT];rcases(sM f' n).1 p with z | ⟨t,r',ht,c⟩
 ·exact .inl ((P.runs.tolds (bN a)).2 f' z)
 ·have b:y.1.testBit f'=true:=((P.runs.end_ a).came P.runs.heads f').2 (.inr ⟨t,r',c⟩)
  cases b2:y.2.testBit f' with
  |true=>exact .inl rfl
  |false=>
   refine .inr ((eY pps _ f').2 ?_);obtain⟨q,hq,hp⟩:=P.get (dF (P.runs.lt (bN a)).1 b);refine⟨q,hq,?_⟩;cases q with
   |told=>rw[(P.runs.tolds (bN a)).2 f' hp] at b2;cases b2
   |tru i s r=>
    obtain⟨_,u,s1,j,rfl,rfl,d,g,k,l⟩:=hp;have hl:=(YB.mp d).1;rw[(P.runs.mono 'b' d (bN a)).2 f' g] at b2;cases b2
   |fls i=>
    obtain⟨_,u,j,rfl,d,g,k⟩:=hp;have hl:=(YB.mp d).1;rw[(P.runs.mono 'b' d (bN a)).1 f' b] at g;cases g
   |opn s r=>
    obtain⟨_,s1,j,rfl,d,g,k,l⟩:=hp;rw[a] at d;cases d;obtain⟨rfl,rfl⟩:=l.uniq c;exact YV 'b'
end
theorem eZ(kv:Key×D)(a:ZB)(k:Key):valD (kv::a) k=if kv.1=k then some kv.2 else valD a k:=by
 unfold valD;rw[XG];by_cases h:kv.1=k
 ·rw[if_pos h,YV h];rfl
 ·rw[if_neg h,ZP h]
theorem yB(k k':Key)(d:D):∀b:List (Key×D),valD (b.map λkv=>if kv.1=k then(kv.1,d) else kv) k'=if k'=k then(valD b k).map (λ_=>d) else valD b k'
 |[]=>by split<;>rfl
 |kv::b=>by
  rw[YJ,eZ,yB k k' d b,eZ,eZ];by_cases c:kv.1=k
  ·by_cases a:k'=k
   ·subst a;simp[c]
   ·have f:k≠k':=λz=>a z.symm
    simp[c,a,f]
  ·by_cases a:k'=k
   ·subst a;simp[c]
   ·simp[c,a]
theorem yC{k:Key}:∀{a:ZB},(a.any λkv=>decide (kv.1=k))=true->∃d,valD a k=some d
 |[],h=>by cases h
 |kv::a,h=>by
  rw[eZ];by_cases b:kv.1=k
  ·rw[if_pos b];exact⟨_,rfl⟩
  ·rw[if_neg b]
   rw[XH,ZP b,Bool.false_or] at h;exact yC h
theorem sm(k:Key)(x:Key×D):∀a:List (Key×D),(a.any λkv=>decide (kv.1=x.1))=false->valD (a++[x]) k=if k=x.1 then some x.2 else valD a k
 |[],_=>by
  rw[XD,eZ];by_cases h:k=x.1
  ·rw[if_pos h,if_pos h.symm]
  ·rw[if_neg h,if_neg λz=>h z.symm]
 |kv::a,h=>by
  rw[XH,Bool.or_eq_false_iff,decide_eq_false_iff_not] at h;rw[List.cons_append,eZ,sm k x a h.2,eZ];by_cases b:kv.1=k
  ·rw[if_pos b,if_pos b,if_neg λz=>h.1 (b.trans z)]
  ·rw[if_neg b,if_neg b]
theorem EQ(a:ZB)(k k':Key)(d:D):valD (putD a k d) k'=if k'=k then some d else valD a k':=by
 unfold putD;by_cases h:(a.any λkv=>decide (kv.1=k))=true
 ·rw[if_pos h,yB]
  obtain⟨z,hz⟩:=yC h;rw[hz];rfl
 ·rw[if_neg h]
  exact sm k' (k,d) a (Bool.eq_false_iff.2 h)
theorem yD(a:ZB)(k:Key)(d:D):(putD a k d).length<=a.length+1:=by
 unfold putD;split
 ·rw[ZE];omega
 ·rw[ZJ];exact YE _
theorem yE(h m:Int)(t:CT):t.blocked h m = !t.carried m h:=by
 cases t with
 |hav f=>rfl
 |lck f=>unfold CT.blocked CT.carried;rw[Bool.not_not]
 |som n fs=>
  unfold CT.blocked CT.carried;rw[←decide_not];exact decide_eq_decide.2 'b'
 |led fs k=>
  show(!hasB m (fs.getD k 0)||decide (0<((cntB (fs.take k) h:Nat):Int))) = !(hasB m (fs.getD k 0)&&(((cntB (fs.take k) h:Nat):Int)==0));rw[Bool.not_and];congr 1;by_cases e:((cntB (fs.take k) h:Nat):Int)=0
  ·rw[e];rfl
  ·rw[beq_false_of_ne e]
   exact YV 'b'
theorem ER(h m:Nat)(x:Row):x.2.any (CT.blocked (h:Int) (m:Int)) = !aV m h x:=by
 unfold aV;rw[List.not_all_eq_any_not];congr 1
 funext t;exact yE _ _ t
def iP(c:CA):SpD:=λds M Q=>∃(a:Addr) (h m:Int) (rs:Zh) (ts:List CT),ds=[.ref a,.int h,.int m]/\M a=some (.lst (af rs))/\bF c M rs ts/\(∀t∈ts,t.ok)/\∀M',Ext M M'->Q (.bl (ts.any (CT.blocked h m))) M'
def fH(c:CA)(S:Addr):SpD:=λds M Q=>∃(a:Addr) (m:Nat) (a_:Zy),ds=[.ref a]/\SheetAt c S M a m a_/\Q (.int (a_.length:Int)) M
def jS(c:CA)(S:Addr):SpD:=λds M Q=>∃(a:Addr) (m:Nat) (a_:Zy) (told g:Nat),ds=[.ref a,⇑told,⇑g]/\SheetAt c S M a m a_/\a_.length<64/\m<64/\told<2 ^ m /\
 ∀p M',M p=none->Ext M M'->M' p=some (.lst (db a_ g told (2 ^ m-1)))->Q (.ref p) M'
def rL(a_:Zy)(g told:Nat)(a:ZB):Prop:=∀f s r,Came a_ g told f s r->valD a (.inl (f:Int))=some (.tup [.int ((s+1:Nat):Int),⇑r])
def n0(c:CA)(S:Addr):SpD:=λds M Q=>∃(a:Addr) (m:Nat) (a_:Zy) (told g:Nat),ds=[.ref a,⇑told,⇑g]/\SheetAt c S M a m a_/\a_.length<64/\m<64/\told<2 ^ m /\
 ∀p b M',M p=none->Ext M M'->M' p=some (.dic b)->rL a_ g told b->Q (.ref p) M'
def gR:Ss:=#v[.ret (.bl false)]
def gS:Ss:=#v[.ite (.val (.mu "blocked" (.var 3) #v[.var 1,.var 2])) #v[.ret (.bl true)] .nil]
def jF:Ss:=.cons (.for (.nm 3) (.seq (.var 0)) gS) gR
def kz:Ss:=#v[.ret (.fn 0 #v[.var 0,.fn 1 #v[.mu0 "how_many" (.var 0)],.var 1,.var 2])]
def iQ:Ss:=#v[.ret (.var 3)]
def iR:Ss:=#v[.putIx (.var 3) (.var 4) (.tup #v[.var 5,.var 6])]
def uL:Ss:=.cons (.for (.tp [4,5,6]) (.seq (.fn 0 #v[.var 0,.var 1,.var 2])) iR) iQ
def sO:Ss:=.cons (.set 3 .dnew) uL
def fg:Ss:=#v[.ret (.bi .len #v[.fld (.var 0) "heads"])]
theorem zy(t:CT):t.flds.lookup ("blocked" : Str)=none:=by cases t<;>rfl
section
variable {cn:Cn}{ds:List D}{M:MH}{Q:DK}{c:CA}{S Z:Addr}
theorem vz(n:∀t:CT,cn.T (c.at t.kind) "blocked" = some (bQ c t.kind))(h:iP c ds M Q):wSs cn jF (fin Q) (ad ["","","",""] ds) M:=by
 obtain⟨a,x,m,j,o,rfl,k,hc,ho,q⟩:=h;show wSs cn jF (fin Q) [↑a,some (.int x),some (.int m),none] M;unfold jF;simp! only[List.set,k];have f:∀(rs:Zh) (ts:List CT) (v:Zz) (M1:MH),Ext M M1->bF c M rs ts->(∀t∈ts,t.ok)->(∀M',Ext M M'->Q (.bl (ts.any (CT.blocked x m))) M') ->
   aB (λM'=>M' a=some (.lst (af j))) (.nm 3) (wSs cn gS) { nx:=wSs cn gR (fin Q),rt:=Q } (af rs) [↑a,some (.int x),some (.int m),v] M1:=by
  intro rs ts v M1 d hc;induction hc generalizing v M1 with
  |nil=>
   intro _ q;rw[show af []=[] from rfl,aB];unfold gR;simp! only[];exact q M1 d
  |@cons r t rs ts p _ u=>
   intro ho q;rw[show af (r::rs)=.ref r::af rs from rfl,aB];have l:M1 r=some (.ins (c.at t.kind) t.flds):=d r _ p;unfold gS;simp! only[List.set,l,n,zy];refine⟨trivial,r,t,x,m,rfl,ho t (.head _),rfl,l,λM2 g=>?_⟩;simp only[XH] at q;cases b:t.blocked x m with
   |true=>
    rw[b] at q;exact q M2 (d.trans g)
   |false=>
    rw[b] at q;refine⟨(d.trans g) a _ k,u _ M2 (d.trans g) (λt' h'=>ho t' (.tail _ h')) ?_⟩;simpa using q
 exact f j o none M (Ext.refl M) hc ho q
theorem yF(b:∀f∈fX,cn.O S f)(h:fH c S ds M Q):wSs cn fg (fin Q) (ad [""] ds) M:=by
 obtain⟨a,m,a_,rfl,A,q⟩:=h;show wSs cn fg (fin Q) [↑a] M;obtain⟨ok,k_,p1,p2,p3,z_,x_,B',d,-⟩:=A;unfold fg;simp! only[d,sG];refine⟨b _ 'f',?_⟩;have:(nats (aE a_)).length=a_.length:=by unfold nats aE;rw[ZE,ZE]
 rw[this];exact q
theorem wN(b:cn.T S "how_many" = some (cE c S))(d:cn.F.getD 0 Yl=jE c S)(f:cn.F.getD 1 Yl=cC)(h:jS c S ds M Q):wSs cn kz (fin Q) (ad ["","",""] ds) M:=by
 obtain⟨a,m,a_,told,g,rfl,A,hn,hm,ht,q⟩:=h;show wSs cn kz (fin Q) [↑a,~~~told,~~~g] M;obtain⟨ok,k_,p1,p2,p3,z_,x_,B',j,-⟩:=A.ext (Ext.refl M);have n:1<=2 ^ m:=Nat.one_le_two_pow;unfold kz;simp! only[j,f6,b,d,f];refine⟨trivial,a,m,a_,rfl,A,m,rfl,by omega,?_⟩;exact⟨a,m,a_,2 ^ m-1,told,g,rfl,A,hn,hm,by omega,ht,λp M1 hp k l=>q p M1 hp k l⟩
theorem ES(P:cn.F.getD 0 Yl=jS c S)(h:n0 c S ds M Q):wSs cn sO (fin Q) (ad ["","","","","","",""] ds) M:=by
 obtain⟨a,m,a_,told,g,rfl,A,hn,hm,ht,q⟩:=h;show wSs cn sO (fin Q) [↑a,~~~told,~~~g,none,none,none,none] M;have hsz:(2000:Nat)<sizeLine:=by decide
 have R:2 ^ m-1<2 ^ m:=by have:=Nat.two_pow_pos m;omega
 have J:=sk (a_:=a_) (g:=g) ht R;have T:∀x∈a_,(2 ^ m-1).testBit x.1=true:=λx hx=>by
  rw[Nat.testBit_two_pow_sub_one];exact YV (A.ok.fit x hx).1
 unfold sO;simp! only[List.set];intro p hp;have K:Ext M (updM M p (MO.dic [])):=Ext.new hp;have L:updM M p (MO.dic []) p=some (.dic []):=aa;generalize updM M p (MO.dic [])=M1 at *;unfold uL;simp! only[List.set,P];refine⟨a,m,a_,told,g,rfl,A.ext K,hn,hm,ht,λl M2 hl O B=>?_⟩;simp only[B];have y:l≠p:=(aR L hl).symm;have U:=O _ _ L
 -- first what is told,then what comes
 have last:∀(b:ZB) (d j k:Zz) (M5:MH),Ext M M5->M5 p=some (.dic b)->rL a_ g told b->wSs cn iQ (fin Q) [↑a,~~~told,~~~g,↑p,d,j,k] M5:=by
  intro b d j k M5 V n W;unfold iQ;simp! only[];exact q p b M5 hp V n W
 have body:∀(E:EndsD) (f:Nat) (s r:D) (b:ZB) (M5:MH),M5 p=some (.dic b)->b.length<1000->E.nx [↑a,~~~told,~~~g,↑p,~~~f,some s,some r] (updM M5 p (.dic (putD b (.inl (f:Int)) (.tup [s,r])))) ->
   wSs cn iR E [↑a,~~~told,~~~g,↑p,~~~f,some s,some r] M5:=by
  intro E f s r b M5 n hk Y;unfold iR;simp! only[List.set,n];exact⟨by omega,Y⟩
 have C:∀(xs:List (Nat×Nat×Nat)) (b:ZB) (d j k:Zz) (M5:MH),ExtBut p M2 M5->M5 p=some (.dic b)->b.length+xs.length<1000->(xs.map (·.1)).Nodup ->
   (∀f s r,Came a_ g told f s r->(f,s+1,r)∈xs\/(valD b (.inl (f:Int))=some (.tup [.int ((s+1:Nat):Int),⇑r])/\f∉xs.map (·.1))) ->
   aB (λM'=>M' l=some (.lst (db a_ g told (2 ^ m-1)))) (.tp [4,5,6]) (wSs cn iR) { nx:=wSs cn iQ (fin Q),rt:=Q } (xs.map mN) [↑a,~~~told,~~~g,↑p,d,j,k] M5:=by
  intro xs;induction xs with
  |nil=>
   intro b d j k M5 o n _ _ hc;rw[YZ,aB];refine last b d j k M5 (ExtBut.ext (K.trans O) o hp) n λf s r u=>?_
   rcases hc f s r u with z | z
   ·cases z
   ·exact z.1
  |cons x xs G=>
   intro b d j k M5 o n hk nd hc;rw[YH] at hk;rw[YJ,YN] at nd;rw[YJ,aB];refine⟨rfl,?_⟩;refine body _ x.1 _ _ b M5 n 'b' ⟨by rw[ay y];exact o _ _ y B,?_⟩;have pl:=yD b (.inl (x.1:Int)) (.tup [.int (x.2.1:Int),.int (x.2.2:Int)]);refine G _ _ _ _ _ (o.trans (ExtBut.upd _ _ _)) aa 'b' nd.2 λf s r u=>?_
   rw[EQ];rcases hc f s r u with z | ⟨z1,z2⟩
   ·rcases ZZ.1 z with rfl | z
    ·refine .inr ⟨by rw[if_pos rfl],nd.1⟩
    ·exact .inl z
   ·rw[YJ,ZZ,not_or] at z2
    refine .inr ⟨?_,z2.2⟩;rw[if_neg (λz=>z2.1 (by injection z with z;exact Int.ofNat_inj.1 z))];exact z1
 have R5:∀(xs:Zj) (b:ZB) (d j k:Zz) (M5:MH),ExtBut p M2 M5->M5 p=some (.dic b)->b.length+xs.length+(bw a_ g (av (2 ^ m-1) told+1) 1 told (av (2 ^ m-1) told)).length<1000 ->
   aB (λM'=>M' l=some (.lst (db a_ g told (2 ^ m-1)))) (.tp [4,5,6]) (wSs cn iR) { nx:=wSs cn iQ (fin Q),rt:=Q } (xs.map mO++(bw a_ g (av (2 ^ m-1) told+1) 1 told (av (2 ^ m-1) told)).map mN) [↑a,~~~told,~~~g,↑p,d,j,k] M5:=by
  intro xs;induction xs with
  |nil=>
   intro b d j k M5 o n hk;rw[YZ,XD];refine C _ b d j k M5 o n (by simpa using hk) (iN _ _ _ _).1 λf s r u=>.inl ?_
   exact(sN T _ _ _).2 ⟨s,rfl,u⟩
  |cons x xs G=>
   intro b d j k M5 o n hk;rw[YH] at hk;rw[YJ,List.cons_append,aB];refine⟨rfl,?_⟩;refine body _ x _ _ b M5 n 'b' ⟨by rw[ay y];exact o _ _ y B,?_⟩;have pl:=yD b (.inl (x:Int)) (.tup [.int 0,.non]);exact G _ _ _ _ _ (o.trans (ExtBut.upd _ _ _)) aa 'b'
 unfold db at J;rw[ZJ,ZE,ZE] at J;exact R5 (memb told) [] none none none M2 (ExtBut.refl _ _) U (by simp only[YU];omega)
end
def vA:Ss:=#v[.ret (.str "false")]
def n6:Ss:=.cons (.ite (.val (.fn 0 #v[.var 1,.var 2])) #v[.ret (.str "open")] .nil) vA
def lY:Ss:=.cons (.ite (.val (.fn 0 #v[.var 0,.var 2])) #v[.ret (.str "true")] .nil) n6
def iS:Ss:=#v[.ret (.bk .list #v[.fld (.var 0) "pairs"])]
def dw:Ss:=#v[.ret (.fn 0 #v[.fld (.var 0) "sure",.fld (.var 0) "unsure",.var 1])]
def dc:Ss:=#v[.ret (.bin .Add (.mt .index (.comp 1 (.fn 0 #v[.ix (.var 2) (.int 1),.var 1]) (.nm 2) (.seq (.fld (.var 0) "pairs")) .no) #v[.bl true]) (.int 1))]
def cQ:Ss:=#v[.ret (.bin .Add (.mt .index (.comp 1 (.fn 0 #v[.ix (.var 2) (.int 0),.var 1]) (.nm 2) (.seq (.fld (.var 0) "pairs")) .no) #v[.bl false]) (.int 1))]
def ansS(a b f:Nat):Str:=if a.testBit f=true then "true" else if b.testBit f=true then "open" else "false"
def lh:SpD:=λds M Q=>∃(a b f:Nat),ds=[⇑a,⇑b,⇑f]/\Q (.str (ansS a b f)) M
def qK(Z:Addr):SpD:=λds M Q=>∃(a:Addr) (m:Nat) (ps:Zp) (x:Nat×Nat),ds=[.ref a]/\SortAt Z M a m ps x/\∀p M',M p=none->Ext M M'->M' p=some (.lst ((ps++[x]).map aL))->Q (.ref p) M'
def iT(Z:Addr):SpD:=λds M Q=>∃(a:Addr) (m:Nat) (ps:Zp) (x:Nat×Nat) (f:Nat),ds=[.ref a,⇑f]/\SortAt Z M a m ps x/\Q (.str (ansS x.2 (av x.1 x.2) f)) M
def f7(Z:Addr):SpD:=λds M Q=>∃(a:Addr) (m:Nat) (ps:Zp) (x:Nat×Nat) (f i:Nat) (y:Nat×Nat),ds=[.ref a,⇑f]/\SortAt Z M a m ps x/\(ps++[x])[i]?=some y/\y.2.testBit f=true/\(∀j z,j<i->(ps++[x])[j]?=some z->z.2.testBit f=false)/\∀M',Ext M M'->Q (.int ((i+1:Nat):Int)) M'
def fh(Z:Addr):SpD:=λds M Q=>∃(a:Addr) (m:Nat) (ps:Zp) (x:Nat×Nat) (f i:Nat) (y:Nat×Nat),ds=[.ref a,⇑f]/\SortAt Z M a m ps x/\(ps++[x])[i]?=some y/\y.1.testBit f=false/\(∀j z,j<i->(ps++[x])[j]?=some z->z.1.testBit f=true)/\∀M',Ext M M'->Q (.int ((i+1:Nat):Int)) M'
theorem sQ{m:Nat}{p:Addr}{x:Nat×Nat}:(mU m p x).lookup ("pairs" : Str)=↑p:=rfl
theorem GV{m:Nat}{p:Addr}{x:Nat×Nat}:(mU m p x).lookup ("runs" : Str)=none:=rfl
theorem yG{m:Nat}{p:Addr}{x:Nat×Nat}:(mU m p x).lookup ("answer_of" : Str)=none:=rfl
theorem wO{m:Nat}{p:Addr}{x:Nat×Nat}:(mU m p x).lookup ("true_round" : Str)=none:=rfl
theorem vB{m:Nat}{p:Addr}{x:Nat×Nat}:(mU m p x).lookup ("false_round" : Str)=none:=rfl
theorem Fk(x y:Bool):eqD (.bl x) (.bl y)=(x==y):=by rw[eqD]
theorem sR{a:Type}(g:a->Bool):∀l:List a,aI (l.map λy=>D.bl (g y))=true
 |[]=>rfl
 |y::l=>by rw[YJ,aI,sR g l];rfl
theorem vC{a:Type}(g:a->Bool):∀l:List a,aT (l.map λy=>D.bl (g y))=0
 |[]=>rfl
 |y::l=>by rw[YJ,aT,vC g l];rfl
theorem Aj{a:Type}{g:a->Bool}{l:List a}{b:Bool}{i:Nat}{y:a}(c:l[i]?=some y)(f:g y=b)(k:∀(j:Nat) (z:a),j<i->l[j]?=some z->g z = !b):(l.map λy=>D.bl (g y)).findIdx? (λd=>eqD d (.bl b))=some i:=by
 have hl:=(YB.mp c).1;rw[List.findIdx?_eq_some_iff_getElem];refine⟨by rw[ZE];exact hl,?_,λj m=>?_⟩
 ·rw[List.getElem_map,Fk]
  have:l[i]=y:=by rw[ZC hl] at c;exact Yi c
  rw[this,f];simp
 ·rw[List.getElem_map,Fk,k j _ m (ZC 'b')]
  cases b<;>decide
theorem sU{b:Type}{p:b->Bool}:∀{l:List b}{i:Nat}{y:b},l[i]?=some y->p y=true->∃(j:Nat) (z:b),l[j]?=some z/\p z=true/\∀(k:Nat) (w:b),k<j->l[k]?=some w->p w=false
 |[],_,_,h,_=>by cases h
 |a::l,i,y,h,q=>by
  cases e:p a with
  |true=>exact⟨0,a,rfl,e,λk w hk=>absurd hk (Nat.not_lt_zero _)⟩
  |false=>
   cases i with
   |zero=>
    have h:some a=some y:=h;cases h;rw[e] at q;cases q
   |succ i=>
    obtain⟨j,z,c,d,f⟩:=sU (l:=l) (i:=i) h q;refine⟨j+1,z,c,d,λk w hk hw=>?_⟩;cases k with
    |zero=>
     have hw:some a=some w:=hw;cases hw;exact e
    |succ k=>exact f k w 'b' hw
def bitAt(j:Int)(f:Nat):D->D
 |.tup l=>match atI l j with
  |some (.int b)=>.bl (hasB b (f:Int))
  |_=>.non
 |_=>.non
theorem IL(f:Nat)(l:Zp):(l.map aL).map (bitAt 0 f)=l.map λy=>D.bl (y.1.testBit f):=by
 rw[ZL];refine ZM λy _=>?_
 show bitAt 0 f (.tup [⇑y.1,⇑y.2])=_;rw[bitAt,at0];show D.bl (hasB (y.1:Int) (f:Int))=_;rw[ck]
theorem IM(f:Nat)(l:Zp):(l.map aL).map (bitAt 1 f)=l.map λy=>D.bl (y.2.testBit f):=by
 rw[ZL];refine ZM λy _=>?_
 show bitAt 1 f (.tup [⇑y.1,⇑y.2])=_;rw[bitAt,at1];show D.bl (hasB (y.2:Int) (f:Int))=_;rw[ck]
section
variable {cn:Cn}{ds:List D}{M:MH}{Q:DK}{c:CA}{S Z:Addr}
theorem yH(d:cn.F.getD 0 Yl=bn)(h:lh ds M Q):wSs cn lY (fin Q) (ad ["","",""] ds) M:=by
 obtain⟨a,b,f,rfl,q⟩:=h;show wSs cn lY (fin Q) [~~~a,~~~b,~~~f] M;unfold ansS at q;unfold lY;simp! only[d];refine⟨(a:Int),(f:Int),rfl,by omega,?_⟩;rw[ck];cases e:a.testBit f with
 |true=>rw[if_pos e] at q;exact q
 |false=>
  rw[if_neg (by rw[e];decide)] at q;simp only[ag];unfold n6;simp! only[d];refine⟨(b:Int),(f:Int),rfl,by omega,?_⟩;rw[ck];cases e:b.testBit f with
  |true=>rw[if_pos e] at q;exact q
  |false=>
   rw[if_neg (by rw[e];decide)] at q;exact q
theorem GW(d:∀f∈pw,cn.O Z f)(h:qK Z ds M Q):wSs cn iS (fin Q) (ad [""] ds) M:=by
 obtain⟨a,m,ps,x,rfl,⟨p,g,j⟩,q⟩:=h;show wSs cn iS (fin Q) [↑a] M;unfold iS;simp! only[g,sQ,dBk,dD,j];refine⟨d _ 'f',λk b=>?_⟩;exact q k _ b (Ext.new b) aa
theorem yI(b:∀f∈pw,cn.O Z f)(d:cn.F.getD 0 Yl=lh)(h:iT Z ds M Q):wSs cn dw (fin Q) (ad ["",""] ds) M:=by
 obtain⟨a,m,ps,x,f,rfl,⟨p,g,j⟩,q⟩:=h;show wSs cn dw (fin Q) [↑a,~~~f] M;unfold dw;simp! only[g,GT,Dj,d];exact⟨b _ 'f',b _ 'f',x.2,av x.1 x.2,f,rfl,q⟩
theorem wQ(l:∀f∈pw,cn.O Z f)(n:cn.F.getD 0 Yl=bn)(h:f7 Z ds M Q):wSs cn dc (fin Q) (ad ["",""] ds) M:=by
 obtain⟨a,m,ps,x,f,i,y,rfl,⟨p,o,g⟩,r,u,A,q⟩:=h;show wSs cn dc (fin Q) [↑a,~~~f] M;unfold dc;simp! only[List.cons_append,XD,List.replicate,o,sQ,g,n];refine⟨l _ 'f',?_⟩;refine cN (f:=bitAt 1 f) (ok:=λσ=>∃v,σ=[↑a,~~~f,v]) [] _ ⟨none,rfl⟩ ?_ ?_
 ·intro d hd σ L rest ⟨v,B⟩ C
  subst B;obtain⟨k,P,rfl⟩:=XV.1 hd;have G:=C _ ⟨some (aL k),rfl⟩;refine⟨(k.2:Int),(f:Int),rfl,by omega,g,?_⟩;exact G
 intro R J;rw[XD,IM,aa];simp only[rdL];refine⟨rfl,⟨rfl,sR _ _,by rw[vC];decide⟩,?_⟩;rw[Aj (b:=true) r u λj z K hz=>A j z K hz];exact q _ (Ext.new J)
theorem vD(l:∀f∈pw,cn.O Z f)(n:cn.F.getD 0 Yl=bn)(h:fh Z ds M Q):wSs cn cQ (fin Q) (ad ["",""] ds) M:=by
 obtain⟨a,m,ps,x,f,i,y,rfl,⟨p,o,g⟩,r,u,A,q⟩:=h;show wSs cn cQ (fin Q) [↑a,~~~f] M;unfold cQ;simp! only[List.cons_append,XD,List.replicate,o,sQ,g,n];refine⟨l _ 'f',?_⟩;refine cN (f:=bitAt 0 f) (ok:=λσ=>∃v,σ=[↑a,~~~f,v]) [] _ ⟨none,rfl⟩ ?_ ?_
 ·intro d hd σ L rest ⟨v,B⟩ C
  subst B;obtain⟨k,P,rfl⟩:=XV.1 hd;have G:=C _ ⟨some (aL k),rfl⟩;refine⟨(k.1:Int),(f:Int),rfl,by omega,g,?_⟩;exact G
 intro R J;rw[XD,IL,aa];simp only[rdL];refine⟨rfl,⟨rfl,sR _ _,by rw[vC];decide⟩,?_⟩;rw[Aj (b:=false) r u λj z K hz=>A j z K hz];exact q _ (Ext.new J)
end
def jG:Ss:=#v[.ret (.var 6)]
def n9:Ss:=#v[.expr (.mt .append (.var 6) #v[.bin .Add (.tup #v[.str "true",.var 9]) (.ix (.ix (.var 4) (.bin .Sub (.var 9) (.int 1))) (.var 7))])]
def oa:Ss:=#v[.ite (.val (.fn 0 #v[.var 1,.var 7])) #v[.expr (.mt .append (.var 6) #v[.glob 0])] #v[.ite (.cmp .Eq (.var 8) (.str "true")) (.cons (.set 9 (.mu "true_round" (.var 2) #v[.var 7])) n9) #v[.ite (.cmp .Eq (.var 8) (.str "false")) #v[.expr (.mt .append (.var 6) #v[.tup #v[.str "false",.mu "false_round" (.var 2) #v[.var 7]]])] #v[.expr (.mt .append (.var 6) #v[.bin .Add (.tup #v[.str "open"]) (.ix (.var 5) (.var 7))])]]]]
def fI:Ss:=.cons (.set 8 (.mu "answer_of" (.var 2) #v[.var 7])) oa
def og:Ss:=.cons (.for (.nm 7) (.rg1 #v[.mu0 "how_many" (.var 0)]) fI) jG
def oh:Ss:=.cons (.set 6 (.lst .nil)) og
def jH:Ss:=.cons (.set 5 (.fn 1 #v[.var 0,.var 1,.ix (.ix (.var 3) (.neg (.int 1))) (.int 1)])) oh
def om:Ss:=.cons (.setC 4 1 (.fn 1 #v[.var 0,.var 1,.ix (.var 10) (.int 0)]) (.nm 10) (.seq (.var 3)) .no) jH
def on:Ss:=.cons (.set 3 (.mu0 "runs" (.var 2))) om
def lZ:Ss:=.cons (.set 2 (.fn 2 #v[.var 0,.var 1])) on
def li(c:CA)(S:Addr):SpD:=λds M Q=>∃(a:Addr) (m:Nat) (a_:Zy) (told:Nat),ds=[.ref a,⇑told]/\SheetAt c S M a m a_/\a_.length<64/\m<64/\told<2 ^ m /\
 ∀p ps pps M',M p=none->Ext M M'->M' p=some (.lst (pps.map Pap.D))->Papers a_ m told ps pps->Q (.ref p) M'
def dk(M:MH)(a_:Zy)(told:Nat)(a:Zh)(L:Zp):Prop:=a.length=L.length/\∀(i:Nat) (q:Addr) (y:Nat×Nat),a[i]?=some q->L[i]?=some y->∃b,M q=some (.dic b)/\rL a_ y.1 told b
theorem dk.ext{M M':MH}{a_:Zy}{told:Nat}{c:Zh}{L:Zp}(e:Ext M M')(h:dk M a_ told c L):dk M' a_ told c L:=
 ⟨h.1,λi q y d f=>let⟨b_,a,b⟩:=h.2 i q y d f;⟨b_,e _ _ a,b⟩⟩
theorem dk.add{M:MH}{a_:Zy}{told:Nat}{d:Zh}{L:Zp}{q:Addr}{y:Nat×Nat}{c:ZB}(h:dk M a_ told d L)(f:M q=some (.dic c))(g:rL a_ y.1 told c):dk M a_ told (d++[q]) (L++[y]):=by
 refine⟨by rw[ZJ,ZJ,h.1];rfl,λi j k a b=>?_⟩;by_cases hi:i<L.length
 ·rw[ZD (by rw[h.1];exact hi)] at a
  rw[ZD hi] at b;exact h.2 i j k a b
 ·have hl:=(YB.mp b).1
  rw[ZJ] at hl;have:i=L.length:=by simp at hl;omega
  subst this;rw[ZG (by rw[h.1];exact YE _),h.1,Nat.sub_self] at a;rw[ZG (YE _),Nat.sub_self] at b;cases a;cases b;exact⟨c,f,g⟩
theorem yJ{a:Type}(ps:List a)(x:a):(ps++[x]).getLast?=some x:=by rw[List.getLast?_append];simp
section
variable {cn:Cn}{ds:List D}{M:MH}{Q:DK}{c:CA}{S Z:Addr}
theorem yK(hT:cn.T S "how_many" = some (cE c S))(t1:cn.T Z "runs" = some (qK Z))(t2:cn.T Z "answer_of" = some (iT Z))(t3:cn.T Z "true_round" = some (f7 Z))(t4:cn.T Z "false_round" = some (fh Z))
  (hG:cn.G.getD 0 .non=Pap.told.D) (f0:cn.F.getD 0 Yl=bn) (f1:cn.F.getD 1 Yl=n0 c S) (f2:cn.F.getD 2 Yl=bm Z (gt c S Z)) (h:li c S ds M Q):
  wSs cn lZ (fin Q) (ad ["","","","","","","","","",""] ds) M:=by
 obtain⟨a,m,a_,told,rfl,A,hn,hm,ht,q⟩:=h;show wSs cn lZ (fin Q) [↑a,~~~told,none,none,none,none,none,none,none,none] M;have hsz:(2000:Nat)<sizeLine:=by decide
 unfold lZ;simp! only[List.set,f2];intro z hz;have ez:Ext M (updM M z (.ins Z [])):=Ext.new hz;refine⟨z,a,m,a_,told,rfl,aa,A.ext ez,hn,hm,ht,λps x M3 P Z3 R0=>⟨rfl,?_⟩⟩;have e3:Ext M M3:=ExtBut.ext ez P hz;have R:Runs a_ m told (ps++[x]):=⟨A.ok,ht,by simp,R0⟩;clear P ez hz;obtain⟨pz,Y,OL⟩:=id Z3;unfold on;simp! only[List.set,Y,GV,t1];refine⟨trivial,z,m,ps,x,rfl,Z3,λL M4 Wz e4 g4=>?_⟩;unfold om;simp! only[List.set,List.cons_append,XD,List.replicate,g4];have comp:∀(F:List D->MH->Prop),(∀b M5,Ext M4 M5->dk M5 a_ told b (ps++[x])->F (af b) M5)->∀(rest dn:Zp) (b:Zh) (v:Zz) (M5:MH),ps++[x]=dn++rest->Ext M4 M5->dk M5 a_ told b dn ->
   ar (λM'=>M' L=some (.lst ((ps++[x]).map aL))) (.nm 10) (wTo cn .no) (wE cn (.fn 1 (.cons (.var 0) (.cons (.var 1) (.cons (.ix (.var 10) (.int 0)) .nil))))) F (rest.map aL) (af b) [↑a,~~~told,↑z,↑L,none,none,none,none,none,none,v] M5:=by
  intro F hF rest;induction rest with
  |nil=>
   intro dn b v M5 hd g s5;rw[ZA] at hd;rw[YZ,ar];exact hF b M5 g (hd▸s5)
  |cons y rest ih=>
   intro dn b v M5 hd g s5;rw[YJ,ar];have go:n0 c S [.ref a,⇑told,⇑y.1] M5 (λd M2=>M2 L=some (.lst ((ps++[x]).map aL))/\ar (λM'=>M' L=some (.lst ((ps++[x]).map aL))) (.nm 10) (wTo cn .no) (wE cn (.fn 1 (.cons (.var 0) (.cons (.var 1) (.cons (.ix (.var 10) (.int 0)) .nil))))) F (rest.map aL) (af b++[d]) [↑a,~~~told,↑z,↑L,none,none,none,none,none,none,some (aL y)] M2):=by
    refine⟨a,m,a_,told,y.1,rfl,A.ext (e3.trans (e4.trans g)),hn,hm,ht,λq b_ l hq u g6 r6=>⟨u _ _ (g _ _ g4),?_⟩⟩;have s6:=(s5.ext u).add (y:=y) g6 r6
    have:=ih (dn++[y]) (b++[q]) (some (aL y)) l (by rw[hd];simp) (g.trans u) s6
    rw[show af (b++[q])=af b++[.ref q] from ZK] at this;exact this
   rw[←f1] at go;exact go
 refine comp _ ?_ (ps++[x]) [] [] none M4 rfl (Ext.refl _) ⟨rfl,λi q y h=>by cases h⟩;clear comp;intro b M5 g s5 J Pa;have R6:Ext M (updM M5 J (.lst (af b))):=(e3.trans (e4.trans g)).then Pa;have UR:Ext M3 (updM M5 J (.lst (af b))):=(e4.trans g).then Pa;have K:updM M5 J (MO.lst (af b)) L=some (.lst ((ps++[x]).map aL)):=Ext.new Pa _ _ (g _ _ g4);have s6:=s5.ext (Ext.new (o:=.lst (af b)) Pa);have b6:updM M5 J (MO.lst (af b)) J=some (.lst (af b)):=aa;show wSs cn jH (fin Q) [↑a,~~~told,↑z,↑L,↑J,none,none,none,none,none] (updM M5 J (MO.lst (af b)));generalize updM M5 J (MO.lst (af b))=l at *;unfold jH;simp! only[List.set,K,fG,at1,f1];refine⟨a,m,a_,told,x.2,rfl,A.ext R6,hn,hm,ht,λbl Ys V WB e7 g7 r7=>?_⟩;have Qh:=R6.trans e7;have Z7:=Z3.ext (UR.trans e7);have s7:=s6.ext e7;have b7:=e7 _ _ b6;clear R6 UR s6 b6 K g s5 Pa e4 g4 Wz Y OL Z3 e3 WB e7;clear l M5 M4 M3;unfold oh;simp! only[List.set];intro p hp;have WC:M p=none:=Qh.free hp;have e8:Ext V (updM V p (.lst [])):=Ext.new hp;have g8:updM V p (MO.lst []) p=some (.lst (([]:List Pap).map Pap.D)):=aa;generalize updM V p (MO.lst [])=M8 at *;obtain⟨ok,k_,p1,p2,p3,z_,x_,B',O,-⟩:=A.ext (Qh.trans e8);unfold og;simp! only[List.set,O,f6,hT];refine⟨trivial,a,m,a_,rfl,A.ext (Qh.trans e8),⟨by omega,by omega⟩,?_⟩;rw[cP,List.range_eq_range'];have body:∀(E:EndsD) (f:Nat) (pps:ZO) (B C:Zz) (M5:MH),f<m->pps.length=f->Ext V M5->M5 p=some (.lst (pps.map Pap.D)) ->
   (∀q B C l,mV a_ told (ps++[x]) f q->Ext V l->l p=some (.lst ((pps++[q]).map Pap.D))->E.nx [↑a,~~~told,↑z,↑L,↑J,↑bl,↑p,~~~f,B,C] l) ->
   wSs cn fI E [↑a,~~~told,↑z,↑L,↑J,↑bl,↑p,~~~f,B,C] M5:=by
  intro E f pps B C M5 hf hl g K kk;have Z5:=Z7.ext g;obtain⟨pz,Y,OL⟩:=id Z5;have N5:(pps.map Pap.D).length=f:=by rw[ZE,hl]
  -- what is put behind
  have put:∀(q:Pap) (B C:Zz) (l:MH),Ext M5 l->mV a_ told (ps++[x]) f q->E.nx [↑a,~~~told,↑z,↑L,↑J,↑bl,↑p,~~~f,B,C] (updM l p (.lst (pps.map Pap.D++[q.D]))):=by
   intro q B C l u hq;refine kk q B C _ hq ((g.trans u).put hp) ?_;rw[aa,ZK];rfl
  unfold fI;simp! only[List.set,Y,yG,t2];refine⟨trivial,z,m,ps,x,f,rfl,Z5,?_⟩;unfold oa;simp! only[List.set,f0];refine⟨(told:Int),(f:Int),rfl,by omega,?_⟩;rw[ck];have gx:(ps++[x])[ps.length]?=some x:=by simp
  cases bt:told.testBit f with
  |true=>
   simp only[aH,hG,K];refine⟨rfl,by omega,?_⟩;exact put .told _ _ M5 (Ext.refl _) bt
  |false=>
   simp only[ag];have str:∀(s k:Str),(aJ (.str s)=true/\aJ (.str k)=true/\depD (.str s)<=30):=λs k=>⟨rfl,rfl,(by decide:(0:Nat)<=30)⟩
   cases b2:x.2.testBit f with
   |true=>
    have ea:ansS x.2 (av x.1 x.2) f = "true":=by unfold ansS;rw[if_pos b2]
    rw[ea];refine⟨str _ _,?_⟩;rw[ah,show(("true" : Str) == "true")=true by rfl'];simp only[aH,Y,wO,t3];obtain⟨i,y,O,U,W⟩:=sU (p:=λ(y:Nat×Nat)=>y.2.testBit f) gx b2;refine⟨trivial,z,m,ps,x,f,i,y,rfl,Z5,O,U,W,λl u=>?_⟩;have hc:∃s r,Came a_ y.1 told f s r:=by
     rcases((R.l2 O).came R.heads f).1 U with z | z
     ·rw[bt] at z;cases z
     ·exact z
    obtain⟨s,r,hc⟩:=hc;have Np:=(YB.mp O).1;have R7:b[i]?=some (b[i]'(by rw[s7.1];exact Np)):=ZC _;generalize b[i]'(by rw[s7.1];exact Np)=qa at R7;obtain⟨b_,k1,k2⟩:=s7.2 i qa y R7 O;have K5:atI (af b) (((i+1:Nat):Int)-1)=↑qa:=by
     rw[show(((i+1:Nat):Int)-1)=(i:Int) by omega];exact bW (by unfold af;rw[ZF,R7];rfl)
    unfold n9;simp! only[List.set,(g.trans u) _ _ b7,u _ _ K,K5,(g.trans u) _ _ k1,k2 f s r hc,List.cons_append,XD];refine⟨rfl,⟨by simp,by show 4<=sizeLine;omega⟩,by omega,?_⟩;exact put (.tru (i+1) (s+1) r) _ _ l u ⟨bt,i,s,y,rfl,rfl,O,U,λj w hj hw=>W j w hj hw,hc⟩
   |false=>
    cases P:x.1.testBit f with
    |false=>
     have ea:ansS x.2 (av x.1 x.2) f = "false":=by unfold ansS;rw[if_neg (by rw[b2];decide),if_neg (by rw[aZ,P,YD];decide)]
     rw[ea];refine⟨str _ _,?_⟩;rw[ah,show(("false" : Str) == "true")=false by rfl'];simp only[ag];refine⟨str _ _,?_⟩;rw[ah,show(("false" : Str) == "false")=true by rfl'];simp only[aH,Y,vB,t4,K];obtain⟨i,y,O,U,W⟩:=sU (p:=λ(y:Nat×Nat)=>!y.1.testBit f) gx (by rw[P];rfl);have U:y.1.testBit f=false:=by simpa using U
     have W:∀(j:Nat) (w:Nat×Nat),j<i->(ps++[x])[j]?=some w->w.1.testBit f=true:=λj w hj hw=>by simpa using W j w hj hw
     refine⟨rfl,trivial,z,m,ps,x,f,i,y,rfl,Z5,O,U,W,λl u=>?_⟩;simp only[u _ _ K];refine⟨by omega,?_⟩;exact put (.fls (i+1)) _ _ l u ⟨bt,i,y,rfl,O,U,W⟩
    |true=>
     have ea:ansS x.2 (av x.1 x.2) f = "open":=by unfold ansS;rw[if_neg (by rw[b2];decide),if_pos (by rw[aZ,P,b2];rfl)]
     rw[ea];refine⟨str _ _,?_⟩;rw[ah,show(("open" : Str) == "true")=false by rfl'];simp only[ag];refine⟨str _ _,?_⟩;rw[ah,show(("open" : Str) == "false")=false by rfl'];have hc:∃s r,Came a_ x.2 told f s r:=by
      rcases((R.end_ (yJ ps x)).came R.heads f).1 P with z | z
      ·rw[bt] at z;cases z
      ·exact z
     obtain⟨s,r,hc⟩:=hc;simp only[ag,g _ _ g7,r7 f s r hc,K,List.cons_append,XD];refine⟨rfl,⟨by simp,by show 3<=sizeLine;omega⟩,by omega,?_⟩;exact put (.opn (s+1) r) _ _ M5 (Ext.refl _) ⟨bt,s,x,rfl,yJ ps x,P,b2,hc⟩
 have ap:∀(k n:Nat) (pps:ZO) (v7 B C:Zz) (M5:MH),n+k=m->pps.length=n->(∀f q,pps[f]?=some q->mV a_ told (ps++[x]) f q)->Ext V M5->M5 p=some (.lst (pps.map Pap.D)) ->
   aB (λ_=>True) (.nm 7) (wSs cn fI) { nx:=wSs cn jG (fin Q),rt:=Q } (nats (List.range' n k)) [↑a,~~~told,↑z,↑L,↑J,↑bl,↑p,v7,B,C] M5:=by
  intro k;induction k with
  |zero=>
   intro n pps v7 B C M5 WD hl Pb g K;rw[List.range'_zero,show nats []=[] from rfl,aB];unfold jG;simp! only[];exact q p (ps++[x]) pps M5 WC (Qh.trans g) K ⟨R,by omega,Pb⟩
  |succ k ih=>
   intro n pps v7 B C M5 WD hl Pb g K;rw[List.range'_succ,show nats (n::List.range' (n+1) k)=⇑n::nats (List.range' (n+1) k) from rfl,aB];refine body _ n pps B C M5 'b' hl g K ?_;intro q B C l hq u g6;refine⟨trivial,ih (n+1) (pps++[q]) _ _ _ l 'b' (by rw[ZJ,hl];rfl) (λf q' hf=>?_) u g6⟩;by_cases P1:f<n
   ·rw[ZD 'b'] at hf
    exact Pb f q' hf
   ·have N6:=(YB.mp hf).1
    rw[ZJ,hl] at N6;have:f=n:=by simp at N6;omega
    subst this;rw[ZG 'b',hl,Nat.sub_self] at hf;cases hf;exact hq
 exact ap m 0 [] none none none M8 'b' rfl (λf q h=>by cases h) e8 g8
end
def enP:Nat->List Pap->List (Nat×Pap)
 |_,[]=>[]
 |n,q::l=>(n,q)::enP (n+1) l
def tupP(x:Nat×Pap):D:=.tup [⇑x.1,x.2.D]
theorem pA:∀(n:Nat) (l:ZO),aX (n:Int) (l.map Pap.D)=(enP n l).map tupP
 |n,[]=>by rw[YZ,aX];rfl
 |n,q::l=>by
  rw[YJ,aX,enP,YJ,←pA (n+1) l];rfl
theorem vE:∀(n:Nat) (l:ZO) (f:Nat) (q:Pap),(f,q)∈enP n l↔n<=f/\l[f-n]?=some q
 |n,[],f,q=>by rw[enP];simp
 |n,a::l,f,q=>by
  rw[enP,ZZ,vE (n+1) l f q];constructor
  ·rintro(h | ⟨h1,b⟩)
   ·cases h
    exact⟨YE _,by rw[Nat.sub_self];rfl⟩
   ·refine⟨by omega,?_⟩
    rw[show f-n=(f-(n+1))+1 by omega];exact b
  ·rintro⟨h1,b⟩
   by_cases e:f=n
   ·subst e
    rw[Nat.sub_self] at b;have b:some a=some q:=b;cases b;exact .inl rfl
   ·refine .inr ⟨by omega,?_⟩
    rw[show f-n=(f-(n+1))+1 by omega] at b;exact b
def ones(pps:ZO)(p:Pap->Bool):List (Nat×Pap):=(enP 0 pps).filter λx=>p x.2
theorem fj{pps:ZO}{p:Pap->Bool}{f:Nat}{q:Pap}:(f,q)∈ones pps p↔pps[f]?=some q/\p q=true:=by
 unfold ones;rw[ZU,vE,Nat.sub_zero];exact⟨λh=>⟨h.1.2,h.2⟩,λh=>⟨⟨YL _,h.1⟩,h.2⟩⟩
theorem l0{pps:ZO}{p r:Pap->Bool}:setN (((ones pps p).filter λx=>r x.2).map (·.1))=setP pps (λq=>p q&&r q):=by
 refine XY λf=>?_
 rw[Bool.eq_iff_iff,bv,XR,eY,XV];constructor
 ·rintro⟨⟨f',q⟩,h,rfl⟩
  rw[ZU,fj] at h;exact⟨q,h.1.1,by rw[h.1.2,h.2];rfl⟩
 ·rintro⟨q,h1,h2⟩
  rw[YY] at h2;exact⟨(f,q),ZU.2 ⟨fj.2 ⟨h1,h2.1⟩,h2.2⟩,rfl⟩
theorem iU{pps:ZO}{p r:Pap->Bool}(h:∀q,p q=r q):setP pps p=setP pps r:=by
 rw[show p=r from funext h]
theorem Ak{pps:ZO}{p:Pap->Bool}:setN ((ones pps p).map (·.1))=setP pps p:=by
 have:=l0 (pps:=pps) (p:=p) (r:=λ_=>true)
 rw[List.filter_eq_self.2 (λ_ _=>rfl)] at this;rw[this];exact iU λq=>Bool.and_true _
theorem fm{g:MH->Prop}{t:Tgt}{c:WT}{e:WE}{F:List D->MH->Prop}{ok:DS->Prop}{M:MH}(p:Nat×Pap->Bool)(out:Nat×Pap->D):∀(l:List (Nat×Pap)) (e_:List D) (σ:DS),ok σ ->
  (∀x∈l,∀σ e_ rest,ok σ->(∀a,ok a->ar g t c e F rest (e_++cond (p x) [out x] []) a M)->ar g t c e F (tupP x::rest) e_ σ M)->F (e_++(l.filter p).map out) M->ar g t c e F (l.map tupP) e_ σ M
 |[],e_,σ,_,_,q=>by
  rw[List.filter_nil,YZ,ZA] at q;exact q
 |x::l,e_,σ,h,st,q=>st x ZX σ e_ _ h λa h'=>fm p out l (e_++cond (p x) [out x] []) a h' (λy hy=>st y (.tail _ hy)) (by
  rw[XU] at q;cases e:p x with
  |true=>rw[e] at q;simpa using q
  |false=>rw[e] at q;simpa using q)
def j9:List Str:=["everything","true_ones","false_ones","open_ones","sure","not_false"]
def dG(pps:ZO)(p1 p2 p3:Addr):List (Str×D):=[("everything",.int ((2 ^ pps.length-1:Nat):Int)),("true_ones",.ref p1),("false_ones",.ref p2),("open_ones",.ref p3),("sure",.int ((setP pps Pap.isT:Nat):Int)),("not_false",.int ((av (2 ^ pps.length-1) (setP pps Pap.isF):Nat):Int))]
structure ClaimAt (W:Addr) (M:MH) (a:Addr) (pps:ZO):Prop where
 ex:∃p1 p2 p3,M a=some (.ins W (dG pps p1 p2 p3))/\M p1=some (.lst ((ones pps Pap.isT).map tupP))/\M p2=some (.lst ((ones pps Pap.isF).map tupP))/\M p3=some (.lst ((ones pps Pap.isO).map tupP))
theorem ClaimAt.ext{W:Addr}{M M':MH}{a:Addr}{pps:ZO}(e:Ext M M')(h:ClaimAt W M a pps):ClaimAt W M' a pps:=by
 obtain⟨p1,p2,p3,b,c,d,f⟩:=h;exact⟨p1,p2,p3,e _ _ b,e _ _ c,e _ _ d,e _ _ f⟩
def fo(W:Addr):SpD:=λds M Q=>∃(a b:Addr) (pps:ZO),ds=[.ref a,.ref b]/\M a=some (.ins W [])/\M b=some (.lst (pps.map Pap.D))/\pps.length<=120/\∀M',ExtBut a M M'->ClaimAt W M' a pps->Q .non M'
def f8(W:Addr):SpD:=λds M Q=>∃(a:Addr) (pps:ZO) (i s:Nat),ds=[.ref a,⇑i,⇑s]/\ClaimAt W M a pps/\pps.length<=120/\∀M',Ext M M'->Q (.int ((setP pps (cI i s):Nat):Int)) M'
def l9(W:Addr):SpD:=λds M Q=>∃(a:Addr) (pps:ZO) (i:Nat),ds=[.ref a,⇑i]/\ClaimAt W M a pps/\pps.length<=120/\∀M',Ext M M'->Q (.int ((setP pps (pBy i):Nat):Int)) M'
def de(W:Addr):SpD:=λds M Q=>∃(a:Addr) (pps:ZO) (i:Nat),ds=[.ref a,⇑i]/\ClaimAt W M a pps/\pps.length<=120/\∀M',Ext M M'->Q (.int ((av (2 ^ pps.length-1) (setP pps (pFls i)):Nat):Int)) M'
def f9(W:Addr):SpD:=λds M Q=>∃(a:Addr) (pps:ZO) (s:Nat),ds=[.ref a,⇑s]/\ClaimAt W M a pps/\pps.length<=120/\∀M',Ext M M'->Q (.int ((setP pps (pOpn s):Nat):Int)) M'
def ma:Ss:=#v[.setF (.var 0) "not_false" (.bin .BitAnd (.fld (.var 0) "everything") (.inv (.fn 0 #v[.comp 2 (.var 2) (.tp [2,3]) (.seq (.fld (.var 0) "false_ones")) .no])))]
def md:Ss:=.cons (.setF (.var 0) "sure" (.fn 0 #v[.comp 2 (.var 2) (.tp [2,3]) (.seq (.fld (.var 0) "true_ones")) .no])) ma
def me:Ss:=.cons (.setF (.var 0) "open_ones" (.comp 2 (.tup #v[.var 2,.var 3]) (.tp [2,3]) (.enum #v[.var 1]) (.yes (.cmp .Eq (.ix (.var 3) (.int 0)) (.str "open"))))) md
def mf:Ss:=.cons (.setF (.var 0) "false_ones" (.comp 2 (.tup #v[.var 2,.var 3]) (.tp [2,3]) (.enum #v[.var 1]) (.yes (.cmp .Eq (.ix (.var 3) (.int 0)) (.str "false"))))) me
def mh:Ss:=.cons (.setF (.var 0) "true_ones" (.comp 2 (.tup #v[.var 2,.var 3]) (.tp [2,3]) (.enum #v[.var 1]) (.yes (.cmp .Eq (.ix (.var 3) (.int 0)) (.str "true"))))) mf
def jI:Ss:=.cons (.setF (.var 0) "everything" (.fn 1 #v[.bi .len #v[.var 1]])) mh
def dy:Ss:=#v[.ret (.fn 0 #v[.comp 2 (.var 3) (.tp [3,4]) (.seq (.fld (.var 0) "true_ones")) (.yes (.cmp .Lt (.sl (.var 4) (.yes (.int 1)) (.yes (.int 3))) (.tup #v[.var 1,.var 2])))])]
def cq:Ss:=#v[.ret (.fn 0 #v[.comp 2 (.var 2) (.tp [2,3]) (.seq (.fld (.var 0) "true_ones")) (.yes (.cmp .Lt (.ix (.var 3) (.int 1)) (.var 1)))])]
def cR:Ss:=#v[.ret (.bin .BitAnd (.fld (.var 0) "everything") (.inv (.fn 0 #v[.comp 2 (.var 2) (.tp [2,3]) (.seq (.fld (.var 0) "false_ones")) (.yes (.cmp .LtE (.ix (.var 3) (.int 1)) (.var 1)))])))]
def dA:Ss:=#v[.ret (.fn 0 #v[.comp 2 (.var 2) (.tp [2,3]) (.seq (.fld (.var 0) "open_ones")) (.yes (.cmp .Lt (.ix (.var 3) (.int 1)) (.var 1)))])]
abbrev cF1(x:D):List (Str×D):=[("everything",x)]
abbrev cF2(x y:D):List (Str×D):=[("everything",x),("true_ones",y)]
abbrev cF3(x y z:D):List (Str×D):=[("everything",x),("true_ones",y),("false_ones",z)]
abbrev cF4(x y z u:D):List (Str×D):=[("everything",x),("true_ones",y),("false_ones",z),("open_ones",u)]
abbrev cF5(x y z u v:D):List (Str×D):=[("everything",x),("true_ones",y),("false_ones",z),("open_ones",u),("sure",v)]
theorem cp0(x:D):bU ("everything" : Str) x []=cF1 x:=rfl
theorem cp1(x y:D):bU ("true_ones" : Str) y (cF1 x)=cF2 x y:=rfl
theorem cp2(x y z:D):bU ("false_ones" : Str) z (cF2 x y)=cF3 x y z:=rfl
theorem cp3(x y z u:D):bU ("open_ones" : Str) u (cF3 x y z)=cF4 x y z u:=rfl
theorem cp4(x y z u v:D):bU ("sure" : Str) v (cF4 x y z u)=cF5 x y z u v:=rfl
theorem cp5(x y z u v w:D):bU ("not_false" : Str) w (cF5 x y z u v)=([("everything",x),("true_ones",y),("false_ones",z),("open_ones",u),("sure",v),("not_false",w)]:List (Str×D)):=rfl
theorem cl4(x y z u:D):List.lookup ("true_ones" : Str) (cF4 x y z u)=some y:=rfl
theorem cl5(x y z u v:D):List.lookup ("false_ones" : Str) (cF5 x y z u v)=some z:=rfl
theorem cl5e(x y z u v:D):List.lookup ("everything" : Str) (cF5 x y z u v)=some x:=rfl
def papW:Pap->Str
 |.told=>"true"
 |.tru ..=>"true"
 |.fls _=>"false"
 |.opn ..=>"open"
section
variable {pps:ZO}{p1 p2 p3:Addr}
theorem pB:(dG pps p1 p2 p3).lookup ("everything" : Str)=some 'i':=rfl
theorem Al:(dG pps p1 p2 p3).lookup ("true_ones" : Str)=↑p1:=rfl
theorem ET:(dG pps p1 p2 p3).lookup ("false_ones" : Str)=↑p2:=rfl
theorem GX:(dG pps p1 p2 p3).lookup ("open_ones" : Str)=↑p3:=rfl
theorem rM:(dG pps p1 p2 p3).lookup ("sure" : Str)=some (.int ((setP pps Pap.isT:Nat):Int)):=rfl
theorem IN:(dG pps p1 p2 p3).lookup ("not_false" : Str)=some (.int ((av (2 ^ pps.length-1) (setP pps Pap.isF):Nat):Int)):=rfl
theorem EU:(dG pps p1 p2 p3).lookup ("true_ahead" : Str)=none:=rfl
theorem JT:(dG pps p1 p2 p3).lookup ("true_by_rounds" : Str)=none:=rfl
theorem Dk:(dG pps p1 p2 p3).lookup ("not_false_by" : Str)=none:=rfl
theorem GY:(dG pps p1 p2 p3).lookup ("open_ahead" : Str)=none:=rfl
end
theorem pC{pps:ZO}{p:Pap->Bool}{r:Nat×Pap->Bool}(h:pps.length<=120):∀f∈((ones pps p).filter r).map (·.1),f<=1000:=by
 intro f hf;obtain⟨⟨f',q⟩,hx,rfl⟩:=XV.1 hf
 have:=(YB.mp (fj.1 (ZU.1 hx).1).1).1
 dsimp only;omega
theorem ka(l:List (Nat×Pap)):(l.map λx=>D.int (x.1:Int))=nats (l.map (·.1)):=by
 unfold nats;rw[ZL];rfl
theorem IO(q:Pap):(papW q == "true")=q.isT:=by
 cases q with
 |told=>exact(by rfl':(("true" : Str) == "true")=true)
 |tru _ _ _=>exact(by rfl':(("true" : Str) == "true")=true)
 |fls _=>exact(by rfl':(("false" : Str) == "true")=false)
 |opn _ _=>exact(by rfl':(("open" : Str) == "true")=false)
theorem GZ(q:Pap):(papW q == "false")=q.isF:=by
 cases q with
 |told=>exact(by rfl':(("true" : Str) == "false")=false)
 |tru _ _ _=>exact(by rfl':(("true" : Str) == "false")=false)
 |fls _=>exact(by rfl':(("false" : Str) == "false")=true)
 |opn _ _=>exact(by rfl':(("open" : Str) == "false")=false)
theorem IP(q:Pap):(papW q == "open")=q.isO:=by
 cases q with
 |told=>exact(by rfl':(("true" : Str) == "open")=false)
 |tru _ _ _=>exact(by rfl':(("true" : Str) == "open")=false)
 |fls _=>exact(by rfl':(("false" : Str) == "open")=false)
 |opn _ _=>exact(by rfl':(("open" : Str) == "open")=true)
section
variable {cn:Cn}{ds:List D}{M:MH}{Q:DK}{W:Addr}
theorem Bz(j:∀f∈j9,cn.O W f)(k:cn.F.getD 0 Yl=bD)(h:l9 W ds M Q):wSs cn cq (fin Q) (ad ["",""] ds) M:=by
 obtain⟨a,pps,i,rfl,⟨p1,p2,p3,l,c,o,u⟩,hl,q⟩:=h;show wSs cn cq (fin Q) [↑a,~~~i] M;unfold cq;simp! only[List.cons_append,XD,List.replicate,l,pB,Al,c,k];refine⟨j _ 'f',?_⟩;refine fm (λx=>pBy i x.2) (λx=>⇑x.1) (ok:=λσ=>∃v w,σ=[↑a,~~~i,v,w]) (ones pps Pap.isT) [] _ ⟨none,none,rfl⟩ ?_ ?_
 ·intro x hx σ e_ rest ⟨v,w,m⟩ n
  subst m;have b:=n _ ⟨~~~x.1,some x.2.D,rfl⟩;obtain⟨f,q⟩:=x;have hq:=(fj.1 hx).2;refine⟨rfl,?_⟩;cases q with
  |told=>
   have hb:decide ((0:Int)<(i:Int))=pBy i (.told):=decide_eq_decide.2 'b';show Bif (decide ((0:Int)<(i:Int))) _ _;rw[hb];have b:ar _ _ _ _ _ _ (e_++cond (pBy i (.told)) [D.int (f:Int)] []) _ _:=b;cases e:pBy i (.told) with
   |true=>rw[e] at b;exact⟨c,b⟩
   |false=>rw[e,cond_false,ZA] at b;exact⟨c,b⟩
  |tru i' d g=>
   have hb:decide ((i':Int)<(i:Int))=pBy i (.tru i' d g):=decide_eq_decide.2 'b';show Bif (decide ((i':Int)<(i:Int))) _ _;rw[hb];have b:ar _ _ _ _ _ _ (e_++cond (pBy i (.tru i' d g)) [D.int (f:Int)] []) _ _:=b;cases e:pBy i (.tru i' d g) with
   |true=>rw[e] at b;exact⟨c,b⟩
   |false=>rw[e,cond_false,ZA] at b;exact⟨c,b⟩
  |fls _=>cases hq
  |opn _ _=>cases hq
 ·intro p hp
  rw[XD,ka];refine⟨.ref p,_,_,rfl,.inr ⟨p,rfl,.inl ⟨aa,rfl⟩⟩,pC hl,?_⟩;rw[l0 (r:=pBy i),iU (r:=pBy i) λq=>by cases q<;>simp[Pap.isT,pBy]];exact q _ (Ext.new hp)
theorem wR(j:∀f∈j9,cn.O W f)(k:cn.F.getD 0 Yl=bD)(h:f8 W ds M Q):wSs cn dy (fin Q) (ad ["","",""] ds) M:=by
 obtain⟨a,pps,i,s,rfl,⟨p1,p2,p3,l,c,o,u⟩,hl,q⟩:=h;show wSs cn dy (fin Q) [↑a,~~~i,~~~s] M;unfold dy;simp! only[List.cons_append,XD,List.replicate,l,pB,Al,c,k];refine⟨j _ 'f',?_⟩;refine fm (λx=>cI i s x.2) (λx=>⇑x.1) (ok:=λσ=>∃v w,σ=[↑a,~~~i,~~~s,v,w]) (ones pps Pap.isT) [] _ ⟨none,none,rfl⟩ ?_ ?_
 ·intro x hx σ e_ rest ⟨v,w,m⟩ n
  subst m;have b:=n _ ⟨~~~x.1,some x.2.D,rfl⟩;obtain⟨f,q⟩:=x;have hq:=(fj.1 hx).2;refine⟨rfl,?_⟩;cases q with
  |told=>
   have hb:decide ((0:Int)<(i:Int)\/(0:Int)=(i:Int)/\(0:Int)<(s:Int))=cI i s (.told):=decide_eq_decide.2 'b';show Bif (decide ((0:Int)<(i:Int)\/(0:Int)=(i:Int)/\(0:Int)<(s:Int))) _ _;rw[hb];have b:ar _ _ _ _ _ _ (e_++cond (cI i s (.told)) [D.int (f:Int)] []) _ _:=b;cases e:cI i s (.told) with
   |true=>rw[e] at b;exact⟨c,b⟩
   |false=>rw[e,cond_false,ZA] at b;exact⟨c,b⟩
  |tru i' d g=>
   have hb:decide ((i':Int)<(i:Int)\/(i':Int)=(i:Int)/\(d:Int)<(s:Int))=cI i s (.tru i' d g):=decide_eq_decide.2 'b';show Bif (decide ((i':Int)<(i:Int)\/(i':Int)=(i:Int)/\(d:Int)<(s:Int))) _ _;rw[hb];have b:ar _ _ _ _ _ _ (e_++cond (cI i s (.tru i' d g)) [D.int (f:Int)] []) _ _:=b;cases e:cI i s (.tru i' d g) with
   |true=>rw[e] at b;exact⟨c,b⟩
   |false=>rw[e,cond_false,ZA] at b;exact⟨c,b⟩
  |fls _=>cases hq
  |opn _ _=>cases hq
 ·intro p hp
  rw[XD,ka];refine⟨.ref p,_,_,rfl,.inr ⟨p,rfl,.inl ⟨aa,rfl⟩⟩,pC hl,?_⟩;rw[l0 (r:=cI i s),iU (r:=cI i s) λq=>by cases q<;>simp[Pap.isT,cI]];exact q _ (Ext.new hp)
theorem wU(j:∀f∈j9,cn.O W f)(k:cn.F.getD 0 Yl=bD)(h:f9 W ds M Q):wSs cn dA (fin Q) (ad ["",""] ds) M:=by
 obtain⟨a,pps,s,rfl,⟨p1,p2,p3,l,o,u,d⟩,hl,q⟩:=h;show wSs cn dA (fin Q) [↑a,~~~s] M;unfold dA;simp! only[List.cons_append,XD,List.replicate,l,pB,GX,d,k];refine⟨j _ 'f',?_⟩;refine fm (λx=>pOpn s x.2) (λx=>⇑x.1) (ok:=λσ=>∃v w,σ=[↑a,~~~s,v,w]) (ones pps Pap.isO) [] _ ⟨none,none,rfl⟩ ?_ ?_
 ·intro x hx σ e_ rest ⟨v,w,m⟩ n
  subst m;have b:=n _ ⟨~~~x.1,some x.2.D,rfl⟩;obtain⟨f,q⟩:=x;have hq:=(fj.1 hx).2;refine⟨rfl,?_⟩;cases q with
  |told=>cases hq
  |tru _ _ _=>cases hq
  |fls _=>cases hq
  |opn c g=>
   have hb:decide ((c:Int)<(s:Int))=pOpn s (.opn c g):=decide_eq_decide.2 'b';show Bif (decide ((c:Int)<(s:Int))) _ _;rw[hb];have b:ar _ _ _ _ _ _ (e_++cond (pOpn s (.opn c g)) [D.int (f:Int)] []) _ _:=b;cases e:pOpn s (.opn c g) with
   |true=>rw[e] at b;exact⟨d,b⟩
   |false=>rw[e,cond_false,ZA] at b;exact⟨d,b⟩
 ·intro p hp
  rw[XD,ka];refine⟨.ref p,_,_,rfl,.inr ⟨p,rfl,.inl ⟨aa,rfl⟩⟩,pC hl,?_⟩;rw[l0 (r:=pOpn s),iU (r:=pOpn s) λq=>by cases q<;>simp[Pap.isO,pOpn]];exact q _ (Ext.new hp)
theorem uM(d:∀f∈j9,cn.O W f)(g:cn.F.getD 0 Yl=bD)(h:de W ds M Q):wSs cn cR (fin Q) (ad ["",""] ds) M:=by
 obtain⟨a,pps,i,rfl,⟨p1,p2,p3,j,m,c,n⟩,hl,q⟩:=h;show wSs cn cR (fin Q) [↑a,~~~i] M;unfold cR;simp! only[wInv,List.cons_append,XD,List.replicate,j,pB,ET,c,g];refine⟨d _ 'f',d _ 'f',?_⟩;refine fm (λx=>pFls i x.2) (λx=>⇑x.1) (ok:=λσ=>∃v w,σ=[↑a,~~~i,v,w]) (ones pps Pap.isF) [] _ ⟨none,none,rfl⟩ ?_ ?_
 ·intro x hx σ e_ rest ⟨v,w,k⟩ l
  subst k;have b:=l _ ⟨~~~x.1,some x.2.D,rfl⟩;obtain⟨f,q⟩:=x;have hq:=(fj.1 hx).2;refine⟨rfl,?_⟩;cases q with
  |told=>cases hq
  |tru _ _ _=>cases hq
  |fls i'=>
   have hb:decide ((i':Int)<=(i:Int))=pFls i (.fls i'):=decide_eq_decide.2 'b';show Bif (decide ((i':Int)<=(i:Int))) _ _;rw[hb];have b:ar _ _ _ _ _ _ (e_++cond (pFls i (.fls i')) [D.int (f:Int)] []) _ _:=b;cases e:pFls i (.fls i') with
   |true=>rw[e] at b;exact⟨c,b⟩
   |false=>rw[e,cond_false,ZA] at b;exact⟨c,b⟩
  |opn _ _=>cases hq
 ·intro p hp
  rw[XD,ka];refine⟨.ref p,_,_,rfl,.inr ⟨p,rfl,.inl ⟨aa,rfl⟩⟩,pC hl,?_⟩;rw[l0 (r:=pFls i),iU (r:=pFls i) λq=>by cases q<;>simp[Pap.isF,pFls]];simp only[wInv,fD];exact q _ (Ext.new hp)
theorem vF(o:∀f∈j9,cn.O W f)(f0:cn.F.getD 0 Yl=bD)(f1:cn.F.getD 1 Yl=cC)(h:fo W ds M Q):wSs cn jI (fin Q) (ad ["",""] ds) M:=by
 obtain⟨a,b,pps,rfl,ha,hb,hl,q⟩:=h;show wSs cn jI (fin Q) [↑a,↑b] M;have u:b≠a:=λz=>by rw[z,ha] at hb;cases hb
 have comp:∀(K:Str) (d:Pap->Bool),(∀q,(papW q==K)=d q)->∀(F:List D->MH->Prop) (M5:MH),M5 b=some (.lst (pps.map Pap.D))->F ((ones pps d).map tupP) M5 ->
   ar (λM'=>M' b=some (.lst (pps.map Pap.D))) (.tp [2,3]) (wTo cn (.yes (.cmp .Eq (.ix (.var 3) (.int 0)) (.str K)))) (wE cn (.tup (.cons (.var 2) (.cons (.var 3) .nil)))) F (aX 0 (pps.map Pap.D)) [] [↑a,↑b,none,none] M5:=by
  intro K d hp F M5 n P;rw[show(0:Int)=((0:Nat):Int) from rfl,pA];refine fm (λx=>d x.2) tupP (ok:=λσ=>∃v w,σ=[↑a,↑b,v,w]) (enP 0 pps) [] _ ⟨none,none,rfl⟩ ?_ P
  ·intro x hx σ e_ rest ⟨v,w,R⟩ S
   subst R;have g:=S _ ⟨~~~x.1,some x.2.D,rfl⟩;obtain⟨f,q⟩:=x;refine⟨rfl,?_⟩;cases q with
   |told=>
    refine⟨⟨rfl,rfl,(by decide:(0:Nat)<=30)⟩,?_⟩;show Bif (eqD (.str "true") (.str K)) _ _;have hK:(("true" : Str)==K)=d (.told):=hp (.told);rw[ah,hK];have g:ar _ _ _ _ _ _ (e_++cond (d (.told)) [tupP (f,.told)] []) _ _:=g;cases e:d (.told) with
    |true=>rw[e] at g;exact⟨n,g⟩
    |false=>rw[e,cond_false,ZA] at g;exact⟨n,g⟩
   |tru i s r=>
    refine⟨⟨rfl,rfl,(by decide:(0:Nat)<=30)⟩,?_⟩;show Bif (eqD (.str "true") (.str K)) _ _;have hK:(("true" : Str)==K)=d (.tru i s r):=hp (.tru i s r);rw[ah,hK];have g:ar _ _ _ _ _ _ (e_++cond (d (.tru i s r)) [tupP (f,.tru i s r)] []) _ _:=g;cases e:d (.tru i s r) with
    |true=>rw[e] at g;exact⟨n,g⟩
    |false=>rw[e,cond_false,ZA] at g;exact⟨n,g⟩
   |fls i=>
    refine⟨⟨rfl,rfl,(by decide:(0:Nat)<=30)⟩,?_⟩;show Bif (eqD (.str "false") (.str K)) _ _;have hK:(("false" : Str)==K)=d (.fls i):=hp (.fls i);rw[ah,hK];have g:ar _ _ _ _ _ _ (e_++cond (d (.fls i)) [tupP (f,.fls i)] []) _ _:=g;cases e:d (.fls i) with
    |true=>rw[e] at g;exact⟨n,g⟩
    |false=>rw[e,cond_false,ZA] at g;exact⟨n,g⟩
   |opn s r=>
    refine⟨⟨rfl,rfl,(by decide:(0:Nat)<=30)⟩,?_⟩;show Bif (eqD (.str "open") (.str K)) _ _;have hK:(("open" : Str)==K)=d (.opn s r):=hp (.opn s r);rw[ah,hK];have g:ar _ _ _ _ _ _ (e_++cond (d (.opn s r)) [tupP (f,.opn s r)] []) _ _:=g;cases e:d (.opn s r) with
    |true=>rw[e] at g;exact⟨n,g⟩
    |false=>rw[e,cond_false,ZA] at g;exact⟨n,g⟩
 have m:∀(d:Pap->Bool) (l:Addr) (F:List D->MH->Prop) (M5:MH),M5 l=some (.lst ((ones pps d).map tupP))->F (nats ((ones pps d).map (·.1))) M5 ->
   ar (λM'=>M' l=some (.lst ((ones pps d).map tupP))) (.tp [2,3]) (wTo cn .no) (wE cn (.var 2)) F ((ones pps d).map tupP) [] [↑a,↑b,none,none] M5:=by
  intro d l F M5 n P;refine fm (λ_=>true) (λx=>⇑x.1) (ok:=λσ=>∃v w,σ=[↑a,↑b,v,w]) (ones pps d) [] _ ⟨none,none,rfl⟩ ?_ ?_
  ·intro x hx σ e_ rest ⟨v,w,R⟩ S
   subst R;exact⟨rfl,n,S _ ⟨~~~x.1,some x.2.D,rfl⟩⟩
  ·rw[XD,List.filter_eq_self.2 (λ_ _=>rfl),ka]
   exact P
 have le:∀(d:Pap->Bool),∀f∈(ones pps d).map (·.1),f<=1000:=λd f hf=>by
  obtain⟨⟨f',q⟩,hx,rfl⟩:=XV.1 hf
  have:=(YB.mp (fj.1 hx).1).1
  dsimp only;omega
 have c:=ExtBut.refl a M;unfold jI;simp! only[List.set,hb,ZE,f1];refine⟨pps.length,rfl,by omega,?_⟩;simp only[ha,cp0];refine⟨⟨o _ 'f',(by decide:(0:Nat)<1000)⟩,?_⟩;have x:ExtBut a M (updM M a (.ins W (cF1 'i'))):=ExtBut.upd _ _ _;have y:updM M a (MO.ins W (cF1 'i')) a=some (.ins W (cF1 'i')):=aa;generalize updM M a (MO.ins W (cF1 'i'))=M1 at *;have c:=c.trans x;unfold mh;simp! only[List.cons_append,XD,List.replicate,c _ _ u hb];refine comp "true" Pap.isT IO _ M1 (c _ _ u hb) ?_;intro p1 J3;have T:p1≠a:=(aR y J3).symm;have x:Ext M1 (updM M1 p1 (.lst ((ones pps Pap.isT).map tupP))):=Ext.new J3;have U:updM M1 p1 (MO.lst ((ones pps Pap.isT).map tupP)) p1=some (.lst ((ones pps Pap.isT).map tupP)):=aa;generalize updM M1 p1 (MO.lst ((ones pps Pap.isT).map tupP))=M2 at *;have c:=c.trans x.but;have y:=x _ _ y;have j:=ExtBut.refl a M2;simp only[y,cp1];refine⟨⟨o _ 'f',(by decide:(1:Nat)<1000)⟩,?_⟩;have x:ExtBut a M2 (updM M2 a (.ins W (cF2 'i' (.ref p1)))):=ExtBut.upd _ _ _;have y:updM M2 a (MO.ins W (cF2 'i' (.ref p1))) a=some (.ins W (cF2 'i' (.ref p1))):=aa;generalize updM M2 a (MO.ins W (cF2 'i' (.ref p1)))=A at *;have c:=c.trans x;have j:=j.trans x;unfold mf;simp! only[List.cons_append,XD,List.replicate,c _ _ u hb];refine comp "false" Pap.isF GZ _ A (c _ _ u hb) ?_;intro p2 A_;have V:p2≠a:=(aR y A_).symm;have x:Ext A (updM A p2 (.lst ((ones pps Pap.isF).map tupP))):=Ext.new A_;have Y:updM A p2 (MO.lst ((ones pps Pap.isF).map tupP)) p2=some (.lst ((ones pps Pap.isF).map tupP)):=aa;generalize updM A p2 (MO.lst ((ones pps Pap.isF).map tupP))=B at *;have c:=c.trans x.but;have j:=j.trans x.but;have y:=x _ _ y;have k:=ExtBut.refl a B;simp only[y,cp2];refine⟨⟨o _ 'f',(by decide:(2:Nat)<1000)⟩,?_⟩;have x:ExtBut a B (updM B a (.ins W (cF3 'i' (.ref p1) (.ref p2)))):=ExtBut.upd _ _ _;have y:updM B a (MO.ins W (cF3 'i' (.ref p1) (.ref p2))) a=some (.ins W (cF3 'i' (.ref p1) (.ref p2))):=aa;generalize updM B a (MO.ins W (cF3 'i' (.ref p1) (.ref p2)))=M5 at *;have c:=c.trans x;have j:=j.trans x;have k:=k.trans x;unfold me;simp! only[List.cons_append,XD,List.replicate,c _ _ u hb];refine comp "open" Pap.isO IP _ M5 (c _ _ u hb) ?_;intro p3 LX;have R_:p3≠a:=(aR y LX).symm;have x:Ext M5 (updM M5 p3 (.lst ((ones pps Pap.isO).map tupP))):=Ext.new LX;have WG:updM M5 p3 (MO.lst ((ones pps Pap.isO).map tupP)) p3=some (.lst ((ones pps Pap.isO).map tupP)):=aa;generalize updM M5 p3 (MO.lst ((ones pps Pap.isO).map tupP))=C at *;have c:=c.trans x.but;have j:=j.trans x.but;have k:=k.trans x.but;have y:=x _ _ y;have p:=ExtBut.refl a C;simp only[y,cp3];refine⟨⟨o _ 'f',(by decide:(3:Nat)<1000)⟩,?_⟩;have x:ExtBut a C (updM C a (.ins W (cF4 'i' (.ref p1) (.ref p2) (.ref p3)))):=ExtBut.upd _ _ _;have y:updM C a (MO.ins W (cF4 'i' (.ref p1) (.ref p2) (.ref p3))) a=some (.ins W (cF4 'i' (.ref p1) (.ref p2) (.ref p3))):=aa;generalize updM C a (MO.ins W (cF4 'i' (.ref p1) (.ref p2) (.ref p3)))=G at *;have c:=c.trans x;have j:=j.trans x;have k:=k.trans x;have p:=p.trans x;unfold md;simp! only[List.cons_append,XD,List.replicate,y,cl4,j _ _ T U,f0];refine⟨o _ 'f',?_⟩;refine m Pap.isT p1 _ G (j _ _ T U) ?_;intro l Z;refine⟨.ref l,_,_,rfl,.inr ⟨l,rfl,.inl ⟨aa,rfl⟩⟩,le Pap.isT,?_⟩;have x:Ext G (updM G l (.lst (nats ((ones pps Pap.isT).map (·.1))))):=Ext.new Z;generalize updM G l (MO.lst (nats ((ones pps Pap.isT).map (·.1))))=J at *;have c:=c.trans x.but;have j:=j.trans x.but;have k:=k.trans x.but;have p:=p.trans x.but;have y:=x _ _ y;rw[Ak];simp only[y,cp4];refine⟨⟨o _ 'f',(by decide:(4:Nat)<1000)⟩,?_⟩;have x:ExtBut a J (updM J a (.ins W (cF5 'i' (.ref p1) (.ref p2) (.ref p3) (.int ((setP pps Pap.isT:Nat):Int))))):=ExtBut.upd _ _ _;have y:updM J a (MO.ins W (cF5 'i' (.ref p1) (.ref p2) (.ref p3) (.int ((setP pps Pap.isT:Nat):Int)))) a=some (.ins W (cF5 'i' (.ref p1) (.ref p2) (.ref p3) (.int ((setP pps Pap.isT:Nat):Int)))):=aa;generalize updM J a (MO.ins W (cF5 'i' (.ref p1) (.ref p2) (.ref p3) (.int ((setP pps Pap.isT:Nat):Int))))=L at *;have c:=c.trans x;have j:=j.trans x;have k:=k.trans x;have p:=p.trans x;unfold ma;simp! only[wInv,List.cons_append,XD,List.replicate,y,cl5,cl5e,k _ _ V Y,f0];refine⟨o _ 'f',o _ 'f',?_⟩;refine m Pap.isF p2 _ L (k _ _ V Y) ?_;intro l Z;refine⟨.ref l,_,_,rfl,.inr ⟨l,rfl,.inl ⟨aa,rfl⟩⟩,le Pap.isF,?_⟩;have x:Ext L (updM L l (.lst (nats ((ones pps Pap.isF).map (·.1))))):=Ext.new Z;generalize updM L l (MO.lst (nats ((ones pps Pap.isF).map (·.1))))=K0 at *;have c:=c.trans x.but;have j:=j.trans x.but;have k:=k.trans x.but;have p:=p.trans x.but;have y:=x _ _ y;rw[Ak];simp only[wInv,fD,y,cp5];refine⟨⟨o _ 'f',(by decide:(5:Nat)<1000)⟩,?_⟩;have x:=ExtBut.upd a K0 (.ins W (dG pps p1 p2 p3));exact q _ (c.trans x) ⟨p1,p2,p3,aa,(j.trans x) _ _ T U,(k.trans x) _ _ V Y,(p.trans x) _ _ R_ WG⟩
end
def mi:Ss:=#v[.ret (.bi .all #v[.comp 2 (.fn 0 #v[.var 0,.var 1,.var 3,.var 4,.var 5]) (.tp [4,5]) (.enum #v[.var 2]) .no])]
def mj:Ss:=.cons (.set 3 (.fn 1 #v[.var 2])) mi
def gT:Ss:=.cons (.ite (.not (.val (.bi .all #v[.comp 2 (.fn 2 #v[.var 0,.var 4,.var 5]) (.tp [4,5]) (.enum #v[.var 2]) .no]))) #v[.ret (.bl false)] .nil) mj
def bG:Ss:=.cons (.ite (.or (.not (.val (.bi .isinst #v[.var 2,.ty "list"]))) (.cmp .NotEq (.bi .len #v[.var 2]) (.mu0 "how_many" (.var 0)))) #v[.ret (.bl false)] .nil) gT
def gu:Ss:=#v[.ret (.or (.cmp .Eq (.var 2) (.glob 0)) (.fn 0 #v[.var 0,.var 1,.ix (.var 2) (.int 3)]))]
def gv:Ss:=.cons (.ite (.or (.cmp .NotEq (.ix (.var 2) (.int 0)) (.str "true")) (.or (.cmp .NotEq (.bi .len #v[.var 2]) (.int 4)) (.not (.val (.fn 1 #v[.ix (.var 2) (.int 2)]))))) #v[.ret (.bl false)] .nil) gu
def dH:Ss:=.cons (.ite (.cmp .Eq (.ix (.var 2) (.int 0)) (.str "open")) #v[.ret (.and (.cmp .Eq (.bi .len #v[.var 2]) (.int 3)) (.fn 0 #v[.var 0,.var 1,.ix (.var 2) (.int 2)]))] .nil) gv
def cz:Ss:=.cons (.ite (.cmp .Eq (.ix (.var 2) (.int 0)) (.str "false")) #v[.ret (.cmp .Eq (.bi .len #v[.var 2]) (.int 2))] .nil) dH
def bB:Ss:=.cons (.ite (.or (.not (.val (.bi .isinst #v[.var 2,.ty "tuple"]))) (.or (.cmp .Lt (.bi .len #v[.var 2]) (.int 2)) (.not (.val (.fn 1 #v[.ix (.var 2) (.int 1)]))))) #v[.ret (.bl false)] .nil) cz
def cA:Ss:=#v[.ret (.and (.fn 0 #v[.var 2,.mu0 "row_count" (.var 0)]) (.cmp .Eq (.mu "head_of" (.var 0) #v[.var 2]) (.var 1)))]
def pO:Ss:=#v[.ret (.fn 0 #v[.var 0,.var 2,.var 3,.var 4])]
def kA:Ss:=.cons (.ite (.cmp .Eq (.ix (.var 4) (.int 0)) (.str "false")) #v[.ret (.fn 1 #v[.var 0,.var 2,.var 3,.ix (.var 4) (.int 1)])] .nil) pO
def kB:Ss:=.cons (.ite (.val (.fn 2 #v[.var 1,.var 3])) #v[.ret (.bl false)] .nil) kA
def pP:Ss:=#v[.ret (.fn 3 #v[.mu "conds_of" (.var 0) #v[.ix (.var 4) (.int 3)],.var 5,.mu "not_false_by" (.var 2) #v[.ix (.var 4) (.int 1)]])]
def gw:Ss:=.cons (.ite (.cmp .Eq (.ix (.var 4) (.int 0)) (.str "true")) (.cons (.set 5 (.mu "true_ahead" (.var 2) #v[.ix (.var 4) (.int 1),.ix (.var 4) (.int 2)])) pP) .nil) kB
def dQ:Ss:=.cons (.ite (.cmp .Eq (.var 4) (.glob 0)) #v[.ret (.fn 2 #v[.var 1,.var 3])] .nil) gw
def je:Ss:=#v[.ret (.bi .all #v[.comp 1 (.fn 0 #v[.mu "conds_of" (.var 0) #v[.var 6],.var 4,.var 5]) (.nm 6) (.seq (.mu "rows_for" (.var 0) #v[.var 2])) .no])]
def jf:Ss:=.cons (.set 5 (.mu "not_false_by" (.var 1) #v[.var 3])) je
def fU:Ss:=.cons (.set 4 (.mu "true_by_rounds" (.var 1) #v[.var 3])) jf
def kb:Ss:=#v[.ret (.fn 0 #v[.mu "conds_of" (.var 0) #v[.ix (.var 3) (.int 2)],.var 5,.fld (.var 1) "sure"])]
def cJ:Ss:=.cons (.set 5 (.bin .BitOr (.fld (.var 1) "sure") (.mu "open_ahead" (.var 1) #v[.ix (.var 3) (.int 1)]))) kb
def cK:Ss:=#v[.ite (.val (.fn 0 #v[.mu "conds_of" (.var 0) #v[.var 4],.fld (.var 1) "sure",.fld (.var 1) "not_false"])) #v[.ret (.bl false)] .nil]
def gU:Ss:=.cons (.for (.nm 4) (.seq (.mu "rows_for" (.var 0) #v[.var 2])) cK) cJ
structure HoldAt (c:CA) (S W:Addr) (M:MH) (a k:Addr) (m:Nat) (a_:Zy) (told:Nat) (ps:Zp) (pps:ZO):Prop where
 sheet:SheetAt c S M a m a_
 claim:ClaimAt W M k pps
 pap:Papers a_ m told ps pps
theorem HoldAt.ext{c:CA}{S W:Addr}{M M':MH}{a k:Addr}{m:Nat}{a_:Zy}{told:Nat}{ps:Zp}{pps:ZO}(e:Ext M M')(h:HoldAt c S W M a k m a_ told ps pps):HoldAt c S W M' a k m a_ told ps pps:=⟨h.sheet.ext e,h.claim.ext e,h.pap⟩
def pE(c:CA)(S:Addr):SpD:=λds M Q=>∃(a:Addr) (m:Nat) (a_:Zy) (r:Nat) (x:Row),ds=[.ref a,⇑x.1,⇑r]/\SheetAt c S M a m a_/\a_[r]?=some x/\Q (.bl true) M
def mX(c:CA)(S:Addr):SpD:=λds M Q=>∃(a:Addr) (m:Nat) (a_:Zy) (f:Nat) (q:Pap),ds=[.ref a,⇑f,q.D]/\SheetAt c S M a m a_ /\
 (∀i s r,q=.tru i s r->∃x,a_[r]?=some x/\x.1=f)/\(∀s r,q=.opn s r->∃x,a_[r]?=some x/\x.1=f)/\Q (.bl true) M
def iV(c:CA)(S W:Addr):SpD:=λds M Q=>∃(a k:Addr) (m:Nat) (a_:Zy) (told:Nat) (ps:Zp) (pps:ZO) (f i:Nat),ds=[.ref a,.ref k,⇑f,⇑i]/\HoldAt c S W M a k m a_ told ps pps/\pps[f]?=some (.fls i)/\∀M',Ext M M'->Q (.bl true) M'
def jT(c:CA)(S W:Addr):SpD:=λds M Q=>∃(a k:Addr) (m:Nat) (a_:Zy) (told:Nat) (ps:Zp) (pps:ZO) (f s r:Nat),ds=[.ref a,.ref k,⇑f,(Pap.opn s r).D]/\HoldAt c S W M a k m a_ told ps pps/\pps[f]?=some (.opn s r)/\∀M',Ext M M'->Q (.bl true) M'
def kc(c:CA)(S W:Addr):SpD:=λds M Q=>∃(a k:Addr) (m:Nat) (a_:Zy) (told:Nat) (ps:Zp) (pps:ZO) (f:Nat) (q:Pap),ds=[.ref a,⇑told,.ref k,⇑f,q.D]/\HoldAt c S W M a k m a_ told ps pps/\pps[f]?=some q/\∀M',Ext M M'->Q (.bl true) M'
def qL(c:CA)(S:Addr):SpD:=λds M Q=>∃(a b:Addr) (m:Nat) (a_:Zy) (told:Nat) (ps:Zp) (pps:ZO),ds=[.ref a,⇑told,.ref b]/\SheetAt c S M a m a_/\M b=some (.lst (pps.map Pap.D))/\Papers a_ m told ps pps/\∀M',Ext M M'->Q (.bl true) M'
theorem qM{m:Nat}{a_:Zy}{k_:Zt}{p1 p2 p3:Addr}:(c9 m a_ k_ p1 p2 p3).lookup ("row_count" : Str)=none:=rfl
section
variable {cn:Cn}{ds:List D}{M:MH}{Q:DK}{c:CA}{S W:Addr}
theorem BA(d:cn.T S "row_count" = some (fH c S))(f:cn.T S "head_of" = some (eR c S))(g:cn.F.getD 0 Yl=cy)(h:pE c S ds M Q):wSs cn cA (fin Q) (ad ["","",""] ds) M:=by
 obtain⟨a,m,a_,r,x,rfl,A,hx,q⟩:=h;show wSs cn cA (fin Q) [↑a,~~~x.1,~~~r] M;obtain⟨ok,k_,p1,p2,p3,z_,x_,B',b,-⟩:=id A;have hl:=(YB.mp hx).1;unfold cA;simp! only[b,qM,d,g];refine⟨trivial,a,m,a_,rfl,A,?_⟩;refine⟨(r:Int),(a_.length:Int),rfl,?_⟩;rw[YV (by omega:(0:Int)<=(r:Int)),YV (by omega:(r:Int)<(a_.length:Int))];simp only[Bool.and_self,aH,b,ld,f];refine⟨trivial,a,m,a_,r,x,rfl,A,hx,?_⟩;refine⟨⟨rfl,rfl,(by decide:(0:Nat)<=30)⟩,?_⟩;rw[ae,XF];exact q
theorem ic:isT "tuple" "tuple" = true:=by decide
theorem w_tf:(("true" : Str) == "false")=false:=by rfl'
theorem w_to:(("true" : Str) == "open")=false:=by rfl'
theorem w_tt:(("true" : Str) == "true")=true:=by rfl'
theorem w_ff:(("false" : Str) == "false")=true:=by rfl'
theorem w_ft:(("false" : Str) == "true")=false:=by rfl'
theorem w_of:(("open" : Str) == "false")=false:=by rfl'
theorem w_ot:(("open" : Str) == "true")=false:=by rfl'
theorem w_oo:(("open" : Str) == "open")=true:=by rfl'
theorem at3{a:Type}(x y z u:a)(xs:List a):atI (x::y::z::u::xs) 3=some u:=bW (j:=3) rfl
theorem zz(g:cn.G.getD 0 .non=Pap.told.D)(b:cn.F.getD 0 Yl=pE c S)(d:cn.F.getD 1 Yl=hU)(h:mX c S ds M Q):wSs cn bB (fin Q) (ad ["","",""] ds) M:=by
 obtain⟨a,m,a_,f,p,rfl,A,ht,ho,q⟩:=h;show wSs cn bB (fin Q) [↑a,~~~f,some p.D] M;cases p with
 |told=>
  unfold bB;simp_all! only[Pap.D,tyD,tysD,at0,at1,at2,at3,b,d,ic,Bool.not_true];refine⟨by decide,?_⟩;show Bif (decide (((4:Nat):Int)<2)) _ _;rw[show decide (((4:Nat):Int)<2)=false by decide,ag];refine⟨0,rfl,?_⟩;unfold cz;simp_all! only[Pap.D,tyD,tysD,at0,at1,at2,at3,b,d,w_tf];unfold dH;simp_all! only[Pap.D,tyD,tysD,at0,at1,at2,at3,b,d,w_to];unfold gv;simp_all! only[Pap.D,tyD,tysD,at0,at1,at2,at3,b,d,w_tt,Bool.not_true];show Bif (!(((4:Nat):Int)==4)) _ _;rw[show(((4:Nat):Int)==4)=true by decide,Bool.not_true,ag];refine⟨0,rfl,?_⟩;unfold gu;simp_all! only[Pap.D,tyD,tysD,at0,at1,at2,at3,b,d,g];rw[Bool.not_true,ag];refine⟨⟨rfl,rfl,(by decide:(1:Nat)<=30)⟩,?_⟩;rw[oZ _ rfl];exact q
 |tru i s r=>
  unfold bB;simp_all! only[Pap.D,tyD,tysD,at0,at1,at2,at3,b,d,ic,Bool.not_true];refine⟨by decide,?_⟩;show Bif (decide (((4:Nat):Int)<2)) _ _;rw[show decide (((4:Nat):Int)<2)=false by decide,ag];refine⟨(i:Int),rfl,?_⟩;unfold cz;simp_all! only[Pap.D,tyD,tysD,at0,at1,at2,at3,b,d,w_tf];unfold dH;simp_all! only[Pap.D,tyD,tysD,at0,at1,at2,at3,b,d,w_to];unfold gv;simp_all! only[Pap.D,tyD,tysD,at0,at1,at2,at3,b,d,w_tt,Bool.not_true];show Bif (!(((4:Nat):Int)==4)) _ _;rw[show(((4:Nat):Int)==4)=true by decide,Bool.not_true,ag];refine⟨(s:Int),rfl,?_⟩;unfold gu;simp_all! only[Pap.D,tyD,tysD,at0,at1,at2,at3,b,d,g];rw[Bool.not_true,ag];refine⟨⟨rfl,rfl,(by decide:(1:Nat)<=30)⟩,?_⟩;obtain⟨x,hx,rfl⟩:=ht i s r rfl;cases eqD (D.tup [D.str "true",D.int (i:Int),D.int (s:Int),D.int (r:Int)]) (D.tup [D.str "true",D.int 0,D.int 0,D.non]) with
  |true=>exact q
  |false=>exact⟨a,m,a_,r,x,rfl,A,hx,q⟩
 |fls i=>
  unfold bB;simp_all! only[Pap.D,tyD,tysD,at0,at1,at2,at3,b,d,ic,Bool.not_true];refine⟨by decide,?_⟩;show Bif (decide (((2:Nat):Int)<2)) _ _;rw[show decide (((2:Nat):Int)<2)=false by decide,ag];refine⟨(i:Int),rfl,?_⟩;unfold cz;simp_all! only[Pap.D,tyD,tysD,at0,at1,at2,at3,b,d,w_ff];rw[Bool.not_true,ag];exact q
 |opn s r=>
  unfold bB;simp_all! only[Pap.D,tyD,tysD,at0,at1,at2,at3,b,d,ic,Bool.not_true];refine⟨by decide,?_⟩;show Bif (decide (((3:Nat):Int)<2)) _ _;rw[show decide (((3:Nat):Int)<2)=false by decide,ag];refine⟨(s:Int),rfl,?_⟩;unfold cz;simp_all! only[Pap.D,tyD,tysD,at0,at1,at2,at3,b,d,w_of];unfold dH;simp_all! only[Pap.D,tyD,tysD,at0,at1,at2,at3,b,d,w_oo];rw[Bool.not_true,ag];show Bif (((3:Nat):Int)==3) _ _;rw[show(((3:Nat):Int)==3)=true by decide,aH];obtain⟨x,hx,rfl⟩:=ho s r rfl;exact⟨a,m,a_,r,x,rfl,A,hx,q⟩
theorem rN:∀n:Nat,blsD (List.replicate n (D.bl true))=some (List.replicate n true)
 |0=>rfl
 |n+1=>by rw[XA,blsD,rN n];rfl
theorem vG(n:Nat):(List.replicate n true).all id=true:=by simp
theorem vH(h g:Nat)(x:Row):x.2.all (CT.carried (h:Int) (g:Int))=aV h g x:=rfl
theorem vI(hf:cn.T S "rows_for" = some (eO c S))(hc:cn.T S "conds_of" = some (di c S))(L:cn.T W "true_by_rounds" = some (l9 W))(O:cn.T W "not_false_by" = some (de W))(P:cn.F.getD 0 Yl=iP c)(h:iV c S W ds M Q):
  wSs cn fU (fin Q) (ad ["","","","","",""] ds) M:=by
 obtain⟨a,k,m,a_,told,ps,pps,f,i,rfl,A,hp,q⟩:=h;show wSs cn fU (fin Q) [↑a,↑k,~~~f,~~~i,none,none] M;have hm:=A.sheet.ok.most;have R:=A.pap.len;have U:f<m:=by have:=(YB.mp hp).1;omega
 obtain⟨p1,p2,p3,z,-⟩:=id A.claim;unfold fU;simp! only[List.set,z,JT,L];refine⟨trivial,k,pps,i,rfl,A.claim,by omega,λM1 j=>?_⟩;unfold jf;simp! only[List.set,j _ _ z,Dk,O];refine⟨trivial,k,pps,i,rfl,A.claim.ext j,by omega,λM2 B=>?_⟩;have u:=A.ext (j.trans B);obtain⟨ok,k_,V,Y,Z,z_,x_,B',h1,-⟩:=id u.sheet;unfold je;simp! only[List.set,h1,nI,hf,List.cons_append,XD,List.replicate];refine⟨trivial,a,m,a_,f,rfl,u.sheet,U,λl y hl C G=>?_⟩;simp only[G];rw[R];have A3:=u.ext C;have b:=λ(x:Row) hx e=>A.pap.false_right hp (x:=x) hx e
 have comp:∀(F:List D->MH->Prop),(∀n M5,Ext y M5->F (List.replicate n (D.bl true)) M5)->∀(rs:Zj) (n:Nat) (v:Zz) (M5:MH),(∀r∈rs,∃x,a_[r]?=some x/\x.1=f)->Ext y M5 ->
   ar (λM'=>M' l=some (.lst (nats (ci (aE a_) a_.length f)))) (.nm 6) (wTo cn .no) (wE cn (.fn 0 (.cons (.mu "conds_of" (.var 0) (.cons (.var 6) .nil)) (.cons (.var 4) (.cons (.var 5) .nil))))) F (nats rs) (List.replicate n (D.bl true))
    [↑a,↑k,~~~f,~~~i,some (.int ((setP pps (pBy i):Nat):Int)),some (.int ((av (2 ^ m-1) (setP pps (pFls i)):Nat):Int)),v] M5:=by
  intro F hF rs;induction rs with
  |nil=>
   intro n v M5 _ d;rw[show nats []=[] from rfl,ar];exact hF n M5 d
  |cons r rs ih=>
   intro n v M5 o d;obtain⟨x,hx,NJ⟩:=o r ZX;have J:=(A3.ext d).sheet;obtain⟨_,k_,V,Y,Z,z_,x_,B',Sa,-⟩:=id J;rw[show nats (r::rs)=⇑r::nats rs from rfl,ar];have ev:∀K:DK,(∀g,Ext M5 g->K (.bl true) g)->wE cn (.fn 0 (.cons (.mu "conds_of" (.var 0) (.cons (.var 6) .nil)) (.cons (.var 4) (.cons (.var 5) .nil)))) [↑a,↑k,~~~f,~~~i,some (.int ((setP pps (pBy i):Nat):Int)),some (.int ((av (2 ^ m-1) (setP pps (pFls i)):Nat):Int)),~~~r] M5 K:=by
    intro K hK;simp! only[Sa,fZ,hc,P];refine⟨trivial,a,m,a_,r,x,rfl,J,hx,λp4 NK M6 K3 e6 g6 c6=>?_⟩;refine⟨p4,_,_,NK,x.2,rfl,g6,c6,λt ht=>CT.fit_ok 'b' ((nY A.sheet.ok hx).2.2 t ht),λg p=>?_⟩;rw[ER,b x (YT hx) NJ];exact hK g (e6.trans p)
   refine ev _ λg p=>⟨p _ _ (d _ _ G),?_⟩
   have:=ih (n+1) (~~~r) g (λr' J4=>o r' (.tail _ J4)) (d.trans p)
   rw[List.replicate_succ'] at this;exact this
 refine comp _ ?_ _ 0 none y (λr o=>?_) (Ext.refl _)
 ·intro n M5 d p5 Pb
  rw[aa];simp only[rN,vG];exact q _ (j.trans (B.trans (C.trans (d.then Pb))))
 ·exact mM.1 (dj.1 o).2
theorem wV(y:∀f∈j9,cn.O W f)(hf:cn.T S "rows_for" = some (eO c S))(hc:cn.T S "conds_of" = some (di c S))(t1:cn.T W "open_ahead" = some (f9 W))(U:cn.F.getD 0 Yl=ce c)(h:jT c S W ds M Q):
  wSs cn gU (fin Q) (ad ["","","","","",""] ds) M:=by
 obtain⟨a,k,m,a_,told,ps,pps,f,s,r,rfl,A,hp,q⟩:=h;show wSs cn gU (fin Q) [↑a,↑k,~~~f,some (Pap.opn s r).D,none,none] M;have hm:=A.sheet.ok.most;have h_:=A.pap.len;have Kg:f<m:=by have:=(YB.mp hp).1;omega
 obtain⟨ok,k_,V,Y,Z,z_,x_,B',h1,-⟩:=id A.sheet;have JW:∀(x:Row) (b:Nat),a_[b]?=some x->∀t∈x.2,t.ok:=λx b hx t ht=>CT.fit_ok 'b' ((nY A.sheet.ok hx).2.2 t ht)
 have last:∀(g:Zz) (M5:MH),Ext M M5->wSs cn cJ (fin Q) [↑a,↑k,~~~f,some (Pap.opn s r).D,g,none] M5:=by
  intro g M5 d;have j:=A.ext d;obtain⟨p1,p2,p3,o,-⟩:=id j.claim;unfold cJ;simp! only[Pap.D,List.set,o,rM,GY,t1,at1];refine⟨y _ 'f',trivial,k,pps,s,rfl,j.claim,by omega,λp n=>?_⟩;dsimp only;rw[ye];have A6:=j.ext n;obtain⟨_,k_,V,Y,Z,z_,x_,B',Sb,-⟩:=id A6.sheet;obtain⟨x,hx,z,B⟩:=A.pap.open_right hp;unfold kb;simp! only[List.set,Sb,fZ,hc,at2,U,n _ _ o,rM];refine⟨trivial,a,m,a_,r,x,rfl,A6.sheet,hx,λC G M7 K3 u J K=>?_⟩;simp only[u _ _ (n _ _ o),rM];refine⟨y _ 'f',C,_,_,G,x.2,rfl,J,K,JW x r hx,λL P=>?_⟩;rw[vH,B];exact q L (d.trans (n.trans (u.trans P)))
 have body:∀(E:EndsD) (b:Nat) (x:Row) (M5:MH),Ext M M5->a_[b]?=some x->x.1=f->(∀p,Ext M5 p->E.nx [↑a,↑k,~~~f,some (Pap.opn s r).D,~~~b,none] p) ->
   wSs cn cK E [↑a,↑k,~~~f,some (Pap.opn s r).D,~~~b,none] M5:=by
  intro E b x M5 d hx z kk;have j:=A.ext d;obtain⟨p1,p2,p3,o,-⟩:=id j.claim;obtain⟨_,k_,V,Y,Z,z_,x_,B',Sa,-⟩:=id j.sheet;unfold cK;simp! only[List.set,Sa,fZ,hc,U];refine⟨trivial,a,m,a_,b,x,rfl,j.sheet,hx,λC G M7 K3 u J K=>?_⟩;simp only[u _ _ o,rM,IN];refine⟨y _ 'f',y _ 'f',C,_,_,G,x.2,rfl,J,K,JW x b hx,λL P=>?_⟩;rw[vH,h_,A.pap.open_no hp (YT hx) z];exact kk L (u.trans P)
 unfold gU;simp! only[List.set,h1,nI,hf];refine⟨trivial,a,m,a_,f,rfl,A.sheet,Kg,λl M3 hl e3 g3=>?_⟩;simp only[g3];have R:∀(rs:Zj) (g:Zz) (M5:MH),(∀r∈rs,∃x,a_[r]?=some x/\x.1=f)->Ext M3 M5 ->
   aB (λM'=>M' l=some (.lst (nats (ci (aE a_) a_.length f)))) (.nm 4) (wSs cn cK) { nx:=wSs cn cJ (fin Q),rt:=Q } (nats rs) [↑a,↑k,~~~f,some (Pap.opn s r).D,g,none] M5:=by
  intro rs;induction rs with
  |nil=>
   intro g M5 _ d;rw[show nats []=[] from rfl,aB];exact last g M5 (e3.trans d)
  |cons b rs ih=>
   intro g M5 B d;obtain⟨x,hx,z⟩:=B b ZX;rw[show nats (b::rs)=⇑b::nats rs from rfl,aB];refine body _ b x M5 (e3.trans d) hx z λp n=>⟨n _ _ (d _ _ g3),?_⟩
   exact ih (~~~b) p (λr2 h2=>B r2 (.tail _ h2)) (d.trans n)
 exact R _ none M3 (λb J4=>mM.1 (dj.1 J4).2) (Ext.refl _)
theorem IQ{i s r:Nat}:eqD (.tup [.str "true",⇑i,⇑s,⇑r]) (.tup [.str "true",.int 0,.int 0,.non])=false:=by
 have h:eqD (⇑r) .non=false:=by rw[eqD]<;>(intros;contradiction)
 rw[eqD,eqDs,eqDs,eqDs,eqDs,h];simp
theorem IR{i:Nat}:eqD (.tup [.str "false",⇑i]) (.tup [.str "true",.int 0,.int 0,.non])=false:=by
 rw[eqD,gI];simp
theorem IS{s r:Nat}:eqD (.tup [.str "open",⇑s,⇑r]) (.tup [.str "true",.int 0,.int 0,.non])=false:=by
 rw[eqD,gI];simp
theorem zA(b:cn.G.getD 0 .non=Pap.told.D)(hc:cn.T S "conds_of" = some (di c S))(u:cn.T W "true_ahead" = some (f8 W))(y:cn.T W "not_false_by" = some (de W))
  (z:cn.F.getD 0 Yl=jT c S W) (B:cn.F.getD 1 Yl=iV c S W) (d:cn.F.getD 2 Yl=bn) (C:cn.F.getD 3 Yl=ce c) (h:kc c S W ds M Q):
  wSs cn dQ (fin Q) (ad ["","","","","",""] ds) M:=by
 obtain⟨a,k,m,a_,told,ps,pps,f,p,rfl,A,hp,q⟩:=h;show wSs cn dQ (fin Q) [↑a,~~~told,↑k,~~~f,some p.D,none] M;have hm:=A.sheet.ok.most;have J:=A.pap.len;have hq:=A.pap.pap f p hp;obtain⟨p1,p2,p3,o,-⟩:=id A.claim;cases p with
 |told=>
  have hq:told.testBit f=true:=hq;unfold dQ;simp_all! only[Pap.D,List.set,at0,at1,at2,at3,b];refine⟨⟨rfl,rfl,(by decide:(1:Nat)<=30)⟩,?_⟩;rw[oZ _ rfl];simp only[aH,d];refine⟨(told:Int),(f:Int),rfl,by omega,?_⟩;rw[ck,hq];exact q M (Ext.refl _)
 |tru i s r=>
  unfold dQ;simp_all! only[Pap.D,List.set,at0,at1,at2,at3,b];refine⟨⟨rfl,rfl,(by decide:(1:Nat)<=30)⟩,?_⟩;rw[IQ];simp only[ag];unfold gw;simp_all! only[Pap.D,List.set,at0,at1,at2,at3,w_tt,o,EU,u];refine⟨k,pps,i,s,rfl,A.claim,by omega,λM1 g=>?_⟩;have j:=A.ext g;obtain⟨_,k_,Z,q2,q3,z_,x_,B',K,-⟩:=id j.sheet;obtain⟨x,hx,NJ,L⟩:=A.pap.true_right hp;unfold pP;simp_all! only[Pap.D,List.set,at0,at1,at2,at3,K,fZ,hc,C];refine⟨a,m,a_,r,x,rfl,j.sheet,hx,λO P M2 K3 l R U=>?_⟩;simp only[l _ _ (g _ _ o),Dk,y];refine⟨trivial,k,pps,i,rfl,j.claim.ext l,by omega,λM3 n=>?_⟩;refine⟨O,_,_,P,x.2,rfl,n _ _ R,U.ext n,λt ht=>CT.fit_ok 'b' ((nY A.sheet.ok hx).2.2 t ht),λV Y=>?_⟩;rw[vH,J,L];exact q V (g.trans (l.trans (n.trans Y)))
 |fls i=>
  unfold dQ;simp_all! only[Pap.D,List.set,at0,at1,at2,at3,b];refine⟨⟨rfl,rfl,(by decide:(1:Nat)<=30)⟩,?_⟩;rw[IR];simp only[ag];unfold gw;simp_all! only[Pap.D,List.set,at0,at1,at2,at3,w_ft];unfold kB;simp_all! only[Pap.D,List.set,at0,at1,at2,at3,d];refine⟨(told:Int),(f:Int),rfl,by omega,?_⟩;rw[ck,hq.1];simp only[ag];unfold kA;simp_all! only[Pap.D,List.set,at0,at1,at2,at3,w_ff,B];exact⟨a,k,m,a_,told,ps,pps,f,i,rfl,A,hp,q⟩
 |opn s r=>
  unfold dQ;simp_all! only[Pap.D,List.set,at0,at1,at2,at3,b];refine⟨⟨rfl,rfl,(by decide:(1:Nat)<=30)⟩,?_⟩;rw[IS];simp only[ag];unfold gw;simp_all! only[Pap.D,List.set,at0,at1,at2,at3,w_ot];unfold kB;simp_all! only[Pap.D,List.set,at0,at1,at2,at3,d];refine⟨(told:Int),(f:Int),rfl,by omega,?_⟩;rw[ck,hq.1];simp only[ag];unfold kA;simp_all! only[Pap.D,List.set,at0,at1,at2,at3,w_of];unfold pO;simp_all! only[Pap.D,List.set,at0,at1,at2,at3,z];exact⟨a,k,m,a_,told,ps,pps,f,s,r,rfl,A,hp,q⟩
theorem uN{c:CA}{S:Addr}{M:MH}{a:Addr}{m:Nat}{a_:Zy}{told:Nat}{ps:Zp}{pps:ZO}(P:Papers a_ m told ps pps){f:Nat}{q:Pap}(h:pps[f]?=some q):
  (∀i s r,q=.tru i s r->∃x,a_[r]?=some x/\x.1=f)/\(∀s r,q=.opn s r->∃x,a_[r]?=some x/\x.1=f):=by
 refine⟨λi s r e=>?_,λs r e=>?_⟩
 ·subst e
  obtain⟨x,hx,hf,_⟩:=P.true_right h;exact⟨x,hx,hf⟩
 ·subst e
  obtain⟨x,hx,hf,_⟩:=P.open_right h;exact⟨x,hx,hf⟩
theorem vJ(O:cn.T S "how_many" = some (cE c S))(R:cn.F.getD 0 Yl=kc c S W)(U:cn.F.getD 1 Yl=bm W (fo W))(V:cn.F.getD 2 Yl=mX c S)(h:qL c S ds M Q):
  wSs cn bG (fin Q) (ad ["","","",""] ds) M:=by
 obtain⟨a,b,m,a_,told,ps,pps,rfl,A,hb,P,q⟩:=h;show wSs cn bG (fin Q) [↑a,~~~told,↑b,none] M;have hm:=A.ok.most;have Y:=P.len;obtain⟨ok,k_,q1,q2,q3,z_,x_,B',Z,-⟩:=id A;have Pc:∀(F:List D->MH->Prop),(∀n M5,Ext M M5->F (List.replicate n (D.bl true)) M5)->∀(l:List (Nat×Pap)) (n:Nat) (v w:Zz) (M5:MH),(∀f q,(f,q)∈l->pps[f]?=some q)->Ext M M5 ->
   ar (λM'=>M' b=some (.lst (pps.map Pap.D))) (.tp [4,5]) (wTo cn .no) (wE cn (.fn 2 (.cons (.var 0) (.cons (.var 4) (.cons (.var 5) .nil))))) F (l.map tupP) (List.replicate n (D.bl true)) [↑a,~~~told,↑b,none,v,w] M5:=by
  intro F r l;induction l with
  |nil=>
   intro n v w M5 _ d;rw[YZ,ar];exact r n M5 d
  |cons x l u=>
   intro n v w M5 hl d;obtain⟨f,p⟩:=x;have hp:=hl f p ZX;have y:∀K:DK,K (.bl true) M5->wE cn (.fn 2 (.cons (.var 0) (.cons (.var 4) (.cons (.var 5) .nil)))) [↑a,~~~told,↑b,none,~~~f,some p.D] M5 K:=by
    intro K hK;simp! only[V];have C:=uN (c:=c) (S:=S) (M:=M) (a:=a) P hp;exact⟨a,m,a_,f,p,rfl,A.ext d,C.1,C.2,hK⟩
   rw[YJ,ar];refine⟨rfl,y _ ⟨d _ _ hb,?_⟩⟩
   have:=u (n+1) (~~~f) (some p.D) M5 (λf' z h'=>hl f' z (.tail _ h')) d
   rw[List.replicate_succ'] at this;exact this
 have Pd:∀(k:Addr) (g:MH),Ext M g->ClaimAt W g k pps->∀(F:List D->MH->Prop),(∀n M5,Ext g M5->F (List.replicate n (D.bl true)) M5)->∀(l:List (Nat×Pap)) (n:Nat) (v w:Zz) (M5:MH),(∀f q,(f,q)∈l->pps[f]?=some q)->Ext g M5 ->
   ar (λM'=>M' b=some (.lst (pps.map Pap.D))) (.tp [4,5]) (wTo cn .no) (wE cn (.fn 0 (.cons (.var 0) (.cons (.var 1) (.cons (.var 3) (.cons (.var 4) (.cons (.var 5) .nil))))))) F (l.map tupP) (List.replicate n (D.bl true)) [↑a,~~~told,↑b,↑k,v,w] M5:=by
  intro k g j B F r l;induction l with
  |nil=>
   intro n v w M5 _ d;rw[YZ,ar];exact r n M5 d
  |cons x l u=>
   intro n v w M5 hl d;obtain⟨f,p⟩:=x;have hp:=hl f p ZX;have y:∀K:DK,(∀o,Ext M5 o->K (.bl true) o)->wE cn (.fn 0 (.cons (.var 0) (.cons (.var 1) (.cons (.var 3) (.cons (.var 4) (.cons (.var 5) .nil)))))) [↑a,~~~told,↑b,↑k,~~~f,some p.D] M5 K:=by
    intro K hK;simp! only[R];exact⟨a,k,m,a_,told,ps,pps,f,p,rfl,⟨A.ext (j.trans d),B.ext d,P⟩,hp,hK⟩
   rw[YJ,ar];refine⟨rfl,y _ λo G=>⟨G _ _ (d _ _ (j _ _ hb)),?_⟩⟩
   have:=u (n+1) (~~~f) (some p.D) o (λf' z h'=>hl f' z (.tail _ h')) (d.trans G)
   rw[List.replicate_succ'] at this;exact this
 have all:∀f q,(f,q)∈enP 0 pps->pps[f]?=some q:=λf q h=>by
  have:=((vE 0 pps f q).1 h).2
  rwa [Nat.sub_zero] at this
 unfold bG;simp! only[List.set,tyD,tysD,hb,Z,f6,O,ZE];refine⟨by decide,?_⟩;rw[show isT "list" "list" = true by decide];simp only[Bool.not_true,ag];refine⟨trivial,a,m,a_,rfl,A,?_⟩;refine⟨⟨rfl,rfl,(by decide:(0:Nat)<=30)⟩,?_⟩;rw[ae,Y,XF];simp only[Bool.not_true,ag];unfold gT;simp! only[List.set,List.cons_append,XD,List.replicate,hb];rw[show(0:Int)=((0:Nat):Int) from rfl,pA];refine Pc _ ?_ (enP 0 pps) 0 none none M all (Ext.refl _);intro n M1 e1 p1 J3;rw[aa];simp only[rN,vG,Bool.not_true,ag];have J:Ext M (updM M1 p1 (.lst (List.replicate n (D.bl true)))):=e1.then J3;generalize updM M1 p1 (MO.lst (List.replicate n (D.bl true)))=M2 at *;unfold mj;simp! only[List.set,U];intro k hk;have L:Ext M2 (updM M2 k (.ins W [])):=Ext.new hk;refine⟨k,b,pps,rfl,aa,L _ _ (J _ _ hb),by omega,λg b3 B=>⟨rfl,?_⟩⟩;have j:Ext M g:=J.trans (ExtBut.ext L b3 hk);unfold mi;simp! only[List.set,List.cons_append,XD,List.replicate,j _ _ hb];rw[show(0:Int)=((0:Nat):Int) from rfl,pA];refine Pd k g j B _ ?_ (enP 0 pps) 0 none none g all (Ext.refl _);intro n M4 e4 p4 K3;rw[aa];simp only[rN,vG];exact q _ (j.trans (e4.then K3))
end
end SH
namespace SQ
open PySem L2 DD
open SH
def pQ:Ss:=#v[.ret (.bin .Mod (.bin .Add (.bin .Add (.bin .Mult (.var 2) (.var 2)) (.bin .Mult (.int 7) (.var 2))) (.var 1)) (.int 2147483629))]
def pR:Ss:=.cons (.set 2 (.bin .Mod (.bin .Mult (.var 2) (.var 2)) (.int 2147483647))) pQ
def kC:Ss:=.cons (.set 2 (.bin .Mod (.bin .Add (.bin .Add (.bin .Mult (.bin .Mod (.var 2) (.int 2147483647)) (.int 48271)) (.bin .Mult (.int 7919) (.var 1))) (.int 1)) (.int 2147483647))) pR
def pS:Ss:=.cons (.ite (.cmp .Lt (.var 1) (.bi .len #v[.var 0])) #v[.set 2 (.ix (.var 0) (.var 1))] .nil) kC
def nJ:Ss:=.cons (.set 2 (.bin .Add (.bin .Mult (.int 104729) (.var 1)) (.int 7))) pS
def iX:Ss:=#v[.ret (.lst #v[.var 2])]
def mY:Ss:=#v[.set 2 (.bin .Add (.bin .Mult (.var 2) (.int 2147483647)) (.bin .Mod (.bin .Add (.bin .Mult (.var 4) (.var 4)) (.bin .Mult (.int 7) (.var 4))) (.int 2147483647)))]
def mZ:Ss:=.cons (.set 4 (.bin .Mod (.bin .Add (.bin .Add (.bin .Mult (.var 4) (.var 4)) (.bin .Mult (.int 48271) (.fn 0 #v[.var 0,.bin .Add (.bin .Add (.var 1) (.int 2)) (.var 3)]))) (.var 3)) (.int 2147483629))) mY
def d3:Ss:=.cons (.set 4 (.bin .Mod (.bin .Add (.fn 0 #v[.var 0,.var 1]) (.bin .Mult (.int 7919) (.var 3))) (.int 2147483587))) mZ
def m6:Ss:=.cons (.for (.nm 3) (.rg1 #v[.int 40]) d3) iX
def iY:Ss:=.cons (.set 2 (.int 0)) m6
def kE:Ss:=.cons (.ite (.and (.cmp .Eq (.bin .Mod (.fn 0 #v[.var 0,.bin .Add (.var 1) (.int 1)]) (.int 2)) (.int 0)) (.cmp .Lt (.var 1) (.bi .len #v[.var 0]))) #v[.ret (.lst #v[.ix (.var 0) (.var 1)])] .nil) iY
def oo:Ss:=#v[.ret (.var 2)]
def oq:Ss:=.cons (.putIx (.var 0) (.int 0) (.bin .FloorDiv (.ix (.var 0) (.int 0)) (.var 1))) oo
def ml:Ss:=.cons (.set 2 (.bin .Mod (.ix (.var 0) (.int 0)) (.var 1))) oq
def d4:Ss:=#v[.ret (.bi .tuple #v[.var 3])]
def d8:Ss:=#v[.expr (.mt .append (.var 3) #v[.mt .pop (.var 2) #v[.fn 0 #v[.var 0,.bi .len #v[.var 2]]]])]
def m7:Ss:=.cons (.for (.nm 4) (.rg1 #v[.bin .Add (.int 1) (.fn 0 #v[.var 0,.bi .min #v[.int 6,.var 1]])]) d8) d4
def m8:Ss:=.cons (.set 3 (.lst .nil)) m7
def kF:Ss:=.cons (.set 2 (.lrg #v[.var 1])) m8
def pT:Ss:=#v[.ret (.tup #v[.str "lead",.var 3,.fn 0 #v[.var 0,.bi .len #v[.var 3]]])]
def pU:Ss:=.cons (.ite (.cmp .Eq (.var 2) (.int 6)) #v[.ret (.tup #v[.str "some",.bin .Add (.int 1) (.fn 0 #v[.var 0,.bi .min #v[.int 6,.bin .Add (.bi .len #v[.var 3]) (.int 1)]]),.var 3])] .nil) pT
def pV:Ss:=.cons (.set 3 (.fn 1 #v[.var 0,.var 1])) pU
def pX:Ss:=.cons (.ite (.cmp .Lt (.var 2) (.int 6)) #v[.ret (.tup #v[.str "lack",.fn 0 #v[.var 0,.var 1]])] .nil) pV
def pY:Ss:=.cons (.ite (.cmp .Lt (.var 2) (.int 3)) #v[.ret (.tup #v[.str "have",.fn 0 #v[.var 0,.var 1]])] .nil) pX
def nK:Ss:=.cons (.set 2 (.fn 0 #v[.var 0,.int 8])) pY
structure Box1 (p:Addr) (M M':MH) (b:Int):Prop where
 but:ExtBut p M M'
 at_:M' p=some (.lst [.int b])
theorem Box1.draw{p:Addr}{b:Int}{M M':MH}(h:Box1 p M M' b)(b':Int):Box1 p M (updM M' p (.lst [.int b'])) b':=⟨h.but.trans (ExtBut.upd _ _ _),aa⟩
theorem Box1.ext{p:Addr}{b:Int}{M M' a:MH}(h:Box1 p M M' b)(e:Ext M' a):Box1 p M a b:=⟨h.but.trans e.but,e _ _ h.at_⟩
theorem Box1.put{p r:Addr}{b:Int}{o:MO}{M M':MH}(h:Box1 p M M' b)(a:M r=none)(hp:M p≠none):Box1 p M (updM M' r o) b:=⟨h.but.put a,by
 have:p≠r:=λz=>by subst z;exact hp a
 rw[ay this];exact h.at_⟩
theorem Box1.none{p r:Addr}{b:Int}{M M':MH}(h:Box1 p M M' b)(a:M' r=none):M r=none:=by
 cases e:M r with
 |none=>rfl
 |some o=>
  by_cases z:r=p
  ·subst z;rw[h.at_] at a;cases a
  ·rw[h.but _ _ z e] at a;cases a
def uO:SpD:=λds M Q=>∃(a:Addr) (ns:Zi) (k:Nat),ds=[.ref a,.int (k:Int)]/\M a=some (.rol (ns.map .int))/\∀c:Int,0<=c->c<2147483629->Q (.int c) M
def gV:SpD:=λds M Q=>∃(a:Addr) (ns:Zi) (k:Nat),ds=[.ref a,.int (k:Int)]/\M a=some (.rol (ns.map .int))/\∀(p:Addr) (b:Int),M p=none->Q (.ref p) (updM M p (.lst [.int b]))
def bc:SpD:=λds M Q=>∃(p:Addr) (b:Int) (m:Nat),ds=[.ref p,.int (m:Int)]/\M p=some (.lst [.int b])/\(0<m/\m<1073741824)/\∀(v:Nat) (b':Int),v<m->Q (.int (v:Int)) (updM M p (.lst [.int b']))
def pF:SpD:=λds M Q=>∃(p:Addr) (b:Int) (m:Nat),ds=[.ref p,.int (m:Int)]/\M p=some (.lst [.int b])/\(0<m/\m<64)/\∀(fs:Zj) M' b',fs.Nodup->(∀f∈fs,f<m)->(0<fs.length/\fs.length<=6)->Box1 p M M' b'->Q (.tup (nats fs)) M'
def qN:SpD:=λds M Q=>∃(p:Addr) (b:Int) (m:Nat),ds=[.ref p,.int (m:Int)]/\M p=some (.lst [.int b])/\(0<m/\m<64)/\∀(t:CT) M' b',t.fit (m:Int)->Box1 p M M' b'->Q t.told M'
theorem ix0(x:D):atI [x] 0=some x:=at0 x []
theorem uP(x:D):ixN ([x]:List D).length 0=some 0:=rfl
section
variable {cn:Cn}{ds:List D}{M:MH}{Q:DK}
theorem G0(h:uO ds M Q):wSs cn nJ (fin Q) (ad ["","",""] ds) M:=by
 obtain⟨a,ns,k,rfl,f,q⟩:=h;show wSs cn nJ (fin Q) [some (.ref a),some (.int (k:Int)),none] M;have last:∀x:Int,wSs cn kC (fin Q) [some (.ref a),some (.int (k:Int)),some (.int x)] M:=by
  intro x;unfold kC;simp! only[List.set];refine⟨by decide,.inr ⟨by decide,by decide⟩,.inl ⟨by decide,by decide⟩,by decide,?_⟩;generalize x%2147483647*48271+7919*(k:Int)+1=b;have j:=modB (y:=b) (m:=2147483647) 'a';generalize b%2147483647=y at *;unfold pR;simp! only[List.set];refine⟨.inl ⟨by omega,by omega⟩,by decide,?_⟩;generalize y*y=c;have l:=modB (y:=c) (m:=2147483647) 'a';generalize c%2147483647=z at *;unfold pQ;simp! only[List.set];refine⟨.inl ⟨by omega,by omega⟩,.inl ⟨by decide,by decide⟩,by decide,?_⟩;have d:=modB (y:=z*z+7*z+(k:Int)) (m:=2147483629) 'a';exact q _ d.1 d.2
 unfold nJ;simp! only[List.set];refine⟨.inl ⟨by decide,by decide⟩,?_⟩;unfold pS;simp! only[List.set,f,ZE];refine q0 (λg=>?_) (λg=>?_)
 ·have hk:k<ns.length:=by omega
  rw[bW (by rw[ZF,ZC hk];rfl)];exact last _
 ·exact last _
theorem EV(h:bc ds M Q):wSs cn ml (fin Q) (ad ["","",""] ds) M:=by
 obtain⟨p,b,m,rfl,a,hm,q⟩:=h;show wSs cn ml (fin Q) [some (.ref p),some (.int (m:Int)),none] M;unfold ml;simp! only[List.set,a,ix0];refine⟨by omega,?_⟩;have c:=modB (y:=b) (m:=(m:Int)) 'b';unfold oq;simp! only[List.set,a,ix0,uP];refine⟨⟨by omega,by omega⟩,?_⟩;unfold oo;simp! only[List.set]
 have:=q (b%(m:Int)).toNat (b / (m:Int)) 'b'
 rwa [Int.toNat_of_nonneg c.1] at this
theorem Dl (f:cn.F.getD 0 Yl = uO) (h:gV ds M Q):wSs cn kE (fin Q) (ad ["","","","",""] ds) M:=by
  obtain ⟨a,ns,k,rfl,d,q⟩:=h
  show wSs cn kE (fin Q) [some (.ref a),some (.int (k:Int)),none,none,none] M
  have body:∀ (E:EndsD) (x:Int) (j:Nat) (b:Zz),(∀ g o,E.nx [some (.ref a),some (.int (k:Int)),some (.int g),some (.int (j:Int)),o] M)->wSs cn d3 E [some (.ref a),some (.int (k:Int)),some (.int x),some (.int (j:Int)),b] M:=by
    intro E x j b r
    unfold d3
    simp! only [List.set,f]
    refine ⟨a,ns,k,rfl,d,λu _ _=>?_⟩
    simp! only []
    refine ⟨.inl ⟨by decide,by decide⟩,by decide,?_⟩
    generalize u + 7919 * (j:Int) = x1
    have G:=modB (y:=x1) (m:=2147483587) 'a'
    generalize x1 % 2147483587 = y at *
    unfold mZ
    simp! only [List.set,f]
    refine ⟨.inl ⟨by omega,by omega⟩,a,ns,k + 2 + j,?_,d,λA _ _=>?_⟩
    · congr 3
    simp! only []
    refine ⟨.inl ⟨by decide,by decide⟩,by decide,?_⟩
    generalize y * y + 48271 * A + (j:Int) = x2
    have J:=modB (y:=x2) (m:=2147483629) 'a'
    generalize x2 % 2147483629 = z at *
    unfold mY
    simp! only [List.set]
    refine ⟨.inr ⟨by decide,by decide⟩,.inl ⟨by omega,by omega⟩,.inl ⟨by decide,by decide⟩,by decide,?_⟩
    exact r _ _
  have rest:wSs cn iY (fin Q) [some (.ref a),some (.int (k:Int)),none,none,none] M:=by
    unfold iY
    simp! only [List.set]
    unfold m6
    simp! only [List.set]
    refine ⟨⟨by decide,by decide⟩,?_⟩
    rw [show (40:Int) = ((40:Nat):Int) from rfl,cP]
    have l:∀ (xs:Zj) (x:Int) (n b:Zz),aB (λ_=>True) (.nm 3) (wSs cn d3) { nx:=wSs cn iX (fin Q),rt:=Q } (nats xs) [some (.ref a),some (.int (k:Int)),some (.int x),n,b] M:=by
      intro xs
      induction xs with
      | nil=>
        intro x n b
        rw [show nats [] = [] from rfl,aB]
        unfold iX
        simp! only [List.set]
        exact λp hp=>q p x hp
      | cons j xs B=>
        intro x n b
        rw [show nats (j :: xs) = .int (j:Int) :: nats xs from rfl,aB]
        refine body _ x j b ?_
        intro g o
        exact ⟨trivial,B g _ _⟩
    exact l _ 0 none none
  unfold kE
  simp! only [al,am,aw,aq,ak,ax,ae,ah,YL,and_self,true_and,and_true,List.set,f,d,ZE]
  refine ⟨a,ns,k + 1,rfl,d,λc _ _=>?_⟩
  simp! only [al,am,aw,aq,ak,ax,ae,ah,YL,and_self,true_and,and_true]
  refine ⟨by decide,?_⟩
  refine Bif2 (λ_=>?_) (λ_=>rest)
  simp only [d,ZE]
  refine q0 (λC=>?_) (λC=>rest)
  have hk:k < ns.length:=by omega
  rw [bW (by rw [ZF,ZC hk]; rfl)]
  exact λp hp=>q p _ hp
theorem Dm(T:cn.F.getD 0 Yl=bc)(h:pF ds M Q):wSs cn kF (fin Q) (ad ["","","","",""] ds) M:=by
 obtain⟨p,b,m,rfl,U,hm,q⟩:=h;show wSs cn kF (fin Q) [some (.ref p),some (.int (m:Int)),none,none,none] M;have B:M p≠none:=by rw[U];simp
 have V:Box1 p M M b:=⟨ExtBut.refl _ _,U⟩;unfold kF;simp! only[List.set];refine⟨⟨by omega,by omega⟩,λa W=>?_⟩;rw[cP];have Y:=W;have K:Box1 p M (updM M a (.lst (nats (List.range m)))) b:=V.ext (Ext.new W);have C:updM M a (MO.lst (nats (List.range m))) a=some (.lst (nats (List.range m))):=aa;generalize updM M a (MO.lst (nats (List.range m)))=M2 at *;unfold m8;simp! only[List.set];intro c r;have Z:M c=none:=K.none r;have L:Box1 p M (updM M2 c (.lst [])) b:=K.ext (Ext.new r);have g3:updM M2 c (MO.lst []) c=some (.lst (nats [])):=aa;have r3:updM M2 c (MO.lst []) a=some (.lst (nats (List.range m))):=(Ext.new r) _ _ C;have E_:c≠a:=λz=>by subst z;rw[r] at C;cases C
 have Qa:p≠a:=λz=>by subst z;exact B Y
 have Pg:p≠c:=λz=>by subst z;exact B Z
 generalize updM M2 c (MO.lst [])=G at *;clear V K C r;clear M2;have D3:Drawn m (List.range m) []:=⟨List.nodup_range,λf hf=>by simpa using hf,by simp⟩;unfold m7;simp! only[List.set,T];refine⟨p,b,min 6 m,?_,L.at_,⟨by omega,by omega⟩,λw u hw=>?_⟩
 ·congr 3
  split<;>omega
 have B4:=L.draw u;have g4:updM G p (MO.lst [.int u]) c=some (.lst (nats [])):=by rw[ay Pg.symm];exact g3
 have r4:updM G p (MO.lst [.int u]) a=some (.lst (nats (List.range m))):=by rw[ay Qa.symm];exact r3
 generalize updM G p (MO.lst [.int u])=M4 at *;clear L g3 r3;clear G;refine⟨⟨by omega,by omega⟩,?_⟩;rw[show(1:Int)+(w:Int)=((w+1:Nat):Int) by omega,cP];have Sd:w+1<=m/\w+1<=6:=by omega
 have last:∀(fs rs:Zj) (g:Zz) (d:Int) (M5:MH),fs.length=w+1->Drawn m rs fs->Box1 p M M5 d->M5 c=some (.lst (nats fs))->wSs cn d4 (fin Q) [some (.ref p),some (.int (m:Int)),some (.ref a),some (.ref c),g] M5:=by
  intro fs rs g d M5 N6 k n o;unfold d4;simp! only[List.set,o,rdL];exact q fs M5 d (List.nodup_append.1 k.nd).1 (λf hf=>k.lt f (YA.2 (.inl hf))) ⟨by omega,by omega⟩ n
 have body:∀(E:EndsD) (fs rs:Zj) (g:Zz) (d:Int) (M5:MH),Drawn m rs fs->0<rs.length->Box1 p M M5 d->M5 c=some (.lst (nats fs))->M5 a=some (.lst (nats rs)) ->
   (∀y J l j,Drawn m J y->y.length=fs.length+1->Box1 p M j l->j c=some (.lst (nats y))->j a=some (.lst (nats J))->E.nx [some (.ref p),some (.int (m:Int)),some (.ref a),some (.ref c),g] j) ->
   wSs cn d8 E [some (.ref p),some (.int (m:Int)),some (.ref a),some (.ref c),g] M5:=by
  intro E fs rs g d M5 k OX n o A kk;have Lw:=k.len;unfold d8;simp! only[List.set,T,o,A,jA];refine⟨rfl,rfl,p,d,rs.length,rfl,n.at_,⟨OX,by omega⟩,λi l hi=>?_⟩;have O:=n.draw l;have P:updM M5 p (MO.lst [.int l]) c=some (.lst (nats fs)):=by rw[ay Pg.symm];exact o
  have R:updM M5 p (MO.lst [.int l]) a=some (.lst (nats rs)):=by rw[ay Qa.symm];exact A
  generalize updM M5 p (MO.lst [.int l])=j at *;have hx:rs[i]?=some rs[i]:=ZC hi;generalize rs[i]=x at hx;have WH:(nats rs)[(i:Int).toNat]?=some (.int (x:Int)):=by unfold nats;rw[YW,ZF,hx];rfl
  simp only[R,WH];refine⟨⟨by omega,by omega⟩,?_⟩;rw[YW,Bx];have B7:Box1 p M (updM j a (.lst (nats (rs.eraseIdx i)))) l:=O.put Y B;have g7:updM j a (MO.lst (nats (rs.eraseIdx i))) c=some (.lst (nats fs)):=by rw[ay E_];exact P
  have r7:updM j a (MO.lst (nats (rs.eraseIdx i))) a=some (.lst (nats (rs.eraseIdx i))):=aa;generalize updM j a (MO.lst (nats (rs.eraseIdx i)))=M7 at *;simp only[g7,jA];have hsz:(2000:Nat)<sizeLine:=by decide
  refine⟨by omega,?_⟩;rw[show nats fs++[D.int (x:Int)]=nats (fs++[x]) by unfold nats;rw[ZK];rfl];exact kk (fs++[x]) (rs.eraseIdx i) l _ (k.pop hx) (by rw[ZJ];rfl) (B7.put Z B) aa (by rw[ay E_.symm];exact r7)
 have S:∀(xs:Zj) (fs rs:Zj) (g:Zz) (d:Int) (M5:MH),fs.length+xs.length=w+1->Drawn m rs fs->Box1 p M M5 d->M5 c=some (.lst (nats fs))->M5 a=some (.lst (nats rs)) ->
   aB (λ_=>True) (.nm 4) (wSs cn d8) { nx:=wSs cn d4 (fin Q),rt:=Q } (nats xs) [some (.ref p),some (.int (m:Int)),some (.ref a),some (.ref c),g] M5:=by
  intro xs;induction xs with
  |nil=>
   intro fs rs g d M5 hl k n o A;rw[show nats []=[] from rfl,aB];exact last fs rs g d M5 (by simpa using hl) k n o
  |cons x xs ih=>
   intro fs rs g d M5 hl k n o A;rw[YH] at hl
   have:=k.len
   rw[show nats (x::xs)=.int (x:Int)::nats xs from rfl,aB];refine body _ fs rs _ d M5 k 'b' n o A ?_;intro y J l j D6 h6 O P R;exact⟨trivial,ih y J _ l j 'b' D6 O P R⟩
 exact S (List.range (w+1)) [] (List.range m) none u M4 (by simp) D3 B4 g4 r4
theorem G1(j:cn.F.getD 0 Yl=bc)(r:cn.F.getD 1 Yl=pF)(h:qN ds M Q):wSs cn nK (fin Q) (ad ["","","",""] ds) M:=by
 obtain⟨p,b,m,rfl,u,hm,q⟩:=h;show wSs cn nK (fin Q) [some (.ref p),some (.int (m:Int)),none,none] M;unfold nK;simp! only[List.set,j];refine⟨p,b,8,rfl,u,⟨by decide,by decide⟩,λv c z=>?_⟩;have d:Box1 p M (updM M p (.lst [.int c])) c:=⟨ExtBut.upd _ _ _,aa⟩;generalize updM M p (MO.lst [.int c])=M1 at *;unfold pY;simp! only[List.set,j];refine q0 (λ_=>?_) (λ_=>?_)
 ·refine⟨p,c,m,rfl,d.at_,⟨hm.1,by omega⟩,λw k hw=>?_⟩
  exact q (.hav (w:Int)) _ k ⟨by omega,by omega⟩ (d.draw k)
 unfold pX;simp! only[List.set,j];refine q0 (λ_=>?_) (λ_=>?_)
 ·refine⟨p,c,m,rfl,d.at_,⟨hm.1,by omega⟩,λw k hw=>?_⟩
  exact q (.lck (w:Int)) _ k ⟨by omega,by omega⟩ (d.draw k)
 unfold pV;simp! only[List.set,r];refine⟨p,c,m,rfl,d.at_,hm,λfs M2 o y lt hl a=>?_⟩;have a:Box1 p M M2 o:=⟨d.but.trans a.but,a.at_⟩;have fit:∀f∈fs.map (λ(f:Nat)=>(f:Int)),0<=f/\f<(m:Int):=by
  intro f hf;obtain⟨g,hg,rfl⟩:=XV.1 hf
  have:=lt g hg
  omega
 have nd:(fs.map λ(f:Nat)=>(f:Int)).Nodup:=zx y;have A:(fs.map λ(f:Nat)=>(f:Int)).length=fs.length:=ZE _;unfold pU;simp! only[List.set,j,jA];refine⟨⟨rfl,rfl,(by decide:(0:Nat)<=30)⟩,?_⟩;refine Bif2 (λ_=>?_) (λ_=>?_)
 ·refine⟨p,o,min 6 (fs.length+1),?_,a.at_,⟨by omega,by omega⟩,λn l hn=>?_⟩
  ·congr 3
   split<;>omega
  rw[wv];exact q (.som (1+(n:Int)) _) _ l ⟨⟨by omega,by omega⟩,⟨by omega,by omega⟩,nd,fit⟩ (a.draw l)
 ·unfold pT
  simp! only[List.set,j,jA];refine⟨p,o,fs.length,rfl,a.at_,⟨by omega,by omega⟩,λn l hn=>?_⟩;rw[wv];exact q (.led _ n) _ l ⟨⟨by omega,by omega⟩,nd,fit⟩ (a.draw l)
end
def gy:Ss:=#v[.ret (.var 3)]
def pZ:Ss:=#v[.expr (.mt .append (.var 3) #v[.tup #v[.var 5,.comp 1 (.fn 1 #v[.var 0,.var 1]) (.nm 6) (.rg1 #v[.fn 0 #v[.var 0,.int 4]]) .no]])]
def gA:Ss:=.cons (.set 5 (.fn 0 #v[.var 0,.var 1])) pZ
def p6:Ss:=.cons (.for (.nm 4) (.rg1 #v[.fn 0 #v[.var 0,.bin .Add (.var 2) (.int 1)]]) gA) gy
def nL:Ss:=.cons (.set 3 (.lst .nil)) p6
def cv:Ss:=#v[.ret (.lst #v[.var 2,.var 3,.var 4])]
def cx:Ss:=.cons (.set 4 (.bin .BitAnd (.bin .BitAnd (.fn 0 #v[.var 1,.bin .LShift (.int 1) (.var 2)]) (.fn 0 #v[.var 1,.bin .LShift (.int 1) (.var 2)])) (.fn 0 #v[.var 1,.bin .LShift (.int 1) (.var 2)]))) cv
def bS:Ss:=.cons (.set 3 (.fn 1 #v[.var 1,.var 2,.bin .Add (.bin .Mult (.int 2) (.var 2)) (.int 2)])) cx
def p9:Ss:=.cons (.ite (.cmp .Eq (.fn 0 #v[.var 1,.int 4]) (.int 3)) #v[.set 2 (.bin .Add (.int 1) (.fn 0 #v[.var 1,.int 24]))] .nil) bS
def qb:Ss:=.cons (.set 2 (.bin .Add (.int 1) (.fn 0 #v[.var 1,.int 8]))) p9
def bJ:Ss:=.cons (.set 1 (.fn 2 #v[.var 0,.int 0])) qb
def uQ:SpD:=λds M Q=>∃(p:Addr) (b:Int) (m most:Nat),ds=[.ref p,.int (m:Int),.int (most:Int)]/\M p=some (.lst [.int b])/\(0<m/\m<64)/\most<=300 /\
 ∀R o_ a_ M' b',M' R=some (.lst o_)->R≠p->bq (hid p M') o_ a_->RowsOk m a_->a_.length<=most->Box1 p M M' b'->Q (.ref R) M'
def iE:SpD:=λds M Q=>∃(a:Addr) (ns:Zi),ds=[.ref a]/\M a=some (.rol (ns.map .int)) /\
 ∀L R m o_ a_ told M',M' L=some (.lst [.int ((m:Nat):Int),.ref R,.int ((told:Nat):Int)])->M' R=some (.lst o_)->bq M' o_ a_->RowsOk m a_->a_.length<=2*m+2->(0<m/\m<=24)->told<2 ^ m->Ext M M'->Q (.ref L) M'
structure RowsS (m:Nat) (R p:Addr) (M M5:MH) (n:Nat):Prop where
 box:∃b,Box1 p M M5 b
 ex:∃o_ a_,M5 R=some (.lst o_)/\bq (hid2 R p M5) o_ a_/\uJ m a_/\a_.length<=n
theorem IT(r p:Addr)(M:MH):Ext (hid2 r p M) (hid p M):=λb o q=>by
 unfold hid2 at q;unfold hid;split at q
 ·cases q
 ·exact q
section
variable {cn:Cn}{ds:List D}{M:MH}{Q:DK}
theorem G2 (P:cn.F.getD 0 Yl = bc) (f1:cn.F.getD 1 Yl = qN) (h:uQ ds M Q):wSs cn nL (fin Q) (ad ["","","","","",""] ds) M:=by
  obtain ⟨p,b,m,most,rfl,hM,hm,UT,q⟩:=h
  show wSs cn nL (fin Q) [some (.ref p),some (.int (m:Int)),some (.int (most:Int)),none,none,none] M
  have hsz:(2000:Nat) < sizeLine:=by decide
  unfold nL
  simp! only [List.set]
  intro R C
  have u:p ≠ R:=aR hM C
  have S2:RowsS m R p M (updM M R (.lst [])) 0:=⟨⟨b,⟨(Ext.new C).but,Ext.new C _ _ hM⟩⟩,[],[],aa,.nil,λx hx=>(by cases hx),YE _⟩
  generalize updM M R (MO.lst []) = M2 at *
  have body:∀ (E:EndsD) (d f:Zz) (M5:MH) (n:Nat),n < 1000->RowsS m R p M M5 n ->
      (∀ UU k,RowsS m R p M k (n + 1)->E.nx [some (.ref p),some (.int (m:Int)),some (.int (most:Int)),some (.ref R),d,UU] k) ->
      wSs cn gA E [some (.ref p),some (.int (m:Int)),some (.int (most:Int)),some (.ref R),d,f] M5:=by
    intro E d f M5 n hn ⟨⟨S,G⟩,o_,a_,l,r,A,J⟩ kk
    unfold gA
    simp! only [List.set,P]
    refine ⟨p,S,m,rfl,G.at_,⟨hm.1,by omega⟩,λhd K WK=>?_⟩
    have T:Box1 p M5 (updM M5 p (.lst [.int K])) K:=⟨ExtBut.upd _ _ _,aa⟩
    generalize updM M5 p (MO.lst [.int K]) = k at *
    have Sb:=T.but _ _ u.symm l
    unfold pZ
    simp! only [List.set,List.cons_append,XD,List.replicate,P,Sb]
    refine ⟨rfl,p,K,4,rfl,T.at_,⟨by decide,by decide⟩,λnc B Yt=>?_⟩
    have B7:Box1 p M5 (updM k p (.lst [.int B])) B:=T.draw B
    generalize updM k p (MO.lst [.int B]) = M7 at *
    refine ⟨⟨by omega,by omega⟩,?_⟩
    rw [cP]
    have JW:∀ (F:List D->MH->Prop),(∀ (ts:List CT) a j,ts.length<=6->(∀ t ∈ ts,CT.fit (m:Int) t)->Box1 p M5 a j->F (ts.map CT.told) a) ->
        ∀ (xs:Zj) (ts:List CT) (U:Zz) (a:MH) (j:Int),ts.length + xs.length<=6->(∀ t ∈ ts,CT.fit (m:Int) t)->Box1 p M5 a j ->
        ar (λ_=>True) (.nm 6) (wTo cn .no) (wE cn (.fn 1 (.cons (.var 0) (.cons (.var 1) .nil)))) F (nats xs) (ts.map CT.told) [some (.ref p),some (.int (m:Int)),some (.int (most:Int)),some (.ref R),d,some (.int (hd:Int)),U] a:=by
      intro F hF xs
      induction xs with
      | nil=>
        intro ts U a j hl ht g
        rw [show nats [] = [] from rfl,ar]
        exact hF ts a j (by simpa using hl) ht g
      | cons x xs V=>
        intro ts U a j hl ht g
        rw [YH] at hl
        rw [show nats (x :: xs) = .int (x:Int) :: nats xs from rfl,ar]
        have go:qN [.ref p,.int (m:Int)] a (λy M2=>True/\ar (λ_=>True) (.nm 6) (wTo cn .no) (wE cn (.fn 1 (.cons (.var 0) (.cons (.var 1) .nil)))) F (nats xs) (ts.map CT.told ++ [y]) [some (.ref p),some (.int (m:Int)),some (.int (most:Int)),some (.ref R),d,some (.int (hd:Int)),some (.int (x:Int))] M2):=by
          refine ⟨p,j,m,rfl,g.at_,hm,λt M9 b9 W B9=>⟨trivial,?_⟩⟩
          rw [show ts.map CT.told ++ [t.told] = (ts ++ [t]).map CT.told by rw [ZK]; rfl]
          refine V (ts ++ [t]) _ M9 b9 (by rw [ZJ]; simp; omega) (λt' ME=>?_) ⟨g.but.trans B9.but,B9.at_⟩
          rcases YA.1 ME with ME | ME
          · exact ht t' ME
          · have:t' = t:=by simpa using ME
            subst this; exact W
        rw [← f1] at go
        exact go
    refine JW _ ?_ (List.range nc) [] none M7 B (by simp; omega) (by simp) B7
    intro ts a j WL W g c hc
    have UW:=g.but _ _ u.symm l
    have L:Ext a (updM a c (.lst (ts.map CT.told))):=Ext.new hc
    have g9:updM a c (MO.lst (ts.map CT.told)) c = some (.lst (ts.map CT.told)):=aa
    generalize updM a c (MO.lst (ts.map CT.told)) = M9 at *
    have WM:=L _ _ UW
    have WN:c ≠ R:=(aR UW hc).symm
    have WQ:c ≠ p:=(aR g.at_ hc).symm
    simp only [WM]
    have Ny:o_.length = a_.length:=lw r
    refine ⟨by omega,?_⟩
    refine kk _ _ ⟨⟨j,⟨?_,?_⟩⟩,o_ ++ [.tup [.int (hd:Int),.ref c]],a_ ++ [(hd,ts)],aa,?_,A.add WK WL W,by rw [ZJ]; simpa using J⟩
    · intro z o hz UX
      have WR:z ≠ R:=aR UX C
      rw [ay WR]
      exact L _ _ (g.but _ _ hz (G.but _ _ hz UX))
    · rw [ay u]; exact L _ _ g.at_
    · rw [IK]
      refine bC (bq.ext ((sL g.but).trans (EN L)) r) (.cons ⟨c,rfl,?_⟩ .nil)
      rw [GP WN WQ]; exact g9
  unfold p6
  simp! only [List.set,P]
  obtain ⟨⟨b2,B2⟩,WU⟩:=S2
  refine ⟨p,b2,most + 1,?_,B2.at_,⟨by omega,by omega⟩,λw O hw=>?_⟩
  · congr 3
  have S3:RowsS m R p M (updM M2 p (.lst [.int O])) 0:=by
    obtain ⟨o_,a_,l,r,A,J⟩:=WU
    exact ⟨⟨O,B2.draw O⟩,o_,a_,by rw [ay u.symm]; exact l,bq.ext (sL (ExtBut.upd _ _ _)) r,A,J⟩
  generalize updM M2 p (MO.lst [.int O]) = M3 at *
  refine ⟨⟨by omega,by omega⟩,?_⟩
  rw [cP]
  have last:∀ (d f:Zz) (M5:MH) (n:Nat),n<=most->RowsS m R p M M5 n->wSs cn gy (fin Q) [some (.ref p),some (.int (m:Int)),some (.int (most:Int)),some (.ref R),d,f] M5:=by
    intro d f M5 n hn ⟨⟨S,G⟩,o_,a_,l,r,A,J⟩
    unfold gy
    simp! only [List.set]
    exact q R o_ a_ M5 S l u.symm (bq.ext (IT R p M5) r) ⟨by omega,by omega,A⟩ 'b' G
  have Y:∀ (xs:Zj) (d f:Zz) (M5:MH) (n:Nat),n + xs.length<=most->RowsS m R p M M5 n ->
      aB (λ_=>True) (.nm 4) (wSs cn gA) { nx:=wSs cn gy (fin Q),rt:=Q } (nats xs) [some (.ref p),some (.int (m:Int)),some (.int (most:Int)),some (.ref R),d,f] M5:=by
    intro xs
    induction xs with
    | nil=>
      intro d f M5 n hn Z
      rw [show nats [] = [] from rfl,aB]
      exact last d f M5 n (by simpa using hn) Z
    | cons x xs V=>
      intro d f M5 n hn Z
      rw [YH] at hn
      rw [show nats (x :: xs) = .int (x:Int) :: nats xs from rfl,aB]
      refine body _ _ f M5 n 'b' Z ?_
      intro UU k S6
      exact ⟨trivial,V _ _ k (n + 1) 'b' S6⟩
  exact Y (List.range w) none none M3 0 (by rw [ZI]; omega) S3
theorem vp (A:cn.F.getD 0 Yl = bc) (f1:cn.F.getD 1 Yl = uQ) (f2:cn.F.getD 2 Yl = gV) (h:iE ds M Q):wSs cn bJ (fin Q) (ad ["","","","",""] ds) M:=by
  obtain ⟨a,ns,rfl,hM,q⟩:=h
  show wSs cn bJ (fin Q) [some (.ref a),none,none,none,none] M
  unfold bJ
  simp! only [List.set,f2]
  refine ⟨a,ns,0,rfl,hM,λp b hp=>?_⟩
  have e1:Ext M (updM M p (.lst [.int b])):=Ext.new hp
  have h1:updM M p (MO.lst [.int b]) p = some (.lst [.int b]):=aa
  generalize updM M p (MO.lst [.int b]) = M1 at *
  unfold qb
  simp! only [List.set,A]
  refine ⟨p,b,8,rfl,h1,⟨by decide,by decide⟩,λv l U=>?_⟩
  have e2:Ext M (updM M1 p (.lst [.int l])):=λz o hz=>by rw [ay (aR hz hp)]; exact e1 z o hz
  have h2:updM M1 p (MO.lst [.int l]) p = some (.lst [.int l]):=aa
  generalize updM M1 p (MO.lst [.int l]) = M2 at *
  have go:∀ (m:Nat) (c:Int) (k:MH),(0 < m/\m<=24)->Ext M k->k p = some (.lst [.int c])->wSs cn bS (fin Q) [some (.ref a),some (.ref p),some (.int (m:Int)),none,none] k:=by
    intro m c k hm n r
    have P:∀ {j:Int},CPow 1 (m:Int):=λ{_}=>⟨by omega (splitDisjunctions:=true),by omega (splitDisjunctions:=true),by decide⟩
    unfold bS
    simp! only [List.set,f1]
    refine ⟨.inl ⟨by decide,by decide⟩,p,c,m,2 * m + 2,?_,r,⟨hm.1,by omega⟩,by omega,λR o_ a_ d u g4 nR A4 ok hl V=>?_⟩
    · congr 3
    have B:Ext M d:=λz o hz=>V.but z o (aR hz hp) (n z o hz)
    have WV:0 < 2 ^ m:=Nat.two_pow_pos m
    have Se:2 ^ m < 1073741824:=XI (Nat.pow_le_pow_right 'a' hm.2) 'a'
    have C:∀ (M5:MH) (f:Int),ExtBut p d M5->M5 p = some (.lst [.int f])->∀ K:DK,(∀ v g,v < 2 ^ m->K (.int ((v:Nat):Int)) (updM M5 p (.lst [.int g])))->bc [.ref p,.int ((2 ^ m:Nat):Int)] M5 K:=λM5 f _ G K hK=>⟨p,f,2 ^ m,rfl,G,⟨WV,Se⟩,λv g U=>hK v g U⟩
    unfold cx
    simp! only [List.set,A,GQ]
    refine ⟨⟨by omega (splitDisjunctions:=true),by omega (splitDisjunctions:=true),by decide⟩,?_⟩
    refine C d u (ExtBut.refl _ _) V.at_ _ λJ f Yu=>?_
    have W:ExtBut p d (updM d p (.lst [.int f])):=ExtBut.upd _ _ _
    have G:updM d p (MO.lst [.int f]) p = some (.lst [.int f]):=aa
    generalize updM d p (MO.lst [.int f]) = M5 at *
    refine ⟨⟨by omega (splitDisjunctions:=true),by omega (splitDisjunctions:=true),by decide⟩,?_⟩
    refine C M5 f W G _ λO g Yv=>?_
    have Y:ExtBut p d (updM M5 p (.lst [.int g])):=W.trans (ExtBut.upd _ _ _)
    have h6:updM M5 p (MO.lst [.int g]) p = some (.lst [.int g]):=aa
    generalize updM M5 p (MO.lst [.int g]) = M6 at *
    refine ⟨⟨by omega (splitDisjunctions:=true),by omega (splitDisjunctions:=true),by decide⟩,?_⟩
    refine C M6 g Y h6 _ λy Z UY=>?_
    have S:ExtBut p d (updM M6 p (.lst [.int Z])):=Y.trans (ExtBut.upd _ _ _)
    generalize updM M6 p (MO.lst [.int Z]) = M7 at *
    show wSs cn cv (fin Q) [some (.ref a),some (.ref p),some (.int (m:Int)),some (.ref R),some (.int (Builtin.bitAnd (Builtin.bitAnd (J:Int) (O:Int)) (y:Int)))] M7
    rw [vq,vq]
    unfold cv
    simp! only [List.set]
    intro L hL
    have T:Ext M7 (updM M7 L (.lst [.int (m:Int),.ref R,.int ((J &&& O &&& y:Nat):Int)])):=Ext.new hL
    refine q L R m o_ a_ (J &&& O &&& y) _ aa (T _ _ (S _ _ nR g4)) (bq.ext (λz o hz=>?_) A4) ok hl hm ?_ (λz o hz=>T _ _ (S _ _ (aR hz hp) (B z o hz)))
    · unfold hid at hz
      split at hz
      · cases hz
      · exact T _ _ (S _ _ ‹_› hz)
    · exact XI Nat.and_le_right UY
  unfold p9
  simp! only [al,am,aw,aq,ak,ax,ae,ah,YL,and_self,true_and,and_true,List.set,A]
  refine ⟨p,l,4,rfl,h2,⟨by decide,by decide⟩,λy c UY=>?_⟩
  have n:Ext M (updM M2 p (.lst [.int c])):=λz o hz=>by rw [ay (aR hz hp)]; exact e2 z o hz
  have r:updM M2 p (MO.lst [.int c]) p = some (.lst [.int c]):=aa
  generalize updM M2 p (MO.lst [.int c]) = k at *
  simp! only [al,am,aw,aq,ak,ax,ae,ah,YL,and_self,true_and,and_true]
  refine Bif2 (λ_=>?_) (λ_=>?_)
  · refine ⟨p,c,24,rfl,r,⟨by decide,by decide⟩,λw u hw=>?_⟩
    have B:Ext M (updM k p (.lst [.int u])):=λz o hz=>by rw [ay (aR hz hp)]; exact n z o hz
    exact go (1 + w) u _ ⟨by omega,by omega⟩ B aa
  · exact go (1 + v) c k ⟨by omega,by omega⟩ n r
end
section
variable {a_:Zy}{g told m i j:Nat}{more:Nat}{b_:ZB}
def left(a_:Zy)(s:Nat):Nat:=a_.countP λx=>!s.testBit x.1
end
theorem EW:∀l:List D,eqDs l []=l.isEmpty
 |[]=>by rw[eqDs];rfl
 |a::l=>by rw[eqDs]<;>simp
end SQ
namespace SW
open PySem L2 DD
open SH
def wT'(t:String):Bool:=isT t "int" && !isT t "bool"
def spWholeX:SpD:=λds M Q=>∃(x:D) (t:String),ds=[x]/\tyD x M=some t/\Q (.bl (wT' t)) M
def IU(n:Nat):D->Bool
 |.int k=>decide (0<=k)&&decide (k<(n:Int))
 |_=>false
def spBelowX:SpD:=λds M Q=>∃(x:D) (t:String) (n:Nat),ds=[x,.int (n:Int)]/\tyD x M=some t/\Q (.bl (IU n x)) M
def ownB(a_:Zy)(f:Nat):D->Bool
 |.int k=>decide (0<=k)&&(match a_[k.toNat]? with | some r=>decide (r.1=f) | none=>false)
 |_=>false
def spOwnX(c:CA)(S:Addr):SpD:=λds M Q=>∃(a:Addr) (m:Nat) (a_:Zy) (f:Nat) (x:D) (t:String),ds=[.ref a,.int (f:Int),x]/\SheetAt c S M a m a_/\tyD x M=some t/\Q (.bl (ownB a_ f x)) M
def xm(a_:Zy)(f:Nat):List D->Bool
 |[x]=>ownB a_ f x
 |_=>false
def uR(a_:Zy)(f:Nat)(i:Int):List D->Bool
 |[.int s,x]=>eqD (.tup [.str "true",.int i,.int s,x]) Pap.told.D||ownB a_ f x
 |_=>false
def cM(a_:Zy)(f:Nat):D->Bool
 |.tup (.str w::.int i::r)=>if w == "false" then r.isEmpty else if w == "open" then xm a_ f r else if w == "true" then uR a_ f i r else false
 |_=>false
def JU(M:MH)(ds:List D):Prop:=ds.length<2 \/ ∃w y r,ds=.str w::y::r/\(∀z∈y::r,(tyD z M).isSome=true)/\(∀u z,r=[u,z]->aJ z=true/\depD z=0)
def df(M:MH):D->Prop
 |.tup ds=>JU M ds
 |x=>(tyD x M).isSome=true
def spIsPaperX(c:CA)(S:Addr):SpD:=λds M Q=>∃(a:Addr) (m:Nat) (a_:Zy) (f:Nat) (x:D),ds=[.ref a,.int (f:Int),x]/\SheetAt c S M a m a_/\df M x/\Q (.bl (cM a_ f x)) M
def xn(M:MH)(a_:Zy)(m:Nat)(x:D):Prop:=(∃t,tyD x M=some t/\isT t "list" = false) \/ ∃(b:Addr) (xs:List D),x=.ref b/\M b=some (.lst xs)/\(xs.length≠m\/((∀y∈xs,df M y)/\∃f y,xs[f]?=some y/\cM a_ f y=false))
def Fl(c:CA)(S:Addr):SpD:=λds M Q=>∃(a:Addr) (m:Nat) (a_:Zy) (told:Nat) (x:D),ds=[.ref a,.int (told:Int),x]/\SheetAt c S M a m a_/\xn M a_ m x/\∀M',Ext M M'->Q (.bl false) M'
theorem Dn{M M':MH}{x:D}{t:String}(e:Ext M M')(h:tyD x M=some t):tyD x M'=some t:=by
 cases x with
 |ref a=>
  have h:(match M a with | some (MO.lst _)=>some "list" | some (MO.dic _)=>some "dict" | _=>none)=some t:=h;show(match M' a with | some (MO.lst _)=>some "list" | some (MO.dic _)=>some "dict" | _=>none)=some t;cases hm:M a with
  |none=>rw[hm] at h;cases h
  |some o=>rw[hm] at h;rw[e _ _ hm];exact h
 |_=>exact h
theorem sn{M M':MH}{x:D}(e:Ext M M')(h:(tyD x M).isSome=true):(tyD x M').isSome=true:=by
 obtain⟨t,ht⟩:=YQ.1 h;rw[Dn e ht];rfl
theorem df.ext{M M':MH}{x:D}(e:Ext M M')(h:df M x):df M' x:=by
 cases x with
 |tup ds=>
  rcases h with h | ⟨w,y,r,h1,h2,h3⟩
  ·exact .inl h
  ·exact .inr ⟨w,y,r,h1,λz hz=>sn e (h2 z hz),h3⟩
 |_=>exact sn e h
theorem yL:wT' "int" = true:=by decide
theorem sV{M:MH}{x:D}{t:String}(h:tyD x M=some t):(∃i,x=.int i/\t = "int")\/((∀i,x≠.int i)/\wT' t=false):=by
 cases x with
 |int i=>cases h;exact .inl ⟨i,rfl,rfl⟩
 |ref a=>
  right;refine⟨λi z=>(by cases z),?_⟩;have h:(match M a with | some (MO.lst _)=>some "list" | some (MO.dic _)=>some "dict" | _=>none)=some t:=h;cases hm:M a with
  |none=>rw[hm] at h;cases h
  |some o=>
   rw[hm] at h;cases o with
   |lst _=>cases h;decide
   |dic _=>cases h;decide
   |_=>cases h
 |ty _=>cases h
 |_=>cases h;exact .inr ⟨λi z=>(by cases z),by decide⟩
theorem bls_of{a:Type}(g:a->Bool):∀l:List a,blsD (l.map λy=>D.bl (g y))=some (l.map g)
 |[]=>rfl
 |y::l=>by rw[YJ,blsD,bls_of g l];rfl
section
variable {cn:Cn}{ds:List D}{M:MH}{Q:DK}{c:CA}{S W:Addr}
theorem rd_whole_x(h:spWholeX ds M Q):wSs cn dO (fin Q) (ad [""] ds) M:=by
 obtain⟨x,t,rfl,hx,q⟩:=h;show wSs cn dO (fin Q) [some x] M;unfold dO;simp! only[hx];refine⟨by decide,?_⟩;unfold wT' at q;cases h1:isT t "int" with
 |false=>rw[h1] at q;exact q
 |true=>
  rw[h1] at q;exact⟨by decide,q⟩
theorem rd_below_x(b:cn.F.getD 0 Yl=spWholeX)(h:spBelowX ds M Q):wSs cn dP (fin Q) (ad ["",""] ds) M:=by
 obtain⟨x,t,n,rfl,hx,q⟩:=h;show wSs cn dP (fin Q) [some x,some (.int (n:Int))] M;unfold dP;simp! only[b];refine⟨x,t,rfl,hx,?_⟩;rcases sV hx with⟨i,rfl,rfl⟩ | ⟨d,f⟩
 ·rw[yL]
  simp! only[];have q:Q (.bl (decide (0<=i)&&decide (i<(n:Int)))) M:=q;by_cases a:0<=i
  ·rw[YV a] at q
   rw[show decide (i>=0)=true from YV a];exact q
  ·rw[ZP a] at q
   rw[show decide (i>=0)=false from ZP a];exact q
 ·rw[f]
  cases x with
  |int i=>exact absurd rfl (d i)
  |_=>exact q
theorem rd_own_x(l:cn.T S "row_count" = some (fH c S))(n:cn.T S "head_of" = some (eR c S))(o:cn.F.getD 0 Yl=spBelowX)(h:spOwnX c S ds M Q):wSs cn cA (fin Q) (ad ["","",""] ds) M:=by
 obtain⟨a,m,a_,f,x,t,rfl,A,hx,q⟩:=h;show wSs cn cA (fin Q) [some (.ref a),some (.int (f:Int)),some x] M;obtain⟨ok,k_,p1,p2,p3,z_,x_,B',g,-⟩:=id A;unfold cA;simp! only[g,qM,l,o];refine⟨trivial,a,m,a_,rfl,A,?_⟩;refine⟨x,t,a_.length,rfl,hx,?_⟩;cases x with
 |int k=>
  have q:Q (.bl (decide (0<=k)&&(match a_[k.toNat]? with | some r=>decide (r.1=f) | none=>false))) M:=q;by_cases b:0<=k
  ·rw[YV b,Bool.true_and] at q
   by_cases j:k<(a_.length:Int)
   ·obtain⟨r,rfl⟩:∃r:Nat,k=(r:Int):=⟨k.toNat,by omega⟩
    rw[YW] at q;have d:a_[r]?=some (a_[r]' 'b'):=ZC 'b';generalize a_[r]' 'b'=y at d;rw[d] at q;show Bif (decide (0<=(r:Int))&&decide ((r:Int)<(a_.length:Int))) _ _;rw[YV b,YV j];simp only[Bool.and_self,aH,g,ld,n];refine⟨trivial,a,m,a_,r,y,rfl,A,d,?_⟩;refine⟨⟨rfl,rfl,(by decide:(0:Nat)<=30)⟩,?_⟩;rw[ae];have e:((y.1:Int)==(f:Int))=decide (y.1=f):=by
     by_cases z:y.1=f
     ·rw[z,XF,YV rfl]
     ·rw[ZP z];exact beq_false_of_ne 'b'
    rw[e];exact q
   ·rw[ZH 'b'] at q
    show Bif (decide (0<=k)&&decide (k<(a_.length:Int))) _ _;rw[ZP j,Bool.and_false];exact q
  ·rw[ZP b,YD] at q
   show Bif (decide (0<=k)&&decide (k<(a_.length:Int))) _ _;rw[ZP b,YD];exact q
 |_=>exact q
theorem IV{M:MH}{x:D}{t:String}(h:tyD x M=some t):(∃ds,x=.tup ds/\t = "tuple")\/((∀ds,x≠.tup ds)/\isT t "tuple" = false):=by
 cases x with
 |tup ds=>cases h;exact .inl ⟨ds,rfl,rfl⟩
 |ref a=>
  right;refine⟨λi z=>(by cases z),?_⟩;have h:(match M a with | some (MO.lst _)=>some "list" | some (MO.dic _)=>some "dict" | _=>none)=some t:=h;cases hm:M a with
  |none=>rw[hm] at h;cases h
  |some o=>
   rw[hm] at h;cases o with
   |lst _=>cases h;decide
   |dic _=>cases h;decide
   |_=>cases h
 |ty _=>cases h
 |_=>cases h;exact .inr ⟨λi z=>(by cases z),by decide⟩
theorem rd_is_paper_x (o:cn.G.getD 0 .non = Pap.told.D) (k:cn.F.getD 0 Yl = spOwnX c S) (l:cn.F.getD 1 Yl = spWholeX) (h:spIsPaperX c S ds M Q):wSs cn bB (fin Q) (ad ["","",""] ds) M:=by
  obtain ⟨a,m,a_,f,x,rfl,A,hx,q⟩:=h
  show wSs cn bB (fin Q) [some (.ref a),some (.int (f:Int)),some x] M
  by_cases hd:∃ ds,x = .tup ds
  case neg=>
    obtain ⟨t,ht⟩:∃ t,tyD x M = some t:=by
      cases x with
      | tup ds=>exact absurd ⟨ds,rfl⟩ hd
      | _=>exact YQ.1 hx
    rcases IV ht with ⟨ds,rfl,_⟩ | ⟨_,hf⟩
    · exact absurd ⟨ds,rfl⟩ hd
    unfold bB
    simp! only [ht,hf,Bool.not_false]
    refine ⟨by decide,?_⟩
    cases x with
    | tup ds=>exact absurd ⟨ds,rfl⟩ hd
    | _=>exact q
  case pos=>
  obtain ⟨ds,rfl⟩:=hd
  rcases hx with hl | ⟨w,y,r,rfl,hy,hz⟩
  · unfold bB
    simp! only [tyD,ic,Bool.not_true]
    refine ⟨by decide,?_⟩
    rw [YV (by omega:((ds.length:Nat):Int) < 2)]
    have e:cM a_ f (.tup ds) = false:=by
      match ds,hl with
      | [],_=>rfl
      | [.str _],_=>rfl
      | [.non],_ | [.bl _],_ | [.int _],_ | [.tup _],_ | [.ref _],_ | [.ty _],_=>rfl
    rw [e] at q
    exact q
  have n:((.str w :: y :: r:List D).length:Nat) = r.length + 2:=rfl
  have own:∀ (x:D),(tyD x M).isSome = true->Q (.bl (ownB a_ f x)) M->spOwnX c S [.ref a,.int (f:Int),x] M Q:=λx hx q=>by
    obtain ⟨t,ht⟩:=YQ.1 hx
    exact ⟨a,m,a_,f,x,t,rfl,A,ht,q⟩
  obtain ⟨t,ht⟩:=YQ.1 (hy y ZX)
  unfold bB
  simp! only [tyD,ic,Bool.not_true,at1,l]
  refine ⟨by decide,?_⟩
  rw [ZP (by rw [n]; omega:¬ (((.str w :: y :: r:List D).length:Nat):Int) < 2),ag]
  refine ⟨y,t,rfl,ht,?_⟩
  rcases sV ht with ⟨i,rfl,rfl⟩ | ⟨b,d⟩
  case inr=>
    rw [d]
    simp only [Bool.not_false,aH]
    cases y with
    | int i=>exact absurd rfl (b i)
    | _=>exact q
  rw [yL]
  simp only [Bool.not_true,ag]
  unfold cz
  simp! only [al,am,aw,aq,ak,ax,ae,ah,YL,and_self,true_and,and_true,at0]
  have q:Q (.bl (if w == "false" then r.isEmpty else if w == "open" then xm a_ f r else if w == "true" then uR a_ f i r else false)) M:=q
  cases b1:(w == "false") with
  | true=>
    rw [b1] at q
    simp only [aH]
    have e:((((r.length + 2:Nat):Int)) == 2) = r.isEmpty:=by
      cases r with
      | nil=>rfl
      | cons _ _=>exact beq_false_of_ne (by rw [YH]; omega)
    rw [n,e]
    exact q
  | false=>
    rw [b1] at q
    simp only [ag]
    unfold dH
    simp! only [al,am,aw,aq,ak,ax,ae,ah,YL,and_self,true_and,and_true,at0,k]
    cases b2:(w == "open") with
    | true=>
      rw [b2] at q
      simp only [aH]
      cases r with
      | nil=>exact q
      | cons z g=>
        cases g with
        | nil=>
          simp only [at2]
          exact own z (hy z (by simp)) q
        | cons p j=>
          rw [show (((.str w :: .int i :: z :: p :: j:List D).length:Int) == 3) = false from beq_false_of_ne (by simp only [YH]; omega)]
          exact q
    | false=>
      rw [b2] at q
      simp only [ag]
      unfold gv
      simp! only [al,am,aw,aq,ak,ax,ae,ah,YL,and_self,true_and,and_true,at0,l]
      cases b3:(w == "true") with
      | false=>
        rw [b3] at q
        simp only [Bool.not_false,aH]
        exact q
      | true=>
        rw [b3] at q
        simp only [Bool.not_true,ag]
        cases r with
        | nil=>exact q
        | cons u g=>
          cases g with
          | nil=>
            cases u <;> exact q
          | cons z j=>
            cases j with
            | cons B C=>
              rw [show (((.str w :: .int i :: u :: z :: B :: C:List D).length:Int) == 4) = false from beq_false_of_ne (by simp only [YH]; omega)]
              cases u <;> exact q
            | nil=>
              obtain ⟨J,hu⟩:=YQ.1 (hy u (by simp))
              show Bif (!true) _ _
              simp only [Bool.not_true,ag,at2]
              refine ⟨u,J,rfl,hu,?_⟩
              rcases sV hu with ⟨s,rfl,rfl⟩ | ⟨b,d⟩
              · rw [yL]
                simp only [Bool.not_true,ag]
                obtain ⟨K,L⟩:=hz _ _ rfl
                have O:w = "true":=by simpa using b3
                subst O
                unfold gu
                simp! only [o,k,at3]
                refine ⟨⟨?_,rfl,?_⟩,?_⟩
                · rw [aJ,aI,aI,aI,aI,K]; rfl
                · rw [depD,aT,aT,aT,aT,L]
                  show max 0 (max 0 (max 0 (max 0 0))) + 1<=30
                  decide
                have q:Q (.bl (eqD (.tup [.str "true",.int i,.int s,z]) Pap.told.D || ownB a_ f z)) M:=q
                cases be:eqD (.tup [.str "true",.int i,.int s,z]) Pap.told.D with
                | true=>rw [be] at q; exact q
                | false=>rw [be] at q; exact own z (hy z (by simp)) q
              · rw [d]
                simp only [Bool.not_false,aH]
                cases u with
                | int i=>exact absurd rfl (b i)
                | _=>exact q
theorem Do{a:Type}(g:a->Bool):∀{l:List a}{x:a},x∈l->g x=false->(l.map g).all id=false
 |y::l,x,h,hx=>by
  rw[YJ,XQ];rcases ZZ.1 h with rfl | h
  ·show(g x&&_)=false;rw[hx];rfl
  ·rw[Do g h hx,Bool.and_false]
def enX:Nat->List D->List (Nat×D)
 |_,[]=>[]
 |n,x::l=>(n,x)::enX (n+1) l
def tupX(x:Nat×D):D:=.tup [.int (x.1:Int),x.2]
theorem yM:∀(n:Nat) (l:List D),aX (n:Int) l=(enX n l).map tupX
 |_,[]=>rfl
 |n,x::l=>by
  rw[aX,enX,YJ,←yM (n+1) l];rfl
theorem Am:∀(n:Nat) (l:List D) (i:Nat) (x:D),l[i]?=some x->(n+i,x)∈enX n l
 |n,y::l,0,x,h=>by cases h;exact ZX
 |n,y::l,i+1,x,h=>by
  have:=Am (n+1) l i x (by simpa using h)
  rw[show n+(i+1)=n+1+i by omega];exact ZY _ this
theorem Dp:∀(n:Nat) (l:List D) (y:Nat×D),y∈enX n l->y.2∈l
 |n,x::l,y,h=>by
  rcases ZZ.1 h with rfl | h
  ·exact ZX
  ·exact ZY _ (Dp (n+1) l y h)
theorem rd_bad (j:cn.T S "how_many" = some (cE c S)) (k:cn.F.getD 2 Yl = spIsPaperX c S) (h:Fl c S ds M Q):wSs cn bG (fin Q) (ad ["","","",""] ds) M:=by
  obtain ⟨a,m,a_,told,x,rfl,A,hx,q⟩:=h
  show wSs cn bG (fin Q) [some (.ref a),some (.int (told:Int)),some x,none] M
  obtain ⟨ok,k_,C,G,J,z_,x_,B',l,-⟩:=id A
  rcases hx with ⟨t,ht,hf⟩ | ⟨b,xs,rfl,hb,hx⟩
  · unfold bG
    simp! only [List.set,ht,hf,Bool.not_false]
    exact ⟨by decide,q M (Ext.refl _)⟩
  unfold bG
  simp! only [List.set,tyD,tysD,hb,l,f6,j]
  refine ⟨by decide,?_⟩
  rw [show isT "list" "list" = true by decide]
  simp only [Bool.not_true,ag]
  refine ⟨trivial,a,m,a_,rfl,A,?_⟩
  refine ⟨⟨rfl,rfl,(by decide:(0:Nat)<=30)⟩,?_⟩
  rw [ae]
  by_cases hl:xs.length = m
  case neg=>
    rw [beq_false_of_ne (by omega:((xs.length:Nat):Int) ≠ (m:Int))]
    simp only [Bool.not_false,aH]
    exact q M (Ext.refl _)
  rw [hl,XF]
  simp only [Bool.not_true,ag]
  rcases hx with hx | ⟨hok,f,y,hfy,hbad⟩
  · exact absurd hl hx
  have n:∀ (z:Nat × D) (M5:MH) (K:DK),z ∈ enX 0 xs->Ext M M5->K (.bl (cM a_ z.1 z.2)) M5->wE cn (.fn 2 (.cons (.var 0) (.cons (.var 4) (.cons (.var 5) .nil)))) [some (.ref a),some (.int (told:Int)),some (.ref b),none,some (.int (z.1:Int)),some z.2] M5 K:=by
    intro z M5 K hz d hK
    simp! only [k]
    exact ⟨a,m,a_,z.1,z.2,rfl,A.ext d,(hok _ (Dp 0 xs z hz)).ext d,hK⟩
  have go:∀ (F:List D->MH->Prop),(∀ M5,Ext M M5->F ((enX 0 xs).map λz=>D.bl (cM a_ z.1 z.2)) M5)->∀ (rest g:List (Nat × D)) (v w:Zz) (M5:MH),Ext M M5->enX 0 xs = g ++ rest ->
      ar (λM'=>M' b = some (.lst xs)) (.tp [4,5]) (λ_ M Q=>Q true M) (wE cn (.fn 2 (.cons (.var 0) (.cons (.var 4) (.cons (.var 5) .nil))))) F (rest.map tupX) (g.map λz=>D.bl (cM a_ z.1 z.2)) [some (.ref a),some (.int (told:Int)),some (.ref b),none,v,w] M5:=by
    intro F o rest
    induction rest with
    | nil=>
      intro g v w M5 d hx
      rw [ZA] at hx
      rw [YZ,ar,← hx]
      exact o M5 d
    | cons z rest p=>
      intro g v w M5 d hx
      rw [YJ,ar]
      refine ⟨rfl,?_⟩
      refine n z M5 _ (by rw [hx]; simp) d ⟨d _ _ hb,?_⟩
      have:=p (g ++ [z]) (some (.int (z.1:Int))) (some z.2) M5 d (by rw [hx]; simp)
      rw [ZK] at this
      exact this
  unfold gT
  simp! only [List.set,List.cons_append,XD,List.replicate,hb]
  rw [show (0:Int) = ((0:Nat):Int) from rfl,yM]
  refine go _ ?_ (enX 0 xs) [] none none M (Ext.refl _) rfl
  intro M1 r p1 u
  rw [aa]
  simp only [SW.bls_of]
  have hm:=Am 0 xs f y hfy
  rw [Nat.zero_add] at hm
  have B:=Do (λz:Nat × D=>cM a_ z.1 z.2) hm hbad
  rw [B]
  simp only [Bool.not_false,aH]
  exact q _ (r.then u)
end
def fV:Ss:=#v[.ret (.comp 2 (.tup #v[.var 1,.bi .tuple #v[.comp 1 (.mu0 "shown" (.var 3)) (.nm 3) (.seq (.var 2)) .no]]) (.tp [1,2]) (.zip #v[.fld (.var 0) "heads",.fld (.var 0) "conds"]) .no)]
def rowD(r:Row):D:=.tup [.int (r.1:Int),.tup (r.2.map CT.told)]
def spRowList(c:CA)(S:Addr):SpD:=λds M Q=>∃(a:Addr) (m:Nat) (a_:Zy),ds=[.ref a]/\SheetAt c S M a m a_/\∀p M',M p=none->Ext M M'->M' p=some (.lst (a_.map rowD))->Q (.ref p) M'
theorem EX(t:CT):t.flds.lookup ("shown" : Str)=none:=by cases t<;>rfl
section
variable {cn:Cn}{ds:List D}{M:MH}{Q:DK}{c:CA}{S:Addr}
theorem rd_row_list(C:∀f∈fX,cn.O S f)(L:∀t:CT,cn.T (c.at t.kind) "shown" = some (cu c t.kind))(h:spRowList c S ds M Q):wSs cn fV (fin Q) (ad [""] ds) M:=by
 obtain⟨a,m,a_,rfl,A,q⟩:=h;show wSs cn fV (fin Q) [some (.ref a)] M;obtain⟨ok,k_,p1,p2,p3,z_,x_,B',P,G,-⟩:=id A;have one:∀(t:CT) (r:Addr) (σ:DS) (M5:MH) (K:DK),σ[3]?=some (some (.ref r))->M5 r=some (t.obj c)->K t.told M5->wE cn (.mu0 "shown" (.var 3)) σ M5 K:=by
  intro t r σ M5 K R d hK;have d:M5 r=some (.ins (c.at t.kind) t.flds):=d;simp! only[R,d,EX,L];exact⟨trivial,r,t,rfl,rfl,d,hK⟩
 have j:∀(F:List D->MH->Prop) (rs:Zh) (ts b:List CT) (J k l o:Zz) (M5:MH),bF c M5 rs ts->F ((b++ts).map CT.told) M5->ar (λ_=>True) (.nm 3) (λ_ M Q=>Q true M) (wE cn (.mu0 "shown" (.var 3))) F (af rs) (b.map CT.told) [J,k,l,o] M5:=by
  intro F rs ts b J k l o M5 hc;induction hc generalizing b o with
  |nil=>
   intro h;rw[ZA] at h;rw[show af []=[] from rfl,ar];exact h
  |@cons r t rs ts d _ z=>
   intro h;rw[show af (r::rs)=.ref r::af rs from rfl,ar];simp only[rj,List.set,aH];refine one t r _ M5 _ rfl d ⟨trivial,?_⟩
   have:=z (b++[t]) (some (.ref r)) (by simpa using h)
   simpa using this
 have B:∀(h:Nat) (rs:Zh) (ts:List CT) (o U:Zz) (M5:MH) (K:DK),bF c M5 rs ts->(∀g,Ext M5 g->K (rowD (h,ts)) g)->wE cn (.tup (.cons (.var 1) (.cons (.bi .tuple (.cons (.comp 1 (.mu0 "shown" (.var 3)) (.nm 3) (.seq (.var 2)) .no) .nil)) .nil))) [some (.ref a),some (.int (h:Int)),some (.tup (af rs))] M5 K:=by
  intro h rs ts o U M5 K hc hK;simp! only[];refine j _ rs ts [] _ _ _ none M5 hc λw hw=>?_
  rw[aa];simp only[rdL];exact hK _ (Ext.new hw)
 have outer:∀(F:List D->MH->Prop) (k_:Zt) (n b:Zy) (k l:Zz) (M5:MH),eM c M k_ n->Ext M M5->(∀g,Ext M g->F ((b++n).map rowD) g) ->
   ar (λ_=>True) (.tp [1,2]) (λ_ M Q=>Q true M) (wE cn (.tup (.cons (.var 1) (.cons (.bi .tuple (.cons (.comp 1 (.mu0 "shown" (.var 3)) (.nm 3) (.seq (.var 2)) .no) .nil)) .nil)))) F (zipD (nats (aE n)) (aQ k_)) (b.map rowD) [some (.ref a),k,l] M5:=by
  intro F k_ n b k l M5 hc;induction hc generalizing b k l M5 with
  |nil=>
   intro u h;rw[ZA] at h;show ar _ _ _ _ F [] _ _ M5;rw[ar];exact h M5 u
  |@cons rs x k_ n d _ z=>
   intro u h;show ar _ _ _ _ F (.tup [.int (x.1:Int),.tup (af rs)]::zipD (nats (aE n)) (aQ k_)) _ _ M5;rw[ar];refine⟨rfl,?_⟩;refine B x.1 rs x.2 none none M5 _ (d.ext u) λg y=>⟨trivial,?_⟩
   have:=z (b++[x]) (some (.int (x.1:Int))) (some (.tup (af rs))) g (u.trans y) (λV W=>by simpa using h V W)
   rw[ZK] at this;exact this
 unfold fV;simp! only[wZip,P,sG,yp];refine⟨C _ 'f',C _ 'f',?_,?_⟩
 ·have:=lw G
  unfold nats aE aQ;rw[ZE,ZE,ZE,this]
 exact outer _ k_ a_ [] none none M G (Ext.refl _) λg y p hp=>q p _ (y.free hp) (y.then hp) aa
end
end SW
namespace SW
open PySem L2 DD
open SH
open SQ (bc Box1 ix0 uP)
def iZ:Ss:=#v[.ret (.ix (.var 7) (.fn 0 #v[.var 0,.int 17]))]
def i3:Ss:=.cons (.set 7 (.bin .Add (.var 7) (.lst #v[.tup #v[.str "true",.int 0,.int 1,.non],.tup #v[.str "true",.int 1,.int 0,.non],.tup #v[.str "open",.int 1,.non],.tup #v[.str "false",.int 1,.int 0],.tup #v[.str "true",.int 1]]))) iZ
def i6:Ss:=.cons (.set 7 (.bin .Add (.var 7) (.lst #v[.tup #v[.str "true",.var 6,.int 1,.var 5],.tup #v[.str "true",.int 1,.var 6,.var 5],.tup #v[.str "false",.var 6],.tup #v[.str "open",.var 6,.var 5],.tup .nil]))) i3
def i7:Ss:=.cons (.set 7 (.lst #v[.var 6,.bk .list #v[.var 3],.sl (.var 3) .no (.yes (.neg (.int 1))),.bin .Add (.var 3) (.tup #v[.int 0]),.bin .Add (.tup #v[.str "none"]) (.sl (.var 3) (.yes (.int 1)) .no),.tup #v[.str "true",.int 1,.int 1,.var 5],.tup #v[.str "open",.int 1,.var 5]])) i6
def i8:Ss:=.cons (.set 6 (.ix (.lst #v[.bl true,.non,.str "1",.lst #v[.int 1],.tup #v[.int 1],.dnew,.bl false,.str "",.lst #v[.str "true"]]) (.fn 0 #v[.var 0,.int 9]))) i7
def i9:Ss:=.cons (.set 5 (.ix (.var 4) (.fn 0 #v[.var 0,.bi .len #v[.var 4]]))) i8
def ir_law_wrong_paper:Ss:=.cons (.set 4 (.bin .Add (.comp 2 (.var 8) (.tp [8,9]) (.enum #v[.var 1]) (.yes (.cmp .NotEq (.ix (.var 9) (.int 0)) (.var 2)))) (.lst #v[.bi .len #v[.var 1],.neg (.int 1),.bin .Add (.bi .len #v[.var 1]) (.int 7)]))) i9
def _root_.SH.Pap.L:Pap->List D
 |.told=>[.str "true",.int 0,.int 0,.non]
 |.tru i s r=>[.str "true",.int (i:Int),.int (s:Int),.int (r:Int)]
 |.fls i=>[.str "false",.int (i:Int)]
 |.opn s r=>[.str "open",.int (s:Int),.int (r:Int)]
theorem D_L(q:Pap):q.D=.tup q.L:=by cases q<;>rfl
def TyLe(M M':MH):Prop:=∀x t,tyD x M=some t->tyD x M'=some t
theorem Ext.ty{M M':MH}(e:Ext M M'):TyLe M M':=λ_ _ h=>Dn e h
theorem yN{M:MH}{p:Addr}{xs ys:List D}(h:M p=some (.lst xs)):TyLe M (updM M p (.lst ys)):=λx t hx=>by
 cases x with
 |ref a=>
  by_cases c:a=p
  ·subst c
   have hx:(match M a with | some (MO.lst _)=>some "list" | some (MO.dic _)=>some "dict" | _=>none)=some t:=hx;rw[h] at hx;show(match updM M a (.lst ys) a with | some (MO.lst _)=>some "list" | some (MO.dic _)=>some "dict" | _=>none)=some t;rw[aa];exact hx
  ·show(match updM M p (.lst ys) a with | some (MO.lst _)=>some "list" | some (MO.dic _)=>some "dict" | _=>none)=some t
   rw[ay c];exact hx
 |_=>exact hx
theorem TyLe.some{M M':MH}{x:D}(e:TyLe M M')(h:(tyD x M).isSome=true):(tyD x M').isSome=true:=by
 obtain⟨t,ht⟩:=YQ.1 h;rw[e x t ht];rfl
theorem df.le{M M':MH}{x:D}(e:TyLe M M')(h:df M x):df M' x:=by
 cases x with
 |tup ds=>
  rcases h with h | ⟨w,y,r,h1,h2,h3⟩
  ·exact .inl h
  ·exact .inr ⟨w,y,r,h1,λz hz=>e.some (h2 z hz),h3⟩
 |_=>exact e.some h
def Gd(M:MH)(a_:Zy)(f:Nat)(x:D):Prop:=df M x/\cM a_ f x=false
theorem Gd.le{M M':MH}{a_:Zy}{f:Nat}{x:D}(e:TyLe M M')(h:Gd M a_ f x):Gd M' a_ f x:=⟨h.1.le e,h.2⟩
def Th(M:MH)(a_:Zy)(f:Nat)(x:D):Prop:=(tyD x M).isSome=true/\(∀i,x≠.int i)/\Gd M a_ f x
theorem Th.le{M M':MH}{a_:Zy}{f:Nat}{x:D}(e:TyLe M M')(h:Th M a_ f x):Th M' a_ f x:=⟨e.some h.1,h.2.1,h.2.2.le e⟩
section
variable {M:MH}{a_:Zy}{f:Nat}
theorem uS{w:Str}{i:Int}{r:List D}:cM a_ f (.tup (.str w::.int i::r))=(if w == "false" then r.isEmpty else if w == "open" then xm a_ f r else if w == "true" then uR a_ f i r else false):=rfl
theorem Fm{x:D}(h:(tyD x M).isSome=true)(hi:∀i,x≠.int i)(ht:∀ds,x≠.tup ds):Th M a_ f x:=by
 refine⟨h,hi,?_,?_⟩
 ·cases x with
  |tup ds=>exact absurd rfl (ht ds)
  |_=>exact h
 ·cases x with
  |tup ds=>exact absurd rfl (ht ds)
  |_=>rfl
theorem IW:Th M a_ f (.tup [.int 1]):=⟨rfl,λi z=>(by cases z),.inl 'a',rfl⟩
theorem qO{w:Str}{x:D}{r:List D}(h:(tyD x M).isSome=true)(hi:∀i,x≠.int i)(a:∀z∈r,∃k,z=.int k):Gd M a_ f (.tup (.str w::x::r)):=by
 refine⟨.inr ⟨w,x,r,rfl,λz hz=>?_,λu z e=>?_⟩,?_⟩
 ·rcases ZZ.1 hz with rfl | hz
  ·exact h
  ·obtain⟨k,rfl⟩:=a z hz;rfl
 ·subst e
  obtain⟨k,rfl⟩:=a z (by simp);exact⟨rfl,rfl⟩
 ·cases x with
  |int i=>exact absurd rfl (hi i)
  |_=>rfl
theorem vK{i s:Int}{z:D}(h:i≠0\/s≠0):eqD (.tup [.str "true",.int i,.int s,z]) Pap.told.D=false:=by
 show eqD (.tup [.str "true",.int i,.int s,z]) (.tup [.str "true",.int 0,.int 0,.non])=false;rw[eqD,eqDs,eqDs,eqDs,ae,ae];rcases h with h | h
 ·rw[beq_false_of_ne h];simp
 ·rw[beq_false_of_ne h];simp
theorem EY {x:D} {k:Int} (h:(tyD x M).isSome = true) (hi:∀ i,x ≠ .int i):Gd M a_ f (.tup [.str "true",.int 1,x,.int k]):=by
  refine ⟨.inr ⟨_,_,_,rfl,λz hz=>?_,λu z e=>?_⟩,?_⟩
  · rcases ZZ.1 hz with rfl | hz
    · rfl
    rcases ZZ.1 hz with rfl | hz
    · exact h
    · rw [XN.1 hz]; rfl
  · cases e; exact ⟨rfl,rfl⟩
  · rw [uS,w_tf,w_to,w_tt]
    cases x with
    | int i=>exact absurd rfl (hi i)
    | _=>rfl
def flat:D->Bool
 |.int _=>true
 |.non=>true
 |.bl _=>true
 |_=>false
theorem aW{w:Str}{y:D}{r:List D}(h:(y::r).all flat=true)(hp:cM a_ f (.tup (.str w::y::r))=false):Gd M a_ f (.tup (.str w::y::r)):=by
 have hz:∀z∈y::r,flat z=true:=by rwa [XM] at h
 refine⟨.inr ⟨w,y,r,rfl,λz a=>?_,λu z e=>?_⟩,hp⟩
 ·have:=hz z a
  cases z<;>first | rfl | cases this
 ·subst e
  have:=hz z (by simp)
  cases z<;>first | exact⟨rfl,rfl⟩ | cases this
theorem dg{i:Int}{r:List D}:cM a_ f (.tup (.str "true" :: .int i::r))=uR a_ f i r:=by
 rw[uS,w_tf,w_to,w_tt];rfl
theorem ot{i:Int}{r:List D}:cM a_ f (.tup (.str "open" :: .int i::r))=xm a_ f r:=by
 rw[uS,w_of,w_oo];rfl
theorem yO{i:Int}{r:List D}:cM a_ f (.tup (.str "false" :: .int i::r))=r.isEmpty:=by
 rw[uS,w_ff];rfl
theorem w_nf:(("none" : Str) == "false")=false:=by rfl'
theorem w_no:(("none" : Str) == "open")=false:=by rfl'
theorem w_nt:(("none" : Str) == "true")=false:=by rfl'
theorem rO{y:D}{r:List D}:cM a_ f (.tup (.str "none" :: y::r))=false:=by
 cases y with
 |int i=>
  rw[uS,w_nf,w_no,w_nt];rfl
 |_=>rfl
theorem IX(q:Pap):Gd M a_ f (.tup (cutL q.L none (some (-1)))):=by
 cases q with
 |told=>exact aW (w:="true") (y:=.int 0) (r:=[.int 0]) rfl (by rw[dg];rfl)
 |tru i s r=>exact aW (w:="true") (y:=.int (i:Int)) (r:=[.int (s:Int)]) rfl (by rw[dg];rfl)
 |fls i=>exact⟨.inl (by show(1:Nat)<2;decide),rfl⟩
 |opn s r=>exact aW (w:="open") (y:=.int (s:Int)) (r:=[]) rfl (by rw[ot];rfl)
theorem G3(q:Pap):Gd M a_ f (.tup (q.L++[.int 0])):=by
 cases q with
 |told=>exact aW (w:="true") (y:=.int 0) (r:=[.int 0,.non,.int 0]) rfl (by rw[dg];rfl)
 |tru i s r=>exact aW (w:="true") (y:=.int (i:Int)) (r:=[.int (s:Int),.int (r:Int),.int 0]) rfl (by rw[dg];rfl)
 |fls i=>exact aW (w:="false") (y:=.int (i:Int)) (r:=[.int 0]) rfl (by rw[yO];rfl)
 |opn s r=>exact aW (w:="open") (y:=.int (s:Int)) (r:=[.int (r:Int),.int 0]) rfl (by rw[ot];rfl)
theorem G4(q:Pap):Gd M a_ f (.tup ([.str "none"]++cutL q.L (some 1) none)):=by
 cases q with
 |told=>exact aW (w:="none") (y:=.int 0) (r:=[.int 0,.non]) rfl rO
 |tru i s r=>exact aW (w:="none") (y:=.int (i:Int)) (r:=[.int (s:Int),.int (r:Int)]) rfl rO
 |fls i=>exact aW (w:="none") (y:=.int (i:Int)) (r:=[]) rfl rO
 |opn s r=>exact aW (w:="none") (y:=.int (s:Int)) (r:=[.int (r:Int)]) rfl rO
def spWrongPaper:SpD:=λds M Q=>∃(p R:Addr) (a:Int) (B:MH) (o_:List D) (a_:Zy) (m f:Nat) (q:Pap),ds=[.ref p,.ref R,.int (f:Int),q.D]/\M p=some (.lst [.int a])/\Ext B M/\B p=none/\B R=some (.lst o_)/\bq B o_ a_/\RowsOk m a_ /\
 ∀(x:D) M' b',Gd M' a_ f x->Box1 p M M' b'->Q x M'
theorem vL{k:Int}(h:k<0\/(a_.length:Int)<=k):ownB a_ f (.int k)=false:=by
 show(decide (0<=k)&&_)=false;by_cases c:0<=k
 ·rw[YV c,Bool.true_and,ZH 'b']
 ·rw[ZP c,YD]
theorem Dq{r:Nat}{x:Row}(h:a_[r]?=some x)(hx:x.1≠f):ownB a_ f (.int (r:Int))=false:=by
 show(decide (0<=(r:Int))&&(match a_[((r:Int)).toNat]? with | some r=>decide (r.1=f) | none=>false))=false;rw[YW,h,YV 'b'];exact ZP hx
theorem xo{i s:Int}{x:D}:uR a_ f i [.int s,x]=(eqD (.tup [.str "true",.int i,.int s,x]) Pap.told.D||ownB a_ f x):=rfl
theorem IY{M:MH}{a_:Zy}{f:Nat}{q:Pap}{a:D}{k:Int}{l4:Addr}(ht:Th M a_ f a)(hk:ownB a_ f (.int k)=false)(b:∃xs,M l4=some (.lst xs)):
  ∀x∈[a,.ref l4,.tup (cutL q.L none (some (-1))),.tup (q.L++[.int 0]),.tup ([.str "none"]++cutL q.L (some 1) none),.tup [.str "true",.int 1,.int 1,.int k],.tup [.str "open",.int 1,.int k]]++[.tup [.str "true",a,.int 1,.int k],.tup [.str "true",.int 1,a,.int k],.tup [.str "false",a],.tup [.str "open",a,.int k],.tup []]++[.tup [.str "true",.int 0,.int 1,.non],.tup [.str "true",.int 1,.int 0,.non],.tup [.str "open",.int 1,.non],.tup [.str "false",.int 1,.int 0],.tup [.str "true",.int 1]],Gd M a_ f x:=by
 intro x hx;simp only[List.cons_append,XD,ZZ,List.not_mem_nil,or_false] at hx;have c:∀z∈([.int k]:List D),∃j,z=D.int j:=λz hz=>⟨k,XN.1 hz⟩
 rcases hx with rfl | rfl | rfl | rfl | rfl | rfl | rfl | rfl | rfl | rfl | rfl | rfl | rfl | rfl | rfl | rfl | rfl
 ·exact ht.2.2
 ·obtain⟨xs,b⟩:=b
  exact(Fm (x:=.ref l4) (by show(match M l4 with | some (MO.lst _)=>some "list" | some (MO.dic _)=>some "dict" | _=>none:Option String).isSome=true;rw[b];rfl) (λi z=>(by cases z)) (λi z=>(by cases z))).2.2
 ·exact IX q
 ·exact G3 q
 ·exact G4 q
 ·exact aW rfl (by rw[dg];rw[xo,vK (.inl 'a'),hk];rfl)
 ·exact aW rfl (by rw[ot];exact hk)
 ·exact qO ht.1 ht.2.1 λz hz=>by
   rcases ZZ.1 hz with rfl | hz
   ·exact⟨1,rfl⟩
   ·exact c z hz
 ·exact EY ht.1 ht.2.1
 ·exact qO ht.1 ht.2.1 λz hz=>nomatch hz
 ·exact qO ht.1 ht.2.1 c
 ·exact⟨.inl 'a',rfl⟩
 ·exact aW rfl (by rw[dg];rw[xo,vK (.inr 'a')];rfl)
 ·exact aW rfl (by rw[dg];rw[xo,vK (.inl 'a')];rfl)
 ·exact aW rfl (by rw[ot];rfl)
 ·exact aW rfl (by rw[yO];rfl)
 ·exact aW rfl (by rw[dg];rfl)
end
theorem jJ(l:Zj):(nats l).length=l.length:=ZE ..
theorem mn{l:List D}{v:Nat}(h:v<l.length):∃x,atI l (v:Int)=some x/\x∈l:=⟨l[v],bW (ZC h),List.getElem_mem h⟩
section
variable {cn:Cn}{ds:List D}{M:MH}{Q:DK}
theorem rd_wrong_paper(f0:cn.F.getD 0 Yl=bc)(h:spWrongPaper ds M Q):wSs cn ir_law_wrong_paper (fin Q) (ad ["","","","","","","",""] ds) M:=by
 obtain⟨p,R,b0,B,o_,a_,m,f,q,rfl,hp,eB,Pj,hR,A,ok,Qq⟩:=h;rw[D_L];show wSs cn ir_law_wrong_paper (fin Q) [some (.ref p),some (.ref R),some (.int (f:Int)),some (.tup q.L),none,none,none,none] M;have hsz:(2000:Nat)<sizeLine:=by decide
 have Yw:=ok.few;have Qi:=eB _ _ hR;have A1:=A.ext eB
 -- the numbers of other facts' a_
 have WX:∀(F:List D->MH->Prop),∀(J:List D) (G:Zy) (n:Nat) (e_:Zj) (v w:Zz),bq M J G->(∀(i:Nat) (x:Row),G[i]?=some x->a_[n+i]?=some x)->(∀r∈e_,ownB a_ f (.int (r:Int))=false)->e_.length<=n->(∀l:List Nat,(∀r∈l,ownB a_ f (.int (r:Int))=false)->l.length<=n+G.length->F (nats l) M) ->
   ar (λM'=>M' R=some (.lst o_)) (.tp [8,9]) (wTo cn (.yes (.cmp .NotEq (.ix (.var 9) (.int 0)) (.var 2)))) (wE cn (.var 8)) F (aX (n:Int) J) (nats e_) [some (.ref p),some (.ref R),some (.int (f:Int)),some (.tup q.L),none,none,none,none,v,w] M:=by
  intro F J;induction J with
  |nil=>
   intro G n e_ v w T _ ha hl h;cases T;rw[aX,ar];exact h e_ ha hl
  |cons d J ih=>
   intro G n e_ v w T hi ha hl h;cases T with
   |@cons _ x _ G r' T=>
   obtain⟨q',rfl,KN⟩:=r';have h0:=hi 0 x rfl;rw[Nat.add_zero] at h0;rw[aX,ar];refine⟨rfl,?_⟩;simp_all! only[setM,List.set,at0];have nx:∀U:List Nat,(∀r∈U,ownB a_ f (.int (r:Int))=false)->U.length<=n+1->ar (λM'=>M' R=some (.lst o_)) (.tp [8,9]) (wTo cn (.yes (.cmp .NotEq (.ix (.var 9) (.int 0)) (.var 2)))) (wE cn (.var 8)) F (aX ((n:Int)+1) J) (nats U) [some (.ref p),some (.ref R),some (.int (f:Int)),some (.tup q.L),none,none,none,none,some (.int (n:Int)),some (.tup [.int (x.1:Int),.ref q'])] M:=λU WY WZ=>by
    have:=ih G (n+1) U (some (.int (n:Int))) (some (.tup [.int (x.1:Int),.ref q'])) T (λi y hy=>by
     have:=hi (i+1) y (by simpa using hy)
     rwa [show n+(i+1)=n+1+i by omega] at this) WY WZ (λl h1 h2=>h l h1 (by rw[YH];omega))
    exact this
   by_cases c:x.1=f
   ·rw[show((x.1:Int)==(f:Int))=true by rw[c];exact XF _]
    exact⟨Qi,nx e_ ha 'b'⟩
   ·rw[show((x.1:Int)==(f:Int))=false from beq_false_of_ne 'b']
    refine⟨Qi,?_⟩
    have:=nx (e_++[n]) (λr V=>?_) (by rw[ZJ,List.length_singleton];omega)
    ·rw[show nats (e_++[n])=nats e_++[.int (n:Int)] by unfold nats;rw[ZK];rfl] at this
     exact this
    ·rcases YA.1 V with z | z
     ·exact ha r z
     ·rw[XN.1 z];exact Dq h0 c
 unfold ir_law_wrong_paper;simp! only[List.set,List.cons_append,XD,List.replicate,Qi];refine WX _ o_ a_ 0 [] none none A1 (λi x hx=>by rw[Nat.zero_add];exact hx) (λr V=>nomatch V) (YE _) λl Qj P5=>?_
 intro w1 Sd;have e1:Ext M (updM M w1 (.lst (nats l))):=Ext.new Sd;have g1:updM M w1 (MO.lst (nats l)) w1=some (.lst (nats l)):=aa;generalize updM M w1 (MO.lst (nats l))=M1 at *;simp only[e1 _ _ Qi];have Ny:o_.length=a_.length:=lw A1;intro w2 UZ;have e2:Ext M1 (updM M1 w2 (.lst [.int ((o_.length:Nat):Int),.int (-1),.int (((o_.length:Nat):Int)+7)])):=Ext.new UZ;have g2:updM M1 w2 (MO.lst [.int ((o_.length:Nat):Int),.int (-1),.int (((o_.length:Nat):Int)+7)]) w2=some (.lst [.int ((o_.length:Nat):Int),.int (-1),.int (((o_.length:Nat):Int)+7)]):=aa;generalize updM M1 w2 (MO.lst [.int ((o_.length:Nat):Int),.int (-1),.int (((o_.length:Nat):Int)+7)])=M2 at *;simp only[e2 _ _ g1,g2];refine⟨by rw[jJ];simp only[YH,YU];omega,λK Oa=>?_⟩;obtain⟨L,hLe⟩:∃L,L=nats l++[D.int ((o_.length:Nat):Int),.int (-1),.int (((o_.length:Nat):Int)+7)]:=⟨_,rfl⟩;rw[←hLe];have U0:∀e∈L,∃k,e=.int k/\ownB a_ f (.int k)=false:=λe W=>by
  rw[hLe] at W;rcases YA.1 W with z | z
  ·obtain⟨r,V,rfl⟩:=XV.1 z
   exact⟨_,rfl,Qj r V⟩
  ·simp only[ZZ,List.not_mem_nil,or_false] at z
   rcases z with rfl | rfl | rfl
   ·exact⟨_,rfl,vL (.inr 'b')⟩
   ·exact⟨_,rfl,vL (.inl 'a')⟩
   ·exact⟨_,rfl,vL (.inr 'b')⟩
 have U1:0<L.length/\L.length<=500:=by
  rw[hLe,ZJ,jJ];simp only[YH,YU];omega
 have e3:Ext M2 (updM M2 K (.lst L)):=Ext.new Oa;have g3:updM M2 K (MO.lst L) K=some (.lst L):=aa;generalize updM M2 K (MO.lst L)=M3 at *;have X3:Box1 p M M3 b0:=(⟨ExtBut.refl _ _,hp⟩:Box1 p M M b0).ext (e1.trans (e2.trans e3));have NM:K≠p:=λz=>aR (e2 _ _ (e1 _ _ hp)) Oa z.symm
 clear e1 g1 Sd e2 g2 UZ e3 Oa;unfold i9;simp! only[List.set,g3,f0];refine⟨p,b0,L.length,rfl,X3.at_,⟨U1.1,by omega⟩,λv4 b4 W0=>?_⟩;obtain⟨e,W,Lz⟩:=mn W0;obtain⟨k,rfl,hk⟩:=U0 e Lz;have X4:=X3.draw b4;have g4:updM M3 p (MO.lst [.int b4]) K=some (.lst L):=by rw[ay NM];exact g3
 generalize updM M3 p (MO.lst [.int b4])=Y at *;simp only[g4,W];clear X3 g3 g4 W Lz U0 U1 hLe;unfold i8;simp! only[List.set,f0];intro Z L4;have e5:Ext Y (updM Y Z (.lst [.int 1])):=Ext.new L4;have g5:updM Y Z (MO.lst [.int 1]) Z=some (.lst [.int 1]):=aa;generalize updM Y Z (MO.lst [.int 1])=M5 at *;intro x2 Lu;have e6:Ext M5 (updM M5 x2 (.dic [])):=Ext.new Lu;have g6:updM M5 x2 (MO.dic []) x2=some (.dic []):=aa;generalize updM M5 x2 (MO.dic [])=M6 at *;intro x3 ML;have e7:Ext M6 (updM M6 x3 (.lst [.str "true"])):=Ext.new ML;have g7:updM M6 x3 (MO.lst [.str "true"]) x3=some (.lst [.str "true"]):=aa;generalize updM M6 x3 (MO.lst [.str "true"])=M7 at *;intro O Sg;obtain⟨C,hL9⟩:∃C,C=[D.bl true,.non,.str "1",.ref Z,.tup [.int 1],.ref x2,.bl false,.str "",.ref x3]:=⟨_,rfl⟩;rw[←hL9];have e8:Ext M7 (updM M7 O (.lst C)):=Ext.new Sg;have g8:updM M7 O (MO.lst C) O=some (.lst C):=aa;generalize updM M7 O (MO.lst C)=u at *;have U2:Ext Y u:=e5.trans (e6.trans (e7.trans e8));have X8:=X4.ext U2;have Sh:O≠p:=λz=>aR (e7 _ _ (e6 _ _ (e5 _ _ X4.at_))) Sg z.symm
 have tl:∀{a:Addr}{xs:List D},u a=some (.lst xs)->(tyD (.ref a) u).isSome=true:=λ{a xs} h=>by
  show(match u a with | some (MO.lst _)=>some "list" | some (MO.dic _)=>some "dict" | _=>none:Option String).isSome=true;rw[h];rfl
 have td:∀{a:Addr}{xs:ZB},u a=some (.dic xs)->(tyD (.ref a) u).isSome=true:=λ{a xs} h=>by
  show(match u a with | some (MO.lst _)=>some "list" | some (MO.dic _)=>some "dict" | _=>none:Option String).isSome=true;rw[h];rfl
 have Pk:∀x∈C,Th u a_ f x:=λx hx=>by
  rw[hL9] at hx;simp only[ZZ,List.not_mem_nil,or_false] at hx;have no:∀{x:D},(tyD x u).isSome=true->(match x with | .int _=>False | .tup _=>False | _=>True)->Th u a_ f x:=λ{x} h1 h2=>Fm h1 (λi z=>by subst z;exact h2) (λi z=>by subst z;exact h2)
  rcases hx with rfl | rfl | rfl | rfl | rfl | rfl | rfl | rfl | rfl
  ·exact no rfl trivial
  ·exact no rfl trivial
  ·exact no rfl trivial
  ·exact no (tl (e8 _ _ (e7 _ _ (e6 _ _ g5)))) trivial
  ·exact IW
  ·exact no (td (e8 _ _ (e7 _ _ g6))) trivial
  ·exact no rfl trivial
  ·exact no rfl trivial
  ·exact no (tl (e8 _ _ g7)) trivial
 have h9:C.length=9:=by rw[hL9];rfl
 refine⟨p,b4,9,rfl,X8.at_,⟨by decide,by decide⟩,λv9 b9 Yx=>?_⟩;obtain⟨P,K5,Qb⟩:=mn (l:=C) (v:=v9) 'b';have ht:=(Pk P Qb).le (yN (ys:=[.int b9]) X8.at_);have X9:=X8.draw b9;have g9:updM u p (MO.lst [.int b9]) O=some (.lst C):=by rw[ay Sh];exact g8
 generalize updM u p (MO.lst [.int b9])=M9 at *;simp only[g9,K5];clear Pk tl td hL9 h9 K5 Qb g9 g8 X8 U2 e8 g7 e7 g6 e6 g5 e5 L4 Lu ML Sg;have Sj:0<q.L.length/\q.L.length<=4:=by cases q<;>simp[SH.Pap.L]
 have W2:q.L≠[]:=λz=>by rw[z] at Sj;exact absurd Sj.1 'a'
 have Yy:(cutL q.L (some 1) none).length<=4:=by unfold cutL;rw[YS,YX];omega
 unfold i7;simp! only[dBk,dD,List.set];intro l4 W3;have ea:Ext M9 (updM M9 l4 (.lst q.L)):=Ext.new W3;have ga:updM M9 l4 (MO.lst q.L) l4=some (.lst q.L):=aa;generalize updM M9 l4 (MO.lst q.L)=Ma at *;refine⟨⟨W2,by simp only[YH,YU];omega⟩,⟨by simp,by simp only[YH,YU];omega⟩,λw7 Qk=>?_⟩;obtain⟨g,hL7⟩:∃g,g=[P,.ref l4,.tup (cutL q.L none (some (-1))),.tup (q.L++[.int 0]),.tup ([.str "none"]++cutL q.L (some 1) none),.tup [.str "true",.int 1,.int 1,.int k],.tup [.str "open",.int 1,.int k]]:=⟨_,rfl⟩;rw[←hL7];have eb:Ext Ma (updM Ma w7 (.lst g)):=Ext.new Qk;have gb:updM Ma w7 (MO.lst g) w7=some (.lst g):=aa;generalize updM Ma w7 (MO.lst g)=Mb at *;have l7:g.length=7:=by rw[hL7];rfl
 unfold i6;simp! only[List.set];intro u1 Ql;obtain⟨j,hL5⟩:∃j,j=[D.tup [.str "true",P,.int 1,.int k],.tup [.str "true",.int 1,P,.int k],.tup [.str "false",P],.tup [.str "open",P,.int k],.tup []]:=⟨_,rfl⟩;rw[←hL5];have ec:Ext Mb (updM Mb u1 (.lst j)):=Ext.new Ql;have gc:updM Mb u1 (MO.lst j) u1=some (.lst j):=aa;generalize updM Mb u1 (MO.lst j)=Mc at *;have l5:j.length=5:=by rw[hL5];rfl
 simp only[ec _ _ gb,gc];refine⟨by omega,λu2 Sk=>?_⟩;have ed:Ext Mc (updM Mc u2 (.lst (g++j))):=Ext.new Sk;have gd:updM Mc u2 (MO.lst (g++j)) u2=some (.lst (g++j)):=aa;generalize updM Mc u2 (MO.lst (g++j))=Md at *;unfold i3;simp! only[List.set];intro u3 Qm;obtain⟨o,hL6⟩:∃o,o=[D.tup [.str "true",.int 0,.int 1,.non],.tup [.str "true",.int 1,.int 0,.non],.tup [.str "open",.int 1,.non],.tup [.str "false",.int 1,.int 0],.tup [.str "true",.int 1]]:=⟨_,rfl⟩;rw[←hL6];have ee:Ext Md (updM Md u3 (.lst o)):=Ext.new Qm;have ge:updM Md u3 (MO.lst o) u3=some (.lst o):=aa;generalize updM Md u3 (MO.lst o)=Me at *;have l6:o.length=5:=by rw[hL6];rfl
 simp only[ee _ _ gd,ge];refine⟨by rw[ZJ];omega,λS Qn=>?_⟩;have ef:Ext Me (updM Me S (.lst (g++j++o))):=Ext.new Qn;have gf:updM Me S (MO.lst (g++j++o)) S=some (.lst (g++j++o)):=aa;generalize updM Me S (MO.lst (g++j++o))=Mf at *;have U3:Ext M9 Mf:=ea.trans (eb.trans (ec.trans (ed.trans (ee.trans ef))));have Xf:=X9.ext U3;have Sl:S≠p:=λz=>aR (ee _ _ (ed _ _ (ec _ _ (eb _ _ (ea _ _ X9.at_))))) Qn z.symm
 have Ks:=IY (q:=q) (l4:=l4) (ht.le (Ext.ty U3)) hk ⟨_,ef _ _ (ee _ _ (ed _ _ (ec _ _ (eb _ _ ga))))⟩;rw[←hL7,←hL5,←hL6] at Ks;have Yz:(g++j++o).length=17:=by rw[ZJ,ZJ];omega
 unfold iZ;simp! only[List.set,f0];refine⟨p,b9,17,rfl,Xf.at_,⟨by decide,by decide⟩,λv b hv=>?_⟩;obtain⟨x,hx,MR⟩:=mn (l:=g++j++o) (v:=v) 'b';have gz:updM Mf p (MO.lst [.int b]) S=some (.lst (g++j++o)):=by rw[ay Sl];exact gf
 simp only[gz,hx];exact Qq x _ b ((Ks x MR).le (yN Xf.at_)) (Xf.draw b)
end
def ja:Ss:=#v[.ret (.var 2)]
def m9:Ss:=.cons (.putIx (.var 2) (.var 4) (.bin .Add (.bin .Add (.sl (.ix (.var 1) (.var 4)) .no (.yes (.var 6))) (.tup #v[.cmp .Eq (.ix (.ix (.var 1) (.var 4)) (.var 6)) (.int 1)])) (.sl (.ix (.var 1) (.var 4)) (.yes (.bin .Add (.var 6) (.int 1))) .no))) ja
def na:Ss:=.cons (.set 6 (.ix (.var 5) (.fn 0 #v[.var 0,.bi .len #v[.var 5]]))) m9
def nb:Ss:=.cons (.setC 5 2 (.var 7) (.tp [7,8]) (.enum #v[.ix (.var 1) (.var 4)]) (.yes (.and (.cmp .Gt (.var 7) (.int 0)) (.cmp .In (.var 8) (.tup #v[.int 0,.int 1]))))) na
def ng:Ss:=.cons (.set 4 (.ix (.var 3) (.fn 0 #v[.var 0,.bi .len #v[.var 3]]))) nb
def nh:Ss:=.cons (.ite (.cmp .Eq (.var 3) (.lst .nil)) #v[.ret .non] .nil) ng
def ni:Ss:=.cons (.setC 3 2 (.var 7) (.tp [7,8]) (.enum #v[.var 1]) (.yes (.or (.cmp .In (.int 0) (.sl (.var 8) (.yes (.int 1)) .no)) (.cmp .In (.int 1) (.sl (.var 8) (.yes (.int 1)) .no))))) nh
def ir_law_truths:Ss:=.cons (.set 2 (.bk .list #v[.var 1])) ni
def rP(q:Pap):Bool:=inD (.int 0) (cutL q.L (some 1) none)||inD (.int 1) (cutL q.L (some 1) none)
def plc:Nat->List D->List Nat
 |_,[]=>[]
 |n,e::es=>if decide (0<n)&&inD e [.int 0,.int 1] then n::plc (n+1) es else plc (n+1) es
def putB(q:Pap)(j:Nat)(b:Bool):List D:=cutL q.L none (some (j:Int))++[.bl b]++cutL q.L (some ((j:Int)+1)) none
theorem uT(k:Int):inD (.int k) [.int 0,.int 1]=(decide (k=0)||decide (k=1)):=by
 unfold inD;rw[XH,XH,List.any_nil,ae,ae,Bool.or_false];congr 1<;>(rw[Bool.eq_iff_iff,beq_iff_eq,XR];omega)
theorem IZ:inD .non [.int 0,.int 1]=false:=by
 unfold inD;rw[XH,XH,List.any_nil];have h:∀k:Int,eqD (.int k) .non=false:=λk=>by rw[eqD]<;>(intros;contradiction)
 rw[h,h];rfl
theorem Ja {q:Pap} (h:rP q = true):plc 0 q.L ≠ []:=by
  have hi:∀ (k i:Int),eqD (.int i) (.int k) = true->i = k:=λk i z=>by rw [ae] at z; exact eq_of_beq z
  cases q with
  | told=>
    show plc 0 [.str "true",.int 0,.int 0,.non] ≠ []
    rw [plc,plc,uT]
    simp
  | tru i s r=>
    intro z
    have z:plc 0 [.str "true",.int (i:Int),.int (s:Int),.int (r:Int)] = []:=z
    simp only [plc,uT,ZS,decide_false,YD,XE,if_false] at z
    have h:(inD (.int 0) [.int (i:Int),.int (s:Int),.int (r:Int)] || inD (.int 1) [.int (i:Int),.int (s:Int),.int (r:Int)]) = true:=h
    simp only [inD,XH,List.any_nil,ae,Bool.or_false,XT,beq_iff_eq] at h
    split at z
    · cases z
    rename_i a
    split at z
    · cases z
    rename_i b
    split at z
    · cases z
    rename_i c
    simp only [YY,XT,XR] at a b c
    omega
  | fls i=>
    intro z
    have z:plc 0 [.str "false",.int (i:Int)] = []:=z
    simp only [plc,uT,ZS,decide_false,YD,XE,if_false] at z
    have h:(inD (.int 0) [.int (i:Int)] || inD (.int 1) [.int (i:Int)]) = true:=h
    simp only [inD,XH,List.any_nil,ae,Bool.or_false,XT,beq_iff_eq] at h
    split at z
    · cases z
    rename_i a
    simp only [YY,XT,XR] at a
    omega
  | opn s r=>
    intro z
    have z:plc 0 [.str "open",.int (s:Int),.int (r:Int)] = []:=z
    simp only [plc,uT,ZS,decide_false,YD,XE,if_false] at z
    have h:(inD (.int 0) [.int (s:Int),.int (r:Int)] || inD (.int 1) [.int (s:Int),.int (r:Int)]) = true:=h
    simp only [inD,XH,List.any_nil,ae,Bool.or_false,XT,beq_iff_eq] at h
    split at z
    · cases z
    rename_i a
    split at z
    · cases z
    rename_i b
    simp only [YY,XT,XR] at a b
    omega
theorem yP:∀(n:Nat) (l:List D) (j:Nat),j∈plc n l->0<j/\∃e,l[j-n]?=some e/\n<=j/\inD e [.int 0,.int 1]=true
 |n,e::l,j,h=>by
  rw[plc] at h;have rest:j∈plc (n+1) l->0<j/\∃e',(e::l)[j-n]?=some e'/\n<=j/\inD e' [.int 0,.int 1]=true:=λh=>by
   obtain⟨a,e',b,f,d⟩:=yP (n+1) l j h;refine⟨a,e',?_,by omega,d⟩;rw[show j-n=j-(n+1)+1 by omega];exact b
  split at h
  ·rename_i c
   rw[YY,XR] at c;rcases ZZ.1 h with rfl | h
   ·exact⟨c.1,e,by rw[Nat.sub_self];rfl,YE _,c.2⟩
   ·exact rest h
  ·exact rest h
theorem An:∀(n:Nat) (l:List D),(plc n l).length<=l.length
 |_,[]=>YE _
 |n,e::l=>by
  have:=An (n+1) l
  rw[plc];split
  ·rw[YH,YH];omega
  ·rw[YH];omega
theorem Ap{l:List D}{lo hi:Zq}:(cutL l lo hi).length<=l.length:=by
 unfold cutL;rw[YS,YX];omega
theorem G5{i s:Int}{b:Bool}:eqD (.tup [.str "true",.int i,.int s,.bl b]) Pap.told.D=false:=by
 show eqD (.tup [.str "true",.int i,.int s,.bl b]) (.tup [.str "true",.int 0,.int 0,.non])=false;have h:eqD (.bl b) .non=false:=by rw[eqD]<;>(intros;contradiction)
 rw[eqD,eqDs,eqDs,eqDs,eqDs,h];simp
theorem Jb{M:MH}{a_:Zy}{f:Nat}{q:Pap}{j:Nat}(b:Bool)(h:j∈plc 0 q.L):Gd M a_ f (.tup (putB q j b)):=by
 obtain⟨d,e,a,_,c⟩:=yP 0 q.L j h;rw[Nat.sub_zero] at a;have hl:=(YB.mp a).1;cases q with
 |told=>
  have hl:j<4:=hl;obtain rfl | rfl | rfl:j=1\/j=2\/j=3:=by omega
  ·exact aW (w:="true") (y:=.bl b) (r:=[.int 0,.non]) rfl rfl
  ·exact aW (w:="true") (y:=.int 0) (r:=[.bl b,.non]) rfl (by rw[dg];rfl)
  ·cases a
   rw[IZ] at c;cases c
 |tru i s r=>
  have hl:j<4:=hl;obtain rfl | rfl | rfl:j=1\/j=2\/j=3:=by omega
  ·exact aW (w:="true") (y:=.bl b) (r:=[.int (s:Int),.int (r:Int)]) rfl rfl
  ·exact aW (w:="true") (y:=.int (i:Int)) (r:=[.bl b,.int (r:Int)]) rfl (by rw[dg];rfl)
  ·exact aW (w:="true") (y:=.int (i:Int)) (r:=[.int (s:Int),.bl b]) rfl (by rw[dg,xo,G5];rfl)
 |fls i=>
  have hl:j<2:=hl;obtain rfl:j=1:=by omega
  exact aW (w:="false") (y:=.bl b) (r:=[]) rfl rfl
 |opn s r=>
  have hl:j<3:=hl;obtain rfl | rfl:j=1\/j=2:=by omega
  ·exact aW (w:="open") (y:=.bl b) (r:=[.int (r:Int)]) rfl rfl
  ·exact aW (w:="open") (y:=.int (s:Int)) (r:=[.bl b]) rfl (by rw[ot];rfl)
theorem Jc(q:Pap):aI (cutL q.L (some 1) none)=true/\aT (cutL q.L (some 1) none)<=30:=by
 cases q<;>exact⟨rfl,by show(0:Nat)<=30;decide⟩
def spTruths:SpD:=λds M Q=>∃(p b:Addr) (a:Int) (pps:ZO),ds=[.ref p,.ref b]/\M p=some (.lst [.int a])/\M b=some (.lst (pps.map Pap.D))/\b≠p/\pps.length<=120 /\
 ∀(x:D) M' b',(x=.non \/ ∃(fd:Addr) (f:Nat) (q:Pap) (j:Nat) (t:Bool),x=.ref fd/\pps[f]?=some q/\j∈plc 0 q.L/\M' fd=some (.lst ((pps.map Pap.D).set f (.tup (putB q j t)))))->Box1 p M M' b'->Q x M'
theorem Aq{n f:Nat}(h:f<n):ixN n (f:Int)=some f:=by
 unfold ixN;rw[if_pos 'b',if_pos 'b',YW]
theorem wz:∀l:List Nat,aI (nats l)=true
 |[]=>rfl
 |y::l=>by rw[show nats (y::l)=.int (y:Int)::nats l from rfl,aI,wz l];rfl
theorem yQ:∀l:List Nat,aT (nats l)<=30
 |[]=>YL _
 |y::l=>by
  rw[show nats (y::l)=.int (y:Int)::nats l from rfl,aT]
  have:=yQ l
  have:depD (.int (y:Int))=0:=rfl
  omega
section
variable {cn:Cn}{ds:List D}{M:MH}{Q:DK}
theorem rd_truths(f0:cn.F.getD 0 Yl=bc)(h:spTruths ds M Q):wSs cn ir_law_truths (fin Q) (ad ["","","","","","",""] ds) M:=by
 obtain⟨p,b,G,pps,rfl,hp,hb,K_,hl,Qq⟩:=h;show wSs cn ir_law_truths (fin Q) [some (.ref p),some (.ref b),none,none,none,none,none] M;have hsz:(2000:Nat)<sizeLine:=by decide
 unfold ir_law_truths;simp! only[dBk,dD,List.set,hb,rdD,rdL];intro fd J;have Z:Ext M (updM M fd (.lst (pps.map Pap.D))):=Ext.new J;have g1:updM M fd (MO.lst (pps.map Pap.D)) fd=some (.lst (pps.map Pap.D)):=aa;generalize updM M fd (MO.lst (pps.map Pap.D))=M1 at *;have O:=Z _ _ hb;have Pl:fd≠p:=λz=>aR hp J z.symm
 have YI:fd≠b:=λz=>aR hb J z.symm
 have W4:∀(q:Pap) (n:Nat) (K:Bool->MH->Prop),K (rP q) M1->wTo cn (.yes (.or (.cmp .In (.int 0) (.sl (.var 8) (.yes (.int 1)) .no)) (.cmp .In (.int 1) (.sl (.var 8) (.yes (.int 1)) .no)))) [some (.ref p),some (.ref b),some (.ref fd),none,none,none,none,some (.int (n:Int)),some q.D] M1 K:=by
  intro q n K hK;rw[D_L];obtain⟨J3,A_⟩:=Jc q;simp! only[];refine⟨⟨rfl,J3,A_⟩,?_⟩;unfold rP at hK;cases c:inD (.int 0) (cutL q.L (some 1) none) with
  |true=>rw[c] at hK;exact hK
  |false=>rw[c] at hK;exact⟨⟨rfl,J3,A_⟩,hK⟩
 have Pm:∀(F:List D->MH->Prop) (rest:ZO) (n:Nat) (e_:Zj) (v w:Zz),(∀i q,rest[i]?=some q->pps[n+i]?=some q)->(∀f∈e_,∃q,pps[f]?=some q/\rP q=true)->e_.length<=n->(∀l:List Nat,(∀f∈l,∃q,pps[f]?=some q/\rP q=true)->l.length<=n+rest.length->F (nats l) M1) ->
   ar (λM'=>M' b=some (.lst (pps.map Pap.D))) (.tp [7,8]) (wTo cn (.yes (.or (.cmp .In (.int 0) (.sl (.var 8) (.yes (.int 1)) .no)) (.cmp .In (.int 1) (.sl (.var 8) (.yes (.int 1)) .no))))) (wE cn (.var 7)) F (aX (n:Int) (rest.map Pap.D)) (nats e_) [some (.ref p),some (.ref b),some (.ref fd),none,none,none,none,v,w] M1:=by
  intro F rest;induction rest with
  |nil=>
   intro n e_ v w _ ha hl h;rw[YZ,aX,ar];exact h e_ ha hl
  |cons q rest A=>
   intro n e_ v w hi ha hl h;have h0:=hi 0 q rfl;rw[Nat.add_zero] at h0;have U4:∀i q,rest[i]?=some q->pps[n+1+i]?=some q:=λi q' hq=>by
    have:=hi (i+1) q' (by simpa using hq)
    rwa [show n+(i+1)=n+1+i by omega] at this
   have W5:∀K:DK,K (.int (n:Int)) M1->wE cn (.var 7) [some (.ref p),some (.ref b),some (.ref fd),none,none,none,none,some (.int (n:Int)),some q.D] M1 K:=by
    intro K hK;simp! only[];exact hK
   rw[YJ,aX,ar];refine⟨rfl,W4 q n _ ?_⟩;cases c:rP q with
   |true=>
    simp only[aH];refine W5 _ ⟨O,?_⟩
    have:=A (n+1) (e_++[n]) (some (.int (n:Int))) (some q.D) U4 (λf hf=>by
     rcases YA.1 hf with z | z
     ·exact ha f z
     ·rw[XN.1 z];exact⟨q,h0,c⟩) (by rw[ZJ,List.length_singleton];omega) (λl h1 h2=>h l h1 (by rw[YH];omega))
    rw[show nats (e_++[n])=nats e_++[.int (n:Int)] by unfold nats;rw[ZK];rfl] at this;exact this
   |false=>
    simp only[ag];exact⟨O,A (n+1) e_ (some (.int (n:Int))) (some q.D) U4 ha 'b' (λl h1 h2=>h l h1 (by rw[YH];omega))⟩
 unfold ni;simp! only[List.set,List.cons_append,XD,List.replicate,O];refine Pm _ pps 0 [] none none (λi q hq=>by rw[Nat.zero_add];exact hq) (λf hf=>nomatch hf) (YE _) λl Qj P5=>?_
 intro d Oa;have P:Ext M1 (updM M1 d (.lst (nats l))):=Ext.new Oa;have g3:updM M1 d (MO.lst (nats l)) d=some (.lst (nats l)):=aa;have NM:d≠p:=λz=>aR (Z _ _ hp) Oa z.symm
 generalize updM M1 d (MO.lst (nats l))=B at *;have X3:Box1 p M B G:=(⟨ExtBut.refl _ _,hp⟩:Box1 p M M G).ext (Z.trans P);unfold nh;simp! only[List.set];intro R C;have o:Ext B (updM B R (.lst [])):=Ext.new C;have g4:updM B R (MO.lst []) R=some (.lst []):=aa;generalize updM B R (MO.lst [])=k at *;simp only[g4,o _ _ g3,rdL];refine⟨⟨wz l,rfl,yQ l⟩,?_⟩;have S:=X3.ext o;have Sm:=o _ _ g3;cases l with
 |nil=>
  rw[show eqDs (nats []) []=true from rfl,aH];exact Qq .non k G (.inl rfl) S
 |cons r l=>
  rw[show eqDs (nats (r::l)) []=false by rw[show nats (r::l)=.int (r:Int)::nats l from rfl,SQ.EW];rfl,ag];have Pn:k b=some (.lst (pps.map Pap.D)):=o _ _ (P _ _ O);have U5:k fd=some (.lst (pps.map Pap.D)):=o _ _ (P _ _ g1);unfold ng;simp! only[List.set,Sm,f0,jJ];refine⟨p,G,(r::l).length,rfl,S.at_,⟨by simp,by rw[Nat.zero_add] at P5;omega⟩,λv u T=>?_⟩;obtain⟨e,U,V⟩:=mn (l:=nats (r::l)) (v:=v) (by rw[jJ];exact T);obtain⟨f,hf,rfl⟩:=XV.1 V;obtain⟨q,hq,Lx⟩:=Qj f hf;have X5:=S.draw u;have g5:updM k p (MO.lst [.int u]) d=some (.lst (nats (r::l))):=by rw[ay NM];exact Sm
  have Qo:updM k p (MO.lst [.int u]) b=some (.lst (pps.map Pap.D)):=by rw[ay K_];exact Pn
  have W6:updM k p (MO.lst [.int u]) fd=some (.lst (pps.map Pap.D)):=by rw[ay Pl];exact U5
  generalize updM k p (MO.lst [.int u])=M5 at *;simp only[g5,U];have W7:=(YB.mp hq).1;have Qp:atI (pps.map Pap.D) (f:Int)=some (.tup q.L):=bW (by rw[ZF,hq,←D_L];rfl);clear S Sm Pn U5 U V hf Qj g5 T X3 g3 o g4 P;have U6:∀e∈q.L,aJ e=true/\depD e=0:=λe g=>by
   cases q<;>(simp only[SH.Pap.L,ZZ,List.not_mem_nil,or_false] at g;rcases g with rfl | rfl | rfl | rfl<;>exact⟨rfl,rfl⟩)
  have W8:∀(e:D) (n:Nat) (K:Bool->MH->Prop),e∈q.L->K (decide (0<n)&&inD e [.int 0,.int 1]) M5->wTo cn (.yes (.and (.cmp .Gt (.var 7) (.int 0)) (.cmp .In (.var 8) (.tup (.cons (.int 0) (.cons (.int 1) .nil)))))) [some (.ref p),some (.ref b),some (.ref fd),some (.ref d),some (.int (f:Int)),none,none,some (.int (n:Int)),some e] M5 K:=by
   intro e n K g hK;simp! only[];by_cases c:0<n
   ·rw[YV c] at hK
    rw[show decide ((n:Int)>0)=true from YV 'b'];exact⟨⟨(U6 e g).1,rfl,by show(0:Nat)<=30;decide⟩,hK⟩
   ·rw[ZP c] at hK
    rw[show decide ((n:Int)>0)=false from ZP 'b'];exact hK
  have W9:∀(e:D) (n:Nat) (K:DK),K (.int (n:Int)) M5->wE cn (.var 7) [some (.ref p),some (.ref b),some (.ref fd),some (.ref d),some (.int (f:Int)),none,none,some (.int (n:Int)),some e] M5 K:=by
   intro e n K hK;simp! only[];exact hK
  have W_:∀(F:List D->MH->Prop) (es:List D) (n:Nat) (e_:Zj) (v w:Zz),(∀e∈es,e∈q.L)->F (nats (e_++plc n es)) M5 ->
    ar (λ_=>True) (.tp [7,8]) (wTo cn (.yes (.and (.cmp .Gt (.var 7) (.int 0)) (.cmp .In (.var 8) (.tup (.cons (.int 0) (.cons (.int 1) .nil))))))) (wE cn (.var 7)) F (aX (n:Int) es) (nats e_) [some (.ref p),some (.ref b),some (.ref fd),some (.ref d),some (.int (f:Int)),none,none,v,w] M5:=by
   intro F es;induction es with
   |nil=>
    intro n e_ v w _ h;rw[plc,ZA] at h;rw[aX,ar];exact h
   |cons e es A=>
    intro n e_ v w L_ h;rw[plc] at h;rw[aX,ar];refine⟨rfl,W8 e n _ (L_ e ZX) ?_⟩;cases c:(decide (0<n)&&inD e [.int 0,.int 1]) with
    |true=>
     rw[c,if_pos rfl] at h;simp only[aH];refine W9 e n _ ⟨trivial,?_⟩
     have:=A (n+1) (e_++[n]) (some (.int (n:Int))) (some e) (λe' g=>L_ e' (.tail _ g)) (by simpa using h)
     rw[show nats (e_++[n])=nats e_++[.int (n:Int)] by unfold nats;rw[ZK];rfl] at this;exact this
    |false=>
     rw[c,if_neg (by simp)] at h;simp only[ag];exact⟨trivial,A (n+1) e_ (some (.int (n:Int))) (some e) (λe' g=>L_ e' (.tail _ g)) h⟩
  unfold nb;simp! only[List.set,List.cons_append,XD,List.replicate,Qo,Qp];refine W_ _ q.L 0 [] none none (λ_ h=>h) ?_;intro m U7;rw[XD] at *;have e6:Ext M5 (updM M5 m (.lst (nats (plc 0 q.L)))):=Ext.new U7;have g6:updM M5 m (MO.lst (nats (plc 0 q.L))) m=some (.lst (nats (plc 0 q.L))):=aa;have Sn:m≠p:=λz=>aR X5.at_ U7 z.symm
  generalize updM M5 m (MO.lst (nats (plc 0 q.L)))=W at *;have X6:=X5.ext e6;have Kq:0<(plc 0 q.L).length:=List.length_pos_iff.2 (Ja Lx);have Sj:0<q.L.length/\q.L.length<=4:=by cases q<;>simp[SH.Pap.L]
  have W':=An 0 q.L;unfold na;simp! only[List.set,g6,f0,jJ];refine⟨p,u,(plc 0 q.L).length,rfl,X6.at_,⟨Kq,by omega⟩,λv y T=>?_⟩;obtain⟨e,U,V⟩:=mn (l:=nats (plc 0 q.L)) (v:=v) (by rw[jJ];exact T);obtain⟨j,hj,rfl⟩:=XV.1 V;have X7:=X6.draw y;have g7:updM W p (MO.lst [.int y]) m=some (.lst (nats (plc 0 q.L))):=by rw[ay Sn];exact g6
  have RZ:updM W p (MO.lst [.int y]) b=some (.lst (pps.map Pap.D)):=by rw[ay K_];exact e6 _ _ Qo
  have Xa:updM W p (MO.lst [.int y]) fd=some (.lst (pps.map Pap.D)):=by rw[ay Pl];exact e6 _ _ W6
  generalize updM W p (MO.lst [.int y])=M7 at *;simp only[g7,U];obtain⟨j0,e,Y,_,_⟩:=yP 0 q.L j hj;rw[Nat.sub_zero] at Y;have YO:=(YB.mp Y).1;have Xb:atI q.L (j:Int)=some e:=bW Y;have C:=U6 e (List.mem_iff_getElem?.2 ⟨_,Y⟩);have So:ixN (pps.map Pap.D).length (f:Int)=some f:=by rw[ZE];exact Aq W7
  unfold m9;simp! only[List.set,RZ,Qp,Xb,Xa,So];have c1:=Ap (l:=q.L) (lo:=none) (hi:=some (j:Int));have c2:=Ap (l:=q.L) (lo:=some ((j:Int)+1)) (hi:=none);have Xc:cutL q.L none (some (j:Int))≠[]:=λz=>by
   have:=congrArg List.length z
   unfold cutL at this;rw[HT.oK,HT.va,List.drop_zero,YS,YU] at this;omega
  have Sq:∀t:Bool,(cutL q.L none (some (j:Int))≠[]/\(cutL q.L none (some (j:Int))).length+[D.bl t].length<=sizeLine)/\(cutL q.L none (some (j:Int))++[D.bl t]≠[]/\(cutL q.L none (some (j:Int))++[D.bl t]).length+(cutL q.L (some ((j:Int)+1)) none).length<=sizeLine) /\
    wSs cn ja (fin Q) [some (.ref p),some (.ref b),some (.ref fd),some (.ref d),some (.int (f:Int)),some (.ref m),some (.int (j:Int))] (updM M7 fd (.lst ((pps.map Pap.D).set f (.tup (cutL q.L none (some (j:Int))++[D.bl t]++cutL q.L (some ((j:Int)+1)) none))))):=by
   intro t;refine⟨⟨Xc,by simp only[YH,YU];omega⟩,⟨by simp,by rw[ZJ];simp only[YH,YU];omega⟩,?_⟩;unfold ja;simp! only[];exact Qq (.ref fd) _ y (.inr ⟨fd,f,q,j,t,rfl,hq,hj,aa⟩) (X7.put J (by rw[hp];simp))
  cases e with
  |ref a=>exact absurd C.1 (by simp[aJ])
  |ty n=>exact absurd C.1 (by simp[aJ])
  |_=>exact⟨⟨C.1,rfl,by omega⟩,Sq _⟩
end
def ou:Ss:=#v[.ret (.var 4)]
def ow:Ss:=.cons (.putIx (.var 4) (.var 5) (.fn 0 #v[.var 0,.var 1,.var 5,.ix (.var 2) (.var 5)])) ou
def ox:Ss:=.cons (.set 5 (.fn 1 #v[.var 0,.bi .len #v[.var 2]])) ow
def oy:Ss:=.cons (.set 4 (.bk .list #v[.var 2])) ox
def oA:Ss:=.cons (.ite (.cmp .Eq (.var 3) (.int 1)) #v[.ret (.ix (.lst #v[.sl (.var 2) .no (.yes (.neg (.int 1))),.bin .Add (.var 2) (.sl (.var 2) .no (.yes (.int 1))),.bin .Add (.var 2) (.lst #v[.non])]) (.fn 1 #v[.var 0,.int 3]))] .nil) oy
def oB:Ss:=.cons (.ite (.cmp .Eq (.var 3) (.int 0)) #v[.ret (.ix (.lst #v[.non,.bi .tuple #v[.var 2],.str "papers",.int 5,.dnew,.tup #v[.var 2],.lst #v[.var 2,.var 2]]) (.fn 1 #v[.var 0,.int 7]))] .nil) oA
def oC:Ss:=.cons (.ite (.cmp .Gt (.var 3) (.int 7)) #v[.ret (.fn 2 #v[.var 0,.var 2])] .nil) oB
def mo:Ss:=.cons (.set 3 (.fn 1 #v[.var 0,.int 12])) oC
def spWrong:SpD:=λds M Q=>∃(p R b:Addr) (a:Int) (B:MH) (o_:List D) (a_:Zy) (m told:Nat) (ps:Zp) (pps:ZO),ds=[.ref p,.ref R,.ref b]/\M p=some (.lst [.int a])/\Ext B M/\B p=none/\B R=some (.lst o_)/\bq B o_ a_/\RowsOk m a_/\B b=some (.lst (pps.map Pap.D))/\Papers a_ m told ps pps/\0<m /\
 ∀(x:D) M' b',xn M' a_ m x->Box1 p M M' b'->Q x M'
theorem rQ{M:MH}{w:Str}{y:D}{r:List D}(h:(y::r).all flat=true):df M (.tup (.str w::y::r)):=by
 have hz:∀z∈y::r,flat z=true:=by rwa [XM] at h
 refine .inr ⟨w,y,r,rfl,λz a=>?_,λu z e=>?_⟩
 ·have:=hz z a
  cases z<;>first | rfl | cases this
 ·subst e
  have:=hz z (by simp)
  cases z<;>first | exact⟨rfl,rfl⟩ | cases this
theorem Jd(M:MH)(q:Pap):df M q.D:=by
 cases q with
 |told=>exact rQ (w:="true") (y:=.int 0) (r:=[.int 0,.non]) rfl
 |tru i s r=>exact rQ (w:="true") (y:=.int (i:Int)) (r:=[.int (s:Int),.int (r:Int)]) rfl
 |fls i=>exact rQ (w:="false") (y:=.int (i:Int)) (r:=[]) rfl
 |opn s r=>exact rQ (w:="open") (y:=.int (s:Int)) (r:=[.int (r:Int)]) rfl
theorem Ar{M:MH}{a_:Zy}{m f:Nat}{fd:Addr}{pps:ZO}{x:D}(h:M fd=some (.lst ((pps.map Pap.D).set f x)))(hf:f<pps.length)(hx:Gd M a_ f x):xn M a_ m (.ref fd):=by
 refine .inr ⟨fd,_,rfl,h,.inr ⟨λy hy=>?_,f,x,?_,hx.2⟩⟩
 ·rcases List.mem_or_eq_of_mem_set hy with z | z
  ·obtain⟨q,_,rfl⟩:=XV.1 z
   exact Jd M q
  ·rw[z];exact hx.1
 ·rw[List.getElem?_set_self (by rw[ZE];exact hf)]
theorem rR{M:MH}{a_:Zy}{m:Nat}{w:Addr}{xs:List D}(h:M w=some (.lst xs))(hl:xs.length≠m):xn M a_ m (.ref w):=.inr ⟨w,xs,rfl,h,.inl hl⟩
theorem EZ{l:List D}(h:0<l.length):(cutL l none (some (-1))).length=l.length-1:=by
 unfold cutL;rw[HT.oK,List.drop_zero,YS];have e:HT.sIx l.length l.length (some (-1))=(-1+(l.length:Int)).toNat:=by
  show(if(-1:Int)<0 then(-1+(l.length:Int)).toNat else min (-1:Int).toNat l.length)=_;rw[if_pos 'a']
 rw[e];omega
theorem G6{l:List D}(h:0<l.length):(cutL l none (some 1)).length=1:=by
 unfold cutL;rw[HT.oK,List.drop_zero,YS,show(1:Int)=((1:Nat):Int) from rfl,HT.va];omega
section
variable {cn:Cn}{ds:List D}{M:MH}{Q:DK}
theorem rd_wrong(f0:cn.F.getD 0 Yl=spWrongPaper)(f1:cn.F.getD 1 Yl=bc)(f2:cn.F.getD 2 Yl=spTruths)(h:spWrong ds M Q):wSs cn mo (fin Q) (ad ["","","","","",""] ds) M:=by
 obtain⟨p,R,b,b0,B,o_,a_,m,told,ps,pps,rfl,hp,eB,Pj,hR,A,ok,Sr,P,hm,Qq⟩:=h;show wSs cn mo (fin Q) [some (.ref p),some (.ref R),some (.ref b),none,none,none] M;have hsz:(2000:Nat)<sizeLine:=by decide
 have V_:=ok.most;have h_:pps.length=m:=P.len;have Xd:(pps.map Pap.D).length=m:=by rw[ZE];exact h_
 have K_:b≠p:=λz=>by rw[z,Pj] at Sr;cases Sr
 have KI:M p≠none:=by rw[hp];simp
 unfold mo;simp! only[List.set,f1];refine⟨p,b0,12,rfl,hp,⟨by decide,by decide⟩,λc L _=>?_⟩;have d:Box1 p M (updM M p (.lst [.int L])) L:=⟨ExtBut.upd _ _ _,aa⟩;have U8:Ext B (updM M p (.lst [.int L])):=ExtBut.ext eB d.but Pj;generalize updM M p (MO.lst [.int L])=M1 at *;have S:=U8 _ _ Sr;unfold oC;simp! only[List.set,f2];by_cases c7:(c:Int)>7
 ·rw[YV c7]
  simp only[aH];refine⟨p,b,L,pps,rfl,d.at_,S,K_,by omega,λx M2 b2 hx X2=>?_⟩;have X:Box1 p M M2 b2:=⟨d.but.trans X2.but,X2.at_⟩;rcases hx with rfl | ⟨fd,f,q,j,t,rfl,hq,hj,LA⟩
  ·exact Qq _ M2 b2 (.inl ⟨_,rfl,by decide⟩) X
  ·exact Qq _ M2 b2 (Ar LA (YB.mp hq).1 (Jb t hj)) X
 rw[ZP c7];simp only[ag];unfold oB;simp_all! only[List.set,f1,S,rdL];by_cases c0:(c:Int)=0
 ·rw[show((c:Int)==0)=true by rw[c0];rfl]
  simp only[aH];intro T L4;have g:Ext M1 (updM M1 T (.dic [])):=Ext.new L4;have g2:updM M1 T (MO.dic []) T=some (.dic []):=aa;generalize updM M1 T (MO.dic [])=M2 at *;intro U Lu;have r:Ext M2 (updM M2 U (.lst [.ref b,.ref b])):=Ext.new Lu;have g3:updM M2 U (MO.lst [.ref b,.ref b]) U=some (.lst [.ref b,.ref b]):=aa;generalize updM M2 U (MO.lst [.ref b,.ref b])=u at *;intro w4 U9;obtain⟨O,hL7⟩:∃O,O=[D.non,.tup (pps.map Pap.D),.str "papers",.int 5,.ref T,.tup [.ref b],.ref U]:=⟨_,rfl⟩;rw[←hL7];have K:Ext u (updM u w4 (.lst O)):=Ext.new U9;have V:updM u w4 (MO.lst O) w4=some (.lst O):=aa;generalize updM u w4 (MO.lst O)=k at *;have Ob:=g.trans (r.trans K);have W:=d.ext Ob;have Su:w4≠p:=λz=>aR (r _ _ (g _ _ d.at_)) U9 z.symm
  have l7:O.length=7:=by rw[hL7];rfl
  refine⟨p,L,7,rfl,W.at_,⟨by decide,by decide⟩,λv b5 hv=>?_⟩;obtain⟨x,K5,Y⟩:=mn (l:=O) (v:=v) 'b';have X5:=W.draw b5;have k5:∀a o,a≠p->k a=some o->updM k p (MO.lst [.int b5]) a=some o:=λa o n h=>by rw[ay n];exact h
  have Sv:T≠p:=λz=>aR d.at_ L4 z.symm
  have Sw:U≠p:=λz=>aR (g _ _ d.at_) Lu z.symm
  have g5:=k5 _ _ Su V;have d5:=k5 _ _ Sv (K _ _ (r _ _ g2));have l5:=k5 _ _ Sw (K _ _ g3);have Xe:=k5 _ _ K_ (Ob _ _ S);generalize updM k p (MO.lst [.int b5])=M5 at *;simp only[g5,K5];refine Qq x M5 b5 ?_ X5;rw[hL7] at Y;simp only[ZZ,List.not_mem_nil,or_false] at Y;rcases Y with rfl | rfl | rfl | rfl | rfl | rfl | rfl
  ·exact .inl ⟨_,rfl,by decide⟩
  ·exact .inl ⟨_,rfl,by decide⟩
  ·exact .inl ⟨_,rfl,by decide⟩
  ·exact .inl ⟨_,rfl,by decide⟩
  ·refine .inl ⟨"dict",?_,by decide⟩
   show(match M5 T with | some (MO.lst _)=>some "list" | some (MO.dic _)=>some "dict" | _=>none)=some "dict";rw[d5]
  ·exact .inl ⟨_,rfl,by decide⟩
  ·refine .inr ⟨U,_,rfl,l5,.inr ⟨λy hy=>?_,0,.ref b,rfl,rfl⟩⟩
   have:y=.ref b:=by simpa using hy
   subst this;show(match M5 b with | some (MO.lst _)=>some "list" | some (MO.dic _)=>some "dict" | _=>none:Option String).isSome=true;rw[Xe];rfl
 rw[show((c:Int)==0)=false from beq_false_of_ne c0];simp only[ag];unfold oA;simp_all! only[List.set,f1,S,rdL];by_cases c1:(c:Int)=1
 ·rw[show((c:Int)==1)=true by rw[c1];rfl]
  simp only[aH];have YR:=EZ (l:=pps.map Pap.D) 'b';have NY:=G6 (l:=pps.map Pap.D) 'b';intro C Ql;have g:Ext M1 (updM M1 C (.lst (cutL (pps.map Pap.D) none (some (-1))))):=Ext.new Ql;have g2:updM M1 C (MO.lst (cutL (pps.map Pap.D) none (some (-1)))) C=some (.lst (cutL (pps.map Pap.D) none (some (-1)))):=aa;generalize updM M1 C (MO.lst (cutL (pps.map Pap.D) none (some (-1))))=M2 at *;have Po:=g _ _ S;simp only[Po];intro u2 Sk;have r:Ext M2 (updM M2 u2 (.lst (cutL (pps.map Pap.D) none (some 1)))):=Ext.new Sk;have g3:updM M2 u2 (MO.lst (cutL (pps.map Pap.D) none (some 1))) u2=some (.lst (cutL (pps.map Pap.D) none (some 1))):=aa;generalize updM M2 u2 (MO.lst (cutL (pps.map Pap.D) none (some 1)))=u at *;have Qs:=r _ _ Po;simp only[Qs,g3];refine⟨by omega,λG Qm=>?_⟩;have K:Ext u (updM u G (.lst (pps.map Pap.D++cutL (pps.map Pap.D) none (some 1)))):=Ext.new Qm;have V:updM u G (MO.lst (pps.map Pap.D++cutL (pps.map Pap.D) none (some 1))) G=some (.lst (pps.map Pap.D++cutL (pps.map Pap.D) none (some 1))):=aa;generalize updM u G (MO.lst (pps.map Pap.D++cutL (pps.map Pap.D) none (some 1)))=k at *;have Qt:=K _ _ Qs;intro u4 Qn;have Z:Ext k (updM k u4 (.lst [.non])):=Ext.new Qn;have g5:updM k u4 (MO.lst [.non]) u4=some (.lst [.non]):=aa;generalize updM k u4 (MO.lst [.non])=M5 at *;simp only[Z _ _ Qt,g5];refine⟨by simp only[YH,YU];omega,λJ U_=>?_⟩;have e6:Ext M5 (updM M5 J (.lst (pps.map Pap.D++[.non]))):=Ext.new U_;have g6:updM M5 J (MO.lst (pps.map Pap.D++[.non])) J=some (.lst (pps.map Pap.D++[.non])):=aa;generalize updM M5 J (MO.lst (pps.map Pap.D++[.non]))=M6 at *;intro w7 Qk;have e7:Ext M6 (updM M6 w7 (.lst [.ref C,.ref G,.ref J])):=Ext.new Qk;have g7:updM M6 w7 (MO.lst [.ref C,.ref G,.ref J]) w7=some (.lst [.ref C,.ref G,.ref J]):=aa;have Sx:w7≠p:=λz=>aR (e6 _ _ (Z _ _ (K _ _ (r _ _ (g _ _ d.at_))))) Qk z.symm
  have n1:C≠p:=λz=>aR d.at_ Ql z.symm
  have n3:G≠p:=λz=>aR (r _ _ (g _ _ d.at_)) Qm z.symm
  have n5:J≠p:=λz=>aR (Z _ _ (K _ _ (r _ _ (g _ _ d.at_)))) U_ z.symm
  generalize updM M6 w7 (MO.lst [.ref C,.ref G,.ref J])=M7 at *;have X7:=d.ext (g.trans (r.trans (K.trans (Z.trans (e6.trans e7)))));refine⟨p,L,3,rfl,X7.at_,⟨by decide,by decide⟩,λv b8 hv=>?_⟩;obtain⟨x,K5,Y⟩:=mn (l:=[.ref C,.ref G,.ref J]) (v:=v) hv;have X8:=X7.draw b8;have k8:∀a o,a≠p->M7 a=some o->updM M7 p (MO.lst [.int b8]) a=some o:=λa o n h=>by rw[ay n];exact h
  have q1:=k8 _ _ n1 (e7 _ _ (e6 _ _ (Z _ _ (K _ _ (r _ _ g2)))));have q3:=k8 _ _ n3 (e7 _ _ (e6 _ _ (Z _ _ V)));have q5:=k8 _ _ n5 (e7 _ _ g6);have g8:=k8 _ _ Sx g7;generalize updM M7 p (MO.lst [.int b8])=M8 at *;simp only[g8,K5];refine Qq x M8 b8 ?_ X8;simp only[ZZ,List.not_mem_nil,or_false] at Y;rcases Y with rfl | rfl | rfl
  ·exact rR q1 'b'
  ·exact rR q3 (by rw[ZJ];omega)
  ·exact rR q5 (by rw[ZJ];simp only[YH,YU];omega)
 rw[show((c:Int)==1)=false from beq_false_of_ne c1];simp only[ag];unfold oy;simp! only[dBk,dD,List.set,S,rdD,rdL];intro fd LA;have g:Ext M1 (updM M1 fd (.lst (pps.map Pap.D))):=Ext.new LA;have g2:updM M1 fd (MO.lst (pps.map Pap.D)) fd=some (.lst (pps.map Pap.D)):=aa;have Pl:fd≠p:=λz=>aR d.at_ LA z.symm
 have Xg:M fd=none:=d.none LA;generalize updM M1 fd (MO.lst (pps.map Pap.D))=M2 at *;have X2:=d.ext g;have Po:=g _ _ S;unfold ox;simp! only[List.set,f1,Po];refine⟨p,L,m,by rw[Xd],X2.at_,⟨hm,by omega⟩,λf b3 hf=>?_⟩;have X3:=X2.draw b3;have k3:∀a o,a≠p->M2 a=some o->updM M2 p (MO.lst [.int b3]) a=some o:=λa o n h=>by rw[ay n];exact h
 have g3:=k3 _ _ Pl g2;have Qs:=k3 _ _ K_ Po;have Xh:Ext B (updM M2 p (.lst [.int b3])):=ExtBut.ext (U8.trans g) (ExtBut.upd _ _ _) Pj;generalize updM M2 p (MO.lst [.int b3])=u at *;obtain⟨q,hq⟩:∃q,pps[f]?=some q:=⟨_,ZC 'b'⟩;have Qp:atI (pps.map Pap.D) (f:Int)=some q.D:=bW (by rw[ZF,hq];rfl);unfold ow;simp! only[List.set,f0,Qs,Qp];refine⟨p,R,b3,B,o_,a_,m,f,q,rfl,X3.at_,Xh,Pj,hR,A,ok,λx k b4 hx W=>?_⟩;have V:k fd=some (.lst (pps.map Pap.D)):=W.but _ _ Pl g3;have So:ixN (pps.map Pap.D).length (f:Int)=some f:=Aq 'b';simp only[V,So];unfold ou;simp! only[];have X:Box1 p M k b4:=⟨X3.but.trans W.but,W.at_⟩;exact Qq _ _ b4 (Ar aa 'b' (hx.le (yN V))) (X.put Xg KI)
end
end SW
namespace SW
open PySem L2 DD
open SH
open SQ (bc Box1 gV)
def yR:Ss:=#v[.ret (.and (.cmp .Eq (.mu0 "row_list" (.var 4)) (.var 9)) (.fn 0 #v[.var 4,.var 3,.var 5]))]
def yS:Ss:=.cons (.setC 9 2 (.tup #v[.var 10,.bi .tuple #v[.var 11]]) (.tp [10,11]) (.seq (.var 2)) .no) yR
def yT:Ss:=.cons (.ite (.or (.cmp .NotEq (.fn 1 #v[.var 8,.int 0]) (.lst .nil)) (.or (.not (.val (.fn 0 #v[.var 8,.int 0,.lst .nil]))) (.val (.fn 0 #v[.var 8,.int 0,.lst #v[.tup #v[.str "false",.int 1]]])))) #v[.ret (.bl false)] .nil) yS
def pG:Ss:=.cons (.set 8 (.fn 2 #v[.int 0,.lst .nil])) yT
def yU:Ss:=#v[.ite (.or (.not (.val (.bi .isinst #v[.var 7,.ty "bool"]))) (.val (.var 7))) #v[.ret (.bl false)] .nil]
def pH:Ss:=.cons (.set 7 (.fn 0 #v[.var 4,.var 3,.fn 3 #v[.fn 4 #v[.var 0,.var 6],.var 2,.var 5]])) yU
def yV:Ss:=.cons (.for (.nm 6) (.rg1 #v[.bi .max #v[.int 2,.bi .min #v[.bi .len #v[.var 0],.int 30]]]) pH) pG
def yW:Ss:=.cons (.ite (.not (.val (.fn 0 #v[.var 4,.var 3,.var 5]))) #v[.ret (.bl false)] .nil) yV
def yX:Ss:=.cons (.set 5 (.fn 1 #v[.var 4,.var 3])) yW
def sW:Ss:=.cons (.set 4 (.fn 2 #v[.var 1,.var 2])) yX
def ir_law:Ss:=.cons (.asg (.tp [1,2,3]) (.fn 5 #v[.var 0])) sW
def spHoldX(c:CA)(S:Addr):SpD:=λds M Q=>SH.qL c S ds M Q\/Fl c S ds M Q
def spLaw:SpD:=λds M Q=>∃(a:Addr) (ns:Zi),ds=[.ref a]/\M a=some (.rol (ns.map .int))/\ns.length<=63/\∀M',Q (.bl true) M'
theorem zB{m:Nat}{a_:Zy}{k_:Zt}{p1 p2 p3:Addr}:(c9 m a_ k_ p1 p2 p3).lookup ("row_list" : Str)=none:=rfl
theorem qP:∀l:List Int,aI (intL l)=true
 |[]=>rfl
 |y::l=>by rw[show intL (y::l)=.int y::intL l from rfl,aI,qP l];rfl
theorem sX:∀l:List Int,aT (intL l)=0
 |[]=>rfl
 |y::l=>by
  rw[show intL (y::l)=.int y::intL l from rfl,aT,sX l];rfl
theorem Dr(t:CT):aJ t.told=true:=by
 cases t with
 |hav f=>rfl
 |lck f=>rfl
 |som n fs=>show aJ (.tup [.str "some",.int n,.tup (intL fs)])=true;rw[aJ,aI,aI,aI,aJ,qP];rfl
 |led fs n=>show aJ (.tup [.str "lead",.tup (intL fs),.int (n:Int)])=true;rw[aJ,aI,aI,aJ,qP];rfl
theorem E1(t:CT):depD t.told<=2:=by
 cases t with
 |hav f=>show(1:Nat)<=2;decide
 |lck f=>show(1:Nat)<=2;decide
 |som n fs=>show depD (.tup [.str "some",.int n,.tup (intL fs)])<=2;rw[depD,aT,aT,aT,depD,sX];show(2:Nat)<=2;decide
 |led fs n=>show depD (.tup [.str "lead",.tup (intL fs),.int (n:Int)])<=2;rw[depD,aT,aT,depD,sX];show(2:Nat)<=2;decide
theorem uU:∀l:List CT,aI (l.map CT.told)=true/\aT (l.map CT.told)<=2
 |[]=>⟨rfl,YL _⟩
 |t::l=>by
  obtain⟨a,b⟩:=uU l;rw[YJ,aI,aT,Dr,a];exact⟨rfl,Nat.max_le.2 ⟨E1 t,b⟩⟩
theorem wA:∀l:List Row,aI (l.map rowD)=true/\aT (l.map rowD)<=4
 |[]=>⟨rfl,YL _⟩
 |r::l=>by
  obtain⟨a,b⟩:=wA l;obtain⟨c,g⟩:=uU r.2;have d:aJ (rowD r)=true:=by
   show aJ (.tup [.int (r.1:Int),.tup (r.2.map CT.told)])=true;rw[aJ,aI,aI,aJ,c];rfl
  have f:depD (rowD r)<=4:=by
   show depD (.tup [.int (r.1:Int),.tup (r.2.map CT.told)])<=4;rw[depD,aT,aT,depD];show max 0 (max (aT (r.2.map CT.told)+1) 0)+1<=4;omega
  rw[YJ,aI,aT,d,a];exact⟨rfl,Nat.max_le.2 ⟨f,b⟩⟩
section
variable {cn:Cn}{ds:List D}{M:MH}{Q:DK}{c:CA}{S:Addr}
theorem rd_law(hT:cn.T S "row_list" = some (spRowList c S))(G:cn.F.getD 0 Yl=spHoldX c S)(f1:cn.F.getD 1 Yl=li c S)(f2:cn.F.getD 2 Yl=bm S (jP c S))(f3:cn.F.getD 3 Yl=spWrong)(f4:cn.F.getD 4 Yl=gV)(f5:cn.F.getD 5 Yl=SQ.iE)
  (h:spLaw ds M Q):wSs cn ir_law (fin Q) (ad ["","","","","","","","","",""] ds) M:=by
 obtain⟨a,ns,rfl,hM,LF,q⟩:=h;show wSs cn ir_law (fin Q) [some (.ref a),none,none,none,none,none,none,none,none,none] M;unfold ir_law;simp! only[List.set,f5];refine⟨a,ns,rfl,hM,λL R m o_ a_ told M1 g1 r1 A1 ok hn hm ht e1=>?_⟩;simp! only[g1,rdL];refine⟨rfl,?_⟩;show wSs cn sW (fin Q) [some (.ref a),some (.int (m:Int)),some (.ref R),some (.int (told:Int)),none,none,none,none,none,none] M1;unfold sW;simp! only[List.set,f2];intro sh P7;have es:Ext M1 (updM M1 sh (.ins S [])):=Ext.new P7;refine⟨sh,m,R,o_,a_,rfl,aa,es _ _ r1,A1.ext es,ok,λM2 b2 S2=>⟨rfl,?_⟩⟩;have e2:Ext M1 M2:=ExtBut.ext es b2 P7;unfold yX;simp! only[List.set,f1];refine⟨sh,m,a_,told,rfl,S2,by omega,by omega,ht,λb ps pps M3 hb e3 g3 P=>?_⟩;have S3:=S2.ext e3;unfold yW;simp! only[List.set,G];refine .inl ⟨sh,b,m,a_,told,ps,pps,rfl,S3,g3,P,λu e4=>?_⟩;simp only[Bool.not_true,ag];have Ob:Ext M1 u:=e2.trans (e3.trans e4);have S4:=S3.ext e4;have Qt:=e4 _ _ g3;have U':=Ob _ _ r1;have A4:=A1.ext Ob;have Va:=Ob _ _ (e1 _ _ hM);have body:∀(E:EndsD) (k:Nat) (f:Zz) (M5:MH),Ext u M5->(∀f y,Ext u y->E.nx [some (.ref a),some (.int (m:Int)),some (.ref R),some (.int (told:Int)),some (.ref sh),some (.ref b),some (.int (k:Int)),f,none,none] y) ->
   wSs cn pH E [some (.ref a),some (.int (m:Int)),some (.ref R),some (.int (told:Int)),some (.ref sh),some (.ref b),some (.int (k:Int)),f,none,none] M5:=by
  intro E k f M5 g kk;unfold pH;simp! only[List.set,G,f3,f4];refine⟨a,ns,k,rfl,g _ _ Va,λp b0 hp=>?_⟩;have z:Ext M5 (updM M5 p (.lst [.int b0])):=Ext.new hp;refine⟨p,R,b,b0,M5,o_,a_,m,told,ps,pps,rfl,aa,z,hp,g _ _ U',A4.ext g,ok,g _ _ Qt,P,hm.1,λx y b6 hx X6=>?_⟩;have J:Ext M5 y:=ExtBut.ext z X6.but hp;refine .inr ⟨sh,m,a_,told,x,rfl,(S4.ext g).ext J,hx,λM7 e7=>?_⟩;unfold yU;simp! only[List.set,tyD];refine⟨by decide,?_⟩;rw[show isT "bool" "bool" = true by decide];simp only[Bool.not_true,ag];exact kk _ M7 (g.trans (J.trans e7))
 have rest:∀(o f:Zz) (M5:MH),Ext u M5->wSs cn pG (fin Q) [some (.ref a),some (.int (m:Int)),some (.ref R),some (.int (told:Int)),some (.ref sh),some (.ref b),o,f,none,none] M5:=by
  intro o f M5 g;have S5:=S4.ext g;have Qo:=g _ _ Qt;have Xi:=g _ _ U';have A5:=A4.ext g;unfold pG;simp! only[List.set,f2];intro A MN;have eh:Ext M5 (updM M5 A (.lst [])):=Ext.new MN;have gh:updM M5 A (MO.lst []) A=some (.lst []):=aa;generalize updM M5 A (MO.lst [])=Mh at *;intro r Lz;have es:Ext Mh (updM Mh r (.ins S [])):=Ext.new Lz;have Xj:RowsOk 0 []:=⟨by decide,by decide,λx hx=>nomatch hx⟩;refine⟨r,0,A,[],[],rfl,aa,es _ _ gh,.nil,Xj,λMi bi Si=>⟨rfl,?_⟩⟩;have ei:Ext M5 Mi:=eh.trans (ExtBut.ext es bi Lz);unfold yT;simp! only[List.set,G,f1];refine⟨r,0,[],0,rfl,Si,by decide,by decide,by decide,λpo Xk Sy O Y0 ej gj P0=>?_⟩;obtain rfl:Sy=[]:=List.length_eq_zero_iff.1 P0.len;intro U NO;have V:Ext O (updM O U (.lst [])):=Ext.new NO;have gk:updM O U (MO.lst []) U=some (.lst []):=aa;generalize updM O U (MO.lst [])=Mk at *;simp only[V _ _ gj,gk,rdL];refine⟨⟨rfl,rfl,by show(0:Nat)<=30;decide⟩,?_⟩;rw[show eqDs (([]:List Pap).map Pap.D) []=true from rfl];simp only[Bool.not_true,ag];intro B NL;have el:Ext Mk (updM Mk B (.lst [])):=Ext.new NL;have gl:updM Mk B (MO.lst []) B=some (.lst (([]:List Pap).map Pap.D)):=aa;generalize updM Mk B (MO.lst [])=Ml at *;refine .inl ⟨r,B,0,[],0,Xk,[],rfl,((Si.ext ej).ext V).ext el,gl,P0,λW Vb=>?_⟩;simp only[Bool.not_true,ag];intro pg Xl;have en:Ext W (updM W pg (.lst [.tup [.str "false",.int 1]])):=Ext.new Xl;have gn:updM W pg (MO.lst [.tup [.str "false",.int 1]]) pg=some (.lst [.tup [.str "false",.int 1]]):=aa;generalize updM W pg (MO.lst [.tup [.str "false",.int 1]])=Mn at *;refine .inr ⟨r,0,[],0,.ref pg,rfl,((((Si.ext ej).ext V).ext el).ext Vb).ext en,rR gn 'a',λj eo=>?_⟩;simp only[ag];have Y:Ext M5 j:=ei.trans (ej.trans (V.trans (el.trans (Vb.trans (en.trans eo)))));have Vc:=Y _ _ Xi;have Ao:=A5.ext Y;have so:=S5.ext Y;have shown:∀(F:List D->MH->Prop) (xs:List D) (Z C:Zy) (v2 v3:Zz),bq j xs Z->F ((C++Z).map rowD) j ->
    ar (λM'=>M' R=some (.lst o_)) (.tp [10,11]) (λ_ M Q=>Q true M) (wE cn (.tup (.cons (.var 10) (.cons (.bi .tuple (.cons (.var 11) .nil)) .nil)))) F xs (C.map rowD) [some (.ref a),some (.int (m:Int)),some (.ref R),some (.int (told:Int)),some (.ref sh),some (.ref b),o,f,some (.ref r),none,v2,v3] j:=by
   intro F xs Z C v2 v3 hx;induction hx generalizing C v2 v3 with
   |nil=>
    intro k;rw[ar];rw[ZA] at k;exact k
   |@cons d x xs Z hd _ ih=>
    intro k;obtain⟨q1,rfl,Lx⟩:=hd;rw[ar];refine⟨rfl,?_⟩;have ev:∀K:DK,K (rowD x) j->wE cn (.tup (.cons (.var 10) (.cons (.bi .tuple (.cons (.var 11) .nil)) .nil))) [some (.ref a),some (.int (m:Int)),some (.ref R),some (.int (told:Int)),some (.ref sh),some (.ref b),o,f,some (.ref r),none,some (.int (x.1:Int)),some (.ref q1)] j K:=by
     intro K hK;simp! only[Lx,rdL];exact hK
    refine ev _ ⟨Vc,?_⟩
    have:=ih (C++[x]) (some (.int (x.1:Int))) (some (.ref q1)) (by simpa using k)
    rw[ZK] at this;exact this
  unfold yS;simp! only[List.set,List.cons_append,XD,List.replicate,Vc];refine shown _ o_ a_ [] none none Ao λw9 Xm=>?_
  rw[XD];have z:Ext j (updM j w9 (.lst (a_.map rowD))):=Ext.new Xm;have gp:updM j w9 (MO.lst (a_.map rowD)) w9=some (.lst (a_.map rowD)):=aa;generalize updM j w9 (MO.lst (a_.map rowD))=Mp at *;have sp:=so.ext z;obtain⟨_,k_,p1,p2,p3,z_,x_,B',h1,-⟩:=id sp;unfold yR;simp! only[List.set,h1,zB,hT,G];refine⟨trivial,sh,m,a_,rfl,sp,λpr Mq L1 Sz gq=>?_⟩;simp! only[gq,Sz _ _ gp,rdL];obtain⟨J3,A_⟩:=wA a_;refine⟨⟨J3,J3,by omega⟩,?_⟩;rw[qr _ J3];simp only[aH];exact .inl ⟨sh,b,m,a_,told,ps,pps,rfl,sp.ext Sz,Sz _ _ (z _ _ (Y _ _ Qo)),P,λMr er=>q Mr⟩
 have ap:∀(l:Zj) (o f:Zz) (M5:MH),Ext u M5->aB (λ_=>True) (.nm 6) (wSs cn pH) { nx:=wSs cn pG (fin Q),rt:=Q } (nats l) [some (.ref a),some (.int (m:Int)),some (.ref R),some (.int (told:Int)),some (.ref sh),some (.ref b),o,f,none,none] M5:=by
  intro l;induction l with
  |nil=>
   intro o f M5 g;rw[show nats []=[] from rfl,aB];exact rest o f M5 g
  |cons k l ih=>
   intro o f M5 g;rw[show nats (k::l)=.int (k:Int)::nats l from rfl,aB];exact body _ k f M5 g λf y J=>⟨trivial,ih _ f y J⟩
 unfold yV;simp! only[List.set,Va];generalize Wm:(((ns.map D.int).length:Nat):Int)=n;have Y1:0<=n:=by omega
 obtain⟨K,hK,hKl⟩:∃K:Nat,(if(if 30<n then 30 else n)>2 then(if 30<n then 30 else n) else 2)=(K:Int)/\K<=30:=by
  by_cases c1:30<n
  ·rw[if_pos c1];exact⟨30,rfl,YE _⟩
  ·rw[if_neg c1]
   by_cases c2:n>2
   ·rw[if_pos c2];exact⟨n.toNat,by omega,by omega⟩
   ·rw[if_neg c2];exact⟨2,rfl,by decide⟩
 rw[hK,cP];exact⟨⟨by omega,by omega⟩,ap (List.range K) none none u (Ext.refl _)⟩
end
end SW
namespace K53
open PySem L2 DD
abbrev qc:List Str:=["sheet","told","papers","claims"]
abbrev oE:List Str:=["sheet","told","papers"]
theorem vM:FnScope qc oE (au gm):=⟨rfl,rfl,rfl,by rfl',rfl,by rfl',by rfl'⟩
abbrev vN:List Str:=["is_right","Claims","is_paper"]
theorem vO:ca ⟨qc,au gm,true,dX,bltL,vN⟩ SH.bG (aO gm)=true:=by rfl'
abbrev oF:List Str:=["many","leanings","found","row","row_leaned","fact","lack"]
abbrev nj:List Str:=["many","leanings"]
theorem uV:FnScope oF nj (au fv):=⟨rfl,rfl,rfl,by rfl',rfl,by rfl',by rfl'⟩
abbrev uW:List Str:=[]
theorem uX:ca ⟨oF,au fv,true,dX,bltL,uW⟩ SH.dY (aO fv)=true:=by rfl'
abbrev kY:List Str:=["_law_source_here","_law_rows_here","_law_fact","_law_paper","_law_others","_law_row","_law_thing","_law_some"]
abbrev kd:List Str:=["_law_source_here","_law_rows_here","_law_fact","_law_paper"]
theorem qQ:FnScope kY kd (au cT):=⟨rfl,rfl,rfl,by rfl',rfl,by rfl',by rfl'⟩
abbrev qR:List Str:=["_law_digit"]
theorem qS:ca ⟨kY,au cT,true,dX,bltL,qR⟩ SW.ir_law_wrong_paper (aO cT)=true:=by rfl'
abbrev qT:List Str:=["_law_source_here","_law_papers","_law_found","_law_some","_law_fact","_law_places","_law_at"]
abbrev qe:List Str:=["_law_source_here","_law_papers"]
theorem wW:FnScope qT qe (au im):=⟨rfl,rfl,rfl,by rfl',rfl,by rfl',by rfl'⟩
abbrev wX:List Str:=["_law_digit"]
theorem wY:ca ⟨qT,au im,true,dX,bltL,wX⟩ SW.ir_law_truths (aO im)=true:=by rfl'
abbrev Fn:List Str:=["_law_script","_law_many","_law_rows_here","_law_told","_law_sheet","_law_papers","_law_k","_law_found","_law_empty","_law_shown"]
abbrev Je:List Str:=["_law_script"]
theorem Jf:FnScope Fn Je (au tG):=⟨rfl,rfl,rfl,by rfl',rfl,by rfl',by rfl'⟩
abbrev Jg:List Str:=["papers_hold","papers_of","Sheet","_law_wrong","_law_source","_law_made"]
theorem Jh:ca ⟨Fn,au tG,true,dX,bltL,Jg⟩ SW.ir_law (aO tG)=true:=by rfl'
end K53
namespace K53
open PySem PySem.Spec PyProof.Rows L2 DD
theorem us0{P:List Value->Prop}(h:P []):∀us:List Value,us.length=0->P us
 |[],_=>h
theorem us1{P:List Value->Prop}(h:∀a,P [a]):∀us:List Value,us.length=1->P us
 |a::t,hl=>us0 (P:=λt=>P (a::t)) (h a) t (Nat.succ.inj hl)
 |[],hl=>nomatch hl
theorem us2{P:List Value->Prop}(h:∀a b,P [a,b]):∀us:List Value,us.length=2->P us
 |a::t,hl=>us1 (P:=λt=>P (a::t)) (h a) t (Nat.succ.inj hl)
 |[],hl=>nomatch hl
theorem us3{P:List Value->Prop}(h:∀a b c,P [a,b,c]):∀us:List Value,us.length=3->P us
 |a::t,hl=>us2 (P:=λt=>P (a::t)) (h a) t (Nat.succ.inj hl)
 |[],hl=>nomatch hl
theorem us4{P:List Value->Prop}(h:∀a b c d,P [a,b,c,d]):∀us:List Value,us.length=4->P us
 |a::t,hl=>us3 (P:=λt=>P (a::t)) (h a) t (Nat.succ.inj hl)
 |[],hl=>nomatch hl
theorem us5{P:List Value->Prop}(h:∀a b c d e,P [a,b,c,d,e]):∀us:List Value,us.length=5->P us
 |a::t,hl=>us4 (P:=λt=>P (a::t)) (h a) t (Nat.succ.inj hl)
 |[],hl=>nomatch hl
theorem us6{P:List Value->Prop}(h:∀a b c d e f,P [a,b,c,d,e,f]):∀us:List Value,us.length=6->P us
 |a::t,hl=>us5 (P:=λt=>P (a::t)) (h a) t (Nat.succ.inj hl)
 |[],hl=>nomatch hl
local macro_rules
 | `(tactic| ac_rfl) => `(tactic| exact ⟨rfl, rfl, rfl, by rfl', rfl, by rfl', by rfl'⟩)
abbrev nO(st:Stmt):List Str:=((au st).names.filter λp=>p.2==.local || p.2==.cell).map (·.1)
local macro_rules
 | `(tactic| ac_nf) => `(tactic| first | exact λ_ _ _ _ _ _ => us1 λ_ => rfl | exact λ_ _ _ _ _ _ => us2 λ_ _ => rfl | exact λ_ _ _ _ _ _ => us3 λ_ _ _ => rfl | exact λ_ _ _ _ _ _ => us4 λ_ _ _ _ => rfl | exact λ_ _ _ _ _ _ => us5 λ_ _ _ _ _ => rfl | exact λ_ _ _ _ _ _ => us6 λ_ _ _ _ _ _ => rfl)
local macro_rules
 | `(tactic| bv_omega) => `(tactic| (intro ds M Q h; first | (obtain ⟨_, e, _⟩ := h; subst e; rfl) | (obtain ⟨_, _, e, _⟩ := h; subst e; rfl) | (obtain ⟨_, _, _, e, _⟩ := h; subst e; rfl) | (obtain ⟨_, _, _, _, e, _⟩ := h; subst e; rfl) | (obtain ⟨_, _, _, _, _, e, _⟩ := h; subst e; rfl) | (obtain ⟨_, _, _, _, _, _, e, _⟩ := h; subst e; rfl) | (obtain ⟨_, _, _, _, _, _, _, e, _⟩ := h; subst e; rfl) | (obtain ⟨_, _, _, _, _, _, _, _, e, _⟩ := h; subst e; rfl) | (obtain ⟨_, _, _, _, _, _, _, _, _, e, _⟩ := h; subst e; rfl) | (obtain ⟨_, _, _, _, _, _, _, _, _, _, e, _⟩ := h; subst e; rfl) | (obtain ⟨_, _, _, _, _, _, _, _, _, _, _, e, _⟩ := h; subst e; rfl) | (obtain ⟨_, _, _, _, _, _, _, _, _, _, _, _, e, _⟩ := h; subst e; rfl) | (obtain ⟨_, _, _, _, _, _, _, _, _, _, _, _, _, e, _⟩ := h; subst e; rfl) | (obtain ⟨_, _, _, _, _, _, _, _, _, _, _, _, _, _, e, _⟩ := h; subst e; rfl)))
def metC(c:SH.CA):MT0:=λa m=>(SH.kindAt c a).bind λk=>if m = "carried" then some (SH.bP c k) else if m = "leaning" then some (SH.bR c k) else if m = "blocked" then some (SH.bQ c k) else if m = "shown" then some (SH.cu c k) else none
def metS(c:SH.CA)(S:Addr):MT0:=λa m=>if a=S then(if m = "how_many" then some (SH.cE c S) else if m = "rows_for" then some (SH.eO c S) else if m = "rows_helped" then some (SH.eQ c S) else if m = "head_of" then some (SH.eR c S) else if m = "conds_of" then some (SH.di c S) else if m = "row_count" then some (SH.fH c S) else none) else none
def Ds(S:Addr):OK0:=λC f=>C=S/\f∈SH.fX
def BB(Z:Addr):OK0:=λC f=>C=Z/\f∈SH.pw
def metZ(Z:Addr):MT0:=λa m=>if a=Z then(if m = "runs" then some (SH.qK Z) else if m = "answer_of" then some (SH.iT Z) else if m = "true_round" then some (SH.f7 Z) else if m = "false_round" then some (SH.fh Z) else none) else none
theorem Dt{Z:Addr}:metZ Z Z "runs" = some (SH.qK Z):=by unfold metZ;rw[if_pos rfl];kernel_rfl
theorem vP{Z:Addr}:metZ Z Z "answer_of" = some (SH.iT Z):=by unfold metZ;rw[if_pos rfl];kernel_rfl
theorem uY{Z:Addr}:metZ Z Z "true_round" = some (SH.f7 Z):=by unfold metZ;rw[if_pos rfl];kernel_rfl
theorem sY{Z:Addr}:metZ Z Z "false_round" = some (SH.fh Z):=by unfold metZ;rw[if_pos rfl];kernel_rfl
def Ji(W:Addr):OK0:=λC f=>C=W/\f∈SH.j9
def metW(W:Addr):MT0:=λa m=>if a=W then(if m = "true_ahead" then some (SH.f8 W) else if m = "true_by_rounds" then some (SH.l9 W) else if m = "not_false_by" then some (SH.de W) else if m = "open_ahead" then some (SH.f9 W) else none) else none
theorem uZ{W:Addr}:metW W W "true_ahead" = some (SH.f8 W):=by unfold metW;rw[if_pos rfl];kernel_rfl
theorem qf{W:Addr}:metW W W "true_by_rounds" = some (SH.l9 W):=by unfold metW;rw[if_pos rfl];kernel_rfl
theorem kZ{W:Addr}:metW W W "not_false_by" = some (SH.de W):=by unfold metW;rw[if_pos rfl];kernel_rfl
theorem u6{W:Addr}:metW W W "open_ahead" = some (SH.f9 W):=by unfold metW;rw[if_pos rfl];kernel_rfl
def metJ(A B:MT0):MT0:=λa m=>match A a m with
 |some sp=>some sp
 |none=>B a m
theorem oG{A B:MT0}{a:Addr}{m:Str}{sp:SpD}(h:A a m=some sp):metJ A B a m=some sp:=by unfold metJ;rw[h]
theorem jb{A B:MT0}{a:Addr}{m:Str}{sp:SpD}(h:A a m=none)(h':B a m=some sp):metJ A B a m=some sp:=by unfold metJ;rw[h];exact h'
section
variable {P:Zw}{w:World}{K:Za}{mg:Ze}{base:Heap}{c:SH.CA}{S Z W:Addr}{k:Nat}
theorem yY(h:c.apart)(t:SH.CT):metC c (c.at t.kind) "carried" = some (SH.bP c t.kind):=by
 unfold metC;rw[h _ t.kind_lt];rfl
theorem yZ(h:c.apart)(t:SH.CT):metC c (c.at t.kind) "leaning" = some (SH.bR c t.kind):=by
 unfold metC;rw[h _ t.kind_lt];rfl
theorem dJ:metS c S S "how_many" = some (SH.cE c S):=by unfold metS;rw[if_pos rfl];kernel_rfl
theorem kG:metS c S S "rows_for" = some (SH.eO c S):=by unfold metS;rw[if_pos rfl];kernel_rfl
theorem sZ:metS c S S "rows_helped" = some (SH.eQ c S):=by unfold metS;rw[if_pos rfl];kernel_rfl
theorem jc:metS c S S "head_of" = some (SH.eR c S):=by unfold metS;rw[if_pos rfl];kernel_rfl
theorem gB:metS c S S "conds_of" = some (SH.di c S):=by unfold metS;rw[if_pos rfl];kernel_rfl
theorem BC(h:c.apart)(t:SH.CT):metC c (c.at t.kind) "shown" = some (SH.cu c t.kind):=by
 unfold metC;rw[h _ t.kind_lt];rfl
theorem y0(h:c.apart)(t:SH.CT):metC c (c.at t.kind) "blocked" = some (SH.bQ c t.kind):=by
 unfold metC;rw[h _ t.kind_lt];rfl
theorem oH:metS c S S "row_count" = some (SH.fH c S):=by unfold metS;rw[if_pos rfl];kernel_rfl
theorem y7{a:Addr}:metS c S a "runs" = none:=by
 unfold metS;split<;>kernel_rfl
theorem rW{a:Addr}:metS c S a "answer_of" = none:=by
 unfold metS;split<;>kernel_rfl
theorem qU{a:Addr}:metS c S a "true_round" = none:=by
 unfold metS;split<;>kernel_rfl
theorem qg{a:Addr}:metS c S a "false_round" = none:=by
 unfold metS;split<;>kernel_rfl
theorem qV{a:Addr}:metS c S a "true_ahead" = none:=by
 unfold metS;split<;>kernel_rfl
theorem nM{a:Addr}:metS c S a "true_by_rounds" = none:=by
 unfold metS;split<;>kernel_rfl
theorem jd{a:Addr}:metS c S a "not_false_by" = none:=by
 unfold metS;split<;>kernel_rfl
theorem qW{a:Addr}:metS c S a "open_ahead" = none:=by
 unfold metS;split<;>kernel_rfl
theorem fnH{h:Heap}{x:Str}{st:Stmt}{N:Zf}{sp:SpD}{a:Ss}{glob blt fns:Zf}{cn:Cn}(A:HDef K x st){ps:Zf}(X:K.In h)(G:h.Ns mainGlobals mg)
  (hb:∀(kV r_ pm:Value) (an:Zm) (p_ ct:Value) (us:Zd),us.length=ps.length->bindArgs (PySem.W.fnOf x x (bp st) (aO st) (au st) .none kV r_ pm an p_ ct) ⟨us,[]⟩=pure (ps.zip us))
  (S:FnScope N ps (au st)) (nm:Names P w K mg base k glob blt fns cn) (hc:ca ⟨N,au st,true,glob,blt,fns⟩ a (aO st)=true) (len:∀ds M Q,sp ds M Q->ds.length=ps.length)
  (h':∀ds M Q,sp ds M Q->wSs cn a { nx:=λ_ M'=>Q .non M',rt:=Q } (ad N ds) M):FnD P w K mg base (k+1) x sp:=by
 obtain⟨_,_,A⟩:=A;exact II (A.def_ X G hb) S nm hc len h'
theorem G7{f:Addr}{fd:Zv}{ps:Zf}{s1 s2:SpD}(a:FnOk P w K mg base CX0 k f fd ps (dC K s1))(b:FnOk P w K mg base CX0 k f fd ps (dC K s2)):FnOk P w K mg base CX0 k f fd ps (dC K λds M Q=>s1 ds M Q\/s2 ds M Q):=by
 refine⟨λvs H Q E h=>?_,λA outer j H args us vs Q E l n o p h=>?_⟩
 ·obtain⟨ds,M,d,r,m,s,g⟩:=h
  rcases s with s | s
  ·exact a.len vs H Q E ⟨ds,M,d,r,m,s,g⟩
  ·exact b.len vs H Q E ⟨ds,M,d,r,m,s,g⟩
 ·obtain⟨ds,M,d,r,m,s,g⟩:=h
  rcases s with s | s
  ·exact a.run A outer j H args us vs Q E l n o p ⟨ds,M,d,r,m,s,g⟩
  ·exact b.run A outer j H args us vs Q E l n o p ⟨ds,M,d,r,m,s,g⟩
theorem fnH2{h:Heap}{x:Str}{st:Stmt}{N:Zf}{s1 s2:SpD}{a:Ss}{glob blt fns:Zf}{b d:Cn}(A:HDef K x st){ps:Zf}(X:K.In h)(G:h.Ns mainGlobals mg)
  (hb:∀(kV r_ pm:Value) (an:Zm) (p_ ct:Value) (us:Zd),us.length=ps.length->bindArgs (PySem.W.fnOf x x (bp st) (aO st) (au st) .none kV r_ pm an p_ ct) ⟨us,[]⟩=pure (ps.zip us))
  (S:FnScope N ps (au st)) (g:Names P w K mg base k glob blt fns b) (j:Names P w K mg base k glob blt fns d) (hc:ca ⟨N,au st,true,glob,blt,fns⟩ a (aO st)=true) (l1:∀ds M Q,s1 ds M Q->ds.length=ps.length) (l2:∀ds M Q,s2 ds M Q->ds.length=ps.length)
  (l:∀ds M Q,s1 ds M Q->wSs b a { nx:=λ_ M'=>Q .non M',rt:=Q } (ad N ds) M) (m:∀ds M Q,s2 ds M Q->wSs d a { nx:=λ_ M'=>Q .non M',rt:=Q } (ad N ds) M):FnD P w K mg base (k+1) x (λds M Q=>s1 ds M Q\/s2 ds M Q):=by
 obtain⟨f,fd,A⟩:=A;exact⟨st,ps,f,fd,A.def_ X G hb,G7 (qB A.fun_ S g hc l1 l) (qB A.fun_ S j hc l2 m)⟩
theorem bh{C:Addr}{m i_:Str}{st:Stmt}{ps N:Zf}{sp:SpD}{a:Ss}{glob blt fns:Zf}{cn:Cn}(cl:Cls K C)(A:aS K C m i_ st)(S:FnScope N ps (au st))(nm:Names P w K mg base k glob blt fns cn)
  (hb:∀(kV r_ pm:Value) (an:Zm) (p_ ct:Value) (us:Zd),us.length=ps.length->bindArgs (PySem.W.fnOf m i_ (bp st) (aO st) (au st) .none kV r_ pm an p_ ct) ⟨us,[]⟩=pure (ps.zip us))
  (hc:ca ⟨N,au st,true,glob,blt,fns⟩ a (aO st)=true) (len:∀ds M Q,sp ds M Q->ds.length=ps.length)
  (h:∀ds M Q,sp ds M Q->wSs cn a { nx:=λ_ M'=>Q .non M',rt:=Q } (ad N ds) M):aM P w K mg base (k+1) C m sp:=by
 obtain⟨_,_,A⟩:=A;exact EE cl A S nm hb hc len h
theorem mkH{x:Str}{C:Addr}{i_:Str}{st:Stmt}{ps N:Zf}{sp:SpD}{a:Ss}{glob blt fns:Zf}{cn:Cn}(hx:mg x=some (.ref C))(hm:PySem.W.makesIn K C=true)(hk:PySem.W.keepIn K (.ref C)=true)(A:aS K C "__init__" i_ st)
  (S:FnScope N ps (au st)) (nm:Names P w K mg base k glob blt fns cn)
  (hb:∀(kV r_ pm:Value) (an:Zm) (p_ ct:Value) (us:Zd),us.length=ps.length->bindArgs (PySem.W.fnOf "__init__" i_ (bp st) (aO st) (au st) .none kV r_ pm an p_ ct) ⟨us,[]⟩=pure (ps.zip us))
  (hc:ca ⟨N,au st,true,glob,blt,fns⟩ a (aO st)=true) (len:∀ds M Q,sp ds M Q->ds.length=ps.length)
  (h:∀ds M Q,sp ds M Q->wSs cn a { nx:=λ_ M'=>Q .non M',rt:=Q } (ad N ds) M):cX P w K mg base (k+2) x (bm C sp):=by
 obtain⟨_,_,A⟩:=A;exact IJ hx hm hk A S nm hb hc len h
structure Env0 (K:Za) (mg:Ze) (c:SH.CA) (S Z W:Addr):Prop where
 gl:∀(j:Nat) x,dX[j]?=some x->ql K mg x (k7.getD j .non)
 bl:∀x,bltL.contains x=true->mg x=none
 cl:∀i,i<4->clsIn K (c.at i) SH.gK=true
 sh:clsIn K S SH.fX=true
 so:clsIn K Z SH.pw=true
 cw:clsIn K W SH.j9=true
theorem Env0.fl(E:Env0 K mg c S Z W):∀C f,SH.fldO c C f->Cls K C/\cm K C f:=by
 rintro C f ⟨i,hi,rfl,hf⟩;exact⟨aC (E.cl i hi),oO (E.cl i hi) hf⟩
theorem Env0.fs(E:Env0 K mg c S Z W):∀C f,Ds S C f->Cls K C/\cm K C f:=by
 rintro C f ⟨rfl,hf⟩;exact⟨aC E.sh,oO E.sh hf⟩
abbrev Fns(P:Zw)(w:World)(K:Za)(mg:Ze)(base:Heap)(k:Nat)(fns:Zf)(F:List SpD):Prop:=∀(j:Nat) (x:Str),fns[j]?=some x->∃k',k'<=k/\cX P w K mg base k' x (F.getD j λ_ _ _=>False)
theorem nm0{fns:Zf}{F:List SpD}(E:Env0 K mg c S Z W)(hf:Fns P w K mg base k fns F):
 Names P w K mg base k dX bltL fns ⟨F,k7,SH.fldO c,λ_ _=>none,λ_ _=>none⟩:=⟨E.gl,E.bl,hf,E.fl,(λ_ _ _ z=>nomatch z),(λ_ _ _ z=>nomatch z)⟩
theorem nmO{fns:Zf}{F:List SpD}(E:Env0 K mg c S Z W)(hf:Fns P w K mg base k fns F):
 Names P w K mg base k dX bltL fns ⟨F,k7,Ds S,λ_ _=>none,λ_ _=>none⟩:=⟨E.gl,E.bl,hf,E.fs,(λ_ _ _ z=>nomatch z),(λ_ _ _ z=>nomatch z)⟩
theorem nmC{fns:Zf}{F:List SpD}(E:Env0 K mg c S Z W)(mt:∀C m sp,metC c C m=some sp->∃k',k'<=k/\aM P w K mg base k' C m sp)(hf:Fns P w K mg base k fns F):
 Names P w K mg base k dX bltL fns ⟨F,k7,SH.fldO c,metC c,λ_ _=>none⟩:=⟨E.gl,E.bl,hf,E.fl,mt,(λ_ _ _ z=>nomatch z)⟩
theorem nmS{fns:Zf}{F:List SpD}(E:Env0 K mg c S Z W)(mt:∀C m sp,metS c S C m=some sp->∃k',k'<=k/\aM P w K mg base k' C m sp)(hf:Fns P w K mg base k fns F):
 Names P w K mg base k dX bltL fns ⟨F,k7,SH.fldO c,metS c S,λ_ _=>none⟩:=⟨E.gl,E.bl,hf,E.fl,mt,(λ_ _ _ z=>nomatch z)⟩
theorem aY{T:MT0}{j:Nat}(h:j<=k)(mt:∀C m sp,T C m=some sp->∃k',k'<=j/\aM P w K mg base k' C m sp):∀C m sp,T C m=some sp->∃k',k'<=k/\aM P w K mg base k' C m sp:=λC m sp e=>let⟨k',h1,h2⟩:=mt C m sp e;⟨k',ZW h1 h,h2⟩
theorem Env0.fz(E:Env0 K mg c S Z W):∀C f,BB Z C f->Cls K C/\cm K C f:=by
 rintro C f ⟨rfl,hf⟩;exact⟨aC E.so,oO E.so hf⟩
theorem nmZO{fns:Zf}{F:List SpD}(E:Env0 K mg c S Z W)(hf:Fns P w K mg base k fns F):
 Names P w K mg base k dX bltL fns ⟨F,k7,BB Z,λ_ _=>none,λ_ _=>none⟩:=⟨E.gl,E.bl,hf,E.fz,(λ_ _ _ z=>nomatch z),(λ_ _ _ z=>nomatch z)⟩
theorem nmSZ{fns:Zf}{F:List SpD}(E:Env0 K mg c S Z W)(mt:∀C m sp,metS c S C m=some sp->∃k',k'<=k/\aM P w K mg base k' C m sp)(hf:Fns P w K mg base k fns F):
 Names P w K mg base k dX bltL fns ⟨F,k7,BB Z,metS c S,λ_ _=>none⟩:=⟨E.gl,E.bl,hf,E.fz,mt,(λ_ _ _ z=>nomatch z)⟩
theorem Env0.fw(E:Env0 K mg c S Z W):∀C f,Ji W C f->Cls K C/\cm K C f:=by
 rintro C f ⟨rfl,hf⟩;exact⟨aC E.cw,oO E.cw hf⟩
theorem nmG{O:OK0}{T:MT0}{fns:Zf}{F:List SpD}(E:Env0 K mg c S Z W)(ho:∀C f,O C f->Cls K C/\cm K C f)(mt:∀C m sp,T C m=some sp->∃k',k'<=k/\aM P w K mg base k' C m sp)(hf:Fns P w K mg base k fns F):
 Names P w K mg base k dX bltL fns ⟨F,k7,O,T,λ_ _=>none⟩:=⟨E.gl,E.bl,hf,ho,mt,(λ_ _ _ z=>nomatch z)⟩
def met1(V:Addr)(x:Str)(sp:SpD):MT0:=λa m=>if a=V/\m=x then some sp else none
theorem G9{V:Addr}{x:Str}{sp:SpD}:met1 V x sp V x=some sp:=by unfold met1;rw[if_pos ⟨rfl,rfl⟩]
theorem mt1{V:Addr}{x:Str}{sp:SpD}{j:Nat}(b:j<=k)(h:aM P w K mg base j V x sp):∀C m a,met1 V x sp C m=some a->∃k',k'<=k/\aM P w K mg base k' C m a:=by
 intro C m a e;unfold met1 at e;split at e
 ·rename_i q
  obtain⟨rfl,rfl⟩:=q;cases e;exact⟨j,b,h⟩
 ·cases e
theorem mtJ{A B:MT0}(mA:∀C m a,A C m=some a->∃k',k'<=k/\aM P w K mg base k' C m a)(b:∀C m a,B C m=some a->∃k',k'<=k/\aM P w K mg base k' C m a):∀C m a,metJ A B C m=some a->∃k',k'<=k/\aM P w K mg base k' C m a:=by
 intro C m a e;unfold metJ at e;split at e
 ·rename_i sp h
  cases e;exact mA C m _ h
 ·exact b C m a e
theorem pI(i:Nat){n:Nat}(h:∀t:SH.CT,t.kind=i->t.flds.length+1=n){ps:Zf}(hp:ps.length=n):∀ds M Q,SH.cc c i ds M Q->ds.length=ps.length:=by
 rintro ds M Q ⟨a,t,hk,rfl,_⟩;rw[YH,ZE,h t hk,hp]
theorem Jj(E:Env0 K mg c S Z W)
  (r:c.apart)
  {hp:Heap}
  (X:K.In hp)
  (G:hp.Ns mainGlobals mg)
  {R:Addr}{U:Zv}(Kt:DefAt K "law" tG R U)
  (Pp:mg "Have" = some (.ref (c.at 0))) (Pq:PySem.W.makesIn K (c.at 0)=true) (Pr:PySem.W.keepIn K (.ref (c.at 0))=true)
  (Pt:mg "Lack" = some (.ref (c.at 1))) (Pu:PySem.W.makesIn K (c.at 1)=true) (Pw:PySem.W.keepIn K (.ref (c.at 1))=true)
  (Px:mg "Some" = some (.ref (c.at 2))) (Py:PySem.W.makesIn K (c.at 2)=true) (Pz:PySem.W.keepIn K (.ref (c.at 2))=true)
  (PB:mg "Lead" = some (.ref (c.at 3))) (PC:PySem.W.makesIn K (c.at 3)=true) (PD:PySem.W.keepIn K (.ref (c.at 3))=true)
  (PF:mg "Sheet" = some (.ref S)) (PH:PySem.W.makesIn K S=true) (PJ:PySem.W.keepIn K (.ref S)=true)
  (PK:mg "Sorting" = some (.ref Z)) (PL:PySem.W.makesIn K Z=true) (PM:PySem.W.keepIn K (.ref Z)=true)
  (PN:mg "Claims" = some (.ref W)) (PQ:PySem.W.makesIn K W=true) (PR:PySem.W.keepIn K (.ref W)=true)
  (hy:Hyps K (c.at 0) (c.at 1) (c.at 2) (c.at 3) S Z W):
  FnOk P w K mg base CX0 13 R U ["_law_script"] (dC K SW.spLaw):=by
 have a:FnD P w K mg base 1 "has_fact" (SH.bn):=fnH hy.a_0 (N:=nO oP) (ps:=(nO oP).take 2) X G (by ac_nf) 'h' (nm0 (F:=[]) (k:=0) E 'g') 'f' 'e' (λds M Q h=>SH.zf h);have u:FnD P w K mg base 2 "count_in" (SH.dM):=fnH hy.a_1 (N:=nO oQ) (ps:=(nO oQ).take 2) X G (by ac_nf) 'h' (nm0 (F:=[SH.bn]) (k:=1) E (ab 'a' (.inl a) 'g')) 'f' 'e' (λds M Q h=>SH.zg rfl h);have Xn:FnD P w K mg base 2 "answer_in" (SH.lh):=fnH hy.a_2 (N:=nO np) (ps:=(nO np).take 3) X G (by ac_nf) 'h' (nm0 (F:=[SH.bn]) (k:=1) E (ab 'a' (.inl a) 'g')) 'f' 'e' (λds M Q h=>SH.yH rfl h);have d:FnD P w K mg base 1 "set_of" (SH.bD):=fnH hy.a_3 (N:=nO su) (ps:=(nO su).take 1) X G (by ac_nf) 'h' (nm0 (F:=[]) (k:=0) E 'g') 'f' 'e' (λds M Q h=>SH.C0 h);have SA:cX P w K mg base 2 "Have" (bm (c.at 0) (SH.cc c 0)):=mkH (N:=nO nw) (ps:=(nO nw).take 2) Pp Pq Pr hy.a_63 'h' (nm0 (F:=[]) (k:=0) E 'g') (by ac_nf) 'f' (pI 0 (n:=2) (λt ht=>by cases t<;>first | rfl | cases ht) rfl) (λds M Q h=>SH.x4 rfl h);have SD:aM P w K mg base 2 (c.at 0) "carried" (SH.bP c 0):=bh (N:=nO jj) (ps:=(nO jj).take 3) (aC (E.cl 0 'a')) hy.a_64 'h' (nm0 (F:=[SH.bn]) (k:=1) E (ab 'a' (.inl a) 'g')) (by ac_nf) 'f' 'e' (λds M Q h=>SH.uf rfl rfl h);have SE:aM P w K mg base 1 (c.at 0) "leaning" (SH.bR c 0):=bh (N:=nO jl) (ps:=(nO jl).take 1) (aC (E.cl 0 'a')) hy.a_65 'h' (nm0 (F:=[]) (k:=0) E 'g') (by ac_nf) 'f' 'e' (λds M Q h=>SH.ut rfl h);have SF:aM P w K mg base 2 (c.at 0) "blocked" (SH.bQ c 0):=bh (N:=nO jk) (ps:=(nO jk).take 3) (aC (E.cl 0 'a')) hy.a_66 'h' (nm0 (F:=[SH.bn]) (k:=1) E (ab 'a' (.inl a) 'g')) (by ac_nf) 'f' 'e' (λds M Q h=>SH.uh rfl rfl h);have SG:aM P w K mg base 1 (c.at 0) "shown" (SH.cu c 0):=bh (N:=nO lD) (ps:=(nO lD).take 1) (aC (E.cl 0 'a')) hy.a_67 'h' (nm0 (F:=[]) (k:=0) E 'g') (by ac_nf) 'f' 'e' (λds M Q h=>SH.wF rfl h);have SI:cX P w K mg base 2 "Lack" (bm (c.at 1) (SH.cc c 1)):=mkH (N:=nO ny) (ps:=(nO ny).take 2) Pt Pu Pw hy.a_68 'h' (nm0 (F:=[]) (k:=0) E 'g') (by ac_nf) 'f' (pI 1 (n:=2) (λt ht=>by cases t<;>first | rfl | cases ht) rfl) (λds M Q h=>SH.x9 rfl h);have SJ:aM P w K mg base 2 (c.at 1) "carried" (SH.bP c 1):=bh (N:=nO jm) (ps:=(nO jm).take 3) (aC (E.cl 1 'a')) hy.a_69 'h' (nm0 (F:=[SH.bn]) (k:=1) E (ab 'a' (.inl a) 'g')) (by ac_nf) 'f' 'e' (λds M Q h=>SH.uk rfl rfl h);have SK:aM P w K mg base 1 (c.at 1) "leaning" (SH.bR c 1):=bh (N:=nO jo) (ps:=(nO jo).take 1) (aC (E.cl 1 'a')) hy.a_70 'h' (nm0 (F:=[]) (k:=0) E 'g') (by ac_nf) 'f' 'e' (λds M Q h=>SH.uu rfl h);have SM:aM P w K mg base 2 (c.at 1) "blocked" (SH.bQ c 1):=bh (N:=nO jn) (ps:=(nO jn).take 3) (aC (E.cl 1 'a')) hy.a_71 'h' (nm0 (F:=[SH.bn]) (k:=1) E (ab 'a' (.inl a) 'g')) (by ac_nf) 'f' 'e' (λds M Q h=>SH.ug rfl rfl h);have SN:aM P w K mg base 1 (c.at 1) "shown" (SH.cu c 1):=bh (N:=nO lE) (ps:=(nO lE).take 1) (aC (E.cl 1 'a')) hy.a_72 'h' (nm0 (F:=[]) (k:=0) E 'g') (by ac_nf) 'f' 'e' (λds M Q h=>SH.wG rfl h);have SO:cX P w K mg base 2 "Some" (bm (c.at 2) (SH.cc c 2)):=mkH (N:=nO nz) (ps:=(nO nz).take 3) Px Py Pz hy.a_73 'h' (nm0 (F:=[]) (k:=0) E 'g') (by ac_nf) 'f' (pI 2 (n:=3) (λt ht=>by cases t<;>first | rfl | cases ht) rfl) (λds M Q h=>SH.ya rfl h);have SR:aM P w K mg base 3 (c.at 2) "carried" (SH.bP c 2):=bh (N:=nO jp) (ps:=(nO jp).take 3) (aC (E.cl 2 'a')) hy.a_74 'h' (nm0 (F:=[SH.dM]) (k:=2) E (ab 'a' (.inl u) 'g')) (by ac_nf) 'f' 'e' (λds M Q h=>SH.ul rfl rfl h);have SS:aM P w K mg base 1 (c.at 2) "leaning" (SH.bR c 2):=bh (N:=nO jr) (ps:=(nO jr).take 1) (aC (E.cl 2 'a')) hy.a_75 'h' (nm0 (F:=[]) (k:=0) E 'g') (by ac_nf) 'f' 'e' (λds M Q h=>SH.uv rfl h);have SU:aM P w K mg base 3 (c.at 2) "blocked" (SH.bQ c 2):=bh (N:=nO jq) (ps:=(nO jq).take 3) (aC (E.cl 2 'a')) hy.a_76 'h' (nm0 (F:=[SH.dM]) (k:=2) E (ab 'a' (.inl u) 'g')) (by ac_nf) 'f' 'e' (λds M Q h=>SH.um rfl rfl h);have SV:aM P w K mg base 1 (c.at 2) "shown" (SH.cu c 2):=bh (N:=nO lF) (ps:=(nO lF).take 1) (aC (E.cl 2 'a')) hy.a_77 'h' (nm0 (F:=[]) (k:=0) E 'g') (by ac_nf) 'f' 'e' (λds M Q h=>SH.wH rfl h);have SX:cX P w K mg base 2 "Lead" (bm (c.at 3) (SH.cc c 3)):=mkH (N:=nO nA) (ps:=(nO nA).take 3) PB PC PD hy.a_78 'h' (nm0 (F:=[]) (k:=0) E 'g') (by ac_nf) 'f' (pI 3 (n:=3) (λt ht=>by cases t<;>first | rfl | cases ht) rfl) (λds M Q h=>SH.yb rfl h);have SY:aM P w K mg base 3 (c.at 3) "carried" (SH.bP c 3):=bh (N:=nO jt) (ps:=(nO jt).take 3) (aC (E.cl 3 'a')) hy.a_79 'h' (nm0 (F:=[SH.bn,SH.dM]) (k:=2) E (ab 'a' (.inl a) (ab 'a' (.inl u) 'g'))) (by ac_nf) 'f' 'e' (λds M Q h=>SH.uq rfl rfl rfl h);have SZ:aM P w K mg base 1 (c.at 3) "leaning" (SH.bR c 3):=bh (N:=nO jv) (ps:=(nO jv).take 1) (aC (E.cl 3 'a')) hy.a_80 'h' (nm0 (F:=[]) (k:=0) E 'g') (by ac_nf) 'f' 'e' (λds M Q h=>SH.uw rfl h);have S0:aM P w K mg base 3 (c.at 3) "blocked" (SH.bQ c 3):=bh (N:=nO ju) (ps:=(nO ju).take 3) (aC (E.cl 3 'a')) hy.a_81 'h' (nm0 (F:=[SH.bn,SH.dM]) (k:=2) E (ab 'a' (.inl a) (ab 'a' (.inl u) 'g'))) (by ac_nf) 'f' 'e' (λds M Q h=>SH.ur rfl rfl rfl h);have S1:aM P w K mg base 1 (c.at 3) "shown" (SH.cu c 3):=bh (N:=nO lG) (ps:=(nO lG).take 1) (aC (E.cl 3 'a')) hy.a_82 'h' (nm0 (F:=[]) (k:=0) E 'g') (by ac_nf) 'f' 'e' (λds M Q h=>SH.wJ rfl h);have S7:aM P w K mg base 1 S "how_many" (SH.cE c S):=bh (N:=nO gE) (ps:=(nO gE).take 1) (aC E.sh) hy.a_84 'h' (nmO (F:=[]) (k:=0) E 'g') (by ac_nf) 'f' 'e' (λds M Q h=>SH.zp (λf hf=>⟨rfl,hf⟩) h);have S9:aM P w K mg base 1 S "rows_for" (SH.eO c S):=bh (N:=nO gG) (ps:=(nO gG).take 2) (aC E.sh) hy.a_85 'h' (nmO (F:=[]) (k:=0) E 'g') (by ac_nf) 'f' 'e' (λds M Q h=>SH.zq (λf hf=>⟨rfl,hf⟩) h);have S_:aM P w K mg base 1 S "rows_helped" (SH.eQ c S):=bh (N:=nO dW) (ps:=(nO dW).take 2) (aC E.sh) hy.a_86 'h' (nmO (F:=[]) (k:=0) E 'g') (by ac_nf) 'f' 'e' (λds M Q h=>SH.vv (λf hf=>⟨rfl,hf⟩) h);have Ta:aM P w K mg base 1 S "head_of" (SH.eR c S):=bh (N:=nO io) (ps:=(nO io).take 2) (aC E.sh) hy.a_87 'h' (nmO (F:=[]) (k:=0) E 'g') (by ac_nf) 'f' 'e' (λds M Q h=>SH.Bs (λf hf=>⟨rfl,hf⟩) h);have Tb:aM P w K mg base 1 S "conds_of" (SH.di c S):=bh (N:=nO gH) (ps:=(nO gH).take 2) (aC E.sh) hy.a_88 'h' (nmO (F:=[]) (k:=0) E 'g') (by ac_nf) 'f' 'e' (λds M Q h=>SH.zr (λf hf=>⟨rfl,hf⟩) h);have Tc:aM P w K mg base 1 S "row_count" (SH.fH c S):=bh (N:=nO fJ) (ps:=(nO fJ).take 1) (aC E.sh) hy.a_62 'h' (nmO (F:=[]) (k:=0) E 'g') (by ac_nf) 'f' 'e' (λds M Q h=>SH.yF (λf hf=>⟨rfl,hf⟩) h);have Td:aM P w K mg base 1 Z "runs" (SH.qK Z):=bh (N:=nO jx) (ps:=(nO jx).take 1) (aC E.so) hy.a_58 'h' (nmZO (F:=[]) (k:=0) E 'g') (by ac_nf) 'f' 'e' (λds M Q h=>SH.GW (λf hf=>⟨rfl,hf⟩) h);have Te:aM P w K mg base 3 Z "answer_of" (SH.iT Z):=bh (N:=nO dR) (ps:=(nO dR).take 2) (aC E.so) hy.a_59 'h' (nmZO (F:=[SH.lh]) (k:=2) E (ab 'a' (.inl Xn) 'g')) (by ac_nf) 'f' 'e' (λds M Q h=>SH.yI (λf hf=>⟨rfl,hf⟩) rfl h);have Tf:aM P w K mg base 2 Z "true_round" (SH.f7 Z):=bh (N:=nO dm) (ps:=(nO dm).take 2) (aC E.so) hy.a_60 'h' (nmZO (F:=[SH.bn]) (k:=1) E (ab 'a' (.inl a) 'g')) (by ac_nf) 'f' 'e' (λds M Q h=>SH.wQ (λf hf=>⟨rfl,hf⟩) rfl h);have Tg:aM P w K mg base 2 Z "false_round" (SH.fh Z):=bh (N:=nO cZ) (ps:=(nO cZ).take 2) (aC E.so) hy.a_61 'h' (nmZO (F:=[SH.bn]) (k:=1) E (ab 'a' (.inl a) 'g')) (by ac_nf) 'f' 'e' (λds M Q h=>SH.vD (λf hf=>⟨rfl,hf⟩) rfl h);have Ti:aM P w K mg base 2 W "true_ahead" (SH.f8 W):=bh (N:=nO dS) (ps:=(nO dS).take 3) (aC E.cw) hy.a_54 'h' (nmG (T:=λ_ _=>none) (F:=[SH.bD]) (k:=1) E E.fw (λ_ _ _ z=>nomatch z) (ab 'a' (.inl d) 'g')) (by ac_nf) 'f' 'e' (λds M Q h=>SH.wR (λf hf=>⟨rfl,hf⟩) rfl h);have Tj:aM P w K mg base 2 W "true_by_rounds" (SH.l9 W):=bh (N:=nO cr) (ps:=(nO cr).take 2) (aC E.cw) hy.a_55 'h' (nmG (T:=λ_ _=>none) (F:=[SH.bD]) (k:=1) E E.fw (λ_ _ _ z=>nomatch z) (ab 'a' (.inl d) 'g')) (by ac_nf) 'f' 'e' (λds M Q h=>SH.Bz (λf hf=>⟨rfl,hf⟩) rfl h);have Tl:aM P w K mg base 2 W "not_false_by" (SH.de W):=bh (N:=nO c5) (ps:=(nO c5).take 2) (aC E.cw) hy.a_56 'h' (nmG (T:=λ_ _=>none) (F:=[SH.bD]) (k:=1) E E.fw (λ_ _ _ z=>nomatch z) (ab 'a' (.inl d) 'g')) (by ac_nf) 'f' 'e' (λds M Q h=>SH.uM (λf hf=>⟨rfl,hf⟩) rfl h);have Tn:aM P w K mg base 2 W "open_ahead" (SH.f9 W):=bh (N:=nO dU) (ps:=(nO dU).take 2) (aC E.cw) hy.a_57 'h' (nmG (T:=λ_ _=>none) (F:=[SH.bD]) (k:=1) E E.fw (λ_ _ _ z=>nomatch z) (ab 'a' (.inl d) 'g')) (by ac_nf) 'f' 'e' (λds M Q h=>SH.wU (λf hf=>⟨rfl,hf⟩) rfl h);have y:∀C m sp,metC c C m=some sp->∃k',k'<=3/\aM P w K mg base k' C m sp:=by
  intro C m sp e;unfold metC at e;have at_:∀i,SH.kindAt c C=some i->C=c.at i/\i<4:=by
   intro i hi;unfold SH.kindAt at hi;split at hi
   ·cases hi;exact⟨by assumption,by decide⟩
   ·split at hi
    ·cases hi;exact⟨by assumption,by decide⟩
    ·split at hi
     ·cases hi;exact⟨by assumption,by decide⟩
     ·split at hi
      ·cases hi;exact⟨by assumption,by decide⟩
      ·cases hi
  cases q:SH.kindAt c C with
  |none=>rw[q] at e;cases e
  |some i=>
   rw[q] at e;obtain⟨rfl,hi⟩:=at_ i q;have e:(if m = "carried" then some (SH.bP c i) else if m = "leaning" then some (SH.bR c i) else if m = "blocked" then some (SH.bQ c i) else if m = "shown" then some (SH.cu c i) else none)=some sp:=e;have A:i=0\/i=1\/i=2\/i=3:=by omega
   split at e
   ·rename_i hm
    subst hm;cases e;rcases A with rfl | rfl | rfl | rfl
    ·exact⟨_,by decide,SD⟩
    ·exact⟨_,by decide,SJ⟩
    ·exact⟨_,by decide,SR⟩
    ·exact⟨_,by decide,SY⟩
   ·split at e
    ·rename_i hm
     subst hm;cases e;rcases A with rfl | rfl | rfl | rfl
     ·exact⟨_,by decide,SE⟩
     ·exact⟨_,by decide,SK⟩
     ·exact⟨_,by decide,SS⟩
     ·exact⟨_,by decide,SZ⟩
    ·split at e
     ·rename_i hm
      subst hm;cases e;rcases A with rfl | rfl | rfl | rfl
      ·exact⟨_,by decide,SF⟩
      ·exact⟨_,by decide,SM⟩
      ·exact⟨_,by decide,SU⟩
      ·exact⟨_,by decide,S0⟩
     ·split at e
      ·rename_i hm
       subst hm;cases e;rcases A with rfl | rfl | rfl | rfl
       ·exact⟨_,by decide,SG⟩
       ·exact⟨_,by decide,SN⟩
       ·exact⟨_,by decide,SV⟩
       ·exact⟨_,by decide,S1⟩
      ·cases e
 have b:∀C m sp,metS c S C m=some sp->∃k',k'<=1/\aM P w K mg base k' C m sp:=by
  intro C m sp e;unfold metS at e;split at e
  ·rename_i o
   subst o;split at e
   ·rename_i hm;subst hm;cases e;exact⟨_,by decide,S7⟩
   ·split at e
    ·rename_i hm;subst hm;cases e;exact⟨_,by decide,S9⟩
    ·split at e
     ·rename_i hm;subst hm;cases e;exact⟨_,by decide,S_⟩
     ·split at e
      ·rename_i hm;subst hm;cases e;exact⟨_,by decide,Ta⟩
      ·split at e
       ·rename_i hm;subst hm;cases e;exact⟨_,by decide,Tb⟩
       ·split at e
        ·rename_i hm;subst hm;cases e;exact⟨_,by decide,Tc⟩
        ·cases e
  ·cases e
 have MZ:∀C m sp,metZ Z C m=some sp->∃k',k'<=3/\aM P w K mg base k' C m sp:=by
  intro C m sp e;unfold metZ at e;split at e
  ·rename_i o
   subst o;split at e
   ·rename_i hm;subst hm;cases e;exact⟨_,by decide,Td⟩
   ·split at e
    ·rename_i hm;subst hm;cases e;exact⟨_,by decide,Te⟩
    ·split at e
     ·rename_i hm;subst hm;cases e;exact⟨_,by decide,Tf⟩
     ·split at e
      ·rename_i hm;subst hm;cases e;exact⟨_,by decide,Tg⟩
      ·cases e
  ·cases e
 have B:∀C m sp,metW W C m=some sp->∃k',k'<=2/\aM P w K mg base k' C m sp:=by
  intro C m sp e;unfold metW at e;split at e
  ·rename_i o
   subst o;split at e
   ·rename_i hm;subst hm;cases e;exact⟨_,by decide,Ti⟩
   ·split at e
    ·rename_i hm;subst hm;cases e;exact⟨_,by decide,Tj⟩
    ·split at e
     ·rename_i hm;subst hm;cases e;exact⟨_,by decide,Tl⟩
     ·split at e
      ·rename_i hm;subst hm;cases e;exact⟨_,by decide,Tn⟩
      ·cases e
  ·cases e
 have J:FnD P w K mg base 4 "all_carried" (SH.ce c):=fnH hy.a_4 (N:=nO ke) (ps:=(nO ke).take 3) X G (by ac_nf) 'h' (nmC (F:=[]) (k:=3) E (aY 'a' y) 'g') 'f' 'e' (λds M Q h=>SH.vt (yY r) h);have Xo:FnD P w K mg base 5 "open_is_right" (SH.jT c S W):=fnH hy.a_5 (N:=nO il) (ps:=(nO il).take 4) X G (by ac_nf) 'h' (nmG (F:=[SH.ce c]) (k:=4) E E.fw (mtJ (aY 'a' b) (aY 'a' B)) (ab 'a' (.inl J) 'g')) 'f' 'e' (λds M Q h=>SH.wV (λf hf=>⟨rfl,hf⟩) (oG kG) (oG gB) (jb qW u6) rfl h);have Xp:FnD P w K mg base 4 "any_blocked" (SH.iP c):=fnH hy.a_6 (N:=nO kf) (ps:=(nO kf).take 3) X G (by ac_nf) 'h' (nmC (F:=[]) (k:=3) E (aY 'a' y) 'g') 'f' 'e' (λds M Q h=>SH.vz (y0 r) h);have Xq:FnD P w K mg base 5 "false_is_right" (SH.iV c S W):=fnH hy.a_7 (N:=nO gD) (ps:=(nO gD).take 4) X G (by ac_nf) 'h' (nmG (F:=[SH.iP c]) (k:=4) E E.fw (mtJ (aY 'a' b) (aY 'a' B)) (ab 'a' (.inl Xp) 'g')) 'f' 'e' (λds M Q h=>SH.vI (oG kG) (oG gB) (jb nM qf) (jb jd kZ) rfl h);have V:FnD P w K mg base 6 "is_right" (SH.kc c S W):=fnH hy.a_8 (N:=nO oS) (ps:=(nO oS).take 5) X G (by ac_nf) 'h' (nmG (F:=[SH.jT c S W,SH.iV c S W,SH.bn,SH.ce c]) (k:=5) E E.fw (mtJ (aY 'a' b) (aY 'a' B)) (ab 'a' (.inl Xo) (ab 'a' (.inl Xq) (ab 'a' (.inl a) (ab 'a' (.inl J) 'g'))))) 'f' 'e' (λds M Q h=>SH.zA rfl (oG gB) (jb qV uZ) (jb jd kZ) rfl rfl rfl rfl h);have L:FnD P w K mg base 1 "all_facts" (SH.cC):=fnH hy.a_9 (N:=nO nk) (ps:=(nO nk).take 1) X G (by ac_nf) 'h' (nm0 (F:=[]) (k:=0) E 'g') 'f' 'e' (λds M Q h=>SH.yf h);have Y:cX P w K mg base 3 "Claims" (bm W (SH.fo W)):=mkH (N:=nO kj) (ps:=(nO kj).take 2) PN PQ PR hy.a_53 'h' (nmG (T:=λ_ _=>none) (F:=[SH.bD,SH.cC]) (k:=1) E E.fw (λ_ _ _ z=>nomatch z) (ab 'a' (.inl d) (ab 'a' (.inl L) 'g'))) (by ac_nf) 'f' 'e' (λds M Q h=>SH.vF (λf hf=>⟨rfl,hf⟩) rfl rfl h);have O:FnD P w K mg base 1 "is_whole" (SH.hU):=fnH hy.a_10 (N:=nO ie) (ps:=(nO ie).take 1) X G (by ac_nf) 'h' (nm0 (F:=[]) (k:=0) E 'g') 'f' 'e' (λds M Q h=>SH.zh h);have F':FnD P w K mg base 1 "is_whole" (SW.spWholeX):=fnH hy.a_10 (N:=nO ie) (ps:=(nO ie).take 1) X G (by ac_nf) 'h' (nm0 (F:=[]) (k:=0) E 'g') 'f' 'e' (λds M Q h=>SW.rd_whole_x h);have p:FnD P w K mg base 2 "is_below" (SH.cy):=fnH hy.a_11 (N:=nO ig) (ps:=(nO ig).take 2) X G (by ac_nf) 'h' (nm0 (F:=[SH.hU]) (k:=1) E (ab 'a' (.inl O) 'g')) 'f' 'e' (λds M Q h=>SH.zi rfl h);have Ki:FnD P w K mg base 2 "is_below" (SW.spBelowX):=fnH hy.a_11 (N:=nO ig) (ps:=(nO ig).take 2) X G (by ac_nf) 'h' (nm0 (F:=[SW.spWholeX]) (k:=1) E (ab 'a' (.inl F') 'g')) 'f' 'e' (λds M Q h=>SW.rd_below_x rfl h);have Tr:FnD P w K mg base 3 "is_own_row" (SH.pE c S):=fnH hy.a_12 (N:=nO d9) (ps:=(nO d9).take 3) X G (by ac_nf) 'h' (nmS (F:=[SH.cy]) (k:=2) E (aY 'a' b) (ab 'a' (.inl p) 'g')) 'f' 'e' (λds M Q h=>SH.BA oH jc rfl h);have J6:FnD P w K mg base 3 "is_own_row" (SW.spOwnX c S):=fnH hy.a_12 (N:=nO d9) (ps:=(nO d9).take 3) X G (by ac_nf) 'h' (nmS (F:=[SW.spBelowX]) (k:=2) E (aY 'a' b) (ab 'a' (.inl Ki) 'g')) 'f' 'e' (λds M Q h=>SW.rd_own_x oH jc rfl h);have Tt:FnD P w K mg base 4 "is_paper" (SH.mX c S):=fnH hy.a_13 (N:=nO ik) (ps:=(nO ik).take 3) X G (by ac_nf) 'h' (nm0 (F:=[SH.pE c S,SH.hU]) (k:=3) E (ab 'a' (.inl Tr) (ab 'a' (.inl O) 'g'))) 'f' 'e' (λds M Q h=>SH.zz rfl rfl rfl h);have Kj:FnD P w K mg base 4 "is_paper" (SW.spIsPaperX c S):=fnH hy.a_13 (N:=nO ik) (ps:=(nO ik).take 3) X G (by ac_nf) 'h' (nm0 (F:=[SW.spOwnX c S,SW.spWholeX]) (k:=3) E (ab 'a' (.inl J6) (ab 'a' (.inl F') 'g'))) 'f' 'e' (λds M Q h=>SW.rd_is_paper_x rfl rfl rfl h);have Tu:FnD P w K mg base 7 "papers_hold" (SW.spHoldX c S):=fnH2 hy.a_14 (ps:=oE) X G (by ac_nf) vM (nmS (F:=[SH.kc c S W,bm W (SH.fo W),SH.mX c S]) (k:=6) E (aY 'a' b) (ab 'a' (.inl V) (ab 'a' Y (ab 'a' (.inl Tt) 'g')))) (nmS (F:=[SH.kc c S W,bm W (SH.fo W),SW.spIsPaperX c S]) (k:=6) E (aY 'a' b) (ab 'a' (.inl V) (ab 'a' Y (ab 'a' (.inl Kj) 'g')))) vO 'e' 'e' (λds M Q h=>SH.vJ (W:=W) dJ rfl rfl rfl h) (λds M Q h=>SW.rd_bad dJ rfl h);have Tv:FnD P w K mg base 5 "carried_heads" (SH.da c S):=fnH hy.a_15 (N:=nO ii) (ps:=(nO ii).take 4) X G (by ac_nf) 'h' (nmS (F:=[SH.ce c]) (k:=4) E (aY 'a' b) (ab 'a' (.inl J) 'g')) 'f' 'e' (λds M Q h=>SH.sK rfl jc gB h);have Tw:FnD P w K mg base 2 "helped_rows" (SH.eU c S):=fnH hy.a_16 (N:=nO kh) (ps:=(nO kh).take 3) X G (by ac_nf) 'h' (nmS (F:=[SH.bn]) (k:=1) E (aY 'a' b) (ab 'a' (.inl a) 'g')) 'f' 'e' (λds M Q h=>SH.vx rfl sZ jc h);have PV:FnD P w K mg base 2 "members" (SH.hV):=fnH hy.a_17 (N:=nO qo) (ps:=(nO qo).take 1) X G (by ac_nf) 'h' (nm0 (F:=[SH.bn]) (k:=1) E (ab 'a' (.inl a) 'g')) 'f' 'e' (λds M Q h=>SH.Bo rfl h);have Tx:FnD P w K mg base 3 "all_rows" (SH.mL c S):=fnH hy.a_18 (N:=nO oR) (ps:=(nO oR).take 2) X G (by ac_nf) 'h' (nmS (F:=[SH.hV]) (k:=2) E (aY 'a' b) (ab 'a' (.inl PV) 'g')) 'f' 'e' (λds M Q h=>SH.zv rfl kG h);have PX:FnD P w K mg base 6 "ranked_among" (SH.jE c S):=fnH hy.a_19 (N:=nO jg) (ps:=(nO jg).take 4) X G (by ac_nf) 'h' (nm0 (F:=[SH.da c S,SH.eU c S,SH.bD,SH.mL c S,SH.hV]) (k:=5) E (ab 'a' (.inl Tv) (ab 'a' (.inl Tw) (ab 'a' (.inl d) (ab 'a' (.inl Tx) (ab 'a' (.inl PV) 'g')))))) 'f' 'e' (λds M Q h=>SH.Di rfl rfl rfl rfl rfl h);have Tz:FnD P w K mg base 7 "ranked_set" (SH.jS c S):=fnH hy.a_20 (N:=nO ly) (ps:=(nO ly).take 3) X G (by ac_nf) 'h' (nmS (F:=[SH.jE c S,SH.cC]) (k:=6) E (aY 'a' b) (ab 'a' (.inl PX) (ab 'a' (.inl L) 'g'))) 'f' 'e' (λds M Q h=>SH.wN dJ rfl rfl h);have TB:FnD P w K mg base 8 "ranks" (SH.n0 c S):=fnH hy.a_21 (N:=nO ve) (ps:=(nO ve).take 3) X G (by ac_nf) 'h' (nm0 (F:=[SH.jS c S]) (k:=7) E (ab 'a' (.inl Tz) 'g')) 'f' 'e' (λds M Q h=>SH.ES rfl h);have TC:FnD P w K mg base 7 "least_among" (SH.iM c S):=fnH hy.a_22 (N:=nO kg) (ps:=(nO kg).take 4) X G (by ac_nf) 'h' (nm0 (F:=[SH.bD,SH.jE c S]) (k:=6) E (ab 'a' (.inl d) (ab 'a' (.inl PX) 'g'))) 'f' 'e' (λds M Q h=>SH.vy rfl rfl h);have TF:FnD P w K mg base 8 "next_pair" (SH.lf c S):=fnH hy.a_23 (N:=nO nq) (ps:=(nO nq).take 5) X G (by ac_nf) 'h' (nm0 (F:=[SH.iM c S]) (k:=7) E (ab 'a' (.inl TC) 'g')) 'f' 'e' (λds M Q h=>SH.yz rfl h);have TH:FnD P w K mg base 9 "to_and_fro" (SH.lg c S):=fnH hy.a_24 (N:=nO lz) (ps:=(nO lz).take 5) X G (by ac_nf) 'h' (nm0 (F:=[SH.lf c S]) (k:=8) E (ab 'a' (.inl TF) 'g')) 'f' 'e' (λds M Q h=>SH.wM rfl h);have TJ:cX P w K mg base 11 "Sorting" (bm Z (SH.gt c S Z)):=mkH (N:=nO jw) (ps:=(nO jw).take 3) PK PL PM hy.a_99 'h' (nmSZ (F:=[SH.lg c S,SH.cC]) (k:=9) E (aY 'a' b) (ab 'a' (.inl TH) (ab 'a' (.inl L) 'g'))) (by ac_nf) 'f' 'e' (λds M Q h=>SH.uK (λf hf=>⟨rfl,hf⟩) dJ rfl rfl h);have TK:FnD P w K mg base 12 "papers_of" (SH.li c S):=fnH hy.a_25 (N:=nO nr) (ps:=(nO nr).take 2) X G (by ac_nf) 'h' (nmG (F:=[SH.bn,SH.n0 c S,bm Z (SH.gt c S Z)]) (k:=11) E E.fl (mtJ (aY 'a' b) (aY 'a' MZ)) (ab 'a' (.inl a) (ab 'a' (.inl TB) (ab 'a' TJ 'g')))) 'f' 'e' (λds M Q h=>SH.yK (oG dJ) (jb y7 Dt) (jb rW vP) (jb qU uY) (jb qg sY) rfl rfl rfl rfl h);have TL:FnD P w K mg base 1 "rows_by_help" (SH.iI):=fnH hy.a_26 (ps:=nj) X G (by ac_nf) uV (nm0 (F:=[]) (k:=0) E 'g') uX 'e' (λds M Q h=>SH.uF h);have TM:FnD P w K mg base 4 "row_leanings" (SH.dE c):=fnH hy.a_27 (N:=nO jh) (ps:=(nO jh).take 1) X G (by ac_nf) 'h' (nmC (F:=[]) (k:=3) E (aY 'a' y) 'g') 'f' 'e' (λds M Q h=>SH.uB (yZ r) h);have TN:FnD P w K mg base 1 "rows_by_head" (SH.iG):=fnH hy.a_28 (N:=nO ji) (ps:=(nO ji).take 2) X G (by ac_nf) 'h' (nm0 (F:=[]) (k:=0) E 'g') 'f' 'e' (λds M Q h=>SH.uE h);have TQ:FnD P w K mg base 3 "made_cond" (SH.iE c):=fnH hy.a_29 (N:=nO nn) (ps:=(nO nn).take 1) X G (by ac_nf) 'h' (nm0 (F:=[bm (c.at 3) (SH.cc c 3),bm (c.at 2) (SH.cc c 2),bm (c.at 1) (SH.cc c 1),bm (c.at 0) (SH.cc c 0)]) (k:=2) E (ab 'a' SX (ab 'a' SO (ab 'a' SI (ab 'a' SA 'g'))))) 'f' 'e' (λds M Q h=>SH.vp (c:=c) rfl h);have TR:FnD P w K mg base 3 "is_listing" (SH.mD):=fnH hy.a_30 (N:=nO lA) (ps:=(nO lA).take 2) X G (by ac_nf) 'h' (nm0 (F:=[SH.cy]) (k:=2) E (ab 'a' (.inl p) 'g')) 'f' 'e' (λds M Q h=>SH.wK (j:=3) rfl rfl h);have TU:FnD P w K mg base 2 "is_number" (SH.ph):=fnH hy.a_31 (N:=nO nt) (ps:=(nO nt).take 1) X G (by ac_nf) 'h' (nm0 (F:=[SH.hU]) (k:=1) E (ab 'a' (.inl O) 'g')) 'f' 'e' (λds M Q h=>SH.yj (j:=2) rfl rfl h);have TV:FnD P w K mg base 4 "is_cond" (SH.pi):=fnH hy.a_32 (N:=nO qp) (ps:=(nO qp).take 2) X G (by ac_nf) 'h' (nm0 (F:=[SH.mD,SH.cy,SH.ph]) (k:=3) E (ab 'a' (.inl TR) (ab 'a' (.inl p) (ab 'a' (.inl TU) 'g')))) 'f' 'e' (λds M Q h=>SH.Bp rfl rfl rfl h);have TX:FnD P w K mg base 5 "is_row" (SH.rH):=fnH hy.a_33 (N:=nO sv) (ps:=(nO sv).take 2) X G (by ac_nf) 'h' (nm0 (F:=[SH.pi,SH.cy]) (k:=4) E (ab 'a' (.inl TV) (ab 'a' (.inl p) 'g'))) 'f' 'e' (λds M Q h=>SH.C2 (j:=1) rfl rfl rfl h);have TY:cX P w K mg base 7 "Sheet" (bm S (SH.jP c S)):=mkH (N:=nO lH) (ps:=(nO lH).take 3) PF PH PJ hy.a_83 'h' (nmO (F:=[SH.iI,SH.dE c,SH.iG,SH.iE c,SH.rH,SH.cy]) (k:=5) E (ab 'a' (.inl TL) (ab 'a' (.inl TM) (ab 'a' (.inl TN) (ab 'a' (.inl TQ) (ab 'a' (.inl TX) (ab 'a' (.inl p) 'g'))))))) (by ac_nf) 'f' 'e' (λds M Q h=>SH.wL (j:=4) (l:=5) (λf hf=>⟨rfl,hf⟩) rfl rfl rfl rfl rfl rfl rfl rfl h);have g:FnD P w K mg base 1 "_law_digit" (SQ.bc):=fnH hy.a_34 (N:=nO nu) (ps:=(nO nu).take 2) X G (by ac_nf) 'h' (nm0 (F:=[]) (k:=0) E 'g') 'f' 'e' (λds M Q h=>SQ.EV h);have TZ:FnD P w K mg base 2 "_law_wrong_paper" (SW.spWrongPaper):=fnH hy.a_35 (ps:=kd) X G (by ac_nf) qQ (nm0 (F:=[SQ.bc]) (k:=1) E (ab 'a' (.inl g) 'g')) qS 'e' (λds M Q h=>SW.rd_wrong_paper rfl h);have T1:FnD P w K mg base 2 "_law_truths" (SW.spTruths):=fnH hy.a_36 (ps:=qe) X G (by ac_nf) wW (nm0 (F:=[SQ.bc]) (k:=1) E (ab 'a' (.inl g) 'g')) wY 'e' (λds M Q h=>SW.rd_truths rfl h);have T2:FnD P w K mg base 3 "_law_wrong" (SW.spWrong):=fnH hy.a_37 (N:=nO nv) (ps:=(nO nv).take 3) X G (by ac_nf) 'h' (nm0 (F:=[SW.spWrongPaper,SQ.bc,SW.spTruths]) (k:=2) E (ab 'a' (.inl TZ) (ab 'a' (.inl g) (ab 'a' (.inl T1) 'g')))) 'f' 'e' (λds M Q h=>SW.rd_wrong rfl rfl rfl h);have T3:FnD P w K mg base 1 "_law_cell" (SQ.uO):=fnH hy.a_38 (N:=nO oT) (ps:=(nO oT).take 2) X G (by ac_nf) 'h' (nm0 (F:=[]) (k:=0) E 'g') 'f' 'e' (λds M Q h=>SQ.G0 h);have PY:FnD P w K mg base 2 "_law_source" (SQ.gV):=fnH hy.a_39 (N:=nO lB) (ps:=(nO lB).take 2) X G (by ac_nf) 'h' (nm0 (F:=[SQ.uO]) (k:=1) E (ab 'a' (.inl T3) 'g')) 'f' 'e' (λds M Q h=>SQ.Dl rfl h);have T4:FnD P w K mg base 2 "_law_picked" (SQ.pF):=fnH hy.a_40 (N:=nO lC) (ps:=(nO lC).take 2) X G (by ac_nf) 'h' (nm0 (F:=[SQ.bc]) (k:=1) E (ab 'a' (.inl g) 'g')) 'f' 'e' (λds M Q h=>SQ.Dm rfl h);have T5:FnD P w K mg base 3 "_law_cond" (SQ.qN):=fnH hy.a_41 (N:=nO oU) (ps:=(nO oU).take 2) X G (by ac_nf) 'h' (nm0 (F:=[SQ.bc,SQ.pF]) (k:=2) E (ab 'a' (.inl g) (ab 'a' (.inl T4) 'g'))) 'f' 'e' (λds M Q h=>SQ.G1 rfl rfl h);have T6:FnD P w K mg base 4 "_law_rows" (SQ.uQ):=fnH hy.a_42 (N:=nO oV) (ps:=(nO oV).take 3) X G (by ac_nf) 'h' (nm0 (F:=[SQ.bc,SQ.qN]) (k:=3) E (ab 'a' (.inl g) (ab 'a' (.inl T5) 'g'))) 'f' 'e' (λds M Q h=>SQ.G2 rfl rfl h);have T7:FnD P w K mg base 5 "_law_made" (SQ.iE):=fnH hy.a_43 (N:=nO oX) (ps:=(nO oX).take 1) X G (by ac_nf) 'h' (nm0 (F:=[SQ.bc,SQ.uQ,SQ.gV]) (k:=4) E (ab 'a' (.inl g) (ab 'a' (.inl T6) (ab 'a' (.inl PY) 'g')))) 'f' 'e' (λds M Q h=>SQ.vp rfl rfl rfl h);have I_:aM P w K mg base 4 S "row_list" (SW.spRowList c S):=bh (N:=nO gF) (ps:=(nO gF).take 1) (aC E.sh) hy.a_Sheet_row_list 'h' (nmG (F:=[]) (k:=3) E E.fs (aY 'a' y) 'g') (by ac_nf) 'f' 'e' (λds M Q h=>SW.rd_row_list (λf hf=>⟨rfl,hf⟩) (BC r) h);exact qB (Kt.fun_) Jf (nmG (F:=[SW.spHoldX c S,SH.li c S,bm S (SH.jP c S),SW.spWrong,SQ.gV,SQ.iE]) (k:=12) E E.fl (mt1 'a' I_) (ab 'a' (.inl Tu) (ab 'a' (.inl TK) (ab 'a' TY (ab 'a' (.inl T2) (ab 'a' (.inl PY) (ab 'a' (.inl T7) 'g'))))))) Jh 'e' (λds M Q h=>SW.rd_law G9 rfl rfl rfl rfl rfl rfl h)
end
theorem E2{a b d e:Addr}(h:(decide (a≠b)&&decide (a≠d)&&decide (a≠e)&&decide (b≠d)&&decide (b≠e)&&decide (d≠e))=true):SH.CA.apart ⟨a,b,d,e⟩:=by
 simp only[YY,XR] at h;obtain⟨⟨⟨⟨⟨c,f⟩,g⟩,j⟩,l⟩,m⟩:=h;intro k hk;have n:k=0\/k=1\/k=2\/k=3:=by omega
 rcases n with rfl | rfl | rfl | rfl
 ·show(if a=a then some 0 else if a=b then some 1 else if a=d then some 2 else if a=e then some 3 else none)=some 0
  rw[if_pos rfl]
 ·show(if b=a then some 0 else if b=b then some 1 else if b=d then some 2 else if b=e then some 3 else none)=some 1
  rw[if_neg (λz=>c z.symm),if_pos rfl]
 ·show(if d=a then some 0 else if d=b then some 1 else if d=d then some 2 else if d=e then some 3 else none)=some 2
  rw[if_neg (λz=>f z.symm),if_neg (λz=>j z.symm),if_pos rfl]
 ·show(if e=a then some 0 else if e=b then some 1 else if e=d then some 2 else if e=e then some 3 else none)=some 3
  rw[if_neg (λz=>g z.symm),if_neg (λz=>l z.symm),if_neg (λz=>m z.symm),if_pos rfl]
theorem all4{p:Nat->Prop}(b:p 0)(c:p 1)(d:p 2)(f:p 3):∀i,i<4->p i:=by
 intro i hi;have a:i=0\/i=1\/i=2\/i=3:=by omega
 rcases a with rfl | rfl | rfl | rfl<;>assumption
theorem Jk:xg 63 SW.spLaw:=λa ns hl=>⟨a,ns,rfl,by unfold rg;rw[if_pos rfl],hl,λ_=>rfl⟩
theorem Jl:Fc SW.spLaw:=by
 intro l w K h mg A cH cL cS cD S Z W X G p r gl bl u LJ LK LL LM LN LO LP LQ LR LS LU LV LW B o Kt hy;have b:=LJ;simp only[YY] at b;have d:=LL;simp only[YY] at d;have f:=LN;simp only[YY] at f;have g:=LP;simp only[YY] at g;have j:=LR;simp only[YY] at j;have m:=LU;simp only[YY] at m;have n:=LW;simp only[YY] at n;have E:Env0 K mg ⟨cH,cL,cS,cD⟩ S Z W:=⟨tF X G gl,Ck X G bl,all4 b.1.1 d.1.1 f.1.1 g.1.1,j.1.1,m.1.1,n.1.1⟩;have y:∀(s:Shared) (v:Value),BindsTo s o ⟨[v],[]⟩ [("_law_script",v)]:=by
  obtain⟨oc,od,an,G_,kV,r_,pm,p_,ct,a,rfl,l,c,k⟩:=Kt.ex;exact λs v=>.of_eq rfl
 have z:=Kt.def_ (ps:=["_law_script"]) X G λ_ _ _ _ _ _=>us1 λ_=>rfl
 have e:=p.symm.trans z.mgf;cases e;exact⟨o,y,λbase _ _=>Jj (c:=⟨cH,cL,cS,cD⟩) (S:=S) (Z:=Z) (W:=W) E (E2 r) X G Kt (PySem.W.mg_of X G u) b.1.2 b.2 (PySem.W.mg_of X G LK) d.1.2 d.2 (PySem.W.mg_of X G LM) f.1.2 f.2 (PySem.W.mg_of X G LO) g.1.2 g.2 (PySem.W.mg_of X G LQ) j.1.2 j.2 (PySem.W.mg_of X G LS) m.1.2 m.2 (PySem.W.mg_of X G LV) n.1.2 n.2 hy⟩
end K53
open PySem PySem.W PyProof.Rows L2 DD
theorem PySem.Challenge.cw_notring_k53_what_is_no_paper_holds : PySem.Challenge.rw_notring_k53_what_is_no_paper.Holds := by
  exact K53.over K53.Jk K53.Jl
#print axioms PySem.Challenge.cw_notring_k53_what_is_no_paper_holds
