import PyProof.Rows.All
import Wide.All
import KE.KDictOf
import KE.KFromBytes
import KE.LcTurns
import KE.KIsAll
import KE.KItem
import Wide.FinOn
import KE.KNestM
import PySem.Challenge.RW_notring_k41_sorted_by_rounds
import Lean
import PyProof.EqAt
import PyProof.EqKinds
import PyProof.TupleCall
import PyProof.DictIter
import PyProof.DictWalks
import PyProof.NeKinds
import PyProof.Rows.SetFrom
import PyProof.SetRoads
import PyProof.WalksMore
import PyProof.TupleIter
import PyProof.SumAnyB
import PyProof.Conv_int
import PyProof.Conv_int_bool
import PyProof.ListRange
import PyProof.DictTruth
import PyProof.Rows.SortWalk
import PyProof.Rows.SortRuns
import PyProof.Rows.SortShell
import PyProof.EnumMake
import PyProof.EnumIter
import PyProof.EnumFor
import PyProof.EnumStmt
import PyProof.Draws
import PyProof.Rows.CallKwBuiltin
import PyProof.DefCall
import KE.BitLaws
set_option compiler.extract_closed false
set_option Elab.async false
set_option maxRecDepth 100000
set_option maxHeartbeats 4000000
local macro_rules
 |`(tactic|omega)=>`(tactic|first|assumption|lia|omega (splitDisjunctions:=true))
set_option hygiene false
set_option bootstrap.genMatcherCode false
set_option genSizeOfSpec false
local macro_rules
 |`(command|def $i:declId $s:optDeclSig $v:declVal)=>`(command|noncomputable def $i:declId $s:optDeclSig $v:declVal)
 |`(command|abbrev $i:declId $s:optDeclSig $v:declVal)=>`(command|noncomputable abbrev $i:declId $s:optDeclSig $v:declVal)
def Yb:=@PySem.wpAny_bind
def Yc:=@PySem.wpAny_pure
def Yd:=@PySem.Heap.get?_push_of_some
def Ye:=@PySem.Heap.lt_size
def Yg:=@PySem.Heap.get?_push_size
def Yh:=@False.elim
def Yi:=@Option.some.inj
def Yj:=@PySem.wpAny_holding
def Yk:=@PySem.wpAny_standAt
abbrev Za:=PySem.W.Frag
abbrev Zd:=PySem.Value->PySem.Shared->Prop
abbrev Zg:=List (PySem.Addr×PySem.Obj)
abbrev Zh:=List PySem.Value
abbrev Zi:=PySem.Str->Option PySem.Value
abbrev Zk:=List PySem.Str
abbrev Zl:=List PySem.Expr
abbrev Zm:=List PySem.Addr
abbrev Zn:=List Int
abbrev Zo:=List Nat
abbrev Zp:=PySem.Value->PySem.Value->PySem.Sem PySem.Value
abbrev Zq:=Array PySem.Value
abbrev Zr:=Option PySem.Addr
abbrev Zs:=Array (Option PySem.Value)
abbrev Zt:=Unit->PySem.Shared->Prop
abbrev Zu:=List (Nat×Nat)
abbrev Zv:=Option Int
abbrev Zw:=List (PySem.Str×PySem.Addr)
abbrev Zx:=List (Bool×Int)
abbrev Zy:=List (List PySem.Addr)
abbrev Zz:=List PySem.Stmt
abbrev ZD:=PySem.FuncData
abbrev ZS:=PySem.Program
abbrev Z0:=Option PySem.Value
local macro_rules
  | `(tactic| rfl') => `(tactic| decide +kernel)
def XA:=@List.length_drop
def XB:=@Bool.and_eq_true
def XC:=@List.map_nil
def XD:=@List.replicate_succ
def XE:=@List.flatten_cons
def XF:=@Array.getElem?_toList
def XG:=@List.nil_append
def XH:=@Bool.false_eq_true
def XI:=@beq_self_eq_true
def XJ:=@List.find?_cons
def XM:=@List.any_cons
def XN:=@Nat.lt_of_le_of_lt
def XO:=@List.lookup_cons
def XQ:=@List.all_eq_true
def XR:=@List.mem_singleton
def XS:=@of_decide_eq_true
def XT:=@List.all_cons
def XU:=@decide_eq_true_eq
def XV:=@List.drop_eq_getElem_cons
def XW:=@List.take_of_length_le
def XX:=@List.getElem?_cons_zero
def XY:=@List.getElem?_of_mem
def XZ:=@Bool.true_and
def YA:=@Nat.le_trans
def YB:=@List.filterMap_cons
def YC:=@List.mem_cons_self
def YD:=@List.mem_cons_of_mem
def YE:=@List.mem_cons
def YF:=@List.mem_append
def YG:=@List.getElem?_eq_some_iff
def YH:=@Array.length_toList
def YI:=@Bool.false_ne_true
def YJ:=@Nat.le_refl
def YK:=@List.mem_append_right
def YL:=@List.size_toArray
def YM:=@List.length_cons
def YO:=@List.map_cons
def YQ:=@Nat.zero_le
def YR:=@Nat.le_succ
def YS:=@List.nodup_cons
def YV:=@List.length_take
def YW:=@List.mem_of_getElem?
def YX:=@List.length_nil
def YY:=@decide_eq_true
def YZ:=@Int.toNat_natCast
def ZA:=@List.append_nil
def ZB:=@Array.toList_push
def ZC:=@List.append_assoc
def ZE:=@List.getElem?_eq_getElem
def ZF:=@List.getElem?_append_left
def ZG:=@List.length_map
def ZH:=@List.getElem?_map
def ZI:=@List.getElem?_append_right
def ZJ:=@List.getElem?_take
def ZK:=@List.getElem?_range
def ZL:=@List.getElem?_eq_none
def ZM:=@List.length_range
def ZN:=@List.length_append
def ZO:=@List.map_append
def ZP:=@List.map_map
def ZQ:=@List.map_congr_left
def ZR:=@Option.map_eq_some_iff
def ZT:=@decide_eq_false
def ZU:=@beq_eq_false_iff_ne
def ZV:=@Nat.lt_of_lt_of_le
def ZW:=@Nat.lt_irrefl
def ZX:=@Nat.ne_of_lt
def ZY:=@List.mem_filter
def ZZ:=@List.mem_range
namespace TopT
open PySem PySem.W PyProof.Rows
def j7:List Obj->Nat->BT->Option (BT×Nat)
 |[],n,T=>some (T,n)
 |o::r,n,T=>match((T.ins n o).get n).isSome with
  |true=>j7 r (n+1) (T.ins n o)
  |false=>none
theorem ss(a:Life):∀{os:List Obj}{n n':Nat}{T b:BT},j7 os n T=some (b,n')->absHeap b n' a=⟨((absHeap T n a).objs.toList++os).toArray,a⟩
 |[],n,n',T,b,h=>by
  cases h;rw[ZA];rfl
 |o::r,n,n',T,b,h=>by
  unfold j7 at h;cases g:((T.ins n o).get n).isSome with
  |false=>rw[g] at h;cases h
  |true=>
   rw[g] at h;have c:=ss a (os:=r) h;rw[c,absHeap_ins g];show Heap.mk (((absHeap T n a).objs.push o).toList++r).toArray a=_;rw[ZB,ZC];rfl
def nQ(b:String->Option Builtin)(p:ZS)(w:World)(c:Nat)(a:Z0):Nat->SharedT->Thread->Option SharedT
 |0,_,_=>none
 |n+1,s,t=>match through t with
  |true=>some s
  |false=>match stepOk c a t with
   |false=>none
   |true=>match stepT (denote b) p w s t with
    |some (d,t')=>nQ b p w c a n d t'
    |none=>none
theorem su{b:String->Option Builtin}{p:ZS}{w:World}{c:Nat}{a:Z0}:∀{n:Nat}{s d:SharedT}{t:Thread},nQ b p w c a n s t=some d->topRun b p w c a n s.abs t=some d.abs
 |0,_,_,_,h=>by cases h
 |n+1,s,d,t,h=>by
  unfold nQ at h;unfold topRun;cases ht:through t with
  |true=>rw[ht] at h;cases h;rfl
  |false=>
   rw[ht] at h;cases hk:stepOk c a t with
   |false=>rw[hk] at h;cases h
   |true=>
    rw[hk] at h;cases hs:stepT (denote b) p w s t with
    |none=>rw[hs] at h;cases h
    |some x=>
     obtain⟨s2,f⟩:=x;rw[hs] at h
     have:=stepT_spec hs
     simp only[this];exact su h
def getT(s:SharedT)(a:Addr):Option Obj:=match Nat.blt a s.n with
 |true=>alive ((s.tree.get a).getD default)
 |false=>none
theorem C3(s:SharedT)(a:Addr):s.abs.heap.get? a=getT s a:=by
 show(absHeap s.tree s.n s.life).get? a=_;unfold getT Heap.get?;rw[absHeap_at];cases e:Nat.blt a s.n with
 |true=>
  have lt:a<s.n:=Nat.le_of_ble_eq_true e;rw[if_pos lt];obtain⟨c,d,b,sl⟩:=(s.tree.get a).getD default;cases b<;>rfl
 |false=>
  have f:¬a<s.n:=λh=>by
   have:Nat.blt a s.n=true:=Nat.ble_eq_true_of_le h
   rw[this] at e;cases e
  rw[if_neg f]
def lft:BT->BT
 |.nil=>.nil
 |.node _ l _=>l
def rgt:BT->BT
 |.nil=>.nil
 |.node _ _ r=>r
def rt:BT->Obj
 |.nil=>default
 |.node v _ _=>v
def atL(ts:List BT)(m i:Nat):Obj:=(((ts[i%m]?).getD .nil).get (i / m)).getD default
def lv:Nat->List BT->Nat->Nat->List Obj
 |0,ts,m,n=>(List.range n).map (atL ts m)
 |k+1,ts,m,n=>match Nat.ble n m with
  |true=>(ts.take n).map rt
  |false=>ts.map rt++lv k (ts.map lft++ts.map rgt) (m+m) (n-m)
theorem ER(t:BT):(t.get 0).getD default=rt t:=by cases t<;>rfl
theorem C4(t:BT)(j:Nat):t.get (2*j+1)=(lft t).get j:=by
 cases t with
 |nil=>rfl
 |node v l r=>rw[BT.get_node,if_neg (by omega),if_pos (by omega),show(2*j+1) / 2=j by omega];rfl
theorem A2(t:BT)(j:Nat):t.get (2*j+2)=(rgt t).get j:=by
 cases t with
 |nil=>rfl
 |node v l r=>rw[BT.get_node,if_neg (by omega),if_neg (by omega),show(2*j+2) / 2-1=j by omega];rfl
theorem pO{ts:List BT}{m r:Nat}(k:Nat)(a:r<m):atL ts m (m*k+r)=((ts[r]?.getD .nil).get k).getD default:=by
 unfold atL;rw[Nat.mul_add_mod,Nat.mod_eq_of_lt a,Nat.mul_add_div (by omega),Nat.div_eq_of_lt a,Nat.add_zero]
theorem ES{ts:List BT}{m:Nat}(h:ts.length=m)(hm:0<m)(i:Nat):atL ts m (m+i)=atL (ts.map lft++ts.map rgt) (m+m) i:=by
 have a:i%m<m:=Nat.mod_lt _ hm;have d:=Nat.div_add_mod i m;generalize i%m=r at *;generalize i / m=k at *;subst d;obtain⟨t,e0⟩:∃t,ts[r]?=some t:=⟨_,ZE (h▸a)⟩;rw[show m+(m*k+r)=m*(k+1)+r by rw[Nat.mul_add];omega,pO _ a,e0];rcases Nat.mod_two_eq_zero_or_one k with e | e
 ·obtain⟨j,rfl⟩:∃j,k=2*j:=⟨k / 2,by omega⟩
  rw[show m*(2*j)+r=(m+m)*j+r by rw[←Nat.mul_assoc,Nat.mul_two],pO _ (by omega),ZF (by rw[ZG];omega),ZH,e0];exact congrArg (·.getD default) (C4 _ j)
 ·obtain⟨j,rfl⟩:∃j,k=2*j+1:=⟨k / 2,by omega⟩
  rw[show m*(2*j+1)+r=(m+m)*j+(m+r) by rw[Nat.mul_add,←Nat.mul_assoc,Nat.mul_two];omega,pO _ (by omega),ZI (by rw[ZG];omega),ZG,h,Nat.add_sub_cancel_left,ZH,e0];exact congrArg (·.getD default) (A2 _ j)
theorem CG:∀(k:Nat){ts:List BT}{m:Nat}(n:Nat),ts.length=m->0<m->lv k ts m n=(List.range n).map (atL ts m)
 |0,_,_,_,_,_=>rfl
 |k+1,ts,m,n,h,hm=>by
  have hd:∀j,j<m->atL ts m j=rt (ts[j]?.getD .nil):=λj a=>by
   rw[show j=m*0+j by omega,pO _ a,ER];simp
  show(match Nat.ble n m with | true=>_ | false=>_)=_;cases e:Nat.ble n m with
  |true=>
   have hn:n<=m:=Nat.le_of_ble_eq_true e;apply List.ext_getElem?;intro j;show((ts.take n).map rt)[j]?=_;rw[ZH,ZH,ZJ];by_cases a:j<n
   ·rw[if_pos a,ZK a,ZE (by omega)]
    show some (rt ts[j])=some (atL ts m j);rw[hd j (by omega),ZE (by omega)];rfl
   ·rw[if_neg a,ZL (by rw[ZM];omega)];rfl
  |false=>
   have hn:m<n:=Nat.lt_of_not_le λq=>by rw[Nat.ble_eq_true_of_le q] at e;cases e
   show ts.map rt++lv k (ts.map lft++ts.map rgt) (m+m) (n-m)=_;rw[CG k (n-m) (by rw[ZN,ZG,ZG,h]) (by omega),show n=m+(n-m) by omega,List.range_add,ZO,ZP];congr 1
   ·apply List.ext_getElem?
    intro j;rw[ZH,ZH];by_cases a:j<m
    ·rw[ZK a,ZE (by omega)]
     show some (rt ts[j])=some (atL ts m j);rw[hd j a,ZE (by omega)];rfl
    ·rw[ZL (by omega),ZL (by rw[ZM];omega)];rfl
   ·rw[show m+(n-m)-m=n-m by omega]
    exact ZQ λi _=>(ES h hm i).symm
theorem list_eq(t:BT)(n:Nat):t.list n=lv 20 [t] 1 n:=by
 rw[CG (ts:=[t]) (m:=1) 20 n rfl (by decide)];unfold BT.list;apply ZQ;intro i _;show _=(((([t]:List BT)[i%1]?).getD .nil).get (i / 1)).getD default;rw[Nat.mod_one,Nat.div_one];rfl
def absF(s:SharedT):Shared:=⟨⟨(lv 20 [s.tree] 1 s.n).toArray,s.life⟩,s.gens,s.drawn,s.toks,s.os⟩
theorem wR(s:SharedT):s.abs=absF s:=by
 unfold SharedT.abs absHeap absF;rw[list_eq]
def runC{a:Type}(p:ZS)(w:World)(N:Nat)(C:Shared->SharedT->a):Option a:=(fencedOpening treeTable p w N).bind λs₀=>match s₀.heap.isNs mainGlobals&&s₀.gens.size==0 with
 |true=>match j7 s₀.heap.objs.toList 0 .nil with
  |some (T,n)=>(nQ treeTable p w s₀.heap.objs.size (s₀.heap.nsMap mainGlobals "__annotations__") N ⟨T,n,s₀.heap.life,s₀.gens,s₀.drawn,s₀.toks,s₀.os⟩ (topStub p)).map (C s₀)
  |none=>none
 |false=>none
theorem A3{a:Type}{p:ZS}{w:World}{N:Nat}(C:Shared->SharedT->a):runC p w N C=(runC p w N Prod.mk).map λx=>C x.1 x.2:=by
 unfold runC;cases fencedOpening treeTable p w N with
 |none=>rfl
 |some s₀=>
  show(match s₀.heap.isNs mainGlobals&&s₀.gens.size==0 with | true=>_ | false=>_)=Option.map _ (match s₀.heap.isNs mainGlobals&&s₀.gens.size==0 with | true=>_ | false=>_);cases s₀.heap.isNs mainGlobals&&s₀.gens.size==0 with
  |false=>rfl
  |true=>
   show(match j7 s₀.heap.objs.toList 0 .nil with | some (T,n)=>_ | none=>_)=Option.map _ (match j7 s₀.heap.objs.toList 0 .nil with | some (T,n)=>_ | none=>_);cases j7 s₀.heap.objs.toList 0 .nil with
   |none=>rfl
   |some x=>
    obtain⟨T,n⟩:=x;show Option.map (C s₀) _=Option.map _ (Option.map (Prod.mk s₀) _);rw[Option.map_map];rfl
def tX(p:ZS)(s₀ s:Shared):Bool:=staticsOk (importedModules p.main.body) s₀.heap s.heap&&namesBound p s.heap&&gensDone s&&laidKept s₀.heap s.heap
theorem C5{p:ZS}{w:World}{N:Nat}{s₀:Shared}{s:SharedT}(h:runC p w N Prod.mk=some (s₀,s))(k:tX p s₀ (absF s)=true):openEnds treeTable p w N=some (absF s):=by
 unfold runC at h;obtain⟨b,c,h⟩:=Option.bind_eq_some_iff.mp h;cases g:(b.heap.isNs mainGlobals&&b.gens.size==0) with
 |false=>rw[g] at h;cases h
 |true=>
  rw[g] at h;cases e:j7 b.heap.objs.toList 0 .nil with
  |none=>rw[e] at h;cases h
  |some x=>
   obtain⟨T,n⟩:=x;rw[e] at h;obtain⟨f,d,h2⟩:=ZR.mp h;cases h2;have a:(⟨T,n,s₀.heap.life,s₀.gens,s₀.drawn,s₀.toks,s₀.os⟩:SharedT).abs=s₀:=by
    show Shared.mk (absHeap T n s₀.heap.life) _ _ _ _=_;rw[ss s₀.heap.life e];rfl
   have r:=su d;rw[a,wR] at r;unfold openEnds topFrom;rw[c];show(match s₀.heap.isNs mainGlobals&&s₀.gens.size==0 with | true=>_ | false=>_)=_;rw[g];show(topRun treeTable p w s₀.heap.objs.size (s₀.heap.nsMap mainGlobals "__annotations__") N s₀ (topStub p)).bind _=_;rw[r];show(match tX p s₀ (absF s) with | true=>some (absF s) | false=>none)=_;rw[k]
theorem GD{p q:ZS}{loose:Zk}{Xt:Shared->Bool}{N:Nat}{b:Bool}{K:Params->Frag}{as:Zm}{e:∀P,as=(K P).map (·.1)}
  (j:∀w,runC p w N (λs₀ s=>(tX p s₀ (absF s),(openSeen q loose (importedModules p.main.body) Xt b (absF s)).1,(openSeen q loose (importedModules p.main.body) Xt b (absF s)).2.1))=some (true,expectedOf q,bltViewBooted))
  (h2:∀w,runC p w N (λ_ s=>(openSeen q loose (importedModules p.main.body) Xt b (absF s)).2.2.1)=some true)
  (c:∀w,runC p w N (λ_ s=>((openSeen q loose (importedModules p.main.body) Xt b (absF s)).2.2.2.1,(openSeen q loose (importedModules p.main.body) Xt b (absF s)).2.2.2.2.1))=some (true,pinGoodD (drecsOf q)))
  (d:∀w,runC p w N (λ_ s=>(openSeen q loose (importedModules p.main.body) Xt b (absF s)).2.2.2.2.2.1)=some (plainGoodE q (looseW q loose)))
  (f:∀w,runC p w N (λ_ s=>(openSeen q loose (importedModules p.main.body) Xt b (absF s)).2.2.2.2.2.2)=some (plainGoodD q loose,wideGood q,clsGoodW q loose))
  (g:∀w:World,runC p w N (λ_ s=>as.map (getT s))=some ((K w.params).map (λp=>some p.2))):LeftO p q loose Xt (Hook.obs (kHook K as e)) (Hook.val (kHook K as e)) N b:=λw=>by
 have j:=j w;have h2:=h2 w;have c:=c w;have g:=g w;have d:=d w;have f:=f w;rw[A3] at j h2 c g d f;obtain⟨⟨s₀,s⟩,l,m⟩:=ZR.mp j;rw[l] at h2 c g d f;obtain⟨n,k⟩:=Prod.mk.inj m;obtain⟨k,o⟩:=Prod.mk.inj k;obtain⟨r,t⟩:=Prod.mk.inj (Yi c);rw[C5 l n];have u:as.map (absF s).heap.get?=as.map (getT s):=ZQ λa _=>by rw[←wR];exact C3 s a
 exact congrArg some (Prod.ext (Prod.ext k (Prod.ext o (Prod.ext (Yi h2) (Prod.ext r (Prod.ext t (Prod.ext (Yi d) (Yi f))))))) (u.trans (Yi g)))
end TopT
section
open PySem PySem.W PyProof.Rows
def K41.viewQ:Program:=PySem.W.view PySem.Challenge.pw_notring_k41_sorted_by_rounds [0,2,3,4,5,6,7,9,10,11,12,13,14,15,16,18,19,20,21,22,24,25,26,27,29,30,32,33,34,35,36,37,38,39,40,41,42,43,44,46,47,48,49,50,51,52,53,54,55,56,57,58,59,60,61,62]
set_option maxHeartbeats 0 in
theorem K41.said:PySem.Challenge.rw_notring_k41_sorted_by_rounds.wellSaid=true:=by kernel_rfl
set_option maxHeartbeats 0 in
theorem K41.seen1:∀w:World,TopT.runC PySem.Challenge.pw_notring_k41_sorted_by_rounds w 11100 (λs₀ s=>(TopT.tX PySem.Challenge.pw_notring_k41_sorted_by_rounds s₀ (TopT.absF s),(openSeen K41.viewQ [] (importedModules PySem.Challenge.pw_notring_k41_sorted_by_rounds.main.body) (λs=>xlAt K41.viewQ [] s&&recOk [] s) true (TopT.absF s)).1,(openSeen K41.viewQ [] (importedModules PySem.Challenge.pw_notring_k41_sorted_by_rounds.main.body) (λs=>xlAt K41.viewQ [] s&&recOk [] s) true (TopT.absF s)).2.1))=some (true,expectedOf K41.viewQ,bltViewBooted):=by
 intro w;kernel_rfl
set_option maxHeartbeats 0 in
theorem K41.seen2:∀w:World,TopT.runC PySem.Challenge.pw_notring_k41_sorted_by_rounds w 11100 (λ_ s=>(openSeen K41.viewQ [] (importedModules PySem.Challenge.pw_notring_k41_sorted_by_rounds.main.body) (λs=>xlAt K41.viewQ [] s&&recOk [] s) true (TopT.absF s)).2.2.1)=some true:=by
 intro w;kernel_rfl
set_option maxHeartbeats 0 in
theorem K41.seen3:∀w:World,TopT.runC PySem.Challenge.pw_notring_k41_sorted_by_rounds w 11100 (λ_ s=>((openSeen K41.viewQ [] (importedModules PySem.Challenge.pw_notring_k41_sorted_by_rounds.main.body) (λs=>xlAt K41.viewQ [] s&&recOk [] s) true (TopT.absF s)).2.2.2.1,(openSeen K41.viewQ [] (importedModules PySem.Challenge.pw_notring_k41_sorted_by_rounds.main.body) (λs=>xlAt K41.viewQ [] s&&recOk [] s) true (TopT.absF s)).2.2.2.2.1))=some (true,pinGoodD (drecsOf K41.viewQ)):=by
 intro w;kernel_rfl
set_option maxHeartbeats 0 in
theorem K41.seen5:∀w:World,TopT.runC PySem.Challenge.pw_notring_k41_sorted_by_rounds w 11100 (λ_ s=>(openSeen K41.viewQ [] (importedModules PySem.Challenge.pw_notring_k41_sorted_by_rounds.main.body) (λs=>xlAt K41.viewQ [] s&&recOk [] s) true (TopT.absF s)).2.2.2.2.2.1)=some (plainGoodE K41.viewQ (looseW K41.viewQ [])):=by
 intro w;kernel_rfl
set_option maxHeartbeats 0 in
theorem K41.seen6:∀w:World,TopT.runC PySem.Challenge.pw_notring_k41_sorted_by_rounds w 11100 (λ_ s=>(openSeen K41.viewQ [] (importedModules PySem.Challenge.pw_notring_k41_sorted_by_rounds.main.body) (λs=>xlAt K41.viewQ [] s&&recOk [] s) true (TopT.absF s)).2.2.2.2.2.2)=some (plainGoodD K41.viewQ [],wideGood K41.viewQ,clsGoodW K41.viewQ []):=by
 intro w;kernel_rfl
end
-- CHANGE: your row's module here,as the last of these b_
set_option linter.all false
namespace L2
open PySem PySem.Spec PyProof.Rows
abbrev Key:=Sum Int Str
def lK:Key->Value->Bool
 |.inl k,v=>Value.isInt k v
 |.inr x,v=>Value.isStrOf x v
def keyH(w:World):Key->Int
 |.inl k=>hashInt k
 |.inr x=>hashStr w x
theorem bp:∀{k:Key}{v:Value},lK k v=true->(∃i t,k=Sum.inl i/\v=Value.int i t)\/(∃x t,k=Sum.inr x/\v=Value.str x t)
 |.inl i,v,h=>by
  obtain⟨t,e⟩:=Value.isInt_shape (k:=i) (v:=v) h;exact .inl ⟨i,t,rfl,e⟩
 |.inr x,v,h=>by
  obtain⟨t,e⟩:=Value.isStrOf_shape (x:=x) (v:=v) h;exact .inr ⟨x,t,rfl,e⟩
theorem zf(i:Int)(t:Tok):lK (.inl i) (.int i t)=true:=by simp[lK,Value.isInt]
theorem zg(x:Str)(t:Tok):lK (.inr x) (.str x t)=true:=by simp[lK,Value.isStrOf]
theorem ET(a b:Int):decide ((Sum.inl a:Key)=Sum.inl b)=(a==b):=by
 by_cases e:a=b
 ·subst e;simp
 ·have h:¬(Sum.inl a:Key)=Sum.inl b:=λq=>e (Sum.inl.inj q)
  rw[ZT h];exact(ZU.mpr e).symm
theorem EU(a b:Str):decide ((Sum.inr a:Key)=Sum.inr b)=decide (a=b):=by
 by_cases e:a=b
 ·subst e;simp
 ·have h:¬(Sum.inr a:Key)=Sum.inr b:=λq=>e (Sum.inr.inj q)
  rw[ZT h,ZT e]
theorem EV(a:Int)(b:Str):decide ((Sum.inl a:Key)=Sum.inr b)=false:=ZT (λq=>nomatch q)
theorem EW(a:Str)(b:Int):decide ((Sum.inr a:Key)=Sum.inl b)=false:=ZT (λq=>nomatch q)
def bg(prog:ZS)(w:World):PySem.KeyKind prog w Key where
 is:=lK
 hash:=keyH w
 inj:=λv a b ha hb=>by
  rcases bp ha with⟨i,t,rfl,rfl⟩ | ⟨x,t,rfl,rfl⟩
  ·rcases bp hb with⟨j,u,rfl,e⟩ | ⟨y,u,rfl,e⟩
   ·injection e with e1 _;rw[e1]
   ·exact nomatch e
  ·rcases bp hb with⟨j,u,rfl,e⟩ | ⟨y,u,rfl,e⟩
   ·exact nomatch e
   ·injection e with e1 _;rw[e1]
 byValue:=λk v h=>by
  rcases bp h with⟨i,t,rfl,rfl⟩ | ⟨x,t,rfl,rfl⟩<;>rfl
 pyHash:=λc h=>by
  rcases bp c with⟨i,t,rfl,rfl⟩ | ⟨x,t,rfl,rfl⟩
  ·exact wpAny_pyHash_int h
  ·exact wpAny_pyHash_str h
 eqBool:=λhu c h=>by
  rcases bp hu with⟨i,t,rfl,rfl⟩ | ⟨x,t,rfl,rfl⟩
  ·rcases bp c with⟨j,u,rfl,rfl⟩ | ⟨y,u,rfl,rfl⟩
   ·rw[ET] at h;exact wpAny_eqBool_int h
   ·rw[EV] at h;exact SeqAt.EqAt.int_str i t y u _ _ _ _ h
  ·rcases bp c with⟨j,u,rfl,rfl⟩ | ⟨y,u,rfl,rfl⟩
   ·rw[EW] at h;exact SeqAt.EqAt.str_int x t j u _ _ _ _ h
   ·rw[EU] at h;exact wpAny_eqBool_str h
 «strs»:=λk x t v h=>by
  rcases bp h with⟨i,u,rfl,e⟩ | ⟨y,u,rfl,e⟩
  ·exact nomatch e
  ·injection e with e1 _
   subst e1;cases v<;>rfl
theorem xR(prog:ZS)(w:World)(k:Key)(v:Value):(bg prog w).is k v=lK k v:=rfl
theorem vZ(prog:ZS)(w:World)(i:Int)(t:Tok):(bg prog w).is (.inl i) (.int i t)=true:=zf i t
theorem wa(prog:ZS)(w:World)(x:Str)(t:Tok):(bg prog w).is (.inr x) (.str x t)=true:=zg x t
inductive V where
 |non | bl (b:Bool) | int (i:Int) | str (x:Str) | byt (b:Array UInt8) | flt (b:UInt64) | ref (a:Addr) | ty (n:String)
 deriving DecidableEq
def RelV:V->Value->Prop
 |.non,u=>u=Value.none
 |.bl b,u=>u=Value.bool b
 |.int i,u=>∃t,u=Value.int i t
 |.str x,u=>∃t,u=Value.str x t
 |.byt b,u=>∃t,u=Value.bytes b t
 |.flt b,u=>∃t,u=Value.float b t
 |.ref a,u=>u=Value.ref a
 |.ty n,u=>u=Value.type n
abbrev Vals:List V->List Value->Prop:=Paired RelV
theorem Vals.length{xs:List V}{us:Zh}(r:Vals xs us):xs.length=us.length:=Paired.length r
theorem Vals.get:∀{xs:List V}{us:Zh}{i:Nat}{x:V},Vals xs us->xs[i]?=some x->∃u,us[i]?=some u/\RelV x u
 |_,_,_,_,.nil,e=>by simp at e
 |_,_,0,_,.cons r _,e=>by simp at e;subst e;exact⟨_,rfl,r⟩
 |_,_,i+1,x,.cons _ t,e=>by
  obtain⟨u,a,h2⟩:=Vals.get (i:=i) (x:=x) t (by simpa using e);exact⟨u,by simpa using a,h2⟩
theorem Vals.set{x:V}{u:Value}(r:RelV x u):∀{xs:List V}{us:Zh}(i:Nat),Vals xs us->Vals (xs.set i x) (us.set i u)
 |_,_,_,.nil=>.nil
 |_,_,0,.cons _ t=>.cons r t
 |_,_,i+1,.cons q t=>.cons q (Vals.set r i t)
theorem Vals.append{xs a:List V}{us b:Zh}(h:Vals xs us)(s:Vals a b):Vals (xs++a) (us++b):=by
 induction h with
 |nil=>exact s
 |cons r _ c=>exact .cons r c
theorem Vals.take:∀{xs:List V}{us:Zh}(n:Nat),Vals xs us->Vals (xs.take n) (us.take n)
 |_,_,0,_=>.nil
 |_,_,_+1,.nil=>.nil
 |_,_,n+1,.cons r t=>.cons r (Vals.take n t)
theorem Vals.drop:∀{xs:List V}{us:Zh}(n:Nat),Vals xs us->Vals (xs.drop n) (us.drop n)
 |_,_,0,r=>r
 |_,_,_+1,.nil=>.nil
 |_,_,n+1,.cons _ t=>Vals.drop n t
def RelO:Option V->Option Value->Prop
 |some v,some u=>RelV v u
 |none,none=>True
 |_,_=>False
def KV{a:Type}:List (a×V)->List (a×Value)->Prop:=Paired λ(p:a×V) (q:a×Value)=>p.1=q.1/\RelV p.2 q.2
def kV:Key->V
 |.inl i=>.int i
 |.inr x=>.str x
inductive HO where
  /-- a list -/
  | lst (xs:List V)
  /-- a tuple (never changes) -/
  | tup (xs:List V)
  /-- a dict whose keys are ints and texts; one whose keys are tuples of ints and texts (the empty one is both) -/
  | dK (e_:List (Key × V)) | dT (e_:List (List Key × V))
  /-- a set of ints: d_ members,d_ size -/
  | set (S:Int->Bool) (n:Nat)
  /-- an instance of the class at C,d_ dict at dx,d_ attributes -/
  | ins (C dx:Addr) (fs:List (Str × V))
  /-- the dict of the instance at x -/
  | own (x:Addr)
  /-- the dict of an exception -/
  | xd (fs:List (Str × V))
  /-- a bound method,f of x -/
  | met (f x:Addr)
  /-- a range object lo,lo + 1,.. below hi -/
  | rng (lo hi:Int)
  /-- a thing that is known to the object (the script; a dict while a loop walks it): read,never written while it is so -/
  | frz (o:Obj) (u:HO)
  /-- a code object's table -/
  | tbl (ps:Zq)
  /-- any other thing,by what is true of d_ one object (a def of P5 own: SetO a S n:=HO.ext λh=>..) -/
  | ext (φ:Heap->Prop)
abbrev Hp:=Addr->Option HO
def upd(H:Hp)(a:Addr)(o:HO):Hp:=λb=>if b=a then some o else H b
theorem ay{H:Hp}{a:Addr}{o:HO}:upd H a o a=some o:=by unfold upd;rw[if_pos rfl]
theorem aD{H:Hp}{a b:Addr}{o:HO}(h:b≠a):upd H a o b=H b:=by unfold upd;rw[if_neg h]
theorem GE{H:Hp}{a b:Addr}{o u:HO}(h:H a=some o)(h':H b=some u)(d:o≠u):a≠b:=by
 intro e;subst e;rw[h] at h';exact d (Yi h')
theorem aT{H:Hp}{a b:Addr}{o:HO}(h:H a=some o)(h':H b=none):a≠b:=by
 intro e;subst e;rw[h] at h';cases h'
section
variable (P:ZS)(w:World)
def aQ(H:Hp)(h:Heap)(a:Addr):HO->Prop
 |.lst xs=>xs.length<=sizeLine/\∃(d_:Zh) (n:Nat),Vals xs d_/\h.get? a=some { cls:=.type "list",data:=.seq d_.toArray n }
 |.tup xs=>xs.length<=sizeLine/\∃d_:List Value,Vals xs d_/\IsTup h a d_.toArray
 |.dK b=>b.length<=sizeLine/\(a==sysModules)=false/\∃vs,KV b vs/\h.DictOf (bg P w) a vs
 |.dT b=>b.length<=sizeLine/\(a==sysModules)=false/\∃xs:List (List Key×Addr×Value),
   Paired (λ(p:List Key×V) (q:List Key×Addr×Value)=>p.1=q.1/\H q.2.1=some (.tup (p.1.map kV))/\RelV p.2 q.2.2) b xs /\
   ∃o es g,h.get? a=some o/\o.ExactDict/\o.data=.dict es g/\es.toList=xs.map (entryOfKey (tupleKind (bg P w)))/\(xs.map (·.1)).Nodup
 |.set S n=>h.SetOf (intKind P w) a S n
 |.ins C dx fs=>H dx=some (.own a)/\fs.length<=1000/\dx≠a/\h.get? a=some (PySem.W.instObj C dx) /\
   ∃mA,h.Ns1 dx mA/\(∀f,RelO (fs.lookup f) (mA f))/\PySem.Within mA (fs.map (·.1))
 |.own _=>∃o,h.get? a=some o
 |.xd fs=>∃mA,h.Ns1 a mA/\∀f,RelO (fs.lookup f) (mA f)
 |.rng lo hi=>∃t u v,h.get? a=some { cls:=.type "range",data:=.fields #[.int lo t,.int hi u,.int 1 v] }
 |.frz o u=>h.get? a=some o/\aQ H h a u
 |.tbl ps=>h.get? a=some { cls:=.none,data:=.fields ps }
 |.met f x=>h.get? a=some (PySem.W.methodObj (.ref f) (.ref x))
 |.ext c=>c h/\(∃o,h.get? a=some o)/\∀d h2:Heap,c d->(∀o,d.get? a=some o->h2.get? a=some o)->c h2
def HOk(H:Hp)(h:Heap):Prop:=∀a o,H a=some o->aQ P w H h a o
end
section
variable {P:ZS}{w:World}{H H':Hp}{h h':Heap}{a:Addr}{o:HO}
theorem aQ.lt(x:aQ P w H h a o):a<h.objs.size:=by
 cases o with
 |lst xs=>obtain⟨_,_,_,_,e⟩:=x;exact Ye e
 |tup xs=>obtain⟨_,_,_,p⟩:=x;exact p.lt
 |dK b=>obtain⟨_,_,_,_,o,_,_,e,_⟩:=x;exact Ye e
 |dT b=>obtain⟨_,_,_,_,o,_,_,e,_⟩:=x;exact Ye e
 |set S n=>obtain⟨o,_,_,_,e,_⟩:=x;exact Ye e
 |ins C dx fs=>obtain⟨_,_,_,e,_⟩:=x;exact Ye e
 |own y=>obtain⟨_,e⟩:=x;exact Ye e
 |xd fs=>obtain⟨_,⟨_,_,_,e,_⟩,_⟩:=x;exact Ye e
 |rng lo hi=>obtain⟨_,_,_,e⟩:=x;exact Ye e
 |frz c u=>obtain⟨e,_⟩:=x;exact Ye e
 |tbl ps=>exact Ye (show h.get? a=some _ from x)
 |met f y=>exact Ye (show h.get? a=some _ from x)
 |ext d=>obtain⟨_,⟨_,e⟩,_⟩:=x;exact Ye e
theorem Paired.mapP{c d:Type}{F G:c->d->Prop}{l₁:List c}{g:List d}(h:Paired F l₁ g)(f:∀a b,F a b->G a b):Paired G l₁ g:=by
 induction h with
 |nil=>exact .nil
 |cons r _ j=>exact .cons (f _ _ r) j
theorem aQ.stay(x:aQ P w H h a o)(k:∀b u,(b=a\/H b=some (.own a))->h.get? b=some u->h'.get? b=some u)
  (l:∀b,H b=some (.own a)->H' b=some (.own a)) (ht:∀b xs,H b=some (.tup xs)->H' b=some (.tup xs)):aQ P w H' h' a o:=by
 induction o with
 |lst xs=>obtain⟨z,d_,n,r,e⟩:=x;exact⟨z,d_,n,r,k _ _ (.inl rfl) e⟩
 |tup xs=>obtain⟨z,d_,r,g,e,c⟩:=x;exact⟨z,d_,r,g,k _ _ (.inl rfl) e,c⟩
 |dK m=>obtain⟨z,y,vs,r,g,es,j,e,c⟩:=x;exact⟨z,y,vs,r,g,es,j,k _ _ (.inl rfl) e,c⟩
 |dT m=>
  obtain⟨z,y,xs,r,g,es,j,e,c⟩:=x;exact⟨z,y,xs,Paired.mapP r λp q z=>⟨z.1,ht _ _ z.2.1,z.2.2⟩,g,es,j,k _ _ (.inl rfl) e,c⟩
 |set S n=>obtain⟨g,es,j,t,e,c⟩:=x;exact⟨g,es,j,t,k _ _ (.inl rfl) e,c⟩
 |ins C dx fs=>
  obtain⟨d,z,ne,e,mA,⟨od,es,j,e2,c⟩,r⟩:=x;exact⟨l _ d,z,ne,k _ _ (.inl rfl) e,mA,⟨od,es,j,k _ _ (.inr d) e2,c⟩,r⟩
 |own y=>obtain⟨g,e⟩:=x;exact⟨g,k _ _ (.inl rfl) e⟩
 |xd fs=>obtain⟨mA,⟨od,es,j,e,c⟩,r⟩:=x;exact⟨mA,⟨od,es,j,k _ _ (.inl rfl) e,c⟩,r⟩
 |rng lo hi=>obtain⟨t,u,v,e⟩:=x;exact⟨t,u,v,k _ _ (.inl rfl) e⟩
 |frz g u A=>obtain⟨e,q⟩:=x;exact⟨k _ _ (.inl rfl) e,A q⟩
 |tbl ps=>
  have e:h.get? a=some { cls:=.none,data:=.fields ps }:=x;show h'.get? a=some { cls:=.none,data:=.fields ps };exact k a _ (.inl rfl) e
 |met f y=>
  have e:h.get? a=some (PySem.W.methodObj (.ref f) (.ref y)):=x;show h'.get? a=some (PySem.W.methodObj (.ref f) (.ref y));exact k a _ (.inl rfl) e
 |ext B=>obtain⟨p,⟨o,e⟩,st⟩:=x;exact⟨st _ _ p λo q=>k _ _ (.inl rfl) q,⟨o,k _ _ (.inl rfl) e⟩,st⟩
theorem HOk.lt(x:HOk P w H h)(e:H a=some o):a<h.objs.size:=(x a o e).lt
theorem HOk.fresh(x:HOk P w H h)(e:h.objs.size<=a):H a=none:=by
 cases q:H a with
 |none=>rfl
 |some u=>exact absurd (ZV (x.lt q) e) (ZW _)
theorem HOk.kept(x:HOk P w H h)(k:∀b u,h.get? b=some u->h'.get? b=some u):HOk P w H h':=λa o e=>
 (x a o e).stay (λb u _ q=>k b u q) (λ_ q=>q) λ_ _ q=>q
theorem HOk.laid(x:HOk P w H h)(k:∀b u,h.get? b=some u->h'.get? b=some u)(hp:h.objs.size<=a)(new:aQ P w (upd H a o) h' a o):HOk P w (upd H a o) h':=λb u e=>by
 have hn:=x.fresh hp;by_cases hb:b=a
 ·subst hb;rw[ay] at e;cases e;exact new
 ·rw[aD hb] at e
  exact(x b u e).stay (λc v _ q=>k c v q) (λc q=>by rw[aD (aT q hn)];exact q) λc xs q=>by rw[aD (aT q hn)];exact q
end
def Rd(H:Hp)(a:Addr)(u:HO):Prop:=H a=some u \/ ∃o,H a=some (.frz o u)
theorem Rd.ok{P:ZS}{w:World}{H:Hp}{h:Heap}{a:Addr}{u:HO}(r:Rd H a u)(x:HOk P w H h):aQ P w H h a u:=by
 rcases r with r | ⟨o,r⟩
 ·exact x a u r
 ·obtain⟨_,q⟩:=x a _ r
  exact q
def Mut:Option HO->Prop
 |some (.lst _)=>True
 |some (.dK _)=>True
 |some (.dT _)=>True
 |some (.set _ _)=>True
 |some (.ins _ _ _)=>True
 |some (.ext _)=>True
 |_=>False
section
variable {P:ZS}{w:World}{H:Hp}{h h':Heap}{x e:Addr}{o':HO}
theorem HOk.write(ok:HOk P w H h)(mu:Mut (H x))(d:e=x\/H e=some (.own x))(k:∀b u,b≠e->h.get? b=some u->h'.get? b=some u)(j:∃u,h'.get? e=some u)
  (new:aQ P w (upd H x o') h' x o'):HOk P w (upd H x o') h':=λb u q=>by
 have f:∀c y,H c=some (.own y)->c≠x:=λc y r z=>by subst z;rw[r] at mu;exact mu
 have l:∀c xs,H c=some (.tup xs)->c≠x:=λc xs r z=>by subst z;rw[r] at mu;exact mu
 by_cases hb:b=x
 ·subst hb;rw[ay] at q;cases q;exact new
 ·rw[aD hb] at q
  by_cases a:b=e
  ·have g:H b=some (.own x):=by
    rcases d with z | z
    ·exact absurd (a.trans z) hb
    ·rw[a];exact z
   rw[q] at g;cases g;obtain⟨v,m⟩:=j;exact⟨v,by rw[a];exact m⟩
  ·refine(ok b u q).stay (λc v hc r=>k c v ?_ r) (λc r=>by rw[aD (f c b r)];exact r) λc xs r=>by rw[aD (l c xs r)];exact r
   rcases hc with rfl | hc
   ·exact a
   ·rintro rfl
    rcases d with z | z
    ·exact f c b hc z
    ·rw[hc] at z;cases z;exact hb rfl
end
structure Un (fs ex:Zm) (H H':Hp) (h h':Heap):Prop where
 keep:∀b o,h.get? b=some o->H b=none->b∉fs->b∉ex->h'.get? b=some o
 slot:∀b o,h.get? b=some o->H b=none->b∈fs->b∉ex->∃sl,h'.get? b=some { o with slots:=sl }
 free:∀b o,h.get? b=some o->H b=none->b∉ex->H' b=none
 there:∀b o,h.get? b=some o->b∉ex->∃o',h'.get? b=some o'
 tups:∀b xs,H b=some (.tup xs)->H' b=some (.tup xs)
 frzs:∀b o u,H b=some (.frz o u)->H' b=some (.frz o u)
 tbls:∀b ps,H b=some (.tbl ps)->∃more,H' b=some (.tbl (ps++more))
section
variable {fs IF ex TF:Zm}{H H1 H2:Hp}{h h1 h2 h':Heap}{a x e:Addr}{o:HO}
theorem Un.any(u:Un fs ex H H1 h h1){b:Addr}{c:Obj}(q:h.get? b=some c)(n:H b=none)(hx:b∉ex):∃sl,h1.get? b=some { c with slots:=sl }:=by
 by_cases hb:b∈fs
 ·exact u.slot b c q n hb hx
 ·exact⟨c.slots,u.keep b c q n hb hx⟩
theorem Un.kept(k:∀b u,h.get? b=some u->h'.get? b=some u):Un fs ex H H h h':=
 ⟨λb c q _ _ _=>k b c q,λb c q _ _ _=>⟨c.slots,k b c q⟩,λ_ _ _ n _=>n,λb c q _=>⟨c,k b c q⟩,λ_ _ q=>q,λ_ _ _ q=>q,λ_ ps q=>⟨#[],by rw[q];simp⟩⟩
theorem Un.refl:Un fs ex H H h h:=Un.kept λ_ _ q=>q
theorem Un.laid(k:∀b u,h.get? b=some u->h'.get? b=some u)(hp:h.objs.size<=a)(hn:H a=none):Un fs ex H (upd H a o) h h' where
 keep:=λb u q _ _ _=>k b u q
 slot:=λb u q _ _ _=>⟨u.slots,k b u q⟩
 free:=λb u q n _=>by rw[aD (ZX (ZV (Ye q) hp))];exact n
 there:=λb u q _=>⟨u,k b u q⟩
 tups:=λb xs q=>by rw[aD (aT q hn)];exact q
 frzs:=λb u xs q=>by rw[aD (aT q hn)];exact q
 tbls:=λb ps q=>⟨#[],by rw[aD (aT q hn),q];simp⟩
theorem Un.write(mu:Mut (H x))(d:e=x\/H e=some (.own x))(k:∀b u,b≠e->h.get? b=some u->h'.get? b=some u)(f:∃u,h'.get? e=some u):Un fs ex H (upd H x o) h h':=by
 have hx:∀b,H b=none->b≠x:=λb n z=>by subst z;rw[n] at mu;exact mu
 have hb:∀b,H b=none->b≠e:=λb n z=>by
  subst z;rcases d with r | r
  ·exact hx b n r
  ·rw[n] at r;cases r
 have hm:∀b u,H b=some u->¬Mut (some u)->b≠x:=λb u q nm z=>by subst z;rw[q] at mu;exact nm mu
 refine⟨λb u q n _ _=>k b u (hb b n) q,λb u q n _ _=>⟨u.slots,k b u (hb b n) q⟩,λb u q n _=>by rw[aD (hx b n)];exact n,λb u q _=>?_,
  λb xs q=>by rw[aD (hm b _ q λz=>z)];exact q,λb u xs q=>by rw[aD (hm b _ q λz=>z)];exact q,λb ps q=>⟨#[],by rw[aD (hm b _ q λz=>z),q];simp⟩⟩
 by_cases c:b=e
 ·subst c;exact f
 ·exact⟨u,k b u c q⟩
end
def trk(h:Heap)(H:Hp):List Addr:=(List.range h.objs.size).filter λa=>(H a).isSome
def hidT(h:Heap)(H:Hp):Heap:=PySem.W.hideAll h (trk h H)
theorem zh(h:Heap)(H:Hp):(hidT h H).objs.size=h.objs.size:=PySem.W.hideAll_size _ _
theorem A4{h:Heap}{H:Hp}{b:Addr}{o:Obj}(e:h.get? b=some o)(n:H b=none):(hidT h H).get? b=some o:=
 PySem.W.hideAll_get _ e λhm=>by
  have q:(H b).isSome=true:=(ZY.mp hm).2;rw[n] at q;simp at q
theorem C7{h:Heap}{H:Hp}{b:Addr}{o:Obj}(e:(hidT h H).get? b=some o):h.get? b=some o/\H b=none:=by
 have e':h.get? b=some o:=PySem.W.of_hideAll (trk h H) e;refine⟨e',?_⟩;cases q:H b with
 |none=>rfl
 |some x=>
  have hm:b∈trk h H:=ZY.mpr ⟨ZZ.mpr (Ye e'),by simp[q]⟩;have z:(hidT h H).get? b=none:=PySem.W.hideAll_none (trk h H) hm;rw[z] at e;cases e
def C9(g h:Heap)(L:Addr):List (Addr×Obj):=(List.range h.objs.size).filterMap λa=>if a=L\/(g.get? a).isSome=true then none else(h.get? a).map λo=>(a,o)
def rest(g h:Heap)(L d:Addr):List (Addr×Obj):=(C9 g h L).filter λp=>decide (p.1≠d)
structure Mod (K:Za) (mg:Zi) (base:Heap):Prop where
 kin:K.In base
 glob:base.Ns mainGlobals mg
 blt:∃mb,base.Ns builtinsNs mb/\∀x:Str,x ≠ "__name__"->mb x=bootBuiltins x
 nolimit:base.NoLimit
structure Cx where
 prog:Program
 w:World
 K:PySem.W.Frag
 mg:Str->Option Value
 base:Heap
 A:Around
 N:List Str
 s₀:Shared
 H₀:Hp
 env:Env
 outer:List Env
 stack:List Env
 ex:List Addr
 fn:Str->Bool
 calm:Bool
 pn:List (Addr×Obj)
 xe:Value->Shared->Prop
def frs(l:List Env):List Addr:=l.filterMap (·.frame)
abbrev Cx.fs(X:Cx):List Addr:=frs X.outer
def Vis(sc:Scope)(x:Str):Prop:=sc.names.lookup x=some .local \/ sc.names.lookup x=some .cell\/sc.names.lookup x=some .free
def Loc(sc:Scope)(x:Str):Prop:=sc.names.lookup x=some .local \/ sc.names.lookup x=some .cell
def Look(env:Env)(h:Heap)(m:Zi)(x:Str)(u:Value):Prop:=
 (env.kindOf x=some .local/\m x=some u)\/((env.kindOf x=some .cell\/env.kindOf x=some .free)/\∃c,env.cells.lookup x=some c/\h.IsCell c (some u))
structure Cx.Ok (X:Cx):Prop where
 mod:Mod X.K X.mg X.base
 kind:X.env.scope.kind=.function
 glob:X.env.globals=mainGlobals
 blt:X.env.builtins=builtinsNs
 above:X.s₀.heap.objs.size<=X.env.locals
 inj:∀x y c,X.env.cells.lookup x=some c->X.env.cells.lookup y=some c->x=y
 has:∀x,(X.env.kindOf x=some .cell\/X.env.kindOf x=some .free)->∃c,X.env.cells.lookup x=some c
 cab:∀x c,X.fn x=true->X.env.cells.lookup x=some c->X.s₀.heap.objs.size<=c
 hd:X.calm=true->X.A.handled=none
 frames:X.A.frames=some X.stack
 stk:X.stack=X.outer\/(X.stack=X.env::X.outer/\X.env.frame=some X.env.locals)
 exf:∀b∈X.ex,b≠X.env.locals/\∀x c,X.env.cells.lookup x=some c->c≠b
 bs:∀b o,X.base.get? b=some o->X.s₀.heap.get? b=some o/\X.H₀ b=none
 bsz:X.base.objs.size<=X.s₀.heap.objs.size
 noex:∀b o,X.base.get? b=some o->b∉X.ex
 exfs:∀b∈X.ex,b∉X.fs
 funs:X.s₀.heap.FunFrames X.base X.outer
 frf:∀b∈X.fs,X.H₀ b=none
structure Inv (X:Cx) (a_:Zg) (σ:List (Option V)) (H:Hp) (s:Shared):Prop where
 ok:X.Ok
 os:s.os=X.s₀.os
 bare:AllBare s.gens
 base:Un X.fs X.ex X.H₀ H X.s₀.heap s.heap
 loc:∃m,s.heap.Ns X.env.locals m/\∀(i:Nat) (x:Str) (v:V),X.N[i]?=some x->σ[i]?=some (some v)->Vis X.env.scope x->∃u,RelV v u/\Look X.env s.heap m x u
 cell:∀x c,X.env.cells.lookup x=some c->∃v,s.heap.IsCell c v
 free:H X.env.locals=none
 freeC:∀x c,X.env.cells.lookup x=some c->H c=none
 pin:∀p∈X.pn++a_,s.heap.get? p.1=some p.2/\H p.1=none/\p.1≠X.env.locals/\p.1∉X.fs/\∀v,p.2.data≠.cell v
 hok:HOk X.prog X.w H s.heap
 len:σ.length=X.N.length
section
variable {X:Cx}{a_:Zg}{σ:List (Option V)}{H H':Hp}{s:Shared}{h':Heap}
theorem Cx.Ok.nofr(ok:X.Ok){b:Addr}{o:Obj}(e:X.base.get? b=some o):b∉X.fs:=λhb=>by
 have:=(ok.funs.mem hb).1
 rw[e] at this;cases this
theorem Inv.bs(I:Inv X a_ σ H s):∀b o,X.base.get? b=some o->s.heap.get? b=some o/\H b=none:=λb o e=>
 ⟨I.base.keep b o (I.ok.bs b o e).1 (I.ok.bs b o e).2 (I.ok.nofr e) (I.ok.noex b o e),I.base.free b o (I.ok.bs b o e).1 (I.ok.bs b o e).2 (I.ok.noex b o e)⟩
theorem Inv.bk(I:Inv X a_ σ H s):∀b o,X.base.get? b=some o->s.heap.get? b=some o:=λb o e=>(I.bs b o e).1
theorem Inv.mod(I:Inv X a_ σ H s):Mod X.K X.mg X.base:=I.ok.mod
theorem Inv.kIn(I:Inv X a_ σ H s):X.K.In s.heap:=I.ok.mod.kin.keeps I.bk
theorem Inv.lt(I:Inv X a_ σ H s):X.env.locals<s.heap.objs.size:=let⟨_,hn,_⟩:=I.loc;hn.lt
theorem Inv.sz(I:Inv X a_ σ H s):X.s₀.heap.objs.size<=s.heap.objs.size:=YA I.ok.above (Nat.le_of_lt I.lt)
theorem Inv.nofs(I:Inv X a_ σ H s){a:Addr}(h:s.heap.objs.size<=a):a∉X.fs:=λhb=>by
 obtain⟨_,o,b,_⟩:=I.ok.funs.mem hb;exact absurd (ZV (Ye b) (YA I.sz h)) (ZW _)
theorem Inv.cne(I:Inv X a_ σ H s):∀x c,X.env.cells.lookup x=some c->c≠X.env.locals:=λx c e z=>by
 obtain⟨v,o,a,hd⟩:=I.cell x c e;obtain⟨m,⟨o',es,f,b,d,_⟩,_⟩:=I.loc;rw[z,b] at a;cases a;rw[d] at hd;cases hd
theorem Inv.funs(I:Inv X a_ σ H s):s.heap.FunFrames X.base X.outer:=by
 have all:∀(l:List Env),(∀b∈frs l,b∈X.fs)->X.s₀.heap.FunFrames X.base l->s.heap.FunFrames X.base l:=by
  intro l;induction l with
  |nil=>intro _ _;trivial
  |cons env r d=>
   intro c hl;obtain⟨hk,⟨L,o,hf,hn,f,hd⟩,g⟩:=hl;have a:L∈X.fs:=c L (by unfold frs;rw[YB,hf];exact YC);obtain⟨sl,e⟩:=I.base.slot L o f (I.ok.frf L a) a λz=>I.ok.exfs L z a
   exact⟨hk,⟨L,_,hf,hn,e,hd⟩,d (λb hb=>c b (by unfold frs;rw[YB,hf];exact YD _ hb)) g⟩
 exact all X.outer (λ_ hb=>hb) I.ok.funs
theorem Inv.stack(I:Inv X a_ σ H s):s.heap.FunFrames X.base X.stack:=by
 rcases I.ok.stk with e | ⟨e,hf⟩
 ·rw[e];exact I.funs
 ·rw[e]
  obtain⟨m,hn,_⟩:=I.loc;refine .cons (by rw[I.ok.kind];decide) hf hn ?_ I.funs;exact Heap.get?_none_of_le (YA I.ok.bsz I.ok.above)
theorem Inv.stkSub(I:Inv X a_ σ H s):∀b∈frs X.stack,b∈X.env.locals::X.fs:=λb hb=>by
 rcases I.ok.stk with e | ⟨e,hf⟩
 ·rw[e] at hb;exact YD _ hb
 ·rw[e] at hb
  unfold frs at hb;rw[YB,hf] at hb;exact hb
theorem Inv.stkFree(I:Inv X a_ σ H s):∀b∈frs X.stack,H b=none:=λb hb=>by
 rcases YE.mp (I.stkSub b hb) with e | hb
 ·rw[e];exact I.free
 ·obtain⟨_,o,a,_⟩:=I.ok.funs.mem hb
  exact I.base.free b o a (I.ok.frf b hb) λz=>I.ok.exfs b z hb
theorem Inv.step{g':Array GenState}{t':Nat}{d':Drawn}{ch:Zm}(I:Inv X a_ σ H s)
  (g:∀b∈ch,(b∈X.ex\/X.s₀.heap.objs.size<=b)/\b≠X.env.locals/\(∀x c,X.env.cells.lookup x=some c->c≠b)/\∀p∈X.pn++a_,p.1≠b)
  (keep:∀b o,b≠X.env.locals->b∉X.fs->b∉ch->s.heap.get? b=some o->H b=none->h'.get? b=some o)
  (slot:∀b o,b≠X.env.locals->b∈X.fs->b∉ch->s.heap.get? b=some o->H b=none->∃sl,h'.get? b=some { o with slots:=sl }) (free:∀b o,b∉ch->s.heap.get? b=some o->H b=none->H' b=none)
  (there:∀b o,b∉ch->s.heap.get? b=some o->∃o',h'.get? b=some o')
  (tups:∀b xs,H b=some (.tup xs)->H' b=some (.tup xs)) (frzs:∀b o u,H b=some (.frz o u)->H' b=some (.frz o u)) (tbls:∀b ps,H b=some (.tbl ps)->∃more,H' b=some (.tbl (ps++more)))
  (ns:∀m,s.heap.Ns X.env.locals m->h'.Ns X.env.locals m) (hok:HOk X.prog X.w H' h') (hg:AllBare g'):
  Inv X a_ σ H' { s with heap:=h',gens:=g',drawn:=d',toks:=t' }:=by
 have y:∀b o,X.s₀.heap.get? b=some o->b≠X.env.locals:=λb o e=>ZX (ZV (Ye e) I.ok.above)
 have t:∀b o,X.s₀.heap.get? b=some o->b∉X.ex->b∉ch:=λb o e hx hb=>by
  rcases(g b hb).1 with z | z
  ·exact hx z
  ·exact absurd (ZV (Ye e) z) (ZW _)
 have a:∀x c,X.env.cells.lookup x=some c->∀v,s.heap.IsCell c v->h'.IsCell c v:=λx c e v ⟨o,f,hd⟩=>by
  have j:c∉ch:=λz=>(g c z).2.2.1 x c e rfl
  by_cases hc:c∈X.fs
  ·obtain⟨sl,q⟩:=slot c o (I.cne x c e) hc j f (I.freeC x c e)
   exact⟨_,q,hd⟩
  ·exact⟨o,keep c o (I.cne x c e) hc j f (I.freeC x c e),hd⟩
 refine⟨I.ok,I.os,hg,⟨λb o e n hb hx=>?_,λb o e n hb hx=>?_,λb o e n hx=>?_,λb o e hx=>?_,λb xs e=>tups b xs (I.base.tups b xs e),λb o xs e=>frzs b o xs (I.base.frzs b o xs e),λb ps e=>?_⟩,?_,λx c e=>?_,?_,λx c e=>?_,λp hp=>?_,hok,I.len⟩
 ·exact keep b o (y b o e) hb (t b o e hx) (I.base.keep b o e n hb hx) (I.base.free b o e n hx)
 ·obtain⟨sl,e1⟩:=I.base.slot b o e n hb hx
  obtain⟨B,e2⟩:=slot b _ (y b o e) hb (t b o e hx) e1 (I.base.free b o e n hx);exact⟨B,e2⟩
 ·obtain⟨o',e1⟩:=I.base.there b o e hx
  exact free b o' (t b o e hx) e1 (I.base.free b o e n hx)
 ·obtain⟨o',e1⟩:=I.base.there b o e hx
  exact there b o' (t b o e hx) e1
 ·obtain⟨C,e1⟩:=I.base.tbls b ps e
  obtain⟨E,e2⟩:=tbls b _ e1;exact⟨C++E,by rw[e2,Array.append_assoc]⟩
 ·obtain⟨m,hn,hl⟩:=I.loc
  refine⟨m,ns m hn,λi x v e1 e2 F=>?_⟩;obtain⟨u,r,l⟩:=hl i x v e1 e2 F;refine⟨u,r,?_⟩;rcases l with l | ⟨k,c,e,z⟩
  ·exact .inl l
  ·exact .inr ⟨k,c,e,a x c e _ z⟩
 ·obtain⟨v,z⟩:=I.cell x c e
  exact⟨v,a x c e v z⟩
 ·obtain⟨m,⟨o,_,_,f,_⟩,_⟩:=I.loc
  exact free _ o (λz=>(g _ z).2.1 rfl) f I.free
 ·obtain⟨v,o,f,hd⟩:=I.cell x c e
  exact free c o (λz=>(g c z).2.2.1 x c e rfl) f (I.freeC x c e)
 ·obtain⟨e,n,ne,A,d⟩:=I.pin p hp
  have j:p.1∉ch:=λz=>(g p.1 z).2.2.2 p hp rfl
  exact⟨keep p.1 p.2 ne A j e n,free p.1 p.2 j e n,ne,A,d⟩
theorem Inv.un{t':Nat}(I:Inv X a_ σ H s)(u:Un X.fs [] H H' s.heap h')(hok:HOk X.prog X.w H' h'):Inv X a_ σ H' { s with heap:=h',toks:=t' }:=by
 obtain⟨m,⟨o,es,k,a,r⟩,_⟩:=id I.loc;obtain⟨sl,d⟩:=u.any a I.free (by simp);exact I.step (g':=s.gens) (d':=s.drawn) (ch:=[]) (λ_ z=>nomatch z) (λb o _ hb _ e n=>u.keep b o e n hb (by simp)) (λb o _ hb _ e n=>u.slot b o e n hb (by simp)) (λb o _ e n=>u.free b o e n (by simp)) (λb o _ e=>u.there b o e (by simp)) u.tups u.frzs u.tbls (λl hm=>by
  obtain⟨o',f,g,c,j⟩:=hm;rw[a] at c;cases c;exact⟨_,f,g,d,j⟩) hok I.bare
theorem Inv.call{g':Array GenState}{t':Nat}{d':Drawn}{ch:Zm}(I:Inv X a_ σ H s)(u:Un (frs X.stack) ch H H' s.heap h')(hok:HOk X.prog X.w H' h')(hg:AllBare g')
  (d:∀b∈ch,(b∈X.ex\/X.s₀.heap.objs.size<=b)/\b≠X.env.locals/\(∀x c,X.env.cells.lookup x=some c->c≠b)/\∀p∈X.pn++a_,p.1≠b):
  Inv X a_ σ H' { s with heap:=h',gens:=g',drawn:=d',toks:=t' }:=by
 obtain⟨m,⟨o,es,t,f,r⟩,_⟩:=id I.loc;obtain⟨sl,a⟩:=u.any f I.free λz=>(d _ z).2.1 rfl
 exact I.step (ch:=ch) d (λb o a hb hc e n=>u.keep b o e n (λz=>(YE.mp (I.stkSub b z)).elim a hb) hc) (λb o _ _ hc e n=>u.any e n hc) (λb o hc e n=>u.free b o e n hc) (λb o hc e=>u.there b o e hc) u.tups u.frzs u.tbls (λy hm=>by
  obtain⟨o',j,k,g,l⟩:=hm;rw[f] at g;cases g;exact⟨_,j,k,a,l⟩) hok hg
theorem Inv.turned{t':Nat}{it:Addr}(I:Inv X a_ σ H s)(k:∀b o,b≠it->s.heap.get? b=some o->h'.get? b=some o)(hn:H it=none)(a:it≠X.env.locals)
  (f:it∈X.ex\/X.s₀.heap.objs.size<=it) (h2:∀x c,X.env.cells.lookup x=some c->c≠it) (g:∀p∈X.pn++a_,p.1≠it):Inv X a_ σ H { s with heap:=h',toks:=t' }:=by
 have d:∀b u,H b=some u->b≠it:=λb u e z=>by rw[z,hn] at e;cases e
 refine I.step (g':=s.gens) (d':=s.drawn) (ch:=[it]) (λb hb=>?_) (λb o _ _ hc e _=>k b o (λz=>hc (by simp[z])) e) (λb o _ _ hc e _=>⟨o.slots,k b o (λz=>hc (by simp[z])) e⟩) (λ_ _ _ _ n=>n)
  (λb o hc e=>⟨o,k b o (λz=>hc (by simp[z])) e⟩) (λ_ _ e=>e) (λ_ _ _ e=>e) (λb ps e=>⟨#[],by rw[e];simp⟩) (λm hm=>?_) (λb u e=>?_) I.bare
 ·have e:b=it:=by simpa using hb
  subst e;exact⟨f,a,h2,g⟩
 ·obtain⟨o,es,j,l,r⟩:=hm
  exact⟨o,es,j,k _ o (Ne.symm a) l,r⟩
 ·refine(I.hok b u e).stay (λc v hc q=>k c v ?_ q) (λ_ q=>q) λ_ _ q=>q
  rcases hc with z | z
  ·rw[z];exact d b u e
  ·exact d c _ z
theorem Inv.tok(I:Inv X a_ σ H s)(t:Nat):Inv X a_ σ H { s with toks:=t }:=I.un (h':=s.heap) (t':=t) Un.refl I.hok
theorem Inv.kept{t':Nat}(I:Inv X a_ σ H s)(k:∀b u,s.heap.get? b=some u->h'.get? b=some u):Inv X a_ σ H { s with heap:=h',toks:=t' }:=I.un (Un.kept k) (I.hok.kept k)
theorem Inv.laid{a:Addr}{o:HO}{t':Nat}(I:Inv X a_ σ H s)(k:∀b u,s.heap.get? b=some u->h'.get? b=some u)(hp:s.heap.objs.size<=a)(new:aQ X.prog X.w (upd H a o) h' a o):
  Inv X a_ σ (upd H a o) { s with heap:=h',toks:=t' }:=I.un (Un.laid k hp (I.hok.fresh hp)) (I.hok.laid k hp new)
theorem Inv.write{x e:Addr}{o:HO}{t':Nat}(I:Inv X a_ σ H s)(mu:Mut (H x))(a:e=x\/H e=some (.own x))(k:∀b u,b≠e->s.heap.get? b=some u->h'.get? b=some u)(c:∃u,h'.get? e=some u)
  (new:aQ X.prog X.w (upd H x o) h' x o):Inv X a_ σ (upd H x o) { s with heap:=h',toks:=t' }:=I.un (Un.write mu a k c) (I.hok.write mu a k c new)
theorem Inv.pins_of{a:Zg}(I:Inv X a_ σ H s)(h:∀p∈a,s.heap.get? p.1=some p.2/\H p.1=none/\p.1≠X.env.locals/\p.1∉X.fs/\∀v,p.2.data≠.cell v):Inv X a σ H s:=
 ⟨I.ok,I.os,I.bare,I.base,I.loc,I.cell,I.free,I.freeC,λp hp=>(YF.mp hp).elim (λz=>I.pin p (List.mem_append_left _ z)) (h p),I.hok,I.len⟩
theorem uf{N:Zk}(c:N.Nodup){i j:Nat}{x:Str}(a:N[i]?=some x)(b:N[j]?=some x):i=j:=by
 obtain⟨d,e1⟩:=YG.mp a;obtain⟨h2,e2⟩:=YG.mp b;exact(List.getElem_inj c).mp (e1.trans e2.symm)
theorem sv{M:Model}{A:Around}{E:Zd}{i:Nat}{x:Str}{v:V}{u:Value}{Q:Zt}(I:Inv X a_ σ H s)(P:X.N.Nodup)(hi:X.N[i]?=some x)(hx:Loc X.env.scope x)(r:RelV v u)
  (h:∀C,Inv X a_ (σ.set i (some v)) H C->(∃a,Heap.SameBut a s.heap C.heap/\(a=X.env.locals\/X.env.cells.lookup x=some a))->Q () C) (hf:X.fn x=true\/X.env.scope.names.lookup x=some .local:=by first | exact .inl rfl | exact .inr rfl | assumption):wpAny M A (storeName X.env x u) Q E s:=by
 obtain⟨m,hn,hl⟩:=id I.loc;have Y:(X.env.scope.kind==.class||(X.env.scope.kind==.module&&X.env.locals != X.env.globals))=false:=by rw[I.ok.kind];rfl
 have R:i<σ.length:=by rw[I.len];exact(YG.mp hi).1
 have cne:=I.cne;have g:∀{a:Addr}{h':Heap},(∃o,s.heap.get? a=some o/\H a=none)->Heap.SameBut a s.heap h'->HOk X.prog X.w H h':=λ{a h'} ha f b Z e=>by
  obtain⟨_,_,S⟩:=ha;refine(I.hok b Z e).stay (λc t hc q=>(f.2 c ?_).trans q) (λ_ q=>q) λ_ _ q=>q
  rintro rfl;rcases hc with rfl | hc
  ·rw[S] at e;cases e
  ·rw[S] at hc;cases hc
 rcases hx with hk | hk
 ·refine wpAny_storeName_local hk hn (λh' Lw f=>?_) Y
  obtain⟨oL,_,_,Rk,_⟩:=id hn;refine h _ ⟨I.ok,I.os,I.bare,⟨λb o e n hb hx=>?_,λb o e n hb hx=>?_,I.base.free,λb o e hx=>?_,I.base.tups,I.base.frzs,I.base.tbls⟩,⟨_,Lw,λj y F e1 e2 G=>?_⟩,λy c e=>?_,I.free,I.freeC,λp hp=>?_,g ⟨oL,Rk,I.free⟩ f,by simpa using I.len⟩ ⟨_,f,.inl rfl⟩
  ·exact(f.2 b (ZX (ZV (Ye e) I.ok.above))).trans (I.base.keep b o e n hb hx)
  ·obtain⟨sl,e1⟩:=I.base.slot b o e n hb hx
   exact⟨sl,(f.2 b (ZX (ZV (Ye e) I.ok.above))).trans e1⟩
  ·obtain⟨o',e1⟩:=I.base.there b o e hx
   exact⟨o',(f.2 b (ZX (ZV (Ye e) I.ok.above))).trans e1⟩
  ·by_cases l:j=i
   ·subst l
    rw[hi] at e1;cases e1;rw[List.getElem?_set_self R] at e2;cases e2;exact⟨u,r,.inl ⟨hk,by simp⟩⟩
   ·rw[List.getElem?_set_ne (Ne.symm l)] at e2
    obtain⟨J,K,q⟩:=hl j y F e1 e2 G;refine⟨J,K,?_⟩;rcases q with⟨k,e⟩ | ⟨k,c,e,z⟩
    ·refine .inl ⟨k,?_⟩
     have:y≠x:=λe=>l (uf P e1 (e▸hi))
     simp[this,e]
    ·exact .inr ⟨k,c,e,z.sameBut f (cne y c e)⟩
  ·obtain⟨t,z⟩:=I.cell y c e
   exact⟨t,z.sameBut f (cne y c e)⟩
  ·obtain⟨e,n,ne,L,d⟩:=I.pin p hp
   exact⟨(f.2 p.1 ne).trans e,n,ne,L,d⟩
 ·have O:X.fn x=true:=by
   rcases hf with z | z
   ·exact z
   ·rw[z] at hk;cases hk
  obtain⟨c,hc⟩:=I.ok.has x (.inl hk);obtain⟨t,z⟩:=I.cell x c hc;refine wpAny_storeName_cell I.ok.kind hk hc z (λh' T f=>?_);obtain⟨oc,U,Nx⟩:=id z;refine h { s with heap:=h' } ⟨I.ok,I.os,I.bare,⟨λb o e n hb hx=>?_,λb o e n hb hx=>?_,I.base.free,λb o e hx=>?_,I.base.tups,I.base.frzs,I.base.tbls⟩,⟨m,hn.sameBut f (Ne.symm (cne x c hc)),λj y F e1 e2 G=>?_⟩,λy B e=>?_,I.free,I.freeC,λp hp=>?_,g ⟨oc,U,I.freeC x c hc⟩ f,by simpa using I.len⟩ ⟨c,f,.inr hc⟩
  ·exact(f.2 b (ZX (ZV (Ye e) (I.ok.cab x c O hc)))).trans (I.base.keep b o e n hb hx)
  ·obtain⟨sl,e1⟩:=I.base.slot b o e n hb hx
   exact⟨sl,(f.2 b (ZX (ZV (Ye e) (I.ok.cab x c O hc)))).trans e1⟩
  ·obtain⟨o',e1⟩:=I.base.there b o e hx
   exact⟨o',(f.2 b (ZX (ZV (Ye e) (I.ok.cab x c O hc)))).trans e1⟩
  ·by_cases l:j=i
   ·subst l
    rw[hi] at e1;cases e1;rw[List.getElem?_set_self R] at e2;cases e2;exact⟨u,r,.inr ⟨.inl hk,c,hc,T⟩⟩
   ·rw[List.getElem?_set_ne (Ne.symm l)] at e2
    obtain⟨J,K,q⟩:=hl j y F e1 e2 G;refine⟨J,K,?_⟩;rcases q with q | ⟨k,B,e,z'⟩
    ·exact .inl q
    ·refine .inr ⟨k,B,e,z'.sameBut f ?_⟩
     rintro rfl;exact l (uf P e1 (I.ok.inj _ _ _ e hc▸hi))
  ·by_cases W:B=c
   ·subst W;exact⟨_,T⟩
   ·obtain⟨w2,z2⟩:=I.cell y B e
    exact⟨w2,z2.sameBut f W⟩
  ·obtain⟨e,n,ne,L,d⟩:=I.pin p hp
   refine⟨(f.2 p.1 ?_).trans e,n,ne,L,d⟩;intro q;rw[q,U] at e;have q':oc=p.2:=Yi e;exact d t (by rw[←q'];exact Nx)
theorem ug{M:Model}{A:Around}{E:Zd}{i:Nat}{x:Str}{v:V}{u:Value}{Q:Zt}(I:Inv X a_ σ H s)(b:X.N.Nodup)(hi:X.N[i]?=some x)(hx:Loc X.env.scope x)(r:RelV v u)
  (h:∀a,Inv X a_ (σ.set i (some v)) H a->Q () a) (hf:X.fn x=true\/X.env.scope.names.lookup x=some .local:=by first | exact .inl rfl | exact .inr rfl | assumption):wpAny M A (storeName X.env x u) Q E s:=
 sv I b hi hx r (λa c _=>h a c) hf
theorem Inv.call'{a:Shared}{ch:Zm}(I:Inv X a_ σ H s)(d:a.os=s.os)(u:Un (frs X.stack) ch H H' s.heap a.heap)(hok:HOk X.prog X.w H' a.heap)(hg:AllBare a.gens)
  (f:∀b∈ch,(b∈X.ex\/X.s₀.heap.objs.size<=b)/\b≠X.env.locals/\(∀x c,X.env.cells.lookup x=some c->c≠b)/\∀p∈X.pn++a_,p.1≠b):Inv X a_ σ H' a:=by
 obtain⟨h',g',d',t',o'⟩:=a;have e:o'=s.os:=d;subst e;exact I.call (g':=g') (t':=t') (d':=d') u hok hg f
end
abbrev XK:=Value->Option Addr->Hp->Prop
abbrev St:=List (Option V)
abbrev VK:=V->Hp->Prop
abbrev TE:=St->Hp->VK->Prop
abbrev TT:=St->Hp->(Bool->Hp->Prop)->Prop
abbrev TA:=St->Hp->(List V->Hp->Prop)->Prop
structure Ends where
 nx:St->Hp->Prop
 rt:VK
 bk:St->Hp->Prop:=λ_ _=>False
 ct:St->Hp->Prop:=λ_ _=>False
abbrev TS:=Ends->St->Hp->Prop
def EP(X:Cx)(a_:Zg)(σ:St)(Q:VK)(u:Value)(a:Shared):Prop:=∃v H',Inv X a_ σ H' a/\RelV v u/\Q v H'
def TP(X:Cx)(a_:Zg)(σ:St)(Q:Bool->Hp->Prop)(b:Bool)(a:Shared):Prop:=∃H',Inv X a_ σ H' a/\Q b H'
def AP(X:Cx)(a_:Zg)(σ:St)(Q:List V->Hp->Prop)(us:Zh)(a:Shared):Prop:=∃vs H',Inv X a_ σ H' a/\Vals vs us/\Q vs H'
def SP(X:Cx)(a_:Zg)(D:Ends)(f:Flow)(b:Shared):Prop:=
 match f with
 |.next=>∃a H',Inv X a_ a H' b/\D.nx a H'
 |.brk=>∃a H',Inv X a_ a H' b/\D.bk a H'
 |.cont=>∃a H',Inv X a_ a H' b/\D.ct a H'
 |.ret u=>∃v a H',Inv X a_ a H' b/\RelV v u/\D.rt v H'
def PE(X:Cx)(e:Expr)(t:TE):Prop:=
 ∀(a_:Zg) (s:Shared) (σ:St) (H:Hp) (Q:VK),Inv X a_ σ H s->t σ H Q->wpAny (model X.prog X.w) X.A (eval e X.env) (EP X a_ σ Q) X.xe s
def PT(X:Cx)(e:Expr)(t:TT):Prop:=
 ∀(a_:Zg) (s:Shared) (σ:St) (H:Hp) (Q:Bool->Hp->Prop),Inv X a_ σ H s->t σ H Q->wpAny (model X.prog X.w) X.A (isTrue e X.env (eval e X.env)) (TP X a_ σ Q) X.xe s
def PW(X:Cx)(e:Expr)(t:TT):Prop:=
 ∀(a:Sem Value) (a_:Zg) (s:Shared) (σ:St) (H:Hp) (Q:Bool->Hp->Prop),Inv X a_ σ H s->t σ H Q->wpAny (model X.prog X.w) X.A (isTrue e X.env a) (TP X a_ σ Q) X.xe s
def PA(X:Cx)(es:Zl)(t:TA):Prop:=
 ∀(pos:Pos) (a_:Zg) (s:Shared) (σ:St) (H:Hp) (Q:List V->Hp->Prop),Inv X a_ σ H s->t σ H Q->wpAny (model X.prog X.w) X.A (spliced (backTo pos (starEach es X.env))) (AP X a_ σ Q) X.xe s
def PS(X:Cx)(st:Stmt)(t:TS):Prop:=
 ∀(a_:Zg) (s:Shared) (σ:St) (H:Hp) (D:Ends),Inv X a_ σ H s->t D σ H->wpAny (model X.prog X.w) X.A (exec st X.env) (SP X a_ D) X.xe s
def PSs(X:Cx)(st:Zz)(t:TS):Prop:=
 ∀(a_:Zg) (s:Shared) (σ:St) (H:Hp) (D:Ends),Inv X a_ σ H s->t D σ H->wpAny (model X.prog X.w) X.A (execs st X.env) (SP X a_ D) X.xe s
theorem thn{b:Type}{t:Sem b}{Q c:b->Shared->Prop}{M:Model}{A:Around}{E:Zd}{s:Shared}(h:wpAny M A t Q E s)(d:∀a s,Q a s->c a s):wpAny M A t c E s:=wpAny_mono h d λ_ _ x=>x
section
variable {X:Cx}
theorem bin{a b:Expr}{g j:TE}(ha:PE X a g)(hb:PE X b j){a_:Zg}{s:Shared}{σ:St}{H:Hp}{R:V->V->Hp->Prop}(I:Inv X a_ σ H s)(h:g σ H λx d=>j σ d λy c=>R x y c)
  {k:Type}{Q:k->Shared->Prop}{f:Value->Value->Sem k}
  (hf:∀v u s2 x y c,Inv X a_ σ c s2->RelV x v->RelV y u->R x y c->wpAny (model X.prog X.w) X.A (f v u) Q X.xe s2):
  wpAny (model X.prog X.w) X.A (eval a X.env) (λv l=>wpAny (model X.prog X.w) X.A (eval b X.env) (λu m=>wpAny (model X.prog X.w) X.A (f v u) Q X.xe m) X.xe l) X.xe s:=by
 refine thn (ha a_ s σ H _ I h) λv s1 n=>?_
 obtain⟨x,d,o,p,r⟩:=n;refine thn (hb a_ s1 σ d _ o r) λu s2 t=>?_
 obtain⟨y,c,z,B,C⟩:=t;exact hf v u s2 x y c z p B C
def tVar(i:Nat):TE:=λσ H Q=>∃v,σ[i]?=some (some v)/\Q v H
def tC(v:V):TE:=λ_ H Q=>Q v H
theorem EX{i:Nat}{x:Str}{pos:Pos}(b:X.N[i]?=some x)(d:Vis X.env.scope x)(hd:(x==("__debug__" : Str))=false:=by decide)(f:(x==("__classdict__" : Str))=false:=by decide):PE X (.Name x pos) (tVar i):=by
 intro a_ s σ H Q I h;obtain⟨v,e,h⟩:=h;obtain⟨m,hn,hl⟩:=I.loc;obtain⟨u,r,l⟩:=hl i x v b e d;have fin:EP X a_ σ Q u s:=⟨v,H,I,r,h⟩;rcases l with⟨hk,hm⟩ | ⟨hk,c,hc,a⟩
 ·exact wpAny_Name (wpAny_loadName_local I.ok.kind hk hn hm fin) hd
 ·rcases hk with hk | hk
  ·exact wpAny_Name (wpAny_loadName_cell I.ok.kind hk hc a fin) hd
  ·exact wpAny_Name (wpAny_loadName_free I.ok.kind hk hc a fin f) hd
theorem zi{i j pos}:PE X (.Constant (.int i) j pos) (tC (.int i)):=λ_ _ _ H _ I h=>wpAny_Constant_int ⟨.int i,H,I.tok _,⟨_,rfl⟩,h⟩
theorem GF{b j pos}:PE X (.Constant (.bool b) j pos) (tC (.bl b)):=λ_ _ _ H _ I h=>Constant_bool ⟨.bl b,H,I,rfl,h⟩
theorem EY{j pos}:PE X (.Constant .none j pos) (tC .non):=λ_ _ _ H _ I h=>Constant_none ⟨.non,H,I,rfl,h⟩
theorem EZ{x j pos}:PE X (.Constant (.str x) j pos) (tC (.str x)):=λ_ _ _ H _ I h=>Calls.Constant_str ⟨.str x,H,I.tok _,⟨_,rfl⟩,h⟩
def Gl(X:Cx)(x:Str):Prop:=X.env.kindOf x=some .globalImplicit
theorem rD{E:Zd}{a_:Zg}{s:Shared}{σ:St}{H:Hp}{x:Str}{u:Value}{pos:Pos}{Q:Zd}(I:Inv X a_ σ H s)(hg:Gl X x)(hm:X.mg x=some u)(h:Q u s)
  (hd:(x==("__debug__" : Str))=false:=by decide):wpAny (model X.prog X.w) X.A (eval (.Name x pos) X.env) Q E s:=
 Calls.Name_function_global I.ok.kind hg (Calls.loadGlobal_global (by rw[I.ok.glob];exact I.mod.glob.keeps I.bk) hm h) hd
theorem cK{E:Zd}{a_:Zg}{s:Shared}{σ:St}{H:Hp}{x:Str}{u:Value}{pos:Pos}{Q:Zd}(I:Inv X a_ σ H s)(hg:Gl X x)(hm:X.mg x=none)(a:bootBuiltins x=some u)(h:Q u s)
  (hn:x ≠ "__name__":=by decide) (hd:(x==("__debug__" : Str))=false:=by decide):wpAny (model X.prog X.w) X.A (eval (.Name x pos) X.env) Q E s:=by
 obtain⟨mb,b,h2⟩:=I.mod.blt;exact Calls.Name_function_global I.ok.kind hg (Calls.loadGlobal_builtin (by rw[I.ok.glob];exact I.mod.glob.keeps I.bk) hm (by rw[I.ok.blt];exact b.keeps I.bk) ((h2 x hn).trans a) h) hd
theorem Da{x:Str}{v:V}{u:Value}{pos:Pos}(hg:Gl X x)(hm:X.mg x=some u)(r:RelV v u)(hd:(x==("__debug__" : Str))=false:=by decide):PE X (.Name x pos) (tC v):=
 λ_ _ _ H _ I h=>rD I hg hm ⟨v,H,I,r,h⟩ hd
theorem Db{x:Str}{v:V}{u:Value}{pos:Pos}(hg:Gl X x)(hm:X.mg x=none)(a:bootBuiltins x=some u)(r:RelV v u)(hn:x ≠ "__name__":=by decide)(hd:(x==("__debug__" : Str))=false:=by decide):PE X (.Name x pos) (tC v):=
 λ_ _ _ H _ I h=>cK I hg hm a ⟨v,H,I,r,h⟩ hn hd
variable {a b:Expr}{ta tb:TE}{pos:Pos}
variable {tA Nc:TT}{rest:Zl}
def tAnd(t u:TT):TT:=λσ H Q=>t σ H λc d=>if c=true then u σ d Q else Q false d
def tOr(t u:TT):TT:=λσ H Q=>t σ H λc d=>if c=true then Q true d else u σ d Q
def tNot(t:TT):TT:=λσ H Q=>t σ H λc d=>Q (!c) d
theorem Dc(ha:PT X a tA):PW X (.BoolOp .And [a] pos) tA:=by
 intro d a_ s σ H Q I h;refine isTrue_and (thn (ha a_ s σ H Q I h) λc s1 e=>?_);cases c with
 |true=>exact isTrue_and_nil e
 |false=>exact e
theorem E1(ha:PT X a tA):PW X (.BoolOp .Or [a] pos) tA:=by
 intro d a_ s σ H Q I h;refine isTrue_or (thn (ha a_ s σ H Q I h) λc s1 e=>?_);cases c with
 |false=>exact isTrue_or_nil e
 |true=>exact e
theorem E2(ha:PT X a tA)(hb:PW X (.BoolOp .And (b::rest) pos) Nc):PW X (.BoolOp .And (a::b::rest) pos) (tAnd tA Nc):=by
 intro j a_ s σ H Q I h;refine isTrue_and (thn (ha a_ s σ H _ I h) λc s1 k=>?_);obtain⟨d,f,g⟩:=k;cases c with
 |true=>exact hb j a_ s1 σ d Q f g
 |false=>exact⟨d,f,g⟩
theorem GG(ha:PT X a tA)(hb:PW X (.BoolOp .Or (b::rest) pos) Nc):PW X (.BoolOp .Or (a::b::rest) pos) (tOr tA Nc):=by
 intro j a_ s σ H Q I h;refine isTrue_or (thn (ha a_ s σ H _ I h) λc s1 k=>?_);obtain⟨d,f,g⟩:=k;cases c with
 |true=>exact⟨d,f,g⟩
 |false=>exact hb j a_ s1 σ d Q f g
theorem E3(ha:PT X a tA):PT X (.UnaryOp .Not a pos) (tNot tA):=by
 intro a_ s σ H Q I h;exact isTrue_not (ha a_ s σ H (λc d=>Q (!c) d) I h)
def GH(ta tb:TE):TE:=λσ H Q=>ta σ H λx d=>∃c,x=.bl c/\if c=true then tb σ d Q else Q (.bl false) d
def tOrV(ta tb:TE):TE:=λσ H Q=>ta σ H λx d=>∃c,x=.bl c/\if c=true then Q (.bl true) d else tb σ d Q
def GI(ta:TE):TE:=λσ H Q=>ta σ H λx d=>∃c,x=.bl c/\Q (.bl (!c)) d
theorem E4{op}{t:TE}(h:PE X a t):PE X (.BoolOp op [a] pos) t:=λa_ s σ H Q I hw=>BoolOp_one (h a_ s σ H Q I hw)
theorem E5(ha:PE X a ta)(hb:PE X (.BoolOp .And (b::rest) pos) tb):PE X (.BoolOp .And (a::b::rest) pos) (GH ta tb):=by
 intro a_ s σ H Q I h;refine BoolOp_and (thn (ha a_ s σ H _ I h) λv s1 j=>?_);obtain⟨x,f,g,k,d⟩:=j;obtain⟨c,rfl,d⟩:=d;cases k;refine wpAny_truthy_bool ?_;cases c with
 |true=>exact hb a_ s1 σ f Q g d
 |false=>exact⟨.bl false,f,g,rfl,d⟩
theorem GJ(ha:PE X a ta)(hb:PE X (.BoolOp .Or (b::rest) pos) tb):PE X (.BoolOp .Or (a::b::rest) pos) (tOrV ta tb):=by
 intro a_ s σ H Q I h;refine BoolOp_or (thn (ha a_ s σ H _ I h) λv s1 j=>?_);obtain⟨x,f,g,k,d⟩:=j;obtain⟨c,rfl,d⟩:=d;cases k;refine wpAny_truthy_bool ?_;cases c with
 |false=>exact hb a_ s1 σ f Q g d
 |true=>exact⟨.bl true,f,g,rfl,d⟩
theorem E6(ha:PE X a ta):PE X (.UnaryOp .Not a pos) (GI ta):=by
 intro a_ s σ H Q I h;refine UnaryOp_ (thn (ha a_ s σ H _ I h) λv s1 f=>?_);obtain⟨x,g,j,k,d⟩:=f;obtain⟨c,rfl,d⟩:=d;cases k;exact not_of (wpAny_truthy_bool ⟨.bl (!c),g,j,rfl,d⟩)
def tIf(t:TT)(ta tb:TE):TE:=λσ H Q=>t σ H λc d=>if c=true then ta σ d Q else tb σ d Q
theorem A5{c:Expr}(hc:PT X c tA)(ha:PE X a ta)(hb:PE X b tb):PE X (.IfExp c a b pos) (tIf tA ta tb):=by
 intro a_ s σ H Q I h;refine wpAny_IfExp (thn (hc a_ s σ H _ I h) λd s1 k=>?_);obtain⟨f,g,j⟩:=k;cases d with
 |true=>exact ha a_ s1 σ f Q g j
 |false=>exact hb a_ s1 σ f Q g j
end
def SqL(K:Za)(H:Hp)(a:Addr)(xs:List V):Prop:=
 Rd H a (.lst xs) \/
  ∃(o:Obj) (d_:Zq) (n:Nat),K.lookup a=some o/\o.cls=.type "list"/\o.dict=none/\o.data=.seq d_ n/\d_.size<=sizeLine/\Vals xs d_.toList
def SqT(K:Za)(H:Hp)(a:Addr)(xs:List V):Prop:=
 Rd H a (.tup xs) \/
  ∃(o:Obj) (d_:Zq) (n:Nat),K.lookup a=some o/\o.cls=.type "tuple"/\o.data=.seq d_ n/\d_.size<=sizeLine/\Vals xs d_.toList
def absV:Value->Option V
 |.none=>some .non
 |.bool b=>some (.bl b)
 |.int i _=>some (.int i)
 |.str x _=>some (.str x)
 |.bytes b _=>some (.byt b)
 |.float b _=>some (.flt b)
 |.ref a=>some (.ref a)
 |.type n=>some (.ty n)
 |_=>none
theorem RelV.abs{x:V}{u:Value}(r:RelV x u):absV u=some x:=by
 cases x with
 |non=>cases r;rfl
 |bl _=>cases r;rfl
 |int _=>obtain⟨t,rfl⟩:=r;rfl
 |str _=>obtain⟨t,rfl⟩:=r;rfl
 |byt _=>obtain⟨t,rfl⟩:=r;rfl
 |flt _=>obtain⟨t,rfl⟩:=r;rfl
 |ref _=>cases r;rfl
 |ty _=>cases r;rfl
theorem RelV.inj{x y:V}{u:Value}(r:RelV x u)(q:RelV y u):x=y:=Yi (r.abs.symm.trans q.abs)
theorem Vals.inj{xs a:List V}{us:Zh}(h:Vals xs us)(h':Vals a us):xs=a:=by
 induction h generalizing a with
 |nil=>cases h';rfl
 |cons r t b=>cases h' with
  |cons c t'=>rw[r.inj c,b t']
section
variable {X:Cx}{a_:Zg}{σ:St}{H:Hp}{s:Shared}{a:Addr}{xs ys:List V}
theorem SqL.of{K:Za}(h:H a=some (.lst xs)):SqL K H a xs:=.inl (.inl h)
theorem SqT.of{K:Za}(h:H a=some (.tup xs)):SqT K H a xs:=.inl (.inl h)
theorem Inv.list(I:Inv X a_ σ H s)(h:SqL X.K H a xs):∃d_:List Value,Vals xs d_/\PlainL s.heap a d_.toArray/\xs.length<=sizeLine:=by
 rcases h with h | ⟨o,d_,n,hk,hc,hd,hs,hz,r⟩
 ·obtain⟨z,d_,n,r,e⟩:=h.ok I.hok
  exact⟨d_,r,⟨_,n,e,rfl,rfl,rfl⟩,z⟩
 ·refine⟨d_.toList,r,⟨o,n,I.kIn a o hk,hc,hd,by simpa using hs⟩,?_⟩
  have e:=r.length;simp only[YH] at e;omega
theorem Inv.tuple(I:Inv X a_ σ H s)(h:SqT X.K H a xs):∃d_:List Value,Vals xs d_/\IsTup s.heap a d_.toArray/\xs.length<=sizeLine:=by
 rcases h with h | ⟨o,d_,n,hk,hc,hs,hz,r⟩
 ·obtain⟨z,d_,r,p⟩:=h.ok I.hok
  exact⟨d_,r,p,z⟩
 ·refine⟨d_.toList,r,⟨o,I.kIn a o hk,hc,n,by simpa using hs⟩,?_⟩
  have e:=r.length;simp only[YH] at e;omega
theorem Inv.list_inj(I:Inv X a_ σ H s)(h:SqL X.K H a xs)(h':SqL X.K H a ys):xs=ys:=by
 obtain⟨d_,r,⟨o,n,e,_,_,d⟩,_⟩:=I.list h;obtain⟨p_,b,⟨o',n',e',_,_,d'⟩,_⟩:=I.list h';rw[e] at e';cases e';rw[d] at d';injection d' with d1 _
 have:d_=p_:=by simpa using congrArg Array.toList d1
 subst this;exact r.inj b
theorem Inv.tuple_inj(I:Inv X a_ σ H s)(h:SqT X.K H a xs)(h':SqT X.K H a ys):xs=ys:=by
 obtain⟨d_,r,⟨o,e,_,n,d⟩,_⟩:=I.tuple h;obtain⟨p_,b,⟨o',e',_,n',d'⟩,_⟩:=I.tuple h';rw[e] at e';cases e';rw[d] at d';injection d' with d1 _
 have:d_=p_:=by simpa using congrArg Array.toList d1
 subst this;exact r.inj b
end
abbrev Cx.wish(X:Cx)(E:Zd):Cx:={ X with xe:=E }
abbrev Cx.nox(X:Cx):Cx:=X.wish λ_ _=>False
theorem Cx.Ok.wish{X:Cx}(ok:X.Ok)(E:Zd):(X.wish E).Ok:=
 ⟨ok.mod,ok.kind,ok.glob,ok.blt,ok.above,ok.inj,ok.has,ok.cab,ok.hd,ok.frames,ok.stk,ok.exf,ok.bs,ok.bsz,ok.noex,ok.exfs,ok.funs,ok.frf⟩
theorem Cx.Ok.unwish{X:Cx}{E:Zd}(ok:(X.wish E).Ok):X.Ok:=
 ⟨ok.mod,ok.kind,ok.glob,ok.blt,ok.above,ok.inj,ok.has,ok.cab,ok.hd,ok.frames,ok.stk,ok.exf,ok.bs,ok.bsz,ok.noex,ok.exfs,ok.funs,ok.frf⟩
section
variable {X:Cx}{a_:Zg}{σ:St}{H:Hp}{s:Shared}{E:Zd}
theorem Inv.wish(I:Inv X a_ σ H s)(E:Zd):Inv (X.wish E) a_ σ H s:=⟨I.ok.wish E,I.os,I.bare,I.base,I.loc,I.cell,I.free,I.freeC,I.pin,I.hok,I.len⟩
theorem Inv.unwish(I:Inv (X.wish E) a_ σ H s):Inv X a_ σ H s:=⟨I.ok.unwish,I.os,I.bare,I.base,I.loc,I.cell,I.free,I.freeC,I.pin,I.hok,I.len⟩
theorem SP.unwish{D:Ends}{f:Flow}{b:Shared}(h:SP (X.wish E) a_ D f b):SP X a_ D f b:=by
 cases f with
 |next=>obtain⟨a,H',I,q⟩:=h;exact⟨a,H',I.unwish,q⟩
 |brk=>obtain⟨a,H',I,q⟩:=h;exact⟨a,H',I.unwish,q⟩
 |cont=>obtain⟨a,H',I,q⟩:=h;exact⟨a,H',I.unwish,q⟩
 |ret u=>obtain⟨v,a,H',I,r,q⟩:=h;exact⟨v,a,H',I.unwish,r,q⟩
theorem PSs.nox{st:Zz}{t:TS}(h:PSs X.nox st t):PSs X st t:=λa_ s σ H D I hw=>
 wpAny_mono (h a_ s σ H D (I.wish _) hw) (λ_ _ q=>q.unwish) λ_ _ z=>Yh z
end
section
variable {X:Cx}{st:Stmt}{rest:Zz}{t u:TS}{e:Expr}{te:TE}{pos:Pos}
def CH:TS:=λD σ H=>D.nx σ H
def tSeq(t u:TS):TS:=λD σ H=>t { D with nx:=u D } σ H
theorem Dd:PSs X [] CH:=λ_ _ σ H _ I h=>wpAny_execs_nil ⟨σ,H,I,h⟩
theorem A6(a:PS X st t)(h2:PSs X rest u):PSs X (st::rest) (tSeq t u):=by
 intro a_ s σ H D I h;refine wpAny_execs_cons (thn (a a_ s σ H { D with nx:=u D } I h) λf s1 q=>?_);cases f with
 |next=>
  obtain⟨b,H',c,q⟩:=q;exact h2 a_ s1 b H' D c q
 |ret v=>exact q
 |brk=>exact q
 |cont=>exact q
theorem De:PS X (.Pass pos) CH:=λ_ _ σ H _ I h=>wpAny_Pass ⟨σ,H,I,h⟩
theorem Inv.quiet{a_:Zg}{σ:St}{H:Hp}{s:Shared}(I:Inv X a_ σ H s):interactive X.env=false:=by simp[interactive,I.ok.kind]
def GK(te:TE):TS:=λD σ H=>te σ H λ_ a=>D.nx σ a
theorem Df(a:PE X e te)(b:swapsWith e none pos.line X.env=pure false:=by rfl):PS X (.Expr e pos) (GK te):=by
 intro a_ s σ H D I h;refine wpAny_Expr_any (thn (a a_ s σ H _ I h) λv s1 c=>?_) I.quiet b;obtain⟨x,d,f,j,g⟩:=c;exact⟨σ,d,f,g⟩
def tRet(te:TE):TS:=λD σ H=>te σ H D.rt
theorem E7(a:PE X e te):PS X (.Return (some e) pos) (tRet te):=by
 intro a_ s σ H D I h;refine wpAny_Return_some (thn (a a_ s σ H _ I h) λv s1 b=>?_);obtain⟨x,c,d,f,g⟩:=b;exact⟨x,σ,c,d,f,g⟩
def tIfS(c:TT)(t u:TS):TS:=λD σ H=>c σ H λb a=>if b=true then t D σ a else u D σ a
theorem GL{c:Expr}{a b:Zz}{tc:TT}(hc:PT X c tc)(ha:PSs X a t)(hb:PSs X b u):PS X (.If c a b pos) (tIfS tc t u):=by
 intro a_ s σ H D I h;refine wpAny_If (thn (hc a_ s σ H _ I h) λd s1 k=>?_);obtain⟨f,g,j⟩:=k;cases d with
 |true=>exact ha a_ s1 σ f D g j
 |false=>exact hb a_ s1 σ f D g j
end
abbrev TG:=V->St->Hp->(St->Hp->Prop)->Prop
abbrev TGs:=List V->St->Hp->(St->Hp->Prop)->Prop
def PG(X:Cx)(a:Expr)(t:TG):Prop:=
 ∀(a_:Zg) (s:Shared) (σ:St) (H:Hp) (v:V) (u:Value) (Q:St->Hp->Prop),Inv X a_ σ H s->RelV v u->t v σ H Q ->
  wpAny (model X.prog X.w) X.A (assign a X.env u) (λ_ c=>∃b H',Inv X a_ b H' c/\Q b H') X.xe s
def PGs(X:Cx)(ts:Zl)(t:TGs):Prop:=
 ∀(a_:Zg) (s:Shared) (σ:St) (H:Hp) (vs:List V) (us:Zh) (Q:St->Hp->Prop),Inv X a_ σ H s->Vals vs us->t vs σ H Q ->
  wpAny (model X.prog X.w) X.A (assignInOrder ((assignEach ts X.env).map (·.2)) us) (λ_ b=>∃a H',Inv X a_ a H' b/\Q a H') X.xe s
abbrev TSet:=V->V->V->Hp->(Hp->Prop)->Prop
def PSet(X:Cx)(t:TSet):Prop:=
 ∀(a_:Zg) (s:Shared) (σ:St) (H:Hp) (o i v:V) (a b u:Value) (Q:Hp->Prop),Inv X a_ σ H s->RelV o a->RelV i b->RelV v u->t o i v H Q ->
  wpAny (model X.prog X.w) X.A (setItem a b u) (λ_ c=>∃H',Inv X a_ σ H' c/\Q H') X.xe s
section
variable {X:Cx}{pos:Pos}
def tY(i:Nat):TG:=λv σ H Q=>Q (σ.set i (some v)) H
theorem wU{i:Nat}{x:Str}(a:X.N.Nodup)(hi:X.N[i]?=some x)(hx:Loc X.env.scope x)(hf:X.fn x=true\/X.env.scope.names.lookup x=some .local:=by first | exact .inl rfl | exact .inr rfl | assumption):PG X (.Name x pos) (tY i):=by
 intro a_ s σ H v u Q I r h;exact wpAny_assign_Name (ug I a hi hx r (λc b=>⟨_,H,b,h⟩) hf)
def gNil:TGs:=λvs σ H Q=>vs=[]/\Q σ H
def CI(t:TG)(u:TGs):TGs:=λvs σ H Q=>∃v r,vs=v::r/\t v σ H λa H'=>u r a H' Q
theorem Dg:PGs X [] gNil:=by
 intro a_ s σ H vs us Q I r h;obtain⟨e,h⟩:=h;subst e;cases r;exact assignInOrder_nil ⟨σ,H,I,h⟩
theorem A8{e:Expr}{es:Zl}{t:TG}{u:TGs}(a:PG X e t)(h2:PGs X es u)
  (b:(assignEach (e::es) X.env).map (·.2)=assign e X.env::(assignEach es X.env).map (·.2):=by rfl):PGs X (e::es) (CI t u):=by
 intro a_ s σ H vs us Q I r h;obtain⟨v,l,e1,h⟩:=h;subst e1;cases r with
 |cons r c=>
  rw[b];refine assignInOrder_cons (thn (a a_ s σ H _ _ _ I r h) λ_ s1 d=>?_);obtain⟨f,g,j,k⟩:=d;exact h2 a_ s1 f g _ _ Q j c k
def gTup(K:Za)(n:Nat)(t:TGs):TG:=λv σ H Q=>∃a xs,v=.ref a/\SqT K H a xs/\xs.length=n/\t xs σ H Q
theorem E8{es:Zl}{k:Nat}{t:TGs}{n:Nat}(hc:X.calm=true)(h:PGs X es t)
  (hn:(assignEach es X.env).length=n:=by rfl) (d:(assignEach es X.env).findIdx? (·.1)=none:=by rfl):PG X (.Tuple es k pos) (gTup X.K n t):=by
 intro a_ s σ H v u Q I r hw;obtain⟨a,xs,e1,hq,hl,hw⟩:=hw;subst e1;cases r;obtain⟨d_,c,ht,hz⟩:=I.tuple hq;refine assign_Tuple_tuple (I.ok.hd hc) ht (by simp[hn,←hl,c.length]) d λh' hx=>?_
 have f:Inv X a_ σ H { s with heap:=h' }:=I.kept (t':=s.toks) λb o e=>hx b o (ZX (Ye e)) e
 exact h a_ _ σ H xs _ Q f (by simpa using c) hw
def gSub(a b:TE)(t:TSet):TG:=λv σ H Q=>a σ H λo c=>b σ c λi d=>t o i v d λf=>Q σ f
theorem E9 {o i:Expr} {c d:TE} {t:TSet} (f:PE X o c) (hi:PE X i d) (g:PSet X t)
    (ha:∀ v,assign (.Subscript o i pos) X.env v = (do
      let a ← holding [v] (eval o X.env)
      let b ← holding [v,a] (eval i X.env)
      standAt pos
      holding [v,a,b] (setItem a b v)
      release [v,a,b] []):=by intro _; rfl):PG X (.Subscript o i pos) (gSub c d t):=by
  intro a_ s σ H v u Q I r h
  rw [ha]
  refine Yb (Yj (thn (f a_ s σ H _ I h) λa s1 j=>?_))
  obtain ⟨x,k,l,m,n⟩:=j
  refine Yb (Yj (thn (hi a_ s1 σ k _ l n) λb s2 p=>?_))
  obtain ⟨y,w,z,A,B⟩:=p
  refine Yb (Yk (Yb (Yj (thn (g a_ s2 σ w x y v a b u _ z m A r B) λ_ J C=>?_))))
  obtain ⟨E,F,G⟩:=C
  exact wpAny_release ⟨σ,E,F,G⟩
def tAsg(te:TE)(g:TG):TS:=λD σ H=>te σ H λx a=>g x σ a D.nx
theorem zj{tg e:Expr}{te:TE}{g:TG}(a:PE X e te)(hg:PG X tg g)(b:swapsWithSole [tg] e pos.line X.env=pure false:=by rfl)(hw:swappedStores [tg] e X.env=pure none:=by rfl)
  (c:(assignEach [tg] X.env).map (·.2)=[assign tg X.env]:=by rfl):PS X (.Assign [tg] e pos) (tAsg te g):=by
 intro a_ s σ H D I h;refine wpAny_Assign_stores (thn (a a_ s σ H _ I h) λv s1 d=>?_) b hw;obtain⟨x,f,j,k,l⟩:=d;rw[c];exact thn (hg a_ s1 σ f x v _ j k l) λ_ s2 q=>q
theorem Fa{i:Nat}{x:Str}{e:Expr}{te:TE}{a:Pos}(b:X.N.Nodup)(hi:X.N[i]?=some x)(hx:Loc X.env.scope x)(c:PE X e te)(d:swapsWith e (some (.Name x a)) pos.line X.env=pure false:=by rfl)(hf:X.fn x=true\/X.env.scope.names.lookup x=some .local:=by first | exact .inl rfl | exact .inr rfl | assumption):
  PS X (.Assign [.Name x a] e pos) (tAsg te (tY i)):=by
 intro a_ s σ H D I h;refine wpAny_Assign_Name (thn (c a_ s σ H _ I h) λv s1 f=>?_) d;obtain⟨y,g,j,k,l⟩:=f;exact ug j b hi hx k (λs2 m=>⟨_,g,m,l⟩) hf
end
section
variable {X:Cx}{pos:Pos}
def Fb(c:TT)(g:TS):TS:=λD σ H=>∃W:Nat->St->Hp->Prop,(∃m,W m σ H)/\∀m σ H,W m σ H ->
 c σ H λb a=>if b=true then ∃N:St->Hp->Prop,(∀d H',N d H'->∃f,f<m/\W f d H')/\g { D with nx:=N,ct:=N,bk:=D.nx } σ a else D.nx σ a
theorem A9{c:Expr}{a:Zz}{tc:TT}{u:TS}(hp:PassesOwn (model X.prog X.w) X.A X.env X.xe)(hc:PT X c tc)(hb:PSs X a u):PS X (.While c a [] pos) (Fb tc u):=by
 intro a_ s σ H D I h;obtain⟨W,⟨F,G⟩,d⟩:=h;refine wpAny_While (codeAny_whileLoop (λn J=>∃y H',Inv X a_ y H' J/\W n y H') ?_ F ⟨σ,H,I,G⟩);rintro n s1 ⟨k,z,K,L⟩;refine wpAny_passesOwn hp (thn (hc a_ s1 k z _ K (d n k z L)) λb s2 O=>?_);obtain⟨B,C,l⟩:=O;cases b with
 |true=>
  obtain⟨N,E,l⟩:=l;rw[if_pos rfl];refine wpAny_passesOwn hp (thn (hb a_ s2 k B _ C l) λf P m=>?_);cases f with
  |next=>
   obtain⟨g,j,o,p⟩:=m;obtain⟨r,hm,t⟩:=E g j p;exact⟨r,hm,g,j,o,t⟩
  |cont=>
   obtain⟨g,j,o,p⟩:=m;obtain⟨r,hm,t⟩:=E g j p;exact⟨r,hm,g,j,o,t⟩
  |brk=>exact m
  |ret v=>exact m
 |false=>
  rw[if_neg YI];exact wpAny_execs_nil ⟨k,B,C,l⟩
end
structure It where
 go:Nat->Hp->Prop
 yld:Nat->Hp->V->Hp->Prop
 stop:Nat->Hp->Prop
def FpOk(X:Cx)(a_:Zg)(H:Hp)(b:Addr):Prop:=
 H b=none/\b≠X.env.locals/\b∉X.fs/\(b∈X.ex\/X.s₀.heap.objs.size<=b)/\(∀x c,X.env.cells.lookup x=some c->c≠b)/\∀p∈X.pn++a_,p.1≠b
theorem Inv.fpOk{X:Cx}{a_:Zg}{σ:St}{H H':Hp}{s:Shared}{b:Addr}(I:Inv X a_ σ H s)(hb:s.heap.objs.size<=b)(hn:H' b=none):FpOk X a_ H' b:=by
 refine⟨hn,Nat.ne_of_gt (ZV I.lt hb),I.nofs hb,.inr (YA I.sz hb),λx c e z=>?_,λp hp z=>?_⟩
 ·obtain⟨v,q⟩:=I.cell x c e
  exact absurd (ZV q.lt (by rw[z];exact hb)) (ZW _)
 ·exact absurd (ZV (Ye (I.pin p hp).1) (by rw[z];exact hb)) (ZW _)
structure Turn (P:ZS) (w:World) (K:Za) (tg:Expr) (J:It) (fp:Zm) (it:Addr) (tn:Nat->Heap->Prop):Prop where
 mem:it∈fp
 obj:∀i h,tn i h->∀b∈fp,∃o,h.get? b=some o/\∀v,o.data≠.cell v
 keep:∀i h h',tn i h->(∀b∈fp,∀o,h.get? b=some o->h'.get? b=some o)->tn i h'
 item:∀(X:Cx),X.prog=P->X.w=w->X.K=K->X.calm=true->∀(i:Nat) (a_:Zg) (s:Shared) (σ:St) (H:Hp) (E:Zd),Inv X a_ σ H s->(∀b∈fp,FpOk X a_ H b)->tn i s.heap->J.go i H ->
  wpAny (model P w) X.A (pyNext (.ref it)) (λr s1=>∃u,r=some u /\
   wpAny (model P w) X.A (letOwnedTupleGo tg (.ref it) u) (λ_ s2=>∃x H',Inv X a_ σ H' s2/\RelV x u/\J.yld i H x H'/\tn (i+1) s2.heap/\∀b∈fp,H' b=none) E s1) E s
 done:∀(X:Cx),X.prog=P->X.w=w->X.K=K->X.calm=true->∀(i:Nat) (a_:Zg) (s:Shared) (σ:St) (H:Hp) (E:Zd),Inv X a_ σ H s->(∀b∈fp,FpOk X a_ H b)->tn i s.heap->J.stop i H ->
  wpAny (model P w) X.A (pyNext (.ref it)) (λr s1=>r=none/\Inv X a_ σ H s1) E s
 self:∀(A:Around) (i:Nat) (s:Shared) (Q:Zd) (E:Zd),tn i s.heap->Q (.ref it) s->wpAny (model P w) A (pyIter (.ref it)) Q E s
abbrev TI:=St->Hp->(It->Hp->Prop)->Prop
def PIE(X:Cx)(a_:Zg)(σ:St)(tg:Expr)(R:It->Hp->Prop)(a:Value)(s2:Shared):Prop:=
 ∃(it:Addr) (fp:Zm) (tn:Nat->Heap->Prop) (J:It) (H':Hp),a=.ref it/\Inv X a_ σ H' s2/\Turn X.prog X.w X.K tg J fp it tn/\tn 0 s2.heap/\(∀b∈fp,FpOk X a_ H' b)/\R J H'
def PI(X:Cx)(tg a:Expr)(b:TI):Prop:=
 ∀(a_:Zg) (s:Shared) (σ:St) (H:Hp) (R:It->Hp->Prop),Inv X a_ σ H s->b σ H R ->
  wpAny (model X.prog X.w) X.A (eval a X.env) (λv s1=>wpAny (model X.prog X.w) X.A (pyIter v) (PIE X a_ σ tg R) X.xe s1) X.xe s
theorem nR {M:Model} {A:Around} {E:Zd} {s:Shared} {tg:Expr} {it:Addr} {u:Value} {o:Obj} {n:String} {vs:Zq} {Q:Zt} (b:s.heap.get? it = some o) (hc:o.cls = .type n) (hd:o.data = .fields vs)
    (hn:["enumerate","zip","dict_itemiterator","dict_reverseitemiterator","odict_iterator","itertools.zip_longest","itertools.pairwise"].contains n = false) (a:Q () s):wpAny M A (letOwnedTupleGo tg (.ref it) u) Q E s:=by
  unfold letOwnedTupleGo
  cases tg <;> first
    | exact Yc a
    | (cases u <;> first
        | exact Yc a
        | (refine Yb (wpAny_load b ?_)
           rw [hc,hd]
           show wpAny M A (if (["enumerate","zip","dict_itemiterator","dict_reverseitemiterator","odict_iterator","itertools.zip_longest","itertools.pairwise"].contains n && vs[0]? == some (rawInt _)) = true then _ else _) Q E s
           rw [if_neg (by intro h; rw [hn,Bool.false_and] at h; cases h)]
           exact Yc a))
def Itl(K:Za)(a:Addr):It:=
 ⟨λi H=>∃xs x,SqL K H a xs/\xs[i]?=some x,λi H x H'=>H'=H/\∀xs,SqL K H a xs->xs[i]?=some x,λi H=>∃xs,SqL K H a xs/\xs.length<=i⟩
def Itt(K:Za)(a:Addr):It:=
 ⟨λi H=>∃xs x,SqT K H a xs/\xs[i]?=some x,λi H x H'=>H'=H/\∀xs,SqT K H a xs->xs[i]?=some x,λi H=>∃xs,SqT K H a xs/\xs.length<=i⟩
def Itr(lo:Int)(n:Nat):It:=⟨λi _=>i<n,λi H x H'=>H'=H/\x=.int (lo+i),λi _=>n<=i⟩
theorem zk{P:ZS}{w:World}{K:Za}{tg:Expr}(a it:Addr):Turn P w K tg (Itl K a) [it] it (λi h=>h.IsListIter it a i) where
 mem:=by simp
 obj:=λi h st b hb=>by
  have e:b=it:=by simpa using hb
  subst e;obtain⟨o,e,c,d⟩:=st;exact⟨o,e,λv z=>by rw[d] at z;cases z⟩
 keep:=λi h h' st k=>st.at λo e=>k it (by simp) o e
 item:=by
  intro X f hw g hc i a_ s σ H E I hf st hg;subst f hw g;obtain⟨xs,x,hq,hx⟩:=hg;obtain⟨d_,j,p,hz⟩:=I.list hq;obtain⟨u,hu,y⟩:=j.get hx;obtain⟨l,m,A,n,r,t⟩:=hf it (by simp);refine wpAny_pyNext_list_item st p.isList (x:=u) (by simpa using hu) λh' f_ B=>?_
  have C:Inv X a_ σ H { s with heap:=h' }:=I.turned (t':=s.toks) (λb o hb e=>(B.2 b hb).trans e) l m n r t;obtain⟨o,e,c,d⟩:=id f_;exact⟨u,rfl,nR (s:={ s with heap:=h' }) e c d (by decide) ⟨x,H,C,y,⟨rfl,λG hy=>by rw[I.list_inj hy hq];exact hx⟩,f_,λb hb=>(hf b hb).1⟩⟩
 done:=by
  intro X f hw g hc i a_ s σ H E I hf st hg;subst f hw g;obtain⟨xs,hq,hx⟩:=hg;obtain⟨d_,j,p,hz⟩:=I.list hq;obtain⟨l,m,A,n,r,t⟩:=hf it (by simp);have hl:=j.length;exact wpAny_pyNext_list_end (I.ok.hd hc) st p.isList (by simp;omega) λh' F=>⟨rfl,I.turned (t':=s.toks) (λb o hb e=>F b o hb e) l m n r t⟩
 self:=λ_ _ _ _ _ st h=>wpAny_pyIter_listiter st h
theorem xS{P:ZS}{w:World}{K:Za}{tg:Expr}(a it:Addr):Turn P w K tg (Itt K a) [it] it (λi h=>h.IsTupleIter it a i) where
 mem:=by simp
 obj:=λi h st b hb=>by
  have e:b=it:=by simpa using hb
  subst e;obtain⟨o,e,c,d⟩:=st;exact⟨o,e,λv z=>by rw[d] at z;cases z⟩
 keep:=λi h h' st k=>st.at λo e=>k it (by simp) o e
 item:=by
  intro X f hw g hc i a_ s σ H E I hf st hg;subst f hw g;obtain⟨xs,x,hq,hx⟩:=hg;obtain⟨d_,j,p,hz⟩:=I.tuple hq;obtain⟨u,hu,y⟩:=j.get hx;obtain⟨l,m,A,n,r,t⟩:=hf it (by simp);refine wpAny_pyNext_tuple_item st (show s.heap.IsTuple a d_.toArray from p) (x:=u) (by simpa using hu) λh' f_ B=>?_
  have C:Inv X a_ σ H { s with heap:=h' }:=I.turned (t':=s.toks) (λb o hb e=>(B.2 b hb).trans e) l m n r t;obtain⟨o,e,c,d⟩:=id f_;exact⟨u,rfl,nR (s:={ s with heap:=h' }) e c d (by decide) ⟨x,H,C,y,⟨rfl,λG hy=>by rw[I.tuple_inj hy hq];exact hx⟩,f_,λb hb=>(hf b hb).1⟩⟩
 done:=by
  intro X f hw g hc i a_ s σ H E I hf st hg;subst f hw g;obtain⟨xs,hq,hx⟩:=hg;obtain⟨d_,j,p,hz⟩:=I.tuple hq;obtain⟨l,m,A,n,r,t⟩:=hf it (by simp);have hl:=j.length;exact wpAny_pyNext_tuple_end (I.ok.hd hc) st (show s.heap.IsTuple a d_.toArray from p) (by simp;omega) λh' F=>⟨rfl,I.turned (t':=s.toks) (λb o hb e=>F b o hb e) l m n r t⟩
 self:=λ_ _ _ _ _ st h=>wpAny_pyIter_tupleiter st h
theorem xT{P:ZS}{w:World}{K:Za}{tg:Expr}(it:Addr)(lo:Int)(n:Nat):Turn P w K tg (Itr lo n) [it] it (λi h=>IsRangeIter h it (lo+(i:Nat)*1) ((n:Int)-(i:Nat)) 1) where
 mem:=by simp
 obj:=λi h st b hb=>by
  have e:b=it:=by simpa using hb
  subst e;exact⟨_,st,λv z=>by
   have m:Data.fields _=Data.cell v:=z;cases m⟩
 keep:=λi h h' st k=>k it (by simp) _ st
 item:=by
  intro X a hw c hc i a_ s σ H E I hf st hg;subst a hw c;obtain⟨d,f,p,g,j,l⟩:=hf it (by simp);have W:=Walks.range (prog:=X.prog) (w:=X.w) (I.ok.hd hc) it lo 1 n;refine W.item i s _ _ hg st λv h' tk r f_ kk=>?_
  obtain⟨t,rfl⟩:=r;have u:Inv X a_ σ H { s with heap:=h',toks:=tk }:=I.turned (λb o hb e=>kk b o (by simpa using hb) e) d f g j l;refine⟨_,rfl,nR (s:={ s with heap:=h',toks:=tk }) (n:="range_iterator") f_ rfl rfl (by decide) ⟨.int (lo+i),H,u,⟨t,?_⟩,⟨rfl,rfl⟩,f_,λb hb=>(hf b hb).1⟩⟩;rw[Int.mul_one]
 done:=by
  intro X a hw c hc i a_ s σ H E I hf st hg;subst a hw c;obtain⟨d,f,p,g,j,l⟩:=hf it (by simp);exact wpAny_pyNext_range_end (I.ok.hd hc) st (by have:n<=i:=hg;omega) λh' y=>⟨rfl,I.turned (t':=s.toks) (λb o hb e=>y b o hb e) d f g j l⟩
 self:=λ_ _ _ _ _ st h=>wpAny_pyIter_rangeiter st h
section
variable {X:Cx}{tg:Expr}
theorem uh{a_:Zg}{σ:St}{H:Hp}{s:Shared}{R:It->Hp->Prop}{E:Zd}{lo hi:Int}{t u v:Tok}{tk:Nat}(I:Inv X a_ σ H s)(c:-(2 ^ 62)<=lo)(h2:lo<2 ^ 62)(d:-(2 ^ 62)<=hi)(f:hi<2 ^ 62)
  (q:R (Itr lo (hi-lo).toNat) H):wpAny (model X.prog X.w) X.A (pyIter (.ref s.heap.objs.size)) (PIE X a_ σ tg R) E { s with heap:=s.heap.push { cls:=.type "range",data:=.fields #[.int lo t,.int hi u,.int 1 v] },toks:=tk }:=by
 refine wpAny_pyIter_range (IsRange.new ..) (small_one c h2 d f) ?_;have a:Inv X a_ σ H { s with heap:=s.heap.push { cls:=.type "range",data:=.fields #[.int lo t,.int hi u,.int 1 v] },toks:=tk }:=I.kept λb o e=>Yd _ e
 refine⟨(s.heap.push { cls:=.type "range",data:=.fields #[.int lo t,.int hi u,.int 1 v] }).objs.size,[(s.heap.push { cls:=.type "range",data:=.fields #[.int lo t,.int hi u,.int 1 v] }).objs.size],_,_,H,rfl,
  a.kept (t':=tk) λb o e=>Yd _ e,xT _ lo (hi-lo).toNat,?_,λb hb=>?_,q⟩
 ·have e1:lo+((0:Nat):Int)*1=lo:=by simp
  have e2:(((hi-lo).toNat:Nat):Int)-((0:Nat):Int)=Builtin.Range.rangeSize lo hi 1:=by rw[rangeSize_one];split<;>omega
  show IsRangeIter _ _ (lo+((0:Nat):Int)*1) ((((hi-lo).toNat:Nat):Int)-((0:Nat):Int)) 1;rw[e1,e2];exact Yg _ rfl
 ·have e:b=(s.heap.push { cls:=.type "range",data:=.fields #[.int lo t,.int hi u,.int 1 v] }).objs.size:=by simpa using hb
  subst e;exact a.fpOk (YJ _) (a.hok.fresh (YJ _))
def GM(a:TA):TI:=λσ H R=>a σ H λvs b=>∃j:Int,vs=[.int j]/\-(2 ^ 62)<=j/\j<2 ^ 62/\R (Itr 0 j.toNat) b
def GN(a:TA):TI:=λσ H R=>a σ H λvs b=>∃i j:Int,vs=[.int i,.int j]/\(-(2 ^ 62)<=i/\i<2 ^ 62/\-(2 ^ 62)<=j/\j<2 ^ 62)/\R (Itr i (j-i).toNat) b
theorem zl{a:Expr}{c:TA}{p pos:Pos}(hg:Gl X "range")(hm:X.mg "range" = none)(ha:PA X [a] c)(d:starEach [a] X.env=[(false,eval a X.env)]:=by rfl):PI X tg (.Call (.Name "range" p) [a] [] pos) (GM c):=by
 intro a_ s σ H R I h;refine Call_ (cK I hg hm boot_range (PyProof.Rows.callWith_type1 (thn (ha pos a_ s σ H _ I h) λus s1 f=>?_) d rfl));obtain⟨vs,n,g,k,b⟩:=f;obtain⟨j,e,b,l,q⟩:=b;subst e;cases k with
 |cons r m=>
  cases m;obtain⟨t,rfl⟩:=r;exact call_range_1 (uh g (by omega) (by omega) b l (by simpa using q))
theorem zm{a b:Expr}{f:TA}{p pos:Pos}(hg:Gl X "range")(hm:X.mg "range" = none)(ha:PA X [a,b] f)(k:starEach [a,b] X.env=[(false,eval a X.env),(false,eval b X.env)]:=by rfl)(g:starEach [b] X.env=[(false,eval b X.env)]:=by rfl):
  PI X tg (.Call (.Name "range" p) [a,b] [] pos) (GN f):=by
 intro a_ s σ H R I h;refine Call_ (cK I hg hm boot_range (PyProof.Rows.callWith_type1 (thn (ha pos a_ s σ H _ I h) λus s1 l=>?_) (by rw[k,g]) (by rw[g];rfl)));obtain⟨vs,z,m,n,c⟩:=l;obtain⟨i,j,e,⟨c,o,u,w⟩,q⟩:=c;subst e;cases n with
 |cons r d=>
  cases d with
  |cons y d=>
   cases d;obtain⟨t,rfl⟩:=r;obtain⟨t',rfl⟩:=y;exact call_range_2 (uh m c o u w q)
def tFor(c:TI)(g:TG)(d:TS):TS:=λD σ H=>c σ H λJ f=>∃W:Nat->Nat->St->Hp->Prop,(∃m,W 0 m σ f)/\∀i m σ H,W i m σ H ->
 (J.stop i H/\D.nx σ H)\/(J.go i H/\∃N:St->Hp->Prop,(∀a H',N a H'->∃b,b<m/\W (i+1) b a H')/\∀x H',J.yld i H x H'->g x σ H' λj k=>d { D with nx:=N,ct:=N,bk:=D.nx } j k)
def hU(fp:Zm)(h:Heap):List (Addr×Obj):=fp.filterMap λb=>(h.get? b).map λo=>(b,o)
theorem ja{fp:Zm}{h:Heap}{b:Addr}{o:Obj}(hb:b∈fp)(e:h.get? b=some o):(b,o)∈hU fp h:=List.mem_filterMap.mpr ⟨b,hb,by rw[e];rfl⟩
theorem sw{fp:Zm}{h:Heap}{p:Addr×Obj}(hp:p∈hU fp h):p.1∈fp/\h.get? p.1=some p.2:=by
 obtain⟨b,hb,e⟩:=List.mem_filterMap.mp hp;cases q:h.get? b with
 |none=>rw[q] at e;cases e
 |some o=>
  rw[q] at e;have e':(b,o)=p:=Yi e;subst e';exact⟨hb,q⟩
theorem Inv.pinned{a_:Zg}{σ:St}{H:Hp}{s:Shared}{fp:Zm}(I:Inv X a_ σ H s)(hf:∀b∈fp,FpOk X a_ H b)(a:∀b∈fp,∃o,s.heap.get? b=some o/\∀v,o.data≠.cell v):Inv X (a_++hU fp s.heap) σ H s:=
 I.pins_of λp hp=>(YF.mp hp).elim (λz=>I.pin p (YK _ z)) λz=>by
  obtain⟨hb,e⟩:=sw z;obtain⟨c,f,g,_⟩:=hf p.1 hb;obtain⟨o,e',d⟩:=a p.1 hb;rw[e] at e';cases e';exact⟨e,c,f,g,d⟩
theorem Inv.unpinned{a_ pl:Zg}{σ:St}{H:Hp}{s:Shared}(I:Inv X (a_++pl) σ H s):Inv X a_ σ H s:=I.pins_of λp hp=>I.pin p (YK _ (List.mem_append_left _ hp))
theorem Fc{a:Expr}{k:Zz}{K:TI}{g:TG}{L:TS}{pos:Pos}(hp:PassesOwn (model X.prog X.w) X.A X.env X.xe)(hc:X.calm=true)(hi:PI X tg a K)(hg:PG X tg g)(hb:PSs X k L)
  (Z:∀x,foldedSetIterable a X.env x=pure x:=by intro _;rfl):PS X (.For tg a k [] pos) (tFor K g L):=by
 intro a_ s σ H D I h;refine wpAny_For (thn (hi a_ s σ H _ I h) λv s1 h1=>thn h1 λND s2 h2=>?_) Z;obtain⟨it,fp,tn,J,H2,e,I2,T,HN,O,W,⟨m0,w0⟩,p⟩:=h2;subst e
 -- what stays true of the iterator's objects through the loop
 have C:∀{H':Hp},(∀b∈fp,H' b=none)->∀b∈fp,FpOk X a_ H' b:=λhn b hb=>⟨hn b hb,(O b hb).2⟩
 refine codeAny_forLoop_any (λn P=>∃i t H',Inv X a_ t H' P/\tn i P.heap/\(∀b∈fp,H' b=none)/\W i n t H') ?_ m0 ⟨0,σ,H2,I2,HN,λb hb=>(O b hb).1,w0⟩;rintro n R ⟨i,y,B,S,U,V,w3⟩;rcases p i n y B w3 with⟨stop,qn⟩ | ⟨go,N,hN,step⟩
 ·refine wpAny_passesOwn hp (thn (T.done X rfl rfl rfl hc i a_ R y B X.xe S (C V) U stop) λr s4 NH=>?_)
  obtain⟨E,I4⟩:=NH;subst E;exact wpAny_execs_nil ⟨y,B,I4,qn⟩
 ·refine wpAny_passesOwn hp (thn (T.item X rfl rfl rfl hc i a_ R y B X.xe S (C V) U go) λr s4 NI=>?_)
  obtain⟨u,E,h4⟩:=NI;subst E;refine wpAny_passesOwn hp (thn h4 λ_ Y NJ=>?_);obtain⟨x,H5,I5,r5,y5,F,NK⟩:=NJ;have NL:=I5.pinned (C NK) (T.obj _ _ F);refine wpAny_passesOwn hp (thn (hg _ Y y H5 x u _ NL r5 (step x H5 y5)) λ_ s6 NM=>?_);obtain⟨Jf,H6,I6,q6⟩:=NM;refine wpAny_passesOwn hp (thn (hb _ s6 Jf H6 _ I6 q6) λf G l=>?_);have again:∀{c:St}{H7:Hp},Inv X (a_++hU fp Y.heap) c H7 G->N c H7->∃m,m<n/\∃i t H',Inv X a_ t H' G/\tn i G.heap/\(∀b∈fp,H' b=none)/\W i m t H':=λ{c H7} j z=>by
   obtain⟨m',hm,w7⟩:=hN c H7 z;refine⟨m',hm,i+1,c,H7,j.unpinned,T.keep _ _ _ F λb hb o e=>(j.pin (b,o) (YK _ (YK _ (ja hb e)))).1,λb hb=>?_,w7⟩;obtain⟨o,e,d⟩:=T.obj _ _ F b hb;exact(j.pin (b,o) (YK _ (YK _ (ja hb e)))).2.1
  cases f with
  |next=>obtain⟨c,H7,j,z⟩:=l;exact again j z
  |cont=>obtain⟨c,H7,j,z⟩:=l;exact again j z
  |brk=>obtain⟨c,H7,j,l⟩:=l;exact⟨c,H7,j.unpinned,l⟩
  |ret v=>obtain⟨x7,c,H7,j,r7,l⟩:=l;exact⟨x7,c,H7,j.unpinned,r7,l⟩
end
abbrev R2:=V->V->Hp->VK->Prop
def OpR(X:Cx)(f:Zp)(r:R2):Prop:=
 ∀(a_:Zg) (s:Shared) (σ:St) (H:Hp) (x y:V) (v u:Value) (Q:VK),Inv X a_ σ H s->RelV x v->RelV y u->r x y H Q ->
  wpAny (model X.prog X.w) X.A (f v u) (EP X a_ σ Q) X.xe s
def UnR(X:Cx)(f:Value->Sem Value)(r:V->Hp->VK->Prop):Prop:=
 ∀(a_:Zg) (s:Shared) (σ:St) (H:Hp) (x:V) (v:Value) (Q:VK),Inv X a_ σ H s->RelV x v->r x H Q ->
  wpAny (model X.prog X.w) X.A (f v) (EP X a_ σ Q) X.xe s
def dr(X:Cx)(f:Value)(r:List V->Hp->VK->Prop):Prop:=
 ∀(a_:Zg) (s:Shared) (σ:St) (H:Hp) (xs:List V) (us:Zh) (Q:VK),Inv X a_ σ H s->Vals xs us->r xs H Q ->
  wpAny (model X.prog X.w) X.A (call f us) (EP X a_ σ Q) X.xe s
def TruR(X:Cx)(r:V->Hp->(Bool->Hp->Prop)->Prop):Prop:=
 ∀(a_:Zg) (s:Shared) (σ:St) (H:Hp) (x:V) (v:Value) (Q:Bool->Hp->Prop),Inv X a_ σ H s->RelV x v->r x H Q ->
  wpAny (model X.prog X.w) X.A (truthy v) (TP X a_ σ Q) X.xe s
def tOp(r:R2)(a b:TE):TE:=λσ H Q=>a σ H λx c=>b σ c λy d=>r x y d Q
def tUn(r:V->Hp->VK->Prop)(a:TE):TE:=λσ H Q=>a σ H λx b=>r x b Q
def rI(C:Int->Int->Prop)(g:Int->Int->V):R2:=λx y H Q=>∃i j,x=.int i/\y=.int j/\C i j/\Q (g i j) H
def rI0(g:Int->Int->V):R2:=λx y H Q=>∃i j,x=.int i/\y=.int j/\Q (g i j) H
def rU(g:Int->V):V->Hp->VK->Prop:=λx H Q=>∃i,x=.int i/\Q (g i) H
section
variable {X:Cx}{a b c:Expr}{ta tb tc:TE}{pos:Pos}
theorem binT(ha:PE X a ta)(hb:PE X b tb){a_:Zg}{s:Shared}{σ:St}{H:Hp}{R:V->V->Hp->Prop}(I:Inv X a_ σ H s)
  (h:ta σ H λx g=>tb σ g λy d=>R x y d){Q:Zd}{f:Zp}
  (hf:∀v u s2 x y d,Inv X a_ σ d s2->RelV x v->RelV y u->R x y d->wpAny (model X.prog X.w) X.A (f v u) Q X.xe s2):
  wpAny (model X.prog X.w) X.A (eval a X.env) (λv j=>wpAny (model X.prog X.w) X.A (eval b X.env) (λu k=>wpAny (model X.prog X.w) X.A (f v u) Q X.xe k) X.xe j) X.xe s:=by
 refine thn (ha a_ s σ H _ I h) λv s1 l=>?_
 obtain⟨x,g,m,n,o⟩:=l;refine thn (hb a_ s1 σ g _ m o) λu s2 p=>?_
 obtain⟨y,d,r,t,z⟩:=p;exact hf v u s2 x y d r n t z
theorem GO{op:Operator}{r:R2}(d:OpR X (binaryOp op) r)(ha:PE X a ta)(hb:PE X b tb):PE X (.BinOp a op b pos) (tOp r ta tb):=by
 intro a_ s σ H Q I h;exact wpAny_BinOp (binT ha hb I h λv u s2 x y f g j k q=>d a_ s2 σ f x y v u Q g j k q)
theorem CJ{op:UnaryOp}{r:V->Hp->VK->Prop}(d:UnR X (unaryOp op) r)(ha:PE X a ta):PE X (.UnaryOp op a pos) (tUn r ta):=by
 intro a_ s σ H Q I h;refine UnaryOp_ (thn (ha a_ s σ H _ I h) λv s1 f=>?_);obtain⟨x,g,j,k,l⟩:=f;exact d a_ s1 σ g x v Q j k l
theorem opI{f:Zp}{C:Int->Int->Prop}{g:Int->Int->Int}
  (rule:∀(i j:Int) (t u:Tok) (s:Shared) (Q:Zd) (E:Zd),C i j->Q (.int (g i j) s.toks) { s with toks:=s.toks+1 }->wpAny (model X.prog X.w) X.A (f (.int i t) (.int j u)) Q E s):
  OpR X f (rI C λi j=>.int (g i j)):=by
 intro a_ s σ H x y v u Q I d k h;obtain⟨i,j,rfl,rfl,hc,q⟩:=h;obtain⟨t,rfl⟩:=d;obtain⟨t',rfl⟩:=k;exact rule i j t t' s _ _ hc ⟨.int (g i j),H,I.tok _,⟨_,rfl⟩,q⟩
theorem opI0{f:Zp}{g:Int->Int->Int}
  (rule:∀(i j:Int) (t u:Tok) (s:Shared) (Q:Zd) (E:Zd),Q (.int (g i j) s.toks) { s with toks:=s.toks+1 }->wpAny (model X.prog X.w) X.A (f (.int i t) (.int j u)) Q E s):
  OpR X f (rI0 λi j=>.int (g i j)):=by
 intro a_ s σ H x y v u Q I d k h;obtain⟨i,j,rfl,rfl,q⟩:=h;obtain⟨t,rfl⟩:=d;obtain⟨t',rfl⟩:=k;exact rule i j t t' s _ _ ⟨.int (g i j),H,I.tok _,⟨_,rfl⟩,q⟩
theorem opB0{f:Zp}{g:Int->Int->Bool}
  (rule:∀(i j:Int) (t u:Tok) (s:Shared) (Q:Zd) (E:Zd),Q (.bool (g i j)) s->wpAny (model X.prog X.w) X.A (f (.int i t) (.int j u)) Q E s):
  OpR X f (rI0 λi j=>.bl (g i j)):=by
 intro a_ s σ H x y v u Q I d k h;obtain⟨i,j,rfl,rfl,q⟩:=h;obtain⟨t,rfl⟩:=d;obtain⟨t',rfl⟩:=k;exact rule i j t t' s _ _ ⟨.bl (g i j),H,I,rfl,q⟩
def CDiv(i j:Int):Prop:=0<j/\j<1073741824
def CPow(i j:Int):Prop:=0<=j/\j<=1000000/\i.natAbs<2 ^ 64
def CMul(i j:Int):Prop:=(-(2 ^ 64)<i/\i<2 ^ 64)\/(-(2 ^ 64)<j/\j<2 ^ 64)
theorem CMul.ok{i j:Int}(h:CMul i j):IntMulOk i j:=by
 rcases h with⟨d,h2⟩ | ⟨d,h2⟩
 ·exact .of_left (intBits_le_64 d h2)
 ·exact .of_right (intBits_le_64 d h2)
theorem xU(k:Nat):(0:Int)<=2 ^ k:=by
 rw[two_pow_cast];exact Int.natCast_nonneg _
theorem Fd:OpR X (binaryOp .Add) (rI0 λi j=>.int (i+j)):=opI0 λ_ _ _ _ _ _ _ q=>add_int q
theorem Fe:OpR X (binaryOp .Sub) (rI0 λi j=>.int (i-j)):=opI0 λ_ _ _ _ _ _ _ q=>sub_int q
theorem Ff:OpR X (binaryOp .Mult) (rI CMul λi j=>.int (i*j)):=opI λ_ _ _ _ _ _ _ hc q=>mul_int q hc.ok
theorem Dh:OpR X (binaryOp .FloorDiv) (rI CDiv λi j=>.int (i / j)):=opI λi j _ _ _ _ _ hc q=>by
 have d:(0:Int)<j:=hc.1;have h2:j<1073741824:=hc.2;exact floordiv_int (by omega) (by rw[Int.fdiv_eq_ediv_of_nonneg i (by omega)];exact q) (.inl (PyProof.noPylong_small (by omega)))
theorem Fg:OpR X (binaryOp .Mod) (rI (λ_ j=>0<j) λi j=>.int (i%j)):=opI λi j _ _ _ _ _ hc q=>by
 have d:(0:Int)<j:=hc;exact mod_int' (by omega) (by rw[Int.fmod_eq_emod_of_nonneg i (by omega)];exact q)
theorem Fh:OpR X (binaryOp .Pow) (rI CPow λi j=>.int (i ^ j.toNat)):=opI λ_ _ _ _ _ _ _ hc q=>pow_int_small hc.1 hc.2.1 hc.2.2 q
theorem Fi:OpR X (binaryOp .LShift) (rI CPow λi j=>.int (i*2 ^ j.toNat)):=opI λ_ _ _ _ _ _ _ hc q=>lshift_int_small hc.1 hc.2.1 hc.2.2 q
theorem Fk:OpR X (binaryOp .RShift) (rI (λ_ j=>0<=j) λi j=>.int (i / 2 ^ j.toNat)):=opI λi j _ _ _ _ _ hc q=>
 rshift_int hc (by rw[Int.fdiv_eq_ediv_of_nonneg i (xU _)];exact q)
theorem Fl:OpR X (binaryOp .BitAnd) (rI0 λi j=>.int (Builtin.bitAnd i j)):=opI0 λ_ _ _ _ _ _ _ q=>and_int q
theorem GP:OpR X (binaryOp .BitOr) (rI0 λi j=>.int (Builtin.bitOr i j)):=opI0 λ_ _ _ _ _ _ _ q=>or_int q
theorem Fm:OpR X (binaryOp .BitXor) (rI0 λi j=>.int (Builtin.bitXor i j)):=opI0 λ_ _ _ _ _ _ _ q=>xor_int q
theorem unI{f:Value->Sem Value}{g:Int->Int}
  (rule:∀(i:Int) (t:Tok) (s:Shared) (Q:Zd) (E:Zd),Q (.int (g i) s.toks) { s with toks:=s.toks+1 }->wpAny (model X.prog X.w) X.A (f (.int i t)) Q E s):
  UnR X f (rU λi=>.int (g i)):=by
 intro a_ s σ H x v Q I d h;obtain⟨i,rfl,q⟩:=h;obtain⟨t,rfl⟩:=d;exact rule i t s _ _ ⟨.int (g i),H,I.tok _,⟨_,rfl⟩,q⟩
theorem Fn:UnR X (unaryOp .USub) (rU λi=>.int (-i)):=unI λ_ _ _ _ _ q=>neg_int q
theorem Fo:UnR X (unaryOp .Invert) (rU λi=>.int (Builtin.bitNot i)):=unI λ_ _ _ _ _ q=>invert_int q
end
section
variable {X:Cx}{a b c:Expr}{ta tb tc:TE}{pos:Pos}
theorem zn{a_:Zg}{σ:St}{H:Hp}{s:Shared}{Q:VK}{k k':Bool}(I:Inv X a_ σ H s)(q:Q (.bl k) H)(e:k=k'):EP X a_ σ Q (.bool k') s:=by
 subst e;exact⟨.bl k,H,I,rfl,q⟩
theorem GQ:OpR X (compareOp .Lt) (rI0 λi j=>.bl (decide (i<j))):=opB0 λ_ _ _ _ _ _ _ q=>lt_int q
theorem GR:OpR X (compareOp .LtE) (rI0 λi j=>.bl (decide (i<=j))):=opB0 λ_ _ _ _ _ _ _ q=>le_int q
theorem GS:OpR X (compareOp .Gt) (rI0 λi j=>.bl (decide (j<i))):=opB0 λ_ _ _ _ _ _ _ q=>gt_int q
theorem GT:OpR X (compareOp .GtE) (rI0 λi j=>.bl (decide (j<=i))):=opB0 λ_ _ _ _ _ _ _ q=>ge_int q
theorem Fp:OpR X (compareOp .Is) (λx y H Q=>y=.non/\Q (.bl (decide (x=.non))) H):=by
 intro a_ s σ H x y v u Q I d f h;obtain⟨rfl,q⟩:=h;cases f;refine is_none_gen (zn I q ?_);cases x<;>first
  |(cases d;rfl)
  |(obtain⟨t,rfl⟩:=d;rfl)
theorem Di:OpR X (compareOp .IsNot) (λx y H Q=>y=.non/\Q (.bl (!decide (x=.non))) H):=by
 intro a_ s σ H x y v u Q I d f h;obtain⟨rfl,q⟩:=h;cases f;refine isnot_none_gen (zn I q ?_);cases x<;>first
  |(cases d;rfl)
  |(obtain⟨t,rfl⟩:=d;rfl)
theorem Dj{op:CmpOp}{r:R2}(d:OpR X (compareOp op) r)(ha:PE X a ta)(hb:PE X b tb)(hm:behindInMarks op b=false):PE X (.Compare a [op] [b] pos) (tOp r ta tb):=by
 intro a_ s σ H Q I h;exact wpAny_Compare1 (binT ha hb I h λv u s2 x y f g j k q=>d a_ s2 σ f x y v u Q g j k q) hm
def GU(t:TE):TT:=λσ H Q=>t σ H λx H'=>∃k,x=.bl k/\Q k H'
theorem Dk{op:CmpOp}{r:R2}(d:OpR X (compareOp op) r)(ha:PE X a ta)(hb:PE X b tb)(hm:behindInMarks op b=false):PT X (.Compare a [op] [b] pos) (GU (tOp r ta tb)):=by
 intro a_ s σ H Q I h;refine wpAny_isTrue_Compare1 (thn (ha a_ s σ H _ I h) λv s1 ⟨x,f,g,j,l⟩=>thn (hb a_ s1 σ f _ g l) λu s2 ⟨y,m,n,o,p⟩=>
  thn (d a_ s2 σ m x y v u _ n j o p) λc C ⟨z,t,w,A,k,e,B⟩=>?_) hm
 subst e;cases A;exact wpAny_truthy_bool ⟨t,w,B⟩
def TruV(K:Za)(x:V)(H:Hp)(k:Bool):Prop:=
 match x with
 |.non=>k=false
 |.bl b=>k=b
 |.int i=>k=(i != 0)
 |.str y=>y.length<=sizeLine/\k=((y.length:Int) != 0)
 |.byt y=>y.size<=sizeLine/\k=((y.size:Int) != 0)
 |.ref p=>(∃xs,SqL K H p xs/\k = !xs.isEmpty)\/(∃xs,SqT K H p xs/\k = !xs.isEmpty) \/ ∃d,H p=some (.dK d)/\k = !d.isEmpty
 |_=>False
theorem xV{d:Type}{f:List (d×V)}{vs:List (d×Value)}(r:KV f vs):(!vs.isEmpty) = !f.isEmpty:=by
 cases r<;>rfl
theorem pP{xs:List V}{d_:Zh}(r:Vals xs d_):(!d_.toArray.isEmpty) = !xs.isEmpty:=by
 cases r<;>simp
theorem jz:(sizeLine:Nat)<2 ^ 63:=by rw[sizeLine_eq];decide
theorem Fq:TruR X (λx H Q=>∃k,TruV X.K x H k/\Q k H):=by
 intro a_ s σ H x v Q I d h;obtain⟨k,e,q⟩:=h;have hl:=jz;have j:sizeLine=16777216:=sizeLine_eq;cases x with
 |non=>
  cases d;have e':k=false:=e;subst e';exact truthy_none ⟨H,I,q⟩
 |bl b=>
  cases d;have e':k=b:=e;subst e';exact wpAny_truthy_bool ⟨H,I,q⟩
 |int i=>
  obtain⟨t,rfl⟩:=d;have e':k=(i != 0):=e;subst e';exact PySem.P.truthy_int ⟨H,I,q⟩
 |str y=>
  obtain⟨t,rfl⟩:=d;obtain⟨hy,e'⟩:y.length<=sizeLine/\k=((y.length:Int) != 0):=e;subst e';exact PySem.P.truthy_str (by omega) ⟨H,I.tok _,q⟩
 |byt y=>
  obtain⟨t,rfl⟩:=d;obtain⟨hy,e'⟩:y.size<=sizeLine/\k=((y.size:Int) != 0):=e;subst e';exact PySem.W.truthy_bytes (by omega) ⟨H,I.tok _,q⟩
 |ref p=>
  cases d;have e':(∃xs,SqL X.K H p xs/\k = !xs.isEmpty)\/(∃xs,SqT X.K H p xs/\k = !xs.isEmpty) \/ ∃f,H p=some (.dK f)/\k = !f.isEmpty:=e;rcases e' with⟨xs,hx,e'⟩ | ⟨xs,hx,e'⟩ | ⟨f,hx,e'⟩
  ·subst e'
   obtain⟨d_,r,pl,hz⟩:=I.list hx;have g:=r.length;exact wpAny_truthy_list pl.isList (by simp only[YL];omega) ⟨H,I.tok _,by rw[pP r];exact q⟩
  ·subst e'
   obtain⟨d_,r,pl,hz⟩:=I.tuple hx;have g:=r.length;exact truthy_tuple pl (by simp only[YL];omega) ⟨H,I.tok _,by rw[pP r];exact q⟩
  ·subst e'
   obtain⟨hz,hS,vs,r,m⟩:f.length<=sizeLine/\(p==sysModules)=false/\∃vs,KV f vs/\s.heap.DictOf (bg X.prog X.w) p vs:=I.hok p _ hx;have g:f.length=vs.length:=Paired.length r;exact wpAny_truthy_dict hS m (by omega) ⟨H,I.tok _,by rw[xV r];exact q⟩
 |_=>exact(show False from e).elim
theorem Ba(ha:PE X a ta)(f:∀d,isTrue a X.env d=(do let v ←d;standAt a.pos;holding [v] (truthy v))):
  PT X a (λσ H Q=>ta σ H λx H'=>∃k,TruV X.K x H' k/\Q k H'):=by
 intro a_ s σ H Q I h;refine isTrue_plain (thn (ha a_ s σ H _ I h) λv s1 g=>?_) (f _);obtain⟨x,j,l,m,n⟩:=g;exact Fq a_ s1 σ j x v Q l m n
theorem xX:OpR X (binaryOp .Add) (λx y H Q=>∃i j,x=.str i/\y=.str j/\i.length+j.length<=sizeLine/\Q (.str (i++j)) H):=by
 intro a_ s σ H x y v u Q I d f h;obtain⟨i,j,rfl,rfl,hz,q⟩:=h;obtain⟨t,rfl⟩:=d;obtain⟨t',rfl⟩:=f;exact add_str (λt' tk=>⟨.str (i++j),H,I.tok _,⟨_,rfl⟩,q⟩) hz
theorem vals1{x:V}{us:Zh}(r:Vals [x] us):∃u,us=[u]/\RelV x u:=by
 cases r with
 |cons d f=>cases f;exact⟨_,rfl,d⟩
theorem vals2{x y:V}{us:Zh}(r:Vals [x,y] us):∃u d,us=[u,d]/\RelV x u/\RelV y d:=by
 cases r with
 |cons f g=>
  cases g with
  |cons j k=>cases k;exact⟨_,_,rfl,f,j⟩
theorem zo(hc:X.calm=true):dr X (.builtin "max") (λxs H Q=>∃i j,xs=[.int i,.int j]/\Q (.int (if j>i then j else i)) H):=by
 intro a_ s σ H xs us Q I r h;obtain⟨i,j,rfl,q⟩:=h;obtain⟨u,f,rfl,⟨t,rfl⟩,⟨t',rfl⟩⟩:=vals2 r;refine max_two_ints (I.ok.hd hc) λh' tk k=>⟨_,H,I.kept k,?_,q⟩
 by_cases d:j>i
 ·rw[if_pos d,if_pos d];exact⟨_,rfl⟩
 ·rw[if_neg d,if_neg d];exact⟨_,rfl⟩
theorem zt(hc:X.calm=true):dr X (.builtin "min") (λxs H Q=>∃i j,xs=[.int i,.int j]/\Q (.int (if j<i then j else i)) H):=by
 intro a_ s σ H xs us Q I r h;obtain⟨i,j,rfl,q⟩:=h;obtain⟨u,f,rfl,⟨t,rfl⟩,⟨t',rfl⟩⟩:=vals2 r;refine min_two_ints (I.ok.hd hc) λh' tk k=>⟨_,H,I.kept k,?_,q⟩
 by_cases d:j<i
 ·rw[if_pos d,if_pos d];exact⟨_,rfl⟩
 ·rw[if_neg d,if_neg d];exact⟨_,rfl⟩
end
structure ObjM (h:Heap) (x dx C:Addr) (mA:Zi):Prop where
 obj:h.get? x=some (PySem.W.instObj C dx)
 ns:h.Ns1 dx mA
 ne:dx≠x
theorem zu{h:Heap}{dx:Addr}{mA:Zi}(n:h.Ns1 dx mA):∃od,h.get? dx=some od/\∀name,PySem.W.lookIn name od=some (mA name):=by
 obtain⟨o,es,f,b,hd,hk,_,hm⟩:=n;refine⟨o,b,λname=>?_⟩;have e:=hm name;unfold nsFind findBy at e;rw[←Array.find?_toList] at e;unfold PySem.W.lookIn;rw[hd];dsimp only;split
 ·rename_i y q
  rw[q] at e;exact congrArg some e
 ·rename_i q
  rw[q] at e;have a:es.toList.any (·.refKey)=false:=by
   rw[List.any_eq_false];intro y hy;obtain⟨z,t,c⟩:=hk y (Array.mem_toList_iff.mp hy);simp[DictEntry.refKey,c]
  have d:¬es.toList.any (·.refKey)=true:=by rw[a];exact YI
  rw[if_neg d];exact congrArg some e
theorem ObjM.look{h:Heap}{x dx C:Addr}{mA:Zi}(I:ObjM h x dx C mA):∃od,PySem.W.InstAt h x (PySem.W.instObj C dx) C (some od)/\∀name,PySem.W.lookIn name od=some (mA name):=
 let⟨od,ho,hl⟩:=zu I.ns;⟨od,⟨I.obj,rfl,rfl,ho⟩,hl⟩
section
variable {prog:ZS}{w:World}{A:Around}{E:Zd}{s:Shared}{K:Za}{x dx C f:Addr}{mA:Zi}{name:Str}{v:Value}
theorem Dl{expr:Bool}{Q:Zd}(X:K.In s.heap)(I:ObjM s.heap x dx C mA)(hg:PySem.W.plainGet K C name=true)(a:PySem.W.hasDictIn K C=true)
  (ha:PySem.W.findIn K (.ref C) name=some none) (b:mA name=some v) (c:PySem.W.handedIn v=true) (h:Q v { s with toks:=s.toks+1 }):
  wpAny (model prog w) A (getAttr (.ref x) name expr) Q E s:=by
 obtain⟨od,J,hl⟩:=I.look;exact PySem.W.get_value X J (PySem.W.plainGet_of hg).1 (PySem.W.findObj_own a ha rfl (by rw[hl,b])) c h
theorem Bb{pl:Sem Bool}{Q:Value×List Value->Shared->Prop}(X:K.In s.heap)(I:ObjM s.heap x dx C mA)(hg:PySem.W.plainGet K C name=true)
  (hf:PySem.W.findIn K (.ref C) name=some (some (.ref f))) (ht:PySem.W.isFn K (.ref f)=true) (a:mA name=none) (h:Q (.ref f,[.ref x]) s):
  wpAny (model prog w) A (getMethod (.ref x) name pl) Q E s:=by
 obtain⟨od,J,hl⟩:=I.look;exact PySem.W.method_fn X J (PySem.W.plainGet_of hg).1 (PySem.W.plainGet_of hg).2 hf (beq_iff_eq.mp ht) (by show(PySem.W.lookIn name od).map (·.isSome)=some false;rw[hl,a];rfl) h
theorem Dm{ns:Zk}{Q:Zt}(X:K.In s.heap)(I:ObjM s.heap x dx C mA)
  (g:PySem.W.findIn K (.ref C) "__setattr__" = some (some (.builtin "object.__setattr__"))) (hp:PySem.W.plainOver K C=true) (ht:PySem.W.takerIn K C name=some none) (j:PySem.W.hasDictIn K C=true)
  (hw:PySem.Within mA ns) (hsz:ns.length<=sizeLine)
  (h:∀h',ObjM h' x dx C (λy=>if y=name then some v else mA y)->Heap.SameBut dx s.heap h'->Q () { s with heap:=h',toks:=s.toks+2 }):
  wpAny (model prog w) A (setAttr (.ref x) name v) Q E s:=by
 obtain⟨od,J,hl⟩:=I.look;refine PySem.W.set_plain X J g (PySem.W.osa_open (s:={ s with toks:=s.toks+1 }) (r:=none) X J hp ht λb=>?_);obtain⟨o,hc,k⟩:=PySem.W.any_some j;have hx:s.heap.get? x=some ⟨.ref C,some dx,.plain,#[]⟩:=I.obj;refine Yb (Yc (Yb (Yb (wpAny_loadPart hx (Yb (PySem.W.Looks.here (s:={ s with toks:=s.toks+1 }) (PySem.W.looks_clsIn X hc) ?_))))));rw[k];refine Yc (a:=some dx) (Yb (Yc (Yb ?_)));refine wpAny_nsSet1 (s:={ s with toks:=s.toks+1 }) I.ns λh' c d=>?_
 obtain⟨p,t,u,l,m,n⟩:=c.count (PySem.Within.cons name v hw);refine Yb (wpAny_lookBehind l (by rw[m];exact pastItsLine_dict (YA n (by rw[YM];omega))) ?_);exact Yc (h _ ⟨(d.2 _ (Ne.symm I.ne)).trans I.obj,c,I.ne⟩ d)
theorem Bc{R:Result->Shared->Prop}{vs:Zh}{a:List (Str×Value)}(X:K.In s.heap)(hm:PySem.W.makesIn K C=true)
  (hi:PySem.W.findIn K (.ref C) "__init__" = some (some (.ref f))) (hf:PySem.W.typeIn K (.ref f)=some (.type "function"))
  (h:codeAny (model prog w) (A.under (.builtin "type.__call__" ⟨.ref C::vs,a⟩)) (.call (.ref f) ⟨.ref (s.heap.objs.size+1)::vs,a⟩) (PySem.W.InitBack (s.heap.objs.size+1) R)
   { s with heap:=(s.heap.push PySem.W.emptyDict).push (PySem.W.instObj C s.heap.objs.size) }):
  codeAny (model prog w) A (.call (.ref C) ⟨vs,a⟩) R s:=by
 obtain⟨b,g,d,t,os⟩:=s;exact PySem.W.make_core (PySem.W.makes_of X hm) (PySem.W.looks_findIn X hi) (λself=>PySem.W.bind_fn X self hf) (.inl rfl) h
end
def putF(f:Str)(v:V):List (Str×V)->List (Str×V)
 |[]=>[(f,v)]
 |(g,x)::r=>if g=f then(g,v)::r else(g,x)::putF f v r
theorem oJ(f g:Str)(v:V):∀fs:List (Str×V),(putF f v fs).lookup g=if g=f then some v else fs.lookup g
 |[]=>by
  show List.lookup g [(f,v)]=_;by_cases h:g=f
  ·have hb:(g==f)=true:=beq_iff_eq.mpr h
   simp only[List.lookup,hb,if_pos h]
  ·have hb:(g==f)=false:=ZU.mpr h
   simp only[List.lookup,hb,if_neg h]
 |(k,x)::r=>by
  have a:=oJ f g v r;rw[show putF f v ((k,x)::r)=(if k=f then(k,v)::r else(k,x)::putF f v r) from rfl];by_cases hk:k=f
  ·rw[if_pos hk]
   by_cases h:g=k
   ·have hb:(g==k)=true:=beq_iff_eq.mpr h
    simp only[List.lookup,hb,if_pos (h.trans hk)]
   ·have hb:(g==k)=false:=ZU.mpr h
    simp only[List.lookup,hb,if_neg (λe:g=f=>h (e.trans hk.symm))]
  ·rw[if_neg hk]
   by_cases h:g=k
   ·have hb:(g==k)=true:=beq_iff_eq.mpr h
    simp only[List.lookup,hb,if_neg (λe:g=f=>hk (h.symm.trans e))]
   ·have hb:(g==k)=false:=ZU.mpr h
    simp only[List.lookup,hb];exact a
theorem mU(f:Str)(v:V):∀fs:List (Str×V),f∈(putF f v fs).map (·.1)/\∀g,g∈fs.map (·.1)->g∈(putF f v fs).map (·.1)
 |[]=>⟨by simp[putF],λg h=>by simp at h⟩
 |(k,x)::r=>by
  obtain⟨a,b⟩:=mU f v r;rw[show putF f v ((k,x)::r)=(if k=f then(k,v)::r else(k,x)::putF f v r) from rfl];by_cases hk:k=f
  ·rw[if_pos hk]
   subst hk;exact⟨by simp,λg h=>by simpa using h⟩
  ·rw[if_neg hk]
   refine⟨?_,λg h=>?_⟩
   ·rw[YO]
    exact YD _ a
   ·rw[YO] at h ⊢
    rcases YE.mp h with e | e
    ·exact YE.mpr (.inl e)
    ·exact YD _ (b g e)
theorem oK(f:Str)(v:V):∀fs:List (Str×V),(putF f v fs).length<=fs.length+1
 |[]=>by simp[putF]
 |(k,x)::r=>by
  have a:=oK f v r;rw[show putF f v ((k,x)::r)=(if k=f then(k,v)::r else(k,x)::putF f v r) from rfl];by_cases hk:k=f
  ·rw[if_pos hk,YM,YM];omega
  ·rw[if_neg hk,YM,YM];omega
theorem RelO.some_of{v:V}{o:Z0}(r:RelO (some v) o):∃u,o=some u/\RelV v u:=by
 cases o with
 |none=>exact(show False from r).elim
 |some u=>exact⟨u,rfl,r⟩
theorem RelO.none_of{o:Z0}(r:RelO none o):o=none:=by
 cases o with
 |none=>rfl
 |some u=>exact(show False from r).elim
theorem zv{v:V}{u:Value}(r:RelV v u):PySem.W.handedIn u=true:=by
 cases v with
 |non=>cases(show u=Value.none from r);rfl
 |bl b=>cases(show u=Value.bool b from r);rfl
 |int i=>obtain⟨t,e⟩:=(show ∃t,u=Value.int i t from r);cases e;rfl
 |str x=>obtain⟨t,e⟩:=(show ∃t,u=Value.str x t from r);cases e;rfl
 |byt b=>obtain⟨t,e⟩:=(show ∃t,u=Value.bytes b t from r);cases e;rfl
 |flt b=>obtain⟨t,e⟩:=(show ∃t,u=Value.float b t from r);cases e;rfl
 |ref a=>cases(show u=Value.ref a from r);rfl
 |ty n=>cases(show u=Value.type n from r);rfl
section
variable {P:ZS}{w:World}{H H':Hp}{h h':Heap}{a C dx:Addr}{fs IF:List (Str×V)}
theorem nS(hok:HOk P w H h)(e:H a=some (.ins C dx fs)):∃mA,ObjM h a dx C mA/\(∀f,RelO (fs.lookup f) (mA f))/\PySem.Within mA (fs.map (·.1))/\fs.length<=1000/\H dx=some (.own a):=by
 obtain⟨d,z,ne,b,mA,n,r,q⟩:=(show aQ P w H h a (.ins C dx fs) from hok a _ e);exact⟨mA,⟨b,n,ne⟩,r,q,z,d⟩
end
structure Cls (K:Za) (C:Addr):Prop where
 pg:PySem.W.plainGet K C Str.empty=true
 hd:PySem.W.hasDictIn K C=true
 po:PySem.W.plainOver K C=true
 sa:PySem.W.findIn K (.ref C) "__setattr__" = some (some (.builtin "object.__setattr__"))
theorem Cls.get{K:Za}{C:Addr}(c:Cls K C)(f:Str):PySem.W.plainGet K C f=true:=c.pg
def bW(K:Za)(C:Addr)(f:Str):Prop:=PySem.W.findIn K (.ref C) f=some none
theorem bW.taker{K:Za}{C:Addr}{f:Str}(n:bW K C f):PySem.W.takerIn K C f=some none:=by
 unfold PySem.W.takerIn;rw[show PySem.W.findIn K (.ref C) f=some none from n];rfl
structure Meth (K:Za) (C:Addr) (m:Str) (f:Addr):Prop where
 at_:PySem.W.findIn K (.ref C) m=some (some (.ref f))
 fn:PySem.W.isFn K (.ref f)=true
 kp:PySem.W.keepIn K (.ref f)=true
section
variable {X:Cx}{a_:Zg}{σ:St}{H:Hp}{s:Shared}{a C dx:Addr}{fs:List (Str×V)}{f:Str}{v:V}{A:Around}{E:Zd}
theorem xY{b:Bool}{Q:Zd}(I:Inv X a_ σ H s)(e:H a=some (.ins C dx fs))(c:Cls X.K C)(n:bW X.K C f)(l:fs.lookup f=some v)
  (h:∀u d,Inv X a_ σ H d->RelV v u->Q u d):wpAny (model X.prog X.w) A (getAttr (.ref a) f b) Q E s:=by
 obtain⟨mA,O,r,_,_,_⟩:=nS I.hok e;obtain⟨u,hu,g⟩:=RelO.some_of (v:=v) (o:=mA f) (by rw[←l];exact r f);exact Dl I.kIn O (c.get f) c.hd n hu (zv g) (h u _ (I.tok _) g)
theorem pQ{m:Str}{g:Addr}{pl:Sem Bool}{Q:Value×List Value->Shared->Prop}(I:Inv X a_ σ H s)(e:H a=some (.ins C dx fs))(c:Cls X.K C)(k:Meth X.K C m g)(l:fs.lookup m=none)
  (h:Q (.ref g,[.ref a]) s):wpAny (model X.prog X.w) A (getMethod (.ref a) m pl) Q E s:=by
 obtain⟨mA,O,r,_,_,_⟩:=nS I.hok e;have hn:mA m=none:=RelO.none_of (by rw[←l];exact r m);exact Bb I.kIn O (c.get m) k.at_ k.fn hn h
theorem xZ{y:V}{u:Value}{Q:Zt}(I:Inv X a_ σ H s)(e:H a=some (.ins C dx fs))(c:Cls X.K C)(n:bW X.K C f)(hl:fs.length<1000)(m:RelV y u)
  (h:∀j,Inv X a_ σ (upd H a (.ins C dx (putF f y fs))) j->Q () j):wpAny (model X.prog X.w) A (setAttr (.ref a) f u) Q E s:=by
 obtain⟨mA,O,r,k,_,l⟩:=nS I.hok e;have hz:(fs.map (·.1)).length<=sizeLine:=by rw[ZG,sizeLine_eq];omega
 refine Dm I.kIn O c.sa c.po n.taker c.hd k hz λh' d p=>h _ ?_
 have hd:∃o,h'.get? dx=some o:=let⟨o,_,_,e',_⟩:=d.ns;⟨o,e'⟩;refine I.write (x:=a) (e:=dx) (by rw[e];exact True.intro) (.inr l) (λb q hb z=>(p.2 b hb).trans z) hd ?_;refine⟨by rw[aD O.ne];exact l,?_,O.ne,d.obj,_,d.ns,λg=>?_,λg hg=>?_⟩
 ·have:=oK f y fs;omega
 ·show RelO ((putF f y fs).lookup g) (if g=f then some u else mA g)
  rw[oJ];by_cases q:g=f
  ·rw[if_pos q,if_pos q];exact m
  ·rw[if_neg q,if_neg q];exact r g
 ·by_cases q:g=f
  ·rw[q];exact(mU f y fs).1
  ·refine(mU f y fs).2 g (k g λz=>hg ?_)
   show(if g=f then some u else mA g)=none;rw[if_neg q];exact z
theorem Inv.made(I:Inv X a_ σ H s):Inv X a_ σ (upd (upd H s.heap.objs.size (.own (s.heap.objs.size+1))) (s.heap.objs.size+1) (.ins C s.heap.objs.size []))
  { s with heap:=(s.heap.push PySem.W.emptyDict).push (PySem.W.instObj C s.heap.objs.size) }:=by
 have e1:(s.heap.push PySem.W.emptyDict).get? s.heap.objs.size=some PySem.W.emptyDict:=Yg s.heap rfl;have e2:((s.heap.push PySem.W.emptyDict).push (PySem.W.instObj C s.heap.objs.size)).get? (s.heap.objs.size+1)=some (PySem.W.instObj C s.heap.objs.size):=by
  have:=Yg (s.heap.push PySem.W.emptyDict) (o:=PySem.W.instObj C s.heap.objs.size) rfl
  rwa [Heap.size_push] at this
 have c:(s.heap.push PySem.W.emptyDict).Ns s.heap.objs.size (λ_=>none):=⟨PySem.W.emptyDict,#[],_,e1,rfl,(λe d=>absurd d (by simp)),λ_=>rfl⟩;have g:=I.laid (a:=s.heap.objs.size) (o:=.own (s.heap.objs.size+1)) (h':=s.heap.push PySem.W.emptyDict) (t':=s.toks) (λb u q=>Yd _ q) (YJ _) ⟨_,e1⟩;refine g.laid (a:=s.heap.objs.size+1) (o:=.ins C s.heap.objs.size []) (t':=s.toks) (λb u q=>Yd _ q) (Nat.le_of_eq (Heap.size_push _ _)) ?_;have ne:s.heap.objs.size≠s.heap.objs.size+1:=ZX (Nat.lt_succ_self _);refine⟨by rw[aD ne,ay],YQ _,ne,e2,λ_=>none,(Heap.Ns1.of_empty c).at λo q=>Yd _ q,λ_=>True.intro,λy hy=>absurd rfl hy⟩
theorem Do{prog:ZS}{w:World}{env:Env}{e:Expr}{f:Str}{pos:Pos}{s:Shared}{Q:Zd}(hb:attributeBase e f env (eval e env)=eval e env)
  (h:wpAny (model prog w) A (eval e env) (λo b=>wpAny (model prog w) A (getAttr o f true) Q E b) E s):wpAny (model prog w) A (eval (.Attribute e f pos) env) Q E s:=
 Attribute_any_ h (by rw[arm_eval_Attribute,hb])
end
def tFld(K:Za)(c:TE)(f:Str):TE:=λσ H Q=>c σ H λx b=>∃a C dx fs v,x=.ref a/\b a=some (.ins C dx fs)/\Cls K C/\bW K C f/\fs.lookup f=some v/\Q v b
def sFld(K:Za)(c d:TE)(f:Str):TS:=λD σ H=>d σ H λy g=>c σ g λx b=>∃a C dx fs,x=.ref a/\b a=some (.ins C dx fs)/\Cls K C/\bW K C f/\fs.length<1000 /\
 D.nx σ (upd b a (.ins C dx (putF f y fs)))
section
variable {X:Cx}{o e value:Expr}{f:Str}{pos pos' Rq:Pos}{ta tv:TE}
theorem Fr(b:PE X e ta)(hb:attributeBase e f X.env (eval e X.env)=eval e X.env):PE X (.Attribute e f pos) (tFld X.K ta f):=by
 intro a_ s σ H Q I h;refine Do hb (thn (b a_ s σ H _ I h) λu s1 d=>?_);obtain⟨x,g,j,k,a,C,dx,fs,v,ex,m,c,n,l,q⟩:=d;subst ex;obtain rfl:u=Value.ref a:=k;exact xY j m c n l λt s2 p r=>⟨v,g,p,r,q⟩
theorem Fs(ha:PE X o ta)(b:PE X value tv)(d:swapsWith value (some (.Attribute o f pos')) pos.line X.env=pure false):PS X (.Assign [.Attribute o f pos'] value pos) (sFld X.K ta tv f):=by
 intro a_ s σ H D I h;refine plainObj_wpAny_Assign_Attribute (thn (b a_ s σ H _ I h) λu s1 g=>?_) d;obtain⟨y,j,k,m,q⟩:=g;refine thn (ha a_ s1 σ j _ k q) λp s2 r=>?_
 obtain⟨x,E,t,w,a,C,dx,fs,ex,z,c,n,l,A⟩:=r;subst ex;obtain rfl:p=Value.ref a:=w;exact xZ t z c n l m λF B=>⟨σ,_,B,A⟩
end
section
variable {X:Cx}{a_:Zg}{σ:St}{H:Hp}{s:Shared}{A:Around}{E:Zd}{Q:Zd}{c:Value}{b:Bool}
inductive TyOf (K:Za) (H:Hp):V->Value->Prop where
 |non:TyOf K H .non (.type "NoneType")
 |bl (x:Bool):TyOf K H (.bl x) (.type "bool")
 |int (i:Int):TyOf K H (.int i) (.type "int")
 |str (x:Str):TyOf K H (.str x) (.type "str")
 |flt (x:UInt64):TyOf K H (.flt x) (.type "float")
 |lst {a:Addr}{xs:List V}(e:H a=some (.lst xs)):TyOf K H (.ref a) (.type "list")
 |frz {a:Addr}{o:Obj}{xs:List V}(e:H a=some (.frz o (.lst xs))):TyOf K H (.ref a) (.type "list")
 |tup {a:Addr}{xs:List V}(e:H a=some (.tup xs)):TyOf K H (.ref a) (.type "tuple")
 |dK {a:Addr}{e_:List (Key×V)}(e:H a=some (.dK e_)):TyOf K H (.ref a) (.type "dict")
 |dT {a:Addr}{e_:List (List Key×V)}(e:H a=some (.dT e_)):TyOf K H (.ref a) (.type "dict")
 |ins {a C dx:Addr}{fs:List (Str×V)}(e:H a=some (.ins C dx fs)) (cl:Cls K C) (ha:PySem.W.findIn K (.ref C) "__class__" = some (some (.builtin "object.__class__")))
   (hn:PySem.W.specialIn K (.builtin "object.__class__") "__get__" = some (some (.builtin "getset_descriptor.__get__"))) (P9:PySem.W.takesIn K (.builtin "object.__class__")=some true)
   (hm:PySem.W.mroIn K C (.type "object")=some true):TyOf K H (.ref a) (.ref C)
theorem fm{x:V}{u t:Value}(I:Inv X a_ σ H s)(d:RelV x u)(ty:TyOf X.K H x t)(e:PySem.W.kitOne X.K t c=some b)(h:∀tk,Q (.bool b) { s with toks:=tk }):
  wpAny (model X.prog X.w) A (call (.builtin "isinstance") [u,c]) Q E s:=by
 cases ty with
 |non=>cases(show u=Value.none from d);exact PySem.W.kia_one PySem.W.kitx_none I.kIn True.intro e (λz=>nomatch z) h
 |bl y=>cases(show u=Value.bool y from d);exact PySem.W.kia_one PySem.W.kitx_bool I.kIn True.intro e (λz=>nomatch z) h
 |int i=>obtain⟨t,q⟩:=(show ∃t,u=Value.int i t from d);cases q;exact PySem.W.kia_one PySem.W.kitx_int I.kIn True.intro e (λz=>nomatch z) h
 |str y=>obtain⟨t,q⟩:=(show ∃t,u=Value.str y t from d);cases q;exact PySem.W.kia_one PySem.W.kitx_str I.kIn True.intro e (λz=>nomatch z) h
 |flt y=>obtain⟨t,q⟩:=(show ∃t,u=Value.float y t from d);cases q;exact PySem.W.kia_one PySem.W.kitx_float I.kIn True.intro e (λz=>nomatch z) h
 |@lst a xs f=>
  cases(show u=Value.ref a from d);obtain⟨_,_,n,_,g⟩:=(show aQ X.prog X.w H s.heap a (.lst xs) from I.hok a _ f);exact PySem.W.kia_one PySem.W.kitx_list I.kIn ⟨_,g,rfl⟩ e (λz=>nomatch z) h
 |@frz a k xs f=>
  cases(show u=Value.ref a from d);obtain⟨_,_,_,n,_,g⟩:=(show aQ X.prog X.w H s.heap a (.frz k (.lst xs)) from I.hok a _ f);exact PySem.W.kia_one PySem.W.kitx_list I.kIn ⟨_,g,rfl⟩ e (λz=>nomatch z) h
 |@tup a xs f=>
  cases(show u=Value.ref a from d);obtain⟨_,_,_,p⟩:=(show aQ X.prog X.w H s.heap a (.tup xs) from I.hok a _ f);obtain⟨o,g,h2,_⟩:=p;exact PySem.W.kia_one PySem.W.kitx_tuple I.kIn ⟨o,g,h2⟩ e (λz=>nomatch z) h
 |@dK a j f=>
  cases(show u=Value.ref a from d);obtain⟨_,_,vs,_,p⟩:=(show aQ X.prog X.w H s.heap a (.dK j) from I.hok a _ f);obtain⟨o,es,l,g,h2,_⟩:=p;exact PySem.W.kia_one PySem.W.kitx_dict I.kIn ⟨o,g,h2.1⟩ e (λz=>nomatch z) h
 |@dT a j f=>
  cases(show u=Value.ref a from d);obtain⟨_,_,xs,_,o,es,l,g,h2,_⟩:=(show aQ X.prog X.w H s.heap a (.dT j) from I.hok a _ f);exact PySem.W.kia_one PySem.W.kitx_dict I.kIn ⟨o,g,h2.1⟩ e (λz=>nomatch z) h
 |@ins a C dx fs f cl ha hn m hm=>
  cases(show u=Value.ref a from d);obtain⟨mA,O,_⟩:=nS I.hok f;obtain⟨od,J,_⟩:=O.look;exact PySem.W.kia_one (PySem.W.kitx_own (cl.get _) cl.hd ha hn m hm) I.kIn J e (λz=>nomatch z) h
end
structure Room (k:Nat) (A:Around):Prop where
 hd:A.handled=none
 dp:A.depth+3*k+5<recursionLimit
 un:A.units+16*k+200<cLine
theorem Room.mono{j k:Nat}{A:Around}(r:Room k A)(h:j<=k):Room j A:=⟨r.hd,by have:=r.dp;omega,by have:=r.un;omega⟩
theorem Room.deeper{k:Nat}{A:Around}(r:Room (k+1) A)(env:Env):Room k (A.deeper env):=
 ⟨r.hd,by have:=r.dp;show A.depth+1+3*k+5<_;omega,by have:=r.un;show A.units+3+16*k+200<_;omega⟩
theorem x0{A:Around}{C:Addr}{us:Zh}{a:List (Str×Value)}:(A.under (.builtin "type.__call__" ⟨.ref C::us,a⟩)).depth=A.depth+1:=by
 first | rfl | simp[Around.under,Code.weight,Code.isCreation,Code.isGuard,Code.isCaller,Code.frames,Code.isFrame,guardIds]
theorem x4{A:Around}{C:Addr}{us:Zh}{a:List (Str×Value)}:(A.under (.builtin "type.__call__" ⟨.ref C::us,a⟩)).units=A.units+1:=by
 first | rfl | simp[Around.under,Code.cUnits,Code.frames,Code.isFrame]
theorem Room.make{k:Nat}{A:Around}(r:Room (k+1) A)(C:Addr)(us:Zh)(a:List (Str×Value)):Room k (A.under (.builtin "type.__call__" ⟨.ref C::us,a⟩)):=
 ⟨r.hd,by have:=r.dp;rw[x0];omega,by have:=r.un;rw[x4];omega⟩
theorem Room.depth{k:Nat}{A:Around}(r:Room k A):A.depth<recursionLimit:=by have:=r.dp;omega
theorem Room.units{k:Nat}{A:Around}(r:Room k A):A.units+64<cLine:=by have:=r.un;omega
def tNil:TA:=λ_ H Q=>Q [] H
def GV(a:TE)(b:TA):TA:=λσ H Q=>a σ H λx c=>b σ c λxs d=>Q (x::xs) d
section
variable {X:Cx}{e:Expr}{es:Zl}{te:TE}{t:TA}{pos:Pos}
theorem Ft:PA X [] tNil:=λ_ _ _ _ H Q I h=>Calls.spliced_nil ⟨[],H,I,.nil,h⟩
theorem Dp(ha:PE X e te)(a:PA X es t)(b:starEach (e::es) X.env=(false,eval e X.env)::starEach es X.env:=by rfl):PA X (e::es) (GV te t):=by
 intro pos a_ s σ H Q I h;rw[b];show wpAny _ _ (spliced ((false,eval e X.env)::backTo pos (starEach es X.env))) _ _ s;refine Calls.spliced_cons (thn (ha a_ s σ H _ I h) λu s1 c=>?_);obtain⟨x,d,f,g,j⟩:=c;refine thn (a pos a_ s1 σ d _ f j) λus s2 k=>?_
 obtain⟨xs,l,m,n,o⟩:=k;exact⟨x::xs,l,m,.cons g n,o⟩
def tTup(t:TA):TE:=λσ H Q=>t σ H λxs a=>xs.length<=sizeLine/\∀p,a p=none->Q (.ref p) (upd a p (.tup xs))
def tLst(t:TA):TE:=λσ H Q=>t σ H λxs a=>xs.length<=sizeLine/\∀p,a p=none->Q (.ref p) (upd a p (.lst xs))
theorem Fu{x1}(h:PA X es t):PE X (.Tuple es x1 pos) (tTup t):=by
 intro a_ s σ H Q I hq;refine wpAny_Tuple_spliced (thn (h pos a_ s σ H _ I hq) λus s1 ⟨xs,a,c,r,z,q⟩=>⟨by rw[←r.length];exact z,?_⟩);have hf:a s1.heap.objs.size=none:=c.hok.fresh (YJ _);refine⟨.ref s1.heap.objs.size,upd a s1.heap.objs.size (.tup xs),c.laid (t':=s1.toks) (λb u e=>Yd _ e) (YJ _) ?_,rfl,q _ hf⟩;exact⟨z,us,r,⟨_,Yg _ rfl,rfl,_,rfl⟩⟩
theorem Fv(h:PA X es t):PE X (.List es pos) (tLst t):=by
 intro a_ s σ H Q I hq;refine wpAny_List_spliced (thn (h pos a_ s σ H _ I hq) λus s1 ⟨xs,a,c,r,z,q⟩=>⟨by rw[←r.length];exact z,?_⟩);have hf:a s1.heap.objs.size=none:=c.hok.fresh (YJ _);refine⟨.ref s1.heap.objs.size,upd a s1.heap.objs.size (.lst xs),c.laid (t':=s1.toks) (λb u e=>Yd _ e) (YJ _) ?_,rfl,q _ hf⟩;exact⟨z,us,0,r,Yg _ rfl⟩
end
abbrev Sp:=List V->Hp->VK->XK->Prop
abbrev CXT:=List Env->Hp->Shared->XK->Value->Shared->Prop
structure Env0 (P:ZS) (w:World) (K:Za) (mg:Zi) (base:Heap) (A:Around) (outer:List Env) (s:Shared) (H:Hp):Prop where
 frames:A.frames=some outer
 mod:Mod K mg base
 bs:∀b o,base.get? b=some o->s.heap.get? b=some o/\H b=none
 bsz:base.objs.size<=s.heap.objs.size
 funs:s.heap.FunFrames base outer
 frf:∀b∈frs outer,H b=none
 hok:HOk P w H s.heap
 bare:AllBare s.gens
def CE(outer:List Env)(P:ZS)(w:World)(H:Hp)(s:Shared)(Q:VK)(u:Value)(a:Shared):Prop:=
 ∃v H',a.os=s.os/\AllBare a.gens/\Un (frs outer) [] H H' s.heap a.heap/\HOk P w H' a.heap/\RelV v u/\Q v H'
def CR(CX:CXT)(outer:List Env)(P:ZS)(w:World)(H:Hp)(s:Shared)(Q:VK)(E:XK)(r:Result)(a:Shared):Prop:=
 match r with
 |.ok (.ret u)=>CE outer P w H s Q u a
 |.ok _=>False
 |.error e=>CX outer H s E e a
structure FnOk (P:ZS) (w:World) (K:Za) (mg:Zi) (base:Heap) (CX:CXT) (k:Nat) (f:Addr) (fd:ZD) (ps:Zk) (sp:Sp):Prop where
 len:∀vs H Q E,sp vs H Q E->vs.length=ps.length
 run:∀(A:Around) (outer:List Env) (s:Shared) (H:Hp) (args:Args) (us:Zh) (vs:List V) (Q:VK) (E:XK),Room k A->Env0 P w K mg base A outer s H->BindsTo s fd args (ps.zip us)->Vals vs us->sp vs H Q E ->
  codeAny (model P w) A (.call (.ref f) args) (CR CX outer P w H s Q E) s
theorem Env0.make{P:ZS}{w:World}{K:Za}{mg:Zi}{base:Heap}{A:Around}{outer:List Env}{s:Shared}{H:Hp}(e:Env0 P w K mg base A outer s H)(C:Addr)(us:Zh)(a:List (Str×Value)):
  Env0 P w K mg base (A.under (.builtin "type.__call__" ⟨.ref C::us,a⟩)) outer s H:=⟨by first | exact e.frames | (simpa [Around.under,Code.envs,Code.isFrame,pushEnvs] using e.frames),e.mod,e.bs,e.bsz,e.funs,e.frf,e.hok,e.bare⟩
section
variable {X:Cx}{a_:Zg}{σ:St}{H:Hp}{s s':Shared}
theorem Inv.env0(I:Inv X a_ σ H s):Env0 X.prog X.w X.K X.mg X.base X.A X.stack s H:=
 ⟨I.ok.frames,I.ok.mod,I.bs,YA I.ok.bsz I.sz,I.stack,I.stkFree,I.hok,I.bare⟩
theorem Inv.after{Q:VK}{u:Value}(I:Inv X a_ σ H s)(h:CE X.stack X.prog X.w H s Q u s'):EP X a_ σ Q u s':=by
 obtain⟨v,H',os,bare,un,hok,r,q⟩:=h;obtain⟨a,g,d,t,c⟩:=s';obtain rfl:c=s.os:=os;exact⟨v,H',I.call (h':=a) (g':=g) (d':=d) (t':=t) (ch:=[]) un hok bare (λb z=>absurd z (by simp)),r,q⟩
end
def CK(sp:Sp)(a:List V)(E:XK)(t:TA):TE:=λσ H Q=>t σ H λvs b=>sp (vs++a) b Q E
def GW(C:Addr)(sp:Sp)(b:List V)(E:XK)(t:TA):TE:=λσ H Q=>t σ H λvs a=>∀x dx,a x=none->a dx=none->dx≠x ->
 sp (.ref x::(vs++b)) (upd (upd a dx (.own x)) x (.ins C dx [])) (λv c=>v=.non/\Q (.ref x) c) E
def Binds(K:Za)(fd:ZD)(ps:Zk)(ds:Zh):Prop:=
 ∀(s:Shared) (us:Zh),K.In s.heap->(us++ds).length=ps.length->BindsTo s fd ⟨us,[]⟩ (ps.zip (us++ds))
theorem Binds.all{K:Za}{fd:ZD}{ps:Zk}(h:∀us:List Value,us.length=ps.length->bindArgs fd ⟨us,[]⟩=pure (ps.zip us)):Binds K fd ps []:=λs us _ hl=>by
 rw[ZA] at hl ⊢;exact .of_eq (h us hl)
def mV(CX:CXT)(X:Cx)(E:XK):Prop:=∀(a_:Zg) (σ:St) (H:Hp) (s:Shared) (e:Value) (a:Shared),Inv X a_ σ H s->CX X.stack H s E e a->X.xe e a
section
variable {X:Cx}{CX:CXT}{k:Nat}{f C:Addr}{fd:ZD}{ps:Zk}{sp:Sp}{Il:List V}{ds:Zh}{E:XK}{x m:Str}{p pos r_:Pos}{e o:Expr}{es:Zl}{ta:TE}{t:TA}
theorem ui{a_:Zg}{σ:St}{H:Hp}{s:Shared}{Q:VK}{us:Zh}{vs:List V}(F:FnOk X.prog X.w X.K X.mg X.base CX k f fd ps sp)(b:Room k X.A)(hb:Binds X.K fd ps ds)(hd:Vals Il ds)(hx:mV CX X E)
  (I:Inv X a_ σ H s) (r:Vals vs us) (h:sp (vs++Il) H Q E):wpAny (model X.prog X.w) X.A (call (.ref f) us) (EP X a_ σ Q) X.xe s:=by
 have a:Vals (vs++Il) (us++ds):=r.append hd;have hl:(us++ds).length=ps.length:=by rw[←a.length];exact F.len _ _ _ _ h
 refine wpAny_call (codeAny_mono (F.run X.A X.stack s H ⟨us,[]⟩ (us++ds) (vs++Il) Q E b I.env0 (hb s us I.kIn hl) a h) λr c hq=>?_);cases r with
 |error e=>exact hx a_ σ H s e c I hq
 |ok fl=>
  cases fl with
  |ret u=>exact I.after hq
  |next=>exact Yh hq
  |brk=>exact Yh hq
  |cont=>exact Yh hq
theorem Dq(F:FnOk X.prog X.w X.K X.mg X.base CX k f fd ps sp)(b:Room k X.A)(hg:Gl X x)(hm:X.mg x=some (.ref f))(hk:PySem.W.keepIn X.K (.ref f)=true)(hb:Binds X.K fd ps ds)(hd:Vals Il ds)(hx:mV CX X E)
  (ha:PA X (e::es) t) (c:(x==("__debug__" : Str))=false:=by decide) (d:starEach (e::es) X.env=(false,eval e X.env)::starEach es X.env:=by rfl) (g:(backTo pos (starEach es X.env)).any (·.1)=false:=by rfl):
  PE X (.Call (.Name x p) (e::es) [] pos) (CK sp Il E t):=by
 intro a_ s σ H Q I h;refine wpAny_Call_Name_kw (rD I hg hm ?_ c);refine PySem.W.callWith_K (h₀:=X.base) I.ok.mod.kin hk (thn (ha pos a_ s σ H _ I h) λus s1 j=>?_) d g;obtain⟨vs,l,a,r,q⟩:=j;refine⟨a.kIn,?_⟩;exact ui F b hb hd hx a r q
structure Mk (K:Za) (C f:Addr):Prop where
 makes:PySem.W.makesIn K C=true
 init:PySem.W.findIn K (.ref C) "__init__" = some (some (.ref f))
 fn:PySem.W.isFn K (.ref f)=true
 kp:PySem.W.keepIn K (.ref C)=true
theorem Bd{a_:Zg}{σ:St}{H:Hp}{s:Shared}{Q:VK}{us:Zh}{vs:List V}(M:Mk X.K C f)(F:FnOk X.prog X.w X.K X.mg X.base CX k f fd ps sp)(d:Room (k+1) X.A)(hb:Binds X.K fd ps ds)(hd:Vals Il ds)
  (hx:mV CX X E) (I:Inv X a_ σ H s) (r:Vals vs us)
  (h:∀x dx,H x=none->H dx=none->dx≠x->sp (.ref x::(vs++Il)) (upd (upd H dx (.own x)) x (.ins C dx [])) (λv g=>v=.non/\Q (.ref x) g) E):
  wpAny (model X.prog X.w) X.A (call (.ref C) us) (EP X a_ σ Q) X.xe s:=by
 have hq:=h (s.heap.objs.size+1) s.heap.objs.size (I.hok.fresh (YR _)) (I.hok.fresh (YJ _)) (ZX (Nat.lt_succ_self _));have b:=Inv.made (C:=C) I;have c:Vals (V.ref (s.heap.objs.size+1)::(vs++Il)) (Value.ref (s.heap.objs.size+1)::(us++ds)):=.cons rfl (r.append hd);have hl:(Value.ref (s.heap.objs.size+1)::us++ds).length=ps.length:=by
  have e:=c.length;rw[F.len _ _ _ _ hq] at e;exact e.symm
 refine wpAny_call (Bc (f:=f) I.kIn M.makes M.init (beq_iff_eq.mp M.fn) (codeAny_mono (F.run _ X.stack _ _ ⟨Value.ref (s.heap.objs.size+1)::us,[]⟩ (Value.ref (s.heap.objs.size+1)::(us++ds)) _ _ E (d.make C us [])
  (b.env0.make C us []) (hb _ (Value.ref (s.heap.objs.size+1)::us) b.kIn hl) c hq) λr j a=>?_))
 cases r with
 |error e=>exact hx a_ σ _ _ e j b a
 |ok fl=>
  cases fl with
  |ret u=>
   obtain⟨v,H',l,n,y,z⟩:=b.after a;subst y;exact⟨n,⟨V.ref (s.heap.objs.size+1),H',l,rfl,z⟩⟩
  |next=>exact Yh a
  |brk=>exact Yh a
  |cont=>exact Yh a
theorem Dr(M:Mk X.K C f)(F:FnOk X.prog X.w X.K X.mg X.base CX k f fd ps sp)(b:Room (k+1) X.A)(hg:Gl X x)(hm:X.mg x=some (.ref C))(hb:Binds X.K fd ps ds)(hd:Vals Il ds)(hx:mV CX X E)
  (ha:PA X (e::es) t) (c:(x==("__debug__" : Str))=false:=by decide) (d:starEach (e::es) X.env=(false,eval e X.env)::starEach es X.env:=by rfl) (g:(backTo pos (starEach es X.env)).any (·.1)=false:=by rfl):
  PE X (.Call (.Name x p) (e::es) [] pos) (GW C sp Il E t):=by
 intro a_ s σ H Q I h;refine wpAny_Call_Name_kw (rD I hg hm ?_ c);refine PySem.W.callWith_K (h₀:=X.base) I.ok.mod.kin M.kp (thn (ha pos a_ s σ H _ I h) λus s1 j=>?_) d g;obtain⟨vs,l,a,r,q⟩:=j;refine⟨a.kIn,?_⟩;exact Bd M F b hb hd hx a r q
end
structure FnScope (N P:Zk) (sc:Scope):Prop where
 kind:sc.kind=.function
 co:sc.isCoroutine=false
 gen:sc.isGenerator=false
 nd:N.Nodup
 pre:N.take P.length=P
 par:∀x∈P,sc.names.lookup x=some .local \/ sc.names.lookup x=some .cell
 nofree:∀y∈sc.names,y.2≠.free
theorem sy{kindOf:Str->Option NameKind}{x:Str}:∀{binds:List (Str×Value)}{m:Zi},(∀v,(x,v)∉binds)->bindL kindOf binds m x=m x
 |[],_,_=>rfl
 |(n,v)::r,m,h=>by
  unfold bindL;rw[sy λw hw=>h w (YD _ hw)];split
  ·have:x≠n:=by rintro rfl;exact h v YC
   simp[this]
  ·rfl
theorem sC{kindOf:Str->Option NameKind}{x:Str}:∀{binds:List (Str×Value)}{m:Zi},(∀v,(x,v)∉binds)->bindC kindOf binds m x=m x
 |[],_,_=>rfl
 |(n,v)::r,m,h=>by
  unfold bindC;rw[sC λw hw=>h w (YD _ hw)];split
  ·rfl
  ·have:x≠n:=by rintro rfl;exact h v YC
   simp[this]
theorem sD{kindOf:Str->Option NameKind}{x:Str}{v:Value}:∀{P:Zk}{vs:Zh}{i:Nat}{m:Zi},P.Nodup->P[i]?=some x->vs[i]?=some v->kindOf x=some .local ->
  bindL kindOf (P.zip vs) m x=some v
 |[],_,_,_,_,h,_,_=>by simp at h
 |_::_,[],_,_,_,_,h,_=>by simp at h
 |p::P,w::vs,0,m,nd,a,h2,hk=>by
  simp at a h2;subst a;subst h2;show bindL kindOf ((p,w)::P.zip vs) m p=_;unfold bindL;rw[sy λv b=>(YS.mp nd).1 (List.of_mem_zip b).1,if_pos hk];simp
 |p::P,w::vs,i+1,m,nd,a,h2,hk=>by
  show bindL kindOf ((p,w)::P.zip vs) m x=_;unfold bindL;exact sD (i:=i) (YS.mp nd).2 (by simpa using a) (by simpa using h2) hk
theorem sF{kindOf:Str->Option NameKind}{x:Str}{v:Value}:∀{P:Zk}{vs:Zh}{i:Nat}{m:Zi},P.Nodup->P[i]?=some x->vs[i]?=some v->kindOf x≠some .local ->
  bindC kindOf (P.zip vs) m x=some v
 |[],_,_,_,_,h,_,_=>by simp at h
 |_::_,[],_,_,_,_,h,_=>by simp at h
 |p::P,w::vs,0,m,nd,a,h2,hk=>by
  simp at a h2;subst a;subst h2;show bindC kindOf ((p,w)::P.zip vs) m p=_;unfold bindC;rw[sC λv b=>(YS.mp nd).1 (List.of_mem_zip b).1,if_neg hk];simp
 |p::P,w::vs,i+1,m,nd,a,h2,hk=>by
  show bindC kindOf ((p,w)::P.zip vs) m x=_;unfold bindC;exact sF (i:=i) (YS.mp nd).2 (by simpa using a) (by simpa using h2) hk
def start(N:Zk)(vs:List V):St:=vs.map some++List.replicate (N.length-vs.length) none
def cxOf(CX:CXT)(P:ZS)(w:World)(K:Za)(mg:Zi)(base:Heap)(N:Zk)(l_:Str)(scope:Scope)(f:Addr)(a:Value)(A:Around)(outer:List Env)(s:Shared)(H:Hp)(E:XK):Cx where
 prog:=P
 w:=w
 K:=K
 mg:=mg
 base:=base
 A:=A.deeper (envOfC l_ scope s.heap.objs.size f a)
 N:=N
 s₀:=s
 H₀:=H
 env:=envOfC l_ scope s.heap.objs.size f a
 outer:=outer
 stack:=envOfC l_ scope s.heap.objs.size f a::outer
 ex:=[]
 calm:=true
 fn:=λ_=>true
 pn:=[]
 xe:=λe c=>wpAny (model P w) (A.deeper (envOfC l_ scope s.heap.objs.size f a)) (leaving (envOfC l_ scope s.heap.objs.size f a) e) (λ_ b=>CX outer H s E e b) (λe' b=>CX outer H s E e' b) c
theorem uj{sc:Scope}{n:Nat}{x:Str}(h:sc.names.lookup x=some .cell):∃c,(cellsFrom n sc.names []).lookup x=some c:=by
 have q:=PySem.W.cellsFrom_some sc.names n [] (.inl h);exact Option.isSome_iff_exists.mp q
theorem zw{CX:CXT}{P:ZS}{w:World}{K:Za}{mg:Zi}{base:Heap}{N ps:Zk}{l_:Str}{scope:Scope}{f:Addr}{g:Value}{A:Around}{outer:List Env}{s s1:Shared}{H:Hp}{E:XK}{us:Zh}{vs:List V}
  (S:FnScope N ps scope) (hd:A.handled=none) (d:Env0 P w K mg base A outer s H) (hl:vs.length=ps.length) (r:Vals vs us)
  (x:InCallC s s.heap.objs.size (bindL (envOfC l_ scope s.heap.objs.size f g).kindOf (ps.zip us) λ_=>none) (cellsFrom (s.heap.objs.size+1) scope.names []) (bindC (envOfC l_ scope s.heap.objs.size f g).kindOf (ps.zip us) λ_=>none) s1):
  Inv (cxOf CX P w K mg base N l_ scope f g A outer s H E) [] (start N vs) H s1:=by
 have t:ps.length<=N.length:=by have:=congrArg List.length S.pre;rw[YV] at this;omega
 obtain⟨j,tk,rfl,hk⟩:=x.done;have l:∀b:Addr,b∉(cxOf CX P w K mg base N l_ scope f g A outer s H E).ex:=λb z=>absurd (show b∈([]:List Addr) from z) (by simp)
 refine⟨⟨d.mod,S.kind,rfl,rfl,YJ _,λy z c j h2=>?_,λy hy=>?_,λy c _ h=>?_,λ_=>hd,Around.frames_deeper d.frames,.inr ⟨rfl,rfl⟩,λb z=>absurd z (l b),d.bs,d.bsz,λb _ _=>l b,λb z=>absurd z (l b),d.funs,d.frf⟩,
  rfl,d.bare,Un.kept hk,⟨_,x.toInCall.ns,λi y v j h2 B=>?_⟩,λy c h=>⟨_,x.cell y c h⟩,d.hok.fresh (YJ _),λy c h=>?_,λp hp=>absurd (show p∈([]:List (Addr×Obj)) from hp) (by simp),d.hok.kept hk,?_⟩
 ·exact name_of_addr x.apart (PySem.mem_of_lookup j) (PySem.mem_of_lookup h2)
 ·have hy:scope.names.lookup y=some .cell\/scope.names.lookup y=some .free:=hy
  rcases hy with hy | hy
  ·exact uj hy
  ·exact absurd rfl (S.nofree _ (PySem.mem_of_lookup hy))
 ·exact Nat.le_of_lt (x.above y c (PySem.mem_of_lookup h))
 ·have hi:i<vs.length:=by
   unfold start at h2;by_cases hi:i<vs.length
   ·exact hi
   ·rw[ZI (by simpa using hi)] at h2
    rw[List.getElem?_replicate] at h2;split at h2<;>cases h2
  have ha:vs[i]?=some v:=by
   unfold start at h2;rw[ZF (by simpa using hi),ZH] at h2;cases e:vs[i]? with
   |none=>rw[e] at h2;cases h2
   |some a=>rw[e] at h2;cases h2;rfl
  obtain⟨u,hu,o⟩:=r.get ha;have hp:ps[i]?=some y:=by
   rw[←S.pre,List.getElem?_take_of_lt (by omega)];exact j
  have m:ps.Nodup:=by rw[←S.pre];exact S.nd.sublist (List.take_sublist _ _)
  refine⟨u,o,?_⟩;rcases S.par y (YW hp) with k | k
  ·exact .inl ⟨k,sD m hp hu k⟩
  ·obtain⟨c,e⟩:=uj (n:=s.heap.objs.size+1) k
   refine .inr ⟨.inl k,c,e,?_⟩;have q:=x.cell y c e;rw[sF m hp hu (by show scope.names.lookup y≠_;rw[k];decide)] at q;exact q
 ·exact d.hok.fresh (Nat.le_of_lt (x.above y c (PySem.mem_of_lookup h)))
 ·unfold start
  show _=N.length;rw[ZN,ZG,List.length_replicate];omega
theorem GX{CX:CXT}{P:ZS}{w:World}{K:Za}{mg:Zi}{base:Heap}{k:Nat}{f:Addr}{name l_:Str}{a:Arguments}{c:Zz}{scope:Scope}{B kV A_ pm x_ ct oc:Value}{an od:Zr}
  {Hl:Zs}{N ps:Zk}{sp:Sp}(G:K.lookup f=some ⟨oc,od,.func (PySem.W.fnOf name l_ a c scope B kV A_ pm an x_ ct),Hl⟩) (L:PySem.W.codeIn K x_ l_=true) (S:FnScope N ps scope)
  (len:∀vs H Q E,sp vs H Q E->vs.length=ps.length)
  (O:∀(A:Around) (outer:List Env) (s:Shared) (H:Hp) (vs:List V) (Q:VK) (E:XK),Room k (A.deeper (envOfC l_ scope s.heap.objs.size f x_))->sp vs H Q E ->
   ∃t,PSs (cxOf CX P w K mg base N l_ scope f x_ A outer s H E) c t/\t { nx:=λ_ H'=>Q .non H',rt:=Q } (start N vs) H):
  FnOk P w K mg base CX (k+1) f (PySem.W.fnOf name l_ a c scope B kV A_ pm an x_ ct) ps sp:=by
 refine⟨len,λA outer s H args us vs Q E l g hb r C=>?_⟩;have hl:=len _ _ _ _ C;have F:K.In s.heap:=g.mod.kin.keeps λb o e=>(g.bs b o e).1
 have m:s.heap.NoLimit:=g.mod.nolimit.keeps λb o e=>(g.bs b o e).1
 have R:∀y∈ps.zip us,scope.names.lookup y.1=some .local \/ (scope.names.lookup y.1=some .cell/\((cellsFrom (s.heap.objs.size+1) scope.names []).lookup y.1).isSome=true):=λ⟨n,v⟩ hy=>by
  rcases S.par n (List.of_mem_zip hy).1 with q | q
  ·exact .inl q
  ·exact .inr ⟨q,PySem.W.cellsFrom_some _ _ _ (.inl q)⟩
 refine codeAny_call_function l.depth (F _ _ G) rfl S.co S.gen rfl (PySem.W.codeRec_of F L) (hb _ _ _ _ ?_);refine wpAny_newFunctionEnv_cells S.kind R λenv T s1 x=>?_
 subst T;refine⟨m.keeps x.toInCall.keep,codeAny_func ?_⟩;obtain⟨t,ht,hq⟩:=O A outer s H vs Q E (l.deeper _) C;have I:Inv (cxOf CX P w K mg base N l_ scope f x_ A outer s H E) [] (start N vs) H s1:=zw S l.hd g hl r x;refine wpAny_mono (ht [] s1 (start N vs) H _ I hq) (λfl p d=>?_) λe p d=>d
 have fin:∀{j:St}{H':Hp}{v:V}{u:Value},Inv (cxOf CX P w K mg base N l_ scope f x_ A outer s H E) [] j H' p->RelV v u->Q v H'->CE outer P w H s Q u p:=
  λ{j H' v u} J z q=>⟨v,H',J.os,J.bare,J.base,J.hok,z,q⟩
 cases fl with
 |ret u=>
  obtain⟨v,j,H',J,z,q⟩:=d;exact fin J z q
 |next=>
  obtain⟨j,H',J,q⟩:=d;exact fin (v:=V.non) (u:=Value.none) J rfl q
 |brk=>
  obtain⟨_,_,_,q⟩:=d;exact Yh q
 |cont=>
  obtain⟨_,_,_,q⟩:=d;exact Yh q
section
variable {X:Cx}{x:Str}{p pos:Pos}{e:Expr}{es:Zl}{t:TA}{id T:String}{r:List V->Hp->VK->Prop}
def tCB(r:List V->Hp->VK->Prop)(t:TA):TE:=λσ H Q=>t σ H λvs a=>r vs a Q
theorem Be(hc:dr X (.builtin id) r)(hg:Gl X x)(hm:X.mg x=none)(a:bootBuiltins x=some (.builtin id))(ha:PA X (e::es) t)(hn:x ≠ "__name__":=by decide)(b:(x==("__debug__" : Str))=false:=by decide)
  (c:starEach (e::es) X.env=(false,eval e X.env)::starEach es X.env:=by rfl) (d:(backTo pos (starEach es X.env)).any (·.1)=false:=by rfl):PE X (.Call (.Name x p) (e::es) [] pos) (tCB r t):=by
 intro a_ s σ H Q I h;refine wpAny_Call_Name_kw (cK I hg hm a ?_ hn b);refine PyProof.Rows.callWith_builtin1 (thn (ha pos a_ s σ H _ I h) λus s1 f=>?_) c d;obtain⟨vs,g,j,k,l⟩:=f;exact hc a_ s1 σ g vs us Q j k l
theorem zx(hc:dr X (.type T) r)(hg:Gl X x)(hm:X.mg x=none)(a:bootBuiltins x=some (.type T))(ha:PA X (e::es) t)(hn:x ≠ "__name__":=by decide)(b:(x==("__debug__" : Str))=false:=by decide)
  (c:starEach (e::es) X.env=(false,eval e X.env)::starEach es X.env:=by rfl) (d:(backTo pos (starEach es X.env)).any (·.1)=false:=by rfl):PE X (.Call (.Name x p) (e::es) [] pos) (tCB r t):=by
 intro a_ s σ H Q I h;refine wpAny_Call_Name_kw (cK I hg hm a ?_ hn b);refine PyProof.Rows.callWith_type1 (thn (ha pos a_ s σ H _ I h) λus s1 f=>?_) c d;obtain⟨vs,g,j,k,l⟩:=f;exact hc a_ s1 σ g vs us Q j k l
end
end L2
namespace HT
open PySem PyProof.Rows
def lexLt:List Int->List Int->Bool
 |[],[]=>false
 |[],_::_=>true
 |_::_,[]=>false
 |x::xs,y::a=>if x=y then lexLt xs a else decide (x<y)
theorem lL(x y:Int)(xs a:Zn):lexLt (x::xs) (y::a)=if x=y then lexLt xs a else decide (x<y):=rfl
theorem my:lexLt [] []=false:=rfl
theorem rE(y:Int)(a:Zn):lexLt [] (y::a)=true:=rfl
theorem rG(x:Int)(xs:Zn):lexLt (x::xs) []=false:=rfl
theorem Bf(A:Around)(s:Shared)(a:Int)(t:Tok)(c:Int)(u:Tok):∃e,SeqAt.EqAt A s (.int a t) (.int c u) e/\(e=true↔a=c):=
 ⟨(a==c),SeqAt.EqAt.int_int a t c u,by simp⟩
theorem Bg(A:Around)(s:Shared)(a:Int)(t:Tok)(c:Int)(u:Tok)(prog:ZS)(w:World)(E:Zd)(Q:Zd)(h:Q (.bool (decide (a<c))) s):
  wpAny (model prog w) A (richCompare .Lt (.int a t) (.int c u)) Q E s:=
 (PyProof.Rows.lt_int h:wpAny (model prog w) A (compareOp .Lt (.int a t) (.int c u)) Q E s)
section
open PySem.SeqAt
open PySem.AutoSeq1 (wpAny_loadPart')
open PySem.MeetsSeq PySem.MeetsSeq2 PySem.MeetsSeq3
theorem tK(l b:Addr)(f j:Zq)(n E:Nat)(F G:Zr)(sl sl2:Zs)(ns o:Zn)(hi:IntsAre f.toList ns)(z:IntsAre j.toList o):
  Meets (Builtin.«tuple.__lt__» ⟨[.ref l,.ref b],[]⟩)
   (λ_ R s=>s.heap.get? l=some { cls:=.type "tuple",dict:=F,data:=.seq f n,slots:=sl }/\s.heap.get? b=some { cls:=.type "tuple",dict:=G,data:=.seq j E,slots:=sl2 } /\
    R (.ok (.ret (.bool (lexLt ns o)))) s):=
 .of_wp λprog w A R s h=>by
  obtain⟨hp,g,d,tk,os⟩:=s;obtain⟨hl,hb,h⟩:=h;have O:=AutoSeq1.sub_tuple_tuple;have P:f.size=ns.length:=by rw[←hi.length];simp
  have S:j.size=o.length:=by rw[←z.length];simp
  wp_walk using wpAny_loadPart' hl,wpAny_loadPart' hb,wpAny_forIn_list _ (λrest b r=>b.1=none/\r=⟨hp,g,d,tk,os⟩/\∃(vs p:Zh) (k m:Zn),rest=vs.zip p /\
   IntsAre vs k/\IntsAre p m/\k.length+j.size=m.length+f.size/\R (.ok (.ret (.bool (lexLt k m)))) ⟨hp,g,d,tk,os⟩) _
  case turn=>
   rintro⟨y,x⟩ rest b r ⟨F',rfl,vs,p,k,m,hz,hvi,hwi,o_,hR⟩;cases hvi with
   |nil=>rw[List.zip_nil_left] at hz;cases hz
   |cons a t I=>
    cases hwi with
    |nil=>rw[List.zip_nil_right] at hz;cases hz
    |cons c u J=>
     rw[List.zip_cons_cons] at hz;injection hz with hyx hrest
     injection hyx with hy hx
     subst hy hx;rw[lL] at hR;simp only[YM] at o_;obtain⟨e,K,B⟩:=Bf A.in1 ⟨hp,g,d,tk,os⟩ a t c u;refine Yb (K prog w _ _ ?_);cases e with
     |true=>
      rw[if_pos (B.mp rfl)] at hR;wp_walk;exact⟨rfl,rfl,_,_,_,_,hrest,I,J,by omega,hR⟩
     |false=>
      rw[if_neg (λq=>absurd (B.mpr q) YI)] at hR;have L:=Bg A.in1 ⟨hp,g,d,tk,os⟩ a t c u prog w;wp_walk using L;exact⟨_,rfl,by simpa using hR⟩
  case fin=>
   rintro⟨b1,b2⟩ r ⟨F',rfl,vs,p,k,m,hz,hvi,hwi,o_,hR⟩;simp only at F';subst F';have C:lexLt k m=decide (f.size<j.size):=by
    cases hvi with
    |nil=>
     cases hwi with
     |nil=>
      simp only[YX] at o_;rw[my];exact(ZT (by omega)).symm
     |cons c u hw=>
      simp only[YX,YM] at o_;rw[rE];exact(YY (by omega)).symm
    |cons a t C=>
     cases hwi with
     |nil=>
      simp only[YX,YM] at o_;rw[rG];exact(ZT (by omega)).symm
     |cons c u hw=>
      rw[List.zip_cons_cons] at hz;cases hz
   rw[C] at hR;wp_walk;exact⟨_,rfl,by simpa [Builtin.Tuple.tupleCompareSizes] using hR⟩
  case h=>
   exact⟨rfl,rfl,f.toList,j.toList,ns,o,rfl,hi,z,by omega,h⟩
end
section
variable {prog:ZS}{w:World}{A:Around}{E:Zd}{s:Shared}
theorem x5{l b:Addr}{c d:Zq}{ns a:Zn}{Q:Zd}(hl:IsTup s.heap l c)(hb:IsTup s.heap b d)(hi:IntsAre c.toList ns)(m:IntsAre d.toList a)
  (hu:A.units<cLine) (h:Q (.bool (lexLt ns a)) s):wpAny (model prog w) A (compareOp .Lt (.ref l) (.ref b)) Q E s:=by
 obtain⟨⟨cls,o,data,sl⟩,f,hc,n,hd⟩:=id hl;obtain⟨⟨t,p,data2,sl2⟩,g,j,r,k⟩:=id hb;simp only at hc hd j k;subst hc hd j k;exact richCompare_meets_room (op:=.Lt) ⟨_,f,rfl⟩ ⟨_,g,rfl⟩ PySem.F.slot_tuple_lt PySem.F.entry_tuple_lt (PySem.F.args_tuple_lt_2 _ _) (tK l b c d n r o p sl sl2 ns a hi m)
  ⟨f,g,show Value.bool (lexLt ns a)≠Value.notImplemented/\Q (.bool (lexLt ns a)) s from⟨(λx=>nomatch x),h⟩⟩ hu
theorem Ds{t b:Addr}{vs a:Zh}{Q:Zd}(ht:IsTup s.heap t vs.toArray)(hb:IsTup s.heap b a.toArray)(f:vs≠[])
  (o:a=[]->Q (.ref t) s) (h2:a≠[]->Q (.ref s.heap.objs.size) { s with heap:=s.heap.push { cls:=.type "tuple",data:=.seq (vs++a).toArray } })
  (hsz:vs.length+a.length<=sizeLine):wpAny (model prog w) A (binaryOp .Add (.ref t) (.ref b)) Q E s:=by
 obtain⟨⟨cls,g,data,sl⟩,c,hc,n,hd⟩:=id ht;obtain⟨⟨p,j,data2,sl2⟩,d,k,l,m⟩:=id hb;simp only at hc hd k m;subst hc hd k m;have e:vs.toArray++a.toArray=(vs++a).toArray:=by simp
 by_cases hw:a=[]
 ·exact concat_meets ⟨_,c,rfl⟩ ⟨_,d,rfl⟩ noFill_tuple_add seq_tuple_add PySem.F.slot_tuple_add PySem.F.entry_tuple_add (PySem.F.args_tuple_add_2 _ _)
   (tuple_addW1 t b vs.toArray a.toArray n l g j sl sl2 (by simpa using f) (by simp[hw])) ⟨c,d,o hw⟩
 ·refine concat_meets ⟨_,c,rfl⟩ ⟨_,d,rfl⟩ noFill_tuple_add seq_tuple_add PySem.F.slot_tuple_add PySem.F.entry_tuple_add (PySem.F.args_tuple_add_2 _ _)
   (tuple_addW2 t b vs.toArray a.toArray n l g j sl sl2 (by simpa using f) (by simpa using hw) (by rw[YL,YL];exact hsz)) ⟨c,d,?_⟩
  rw[e];exact h2 hw
def sIx(n d:Nat):Option Int->Nat
 |none=>d
 |some v=>if v<0 then(v+(n:Int)).toNat else min v.toNat n
theorem Bh(n d:Nat):sIx n d none=d:=rfl
theorem gw(n d k:Nat):sIx n d (some (k:Int))=min k n:=by
 show(if(k:Int)<0 then((k:Int)+(n:Int)).toNat else min (k:Int).toNat n)=min k n;rw[if_neg (by omega),YZ]
theorem zy(n d:Nat)(hd:d<=n)(o:Zv):sIx n d o<=n:=by
 cases o with
 |none=>exact hd
 |some v=>
  show(if v<0 then(v+(n:Int)).toNat else min v.toNat n)<=n;by_cases a:v<0
  ·rw[if_pos a];omega
  ·rw[if_neg a];exact Nat.min_le_right _ _
theorem wV(v:Int)(n d:Nat):(if v<0 then max (v+(n:Int)) 0 else min v (n:Int))=((sIx n d (some v):Nat):Int):=by
 show(if v<0 then max (v+(n:Int)) 0 else min v (n:Int))=(((if v<0 then(v+(n:Int)).toNat else min v.toNat n):Nat):Int);by_cases a:v<0
 ·simp only[if_pos a];omega
 ·simp only[if_neg a];omega
theorem x9(lo hi:Zv)(n:Nat):Builtin.Slice.sliceAdjust lo hi 1 (n:Int)=(((sIx n 0 lo:Nat):Int),((sIx n n hi:Nat):Int)):=by
 have a:¬((1:Int)<0):=by omega
 unfold Builtin.Slice.sliceAdjust;simp only[a,if_false];refine Prod.ext ?_ ?_
 ·cases lo with
  |none=>rfl
  |some v=>exact wV v n 0
 ·cases hi with
  |none=>rfl
  |some v=>exact wV v n n
theorem ya(i j:Nat):Builtin.Slice.slicePlaces (i:Int) (j:Int) 1=j-i:=by
 unfold Builtin.Slice.slicePlaces;have a:(1:Int)>0:=by omega
 simp only[a,if_true,Int.ediv_one];split<;>omega
theorem pR{v:Value}{o:Zv}{Q:Option Int->Shared->Prop}(p:IsPart v o)(h:Q o s):wpAny (model prog w) A (Builtin.Slice.slicePartIndex v) Q E s:=by
 cases p with
 |none=>exact slicePart_none h
 |int i t=>exact slicePart_int h
theorem jA{sl:Addr}{a b:Value}{lo hi:Zv}{n:Nat}{Q:Int×Int×Nat->Shared->Prop}(f:s.heap.IsSliceOf sl a b .none)(pl:IsPart a lo)(g:IsPart b hi)
  (h:Q (((sIx n 0 lo:Nat):Int),1,sIx n n hi-sIx n 0 lo) s):wpAny (model prog w) A (Builtin.Slice.sliceApplied (.ref sl) (pure (n:Int))) Q E s:=by
 obtain⟨os,c,j,d⟩:=id f;unfold Builtin.Slice.sliceApplied Builtin.Slice.sliceFields;refine Yb (Yb (wpAny_field c d (x:=a) rfl (Yb (wpAny_field c d (x:=b) rfl (Yb (wpAny_field c d (x:=.none) rfl (Yc ?_)))))));refine Yb (slicePart_none ?_);show wpAny _ _ (if((1:Int)==0)=true then _ else _) _ _ s;rw[if_neg (by decide)];refine Yb (pR pl (Yb (pR g (Yb (Yc ?_)))));show wpAny _ _ (match Builtin.Slice.sliceAdjust lo hi 1 (n:Int) with | (lo,hi)=>pure (lo,(1:Int),Builtin.Slice.slicePlaces lo hi 1)) _ _ s;rw[x9 lo hi n];show wpAny _ _ (pure (((sIx n 0 lo:Nat):Int),(1:Int),Builtin.Slice.slicePlaces ((sIx n 0 lo:Nat):Int) ((sIx n n hi:Nat):Int) 1)) _ _ s;rw[ya];exact Yc h
theorem Bj(xs:Zq)(i k:Nat):((List.range k).filterMap λ(m:Nat)=>xs[((i:Int)+(m:Int)*1).toNat]?).toArray=((xs.toList.drop i).take k).toArray:=by
 have e:(λ(m:Nat)=>xs[((i:Int)+(m:Int)*1).toNat]?)=λm=>xs[i+m]?:=by
  funext m;have:((i:Int)+(m:Int)*1).toNat=i+m:=by omega
  rw[this]
 rw[e]
 have:=pick_run xs i k
 rw[List.filterMap_map] at this;have e2:((λx=>xs[x]?)∘λx=>i+x)=λm=>xs[i+m]?:=rfl
 rw[e2] at this;rw[this]
theorem oG{t sl:Addr}{a:Zq}{c d:Value}{lo hi:Zv}{Q:Zd}(ht:IsTup s.heap t a)(f:s.heap.IsSliceOf sl c d .none)(pl:IsPart c lo)(g:IsPart d hi)
  (hw:¬(sIx a.size 0 lo=0/\sIx a.size a.size hi=a.size))
  (h:Q (.ref s.heap.objs.size) { s with heap:=s.heap.push { cls:=.type "tuple",data:=.seq ((a.toList.drop (sIx a.size 0 lo)).take (sIx a.size a.size hi-sIx a.size 0 lo)).toArray } })
  (hsz:a.size<=sizeLine):wpAny (model prog w) A (getItem (.ref t) (.ref sl)) Q E s:=by
 have b:sizeOk (.seq ((a.toList.drop (sIx a.size 0 lo)).take (sIx a.size a.size hi-sIx a.size 0 lo)).toArray):=by
  show((a.toList.drop (sIx a.size 0 lo)).take (sIx a.size a.size hi-sIx a.size 0 lo)).toArray.size<=sizeLine;rw[YL,YV,XA,YH];omega
 have o:sIx a.size a.size hi<=a.size:=zy _ _ (YJ _) hi;obtain⟨os,j,k,p⟩:=id f;have l:s.TypeIs (.ref sl) "slice":=⟨os,j,k⟩;unfold getItem;try with_reducible refine Yj ?_
 first | refine Yb (Yc ?_) | skip
 refine Yb (wpAny_sequenceKey ht.typeIs (by decide) ?_);refine Yb (wpAny_callSpecial?_slot (name:=Str.ofString "__getitem__") ht.typeIs PyProof.Rows.slot_tuple_getitem
  (wpAny_call_entry PyProof.Rows.slot_tuple_getitem ht.typeIs entry_tuple_getitem ?_ (args_tuple_getitem _ _)))
 show wpAny _ _ (Builtin.Tuple.tupleItemsOf (.ref t) >>= _) _ _ s;refine Yb (tupleItemsOf_ ht ?_);refine Yb (wpAny_typeOf l ?_);rw[if_pos (by decide)];refine Yb (jA f pl g ?_);have n:¬((((sIx a.size 0 lo:Nat):Int)==0&&(1:Int)==1&&(sIx a.size a.size hi-sIx a.size 0 lo)==a.size)=true):=by
  intro q;rw[XB,XB] at q;have r:((sIx a.size 0 lo:Nat):Int)=0:=eq_of_beq q.1.1;have u:sIx a.size a.size hi-sIx a.size 0 lo=a.size:=eq_of_beq q.2;exact hw ⟨by omega,by omega⟩
 show wpAny _ _ (if(((sIx a.size 0 lo:Nat):Int)==0&&(1:Int)==1&&(sIx a.size a.size hi-sIx a.size 0 lo)==a.size)=true then _ else _) _ _ s;rw[if_neg n,Bj];first
  |exact Yb (m:=Builtin.Tuple.tupleExact _) (wpAny_newObj_type (Yc ⟨_,rfl,Yc h⟩) b)
  |exact Yb (m:=Builtin.Tuple.tupleExact _) (wpAny_newObj_type (Yb (Yc (Yc ⟨_,rfl,Yc h⟩))) b)
  |exact Yb (Yb (m:=Builtin.Tuple.tupleExact _) (wpAny_newObj_type (Yc (Yc ⟨_,rfl,Yc h⟩)) b))
  |exact Yb (Yb (m:=Builtin.Tuple.tupleExact _) (wpAny_newObj_type (Yc ⟨_,rfl,Yc h⟩) b))
end
end HT
namespace L2
open PySem PySem.Spec PyProof.Rows
abbrev TO:=St->Hp->(Option Int->Hp->Prop)->Prop
def PO(X:Cx)(e:Option Expr)(t:TO):Prop:=
 ∀(a_:Zg) (s:Shared) (σ:St) (H:Hp) (Q:Option Int->Hp->Prop),Inv X a_ σ H s->t σ H Q ->
  wpAny (model X.prog X.w) X.A (evalPart e X.env) (λu a=>∃o H',Inv X a_ σ H' a/\IsPart u o/\Q o H') X.xe s
def Dt:TO:=λ_ H Q=>Q none H
def GY(t:TE):TO:=λσ H Q=>t σ H λx a=>∃i,x=.int i/\Q (some i) a
theorem intsAre_of{ns:Zn}:∀{us:Zh},Vals (ns.map V.int) us->IntsAre us ns:=by
 induction ns with
 |nil=>intro us r;rw[XC] at r;cases r;exact .nil
 |cons n ns a=>
  intro us r;rw[YO] at r;cases r with
  |cons b c=>
   obtain⟨t,e⟩:=b;subst e;exact .cons n t (a c)
section
variable {X:Cx}{e:Expr}{te:TE}{lo hi:Option Expr}{tl th:TO}{pos p2:Pos}
theorem Du:PO X none Dt:=by
 intro a_ s σ H Q I h;rw[evalPart_none];exact Yc ⟨none,H,I,.none,h⟩
theorem wW(h:PE X e te):PO X (some e) (GY te):=by
 intro a_ s σ H Q I hw;rw[evalPart_some];refine thn (h a_ s σ H _ I hw) λu s1 a=>?_
 obtain⟨x,b,c,d,f⟩:=a;obtain⟨i,rfl,q⟩:=f;obtain⟨t,rfl⟩:=d;exact⟨some i,b,c,.int i t,q⟩
def SlR(X:Cx)(r:V->Option Int->Option Int->Hp->VK->Prop):Prop:=
 ∀(a_:Zg) (s:Shared) (σ:St) (H:Hp) (x:V) (v a b:Value) (lo hi:Zv) (sl:Addr) (Q:VK),Inv X a_ σ H s->RelV x v->s.heap.IsSliceOf sl a b .none->IsPart a lo->IsPart b hi->r x lo hi H Q ->
  ∃T id,typeLookup (.type T) "__getitem__" = pure (some (.builtin id))/\s.TypeIs v T/\wpAny (model X.prog X.w) X.A (getItem v (.ref sl)) (EP X a_ σ Q) X.xe s
def tSl(r:V->Option Int->Option Int->Hp->VK->Prop)(te:TE)(tl th:TO):TE:=λσ H Q=>te σ H λx a=>tl σ a λl b=>th σ b λu c=>r x l u c Q
theorem Bl{r:V->Option Int->Option Int->Hp->VK->Prop}(g:SlR X r)(j:PE X e te)(hl:PO X lo tl)(hu:PO X hi th):PE X (.Subscript e (.Slice lo hi none p2) pos) (tSl r te tl th):=by
 intro a_ s σ H Q I h;refine Subscript_ (thn (j a_ s σ H _ I h) λv s1 k=>?_);obtain⟨x,m,n,o,p⟩:=k;refine wpAny_Slice (thn (hl a_ s1 σ m _ n p) λc s2 t=>?_);obtain⟨l,y,z,pl,B⟩:=t;refine thn (hu a_ s2 σ y _ z B) λd a C=>?_
 obtain⟨u,f,E,F,G⟩:=C;rw[evalPart_none];refine Yc ?_;have J:Inv X a_ σ f { a with heap:=a.heap.push { cls:=.type "slice",data:=.fields #[c,d,.none] } }:=E.kept (t':=a.toks) λb L q=>Yd _ q
 obtain⟨T,id,K,ht,hg⟩:=g a_ { a with heap:=a.heap.push { cls:=.type "slice",data:=.fields #[c,d,.none] } } σ f x v c d l u a.heap.objs.size Q J o (Heap.IsSliceOf.new ..) pl F G;show wpAny (model X.prog X.w) X.A (subscriptTail e (.Slice lo hi none p2) v (.ref a.heap.objs.size)) (EP X a_ σ Q) X.xe { a with heap:=a.heap.push { cls:=.type "slice",data:=.fields #[c,d,.none] } };exact tail_any (ops:=[.ref a.heap.objs.size,v]) ht K hg (by with_unfolding_all rfl)
def cutV(xs:List V)(lo hi:Zv):List V:=(xs.drop (HT.sIx xs.length 0 lo)).take (HT.sIx xs.length xs.length hi-HT.sIx xs.length 0 lo)
theorem kH(xs:List V)(lo hi:Zv):(cutV xs lo hi).length<=xs.length:=by
 unfold cutV;rw[YV,XA];omega
def rSlT(K:Za):V->Option Int->Option Int->Hp->VK->Prop:=λx lo hi H Q=>∃a xs,x=.ref a/\SqT K H a xs /\
 ¬(HT.sIx xs.length 0 lo=0/\HT.sIx xs.length xs.length hi=xs.length)/\∀p,H p=none->Q (.ref p) (upd H p (.tup (cutV xs lo hi)))
theorem Fw:SlR X (rSlT X.K):=by
 intro a_ s σ H x v j k lo hi sl Q I d f pl g h;obtain⟨a,xs,rfl,hx,hw,q⟩:=h;cases d;obtain⟨d_,r,ht,hz⟩:=I.tuple hx;have c:d_.toArray.size=xs.length:=by rw[YL];exact r.length.symm
 refine⟨"tuple",_,PyProof.Rows.slot_tuple_getitem.lookup,ht.typeIs,?_⟩;refine HT.oG ht f pl g (by rw[c];exact hw) ?_ (by rw[c];exact hz);rw[c];refine⟨.ref s.heap.objs.size,_,I.laid (t':=s.toks) (o:=.tup (cutV xs lo hi)) (λb l q=>Yd _ q) (YJ _) ?_,rfl,q _ (I.hok.fresh (YJ _))⟩;exact⟨YA (kH xs lo hi) hz,_,(r.drop (HT.sIx xs.length 0 lo)).take (HT.sIx xs.length xs.length hi-HT.sIx xs.length 0 lo),IsTup.new _ _⟩
def GZ(K:Za):R2:=λx y H Q=>∃a b xs c,x=.ref a/\y=.ref b/\SqT K H a xs/\SqT K H b c/\xs≠[]/\xs.length+c.length<=sizeLine /\
 (c=[]->Q (.ref a) H)/\(c≠[]->∀p,H p=none->Q (.ref p) (upd H p (.tup (xs++c))))
theorem Vals.nil_iff{xs:List V}{us:Zh}(r:Vals xs us):us=[]↔xs=[]:=by
 cases r with
 |nil=>simp
 |cons _ _=>simp
theorem Dv:OpR X (binaryOp .Add) (GZ X.K):=by
 intro a_ s σ H x y v u Q I f g h;obtain⟨a,b,xs,j,rfl,rfl,ha,hb,hx,hz,k,l⟩:=h;cases f;cases g;obtain⟨d_,d,p1,_⟩:=I.tuple ha;obtain⟨m,c,p2,_⟩:=I.tuple hb;refine HT.Ds p1 p2 (λz=>hx (d.nil_iff.mp z)) (λz=>⟨.ref a,H,I,rfl,k (c.nil_iff.mp z)⟩) (λz=>?_) (by rw[←d.length,←c.length];exact hz);refine⟨.ref s.heap.objs.size,_,I.laid (t':=s.toks) (o:=.tup (xs++j)) (λb n q=>Yd _ q) (YJ _) ?_,rfl,l (λw=>z (c.nil_iff.mpr w)) _ (I.hok.fresh (YJ _))⟩;exact⟨by rw[ZN];exact hz,_,d.append c,IsTup.new _ _⟩
end
def ixN(n:Nat)(i:Int):Option Nat:=if 0<=i then(if i<n then some i.toNat else none) else if -(n:Int)<=i then some (i+n).toNat else none
def atI{a:Type}(xs:List a)(i:Int):Option a:=(ixN xs.length i).bind λj=>xs[j]?
theorem wX{n:Nat}{i:Int}{j:Nat}(h:ixN n i=some j):seqIndex? i n=some j/\j<n/\-(n:Int)<=i/\i<n:=by
 unfold ixN at h;by_cases b:0<=i
 ·rw[if_pos b] at h
  by_cases a:i<n
  ·rw[if_pos a] at h
   have e:i.toNat=j:=Yi h;exact⟨by rw[seqIndex_of b a,e],by omega,by omega,a⟩
  ·rw[if_neg a] at h;cases h
 ·rw[if_neg b] at h
  by_cases a:-(n:Int)<=i
  ·rw[if_pos a] at h
   have e:(i+n).toNat=j:=Yi h;exact⟨by rw[seqIndex_neg (by omega) a,e],by omega,a,by omega⟩
  ·rw[if_neg a] at h;cases h
theorem rH{a:Type}{xs:List a}{i:Int}{v:a}(h:atI xs i=some v):∃j,seqIndex? i xs.length=some j/\xs[j]?=some v/\j<xs.length/\-(xs.length:Int)<=i/\i<xs.length:=by
 unfold atI at h;cases e:ixN xs.length i with
 |none=>rw[e] at h;cases h
 |some j=>
  rw[e] at h;obtain⟨b,h2,c,d⟩:=wX e;exact⟨j,b,h,h2,c,d⟩
theorem dv{a:Type}{xs:List a}{j:Nat}{v:a}(h:xs[j]?=some v):atI xs (j:Int)=some v:=by
 have b:j<xs.length:=(YG.mp h).1;have e:ixN xs.length (j:Int)=some j:=by
  unfold ixN;rw[if_pos (by omega),if_pos (by omega)];simp
 unfold atI;rw[e];exact h
theorem Bm{a:Type}(xs:List a)(v:a):atI (xs++[v]) (-1)=some v:=by
 have hl:(xs++[v]).length=xs.length+1:=by simp
 have e:ixN (xs++[v]).length (-1)=some xs.length:=by
  unfold ixN;rw[hl,if_neg (by decide),if_pos (by omega)];congr 1;omega
 unfold atI;rw[e];show(xs++[v])[xs.length]?=some v;simp
def wY(b:Expr):Prop:=∀o i,subscripted b false o i=operate [o,i] (getItem o i)
def IxR(X:Cx)(r:R2):Prop:=
 ∀(b a:Expr) (a_:Zg) (s:Shared) (σ:St) (H:Hp) (x y:V) (v u:Value) (Q:VK),Inv X a_ σ H s->RelV x v->RelV y u->r x y H Q ->
  subscripted a false v u=operate [v,u] (getItem v u)->wpAny (model X.prog X.w) X.A (subscriptTail b a v u) (EP X a_ σ Q) X.xe s
def MtR(X:Cx)(id:String)(r:V->List V->Hp->VK->Prop):Prop:=
 ∀(a_:Zg) (s:Shared) (σ:St) (H:Hp) (x:V) (xs:List V) (v:Value) (us:Zh) (Q:VK),Inv X a_ σ H s->RelV x v->Vals xs us->r x xs H Q ->
  wpAny (model X.prog X.w) X.A (call (.builtin id) (v::us)) (EP X a_ σ Q) X.xe s
section
variable {X:Cx}{a b:Expr}{ta tb:TE}{pos:Pos}
theorem G0{r:R2}(c:IxR X r)(ha:PE X a ta)(hb:PE X b tb)(d:wY b):PE X (.Subscript a b pos) (tOp r ta tb):=by
 intro a_ s σ H Q I h;exact Subscript_ (binT ha hb I h λv u s2 x y f g j k q=>c a b a_ s2 σ f x y v u Q g j k q (d _ _))
def rIxL(K:Za):R2:=λx y H Q=>∃p xs i v,x=.ref p/\y=.int i/\SqL K H p xs/\atI xs i=some v/\Q v H
def rIxT(K:Za):R2:=λx y H Q=>∃p xs i v,x=.ref p/\y=.int i/\SqT K H p xs/\atI xs i=some v/\Q v H
def rIxS:R2:=λx y H Q=>∃z i c,x=.str z/\y=.int i/\z.length<=sizeLine/\atI z.cps.toList i=some c/\Q (.str ⟨#[c]⟩) H
theorem wZ:IxR X (rIxL X.K):=by
 intro d f a_ s σ H x y v u Q I n o h k;obtain⟨p,xs,i,z,rfl,rfl,hq,A,q⟩:=h;cases n;obtain⟨t,rfl⟩:=o;obtain⟨d_,r,pl,hz⟩:=I.list hq;obtain⟨j,c,h2,G,B,C⟩:=rH A;obtain⟨w,l,E⟩:=r.get h2;have hl:=r.length;have hn:=jz;have fin:EP X a_ σ Q w s:=⟨z,H,I,E,q⟩;by_cases m:0<=i
 ·have g:i.toNat=j:=by
   rw[seqIndex_of m C] at c;exact Yi c
  exact item_listR pl.isList m (by omega) (by rw[g];simpa using l) fin k
 ·have g:(i+(d_.toArray.size:Int)).toNat=j:=by
   rw[seqIndex_neg (by omega) B] at c;rw[YL,←hl];exact Yi c
  exact subscriptTail_builtinR (x:=w) pl.isList.typeIs slot_list_getitem.lookup
   (wpAny_getItem_list_neg (Q:=λr F=>r=w/\EP X a_ σ Q r F) pl.isList (by omega) (by rw[YL]<;>omega) (by omega) (by rw[g];simpa using l) ⟨rfl,fin⟩) k
theorem Fx:IxR X (rIxT X.K):=by
 intro c d a_ s σ H x y v u Q I f g h k;obtain⟨p,xs,i,z,rfl,rfl,hq,l,q⟩:=h;cases f;obtain⟨t,rfl⟩:=g;obtain⟨d_,r,pl,hz⟩:=I.tuple hq;obtain⟨j,m,h2,B,C,E⟩:=rH l;obtain⟨w,n,o⟩:=r.get h2;have hl:=r.length;have hn:=jz;have fin:EP X a_ σ Q w s:=⟨z,H,I,o,q⟩;exact subscriptTail_builtinR (x:=w) pl.typeIs slot_tuple_getitem.lookup
  (getItem_tuple (j:=j) (Q:=λr A=>r=w/\EP X a_ σ Q r A) pl (by omega) (by omega) (by rw[YL,←hl];exact m) (by simpa using n) ⟨rfl,fin⟩) k
theorem Fy:IxR X rIxS:=by
 intro d f a_ s σ H x y v u Q I k l h m;obtain⟨z,i,c,rfl,rfl,hz,n,q⟩:=h;obtain⟨t,rfl⟩:=k;obtain⟨t',rfl⟩:=l;obtain⟨j,g,h2,r,o,p⟩:=rH n;have hl:z.cps.toList.length=z.length:=by simp[Str.length]
 rw[hl] at g o p;have hn:=jz;exact tail_any (typeIs_str s z t) slot_str_getitem.lookup (getItem_str (c:=c) (by
  have e1:decide (i < -(2 ^ 63:Int))=false:=ZT (by omega);have e2:decide (i>=2 ^ 63)=false:=ZT (by omega);rw[e1,e2,Bool.or_false]) (by rw[g];simpa using h2) ⟨.str ⟨#[c]⟩,H,I.tok _,⟨_,rfl⟩,q⟩) m
theorem yb(d_:Zh)(n j:Nat)(u:Value):Obj.mapSeq (·.setIfInBounds j u) { cls:=.type "list",data:=.seq d_.toArray n }={ cls:=.type "list",data:=.seq (d_.set j u).toArray n }:=by
 simp[Obj.mapSeq]
theorem Inv.lst{a_:Zg}{σ:St}{H:Hp}{s:Shared}{p:Addr}{xs:List V}(I:Inv X a_ σ H s)(h:H p=some (.lst xs)):
  ∃(d_:Zh) (n:Nat),Vals xs d_/\s.heap.get? p=some { cls:=.type "list",data:=.seq d_.toArray n }/\xs.length<=sizeLine:=by
 obtain⟨z,d_,n,r,e⟩:=I.hok p _ h;exact⟨d_,n,r,e,z⟩
theorem Inv.lstUpd{a_:Zg}{σ:St}{H:Hp}{s:Shared}{p:Addr}{xs c:List V}{d_ p_:Zh}{n n':Nat}{f:Obj->Obj}(I:Inv X a_ σ H s)(h:H p=some (.lst xs))
  (d:s.heap.get? p=some { cls:=.type "list",data:=.seq d_.toArray n }) (hf:f { cls:=.type "list",data:=.seq d_.toArray n }={ cls:=.type "list",data:=.seq p_.toArray n' }) (r:Vals c p_) (hz:c.length<=sizeLine) (t:Nat):
  Inv X a_ σ (upd H p (.lst c)) { s with heap:=s.heap.update p f,toks:=t }:=by
 have e:(s.heap.update p f).get? p=some { cls:=.type "list",data:=.seq p_.toArray n' }:=by
  rw[Heap.get?_update_self f d (by rw[hf]<;>rfl),hf]
 refine I.write (x:=p) (e:=p) (by rw[h];trivial) (.inl rfl) (λb u hb q=>(Heap.get?_update_other _ _ (Ne.symm hb)).trans q) ⟨_,e⟩ ?_;exact⟨hz,p_,n',r,e⟩
def G1:V->V->V->Hp->(Hp->Prop)->Prop:=λo i v H Q=>∃p xs k j,o=.ref p/\i=.int k/\H p=some (.lst xs)/\ixN xs.length k=some j/\Q (upd H p (.lst (xs.set j v)))
theorem set_list:PSet X G1:=by
 intro a_ s σ H o i v B C u Q I w y z h;obtain⟨p,xs,k,j,rfl,rfl,hp,A,q⟩:=h;cases w;obtain⟨t,rfl⟩:=y;obtain⟨d_,n,r,d,hz⟩:=I.lst hp;obtain⟨c,h2,f,g⟩:=wX A;have hl:=r.length;have hn:=jz;have l:Inv X a_ σ (upd H p (.lst (xs.set j v))) { s with heap:=s.heap.update p (Obj.mapSeq (·.setIfInBounds j u)) }:=
  I.lstUpd hp d (yb d_ n j u) (r.set z j) (by rw[List.length_set];exact hz) s.toks
 by_cases m:0<=k
 ·have hk:k.toNat=j:=by
   rw[seqIndex_of m g] at c;exact Yi c
  exact PySem.W.ki_setAt d m (by omega) (by rw[YL,←hl];exact g) (by rw[hk];exact⟨_,l,q⟩)
 ·have hk:(k+(d_.toArray.size:Int)).toNat=j:=by
   rw[seqIndex_neg (by omega) f] at c;rw[YL,←hl];exact Yi c
  exact PySem.W.ki_setBack d (by omega) (by rw[YL,←hl];exact f) (by omega) (by rw[hk];exact⟨_,l,q⟩)
theorem uk(lo hi:Zv)(n:Nat):(sliceBounds lo hi none n).1=((HT.sIx n 0 lo:Nat):Int)/\(sliceBounds lo hi none n).2.1=((HT.sIx n n hi:Nat):Int)/\(sliceBounds lo hi none n).2.2=1:=by
 refine⟨?_,?_,rfl⟩
 ·cases lo with
  |none=>simp[sliceBounds,HT.sIx]
  |some i=>
   simp only[sliceBounds,HT.sIx,Option.getD_none,show(1:Int)>0 by decide,if_true];by_cases h:i<0
   ·simp only[h,if_true]<;>omega
   ·simp only[h,if_false]<;>omega
 ·cases hi with
  |none=>simp[sliceBounds,HT.sIx]
  |some i=>
   simp only[sliceBounds,HT.sIx,Option.getD_none,show(1:Int)>0 by decide,if_true];by_cases h:i<0
   ·simp only[h,if_true]<;>omega
   ·simp only[h,if_false]<;>omega
theorem tL(d_:Zh)(lo hi:Zv):slicePick d_.toArray lo hi none=((d_.drop (HT.sIx d_.length 0 lo)).take (HT.sIx d_.length d_.length hi-HT.sIx d_.length 0 lo)).toArray:=by
 obtain⟨c,h2,d⟩:=uk lo hi d_.toArray.size;unfold slicePick;rw[c,h2,d];simp only[sliceRange_one,pick_run,YL]<;>rfl
def rSlL(K:Za):V->Option Int->Option Int->Hp->VK->Prop:=λx lo hi H Q=>∃a xs,x=.ref a/\SqL K H a xs/\∀p,H p=none->Q (.ref p) (upd H p (.lst (cutV xs lo hi)))
theorem Dw:SlR X (rSlL X.K):=by
 intro a_ s σ H x v j k lo hi sl Q I c d pl f h;obtain⟨a,xs,rfl,hx,q⟩:=h;cases c;obtain⟨d_,r,ht,hz⟩:=I.list hx;have g:=r.length;refine⟨"list",_,slot_list_getitem.lookup,ht.isList.typeIs,?_⟩;refine wpAny_getItem_list_slice ht.isList d pl f .none (by simp) ?_ (by rw[YL]<;>omega);rw[tL,←g];refine⟨.ref s.heap.objs.size,_,I.laid (t':=s.toks) (o:=.lst (cutV xs lo hi)) (λb l q=>Yd _ q) (YJ _) ?_,rfl,q _ (I.hok.fresh (YJ _))⟩;exact⟨YA (kH xs lo hi) hz,_,0,(r.drop (HT.sIx xs.length 0 lo)).take (HT.sIx xs.length xs.length hi-HT.sIx xs.length 0 lo),Yg _ rfl⟩
def yc:V->Bool
 |.non=>true
 |.bl _=>true
 |.int _=>true
 |.str _=>true
 |_=>false
def eqV:V->V->Bool
 |.non,.non=>true
 |.bl a,.bl b=>a==b
 |.bl a,.int b=>(if a then 1 else 0)==b
 |.int a,.bl b=>a==(if b then 1 else 0)
 |.int a,.int b=>a==b
 |.str a,.str b=>a==b
 |_,_=>false
theorem zz{A:Around}{s:Shared}{y x:V}{u v:Value}(d:RelV y u)(c:RelV x v)(g:yc y=true)(f:yc x=true):SeqAt.EqAt A s u v (eqV y x):=by
 cases y with
 |non=>
  cases d;cases x with
  |non=>cases c;exact SeqAt.EqAt.same _
  |bl b=>cases c;exact SeqAt.EqAt.none_bool b
  |int b=>obtain⟨t,rfl⟩:=c;exact SeqAt.EqAt.none_int b t
  |str b=>obtain⟨t,rfl⟩:=c;exact SeqAt.EqAt.none_str b t
  |_=>exact absurd (show false=true from f) YI
 |bl a=>
  cases d;cases x with
  |non=>cases c;exact SeqAt.EqAt.bool_none a
  |bl b=>cases c;exact SeqAt.EqAt.bool_bool a b
  |int b=>obtain⟨t,rfl⟩:=c;exact SeqAt.EqAt.bool_int a b t
  |str b=>obtain⟨t,rfl⟩:=c;exact SeqAt.EqAt.bool_str a b t
  |_=>exact absurd (show false=true from f) YI
 |int a=>
  obtain⟨t',rfl⟩:=d;cases x with
  |non=>cases c;exact SeqAt.EqAt.int_none a t'
  |bl b=>cases c;exact SeqAt.EqAt.int_bool a t' b
  |int b=>obtain⟨t,rfl⟩:=c;exact SeqAt.EqAt.int_int a t' b t
  |str b=>obtain⟨t,rfl⟩:=c;exact SeqAt.EqAt.int_str a t' b t
  |_=>exact absurd (show false=true from f) YI
 |str a=>
  obtain⟨t',rfl⟩:=d;cases x with
  |non=>cases c;exact SeqAt.EqAt.str_none a t'
  |bl b=>cases c;exact SeqAt.EqAt.str_bool a t' b
  |int b=>obtain⟨t,rfl⟩:=c;exact SeqAt.EqAt.str_int a t' b t
  |str b=>obtain⟨t,rfl⟩:=c;exact SeqAt.EqAt.str_str a t' b t
  |_=>exact absurd (show false=true from f) YI
 |_=>exact absurd (show false=true from g) YI
theorem jB:dr X (.builtin "len") (λxs H Q=>∃p c,xs=[.ref p]/\(SqL X.K H p c\/SqT X.K H p c)/\Q (.int c.length) H):=by
 intro a_ s σ H xs us Q I r h;obtain⟨p,c,rfl,hq,q⟩:=h;obtain⟨u,rfl,g⟩:=vals1 r;cases g;have hn:=jz;rcases hq with hq | hq
 ·obtain⟨d_,d,pl,hz⟩:=I.list hq
  have f:=d.length;exact Calls.call_len_list pl.isList (by simp only[YL]<;>omega) ⟨.int c.length,H,I.tok _,⟨s.toks+1,by rw[YL,f]⟩,q⟩
 ·obtain⟨d_,d,pl,hz⟩:=I.tuple hq
  have f:=d.length;exact len_tuple pl (by simp only[YL]<;>omega) ⟨.int c.length,H,I.tok _,⟨s.toks+1,by rw[YL,f]⟩,q⟩
theorem ul:dr X (.builtin "len") (λxs H Q=>∃z,xs=[.str z]/\z.length<=sizeLine/\Q (.int z.length) H):=by
 intro a_ s σ H xs us Q I r h;obtain⟨z,rfl,hz,q⟩:=h;obtain⟨u,rfl,t,rfl⟩:=vals1 r;have hn:=jz;exact len_str (by omega) ⟨.int z.length,H,I.tok _,⟨_,rfl⟩,q⟩
theorem mX:dr X (.type "list") (λxs H Q=>∃p c,xs=[.ref p]/\(SqL X.K H p c\/SqT X.K H p c)/\∀l,H l=none->Q (.ref l) (upd H l (.lst c))):=by
 intro a_ s σ H xs us Q I r h;obtain⟨p,c,rfl,hq,q⟩:=h;obtain⟨u,rfl,j⟩:=vals1 r;cases j;have fin:∀(d_:Zh),Vals c d_->c.length<=sizeLine->∀(h':Heap) (d:Nat),(∀b o',s.heap.get? b=some o'->h'.get? b=some o') ->
   h'.get? s.heap.objs.size=some { cls:=.type "list",dict:=none,data:=.seq d_.toArray d,slots:=#[] }->EP X a_ σ Q (.ref s.heap.objs.size) { s with heap:=h' }:=λd_ f hz h' d kp e=>
  ⟨.ref s.heap.objs.size,_,I.laid (t':=s.toks) kp (YJ _) (show aQ X.prog X.w _ h' _ (.lst c) from⟨hz,d_,d,f,e⟩),rfl,q _ (I.hok.fresh (YJ _))⟩
 rcases hq with hq | hq
 ·obtain⟨d_,f,pl,hz⟩:=I.list hq
  have k:=f.length;obtain⟨o,g,hc,n,hd⟩:=pl.isList;exact call_list_seq p (.inl rfl) g hc hd (λh' d kp e=>fin d_ f hz h' d kp e) (by simp only[YL]<;>omega)
 ·obtain⟨d_,f,pl,hz⟩:=I.tuple hq
  have k:=f.length;obtain⟨o,g,hc,n,hd⟩:=pl;exact call_list_seq p (.inr rfl) g hc hd (λh' d kp e=>fin d_ f hz h' d kp e) (by simp only[YL]<;>omega)
theorem mz:dr X (.type "tuple") (λxs H Q=>∃p c,xs=[.ref p]/\((SqL X.K H p c/\∀l,H l=none->Q (.ref l) (upd H l (.tup c)))\/(SqT X.K H p c/\Q (.ref p) H))):=by
 intro a_ s σ H xs us Q I r h;obtain⟨p,c,rfl,h⟩:=h;obtain⟨u,rfl,g⟩:=vals1 r;cases g;rcases h with⟨hq,q⟩ | ⟨hq,q⟩
 ·obtain⟨d_,d,pl,hz⟩:=I.list hq
  have k:=d.length;refine call_tuple_list pl.isList (λh' kp=>?_) (by simp only[YL]<;>omega);have f:Inv X a_ σ H { s with heap:=h' }:=I.kept (t':=s.toks) kp;have j:Inv X a_ σ (upd H h'.objs.size (.tup c)) { s with heap:=h'.push { cls:=.type "tuple",data:=.seq d_.toArray } }:=
   f.laid (t':=s.toks) (λb o e=>Yd _ e) (YJ _) (show aQ X.prog X.w _ _ _ (.tup c) from⟨hz,d_,d,IsTup.new _ _⟩)
  exact⟨.ref h'.objs.size,_,j,rfl,q _ (f.hok.fresh (YJ _))⟩
 ·obtain⟨d_,d,pl,hz⟩:=I.tuple hq
  exact call_tuple_same pl ⟨.ref p,H,I,rfl,q⟩
def tyV(K:Za)(T:String)(x:V)(H:Hp):Prop:=match x with
 |.str _=>T = "str"
 |.int _=>T = "int"
 |.ref p=>(T = "list"/\∃xs,SqL K H p xs)\/(T = "tuple"/\∃o,K.lookup p=some o/\o.cls=.type "tuple"/\o.dict=none) \/
   (T = "dict"/\((∃c,H p=some (.dK c)) \/ ∃c,H p=some (.dT c)))\/(T = "set"/\∃S n,H p=some (.set S n))
 |_=>False
theorem zA{a_:Zg}{σ:St}{H:Hp}{s:Shared}{T:String}{x:V}{v:Value}(I:Inv X a_ σ H s)(r:RelV x v)(ty:tyV X.K T x H):
  s.TypeIs v T/\∀a,v=.ref a->∃d,s.heap.get? a=some d/\d.dict=none:=by
 cases x with
 |str z=>
  obtain⟨t,rfl⟩:=r;cases(show T = "str" from ty);exact⟨typeIs_str s z t,λ_ e=>nomatch e⟩
 |int i=>
  obtain⟨t,rfl⟩:=r;cases(show T = "int" from ty);exact⟨typeIs_int s i t,λ_ e=>nomatch e⟩
 |ref p=>
  cases r;rcases ty with⟨rfl,xs,hq⟩ | ⟨rfl,o,hk,hc,hd⟩ | ⟨rfl,hk⟩ | ⟨rfl,S,n,hk⟩
  ·obtain⟨d_,_,pl,_⟩:=I.list hq
   refine⟨pl.isList.typeIs,λa e=>?_⟩;cases e;obtain⟨o,n,e,c,hd,_⟩:=pl;exact⟨o,e,hd⟩
  ·refine⟨⟨o,I.kIn p o hk,hc⟩,λa e=>?_⟩
   cases e;exact⟨o,I.kIn _ o hk,hd⟩
  ·have z:∃o,s.heap.get? p=some o/\o.ExactDict:=by
    rcases hk with⟨f,hk⟩ | ⟨f,hk⟩
    ·obtain⟨_,_,_,_,o,_,_,e,ex,_⟩:=I.hok p _ hk
     exact⟨o,e,ex⟩
    ·obtain⟨_,_,_,_,o,_,_,e,ex,_⟩:=I.hok p _ hk
     exact⟨o,e,ex⟩
   obtain⟨o,e,ex⟩:=z;refine⟨⟨o,e,ex.1⟩,λa e2=>?_⟩;cases e2;exact⟨o,e,ex.2.1⟩
  ·obtain⟨o,_,_,_,e,ex,_⟩:=I.hok p _ hk
   refine⟨⟨o,e,ex.1⟩,λa e2=>?_⟩;cases e2;exact⟨o,e,ex.2.1⟩
 |_=>exact Yh ty
def tBM0(K:Za)(T:String)(r:V->List V->Hp->VK->Prop)(d:TE):TE:=λσ H Q=>d σ H λx c=>tyV K T x c/\r x [] c Q
def tBM(K:Za)(T:String)(r:V->List V->Hp->VK->Prop)(d:TE)(t:TA):TE:=λσ H Q=>d σ H λx c=>tyV K T x c/\t σ c λxs f=>r x xs f Q
variable {o e:Expr}{es:Zl}{to:TE}{t:TA}{name:Str}{r_ E_:Pos}{T id:String}{r:V->List V->Hp->VK->Prop}
theorem Fz(f:PlainAttrs T)(slot:Slot T name id)(g:typeOf (.builtin id)=pure (.type "method_descriptor"))(hm:MtR X id r)(j:PE X o to)
  (k:attributeBase o name X.env (eval o X.env)=eval o X.env:=by rfl) (l:(r_.endLine==E_.line)=true:=by rfl):PE X (.Call (.Attribute o name r_) [] [] E_) (tBM0 X.K T r to):=by
 intro a_ s σ H Q I h;refine wpAny_Call_method0_late k l (thn (j a_ s σ H _ I h) λv s1 m=>?_);obtain⟨x,n,c,d,ty,p⟩:=m;obtain⟨u,h2⟩:=zA c d ty;exact⟨T,id,f,slot,g,u,h2,Calls.callWith_builtin rfl (PySem.evalArgs_none (hm a_ s1 σ n x [] v [] Q c d .nil p))⟩
theorem G2(g:PlainAttrs T)(slot:Slot T name id)(j:typeOf (.builtin id)=pure (.type "method_descriptor"))(hm:MtR X id r)(k:PE X o to)(ha:PA X (e::es) t)
  (l:attributeBase o name X.env (eval o X.env)=eval o X.env:=by rfl)
  (m:((backTo E_ (starEach (e::es) X.env)).all (λx=>!x.1)&&(backToKw E_ (keywordEach [] X.env)).all (λx=>x.1.isSome)
   && decide ((e::es).length+([]:List Keyword).length+(if([]:List Keyword).isEmpty then 0 else 1)<30))=true:=by rfl)
  (n:(r_.endLine==E_.line)=true:=by rfl) (p:starEach (e::es) X.env=(false,eval e X.env)::starEach es X.env:=by rfl) (u:(backTo E_ (starEach es X.env)).any (·.1)=false:=by rfl):
  PE X (.Call (.Attribute o name r_) (e::es) [] E_) (tBM X.K T r to t):=by
 intro a_ s σ H Q I h;refine wpAny_Call_method_late l m n rfl (thn (k a_ s σ H _ I h) λv s1 w=>?_);obtain⟨x,y,c,d,ty,z⟩:=w;obtain⟨A,h2⟩:=zA c d ty;refine⟨T,id,g,slot,j,A,h2,?_⟩;have f:=ha E_ a_ s1 σ y _ c z;rw[p] at f ⊢;refine Calls.callWith_builtin (by show(false||(backTo E_ (starEach es X.env)).any (·.1))=false;rw[u]<;>rfl) (Calls.evalArgs_plain ?_);refine thn f λus s2 B=>?_
 obtain⟨vs,C,E,F,G⟩:=B;exact hm a_ s2 σ C x vs v us Q E d F G
end
def MtM(X:Cx)(id:String)(r:V->List V->Hp->VK->Prop):Prop:=
 ∀(a_:Zg) (s:Shared) (σ:St) (H:Hp) (x:V) (xs:List V) (v:Value) (us:Zh) (Q:VK),Inv X a_ σ H s->RelV x v->Vals xs us->r x xs H Q ->
  wpAny (model X.prog X.w) X.A (call (.builtin id) (v::us)) (EP X a_ σ Q) X.xe s
theorem Vals.one{x:V}{us:Zh}(h:Vals [x] us):∃u,us=[u]/\RelV x u:=by
 cases h with
 |cons r t=>cases t;exact⟨_,rfl,r⟩
theorem Vals.two{x y:V}{us:Zh}(h:Vals [x,y] us):∃u v,us=[u,v]/\RelV x u/\RelV y v:=by
 cases h with
 |cons r t=>
  obtain⟨v,rfl,q⟩:=Vals.one t;exact⟨_,v,rfl,r,q⟩
theorem Vals.zero:∀{us:Zh},Vals [] us->us=[]
 |_,.nil=>rfl
theorem Vals.dropLast{xs:List V}{us:Zh}(h:Vals xs us):Vals xs.dropLast us.dropLast:=by
 induction h with
 |nil=>exact .nil
 |cons r t a=>
  cases t with
  |nil=>exact .nil
  |cons q t'=>exact .cons r a
theorem Vals.eraseIdx:∀{xs:List V}{us:Zh}(i:Nat),Vals xs us->Vals (xs.eraseIdx i) (us.eraseIdx i)
 |_,_,_,.nil=>.nil
 |_,_,0,.cons _ t=>t
 |_,_,i+1,.cons r t=>.cons r (Vals.eraseIdx i t)
theorem Vals.rep{xs:List V}{us:Zh}(h:Vals xs us):∀k:Nat,Vals (List.replicate k xs).flatten (List.replicate k us).flatten
 |0=>.nil
 |k+1=>by
  rw[XD,XD,XE,XE];exact Vals.append h (Vals.rep h k)
theorem yd{c:Type}(l:List c):l.eraseIdx (l.length-1)=l.dropLast:=by
 induction l with
 |nil=>rfl
 |cons a r d=>
  cases r with
  |nil=>rfl
  |cons b r=>
   have e:(a::b::r).length-1=((b::r).length-1)+1:=by
    have f:(a::b::r).length=r.length+2:=rfl;have h2:(b::r).length=r.length+1:=rfl;omega
   rw[e,List.eraseIdx_cons_succ,d];all_goals rfl
theorem sG{a:Type}:∀(l:List a) (i:Nat),(l.eraseIdx i).length<=l.length
 |[],_=>YJ _
 |_::_,0=>YR _
 |_::r,i+1=>Nat.succ_le_succ (sG r i)
theorem foldl_rep(d_:Zh):∀(k:Nat) (g_:Zh),
  List.foldl (λa b=>a++b) g_.toArray (List.replicate k d_.toArray)=(g_++(List.replicate k d_).flatten).toArray
 |0,g_=>by simp
 |k+1,g_=>by
  have e:g_.toArray++d_.toArray=(g_++d_).toArray:=by simp
  have e2:(g_++d_)++(List.replicate k d_).flatten=g_++(List.replicate (k+1) d_).flatten:=by
   rw[XD,XE,ZC]
  rw[←e2,←foldl_rep d_ k (g_++d_),←e,XD,List.foldl_cons]
section
variable {X:Cx}{a_:Zg}{σ:St}{H:Hp}{s:Shared}{l b:Addr}{xs ys zs:List V}
theorem Inv.lset{d_ p_:Zh}{n:Nat}{f:Array Value->Array Value}{t':Nat}(I:Inv X a_ σ H s)(a:H l=some (.lst xs))
  (e:s.heap.get? l=some { cls:=.type "list",data:=.seq d_.toArray n }) (hf:f d_.toArray=p_.toArray) (c:Vals ys p_) (hz:ys.length<=sizeLine):
  Inv X a_ σ (upd H l (.lst ys)) { s with heap:=s.heap.update l (Obj.mapSeq f),toks:=t' }:=by
 have q:=PySem.IsL.update e f;rw[hf] at q;refine I.write (x:=l) (e:=l) (by rw[a];exact trivial) (.inl rfl) (λd u hb hu=>(Heap.get?_update_other s.heap (Obj.mapSeq f) (Ne.symm hb)).trans hu) ⟨_,q⟩ ?_;exact⟨hz,p_,_,c,q⟩
theorem Inv.lnew{d_:Zh}{t':Nat}(I:Inv X a_ σ H s)(a:Vals ys d_)(hz:ys.length<=sizeLine):
  Inv X a_ σ (upd H s.heap.objs.size (.lst ys)) { s with heap:=s.heap.push { cls:=.type "list",data:=.seq d_.toArray },toks:=t' }:=
 I.laid (λ_ _ q=>Yd _ q) (YJ _) ⟨hz,d_,0,a,Yg _ rfl⟩
theorem Inv.fresh(I:Inv X a_ σ H s):H s.heap.objs.size=none:=I.hok.fresh (YJ _)
theorem Inv.lstM(I:Inv X a_ σ H s)(a:H l=some (.lst xs)):xs.length<=sizeLine/\∃(d_:Zh) (n:Nat),Vals xs d_/\xs.length=d_.length/\s.heap.get? l=some { cls:=.type "list",data:=.seq d_.toArray n }:=by
 obtain⟨z,d_,n,r,e⟩:=I.hok l _ a;exact⟨z,d_,n,r,r.length,e⟩
theorem lM{n:Nat}(h:n<=sizeLine):Builtin.List.listTooLong n=false:=by
 unfold Builtin.List.listTooLong;exact ZT (by omega)
end
section
variable {X:Cx}
def Dx:V->List V->Hp->VK->Prop:=λx vs H Q=>∃l xs y,x=.ref l/\vs=[y]/\H l=some (.lst xs)/\xs.length<sizeLine/\Q .non (upd H l (.lst (xs++[y])))
theorem zB:MtM X "list.append" Dx:=by
 intro a_ s σ H x vs v us Q I b c h;obtain⟨l,xs,y,rfl,rfl,a,hz,q⟩:=h;cases b;obtain⟨u,rfl,d⟩:=c.one;obtain⟨z,d_,n,r,hl,e⟩:=I.lstM a;refine call_meets F.slot_list_append ⟨_,e,rfl⟩ F.entry_list_append (F.args_list_append_2 _ _) (PySem.list_append l d_.toArray n u (by rw[YL];omega)) ⟨e,?_⟩;refine⟨.non,_,I.lset (p_:=d_++[u]) a e (by simp) (r.append (.cons d .nil)) ?_,rfl,q⟩;rw[ZN,List.length_singleton];omega
def Dy:V->List V->Hp->VK->Prop:=λx vs H Q=>∃l b xs a,x=.ref l/\vs=[.ref b]/\H l=some (.lst xs)/\H b=some (.lst a)/\xs.length+a.length<=sizeLine/\Q .non (upd H l (.lst (xs++a)))
theorem zC:MtM X "list.extend" Dy:=by
 intro a_ s σ H x vs v us Q I d f h;obtain⟨l,b,xs,p,rfl,rfl,c,g,hz,q⟩:=h;cases d;obtain⟨u,rfl,j⟩:=f.one;cases j;obtain⟨z,d_,n,r,hl,e⟩:=I.lstM c;obtain⟨t,a,k,m,w,e2⟩:=I.lstM g;have hsz:d_.toArray.size+a.toArray.size<=sizeLine:=by rw[YL,YL];omega
 have o:¬(!d_.toArray.isEmpty&&Builtin.List.listTooLong (d_.toArray.size+a.toArray.size))=true:=by
  rw[lM hsz,Bool.and_false];exact YI
 refine call_meets F.slot_list_extend ⟨_,e,rfl⟩ F.entry_list_extend (F.args_list_extend_2 _ _)
  (AutoSeq1.list_extend_list_list_0 l d_.toArray n b a.toArray k o (by rw[YL];omega) (by omega)) ⟨e,e2,?_⟩
 refine⟨.non,_,I.lset (p_:=d_++a) c e (by simp) (r.append m) ?_,rfl,q⟩;rw[ZN];omega
def rPop:V->List V->Hp->VK->Prop:=λx vs H Q=>∃l xs y,x=.ref l/\vs=[]/\H l=some (.lst xs)/\xs[xs.length-1]?=some y/\Q y (upd H l (.lst xs.dropLast))
theorem FA:MtM X "list.pop" rPop:=by
 intro a_ s σ H x vs v us Q I b c h;obtain⟨l,xs,y,rfl,rfl,a,hy,q⟩:=h;cases b;have d:=c.zero;subst d;obtain⟨z,d_,n,r,hl,e⟩:=I.lstM a;obtain⟨u,hu,f⟩:=r.get hy;have g:d_.toArray[d_.toArray.size-1]?=some u:=by
  show d_.toArray[d_.length-1]?=some u;rw[←XF,←hl];exact hu
 refine call_meets F.slot_list_pop ⟨_,e,rfl⟩ F.entry_list_pop (F.args_list_pop_1 _) (MeetsSeq.list_pop_last l d_.toArray n u g (by rw[YL];omega)) ⟨e,?_⟩;refine⟨y,_,I.lset (p_:=d_.dropLast) a e ?_ r.dropLast ?_,f,q⟩
 ·show d_.toArray.eraseIdxIfInBounds (d_.toArray.size-1)=d_.dropLast.toArray
  rw[YL,List.eraseIdxIfInBounds_toArray,yd]
 ·rw[List.length_dropLast]
  omega
def FB:V->List V->Hp->VK->Prop:=λx vs H Q=>∃l xs i k y,x=.ref l/\vs=[.int i]/\H l=some (.lst xs)/\-(2 ^ 63)<=i/\i<2 ^ 63/\seqIndex? i xs.length=some k/\xs[k]?=some y/\Q y (upd H l (.lst (xs.eraseIdx k)))
theorem Bn:MtM X "list.pop" FB:=by
 intro a_ s σ H x vs v us Q I b c h;obtain⟨l,xs,i,k,y,rfl,rfl,a,d,h2,hk,hy,q⟩:=h;cases b;obtain⟨u,rfl,f⟩:=c.one;obtain⟨t,rfl⟩:=f;obtain⟨z,d_,n,r,hl,e⟩:=I.lstM a;obtain⟨w,hw,g⟩:=r.get hy;refine call_meets F.slot_list_pop ⟨_,e,rfl⟩ F.entry_list_pop (F.args_list_pop_2 _ _)
  (MeetsSeq.list_pop_at l d_.toArray n i t k w (fitsIndex_both d h2) (by rw[YL,←hl];exact hk) (by rw[←XF];exact hw) (by rw[YL];omega)) ⟨e,?_⟩
 refine⟨y,_,I.lset (p_:=d_.eraseIdx k) a e ?_ (r.eraseIdx k) ?_,g,q⟩
 ·show d_.toArray.eraseIdxIfInBounds k=(d_.eraseIdx k).toArray
  rw[List.eraseIdxIfInBounds_toArray]
 ·have:=sG xs k
  omega
def rCat:R2:=λx y H Q=>∃l b xs a,x=.ref l/\y=.ref b/\H l=some (.lst xs)/\H b=some (.lst a)/\xs.length+a.length<=sizeLine/\∀p,H p=none->Q (.ref p) (upd H p (.lst (xs++a)))
theorem FC:OpR X (binaryOp .Add) rCat:=by
 intro a_ s σ H x y v u Q I c d h;obtain⟨l,b,xs,m,rfl,rfl,f,g,hz,q⟩:=h;cases c;cases d;obtain⟨z,d_,n,r,hl,e⟩:=I.lstM f;obtain⟨o,a,p,j,t,e2⟩:=I.lstM g;refine PySem.P.add_list e e2 ?_ (by rw[YL,YL];omega);have k:d_.toArray++a.toArray=(d_++a).toArray:=by simp
 rw[k];exact⟨.ref _,_,I.lnew (t':=s.toks) (r.append j) (by rw[ZN];omega),rfl,q _ I.fresh⟩
def rRep:R2:=λx y H Q=>∃l k xs,x=.ref l/\y=.int k/\H l=some (.lst xs)/\-(2 ^ 63)<=k/\k<2 ^ 63/\xs.length*k.toNat<=sizeLine /\
 ∀p,H p=none->Q (.ref p) (upd H p (.lst (List.replicate k.toNat xs).flatten))
theorem len_rep{a:Type}(xs:List a)(k:Nat):(List.replicate k xs).flatten.length=k*xs.length:=by
 induction k with
 |zero=>simp
 |succ k b=>rw[XD,XE,ZN,b,Nat.succ_mul,Nat.add_comm]
theorem FD:OpR X (binaryOp .Mult) rRep:=by
 intro a_ s σ H x y v u Q I d f h;obtain⟨l,k,xs,rfl,rfl,g,j,h2,hz,q⟩:=h;cases d;obtain⟨t,rfl⟩:=f;obtain⟨z,d_,n,r,hl,e⟩:=I.lstM g;have o:d_.toArray.size*k.toNat<=sizeLine:=by rw[YL,←hl];exact hz
 have p:¬d_.toArray.size*k.toNat>(2 ^ 63-1) / 8:=by
  have:(sizeLine:Nat)<=(2 ^ 63-1) / 8:=by decide
  omega
 have w:¬(!Builtin.List.listFitsIndex k)=true:=by
  rw[fitsIndex_both j h2];exact YI
 have A:¬Builtin.List.listTooLong (d_.toArray.size*k.toNat)=true:=by
  rw[lM o];exact YI
 have B:List.foldl (λb c=>b++c) #[] (List.replicate (if d_.toArray.isEmpty=true then 0 else k.toNat) d_.toArray)=(List.replicate k.toNat d_).flatten.toArray:=by
  have C:∀m:Nat,List.foldl (λb c=>b++c) #[] (List.replicate m d_.toArray)=(List.replicate m d_).flatten.toArray:=λm=>by
   have:=foldl_rep d_ m []
   rw[XG] at this;exact this
  rw[C];cases d_ with
  |nil=>simp
  |cons a G=>rw[if_neg (by simp)]
 refine wpAny_binaryOp_repeat_ref (T:="list") (U:="int") (by decide) ⟨_,e,rfl⟩ (λE=>typeIs_int E k t) noFill_list_mul F.fills_int_mul F.slot_int_rmul repeat_list F.slot_int_index.lookup
  (call_meets F.slot_int_rmul (typeIs_int s k t) F.entry_int_rmul (F.args_int_rmul_2 _ _) (int___rmul___int_list k t l d_.toArray n)
   ⟨e,rfl,⟨_,e,rfl⟩,call_meets F.slot_list_mul ⟨_,e,rfl⟩ F.entry_list_mul (F.args_list_mul_2 _ _) (AutoListH.list___mul___list_int_3 l d_.toArray n k t w p A) ⟨e,?_⟩⟩)
 rw[B];exact⟨.ref _,_,I.lnew (t':=s.toks) (r.rep k.toNat) (by rw[len_rep,Nat.mul_comm];exact hz),rfl,q _ I.fresh⟩
end
section
variable {prog:ZS}{w:World}{A:Around}{E:Zd}{s:Shared}
theorem ye{a c n:Nat}(d:a<=c)(hc:c<=n):sliceBounds (some (a:Int)) (some (c:Int)) none n=((a:Int),(c:Int),1):=by
 simp only[sliceBounds,Option.getD_none];have b:¬((a:Int)<0):=by omega
 have h2:¬((c:Int)<0):=by omega
 simp only[b,h2,if_false,show(1:Int)>0 by decide,if_true];congr 1
 ·omega
 ·congr 1;omega
/-- list.__setitem__ with a slice of step one and another list -/
theorem EQ {l b sl:Addr} {d new:Zq} {n r:Nat} {g j:Value} {a c:Nat} {Q:Zt}
    (e:s.heap.get? l = some { cls:=.type "list",data:=.seq d n }) (e2:s.heap.get? b = some { cls:=.type "list",data:=.seq new r }) (t:l ≠ b)
    (u:s.heap.IsSliceOf sl g j .none) (pl:IsPart g (some (a:Int))) (y:IsPart j (some (c:Int))) (z:a<=c) (hc:c<=d.size)
    (hsz:d.size + new.size<=sizeLine) (h:Q () { s with heap:=s.heap.update l (Obj.mapSeq λxs=>xs.extract 0 a ++ new ++ xs.extract c xs.size) }) :
    wpAny (model prog w) A (setItem (.ref l) (.ref sl) (.ref b)) Q E s:=by
  have hl:s.heap.IsList l d:=PySem.IsL.isList e
  have hb:s.heap.IsList b new:=PySem.IsL.isList e2
  obtain ⟨os,f,B,k⟩:=id u
  have p:s.TypeIs (.ref sl) "slice":=⟨os,f,B⟩
  have C:¬ ((rawPart none == rawInt 0) = true):=YI
  have o:Builtin.List.listSameRef (.ref l) (.ref b) = false:=by
    unfold Builtin.List.listSameRef
    exact ZU.mpr t
  have F:(max (a:Int) (c:Int)).toNat = c:=by omega
  have G:((λxs:Array Value=>xs.extract 0 a ++ new ++ xs.extract c xs.size) d).size<=sizeLine + 1:=by
    simp only [Array.size_append,Array.size_extract]
    omega
  unfold setItem
  try with_reducible refine Yj ?_
  first | refine Yb (Yc ?_) | skip
  refine Yb (wpAny_sequenceKey hl.typeIs (by decide) ?_)
  refine Yb (wpAny_callSpecial?_slot (name:=Str.ofString "__setitem__") hl.typeIs slot_list_setitem
    (wpAny_call_entry slot_list_setitem hl.typeIs entry_list_setitem ?_ (args_list_setitem _ _ _)))
  show wpAny _ _ (Builtin.List.listSubscript? (.ref sl) >>= _) _ _ s
  refine Yb ?_
  unfold Builtin.List.listSubscript?
  refine Yb (wpAny_specialOf p slice_no_index ?_)
  simp only [Option.isNone_none,if_true]
  refine Yc ?_
  show wpAny _ _ (typeOf (.ref sl) >>= _) _ _ s
  refine Yb (wpAny_typeOf p ?_)
  first
    | rw [if_neg (by decide)]
    | refine PySem.W.KFB.if_not (by decide) ?_
  rw [listSliceParts_eq]
  refine Yb (Yb (wpAny_field f k (x:=.none) rfl (Yb (wpAny_listPart .none ?_))))
  rw [if_neg C]
  refine Yb (wpAny_field f k (x:=g) rfl (Yb (wpAny_listPart pl ?_)))
  refine Yb (wpAny_field f k (x:=j) rfl (Yb (wpAny_listPart y (Yc ?_))))
  first
    | simp only [o,XH,if_false]
    | refine PySem.W.KFB.if_not o ?_
    | (dsimp only
       rw [if_neg (by rw [o]; exact YI)])
  refine Yb (m:=Builtin.List.listAllItems (.ref b) "must assign iterable to extended slice") ?_
  unfold Builtin.List.listAllItems
  refine Yb (wpAny_typeOf hb.typeIs ?_)
  first
    | refine PySem.W.KFB.if_so (by decide) ?_
    | rw [if_pos (by decide)]
    | simp only [XI,Bool.true_or,if_true]
  unfold Builtin.List.listItems
  refine Yb (wpAny_seqItems e2 rfl (Yc ?_))
  refine Yb (Yb (wpAny_seqItems e rfl (Yc ?_)))
  refine Yb (wpAny_of_eq ((sliceIndices_raw (some (a:Int)) (some (c:Int)) none d.size (by simp)).trans (congrArg (pure:Int × Int × Int->Sem (Int × Int × Int)) (ye z hc))) ?_)
  show wpAny _ _ (if ((1:Int) == 1) = true then _ else _) _ _ s
  rw [if_pos (by decide)]
  refine Yb (wpAny_rule ?_)
  first
    | simp only [lM hsz,XH,if_false]
    | refine PySem.W.KFB.if_not (lM hsz) ?_
  first | refine Yb (Yc ?_) | skip
  show wpAny _ _ (updateSeq l (λxs=>xs.extract 0 ((a:Int)).toNat ++ new ++ xs.extract (max (a:Int) (c:Int)).toNat xs.size) >>= _) _ _ s
  rw [F,YZ]
  refine Yb (wpAny_updateSeq (hz:=YA (Nat.le_add_right _ _) hsz) (_hz':=G) e rfl ?_)
  refine Yb (wpAny_letGo ?_)
  first
    | exact Yb (Yc (Yc ⟨.none,rfl,Yc h⟩))
    | exact Yc ⟨.none,rfl,Yc h⟩
end
section
variable {κ:Type}[DecidableEq κ]
def valV(a:List (κ×V))(k:κ):Option V:=(a.find? λb=>decide (b.1=k)).map (·.2)
def putK(b:List (κ×V))(k:κ)(v:V):List (κ×V):=
 if(b.any λa=>decide (a.1=k))=true then b.map (λa=>if a.1=k then(a.1,v) else a) else b++[(k,v)]
theorem oZ{p:κ×V}{r:List (κ×V)}{k:κ}(e:p.1=k):valV (p::r) k=some p.2:=by simp[valV,XJ,e]
theorem o0{p:κ×V}{r:List (κ×V)}{k:κ}(e:¬p.1=k):valV (p::r) k=valV r k:=by simp[valV,XJ,e]
theorem um(k:κ):∀a:List (κ×V),(a.any λb=>decide (b.1=k))=(valV a k).isSome
 |[]=>rfl
 |p::r=>by
  rw[XM];by_cases e:p.1=k
  ·simp only[oZ e,YY e,Bool.true_or,Option.isSome_some]
  ·rw[o0 e,ZT e,Bool.false_or];exact um k r
theorem oM(a:List (κ×V))(k:κ)(v:V):(putK a k v).length<=a.length+1:=by
 unfold putK;split
 ·rw[ZG];omega
 ·rw[ZN,YM,YX];omega
theorem RelO.isSome_eq{o:Option V}{u:Z0}(r:RelO o u):o.isSome=u.isSome:=by
 cases o with
 |none=>cases u with
  |none=>rfl
  |some _=>exact(show False from r).elim
 |some _=>cases u with
  |none=>exact(show False from r).elim
  |some _=>rfl
theorem KV.val{c:List (κ×V)}{vs:List (κ×Value)}(r:KV c vs)(k:κ):RelO (valV c k) (valueAt vs k):=by
 unfold KV at r;induction r with
 |nil=>exact True.intro
 |@cons p q ps a h t f=>
  obtain⟨d,h2⟩:=h;by_cases e:p.1=k
  ·have e':q.1=k:=d.symm.trans e
   have b:valueAt (q::a) k=some q.2:=by simp[valueAt,XJ,e']
   rw[oZ e,b];exact h2
  ·have e':¬q.1=k:=λz=>e (d.trans z)
   have b:valueAt (q::a) k=valueAt a k:=by simp[valueAt,XJ,e']
   rw[o0 e,b];exact f
theorem KV.any{b:List (κ×V)}{vs:List (κ×Value)}(r:KV b vs)(k:κ):(b.any λa=>decide (a.1=k))=vs.any λa=>decide (a.1=k):=by
 unfold KV at r;induction r with
 |nil=>rfl
 |cons h t c=>rw[XM,XM,c,h.1]
theorem KV.repl{c:List (κ×V)}{vs:List (κ×Value)}(r:KV c vs)(k:κ){y:V}{u:Value}(d:RelV y u):
  KV (c.map λa=>if a.1=k then(a.1,y) else a) (vs.map λa=>if a.1=k then(a.1,u) else a):=by
 unfold KV at r ⊢;induction r with
 |nil=>exact .nil
 |@cons p q ps g h t f=>
  rw[YO,YO];refine .cons ?_ f;obtain⟨b,h2⟩:=h;by_cases e:p.1=k
  ·rw[if_pos e,if_pos (b.symm.trans e)];exact⟨b,d⟩
  ·rw[if_neg e,if_neg (λz=>e (b.trans z))];exact⟨b,h2⟩
theorem KV.put{a:List (κ×V)}{vs:List (κ×Value)}(r:KV a vs)(k:κ){y:V}{u:Value}(b:RelV y u):KV (putK a k y) (stored vs k u):=by
 unfold putK stored;rw[r.any k];by_cases e:(vs.any λc=>decide (c.1=k))=true
 ·rw[if_pos e,if_pos e];exact r.repl k b
 ·rw[if_neg e,if_neg e];exact Paired.snoc r ⟨rfl,b⟩
theorem KV.keys{a:List (κ×V)}{vs:List (κ×Value)}(r:KV a vs):a.map (·.1)=vs.map (·.1):=by
 unfold KV at r;induction r with
 |nil=>rfl
 |cons h t b=>rw[YO,YO,b,h.1]
theorem KV.length{a:List (κ×V)}{vs:List (κ×Value)}(r:KV a vs):a.length=vs.length:=Paired.length r
end
theorem pS{P:ZS}{w:World}{k:Key}{u:Value}(r:RelV (kV k) u):(bg P w).is k u=true:=by
 cases k with
 |inl i=>obtain⟨t,e⟩:=(show ∃t,u=Value.int i t from r);subst e;exact vZ P w i t
 |inr x=>obtain⟨t,e⟩:=(show ∃t,u=Value.str x t from r);subst e;exact wa P w x t
theorem sH{P:ZS}{w:World}:∀{ks:List Key}{us:Zh},Vals (ks.map kV) us->ItemsAre (bg P w) ks us
 |[],_,r=>by rw[XC] at r;cases r;exact .nil
 |k::ks,_,r=>by
  rw[YO] at r;cases r with
  |cons h t=>exact .cons (pS h) (sH t)
abbrev KT(H:Hp):List (List Key×V)->List (List Key×Addr×Value)->Prop:=Paired λp q=>p.1=q.1/\H q.2.1=some (.tup (p.1.map kV))/\RelV p.2 q.2.2
theorem KT.val{H:Hp}{c:List (List Key×V)}{xs:List (List Key×Addr×Value)}(r:KT H c xs)(k:List Key):RelO (valV c k) ((atKey xs k).map (·.2)):=by
 induction r with
 |nil=>exact True.intro
 |@cons p q ps a h t f=>
  obtain⟨d,_,h2⟩:=h;by_cases e:p.1=k
  ·have e':q.1=k:=d.symm.trans e
   have b:atKey (q::a) k=some q.2:=by simp[atKey,XJ,e']
   rw[oZ e,b];exact h2
  ·have e':¬q.1=k:=λz=>e (d.trans z)
   have b:atKey (q::a) k=atKey a k:=by simp[atKey,XJ,e']
   rw[o0 e,b];exact f
theorem KT.repl{H:Hp}{c:List (List Key×V)}{xs:List (List Key×Addr×Value)}(r:KT H c xs)(k:List Key){y:V}{u:Value}(d:RelV y u):
  KT H (c.map λb=>if b.1=k then(b.1,y) else b) (xs.map (putAt k u)):=by
 induction r with
 |nil=>exact .nil
 |@cons p q ps j h t f=>
  rw[YO,YO];refine .cons ?_ f;obtain⟨a,h2,g⟩:=h;unfold putAt;by_cases e:p.1=k
  ·rw[if_pos e,if_pos (a.symm.trans e)];exact⟨a,h2,d⟩
  ·rw[if_neg e,if_neg (λz=>e (a.trans z))];exact⟨a,h2,g⟩
theorem KT.put{H:Hp}{a:List (List Key×V)}{xs:List (List Key×Addr×Value)}(r:KT H a xs)(k:List Key){b:Addr}{y:V}{u:Value}(hb:H b=some (.tup (k.map kV)))(c:RelV y u):
  KT H (putK a k y) (storedH xs k b u):=by
 have e:(a.any λd=>decide (d.1=k))=(atKey xs k).isSome:=by
  rw[um,(r.val k).isSome_eq,Option.isSome_map]
 unfold putK storedH;rw[e];by_cases q:(atKey xs k).isSome=true
 ·rw[if_pos q,if_pos q];exact r.repl k c
 ·rw[if_neg q,if_neg q];exact Paired.snoc r ⟨rfl,hb,c⟩
theorem KT.keeps{H H':Hp}{a:List (List Key×V)}{xs:List (List Key×Addr×Value)}(r:KT H a xs)(ht:∀b c,H b=some (.tup c)->H' b=some (.tup c)):KT H' a xs:=
 Paired.mapP r λ_ _ z=>⟨z.1,ht _ _ z.2.1,z.2.2⟩
section
variable {P:ZS}{w:World}{H:Hp}{h:Heap}{a:Addr}
theorem CL{u:HO}(ok:HOk P w H h)(e:Rd H a u):aQ P w H h a u:=e.ok ok
theorem j8{b:List (Key×V)}(ok:HOk P w H h)(e:Rd H a (.dK b)):b.length<=sizeLine/\(a==sysModules)=false/\∃vs,KV b vs/\h.DictOf (bg P w) a vs:=
 show aQ P w H h a (.dK b) from CL ok e
theorem CM{b:List (Key×V)}(ok:HOk P w H h)(e:H a=some (.dK b)):b.length<=sizeLine/\(a==sysModules)=false/\∃vs,KV b vs/\h.DictOf (bg P w) a vs:=j8 ok (.inl e)
theorem mY{ks:List Key}(ok:HOk P w H h)(e:H a=some (.tup (ks.map kV))):(tupleKind (bg P w)).is h ks a:=by
 obtain⟨_,d_,r,o,b,h2,n,c⟩:=(show aQ P w H h a (.tup (ks.map kV)) from ok a _ e);exact⟨o,d_.toArray,n,b,h2,c,by simpa using sH r⟩
theorem pT{b:List (List Key×V)}(ok:HOk P w H h)(e:Rd H a (.dT b)):b.length<=sizeLine/\(a==sysModules)=false /\
  ∃xs,KT H b xs/\h.DictOfH (tupleKind (bg P w)) a xs:=by
 obtain⟨z,y,xs,r,o,es,c,d,h2,f,g,j⟩:=(show aQ P w H h a (.dT b) from CL ok e);refine⟨z,y,xs,r,o,es,c,d,h2,f,g,λx hx=>?_,j⟩;have all:∀{l:List (List Key×V)}{m:List (List Key×Addr×Value)},KT H l m->∀x∈m,(tupleKind (bg P w)).is h x.1 x.2.1:=by
  intro l m q;induction q with
  |nil=>intro x hx;exact nomatch hx
  |@cons p q ps n hq t k=>
   intro x hx;rcases YE.mp hx with e | hx
   ·subst e
    exact mY ok (by rw[←hq.1];exact hq.2.1)
   ·exact k x hx
 exact all r x hx
theorem G3{b:List (List Key×V)}(ok:HOk P w H h)(e:H a=some (.dT b)):b.length<=sizeLine/\(a==sysModules)=false /\
  ∃xs,KT H b xs/\h.DictOfH (tupleKind (bg P w)) a xs:=pT ok (.inl e)
end
def DGet(H:Hp)(a:Addr)(y:V)(r:Option V):Prop:=
 (∃c k,Rd H a (.dK c)/\y=kV k/\r=valV c k) \/ ∃c k b,Rd H a (.dT c)/\y=.ref b/\H b=some (.tup (k.map kV))/\r=valV c k
def DPut(H:Hp)(a:Addr)(y v:V)(H':Hp):Prop:=
 (∃c k,H a=some (.dK c)/\y=kV k/\c.length<sizeLine/\H'=upd H a (.dK (putK c k v))) \/
 ∃c k b,H a=some (.dT c)/\y=.ref b/\H b=some (.tup (k.map kV))/\c.length<sizeLine/\H'=upd H a (.dT (putK c k v))
theorem DGet.k{H:Hp}{a:Addr}{b:List (Key×V)}{k:Key}(e:H a=some (.dK b)):DGet H a (kV k) (valV b k):=.inl ⟨b,k,.inl e,rfl,rfl⟩
section
variable {X:Cx}{a_:Zg}{σ:St}{H:Hp}{s:Shared}{a:Addr}{y v:V}{u r:Value}{o:Option V}{A:Around}{E:Zd}
theorem Inv.big(I:Inv X a_ σ H s):sysModules<s.heap.objs.size:=by
 have h:mainGlobals<s.heap.objs.size:=(I.mod.glob.keeps I.bk).lt;exact Nat.lt_trans (by decide) h
theorem zD{Q:Zd}(hu:A.units+1<cLine)(I:Inv X a_ σ H s)(g:DGet H a y (some v))(n:RelV y u)(h:∀c t,Inv X a_ σ H t->RelV v c->Q c t):
  wpAny (model X.prog X.w) A (getItem (.ref a) u) Q E s:=by
 rcases g with⟨B,k,e,d,l⟩ | ⟨B,k,b,e,d,C,l⟩
 ·subst d
  obtain⟨z,hd,vs,f,j⟩:=j8 I.hok e;obtain⟨c,hw,m⟩:=RelO.some_of (v:=v) (o:=valueAt vs k) (by rw[l];exact f.val k);exact wpAny_getItem_of (pS n) j.mapOf hw (h c _ (I.tok _) m)
 ·subst d
  cases(show u=Value.ref b from n);obtain⟨z,hd,xs,f,j⟩:=pT I.hok e;obtain⟨c,hw,m⟩:=RelO.some_of (v:=v) (o:=(atKey xs k).map (·.2)) (by rw[l];exact f.val k);obtain⟨p,hp,F⟩:=ZR.mp hw;refine wpAny_getItem_heap (tupleKind_room_in1 hu) (mY I.hok C) j hp ?_;rw[F];exact h c _ (I.tok _) m
theorem d_in{Q:Zd}(hu:A.units+1<cLine)(I:Inv X a_ σ H s)(g:DGet H a y o)(j:RelV y u)(h:∀m,Inv X a_ σ H m->Q (.bool o.isSome) m):
  wpAny (model X.prog X.w) A (compareOp .In u (.ref a)) Q E s:=by
 rcases g with⟨n,k,e,c,l⟩ | ⟨n,k,b,e,c,p,l⟩
 ·subst c
  obtain⟨z,hd,vs,d,f⟩:=j8 I.hok e;refine wpAny_in_of (pS j) hd f.mapOf ?_;rw[←(d.val k).isSome_eq,←l];exact h _ (I.tok _)
 ·subst c
  cases(show u=Value.ref b from j);obtain⟨z,hd,xs,d,f⟩:=pT I.hok e;refine wpAny_in_heap (tupleKind_room_in1 hu) (mY I.hok p) hd f ?_;have q:=(d.val k).isSome_eq;rw[Option.isSome_map] at q;rw[←q,←l];exact h _ (I.tok _)
theorem Dz{Q:Zd}(hu:A.units+1<cLine)(I:Inv X a_ σ H s)(g:DGet H a y o)(j:RelV y u)(h:∀m,Inv X a_ σ H m->Q (.bool (!o.isSome)) m):
  wpAny (model X.prog X.w) A (compareOp .NotIn u (.ref a)) Q E s:=by
 rcases g with⟨n,k,e,c,l⟩ | ⟨n,k,b,e,c,p,l⟩
 ·subst c
  obtain⟨z,hd,vs,d,f⟩:=j8 I.hok e;refine wpAny_notIn_of (pS j) hd f.mapOf ?_;rw[←(d.val k).isSome_eq,←l];exact h _ (I.tok _)
 ·subst c
  cases(show u=Value.ref b from j);obtain⟨z,hd,xs,d,f⟩:=pT I.hok e;refine wpAny_notIn_heap (tupleKind_room_in1 hu) (mY I.hok p) hd f ?_;have q:=(d.val k).isSome_eq;rw[Option.isSome_map] at q;rw[←q,←l];exact h _ (I.tok _)
theorem w4{h':Heap}{t':Nat}{c:HO}(I:Inv X a_ σ H s)(mu:Mut (H a))(d:Heap.SameBut a s.heap h')(f:∃q,h'.get? a=some q)(new:aQ X.prog X.w (upd H a c) h' a c):
  Inv X a_ σ (upd H a c) { s with heap:=h',toks:=t' }:=
 I.write (x:=a) (e:=a) mu (.inl rfl) (λb q hb z=>(d.2 b hb).trans z) f new
theorem FE{P:ZS}{w:World}{H':Hp}{h':Heap}{b:List (Key×V)}{vs:List (Key×Value)}(z:b.length<=sizeLine)(hd:(a==sysModules)=false)(c:KV b vs)(d:h'.DictOf (bg P w) a vs):
  aQ P w H' h' a (.dK b):=⟨z,hd,vs,c,d⟩
theorem zE{H':Hp}{Q:Zt}(hu:A.units+1<cLine)(I:Inv X a_ σ H s)(g:DPut H a y v H')(B:RelV y u)(C:RelV v r)(h:∀F,Inv X a_ σ H' F->Q () F):
  wpAny (model X.prog X.w) A (setItem (.ref a) u r) Q E s:=by
 rcases g with⟨d,k,e,m,l,n⟩ | ⟨d,k,b,e,m,G,l,n⟩
 ·subst m n
  obtain⟨z,hd,vs,f,p⟩:=CM I.hok e;have hz:vs.length<=sizeLine:=by rw[←f.length];exact z
  have hl:(putK d k v).length<=sizeLine:=by have:=oM d k v;omega
  refine wpAny_setItem_pairs (hsz:=hz) (pS B) p λh' j t=>h _ ?_
  have K:∃q,h'.get? a=some q:=let⟨q,_,_,hq,_⟩:=j;⟨q,hq⟩;exact w4 I (by rw[e];exact True.intro) t K (FE hl hd (f.put k C) j)
 ·subst m n
  cases(show u=Value.ref b from B);obtain⟨z,hd,xs,f,p⟩:=G3 I.hok e;have hz:xs.length<=sizeLine:=by rw[←Paired.length f];exact z
  have hl:(putK d k v).length<=sizeLine:=by have:=oM d k v;omega
  refine wpAny_setItem_heap (hsz:=hz) (tupleKind_room_in1 hu) (mY I.hok G) p λh' j t=>h _ ?_
  obtain⟨q,es,L,hq,h2,O,P,_,R⟩:=j;refine w4 I (by rw[e];exact True.intro) t ⟨q,hq⟩ ⟨hl,hd,_,(f.put k G C).keeps λc S J=>?_,q,es,L,hq,h2,O,P,R⟩;rw[aD (GE J e (λz=>nomatch z))];exact J
end
section
variable {X:Cx}{a_:Zg}{σ:St}{H:Hp}{s:Shared}{a:Addr}{e_:List (Key×V)}{k:Key}{u:Value}{A:Around}{E:Zd}
theorem CN{Q:Zd}(I:Inv X a_ σ H s)(e:Rd H a (.dK e_))(h:∀t b,Inv X a_ σ H b->Q (.int e_.length t) b):wpAny (model X.prog X.w) A (call (.builtin "len") [.ref a]) Q E s:=by
 obtain⟨z,hd,vs,c,d⟩:=j8 I.hok e;refine call_len_dict hd d (by rw[←c.length];rw[sizeLine_eq] at z;omega) ?_;rw[←c.length];exact h _ _ (I.tok _)
end
theorem wb{X:Cx}{a_:Zg}{σ:St}{H:Hp}{s:Shared}{a:Addr}{y:V}{o:Option V}(I:Inv X a_ σ H s)(g:DGet H a y o):s.TypeIs (.ref a) "dict":=by
 rcases g with⟨d,k,e,_,_⟩ | ⟨d,k,b,e,_,_,_⟩
 ·obtain⟨_,_,vs,_,c⟩:=j8 I.hok e
  exact c.typeIs
 ·obtain⟨_,_,xs,_,c⟩:=pT I.hok e
  exact c.typeIs
theorem Bo{P:ZS}{w:World}{H:Hp}(h:Heap)(hb:sysModules<h.objs.size):aQ P w H (h.push { cls:=.type "dict",data:=.dict #[] }) h.objs.size (.dK []):=
 ⟨YQ _,ZU.mpr (Ne.symm (ZX hb)),[],.nil,Heap.DictOf.new h⟩
def FF:TE:=λ_ H Q=>∀p,H p=none->Q (.ref p) (upd H p (.dK []))
section
variable {X:Cx}{pos:Pos}
theorem Bp:PE X (.Dict [] [] pos) FF:=λa_ s σ H Q I h=>
 wpAny_Dict_empty ⟨.ref s.heap.objs.size,_,I.laid (a:=s.heap.objs.size) (o:=.dK []) (t':=s.toks) (λ_ _ q=>Yd _ q) (YJ _) (Bo s.heap I.big),rfl,h _ (I.hok.fresh (YJ _))⟩
end
structure M1 (X:Cx) (o:Expr) (m:Str) (r_:Pos) (e:Expr) (E_:Pos):Prop where
 base:attributeBase o m X.env (eval o X.env)=eval o X.env
 few:((backTo E_ (starEach [e] X.env)).all (λx=>!x.1)&&(backToKw E_ (keywordEach [] X.env)).all (λx=>x.1.isSome)
  && decide (([e]:List Expr).length+([]:List Keyword).length+(if([]:List Keyword).isEmpty then 0 else 1)<30))=true
 line:(r_.endLine==E_.line)=true
 trees:backTo E_ (starEach [e] X.env)=[(false,eval e X.env)]
structure M2 (X:Cx) (o:Expr) (m:Str) (r_:Pos) (e f:Expr) (E_:Pos):Prop where
 base:attributeBase o m X.env (eval o X.env)=eval o X.env
 few:((backTo E_ (starEach [e,f] X.env)).all (λx=>!x.1)&&(backToKw E_ (keywordEach [] X.env)).all (λx=>x.1.isSome)
  && decide (([e,f]:List Expr).length+([]:List Keyword).length+(if([]:List Keyword).isEmpty then 0 else 1)<30))=true
 line:(r_.endLine==E_.line)=true
 trees:backTo E_ (starEach [e,f] X.env)=[(false,eval e X.env),(false,eval f X.env)]
end L2
namespace Att
open PySem PySem.W PySem.Calls PyProof.Rows
theorem pU{P:Params}{h:Heap}:∀(ns:Zn) (vs:Zh),WellAll P h vs (ns.map WData.int)->IntsAre vs ns:=by
 intro ns;induction ns with
 |nil=>
  intro vs w;rw[XC] at w;cases w;exact .nil
 |cons n ns c=>
  intro vs w;rw[YO] at w;cases w with
  |cons a b=>
   cases a;exact .cons _ _ (c _ b)
theorem zF{l:OpenLaw}{n:Nat}(hn:l.most=some n){P:Params}{h:Heap}{args:List WData}{b:Zh}
  (g:l.row.toRowW.claim.pre args=true) (j:WellAll P h b args):
  ∃a vs ns,b=[Value.ref a]/\args=[WData.list (ns.map WData.int)]/\h.get? a=some { cls:=.type "list",data:=.seq vs.toArray }/\IntsAre vs ns/\ns.length<=n:=by
 have k:WShape.hasAll [] args [.list .int]=true:=(pre_splitW g).1;have hc:l.pre.holds [] { args:=args }=true:=(pre_splitW g).2;obtain⟨d,r,rfl,m,h2⟩:=hasAllW_cons k;obtain rfl:=hasAllW_nil h2;obtain⟨xs,rfl,o⟩:=hasW_list m;obtain⟨ns,rfl⟩:=items_int o;have p:ns.length<=n:=by
  unfold OpenLaw.pre at hc;have c:(WTm.not (.lt (.lit (.int (n:Int))) (.len (.arg 0)))).holds [] { args:=[.list (ns.map .int)] }=true:=by
   have c:=(holds_andW hc).1;rw[hn] at c;exact c
  have f:=condW_of c (w_not (w_lt w_lit (w_len_list (w_arg rfl))));rw[ZG] at f;refine Nat.le_of_not_lt λq=>?_
  have t:(n:Int)<((ns.length:Nat):Int):=by omega
  first
   |(rw[YY t] at f;exact absurd f (by decide))
   |(simp at f;omega)
 cases j with
 |cons u w=>
  cases w;cases u with
  |list y z=>exact⟨_,_,ns,rfl,rfl,y,pU ns _ z,p⟩
theorem zG(l:OpenLaw)(args:List WData):l.row.toRowW.claim.post args (.bool true) args=true:=
 postW_of (r:=l.row.toRowW) (X:=(true==true))
  (show WShape.has [] (.bool true) .bool=true by first | rfl | decide | simp[WShape.has,WShape.arms,WShape.armsAll])
  (show(WTm.eq .res (.lit (.bool true))).value [] { args:=args,res:=some (.bool true),after:=args }=some (.bool (true==true)) from w_eq_bool (w_res rfl) w_lit) rfl
theorem wc{l:OpenLaw}{n:Nat}{q:ZS}{loose:Zk}{XP:(Str->Option Value)->Heap->Prop}{YP:World->Heap->Prop}{d:DefRec}
  (hn:l.most=some n) (t:d.params.defaults=[])
  (call:∀(w:World) (s₀ b:Shared) (mg mb:Zi) (g:Addr) (o:Obj) (pm j A_:Value) (a:Addr) (vs:Zh) (ns:Zn),
   Ground q loose [] XP w s₀ mg mb b.heap->YP w b.heap ->
   b.heap.get? g=some o->o.data=.func (docDef d.name d.params d.body d.scope pm j A_)->b.heap.CodeRec j d.name->mg d.name=some (.ref g) ->
   b.heap.get? a=some { cls:=.type "list",data:=.seq vs.toArray }->IntsAre vs ns->ns.length<=n->b.gens = #[] ->
   codeAny (model l.prog w) callerA (.call (.ref g) ⟨[.ref a],[]⟩) (λr k=>r=.ok (.ret (.bool true))/\OldK b.heap k.heap/\k.os=b.os/\AllBare k.gens) b):
  WalkO q loose XP YP l.row.toRowW d [] (λf vs=>PySem.call f vs):=by
 intro w s₀ b mg mb G Y g o pm j A_ u kV y hd z m A hg args p as B K L C O;obtain rfl:u=.none:=Dflts.none m t;obtain rfl:kV=.none:=Dflts.noKw m;obtain⟨a,vs,ns,rfl,rfl,E,c,F⟩:=zF hn B C;refine enter_call (codeAny_mono (call w s₀ b mg mb g o pm j A_ a vs ns G Y y (fd_plain hd) z A E c F hg) λr k hq=>?_);obtain⟨rfl,h2,I,J⟩:=hq;exact⟨.inl ⟨.bool true,.bool true,[],rfl,λ_=>rfl,.bool true,zG l _,λ_=>⟨List.Pairwise.nil,λ_ hm=>(nomatch hm)⟩⟩,h2,I,J⟩
section
variable {prog:ZS}{w:World}{A:Around}{E:Zd}{s:Shared}{K:Frag}
end
end Att
namespace L2
open PySem PySem.Spec PyProof.Rows
theorem sJ:∀{vs:Zh}{ns:Zn},IntsAre vs ns->Vals (ns.map V.int) vs
 |_,_,.nil=>.nil
 |_,_,.cons n t h=>.cons ⟨t,rfl⟩ (sJ h)
def Only(H:Hp):Prop:=∀b,H b=none \/ ∃o xs,H b=some (.frz o (.lst xs))
theorem Bq{P:ZS}{w:World}{K:Za}{mg mb:Zi}{CX:CXT}{k:Nat}{t a:Addr}{fd:ZD}{x:Str}{sp:Sp}{c:Shared}{vs:Zh}{ns:Zn}
  (y:K.In c.heap) (A:c.heap.Ns mainGlobals mg) (hb:c.heap.Ns builtinsNs mb) (J:∀x:Str,x ≠ "__name__"->mb x=bootBuiltins x) (L:c.heap.NoLimit) (hg:c.gens = #[])
  (ha:c.heap.get? a=some { cls:=.type "list",data:=.seq vs.toArray }) (hi:IntsAre vs ns) (hl:ns.length<=sizeLine) (O:Room k callerA)
  (F:∀base:Heap,K.In base->base.Ns mainGlobals mg->FnOk P w K mg base CX k t fd [x] sp) (R:∀(s:Shared) (u:Value),BindsTo s fd ⟨[u],[]⟩ [(x,u)])
  (S:∀H:Hp,Only H->SqL K H a (ns.map V.int)->sp [.ref a] H (λv _=>v=.bl true) λ_ _ _=>False)
  (T:∀H e f,CX [] H c (λ_ _ _=>False) e f->False):
  codeAny (model P w) callerA (.call (.ref t) ⟨[.ref a],[]⟩) (λr f=>r=.ok (.ret (.bool true))/\OldK c.heap f.heap/\f.os=c.os/\AllBare f.gens) c:=by
 have B:=sJ hi;have U:=hi.length
 -- from an abstract heap in which nothing but the script may be tracked
 have g:∀H:Hp,Only H->SqL K H a (ns.map V.int)->HOk P w H c.heap->(∀b,H b≠none->b=a)->(H a≠none->K.lookup a=none) ->
   codeAny (model P w) callerA (.call (.ref t) ⟨[.ref a],[]⟩) (λr f=>r=.ok (.ret (.bool true))/\OldK c.heap f.heap/\f.os=c.os/\AllBare f.gens) c:=by
  intro H C W hok E X;have G:∀{b:Addr}{o:Obj},c.heap.get? b=some o->H b=none->(hidT c.heap H).get? b=some o:=λe n=>A4 e n
  have Y:∀{b:Addr}{o:Obj}{es:Array DictEntry}{j:Nat},c.heap.get? b=some o->o.data=.dict es j->H b=none:=λ{b o es j} e d=>by
   cases q:H b with
   |none=>rfl
   |some u=>
    have e':b=a:=E b (by rw[q];simp);subst e';rw[ha] at e;cases e;have d':Data.seq vs.toArray _=Data.dict es j:=d;cases d'
  have p:∀{b:Addr}{m:Zi},c.heap.Ns b m->(hidT c.heap H).Ns b m:=λ{b m} ⟨o,es,j,e,d,r⟩=>⟨o,es,j,G e (Y e d),d,r⟩
  have I:K.In (hidT c.heap H):=λb o e=>G (y b o e) (by
   cases q:H b with
   |none=>rfl
   |some u=>
    have e':b=a:=E b (by rw[q];simp);subst e';rw[X (by rw[q];simp)] at e;cases e)
  have Z:Mod K mg (hidT c.heap H):=⟨I,p A,⟨mb,p hb,J⟩,let⟨mc,h1,h2⟩:=L;⟨mc,p h1,h2⟩⟩;have e0:Env0 P w K mg (hidT c.heap H) callerA [] c H:=⟨rfl,Z,λb o e=>C7 e,Nat.le_of_eq (zh _ _),trivial,λb hb=>absurd (show b∈([]:List Addr) from hb) (by simp),hok,.of_eq hg⟩;refine codeAny_mono ((F _ I (p A)).run callerA [] c H ⟨[.ref a],[]⟩ [.ref a] [.ref a] _ _ O e0 (R c (.ref a)) (.cons rfl .nil) (S H C W)) λr f h=>?_
  cases r with
  |error e=>exact(T H e f h).elim
  |ok fl=>
   cases fl with
   |next=>exact Yh h
   |brk=>exact Yh h
   |cont=>exact Yh h
   |ret u=>
    obtain⟨v,H',os,bare,un,KD,r',q⟩:=h;have q':v=.bl true:=q;subst q';obtain rfl:u=Value.bool true:=r';refine⟨rfl,OldK.of_keep λb o e=>?_,os,bare⟩;cases q:H b with
    |none=>exact un.keep b o e q (by intro z;exact absurd (show b∈([]:List Addr) from z) (by simp)) (by simp)
    |some u=>
     rcases C b with z | ⟨ob,xs,z⟩
     ·rw[q] at z;cases z
     ·have z2:=un.frzs b ob _ z
      obtain⟨e1,_⟩:=hok b _ z;obtain⟨e2,_⟩:=KD b _ z2;rw[e] at e1;cases e1;exact e2
 cases hk:K.lookup a with
 |some o=>
  -- the script is one of the module's own objects
  have e:=y a o hk;rw[ha] at e;cases e;refine g (λ_=>none) (λ_=>.inl rfl) (.inr ⟨_,vs.toArray,_,hk,rfl,rfl,rfl,by rw[YL,U];exact hl,by simpa using B⟩) (λb u z=>by have l:(none:Option HO)=some u:=z;cases l) (λb z=>absurd rfl z) λz=>absurd rfl z
 |none=>
  refine g (λb=>if b=a then some (.frz { cls:=.type "list",data:=.seq vs.toArray } (.lst (ns.map V.int))) else none) (λb=>?_) (.inl (.inr ⟨{ cls:=.type "list",data:=.seq vs.toArray },if_pos rfl⟩)) (λb u z=>?_) (λb z=>?_) λ_=>hk
  ·by_cases hb:b=a
   ·exact .inr ⟨_,_,if_pos hb⟩
   ·exact .inl (if_neg hb)
  ·by_cases hb:b=a
   ·have l:=(if_pos hb).symm.trans z
    cases l;subst hb;exact⟨ha,by rw[ZG];exact hl,vs,_,B,ha⟩
   ·have l:=(if_neg hb).symm.trans z
    cases l
  ·by_cases hb:b=a
   ·exact hb
   ·exact absurd (if_neg hb) z
theorem DA{l:PySem.W.OpenLaw}{n k:Nat}{q:ZS}{loose:Zk}{XP:(Str->Option Value)->Heap->Prop}{YP:World->Heap->Prop}{d:DefRec}{K:Params->PySem.W.Frag}{CX:World->CXT}{sp:World->Sp}{x:Str}
  (hn:l.most=some n) (t:n<=sizeLine) (y:d.params.defaults=[]) (z:Room k callerA)
  (A:∀(w:World) (h:Heap),YP w h->(K w.params).In h)
  (F:∀(w:World) (mg:Zi) (j:Addr) (h:Heap),(K w.params).In h->h.Ns mainGlobals mg->mg d.name=some (.ref j) ->
   ∃fd:FuncData,(∀(s:Shared) (u:Value),BindsTo s fd ⟨[u],[]⟩ [(x,u)]) /\
    ∀base:Heap,(K w.params).In base->base.Ns mainGlobals mg->FnOk l.prog w (K w.params) mg base (CX w) k j fd [x] (sp w))
  (B:∀(w:World) (H:Hp) (a:Addr) (ns:Zn),ns.length<=n->Only H->SqL (K w.params) H a (ns.map V.int)->sp w [.ref a] H (λv _=>v=.bl true) λ_ _ _=>False)
  (C:∀(w:World) (H:Hp) (s:Shared) (e:Value) (m:Shared),CX w [] H s (λ_ _ _=>False) e m->False):
  PySem.W.WalkO q loose XP YP l.row.toRowW d [] (λf vs=>PySem.call f vs):=by
 refine Att.wc hn y λw s₀ E mg mb j o pm R A_ a vs ns G Y S hd U I J c p hg=>?_
 have r:=A w _ Y;obtain⟨fd,hb,L⟩:=F w mg j _ r G.T.g I;exact Bq r G.T.g G.T.b G.T.builtins G.T.nolimit hg J c (YA p t) z L hb (λH O P=>B w H a ns p O P) λH e m=>C w H E e m
def inClass(s:Stmt)(j:Nat):Stmt:=match s with
 |.ClassDef _ _ _ a _ _ _ _ _ _ _=>a.getD j (.Pass ⟨0,0,0,0⟩)
 |_=>.Pass ⟨0,0,0,0⟩
def bh(s:Stmt):Arguments:=match s with
 |.FunctionDef _ a _ _ _ _ _ _ _ _=>a
 |_=>{ posonlyargs:=[],args:=[],vararg:=none,kwonlyargs:=[],kw_defaults:=[],kwarg:=none,defaults:=[] }
def aG(s:Stmt):List Stmt:=match s with
 |.FunctionDef _ _ b _ _ _ _ _ _ _=>b
 |_=>[]
def af(s:Stmt):Scope:=match s with
 |.FunctionDef _ _ _ _ _ _ sc _ _ _=>sc
 |_=>{ kind:=.function,names:=[],isGenerator:=false,isCoroutine:=false }
abbrev CX0:CXT:=λ_ _ _ _ _ _=>False
abbrev E0:XK:=λ_ _ _=>False
theorem tZ{X:Cx}:mV CX0 X E0:=λ_ _ _ _ _ _ _ h=>h.elim
structure Fun (K:Za) (x l_:Str) (st:Stmt) (f:Addr) (fd:ZD):Prop where
 ex:∃(oc:Value) (od:Zr) (kV A_ pm:Value) (an:Zr) (x_ ct:Value) (Hl:Zs),
  fd=PySem.W.fnOf x l_ (bh st) (aG st) (af st) .none kV A_ pm an x_ ct/\K.lookup f=some ⟨oc,od,.func fd,Hl⟩/\PySem.W.codeIn K x_ l_=true
 kp:PySem.W.keepIn K (.ref f)=true
section
variable {P:ZS}{w:World}{K:Za}{mg:Zi}{base:Heap}
theorem Fun.ok{x l_:Str}{st:Stmt}{f:Addr}{fd:ZD}{N ps:Zk}{k:Nat}{sp:Sp}(F:Fun K x l_ st f fd)(S:FnScope N ps (af st))(len:∀vs H Q E,sp vs H Q E->vs.length=ps.length)
  (a:∀(x_:Value) (A:Around) (outer:List Env) (s:Shared) (H:Hp) (vs:List V) (Q:VK) (E:XK),Room k (A.deeper (envOfC l_ (af st) s.heap.objs.size f x_))->sp vs H Q E ->
   ∃t,PSs (cxOf CX0 P w K mg base N l_ (af st) f x_ A outer s H E).nox (aG st) t/\t { nx:=λ_ H'=>Q .non H',rt:=Q } (start N vs) H):FnOk P w K mg base CX0 (k+1) f fd ps sp:=by
 obtain⟨oc,od,kV,A_,pm,an,x_,ct,Hl,rfl,b,c⟩:=F.ex;refine GX b c S len λA outer s H vs Q E d g=>?_
 obtain⟨t,h,q⟩:=a x_ A outer s H vs Q E d g;exact⟨t,h.nox,q⟩
theorem Fun.binds{x l_:Str}{st:Stmt}{f:Addr}{fd:ZD}{ps:Zk}(F:Fun K x l_ st f fd)
  (h:∀(kV A_ pm:Value) (an:Zr) (x_ ct:Value) (us:Zh),us.length=ps.length->bindArgs (PySem.W.fnOf x l_ (bh st) (aG st) (af st) .none kV A_ pm an x_ ct) ⟨us,[]⟩=pure (ps.zip us)):Binds K fd ps []:=by
 obtain⟨oc,od,kV,A_,pm,an,x_,ct,Hl,rfl,a,b⟩:=F.ex;exact .all (h kV A_ pm an x_ ct)
theorem uo{x l_:Str}{st:Stmt}{f:Addr}{oc:Value}{od an:Zr}{Hl:Zs}{kV A_ pm x_ ct:Value}(l:K.lookup f=some ⟨oc,od,.func (PySem.W.fnOf x l_ (bh st) (aG st) (af st) .none kV A_ pm an x_ ct),Hl⟩)
  (c:PySem.W.codeIn K x_ l_=true) (k:PySem.W.keepIn K (.ref f)=true):Fun K x l_ st f (PySem.W.fnOf x l_ (bh st) (aG st) (af st) .none kV A_ pm an x_ ct):=⟨⟨oc,od,kV,A_,pm,an,x_,ct,Hl,rfl,l,c⟩,k⟩
end
theorem sK{n:Nat}(h:n<=1000):n<sizeLine:=XN h (by decide)
section
variable {X:Cx}
theorem zH:dr X (.builtin "len") (λxs H Q=>∃a b,xs=[V.ref a]/\H a=some (.dK b)/\Q (.int b.length) H):=by
 intro a_ s σ H xs us Q I r h;obtain⟨a,b,rfl,ha,q⟩:=h;obtain⟨u,rfl,c⟩:=vals1 r;cases c;exact CN I (.inl ha) λt f d=>⟨.int b.length,H,d,⟨t,rfl⟩,q⟩
end
def hV(cells:Zw):List (Str×NameKind)->List (Str×Addr)->List (Str×Addr)
 |[],g_=>g_
 |(n,k)::r,g_=>hV cells r (if k==.free then(n,(cells.lookup n).getD 0)::g_ else g_)
def clOf(scope:Scope)(env:Env):List (Str×Addr):=hV env.cells scope.names []
theorem tM{scope:Scope}{env:Env}(h:∀x∈scope.names,x.2=.free->∃c,env.cells.lookup x.1=some c):closureFor scope env=pure (clOf scope env):=by
 have b:∀(l:List (Str×NameKind)) (g_:Zw),(∀x∈l,x.2=.free->∃c,env.cells.lookup x.1=some c) ->
   (forIn l g_ λ(x:Str×NameKind) (d:Zw)=>
    (if x.2==.free then(do let c ←cellOf env x.1;pure (ForInStep.yield ((x.1,c)::d))) else pure (ForInStep.yield d):Sem (ForInStep (List (Str×Addr)))))=pure (hV env.cells l g_):=by
  intro l;induction l with
  |nil=>intro g_ _;rfl
  |cons x r g=>
   intro g_ hx;obtain⟨n,k⟩:=x;have a:=g (if k==.free then(n,(env.cells.lookup n).getD 0)::g_ else g_) λy hy=>hx y (YD _ hy)
   rw[List.forIn_cons];by_cases hk:k=.free
   ·subst hk
    obtain⟨c,hc⟩:=hx (n,.free) YC rfl;have e:cellOf env n=pure c:=by unfold cellOf;rw[hc]
    have f:env.cells.lookup n=some c:=hc;simp only[XI,if_true,f,Option.getD_some] at a;simp only[XI,if_true,e,pure_bind];rw[a];simp only[hV,XI,if_true,f,Option.getD_some]
   ·have hb:(k==NameKind.free)=false:=by simpa using hk
    simp only[hb,XH,if_false] at a;simp only[hb,XH,if_false,pure_bind];rw[a];simp only[hV,hb,XH,if_false]
 have:=b scope.names [] h
 unfold closureFor clOf;simp only[bind_pure];exact this
theorem pV{cells:Zw}:∀{l:List (Str×NameKind)}{g_:Zw}{p:Str×Addr},p∈hV cells l g_->p∈g_\/((p.1,NameKind.free)∈l/\p.2=(cells.lookup p.1).getD 0)
 |[],_,_,h=>.inl h
 |(n,k)::r,g_,p,h=>by
  rcases pV (l:=r) h with q | ⟨q1,q2⟩
  ·by_cases hk:k=.free
   ·subst hk
    simp only[XI,if_true] at q;rcases YE.mp q with e | q
    ·subst e;exact .inr ⟨YC,rfl⟩
    ·exact .inl q
   ·have hb:(k==NameKind.free)=false:=by simpa using hk
    simp only[hb,XH,if_false] at q;exact .inl q
  ·exact .inr ⟨YD _ q1,q2⟩
theorem pX{cells:Zw}:∀{l:List (Str×NameKind)}{g_:Zw}{p:Str×Addr},p∈g_->p∈hV cells l g_
 |[],_,_,h=>h
 |(n,k)::r,g_,p,h=>by
  refine pX (l:=r) ?_;split
  ·exact YD _ h
  ·exact h
theorem pY{cells:Zw}:∀{l:List (Str×NameKind)}{g_:Zw}{n:Str},(n,NameKind.free)∈l->∃c,(n,c)∈hV cells l g_
 |(m,k)::r,g_,n,h=>by
  rcases YE.mp h with e | h
  ·cases e
   exact⟨_,pX (l:=r) (by simp only[XI,if_true];exact YC)⟩
  ·exact pY (l:=r) h
theorem hZ{a:Type}:∀{l:List (Str×a)}{n:Str}{c:a},(n,c)∈l->∃d,l.lookup n=some d
 |(m,d)::r,n,c,h=>by
  rcases YE.mp h with e | h
  ·cases e;exact⟨d,by simp[XO]⟩
  ·cases hb:n==m with
   |true=>exact⟨d,by simp[XO,hb]⟩
   |false=>
    obtain⟨d',e⟩:=hZ (l:=r) h;exact⟨d',by simp[XO,hb,e]⟩
theorem ic{scope:Scope}{env:Env}(h:∀x∈scope.names,x.2=.free->∃c,env.cells.lookup x.1=some c){y:Str}{c:Addr}(e:(clOf scope env).lookup y=some c):env.cells.lookup y=some c:=by
 have m:=PySem.mem_of_lookup e;rcases pV m with z | ⟨z1,z2⟩
 ·cases z
 ·obtain⟨d,f⟩:=h _ z1 rfl
  have a:env.cells.lookup y=some d:=f;have b:c=(env.cells.lookup y).getD 0:=z2;rw[a] at b;rw[a,b];rfl
theorem zI{scope:Scope}{env:Env}(h:∀x∈scope.names,x.2=.free->∃c,env.cells.lookup x.1=some c){y:Str}{c:Addr}(hy:(y,NameKind.free)∈scope.names)(e:env.cells.lookup y=some c):
  (clOf scope env).lookup y=some c:=by
 obtain⟨b,m⟩:=pY (cells:=env.cells) (g_:=[]) hy;obtain⟨d,q⟩:=hZ m;have a:(clOf scope env).lookup y=some d:=q
 have:=ic h a
 rw[e] at this;rw[a,←this]
theorem dw{env:Env}:∀{names:List (Str×NameKind)}{x:Str},
  (names.map λ(n,k)=>if(k==NameKind.free&&env.scope.kind==.function&&env.kindOf n==some .cell) then(n,NameKind.cell) else(n,k)).lookup x =
   (names.lookup x).map λk=>if(k==NameKind.free&&env.scope.kind==.function&&env.kindOf x==some .cell) then NameKind.cell else k
 |[],_=>rfl
 |(n,k)::r,x=>by
  have a:=@dw env r x;show List.lookup x ((if(k==NameKind.free&&env.scope.kind==.function&&env.kindOf n==some .cell)=true then(n,NameKind.cell) else(n,k))::_)=_;cases hx:x==n with
  |true=>
   have e:x=n:=by simpa using hx
   subst e;by_cases hc:(k==NameKind.free&&env.scope.kind==.function&&env.kindOf x==some .cell)=true
   ·rw[if_pos hc];simp only[XO,XI,Option.map_some];rw[if_pos hc]
   ·rw[if_neg hc];simp only[XO,XI,Option.map_some];rw[if_neg hc]
  |false=>
   by_cases hc:(k==NameKind.free&&env.scope.kind==.function&&env.kindOf n==some .cell)=true
   ·rw[if_pos hc];simp only[XO,hx];exact a
   ·rw[if_neg hc];simp only[XO,hx];exact a
structure CompScope (HQ scope:Scope) (N own N2:Zk):Prop where
 kind:scope.kind=.function
 nocell:∀y∈scope.names,y.2≠.cell
 names:∀y∈scope.names,y.2=.local->scope.names.lookup y.1=some .local
 free:∀y∈scope.names,y.2=.free->(HQ.names.lookup y.1=some .cell\/HQ.names.lookup y.1=some .free)
 len:N2.length=N.length
 vis:∀p∈N2.zip N,(scope.names.lookup p.1=some .free->p.1=p.2)/\scope.names.lookup p.1≠some .local
def cxC(X:Cx)(scope:Scope)(own N2:Zk)(C:Addr)(s:Shared)(H:Hp)(ex:Zm)(pn:Zg):Cx where
 prog:=X.prog
 w:=X.w
 K:=X.K
 mg:=X.mg
 base:=X.base
 A:=X.A
 N:=N2++own
 s₀:=s
 H₀:=H
 env:=compEnvC scope (clOf scope X.env) C X.env
 outer:=X.stack
 stack:=X.stack
 ex:=ex
 calm:=X.calm
 fn:=λ_=>false
 pn:=pn
 xe:=λ_ _=>False
theorem Un.track{fs ex:Zm}{H H':Hp}{h h':Heap}{a:Addr}{o:HO}(u:Un fs ex H H' h h')(hp:h.objs.size<=a)(hn:H a=none):Un fs ex H (upd H' a o) h h' where
 keep:=u.keep
 slot:=u.slot
 free:=λb c q n hx=>by rw[aD (ZX (ZV (Ye q) hp))];exact u.free b c q n hx
 there:=u.there
 tups:=λb xs q=>by rw[aD (aT q hn)];exact u.tups b xs q
 frzs:=λb c xs q=>by rw[aD (aT q hn)];exact u.frzs b c xs q
 tbls:=λb ps q=>by rw[aD (aT q hn)];exact u.tbls b ps q
def PTs(X:Cx)(a:Zl)(t:TT):Prop:=
 ∀(a_:Zg) (s:Shared) (σ:St) (H:Hp) (Q:Bool->Hp->Prop),Inv X a_ σ H s->t σ H Q ->
  wpAny (model X.prog X.w) X.A (forIn a true λc r=>if r=true then do let ok ←isTrue c X.env (eval c X.env);pure (ForInStep.yield ok) else pure (ForInStep.yield r)) (TP X a_ σ Q) X.xe s
def tYes:TT:=λ_ H Q=>Q true H
theorem DB{X:Cx}:PTs X [] tYes:=λ_ _ _ H _ I h=>wpAny_tests_nil ⟨H,I,h⟩
theorem DC{X:Cx}{c:Expr}{t:TT}(h:PT X c t):PTs X [c] t:=λa_ s σ H Q I q=>wpAny_tests_one (h a_ s σ H Q I q)
def t5(J:It)(g:TG)(tc:TT)(te:TE)(Fin:List V->Hp->Prop)(σ0:St)(l:Hp):Prop:=
 ∃W:Nat->Nat->List V->St->Hp->Prop,(∃m,W 0 m [] σ0 l)/\∀i m a σ H,W i m a σ H ->
  (J.stop i H/\Fin a H)\/(J.go i H/\a.length<sizeLine/\∃N:List V->St->Hp->Prop,(∀d f H',N d f H'->∃j,j<m/\W (i+1) j d f H') /\
   ∀x H',J.yld i H x H'->g x σ H' λc n=>tc c n λb k=>if b=true then te c k (λy o=>N (a++[y]) c o) else N a c k)
section
variable {prog:ZS}{w:World}{A:Around}{R:Result->Shared->Prop}{s:Shared}
theorem oH{g a b:Expr}{d:Zl}{scope:Scope}{pos:Pos}{it g_:Value}{env:Env}(I:Nat->Shared->Prop)
  (f:∀n s,I n s->wpAny (model prog w) A (pyNext it) (λr j=>match r with
   |none=>R (.ok .next) j
   |some v=>wpAny (model prog w) A (letOwnedTupleGo a it v) (λ_ l=>wpAny (model prog w) A (assign a env v) (λ_ o=>
     wpAny (model prog w) A (forIn d true λc r=>if r=true then do let ok ←isTrue c env (eval c env);pure (ForInStep.yield ok) else pure (ForInStep.yield r)) (λok k=>
      if ok=true then wpAny (model prog w) A (eval g env) (λx p=>
       wpAny (model prog w) A (call (.builtin "list.append") [g_,x]) (λ_ t=>∃m,m<n/\I m t) (λ_ _=>False) p) (λ_ _=>False) k
      else ∃m,m<n/\I m k) (λ_ _=>False) o) (λ_ _=>False) l) (λ_ _=>False) j) (λ_ _=>False) s)
  (n:Nat) (h:I n s):
  codeAny (model prog w) A (.compLoop (.ListComp g [⟨a,b,d,0⟩] scope pos) 0 it g_ env) R s:=by
 refine codeAny_loop rfl I (λn s z=>?_) n h;show wpAny _ A ((compTurn (.ListComp g [⟨a,b,d,0⟩] scope pos) 0 it g_ env).onRaise (λx=>do noteFrame x env;theTreesLotGoes x)) _ _ s;refine wpAny_noted (wpAny_noRaise ?_);rw[compTurn_list];refine Yb (Yk (Yb (wpAny_mono (f n s z) (λr j u=>?_) λ_ _ h'=>h')));cases r with
 |none=>exact Yc u
 |some v=>
  refine Yb (wpAny_mono u (λ_ l B=>?_) λ_ _ h'=>h');refine Yb (wpAny_mono B (λ_ o C=>Yb (wpAny_mono C (λok k y=>?_) λ_ _ h'=>h')) λ_ _ h'=>h');cases ok with
  |false=>exact Yc ⟨rfl,y⟩
  |true=>
   exact Yb (Yb (wpAny_mono y (λx p E=>Yb (wpAny_mono E (λ_ t F=>Yc (Yc ⟨rfl,F⟩)) λ_ _ h'=>h')) λ_ _ h'=>h'))
end
section
variable {X:Cx}{a_:Zg}{σ:St}{H:Hp}{s:Shared}
theorem sL{Hj tg l:Expr}{Z:Zl}{scope HQ:Scope}{N own N2:Zk}{pos ac:Pos}{wi:TI}{g:TG}{tc:TT}{te:TE}{use:Option (Value->Sem Unit)}{QQ:Zd}{Fin:List V->Hp->Prop}
  (E:CompScope HQ scope N own N2) (ho:X.env.scope=HQ) (hN:X.N=N) (hc:X.calm=true) (hi:PI X tg l wi)
  (hg:∀C s H ex pn,PG (cxC X scope own N2 C s H ex pn) tg g) (ht:∀C s H ex pn,PTs (cxC X scope own N2 C s H ex pn) Z tc) (he:∀C s H ex pn,PE (cxC X scope own N2 C s H ex pn) Hj te)
  (I:Inv X a_ σ H s) (h:wi σ H λJ H1=>t5 J g tc te Fin (σ++List.replicate own.length none) H1)
  (fin:∀(D C:Addr) (t:List V) (H':Hp) (L:Shared) (m:Zi),Fin t H'->H' D=none->Inv X a_ σ (upd H' D (.lst t)) L->L.heap.Ns C m->FpOk X a_ (upd H' D (.lst t)) C ->
   compPost (model X.prog X.w) X.A X.xe use QQ (.ref D) C (.ok .next) L)
  (hs:∀x,foldedSetIterable l X.env x=pure x):
  wpAny (model X.prog X.w) X.A (comprehension (.ListComp Hj [⟨tg,l,Z,0⟩] scope pos) scope X.env ac (newList []) false (eval l X.env) use) QQ X.xe s:=by
 subst ho hN;have F:∀x∈scope.names,x.2=.free->∃c,X.env.cells.lookup x.1=some c:=λx hx hf=>I.ok.has x.1 (E.free x hx hf)
 refine wpAny_comprehension_free (use:=use) rfl hs (tM F) E.kind E.names (thn (hi a_ s σ H _ I h) λv s1 h1=>thn h1 λND s2 h2=>?_);obtain⟨it,fp,tn,J,O,e,a,T,HN,R,W,⟨m0,w0⟩,ap⟩:=h2;subst e;refine wpAny_newObj_type (wpAny_newFunctionEnv E.nocell (by intro y hy;simp at hy) (λHR Io HS=>?_) E.kind);dsimp only at Io HS ⊢;generalize hG:s2.heap.push { cls:=.type "list",dict:=none,data:=.seq ([]:List Value).toArray }=G at Io HS ⊢;have hC:G.objs.size=s2.heap.objs.size+1:=by rw[←hG,Heap.size_push]
 have Ng:s2.heap.objs.size≠G.objs.size:=by rw[hC];exact ZX (Nat.lt_succ_self _)
 have KG:s2.heap.objs.size<=G.objs.size:=by rw[hC];exact YR _
 have f:∀b,b<s2.heap.objs.size->b≠G.objs.size/\b≠s2.heap.objs.size:=λb hb=>⟨by rw[hC];exact ZX (Nat.lt_succ_of_lt hb),ZX hb⟩
 have B:∀b o,s2.heap.get? b=some o->HR.get? b=some o:=λb o e=>HS.extBut b o (f b (Ye e)).1 (Yd _ (hG▸Yd _ e))
 have F_:HR.get? s2.heap.objs.size=some (LCg.lst []):=HS.extBut _ _ Ng (Yd _ (hG▸Yg _ rfl));have JN:∀b∈fp,b<s2.heap.objs.size:=λb hb=>let⟨o,e,_⟩:=T.obj 0 _ HN b hb;Ye e
 have Qd:O s2.heap.objs.size=none:=a.hok.fresh (YJ _);have Rx:O G.objs.size=none:=a.hok.fresh KG;have KH:∀x c,X.env.cells.lookup x=some c->c<s2.heap.objs.size:=λx c e=>let⟨v,z⟩:=a.cell x c e;z.lt
 have LO:∀p∈X.pn++a_,p.1<s2.heap.objs.size:=λp hp=>Ye (a.pin p hp).1
 -- the block's context
 generalize hX:cxC X scope own N2 G.objs.size s2 O fp (X.pn++a_)=j;have KD:j.Ok:=by
  subst hX;refine⟨a.ok.mod,E.kind,a.ok.glob,a.ok.blt,KG,λx y c e1 e2=>a.ok.inj x y c (ic F e1) (ic F e2),λx hx=>?_,λx c hf=>?_,a.ok.hd,a.ok.frames,.inl rfl,λb hb=>?_,a.bs,
   YA a.ok.bsz a.sz,λb o e hb=>?_,λb hb hz=>?_,a.stack,a.stkFree⟩
  ·have KI:(relabel scope X.env).names.lookup x=some .cell\/(relabel scope X.env).names.lookup x=some .free:=hx
   unfold relabel at KI;dsimp only at KI;rw[dw] at KI;have hm:∃k,scope.names.lookup x=some k:=by
    cases q:scope.names.lookup x with
    |none=>rw[q] at KI;rcases KI with z | z<;>cases z
    |some k=>exact⟨k,rfl⟩
   obtain⟨k,hk⟩:=hm;have Hx:=PySem.mem_of_lookup hk;have Ry:k=.free:=by
    rw[hk] at KI;cases k with
    |free=>rfl
    |cell=>exact absurd rfl (E.nocell _ Hx)
    |_=>rcases KI with z | z<;>cases z
   subst Ry;obtain⟨c,hc⟩:=F _ Hx rfl;exact⟨c,zI F Hx hc⟩
  ·cases hf
  ·obtain⟨_,f1,ff,fx,fc,Qe⟩:=R b hb
   exact⟨(f b (JN b hb)).1,λx c e=>fc x c (ic F e)⟩
  ·obtain⟨_,_,_,fx,_,_⟩:=R b hb
   rcases fx with z | z
   ·exact a.ok.noex b o e z
   ·exact absurd (ZV (Ye e) (YA a.ok.bsz z)) (ZW _)
  ·obtain⟨_,f1,ff,_⟩:=R b hb
   rcases YE.mp (a.stkSub b hz) with z | z
   ·exact f1 z
   ·exact ff z
 have I0:Inv j [(s2.heap.objs.size,LCg.lst [])] (σ++List.replicate own.length none) O { s2 with heap:=HR,toks:=s2.toks+([]:List (Str×Value)).length }:=by
  subst hX;refine⟨KD,rfl,a.bare,Un.kept B,⟨_,Io,λi x v e1 e2 e3=>?_⟩,λx c e=>?_,Rx,λx c e=>a.freeC x c (ic F e),λp hp=>?_,a.hok.kept B,?_⟩
  ·have e1:(N2++own)[i]?=some x:=e1
   have Nh:i<σ.length:=by
    by_cases Nh:i<σ.length
    ·exact Nh
    ·rw[ZI (by omega),List.getElem?_replicate] at e2
     split at e2<;>cases e2
   rw[ZF Nh] at e2;have o_:N2.length=σ.length:=E.len.trans a.len.symm;rw[ZF (by omega)] at e1;have Qf:i<X.N.length:=by rw[←a.len];exact Nh
   have hz:(x,X.N[i])∈N2.zip X.N:=by
    refine YW (i:=i) ?_;rw[List.getElem?_zip_eq_some];exact⟨e1,ZE Qf⟩
   obtain⟨v1,v2⟩:=E.vis _ hz;have KJ:Vis (relabel scope X.env) x:=e3;have Oq:scope.names.lookup x=some .free:=by
    unfold Vis relabel at KJ;dsimp only at KJ;rw[dw] at KJ;cases q:scope.names.lookup x with
    |none=>rw[q] at KJ;rcases KJ with z | z | z<;>cases z
    |some k=>
     rw[q] at KJ;cases k with
     |free=>rfl
     |cell=>exact absurd rfl (E.nocell _ (PySem.mem_of_lookup q))
     |«local»=>exact absurd q v2
     |_=>rcases KJ with z | z | z<;>cases z
   have Hx:=PySem.mem_of_lookup Oq;have ex:x=X.N[i]:=v1 Oq;have Rz:X.N[i]?=some x:=by rw[ex];exact ZE Qf
   have Qg:=E.free _ Hx rfl;obtain⟨m,hn,hl⟩:=a.loc;obtain⟨u,ru,lk⟩:=hl i x v Rz e2 (.inr Qg);refine⟨u,ru,?_⟩;rcases lk with⟨k,_⟩ | ⟨k,c,ec,z⟩
   ·have k':X.env.scope.names.lookup x=some .local:=k
    rcases Qg with q | q<;>(have q':X.env.scope.names.lookup x=_:=q;rw[k'] at q';cases q')
   ·refine .inr ⟨?_,c,zI F Hx ec,?_⟩
    ·show(relabel scope X.env).names.lookup x=some .cell\/(relabel scope X.env).names.lookup x=some .free
     unfold relabel;dsimp only;rw[dw,Oq];show some (if _ then NameKind.cell else NameKind.free)=_\/some (if _ then NameKind.cell else NameKind.free)=_;split
     ·exact .inl rfl
     ·exact .inr rfl
    ·obtain⟨o,eo,d⟩:=z
     exact⟨o,B _ _ eo,d⟩
  ·obtain⟨v,o,eo,d⟩:=a.cell x c (ic F e)
   exact⟨v,o,B _ _ eo,d⟩
  ·have hp:p∈(X.pn++a_)++[(s2.heap.objs.size,LCg.lst [])]:=hp
   rcases YF.mp hp with hp | hp
   ·obtain⟨e,n,nl,nf,d⟩:=a.pin p hp
    refine⟨B _ _ e,n,(f _ (Ye e)).1,λhz=>?_,d⟩;rcases YE.mp (a.stkSub p.1 hz) with z | z
    ·exact nl z
    ·exact nf z
   ·have e:p=(s2.heap.objs.size,LCg.lst []):=by simpa using hp
    subst e;refine⟨F_,Qd,Ng,λhz=>?_,λv z=>by cases z⟩;rcases YE.mp (a.stkSub _ hz) with z | z
    ·exact absurd a.lt (by rw[←z];exact ZW _)
    ·exact a.nofs (YJ _) z
  ·show(σ++List.replicate own.length none).length=(N2++own).length
   rw[ZN,ZN,List.length_replicate,E.len,a.len]
 have Ik:∀{H':Hp}{us:Zh},(∀b∈fp,H' b=none)->∀b∈fp,FpOk j [(s2.heap.objs.size,LCg.lst us)] H' b:=λ{H' us} hn b hb=>by
  subst hX;obtain⟨_,f1,ff,fx,fc,Qe⟩:=R b hb;refine⟨hn b hb,(f b (JN b hb)).1,λhz=>?_,.inl hb,λx c e=>fc x c (ic F e),λp hp z=>?_⟩
  ·rcases YE.mp (a.stkSub b hz) with z | z
   ·exact f1 z
   ·exact ff z
  ·have hp:p∈(X.pn++a_)++[(s2.heap.objs.size,LCg.lst us)]:=hp
   rcases YF.mp hp with hp | hp
   ·exact Qe p hp z
   ·have e:p=(s2.heap.objs.size,LCg.lst us):=by simpa using hp
    subst e;exact(f b (JN b hb)).2 z.symm
 have eP:j.prog=X.prog:=by subst hX;rfl
 have eW:j.w=X.w:=by subst hX;rfl
 have eK:j.K=X.K:=by subst hX;rfl
 have eA:j.A=X.A:=by subst hX;rfl
 have eE:j.env=compEnvC scope (clOf scope X.env) G.objs.size X.env:=by subst hX;rfl
 have eX:j.xe=λ_ _=>False:=by subst hX;rfl
 have eC:j.calm=true:=by subst hX;exact hc
 have eS:j.s₀=s2:=by subst hX;rfl
 have eH:j.H₀=O:=by subst hX;rfl
 have eF:j.fs=frs X.stack:=by subst hX;rfl
 have RA:j.ex=fp:=by subst hX;rfl
 have eN:j.pn=X.pn++a_:=by subst hX;rfl
 have z_:=hg G.objs.size s2 O fp (X.pn++a_);have Kj:=ht G.objs.size s2 O fp (X.pn++a_);have Qh:=he G.objs.size s2 O fp (X.pn++a_);rw[hX] at z_ Kj Qh;have U:∀Im:Shared,Im={ s2 with heap:=HR,toks:=s2.toks+([]:List (Str×Value)).length } ->
   codeAny (model X.prog X.w) X.A (.compLoop (.ListComp Hj [⟨tg,l,Z,0⟩] scope pos) 0 (.ref it) (.ref s2.heap.objs.size) (compEnvC scope (clOf scope X.env) G.objs.size X.env))
    (compPost (model X.prog X.w) X.A X.xe use QQ (.ref s2.heap.objs.size) G.objs.size) Im:=by
  rintro Im rfl;refine oH (λn L=>∃i t us k_ H',Inv j [(s2.heap.objs.size,LCg.lst us)] k_ H' L/\tn i L.heap/\(∀b∈fp,H' b=none)/\Vals t us/\t.length<=sizeLine/\W i n t k_ H') ?_ m0
   ⟨0,[],[],_,O,I0,T.keep 0 _ _ HN λb _ o e=>B b o e,λb hb=>(R b hb).1,.nil,YQ _,w0⟩
  rintro n s3 ⟨i,t,us,Hw,P,I3,JF,Lz,hv,hz,w3⟩;rcases ap i n t Hw P w3 with⟨stop,qn⟩ | ⟨go,G_,NN,Qi,step⟩
  ·have dn:=T.done j eP eW eK eC i _ s3 Hw P (λ_ _=>False) I3 (Ik Lz) JF stop
   rw[eA] at dn;refine thn dn λr s4 Hv=>?_
   obtain⟨hr,I4⟩:=Hv;subst hr;have Y:=I4.pin (s2.heap.objs.size,LCg.lst us) (YK _ YC);have Ot:P s2.heap.objs.size=none:=Y.2.1;have RB:P G.objs.size=none:=by have:=I4.free;rw[eE] at this;exact this
   have un:Un (frs X.stack) fp O P s2.heap s4.heap:=by have:=I4.base;rw[eF,RA,eH,eS] at this;exact this
   have RC:HOk X.prog X.w P s4.heap:=by have:=I4.hok;rw[eP,eW] at this;exact this
   have Ou:HOk X.prog X.w (upd P s2.heap.objs.size (.lst t)) s4.heap:=λb u e=>by
    by_cases hb:b=s2.heap.objs.size
    ·subst hb
     rw[ay] at e;cases e;exact⟨hz,us,us.length,hv,Y.1⟩
    ·rw[aD hb] at e
     refine(RC b u e).stay (λc v _ q=>q) (λc q=>?_) λc xs q=>?_
     ·rw[aD (aT q Ot)];exact q
     ·rw[aD (aT q Ot)];exact q
   have RD:s4.os=s2.os:=by have:=I4.os;rw[eS] at this;exact this
   have I5:Inv X a_ σ (upd P s2.heap.objs.size (.lst t)) s4:=a.call' RD (un.track (YJ _) Qd) Ou I4.bare λb hb=>⟨(R b hb).2.2.2.1,(R b hb).2.1,(R b hb).2.2.2.2.1,(R b hb).2.2.2.2.2⟩
   obtain⟨m,hn,_⟩:=I4.loc;rw[eE] at hn;exact fin _ _ t P s4 m qn Ot I5 hn (a.fpOk KG (by rw[aD (Ne.symm Ng)];exact RB))
  ·have Qj:=T.item j eP eW eK eC i _ s3 Hw P (λ_ _=>False) I3 (Ik Lz) JF go
   rw[eA] at Qj;refine thn Qj λr s4 HP=>?_
   obtain⟨u,hr,h4⟩:=HP;subst hr;refine thn h4 λ_ s5 Jn=>?_
   obtain⟨x,H5,I5,r5,y5,Ku,NK⟩:=Jn;have NL:=I5.pinned (Ik NK) (T.obj _ _ Ku);have a5:=z_ _ s5 Hw H5 x u _ NL r5 (step x H5 y5);rw[eP,eW,eA,eE,eX] at a5;refine thn a5 λ_ s6 Jo=>?_
   obtain⟨S,H6,I6,q6⟩:=Jo;have a6:=Kj _ s6 S H6 _ I6 q6;rw[eP,eW,eA,eE,eX] at a6;refine thn a6 λok s7 Ip=>?_
   obtain⟨H7,I7,q7⟩:=Ip;have IC:∀{k_:St}{H':Hp}{L:Shared}{KL:Zh},Inv j ([(s2.heap.objs.size,LCg.lst KL)]++hU fp s5.heap) k_ H' L->tn (i+1) L.heap/\∀b∈fp,H' b=none:=λ{k_ H' L KL} J'=>by
    refine⟨T.keep _ _ _ Ku λb hb o e=>(J'.pin (b,o) (YK _ (YK _ (ja hb e)))).1,λb hb=>?_⟩;obtain⟨o,e,d⟩:=T.obj _ _ Ku b hb;exact(J'.pin (b,o) (YK _ (YK _ (ja hb e)))).2.1
   cases ok with
   |false=>
    obtain⟨m',hm,w7⟩:=Qi _ _ _ (by simpa using q7);exact⟨m',hm,i+1,t,us,S,H7,I7.unpinned,(IC I7).1,(IC I7).2,hv,hz,w7⟩
   |true=>
    have q7:te S H7 (λy H4=>NN (t++[y]) S H4):=by simpa using q7
    have a7:=Qh _ s7 S H7 _ I7 q7;rw[eP,eW,eA,eE,eX] at a7;refine thn a7 λuy s8 JO=>?_
    obtain⟨y,H8,I8,r8,q8⟩:=JO;have Y:=I8.pin (s2.heap.objs.size,LCg.lst us) (YK _ (List.mem_append_left _ YC));have TL:us.length=t.length:=hv.length.symm;refine append_at (hsz:=by rw[YL];omega) Y.1 λh9 RE RF=>?_
    obtain⟨m',hm,w8⟩:=Qi _ _ _ q8;have RG:Inv j (hU fp s5.heap) S H8 s8:=I8.pins_of λp hp=>I8.pin p (YK _ (YK _ hp))
    have I9:Inv j (hU fp s5.heap) S H8 { s8 with heap:=h9 }:=RG.turned (t':=s8.toks) (it:=s2.heap.objs.size) (λb o hb e=>(RE.2 b hb).trans e) Y.2.1 (by rw[eE];exact Ng) (.inr (by rw[eS];exact YJ _))
     (λx c e=>by
      rw[eE] at e;exact ZX (KH x c (ic F e)))
     (λp hp=>by
      rw[eN] at hp;rcases YF.mp hp with z | z
      ·exact ZX (LO p z)
      ·exact ZX (JN _ (sw z).1))
    have Ov:Inv j ([(s2.heap.objs.size,LCg.lst (us++[uy]))]++hU fp s5.heap) S H8 { s8 with heap:=h9 }:=I9.pins_of λp hp=>by
     rcases YF.mp hp with z | z
     ·have e:p=(s2.heap.objs.size,LCg.lst (us++[uy])):=by simpa using z
      subst e;exact⟨RF.trans (congrArg some (LCg.lst_snoc us uy)),Y.2.1,Y.2.2.1,Y.2.2.2.1,λv z=>by cases z⟩
     ·exact I9.pin p (YK _ z)
    exact⟨m',hm,i+1,t++[y],us++[uy],S,H8,Ov.unpinned,(IC Ov).1,(IC Ov).2,hv.append (.cons r8 .nil),by rw[ZN,List.length_singleton];omega,w8⟩
 exact codeAny_compStart_list (U _ rfl) (T.self X.A 0 _ _ _ (T.keep 0 _ _ HN λb _ o e=>B b o e) (U _ rfl))
def G4(k:Nat)(a:TI)(g:TG)(tc:TT)(te:TE):TE:=λσ H Q=>a σ H λJ b=>t5 J g tc te (λc H'=>∀p,H' p=none->Q (.ref p) (upd H' p (.lst c))) (σ++List.replicate k none) b
theorem DE{f tg a:Expr}{c:Zl}{scope HQ:Scope}{N own N2:Zk}{pos:Pos}{j:TI}{g:TG}{tc:TT}{te:TE}(k:CompScope HQ scope N own N2)(hc:X.calm=true)(hi:PI X tg a j)
  (hg:∀C s H ex pn,PG (cxC X scope own N2 C s H ex pn) tg g) (ht:∀C s H ex pn,PTs (cxC X scope own N2 C s H ex pn) c tc) (l:∀C s H ex pn,PE (cxC X scope own N2 C s H ex pn) f te)
  (n:X.env.scope=HQ:=by rfl) (p:X.N=N:=by rfl) (r:∀x,foldedSetIterable a X.env x=pure x:=by intro _;rfl):
  PE X (.ListComp f [⟨tg,a,c,0⟩] scope pos) (G4 own.length j g tc te):=by
 intro a_ s σ H Q I h;rw[eval_ListComp];refine sL (use:=none) k n p hc hi hg ht l I h (λD C z H' t m q u w hn d=>⟨m,hn,λh' y=>⟨.ref D,_,?_,rfl,q D u⟩⟩) r;exact w.turned (t':=t.toks) (λb o hb e=>(y.2 b hb).trans e) d.1 d.2.1 d.2.2.2.1 d.2.2.2.2.1 d.2.2.2.2.2
def G5(i k:Nat)(a:TI)(g:TG)(tc:TT)(te:TE):TS:=λD σ H=>a σ H λJ b=>t5 J g tc te (λc H'=>∀p,H' p=none->D.nx (σ.set i (some (.ref p))) (upd H' p (.lst c))) (σ++List.replicate k none) b
theorem DF{k tg c:Expr}{d:Zl}{scope HQ:Scope}{N own N2:Zk}{pos j n:Pos}{p:TI}{g:TG}{tc:TT}{te:TE}{i:Nat}{y:Str}(r:CompScope HQ scope N own N2)(hc:X.calm=true)
  (t:X.N.Nodup) (hy:X.N[i]?=some y) (hl:X.env.scope.names.lookup y=some .local)
  (hi:PI X tg c p)
  (hg:∀C s H ex pn,PG (cxC X scope own N2 C s H ex pn) tg g) (ht:∀C s H ex pn,PTs (cxC X scope own N2 C s H ex pn) d tc) (u:∀C s H ex pn,PE (cxC X scope own N2 C s H ex pn) k te)
  (w:swapsWith (.ListComp k [⟨tg,c,d,0⟩] scope pos) (some (.Name y j)) n.line X.env=pure true:=by rfl)
  (B:X.env.scope=HQ:=by rfl) (E:X.N=N:=by rfl) (F:∀x,foldedSetIterable c X.env x=pure x:=by intro _;rfl):
  PS X (.Assign [.Name y j] (.ListComp k [⟨tg,c,d,0⟩] scope pos) n) (G5 i own.length p g tc te):=by
 intro a_ s σ H D I h;rw[exec_Assign_Name_used _ _ _ _ w];refine Yb (Yk (Yb ?_));show wpAny _ X.A (do let _ ←comprehension (.ListComp k [⟨tg,c,d,0⟩] scope pos) scope X.env _ (newList []) false (eval c X.env) (some (assign (.Name y j) X.env))) _ _ s;refine Yb (thn (sL (use:=some (assign (.Name y j) X.env)) (QQ:=λ_ l=>SP X a_ D .next l) r B E hc hi hg ht u I h (λD' C T H' l m q G J hn f=>?_) F) (λ_ l hq=>Yc (Yc hq)));show wpAny _ X.A (assign (.Name y j) X.env (.ref D')) _ _ _;refine wpAny_assign_Name (sv J t hy (.inl hl) (show RelV (.ref D') (.ref D') from rfl) (λK L O=>?_) (.inr hl));obtain⟨a,P,ha⟩:=O;have R:C≠a:=by
  rcases ha with z | z
  ·rw[z];exact f.2.1
  ·exact(f.2.2.2.2.1 y a z).symm
 refine⟨m,hn.sameBut P R,λh' S=>⟨_,_,?_,q D' G⟩⟩;exact L.turned (t':=K.toks) (λb o hb e=>(S.2 b hb).trans e) f.1 f.2.1 f.2.2.2.1 f.2.2.2.2.1 f.2.2.2.2.2
end
def Its(x:Str):It:=⟨λi _=>i<x.cps.size,λi H v H'=>H'=H/\∃c,x.cps[i]?=some c/\v=.str ⟨#[c]⟩,λi _=>i=x.cps.size⟩
theorem zJ{P:ZS}{w:World}{K:Za}{tg:Expr}(it:Addr)(x:Str)(t:Tok):Turn P w K tg (Its x) [it] it (λi h=>h.IsStrIter it "str_ascii_iterator" x t i) where
 mem:=by simp
 obj:=λi h st b hb=>by
  have e:b=it:=by simpa using hb
  subst e;obtain⟨o,e,c,d⟩:=st;exact⟨o,e,λv z=>by rw[d] at z;cases z⟩
 keep:=λi h h' st k=>let⟨o,e,r⟩:=st;⟨o,k it (by simp) o e,r⟩
 item:=by
  intro X a hw f hc i a_ s σ H E I hf st hg;subst a hw f;obtain⟨g,j,p,l,m,n⟩:=hf it (by simp);have W:=Walks.strAscii (prog:=X.prog) (w:=X.w) (I.ok.hd hc) it x t;refine W.item i s _ _ hg st λv h' tk y f_ kk=>?_
  obtain⟨c,u,A,rfl⟩:=y;have B:Inv X a_ σ H { s with heap:=h',toks:=tk }:=I.turned (λb o hb e=>kk b o (by simpa using hb) e) g j l m n;obtain⟨o,e,C,d⟩:=id f_;exact⟨_,rfl,nR (s:={ s with heap:=h',toks:=tk }) e C d (by decide) ⟨.str ⟨#[c]⟩,H,B,⟨u,rfl⟩,⟨rfl,c,A,rfl⟩,f_,λb hb=>(hf b hb).1⟩⟩
 done:=by
  intro X a hw f hc i a_ s σ H E I hf st hg;subst a hw f;obtain⟨g,j,p,l,m,n⟩:=hf it (by simp);have W:=Walks.strAscii (prog:=X.prog) (w:=X.w) (I.ok.hd hc) it x t;have F:i=x.cps.size:=hg;subst F;exact W.done s _ _ st λh' tk kk=>⟨rfl,I.turned (λb o hb e=>kk b o (by simpa using hb) e) g j l m n⟩
 self:=λ_ _ _ _ _ st h=>wpAny_pyIter_striter_ascii st h
theorem zK{P:ZS}{w:World}{K:Za}{tg:Expr}(it:Addr)(x:Str)(t:Tok):Turn P w K tg (Its x) [it] it (λi h=>h.IsStrIter it "str_iterator" x t i) where
 mem:=by simp
 obj:=λi h st b hb=>by
  have e:b=it:=by simpa using hb
  subst e;obtain⟨o,e,c,d⟩:=st;exact⟨o,e,λv z=>by rw[d] at z;cases z⟩
 keep:=λi h h' st k=>let⟨o,e,r⟩:=st;⟨o,k it (by simp) o e,r⟩
 item:=by
  intro X a hw f hc i a_ s σ H E I hf st hg;subst a hw f;obtain⟨g,j,p,l,m,n⟩:=hf it (by simp);have W:=Walks.strWide (prog:=X.prog) (w:=X.w) (I.ok.hd hc) it x t;refine W.item i s _ _ hg st λv h' tk y f_ kk=>?_
  obtain⟨c,u,A,rfl⟩:=y;have B:Inv X a_ σ H { s with heap:=h',toks:=tk }:=I.turned (λb o hb e=>kk b o (by simpa using hb) e) g j l m n;obtain⟨o,e,C,d⟩:=id f_;exact⟨_,rfl,nR (s:={ s with heap:=h',toks:=tk }) e C d (by decide) ⟨.str ⟨#[c]⟩,H,B,⟨u,rfl⟩,⟨rfl,c,A,rfl⟩,f_,λb hb=>(hf b hb).1⟩⟩
 done:=by
  intro X a hw f hc i a_ s σ H E I hf st hg;subst a hw f;obtain⟨g,j,p,l,m,n⟩:=hf it (by simp);have W:=Walks.strWide (prog:=X.prog) (w:=X.w) (I.ok.hd hc) it x t;have F:i=x.cps.size:=hg;subst F;exact W.done s _ _ st λh' tk kk=>⟨rfl,I.turned (λb o hb e=>kk b o (by simpa using hb) e) g j l m n⟩
 self:=λ_ _ _ _ _ st h=>wpAny_pyIter_striter_wide st h
section
variable {X:Cx}
theorem zL{bs:List Bool}{d_:Zh}(r:Vals (bs.map V.bl) d_){i:Nat}{v:Value}(h:d_[i]?=some v):v=.bool ((bs[i]?).getD false):=by
 have hl:=r.length;rw[ZG] at hl;have hi:i<bs.length:=by have:=(YG.mp h).1;omega
 obtain⟨u,hu,a⟩:=r.get (i:=i) (x:=V.bl bs[i]) (by rw[ZH,ZE hi];rfl);rw[h] at hu;cases hu;have a:v=Value.bool bs[i]:=a;rw[a,ZE hi];rfl
theorem range_all{bs:List Bool}{n:Nat}(hn:n=bs.length):((List.range n).all λi=>(bs[i]?).getD false)=bs.all id:=by
 subst hn;rw[Bool.eq_iff_iff,XQ,XQ];constructor
 ·intro h b hb
  obtain⟨i,hi,e⟩:=List.mem_iff_getElem.mp hb
  have:=h i (ZZ.mpr hi)
  rw[ZE hi] at this;rw[←e];exact this
 ·intro h i hi
  have hi:=ZZ.mp hi;rw[ZE hi];exact h _ (List.getElem_mem hi)
theorem Br(hc:X.calm=true):dr X (.builtin "all") (λxs H Q=>∃p bs,xs=[.ref p]/\SqL X.K H p (List.map V.bl bs)/\Q (.bl (bs.all id)) H):=by
 intro a_ s σ H xs us Q I r h;obtain⟨p,bs,rfl,hq,q⟩:=h;obtain⟨u,rfl,d⟩:=vals1 r;cases d;obtain⟨d_,c,pl,hz⟩:=I.list hq;have f:p<s.heap.objs.size:=by obtain⟨o,_,e,_⟩:=pl;exact Ye e
 refine call_all_walk (wpAny_pyIter_list pl.isList ⟨s.heap.objs.size,_,_,_,_,_,λi=>(bs[i]?).getD false,rfl,Walks.list (A:=X.A.in1) (I.ok.hd hc) s.heap.objs.size p (ZX f) d_.toArray,
  ⟨⟨_,Yg _ rfl,rfl,rfl⟩,pl.isList.push _⟩,λi v j k l a g=>?_,λh' tk kk=>?_⟩)
 ·have a:d_[i]?=some v:=by simpa using a
  rw[zL c a];exact wpAny_truthy_bool g
 ·have e:d_.toArray.size=bs.length:=by have:=c.length;rw[ZG] at this;simp;omega
  rw[range_all e];refine⟨.bl _,H,I.kept λb o e=>kk b o ?_ (Yd _ e),rfl,q⟩;simp only[XR];exact ZX (Ye e)
theorem mulOk_of{x:Str}{n:Int}(a:0<=n)(h:x.length*n.toNat<=1048576)(hn:n<=1048576):MulOk x n:=by
 refine⟨?_,λb h2=>?_,λb h2=>?_⟩
 ·rw[Bool.or_eq_false_iff]
  exact⟨ZT (by omega),ZT (by omega)⟩
 ·intro c
  have d:1<=n:=by omega
  have f:(2 ^ 63-1:Int) / n*n<=2 ^ 63-1:=Int.ediv_mul_le _ (by omega);have g:(2 ^ 63-1:Int)<((2 ^ 63-1) / n+1)*n:=Int.lt_ediv_add_one_mul_self _ (by omega);have j:((2 ^ 63-1:Int) / n+1)*n<=(x.length:Int)*n:=Int.mul_le_mul_of_nonneg_right (by omega) (by omega);have k:((x.length*n.toNat:Nat):Int)=(x.length:Int)*n:=by rw[Int.natCast_mul,Int.toNat_of_nonneg a]
  have l:((x.length*n.toNat:Nat):Int)<=1048576:=by omega
  omega
 ·show decide (x.length*n.toNat>sizeLine)=false
  rw[sizeLine_eq];exact ZT (by omega)
theorem yf:OpR X (binaryOp .Mult) (λx y H Q=>∃z n,x=.str z/\y=.int n/\0<=n/\n<=1048576/\z.length*n.toNat<=1048576/\Q (.str (Txt.mul z n)) H):=by
 intro a_ s σ H x y v u Q I a b h;obtain⟨z,n,rfl,rfl,c,hn,hz,q⟩:=h;obtain⟨t,rfl⟩:=a;obtain⟨t',rfl⟩:=b;exact SB.mul (mulOk_of c hz hn) λd k=>⟨.str _,H,I.tok _,⟨d,rfl⟩,q⟩
end
structure IsDef (K:Za) (mg:Zi) (x:Str) (st:Stmt) (ps:Zk) (f:Addr) (fd:ZD):Prop where
 fn:Fun K x x st f fd
 mgf:mg x=some (.ref f)
 b:Binds K fd ps []
theorem Bs{K:Za}{h:Heap}{mg:Zi}{x:Str}{st:Stmt}{ps:Zk}{f:Addr}{oc:Value}{od an:Zr}{Hl:Zs}{kV A_ pm x_ ct:Value}(X:K.In h)(G:h.Ns mainGlobals mg)
  (a:PySem.W.nsIn K mainGlobals x=some (some (.ref f))) (l:K.lookup f=some ⟨oc,od,.func (PySem.W.fnOf x x (bh st) (aG st) (af st) .none kV A_ pm an x_ ct),Hl⟩)
  (c:PySem.W.codeIn K x_ x=true) (k:PySem.W.keepIn K (.ref f)=true)
  (hb:∀(kV A_ pm:Value) (an:Zr) (x_ ct:Value) (us:Zh),us.length=ps.length->bindArgs (PySem.W.fnOf x x (bh st) (aG st) (af st) .none kV A_ pm an x_ ct) ⟨us,[]⟩=pure (ps.zip us)):
  IsDef K mg x st ps f (PySem.W.fnOf x x (bh st) (aG st) (af st) .none kV A_ pm an x_ ct):=by
 have F:=uo (st:=st) l c k;exact⟨F,PySem.W.mg_of X G a,F.binds hb⟩
section
variable {X:Cx}{k:Nat}{f:Addr}{fd:ZD}{ps:Zk}{sp:Sp}{x:Str}{st:Stmt}{p pos:Pos}{e:Expr}{es:Zl}{t:TA}
theorem FG(D:IsDef X.K X.mg x st ps f fd)(F:FnOk X.prog X.w X.K X.mg X.base CX0 k f fd ps sp)(a:Room k X.A)(ha:PA X (e::es) t)(hg:Gl X x:=by rfl)(c:(x==("__debug__" : Str))=false:=by decide)
  (d:starEach (e::es) X.env=(false,eval e X.env)::starEach es X.env:=by rfl) (g:(backTo pos (starEach es X.env)).any (·.1)=false:=by rfl):PE X (.Call (.Name x p) (e::es) [] pos) (CK sp [] E0 t):=
 Dq F a hg D.mgf D.fn.kp D.b .nil tZ ha c d g
end
theorem zM(K:Za){a b:String}{r:Bool}(h:(if(Value.type a==Value.type b)=true then some true else if PySem.W.kitMeta b=true then(fastBuiltinMro a).map (·.contains (.type b)) else none)=some r):
  PySem.W.kitOne K (.type a) (.type b)=some r:=h
def ah:Expr->Bool
 |.Starred _ _=>false
 |_=>true
theorem aO{e:Expr}{es:Zl}{env:Env}(h:ah e=true):starEach (e::es) env=(false,eval e env)::starEach es env:=by
 cases e<;>first | rfl | (exact absurd (show false=true from h) YI)
end L2
namespace DD
open PySem PySem.Spec PyProof.Rows L2
inductive D where
 |non | bl (b:Bool) | int (i:Int) | str (x:Str) | tup (ds:List D) | ref (a:Addr) | ty (n:String)
section
variable {α β:Type}{F G:α->β->Prop}
theorem jC:∀{l:List α}{m:List β},Paired F l m->l.length=m.length
 |_,_,.nil=>rfl
 |_,_,.cons _ t=>by simp[jC t]
theorem cM:∀{l:List α}{m:List β}{i:Nat}{a:α},Paired F l m->l[i]?=some a->∃b,m[i]?=some b/\F a b
 |_,_,_,_,.nil,e=>by simp at e
 |_,_,0,_,.cons r _,e=>by simp at e;subst e;exact⟨_,rfl,r⟩
 |_,_,i+1,a,.cons _ t,e=>by
  obtain⟨b,c,h2⟩:=cM (i:=i) (a:=a) t (by simpa using e);exact⟨b,by simpa using c,h2⟩
theorem a8:∀{l a:List α}{m b:List β},Paired F l m->Paired F a b->Paired F (l++a) (m++b)
 |_,_,_,_,.nil,s=>s
 |_,_,_,_,.cons r t,s=>.cons r (a8 t s)
theorem nT:∀{l:List α}{m:List β}(n:Nat),Paired F l m->Paired F (l.take n) (m.take n)
 |_,_,0,_=>.nil
 |_,_,_+1,.nil=>.nil
 |_,_,n+1,.cons r t=>.cons r (nT n t)
theorem xa:∀{l:List α}{m:List β}(n:Nat),Paired F l m->Paired F (l.drop n) (m.drop n)
 |_,_,0,r=>r
 |_,_,_+1,.nil=>.nil
 |_,_,n+1,.cons _ t=>xa n t
theorem uq{a:α}{b:β}(r:F a b):∀{l:List α}{m:List β}(i:Nat),Paired F l m->Paired F (l.set i a) (m.set i b)
 |_,_,_,.nil=>.nil
 |_,_,0,.cons _ t=>.cons r t
 |_,_,i+1,.cons q t=>.cons q (uq r i t)
theorem ld(f:∀a b,F a b->G a b):∀{l:List α}{m:List β},Paired F l m->Paired G l m
 |_,_,.nil=>.nil
 |_,_,.cons r t=>.cons (f _ _ r) (ld f t)
theorem zN{l:List α}{m:List β}(h:Paired F l m):∀n,Paired F (List.replicate n l).flatten (List.replicate n m).flatten
 |0=>.nil
 |n+1=>by rw[XD,XD,XE,XE];exact a8 h (zN h n)
theorem jD{a:α}{b:β}(r:F a b):∀n,Paired F (List.replicate n a) (List.replicate n b)
 |0=>.nil
 |n+1=>.cons r (jD r n)
end
section
variable (K:Za)(H:Hp)
mutual
noncomputable def RV:D->V->Prop
 |.non,v=>v=.non
 |.bl b,v=>v=.bl b
 |.int i,v=>v=.int i
 |.str x,v=>v=.str x
 |.ref a,v=>v=.ref a
 |.ty n,v=>v=.ty n
 |.tup ds,v=>∃a xs,v=.ref a/\SqT K H a xs/\RVs ds xs
noncomputable def RVs:List D->List V->Prop
 |[],xs=>xs=[]
 |d::ds,xs=>∃v vs,xs=v::vs/\RV d v/\RVs ds vs
end
end
section
variable {K:Za}{H H' Qk:Hp}
theorem RVs.p:∀{ds:List D}{xs:List V},RVs K H ds xs->Paired (RV K H) ds xs
 |[],_,h=>by rw[RVs] at h;subst h;exact .nil
 |d::ds,_,h=>by
  rw[RVs] at h;obtain⟨v,vs,rfl,r,t⟩:=h;exact .cons r (RVs.p t)
theorem RVs.of:∀{ds:List D}{xs:List V},Paired (RV K H) ds xs->RVs K H ds xs
 |_,_,.nil=>by rw[RVs]
 |_,_,.cons r t=>by rw[RVs];exact⟨_,_,rfl,r,RVs.of t⟩
theorem RVs.nil:RVs K H [] []:=by rw[RVs]
theorem RVs.cons{d:D}{v:V}{ds:List D}{vs:List V}(r:RV K H d v)(t:RVs K H ds vs):RVs K H (d::ds) (v::vs):=by rw[RVs];exact⟨_,_,rfl,r,t⟩
theorem RVs.len{ds:List D}{xs:List V}(h:RVs K H ds xs):ds.length=xs.length:=jC h.p
def Kp(H H':Hp):Prop:=(∀a xs,Rd H a (.tup xs)->Rd H' a (.tup xs))/\∀a u o,H a=some (.frz u o)->H' a=some (.frz u o)
theorem Kp.refl(H:Hp):Kp H H:=⟨λ_ _ h=>h,λ_ _ _ h=>h⟩
theorem Kp.trans(a:Kp H H')(b:Kp H' Qk):Kp H Qk:=⟨λc xs h=>b.1 c xs (a.1 c xs h),λc u o h=>b.2 c u o (a.2 c u o h)⟩
theorem Kp.new{p:Addr}{o:HO}(h:H p=none):Kp H (upd H p o):=⟨λa xs r=>by
 rcases r with r | ⟨u,r⟩
 ·exact .inl (by rw[aD (aT r h)];exact r)
 ·exact .inr ⟨u,by rw[aD (aT r h)];exact r⟩,λa u o r=>by rw[aD (aT r h)];exact r⟩
def CO:HO->Prop
 |.tup _=>False
 |.frz _ _=>False
 |_=>True
theorem Kp.put{p:Addr}{o o':HO}(h:H p=some o)(n:CO o):Kp H (upd H p o'):=⟨λa xs r=>by
 rcases r with r | ⟨u,r⟩
 ·have:a≠p:=λe=>by subst e;rw[h] at r;cases r;exact n
  exact .inl (by rw[aD this];exact r)
 ·have:a≠p:=λe=>by subst e;rw[h] at r;cases r;exact n
  exact .inr ⟨u,by rw[aD this];exact r⟩,λa u o r=>by
  have:a≠p:=λe=>by subst e;rw[h] at r;cases r;exact n
  rw[aD this];exact r⟩
theorem Kp.sq(t:Kp H H'){a:Addr}{xs:List V}(h:SqT K H a xs):SqT K H' a xs:=by
 rcases h with h | h
 ·exact .inl (t.1 a xs h)
 ·exact .inr h
mutual
theorem RV.mono(t:Kp H H'):∀(d:D){v:V},RV K H d v->RV K H' d v
 |.non,_,h=>by rw[RV] at h ⊢;exact h
 |.bl _,_,h=>by rw[RV] at h ⊢;exact h
 |.int _,_,h=>by rw[RV] at h ⊢;exact h
 |.str _,_,h=>by rw[RV] at h ⊢;exact h
 |.ref _,_,h=>by rw[RV] at h ⊢;exact h
 |.ty _,_,h=>by rw[RV] at h ⊢;exact h
 |.tup ds,_,h=>by
  rw[RV] at h ⊢;obtain⟨a,xs,e,s,r⟩:=h;exact⟨a,xs,e,t.sq s,RVs.mono t ds r⟩
theorem RVs.mono(t:Kp H H'):∀(ds:List D){xs:List V},RVs K H ds xs->RVs K H' ds xs
 |[],_,h=>by rw[RVs] at h ⊢;exact h
 |d::ds,_,h=>by
  rw[RVs] at h ⊢;obtain⟨v,vs,e,r,q⟩:=h;exact⟨v,vs,e,RV.mono t d r,RVs.mono t ds q⟩
end
theorem RV.non_{v:V}:RV K H .non v↔v=.non:=by rw[RV]
theorem RV.bl_{v:V}{b:Bool}:RV K H (.bl b) v↔v=.bl b:=by rw[RV]
theorem RV.int_{v:V}{b:Int}:RV K H (.int b) v↔v=.int b:=by rw[RV]
theorem RV.str_{v:V}{b:Str}:RV K H (.str b) v↔v=.str b:=by rw[RV]
theorem RV.ref_{v:V}{b:Addr}:RV K H (.ref b) v↔v=.ref b:=by rw[RV]
theorem RV.ty_{v:V}{b:String}:RV K H (.ty b) v↔v=.ty b:=by rw[RV]
theorem RV.tup_{v:V}{ds:List D}:RV K H (.tup ds) v ↔ ∃a xs,v=.ref a/\SqT K H a xs/\RVs K H ds xs:=by rw[RV]
inductive MO where
 |lst (ds:List D) | rol (ds:List D) | dic (e_:List (Key×D)) | rod (e_:List (Key×D)) | ins (C:Addr) (fs:List (Str×D))
abbrev MH:=Addr->Option MO
def updM(M:MH)(a:Addr)(o:MO):MH:=λb=>if b=a then some o else M b
theorem aa{M:MH}{a:Addr}{o:MO}:updM M a o a=some o:=by unfold updM;rw[if_pos rfl]
theorem aw{M:MH}{a b:Addr}{o:MO}(h:b≠a):updM M a o b=M b:=by unfold updM;rw[if_neg h]
def RO(K:Za)(H:Hp)(a:Addr):MO->Prop
 |.lst ds=>∃xs,H a=some (.lst xs)/\RVs K H ds xs
 |.rol ds=>∃xs,Rd H a (.lst xs)/\RVs K H ds xs
 |.dic c=>∃b:List (Key×V),H a=some (.dK b)/\b.map (·.1)=c.map (·.1)/\RVs K H (c.map (·.2)) (b.map (·.2))
 |.rod c=>∃(u:Obj) (b:List (Key×V)),H a=some (.frz u (.dK b))/\b.map (·.1)=c.map (·.1)/\RVs K H (c.map (·.2)) (b.map (·.2))
 |.ins C fs=>∃(dx:Addr) (d:List (Str×V)),H a=some (.ins C dx d)/\d.map (·.1)=fs.map (·.1)/\RVs K H (fs.map (·.2)) (d.map (·.2))
def RM(K:Za)(M:MH)(H:Hp):Prop:=∀a o,M a=some o->RO K H a o
theorem RO.stay{a:Addr}{o:MO}(h:RO K H a o)(t:Kp H H')(e:H' a=H a):RO K H' a o:=by
 cases o with
 |lst ds=>obtain⟨xs,q,r⟩:=h;exact⟨xs,e.trans q,RVs.mono t _ r⟩
 |rol ds=>
  obtain⟨xs,q,r⟩:=h;refine⟨xs,?_,RVs.mono t _ r⟩;rcases q with q | ⟨u,q⟩
  ·exact .inl (e.trans q)
  ·exact .inr ⟨u,e.trans q⟩
 |dic c=>obtain⟨b,q,k,r⟩:=h;exact⟨b,e.trans q,k,RVs.mono t _ r⟩
 |rod c=>obtain⟨u,b,q,k,r⟩:=h;exact⟨u,b,e.trans q,k,RVs.mono t _ r⟩
 |ins C fs=>obtain⟨dx,d,q,k,r⟩:=h;exact⟨dx,d,e.trans q,k,RVs.mono t _ r⟩
theorem RO.some{a:Addr}{o:MO}(h:RO K H a o):H a≠none:=by
 cases o with
 |lst ds=>obtain⟨xs,q,_⟩:=h;rw[q];exact λz=>nomatch z
 |rol ds=>obtain⟨xs,q | ⟨u,q⟩,_⟩:=h<;>(rw[q];exact λz=>nomatch z)
 |dic b=>obtain⟨c,q,_⟩:=h;rw[q];exact λz=>nomatch z
 |rod b=>obtain⟨u,c,q,_⟩:=h;rw[q];exact λz=>nomatch z
 |ins C fs=>obtain⟨dx,d,q,_⟩:=h;rw[q];exact λz=>nomatch z
theorem RM.fresh{M:MH}{p:Addr}(h:RM K M H)(e:H p=none):M p=none:=by
 cases q:M p with
 |none=>rfl
 |some o=>exact absurd e (h p o q).some
theorem RM.newH{M:MH}{p:Addr}{o:HO}(h:RM K M H)(e:H p=none):RM K M (upd H p o):=λa u q=>
 (h a u q).stay (Kp.new e) (aD (λz=>by subst z;exact(h a u q).some e))
theorem RM.new{M:MH}{p:Addr}{o:HO}{m:MO}(h:RM K M H)(e:H p=none)(r:RO K (upd H p o) p m):RM K (updM M p m) (upd H p o):=λa u q=>by
 by_cases z:a=p
 ·subst z;rw[aa] at q;cases q;exact r
 ·rw[aw z] at q;exact(h a u q).stay (Kp.new e) (aD z)
theorem RM.put{M:MH}{p:Addr}{o o':HO}{m:MO}(h:RM K M H)(e:H p=some o)(n:CO o)(r:RO K (upd H p o') p m):RM K (updM M p m) (upd H p o'):=λa u q=>by
 by_cases z:a=p
 ·subst z;rw[aa] at q;cases q;exact r
 ·rw[aw z] at q;exact(h a u q).stay (Kp.put e n) (aD z)
abbrev DS:=List (Option D)
abbrev Z3:=List (Key×D)
abbrev Z2:=Option D
def RS(K:Za)(H:Hp)(σ:DS)(ρ:L2.St):Prop:=Paired (λ(od:Z2) (a:Option V)=>∀d,od=some d->∃v,a=some v/\RV K H d v) σ ρ
theorem RS.mono{σ:DS}{ρ:L2.St}(t:Kp H H')(h:RS K H σ ρ):RS K H' σ ρ:=ld (λod a r d e=>let⟨v,q,s⟩:=r d e;⟨v,q,RV.mono t d s⟩) h
theorem RS.get{σ:DS}{ρ:L2.St}{i:Nat}{d:D}(h:RS K H σ ρ)(e:σ[i]?=some (some d)):∃v,ρ[i]?=some (some v)/\RV K H d v:=by
 obtain⟨a,q,r⟩:=cM h e;obtain⟨v,rfl,s⟩:=r d rfl;exact⟨v,q,s⟩
theorem RS.set{σ:DS}{ρ:L2.St}{d:D}{v:V}(i:Nat)(h:RS K H σ ρ)(r:RV K H d v):RS K H (σ.set i (some d)) (ρ.set i (some v)):=uq (by intro d' e;cases e;exact⟨v,rfl,r⟩) i h
theorem RS.more{σ:DS}{ρ:L2.St}(n:Nat)(h:RS K H σ ρ):RS K H (σ++List.replicate n none) (ρ++List.replicate n none):=a8 h (jD (λd e=>nomatch e) n)
end
abbrev DK:=D->MH->Prop
abbrev WE:=DS->MH->DK->Prop
abbrev WT:=DS->MH->(Bool->MH->Prop)->Prop
abbrev WA:=DS->MH->(List D->MH->Prop)->Prop
def lift(K:Za)(H:Hp)(Q:DK):VK:=λv H'=>Kp H H'/\∃d M',RV K H' d v/\RM K M' H'/\Q d M'
def t6(K:Za)(H:Hp)(Q:Bool->MH->Prop):Bool->Hp->Prop:=λb H'=>Kp H H'/\∃M',RM K M' H'/\Q b M'
def G6(K:Za)(H:Hp)(n:Nat)(Q:List D->MH->Prop):List V->Hp->Prop:=λvs H'=>Kp H H'/\∃ds M',RVs K H' ds vs/\ds.length=n/\RM K M' H'/\Q ds M'
section
variable (X:Cx)
def tW(e:Expr):TE:=λρ H Q=>∀a_ s,Inv X a_ ρ H s->wpAny (model X.prog X.w) X.A (eval e X.env) (EP X a_ ρ Q) X.xe s
def tWT(e:Expr):TT:=λρ H Q=>∀a_ s,Inv X a_ ρ H s->wpAny (model X.prog X.w) X.A (isTrue e X.env (eval e X.env)) (TP X a_ ρ Q) X.xe s
def tWA(es:Zl):TA:=λρ H Q=>∀pos a_ s,Inv X a_ ρ H s->wpAny (model X.prog X.w) X.A (spliced (backTo pos (starEach es X.env))) (AP X a_ ρ Q) X.xe s
def tWS(st:Stmt):L2.TS:=λD ρ H=>∀a_ s,Inv X a_ ρ H s->wpAny (model X.prog X.w) X.A (exec st X.env) (SP X a_ D) X.xe s
end
section
variable {X:Cx}{e a b c:Expr}{es:Zl}{ρ:L2.St}{H H':Hp}{pos:Pos}
theorem pe_W(e:Expr):PE X e (tW X e):=λa_ s _ _ _ I h=>h a_ s I
theorem pt_W(e:Expr):PT X e (tWT X e):=λa_ s _ _ _ I h=>h a_ s I
theorem pa_W(es:Zl):PA X es (tWA X es):=λpos a_ s _ _ _ I h=>h pos a_ s I
theorem bn{t:TE}{Q:VK}(h:PE X e t)(q:t ρ H Q):tW X e ρ H Q:=λa_ s I=>h a_ s ρ H Q I q
theorem ur{t:TT}{Q:Bool->Hp->Prop}(h:PT X e t)(q:t ρ H Q):tWT X e ρ H Q:=λa_ s I=>h a_ s ρ H Q I q
theorem zO{t:TA}{Q:List V->Hp->Prop}(h:PA X es t)(q:t ρ H Q):tWA X es ρ H Q:=λpos a_ s I=>h pos a_ s ρ H Q I q
theorem aC{Q d:VK}(h:tW X e ρ H Q)(f:∀v H',Q v H'->d v H'):tW X e ρ H d:=λa_ s I=>thn (h a_ s I) λ_ _ ⟨v,H',g,r,q⟩=>⟨v,H',g,r,f v H' q⟩
theorem eD{Q d:Bool->Hp->Prop}(h:tWT X e ρ H Q)(f:∀v H',Q v H'->d v H'):tWT X e ρ H d:=λa_ s I=>thn (h a_ s I) λ_ _ ⟨H',g,q⟩=>⟨H',g,f _ H' q⟩
theorem ca{Q d:List V->Hp->Prop}(h:tWA X es ρ H Q)(f:∀v H',Q v H'->d v H'):tWA X es ρ H d:=λpos a_ s I=>thn (h pos a_ s I) λ_ _ ⟨v,H',g,r,q⟩=>⟨v,H',g,r,f v H' q⟩
theorem bv{K:Za}{Q:DK}{v:V}{d:Hp}(k:Kp H H')(h:lift K H' Q v d):lift K H Q v d:=⟨k.trans h.1,h.2⟩
theorem ut{K:Za}{Q:Bool->MH->Prop}{v:Bool}{d:Hp}(k:Kp H H')(h:t6 K H' Q v d):t6 K H Q v d:=⟨k.trans h.1,h.2⟩
theorem ax{K:Za}{Q:DK}{v:V}{d:D}{M:MH}(r:RV K H d v)(m:RM K M H)(q:Q d M):lift K H Q v H:=⟨Kp.refl H,d,M,r,m,q⟩
def PEd(X:Cx)(e:Expr)(t:WE):Prop:=∀σ M ρ H Q,RS X.K H σ ρ->RM X.K M H->t σ M Q->tW X e ρ H (lift X.K H Q)
def PTd(X:Cx)(e:Expr)(t:WT):Prop:=∀σ M ρ H Q,RS X.K H σ ρ->RM X.K M H->t σ M Q->tWT X e ρ H (t6 X.K H Q)
def PAd(X:Cx)(es:Zl)(t:WA):Prop:=∀σ M ρ H Q,RS X.K H σ ρ->RM X.K M H->t σ M Q->tWA X es ρ H (G6 X.K H es.length Q)
def Bif(b:Bool)(A B:Prop):Prop:=match b with
 |true=>A
 |false=>B
theorem aZ{A B:Prop}:Bif true A B=A:=rfl
theorem aF{A B:Prop}:Bif false A B=B:=rfl
theorem Bif2{b:Bool}{A B:Prop}(d:b=true->A)(h2:b=false->B):Bif b A B:=by
 cases b with
 |true=>exact d rfl
 |false=>exact h2 rfl
theorem xb{p:Prop}[Decidable p]{A B:Prop}(d:p->A)(h2:¬p->B):Bif (decide p) A B:=Bif2 (λe=>d (XS e)) (λe=>h2 (of_decide_eq_false e))
def getS(σ:DS)(i:Nat)(Q:D->Prop):Prop:=match σ[i]? with
 |some (some d)=>Q d
 |_=>False
theorem DG{σ:DS}{i:Nat}{Q:D->Prop}(h:getS σ i Q):∃d,σ[i]?=some (some d)/\Q d:=by
 unfold getS at h;split at h
 ·exact⟨_,by assumption,h⟩
 ·exact Yh h
theorem DH{i:Nat}{x:Str}(f:X.N[i]?=some x)(g:Vis X.env.scope x)(hd:(x==("__debug__" : Str))=false)(j:(x==("__classdict__" : Str))=false):PEd X (.Name x pos) (λσ M Q=>getS σ i λd=>Q d M):=by
 intro σ M ρ H Q rs k h;obtain⟨d,e,q⟩:=DG h;obtain⟨v,e',r⟩:=rs.get e;exact bn (EX f g hd j) ⟨v,e',ax r k q⟩
theorem nU{d:D}{v:V}(h:PE X e (tC v))(r:∀H,RV X.K H d v):PEd X e (λ_ M Q=>Q d M):=λ_ _ _ H _ _ f q=>bn h (ax (r H) f q)
theorem DI{i:Int}{j:Nat}:PEd X (.Constant (.int i) j pos) (λ_ M Q=>Q (.int i) M):=nU zi λ_=>RV.int_.2 rfl
theorem FH{i:Bool}{j:Nat}:PEd X (.Constant (.bool i) j pos) (λ_ M Q=>Q (.bl i) M):=nU GF λ_=>RV.bl_.2 rfl
theorem DJ{i:Str}{j:Nat}:PEd X (.Constant (.str i) j pos) (λ_ M Q=>Q (.str i) M):=nU EZ λ_=>RV.str_.2 rfl
theorem DL{j:Nat}:PEd X (.Constant .none j pos) (λ_ M Q=>Q .non M):=nU EY λ_=>RV.non_.2 rfl
def mZ(K:Za)(mg:Zi)(x:Str)(d:D):Prop:=∃v u,mg x=some u/\RelV v u/\∀H,RV K H d v
theorem Bt{x:Str}{d:D}(hg:Gl X x)(h:mZ X.K X.mg x d)(hd:(x==("__debug__" : Str))=false):PEd X (.Name x pos) (λ_ M Q=>Q d M):=by
 obtain⟨v,u,hm,r,f⟩:=h;exact nU (Da hg hm r hd) f
def oW(X:Cx)(f:Zp):R2:=λx y H Q=>∀a_ s ρ v u,Inv X a_ ρ H s->RelV x v->RelV y u->wpAny (model X.prog X.w) X.A (f v u) (EP X a_ ρ Q) X.xe s
theorem op_W(f:Zp):OpR X f (oW X f):=λa_ s σ _ _ _ v u _ I d g h=>h a_ s σ v u I d g
theorem d3{f:Zp}{r:R2}{x y:V}{Q:VK}(h:OpR X f r)(q:r x y H Q):oW X f x y H Q:=λa_ s ρ v u I d g=>h a_ s ρ H x y v u Q I d g q
theorem rJ{f:Zp}{x y:V}{Q d:VK}(h:oW X f x y H Q)(g:∀v H',Q v H'->d v H'):oW X f x y H d:=λa_ s ρ v u I j k=>thn (h a_ s ρ v u I j k) λ_ _ ⟨v,H',l,r,q⟩=>⟨v,H',l,r,g v H' q⟩
abbrev R2d:=D->D->MH->DK->Prop
def OpD(X:Cx)(f:Zp)(r:R2d):Prop:=∀x y v u H M Q,RV X.K H x v->RV X.K H y u->RM X.K M H->r x y M Q->oW X f v u H (lift X.K H Q)
theorem two{g j:WE}{σ:DS}{M:MH}{R:D->D->MH->Prop}(ha:PEd X a g)(hb:PEd X b j)(rs:RS X.K H σ ρ)(m:RM X.K M H)(h:g σ M λx M1=>j σ M1 λy M2=>R x y M2):
  tW X a ρ H λv f=>tW X b ρ f λu d=>Kp H d/\∃x y M2,RV X.K d x v/\RV X.K d y u/\RM X.K M2 d/\R x y M2:=by
 refine aC (ha σ M ρ H _ rs m h) ?_;rintro v f ⟨k,x,M1,n,o,p⟩;refine aC (hb σ M1 ρ f _ (rs.mono k) o p) ?_;rintro u d ⟨l,y,M2,r,t,h2⟩;exact⟨k.trans l,x,y,M2,RV.mono l x n,r,t,h2⟩
def wOp(r:R2d)(d f:WE):WE:=λσ M Q=>d σ M λx M1=>f σ M1 λy M2=>r x y M2 Q
theorem DM{op:Operator}{r:R2d}{d f:WE}(g:OpD X (binaryOp op) r)(ha:PEd X a d)(hb:PEd X b f):PEd X (.BinOp a op b pos) (wOp r d f):=by
 intro σ M ρ H Q rs j h;refine bn (GO (op_W _) (pe_W a) (pe_W b)) ?_;show tW X a ρ H _;refine aC (two ha hb rs j h) λv l m=>?_
 show tW X b ρ l _;refine aC m λu n o=>?_
 obtain⟨k,x,y,M2,p,t,w,q⟩:=o;exact rJ (g x y v u n M2 Q p t w q) λ_ _=>bv k
theorem DN{op:CmpOp}{r:R2d}{d f:WE}(g:OpD X (compareOp op) r)(ha:PEd X a d)(hb:PEd X b f)(hm:behindInMarks op b=false):PEd X (.Compare a [op] [b] pos) (wOp r d f):=by
 intro σ M ρ H Q rs j h;refine bn (Dj (op_W _) (pe_W a) (pe_W b) hm) ?_;show tW X a ρ H _;refine aC (two ha hb rs j h) λv l m=>?_
 show tW X b ρ l _;refine aC m λu n o=>?_
 obtain⟨k,x,y,M2,p,t,w,q⟩:=o;exact rJ (g x y v u n M2 Q p t w q) λ_ _=>bv k
def nV(x:D)(Q:Bool->Prop):Prop:=match x with
 |.bl b=>Q b
 |_=>False
theorem lN{x:D}{Q:Bool->Prop}(h:nV x Q):∃b,x=.bl b/\Q b:=by
 cases x with
 |bl b=>exact⟨b,rfl,h⟩
 |_=>exact Yh h
def yg(t:WE):WT:=λσ M Q=>t σ M λx M1=>nV x λb=>Q b M1
theorem DO{op:CmpOp}{r:R2d}{g j:WE}(l:OpD X (compareOp op) r)(ha:PEd X a g)(hb:PEd X b j)(hm:behindInMarks op b=false):PTd X (.Compare a [op] [b] pos) (yg (wOp r g j)):=by
 intro σ M ρ H Q rs m h;refine ur (Dk (op_W _) (pe_W a) (pe_W b) hm) ?_;show tW X a ρ H _;refine aC (two ha hb rs m h) λv n o=>?_
 show tW X b ρ n _;refine aC o λu p t=>?_
 obtain⟨k,x,y,M2,w,A,B,q⟩:=t;refine rJ (l x y v u p M2 _ w A B q) λz J C=>?_
 obtain⟨E,d,F,G,I,f⟩:=C;obtain⟨c,rfl,f⟩:=lN f;exact⟨c,RV.bl_.1 G,k.trans E,F,I,f⟩
def wAnd(t u:WT):WT:=λσ M Q=>t σ M λc M1=>Bif c (u σ M1 Q) (Q false M1)
def wOr(t u:WT):WT:=λσ M Q=>t σ M λc M1=>Bif c (Q true M1) (u σ M1 Q)
def wNot(t:WT):WT:=λσ M Q=>t σ M λc M1=>Q (!c) M1
theorem DP{t:WT}(h:PTd X a t):PTd X (.UnaryOp .Not a pos) (wNot t):=by
 intro σ M ρ H Q rs d q;refine ur (E3 (pt_W a)) ?_;show tWT X a ρ H _;exact eD (h σ M ρ H _ rs d q) λc g f=>f
def PWd(X:Cx)(e:Expr)(t:WT):Prop:=∀σ M ρ H Q,RS X.K H σ ρ->RM X.K M H->t σ M Q->∀d a_ s,Inv X a_ ρ H s->wpAny (model X.prog X.w) X.A (isTrue e X.env d) (TP X a_ ρ (t6 X.K H Q)) X.xe s
theorem PWd.pt{t:WT}(h:PWd X e t):PTd X e t:=λσ M ρ H Q rs d q a_ s I=>h σ M ρ H Q rs d q _ a_ s I
def tWW(X:Cx)(e:Expr):TT:=λρ H Q=>∀d a_ s,Inv X a_ ρ H s->wpAny (model X.prog X.w) X.A (isTrue e X.env d) (TP X a_ ρ Q) X.xe s
theorem pw_W(e:Expr):PW X e (tWW X e):=λd a_ s _ _ _ I h=>h d a_ s I
theorem uu{Q g:Bool->Hp->Prop}(h:tWW X e ρ H Q)(f:∀v H',Q v H'->g v H'):tWW X e ρ H g:=λd a_ s I=>thn (h d a_ s I) λ_ _ ⟨H',j,q⟩=>⟨H',j,f _ H' q⟩
theorem pZ{t:TT}{Q:Bool->Hp->Prop}(h:PW X e t)(q:t ρ H Q):tWW X e ρ H Q:=λd a_ s I=>h d a_ s ρ H Q I q
theorem Bu{t:WT}(h:PTd X a t):PWd X (.BoolOp .And [a] pos) t:=λσ M ρ H Q rs d q=>pZ (Dc (pt_W a)) (h σ M ρ H Q rs d q)
theorem DQ{t:WT}(h:PTd X a t):PWd X (.BoolOp .Or [a] pos) t:=λσ M ρ H Q rs d q=>pZ (E1 (pt_W a)) (h σ M ρ H Q rs d q)
theorem xc{t u:WT}{rest:Zl}(h:PTd X a t)(h':PWd X (.BoolOp .And (b::rest) pos) u):PWd X (.BoolOp .And (a::b::rest) pos) (wAnd t u):=by
 intro σ M ρ H Q rs j q;refine pZ (E2 (pt_W a) (pw_W _)) ?_;show tWT X a ρ H _;refine eD (h σ M ρ H _ rs j q) λc k l=>?_
 obtain⟨d,M1,f,g⟩:=l;cases c with
 |true=>exact uu (h' σ M1 ρ k Q (rs.mono d) f g) λ_ _=>ut d
 |false=>exact⟨d,M1,f,g⟩
theorem zP{t u:WT}{rest:Zl}(h:PTd X a t)(h':PWd X (.BoolOp .Or (b::rest) pos) u):PWd X (.BoolOp .Or (a::b::rest) pos) (wOr t u):=by
 intro σ M ρ H Q rs j q;refine pZ (GG (pt_W a) (pw_W _)) ?_;show tWT X a ρ H _;refine eD (h σ M ρ H _ rs j q) λc k l=>?_
 obtain⟨d,M1,f,g⟩:=l;cases c with
 |false=>exact uu (h' σ M1 ρ k Q (rs.mono d) f g) λ_ _=>ut d
 |true=>exact⟨d,M1,f,g⟩
def yh(d f:WE):WE:=λσ M Q=>d σ M λx M1=>nV x λc=>Bif c (f σ M1 Q) (Q (.bl false) M1)
def wOrV(d f:WE):WE:=λσ M Q=>d σ M λx M1=>nV x λc=>Bif c (Q (.bl true) M1) (f σ M1 Q)
def yi(d:WE):WE:=λσ M Q=>d σ M λx M1=>nV x λc=>Q (.bl (!c)) M1
theorem xf{op:BoolOp}{t:WE}(h:PEd X a t):PEd X (.BoolOp op [a] pos) t:=λσ M ρ H Q rs d q=>bn (E4 (pe_W a)) (h σ M ρ H Q rs d q)
theorem xg{g j:WE}{rest:Zl}(h:PEd X a g)(h':PEd X (.BoolOp .And (b::rest) pos) j):PEd X (.BoolOp .And (a::b::rest) pos) (yh g j):=by
 intro σ M ρ H Q rs l q;refine bn (E5 (pe_W a) (pe_W _)) ?_;show tW X a ρ H _;refine aC (h σ M ρ H _ rs l q) λv m n=>?_
 obtain⟨f,x,M1,o,k,d⟩:=n;obtain⟨c,rfl,d⟩:=lN d;refine⟨c,RV.bl_.1 o,?_⟩;cases c with
 |true=>exact aC (h' σ M1 ρ m Q (rs.mono f) k d) λ_ _=>bv f
 |false=>exact⟨f,.bl false,M1,RV.bl_.2 rfl,k,d⟩
theorem zQ{g j:WE}{rest:Zl}(h:PEd X a g)(h':PEd X (.BoolOp .Or (b::rest) pos) j):PEd X (.BoolOp .Or (a::b::rest) pos) (wOrV g j):=by
 intro σ M ρ H Q rs l q;refine bn (GJ (pe_W a) (pe_W _)) ?_;show tW X a ρ H _;refine aC (h σ M ρ H _ rs l q) λv m n=>?_
 obtain⟨f,x,M1,o,k,d⟩:=n;obtain⟨c,rfl,d⟩:=lN d;refine⟨c,RV.bl_.1 o,?_⟩;cases c with
 |false=>exact aC (h' σ M1 ρ m Q (rs.mono f) k d) λ_ _=>bv f
 |true=>exact⟨f,.bl true,M1,RV.bl_.2 rfl,k,d⟩
theorem DR{f:WE}(h:PEd X a f):PEd X (.UnaryOp .Not a pos) (yi f):=by
 intro σ M ρ H Q rs g q;refine bn (E6 (pe_W a)) ?_;show tW X a ρ H _;refine aC (h σ M ρ H _ rs g q) λv n j=>?_
 obtain⟨k,x,M1,l,m,d⟩:=j;obtain⟨c,rfl,d⟩:=lN d;exact⟨c,RV.bl_.1 l,k,.bl (!c),M1,RV.bl_.2 rfl,m,d⟩
def wIf(t:WT)(d f:WE):WE:=λσ M Q=>t σ M λc M1=>Bif c (d σ M1 Q) (f σ M1 Q)
theorem zR{t:WT}{f g:WE}(hc:PTd X c t)(ha:PEd X a f)(hb:PEd X b g):PEd X (.IfExp c a b pos) (wIf t f g):=by
 intro σ M ρ H Q rs n q;refine bn (A5 (pt_W c) (pe_W a) (pe_W b)) ?_;show tWT X c ρ H _;refine eD (hc σ M ρ H _ rs n q) λk j o=>?_
 obtain⟨d,M1,l,m⟩:=o;cases k with
 |true=>exact aC (ha σ M1 ρ j Q (rs.mono d) l m) λ_ _=>bv d
 |false=>exact aC (hb σ M1 ρ j Q (rs.mono d) l m) λ_ _=>bv d
def rdL:Option MO->Option (List D)
 |some (.lst ds)=>some ds
 |some (.rol ds)=>some ds
 |_=>none
def truD(x:D)(M:MH)(Q:Bool->Prop):Prop:=match x with
 |.non=>Q false
 |.bl b=>Q b
 |.int i=>Q (i != 0)
 |.str y=>y.length<=sizeLine/\Q ((y.length:Int) != 0)
 |.tup ds=>Q (!ds.isEmpty)
 |.ref a=>match M a with
  |some (.lst ds)=>Q (!ds.isEmpty)
  |some (.rol ds)=>Q (!ds.isEmpty)
  |some (.dic d)=>Q (!d.isEmpty)
  |_=>False
 |.ty _=>False
theorem nW{d f:Type}{l:List d}{m:List f}(h:l.length=m.length):l.isEmpty=m.isEmpty:=by
 cases l<;>cases m<;>simp_all
theorem DT{K:Za}{M:MH}{x:D}{v:V}{Q:Bool->Prop}(r:RV K H x v)(m:RM K M H)(h:truD x M Q):∃k,TruV K v H k/\Q k:=by
 cases x with
 |non=>cases RV.non_.1 r;exact⟨_,rfl,h⟩
 |bl b=>cases RV.bl_.1 r;exact⟨_,rfl,h⟩
 |int i=>cases RV.int_.1 r;exact⟨_,rfl,h⟩
 |str y=>cases RV.str_.1 r;exact⟨_,⟨h.1,rfl⟩,h.2⟩
 |ty n=>exact Yh h
 |tup ds=>
  obtain⟨a,xs,rfl,s,d⟩:=RV.tup_.1 r;exact⟨_,.inr (.inl ⟨xs,s,rfl⟩),by rw[←nW d.len];exact h⟩
 |ref a=>
  cases RV.ref_.1 r;have h:match M a with
   |some (.lst ds)=>Q (!ds.isEmpty)
   |some (.rol ds)=>Q (!ds.isEmpty)
   |some (.dic f)=>Q (!f.isEmpty)
   |_=>False:=h
  split at h
  ·rename_i ds e
   obtain⟨xs,q,d⟩:=m a _ e;exact⟨_,.inl ⟨xs,SqL.of q,rfl⟩,by rw[←nW d.len];exact h⟩
  ·rename_i ds e
   obtain⟨xs,q,d⟩:=m a _ e;exact⟨_,.inl ⟨xs,.inl q,rfl⟩,by rw[←nW d.len];exact h⟩
  ·rename_i f e
   obtain⟨g,q,k,d⟩:=m a _ e;refine⟨_,.inr (.inr ⟨g,q,rfl⟩),?_⟩;have:g.length=f.length:=by have:=congrArg List.length k;simpa using this
   rw[nW this];exact h
  ·exact Yh h
def wTru(t:WE):WT:=λσ M Q=>t σ M λx M1=>truD x M1 λk=>Q k M1
theorem DU{t:WE}(h:PEd X a t)(g:∀d,isTrue a X.env d=(do let v ←d;standAt a.pos;holding [v] (truthy v))):PTd X a (wTru t):=by
 intro σ M ρ H Q rs j q;refine ur (Ba (pe_W a) g) ?_;show tW X a ρ H _;refine aC (h σ M ρ H _ rs j q) λv u l=>?_
 obtain⟨m,x,M1,n,f,o⟩:=l;obtain⟨k,p,r⟩:=DT n f o;exact⟨k,p,m,M1,f,r⟩
def wNil:WA:=λ_ M Q=>Q [] M
def yj(t:WE)(u:WA):WA:=λσ M Q=>t σ M λx M1=>u σ M1 λxs M2=>Q (x::xs) M2
theorem DV:PAd X [] wNil:=λσ M ρ H Q rs d q=>zO Ft ⟨Kp.refl H,[],M,RVs.nil,rfl,d,q⟩
theorem Bv{t:WE}{u:WA}(h:PEd X e t)(h':PAd X es u)(j:ah e=true):PAd X (e::es) (yj t u):=by
 intro σ M ρ H Q rs k q;refine zO (Dp (pe_W e) (pa_W es) (aO j)) ?_;show tW X e ρ H _;refine aC (h σ M ρ H _ rs k q) λv d l=>?_
 obtain⟨f,x,M1,m,n,o⟩:=l;show tWA X es ρ d _;refine ca (h' σ M1 ρ d _ (rs.mono f) n o) λvs z p=>?_
 obtain⟨g,xs,M2,r,l2,w,y⟩:=p;exact⟨f.trans g,x::xs,M2,RVs.cons (RV.mono g x m) r,by simp[l2],w,y⟩
def wTup(t:WA):WE:=λσ M Q=>t σ M λxs M1=>Q (.tup xs) M1
def wLst(t:WA):WE:=λσ M Q=>t σ M λxs M1=>∀p,M1 p=none->Q (.ref p) (updM M1 p (.lst xs))
theorem DW{t:WA}{k:Nat}(h:PAd X es t)(hz:es.length<=1000):PEd X (.Tuple es k pos) (wTup t):=by
 intro σ M ρ H Q rs j q;refine bn (Fu (pa_W es)) ?_;show tWA X es ρ H _;refine ca (h σ M ρ H _ rs j q) λvs d l=>?_
 obtain⟨m,xs,M1,f,l1,n,o⟩:=l;refine⟨?_,λp hp=>?_⟩
 ·rw[←f.len,l1];exact Nat.le_of_lt (sK hz)
 ·have g:Kp d (upd d p (.tup vs)):=Kp.new hp
  exact⟨m.trans g,.tup xs,M1,RV.tup_.2 ⟨p,vs,rfl,SqT.of ay,RVs.mono g _ f⟩,n.newH hp,o⟩
theorem DX{t:WA}(h:PAd X es t)(hz:es.length<=1000):PEd X (.List es pos) (wLst t):=by
 intro σ M ρ H Q rs k q;refine bn (Fv (pa_W es)) ?_;show tWA X es ρ H _;refine ca (h σ M ρ H _ rs k q) λvs d l=>?_
 obtain⟨n,xs,M1,f,l1,g,o⟩:=l;refine⟨?_,λp hp=>?_⟩
 ·rw[←f.len,l1];exact Nat.le_of_lt (sK hz)
 ·have j:Kp d (upd d p (.lst vs)):=Kp.new hp
  exact⟨n.trans j,.ref p,_,RV.ref_.2 rfl,g.new (m:=.lst xs) hp ⟨vs,ay,RVs.mono j _ f⟩,o p (g.fresh hp)⟩
abbrev SpD:=List D->MH->DK->Prop
abbrev Yl:SpD:=λ_ _ _=>False
def fH(K:Za)(sp:SpD):Sp:=λvs H Q _=>∃ds M f,RVs K H ds vs/\RM K M H/\sp ds M f/\∀d M' v H',f d M'->Kp H H'->RV K H' d v->RM K M' H'->Q v H'
def FnD(P:ZS)(w:World)(K:Za)(mg:Zi)(base:Heap)(k:Nat)(x:Str)(sp:SpD):Prop:=
 ∃st ps f fd,IsDef K mg x st ps f fd/\FnOk P w K mg base CX0 k f fd ps (fH K sp)
theorem cw{env:Env}{pos:Pos}:∀{es:Zl},es.all ah=true->(backTo pos (starEach es env)).any (·.1)=false
 |[],_=>rfl
 |e::es,h=>by
  rw[XT,XB] at h;rw[aO h.1];show(false||(backTo pos (starEach es env)).any (·.1))=false;rw[cw h.2];rfl
def gU(sp:SpD)(t:WA):WE:=λσ M Q=>t σ M λds M1=>sp ds M1 Q
theorem DY{k:Nat}{x:Str}{sp:SpD}{t:WA}{p:Pos}(F:FnD X.prog X.w X.K X.mg X.base k x sp)(g:Room k X.A)(hg:Gl X x)(j:(x==("__debug__" : Str))=false)(l:ah e=true)(m:es.all ah=true)(ha:PAd X (e::es) t):
  PEd X (.Call (.Name x p) (e::es) [] pos) (gU sp t):=by
 obtain⟨st,ps,f,fd,n,G⟩:=F;intro σ M ρ H Q rs o q;refine bn (FG n G g (pa_W (e::es)) hg j (aO l) (cw m)) ?_;show tWA X (e::es) ρ H _;refine ca (ha σ M ρ H _ rs o q) λvs J r=>?_
 obtain⟨u,xs,M1,y,l1,z,B⟩:=r;rw[ZA];exact⟨xs,M1,Q,y,z,B,λd M' v H' C kk E I=>⟨u.trans kk,d,M',E,I,C⟩⟩
end
def p9(K:Za):Bool:=K.all λp=>match p.2.cls with
 |.type t=>!(t == "list")
 |_=>true
theorem sM{a:Addr}{o:Obj}:∀{K:Za},p9 K=true->K.lookup a=some o->o.cls=.type "list"->False
 |[],_,h,_=>by cases h
 |(b,p)::K,hn,h,hc=>by
  unfold p9 at hn;rw[XT,XB] at hn;rw[XO] at h;split at h
  ·cases h
   have c:=hn.1;simp only[hc] at c;exact absurd c (by decide)
  ·exact sM (K:=K) hn.2 h hc
theorem uv{K:Za}{H:Hp}:∀(ns:Zn),RVs K H (ns.map D.int) (ns.map V.int)
 |[]=>.nil
 |n::ns=>.cons (RV.int_.2 rfl) (uv ns)
def nX(a:Addr)(ns:Zn):MH:=λb=>if b=a then some (.rol (ns.map D.int)) else none
def t7(n:Nat)(sp:SpD):Prop:=∀a ns,ns.length<=n->sp [.ref a] (nX a ns) λd _=>d=.bl true
theorem FI{K:Za}{H:Hp}{a:Addr}{ns:Zn}{n:Nat}{sp:SpD}(f:p9 K=true)(g:t7 n sp)(hl:ns.length<=n)(c:SqL K H a (ns.map V.int))(E:XK):fH K sp [.ref a] H (λv _=>v=.bl true) E:=by
 rcases c with c | ⟨o,d_,m,h1,h2,_⟩
 ·refine⟨[.ref a],nX a ns,λd _=>d=.bl true,.cons (RV.ref_.2 rfl) .nil,λb o e=>?_,g a ns hl,λd M' v H' q _ r _=>?_⟩
  ·unfold nX at e
   split at e
   ·rename_i hb
    subst hb;cases e;exact⟨_,c,uv ns⟩
   ·cases e
  ·subst q
   exact RV.bl_.1 r
 ·exact(sM f h1 h2).elim
mutual
noncomputable def gV(K:Za):D->Value->Bool
 |.non,u=>match u with
  |.none=>true
  |_=>false
 |.bl b,u=>match u with
  |.bool c=>decide (b=c)
  |_=>false
 |.int i,u=>match u with
  |.int j _=>decide (i=j)
  |_=>false
 |.str x,u=>match u with
  |.str y _=>decide (x=y)
  |_=>false
 |.ty n,u=>match u with
  |.type m=>decide (n=m)
  |_=>false
 |.ref a,u=>match u with
  |.ref b=>decide (a=b)
  |_=>false
 |.tup ds,u=>match u with
  |.ref a=>(match K.lookup a with
   |some ⟨.type t,_,.seq d_ _,_⟩=>decide (t = "tuple")&&decide (d_.size<=sizeLine)&&m7 K ds d_.toList
   |_=>false)
  |_=>false
noncomputable def m7(K:Za):List D->List Value->Bool
 |[],us=>us.isEmpty
 |d::ds,us=>match us with
  |u::us=>gV K d u&&m7 K ds us
  |[]=>false
end
mutual
theorem uw{K:Za}:∀(d:D){u:Value},gV K d u=true->∃v,RelV v u/\∀H,RV K H d v
 |.non,u,h=>by
  unfold gV at h;split at h
  ·exact⟨.non,rfl,λ_=>RV.non_.2 rfl⟩
  ·cases h
 |.bl b,u,h=>by
  unfold gV at h;split at h
  ·cases XS h;exact⟨.bl _,rfl,λ_=>RV.bl_.2 rfl⟩
  ·cases h
 |.int b,u,h=>by
  unfold gV at h;split at h
  ·cases XS h;exact⟨.int _,⟨_,rfl⟩,λ_=>RV.int_.2 rfl⟩
  ·cases h
 |.str b,u,h=>by
  unfold gV at h;split at h
  ·cases XS h;exact⟨.str _,⟨_,rfl⟩,λ_=>RV.str_.2 rfl⟩
  ·cases h
 |.ty b,u,h=>by
  unfold gV at h;split at h
  ·cases XS h;exact⟨.ty _,rfl,λ_=>RV.ty_.2 rfl⟩
  ·cases h
 |.ref a,u,h=>by
  unfold gV at h;split at h
  ·cases XS h;exact⟨.ref _,rfl,λ_=>RV.ref_.2 rfl⟩
  ·cases h
 |.tup ds,u,h=>by
  unfold gV at h;split at h
  ·rename_i a
   split at h
   ·rename_i t od d_ n sl e
    simp only[XB,XU] at h;obtain⟨⟨h1,h2⟩,h3⟩:=h;obtain⟨vs,r1,r2⟩:=sN ds h3;exact⟨.ref a,rfl,λH=>RV.tup_.2 ⟨a,vs,rfl,.inr ⟨_,d_,n,e,by rw[h1],rfl,h2,r1⟩,r2 H⟩⟩
   ·cases h
  ·cases h
theorem sN{K:Za}:∀(ds:List D){us:Zh},m7 K ds us=true->∃vs,Vals vs us/\∀H,RVs K H ds vs
 |[],us,h=>by
  unfold m7 at h;cases us with
  |nil=>exact⟨[],.nil,λ_=>.nil⟩
  |cons u us=>cases h
 |d::ds,us,h=>by
  unfold m7 at h;split at h
  ·rename_i u us
   rw[XB] at h;obtain⟨v,r1,r2⟩:=uw d h.1;obtain⟨vs,r3,r4⟩:=sN ds h.2;exact⟨v::vs,.cons r1 r3,λH=>.cons (r2 H) (r4 H)⟩
  ·cases h
end
def nY(K:Za):List Str->List D->Bool
 |[],_=>true
 |x::xs,ds=>(match PySem.W.nsIn K mainGlobals x with
  |some (some u)=>gV K (ds.headD .non) u
  |_=>false)&&nY K xs ds.tail
theorem qa{K:Za}{h:Heap}{mg:Zi}(X:K.In h)(G:h.Ns mainGlobals mg):∀{xs:Zk}{ds:List D},nY K xs ds=true->∀(j:Nat) x,xs[j]?=some x->mZ K mg x (ds.getD j .non)
 |[],_,_,j,x,e=>by cases e
 |y::xs,ds,hk,j,x,e=>by
  unfold nY at hk;rw[XB] at hk;cases j with
  |zero=>
   have e:y=x:=by simpa using e
   subst e;have a:=hk.1;split at a
   ·rename_i u q
    obtain⟨v,b,c⟩:=uw _ a;have:ds.getD 0 .non=ds.headD .non:=by cases ds<;>rfl
    rw[this];exact⟨v,u,PySem.W.mg_of X G q,b,c⟩
   ·cases a
  |succ j=>
   have:=qa X G hk.2 j x (by simpa using e)
   have e2:ds.getD (j+1) .non=ds.tail.getD j .non:=by cases ds<;>simp
   rw[e2];exact this
def zS(K:Za)(xs:Zk):Bool:=xs.all λx=>match PySem.W.nsIn K mainGlobals x with
 |some none=>true
 |_=>false
theorem zT{K:Za}{h:Heap}{mg:Zi}(X:K.In h)(G:h.Ns mainGlobals mg){xs:Zk}(hk:zS K xs=true):∀x,xs.contains x=true->mg x=none:=by
 intro x hx
 have:=XQ.1 hk x (by simpa using hx)
 split at this
 ·rename_i q
  exact PySem.W.mg_none_of X G q
 ·cases this
theorem G7{l:PySem.W.OpenLaw}{n k:Nat}{q:ZS}{loose:Zk}{XP:(Str->Option Value)->Heap->Prop}{YP:World->Heap->Prop}{d:DefRec}{K:Params->PySem.W.Frag}{sp:SpD}{x:Str}
  (hn:l.most=some n) (c:n<=sizeLine) (g:d.params.defaults=[]) (j:Room k callerA) (m:t7 n sp)
  (o:∀(w:World) (h:Heap),YP w h->(K w.params).In h) (p:∀w:World,p9 (K w.params)=true)
  (F:∀(w:World) (mg:Zi) (b:Addr) (h:Heap),(K w.params).In h->h.Ns mainGlobals mg->mg d.name=some (.ref b) ->
   ∃fd:FuncData,(∀(s:Shared) (u:Value),BindsTo s fd ⟨[u],[]⟩ [(x,u)]) /\
    ∀base:Heap,(K w.params).In base->base.Ns mainGlobals mg->FnOk l.prog w (K w.params) mg base CX0 k b fd [x] (fH (K w.params) sp)):
  PySem.W.WalkO q loose XP YP l.row.toRowW d [] (λf vs=>PySem.call f vs):=
 L2.DA (n:=n) (k:=k) (x:=x) (CX:=λ_=>CX0) (sp:=λw=>fH (K w.params) sp) hn c g j o F (λw _ a ns hl _ r=>FI (p w) m hl r _) λ_ _ _ _ _ z=>z
section
variable {P:ZS}{w:World}{K:Za}{mg:Zi}{base:Heap}{k:Nat}
structure DefAt (K:Za) (x:Str) (st:Stmt) (f:Addr) (fd:ZD):Prop where
 ex:∃(oc:Value) (od an:Zr) (Hl:Zs) (kV A_ pm x_ ct:Value),PySem.W.nsIn K mainGlobals x=some (some (.ref f)) /\
  fd=PySem.W.fnOf x x (bh st) (aG st) (af st) .none kV A_ pm an x_ ct/\K.lookup f=some ⟨oc,od,.func fd,Hl⟩/\PySem.W.codeIn K x_ x=true/\PySem.W.keepIn K (.ref f)=true
theorem DefAt.mk'{x:Str}{st:Stmt}{f:Addr}{oc:Value}{od an:Zr}{Hl:Zs}{kV A_ pm x_ ct:Value}
  (a:PySem.W.nsIn K mainGlobals x=some (some (.ref f))) (l:K.lookup f=some ⟨oc,od,.func (PySem.W.fnOf x x (bh st) (aG st) (af st) .none kV A_ pm an x_ ct),Hl⟩)
  (c:PySem.W.codeIn K x_ x=true) (k:PySem.W.keepIn K (.ref f)=true):DefAt K x st f (PySem.W.fnOf x x (bh st) (aG st) (af st) .none kV A_ pm an x_ ct):=
 ⟨⟨oc,od,an,Hl,kV,A_,pm,x_,ct,a,rfl,l,c,k⟩⟩
theorem DefAt.def_{h:Heap}{x:Str}{st:Stmt}{ps:Zk}{f:Addr}{fd:ZD}(A:DefAt K x st f fd)(X:K.In h)(G:h.Ns mainGlobals mg)
  (hb:∀(kV A_ pm:Value) (an:Zr) (x_ ct:Value) (us:Zh),us.length=ps.length->bindArgs (PySem.W.fnOf x x (bh st) (aG st) (af st) .none kV A_ pm an x_ ct) ⟨us,[]⟩=pure (ps.zip us)):
  IsDef K mg x st ps f fd:=by
 obtain⟨oc,od,an,Hl,kV,A_,pm,x_,ct,a,rfl,l,c,k⟩:=A.ex;exact Bs X G a l c k hb
def isBt:Option (Option Value)->String->Bool
 |some (some (.builtin n)),s=>decide (n=s)
 |_,_=>false
def isNo:Option (Option Value)->Bool
 |some none=>true
 |_=>false
theorem DZ{o:Option (Option Value)}{s:String}(h:isBt o s=true):o=some (some (.builtin s)):=by
 unfold isBt at h;split at h
 ·cases XS h;rfl
 ·cases h
theorem D1{o:Option (Option Value)}(h:isNo o=true):o=some none:=by
 unfold isNo at h;split at h
 ·rfl
 ·cases h
def clsIn(K:Za)(C:Addr)(fs:Zk):Bool:=
 PySem.W.plainGet K C Str.empty&&PySem.W.hasDictIn K C&&PySem.W.plainOver K C&&isBt (PySem.W.findIn K (.ref C) "__setattr__") "object.__setattr__" && fs.all (λf=>isNo (PySem.W.findIn K (.ref C) f))
theorem aI{C:Addr}{fs:Zk}(h:clsIn K C fs=true):Cls K C:=by
 unfold clsIn at h;simp only[XB] at h;exact⟨h.1.1.1.1,h.1.1.1.2,h.1.1.2,DZ h.1.2⟩
theorem o3{C:Addr}{fs:Zk}{f:Str}(h:clsIn K C fs=true)(hf:f∈fs):bW K C f:=by
 unfold clsIn at h;simp only[XB] at h;exact D1 (XQ.1 h.2 f hf)
structure MethAt (K:Za) (C:Addr) (m l_:Str) (st:Stmt) (f:Addr) (fd:ZD):Prop where
 at_:PySem.W.findIn K (.ref C) m=some (some (.ref f))
 fn:PySem.W.isFn K (.ref f)=true
 fun_:Fun K m l_ st f fd
theorem MethAt.mk'{C:Addr}{m l_:Str}{st:Stmt}{f:Addr}{oc:Value}{od an:Zr}{Hl:Zs}{kV A_ pm x_ ct:Value}
  (a:PySem.W.findIn K (.ref C) m=some (some (.ref f))) (l:K.lookup f=some ⟨oc,od,.func (PySem.W.fnOf m l_ (bh st) (aG st) (af st) .none kV A_ pm an x_ ct),Hl⟩)
  (n:PySem.W.isFn K (.ref f)=true) (c:PySem.W.codeIn K x_ l_=true) (k:PySem.W.keepIn K (.ref f)=true):MethAt K C m l_ st f (PySem.W.fnOf m l_ (bh st) (aG st) (af st) .none kV A_ pm an x_ ct):=
 ⟨a,n,uo l c k⟩
theorem MethAt.meth{C:Addr}{m l_:Str}{st:Stmt}{f:Addr}{fd:ZD}(A:MethAt K C m l_ st f fd):Meth K C m f:=⟨A.at_,A.fn,A.fun_.kp⟩
end
end DD
namespace K41
open PySem PySem.Spec PyProof.Rows L2 DD
def top(i:Nat):Stmt:=PySem.Challenge.pw_notring_k41_sorted_by_rounds.main.body.getD i (.Pass ⟨0,0,0,0⟩)
abbrev bltL:List Str:=["all","bool","enumerate","int","isinstance","len","list","max","min","range","set","sorted","str","tuple"]
abbrev dy:List Str:=["MOST_CONDS","HIGHEST_NUMBER","MOST_LISTED","MOST_FACTS","MOST_ROWS"]
abbrev jb:List D:=[(.int 6),(.int 6),(.int 6),(.int 120),(.int 400)]
abbrev lO:Stmt:=top 2
abbrev lP:Stmt:=top 3
abbrev lQ:Stmt:=top 4
abbrev o4:Stmt:=top 5
abbrev m8:Stmt:=top 6
abbrev kI:Stmt:=top 7
abbrev lR:Stmt:=top 14
abbrev kJ:Stmt:=top 15
abbrev iD:Stmt:=top 16
abbrev iE:Stmt:=top 18
abbrev gx:Stmt:=top 19
abbrev lS:Stmt:=top 20
abbrev iF:Stmt:=top 21
abbrev fI:Stmt:=top 22
abbrev kK:Stmt:=top 25
abbrev jE:Stmt:=top 26
abbrev kL:Stmt:=top 27
abbrev gy:Stmt:=top 38
abbrev gz:Stmt:=top 39
abbrev dz:Stmt:=top 40
abbrev o5:Stmt:=top 41
abbrev m9:Stmt:=top 42
abbrev kM:Stmt:=top 43
abbrev jF:Stmt:=top 44
abbrev iG:Stmt:=top 46
abbrev lT:Stmt:=top 47
abbrev gW:Stmt:=top 48
abbrev lU:Stmt:=top 49
abbrev lV:Stmt:=top 50
abbrev lW:Stmt:=top 51
abbrev lX:Stmt:=top 52
abbrev iH:Stmt:=top 54
abbrev ng:Stmt:=top 55
abbrev kN:Stmt:=top 56
abbrev nh:Stmt:=top 57
abbrev iI:Stmt:=top 58
abbrev jG:Stmt:=top 59
abbrev ni:Stmt:=top 60
abbrev cV:Stmt:=top 61
abbrev qb:Stmt:=top 62
abbrev kO:Stmt:=inClass (top 10) 0
abbrev gA:Stmt:=inClass (top 10) 2
abbrev gB:Stmt:=inClass (top 10) 4
abbrev kP:Stmt:=inClass (top 11) 0
abbrev gC:Stmt:=inClass (top 11) 2
abbrev gD:Stmt:=inClass (top 11) 4
abbrev kQ:Stmt:=inClass (top 12) 0
abbrev gE:Stmt:=inClass (top 12) 2
abbrev gF:Stmt:=inClass (top 12) 4
abbrev kR:Stmt:=inClass (top 13) 0
abbrev gG:Stmt:=inClass (top 13) 2
abbrev gH:Stmt:=inClass (top 13) 4
abbrev gI:Stmt:=inClass (top 24) 0
abbrev gJ:Stmt:=inClass (top 24) 1
abbrev cx:Stmt:=inClass (top 24) 2
abbrev ck:Stmt:=inClass (top 24) 3
abbrev cy:Stmt:=inClass (top 24) 4
abbrev cT:Stmt:=inClass (top 24) 5
abbrev jH:Stmt:=inClass (top 37) 0
abbrev eG:Stmt:=inClass (top 37) 1
abbrev eI:Stmt:=inClass (top 37) 4
abbrev cU:Stmt:=inClass (top 37) 5
abbrev fJ:Stmt:=inClass (top 37) 6
abbrev eJ:Stmt:=inClass (top 37) 7
def HDef(K:Za)(x:Str)(st:Stmt):Prop:=∃f fd,DefAt K x st f fd
def bf(K:Za)(C:Addr)(m q:Str)(st:Stmt):Prop:=∃f fd,MethAt K C m q st f fd
abbrev fldL:List Str:=["fact","number","facts","at"]
abbrev FJ:List Str:=["many","heads","conds","headed","leanings","helped"]
abbrev G9:List Str:=["pairs","sure","unsure","others"]
structure Hyps (K:Za) (cH cL cS cD S Z:Addr):Prop where
 a_0:HDef K "has_fact" lQ
 a_1:HDef K "count_in" lR
 a_2:HDef K "answer_in" kK
 a_3:HDef K "set_of" o4
 a_4:HDef K "all_carried" iD
 a_5:HDef K "carried_heads" fI
 a_6:HDef K "helped_rows" iF
 a_7:HDef K "members" m8
 a_8:HDef K "all_rows" lS
 a_9:HDef K "ranked_among" gx
 a_10:HDef K "least_among" iE
 a_11:HDef K "next_pair" kL
 a_12:HDef K "to_and_fro" jE
 a_13:HDef K "all_facts" kI
 a_14:HDef K "rows_by_help" dz
 a_15:HDef K "row_leanings" gy
 a_16:HDef K "rows_by_head" gz
 a_17:HDef K "made_cond" kJ
 a_18:HDef K "is_whole" lO
 a_19:HDef K "is_below" lP
 a_20:HDef K "is_listing" jF
 a_21:HDef K "is_number" kM
 a_22:HDef K "is_cond" m9
 a_23:HDef K "is_row" o5
 a_24:HDef K "_law_set" ni
 a_25:HDef K "_law_draw" lT
 a_26:HDef K "_law_places" jG
 a_27:HDef K "_law_long_good" cV
 a_28:HDef K "_law_cell_at" iG
 a_29:HDef K "_law_plain" gW
 a_30:HDef K "_law_same" lU
 a_31:HDef K "_law_answers" iI
 a_32:HDef K "_law_carried" iH
 a_33:HDef K "_law_met" ng
 a_34:HDef K "_law_least" kN
 a_35:HDef K "_law_due" nh
 a_36:HDef K "_law_told" lX
 a_37:HDef K "_law_cond" lV
 a_38:HDef K "_law_rows" lW
 a_58:bf K cH "__init__" "Have.__init__" kO
 a_59:bf K cH "carried" "Have.carried" gA
 a_60:bf K cH "leaning" "Have.leaning" gB
 a_61:bf K cL "__init__" "Lack.__init__" kP
 a_62:bf K cL "carried" "Lack.carried" gC
 a_63:bf K cL "leaning" "Lack.leaning" gD
 a_64:bf K cS "__init__" "Some.__init__" kQ
 a_65:bf K cS "carried" "Some.carried" gE
 a_66:bf K cS "leaning" "Some.leaning" gF
 a_67:bf K cD "__init__" "Lead.__init__" kR
 a_68:bf K cD "carried" "Lead.carried" gG
 a_69:bf K cD "leaning" "Lead.leaning" gH
 a_70:bf K S "__init__" "Sheet.__init__" jH
 a_71:bf K S "how_many" "Sheet.how_many" eG
 a_72:bf K S "rows_for" "Sheet.rows_for" eI
 a_73:bf K S "rows_helped" "Sheet.rows_helped" cU
 a_74:bf K S "head_of" "Sheet.head_of" fJ
 a_75:bf K S "conds_of" "Sheet.conds_of" eJ
 a_86:bf K Z "__init__" "Sorting.__init__" gI
 a_92:bf K Z "true_facts" "Sorting.true_facts" cx
 a_94:bf K Z "open_facts" "Sorting.open_facts" cy
 a_93:bf K Z "false_facts" "Sorting.false_facts" ck
 a_53:bf K Z "runs" "Sorting.runs" gJ
 a_54:bf K Z "answer_of" "Sorting.answer_of" cT
def CP(sp:SpD):Prop:=∀{l:PySem.W.OpenLaw}{w:World}{K:Za}{h:Heap}{mg:Zi}{a cH cL cS cD S Z:Addr}(X:K.In h) (G:h.Ns mainGlobals mg) (d:mg "law" = some (.ref a))
 (f:(decide (cH≠cL)&&decide (cH≠cS)&&decide (cH≠cD)&&decide (cL≠cS)&&decide (cL≠cD)&&decide (cS≠cD))=true) (gl:nY K dy jb=true) (bl:zS K bltL=true)
 (g:PySem.W.nsIn K mainGlobals "Have" = some (some (.ref cH))) (JQ:(clsIn K cH fldL&&PySem.W.makesIn K cH&&PySem.W.keepIn K (.ref cH))=true)
 (JR:PySem.W.nsIn K mainGlobals "Lack" = some (some (.ref cL))) (JS:(clsIn K cL fldL&&PySem.W.makesIn K cL&&PySem.W.keepIn K (.ref cL))=true)
 (JT:PySem.W.nsIn K mainGlobals "Some" = some (some (.ref cS))) (JU:(clsIn K cS fldL&&PySem.W.makesIn K cS&&PySem.W.keepIn K (.ref cS))=true)
 (JV:PySem.W.nsIn K mainGlobals "Lead" = some (some (.ref cD))) (JW:(clsIn K cD fldL&&PySem.W.makesIn K cD&&PySem.W.keepIn K (.ref cD))=true)
 (JX:PySem.W.nsIn K mainGlobals "Sheet" = some (some (.ref S))) (JY:(clsIn K S FJ&&PySem.W.makesIn K S&&PySem.W.keepIn K (.ref S))=true)
 (JZ:PySem.W.nsIn K mainGlobals "Sorting" = some (some (.ref Z))) (J0:(clsIn K Z G9&&PySem.W.makesIn K Z&&PySem.W.keepIn K (.ref Z))=true)
 {b:Addr}{c:ZD}(Ib:DefAt K "law" qb b c)
 (hy:Hyps K cH cL cS cD S Z),
 ∃fd:FuncData,(∀(s:Shared) (v:Value),BindsTo s fd ⟨[v],[]⟩ [("_law_script",v)])/\∀base:Heap,K.In base->base.Ns mainGlobals mg->FnOk l.prog w K mg base CX0 13 a fd ["_law_script"] (fH K sp)
end K41
section
open PySem PySem.W PyProof.Rows L2 DD
local macro_rules
  | `(tactic| o_head $H:term) => `(tactic| refine holds_open (q := K41.viewQ) (loose := []) (Xt := λs => xlAt K41.viewQ [] s && recOk [] s) (XP := XL K41.viewQ []) (Yf := Hook.obs $H) (Ya := Hook.val $H) (YP := Hook.says $H) (N := 11100) ?$(Lean.mkIdent `hl) (Hook.of $H) (Hook.keeps $H)
      (λs e=>xl_of s (Bool.and_eq_true_iff.mp e).1) XL.keeps (by rfl) (by rfl) (by rfl) (λs e=>recFacts_of (Bool.and_eq_true_iff.mp e).2) (by rfl) (by first | assumption | rfl') (by rfl') ⟨rfl,rfl,rfl,rfl,rfl,by rfl'⟩ ?$(Lean.mkIdent `hw) ?$(Lean.mkIdent `hc))
set_option maxHeartbeats 0 in
theorem K41.over{sp:SpD}(ok:t7 63 sp)(a:K41.CP sp):PySem.Challenge.rw_notring_k41_sorted_by_rounds.Holds:=by
 w_on;refine holds_law K41.said λsaid=>?_;k_head
 (case hl=>exact TopT.GD K41.seen1 K41.seen2 K41.seen3 K41.seen5 K41.seen6 (λw=>by kernel_rfl))
 (case hw=>w_witness2);k_fill;refine DD.G7 (l:=PySem.Challenge.rw_notring_k41_sorted_by_rounds) (n:=63) (k:=13) (x:="_law_script") rfl (by decide) rfl ⟨rfl,by decide,by decide⟩ ok (λw h Y=>PySem.W.kIn_of Y) ?noL ?defs
 case noL=>intro w;kernel_rfl
 case defs=>
  intro w mg d h b G c;refine' a b G c ?ap ?gl ?bl ?JP ?JQ ?JR ?JS ?JT ?JU ?JV ?JW ?JX ?JY ?JZ ?J0 (DefAt.mk' ?Ib ?l_39 ?c_39 ?k_39) ⟨⟨_,_,DefAt.mk' ?a_0 ?l_0 ?c_0 ?k_0⟩,⟨_,_,DefAt.mk' ?a_1 ?l_1 ?c_1 ?k_1⟩,⟨_,_,DefAt.mk' ?a_2 ?l_2 ?c_2 ?k_2⟩,⟨_,_,DefAt.mk' ?a_3 ?l_3 ?c_3 ?k_3⟩,⟨_,_,DefAt.mk' ?a_4 ?l_4 ?c_4 ?k_4⟩,⟨_,_,DefAt.mk' ?a_5 ?l_5 ?c_5 ?k_5⟩,⟨_,_,DefAt.mk' ?a_6 ?l_6 ?c_6 ?k_6⟩,⟨_,_,DefAt.mk' ?a_7 ?l_7 ?c_7 ?k_7⟩,⟨_,_,DefAt.mk' ?a_8 ?l_8 ?c_8 ?k_8⟩,⟨_,_,DefAt.mk' ?a_9 ?l_9 ?c_9 ?k_9⟩,⟨_,_,DefAt.mk' ?a_10 ?l_10 ?c_10 ?k_10⟩,⟨_,_,DefAt.mk' ?a_11 ?l_11 ?c_11 ?k_11⟩,⟨_,_,DefAt.mk' ?a_12 ?l_12 ?c_12 ?k_12⟩,⟨_,_,DefAt.mk' ?a_13 ?l_13 ?c_13 ?k_13⟩,⟨_,_,DefAt.mk' ?a_14 ?l_14 ?c_14 ?k_14⟩,⟨_,_,DefAt.mk' ?a_15 ?l_15 ?c_15 ?k_15⟩,⟨_,_,DefAt.mk' ?a_16 ?l_16 ?c_16 ?k_16⟩,⟨_,_,DefAt.mk' ?a_17 ?l_17 ?c_17 ?k_17⟩,⟨_,_,DefAt.mk' ?a_18 ?l_18 ?c_18 ?k_18⟩,⟨_,_,DefAt.mk' ?a_19 ?l_19 ?c_19 ?k_19⟩,⟨_,_,DefAt.mk' ?a_20 ?l_20 ?c_20 ?k_20⟩,⟨_,_,DefAt.mk' ?a_21 ?l_21 ?c_21 ?k_21⟩,⟨_,_,DefAt.mk' ?a_22 ?l_22 ?c_22 ?k_22⟩,⟨_,_,DefAt.mk' ?a_23 ?l_23 ?c_23 ?k_23⟩,⟨_,_,DefAt.mk' ?a_24 ?l_24 ?c_24 ?k_24⟩,⟨_,_,DefAt.mk' ?a_25 ?l_25 ?c_25 ?k_25⟩,⟨_,_,DefAt.mk' ?a_26 ?l_26 ?c_26 ?k_26⟩,⟨_,_,DefAt.mk' ?a_27 ?l_27 ?c_27 ?k_27⟩,⟨_,_,DefAt.mk' ?a_28 ?l_28 ?c_28 ?k_28⟩,⟨_,_,DefAt.mk' ?a_29 ?l_29 ?c_29 ?k_29⟩,⟨_,_,DefAt.mk' ?a_30 ?l_30 ?c_30 ?k_30⟩,⟨_,_,DefAt.mk' ?a_31 ?l_31 ?c_31 ?k_31⟩,⟨_,_,DefAt.mk' ?a_32 ?l_32 ?c_32 ?k_32⟩,⟨_,_,DefAt.mk' ?a_33 ?l_33 ?c_33 ?k_33⟩,⟨_,_,DefAt.mk' ?a_34 ?l_34 ?c_34 ?k_34⟩,⟨_,_,DefAt.mk' ?a_35 ?l_35 ?c_35 ?k_35⟩,⟨_,_,DefAt.mk' ?a_36 ?l_36 ?c_36 ?k_36⟩,⟨_,_,DefAt.mk' ?a_37 ?l_37 ?c_37 ?k_37⟩,⟨_,_,DefAt.mk' ?a_38 ?l_38 ?c_38 ?k_38⟩,⟨_,_,MethAt.mk' ?a_58 ?l_58 ?n_58 ?c_58 ?k_58⟩,⟨_,_,MethAt.mk' ?a_59 ?l_59 ?n_59 ?c_59 ?k_59⟩,⟨_,_,MethAt.mk' ?a_60 ?l_60 ?n_60 ?c_60 ?k_60⟩,⟨_,_,MethAt.mk' ?a_61 ?l_61 ?n_61 ?c_61 ?k_61⟩,⟨_,_,MethAt.mk' ?a_62 ?l_62 ?n_62 ?c_62 ?k_62⟩,⟨_,_,MethAt.mk' ?a_63 ?l_63 ?n_63 ?c_63 ?k_63⟩,⟨_,_,MethAt.mk' ?a_64 ?l_64 ?n_64 ?c_64 ?k_64⟩,⟨_,_,MethAt.mk' ?a_65 ?l_65 ?n_65 ?c_65 ?k_65⟩,⟨_,_,MethAt.mk' ?a_66 ?l_66 ?n_66 ?c_66 ?k_66⟩,⟨_,_,MethAt.mk' ?a_67 ?l_67 ?n_67 ?c_67 ?k_67⟩,⟨_,_,MethAt.mk' ?a_68 ?l_68 ?n_68 ?c_68 ?k_68⟩,⟨_,_,MethAt.mk' ?a_69 ?l_69 ?n_69 ?c_69 ?k_69⟩,⟨_,_,MethAt.mk' ?a_70 ?l_70 ?n_70 ?c_70 ?k_70⟩,⟨_,_,MethAt.mk' ?a_71 ?l_71 ?n_71 ?c_71 ?k_71⟩,⟨_,_,MethAt.mk' ?a_72 ?l_72 ?n_72 ?c_72 ?k_72⟩,⟨_,_,MethAt.mk' ?a_73 ?l_73 ?n_73 ?c_73 ?k_73⟩,⟨_,_,MethAt.mk' ?a_74 ?l_74 ?n_74 ?c_74 ?k_74⟩,⟨_,_,MethAt.mk' ?a_75 ?l_75 ?n_75 ?c_75 ?k_75⟩,⟨_,_,MethAt.mk' ?a_86 ?l_86 ?n_86 ?c_86 ?k_86⟩,⟨_,_,MethAt.mk' ?a_92 ?l_92 ?n_92 ?c_92 ?k_92⟩,⟨_,_,MethAt.mk' ?a_94 ?l_94 ?n_94 ?c_94 ?k_94⟩,⟨_,_,MethAt.mk' ?a_93 ?l_93 ?n_93 ?c_93 ?k_93⟩,⟨_,_,MethAt.mk' ?a_53 ?l_53 ?n_53 ?c_53 ?k_53⟩,⟨_,_,MethAt.mk' ?a_54 ?l_54 ?n_54 ?c_54 ?Ox⟩⟩
  case JP | JR | JT | JV | JX | JZ | a_0 | l_0 | c_0 | k_0 | a_1 | l_1 | c_1 | k_1 | a_2 | l_2 | c_2 | k_2 | a_3 | l_3 | c_3 | k_3 | a_4 | l_4 | c_4 | k_4 | a_5 | l_5 | c_5 | k_5 | a_6 | l_6 | c_6 | k_6 | a_7 | l_7 | c_7 | k_7 | a_8 | l_8 | c_8 | k_8 | a_9 | l_9 | c_9 | k_9 | a_10 | l_10 | c_10 | k_10 | a_11 | l_11 | c_11 | k_11 | a_12 | l_12 | c_12 | k_12 | a_13 | l_13 | c_13 | k_13 | a_14 | l_14 | c_14 | k_14 | a_15 | l_15 | c_15 | k_15 | a_16 | l_16 | c_16 | k_16 | a_17 | l_17 | c_17 | k_17 | a_18 | l_18 | c_18 | k_18 | a_19 | l_19 | c_19 | k_19 | a_20 | l_20 | c_20 | k_20 | a_21 | l_21 | c_21 | k_21 | a_22 | l_22 | c_22 | k_22 | a_23 | l_23 | c_23 | k_23 | a_24 | l_24 | c_24 | k_24 | a_25 | l_25 | c_25 | k_25 | a_26 | l_26 | c_26 | k_26 | a_27 | l_27 | c_27 | k_27 | a_28 | l_28 | c_28 | k_28 | a_29 | l_29 | c_29 | k_29 | a_30 | l_30 | c_30 | k_30 | a_31 | l_31 | c_31 | k_31 | a_32 | l_32 | c_32 | k_32 | a_33 | l_33 | c_33 | k_33 | a_34 | l_34 | c_34 | k_34 | a_35 | l_35 | c_35 | k_35 | a_36 | l_36 | c_36 | k_36 | a_37 | l_37 | c_37 | k_37 | a_38 | l_38 | c_38 | k_38 | Ib | l_39 | c_39 | k_39 | a_58 | l_58 | n_58 | c_58 | k_58 | a_59 | l_59 | n_59 | c_59 | k_59 | a_60 | l_60 | n_60 | c_60 | k_60 | a_61 | l_61 | n_61 | c_61 | k_61 | a_62 | l_62 | n_62 | c_62 | k_62 | a_63 | l_63 | n_63 | c_63 | k_63 | a_64 | l_64 | n_64 | c_64 | k_64 | a_65 | l_65 | n_65 | c_65 | k_65 | a_66 | l_66 | n_66 | c_66 | k_66 | a_67 | l_67 | n_67 | c_67 | k_67 | a_68 | l_68 | n_68 | c_68 | k_68 | a_69 | l_69 | n_69 | c_69 | k_69 | a_70 | l_70 | n_70 | c_70 | k_70 | a_71 | l_71 | n_71 | c_71 | k_71 | a_72 | l_72 | n_72 | c_72 | k_72 | a_73 | l_73 | n_73 | c_73 | k_73 | a_74 | l_74 | n_74 | c_74 | k_74 | a_75 | l_75 | n_75 | c_75 | k_75 | a_86 | l_86 | n_86 | c_86 | k_86 | a_92 | l_92 | n_92 | c_92 | k_92 | a_94 | l_94 | n_94 | c_94 | k_94 | a_93 | l_93 | n_93 | c_93 | k_93 | a_53 | l_53 | n_53 | c_53 | k_53 | a_54 | l_54 | n_54 | c_54 | Ox=>k_is
  case ap | gl | bl | JQ | JS | JU | JW | JY | J0=>kernel_rfl
end
namespace DD
open PySem PySem.Spec PyProof.Rows L2
theorem rK{P:ZS}{w:World}{k:Key}{u:Value}(h:(bg P w).is k u=true):RelV (kV k) u:=by
 rw[xR] at h;rcases bp h with⟨i,t,rfl,rfl⟩ | ⟨x,t,rfl,rfl⟩
 ·exact⟨t,rfl⟩
 ·exact⟨t,rfl⟩
def Itd(a:Addr)(u:Obj)(b:List (Key×V)):It:=
 ⟨λi H=>H a=some (.frz u (.dK b))/\i<b.length,λi H x H'=>H'=H/\∃c,b[i]?=some c/\x=kV c.1,λi H=>H a=some (.frz u (.dK b))/\b.length<=i⟩
theorem lf{X:Cx}{a_:Zg}{σ:L2.St}{H:Hp}{s:Shared}{a:Addr}{u:Obj}{b:List (Key×V)}(I:Inv X a_ σ H s)(h:H a=some (.frz u (.dK b))):
  (a==sysModules)=false/\b.length<=sizeLine/\∃vs es c,KV b vs/\u.data=.dict es c/\s.heap.DictAt (bg X.prog X.w) a vs c:=by
 obtain⟨f,hz,hd,vs,g,o,es,c,d,r⟩:=(show aQ X.prog X.w H s.heap a (.frz u (.dK b)) from I.hok a _ h);have e:o=u:=by rw[f] at d;cases d;rfl
 subst e;exact⟨hd,hz,vs,es,c,g,r.2.1,o,es,d,r⟩
theorem zU{P:ZS}{w:World}{K:Za}{tg:Expr}(a it:Addr){u:Obj}{j:List (Key×V)}{es:Array DictEntry}{l:Nat}(hu:u.data=.dict es l):
  Turn P w K tg (Itd a u j) [it] it (λi h=>h.IsKeyIter it a i j.length l) where
 mem:=by simp
 obj:=λi h st b hb=>by
  have e:b=it:=by simpa using hb
  subst e;obtain⟨o,e,c,d⟩:=st;exact⟨o,e,λv z=>by rw[d] at z;cases z⟩
 keep:=λi h h' st k=>st.at λo e=>k it (by simp) o e
 item:=by
  intro X m hw n hc i a_ s σ H E I hf st hg;subst m hw n;obtain⟨hq,hi⟩:=hg;obtain⟨hd,hz,vs,G,p,f,g,hm⟩:=lf I hq;have r:p=l:=by rw[hu] at g;cases g;rfl
  subst r;obtain⟨⟨k,x⟩,hx,J⟩:=cM f (ZE hi);obtain⟨t,y,L,A,B,C⟩:=hf it (by simp);rw[f.length] at st;refine wpAny_pyNext_dict_item st hm hx λF h' O f_ R=>?_
  have S:Inv X a_ σ H { s with heap:=h' }:=I.turned (t':=s.toks) (λb o hb e=>(R.2 b hb).trans e) t y A B C;obtain⟨o,e,c,d⟩:=id f_;rw[←f.length] at f_;have T:j[i].1=k:=J.1;exact⟨F,rfl,nR (s:={ s with heap:=h' }) e c d (by decide) ⟨kV k,H,S,rK O,⟨rfl,j[i],ZE hi,by rw[T]⟩,f_,λb hb=>(hf b hb).1⟩⟩
 done:=by
  intro X m hw n hc i a_ s σ H E I hf st hg;subst m hw n;obtain⟨hq,hi⟩:=hg;obtain⟨hd,hz,vs,G,p,f,g,hm⟩:=lf I hq;have r:p=l:=by rw[hu] at g;cases g;rfl
  subst r;obtain⟨t,y,L,A,B,C⟩:=hf it (by simp);rw[f.length] at st;have hx:vs[i]?=none:=by rw[List.getElem?_eq_none_iff,←f.length];exact hi
  exact wpAny_pyNext_dict_end (I.ok.hd hc) st hm hx λh' U=>⟨rfl,I.turned (t':=s.toks) (λb o hb e=>U b o hb e) t y A B C⟩
 self:=λ_ _ _ _ _ st h=>wpAny_pyIter_keyiter st h
section
variable {X:Cx}{ρ:L2.St}{H:Hp}
theorem xh{a_:Zg}{s:Shared}{tg:Expr}{a:Addr}{u:Obj}{c:List (Key×V)}{R:It->Hp->Prop}(I:Inv X a_ ρ H s)(hq:H a=some (.frz u (.dK c)))(q:R (Itd a u c) H):
  wpAny (model X.prog X.w) X.A (pyIter (.ref a)) (PIE X a_ ρ tg R) X.xe s:=by
 obtain⟨hd,hz,vs,es,f,d,hu,hm⟩:=lf I hq;refine wpAny_pyIter_dict hd hm ?_;refine⟨s.heap.objs.size,[s.heap.objs.size],_,_,H,rfl,I.kept (t':=s.toks) λb o e=>Yd _ e,zU a _ hu,⟨_,Yg _ rfl,rfl,by rw[d.length];rfl⟩,λb hb=>?_,q⟩;have e:b=s.heap.objs.size:=by simpa using hb
 subst e;exact I.fpOk (YJ _) (I.hok.fresh (YJ _))
theorem freeze{a_:Zg}{s:Shared}{a:Addr}{c:List (Key×V)}(I:Inv X a_ ρ H s)(hq:H a=some (.dK c)):∃u,Inv X a_ ρ (upd H a (.frz u (.dK c))) s:=by
 obtain⟨hz,hd,vs,g,d⟩:=(show aQ X.prog X.w H s.heap a (.dK c) from I.hok a _ hq);obtain⟨o,es,j,f,r⟩:=id d;refine⟨o,?_⟩
 have:=I.write (x:=a) (e:=a) (o:=.frz o (.dK c)) (h':=s.heap) (t':=s.toks) (by rw[hq];exact trivial) (.inl rfl) (λb u _ e=>e) ⟨_,f⟩ ⟨f,hz,hd,vs,g,d⟩
 exact this
end
structure EndsD where
 nx:DS->MH->Prop
 rt:DK
 bk:DS->MH->Prop:=λ_ _=>False
 ct:DS->MH->Prop:=λ_ _=>False
abbrev WS:=EndsD->DS->MH->Prop
def qc(K:Za)(H:Hp)(n:DS->MH->Prop):L2.St->Hp->Prop:=λb H'=>Kp H H'/\∃a M',RS K H' a b/\RM K M' H'/\n a M'
def t8(K:Za)(H:Hp)(D:EndsD):Ends:={ nx:=qc K H D.nx,rt:=lift K H D.rt,bk:=qc K H D.bk,ct:=qc K H D.ct }
structure EImp (D D':Ends):Prop where
 nx:∀ρ H,D.nx ρ H->D'.nx ρ H
 rt:∀v H,D.rt v H->D'.rt v H
 bk:∀ρ H,D.bk ρ H->D'.bk ρ H
 ct:∀ρ H,D.ct ρ H->D'.ct ρ H
section
variable {X:Cx}{st:Stmt}{Ii:Zz}{ρ:L2.St}{H H':Hp}{pos:Pos}{e:Expr}
theorem jI{K:Za}{n:DS->MH->Prop}{a:L2.St}{b:Hp}(k:Kp H H')(h:qc K H' n a b):qc K H n a b:=⟨k.trans h.1,h.2⟩
theorem o6{K:Za}{D:EndsD}(k:Kp H H'):EImp (t8 K H' D) (t8 K H D):=⟨λ_ _=>jI k,λ_ _=>bv k,λ_ _=>jI k,λ_ _=>jI k⟩
theorem SP.imp{a_:Zg}{D D':Ends}{f:Flow}{g:Shared}(i:EImp D D')(h:SP X a_ D f g):SP X a_ D' f g:=by
 cases f with
 |next=>obtain⟨a,b,c,d⟩:=h;exact⟨a,b,c,i.nx _ _ d⟩
 |brk=>obtain⟨a,b,c,d⟩:=h;exact⟨a,b,c,i.bk _ _ d⟩
 |cont=>obtain⟨a,b,c,d⟩:=h;exact⟨a,b,c,i.ct _ _ d⟩
 |ret u=>obtain⟨v,a,b,c,r,d⟩:=h;exact⟨v,a,b,c,r,i.rt _ _ d⟩
def tWSs(X:Cx)(Ii:Zz):L2.TS:=λD ρ H=>∀a_ s,Inv X a_ ρ H s->wpAny (model X.prog X.w) X.A (execs Ii X.env) (SP X a_ D) X.xe s
theorem ps_W(st:Stmt):PS X st (tWS X st):=λa_ s _ _ _ I h=>h a_ s I
theorem lY(Ii:Zz):PSs X Ii (tWSs X Ii):=λa_ s _ _ _ I h=>h a_ s I
theorem c8{t:L2.TS}{D:Ends}(h:PS X st t)(q:t D ρ H):tWS X st D ρ H:=λa_ s I=>h a_ s ρ H D I q
theorem xi{t:L2.TS}{D:Ends}(h:PSs X Ii t)(q:t D ρ H):tWSs X Ii D ρ H:=λa_ s I=>h a_ s ρ H D I q
theorem Bw{D D':Ends}(h:tWS X st D ρ H)(i:EImp D D'):tWS X st D' ρ H:=λa_ s I=>thn (h a_ s I) λ_ _ q=>SP.imp i q
theorem c9{D D':Ends}(h:tWSs X Ii D ρ H)(i:EImp D D'):tWSs X Ii D' ρ H:=λa_ s I=>thn (h a_ s I) λ_ _ q=>SP.imp i q
def PSd(X:Cx)(st:Stmt)(t:WS):Prop:=∀σ M ρ H D,RS X.K H σ ρ->RM X.K M H->t D σ M->tWS X st (t8 X.K H D) ρ H
def PSsd(X:Cx)(Ii:Zz)(t:WS):Prop:=∀σ M ρ H D,RS X.K H σ ρ->RM X.K M H->t D σ M->tWSs X Ii (t8 X.K H D) ρ H
def qe:WS:=λD σ M=>D.nx σ M
def wSeq(t u:WS):WS:=λD σ M=>t { D with nx:=u D } σ M
theorem Bx:PSsd X [] qe:=λσ M ρ H D rs a q=>xi Dd ⟨Kp.refl H,σ,M,rs,a,q⟩
theorem zV{t u:WS}(h:PSd X st t)(h':PSsd X Ii u):PSsd X (st::Ii) (wSeq t u):=by
 intro σ M ρ H D rs a q;refine xi (A6 (ps_W st) (lY Ii)) ?_;show tWS X st _ ρ H;refine Bw (h σ M ρ H _ rs a q) ⟨λb H' c=>?_,λ_ _ z=>z,λ_ _ z=>z,λ_ _ z=>z⟩;obtain⟨k,d,M',f,g,j⟩:=c;exact c9 (h' d M' b H' D f g j) (o6 k)
def wRet(t:WE):WS:=λD σ M=>t σ M D.rt
theorem D2{t:WE}(h:PEd X e t):PSd X (.Return (some e) pos) (wRet t):=λσ M ρ H D rs a q=>c8 (E7 (pe_W e)) (h σ M ρ H _ rs a q)
theorem By:PSd X (.Pass pos) qe:=λσ M ρ H D rs a q=>c8 De ⟨Kp.refl H,σ,M,rs,a,q⟩
theorem zW:PSd X st (λ_ _ _=>False):=λ_ _ _ _ _ _ _ q=>Yh q
def cO:Expr->Bool
 |.ListComp _ _ _ _=>false
 |.SetComp _ _ _ _=>false
 |.DictComp _ _ _ _ _=>false
 |_=>true
theorem qf{t:Option Expr}{n:Nat}{env:Env}(h:cO e=true):swapsWith e t n env=pure false:=by
 cases e<;>first | rfl | (exact absurd (show false=true from h) YI)
def yk(t:WE):WS:=λD σ M=>t σ M λ_ M1=>D.nx σ M1
theorem Bz{t:WE}(h:PEd X e t)(hc:cO e=true):PSd X (.Expr e pos) (yk t):=by
 intro σ M ρ H D rs b q;refine c8 (Df (pe_W e) (qf hc)) ?_;show tW X e ρ H _;refine aC (h σ M ρ H _ rs b q) λv g c=>?_
 obtain⟨a,x,M1,j,d,f⟩:=c;exact⟨a,σ,M1,rs.mono a,d,f⟩
def wSet(i:Nat)(t:WE):WS:=λD σ M=>t σ M λx M1=>D.nx (σ.set i (some x)) M1
def wIfS(c:WT)(t u:WS):WS:=λD σ M=>c σ M λb M1=>Bif b (t D σ M1) (u D σ M1)
theorem FK{c:Expr}{a b:Zz}{tc:WT}{t u:WS}(hc:PTd X c tc)(ha:PSsd X a t)(hb:PSsd X b u):PSd X (.If c a b pos) (wIfS tc t u):=by
 intro σ M ρ H D rs l q;refine c8 (GL (pt_W c) (lY a) (lY b)) ?_;show tWT X c ρ H _;refine eD (hc σ M ρ H _ rs l q) λk f m=>?_
 obtain⟨d,M1,g,j⟩:=m;cases k with
 |true=>exact c9 (ha σ M1 ρ f D (rs.mono d) g j) (o6 d)
 |false=>exact c9 (hb σ M1 ρ f D (rs.mono d) g j) (o6 d)
inductive Tgt where
 |nm (i:Nat) | tp (is:Zo)
def gsOf:List Nat->TGs
 |[]=>gNil
 |i::is=>CI (tY i) (gsOf is)
section
variable {prog:ZS}{w:World}{A:Around}{E:Zd}
theorem ux{it l:Addr}{d_:Zq}(ne:l≠it):∀(n i:Nat) (s:Shared) (Q:List Value->Shared->Prop),s.heap.IsListIter it l i->s.heap.IsList l d_->i+n<=d_.size ->
  (∀h',h'.IsListIter it l (i+n)->Heap.SameBut it s.heap h'->Q ((d_.toList.drop i).take n) { s with heap:=h' })->wpAny (model prog w) A (draw (.ref it) n) Q E s
 |0,i,s,Q,hi,_,_,q=>by
  rw[draw];exact Yc (by simpa using q s.heap hi (Heap.SameBut.refl ..))
 |n+1,i,s,Q,hi,hl,le,q=>by
  have lt:i<d_.size:=by omega
  rw[draw];refine Yb (wpAny_pyNext_list_item hi hl (x:=d_[i]) (by simp[lt]) λc a s1=>?_);refine Yb (Yj (ux ne n (i+1) _ _ a (hl.extBut s1.extBut ne) (by omega) λh2 b s2=>Yc ?_));have e:d_.toList.drop i=d_[i]::d_.toList.drop (i+1):=by simp[XV,lt]
  have r:=q h2 (by rw[show i+(n+1)=i+1+n by omega];exact b) (s1.trans s2);rw[e,List.take_succ_cons] at r;exact r
theorem yl{s:Shared}{l:Addr}{d_:Zq}{ts:List (Bool×(Value->Sem Unit))}{Q:Zt}(a:A.handled=none)(hl:s.heap.IsList l d_)(hn:ts.length=d_.size)(c:ts.findIdx? (·.1)=none)
  (h:∀h',Heap.ExtBut s.heap.objs.size s.heap h'->wpAny (model prog w) A (assignInOrder (ts.map (·.2)) d_.toList) Q E { s with heap:=h' }):wpAny (model prog w) A (unpack (.ref l) ts) Q E s:=by
 have ne:l≠s.heap.objs.size:=by obtain⟨o,d,_⟩:=hl;exact ZX (Ye d)
 unfold unpack;rw[hn,c];refine Yb (Yj ?_);unfold unpackItems;refine Yb ?_;unfold notIterableAtAll;refine Yb (wpAny_specialOf hl.typeIs slot_list_iter.lookup (Yc ?_));simp only[XH,if_false];refine Yb (Yj (wpAny_pyIter_list hl ?_));refine Yb (Yj (ux ne d_.size 0 _ _ ⟨_,Yg _ rfl,rfl,rfl⟩ (hl.push _) (by omega) λg f s1=>?_));have e:List.take d_.size (List.drop 0 d_.toList)=d_.toList:=by rw[List.drop_zero];exact XW (by simp)
 rw[e,if_neg (by simp)];refine Yb (Yj (wpAny_pyNext_list_end a f ((hl.push _).extBut s1.extBut ne) (by simp) λh2 e2=>?_));simp only[Option.isSome_none,XH,if_false];exact Yc (h h2 λb o hb z=>e2 b o hb (s1.extBut b o hb (Yd _ z)))
end
def gSeq(K:Za)(n:Nat)(t:TGs):TG:=λv σ H Q=>∃a xs,v=.ref a/\(SqT K H a xs\/SqL K H a xs)/\xs.length=n/\t xs σ H Q
theorem FM{X:Cx}{pos:Pos}{es:Zl}{k:Nat}{t:TGs}{n:Nat}(hc:X.calm=true)(h:PGs X es t)(hn:(assignEach es X.env).length=n)(c:(assignEach es X.env).findIdx? (·.1)=none):PG X (.Tuple es k pos) (gSeq X.K n t):=by
 intro a_ s σ H v u Q I r hw;obtain⟨a,xs,e1,hq | hq,hl,hw⟩:=hw
 ·exact E8 hc h hn c a_ s σ H v u Q I r ⟨a,xs,e1,hq,hl,hw⟩
 ·subst e1
  cases r;obtain⟨d_,d,ht,hz⟩:=I.list hq;rw[PyProof.Rows.assign_Tuple];refine Yb (Yk (yl (I.ok.hd hc) ht.isList (by simp[hn,←hl,d.length]) c λh' hx=>?_));have f:Inv X a_ σ H { s with heap:=h' }:=I.kept (t':=s.toks) λb o e=>hx b o (ZX (Ye e)) e
  exact h a_ _ σ H xs _ Q f (by simpa using d) hw
def gOf(K:Za):Tgt->TG
 |.nm i=>tY i
 |.tp is=>gSeq K is.length (gsOf is)
def setM:List Nat->List D->DS->DS
 |i::is,d::ds,σ=>setM is ds (σ.set i (some d))
 |_,_,σ=>σ
def qg:Tgt->D->DS->(DS->Prop)->Prop
 |.nm i,d,σ,Q=>Q (σ.set i (some d))
 |.tp is,.tup ds,σ,Q=>ds.length=is.length/\Q (setM is ds σ)
 |.tp _,_,_,_=>False
theorem rN{K:Za}:∀(is:Zo) (ds:List D) (vs:List V) (σ:DS) (ρ:L2.St) (H:Hp) (Q:L2.St->Hp->Prop),RVs K H ds vs->RS K H σ ρ->ds.length=is.length ->
  (∀a,RS K H (setM is ds σ) a->Q a H)->gsOf is vs ρ H Q
 |[],[],vs,σ,ρ,H,Q,r,rs,_,q=>by rw[RVs] at r;subst r;exact⟨rfl,q ρ rs⟩
 |i::is,d::ds,vs,σ,ρ,H,Q,r,rs,l,q=>by
  rw[RVs] at r;obtain⟨v,b,rfl,c,f⟩:=r;exact⟨v,b,rfl,rN is ds b (σ.set i (some d)) (ρ.set i (some v)) H Q f (rs.set i c) (by simpa using l) q⟩
theorem uz{K:Za}{t:Tgt}{d:D}{v:V}{σ:DS}{ρ:L2.St}{H:Hp}{Q:L2.St->Hp->Prop}{c:DS->Prop}(r:RV K H d v)(rs:RS K H σ ρ)(h:qg t d σ c)(f:∀b g,RS K H g b->c g->Q b H):gOf K t v ρ H Q:=by
 cases t with
 |nm i=>exact f _ _ (rs.set i r) h
 |tp is=>
  cases d with
  |tup ds=>
   obtain⟨a,xs,rfl,s,j⟩:=RV.tup_.1 r;exact⟨a,xs,rfl,.inl s,by rw[←j.len];exact h.1,rN is ds xs σ ρ H Q j rs h.1 λb k=>f b _ k h.2⟩
  |_=>exact Yh h
def PGd(X:Cx)(tg:Expr)(t:Tgt):Prop:=PG X tg (gOf X.K t)
theorem RM.list{K:Za}{H:Hp}{M:MH}{a:Addr}{ds:List D}(m:RM K M H)(h:rdL (M a)=some ds):∃vs,SqL K H a vs/\RVs K H ds vs:=by
 cases e:M a with
 |none=>rw[e] at h;cases h
 |some o=>
  rw[e] at h;cases o with
  |lst xs=>cases h;obtain⟨vs,q,r⟩:=m a _ e;exact⟨vs,SqL.of q,r⟩
  |rol xs=>cases h;obtain⟨vs,q,r⟩:=m a _ e;exact⟨vs,.inl q,r⟩
  |_=>cases h
def ym(t:Tgt)(d:D)(M:MH)(σ:DS)(Q:DS->Prop):Prop:=match d with
 |.ref a=>match t with
  |.nm i=>Q (σ.set i (some (.ref a)))
  |.tp is=>match rdL (M a) with
   |some ds=>ds.length=is.length/\Q (setM is ds σ)
   |none=>False
 |d=>qg t d σ Q
theorem D4{K:Za}{t:Tgt}{d:D}{v:V}{M:MH}{σ:DS}{ρ:L2.St}{H:Hp}{Q:L2.St->Hp->Prop}{c:DS->Prop}(r:RV K H d v)(rs:RS K H σ ρ)(m:RM K M H)(h:ym t d M σ c)(f:∀b g,RS K H g b->c g->Q b H):gOf K t v ρ H Q:=by
 cases d with
 |ref a=>
  cases t with
  |nm i=>exact f _ _ (rs.set i r) h
  |tp is=>
   have h:match rdL (M a) with | some ds=>ds.length=is.length/\c (setM is ds σ) | none=>False:=h
   split at h
   ·rename_i ds e
    obtain⟨vs,sq,j⟩:=m.list e;cases RV.ref_.1 r;exact⟨a,vs,rfl,.inr sq,by rw[←j.len];exact h.1,rN is ds vs σ ρ H Q j rs h.1 λb k=>f b _ k h.2⟩
   ·exact Yh h
 |_=>exact uz r rs h f
def wAsg(t:WE)(g:Tgt):WS:=λD σ M=>t σ M λx M1=>ym g x M1 σ λa=>D.nx a M1
theorem D7{tg:Expr}{t:WE}{g:Tgt}(h:PEd X e t)(hg:PGd X tg g)(c:swapsWithSole [tg] e pos.line X.env=pure false)(hw:swappedStores [tg] e X.env=pure none)(d:(assignEach [tg] X.env).map (·.2)=[assign tg X.env]):PSd X (.Assign [tg] e pos) (wAsg t g):=by
 intro σ M ρ H D rs f q;refine c8 (zj (pe_W e) hg c hw d) ?_;show tW X e ρ H _;refine aC (h σ M ρ H _ rs f q) λv p j=>?_
 obtain⟨a,x,M1,k,b,l⟩:=j;exact D4 k (rs.mono a) b l λr m n o=>⟨a,m,M1,n,b,o⟩
abbrev WI:=DS->MH->(List D->(MH->Prop)->MH->Prop)->Prop
def JOk(K:Za)(J:It)(a:Hp)(xs:List D)(g:MH->Prop):Prop:=∀i H M,Kp a H->RM K M H->g M->(i<xs.length->J.go i H)/\(i=xs.length->J.stop i H)/\∀x H' d,xs[i]?=some d->J.yld i H x H'->Kp H H'/\RM K M H'/\RV K H' d x
def iW(X:Cx)(tg a:Expr):TI:=λρ H R=>∀a_ s,Inv X a_ ρ H s->wpAny (model X.prog X.w) X.A (eval a X.env) (λv s1=>wpAny (model X.prog X.w) X.A (pyIter v) (PIE X a_ ρ tg R) X.xe s1) X.xe s
theorem pi_W(tg a:Expr):PI X tg a (iW X tg a):=λa_ s _ _ _ I h=>h a_ s I
theorem CQ{tg a:Expr}{t:TI}{R:It->Hp->Prop}(h:PI X tg a t)(q:t ρ H R):iW X tg a ρ H R:=λa_ s I=>h a_ s ρ H R I q
theorem rO{tg a:Expr}{R b:It->Hp->Prop}(h:iW X tg a ρ H R)(f:∀J H',R J H'->b J H'):iW X tg a ρ H b:=λa_ s I=>thn (h a_ s I) λ_ _ q=>thn q λ_ _ ⟨it,fp,tn,J,H',e,c,T,st,d,r⟩=>⟨it,fp,tn,J,H',e,c,T,st,d,f J H' r⟩
def IEnd(K:Za)(H:Hp)(R:List D->(MH->Prop)->MH->Prop):It->Hp->Prop:=λJ H'=>Kp H H'/\∃xs g M',RM K M' H'/\g M'/\JOk K J H' xs g/\xs.length<=sizeLine/\R xs g M'
def PId(X:Cx)(tg a:Expr)(t:WI):Prop:=∀σ M ρ H R,RS X.K H σ ρ->RM X.K M H->t σ M R->iW X tg a ρ H (IEnd X.K H R)
def kD:Key->D
 |.inl i=>.int i
 |.inr x=>.str x
def keysOf(a:Z3):List D:=a.map λb=>kD b.1
theorem CS{K:Za}{H:Hp}(k:Key):RV K H (kD k) (kV k):=by
 cases k with
 |inl i=>exact RV.int_.2 rfl
 |inr x=>exact RV.str_.2 rfl
theorem uA{K:Za}{a:Addr}{u:Obj}{b:Z3}{f:List (Key×V)}{j:Hp}(e:j a=some (.frz u (.dK f)))(hk:f.map (·.1)=b.map (·.1))(g:MH->Prop):JOk K (Itd a u f) j (keysOf b) g:=by
 intro i H M k n _;have hl:f.length=b.length:=by have:=congrArg List.length hk;simpa using this
 have e':=k.2 a _ _ e;have hn:(keysOf b).length=b.length:=by unfold keysOf;rw[ZG]
 rw[hn];refine⟨λhi=>⟨e',by omega⟩,λhi=>⟨e',by omega⟩,λx H' d hd o=>?_⟩;obtain⟨e1,m,r,h2⟩:=o;subst e1 h2;unfold keysOf at hd;rw[ZH] at hd;have c:(b[i]?).map (·.1)=some m.1:=by
  have:=congrArg (λl=>l[i]?) hk
  simp only[ZH,r] at this;rw[←this];rfl
 cases q:b[i]? with
 |none=>rw[q] at c;cases c
 |some p=>
  rw[q] at c hd;cases hd;have c:p.1=m.1:=by simpa using c
  refine⟨Kp.refl _,n,?_⟩;show RV K _ (kD p.1) _;rw[c];exact CS _
def seqD(x:D)(M:MH)(R:List D->(MH->Prop)->MH->Prop):Prop:=match x with
 |.tup ds=>R ds (λ_=>True) M
 |.ref a=>match M a with
  |some (.lst ds)=>R ds (λM'=>M' a=some (.lst ds)) M
  |some (.rol ds)=>R ds (λM'=>M' a=some (.rol ds)) M
  |some (.dic b)=>R (keysOf b) (λM'=>M' a=some (.rod b)) (updM M a (.rod b))
  |some (.rod b)=>R (keysOf b) (λM'=>M' a=some (.rod b)) M
  |_=>False
 |.str z=>z.cps.size<=sizeLine/\R (z.cps.toList.map λc=>.str ⟨#[c]⟩) (λ_=>True) M
 |_=>False
theorem uB{K:Za}{a:Addr}{ds:List D}{f:Hp}{g:MH->Prop}(hg:∀H M,RM K M H->g M->∃vs,SqL K H a vs/\RVs K H ds vs):JOk K (Itl K a) f ds g:=by
 intro i H M _ c q;obtain⟨vs,sq,b⟩:=hg H M c q;refine⟨λhi=>?_,λhi=>⟨vs,sq,by rw[←b.len];exact Nat.le_of_eq hi.symm⟩,λx H' d hd ⟨e,y⟩=>?_⟩
 ·have:i<vs.length:=by rw[←b.len];exact hi
  exact⟨vs,vs[i],sq,ZE this⟩
 ·subst e
  obtain⟨v,j,r⟩:=cM b.p hd
  have:=y vs sq
  rw[j] at this;cases this;exact⟨Kp.refl _,c,r⟩
theorem D8{K:Za}{a:Addr}{ds:List D}{vs:List V}{c:Hp}(sq:SqT K c a vs)(b:RVs K c ds vs):JOk K (Itt K a) c ds (λ_=>True):=by
 intro i H M k f _;have sq:=k.sq sq;have b:=RVs.mono k _ b;refine⟨λhi=>?_,λhi=>⟨vs,sq,by rw[←b.len];exact Nat.le_of_eq hi.symm⟩,λx H' d hd ⟨e,y⟩=>?_⟩
 ·have:i<vs.length:=by rw[←b.len];exact hi
  exact⟨vs,vs[i],sq,ZE this⟩
 ·subst e
  obtain⟨v,g,r⟩:=cM b.p hd
  have:=y vs sq
  rw[g] at this;cases this;exact⟨Kp.refl _,f,r⟩
theorem D9{K:Za}{z:Str}{a:Hp}:JOk K (Its z) a (z.cps.toList.map λc=>.str ⟨#[c]⟩) (λ_=>True):=by
 intro i H M k b _;rw[ZG];refine⟨λhi=>?_,λhi=>?_,λx H' d hd ⟨e,c,hc,y⟩=>?_⟩
 ·show i<z.cps.size
  simpa using hi
 ·show i=z.cps.size
  simpa using hi
 ·subst e y
  rw[ZH] at hd;have:z.cps.toList[i]?=some c:=by simpa using hc
  rw[this] at hd;cases hd;exact⟨Kp.refl _,b,RV.str_.2 rfl⟩
def yn(t:WE):WI:=λσ M R=>t σ M λx M1=>seqD x M1 R
theorem xj{a_:Zg}{s:Shared}{tg:Expr}{a:Addr}{xs:List V}{R:It->Hp->Prop}(I:Inv X a_ ρ H s)(hq:SqL X.K H a xs)(q:R (Itl X.K a) H):wpAny (model X.prog X.w) X.A (pyIter (.ref a)) (PIE X a_ ρ tg R) X.xe s:=by
 obtain⟨d_,c,p,hz⟩:=I.list hq;refine wpAny_pyIter_list p.isList ?_;refine⟨s.heap.objs.size,[s.heap.objs.size],_,_,H,rfl,I.kept (t':=s.toks) λb o e=>Yd _ e,zk a _,⟨_,Yg _ rfl,rfl,rfl⟩,λb hb=>?_,q⟩;have e:b=s.heap.objs.size:=by simpa using hb
 subst e;exact I.fpOk (YJ _) (I.hok.fresh (YJ _))
theorem FN{a_:Zg}{s:Shared}{tg:Expr}{a:Addr}{xs:List V}{R:It->Hp->Prop}(I:Inv X a_ ρ H s)(hq:SqT X.K H a xs)(q:R (Itt X.K a) H):wpAny (model X.prog X.w) X.A (pyIter (.ref a)) (PIE X a_ ρ tg R) X.xe s:=by
 obtain⟨d_,c,p,hz⟩:=I.tuple hq;refine wpAny_pyIter_tuple (show s.heap.IsTuple a d_.toArray from p) ?_;refine⟨s.heap.objs.size,[s.heap.objs.size],_,_,H,rfl,I.kept (t':=s.toks) λb o e=>Yd _ e,xS a _,⟨_,Yg _ rfl,rfl,rfl⟩,λb hb=>?_,q⟩;have e:b=s.heap.objs.size:=by simpa using hb
 subst e;exact I.fpOk (YJ _) (I.hok.fresh (YJ _))
theorem FO{a_:Zg}{s:Shared}{tg:Expr}{z:Str}{t:Tok}{R:It->Hp->Prop}(I:Inv X a_ ρ H s)(q:R (Its z) H):wpAny (model X.prog X.w) X.A (pyIter (.str z t)) (PIE X a_ ρ tg R) X.xe s:=by
 have fp:∀b∈[s.heap.objs.size],FpOk X a_ H b:=λb hb=>by
  have e:b=s.heap.objs.size:=by simpa using hb
  subst e;exact I.fpOk (YJ _) (I.hok.fresh (YJ _))
 cases ha:z.cps.all (· < 128)
 ·refine wpAny_pyIter_wide ha ?_
  exact⟨s.heap.objs.size,[s.heap.objs.size],_,_,H,rfl,I.kept (t':=s.toks) λb o e=>Yd _ e,zK _ z t,⟨_,Yg _ rfl,rfl,rfl⟩,fp,q⟩
 ·refine wpAny_pyIter_ascii ha ?_
  exact⟨s.heap.objs.size,[s.heap.objs.size],_,_,H,rfl,I.kept (t':=s.toks) λb o e=>Yd _ e,zJ _ z t,⟨_,Yg _ rfl,rfl,rfl⟩,fp,q⟩
theorem Ea{l tg:Expr}{t:WE}(h:PEd X l t):PId X tg l (yn t):=by
 intro σ M ρ H R rs E q a_ s I;refine thn (h σ M ρ H _ rs E q a_ s I) λu s1 F=>?_
 obtain⟨v,G,f,p,⟨k,d,M1,r,g,c⟩⟩:=F;cases d with
 |tup ds=>
  obtain⟨a,xs,rfl,sq,j⟩:=RV.tup_.1 r;cases p;obtain⟨_,_,_,hz⟩:=f.tuple sq;exact FN f sq ⟨k,ds,_,M1,g,trivial,D8 sq j,by rw[j.len];exact hz,c⟩
 |ref a=>
  cases RV.ref_.1 r;cases p;have c:match M1 a with
   |some (.lst ds)=>R ds (λM'=>M' a=some (.lst ds)) M1
   |some (.rol ds)=>R ds (λM'=>M' a=some (.rol ds)) M1
   |some (.dic b)=>R (keysOf b) (λM'=>M' a=some (.rod b)) (updM M1 a (.rod b))
   |some (.rod b)=>R (keysOf b) (λM'=>M' a=some (.rod b)) M1
   |_=>False:=c
  split at c
  ·rename_i ds e
   obtain⟨xs,e1,j⟩:=g a _ e;obtain⟨_,_,_,hz⟩:=f.list (SqL.of e1);refine xj f (SqL.of e1) ⟨k,ds,_,M1,g,e,uB λH' M' w g'=>?_,by rw[j.len];exact hz,c⟩;obtain⟨y,e',A⟩:=w a _ g';exact⟨y,SqL.of e',A⟩
  ·rename_i ds e
   obtain⟨xs,e1,j⟩:=g a _ e;have e1:SqL X.K G a xs:=.inl e1;obtain⟨_,_,_,hz⟩:=f.list e1;refine xj f e1 ⟨k,ds,_,M1,g,e,uB λH' M' w g'=>?_,by rw[j.len];exact hz,c⟩;obtain⟨y,e',A⟩:=w a _ g';exact⟨y,.inl e',A⟩
  ·rename_i b e
   obtain⟨n,e1,o,j⟩:=g a _ e;obtain⟨u,B⟩:=freeze f e1;have C:=Kp.put (o':=.frz u (.dK n)) e1 trivial;have J:=g.put (m:=.rod b) e1 trivial (o':=.frz u (.dK n)) ⟨u,n,ay,o,RVs.mono C _ j⟩;refine xh B ay ⟨k.trans C,keysOf b,_,_,J,aa,uA ay o _,?_,c⟩;obtain⟨_,hz,_⟩:=lf B ay;have hl:n.length=b.length:=by have:=congrArg List.length o;simpa using this
   unfold keysOf;rw[ZG];omega
  ·rename_i b e
   obtain⟨u,n,e1,o,j⟩:=g a _ e;refine xh f e1 ⟨k,keysOf b,_,M1,g,e,uA e1 o _,?_,c⟩;obtain⟨_,hz,_⟩:=lf f e1;have hl:n.length=b.length:=by have:=congrArg List.length o;simpa using this
   unfold keysOf;rw[ZG];omega
  ·exact Yh c
 |str z=>
  cases RV.str_.1 r;obtain⟨t,rfl⟩:=p;exact FO f ⟨k,_,_,M1,g,trivial,D9,by rw[ZG];simpa using c.1,c.2⟩
 |_=>exact Yh c
def a0(a b:Int):List D:=(List.range (b-a).toNat).map λ(i:Nat)=>.int (a+(i:Int))
theorem sO{K:Za}{a b:Int}{c:Hp}:JOk K (Itr a (b-a).toNat) c (a0 a b) (λ_=>True):=by
 intro i H M k f _;have hl:(a0 a b).length=(b-a).toNat:=by unfold a0;rw[ZG,ZM]
 rw[hl];refine⟨λhi=>hi,λhi=>Nat.le_of_eq hi.symm,λx H' d hd g=>?_⟩;obtain⟨e,y⟩:=g;subst e y;have hi:i<(b-a).toNat:=by have:=(YG.mp hd).1;rw[hl] at this;exact this
 unfold a0 at hd;rw[ZH,ZK hi] at hd;cases hd;exact⟨Kp.refl _,f,RV.int_.2 rfl⟩
def yo(t:WA):WI:=λσ M R=>t σ M λds M1=>match ds with
 |[.int j]=>(-1000000<=j/\j<=1000000)/\R (a0 0 j) (λ_=>True) M1
 |_=>False
def yp(t:WA):WI:=λσ M R=>t σ M λds M1=>match ds with
 |[.int i,.int j]=>(-1000000<=i/\i<=1000000/\-1000000<=j/\j<=1000000)/\R (a0 i j) (λ_=>True) M1
 |_=>False
theorem sQ{a b:Int}(c:-1000000<=a)(h2:b<=1000000):(a0 a b).length<=sizeLine:=by
 unfold a0;rw[ZG,ZM,sizeLine_eq];omega
theorem yq{a tg:Expr}{t:WA}{p:Pos}(hg:Gl X "range")(hm:X.mg "range" = none)(ha:PAd X [a] t)(d:ah a=true):PId X tg (.Call (.Name "range" p) [a] [] pos) (yo t):=by
 intro σ M ρ H R rs f q;refine CQ (zl hg hm (pa_W [a]) (by rw[aO d];rfl)) ?_;show tWA X [a] ρ H _;refine ca (ha σ M ρ H _ rs f q) λvs g k=>?_
 obtain⟨l,ds,M1,c,l1,m,b⟩:=k;try dsimp only at b
 split at b
 ·rename_i j
  have c:=c.p;cases c with
  |cons r n=>
   cases n;cases RV.int_.1 r;refine⟨j,rfl,by omega,by omega,l,_,_,M1,m,trivial,?_,sQ (by omega) b.1.2,b.2⟩
   have:=@sO X.K 0 j g
   rw[Int.sub_zero] at this;exact this
 ·exact Yh b
theorem yr{a b tg:Expr}{t:WA}{p:Pos}(hg:Gl X "range")(hm:X.mg "range" = none)(ha:PAd X [a,b] t)(k:ah a=true)(g:ah b=true):PId X tg (.Call (.Name "range" p) [a,b] [] pos) (yp t):=by
 intro σ M ρ H R rs l q;refine CQ (zm hg hm (pa_W [a,b]) (by rw[aO k,aO g];rfl) (by rw[aO g];rfl)) ?_;show tWA X [a,b] ρ H _;refine ca (ha σ M ρ H _ rs l q) λvs w m=>?_
 obtain⟨n,ds,M1,d,l1,o,c⟩:=m;try dsimp only at c
 split at c
 ·rename_i i j
  have d:=d.p;cases d with
  |cons r f=>
   cases f with
   |cons u f=>
    cases f;cases RV.int_.1 r;cases RV.int_.1 u;exact⟨i,j,rfl,⟨by omega,by omega,by omega,by omega⟩,n,_,_,M1,o,trivial,sO,sQ c.1.1 c.1.2.2.2,c.2⟩
 ·exact Yh c
def jJ:Expr->Bool
 |.Set _ _ _=>false
 |_=>true
theorem yt{env:Env}(h:jJ e=true):∀x,foldedSetIterable e env x=pure x:=by
 intro x;cases e<;>first | rfl | (exact absurd (show false=true from h) YI)
def au(g:MH->Prop)(t:Tgt)(a:WS)(E:EndsD):List D->DS->MH->Prop
 |[],σ,M=>E.nx σ M
 |x::xs,σ,M=>qg t x σ λc=>a { E with nx:=λb M2=>g M2/\au g t a E xs b M2,ct:=λb M2=>g M2/\au g t a E xs b M2,bk:=E.nx } c M
def wFor(t:WI)(g:Tgt)(a:WS):WS:=λE σ M=>t σ M λxs b M1=>au b g a E xs σ M1
theorem Eb{tg d:Expr}{f:Zz}{t:WI}{g:Tgt}{l:WS}(hp:PassesOwn (model X.prog X.w) X.A X.env X.xe)(hc:X.calm=true)(hi:PId X tg d t)(hg:PGd X tg g)(hb:PSsd X f l)(S:jJ d=true):
  PSd X (.For tg d f [] pos) (wFor t g l):=by
 intro σ M ρ H E rs T q;refine c8 (Fc hp hc (pi_W tg d) hg (lY f) (yt S)) ?_;show iW X tg d ρ H _;refine rO (hi σ M ρ H _ rs T q) λJ G U=>?_
 obtain⟨n,xs,o,M1,V,W,Y,hz,Z⟩:=U;refine⟨λi m I H'=>m=xs.length-i/\i<=xs.length/\Kp G H'/\∃p M',RS X.K H' p I/\RM X.K M' H'/\o M'/\au o g l E (xs.drop i) p M',⟨xs.length,by simp,YQ _,Kp.refl _,σ,M1,rs.mono n,V,W,Z⟩,?_⟩;rintro i m I H' ⟨rfl,Jq,k',p,M',L,O,g',u⟩;obtain⟨j1,j2,j3⟩:=Y i H' M' k' O g';by_cases z:i<xs.length
 ·rw[XV z] at u
  refine .inr ⟨j1 z,λP j=>Kp G j/\∃R M2,RS X.K j R P/\RM X.K M2 j/\o M2/\au o g l E (xs.drop (i+1)) R M2,λP j ⟨k,r⟩=>⟨xs.length-(i+1),by omega,rfl,z,k,r⟩,λx j y=>?_⟩;obtain⟨k,m2,r2⟩:=j3 x j xs[i] (ZE z) y;refine uz r2 (L.mono k) u λNi Hw IW q3=>?_
  refine c9 (hb Hw M' Ni j _ IW m2 q3) ⟨λOy H4 Ja=>?_,λ_ _=>bv ((n.trans k').trans k),λ_ _=>jI ((n.trans k').trans k),λOy H4 ⟨B,C,F,a,b,c⟩=>⟨k'.trans (k.trans B),C,F,a,b,c.1,c.2⟩⟩;obtain⟨B,C,F,a,b,c⟩:=Ja;exact⟨k'.trans (k.trans B),C,F,a,b,c.1,c.2⟩
 ·have e:i=xs.length:=by omega
  subst e;rw[List.drop_length] at u;exact .inl ⟨j2 rfl,n.trans k',p,M',L,O,u⟩
def aH(g:MH->Prop)(t:Tgt)(c:WT)(e:WE)(F:List D->MH->Prop):List D->List D->DS->MH->Prop
 |[],g_,_,M=>F g_ M
 |x::xs,g_,σ,M=>qg t x σ λa=>c a M λb M1=>Bif b (e a M1 λy M2=>g M2/\aH g t c e F xs (g_++[y]) a M2) (g M1/\aH g t c e F xs g_ a M1)
def yu(n:Nat)(t:WI)(g:Tgt)(c:WT)(e:WE):WE:=λσ M Q=>t σ M λxs a M1=>aH a g c e (λds M'=>∀p,M' p=none->Q (.ref p) (updM M' p (.lst ds))) xs [] (σ++List.replicate n none) M1
def PTsd(X:Cx)(a:Zl)(t:WT):Prop:=(a=[]/\t=λ_ M Q=>Q true M) \/ ∃c,a=[c]/\PTd X c t
theorem uC{K:Za}{J:It}{f:Hp}{xs:List D}{j:MH->Prop}{g:Tgt}{c:WT}{e:WE}{tc:TT}{te:TE}{F:List D->MH->Prop}{Fin:List V->Hp->Prop}{σ:DS}{M1:MH}{ρ:L2.St}
  (Y:JOk K J f xs j) (hz:xs.length<=sizeLine) (rs:RS K f σ ρ) (Z:RM K M1 f) (g1:j M1)
  (hc:∀σ M ρ H Q (n:Bool->Hp->Prop),RS K H σ ρ->RM K M H->c σ M Q->(∀b H',Kp H H'->∀M',RM K M' H'->Q b M'->n b H')->tc ρ H n)
  (he:∀σ M ρ H Q (n:VK),RS K H σ ρ->RM K M H->e σ M Q->(∀v H',Kp H H'->∀d M',RV K H' d v->RM K M' H'->Q d M'->n v H')->te ρ H n)
  (hF:∀ds vs H' M',Kp f H'->RM K M' H'->RVs K H' ds vs->F ds M'->Fin vs H') (q:aH j g c e F xs [] σ M1):t5 J (gOf K g) tc te Fin ρ f:=by
 refine⟨λi m A G H'=>m=xs.length-i/\i<=xs.length/\Kp f H'/\∃B M' ds,RS K H' B G/\RM K M' H'/\j M'/\RVs K H' ds A/\ds.length<=i/\aH j g c e F (xs.drop i) ds B M',⟨xs.length,by simp,YQ _,Kp.refl _,σ,M1,[],rs,Z,g1,RVs.nil,YJ _,q⟩,?_⟩;rintro i m A G H' ⟨rfl,Jq,k',B,M',ds,Hk,I,g',o,hd,t⟩;obtain⟨j1,j2,j3⟩:=Y i H' M' k' I g';by_cases u:i<xs.length
 ·rw[XV u] at t
  refine .inr ⟨j1 u,by rw[←o.len];omega,λL O a=>Kp f a/\∃P M2 C,RS K a P O/\RM K M2 a/\j M2/\RVs K a C L/\C.length<=i+1/\aH j g c e F (xs.drop (i+1)) C P M2,λL O a ⟨k,r⟩=>⟨xs.length-(i+1),by omega,rfl,u,k,r⟩,λx a y=>?_⟩;obtain⟨k,m2,r2⟩:=j3 x a xs[i] (ZE u) y;refine uz r2 (Hk.mono k) t λR w z q3=>?_
  refine hc w M' R a _ _ z m2 q3 λb H4 l S T E=>?_
  cases b with
  |true=>
   refine he w S R H4 _ _ (z.mono l) T E λv H5 U d M5 rv m5 W=>?_
   have kk:=k.trans (l.trans U);exact⟨k'.trans kk,w,M5,ds++[d],z.mono (l.trans U),m5,W.1,RVs.of (a8 (RVs.mono kk _ o).p (.cons rv .nil)),by simp;omega,W.2⟩
  |false=>exact⟨k'.trans (k.trans l),w,S,ds,z.mono l,T,E.1,RVs.mono (k.trans l) _ o,by omega,E.2⟩
 ·have e:i=xs.length:=by omega
  subst e;rw[List.drop_length] at t;exact .inl ⟨j2 rfl,hF ds A H' M' k' I o t⟩
section
variable {Hj tg iter:Expr}{ifs:Zl}{scope HQ:Scope}{own N2:Zk}
def bT(X:Cx)(scope:Scope)(own N2:Zk)(ifs:Zl):TT:=λρ H Q=>∀C s a ex pn a_ b,Inv (cxC X scope own N2 C s a ex pn) a_ ρ H b ->
 wpAny (model X.prog X.w) X.A (forIn ifs true λc r=>if r=true then do let ok ←isTrue c (cxC X scope own N2 C s a ex pn).env (eval c (cxC X scope own N2 C s a ex pn).env);pure (ForInStep.yield ok) else pure (ForInStep.yield r)) (TP (cxC X scope own N2 C s a ex pn) a_ ρ Q) (cxC X scope own N2 C s a ex pn).xe b
def bE(X:Cx)(scope:Scope)(own N2:Zk)(e:Expr):TE:=λρ H Q=>∀C s a ex pn,tW (cxC X scope own N2 C s a ex pn) e ρ H Q
theorem oN{c:WT}{te:WE}(hc:∀C s a ex pn,PTsd (cxC X scope own N2 C s a ex pn) ifs c)(o:∀C s a ex pn,PEd (cxC X scope own N2 C s a ex pn) Hj te):
  (∀σ M ρ H Q (g:Bool->Hp->Prop),RS X.K H σ ρ->RM X.K M H->c σ M Q->(∀b H',Kp H H'->∀M',RM X.K M' H'->Q b M'->g b H')->bT X scope own N2 ifs ρ H g) /\
  (∀σ M ρ H Q (g:VK),RS X.K H σ ρ->RM X.K M H->te σ M Q->(∀v H',Kp H H'->∀d M',RV X.K H' d v->RM X.K M' H'->Q d M'->g v H')->bE X scope own N2 Hj ρ H g):=by
 refine⟨λσ M ρ H Q g rs j q f C s a ex pn a_ n I=>?_,λσ M ρ H Q g rs j q f C s a ex pn=>?_⟩
 ·rcases hc C s a ex pn with⟨e1,e2⟩ | ⟨p,e1,h⟩
  ·subst e1 e2
   exact DB (X:=cxC X scope own N2 C s a ex pn) a_ n ρ H _ I (f true H (Kp.refl H) M j q)
  ·subst e1
   refine DC (X:=cxC X scope own N2 C s a ex pn) (pt_W p) a_ n ρ H _ I ?_;refine eD (h σ M ρ H Q rs j q) λb H' t=>?_
   obtain⟨k,M',l,m⟩:=t;exact f b H' k M' l m
 ·refine aC (o C s a ex pn σ M ρ H Q rs j q) λv H' u=>?_
  obtain⟨k,d,M',r,l,m⟩:=u;exact f v H' k d M' r l m
theorem BA{t:WI}{g:Tgt}{c:WT}{te:WE}(l:CompScope HQ scope X.N own N2)(n:X.env.scope=HQ)(o:X.calm=true)(hi:PId X tg iter t)(hg:∀C s a ex pn,PG (cxC X scope own N2 C s a ex pn) tg (gOf X.K g))
  (hc:∀C s a ex pn,PTsd (cxC X scope own N2 C s a ex pn) ifs c) (r:∀C s a ex pn,PEd (cxC X scope own N2 C s a ex pn) Hj te) (u:jJ iter=true):PEd X (.ListComp Hj [⟨tg,iter,ifs,0⟩] scope pos) (yu own.length t g c te):=by
 intro σ M ρ H Q rs w q;obtain⟨y,z⟩:=oN hc r;refine bn (DE (te:=bE X scope own N2 Hj) (tc:=bT X scope own N2 ifs) l o (pi_W tg iter) hg (λC s a ex pn a_ b A H' B I h=>h C s a ex pn a_ b I) (λC s a ex pn a_ b A H' B I h=>h C s a ex pn a_ b I) n rfl (yt u)) ?_;show iW X tg iter ρ H _;refine rO (hi σ M ρ H _ rs w q) λJ R E=>?_
 obtain⟨d,xs,S,M1,F,G,L,hz,O⟩:=E;refine uC L hz ((rs.mono d).more own.length) F G y z ?_ O;intro ds vs H' M' k' j P f p hp;have k:Kp H' (upd H' p (.lst vs)):=Kp.new hp;exact⟨(d.trans k').trans k,.ref p,_,RV.ref_.2 rfl,j.new (m:=.lst ds) hp ⟨vs,ay,RVs.mono k _ P⟩,f p (j.fresh hp)⟩
def yv(i n:Nat)(t:WI)(g:Tgt)(c:WT)(e:WE):WS:=λE σ M=>t σ M λxs a M1=>aH a g c e (λds M'=>∀p,M' p=none->E.nx (σ.set i (some (.ref p))) (updM M' p (.lst ds))) xs [] (σ++List.replicate n none) M1
theorem BB{t:WI}{g:Tgt}{c:WT}{te:WE}{i:Nat}{y:Str}{k l:Pos}(o:CompScope HQ scope X.N own N2)(r:X.env.scope=HQ)(u:X.calm=true)(w:X.N.Nodup)(hy:X.N[i]?=some y)(hl:X.env.scope.names.lookup y=some .local)(hi:PId X tg iter t)
  (hg:∀C s a ex pn,PG (cxC X scope own N2 C s a ex pn) tg (gOf X.K g))
  (hc:∀C s a ex pn,PTsd (cxC X scope own N2 C s a ex pn) ifs c) (z:∀C s a ex pn,PEd (cxC X scope own N2 C s a ex pn) Hj te) (A:jJ iter=true)
  (B:swapsWith (.ListComp Hj [⟨tg,iter,ifs,0⟩] scope pos) (some (.Name y k)) l.line X.env=pure true):PSd X (.Assign [.Name y k] (.ListComp Hj [⟨tg,iter,ifs,0⟩] scope pos) l) (yv i own.length t g c te):=by
 intro σ M ρ H E rs F q;obtain⟨G,L⟩:=oN hc z;refine c8 (DF (te:=bE X scope own N2 Hj) (tc:=bT X scope own N2 ifs) (i:=i) o u w hy hl (pi_W tg iter) hg (λC s a ex pn a_ b O H' P I h=>h C s a ex pn a_ b I) (λC s a ex pn a_ b O H' P I h=>h C s a ex pn a_ b I) B r rfl (yt A)) ?_;show iW X tg iter ρ H _;refine rO (hi σ M ρ H _ rs F q) λJ Y R=>?_
 obtain⟨d,xs,Z,M1,S,T,U,hz,V⟩:=R;refine uC U hz ((rs.mono d).more own.length) S T G L ?_ V;intro ds vs H' M' k' n W f p hp;have j:Kp H' (upd H' p (.lst vs)):=Kp.new hp;exact⟨(d.trans k').trans j,_,_,(rs.mono ((d.trans k').trans j)).set i (RV.ref_.2 rfl),n.new (m:=.lst ds) hp ⟨vs,ay,RVs.mono j _ W⟩,f p (n.fresh hp)⟩
end
def ad(N:Zk)(ds:List D):DS:=ds.map some++List.replicate (N.length-ds.length) none
theorem uD{K:Za}{H:Hp}{N:Zk}{ds:List D}{vs:List V}(r:RVs K H ds vs):RS K H (ad N ds) (L2.start N vs):=by
 unfold ad L2.start;rw[r.len];refine a8 ?_ (jD (λd e=>nomatch e) _);have p:=r.p;clear r;induction p with
 |nil=>exact .nil
 |cons r _ a=>exact .cons (λd e=>by cases e;exact⟨_,rfl,r⟩) a
end
section
variable {P:ZS}{w:World}{K:Za}{mg:Zi}{base:Heap}
theorem fnD{x:Str}{st:Stmt}{ps N:Zk}{f:Addr}{fd:ZD}{k:Nat}{sp:SpD}{t:WS}(c:IsDef K mg x st ps f fd)(S:FnScope N ps (af st))(len:∀ds M Q,sp ds M Q->ds.length=ps.length)
  (hb:∀x_ A outer s H E,Room k (A.deeper (envOfC x (af st) s.heap.objs.size f x_))->PSsd (cxOf CX0 P w K mg base N x (af st) f x_ A outer s H E).nox (aG st) t)
  (h:∀ds M Q,sp ds M Q->t { nx:=λ_ M'=>Q .non M',rt:=Q } (ad N ds) M):FnD P w K mg base (k+1) x sp:=by
 refine⟨st,ps,f,fd,c,c.fn.ok S (λvs H Q E ⟨ds,M,a,r,_,s,_⟩=>by rw[←r.len];exact len ds M a s) λx_ A outer s H vs Q E j ⟨ds,M,a,r,m,sq,g⟩=>⟨tWSs _ _,lY _,?_⟩⟩;refine c9 (hb x_ A outer s H E j (ad N ds) M (L2.start N vs) H _ (uD r) m (h ds M a sq)) ⟨λo H' l=>?_,λv H' ⟨k',d,M',n,b,q⟩=>g _ _ _ _ q k' n b,λ_ _ ⟨_,_,_,_,_,q⟩=>q,λ_ _ ⟨_,_,_,_,_,q⟩=>q⟩;obtain⟨k',p,M',_,b,q⟩:=l;exact g _ _ _ _ q k' (RV.non_.2 rfl) b
end
mutual
noncomputable def aK:D->Bool
 |.ref _=>false
 |.ty _=>false
 |.tup ds=>aN ds
 |_=>true
noncomputable def aN:List D->Bool
 |[]=>true
 |d::ds=>aK d&&aN ds
end
mutual
noncomputable def depD:D->Nat
 |.tup ds=>bB ds+1
 |_=>0
noncomputable def bB:List D->Nat
 |[]=>0
 |d::ds=>max (depD d) (bB ds)
end
mutual
noncomputable def eqD:D->D->Bool
 |.non,.non=>true
 |.bl a,.bl b=>a==b
 |.bl a,.int b=>(if a then 1 else 0)==b
 |.int a,.bl b=>a==(if b then 1 else 0)
 |.int a,.int b=>a==b
 |.str a,.str b=>a==b
 |.tup as,.tup bs=>eqDs as bs
 |_,_=>false
noncomputable def eqDs:List D->List D->Bool
 |[],[]=>true
 |a::as,b::bs=>eqD a b&&eqDs as bs
 |_,_=>false
end
mutual
theorem uE:∀d:D,aK d=true->eqD d d=true
 |.non,_=>by rw[eqD]
 |.bl b,_=>by rw[eqD];simp
 |.int b,_=>by rw[eqD];simp
 |.str b,_=>by rw[eqD];simp
 |.ref _,h=>by rw[aK] at h;cases h
 |.ty _,h=>by rw[aK] at h;cases h
 |.tup ds,h=>by rw[aK] at h;rw[eqD];exact nj ds h
theorem nj:∀ds:List D,aN ds=true->eqDs ds ds=true
 |[],_=>by rw[eqDs]
 |d::ds,h=>by
  rw[aN,XB] at h;rw[eqDs,uE d h.1,nj ds h.2];rfl
end
theorem jK:∀{as bs:List D},eqDs as bs=((List.range (min as.length bs.length)).all (λj=>eqD ((as[j]?).getD .non) ((bs[j]?).getD .non))&&as.length==bs.length)
 |[],[]=>by rw[eqDs];rfl
 |[],b::bs=>by rw[eqDs]<;>simp
 |a::as,[]=>by rw[eqDs]<;>simp
 |a::as,b::bs=>by
  rw[eqDs,jK (as:=as) (bs:=bs)];have e:min (a::as).length (b::bs).length=min as.length bs.length+1:=by simp only[YM];omega
  rw[e,List.range_succ_eq_map,XT,List.all_map];simp only[XX,Option.getD_some,YM];rw[Bool.and_assoc];congr 1;congr 1;rw[Bool.eq_iff_iff];simp
theorem bJ:∀{ds:List D}{i:Nat}{d:D},aN ds=true->ds[i]?=some d->aK d=true
 |d::ds,0,_,h,e=>by rw[aN,XB] at h;simp at e;subst e;exact h.1
 |d::ds,i+1,_,h,e=>by rw[aN,XB] at h;exact bJ (ds:=ds) (i:=i) h.2 (by simpa using e)
theorem ie:∀{ds:List D}{i:Nat}{d:D},ds[i]?=some d->depD d<=bB ds
 |d::ds,0,_,e=>by rw[bB];simp at e;subst e;omega
 |d::ds,i+1,_,e=>by rw[bB];have:=ie (ds:=ds) (i:=i) (by simpa using e);omega
section
variable {X:Cx}{a_:Zg}{ρ:L2.St}{H:Hp}{s:Shared}
def jc:D->Bool
 |.non=>true
 |.bl _=>true
 |.int _=>true
 |.str _=>true
 |_=>false
def toV:D->V
 |.non=>.non
 |.bl b=>.bl b
 |.int i=>.int i
 |.str x=>.str x
 |_=>.non
theorem nZ{K:Za}{d:D}{v:V}(f:jc d=true)(r:RV K H d v):v=toV d/\yc v=true:=by
 cases d with
 |non=>cases RV.non_.1 r;exact⟨rfl,rfl⟩
 |bl b=>cases RV.bl_.1 r;exact⟨rfl,rfl⟩
 |int b=>cases RV.int_.1 r;exact⟨rfl,rfl⟩
 |str b=>cases RV.str_.1 r;exact⟨rfl,rfl⟩
 |_=>exact absurd (show false=true from f) YI
theorem xk{d e:D}(f:jc d=true)(g:jc e=true):eqD d e=eqV (toV d) (toV e):=by
 cases d<;>cases e<;>first | exact absurd (show false=true from f) YI | exact absurd (show false=true from g) YI | (rw[eqD]<;>first | rfl | (intros;contradiction) | skip)
mutual
theorem uF(I:Inv X a_ ρ H s):∀(d e:D){v:V},aK d=true->aK e=true->RV X.K H d v->RV X.K H e v->d=e:=λd e v pd pe rd re=>by
 cases d with
 |non=>cases RV.non_.1 rd;cases e with
  |non=>rfl
  |tup ds=>obtain⟨a,xs,z,_⟩:=RV.tup_.1 re;cases z
  |_=>rw[RV] at re;cases re
 |bl b=>cases RV.bl_.1 rd;cases e with
  |bl b'=>cases RV.bl_.1 re;rfl
  |tup ds=>obtain⟨a,xs,z,_⟩:=RV.tup_.1 re;cases z
  |_=>rw[RV] at re;cases re
 |int b=>cases RV.int_.1 rd;cases e with
  |int b'=>cases RV.int_.1 re;rfl
  |tup ds=>obtain⟨a,xs,z,_⟩:=RV.tup_.1 re;cases z
  |_=>rw[RV] at re;cases re
 |str b=>cases RV.str_.1 rd;cases e with
  |str b'=>cases RV.str_.1 re;rfl
  |tup ds=>obtain⟨a,xs,z,_⟩:=RV.tup_.1 re;cases z
  |_=>rw[RV] at re;cases re
 |ref a=>rw[aK] at pd;cases pd
 |ty a=>rw[aK] at pd;cases pd
 |tup ds=>
  obtain⟨a,xs,rfl,sq,rr⟩:=RV.tup_.1 rd;cases e with
  |tup es=>
   obtain⟨a',Kk,z,Iu,G'⟩:=RV.tup_.1 re;cases z
   have:=I.tuple_inj sq Iu
   subst this;rw[aK] at pd pe;rw[xl I ds es pd pe rr G']
  |ref a=>rw[aK] at pe;cases pe
  |_=>rw[RV] at re;cases re
theorem xl(I:Inv X a_ ρ H s):∀(ds es:List D){vs:List V},aN ds=true->aN es=true->RVs X.K H ds vs->RVs X.K H es vs->ds=es
 |[],[],_,_,_,_,_=>rfl
 |[],e::es,_,_,_,rd,re=>by have:=rd.len;have:=re.len;simp only[YM,YX] at *;omega
 |d::ds,[],_,_,_,rd,re=>by have:=rd.len;have:=re.len;simp only[YM,YX] at *;omega
 |d::ds,e::es,_,pd,pe,rd,re=>by
  rw[RVs] at rd re;rw[aN,XB] at pd pe;obtain⟨v,vs,rfl,r1,r2⟩:=rd;obtain⟨v',Ir,z,RL,RN⟩:=re;cases z;rw[uF I d e pd.1 pe.1 r1 RL,xl I ds es pd.2 pe.2 r2 RN]
end
theorem rQ{A:Around}{ds:List D}{e:D}{v u:V}{g j:Value}(I:Inv X a_ ρ H s)(hu:A.units<cLine)(f:jc e=true)(k:RV X.K H (.tup ds) v)(c:RV X.K H e u)(r:RelV v g)(d:RelV u j):
  SeqAt.EqAt A s g j false/\SeqAt.EqAt A s j g false:=by
 obtain⟨a,xs,rfl,sq,l⟩:=RV.tup_.1 k;obtain⟨d_,_,tp,_⟩:=I.tuple sq;cases r;have tp:s.heap.IsTuple a d_.toArray:=tp;cases e with
 |non=>cases RV.non_.1 c;cases d;exact⟨SeqAt.EqAt.tuple_none tp hu,SeqAt.EqAt.none_tuple tp hu⟩
 |bl b=>cases RV.bl_.1 c;cases d;exact⟨SeqAt.EqAt.tuple_bool b tp hu,SeqAt.EqAt.bool_tuple b tp hu⟩
 |int b=>cases RV.int_.1 c;obtain⟨t,rfl⟩:=d;exact⟨SeqAt.EqAt.tuple_int b t tp hu,SeqAt.EqAt.int_tuple b t tp hu⟩
 |str b=>cases RV.str_.1 c;obtain⟨t,rfl⟩:=d;exact⟨SeqAt.EqAt.tuple_str b t tp hu,SeqAt.EqAt.str_tuple b t tp hu⟩
 |_=>exact absurd (show false=true from f) YI
theorem nk{ds:List D}{e:D}(f:jc e=true):eqD (.tup ds) e=false/\eqD e (.tup ds)=false:=by
 cases e<;>first | exact absurd (show false=true from f) YI | (constructor<;>(rw[eqD]<;>(intros;contradiction)))
theorem dA{d:D}(h:aK d=true):jc d=true \/ ∃ds,d=.tup ds:=by
 cases d with
 |ref a=>rw[aK] at h;cases h
 |ty a=>rw[aK] at h;cases h
 |tup ds=>exact .inr ⟨ds,rfl⟩
 |_=>exact .inl rfl
theorem units_in1(A:Around):A.in1.units=A.units+1:=rfl
theorem gK{K:Za}{ds:List D}{vs:List V}{d_:Zh}(a:RVs K H ds vs)(b:Vals vs d_){j:Nat}(h:j<d_.toArray.size):
  ∃d v,ds[j]?=some d/\RV K H d v/\RelV v d_.toArray[j]:=by
 have c:j<d_.length:=by simpa using h
 have h2:j<vs.length:=by rw[b.length];exact c
 have f:j<ds.length:=by rw[a.len];exact h2
 obtain⟨v,g,r⟩:=cM a.p (ZE f);obtain⟨u,hu,k⟩:=b.get g;have:d_.toArray[j]=u:=by
  have:=ZE c
  rw[this] at hu;simpa using hu
 exact⟨ds[j],v,ZE f,r,by rw[this];exact k⟩
theorem uG(n:Nat):∀{s:Shared}{A:Around}(d e:D){v u:V}{p t:Value},Inv X a_ ρ H s->depD d<=n->A.units+n<cLine->aK d=true->aK e=true->RV X.K H d v->RV X.K H e u->RelV v p->RelV u t->SeqAt.EqAt A s p t (eqD d e):=by
 induction n with
 |zero=>
  intro s A d e v u p t I hd hu m o c k r l;rcases dA m with f | ⟨ds,rfl⟩
  ·rcases dA o with g | ⟨es,rfl⟩
   ·rw[xk f g]
    obtain⟨w,y⟩:=nZ f c;obtain⟨B,C⟩:=nZ g k;rw[←w,←B];exact zz r l y C
   ·rw[(nk f).2];exact(rQ I (by omega) f k c l r).2
  ·rw[depD] at hd;omega
 |succ n O=>
  intro s A d e v u p t I hd hu m o c k r l;rcases dA m with f | ⟨ds,rfl⟩
  ·rcases dA o with g | ⟨es,rfl⟩
   ·rw[xk f g]
    obtain⟨w,y⟩:=nZ f c;obtain⟨B,C⟩:=nZ g k;rw[←w,←B];exact zz r l y C
   ·rw[(nk f).2];exact(rQ I (by omega) f k c l r).2
  ·rcases dA o with g | ⟨es,rfl⟩
   ·rw[(nk g).1];exact(rQ I (by omega) g c k r l).1
   ·by_cases z:v=u
    ·subst z
     have:=uF I _ _ m o c k
     cases this;rw[uE _ m];obtain⟨a,xs,rfl,_⟩:=RV.tup_.1 c;cases r;cases l;exact SeqAt.EqAt.same _
    ·obtain⟨a,xs,rfl,sq,F⟩:=RV.tup_.1 c
     obtain⟨b,ys,rfl,P,G⟩:=RV.tup_.1 k;cases r;cases l;have R:a≠b:=λq=>z (by rw[q])
     obtain⟨d_,J,tp,_⟩:=I.tuple sq;obtain⟨p_,L,S,_⟩:=I.tuple P;rw[depD] at hd;rw[aK] at m o;have E:=SeqAt.RcAt.tuples (A:=A) (e:=λj=>eqD ((ds[j]?).getD .non) ((es[j]?).getD .non)) (show s.heap.IsTuple a d_.toArray from tp) (show s.heap.IsTuple b p_.toArray from S) (by omega) (λj T h2=>by
      obtain⟨d,v,e1,U,W⟩:=gK F J T;obtain⟨e,u,e2,Y,Z⟩:=gK G L h2;rw[e1,e2]
      have:=ie e1
      exact O d e I (by omega) (by rw[units_in1];omega) (bJ m e1) (bJ o e2) U Y W Z)
     have e:eqD (.tup ds) (.tup es)=((List.range (min d_.toArray.size p_.toArray.size)).all (λj=>eqD ((ds[j]?).getD .non) ((es[j]?).getD .non))&&d_.toArray.size==p_.toArray.size):=by
      have l1:d_.toArray.size=ds.length:=by rw[F.len,J.length];simp
      have l2:p_.toArray.size=es.length:=by rw[G.len,L.length];simp
      rw[eqD,jK,l1,l2]
     rw[e];exact SeqAt.EqAt.of_refs R E
end
section
variable {X:Cx}{H:Hp}
def dAdd:D->D->MH->DK->Prop
 |.int i,.int j,M,Q=>Q (.int (i+j)) M
 |.str i,.str j,M,Q=>i.length+j.length<=sizeLine/\Q (.str (i++j)) M
 |.tup xs,.tup c,M,Q=>(xs≠[]/\xs.length+c.length<=sizeLine)/\Q (.tup (xs++c)) M
 |.ref a,.ref b,M,Q=>match M a,M b with
  |some (.lst xs),some (.lst c)=>xs.length+c.length<=sizeLine/\∀p,M p=none->Q (.ref p) (updM M p (.lst (xs++c)))
  |_,_=>False
 |_,_,_,_=>False
theorem Ec:OpD X (binaryOp .Add) dAdd:=by
 intro x y v u H M Q l n c h;cases x with
 |int i=>cases y with
  |int j=>cases RV.int_.1 l;cases RV.int_.1 n;exact d3 Fd ⟨i,j,rfl,rfl,ax (RV.int_.2 rfl) c h⟩
  |_=>exact Yh h
 |str i=>cases y with
  |str j=>cases RV.str_.1 l;cases RV.str_.1 n;exact d3 xX ⟨i,j,rfl,rfl,h.1,ax (RV.str_.2 rfl) c h.2⟩
  |_=>exact Yh h
 |tup xs=>cases y with
  |tup d=>
   obtain⟨a,vs,rfl,sq,f⟩:=RV.tup_.1 l;obtain⟨b,us,rfl,t,g⟩:=RV.tup_.1 n;obtain⟨⟨w,h2⟩,r⟩:=h;refine d3 Dv ⟨a,b,vs,us,rfl,rfl,sq,t,λz=>w ?_,by rw[←f.len,←g.len];exact h2,λz=>?_,λz p hp=>?_⟩
   ·have:=f.len;rw[z] at this;exact List.eq_nil_of_length_eq_zero this
   ·have:=g.len;rw[z] at this
    have:d=[]:=List.eq_nil_of_length_eq_zero this
    subst this;rw[ZA] at r;exact ax l c r
   ·have k:=Kp.new (o:=.tup (vs++us)) hp
    exact⟨k,.tup (xs++d),M,RV.tup_.2 ⟨p,_,rfl,SqT.of ay,RVs.of (a8 (RVs.mono k _ f).p (RVs.mono k _ g).p)⟩,c.newH hp,r⟩
  |_=>exact Yh h
 |ref a=>cases y with
  |ref b=>
   cases RV.ref_.1 l;cases RV.ref_.1 n;have h:match M a,M b with
    |some (.lst xs),some (.lst d)=>xs.length+d.length<=sizeLine/\∀p,M p=none->Q (.ref p) (updM M p (.lst (xs++d)))
    |_,_=>False:=h
   split at h
   ·rename_i xs d e1 e2
    obtain⟨vs,A,f⟩:=c a _ e1;obtain⟨us,B,g⟩:=c b _ e2;refine d3 FC ⟨a,b,vs,us,rfl,rfl,A,B,by rw[←f.len,←g.len];exact h.1,λp hp=>?_⟩;have k:=Kp.new (o:=.lst (vs++us)) hp;exact⟨k,.ref p,_,RV.ref_.2 rfl,c.new (m:=.lst (xs++d)) hp ⟨_,ay,RVs.of (a8 (RVs.mono k _ f).p (RVs.mono k _ g).p)⟩,h.2 p (c.fresh hp)⟩
   ·exact Yh h
  |_=>exact Yh h
 |_=>exact Yh h
def dI(C:Int->Int->Prop)(g:Int->Int->Int):D->D->MH->DK->Prop
 |.int i,.int j,M,Q=>C i j/\Q (.int (g i j)) M
 |_,_,_,_=>False
theorem qh{f:Zp}{C:Int->Int->Prop}{g:Int->Int->Int}(a:OpR X f (rI C λi j=>.int (g i j))):OpD X f (dI C g):=by
 intro x y v u H M Q b c d h;cases x with
 |int i=>cases y with
  |int j=>cases RV.int_.1 b;cases RV.int_.1 c;exact d3 a ⟨i,j,rfl,rfl,h.1,ax (RV.int_.2 rfl) d h.2⟩
  |_=>exact Yh h
 |_=>exact Yh h
def dI0(g:Int->Int->Int):D->D->MH->DK->Prop
 |.int i,.int j,M,Q=>Q (.int (g i j)) M
 |_,_,_,_=>False
theorem qi{f:Zp}{g:Int->Int->Int}(a:OpR X f (rI0 λi j=>.int (g i j))):OpD X f (dI0 g):=by
 intro x y v u H M Q b c d h;cases x with
 |int i=>cases y with
  |int j=>cases RV.int_.1 b;cases RV.int_.1 c;exact d3 a ⟨i,j,rfl,rfl,ax (RV.int_.2 rfl) d h⟩
  |_=>exact Yh h
 |_=>exact Yh h
def dMul:D->D->MH->DK->Prop
 |.int i,.int j,M,Q=>CMul i j/\Q (.int (i*j)) M
 |.str z,.int n,M,Q=>(0<=n/\n<=1048576/\z.length*n.toNat<=1048576)/\Q (.str (Txt.mul z n)) M
 |.ref a,.int k,M,Q=>match M a with
  |some (.lst xs)=>(-1000000<=k/\k<=1000000/\xs.length*k.toNat<=sizeLine)/\∀p,M p=none->Q (.ref p) (updM M p (.lst (List.replicate k.toNat xs).flatten))
  |_=>False
 |_,_,_,_=>False
theorem Ed:OpD X (binaryOp .Mult) dMul:=by
 intro x y v u H M Q c d b h;cases x with
 |int i=>cases y with
  |int j=>cases RV.int_.1 c;cases RV.int_.1 d;exact d3 Ff ⟨i,j,rfl,rfl,h.1,ax (RV.int_.2 rfl) b h.2⟩
  |_=>exact Yh h
 |str z=>cases y with
  |int n=>cases RV.str_.1 c;cases RV.int_.1 d;exact d3 yf ⟨z,n,rfl,rfl,h.1.1,h.1.2.1,h.1.2.2,ax (RV.str_.2 rfl) b h.2⟩
  |_=>exact Yh h
 |ref a=>cases y with
  |int k=>
   cases RV.ref_.1 c;cases RV.int_.1 d;have h:match M a with
    |some (.lst xs)=>(-1000000<=k/\k<=1000000/\xs.length*k.toNat<=sizeLine)/\∀p,M p=none->Q (.ref p) (updM M p (.lst (List.replicate k.toNat xs).flatten))
    |_=>False:=h
   split at h
   ·rename_i xs e1
    obtain⟨vs,g,f⟩:=b a _ e1;refine d3 FD ⟨a,k,vs,rfl,rfl,g,by omega,by omega,by rw[←f.len];exact h.1.2.2,λp hp=>?_⟩;have kk:=Kp.new (o:=.lst (List.replicate k.toNat vs).flatten) hp;exact⟨kk,.ref p,_,RV.ref_.2 rfl,b.new (m:=.lst (List.replicate k.toNat xs).flatten) hp ⟨_,ay,RVs.of (zN (RVs.mono kk _ f).p _)⟩,h.2 p (b.fresh hp)⟩
   ·exact Yh h
  |_=>exact Yh h
 |_=>exact Yh h
def dBin:Operator->D->D->MH->DK->Prop
 |.Add=>dAdd
 |.Sub=>dI0 λi j=>i-j
 |.Mult=>dMul
 |.FloorDiv=>dI CDiv λi j=>i / j
 |.Mod=>dI (λ_ j=>0<j) λi j=>i%j
 |.Pow=>dI CPow λi j=>i ^ j.toNat
 |.LShift=>dI CPow λi j=>i*2 ^ j.toNat
 |.RShift=>dI (λ_ j=>0<=j) λi j=>i / 2 ^ j.toNat
 |.BitAnd=>dI0 Builtin.bitAnd
 |.BitOr=>dI0 Builtin.bitOr
 |.BitXor=>dI0 Builtin.bitXor
 |_=>λ_ _ _ _=>False
theorem Ee(op:Operator):OpD X (binaryOp op) (dBin op):=by
 cases op with
 |Add=>exact Ec
 |Sub=>exact qi Fe
 |Mult=>exact Ed
 |FloorDiv=>exact qh Dh
 |Mod=>exact qh Fg
 |Pow=>exact qh Fh
 |LShift=>exact qh Fi
 |RShift=>exact qh Fk
 |BitAnd=>exact qi Fl
 |BitOr=>exact qi GP
 |BitXor=>exact qi Fm
 |_=>exact λ_ _ _ _ _ _ _ _ _ _ h=>Yh h
def dIB(g:Int->Int->Bool):D->D->MH->DK->Prop
 |.int i,.int j,M,Q=>Q (.bl (g i j)) M
 |_,_,_,_=>False
theorem qj{f:Zp}{g:Int->Int->Bool}(a:OpR X f (rI0 λi j=>.bl (g i j))):OpD X f (dIB g):=by
 intro x y v u H M Q b c d h;cases x with
 |int i=>cases y with
  |int j=>cases RV.int_.1 b;cases RV.int_.1 c;exact d3 a ⟨i,j,rfl,rfl,ax (RV.bl_.2 rfl) d h⟩
  |_=>exact Yh h
 |_=>exact Yh h
def dEq(x y:D)(M:MH)(Q:Bool->Prop):Prop:=match x,y with
 |.ref a,.ref b=>match rdL (M a),rdL (M b) with
  |some xs,some c=>(aN xs=true/\aN c=true/\bB xs<=30)/\Q (eqDs xs c)
  |_,_=>False
 |.ref a,y=>match rdL (M a) with
  |some _=>aK y=true/\Q false
  |none=>False
 |x,.ref b=>match rdL (M b) with
  |some _=>aK x=true/\Q false
  |none=>False
 |x,y=>(aK x=true/\aK y=true/\depD x<=30)/\Q (eqD x y)
theorem zX{A:Around}{s:Shared}{d e:D}{v u:V}{l m:Value}{K:Za}(f:jc d=true)(g:jc e=true)(k:RV K H d v)(c:RV K H e u)(r:RelV v l)(j:RelV u m):
  SeqAt.RcAt A s l m (eqD d e)/\SeqAt.RcNeAt A s l m (!eqD d e):=by
 cases d with
 |non=>
  cases RV.non_.1 k;cases r;cases e with
  |non=>cases RV.non_.1 c;cases j;rw[eqD];exact⟨SeqAt.RcAt.none_none,SeqAt.RcNeAt.none_none⟩
  |bl b=>cases RV.bl_.1 c;cases j;rw[eqD]<;>first | exact⟨SeqAt.RcAt.none_bool b,SeqAt.RcNeAt.none_bool b⟩ | (intros;contradiction)
  |int b=>cases RV.int_.1 c;obtain⟨t,rfl⟩:=j;rw[eqD]<;>first | exact⟨SeqAt.RcAt.none_int b t,SeqAt.RcNeAt.none_int b t⟩ | (intros;contradiction)
  |str b=>cases RV.str_.1 c;obtain⟨t,rfl⟩:=j;rw[eqD]<;>first | exact⟨SeqAt.RcAt.none_str b t,SeqAt.RcNeAt.none_str b t⟩ | (intros;contradiction)
  |_=>exact absurd (show false=true from g) YI
 |bl a=>
  cases RV.bl_.1 k;cases r;cases e with
  |non=>cases RV.non_.1 c;cases j;rw[eqD]<;>first | exact⟨SeqAt.RcAt.bool_none a,SeqAt.RcNeAt.bool_none a⟩ | (intros;contradiction)
  |bl b=>cases RV.bl_.1 c;cases j;rw[eqD];exact⟨SeqAt.RcAt.bool_bool a b,SeqAt.RcNeAt.bool_bool a b⟩
  |int b=>cases RV.int_.1 c;obtain⟨t,rfl⟩:=j;rw[eqD];exact⟨SeqAt.RcAt.bool_int a b t,SeqAt.RcNeAt.bool_int a b t⟩
  |str b=>cases RV.str_.1 c;obtain⟨t,rfl⟩:=j;rw[eqD]<;>first | exact⟨SeqAt.RcAt.bool_str a b t,SeqAt.RcNeAt.bool_str a b t⟩ | (intros;contradiction)
  |_=>exact absurd (show false=true from g) YI
 |int a=>
  cases RV.int_.1 k;obtain⟨t',rfl⟩:=r;cases e with
  |non=>cases RV.non_.1 c;cases j;rw[eqD]<;>first | exact⟨SeqAt.RcAt.int_none a t',SeqAt.RcNeAt.int_none a t'⟩ | (intros;contradiction)
  |bl b=>cases RV.bl_.1 c;cases j;rw[eqD];exact⟨SeqAt.RcAt.int_bool a t' b,SeqAt.RcNeAt.int_bool a t' b⟩
  |int b=>cases RV.int_.1 c;obtain⟨t,rfl⟩:=j;rw[eqD];exact⟨SeqAt.RcAt.int_int a t' b t,SeqAt.RcNeAt.int_int a t' b t⟩
  |str b=>cases RV.str_.1 c;obtain⟨t,rfl⟩:=j;rw[eqD]<;>first | exact⟨SeqAt.RcAt.int_str a t' b t,SeqAt.RcNeAt.int_str a t' b t⟩ | (intros;contradiction)
  |_=>exact absurd (show false=true from g) YI
 |str a=>
  cases RV.str_.1 k;obtain⟨t',rfl⟩:=r;cases e with
  |non=>cases RV.non_.1 c;cases j;rw[eqD]<;>first | exact⟨SeqAt.RcAt.str_none a t',SeqAt.RcNeAt.str_none a t'⟩ | (intros;contradiction)
  |bl b=>cases RV.bl_.1 c;cases j;rw[eqD]<;>first | exact⟨SeqAt.RcAt.str_bool a t' b,SeqAt.RcNeAt.str_bool a t' b⟩ | (intros;contradiction)
  |int b=>cases RV.int_.1 c;obtain⟨t,rfl⟩:=j;rw[eqD]<;>first | exact⟨SeqAt.RcAt.str_int a t' b t,SeqAt.RcNeAt.str_int a t' b t⟩ | (intros;contradiction)
  |str b=>cases RV.str_.1 c;obtain⟨t,rfl⟩:=j;rw[eqD];exact⟨SeqAt.RcAt.str_str a t' b t,SeqAt.RcNeAt.str_str a t' b t⟩
  |_=>exact absurd (show false=true from g) YI
 |_=>exact absurd (show false=true from f) YI
theorem rR{A:Around}{s:Shared}{a_:Zg}{ρ:L2.St}{a:Addr}{d_:Zq}{e:D}{u:V}{g:Value}(hu:A.units<cLine)(f:jc e=true)(tp:s.heap.IsTuple a d_\/s.heap.IsList a d_)(c:RV X.K H e u)(d:RelV u g):
  (SeqAt.RcAt A s (.ref a) g false/\SeqAt.RcNeAt A s (.ref a) g true)/\(SeqAt.RcAt A s g (.ref a) false/\SeqAt.RcNeAt A s g (.ref a) true):=by
 rcases tp with tp | tp
 ·cases e with
  |non=>cases RV.non_.1 c;cases d;exact⟨⟨SeqAt.RcAt.tuple_none tp hu,SeqAt.RcNeAt.tuple_none tp hu⟩,⟨SeqAt.RcAt.none_tuple tp hu,SeqAt.RcNeAt.none_tuple tp hu⟩⟩
  |bl b=>cases RV.bl_.1 c;cases d;exact⟨⟨SeqAt.RcAt.tuple_bool b tp hu,SeqAt.RcNeAt.tuple_bool b tp hu⟩,⟨SeqAt.RcAt.bool_tuple b tp hu,SeqAt.RcNeAt.bool_tuple b tp hu⟩⟩
  |int b=>cases RV.int_.1 c;obtain⟨t,rfl⟩:=d;exact⟨⟨SeqAt.RcAt.tuple_int b t tp hu,SeqAt.RcNeAt.tuple_int b t tp hu⟩,⟨SeqAt.RcAt.int_tuple b t tp hu,SeqAt.RcNeAt.int_tuple b t tp hu⟩⟩
  |str b=>cases RV.str_.1 c;obtain⟨t,rfl⟩:=d;exact⟨⟨SeqAt.RcAt.tuple_str b t tp hu,SeqAt.RcNeAt.tuple_str b t tp hu⟩,⟨SeqAt.RcAt.str_tuple b t tp hu,SeqAt.RcNeAt.str_tuple b t tp hu⟩⟩
  |_=>exact absurd (show false=true from f) YI
 ·cases e with
  |non=>cases RV.non_.1 c;cases d;exact⟨⟨SeqAt.RcAt.list_none tp hu,SeqAt.RcNeAt.list_none tp hu⟩,⟨SeqAt.RcAt.none_list tp hu,SeqAt.RcNeAt.none_list tp hu⟩⟩
  |bl b=>cases RV.bl_.1 c;cases d;exact⟨⟨SeqAt.RcAt.list_bool b tp hu,SeqAt.RcNeAt.list_bool b tp hu⟩,⟨SeqAt.RcAt.bool_list b tp hu,SeqAt.RcNeAt.bool_list b tp hu⟩⟩
  |int b=>cases RV.int_.1 c;obtain⟨t,rfl⟩:=d;exact⟨⟨SeqAt.RcAt.list_int b t tp hu,SeqAt.RcNeAt.list_int b t tp hu⟩,⟨SeqAt.RcAt.int_list b t tp hu,SeqAt.RcNeAt.int_list b t tp hu⟩⟩
  |str b=>cases RV.str_.1 c;obtain⟨t,rfl⟩:=d;exact⟨⟨SeqAt.RcAt.list_str b t tp hu,SeqAt.RcNeAt.list_str b t tp hu⟩,⟨SeqAt.RcAt.str_list b t tp hu,SeqAt.RcNeAt.str_list b t tp hu⟩⟩
  |_=>exact absurd (show false=true from f) YI
def Rc2(A:Around)(s:Shared)(v u:Value)(b:Bool):Prop:=SeqAt.RcAt A s v u b/\SeqAt.RcNeAt A s v u (!b)
theorem Ef{A:Around}{s:Shared}{a_:Zg}{ρ:L2.St}{ds es:List D}{vs us:List V}{d_ p_:Zh}{a b:Addr}(I:Inv X a_ ρ H s)(hd:bB ds<=30)(hu:A.units+40<cLine)(o:aN ds=true)(p:aN es=true)
  (c:RVs X.K H ds vs) (f:RVs X.K H es us) (g:Vals vs d_) (k:Vals us p_) (tp:s.heap.IsTuple a d_.toArray) (l:s.heap.IsTuple b p_.toArray):Rc2 A s (.ref a) (.ref b) (eqDs ds es):=by
 have l1:d_.toArray.size=ds.length:=by rw[c.len,g.length];simp
 have l2:p_.toArray.size=es.length:=by rw[f.len,k.length];simp
 have m:∀j (n:j<d_.toArray.size) (h2:j<p_.toArray.size),SeqAt.EqAt A.in1 s d_.toArray[j] p_.toArray[j] (eqD ((ds[j]?).getD .non) ((es[j]?).getD .non)):=λj n h2=>by
  obtain⟨d,v,e1,r,t⟩:=gK c g n;obtain⟨e,u,e2,w,y⟩:=gK f k h2;rw[e1,e2]
  have:=ie e1
  exact uG 30 d e I (by omega) (by rw[units_in1];omega) (bJ o e1) (bJ p e2) r w t y
 have e:eqDs ds es=((List.range (min d_.toArray.size p_.toArray.size)).all (λj=>eqD ((ds[j]?).getD .non) ((es[j]?).getD .non))&&d_.toArray.size==p_.toArray.size):=by rw[jK,l1,l2]
 rw[e];exact⟨SeqAt.RcAt.tuples tp l (by omega) m,SeqAt.RcNeAt.tuples tp l (by omega) m⟩
theorem BC{A:Around}{s:Shared}{a_:Zg}{ρ:L2.St}{ds es:List D}{vs us:List V}{d_ p_:Zh}{a b:Addr}(I:Inv X a_ ρ H s)(hd:bB ds<=30)(hu:A.units+40<cLine)(p:aN ds=true)(r:aN es=true)
  (f:RVs X.K H ds vs) (g:RVs X.K H es us) (k:Vals vs d_) (l:Vals us p_) (tp:s.heap.IsList a d_.toArray) (c:s.heap.IsList b p_.toArray):Rc2 A s (.ref a) (.ref b) (eqDs ds es):=by
 have l1:d_.toArray.size=ds.length:=by rw[f.len,k.length];simp
 have l2:p_.toArray.size=es.length:=by rw[g.len,l.length];simp
 have m:∀j (n:j<d_.toArray.size) (h2:j<p_.toArray.size),SeqAt.EqAt A.in1 s d_.toArray[j] p_.toArray[j] (eqD ((ds[j]?).getD .non) ((es[j]?).getD .non)):=λj n h2=>by
  obtain⟨d,v,e1,t,w⟩:=gK f k n;obtain⟨e,u,e2,y,z⟩:=gK g l h2;rw[e1,e2]
  have:=ie e1
  exact uG 30 d e I (by omega) (by rw[units_in1];omega) (bJ p e1) (bJ r e2) t y w z
 by_cases hl:ds.length=es.length
 ·have e:eqDs ds es=(List.range d_.toArray.size).all (λj=>eqD ((ds[j]?).getD .non) ((es[j]?).getD .non)):=by rw[jK,l1,hl,Nat.min_self];simp
  rw[e];exact⟨SeqAt.RcAt.lists tp c (by omega) (by omega) m,SeqAt.RcNeAt.lists tp c (by omega) (by omega) m⟩
 ·have e:eqDs ds es=false:=by rw[jK];simp[hl]
  rw[e];have o:(d_.toArray.size != p_.toArray.size)=true:=by rw[l1,l2];simpa using hl
  exact⟨SeqAt.RcAt.lists_lengths tp c o (by omega),SeqAt.RcNeAt.lists_lengths tp c o (by omega)⟩
theorem rc_D{s:Shared}{a_:Zg}{ρ:L2.St}{M:MH}{x y:D}{v u:V}{E F:Value}{Q:Bool->Prop}(I:Inv X a_ ρ H s)(hu:X.A.units+40<cLine)(l:RV X.K H x v)(c:RV X.K H y u)(m:RM X.K M H)(r:RelV v E)(d:RelV u F)(h:dEq x y M Q):
  ∃b,Rc2 X.A s E F b/\Q b:=by
 have L:aK x=true->aK y=true->depD x<=30->Q (eqD x y)->∃b,Rc2 X.A s E F b/\Q b:=λG k hd q=>by
  rcases dA G with f | ⟨ds,rfl⟩
  ·rcases dA k with g | ⟨es,rfl⟩
   ·exact⟨_,zX f g l c r d,q⟩
   ·obtain⟨b,us,rfl,sq,n⟩:=RV.tup_.1 c
    obtain⟨d_,o,tp,_⟩:=I.tuple sq;cases d;rw[(nk f).2] at q;exact⟨false,(rR (X:=X) (a_:=a_) (ρ:=ρ) (by omega) f (.inl (show s.heap.IsTuple b d_.toArray from tp)) l r).2,q⟩
  ·obtain⟨a,vs,rfl,sq,n⟩:=RV.tup_.1 l
   obtain⟨d_,o,tp,_⟩:=I.tuple sq;cases r;rcases dA k with g | ⟨es,rfl⟩
   ·rw[(nk g).1] at q
    exact⟨false,(rR (X:=X) (a_:=a_) (ρ:=ρ) (by omega) g (.inl (show s.heap.IsTuple a d_.toArray from tp)) c d).1,q⟩
   ·obtain⟨b,us,rfl,p,t⟩:=RV.tup_.1 c
    obtain⟨p_,z,j,_⟩:=I.tuple p;cases d;rw[aK] at G k;rw[depD] at hd;rw[eqD] at q;exact⟨_,Ef I (by omega) hu G k n t o z (show s.heap.IsTuple a d_.toArray from tp) (show s.heap.IsTuple b p_.toArray from j),q⟩
 have J:∀{a:Addr}{w:V}{B:Value}{y:D}{xs:List D},rdL (M a)=some xs->RV X.K H y w->RelV w B->aK y=true->(Rc2 X.A s (.ref a) B false/\Rc2 X.A s B (.ref a) false):=λ{a w B y xs} hl c d k=>by
  obtain⟨vs,sq,n⟩:=m.list hl;obtain⟨d_,o,tp,_⟩:=I.list sq;rcases dA k with g | ⟨es,rfl⟩
  ·have:=rR (X:=X) (a_:=a_) (ρ:=ρ) (A:=X.A) (by omega) g (.inr tp.isList) c d
   exact⟨this.1,this.2⟩
  ·obtain⟨b,us,rfl,p,t⟩:=RV.tup_.1 c
   obtain⟨p_,z,j,_⟩:=I.tuple p;cases d;have j:s.heap.IsTuple b p_.toArray:=j;exact⟨⟨SeqAt.RcAt.list_tuple tp.isList j (by omega),SeqAt.RcNeAt.list_tuple tp.isList j (by omega)⟩,⟨SeqAt.RcAt.tuple_list j tp.isList (by omega),SeqAt.RcNeAt.tuple_list j tp.isList (by omega)⟩⟩
 cases x with
 |ref a=>
  cases RV.ref_.1 l;cases r;cases y with
  |ref b=>
   cases RV.ref_.1 c;cases d;have h:match rdL (M a),rdL (M b) with
    |some xs,some C=>(aN xs=true/\aN C=true/\bB xs<=30)/\Q (eqDs xs C)
    |_,_=>False:=h
   split at h
   ·rename_i xs C e1 e2
    obtain⟨vs,sq,n⟩:=m.list e1;obtain⟨us,p,t⟩:=m.list e2;obtain⟨d_,o,tp,_⟩:=I.list sq;obtain⟨p_,z,j,_⟩:=I.list p;exact⟨_,BC I h.1.2.2 hu h.1.1 h.1.2.1 n t o z tp.isList j.isList,h.2⟩
   ·exact Yh h
  |_=>
   simp only[dEq] at h;split at h
   ·rename_i xs e1
    exact⟨false,(J e1 c d h.1).1,h.2⟩
   ·exact Yh h
 |_=>
  cases y with
  |ref b=>
   cases RV.ref_.1 c;cases d;simp only[dEq] at h;split at h
   ·rename_i C e1
    exact⟨false,(J e1 l r h.1).2,h.2⟩
   ·exact Yh h
  |_=>exact L h.1.1 h.1.2.1 h.1.2.2 h.2
def dEqV:D->D->MH->DK->Prop:=λx y M Q=>dEq x y M λb=>Q (.bl b) M
def dNeV:D->D->MH->DK->Prop:=λx y M Q=>dEq x y M λb=>Q (.bl (!b)) M
theorem FP(hu:X.A.units+40<cLine):OpD X (compareOp .Eq) dEqV:=by
 intro x y v u H M Q c d a h a_ s ρ j k I r f;obtain⟨b,g,q⟩:=rc_D I hu c d a r f h;exact g.1 _ _ _ _ ⟨.bl b,H,I,rfl,ax (RV.bl_.2 rfl) a q⟩
theorem FQ(hu:X.A.units+40<cLine):OpD X (compareOp .NotEq) dNeV:=by
 intro x y v u H M Q c d a h a_ s ρ j k I r f;obtain⟨b,g,q⟩:=rc_D I hu c d a r f h;exact g.2 _ _ _ _ ⟨.bl (!b),H,I,rfl,ax (RV.bl_.2 rfl) a q⟩
end
section
variable {X:Cx}{H:Hp}{e a b c:Expr}{es:Zl}{pos:Pos}
noncomputable def qk(K:Za)(H:Hp)(ds:List D)(x:D)(y:Value):Bool:=@decide (∃d v,d∈ds/\RV K H d v/\RelV v y/\eqD d x=true) (Classical.propDecidable _)
theorem sR{a_:Zg}{ρ:L2.St}{s:Shared}{ds:List D}{x d:D}{v:V}{y:Value}(I:Inv X a_ ρ H s)(g:aN ds=true)(hd:d∈ds)(r:RV X.K H d v)(f:RelV v y):qk X.K H ds x y=eqD d x:=by
 have pg:∀d∈ds,aK d=true:=λd h=>let⟨i,hi⟩:=XY h;bJ g hi
 unfold qk;cases q:eqD d x with
 |true=>exact @decide_eq_true _ (Classical.propDecidable _) ⟨d,v,hd,r,f,q⟩
 |false=>
  refine @decide_eq_false _ (Classical.propDecidable _) ?_;rintro⟨d',v',JJ,r1,r2,q'⟩
  have:=L2.RelV.inj r2 f
  subst this
  have:=uF I d' d (pg d' JJ) (pg d hd) r1 r
  subst this;rw[q] at q';cases q'
theorem sU{K:Za}{x:D}{f:Value->Bool}:∀{ds:List D}{vs:List V}{d_:Zh},RVs K H ds vs->Vals vs d_->(∀d v u,d∈ds->RV K H d v->RelV v u->f u=eqD d x)->d_.any f=ds.any λd=>eqD d x
 |[],vs,d_,r,g,_=>by
  rw[RVs] at r;subst r;cases g;rfl
 |d::ds,vs,d_,r,g,h=>by
  rw[RVs] at r;obtain⟨v,p,rfl,j,k⟩:=r;cases g with
  |cons l m=>rw[XM,XM,h d v _ (YC) j l,sU k m λd' n o hd=>h d' n o (YD _ hd)]
theorem sV{K:Za}:∀{ds:List D}{vs:List V}{d_:Zh}{y:Value},RVs K H ds vs->Vals vs d_->y∈d_->∃d v,d∈ds/\RV K H d v/\RelV v y
 |[],vs,d_,y,r,f,hy=>by rw[RVs] at r;subst r;cases f;cases hy
 |d::ds,vs,d_,y,r,f,hy=>by
  rw[RVs] at r;obtain⟨v,o,rfl,g,j⟩:=r;cases f with
  |cons k l=>
   rcases YE.mp hy with rfl | hy
   ·exact⟨d,v,YC,g,k⟩
   ·obtain⟨d',m,n,h2⟩:=sV j l hy
    exact⟨d',m,YD _ n,h2⟩
def keyD:D->Option Key
 |.int i=>some (.inl i)
 |.str x=>some (.inr x)
 |_=>none
theorem xm{K:Za}{d:D}{k:Key}{v:V}(h:keyD d=some k)(r:RV K H d v):v=kV k:=by
 cases d with
 |int i=>cases h;exact RV.int_.1 r
 |str i=>cases h;exact RV.str_.1 r
 |_=>cases h
def valD(d:Z3)(k:Key):Option D:=(d.find? λf=>decide (f.1=k)).map (·.2)
theorem o7{k:Key}:∀{d:Z3}{f:List (Key×V)},f.map (·.1)=d.map (·.1)->(valV f k).isSome=(valD d k).isSome
 |[],[],_=>rfl
 |[],_::_,e=>by cases e
 |_::_,[],e=>by cases e
 |(j,l)::d,(g,m)::f,e=>by
  simp only[YO,List.cons.injEq] at e;obtain⟨e1,e2⟩:=e;subst e1;unfold valV valD;rw[XJ,XJ];by_cases q:g=k
  ·simp only[YY q,Option.map_some,Option.isSome_some]
  ·simp only[ZT q]
   exact o7 e2
def rdD:Option MO->Option (List (Key×D))
 |some (.dic d)=>some d
 |some (.rod d)=>some d
 |_=>none
theorem RM.dict{K:Za}{H:Hp}{M:MH}{a:Addr}{f:Z3}(m:RM K M H)(h:rdD (M a)=some f):∃d:List (Key×V),Rd H a (.dK d)/\d.map (·.1)=f.map (·.1)/\RVs K H (f.map (·.2)) (d.map (·.2)):=by
 cases e:M a with
 |none=>rw[e] at h;cases h
 |some o=>
  rw[e] at h;cases o with
  |dic xs=>cases h;obtain⟨d,q,r⟩:=m a _ e;exact⟨d,.inl q,r⟩
  |rod xs=>cases h;obtain⟨u,d,q,r⟩:=m a _ e;exact⟨d,.inr ⟨u,q⟩,r⟩
  |_=>cases h
def inD(x:D)(ds:List D):Bool:=ds.any λd=>eqD d x
def n0{d:Type}(o:Option d)(Q:d->Prop):Prop:=match o with
 |some x=>Q x
 |none=>False
theorem uH{d:Type}{o:Option d}{Q:d->Prop}(h:n0 o Q):∃x,o=some x/\Q x:=by
 cases o with
 |none=>exact Yh h
 |some x=>exact⟨x,rfl,h⟩
def dInP(x y:D)(M:MH)(Q:Bool->Prop):Prop:=match y with
 |.tup ds=>(aK x=true/\aN ds=true/\bB ds<=30)/\Q (inD x ds)
 |.ref a=>match rdL (M a) with
  |some ds=>(aK x=true/\aN ds=true/\bB ds<=30)/\Q (inD x ds)
  |none=>n0 (rdD (M a)) λd=>n0 (keyD x) λk=>Q (valD d k).isSome
 |.str j=>match x with
  |.str i=>Q (!(Builtin.Str.occurrences j i 0 j.length 1).isEmpty)
  |_=>False
 |_=>False
theorem in_D{s:Shared}{a_:Zg}{ρ:L2.St}{M:MH}{x y:D}{v u:V}{C G:Value}{Q:Bool->Prop}(I:Inv X a_ ρ H s)(hu:X.A.units+40<cLine)(J:RV X.K H x v)(L:RV X.K H y u)(m:RM X.K M H)(r:RelV v C)(O:RelV u G)(h:dInP x y M Q):
  ∃k,Q k/\(∀(f:Zd),(∀l,Inv X a_ ρ H l->f (.bool k) l)->wpAny (model X.prog X.w) X.A (compareOp .In C G) f X.xe s)/\(∀(f:Zd),(∀l,Inv X a_ ρ H l->f (.bool (!k)) l)->wpAny (model X.prog X.w) X.A (compareOp .NotIn C G) f X.xe s):=by
 have p:∀{ds:List D}{vs:List V}{d_:Zh},aK x=true->aN ds=true->bB ds<=30->RVs X.K H ds vs->Vals vs d_ ->
   (∀y,y∈d_.toArray->SeqAt.EqAt X.A.in1 s y C (qk X.K H ds x y))/\d_.toArray.any (qk X.K H ds x)=inD x ds:=λ{ds vs d_} Y R hd n o=>by
  refine⟨λy hy=>?_,?_⟩
  ·obtain⟨d,Z,E,h2,F⟩:=sV n o (by simpa using hy)
   rw[sR I R E h2 F];obtain⟨i,hi⟩:=XY E
   have:=ie hi
   exact uG 30 d x I (by omega) (by rw[units_in1];omega) (bJ R hi) Y h2 J F r
  ·rw[List.any_toArray]
   exact sU n o λd Z u E h2 F=>sR I R E h2 F
 cases y with
 |tup ds=>
  obtain⟨b,us,rfl,sq,n⟩:=RV.tup_.1 L;obtain⟨d_,o,tp,_⟩:=I.tuple sq;cases O;obtain⟨z,B⟩:=p h.1.1 h.1.2.1 h.1.2.2 n o;have tp:s.heap.IsTuple b d_.toArray:=tp;exact⟨_,h.2,λf q=>SeqAt.in_tupleAt _ tp z (by rw[B];exact q s I),λf q=>SeqAt.notIn_tupleAt _ tp z (by rw[B];exact q s I)⟩
 |ref b=>
  cases RV.ref_.1 L;cases O;have h:match rdL (M b) with
   |some ds=>(aK x=true/\aN ds=true/\bB ds<=30)/\Q (inD x ds)
   |none=>n0 (rdD (M b)) λT=>n0 (keyD x) λk=>Q (valD T k).isSome:=h
  split at h
  ·rename_i ds e1
   obtain⟨vs,sq,n⟩:=m.list e1;obtain⟨d_,o,tp,_⟩:=I.list sq;obtain⟨z,B⟩:=p h.1.1 h.1.2.1 h.1.2.2 n o;exact⟨_,h.2,λf q=>SeqAt.in_listAt _ tp.isList z (by rw[B];exact q s I),λf q=>SeqAt.notIn_listAt _ tp.isList z (by rw[B];exact q s I)⟩
  ·obtain⟨T,e1,h⟩:=uH h
   obtain⟨k,e2,h⟩:=uH h;obtain⟨U,e3,W,_⟩:=m.dict e1
   have:=xm e2 J
   subst this;have g:DGet H b (kV k) (valV U k):=.inl ⟨U,k,e3,rfl,rfl⟩;refine⟨_,h,λf q=>d_in (by omega) I g r λl S=>?_,λf q=>Dz (by omega) I g r λl S=>?_⟩
   ·rw[o7 W];exact q l S
   ·rw[o7 W];exact q l S
 |str j=>
  cases RV.str_.1 L;cases x with
  |str i=>
   cases RV.str_.1 J;obtain⟨t,rfl⟩:=r;obtain⟨t',rfl⟩:=O;exact⟨_,h,λf q=>P.in_str (q s I),λf q=>notIn_str (q s I)⟩
  |_=>exact Yh h
 |_=>exact Yh h
def dInV:R2d:=λx y M Q=>dInP x y M λb=>Q (.bl b) M
def rS:R2d:=λx y M Q=>dInP x y M λb=>Q (.bl (!b)) M
theorem FR(hu:X.A.units+40<cLine):OpD X (compareOp .In) dInV:=by
 intro x y v u H M Q f g d h a_ s ρ m n I r j;obtain⟨b,q,k,_⟩:=in_D I hu f g d r j h;exact k _ λo l=>⟨.bl b,H,l,rfl,ax (RV.bl_.2 rfl) d q⟩
theorem zY(hu:X.A.units+40<cLine):OpD X (compareOp .NotIn) rS:=by
 intro x y v u H M Q f g d h a_ s ρ m n I r j;obtain⟨b,q,_,k⟩:=in_D I hu f g d r j h;exact k _ λo l=>⟨.bl (!b),H,l,rfl,ax (RV.bl_.2 rfl) d q⟩
def t9:D->Bool
 |.non=>true
 |_=>false
def isBl:D->Bool
 |.bl _=>true
 |_=>false
def isB:Bool->D->Bool
 |true,.bl a=>a
 |false,.bl a=>!a
 |_,_=>false
def isW(x y:D):Bool:=match y with
 |.non=>true
 |.bl _=>isBl x
 |_=>false
def yw(x y:D):Bool:=match y with
 |.non=>t9 x
 |.bl b=>isB b x
 |_=>false
def dIsV:R2d:=λx y M Q=>isW x y=true/\Q (.bl (yw x y)) M
def rT:R2d:=λx y M Q=>isW x y=true/\Q (.bl (!yw x y)) M
theorem o8{K:Za}{x:D}{v:V}(r:RV K H x v):decide (v=.non)=t9 x:=by
 cases x with
 |non=>cases RV.non_.1 r;rfl
 |tup ds=>obtain⟨a,xs,rfl,_⟩:=RV.tup_.1 r;rfl
 |bl _=>cases RV.bl_.1 r;rfl
 |int _=>cases RV.int_.1 r;rfl
 |str _=>cases RV.str_.1 r;rfl
 |ref _=>cases RV.ref_.1 r;rfl
 |ty _=>cases RV.ty_.1 r;rfl
theorem FS(a b:Bool):(a==b)=isB b (.bl a):=by cases a<;>cases b<;>rfl
theorem FT:OpD X (compareOp .Is) dIsV:=by
 intro x y v u H M Q d f g h;obtain⟨j,h2⟩:=h;cases y with
 |non=>
  cases RV.non_.1 f;exact d3 Fp ⟨rfl,by rw[o8 d];exact ax (RV.bl_.2 rfl) g h2⟩
 |bl b=>
  cases x with
  |bl a=>
   cases RV.bl_.1 d;cases RV.bl_.1 f;intro a_ s ρ l m I r k;cases r;cases k;refine is_bool ?_;rw[FS];exact⟨.bl (isB b (.bl a)),H,I,rfl,ax (RV.bl_.2 rfl) g h2⟩
  |_=>cases j
 |_=>cases j
theorem zZ:OpD X (compareOp .IsNot) rT:=by
 intro x y v u H M Q d f g h;obtain⟨j,h2⟩:=h;cases y with
 |non=>
  cases RV.non_.1 f;exact d3 Di ⟨rfl,by rw[o8 d];exact ax (RV.bl_.2 rfl) g h2⟩
 |bl b=>
  cases x with
  |bl a=>
   cases RV.bl_.1 d;cases RV.bl_.1 f;intro a_ s ρ l m I r k;cases r;cases k;refine isnot_bool ?_;rw[show(a != b) = !isB b (.bl a) by cases a<;>cases b<;>rfl];exact⟨.bl (!isB b (.bl a)),H,I,rfl,ax (RV.bl_.2 rfl) g h2⟩
  |_=>cases j
 |_=>cases j
def dLt:D->D->MH->DK->Prop
 |.int i,.int j,M,Q=>Q (.bl (decide (i<j))) M
 |.tup [.int a,.int b],.tup [.int c,.int d],M,Q=>Q (.bl (decide (a<c\/a=c/\b<d))) M
 |_,_,_,_=>False
theorem lex2(a b c d:Int):HT.lexLt [a,b] [c,d]=decide (a<c\/a=c/\b<d):=by
 rw[HT.lL,HT.lL,HT.my];split
 ·rename_i e
  subst e;split
  ·rename_i e
   subst e;simp
  ·simp
 ·rename_i e
  simp[e]
theorem CU{K:Za}{H:Hp}{a b:Int}{vs:List V}{d_:Zh}(r:RVs K H [.int a,.int b] vs)(v:Vals vs d_):IntsAre d_.toArray.toList [a,b]:=by
 rw[RVs] at r;obtain⟨x,k,rfl,g,d⟩:=r;rw[RVs] at d;obtain⟨y,l,rfl,j,f⟩:=d;rw[RVs] at f;subst f;cases RV.int_.1 g;cases RV.int_.1 j;exact intsAre_of (ns:=[a,b]) v
theorem FU(hu:X.A.units+40<cLine):OpD X (compareOp .Lt) dLt:=by
 intro x y v u H M Q d f k h;unfold dLt at h;split at h
 ·exact qj (g:=λi j=>decide (i<j)) GQ _ _ v u H _ _ d f k h
 ·obtain⟨p,us,rfl,sq,l⟩:=RV.tup_.1 d
  obtain⟨q,B,rfl,m,n⟩:=RV.tup_.1 f;intro a_ s ρ C E I r o;obtain⟨d_,t,tp,_⟩:=I.tuple sq;obtain⟨p_,w,z,_⟩:=I.tuple m;cases r;cases o;refine HT.x5 tp z (CU l t) (CU n w) (by omega) ?_;rw[lex2];exact⟨.bl _,H,I,rfl,ax (RV.bl_.2 rfl) k h⟩
 ·exact Yh h
def dCmp:CmpOp->R2d
 |.Eq=>dEqV
 |.NotEq=>dNeV
 |.Lt=>dLt
 |.LtE=>dIB λi j=>decide (i<=j)
 |.Gt=>dIB λi j=>decide (j<i)
 |.GtE=>dIB λi j=>decide (j<=i)
 |.Is=>dIsV
 |.IsNot=>rT
 |.In=>dInV
 |.NotIn=>rS
theorem xn(hu:X.A.units+40<cLine)(op:CmpOp):OpD X (compareOp op) (dCmp op):=by
 cases op with
 |Eq=>exact FP hu
 |NotEq=>exact FQ hu
 |Lt=>exact FU hu
 |LtE=>exact qj GR
 |Gt=>exact qj GS
 |GtE=>exact qj GT
 |Is=>exact FT
 |IsNot=>exact zZ
 |In=>exact FR hu
 |NotIn=>exact zY hu
def xW(X:Cx):R2:=λx y H Q=>∀f d a_ s ρ v u,Inv X a_ ρ H s->RelV x v->RelV y u->subscripted d false v u=operate [v,u] (getItem v u)->wpAny (model X.prog X.w) X.A (subscriptTail f d v u) (EP X a_ ρ Q) X.xe s
theorem ix_W:IxR X (xW X):=λd f a_ s σ _ _ _ v u _ I g j h k=>h d f a_ s σ v u I g j k
theorem j9{r:R2}{x y:V}{Q:VK}(h:IxR X r)(q:r x y H Q):xW X x y H Q:=λd f a_ s ρ v u I g j k=>h d f a_ s ρ H x y v u Q I g j q k
theorem Eg{x y:V}{Q j:VK}(h:xW X x y H Q)(g:∀v H',Q v H'->j v H'):xW X x y H j:=λd f a_ s ρ v u I k l m=>thn (h d f a_ s ρ v u I k l m) λ_ _ ⟨v,H',n,r,q⟩=>⟨v,H',n,r,g v H' q⟩
theorem n5(hu:X.A.units+1<cLine):IxR X (λx y H Q=>∃a v,x=.ref a/\DGet H a y (some v)/\Q v H):=by
 intro d f a_ s σ H x y v u Q I j k h l;obtain⟨a,z,rfl,g,q⟩:=h;cases j;exact tail_any (wb I g) PySem.F.slot_dict_getitem.lookup (zD hu I g k λo p m n=>⟨z,H,m,n,q⟩) l
theorem lg{K:Za}:∀{f:Z3}{g:List (Key×V)}{k:Key}{d:D},g.map (·.1)=f.map (·.1)->RVs K H (f.map (·.2)) (g.map (·.2))->valD f k=some d->∃v,valV g k=some v/\RV K H d v
 |[],_,_,_,_,_,h=>by cases h
 |(k',d')::f,[],_,_,e,_,_=>by cases e
 |(k',d')::f,(j,l)::g,k,d,e,r,h=>by
  simp only[YO,List.cons.injEq] at e;obtain⟨e1,e2⟩:=e;subst e1;simp only[YO] at r;rw[RVs] at r;obtain⟨v,vs,z,m,n⟩:=r;cases z;unfold valD at h;unfold valV;rw[XJ] at h ⊢;by_cases q:j=k
  ·simp only[YY q,Option.map_some] at h ⊢
   cases h;exact⟨l,rfl,m⟩
  ·simp only[ZT q] at h ⊢
   exact lg e2 n h
def optD{d:Type}(o:Option d)(Q:d->Prop):Prop:=match o with
 |some x=>Q x
 |none=>False
theorem aL{d:Type}{o:Option d}{Q:d->Prop}(h:optD o Q):∃x,o=some x/\Q x:=by
 cases o with
 |none=>exact Yh h
 |some x=>exact⟨x,rfl,h⟩
def dIx:R2d:=λx y M Q=>match x,y with
 |.tup ds,.int i=>optD (atI ds i) λd=>Q d M
 |.str z,.int i=>z.length<=sizeLine/\optD (atI z.cps.toList i) λc=>Q (.str ⟨#[c]⟩) M
 |.ref a,.int i=>match M a with
  |some (.lst ds)=>optD (atI ds i) λd=>Q d M
  |some (.rol ds)=>optD (atI ds i) λd=>Q d M
  |some (.dic f)=>optD (valD f (.inl i)) λd=>Q d M
  |some (.rod f)=>optD (valD f (.inl i)) λd=>Q d M
  |_=>False
 |.ref a,.str k=>match M a with
  |some (.dic f)=>optD (valD f (.inr k)) λd=>Q d M
  |some (.rod f)=>optD (valD f (.inr k)) λd=>Q d M
  |_=>False
 |_,_=>False
theorem uI{K:Za}{ds:List D}{vs:List V}{i:Int}{d:D}(f:RVs K H ds vs)(h:atI ds i=some d):∃v,atI vs i=some v/\RV K H d v:=by
 unfold atI at h ⊢;rw[←f.len];cases q:ixN ds.length i with
 |none=>rw[q] at h;cases h
 |some j=>
  rw[q] at h;obtain⟨v,g,r⟩:=cM f.p (show ds[j]?=some d from h);exact⟨v,g,r⟩
theorem ixd(hu:X.A.units+40<cLine){x y:D}{v u:V}{M:MH}{Q:DK}(w:RV X.K H x v)(t:RV X.K H y u)(f:RM X.K M H)(h:dIx x y M Q):xW X v u H (lift X.K H Q):=by
 cases x with
 |tup ds=>cases y with
  |int i=>
   obtain⟨d,e1,q⟩:=aL h;obtain⟨a,vs,rfl,sq,g⟩:=RV.tup_.1 w;cases RV.int_.1 t;obtain⟨j,e2,r⟩:=uI g e1;exact j9 Fx ⟨a,vs,i,j,rfl,rfl,sq,e2,ax r f q⟩
  |_=>exact Yh h
 |str z=>cases y with
  |int i=>
   obtain⟨C,h⟩:=h;obtain⟨c,e1,q⟩:=aL h;cases RV.str_.1 w;cases RV.int_.1 t;exact j9 Fy ⟨z,i,c,rfl,rfl,C,e1,ax (RV.str_.2 rfl) f q⟩
  |_=>exact Yh h
 |ref a=>
  cases RV.ref_.1 w;cases y with
  |int i=>
   cases RV.int_.1 t;have h:match M a with
    |some (.lst ds)=>optD (atI ds i) λd=>Q d M
    |some (.rol ds)=>optD (atI ds i) λd=>Q d M
    |some (.dic l)=>optD (valD l (.inl i)) λd=>Q d M
    |some (.rod l)=>optD (valD l (.inl i)) λd=>Q d M
    |_=>False:=h
   split at h
   ·rename_i ds m
    obtain⟨d,e1,q⟩:=aL h;obtain⟨vs,e2,g⟩:=f a _ m;obtain⟨j,n,r⟩:=uI g e1;exact j9 wZ ⟨a,vs,i,j,rfl,rfl,SqL.of e2,n,ax r f q⟩
   ·rename_i ds m
    obtain⟨d,e1,q⟩:=aL h;obtain⟨vs,e2,g⟩:=f a _ m;obtain⟨j,n,r⟩:=uI g e1;exact j9 wZ ⟨a,vs,i,j,rfl,rfl,.inl e2,n,ax r f q⟩
   ·rename_i l m
    obtain⟨d,e1,q⟩:=aL h;obtain⟨p,e2,n,g⟩:=f a _ m;obtain⟨j,o,r⟩:=lg n g e1;exact j9 (n5 (by omega)) ⟨a,j,rfl,by rw[←o];exact DGet.k (k:=.inl i) e2,ax r f q⟩
   ·rename_i l m
    obtain⟨d,e1,q⟩:=aL h;obtain⟨B,p,e2,n,g⟩:=f a _ m;obtain⟨j,o,r⟩:=lg n g e1;exact j9 (n5 (by omega)) ⟨a,j,rfl,by rw[←o];exact .inl ⟨p,.inl i,.inr ⟨B,e2⟩,rfl,rfl⟩,ax r f q⟩
   ·exact Yh h
  |str k=>
   cases RV.str_.1 t;have h:match M a with
    |some (.dic l)=>optD (valD l (.inr k)) λd=>Q d M
    |some (.rod l)=>optD (valD l (.inr k)) λd=>Q d M
    |_=>False:=h
   split at h
   ·rename_i l m
    obtain⟨d,e1,q⟩:=aL h;obtain⟨p,e2,n,g⟩:=f a _ m;obtain⟨j,o,r⟩:=lg n g e1;exact j9 (n5 (by omega)) ⟨a,j,rfl,by rw[←o];exact DGet.k (k:=.inr k) e2,ax r f q⟩
   ·rename_i l m
    obtain⟨d,e1,q⟩:=aL h;obtain⟨B,p,e2,n,g⟩:=f a _ m;obtain⟨j,o,r⟩:=lg n g e1;exact j9 (n5 (by omega)) ⟨a,j,rfl,by rw[←o];exact .inl ⟨p,.inr k,.inr ⟨B,e2⟩,rfl,rfl⟩,ax r f q⟩
   ·exact Yh h
  |_=>exact Yh h
 |_=>exact Yh h
def jL:Expr->Bool
 |.Slice _ _ _ _=>false
 |_=>true
theorem Eh(h:jL b=true):wY b:=by
 intro o i;cases b<;>first | rfl | (exact absurd (show false=true from h) YI)
theorem FV(hu:X.A.units+40<cLine){d f:WE}(ha:PEd X a d)(hb:PEd X b f)(g:jL b=true):PEd X (.Subscript a b pos) (wOp dIx d f):=by
 intro σ M ρ H Q rs j h;refine bn (G0 ix_W (pe_W a) (pe_W b) (Eh g)) ?_;show tW X a ρ H _;refine aC (two ha hb rs j h) λv l m=>?_
 show tW X b ρ l _;refine aC m λu t n=>?_
 obtain⟨k,x,y,M2,o,p,r,q⟩:=n;exact Eg (ixd hu o p r q) λ_ _=>bv k
end
end DD
namespace HT
open PySem PySem.Spec PyProof.Rows L2
section
variable {prog:ZS}{w:World}{A:Around}{E:Zd}{s:Shared}
theorem oI{t sl:Addr}{a:Zq}{b c:Value}{lo hi:Zv}{Q:Zd}(ht:IsTup s.heap t a)(d:s.heap.IsSliceOf sl b c .none)(pl:IsPart b lo)(f:IsPart c hi)
  (hw:sIx a.size 0 lo=0/\sIx a.size a.size hi=a.size) (h:Q (.ref t) s):wpAny (model prog w) A (getItem (.ref t) (.ref sl)) Q E s:=by
 obtain⟨os,g,j,l⟩:=id d;have k:s.TypeIs (.ref sl) "slice":=⟨os,g,j⟩;unfold getItem;try with_reducible refine Yj ?_
 first | refine Yb (Yc ?_) | skip
 refine Yb (wpAny_sequenceKey ht.typeIs (by decide) ?_);refine Yb (wpAny_callSpecial?_slot (name:=Str.ofString "__getitem__") ht.typeIs PyProof.Rows.slot_tuple_getitem
  (wpAny_call_entry PyProof.Rows.slot_tuple_getitem ht.typeIs entry_tuple_getitem ?_ (args_tuple_getitem _ _)))
 show wpAny _ _ (Builtin.Tuple.tupleItemsOf (.ref t) >>= _) _ _ s;refine Yb (tupleItemsOf_ ht ?_);refine Yb (wpAny_typeOf k ?_);rw[if_pos (by decide)];refine Yb (jA d pl f ?_);show wpAny _ _ (if(((sIx a.size 0 lo:Nat):Int)==0&&(1:Int)==1&&(sIx a.size a.size hi-sIx a.size 0 lo)==a.size)=true then _ else _) _ _ s;rw[if_pos (by rw[hw.1,hw.2];simp)];refine Yb (m:=Builtin.Tuple.tupleIsExact _) (Yb (wpAny_typeOf ht.typeIs (Yc ?_)));rw[if_pos (by decide)];refine Yb (wpAny_rule ?_);exact Yc ⟨_,rfl,Yc h⟩
end
end HT
namespace DD
open PySem PySem.Spec PyProof.Rows L2
section
variable {X:Cx}{H:Hp}{e a b c o:Expr}{es:Zl}{pos:Pos}
theorem FW:SlR X (λx lo hi H Q=>∃z,x=.str z/\z.length<=sizeLine/\Q (.str (Txt.slice z lo hi)) H):=by
 intro a_ s σ H x v w y lo hi sl Q I p r pl m h;obtain⟨z,rfl,hz,q⟩:=h;obtain⟨t,rfl⟩:=p;obtain⟨d,f,h2,g⟩:=r;refine⟨"str",_,F.slot_str_getitem.lookup,typeIs_str _ _ _,?_⟩;cases pl with
 |none=>cases m with
  |none=>exact wpAny_getItem_str_slice (l:=none) (u:=none) (st:=none) ⟨d,f,h2,g⟩ rfl (post_val_or_str ⟨YA (Txt.slice_le z _ _) hz,λt' k=>⟨.str _,H,I.tok _,⟨t',rfl⟩,q⟩⟩)
  |int j u=>exact wpAny_getItem_str_slice (l:=none) (u:=some (j,u)) (st:=none) ⟨d,f,h2,g⟩ rfl (post_val_or_str ⟨YA (Txt.slice_le z _ _) hz,λt' k=>⟨.str _,H,I.tok _,⟨t',rfl⟩,q⟩⟩)
 |int i n=>cases m with
  |none=>exact wpAny_getItem_str_slice (l:=some (i,n)) (u:=none) (st:=none) ⟨d,f,h2,g⟩ rfl (post_val_or_str ⟨YA (Txt.slice_le z _ _) hz,λt' k=>⟨.str _,H,I.tok _,⟨t',rfl⟩,q⟩⟩)
  |int j u=>exact wpAny_getItem_str_slice (l:=some (i,n)) (u:=some (j,u)) (st:=none) ⟨d,f,h2,g⟩ rfl (post_val_or_str ⟨YA (Txt.slice_le z _ _) hz,λt' k=>⟨.str _,H,I.tok _,⟨t',rfl⟩,q⟩⟩)
def slW(X:Cx):V->Option Int->Option Int->Hp->VK->Prop:=λx lo hi H Q=>∀a_ s ρ v d f sl,Inv X a_ ρ H s->RelV x v->s.heap.IsSliceOf sl d f .none->IsPart d lo->IsPart f hi ->
 ∃T id,typeLookup (.type T) "__getitem__" = pure (some (.builtin id))/\s.TypeIs v T/\wpAny (model X.prog X.w) X.A (getItem v (.ref sl)) (EP X a_ ρ Q) X.xe s
theorem sl_W:SlR X (slW X):=λa_ s σ _ _ v d f _ _ sl _ I g j pl k h=>h a_ s σ v d f sl I g j pl k
theorem ql{r:V->Option Int->Option Int->Hp->VK->Prop}{x:V}{lo hi:Zv}{Q:VK}(h:SlR X r)(q:r x lo hi H Q):slW X x lo hi H Q:=λa_ s ρ v d f sl I g j pl k=>h a_ s ρ H x v d f lo hi sl Q I g j pl k q
theorem BD{x:V}{lo hi:Zv}{Q d:VK}(h:slW X x lo hi H Q)(g:∀v H',Q v H'->d v H'):slW X x lo hi H d:=λa_ s ρ v f j sl I k l pl m=>
 let⟨T,id,h1,h2,h3⟩:=h a_ s ρ v f j sl I k l pl m;⟨T,id,h1,h2,thn h3 λ_ _ ⟨v,H',n,r,q⟩=>⟨v,H',n,r,g v H' q⟩⟩
def cutL{d:Type}(xs:List d)(lo hi:Zv):List d:=(xs.drop (HT.sIx xs.length 0 lo)).take (HT.sIx xs.length xs.length hi-HT.sIx xs.length 0 lo)
theorem uJ{K:Za}{ds:List D}{vs:List V}(r:RVs K H ds vs)(lo hi:Zv):RVs K H (cutL ds lo hi) (cutV vs lo hi):=by
 unfold cutL cutV;rw[←r.len];exact RVs.of (nT _ (xa _ r.p))
def rSlW(K:Za):V->Option Int->Option Int->Hp->VK->Prop:=λx lo hi H Q=>∃a xs,x=.ref a/\SqT K H a xs/\(HT.sIx xs.length 0 lo=0/\HT.sIx xs.length xs.length hi=xs.length)/\Q (.ref a) H
theorem Ei:SlR X (rSlW X.K):=by
 intro a_ s σ H x v k l lo hi sl Q I d f pl g h;obtain⟨a,xs,rfl,hx,hw,q⟩:=h;cases d;obtain⟨d_,r,ht,hz⟩:=I.tuple hx;have j:d_.toArray.size=xs.length:=by rw[YL];exact r.length.symm
 refine⟨"tuple",_,PyProof.Rows.slot_tuple_getitem.lookup,ht.typeIs,?_⟩;exact HT.oI ht f pl g (by rw[j];exact hw) ⟨.ref a,H,I,rfl,q⟩
def dSl(x:D)(lo hi:Zv)(M:MH)(Q:DK):Prop:=match x with
 |.tup ds=>Q (.tup (cutL ds lo hi)) M
 |.str z=>z.length<=sizeLine/\Q (.str (Txt.slice z lo hi)) M
 |.ref a=>optD (rdL (M a)) λds=>∀p,M p=none->Q (.ref p) (updM M p (.lst (cutL ds lo hi)))
 |_=>False
theorem sld{x:D}{v:V}{lo hi:Zv}{M:MH}{Q:DK}(g:RV X.K H x v)(d:RM X.K M H)(h:dSl x lo hi M Q):slW X v lo hi H (lift X.K H Q):=by
 cases x with
 |tup ds=>
  obtain⟨a,vs,rfl,sq,f⟩:=RV.tup_.1 g;by_cases hw:HT.sIx ds.length 0 lo=0/\HT.sIx ds.length ds.length hi=ds.length
  ·have h:Q (.tup (cutL ds lo hi)) M:=h
   have e:cutL ds lo hi=ds:=by unfold cutL;rw[hw.1,hw.2];simp
   rw[e] at h;exact ql Ei ⟨a,vs,rfl,sq,by rw[←f.len];exact hw,ax g d h⟩
  refine ql Fw ⟨a,vs,rfl,sq,by rw[←f.len];exact hw,λp hp=>?_⟩;have k:=Kp.new (o:=.tup (cutV vs lo hi)) hp;exact⟨k,.tup (cutL ds lo hi),M,RV.tup_.2 ⟨p,_,rfl,SqT.of ay,RVs.mono k _ (uJ f lo hi)⟩,d.newH hp,h⟩
 |str z=>cases RV.str_.1 g;exact ql FW ⟨z,rfl,h.1,ax (RV.str_.2 rfl) d h.2⟩
 |ref a=>
  cases RV.ref_.1 g;obtain⟨ds,e1,q⟩:=aL h;obtain⟨vs,sq,f⟩:=d.list e1;refine ql Dw ⟨a,vs,rfl,sq,λp hp=>?_⟩;have k:=Kp.new (o:=.lst (cutV vs lo hi)) hp;exact⟨k,.ref p,_,RV.ref_.2 rfl,d.new (m:=.lst (cutL ds lo hi)) hp ⟨_,ay,RVs.mono k _ (uJ f lo hi)⟩,q p (d.fresh hp)⟩
 |_=>exact Yh h
def intD(x:D)(Q:Int->Prop):Prop:=match x with
 |.int i=>Q i
 |_=>False
theorem n6{x:D}{Q:Int->Prop}(h:intD x Q):∃i,x=.int i/\Q i:=by
 cases x with
 |int i=>exact⟨i,rfl,h⟩
 |_=>exact Yh h
abbrev WO:=DS->MH->(Option Int->MH->Prop)->Prop
def oWp(X:Cx)(e:Option Expr):TO:=λρ H Q=>∀a_ s,Inv X a_ ρ H s->wpAny (model X.prog X.w) X.A (evalPart e X.env) (λu d=>∃o H',Inv X a_ ρ H' d/\IsPart u o/\Q o H') X.xe s
theorem po_W(e:Option Expr):PO X e (oWp X e):=λa_ s _ _ _ I h=>h a_ s I
def POd(X:Cx)(e:Option Expr)(t:WO):Prop:=∀σ M ρ H Q,RS X.K H σ ρ->RM X.K M H->t σ M Q->oWp X e ρ H λo H'=>Kp H H'/\∃M',RM X.K M' H'/\Q o M'
theorem BE:POd X none (λ_ M Q=>Q none M):=λσ M ρ H Q rs d q a_ s I=>Du a_ s ρ H _ I ⟨Kp.refl H,M,d,q⟩
theorem BF{t:WE}(h:PEd X e t):POd X (some e) (λσ M Q=>t σ M λx M1=>intD x λi=>Q (some i) M1):=λσ M ρ H Q rs f q a_ s I=>
 wW (pe_W e) a_ s ρ H _ I (aC (h σ M ρ H _ rs f q) λv l ⟨g,x,M1,j,k,d⟩=>by
  obtain⟨i,rfl,d⟩:=n6 d;exact⟨i,RV.int_.1 j,g,M1,k,d⟩)
theorem lZ{e:Option Expr}{ρ:L2.St}{Q d:Option Int->Hp->Prop}(h:oWp X e ρ H Q)(f:∀o H',Q o H'->d o H'):oWp X e ρ H d:=λa_ s I=>thn (h a_ s I) λ_ _ ⟨o,H',g,r,q⟩=>⟨o,H',g,r,f o H' q⟩
def wSl(d:WE)(tl f:WO):WE:=λσ M Q=>d σ M λx M1=>tl σ M1 λl M2=>f σ M2 λu g=>dSl x l u g Q
theorem FX{g:WE}{tl j:WO}{lo hi:Option Expr}{p2:Pos}(ha:PEd X a g)(hl:POd X lo tl)(p:POd X hi j):PEd X (.Subscript a (.Slice lo hi none p2) pos) (wSl g tl j):=by
 intro σ M ρ H Q rs r h;refine bn (Bl sl_W (pe_W a) (po_W lo) (po_W hi)) ?_;show tW X a ρ H _;refine aC (ha σ M ρ H _ rs r h) λv k t=>?_
 obtain⟨d,x,M1,w,y,z⟩:=t;show oWp X lo ρ k _;refine lZ (hl σ M1 ρ k _ (rs.mono d) y z) λl m A=>?_
 obtain⟨f,M2,B,C⟩:=A;show oWp X hi ρ m _;refine lZ (p σ M2 ρ m _ (rs.mono (d.trans f)) B C) λu I E=>?_
 obtain⟨n,J,F,G⟩:=E;exact BD (sld (RV.mono (f.trans n) x w) F G) λ_ _=>bv (d.trans (f.trans n))
def cW(X:Cx)(f:Value):List V->Hp->VK->Prop:=λvs H Q=>∀a_ s ρ us,Inv X a_ ρ H s->Vals vs us->wpAny (model X.prog X.w) X.A (call f us) (EP X a_ ρ Q) X.xe s
theorem c_W(f:Value):dr X f (cW X f):=λa_ s σ _ _ us _ I r h=>h a_ s σ us I r
theorem dB{f:Value}{r:List V->Hp->VK->Prop}{vs:List V}{Q:VK}(h:dr X f r)(q:r vs H Q):cW X f vs H Q:=λa_ s ρ us I d=>h a_ s ρ H vs us Q I d q
theorem xo{f:Value}{vs:List V}{Q d:VK}(h:cW X f vs H Q)(g:∀v H',Q v H'->d v H'):cW X f vs H d:=λa_ s ρ us I j=>thn (h a_ s ρ us I j) λ_ _ ⟨v,H',k,r,q⟩=>⟨v,H',k,r,g v H' q⟩
def fK(X:Cx)(f:Value)(r:SpD):Prop:=∀ds vs H M Q,RVs X.K H ds vs->RM X.K M H->r ds M Q->cW X f vs H (lift X.K H Q)
theorem fu{x:Str}{id:String}{r:SpD}{t:WA}{p:Pos}(hc:fK X (.builtin id) r)(hg:Gl X x)(hm:X.mg x=none)(d:bootBuiltins x=some (.builtin id))(hn:x ≠ "__name__")(f:(x==("__debug__" : Str))=false)(g:ah e=true)(j:es.all ah=true)
  (ha:PAd X (e::es) t):PEd X (.Call (.Name x p) (e::es) [] pos) (gU r t):=by
 intro σ M ρ H Q rs k h;refine bn (Be (c_W _) hg hm d (pa_W (e::es)) hn f (aO g) (cw j)) ?_;show tWA X (e::es) ρ H _;refine ca (ha σ M ρ H _ rs k h) λvs l m=>?_
 obtain⟨n,ds,M1,u,_,w,y⟩:=m;exact xo (hc ds vs l M1 Q u w y) λ_ _=>bv n
theorem qm{x:Str}{id:String}{r:SpD}{t:WA}{p:Pos}(hc:fK X (.type id) r)(hg:Gl X x)(hm:X.mg x=none)(d:bootBuiltins x=some (.type id))(hn:x ≠ "__name__")(f:(x==("__debug__" : Str))=false)(g:ah e=true)(j:es.all ah=true)
  (ha:PAd X (e::es) t):PEd X (.Call (.Name x p) (e::es) [] pos) (gU r t):=by
 intro σ M ρ H Q rs k h;refine bn (zx (c_W _) hg hm d (pa_W (e::es)) hn f (aO g) (cw j)) ?_;show tWA X (e::es) ρ H _;refine ca (ha σ M ρ H _ rs k h) λvs l m=>?_
 obtain⟨n,ds,M1,u,_,w,y⟩:=m;exact xo (hc ds vs l M1 Q u w y) λ_ _=>bv n
theorem rvs1{K:Za}{d:D}{vs:List V}(r:RVs K H [d] vs):∃v,vs=[v]/\RV K H d v:=by
 rw[RVs] at r;obtain⟨v,j,rfl,g,f⟩:=r;rw[RVs] at f;subst f;exact⟨v,rfl,g⟩
theorem rvs2{K:Za}{d d':D}{vs:List V}(r:RVs K H [d,d'] vs):∃v f,vs=[v,f]/\RV K H d v/\RV K H d' f:=by
 rw[RVs] at r;obtain⟨v,l,rfl,g,j⟩:=r;obtain⟨f,rfl,k⟩:=rvs1 j;exact⟨v,f,rfl,g,k⟩
def dLen:SpD:=λds M Q=>match ds with
 |[.str z]=>z.length<=sizeLine/\Q (.int z.length) M
 |[.tup xs]=>Q (.int xs.length) M
 |[.ref a]=>match M a with
  |some (.lst xs)=>Q (.int xs.length) M
  |some (.rol xs)=>Q (.int xs.length) M
  |some (.dic d)=>Q (.int d.length) M
  |some (.rod d)=>Q (.int d.length) M
  |_=>False
 |_=>False
theorem z0:dr X (.builtin "len") (λxs H Q=>∃a d,xs=[V.ref a]/\Rd H a (.dK d)/\Q (.int d.length) H):=by
 rintro a_ s σ H xs us Q I r ⟨a,d,rfl,ha,q⟩;obtain⟨u,rfl,f⟩:=vals1 r;cases f;exact CN I ha λt j g=>⟨.int d.length,H,g,⟨t,rfl⟩,q⟩
theorem FY:fK X (.builtin "len") dLen:=by
 intro ds vs H M Q r d h;unfold dLen at h;split at h
 ·obtain⟨v,rfl,g⟩:=rvs1 r
  cases RV.str_.1 g;exact dB ul ⟨_,rfl,h.1,ax (RV.int_.2 rfl) d h.2⟩
 ·obtain⟨v,rfl,g⟩:=rvs1 r
  obtain⟨a,us,rfl,sq,f⟩:=RV.tup_.1 g;exact dB jB ⟨a,us,rfl,.inr sq,ax (RV.int_.2 (by rw[f.len])) d h⟩
 ·obtain⟨v,rfl,g⟩:=rvs1 r
  cases RV.ref_.1 g;split at h
  ·rename_i xs e1
   obtain⟨us,sq,f⟩:=d _ _ e1;exact dB jB ⟨_,us,rfl,.inl (SqL.of sq),ax (RV.int_.2 (by rw[f.len])) d h⟩
  ·rename_i xs e1
   obtain⟨us,sq,f⟩:=d _ _ e1;exact dB jB ⟨_,us,rfl,.inl (.inl sq),ax (RV.int_.2 (by rw[f.len])) d h⟩
  ·rename_i m e1
   obtain⟨j,k,l,f⟩:=d _ _ e1;exact dB zH ⟨_,j,rfl,k,ax (RV.int_.2 (by have:=congrArg List.length l;simp only[ZG] at this;rw[this])) d h⟩
  ·rename_i m e1
   obtain⟨n,j,k,l,f⟩:=d _ _ e1;exact dB z0 ⟨_,j,rfl,.inr ⟨n,k⟩,ax (RV.int_.2 (by have:=congrArg List.length l;simp only[ZG] at this;rw[this])) d h⟩
  ·exact Yh h
 ·exact Yh h
def tyD(x:D)(M:MH):Option String:=match x with
 |.non=>some "NoneType"
 |.bl _=>some "bool"
 |.int _=>some "int"
 |.str _=>some "str"
 |.tup _=>some "tuple"
 |.ref a=>match M a with
  |some (.lst _)=>some "list"
  |some (.dic _)=>some "dict"
  |_=>none
 |.ty _=>none
def isT(t T:String):Bool:=t==T||(t == "bool" && T == "int")
def kinds:List String:=["NoneType","bool","int","str","tuple","list","dict"]
theorem z5:∀t∈kinds,∀T∈kinds,T ≠ "NoneType"->(if(Value.type t==Value.type T)=true then some true else if PySem.W.kitMeta T=true then(fastBuiltinMro t).map (·.contains (.type T)) else none)=some (isT t T):=by rfl'
def tysD:List D->Option (List String)
 |[]=>some []
 |.ty T::r=>(tysD r).map (T :: ·)
 |_=>none
def yx(T:String):Bool:=kinds.contains T&&T != "NoneType"
def n9:SpD:=λds M Q=>match ds with
 |[x,.ty T]=>(T∈kinds/\T ≠ "NoneType")/\optD (tyD x M) λt=>Q (.bl (isT t T)) M
 |[x,.tup ts]=>optD (tysD ts) λd=>d.all yx=true/\optD (tyD x M) λt=>Q (.bl (d.any (isT t))) M
 |_=>False
theorem xp{K:Za}:∀{ts:List D}{d:List String}{vs:List V},tysD ts=some d->RVs K H ts vs->vs=d.map V.ty
 |[],d,vs,h,r=>by cases h;rw[RVs] at r;subst r;rfl
 |.ty T::ts,d,vs,h,r=>by
  rw[tysD] at h;rw[RVs] at r;obtain⟨v,j,rfl,f,g⟩:=r;cases q:tysD ts with
  |none=>rw[q] at h;cases h
  |some k=>rw[q] at h;cases h;rw[xp q g,RV.ty_.1 f];rfl
 |.non::_,_,_,h,_=>by cases h
 |.bl _::_,_,_,h,_=>by cases h
 |.int _::_,_,_,h,_=>by cases h
 |.str _::_,_,_,h,_=>by cases h
 |.tup _::_,_,_,h,_=>by cases h
 |.ref _::_,_,_,h,_=>by cases h
theorem sW{K:Za}{t:String}(ht:t∈kinds):∀{d:List String}{us:Zh},d.all yx=true->Vals (d.map V.ty) us->PySem.W.kitAny K (.type t) us=some (d.any (isT t))
 |[],_,_,r=>by cases r;rfl
 |T::d,_,h,r=>by
  cases r with
  |cons f j=>
   rw[XT,XB] at h;cases f;have g:=h.1;unfold yx at g;rw[XB] at g;have k:=zM K (z5 t ht T (by simpa using g.1) (by simpa using g.2));unfold PySem.W.kitAny;rw[k,XM];cases isT t T with
   |true=>rfl
   |false=>exact sW ht h.2 j
theorem uK{x:D}{M:MH}{t:String}(h:tyD x M=some t):t∈kinds:=by
 cases x with
 |ref a=>
  have h:(match M a with
   |some (.lst _)=>some "list"
   |some (.dic _)=>some "dict"
   |_=>none)=some t:=h
  split at h<;>first | (cases h;decide) | cases h
 |ty _=>cases h
 |_=>cases h;decide
theorem BG{s:Shared}{a_:Zg}{ρ:L2.St}{M:MH}{x:D}{v:V}{f c:Value}{t:String}{k:Bool}{Q:Zd}(I:Inv X a_ ρ H s)(d:RV X.K H x v)(g:RM X.K M H)(r:RelV v f)(h:tyD x M=some t)(e:PySem.W.kitOne X.K (.type t) c=some k)
  (hq:∀tk,Q (.bool k) { s with toks:=tk }):wpAny (model X.prog X.w) X.A (call (.builtin "isinstance") [f,c]) Q X.xe s:=by
 cases x with
 |non=>cases h;cases RV.non_.1 d;exact fm I r .non e hq
 |bl b=>cases h;cases RV.bl_.1 d;exact fm I r (.bl b) e hq
 |int b=>cases h;cases RV.int_.1 d;exact fm I r (.int b) e hq
 |str b=>cases h;cases RV.str_.1 d;exact fm I r (.str b) e hq
 |ty b=>cases h
 |tup ds=>
  cases h;obtain⟨a,xs,rfl,sq,j⟩:=RV.tup_.1 d;obtain⟨_,_,tp,_⟩:=I.tuple sq;cases r;obtain⟨o,l,h2,_⟩:=tp;exact PySem.W.kia_one PySem.W.kitx_tuple I.kIn ⟨o,l,h2⟩ e (λz=>nomatch z) hq
 |ref a=>
  cases RV.ref_.1 d;have h:(match M a with
   |some (.lst _)=>some "list"
   |some (.dic _)=>some "dict"
   |_=>none)=some t:=h
  split at h
  ·rename_i e1;cases h
   obtain⟨us,sq,j⟩:=g _ _ e1;exact fm I r (.lst sq) e hq
  ·rename_i e1;cases h
   obtain⟨us,sq,_⟩:=g _ _ e1;exact fm I r (.dK sq) e hq
  ·cases h
theorem BH{s:Shared}{a_:Zg}{ρ:L2.St}{M:MH}{x:D}{v:V}{l:Value}{t:String}{k:Bool}{tp:Addr}{us:Zh}{Q:Zd}(I:Inv X a_ ρ H s)(f:RV X.K H x v)(m:RM X.K M H)(r:RelV v l)(h:tyD x M=some t)
  (ht:IsTup s.heap tp us.toArray) (e:PySem.W.kitAny X.K (.type t) us=some k) (hq:∀tk,Q (.bool k) { s with toks:=tk }):wpAny (model X.prog X.w) X.A (call (.builtin "isinstance") [l,.ref tp]) Q X.xe s:=by
 obtain⟨⟨oc,od,p,Hl⟩,d,h2,n,u⟩:=ht;obtain rfl:oc=.type "tuple":=h2;obtain rfl:p=.seq us.toArray n:=u;cases x with
 |non=>cases h;cases RV.non_.1 f;cases r;exact PySem.W.kia_tup PySem.W.kitx_none I.kIn True.intro d e (λz=>nomatch z) hq
 |bl b=>cases h;cases RV.bl_.1 f;cases r;exact PySem.W.kia_tup PySem.W.kitx_bool I.kIn True.intro d e (λz=>nomatch z) hq
 |int b=>cases h;cases RV.int_.1 f;obtain⟨_,rfl⟩:=r;exact PySem.W.kia_tup PySem.W.kitx_int I.kIn True.intro d e (λz=>nomatch z) hq
 |str b=>cases h;cases RV.str_.1 f;obtain⟨_,rfl⟩:=r;exact PySem.W.kia_tup PySem.W.kitx_str I.kIn True.intro d e (λz=>nomatch z) hq
 |ty b=>cases h
 |tup ds=>
  cases h;obtain⟨a,xs,rfl,sq,y⟩:=RV.tup_.1 f;obtain⟨_,_,⟨o,g,j,_⟩,_⟩:=I.tuple sq;cases r;exact PySem.W.kia_tup PySem.W.kitx_tuple I.kIn ⟨o,g,j⟩ d e (λz=>nomatch z) hq
 |ref a=>
  cases RV.ref_.1 f;cases r;have h:(match M a with
   |some (.lst _)=>some "list"
   |some (.dic _)=>some "dict"
   |_=>none)=some t:=h
  split at h
  ·rename_i e1;cases h
   obtain⟨B,sq,y⟩:=m _ _ e1;obtain⟨_,_,_,_,_,g⟩:=I.lstM sq;exact PySem.W.kia_tup PySem.W.kitx_list I.kIn ⟨_,g,rfl⟩ d e (λz=>nomatch z) hq
  ·rename_i e1;cases h
   obtain⟨B,sq,_⟩:=m _ _ e1;obtain⟨_,_,_,_,o,es,C,g,j,_⟩:=CM I.hok sq;exact PySem.W.kia_tup PySem.W.kitx_dict I.kIn ⟨o,g,j.1⟩ d e (λz=>nomatch z) hq
  ·cases h
theorem z6:fK X (.builtin "isinstance") n9:=by
 intro ds vs H M Q r d h;unfold n9 at h;split at h
 ·rename_i x T
  obtain⟨v,n,rfl,f,g⟩:=rvs2 r;cases RV.ty_.1 g;obtain⟨t,e1,q⟩:=aL h.2;intro a_ s ρ us I j;obtain⟨u,p,rfl,k,l⟩:=j.two;cases l;exact BG I f d k e1 (zM X.K (z5 t (uK e1) T h.1.1 h.1.2)) λtk=>⟨.bl _,H,I.tok tk,rfl,ax (RV.bl_.2 rfl) d q⟩
 ·rename_i x ts
  obtain⟨v,n,rfl,f,g⟩:=rvs2 r;obtain⟨z,w,h⟩:=aL h;obtain⟨t,e1,q⟩:=aL h.2;obtain⟨tp,xs,rfl,sq,y⟩:=RV.tup_.1 g;intro a_ s ρ us I j;obtain⟨u,p,rfl,k,l⟩:=j.two;cases l;obtain⟨d_,m,ht,_⟩:=I.tuple sq;rw[xp w y] at m;exact BH I f d k e1 ht (sW (uK e1) h.1 m) λtk=>⟨.bl _,H,I.tok tk,rfl,ax (RV.bl_.2 rfl) d q⟩
 ·exact Yh h
def blsD:List D->Option (List Bool)
 |[]=>some []
 |.bl b::r=>(blsD r).map (b :: ·)
 |_=>none
theorem xq{K:Za}:∀{ds:List D}{bs:List Bool}{vs:List V},blsD ds=some bs->RVs K H ds vs->vs=bs.map V.bl
 |[],bs,vs,h,r=>by rw[RVs] at r;subst r;cases h;rfl
 |.bl b::ds,bs,vs,h,r=>by
  rw[RVs] at r;obtain⟨v,g,rfl,d,f⟩:=r;cases RV.bl_.1 d;unfold blsD at h;cases q:blsD ds with
  |none=>rw[q] at h;cases h
  |some j=>rw[q] at h;cases h;rw[xq q f];rfl
def dAll(f:List Bool->Bool):SpD:=λds M Q=>match ds with
 |[.ref a]=>match M a with
  |some (.lst xs)=>optD (blsD xs) λbs=>Q (.bl (f bs)) M
  |_=>False
 |_=>False
theorem FZ(hc:X.calm=true):fK X (.builtin "all") (dAll λbs=>bs.all id):=by
 intro ds vs H M Q r d h;unfold dAll at h;split at h
 ·obtain⟨v,rfl,f⟩:=rvs1 r
  cases RV.ref_.1 f;split at h
  ·rename_i xs e1
   obtain⟨bs,e2,q⟩:=aL h;obtain⟨us,sq,g⟩:=d _ _ e1
   have:=xq e2 g
   subst this;exact dB (Br hc) ⟨_,bs,rfl,SqL.of sq,ax (RV.bl_.2 rfl) d q⟩
  ·exact Yh h
 ·exact Yh h
def dII(f:Int->Int->Int):SpD:=λds M Q=>match ds with
 |[.int i,.int j]=>Q (.int (f i j)) M
 |_=>False
theorem F1(hc:X.calm=true):fK X (.builtin "max") (dII λi j=>if j>i then j else i):=by
 intro ds vs H M Q r d h;unfold dII at h;split at h
 ·obtain⟨v,k,rfl,f,g⟩:=rvs2 r
  cases RV.int_.1 f;cases RV.int_.1 g;exact dB (zo hc) ⟨_,_,rfl,ax (RV.int_.2 rfl) d h⟩
 ·exact Yh h
theorem F2(hc:X.calm=true):fK X (.builtin "min") (dII λi j=>if j<i then j else i):=by
 intro ds vs H M Q r d h;unfold dII at h;split at h
 ·obtain⟨v,k,rfl,f,g⟩:=rvs2 r
  cases RV.int_.1 f;cases RV.int_.1 g;exact dB (zt hc) ⟨_,_,rfl,ax (RV.int_.2 rfl) d h⟩
 ·exact Yh h
def qo:SpD:=λds M Q=>match ds with
 |[.tup xs]=>Q (.tup xs) M
 |[.ref a]=>optD (rdL (M a)) λxs=>Q (.tup xs) M
 |_=>False
theorem BI:fK X (.type "tuple") qo:=by
 intro ds vs H M Q r f h;unfold qo at h;split at h
 ·obtain⟨v,rfl,d⟩:=rvs1 r
  obtain⟨a,us,rfl,sq,g⟩:=RV.tup_.1 d;exact dB mz ⟨a,us,rfl,.inr ⟨sq,ax d f h⟩⟩
 ·obtain⟨v,rfl,d⟩:=rvs1 r
  cases RV.ref_.1 d;obtain⟨xs,e1,q⟩:=aL h;obtain⟨us,sq,g⟩:=f.list e1;refine dB mz ⟨_,us,rfl,.inl ⟨sq,λp hp=>?_⟩⟩;have k:=Kp.new (o:=.tup us) hp;exact⟨k,.tup xs,M,RV.tup_.2 ⟨p,_,rfl,SqT.of ay,RVs.mono k _ g⟩,f.newH hp,q⟩
 ·exact Yh h
def qp:SpD:=λds M Q=>match ds with
 |[.tup xs]=>∀p,M p=none->Q (.ref p) (updM M p (.lst xs))
 |[.ref a]=>optD (rdL (M a)) λxs=>∀p,M p=none->Q (.ref p) (updM M p (.lst xs))
 |_=>False
theorem xr:fK X (.type "list") qp:=by
 intro ds vs H M Q r d h;unfold qp at h;split at h
 ·rename_i xs
  obtain⟨v,rfl,f⟩:=rvs1 r;obtain⟨a,us,rfl,sq,g⟩:=RV.tup_.1 f;refine dB mX ⟨a,us,rfl,.inr sq,λp hp=>?_⟩;have k:=Kp.new (o:=.lst us) hp;exact⟨k,.ref p,_,RV.ref_.2 rfl,d.new (m:=.lst xs) hp ⟨us,ay,RVs.mono k _ g⟩,h p (d.fresh hp)⟩
 ·obtain⟨v,rfl,f⟩:=rvs1 r
  cases RV.ref_.1 f;obtain⟨xs,e1,q⟩:=aL h;obtain⟨us,sq,g⟩:=d.list e1;refine dB mX ⟨_,us,rfl,.inl sq,λp hp=>?_⟩;have k:=Kp.new (o:=.lst us) hp;exact⟨k,.ref p,_,RV.ref_.2 rfl,d.new (m:=.lst xs) hp ⟨us,ay,RVs.mono k _ g⟩,q p (d.fresh hp)⟩
 ·exact Yh h
inductive Bi where
 |len | isinst | all | max | min | tuple
 deriving DecidableEq
def dBi:Bi->SpD
 |.len=>dLen
 |.isinst=>n9
 |.all=>dAll λbs=>bs.all id
 |.max=>dII λi j=>if j>i then j else i
 |.min=>dII λi j=>if j<i then j else i
 |.tuple=>qo
def qr:Bi->Str
 |.len=>"len"
 |.isinst=>"isinstance"
 |.all=>"all"
 |.max=>"max"
 |.min=>"min"
 |.tuple=>"tuple"
theorem F3(b:Bi)(hc:X.calm=true){t:WA}{p:Pos}(hg:Gl X (qr b))(hm:X.mg (qr b)=none)(d:ah e=true)(f:es.all ah=true)(ha:PAd X (e::es) t):PEd X (.Call (.Name (qr b) p) (e::es) [] pos) (gU (dBi b) t):=by
 cases b with
 |len=>exact fu FY hg hm PySem.boot_len (by decide) (by decide) d f ha
 |isinst=>exact fu z6 hg hm PyProof.Rows.boot_isinstance (by decide) (by decide) d f ha
 |all=>exact fu (FZ hc) hg hm (by rfl') (by decide) (by decide) d f ha
 |max=>exact fu (F1 hc) hg hm PyProof.Rows.boot_max (by decide) (by decide) d f ha
 |min=>exact fu (F2 hc) hg hm PyProof.Rows.boot_min (by decide) (by decide) d f ha
 |tuple=>exact qm BI hg hm (by rfl') (by decide) (by decide) d f ha
end
section
variable {X:Cx}{H:Hp}{e a b c o:Expr}{es:Zl}{pos:Pos}
def bq:Expr->Bool
 |.Call (.Name _ _) [] [] _=>false
 |_=>true
theorem oa{env:Env}{f:Str}{w:Sem Value}(h:bq o=true):attributeBase o f env w=w:=by
 unfold attributeBase;split
 ·exact absurd (show false=true from h) YI
 ·rfl
theorem o9{env:Env}{p:Pos}:∀{es:Zl},es.all ah=true->(backTo p (starEach es env)).all (λx=>!x.1)=true
 |[],_=>rfl
 |e::es,h=>by
  rw[XT,XB] at h;rw[aO h.1];show(true&&(backTo p (starEach es env)).all (λx=>!x.1))=true;rw[o9 h.2];rfl
def mW(X:Cx)(id:String):V->List V->Hp->VK->Prop:=λx xs H Q=>∀a_ s ρ v us,Inv X a_ ρ H s->RelV x v->Vals xs us->wpAny (model X.prog X.w) X.A (call (.builtin id) (v::us)) (EP X a_ ρ Q) X.xe s
theorem m_W(id:String):MtR X id (mW X id):=λa_ s σ _ _ _ v us _ I r d h=>h a_ s σ v us I r d
theorem qt{id:String}{r:V->List V->Hp->VK->Prop}{x:V}{xs:List V}{Q:VK}(h:MtR X id r)(q:r x xs H Q):mW X id x xs H Q:=λa_ s ρ v us I d f=>h a_ s ρ H x xs v us Q I d f q
theorem xt{id:String}{x:V}{xs:List V}{Q d:VK}(h:mW X id x xs H Q)(g:∀v H',Q v H'->d v H'):mW X id x xs H d:=λa_ s ρ v us I f j=>thn (h a_ s ρ v us I f j) λ_ _ ⟨v,H',k,r,q⟩=>⟨v,H',k,r,g v H' q⟩
abbrev SpM:=D->List D->MH->DK->Prop
def MtD(X:Cx)(id:String)(r:SpM):Prop:=∀x ds v vs H M Q,RV X.K H x v->RVs X.K H ds vs->RM X.K M H->r x ds M Q->mW X id v vs H (lift X.K H Q)
inductive Rc where
 |str | lst | dic | int
def yy:Rc->D->MH->Prop
 |.str,.str _,_=>True
 |.int,.int _,_=>True
 |.lst,.ref a,M=>(rdL (M a)).isSome=true
 |.dic,.ref a,M=>match M a with
  |some (.dic _)=>True
  |_=>False
 |_,_,_=>False
def rcT:Rc->String
 |.str=>"str"
 |.lst=>"list"
 |.dic=>"dict"
 |.int=>"int"
theorem xu{K:Za}{M:MH}{c:Rc}{x:D}{v:V}(r:RV K H x v)(m:RM K M H)(h:yy c x M):tyV K (rcT c) v H:=by
 cases c with
 |int=>cases x with
  |int z=>cases RV.int_.1 r;rfl
  |_=>exact Yh h
 |str=>cases x with
  |str z=>cases RV.str_.1 r;rfl
  |_=>exact Yh h
 |lst=>cases x with
  |ref a=>
   cases RV.ref_.1 r;obtain⟨ds,e⟩:=Option.isSome_iff_exists.mp h;obtain⟨vs,sq,_⟩:=m.list e;exact .inl ⟨rfl,vs,sq⟩
  |_=>exact Yh h
 |dic=>cases x with
  |ref a=>
   cases RV.ref_.1 r;have h:match M a with
    |some (.dic _)=>True
    |_=>False:=h
   split at h
   ·rename_i e
    obtain⟨d,q,_⟩:=m a _ e;exact .inr (.inr (.inl ⟨rfl,.inl ⟨d,q⟩⟩))
   ·exact Yh h
  |_=>exact Yh h
def wMt(c:Rc)(r:SpM)(d:WE)(t:WA):WE:=λσ M Q=>d σ M λx M1=>yy c x M1/\t σ M1 λds M2=>r x ds M2 Q
theorem qu{c:Rc}{name:Str}{id:String}{r:SpM}{d:WE}{t:WA}{r_:Pos}(u:PlainAttrs (rcT c))(slot:Slot (rcT c) name id)(w:typeOf (.builtin id)=pure (.type "method_descriptor"))(hm:MtD X id r)(y:PEd X o d)(ha:PAd X (e::es) t)
  (hb:bq o=true) (f:ah e=true) (g:es.all ah=true) (hl:es.length<20) (z:(r_.endLine==pos.line)=true):PEd X (.Call (.Attribute o name r_) (e::es) [] pos) (wMt c r d t):=by
 intro σ M ρ H Q rs A h;refine bn (G2 u slot w (m_W id) (pe_W o) (pa_W (e::es)) (oa hb) ?_ z (aO f) (cw g)) ?_
 ·rw[o9 (es:=e::es) (by rw[XT,f,g];rfl)]
  show(true&&true&&decide ((e::es).length+0+0<30))=true;rw[Bool.and_self,XZ];exact YY (by rw[YM];omega)
 ·show tW X o ρ H _
  refine aC (y σ M ρ H _ rs A h) λv j B=>?_
  obtain⟨k,x,M1,l,m,n⟩:=B;refine⟨xu l m n.1,?_⟩;show tWA X (e::es) ρ j _;refine ca (ha σ M1 ρ j _ (rs.mono k) m n.2) λvs C E=>?_
  obtain⟨p,ds,M2,F,_,G,I⟩:=E;exact xt (hm x ds v vs C M2 Q (RV.mono p x l) F G I) λ_ _=>bv (k.trans p)
theorem oe{c:Rc}{name:Str}{id:String}{r:SpM}{d:WE}{r_:Pos}(k:PlainAttrs (rcT c))(slot:Slot (rcT c) name id)(l:typeOf (.builtin id)=pure (.type "method_descriptor"))(hm:MtD X id r)(m:PEd X o d)
  (hb:bq o=true) (n:(r_.endLine==pos.line)=true):PEd X (.Call (.Attribute o name r_) [] [] pos) (wMt c r d wNil):=by
 intro σ M ρ H Q rs p h;refine bn (Fz k slot l (m_W id) (pe_W o) (oa hb) n) ?_;show tW X o ρ H _;refine aC (m σ M ρ H _ rs p h) λv t u=>?_
 obtain⟨w,x,M1,f,g,j⟩:=u;refine⟨xu f g j.1,?_⟩;exact xt (hm x [] v [] t M1 Q f RVs.nil g j.2) λ_ _=>bv w
def og:SpM:=λx ds M Q=>match x,ds with
 |.ref a,[d]=>match M a with
  |some (.lst xs)=>xs.length<sizeLine/\Q .non (updM M a (.lst (xs++[d])))
  |_=>False
 |_,_=>False
theorem sX:MtD X "list.append" og:=by
 intro x ds v vs H M Q l r f h;unfold og at h;split at h
 ·rename_i a d
  obtain⟨g,rfl,n⟩:=rvs1 r;cases RV.ref_.1 l;split at h
  ·rename_i xs e1
   obtain⟨us,sq,j⟩:=f _ _ e1;have k:=Kp.put (o':=.lst (us++[g])) sq trivial;exact qt zB ⟨a,us,g,rfl,rfl,sq,by rw[←j.len];exact h.1,k,.non,_,RV.non_.2 rfl,f.put (m:=.lst (xs++[d])) sq trivial ⟨_,ay,RVs.of (a8 (RVs.mono k _ j).p (.cons (RV.mono k _ n) .nil))⟩,h.2⟩
  ·exact Yh h
 ·exact Yh h
def oh:SpM:=λx ds M Q=>match x,ds with
 |.ref a,[.ref b]=>match M a,M b with
  |some (.lst xs),some (.lst d)=>xs.length+d.length<=sizeLine/\Q .non (updM M a (.lst (xs++d)))
  |_,_=>False
 |_,_=>False
theorem sY:MtD X "list.extend" oh:=by
 intro x ds v vs H M Q l r d h;unfold oh at h;split at h
 ·rename_i a b
  obtain⟨w,rfl,n⟩:=rvs1 r;cases RV.ref_.1 l;cases RV.ref_.1 n;split at h
  ·rename_i xs t e1 e2
   obtain⟨us,sq,f⟩:=d _ _ e1;obtain⟨g,u,j⟩:=d _ _ e2;have k:=Kp.put (o':=.lst (us++g)) sq trivial;exact qt zC ⟨a,b,us,g,rfl,rfl,sq,u,by rw[←f.len,←j.len];exact h.1,k,.non,_,RV.non_.2 rfl,d.put (m:=.lst (xs++t)) sq trivial ⟨_,ay,RVs.of (a8 (RVs.mono k _ f).p (RVs.mono k _ j).p)⟩,h.2⟩
  ·exact Yh h
 ·exact Yh h
theorem uL{d f:Type}{F:d->f->Prop}:∀{l:List d}{m:List f}(i:Nat),Paired F l m->Paired F (l.eraseIdx i) (m.eraseIdx i)
 |_,_,_,.nil=>.nil
 |_,_,0,.cons _ t=>t
 |_,_,i+1,.cons q t=>.cons q (uL i t)
theorem wd{d f:Type}{F:d->f->Prop}{l:List d}{m:List f}(h:Paired F l m):Paired F l.dropLast m.dropLast:=by
 rw[List.dropLast_eq_take,List.dropLast_eq_take,←jC h];exact nT _ h
def dPop:SpM:=λx ds M Q=>match x,ds with
 |.ref a,[.int i]=>match M a with
  |some (.lst xs)=>(0<=i/\i<1000000)/\optD xs[i.toNat]? λd=>Q d (updM M a (.lst (xs.eraseIdx i.toNat)))
  |_=>False
 |.ref a,[]=>match M a with
  |some (.lst xs)=>optD xs[xs.length-1]? λd=>Q d (updM M a (.lst xs.dropLast))
  |_=>False
 |_,_=>False
theorem z7:MtD X "list.pop" dPop:=by
 intro x ds v vs H M Q t r g h;unfold dPop at h;split at h
 ·rename_i a i
  obtain⟨A,rfl,w⟩:=rvs1 r;cases RV.ref_.1 t;cases RV.int_.1 w;split at h
  ·rename_i xs e1
   obtain⟨us,sq,f⟩:=g _ _ e1;obtain⟨d,l,q⟩:=aL h.2;obtain⟨u,j,n⟩:=cM f.p l;have k:=Kp.put (o':=.lst (us.eraseIdx i.toNat)) sq trivial;have B:i.toNat<us.length:=(YG.1 j).1;have y:seqIndex? i us.length=some i.toNat:=by
    unfold seqIndex?;have z:¬i<0:=by omega
    have h2:i<(us.length:Int):=by omega
    simp[z,h.1.1,h2]
   exact qt Bn ⟨a,us,i,i.toNat,u,rfl,rfl,sq,by omega,by omega,y,j,k,d,_,RV.mono k _ n,g.put (m:=.lst (xs.eraseIdx i.toNat)) sq trivial ⟨_,ay,RVs.of (uL _ (RVs.mono k _ f).p)⟩,q⟩
  ·exact Yh h
 ·rename_i a
  obtain rfl:vs=[]:=by rw[RVs] at r;exact r
  cases RV.ref_.1 t;split at h
  ·rename_i xs e1
   obtain⟨us,sq,f⟩:=g _ _ e1;obtain⟨d,l,q⟩:=aL h;obtain⟨u,j,n⟩:=cM f.p l;have k:=Kp.put (o':=.lst us.dropLast) sq trivial;exact qt FA ⟨a,us,u,rfl,rfl,sq,by rw[←f.len];exact j,k,d,_,RV.mono k _ n,g.put (m:=.lst xs.dropLast) sq trivial ⟨_,ay,RVs.of (wd (RVs.mono k _ f).p)⟩,q⟩
  ·exact Yh h
 ·exact Yh h
def d4(i:Int):Nat:=Builtin.Int.intBits i
def ua:SpM:=λx ds M Q=>match x,ds with
 |.int i,[]=>Q (.int (d4 i)) M
 |_,_=>False
theorem Ej:MtR X "int.bit_length" (λx xs H Q=>∃i,x=.int i/\xs=[]/\Q (.int (d4 i)) H):=by
 rintro a_ s σ H x xs v us Q I d f ⟨i,rfl,rfl,q⟩;obtain⟨t,rfl⟩:=d;have g:=f.zero;subst g;exact call_int_bit_length ⟨.int (d4 i),H,I.tok _,⟨_,rfl⟩,q⟩
theorem xv:MtD X "int.bit_length" ua:=by
 intro x ds v vs H M Q d r f h;unfold ua at h;split at h
 ·rename_i i
  obtain rfl:vs=[]:=by rw[RVs] at r;exact r
  cases RV.int_.1 d;exact qt Ej ⟨i,rfl,rfl,ax (RV.int_.2 rfl) f h⟩
 ·exact Yh h
def F5:SpM:=λx ds M Q=>match x,ds with
 |.ref a,[y]=>optD (rdL (M a)) λxs=>(aK y=true/\aN xs=true/\bB xs<=30)/\optD (xs.findIdx? λd=>eqD d y) λ(j:Nat)=>Q (.int (j:Int)) M
 |_,_=>False
inductive Mt where
 |append | extend | pop | bits
 deriving DecidableEq
def qv:Mt->Str
 |.append=>"append"
 |.extend=>"extend"
 |.pop=>"pop"
 |.bits=>"bit_length"
def mtRc:Mt->Rc
 |.append=>.lst
 |.extend=>.lst
 |.pop=>.lst
 |.bits=>.int
def dMt:Mt->SpM
 |.append=>og
 |.extend=>oh
 |.pop=>dPop
 |.bits=>ua
theorem Ek(hu:X.A.units+40<cLine)(m:Mt){k:WE}{t:WA}{r_:Pos}(d:PEd X o k)(ha:PAd X (e::es) t)(hb:bq o=true)(f:ah e=true)(g:es.all ah=true)(hl:es.length<20)(j:(r_.endLine==pos.line)=true):
  PEd X (.Call (.Attribute o (qv m) r_) (e::es) [] pos) (wMt (mtRc m) (dMt m) k t):=by
 cases m with
 |append=>exact qu (c:=.lst) PySem.F.plainAttrs_list PySem.F.slot_list_append PySem.F.type_list_append sX d ha hb f g hl j
 |extend=>exact qu (c:=.lst) PySem.F.plainAttrs_list PySem.F.slot_list_extend PySem.F.type_list_extend sY d ha hb f g hl j
 |pop=>exact qu (c:=.lst) PySem.F.plainAttrs_list PySem.F.slot_list_pop PySem.F.type_list_pop z7 d ha hb f g hl j
 |bits=>exact qu (c:=.int) PySem.F.plainAttrs_int PySem.F.slot_int_bit_length PySem.F.type_int_bit_length xv d ha hb f g hl j
theorem BJ(hu:X.A.units+40<cLine)(m:Mt){g:WE}{r_:Pos}(d:PEd X o g)(hb:bq o=true)(f:(r_.endLine==pos.line)=true):
  PEd X (.Call (.Attribute o (qv m) r_) [] [] pos) (wMt (mtRc m) (dMt m) g wNil):=by
 cases m with
 |append=>exact oe (c:=.lst) PySem.F.plainAttrs_list PySem.F.slot_list_append PySem.F.type_list_append sX d hb f
 |extend=>exact oe (c:=.lst) PySem.F.plainAttrs_list PySem.F.slot_list_extend PySem.F.type_list_extend sY d hb f
 |pop=>exact oe (c:=.lst) PySem.F.plainAttrs_list PySem.F.slot_list_pop PySem.F.type_list_pop z7 d hb f
 |bits=>exact oe (c:=.int) PySem.F.plainAttrs_int PySem.F.slot_int_bit_length PySem.F.type_int_bit_length xv d hb f
end
section
variable {X:Cx}{H:Hp}{e a b c o i v:Expr}{es:Zl}{pos:Pos}
def wNeg(t:WE):WE:=λσ M Q=>t σ M λx M1=>intD x λi=>Q (.int (-i)) M1
theorem El{t:WE}(h:PEd X a t):PEd X (.UnaryOp .USub a pos) (wNeg t):=by
 intro σ M ρ H Q rs f q;refine bn (CJ Fn (pe_W a)) ?_;show tW X a ρ H _;refine aC (h σ M ρ H _ rs f q) λv m g=>?_
 obtain⟨j,x,M1,k,l,d⟩:=g;obtain⟨i,rfl,d⟩:=n6 d;exact⟨i,RV.int_.1 k,j,.int (-i),M1,RV.int_.2 rfl,l,d⟩
def wInv(t:WE):WE:=λσ M Q=>t σ M λx M1=>intD x λi=>Q (.int (-i-1)) M1
theorem bitNot_eq(i:Int):Builtin.bitNot i = -i-1:=by unfold Builtin.bitNot;omega
theorem Em{t:WE}(h:PEd X a t):PEd X (.UnaryOp .Invert a pos) (wInv t):=by
 intro σ M ρ H Q rs f q;refine bn (CJ Fo (pe_W a)) ?_;show tW X a ρ H _;refine aC (h σ M ρ H _ rs f q) λv m g=>?_
 obtain⟨j,x,M1,k,l,d⟩:=g;obtain⟨i,rfl,d⟩:=n6 d;exact⟨i,RV.int_.1 k,j,.int (-i-1),M1,RV.int_.2 (congrArg V.int (bitNot_eq i)),l,d⟩
def putD(g:Z3)(k:Key)(d:D):List (Key×D):=if(g.any λf=>decide (f.1=k))=true then g.map (λf=>if f.1=k then(f.1,d) else f) else g++[(k,d)]
theorem BK{g j:Type}{l:List (Key×g)}{m:List (Key×j)}(e:m.map (·.1)=l.map (·.1))(k:Key):(m.any λd=>decide (d.1=k))=l.any λd=>decide (d.1=k):=by
 have f:∀{n:Type}(l:List (Key×n)),(l.any λd=>decide (d.1=k))=(l.map (·.1)).any λq=>decide (q=k):=λl=>by rw[List.any_map];rfl
 rw[f,f,e]
theorem map_put{K:Za}{k:Key}{d:D}{v:V}(r:RV K H d v):∀{l:Z3}{m:List (Key×V)},m.map (·.1)=l.map (·.1)->RVs K H (l.map (·.2)) (m.map (·.2)) ->
  ((m.map λf=>if f.1=k then(f.1,v) else f).map (·.1)=(l.map λf=>if f.1=k then(f.1,d) else f).map (·.1))/\RVs K H ((l.map λf=>if f.1=k then(f.1,d) else f).map (·.2)) ((m.map λf=>if f.1=k then(f.1,v) else f).map (·.2))
 |[],[],_,_=>⟨rfl,.nil⟩
 |[],_::_,e,_=>by cases e
 |_::_,[],e,_=>by cases e
 |(w,y)::l,(p,A)::m,e,g=>by
  simp only[YO,List.cons.injEq] at e;obtain⟨e1,e2⟩:=e;subst e1;simp only[YO] at g;rw[RVs] at g;obtain⟨B,C,z,t,u⟩:=g;cases z;obtain⟨j,n⟩:=map_put r (k:=k) e2 u;by_cases q:p=k
  ·simp only[YO,if_pos q]
   exact⟨by rw[j],.cons r n⟩
  ·simp only[YO,if_neg q]
   exact⟨by rw[j],.cons t n⟩
theorem F8{K:Za}{k:Key}{d:D}{v:V}{l:Z3}{m:List (Key×V)}(r:RV K H d v)(e:m.map (·.1)=l.map (·.1))(f:RVs K H (l.map (·.2)) (m.map (·.2))):(putK m k v).map (·.1)=(putD l k d).map (·.1)/\RVs K H ((putD l k d).map (·.2)) ((putK m k v).map (·.2)):=by
 unfold putK putD;rw[BK e k];split
 ·exact map_put r e f
 ·refine⟨by rw[ZO,ZO,e];rfl,?_⟩
  rw[ZO,ZO];exact RVs.of (a8 f.p (.cons r .nil))
def dPut(o i d:D)(M:MH)(Q:MH->Prop):Prop:=match o with
 |.ref a=>match M a with
  |some (.lst xs)=>intD i λk=>optD (ixN xs.length k) λj=>Q (updM M a (.lst (xs.set j d)))
  |some (.dic f)=>optD (keyD i) λk=>f.length<sizeLine/\Q (updM M a (.dic (putD f k d)))
  |_=>False
 |_=>False
def pW(X:Cx):TSet:=λo i v H Q=>∀a_ s ρ d f u,Inv X a_ ρ H s->RelV o d->RelV i f->RelV v u->wpAny (model X.prog X.w) X.A (setItem d f u) (λ_ g=>∃H',Inv X a_ ρ H' g/\Q H') X.xe s
theorem p_W:PSet X (pW X):=λa_ s σ _ _ _ _ d f u _ I g j k h=>h a_ s σ d f u I g j k
theorem En{o i v:V}{Q d:Hp->Prop}(h:pW X o i v H Q)(g:∀H',Q H'->d H'):pW X o i v H d:=λa_ s ρ f j u I k l m=>thn (h a_ s ρ f j u I k l m) λ_ _ ⟨H',n,q⟩=>⟨H',n,g H' q⟩
theorem putd(hu:X.A.units+40<cLine){x y d:D}{o i v:V}{M:MH}{Q:MH->Prop}(G:RV X.K H x o)(z:RV X.K H y i)(B:RV X.K H d v)(f:RM X.K M H)(h:dPut x y d M Q):pW X o i v H λH'=>Kp H H'/\∃M',RM X.K M' H'/\Q M':=by
 cases x with
 |ref a=>
  cases RV.ref_.1 G;have h:match M a with
   |some (.lst xs)=>intD y λk=>optD (ixN xs.length k) λj=>Q (updM M a (.lst (xs.set j d)))
   |some (.dic g)=>optD (keyD y) λk=>g.length<sizeLine/\Q (updM M a (.dic (putD g k d)))
   |_=>False:=h
  split at h
  ·rename_i xs e1
   obtain⟨k,rfl,h⟩:=n6 h;obtain⟨j,e2,q⟩:=aL h;cases RV.int_.1 z;obtain⟨us,sq,l⟩:=f _ _ e1;have kk:=Kp.put (o':=.lst (us.set j v)) sq trivial;intro a_ s ρ C E u I n r t;exact set_list a_ s ρ H _ _ _ C E u _ I n r t ⟨a,us,k,j,rfl,rfl,sq,by rw[←l.len];exact e2,kk,_,f.put (m:=.lst (xs.set j d)) sq trivial ⟨_,ay,RVs.of (uq (RV.mono kk _ B) j (RVs.mono kk _ l).p)⟩,q⟩
  ·rename_i g e1
   obtain⟨k,e2,hl,q⟩:=aL h
   have:=xm e2 z
   subst this;obtain⟨w,sq,F,l⟩:=f _ _ e1;have kk:=Kp.put (o':=.dK (putK w k v)) sq trivial;obtain⟨p1,p2⟩:=F8 (k:=k) (RV.mono kk _ B) F (RVs.mono kk _ l);have J:w.length<sizeLine:=by have:=congrArg List.length F;simp only[ZG] at this;omega
   intro a_ s ρ C E u I n r t;cases n;exact zE (by omega) I (.inl ⟨w,k,sq,rfl,J,rfl⟩) r t λO L=>⟨_,L,kk,_,f.put (m:=.dic (putD g k d)) sq trivial ⟨_,ay,p1,p2⟩,q⟩
  ·exact Yh h
 |_=>exact Yh h
theorem sole{tg:Expr}{n:Nat}{env:Env}(h:cO v=true):swapsWithSole [tg] v n env=pure false:=qf h
def uM(f g j:WE):WS:=λE σ M=>f σ M λd M1=>g σ M1 λx M2=>j σ M2 λy k=>dPut x y d k λl=>E.nx σ l
theorem z8{k l m:WE}{p:Pos}(hu:X.A.units+40<cLine)(B:PEd X v k)(C:PEd X o l)(hi:PEd X i m)(hc:cO v=true)(F:jL i=true):PSd X (.Assign [.Subscript o i p] v pos) (uM k l m):=by
 intro σ M ρ H E rs G h;refine c8 (zj (pe_W v) (E9 (pe_W o) (pe_W i) p_W (by intro w;cases i<;>first | rfl | exact absurd (show false=true from F) YI)) (sole hc) (by cases v<;>rfl) rfl) ?_;show tW X v ρ H _;refine aC (B σ M ρ H _ rs G h) λu n I=>?_
 obtain⟨f,d,M1,J,K,L⟩:=I;show tW X o ρ n _;refine aC (C σ M1 ρ n _ (rs.mono f) K L) λw' r O=>?_
 obtain⟨g,x,M2,P,R,S⟩:=O;show tW X i ρ r _;refine aC (hi σ M2 ρ r _ (rs.mono (f.trans g)) R S) λz H3 T=>?_
 obtain⟨j,y,M3,U,V,W⟩:=T;refine En (putd hu (RV.mono j x P) U (RV.mono (g.trans j) d J) V W) λH4 Y=>?_
 obtain⟨t,Z,m4,q4⟩:=Y;exact⟨f.trans (g.trans (j.trans t)),σ,Z,rs.mono (f.trans (g.trans (j.trans t))),m4,q4⟩
abbrev WP:=DS->MH->(List (D×D)->MH->Prop)->Prop
def wPs:List (WE×WE)->WP
 |[],_,M,Q=>Q [] M
 |(tk,d)::r,σ,M,Q=>tk σ M λx M1=>d σ M1 λy M2=>wPs r σ M2 λps f=>Q ((x,y)::ps) f
inductive PPd (X:Cx):List (Option Expr)->List Expr->List (WE×WE)->Prop where
 |nil:PPd X [] [] []
 |cons {k v:Expr}{ks:List (Option Expr)}{vs:Zl}{tk tv:WE}{r:List (WE×WE)}:PEd X k tk->PEd X v tv->PPd X ks vs r->PPd X (some k::ks) (v::vs) ((tk,tv)::r)
def CV:List (D×D)->Option (List (Key×D))
 |[]=>some []
 |(k,d)::r=>(keyD k).bind λq=>(CV r).map ((q,d) :: ·)
def F9(f:Z3)(more:Z3):List (Key×D):=more.foldl (λg_ d=>putD g_ d.1 d.2) f
def Ha(ts:List (WE×WE)):WE:=λσ M Q=>∀p,M p=none->wPs ts σ (updM M p (.dic [])) λds M2=>match M2 p with
 |some (.dic [])=>optD (CV ds) λd=>Q (.ref p) (updM M2 p (.dic (F9 [] d)))
 |_=>False
theorem BL:PEd X (.Dict [] [] pos) (λ_ M Q=>∀p,M p=none->Q (.ref p) (updM M p (.dic []))):=by
 intro σ M ρ H Q rs d q;refine bn Bp ?_;intro p hp;exact⟨Kp.new hp,.ref p,_,RV.ref_.2 rfl,d.new (m:=.dic []) hp ⟨[],ay,rfl,.nil⟩,q p (d.fresh hp)⟩
end
abbrev OK0:=Addr->Str->Prop
theorem gX{K:Za}{H:Hp}{f:Str}:∀{fs:List (Str×D)}{a:List (Str×V)},a.map (·.1)=fs.map (·.1)->RVs K H (fs.map (·.2)) (a.map (·.2)) ->
  (fs.lookup f=none->a.lookup f=none)/\∀d,fs.lookup f=some d->∃v,a.lookup f=some v/\RV K H d v
 |[],[],_,_=>⟨λ_=>rfl,λ_ h=>nomatch h⟩
 |[],_::_,e,_=>by cases e
 |_::_,[],e,_=>by cases e
 |(l,m)::fs,(b,c)::a,e,r=>by
  simp only[YO,List.cons.injEq] at e;obtain⟨e1,e2⟩:=e;subst e1;simp only[YO] at r;rw[RVs] at r;obtain⟨v,vs,z,g,j⟩:=r;cases z;obtain⟨k,h2⟩:=gX (f:=f) e2 j;cases q:f==b with
  |true=>simp only[XO,q];exact⟨(λz=>nomatch z),λd z=>by cases z;exact⟨c,rfl,g⟩⟩
  |false=>simp only[XO,q];exact⟨k,h2⟩
def ce(f:Str)(v:D):List (Str×D)->List (Str×D)
 |[]=>[(f,v)]
 |(g,x)::r=>if g=f then(g,v)::r else(g,x)::ce f v r
theorem xw{K:Za}{H:Hp}{f:Str}{d:D}{v:V}(b:RV K H d v):∀{fs:List (Str×D)}{a:List (Str×V)},a.map (·.1)=fs.map (·.1)->RVs K H (fs.map (·.2)) (a.map (·.2)) ->
  (putF f v a).map (·.1)=(ce f d fs).map (·.1)/\RVs K H ((ce f d fs).map (·.2)) ((putF f v a).map (·.2))
 |[],[],_,_=>⟨rfl,.cons b .nil⟩
 |[],_::_,e,_=>by cases e
 |_::_,[],e,_=>by cases e
 |(l,m)::fs,(g,n)::a,e,r=>by
  simp only[YO,List.cons.injEq] at e;obtain⟨e1,e2⟩:=e;subst e1;simp only[YO] at r;rw[RVs] at r;obtain⟨o,vs,z,j,c⟩:=r;cases z;obtain⟨k,h2⟩:=xw (f:=f) b e2 c;unfold putF ce;by_cases q:g=f
  ·rw[if_pos q,if_pos q];exact⟨by simp only[YO,e2],.cons b c⟩
  ·rw[if_neg q,if_neg q];exact⟨by simp only[YO,k],.cons j h2⟩
section
variable {X:Cx}{H:Hp}{e a b c o i v:Expr}{es:Zl}{pos:Pos}
def fldD(O:OK0)(x:D)(f:Str)(M:MH)(Q:D->Prop):Prop:=match x with
 |.ref a=>match M a with
  |some (.ins C fs)=>O C f/\optD (fs.lookup f) Q
  |_=>False
 |_=>False
def wFld(O:OK0)(f:Str)(t:WE):WE:=λσ M Q=>t σ M λx M1=>fldD O x f M1 λd=>Q d M1
theorem Ep{O:OK0}{f:Str}{t:WE}(j:∀C f,O C f->Cls X.K C/\bW X.K C f)(h:PEd X o t)(hb:bq o=true):PEd X (.Attribute o f pos) (wFld O f t):=by
 intro σ M ρ H Q rs l q;refine bn (Fr (pe_W o) (oa hb)) ?_;show tW X o ρ H _;refine aC (h σ M ρ H _ rs l q) λv E m=>?_
 obtain⟨n,x,M1,p,k,g⟩:=m;unfold fldD at g;try dsimp only at g
 split at g
 ·rename_i a
  split at g
  ·rename_i C fs e1
   obtain⟨d,e2,r⟩:=aL g.2;cases RV.ref_.1 p;obtain⟨dx,u,sq,w,y⟩:=k _ _ e1;obtain⟨z,A,B⟩:=(gX w y).2 d e2;exact⟨a,C,dx,u,z,rfl,sq,(j C f g.1).1,(j C f g.1).2,A,n,d,M1,B,k,r⟩
  ·exact Yh g
 ·exact Yh g
def yz(O:OK0)(x:D)(f:Str)(d:D)(M:MH)(Q:MH->Prop):Prop:=match x with
 |.ref a=>match M a with
  |some (.ins C fs)=>(O C f/\fs.length<1000)/\Q (updM M a (.ins C (ce f d fs)))
  |_=>False
 |_=>False
def yA(O:OK0)(f:Str)(g j:WE):WS:=λE σ M=>j σ M λd M1=>g σ M1 λx M2=>yz O x f d M2 λk=>E.nx σ k
theorem BM{O:OK0}{f:Str}{n r:WE}{p:Pos}(t:∀C f,O C f->Cls X.K C/\bW X.K C f)(A:PEd X o n)(B:PEd X v r):PSd X (.Assign [.Attribute o f p] v pos) (yA O f n r):=by
 intro σ M ρ H E rs F q;refine c8 (Fs (pe_W o) (pe_W v) (by cases v<;>rfl)) ?_;show tW X v ρ H _;refine aC (B σ M ρ H _ rs F q) λu w G=>?_
 obtain⟨j,d,M1,I,J,L⟩:=G;show tW X o ρ w _;refine aC (A σ M1 ρ w _ (rs.mono j) J L) λT U P=>?_
 obtain⟨k,x,M2,R,y,g⟩:=P;unfold yz at g;dsimp only at g;split at g
 ·rename_i a
  split at g
  ·rename_i C fs e1
   cases RV.ref_.1 R;obtain⟨dx,l,sq,z,S⟩:=y _ _ e1;have kk:=Kp.put (o':=.ins C dx (putF f u l)) sq trivial;obtain⟨p1,p2⟩:=xw (f:=f) (RV.mono (k.trans kk) d I) z (RVs.mono kk _ S);have hl:l.length<1000:=by have:=congrArg List.length z;simp only[ZG] at this;omega
   exact⟨a,C,dx,l,rfl,sq,(t C f g.1.1).1,(t C f g.1.1).2,hl,j.trans (k.trans kk),σ,_,rs.mono (j.trans (k.trans kk)),y.put (m:=.ins C (ce f d fs)) sq trivial ⟨dx,_,ay,p1,p2⟩,g.2⟩
  ·exact Yh g
 ·exact Yh g
def aW(C:Addr)(sp:SpD):SpD:=λds M Q=>∀x,M x=none->sp (.ref x::ds) (updM M x (.ins C [])) λd M2=>t9 d=true/\Q (.ref x) M2
def MkD(P:ZS)(w:World)(K:Za)(mg:Zi)(base:Heap)(k:Nat)(x:Str)(sp:SpD):Prop:=
 ∃C f fd ps d,Mk K C f/\mg x=some (.ref C)/\Binds K fd ps []/\FnOk P w K mg base CX0 k f fd ps (fH K d)/\sp=aW C d
theorem BN{k:Nat}{x:Str}{sp:SpD}{t:WA}{p:Pos}(F:MkD X.prog X.w X.K X.mg X.base k x sp)(r:Room (k+1) X.A)(hg:Gl X x)(u:(x==("__debug__" : Str))=false)(y:ah e=true)(B:es.all ah=true)(ha:PAd X (e::es) t):
  PEd X (.Call (.Name x p) (e::es) [] pos) (gU sp t):=by
 obtain⟨C,f,fd,ps,Y,M0,hm,hb,E,rfl⟩:=F;intro σ M ρ H Q rs G q;refine bn (Dr M0 E r hg hm hb .nil tZ (pa_W (e::es)) u (aO y) (cw B)) ?_;show tWA X (e::es) ρ H _;refine ca (ha σ M ρ H _ rs G q) λvs I J=>?_
 obtain⟨L,ds,M1,O,l1,g,P⟩:=J;intro z dx hz j R;have S:=Kp.new (o:=.own z) j;have l:(upd I dx (.own z)) z=none:=by rw[aD R.symm];exact hz
 have T:=Kp.new (o:=.ins C dx []) l;have kk:=S.trans T;rw[ZA];refine⟨.ref z::ds,updM M1 z (.ins C []),_,.cons (RV.ref_.2 rfl) (RVs.mono kk _ O),(g.newH j).new (m:=.ins C []) l ⟨dx,[],ay,rfl,.nil⟩,P z (g.fresh hz),λd M' v H' n U V W=>⟨?_,L.trans (kk.trans U),.ref z,M',RV.ref_.2 rfl,W,n.2⟩⟩
 have:=o8 V
 rw[n.1] at this;exact XS this
abbrev MT0:=Addr->Str->Option SpD
def aU(P:ZS)(w:World)(K:Za)(mg:Zi)(base:Heap)(k:Nat)(C:Addr)(m:Str)(sp:SpD):Prop:=
 ∃f fd ps,Cls K C/\Meth K C m f/\Binds K fd ps []/\FnOk P w K mg base CX0 k f fd ps (fH K sp)
def yC(X:Cx)(T:MT0):Prop:=∀C m sp,T C m=some sp->∃k,aU X.prog X.w X.K X.mg X.base k C m sp/\Room k X.A
def ub(x:D)(m:Str)(M:MH)(Q:Addr->Prop):Prop:=match x with
 |.ref a=>match M a with
  |some (.ins C fs)=>fs.lookup m=none/\Q C
  |_=>False
 |_=>False
def qw(T:MT0)(m:Str)(d:WE)(t:WA):WE:=λσ M Q=>d σ M λx M1=>ub x m M1 λC=>optD (T C m) λsp=>t σ M1 λds M2=>sp (x::ds) M2 Q
theorem Ga{env:Env}{p:Pos}(h:es.all ah=true)(hl:es.length<20):methodCallForm (es.length+([]:List Keyword).length) (backTo p (starEach es env)) (backToKw p (keywordEach [] env))=true:=by
 unfold methodCallForm;rw[o9 h];show(true&&true&&decide (es.length+0+0<30))=true;rw[Bool.and_self,XZ];exact YY (by omega)
theorem CW {env:Env} {m:Str} {r_:Pos} (hb:bq o = true) (h:es.all ah = true) (hl:es.length < 20) (g:(r_.endLine == pos.line) = true):eval (.Call (.Attribute o m r_) es [] pos) env = (do
   let d ← eval o env
   standAt r_.atName
   let (f,first) ← holding [d] (getMethod d m (do return (← importBound o env).getD true))
   callWith pos f first (backTo pos (starEach es env)) (backToKw pos (keywordEach [] env))):=by
 rw [arm_eval_Call,oa hb]
 unfold methodCall calleeOf methodCallPos
 rw [Ga h hl]
 simp [g]
theorem BO{T:MT0}{m:Str}{l:WE}{t:WA}{r_:Pos}(B:yC X T)(E:PEd X o l)(ha:PAd X (e::es) t)(hb:bq o=true)(n:ah e=true)(p:es.all ah=true)(hl:es.length<19)(G:(r_.endLine==pos.line)=true):
  PEd X (.Call (.Attribute o m r_) (e::es) [] pos) (qw T m l t):=by
 intro σ M ρ H Q rs J h a_ s I;have K:(e::es).all ah=true:=by rw[XT,n,p];rfl
 refine PySem.W.methodCall_KW (thn (E σ M ρ H _ rs J h a_ s I) λu s1 L=>?_) (CW hb K (by rw[YM];omega) G);obtain⟨v,O,w,j,⟨y,x,M1,P,z,g⟩⟩:=L;unfold ub at g;dsimp only at g;split at g
 ·rename_i a
  split at g
  ·rename_i C fs e1
   obtain⟨hn,g⟩:=g;obtain⟨sp,R,g⟩:=aL g;cases RV.ref_.1 P;obtain rfl:u=Value.ref a:=j;obtain⟨dx,gs,sq,S,U⟩:=z _ _ e1;obtain⟨k,⟨f,fd,ps,c,hm,V,F⟩,Y⟩:=B C m sp R
   ·refine pQ w sq c hm ((gX S U).1 hn) ?_
    refine PySem.W.callWith_K (first:=[.ref a]) (h₀:=X.base) I.ok.mod.kin hm.kp (thn (ha σ M1 ρ O _ (rs.mono y) z g pos a_ s1 w) λus s2 Z=>?_) (aO n) (cw p);obtain⟨vs,H2,A,r,⟨k2,ds,M2,r2,l2,m2,q2⟩⟩:=Z;refine⟨A.kIn,?_⟩;refine ui (us:=.ref a::us) (vs:=.ref a::vs) F Y V .nil tZ A (.cons rfl r) ?_;rw[ZA];exact⟨.ref a::ds,M2,Q,.cons (RV.ref_.2 rfl) r2,m2,q2,λd M' v H' qd kq j mm=>⟨y.trans (k2.trans kq),d,M',j,mm,qd⟩⟩
  ·exact Yh g
 ·exact Yh g
theorem z9{T:MT0}{m:Str}{n:WE}{r_:Pos}(r:yC X T)(t:PEd X o n)(hb:bq o=true)(w:(r_.endLine==pos.line)=true):
  PEd X (.Call (.Attribute o m r_) [] [] pos) (qw T m n wNil):=by
 intro σ M ρ H Q rs y h a_ s I;refine PySem.W.methodCall_KW (thn (t σ M ρ H _ rs y h a_ s I) λu s1 z=>?_) (CW hb rfl (by decide) w);obtain⟨v,S,j,l,⟨A,x,M1,B,p,g⟩⟩:=z;unfold ub at g;dsimp only at g;split at g
 ·rename_i a
  split at g
  ·rename_i C fs e1
   obtain⟨hn,g⟩:=g;obtain⟨sp,E,g⟩:=aL g;cases RV.ref_.1 B;obtain rfl:u=Value.ref a:=l;obtain⟨dx,U,sq,G,J⟩:=p _ _ e1;obtain⟨k,⟨f,fd,ps,c,hm,K,F⟩,L⟩:=r C m sp E;refine pQ j sq c hm ((gX G J).1 hn) ?_;refine PySem.W.callWith_K0 (first:=[.ref a]) j.kIn hm.kp (ui (us:=[.ref a]) (vs:=[.ref a]) F L K .nil tZ j (.cons rfl .nil) ?_);exact⟨[.ref a],M1,Q,.cons (RV.ref_.2 rfl) .nil,p,g,λd M' v H' O P l R=>⟨A.trans P,d,M',l,R,O⟩⟩
  ·exact Yh g
 ·exact Yh g
end
def eve{b:Type}:List b->List b
 |[]=>[]
 |[a]=>[a]
 |a::_::r=>a::eve r
theorem oi{c:Type}:∀(l:List c) (k:Nat),(eve l)[k]?=l[2*k]?
 |[],k=>by simp[eve]
 |[a],0=>rfl
 |[a],k+1=>by simp[eve]
 |a::b::r,0=>rfl
 |a::b::r,k+1=>by
  rw[eve,List.getElem?_cons_succ,oi r k,show 2*(k+1)=2*k+1+1 by omega,List.getElem?_cons_succ,List.getElem?_cons_succ]
theorem oj{c:Type}:∀l:List c,(eve l).length=(l.length+1) / 2
 |[]=>by simp[eve]
 |[a]=>by simp[eve]
 |a::b::r=>by
  rw[eve,YM,oj r,YM,YM];omega
theorem Aa{c:Type}(a:List c):(List.range ((a.length+1) / 2)).filterMap (λk=>a[2*k]?)=eve a:=by
 have b:∀n,n<=(a.length+1) / 2->(List.range n).filterMap (λk=>a[2*k]?)=(eve a).take n:=by
  intro n;induction n with
  |zero=>intro _;rfl
  |succ n d=>
   intro h;have hl:=oj a;rw[List.range_succ,List.filterMap_append,d (by omega),List.take_add_one];congr 1;have:(eve a)[n]?=some ((eve a)[n]'(by omega)):=ZE (by omega)
   simp only[YB,List.filterMap_nil,←oi,this,Option.toList]
 rw[b _ (YJ _),←oj,List.take_length]
theorem uN{b c:Type}{f g:b->Option c}:∀{l:List b},(∀x∈l,f x=g x)->l.filterMap f=l.filterMap g
 |[],_=>rfl
 |a::l,h=>by
  rw[YB,YB,h a YC,uN λx hx=>h x (.tail _ hx)]
theorem Ab(d_:Zh)(lo hi:Zv):slicePick d_.toArray lo hi (some 2)=(eve ((d_.drop (HT.sIx d_.length 0 lo)).take (HT.sIx d_.length d_.length hi-HT.sIx d_.length 0 lo))).toArray:=by
 have c:(sliceBounds lo hi (some 2) d_.toArray.size).2.2=2:=rfl;have d:(sliceBounds lo hi (some 2) d_.toArray.size).1=((HT.sIx d_.length 0 lo:Nat):Int):=by
  cases lo with
  |none=>simp[sliceBounds,HT.sIx]
  |some i=>
   simp only[sliceBounds,HT.sIx,Option.getD_some,show(2:Int)>0 by decide,if_true,YL];by_cases h:i<0
   ·simp only[h,if_true]<;>omega
   ·simp only[h,if_false]<;>omega
 have h2:(sliceBounds lo hi (some 2) d_.toArray.size).2.1=((HT.sIx d_.length d_.length hi:Nat):Int):=by
  cases hi with
  |none=>simp[sliceBounds,HT.sIx]
  |some i=>
   simp only[sliceBounds,HT.sIx,Option.getD_some,show(2:Int)>0 by decide,if_true,YL];by_cases h:i<0
   ·simp only[h,if_true]<;>omega
   ·simp only[h,if_false]<;>omega
 have hb:HT.sIx d_.length d_.length hi<=d_.length:=HT.zy _ _ (YJ _) hi;unfold slicePick;rw[d,h2,c];generalize HT.sIx d_.length 0 lo=a at *;generalize HT.sIx d_.length d_.length hi=b at *;rw[←Aa];unfold sliceRange;have hc:(if(2:Int)>0 then(if(a:Int)<(b:Int) then((b:Int)-(a:Int)+2-1) / 2 else 0) else(if(a:Int)>(b:Int) then((a:Int)-(b:Int)-2-1) / (-2) else 0)).toNat=(((d_.drop a).take (b-a)).length+1) / 2:=by
  rw[if_pos (by decide),YV,XA];by_cases h:a<b
  ·rw[if_pos (by omega)];omega
  ·rw[if_neg (by omega)];omega
 simp only[hc,List.filterMap_map];congr 1;refine uN λk hk=>?_
 rw[ZZ,YV,XA] at hk;show d_.toArray[((a:Int)+2*(k:Int)).toNat]?=_;rw[show((a:Int)+2*(k:Int)).toNat=a+2*k by omega,List.getElem?_toArray,List.getElem?_take_of_lt (by omega),List.getElem?_drop]
section
variable {X:Cx}{H:Hp}{e a b c o:Expr}{es:Zl}{pos:Pos}
theorem Ac{d f:Type}{F:d->f->Prop}:∀{l:List d}{m:List f},Paired F l m->Paired F (eve l) (eve m)
 |_,_,.nil=>.nil
 |_,_,.cons h .nil=>.cons h .nil
 |_,_,.cons h (.cons _ t)=>.cons h (Ac t)
theorem uO:∀{vs:List V}{us:Zh},Vals vs us->Vals (eve vs) (eve us)
 |_,_,.nil=>.nil
 |_,_,.cons h .nil=>.cons h .nil
 |_,_,.cons h (.cons _ t)=>.cons h (uO t)
theorem Gb{d:Type}(l:List d):(eve l).length<=l.length:=by
 have:=oj l
 cases l with
 |nil=>exact YJ _
 |cons _ _=>rw[YM] at *;omega
def tSl2(K:Za)(te:TE)(tl f:TO):TE:=λσ H Q=>te σ H λx g=>tl σ g λl j=>f σ j λu d=>∃a xs,x=.ref a/\SqL K d a xs/\∀p,d p=none->Q (.ref p) (upd d p (.lst (eve (cutV xs l u))))
theorem Ad{te:TE}{tl g:TO}{lo hi:Option Expr}{p2 p3:Pos}{j:Nat}(t:PE X e te)(hl:PO X lo tl)(hu:PO X hi g):PE X (.Subscript e (.Slice lo hi (some (.Constant (.int 2) j p3)) p2) pos) (tSl2 X.K te tl g):=by
 intro a_ s σ H Q I h;refine Subscript_ (thn (t a_ s σ H _ I h) λv s1 y=>?_);obtain⟨x,z,B,C,E⟩:=y;refine wpAny_Slice (thn (hl a_ s1 σ z _ B E) λk s2 F=>?_);obtain⟨l,G,J,pl,L⟩:=F;refine thn (hu a_ s2 σ G _ J L) λm O P=>?_
 obtain⟨u,n,R,S,a,xs,rfl,hx,T⟩:=P;refine thn (wW zi a_ O σ n (λo H'=>o=some 2/\H'=n) R ⟨2,rfl,rfl,rfl⟩) λp d U=>?_
 obtain⟨o,V,W,pt,rfl,rfl⟩:=U;have f:Inv X a_ σ V { d with heap:=d.heap.push { cls:=.type "slice",data:=.fields #[k,m,p] } }:=W.kept (t':=d.toks) λb Y q=>Yd _ q
 cases C;obtain⟨d_,r,ht,hz⟩:=f.list hx;have Z:=r.length;show wpAny (model X.prog X.w) X.A (subscriptTail e (.Slice lo hi (some (.Constant (.int 2) j p3)) p2) (.ref a) (.ref d.heap.objs.size)) (EP X a_ σ Q) X.xe { d with heap:=d.heap.push { cls:=.type "slice",data:=.fields #[k,m,p] } };refine tail_any (ops:=[.ref a,.ref d.heap.objs.size]) ht.isList.typeIs slot_list_getitem.lookup ?_ (by with_unfolding_all rfl);refine wpAny_getItem_list_slice ht.isList (Heap.IsSliceOf.new ..) pl S pt (by simp) ?_ (by rw[YL];omega);rw[Ab,←Z];have hq:=T _ (f.hok.fresh (YJ _));refine⟨.ref _,_,f.laid (t':=d.toks) (o:=.lst (eve (cutV xs l u))) (λb Y q=>Yd _ q) (YJ _) ?_,rfl,hq⟩;exact⟨YA (Gb _) (YA (kH xs l u) hz),_,0,uO ((r.drop (HT.sIx xs.length 0 l)).take (HT.sIx xs.length xs.length u-HT.sIx xs.length 0 l)),Yg _ rfl⟩
def dSl2(x:D)(lo hi:Zv)(M:MH)(Q:DK):Prop:=match x with
 |.ref a=>optD (rdL (M a)) λds=>∀p,M p=none->Q (.ref p) (updM M p (.lst (eve (cutL ds lo hi))))
 |_=>False
def wSl2(d:WE)(tl f:WO):WE:=λσ M Q=>d σ M λx M1=>tl σ M1 λl M2=>f σ M2 λu g=>dSl2 x l u g Q
theorem Er{g:WE}{tl n:WO}{lo hi:Option Expr}{p2 p3:Pos}{j:Nat}(ha:PEd X a g)(hl:POd X lo tl)(z:POd X hi n):PEd X (.Subscript a (.Slice lo hi (some (.Constant (.int 2) j p3)) p2) pos) (wSl2 g tl n):=by
 intro σ M ρ H Q rs A h;refine bn (Ad (pe_W a) (po_W lo) (po_W hi)) ?_;show tW X a ρ H _;refine aC (ha σ M ρ H _ rs A h) λv r B=>?_
 obtain⟨d,x,M1,C,E,F⟩:=B;show oWp X lo ρ r _;refine lZ (hl σ M1 ρ r _ (rs.mono d) E F) λl t G=>?_
 obtain⟨w,M2,I,J⟩:=G;show oWp X hi ρ t _;refine lZ (z σ M2 ρ t _ (rs.mono (d.trans w)) I J) λu P K=>?_
 obtain⟨L,R,f,y⟩:=K;have kk:=d.trans (w.trans L);cases x with
 |ref a=>
  cases RV.ref_.1 C;obtain⟨ds,e1,q⟩:=aL y;obtain⟨vs,sq,O⟩:=f.list e1;refine⟨a,vs,rfl,sq,λp hp=>bv kk ?_⟩;have k:=Kp.new (o:=.lst (eve (cutV vs l u))) hp;exact⟨k,.ref p,_,RV.ref_.2 rfl,f.new (m:=.lst (eve (cutL ds l u))) hp ⟨_,ay,RVs.mono k _ (RVs.of (Ac (uJ O l u).p))⟩,q p (f.fresh hp)⟩
 |_=>exact Yh y
end
end DD
namespace DD
open PySem PyProof.Rows L2
section
variable {K:Type}[DecidableEq K]
def addK(l:List K)(k:K):List K:=if k∈l then l else l++[k]
def aV(ks:List K):List K:=ks.foldl addK []
theorem qx(ks:List K)(k:K):aV (ks++[k])=addK (aV ks) k:=by unfold aV;rw[List.foldl_append];rfl
theorem uP(l:List K)(k:K):(addK l k).length=if decide (k∈l) then l.length else l.length+1:=by
 unfold addK;by_cases h:k∈l
 ·rw[if_pos h,if_pos (YY h)]
 ·rw[if_neg h,if_neg (by simpa using h)];simp
theorem BP(l:List K)(k j:K):decide (j∈addK l k)=(decide (j∈l)||decide (j=k)):=by
 unfold addK;by_cases h:k∈l
 ·rw[if_pos h]
  by_cases e:j=k
  ·subst e;simp[h]
  ·simp[e]
 ·rw[if_neg h];simp
theorem mC:∀(ks l:List K),(ks.foldl addK l).length<=l.length+ks.length
 |[],l=>by simp
 |k::ks,l=>by
  have a:=mC ks (addK l k);have h2:(addK l k).length<=l.length+1:=by rw[uP];split<;>omega
  simp only[List.foldl_cons,YM];omega
theorem BQ(ks:List K):(aV ks).length<=ks.length:=by have:=mC ks [];simpa [aV] using this
end
section
variable {prog:ZS}{w:World}{A:Around}{R:Result->Shared->Prop}{K:Type}[DecidableEq K]{knd:KeyKind prog w K}
theorem uQ{h:Heap}{a:Addr}{S S':K->Bool}{n n':Nat}(q:h.SetOf knd a S n)(e:∀k,S k=S' k)(b:n=n'):h.SetOf knd a S' n':=by
 obtain rfl:S=S':=funext e;subst b;exact q
theorem qy{h h':Heap}{a:Addr}{S:K->Bool}{n:Nat}(q:h.SetOf knd a S n)(k:∀o,h.get? a=some o->h'.get? a=some o):h'.SetOf knd a S n:=by
 obtain⟨o,es,b,t,y,r⟩:=q;exact⟨o,es,b,t,k o y,r⟩
theorem BR{I:Addr}{fp wr:Zm}{G:Array GenState->Array GenState->Prop}{n:Nat}{P:Nat->Value->Prop}{St:Nat->Shared->Prop}(W:WalksS prog w A.in1 I fp wr G n P St){B:Addr}(f:B∉fp){ks:List K}
  (hn:ks.length=n) (m:∀i v,P i v->∀k,ks[i]?=some k->knd.is k v=true/\v.scannable=true) (hb:n+1<scanBound):
  ∀(j i:Nat) (t:Shared),n-i=j->i<=n->St i t->t.heap.SetOf knd B (λk=>decide (k∈aV (ks.take i))) (aV (ks.take i)).length ->
   (∀t',Moved (B::wr) G t t'->t'.heap.SetOf knd B (λk=>decide (k∈aV ks)) (aV ks).length->R (.ok (.ret .none)) t') ->
   codeAny (model prog w) A (.builtin "set.update.loop" ⟨[.ref B,.ref I],[]⟩) R t:=by
 have hw:B∉wr:=λh=>f (W.sub _ h)
 have g:∀b∈wr,b∈B::wr:=λb y=>.tail _ y
 intro j;induction j with
 |zero=>
  intro i t e hi st q d;obtain rfl:i=n:=by omega
  refine codeAny_builtin F.entry_set_update_loop ?_;rw[Around.under_plainId F.plain_set_update_loop _];refine Yb (show wpAny _ A.in1 (pyNext (.ref I)) _ _ t from W.done t _ _ st λt' a=>?_);refine show wpAny _ A.in1 (ret Value.none) _ _ t' from Yc (d t' (a.mono g) ?_);rw[XW (Nat.le_of_eq hn)] at q;exact qy q λo y=>a.heap B _ hw y
 |succ j r=>
  intro i t e hi st q d;have lt:i<n:=by omega
  refine codeAny_builtin F.entry_set_update_loop ?_;rw[Around.under_plainId F.plain_set_update_loop _];refine Yb (show wpAny _ A.in1 (pyNext (.ref I)) _ _ t from W.item i t _ _ lt st λv t' p f_ a=>?_);obtain⟨k,hk⟩:∃k,ks[i]?=some k:=⟨_,ZE (by omega)⟩;obtain⟨is,sc⟩:=m i v p k hk;have u:=qy (h':=t'.heap) q λo y=>a.heap B _ hw y
  refine Yb (show wpAny _ A.in1 (holding [v] (setAdd B v)) _ _ t' from Yj ?_);unfold setAdd;refine Yj (Yb (knd.pyHash is ?_));have c:(aV (ks.take i)).length+1<scanBound:=by have:=BQ (ks.take i);rw[YV] at this;omega
  have tk:ks.take (i+1)=ks.take i++[k]:=by rw[List.take_add_one,hk];rfl
  refine wpAny_setAddHashed_of (knd:=knd) (s:={ t' with toks:=t'.toks+1 }) is sc u c λh' l C=>?_
  have E:=uQ (S':=λk'=>decide (k'∈aV (ks.take (i+1)))) (n':=(aV (ks.take (i+1))).length) C (λk'=>by rw[tk,qx,BP]) (by rw[tk,qx,uP]);refine Yc ⟨plainId_quiet F.plain_set_update_loop _,r (i+1) _ (by omega) lt (W.frame _ t' _ _ f_ (YR _) λb y o e=>?_) E λJ L O=>?_⟩
  ·rw[l.2 b (λz:b=B=>f (z▸y))];exact e
  ·refine d J (Moved.trans W.gtrans ((a.mono g).then_heap (YR _) λb o y e=>?_) L) O
   rw[l.2 b (λz:b=B=>y (z▸YC))];exact e
end
end DD
set_option maxHeartbeats 8000000
namespace DD
open PySem PyProof.Rows L2
section
variable {prog:ZS}{w:World}{A:Around}{Z:Zd}{s:Shared}{K:Type}[DecidableEq K]{knd:KeyKind prog w K}
def da(led:Bool):Obj:={ cls:=.type "set",dict:=none,data:=.set #[] 0 (.fresh 0 0 led) }
theorem sZ{T I:String}{l:Addr}{a:Zq}{ks:List K}{Q:Zd}{od:Zr}{m:Nat}{Hl:Zs}(G:A.handled=none)(p:s.heap.get? l=some { cls:=.type T,dict:=od,data:=.seq a m,slots:=Hl })(s1:isSubtype (.type T) (.type "set")=pure false)(s2:isSubtype (.type T) (.type "frozenset")=pure false)(s3:(Value.type T==Value.type "dict")=false)
  (L:∀{A:Around} {E:Zd} {t:Shared} {Q:Zd},t.heap.get? l=some { cls:=.type T,dict:=od,data:=.seq a m,slots:=Hl }->Q (.ref t.heap.objs.size) { t with heap:=t.heap.push { cls:=.type I,data:=.fields #[.ref l,.int 0 0] } }->wpAny (model prog w) A (pyIter (.ref l)) Q E t)
  (O:∀J,l≠J->∃St:Nat->Heap->Prop,(∀{A:Around},A.handled=none->Walks prog w A J [J,l] [J] a.size (λi v=>a[i]?=some v) St)/\∀h:Heap,h.get? J=some { cls:=.type I,data:=.fields #[.ref l,.int 0 0] }->h.get? l=some { cls:=.type T,dict:=od,data:=.seq a m,slots:=Hl }->St 0 h)
  (hn:ks.length=a.size)
  (P:∀(i:Nat) (v:Value),a[i]?=some v->∀k,ks[i]?=some k->knd.is k v=true/\v.scannable=true) (hb:a.size+1<scanBound)
  (q:∀(h':Heap) (tk:Nat),h'.SetOf knd s.heap.objs.size (λk=>decide (k∈aV ks)) (aV ks).length ->
   (∀b o,b<s.heap.objs.size->s.heap.get? b=some o->h'.get? b=some o)->Q (.ref s.heap.objs.size) { s with heap:=h',toks:=tk }):
  wpAny (model prog w) A (call (.type "set") [.ref l]) Q Z s:=by
 obtain⟨c,tl,RW⟩:=F.called_set.mro;have Qo:=F.called_set.made;have OC:=F.called_set.sub;have n1:=F.called_set.notType;have n2:=F.called_set.canCreate;have n3:=F.typeCall_set_1 (.ref l);refine wpAny_call (codeAny_of_tree (show wpAny _ _ (callAny (.type "set") _) _ _ _ from Yc ⟨Code.quiet_builtin _ (by rfl'),codeAny_builtin F.entry_type_call ?_⟩));rw[Around.under_plain (weight_type_call_type "set" [.ref l] []) rfl];repeat (any_goals (first | assumption | wp_step))
 refine codeAny_mono (code_set_new_1 (.ref l) (E:=Z) (Q₁:=λo t=>∃led:Bool,o=.ref s.heap.objs.size/\t={ s with heap:=s.heap.push (da led) }) λled=>⟨led,rfl,rfl⟩) λr t f=>?_
 cases r with
 |error e=>exact f
 |ok fl=>
  cases fl with
  |ret o=>
   obtain⟨led,rfl,rfl⟩:=f;have u:(s.heap.push (da led)).get? s.heap.objs.size=some (da led):=Yg _ rfl;have ty:Shared.TypeIs { s with heap:=s.heap.push (da led) } (.ref s.heap.objs.size) "set":=⟨_,u,rfl⟩;have l1:=F.called_set.init.lookup;have l2:=F.called_set.init.bind (.ref s.heap.objs.size);repeat (any_goals (first | assumption | wp_step))
   refine codeAny_mono (codeAny_call_builtin (R:=wants (λr z=>r=.none/\∃h' tk,z={ s with heap:=h',toks:=tk }/\h'.SetOf knd s.heap.objs.size (λk=>decide (k∈aV ks)) (aV ks).length /\
     (∀b o,b<s.heap.objs.size->s.heap.get? b=some o->h'.get? b=some o)) Z) F.called_set.init.plain F.entry_set_init (check_set_init_1 ty ?_)) λS z g=>?_
   ·have B:(s.heap.push (da led)).get? l=some { cls:=.type T,dict:=od,data:=.seq a m,slots:=Hl }:=Yd _ p
    unfold Builtin.«set.__init__» noKeywords Builtin.Frozenset.updateFrom;generalize hPI:pyIter=PI;wp_walk;subst hPI;refine L B (Yb (wpAny_runValue ?_));have j:(s.heap.push (da led)).objs.size=s.heap.objs.size+1:=Heap.size_push ..;have C:l<s.heap.objs.size:=Ye p;have U:l≠(s.heap.push (da led)).objs.size:=by rw[j];exact ZX (Nat.lt_succ_of_lt C)
    have V:s.heap.objs.size∉[(s.heap.push (da led)).objs.size,l]:=by
     rw[j];intro y;rcases YE.1 y with y | y
     ·exact absurd y (ZX (Nat.lt_succ_self _))
     ·exact absurd (XR.1 y) (Nat.ne_of_gt C)
    obtain⟨St,W,X⟩:=O _ U;refine BR ((W (by simp[G])).toS) (knd:=knd) (ks:=ks) V hn P hb (a.size-0) 0 _ (by omega) (YQ _) (X _ (Yg _ rfl) (Yd _ B)) ?_ ?_
    ·have:=(setObjOf_fresh (knd:=knd) led).setOf (Yd ({ cls:=.type I,data:=.fields #[.ref l,.int 0 0] }:Obj) u) (by unfold scanBound;omega)
     exact uQ this (λk=>by simp[aV]) (by simp[aV])
    ·intro t' d n
     obtain⟨h',g',d',Y,NX⟩:=t';obtain rfl:g'=s.gens:=d.gens;obtain rfl:d'=s.drawn:=d.drawn;obtain rfl:NX=s.os:=d.os;refine Yc (show wpAny _ _ (ret Value.none) _ _ _ from Yc ⟨rfl,h',Y,rfl,n,λb o lt e=>d.heap b o ?_ (Yd _ (Yd _ e))⟩);rw[j];intro y;rcases YE.1 y with y | y
     ·exact ZX lt y
     ·exact ZX (Nat.lt_succ_of_lt lt) (XR.1 y)
   ·cases S with
    |error e=>exact g
    |ok RX=>
     cases RX with
     |ret r=>
      obtain⟨rfl,h',tk,rfl,n,k'⟩:=g;repeat (any_goals (first | assumption | wp_step))
      exact q _ _ n k'
     |_=>exact g.elim
  |_=>exact f.elim
theorem Ae{l:Addr}{c:Zq}{ks:List K}{Q:Zd}(d:A.handled=none)(hl:s.heap.IsList l c)(hn:ks.length=c.size)
  (f:∀(i:Nat) (v:Value),c[i]?=some v->∀k,ks[i]?=some k->knd.is k v=true/\v.scannable=true) (hb:c.size+1<scanBound)
  (q:∀(h':Heap) (tk:Nat),h'.SetOf knd s.heap.objs.size (λk=>decide (k∈aV ks)) (aV ks).length ->
   (∀b o,b<s.heap.objs.size->s.heap.get? b=some o->h'.get? b=some o)->Q (.ref s.heap.objs.size) { s with heap:=h',toks:=tk }):
  wpAny (model prog w) A (call (.type "set") [.ref l]) Q Z s:=by
 obtain⟨⟨oc,od,j,Hl⟩,n,p,m,r⟩:=hl;obtain rfl:oc=.type "list":=p;obtain rfl:j=.seq c m:=r;exact sZ (I:="list_iterator") d n F.sub_list_set F.sub_list_frozenset (by decide) (λg=>wpAny_pyIter_list ⟨_,g,rfl,_,rfl⟩) (λJ t=>⟨_,λh=>Walks.list h J l t c,λh' a b=>⟨⟨_,a,rfl,rfl⟩,⟨_,b,rfl,_,rfl⟩⟩⟩) hn f hb q
theorem yD{l:Addr}{c:Zq}{ks:List K}{Q:Zd}(d:A.handled=none)(hl:s.heap.IsTuple l c)(hn:ks.length=c.size)
  (f:∀(i:Nat) (v:Value),c[i]?=some v->∀k,ks[i]?=some k->knd.is k v=true/\v.scannable=true) (hb:c.size+1<scanBound)
  (q:∀(h':Heap) (tk:Nat),h'.SetOf knd s.heap.objs.size (λk=>decide (k∈aV ks)) (aV ks).length ->
   (∀b o,b<s.heap.objs.size->s.heap.get? b=some o->h'.get? b=some o)->Q (.ref s.heap.objs.size) { s with heap:=h',toks:=tk }):
  wpAny (model prog w) A (call (.type "set") [.ref l]) Q Z s:=by
 obtain⟨⟨oc,od,j,Hl⟩,n,p,m,r⟩:=hl;obtain rfl:oc=.type "tuple":=p;obtain rfl:j=.seq c m:=r;exact sZ (I:="tuple_iterator") d n F.sub_tuple_set F.sub_tuple_frozenset (by decide) (λg=>wpAny_pyIter_tuple ⟨_,g,rfl,_,rfl⟩) (λJ t=>⟨_,λh=>Walks.tuple h J l t c,λh' a b=>⟨⟨_,a,rfl,rfl⟩,⟨_,b,rfl,_,rfl⟩⟩⟩) hn f hb q
end
end DD
namespace DD
open PySem PySem.Spec PyProof.Rows L2
def l0:List D->Option (List Str)
 |[]=>some []
 |.str x::r=>(l0 r).map (x :: ·)
 |_=>none
def gY:List D->Option (List Int)
 |[]=>some []
 |.int x::r=>(gY r).map (x :: ·)
 |_=>none
theorem uR{K:Za}{H:Hp}:∀{ds:List D}{ks:Zk}{vs:List V},l0 ds=some ks->RVs K H ds vs->vs=ks.map V.str
 |[],ks,vs,h,r=>by
  rw[l0] at h;cases h;rw[RVs] at r;subst r;rfl
 |.str x::ds,ks,vs,h,r=>by
  rw[l0] at h;rw[RVs] at r;obtain⟨v,c,rfl,a,b⟩:=r;cases q:l0 ds with
  |none=>rw[q] at h;cases h
  |some d=>
   rw[q] at h;cases h;rw[uR q b,RV.str_.1 a];rfl
 |.non::_,_,_,h,_=>by cases h
 |.bl _::_,_,_,h,_=>by cases h
 |.int _::_,_,_,h,_=>by cases h
 |.tup _::_,_,_,h,_=>by cases h
 |.ref _::_,_,_,h,_=>by cases h
 |.ty _::_,_,_,h,_=>by cases h
theorem pb{K:Za}{H:Hp}:∀{ds:List D}{ks:Zn}{vs:List V},gY ds=some ks->RVs K H ds vs->vs=ks.map V.int
 |[],ks,vs,h,r=>by
  rw[gY] at h;cases h;rw[RVs] at r;subst r;rfl
 |.int x::ds,ks,vs,h,r=>by
  rw[gY] at h;rw[RVs] at r;obtain⟨v,c,rfl,a,b⟩:=r;cases q:gY ds with
  |none=>rw[q] at h;cases h
  |some d=>
   rw[q] at h;cases h;rw[pb q b,RV.int_.1 a];rfl
 |.non::_,_,_,h,_=>by cases h
 |.bl _::_,_,_,h,_=>by cases h
 |.str _::_,_,_,h,_=>by cases h
 |.tup _::_,_,_,h,_=>by cases h
 |.ref _::_,_,_,h,_=>by cases h
 |.ty _::_,_,_,h,_=>by cases h
def om(xs:List D)(Q:Int->Prop):Prop:=xs.length<4000/\match l0 xs with
 |some ks=>Q ((aV ks).length:Nat)
 |none=>match gY xs with
  |some ks=>Q ((aV ks).length:Nat)
  |none=>False
def lstD(d:D)(M:MH)(Q:List D->Prop):Prop:=match d with
 |.ref a=>match M a with
  |some (.lst xs)=>Q xs
  |some (.rol xs)=>Q xs
  |_=>False
 |_=>False
def seqL(d:D)(M:MH)(Q:List D->Prop):Prop:=match d with
 |.tup xs=>Q xs
 |d=>lstD d M Q
def rV(t:WE):WE:=λσ M Q=>t σ M λd M1=>seqL d M1 λxs=>om xs λn=>Q (.int n) M1
section
variable {X:Cx}{H:Hp}{pos:Pos}
theorem Et{K:Za}{d:D}{M:MH}{Q:List D->Prop}{v:V}(q:lstD d M Q)(f:RV K H d v)(g:RM K M H):∃a xs vs,v=.ref a/\SqL K H a vs/\RVs K H xs vs/\Q xs:=by
 unfold lstD at q;split at q
 ·rename_i a
  split at q
  ·rename_i xs e
   obtain⟨b,e1,c⟩:=g a _ e;exact⟨a,xs,b,RV.ref_.1 f,SqL.of e1,c,q⟩
  ·rename_i xs e
   obtain⟨b,e1,c⟩:=g a _ e;exact⟨a,xs,b,RV.ref_.1 f,.inl e1,c,q⟩
  ·exact Yh q
 ·exact Yh q
theorem Af{a_:Zg}{ρ:L2.St}{s:Shared}{a:Addr}{xs:List D}{vs:List V}{Q:Int->Prop}{Z:Zd}{R:Zd}(hc:X.calm=true)(I:Inv X a_ ρ H s)(hq:SqL X.K H a vs\/SqT X.K H a vs)(j:RVs X.K H xs vs)(q:om xs Q)
  (g:∀n tk h' r,Q n->Inv X a_ ρ H { s with heap:=h',toks:=r }->R (.int n tk) { s with heap:=h',toks:=r }):
  wpAny (model X.prog X.w) X.A (call (.type "set") [.ref a]) (λu s1=>wpAny (model X.prog X.w) X.A (call (.builtin "len") [u]) R Z s1) Z s:=by
 have ht:∃d_,Vals vs d_/\(s.heap.IsList a d_.toArray\/s.heap.IsTuple a d_.toArray):=by
  rcases hq with hq | hq
  ·obtain⟨d_,c,p,_⟩:=I.list hq
   exact⟨d_,c,.inl p.isList⟩
  ·obtain⟨d_,c,p,_⟩:=I.tuple hq
   exact⟨d_,c,.inr p⟩
 obtain⟨d_,c,p⟩:=ht;have T:xs.length=d_.length:=by rw[j.len,c.length]
 have y:∀{K:Type}[DecidableEq K] {knd:KeyKind X.prog X.w K}{ks:List K}{l:Zd},ks.length=d_.toArray.size->(∀(i:Nat) (v:Value),d_.toArray[i]?=some v->∀k,ks[i]?=some k->knd.is k v=true/\v.scannable=true)->d_.toArray.size+1<scanBound ->
   (∀(h':Heap) (tk:Nat),h'.SetOf knd s.heap.objs.size (λk=>decide (k∈aV ks)) (aV ks).length->(∀b o,b<s.heap.objs.size->s.heap.get? b=some o->h'.get? b=some o)->l (.ref s.heap.objs.size) { s with heap:=h',toks:=tk }) ->
   wpAny (model X.prog X.w) X.A (call (.type "set") [.ref a]) l Z s:=by
  intro K _ knd ks l z B C E;rcases p with p | p
  ·exact Ae (I.ok.hd hc) p z B C E
  ·exact yD (I.ok.hd hc) p z B C E
 unfold om at q;obtain⟨hl,q⟩:=q;have fin:∀{K:Type}[DecidableEq K] {knd:KeyKind X.prog X.w K}{ks:List K}(h':Heap) (tk:Nat),h'.SetOf knd s.heap.objs.size (λk=>decide (k∈aV ks)) (aV ks).length->Q ((aV ks).length:Nat) ->
   (∀b o,b<s.heap.objs.size->s.heap.get? b=some o->h'.get? b=some o)->wpAny (model X.prog X.w) X.A (call (.builtin "len") [.ref s.heap.objs.size]) R Z { s with heap:=h',toks:=tk }:=by
  intro K _ knd ks h' tk st F kp;obtain⟨o,es,U,t,G,J,L,_,_,O,P,S⟩:=st;rw[←S] at F;refine call_len_set (s:={ s with heap:=h',toks:=tk }) G J L P (by unfold scanBound at O;omega) ?_;exact g _ _ h' (tk+1+1) F (I.kept (t':=tk+1+1) λb o e=>kp b o (Ye e) e)
 split at q
 ·rename_i ks e
  obtain rfl:=uR e j;have m:ks.length=d_.length:=by have:=c.length;simpa using this
  refine y (knd:=strKind X.prog X.w) (ks:=ks) (by simpa using m) (λi v d k hk=>?_) (by unfold scanBound;simp;omega) λh' tk st kp=>fin h' tk st q kp
  obtain⟨u,f,h2⟩:=c.get (i:=i) (x:=.str k) (by simp[hk]);have:v=u:=by simp at d;rw[d] at f;cases f;rfl
  subst this;obtain⟨t,rfl⟩:∃t,v=Value.str k t:=h2;exact⟨strKind_is _ _ _ _,rfl⟩
 ·split at q
  ·rename_i ks e
   obtain rfl:=pb e j;have m:ks.length=d_.length:=by have:=c.length;simpa using this
   refine y (knd:=intKind X.prog X.w) (ks:=ks) (by simpa using m) (λi v d k hk=>?_) (by unfold scanBound;simp;omega) λh' tk st kp=>fin h' tk st q kp
   obtain⟨u,f,h2⟩:=c.get (i:=i) (x:=.int k) (by simp[hk]);have:v=u:=by simp at d;rw[d] at f;cases f;rfl
   subst this;obtain⟨t,rfl⟩:∃t,v=Value.int k t:=h2;exact⟨intKind_is _ _ _ _,rfl⟩
  ·exact Yh q
theorem yE{l:Expr}{t:WE}{p p2 o:Pos}(hc:X.calm=true)(hg:Gl X "len")(hm:X.mg "len" = none)(r:Gl X "set")(z:X.mg "set" = none)(h:PEd X l t)(j:ah l=true):PEd X (.Call (.Name "len" p) [.Call (.Name "set" p2) [l] [] o] [] pos) (rV t):=by
 intro σ M ρ H Q rs A q a_ s I;refine Call_ (cK I hg hm PySem.boot_len (callWith_builtin1 (args_cons (Call_ (cK I r z (by rfl':bootBuiltins "set" = some (.type "set")) (PyProof.Rows.callWith_type1 (args_cons (thn (h σ M ρ H _ rs A q a_ s I) λu s1 B=>?_) (aO j)) (aO j) rfl))))));obtain⟨v,f,C,E,⟨F,d,M1,k,m,b⟩⟩:=B;have G:∃a xs vs,v=.ref a/\(SqL X.K f a vs\/SqT X.K f a vs)/\RVs X.K f xs vs/\om xs λn=>Q (.int n) M1:=by
  unfold seqL at b;dsimp only at b;split at b
  ·obtain⟨a,vs,rfl,sq,c⟩:=RV.tup_.1 k
   exact⟨a,_,vs,rfl,.inr sq,c,b⟩
  ·obtain⟨a,xs,vs,rfl,sq,c,g⟩:=Et b k m
   exact⟨a,xs,vs,rfl,.inl sq,c,g⟩
 obtain⟨a,xs,vs,rfl,sq,c,g⟩:=G;cases E;refine args_nil ?_
 have:=Af (X:=X) (R:=λw t=>EP X a_ ρ (lift X.K H Q) w t) (Z:=X.xe) hc C sq c g λn tk h' O J L=>⟨.int n,f,L,⟨_,rfl⟩,F,.int n,M1,RV.int_.2 rfl,m,J⟩
 exact wpAny_mono this (λu t y=>args_nil y) λ_ _ y=>y
end
def db(a:Int)(n:Nat):List V:=(List.range n).map λ(i:Nat)=>.int (a+(i:Int))
theorem yF(a:Int)(n:Nat):(db a n).length=n:=by unfold db;rw[ZG,ZM]
theorem on{K:Za}{H:Hp}{a:Type}{f:a->D}{g:a->V}(h:∀x,RV K H (f x) (g x)):∀(l:List a),RVs K H (l.map f) (l.map g)
 |[]=>.nil
 |x::l=>.cons (h x) (on h l)
theorem BS{K:Za}{H:Hp}(a b:Int):RVs K H (a0 a b) (db a (b-a).toNat):=on (λ_=>RV.int_.2 rfl) _
theorem qz:∀(d_:Zh) (a:Int),(∀(j:Nat) v,d_[j]?=some v->∃t,v=Value.int (a+j*1) t)->Vals (db a d_.length) d_
 |[],_,_=>.nil
 |u::d_,a,h=>by
  have e:db a (u::d_).length=.int a::db (a+1) d_.length:=by
   unfold db;rw[YM,List.range_succ_eq_map,YO,ZP];congr 1
   ·simp
   ·refine ZQ λi _=>?_
    show V.int (a+((i+1:Nat):Int))=V.int (a+1+(i:Int));congr 1;omega
  rw[e];refine .cons ?_ (qz d_ (a+1) λj v e=>?_)
  ·obtain⟨t,e⟩:=h 0 u rfl
   exact⟨t,by rw[e];simp⟩
  ·obtain⟨t,e2⟩:=h (j+1) v (by simpa using e)
   refine⟨t,?_⟩;rw[e2];congr 1;omega
def rngD(ds:List D)(Q:List D->Prop):Prop:=match ds with
 |[.int j]=>(-1000000<j/\j<1000000)/\Q (a0 0 j)
 |[.int i,.int j]=>(-1000000<i/\i<1000000/\-1000000<j/\j<1000000)/\Q (a0 i j)
 |_=>False
def wLrg(t:WA):WE:=λσ M Q=>t σ M λds M1=>rngD ds λxs=>∀p,M1 p=none->Q (.ref p) (updM M1 p (.lst xs))
section
variable {X:Cx}{H:Hp}{pos:Pos}{e:Expr}{es:Zl}
theorem Ag{a_:Zg}{ρ:L2.St}{s:Shared}{lo hi:Int}{t u v:Tok}{tk:Nat}{M:MH}{c:Hp}{Q:DK}(hc:X.calm=true)(I:Inv X a_ ρ H s)(g:Kp c H)(d:RM X.K M H)(C:-1000000<lo)(h2:lo<1000000)(E:-1000000<hi)(F:hi<1000000)
  (q:∀p,M p=none->Q (.ref p) (updM M p (.lst (a0 lo hi)))):
  wpAny (model X.prog X.w) X.A (call (.type "list") [.ref s.heap.objs.size]) (EP X a_ ρ (lift X.K c Q)) X.xe { s with heap:=s.heap.push { cls:=.type "range",data:=.fields #[.int lo t,.int hi u,.int 1 v] },toks:=tk }:=by
 have f:Inv X a_ ρ H { s with heap:=s.heap.push { cls:=.type "range",data:=.fields #[.int lo t,.int hi u,.int 1 v] },toks:=tk }:=I.kept λb o e=>Yd _ e
 refine call_list_range (s:={ s with heap:=s.heap.push { cls:=.type "range",data:=.fields #[.int lo t,.int hi u,.int 1 v] },toks:=tk }) (n:=(hi-lo).toNat) (I.ok.hd hc) (IsRange.new ..) (small_one (by omega) (by omega) (by omega) (by omega))
  (by rw[rangeSize_one];split<;>omega) (by omega) λh' l g_ r hk y a=>?_
 obtain⟨z,a⟩:=a;have hl:g_.toList.length=(hi-lo).toNat:=by rw[←z];simp
 have B:Vals (db lo (hi-lo).toNat) g_.toList:=by
  rw[←hl];refine qz g_.toList lo λj w e=>?_
  exact a j w (by rw[←XF];exact e)
 have hf:H (s.heap.push { cls:=.type "range",data:=.fields #[.int lo t,.int hi u,.int 1 v] }).objs.size=none:=f.hok.fresh (YJ _);have k:=Kp.new (o:=.lst (db lo (hi-lo).toNat)) hf;have hz:(db lo (hi-lo).toNat).length<=sizeLine:=by
  rw[yF];have:(2000000:Nat)<=sizeLine:=by decide
  omega
 exact⟨.ref _,_,f.laid (t':=l) hk (YJ _) (show aQ X.prog X.w _ h' _ (.lst (db lo (hi-lo).toNat)) from⟨hz,g_.toList,r,B,by simpa using y⟩),rfl,g.trans k,.ref _,_,RV.ref_.2 rfl,d.new (m:=.lst (a0 lo hi)) hf ⟨_,ay,BS _ _⟩,q _ (d.fresh hf)⟩
theorem BU{a:Expr}{t:WA}{p p2 c:Pos}(hc:X.calm=true)(hg:Gl X "list")(hm:X.mg "list" = none)(d:Gl X "range")(f:X.mg "range" = none)(ha:PAd X [a] t)(g:ah a=true):
  PEd X (.Call (.Name "list" p) [.Call (.Name "range" p2) [a] [] c] [] pos) (wLrg t):=by
 intro σ M ρ H Q rs k q a_ s I;refine Call_ (cK I hg hm (by rfl':bootBuiltins "list" = some (.type "list")) (PyProof.Rows.callWith_type1 (args_cons (Call_ (cK I d f boot_range (PyProof.Rows.callWith_type1 (thn (ha σ M ρ H _ rs k q _ a_ s I) λus s1 l=>?_) (aO g) rfl)))) rfl rfl));obtain⟨vs,C,m,n,⟨o,ds,M1,r,l2,w,b⟩⟩:=l;unfold rngD at b;dsimp only at b;split at b
 ·obtain⟨v,rfl,y⟩:=rvs1 r
  cases RV.int_.1 y;obtain⟨u,rfl,z⟩:=vals1 n;obtain⟨t,rfl⟩:=z;obtain⟨⟨A,B⟩,b⟩:=b;refine call_range_1 (args_nil ?_);exact Ag hc m o w (by decide) (by decide) A B b
 ·rename_i i j
  exact absurd l2 (by simp)
 ·exact Yh b
theorem BV{a b:Expr}{t:WA}{p p2 d:Pos}(hc:X.calm=true)(hg:Gl X "list")(hm:X.mg "list" = none)(f:Gl X "range")(g:X.mg "range" = none)(ha:PAd X [a,b] t)(j:ah a=true)(k:ah b=true):
  PEd X (.Call (.Name "list" p) [.Call (.Name "range" p2) [a,b] [] d] [] pos) (wLrg t):=by
 intro σ M ρ H Q rs l q a_ s I;refine Call_ (cK I hg hm (by rfl':bootBuiltins "list" = some (.type "list")) (PyProof.Rows.callWith_type1 (args_cons (Call_ (cK I f g boot_range (PyProof.Rows.callWith_type1 (thn (ha σ M ρ H _ rs l q _ a_ s I) λus s1 m=>?_) (aO j) (cw (by rw[XT,k];rfl)))))) rfl rfl));obtain⟨vs,K,n,o,⟨r,ds,M1,w,l2,y,c⟩⟩:=m;unfold rngD at c;dsimp only at c;split at c
 ·exact absurd l2 (by simp)
 ·obtain⟨v,L,rfl,z,A⟩:=rvs2 w
  cases RV.int_.1 z;cases RV.int_.1 A;obtain⟨u,O,rfl,B,C⟩:=o.two;obtain⟨t,rfl⟩:=B;obtain⟨t',rfl⟩:=C;obtain⟨⟨E,F,G,J⟩,c⟩:=c;refine call_range_2 (args_nil ?_);exact Ag hc n r y E F G J c
 ·exact Yh c
structure IsiOk (K:Za) (C D:Addr) (b:Bool):Prop where
 cl:Cls K C
 ha:PySem.W.findIn K (.ref C) "__class__" = some (some (.builtin "object.__class__"))
 hn:PySem.W.specialIn K (.builtin "object.__class__") "__get__" = some (some (.builtin "getset_descriptor.__get__"))
 ht:PySem.W.takesIn K (.builtin "object.__class__")=some true
 hm:PySem.W.mroIn K C (.type "object")=some true
 ki:PySem.W.kitOne K (.ref C) (.ref D)=some b
abbrev IS0:=Addr->Addr->Option Bool
end
section
variable {prog:ZS}{w:World}{A:Around}{E:Zd}{s:Shared}{κ:Type}[DecidableEq κ]{knd:KeyKind prog w κ}
abbrev uc(knd:KeyKind prog w κ)(a:List (κ×Value)):Nat->Value->Prop:=λi v=>∃k x,a[i]?=some (k,x)/\knd.is k v=true
theorem Ah{d:Addr}{g:List (κ×Value)}{j:Nat}{Q:Bool->Shared->Prop}(hd:(d==sysModules)=false)(hm:s.heap.DictAt knd d g j)(hl:g.length<=2 ^ 24)(h:∀b tk,Q b { s with toks:=tk }):
  wpAny (model prog w) A (Builtin.List.listLengthHint (.ref d)) Q E s:=by
 have a:s.TypeIs (.ref d) "dict":=hm.dictOf.typeIs;unfold Builtin.List.listLengthHint;refine Yb (wpAny_specialOf a F.slot_dict_len.lookup ?_);generalize hid:("dict.__len__" : String)=c;wp_delta;rw[show splitId c=some ("dict","__len__") from by subst hid;rfl'];subst hid;refine Yb (wpAny_isInstance (T:="dict") (b:=true) a (by rw[isSubtype_type];kernel_rfl) ?_);refine wpAny_ite_split (λf=>absurd f (by decide)) (λ_=>?_);refine wpAny_ite_split (λ_=>?_) (λf=>absurd (by rfl') f);refine Yb (wpAny_typeOf a ?_);exact Yc (h false s.toks)
theorem oO{R:Result->Shared->Prop}{d:Addr}{a:List (κ×Value)}{g:Nat}(J:A.handled=none)(hd:(d==sysModules)=false)(hm:s.heap.DictAt knd d a g)(hl:a.length<=2 ^ 24)(S:Addr)(res:Value)(u:Nat)
  (l:s.heap.get? S=some { cls:=.type "list",data:=.seq #[] u })
  (K:∀h' tk g_ k,(∀b o,b≠S->s.heap.get? b=some o->h'.get? b=some o)->h'.get? S=some { cls:=.type "list",dict:=none,data:=.seq g_ k,slots:=#[] }->ItemsOf (uc knd a) g_ a.length->R (.ok (.ret res)) { s with heap:=h',toks:=tk }):
  wpAny (model prog w) A.in1 (Builtin.List.listExtendWith (.ref S) (.ref d) res)
   (λfin j=>match fin with
    |.done f=>R (.ok f) j
    |.again k=>k.quiet=true/\codeAny (model prog w) A k R j) (λe j=>R (.error e) j) s:=by
 have L:s.TypeIs (.ref d) "dict":=hm.dictOf.typeIs;have m:S≠d:=λe=>by
  obtain⟨o,es,O,_,P,_⟩:=id hm;rw[e,O] at l;cases l;cases P
 have T:d≠s.heap.objs.size:=ZX hm.lt_size;have n:S≠s.heap.objs.size:=ZX (Ye l);have W:=(Walks.dictKeys (prog:=prog) (w:=w) (A:=A.in1) (knd:=knd) J s.heap.objs.size d T a g).toS;have go:∀(h:Heap) (c tk:Nat),h.IsKeyIter s.heap.objs.size d 0 a.length g->(∀b o,b≠S->s.heap.get? b=some o->h.get? b=some o)->h.get? S=some { cls:=.type "list",data:=.seq #[] c } ->
   codeAny (model prog w) A (.builtin "list.extend.loop" ⟨[.ref S,.ref s.heap.objs.size,res],[]⟩) R { s with heap:=h,toks:=tk }:=by
  intro h c tk U hk V;refine codeAny_extend_loopS W (by rw[sizeLine_eq];omega) S (by simp;exact⟨n,m⟩) res a.length 0 _ #[] c rfl (YQ _) ⟨U,hm.at' λo e=>hk d o (Ne.symm m) e⟩ V (ItemsOf.nil _) λj g_ k y X Y=>?_
  rw[Moved.eq_with y];refine K j.heap j.toks g_ k (λb o hb e=>y.heap b o (λZ=>?_) (hk b o hb e)) X Y;rcases YE.mp Z with e' | e'
  ·exact hb e'
  ·exact absurd (Ye e) (by rw[XR.mp e'];exact ZW _)
 unfold Builtin.List.listExtendWith;refine Yb (wpAny_typeOf L ?_);have n1:Builtin.List.listSameRef (.ref S) (.ref d)=false:=by simp[Builtin.List.listSameRef,m]
 simp only[n1,show(Value.type "dict" == Value.type "list")=false by decide,show(Value.type "dict" == Value.type "tuple")=false by decide,Bool.or_false,XH,if_false];refine Yb (wpAny_pyIter_dict hd hm ?_);refine Yb (Yj (Ah hd (hm.push _) hl λb tk=>?_));have p:(s.heap.push { cls:=.type "dict_keyiterator",data:=.fields #[.ref d,.int 0 0,.int a.length 0,.int g 0] }).IsKeyIter s.heap.objs.size d 0 a.length g:=⟨_,Yg _ rfl,rfl,rfl⟩;have s1:=Yd { cls:=.type "dict_keyiterator",data:=.fields #[.ref d,.int 0 0,.int a.length 0,.int g 0] } l;have r:∀b o,b≠S->s.heap.get? b=some o->(s.heap.push { cls:=.type "dict_keyiterator",data:=.fields #[.ref d,.int 0 0,.int a.length 0,.int g 0] }).get? b=some o:=λb o _ e=>Yd _ e
 generalize s.heap.push { cls:=.type "dict_keyiterator",data:=.fields #[.ref d,.int 0 0,.int a.length 0,.int g 0] }=t at p s1 r ⊢;refine wpAny_ite_split (λ_=>?_) (λ_=>Yc ⟨plainId_quiet F.plain_extend_loop _,go _ u _ p r s1⟩);refine Yb (wpAny_rule (Yb ?_));show wpAny _ _ (updateSeq S (·.push .none) >>= λ_=>updateSeq S (·.pop)) _ _ _;refine Yb (wpAny_updateSeq s1 rfl ?_);have s2:=Heap.get?_update_self (Obj.mapSeq (·.push Value.none)) s1 rfl;have z:(t.update S (Obj.mapSeq (·.push Value.none))).IsKeyIter s.heap.objs.size d 0 a.length g:=p.at λo e=>(Heap.get?_update_other _ _ n).trans e
 have B:∀b o,b≠S->s.heap.get? b=some o->(t.update S (Obj.mapSeq (·.push Value.none))).get? b=some o:=λb o hb e=>(Heap.get?_update_other _ _ (Ne.symm hb)).trans (r b o hb e)
 generalize t.update S (Obj.mapSeq (·.push Value.none))=h2 at z s2 B ⊢;refine wpAny_updateSeq (hz:=by seq_fits) s2 rfl ?_;have C:=Heap.get?_update_self (Obj.mapSeq (·.pop)) s2 rfl;have G:(h2.update S (Obj.mapSeq (·.pop))).IsKeyIter s.heap.objs.size d 0 a.length g:=z.at λo e=>(Heap.get?_update_other _ _ n).trans e
 have I:∀b o,b≠S->s.heap.get? b=some o->(h2.update S (Obj.mapSeq (·.pop))).get? b=some o:=λb o hb e=>(Heap.get?_update_other _ _ (Ne.symm hb)).trans (B b o hb e)
 generalize h2.update S (Obj.mapSeq (·.pop))=h3 at G C I ⊢;exact Yc ⟨plainId_quiet F.plain_extend_loop _,go h3 _ _ G I C⟩
end
end DD
namespace TS
open PySem PyProof.Rows
def fv:Bool->Keyed->Array Keyed->Nat->Nat->Nat->StateT SortSt Sem (Option Nat):=sortPriv% PySem.Builtin.gallop
theorem yG (left:Bool) (c:Keyed) (arr:Array Keyed) (base n b:Nat):fv left c arr base n b = (do
  let a (i:Nat):StateT SortSt Sem (Option Bool):=do
    let x ← elem' arr (base + i)
    if left then lt' x c else return (← lt' c x).map (!·)
  let mut lastofs:=0
  let mut ofs:=1
  let mut lo:=0
  let mut hi:=0
  let some right ← a b | return none
  if right then
    let d:=n - b
    for _ in [0:n] do
      if ofs >= d then break
      let some more ← a (b + ofs) | return none
      if !more then break
      lastofs:=ofs
      ofs:=2 * ofs + 1
    lo:=b + lastofs + 1
    hi:=b + min ofs d
  else
    let d:=b + 1
    for _ in [0:n] do
      if ofs >= d then break
      let some found ← a (b - ofs) | return none
      if found then break
      lastofs:=ofs
      ofs:=2 * ofs + 1
    lo:=b + 1 - min ofs d
    hi:=b - lastofs
  for _ in [0:n] do
    if lo >= hi then break
    let m:=lo + (hi - lo) / 2
    let some more ← a m | return none
    if more then lo:=m + 1 else hi:=m
  return some hi):=rfl
section
variable {prog:ZS}{w:World}{A:Around}{E:Zd}{s:Shared}{kd:SortKind}{R:Keyed->Int}{a₀:Array Keyed}
def Lts(prog:ZS)(w:World)(A:Around)(s:Shared)(kd:SortKind)(R:Keyed->Int)(a₀:Array Keyed):Prop:=
 ∀x y,x∈a₀.toList->y∈a₀.toList->∀(Q:Bool->Shared->Prop) (E:Zd),Q (decide (R x<R y)) s->wpAny (model prog w) A (keyLt' kd x.1 y.1) Q E s
theorem qA{st:SortSt}{x y:Keyed}{Q:Option Bool->SortSt->Prop}(a:Lts prog w A s kd R a₀)(hk:kindOf st=kd)(hx:x∈a₀.toList)(hy:y∈a₀.toList)(h:Q (some (decide (R x<R y))) st):wpS (model prog w) A E s (lt' x y) Q st:=by
 rw[lt'_eq];refine wpS_bind (wpS_get ?_);rw[hk];refine wpS_bind (wpS_lift (wpAny_attempt (a x y hx hy _ _ ?_)));exact⟨rfl,wpS_pure h⟩
theorem aP{st:SortSt}{xs:Array Keyed}{i:Nat}{p:Keyed}{Q:Keyed->SortSt->Prop}(h:xs[i]?=some p)(hq:Q p st):wpS (model prog w) A E s (elem' xs i) Q st:=by
 rw[elem'_eq,h];exact wpS_pure hq
theorem Ai {st:SortSt} {p:Nat->StateT SortSt Sem (Option Bool)} {b:Nat->Bool} {n lo hi:Nat} {Q:Option Nat->SortSt->Prop} (hb:∀ i,i < n->∀ Q:Option Bool->SortSt->Prop,Q (some (b i)) st->wpS (model prog w) A E s (p i) Q st) (anti:∀ i j,i<=j->j < n->b j = true->b i = true)
    (g:lo<=hi) (h2:hi<=n) (u:∀ i,i < lo->b i = true) (y:∀ i,hi<=i->i < n->b i = false) (h:∀ k,k<=n->(∀ i,i < n->b i = decide (i < k))->Q (some k) st) :
    wpS (model prog w) A E s (do
      let mut lo:=lo
      let mut hi:=hi
      for _ in [0:n] do
        if lo >= hi then break
        let m:=lo + (hi - lo) / 2
        let some more ← p m | return none
        if more then lo:=m + 1 else hi:=m
      return some hi) Q st:=by
  refine wpS_bind (wpS_mono (wpS_forRange (I:=λx c f_=>f_ = st/\∃ lo hi,c = (none,lo,hi)/\lo<=hi/\hi<=n/\hi - lo<=n - x/\(∀ i,i < lo->b i = true)/\∀ i,hi<=i->i < n->b i = false)
    (Q:=λc f_=>f_ = st/\∃ lo hi,c = (none,lo,hi)/\hi<=n/\(∀ i,i < n->b i = decide (i < hi))) ?step ?fin ⟨rfl,lo,hi,rfl,g,h2,by omega,u,y⟩) ?post)
  case fin=>
    rintro c f_ ⟨rfl,l,r,rfl,B,a,o,d,f⟩
    refine ⟨rfl,l,r,rfl,a,λi hi=>?_⟩
    by_cases z:i < r
    · rw [YY z]; exact d i (by omega)
    · rw [ZT z]; exact f i (by omega) hi
  case post=>
    rintro c f_ ⟨rfl,l,r,rfl,a,o⟩
    exact wpS_pure (h r a o)
  case step=>
    rintro x c f_ _ hx ⟨rfl,l,r,rfl,B,a,o,d,f⟩
    dsimp only
    by_cases t:l >= r
    · rw [if_pos t]
      refine wpS_pure ⟨rfl,l,r,rfl,a,λi hi=>?_⟩
      by_cases z:i < r
      · rw [YY z]; exact d i (by omega)
      · rw [ZT z]; exact f i (by omega) hi
    · rw [if_neg t]
      refine wpS_bind (hb _ (by omega) _ ?_)
      cases e:b (l + (r - l) / 2) with
      | true=>
        refine wpS_pure ⟨rfl,_,r,rfl,by omega,a,by omega,λi hi=>?_,f⟩
        exact anti i _ (by omega) (by omega) e
      | false=>
        refine wpS_pure ⟨rfl,l,_,rfl,by omega,by omega,by omega,d,λi g h2=>?_⟩
        cases e2:b i with
        | false=>rfl
        | true=>rw [anti _ i g h2 e2] at e; cases e
theorem fw {st:SortSt} {left:Bool} {a:Keyed} {arr:Array Keyed} {base n d:Nat} {Q:Option Nat->SortSt->Prop} (F:Lts prog w A s kd R a₀) (hk:kindOf st = kd) (G:a ∈ a₀.toList) (O:d < n)
    (hm:∀ i,i < n->∃ x,arr[base + i]? = some x/\x ∈ a₀.toList) (P:∀ i j x y,i<=j->j < n->arr[base + i]? = some x->arr[base + j]? = some y->R x<=R y)
    (h:∀ k,k<=n->(∀ i x,i < k->arr[base + i]? = some x->cond left (R x < R a) (R x<=R a))->(∀ i x,k<=i->i < n->arr[base + i]? = some x->cond left (R a<=R x) (R a < R x))->Q (some k) st) :
    wpS (model prog w) A E s (fv left a arr base n d) Q st:=by
  rw [yG]
  generalize JI:(λi:Nat=>(do
    let x ← elem' arr (base + i)
    if left then lt' x a else return (← lt' a x).map (!·):StateT SortSt Sem (Option Bool))) = Nj
  let b:Nat->Bool:=λi=>match arr[base + i]? with
    | some x=>cond left (decide (R x < R a)) (!decide (R a < R x))
    | none=>false
  have t:∀ i x,arr[base + i]? = some x->b i = cond left (decide (R x < R a)) (!decide (R a < R x)):=λi x e=>by
    show (match arr[base + i]? with | some x=>_ | none=>_) = _
    rw [e]
  have hb:∀ i,i < n->∀ Q:Option Bool->SortSt->Prop,Q (some (b i)) st->wpS (model prog w) A E s (Nj i) Q st:=by
    intro i hi Q B
    obtain ⟨x,hx,J⟩:=hm i hi
    rw [t i x hx] at B
    rw [← JI]
    refine wpS_bind (aP hx ?_)
    cases left with
    | true=>exact qA F hk J G B
    | false=>exact wpS_bind (qA F hk G J (wpS_pure B))
  have anti:∀ i j,i<=j->j < n->b j = true->b i = true:=by
    intro i j S K e
    obtain ⟨x,hx,_⟩:=hm i (by omega)
    obtain ⟨y,hy,_⟩:=hm j K
    have:=P i j x y S K hx hy
    rw [t i x hx]
    rw [t j y hy] at e
    cases left with
    | true=>exact YY (by have:=XS e; omega)
    | false=>
      have e:(!decide (R a < R y)) = true:=e
      show (!decide (R a < R x)) = true
      rw [Bool.not_eq_true',decide_eq_false_iff_not] at e ⊢
      omega
  have out:∀ k,k<=n->(∀ i,i < n->b i = decide (i < k))->Q (some k) st:=by
    intro k T L
    refine h k T (λi x hi hx=>?_) λi x C h2 hx=>?_
    · have:=L i (by omega)
      rw [t i x hx,YY hi] at this
      cases left with
      | true=>exact XS (p:=R x < R a) this
      | false=>
        have this:(!decide (R a < R x)) = true:=this
        rw [Bool.not_eq_true',decide_eq_false_iff_not] at this
        exact Int.not_lt.1 this
    · have:=L i h2
      rw [t i x hx,ZT (show ¬ i < k by omega)] at this
      cases left with
      | true=>exact Int.not_lt.1 (of_decide_eq_false (p:=R x < R a) this)
      | false=>
        have this:(!decide (R a < R x)) = false:=this
        rw [Bool.not_eq_false',XU] at this
        exact this
  refine wpS_bind (hb d O _ ?_)
  cases e:b d with
  | true=>
    dsimp only
    rw [if_pos rfl]
    refine wpS_bind (wpS_mono (wpS_forRange (I:=λx c f_=>f_ = st/\∃ l o,c = (none,l,o)/\l < n - d/\l < o/\x + 1<=o/\b (d + l) = true)
      (Q:=λc f_=>f_ = st/\∃ l o,c = (none,l,o)/\l < n - d/\l < o/\b (d + l) = true/\(o < n - d->b (d + o) = false)) ?s1 ?f1 ⟨rfl,0,1,rfl,by omega,by omega,by omega,e⟩) ?p1)
    case f1=>
      rintro c f_ ⟨rfl,l,o,rfl,g,m,r,f⟩
      exact ⟨rfl,l,o,rfl,g,m,f,λz=>by omega⟩
    case s1=>
      rintro x c f_ _ hx ⟨rfl,l,o,rfl,g,m,r,f⟩
      dsimp only
      by_cases u:o >= n - d
      · rw [if_pos u]
        exact wpS_pure ⟨rfl,l,o,rfl,g,m,f,λz=>by omega⟩
      · rw [if_neg u]
        refine wpS_bind (hb _ (by omega) _ ?_)
        cases e2:b (d + o) with
        | true=>exact wpS_pure ⟨rfl,o,_,rfl,by omega,by omega,by omega,e2⟩
        | false=>exact wpS_pure ⟨rfl,l,o,rfl,g,m,f,λ_=>e2⟩
    case p1=>
      rintro c f_ ⟨rfl,l,o,rfl,g,m,r,f⟩
      dsimp only
      refine Ai hb anti (by omega) (by omega) (λi hi=>anti i (d + l) (by omega) (by omega) r) (λi C h2=>?_) out
      cases e2:b i with
      | false=>rfl
      | true=>rw [anti _ i (by omega) h2 e2] at f; cases f (by omega)
  | false=>
    dsimp only
    rw [if_neg (by decide)]
    refine wpS_bind (wpS_mono (wpS_forRange (I:=λx c f_=>f_ = st/\∃ l o,c = (none,l,o)/\l<=d/\l < o/\x + 1<=o/\b (d - l) = false)
      (Q:=λc f_=>f_ = st/\∃ l o,c = (none,l,o)/\l<=d/\l < o/\b (d - l) = false/\(o<=d->b (d - o) = true)) ?s2 ?f2 ⟨rfl,0,1,rfl,by omega,by omega,by omega,e⟩) ?p2)
    case f2=>
      rintro c f_ ⟨rfl,l,o,rfl,g,m,r,f⟩
      exact ⟨rfl,l,o,rfl,g,m,f,λz=>by omega⟩
    case s2=>
      rintro x c f_ _ hx ⟨rfl,l,o,rfl,g,m,r,f⟩
      dsimp only
      by_cases u:o >= d + 1
      · rw [if_pos u]
        exact wpS_pure ⟨rfl,l,o,rfl,g,m,f,λz=>by omega⟩
      · rw [if_neg u]
        refine wpS_bind (hb _ (by omega) _ ?_)
        cases e2:b (d - o) with
        | true=>exact wpS_pure ⟨rfl,l,o,rfl,g,m,f,λ_=>e2⟩
        | false=>exact wpS_pure ⟨rfl,o,_,rfl,by omega,by omega,by omega,e2⟩
    case p2=>
      rintro c f_ ⟨rfl,l,o,rfl,g,m,r,f⟩
      dsimp only
      refine Ai hb anti (by omega) (by omega) (λi hi=>?_) (λi C h2=>?_) out
      · exact anti i (d - o) (by omega) (by omega) (f (by omega))
      · cases e2:b i with
        | false=>rfl
        | true=>rw [anti _ i C h2 e2] at r; cases r
end
structure Mg (R:Keyed->Int) (la lb out:List Keyed) (i j:Nat):Prop where
 perm:out.Perm (la.take i++lb.take j)
 srt:out.Pairwise λx y=>R x<=R y
 leA:∀x∈out,∀y∈la.drop i,R x<=R y
 leB:∀x∈out,∀y∈lb.drop j,R x<=R y
section
variable {R:Keyed->Int}{la lb out:List Keyed}{i j:Nat}
theorem Mg.swap(h:Mg R la lb out i j):Mg R lb la out j i:=⟨h.perm.trans List.perm_append_comm,h.srt,h.leB,h.leA⟩
theorem Mg.takeA(b:la.Pairwise λx y=>R x<=R y)(h:Mg R la lb out i j)(k:Nat)(c:∀x∈(la.drop i).take k,∀y∈lb.drop j,R x<=R y):Mg R la lb (out++(la.drop i).take k) (i+k) j:=by
 have hd:(la.drop i).Pairwise λx y=>R x<=R y:=b.sublist (List.drop_sublist _ _)
 have a:=hd;rw[←List.take_append_drop k (la.drop i),List.pairwise_append] at a;refine⟨?_,List.pairwise_append.2 ⟨h.srt,a.1,λx hx y hy=>h.leA x hx y (List.mem_of_mem_take hy)⟩,λx hx y hy=>?_,λx hx y hy=>?_⟩
 ·rw[List.take_add,ZC]
  refine(h.perm.append_right _).trans ?_;rw[ZC];exact List.perm_append_comm.append_left _
 ·rw[←List.drop_drop] at hy
  rcases YF.1 hx with z | z
  ·exact h.leA x z y (List.mem_of_mem_drop hy)
  ·exact a.2.2 x z y hy
 ·rcases YF.1 hx with z | z
  ·exact h.leB x z y hy
  ·exact c x z y hy
theorem Mg.takeB(a:lb.Pairwise λx y=>R x<=R y)(h:Mg R la lb out i j)(k:Nat)(b:∀x∈(lb.drop j).take k,∀y∈la.drop i,R x<=R y):Mg R la lb (out++(lb.drop j).take k) i (j+k):=(h.swap.takeA a k b).swap
theorem Mg.oneA(a:la.Pairwise λx y=>R x<=R y)(h:Mg R la lb out i j){x:Keyed}(hx:la[i]?=some x)(b:∀y∈lb.drop j,R x<=R y):Mg R la lb (out++[x]) (i+1) j:=by
 have e:(la.drop i).take 1=[x]:=by
  obtain⟨c,h2⟩:=YG.mp hx;rw[XV c,h2];rfl
 have:=h.takeA a 1 (λz hz y hy=>by
  rw[e,XR] at hz;rw[hz];exact b y hy)
 rwa [e] at this
theorem Mg.oneB(a:lb.Pairwise λx y=>R x<=R y)(h:Mg R la lb out i j){x:Keyed}(hx:lb[j]?=some x)(b:∀y∈la.drop i,R x<=R y):Mg R la lb (out++[x]) i (j+1):=(h.swap.oneA a hx b).swap
theorem lh(a:la.Pairwise λx y=>R x<=R y){x:Keyed}(hx:la[i]?=some x):∀y∈la.drop i,R x<=R y:=by
 obtain⟨b,h2⟩:=YG.mp hx;have hd:(la.drop i).Pairwise λx y=>R x<=R y:=a.sublist (List.drop_sublist _ _)
 rw[XV b,h2] at hd ⊢;intro y hy;rcases YE.1 hy with rfl | hy
 ·exact Int.le_refl _
 ·exact(List.pairwise_cons.1 hd).1 y hy
theorem Mg.fin(a:la.Pairwise λx y=>R x<=R y)(h:Mg R la lb out i lb.length):(out++la.drop i).Perm (la++lb)/\(out++la.drop i).Pairwise λx y=>R x<=R y:=by
 refine⟨(h.perm.append_right _).trans ?_,List.pairwise_append.2 ⟨h.srt,a.sublist (List.drop_sublist _ _),h.leA⟩⟩;rw[List.take_length,ZC];refine(List.perm_append_comm.append_left _).trans ?_;rw[←ZC,List.take_append_drop]
theorem Mg.finB(a:la.Pairwise λx y=>R x<=R y)(b:lb.Pairwise λx y=>R x<=R y)(h:Mg R la lb out i j)(c:∀x∈lb,∀y∈la.drop i,R x<=R y):(out++lb.drop j++la.drop i).Perm (la++lb)/\(out++lb.drop j++la.drop i).Pairwise λx y=>R x<=R y:=by
 have:=h.takeB b (lb.drop j).length (λx hx=>c x (List.mem_of_mem_drop (List.mem_of_mem_take hx)))
 rw[List.take_length] at this;by_cases z:j<=lb.length
 ·rw[XA,show j+(lb.length-j)=lb.length by omega] at this
  exact this.fin a
 ·have e:lb.drop j=[]:=List.drop_eq_nil_of_le (by omega)
  rw[e,ZA] at this ⊢;have h2:Mg R la lb out i lb.length:=⟨by rw[List.take_length];have:=h.perm;rwa [XW (l:=lb) (by omega)] at this,h.srt,h.leA,λx hx y hy=>by rw[List.drop_length] at hy;cases hy⟩;exact h2.fin a
end
structure SG (st f_:SortSt):Prop where
 kind:kindOf f_=kindOf st
 arr:arrOf f_=arrOf st
 pend:pendingOf f_=pendingOf st
 fail:failedOf f_=failedOf st
theorem SG.refl(st:SortSt):SG st st:=⟨rfl,rfl,rfl,rfl⟩
def jo:Nat->StateT SortSt Sem Unit:=sortPriv% PySem.Builtin.setMinGallop
theorem yH(g:Nat):jo g=modify λs=>SortSt.mk' (kindOf s) (arrOf s) (pendingOf s) g (failedOf s):=rfl
section
variable {prog:ZS}{w:World}{A:Around}{E:Zd}{s:Shared}
theorem ka{g:Nat}{i_ st:SortSt}{Q:Unit->SortSt->Prop}(h:SG i_ st)(hq:∀f_,SG i_ f_->Q () f_):wpS (model prog w) A E s (jo g) Q st:=by
 rw[yH];exact wpS_modify (hq _ ⟨h.kind,h.arr,h.pend,h.fail⟩)
end
abbrev S5:Type:=Option (Array Keyed)×Array Keyed×Nat×Nat×Nat
abbrev S6:Type:=Option (Array Keyed)×Array Keyed×Nat×Nat×Nat×Nat
abbrev S7:Type:=Option (Array Keyed)×Array Keyed×Nat×Nat×Nat×Nat×Nat
def dnL(a b out:Array Keyed)(c d:Nat):Array Keyed:=out++a.extract c a.size++b.extract d b.size
def laL(a b out:Array Keyed)(c d:Nat):Array Keyed:=out++b.extract d b.size++a.extract c a.size
def lo1 (a b:Array Keyed) (mg:Nat) (out:Array Keyed) (c d f g:Nat):StateT SortSt Sem (ForInStep S6):=do
  let y ← elem' b d
  let x ← elem' a c
  match ← lt' y x with
  | some j=>
    if j = true then do
      let y ← elem' b d
      if (d + 1 == b.size) = true then pure (.done (some (dnL a b (out.push y) c (d + 1)),out.push y,c,d + 1,0,g + 1))
      else if g + 1 >= mg then pure (.done (none,out.push y,c,d + 1,0,g + 1))
      else pure (.yield (none,out.push y,c,d + 1,0,g + 1))
    else do
      let x ← elem' a c
      if (c + 1 + 1 == a.size) = true then pure (.done (some (laL a b (out.push x) (c + 1) d),out.push x,c + 1,d,f + 1,0))
      else if f + 1 >= mg then pure (.done (none,out.push x,c + 1,d,f + 1,0))
      else pure (.yield (none,out.push x,c + 1,d,f + 1,0))
  | _=>pure (.done (some (dnL a b out c d),out,c,d,f,g))
def lo4 (a b:Array Keyed) (mg d f c:Nat) (out:Array Keyed) (g:Nat):StateT SortSt Sem (ForInStep S7):=do
  let x ← elem' a c
  if (c + 1 + 1 == a.size) = true then pure (.done (some (laL a b (out.push x) (c + 1) g),out.push x,c + 1,g,mg,d,f))
  else if (decide (d < 7) && decide (f < 7)) = true then pure (.done (none,out.push x,c + 1,g,mg,d,f))
  else pure (.yield (none,out.push x,c + 1,g,mg,d,f))
def lo3 (a b:Array Keyed) (mg f g c:Nat) (out:Array Keyed) (d:Nat):StateT SortSt Sem (ForInStep S7):=do
  let y ← elem' b c
  if (c + 1 == b.size) = true then pure (.done (some (dnL a b (out.push y) d (c + 1)),out.push y,d,c + 1,mg,f,g))
  else do
    let x ← elem' a d
    match ← fv true x b (c + 1) (b.size - (c + 1)) 0 with
    | some k=>
      if k > 0 then
        if (c + 1 + k == b.size) = true then pure (.done (some (dnL a b (out.push y ++ b.extract (c + 1) (c + 1 + k)) d (c + 1 + k)),out.push y ++ b.extract (c + 1) (c + 1 + k),d,c + 1 + k,mg,f,k))
        else lo4 a b mg f k d (out.push y ++ b.extract (c + 1) (c + 1 + k)) (c + 1 + k)
      else lo4 a b mg f k d (out.push y) (c + 1)
    | _=>pure (.done (some (dnL a b (out.push y) d (c + 1)),out.push y,d,c + 1,mg,f,g))
def lo2 (a b out:Array Keyed) (c d g f mg:Nat):StateT SortSt Sem (ForInStep S7):=do
  jo mg
  let y ← elem' b d
  match ← fv false y a c (a.size - c) 0 with
  | some k=>
    if k > 0 then
      if (c + k + 1 == a.size) = true then pure (.done (some (laL a b (out ++ a.extract c (c + k)) (c + k) d),out ++ a.extract c (c + k),c + k,d,mg,k,f))
      else if (c + k == a.size) = true then pure (.done (some (dnL a b (out ++ a.extract c (c + k)) (c + k) d),out ++ a.extract c (c + k),c + k,d,mg,k,f))
      else lo3 a b mg k f d (out ++ a.extract c (c + k)) (c + k)
    else lo3 a b mg k f d out c
  | _=>pure (.done (some (dnL a b out c d),out,c,d,mg,g,f))
def loB (a b out:Array Keyed) (c d mg:Nat):StateT SortSt Sem (ForInStep S5):=do
  let s1:S6 ← forIn [0:a.size + b.size] ((none,out,c,d,0,0):S6) λ_ s=>lo1 a b mg s.2.1 s.2.2.1 s.2.2.2.1 s.2.2.2.2.1 s.2.2.2.2.2
  match s1.1 with
  | some r=>pure (.done (some r,s1.2.1,s1.2.2.1,s1.2.2.2.1,mg))
  | none=>do
    liftM (rule "list.sort.gallop")
    let s2:S7 ← forIn [0:a.size + b.size] ((none,s1.2.1,s1.2.2.1,s1.2.2.2.1,mg + 1,s1.2.2.2.2.1,s1.2.2.2.2.2):S7) λ_ s=>
      if s.2.2.2.2.1 > 1 then lo2 a b s.2.1 s.2.2.1 s.2.2.2.1 s.2.2.2.2.2.1 s.2.2.2.2.2.2 (s.2.2.2.2.1 - 1) else lo2 a b s.2.1 s.2.2.1 s.2.2.2.1 s.2.2.2.2.2.1 s.2.2.2.2.2.2 s.2.2.2.2.1
    match s2.1 with
    | some r=>pure (.done (some r,s2.2.1,s2.2.2.1,s2.2.2.2.1,s2.2.2.2.2.1))
    | none=>do
      jo (s2.2.2.2.2.1 + 1)
      pure (.yield (none,s2.2.1,s2.2.2.1,s2.2.2.2.1,s2.2.2.2.2.1 + 1))
def pc:Array Keyed->Array Keyed->StateT SortSt Sem (Array Keyed):=sortPriv% PySem.Builtin.mergeLo
theorem we (a b:Array Keyed):pc a b = (do
  liftM (rule "list.sort.merge-lo")
  let y ← elem' b 0
  if (1 == b.size) = true then pure (dnL a b #[y] 0 1)
  else if (0 + 1 == a.size) = true then pure (laL a b #[y] 0 1)
  else do
    let st ← get
    let s1:S5 ← forIn [0:a.size + b.size] ((none,#[y],0,1,gallopOf st):S5) λ_ s=>loB a b s.2.1 s.2.2.1 s.2.2.2.1 s.2.2.2.2
    match s1.1 with
    | some r=>pure r
    | none=>unsupported "internal:list.sort.merge-bound"):=by kernel_rfl
section
variable {l:List Keyed}{R:Keyed->Int}
theorem ph{i:Nat}{x:Keyed}(h:x∈l.drop i):∃m,l[i+m]?=some x/\i+m<l.length:=by
 obtain⟨m,hm⟩:=XY h;rw[List.getElem?_drop] at hm;exact⟨m,hm,(YG.mp hm).1⟩
theorem l4{i k:Nat}{x:Keyed}(h:x∈(l.drop i).take k):∃m,m<k/\l[i+m]?=some x:=by
 obtain⟨m,hm⟩:=XY h;rw[ZJ] at hm;split at hm
 ·rw[List.getElem?_drop] at hm
  exact⟨m,by assumption,hm⟩
 ·cases hm
theorem jp(h:l.Pairwise λx y=>R x<=R y){i j:Nat}{x y:Keyed}(b:i<=j)(hx:l[i]?=some x)(hy:l[j]?=some y):R x<=R y:=by
 refine lh h hx y ?_
 have:=YW (l:=l.drop i) (i:=j-i) (a:=y) (by rw[List.getElem?_drop,show i+(j-i)=j by omega];exact hy)
 exact this
theorem Aj(out b:Array Keyed)(i k:Nat):(out++b.extract i (i+k)).toList=out.toList++(b.toList.drop i).take k:=by
 rw[Array.toList_append,Array.toList_extract,List.extract_eq_take_drop,show i+k-i=k by omega]
theorem li(out b:Array Keyed)(i:Nat):(out++b.extract i b.size).toList=out.toList++b.toList.drop i:=by
 rw[Array.toList_append,Array.toList_extract,List.extract_eq_take_drop,XW];rw[XA,YH];exact YJ _
end
structure MC (R:Keyed->Int) (a₀ a b:Array Keyed):Prop where
 sA:a.toList.Pairwise λx y=>R x<=R y
 sB:b.toList.Pairwise λx y=>R x<=R y
 mA:∀x∈a.toList,x∈a₀.toList
 mB:∀x∈b.toList,x∈a₀.toList
 nA:0<a.size
 nB:0<b.size
def Good(R:Keyed->Int)(a b r:Array Keyed):Prop:=r.toList.Perm (a.toList++b.toList)/\r.toList.Pairwise λx y=>R x<=R y
section
variable {prog:ZS}{w:World}{A:Around}{E:Zd}{s:Shared}{kd:SortKind}{R:Keyed->Int}{a₀ a b:Array Keyed}{st:SortSt}
theorem MC.getA(C:MC R a₀ a b){i:Nat}(h:i<a.size):∃x,a[i]?=some x/\a.toList[i]?=some x/\x∈a₀.toList:=by
 have e:a[i]?=some a[i]:=getElem?_pos a i h;have e2:a.toList[i]?=some a[i]:=by rw[XF];exact e
 exact⟨_,e,e2,C.mA _ (YW e2)⟩
theorem MC.getB(C:MC R a₀ a b){i:Nat}(h:i<b.size):∃x,b[i]?=some x/\b.toList[i]?=some x/\x∈a₀.toList:=by
 have e:b[i]?=some b[i]:=getElem?_pos b i h;have e2:b.toList[i]?=some b[i]:=by rw[XF];exact e
 exact⟨_,e,e2,C.mB _ (YW e2)⟩
theorem oo(C:MC R a₀ a b){out:Array Keyed}{d c:Nat}(h:Mg R a.toList b.toList out.toList d c)(e:c=b.size):Good R a b (dnL a b out d c):=by
 subst e;rw[show b.size=b.toList.length from YH.symm] at h
 have:=h.fin C.sA
 unfold Good dnL;rw[li,li,←YH,List.drop_length,ZA];exact this
theorem BW(C:MC R a₀ a b){out:Array Keyed}{c d:Nat}(h:Mg R a.toList b.toList out.toList c d)(e:c=a.size):Good R a b (dnL a b out c d):=by
 subst e;rw[show a.size=a.toList.length from YH.symm] at h
 have:=h.swap.fin C.sB
 unfold Good dnL;rw[li,li,←YH,List.drop_length,ZA];exact⟨this.1.trans List.perm_append_comm,this.2⟩
theorem oq(C:MC R a₀ a b)(hl:∀y∈b.toList,∀x∈a.toList.drop (a.size-1),R y<=R x){out:Array Keyed}{c d:Nat}(h:Mg R a.toList b.toList out.toList c d)(e:c+1=a.size):Good R a b (laL a b out c d):=by
 have:=h.finB C.sA C.sB (λx hx y hy=>hl x hx y (by rw[show a.size-1=c by omega];exact hy))
 unfold Good laL;rw[li,li];exact this
theorem Gc(I:Lts prog w A s kd R a₀)(hk:kindOf st=kd)(C:MC R a₀ a b)(hl:∀y∈b.toList,∀x∈a.toList.drop (a.size-1),R y<=R x){mg d f l m:Nat}{out:Array Keyed}{Q:ForInStep S6->SortSt->Prop}(h:Mg R a.toList b.toList out.toList d f)(J:d+1<a.size)(n:f<b.size)
  (o:∀r c,Good R a b r->Q (.done (some r,c)) st) (hn:∀k g j p t,Mg R a.toList b.toList k.toList g j->g+1<a.size->j<b.size->g+j=d+f+1->Q (.done (none,k,g,j,p,t)) st/\Q (.yield (none,k,g,j,p,t)) st):
  wpS (model prog w) A E s (lo1 a b mg out d f l m) Q st:=by
 obtain⟨y,u,B,K⟩:=C.getB n;obtain⟨x,F,G,L⟩:=C.getA (i:=d) (by omega);unfold lo1;refine wpS_bind (aP u (wpS_bind (aP F (wpS_bind (qA I hk K L ?_)))));dsimp only;by_cases hw:R y<R x
 ·rw[YY hw,if_pos rfl]
  refine wpS_bind (aP u ?_);have h':=h.oneB C.sB B λz hz=>Int.le_trans (Int.le_of_lt hw) (lh C.sA G z hz)
  rw[←ZB] at h';by_cases e:f+1=b.size
  ·rw[if_pos (beq_iff_eq.2 e)]
   exact wpS_pure (o _ _ (oo C h' e))
  ·rw[if_neg (λz=>e (beq_iff_eq.1 z))]
   have hn:=hn _ _ _ 0 (m+1) h' J (by omega) (by omega);split
   ·exact wpS_pure hn.1
   ·exact wpS_pure hn.2
 ·rw[ZT hw,if_neg (by decide)]
  refine wpS_bind (aP F ?_);have h':=h.oneA C.sA G λz hz=>Int.le_trans (Int.not_lt.1 hw) (lh C.sB B z hz)
  rw[←ZB] at h';by_cases e:d+1+1=a.size
  ·rw[if_pos (beq_iff_eq.2 e)]
   exact wpS_pure (o _ _ (oq C hl h' e))
  ·rw[if_neg (λz=>e (beq_iff_eq.1 z))]
   have hn:=hn _ _ _ (l+1) 0 h' (by omega) n (by omega);split
   ·exact wpS_pure hn.1
   ·exact wpS_pure hn.2
theorem Ak(C:MC R a₀ a b)(hl:∀y∈b.toList,∀x∈a.toList.drop (a.size-1),R y<=R x){mg d f l m:Nat}{x:Keyed}{out:Array Keyed}{Q:ForInStep S7->SortSt->Prop}(h:Mg R a.toList b.toList out.toList d f)(F:d+1<a.size)(t:f<b.size)(hx:a.toList[d]?=some x)(u:∀y∈b.toList.drop f,R x<=R y)
  (B:∀r c,Good R a b r->Q (.done (some r,c)) st) (hn:∀k g j n o p,Mg R a.toList b.toList k.toList g j->g+1<a.size->j<b.size->d+f<=g+j->Q (.done (none,k,g,j,n,o,p)) st/\Q (.yield (none,k,g,j,n,o,p)) st):
  wpS (model prog w) A E s (lo4 a b mg l m d out f) Q st:=by
 unfold lo4;refine wpS_bind (aP (by rw[←XF];exact hx) ?_);have h':=h.oneA C.sA hx u;rw[←ZB] at h';by_cases e:d+1+1=a.size
 ·rw[if_pos (beq_iff_eq.2 e)]
  exact wpS_pure (B _ _ (oq C hl h' e))
 ·rw[if_neg (λz=>e (beq_iff_eq.1 z))]
  have hn:=hn _ _ _ mg l m h' (by omega) t (by omega);split
  ·exact wpS_pure hn.1
  ·exact wpS_pure hn.2
theorem Al(P:Lts prog w A s kd R a₀)(hk:kindOf st=kd)(C:MC R a₀ a b)(hl:∀y∈b.toList,∀x∈a.toList.drop (a.size-1),R y<=R x){mg g f S T:Nat}{y:Keyed}{out:Array Keyed}{Q:ForInStep S7->SortSt->Prop}(h:Mg R a.toList b.toList out.toList g f)(G:g+1<a.size)(Ju:f<b.size)(hy:b.toList[f]?=some y)(U:∀x∈a.toList.drop g,R y<=R x)
  (p:∀r c,Good R a b r->Q (.done (some r,c)) st) (hn:∀B l n I J K,Mg R a.toList b.toList B.toList l n->l+1<a.size->n<b.size->g+f<=l+n->Q (.done (none,B,l,n,I,J,K)) st/\Q (.yield (none,B,l,n,I,J,K)) st):
  wpS (model prog w) A E s (lo3 a b mg S T f out g) Q st:=by
 unfold lo3;refine wpS_bind (aP (by rw[←XF];exact hy) ?_);have h':=h.oneB C.sB hy U;rw[←ZB] at h';by_cases e:f+1=b.size
 ·rw[if_pos (beq_iff_eq.2 e)]
  exact wpS_pure (p _ _ (oo C h' e))
 ·rw[if_neg (λz=>e (beq_iff_eq.1 z))]
  obtain⟨x,V,F,W⟩:=C.getA (i:=g) (by omega);refine wpS_bind (aP V (wpS_bind (fw (a₀:=a₀) P hk W (by omega) (λi hi=>?_) (λi j u v Hz hj hu t=>?_) λk Nk lt X=>?_)))
  ·obtain⟨z,Y,_,Z⟩:=C.getB (i:=f+1+i) (by omega)
   exact⟨z,Y,Z⟩
  ·rw[←XF] at hu t
   exact jp C.sB (by omega) hu t
  dsimp only;have L:∀z∈b.toList.drop (f+1+k),R x<=R z:=by
   intro z hz;obtain⟨m,hm,Nl⟩:=ph hz;rw[YH] at Nl;exact X (k+m) z (by omega) (by omega) (by rw[←XF,show f+1+(k+m)=f+1+k+m by omega];exact hm)
  by_cases O:k>0
  ·rw[if_pos O]
   have h2:=h'.takeB C.sB k λz hz v t=>by
    obtain⟨m,hm,IA⟩:=l4 hz;exact Int.le_trans (Int.le_of_lt (lt m z hm (by rw[←XF];exact IA))) (lh C.sA F v t)
   rw[←Aj] at h2;by_cases e2:f+1+k=b.size
   ·rw[if_pos (beq_iff_eq.2 e2)]
    exact wpS_pure (p _ _ (oo C h2 e2))
   ·rw[if_neg (λz=>e2 (beq_iff_eq.1 z))]
    exact Ak C hl h2 G (by omega) F L p λo i j m c d p1 p2 p3 p4=>hn o i j m c d p1 p2 p3 (by omega)
  ·rw[if_neg O]
   obtain rfl:k=0:=by omega
   exact Ak C hl h' G (by omega) F L p λo i j m c d p1 p2 p3 p4=>hn o i j m c d p1 p2 p3 (by omega)
theorem Gd{i_:SortSt}(G:Lts prog w A s kd R a₀)(hk:kindOf i_=kd)(hg:SG i_ st)(C:MC R a₀ a b)(hl:∀y∈b.toList,∀x∈a.toList.drop (a.size-1),R y<=R x){mg f t U V:Nat}{out:Array Keyed}{Q:ForInStep S7->SortSt->Prop}(h:Mg R a.toList b.toList out.toList f t)(W:f+1<a.size)(I:t<b.size)
  (B:∀r c f_,SG i_ f_->Good R a b r->Q (.done (some r,c)) f_) (hn:∀J n p L O P f_,SG i_ f_->Mg R a.toList b.toList J.toList n p->n+1<a.size->p<b.size->f+t<=n+p->Q (.done (none,J,n,p,L,O,P)) f_/\Q (.yield (none,J,n,p,L,O,P)) f_):
  wpS (model prog w) A E s (lo2 a b out f t U V mg) Q st:=by
 unfold lo2;refine wpS_bind (ka hg λf_ l=>?_);obtain⟨y,X,K,Y⟩:=C.getB I;refine wpS_bind (aP X (wpS_bind (fw (a₀:=a₀) G (l.kind.trans hk) Y (by omega) (λi hi=>?_) (λi j u v Hz hj hu F=>?_) λk Nk lt Z=>?_)))
 ·obtain⟨z,z1,_,z3⟩:=C.getA (i:=f+i) (by omega)
  exact⟨z,z1,z3⟩
 ·rw[←XF] at hu F
  exact jp C.sA (by omega) hu F
 dsimp only;have S:∀z∈a.toList.drop (f+k),R y<=R z:=by
  intro z hz;obtain⟨m,hm,Nl⟩:=ph hz;rw[YH] at Nl;exact Int.le_of_lt (Z (k+m) z (by omega) (by omega) (by rw[←XF,show f+(k+m)=f+k+m by omega];exact hm))
 by_cases T:k>0
 ·rw[if_pos T]
  have h2:=h.takeA C.sA k λz hz v F=>by
   obtain⟨m,hm,IA⟩:=l4 hz;exact Int.le_trans (lt m z hm (by rw[←XF];exact IA)) (lh C.sB K v F)
  rw[←Aj] at h2;by_cases e:f+k+1=a.size
  ·rw[if_pos (beq_iff_eq.2 e)]
   exact wpS_pure (B _ _ _ l (oq C hl h2 e))
  ·rw[if_neg (λz=>e (beq_iff_eq.1 z))]
   by_cases e2:f+k=a.size
   ·rw[if_pos (beq_iff_eq.2 e2)]
    exact wpS_pure (B _ _ _ l (BW C h2 e2))
   ·rw[if_neg (λz=>e2 (beq_iff_eq.1 z))]
    exact Al G (l.kind.trans hk) C hl h2 (by omega) I K S (λr c g=>B r c f_ l g) λo i j m c d p1 p2 p3 p4=>hn o i j m c d f_ l p1 p2 p3 (by omega)
 ·rw[if_neg T]
  obtain rfl:k=0:=by omega
  exact Al G (l.kind.trans hk) C hl h W I K S (λr c g=>B r c f_ l g) λo i j m c d p1 p2 p3 p4=>hn o i j m c d f_ l p1 p2 p3 (by omega)
theorem Ge{i_:SortSt}(S:Lts prog w A s kd R a₀)(hk:kindOf i_=kd)(hg:SG i_ st)(C:MC R a₀ a b)(hl:∀y∈b.toList,∀x∈a.toList.drop (a.size-1),R y<=R x){mg l n:Nat}{out:Array Keyed}{Q:ForInStep S5->SortSt->Prop}(h:Mg R a.toList b.toList out.toList l n)(W:l+1<a.size)(X:n<b.size)
  (T:∀r c f_,SG i_ f_->Good R a b r->Q (.done (some r,c)) f_) (hn:∀U O P Y f_,SG i_ f_->Mg R a.toList b.toList U.toList O P->O+1<a.size->P<b.size->l+n+1<=O+P->Q (.yield (none,U,O,P,Y)) f_):
  wpS (model prog w) A E s (loB a b out l n mg) Q st:=by
 unfold loB;refine wpS_bind (wpS_mono (wpS_forRange (I:=λx c f_=>SG i_ f_/\∃o i j p q,c=(none,o,i,j,p,q)/\Mg R a.toList b.toList o.toList i j/\i+1<a.size/\j<b.size/\l+n+x<=i+j)
  (Q:=λc f_=>SG i_ f_/\((∃r d,c=(some r,d)/\Good R a b r) \/ ∃o i j p q,c=(none,o,i,j,p,q)/\Mg R a.toList b.toList o.toList i j/\i+1<a.size/\j<b.size/\l+n+1<=i+j)) ?s1 ?f1 ⟨hg,out,l,n,0,0,rfl,h,W,X,by omega⟩) ?p1)
 case f1=>
  rintro c f_ ⟨_,o,i,j,p,q,rfl,f,h2,k,t⟩;omega
 case s1=>
  rintro x c f_ _ hx ⟨g,o,i,j,p,q,rfl,f,h2,k,t⟩;dsimp only;exact Gc S (g.kind.trans hk) C hl f h2 k (λr d u=>⟨g,.inl ⟨r,d,rfl,u⟩⟩) λo' z B F G J K L Z=>⟨⟨g,.inr ⟨o',z,B,F,G,rfl,J,K,L,by omega⟩⟩,⟨g,o',z,B,F,G,rfl,J,K,L,by omega⟩⟩
 case p1=>
  rintro c f_ ⟨g,(⟨r,d,rfl,u⟩ | ⟨o,i,j,p,q,rfl,f,h2,k,t⟩)⟩
  ·exact wpS_pure (T r _ f_ g u)
  ·dsimp only
   refine wpS_bind (wpS_lift (wpAny_rule ⟨rfl,?_⟩));refine wpS_bind (wpS_mono (wpS_forRange (I:=λx c f_=>SG i_ f_/\∃o i j m p q,c=(none,o,i,j,m,p,q)/\Mg R a.toList b.toList o.toList i j/\i+1<a.size/\j<b.size/\l+n+1<=i+j)
    (Q:=λc f_=>SG i_ f_/\((∃r d,c=(some r,d)/\Good R a b r) \/ ∃o i j m p q,c=(none,o,i,j,m,p,q)/\Mg R a.toList b.toList o.toList i j/\i+1<a.size/\j<b.size/\l+n+1<=i+j)) ?s2 ?f2 ⟨g,o,i,j,mg+1,p,q,rfl,f,h2,k,t⟩) ?p2)
   case f2=>
    rintro c f_ ⟨g,o,i,j,m,p,q,rfl,f,h2,k,t⟩;exact⟨g,.inr ⟨o,i,j,m,p,q,rfl,f,h2,k,t⟩⟩
   case s2=>
    rintro x c f_ _ hx ⟨g,o,i,j,m,p,q,rfl,f,h2,k,t⟩;dsimp only;rw[←apply_ite (lo2 a b o i j p q)];exact Gd S hk g C hl f h2 k (λr d f_ g u=>⟨g,.inl ⟨r,d,rfl,u⟩⟩) λo' z B V F G f_ g J K L Z=>⟨⟨g,.inr ⟨o',z,B,V,F,G,rfl,J,K,L,by omega⟩⟩,⟨g,o',z,B,V,F,G,rfl,J,K,L,by omega⟩⟩
   case p2=>
    rintro c f_ ⟨g,(⟨r,d,rfl,u⟩ | ⟨o,i,j,m,p,q,rfl,f,h2,k,t⟩)⟩
    ·exact wpS_pure (T r _ f_ g u)
    ·dsimp only
     exact wpS_bind (ka g λf_ g=>wpS_pure (hn _ _ _ _ _ g f h2 k t))
theorem yI(B:Lts prog w A s kd R a₀)(hk:kindOf st=kd)(C:MC R a₀ a b)(hl:∀y∈b.toList,∀x∈a.toList.drop (a.size-1),R y<=R x)(F:∀y,b.toList[0]?=some y->∀x∈a.toList,R y<=R x){Q:Array Keyed->SortSt->Prop}(h:∀r f_,SG st f_->Good R a b r->Q r f_):
  wpS (model prog w) A E s (pc a b) Q st:=by
 rw[we];refine wpS_bind (wpS_lift (wpAny_rule ⟨rfl,?_⟩));obtain⟨y,G,n,U⟩:=C.getB C.nB;refine wpS_bind (aP G ?_);have J:Mg R a.toList b.toList [] 0 0:=⟨List.Perm.refl _,.nil,(λx hx=>by cases hx),λx hx=>by cases hx⟩;have k:Mg R a.toList b.toList (#[y]:Array Keyed).toList 0 (0+1):=J.oneB C.sB n λx hx=>F y n x hx
 by_cases e:1=b.size
 ·rw[if_pos (beq_iff_eq.2 e)]
  exact wpS_pure (h _ _ (SG.refl _) (oo C k e))
 ·rw[if_neg (λz=>e (beq_iff_eq.1 z))]
  by_cases e2:0+1=a.size
  ·rw[if_pos (beq_iff_eq.2 e2)]
   exact wpS_pure (h _ _ (SG.refl _) (oq C hl k e2))
  ·rw[if_neg (λz=>e2 (beq_iff_eq.1 z))]
   have:=C.nA
   have:=C.nB
   refine wpS_bind (wpS_get ?_);refine wpS_bind (wpS_mono (wpS_forRange (I:=λx c f_=>SG st f_/\∃o i j m,c=(none,o,i,j,m)/\Mg R a.toList b.toList o.toList i j/\i+1<a.size/\j<b.size/\x+1<=i+j)
    (Q:=λc f_=>SG st f_/\∃r d,c=(some r,d)/\Good R a b r) ?s ?f ⟨SG.refl _,_,0,1,_,rfl,k,by omega,by omega,by omega⟩) ?p)
   case f=>
    rintro c f_ ⟨_,o,i,j,m,rfl,t,h2,u,K⟩;omega
   case s=>
    rintro x c f_ _ hx ⟨g,o,i,j,m,rfl,t,h2,u,K⟩;dsimp only;exact Ge B hk g C hl t h2 u (λr d f_ g l=>⟨g,r,d,rfl,l⟩) λo' L O P f_ g k S T V=>⟨g,o',L,O,P,rfl,k,S,T,by omega⟩
   case p=>
    rintro c f_ ⟨g,r,d,rfl,l⟩;exact wpS_pure (h r f_ g l)
end
abbrev H5:Type:=Option (Array Keyed)×Nat×Nat×Array Keyed×Nat
abbrev H6:Type:=Option (Array Keyed)×Nat×Nat×Array Keyed×Nat×Nat
abbrev H7:Type:=Option (Array Keyed)×Nat×Nat×Array Keyed×Nat×Nat×Nat
def dnH(a b out:Array Keyed)(c d:Nat):Array Keyed:=a.extract 0 c++b.extract 0 d++out.reverse
def fbH(a b out:Array Keyed)(c d:Nat):Array Keyed:=b.extract 0 d++a.extract 0 c++out.reverse
def hi1 (a b:Array Keyed) (mg c d:Nat) (out:Array Keyed) (f g:Nat):StateT SortSt Sem (ForInStep H6):=do
  let y ← elem' b (d - 1)
  let x ← elem' a (c - 1)
  match ← lt' y x with
  | some j=>
    if j = true then do
      let x ← elem' a (c - 1)
      if (c - 1 == 0) = true then pure (.done (some (dnH a b (out.push x) (c - 1) d),c - 1,d,out.push x,f + 1,0))
      else if f + 1 >= mg then pure (.done (none,c - 1,d,out.push x,f + 1,0))
      else pure (.yield (none,c - 1,d,out.push x,f + 1,0))
    else do
      let y ← elem' b (d - 1)
      if (d - 1 == 1) = true then pure (.done (some (fbH a b (out.push y) c (d - 1)),c,d - 1,out.push y,0,g + 1))
      else if g + 1 >= mg then pure (.done (none,c,d - 1,out.push y,0,g + 1))
      else pure (.yield (none,c,d - 1,out.push y,0,g + 1))
  | _=>pure (.done (some (dnH a b out c d),c,d,out,f,g))
def hi4 (a b:Array Keyed) (mg d f c g:Nat) (out:Array Keyed):StateT SortSt Sem (ForInStep H7):=do
  let x ← elem' a (c - 1)
  if (c - 1 == 0) = true then pure (.done (some (dnH a b (out.push x) (c - 1) g),c - 1,g,out.push x,mg,d,f))
  else if (decide (d < 7) && decide (f < 7)) = true then pure (.done (none,c - 1,g,out.push x,mg,d,f))
  else pure (.yield (none,c - 1,g,out.push x,mg,d,f))
def hi3 (a b:Array Keyed) (mg f g c d:Nat) (out:Array Keyed):StateT SortSt Sem (ForInStep H7):=do
  let y ← elem' b (c - 1)
  if (c - 1 == 1) = true then pure (.done (some (fbH a b (out.push y) d (c - 1)),d,c - 1,out.push y,mg,f,g))
  else do
    let x ← elem' a (d - 1)
    match ← fv true x b 0 (c - 1) (c - 1 - 1) with
    | some t=>
      if c - 1 - t > 0 then
        if (t == 1) = true then pure (.done (some (fbH a b (out.push y ++ (b.extract t (c - 1)).reverse) d t),d,t,out.push y ++ (b.extract t (c - 1)).reverse,mg,f,c - 1 - t))
        else if (t == 0) = true then pure (.done (some (dnH a b (out.push y ++ (b.extract t (c - 1)).reverse) d t),d,t,out.push y ++ (b.extract t (c - 1)).reverse,mg,f,c - 1 - t))
        else hi4 a b mg f (c - 1 - t) d t (out.push y ++ (b.extract t (c - 1)).reverse)
      else hi4 a b mg f (c - 1 - t) d (c - 1) (out.push y)
    | _=>pure (.done (some (dnH a b (out.push y) d (c - 1)),d,c - 1,out.push y,mg,f,g))
def hi2 (a b:Array Keyed) (c d:Nat) (out:Array Keyed) (g f mg:Nat):StateT SortSt Sem (ForInStep H7):=do
  jo mg
  let y ← elem' b (d - 1)
  match ← fv false y a 0 c (c - 1) with
  | some t=>
    if c - t > 0 then
      if (t == 0) = true then pure (.done (some (dnH a b (out ++ (a.extract t c).reverse) t d),t,d,out ++ (a.extract t c).reverse,mg,c - t,f))
      else hi3 a b mg (c - t) f d t (out ++ (a.extract t c).reverse)
    else hi3 a b mg (c - t) f d c out
  | _=>pure (.done (some (dnH a b out c d),c,d,out,mg,g,f))
def hiB (a b:Array Keyed) (c d:Nat) (out:Array Keyed) (mg:Nat):StateT SortSt Sem (ForInStep H5):=do
  let s1:H6 ← forIn [0:a.size + b.size] ((none,c,d,out,0,0):H6) λ_ s=>hi1 a b mg s.2.1 s.2.2.1 s.2.2.2.1 s.2.2.2.2.1 s.2.2.2.2.2
  match s1.1 with
  | some r=>pure (.done (some r,s1.2.1,s1.2.2.1,s1.2.2.2.1,mg))
  | none=>do
    liftM (rule "list.sort.gallop")
    let s2:H7 ← forIn [0:a.size + b.size] ((none,s1.2.1,s1.2.2.1,s1.2.2.2.1,mg + 1,s1.2.2.2.2.1,s1.2.2.2.2.2):H7) λ_ s=>
      if s.2.2.2.2.1 > 1 then hi2 a b s.2.1 s.2.2.1 s.2.2.2.1 s.2.2.2.2.2.1 s.2.2.2.2.2.2 (s.2.2.2.2.1 - 1) else hi2 a b s.2.1 s.2.2.1 s.2.2.2.1 s.2.2.2.2.2.1 s.2.2.2.2.2.2 s.2.2.2.2.1
    match s2.1 with
    | some r=>pure (.done (some r,s2.2.1,s2.2.2.1,s2.2.2.2.1,s2.2.2.2.2.1))
    | none=>do
      jo (s2.2.2.2.2.1 + 1)
      pure (.yield (none,s2.2.1,s2.2.2.1,s2.2.2.2.1,s2.2.2.2.2.1 + 1))
def pi:Array Keyed->Array Keyed->StateT SortSt Sem (Array Keyed):=sortPriv% PySem.Builtin.mergeHi
theorem wf (a b:Array Keyed):pi a b = (do
  liftM (rule "list.sort.merge-hi")
  let x ← elem' a (a.size - 1)
  if (a.size - 1 == 0) = true then pure (dnH a b #[x] (a.size - 1) b.size)
  else if (b.size == 1) = true then pure (fbH a b #[x] (a.size - 1) b.size)
  else do
    let st ← get
    let s1:H5 ← forIn [0:a.size + b.size] ((none,a.size - 1,b.size,#[x],gallopOf st):H5) λ_ s=>hiB a b s.2.1 s.2.2.1 s.2.2.2.1 s.2.2.2.2
    match s1.1 with
    | some r=>pure r
    | none=>unsupported "internal:list.sort.merge-bound"):=by kernel_rfl
section
variable {R:Keyed->Int}{a₀ a b:Array Keyed}
theorem Am{l:List Keyed}{n:Nat}(h:0<n)(h2:n<=l.length):l.reverse[l.length-n]?=l[n-1]?:=by
 rw[List.getElem?_reverse (by omega),show l.length-1-(l.length-n)=n-1 by omega]
theorem jq{l:List Keyed}{n:Nat}(h:n<=l.length):l.reverse.drop (l.length-n)=(l.take n).reverse:=by rw[List.reverse_take]
theorem rW{l:List Keyed}{t n:Nat}(h:t<=n)(h2:n<=l.length):(l.reverse.drop (l.length-n)).take (n-t)=((l.drop t).take (n-t)).reverse:=by
 rw[jq h2,List.take_reverse,YV,show min n l.length-(n-t)=t by omega,List.drop_take]
theorem fA{l:List Keyed}(h:l.Pairwise λx y=>R x<=R y):l.reverse.Pairwise λx y=>-R x<=-R y:=by
 rw[List.pairwise_reverse];exact h.imp λz=>by omega
theorem qB{l:List Keyed}{n:Nat}{x:Keyed}(h:n<=l.length)(hx:x∈l.reverse.drop (l.length-n)):∃m,m<n/\l[m]?=some x:=by
 rw[jq h,List.mem_reverse] at hx;obtain⟨m,hm⟩:=XY hx;rw[ZJ] at hm;split at hm
 ·exact⟨m,by assumption,hm⟩
 ·cases hm
theorem An(out b:Array Keyed){t n:Nat}(h:t<=n)(h2:n<=b.size):(out++(b.extract t n).reverse).toList=out.toList++(b.toList.reverse.drop (b.size-n)).take (n-t):=by
 rw[Array.toList_append,Array.toList_reverse,Array.toList_extract,List.extract_eq_take_drop]
 have:=rW (l:=b.toList) h (by rw[YH];exact h2)
 rw[YH] at this;rw[this]
abbrev MH(R:Keyed->Int)(a b out:Array Keyed)(c d:Nat):Prop:=Mg (λx=>-R x) a.toList.reverse b.toList.reverse out.toList (a.size-c) (b.size-d)
theorem pj{r:Array Keyed}{X:List Keyed}(e:r.toList=X.reverse)(h:X.Perm (a.toList.reverse++b.toList.reverse))(h2:X.Pairwise λx y=>-R x<=-R y):Good R a b r:=by
 unfold Good;rw[e];refine⟨(List.reverse_perm _).trans (h.trans ((List.reverse_perm _).append (List.reverse_perm _))),?_⟩;rw[List.pairwise_reverse];exact h2.imp λz=>by omega
theorem ex0(a:Array Keyed)(n:Nat):(a.extract 0 n).toList=a.toList.take n:=by
 rw[Array.toList_extract,List.extract_eq_take_drop,List.drop_zero,Nat.sub_zero]
theorem l5(C:MC R a₀ a b){out:Array Keyed}{d c:Nat}(h:MH R a b out d c)(hb:c<=b.size)(e:d=0):Good R a b (dnH a b out d c):=by
 subst e;have h:Mg (λx=>-R x) a.toList.reverse b.toList.reverse out.toList a.toList.reverse.length (b.size-c):=by
  rw[List.length_reverse,YH];exact h
 have:=h.swap.fin (fA C.sB)
 refine pj (X:=out.toList++b.toList.reverse.drop (b.size-c)) ?_ (this.1.trans List.perm_append_comm) this.2;unfold dnH;have e:=jq (l:=b.toList) (n:=c) (by rw[YH];exact hb);rw[YH] at e;rw[Array.toList_append,Array.toList_append,ex0,ex0,Array.toList_reverse,List.take_zero,XG,e,List.reverse_append,List.reverse_reverse]
theorem Ao(C:MC R a₀ a b){out:Array Keyed}{c d:Nat}(h:MH R a b out c d)(ha:c<=a.size)(e:d=0):Good R a b (dnH a b out c d):=by
 subst e;have h:Mg (λx=>-R x) a.toList.reverse b.toList.reverse out.toList (a.size-c) b.toList.reverse.length:=by
  rw[List.length_reverse,YH];exact h
 have:=h.fin (fA C.sA)
 refine pj (X:=out.toList++a.toList.reverse.drop (a.size-c)) ?_ this.1 this.2;unfold dnH;have e:=jq (l:=a.toList) (n:=c) (by rw[YH];exact ha);rw[YH] at e;rw[Array.toList_append,Array.toList_append,ex0,ex0,Array.toList_reverse,List.take_zero,ZA,e,List.reverse_append,List.reverse_reverse]
theorem l6(C:MC R a₀ a b)(f:∀y,b.toList[0]?=some y->∀x∈a.toList,R y<=R x){out:Array Keyed}{c d:Nat}(h:MH R a b out c d)(ha:c<=a.size)(e:d=1):Good R a b (fbH a b out c d):=by
 subst e;have hb:=C.nB
 have:=h.swap.finB (fA C.sB) (fA C.sA) (λx hx y hy=>by
  have:=qB (l:=b.toList) (n:=1) (by rw[YH];exact hb) (by rw[YH];exact hy)
  obtain⟨m,hm,hy⟩:=this;obtain rfl:m=0:=by omega
  have:=f y hy x (List.mem_reverse.1 hx)
  show -R x<=-R y;omega)
 refine pj (X:=out.toList++a.toList.reverse.drop (a.size-c)++b.toList.reverse.drop (b.size-1)) ?_ (this.1.trans List.perm_append_comm) this.2;unfold fbH;have e1:=jq (l:=a.toList) (n:=c) (by rw[YH];exact ha);have e2:=jq (l:=b.toList) (n:=1) (by rw[YH];exact hb);rw[YH] at e1 e2;rw[Array.toList_append,Array.toList_append,ex0,ex0,Array.toList_reverse,e1,e2,List.reverse_append,List.reverse_append,List.reverse_reverse,List.reverse_reverse,ZC]
theorem MH.oneA(C:MC R a₀ a b){out:Array Keyed}{c d:Nat}(h:MH R a b out c d)(f:0<c)(h2:c<=a.size){x:Keyed}(hx:a.toList[c-1]?=some x)(g:∀y∈b.toList.reverse.drop (b.size-d),R y<=R x):MH R a b (out.push x) (c-1) d:=by
 have:=Mg.oneA (fA C.sA) h (x:=x) (by
  have:=Am (l:=a.toList) f (by rw[YH];exact h2)
  rw[YH] at this;rw[this];exact hx) (λy hy=>by have:=g y hy;show -R x<=-R y;omega)
 rw[←ZB,show a.size-c+1=a.size-(c-1) by omega] at this;exact this
theorem MH.oneB(C:MC R a₀ a b){out:Array Keyed}{d c:Nat}(h:MH R a b out d c)(f:0<c)(h2:c<=b.size){x:Keyed}(hx:b.toList[c-1]?=some x)(g:∀y∈a.toList.reverse.drop (a.size-d),R y<=R x):MH R a b (out.push x) d (c-1):=by
 have:=Mg.oneB (fA C.sB) h (x:=x) (by
  have:=Am (l:=b.toList) f (by rw[YH];exact h2)
  rw[YH] at this;rw[this];exact hx) (λy hy=>by have:=g y hy;show -R x<=-R y;omega)
 rw[←ZB,show b.size-c+1=b.size-(c-1) by omega] at this;exact this
theorem ot{a:Array Keyed}(c:a.toList.Pairwise λx y=>R x<=R y){n:Nat}(h2:n<=a.size){x:Keyed}(hx:a.toList[n-1]?=some x):∀y∈a.toList.reverse.drop (a.size-n),R y<=R x:=by
 intro y hy;obtain⟨m,hm,hy⟩:=qB (l:=a.toList) (n:=n) (by rw[YH];exact h2) (by rw[YH];exact hy);exact jp c (by omega) hy hx
variable {prog:ZS}{w:World}{A:Around}{E:Zd}{s:Shared}{kd:SortKind}{st:SortSt}
theorem Gf(J:Lts prog w A s kd R a₀)(hk:kindOf st=kd)(C:MC R a₀ a b)(K:∀y,b.toList[0]?=some y->∀x∈a.toList,R y<=R x){mg d f n o:Nat}{out:Array Keyed}{Q:ForInStep H6->SortSt->Prop}(h:MH R a b out d f)(ha:0<d)(k:d<=a.size)(hb:1<f)(l:f<=b.size)
  (p:∀r c,Good R a b r->Q (.done (some r,c)) st) (hn:∀g j m t u,MH R a b m g j->0<g->g<=a.size->1<j->j<=b.size->g+j+1=d+f->Q (.done (none,g,j,m,t,u)) st/\Q (.yield (none,g,j,m,t,u)) st):
  wpS (model prog w) A E s (hi1 a b mg d f out n o) Q st:=by
 obtain⟨y,B,F,L⟩:=C.getB (i:=f-1) (by omega);obtain⟨x,G,I,O⟩:=C.getA (i:=d-1) (by omega);unfold hi1;refine wpS_bind (aP B (wpS_bind (aP G (wpS_bind (qA J hk L O ?_)))));dsimp only;by_cases hw:R y<R x
 ·rw[YY hw,if_pos rfl]
  refine wpS_bind (aP G ?_);have h':=MH.oneA C h ha k I λz hz=>Int.le_trans (ot C.sB l F z hz) (Int.le_of_lt hw)
  by_cases e:d-1=0
  ·rw[if_pos (beq_iff_eq.2 e)]
   exact wpS_pure (p _ _ (l5 C h' l e))
  ·rw[if_neg (λz=>e (beq_iff_eq.1 z))]
   have hn:=hn _ _ _ (n+1) 0 h' (by omega) (by omega) hb l (by omega);split
   ·exact wpS_pure hn.1
   ·exact wpS_pure hn.2
 ·rw[ZT hw,if_neg (by decide)]
  refine wpS_bind (aP B ?_);have h':=MH.oneB C h (by omega) l F λz hz=>Int.le_trans (ot C.sA k I z hz) (Int.not_lt.1 hw)
  by_cases e:f-1=1
  ·rw[if_pos (beq_iff_eq.2 e)]
   exact wpS_pure (p _ _ (l6 C K h' k e))
  ·rw[if_neg (λz=>e (beq_iff_eq.1 z))]
   have hn:=hn _ _ _ 0 (o+1) h' ha k (by omega) (by omega) (by omega);split
   ·exact wpS_pure hn.1
   ·exact wpS_pure hn.2
theorem Ap(C:MC R a₀ a b){mg d f l m:Nat}{x:Keyed}{out:Array Keyed}{Q:ForInStep H7->SortSt->Prop}(h:MH R a b out d f)(ha:0<d)(u:d<=a.size)(hb:1<f)(n:f<=b.size)(hx:a.toList[d-1]?=some x)(B:∀y∈b.toList.reverse.drop (b.size-f),R y<=R x)
  (F:∀r c,Good R a b r->Q (.done (some r,c)) st) (hn:∀g j k o p t,MH R a b k g j->0<g->g<=a.size->1<j->j<=b.size->g+j<=d+f->Q (.done (none,g,j,k,o,p,t)) st/\Q (.yield (none,g,j,k,o,p,t)) st):
  wpS (model prog w) A E s (hi4 a b mg l m d f out) Q st:=by
 unfold hi4;refine wpS_bind (aP (by rw[←XF];exact hx) ?_);have h':=MH.oneA C h ha u hx B;by_cases e:d-1=0
 ·rw[if_pos (beq_iff_eq.2 e)]
  exact wpS_pure (F _ _ (l5 C h' n e))
 ·rw[if_neg (λz=>e (beq_iff_eq.1 z))]
  have hn:=hn _ _ _ mg l m h' (by omega) (by omega) hb n (by omega);split
  ·exact wpS_pure hn.1
  ·exact wpS_pure hn.2
theorem Aq(Y:Lts prog w A s kd R a₀)(hk:kindOf st=kd)(C:MC R a₀ a b)(P:∀y,b.toList[0]?=some y->∀x∈a.toList,R y<=R x){mg g f Z bc:Nat}{y:Keyed}{out:Array Keyed}{Q:ForInStep H7->SortSt->Prop}(h:MH R a b out g f)(ha:0<g)(k:g<=a.size)(hb:1<f)(F':f<=b.size)(hy:b.toList[f-1]?=some y)(HA:∀x∈a.toList.reverse.drop (a.size-g),R x<=R y)
  (G:∀r c,Good R a b r->Q (.done (some r,c)) st) (hn:∀p B J S T U,MH R a b J p B->0<p->p<=a.size->1<B->B<=b.size->p+B<=g+f->Q (.done (none,p,B,J,S,T,U)) st/\Q (.yield (none,p,B,J,S,T,U)) st):
  wpS (model prog w) A E s (hi3 a b mg Z bc f g out) Q st:=by
 unfold hi3;refine wpS_bind (aP (by rw[←XF];exact hy) ?_);have h':=MH.oneB C h (by omega) F' hy HA;by_cases e:f-1=1
 ·rw[if_pos (beq_iff_eq.2 e)]
  exact wpS_pure (G _ _ (l6 C P h' k e))
 ·rw[if_neg (λz=>e (beq_iff_eq.1 z))]
  obtain⟨x,x1,K,x3⟩:=C.getA (i:=g-1) (by omega);refine wpS_bind (aP x1 (wpS_bind (fw (a₀:=a₀) Y hk x3 (by omega) (λi hi=>?_) (λi j u v Hz hj hu I=>?_) λt ht lt ge=>?_)))
  ·obtain⟨z,z1,_,z3⟩:=C.getB (i:=0+i) (by omega)
   exact⟨z,z1,z3⟩
  ·rw[←XF] at hu I
   exact jp C.sB (by omega) hu I
  dsimp only;have V:∀z∈b.toList.reverse.drop (b.size-t),R z<=R x:=by
   intro z hz;obtain⟨m,hm,hz⟩:=qB (l:=b.toList) (n:=t) (by rw[YH];omega) (by rw[YH];exact hz);exact Int.le_of_lt (lt m z hm (by rw[←XF,Nat.zero_add];exact hz))
  by_cases W:f-1-t>0
  ·rw[if_pos W]
   have h2:Mg _ _ _ _ _ _:=Mg.takeB (fA C.sB) h' (f-1-t) λz hz v I=>by
    have F:=rW (l:=b.toList) (t:=t) (n:=f-1) ht (by rw[YH];omega);rw[YH] at F;rw[F,List.mem_reverse] at hz;obtain⟨m,hm,IA⟩:=l4 hz;have X:=ge (t+m) z (by omega) (by omega) (by rw[←XF,Nat.zero_add];exact IA);have g2:=ot C.sA k K v I;have X:R x<=R z:=X;show -R z<=-R v;omega
   rw[←An _ _ ht (by omega),show b.size-(f-1)+(f-1-t)=b.size-t by omega] at h2;by_cases e2:t=1
   ·rw[if_pos (beq_iff_eq.2 e2)]
    exact wpS_pure (G _ _ (l6 C P h2 k e2))
   ·rw[if_neg (λz=>e2 (beq_iff_eq.1 z))]
    by_cases F:t=0
    ·rw[if_pos (beq_iff_eq.2 F)]
     exact wpS_pure (G _ _ (Ao C h2 k F))
    ·rw[if_neg (λz=>F (beq_iff_eq.1 z))]
     exact Ap C h2 ha k (by omega) (by omega) K V G λi j o m c d p1 p2 p3 L O p6=>hn i j o m c d p1 p2 p3 L O (by omega)
  ·rw[if_neg W]
   obtain rfl:t=f-1:=by omega
   exact Ap C h' ha k (by omega) (by omega) K V G λi j o m c d p1 p2 p3 L O p6=>hn i j o m c d p1 p2 p3 L O (by omega)
theorem Gg{i_:SortSt}(J:Lts prog w A s kd R a₀)(hk:kindOf i_=kd)(hg:SG i_ st)(C:MC R a₀ a b)(T:∀y,b.toList[0]?=some y->∀x∈a.toList,R y<=R x){mg f p ac bc:Nat}{out:Array Keyed}{Q:ForInStep H7->SortSt->Prop}(h:MH R a b out f p)(ha:0<f)(U:f<=a.size)(hb:1<p)(G:p<=b.size)
  (K:∀r c f_,SG i_ f_->Good R a b r->Q (.done (some r,c)) f_) (hn:∀B F L V W X f_,SG i_ f_->MH R a b L B F->0<B->B<=a.size->1<F->F<=b.size->B+F<=f+p->Q (.done (none,B,F,L,V,W,X)) f_/\Q (.yield (none,B,F,L,V,W,X)) f_):
  wpS (model prog w) A E s (hi2 a b f p out ac bc mg) Q st:=by
 unfold hi2;refine wpS_bind (ka hg λf_ k=>?_);obtain⟨y,y1,O,y3⟩:=C.getB (i:=p-1) (by omega);refine wpS_bind (aP y1 (wpS_bind (fw (a₀:=a₀) J (k.kind.trans hk) y3 (by omega) (λi hi=>?_) (λi j u v Hz hj hu I=>?_) λt ht lt ge=>?_)))
 ·obtain⟨z,z1,_,z3⟩:=C.getA (i:=0+i) (by omega)
  exact⟨z,z1,z3⟩
 ·rw[←XF] at hu I
  exact jp C.sA (by omega) hu I
 dsimp only;have Y:∀z∈a.toList.reverse.drop (a.size-t),R z<=R y:=by
  intro z hz;obtain⟨m,hm,hz⟩:=qB (l:=a.toList) (n:=t) (by rw[YH];omega) (by rw[YH];exact hz);exact lt m z hm (by rw[←XF,Nat.zero_add];exact hz)
 by_cases Z:f-t>0
 ·rw[if_pos Z]
  have h2:Mg _ _ _ _ _ _:=Mg.takeA (fA C.sA) h (f-t) λz hz v I=>by
   have e3:=rW (l:=a.toList) (t:=t) (n:=f) ht (by rw[YH];omega);rw[YH] at e3;rw[e3,List.mem_reverse] at hz;obtain⟨m,hm,IA⟩:=l4 hz;have g1:=ge (t+m) z (by omega) (by omega) (by rw[←XF,Nat.zero_add];exact IA);have g2:=ot C.sB G O v I;have g1:R y<R z:=g1;show -R z<=-R v;omega
  rw[←An _ _ ht U,show a.size-f+(f-t)=a.size-t by omega] at h2;by_cases e2:t=0
  ·rw[if_pos (beq_iff_eq.2 e2)]
   exact wpS_pure (K _ _ _ k (l5 C h2 G e2))
  ·rw[if_neg (λz=>e2 (beq_iff_eq.1 z))]
   exact Aq J (k.kind.trans hk) C T h2 (by omega) (by omega) hb G O Y (λr c g=>K r c f_ k g) λi j o m c d p1 p2 p3 P S p6=>hn i j o m c d f_ k p1 p2 p3 P S (by omega)
 ·rw[if_neg Z]
  obtain rfl:t=f:=by omega
  exact Aq J (k.kind.trans hk) C T h ha U hb G O Y (λr c g=>K r c f_ k g) λi j o m c d p1 p2 p3 P S p6=>hn i j o m c d f_ k p1 p2 p3 P S (by omega)
theorem Gh{i_:SortSt}(X:Lts prog w A s kd R a₀)(hk:kindOf i_=kd)(hg:SG i_ st)(C:MC R a₀ a b)(Y:∀y,b.toList[0]?=some y->∀x∈a.toList,R y<=R x){mg f k:Nat}{out:Array Keyed}{Q:ForInStep H5->SortSt->Prop}(h:MH R a b out f k)(ha:0<f)(HZ:f<=a.size)(hb:1<k)(F':k<=b.size)
  (Z:∀r c f_,SG i_ f_->Good R a b r->Q (.done (some r,c)) f_) (hn:∀G J s_ HK f_,SG i_ f_->MH R a b s_ G J->0<G->G<=a.size->1<J->J<=b.size->G+J+1<=f+k->Q (.yield (none,G,J,s_,HK)) f_):
  wpS (model prog w) A E s (hiB a b f k out mg) Q st:=by
 unfold hiB;refine wpS_bind (wpS_mono (wpS_forRange (I:=λx c f_=>SG i_ f_/\∃i j o p q,c=(none,i,j,o,p,q)/\MH R a b o i j/\0<i/\i<=a.size/\1<j/\j<=b.size/\i+j+x<=f+k)
  (Q:=λc f_=>SG i_ f_/\((∃r d,c=(some r,d)/\Good R a b r) \/ ∃i j o p q,c=(none,i,j,o,p,q)/\MH R a b o i j/\0<i/\i<=a.size/\1<j/\j<=b.size/\i+j+1<=f+k)) ?s1 ?f1 ⟨hg,f,k,out,0,0,rfl,h,ha,HZ,hb,F',by omega⟩) ?p1)
 case f1=>
  rintro c f_ ⟨_,i,j,o,p,q,rfl,l,h2,n,t,u,F⟩;omega
 case s1=>
  rintro x c f_ _ hx ⟨g,i,j,o,p,q,rfl,l,h2,n,t,u,F⟩;dsimp only;exact Gf X (g.kind.trans hk) C Y l h2 n t u (λr d B=>⟨g,.inl ⟨r,d,rfl,B⟩⟩) λK L o' O P S T U V W m6=>⟨⟨g,.inr ⟨K,L,o',O,P,rfl,S,T,U,V,W,by omega⟩⟩,⟨g,K,L,o',O,P,rfl,S,T,U,V,W,by omega⟩⟩
 case p1=>
  rintro c f_ ⟨g,(⟨r,d,rfl,B⟩ | ⟨i,j,o,p,q,rfl,l,h2,n,t,u,F⟩)⟩
  ·exact wpS_pure (Z r _ f_ g B)
  ·dsimp only
   refine wpS_bind (wpS_lift (wpAny_rule ⟨rfl,?_⟩));refine wpS_bind (wpS_mono (wpS_forRange (I:=λx c f_=>SG i_ f_/\∃i j o m p q,c=(none,i,j,o,m,p,q)/\MH R a b o i j/\0<i/\i<=a.size/\1<j/\j<=b.size/\i+j+1<=f+k)
    (Q:=λc f_=>SG i_ f_/\((∃r d,c=(some r,d)/\Good R a b r) \/ ∃i j o m p q,c=(none,i,j,o,m,p,q)/\MH R a b o i j/\0<i/\i<=a.size/\1<j/\j<=b.size/\i+j+1<=f+k)) ?s2 ?f2 ⟨g,i,j,o,mg+1,p,q,rfl,l,h2,n,t,u,F⟩) ?p2)
   case f2=>
    rintro c f_ ⟨g,z⟩;exact⟨g,.inr z⟩
   case s2=>
    rintro x c f_ _ hx ⟨g,i,j,o,m,p,q,rfl,l,h2,n,t,u,F⟩;dsimp only;rw[←apply_ite (hi2 a b i j o p q)];exact Gg X hk g C Y l h2 n t u (λr d f_ g B=>⟨g,.inl ⟨r,d,rfl,B⟩⟩) λK L o' m' O P f_ g S T U V W m6=>⟨⟨g,.inr ⟨K,L,o',m',O,P,rfl,S,T,U,V,W,by omega⟩⟩,⟨g,K,L,o',m',O,P,rfl,S,T,U,V,W,by omega⟩⟩
   case p2=>
    rintro c f_ ⟨g,(⟨r,d,rfl,B⟩ | ⟨i,j,o,m,p,q,rfl,l,h2,n,t,u,F⟩)⟩
    ·exact wpS_pure (Z r _ f_ g B)
    ·dsimp only
     exact wpS_bind (ka g λf_ g=>wpS_pure (hn _ _ _ _ _ g l h2 n t u F))
theorem yJ(F:Lts prog w A s kd R a₀)(hk:kindOf st=kd)(C:MC R a₀ a b)(hl:∀y∈b.toList,∀x∈a.toList.drop (a.size-1),R y<=R x)(l:∀y,b.toList[0]?=some y->∀x∈a.toList,R y<=R x){Q:Array Keyed->SortSt->Prop}(h:∀r f_,SG st f_->Good R a b r->Q r f_):
  wpS (model prog w) A E s (pi a b) Q st:=by
 have G:=C.nA;have X:=C.nB;rw[wf];refine wpS_bind (wpS_lift (wpAny_rule ⟨rfl,?_⟩));obtain⟨x,J,n,Y⟩:=C.getA (i:=a.size-1) (by omega);refine wpS_bind (aP J ?_);have K:MH R a b #[] a.size b.size:=by
  show Mg _ _ _ _ (a.size-a.size) (b.size-b.size);rw[Nat.sub_self,Nat.sub_self];exact⟨List.Perm.refl _,.nil,(λx hx=>by cases hx),λx hx=>by cases hx⟩
 have f:MH R a b #[x] (a.size-1) b.size:=MH.oneA C K G (YJ _) n λy hy=>hl y (List.mem_reverse.1 (List.mem_of_mem_drop hy)) x (YW (i:=0) (by rw[List.getElem?_drop];exact n))
 by_cases e:a.size-1=0
 ·rw[if_pos (beq_iff_eq.2 e)]
  exact wpS_pure (h _ _ (SG.refl _) (l5 C f (YJ _) e))
 ·rw[if_neg (λz=>e (beq_iff_eq.1 z))]
  by_cases e2:b.size=1
  ·rw[if_pos (beq_iff_eq.2 e2)]
   exact wpS_pure (h _ _ (SG.refl _) (l6 C l f (by omega) e2))
  ·rw[if_neg (λz=>e2 (beq_iff_eq.1 z))]
   refine wpS_bind (wpS_get ?_);refine wpS_bind (wpS_mono (wpS_forRange (I:=λx c f_=>SG st f_/\∃i j o m,c=(none,i,j,o,m)/\MH R a b o i j/\0<i/\i<=a.size/\1<j/\j<=b.size/\i+j+x<=a.size+b.size)
    (Q:=λc f_=>SG st f_/\∃r d,c=(some r,d)/\Good R a b r) ?sx ?fx ⟨SG.refl _,_,_,_,_,rfl,f,by omega,by omega,by omega,by omega,by omega⟩) ?px)
   case fx=>
    rintro c f_ ⟨_,i,j,o,m,rfl,p,h2,t,u,B,L⟩;omega
   case sx=>
    rintro x c f_ _ hx ⟨g,i,j,o,m,rfl,p,h2,t,u,B,L⟩;dsimp only;exact Gh F hk g C l p h2 t u B (λr d f_ g k=>⟨g,r,d,rfl,k⟩) λO P o' S f_ g f T U V W Z=>⟨g,O,P,o',S,rfl,f,T,U,V,W,by omega⟩
   case px=>
    rintro c f_ ⟨g,r,d,rfl,k⟩;exact wpS_pure (h r f_ g k)
end
def wr(base:Nat)(r:List Keyed)(b:Nat)(xs:Array Keyed):Array Keyed:=(r.zipIdx b).foldl (λa (p,j)=>a.setIfInBounds (base+j) p) xs
theorem uS(base:Nat):∀(r:List Keyed) (a:Nat) (xs:Array Keyed),base+a+r.length<=xs.size->∀k:Nat,(wr base r a xs)[k]?=if base+a<=k/\k<base+a+r.length then r[k-(base+a)]? else xs[k]?
 |[],a,xs,_,k=>by
  show xs[k]?=_;rw[if_neg (by simp only[YX];omega)]
 |p::r,a,xs,h,k=>by
  rw[YM] at h;show(wr base r (a+1) (xs.setIfInBounds (base+a) p))[k]?=_;rw[uS base r (a+1) _ (by rw[Array.size_setIfInBounds];omega) k,YM];by_cases b:base+(a+1)<=k/\k<base+(a+1)+r.length
  ·rw[if_pos b,if_pos (by omega),show k-(base+a)=(k-(base+(a+1)))+1 by omega,List.getElem?_cons_succ]
  ·rw[if_neg b]
   by_cases h2:k=base+a
   ·subst h2
    rw[if_pos (by omega),Nat.sub_self,XX,Array.getElem?_setIfInBounds,if_pos rfl,if_pos (by omega)]
   ·rw[if_neg (by omega),Array.getElem?_setIfInBounds,if_neg (by omega)]
def Srt(R:Keyed->Int)(xs:Array Keyed)(lo hi:Nat):Prop:=∀i j x y,lo<=i->i<=j->j<hi->xs[i]?=some x->xs[j]?=some y->R x<=R y
structure SB (kd:SortKind) (a₀:Array Keyed) (st:SortSt):Prop where
 perm:(arrOf st).Perm a₀
 kind:kindOf st=kd
 fail:failedOf st=none
def wj (i:Nat):mergeAt' i = (do
  let s ← get
  match (pendingOf s)[i]?,(pendingOf s)[i + 1]? with
  | some (sa,c,b),some (a,d,_)=>do
    set (setPending s (((pendingOf s).setIfInBounds i (sa,c + d,b)).eraseIdxIfInBounds (i + 1)))
    let y ← elem' (arrOf s) a
    match ← fv false y (arrOf s) sa c 0 with
    | some k=>
      if (c - k == 0) = true then pure true
      else do
        let x ← elem' (arrOf s) (sa + k + (c - k) - 1)
        match ← fv true x (arrOf s) a d (d - 1) with
        | some t=>
          if (t == 0) = true then pure true
          else do
            let r ← if c - k<=t then pc ((arrOf s).extract (sa + k) a) ((arrOf s).extract a (a + t)) else pi ((arrOf s).extract (sa + k) a) ((arrOf s).extract a (a + t))
            modify λs=>setArr s (wr (sa + k) r.toList 0 (arrOf s))
            let s ← get
            pure (failedOf s).isNone
        | _=>pure false
    | _=>pure false
  | _,_=>unsupported "internal:list.sort.pending"):=by kernel_rfl
section
variable {prog:ZS}{w:World}{A:Around}{E:Zd}{s:Shared}{kd:SortKind}{R:Keyed->Int}{a₀:Array Keyed}{st:SortSt}
theorem Eu{σ:Type}{M:Model}{x st:σ}{Q:PUnit->σ->Prop}(h:Q ⟨⟩ x):wpS M A E s (set x:StateT σ Sem PUnit) Q st:=by
 unfold wpS;rw[StateT.run_set];exact Yc ⟨rfl,h⟩
theorem SB.size(h:SB kd a₀ st):(arrOf st).size=a₀.size:=h.perm.size_eq
theorem SB.at(h:SB kd a₀ st){i:Nat}(hi:i<a₀.size):∃x,(arrOf st)[i]?=some x/\x∈a₀.toList:=by
 have a:i<(arrOf st).size:=by rw[h.size];exact hi
 exact⟨_,getElem?_pos _ i a,(Array.perm_iff_toList_perm.mp h.perm).mem_iff.mp (by simp)⟩
theorem lj(xs:Array Keyed)(i j k:Nat)(h:j<=xs.size)(hk:k<j-i):(xs.extract i j).toList[k]?=xs[i+k]?:=by
 rw[Array.toList_extract,List.extract_eq_take_drop,ZJ,if_pos hk,List.getElem?_drop,XF]
theorem pk(xs:Array Keyed)(i j:Nat)(h:j<=xs.size):(xs.extract i j).size=j-i:=by rw[Array.size_extract];omega
theorem jr(xs:Array Keyed)(i j:Nat)(h:j<=xs.size):(xs.extract i j).toList.length=j-i:=by rw[YH,pk xs i j h]
theorem lm{xs:Array Keyed}{i j:Nat}{x:Keyed}(h:j<=xs.size)(hx:x∈(xs.extract i j).toList):∃k,i<=k/\k<j/\xs[k]?=some x:=by
 obtain⟨m,hm⟩:=XY hx;have hl:=(YG.mp hm).1;rw[jr xs i j h] at hl;rw[lj xs i j m h hl] at hm;exact⟨i+m,by omega,by omega,hm⟩
theorem xx{xs:Array Keyed}{i j:Nat}(h:j<=xs.size)(a:Srt R xs i j):(xs.extract i j).toList.Pairwise λx y=>R x<=R y:=by
 rw[List.pairwise_iff_getElem];intro p q hp hq b;rw[jr xs i j h] at hp hq;refine a (i+p) (i+q) _ _ (by omega) (by omega) (by omega) ?_ ?_
 ·rw[←lj xs i j p h hp];exact ZE _
 ·rw[←lj xs i j q h hq];exact ZE _
theorem Ev{xs:Array Keyed}{p q:Nat}{r:List Keyed}(d:p<=q)(h2:q<=xs.size)(a:r.Perm (xs.extract p q).toList):(wr p r 0 xs).Perm xs:=by
 have hl:r.length=q-p:=by rw[a.length_eq,jr xs p q h2]
 have hx:xs.toList=xs.toList.take p++((xs.extract p q).toList++xs.toList.drop q):=by
  rw[Array.toList_extract,List.extract_eq_take_drop];have:xs.toList.drop q=(xs.toList.drop p).drop (q-p):=by rw[List.drop_drop,show p+(q-p)=q by omega]
  rw[this,List.take_append_drop,List.take_append_drop]
 have hw:(wr p r 0 xs).toList=xs.toList.take p++(r++xs.toList.drop q):=by
  refine List.ext_getElem? λk=>?_
  rw[XF,uS p r 0 xs (by omega) k];have b:(xs.toList.take p).length=p:=by rw[YV,YH];omega
  by_cases c:k<p
  ·rw[if_neg (by omega),ZF (by omega),ZJ,if_pos c,XF]
  ·rw[ZI (by omega),b]
   by_cases f:k<q
   ·rw[if_pos (by omega),ZF (by omega)];rfl
   ·rw[if_neg (by omega),ZI (by omega),List.getElem?_drop,XF,hl,show q+(k-p-(q-p))=k by omega]
 rw[Array.perm_iff_toList_perm,hw];refine List.Perm.trans (List.Perm.append_left _ (a.append_right _)) ?_;rw[←hx]
theorem yK (S:Lts prog w A s kd R a₀) (o:SB kd a₀ st) {i sa b p B q:Nat} (h1:(pendingOf st)[i]? = some (sa,b,p)) (h2:(pendingOf st)[i + 1]? = some (sa + b,B,q)) (R_:0 < b) (TQ:0 < B) (hsz:sa + b + B<=a₀.size) (s1:Srt R (arrOf st) sa (sa + b)) (s2:Srt R (arrOf st) (sa + b) (sa + b + B))
    {Q:Bool->SortSt->Prop} (h:∀ f_,SB kd a₀ f_->pendingOf f_ = ((pendingOf st).setIfInBounds i (sa,b + B,p)).eraseIdxIfInBounds (i + 1)->Srt R (arrOf f_) sa (sa + b + B)->(∀ k,k < sa \/ sa + b + B<=k->(arrOf f_)[k]? = (arrOf st)[k]?)->Q true f_) :
    wpS (model prog w) A E s (mergeAt' i) Q st:=by
  have sz:=o.size
  rw [wj]
  refine wpS_bind (wpS_get ?_)
  rw [h1,h2]
  dsimp only
  refine wpS_bind (Eu ?_)
  generalize Kf:setPending st (((pendingOf st).setIfInBounds i (sa,b + B,p)).eraseIdxIfInBounds (i + 1)) = st1
  have O:arrOf st1 = arrOf st:=by rw [← Kf]
  have p1:pendingOf st1 = ((pendingOf st).setIfInBounds i (sa,b + B,p)).eraseIdxIfInBounds (i + 1):=by rw [← Kf]
  have K:SB kd a₀ st1:=by rw [← Kf]; exact ⟨o.perm,o.kind,o.fail⟩
  obtain ⟨y,U,y3⟩:=o.at (i:=sa + b) (by omega)
  refine wpS_bind (aP U (wpS_bind (fw (a₀:=a₀) S K.kind y3 R_ (λm hm=>o.at (by omega)) (λm n u v f j hu d=>s1 (sa + m) (sa + n) u v (by omega) (by omega) (by omega) hu d) λk hk lt ge=>?_)))
  dsimp only
  have V:∀ m v,sa<=m->m < sa + k->(arrOf st)[m]? = some v->R v<=R y:=λm v f j d=>lt (m - sa) v (by omega) (by rw [show sa + (m - sa) = m by omega]; exact d)
  have Qt:∀ m v,sa + k<=m->m < sa + b->(arrOf st)[m]? = some v->R y < R v:=λm v f j d=>ge (m - sa) v (by omega) (by omega) (by rw [show sa + (m - sa) = m by omega]; exact d)
  have W:∀ m v,sa + b<=m->m < sa + b + B->(arrOf st)[m]? = some v->R y<=R v:=λm v f j d=>s2 (sa + b) m y v (by omega) f j U d
  by_cases e1:b - k = 0
  · rw [if_pos (beq_iff_eq.2 e1)]
    refine wpS_pure (h st1 K p1 ?_ λk _=>by rw [O])
    rw [O]
    intro m n u v f j l hu d
    by_cases L:n < sa + b
    · exact s1 m n u v f j L hu d
    · by_cases J:m < sa + b
      · exact Int.le_trans (V m u f (by omega) hu) (W n v (by omega) l d)
      · exact s2 m n u v (by omega) j l hu d
  · rw [if_neg (λz=>e1 (beq_iff_eq.1 z))]
    have ex:sa + k + (b - k) - 1 = sa + b - 1:=by omega
    rw [ex]
    obtain ⟨x,X,x3⟩:=o.at (i:=sa + b - 1) (by omega)
    refine wpS_bind (aP X (wpS_bind (fw (a₀:=a₀) S K.kind x3 (by omega) (λm hm=>o.at (by omega)) (λm n u v f j hu d=>s2 (sa + b + m) (sa + b + n) u v (by omega) (by omega) (by omega) hu d) λt ht OJ Sb=>?_)))
    dsimp only
    have Qu:∀ m v,sa + b<=m->m < sa + b + t->(arrOf st)[m]? = some v->R v < R x:=λm v f j d=>OJ (m - (sa + b)) v (by omega) (by rw [show sa + b + (m - (sa + b)) = m by omega]; exact d)
    have Qv:∀ m v,sa + b + t<=m->m < sa + b + B->(arrOf st)[m]? = some v->R x<=R v:=λm v f j d=>Sb (m - (sa + b)) v (by omega) (by omega) (by rw [show sa + b + (m - (sa + b)) = m by omega]; exact d)
    have xA:∀ m v,sa<=m->m < sa + b->(arrOf st)[m]? = some v->R v<=R x:=λm v f j d=>s1 m (sa + b - 1) v x f (by omega) (by omega) d X
    by_cases e2:t = 0
    · rw [if_pos (beq_iff_eq.2 e2)]
      refine wpS_pure (h st1 K p1 ?_ λk _=>by rw [O])
      rw [O]
      intro m n u v f j l hu d
      by_cases L:n < sa + b
      · exact s1 m n u v f j L hu d
      · by_cases J:m < sa + b
        · exact Int.le_trans (xA m u f J hu) (Qv n v (by omega) l d)
        · exact s2 m n u v (by omega) j l hu d
    · rw [if_neg (λz=>e2 (beq_iff_eq.1 z))]
      have l1:sa + b<=(arrOf st).size:=by omega
      have l2:sa + b + t<=(arrOf st).size:=by omega
      have z1:=pk (arrOf st) (sa + k) (sa + b) l1
      have z2:=pk (arrOf st) (sa + b) (sa + b + t) l2
      have C:MC R a₀ ((arrOf st).extract (sa + k) (sa + b)) ((arrOf st).extract (sa + b) (sa + b + t)):=by
        refine ⟨xx l1 λm n u v f j l=>s1 m n u v (by omega) j l,xx l2 λm n u v f j l=>s2 m n u v f j (by omega),λv d=>?_,λv d=>?_,by omega,by omega⟩
        · obtain ⟨m,f,j,l⟩:=lm l1 d
          obtain ⟨v',F,G⟩:=o.at (i:=m) (by omega)
          rw [l] at F; cases F; exact G
        · obtain ⟨m,f,j,l⟩:=lm l2 d
          obtain ⟨v',F,G⟩:=o.at (i:=m) (by omega)
          rw [l] at F; cases F; exact G
      have hl:∀ v ∈ ((arrOf st).extract (sa + b) (sa + b + t)).toList,∀ u ∈ ((arrOf st).extract (sa + k) (sa + b)).toList.drop (((arrOf st).extract (sa + k) (sa + b)).size - 1),R v<=R u:=by
        intro v d u hu
        obtain ⟨m,f,j,l⟩:=lm l2 d
        obtain ⟨n,F,G⟩:=ph hu
        rw [jr _ _ _ l1] at G
        rw [z1] at F G
        rw [lj _ _ _ _ l1 G,show sa + k + (sa + b - (sa + k) - 1 + n) = sa + b - 1 by omega,X] at F
        cases F
        exact Int.le_of_lt (Qu m v f j l)
      have h0:∀ v,((arrOf st).extract (sa + b) (sa + b + t)).toList[0]? = some v->∀ u ∈ ((arrOf st).extract (sa + k) (sa + b)).toList,R v<=R u:=by
        intro v d u hu
        rw [lj _ _ _ _ l2 (by omega),Nat.add_zero,U] at d
        cases d
        obtain ⟨m,f,j,l⟩:=lm l1 hu
        exact Int.le_of_lt (Qt m u f j l)
      have fin:∀ (r:Array Keyed) (I:SortSt),SG st1 I->Good R ((arrOf st).extract (sa + k) (sa + b)) ((arrOf st).extract (sa + b) (sa + b + t)) r->wpS (model prog w) A E s (do
          modify λs=>setArr s (wr (sa + k) r.toList 0 (arrOf s))
          let s ← get
          pure (failedOf s).isNone) Q I:=by
        intro r I g Y
        have J1:r.toList.length = (b - k) + t:=by
          rw [Y.1.length_eq,ZN,jr _ _ _ l1,jr _ _ _ l2]; omega
        have Qw:r.toList.Perm ((arrOf st).extract (sa + k) (sa + b + t)).toList:=by
          refine Y.1.trans ?_
          rw [Array.toList_extract,Array.toList_extract,Array.toList_extract,List.extract_eq_take_drop,List.extract_eq_take_drop,List.extract_eq_take_drop]
          rw [show sa + b + t - (sa + k) = (sa + b - (sa + k)) + (sa + b + t - (sa + b)) by omega,List.take_add,List.drop_drop,show sa + k + (sa + b - (sa + k)) = sa + b by omega]
        refine wpS_bind (wpS_modify (wpS_bind (wpS_get ?_)))
        have ef:failedOf I = none:=g.fail.trans K.fail
        have Z:arrOf I = arrOf st:=g.arr.trans O
        show wpS _ _ _ _ (pure (failedOf I).isNone) Q _
        rw [ef]
        have wg:=uS (sa + k) r.toList 0 (arrOf st) (by rw [J1]; omega)
        rw [J1] at wg
        refine wpS_pure (h _ ⟨?_,g.kind.trans K.kind,ef⟩ (g.pend.trans p1) ?_ λm hm=>?_)
        · show (wr (sa + k) r.toList 0 (arrOf I)).Perm a₀
          rw [Z]
          exact (Ev (by omega) l2 Qw).trans o.perm
        · show Srt R (wr (sa + k) r.toList 0 (arrOf I)) _ _
          rw [Z]
          intro m n u v f j l hu d
          rw [wg] at hu d
          -- where a place of the merged ones comes from
          have Qx:∀ (m:Nat) (u:Keyed),r.toList[m]? = some u->R y<=R u/\R u<=R x:=by
            intro m u hu
            obtain ⟨P,F,G,T⟩:=lm l2 (Qw.mem_iff.1 (YW hu))
            by_cases c:P < sa + b
            · exact ⟨Int.le_of_lt (Qt P u F c T),xA P u (by omega) c T⟩
            · exact ⟨W P u (by omega) (by omega) T,Int.le_of_lt (Qu P u (by omega) G T)⟩
          by_cases L:sa + k + 0<=m/\m < sa + k + 0 + (b - k + t)
          · rw [if_pos L] at hu
            by_cases J:sa + k + 0<=n/\n < sa + k + 0 + (b - k + t)
            · rw [if_pos J] at d
              exact jp Y.2 (by omega) hu d
            · rw [if_neg J] at d
              exact Int.le_trans (Qx _ u hu).2 (Qv n v (by omega) l d)
          · rw [if_neg L] at hu
            by_cases J:sa + k + 0<=n/\n < sa + k + 0 + (b - k + t)
            · rw [if_pos J] at d
              exact Int.le_trans (V m u f (by omega) hu) (Qx _ v d).1
            · rw [if_neg J] at d
              by_cases c3:m < sa + k
              · by_cases c4:n < sa + b
                · exact s1 m n u v f j c4 hu d
                · exact Int.le_trans (V m u f c3 hu) (W n v (by omega) l d)
              · exact s2 m n u v (by omega) j l hu d
        · show (wr (sa + k) r.toList 0 (arrOf I))[m]? = _
          rw [Z,wg,if_neg (by omega)]
      have g1:kindOf st1 = kd:=K.kind
      by_cases c:b - k<=t
      · rw [if_pos c]
        exact wpS_bind (yI S g1 C hl h0 fin)
      · rw [if_neg c]
        exact wpS_bind (yJ S g1 C hl h0 fin)
end
def kk(R:Keyed->Int)(xs:Array Keyed)(i:Nat):Int:=match xs[i]? with
 |some p=>R p
 |none=>0
abbrev N2:Type:=Option (Option Nat)×Nat
abbrev N3:Type:=Option (Option Nat)×Nat×Nat
def asc(lo a d:Nat):StateT SortSt Sem N2:=forIn [a:d] ((none,a):N2) λ_ c=>do
 match ←ltAt' (lo+c.2) (lo+c.2-1) with
 |some b=>if b=true then pure (.done (none,c.2)) else pure (.yield (none,c.2+1))
 |_=>pure (.done (some none,c.2))
def tl3 (lo n a:Nat):StateT SortSt Sem (Option Nat):=do
  reverseSlice' lo (lo + n)
  let c ← asc lo n a
  match c.1 with
  | some r=>pure r
  | none=>pure (some c.2)
def desc (lo n a:Nat):StateT SortSt Sem N3:=forIn [n:a] ((none,n,0):N3) λ_ c=>do
  match ← ltAt' (lo + c.2.1) (lo + c.2.1 - 1) with
  | some b=>
    if b = true then
      if c.2.2 > 0 then do
        reverseSlice' (lo + c.2.1 - (c.2.2 + 1)) (lo + c.2.1)
        pure (.yield (none,c.2.1 + 1,0))
      else pure (.yield (none,c.2.1 + 1,0))
    else do
      match ← ltAt' (lo + c.2.1 - 1) (lo + c.2.1) with
      | some b=>if b = true then pure (.done (none,c.2.1,c.2.2)) else pure (.yield (none,c.2.1 + 1,c.2.2 + 1))
      | _=>pure (.done (some none,c.2.1,c.2.2))
  | _=>pure (.done (some none,c.2.1,c.2.2))
def dsc (lo n a:Nat):StateT SortSt Sem (Option Nat):=do
  liftM (rule "list.sort.descending-run")
  let c ← desc lo (n + 1) a
  match c.1 with
  | some r=>pure r
  | none=>
    if c.2.2 > 0 then do
      reverseSlice' (lo + c.2.1 - (c.2.2 + 1)) (lo + c.2.1)
      tl3 lo c.2.1 a
    else tl3 lo c.2.1 a
theorem uT (lo a:Nat):countRun' lo a = (do
  let c ← asc lo 1 a
  match c.1 with
  | some r=>pure r
  | none=>
    if (c.2 == a) = true then pure (some c.2)
    else if c.2 > 1 then do
      match ← ltAt' lo (lo + c.2 - 1) with
      | some b=>if b = true then pure (some c.2) else do
          reverseSlice' lo (lo + c.2)
          dsc lo c.2 a
      | _=>pure none
    else dsc lo c.2 a):=by kernel_rfl
structure Ins (kd:SortKind) (a₀:Array Keyed) (i_:SortSt) (lo hi:Nat) (st:SortSt):Prop extends SB kd a₀ st where
 pend:pendingOf st=pendingOf i_
 out:∀k,k<lo\/hi<=k->(arrOf st)[k]?=(arrOf i_)[k]?
section
variable {prog:ZS}{w:World}{A:Around}{E:Zd}{s:Shared}{kd:SortKind}{R:Keyed->Int}{a₀:Array Keyed}{st i_:SortSt}{lo hi:Nat}
theorem Ins.set(h:Ins kd a₀ i_ lo hi st){xs:Array Keyed}(hp:xs.Perm (arrOf st))(a:∀k,k<lo\/hi<=k->xs[k]?=(arrOf st)[k]?):Ins kd a₀ i_ lo hi (setArr st xs):=
 ⟨⟨hp.trans h.perm,h.kind,h.fail⟩,h.pend,λk hk=>(a k hk).trans (h.out k hk)⟩
theorem Ins.rev(h:Ins kd a₀ i_ lo hi st){i j:Nat}(a:lo<=i)(h2:j<=hi)(b:hi<=a₀.size):Ins kd a₀ i_ lo hi (setArr st (mirror (arrOf st) i j ((j-i) / 2))):=
 h.set (mirror_perm _ _ _ _) λk hk=>by rw[getElem?_mirror_all (by rw[h.toSB.size];omega),if_neg (by omega)]
theorem qC{i j:Nat}{Q:Unit->SortSt->Prop}(h:Q () (setArr st (mirror (arrOf st) i j ((j-i) / 2)))):wpS (model prog w) A E s (reverseSlice' i j) Q st:=by
 rw[reverseSlice'_eq];exact wpS_modify h
theorem wp_at(d:Lts prog w A s kd R a₀)(a:SB kd a₀ st){i j:Nat}{Q:Option Bool->SortSt->Prop}(hi:i<a₀.size)(f:j<a₀.size)(h:Q (some (decide (kk R (arrOf st) i<kk R (arrOf st) j))) st):wpS (model prog w) A E s (ltAt' i j) Q st:=by
 obtain⟨x,b,g⟩:=a.at hi;obtain⟨y,c,k⟩:=a.at f;unfold kk at h;rw[b,c] at h;rw[ltAt'_eq];exact wpS_bind (wpS_get (wpS_bind (aP b (wpS_bind (aP c (qA d a.kind g k h))))))
theorem qD{xs a:Array Keyed}{i j:Nat}(h:xs[i]?=a[j]?):kk R xs i=kk R a j:=by unfold kk;rw[h]
theorem uU{xs:Array Keyed}{i j:Nat}(a:j<=xs.size)(k:Nat):kk R (mirror xs i j ((j-i) / 2)) k=if i<=k/\k<j then kk R xs (i+j-1-k) else kk R xs k:=by
 have e:=getElem?_mirror_all (i:=i) a k;by_cases c:i<=k/\k<j
 ·rw[if_pos c] at e ⊢;exact qD e
 ·rw[if_neg c] at e ⊢;exact qD e
theorem jt{xs:Array Keyed}{i j:Nat}(b:j<=xs.size)(a:∀k,i<=k->k<j->kk R xs k=kk R xs (j-1))(k:Nat):kk R (mirror xs i j ((j-i) / 2)) k=kk R xs k:=by
 rw[uU b];split
 ·rw[a _ (by omega) (by omega),a k (by omega) (by omega)]
 ·rfl
def Up(R:Keyed->Int)(xs:Array Keyed)(lo n:Nat):Prop:=∀i j,i<=j->j<n->kk R xs (lo+i)<=kk R xs (lo+j)
def Dn(R:Keyed->Int)(xs:Array Keyed)(lo n:Nat):Prop:=∀i j,i<=j->j<n->kk R xs (lo+j)<=kk R xs (lo+i)
theorem Up.srt{xs:Array Keyed}{n:Nat}(h:Up R xs lo n):Srt R xs lo (lo+n):=λi j x y a h2 b hx hy=>by
 have:=h (i-lo) (j-lo) (by omega) (by omega)
 rw[show lo+(i-lo)=i by omega,show lo+(j-lo)=j by omega] at this;unfold kk at this;rw[hx,hy] at this;exact this
theorem Up.more{xs:Array Keyed}{n:Nat}(h:Up R xs lo n)(a:n=0\/kk R xs (lo+n-1)<=kk R xs (lo+n)):Up R xs lo (n+1):=by
 intro i j b f;by_cases c:j<n
 ·exact h i j b c
 ·obtain rfl:j=n:=by omega
  by_cases d:i=j
  ·subst d;exact Int.le_refl _
  ·have:=h i (j-1) (by omega) (by omega)
   rw[show lo+(j-1)=lo+j-1 by omega] at this;exact Int.le_trans this (a.resolve_left (by omega))
theorem Dn.more{xs:Array Keyed}{n:Nat}(h:Dn R xs lo n)(a:n=0\/kk R xs (lo+n)<=kk R xs (lo+n-1)):Dn R xs lo (n+1):=by
 intro i j b f;by_cases c:j<n
 ·exact h i j b c
 ·obtain rfl:j=n:=by omega
  by_cases d:i=j
  ·subst d;exact Int.le_refl _
  ·have:=h i (j-1) (by omega) (by omega)
   rw[show lo+(j-1)=lo+j-1 by omega] at this;exact Int.le_trans (a.resolve_left (by omega)) this
theorem Ar(f:Lts prog w A s kd R a₀)(g:SB kd a₀ st){a b:Nat}{Q:N2->SortSt->Prop}(hn:lo+b<=a₀.size)(ha:1<=a)(j:a<=b)(k:Up R (arrOf st) lo a)
  (h:∀n,a<=n->n<=b->Up R (arrOf st) lo n->(n=b\/kk R (arrOf st) (lo+n)<kk R (arrOf st) (lo+n-1))->Q (none,n) st):wpS (model prog w) A E s (asc lo a b) Q st:=by
 unfold asc;refine wpS_forRange (I:=λx c f_=>f_=st/\c=(none,x)/\Up R (arrOf st) lo x) ?step ?fin ⟨rfl,rfl,k⟩
 case fin=>
  rintro c f_ ⟨rfl,rfl,d⟩;rw[show max a b=b by omega] at d ⊢;exact h b j (YJ _) d (.inl rfl)
 case step=>
  rintro x c f_ l m ⟨rfl,rfl,d⟩;dsimp only;refine wpS_bind (wp_at f g (by omega) (by omega) ?_);by_cases c:kk R (arrOf f_) (lo+x)<kk R (arrOf f_) (lo+x-1)
  ·rw[YY c]
   exact wpS_pure (h x l (by omega) d (.inr c))
  ·rw[ZT c]
   exact wpS_pure ⟨rfl,rfl,d.more (.inr (Int.not_lt.1 c))⟩
theorem As(d:Lts prog w A s kd R a₀){n a:Nat}{Q:Option Nat->SortSt->Prop}(b:Ins kd a₀ i_ lo (lo+a) st)(hn:lo+a<=a₀.size)(f:1<=n)(g:n<=a)(k:Dn R (arrOf st) lo n)
  (h:∀m f_,Ins kd a₀ i_ lo (lo+a) f_->1<=m->m<=a->Up R (arrOf f_) lo m->Q (some m) f_):wpS (model prog w) A E s (tl3 lo n a) Q st:=by
 unfold tl3;have hz:lo+n<=(arrOf st).size:=by rw[b.toSB.size];omega
 have c:=b.rev (i:=lo) (j:=lo+n) (YJ _) (by omega) hn;refine wpS_bind (qC (wpS_bind (Ar d c.toSB hn f g ?_ λm p l o _=>wpS_pure (h m _ c (by omega) l o))));intro i j r t;show kk R (mirror (arrOf st) lo (lo+n) ((lo+n-lo) / 2)) _<=kk R (mirror (arrOf st) lo (lo+n) ((lo+n-lo) / 2)) _;rw[uU hz,uU hz,if_pos (by omega),if_pos (by omega)]
 have:=k (n-1-j) (n-1-i) (by omega) (by omega)
 rw[show lo+(n-1-j)=lo+(lo+n)-1-(lo+j) by omega,show lo+(n-1-i)=lo+(lo+n)-1-(lo+i) by omega] at this;exact this
theorem Ew(o:Lts prog w A s kd R a₀){n b:Nat}{Q:N3->SortSt->Prop}(t:Ins kd a₀ i_ lo (lo+b) st)(hn:lo+b<=a₀.size)(l:1<=n)(u:n<=b)(y:Dn R (arrOf st) lo n)
  (h:∀m a f_,Ins kd a₀ i_ lo (lo+b) f_->n<=m->m<=b->Dn R (arrOf f_) lo m->a+1<=m->(∀k,lo+m-(a+1)<=k->k<lo+m->kk R (arrOf f_) k=kk R (arrOf f_) (lo+m-1))->Q (none,m,a) f_):wpS (model prog w) A E s (desc lo n b) Q st:=by
 unfold desc;refine wpS_forRange (I:=λx c f_=>∃a,c=(none,x,a)/\Ins kd a₀ i_ lo (lo+b) f_/\Dn R (arrOf f_) lo x/\a+1<=x/\(∀k,lo+x-(a+1)<=k->k<lo+x->kk R (arrOf f_) k=kk R (arrOf f_) (lo+x-1))) ?step ?fin ⟨0,rfl,t,y,by omega,λk l h2=>by congr 1;omega⟩
 case fin=>
  rintro c f_ ⟨a,rfl,d,g,hq,f⟩;rw[show max n b=b by omega] at g hq f ⊢;exact h b a f_ d u (YJ _) g hq f
 case step=>
  rintro x c f_ z G ⟨a,rfl,d,g,hq,f⟩;dsimp only;have hz:lo+x<=(arrOf f_).size:=by rw[d.toSB.size];omega
  refine wpS_bind (wp_at o d.toSB (by omega) (by omega) ?_);by_cases c:kk R (arrOf f_) (lo+x)<kk R (arrOf f_) (lo+x-1)
  ·rw[YY c]
   dsimp only;rw[if_pos rfl];have go:=g.more (.inr (Int.le_of_lt c));by_cases p:a>0
   ·rw[if_pos p]
    refine wpS_bind (qC (wpS_pure ⟨0,rfl,d.rev (by omega) (by omega) hn,λi j B C=>?_,by omega,λk l h2=>by congr 1;omega⟩));show kk R (mirror (arrOf f_) _ _ _) _<=kk R (mirror (arrOf f_) _ _ _) _;rw[jt hz f,jt hz f];exact go i j B C
   ·rw[if_neg p]
    exact wpS_pure ⟨0,rfl,d,go,by omega,λk l h2=>by congr 1;omega⟩
  ·rw[ZT c]
   dsimp only;rw[if_neg (by decide)];refine wpS_bind (wp_at o d.toSB (by omega) (by omega) ?_);by_cases r:kk R (arrOf f_) (lo+x-1)<kk R (arrOf f_) (lo+x)
   ·rw[YY r]
    exact wpS_pure (h x a f_ d z (by omega) g hq f)
   ·rw[ZT r]
    have hx:kk R (arrOf f_) (lo+x)=kk R (arrOf f_) (lo+x-1):=by omega
    refine wpS_pure ⟨a+1,rfl,d,g.more (.inr (by omega)),by omega,λk l h2=>?_⟩;rw[show lo+(x+1)-1=lo+x by omega];by_cases F:k=lo+x
    ·rw[F]
    ·rw[hx];exact f k (by omega) (by omega)
theorem At(b:Lts prog w A s kd R a₀){n a:Nat}{Q:Option Nat->SortSt->Prop}(l:Ins kd a₀ i_ lo (lo+a) st)(hn:lo+a<=a₀.size)(o:n+1<=a)(p:Dn R (arrOf st) lo (n+1))
  (h:∀m f_,Ins kd a₀ i_ lo (lo+a) f_->1<=m->m<=a->Up R (arrOf f_) lo m->Q (some m) f_):wpS (model prog w) A E s (dsc lo n a) Q st:=by
 unfold dsc;refine wpS_bind (wpS_lift (wpAny_rule ⟨rfl,?_⟩));refine wpS_bind (Ew b l hn (by omega) o p λm r f_ c y d f hq g=>?_);dsimp only;have hz:lo+m<=(arrOf f_).size:=by rw[c.toSB.size];omega
 by_cases k:r>0
 ·rw[if_pos k]
  refine wpS_bind (qC (As b (c.rev (by omega) (by omega) hn) hn (by omega) d (λi j t u=>?_) h));show kk R (mirror (arrOf f_) _ _ _) _<=kk R (mirror (arrOf f_) _ _ _) _;rw[jt hz g,jt hz g];exact f i j t u
 ·rw[if_neg k]
  exact As b c hn (by omega) d f h
theorem wk(b:Lts prog w A s kd R a₀){a:Nat}{Q:Option Nat->SortSt->Prop}(d:SB kd a₀ st)(hn:lo+a<=a₀.size)(G:1<=a)
  (h:∀m f_,Ins kd a₀ st lo (lo+a) f_->1<=m->m<=a->Up R (arrOf f_) lo m->Q (some m) f_):wpS (model prog w) A E s (countRun' lo a) Q st:=by
 have f:Ins kd a₀ st lo (lo+a) st:=⟨d,rfl,λ_ _=>rfl⟩;rw[uT];refine wpS_bind (Ar b d hn (YJ 1) G (λi j g l=>by cases(show i=j by omega);exact Int.le_refl _) λn t u o I=>?_);dsimp only;by_cases r:n=a
 ·rw[if_pos (beq_iff_eq.2 r)]
  exact wpS_pure (h n st f t u o)
 ·rw[if_neg (λz=>r (beq_iff_eq.1 z))]
  have y:=I.resolve_left r;have hz:lo+n<=(arrOf st).size:=by rw[d.size];omega
  by_cases B:n>1
  ·rw[if_pos B]
   refine wpS_bind (wp_at b d (by omega) (by omega) ?_);by_cases c:kk R (arrOf st) lo<kk R (arrOf st) (lo+n-1)
   ·rw[YY c]
    exact wpS_pure (h n st f t u o)
   ·rw[ZT c]
    dsimp only;rw[if_neg (by decide)];have p:∀k,lo<=k->k<lo+n->kk R (arrOf st) k=kk R (arrOf st) (lo+n-1):=by
     intro k K L;have C:=o 0 (k-lo) (by omega) (by omega);have F:=o (k-lo) (n-1) (by omega) (by omega);rw[show lo+(k-lo)=k by omega] at C F;rw[show lo+(n-1)=lo+n-1 by omega] at F;rw[Nat.add_zero] at C;omega
    refine wpS_bind (qC (At b (f.rev (by omega) (by omega) hn) hn (by omega) ?_ h));have J:Dn R (arrOf st) lo (n+1):=by
     refine Dn.more (λi j g l=>?_) (.inr (Int.le_of_lt y));rw[p (lo+i) (by omega) (by omega),p (lo+j) (by omega) (by omega)];exact Int.le_refl _
    intro i j g l;show kk R (mirror (arrOf st) _ _ _) _<=kk R (mirror (arrOf st) _ _ _) _;rw[jt hz p,jt hz p];exact J i j g l
  ·rw[if_neg B]
   obtain rfl:n=1:=by omega
   refine At b f hn (by omega) (Dn.more (λi j g l=>?_) (.inr (Int.le_of_lt y))) h;obtain rfl:i=j:=by omega
   exact Int.le_refl _
theorem Au{xs:Array Keyed}{a d:Nat}(f:a<xs.size)(hd:d<=a)(k:Nat):kk R (bubble xs a d) k=if k=a-d then kk R xs a else if a-d<k/\k<=a then kk R xs (k-1) else kk R xs k:=by
 have e:=getElem?_bubble f d hd k;by_cases b:k=a-d
 ·rw[if_pos b] at e ⊢;exact qD e
 ·rw[if_neg b] at e ⊢
  by_cases c:a-d<k/\k<=a
  ·rw[if_pos c] at e ⊢;exact qD e
  ·rw[if_neg c] at e ⊢;exact qD e
theorem tN (C:Lts prog w A s kd R a₀) {n ok f:Nat} {Q:Bool->SortSt->Prop} (F:Ins kd a₀ i_ lo (lo + f) st) (K:n<=f) (hn:lo + f<=a₀.size) (hok:ok<=n) (G:Up R (arrOf st) lo ok)
    (h:∀ f_,Ins kd a₀ i_ lo (lo + f) f_->Up R (arrOf f_) lo n->Q true f_):wpS (model prog w) A E s (binarySort' lo n ok) Q st:=by
  rw [binarySort'_eq]
  refine wpS_bind (wpS_mono (wpS_forRange (I:=λk c f_=>c = (none,())/\Ins kd a₀ i_ lo (lo + f) f_/\Up R (arrOf f_) lo (min k n))
    (Q:=λc f_=>c = (none,())/\Ins kd a₀ i_ lo (lo + f) f_/\Up R (arrOf f_) lo n) ?step ?fin ?init) ?post)
  case post=>
    rintro c f_ ⟨rfl,d,b⟩
    exact wpS_pure (h f_ d b)
  case init=>
    refine ⟨rfl,F,λi j y J=>?_⟩
    by_cases c:ok = 0
    · obtain rfl:i = j:=by omega
      exact Int.le_refl _
    · exact G i j y (by omega)
  case fin=>
    rintro c f_ ⟨hc,d,b⟩
    refine ⟨hc,d,?_⟩
    rwa [show min (max (max ok 1) n) n = n by omega] at b
  case step=>
    rintro k c f_ L O ⟨rfl,d,b⟩
    rw [show min k n = k by omega] at b
    refine wpS_bind (wpS_mono (wpS_forRange (I:=λx c a=>a = f_/\∃ l r,c = (none,l,r)/\l<=r/\r<=k/\r - l<=k - x/\(∀ i,i < l->kk R (arrOf f_) (lo + i)<=kk R (arrOf f_) (lo + k))/\(∀ i,r<=i->i < k->kk R (arrOf f_) (lo + k) < kk R (arrOf f_) (lo + i)))
      (Q:=λc a=>a = f_/\∃ l r,c = (none,l,r)/\l<=k/\(∀ i,i < l->kk R (arrOf f_) (lo + i)<=kk R (arrOf f_) (lo + k))/\(∀ i,l<=i->i < k->kk R (arrOf f_) (lo + k) < kk R (arrOf f_) (lo + i))) ?istep ?ifin ?iinit) ?ipost)
    case iinit=>exact ⟨rfl,0,k,rfl,by omega,by omega,by omega,λi hi=>by omega,λi u h2=>by omega⟩
    case ifin=>
      rintro c a ⟨rfl,l,r,rfl,z,g,o,p,t⟩
      obtain rfl:l = r:=by omega
      exact ⟨rfl,l,l,rfl,g,p,t⟩
    case istep=>
      rintro x c a _ P ⟨rfl,l,r,rfl,z,g,o,p,t⟩
      dsimp only
      by_cases B:l >= r
      · rw [if_pos B]
        obtain rfl:l = r:=by omega
        exact wpS_pure ⟨rfl,l,l,rfl,g,p,t⟩
      · rw [if_neg B]
        refine wpS_bind (wp_at C d.toSB (by omega) (by omega) ?_)
        by_cases c:kk R (arrOf a) (lo + k) < kk R (arrOf a) (lo + (l + r) / 2)
        · rw [YY c]
          exact wpS_pure ⟨rfl,l,(l + r) / 2,rfl,by omega,by omega,by omega,p,λi u h2=>Int.lt_of_lt_of_le c (b _ _ u h2)⟩
        · rw [ZT c]
          exact wpS_pure ⟨rfl,(l + r) / 2 + 1,r,rfl,by omega,by omega,by omega,λi u=>Int.le_trans (b i ((l + r) / 2) (by omega) (by omega)) (Int.not_lt.mp c),t⟩
    case ipost=>
      rintro c a ⟨rfl,l,r,rfl,z,g,o⟩
      show wpS _ _ _ _ (do moveDown' (lo + k) (lo + l); pure (ForInStep.yield (none,()))) _ _
      rw [moveDown'_eq]
      have hz:lo + k < (arrOf a).size:=by rw [d.toSB.size]; omega
      refine wpS_bind (wpS_modify (wpS_pure ⟨rfl,d.set (bubble_perm _ _ _) λm hm=>?_,?_⟩))
      · rw [getElem?_bubble hz _ (by omega),if_neg (by omega),if_neg (by omega)]
      · rw [show min (k + 1) n = k + 1 by omega]
        intro i j y J
        show kk R (bubble (arrOf a) (lo + k) (lo + k - (lo + l))) (lo + i)<=kk R (bubble (arrOf a) (lo + k) (lo + k - (lo + l))) (lo + j)
        rw [Au hz (by omega),Au hz (by omega),show lo + k - (lo + k - (lo + l)) = lo + l by omega]
        repeat' split
        all_goals first
          | (exfalso; omega)
          | exact Int.le_refl _
          | exact g _ (by omega)
          | (rw [show lo + j - 1 = lo + (j - 1) by omega]; exact Int.le_of_lt (o _ (by omega) (by omega)))
          | exact Int.le_of_lt (o _ (by omega) (by omega))
          | (rw [show lo + i - 1 = lo + (i - 1) by omega,show lo + j - 1 = lo + (j - 1) by omega]; exact b _ _ (by omega) (by omega))
          | (rw [show lo + j - 1 = lo + (j - 1) by omega]; exact b _ _ (by omega) (by omega))
          | exact b _ _ (by omega) (by omega)
end
abbrev U1:Type:=Option Unit×Unit
abbrev UN:Type:=Option Unit×Nat
def rM (a:Nat):StateT SortSt Sem (ForInStep U1):=do
  let s ← get
  match (if (pendingOf s).size > 1 then (pendingOf s)[(pendingOf s).size - 2]? else none) with
  | some (_,_,c)=>
    if c<=a then pure (.done (none,()))
    else do
      let b ← mergeAt' ((pendingOf s).size - 2)
      if (!b) = true then pure (.done (some (),())) else pure (.yield (none,()))
  | _=>pure (.done (none,()))
def rL(lo n:Nat):StateT SortSt Sem (ForInStep UN):=do
 modify λs=>setPending s ((pendingOf s).push (lo,n,0))
 pure (.yield (none,lo+n))
def rP (size lo n:Nat):StateT SortSt Sem (ForInStep UN):=do
  let s ← get
  match (pendingOf s).back? with
  | some (s1,a,_)=>do
    let c ← forIn [0:size] ((none,()):U1) λ_ _=>rM (power' size (2 * s1 + a) (2 * s1 + a + a + n) size)
    match c.1 with
    | some r=>pure (.done (some r,lo))
    | none=>do
      modify λs=>setPending s ((pendingOf s).modify ((pendingOf s).size - 1) λ(st,len,_)=>(st,len,power' size (2 * s1 + a) (2 * s1 + a + a + n) size))
      rL lo n
  | _=>rL lo n
def rB (size c lo:Nat):StateT SortSt Sem (ForInStep UN):=
  if lo >= size then pure (.done (none,lo))
  else do
    match ← countRun' lo (size - lo) with
    | some a=>
      if a < c then do
        liftM (rule "list.sort.binary-insertion")
        let b ← binarySort' lo (min (size - lo) c) a
        if (!b) = true then pure (.done (some (),lo)) else rP size lo (min (size - lo) c)
      else rP size lo a
    | _=>pure (.done (some (),lo))
def rF:StateT SortSt Sem (ForInStep U1):=do
  let s ← get
  if (pendingOf s).size<=1 then pure (.done (none,()))
  else do
    let b ← mergeAt' (if (if (pendingOf s).size - 2 > 0 then (pendingOf s)[(pendingOf s).size - 2 - 1]?.map (·.2.1) else none).any (· < ((pendingOf s)[(pendingOf s).size - 2 + 1]?.elim 0 (·.2.1))) = true then (pendingOf s).size - 2 - 1 else (pendingOf s).size - 2)
    if (!b) = true then pure (.done (some (),())) else pure (.yield (none,()))
theorem uV:sortRuns' = (do
  let s ← get
  let c ← forIn [0:(arrOf s).size] ((none,0):UN) λ_ c=>rB (arrOf s).size (minRun' (arrOf s).size (arrOf s).size 0) c.2
  match c.1 with
  | some r=>pure r
  | none=>do
    let c ← forIn [0:(arrOf s).size] ((none,()):U1) λ_ _=>rF
    match c.1 with
    | some r=>pure r
    | none=>pure ()):=by kernel_rfl
def Chn(R:Keyed->Int)(xs:Array Keyed):Nat->List (Nat×Nat×Nat)->Nat->Prop
 |lo,[],hi=>lo=hi
 |lo,(s,n,_)::l,hi=>s=lo/\0<n/\Srt R xs lo (lo+n)/\Chn R xs (lo+n) l hi
section
variable {R:Keyed->Int}{xs ys:Array Keyed}
theorem Chn.le:∀{l:List (Nat×Nat×Nat)}{lo hi:Nat},Chn R xs lo l hi->lo+l.length<=hi
 |[],lo,hi,h=>by rw[show lo=hi from h];exact YJ _
 |(s,n,_)::l,lo,hi,⟨_,a,_,h2⟩=>by
  have:=h2.le
  rw[YM];omega
theorem Chn.congr:∀{l d:List (Nat×Nat×Nat)}{lo hi:Nat},(∀k,lo<=k->k<hi->ys[k]?=xs[k]?)->d.map (λx=>(x.1,x.2.1))=l.map (λx=>(x.1,x.2.1))->Chn R xs lo l hi->Chn R ys lo d hi
 |[],[],lo,hi,_,_,h=>h
 |[],_::_,_,_,_,e,_=>by cases e
 |_::_,[],_,_,_,e,_=>by cases e
 |(s,n,p)::l,(o,n',r)::d,lo,hi,hk,e,⟨g,m,h2,f⟩=>by
  rw[YO,YO,List.cons.injEq] at e;obtain⟨e1,e2⟩:=e;cases e1
  have:=f.le
  refine⟨g,m,λi j x y a b c hx hy=>?_,f.congr (λk a b=>hk k (by omega) b) e2⟩;rw[hk i a (by omega)] at hx;rw[hk j (by omega) (by omega)] at hy;exact h2 i j x y a b c hx hy
theorem Chn.snoc:∀{l:List (Nat×Nat×Nat)}{lo hi n p:Nat},Chn R xs lo l hi->0<n->Srt R xs hi (hi+n)->Chn R xs lo (l++[(hi,n,p)]) (hi+n)
 |[],lo,hi,n,p,h,f,h2=>by cases(show lo=hi from h);exact⟨rfl,f,h2,rfl⟩
 |(s,m,q)::l,lo,hi,n,p,⟨a,b,c,d⟩,f,h2=>⟨a,b,c,d.snoc f h2⟩
theorem Chn.two:∀{pre j:List (Nat×Nat×Nat)}{lo hi s1 k p1 s2 l p2:Nat},Chn R xs lo (pre++(s1,k,p1)::(s2,l,p2)::j) hi->lo<=s1/\s2=s1+k/\0<k/\0<l/\s1+k+l<=hi/\Srt R xs s1 (s1+k)/\Srt R xs (s1+k) (s1+k+l)
 |[],j,lo,hi,s1,k,p1,s2,l,p2,h=>by
  obtain⟨rfl,b,c,rfl,e,f,g⟩:=h
  have:=g.le
  exact⟨YJ _,rfl,b,e,by omega,c,f⟩
 |(s,n,p)::pre,j,lo,hi,s1,k,p1,s2,l,p2,⟨a,b,c,d⟩=>by
  obtain⟨m,h2⟩:=Chn.two d;exact⟨by omega,h2⟩
theorem Chn.one:∀{pre l:List (Nat×Nat×Nat)}{lo hi s1 m p1 s2 o p2:Nat},Chn R xs lo (pre++(s1,m,p1)::(s2,o,p2)::l) hi->Srt R ys s1 (s1+m+o)->(∀k,k<s1\/s1+m+o<=k->ys[k]?=xs[k]?)->Chn R ys lo (pre++(s1,m+o,p1)::l) hi
 |[],l,lo,hi,s1,m,p1,s2,o,p2,h,r,hk=>by
  obtain⟨rfl,b,c,rfl,e,f,g⟩:=h
  have:=g.le
  refine⟨rfl,by omega,by rw[←Nat.add_assoc];exact r,?_⟩;rw[←Nat.add_assoc];exact g.congr (λk a b=>hk k (.inr a)) rfl
 |(s,n,p)::pre,l,lo,hi,s1,m,p1,s2,o,p2,⟨a,b,c,d⟩,r,hk=>by
  have u:=(Chn.two d).1;refine⟨a,b,λi j x y a b t hx hy=>?_,Chn.one d r hk⟩;rw[hk i (.inl (by omega))] at hx;rw[hk j (.inl (by omega))] at hy;exact c i j x y a b t hx hy
end
theorem ite_le{c:Prop}[Decidable c]{a b n:Nat}(d:a<=n)(h2:b<=n):(if c then a else b)<=n:=by split<;>assumption
theorem Av{a:Type}{l:List a}{i:Nat}{x y v:a}(f:l[i]?=some x)(h2:l[i+1]?=some y):l=l.take i++x::y::l.drop (i+2)/\(l.set i v).eraseIdx (i+1)=l.take i++v::l.drop (i+2):=by
 obtain⟨g,j⟩:=YG.mp f;obtain⟨k,m⟩:=YG.mp h2;have e:l=l.take i++x::y::l.drop (i+2):=by
  have b:=XV g;have c:=XV k;rw[j] at b;rw[m] at c;rw[←c,←b,List.take_append_drop]
 refine⟨e,?_⟩;have hl:(l.take i).length=i:=by rw[YV];omega
 generalize l.take i=pre at *;generalize l.drop (i+2)=d at *;subst e;subst hl;rw[List.set_append_right _ _ (YJ _),Nat.sub_self,List.set_cons_zero,List.eraseIdx_append_of_length_le (by omega),show pre.length+1-pre.length=1 by omega];rfl
section
variable {prog:ZS}{w:World}{A:Around}{E:Zd}{s:Shared}{kd:SortKind}{R:Keyed->Int}{a₀:Array Keyed}{st:SortSt}
theorem uW(j:Lts prog w A s kd R a₀)(l:SB kd a₀ st){hi i:Nat}(hc:Chn R (arrOf st) 0 (pendingOf st).toList hi)(y:hi<=a₀.size)(hi2:i+1<(pendingOf st).size){Q:Bool->SortSt->Prop}
  (h:∀f_,SB kd a₀ f_->Chn R (arrOf f_) 0 (pendingOf f_).toList hi->(pendingOf f_).size+1=(pendingOf st).size->(∀k,hi<=k->(arrOf f_)[k]?=(arrOf st)[k]?)->Q true f_):wpS (model prog w) A E s (mergeAt' i) Q st:=by
 have a:(pendingOf st)[i]?=some (pendingOf st)[i]:=getElem?_pos _ i (by omega);have b:(pendingOf st)[i+1]?=some (pendingOf st)[i+1]:=getElem?_pos _ (i+1) hi2;generalize (pendingOf st)[i]=u at a;generalize (pendingOf st)[i+1]=v at b;obtain⟨s1,c,p1⟩:=u;obtain⟨s2,d,p2⟩:=v;have l1:(pendingOf st).toList[i]?=some (s1,c,p1):=by rw[XF];exact a
 have l2:(pendingOf st).toList[i+1]?=some (s2,d,p2):=by rw[XF];exact b
 obtain⟨e1,e2⟩:=Av (v:=(s1,c+d,p1)) l1 l2;have f:=hc;rw[e1] at f;obtain⟨z,rfl,m,n,B,o,p⟩:=Chn.two f;refine yK j l a b m n (by omega) o p λf_ r hp t hk=>?_
 have g:(pendingOf f_).toList=(pendingOf st).toList.take i++(s1,c+d,p1)::(pendingOf st).toList.drop (i+2):=by
  rw[hp,←e2,Array.toList_eraseIdxIfInBounds,Array.toList_setIfInBounds]
 refine h f_ r ?_ ?_ λk C=>hk k (.inr (by omega))
 ·rw[g]
  exact Chn.one f t hk
 ·rw[←YH,g,ZN,YM,YV,XA,YH]
  omega
theorem CY(a:SB kd a₀ st){lo n:Nat}(hc:Chn R (arrOf st) 0 (pendingOf st).toList lo)(hn:0<n)(b:Srt R (arrOf st) lo (lo+n)){Q:ForInStep UN->SortSt->Prop}
  (h:∀f_,SB kd a₀ f_->Chn R (arrOf f_) 0 (pendingOf f_).toList (lo+n)->Q (.yield (none,lo+n)) f_):wpS (model prog w) A E s (rL lo n) Q st:=by
 unfold rL;refine wpS_bind (wpS_modify (wpS_pure (h _ ⟨a.perm,a.kind,a.fail⟩ ?_)));show Chn R (arrOf st) 0 ((pendingOf st).push (lo,n,0)).toList (lo+n);rw[ZB];exact hc.snoc hn b
theorem CZ (r:Lts prog w A s kd R a₀) (m:SB kd a₀ st) {lo n:Nat} (hc:Chn R (arrOf st) 0 (pendingOf st).toList lo) (hn:0 < n) (hsz:lo + n<=a₀.size) (o:Srt R (arrOf st) lo (lo + n)) {size:Nat} {Q:ForInStep UN->SortSt->Prop}
    (h:∀ f_,SB kd a₀ f_->Chn R (arrOf f_) 0 (pendingOf f_).toList (lo + n)->Q (.yield (none,lo + n)) f_):wpS (model prog w) A E s (rP size lo n) Q st:=by
  unfold rP
  refine wpS_bind (wpS_get ?_)
  split
  · rename_i s1 C p1 hb
    refine wpS_bind (wpS_mono (wpS_forRange (I:=λ_ c f_=>c = (none,())/\SB kd a₀ f_/\Chn R (arrOf f_) 0 (pendingOf f_).toList lo/\Srt R (arrOf f_) lo (lo + n)) (Q:=λc f_=>c = (none,())/\SB kd a₀ f_/\Chn R (arrOf f_) 0 (pendingOf f_).toList lo/\Srt R (arrOf f_) lo (lo + n)) ?step (λ_ _ z=>z) ⟨rfl,m,hc,o⟩) ?post)
    case step=>
      rintro x c f_ _ _ ⟨rfl,f,g,l⟩
      unfold rM
      refine wpS_bind (wpS_get ?_)
      by_cases z:(pendingOf f_).size > 1
      · rw [if_pos z,getElem?_pos (pendingOf f_) ((pendingOf f_).size - 2) (by omega)]
        generalize (pendingOf f_)[(pendingOf f_).size - 2] = u
        obtain ⟨_,_,F⟩:=u
        dsimp only
        split
        · exact wpS_pure ⟨rfl,f,g,l⟩
        · refine wpS_bind (uW r f g (by omega) (by omega) λG t B _ p=>?_)
          refine wpS_pure ⟨rfl,t,B,λi j x y a b d hx hy=>?_⟩
          rw [p i a] at hx
          rw [p j (by omega)] at hy
          exact l i j x y a b d hx hy
      · rw [if_neg z]
        exact wpS_pure ⟨rfl,f,g,l⟩
    case post=>
      rintro c f_ ⟨rfl,f,g,l⟩
      dsimp only
      refine wpS_bind (wpS_modify ?_)
      refine CY (a₀:=a₀) (kd:=kd) (R:=R) ?_ ?_ hn ?_ h
      · exact ⟨f.perm,f.kind,f.fail⟩
      rotate_left
      · exact l
      refine Chn.congr (λ_ _ _=>rfl) ?_ g
      show ((pendingOf f_).modify ((pendingOf f_).size - 1) _).toList.map _ = _
      refine List.ext_getElem? λk=>?_
      rw [ZH,ZH,XF,XF,Array.getElem?_modify]
      split
      · cases (pendingOf f_)[k]? <;> rfl
      · rfl
  · exact CY m hc hn o h
theorem wl(o:Lts prog w A s kd R a₀)(C:SB kd a₀ st)(hp:pendingOf st = #[]){Q:Unit->SortSt->Prop}(h:∀f_,(arrOf f_).Perm a₀->failedOf f_=none->Srt R (arrOf f_) 0 a₀.size->Q () f_):wpS (model prog w) A E s sortRuns' Q st:=by
 rw[uV];refine wpS_bind (wpS_get ?_);rw[C.size];refine wpS_bind (wpS_mono (wpS_forRange (I:=λx c f_=>∃lo,c=(none,lo)/\x<=lo/\lo<=a₀.size/\SB kd a₀ f_/\Chn R (arrOf f_) 0 (pendingOf f_).toList lo) (Q:=λc f_=>c=(none,a₀.size)/\SB kd a₀ f_/\Chn R (arrOf f_) 0 (pendingOf f_).toList a₀.size) ?step ?fin ⟨0,rfl,YJ _,YQ _,C,by rw[hp];rfl⟩) ?post)
 case fin=>
  rintro c f_ ⟨lo,rfl,K,h2,f,d⟩;obtain rfl:lo=a₀.size:=by omega
  exact⟨rfl,f,d⟩
 case step=>
  rintro x c f_ _ hx ⟨lo,rfl,K,h2,f,d⟩;dsimp only;unfold rB;by_cases z:lo>=a₀.size
  ·rw[if_pos z]
   obtain rfl:lo=a₀.size:=by omega
   exact wpS_pure ⟨rfl,f,d⟩
  ·rw[if_neg z]
   refine wpS_bind (wk o f (by omega) (by omega) λm t u S T F=>?_);dsimp only;have p:∀{r:SortSt},Ins kd a₀ f_ lo (lo+(a₀.size-lo)) r->Chn R (arrOf r) 0 (pendingOf r).toList lo:=λI=>by
    rw[I.pend];exact d.congr (λk _ b=>I.out k (.inl b)) rfl
   by_cases y:m<minRun' a₀.size a₀.size 0
   ·rw[if_pos y]
    refine wpS_bind (wpS_lift (wpAny_rule ⟨rfl,?_⟩));refine wpS_bind (tN o u (by omega) (by omega) (by omega) F λr G L=>?_);exact CZ o G.toSB (p G) (by omega) (by omega) L.srt λO B g=>⟨_,rfl,by omega,by omega,B,g⟩
   ·rw[if_neg y]
    exact CZ o u.toSB (p u) (by omega) (by omega) F.srt λO B g=>⟨_,rfl,by omega,by omega,B,g⟩
 case post=>
  rintro c f_ ⟨rfl,f,d⟩;dsimp only;refine wpS_bind (wpS_mono (wpS_forRange (I:=λx c f_=>c=(none,())/\SB kd a₀ f_/\Chn R (arrOf f_) 0 (pendingOf f_).toList a₀.size/\((pendingOf f_).size+x<=a₀.size\/(pendingOf f_).size<=1)) (Q:=λc f_=>c=(none,())/\SB kd a₀ f_/\Chn R (arrOf f_) 0 (pendingOf f_).toList a₀.size/\(pendingOf f_).size<=1) ?t ?fn2 ⟨rfl,f,d,.inl (by have:=d.le;rw[YH] at this;omega)⟩) ?po2)
  case fn2=>
   rintro c f_ ⟨rfl,f,d,z⟩;exact⟨rfl,f,d,by omega⟩
  case t=>
   rintro x c f_ _ hx ⟨rfl,f,d,z⟩;unfold rF;refine wpS_bind (wpS_get ?_);by_cases y:(pendingOf f_).size<=1
   ·rw[if_pos y]
    exact wpS_pure ⟨rfl,f,d,y⟩
   ·rw[if_neg y]
    refine wpS_bind (uW o f d (YJ _) ?_ λt P p U _=>wpS_pure ⟨rfl,P,p,.inl (by omega)⟩);exact XN (Nat.succ_le_succ (ite_le (n:=(pendingOf f_).size-2) (by omega) (YJ _))) (by omega)
  case po2=>
   rintro c f_ ⟨rfl,f,d,z⟩;dsimp only;refine wpS_pure (h f_ f.perm f.fail ?_);generalize hl:(pendingOf f_).toList=l at d;have hz:l.length<=1:=by rw[←hl,YH];exact z
   match l,hz,d with
   |[],_,d=>exact λi j x y _ a b=>by have:0=a₀.size:=d;omega
   |[(q,n,_)],_,d=>
    obtain⟨_,_,J,g⟩:=d;have g:0+n=a₀.size:=g;rw[g] at J;exact J
   |_::_::_,hz,_=>simp at hz
end
section
variable {prog:ZS}{w:World}{A:Around}{E:Zd}{s:Shared}
theorem BX {a:Addr} {P:Fin->Shared->Prop} {e:Nat} {st:SortSt} (g:s.heap.get? a = some (seqObj "list" #[] e)) (hf:failedOf st = none) (hz:(arrOf st).size<=4000) (h:P (.done (.ret .none)) { s with heap:=s.heap.update a (Obj.mapSeq λ_=>(arrOf st).map (·.2)) }) :
    wpAny (model prog w) A (do
      let b:=(← seqEpoch a) != e
      Builtin.List.listUpdate (.ref a) λ_=>(arrOf st).map (·.2)
      if let some e:=failedOf st then rule "list.sort.comparison-raised"; throw e
      if b then rule "list.sort.modified"; raiseError "ValueError" "list modified during sort"
      ret .none) P E s:=by
  refine Yb (seqEpoch_at g rfl (Yb (listUpdate_at g rfl ?_ (hsz2:=by rw [Array.size_map,sizeLine_eq]; omega))))
  rw [hf,bne_self_eq_false]
  exact Yc h
theorem rX{R:Keyed->Int}{kd:SortKind}{a:Addr}{vs:Zh}{n:Nat}{P:Fin->Shared->Prop}(g:s.heap.get? a=some (seqObj "list" vs.toArray n))(d:∀s,Lts prog w A s kd R (pairsOf vs))(hk:2<=vs.length->keyKind' vs.toArray=pure kd)(hz:vs.length<=4000)
  (h:∀xs:Array Keyed,xs.Perm (pairsOf vs)->Srt R xs 0 (pairsOf vs).size->P (.done (.ret .none)) { s with heap:=sortedHeap s.heap a vs (xs.map (·.2)) }):wpAny (model prog w) A (Builtin.«list.sort» ⟨[.ref a],[]⟩) P E s:=by
 have z:vs.toArray.size=vs.length:=by simp
 have o:=pairsOf_size vs;rw[list_sort_plain];refine Yb (listItems_at g rfl (Yb (listUpdate_at g rfl ?_ (hsz:=by rw[z,sizeLine_eq];omega))));have b:=get?_update_seq g (λ_=>#[]);generalize (if(#[]:Array Value).size==vs.toArray.size then n else n+1)=e at b;refine Yb (seqEpoch_at b rfl (Yb (wpAny_newTuple (Yb (wpAny_newList (Yj ?_))))));have k:(((s.heap.update a (Obj.mapSeq λ_=>#[])).push (seqObj "tuple" vs.toArray 0)).push (seqObj "list" #[] 0)).get? a=some (seqObj "list" #[] e):=Yd _ (Yd _ b);have fin:=λ(st:SortSt) (p:(arrOf st).Perm (pairsOf vs)) (f:failedOf st=none) (q:Srt R (arrOf st) 0 (pairsOf vs).size)=>BX (prog:=prog) (w:=w) (A:=A) (E:=E) (s:={ s with heap:=((s.heap.update a (Obj.mapSeq λ_=>#[])).push (seqObj "tuple" vs.toArray 0)).push (seqObj "list" #[] 0) }) k f (by rw[p.size_eq];omega) (h _ p q)
 by_cases c:vs.toArray.size<2
 ·rw[if_pos c,if_pos c]
  refine Yb (Yc ?_);dsimp only;rw[StateT.run_pure];refine Yb (Yc (fin _ (Array.Perm.refl _) rfl λi j x y _ t u l h2=>?_));obtain rfl:i=j:=by omega
  rw[l] at h2;cases h2;exact Int.le_refl _
 ·rw[if_neg c,if_neg c,hk (by omega)]
  refine Yb (Yc (Yb (wpAny_mono (wl (d _) ⟨Array.Perm.refl _,rfl,rfl⟩ rfl (Q:=λ_ st=>(arrOf st).Perm (pairsOf vs)/\failedOf st=none/\Srt R (arrOf st) 0 (pairsOf vs).size) λst p f q=>⟨p,f,q⟩) ?_ λ_ _ e=>e)));intro r B m;obtain⟨rfl,p,f,q⟩:=m;exact fin r.2 p f q
theorem list_sort_ints{a:Addr}{vs:Zh}{ns:Zn}{n:Nat}{P:Fin->Shared->Prop}(g:s.heap.get? a=some (seqObj "list" vs.toArray n))(b:IntsAre vs ns)(hz:vs.length<=4000)
  (h:∀(out:Zq) (c:Zn),IntsAre out.toList c->c.Perm ns->c.Pairwise (·<=·)->P (.done (.ret .none)) { s with heap:=sortedHeap s.heap a vs out }):wpAny (model prog w) A (Builtin.«list.sort» ⟨[.ref a],[]⟩) P E s:=by
 refine rX (R:=λp=>numOf p.1) (kd:=oneType') g (λs x y hx hy Q E q=>?_) (λh2=>?_) hz λxs p q=>?_
 ·obtain⟨i,t,e1⟩:=b.intKeys x hx
  obtain⟨j,u,e2⟩:=b.intKeys y hy;have q:Q (decide (numOf x.1<numOf y.1)) s:=q;rw[keyLt'_oneType];revert q;rw[e1,e2];exact λq=>oneLt_int q
 ·match vs,b,h2 with
  |_::_::_,b,_=>exact keyKind_ints b
 ·have f:SortedTo xs (pairsOf vs).size:=λi j k l=>by
   have hx:=p.size_eq;have d:xs[i]?=some (xs[i]'(by omega)):=Array.getElem?_eq_getElem (by omega);have h2:xs[j]?=some (xs[j]'(by omega)):=Array.getElem?_eq_getElem (by omega);unfold K;rw[d,h2];exact q i j _ _ (YQ _) k l d h2
  obtain⟨c,d,h2,m⟩:=sorted_out b p f;exact h _ c d h2 m
end
end TS
namespace DD
open PySem PySem.Spec PyProof.Rows L2
section
variable {prog:ZS}{w:World}{A:Around}{E:Zd}{s:Shared}{κ:Type}[DecidableEq κ]{knd:KeyKind prog w κ}
theorem list_dict{Q:Zd}{d:Addr}{a:List (κ×Value)}{j:Nat}(l:A.handled=none)(hd:(d==sysModules)=false)(hm:s.heap.DictAt knd d a j)(hl:a.length<=2 ^ 24)
  (m:∀h' tk g_ f,(∀b o,s.heap.get? b=some o->h'.get? b=some o)->h'.get? s.heap.objs.size=some { cls:=.type "list",dict:=none,data:=.seq g_ f,slots:=#[] }->ItemsOf (uc knd a) g_ a.length ->
   Q (.ref s.heap.objs.size) { s with heap:=h',toks:=tk }):wpAny (model prog w) A (call (.type "list") [.ref d]) Q E s:=by
 refine callType_codes (Q₁:=λobj k=>obj=.ref s.heap.objs.size/\k={ s with heap:=s.heap.push { cls:=.type "list",data:=.seq #[] } }) F.called_list (F.typeCall_list_1 _) F.entry_list_init (code_list_new _ ⟨rfl,rfl⟩) λobj k n=>?_
 obtain⟨rfl,rfl⟩:=n;have c:(s.heap.push { cls:=.type "list",data:=.seq #[] }).get? s.heap.objs.size=some { cls:=.type "list",data:=.seq #[] }:=Yg _ rfl;refine⟨⟨_,c,rfl⟩,F.args_list_init_2 _ _,?_⟩;show wpAny _ _ (do let g ←Builtin.List.listItems (.ref s.heap.objs.size);Builtin.List.listUpdate (.ref s.heap.objs.size) (λ_=>#[]);letGo g.toList.reverse;Builtin.List.listExtendWith (.ref s.heap.objs.size) (.ref d) .none) _ _ _;refine Yb ?_;unfold Builtin.List.listItems;refine Yb (wpAny_seqItems c rfl (Yc ?_));show wpAny _ _ (updateSeq s.heap.objs.size (λ_=>#[]) >>= λ_=>letGo (#[]:Array Value).toList.reverse >>= λ_=>Builtin.List.listExtendWith (.ref s.heap.objs.size) (.ref d) .none) _ _ _;refine Yb (wpAny_updateSeq c rfl ?_);have p1:=Heap.get?_update_self (Obj.mapSeq (λ_=>(#[]:Array Value))) c rfl;have nd:d≠s.heap.objs.size:=ZX hm.lt_size;have p:((s.heap.push { cls:=.type "list",data:=.seq #[] }).update s.heap.objs.size (Obj.mapSeq (λ_=>(#[]:Array Value)))).DictAt knd d a j:=(hm.push _).at' λo e=>(Heap.get?_update_other _ _ (Ne.symm nd)).trans e
 refine Yb (wpAny_letGo ?_);refine oO (A:=A.in1) (s:={ s with heap:=(s.heap.push { cls:=.type "list",data:=.seq #[] }).update s.heap.objs.size (Obj.mapSeq (λ_=>(#[]:Array Value))) }) l hd p hl s.heap.objs.size .none _ p1 ?_;intro h' tk g_ f hk r t;refine⟨rfl,m h' tk g_ f (λb o e=>hk b o (ZX (Ye e)) ?_) r t⟩;exact(Heap.get?_update_other _ _ (Ne.symm (ZX (Ye e)))).trans (Yd _ e)
theorem uX{Q:List Value->Shared->Prop}{d:Addr}{a:List (κ×Value)}{j:Nat}(k:A.handled=none)(hd:(d==sysModules)=false)(hm:s.heap.DictAt knd d a j)(hl:a.length<=2 ^ 24)
  (l:∀h' tk g_,(∀b o,s.heap.get? b=some o->h'.get? b=some o)->s.heap.objs.size<h'.objs.size->ItemsOf (uc knd a) g_ a.length->Q g_.toList { s with heap:=h',toks:=tk }):wpAny (model prog w) A (collect (.ref d)) Q E s:=by
 have go:∀R:Result->Shared->Prop,(∀h' tk g_ c,(∀b o,s.heap.get? b=some o->h'.get? b=some o)->h'.get? s.heap.objs.size=some { cls:=.type "list",dict:=none,data:=.seq g_ c,slots:=#[] }->ItemsOf (uc knd a) g_ a.length ->
   R (.ok (.ret (.ref s.heap.objs.size))) { s with heap:=h',toks:=tk })->codeAny (model prog w) A (.builtin "list.__iadd__" ⟨[.ref s.heap.objs.size,.ref d],[]⟩) R { s with heap:=s.heap.push (seqObj "list" #[] 0) }:=by
  intro R m;refine codeAny_builtin entry_list_iadd' ?_;show wpAny _ _ (Builtin.List.listExtendWith (.ref s.heap.objs.size) (.ref d) (.ref s.heap.objs.size)) _ _ { s with heap:=s.heap.push (seqObj "list" #[] 0) };rw[Around.under_plainId (id:="list.__iadd__") (by rfl')];refine oO (A:=A) (R:=R) (s:={ s with heap:=s.heap.push (seqObj "list" #[] 0) }) k hd (hm.push _) hl s.heap.objs.size _ 0 (Yg _ rfl) ?_;intro h' tk g_ c hk f g;exact m h' tk g_ c (λb o e=>hk b o (ZX (Ye e)) (Yd _ e)) f g
 unfold collect;refine Yb (wpAny_runValue (codeAny_builtin entry_proto_collect' ?_));show wpAny _ _ (do again (.builtin "list.__iadd__" ⟨[←newList [],.ref d],[]⟩)) _ _ s;refine Yb (wpAny_newList (Yc ⟨Code.quiet_builtin _ (by rfl'),go _ λh' tk g_ c hk f g=>?_⟩));refine Yb (wpAny_load f ?_);exact Yc (l h' tk g_ hk (Ye f) g)
theorem xy:∀{vs:Zh}{c:Zn},vs.length=c.length->(∀(i:Nat) (v:Value) (n:Int),vs[i]?=some v->c[i]?=some n->∃t,v=Value.int n t)->IntsAre vs c
 |[],[],_,_=>.nil
 |[],_::_,h,_=>by cases h
 |_::_,[],h,_=>by cases h
 |v::vs,n::c,h,g=>by
  obtain⟨t,rfl⟩:=g 0 v n rfl rfl;exact .cons n t (xy (by simpa using h) λi v m a b=>g (i+1) v m (by simpa using a) (by simpa using b))
theorem qE {it:Value} {vs:Zh} {ns:Zn} {h':Heap} {tk:Nat} {Q:Zd} (c:IntsAre vs ns) (d:vs.length<=4000)
  (h:∀ (out:Zq) (a:Zn),IntsAre out.toList a->a.Perm ns->a.Pairwise (·<=·)->Q (.ref h'.objs.size) { s with heap:=sortedHeap (h'.push (seqObj "list" vs.toArray 0)) h'.objs.size vs out,toks:=tk }) :
  wpAny (model prog w) A.in1 (do
   let l ← newList vs
   let _ ← holding [l] (call (.builtin "list.sort") [l] [])
   ret l) (λfin f=>∃ v,fin = Fin.done (.ret v)/\Q v f) E { s with heap:=h',toks:=tk }:=by
 refine Yb (wpAny_newList ?_)
 have b:(h'.push (seqObj "list" vs.toArray 0)).get? h'.objs.size = some (seqObj "list" vs.toArray 0):=Yg _ rfl
 show wpAny _ _ _ _ _ { s with heap:=h'.push (seqObj "list" vs.toArray 0),toks:=tk }
 refine Yb (Yj (wpAny_call_entry slot_list_sort ⟨_,b,rfl⟩ entry_list_sort (TS.list_sort_ints b c d λout a g j k=>⟨_,rfl,?_⟩) (args_list_sort _)))
 exact Yc ⟨_,rfl,h out a g j k⟩
end
def intKeys:List (Key×D)->Option (List Int)
 |[]=>some []
 |(.inl i,_)::r=>(intKeys r).map (i :: ·)
 |_=>none
theorem oP:∀{a:Z3}{ns:Zn},intKeys a=some ns->a.map (·.1)=ns.map Sum.inl
 |[],ns,h=>by cases h;rfl
 |(.inl i,d)::r,ns,h=>by
  rw[intKeys] at h;cases q:intKeys r with
  |none=>rw[q] at h;cases h
  |some b=>rw[q] at h;cases h;rw[YO,YO,oP q]
 |(.inr x,d)::r,ns,h=>by cases h
def ou(ns:Zn)(M:MH)(Q:DK):Prop:=ns.length<=4000/\∀(p:Addr) (a:Zn),M p=none->a.Perm ns->a.Pairwise (·<=·)->Q (.ref p) (updM M p (.lst (a.map .int)))
def ju:SpD:=λds M Q=>match ds with
 |[.ref a]=>match rdL (M a) with
  |some xs=>optD (gY xs) λns=>ou ns M Q
  |none=>optD (rdD (M a)) λb=>optD (intKeys b) λns=>ou ns M Q
 |_=>False
theorem nn:∀{us:Zh}{a:Zn},IntsAre us a->Vals (a.map V.int) us
 |_,_,.nil=>.nil
 |_,_,.cons n t r=>.cons ⟨t,rfl⟩ (nn r)
theorem np:∀{a:Zn}{us:Zh},Vals (a.map V.int) us->IntsAre us a
 |[],_,h=>by cases h;exact .nil
 |n::a,_,h=>by
  cases h with
  |cons r t=>
   obtain⟨tk,rfl⟩:=r;exact .cons n tk (np t)
section
variable {X:Cx}{H:Hp}
theorem uY{a_:Zg}{ρ:L2.St}{s:Shared}{M:MH}{Q:DK}{ns a:Zn}{h':Heap}{tk:Nat}{p:Addr}{out:Zq}{e:Nat}(I:Inv X a_ ρ H s)(c:RM X.K M H)(q:ou ns M Q)(k:∀b o,s.heap.get? b=some o->h'.get? b=some o)(hp:s.heap.objs.size<=p)
  (f:h'.get? p=some (seqObj "list" out e)) (g:IntsAre out.toList a) (d:a.Perm ns) (j:a.Pairwise (·<=·)):EP X a_ ρ (lift X.K H Q) (.ref p) { s with heap:=h',toks:=tk }:=by
 have hf:H p=none:=I.hok.fresh hp;have kk:=Kp.new (o:=.lst (a.map V.int)) hf;have hz:(a.map V.int).length<=sizeLine:=by
  rw[ZG,d.length_eq];have:(4000:Nat)<=sizeLine:=by decide
  have:=q.1
  omega
 exact⟨.ref p,_,I.laid (t':=tk) k hp (show aQ X.prog X.w _ h' p (.lst (a.map V.int)) from⟨hz,out.toList,e,nn g,by simpa [seqObj] using f⟩),rfl,kk,.ref p,_,RV.ref_.2 rfl,c.new (m:=.lst (a.map .int)) hf ⟨_,ay,on (λ_=>RV.int_.2 rfl) a⟩,q.2 p a (c.fresh hf) d j⟩
theorem Aw(hc:X.calm=true):fK X (.builtin "sorted") ju:=by
 intro ds vs H M Q r d h;unfold ju at h;split at h
 ·obtain⟨v,rfl,C⟩:=rvs1 r
  cases RV.ref_.1 C;split at h
  ·rename_i xs e1
   obtain⟨ns,e2,q⟩:=aL h;obtain⟨us,sq,E⟩:=d.list e1;obtain rfl:=pb e2 E;intro a_ s ρ F I f;obtain⟨u,rfl,g⟩:=vals1 f;cases g;obtain⟨d_,B,pl,hz⟩:=I.list sq;have hl:d_.length=ns.length:=by have:=B.length;simpa using this.symm
   have W:(4000:Nat)<=sizeLine:=by decide
   have G:d_.length<=sizeLine:=by have:=q.1;omega
   refine Calls.call_function_entry kind_sorted plain_sorted entry_sorted (args_sorted1 _) ?_;unfold Builtin.«sorted»;refine Yb (m:=checkCount "sorted" 1 1 _) (Yc ?_);refine Yb (collect_list pl.isList ?_ G);refine qE (s:=s) (A:=X.A) (it:=.none) (h':=(s.heap.push (seqObj "list" #[] 0)).update s.heap.objs.size (Obj.mapSeq (· ++ d_.toArray))) (tk:=s.toks) (np B) (by have:=q.1;omega) λout J j p t=>?_
   have hsz:((s.heap.push (seqObj "list" #[] 0)).update s.heap.objs.size (Obj.mapSeq (· ++ d_.toArray))).objs.size=s.heap.objs.size+1:=by rw[Heap.size_update,Heap.size_push]
   have w:∀b o,s.heap.get? b=some o->((s.heap.push (seqObj "list" #[] 0)).update s.heap.objs.size (Obj.mapSeq (· ++ d_.toArray))).get? b=some o:=λb o e=>
    (Heap.get?_update_other _ _ (Ne.symm (ZX (Ye e)))).trans (Yd _ e)
   generalize (s.heap.push (seqObj "list" #[] 0)).update s.heap.objs.size (Obj.mapSeq (· ++ d_.toArray))=h' at *;obtain⟨e,y⟩:=sortedHeap_at (h:=h'.push (seqObj "list" d_.toArray 0)) (a:=h'.objs.size) (vs:=d_) (n:=0) (out:=out) (Yg _ rfl);refine uY (tk:=s.toks) I d q (λb o e=>?_) (by omega) y j p t;have c:=w b o e;have hb:b<h'.objs.size:=Ye c;rw[sortedHeap_old (ZX hb) (by rw[Heap.size_push];exact Nat.lt_succ_of_lt hb)];exact Yd _ c
  ·obtain⟨Y,e1,h⟩:=aL h
   obtain⟨ns,e2,q⟩:=aL h;obtain⟨Z,K,L,_⟩:=d.dict e1;intro a_ s ρ F I f;obtain⟨u,rfl,g⟩:=vals1 f;cases g;obtain⟨hz,hd,xs,O,P⟩:=j8 I.hok K;obtain⟨ep,hm⟩:=P.dictAt;have hk:xs.map (·.1)=ns.map Sum.inl:=by rw[←O.keys,L,oP e2]
   have hl:xs.length=ns.length:=by have:=congrArg List.length hk;simpa using this
   refine Calls.call_function_entry kind_sorted plain_sorted entry_sorted (args_sorted1 _) ?_;unfold Builtin.«sorted»;refine Yb (m:=checkCount "sorted" 1 1 _) (Yc ?_);refine Yb (uX (A:=X.A.in1) (I.ok.hd hc) hd hm (by have:=q.1;omega) λh' tk g_ w hsz z=>?_);obtain⟨R,z⟩:=z;have S:g_.toList.length=ns.length:=by rw[←hl,←R];simp
   have T:IntsAre g_.toList ns:=xy S λi v n U hn=>by
    obtain⟨k,x,hx,hi⟩:=z i v (by rw[←XF];exact U);have V:k=Sum.inl n:=by
     have:=congrArg (λl=>l[i]?) hk
     simp only[ZH,hx,hn,Option.map_some] at this;cases this;rfl
    subst V;exact rK hi
   refine qE (s:=s) (A:=X.A) (it:=.none) T (by have:=q.1;omega) λout J j p t=>?_
   obtain⟨e,y⟩:=sortedHeap_at (h:=h'.push (seqObj "list" g_.toList.toArray 0)) (a:=h'.objs.size) (vs:=g_.toList) (n:=0) (out:=out) (Yg _ rfl);refine uY I d q (λb o e=>?_) (Nat.le_of_lt hsz) y j p t;have c:=w b o e;have hb:b<h'.objs.size:=Ye c;rw[sortedHeap_old (ZX hb) (by rw[Heap.size_push];exact Nat.lt_succ_of_lt hb)];exact Yd _ c
 ·exact Yh h
def dW:SpD:=λds M Q=>match ds with
 |[.ref a]=>match rdD (M a) with
  |some b=>∀p,M p=none->Q (.ref p) (updM M p (.lst (keysOf b)))
  |none=>qp ds M Q
 |ds=>qp ds M Q
theorem s0{P:ZS}{w:World}:∀{xs:List (Key×Value)}{us:Zh},us.length=xs.length->(∀(i:Nat) (v:Value) (k:Key) (x:Value),us[i]?=some v->xs[i]?=some (k,x)->(bg P w).is k v=true)->Vals (xs.map λp=>kV p.1) us
 |[],[],_,_=>.nil
 |[],_::_,h,_=>by cases h
 |_::_,[],h,_=>by cases h
 |(k,x)::xs,u::us,h,g=>.cons (rK (g 0 u k x rfl rfl)) (s0 (by simpa using h) λi v k x a b=>g (i+1) v k x (by simpa using a) (by simpa using b))
theorem BY(hc:X.calm=true):fK X (.type "list") dW:=by
 intro ds vs H M Q r d h;unfold dW at h;split at h
 ·rename_i a
  split at h
  ·rename_i f e1
   obtain⟨v,rfl,t⟩:=rvs1 r;cases RV.ref_.1 t;obtain⟨c,y,z,_⟩:=d.dict e1;intro a_ s ρ S I A;obtain⟨u,rfl,B⟩:=vals1 A;cases B;obtain⟨hz,hd,xs,j,C⟩:=j8 I.hok y;obtain⟨T,hm⟩:=C.dictAt;have E:xs.length=c.length:=j.length.symm;by_cases l:xs.length<=2 ^ 24
   ·refine list_dict (I.ok.hd hc) hd hm l λh' tk g_ F hk G g=>?_
    obtain⟨J,g⟩:=g;have n:Vals (xs.map λp=>kV p.1) g_.toList:=s0 (P:=X.prog) (w:=X.w) (by rw[←J];simp) λi v k x a b=>by
     obtain⟨k',U,hx,hi⟩:=g i v (by rw[←XF];exact a);rw[b] at hx;cases hx;exact hi
    have L:(xs.map λp=>kV p.1)=c.map λp=>kV p.1:=by
     have:=j.keys
     have h2:(c.map (·.1)).map kV=(xs.map (·.1)).map kV:=by rw[this]
     rw[ZP,ZP] at h2;exact h2.symm
    rw[L] at n;have hf:H s.heap.objs.size=none:=I.hok.fresh (YJ _);have kk:=Kp.new (o:=.lst (c.map λp=>kV p.1)) hf;have O:RVs X.K (upd H s.heap.objs.size (.lst (c.map λp=>kV p.1))) (keysOf f) (c.map λp=>kV p.1):=by
     have h2:keysOf f=(c.map (·.1)).map kD:=by unfold keysOf;rw[z,ZP];rfl
     have R:(c.map λp=>kV p.1)=(c.map (·.1)).map kV:=by rw[ZP];rfl
     rw[h2,R];exact on (λk=>CS k) _
    exact⟨.ref s.heap.objs.size,_,I.laid (t':=tk) hk (YJ _) (show aQ X.prog X.w _ h' _ (.lst (c.map λp=>kV p.1)) from⟨by rw[ZG];exact hz,g_.toList,F,n,by simpa using G⟩),rfl,kk,.ref _,_,RV.ref_.2 rfl,d.new (m:=.lst (keysOf f)) hf ⟨_,ay,O⟩,h _ (d.fresh hf)⟩
   ·exact absurd (by rw[E];rw[sizeLine_eq] at hz;omega) l
  ·exact xr _ vs H M Q r d h
 ·exact xr _ vs H M Q r d h
end
section
variable {X:Cx}{H:Hp}{pos:Pos}{e:Expr}{es:Zl}
inductive Bk where
 |sorted | list
 deriving DecidableEq
def dBk:Bk->SpD
 |.sorted=>ju
 |.list=>dW
def qF:Bk->Str
 |.sorted=>"sorted"
 |.list=>"list"
theorem Gi(b:Bk)(hc:X.calm=true){t:WA}{p:Pos}(hg:Gl X (qF b))(hm:X.mg (qF b)=none)(a:ah e=true)(c:es.all ah=true)(ha:PAd X (e::es) t):PEd X (.Call (.Name (qF b) p) (e::es) [] pos) (gU (dBk b) t):=by
 cases b with
 |sorted=>exact fu (Aw hc) hg hm (by rfl') (by decide) (by decide) a c ha
 |list=>exact qm (BY hc) hg hm (by rfl') (by decide) (by decide) a c ha
end
section
variable {prog:ZS}{w:World}{A:Around}{E:Zd}{s:Shared}
theorem uZ{it t:Addr}{i:Nat}{c:Zq}{x:Value}{Q:Zd}(b:s.heap.IsTupleIter it t i)(ht:s.heap.IsTuple t c)(hx:c[i]?=some x)
  (d:∀h',h'.IsTupleIter it t (i+1)->Heap.SameBut it s.heap h'->Q x { s with heap:=h' }):wpAny (model prog w) A (Builtin.SmallTypes.nextOf (.ref it)) Q E s:=by
 obtain⟨o,a,hc,hd⟩:=id b;obtain⟨j,f,_,k,g⟩:=ht;unfold Builtin.SmallTypes.nextOf;refine Yb (wpAny_callSpecial?_slot (name:=Str.ofString "__next__") b.typeIs F.slot_tuple_iterator_next (wpAny_call_entry F.slot_tuple_iterator_next b.typeIs F.entry_tuple_iterator_next ?_ (F.args_tuple_iterator_next_1 _)));show wpAny _ _ (field (.ref it) 0 >>= _) _ _ s;refine Yb (wpAny_field a hd (x:=.ref t) rfl ?_);show wpAny _ _ (if(Value.ref t==Value.none)=true then _ else _) _ _ s;rw[if_neg (show ¬((Value.ref t==Value.none)=true) from YI)];show wpAny _ _ (field (.ref it) 1 >>= _) _ _ s;refine Yb (wpAny_field a hd (x:=.int i 0) rfl ?_);show wpAny _ _ (seqItems? (.ref t) >>= _) _ _ s;refine Yb (wpAny_seqItems f g ?_);simp only[YZ,hx];refine Yb (wpAny_setField a hd (by simp) (Yc ⟨x,rfl,Yc (d _ ⟨_,Heap.get?_update_self _ a (Obj.isFreed_of_fields (Obj.data_mapFields hd _)),(Obj.cls_mapFields ..).trans hc,?_⟩ (Heap.SameBut.update ..))⟩));rw[Obj.data_mapFields hd];simp[rawInt]
theorem pv{it t:Addr}{i:Nat}{d:Zq}{Q:Zd}(f:A.handled=none)(b:s.heap.IsTupleIter it t i)(ht:s.heap.IsTuple t d)(hx:d[i]?=none)
  (g:∀h' e,Heap.ExtBut it s.heap h'->(∃o,h'.get? e=some o/\o.cls=.type "StopIteration")->E (.ref e) { s with heap:=h' }):wpAny (model prog w) A (Builtin.SmallTypes.nextOf (.ref it)) Q E s:=by
 obtain⟨o,c,hc,hd⟩:=id b;obtain⟨l,j,_,n,k⟩:=ht;unfold Builtin.SmallTypes.nextOf;refine Yb (wpAny_callSpecial?_slot (name:=Str.ofString "__next__") b.typeIs F.slot_tuple_iterator_next (wpAny_call_entry F.slot_tuple_iterator_next b.typeIs F.entry_tuple_iterator_next ?_ (F.args_tuple_iterator_next_1 _)));show wpAny _ _ (field (.ref it) 0 >>= _) _ _ s;refine Yb (wpAny_field c hd (x:=.ref t) rfl ?_);show wpAny _ _ (if(Value.ref t==Value.none)=true then _ else _) _ _ s;rw[if_neg (show ¬((Value.ref t==Value.none)=true) from YI)];show wpAny _ _ (field (.ref it) 1 >>= _) _ _ s;refine Yb (wpAny_field c hd (x:=.int i 0) rfl ?_);show wpAny _ _ (seqItems? (.ref t) >>= _) _ _ s;refine Yb (wpAny_seqItems j k ?_);simp only[YZ,hx];refine Yb (wpAny_rule (Yb (wpAny_setField c hd (by simp) ?_)));show wpAny _ _ (newExc (.type "StopIteration") [] >>= _) _ _ _;refine Yb ?_;simp only[newExc,newTuple];refine Yb (wpAny_newObj_type ?_ (by size_fits));refine Yb (m:=firstArgMember _ _) (wpAny_of_eq (a:=Value.none) (by first | rfl | (simp only[firstArgMember];rfl)) (wpAny_newObj_type ?_ (by size_fits)));simp only[raiseNew];refine Yb (wpAny_handled ?_);first | rw[show A.in1.handled=none from f] | rw[f]
 refine Yb (Yc (wpAny_throw (g _ _ (((Heap.SameBut.update ..).extBut.push _).push _) ⟨_,Yg _ rfl,rfl⟩)))
theorem oQ(c:A.handled=none)(it t:Addr)(d:t≠it)(a:Zq):Draws prog w A it [it,t] a.size (λi v=>a[i]?=some v) (λi h=>h.IsTupleIter it t i/\h.IsTuple t a) where
 live:=λ_ _ st=>let⟨o,ho,_⟩:=st.1;⟨o,ho⟩
 frame:=λ_ _ _ st hk=>⟨st.1.at λo e=>hk it (by simp) o e,let⟨o,ho,r⟩:=st.2;⟨o,hk t (by simp) o ho,r⟩⟩
 item:=λi s Q E hi st f=>uZ st.1 st.2 (x:=a[i]) (by simp[hi]) λh' g b=>f _ h' s.toks (by simp[hi]) ⟨g,st.2.extBut b.extBut d⟩ b
 done:=λs Q E st j=>pv c st.1 st.2 (by simp) j
theorem Ax(l:Addr)(a:Zq)(n:Nat)(f:Zr)(sl:Zs):
  Meets (Builtin.«enumerate.__new__» ⟨[.type "enumerate",.ref l],[]⟩) (λ_ R s=>s.heap.get? l=some { cls:=.type "tuple",dict:=f,data:=.seq a n,slots:=sl } /\
   R (.ok (.ret (.ref (s.heap.push { cls:=.type "tuple_iterator",data:=.fields #[.ref l,.int 0 0] }).objs.size)))
    { s with heap:=(s.heap.push { cls:=.type "tuple_iterator",data:=.fields #[.ref l,.int 0 0] }).push { cls:=.type "enumerate",data:=.fields #[.none,.bool false,.ref s.heap.objs.size,rawInt 0,.none,.none] } }):=by
 refine .of_wp λprog w A R s h=>?_
 obtain⟨hp,g,d,tk,os⟩:=s;obtain⟨hl,h⟩:=h;have j:=sub_enumerate;have b:Heap.IsTuple (Shared.heap ⟨hp,g,d,tk,os⟩) l a:=⟨_,hl,rfl,n,rfl⟩;wp_walk using AutoSeq1.wpAny_loadPart' hl;refine wpAny_stack_any λst=>Yc ?_
 split
 ·rename_i c _ _ _ _ _
  cases(c==Value.type "enumerate")<;>(wp_walk using AutoSeq1.wpAny_loadPart' hl,wpAny_pyIter_tuple b;exact⟨_,rfl,h⟩)
 ·wp_walk using AutoSeq1.wpAny_loadPart' hl,wpAny_pyIter_tuple b
  exact⟨_,rfl,h⟩
theorem yL{l:Addr}{a:Zq}{Q:Zd}(f:s.heap.IsTuple l a)
  (h:∀h',IsEnum h' (s.heap.objs.size+1) s.heap.objs.size 0 .none->h'.IsTupleIter s.heap.objs.size l 0->(∀b o,s.heap.get? b=some o->h'.get? b=some o)->Q (.ref (s.heap.objs.size+1)) { s with heap:=h' }):
  wpAny (model prog w) A (call (.type "enumerate") [.ref l]) Q E s:=by
 obtain⟨⟨c,g,j,sl⟩,hl,hc,n,hd⟩:=f;obtain rfl:c=.type "tuple":=hc;obtain rfl:j=.seq a n:=hd;refine callType_new F.called_enumerate (by decide) (F.typeCall_enumerate_1 _) (F.newCall_enumerate_1 _) (λobj=>F.args_object_init_2 obj _) F.entry_enumerate_new (Ax l a n g sl) ⟨hl,?_⟩;have hz:(s.heap.push { cls:=.type "tuple_iterator",data:=.fields #[.ref l,.int 0 0] }).objs.size=s.heap.objs.size+1:=Heap.size_push ..;show _/\_;rw[hz];have d:=Yg (s.heap.push { cls:=.type "tuple_iterator",data:=.fields #[.ref l,.int 0 0] }) (o:={ cls:=.type "enumerate",data:=.fields #[.none,.bool false,.ref s.heap.objs.size,rawInt 0,.none,.none] }) rfl;rw[hz] at d;exact⟨⟨_,d,rfl⟩,h _ d ⟨_,Yd _ (Yg _ rfl),rfl,rfl⟩ λb o x=>Yd _ (Yd _ x)⟩
end
section
variable {X:Cx}{a_:Zg}{σ:L2.St}{H:Hp}{s:Shared}{h':Heap}
theorem Hb{fs ch:Zm}{h:Heap}(k:∀b o,b∉ch->h.get? b=some o->h'.get? b=some o):Un fs ch H H h h' where
 keep:=λb o e _ _ hc=>k b o hc e
 slot:=λb o e _ _ hc=>⟨o.slots,k b o hc e⟩
 free:=λ_ _ _ n _=>n
 there:=λb o e hc=>⟨o,k b o hc e⟩
 tups:=λ_ _ e=>e
 frzs:=λ_ _ _ e=>e
 tbls:=λb ps e=>⟨#[],by rw[e];simp⟩
theorem Gj{P:ZS}{w:World}{ch:Zm}{h:Heap}(ok:HOk P w H h)(k:∀b o,b∉ch->h.get? b=some o->h'.get? b=some o)(hn:∀b∈ch,H b=none):HOk P w H h':=λb u e=>by
 have a:∀c v,H c=some v->c∉ch:=λc v d z=>by rw[hn c z] at d;cases d
 refine(ok b u e).stay (λc v hc q=>k c v ?_ q) (λ_ q=>q) λ_ _ q=>q
 rcases hc with z | z
 ·rw[z];exact a b u e
 ·exact a c _ z
theorem Inv.turnedT{ch:Zm}{T:Addr}{xs:List V}{d_:Zh}{tk:Nat}(I:Inv X a_ σ H s)(k:∀b o,b∉ch->s.heap.get? b=some o->h'.get? b=some o)(hn:∀b∈ch,H b=none)
  (d:∀b∈ch,(b∈X.ex\/X.s₀.heap.objs.size<=b)/\b≠X.env.locals/\(∀x c,X.env.cells.lookup x=some c->c≠b)/\∀p∈X.pn++a_,p.1≠b) (a:s.heap.objs.size<=T) (r:Vals xs d_) (hz:xs.length<=sizeLine) (ht:IsTup h' T d_.toArray):
  Inv X a_ σ (upd H T (.tup xs)) { s with heap:=h',toks:=tk }:=by
 have hf:H T=none:=I.hok.fresh a;have f:=Gj I.hok k hn;refine I.call (g':=s.gens) (d':=s.drawn) (t':=tk) (Un.track (Hb k) a hf) (λb u e=>?_) I.bare d;by_cases hb:b=T
 ·subst hb
  rw[ay] at e;cases e;exact⟨hz,d_,r,ht⟩
 ·rw[aD hb] at e
  refine(f b u e).stay (λc v _ q=>q) (λc q=>?_) λc g q=>?_
  ·rw[aD (aT q hf)];exact q
  ·rw[aD (aT q hf)];exact q
end
def Ite(K:Za)(a:Addr):It:=
 ⟨λi H=>∃xs x,SqL K H a xs/\xs[i]?=some x,λi H x H'=>∃v p,(∀xs,SqL K H a xs->xs[i]?=some v)/\H p=none/\H'=upd H p (.tup [.int (i:Int),v])/\x=.ref p,λi H=>∃xs,SqL K H a xs/\xs.length<=i⟩
theorem Ay{P:ZS}{w:World}{K:Za}{l:Zl}{kk:Nat}{tp:Pos}(a e it:Addr)(A:e≠it):Turn P w K (.Tuple l kk tp) (Ite K a) [e,it] e (λi h=>(∃f,IsEnum h e it i f)/\h.IsListIter it a i) where
 mem:=by simp
 obj:=λi h st b hb=>by
  obtain⟨⟨f,g⟩,⟨o,C,c,d⟩⟩:=st;have n:b=e\/b=it:=by simpa using hb
  rcases n with rfl | rfl
  ·exact⟨_,g,λv z=>by cases z⟩
  ·exact⟨o,C,λv z=>by rw[d] at z;cases z⟩
 keep:=λi h h' st k=>by
  obtain⟨⟨f,g⟩,j⟩:=st;exact⟨⟨f,k e (by simp) _ g⟩,j.at λo x=>k it (by simp) o x⟩
 item:=by
  intro X r hw t hc i a_ s σ H E I hf st hg;subst r hw t;obtain⟨xs,x,hq,hx⟩:=hg;obtain⟨d_,y,p,hz⟩:=I.list hq;obtain⟨u,hu,F⟩:=y.get hx;obtain⟨⟨f,g⟩,j⟩:=st;have m:=hf e (by simp);have fi:=hf it (by simp);refine wpAny_pyNext_enum_item g j p.isList (x:=u) (by simpa using hu) A λh' G J L hsz hk=>⟨_,rfl,?_⟩
  have O:H s.heap.objs.size=none:=I.hok.fresh (YJ _);have R:Inv X a_ σ (upd H s.heap.objs.size (.tup [.int (i:Int),x])) { s with heap:=h',toks:=s.toks+1 }:=Inv.turnedT (ch:=[e,it]) (d_:=[.int (i:Int) s.toks,u]) I
   (λb o hb q=>hk b o (λz=>hb (by simp[z])) (λz=>hb (by simp[z])) q)
   (λb hb=>(hf b hb).1) (λb hb=>⟨(hf b hb).2.2.2.1,(hf b hb).2.1,(hf b hb).2.2.2.2.1,(hf b hb).2.2.2.2.2⟩) (YJ _) (.cons ⟨_,rfl⟩ (.cons F .nil)) (by show 2<=sizeLine;decide) ⟨_,L,rfl,_,rfl⟩
  have neT:∀b∈[e,it],b≠s.heap.objs.size:=λb hb z=>by
   have n:b=e\/b=it:=by simpa using hb
   rcases n with rfl | rfl
   ·exact absurd (Ye g) (by rw[z];exact ZW _)
   ·obtain⟨_,S,_⟩:=j;exact absurd (Ye S) (by rw[z];exact ZW _)
  refine wpAny_letOwnedTupleGo_enum (s:={ s with heap:=h',toks:=s.toks+1 }) G λT U B=>?_
  have V:=L2.Inv.turned (h':=T) (t':=s.toks+1) (it:=e) R (λb o hb q=>(B.2 b hb).trans q) (by rw[aD (neT e (by simp))];exact m.1) m.2.1 m.2.2.2.1 m.2.2.2.2.1 m.2.2.2.2.2;refine⟨.ref s.heap.objs.size,_,V,rfl,⟨x,s.heap.objs.size,λys hy=>by rw[I.list_inj hy hq];exact hx,O,rfl,rfl⟩,⟨⟨u,by simpa using U⟩,J.at λo q=>(B.2 it A.symm).trans q⟩,λb hb=>?_⟩;rw[aD (neT b hb)];exact(hf b hb).1
 done:=by
  intro X r hw t hc i a_ s σ H E I hf st hg;subst r hw t;obtain⟨xs,hq,hx⟩:=hg;obtain⟨d_,y,p,hz⟩:=I.list hq;obtain⟨⟨f,g⟩,j⟩:=st;obtain⟨W,Y,f2,Z,f4,f5⟩:=hf it (by simp);have hl:=y.length;exact wpAny_pyNext_enum_end (I.ok.hd hc) g j p.isList (by simp;omega) λh' eb=>⟨rfl,I.turned (t':=s.toks) (λb o hb q=>eb b o hb q) W Y Z f4 f5⟩
 self:=λ_ _ _ _ _ st h=>by
  obtain⟨⟨f,g⟩,_⟩:=st;exact wpAny_pyIter_enum g h
def IteT(K:Za)(a:Addr):It:=
 ⟨λi H=>∃xs x,SqT K H a xs/\xs[i]?=some x,λi H x H'=>∃v p,(∀xs,SqT K H a xs->xs[i]?=some v)/\H p=none/\H'=upd H p (.tup [.int (i:Int),v])/\x=.ref p,λi H=>∃xs,SqT K H a xs/\xs.length=i⟩
theorem yM{P:ZS}{w:World}{K:Za}{n:Zl}{kk:Nat}{tp:Pos}(a e it:Addr)(t:e≠it):Turn P w K (.Tuple n kk tp) (IteT K a) [e,it] e (λi h=>(∃f,IsEnum h e it i f)/\h.IsTupleIter it a i) where
 mem:=by simp
 obj:=λi h st b hb=>by
  obtain⟨⟨f,g⟩,⟨o,T,c,d⟩⟩:=st;have A:b=e\/b=it:=by simpa using hb
  rcases A with rfl | rfl
  ·exact⟨_,g,λv z=>by cases z⟩
  ·exact⟨o,T,λv z=>by rw[d] at z;cases z⟩
 keep:=λi h h' st k=>by
  obtain⟨⟨f,g⟩,j⟩:=st;exact⟨⟨f,k e (by simp) _ g⟩,j.at λo x=>k it (by simp) o x⟩
 item:=by
  intro X B hw C hc i a_ s σ H E I hf st hg;subst B hw C;obtain⟨xs,x,hq,hx⟩:=hg;obtain⟨d_,F,p,hz⟩:=I.tuple hq;obtain⟨u,hu,U⟩:=F.get hx;obtain⟨⟨f,g⟩,j⟩:=st;have p:s.heap.IsTuple a d_.toArray:=p;have r:=hf e (by simp);have fi:=hf it (by simp);have G:a≠it:=λz=>by
   obtain⟨O,l,m,_⟩:=p;obtain⟨V,J,L,_⟩:=j;rw[z,J] at l;cases l;rw[L] at m;exact absurd m (by decide)
  have W:e≠a:=λz=>by
   obtain⟨O,l,m,_⟩:=p;rw[←z,g] at l;cases l;exact absurd (show Value.type "enumerate" = Value.type "tuple" from m) (by decide)
  have hi:i<d_.toArray.size:=by have:=(YG.1 hu).1;simpa using this
  refine wpAny_pyNext_enum_itemD (oQ (by simp[I.ok.hd hc]) it a G d_.toArray) g ⟨j,p⟩ hi t (by simp;exact⟨t,W⟩) λy h' tk hy Y f_ Z hsz hk=>⟨_,rfl,?_⟩
  have Sm:y=u:=by
   have R:d_[i]?=some y:=by simpa using hy
   rw[hu] at R;cases R;rfl
  subst Sm;have J2:H s.heap.objs.size=none:=I.hok.fresh (YJ _);have I1:Inv X a_ σ (upd H s.heap.objs.size (.tup [.int (i:Int),x])) { s with heap:=h',toks:=tk+1 }:=Inv.turnedT (ch:=[e,it]) (d_:=[.int (i:Int) tk,y]) I
   (λb o hb q=>hk b o (λz=>hb (by simp[z])) (λz=>hb (by simp[z])) q)
   (λb hb=>(hf b hb).1) (λb hb=>⟨(hf b hb).2.2.2.1,(hf b hb).2.1,(hf b hb).2.2.2.2.1,(hf b hb).2.2.2.2.2⟩) (YJ _) (.cons ⟨_,rfl⟩ (.cons U .nil)) (by show 2<=sizeLine;decide) ⟨_,Z,rfl,_,rfl⟩
  have neT:∀b∈[e,it],b≠s.heap.objs.size:=λb hb z=>by
   have A:b=e\/b=it:=by simpa using hb
   rcases A with rfl | rfl
   ·exact absurd (Ye g) (by rw[z];exact ZW _)
   ·obtain⟨_,x1,_⟩:=j;exact absurd (Ye x1) (by rw[z];exact ZW _)
  refine wpAny_letOwnedTupleGo_enum (s:={ s with heap:=h',toks:=tk+1 }) Y λOO KR S=>?_
  have I2:=L2.Inv.turned (h':=OO) (t':=tk+1) (it:=e) I1 (λb o hb q=>(S.2 b hb).trans q) (by rw[aD (neT e (by simp))];exact r.1) r.2.1 r.2.2.2.1 r.2.2.2.2.1 r.2.2.2.2.2;refine⟨.ref s.heap.objs.size,_,I2,rfl,⟨x,s.heap.objs.size,λys hy=>by rw[I.tuple_inj hy hq];exact hx,J2,rfl,rfl⟩,⟨⟨y,by simpa using KR⟩,f_.1.at λo q=>(S.2 it t.symm).trans q⟩,λb hb=>?_⟩;rw[aD (neT b hb)];exact(hf b hb).1
 done:=by
  intro X B hw C hc i a_ s σ H E I hf st hg;subst B hw C;obtain⟨xs,hq,hx⟩:=hg;obtain⟨d_,F,p,hz⟩:=I.tuple hq;have p:s.heap.IsTuple a d_.toArray:=p;obtain⟨⟨f,g⟩,j⟩:=st;obtain⟨f0,f1,f2,f3,f4,f5⟩:=hf it (by simp);have G:a≠it:=λz=>by
   obtain⟨O,l,m,_⟩:=p;obtain⟨V,J,L,_⟩:=j;rw[z,J] at l;cases l;rw[L] at m;exact absurd m (by decide)
  have hn:i=d_.toArray.size:=by rw[←hx,F.length];simp
  subst hn;exact wpAny_pyNext_enum_endD (oQ (by simp[I.ok.hd hc]) it a G d_.toArray) g ⟨j,p⟩ λh' eb=>⟨rfl,I.turned (t':=s.toks) (λb o hb q=>eb b o hb q) f0 f1 f3 f4 f5⟩
 self:=λ_ _ _ _ _ st h=>by
  obtain⟨⟨f,g⟩,_⟩:=st;exact wpAny_pyIter_enum g h
def bH:Int->List D->List D
 |_,[]=>[]
 |n,d::r=>.tup [.int n,d]::bH (n+1) r
theorem fB:∀(n:Int) (ds:List D),(bH n ds).length=ds.length
 |_,[]=>rfl
 |n,d::r=>by rw[bH,YM,YM,fB]
theorem nq:∀{n:Int}{ds:List D}{i:Nat}{x:D},(bH n ds)[i]?=some x->∃d,ds[i]?=some d/\x=.tup [.int (n+i),d]
 |_,[],_,_,h=>by cases h
 |n,d::r,0,x,h=>by
  rw[bH] at h;simp at h;exact⟨d,rfl,by rw[←h];simp⟩
 |n,d::r,i+1,x,h=>by
  rw[bH] at h;obtain⟨d',a,h2⟩:=nq (n:=n+1) (ds:=r) (i:=i) (x:=x) (by simpa using h);refine⟨d',by simpa using a,?_⟩;rw[h2];congr 2;congr 1;omega
theorem u1{K:Za}{a:Addr}{ds:List D}{f:Hp}{g:MH->Prop}(hg:∀H M,RM K M H->g M->∃vs,SqL K H a vs/\RVs K H ds vs):JOk K (Ite K a) f (bH 0 ds) g:=by
 intro i H M _ c q;obtain⟨vs,sq,b⟩:=hg H M c q;rw[fB];refine⟨λhi=>?_,λhi=>⟨vs,sq,by rw[←b.len];exact Nat.le_of_eq hi.symm⟩,λx H' d hd ⟨v,p,j,hp,e,y⟩=>?_⟩
 ·have:i<vs.length:=by rw[←b.len];exact hi
  exact⟨vs,vs[i],sq,ZE this⟩
 ·subst e y
  obtain⟨d',l,rfl⟩:=nq hd;obtain⟨m,h2,r⟩:=cM b.p l
  have:=j vs sq
  rw[h2] at this;cases this;have k:=Kp.new (o:=.tup [.int (i:Int),v]) hp;refine⟨k,c.newH hp,RV.tup_.2 ⟨p,_,rfl,SqT.of ay,.cons (RV.int_.2 (by rw[Int.zero_add])) (.cons (RV.mono k _ r) .nil)⟩⟩
theorem Az{K:Za}{a:Addr}{ds:List D}{vs:List V}{c:Hp}(sq:SqT K c a vs)(b:RVs K c ds vs):JOk K (IteT K a) c (bH 0 ds) (λ_=>True):=by
 intro i H M k f _;have sq:=k.sq sq;have b:=RVs.mono k _ b;rw[fB];refine⟨λhi=>?_,λhi=>⟨vs,sq,by rw[←b.len];exact hi.symm⟩,λx H' d hd ⟨v,p,g,hp,e,y⟩=>?_⟩
 ·have:i<vs.length:=by rw[←b.len];exact hi
  exact⟨vs,vs[i],sq,ZE this⟩
 ·subst e y
  obtain⟨d',j,rfl⟩:=nq hd;obtain⟨l,h2,r⟩:=cM b.p j
  have:=g vs sq
  rw[h2] at this;cases this;have k:=Kp.new (o:=.tup [.int (i:Int),v]) hp;refine⟨k,f.newH hp,RV.tup_.2 ⟨p,_,rfl,SqT.of ay,.cons (RV.int_.2 (by rw[Int.zero_add])) (.cons (RV.mono k _ r) .nil)⟩⟩
def yN(t:WA):WI:=λσ M R=>t σ M λds M1=>match ds with
 |[.tup xs]=>R (bH 0 xs) (λ_=>True) M1
 |[.ref a]=>match M1 a with
  |some (.lst xs)=>R (bH 0 xs) (λM'=>M' a=some (.lst xs)) M1
  |some (.rol xs)=>R (bH 0 xs) (λM'=>M' a=some (.rol xs)) M1
  |_=>False
 |_=>False
section
variable {X:Cx}{H:Hp}{pos:Pos}
theorem xz{a_:Zg}{ρ:L2.St}{s:Shared}{c:Zl}{kk:Nat}{tp:Pos}{a:Addr}{xs:List V}{R:It->Hp->Prop}(I:Inv X a_ ρ H s)(hq:SqL X.K H a xs)(q:R (Ite X.K a) H):
  wpAny (model X.prog X.w) X.A (call (.type "enumerate") [.ref a]) (λv s1=>wpAny (model X.prog X.w) X.A (pyIter v) (PIE X a_ ρ (.Tuple c kk tp) R) X.xe s1) X.xe s:=by
 obtain⟨d_,k,p,hz⟩:=I.list hq;refine call_enumerate_list p.isList λh' d f hsz hk=>?_
 refine wpAny_pyIter_enum d ?_;have g:Inv X a_ ρ H { s with heap:=h' }:=I.kept (t':=s.toks) hk;refine⟨s.heap.objs.size+1,[s.heap.objs.size+1,s.heap.objs.size],_,_,H,rfl,g,Ay a _ _ (Nat.succ_ne_self _),⟨⟨.none,d⟩,f⟩,λb hb=>?_,q⟩;have j:b=s.heap.objs.size+1\/b=s.heap.objs.size:=by simpa using hb
 rcases j with rfl | rfl
 ·exact I.fpOk (YR _) (I.hok.fresh (YR _))
 ·exact I.fpOk (YJ _) (I.hok.fresh (YJ _))
theorem BZ{a_:Zg}{ρ:L2.St}{s:Shared}{c:Zl}{kk:Nat}{tp:Pos}{a:Addr}{xs:List V}{R:It->Hp->Prop}(I:Inv X a_ ρ H s)(hq:SqT X.K H a xs)(q:R (IteT X.K a) H):
  wpAny (model X.prog X.w) X.A (call (.type "enumerate") [.ref a]) (λv s1=>wpAny (model X.prog X.w) X.A (pyIter v) (PIE X a_ ρ (.Tuple c kk tp) R) X.xe s1) X.xe s:=by
 obtain⟨d_,k,p,hz⟩:=I.tuple hq;refine yL (show s.heap.IsTuple a d_.toArray from p) λh' d f hk=>?_
 refine wpAny_pyIter_enum d ?_;have g:Inv X a_ ρ H { s with heap:=h' }:=I.kept (t':=s.toks) hk;refine⟨s.heap.objs.size+1,[s.heap.objs.size+1,s.heap.objs.size],_,_,H,rfl,g,yM a _ _ (Nat.succ_ne_self _),⟨⟨.none,d⟩,f⟩,λb hb=>?_,q⟩;have j:b=s.heap.objs.size+1\/b=s.heap.objs.size:=by simpa using hb
 rcases j with rfl | rfl
 ·exact I.fpOk (YR _) (I.hok.fresh (YR _))
 ·exact I.fpOk (YJ _) (I.hok.fresh (YJ _))
theorem B0{l:Expr}{t:WA}{p:Pos}{f:Zl}{kk:Nat}{tp:Pos}(hg:Gl X "enumerate")(hm:X.mg "enumerate" = none)(h:PAd X [l] t)(B:ah l=true):PId X (.Tuple f kk tp) (.Call (.Name "enumerate" p) [l] [] pos) (yN t):=by
 intro σ M ρ H R rs C q a_ s I;refine Call_ (cK I hg hm (by rfl':bootBuiltins "enumerate" = some (.type "enumerate")) (PyProof.Rows.callWith_type1 (thn (h σ M ρ H _ rs C q pos a_ s I) λus s1 E=>?_) (aO B) rfl));obtain⟨vs,F,c,z,⟨m,ds,M1,k,l1,g,b⟩⟩:=E;try dsimp only at b
 split at b
 ·rename_i J
  rw[RVs] at k;obtain⟨v,G,rfl,n,j⟩:=k;rw[RVs] at j;subst j;obtain⟨a,xs,rfl,sq,d⟩:=RV.tup_.1 n;obtain⟨u,rfl,o⟩:=z.one;cases o;obtain⟨_,_,_,hz⟩:=c.tuple sq;exact BZ c sq ⟨m,_,_,M1,g,trivial,Az sq d,by rw[fB,d.len];exact hz,b⟩
 ·rename_i a
  rw[RVs] at k;obtain⟨v,G,rfl,n,j⟩:=k;rw[RVs] at j;subst j;cases RV.ref_.1 n;obtain⟨u,rfl,o⟩:=z.one;cases o;split at b
  ·rename_i xs e
   obtain⟨A,e1,d⟩:=g a _ e;obtain⟨_,_,_,hz⟩:=c.list (SqL.of e1);refine xz c (SqL.of e1) ⟨m,_,_,M1,g,e,u1 λH' M' r g'=>?_,by rw[fB,d.len];exact hz,b⟩;obtain⟨w,e',y⟩:=r a _ g';exact⟨w,SqL.of e',y⟩
  ·rename_i xs e
   obtain⟨A,e1,d⟩:=g a _ e;have e1:SqL X.K F a A:=.inl e1;obtain⟨_,_,_,hz⟩:=c.list e1;refine xz c e1 ⟨m,_,_,M1,g,e,u1 λH' M' r g'=>?_,by rw[fB,d.len];exact hz,b⟩;obtain⟨w,e',y⟩:=r a _ g';exact⟨w,.inl e',y⟩
  ·exact Yh b
 ·exact Yh b
end
end DD
namespace DD
open PySem PySem.Spec PyProof.Rows L2
set_option genInjectivity false
set_option genSizeOf false
set_option genCtorIdx false
mutual
inductive E where
 |var (i:Nat) | int (i:Int) | str (x:Str) | bl (b:Bool) | non | glob (j:Nat) | ty (T:String)
 |bin (o:Operator) (a b:E) | cmp (o:CmpOp) (a b:E)
 |and (a b:E) | or (a b:E) | not (a:E) | ite (c:T) (a b:E)
 |fn (j:Nat) (es:Es) | bi (b:Bi) (es:Es) | mt (m:Mt) (o:E) (es:Es) | mt0 (m:Mt) (o:E)
 |ix (a b:E) | sl (a:E) (lo hi:Eo) | sl2 (a:E) (lo hi:Eo) | lst (es:Es) | tup (es:Es) | comp (n:Nat) (e:E) (t:Tgt) (i:I) (c:To)
 |neg (a:E) | dnew | fld (o:E) (f:Str) | mu (m:Str) (o:E) (es:Es) | mu0 (m:Str) (o:E) | lenSet (a:E) | lrg (es:Es) | inv (a:E) | bk (b:Bk) (es:Es)
inductive Ps where
 |nil | cons (k v:E) (r:Ps)
inductive Es where
 |nil | cons (e:E) (es:Es)
inductive Eo where
 |no | yes (e:E)
inductive To where
 |no | yes (t:T)
inductive T where
 |val (e:E) | cmp (o:CmpOp) (a b:E) | and (t u:T) | or (t u:T) | not (t:T)
inductive I where
 |seq (e:E) | rg1 (es:Es) | rg2 (es:Es) | enum (es:Es)
end
mutual
inductive S where
 |set (i:Nat) (e:E) | setC (i n:Nat) (e:E) (t:Tgt) (it:I) (c:To) | asg (g:Tgt) (e:E) | expr (e:E) | ret (e:E)
 |ite (t:T) (a b:Ss) | for (g:Tgt) (it:I) (b:Ss) | pass | never
 |putIx (o i e:E) | setF (o:E) (f:Str) (e:E) | while (t:T) (b:Ss)
inductive Ss where
 |nil | cons (s:S) (r:Ss)
end
set_option genInjectivity true
set_option genSizeOf true
set_option genCtorIdx true
structure Cn where
 F:List SpD
 G:List D
 O:OK0
 T:MT0
 I:IS0:=λ_ _=>none
def lq(c:WT)(f:WS):WS:=λE σ M=>∃W:Nat->DS->MH->Prop,(∃m,W m σ M)/\∀m σ M,W m σ M ->
 c σ M λb M1=>Bif b (∃N:DS->MH->Prop,(∀a M',N a M'->∃d,d<m/\W d a M')/\f { E with nx:=N,ct:=N,bk:=E.nx } σ M1) (E.nx σ M1)
section
variable (c:Cn)
mutual
noncomputable def wE:E->WE
 |.var i=>λσ M Q=>getS σ i λd=>Q d M
 |.int i=>λ_ M Q=>Q (.int i) M
 |.str i=>λ_ M Q=>Q (.str i) M
 |.bl i=>λ_ M Q=>Q (.bl i) M
 |.non=>λ_ M Q=>Q .non M
 |.glob j=>λ_ M Q=>Q (c.G.getD j .non) M
 |.ty n=>λ_ M Q=>Q (.ty n) M
 |.bin o a b=>wOp (dBin o) (wE a) (wE b)
 |.cmp o a b=>wOp (dCmp o) (wE a) (wE b)
 |.and a b=>yh (wE a) (wE b)
 |.or a b=>wOrV (wE a) (wE b)
 |.not a=>yi (wE a)
 |.ite t a b=>wIf (wT t) (wE a) (wE b)
 |.fn j es=>gU (c.F.getD j λ_ _ _=>False) (wEs es)
 |.bi b es=>gU (dBi b) (wEs es)
 |.lenSet a=>rV (wE a)
 |.bk b es=>gU (dBk b) (wEs es)
 |.lrg es=>wLrg (wEs es)
 |.mt m o es=>wMt (mtRc m) (dMt m) (wE o) (wEs es)
 |.mt0 m o=>wMt (mtRc m) (dMt m) (wE o) wNil
 |.ix a b=>wOp dIx (wE a) (wE b)
 |.sl a lo hi=>wSl (wE a) (wEo lo) (wEo hi)
 |.sl2 a lo hi=>wSl2 (wE a) (wEo lo) (wEo hi)
 |.lst es=>wLst (wEs es)
 |.tup es=>wTup (wEs es)
 |.comp n e t i d=>yu n (wI i) t (wTo d) (wE e)
 |.neg a=>wNeg (wE a)
 |.inv a=>wInv (wE a)
 |.dnew=>λ_ M Q=>∀p,M p=none->Q (.ref p) (updM M p (.dic []))
 |.fld o f=>wFld c.O f (wE o)
 |.mu m o es=>qw c.T m (wE o) (wEs es)
 |.mu0 m o=>qw c.T m (wE o) wNil
noncomputable def wP:Ps->List (WE×WE)
 |.nil=>[]
 |.cons k v r=>(wE k,wE v)::wP r
noncomputable def wEs:Es->WA
 |.nil=>wNil
 |.cons e es=>yj (wE e) (wEs es)
noncomputable def wEo:Eo->WO
 |.no=>λ_ M Q=>Q none M
 |.yes e=>λσ M Q=>wE e σ M λx M1=>intD x λi=>Q (some i) M1
noncomputable def wTo:To->WT
 |.no=>λ_ M Q=>Q true M
 |.yes t=>wT t
noncomputable def wT:T->WT
 |.val e=>wTru (wE e)
 |.cmp o a b=>yg (wOp (dCmp o) (wE a) (wE b))
 |.and t u=>wAnd (wT t) (wT u)
 |.or t u=>wOr (wT t) (wT u)
 |.not t=>wNot (wT t)
noncomputable def wI:I->WI
 |.seq e=>yn (wE e)
 |.rg1 es=>yo (wEs es)
 |.rg2 es=>yp (wEs es)
 |.enum es=>yN (wEs es)
end
mutual
noncomputable def wS:S->WS
 |.set i e=>wSet i (wE c e)
 |.setC i n e t it d=>yv i n (wI c it) t (wTo c d) (wE c e)
 |.asg g e=>wAsg (wE c e) g
 |.expr e=>yk (wE c e)
 |.ret e=>wRet (wE c e)
 |.ite t a b=>wIfS (wT c t) (wSs a) (wSs b)
 |.for g it b=>wFor (wI c it) g (wSs b)
 |.pass=>qe
 |.never=>λ_ _ _=>False
 |.putIx o i e=>uM (wE c e) (wE c o) (wE c i)
 |.setF o f e=>yA c.O f (wE c o) (wE c e)
 |.while t b=>lq (wT c t) (wSs b)
noncomputable def wSs:Ss->WS
 |.nil=>qe
 |.cons s r=>wSeq (wS s) (wSs r)
end
end
structure Gam where
 N:List Str
 sc:Scope
 all:Bool
 glob:List Str
 blt:List Str
 fns:List Str
def yO:Option NameKind->Bool
 |some .local=>true
 |some .cell=>true
 |some .free=>true
 |_=>false
def yP:Option NameKind->Bool
 |some .local=>true
 |some .cell=>true
 |_=>false
def AA(Γ:Gam)(i:Nat)(x:Str):Bool:=decide (Γ.N[i]?=some x)&&yO (Γ.sc.names.lookup x) && !(x==("__debug__" : Str)) && !(x==("__classdict__" : Str))
def nr(Γ:Gam)(i:Nat)(x:Str):Bool:=decide (Γ.N[i]?=some x)&&yP (Γ.sc.names.lookup x)&&(Γ.all||decide (Γ.sc.names.lookup x=some .local))
def cf(Γ:Gam)(x:Str):Bool:=decide (Γ.sc.names.lookup x=some .globalImplicit) && !(x==("__debug__" : Str))
def qG:List String:=["bool","int","str","tuple","list","dict"]
def ownOf(sc:Scope):List Str:=sc.names.filterMap λp=>if p.2=.local/\p.1≠(".0" : Str) then some p.1 else none
def n2Of(Γ:Gam)(sc:Scope):List Str:=Γ.N.map λy=>if sc.names.lookup y=some .local then "" else y
def lr(Γ:Gam)(sc:Scope):Bool:=decide (sc.kind=.function)&&sc.names.all (λy=>decide (y.2≠.cell))&&sc.names.all (λy=>decide (y.2=.local->sc.names.lookup y.1=some .local)) &&
 sc.names.all (λy=>decide (y.2=.free->(Γ.sc.names.lookup y.1=some .cell\/Γ.sc.names.lookup y.1=some .free)))&&((n2Of Γ sc).zip Γ.N).all (λp=>decide ((sc.names.lookup p.1=some .free->p.1=p.2)/\sc.names.lookup p.1≠some .local))&&decide ((n2Of Γ sc++ownOf sc).Nodup)
def relS(sc HQ:Scope):Scope:={ sc with names:=sc.names.map λ(p:Str×NameKind)=>if(p.2==NameKind.free&&HQ.kind==.function&&HQ.names.lookup p.1==some .cell)=true then(p.1,NameKind.cell) else(p.1,p.2) }
def inComp(Γ:Gam)(sc:Scope):Gam:={ Γ with N:=n2Of Γ sc++ownOf sc,sc:=relS sc Γ.sc,all:=false }
def qH(Γ:Gam):List Nat->List Expr->Bool
 |[],[]=>true
 |i::is,.Name x _::es=>nr Γ i x&&qH Γ is es
 |_,_=>false
def ow(Γ:Gam):Tgt->Expr->Bool
 |.nm i,.Name x _=>nr Γ i x
 |.tp is,.Tuple es _ _=>qH Γ is es
 |_,_=>false
def AB:Expr->Bool
 |.UnaryOp .Not _ _=>false
 |.BoolOp _ _ _=>false
 |.IfExp _ _ _ _=>false
 |.Compare _ _ _ _=>false
 |_=>true
def jd:Expr->Option (Str×List Expr×List Keyword)
 |.Call f es ks _=>match f with
  |.Name x _=>some (x,es,ks)
  |_=>none
 |_=>none
def qI(e:Expr):Option (Str×Str×List Expr):=match jd e with
 |some (x,[c],[])=>match jd c with
  |some (y,es,[])=>some (x,y,es)
  |_=>none
 |_=>none
def isTup:Expr->Bool
 |.Tuple _ _ _=>true
 |_=>false
theorem nos{b:Type}{a:b}{P:Prop}(h:none=some a):P:=by cases h
theorem ff{P:Prop}(h:false=true):P:=by cases h
theorem dc{e:Expr}{x:Str}{es:Zl}{ks:List Keyword}(h:jd e=some (x,es,ks)):∃p q,e=.Call (.Name x p) es ks q:=by
 cases e with
 |Call f es ks q=>
  cases f with
  |Name x p=>cases h;exact⟨p,q,rfl⟩
  |_=>exact nos h
 |_=>exact nos h
theorem nt{e:Expr}{x y:Str}{es:Zl}(h:qI e=some (x,y,es)):∃p q a b,e=.Call (.Name x p) [.Call (.Name y a) es [] b] [] q:=by
 unfold qI at h;split at h
 ·rename_i c
  split at h
  ·rename_i h2
   cases h;obtain⟨p,q,rfl⟩:=dc c;obtain⟨a,b,rfl⟩:=dc h2;exact⟨p,q,a,b,rfl⟩
  ·cases h
 ·cases h
theorem Ca{e:Expr}(h:isTup e=true):∃es k p,e=.Tuple es k p:=by
 cases e with
 |Tuple es k p=>exact⟨es,k,p,rfl⟩
 |_=>exact ff h
mutual
noncomputable def chkE:Gam->E->Expr->Bool
 |Γ,.var i,e=>match e with
  |.Name x _=>AA Γ i x
  |_=>false
 |_,.int i,e=>match e with
  |.Constant (.int j) _ _=>decide (i=j)
  |_=>false
 |_,.str i,e=>match e with
  |.Constant (.str j) _ _=>decide (i=j)
  |_=>false
 |_,.bl i,e=>match e with
  |.Constant (.bool j) _ _=>decide (i=j)
  |_=>false
 |_,.non,e=>match e with
  |.Constant .none _ _=>true
  |_=>false
 |Γ,.glob j,e=>match e with
  |.Name x _=>cf Γ x&&decide (Γ.glob[j]?=some x)
  |_=>false
 |Γ,.ty n,e=>match e with
  |.Name x _=>cf Γ x&&Γ.blt.contains x&&decide (x=Str.ofString n)&&qG.contains n
  |_=>false
 |Γ,.bin o a b,e=>match e with
  |.BinOp l op r _=>decide (o=op)&&chkE Γ a l&&chkE Γ b r
  |_=>false
 |Γ,.cmp o a b,e=>match e with
  |.Compare l [op] [r] _=>decide (o=op)&&chkE Γ a l&&chkE Γ b r && !(behindInMarks op r)
  |_=>false
 |Γ,.and a b,e=>match e with
  |.BoolOp .And [l,r] _=>chkE Γ a l&&chkE Γ b r
  |.BoolOp .And (l::r::q::rest) pos=>chkE Γ a l&&chkE Γ b (.BoolOp .And (r::q::rest) pos)
  |_=>false
 |Γ,.or a b,e=>match e with
  |.BoolOp .Or [l,r] _=>chkE Γ a l&&chkE Γ b r
  |.BoolOp .Or (l::r::q::rest) pos=>chkE Γ a l&&chkE Γ b (.BoolOp .Or (r::q::rest) pos)
  |_=>false
 |Γ,.not a,e=>match e with
  |.UnaryOp .Not l _=>chkE Γ a l
  |_=>false
 |Γ,.ite c a b,e=>match e with
  |.IfExp t l r _=>chkT Γ c t&&chkE Γ a l&&chkE Γ b r
  |_=>false
 |Γ,.fn j es,e=>match jd e with
  |some (x,a::as,[])=>cf Γ x&&decide (Γ.fns[j]?=some x)&&ah a&&as.all ah&&cg Γ es (a::as)
  |_=>false
 |Γ,.bi b es,e=>match jd e with
  |some (x,a::as,[])=>cf Γ x&&Γ.blt.contains x&&decide (x=qr b)&&ah a&&as.all ah&&cg Γ es (a::as)
  |_=>false
 |Γ,.bk b es,e=>match jd e with
  |some (x,a::as,[])=>cf Γ x&&Γ.blt.contains x&&decide (x=qF b)&&ah a&&as.all ah&&cg Γ es (a::as)
  |_=>false
 |Γ,.lenSet a,e=>match qI e with
  |some (x,y,[l])=>cf Γ x&&Γ.blt.contains x&&decide (x=("len" : Str))&&cf Γ y&&Γ.blt.contains y&&decide (y=("set" : Str))&&ah l&&chkE Γ a l
  |_=>false
 |Γ,.lrg es,e=>match qI e with
  |some (x,y,[l])=>cf Γ x&&Γ.blt.contains x&&decide (x=("list" : Str))&&cf Γ y&&Γ.blt.contains y&&decide (y=("range" : Str))&&ah l&&cg Γ es [l]
  |some (x,y,[l,r])=>cf Γ x&&Γ.blt.contains x&&decide (x=("list" : Str))&&cf Γ y&&Γ.blt.contains y&&decide (y=("range" : Str))&&ah l&&ah r&&cg Γ es [l,r]
  |_=>false
 |Γ,.mt m o es,e=>match e with
  |.Call (.Attribute l x r_) (a::as) [] pos=>decide (x=qv m)&&chkE Γ o l&&bq l&&ah a&&as.all ah&&decide (as.length<20)&&(r_.endLine==pos.line)&&cg Γ es (a::as)
  |_=>false
 |Γ,.mt0 m o,e=>match e with
  |.Call (.Attribute l x r_) [] [] pos=>decide (x=qv m)&&chkE Γ o l&&bq l&&(r_.endLine==pos.line)
  |_=>false
 |Γ,.ix a b,e=>match e with
  |.Subscript l r _=>chkE Γ a l&&chkE Γ b r&&jL r
  |_=>false
 |Γ,.sl a lo hi,e=>match e with
  |.Subscript l (.Slice x y none _) _=>chkE Γ a l&&l7 Γ lo x&&l7 Γ hi y
  |_=>false
 |Γ,.sl2 a lo hi,e=>match e with
  |.Subscript l (.Slice x y (some (.Constant (.int k) _ _)) _) _=>chkE Γ a l&&l7 Γ lo x&&l7 Γ hi y&&decide (k=2)
  |_=>false
 |Γ,.lst es,e=>match e with
  |.List as _=>cg Γ es as&&decide (as.length<=1000)
  |_=>false
 |Γ,.tup es,e=>match e with
  |.Tuple as _ _=>cg Γ es as&&decide (as.length<=1000)
  |_=>false
 |Γ,.comp n e t i c,ex=>match ex with
  |.ListComp Hj [⟨tg,it,ifs,ia⟩] sc _=>lr Γ sc&&decide (n=(ownOf sc).length)&&decide (ia=0)&&chkI Γ i tg it&&jJ it&&ow (inComp Γ sc) t tg&&qJ (inComp Γ sc) c ifs&&chkE (inComp Γ sc) e Hj
  |_=>false
 |Γ,.neg a,e=>match e with
  |.UnaryOp .USub l _=>chkE Γ a l
  |_=>false
 |Γ,.inv a,e=>match e with
  |.UnaryOp .Invert l _=>chkE Γ a l
  |_=>false
 |_,.dnew,e=>match e with
  |.Dict [] [] _=>true
  |_=>false
 |Γ,.fld o f,e=>match e with
  |.Attribute l x _=>chkE Γ o l&&decide (x=f)&&bq l
  |_=>false
 |Γ,.mu m o es,e=>match e with
  |.Call (.Attribute l x r_) (a::as) [] pos=>decide (x=m)&&chkE Γ o l&&bq l&&ah a&&as.all ah&&decide (as.length<19)&&(r_.endLine==pos.line)&&cg Γ es (a::as)
  |_=>false
 |Γ,.mu0 m o,e=>match e with
  |.Call (.Attribute l x r_) [] [] pos=>decide (x=m)&&chkE Γ o l&&bq l&&(r_.endLine==pos.line)
  |_=>false
noncomputable def chkP:Gam->Ps->List (Option Expr)->List Expr->Bool
 |_,.nil,ks,vs=>match ks,vs with
  |[],[]=>true
  |_,_=>false
 |Γ,.cons k v r,ks,vs=>match ks,vs with
  |some x::ks,y::vs=>chkE Γ k x&&chkE Γ v y&&chkP Γ r ks vs
  |_,_=>false
noncomputable def cg:Gam->Es->List Expr->Bool
 |_,.nil,as=>match as with
  |[]=>true
  |_=>false
 |Γ,.cons e es,as=>match as with
  |a::as=>chkE Γ e a&&ah a&&cg Γ es as
  |_=>false
noncomputable def l7:Gam->Eo->Option Expr->Bool
 |_,.no,a=>match a with
  |none=>true
  |_=>false
 |Γ,.yes e,a=>match a with
  |some a=>chkE Γ e a
  |_=>false
noncomputable def qJ:Gam->To->List Expr->Bool
 |_,.no,as=>match as with
  |[]=>true
  |_=>false
 |Γ,.yes t,as=>match as with
  |[a]=>chkT Γ t a
  |_=>false
noncomputable def chkT:Gam->T->Expr->Bool
 |Γ,.val e,ex=>chkE Γ e ex&&AB ex
 |Γ,.cmp o a b,e=>match e with
  |.Compare l [op] [r] _=>decide (o=op)&&chkE Γ a l&&chkE Γ b r && !(behindInMarks op r)
  |_=>false
 |Γ,.and a b,e=>match e with
  |.BoolOp .And [l,r] _=>chkT Γ a l&&chkT Γ b r
  |.BoolOp .And (l::r::q::rest) pos=>chkT Γ a l&&chkT Γ b (.BoolOp .And (r::q::rest) pos)
  |_=>false
 |Γ,.or a b,e=>match e with
  |.BoolOp .Or [l,r] _=>chkT Γ a l&&chkT Γ b r
  |.BoolOp .Or (l::r::q::rest) pos=>chkT Γ a l&&chkT Γ b (.BoolOp .Or (r::q::rest) pos)
  |_=>false
 |Γ,.not a,e=>match e with
  |.UnaryOp .Not l _=>chkT Γ a l
  |_=>false
noncomputable def chkI:Gam->I->Expr->Expr->Bool
 |Γ,.seq e,_,ex=>chkE Γ e ex
 |Γ,.enum es,tg,e=>match isTup tg,jd e with
  |true,some (x,[a],[])=>cf Γ x&&Γ.blt.contains x&&decide (x=("enumerate" : Str))&&ah a&&cg Γ es [a]
  |_,_=>false
 |Γ,.rg1 es,_,e=>match jd e with
  |some (x,[a],[])=>cf Γ x&&Γ.blt.contains x&&decide (x=("range" : Str))&&ah a&&cg Γ es [a]
  |_=>false
 |Γ,.rg2 es,_,e=>match jd e with
  |some (x,[a,b],[])=>cf Γ x&&Γ.blt.contains x&&decide (x=("range" : Str))&&ah a&&ah b&&cg Γ es [a,b]
  |_=>false
end
def xB:Expr->Bool
 |.Tuple _ _ _=>false
 |_=>true
mutual
noncomputable def chkS:Gam->S->Stmt->Bool
 |Γ,.set i e,st=>match st with
  |.Assign [.Name x _] v _=>nr Γ i x&&(cO v||decide (Γ.sc.names.lookup x=some .cell))&&chkE Γ e v
  |_=>false
 |Γ,.setC i n e t j c,st=>match st with
  |.Assign [.Name y py] (.ListComp Hj [⟨tg,it,ifs,ia⟩] sc pos) II=>decide (Γ.N[i]?=some y)&&decide (Γ.sc.names.lookup y=some .local)&&(py.line==pos.line) && !(sc.names.any λ(p:Str×NameKind)=>p.1==y&&(p.2==.local || p.2==.cell)) &&
   lr Γ sc&&decide (n=(ownOf sc).length)&&decide (ia=0)&&chkI Γ j tg it&&jJ it&&ow (inComp Γ sc) t tg&&qJ (inComp Γ sc) c ifs&&chkE (inComp Γ sc) e Hj
  |_=>false
 |Γ,.asg g e,st=>match st with
  |.Assign [.Tuple es k p] v _=>ow Γ g (.Tuple es k p)&&cO v&&xB v&&chkE Γ e v
  |_=>false
 |Γ,.expr e,st=>match st with
  |.Expr v _=>cO v&&chkE Γ e v
  |_=>false
 |Γ,.ret e,st=>match st with
  |.Return (some v) _=>chkE Γ e v
  |_=>false
 |Γ,.ite t a b,st=>match st with
  |.If c x y _=>chkT Γ t c&&bK Γ a x&&bK Γ b y
  |_=>false
 |Γ,.for g j b,st=>match st with
  |.For tg it body [] _=>ow Γ g tg&&chkI Γ j tg it&&jJ it&&bK Γ b body
  |_=>false
 |_,.pass,st=>match st with
  |.Pass _=>true
  |_=>false
 |_,.never,_=>true
 |Γ,.putIx o i e,st=>match st with
  |.Assign [.Subscript l r _] v _=>chkE Γ o l&&chkE Γ i r&&chkE Γ e v&&cO v&&jL r
  |_=>false
 |Γ,.setF o f e,st=>match st with
  |.Assign [.Attribute l x _] v _=>chkE Γ o l&&decide (x=f)&&chkE Γ e v
  |_=>false
 |Γ,.while t b,st=>match st with
  |.While c body [] _=>chkT Γ t c&&bK Γ b body
  |_=>false
noncomputable def bK:Gam->Ss->List Stmt->Bool
 |_,.nil,l=>match l with
  |[]=>true
  |_=>false
 |Γ,.cons s r,l=>match l with
  |st::Ii=>chkS Γ s st&&bK Γ r Ii
  |_=>false
end
end DD
namespace DD
open PySem PySem.Spec PyProof.Rows L2
def cz(P:ZS)(w:World)(K:Za)(mg:Zi)(base:Heap)(k:Nat)(x:Str)(sp:SpD):Prop:=FnD P w K mg base k x sp \/ ∃k',k=k'+1/\MkD P w K mg base k' x sp
structure GOk (Γ:Gam) (c:Cn) (X:Cx):Prop where
 N:X.N=Γ.N
 sc:X.env.scope=Γ.sc
 kind:Γ.sc.kind=.function
 nd:Γ.N.Nodup
 calm:X.calm=true
 fn:Γ.all=true->∀x,X.fn x=true
 own:PassesOwn (model X.prog X.w) X.A X.env X.xe
 glob:∀(j:Nat) x,Γ.glob[j]?=some x->mZ X.K X.mg x (c.G.getD j .non)
 blt:∀x,Γ.blt.contains x=true->X.mg x=none
 fns:∀(j:Nat) x,Γ.fns[j]?=some x->∃k,cz X.prog X.w X.K X.mg X.base k x (c.F.getD j λ_ _ _=>False)/\Room k X.A
 flds:∀C f,c.O C f->Cls X.K C/\bW X.K C f
 mts:yC X c.T
 isi:∀C d b,c.I C d=some b->IsiOk X.K C d b
 hu:X.A.units+40<cLine
section
variable {Γ:Gam}{X:Cx}{e:Expr}{pos:Pos}{cn:Cn}
theorem Gk(sc:Scope)(env:Env):relabel sc env=relS sc env.scope:=rfl
theorem GOk.comp{sc:Scope}{C:Addr}{s:Shared}{H:Hp}{ex:Zm}{pn:Zg}(g:GOk Γ cn X)(h:lr Γ sc=true):GOk (inComp Γ sc) cn (cxC X sc (ownOf sc) (n2Of Γ sc) C s H ex pn):=by
 unfold lr at h;simp only[XB,XU] at h;obtain⟨⟨⟨⟨⟨a,h2⟩,c⟩,d⟩,f⟩,b⟩:=h;refine⟨rfl,?_,a,b,g.calm,(λz=>nomatch z),PassesOwn.never,g.glob,g.blt,g.fns,g.flds,g.mts,g.isi,g.hu⟩;show relabel sc X.env=relS sc Γ.sc;rw[Gk,g.sc]
theorem GOk.cscope{sc:Scope}(g:GOk Γ cn X)(h:lr Γ sc=true):CompScope Γ.sc sc X.N (ownOf sc) (n2Of Γ sc):=by
 unfold lr at h;simp only[XB,XU] at h;obtain⟨⟨⟨⟨⟨d,h2⟩,a⟩,b⟩,c⟩,f⟩:=h;rw[XQ] at h2 a b c;refine⟨d,λy hy=>XS (h2 y hy),λy hy=>XS (a y hy),λy hy=>XS (b y hy),?_,λp hp=>?_⟩
 ·rw[g.N];unfold n2Of;rw[ZG]
 ·rw[g.N] at hp;exact XS (c p hp)
theorem Cb{sc:Scope}{x:Str}(h:yO (sc.names.lookup x)=true):Vis sc x:=by
 unfold yO at h;unfold Vis;split at h
 ·exact .inl (by assumption)
 ·exact .inr (.inl (by assumption))
 ·exact .inr (.inr (by assumption))
 ·exact ff h
theorem Cc{sc:Scope}{x:Str}(h:yP (sc.names.lookup x)=true):L2.Loc sc x:=by
 unfold yP at h;unfold L2.Loc;split at h
 ·exact .inl (by assumption)
 ·exact .inr (by assumption)
 ·exact ff h
theorem yQ{i:Nat}{x:Str}(g:GOk Γ cn X)(h:nr Γ i x=true):X.N.Nodup/\X.N[i]?=some x/\L2.Loc X.env.scope x/\(X.fn x=true\/X.env.scope.names.lookup x=some .local):=by
 unfold nr at h;simp only[XB,Bool.or_eq_true,XU] at h;obtain⟨⟨a,h2⟩,b⟩:=h;rw[g.N,g.sc];exact⟨g.nd,a,Cc h2,b.imp (λz=>g.fn z x) id⟩
theorem s_gl{x:Str}(g:GOk Γ cn X)(h:cf Γ x=true):Gl X x/\(x==("__debug__" : Str))=false:=by
 unfold cf at h;simp only[XB,XU,Bool.not_eq_true'] at h;refine⟨?_,h.2⟩;show X.env.scope.names.lookup x=_;rw[g.sc];exact h.1
theorem C0(g:GOk Γ cn X):∀{is:Zo}{es:Zl},qH Γ is es=true->PGs X es (gsOf is)/\(assignEach es X.env).length=is.length/\(assignEach es X.env).findIdx? (·.1)=none
 |[],[],_=>⟨Dg,rfl,rfl⟩
 |i::is,.Name x p::es,h=>by
  unfold qH at h;rw[XB] at h;obtain⟨f,h2,j⟩:=C0 g h.2;obtain⟨a,b,c,d⟩:=yQ g h.1;refine⟨A8 (wU a b c d) f rfl,?_,?_⟩
  ·show(assignEach es X.env).length+1=is.length+1;rw[h2]
  ·show List.findIdx? (·.1) ((false,assign (.Name x p) X.env)::assignEach es X.env)=none
   rw[List.findIdx?_cons];simp[j]
 |[],_::_,h=>ff h
 |_::_,[],h=>ff h
 |_::_,.BoolOp .. :: _,h=>ff h
 |_::_,.NamedExpr .. :: _,h=>ff h
 |_::_,.BinOp .. :: _,h=>ff h
 |_::_,.UnaryOp .. :: _,h=>ff h
 |_::_,.Lambda .. :: _,h=>ff h
 |_::_,.IfExp .. :: _,h=>ff h
 |_::_,.Dict .. :: _,h=>ff h
 |_::_,.Set .. :: _,h=>ff h
 |_::_,.ListComp .. :: _,h=>ff h
 |_::_,.SetComp .. :: _,h=>ff h
 |_::_,.DictComp .. :: _,h=>ff h
 |_::_,.GeneratorExp .. :: _,h=>ff h
 |_::_,.Await .. :: _,h=>ff h
 |_::_,.Yield .. :: _,h=>ff h
 |_::_,.YieldFrom .. :: _,h=>ff h
 |_::_,.Compare .. :: _,h=>ff h
 |_::_,.Call .. :: _,h=>ff h
 |_::_,.FormattedValue .. :: _,h=>ff h
 |_::_,.JoinedStr .. :: _,h=>ff h
 |_::_,.Constant .. :: _,h=>ff h
 |_::_,.Attribute .. :: _,h=>ff h
 |_::_,.Subscript .. :: _,h=>ff h
 |_::_,.Starred .. :: _,h=>ff h
 |_::_,.List .. :: _,h=>ff h
 |_::_,.Tuple .. :: _,h=>ff h
 |_::_,.Slice .. :: _,h=>ff h
theorem s_tg{t:Tgt}{tg:Expr}(g:GOk Γ cn X)(h:ow Γ t tg=true):PG X tg (gOf X.K t):=by
 unfold ow at h;split at h
 ·obtain⟨a,b,c,d⟩:=yQ g h
  exact wU a b c d
 ·obtain⟨f,h2,j⟩:=C0 g h
  exact FM g.calm f h2 j
 ·exact ff h
theorem AC{env:Env}(h:AB e=true):∀b,isTrue e env b=(do let v ←b;standAt e.pos;holding [v] (truthy v)):=by
 intro w;cases e with
 |UnaryOp op a p=>cases op<;>first | rfl | exact absurd (show false=true from h) YI
 |BoolOp _ _ _=>exact absurd (show false=true from h) YI
 |IfExp _ _ _ _=>exact absurd (show false=true from h) YI
 |Compare _ _ _ _=>exact absurd (show false=true from h) YI
 |_=>rfl
theorem Ex:∀n∈qG,bootBuiltins (Str.ofString n)=some (.type n):=by rfl'
theorem Ey:∀n∈qG,Str.ofString n≠("__name__" : Str):=by rfl'
theorem qK{t:WT}(h:PTd X e t)(hp:(∃vs p,e=.BoolOp .And vs p) \/ ∃vs p,e=.BoolOp .Or vs p):PWd X e t:=by
 rcases hp with⟨vs,p,rfl⟩ | ⟨vs,p,rfl⟩
 ·intro σ M ρ H Q rs b q a a_ s I
  exact h σ M ρ H Q rs b q a_ s I
 ·intro σ M ρ H Q rs b q a a_ s I
  exact h σ M ρ H Q rs b q a_ s I
mutual
theorem sE:∀(ir:E){Γ:Gam}{cn:Cn}{X:Cx}{e:Expr},GOk Γ cn X->chkE Γ ir e=true->PEd X e (wE cn ir)
 |.var i,Γ,cn,X,e,g,h=>by
  unfold chkE at h;split at h
  ·unfold AA at h
   simp only[XB,XU,Bool.not_eq_true'] at h;rw[wE];exact DH (by rw[g.N];exact h.1.1.1) (by rw[g.sc];exact Cb h.1.1.2) h.1.2 h.2
  ·exact ff h
 |.int i,Γ,cn,X,e,g,h=>by
  unfold chkE at h;split at h
  ·cases XS h;rw[wE];exact DI
  ·exact ff h
 |.str i,Γ,cn,X,e,g,h=>by
  unfold chkE at h;split at h
  ·cases XS h;rw[wE];exact DJ
  ·exact ff h
 |.bl i,Γ,cn,X,e,g,h=>by
  unfold chkE at h;split at h
  ·cases XS h;rw[wE];exact FH
  ·exact ff h
 |.non,Γ,cn,X,e,g,h=>by
  unfold chkE at h;split at h
  ·rw[wE];exact DL
  ·exact ff h
 |.glob j,Γ,cn,X,e,g,h=>by
  unfold chkE at h;split at h
  ·rw[XB] at h
   obtain⟨h1,h2⟩:=s_gl g h.1;rw[wE];exact Bt h1 (g.glob j _ (XS h.2)) h2
  ·exact ff h
 |.ty n,Γ,cn,X,e,g,h=>by
  unfold chkE at h;split at h
  ·simp only[XB,XU] at h
   obtain⟨⟨⟨h1,h2⟩,rfl⟩,h4⟩:=h;obtain⟨h5,h6⟩:=s_gl g h1;have h4:n∈qG:=by simpa using h4
   rw[wE];exact nU (Db (v:=.ty n) h5 (g.blt _ h2) (Ex n h4) rfl (Ey n h4) h6) λ_=>RV.ty_.2 rfl
  ·exact ff h
 |.bin o a b,Γ,cn,X,e,g,h=>by
  unfold chkE at h;split at h
  ·simp only[XB,XU] at h
   obtain⟨⟨rfl,h2⟩,h3⟩:=h;rw[wE];exact DM (Ee o) (sE a g h2) (sE b g h3)
  ·exact ff h
 |.cmp o a b,Γ,cn,X,e,g,h=>by
  unfold chkE at h;split at h
  ·simp only[XB,XU,Bool.not_eq_true'] at h
   obtain⟨⟨⟨rfl,h2⟩,h3⟩,h4⟩:=h;rw[wE];exact DN (xn g.hu o) (sE a g h2) (sE b g h3) h4
  ·exact ff h
 |.and a b,Γ,cn,X,e,g,h=>by
  unfold chkE at h;split at h
  ·rw[XB] at h
   rw[wE];exact xg (sE a g h.1) (xf (sE b g h.2))
  ·rw[XB] at h
   rw[wE];exact xg (sE a g h.1) (sE b g h.2)
  ·exact ff h
 |.or a b,Γ,cn,X,e,g,h=>by
  unfold chkE at h;split at h
  ·rw[XB] at h
   rw[wE];exact zQ (sE a g h.1) (xf (sE b g h.2))
  ·rw[XB] at h
   rw[wE];exact zQ (sE a g h.1) (sE b g h.2)
  ·exact ff h
 |.not a,Γ,cn,X,e,g,h=>by
  unfold chkE at h;split at h
  ·rw[wE];exact DR (sE a g h)
  ·exact ff h
 |.ite c a b,Γ,cn,X,e,g,h=>by
  unfold chkE at h;split at h
  ·simp only[XB] at h
   rw[wE];exact zR (sT c g h.1.1) (sE a g h.1.2) (sE b g h.2)
  ·exact ff h
 |.fn j es,Γ,cn,X,e,g,h=>by
  unfold chkE at h;split at h
  ·rename_i q_
   obtain⟨_,_,rfl⟩:=dc q_;simp only[XB,XU] at h;obtain⟨⟨⟨⟨h1,h2⟩,h3⟩,h4⟩,h5⟩:=h;obtain⟨h6,h7⟩:=s_gl g h1;obtain⟨k,Fj,hr⟩:=g.fns j _ h2;rw[wE];rcases Fj with Fj | ⟨k',rfl,Fj⟩
   ·exact DY Fj hr h6 h7 h3 h4 (sEs es g h5)
   ·exact BN Fj hr h6 h7 h3 h4 (sEs es g h5)
  ·exact ff h
 |.bi b es,Γ,cn,X,e,g,h=>by
  unfold chkE at h;split at h
  ·rename_i q_
   obtain⟨_,_,rfl⟩:=dc q_;simp only[XB,XU] at h;obtain⟨⟨⟨⟨⟨h1,h2⟩,rfl⟩,h3⟩,h4⟩,h5⟩:=h;obtain⟨h6,h7⟩:=s_gl g h1;rw[wE];exact F3 b g.calm h6 (g.blt _ h2) h3 h4 (sEs es g h5)
  ·exact ff h
 |.bk b es,Γ,cn,X,e,g,h=>by
  unfold chkE at h;split at h
  ·rename_i q_
   obtain⟨_,_,rfl⟩:=dc q_;simp only[XB,XU] at h;obtain⟨⟨⟨⟨⟨h1,h2⟩,rfl⟩,h3⟩,h4⟩,h5⟩:=h;obtain⟨h6,h7⟩:=s_gl g h1;rw[wE];exact Gi b g.calm h6 (g.blt _ h2) h3 h4 (sEs es g h5)
  ·exact ff h
 |.lenSet a,Γ,cn,X,e,g,h=>by
  unfold chkE at h;split at h
  ·rename_i q_
   obtain⟨_,_,_,_,rfl⟩:=nt q_;simp only[XB,XU] at h;obtain⟨⟨⟨⟨⟨⟨⟨h1,h2⟩,rfl⟩,h3⟩,h4⟩,rfl⟩,h5⟩,h6⟩:=h;rw[wE];exact yE g.calm (s_gl g h1).1 (g.blt _ h2) (s_gl g h3).1 (g.blt _ h4) (sE a g h6) h5
  ·exact ff h
 |.lrg es,Γ,cn,X,e,g,h=>by
  unfold chkE at h;split at h
  ·rename_i q_
   obtain⟨_,_,_,_,rfl⟩:=nt q_;simp only[XB,XU] at h;obtain⟨⟨⟨⟨⟨⟨⟨h1,h2⟩,rfl⟩,h3⟩,h4⟩,rfl⟩,h5⟩,h6⟩:=h;rw[wE];exact BU g.calm (s_gl g h1).1 (g.blt _ h2) (s_gl g h3).1 (g.blt _ h4) (sEs es g h6) h5
  ·rename_i q_
   obtain⟨_,_,_,_,rfl⟩:=nt q_;simp only[XB,XU] at h;obtain⟨⟨⟨⟨⟨⟨⟨⟨h1,h2⟩,rfl⟩,h3⟩,h4⟩,rfl⟩,h5⟩,Sn⟩,h6⟩:=h;rw[wE];exact BV g.calm (s_gl g h1).1 (g.blt _ h2) (s_gl g h3).1 (g.blt _ h4) (sEs es g h6) h5 Sn
  ·exact ff h
 |.mt m o es,Γ,cn,X,e,g,h=>by
  unfold chkE at h;split at h
  ·simp only[XB,XU] at h
   obtain⟨⟨⟨⟨⟨⟨⟨rfl,h1⟩,h2⟩,h3⟩,h4⟩,h5⟩,h6⟩,h7⟩:=h;rw[wE];exact Ek g.hu m (sE o g h1) (sEs es g h7) h2 h3 h4 h5 h6
  ·exact ff h
 |.mt0 m o,Γ,cn,X,e,g,h=>by
  unfold chkE at h;split at h
  ·simp only[XB,XU] at h
   obtain⟨⟨⟨rfl,h1⟩,h2⟩,h3⟩:=h;rw[wE];exact BJ g.hu m (sE o g h1) h2 h3
  ·exact ff h
 |.ix a b,Γ,cn,X,e,g,h=>by
  unfold chkE at h;split at h
  ·simp only[XB] at h
   rw[wE];exact FV g.hu (sE a g h.1.1) (sE b g h.1.2) h.2
  ·exact ff h
 |.sl a lo hi,Γ,cn,X,e,g,h=>by
  unfold chkE at h;split at h
  ·simp only[XB] at h
   rw[wE];exact FX (sE a g h.1.1) (sEo lo g h.1.2) (sEo hi g h.2)
  ·exact ff h
 |.sl2 a lo hi,Γ,cn,X,e,g,h=>by
  unfold chkE at h;split at h
  ·simp only[XB,XU] at h
   obtain⟨h,rfl⟩:=h;rw[wE];exact Er (sE a g h.1.1) (sEo lo g h.1.2) (sEo hi g h.2)
  ·cases h
 |.lst es,Γ,cn,X,e,g,h=>by
  unfold chkE at h;split at h
  ·simp only[XB,XU] at h
   rw[wE];exact DX (sEs es g h.1) h.2
  ·exact ff h
 |.tup es,Γ,cn,X,e,g,h=>by
  unfold chkE at h;split at h
  ·simp only[XB,XU] at h
   rw[wE];exact DW (sEs es g h.1) h.2
  ·exact ff h
 |.comp n el t i c,Γ,cn,X,e,g,h=>by
  unfold chkE at h;split at h
  ·simp only[XB,XU] at h
   obtain⟨⟨⟨⟨⟨⟨⟨h1,rfl⟩,rfl⟩,h2⟩,h3⟩,h4⟩,h5⟩,h6⟩:=h;rw[wE];exact BA (g.cscope h1) g.sc g.calm (sI i g h2) (λC s H0 ex pn=>s_tg (g.comp h1) h4) (λC s H0 ex pn=>sTo c (Γ:=inComp Γ _) (g.comp h1) h5) (λC s H0 ex pn=>sE el (Γ:=inComp Γ _) (g.comp h1) h6) h3
  ·exact ff h
 |.neg a,Γ,cn,X,e,g,h=>by
  unfold chkE at h;split at h
  ·rw[wE];exact El (sE a g h)
  ·exact ff h
 |.inv a,Γ,cn,X,e,g,h=>by
  unfold chkE at h;split at h
  ·rw[wE];exact Em (sE a g h)
  ·exact ff h
 |.dnew,Γ,cn,X,e,g,h=>by
  unfold chkE at h;split at h
  ·rw[wE];exact BL
  ·exact ff h
 |.fld o f,Γ,cn,X,e,g,h=>by
  unfold chkE at h;split at h
  ·simp only[XB,XU] at h
   obtain⟨⟨h1,rfl⟩,h3⟩:=h;rw[wE];exact Ep g.flds (sE o g h1) h3
  ·exact ff h
 |.mu m o es,Γ,cn,X,e,g,h=>by
  unfold chkE at h;split at h
  ·simp only[XB,XU] at h
   obtain⟨⟨⟨⟨⟨⟨⟨rfl,h1⟩,h2⟩,h3⟩,h4⟩,h5⟩,h6⟩,h7⟩:=h;rw[wE];exact BO g.mts (sE o g h1) (sEs es g h7) h2 h3 h4 h5 h6
  ·exact ff h
 |.mu0 m o,Γ,cn,X,e,g,h=>by
  unfold chkE at h;split at h
  ·simp only[XB,XU] at h
   obtain⟨⟨⟨rfl,h1⟩,h2⟩,h3⟩:=h;rw[wE];exact z9 g.mts (sE o g h1) h2 h3
  ·exact ff h
theorem sP:∀(ir:Ps){Γ:Gam}{cn:Cn}{X:Cx}{ks:List (Option Expr)}{vs:Zl},GOk Γ cn X->chkP Γ ir ks vs=true->PPd X ks vs (wP cn ir)
 |.nil,Γ,cn,X,ks,vs,g,h=>by
  unfold chkP at h;split at h
  ·rw[wP];exact .nil
  ·exact ff h
 |.cons k v r,Γ,cn,X,ks,vs,g,h=>by
  unfold chkP at h;split at h
  ·simp only[XB] at h
   rw[wP];exact .cons (sE k g h.1.1) (sE v g h.1.2) (sP r g h.2)
  ·exact ff h
theorem sEs:∀(ir:Es){Γ:Gam}{cn:Cn}{X:Cx}{es:Zl},GOk Γ cn X->cg Γ ir es=true->PAd X es (wEs cn ir)
 |.nil,Γ,cn,X,es,g,h=>by
  unfold cg at h;split at h
  ·rw[wEs];exact DV
  ·exact ff h
 |.cons e r,Γ,cn,X,es,g,h=>by
  unfold cg at h;split at h
  ·simp only[XB] at h
   rw[wEs];exact Bv (sE e g h.1.1) (sEs r g h.2) h.1.2
  ·exact ff h
theorem sEo:∀(ir:Eo){Γ:Gam}{cn:Cn}{X:Cx}{e:Option Expr},GOk Γ cn X->l7 Γ ir e=true->POd X e (wEo cn ir)
 |.no,Γ,cn,X,e,g,h=>by
  unfold l7 at h;split at h
  ·rw[wEo];exact BE
  ·exact ff h
 |.yes a,Γ,cn,X,e,g,h=>by
  unfold l7 at h;split at h
  ·rw[wEo];exact BF (sE a g h)
  ·exact ff h
theorem sTo:∀(ir:To){Γ:Gam}{cn:Cn}{X:Cx}{e:Zl},GOk Γ cn X->qJ Γ ir e=true->PTsd X e (wTo cn ir)
 |.no,Γ,cn,X,e,g,h=>by
  unfold qJ at h;split at h
  ·rw[wTo];exact .inl ⟨rfl,rfl⟩
  ·exact ff h
 |.yes a,Γ,cn,X,e,g,h=>by
  unfold qJ at h;split at h
  ·rw[wTo];exact .inr ⟨_,rfl,sT a g h⟩
  ·exact ff h
theorem sT:∀(ir:T){Γ:Gam}{cn:Cn}{X:Cx}{e:Expr},GOk Γ cn X->chkT Γ ir e=true->PTd X e (wT cn ir)
 |.val a,Γ,cn,X,e,g,h=>by
  unfold chkT at h;rw[XB] at h;rw[wT];exact DU (sE a g h.1) (AC h.2)
 |.cmp o a b,Γ,cn,X,e,g,h=>by
  unfold chkT at h;split at h
  ·simp only[XB,XU,Bool.not_eq_true'] at h
   obtain⟨⟨⟨rfl,h2⟩,h3⟩,h4⟩:=h;rw[wT];exact DO (xn g.hu o) (sE a g h2) (sE b g h3) h4
  ·exact ff h
 |.and a b,Γ,cn,X,e,g,h=>by
  unfold chkT at h;split at h
  ·rw[XB] at h
   rw[wT];exact(xc (sT a g h.1) (Bu (sT b g h.2))).pt
  ·rw[XB] at h
   rw[wT];exact(xc (sT a g h.1) (qK (sT b g h.2) (.inl ⟨_,_,rfl⟩))).pt
  ·exact ff h
 |.or a b,Γ,cn,X,e,g,h=>by
  unfold chkT at h;split at h
  ·rw[XB] at h
   rw[wT];exact(zP (sT a g h.1) (DQ (sT b g h.2))).pt
  ·rw[XB] at h
   rw[wT];exact(zP (sT a g h.1) (qK (sT b g h.2) (.inr ⟨_,_,rfl⟩))).pt
  ·exact ff h
 |.not a,Γ,cn,X,e,g,h=>by
  unfold chkT at h;split at h
  ·rw[wT];exact DP (sT a g h)
  ·exact ff h
theorem sI:∀(ir:I){Γ:Gam}{cn:Cn}{X:Cx}{tg e:Expr},GOk Γ cn X->chkI Γ ir tg e=true->PId X tg e (wI cn ir)
 |.seq a,Γ,cn,X,tg,e,g,h=>by
  unfold chkI at h;rw[wI];exact Ea (sE a g h)
 |.enum es,Γ,cn,X,tg,e,g,h=>by
  unfold chkI at h;split at h
  ·rename_i t_ q_
   obtain⟨_,_,_,rfl⟩:=Ca t_;obtain⟨_,_,rfl⟩:=dc q_;simp only[XB,XU] at h;obtain⟨⟨⟨⟨h1,h2⟩,rfl⟩,h3⟩,h4⟩:=h;rw[wI];exact B0 (s_gl g h1).1 (g.blt _ h2) (sEs es g h4) h3
  ·exact ff h
 |.rg1 es,Γ,cn,X,tg,e,g,h=>by
  unfold chkI at h;split at h
  ·rename_i q_
   obtain⟨_,_,rfl⟩:=dc q_;simp only[XB,XU] at h;obtain⟨⟨⟨⟨h1,h2⟩,rfl⟩,h3⟩,h4⟩:=h;rw[wI];exact yq (s_gl g h1).1 (g.blt _ h2) (sEs es g h4) h3
  ·exact ff h
 |.rg2 es,Γ,cn,X,tg,e,g,h=>by
  unfold chkI at h;split at h
  ·rename_i q_
   obtain⟨_,_,rfl⟩:=dc q_;simp only[XB,XU] at h;obtain⟨⟨⟨⟨⟨h1,h2⟩,rfl⟩,h3⟩,QB⟩,h4⟩:=h;rw[wI];exact yr (s_gl g h1).1 (g.blt _ h2) (sEs es g h4) h3 QB
  ·exact ff h
end
theorem yR{y:Str}{a sp pos:Pos}{b:Expr}{c:List Comprehension}{sc:Scope}(g:GOk Γ cn X)(d:Γ.sc.names.lookup y=some .local)(h2:(a.line==pos.line)=true)(f:(sc.names.any λ(p:Str×NameKind)=>p.1==y&&(p.2==.local || p.2==.cell))=false):
  swapsWith (.ListComp b c sc pos) (some (.Name y a)) sp.line X.env=pure true:=by
 show pure (X.env.blockKind==.function&&X.env.kindOf y==some .local && a.line==pos.line && !(sc.names.any λ(p:Str×NameKind)=>p.1==y&&(p.2==.local || p.2==.cell)))=(pure true:Sem Bool);have e1:X.env.blockKind=.function:=by
  unfold Env.blockKind;rw[g.sc,g.kind];rfl
 have e2:X.env.kindOf y=some .local:=by show X.env.scope.names.lookup y=_;rw[g.sc];exact d
 rw[e1,e2,h2,f];rfl
theorem yS{y:Str}{f:Pos}{n:Nat}(g:GOk Γ cn X)(j:Γ.sc.names.lookup y=some .cell)(v:Expr):swapsWith v (some (.Name y f)) n X.env=pure false:=by
 have e2:X.env.kindOf y=some .cell:=by show X.env.scope.names.lookup y=_;rw[g.sc];exact j
 have k:(some NameKind.cell==some NameKind.local)=false:=rfl;have a:∀(b c d:Bool),(b&&X.env.kindOf y==some .local && c&&d)=false:=λb c d=>by rw[e2,k,Bool.and_false,Bool.false_and,Bool.false_and]
 cases v<;>first | rfl | exact congrArg pure (a _ _ _)
theorem Cd{t:WE}{i:Nat}{x:Str}{pos a:Pos}{e:Expr}(c:X.N.Nodup)(hi:X.N[i]?=some x)(hx:Loc X.env.scope x)(hf:X.fn x=true\/X.env.scope.names.lookup x=some .local)(hc:swapsWith e (some (.Name x a)) pos.line X.env=pure false)(h:PEd X e t):
  PSd X (.Assign [.Name x a] e pos) (wSet i t):=by
 intro σ M ρ H D rs f q;refine c8 (Fa c hi hx (pe_W e) hc hf) ?_;show tW X e ρ H _;refine aC (h σ M ρ H _ rs f q) λv l z=>?_
 obtain⟨b,d,M1,g,j,k⟩:=z;exact⟨b,σ.set i (some d),M1,(rs.mono b).set i g,j,k⟩
theorem AD{tg v:Expr}{n:Nat}{env:Env}(h:cO v=true):swapsWithSole [tg] v n env=pure false:=qf h
theorem Ce{es:Zl}{k:Nat}{p:Pos}{v:Expr}{n:Nat}{env:Env}(h:cO v=true)(h':xB v=true):swapsWithSole [.Tuple es k p] v n env=pure false/\swappedStores [.Tuple es k p] v env=pure none:=by
 refine⟨AD h,?_⟩;cases v<;>first | rfl | exact ff h'
theorem AE{c:Expr}{d:Zz}{tc:WT}{y:WS}(hp:PassesOwn (model X.prog X.w) X.A X.env X.xe)(hc:PTd X c tc)(hb:PSsd X d y):PSd X (.While c d [] pos) (lq tc y):=by
 intro σ M ρ H E rs F q;obtain⟨W,⟨G,I⟩,step⟩:=q;refine c8 (A9 hp (pt_W c) (lY d)) ?_;refine⟨λm l H'=>Kp H H'/\∃f M',RS X.K H' f l/\RM X.K M' H'/\W m f M',⟨G,Kp.refl H,σ,M,rs,F,I⟩,?_⟩;rintro m l H' ⟨k,f,M',p,J,L⟩;refine eD (hc f M' l H' _ p J (step m f M' L)) λb O P=>?_
 obtain⟨g,M1,z,B⟩:=P;cases b with
 |true=>
  obtain⟨N,R,S⟩:=B;refine⟨λC o=>Kp H o/\∃j M2,RS X.K o j C/\RM X.K M2 o/\N j M2,λC o ⟨T,j,M2,a,b,n⟩=>let⟨m',h1,h2⟩:=R j M2 n;⟨m',h1,T,j,M2,a,b,h2⟩,?_⟩;refine c9 (hb f M1 l O _ (p.mono g) z S) ⟨λU V Y=>?_,λ_ _=>bv (k.trans g),λ_ _=>jI (k.trans g),λU V ⟨r,t,u,a,b,c⟩=>⟨(k.trans g).trans r,t,u,a,b,c⟩⟩;obtain⟨r,t,u,a,b,c⟩:=Y;exact⟨(k.trans g).trans r,t,u,a,b,c⟩
 |false=>exact⟨k.trans g,f,M1,p.mono g,z,B⟩
mutual
theorem sS:∀(ir:S){Γ:Gam}{cn:Cn}{X:Cx}{st:Stmt},GOk Γ cn X->chkS Γ ir st=true->PSd X st (wS cn ir)
 |.set i e,Γ,cn,X,st,g,h=>by
  unfold chkS at h;split at h
  ·simp only[XB] at h
   obtain⟨a,b,c,d⟩:=yQ g h.1.1;rw[wS];refine Cd a b c d ?_ (sE e g h.2);rcases Bool.or_eq_true_iff.1 h.1.2 with z | z
   ·exact qf z
   ·exact yS g (XS z) _
  ·exact ff h
 |.setC i n e t j c,Γ,cn,X,st,g,h=>by
  unfold chkS at h;split at h
  ·simp only[XB,XU,Bool.not_eq_true'] at h
   obtain⟨⟨⟨⟨⟨⟨⟨⟨⟨⟨⟨a1,a2⟩,a3⟩,a4⟩,h1⟩,rfl⟩,rfl⟩,h2⟩,h3⟩,h4⟩,h5⟩,h6⟩:=h;rw[wS];exact BB (g.cscope h1) g.sc g.calm (by rw[g.N];exact g.nd) (by rw[g.N];exact a1) (by rw[g.sc];exact a2) (sI j g h2) (λC s H0 ex pn=>s_tg (g.comp h1) h4)
    (λC s H0 ex pn=>sTo c (Γ:=inComp Γ _) (g.comp h1) h5) (λC s H0 ex pn=>sE e (Γ:=inComp Γ _) (g.comp h1) h6) h3 (yR g a2 a3 a4)
  ·exact ff h
 |.asg t e,Γ,cn,X,st,g,h=>by
  unfold chkS at h;split at h
  ·simp only[XB] at h
   obtain⟨⟨⟨h1,h2⟩,h3⟩,h4⟩:=h;obtain⟨q1,q2⟩:=Ce h2 h3;rw[wS];exact D7 (sE e g h4) (s_tg g h1) q1 q2 rfl
  ·exact ff h
 |.expr e,Γ,cn,X,st,g,h=>by
  unfold chkS at h;split at h
  ·simp only[XB] at h
   rw[wS];exact Bz (sE e g h.2) h.1
  ·exact ff h
 |.ret e,Γ,cn,X,st,g,h=>by
  unfold chkS at h;split at h
  ·rw[wS];exact D2 (sE e g h)
  ·exact ff h
 |.ite t a b,Γ,cn,X,st,g,h=>by
  unfold chkS at h;split at h
  ·simp only[XB] at h
   rw[wS];exact FK (sT t g h.1.1) (sSs a g h.1.2) (sSs b g h.2)
  ·exact ff h
 |.for t j b,Γ,cn,X,st,g,h=>by
  unfold chkS at h;split at h
  ·simp only[XB] at h
   rw[wS];exact Eb g.own g.calm (sI j g h.1.1.2) (s_tg g h.1.1.1) (sSs b g h.2) h.1.2
  ·exact ff h
 |.pass,Γ,cn,X,st,g,h=>by
  unfold chkS at h;split at h
  ·rw[wS];exact By
  ·exact ff h
 |.never,Γ,cn,X,st,g,h=>by rw[wS];exact zW
 |.putIx o i e,Γ,cn,X,st,g,h=>by
  unfold chkS at h;split at h
  ·simp only[XB] at h
   rw[wS];exact z8 g.hu (sE e g h.1.1.2) (sE o g h.1.1.1.1) (sE i g h.1.1.1.2) h.1.2 h.2
  ·exact ff h
 |.setF o f e,Γ,cn,X,st,g,h=>by
  unfold chkS at h;split at h
  ·simp only[XB,XU] at h
   obtain⟨⟨h1,rfl⟩,h3⟩:=h;rw[wS];exact BM g.flds (sE o g h1) (sE e g h3)
  ·exact ff h
 |.while t b,Γ,cn,X,st,g,h=>by
  unfold chkS at h;split at h
  ·simp only[XB] at h
   rw[wS];exact AE g.own (sT t g h.1) (sSs b g h.2)
  ·exact ff h
theorem sSs:∀(ir:Ss){Γ:Gam}{cn:Cn}{X:Cx}{st:Zz},GOk Γ cn X->bK Γ ir st=true->PSsd X st (wSs cn ir)
 |.nil,Γ,cn,X,st,g,h=>by
  unfold bK at h;split at h
  ·rw[wSs];exact Bx
  ·exact ff h
 |.cons s r,Γ,cn,X,st,g,h=>by
  unfold bK at h;split at h
  ·simp only[XB] at h
   rw[wSs];exact zV (sS s g h.1) (sSs r g h.2)
  ·exact ff h
end
end
section
variable {P:ZS}{w:World}{K:Za}{mg:Zi}{base:Heap}
structure Names (P:ZS) (w:World) (K:Za) (mg:Zi) (base:Heap) (k:Nat) (glob:Zk) (blt:Zk) (fns:Zk) (cn:Cn):Prop where
 glob:∀(j:Nat) x,glob[j]?=some x->mZ K mg x (cn.G.getD j .non)
 blt:∀x,blt.contains x=true->mg x=none
 fns:∀(j:Nat) x,fns[j]?=some x->∃k',k'<=k/\cz P w K mg base k' x (cn.F.getD j λ_ _ _=>False)
 flds:∀C f,cn.O C f->Cls K C/\bW K C f
 mts:∀C m sp,cn.T C m=some sp->∃k',k'<=k/\aU P w K mg base k' C m sp
 isi:∀C d b,cn.I C d=some b->IsiOk K C d b
theorem u2{x:Str}{st:Stmt}{ps N:Zk}{f:Addr}{fd:ZD}{k:Nat}{sp:SpD}{a:Ss}{glob:Zk}{blt:Zk}{fns:Zk}{cn:Cn}(c:IsDef K mg x st ps f fd)(S:FnScope N ps (af st))(nm:Names P w K mg base k glob blt fns cn)
  (hc:bK ⟨N,af st,true,glob,blt,fns⟩ a (aG st)=true) (len:∀ds M Q,sp ds M Q->ds.length=ps.length)
  (h:∀ds M Q,sp ds M Q->wSs cn a { nx:=λ_ M'=>Q .non M',rt:=Q } (ad N ds) M):FnD P w K mg base (k+1) x sp:=by
 refine fnD c S len (λx_ A outer s H E b=>?_) h;exact sSs a (Γ:=⟨N,af st,true,glob,blt,fns⟩) ⟨rfl,rfl,S.kind,S.nd,rfl,λ_ _=>rfl,PassesOwn.never,nm.glob,nm.blt,λj x e=>let⟨k',h1,h2⟩:=nm.fns j x e;⟨k',h2,b.mono h1⟩,nm.flds,λC m sp e=>let⟨k',h1,h2⟩:=nm.mts C m sp e;⟨k',h2,b.mono h1⟩,nm.isi,XN (Nat.add_le_add_left (by decide:40<=64) _) b.units⟩ hc
theorem u3{x l_:Str}{st:Stmt}{ps N:Zk}{f:Addr}{fd:ZD}{k:Nat}{sp:SpD}{a:Ss}{glob:Zk}{blt:Zk}{fns:Zk}{cn:Cn}(n:Fun K x l_ st f fd)(S:FnScope N ps (af st))(nm:Names P w K mg base k glob blt fns cn)
  (hc:bK ⟨N,af st,true,glob,blt,fns⟩ a (aG st)=true) (len:∀ds M Q,sp ds M Q->ds.length=ps.length)
  (h:∀ds M Q,sp ds M Q->wSs cn a { nx:=λ_ M'=>Q .non M',rt:=Q } (ad N ds) M):FnOk P w K mg base CX0 (k+1) f fd ps (fH K sp):=by
 refine n.ok S (λvs H Q E ⟨ds,M,b,r,_,s,_⟩=>by rw[←r.len];exact len ds M b s) λx_ A outer s H vs Q E c ⟨ds,M,b,r,m,sq,l⟩=>⟨tWSs _ _,lY _,?_⟩
 have hb:=sSs a (Γ:=⟨N,af st,true,glob,blt,fns⟩) (X:=(cxOf CX0 P w K mg base N l_ (af st) f x_ A outer s H E).nox) ⟨rfl,rfl,S.kind,S.nd,rfl,λ_ _=>rfl,PassesOwn.never,nm.glob,nm.blt,λj x e=>let⟨k',h1,h2⟩:=nm.fns j x e;⟨k',h2,c.mono h1⟩,nm.flds,λC m sp e=>let⟨k',h1,h2⟩:=nm.mts C m sp e;⟨k',h2,c.mono h1⟩,nm.isi,XN (Nat.add_le_add_left (by decide:40<=64) _) c.units⟩ hc;refine c9 (hb (ad N ds) M (L2.start N vs) H _ (uD r) m (h ds M b sq)) ⟨λt H' o=>?_,λv H' ⟨k',d,M',p,g,q⟩=>l _ _ _ _ q k' p g,λ_ _ ⟨_,_,_,_,_,q⟩=>q,λ_ _ ⟨_,_,_,_,_,q⟩=>q⟩;obtain⟨k',u,M',_,g,q⟩:=o;exact l _ _ _ _ q k' (RV.non_.2 rfl) g
end
section
variable {P:ZS}{w:World}{K:Za}{mg:Zi}{base:Heap}{k:Nat}
theorem ae{F:List SpD}:∀(j:Nat) (x:Str),([]:List Str)[j]?=some x->∃k',k'<=k/\cz P w K mg base k' x (F.getD j λ_ _ _=>False):=λj x e=>by simp at e
theorem ab{y:Str}{b:Zk}{sp:SpD}{F:List SpD}{a:Nat}(c:a<=k)(h:cz P w K mg base a y sp)(t:∀(j:Nat) (x:Str),b[j]?=some x->∃k',k'<=k/\cz P w K mg base k' x (F.getD j λ_ _ _=>False)):
  ∀(j:Nat) (x:Str),(y::b)[j]?=some x->∃k',k'<=k/\cz P w K mg base k' x ((sp::F).getD j λ_ _ _=>False):=λj x e=>by
 cases j with
 |zero=>
  have:y=x:=by simpa using e
  subst this;exact⟨a,c,h⟩
 |succ j=>exact t j x (by simpa using e)
theorem Cf{C:Addr}{m l_:Str}{st:Stmt}{ps N:Zk}{f:Addr}{fd:ZD}{sp:SpD}{a:Ss}{glob:Zk}{blt:Zk}{fns:Zk}{cn:Cn}(cl:Cls K C)(A:MethAt K C m l_ st f fd)(S:FnScope N ps (af st))(nm:Names P w K mg base k glob blt fns cn)
  (hb:∀(kV A_ pm:Value) (an:Zr) (x_ ct:Value) (us:Zh),us.length=ps.length->bindArgs (PySem.W.fnOf m l_ (bh st) (aG st) (af st) .none kV A_ pm an x_ ct) ⟨us,[]⟩=pure (ps.zip us))
  (hc:bK ⟨N,af st,true,glob,blt,fns⟩ a (aG st)=true) (len:∀ds M Q,sp ds M Q->ds.length=ps.length)
  (h:∀ds M Q,sp ds M Q->wSs cn a { nx:=λ_ M'=>Q .non M',rt:=Q } (ad N ds) M):aU P w K mg base (k+1) C m sp:=
 ⟨f,fd,ps,cl,A.meth,A.fun_.binds hb,u3 A.fun_ S nm hc len h⟩
theorem Gm{x:Str}{C:Addr}{l_:Str}{st:Stmt}{ps N:Zk}{f:Addr}{fd:ZD}{sp:SpD}{a:Ss}{glob:Zk}{blt:Zk}{fns:Zk}{cn:Cn}(hx:mg x=some (.ref C))(hm:PySem.W.makesIn K C=true)(hk:PySem.W.keepIn K (.ref C)=true)(A:MethAt K C "__init__" l_ st f fd)
  (S:FnScope N ps (af st)) (nm:Names P w K mg base k glob blt fns cn)
  (hb:∀(kV A_ pm:Value) (an:Zr) (x_ ct:Value) (us:Zh),us.length=ps.length->bindArgs (PySem.W.fnOf "__init__" l_ (bh st) (aG st) (af st) .none kV A_ pm an x_ ct) ⟨us,[]⟩=pure (ps.zip us))
  (hc:bK ⟨N,af st,true,glob,blt,fns⟩ a (aG st)=true) (len:∀ds M Q,sp ds M Q->ds.length=ps.length)
  (h:∀ds M Q,sp ds M Q->wSs cn a { nx:=λ_ M'=>Q .non M',rt:=Q } (ad N ds) M):cz P w K mg base (k+2) x (aW C sp):=
 .inr ⟨k+1,rfl,C,f,fd,ps,sp,⟨hm,A.at_,A.fn,hk⟩,hx,A.fun_.binds hb,u3 A.fun_ S nm hc len h,rfl⟩
end
theorem DefAt.fun_{K:Za}{x:Str}{st:Stmt}{f:Addr}{fd:ZD}(A:DefAt K x st f fd):Fun K x x st f fd:=by
 obtain⟨oc,od,an,Hl,kV,A_,pm,x_,ct,a,rfl,l,c,k⟩:=A.ex;exact uo l c k
end DD
open PySem L2 DD
local macro_rules
  | `(#v[]) => `(.nil)
  | `(#v[$x]) => `(.cons $x .nil)
  | `(#v[$x, $xs,*]) => `(.cons $x #v[$xs,*])
local macro_rules
  | `(~~~$x) => `(some (DD.D.int ($x : Int)))
local macro_rules
  | `(↑$x) => `(some (DD.D.ref $x))
local macro_rules
  | `(⇑$x) => `(DD.D.int ($x : Int))
local macro_rules
  | `(tactic| simp! only [$ts,*]) => `(tactic| simp only [wSs, wS, wE, wEs, wEo, wTo, wT, wI, wP, wSeq, qe, wIfS, yg, wTru, wOp, wAnd, wOr, wNot, yh, wOrV, yi, wIf, wRet, wSet, wAsg, ym, yk, gU, wMt, wSl, wLst, wTup, wNil, yj, wNeg, wFor, yn, yo, yp, yN, yu, yv, uM, wFld, yA, qw, Ha, getS, nV, truD, intD, optD, qg, setM, dBin, dCmp, dIB, dLt, dI, dI0, dMul, dAdd, dBi, dLen, n9, dAll, dII, qo, qp, dMt, mtRc, yy, og, oh, dIx, dSl, dPut, dEqV, dNeV, dIsV, rT, dInV, rS, dInP, dEq, t9, isW, yw, isBl, isB, seqD, fldD, yz, ub, keyD, rV, lstD, om, wLrg, rngD, dPop, F5, aZ, aF, XX, List.getElem?_cons_succ, $ts,*])
namespace SH
open PySem L2 DD
abbrev fin(Q:DK):EndsD:={ nx:=λ_ M'=>Q .non M',rt:=Q }
def Ext(M M':MH):Prop:=∀a o,M a=some o->M' a=some o
theorem Ext.refl(M:MH):Ext M M:=λ_ _ h=>h
theorem Ext.trans{M M' d:MH}(a:Ext M M')(b:Ext M' d):Ext M d:=λc o h=>b c o (a c o h)
theorem Ext.new{M:MH}{p:Addr}{o:MO}(h:M p=none):Ext M (updM M p o):=λa u e=>by
 rw[aw (λz=>by subst z;rw[h] at e;cases e)];exact e
theorem Ext.then{M M':MH}{p:Addr}{o:MO}(e:Ext M M')(h:M' p=none):Ext M (updM M' p o):=e.trans (Ext.new h)
def ExtBut(p:Addr)(M M':MH):Prop:=∀a o,a≠p->M a=some o->M' a=some o
theorem de{g:MH->Prop}{t:Tgt}{c:WT}{e:WE}{F:List D->MH->Prop}{f:D->D}{ok:DS->Prop}{M:MH}:∀{xs:List D}(g_:List D) (σ:DS),ok σ ->
  (∀x∈xs,∀σ g_ rest,ok σ->(∀a,ok a->aH g t c e F rest (g_++[f x]) a M)->aH g t c e F (x::rest) g_ σ M)->F (g_++xs.map f) M->aH g t c e F xs g_ σ M
 |[],g_,σ,_,_,q=>by
  rw[XC,ZA] at q;exact q
 |x::xs,g_,σ,h,st,q=>st x YC σ g_ xs h λa h'=>de (g_++[f x]) a h' (λy hy=>st y (.tail _ hy)) (by simpa using q)
theorem dX{g:MH->Prop}{t:Tgt}{c:WT}{e:WE}{F:List D->MH->Prop}{p:D->Bool}{ok:DS->Prop}{M:MH}:∀{xs:List D}(g_:List D) (σ:DS),ok σ ->
  (∀x∈xs,∀σ g_ rest,ok σ->(∀a,ok a->aH g t c e F rest (g_++cond (p x) [x] []) a M)->aH g t c e F (x::rest) g_ σ M)->F (g_++xs.filter p) M->aH g t c e F xs g_ σ M
 |[],g_,σ,_,_,q=>by
  rw[List.filter_nil,ZA] at q;exact q
 |x::xs,g_,σ,h,st,q=>st x YC σ g_ xs h λa h'=>dX (g_++cond (p x) [x] []) a h' (λy hy=>st y (.tail _ hy)) (by
  rw[List.filter_cons] at q;cases e:p x with
  |true=>rw[e] at q;simpa using q
  |false=>rw[e] at q;simpa using q)
theorem at0{a:Type}(x:a)(xs:List a):atI (x::xs) 0=some x:=dv (j:=0) rfl
theorem at1{a:Type}(x y:a)(xs:List a):atI (x::y::xs) 1=some y:=dv (j:=1) rfl
theorem at2{a:Type}(x y z:a)(xs:List a):atI (x::y::z::xs) 2=some z:=dv (j:=2) rfl
theorem am(x:Str):aK (.str x)=true:=rfl
theorem ao(x:Int):aK (.int x)=true:=rfl
theorem az(x:Bool):aK (.bl x)=true:=rfl
theorem aq(x:Str):depD (.str x)=0:=rfl
theorem aj(x:Int):depD (.int x)=0:=rfl
theorem aA(x:Bool):depD (.bl x)=0:=rfl
theorem ai(x y:Int):eqD (.int x) (.int y)=(x==y):=by rw[eqD]
theorem ar(x y:Str):eqD (.str x) (.str y)=(x==y):=by rw[eqD]
def bitZ(h f:Int):Int:=h / 2 ^ f.toNat%2
theorem rY(h f:Int):bitZ h f=0\/bitZ h f=1:=by unfold bitZ;omega
def hasB(h f:Int):Bool:=bitZ h f==1
theorem AF(h f:Int):(bitZ h f==0) = !hasB h f:=by
 unfold hasB;rcases rY h f with e | e<;>rw[e]<;>rfl
def intL(fs:Zn):List D:=fs.map .int
def bits(h:Int)(fs:Zn):List D:=fs.map λf=>.int (bitZ h f)
def cntB(fs:Zn)(h:Int):Nat:=(fs.filter (hasB h)).length
theorem s9:∀(fs:Zn),aN (intL fs)=true
 |[]=>rfl
 |f::fs=>by
  show(aK (.int f)&&aN (intL fs))=true;rw[s9 fs];rfl
theorem u4:∀(fs:Zn),bB (intL fs)=0
 |[]=>rfl
 |f::fs=>by
  show bB (.int f::intL fs)=0;rw[bB,u4 fs];rfl
theorem rZ{fs:Zn}{k:Nat}(h:k<fs.length):atI (intL fs) (k:Int)=some (.int (fs.getD k 0)):=by
 refine dv ?_;unfold intL;rw[ZH,ZE h];simp[List.getD,ZE h]
theorem cutK{a:Type}(xs:List a)(k:Nat):cutL xs none (some (k:Int))=xs.take k:=by
 unfold cutL;rw[HT.gw,HT.Bh];simp
theorem ox(fs:Zn)(k:Nat):cutL (intL fs) none (some (k:Int))=intL (fs.take k):=by rw[cutK];unfold intL;rw[List.map_take]
theorem pA(fs:Zn):(intL fs).length=fs.length:=by unfold intL;rw[ZG]
inductive CT where
 |hav (f:Int) | lck (f:Int) | som (n:Int) (fs:Zn) | led (fs:Zn) (k:Nat)
def CT.ok:CT->Prop
 |.hav f=>0<=f/\f<120
 |.lck f=>0<=f/\f<120
 |.som _ fs=>(0<fs.length/\fs.length<=6)/\∀f∈fs,0<=f/\f<120
 |.led fs k=>(k<fs.length/\fs.length<=6)/\∀f∈fs,0<=f/\f<120
def CT.told:CT->D
 |.hav f=>.tup [.str "have",.int f]
 |.lck f=>.tup [.str "lack",.int f]
 |.som n fs=>.tup [.str "some",.int n,.tup (intL fs)]
 |.led fs k=>.tup [.str "lead",.tup (intL fs),.int k]
def CT.flds:CT->List (Str×D)
 |.hav f=>[("fact",.int f)]
 |.lck f=>[("fact",.int f)]
 |.som n fs=>[("number",.int n),("facts",.tup (intL fs))]
 |.led fs k=>[("facts",.tup (intL fs)),("at",.int k)]
def CT.kind:CT->Nat
 |.hav _=>0
 |.lck _=>1
 |.som _ _=>2
 |.led _ _=>3
def CT.carried(h m:Int):CT->Bool
 |.hav f=>hasB h f
 |.lck f=>!hasB m f
 |.som n fs=>decide (n<=((cntB fs h:Nat):Int))
 |.led fs k=>hasB h (fs.getD k 0)&&(((cntB (fs.take k) m:Nat):Int)==0)
def bM(b:Bool)(f:Int):D:=.tup [.int f,.bl b]
def CT.leans:CT->List D
 |.hav f=>[bM false f]
 |.lck f=>[bM true f]
 |.som _ fs=>fs.map (bM false)
 |.led fs k=>(fs.take k).map (bM true)++[bM false (fs.getD k 0)]
structure CA where
 h:Addr
 l:Addr
 s:Addr
 d:Addr
def CA.at(c:CA):Nat->Addr
 |0=>c.h
 |1=>c.l
 |2=>c.s
 |_=>c.d
def CT.obj(c:CA)(t:CT):MO:=.ins (c.at t.kind) t.flds
theorem CT.kind_lt(t:CT):t.kind<4:=by
 cases t with
 |hav _=>exact(by decide:(0:Nat)<4)
 |lck _=>exact(by decide:(1:Nat)<4)
 |som _ _=>exact(by decide:(2:Nat)<4)
 |led _ _=>exact(by decide:(3:Nat)<4)
theorem xC{fs:Zn}{k:Nat}(h:k<fs.length)(hf:∀f∈fs,0<=f/\f<120):0<=fs.getD k 0:=by
 have:fs.getD k 0=fs[k]:=by simp[List.getD,ZE h]
 rw[this];exact(hf _ (List.getElem_mem h)).1
def ci:SpD:=λds M Q=>∃h f:Int,ds=[.int h,.int f]/\0<=f/\Q (.bl (hasB h f)) M
def jv:SpD:=λds M Q=>∃(fs:Zn) (h:Int),ds=[.tup (intL fs),.int h]/\(∀f∈fs,0<=f)/\∀M',Ext M M'->Q (.int (cntB fs h:Nat)) M'
def bz(c:CA)(k:Nat):SpD:=λds M Q=>∃(a:Addr) (t:CT) (h m:Int),t.kind=k/\t.ok/\ds=[.ref a,.int h,.int m]/\M a=some (t.obj c)/\∀M',Ext M M'->Q (.bl (t.carried h m)) M'
def bA(c:CA)(k:Nat):SpD:=λds M Q=>∃(a:Addr) (t:CT),t.kind=k/\t.ok/\ds=[.ref a]/\M a=some (t.obj c)/\∀p M',M p=none->Ext M M'->M' p=some (.lst t.leans)->Q (.ref p) M'
def bF(c:CA)(k:Nat):SpD:=λds M Q=>∃(a:Addr) (t:CT),t.kind=k/\ds=.ref a::t.flds.map (·.2)/\M a=some (.ins (c.at k) [])/\∀M',(∀b,b≠a->M' b=M b)->M' a=some (t.obj c)->Q .non M'
def kindAt(c:CA)(a:Addr):Option Nat:=if a=c.h then some 0 else if a=c.l then some 1 else if a=c.s then some 2 else if a=c.d then some 3 else none
def CA.apart(c:CA):Prop:=∀k,k<4->kindAt c (c.at k)=some k
def eL:List Str:=["fact","number","facts","at"]
def fldO(c:CA):OK0:=λa f=>∃k,k<4/\a=c.at k/\f∈eL
theorem bm(c:CA){k:Nat}{f:Str}(hk:k<4)(h:f∈eL):fldO c (c.at k) f:=⟨k,hk,rfl,h⟩
def kS:Ss:=#v[.ret (.cmp .Eq (.bin .BitAnd (.bin .RShift (.var 0) (.var 1)) (.int 1)) (.int 1))]
def kT:Ss:=#v[.ret (.bi .len #v[.comp 1 (.var 2) (.nm 2) (.seq (.var 0)) (.yes (.val (.fn 0 #v[.var 1,.var 2])))])]
section
variable {cn:Cn}
theorem wm{ds:List D}{M:MH}{Q:DK}(h:ci ds M Q):wSs cn kS (fin Q) (ad ["",""] ds) M:=by
 obtain⟨x,f,rfl,hf,q⟩:=h;show wSs cn kS (fin Q) [some (.int x),some (.int f)] M;unfold kS;simp! only[];refine⟨hf,⟨rfl,rfl,(by decide:(0:Nat)<=30)⟩,?_⟩;rw[PyProof.Rows.bitAnd_m1];exact q
theorem wn{ds:List D}{M:MH}{Q:DK}(b:cn.F.getD 0 Yl=ci)(h:jv ds M Q):wSs cn kT (fin Q) (ad ["",""] ds) M:=by
 obtain⟨fs,x,rfl,hf,q⟩:=h;show wSs cn kT (fin Q) [some (.tup (intL fs)),some (.int x)] M;unfold kT;simp! only[b];refine dX (p:=λd=>match d with | .int f=>hasB x f | _=>false) (ok:=λσ=>∃v,σ=[some (.tup (intL fs)),some (.int x),v]) [] _ ⟨none,rfl⟩ ?_ ?_
 ·intro d hd σ g_ rest ⟨v,c⟩ k
  subst c;obtain⟨f,g,rfl⟩:=List.mem_map.1 hd;refine⟨x,f,rfl,hf f g,?_⟩;have a:=k _ ⟨some (.int f),rfl⟩;show Bif (hasB x f) _ _;dsimp only at a;cases hb:hasB x f with
  |true=>rw[hb] at a;exact⟨trivial,a⟩
  |false=>rw[hb] at a;exact⟨trivial,by simpa using a⟩
 ·intro p hp
  rw[aa];have e:([]++(intL fs).filter (λ(d:D)=>match d with | .int f=>hasB x f | _=>false)).length=cntB fs x:=by
   unfold intL cntB;rw[XG,List.filter_map,ZG];rfl
  dsimp only;rw[e];exact q _ (Ext.new hp)
end
end SH
local macro_rules
  | `(tactic| simp_all! only [$ts,*]) => `(tactic| simp! only [SH.am,SH.ao,SH.az,SH.aq,SH.aj,SH.aA,SH.ai,SH.ar,YQ,and_self,true_and,and_true,$ts,*])
namespace SH
open PySem L2 DD
theorem oy(x:D):List.lookup ("fact" : Str) [("fact",x)]=some x:=rfl
theorem td(x y:D):List.lookup ("number" : Str) [("number",x),("facts",y)]=some x:=rfl
theorem u5(x y:D):List.lookup ("facts" : Str) [("number",x),("facts",y)]=some y:=rfl
theorem kb(x y:D):List.lookup ("facts" : Str) [("facts",x),("at",y)]=some x:=rfl
theorem ud(x y:D):List.lookup ("at" : Str) [("facts",x),("at",y)]=some y:=rfl
theorem jw:("fact" : Str)∈eL:=by rfl'
theorem tf:("number" : Str)∈eL:=by rfl'
theorem df:("facts" : Str)∈eL:=by rfl'
theorem qL:("at" : Str)∈eL:=by rfl'
def cm:Ss:=#v[.setF (.var 0) "fact" (.var 1)]
def fL:Ss:=#v[.ret (.fn 0 #v[.var 1,.fld (.var 0) "fact"])]
def fM:Ss:=#v[.ret (.not (.fn 0 #v[.var 2,.fld (.var 0) "fact"]))]
def fN:Ss:=#v[.ret (.lst #v[.tup #v[.fld (.var 0) "fact",.bl false]])]
def fO:Ss:=#v[.ret (.lst #v[.tup #v[.fld (.var 0) "fact",.bl true]])]
def lu:Ss:=#v[.setF (.var 0) "facts" (.var 2)]
def jM:Ss:=.cons (.setF (.var 0) "number" (.var 1)) lu
def fP:Ss:=#v[.ret (.cmp .GtE (.fn 0 #v[.fld (.var 0) "facts",.var 1]) (.fld (.var 0) "number"))]
def fQ:Ss:=#v[.ret (.comp 1 (.tup #v[.var 1,.bl false]) (.nm 1) (.seq (.fld (.var 0) "facts")) .no)]
def lw:Ss:=#v[.setF (.var 0) "at" (.var 2)]
def jN:Ss:=.cons (.setF (.var 0) "facts" (.var 1)) lw
def fR:Ss:=#v[.ret (.and (.fn 0 #v[.var 1,.ix (.fld (.var 0) "facts") (.fld (.var 0) "at")]) (.cmp .Eq (.fn 1 #v[.sl (.fld (.var 0) "facts") .no (.yes (.fld (.var 0) "at")),.var 2]) (.int 0)))]
def fS:Ss:=#v[.ret (.bin .Add (.comp 1 (.tup #v[.var 1,.bl true]) (.nm 1) (.seq (.sl (.fld (.var 0) "facts") .no (.yes (.fld (.var 0) "at")))) .no) (.lst #v[.tup #v[.ix (.fld (.var 0) "facts") (.fld (.var 0) "at"),.bl false]]))]
section
variable {cn:Cn}{c:CA}{ds:List D}{M:MH}{Q:DK}
theorem u6(d:cn.O=fldO c)(h:bF c 0 ds M Q):wSs cn cm (fin Q) (ad ["",""] ds) M:=by
 obtain⟨a,t,hk,rfl,g,q⟩:=h;cases t with
 |hav f=>
  show wSs cn cm (fin Q) [↑a,some (.int f)] M;unfold cm;simp! only[g,d];exact⟨⟨bm c (by decide) jw,by decide⟩,q _ (λb hb=>aw hb) aa⟩
 |lck f=>cases hk
 |som n fs=>cases hk
 |led fs k=>cases hk
theorem u7(d:cn.O=fldO c)(h:bF c 1 ds M Q):wSs cn cm (fin Q) (ad ["",""] ds) M:=by
 obtain⟨a,t,hk,rfl,g,q⟩:=h;cases t with
 |lck f=>
  show wSs cn cm (fin Q) [↑a,some (.int f)] M;unfold cm;simp! only[g,d];exact⟨⟨bm c (by decide) jw,by decide⟩,q _ (λb hb=>aw hb) aa⟩
 |hav f=>cases hk
 |som n fs=>cases hk
 |led fs k=>cases hk
theorem u8(d:cn.O=fldO c)(h:bF c 2 ds M Q):wSs cn jM (fin Q) (ad ["","",""] ds) M:=by
 obtain⟨a,t,hk,rfl,g,q⟩:=h;cases t with
 |som n fs=>
  show wSs cn jM (fin Q) [↑a,some (.int n),some (.tup (intL fs))] M;unfold jM;simp! only[g,d];refine⟨⟨bm c (by decide) tf,by decide⟩,?_⟩;unfold lu;simp! only[aa,d];exact⟨⟨bm c (by decide) df,(show(1:Nat)<1000 by decide)⟩,q _ (λb hb=>by rw[aw hb,aw hb]) aa⟩
 |hav f=>cases hk
 |lck f=>cases hk
 |led fs k=>cases hk
theorem u9(d:cn.O=fldO c)(h:bF c 3 ds M Q):wSs cn jN (fin Q) (ad ["","",""] ds) M:=by
 obtain⟨a,t,hk,rfl,g,q⟩:=h;cases t with
 |led fs k=>
  show wSs cn jN (fin Q) [↑a,some (.tup (intL fs)),some (.int k)] M;unfold jN;simp! only[g,d];refine⟨⟨bm c (by decide) df,by decide⟩,?_⟩;unfold lw;simp! only[aa,d];exact⟨⟨bm c (by decide) qL,(show(1:Nat)<1000 by decide)⟩,q _ (λb hb=>by rw[aw hb,aw hb]) aa⟩
 |hav f=>cases hk
 |lck f=>cases hk
 |som n fs=>cases hk
theorem qM(d:cn.O=fldO c)(g:cn.F.getD 0 Yl=ci)(h:bz c 0 ds M Q):wSs cn fL (fin Q) (ad ["","",""] ds) M:=by
 obtain⟨a,t,h,m,hk,j,rfl,b,q⟩:=h;cases t with
 |hav f=>
  have b:M a=some (.ins (c.at 0) [("fact",.int f)]):=b;show wSs cn fL (fin Q) [↑a,some (.int h),some (.int m)] M;unfold fL;simp! only[b,d,oy,g];exact⟨bm c (by decide) jw,h,f,rfl,j.1,q M (Ext.refl M)⟩
 |lck f=>cases hk
 |som n fs=>cases hk
 |led fs k=>cases hk
theorem qN(d:cn.O=fldO c)(g:cn.F.getD 0 Yl=ci)(h:bz c 1 ds M Q):wSs cn fM (fin Q) (ad ["","",""] ds) M:=by
 obtain⟨a,t,h,m,hk,j,rfl,b,q⟩:=h;cases t with
 |lck f=>
  have b:M a=some (.ins (c.at 1) [("fact",.int f)]):=b;show wSs cn fM (fin Q) [↑a,some (.int h),some (.int m)] M;unfold fM;simp! only[b,d,oy,g];exact⟨bm c (by decide) jw,m,f,rfl,j.1,q M (Ext.refl M)⟩
 |hav f=>cases hk
 |som n fs=>cases hk
 |led fs k=>cases hk
theorem qO(d:cn.O=fldO c)(g:cn.F.getD 0 Yl=jv)(h:bz c 2 ds M Q):wSs cn fP (fin Q) (ad ["","",""] ds) M:=by
 obtain⟨a,t,h,m,hk,j,rfl,b,q⟩:=h;cases t with
 |som n fs=>
  have b:M a=some (.ins (c.at 2) [("number",.int n),("facts",.tup (intL fs))]):=b;show wSs cn fP (fin Q) [↑a,some (.int h),some (.int m)] M;unfold fP;simp! only[b,d,td,u5,g];refine⟨bm c (by decide) df,fs,h,rfl,λf hf=>(j.2 f hf).1,λM1 e1=>?_⟩;simp only[e1 a _ b,td];exact⟨bm c (by decide) tf,q M1 e1⟩
 |hav f=>cases hk
 |lck f=>cases hk
 |led fs k=>cases hk
theorem qP(g:cn.O=fldO c)(j:cn.F.getD 0 Yl=ci)(l:cn.F.getD 1 Yl=jv)(h:bz c 3 ds M Q):wSs cn fR (fin Q) (ad ["","",""] ds) M:=by
 obtain⟨a,t,h,m,hk,b,rfl,d,q⟩:=h;cases t with
 |led fs k=>
  have d:M a=some (.ins (c.at 3) [("facts",.tup (intL fs)),("at",.int k)]):=d;show wSs cn fR (fin Q) [↑a,some (.int h),some (.int m)] M;unfold fR;simp! only[d,g,kb,ud,j,l,rZ b.1.1,ox];refine⟨bm c (by decide) df,bm c (by decide) qL,h,fs.getD k 0,rfl,xC b.1.1 b.2,?_⟩;have q:∀M',Ext M M'->Q (.bl (hasB h (fs.getD k 0)&&(((cntB (fs.take k) m:Nat):Int)==0))) M':=q;cases hb:hasB h (fs.getD k 0) with
  |false=>rw[hb,Bool.false_and] at q;exact q M (Ext.refl M)
  |true=>
   rw[hb,XZ] at q;simp only[aZ,d,kb,ud,ox];refine⟨bm c (by decide) df,bm c (by decide) qL,fs.take k,m,rfl,λf hf=>(b.2 f (List.mem_of_mem_take hf)).1,λM1 e1=>⟨⟨rfl,rfl,(by decide:(0:Nat)<=30)⟩,?_⟩⟩;rw[ai];exact q M1 e1
 |hav f=>cases hk
 |lck f=>cases hk
 |som n fs=>cases hk
theorem qQ(d:cn.O=fldO c)(h:bA c 0 ds M Q):wSs cn fN (fin Q) (ad [""] ds) M:=by
 obtain⟨a,t,hk,g,rfl,b,q⟩:=h;cases t with
 |hav f=>
  have b:M a=some (.ins (c.at 0) [("fact",.int f)]):=b;show wSs cn fN (fin Q) [↑a] M;unfold fN;simp! only[b,d,oy];exact⟨bm c (by decide) jw,λp hp=>q p _ hp (Ext.new hp) aa⟩
 |lck f=>cases hk
 |som n fs=>cases hk
 |led fs k=>cases hk
theorem qR(d:cn.O=fldO c)(h:bA c 1 ds M Q):wSs cn fO (fin Q) (ad [""] ds) M:=by
 obtain⟨a,t,hk,g,rfl,b,q⟩:=h;cases t with
 |lck f=>
  have b:M a=some (.ins (c.at 1) [("fact",.int f)]):=b;show wSs cn fO (fin Q) [↑a] M;unfold fO;simp! only[b,d,oy];exact⟨bm c (by decide) jw,λp hp=>q p _ hp (Ext.new hp) aa⟩
 |hav f=>cases hk
 |som n fs=>cases hk
 |led fs k=>cases hk
def va(b:Bool):D->D
 |.int f=>bM b f
 |d=>d
theorem vb(b:Bool)(fs:Zn):(intL fs).map (va b)=fs.map (bM b):=by
 unfold intL;rw[ZP];rfl
theorem qS(g:cn.O=fldO c)(h:bA c 2 ds M Q):wSs cn fQ (fin Q) (ad [""] ds) M:=by
 obtain⟨a,t,hk,l,rfl,b,q⟩:=h;cases t with
 |som n fs=>
  have b:M a=some (.ins (c.at 2) [("number",.int n),("facts",.tup (intL fs))]):=b;show wSs cn fQ (fin Q) [↑a] M;unfold fQ;simp! only[b,g,u5];refine⟨bm c (by decide) df,?_⟩;refine de (f:=va false) (ok:=λσ=>∃v,σ=[↑a,v]) [] _ ⟨none,rfl⟩ ?_ ?_
  ·intro d hd σ g_ rest ⟨v,j⟩ k
   subst j;obtain⟨f,m,rfl⟩:=List.mem_map.1 hd;exact⟨trivial,k _ ⟨_,rfl⟩⟩
  ·intro p hp
   rw[XG,vb];exact q p _ hp (Ext.new hp) aa
 |hav f=>cases hk
 |lck f=>cases hk
 |led fs k=>cases hk
theorem qT(l:cn.O=fldO c)(h:bA c 3 ds M Q):wSs cn fS (fin Q) (ad [""] ds) M:=by
 obtain⟨a,t,hk,g,rfl,b,q⟩:=h;cases t with
 |led fs k=>
  have b:M a=some (.ins (c.at 3) [("facts",.tup (intL fs)),("at",.int k)]):=b;show wSs cn fS (fin Q) [↑a] M;unfold fS;simp! only[b,l,kb,ud,ox];refine⟨bm c (by decide) df,bm c (by decide) qL,?_⟩;refine de (f:=va true) (ok:=λσ=>∃v,σ=[↑a,v]) [] _ ⟨none,rfl⟩ ?_ ?_
  ·intro d hd σ g_ rest ⟨v,m⟩ k
   subst m;obtain⟨f,z,rfl⟩:=List.mem_map.1 hd;exact⟨trivial,k _ ⟨_,rfl⟩⟩
  ·intro p hp
   rw[XG,vb];have e1:=Ext.new (o:=MO.lst ((fs.take k).map (bM true))) hp;have r:=e1 a _ b;have u:updM M p (MO.lst ((fs.take k).map (bM true))) p=some (.lst ((fs.take k).map (bM true))):=aa;generalize updM M p (MO.lst ((fs.take k).map (bM true)))=M1 at *;simp only[r,kb,ud,rZ g.1.1];refine⟨bm c (by decide) df,bm c (by decide) qL,λp2 w=>?_⟩;have e2:=Ext.new (o:=MO.lst [D.tup [D.int (fs.getD k 0),D.bl false]]) w;have h2:=e2 p _ u;have y:updM M1 p2 (MO.lst [D.tup [D.int (fs.getD k 0),D.bl false]]) p2=some (.lst [D.tup [D.int (fs.getD k 0),D.bl false]]):=aa;generalize updM M1 p2 (MO.lst [D.tup [D.int (fs.getD k 0),D.bl false]])=M2 at *;simp only[h2,y];refine⟨?_,λp3 j=>q p3 _ ?_ ((e1.trans e2).then j) aa⟩
   ·have:((fs.take k).map (bM true)).length<=6:=by rw[ZG];exact YA (List.length_take_le' _ _) g.1.2
    have A:(7:Nat)<=sizeLine:=by decide
    simp only[YM,YX];omega
   ·cases e:M p3 with
    |none=>rfl
    |some o=>have:=(e1.trans e2) p3 o e;rw[j] at this;cases this
 |hav f=>cases hk
 |lck f=>cases hk
 |som n fs=>cases hk
end
theorem Ext.free{M M':MH}{p:Addr}(e:Ext M M')(h:M' p=none):M p=none:=by
 cases q:M p with
 |none=>rfl
 |some o=>have:=e p o q;rw[h] at this;cases this
theorem Ext.put{M M':MH}{p:Addr}{o:MO}(e:Ext M M')(h:M p=none):Ext M (updM M' p o):=λa u q=>by
 have:a≠p:=λz=>by subst z;rw[h] at q;cases q
 rw[aw this];exact e a u q
theorem qU{M M':MH}{x:Addr}{o:MO}(hx:M x=none)(h:∀b,b≠x->M' b=updM M x o b):Ext M M':=λb u e=>by
 have:b≠x:=λz=>by subst z;rw[hx] at e;cases e
 rw[h b this,aw this];exact e
theorem bX{M:MH}{a p:Addr}{o:MO}(h:M a=some o)(hp:M p=none):a≠p:=λz=>by subst z;rw[hp] at h;cases h
theorem ExtBut.refl(p:Addr)(M:MH):ExtBut p M M:=λ_ _ _ h=>h
theorem ExtBut.trans{p:Addr}{M M' d:MH}(a:ExtBut p M M')(b:ExtBut p M' d):ExtBut p M d:=λc o n h=>b c o n (a c o n h)
theorem Ext.but{p:Addr}{M M':MH}(a:Ext M M'):ExtBut p M M':=λc o _ h=>a c o h
theorem ExtBut.upd(p:Addr)(M:MH)(o:MO):ExtBut p M (updM M p o):=λc u n h=>by rw[aw n];exact h
theorem ExtBut.ext{p:Addr}{M M1 M2:MH}(a:Ext M M1)(b:ExtBut p M1 M2)(h:M p=none):Ext M M2:=λc o q=>b c o (bX q h) (a c o q)
theorem sh_:(("have" : Str) == "have")=true:=XI _
theorem s_ss:(("some" : Str) == "some")=true:=XI _
theorem s_ll:(("lack" : Str) == "lack")=true:=XI _
theorem s_dd:(("lead" : Str) == "lead")=true:=XI _
theorem s_lh:(("lack" : Str) == "have")=false:=by rfl'
theorem s_sh:(("some" : Str) == "have")=false:=by rfl'
theorem s_sl:(("some" : Str) == "lack")=false:=by rfl'
theorem s_dh:(("lead" : Str) == "have")=false:=by rfl'
theorem s_dl:(("lead" : Str) == "lack")=false:=by rfl'
theorem s_ds:(("lead" : Str) == "some")=false:=by rfl'
def qV(c:CA):SpD:=λds M Q=>∃t:CT,ds=[t.told]/\∀p M',M p=none->Ext M M'->M' p=some (t.obj c)->Q (.ref p) M'
def mD:Ss:=#v[.ret (.fn 0 #v[.ix (.var 0) (.int 1),.ix (.var 0) (.int 2)])]
def iJ:Ss:=.cons (.ite (.cmp .Eq (.ix (.var 0) (.int 0)) (.str "some")) #v[.ret (.fn 1 #v[.ix (.var 0) (.int 1),.ix (.var 0) (.int 2)])] .nil) mD
def d5:Ss:=.cons (.ite (.cmp .Eq (.ix (.var 0) (.int 0)) (.str "lack")) #v[.ret (.fn 2 #v[.ix (.var 0) (.int 1)])] .nil) iJ
def cP:Ss:=.cons (.ite (.cmp .Eq (.ix (.var 0) (.int 0)) (.str "have")) #v[.ret (.fn 3 #v[.ix (.var 0) (.int 1)])] .nil) d5
section
variable {cn:Cn}{c:CA}{ds:List D}{M:MH}{Q:DK}
theorem Ez(a:cn.F=[aW (c.at 3) (bF c 3),aW (c.at 2) (bF c 2),aW (c.at 1) (bF c 1),aW (c.at 0) (bF c 0)])(h:qV c ds M Q):wSs cn cP (fin Q) (ad [""] ds) M:=by
 obtain⟨t,rfl,q⟩:=h;show wSs cn cP (fin Q) [some t.told] M;cases t with
 |hav f=>
  unfold cP;simp_all! only[CT.told,at0,at1,at2,a,List.getD_cons_zero,List.getD_cons_succ,sh_];exact λx hx=>⟨x,.hav f,rfl,rfl,aa,λM' b h2=>⟨rfl,q x M' hx (qU hx b) h2⟩⟩
 |lck f=>
  unfold cP;simp_all! only[CT.told,at0,at1,at2,a,List.getD_cons_zero,List.getD_cons_succ,s_lh];unfold d5;simp_all! only[CT.told,at0,at1,at2,a,List.getD_cons_zero,List.getD_cons_succ,s_ll];exact λx hx=>⟨x,.lck f,rfl,rfl,aa,λM' b h2=>⟨rfl,q x M' hx (qU hx b) h2⟩⟩
 |som n fs=>
  unfold cP;simp_all! only[CT.told,at0,at1,at2,a,List.getD_cons_zero,List.getD_cons_succ,s_sh];unfold d5;simp_all! only[CT.told,at0,at1,at2,a,List.getD_cons_zero,List.getD_cons_succ,s_sl];unfold iJ;simp_all! only[CT.told,at0,at1,at2,a,List.getD_cons_zero,List.getD_cons_succ,s_ss];exact λx hx=>⟨x,.som n fs,rfl,rfl,aa,λM' b h2=>⟨rfl,q x M' hx (qU hx b) h2⟩⟩
 |led fs k=>
  unfold cP;simp_all! only[CT.told,at0,at1,at2,a,List.getD_cons_zero,List.getD_cons_succ,s_dh];unfold d5;simp_all! only[CT.told,at0,at1,at2,a,List.getD_cons_zero,List.getD_cons_succ,s_dl];unfold iJ;simp_all! only[CT.told,at0,at1,at2,a,List.getD_cons_zero,List.getD_cons_succ,s_ds];unfold mD;simp_all! only[CT.told,at0,at1,at2,a,List.getD_cons_zero,List.getD_cons_succ];exact λx hx=>⟨x,.led fs k,rfl,rfl,aa,λM' b h2=>⟨rfl,q x M' hx (qU hx b) h2⟩⟩
end
theorem cb(n k:Nat):hasB (n:Int) (k:Int)=n.testBit k:=by
 unfold hasB bitZ;rw[Nat.testBit_eq_decide_div_mod_eq,YZ];have e:(n:Int) / 2 ^ k%2=((n / 2 ^ k%2:Nat):Int):=by simp
 rw[e];by_cases h:n / 2 ^ k%2=1
 ·simp[h]
 ·have h2:n / 2 ^ k%2=0:=by omega
  simp[h2]
def av(a b:Nat):Nat:=a ^^^ (a&&&b)
theorem bd(a b k:Nat):(av a b).testBit k=(a.testBit k && !b.testBit k):=by
 unfold av;rw[Nat.testBit_xor,Nat.testBit_and];cases a.testBit k<;>cases b.testBit k<;>rfl
theorem je(a b:Nat):av a b+(a&&&b)=a:=by
 have h:=PyProof.Rows.nat_or_add_and (av a b) (a&&&b);have c:av a b|||(a&&&b)=a:=by
  refine Nat.eq_of_testBit_eq λk=>?_
  rw[Nat.testBit_or,bd,Nat.testBit_and];cases a.testBit k<;>cases b.testBit k<;>rfl
 have h2:av a b&&&(a&&&b)=0:=by
  refine Nat.eq_of_testBit_eq λk=>?_
  rw[Nat.testBit_and,bd,Nat.testBit_and,Nat.zero_testBit];cases a.testBit k<;>cases b.testBit k<;>rfl
 omega
theorem vc(a b:Nat):Builtin.bitOr (a:Int) (b:Int)=((a|||b:Nat):Int):=by
 rw[PyProof.Rows.bitOr_and,PyProof.Rows.bitAnd_pp (by omega) (by omega),YZ,YZ]
 have:=PyProof.Rows.nat_or_add_and a b
 omega
theorem xD(a b:Nat):Builtin.bitAnd (a:Int) (b:Int)=((a&&&b:Nat):Int):=by
 rw[PyProof.Rows.bitAnd_pp (by omega) (by omega),YZ,YZ]
theorem jf(a b:Nat):Builtin.bitAnd (a:Int) (-(b:Int)-1)=((av a b:Nat):Int):=by
 rw[←bitNot_eq,PyProof.Rows.bitAnd_not,xD]
 have:=je a b
 omega
def nats(fs:Zo):List D:=fs.map λ(f:Nat)=>D.int (f:Int)
def setN(fs:Zo):Nat:=fs.foldl (λa f=>a|||2 ^ f) 0
theorem a9(fs:Zo)(k:Nat):(setN fs).testBit k=decide (k∈fs):=by
 have b:∀(fs:Zo) (a:Nat),(fs.foldl (λa f=>a|||2 ^ f) a).testBit k=(a.testBit k||decide (k∈fs)):=by
  intro fs;induction fs with
  |nil=>intro a;simp
  |cons f fs c=>
   intro a;rw[List.foldl_cons,c,Nat.testBit_or,Nat.testBit_two_pow];by_cases e:f=k
   ·subst e;simp
   ·have:k≠f:=λz=>e z.symm
    simp[e,this]
 unfold setN;rw[b];simp
def memb(n:Nat):List Nat:=(List.range (d4 (n:Int))).filter λf=>n.testBit f
theorem cA(n f:Nat):f∈memb n↔n.testBit f=true:=by
 unfold memb;rw[ZY,ZZ];refine⟨λh=>h.2,λh=>⟨?_,h⟩⟩;unfold d4 Builtin.Int.intBits;have hn:n≠0:=λz=>by subst z;simp at h
 have hb:((n:Int)==0)=false:=by rw[ZU];omega
 rw[hb];simp only[XH,if_false,Int.natAbs_natCast];have a:=Nat.ge_two_pow_of_testBit h;have h2:=(Nat.le_log2 hn).2 a;omega
theorem l9(n:Nat):(memb n).Nodup:=List.Pairwise.filter _ List.nodup_range
theorem Cg{n m:Nat}(h:n<2 ^ m):d4 (n:Int)<=m:=by
 unfold d4 Builtin.Int.intBits;by_cases hn:n=0
 ·subst hn;simp
 ·have hb:((n:Int)==0)=false:=by rw[ZU];omega
  rw[hb];simp only[XH,if_false,Int.natAbs_natCast]
  have:=(Nat.log2_lt hn).2 h
  omega
def Meets(d:D)(M:MH)(fs:Zo)(M':MH):Prop:=(d=.tup (nats fs)/\M'=M) \/ ∃a,d=.ref a/\((M a=some (.lst (nats fs))/\M'=M) \/ ∃b,keysOf b=nats fs/\((M a=some (.dic b)/\M'=updM M a (.rod b))\/(M a=some (.rod b)/\M'=M)))
def jx:SpD:=λds M Q=>∃i:Int,ds=[.int i]/\Q (.bl true) M
def cQ:SpD:=λds M Q=>∃i m:Int,ds=[.int i,.int m]/\Q (.bl (decide (0<=i)&&decide (i<m))) M
def cp:SpD:=λds M Q=>∃(d:D) (fs:Zo) (M':MH),ds=[d]/\Meets d M fs M'/\(∀f∈fs,f<=1000)/\Q (.int (setN fs:Nat)) M'
def fD:SpD:=λds M Q=>∃n:Nat,ds=[⇑n]/\n<2 ^ 1000/\∀p M',M p=none->Ext M M'->M' p=some (.lst (nats (memb n)))->Q (.ref p) M'
def jg:SpD:=λds M Q=>∃m:Nat,ds=[⇑m]/\m<=1000/\Q (.int ((2 ^ m-1:Nat):Int)) M
def kU:Ss:=#v[.ret (.and (.bi .isinst #v[.var 0,.ty "int"]) (.not (.bi .isinst #v[.var 0,.ty "bool"])))]
def kW:Ss:=#v[.ret (.and (.fn 0 #v[.var 0]) (.and (.cmp .GtE (.var 0) (.int 0)) (.cmp .Lt (.var 0) (.var 1))))]
def gZ:Ss:=#v[.ret (.var 1)]
def dY:Ss:=#v[.set 1 (.bin .BitOr (.var 1) (.bin .LShift (.int 1) (.var 2)))]
def oR:Ss:=.cons (.for (.nm 2) (.seq (.var 0)) dY) gZ
def nu:Ss:=.cons (.set 1 (.int 0)) oR
def ma:Ss:=#v[.ret (.comp 1 (.var 1) (.nm 1) (.rg1 #v[.mt0 .bits (.var 0)]) (.yes (.val (.fn 0 #v[.var 0,.var 1]))))]
def jO:Ss:=#v[.ret (.bin .Sub (.bin .LShift (.int 1) (.var 0)) (.int 1))]
section
variable {cn:Cn}{ds:List D}{M:MH}{Q:DK}
theorem wo(h:jx ds M Q):wSs cn kU (fin Q) (ad [""] ds) M:=by
 obtain⟨i,rfl,q⟩:=h;show wSs cn kU (fin Q) [some (.int i)] M;unfold kU;simp! only[tyD];refine⟨by decide,?_⟩;show Bif true _ _;refine⟨by decide,?_⟩;exact q
theorem wp(a:cn.F.getD 0 Yl=jx)(h:cQ ds M Q):wSs cn kW (fin Q) (ad ["",""] ds) M:=by
 obtain⟨i,m,rfl,q⟩:=h;show wSs cn kW (fin Q) [some (.int i),some (.int m)] M;unfold kW;simp! only[a];refine⟨i,rfl,?_⟩;show Bif (decide (0<=i)) _ _;cases b:decide (0<=i) with
 |true=>rw[b,XZ] at q;exact q
 |false=>rw[b,Bool.false_and] at q;exact q
theorem vd(h:jg ds M Q):wSs cn jO (fin Q) (ad [""] ds) M:=by
 obtain⟨m,rfl,hm,q⟩:=h;show wSs cn jO (fin Q) [~~~m] M;unfold jO;simp! only[];refine⟨⟨by omega,by omega,by decide⟩,?_⟩;have e:(1:Int)*2 ^ (m:Int).toNat-1=((2 ^ m-1:Nat):Int):=by
  have a:1<=2 ^ m:=Nat.one_le_two_pow;rw[YZ,Int.one_mul,Int.ofNat_sub a];simp
 rw[e];exact q
theorem yT(b:cn.F.getD 0 Yl=ci)(h:fD ds M Q):wSs cn ma (fin Q) (ad [""] ds) M:=by
 obtain⟨n,rfl,hn,q⟩:=h;show wSs cn ma (fin Q) [~~~n] M;unfold ma;simp! only[b,ua,List.cons_append,XG,List.replicate];have hb:=Cg hn;refine⟨trivial,⟨by omega,by omega⟩,?_⟩;refine dX (p:=λd=>match d with | .int f=>hasB (n:Int) f | _=>false) (ok:=λσ=>∃v,σ=[~~~n,v]) [] _ ⟨none,rfl⟩ ?_ ?_
 ·intro d hd σ g_ rest ⟨v,c⟩ k
  subst c;unfold a0 at hd;obtain⟨i,hi,rfl⟩:=List.mem_map.1 hd;refine⟨n,0+(i:Int),rfl,by omega,?_⟩;have a:=k _ ⟨some (.int (0+(i:Int))),rfl⟩;show Bif (hasB (n:Int) (0+(i:Int))) _ _;dsimp only at a;cases hb:hasB (n:Int) (0+(i:Int)) with
  |true=>rw[hb] at a;exact⟨trivial,a⟩
  |false=>rw[hb] at a;exact⟨trivial,by simpa using a⟩
 ·intro p hp
  have e:([]++(a0 0 (d4 (n:Int))).filter (λ(d:D)=>match d with | .int f=>hasB (n:Int) f | _=>false))=nats (memb n):=by
   unfold a0 nats memb;rw[XG,List.filter_map];have g:((d4 (n:Int):Int)-0).toNat=d4 (n:Int):=by omega
   rw[g];have h2:(List.range (d4 (n:Int))).filter ((λ(d:D)=>match d with | .int f=>hasB (n:Int) f | _=>false)∘λ(i:Nat)=>D.int (0+(i:Int)))=(List.range (d4 (n:Int))).filter λf=>n.testBit f:=by
    refine List.filter_congr λi _=>?_
    show hasB (n:Int) (0+(i:Int))=_;rw[Int.zero_add,cb]
   rw[h2];refine ZQ λi _=>?_
   rw[Int.zero_add]
  rw[e];exact q p _ hp (Ext.new hp) aa
theorem tj(h:cp ds M Q):wSs cn nu (fin Q) (ad ["","",""] ds) M:=by
 obtain⟨d,fs,M',rfl,hm,hb,q⟩:=h;show wSs cn nu (fin Q) [some d,none,none] M;unfold nu;simp! only[List.set];unfold oR;simp! only[List.set];have go:∀(g:MH->Prop),g M'->au g (.nm 2) (wSs cn dY) { nx:=wSs cn gZ (fin Q),rt:=Q } (nats fs) [some d,some (.int 0),none] M':=by
  intro g hg;have c:∀(fs:Zo) (a:Nat) (v:Z2),(∀f∈fs,f<=1000)->Q (.int (fs.foldl (λa f=>a|||2 ^ f) a:Nat)) M'->au g (.nm 2) (wSs cn dY) { nx:=wSs cn gZ (fin Q),rt:=Q } (nats fs) [some d,~~~a,v] M':=by
   intro fs;induction fs with
   |nil=>
    intro a v _ q;rw[show nats []=[] from rfl,au];unfold gZ;simp! only[];exact q
   |cons f fs j=>
    intro a v hb q;show au g (.nm 2) (wSs cn dY) _ (⇑f::nats fs) _ M';rw[au];unfold dY;simp! only[List.set];have hf:=hb f (.head _);refine⟨⟨by omega,by omega,by decide⟩,hg,?_⟩;have e:Builtin.bitOr (a:Int) (1*2 ^ (f:Int).toNat)=((a|||2 ^ f:Nat):Int):=by
     rw[←vc];simp
    rw[e];exact j (a|||2 ^ f) _ (λx hx=>hb x (.tail _ hx)) q
  exact c fs 0 none hb q
 rcases hm with⟨rfl,rfl⟩ | ⟨a,rfl,hm⟩
 ·exact go _ trivial
 ·rcases hm with⟨b,rfl⟩ | ⟨k,hk,⟨b,rfl⟩ | ⟨b,rfl⟩⟩
  ·simp only[b]
   exact go _ b
  ·simp only[b,hk]
   exact go _ aa
  ·simp only[b,hk]
   exact go _ b
end
def CT.fit(m:Int):CT->Prop
 |.hav f=>0<=f/\f<m
 |.lck f=>0<=f/\f<m
 |.som n fs=>(1<=n/\n<=6)/\(0<fs.length/\fs.length<=6)/\fs.Nodup/\∀f∈fs,0<=f/\f<m
 |.led fs k=>(k<fs.length/\fs.length<=6)/\fs.Nodup/\∀f∈fs,0<=f/\f<m
theorem CT.fit_ok{m:Int}(hm:m<=120):∀{t:CT},t.fit m->t.ok
 |.hav f,h=>⟨h.1,Int.lt_of_lt_of_le h.2 hm⟩
 |.lck f,h=>⟨h.1,Int.lt_of_lt_of_le h.2 hm⟩
 |.som n fs,h=>⟨h.2.1,λf hf=>⟨(h.2.2.2 f hf).1,Int.lt_of_lt_of_le (h.2.2.2 f hf).2 hm⟩⟩
 |.led fs k,h=>⟨h.1,λf hf=>⟨(h.2.2 f hf).1,Int.lt_of_lt_of_le (h.2.2 f hf).2 hm⟩⟩
def md:SpD:=λds M Q=>∃n:Int,ds=[.int n]/\(1<=n/\n<=6)/\Q (.bl true) M
def kc:SpD:=λds M Q=>∃(fs:Zn) (m:Int),ds=[.tup (intL fs),.int m]/\(0<fs.length/\fs.length<=6)/\fs.Nodup/\(∀f∈fs,0<=f/\f<m)/\∀M',Ext M M'->Q (.bl true) M'
def me:SpD:=λds M Q=>∃(t:CT) (m:Int),ds=[t.told,.int m]/\t.fit m/\∀M',Ext M M'->Q (.bl true) M'
def oz:SpD:=λds M Q=>∃(h m:Int) (p:Addr) (ts:List CT),ds=[.tup [.int h,.ref p],.int m]/\M p=some (.lst (ts.map CT.told))/\(0<=h/\h<m)/\ts.length<=6/\(∀t∈ts,t.fit m)/\∀M',Ext M M'->Q (.bl true) M'
def jP(j:Nat):Ss:=#v[.ret (.and (.fn 0 #v[.var 0]) (.and (.cmp .GtE (.var 0) (.int 1)) (.cmp .LtE (.var 0) (.glob j))))]
def ke:Ss:=#v[.ret (.and (.bi .all #v[.comp 1 (.fn 0 #v[.var 2,.var 1]) (.nm 2) (.seq (.var 0)) .no]) (.cmp .Eq (.lenSet (.var 0)) (.bi .len #v[.var 0])))]
def iK(j:Nat):Ss:=.cons (.ite (.or (.not (.val (.bi .isinst #v[.var 0,.ty "tuple"]))) (.or (.cmp .Lt (.bi .len #v[.var 0]) (.int 1)) (.cmp .Gt (.bi .len #v[.var 0]) (.glob j)))) #v[.ret (.bl false)] .nil) ke
def nv:Ss:=#v[.ret (.and (.cmp .Eq (.ix (.var 0) (.int 0)) (.str "lead")) (.and (.fn 0 #v[.ix (.var 0) (.int 1),.var 1]) (.fn 1 #v[.ix (.var 0) (.int 2),.bi .len #v[.ix (.var 0) (.int 1)]])))]
def jQ:Ss:=.cons (.ite (.cmp .Eq (.ix (.var 0) (.int 0)) (.str "some")) #v[.ret (.and (.fn 2 #v[.ix (.var 0) (.int 1)]) (.fn 0 #v[.ix (.var 0) (.int 2),.var 1]))] .nil) nv
def jR:Ss:=.cons (.ite (.cmp .NotEq (.bi .len #v[.var 0]) (.int 3)) #v[.ret (.bl false)] .nil) jQ
def dg:Ss:=.cons (.ite (.or (.cmp .Eq (.ix (.var 0) (.int 0)) (.str "have")) (.cmp .Eq (.ix (.var 0) (.int 0)) (.str "lack"))) #v[.ret (.and (.cmp .Eq (.bi .len #v[.var 0]) (.int 2)) (.fn 1 #v[.ix (.var 0) (.int 1),.var 1]))] .nil) jR
def dC:Ss:=.cons (.ite (.or (.not (.val (.bi .isinst #v[.var 0,.ty "tuple"]))) (.cmp .Lt (.bi .len #v[.var 0]) (.int 2))) #v[.ret (.bl false)] .nil) dg
def oS:Ss:=#v[.ret (.bi .all #v[.comp 1 (.fn 0 #v[.var 3,.var 1]) (.nm 3) (.seq (.var 2)) .no])]
def oT(j:Nat):Ss:=.cons (.ite (.or (.not (.val (.bi .isinst #v[.var 2,.ty "list"]))) (.cmp .Gt (.bi .len #v[.var 2]) (.glob j))) #v[.ret (.bl false)] .nil) oS
def kX(j:Nat):Ss:=.cons (.set 2 (.ix (.var 0) (.int 1))) (oT j)
def nw(j:Nat):Ss:=.cons (.ite (.or (.not (.val (.bi .isinst #v[.var 0,.ty "tuple"]))) (.or (.cmp .NotEq (.bi .len #v[.var 0]) (.int 2)) (.not (.val (.fn 1 #v[.ix (.var 0) (.int 0),.var 1]))))) #v[.ret (.bl false)] .nil) (kX j)
theorem ve{g:MH->Prop}{t:Tgt}{c:WT}{e:WE}{F:List D->MH->Prop}{f:D->D}{ok:DS->Prop}{M0:MH}:∀{xs:List D}(g_:List D) (σ:DS) (M:MH),ok σ->Ext M0 M ->
  (∀x∈xs,∀σ g_ rest M,ok σ->Ext M0 M->(∀a M',ok a->Ext M0 M'->aH g t c e F rest (g_++[f x]) a M')->aH g t c e F (x::rest) g_ σ M)->(∀M',Ext M0 M'->F (g_++xs.map f) M')->aH g t c e F xs g_ σ M
 |[],g_,σ,M,_,b,_,q=>by
  rw[XC,ZA] at q;exact q M b
 |x::xs,g_,σ,M,h,b,st,q=>st x YC σ g_ xs M h b λa M' h' d=>ve (g_++[f x]) a M' h' d (λy hy=>st y (.tail _ hy)) (by simpa using q)
theorem jS(t:String):isT t t=true:=by unfold isT;simp
theorem pB:∀(l:List D),blsD (l.map λ_=>D.bl true)=some (l.map λ_=>true)
 |[]=>rfl
 |a::l=>by rw[YO,blsD,pB l];rfl
theorem vf{a:Type}(l:List a):(l.map λ_=>true).all id=true:=by simp
theorem AG{f:Int}{fs:Zn}:l0 (intL (f::fs))=none:=rfl
theorem ny:∀(fs:Zn),gY (intL fs)=some fs
 |[]=>rfl
 |f::fs=>by
  show Option.map _ (gY (intL fs))=_;rw[ny fs];rfl
theorem vg{a:Type}[DecidableEq a]:∀(ks l:List a),(l++ks).Nodup->ks.foldl addK l=l++ks
 |[],l,_=>by simp
 |k::ks,l,h=>by
  have hk:k∉l:=λz=>by
   have:=(List.nodup_append.1 h).2.2 k z k (.head _)
   exact this rfl
  rw[List.foldl_cons,addK,if_neg hk,vg ks (l++[k]) (by simpa using h)];simp
theorem wq{a:Type}[DecidableEq a](l:List a)(h:l.Nodup):(aV l).length=l.length:=by
 unfold aV;rw[vg l [] (by simpa using h)];simp
section
variable {cn:Cn}{ds:List D}{M:MH}{Q:DK}{j:Nat}
theorem vh(a:cn.F.getD 0 Yl=jx)(b:cn.G.getD j .non=.int 6)(h:md ds M Q):wSs cn (jP j) (fin Q) (ad [""] ds) M:=by
 obtain⟨n,rfl,hn,q⟩:=h;show wSs cn (jP j) (fin Q) [some (.int n)] M;unfold jP;simp! only[a,b];refine⟨n,rfl,?_⟩;have c:decide ((1:Int)<=n)=true:=YY hn.1;have d:decide (n<=(6:Int))=true:=YY hn.2;simp only[c,d,aZ];exact q
theorem tO(b:cn.F.getD 0 Yl=cQ)(c:cn.G.getD j .non=.int 6)(h:kc ds M Q):wSs cn (iK j) (fin Q) (ad ["",""] ds) M:=by
 obtain⟨fs,m,rfl,hl,g,hf,q⟩:=h;show wSs cn (iK j) (fin Q) [some (.tup (intL fs)),some (.int m)] M;unfold iK;simp! only[c,tyD,pA];refine⟨by decide,?_⟩;show Bif false _ _;have l:decide ((fs.length:Int)<1)=false:=ZT (by omega);have n:decide ((6:Int)<(fs.length:Int))=false:=ZT (by omega);simp only[l,n,aF];unfold ke;simp! only[b,List.cons_append,XG,List.replicate];refine de (f:=λ_=>.bl true) (ok:=λσ=>∃v,σ=[some (.tup (intL fs)),some (.int m),v]) [] _ ⟨none,rfl⟩ ?_ ?_
 ·intro d hd σ g_ rest ⟨v,r⟩ k
  subst r;obtain⟨f,a,rfl⟩:=List.mem_map.1 hd;refine⟨f,m,rfl,?_⟩;have t:decide (0<=f)=true:=YY (hf f a).1;have h2:decide (f<m)=true:=YY (hf f a).2;rw[t,h2];exact⟨trivial,k _ ⟨_,rfl⟩⟩
 ·intro p hp
  rw[XG,aa];dsimp only;rw[pB];dsimp only;rw[vf];simp only[aZ,seqL];have e1:=Ext.new (o:=MO.lst ((intL fs).map λ_=>D.bl true)) hp;generalize updM M p (MO.lst ((intL fs).map λ_=>D.bl true))=M1 at *;cases fs with
  |nil=>exact absurd hl.1 (by simp)
  |cons f fs=>
   simp only[om,AG,ny,pA];refine⟨by have:=hl.2;omega,⟨rfl,rfl,(by decide:(0:Nat)<=30)⟩,?_⟩;rw[wq _ g,ai,XI];exact q M1 e1
theorem yU(g:cn.F.getD 0 Yl=kc)(d:cn.F.getD 1 Yl=cQ)(o:cn.F.getD 2 Yl=md)(h:me ds M Q):wSs cn dC (fin Q) (ad ["",""] ds) M:=by
 obtain⟨t,m,rfl,a,q⟩:=h;show wSs cn dC (fin Q) [some t.told,some (.int m)] M;have l2:decide (((1+1:Nat):Int)<2)=false:=by decide
 have c:decide (((1+1+1:Nat):Int)<2)=false:=by decide
 have e2:(((1+1:Nat):Int)==2)=true:=by decide
 have l:(((1+1+1:Nat):Int)==3)=true:=by decide
 cases t with
 |hav f=>
  unfold dC;simp_all! only[CT.told,tyD,YM,YX,Nat.zero_add];refine⟨by decide,?_⟩;simp only[jS,Bool.not_true,aF,l2,c];unfold dg;simp_all! only[CT.told,at0,at1,at2,sh_,YM,YX,Nat.zero_add,d];simp only[aZ,e2];refine⟨f,m,rfl,?_⟩;have b:decide (0<=f)=true:=YY a.1;have h2:decide (f<m)=true:=YY a.2;rw[b,h2];exact q M (Ext.refl M)
 |lck f=>
  unfold dC;simp_all! only[CT.told,tyD,YM,YX,Nat.zero_add];refine⟨by decide,?_⟩;simp only[jS,Bool.not_true,aF,l2,c];unfold dg;simp_all! only[CT.told,at0,at1,at2,s_lh,s_ll,YM,YX,Nat.zero_add,d];simp only[aZ,e2];refine⟨f,m,rfl,?_⟩;have b:decide (0<=f)=true:=YY a.1;have h2:decide (f<m)=true:=YY a.2;rw[b,h2];exact q M (Ext.refl M)
 |som n fs=>
  unfold dC;simp_all! only[CT.told,tyD,YM,YX,Nat.zero_add];refine⟨by decide,?_⟩;simp only[jS,Bool.not_true,aF,l2,c];unfold dg;simp_all! only[CT.told,at0,at1,at2,s_sh,s_sl];unfold jR;simp_all! only[CT.told,at0,at1,at2,YM,YX,Nat.zero_add];simp only[Bool.not_true,aF,l];unfold jQ;simp_all! only[CT.told,at0,at1,at2,s_ss,g,o];refine⟨n,rfl,a.1,?_⟩;show Bif true _ _;exact⟨fs,m,rfl,a.2.1,a.2.2.1,a.2.2.2,q⟩
 |led fs k=>
  unfold dC;simp_all! only[CT.told,tyD,YM,YX,Nat.zero_add];refine⟨by decide,?_⟩;simp only[jS,Bool.not_true,aF,l2,c];unfold dg;simp_all! only[CT.told,at0,at1,at2,s_dh,s_dl];unfold jR;simp_all! only[CT.told,at0,at1,at2,YM,YX,Nat.zero_add];simp only[Bool.not_true,aF,l];unfold jQ;simp_all! only[CT.told,at0,at1,at2,s_ds];unfold nv;simp_all! only[CT.told,at0,at1,at2,s_dd,g,d,pA];refine⟨fs,m,rfl,⟨by have:=a.1.1;omega,a.1.2⟩,a.2.1,a.2.2,λM1 e1=>?_⟩;show Bif true _ _;refine⟨k,(fs.length:Int),rfl,?_⟩;have b:decide (0<=(k:Int))=true:=YY (by omega);have h2:decide ((k:Int)<(fs.length:Int))=true:=YY (by have:=a.1.1;omega);rw[b,h2];exact q M1 e1
theorem AH(c:cn.F.getD 0 Yl=me)(g:cn.F.getD 1 Yl=cQ)(l:cn.G.getD j .non=.int 6)(h:oz ds M Q):wSs cn (nw j) (fin Q) (ad ["","",""] ds) M:=by
 obtain⟨hd,m,p,ts,rfl,a,b,hl,hf,q⟩:=h;show wSs cn (nw j) (fin Q) [some (.tup [.int hd,.ref p]),some (.int m),none] M;unfold nw;simp_all! only[List.set,tyD,at0,at1,YM,YX,Nat.zero_add,g];refine⟨by decide,?_⟩;show Bif false _ _;show Bif false _ _;refine⟨hd,m,rfl,?_⟩;have n:decide (0<=hd)=true:=YY b.1;have h2:decide (hd<m)=true:=YY b.2;rw[n,h2];show wSs cn (kX j) (fin Q) _ M;unfold kX;simp_all! only[List.set,at0,at1];unfold oT;simp_all! only[List.set,tyD,a,l,ZG];refine⟨by decide,?_⟩;show Bif false _ _;have o:decide ((6:Int)<(ts.length:Int))=false:=ZT (by omega);simp only[o,aF];unfold oS;simp_all! only[List.set,a,c,List.cons_append,XG,List.replicate];refine ve (f:=λ_=>.bl true) (M0:=M) (ok:=λσ=>∃v,σ=[some (.tup [.int hd,.ref p]),some (.int m),↑p,v]) [] _ M ⟨none,rfl⟩ (Ext.refl M) ?_ ?_
 ·intro d r σ g_ rest M1 ⟨v,u⟩ e1 k
  subst u;obtain⟨t,w,rfl⟩:=List.mem_map.1 r;exact⟨t,m,rfl,hf t w,λM2 e2=>⟨(e1.trans e2) p _ a,k _ M2 ⟨_,rfl⟩ (e1.trans e2)⟩⟩
 ·intro M1 e1 p2 y
  rw[XG,aa];dsimp only;rw[pB];dsimp only;rw[vf];exact q _ (e1.then y)
end
def ag(rs:Zm):List D:=rs.map D.ref
def bP(c:CA)(M:MH)(rs:Zm)(ts:List CT):Prop:=Paired (λr (t:CT)=>M r=some (t.obj c)) rs ts
theorem bP.ext{c:CA}{M M':MH}{rs:Zm}{ts:List CT}(e:Ext M M')(h:bP c M rs ts):bP c M' rs ts:=ld (λr t q=>e r _ q) h
def fT(c:CA):SpD:=λds M Q=>∃(a:Addr) (h m:Int) (rs:Zm) (ts:List CT),ds=[.ref a,.int h,.int m]/\M a=some (.lst (ag rs))/\bP c M rs ts/\(∀t∈ts,t.ok)/\∀M',Ext M M'->Q (.bl (ts.all (CT.carried h m))) M'
def cN(c:CA):SpD:=λds M Q=>∃(rs:Zm) (ts:List CT),ds=[.tup (ag rs)]/\bP c M rs ts/\(∀t∈ts,t.ok)/\ts.length<=6/\∀p M',M p=none->Ext M M'->M' p=some (.lst (ts.flatMap CT.leans))->Q (.ref p) M'
def eO:Ss:=#v[.ret (.bl true)]
def eQ:Ss:=#v[.ite (.not (.val (.mu "carried" (.var 3) #v[.var 1,.var 2]))) #v[.ret (.bl false)] .nil]
def gL:Ss:=.cons (.for (.nm 3) (.seq (.var 0)) eQ) eO
def dJ:Ss:=#v[.ret (.var 1)]
def dL:Ss:=#v[.expr (.mt .extend (.var 1) #v[.mu0 "leaning" (.var 2)])]
def iQ:Ss:=.cons (.for (.nm 2) (.seq (.var 0)) dL) dJ
def fU:Ss:=.cons (.set 1 (.lst .nil)) iQ
theorem wt(t:CT):t.flds.lookup ("carried" : Str)=none:=by cases t<;>rfl
theorem wu(t:CT):t.flds.lookup ("leaning" : Str)=none:=by cases t<;>rfl
theorem AI{t:CT}(h:t.ok):t.leans.length<=7:=by
 cases t with
 |hav f=>exact(by decide:(1:Nat)<=7)
 |lck f=>exact(by decide:(1:Nat)<=7)
 |som n fs=>
  show(fs.map (bM false)).length<=7;rw[ZG];have:=h.1.2;omega
 |led fs k=>
  show((fs.take k).map (bM true)++[bM false (fs.getD k 0)]).length<=7;rw[ZN,ZG,YV]
  have:=h.1.2
  simp only[YM,YX];omega
section
variable {cn:Cn}{c:CA}{ds:List D}{M:MH}{Q:DK}
theorem r0(l:∀t:CT,cn.T (c.at t.kind) "carried" = some (bz c t.kind))(h:fT c ds M Q):wSs cn gL (fin Q) (ad ["","","",""] ds) M:=by
 obtain⟨a,x,m,g,n,rfl,j,hc,d,q⟩:=h;show wSs cn gL (fin Q) [↑a,some (.int x),some (.int m),none] M;unfold gL;simp! only[List.set,j];have f:∀(rs:Zm) (ts:List CT) (v:Z2) (M1:MH),Ext M M1->bP c M rs ts->(∀t∈ts,t.ok)->(∀M',Ext M M'->Q (.bl (ts.all (CT.carried x m))) M') ->
   au (λM'=>M' a=some (.lst (ag g))) (.nm 3) (wSs cn eQ) { nx:=wSs cn eO (fin Q),rt:=Q } (ag rs) [↑a,some (.int x),some (.int m),v] M1:=by
  intro rs ts v M1 e1 hc;induction hc generalizing v M1 with
  |nil=>
   intro _ q;rw[show ag []=[] from rfl,au];unfold eO;simp! only[];exact q M1 e1
  |@cons r t rs ts o _ p=>
   intro d q;rw[show ag (r::rs)=.ref r::ag rs from rfl,au];have k:M1 r=some (.ins (c.at t.kind) t.flds):=e1 r _ o;unfold eQ;simp! only[List.set,k,l,wt];refine⟨trivial,r,t,x,m,rfl,d t (.head _),rfl,k,λM2 e2=>?_⟩;simp only[XT] at q;cases b:t.carried x m with
   |false=>
    rw[b] at q;exact q M2 (e1.trans e2)
   |true=>
    rw[b] at q;refine⟨(e1.trans e2) a _ j,p _ M2 (e1.trans e2) (λt' h'=>d t' (.tail _ h')) ?_⟩;simpa using q
 exact f g n none M (Ext.refl M) hc d q
theorem qW(k:∀t:CT,cn.T (c.at t.kind) "leaning" = some (bA c t.kind))(h:cN c ds M Q):wSs cn fU (fin Q) (ad ["","",""] ds) M:=by
 obtain⟨b,l,rfl,hc,a,hl,q⟩:=h;show wSs cn fU (fin Q) [some (.tup (ag b)),none,none] M;unfold fU;simp! only[List.set];intro p hp;unfold iQ;simp! only[List.set];have d:∀(rs:Zm) (ts:List CT) (v:Z2) (M1:MH) (g_:List D),Ext M M1->M1 p=some (.lst g_)->g_.length+7*ts.length<=42->bP c M rs ts->(∀t∈ts,t.ok)->(∀M',Ext M M'->M' p=some (.lst (g_++ts.flatMap CT.leans))->Q (.ref p) M') ->
   au (λ_=>True) (.nm 2) (wSs cn dL) { nx:=wSs cn dJ (fin Q),rt:=Q } (ag rs) [some (.tup (ag b)),↑p,v] M1:=by
  intro rs ts v M1 g_ e1 f hl hc;induction hc generalizing v M1 g_ with
  |nil=>
   intro _ q;rw[show ag []=[] from rfl,au];unfold dJ;simp! only[];exact q M1 e1 (by simpa using f)
  |@cons r t rs ts m _ n=>
   intro a q;rw[show ag (r::rs)=.ref r::ag rs from rfl,au];have g:M1 r=some (.ins (c.at t.kind) t.flds):=e1 r _ m;have j:=a t (.head _);have z:=AI j;unfold dL;simp! only[List.set,g,f,k,wu];refine⟨rfl,trivial,r,t,rfl,j,rfl,g,λp2 M2 A e2 o=>?_⟩;have u:=e2 p _ f;simp only[u,o];rw[YM] at hl;have B:(42:Nat)<=sizeLine:=by decide
   refine⟨by omega,trivial,?_⟩;have w:M p=none:=hp;have y:Ext M (updM M2 p (.lst (g_++t.leans))):=(e1.trans e2).put w;refine n _ _ (g_++t.leans) y aa (by rw[ZN];omega) (λt' h'=>a t' (.tail _ h')) λM' e' g'=>q M' e' ?_
   rw[List.flatMap_cons,←ZC];exact g'
 exact d b l none _ [] (Ext.new hp) aa (by simp;omega) hc a λM' e' g'=>q p M' hp e' (by simpa using g')
end
def bC(M:MH)(ps:Zm)(L:Nat->MO):Prop:=∀f r,ps[f]?=some r->M r=some (L f)
theorem bC.ext{M M':MH}{ps:Zm}{L:Nat->MO}(e:Ext M M')(h:bC M ps L):bC M' ps L:=λf r q=>e r _ (h f r q)
theorem AJ{b:Type}{ps:List b}{i j:Nat}{a:b}(nd:ps.Nodup)(c:ps[i]?=some a)(h2:ps[j]?=some a):i=j:=
 (List.getElem?_inj (YG.mp c).1 nd).1 (c.trans h2.symm)
theorem bC.put{M:MH}{ps:Zm}{L a:Nat->MO}{h:Nat}{r:Addr}{o:MO}(nd:ps.Nodup)(b:ps[h]?=some r)(s:bC M ps L)(e1:a h=o)(e2:∀f,f≠h->a f=L f):bC (updM M r o) ps a:=λf c q=>by
 by_cases e:f=h
 ·subst e
  rw[b] at q;cases q;rw[aa,e1]
 ·have:c≠r:=λz=>by subst z;exact e (AJ nd q b)
  rw[aw this,e2 f e];exact s f c q
theorem oA{ps:Zm}{f:Nat}{r:Addr}(h:ps[f]?=some r):atI (ag ps) (f:Int)=↑r:=dv (by unfold ag;rw[ZH,h];rfl)
theorem qX(m:Nat):(a0 0 (m:Int)).length=m:=by unfold a0;rw[ZG,ZM];omega
theorem dh(fs:Zo):(nats fs).length=fs.length:=by unfold nats;rw[ZG]
theorem mf{i:Nat}{c:WT}{e:WE}{o:MO}{F:List D->MH->Prop}(M0:MH)(hc:∀σ M Q,Q true M->c σ M Q)(j:∀σ M Q,(∀p,M p=none->Q (.ref p) (updM M p o))->e σ M Q):∀(xs:List D) (ps:Zm) (σ:DS) (M:MH),Ext M0 M->ps.Nodup->(∀p∈ps,M0 p=none/\M p=some o) ->
  (∀g M',Ext M0 M'->g.Nodup->g.length=ps.length+xs.length->(∀p∈g,M0 p=none/\M' p=some o)->F (ag g) M')->aH (λ_=>True) (.nm i) c e F xs (ag ps) σ M
 |[],ps,σ,M,e1,nd,hp,q=>q ps M e1 nd rfl hp
 |x::xs,ps,σ,M,e1,nd,hp,q=>by
  rw[aH];show c _ M _;refine hc _ _ _ ?_;rw[aZ];refine j _ _ _ λp hn=>⟨trivial,?_⟩
  have:ag ps++[D.ref p]=ag (ps++[p]):=by unfold ag;rw[ZO];rfl
  rw[this];refine mf M0 hc j xs (ps++[p]) _ _ (e1.then hn) ?_ ?_ ?_
  ·rw[List.nodup_append]
   refine⟨nd,by simp,λa ha b hb z=>?_⟩;have hb:b=p:=by simpa using hb
   subst hb;subst z
   have:=(hp a ha).2
   rw[hn] at this;cases this
  ·intro a ha
   rw[YF] at ha;rcases ha with ha | ha
   ·exact⟨(hp a ha).1,(Ext.new hn) a _ (hp a ha).2⟩
   ·have ha:a=p:=by simpa using ha
    subst ha;exact⟨e1.free hn,aa⟩
  ·intro g M' a b d f
   refine q g M' a b ?_ f;rw[d,ZN,YM,YM,YX];omega
def bS(a:Zo)(k f:Nat):List Nat:=(List.range k).filter λr=>decide (a[r]?=some f)
theorem qY{a:Zo}{k h:Nat}(f:Nat)(e:a[k]?=some h):bS a (k+1) f=bS a k f++(if f=h then[k] else[]):=by
 unfold bS;rw[List.range_succ,List.filter_append];congr 1;by_cases q:f=h
 ·subst q;simp[e]
 ·have:h≠f:=λz=>q z.symm
  simp[e,q,this]
theorem vi(a:Zo)(k f:Nat):(bS a k f).length<=k:=by
 have:=List.length_filter_le (λr=>decide (a[r]?=some f)) (List.range k)
 rw[ZM] at this;exact this
def fV:SpD:=λds M Q=>∃(m:Nat) (a:Zo),ds=[⇑m,.tup (nats a)]/\m<=1000/\a.length<=1000/\(∀h∈a,h<m) /\
 ∀p ps M',M p=none->Ext M M'->M' p=some (.lst (ag ps))->ps.length=m->bC M' ps (λf=>.lst (nats (bS a a.length f)))->Q (.ref p) M'
def dM:Ss:=#v[.ret (.var 2)]
def dN:Ss:=#v[.expr (.mt .append (.ix (.var 2) (.var 4)) #v[.var 3])]
def iR:Ss:=.cons (.for (.tp [3,4]) (.enum #v[.var 1]) dN) dM
def fW:Ss:=.cons (.setC 2 1 (.lst .nil) (.nm 5) (.rg1 #v[.var 0]) .no) iR
def cj:Ss:=#v[.ret (.comp 1 (.bk .list #v[.var 7]) (.nm 7) (.seq (.var 2)) .no)]
def dO:Ss:=#v[.ite (.not (.val (.var 6))) #v[.putIx (.ix (.var 2) (.var 5)) (.var 3) (.bl true)] .nil]
def dP:Ss:=#v[.for (.tp [5,6]) (.seq (.var 4)) dO]
def iS:Ss:=.cons (.for (.tp [3,4]) (.enum #v[.var 1]) dP) cj
def cX:Ss:=.cons (.setC 2 1 .dnew (.nm 7) (.rg1 #v[.var 0]) .no) iS
def CT.leanP:CT->List (Bool×Int)
 |.hav f=>[(false,f)]
 |.lck f=>[(true,f)]
 |.som _ fs=>fs.map λf=>(false,f)
 |.led fs k=>(fs.take k).map (λf=>(true,f))++[(false,fs.getD k 0)]
def pairD(x:Bool×Int):D:=bM x.1 x.2
theorem Ch(t:CT):t.leans=t.leanP.map pairD:=by
 cases t with
 |hav f=>rfl
 |lck f=>rfl
 |som n fs=>show fs.map (bM false)=(fs.map λf=>(false,f)).map pairD;rw[ZP];rfl
 |led fs k=>show(fs.take k).map (bM true)++[bM false (fs.getD k 0)]=((fs.take k).map (λf=>(true,f))++[(false,fs.getD k 0)]).map pairD;rw[ZO,ZP];rfl
theorem yV(ts:List CT):ts.flatMap CT.leans=(ts.flatMap CT.leanP).map pairD:=by
 rw[List.map_flatMap];congr 1
 funext t;exact Ch t
theorem getD_mem{fs:Zn}{k:Nat}(h:k<fs.length):fs.getD k 0∈fs:=by
 have:fs.getD k 0=fs[k]:=by simp[List.getD,ZE h]
 rw[this];exact List.getElem_mem h
theorem tm{m:Int}{t:CT}(h:t.fit m):∀x∈t.leanP,0<=x.2/\x.2<m:=by
 cases t with
 |hav f=>
  intro x hx;have:x=(false,f):=by simpa [CT.leanP] using hx
  subst this;exact h
 |lck f=>
  intro x hx;have:x=(true,f):=by simpa [CT.leanP] using hx
  subst this;exact h
 |som n fs=>
  intro x hx;obtain⟨f,hf,rfl⟩:=List.mem_map.1 hx;exact h.2.2.2 f hf
 |led fs k=>
  intro x hx;rcases YF.1 hx with hx | hx
  ·obtain⟨f,hf,rfl⟩:=List.mem_map.1 hx
   exact h.2.2 f (List.mem_of_mem_take hf)
  ·have:x=(false,fs.getD k 0):=by simpa using hx
   subst this;exact h.2.2 _ (getD_mem h.1.1)
def aS(l:Zx)(f:Nat):Bool:=decide ((false,(f:Int))∈l)
def br(a:List (List (Bool×Int)))(k f:Nat):List Nat:=(List.range k).filter λr=>aS (a.getD r []) f
theorem yW{a:List (List (Bool×Int))}{k:Nat}{l:Zx}(f:Nat)(e:a[k]?=some l):br a (k+1) f=br a k f++(if aS l f=true then[k] else[]):=by
 unfold br;rw[List.range_succ,List.filter_append];congr 1;have e2:a.getD k []=l:=by rw[List.getD_eq_getElem?_getD,e];rfl
 rw[List.filter_cons,e2,List.filter_nil]
theorem vj{a:List (List (Bool×Int))}{k f r:Nat}(h:r∈br a k f):r<k:=ZZ.1 (ZY.1 h).1
theorem Ci(a:List (List (Bool×Int)))(k f:Nat):(br a k f).length<=k:=by
 have:=List.length_filter_le (λr=>aS (a.getD r []) f) (List.range k)
 rw[ZM] at this;exact this
def rowK(rs:Zo):List (Key×D):=rs.map λ(r:Nat)=>(.inl (r:Int),.bl true)
theorem AK(rs:Zo):keysOf (rowK rs)=nats rs:=by unfold keysOf rowK nats;rw[ZP];rfl
theorem Cj(rs:Zo)(r:Nat):((rowK rs).any λb=>decide (b.1=(.inl (r:Int):Key)))=decide (r∈rs):=by
 induction rs with
 |nil=>simp[rowK]
 |cons a rs c=>
  have:rowK (a::rs)=(.inl (a:Int),.bl true)::rowK rs:=rfl
  rw[this,XM,c];by_cases e:a=r
  ·subst e;simp
  ·have d:r≠a:=λz=>e z.symm
   have h2:¬((a:Int)=(r:Int)):=by omega
   simp[d,h2]
theorem vk(rs:Zo)(r:Nat):putD (rowK rs) (.inl (r:Int)) (.bl true)=rowK (if r∈rs then rs else rs++[r]):=by
 unfold putD;rw[Cj];by_cases e:r∈rs
 ·rw[if_pos (YY e),if_pos e]
  unfold rowK;rw[ZP];refine ZQ λa _=>?_
  show(if(Sum.inl (a:Int):Key)=.inl (r:Int) then _ else _)=_;split<;>rfl
 ·rw[if_neg (by simpa using e),if_neg e]
  unfold rowK;rw[ZO];rfl
def fX:SpD:=λds M Q=>∃(m:Nat) (pl:Addr) (rs:Zm) (a:List (List (Bool×Int))),ds=[⇑m,.ref pl]/\M pl=some (.lst (ag rs))/\rs.length=a.length/\(∀(k:Nat) (r:Addr) (l:Zx),rs[k]?=some r->a[k]?=some l->M r=some (.lst (l.map pairD)))/\m<=1000/\a.length<=1000/\(∀l∈a,∀x∈l,0<=x.2/\x.2<(m:Int)) /\
 ∀p ps M',M p=none->Ext M M'->M' p=some (.lst (ag ps))->ps.length=m->bC M' ps (λf=>.lst (nats (br a a.length f)))->Q (.ref p) M'
section
variable {cn:Cn}{ds:List D}{M:MH}{Q:DK}
theorem qZ(h:fV ds M Q):wSs cn fW (fin Q) (ad ["","","","",""] ds) M:=by
 obtain⟨m,a,rfl,hm,hl,w,q⟩:=h;show wSs cn fW (fin Q) [~~~m,some (.tup (nats a)),none,none,none] M;unfold fW;simp! only[List.cons_append,XG,List.replicate];refine⟨⟨by omega,by omega⟩,?_⟩;refine mf (o:=.lst []) M (λ_ _ _ h=>h) (λ_ _ _ h=>h) (a0 0 (m:Int)) [] _ M (Ext.refl M) .nil (λp hp=>nomatch hp) ?_;intro ps M1 e1 nd y j p hp;rw[qX,YX,Nat.zero_add] at y;have B:M p=none:=e1.free hp;have C:∀r∈ps,r≠p:=λr b=>bX (j r b).2 hp
 have e2:Ext M (updM M1 p (.lst (ag ps))):=e1.then hp;have E:updM M1 p (MO.lst (ag ps)) p=some (.lst (ag ps)):=aa;have s2:bC (updM M1 p (MO.lst (ag ps))) ps (λf=>.lst (nats (bS a 0 f))):=λf r b=>(Ext.new hp) r _ (j r (YW b)).2
 generalize updM M1 p (MO.lst (ag ps))=M2 at *;unfold iR;simp! only[List.set];have l:∀(rest:Zo) (k:Nat) (n t:Z2) (c:MH),a.drop k=rest->k<=a.length->Ext M c->c p=some (.lst (ag ps))->bC c ps (λf=>.lst (nats (bS a k f))) ->
   au (λ_=>True) (.tp [3,4]) (wSs cn dN) { nx:=wSs cn dM (fin Q),rt:=Q } (bH (k:Int) (nats rest)) [~~~m,some (.tup (nats a)),↑p,n,t] c:=by
  intro rest;induction rest with
  |nil=>
   intro k n t c hd F u d g;rw[show nats []=[] from rfl,bH,au];unfold dM;simp! only[];have hk:a.length<=k:=by
    have:=congrArg List.length hd
    rw[XA,YX] at this;omega
   obtain rfl:k=a.length:=by omega
   exact q p ps c B u d y g
  |cons h rest G=>
   intro k n t c hd F u d g;have hk:a[k]?=some h:=by
    have:=congrArg (·[0]?) hd
    simpa using this
   have I:a.drop (k+1)=rest:=by
    have:=congrArg (List.drop 1) hd
    rw[List.drop_drop] at this;simpa using this
   have z:h∈a:=YW hk;have J:k<a.length:=(YG.mp hk).1;obtain⟨r,b⟩:∃r,ps[h]?=some r:=⟨ps[h]'(by have:=w h z;omega),ZE (by have:=w h z;omega)⟩;have A:=YW b;rw[show nats (h::rest)=⇑h::nats rest from rfl,bH,au];unfold dN;simp! only[List.set,d,oA b,g h r b,dh];have hsz:(1000:Nat)<sizeLine:=by decide
   have K:=vi a k h;refine⟨rfl,rfl,by omega,trivial,?_⟩;rw[show((k:Int)+1)=((k+1:Nat):Int) by simp];refine G (k+1) _ _ _ I J (u.put (j r A).1) ?_ ?_
   ·rw[aw (C r A).symm];exact d
   ·refine bC.put nd b g ?_ ?_
    ·show MO.lst _=_
     rw[qY h hk,if_pos rfl];unfold nats;rw[ZO];rfl
    ·intro f hf
     show MO.lst _=_;rw[qY f hk,if_neg hf,ZA]
 exact l a 0 none none M2 rfl (YQ _) e2 E s2
def fY(a:List (List (Bool×Int)))(k:Nat)(b:Zx)(f:Nat):MO:=.dic (rowK (br a k f++(if aS b f=true then[k] else[])))
theorem wv(a:Zx)(g:Int)(f:Nat):aS (a++[(true,g)]) f=aS a f:=by
 unfold aS;congr 1;simp
theorem ww(a:Zx)(f:Nat):aS (a++[(false,(f:Int))]) f=true:=by
 unfold aS;simp
theorem vm(a:Zx){g f:Nat}(h:f≠g):aS (a++[(false,(g:Int))]) f=aS a f:=by
 unfold aS;congr 1;have:¬(f:Int)=(g:Int):=by omega
 simp[this]
theorem AL(a:List (List (Bool×Int)))(k:Nat)(b:Zx)(g:Nat):MO.dic (putD (rowK (br a k g++(if aS b g=true then[k] else[]))) (.inl (k:Int)) (.bl true))=fY a k (b++[(false,(g:Int))]) g:=by
 unfold fY;rw[vk,ww,if_pos rfl];have hk:k∉br a k g:=λz=>absurd (vj z) (ZW _)
 by_cases e:aS b g=true
 ·rw[if_pos e,if_pos (by simp)]
 ·rw[if_neg e,ZA,if_neg hk]
theorem q0(h:fX ds M Q):wSs cn cX (fin Q) (ad ["","","","","","",""] ds) M:=by
 obtain⟨m,pl,rs,a,rfl,IH,J1,KU,hm,hl,hf,q⟩:=h;show wSs cn cX (fin Q) [~~~m,↑pl,none,none,none,none,none] M;unfold cX;simp! only[List.cons_append,XG,List.replicate];refine⟨⟨by omega,by omega⟩,?_⟩;refine mf (o:=.dic []) M (λ_ _ _ h=>h) (λ_ _ _ h=>h) (a0 0 (m:Int)) [] _ M (Ext.refl M) .nil (λp hp=>nomatch hp) ?_;intro ps M1 e1 nd o_ W p hp;rw[qX,YX,Nat.zero_add] at o_;have HV:M p=none:=e1.free hp;have Hd:∀r∈ps,r≠p:=λr A=>bX (W r A).2 hp
 have e2:Ext M (updM M1 p (.lst (ag ps))):=e1.then hp;have g2:updM M1 p (MO.lst (ag ps)) p=some (.lst (ag ps)):=aa;have s2:bC (updM M1 p (MO.lst (ag ps))) ps (fY a 0 []):=λf r A=>(Ext.new hp) r _ (W r (YW A)).2
 generalize updM M1 p (MO.lst (ag ps))=M2 at *;unfold iS;simp! only[List.set,e2 pl _ IH];have last:∀(C F j n:Z2) (c:MH),Ext M c->c p=some (.lst (ag ps))->bC c ps (fY a a.length [])->wSs cn cj (fin Q) [~~~m,↑pl,↑p,C,F,j,n] c:=by
  intro C F j n c G L P;unfold cj;simp! only[L,List.cons_append,XG,List.replicate,dBk,dW];have X:∀(rest:Zm) (k:Nat) (u:Zm) (v:Z2) (d:MH),ps.drop k=rest->k<=ps.length->u.length=k->Ext c d->bC d u (λf=>.lst (nats (br a a.length f))) ->
    aH (λM'=>M' p=some (.lst (ag ps))) (.nm 7) (wTo cn .no) (wE cn (.bk .list (.cons (.var 7) .nil))) (λds M'=>∀p,M' p=none->Q (.ref p) (updM M' p (.lst ds))) (ag rest) (ag u) [~~~m,↑pl,↑p,C,F,j,n,v] d:=by
   intro rest;induction rest with
   |nil=>
    intro k u v d hd Y hq t B;rw[show ag []=[] from rfl,aH];intro p2 I;have hk:ps.length<=k:=by
     have:=congrArg List.length hd
     rw[XA,YX] at this;omega
    exact q p2 u _ ((G.trans t).free I) ((G.trans t).then I) aa (by omega) (B.ext (Ext.new I))
   |cons r rest Z=>
    intro k u v d hd Y hq t B;have hk:ps[k]?=some r:=by
     have:=congrArg (·[0]?) hd
     simpa using this
    have HI:ps.drop (k+1)=rest:=by
     have:=congrArg (List.drop 1) hd
     rw[List.drop_drop] at this;simpa using this
    have L6:k<ps.length:=(YG.mp hk).1;have Sr:d r=some (.dic (rowK (br a a.length k))):=by
     rw[t r _ (P k r hk)];unfold fY;rw[if_neg (by unfold aS;simp),ZA]
    rw[show ag (r::rest)=.ref r::ag rest from rfl,aH];simp! only[List.set,dBk,dW,Sr,rdD,AK];intro p2 I;refine⟨(t.trans (Ext.new I)) p _ L,?_⟩;have:ag u++[D.ref p2]=ag (u++[p2]):=by unfold ag;rw[ZO];rfl
    rw[this];refine Z (k+1) (u++[p2]) _ _ HI L6 (by rw[ZN,hq];rfl) (t.then I) λf J w=>?_
    by_cases Su:f<u.length
    ·rw[ZF Su] at w
     exact(Ext.new I) J _ (B f J w)
    ·rw[ZI (by omega)] at w
     have hz:f-u.length=0:=by
      have:=(YG.mp w).1
      simp only[YM,YX] at this;omega
     rw[hz] at w;have:p2=J:=by simpa using w
     subst this;obtain rfl:f=k:=by omega
     exact aa
  exact X ps 0 [] none c rfl (YQ _) rfl (Ext.refl c) (λf r A=>by simp at A)
 have outer:∀(rest:Zm) (k:Nat) (C F j n:Z2) (c:MH),rs.drop k=rest->k<=rs.length->Ext M c->c p=some (.lst (ag ps))->bC c ps (fY a k []) ->
   au (λM'=>M' pl=some (.lst (ag rs))) (.tp [3,4]) (wSs cn dP) { nx:=wSs cn cj (fin Q),rt:=Q } (bH (k:Int) (ag rest)) [~~~m,↑pl,↑p,C,F,j,n] c:=by
  intro rest;induction rest with
  |nil=>
   intro k C F j n c hd Y G L P;rw[show ag []=[] from rfl,bH,au];have hk:rs.length<=k:=by
    have:=congrArg List.length hd
    rw[XA,YX] at this;omega
   obtain rfl:k=a.length:=by omega
   exact last C F j n c G L P
  |cons r rest Z=>
   intro k C F j n c hd Y G L P;have hk:rs[k]?=some r:=by
    have:=congrArg (·[0]?) hd
    simpa using this
   have HI:rs.drop (k+1)=rest:=by
    have:=congrArg (List.drop 1) hd
    rw[List.drop_drop] at this;simpa using this
   have L6:k<rs.length:=(YG.mp hk).1;obtain⟨l,hlk⟩:∃l,a[k]?=some l:=⟨a[k]'(by omega),ZE (by omega)⟩;have A:=KU k r l hk hlk;have OT:=hf l (YW hlk);rw[show ag (r::rest)=.ref r::ag rest from rfl,bH,au];unfold dP;simp! only[List.set,G r _ A];refine⟨rfl,?_⟩;have K:∀(O y:Zx) (j n:Z2) (d:MH),l=y++O->Ext M d->d p=some (.lst (ag ps))->bC d ps (fY a k y)->∀(N:DS->MH->Prop),
     (∀w5 w6 M5,Ext M M5->M5 p=some (.lst (ag ps))->bC M5 ps (fY a k l)->N [~~~m,↑pl,↑p,~~~k,↑r,w5,w6] M5) ->
     ∀E:EndsD,E.nx=N ->
     au (λM'=>M' r=some (.lst (l.map pairD))) (.tp [5,6]) (wSs cn dO) E (O.map pairD) [~~~m,↑pl,↑p,~~~k,↑r,j,n] d:=by
    intro O;induction O with
    |nil=>
     intro y j n d R t S B N U E V;rw[ZA] at R;subst R;rw[XC,au,V];exact U j n d t S B
    |cons x O L8=>
     intro y j n d R t S B N U E V;obtain⟨b,gi⟩:=x;have hx:=OT (b,gi) (by rw[R];simp);obtain⟨g,rfl⟩:∃g:Nat,gi=(g:Int):=⟨gi.toNat,by have:=hx.1;simp only at this;omega⟩;have Sv:g<ps.length:=by have:=hx.2;simp only at this;omega
     obtain⟨z,hz⟩:∃z,ps[g]?=some z:=⟨ps[g],ZE Sv⟩;have QE:=YW hz;have L9:l=(y++[(b,(g:Int))])++O:=by rw[R];simp
     rw[YO,show pairD (b,(g:Int))=.tup [⇑g,.bl b] from rfl,au];unfold dO;cases b with
     |true=>
      simp! only[List.set,Bool.not_true];refine⟨rfl,t r _ A,L8 _ _ _ d L9 t S (λf J w=>?_) N U E V⟩;rw[B f J w];unfold fY;rw[wv]
     |false=>
      have Sw:d z=some (.dic (rowK (br a k g++(if aS y g=true then[k] else[])))):=B g z hz;simp! only[List.set,Bool.not_false,S,oA hz,Sw];have hsz:(2000:Nat)<sizeLine:=by decide
      have HA:=Ci a k g;refine⟨rfl,?_,?_⟩
      ·unfold rowK
       rw[ZG,ZN];have:(if aS y g=true then[k] else[]).length<=1:=by split<;>simp
       omega
      have T:=t.put (o:=.dic (putD (rowK (br a k g++(if aS y g=true then[k] else[]))) (.inl (k:Int)) (.bl true))) (W z QE).1;refine⟨T r _ A,L8 _ _ _ _ L9 T ?_ (bC.put nd hz B ?_ ?_) N U E V⟩
      ·rw[aw (Hd z QE).symm];exact S
      ·exact(AL a k y g).symm
      ·intro f Sx
       unfold fY;rw[vm y Sx]
   refine K l [] j n c rfl G L P _ ?_ _ rfl;intro w5 w6 M5 T g5 s5;refine⟨T pl _ IH,?_⟩;rw[show((k:Int)+1)=((k+1:Nat):Int) by simp];refine Z (k+1) _ _ _ _ M5 HI L6 T g5 λf J w=>?_
   rw[s5 f J w];unfold fY;rw[yW f hlk,if_neg (show ¬aS [] f=true by unfold aS;simp),ZA]
 exact outer rs 0 none none none none M2 rfl (YQ _) e2 g2 s2
end
abbrev Row:=Nat×List CT
abbrev Z1:=List Row
structure RowsOk (m:Nat) (b_:Z1):Prop where
 most:m<=120
 few:b_.length<=400
 fit:∀x∈b_,x.1<m/\x.2.length<=6/\∀t∈x.2,t.fit (m:Int)
def bI(x:Row):List (Bool×Int):=x.2.flatMap CT.leanP
def aE(b_:Z1):List Nat:=b_.map (·.1)
def aJ(w_:Zy):List D:=w_.map λrs=>.tup (ag rs)
def hid(a:Addr)(M:MH):MH:=λb=>if b=a then none else M b
theorem jy(a:Addr)(M:MH)(o:MO):hid a (updM M a o)=hid a M:=by
 funext b;unfold hid updM;split<;>rfl
theorem vn{a b:Addr}{M:MH}(h:b≠a):hid a M b=M b:=if_neg h
theorem bw{a:Addr}{M M':MH}(e:Ext M M'):Ext (hid a M) (hid a M'):=λb o q=>by
 unfold hid at q ⊢;split at q
 ·cases q
 ·rename_i n
  rw[if_neg n];exact e b o q
theorem ig(a:Addr)(M:MH):Ext (hid a M) M:=λb o q=>by
 unfold hid at q;split at q
 ·cases q
 ·exact q
theorem fE{a b S:Addr}{M:MH}{fs:List (Str×D)}{xs:List D}(ha:M a=some (.ins S fs))(hb:M b=some (.lst xs)):hid a M b=some (.lst xs):=by
 rw[vn]
 ·exact hb
 ·intro z;subst z;rw[ha] at hb;cases hb
theorem EA{a b S:Addr}{M M':MH}{fs:List (Str×D)}{o:MO}(ha:M a=some (.ins S fs))(hb:M b=none)(h:M' b=some o):hid a M' b=some o:=by
 rw[vn]
 ·exact h
 ·intro z;subst z;rw[ha] at hb;cases hb
def aM(M:MH)(y_:List D)(b_:Z1):Prop:=Paired (λd (x:Row)=>∃q,d=.tup [⇑x.1,.ref q]/\M q=some (.lst (x.2.map CT.told))) y_ b_
theorem aM.ext{M M':MH}{y_:List D}{b_:Z1}(e:Ext M M')(h:aM M y_ b_):aM M' y_ b_:=ld (λ_ _ ⟨q,a,b⟩=>⟨q,a,e q _ b⟩) h
theorem aM.hid{a S:Addr}{M:MH}{fs:List (Str×D)}{y_:List D}{b_:Z1}(ha:M a=some (.ins S fs))(h:aM M y_ b_):aM (SH.hid a M) y_ b_:=ld (λ_ _ ⟨q,a,b⟩=>⟨q,a,fE ha b⟩) h
def eR(c:CA)(M:MH)(w_:Zy)(b_:Z1):Prop:=Paired (λrs (x:Row)=>bP c M rs x.2) w_ b_
theorem eR.ext{c:CA}{M M':MH}{w_:Zy}{b_:Z1}(e:Ext M M')(h:eR c M w_ b_):eR c M' w_ b_:=ld (λ_ _ q=>bP.ext e q) h
def di(m:Nat)(b_:Z1)(w_:Zy)(p1 p2 p3:Addr):List (Str×D):=[("many",⇑m),("heads",.tup (nats (aE b_))),("conds",.tup (aJ w_)),("headed",.ref p1),("leanings",.ref p2),("helped",.ref p3)]
def oB(M:MH)(ps:Zm)(b_:Z1):Prop:=ps.length=b_.length/\∀(k:Nat) (r:Addr) (x:Row),ps[k]?=some r->b_[k]?=some x->M r=some (.lst ((bI x).map pairD))
structure SheetAt (c:CA) (S:Addr) (M:MH) (a:Addr) (m:Nat) (b_:Z1):Prop where
 ok:RowsOk m b_
 ex:∃(w_:Zy) (p1 p2 p3:Addr) (HM Hr HX:Zm),M a=some (.ins S (di m b_ w_ p1 p2 p3))/\eR c M w_ b_ /\
  (M p1=some (.lst (ag HM))/\HM.length=m/\bC M HM (λf=>.lst (nats (bS (aE b_) b_.length f)))) /\
  (M p2=some (.lst (ag Hr))/\oB M Hr b_) /\
  (M p3=some (.lst (ag HX))/\HX.length=m/\bC M HX (λf=>.lst (nats (br (b_.map bI) b_.length f))))
theorem SheetAt.ext{c:CA}{S:Addr}{M M':MH}{a:Addr}{m:Nat}{b_:Z1}(e:Ext M M')(h:SheetAt c S M a m b_):SheetAt c S M' a m b_:=by
 obtain⟨ok,w_,p1,p2,p3,HM,Hr,HX,d,h2,⟨f,g,j⟩,⟨l,b⟩,n,o,p⟩:=h;exact⟨ok,w_,p1,p2,p3,HM,Hr,HX,e _ _ d,h2.ext e,⟨e _ _ f,g,j.ext e⟩,⟨e _ _ l,b.1,λk r x t u=>e _ _ (b.2 k r x t u)⟩,e _ _ n,o,p.ext e⟩
def ii:List Str:=["many","heads","conds","headed","leanings","helped"]
def cR(c:CA)(S:Addr):SpD:=λds M Q=>∃(a:Addr) (m:Nat) (b:Addr) (y_:List D) (b_:Z1),ds=[.ref a,⇑m,.ref b]/\M a=some (.ins S [])/\M b=some (.lst y_)/\aM M y_ b_/\RowsOk m b_ /\
 ∀M',ExtBut a M M'->SheetAt c S M' a m b_->Q .non M'
def ik(c:CA)(S:Addr):SpD:=λds M Q=>∃(a:Addr) (m:Nat) (b_:Z1),ds=[.ref a]/\SheetAt c S M a m b_/\Q (⇑m) M
def il(c:CA)(S:Addr):SpD:=λds M Q=>∃(a:Addr) (m:Nat) (b_:Z1) (f:Nat),ds=[.ref a,⇑f]/\SheetAt c S M a m b_/\f<m/\∀p M',M p=none->Ext M M'->M' p=some (.lst (nats (bS (aE b_) b_.length f)))->Q (.ref p) M'
def dj(c:CA)(S:Addr):SpD:=λds M Q=>∃(a:Addr) (m:Nat) (b_:Z1) (f:Nat),ds=[.ref a,⇑f]/\SheetAt c S M a m b_/\f<m/\∀p M',M p=none->Ext M M'->M' p=some (.lst (nats (br (b_.map bI) b_.length f)))->Q (.ref p) M'
def gM(c:CA)(S:Addr):SpD:=λds M Q=>∃(a:Addr) (m:Nat) (b_:Z1) (r:Nat) (x:Row),ds=[.ref a,⇑r]/\SheetAt c S M a m b_/\b_[r]?=some x/\Q (⇑x.1) M
def im(c:CA)(S:Addr):SpD:=λds M Q=>∃(a:Addr) (m:Nat) (b_:Z1) (r:Nat) (x:Row),ds=[.ref a,⇑r]/\SheetAt c S M a m b_/\b_[r]?=some x/\∀p rs M',M p=none->Ext M M'->M' p=some (.lst (ag rs))->bP c M' rs x.2->Q (.ref p) M'
def dQ:Ss:=#v[.ret (.fld (.var 0) "many")]
def dR:Ss:=#v[.ret (.bk .list #v[.ix (.fld (.var 0) "headed") (.var 1)])]
def cB:Ss:=#v[.ret (.bk .list #v[.ix (.fld (.var 0) "helped") (.var 1)])]
def eU:Ss:=#v[.ret (.ix (.fld (.var 0) "heads") (.var 1))]
def dS:Ss:=#v[.ret (.bk .list #v[.ix (.fld (.var 0) "conds") (.var 1)])]
section
variable {m:Nat}{b_:Z1}{w_:Zy}{p1 p2 p3:Addr}
theorem EB:(di m b_ w_ p1 p2 p3).lookup ("many" : Str)= ~~~m:=rfl
theorem Ck:(di m b_ w_ p1 p2 p3).lookup ("heads" : Str)=some (.tup (nats (aE b_))):=rfl
theorem Cl:(di m b_ w_ p1 p2 p3).lookup ("conds" : Str)=some (.tup (aJ w_)):=rfl
theorem AM:(di m b_ w_ p1 p2 p3).lookup ("headed" : Str)=↑p1:=rfl
theorem AN:(di m b_ w_ p1 p2 p3).lookup ("helped" : Str)=↑p3:=rfl
end
section
variable {cn:Cn}{c:CA}{S:Addr}{ds:List D}{M:MH}{Q:DK}
theorem wx(b:∀f∈ii,cn.O S f)(h:ik c S ds M Q):wSs cn dQ (fin Q) (ad [""] ds) M:=by
 obtain⟨a,m,b_,rfl,⟨ok,w_,p1,p2,p3,HM,Hr,HX,d,-⟩,q⟩:=h;show wSs cn dQ (fin Q) [↑a] M;unfold dQ;simp! only[d,EB];exact⟨b _ (by rfl'),q⟩
theorem wy(b:∀f∈ii,cn.O S f)(h:il c S ds M Q):wSs cn dR (fin Q) (ad ["",""] ds) M:=by
 obtain⟨a,m,b_,f,rfl,⟨ok,w_,p1,p2,p3,HM,Hr,HX,d,-,⟨g,k,j⟩,-,-⟩,hf,q⟩:=h;show wSs cn dR (fin Q) [↑a,~~~f] M;have hz:HM[f]?=some (HM[f]'(by omega)):=ZE (by omega);unfold dR;simp! only[d,AM,g,oA hz,dBk,dW,j f _ hz,rdD,rdL];exact⟨b _ (by rfl'),λp hp=>q p _ hp (Ext.new hp) aa⟩
theorem r9(b:∀f∈ii,cn.O S f)(h:dj c S ds M Q):wSs cn cB (fin Q) (ad ["",""] ds) M:=by
 obtain⟨a,m,b_,f,rfl,⟨ok,w_,p1,p2,p3,HM,Hr,HX,d,-,-,-,g,k,j⟩,hf,q⟩:=h;show wSs cn cB (fin Q) [↑a,~~~f] M;have hz:HX[f]?=some (HX[f]'(by omega)):=ZE (by omega);unfold cB;simp! only[d,AN,g,oA hz,dBk,dW,j f _ hz,rdD,rdL];exact⟨b _ (by rfl'),λp hp=>q p _ hp (Ext.new hp) aa⟩
theorem yX(b:∀f∈ii,cn.O S f)(h:gM c S ds M Q):wSs cn eU (fin Q) (ad ["",""] ds) M:=by
 obtain⟨a,m,b_,r,x,rfl,⟨ok,w_,p1,p2,p3,HM,Hr,HX,d,-⟩,g,q⟩:=h;show wSs cn eU (fin Q) [↑a,~~~r] M;have hz:atI (nats (aE b_)) (r:Int)= ~~~x.1:=dv (by unfold nats aE;rw[ZH,ZH,g];rfl);unfold eU;simp! only[d,Ck,hz];exact⟨b _ (by rfl'),q⟩
theorem xE{f d:Type}{F:f->d->Prop}:∀{l:List f}{m:List d}{i:Nat}{b:d},Paired F l m->m[i]?=some b->∃a,l[i]?=some a/\F a b
 |_,_,_,_,.nil,h=>by simp at h
 |_,_,0,_,.cons r _,h=>by
  rw[XX] at h;cases h;exact⟨_,rfl,r⟩
 |_,_,i+1,_,.cons _ t,h=>xE (i:=i) t (by simpa using h)
theorem wz(b:∀f∈ii,cn.O S f)(h:im c S ds M Q):wSs cn dS (fin Q) (ad ["",""] ds) M:=by
 obtain⟨a,m,b_,r,x,rfl,⟨ok,w_,p1,p2,p3,HM,Hr,HX,d,h2,-⟩,g,q⟩:=h;show wSs cn dS (fin Q) [↑a,~~~r] M;obtain⟨rs,j,hc⟩:=xE h2 g;have hz:atI (aJ w_) (r:Int)=some (.tup (ag rs)):=dv (by unfold aJ;rw[ZH,j];rfl);unfold dS;simp! only[d,Cl,hz,dBk,dW];exact⟨b _ (by rfl'),λp hp=>q p rs _ hp (Ext.new hp) aa (hc.ext (Ext.new hp))⟩
end
def kf:Ss:=#v[.setF (.var 0) "helped" (.fn 0 #v[.var 1,.fld (.var 0) "leanings"])]
def kg:Ss:=.cons (.setF (.var 0) "leanings" (.comp 1 (.fn 1 #v[.var 5]) (.nm 5) (.seq (.fld (.var 0) "conds")) .no)) kf
def kh:Ss:=.cons (.setF (.var 0) "headed" (.fn 2 #v[.var 1,.fld (.var 0) "heads"])) kg
def kj:Ss:=.cons (.setF (.var 0) "conds" (.bi .tuple #v[.comp 1 (.bi .tuple #v[.comp 1 (.fn 3 #v[.var 6]) (.nm 6) (.seq (.ix (.var 5) (.int 1))) .no]) (.nm 5) (.seq (.var 2)) .no])) kh
def kl:Ss:=.cons (.setF (.var 0) "heads" (.bi .tuple #v[.comp 1 (.ix (.var 5) (.int 0)) (.nm 5) (.seq (.var 2)) .no])) kj
def cY:Ss:=.cons (.setF (.var 0) "many" (.var 1)) kl
def cZ:Ss:=#v[.ite (.not (.val (.fn 4 #v[.var 4,.var 1]))) #v[.never] .nil]
def km:Ss:=.cons (.for (.tp [3,4]) (.enum #v[.var 2]) cZ) cY
def iL(j l:Nat):Ss:=.cons (.ite (.or (.not (.val (.fn 5 #v[.var 1,.bin .Add (.glob j) (.int 1)]))) (.or (.not (.val (.bi .isinst #v[.var 2,.ty "list"]))) (.cmp .Gt (.bi .len #v[.var 2]) (.glob l)))) #v[.never] .nil) km
abbrev sF1(x:D):List (Str×D):=[("many",x)]
abbrev sF2(x y:D):List (Str×D):=[("many",x),("heads",y)]
abbrev sF3(x y z:D):List (Str×D):=[("many",x),("heads",y),("conds",z)]
abbrev sF4(x y z u:D):List (Str×D):=[("many",x),("heads",y),("conds",z),("headed",u)]
abbrev sF5(x y z u v:D):List (Str×D):=[("many",x),("heads",y),("conds",z),("headed",u),("leanings",v)]
abbrev sF6(x y z u v w:D):List (Str×D):=[("many",x),("heads",y),("conds",z),("headed",u),("leanings",v),("helped",w)]
theorem pf0(x:D):ce ("many" : Str) x []=sF1 x:=rfl
theorem pf1(x y:D):ce ("heads" : Str) y (sF1 x)=sF2 x y:=rfl
theorem pf2(x y z:D):ce ("conds" : Str) z (sF2 x y)=sF3 x y z:=rfl
theorem pf3(x y z u:D):ce ("headed" : Str) u (sF3 x y z)=sF4 x y z u:=rfl
theorem pf4(x y z u v:D):ce ("leanings" : Str) v (sF4 x y z u)=sF5 x y z u v:=rfl
theorem pf5(x y z u v w:D):ce ("helped" : Str) w (sF5 x y z u v)=sF6 x y z u v w:=rfl
theorem lf2(x y z:D):List.lookup ("heads" : Str) (sF3 x y z)=some y:=rfl
theorem lf3(x y z u:D):List.lookup ("conds" : Str) (sF4 x y z u)=some z:=rfl
theorem lf4(x y z u v:D):List.lookup ("leanings" : Str) (sF5 x y z u v)=some v:=rfl
theorem Cm{M:MH}{y_:List D}{b_:Z1}(h:aM M y_ b_):([]++y_.map λd=>match d with | .tup (h::_)=>h | _=>.non)=nats (aE b_):=by
 rw[XG];induction h with
 |nil=>rfl
 |@cons d x ds rs hd _ a=>
  obtain⟨b,rfl,-⟩:=hd;rw[YO,a];rfl
section
variable {cn:Cn}{c:CA}{S:Addr}
theorem tq{g:MH->Prop}{tc:WT}{te:WE}{F:List D->MH->Prop}{a:Addr}{fs:List (Str×D)}{σ0:DS}{i:Nat}{M0:MH}(hc:∀σ M Q,Q true M->tc σ M Q)(hg:∀M,Ext M0 M->g M)
  (d:∀(t:CT) (M:MH) (Q:DK),(∀p M',M p=none->Ext M M'->M' p=some (t.obj c)->Q (.ref p) M')->te (σ0.set i (some (CT.told t))) M Q) (f:∀v w:Option D,(σ0.set i v).set i w=σ0.set i w) (j:M0 a=some (.ins S fs)):
  ∀(ts:List CT) (b:List CT) (rs:Zm) (v:Z2) (M:MH),Ext M0 M->bP c (hid a M) rs b->(∀k M',Ext M0 M'->bP c (hid a M') k (b++ts)->F (ag k) M')->aH g (.nm i) tc te F (ts.map CT.told) (ag rs) (σ0.set i v) M
 |[],b,rs,v,M,e,h,q=>by
  rw[ZA] at q;exact q rs M e h
 |t::ts,b,rs,v,M,e,h,q=>by
  rw[YO,aH];show tc _ M _;refine hc _ _ _ ?_;rw[aZ,f];refine d t M _ λp M' hp e' l=>⟨hg _ (e.trans e'),?_⟩
  have:ag rs++[D.ref p]=ag (rs++[p]):=by unfold ag;rw[ZO];rfl
  rw[this];refine tq hc hg d f j ts (b++[t]) (rs++[p]) _ M' (e.trans e') ?_ (by simpa using q);exact a8 (h.ext (bw e')) (.cons (EA (e a _ j) hp l) .nil)
variable {ds:List D}{M:MH}{Q:DK}{j l:Nat}
theorem tP(V:∀f∈ii,cn.O S f)(f0:cn.F.getD 0 Yl=fX)(f1:cn.F.getD 1 Yl=cN c)(f2:cn.F.getD 2 Yl=fV)(f3:cn.F.getD 3 Yl=qV c)(f4:cn.F.getD 4 Yl=oz)(f5:cn.F.getD 5 Yl=cQ)
  (gj:cn.G.getD j .non=.int 120) (gl:cn.G.getD l .non=.int 400) (h:cR c S ds M Q):wSs cn (iL j l) (fin Q) (ad ["","","","",""] ds) M:=by
 obtain⟨a,m,C,y_,b_,rfl,ha,ID,hR,ok,q⟩:=h;show wSs cn (iL j l) (fin Q) [↑a,~~~m,↑C,none,none] M;have QF:=ok.most;have TY:=ok.few;have J1:y_.length=b_.length:=jC hR;unfold iL;simp_all! only[List.set,tyD,ID,f5,gj,gl];refine⟨(m:Int),120+1,rfl,?_⟩;have h1:decide (0<=(m:Int))=true:=YY (by omega);have h2:decide ((m:Int)<120+1)=true:=YY (by omega);simp only[h1,h2,Bool.and_self,Bool.not_true,aF,aZ];refine⟨by decide,?_⟩;simp only[ID,jS,Bool.not_true,aF];have b2:decide ((400:Int)<(y_.length:Int))=false:=ZT (by omega);simp only[b2,aF];unfold km;simp_all! only[List.set,ID];have rest:∀(w z:Z2) (M1:MH),Ext M M1->wSs cn cY (fin Q) [↑a,~~~m,↑C,w,z] M1:=by
  intro w z M1 e1;have JB:=e1 _ _ ha;have R1:aM (hid a M1) y_ b_:=(hR.ext e1).hid JB;have J4:hid a M1 C=some (.lst y_):=fE JB (e1 _ _ ID);have x1:Ext (hid a M) (hid a M1):=bw e1;unfold cY;simp_all! only[List.set,JB,pf0];refine⟨⟨V _ (by rfl'),by decide⟩,?_⟩;have KW:updM M1 a (MO.ins S (sF1 (⇑m))) a=some (.ins S (sF1 (⇑m))):=aa;have g:=jy a M1 (MO.ins S (sF1 (⇑m)));generalize updM M1 a (MO.ins S (sF1 (⇑m)))=M2 at *;rw[←g] at R1 J4 x1;clear g JB e1;clear M1;have KY:=ig a M2 _ _ J4
  -- heads
  unfold kl;simp_all! only[List.set,List.cons_append,XG,List.replicate,KY];refine de (f:=λd=>match d with | .tup (h::_)=>h | _=>.non) (ok:=λσ=>∃v,σ=[↑a,~~~m,↑C,w,z,v]) [] _ ⟨none,rfl⟩ ?_ ?_
  ·intro d hd σ g_ Hi ⟨v,hv⟩ k
   subst hv;obtain⟨i,hi⟩:=XY hd;obtain⟨x,-,A,rfl,-⟩:=cM R1 hi;rw[aH];simp_all! only[List.set,at0];exact⟨KY,k _ ⟨_,rfl⟩⟩
  intro p hp;have heads:=Cm R1;rw[heads];have e3:=Ext.new (o:=MO.lst (nats (aE b_))) hp;have g3:updM M2 p (MO.lst (nats (aE b_))) p=some (.lst (nats (aE b_))):=aa;generalize updM M2 p (MO.lst (nats (aE b_)))=M3 at *;have Mm:=e3 _ _ KW;simp only[g3,rdL,Mm,pf1];refine⟨⟨V _ (by rfl'),(by decide:(1:Nat)<1000)⟩,?_⟩;have x3:Ext (hid a M) (hid a M3):=x1.trans (bw e3);have R3:=R1.ext (bw (a:=a) e3);have KZ:=bw (a:=a) e3 _ _ J4;clear R1 J4 x1 KW e3 g3 KY hp heads;clear M2;have Mn:updM M3 a (MO.ins S (sF2 (⇑m) (.tup (nats (aE b_))))) a=some (.ins S (sF2 (⇑m) (.tup (nats (aE b_))))):=aa;have g:=jy a M3 (MO.ins S (sF2 (⇑m) (.tup (nats (aE b_)))));generalize updM M3 a (MO.ins S (sF2 (⇑m) (.tup (nats (aE b_)))))=W at *;rw[←g] at R3 KZ x3;clear g Mm;clear M3;have K0:=ig a W _ _ KZ
  -- Ig
  unfold kj;simp_all! only[List.set,List.cons_append,XG,List.replicate,K0];have hm:∀(x:Row) (A:Addr) (M5:MH) (K:DK),M5 a=some (.ins S (sF2 (⇑m) (.tup (nats (aE b_)))))->M5 A=some (.lst (x.2.map CT.told))->(∀rs n,Ext M5 n->bP c (hid a n) rs x.2->K (.tup (ag rs)) n) ->
    wE cn (.bi .tuple (.cons (.comp 1 (.fn 3 (.cons (.var 6) .nil)) (.nm 6) (.seq (.ix (.var 5) (.int 1))) .no) .nil)) [↑a,~~~m,↑C,w,z,some (.tup [⇑x.1,.ref A])] M5 K:=by
   intro x A M5 K OU IX k;simp_all! only[List.set,List.cons_append,XG,List.replicate,at1,IX,f3];refine tq (c:=c) (S:=S) (a:=a) (M0:=M5) (i:=6) (σ0:=[↑a,~~~m,↑C,w,z,some (.tup [⇑x.1,.ref A]),none]) (λ_ _ _ h=>h) (λn J=>J _ _ IX) ?_ (λ_ _=>rfl) OU x.2 [] [] none M5 (Ext.refl M5) .nil ?_
   ·intro t n K2 k2
    exact⟨t,rfl,k2⟩
   ·intro rs n J OV p hp
    rw[aa];exact k rs _ (J.then hp) (OV.ext (bw (Ext.new hp)))
  have Ig:∀(F:List D->MH->Prop) (xs:List D) (B L:Z1) (w_:Zy) (v:Z2) (M5:MH),aM (hid a W) xs B->Ext W M5->eR c (hid a M5) w_ L->(∀Mo n,Ext W n->eR c (hid a n) Mo (L++B)->F (aJ Mo) n) ->
    aH (λM'=>M' C=some (.lst y_)) (.nm 5) (wTo cn .no) (wE cn (.bi .tuple (.cons (.comp 1 (.fn 3 (.cons (.var 6) .nil)) (.nm 6) (.seq (.ix (.var 5) (.int 1))) .no) .nil))) F xs (aJ w_) [↑a,~~~m,↑C,w,z,v] M5:=by
   intro F xs B L w_ v M5 hp;induction hp generalizing L w_ v M5 with
   |nil=>
    intro T h5 k;rw[aH];rw[ZA] at k;exact k w_ M5 T h5
   |@cons d x xs B hd _ ih=>
    intro T h5 k;obtain⟨A,rfl,IX⟩:=hd;rw[aH];refine hm x A M5 _ (T _ _ Mn) (T _ _ (ig a W _ _ IX)) λrs n J OV=>⟨(T.trans J) _ _ K0,?_⟩
    have:aJ w_++[D.tup (ag rs)]=aJ (w_++[rs]):=by unfold aJ;rw[ZO];rfl
    rw[this];refine ih (L++[x]) (w_++[rs]) _ n (T.trans J) (a8 (h5.ext (bw J)) (.cons OV .nil)) (by simpa using k)
  refine Ig _ y_ b_ [] [] none W R3 (Ext.refl W) .nil ?_;clear Ig hm;intro w_ M5 T OW p hp;rw[XG] at OW;have J:=Ext.new (o:=MO.lst (aJ w_)) hp;have g6:updM M5 p (MO.lst (aJ w_)) p=some (.lst (aJ w_)):=aa;generalize updM M5 p (MO.lst (aJ w_))=n at *;have QG:=(T.trans J) _ _ Mn;simp only[g6,rdL,QG,pf2];refine⟨⟨V _ (by rfl'),(by decide:(2:Nat)<1000)⟩,?_⟩;have x6:Ext (hid a M) (hid a n):=x3.trans (bw (T.trans J));have C6:=OW.ext (bw (a:=a) J);clear R3 KZ x3 Mn T OW hp J g6 K0;clear W M5;have OX:updM n a (MO.ins S (sF3 (⇑m) (.tup (nats (aE b_))) (.tup (aJ w_)))) a=some (.ins S (sF3 (⇑m) (.tup (nats (aE b_))) (.tup (aJ w_)))):=aa;have g:=jy a n (MO.ins S (sF3 (⇑m) (.tup (nats (aE b_))) (.tup (aJ w_))));generalize updM n a (MO.ins S (sF3 (⇑m) (.tup (nats (aE b_))) (.tup (aJ w_))))=M7 at *;rw[←g] at C6 x6;clear g QG;clear n
  -- headed
  unfold kh;simp_all! only[List.set,OX,lf2,f2];have Sy:(aE b_).length=b_.length:=by unfold aE;rw[ZG]
  refine⟨V _ (by rfl'),m,aE b_,rfl,by omega,by omega,?_,?_⟩
  ·intro h g
   obtain⟨x,hx,rfl⟩:=List.mem_map.1 g;exact(ok.fit x hx).1
  intro p1 HM Y JA e8 g8 l8 s8;rw[Sy] at s8;have Nm:=e8 _ _ OX;simp only[Nm,pf3];refine⟨⟨V _ (by rfl'),(by decide:(3:Nat)<1000)⟩,?_⟩;have x8:Ext (hid a M) (hid a Y):=x6.trans (bw e8);have C8:=C6.ext (bw (a:=a) e8);have G8:hid a Y p1=some (.lst (ag HM)):=fE Nm g8;have S8:bC (hid a Y) HM (λf=>.lst (nats (bS (aE b_) b_.length f))):=λf r u=>fE Nm (s8 f r u)
  clear C6 x6 OX JA e8 g8 s8;clear M7;have OY:updM Y a (MO.ins S (sF4 (⇑m) (.tup (nats (aE b_))) (.tup (aJ w_)) (.ref p1))) a=some (.ins S (sF4 (⇑m) (.tup (nats (aE b_))) (.tup (aJ w_)) (.ref p1))):=aa;have g:=jy a Y (MO.ins S (sF4 (⇑m) (.tup (nats (aE b_))) (.tup (aJ w_)) (.ref p1)));generalize updM Y a (MO.ins S (sF4 (⇑m) (.tup (nats (aE b_))) (.tup (aJ w_)) (.ref p1)))=Z at *;rw[←g] at C8 x8 G8 S8;clear g Nm;clear Y
  -- leanings
  unfold kg;simp_all! only[List.set,List.cons_append,XG,List.replicate,OY,lf3];refine⟨V _ (by rfl'),?_⟩;have X:∀(F:List D->MH->Prop) (cs:Zy) (B L:Z1) (ps:Zm) (v:Z2) (P:MH),eR c (hid a Z) cs B->(∀x∈B,x.1<m/\x.2.length<=6/\∀t∈x.2,t.fit (m:Int))->Ext Z P->oB P ps L->(∀HL I,Ext Z I->oB I HL (L++B)->F (ag HL) I) ->
    aH (λ_=>True) (.nm 5) (wTo cn .no) (wE cn (.fn 1 (.cons (.var 5) .nil))) F (aJ cs) (ag ps) [↑a,~~~m,↑C,w,z,v] P:=by
   intro F cs B L ps v P hp;induction hp generalizing L ps v P with
   |nil=>
    intro _ R J3 k;rw[show aJ []=[] from rfl,aH];rw[ZA] at k;exact k ps P R J3
   |@cons rs x cs B hd _ ih=>
    intro hf R J3 k;obtain⟨OZ,Mp,Mq⟩:=hf x (.head _);rw[show aJ (rs::cs)=.tup (ag rs)::aJ cs from rfl,aH];have go:cN c [.tup (ag rs)] P (λy M2=>True/\aH (λ_=>True) (.nm 5) (wTo cn .no) (wE cn (.fn 1 (.cons (.var 5) .nil))) F (aJ cs) (ag ps++[y]) [↑a,~~~m,↑C,w,z,some (.tup (ag rs))] M2):=by
     refine⟨rs,x.2,rfl,(hd.ext (ig a Z)).ext R,λt ht=>CT.fit_ok (by omega) (Mq t ht),Mp,λp I hp U Nn=>⟨trivial,?_⟩⟩;have:ag ps++[D.ref p]=ag (ps++[p]):=by unfold ag;rw[ZO];rfl
     rw[this];refine ih (L++[x]) (ps++[p]) _ I (λy hy=>hf y (.tail _ hy)) (R.trans U) ⟨by rw[ZN,ZN,J3.1];rfl,λk r y u hy=>?_⟩ (by simpa using k);by_cases hk:k<ps.length
     ·rw[ZF hk] at u
      rw[ZF (by rw[←J3.1];exact hk)] at hy;exact U _ _ (J3.2 k r y u hy)
     ·rw[ZI (by omega)] at u
      rw[ZI (by rw[←J3.1];omega),←J3.1] at hy;have hz:k-ps.length=0:=by
       have:=(YG.mp u).1
       simp only[YM,YX] at this;omega
      rw[hz,XX] at u hy;cases u;cases hy;rw[Nn,yV];rfl
    rw[←f1] at go;exact go
  refine X _ w_ b_ [] [] none Z C8 ok.fit (Ext.refl Z) ⟨rfl,λk r x u=>by simp at u⟩ ?_;clear X;intro Hr P R Np p2 D_;rw[XG] at Np;have U:=Ext.new (o:=MO.lst (ag Hr)) D_;have Nn:updM P p2 (MO.lst (ag Hr)) p2=some (.lst (ag Hr)):=aa;generalize updM P p2 (MO.lst (ag Hr))=I at *;have J5:=(R.trans U) _ _ OY;simp only[J5,pf4];refine⟨⟨V _ (by rfl'),(by decide:(4:Nat)<1000)⟩,?_⟩;have QH:Ext (hid a M) (hid a I):=x8.trans (bw (R.trans U));have QI:=C8.ext (bw (a:=a) (R.trans U));have QJ:=bw (a:=a) (R.trans U) _ _ G8;have QK:=S8.ext (bw (a:=a) (R.trans U));have O0:hid a I p2=some (.lst (ag Hr)):=fE J5 Nn;have Mr:oB (hid a I) Hr b_:=⟨Np.1,λk r x u hx=>fE J5 (U _ _ (Np.2 k r x u hx))⟩;clear C8 x8 OY D_ R Np U Nn G8 S8;clear Z P;have Ms:updM I a (MO.ins S (sF5 (⇑m) (.tup (nats (aE b_))) (.tup (aJ w_)) (.ref p1) (.ref p2))) a=some (.ins S (sF5 (⇑m) (.tup (nats (aE b_))) (.tup (aJ w_)) (.ref p1) (.ref p2))):=aa;have g:=jy a I (MO.ins S (sF5 (⇑m) (.tup (nats (aE b_))) (.tup (aJ w_)) (.ref p1) (.ref p2)));generalize updM I a (MO.ins S (sF5 (⇑m) (.tup (nats (aE b_))) (.tup (aJ w_)) (.ref p1) (.ref p2)))=QL at *;rw[←g] at QI QH QJ QK O0 Mr;clear g J5;clear I
  -- helped
  unfold kf;simp_all! only[List.set,Ms,lf4,f0];refine⟨V _ (by rfl'),m,p2,Hr,b_.map bI,rfl,ig a QL _ _ O0,by rw[ZG];exact Mr.1,?_,by omega,by rw[ZG];omega,?_,?_⟩
  ·intro k r l u hl
   rw[ZH] at hl;obtain⟨x,hx,rfl⟩:=ZR.1 hl;exact ig a QL _ _ (Mr.2 k r x u hx)
  ·intro l hl x hx
   obtain⟨y,hy,rfl⟩:=List.mem_map.1 hl;obtain⟨t,ht,Sz⟩:=List.mem_flatMap.1 hx;exact tm ((ok.fit y hy).2.2 t ht) x Sz
  intro p3 HX QM Li QN SA SD QO;rw[ZG] at QO;have K1:=QN _ _ Ms;simp only[K1,pf5];refine⟨⟨V _ (by rfl'),(by decide:(5:Nat)<1000)⟩,?_⟩;have g:=jy a QM (MO.ins S (sF6 (⇑m) (.tup (nats (aE b_))) (.tup (aJ w_)) (.ref p1) (.ref p2) (.ref p3)));have he:=bw (a:=a) QN;have hl:=ig a (updM QM a (MO.ins S (sF6 (⇑m) (.tup (nats (aE b_))) (.tup (aJ w_)) (.ref p1) (.ref p2) (.ref p3))));rw[g] at hl;have ee:=he.trans hl;refine q _ ?_ ⟨ok,w_,p1,p2,p3,HM,Hr,HX,aa,QI.ext ee,⟨ee _ _ QJ,l8,QK.ext ee⟩,⟨ee _ _ O0,Mr.1,λk r x u hx=>ee _ _ (Mr.2 k r x u hx)⟩,hl _ _ (fE K1 SA),SD,λf r u=>hl _ _ (fE K1 (QO f r u))⟩;intro b o hb SE;refine ee b o (QH b o ?_);rw[vn hb];exact SE
 have step:∀(E:EndsD) (v0 v2:Z2) (w z:Z2) (M1:MH) (x:Row) (A:Addr),(x.1<m/\x.2.length<=6/\∀t∈x.2,t.fit (m:Int))->M1 A=some (.lst (x.2.map CT.told))->(∀M2,Ext M1 M2->E.nx [v0,~~~m,v2,w,some (.tup [⇑x.1,.ref A])] M2) ->
   wSs cn cZ E [v0,~~~m,v2,w,some (.tup [⇑x.1,.ref A])] M1:=by
  intro E v0 v2 w z M1 x A ⟨OZ,Mp,Mq⟩ hq k;unfold cZ;simp_all! only[List.set,f4];exact⟨(x.1:Int),(m:Int),A,x.2,rfl,hq,⟨by omega,by omega⟩,Mp,Mq,λM2 e2=>k M2 e2⟩
 have ac:∀(xs:List D) (B:Z1) (k:Int) (w z:Z2) (M1:MH),aM M xs B->(∀x∈B,x.1<m/\x.2.length<=6/\∀t∈x.2,t.fit (m:Int))->Ext M M1 ->
   au (λM'=>M' C=some (.lst y_)) (.tp [3,4]) (wSs cn cZ) { nx:=wSs cn cY (fin Q),rt:=Q } (bH k xs) [↑a,~~~m,↑C,w,z] M1:=by
  intro xs B k w z M1 hp;induction hp generalizing k w z M1 with
  |nil=>
   intro _ e1;rw[bH,au];exact rest w z M1 e1
  |@cons d x xs B hd _ ih=>
   intro hf e1;obtain⟨A,rfl,IX⟩:=hd;obtain⟨OZ,Mp,Mq⟩:=hf x (.head _);rw[bH,au];refine⟨rfl,step _ _ _ _ none M1 x A ⟨OZ,Mp,Mq⟩ (e1 _ _ IX) λM2 e2=>?_⟩;exact⟨(e1.trans e2) C _ ID,ih _ _ _ M2 (λy hy=>hf y (.tail _ hy)) (e1.trans e2)⟩
 exact ac y_ b_ 0 none none M hR ok.fit (Ext.refl M)
end
theorem Co(n:Nat)(f:Int):hasB (n:Int) f=n.testBit f.toNat:=cb n f.toNat▸(by unfold hasB bitZ;rw[YZ])
def Sub(a b:Nat):Prop:=∀f,a.testBit f=true->b.testBit f=true
theorem Sub.refl(a:Nat):Sub a a:=λ_ h=>h
theorem Sub.trans{a b c:Nat}(h:Sub a b)(g:Sub b c):Sub a c:=λf q=>g f (h f q)
theorem Sub.or_l(a b:Nat):Sub a (a|||b):=λf h=>by rw[Nat.testBit_or,h];rfl
theorem Sub.or{a b c:Nat}(h:Sub a c)(g:Sub b c):Sub (a|||b) c:=λf q=>by
 rw[Nat.testBit_or,Bool.or_eq_true] at q;exact q.elim (h f) (g f)
theorem Sub.hasB{a b:Nat}(h:Sub a b){f:Int}(q:SH.hasB (a:Int) f=true):SH.hasB (b:Int) f=true:=by
 rw[Co] at q ⊢;exact h _ q
theorem AO{p q:Int->Bool}(h:∀f,p f=true->q f=true):∀fs:List Int,(fs.filter p).length<=(fs.filter q).length
 |[]=>YJ _
 |f::fs=>by
  have a:=AO h fs;rw[List.filter_cons,List.filter_cons];by_cases e:p f=true
  ·rw[if_pos e,if_pos (h f e),YM,YM];omega
  ·rw[if_neg e]
   split
   ·rw[YM];omega
   ·exact a
theorem vo{p q:Int->Bool}:∀{fs:Zn},(fs.filter p).length<(fs.filter q).length->∃f∈fs,p f=false/\q f=true
 |[],h=>absurd h (ZW _)
 |f::fs,h=>by
  by_cases e:p f=false/\q f=true
  ·exact⟨f,.head _,e⟩
  ·rw[List.filter_cons,List.filter_cons] at h
   have:(fs.filter p).length<(fs.filter q).length:=by
    cases hp:p f with
    |true=>
     rw[if_pos hp] at h;split at h
     ·simpa using h
     ·rw[YM] at h;omega
    |false=>
     have hq:q f=false:=by
      cases hq:q f with
      |false=>rfl
      |true=>exact absurd ⟨hp,hq⟩ e
     rw[if_neg (by simp[hp]),if_neg (by simp[hq])] at h;exact h
   obtain⟨g,hg,w⟩:=vo this;exact⟨g,.tail _ hg,w⟩
theorem tt{a b:Nat}(h:Sub a b)(fs:Zn):cntB fs (a:Int)<=cntB fs (b:Int):=by
 unfold cntB;exact AO (λf q=>h.hasB q) fs
theorem vp{h h' g:Nat}(s:Sub h h'){t:CT}(q:t.carried (h:Int) (g:Int)=true):t.carried (h':Int) (g:Int)=true:=by
 cases t with
 |hav f=>exact s.hasB q
 |lck f=>exact q
 |som n fs=>
  have q:decide (n<=((cntB fs (h:Int):Nat):Int))=true:=q;show decide (n<=((cntB fs (h':Int):Nat):Int))=true
  have:=XS q
  have:=tt s fs
  exact YY (by omega)
 |led fs k=>
  have q:(hasB (h:Int) (fs.getD k 0)&&(((cntB (fs.take k) (g:Int):Nat):Int)==0))=true:=q;show(hasB (h':Int) (fs.getD k 0)&&(((cntB (fs.take k) (g:Int):Nat):Int)==0))=true;rw[XB] at q ⊢;exact⟨s.hasB q.1,q.2⟩
theorem vq{h g g':Nat}(s:Sub g g'){t:CT}(q:t.carried (h:Int) (g':Int)=true):t.carried (h:Int) (g:Int)=true:=by
 cases t with
 |hav f=>exact q
 |lck f=>
  have q:(!hasB (g':Int) f)=true:=q;show(!hasB (g:Int) f)=true;cases e:hasB (g:Int) f with
  |false=>rfl
  |true=>rw[s.hasB e] at q;exact q
 |som n fs=>exact q
 |led fs k=>
  have q:(hasB (h:Int) (fs.getD k 0)&&(((cntB (fs.take k) (g':Int):Nat):Int)==0))=true:=q;show(hasB (h:Int) (fs.getD k 0)&&(((cntB (fs.take k) (g:Int):Nat):Int)==0))=true;rw[XB] at q ⊢;refine⟨q.1,?_⟩;have a:=q.2;have h2:=tt s (fs.take k);rw[beq_iff_eq] at a ⊢;omega
theorem vv{h h' g:Nat}{t:CT}(q:t.carried (h:Int) (g:Int)=false)(a:t.carried (h':Int) (g:Int)=true):∃f,(false,f)∈t.leanP/\hasB (h:Int) f=false/\hasB (h':Int) f=true:=by
 cases t with
 |hav f=>exact⟨f,by simp[CT.leanP],q,a⟩
 |lck f=>
  have q:(!hasB (g:Int) f)=false:=q;have a:(!hasB (g:Int) f)=true:=a;rw[q] at a;cases a
 |som n fs=>
  have q:decide (n<=((cntB fs (h:Int):Nat):Int))=false:=q;have a:decide (n<=((cntB fs (h':Int):Nat):Int))=true:=a;have b:=of_decide_eq_false q;have h2:=XS a;have:(fs.filter (hasB (h:Int))).length<(fs.filter (hasB (h':Int))).length:=by
   unfold cntB at b h2;omega
  obtain⟨f,hf,w⟩:=vo this;exact⟨f,List.mem_map.2 ⟨f,hf,rfl⟩,w⟩
 |led fs k=>
  have q:(hasB (h:Int) (fs.getD k 0)&&(((cntB (fs.take k) (g:Int):Nat):Int)==0))=false:=q;have a:(hasB (h':Int) (fs.getD k 0)&&(((cntB (fs.take k) (g:Int):Nat):Int)==0))=true:=a;rw[XB] at a;rw[a.2,Bool.and_true] at q;exact⟨_,YF.2 (.inr (.head _)),q,a.1⟩
def aX(h g:Nat)(x:Row):Bool:=x.2.all (CT.carried (h:Int) (g:Int))
theorem oU{h h' g:Nat}(s:Sub h h'){x:Row}(q:aX h g x=true):aX h' g x=true:=by
 unfold aX at q ⊢;rw[XQ] at q ⊢;exact λt ht=>vp s (q t ht)
theorem wA{h g g':Nat}(s:Sub g g'){x:Row}(q:aX h g' x=true):aX h g x=true:=by
 unfold aX at q ⊢;rw[XQ] at q ⊢;exact λt ht=>vq s (q t ht)
theorem wB{h h' g:Nat}{x:Row}(q:aX h g x=false)(a:aX h' g x=true):∃f,(false,f)∈bI x/\hasB (h:Int) f=false/\hasB (h':Int) f=true:=by
 unfold aX at q a;rw[XQ] at a;rw[List.all_eq_false] at q;obtain⟨t,ht,hq⟩:=q;obtain⟨f,hf,w⟩:=vv (by simpa using hq) (a t ht);exact⟨f,List.mem_flatMap.2 ⟨t,ht,hf⟩,w⟩
def q9(b_:Z1)(told g s:Nat):Prop:=Sub told s/\∀x∈b_,aX s g x=true->s.testBit x.1=true
def bo(b_:Z1)(told g n:Nat):Prop:=q9 b_ told g n/\∀s,q9 b_ told g s->Sub n s
theorem bo.anti{b_:Z1}{told g g' n n':Nat}(s:Sub g g')(h:bo b_ told g n)(h':bo b_ told g' n'):Sub n' n:=
 h'.2 n ⟨h.1.1,λx hx q=>h.1.2 x hx (wA s q)⟩
def hits(b_:Z1)(h g f r:Nat):Bool:=match b_[r]? with
 |some x=>decide (x.1=f)&&aX h g x
 |none=>false
theorem gN{b_:Z1}{h g f r:Nat}:hits b_ h g f r=true ↔ ∃x,b_[r]?=some x/\x.1=f/\aX h g x=true:=by
 unfold hits;cases e:b_[r]? with
 |none=>simp
 |some x=>simp
def bt(b_:Z1)(h g f:Nat):Option Nat:=(List.range b_.length).find? (hits b_ h g f)
def aB(b_:Z1)(h g left:Nat):List (Nat×Nat):=(memb left).filterMap λf=>(bt b_ h g f).map λr=>(f,r)
def newB(fr:Zu):Nat:=setN (fr.map (·.1))
def bN(b_:Z1)(g:Nat):Nat->Nat->Nat->Nat->List (Nat×Nat×Nat)
 |0,_,_,_=>[]
 |k+1,step,a,left=>if aB b_ a g left=[] then[] else(aB b_ a g left).map (λx=>(x.1,step,x.2))++bN b_ g k (step+1) (a|||newB (aB b_ a g left)) (av left (newB (aB b_ a g left)))
theorem oV{b_:Z1}{h g f:Nat}(q:bt b_ h g f=none){x:Row}(hx:x∈b_)(hf:x.1=f):aX h g x=false:=by
 obtain⟨r,a⟩:=XY hx;have hl:r<b_.length:=(YG.mp a).1;unfold bt at q;rw[List.find?_eq_none] at q
 have:=q r (ZZ.2 hl)
 rw[gN] at this;cases e:aX h g x with
 |false=>rfl
 |true=>exact absurd ⟨x,a,hf,e⟩ this
theorem wC{b_:Z1}{h g f r:Nat}(q:bt b_ h g f=some r):∃x,b_[r]?=some x/\x.1=f/\aX h g x=true:=
 gN.1 (List.find?_some q)
theorem dD{b_:Z1}{h g left f r:Nat}:(f,r)∈aB b_ h g left↔left.testBit f=true/\bt b_ h g f=some r:=by
 unfold aB;rw[List.mem_filterMap];constructor
 ·rintro⟨f',hf',q⟩
  obtain⟨d,c,e⟩:=ZR.1 q;cases e;exact⟨(cA _ _).1 hf',c⟩
 ·rintro⟨a,b⟩
  exact⟨f,(cA _ _).2 a,by rw[b];rfl⟩
theorem vw{fr:Zu}{f:Nat}:(newB fr).testBit f=true ↔ ∃r,(f,r)∈fr:=by
 unfold newB;rw[a9,XU,List.mem_map];constructor
 ·rintro⟨⟨a,b⟩,h,rfl⟩;exact⟨b,h⟩
 ·rintro⟨r,h⟩;exact⟨_,h,rfl⟩
theorem AQ{a b f:Nat}(c:a.testBit f=true)(h2:b.testBit f=true):av a b<a:=by
 have:=je a b
 have d:a&&&b≠0:=λz=>by
  have:(a&&&b).testBit f=true:=by rw[Nat.testBit_and,c,h2];rfl
  rw[z,Nat.zero_testBit] at this;cases this
 omega
theorem pC{b_:Z1}{h g left:Nat}(q:aB b_ h g left≠[]):av left (newB (aB b_ h g left))<left:=by
 obtain⟨⟨f,r⟩,hx⟩:=List.exists_mem_of_ne_nil _ q;exact AQ (dD.1 hx).1 (vw.2 ⟨r,hx⟩)
def fZ(b_:Z1)(g told heads:Nat):Nat:=told|||setN ((bN b_ g (av heads told+1) 1 told (av heads told)).map (·.1))
theorem ra{b_:Z1}{g told heads:Nat}(d:∀x∈b_,heads.testBit x.1=true):∀(k step a left:Nat),left<k->(∀f,left.testBit f=(heads.testBit f && !a.testBit f))->Sub told a->(∀s,q9 b_ told g s->Sub a s) ->
  bo b_ told g (a|||setN ((bN b_ g k step a left).map (·.1)))
 |0,_,_,_,h,_,_,_=>absurd h (Nat.not_lt_zero _)
 |k+1,step,a,left,hk,hl,ht,hc=>by
  rw[bN];by_cases e:aB b_ a g left=[]
  ·rw[if_pos e]
   have z:a|||setN (([]:List (Nat×Nat×Nat)).map (·.1))=a:=by simp[setN]
   rw[z];refine⟨⟨ht,λx hx q=>?_⟩,hc⟩;cases b:a.testBit x.1 with
   |true=>rfl
   |false=>
    have j:left.testBit x.1=true:=by rw[hl,d x hx,b];rfl
    cases f1:bt b_ a g x.1 with
    |none=>rw[oV f1 hx rfl] at q;cases q
    |some r=>
     have:=dD.2 ⟨j,f1⟩
     rw[e] at this;cases this
  ·rw[if_neg e]
   have l:=ra (g:=g) (told:=told) d k (step+1) (a|||newB (aB b_ a g left)) (av left (newB (aB b_ a g left))) (by have:=pC e;omega) ?_ (ht.trans (Sub.or_l _ _)) ?_
   ·refine cast (congrArg (bo b_ told g) ?_) l
    refine Nat.eq_of_testBit_eq λf=>?_
    rw[Nat.testBit_or,Nat.testBit_or,Nat.testBit_or,a9,a9,ZO,ZP];have z:(newB (aB b_ a g left)).testBit f=decide (f∈(aB b_ a g left).map ((·.1)∘λ(x:Nat×Nat)=>(x.1,step,x.2))):=by
     unfold newB;rw[a9];rfl
    rw[z,Bool.or_assoc];congr 1;rw[←Bool.decide_or];simp only[YF]
   ·intro f
    rw[bd,hl,Nat.testBit_or];cases heads.testBit f<;>cases a.testBit f<;>cases(newB (aB b_ a g left)).testBit f<;>rfl
   ·intro s c
    refine(hc s c).or λf hf=>?_
    obtain⟨r,m⟩:=vw.1 hf;obtain⟨x,hx,rfl,hq⟩:=wC (dD.1 m).2;exact c.2 x (YW hx) (oU (hc s c) hq)
theorem bD{b_:Z1}{g told heads:Nat}(a:∀x∈b_,heads.testBit x.1=true):bo b_ told g (fZ b_ g told heads):=
 ra a _ 1 told _ (Nat.lt_succ_self _) (λf=>bd _ _ _) (Sub.refl _) λs b=>b.1
theorem mh:∀{l m:Zo},l.Pairwise (· < ·)->m.Pairwise (· < ·)->(∀x,x∈l↔x∈m)->l=m
 |[],[],_,_,_=>rfl
 |[],b::m,_,_,h=>absurd ((h b).2 (.head _)) (by simp)
 |a::l,[],_,_,h=>absurd ((h a).1 (.head _)) (by simp)
 |a::l,b::m,hl,hm,h=>by
  rw[List.pairwise_cons] at hl hm;have e:a=b:=by
   rcases YE.1 ((h a).1 (.head _)) with e | e
   ·exact e
   ·rcases YE.1 ((h b).2 (.head _)) with e' | e'
    ·exact e'.symm
    ·have:=hl.1 b e';have:=hm.1 a e;omega
  subst e;rw[mh hl.2 hm.2 λx=>?_];constructor
  ·intro hx
   rcases YE.1 ((h x).1 (.tail _ hx)) with e | e
   ·subst e;exact absurd (hl.1 x hx) (ZW _)
   ·exact e
  ·intro hx
   rcases YE.1 ((h x).2 (.tail _ hx)) with e | e
   ·subst e;exact absurd (hm.1 x hx) (ZW _)
   ·exact e
theorem bR:∀{n:Nat}{l:Zo},l.Nodup->(∀x∈l,x<n)->l.length<=n
 |0,[],_,_=>YJ _
 |0,a::l,_,h=>absurd (h a (.head _)) (Nat.not_lt_zero _)
 |n+1,l,hd,h=>by
  have c:=bR (n:=n) (l:=l.filter λx=>decide (x≠n)) (List.Pairwise.filter _ hd) (λx hx=>by
   have h2:=ZY.1 hx
   have:=h x h2.1
   have:x≠n:=XS h2.2
   omega)
  have h2:∀{l:Zo},l.Nodup->l.length<=(l.filter λx=>decide (x≠n)).length+1:=by
   intro l hd;induction l with
   |nil=>simp
   |cons a l b=>
    rw[YS] at hd;rw[List.filter_cons];by_cases e:a=n
    ·subst e
     rw[if_neg (by simp),YM];have:l.filter (λx=>decide (x≠a))=l:=List.filter_eq_self.2 λx hx=>YY λz=>hd.1 (z▸hx)
     rw[this];exact YJ _
    ·rw[if_pos (by simpa using e),YM,YM]
     have:=b hd.2
     omega
  have:=h2 hd
  omega
theorem kY{b:Zn}{xs:Zo}(hp:b.Perm (xs.map λ(x:Nat)=>(x:Int)))(c:b.Pairwise (·<=·))(hd:xs.Nodup):∃ns:List Nat,b=ns.map (λ(x:Nat)=>(x:Int))/\ns.Pairwise (· < ·)/\∀r,r∈ns↔r∈xs:=by
 have d:(b.map Int.toNat).map (λ(x:Nat)=>(x:Int))=b:=by
  rw[ZP];refine(ZQ λa ha=>?_).trans (List.map_id _);obtain⟨x,_,rfl⟩:=List.mem_map.1 (hp.mem_iff.1 ha);simp
 have e1:(b.map Int.toNat).Perm xs:=by
  have:=hp.map Int.toNat
  rw[ZP] at this;refine this.trans ?_;rw[show(Int.toNat∘λ(x:Nat)=>(x:Int))=id by funext x;simp,List.map_id]
 refine⟨b.map Int.toNat,d.symm,?_,λr=>e1.mem_iff⟩;have nd:(b.map Int.toNat).Nodup:=e1.nodup_iff.2 hd;have le:(b.map Int.toNat).Pairwise (·<=·):=List.pairwise_map.2 (c.imp λh=>by omega);exact List.Pairwise.imp (λ⟨f,h2⟩=>Nat.lt_of_le_of_ne f h2) (List.pairwise_and_iff.2 ⟨le,nd⟩)
def kn(c:CA)(S:Addr):SpD:=λds M Q=>∃(a:Addr) (m:Nat) (b_:Z1) (left:Nat),ds=[.ref a,⇑left]/\SheetAt c S M a m b_/\b_.length<401/\left<2 ^ m /\
 ∀p ns M',M p=none->Ext M M'->M' p=some (.lst (nats ns))->ns.Pairwise (· < ·)->(∀r,r∈ns ↔ ∃x,b_[r]?=some x/\left.testBit x.1=true)->Q (.ref p) M'
def dk(c:CA)(S:Addr):SpD:=λds M Q=>∃(a:Addr) (m:Nat) (b_:Z1) (b:Addr) (d:Z3) (fs:Zo) (left:Nat),ds=[.ref a,.ref b,⇑left]/\SheetAt c S M a m b_/\b_.length<401/\M b=some (.rod d)/\keysOf d=nats fs/\(∀f∈fs,f<m) /\
 ∀p ns M',M p=none->Ext M M'->M' p=some (.lst (nats ns))->ns.Pairwise (· < ·)->(∀r,r∈ns ↔ ∃x,b_[r]?=some x/\left.testBit x.1=true/\∃f∈fs,aS (bI x) f=true)->Q (.ref p) M'
def aR(fr:Zu):List (Key×D):=fr.map λ(x:Nat×Nat)=>(.inl (x.1:Int),⇑x.2)
def cq(c:CA)(S:Addr):SpD:=λds M Q=>∃(a:Addr) (m:Nat) (b_:Z1) (b:Addr) (ns:Zo) (h g:Nat),ds=[.ref a,.ref b,⇑h,⇑g]/\SheetAt c S M a m b_/\M b=some (.lst (nats ns))/\(∀r∈ns,r<b_.length) /\
 ∀p fr M',M p=none->Ext M M'->M' p=some (.dic (aR fr))->(fr.map (·.1)).Nodup->(∀f r,(f,r)∈fr↔ns.find? (hits b_ h g f)=some r)->Q (.ref p) M'
def iM:Ss:=#v[.ret (.bk .sorted #v[.var 2])]
def iN:Ss:=#v[.expr (.mt .extend (.var 2) #v[.mu "rows_for" (.var 0) #v[.var 3]])]
def mE:Ss:=.cons (.for (.nm 3) (.seq (.fn 0 #v[.var 1])) iN) iM
def kZ:Ss:=.cons (.set 2 (.lst .nil)) mE
def eV:Ss:=#v[.ret (.bk .sorted #v[.var 3])]
def cC:Ss:=#v[.ite (.val (.fn 0 #v[.var 2,.mu "head_of" (.var 0) #v[.var 5]])) #v[.putIx (.var 3) (.var 5) (.bl true)] .nil]
def eY:Ss:=#v[.for (.nm 5) (.seq (.mu "rows_helped" (.var 0) #v[.var 4])) cC]
def jT:Ss:=.cons (.for (.nm 4) (.seq (.var 1)) eY) eV
def gO:Ss:=.cons (.set 3 .dnew) jT
def dl:Ss:=#v[.ret (.var 4)]
def io:Ss:=#v[.ite (.and (.cmp .NotIn (.var 6) (.var 4)) (.val (.fn 0 #v[.mu "conds_of" (.var 0) #v[.var 5],.var 2,.var 3]))) #v[.putIx (.var 4) (.var 6) (.var 5)] .nil]
def bY:Ss:=.cons (.set 6 (.mu "head_of" (.var 0) #v[.var 5])) io
def ip:Ss:=.cons (.for (.nm 5) (.seq (.var 1)) bY) dl
def eZ:Ss:=.cons (.set 4 .dnew) ip
section
variable {m:Nat}{b_:Z1}{w_:Zy}{p1 p2 p3:Addr}
theorem wD:(di m b_ w_ p1 p2 p3).lookup ("rows_for" : Str)=none:=rfl
theorem sd:(di m b_ w_ p1 p2 p3).lookup ("rows_helped" : Str)=none:=rfl
theorem rb:(di m b_ w_ p1 p2 p3).lookup ("head_of" : Str)=none:=rfl
theorem wF:(di m b_ w_ p1 p2 p3).lookup ("conds_of" : Str)=none:=rfl
theorem wG:(di m b_ w_ p1 p2 p3).lookup ("how_many" : Str)=none:=rfl
end
theorem AR(xs:Zo):gY (nats xs)=some (xs.map λ(x:Nat)=>(x:Int)):=by
 have:nats xs=intL (xs.map λ(x:Nat)=>(x:Int)):=by unfold nats intL;rw[ZP];rfl
 rw[this,ny]
theorem Cp(xs a:Zo):nats xs++nats a=nats (xs++a):=by unfold nats;rw[ZO]
theorem nz(xs:Zo):(xs.map λ(x:Nat)=>(x:Int)).map D.int=nats xs:=by unfold nats;rw[ZP];rfl
theorem fF{a:Zo}{k f r:Nat}:r∈bS a k f↔r<k/\a[r]?=some f:=by
 unfold bS;rw[ZY,ZZ,XU]
theorem wH(a:Zo)(k f:Nat):(bS a k f).Nodup:=List.Pairwise.filter _ List.nodup_range
theorem mi(c:Zo)(k:Nat):∀{d:Zo},d.Nodup->(d.flatMap (bS c k)).Nodup
 |[],_=>by simp
 |f::d,h=>by
  rw[YS] at h;rw[List.flatMap_cons,List.nodup_append];refine⟨wH c k f,mi c k h.2,λa ha b hb z=>?_⟩;subst z;obtain⟨g,hg,hb⟩:=List.mem_flatMap.1 hb;have j:=(fF.1 ha).2;have h2:=(fF.1 hb).2;rw[j] at h2;cases h2;exact h.1 hg
theorem f9{n m f:Nat}(h:n<2 ^ m)(q:n.testBit f=true):f<m:=by
 have a:=Nat.ge_two_pow_of_testBit q;exact(Nat.pow_lt_pow_iff_right (by decide:1<2)).1 (XN a h)
theorem tu{b_:Z1}{r f:Nat}:(aE b_)[r]?=some f ↔ ∃x,b_[r]?=some x/\x.1=f:=by
 unfold aE;rw[ZH];cases b_[r]? with
 |none=>simp
 |some x=>simp
theorem vx{m:Nat}{b_:Z1}(h:RowsOk m b_){r:Nat}{x:Row}(e:b_[r]?=some x):x.1<m/\x.2.length<=6/\∀t∈x.2,t.fit (m:Int):=h.fit x (YW e)
section
variable {cn:Cn}{c:CA}{S:Addr}{ds:List D}{M:MH}{Q:DK}
theorem wJ(C:cn.F.getD 0 Yl=fD)(E:cn.T S "rows_for" = some (il c S))(h:kn c S ds M Q):wSs cn kZ (fin Q) (ad ["","","",""] ds) M:=by
 obtain⟨a,m,b_,left,rfl,A,hn,hl,q⟩:=h;show wSs cn kZ (fin Q) [↑a,~~~left,none,none] M;have hm:=A.ok.most;unfold kZ;simp! only[List.set];intro p hp;unfold mE;simp! only[List.set,C];refine⟨left,rfl,ZV hl (Nat.pow_le_pow_right (by decide) (by omega)),λo M1 t e1 u=>?_⟩;simp only[u];have w:Ext M M1:=(Ext.new hp).trans e1;have G:M1 p=some (.lst []):=e1 p _ aa;have y:o≠p:=λz=>by subst z;rw[aa] at t;cases t
 clear e1;have k:∀(b d:Zo) (v:Z2) (M2:MH),memb left=d++b->ExtBut p M1 M2->M2 p=some (.lst (nats (d.flatMap (bS (aE b_) b_.length)))) ->
   au (λM'=>M' o=some (.lst (nats (memb left)))) (.nm 3) (wSs cn iN) { nx:=wSs cn iM (fin Q),rt:=Q } (nats b) [↑a,~~~left,↑p,v] M2:=by
  intro b;induction b with
  |nil=>
   intro d v M2 hd g j;rw[ZA] at hd;subst hd;have nd:=mi (aE b_) b_.length (l9 left);rw[show nats []=[] from rfl,au];unfold iM;simp! only[dBk,ju,j,rdL,AR,ou];have I:((memb left).flatMap (bS (aE b_) b_.length)).length<=b_.length:=bR nd λx hx=>by
    obtain⟨f,_,hx⟩:=List.mem_flatMap.1 hx;exact(fF.1 hx).1
   refine⟨by rw[ZG];omega,λp2 P B l h2=>?_⟩;obtain⟨ns,rfl,J,K⟩:=kY l h2 nd;rw[nz];have e2:Ext M M2:=g.ext w hp;refine q p2 ns _ (e2.free B) (e2.then B) aa J λr=>?_
   rw[K,List.mem_flatMap];constructor
   ·rintro⟨f,hf,hr⟩
    obtain⟨x,hx,rfl⟩:=tu.1 (fF.1 hr).2;exact⟨x,hx,(cA _ _).1 hf⟩
   ·rintro⟨x,hx,hb⟩
    exact⟨x.1,(cA _ _).2 hb,fF.2 ⟨(YG.mp hx).1,tu.2 ⟨x,hx,rfl⟩⟩⟩
  |cons f b L=>
   intro d v M2 hd g j;have e2:Ext M M2:=g.ext w hp;obtain⟨ok,w_,p1,p2,p3,HM,Hr,HX,l,-⟩:=A.ext e2;have hf:f<m:=f9 hl ((cA _ _).1 (by rw[hd];simp));rw[show nats (f::b)=⇑f::nats b from rfl,au];unfold iN;simp! only[List.set,j,l,wD,E];refine⟨rfl,trivial,a,m,b_,f,rfl,A.ext e2,hf,λR U V n O=>?_⟩;simp only[n p _ j,O,dh,Cp];have nd:(d.flatMap (bS (aE b_) b_.length)).Nodup:=mi _ _ (by have:=l9 left;rw[hd,List.nodup_append] at this;exact this.1);have I:(d.flatMap (bS (aE b_) b_.length)).length<=b_.length:=bR nd λx hx=>by
    obtain⟨f,_,hx⟩:=List.mem_flatMap.1 hx;exact(fF.1 hx).1
   have W:=vi (aE b_) b_.length f;have hsz:(2000:Nat)<sizeLine:=by decide
   refine⟨by omega,?_,?_⟩
   ·rw[aw y]
    exact n _ _ (g _ _ y u)
   ·refine L (d++[f]) _ _ (by rw[hd];simp) ((g.trans n.but).trans (ExtBut.upd _ _ _)) ?_
    rw[aa,List.flatMap_append,List.flatMap_cons,List.flatMap_nil,ZA]
 exact k (memb left) [] none M1 rfl (ExtBut.refl p M1) G
theorem AS(rs:Zo):intKeys (rowK rs)=some (rs.map λ(x:Nat)=>(x:Int)):=by
 induction rs with
 |nil=>rfl
 |cons r rs a=>
  show Option.map _ (intKeys (rowK rs))=_;rw[a];rfl
theorem tw{b_:Z1}{r f:Nat}{x:Row}(h:b_[r]?=some x):r∈br (b_.map bI) b_.length f↔aS (bI x) f=true:=by
 unfold br;rw[ZY,ZZ];have hl:r<b_.length:=(YG.mp h).1;have:(b_.map bI).getD r []=bI x:=by rw[List.getD_eq_getElem?_getD,ZH,h];rfl
 rw[this];exact⟨λh=>h.2,λh=>⟨hl,h⟩⟩
theorem se(f0:cn.F.getD 0 Yl=ci)(hT:cn.T S "rows_helped" = some (dj c S))(Lk:cn.T S "head_of" = some (gM c S))(h:dk c S ds M Q):wSs cn gO (fin Q) (ad ["","","","","",""] ds) M:=by
 obtain⟨a,m,b_,b,e_,fs,left,rfl,A,hn,hb,hk,hf,q⟩:=h;show wSs cn gO (fin Q) [↑a,↑b,~~~left,none,none,none] M;have hm:=A.ok.most;unfold gO;simp! only[List.set];intro p hp;have J:Ext M (updM M p (MO.dic [])):=Ext.new hp;have g0:updM M p (MO.dic []) p=some (.dic (rowK [])):=aa;generalize updM M p (MO.dic [])=M1 at *;unfold jT;simp! only[List.set,J b _ hb,hk];have Mu:b≠p:=bX hb hp;have outer:∀(n o:Zo) (rs:Zo) (Z j:Z2) (M2:MH),fs=o++n->ExtBut p M1 M2->M2 p=some (.dic (rowK rs))->rs.Nodup->(∀r,r∈rs ↔ ∃x,b_[r]?=some x/\left.testBit x.1=true/\∃f∈o,aS (bI x) f=true) ->
   au (λM'=>M' b=some (.rod e_)) (.nm 4) (wSs cn eY) { nx:=wSs cn eV (fin Q),rt:=Q } (nats n) [↑a,↑b,~~~left,↑p,Z,j] M2:=by
  intro n;induction n with
  |nil=>
   intro o rs Z j M2 hd K V nd W;rw[ZA] at hd;subst hd;rw[show nats []=[] from rfl,au];unfold eV;simp! only[dBk,ju,V,rdL,rdD,AS,ou];have o_:rs.length<=b_.length:=bR nd λx hx=>by
    obtain⟨y,hy,_⟩:=(W x).1 hx;exact(YG.mp hy).1
   refine⟨by rw[ZG];omega,λp2 ms D_ L h2=>?_⟩;obtain⟨ns,rfl,h3,h4⟩:=kY L h2 nd;rw[nz];have e2:Ext M M2:=K.ext J hp;exact q p2 ns _ (e2.free D_) (e2.then D_) aa h3 λr=>(h4 r).trans (W r)
  |cons f n ih=>
   intro o rs Z j M2 hd K V nd W;have e2:Ext M M2:=K.ext J hp;have HU:f<m:=hf f (by rw[hd];simp);obtain⟨ok,w_,p1,p2,p3,HM,Hr,HX,L,-⟩:=A.ext e2;rw[show nats (f::n)=⇑f::nats n from rfl,au];unfold eY;simp! only[List.set,L,sd,hT];refine⟨trivial,a,m,b_,f,rfl,A.ext e2,HU,λp4 X K3 e4 g4=>?_⟩;simp only[g4];have Mv:p4≠p:=λz=>by subst z;rw[V] at K3;cases K3
   have t:∀(E:EndsD) (l u d:Zo) (j:Z2) (M5:MH),br (b_.map bI) b_.length f=u++l->ExtBut p X M5->M5 p=some (.dic (rowK d))->d.Nodup ->
     (∀r,r∈d↔(∃x,b_[r]?=some x/\left.testBit x.1=true/\∃f∈o,aS (bI x) f=true)\/(r∈u/\∃x,b_[r]?=some x/\left.testBit x.1=true)) ->
     (∀O w B,ExtBut p X B->B p=some (.dic (rowK O))->O.Nodup->(∀r,r∈O↔(∃x,b_[r]?=some x/\left.testBit x.1=true/\∃f∈o,aS (bI x) f=true)\/(r∈br (b_.map bI) b_.length f/\∃x,b_[r]?=some x/\left.testBit x.1=true)) ->
      E.nx [↑a,↑b,~~~left,↑p,~~~f,w] B) ->
     au (λM'=>M' p4=some (.lst (nats (br (b_.map bI) b_.length f)))) (.nm 5) (wSs cn cC) E (nats l) [↑a,↑b,~~~left,↑p,~~~f,j] M5:=by
    intro E l;induction l with
    |nil=>
     intro u d j M5 P C Y G I k;rw[ZA] at P;rw[←P] at I;rw[show nats []=[] from rfl,au];exact k d j M5 C Y G I
    |cons r l L8=>
     intro u d j M5 P C Y G I k;have J1:r<b_.length:=vj (show r∈br (b_.map bI) b_.length f by rw[P];simp);have hx:b_[r]?=some b_[r]:=ZE J1;generalize b_[r]=x at hx;have e5:Ext M M5:=((K.trans e4.but).trans C).ext J hp;obtain⟨ok,w_,p1,p2,p3,HM,Hr,HX,L,-⟩:=A.ext e5;have QR:br (b_.map bI) b_.length f=(u++[r])++l:=by rw[P];simp
     have QS:M5 p4=some (.lst (nats (br (b_.map bI) b_.length f))):=C _ _ Mv g4;have has:hasB (left:Int) (x.1:Int)=left.testBit x.1:=cb _ _;have R:∀(E:EndsD),Bif (left.testBit x.1) (E.nx [↑a,↑b,~~~left,↑p,~~~f,~~~r] (updM M5 p (.dic (rowK (if r∈d then d else d++[r]))))) (E.nx [↑a,↑b,~~~left,↑p,~~~f,~~~r] M5) ->
       wSs cn cC E [↑a,↑b,~~~left,↑p,~~~f,~~~r] M5:=by
      intro E kk;unfold cC;simp! only[List.set,L,rb,Lk,f0];refine⟨trivial,a,m,b_,r,x,rfl,A.ext e5,hx,left,x.1,rfl,by omega,?_⟩;rw[has];cases bb:left.testBit x.1 with
      |false=>rw[bb] at kk;exact kk
      |true=>
       rw[bb] at kk;simp only[aZ,Y,vk];have o_:d.length<=b_.length:=bR G λy hy=>by
        rcases(I y).1 hy with⟨z,hz,_⟩ | ⟨_,z,hz,_⟩<;>exact(YG.mp hz).1
       have hsz:(2000:Nat)<sizeLine:=by decide
       exact⟨by unfold rowK;rw[ZG];omega,kk⟩
     rw[show nats (r::l)=⇑r::nats l from rfl,au];refine R _ ?_;cases bb:left.testBit x.1 with
     |false=>
      refine⟨QS,L8 (u++[r]) d _ M5 QR C Y G (λU=>?_) k⟩;rw[I];constructor
      ·rintro(h | ⟨h,h'⟩)
       ·exact .inl h
       ·exact .inr ⟨YF.2 (.inl h),h'⟩
      ·rintro(h | ⟨h,h'⟩)
       ·exact .inl h
       ·rcases YF.1 h with h | h
        ·exact .inr ⟨h,h'⟩
        ·have:U=r:=by simpa using h
         subst this;obtain⟨y,hy,F'⟩:=h';rw[hx] at hy;cases hy;rw[bb] at F';cases F'
     |true=>
      refine⟨?_,L8 (u++[r]) (if r∈d then d else d++[r]) _ _ QR (C.trans (ExtBut.upd _ _ _)) aa ?_ (λU=>?_) k⟩
      ·rw[aw Mv];exact QS
      ·split
       ·exact G
       ·rename_i SF
        rw[List.nodup_append];refine⟨G,by simp,λy hy z hz w=>?_⟩;have hz:z=r:=by simpa using hz
        subst hz;subst w;exact SF hy
      ·have Qy:U∈(if r∈d then d else d++[r])↔U∈d\/U=r:=by
        split
        ·rename_i hi
         exact⟨.inl,λh=>h.elim id λz=>z▸hi⟩
        ·simp
       rw[Qy,I];constructor
       ·rintro((h | ⟨h,h'⟩) | h)
        ·exact .inl h
        ·exact .inr ⟨YF.2 (.inl h),h'⟩
        ·subst h
         exact .inr ⟨YF.2 (.inr (.head _)),x,hx,bb⟩
       ·rintro(h | ⟨h,h'⟩)
        ·exact .inl (.inl h)
        ·rcases YF.1 h with h | h
         ·exact .inl (.inr ⟨h,h'⟩)
         ·exact .inr (by simpa using h)
   refine t _ _ [] rs _ X rfl (ExtBut.refl p X) (e4 _ _ V) nd (λr=>?_) ?_
   ·rw[W]
    constructor
    ·exact .inl
    ·rintro(h | ⟨h,-⟩)
     ·exact h
     ·cases h
   ·intro O w B b6 g6 SI SJ
    have QT:ExtBut p M1 B:=(K.trans e4.but).trans b6;refine⟨(QT.ext J hp) _ _ hb,ih (o++[f]) O _ _ B (by rw[hd];simp) QT g6 SI λr=>?_⟩;rw[SJ];constructor
    ·rintro(⟨x,hx,hb1,g,hg,hh⟩ | ⟨h,x,hx,hb1⟩)
     ·exact⟨x,hx,hb1,g,YF.2 (.inl hg),hh⟩
     ·exact⟨x,hx,hb1,f,YF.2 (.inr (.head _)),(tw hx).1 h⟩
    ·rintro⟨x,hx,hb1,g,hg,hh⟩
     rcases YF.1 hg with hg | hg
     ·exact .inl ⟨x,hx,hb1,g,hg,hh⟩
     ·have:g=f:=by simpa using hg
      subst this;exact .inr ⟨(tw hx).2 hh,x,hx,hb1⟩
 exact outer fs [] [] none none M1 rfl (ExtBut.refl p M1) g0 .nil λr=>by simp
theorem rc(fr:Zu):keysOf (aR fr)=nats (fr.map (·.1)):=by unfold keysOf aR nats;rw[ZP,ZP];rfl
theorem yY(fr:Zu):intKeys (aR fr)=some ((fr.map (·.1)).map λ(x:Nat)=>(x:Int)):=by
 induction fr with
 |nil=>rfl
 |cons r rs a=>
  show Option.map _ (intKeys (aR rs))=_;rw[a];rfl
theorem nC(f:Nat):∀{fr:Zu}{r:Nat},(fr.map (·.1)).Nodup->(f,r)∈fr->valD (aR fr) (.inl (f:Int))= ~~~r
 |[],r,_,h=>nomatch h
 |(g,s)::fr,r,nd,h=>by
  rw[YO,YS] at nd;unfold valD;show Option.map _ (List.find? _ ((.inl (g:Int),⇑s)::aR fr))=_;rw[XJ];by_cases e:g=f
  ·subst e
   rcases YE.1 h with h | h
   ·cases h;simp
   ·exact absurd (List.mem_map.2 ⟨_,h,rfl⟩) nd.1
  ·have h2:¬((g:Int)=(f:Int)):=by omega
   rw[show decide ((Sum.inl (g:Int):Key)=.inl (f:Int))=false by simp[h2]];rcases YE.1 h with h | h
   ·cases h;exact absurd rfl e
   ·exact nC f nd.2 h
theorem pE(f:Nat):∀{fr:Zu},(∀r,(f,r)∉fr)->valD (aR fr) (.inl (f:Int))=none/\((aR fr).any λb=>decide (b.1=(.inl (f:Int):Key)))=false
 |[],_=>⟨rfl,rfl⟩
 |(g,s)::fr,h=>by
  have e:g≠f:=λz=>by subst z;exact h s (.head _)
  have h2:¬((g:Int)=(f:Int)):=by omega
  have a:=pE f (fr:=fr) λr d=>h r (.tail _ d)
  constructor
  ·unfold valD
   show Option.map _ (List.find? _ ((.inl (g:Int),⇑s)::aR fr))=_;rw[XJ,show decide ((Sum.inl (g:Int):Key)=.inl (f:Int))=false by simp[h2]];exact a.1
  ·show(List.any ((.inl (g:Int),⇑s)::aR fr) _)=false
   rw[XM,a.2,show decide ((Sum.inl (g:Int):Key)=.inl (f:Int))=false by simp[h2]];rfl
theorem AT{f r:Nat}{fr:Zu}(h:∀r,(f,r)∉fr):putD (aR fr) (.inl (f:Int)) (⇑r)=aR (fr++[(f,r)]):=by
 unfold putD;rw[(pE f h).2];unfold aR;rw[ZO];rfl
theorem pF(f0:cn.F.getD 0 Yl=fT c)(hT:cn.T S "head_of" = some (gM c S))(Lk:cn.T S "conds_of" = some (im c S))(h:cq c S ds M Q):wSs cn eZ (fin Q) (ad ["","","","","","",""] ds) M:=by
 obtain⟨a,m,b_,b,ns,h,g,rfl,A,hb,Kh,q⟩:=h;show wSs cn eZ (fin Q) [↑a,↑b,~~~h,~~~g,none,none,none] M;have hm:=A.ok.most;unfold eZ;simp! only[List.set];intro p hp;have L:Ext M (updM M p (MO.dic [])):=Ext.new hp;have g0:updM M p (MO.dic []) p=some (.dic (aR [])):=aa;generalize updM M p (MO.dic [])=M1 at *;unfold ip;simp! only[List.set,L b _ hb];have Mu:b≠p:=bX hb hp;have outer:∀(k j:Zo) (fr:Zu) (O n:Z2) (M2:MH),ns=j++k->ExtBut p M1 M2->M2 p=some (.dic (aR fr))->(fr.map (·.1)).Nodup->(∀f r,(f,r)∈fr↔j.find? (hits b_ h g f)=some r) ->
   au (λM'=>M' b=some (.lst (nats ns))) (.nm 5) (wSs cn bY) { nx:=wSs cn dl (fin Q),rt:=Q } (nats k) [↑a,↑b,~~~h,~~~g,↑p,O,n] M2:=by
  intro k;induction k with
  |nil=>
   intro j fr O n M2 hd o u nd l;rw[ZA] at hd;subst hd;rw[show nats []=[] from rfl,au];unfold dl;simp! only[];exact q p fr M2 hp (o.ext L hp) u nd l
  |cons r k P=>
   intro j fr O n M2 hd o u nd l;have e2:Ext M M2:=o.ext L hp;have J1:r<b_.length:=Kh r (by rw[hd];simp);have hx:b_[r]?=some b_[r]:=ZE J1;generalize b_[r]=x at hx;have R:ns=(j++[r])++k:=by rw[hd];simp
   have KA:=vx A.ok hx;have HU:∀f∈fr.map (·.1),f<m:=by
    intro f hf;obtain⟨⟨X,d⟩,U,rfl⟩:=List.mem_map.1 hf;obtain⟨y,hy,SK,_⟩:=gN.1 (List.find?_some ((l _ _).1 U));rw[←SK];exact(vx A.ok hy).1
   have o_:fr.length<=m:=by have:=bR nd HU;rwa [ZG] at this
   have C:∀(E:EndsD) (n:Z2),((∃d,(x.1,d)∈fr)->E.nx [↑a,↑b,~~~h,~~~g,↑p,~~~r,~~~x.1] M2) ->
     ((∀d,(x.1,d)∉fr)->∀G,Ext M2 G->Bif (aX h g x) (E.nx [↑a,↑b,~~~h,~~~g,↑p,~~~r,~~~x.1] (updM G p (.dic (aR (fr++[(x.1,r)]))))) (E.nx [↑a,↑b,~~~h,~~~g,↑p,~~~r,~~~x.1] G)) ->
     wSs cn bY E [↑a,↑b,~~~h,~~~g,↑p,~~~r,n] M2:=by
    intro E n k1 k2;obtain⟨ok,w_,p1,p2,p3,HM,Hr,HX,Y,-⟩:=A.ext e2;unfold bY;simp! only[List.set,Y,rb,hT];refine⟨trivial,a,m,b_,r,x,rfl,A.ext e2,hx,?_⟩;unfold io;simp! only[List.set,Y,wF,Lk,u,rdL,rdD,n0,f0];by_cases Z:∃d,(x.1,d)∈fr
    ·obtain⟨d,J⟩:=Z
     rw[nC x.1 nd J];exact k1 ⟨d,J⟩
    ·have B:∀d,(x.1,d)∉fr:=λd z=>Z ⟨d,z⟩
     rw[(pE x.1 B).1];simp only[Option.isSome_none,Bool.not_false,aZ];refine⟨trivial,a,m,b_,r,x,rfl,A.ext e2,hx,λp4 rs M4 K3 e4 g4 c4=>?_⟩;refine⟨p4,h,g,rs,x.2,rfl,g4,c4,λt ht=>CT.fit_ok (by omega) (KA.2.2 t ht),λM5 e5=>?_⟩;have K:=k2 B M5 (e4.trans e5);have rm:x.2.all (CT.carried (h:Int) (g:Int))=aX h g x:=rfl;rw[rm];cases bb:aX h g x with
     |false=>rw[bb] at K;exact K
     |true=>
      rw[bb] at K;have hsz:(2000:Nat)<sizeLine:=by decide
      simp only[aZ,(e4.trans e5) p _ u,AT B];exact⟨by unfold aR;rw[ZG];omega,K⟩
   rw[show nats (r::k)=⇑r::nats k from rfl,au];refine C _ _ ?_ ?_
   ·rintro⟨d,J⟩
    refine⟨e2 _ _ hb,P (j++[r]) fr _ _ M2 R o u nd λf V=>?_⟩;rw[l,List.find?_append];by_cases hf:x.1=f
    ·subst hf
     rw[(l _ _).1 J];rfl
    ·have:hits b_ h g f r=false:=by unfold hits;rw[hx];simp[hf]
     rw[XJ,this,List.find?_nil,Option.or_none]
   ·intro B G I
    have O1:j.find? (hits b_ h g x.1)=none:=by
     cases e:j.find? (hits b_ h g x.1) with
     |none=>rfl
     |some d=>exact absurd ((l _ _).2 e) (B d)
    cases bb:aX h g x with
    |false=>
     refine⟨(e2.trans I) _ _ hb,P (j++[r]) fr _ _ G R (o.trans I.but) (I _ _ u) nd λf V=>?_⟩;rw[l,List.find?_append];have:hits b_ h g f r=false:=by unfold hits;rw[hx];simp[bb]
     rw[XJ,this,List.find?_nil,Option.or_none]
    |true=>
     refine⟨?_,P (j++[r]) (fr++[(x.1,r)]) _ _ _ R ((o.trans I.but).trans (ExtBut.upd _ _ _)) aa ?_ λf V=>?_⟩
     ·rw[aw Mu];exact(e2.trans I) _ _ hb
     ·rw[ZO,List.nodup_append]
      refine⟨nd,by simp,λy hy z hz w=>?_⟩;have hz:z=x.1:=by simpa using hz
      subst hz;subst w;obtain⟨⟨X,d⟩,U,W⟩:=List.mem_map.1 hy;have W:X=x.1:=W;subst W;exact B d U
     ·rw[YF,l,List.find?_append]
      by_cases hf:x.1=f
      ·subst hf
       have:hits b_ h g x.1 r=true:=by unfold hits;rw[hx];simp[bb]
       rw[O1,XJ,this];simp only[Option.none_or,YE,List.not_mem_nil,or_false,Prod.mk.injEq,true_and,Option.some.injEq];constructor
       ·rintro(h | h)
        ·cases h
        ·exact h.symm
       ·exact λh=>.inr h.symm
      ·have:hits b_ h g f r=false:=by unfold hits;rw[hx];simp[hf]
       rw[XJ,this,List.find?_nil,Option.or_none];constructor
       ·rintro(h | h)
        ·exact h
        ·have:f=x.1/\V=r:=by simpa using h
         exact absurd this.1.symm hf
       ·exact .inl
 exact outer ns [] [] none none M1 rfl (ExtBut.refl p M1) g0 .nil λf r=>by simp
end
def gP:Ss:=#v[.ret (.fn 0 #v[.comp 1 (.ix (.var 4) (.int 0)) (.nm 4) (.seq (.fn 1 #v[.var 0,.var 1,.var 2,.var 3])) .no])]
def iT:Ss:=#v[.ret (.var 4)]
def iU:Ss:=#v[.set 8 (.fn 0 #v[.var 0,.fn 1 #v[.var 0,.var 8,.var 5],.var 7,.var 3])]
def iV:Ss:=.cons (.set 6 (.bin .Add (.var 6) (.int 1))) iU
def iX:Ss:=.cons (.set 5 (.bin .BitAnd (.var 5) (.inv (.var 9)))) iV
def iY:Ss:=.cons (.set 7 (.bin .BitOr (.var 7) (.var 9))) iX
def iZ:Ss:=.cons (.set 9 (.fn 2 #v[.var 8])) iY
def dU:Ss:=.cons (.expr (.mt .extend (.var 4) #v[.comp 1 (.tup #v[.var 10,.var 6,.ix (.var 8) (.var 10)]) (.nm 10) (.seq (.bk .sorted #v[.var 8])) .no])) iZ
def i0:Ss:=.cons (.while (.cmp .Gt (.bi .len #v[.var 8]) (.int 0)) dU) iT
def i3:Ss:=.cons (.set 8 (.fn 0 #v[.var 0,.fn 3 #v[.var 0,.var 5],.var 7,.var 3])) i0
def i5:Ss:=.cons (.set 7 (.var 2)) i3
def iq:Ss:=.cons (.set 6 (.int 1)) i5
def iu:Ss:=.cons (.set 5 (.bin .BitAnd (.var 1) (.inv (.var 2)))) iq
def gf:Ss:=.cons (.setC 4 1 (.tup #v[.var 10,.int 0,.non]) (.nm 10) (.seq (.fn 4 #v[.var 2])) .no) iu
def oC(x:Nat×Nat×Nat):D:=.tup [⇑x.1,.int (x.2.1:Int),.int (x.2.2:Int)]
def mj(f:Nat):D:=.tup [⇑f,.int 0,.non]
def gQ(b_:Z1)(g told heads:Nat):List D:=(memb told).map mj++(bN b_ g (av heads told+1) 1 told (av heads told)).map oC
def ml(c:CA)(S:Addr):SpD:=λds M Q=>∃(a:Addr) (m:Nat) (b_:Z1) (heads told g:Nat),ds=[.ref a,⇑heads,⇑told,⇑g]/\SheetAt c S M a m b_/\b_.length<401/\m<121/\heads<2 ^ m/\told<2 ^ m /\
 ∀p M',M p=none->Ext M M'->M' p=some (.lst (gQ b_ g told heads))->Q (.ref p) M'
def gm(c:CA)(S:Addr):SpD:=λds M Q=>∃(a:Addr) (m:Nat) (b_:Z1) (heads told g:Nat),ds=[.ref a,⇑heads,⇑told,⇑g]/\SheetAt c S M a m b_/\b_.length<401/\m<121/\heads<2 ^ m/\told<2 ^ m /\
 ∀M',Ext M M'->Q (.int (fZ b_ g told heads:Nat)) M'
theorem tx(b_:Z1)(h g left:Nat):aB b_ h g left=((memb left).filter λf=>(bt b_ h g f).isSome).map λf=>(f,(bt b_ h g f).getD 0):=by
 unfold aB;induction memb left with
 |nil=>rfl
 |cons f l a=>
  rw[YB,List.filter_cons];cases e:bt b_ h g f with
  |none=>simpa using a
  |some r=>simp[a,e]
theorem wK(n:Nat):(memb n).Pairwise (· < ·):=List.Pairwise.filter _ List.pairwise_lt_range
theorem Cq{n m:Nat}(h:n<2 ^ m):(memb n).length<=m:=bR (l9 n) λf hf=>f9 h ((cA _ _).1 hf)
theorem vy(b_:Z1)(h g left:Nat):(aB b_ h g left).map (·.1)=(memb left).filter λf=>(bt b_ h g f).isSome:=by
 rw[tx,ZP];exact List.map_id _
theorem mF(b_:Z1)(h g left:Nat):((aB b_ h g left).map (·.1)).Pairwise (· < ·):=by
 rw[vy];exact List.Pairwise.filter _ (wK left)
theorem yZ{l a:Zo}(h:∀f,f∈l↔f∈a):setN l=setN a:=by
 refine Nat.eq_of_testBit_eq λf=>?_
 rw[a9,a9];exact decide_eq_decide.2 (h f)
theorem tz{b_:Z1}{g:Nat}:∀(k k' step a left:Nat),left<k->left<k'->bN b_ g k step a left=bN b_ g k' step a left
 |0,_,_,_,_,h,_=>absurd h (Nat.not_lt_zero _)
 |_,0,_,_,_,_,h=>absurd h (Nat.not_lt_zero _)
 |k+1,k'+1,step,a,left,h,h'=>by
  rw[bN,bN];by_cases e:aB b_ a g left=[]
  ·rw[if_pos e,if_pos e]
  ·rw[if_neg e,if_neg e]
   have:=pC e
   rw[tz k k' _ _ _ (by omega) (by omega)]
theorem jh{b_:Z1}{g:Nat}:∀(k step a left:Nat),((bN b_ g k step a left).map (·.1)).Nodup/\∀f∈(bN b_ g k step a left).map (·.1),left.testBit f=true
 |0,_,_,_=>⟨.nil,λf h=>nomatch h⟩
 |k+1,step,a,left=>by
  rw[bN];by_cases e:aB b_ a g left=[]
  ·rw[if_pos e];exact⟨.nil,λf h=>nomatch h⟩
  ·rw[if_neg e]
   obtain⟨b,h2⟩:=jh (b_:=b_) (g:=g) k (step+1) (a|||newB (aB b_ a g left)) (av left (newB (aB b_ a g left)));have c:((aB b_ a g left).map λx=>(x.1,step,x.2)).map (·.1)=(aB b_ a g left).map (·.1):=by rw[ZP];rfl
   have d:∀f∈(aB b_ a g left).map (·.1),left.testBit f=true:=by
    intro f hf;obtain⟨⟨l,r⟩,hx,rfl⟩:=List.mem_map.1 hf;exact(dD.1 hx).1
   rw[ZO,c];refine⟨?_,λf hf=>?_⟩
   ·rw[List.nodup_append]
    refine⟨(mF b_ a g left).imp λh=>ZX h,b,λx hx y hy z=>?_⟩;subst z
    have:=h2 x hy
    rw[bd] at this;have j:(newB (aB b_ a g left)).testBit x=true:=by unfold newB;rw[a9];exact YY hx
    rw[j,Bool.not_true,Bool.and_false] at this;cases this
   ·rcases YF.1 hf with hf | hf
    ·exact d f hf
    ·have:=h2 f hf
     rw[bd,XB] at this;exact this.1
theorem y0{p:Nat->Bool}{ns:Zo}{n:Nat}(c:ns.Pairwise (· < ·))(hl:∀r∈ns,r<n)(hp:∀r,r<n->p r=true->r∈ns):ns.find? p=(List.range n).find? p:=by
 have d:ns.filter p=(List.range n).filter p:=mh (List.Pairwise.filter _ c) (List.Pairwise.filter _ List.pairwise_lt_range) λx=>by
  rw[ZY,ZY,ZZ];exact⟨λ⟨a,b⟩=>⟨hl x a,b⟩,λ⟨a,b⟩=>⟨hp x a b,b⟩⟩
 rw[←List.head?_filter,←List.head?_filter,d]
theorem vz{b_:Z1}{h g left:Nat}{ns:Zo}(c:ns.Pairwise (· < ·))(hl:∀r∈ns,∃x,b_[r]?=some x/\left.testBit x.1=true)(hp:∀f r,left.testBit f=true->hits b_ h g f r=true->r∈ns)(f r:Nat):
  ns.find? (hits b_ h g f)=some r↔left.testBit f=true/\bt b_ h g f=some r:=by
 cases b:left.testBit f with
 |true=>
  unfold bt;rw[y0 c (λr a=>let⟨x,hx,_⟩:=hl r a;(YG.mp hx).1) λr _ q=>hp f r b q];simp
 |false=>
  have:ns.find? (hits b_ h g f)=none:=by
   rw[List.find?_eq_none];intro r a q;obtain⟨x,hx,hb⟩:=hl r a;obtain⟨y,hy,hf,_⟩:=gN.1 q;rw[hx] at hy;cases hy;rw[hf,b] at hb;cases hb
  rw[this];simp
def dE(b_:Z1)(a g left:Nat)(fr:Zu):Prop:=(fr.map (·.1)).Nodup/\∀f r,(f,r)∈fr↔left.testBit f=true/\bt b_ a g f=some r
theorem dE.mem{b_:Z1}{a g left:Nat}{fr:Zu}(h:dE b_ a g left fr)(f:Nat):f∈fr.map (·.1)↔f∈(aB b_ a g left).map (·.1):=by
 rw[List.mem_map,List.mem_map];constructor
 ·rintro⟨⟨f',r⟩,hx,rfl⟩;exact⟨_,dD.2 ((h.2 _ _).1 hx),rfl⟩
 ·rintro⟨⟨f',r⟩,hx,rfl⟩;exact⟨_,(h.2 _ _).2 (dD.1 hx),rfl⟩
theorem dE.nil{b_:Z1}{a g left:Nat}{fr:Zu}(h:dE b_ a g left fr)(e:fr.length=0):aB b_ a g left=[]:=by
 have e:fr=[]:=List.length_eq_zero_iff.1 e;subst e;cases q:aB b_ a g left with
 |nil=>rfl
 |cons x l=>
  have:=(h.mem x.1).2 (by rw[q];exact .head _)
  cases this
theorem y7{m:Nat}{b_:Z1}{a g left:Nat}{fr:Zu}{ns:Zo}(ok:RowsOk m b_)(h:dE b_ a g left fr)(l:ns.Pairwise (· < ·))
  (c:∀r,r∈ns ↔ ∃x,b_[r]?=some x/\(av left (setN (fr.map (·.1)))).testBit x.1=true/\∃f∈fr.map (·.1),aS (bI x) f=true) (f r:Nat):
  ns.find? (hits b_ (a|||setN (fr.map (·.1))) g f)=some r↔(av left (setN (fr.map (·.1)))).testBit f=true/\bt b_ (a|||setN (fr.map (·.1))) g f=some r:=by
 refine vz l (λr n=>let⟨x,hx,hb,_⟩:=(c r).1 n;⟨x,hx,hb⟩) ?_ f r;intro f r hf o;obtain⟨x,hx,rfl,hq⟩:=gN.1 o;refine(c r).2 ⟨x,hx,hf,?_⟩;rw[bd,XB,a9] at hf;have p:x.1∉fr.map (·.1):=by simpa using hf.2
 have u:bt b_ a g x.1=none:=by
  cases e:bt b_ a g x.1 with
  |none=>rfl
  |some z=>exact absurd (List.mem_map.2 ⟨_,(h.2 _ _).2 ⟨hf.1,e⟩,rfl⟩) p
 obtain⟨d,j,h2,b⟩:=wB (oV u (YW hx) rfl) hq;obtain⟨t,ht,w⟩:=List.mem_flatMap.1 j;have y:=tm ((vx ok hx).2.2 t ht) _ w;obtain⟨k,rfl⟩:∃k:Nat,d=(k:Int):=⟨d.toNat,by have:=y.1;simp only at this;omega⟩;rw[cb] at h2 b;rw[Nat.testBit_or,h2,Bool.false_or,a9] at b;exact⟨k,XS b,YY j⟩
section
variable {cn:Cn}{c:CA}{S:Addr}{ds:List D}{M:MH}{Q:DK}
theorem AU(f0:cn.F.getD 0 Yl=cq c S)(f1:cn.F.getD 1 Yl=dk c S)(f2:cn.F.getD 2 Yl=cp)
  {E:EndsD}{a p b:Addr}{m:Nat}{b_:Z1}{heads told g left step j:Nat}{fr:Zu}{g_:List D}{B:Z2}{M0 M:MH}(A:SheetAt c S M0 a m b_) (hn:b_.length<401) (hm:m<121) (hl:left<2 ^ m) (U:Ext M0 M) (J6:M0 p=none) (SN:M0 b=none)
  (hp:M p=some (.lst g_)) (hb:M b=some (.dic (aR fr))) (F:dE b_ j g left fr) (F_:g_.length+130<=2000)
  (k:∀C V w9 M',Ext M0 M'->M0 C=none->M' p=some (.lst (g_++(aB b_ j g left).map λx=>oC (x.1,step,x.2)))->M' C=some (.dic (aR V)) ->
   dE b_ (j|||newB (aB b_ j g left)) g (av left (newB (aB b_ j g left))) V ->
   E.nx [↑a,~~~heads,~~~told,~~~g,↑p,some (.int (av left (newB (aB b_ j g left)):Nat)),some (.int ((step+1:Nat):Int)),some (.int (j|||newB (aB b_ j g left):Nat)),↑C,w9] M'):
  wSs cn dU E [↑a,~~~heads,~~~told,~~~g,↑p,~~~left,~~~step,~~~j,↑b,B] M:=by
 have KB:newB (aB b_ j g left)=setN (fr.map (·.1)):=yZ λf=>(F.mem f).symm
 have n:∀f∈fr.map (·.1),f<m:=by
  intro f hf;obtain⟨⟨G,r⟩,hx,rfl⟩:=List.mem_map.1 hf;exact f9 hl ((F.2 _ _).1 hx).1
 have OT:fr.length<=m:=by have:=bR F.1 n;rwa [ZG] at this
 have hsz:(2000:Nat)<sizeLine:=by decide
 unfold dU;simp! only[List.set,List.cons_append,XG,List.replicate,dBk,ju,hp,hb,rdL,rdD,yY,ou];refine⟨rfl,by rw[ZG,ZG];omega,λp2 ms W X h2=>?_⟩;obtain⟨ns,rfl,I,t⟩:=kY X h2 F.1;rw[nz];have J:ns=(aB b_ j g left).map (·.1):=mh I (mF _ _ _ _) λf=>(t f).trans (F.mem f)
 have K:=Ext.new (o:=MO.lst (nats ns)) W;have L:updM M p2 (MO.lst (nats ns)) p2=some (.lst (nats ns)):=aa;generalize updM M p2 (MO.lst (nats ns))=O at *;simp only[L];refine de (f:=λd=>match d with | .int i=>.tup [.int i,⇑step,.int ((bt b_ j g i.toNat).getD 0:Nat)] | _=>.non) (ok:=λσ=>∃v,σ=[↑a,~~~heads,~~~told,~~~g,↑p,~~~left,~~~step,~~~j,↑b,B,v]) [] _ ⟨none,rfl⟩ ?_ ?_
 ·intro d hd σ Ht rest ⟨v,P⟩ kk
  subst P;obtain⟨f,hf,rfl⟩:=List.mem_map.1 hd;obtain⟨⟨G,r⟩,hx,rfl⟩:=List.mem_map.1 ((t f).1 hf);have P:=nC G F.1 hx;have R:=((F.2 _ _).1 hx).2;rw[aH];simp! only[List.set,K b _ hb,P];refine⟨L,?_⟩
  have:=kk [↑a,~~~heads,~~~told,~~~g,↑p,~~~left,~~~step,~~~j,↑b,B,~~~G] ⟨_,rfl⟩
  dsimp only at this;rw[YZ,R] at this;exact this
 intro T Y;have Z:([]++(nats ns).map λd=>match d with | .int i=>D.tup [.int i,⇑step,.int ((bt b_ j g i.toNat).getD 0:Nat)] | _=>.non)=(aB b_ j g left).map λx=>oC (x.1,step,x.2):=by
  rw[XG,J,tx,ZP,ZP];unfold nats;rw[ZP];rw[show((λ(x:Nat×Nat)=>x.1)∘λf=>(f,(bt b_ j g f).getD 0))=id from rfl,List.map_id];rfl
 rw[Z];have TZ:((aB b_ j g left).map λx=>oC (x.1,step,x.2)).length<=130:=by
  have h5:ns.length=(aB b_ j g left).length:=by rw[J,ZG]
  have h6:ns.length<=m:=bR (I.imp λh=>ZX h) λf hf=>n f ((t f).1 hf)
  rw[ZG];omega
 generalize hnw:((aB b_ j g left).map λx=>oC (x.1,step,x.2))=new at *;have u:=K.trans (Ext.new (o:=MO.lst new) Y);have g4:updM O T (MO.lst new) T=some (.lst new):=aa;generalize updM O T (MO.lst new)=l at *;simp only[u p _ hp,g4];refine⟨by omega,?_⟩;have e5:Ext M0 (updM l p (.lst (g_++new))):=(U.trans u).put J6;have g5:updM l p (MO.lst (g_++new)) p=some (.lst (g_++new)):=aa;have Mu:b≠p:=λz=>by subst z;rw[hp] at hb;cases hb
 have b5:updM l p (MO.lst (g_++new)) b=some (.dic (aR fr)):=by rw[aw Mu];exact u _ _ hb
 generalize updM l p (MO.lst (g_++new))=M5 at *;clear u g4 Y K L W Z X h2 J I t hb hp U;clear O l M;unfold iZ;simp! only[List.set,f2];refine⟨.ref b,fr.map (·.1),updM M5 b (.rod (aR fr)),rfl,.inr ⟨b,rfl,.inr ⟨aR fr,rc fr,.inl ⟨b5,rfl⟩⟩⟩,λf hf=>by have:=n f hf;omega,?_⟩;have w:Ext M0 (updM M5 b (.rod (aR fr))):=e5.put SN;have b6:updM M5 b (MO.rod (aR fr)) b=some (.rod (aR fr)):=aa;have g6:updM M5 b (MO.rod (aR fr)) p=some (.lst (g_++new)):=by rw[aw Mu.symm];exact g5
 generalize updM M5 b (MO.rod (aR fr))=M6 at *;unfold iY;simp! only[List.set,vc];unfold iX;simp! only[wInv,List.set,jf];unfold iV;simp! only[List.set];unfold iU;simp! only[List.set,f0,f1];refine⟨a,m,b_,b,aR fr,fr.map (·.1),_,rfl,A.ext w,hn,b6,rc fr,n,λp7 SO M7 T1 y g7 s7 r7=>?_⟩;refine⟨a,m,b_,p7,SO,_,g,rfl,A.ext (w.trans y),g7,λr R=>?_,λp8 SS M8 SU e8 g8 n8 r8=>?_⟩
 ·obtain⟨x,hx,_⟩:=(r7 r).1 R
  exact(YG.mp hx).1
 have:=k p8 SS (some (.int (setN (fr.map (·.1)):Nat))) M8 ((w.trans y).trans e8) ((w.trans y).free SU) ((y.trans e8) _ _ g6) g8
 rw[KB] at this;exact this ⟨n8,λf r=>(r8 f r).trans (y7 A.ok F s7 r7 f r)⟩
end
theorem wL{m:Nat}{b_:Z1}{g told heads:Nat}(c:told<2 ^ m)(h2:heads<2 ^ m):(gQ b_ g told heads).length<=2*m:=by
 unfold gQ;rw[ZN,ZG,ZG];have a:=Cq c;obtain⟨nd,hf⟩:=jh (b_:=b_) (g:=g) (av heads told+1) 1 told (av heads told);have b:=bR (n:=m) nd λf q=>f9 h2 (by have:=hf f q;rw[bd,XB] at this;exact this.1)
 rw[ZG] at b;omega
section
variable {cn:Cn}{c:CA}{S:Addr}{ds:List D}{M:MH}{Q:DK}
theorem AV (C:cn.F.getD 0 Yl = cq c S) (U:cn.F.getD 1 Yl = dk c S) (V:cn.F.getD 2 Yl = cp) (W:cn.F.getD 3 Yl = kn c S) (X:cn.F.getD 4 Yl = fD)
  (h:ml c S ds M Q):wSs cn gf (fin Q) (ad ["","","","","","","","","",""] ds) M:=by
 obtain ⟨a,m,b_,heads,told,g,rfl,A,hn,hm,Y,ht,q⟩:=h
 show wSs cn gf (fin Q) [↑a,~~~heads,~~~told,~~~g,none,none,none,none,none,none] M
 have T2:=wL (b_:=b_) (g:=g) ht Y
 unfold gf
 simp! only [List.cons_append,XG,List.replicate,X]
 refine ⟨told,rfl,ZV ht (Nat.pow_le_pow_right (by decide) (by omega)),λp0 M1 Z e1 o=>?_⟩
 simp only [o]
 refine de (f:=λd=>.tup [d,.int 0,.non]) (ok:=λσ=>∃ v,σ = [↑a,~~~heads,~~~told,~~~g,none,none,none,none,none,none,v]) [] _ ⟨none,rfl⟩ ?_ ?_
 ·intro d hd σ Ht rest ⟨v,hv⟩ kk
  subst hv
  exact ⟨o,kk _ ⟨_,rfl⟩⟩
 intro p hp
 have IM:([] ++ (nats (memb told)).map λd=>D.tup [d,.int 0,.non]) = (memb told).map mj:=by
  rw [XG]; unfold nats; rw [ZP]; rfl
 rw [IM]
 have e2:Ext M (updM M1 p (.lst ((memb told).map mj))):=e1.then hp
 have g2:updM M1 p (MO.lst ((memb told).map mj)) p = some (.lst ((memb told).map mj)):=aa
 have E:M p = none:=e1.free hp
 generalize updM M1 p (MO.lst ((memb told).map mj)) = M2 at *
 clear hp e1 o Z
 clear M1
 unfold iu
 simp! only [wInv,List.set,jf]
 unfold iq
 simp! only [List.set]
 unfold i5
 simp! only [List.set]
 unfold i3
 simp! only [List.set,C,W]
 have hl:av heads told < 2 ^ m:=by have:=je heads told; omega
 refine ⟨a,m,b_,av heads told,rfl,A.ext e2,hn,hl,λp3 ns M3 Li l g3 s3 t=>?_⟩
 refine ⟨a,m,b_,p3,ns,told,g,rfl,A.ext (e2.trans l),g3,λr u=>?_,λb fr G hb I g4 n4 r4=>?_⟩
 ·obtain ⟨x,hx,_⟩:=(t r).1 u
  exact (YG.mp hx).1
 have F4:dE b_ told g (av heads told) fr:=⟨n4,λf r=>(r4 f r).trans (vz s3 (λr u=>(t r).1 u) (λf r h1 h2=>by
  obtain ⟨x,hx,rfl,_⟩:=gN.1 h2
  exact (t r).2 ⟨x,hx,h1⟩) f r)⟩
 have SV:M b = none:=(e2.trans l).free hb
 have e5:Ext M G:=(e2.trans l).trans I
 have g5:G p = some (.lst ((memb told).map mj)):=(l.trans I) _ _ g2
 unfold i0
 show lq _ _ _ _ _
 refine ⟨λk σ M'=>∃ (left step j:Nat) (b:Addr) (fr:List (Nat × Nat)) (y:Z2) (g_:List D),left = k/\σ = [↑a,~~~heads,~~~told,~~~g,↑p,~~~left,~~~step,~~~j,↑b,y] /\
  Ext M M'/\M b = none/\M' p = some (.lst g_)/\M' b = some (.dic (aR fr))/\dE b_ j g left fr/\left < 2 ^ m/\g_ ++ (bN b_ g (left + 1) step j left).map oC = gQ b_ g told heads,?_,?_⟩
 ·exact ⟨_,av heads told,1,told,b,fr,none,_,rfl,rfl,e5,SV,g5,g4,F4,hl,rfl⟩
 rintro k σ M' ⟨left,step,j,b,fr,y,g_,rfl,rfl,J,O2,L,O,B,QU,n⟩
 have Mw:=congrArg List.length n
 rw [ZN] at Mw
 have LQ:∀ K:Bool->MH->Prop,K (decide (0 < (fr.length:Int))) M'->wT cn (.cmp .Gt (.bi .len (.cons (.var 8) .nil)) (.int 0)) [↑a,~~~heads,~~~told,~~~g,↑p,~~~left,~~~step,~~~j,↑b,y] M' K:=by
  intro K hK
  simp! only [List.set,O]
  rw [show (aR fr).length = fr.length by unfold aR; rw [ZG]]
  exact hK
 refine LQ _ ?_
 by_cases hz:fr.length = 0
 ·rw [ZT (by omega)]
  have IV:=B.nil hz
  rw [bN,if_pos IV,XC,ZA] at n
  rw [aF]
  dsimp only
  unfold iT
  simp! only [List.set]
  refine q p M' E J ?_
  rw [L,n]
 ·rw [YY (by omega)]
  have P:aB b_ j g left ≠ []:=λz=>by
   have hx:fr ≠ []:=λw=>hz (by rw [w]; rfl)
   obtain ⟨x,hx⟩:=List.exists_mem_of_ne_nil _ hx
   have:=(B.mem x.1).1 (List.mem_map.2 ⟨x,hx,rfl⟩)
   rw [z] at this; cases this
  have R:=pC P
  rw [aZ]
  refine ⟨λk_ T=>∃ k',k' < left/\_,λk_ T h=>h,?_⟩
  refine AU C U V A hn hm QU J E O2 L O B (by omega) ?_
  intro b' Nq w9 T e7 SW g7 d7 F7
  refine ⟨_,R,_,step + 1,_,b',Nq,w9,_,rfl,rfl,e7,SW,g7,d7,F7,by omega,?_⟩
  have r1:bN b_ g (left + 1) step j left = (aB b_ j g left).map (λx=>(x.1,step,x.2)) ++ bN b_ g left (step + 1) (j ||| newB (aB b_ j g left)) (av left (newB (aB b_ j g left))):=by rw [bN,if_neg P]
  rw [← n,r1,ZO,ZP,ZC,tz (av left (newB (aB b_ j g left)) + 1) left _ _ _ (by omega) R]
  rfl
theorem sf(k:cn.F.getD 0 Yl=cp)(l:cn.F.getD 1 Yl=ml c S)(h:gm c S ds M Q):wSs cn gP (fin Q) (ad ["","","",""] ds) M:=by
 obtain⟨a,m,b_,heads,told,g,rfl,A,hn,hm,b,ht,q⟩:=h;show wSs cn gP (fin Q) [↑a,~~~heads,~~~told,~~~g] M;unfold gP;simp! only[List.cons_append,XG,List.replicate,k,l];refine⟨a,m,b_,heads,told,g,rfl,A,hn,hm,b,ht,λp M1 hp e1 j=>?_⟩;simp only[j];have n:∀d∈gQ b_ g told heads,∃(f:Nat) (r:List D),d=.tup (⇑f::r):=by
  intro d hd;rcases YF.1 hd with hd | hd
  ·obtain⟨f,_,rfl⟩:=List.mem_map.1 hd
   exact⟨f,_,rfl⟩
  ·obtain⟨x,_,rfl⟩:=List.mem_map.1 hd
   exact⟨x.1,_,rfl⟩
 refine de (f:=λd=>match d with | .tup (h::_)=>h | _=>.non) (ok:=λσ=>∃v,σ=[↑a,~~~heads,~~~told,~~~g,v]) [] _ ⟨none,rfl⟩ ?_ ?_
 ·intro d hd σ w rest ⟨v,o⟩ kk
  subst o;obtain⟨f,r,rfl⟩:=n d hd;rw[aH];simp! only[List.set,at0];exact⟨j,kk _ ⟨_,rfl⟩⟩
 intro p2 t;have u:([]++(gQ b_ g told heads).map λd=>match d with | .tup (h::_)=>h | _=>.non)=nats (memb told++(bN b_ g (av heads told+1) 1 told (av heads told)).map (·.1)):=by
  rw[XG];unfold gQ nats;rw[ZO,ZO,ZP,ZP,ZP];rfl
 rw[u];refine⟨.ref p2,_,_,rfl,.inr ⟨p2,rfl,.inl ⟨aa,rfl⟩⟩,?_,?_⟩
 ·intro f hf
  rcases YF.1 hf with hf | hf
  ·have:=f9 ht ((cA _ _).1 hf);omega
  ·have:=(jh _ _ _ _).2 f hf
   rw[bd,XB] at this
   have:=f9 b this.1
   omega
 ·have:setN (memb told++(bN b_ g (av heads told+1) 1 told (av heads told)).map (·.1))=fZ b_ g told heads:=by
   refine Nat.eq_of_testBit_eq λf=>?_
   unfold fZ;rw[Nat.testBit_or,a9,a9];cases e:told.testBit f with
   |true=>rw[Bool.true_or];exact YY (YF.2 (.inl ((cA _ _).2 e)))
   |false=>
    rw[Bool.false_or];refine decide_eq_decide.2 ⟨λh=>?_,λh=>YF.2 (.inr h)⟩;rcases YF.1 h with h | h
    ·rw[(cA _ _).1 h] at e;cases e
    ·exact h
  rw[this];exact q _ (e1.then t)
end
def cellAt(ns:Zn)(k:Nat):Int:=(ns[k]?).getD 0
def dm:SpD:=λds M Q=>∃(a:Addr) (ns:Zn) (k:Nat),ds=[.ref a,⇑k]/\M a=some (.rol (ns.map .int))/\Q (.int (cellAt ns k)) M
def iw:SpD:=λds M Q=>∃(p:Addr) (b k:Int) (m:Nat),ds=[.ref p,⇑m]/\M p=some (.lst [.int b,.int k])/\(0<m/\m<1000)/\∀(v:Nat) (a:Int),v<m->Q (⇑v) (updM M p (.lst [.int a,.int k]))
def EC:SpD:=λds M Q=>∃i:Int,ds=[.int i]/\Q (.bl true) M
structure Box2 (p:Addr) (k:Int) (M M':MH) (b:Int):Prop where
 but:ExtBut p M M'
 at_:M' p=some (.lst [.int b,.int k])
theorem ExtBut.put{p r:Addr}{o:MO}{M M':MH}(h:ExtBut p M M')(b:M r=none):ExtBut p M (updM M' r o):=λa u n q=>by
 have:a≠r:=λz=>by subst z;rw[b] at q;cases q
 rw[aw this];exact h a u n q
theorem Box2.draw{p:Addr}{k b:Int}{M M':MH}(h:Box2 p k M M' b)(a:Int):Box2 p k M (updM M' p (.lst [.int a,.int k])) a:=⟨h.but.trans (ExtBut.upd _ _ _),aa⟩
theorem Box2.ext{p:Addr}{k b:Int}{M M' a:MH}(h:Box2 p k M M' b)(e:Ext M' a):Box2 p k M a b:=⟨h.but.trans e.but,e _ _ h.at_⟩
theorem Box2.put{p r:Addr}{k b:Int}{o:MO}{M M':MH}(h:Box2 p k M M' b)(a:M r=none)(hp:M p≠none):Box2 p k M (updM M' r o) b:=⟨h.but.put a,by
 have:p≠r:=λz=>by subst z;exact hp a
 rw[aw this];exact h.at_⟩
def jU:Ss:=#v[.ret (.int 0)]
def gR:Ss:=.cons (.ite (.cmp .Lt (.var 1) (.bi .len #v[.var 0])) #v[.ret (.ix (.var 0) (.var 1))] .nil) jU
def mG:Ss:=#v[.ret (.bin .Mod (.bin .Mod (.bin .Mult (.var 3) (.var 3)) (.int 2147483587)) (.var 1))]
def mH:Ss:=.cons (.set 3 (.bin .Mod (.bin .Add (.bin .Mult (.ix (.var 0) (.int 0)) (.ix (.var 0) (.int 0))) (.int 12345)) (.int 2147483629))) mG
def mI:Ss:=.cons (.putIx (.var 0) (.int 0) (.bin .Mod (.bin .Add (.bin .Mult (.ix (.var 0) (.int 0)) (.int 48271)) (.int 7919)) (.int 2147483647))) mH
def mJ:Ss:=#v[.ret (.var 2)]
def mK:Ss:=.cons (.putIx (.var 0) (.int 0) (.bin .FloorDiv (.ix (.var 0) (.int 0)) (.var 1))) mJ
def k6:Ss:=.cons (.ite (.cmp .Eq (.bin .Mod (.ix (.var 0) (.int 1)) (.int 2)) (.int 1)) (.cons (.set 2 (.bin .Mod (.ix (.var 0) (.int 0)) (.var 1))) mK) .nil) mI
def lx:Ss:=#v[.ret (.and (.bi .isinst #v[.var 0,.ty "int"]) (.not (.bi .isinst #v[.var 0,.ty "bool"])))]
def dF:Ss:=.cons (.ite (.or (.cmp .Is (.var 0) .non) (.val (.bi .isinst #v[.var 0,.ty "str"]))) #v[.ret (.bl true)] .nil) lx
def gS:Ss:=#v[.ret (.bl true)]
def dG:Ss:=#v[.ite (.not (.val (.fn 0 #v[.var 1]))) #v[.ret (.bl false)] .nil]
def aY:Ss:=.cons (.ite (.val (.bi .isinst #v[.var 0,.tup #v[.ty "tuple",.ty "list"]])) (.cons (.for (.nm 1) (.seq (.var 0)) dG) gS) .nil) dF
theorem modB{y m:Int}(h:0<m):0<=y%m/\y%m<m:=⟨Int.emod_nonneg _ (by omega),Int.emod_lt_of_pos _ h⟩
theorem ix00(x y:D):atI [x,y] 0=some x:=at0 x [y]
theorem ix01(x y:D):atI [x,y] 1=some y:=at1 x y []
theorem C1(x y:D):ixN ([x,y]:List D).length 0=some 0:=rfl
section
variable {cn:Cn}{ds:List D}{M:MH}{Q:DK}
theorem y8(h:dm ds M Q):wSs cn gR (fin Q) (ad ["",""] ds) M:=by
 obtain⟨a,ns,k,rfl,b,q⟩:=h;show wSs cn gR (fin Q) [↑a,~~~k] M;unfold gR;simp! only[b,ZG];unfold cellAt at q;refine xb (λc=>?_) (λc=>?_)
 ·have hk:k<ns.length:=by omega
  rw[dv (by rw[ZH,ZE hk];rfl)];rw[ZE hk] at q;exact q
 ·have hk:ns.length<=k:=by omega
  rw[ZL hk] at q;unfold jU;simp! only[];exact q
theorem ED(h:iw ds M Q):wSs cn k6 (fin Q) (ad ["","","",""] ds) M:=by
 obtain⟨p,b,k,m,rfl,a,hm,q⟩:=h;show wSs cn k6 (fin Q) [↑p,~~~m,none,none] M;have done:∀(z c:Int),Q (.int (z%(m:Int))) (updM M p (.lst [.int c,.int k])):=by
  intro z c;have d:=modB (y:=z) (m:=(m:Int)) (by omega)
  have:=q (z%(m:Int)).toNat c (by omega)
  rwa [Int.toNat_of_nonneg d.1] at this
 unfold k6;simp_all! only[List.set,a,ix00,ix01];refine⟨by decide,?_⟩;refine Bif2 (λ_=>?_) (λ_=>?_)
 ·refine⟨by omega,?_⟩
  unfold mK;simp! only[List.set,a,ix00,ix01,C1];refine⟨⟨by omega,by omega⟩,?_⟩;unfold mJ;simp! only[List.set];exact done _ _
 ·unfold mI
  simp! only[List.set,a,ix00,ix01,C1];refine⟨.inr ⟨by decide,by decide⟩,by decide,?_⟩;have f:=modB (y:=b*48271+7919) (m:=2147483647) (by decide);generalize (b*48271+7919)%2147483647=y at *;unfold mH;simp! only[List.set,aa,ix00,ix01];refine⟨.inl ⟨by omega,by omega⟩,by decide,?_⟩;have g:=modB (y:=y*y+12345) (m:=2147483629) (by decide);generalize (y*y+12345)%2147483629=z at *;unfold mG;simp! only[List.set];exact⟨.inl ⟨by omega,by omega⟩,by decide,by omega,done _ _⟩
theorem Cr(h:EC ds M Q):wSs cn aY (fin Q) (ad ["",""] ds) M:=by
 obtain⟨i,rfl,q⟩:=h;show wSs cn aY (fin Q) [some (.int i),none] M;unfold aY;simp! only[tyD,tysD];refine⟨by decide,?_⟩;show Bif false _ _;unfold dF;simp! only[tyD];refine⟨trivial,by decide,?_⟩;show Bif false _ _;unfold lx;simp! only[tyD];refine⟨by decide,?_⟩;show Bif true _ _;refine⟨by decide,?_⟩;exact q
end
def mL:Ss:=#v[.ret (.tup #v[.str "lead",.bi .tuple #v[.var 4],.fn 0 #v[.var 0,.bi .len #v[.var 4]]])]
def d8:Ss:=.cons (.ite (.cmp .Eq (.var 2) (.int 4)) #v[.ret (.tup #v[.str "some",.bin .Add (.int 1) (.fn 0 #v[.var 0,.bi .min #v[.int 6,.bin .Add (.bi .len #v[.var 4]) (.int 1)]]),.bi .tuple #v[.var 4]])] .nil) mL
def d9:Ss:=#v[.expr (.mt .append (.var 4) #v[.mt .pop (.var 3) #v[.fn 0 #v[.var 0,.bi .len #v[.var 3]]]])]
def mM:Ss:=.cons (.for (.nm 5) (.rg1 #v[.bin .Add (.int 1) (.fn 0 #v[.var 0,.bi .min #v[.var 1,.int 6]])]) d9) d8
def mN:Ss:=.cons (.set 4 (.lst .nil)) mM
def mO:Ss:=.cons (.set 3 (.lrg #v[.var 1])) mN
def mP:Ss:=.cons (.ite (.cmp .Lt (.var 2) (.int 4)) #v[.ret (.tup #v[.ix (.lst #v[.str "have",.str "lack"]) (.bin .Mod (.var 2) (.int 2)),.fn 0 #v[.var 0,.var 1]])] .nil) mO
def k7:Ss:=.cons (.set 2 (.fn 0 #v[.var 0,.int 6])) mP
def iy:SpD:=λds M Q=>∃(p:Addr) (b k:Int) (m:Nat),ds=[.ref p,⇑m]/\M p=some (.lst [.int b,.int k])/\(0<m/\m<64)/\∀(t:CT) M' a,t.fit (m:Int)->Box2 p k M M' a->Q t.told M'
theorem bO(m:Nat):a0 0 (m:Int)=nats (List.range m):=by
 unfold a0 nats;rw[show((m:Int)-0).toNat=m by omega];refine ZQ λi _=>?_
 rw[Int.zero_add]
theorem tB(fs:Zo):nats fs=intL (fs.map λ(f:Nat)=>(f:Int)):=by unfold nats intL;rw[ZP];rfl
theorem rf(b:Zo)(i:Nat):(nats b).eraseIdx i=nats (b.eraseIdx i):=by
 unfold nats;induction b generalizing i with
 |nil=>rfl
 |cons a r c=>
  cases i with
  |zero=>rfl
  |succ i=>rw[YO,List.eraseIdx_cons_succ,List.eraseIdx_cons_succ,YO,c]
theorem rg{b:Type}:∀{l:List b}{i:Nat}{x:b},l[i]?=some x->(x::l.eraseIdx i).Perm l
 |[],_,_,h=>by simp at h
 |a::l,0,x,h=>by
  rw[XX] at h;cases h;exact List.Perm.refl _
 |a::l,i+1,x,h=>by
  rw[List.getElem?_cons_succ] at h;rw[List.eraseIdx_cons_succ];exact(List.Perm.swap _ _ _).trans ((rg h).cons a)
theorem wM{fs:Zo}(h:fs.Nodup):(fs.map λ(f:Nat)=>(f:Int)).Nodup:=by
 unfold List.Nodup;rw[List.pairwise_map];exact List.Pairwise.imp (λh z=>h (by omega)) h
structure Drawn (m:Nat) (rs fs:Zo):Prop where
 nd:(fs++rs).Nodup
 lt:∀f∈fs++rs,f<m
 len:fs.length+rs.length=m
theorem Drawn.pop{m:Nat}{rs fs:Zo}{i x:Nat}(h:Drawn m rs fs)(hx:rs[i]?=some x):Drawn m (rs.eraseIdx i) (fs++[x]):=by
 have hp:(fs++[x]++rs.eraseIdx i).Perm (fs++rs):=by
  rw[ZC];exact List.Perm.append_left _ (rg hx)
 have hl:=hp.length_eq;refine⟨hp.nodup_iff.2 h.nd,λf hf=>h.lt f (hp.mem_iff.1 hf),?_⟩
 have:=h.len
 simp only[ZN] at hl ⊢;omega
section
variable {cn:Cn}{ds:List D}{M:MH}{Q:DK}
theorem wN(G:cn.F.getD 0 Yl=iw)(h:iy ds M Q):wSs cn k7 (fin Q) (ad ["","","","","",""] ds) M:=by
 obtain⟨p,b,k,m,rfl,hM,hm,q⟩:=h;show wSs cn k7 (fin Q) [↑p,~~~m,none,none,none,none] M;have U:M p≠none:=by rw[hM];simp
 unfold k7;simp! only[List.set,G];refine⟨p,b,k,6,rfl,hM,⟨by decide,by decide⟩,λv A hv=>?_⟩;have K:Box2 p k M (updM M p (.lst [.int A,.int k])) A:=⟨ExtBut.upd _ _ _,aa⟩;generalize updM M p (MO.lst [.int A,.int k])=M1 at *;unfold mP;simp! only[List.set];refine xb (λG_=>?_) (λG_=>?_)
 ·intro p2 D_
  have B:Box2 p k M (updM M1 p2 (.lst [.str "have",.str "lack"])) A:=K.ext (Ext.new D_);have I:updM M1 p2 (MO.lst [.str "have",.str "lack"]) p2=some (.lst [.str "have",.str "lack"]):=aa;generalize updM M1 p2 (MO.lst [.str "have",.str "lack"])=M2 at *;simp only[I];refine⟨by decide,?_⟩;have h2:(v:Int)%2=0\/(v:Int)%2=1:=by omega
  rcases h2 with h2 | h2
  ·rw[h2,ix00]
   simp only[G];refine⟨p,A,k,m,rfl,B.at_,⟨hm.1,by omega⟩,λw L hw=>?_⟩;exact q (.hav (w:Int)) _ L ⟨by omega,by omega⟩ (B.draw L)
  ·rw[h2,ix01]
   simp only[G];refine⟨p,A,k,m,rfl,B.at_,⟨hm.1,by omega⟩,λw L hw=>?_⟩;exact q (.lck (w:Int)) _ L ⟨by omega,by omega⟩ (B.draw L)
 ·unfold mO
  simp! only[List.set];refine⟨⟨by omega,by omega⟩,λa J=>?_⟩;rw[bO];have Iy:M a=none:=by
   cases e:M a with
   |none=>rfl
   |some o=>
    by_cases z:a=p
    ·subst z;rw[K.at_] at J;cases J
    ·rw[K.but _ _ z e] at J;cases J
  have B:Box2 p k M (updM M1 a (.lst (nats (List.range m)))) A:=K.ext (Ext.new J);have I:updM M1 a (MO.lst (nats (List.range m))) a=some (.lst (nats (List.range m))):=aa;generalize updM M1 a (MO.lst (nats (List.range m)))=M2 at *;unfold mN;simp! only[List.set];intro c C;have IQ:M c=none:=by
   cases e:M c with
   |none=>rfl
   |some o=>
    by_cases z:c=p
    ·subst z;rw[B.at_] at C;cases C
    ·rw[B.but _ _ z e] at C;cases C
  have X:Box2 p k M (updM M2 c (.lst [])) A:=B.ext (Ext.new C);have g3:updM M2 c (MO.lst []) c=some (.lst (nats [])):=aa;have r3:updM M2 c (MO.lst []) a=some (.lst (nats (List.range m))):=(Ext.new C) _ _ I;have Hd:c≠a:=λz=>by subst z;rw[C] at I;cases I
  have Lh:p≠a:=λz=>by subst z;exact U Iy
  have Y:p≠c:=λz=>by subst z;exact U IQ
  generalize updM M2 c (MO.lst [])=V at *;clear K B I J C;clear M1 M2;have D3:Drawn m (List.range m) []:=⟨List.nodup_range,λf hf=>by simpa using hf,by simp⟩;unfold mM;simp! only[List.set,G];refine⟨p,A,k,min m 6,?_,X.at_,⟨by omega,by omega⟩,λw O hw=>?_⟩
  ·congr 3
   split<;>omega
  have B4:=X.draw O;have g4:updM V p (MO.lst [.int O,.int k]) c=some (.lst (nats [])):=by rw[aw Y.symm];exact g3
  have r4:updM V p (MO.lst [.int O,.int k]) a=some (.lst (nats (List.range m))):=by rw[aw Lh.symm];exact r3
  generalize updM V p (MO.lst [.int O,.int k])=M4 at *;clear X g3 r3;clear V;refine⟨⟨by omega,by omega⟩,?_⟩;rw[show(1:Int)+(w:Int)=((w+1:Nat):Int) by omega,bO];have QV:w+1<=m/\w+1<=6:=by omega
  have last:∀(fs rs:Zo) (l:Z2) (j:Int) (M5:MH),fs.length=w+1->Drawn m rs fs->Box2 p k M M5 j->M5 c=some (.lst (nats fs))->wSs cn d8 (fin Q) [↑p,~~~m,~~~v,↑a,↑c,l] M5:=by
   intro fs rs l j M5 OT u r y;have fit:∀f∈fs.map (λ(f:Nat)=>(f:Int)),0<=f/\f<(m:Int):=by
    intro f hf;obtain⟨g,hg,rfl⟩:=List.mem_map.1 hf
    have:=u.lt g (YF.2 (.inl hg))
    omega
   have nd:(fs.map λ(f:Nat)=>(f:Int)).Nodup:=wM (List.nodup_append.1 u.nd).1;have ln:(fs.map λ(f:Nat)=>(f:Int)).length=fs.length:=ZG _;unfold d8;simp! only[List.set,G,y,dh];refine⟨⟨rfl,rfl,(by decide:(0:Nat)<=30)⟩,?_⟩;refine Bif2 (λ_=>?_) (λ_=>?_)
   ·refine⟨p,j,k,min 6 (fs.length+1),?_,r.at_,⟨by omega,by omega⟩,λn d hn=>?_⟩
    ·congr 3
     split<;>omega
    have P:updM M5 p (MO.lst [.int d,.int k]) c=some (.lst (nats fs)):=by rw[aw Y.symm];exact y
    simp only[P,rdL,tB];refine q (.som (1+(n:Int)) _) _ d ⟨⟨by omega,by omega⟩,⟨by omega,by omega⟩,nd,fit⟩ (r.draw d)
   ·unfold mL
    simp! only[List.set,G,y,rdL,dh];refine⟨p,j,k,fs.length,rfl,r.at_,⟨by omega,by omega⟩,λn d hn=>?_⟩;rw[tB];exact q (.led _ n) _ d ⟨⟨by omega,by omega⟩,nd,fit⟩ (r.draw d)
  have R:∀(E:EndsD) (fs rs:Zo) (l:Z2) (j:Int) (M5:MH),Drawn m rs fs->0<rs.length->Box2 p k M M5 j->M5 c=some (.lst (nats fs))->M5 a=some (.lst (nats rs)) ->
    (∀S W d t,Drawn m W S->S.length=fs.length+1->Box2 p k M t d->t c=some (.lst (nats S))->t a=some (.lst (nats W))->E.nx [↑p,~~~m,~~~v,↑a,↑c,l] t) ->
    wSs cn d9 E [↑p,~~~m,~~~v,↑a,↑c,l] M5:=by
   intro E fs rs l j M5 u KU r y T kk;have J2:=u.len;unfold d9;simp! only[List.set,G,y,T,dh];refine⟨rfl,rfl,p,j,k,rs.length,rfl,r.at_,⟨KU,by omega⟩,λi d hi=>?_⟩;have Z:=r.draw d;have P:updM M5 p (MO.lst [.int d,.int k]) c=some (.lst (nats fs)):=by rw[aw Y.symm];exact y
   have r6:updM M5 p (MO.lst [.int d,.int k]) a=some (.lst (nats rs)):=by rw[aw Lh.symm];exact T
   generalize updM M5 p (MO.lst [.int d,.int k])=t at *;have hx:rs[i]?=some rs[i]:=ZE hi;generalize rs[i]=x at hx;have L0:(nats rs)[(i:Int).toNat]?= ~~~x:=by unfold nats;rw[YZ,ZH,hx];rfl
   simp only[r6,L0];refine⟨⟨by omega,by omega⟩,?_⟩;rw[YZ,rf];have B7:Box2 p k M (updM t a (.lst (nats (rs.eraseIdx i)))) d:=Z.put Iy U;have g7:updM t a (MO.lst (nats (rs.eraseIdx i))) c=some (.lst (nats fs)):=by rw[aw Hd];exact P
   have r7:updM t a (MO.lst (nats (rs.eraseIdx i))) a=some (.lst (nats (rs.eraseIdx i))):=aa;generalize updM t a (MO.lst (nats (rs.eraseIdx i)))=M7 at *;simp only[g7,dh];have hsz:(2000:Nat)<sizeLine:=by decide
   refine⟨by omega,?_⟩;rw[show nats fs++[D.int (x:Int)]=nats (fs++[x]) by unfold nats;rw[ZO];rfl];exact kk (fs++[x]) (rs.eraseIdx i) d _ (u.pop hx) (by rw[ZN];rfl) (B7.put IQ U) aa (by rw[aw Hd.symm];exact r7)
  have ac:∀(xs:Zo) (fs rs:Zo) (l:Z2) (j:Int) (M5:MH),fs.length+xs.length=w+1->Drawn m rs fs->Box2 p k M M5 j->M5 c=some (.lst (nats fs))->M5 a=some (.lst (nats rs)) ->
    au (λ_=>True) (.nm 5) (wSs cn d9) { nx:=wSs cn d8 (fin Q),rt:=Q } (nats xs) [↑p,~~~m,~~~v,↑a,↑c,l] M5:=by
   intro xs;induction xs with
   |nil=>
    intro fs rs l j M5 hl u r y T;rw[show nats []=[] from rfl,au];exact last fs rs l j M5 (by simpa using hl) u r y
   |cons x xs ih=>
    intro fs rs l j M5 hl u r y T;rw[YM] at hl
    have:=u.len
    rw[show nats (x::xs)=⇑x::nats xs from rfl,au];refine R _ fs rs _ j M5 u (by omega) r y T ?_;intro S W d t D6 h6 Z P r6;exact⟨trivial,ih S W _ d t (by omega) D6 Z P r6⟩
  exact ac (List.range (w+1)) [] (List.range m) none O M4 (by simp) D3 B4 g4 r4
end
def er:Ss:=#v[.ret (.sl (.var 4) .no (.yes (.var 3)))]
def mQ:Ss:=#v[.expr (.mt .append (.var 4) #v[.tup #v[.var 8,.comp 1 (.fn 1 #v[.var 6,.var 1]) (.nm 9) (.rg1 #v[.fn 0 #v[.var 6,.int 4]]) .no]])]
def et:Ss:=.cons (.set 8 (.fn 0 #v[.var 6,.var 1])) mQ
def mR:Ss:=#v[.for (.nm 7) (.rg1 #v[.bin .Add (.int 1) (.fn 0 #v[.var 6,.int 3])]) et]
def eB:Ss:=.cons (.set 6 (.lst #v[.var 5,.fn 2 #v[.var 0,.int 1]])) mR
def mS:Ss:=.cons (.for (.nm 5) (.seq (.sl (.var 0) (.yes (.var 2)) (.yes (.int 63)))) eB) er
def k8:Ss:=.cons (.set 4 (.lst .nil)) mS
def ko:SpD:=λds M Q=>∃(a:Addr) (ns:Zn) (m b most:Nat),ds=[.ref a,⇑m,⇑b,⇑most]/\M a=some (.rol (ns.map .int))/\(0<m/\m<64)/\most<=400 /\
 ∀p y_ b_ M',M' p=some (.lst y_)->aM M' y_ b_->RowsOk m b_->b_.length<=most->Ext M M'->Q (.ref p) M'
def hid2(r p:Addr)(M:MH):MH:=λb=>if b=r then none else if b=p then none else M b
section
variable {r p q:Addr}{M M':MH}{o:MO}
theorem Gn(r p:Addr)(M:MH)(o:MO):hid2 r p (updM M r o)=hid2 r p M:=by
 funext b;unfold hid2 updM;split<;>rfl
theorem pG(h:ExtBut p M M'):Ext (hid2 r p M) (hid2 r p M'):=λb o q=>by
 unfold hid2 at q ⊢;split at q
 ·cases q
 ·rename_i c
  rw[if_neg c];split at q
  ·cases q
  ·rename_i a
   rw[if_neg a];exact h b o a q
theorem vA(h:Ext M M'):Ext (hid2 r p M) (hid2 r p M'):=pG h.but
theorem Cs(r p:Addr)(M:MH):Ext (hid2 r p M) (hid r M):=λb o q=>by
 unfold hid2 at q;unfold hid;split at q
 ·cases q
 ·rename_i a
  rw[if_neg a];split at q
  ·cases q
  ·exact q
theorem Ct(h:M p=none):Ext (hid r M) (hid2 r p M):=λb o q=>by
 unfold hid at q;unfold hid2;split at q
 ·cases q
 ·rename_i a
  rw[if_neg a];have:b≠p:=bX q h
  rw[if_neg this];exact q
theorem EE(a:q≠r)(b:q≠p):hid2 r p M q=M q:=by
 unfold hid2;rw[if_neg a,if_neg b]
end
def nD(m:Nat)(b_:Z1):Prop:=∀x∈b_,x.1<m/\x.2.length<=6/\∀t∈x.2,t.fit (m:Int)
theorem nD.add{m:Nat}{b_:Z1}{x:Row}(h:nD m b_)(a:x.1<m)(h2:x.2.length<=6)(b:∀t∈x.2,t.fit (m:Int)):nD m (b_++[x]):=λy hy=>by
 rcases YF.1 hy with hy | hy
 ·exact h y hy
 ·have:y=x:=by simpa using hy
  subst this;exact⟨a,h2,b⟩
theorem EF{c:Type}(xs:List c)(a b:Nat):(cutL xs (some (a:Int)) (some (b:Int))).length<=b:=by
 unfold cutL;rw[HT.gw,HT.gw,YV];omega
theorem EG{a:Type}{xs:List a}{lo hi:Zv}{x:a}(h:x∈cutL xs lo hi):x∈xs:=List.mem_of_mem_drop (List.mem_of_mem_take h)
structure RowsSt (m:Nat) (R:Addr) (M2 M5:MH) (n:Nat):Prop where
 but:ExtBut R M2 M5
 ex:∃y_ b_,M5 R=some (.lst y_)/\aM (hid R M5) y_ b_/\nD m b_/\b_.length<=n
structure RowsSt2 (m:Nat) (R p:Addr) (k:Int) (M2 M5:MH) (n:Nat):Prop where
 but:ExtBut R M2 M5
 box:∃b,M5 p=some (.lst [.int b,.int k])
 ex:∃y_ b_,M5 R=some (.lst y_)/\aM (hid2 R p M5) y_ b_/\nD m b_/\b_.length<=n
section
variable {cn:Cn}{ds:List D}{M:MH}{Q:DK}
theorem wO(f0:cn.F.getD 0 Yl=iw)(f1:cn.F.getD 1 Yl=iy)(f2:cn.F.getD 2 Yl=dm)(h:ko ds M Q):wSs cn k8 (fin Q) (ad ["","","","","","","","",""] ds) M:=by
 obtain⟨a,ns,m,l,most,rfl,hM,hm,QW,q⟩:=h;show wSs cn k8 (fin Q) [↑a,~~~m,~~~l,~~~most,none,none,none,none,none] M;have hsz:(2000:Nat)<sizeLine:=by decide
 unfold k8;simp! only[List.set];intro R hR;have e1:Ext M (updM M R (.lst [])):=Ext.new hR;have g1:updM M R (MO.lst []) R=some (.lst []):=aa;generalize updM M R (MO.lst [])=M1 at *;have JB:=e1 _ _ hM;unfold mS;simp! only[List.set,JB,rdL];intro L hL;have SX:L≠R:=(bX g1 hL).symm;have T3:(cutL (ns.map D.int) (some (l:Int)) (some (63:Int))).length<=63:=EF _ l 63;have Kx:∀d∈cutL (ns.map D.int) (some (l:Int)) (some (63:Int)),∃c,d=D.int c:=λd hd=>by
  obtain⟨c,-,rfl⟩:=List.mem_map.1 (EG hd);exact⟨c,rfl⟩
 generalize cutL (ns.map D.int) (some (l:Int)) (some (63:Int))=cells at *;have e2:Ext M1 (updM M1 L (.lst cells)):=Ext.new hL;have g2:updM M1 L (MO.lst cells) L=some (.lst cells):=aa;generalize updM M1 L (MO.lst cells)=M2 at *;have KW:=e2 _ _ JB;have r2:=e2 _ _ g1;have SY:Ext M M2:=e1.trans e2;simp only[g2];clear e1 e2 g1 JB hL;clear M1;have T4:M2 R≠none:=by rw[r2];simp
 have SZ:a≠R:=bX hM hR;have last:∀(u B f g:Z2) (M5:MH) (n:Nat),RowsSt m R M2 M5 n->wSs cn er (fin Q) [↑a,~~~m,~~~l,~~~most,↑R,u,B,f,g] M5:=by
  intro u B f g M5 n ⟨hb,y_,b_,A,h2,G,J⟩;unfold er;simp! only[List.set,A,rdL,cutK];intro p hp;have lt:(b_.take most).length<=most:=by rw[YV];omega
  refine q p _ (b_.take most) _ aa (aM.ext ((ig R M5).trans (Ext.new hp)) (nT most h2)) ⟨by omega,by omega,λx hx=>G x (List.mem_of_mem_take hx)⟩ lt ?_;intro b o QX;have S0:b≠R:=bX QX hR;exact Ext.new hp _ _ (hb b o S0 (SY b o QX))
 -- one U
 have U:∀(E:EndsD) (p:Addr) (k:Int) (u f g:Z2) (M5:MH) (n:Nat),p≠R->M2 p=none->n<2000->RowsSt2 m R p k M2 M5 n ->
   (∀V j,RowsSt2 m R p k M2 j (n+1)->E.nx [↑a,~~~m,~~~l,~~~most,↑R,u,↑p,f,V] j) ->
   wSs cn et E [↑a,~~~m,~~~l,~~~most,↑R,u,↑p,f,g] M5:=by
  intro E p k u f g M5 n K W hn ⟨hb,⟨b,O3⟩,y_,b_,A,h2,G,J⟩ kk;unfold et;simp! only[List.set,f0];refine⟨p,b,k,m,rfl,O3,⟨hm.1,by omega⟩,λhd T S1=>?_⟩;have Y:Box2 p k M5 (updM M5 p (.lst [.int T,.int k])) T:=⟨ExtBut.upd _ _ _,aa⟩;generalize updM M5 p (MO.lst [.int T,.int k])=j at *;unfold mQ;have QY:=Y.but _ _ K.symm A;simp! only[List.set,List.cons_append,XG,List.replicate,f0,QY];refine⟨rfl,p,T,k,4,rfl,Y.at_,⟨by decide,by decide⟩,λnc O T5=>?_⟩;have B7:=Y.draw O;generalize updM j p (MO.lst [.int O,.int k])=M7 at *;refine⟨⟨by omega,by omega⟩,?_⟩;rw[bO];clear Y QY;clear j;have Ig:∀(F:List D->MH->Prop),(∀(ts:List CT) r I,ts.length<=6->(∀t∈ts,CT.fit (m:Int) t)->Box2 p k M5 r I->F (ts.map CT.told) r) ->
    ∀(xs:Zo) (ts:List CT) (v9:Z2) (r:MH) (I:Int),ts.length+xs.length<=6->(∀t∈ts,CT.fit (m:Int) t)->Box2 p k M5 r I ->
    aH (λ_=>True) (.nm 9) (wTo cn .no) (wE cn (.fn 1 (.cons (.var 6) (.cons (.var 1) .nil)))) F (nats xs) (ts.map CT.told) [↑a,~~~m,~~~l,~~~most,↑R,u,↑p,f,~~~hd,v9] r:=by
   intro F hF xs;induction xs with
   |nil=>
    intro ts v9 r I hl ht C;rw[show nats []=[] from rfl,aH];exact hF ts r I (by simpa using hl) ht C
   |cons x xs X=>
    intro ts v9 r I hl ht C;rw[YM] at hl;rw[show nats (x::xs)=⇑x::nats xs from rfl,aH];have go:iy [.ref p,⇑m] r (λy M2=>True/\aH (λ_=>True) (.nm 9) (wTo cn .no) (wE cn (.fn 1 (.cons (.var 6) (.cons (.var 1) .nil)))) F (nats xs) (ts.map CT.told++[y]) [↑a,~~~m,~~~l,~~~most,↑R,u,↑p,f,~~~hd,~~~x] M2):=by
     refine⟨p,I,k,m,rfl,C.at_,hm,λt M9 b9 ft B9=>⟨trivial,?_⟩⟩;rw[show ts.map CT.told++[t.told]=(ts++[t]).map CT.told by rw[ZO];rfl];refine X (ts++[t]) _ M9 b9 (by rw[ZN];simp;omega) (λt' Kj=>?_) ⟨C.but.trans B9.but,B9.at_⟩;rcases YF.1 Kj with Kj | Kj
     ·exact ht t' Kj
     ·have:t'=t:=by simpa using Kj
      subst this;exact ft
    rw[←f1] at go;exact go
  refine Ig _ ?_ (List.range nc) [] none M7 O (by simp;omega) (by simp) B7;intro ts r I S2 ft C c hc;have QZ:=C.but _ _ K.symm A;have Z:Ext r (updM r c (.lst (ts.map CT.told))):=Ext.new hc;have g9:updM r c (MO.lst (ts.map CT.told)) c=some (.lst (ts.map CT.told)):=aa;generalize updM r c (MO.lst (ts.map CT.told))=M9 at *;have S3:=Z _ _ QZ;have S4:c≠R:=(bX QZ hc).symm;have S_:c≠p:=(bX C.at_ hc).symm;simp only[S3];have J1:y_.length=b_.length:=jC h2;refine⟨by omega,?_⟩;refine kk _ _ ⟨?_,⟨I,?_⟩,y_++[.tup [⇑hd,.ref c]],b_++[(hd,ts)],aa,?_,G.add S1 S2 ft,by rw[ZN];simpa using J⟩
  ·intro z o hz Q1
   have Ta:z≠p:=bX Q1 W;rw[aw hz];exact Z _ _ (C.but _ _ Ta (hb _ _ hz Q1))
  ·rw[aw K];exact Z _ _ C.at_
  ·rw[Gn]
   refine a8 (aM.ext ((pG C.but).trans (vA Z)) h2) (.cons ⟨c,rfl,?_⟩ .nil);rw[EE S4 S_];exact g9
 -- one cell
 have cell:∀(E:EndsD) (x:Int) (B f g:Z2) (M5:MH) (n:Nat),n<1000->RowsSt m R M2 M5 n ->
   (∀Q3 Q4 V j,RowsSt m R M2 j (n+3)->E.nx [↑a,~~~m,~~~l,~~~most,↑R,some (.int x),Q3,Q4,V] j) ->
   wSs cn eB E [↑a,~~~m,~~~l,~~~most,↑R,some (.int x),B,f,g] M5:=by
  intro E x B f g M5 n hn ⟨hb,y_,b_,A,h2,G,J⟩ kk;have OU:=hb _ _ SZ KW;unfold eB;simp! only[List.set,f2];refine⟨a,ns,1,rfl,OU,?_⟩;generalize cellAt ns 1=k;intro p hp;have K:p≠R:=(bX A hp).symm;have W:M2 p=none:=by
   cases e:M2 p with
   |none=>rfl
   |some o=>rw[hb _ _ K e] at hp;cases hp
  have S6:RowsSt2 m R p k M2 (updM M5 p (.lst [.int x,.int k])) n:=by
   refine⟨hb.put W,⟨x,aa⟩,y_,b_,?_,?_,G,J⟩
   ·exact Ext.new hp _ _ A
   ·exact aM.ext ((Ct hp).trans (vA (Ext.new hp))) h2
  generalize updM M5 p (MO.lst [.int x,.int k])=j at *;unfold mR;obtain⟨T,O2⟩:=S6.box;simp! only[List.set,f0];refine⟨p,T,k,3,rfl,O2,⟨by decide,by decide⟩,λw O hw=>?_⟩;have S7:RowsSt2 m R p k M2 (updM j p (.lst [.int O,.int k])) n:=by
   obtain⟨hb,-,y_,b_,A,h2,G,J⟩:=S6;refine⟨hb.put W,⟨O,aa⟩,y_,b_,?_,aM.ext (pG (ExtBut.upd _ _ _)) h2,G,J⟩;rw[aw K.symm];exact A
  generalize updM j p (MO.lst [.int O,.int k])=M7 at *;refine⟨⟨by omega,by omega⟩,?_⟩;rw[show(1:Int)+(w:Int)=((w+1:Nat):Int) by omega,bO];have P:∀(xs:Zo) (f g:Z2) (M5:MH) (n':Nat),n'+xs.length<=n+3->RowsSt2 m R p k M2 M5 n' ->
    au (λ_=>True) (.nm 7) (wSs cn et) E (nats xs) [↑a,~~~m,~~~l,~~~most,↑R,some (.int x),↑p,f,g] M5:=by
   intro xs;induction xs with
   |nil=>
    intro f g M5 n' Lw ⟨hb,_,y_,b_,A,h2,G,J⟩;rw[show nats []=[] from rfl,au];exact kk _ _ _ _ ⟨hb,y_,b_,A,aM.ext (Cs _ _ _) h2,G,by simp at Lw;omega⟩
   |cons y xs X=>
    intro f g M5 n' Lw S;rw[YM] at Lw;rw[show nats (y::xs)=⇑y::nats xs from rfl,au];refine U _ p k _ _ _ M5 n' K W (by omega) S ?_;intro V j S6;exact⟨trivial,X _ _ j (n'+1) (by omega) S6⟩
  exact P (List.range (w+1)) _ _ M7 n (by simp;omega) S7
 have P:∀(xs:List D) (u B f g:Z2) (M5:MH) (n:Nat),(∀d∈xs,∃c,d=D.int c)->n+3*xs.length<=189->RowsSt m R M2 M5 n ->
   au (λM'=>M' L=some (.lst cells)) (.nm 5) (wSs cn eB) { nx:=wSs cn er (fin Q),rt:=Q } xs [↑a,~~~m,~~~l,~~~most,↑R,u,B,f,g] M5:=by
  intro xs;induction xs with
  |nil=>
   intro u B f g M5 n _ _ S;rw[au];exact last u B f g M5 n S
  |cons d xs X=>
   intro u B f g M5 n hd hn S;rw[YM] at hn;obtain⟨c,rfl⟩:=hd d (.head _);rw[au];refine cell _ c _ _ _ M5 n (by omega) S ?_;intro Q3 Q4 V j S6;exact⟨S6.but _ _ SX g2,X _ _ _ _ j (n+3) (λd JJ=>hd d (.tail _ JJ)) (by omega) S6⟩
 refine P cells none none none none M2 0 Kx (by omega) ⟨ExtBut.refl _ _,[],[],r2,.nil,λx hx=>(by cases hx),YJ _⟩
end
def mT:Ss:=#v[.ret (.bin .BitAnd (.bin .Mod (.var 2) (.bin .LShift (.int 1) (.var 1))) (.bin .Mod (.bin .FloorDiv (.var 2) (.bin .LShift (.int 1) (.var 1))) (.bin .LShift (.int 1) (.var 1))))]
def k9:Ss:=.cons (.set 2 (.fn 0 #v[.var 0,.int 2])) mT
def fb:Ss:=#v[.ret (.and (.cmp .Eq (.bin .BitAnd (.bin .RShift (.var 1) (.ix (.ix (.var 0) (.int 1)) (.ix (.var 0) (.int 2)))) (.int 1)) (.int 1)) (.cmp .Eq (.var 3) (.lst .nil)))]
def jV:Ss:=.cons (.setC 3 1 (.var 4) (.nm 4) (.seq (.sl (.ix (.var 0) (.int 1)) .no (.yes (.ix (.var 0) (.int 2))))) (.yes (.cmp .Eq (.bin .BitAnd (.bin .RShift (.var 2) (.var 4)) (.int 1)) (.int 1)))) fb
def fg:Ss:=.cons (.ite (.cmp .Eq (.ix (.var 0) (.int 0)) (.str "some")) #v[.ret (.cmp .GtE (.bi .len #v[.comp 1 (.var 4) (.nm 4) (.seq (.ix (.var 0) (.int 2))) (.yes (.cmp .Eq (.bin .BitAnd (.bin .RShift (.var 1) (.var 4)) (.int 1)) (.int 1)))]) (.ix (.var 0) (.int 1)))] .nil) jV
def cE:Ss:=.cons (.ite (.cmp .Eq (.ix (.var 0) (.int 0)) (.str "lack")) #v[.ret (.cmp .Eq (.bin .BitAnd (.bin .RShift (.var 2) (.ix (.var 0) (.int 1))) (.int 1)) (.int 0))] .nil) fg
def bQ:Ss:=.cons (.ite (.cmp .Eq (.ix (.var 0) (.int 0)) (.str "have")) #v[.ret (.cmp .Eq (.bin .BitAnd (.bin .RShift (.var 1) (.ix (.var 0) (.int 1))) (.int 1)) (.int 1))] .nil) cE
def jW:Ss:=#v[.ret (.bl true)]
def gn:Ss:=#v[.ite (.not (.val (.fn 0 #v[.var 3,.var 1,.var 2]))) #v[.ret (.bl false)] .nil]
def mn:Ss:=.cons (.for (.nm 3) (.seq (.var 0)) gn) jW
def kr:SpD:=λds M Q=>∃(a:Addr) (ns:Zn) (m:Nat),ds=[.ref a,⇑m]/\M a=some (.rol (ns.map .int))/\m<30/\∀told:Nat,told<2 ^ m->Q (⇑told) M
def gp:SpD:=λds M Q=>∃(t:CT) (h g:Int),ds=[t.told,.int h,.int g]/\t.ok/\∀M',Ext M M'->Q (.bl (t.carried h g)) M'
def mo:SpD:=λds M Q=>∃(p:Addr) (ts:List CT) (h g:Int),ds=[.ref p,.int h,.int g]/\M p=some (.lst (ts.map CT.told))/\(∀t∈ts,t.ok)/\∀M',Ext M M'->Q (.bl (ts.all (CT.carried h g))) M'
theorem oE(m:Nat):(1:Int)*2 ^ (m:Int).toNat=((2 ^ m:Nat):Int):=by rw[YZ,Int.one_mul];simp
theorem Go{m:Nat}(h:m<30):((2 ^ m:Nat):Int)<1073741824:=by
 have:2 ^ m<2 ^ 30:=Nat.pow_lt_pow_right (by decide) h
 exact Int.ofNat_lt.2 (ZV this (by decide))
theorem EH(m:Nat):0<((2 ^ m:Nat):Int):=Int.ofNat_lt.2 (Nat.two_pow_pos m)
theorem modN{x:Int}{n:Nat}(h:0<(n:Int)):∃u:Nat,x%(n:Int)=(u:Int)/\u<n:=by
 have a:=modB (y:=x) h;refine⟨(x%(n:Int)).toNat,(Int.toNat_of_nonneg a.1).symm,?_⟩;omega
theorem Gp(L:Zn):eqDs (intL L) []=(((L.length:Nat):Int)==0):=by
 cases L with
 |nil=>show eqDs [] []=_;rw[eqDs];rfl
 |cons a l=>
  have h2:((((a::l).length:Nat):Int)==0)=false:=by rw[ZU,YM];omega
  rw[h2];show eqDs (.int a::intL l) []=false;simp[eqDs]
theorem xF{a b:Nat}:a&&&b=a↔Sub a b:=by
 constructor
 ·intro h f hf
  have:(a&&&b).testBit f=true:=by rw[h];exact hf
  rw[Nat.testBit_and,hf,XZ] at this;exact this
 ·intro h
  refine Nat.eq_of_testBit_eq λf=>?_
  rw[Nat.testBit_and];cases e:a.testBit f with
  |false=>rfl
  |true=>rw[h f e];rfl
section
variable {cn:Cn}{ds:List D}{M:MH}{Q:DK}{c:CA}{S:Addr}
theorem wQ(b:cn.F.getD 0 Yl=dm)(h:kr ds M Q):wSs cn k9 (fin Q) (ad ["","",""] ds) M:=by
 obtain⟨a,ns,m,rfl,d,hm,q⟩:=h;show wSs cn k9 (fin Q) [↑a,~~~m,none] M;unfold k9;simp! only[List.set,b];refine⟨a,ns,2,rfl,d,?_⟩;generalize cellAt ns 2=x;unfold mT;simp! only[List.set,oE];have hp:=EH m;have P:CPow 1 (m:Int):=⟨by omega,by omega,by decide⟩;refine⟨P,hp,P,⟨hp,Go hm⟩,P,hp,?_⟩;obtain⟨u,hu,f⟩:=modN (x:=x) hp;obtain⟨v,g,j⟩:=modN (x:=x / ((2 ^ m:Nat):Int)) hp;rw[hu,g,xD];exact q _ (XN Nat.and_le_left f)
theorem sg(h:gp ds M Q):wSs cn bQ (fin Q) (ad ["","","",""] ds) M:=by
 obtain⟨t,h,g,rfl,b,q⟩:=h;show wSs cn bQ (fin Q) [some t.told,some (.int h),some (.int g),none] M;cases t with
 |hav f=>
  unfold bQ;simp_all! only[CT.told,at0,at1,at2,sh_];refine⟨b.1,?_⟩;rw[PyProof.Rows.bitAnd_m1];exact q M (Ext.refl M)
 |lck f=>
  unfold bQ;simp_all! only[CT.told,at0,at1,at2,s_lh];unfold cE;simp_all! only[CT.told,at0,at1,at2,s_ll];refine⟨b.1,?_⟩;rw[PyProof.Rows.bitAnd_m1];have j:Q (.bl (!hasB g f)) M:=q M (Ext.refl M);rw[←AF] at j;exact j
 |som n fs=>
  unfold bQ;simp_all! only[CT.told,at0,at1,at2,s_sh];unfold cE;simp_all! only[CT.told,at0,at1,at2,s_sl];unfold fg;simp_all! only[CT.told,at0,at1,at2,s_ss,List.cons_append,XG,List.replicate];refine dX (p:=λd=>match d with | .int f=>hasB h f | _=>false) (ok:=λσ=>∃v,σ=[some (.tup [.str "some",.int n,.tup (intL fs)]),some (.int h),some (.int g),none,v]) [] _ ⟨none,rfl⟩ ?_ ?_
  ·intro d hd σ g_ rest ⟨v,l⟩ k
   subst l;obtain⟨f,m,rfl⟩:=List.mem_map.1 hd;have a:=k _ ⟨some (.int f),rfl⟩;dsimp only at a;refine⟨(b.2 f m).1,⟨rfl,rfl,(by decide:(0:Nat)<=30)⟩,?_⟩;show Bif (Builtin.bitAnd (h / 2 ^ f.toNat) 1==1) _ _;rw[PyProof.Rows.bitAnd_m1];show Bif (hasB h f) _ _;cases hb:hasB h f with
   |true=>rw[hb] at a;exact⟨trivial,a⟩
   |false=>rw[hb] at a;exact⟨trivial,by simpa using a⟩
  ·intro p hp
   rw[aa];have e:([]++(intL fs).filter (λ(d:D)=>match d with | .int f=>hasB h f | _=>false)).length=cntB fs h:=by
    unfold intL cntB;rw[XG,List.filter_map,ZG];rfl
   dsimp only;rw[e];exact q _ (Ext.new hp)
 |led fs k=>
  unfold bQ;simp_all! only[CT.told,at0,at1,at2,s_dh];unfold cE;simp_all! only[CT.told,at0,at1,at2,s_dl];unfold fg;simp_all! only[CT.told,at0,at1,at2,s_ds];unfold jV;simp_all! only[CT.told,at0,at1,at2,ox,List.cons_append,XG,List.replicate];refine dX (p:=λd=>match d with | .int f=>hasB g f | _=>false) (ok:=λσ=>∃v,σ=[some (.tup [.str "lead",.tup (intL fs),⇑k]),some (.int h),some (.int g),none,v]) [] _ ⟨none,rfl⟩ ?_ ?_
  ·intro d hd σ g_ rest ⟨v,l⟩ k
   subst l;obtain⟨f,m,rfl⟩:=List.mem_map.1 hd;have a:=k _ ⟨some (.int f),rfl⟩;dsimp only at a;refine⟨(b.2 f (List.mem_of_mem_take m)).1,⟨rfl,rfl,(by decide:(0:Nat)<=30)⟩,?_⟩;show Bif (Builtin.bitAnd (g / 2 ^ f.toNat) 1==1) _ _;rw[PyProof.Rows.bitAnd_m1];show Bif (hasB g f) _ _;cases hb:hasB g f with
   |true=>rw[hb] at a;exact⟨trivial,a⟩
   |false=>rw[hb] at a;exact⟨trivial,by simpa using a⟩
  ·intro p hp
   have e:([]++(intL (fs.take k)).filter (λ(d:D)=>match d with | .int f=>hasB g f | _=>false))=intL ((fs.take k).filter (hasB g)):=by
    unfold intL;rw[XG,List.filter_map];rfl
   rw[e];have e1:=Ext.new (o:=MO.lst (intL ((fs.take k).filter (hasB g)))) hp;have r:updM M p (MO.lst (intL ((fs.take k).filter (hasB g)))) p=some (.lst (intL ((fs.take k).filter (hasB g)))):=aa;generalize updM M p (MO.lst (intL ((fs.take k).filter (hasB g))))=M1 at *;show wSs cn fb (fin Q) [some (.tup [.str "lead",.tup (intL fs),⇑k]),some (.int h),some (.int g),↑p] M1;have j:∀M',Ext M M'->Q (.bl (hasB h (fs.getD k 0)&&(((cntB (fs.take k) g:Nat):Int)==0))) M':=q;unfold fb;simp_all! only[CT.told,at0,at1,at2,rZ b.1.1];refine⟨xC b.1.1 b.2,?_⟩;rw[PyProof.Rows.bitAnd_m1];show Bif (hasB h (fs.getD k 0)) _ _;cases hb:hasB h (fs.getD k 0) with
   |false=>
    rw[hb] at j;exact j M1 e1
   |true=>
    rw[hb] at j;intro p2 u;have e2:=Ext.new (o:=MO.lst []) u;have w:updM M1 p2 (MO.lst []) p2=some (.lst []):=aa;generalize updM M1 p2 (MO.lst [])=M2 at *;simp only[e2 _ _ r,w,rdL];refine⟨⟨s9 _,rfl,by rw[u4];decide⟩,?_⟩;rw[Gp];exact j M2 (e1.trans e2)
theorem y9(m:cn.F.getD 0 Yl=gp)(h:mo ds M Q):wSs cn mn (fin Q) (ad ["","","",""] ds) M:=by
 obtain⟨p,ts,h,g,rfl,hp,n,q⟩:=h;show wSs cn mn (fin Q) [↑p,some (.int h),some (.int g),none] M;have f:∀(E:EndsD) (t:CT) (M5:MH),t.ok->(∀a,Ext M5 a->t.carried h g=true->E.nx [↑p,some (.int h),some (.int g),some t.told] a)->(∀a,Ext M5 a->t.carried h g=false->E.rt (.bl false) a) ->
   wSs cn gn E [↑p,some (.int h),some (.int g),some t.told] M5:=by
  intro E t M5 ht o r;unfold gn;simp! only[List.set,m];refine⟨t,h,g,rfl,ht,λa d=>?_⟩;simp! only[];cases b:t.carried h g with
  |true=>exact o a d b
  |false=>exact r a d b
 have l:∀(xs:List CT) (v:Z2) (M5:MH),(∀t∈xs,t.ok)->Ext M M5->(∀M',Ext M M'->Q (.bl (xs.all (CT.carried h g))) M') ->
   au (λM'=>M' p=some (.lst (ts.map CT.told))) (.nm 3) (wSs cn gn) { nx:=wSs cn jW (fin Q),rt:=Q } (xs.map CT.told) [↑p,some (.int h),some (.int g),v] M5:=by
  intro xs;induction xs with
  |nil=>
   intro v M5 _ j k;rw[XC,au];unfold jW;simp! only[];exact k M5 j
  |cons t xs u=>
   intro v M5 ht j k;rw[YO,au];refine f _ t M5 (ht t (.head _)) (λa d hb=>?_) (λa d hb=>?_)
   ·refine⟨j.trans d _ _ hp,u _ a (λt h=>ht t (.tail _ h)) (j.trans d) λM' e'=>?_⟩
    have:=k M' e'
    rw[XT,hb,XZ] at this;exact this
   ·have:=k a (j.trans d)
    rw[XT,hb,Bool.false_and] at this;exact this
 unfold mn;simp! only[List.set,hp];exact l ts none M n (Ext.refl M) q
end
end SH
namespace SQ
open PySem L2 DD
open SH
end SQ
namespace SH
open PySem L2 DD
theorem xG{b_:Z1}{g told heads m:Nat}(b:told<2 ^ m)(h2:heads<2 ^ m):fZ b_ g told heads<2 ^ m:=by
 refine Nat.lt_pow_two_of_testBit _ λf hf=>?_
 unfold fZ;have a:told.testBit f=false:=Nat.testBit_lt_two_pow (ZV b (Nat.pow_le_pow_right (by decide) hf));rw[Nat.testBit_or,a9,a,Bool.false_or];refine ZT λh=>?_
 have:=(jh _ _ _ _).2 f h
 rw[bd,XB] at this
 have:=f9 h2 this.1
 omega
theorem bo.uniq{b_:Z1}{told g n n':Nat}(h:bo b_ told g n)(h':bo b_ told g n'):n=n':=by
 refine Nat.eq_of_testBit_eq λf=>?_
 have a:=h.2 _ h'.1 f;have b:=h'.2 _ h.1 f;cases e:n.testBit f with
 |true=>exact(a e).symm
 |false=>
  cases e':n'.testBit f with
  |false=>rfl
  |true=>rw[b e'] at e;cases e
theorem Sub.antisymm{a b:Nat}(h:Sub a b)(h':Sub b a):a=b:=by
 refine Nat.eq_of_testBit_eq λf=>?_
 cases e:a.testBit f with
 |true=>exact(h f e).symm
 |false=>
  cases e':b.testBit f with
  |false=>rfl
  |true=>rw[h' f e'] at e;cases e
theorem Sub.zero(a:Nat):Sub 0 a:=λf h=>by rw[Nat.zero_testBit] at h;cases h
def cnt(m n:Nat):Nat:=(List.range m).countP λf=>n.testBit f
theorem tD{p q:Nat->Bool}{f:Nat}(hp:p f=false)(hq:q f=true)(h:∀x,p x=true->q x=true):∀{l:Zo},f∈l->l.countP p<l.countP q
 |[],hf=>by cases hf
 |a::l,hf=>by
  have le:l.countP p<=l.countP q:=List.countP_mono_left λx _=>h x
  rw[List.countP_cons,List.countP_cons];rcases YE.1 hf with rfl | hf
  ·rw[hp,hq];simp;omega
  ·have:=tD hp hq h hf
   cases e:p a with
   |true=>rw[h a e];simp;omega
   |false=>
    cases q a with
    |true=>simp;omega
    |false=>simp;omega
theorem xH{m a b:Nat}(h:Sub a b):cnt m a<=cnt m b:=List.countP_mono_left λf _=>h f
theorem xI(m n:Nat):cnt m n<=m:=by
 have:=List.countP_le_length (p:=λf=>n.testBit f) (l:=List.range m)
 rw[ZM] at this;exact this
theorem xJ{m a b:Nat}(h:Sub a b)(c:a≠b)(hb:b<2 ^ m):cnt m a<cnt m b:=by
 have:∃f,a.testBit f=false/\b.testBit f=true:=by
  refine Classical.byContradiction λz=>c (h.antisymm λf hf=>?_)
  cases e:a.testBit f with
  |true=>rfl
  |false=>exact absurd ⟨f,e,hf⟩ z
 obtain⟨f,d,h2⟩:=this;exact tD d h2 h (ZZ.2 (f9 hb h2))
def ak(b_:Z1)(heads wide narrow known:Nat):Nat×Nat:=(fZ b_ known wide heads,fZ b_ (fZ b_ known wide heads) narrow heads)
def al(x:Nat×Nat):D:=.tup [⇑x.1,⇑x.2]
structure Rounds0 (b_:Z1) (heads wide narrow known:Nat) (ps:Zu):Prop where
 first:ps[0]?=some (ak b_ heads wide narrow known)
 next:∀i x y,ps[i]?=some x->ps[i+1]?=some y->y=ak b_ heads wide narrow x.2/\y≠x
structure Rounds (b_:Z1) (heads wide narrow known:Nat) (ps:Zu):Prop extends Rounds0 b_ heads wide narrow known ps where
 last:∀x,ps.getLast?=some x->ak b_ heads wide narrow x.2=x
section
variable {b_:Z1}{heads wide narrow known m:Nat}
theorem pH(a:heads<2 ^ m)(h2:wide<2 ^ m)(b:narrow<2 ^ m)(known:Nat):(ak b_ heads wide narrow known).1<2 ^ m/\(ak b_ heads wide narrow known).2<2 ^ m:=⟨xG h2 a,xG b a⟩
theorem rh(b:∀x∈b_,heads.testBit x.1=true){k k':Nat}(h:Sub k k'):Sub (ak b_ heads wide narrow k').1 (ak b_ heads wide narrow k).1/\Sub (ak b_ heads wide narrow k).2 (ak b_ heads wide narrow k').2:=by
 have a:Sub (ak b_ heads wide narrow k').1 (ak b_ heads wide narrow k).1:=bo.anti h (bD b) (bD b);exact⟨a,bo.anti a (bD b) (bD b)⟩
def farP(m:Nat)(x:Nat×Nat):Nat:=cnt m x.1+(m-cnt m x.2)
theorem xK(m:Nat)(x:Nat×Nat):farP m x<=2*m:=by
 unfold farP
 have:=xI m x.1
 omega
theorem xL{x y:Nat×Nat}(a:Sub y.1 x.1)(h2:Sub x.2 y.2)(b:y≠x)(c:x.1<2 ^ m)(d:y.2<2 ^ m):farP m y<farP m x:=by
 unfold farP;have f:=xH (m:=m) a;have g:=xH (m:=m) h2;have j:=xI m y.2;by_cases e:y.1=x.1
 ·have e2:x.2≠y.2:=λz=>b (Prod.ext e z.symm)
  have:=xJ h2 e2 d
  omega
 ·have:=xJ a e c
  omega
end
theorem Sub.le{a b:Nat}(h:Sub a b):a<=b:=by
 rw[←xF.2 h];exact Nat.and_le_right
def kt:Ss:=#v[.ret (.var 5)]
def ku:Ss:=#v[.set 6 (.fn 0 #v[.var 0,.var 1,.ix (.var 6) (.int 1),.var 3,.var 4])]
def kx:Ss:=.cons (.expr (.mt .append (.var 5) #v[.var 6])) ku
def ky:Ss:=.cons (.while (.cmp .NotEq (.var 6) (.ix (.var 5) (.neg (.int 1)))) kx) kt
def kz:Ss:=.cons (.set 6 (.fn 0 #v[.var 0,.var 1,.ix (.ix (.var 5) (.neg (.int 1))) (.int 1),.var 3,.var 4])) ky
def iO:Ss:=.cons (.set 5 (.lst #v[.fn 0 #v[.var 0,.var 1,.var 2,.var 3,.var 4]])) kz
def ly:Ss:=#v[.ret (.tup #v[.var 5,.fn 0 #v[.var 0,.var 1,.var 4,.var 5]])]
def jX:Ss:=.cons (.set 5 (.fn 0 #v[.var 0,.var 1,.var 3,.var 2])) ly
def i6:Ss:=#v[.setF (.var 0) "others" (.bin .BitAnd (.var 3) (.inv (.ix (.ix (.fld (.var 0) "pairs") (.neg (.int 1))) (.int 0))))]
def i7:Ss:=.cons (.setF (.var 0) "unsure" (.bin .BitAnd (.ix (.ix (.fld (.var 0) "pairs") (.neg (.int 1))) (.int 0)) (.inv (.fld (.var 0) "sure")))) i6
def i8:Ss:=.cons (.setF (.var 0) "sure" (.ix (.ix (.fld (.var 0) "pairs") (.neg (.int 1))) (.int 1))) i7
def i9:Ss:=.cons (.setF (.var 0) "pairs" (.fn 0 #v[.var 1,.var 3,.int 0,.var 2,.var 2])) i8
def gq:Ss:=.cons (.set 3 (.fn 1 #v[.mu0 "how_many" (.var 1)])) i9
def cr:Ss:=#v[.ret (.fld (.var 0) "sure")]
def cc:Ss:=#v[.ret (.fld (.var 0) "others")]
def cu:Ss:=#v[.ret (.fld (.var 0) "unsure")]
def ji(c:CA)(S:Addr):SpD:=λds M Q=>∃(a:Addr) (m:Nat) (b_:Z1) (heads known wide narrow:Nat),ds=[.ref a,⇑heads,⇑known,⇑wide,⇑narrow]/\SheetAt c S M a m b_/\b_.length<401/\m<121/\heads<2 ^ m/\wide<2 ^ m/\narrow<2 ^ m /\
 ∀M',Ext M M'->Q (al (ak b_ heads wide narrow known)) M'
def jj(c:CA)(S:Addr):SpD:=λds M Q=>∃(a:Addr) (m:Nat) (b_:Z1) (heads known wide narrow:Nat),ds=[.ref a,⇑heads,⇑known,⇑wide,⇑narrow]/\SheetAt c S M a m b_/\b_.length<401/\m<121/\heads<2 ^ m/\wide<2 ^ m/\narrow<2 ^ m /\
 (∀x∈b_,heads.testBit x.1=true)/\Sub known (ak b_ heads wide narrow known).2/\∀p ps x M',M p=none->Ext M M'->M' p=some (.lst ((ps++[x]).map al))->Rounds b_ heads wide narrow known (ps++[x])->Q (.ref p) M'
def hJ(m:Nat)(p:Addr)(x:Nat×Nat):List (Str×D):=[("pairs",.ref p),("sure",⇑x.2),("unsure",.int (av x.1 x.2:Nat)),("others",.int (av (2 ^ m-1) x.1:Nat))]
structure SortAt (Z:Addr) (M:MH) (a:Addr) (m:Nat) (ps:Zu) (x:Nat×Nat):Prop where
 ex:∃p,M a=some (.ins Z (hJ m p x))/\M p=some (.lst ((ps++[x]).map al))
theorem SortAt.ext{Z:Addr}{M M':MH}{a:Addr}{m:Nat}{ps:Zu}{x:Nat×Nat}(e:Ext M M')(h:SortAt Z M a m ps x):SortAt Z M' a m ps x:=by
 obtain⟨p,b,h2⟩:=h;exact⟨p,e _ _ b,e _ _ h2⟩
def kA:List Str:=["pairs","sure","unsure","others"]
def bV(c:CA)(S Z:Addr):SpD:=λds M Q=>∃(a sh:Addr) (m:Nat) (b_:Z1) (told:Nat),ds=[.ref a,.ref sh,⇑told]/\M a=some (.ins Z [])/\SheetAt c S M sh m b_/\b_.length<401/\m<121/\told<2 ^ m /\
 ∀ps x M',ExtBut a M M'->SortAt Z M' a m ps x->Rounds b_ (2 ^ m-1) told told 0 (ps++[x])->Q .non M'
def dZ(Z:Addr):SpD:=λds M Q=>∃(a:Addr) (m:Nat) (ps:Zu) (x:Nat×Nat),ds=[.ref a]/\SortAt Z M a m ps x/\Q (⇑x.2) M
def dq(Z:Addr):SpD:=λds M Q=>∃(a:Addr) (m:Nat) (ps:Zu) (x:Nat×Nat),ds=[.ref a]/\SortAt Z M a m ps x/\Q (.int (av (2 ^ m-1) x.1:Nat)) M
def d2(Z:Addr):SpD:=λds M Q=>∃(a:Addr) (m:Nat) (ps:Zu) (x:Nat×Nat),ds=[.ref a]/\SortAt Z M a m ps x/\Q (.int (av x.1 x.2:Nat)) M
section
variable {m:Nat}{p:Addr}{x:Nat×Nat}
theorem xM:(hJ m p x).lookup ("sure" : Str)= ~~~x.2:=rfl
theorem tE:(hJ m p x).lookup ("unsure" : Str)=some (.int (av x.1 x.2:Nat)):=rfl
theorem AW:(hJ m p x).lookup ("others" : Str)=some (.int (av (2 ^ m-1) x.1:Nat)):=rfl
theorem EI:(hJ m p x).lookup ("true_facts" : Str)=none:=rfl
theorem Cu:(hJ m p x).lookup ("false_facts" : Str)=none:=rfl
theorem xN:(hJ m p x).lookup ("open_facts" : Str)=none:=rfl
end
abbrev zF1(x:D):List (Str×D):=[("pairs",x)]
abbrev zF2(x y:D):List (Str×D):=[("pairs",x),("sure",y)]
abbrev zF3(x y z:D):List (Str×D):=[("pairs",x),("sure",y),("unsure",z)]
theorem zp0(x:D):ce ("pairs" : Str) x []=zF1 x:=rfl
theorem zp1(x y:D):ce ("sure" : Str) y (zF1 x)=zF2 x y:=rfl
theorem zp2(x y z:D):ce ("unsure" : Str) z (zF2 x y)=zF3 x y z:=rfl
theorem zp3(x y z u:D):ce ("others" : Str) u (zF3 x y z)=([("pairs",x),("sure",y),("unsure",z),("others",u)]:List (Str×D)):=rfl
theorem zl1(x:D):List.lookup ("pairs" : Str) (zF1 x)=some x:=rfl
theorem zl2(x y:D):List.lookup ("pairs" : Str) (zF2 x y)=some x:=rfl
theorem zl2s(x y:D):List.lookup ("sure" : Str) (zF2 x y)=some y:=rfl
theorem zl3(x y z:D):List.lookup ("pairs" : Str) (zF3 x y z)=some x:=rfl
theorem cF(ps:Zu)(x:Nat×Nat):atI ((ps++[x]).map al) (-1)=some (.tup [⇑x.1,⇑x.2]):=by
 rw[ZO];exact Bm _ _
theorem xO(x y:Nat×Nat):eqD (al x) (al y)=decide (x=y):=by
 unfold al;rw[eqD,eqDs,eqDs,eqDs,ai,ai,Bool.and_true];by_cases h:x=y
 ·subst h;simp
 ·rw[ZT h]
  cases a:((x.1:Int)==(y.1:Int)) with
  |false=>rfl
  |true=>
   rw[XZ,ZU];intro z;have a:=eq_of_beq a;exact h (Prod.ext (Int.ofNat_inj.1 a) (Int.ofNat_inj.1 z))
theorem kB(x:Nat×Nat):aK (al x)=true:=rfl
theorem vB(x:Nat×Nat):depD (al x)<=30:=by
 unfold al;rw[depD,bB,bB,bB,aj,aj];decide
section
variable {cn:Cn}{ds:List D}{M:MH}{Q:DK}{c:CA}{S Z:Addr}
theorem vC(b:cn.F.getD 0 Yl=gm c S)(h:ji c S ds M Q):wSs cn jX (fin Q) (ad ["","","","","",""] ds) M:=by
 obtain⟨a,m,b_,heads,known,wide,narrow,rfl,A,hn,hm,d,hw,f,q⟩:=h;show wSs cn jX (fin Q) [↑a,~~~heads,~~~known,~~~wide,~~~narrow,none] M;unfold jX;simp! only[List.set,b];refine⟨a,m,b_,heads,wide,known,rfl,A,hn,hm,d,hw,λM1 e1=>?_⟩;unfold ly;simp! only[List.set,b];exact⟨a,m,b_,heads,narrow,_,rfl,A.ext e1,hn,hm,d,f,λM2 e2=>q M2 (e1.trans e2)⟩
theorem tQ(n:cn.F.getD 0 Yl=ji c S)(h:jj c S ds M Q):wSs cn iO (fin Q) (ad ["","","","","","",""] ds) M:=by
 obtain⟨a,m,b_,heads,known,wide,narrow,rfl,A,hn,hm,g,hw,j,J,hk,q⟩:=h;show wSs cn iO (fin Q) [↑a,~~~heads,~~~known,~~~wide,~~~narrow,none,none] M;have hsz:(2000:Nat)<sizeLine:=by decide
 have u:=pH (b_:=b_) g hw j;unfold iO;simp! only[List.set,n];refine⟨a,m,b_,heads,known,wide,narrow,rfl,A,hn,hm,g,hw,j,λM1 e1 p hp=>?_⟩;have w:M p=none:=e1.free hp;have e2:Ext M (updM M1 p (.lst [al (ak b_ heads wide narrow known)])):=e1.then hp;have o:updM M1 p (MO.lst [al (ak b_ heads wide narrow known)]) p=some (.lst (([]++[ak b_ heads wide narrow known]).map al)):=aa;generalize updM M1 p (MO.lst [al (ak b_ heads wide narrow known)])=M2 at *;clear e1 hp;clear M1;unfold kz;simp! only[List.set,n,o,cF,at1];refine⟨a,m,b_,heads,_,wide,narrow,rfl,A.ext e2,hn,hm,g,hw,j,λM3 r=>?_⟩;have L:=r _ _ o;have O:=e2.trans r;clear e2 o r;clear M2;unfold ky;show lq _ _ _ _ _;refine⟨λk σ M'=>∃(g_:Zu) (x:Nat×Nat),farP m x=k/\σ=[↑a,~~~heads,~~~known,~~~wide,~~~narrow,↑p,some (al (ak b_ heads wide narrow x.2))] /\
  Ext M M'/\M' p=some (.lst ((g_++[x]).map al))/\(∃l,x=ak b_ heads wide narrow l/\Sub l x.2)/\g_.length+farP m x<=2*m/\Rounds0 b_ heads wide narrow known (g_++[x]),?_,?_⟩
 ·refine⟨_,[],_,rfl,rfl,O,L,⟨known,rfl,hk⟩,?_,rfl,?_⟩
  ·have:=xK m (ak b_ heads wide narrow known)
   simpa using this
  ·intro i x y b h2
   cases i with
   |zero=>cases h2
   |succ i=>cases h2
 rintro k σ M' ⟨g_,x,rfl,rfl,B,t,⟨l,hx,P⟩,o_,R⟩;have d:∀K:Bool->MH->Prop,K (!decide (ak b_ heads wide narrow x.2=x)) M'->wT cn (.cmp .NotEq (.var 6) (.ix (.var 5) (.neg (.int 1)))) [↑a,~~~heads,~~~known,~~~wide,~~~narrow,↑p,some (al (ak b_ heads wide narrow x.2))] M' K:=by
  intro K C;simp! only[List.set,t,cF];rw[←xO] at C;exact⟨⟨kB _,kB x,vB _⟩,C⟩
 refine d _ ?_;by_cases f:ak b_ heads wide narrow x.2=x
 ·rw[YY f,Bool.not_true,aF]
  dsimp only;unfold kt;simp! only[List.set];refine q p g_ x M' w B t ⟨R,λy hy=>?_⟩;rw[List.getLast?_append] at hy;have:x=y:=by simpa using hy
  subst this;exact f
 ·rw[ZT f,Bool.not_false,aZ]
  have mono:=rh (wide:=wide) (narrow:=narrow) J P;rw[←hx] at mono;have hb:=u l;rw[←hx] at hb;have T:=xL (m:=m) mono.1 mono.2 f hb.1 (u x.2).2;have QA:((g_++[x]).map al).length=g_.length+1:=by rw[ZG,ZN];rfl
  refine⟨λU V=>∃k',k'<farP m x/\_,λU V h=>h,?_⟩;unfold kx;simp! only[List.set,t];refine⟨rfl,by omega,?_⟩;have E:Ext M (updM M' p (.lst ((g_++[x]).map al++[al (ak b_ heads wide narrow x.2)]))):=B.put w;have W:updM M' p (MO.lst ((g_++[x]).map al++[al (ak b_ heads wide narrow x.2)])) p=some (.lst ((g_++[x]++[ak b_ heads wide narrow x.2]).map al)):=by
   rw[aa,ZO (l₁:=g_++[x])];rfl
  generalize updM M' p (MO.lst ((g_++[x]).map al++[al (ak b_ heads wide narrow x.2)]))=M5 at *;unfold ku;simp! only[List.set,n,al,at1];refine⟨a,m,b_,heads,_,wide,narrow,rfl,A.ext E,hn,hm,g,hw,j,λM6 G=>?_⟩;refine⟨_,T,g_++[x],ak b_ heads wide narrow x.2,rfl,rfl,E.trans G,G _ _ W,⟨x.2,rfl,mono.2⟩,by rw[ZN];simp;omega,?_,?_⟩
  ·have X:0<(g_++[x]).length:=by simp
   rw[ZF X];exact R.first
  ·intro i y z b h2
   have hi:i+1<(g_++[x]++[ak b_ heads wide narrow x.2]).length:=(YG.mp h2).1;simp only[ZN,YM,YX] at hi;by_cases I:i+1<(g_++[x]).length
   ·rw[ZF (by omega)] at b
    rw[ZF I] at h2;exact R.next i y z b h2
   ·simp only[ZN,YM,YX] at I
    have Y:i=g_.length:=by omega
    subst Y;have hy:y=x:=by
     rw[ZF (by simp),ZI (by omega)] at b;simpa using b.symm
    have hz:z=ak b_ heads wide narrow x.2:=by
     rw[ZI (by simp)] at h2;simpa using h2.symm
    subst hy hz;exact⟨rfl,f⟩
theorem rj(b:∀f∈kA,cn.O Z f)(z:cn.T S "how_many" = some (ik c S))(B:cn.F.getD 0 Yl=jj c S)(C:cn.F.getD 1 Yl=jg)(h:bV c S Z ds M Q):wSs cn gq (fin Q) (ad ["","","",""] ds) M:=by
 obtain⟨a,sh,m,b_,told,rfl,ha,A,hn,hm,ht,q⟩:=h;show wSs cn gq (fin Q) [↑a,↑sh,~~~told,none] M;obtain⟨ok,w_,p1,p2,p3,HM,Hr,HX,E,-⟩:=A.ext (Ext.refl M);have J:1<=2 ^ m:=Nat.one_le_two_pow;unfold gq;simp! only[List.set,E,wG,z,C];refine⟨trivial,sh,m,b_,rfl,A,m,rfl,by omega,?_⟩;unfold i9;simp! only[List.set,B];have j:∀f,f<m->(2 ^ m-1).testBit f=true:=λf hf=>by rw[Nat.testBit_two_pow_sub_one];exact YY hf
 refine⟨sh,m,b_,2 ^ m-1,0,told,told,rfl,A,hn,hm,by omega,ht,ht,λx hx=>j x.1 (ok.fit x hx).1,Sub.zero _,λp ps x M1 hp e1 n R=>?_⟩;have g:a≠p:=bX ha hp;have o:=e1 _ _ ha;simp only[o,zp0];refine⟨⟨b _ (by rfl'),by decide⟩,?_⟩;have r:ExtBut a M (updM M1 a (.ins Z (zF1 (.ref p)))):=e1.but.trans (ExtBut.upd _ _ _);have t:updM M1 a (MO.ins Z (zF1 (.ref p))) a=some (.ins Z (zF1 (.ref p))):=aa;have k:updM M1 a (MO.ins Z (zF1 (.ref p))) p=some (.lst ((ps++[x]).map al)):=by rw[aw g.symm];exact n
 generalize updM M1 a (MO.ins Z (zF1 (.ref p)))=M2 at *;clear e1 n o hp;clear M1;unfold i8;simp! only[List.set,t,zl1,k,cF,at1,zp1];refine⟨b _ (by rfl'),⟨b _ (by rfl'),(by decide:(1:Nat)<1000)⟩,?_⟩;have u:=r.trans (ExtBut.upd a M2 (.ins Z (zF2 (.ref p) (⇑x.2))));have w:updM M2 a (MO.ins Z (zF2 (.ref p) (⇑x.2))) a=some (.ins Z (zF2 (.ref p) (⇑x.2))):=aa;have l:updM M2 a (MO.ins Z (zF2 (.ref p) (⇑x.2))) p=some (.lst ((ps++[x]).map al)):=by rw[aw g.symm];exact k
 generalize updM M2 a (MO.ins Z (zF2 (.ref p) (⇑x.2)))=d at *;clear r t k;clear M2;unfold i7;simp! only[wInv,List.set,w,zl2,zl2s,l,cF,at0,jf,zp2];refine⟨b _ (by rfl'),b _ (by rfl'),⟨b _ (by rfl'),(by decide:(2:Nat)<1000)⟩,?_⟩;have G:=u.trans (ExtBut.upd a d (.ins Z (zF3 (.ref p) (⇑x.2) (.int (av x.1 x.2:Nat)))));have I:updM d a (MO.ins Z (zF3 (.ref p) (⇑x.2) (.int (av x.1 x.2:Nat)))) a=some (.ins Z (zF3 (.ref p) (⇑x.2) (.int (av x.1 x.2:Nat)))):=aa;have y:updM d a (MO.ins Z (zF3 (.ref p) (⇑x.2) (.int (av x.1 x.2:Nat)))) p=some (.lst ((ps++[x]).map al)):=by rw[aw g.symm];exact l
 generalize updM d a (MO.ins Z (zF3 (.ref p) (⇑x.2) (.int (av x.1 x.2:Nat))))=K at *;clear u w l;clear d;unfold i6;simp! only[wInv,List.set,I,zl3,y,cF,at0,jf,zp3];refine⟨b _ (by rfl'),⟨b _ (by rfl'),(by decide:(3:Nat)<1000)⟩,?_⟩;exact q ps x _ (G.trans (ExtBut.upd _ _ _)) ⟨p,aa,by rw[aw g.symm];exact y⟩ R
theorem tR(b:∀f∈kA,cn.O Z f)(h:dZ Z ds M Q):wSs cn cr (fin Q) (ad [""] ds) M:=by
 obtain⟨a,m,ps,x,rfl,⟨p,d,h2⟩,q⟩:=h;show wSs cn cr (fin Q) [↑a] M;unfold cr;simp! only[d,xM];exact⟨b _ (by rfl'),q⟩
theorem si(b:∀f∈kA,cn.O Z f)(h:dq Z ds M Q):wSs cn cc (fin Q) (ad [""] ds) M:=by
 obtain⟨a,m,ps,x,rfl,⟨p,d,h2⟩,q⟩:=h;show wSs cn cc (fin Q) [↑a] M;unfold cc;simp! only[d,AW];exact⟨b _ (by rfl'),q⟩
theorem tS(b:∀f∈kA,cn.O Z f)(h:d2 Z ds M Q):wSs cn cu (fin Q) (ad [""] ds) M:=by
 obtain⟨a,m,ps,x,rfl,⟨p,d,h2⟩,q⟩:=h;show wSs cn cu (fin Q) [↑a] M;unfold cu;simp! only[d,tE];exact⟨b _ (by rfl'),q⟩
end
inductive Pap where
 |told
 |tru (turn step row:Nat)
 |fls (turn:Nat)
 |opn (step row:Nat)
structure Runs (b_:Z1) (m told:Nat) (ps:Zu):Prop where
 ok:RowsOk m b_
 tl:told<2 ^ m
 ne:ps≠[]
 rounds:Rounds b_ (2 ^ m-1) told told 0 ps
section
variable {b_:Z1}{m told:Nat}{ps:Zu}
theorem Runs.heads(R:Runs b_ m told ps):∀x∈b_,(2 ^ m-1).testBit x.1=true:=λx hx=>by
 rw[Nat.testBit_two_pow_sub_one];exact YY (R.ok.fit x hx).1
def ahead(ps:Zu):Nat->Nat
 |0=>0
 |i+1=>((ps[i]?).getD (0,0)).2
theorem Runs.at(R:Runs b_ m told ps):∀{i:Nat}{x:Nat×Nat},ps[i]?=some x->x=ak b_ (2 ^ m-1) told told (ahead ps i)
 |0,x,h=>by have:=R.rounds.first;rw[h] at this;exact Yi this
 |i+1,x,h=>by
  have hl:=(YG.mp h).1;have hi:ps[i]?=some (ps[i]'(by omega)):=ZE (by omega);rw[(R.rounds.next i _ _ hi h).1,ahead,hi];rfl
theorem Runs.l1(R:Runs b_ m told ps){i:Nat}{x:Nat×Nat}(h:ps[i]?=some x):bo b_ told (ahead ps i) x.1:=by
 rw[R.at h];exact bD R.heads
theorem Runs.l2(R:Runs b_ m told ps){i:Nat}{x:Nat×Nat}(h:ps[i]?=some x):bo b_ told x.1 x.2:=by
 rw[R.at h];exact bD R.heads
theorem Runs.step(R:Runs b_ m told ps):∀{i:Nat}{x:Nat×Nat},ps[i]?=some x->Sub (ahead ps i) x.2/\Sub x.2 x.1
 |0,x,h=>by
  refine⟨Sub.zero _,?_⟩;exact bo.anti (Sub.zero _) (R.l1 h) (R.l2 h)
 |i+1,x,h=>by
  have hl:=(YG.mp h).1;have hi:ps[i]?=some (ps[i]'(by omega)):=ZE (by omega);generalize ps[i]'(by omega)=y at hi;obtain⟨a,b⟩:=R.step hi;have e:ahead ps (i+1)=y.2:=by rw[ahead,hi];rfl
  have l1:=R.l1 h;rw[e] at l1 ⊢;have c:Sub x.1 y.1:=bo.anti a (R.l1 hi) l1;have d:Sub y.2 x.2:=bo.anti c (R.l2 h) (R.l2 hi);have e1:Sub y.2 x.1:=bo.anti b l1 (R.l2 hi);exact⟨d,bo.anti e1 l1 (R.l2 h)⟩
theorem Runs.lt(R:Runs b_ m told ps){i:Nat}{x:Nat×Nat}(h:ps[i]?=some x):x.1<2 ^ m/\x.2<2 ^ m:=by
 have hp:2 ^ m-1<2 ^ m:=by have:=Nat.two_pow_pos m;omega
 rw[R.at h];exact pH hp R.tl R.tl _
theorem Cv{a:Type}{l:List a}{x:a}(h:l.getLast?=some x):l[l.length-1]?=some x:=by
 rw[List.getLast?_eq_getElem?] at h;exact h
variable {Q5:List Pap}
end
end SH
namespace SQ
open PySem L2 DD
open SH
section
variable {b_:Z1}{g told m i j:Nat}{more:Nat}{e_:Z3}
def left(b_:Z1)(s:Nat):Nat:=b_.countP λx=>!s.testBit x.1
end
end SQ
namespace SH
open PySem L2 DD
def sj:Ss:=#v[.ret (.str "false")]
def lz:Ss:=.cons (.ite (.val (.fn 0 #v[.var 1,.var 2])) #v[.ret (.str "open")] .nil) sj
def jY:Ss:=.cons (.ite (.val (.fn 0 #v[.var 0,.var 2])) #v[.ret (.str "true")] .nil) lz
def gr:Ss:=#v[.ret (.bk .list #v[.fld (.var 0) "pairs"])]
def cG:Ss:=#v[.ret (.fn 0 #v[.fld (.var 0) "sure",.fld (.var 0) "unsure",.var 1])]
def ansS(a b f:Nat):Str:=if a.testBit f=true then "true" else if b.testBit f=true then "open" else "false"
def jk:SpD:=λds M Q=>∃(a b f:Nat),ds=[⇑a,⇑b,⇑f]/\Q (.str (ansS a b f)) M
def lA(Z:Addr):SpD:=λds M Q=>∃(a:Addr) (m:Nat) (ps:Zu) (x:Nat×Nat),ds=[.ref a]/\SortAt Z M a m ps x/\∀p M',M p=none->Ext M M'->M' p=some (.lst ((ps++[x]).map al))->Q (.ref p) M'
def gt(Z:Addr):SpD:=λds M Q=>∃(a:Addr) (m:Nat) (ps:Zu) (x:Nat×Nat) (f:Nat),ds=[.ref a,⇑f]/\SortAt Z M a m ps x/\Q (.str (ansS x.2 (av x.1 x.2) f)) M
theorem Cw{m:Nat}{p:Addr}{x:Nat×Nat}:(hJ m p x).lookup ("pairs" : Str)=↑p:=rfl
theorem oF{m:Nat}{p:Addr}{x:Nat×Nat}:(hJ m p x).lookup ("runs" : Str)=none:=rfl
theorem vD{m:Nat}{p:Addr}{x:Nat×Nat}:(hJ m p x).lookup ("answer_of" : Str)=none:=rfl
section
variable {cn:Cn}{ds:List D}{M:MH}{Q:DK}{c:CA}{S Z:Addr}
theorem vE(d:cn.F.getD 0 Yl=ci)(h:jk ds M Q):wSs cn jY (fin Q) (ad ["","",""] ds) M:=by
 obtain⟨a,b,f,rfl,q⟩:=h;show wSs cn jY (fin Q) [~~~a,~~~b,~~~f] M;unfold ansS at q;unfold jY;simp! only[d];refine⟨(a:Int),(f:Int),rfl,by omega,?_⟩;rw[cb];cases e:a.testBit f with
 |true=>rw[if_pos e] at q;exact q
 |false=>
  rw[if_neg (by rw[e];decide)] at q;simp only[aF];unfold lz;simp! only[d];refine⟨(b:Int),(f:Int),rfl,by omega,?_⟩;rw[cb];cases e:b.testBit f with
  |true=>rw[if_pos e] at q;exact q
  |false=>
   rw[if_neg (by rw[e];decide)] at q;exact q
theorem EJ(d:∀f∈kA,cn.O Z f)(h:lA Z ds M Q):wSs cn gr (fin Q) (ad [""] ds) M:=by
 obtain⟨a,m,ps,x,rfl,⟨p,g,h2⟩,q⟩:=h;show wSs cn gr (fin Q) [↑a] M;unfold gr;simp! only[g,Cw,dBk,dW,h2];refine⟨d _ (by rfl'),λj b=>?_⟩;exact q j _ b (Ext.new b) aa
theorem vF(b:∀f∈kA,cn.O Z f)(d:cn.F.getD 0 Yl=jk)(h:gt Z ds M Q):wSs cn cG (fin Q) (ad ["",""] ds) M:=by
 obtain⟨a,m,ps,x,f,rfl,⟨p,g,h2⟩,q⟩:=h;show wSs cn cG (fin Q) [↑a,~~~f] M;unfold cG;simp! only[g,xM,tE,d];exact⟨b _ (by rfl'),b _ (by rfl'),x.2,av x.1 x.2,f,rfl,q⟩
end
theorem mq{a:Type}(ps:List a)(x:a):(ps++[x]).getLast?=some x:=by rw[List.getLast?_append];simp
end SH
namespace SQ
open PySem L2 DD
open SH
theorem bu:∀l:List (Nat×Nat),aN (l.map al)=true
 |[]=>rfl
 |y::l=>by rw[YO,aN,bu l];rfl
theorem fG:∀l:List (Nat×Nat),bB (l.map al)<=1
 |[]=>YQ _
 |y::l=>by
  rw[YO,bB]
  have:=fG l
  have h:depD (al y)=1:=rfl;rw[h];omega
theorem Cy:∀l:List D,eqDs l []=l.isEmpty
 |[]=>by rw[eqDs];rfl
 |a::l=>by rw[eqDs]<;>simp
inductive RunS (b_:Z1) (m told:Nat):List (Nat×Nat)->Nat->Prop
 |nil:RunS b_ m told [] 0
 |more (g_:Zu) (x:Nat×Nat) (R:Rounds0 b_ (2 ^ m-1) told told 0 (g_++[x])) (k0:Nat) (hx:x=ak b_ (2 ^ m-1) told told k0) (hk:Sub k0 x.2) (Ln:g_.length+farP m x<=2*m):RunS b_ m told (g_++[x]) x.2
section
variable {b_:Z1}{m told:Nat}
theorem Rounds0.add{g_:Zu}{x:Nat×Nat}(R:Rounds0 b_ (2 ^ m-1) told told 0 (g_++[x]))(c:ak b_ (2 ^ m-1) told told x.2≠x):Rounds0 b_ (2 ^ m-1) told told 0 (g_++[x]++[ak b_ (2 ^ m-1) told told x.2]):=by
 constructor
 ·have d:0<(g_++[x]).length:=by simp
  rw[ZF d];exact R.first
 ·intro i y z a h2
  have hi:i+1<(g_++[x]++[ak b_ (2 ^ m-1) told told x.2]).length:=(YG.mp h2).1;simp only[ZN,YM,YX] at hi;by_cases b:i+1<(g_++[x]).length
  ·rw[ZF (by omega)] at a
   rw[ZF b] at h2;exact R.next i y z a h2
  ·simp only[ZN,YM,YX] at b
   have f:i=g_.length:=by omega
   subst f;have hy:y=x:=by
    rw[ZF (by simp),ZI (by omega)] at a;simpa using a.symm
   have hz:z=ak b_ (2 ^ m-1) told told x.2:=by
    rw[ZI (by simp)] at h2;simpa using h2.symm
   subst hy hz;exact⟨rfl,c⟩
theorem RunS.add(ok:RowsOk m b_)(ht:told<2 ^ m){l:Zu}{a:Nat}(h:RunS b_ m told l a)(d:l.getLast?≠some (ak b_ (2 ^ m-1) told told a)):RunS b_ m told (l++[ak b_ (2 ^ m-1) told told a]) (ak b_ (2 ^ m-1) told told a).2:=by
 have f:∀x∈b_,(2 ^ m-1).testBit x.1=true:=λx hx=>by
  rw[Nat.testBit_two_pow_sub_one];exact YY (ok.fit x hx).1
 have g:2 ^ m-1<2 ^ m:=by have:=Nat.two_pow_pos m;omega
 have b:=pH (b_:=b_) g ht ht;cases h with
 |nil=>
  refine .more [] _ ⟨rfl,λi x y k h2=>?_⟩ 0 rfl (Sub.zero _) ?_
  ·cases i<;>cases h2
  ·have:=xK m (ak b_ (2 ^ m-1) told told 0)
   simpa using this
 |more g_ x R j hx hk n=>
  have c:ak b_ (2 ^ m-1) told told x.2≠x:=λz=>d (by rw[z];exact mq g_ x)
  have mono:=rh (wide:=told) (narrow:=told) f hk;rw[←hx] at mono;have hb:=b j;rw[←hx] at hb;have o:=xL (m:=m) mono.1 mono.2 c hb.1 (b x.2).2;exact .more (g_++[x]) _ (Rounds0.add R c) x.2 rfl mono.2 (by rw[ZN];simp;omega)
theorem RunS.len{l:Zu}{a:Nat}(h:RunS b_ m told l a):l.length<=2*m+1:=by
 cases h with
 |nil=>exact YQ _
 |more g_ x R b hx hk c=>rw[ZN];simp;omega
theorem RunS.done(ok:RowsOk m b_)(ht:told<2 ^ m){l:Zu}{b:Nat}(h:RunS b_ m told l b)(a:l.getLast?=some (ak b_ (2 ^ m-1) told told b)):∃ps x,l=ps++[x]/\Runs b_ m told (ps++[x]):=by
 cases h with
 |nil=>cases a
 |more g_ x R c hx hk d=>
  refine⟨g_,x,rfl,ok,ht,by simp,R,λy hy=>?_⟩;rw[mq] at hy a;cases hy;exact(Yi a).symm
end
end SQ
namespace SH
open PySem L2 DD
def enP:Nat->List Pap->List (Nat×Pap)
 |_,[]=>[]
 |n,q::l=>(n,q)::enP (n+1) l
def ones(a:List Pap)(p:Pap->Bool):List (Nat×Pap):=(enP 0 a).filter λx=>p x.2
end SH
namespace SQ
open PySem L2 DD
open SH
end SQ
namespace SH
open PySem L2 DD
end SH
namespace SQ
open PySem L2 DD
open SH
theorem Runs.uniq{b_:Z1}{m told:Nat}{ps a:Zu}(R:SH.Runs b_ m told ps)(c:SH.Runs b_ m told a):ps=a:=by
 refine List.ext_getElem? λi=>?_
 have b:∀{ps a:Zu},SH.Runs b_ m told ps->SH.Runs b_ m told a->∀(i:Nat) (y:Nat×Nat),ps[i]?=some y->a[i]?=some y:=by
  intro ps a R c i;induction i with
  |zero=>
   intro y h
   have:=R.rounds.first
   rw[h] at this;rw[c.rounds.first,this]
  |succ i f=>
   intro y h;have hl:=(YG.mp h).1;have hi:ps[i]?=some (ps[i]'(by omega)):=ZE (by omega);generalize ps[i]'(by omega)=x at hi;have d:=f x hi;obtain⟨e1,e2⟩:=R.rounds.next i x y hi h;cases h':a[i+1]? with
   |some z=>rw[(c.rounds.next i x z d h').1,e1]
   |none=>
    exfalso;have j:=(YG.mp d).1;have hn:=List.getElem?_eq_none_iff.1 h';have g:a.getLast?=some x:=by
     rw[List.getLast?_eq_getElem?,show a.length-1=i by omega];exact d
    exact e2 (e1.trans (c.rounds.last x g))
 cases h:ps[i]? with
 |some y=>exact(b R c i y h).symm
 |none=>
  cases h':a[i]? with
  |none=>rfl
  |some y=>rw[b c R i y h'] at h;cases h
end SQ
namespace SH
open PySem L2 DD
def lB:Ss:=#v[.ret (.var 3)]
def dH:Ss:=#v[.ite (.and (.cmp .Eq (.bin .BitAnd (.bin .RShift (.var 4) (.var 5)) (.int 1)) (.int 0)) (.val (.fn 0 #v[.var 6,.var 3,.var 2]))) #v[.set 4 (.bin .BitOr (.var 4) (.bin .LShift (.int 1) (.var 5)))] .nil]
def lC:Ss:=#v[.for (.tp [5,6]) (.seq (.var 0)) dH]
def lD:Ss:=.cons (.set 3 (.var 4)) lC
def lE:Ss:=.cons (.while (.cmp .NotEq (.var 4) (.var 3)) lD) lB
def lF:Ss:=.cons (.set 4 (.var 1)) lE
def jZ:Ss:=.cons (.set 3 (.neg (.int 1))) lF
def jl:SpD:=λds M Q=>∃(p:Addr) (m:Nat) (y_:List D) (b_:Z1) (told g:Nat),ds=[.ref p,⇑told,⇑g]/\M p=some (.lst y_)/\aM M y_ b_/\RowsOk m b_/\told<2 ^ m /\
 ∀(n:Nat) M',bo b_ told g n->n<2 ^ m->Ext M M'->Q (⇑n) M'
section
variable {cn:Cn}{ds:List D}{M:MH}{Q:DK}{c:CA}{S Z:Addr}
theorem vG (Y:cn.F.getD 0 Yl = mo) (h:jl ds M Q):wSs cn jZ (fin Q) (ad ["","","","","","",""] ds) M:=by
 obtain ⟨p,m,y_,b_,told,g,rfl,hp,hR,ok,ht,q⟩:=h
 show wSs cn jZ (fin Q) [↑p,~~~told,~~~g,none,none,none,none] M
 have hok:∀ x ∈ b_,∀ t ∈ x.2,CT.ok t:=λx hx t ht=>CT.fit_ok (by have:=ok.most; omega) ((ok.fit x hx).2.2 t ht)
 have QF:=ok.most
 have B:∀ (E:EndsD) (h more:Nat) (x:Row) (u:Addr) (M5:MH),x.1 < m->(∀ t ∈ x.2,t.ok)->M5 u = some (.lst (x.2.map CT.told)) ->
   (∀ j o,Ext M5 o->Sub more j->(aX h g x = true->j.testBit x.1 = true)->(∀ s,(aX h g x = true->s.testBit x.1 = true)->Sub more s->Sub j s)->(more < 2 ^ m->j < 2 ^ m)->E.nx [↑p,~~~told,~~~g,~~~h,~~~j,~~~x.1,↑u] o) ->
   wSs cn dH E [↑p,~~~told,~~~g,~~~h,~~~more,~~~x.1,↑u] M5:=by
  intro E h more x u M5 hx ht L kk
  unfold dH
  simp! only [am,ao,az,aq,aj,aA,ai,ar,YQ,and_self,true_and,and_true,List.set,Y]
  refine ⟨by omega,?_⟩
  rw [PyProof.Rows.bitAnd_m1]
  show Bif (bitZ (more:Int) (x.1:Int) == 0) _ _
  rw [AF,cb]
  cases b:more.testBit x.1 with
  | true=>exact kk more M5 (Ext.refl M5) (Sub.refl _) (λ_=>b) (λs _ a=>a) (λh=>h)
  | false=>
   refine ⟨u,x.2,(h:Int),(g:Int),rfl,L,ht,λo w=>?_⟩
   simp! only []
   cases b2:x.2.all (CT.carried (h:Int) (g:Int)) with
   | false=>
    refine kk more o w (Sub.refl _) (λz=>?_) (λs _ a=>a) (λh=>h)
    have z:x.2.all (CT.carried (h:Int) (g:Int)) = true:=z
    rw [b2] at z; cases z
   | true=>
    simp! only [List.set]
    refine ⟨⟨by omega,by omega,by decide⟩,?_⟩
    rw [oE,vc]
    have tb:(more ||| 2 ^ x.1).testBit x.1 = true:=by rw [Nat.testBit_or,Nat.testBit_two_pow_self,Bool.or_true]
    refine kk (more ||| 2 ^ x.1) o w (Sub.or_l _ _) (λ_=>tb) (λs a hm=>hm.or λf hf=>?_) (λhm=>Nat.or_lt_two_pow hm (Nat.pow_lt_pow_right (by decide) hx))
    rw [Nat.testBit_two_pow] at hf
    have:x.1 = f:=XS hf
    subst this
    exact a b2
 have C:∀ (E:EndsD) (h:Nat) (xs:List D) (A:Z1) (more:Nat) (l n:Z2) (M5:MH),aM M xs A->(∀ x ∈ A,x ∈ b_)->Ext M M5->more < 2 ^ m ->
   (∀ j l n o,Ext M o->Sub more j->(∀ x ∈ A,aX h g x = true->j.testBit x.1 = true)->(∀ s,(∀ x ∈ A,aX h g x = true->s.testBit x.1 = true)->Sub more s->Sub j s)->j < 2 ^ m->E.nx [↑p,~~~told,~~~g,~~~h,~~~j,l,n] o) ->
   au (λM'=>M' p = some (.lst y_)) (.tp [5,6]) (wSs cn dH) E xs [↑p,~~~told,~~~g,~~~h,~~~more,l,n] M5:=by
  intro E h xs A more l n M5 hx
  induction hx generalizing more l n M5 with
  | nil=>
   intro _ G hm kk
   rw [au]
   exact kk more l n M5 G (Sub.refl _) (λx hx=>by cases hx) (λs _ a=>a) hm
  | @cons d x xs A hd _ ih=>
   intro U G hm kk
   obtain ⟨u,rfl,L⟩:=hd
   have hx:=U x (.head _)
   rw [au]
   refine ⟨rfl,?_⟩
   refine B _ h more x u M5 (ok.fit x hx).1 (hok x hx) (G _ _ L) ?_
   intro j o w s1 s2 s3 s4
   refine ⟨G.trans w _ _ hp,ih j _ _ o (λx h=>U x (.tail _ h)) (G.trans w) (s4 hm) ?_⟩
   intro My l n M7 e7 I O P R
   refine kk My l n M7 e7 (s1.trans I) (λy hy hq=>?_) (λs a Td=>P s (λy hy=>a y (.tail _ hy)) (s3 s (a x (.head _)) Td)) R
   rcases YE.1 hy with rfl | hy
   ·exact I _ (s2 hq)
   ·exact O y hy hq
 unfold jZ
 simp! only [List.set]
 unfold lF
 simp! only [List.set]
 unfold lE
 show lq _ _ _ _ _
 refine ⟨λk σ M'=>∃ (r:Int) (more:Nat) (l n:Z2),(((2 ^ m:Nat):Int) - r).toNat = k/\σ = [↑p,~~~told,~~~g,some (.int r),~~~more,l,n] /\
  Ext M M'/\Sub told more/\(∀ s,q9 b_ told g s->Sub more s)/\more < 2 ^ m/\(r = -1 \/ ∃ h:Nat,r = (h:Int)/\Sub h more/\∀ x ∈ b_,aX h g x = true->more.testBit x.1 = true),?_,?_⟩
 ·exact ⟨_,-1,told,none,none,rfl,rfl,Ext.refl M,Sub.refl _,λs a=>a.1,ht,.inl rfl⟩
 rintro k σ M' ⟨r,more,l,n,rfl,rfl,e1,V,h2,T,W⟩
 have J:∀ K:Bool->MH->Prop,K (!((more:Int) == r)) M'->wT cn (.cmp .NotEq (.var 4) (.var 3)) [↑p,~~~told,~~~g,some (.int r),~~~more,l,n] M' K:=by
  intro K hK
  simp! only [am,ao,az,aq,aj,aA,ai,ar,YQ,and_self,true_and,and_true,List.set]
  exact hK
 refine J _ ?_
 by_cases X:(more:Int) = r
 ·rw [X,XI,Bool.not_true,aF]
  dsimp only
  unfold lB
  simp! only [List.set]
  rcases W with z | ⟨h,hh,a,hc⟩
  ·omega
  ·have:h = more:=by omega
   subst this
   rw [hh]
   exact q h M' ⟨⟨V,hc⟩,h2⟩ T e1
 ·rw [beq_false_of_ne X,Bool.not_false,aZ]
  refine ⟨λk_ Ie=>∃ k',k' < (((2 ^ m:Nat):Int) - r).toNat/\_,λk_ Ie h=>h,?_⟩
  unfold lD
  simp! only [List.set]
  unfold lC
  simp! only [List.set,e1 _ _ hp]
  have G_:r < (more:Int):=by
   rcases W with z | ⟨h,hh,a,hc⟩
   ·omega
   ·have:=a.le
    omega
  have QB:(more:Int) < ((2 ^ m:Nat):Int):=Int.ofNat_lt.2 T
  refine C _ more y_ b_ more l n M' hR (λx h=>h) e1 T ?_
  intro j w5 w6 o w I O P R
  refine ⟨_,?_,(more:Int),j,w5,w6,rfl,rfl,w,V.trans I,λs a=>P s (λx hx hq=>a.2 x hx (oU (h2 s a) hq)) (h2 s a),R,.inr ⟨more,rfl,I,O⟩⟩
  omega
end
def ue:D->Bool
 |.non=>true
 |.int _=>true
 |.str _=>true
 |_=>false
def Cz:SpD:=λds M Q=>∃d:D,ds=[d]/\ue d=true/\Q (.bl true) M
section
variable {cn:Cn}{ds:List D}{M:MH}{Q:DK}{c:CA}{S Z:Addr}
theorem rk(h:Cz ds M Q):wSs cn aY (fin Q) (ad ["",""] ds) M:=by
 obtain⟨d,rfl,hd,q⟩:=h;show wSs cn aY (fin Q) [some d,none] M;cases d with
 |int i=>
  exact Cr ⟨i,rfl,q⟩
 |non=>
  unfold aY;simp! only[tyD,tysD];refine⟨by decide,?_⟩;show Bif false _ _;unfold dF;simp! only[tyD];exact⟨trivial,q⟩
 |str z=>
  unfold aY;simp! only[tyD,tysD];refine⟨by decide,?_⟩;show Bif false _ _;unfold dF;simp! only[tyD];refine⟨trivial,by decide,?_⟩;show Bif true _ _;exact q
 |_=>cases hd
end
theorem mr{a b:Nat}(h:Sub b a):(a:Int)-(b:Int)=((av a b:Nat):Int):=by
 have:=je a b
 have e:a&&&b=b:=by rw[Nat.and_comm];exact xF.2 h
 omega
end SH
namespace SR
open PySem L2 DD
open SH
theorem xP{c d:Type}(f:c->d):∀l:List c,eve (l.map f)=(eve l).map f
 |[]=>rfl
 |[a]=>rfl
 |a::b::r=>by
  show f a::eve (r.map f)=f a::(eve r).map f;rw[xP f r]
def bG(pl:Zo):List Row:=(pl.getD 0 0,[])::(List.range (pl.length-1)).map λk=>(pl.getD (k+1) 0,[.lck ((pl.getD k 0:Nat):Int)])
def oddS(pl:Zo)(k:Nat):Nat:=setN (eve ((pl.drop 1).take (2*k-3)))
def evnS(pl:Zo)(k:Nat):Nat:=setN (eve (pl.take (2*k-1)))
def dueK(pl:Zo)(k:Nat):Nat×Nat:=(av (2 ^ pl.length-1) (oddS pl k),evnS pl k)
section
variable {pl:Zo}{f i k m:Nat}
theorem lG{l:Zo}:f∈eve l ↔ ∃j,l[2*j]?=some f:=by
 rw[List.mem_iff_getElem?];exact⟨λ⟨j,h⟩=>⟨j,by rw[←oi];exact h⟩,λ⟨j,h⟩=>⟨j,by rw[oi];exact h⟩⟩
theorem sk(nd:pl.Nodup)(hf:pl[i]?=some f):(oddS pl k).testBit f=decide (i%2=1/\i<2*k-2):=by
 have hi:=(YG.mp hf).1;unfold oddS;rw[a9];congr 1;rw[lG];refine propext ⟨λ⟨j,h⟩=>?_,λh=>⟨(i-1) / 2,?_⟩⟩
 ·rw[ZJ] at h
  split at h
  ·rename_i a
   rw[List.getElem?_drop] at h;have:i=1+2*j:=(List.getElem?_inj hi nd).1 (by rw[hf,h])
   omega
  ·cases h
 ·rw[List.getElem?_take_of_lt (by omega),List.getElem?_drop,show 1+2*((i-1) / 2)=i by omega]
  exact hf
theorem lH(nd:pl.Nodup)(hf:pl[i]?=some f):(evnS pl k).testBit f=decide (i%2=0/\i<2*k-1):=by
 have hi:=(YG.mp hf).1;unfold evnS;rw[a9];congr 1;rw[lG];refine propext ⟨λ⟨j,h⟩=>?_,λh=>⟨i / 2,?_⟩⟩
 ·rw[ZJ] at h
  split at h
  ·rename_i a
   have:i=2*j:=(List.getElem?_inj hi nd).1 (by rw[hf,h])
   omega
  ·cases h
 ·rw[List.getElem?_take_of_lt (by omega),show 2*(i / 2)=i by omega]
  exact hf
theorem AX(h:(evnS pl k).testBit f=true):f∈pl:=by
 unfold evnS at h;rw[a9,XU,lG] at h;obtain⟨j,h⟩:=h;rw[ZJ] at h;split at h
 ·exact List.mem_iff_getElem?.2 ⟨_,h⟩
 ·cases h
theorem Gq(h:(oddS pl k).testBit f=true):f∈pl:=by
 unfold oddS at h;rw[a9,XU,lG] at h;obtain⟨j,h⟩:=h;rw[ZJ] at h;split at h
 ·rw[List.getElem?_drop] at h
  exact List.mem_iff_getElem?.2 ⟨_,h⟩
 ·cases h
theorem cv(h:pl[i]?=some f):pl.getD i 0=f:=by
 rw[List.getD_eq_getElem?_getD,h];rfl
theorem vH(s g e:Nat):aX s g (f,[.lck (e:Int)]) = !g.testBit e:=by
 show(([CT.lck (e:Int)]).all _)=_;rw[XT,List.all_nil,Bool.and_true,←cb];rfl
theorem oX{g n:Nat}(c:∀f,pl[0]?=some f->n.testBit f=true)(hn:∀i e f,pl[i]?=some e->pl[i+1]?=some f->n.testBit f = !g.testBit e)(d:∀f,n.testBit f=true->f∈pl)(hp:0<pl.length):bo (bG pl) 0 g n:=by
 have a:pl[0]?=some (pl[0]'hp):=ZE hp;refine⟨⟨Sub.zero _,λx hx q=>?_⟩,λs b f hf=>?_⟩
 ·rcases YE.1 hx with rfl | hx
  ·rw[cv a]
   exact c _ a
  ·obtain⟨k,hk,rfl⟩:=List.mem_map.1 hx
   rw[ZZ] at hk;have e1:pl[k]?=some (pl[k]'(by omega)):=ZE (by omega);have e2:pl[k+1]?=some (pl[k+1]'(by omega)):=ZE (by omega);rw[cv e1,cv e2,vH] at q;show n.testBit (pl.getD (k+1) 0)=true;rw[cv e2,hn k _ _ e1 e2];exact q
 ·obtain⟨i,hi⟩:=List.mem_iff_getElem?.1 (d f hf)
  cases i with
  |zero=>
   have:=b.2 (pl.getD 0 0,[]) YC rfl
   rw[cv hi] at this;exact this
  |succ i=>
   have hl:=(YG.mp hi).1;have e1:pl[i]?=some (pl[i]'(by omega)):=ZE (by omega)
   have:=b.2 (pl.getD (i+1) 0,[.lck ((pl.getD i 0:Nat):Int)]) (YD _ (List.mem_map.2 ⟨i,ZZ.2 (by omega),rfl⟩)) (by
    rw[vH,cv e1,←hn i _ _ e1 hi];exact hf)
   rw[cv hi] at this;exact this
theorem CB(hm:pl.length<=120)(hp:0<pl.length)(a:∀f∈pl,f<pl.length):RowsOk pl.length (bG pl):=by
 have hg:∀i,i<pl.length->pl.getD i 0<pl.length:=λi hi=>by
  rw[cv (ZE hi)];exact a _ (List.getElem_mem hi)
 refine⟨hm,?_,λx hx=>?_⟩
 ·unfold bG
  rw[YM,ZG,ZM];omega
 ·rcases YE.1 hx with rfl | hx
  ·exact⟨hg 0 hp,YQ _,λt ht=>nomatch ht⟩
  ·obtain⟨k,hk,rfl⟩:=List.mem_map.1 hx
   rw[ZZ] at hk;refine⟨hg _ (by omega),by simp,λt ht=>?_⟩;rw[XR.1 ht]
   have:=hg k (by omega)
   exact⟨by omega,by omega⟩
theorem xQ{n:Nat}(hn:n<2 ^ m):Sub n (2 ^ m-1):=λf hf=>by
 rw[Nat.testBit_two_pow_sub_one];exact YY (f9 hn hf)
theorem EK{fs:Zo}(h:∀f∈fs,f<m):setN fs<2 ^ m:=Nat.lt_pow_two_of_testBit _ λi hi=>by
 rw[a9];exact ZT λz=>by have:=h i z;omega
structure Chn (pl:Zo):Prop where
 nd:pl.Nodup
 lt:∀f∈pl,f<pl.length
 all:∀f,f<pl.length->f∈pl
 pos:0<pl.length
 few:pl.length<=120
theorem Chn.ok(C:Chn pl):RowsOk pl.length (bG pl):=CB C.few C.pos C.lt
theorem lI(C:Chn pl)(hf:pl[i]?=some f):(dueK pl k).1.testBit f = !decide (i%2=1/\i<2*k-2):=by
 show(av _ _).testBit f=_;rw[bd,Nat.testBit_two_pow_sub_one,sk C.nd hf,YY (C.lt f (List.mem_iff_getElem?.2 ⟨_,hf⟩)),XZ]
theorem EL(C:Chn pl)(h:(dueK pl k).1.testBit f=true):f∈pl:=by
 have h:(av _ _).testBit f=true:=h;rw[bd,Nat.testBit_two_pow_sub_one,XB,XU] at h;exact C.all f h.1
theorem Gr(C:Chn pl){g:Nat}(hg:∀i e,pl[i]?=some e->g.testBit e=decide (i%2=0/\i+2<2*k-1)):bo (bG pl) 0 g (dueK pl k).1:=by
 refine oX (λf a=>?_) (λi e f b h2=>?_) (λf h=>EL C h) C.pos
 ·rw[lI C a];rfl
 ·rw[lI C h2,hg i e b]
  congr 2;exact propext ⟨λh=>by omega,λh=>by omega⟩
theorem Gs (C:Chn pl):bo (bG pl) 0 (dueK pl k).1 (evnS pl k) \/ k = 0:=by
  by_cases hk:k = 0
  · exact .inr hk
  refine .inl (oX (λf a=>?_) (λi e f b h2=>?_) (λf h=>AX h) C.pos)
  · rw [lH C.nd a]; exact YY ⟨rfl,by omega⟩
  · rw [lI C b,lH C.nd h2,Bool.not_not]
    congr 1
    exact propext ⟨λh=>by omega,λh=>by omega⟩
theorem tF(C:Chn pl){g:Nat}(hk:0<k)(hg:∀i e,pl[i]?=some e->g.testBit e=decide (i%2=0/\i+2<2*k-1)):ak (bG pl) (2 ^ pl.length-1) 0 0 g=dueK pl k:=by
 have c:∀x∈bG pl,(2 ^ pl.length-1).testBit x.1=true:=λx hx=>by
  rw[Nat.testBit_two_pow_sub_one];exact YY (C.ok.fit x hx).1
 have a:fZ (bG pl) g 0 (2 ^ pl.length-1)=(dueK pl k).1:=(bD c).uniq (Gr C hg);have b:fZ (bG pl) (dueK pl k).1 0 (2 ^ pl.length-1)=evnS pl k:=(bD c).uniq ((Gs C).resolve_right (by omega));unfold ak;rw[a,b];rfl
theorem rl(C:Chn pl):ak (bG pl) (2 ^ pl.length-1) 0 0 (dueK pl (k+1)).2=dueK pl (k+2):=by
 refine tF C (by omega) λi e h=>?_
 show(evnS pl (k+1)).testBit e=_;rw[lH C.nd h];congr 1;exact propext ⟨λh=>by omega,λh=>by omega⟩
theorem AY(C:Chn pl):ak (bG pl) (2 ^ pl.length-1) 0 0 0=dueK pl 1:=
 tF C (by decide) λi e _=>by
  rw[Nat.zero_testBit];exact(ZT λz=>by omega).symm
theorem CC(C:Chn pl)(h:pl.length<2*k)(hk:0<k):dueK pl (k+1)=dueK pl k:=by
 have e1:oddS pl (k+1)=oddS pl k:=Nat.eq_of_testBit_eq λf=>by
  by_cases hf:f∈pl
  ·obtain⟨i,hi⟩:=List.mem_iff_getElem?.1 hf
   have:=(YG.mp hi).1
   rw[sk C.nd hi,sk C.nd hi];congr 1;exact propext ⟨λh=>by omega,λh=>by omega⟩
  ·have a:∀k,(oddS pl k).testBit f=false:=λk=>Bool.eq_false_iff.2 λz=>hf (Gq z)
   rw[a,a]
 have e2:evnS pl (k+1)=evnS pl k:=Nat.eq_of_testBit_eq λf=>by
  by_cases hf:f∈pl
  ·obtain⟨i,hi⟩:=List.mem_iff_getElem?.1 hf
   have:=(YG.mp hi).1
   rw[lH C.nd hi,lH C.nd hi];congr 1;exact propext ⟨λh=>by omega,λh=>by omega⟩
  ·have a:∀k,(evnS pl k).testBit f=false:=λk=>Bool.eq_false_iff.2 λz=>hf (AX z)
   rw[a,a]
 unfold dueK;rw[e1,e2]
theorem AZ(C:Chn pl)(h:2*k<=pl.length)(hk:0<k):dueK pl (k+1)≠dueK pl k:=λz=>by
 have hi:pl[2*k-1]?=some (pl[2*k-1]'(by omega)):=ZE (by omega);have a:=lI (k:=k) C hi;rw[←z,lI C hi,YY ⟨by omega,by omega⟩,ZT λz=>by omega] at a;cases a
theorem za(C:Chn pl):Runs (bG pl) pl.length 0 ((List.range (pl.length / 2+1)).map λj=>dueK pl (j+1)):=by
 have a:∀i y,((List.range (pl.length / 2+1)).map λj=>dueK pl (j+1))[i]?=some y->i<pl.length / 2+1/\y=dueK pl (i+1):=λi y h=>by
  rw[ZH] at h;by_cases hi:i<pl.length / 2+1
  ·rw[ZK hi] at h
   cases h;exact⟨hi,rfl⟩
  ·rw[ZL (by rw[ZM];omega)] at h
   cases h
 refine⟨C.ok,Nat.two_pow_pos _,by simp,⟨⟨?_,λi x y b h2=>?_⟩,λx hx=>?_⟩⟩
 ·rw[AY C,ZH,ZK (by omega)];rfl
 ·obtain⟨_,rfl⟩:=a i x b
  obtain⟨hl,rfl⟩:=a (i+1) y h2;exact⟨(rl C).symm,AZ C (by omega) (by omega)⟩
 ·rw[List.getLast?_eq_getElem?] at hx
  obtain⟨hl,rfl⟩:=a _ x hx;rw[ZG,ZM] at hl ⊢;rw[Nat.add_sub_cancel,rl C,CC C (by omega) (by omega)]
end
end SR
namespace SH
open PySem L2 DD
def nE(M:MH):Nat->D->Prop
 |0,x=>ue x=true
 |d+1,x=>ue x=true \/ ∃xs,(x=.tup xs \/ ∃a,x=.ref a/\M a=some (.lst xs))/\∀y∈xs,nE M d y
def fh(d:Nat):SpD:=λds M Q=>∃x:D,ds=[x]/\nE M d x/\Q (.bl true) M
theorem jm{M:MH}{x:D}(h:ue x=true):∀d,nE M d x
 |0=>h
 |_+1=>.inl h
section
variable {cn:Cn}{ds:List D}{M:MH}{Q:DK}{c:CA}{S Z:Addr}
theorem zb(h:fh 0 ds M Q):wSs cn aY (fin Q) (ad ["",""] ds) M:=by
 obtain⟨x,rfl,hx,q⟩:=h;exact rk ⟨x,rfl,hx,q⟩
theorem zc {d:Nat} (l:cn.F.getD 0 Yl = fh d) (h:fh (d + 1) ds M Q):wSs cn aY (fin Q) (ad ["",""] ds) M:=by
 obtain ⟨x,rfl,hx | ⟨xs,hd,hx⟩,q⟩:=h
 ·exact rk ⟨x,rfl,hx,q⟩
 show wSs cn aY (fin Q) [some x,none] M
 have b:∀ (E:EndsD) (y:D),nE M d y->E.nx [some x,some y] M->wSs cn dG E [some x,some y] M:=by
  intro E y ha k
  unfold dG
  simp! only [List.set,l]
  exact ⟨y,rfl,ha,k⟩
 have f:∀ (g:MH->Prop),g M->∀ (j:List D) (v:Z2),(∀ y ∈ j,nE M d y)->au g (.nm 1) (wSs cn dG) { nx:=wSs cn gS (fin Q),rt:=Q } j [some x,v] M:=by
  intro g hg j
  induction j with
  | nil=>
   intro v _
   rw [au]
   unfold gS
   simp! only []
   exact q
  | cons y j m=>
   intro v hy
   rw [au]
   exact b _ y (hy y (.head _)) ⟨hg,m _ λx h=>hy x (.tail _ h)⟩
 unfold aY
 rcases hd with rfl | ⟨a,rfl,hM⟩
 ·simp! only [tyD,tysD]
  refine ⟨by decide,?_⟩
  show Bif true _ _
  rw [aZ]
  exact f _ trivial xs none hx
 ·simp! only [tyD,tysD,hM]
  refine ⟨by decide,?_⟩
  show Bif true _ _
  rw [aZ]
  exact f _ hM xs none hx
end
end SH
namespace SR
open PySem L2 DD
open SH
def lc:Ss:=#v[.ret (.and (.fn 0 #v[.var 0]) (.cmp .Eq (.var 0) (.var 1)))]
def nF:Ss:=#v[.ret (.var 2)]
def nG:Ss:=#v[.set 4 (.fn 0 #v[.var 0,.var 1,.var 3])]
def nH:Ss:=.cons (.set 3 (.fn 0 #v[.var 0,.var 1,.var 4])) nG
def nI:Ss:=.cons (.expr (.mt .append (.var 2) #v[.tup #v[.var 3,.var 4]])) nH
def nJ:Ss:=.cons (.while (.or (.cmp .Eq (.var 2) (.lst .nil)) (.cmp .NotEq (.ix (.var 2) (.neg (.int 1))) (.tup #v[.var 3,.var 4]))) nI) nF
def nK:Ss:=.cons (.set 4 (.fn 0 #v[.var 0,.var 1,.var 3])) nJ
def nL:Ss:=.cons (.set 3 (.fn 0 #v[.var 0,.var 1,.int 0])) nK
def mw:Ss:=.cons (.set 2 (.lst .nil)) nL
def fj:Ss:=#v[.ret (.bl true)]
def j0:Ss:=#v[.ite (.not (.val (.fn 0 #v[.mu "answer_of" (.var 0) #v[.var 4],.var 5]))) #v[.ret (.bl false)] .nil]
def cI:Ss:=.cons (.set 5 (.ix (.lst #v[.str "false",.str "open",.str "true"]) (.bin .Add (.bin .BitAnd (.bin .RShift (.var 2) (.var 4)) (.int 1)) (.bin .BitAnd (.bin .RShift (.var 3) (.var 4)) (.int 1))))) j0
def j4:Ss:=.cons (.for (.nm 4) (.rg1 #v[.var 1]) cI) fj
def j5:Ss:=.cons (.ite (.not (.val (.fn 0 #v[.mu0 "false_facts" (.var 0),.bin .Sub (.bin .Sub (.bin .LShift (.int 1) (.var 1)) (.int 1)) (.var 2)]))) #v[.ret (.bl false)] .nil) j4
def gT:Ss:=.cons (.ite (.or (.not (.val (.fn 0 #v[.mu0 "true_facts" (.var 0),.var 3]))) (.not (.val (.fn 0 #v[.mu0 "open_facts" (.var 0),.bin .Sub (.var 2) (.var 3)])))) #v[.ret (.bl false)] .nil) j5
def gu:Ss:=#v[.ret (.var 3)]
def c0:Ss:=#v[.expr (.mt .append (.var 3) #v[.mt .pop (.var 2) #v[.fn 0 #v[.var 0,.bi .len #v[.var 2]]]])]
def kC:Ss:=.cons (.for (.nm 4) (.rg1 #v[.var 1]) c0) gu
def kE:Ss:=.cons (.set 3 (.lst .nil)) kC
def iP:Ss:=.cons (.set 2 (.lrg #v[.var 1])) kE
def vI:Ss:=#v[.ret (.var 1)]
def vJ:Ss:=#v[.set 1 (.bin .BitOr (.var 1) (.bin .LShift (.int 1) (.var 2)))]
def vK:Ss:=.cons (.for (.nm 2) (.seq (.var 0)) vJ) vI
def zd:Ss:=.cons (.set 1 (.int 0)) vK
def Gu(M:MH)(x y:D):Prop:=(∃i:Int,x=.int i/\y=.int i)\/(∃z:Str,x=.str z/\y=.str z) \/ ∃(a b:Addr) (ps:Zu),x=.ref a/\y=.ref b/\M a=some (.lst (ps.map al))/\M b=some (.lst (ps.map al))
def spSame:SpD:=λds M Q=>∃(x y:D),ds=[x,y]/\Gu M x y/\Q (.bl true) M
def spDue:SpD:=λds M Q=>∃(p:Addr) (m:Nat) (y_:List D) (b_:Z1) (told:Nat),ds=[.ref p,.int (told:Int)]/\M p=some (.lst y_)/\aM M y_ b_/\RowsOk m b_/\told<2 ^ m /\
 ∀(a:Addr) (ps:Zu) (x:Nat×Nat) M',M a=none->Ext M M'->M' a=some (.lst ((ps++[x]).map al))->Runs b_ m told (ps++[x])->(ps++[x]).length<=2*m+1->Q (.ref a) M'
def spAnswers(Z:Addr):SpD:=λds M Q=>∃(a:Addr) (m:Nat) (ps:Zu) (x:Nat×Nat),ds=[.ref a,.int (m:Int),.int (x.1:Int),.int (x.2:Int)]/\SortAt Z M a m ps x/\Sub x.2 x.1/\x.1<2 ^ m/\m<=120/\∀M',Ext M M'->Q (.bl true) M'
def spPlaces:SpD:=λds M Q=>∃(p:Addr) (b k:Int) (m:Nat),ds=[.ref p,.int (m:Int)]/\M p=some (.lst [.int b,.int k])/\(0<m/\m<=120) /\
 ∀(q:Addr) (pl:Zo) M',M q=none->ExtBut p M M'->M' q=some (.lst (nats pl))->Chn pl->pl.length=m->Q (.ref q) M'
theorem jn(ps:Zu):eqDs (ps.map al) (ps.map al)=true:=nj _ (SQ.bu ps)
theorem Gv(x:Nat×Nat)(f:Nat)(b:Sub x.2 x.1):atI [D.str "false",.str "open",.str "true"] (bitZ (x.1:Int) (f:Int)+bitZ (x.2:Int) (f:Int))=some (.str (ansS x.2 (av x.1 x.2) f)):=by
 have a:=cb x.1 f;have h2:=cb x.2 f;have s:=b f;unfold hasB at a h2;unfold ansS;rw[bd];rcases rY (x.1:Int) (f:Int) with e1 | e1<;>rcases rY (x.2:Int) (f:Int) with e2 | e2<;>rw[e1] at a ⊢ <;> rw[e2] at h2 ⊢
 ·have a:x.1.testBit f=false:=a.symm
  have h2:x.2.testBit f=false:=h2.symm;rw[a,h2];rfl
 ·have a:x.1.testBit f=false:=a.symm
  have h2:x.2.testBit f=true:=h2.symm;rw[s h2] at a;cases a
 ·have a:x.1.testBit f=true:=a.symm
  have h2:x.2.testBit f=false:=h2.symm;rw[a,h2];rfl
 ·have h2:x.2.testBit f=true:=h2.symm
  rw[h2];rfl
theorem Drawn.chn{m:Nat}{fs:Zo}(h:Drawn m [] fs)(a:0<m)(b:m<=120):Chn fs/\fs.length=m:=by
 have hl:fs.length=m:=by have:=h.len;simpa using this
 have nd:fs.Nodup:=by have:=h.nd;simpa using this
 have lt:∀f∈fs,f<m:=λf hf=>h.lt f (by simpa using hf)
 refine⟨⟨nd,by rw[hl];exact lt,λf hf=>?_,by omega,by omega⟩,hl⟩;by_cases c:f∈fs
 ·exact c
 ·have:=bR (n:=m) (l:=f::fs) (YS.2 ⟨c,nd⟩) λx hx=>by
   rcases YE.1 hx with rfl | hx
   ·omega
   ·exact lt x hx
  rw[YM] at this;omega
section
variable {cn:Cn}{ds:List D}{M:MH}{Q:DK}{c:CA}{S Z:Addr}
theorem rd_law_set(h:cp ds M Q):wSs cn zd (fin Q) (ad ["","",""] ds) M:=tj h
theorem rd_same(d:cn.F.getD 0 Yl=fh 2)(h:spSame ds M Q):wSs cn lc (fin Q) (ad ["",""] ds) M:=by
 obtain⟨x,y,rfl,h,q⟩:=h;show wSs cn lc (fin Q) [some x,some y] M;unfold lc;rcases h with⟨i,rfl,rfl⟩ | ⟨z,rfl,rfl⟩ | ⟨a,b,ps,rfl,rfl,f,h2⟩
 ·simp_all! only[List.set,d]
  refine⟨_,rfl,jm rfl 2,?_⟩;simp_all! only[XI];exact q
 ·simp_all! only[List.set,d]
  refine⟨_,rfl,jm rfl 2,?_⟩;simp_all! only[XI];exact q
 ·simp! only[List.set,d]
  refine⟨_,rfl,.inr ⟨_,.inr ⟨a,rfl,f⟩,λy hy=>?_⟩,?_⟩
  ·obtain⟨w,_,rfl⟩:=List.mem_map.1 hy
   refine .inr ⟨_,.inl rfl,λy hy=>?_⟩;rcases YE.1 hy with rfl | hy
   ·exact jm rfl 0
   ·rw[XR.1 hy];exact jm rfl 0
  simp! only[f,h2,rdL,jn];exact⟨⟨SQ.bu _,SQ.bu _,by have:=SQ.fG ps;omega⟩,q⟩
theorem rd_due (w:cn.F.getD 0 Yl = jl) (h:spDue ds M Q):wSs cn mw (fin Q) (ad ["","","","",""] ds) M:=by
  obtain ⟨p,m,y_,b_,told,rfl,hp,A,ok,ht,q⟩:=h
  show wSs cn mw (fin Q) [some (.ref p),some (.int (told:Int)),none,none,none] M
  have hsz:(2000:Nat) < sizeLine:=by decide
  have QF:=ok.most
  have J:∀ x ∈ b_,(2 ^ m - 1).testBit x.1 = true:=λx hx=>by
    rw [Nat.testBit_two_pow_sub_one]; exact YY (ok.fit x hx).1
  have L:∀ (a d g:Nat),bo b_ told a d->bo b_ told d g->d = (ak b_ (2 ^ m - 1) told told a).1/\g = (ak b_ (2 ^ m - 1) told told a).2:=λa d g n L2=>by
    have e1:d = (ak b_ (2 ^ m - 1) told told a).1:=n.uniq (bD J)
    rw [e1] at L2
    exact ⟨e1,L2.uniq (bD J)⟩
  unfold mw
  simp! only [List.set]
  intro b G
  have o:Ext M (updM M b (.lst [])):=Ext.new G
  have U:updM M b (MO.lst []) b = some (.lst (([]:List (Nat × Nat)).map al)):=aa
  generalize updM M b (MO.lst []) = M1 at *
  unfold nL
  simp! only [List.set,w]
  refine ⟨p,m,y_,b_,told,0,rfl,o _ _ hp,A.ext o,ok,ht,λd M2 n V e2=>?_⟩
  unfold nK
  simp! only [List.set,w]
  refine ⟨p,m,y_,b_,told,d,rfl,e2 _ _ (o _ _ hp),(A.ext o).ext e2,ok,ht,λg M3 L2 W X=>?_⟩
  obtain ⟨rfl,rfl⟩:=L 0 d g n L2
  have O:=e2.trans X
  unfold nJ
  show lq _ _ _ _ _
  refine ⟨λk σ M'=>∃ (l:List (Nat × Nat)) (a:Nat),k + l.length = 2 * m + 2/\σ = [some (.ref p),some (.int (told:Int)),some (.ref b),some (.int (((ak b_ (2 ^ m - 1) told told a).1:Nat):Int)),some (.int (((ak b_ (2 ^ m - 1) told told a).2:Nat):Int))] /\
    Ext M M'/\M' b = some (.lst (l.map al))/\SQ.RunS b_ m told l a,?_,?_⟩
  · exact ⟨2 * m + 2,[],0,rfl,rfl,o.trans O,O _ _ U,.nil⟩
  rintro k σ M5 ⟨l,a,hk,rfl,Y,g5,S5⟩
  have Tf:=S5.len
  have r:∀ K:Bool->MH->Prop,(∀ f,Ext M f->f b = some (.lst (l.map al))->K (decide (l.getLast? ≠ some (ak b_ (2 ^ m - 1) told told a))) f)->wT cn (.or (.cmp .Eq (.var 2) (.lst .nil)) (.cmp .NotEq (.ix (.var 2) (.neg (.int 1))) (.tup (.cons (.var 3) (.cons (.var 4) .nil))))) [some (.ref p),some (.int (told:Int)),some (.ref b),some (.int (((ak b_ (2 ^ m - 1) told told a).1:Nat):Int)),some (.int (((ak b_ (2 ^ m - 1) told told a).2:Nat):Int))] M5 K:=by
    intro K j
    simp! only [List.set]
    intro B Lo
    have t:Ext M5 (updM M5 B (.lst [])):=Ext.new Lo
    have C:updM M5 B (MO.lst []) B = some (.lst []):=aa
    generalize updM M5 B (MO.lst []) = f at *
    have P:=t _ _ g5
    simp only [C,P,rdL]
    refine ⟨⟨SQ.bu l,rfl,by have:=SQ.fG l; omega⟩,?_⟩
    rw [SQ.Cy]
    have j:=j f (Y.trans t) P
    cases S5 with
    | nil=>
      rw [show decide ((([]:List (Nat × Nat)).getLast?) ≠ some (ak b_ (2 ^ m - 1) told told 0)) = true by simp] at j
      exact j
    | more g_ x R k0 hx hk Ln=>
      have Tg:((g_ ++ [x]).map al).isEmpty = false:=by simp
      rw [Tg]
      simp! only [cF]
      refine ⟨⟨kB x,kB _,vB x⟩,?_⟩
      rw [show eqD (.tup [.int (x.1:Int),.int (x.2:Int)]) (.tup [.int (((ak b_ (2 ^ m - 1) told told x.2).1:Nat):Int),.int (((ak b_ (2 ^ m - 1) told told x.2).2:Nat):Int)]) = decide (x = ak b_ (2 ^ m - 1) told told x.2) from xO x _]
      rw [mq] at j
      rw [show (!decide (x = ak b_ (2 ^ m - 1) told told x.2)) = decide (some x ≠ some (ak b_ (2 ^ m - 1) told told x.2)) by
        rw [← decide_not]; congr 1; exact propext ⟨λh z=>h (Yi z),λh z=>h (by rw [← z])⟩]
      exact j
  refine r _ λf t C=>?_
  by_cases E:l.getLast? = some (ak b_ (2 ^ m - 1) told told a)
  · rw [ZT (λz=>z E),aF]
    obtain ⟨ps,x,rfl,R⟩:=S5.done ok ht E
    unfold nF
    simp! only []
    exact q b ps x f G t C R Tf
  · rw [YY E,aZ]
    refine ⟨λk_ Ie=>∃ k',k' < k/\_,λk_ Ie h=>h,?_⟩
    unfold nI
    simp! only [List.set,C]
    refine ⟨rfl,by rw [ZG]; omega,?_⟩
    have u:Ext M (updM f b (.lst (l.map al ++ [.tup [.int (((ak b_ (2 ^ m - 1) told told a).1:Nat):Int),.int (((ak b_ (2 ^ m - 1) told told a).2:Nat):Int)]]))):=t.put G
    have g9:updM f b (MO.lst (l.map al ++ [.tup [.int (((ak b_ (2 ^ m - 1) told told a).1:Nat):Int),.int (((ak b_ (2 ^ m - 1) told told a).2:Nat):Int)]])) b = some (.lst ((l ++ [ak b_ (2 ^ m - 1) told told a]).map al)):=by rw [aa,ZO]; rfl
    generalize updM f b (MO.lst (l.map al ++ [.tup [.int (((ak b_ (2 ^ m - 1) told told a).1:Nat):Int),.int (((ak b_ (2 ^ m - 1) told told a).2:Nat):Int)]])) = M9 at *
    have S9:=S5.add ok ht E
    generalize ak b_ (2 ^ m - 1) told told a = y at *
    unfold nH
    simp! only [List.set,w]
    refine ⟨p,m,y_,b_,told,y.2,rfl,u _ _ hp,A.ext u,ok,ht,λd Ma n V I=>?_⟩
    unfold nG
    simp! only [List.set,w]
    refine ⟨p,m,y_,b_,told,d,rfl,I _ _ (u _ _ hp),(A.ext u).ext I,ok,ht,λg Mb L2 W eb=>?_⟩
    obtain ⟨rfl,rfl⟩:=L y.2 d g n L2
    have T:=I.trans eb
    exact ⟨k - 1,by omega,l ++ [y],y.2,by rw [ZN,List.length_singleton]; omega,rfl,u.trans T,T _ _ g9,S9⟩
theorem rd_answers(y:cn.T Z "true_facts" = some (dZ Z))(t:cn.T Z "open_facts" = some (d2 Z))(z:cn.T Z "false_facts" = some (dq Z))(B:cn.T Z "answer_of" = some (gt Z))(k:cn.F.getD 0 Yl=spSame)(h:spAnswers Z ds M Q):wSs cn gT (fin Q) (ad ["","","","","",""] ds) M:=by
 obtain⟨a,m,ps,x,rfl,A,u,hx,hm,q⟩:=h;show wSs cn gT (fin Q) [some (.ref a),some (.int (m:Int)),some (.int (x.1:Int)),some (.int (x.2:Int)),none,none] M;have I:=Nat.two_pow_pos m;obtain⟨J,ha,K⟩:=A.ex;unfold gT;simp! only[List.set,k,ha,EI,xN,y,t];refine⟨trivial,a,m,ps,x,rfl,A,?_⟩;refine⟨_,_,rfl,.inl ⟨_,rfl,rfl⟩,?_⟩;simp only[Bool.not_true,aF,ha,xN,t];refine⟨trivial,a,m,ps,x,rfl,A,?_⟩;refine⟨_,_,rfl,.inl ⟨_,rfl,congrArg D.int (mr u)⟩,?_⟩;simp only[Bool.not_true,aF];unfold j5;simp! only[List.set,k,ha,Cu,z,oE];refine⟨trivial,a,m,ps,x,rfl,A,?_⟩;refine⟨⟨by omega,by omega,by decide⟩,?_⟩;refine⟨_,_,rfl,.inl ⟨_,rfl,?_⟩,?_⟩
 ·rw[←mr (xQ hx)]
  congr 1;have:((2 ^ m-1:Nat):Int)=((2 ^ m:Nat):Int)-1:=by omega
  rw[this]
 simp only[Bool.not_true,aF];have g:∀(E:EndsD) (f:Nat) (b:Z2) (M5:MH),Ext M M5->(∀b d,Ext M d->E.nx [some (.ref a),some (.int (m:Int)),some (.int (x.1:Int)),some (.int (x.2:Int)),some (.int (f:Int)),b] d)->wSs cn cI E [some (.ref a),some (.int (m:Int)),some (.int (x.1:Int)),some (.int (x.2:Int)),some (.int (f:Int)),b] M5:=by
  intro E f b M5 j kk;unfold cI;simp! only[List.set];intro w hw;have n:Ext M5 (updM M5 w (.lst [.str "false",.str "open",.str "true"])):=Ext.new hw;have C:updM M5 w (MO.lst [.str "false",.str "open",.str "true"]) w=some (.lst [.str "false",.str "open",.str "true"]):=aa;generalize updM M5 w (MO.lst [.str "false",.str "open",.str "true"])=d at *;refine⟨by omega,by omega,?_⟩;rw[PyProof.Rows.bitAnd_m1,PyProof.Rows.bitAnd_m1];have at_:=Gv x f u;unfold bitZ at at_;simp only[C,at_];have o:=j.trans n;unfold j0;simp! only[List.set,k,o _ _ ha,vD,B];refine⟨trivial,a,m,ps,x,f,rfl,A.ext o,?_⟩;refine⟨_,_,rfl,.inr (.inl ⟨_,rfl,rfl⟩),?_⟩;simp only[Bool.not_true,aF];exact kk _ d o
 unfold j4;simp! only[List.set];refine⟨⟨by omega,by omega⟩,?_⟩;rw[bO];have p:∀(l:Zo) (r b:Z2) (M5:MH),Ext M M5->au (λ_=>True) (.nm 4) (wSs cn cI) { nx:=wSs cn fj (fin Q),rt:=Q } (nats l) [some (.ref a),some (.int (m:Int)),some (.int (x.1:Int)),some (.int (x.2:Int)),r,b] M5:=by
  intro l;induction l with
  |nil=>
   intro r b M5 j;rw[show nats []=[] from rfl,au];unfold fj;simp! only[];exact q M5 j
  |cons f l G=>
   intro r b M5 j;rw[show nats (f::l)=.int (f:Int)::nats l from rfl,au];exact g _ f b M5 j λb d n=>⟨trivial,G _ b d n⟩
 exact p (List.range m) none none M (Ext.refl _)
theorem rd_places(V:cn.F.getD 0 Yl=iw)(h:spPlaces ds M Q):wSs cn iP (fin Q) (ad ["","","","",""] ds) M:=by
 obtain⟨p,b,k,m,rfl,T,hm,q⟩:=h;show wSs cn iP (fin Q) [some (.ref p),some (.int (m:Int)),none,none,none] M;have A:M p≠none:=by rw[T];simp
 have hsz:(2000:Nat)<sizeLine:=by decide
 have W:Box2 p k M M b:=⟨ExtBut.refl _ _,T⟩;unfold iP;simp! only[List.set];refine⟨⟨by omega,by omega⟩,λa B=>?_⟩;rw[bO];have X:Box2 p k M (updM M a (.lst (nats (List.range m)))) b:=W.ext (Ext.new B);have J:updM M a (MO.lst (nats (List.range m))) a=some (.lst (nats (List.range m))):=aa;have Y:∀z,updM M a (MO.lst (nats (List.range m))) z=none->M z=none:=λz=>(Ext.new B).free
 generalize updM M a (MO.lst (nats (List.range m)))=M2 at *;unfold kE;simp! only[List.set];intro d G;have K:=Y d G;have B3:Box2 p k M (updM M2 d (.lst [])) b:=X.ext (Ext.new G);have g3:updM M2 d (MO.lst []) d=some (.lst (nats [])):=aa;have r3:updM M2 d (MO.lst []) a=some (.lst (nats (List.range m))):=(Ext.new G) _ _ J;have U:d≠a:=λz=>by subst z;rw[G] at J;cases J
 have Lh:p≠a:=λz=>by subst z;exact A B
 have JE:p≠d:=λz=>by subst z;exact A K
 generalize updM M2 d (MO.lst [])=M3 at *;have D3:Drawn m (List.range m) []:=⟨List.nodup_range,λf hf=>by simpa using hf,by simp⟩;unfold kC;simp! only[List.set];refine⟨⟨by omega,by omega⟩,?_⟩;rw[bO];have u:∀(E:EndsD) (fs rs:Zo) (o:Z2) (l:Int) (M5:MH),Drawn m rs fs->0<rs.length->Box2 p k M M5 l->M5 d=some (.lst (nats fs))->M5 a=some (.lst (nats rs)) ->
   (∀w I j g,Drawn m I w->w.length=fs.length+1->Box2 p k M g j->g d=some (.lst (nats w))->g a=some (.lst (nats I))->E.nx [some (.ref p),some (.int (m:Int)),some (.ref a),some (.ref d),o] g) ->
   wSs cn c0 E [some (.ref p),some (.int (m:Int)),some (.ref a),some (.ref d),o] M5:=by
  intro E fs rs o l M5 n KU r t y kk;have J2:=n.len;unfold c0;simp! only[List.set,V,t,y,dh];refine⟨rfl,rfl,p,l,k,rs.length,rfl,r.at_,⟨KU,by omega⟩,λi j hi=>?_⟩;have L:=r.draw j;have O:updM M5 p (MO.lst [.int j,.int k]) d=some (.lst (nats fs)):=by rw[aw JE.symm];exact t
  have P:updM M5 p (MO.lst [.int j,.int k]) a=some (.lst (nats rs)):=by rw[aw Lh.symm];exact y
  generalize updM M5 p (MO.lst [.int j,.int k])=g at *;have hx:rs[i]?=some rs[i]:=ZE hi;generalize rs[i]=x at hx;have L0:(nats rs)[(i:Int).toNat]?=some (.int (x:Int)):=by unfold nats;rw[YZ,ZH,hx];rfl
  simp only[P,L0];refine⟨⟨by omega,by omega⟩,?_⟩;rw[YZ,rf];have B7:Box2 p k M (updM g a (.lst (nats (rs.eraseIdx i)))) j:=L.put B A;have g7:updM g a (MO.lst (nats (rs.eraseIdx i))) d=some (.lst (nats fs)):=by rw[aw U];exact O
  have r7:updM g a (MO.lst (nats (rs.eraseIdx i))) a=some (.lst (nats (rs.eraseIdx i))):=aa;generalize updM g a (MO.lst (nats (rs.eraseIdx i)))=M7 at *;simp only[g7,dh];refine⟨by omega,?_⟩;rw[show nats fs++[D.int (x:Int)]=nats (fs++[x]) by unfold nats;rw[ZO];rfl];exact kk (fs++[x]) (rs.eraseIdx i) j _ (n.pop hx) (by rw[ZN];rfl) (B7.put K A) aa (by rw[aw U.symm];exact r7)
 have R:∀(xs:Zo) (fs rs:Zo) (o:Z2) (l:Int) (M5:MH),fs.length+xs.length=m->Drawn m rs fs->Box2 p k M M5 l->M5 d=some (.lst (nats fs))->M5 a=some (.lst (nats rs)) ->
   au (λ_=>True) (.nm 4) (wSs cn c0) { nx:=wSs cn gu (fin Q),rt:=Q } (nats xs) [some (.ref p),some (.int (m:Int)),some (.ref a),some (.ref d),o] M5:=by
  intro xs;induction xs with
  |nil=>
   intro fs rs o l M5 hl n r t y;have hr:=n.len;obtain rfl:rs=[]:=List.length_eq_zero_iff.1 (by simp at hl;omega);obtain⟨C,hC⟩:=Drawn.chn n hm.1 hm.2;rw[show nats []=[] from rfl,au];unfold gu;simp! only[];exact q d fs M5 K r.but t C hC
  |cons x xs ih=>
   intro fs rs o l M5 hl n r t y;have hr:=n.len;rw[YM] at hl;rw[show nats (x::xs)=.int (x:Int)::nats xs from rfl,au];exact u _ fs rs _ l M5 n (by omega) r t y λw I j g D6 QU L O P=>⟨trivial,ih w I _ j g (by omega) D6 L O P⟩
 exact R (List.range m) [] (List.range m) none b M3 (by simp) D3 B3 g3 r3
end
def bZ:Ss:=#v[.ret (.cmp .Eq (.mu0 "runs" (.fn 0 #v[.fn 1 #v[.var 2,.var 4],.int 0])) (.var 5))]
def b0:Ss:=#v[.expr (.mt .append (.var 5) #v[.tup #v[.bin .Sub (.bin .Sub (.bin .LShift (.int 1) (.var 2)) (.int 1)) (.fn 2 #v[.sl2 (.var 3) (.yes (.int 1)) (.yes (.bin .Sub (.bin .Mult (.int 2) (.var 6)) (.int 2)))]),.fn 2 #v[.sl2 (.var 3) (.yes (.int 0)) (.yes (.bin .Sub (.bin .Mult (.int 2) (.var 6)) (.int 1)))]]])]
def iz:Ss:=.cons (.for (.nm 6) (.rg2 #v[.int 1,.bin .Add (.bi .max #v[.bin .FloorDiv (.bin .Add (.var 2) (.int 1)) (.int 2),.bin .Add (.bin .FloorDiv (.var 2) (.int 2)) (.int 1)]) (.int 1)]) b0) bZ
def iA:Ss:=.cons (.set 5 (.lst .nil)) iz
def iB:Ss:=.cons (.set 4 (.bin .Add (.lst #v[.tup #v[.ix (.var 3) (.int 0),.lst .nil]]) (.comp 1 (.tup #v[.ix (.var 3) (.bin .Add (.var 7) (.int 1)),.lst #v[.tup #v[.str "lack",.ix (.var 3) (.var 7)]]]) (.nm 7) (.rg1 #v[.bin .Sub (.var 2) (.int 1)]) .no))) iA
def iC:Ss:=.cons (.set 3 (.fn 3 #v[.lst #v[.var 1,.int 0],.var 2])) iB
def ir_law_long_good:Ss:=.cons (.set 2 (.bin .Add (.int 1) (.bin .Mod (.var 0) (.int 120)))) iC
def vL:Ss:=#v[.ret (.fn 0 #v[.fn 1 #v[.var 0,.int 3],.fn 1 #v[.var 0,.int 4]])]
def vM:Ss:=.cons (.ite (.cmp .NotEq (.mu0 "runs" (.fn 2 #v[.fn 3 #v[.int 0,.lst .nil],.int 0])) (.lst #v[.tup #v[.int 0,.int 0]])) #v[.ret (.bl false)] .nil) vL
def pI:Ss:=.cons (.ite (.or (.not (.val (.fn 4 #v[.var 5,.var 1,.var 8,.var 9]))) (.cmp .NotEq (.mu0 "runs" (.var 5)) (.var 6))) #v[.ret (.bl false)] .nil) vM
def vN:Ss:=.cons (.asg (.tp [8,9]) (.ix (.var 6) (.neg (.int 1)))) pI
def vO:Ss:=.cons (.expr (.mt .append (.var 7) #v[.int 0])) vN
def vP:Ss:=.cons (.ite (.or (.not (.val (.bi .isinst #v[.var 7,.ty "list"]))) (.not (.val (.fn 5 #v[.var 7,.var 6])))) #v[.ret (.bl false)] .nil) vO
def vQ:Ss:=.cons (.set 7 (.mu0 "runs" (.var 5))) vP
def vR:Ss:=.cons (.set 6 (.fn 6 #v[.var 2,.var 3])) vQ
def vS:Ss:=.cons (.expr (.mt .append (.var 4) #v[.tup #v[.int 0,.lst .nil]])) vR
def vT:Ss:=.cons (.set 5 (.fn 2 #v[.fn 3 #v[.var 1,.var 4],.var 3])) vS
def tG:Ss:=.cons (.setC 4 2 (.tup #v[.var 10,.bk .list #v[.var 11]]) (.tp [10,11]) (.seq (.var 2)) .no) vT
def tH:Ss:=.cons (.set 3 (.fn 7 #v[.var 0,.var 1])) tG
def tI:Ss:=.cons (.set 2 (.fn 8 #v[.var 0,.var 1,.int 3,.int 40])) tH
def ir_law:Ss:=.cons (.set 1 (.bin .Add (.int 1) (.bin .Mod (.fn 1 #v[.var 0,.int 0]) (.int 10)))) tI
def spLong:SpD:=λds M Q=>∃(i j:Int),ds=[.int i,.int j]/\∀M',Q (.bl true) M'
def spLaw:SpD:=λds M Q=>∃(a:Addr) (ns:Zn),ds=[.ref a]/\M a=some (.rol (ns.map .int))/\ns.length<=63/\∀M',Q (.bl true) M'
theorem vU(l:Zo)(lo hi:Zv):cutL (nats l) lo hi=nats (cutL l lo hi):=by
 unfold cutL nats;rw[ZG,List.map_take,List.map_drop]
theorem vV(l:Zo):eve (nats l)=nats (eve l):=xP _ l
theorem EM(l:Zo)(k:Nat)(a:0<k)(hl:0<l.length):eve (cutL l (some 1) (some ((2:Int)*(k:Int)-2)))=eve ((l.drop 1).take (2*k-3)):=by
 unfold cutL;rw[show(2:Int)*(k:Int)-2=((2*k-2:Nat):Int) by omega,show(1:Int)=((1:Nat):Int) from rfl,HT.gw,HT.gw,Nat.min_eq_left hl];congr 1;by_cases c:2*k-2<=l.length
 ·rw[Nat.min_eq_left c];congr 1
 ·rw[Nat.min_eq_right (by omega),XW (by rw[XA];omega),XW (by rw[XA];omega)]
theorem EN(l:Zo)(k:Nat)(a:0<k):eve (cutL l (some 0) (some ((2:Int)*(k:Int)-1)))=eve (l.take (2*k-1)):=by
 unfold cutL;rw[show(2:Int)*(k:Int)-1=((2*k-1:Nat):Int) by omega,show(0:Int)=((0:Nat):Int) from rfl,HT.gw,HT.gw,Nat.zero_min,List.drop_zero,Nat.sub_zero];congr 1;by_cases c:2*k-1<=l.length
 ·rw[Nat.min_eq_left c]
 ·rw[Nat.min_eq_right (by omega),XW (by omega),XW (by omega)]
theorem sm{l:Zo}{i f:Nat}(h:l[i]?=some f):atI (nats l) (i:Int)=some (.int (f:Int)):=dv (by unfold nats;rw[ZH,h];rfl)
theorem sn{f a c:Nat}{l:Zo}(h:f∈eve ((l.drop a).take c)):f∈l:=by
 obtain⟨j,h⟩:=lG.1 h;exact List.mem_of_mem_drop (List.mem_of_mem_take (List.mem_iff_getElem?.2 ⟨_,h⟩))
theorem Hc{pl:Zo}(C:Chn pl)(k:Nat):al (dueK pl k)=.tup [.int (((2 ^ pl.length:Nat):Int)-1-((setN (eve ((pl.drop 1).take (2*k-3))):Nat):Int)),.int ((setN (eve (pl.take (2*k-1))):Nat):Int)]:=by
 have a:Sub (oddS pl k) (2 ^ pl.length-1):=xQ (EK λf hf=>C.lt f (sn hf));have hp:=Nat.two_pow_pos pl.length;show D.tup [.int ((av (2 ^ pl.length-1) (oddS pl k):Nat):Int),_]=_;rw[←mr a,show((2 ^ pl.length-1:Nat):Int)=((2 ^ pl.length:Nat):Int)-1 by omega];rfl
theorem EO{M:MH}{g_:List D}{b_:Z1}{ps:Zu}{x:Nat×Nat}(h:aM M g_ b_)(e:g_=(ps++[x]).map al):False:=by
 have no:∀(y:Nat×Nat) (i:Int) (a:Addr),D.tup [.int i,.ref a]≠al y:=λy i a h=>by
  injection h with h
  have:=(List.cons.inj (List.cons.inj h).2).1
  cases this
 cases h with
 |nil=>cases ps<;>cases e
 |cons hd _=>
  obtain⟨a,rfl,_⟩:=hd;cases ps with
  |nil=>exact no _ _ _ (List.cons.inj e).1
  |cons y ps=>exact no _ _ _ (List.cons.inj e).1
theorem CD:Runs [] 0 0 [(0,0)]:=by
 refine⟨⟨by decide,by decide,λx hx=>nomatch hx⟩,by decide,by simp,⟨⟨?_,λi x y a h2=>?_⟩,λx hx=>?_⟩⟩
 ·decide
 ·cases i<;>cases h2
 ·cases hx;decide
section
variable {cn:Cn}{ds:List D}{M:MH}{Q:DK}{c:CA}{S Z:Addr}
theorem rd_long(hT:cn.T Z "runs" = some (lA Z))(f0:cn.F.getD 0 Yl=aW Z (bV c S Z))(f1:cn.F.getD 1 Yl=aW S (cR c S))(f2:cn.F.getD 2 Yl=cp)(f3:cn.F.getD 3 Yl=spPlaces)(h:spLong ds M Q):
  wSs cn ir_law_long_good (fin Q) (ad ["","","","","","",""] ds) M:=by
 obtain⟨i,j,rfl,q⟩:=h;show wSs cn ir_law_long_good (fin Q) [some (.int i),some (.int j),none,none,none,none,none] M;have hsz:(2000:Nat)<sizeLine:=by decide
 unfold ir_law_long_good;simp! only[List.set];refine⟨by decide,?_⟩;obtain⟨m,em,hm⟩:∃m:Nat,1+i%120=(m:Int)/\(0<m/\m<=120):=⟨(1+i%120).toNat,by omega,by omega,by omega⟩;rw[em];unfold iC;simp! only[List.set,f3];intro bx T8;refine⟨bx,j,0,m,rfl,aa,hm,λL pl M1 R9 b1 Y C hl=>?_⟩;subst hl;clear em;have MA:=C.pos;have ac:∀(k:Nat),k+1<pl.length->atI (nats pl) ((k:Int)+1)=some (.int ((pl.getD (k+1) 0:Nat):Int))/\atI (nats pl) (k:Int)=some (.int ((pl.getD k 0:Nat):Int)):=λk hk=>by
  have h1:pl[k+1]?=some (pl[k+1]'hk):=ZE hk;have h2:pl[k]?=some (pl[k]'(by omega)):=ZE (by omega);refine⟨?_,?_⟩
  ·rw[show(k:Int)+1=((k+1:Nat):Int) by omega,sm h1,cv h1]
  ·rw[sm h2,cv h2]
 have O6:atI (nats pl) 0=some (.int ((pl.getD 0 0:Nat):Int)):=by
  have h2:pl[0]?=some (pl[0]'MA):=ZE MA;rw[show(0:Int)=((0:Nat):Int) from rfl,sm h2,cv h2]
 unfold iB;simp! only[List.set,Y,O6];intro g Lo;have e2:Ext M1 (updM M1 g (.lst [])):=Ext.new Lo;have g2:updM M1 g (MO.lst []) g=some (.lst []):=aa;generalize updM M1 g (MO.lst [])=M2 at *;intro p1 JA;have e3:Ext M2 (updM M2 p1 (.lst [.tup [.int ((pl.getD 0 0:Nat):Int),.ref g]])):=Ext.new JA;have g3:updM M2 p1 (MO.lst [.tup [.int ((pl.getD 0 0:Nat):Int),.ref g]]) p1=some (.lst [.tup [.int ((pl.getD 0 0:Nat):Int),.ref g]]):=aa;generalize updM M2 p1 (MO.lst [.tup [.int ((pl.getD 0 0:Nat):Int),.ref g]])=M3 at *;refine⟨⟨by omega,by omega⟩,?_⟩;rw[show((pl.length:Nat):Int)-1=((pl.length-1:Nat):Int) by omega,bO];have mk:∀(F:List D->MH->Prop) (l:Zo) (g_:List D) (p:Z1) (v:Z2) (M5:MH),(∀k∈l,k+1<pl.length)->Ext M3 M5->aM M5 g_ p ->
   (∀V r,Ext M3 r->aM r V (p++l.map λk=>(pl.getD (k+1) 0,[CT.lck ((pl.getD k 0:Nat):Int)]))->F V r) ->
   aH (λ_=>True) (.nm 7) (λ_ M Q=>Q true M) (wE cn (.tup (.cons (.ix (.var 3) (.bin .Add (.var 7) (.int 1))) (.cons (.lst (.cons (.tup (.cons (.str "lack") (.cons (.ix (.var 3) (.var 7)) .nil))) .nil)) .nil)))) F (nats l) g_ [some (.int i),some (.int j),some (.int ((pl.length:Nat):Int)),some (.ref L),none,none,none,v] M5:=by
  intro F l;induction l with
  |nil=>
   intro g_ p v M5 _ B G h;rw[show nats []=[] from rfl,aH];rw[XC,ZA] at h;exact h g_ M5 B G
  |cons k l ih=>
   intro g_ p v M5 hk B G h;obtain⟨r1,r2⟩:=ac k (hk k YC);have g5:=B _ _ (e3 _ _ (e2 _ _ Y));rw[show nats (k::l)=.int (k:Int)::nats l from rfl,aH];simp! only[List.set,g5,r1,r2];intro w hw;have I:Ext M5 (updM M5 w (.lst [.tup [.str "lack",.int ((pl.getD k 0:Nat):Int)]])):=Ext.new hw;have g6:updM M5 w (MO.lst [.tup [.str "lack",.int ((pl.getD k 0:Nat):Int)]]) w=some (.lst (([CT.lck ((pl.getD k 0:Nat):Int)]:List CT).map CT.told)):=aa;generalize updM M5 w (MO.lst [.tup [.str "lack",.int ((pl.getD k 0:Nat):Int)]])=r at *;refine⟨trivial,ih _ (p++[(pl.getD (k+1) 0,[CT.lck ((pl.getD k 0:Nat):Int)])]) _ r (λz hz=>hk z (.tail _ hz)) (B.trans I) ?_ λV t W R7=>?_⟩
   ·exact a8 (G.ext I) (.cons ⟨w,rfl,g6⟩ .nil)
   ·refine h V t W ?_
    simpa using R7
 refine mk _ (List.range (pl.length-1)) [] [] none M3 (λk hk=>by rw[ZZ] at hk;omega) (Ext.refl _) .nil λg_ M5 B G=>?_
 intro p2 D_;rw[XG] at G;have I:Ext M5 (updM M5 p2 (.lst g_)):=Ext.new D_;have g6:updM M5 p2 (MO.lst g_) p2=some (.lst g_):=aa;generalize updM M5 p2 (MO.lst g_)=r at *;simp only[I _ _ (B _ _ g3),g6];have R6:aM r (.tup [.int ((pl.getD 0 0:Nat):Int),.ref g]::g_) (bG pl):=.cons ⟨g,rfl,I _ _ (B _ _ (e3 _ _ g2))⟩ (G.ext I);have O7:g_.length=pl.length-1:=by have:=jC G;rw[ZG,ZM] at this;exact this
 refine⟨by rw[O7];simp only[YM,YX];have:=C.few;omega,λy ID=>?_⟩;have W:Ext r (updM r y (.lst ([.tup [.int ((pl.getD 0 0:Nat):Int),.ref g]]++g_))):=Ext.new ID;have g7:updM r y (MO.lst ([.tup [.int ((pl.getD 0 0:Nat):Int),.ref g]]++g_)) y=some (.lst (.tup [.int ((pl.getD 0 0:Nat):Int),.ref g]::g_)):=aa;generalize updM r y (MO.lst ([.tup [.int ((pl.getD 0 0:Nat):Int),.ref g]]++g_))=t at *;have R7:=R6.ext W;have p7:t L=some (.lst (nats pl)):=W _ _ (I _ _ (B _ _ (e3 _ _ (e2 _ _ Y))));unfold iA;simp! only[List.set];intro o Q9;have e8:Ext t (updM t o (.lst [])):=Ext.new Q9;have g8:updM t o (MO.lst []) o=some (.lst (([]:List (Nat×Nat)).map al)):=aa;generalize updM t o (MO.lst [])=M8 at *;have Tl:=C.few;have U:∀(E:EndsD) (k:Nat) (ps:Zu) (b:MH),0<k->ps.length<=120->Ext t b->b o=some (.lst (ps.map al)) ->
   (∀d,Ext t d->d o=some (.lst ((ps++[dueK pl k]).map al))->E.nx [some (.int i),some (.int j),some (.int ((pl.length:Nat):Int)),some (.ref L),some (.ref y),some (.ref o),some (.int (k:Int))] d) ->
   wSs cn b0 E [some (.int i),some (.int j),some (.int ((pl.length:Nat):Int)),some (.ref L),some (.ref y),some (.ref o),some (.int (k:Int))] b:=by
  intro E k ps b hk Ko u A kk;unfold b0;simp! only[List.set,A,oE,wSl2,dSl2,u _ _ p7,rdL,f2];refine⟨rfl,⟨by omega,by omega,by decide⟩,.inl ⟨by decide,by decide⟩,λO QV=>?_⟩;rw[vU,vV,EM pl k hk C.pos];have J:Ext b (updM b O (.lst (nats (eve ((pl.drop 1).take (2*k-3)))))):=Ext.new QV;have ga:updM b O (MO.lst (nats (eve ((pl.drop 1).take (2*k-3))))) O=some (.lst (nats (eve ((pl.drop 1).take (2*k-3))))):=aa;generalize updM b O (MO.lst (nats (eve ((pl.drop 1).take (2*k-3)))))=d at *;refine⟨.ref O,_,d,rfl,.inr ⟨O,rfl,.inl ⟨ga,rfl⟩⟩,λf hf=>by have:=C.lt f (sn hf);omega,?_⟩;simp! only[dSl2,J _ _ (u _ _ p7),rdL];refine⟨.inl ⟨by decide,by decide⟩,λP Tn=>?_⟩;rw[vU,vV,EN pl k hk];have X:Ext d (updM d P (.lst (nats (eve (pl.take (2*k-1)))))):=Ext.new Tn;have gb:updM d P (MO.lst (nats (eve (pl.take (2*k-1))))) P=some (.lst (nats (eve (pl.take (2*k-1))))):=aa;generalize updM d P (MO.lst (nats (eve (pl.take (2*k-1)))))=Mb at *;refine⟨.ref P,_,Mb,rfl,.inr ⟨P,rfl,.inl ⟨gb,rfl⟩⟩,λf hf=>by have:=C.lt f (sn (a:=0) hf);omega,?_⟩;simp only[X _ _ (J _ _ A)];refine⟨by rw[ZG];omega,?_⟩;refine kk _ ((u.trans (J.trans X)).put Q9) ?_;rw[aa,ZO,YO,XC,Hc C k]
 have O8:∀(K:Z2) (b:MH),Ext t b->b o=some (.lst (((List.range (pl.length / 2+1)).map λj=>dueK pl (j+1)).map al))->wSs cn bZ (fin Q) [some (.int i),some (.int j),some (.int ((pl.length:Nat):Int)),some (.ref L),some (.ref y),some (.ref o),K] b:=by
  intro K b u A;unfold bZ;simp! only[List.set,f0,f1];intro sh Jm;have es:Ext b (updM b sh (.ins S [])):=Ext.new Jm;refine⟨sh,pl.length,y,_,bG pl,rfl,aa,es _ _ (u _ _ g7),(R7.ext u).ext es,C.ok,λd ba Sa=>⟨rfl,?_⟩⟩;have J:Ext b d:=ExtBut.ext es ba Jm;intro z hz;have ez:Ext d (updM d z (.ins Z [])):=Ext.new hz;refine⟨z,sh,pl.length,bG pl,0,rfl,aa,Sa.ext ez,by have:=C.ok.few;omega,by omega,Nat.two_pow_pos _,λps x Mb bb Zb R=>⟨rfl,?_⟩⟩;have X:Ext d Mb:=ExtBut.ext ez bb hz;obtain⟨zp,z1,z2⟩:=Zb.ex;simp only[z1,oF,hT];refine⟨trivial,z,pl.length,ps,x,rfl,Zb,λpn Mc HV ec gc=>?_⟩;have hr:=SQ.Runs.uniq (⟨C.ok,Nat.two_pow_pos _,by simp,R⟩:Runs (bG pl) pl.length 0 (ps++[x])) (za C);rw[hr] at gc;simp! only[gc,ec _ _ (X _ _ (J _ _ A)),rdL];refine⟨⟨SQ.bu _,SQ.bu _,by have:=SQ.fG ((List.range (pl.length / 2+1)).map λj=>dueK pl (j+1));omega⟩,?_⟩;rw[jn];exact q Mc
 have ap:∀(n k:Nat) (K:Z2) (b:MH),k+n=pl.length / 2+1->Ext t b->b o=some (.lst (((List.range k).map λj=>dueK pl (j+1)).map al)) ->
   au (λ_=>True) (.nm 6) (wSs cn b0) { nx:=wSs cn bZ (fin Q),rt:=Q } (nats (List.range' (k+1) n)) [some (.int i),some (.int j),some (.int ((pl.length:Nat):Int)),some (.ref L),some (.ref y),some (.ref o),K] b:=by
  intro n;induction n with
  |zero=>
   intro k K b hk u A;rw[Nat.add_zero] at hk;rw[hk] at A;rw[List.range'_zero,show nats []=[] from rfl,au];exact O8 K b u A
  |succ n ih=>
   intro k K b hk u A;rw[List.range'_succ,show nats ((k+1)::List.range' (k+1+1) n)=.int ((k+1:Nat):Int)::nats (List.range' (k+1+1) n) from rfl,au];refine U _ (k+1) _ b (by omega) (by rw[ZG,ZM];omega) u A λd J ga=>⟨trivial,ih (k+1) _ d (by omega) J ?_⟩
   simp only[ga,List.range_succ,ZO,YO,XC]
 unfold iz;simp! only[List.set];have hK:(if((pl.length:Nat):Int) / 2+1>(((pl.length:Nat):Int)+1) / 2 then((pl.length:Nat):Int) / 2+1 else(((pl.length:Nat):Int)+1) / 2)=((pl.length / 2+1:Nat):Int):=by
  split<;>omega
 have hr:a0 1 (((pl.length / 2+1:Nat):Int)+1)=nats (List.range' (0+1) (pl.length / 2+1)):=by
  unfold a0 nats;rw[List.range'_eq_map_range,ZP,show((((pl.length / 2+1:Nat):Int)+1)-1).toNat=pl.length / 2+1 by omega];refine ZQ λi _=>?_
  show D.int _=D.int _;congr 1
 rw[hK,hr];refine⟨?_,?_,⟨by decide,by decide,by omega,by omega⟩,ap (pl.length / 2+1) 0 none M8 (by omega) e8 g8⟩<;>exact⟨by decide,by omega⟩
theorem rd_law(hT:cn.T Z "runs" = some (lA Z))(f0:cn.F.getD 0 Yl=spLong)(f1:cn.F.getD 1 Yl=dm)(f2:cn.F.getD 2 Yl=aW Z (bV c S Z))(f3:cn.F.getD 3 Yl=aW S (cR c S))(f4:cn.F.getD 4 Yl=spAnswers Z)
  (f5:cn.F.getD 5 Yl=spSame) (f6:cn.F.getD 6 Yl=spDue) (f7:cn.F.getD 7 Yl=kr) (f8:cn.F.getD 8 Yl=ko) (h:spLaw ds M Q):wSs cn ir_law (fin Q) (ad ["","","","","","","","","",""] ds) M:=by
 obtain⟨a,ns,rfl,u,-,q⟩:=h;show wSs cn ir_law (fin Q) [some (.ref a),none,none,none,none,none,none,none,none,none] M;have hsz:(2000:Nat)<sizeLine:=by decide
 unfold ir_law;simp! only[List.set,f1];refine⟨a,ns,0,rfl,u,by decide,?_⟩;obtain⟨m,em,hm⟩:∃m:Nat,1+cellAt ns 0%10=(m:Int)/\(0<m/\m<=10):=by
  refine⟨(1+cellAt ns 0%10).toNat,?_,?_⟩<;>omega
 dsimp only;rw[em];unfold tI;simp! only[List.set,f8];refine⟨a,ns,m,3,40,rfl,u,⟨hm.1,by omega⟩,by decide,λp y_ b_ M1 b R1 ok hn e1=>?_⟩;have Tp:=e1 _ _ u;unfold tH;simp! only[List.set,f7];refine⟨a,ns,m,rfl,Tp,by omega,λtold ht=>?_⟩;have w:∀(F:List D->MH->Prop) (xs:List D) (G y:Z1) (g_:List D) (v2 v3:Z2) (M5:MH),aM M1 xs G->Ext M1 M5->aM M5 g_ y->(∀I f,Ext M1 f->aM f I (y++G)->F I f) ->
   aH (λM'=>M' p=some (.lst y_)) (.tp [10,11]) (λ_ M Q=>Q true M) (wE cn (.tup (.cons (.var 10) (.cons (.bk .list (.cons (.var 11) .nil)) .nil)))) F xs g_ [some (.ref a),some (.int (m:Int)),some (.ref p),some (.int (told:Int)),none,none,none,none,none,none,v2,v3] M5:=by
  intro F xs G y g_ v2 v3 M5 hx;induction hx generalizing y g_ v2 v3 M5 with
  |nil=>
   intro J h5 k;rw[aH];rw[ZA] at k;exact k g_ M5 J h5
  |@cons d x xs G hd _ ih=>
   intro J h5 k;obtain⟨q1,rfl,IX⟩:=hd;have Tq:=J _ _ IX;rw[aH];simp! only[List.set,dBk,dW,Tq,rdD,rdL];refine⟨rfl,λr g=>?_⟩;have l:=J.then (o:=MO.lst (x.2.map CT.told)) g;refine⟨l _ _ b,ih (y++[x]) _ _ _ _ l ?_ ?_⟩
   ·exact a8 (aM.ext (Ext.new g) h5) (.cons ⟨r,rfl,aa⟩ .nil)
   ·intro I f e h
    rw[ZC] at h;exact k I f e h
 unfold tG;simp! only[List.set,b];refine w _ y_ b_ [] [] none none M1 R1 (Ext.refl _) .nil λg_ f l A r g=>?_
 rw[XG] at A;have KS:M1 r=none:=l.free g;have e7:=l.then (o:=MO.lst g_) g;have K:updM f r (MO.lst g_) r=some (.lst g_):=aa;have A7:=A.ext (Ext.new (o:=MO.lst g_) g);generalize updM f r (MO.lst g_)=L at *;unfold vT;simp! only[List.set,f2,f3];intro sh n;have es:Ext L (updM L sh (.ins S [])):=Ext.new n;refine⟨sh,m,r,g_,b_,rfl,aa,es _ _ K,A7.ext es,ok,λM8 b8 S8=>⟨rfl,?_⟩⟩;have e8:Ext L M8:=ExtBut.ext es b8 n;intro z hz;have t:Ext M8 (updM M8 z (.ins Z [])):=Ext.new hz;refine⟨z,sh,m,b_,told,rfl,aa,S8.ext t,by omega,by omega,ht,λps x O b9 Z9 R=>⟨rfl,?_⟩⟩;have P:Ext L O:=e8.trans (ExtBut.ext t b9 hz);have Rn:Runs b_ m told (ps++[x]):=⟨ok,ht,by simp,R⟩;obtain⟨zp,B,U⟩:=Z9.ex;unfold vS;simp! only[List.set,P _ _ K];refine⟨rfl,λC Lo=>?_⟩;have j:Ext O (updM O C (.lst [])):=Ext.new Lo;generalize updM O C (MO.lst [])=Ma at *;have V:=j _ _ (P _ _ K);simp only[V];have O7:g_.length=b_.length:=jC A;refine⟨by rw[O7];have:=ok.few;omega,?_⟩;have eb:Ext M1 (updM Ma r (.lst (g_++[.tup [.int 0,.ref C]]))):=(e7.trans (P.trans j)).put KS;have zr:z≠r:=λh=>by
  have b:=j _ _ B;rw[h,V] at b;cases b
 have Q_:zp≠r:=λh=>by
  have b:=j _ _ U;rw[h,V] at b;exact EO A (by cases b;rfl)
 have Zb:SortAt Z (updM Ma r (.lst (g_++[.tup [.int 0,.ref C]]))) z m ps x:=⟨zp,by rw[aw zr];exact j _ _ B,by rw[aw Q_];exact j _ _ U⟩;generalize updM Ma r (MO.lst (g_++[.tup [.int 0,.ref C]]))=Mb at *;clear V zr Q_ j P Lo B U Z9 b9 t hz e8 S8 b8 es n K A7 e7 A l g;unfold vR;simp! only[List.set,f6];refine⟨p,m,y_,b_,told,rfl,eb _ _ b,R1.ext eb,ok,ht,λdu HL x' Mc T9 ec gc Rc Tr=>?_⟩;rw[SQ.Runs.uniq Rc Rn] at gc Tr;have Zc:=Zb.ext ec;obtain⟨zp,B,U⟩:=Zc.ex;unfold vQ;simp! only[List.set,B,oF,hT];refine⟨trivial,z,m,ps,x,rfl,Zc,λW Md Tt ed gd=>?_⟩;unfold vP;simp! only[List.set,tyD,tysD,gd,f5];refine⟨by decide,?_⟩;show Bif false _ _;rw[aF];refine⟨_,_,rfl,.inr (.inr ⟨W,du,_,rfl,rfl,gd,ed _ _ gc⟩),?_⟩;simp only[Bool.not_true,aF];unfold vO;simp! only[List.set,gd];refine⟨rfl,by rw[ZG];omega,?_⟩;have ee:Ext Mc (updM Md W (.lst ((ps++[x]).map al++[.int 0]))):=ed.put Tt;generalize updM Md W (MO.lst ((ps++[x]).map al++[.int 0]))=Me at *;have ge:=ee _ _ gc;have Ze:=Zc.ext ee;unfold vN;simp! only[List.set,ge,cF];refine⟨rfl,?_⟩;show wSs cn pI (fin Q) [some (.ref a),some (.int (m:Int)),some (.ref p),some (.int (told:Int)),some (.ref r),some (.ref z),some (.ref du),some (.ref W),some (.int (x.1:Int)),some (.int (x.2:Int))] Me;have hx:(ps++[x]).getLast?=some x:=mq ps x;have hg:=Cv hx;unfold pI;simp! only[List.set,f4];refine⟨z,m,ps,x,rfl,Ze,(Rn.step hg).2,(Rn.lt hg).1,by omega,λMf ef=>?_⟩;simp only[Bool.not_true,aF];have Zf:=Ze.ext ef;obtain⟨zq,y1,y2⟩:=Zf.ex;simp only[y1,oF,hT];refine⟨trivial,z,m,ps,x,rfl,Zf,λfq Mg T_ eg gg=>?_⟩;simp! only[gg,eg _ _ (ef _ _ ge),rdL];refine⟨⟨SQ.bu _,SQ.bu _,by have:=SQ.fG (ps++[x]);omega⟩,?_⟩;rw[jn];simp only[Bool.not_true,aF];have eM:Ext M Mg:=e1.trans (eb.trans (ec.trans (ee.trans (ef.trans eg))));unfold vM;simp! only[List.set,f2,f3];intro E J6;have eh:Ext Mg (updM Mg E (.lst [])):=Ext.new J6;have gh:updM Mg E (MO.lst []) E=some (.lst []):=aa;generalize updM Mg E (MO.lst [])=Mh at *;intro sh n;have es:Ext Mh (updM Mh sh (.ins S [])):=Ext.new n;have Ra:RowsOk 0 []:=⟨by decide,by decide,λx hx=>nomatch hx⟩;refine⟨sh,0,E,[],[],rfl,aa,es _ _ gh,.nil,Ra,λX bi Si=>⟨rfl,?_⟩⟩;have ei:Ext Mh X:=ExtBut.ext es bi n;intro z' IA;have t:Ext X (updM X z' (.ins Z [])):=Ext.new IA;refine⟨z',sh,0,[],0,rfl,aa,Si.ext t,by decide,by decide,by decide,λHr x2 Mj bj Zj Rj=>⟨rfl,?_⟩⟩;have ej:Ext X Mj:=ExtBut.ext t bj IA;obtain⟨zq,y1,y2⟩:=Zj.ex;simp only[y1,oF,hT];refine⟨trivial,z',0,Hr,x2,rfl,Zj,λfz Mk Ua ek gk=>?_⟩;have e0:=SQ.Runs.uniq (⟨Ra,by decide,by simp,Rj⟩:Runs [] 0 0 (Hr++[x2])) CD;rw[e0] at gk;simp! only[];intro Y Tu;have el:Ext Mk (updM Mk Y (.lst [.tup [.int 0,.int 0]])):=Ext.new Tu;have gl:updM Mk Y (MO.lst [.tup [.int 0,.int 0]]) Y=some (.lst (([(0,0)]:List (Nat×Nat)).map al)):=aa;generalize updM Mk Y (MO.lst [.tup [.int 0,.int 0]])=Ml at *;simp only[gl,el _ _ gk,rdL];refine⟨⟨SQ.bu _,SQ.bu _,by have:=SQ.fG [(0,0)];omega⟩,?_⟩;rw[jn];simp only[Bool.not_true,aF];have Rb:Ext M Ml:=eM.trans (eh.trans (ei.trans (ej.trans (ek.trans el))));unfold vL;simp! only[List.set,f0,f1];refine⟨a,ns,3,rfl,Rb _ _ u,?_⟩;refine⟨a,ns,4,rfl,Rb _ _ u,?_⟩;exact⟨_,_,rfl,q⟩
end
end SR
namespace K41
open PySem L2 DD
abbrev lJ:List Str:=["many","leanings","found","row","row_leaned","fact","lack"]
abbrev kF:List Str:=["many","leanings"]
theorem rp:FnScope lJ kF (af dz):=⟨rfl,rfl,rfl,by rfl',rfl,by rfl',by rfl'⟩
abbrev rq:List Str:=[]
theorem rz:bK ⟨lJ,af dz,true,dy,bltL,rq⟩ SH.cX (aG dz)=true:=by rfl'
abbrev oY:List Str:=["_law_thing","_law_part"]
abbrev gv:List Str:=["_law_thing"]
theorem nM:FnScope oY gv (af gW):=⟨rfl,rfl,rfl,by rfl',rfl,by rfl',by rfl'⟩
abbrev vW:List Str:=["_law_plain"]
theorem nN:bK ⟨oY,af gW,true,dy,bltL,vW⟩ SH.aY (aG gW)=true:=by rfl'
abbrev kG:List Str:=["_law_cell","_law_other","_law_many","_law_place","_law_rows_here","_law_due_here","_law_k"]
abbrev j6:List Str:=["_law_cell","_law_other"]
theorem pJ:FnScope kG j6 (af cV):=⟨rfl,rfl,rfl,by rfl',rfl,by rfl',by rfl'⟩
abbrev pK:List Str:=["Sorting","Sheet","_law_set","_law_places"]
theorem pL:bK ⟨kG,af cV,true,dy,bltL,pK⟩ SR.ir_law_long_good (aG cV)=true:=by rfl'
abbrev C2:List Str:=["_law_script","_law_many","_law_rows_here","_law_told_here","_law_handed","_law_sorting","_law_due_here","_law_found","_law_may","_law_have"]
abbrev Gw:List Str:=["_law_script"]
theorem Gx:FnScope C2 Gw (af qb):=⟨rfl,rfl,rfl,by rfl',rfl,by rfl',by rfl'⟩
abbrev Gy:List Str:=["_law_long_good","_law_cell_at","Sorting","Sheet","_law_answers","_law_same","_law_due","_law_told","_law_rows"]
theorem Gz:bK ⟨C2,af qb,true,dy,bltL,Gy⟩ SR.ir_law (aG qb)=true:=by rfl'
end K41
namespace K41
open PySem PySem.Spec PyProof.Rows L2 DD
theorem us0{P:List Value->Prop}(h:P []):∀us:List Value,us.length=0->P us
 |[],_=>h
theorem us1{P:List Value->Prop}(h:∀a,P [a]):∀us:List Value,us.length=1->P us
 |a::t,hl=>us0 (P:=λt=>P (a::t)) (h a) t (Nat.succ.inj hl)
 |[],hl=>nomatch hl
theorem us2{P:List Value->Prop}(h:∀a b,P [a,b]):∀us:List Value,us.length=2->P us
 |a::t,hl=>us1 (P:=λt=>P (a::t)) (h a) t (Nat.succ.inj hl)
 |[],hl=>nomatch hl
theorem us3{P:List Value->Prop}(h:∀a b c,P [a,b,c]):∀us:List Value,us.length=3->P us
 |a::t,hl=>us2 (P:=λt=>P (a::t)) (h a) t (Nat.succ.inj hl)
 |[],hl=>nomatch hl
theorem us4{P:List Value->Prop}(h:∀a b c d,P [a,b,c,d]):∀us:List Value,us.length=4->P us
 |a::t,hl=>us3 (P:=λt=>P (a::t)) (h a) t (Nat.succ.inj hl)
 |[],hl=>nomatch hl
theorem us5{P:List Value->Prop}(h:∀a b c d e,P [a,b,c,d,e]):∀us:List Value,us.length=5->P us
 |a::t,hl=>us4 (P:=λt=>P (a::t)) (h a) t (Nat.succ.inj hl)
 |[],hl=>nomatch hl
theorem us6{P:List Value->Prop}(h:∀a b c d e f,P [a,b,c,d,e,f]):∀us:List Value,us.length=6->P us
 |a::t,hl=>us5 (P:=λt=>P (a::t)) (h a) t (Nat.succ.inj hl)
 |[],hl=>nomatch hl
local macro_rules
 | `(tactic| ac_rfl) => `(tactic| exact ⟨rfl, rfl, rfl, by rfl', rfl, by rfl', by rfl'⟩)
abbrev nO(st:Stmt):List Str:=((af st).names.filter λp=>p.2==.local || p.2==.cell).map (·.1)
local macro_rules
 | `(tactic| ac_nf) => `(tactic| first | exact λ_ _ _ _ _ _ => us1 λ_ => rfl | exact λ_ _ _ _ _ _ => us2 λ_ _ => rfl | exact λ_ _ _ _ _ _ => us3 λ_ _ _ => rfl | exact λ_ _ _ _ _ _ => us4 λ_ _ _ _ => rfl | exact λ_ _ _ _ _ _ => us5 λ_ _ _ _ _ => rfl | exact λ_ _ _ _ _ _ => us6 λ_ _ _ _ _ _ => rfl)
local macro_rules
 | `(tactic| bv_omega) => `(tactic| (intro ds M Q h; first | (obtain ⟨_, e, _⟩ := h; subst e; rfl) | (obtain ⟨_, _, e, _⟩ := h; subst e; rfl) | (obtain ⟨_, _, _, e, _⟩ := h; subst e; rfl) | (obtain ⟨_, _, _, _, e, _⟩ := h; subst e; rfl) | (obtain ⟨_, _, _, _, _, e, _⟩ := h; subst e; rfl) | (obtain ⟨_, _, _, _, _, _, e, _⟩ := h; subst e; rfl) | (obtain ⟨_, _, _, _, _, _, _, e, _⟩ := h; subst e; rfl) | (obtain ⟨_, _, _, _, _, _, _, _, e, _⟩ := h; subst e; rfl) | (obtain ⟨_, _, _, _, _, _, _, _, _, e, _⟩ := h; subst e; rfl) | (obtain ⟨_, _, _, _, _, _, _, _, _, _, e, _⟩ := h; subst e; rfl) | (obtain ⟨_, _, _, _, _, _, _, _, _, _, _, e, _⟩ := h; subst e; rfl) | (obtain ⟨_, _, _, _, _, _, _, _, _, _, _, _, e, _⟩ := h; subst e; rfl) | (obtain ⟨_, _, _, _, _, _, _, _, _, _, _, _, _, e, _⟩ := h; subst e; rfl) | (obtain ⟨_, _, _, _, _, _, _, _, _, _, _, _, _, _, e, _⟩ := h; subst e; rfl)))
def metC(c:SH.CA):MT0:=λa m=>(SH.kindAt c a).bind λk=>if m = "carried" then some (SH.bz c k) else if m = "leaning" then some (SH.bA c k) else none
def metS(c:SH.CA)(S:Addr):MT0:=λa m=>if a=S then(if m = "how_many" then some (SH.ik c S) else if m = "rows_for" then some (SH.il c S) else if m = "rows_helped" then some (SH.dj c S) else if m = "head_of" then some (SH.gM c S) else if m = "conds_of" then some (SH.im c S) else none) else none
def A0(S:Addr):OK0:=λC f=>C=S/\f∈SH.ii
def ze(Z:Addr):OK0:=λC f=>C=Z/\f∈SH.kA
def metZ(Z:Addr):MT0:=λa m=>if a=Z then(if m = "true_facts" then some (SH.dZ Z) else if m = "open_facts" then some (SH.d2 Z) else if m = "false_facts" then some (SH.dq Z) else if m = "runs" then some (SH.lA Z) else if m = "answer_of" then some (SH.gt Z) else none) else none
theorem rA{Z:Addr}:metZ Z Z "true_facts" = some (SH.dZ Z):=by unfold metZ;rw[if_pos rfl];kernel_rfl
theorem rC{Z:Addr}:metZ Z Z "open_facts" = some (SH.d2 Z):=by unfold metZ;rw[if_pos rfl];kernel_rfl
theorem pM{Z:Addr}:metZ Z Z "false_facts" = some (SH.dq Z):=by unfold metZ;rw[if_pos rfl];kernel_rfl
theorem tJ{Z:Addr}:metZ Z Z "runs" = some (SH.lA Z):=by unfold metZ;rw[if_pos rfl];kernel_rfl
theorem sr{Z:Addr}:metZ Z Z "answer_of" = some (SH.gt Z):=by unfold metZ;rw[if_pos rfl];kernel_rfl
section
variable {P:ZS}{w:World}{K:Za}{mg:Zi}{base:Heap}{c:SH.CA}{S Z:Addr}{k:Nat}
theorem vX(h:c.apart)(t:SH.CT):metC c (c.at t.kind) "carried" = some (SH.bz c t.kind):=by
 unfold metC;rw[h _ t.kind_lt];rfl
theorem vY(h:c.apart)(t:SH.CT):metC c (c.at t.kind) "leaning" = some (SH.bA c t.kind):=by
 unfold metC;rw[h _ t.kind_lt];rfl
theorem tT:metS c S S "how_many" = some (SH.ik c S):=by unfold metS;rw[if_pos rfl];kernel_rfl
theorem tU:metS c S S "rows_for" = some (SH.il c S):=by unfold metS;rw[if_pos rfl];kernel_rfl
theorem pN:metS c S S "rows_helped" = some (SH.dj c S):=by unfold metS;rw[if_pos rfl];kernel_rfl
theorem nP:metS c S S "head_of" = some (SH.gM c S):=by unfold metS;rw[if_pos rfl];kernel_rfl
theorem tV:metS c S S "conds_of" = some (SH.im c S):=by unfold metS;rw[if_pos rfl];kernel_rfl
theorem A1{x:Str}{st:Stmt}{ps:Zk}{f:Addr}{fd:ZD}(a:IsDef K mg x st ps f fd):FnD P w K mg base k x (λ_ _ _=>False):=
 ⟨st,ps,f,fd,a,⟨λ_ _ _ _ ⟨_,_,_,_,_,z,_⟩=>z.elim,λ_ _ _ _ _ _ _ _ _ _ _ _ _ ⟨_,_,_,_,_,z,_⟩=>z.elim⟩⟩
theorem fnH{h:Heap}{x:Str}{st:Stmt}{N:Zk}{sp:SpD}{a:Ss}{glob blt fns:Zk}{cn:Cn}(A:HDef K x st){ps:Zk}(X:K.In h)(G:h.Ns mainGlobals mg)
  (hb:∀(kV A_ pm:Value) (an:Zr) (x_ ct:Value) (us:Zh),us.length=ps.length->bindArgs (PySem.W.fnOf x x (bh st) (aG st) (af st) .none kV A_ pm an x_ ct) ⟨us,[]⟩=pure (ps.zip us))
  (S:FnScope N ps (af st)) (nm:Names P w K mg base k glob blt fns cn) (hc:bK ⟨N,af st,true,glob,blt,fns⟩ a (aG st)=true) (len:∀ds M Q,sp ds M Q->ds.length=ps.length)
  (h':∀ds M Q,sp ds M Q->wSs cn a { nx:=λ_ M'=>Q .non M',rt:=Q } (ad N ds) M):FnD P w K mg base (k+1) x sp:=by
 obtain⟨_,_,A⟩:=A;exact u2 (A.def_ X G hb) S nm hc len h'
theorem bU{C:Addr}{m l_:Str}{st:Stmt}{ps N:Zk}{sp:SpD}{a:Ss}{glob blt fns:Zk}{cn:Cn}(cl:Cls K C)(A:bf K C m l_ st)(S:FnScope N ps (af st))(nm:Names P w K mg base k glob blt fns cn)
  (hb:∀(kV A_ pm:Value) (an:Zr) (x_ ct:Value) (us:Zh),us.length=ps.length->bindArgs (PySem.W.fnOf m l_ (bh st) (aG st) (af st) .none kV A_ pm an x_ ct) ⟨us,[]⟩=pure (ps.zip us))
  (hc:bK ⟨N,af st,true,glob,blt,fns⟩ a (aG st)=true) (len:∀ds M Q,sp ds M Q->ds.length=ps.length)
  (h:∀ds M Q,sp ds M Q->wSs cn a { nx:=λ_ M'=>Q .non M',rt:=Q } (ad N ds) M):aU P w K mg base (k+1) C m sp:=by
 obtain⟨_,_,A⟩:=A;exact Cf cl A S nm hb hc len h
theorem mkH{x:Str}{C:Addr}{l_:Str}{st:Stmt}{ps N:Zk}{sp:SpD}{a:Ss}{glob blt fns:Zk}{cn:Cn}(hx:mg x=some (.ref C))(hm:PySem.W.makesIn K C=true)(hk:PySem.W.keepIn K (.ref C)=true)(A:bf K C "__init__" l_ st)
  (S:FnScope N ps (af st)) (nm:Names P w K mg base k glob blt fns cn)
  (hb:∀(kV A_ pm:Value) (an:Zr) (x_ ct:Value) (us:Zh),us.length=ps.length->bindArgs (PySem.W.fnOf "__init__" l_ (bh st) (aG st) (af st) .none kV A_ pm an x_ ct) ⟨us,[]⟩=pure (ps.zip us))
  (hc:bK ⟨N,af st,true,glob,blt,fns⟩ a (aG st)=true) (len:∀ds M Q,sp ds M Q->ds.length=ps.length)
  (h:∀ds M Q,sp ds M Q->wSs cn a { nx:=λ_ M'=>Q .non M',rt:=Q } (ad N ds) M):cz P w K mg base (k+2) x (aW C sp):=by
 obtain⟨_,_,A⟩:=A;exact Gm hx hm hk A S nm hb hc len h
structure Env0 (K:Za) (mg:Zi) (c:SH.CA) (S Z:Addr):Prop where
 gl:∀(j:Nat) x,dy[j]?=some x->mZ K mg x (jb.getD j .non)
 bl:∀x,bltL.contains x=true->mg x=none
 cl:∀i,i<4->clsIn K (c.at i) SH.eL=true
 sh:clsIn K S SH.ii=true
 so:clsIn K Z SH.kA=true
theorem Env0.fl(E:Env0 K mg c S Z):∀C f,SH.fldO c C f->Cls K C/\bW K C f:=by
 rintro C f ⟨i,hi,rfl,hf⟩;exact⟨aI (E.cl i hi),o3 (E.cl i hi) hf⟩
theorem Env0.fs(E:Env0 K mg c S Z):∀C f,A0 S C f->Cls K C/\bW K C f:=by
 rintro C f ⟨rfl,hf⟩;exact⟨aI E.sh,o3 E.sh hf⟩
abbrev Fns(P:ZS)(w:World)(K:Za)(mg:Zi)(base:Heap)(k:Nat)(fns:Zk)(F:List SpD):Prop:=∀(j:Nat) (x:Str),fns[j]?=some x->∃k',k'<=k/\cz P w K mg base k' x (F.getD j λ_ _ _=>False)
theorem nm0{fns:Zk}{F:List SpD}(E:Env0 K mg c S Z)(hf:Fns P w K mg base k fns F):
 Names P w K mg base k dy bltL fns ⟨F,jb,SH.fldO c,λ_ _=>none,λ_ _=>none⟩:=⟨E.gl,E.bl,hf,E.fl,(λ_ _ _ z=>nomatch z),(λ_ _ _ z=>nomatch z)⟩
theorem nmO{fns:Zk}{F:List SpD}(E:Env0 K mg c S Z)(hf:Fns P w K mg base k fns F):
 Names P w K mg base k dy bltL fns ⟨F,jb,A0 S,λ_ _=>none,λ_ _=>none⟩:=⟨E.gl,E.bl,hf,E.fs,(λ_ _ _ z=>nomatch z),(λ_ _ _ z=>nomatch z)⟩
theorem nmC{fns:Zk}{F:List SpD}(E:Env0 K mg c S Z)(mt:∀C m sp,metC c C m=some sp->∃k',k'<=k/\aU P w K mg base k' C m sp)(hf:Fns P w K mg base k fns F):
 Names P w K mg base k dy bltL fns ⟨F,jb,SH.fldO c,metC c,λ_ _=>none⟩:=⟨E.gl,E.bl,hf,E.fl,mt,(λ_ _ _ z=>nomatch z)⟩
theorem nmS{fns:Zk}{F:List SpD}(E:Env0 K mg c S Z)(mt:∀C m sp,metS c S C m=some sp->∃k',k'<=k/\aU P w K mg base k' C m sp)(hf:Fns P w K mg base k fns F):
 Names P w K mg base k dy bltL fns ⟨F,jb,SH.fldO c,metS c S,λ_ _=>none⟩:=⟨E.gl,E.bl,hf,E.fl,mt,(λ_ _ _ z=>nomatch z)⟩
theorem cJ{T:MT0}{j:Nat}(h:j<=k)(mt:∀C m sp,T C m=some sp->∃k',k'<=j/\aU P w K mg base k' C m sp):∀C m sp,T C m=some sp->∃k',k'<=k/\aU P w K mg base k' C m sp:=λC m sp e=>let⟨k',h1,h2⟩:=mt C m sp e;⟨k',YA h1 h,h2⟩
theorem Env0.fz(E:Env0 K mg c S Z):∀C f,ze Z C f->Cls K C/\bW K C f:=by
 rintro C f ⟨rfl,hf⟩;exact⟨aI E.so,o3 E.so hf⟩
theorem nmZO{fns:Zk}{F:List SpD}(E:Env0 K mg c S Z)(hf:Fns P w K mg base k fns F):
 Names P w K mg base k dy bltL fns ⟨F,jb,ze Z,λ_ _=>none,λ_ _=>none⟩:=⟨E.gl,E.bl,hf,E.fz,(λ_ _ _ z=>nomatch z),(λ_ _ _ z=>nomatch z)⟩
theorem nmSZ{fns:Zk}{F:List SpD}(E:Env0 K mg c S Z)(mt:∀C m sp,metS c S C m=some sp->∃k',k'<=k/\aU P w K mg base k' C m sp)(hf:Fns P w K mg base k fns F):
 Names P w K mg base k dy bltL fns ⟨F,jb,ze Z,metS c S,λ_ _=>none⟩:=⟨E.gl,E.bl,hf,E.fz,mt,(λ_ _ _ z=>nomatch z)⟩
theorem nmZ{fns:Zk}{F:List SpD}(E:Env0 K mg c S Z)(mt:∀C m sp,metZ Z C m=some sp->∃k',k'<=k/\aU P w K mg base k' C m sp)(hf:Fns P w K mg base k fns F):
 Names P w K mg base k dy bltL fns ⟨F,jb,SH.fldO c,metZ Z,λ_ _=>none⟩:=⟨E.gl,E.bl,hf,E.fl,mt,(λ_ _ _ z=>nomatch z)⟩
theorem mx(i:Nat){n:Nat}(h:∀t:SH.CT,t.kind=i->t.flds.length+1=n){ps:Zk}(hp:ps.length=n):∀ds M Q,SH.bF c i ds M Q->ds.length=ps.length:=by
 rintro ds M Q ⟨a,t,hk,rfl,_⟩;rw[YM,ZG,h t hk,hp]
theorem GA(E:Env0 K mg c S Z)
  (y:c.apart)
  {hp:Heap}
  (X:K.In hp)
  (G:hp.Ns mainGlobals mg)
  {z:Addr}{A:ZD}(Ib:DefAt K "law" qb z A)
  (V:mg "Have" = some (.ref (c.at 0))) (Y:PySem.W.makesIn K (c.at 0)=true) (ME:PySem.W.keepIn K (.ref (c.at 0))=true)
  (MF:mg "Lack" = some (.ref (c.at 1))) (MG:PySem.W.makesIn K (c.at 1)=true) (MI:PySem.W.keepIn K (.ref (c.at 1))=true)
  (MJ:mg "Some" = some (.ref (c.at 2))) (MK:PySem.W.makesIn K (c.at 2)=true) (ML:PySem.W.keepIn K (.ref (c.at 2))=true)
  (MM:mg "Lead" = some (.ref (c.at 3))) (MN:PySem.W.makesIn K (c.at 3)=true) (MP:PySem.W.keepIn K (.ref (c.at 3))=true)
  (MQ:mg "Sheet" = some (.ref S)) (MR:PySem.W.makesIn K S=true) (MT:PySem.W.keepIn K (.ref S)=true)
  (MU:mg "Sorting" = some (.ref Z)) (MV:PySem.W.makesIn K Z=true) (MW:PySem.W.keepIn K (.ref Z)=true)
  (hy:Hyps K (c.at 0) (c.at 1) (c.at 2) (c.at 3) S Z):
  FnOk P w K mg base CX0 13 z A ["_law_script"] (fH K SR.spLaw):=by
 obtain⟨_,_,a_29⟩:=hy.a_29;have a:FnD P w K mg base 1 "has_fact" (SH.ci):=fnH hy.a_0 (N:=nO lQ) (ps:=(nO lQ).take 2) X G (by ac_nf) (by ac_rfl) (nm0 (F:=[]) (k:=0) E (ae (F:=[]))) (by rfl') (by bv_omega) (λds M Q h=>SH.wm h);have B:FnD P w K mg base 2 "count_in" (SH.jv):=fnH hy.a_1 (N:=nO lR) (ps:=(nO lR).take 2) X G (by ac_nf) (by ac_rfl) (nm0 (F:=[SH.ci]) (k:=1) E (ab (by decide) (.inl a) (ae (F:=[])))) (by rfl') (by bv_omega) (λds M Q h=>SH.wn rfl h);have Tv:FnD P w K mg base 2 "answer_in" (SH.jk):=fnH hy.a_2 (N:=nO kK) (ps:=(nO kK).take 3) X G (by ac_nf) (by ac_rfl) (nm0 (F:=[SH.ci]) (k:=1) E (ab (by decide) (.inl a) (ae (F:=[])))) (by rfl') (by bv_omega) (λds M Q h=>SH.vE rfl h);have O9:cz P w K mg base 2 "Have" (aW (c.at 0) (SH.bF c 0)):=mkH (N:=nO kO) (ps:=(nO kO).take 2) V Y ME hy.a_58 (by ac_rfl) (nm0 (F:=[]) (k:=0) E (ae (F:=[]))) (by ac_nf) (by rfl') (mx 0 (n:=2) (λt ht=>by cases t<;>first | rfl | cases ht) rfl) (λds M Q h=>SH.u6 rfl h);have O_:aU P w K mg base 2 (c.at 0) "carried" (SH.bz c 0):=bU (N:=nO gA) (ps:=(nO gA).take 3) (aI (E.cl 0 (by decide))) hy.a_59 (by ac_rfl) (nm0 (F:=[SH.ci]) (k:=1) E (ab (by decide) (.inl a) (ae (F:=[])))) (by ac_nf) (by rfl') (by bv_omega) (λds M Q h=>SH.qM rfl rfl h);have Pa:aU P w K mg base 1 (c.at 0) "leaning" (SH.bA c 0):=bU (N:=nO gB) (ps:=(nO gB).take 1) (aI (E.cl 0 (by decide))) hy.a_60 (by ac_rfl) (nm0 (F:=[]) (k:=0) E (ae (F:=[]))) (by ac_nf) (by rfl') (by bv_omega) (λds M Q h=>SH.qQ rfl h);have Pb:cz P w K mg base 2 "Lack" (aW (c.at 1) (SH.bF c 1)):=mkH (N:=nO kP) (ps:=(nO kP).take 2) MF MG MI hy.a_61 (by ac_rfl) (nm0 (F:=[]) (k:=0) E (ae (F:=[]))) (by ac_nf) (by rfl') (mx 1 (n:=2) (λt ht=>by cases t<;>first | rfl | cases ht) rfl) (λds M Q h=>SH.u7 rfl h);have Pc:aU P w K mg base 2 (c.at 1) "carried" (SH.bz c 1):=bU (N:=nO gC) (ps:=(nO gC).take 3) (aI (E.cl 1 (by decide))) hy.a_62 (by ac_rfl) (nm0 (F:=[SH.ci]) (k:=1) E (ab (by decide) (.inl a) (ae (F:=[])))) (by ac_nf) (by rfl') (by bv_omega) (λds M Q h=>SH.qN rfl rfl h);have Pd:aU P w K mg base 1 (c.at 1) "leaning" (SH.bA c 1):=bU (N:=nO gD) (ps:=(nO gD).take 1) (aI (E.cl 1 (by decide))) hy.a_63 (by ac_rfl) (nm0 (F:=[]) (k:=0) E (ae (F:=[]))) (by ac_nf) (by rfl') (by bv_omega) (λds M Q h=>SH.qR rfl h);have Pe:cz P w K mg base 2 "Some" (aW (c.at 2) (SH.bF c 2)):=mkH (N:=nO kQ) (ps:=(nO kQ).take 3) MJ MK ML hy.a_64 (by ac_rfl) (nm0 (F:=[]) (k:=0) E (ae (F:=[]))) (by ac_nf) (by rfl') (mx 2 (n:=3) (λt ht=>by cases t<;>first | rfl | cases ht) rfl) (λds M Q h=>SH.u8 rfl h);have Pf:aU P w K mg base 3 (c.at 2) "carried" (SH.bz c 2):=bU (N:=nO gE) (ps:=(nO gE).take 3) (aI (E.cl 2 (by decide))) hy.a_65 (by ac_rfl) (nm0 (F:=[SH.jv]) (k:=2) E (ab (by decide) (.inl B) (ae (F:=[])))) (by ac_nf) (by rfl') (by bv_omega) (λds M Q h=>SH.qO rfl rfl h);have Pg:aU P w K mg base 1 (c.at 2) "leaning" (SH.bA c 2):=bU (N:=nO gF) (ps:=(nO gF).take 1) (aI (E.cl 2 (by decide))) hy.a_66 (by ac_rfl) (nm0 (F:=[]) (k:=0) E (ae (F:=[]))) (by ac_nf) (by rfl') (by bv_omega) (λds M Q h=>SH.qS rfl h);have Ph:cz P w K mg base 2 "Lead" (aW (c.at 3) (SH.bF c 3)):=mkH (N:=nO kR) (ps:=(nO kR).take 3) MM MN MP hy.a_67 (by ac_rfl) (nm0 (F:=[]) (k:=0) E (ae (F:=[]))) (by ac_nf) (by rfl') (mx 3 (n:=3) (λt ht=>by cases t<;>first | rfl | cases ht) rfl) (λds M Q h=>SH.u9 rfl h);have Pj:aU P w K mg base 3 (c.at 3) "carried" (SH.bz c 3):=bU (N:=nO gG) (ps:=(nO gG).take 3) (aI (E.cl 3 (by decide))) hy.a_68 (by ac_rfl) (nm0 (F:=[SH.ci,SH.jv]) (k:=2) E (ab (by decide) (.inl a) (ab (by decide) (.inl B) (ae (F:=[]))))) (by ac_nf) (by rfl') (by bv_omega) (λds M Q h=>SH.qP rfl rfl rfl h);have Pk:aU P w K mg base 1 (c.at 3) "leaning" (SH.bA c 3):=bU (N:=nO gH) (ps:=(nO gH).take 1) (aI (E.cl 3 (by decide))) hy.a_69 (by ac_rfl) (nm0 (F:=[]) (k:=0) E (ae (F:=[]))) (by ac_nf) (by rfl') (by bv_omega) (λds M Q h=>SH.qT rfl h);have Pl:aU P w K mg base 1 S "how_many" (SH.ik c S):=bU (N:=nO eG) (ps:=(nO eG).take 1) (aI E.sh) hy.a_71 (by ac_rfl) (nmO (F:=[]) (k:=0) E (ae (F:=[]))) (by ac_nf) (by rfl') (by bv_omega) (λds M Q h=>SH.wx (λf hf=>⟨rfl,hf⟩) h);have Pm:aU P w K mg base 1 S "rows_for" (SH.il c S):=bU (N:=nO eI) (ps:=(nO eI).take 2) (aI E.sh) hy.a_72 (by ac_rfl) (nmO (F:=[]) (k:=0) E (ae (F:=[]))) (by ac_nf) (by rfl') (by bv_omega) (λds M Q h=>SH.wy (λf hf=>⟨rfl,hf⟩) h);have Pn:aU P w K mg base 1 S "rows_helped" (SH.dj c S):=bU (N:=nO cU) (ps:=(nO cU).take 2) (aI E.sh) hy.a_73 (by ac_rfl) (nmO (F:=[]) (k:=0) E (ae (F:=[]))) (by ac_nf) (by rfl') (by bv_omega) (λds M Q h=>SH.r9 (λf hf=>⟨rfl,hf⟩) h);have Po:aU P w K mg base 1 S "head_of" (SH.gM c S):=bU (N:=nO fJ) (ps:=(nO fJ).take 2) (aI E.sh) hy.a_74 (by ac_rfl) (nmO (F:=[]) (k:=0) E (ae (F:=[]))) (by ac_nf) (by rfl') (by bv_omega) (λds M Q h=>SH.yX (λf hf=>⟨rfl,hf⟩) h);have Pp:aU P w K mg base 1 S "conds_of" (SH.im c S):=bU (N:=nO eJ) (ps:=(nO eJ).take 2) (aI E.sh) hy.a_75 (by ac_rfl) (nmO (F:=[]) (k:=0) E (ae (F:=[]))) (by ac_nf) (by rfl') (by bv_omega) (λds M Q h=>SH.wz (λf hf=>⟨rfl,hf⟩) h);have Pq:aU P w K mg base 1 Z "true_facts" (SH.dZ Z):=bU (N:=nO cx) (ps:=(nO cx).take 1) (aI E.so) hy.a_92 (by ac_rfl) (nmZO (F:=[]) (k:=0) E (ae (F:=[]))) (by ac_nf) (by rfl') (by bv_omega) (λds M Q h=>SH.tR (λf hf=>⟨rfl,hf⟩) h);have Pr:aU P w K mg base 1 Z "open_facts" (SH.d2 Z):=bU (N:=nO cy) (ps:=(nO cy).take 1) (aI E.so) hy.a_94 (by ac_rfl) (nmZO (F:=[]) (k:=0) E (ae (F:=[]))) (by ac_nf) (by rfl') (by bv_omega) (λds M Q h=>SH.tS (λf hf=>⟨rfl,hf⟩) h);have Pt:aU P w K mg base 1 Z "false_facts" (SH.dq Z):=bU (N:=nO ck) (ps:=(nO ck).take 1) (aI E.so) hy.a_93 (by ac_rfl) (nmZO (F:=[]) (k:=0) E (ae (F:=[]))) (by ac_nf) (by rfl') (by bv_omega) (λds M Q h=>SH.si (λf hf=>⟨rfl,hf⟩) h);have Pu:aU P w K mg base 1 Z "runs" (SH.lA Z):=bU (N:=nO gJ) (ps:=(nO gJ).take 1) (aI E.so) hy.a_53 (by ac_rfl) (nmZO (F:=[]) (k:=0) E (ae (F:=[]))) (by ac_nf) (by rfl') (by bv_omega) (λds M Q h=>SH.EJ (λf hf=>⟨rfl,hf⟩) h);have Pw:aU P w K mg base 3 Z "answer_of" (SH.gt Z):=bU (N:=nO cT) (ps:=(nO cT).take 2) (aI E.so) hy.a_54 (by ac_rfl) (nmZO (F:=[SH.jk]) (k:=2) E (ab (by decide) (.inl Tv) (ae (F:=[])))) (by ac_nf) (by rfl') (by bv_omega) (λds M Q h=>SH.vF (λf hf=>⟨rfl,hf⟩) rfl h);have MC:∀C m sp,metC c C m=some sp->∃k',k'<=3/\aU P w K mg base k' C m sp:=by
  intro C m sp e;unfold metC at e;have at_:∀i,SH.kindAt c C=some i->C=c.at i/\i<4:=by
   intro i hi;unfold SH.kindAt at hi;split at hi
   ·cases hi;exact⟨by assumption,by decide⟩
   ·split at hi
    ·cases hi;exact⟨by assumption,by decide⟩
    ·split at hi
     ·cases hi;exact⟨by assumption,by decide⟩
     ·split at hi
      ·cases hi;exact⟨by assumption,by decide⟩
      ·cases hi
  cases q:SH.kindAt c C with
  |none=>rw[q] at e;cases e
  |some i=>
   rw[q] at e;obtain⟨rfl,hi⟩:=at_ i q;have e:(if m = "carried" then some (SH.bz c i) else if m = "leaning" then some (SH.bA c i) else none)=some sp:=e;have I:i=0\/i=1\/i=2\/i=3:=by omega
   split at e
   ·rename_i hm
    subst hm;cases e;rcases I with rfl | rfl | rfl | rfl
    ·exact⟨_,by decide,O_⟩
    ·exact⟨_,by decide,Pc⟩
    ·exact⟨_,by decide,Pf⟩
    ·exact⟨_,by decide,Pj⟩
   ·split at e
    ·rename_i hm
     subst hm;cases e;rcases I with rfl | rfl | rfl | rfl
     ·exact⟨_,by decide,Pa⟩
     ·exact⟨_,by decide,Pd⟩
     ·exact⟨_,by decide,Pg⟩
     ·exact⟨_,by decide,Pk⟩
    ·cases e
 have b:∀C m sp,metS c S C m=some sp->∃k',k'<=1/\aU P w K mg base k' C m sp:=by
  intro C m sp e;unfold metS at e;split at e
  ·rename_i o
   subst o;split at e
   ·rename_i hm;subst hm;cases e;exact⟨_,by decide,Pl⟩
   ·split at e
    ·rename_i hm;subst hm;cases e;exact⟨_,by decide,Pm⟩
    ·split at e
     ·rename_i hm;subst hm;cases e;exact⟨_,by decide,Pn⟩
     ·split at e
      ·rename_i hm;subst hm;cases e;exact⟨_,by decide,Po⟩
      ·split at e
       ·rename_i hm;subst hm;cases e;exact⟨_,by decide,Pp⟩
       ·cases e
  ·cases e
 have p:∀C m sp,metZ Z C m=some sp->∃k',k'<=3/\aU P w K mg base k' C m sp:=by
  intro C m sp e;unfold metZ at e;split at e
  ·rename_i o
   subst o;split at e
   ·rename_i hm;subst hm;cases e;exact⟨_,by decide,Pq⟩
   ·split at e
    ·rename_i hm;subst hm;cases e;exact⟨_,by decide,Pr⟩
    ·split at e
     ·rename_i hm;subst hm;cases e;exact⟨_,by decide,Pt⟩
     ·split at e
      ·rename_i hm;subst hm;cases e;exact⟨_,by decide,Pu⟩
      ·split at e
       ·rename_i hm;subst hm;cases e;exact⟨_,by decide,Pw⟩
       ·cases e
  ·cases e
 have J:FnD P w K mg base 1 "set_of" (SH.cp):=fnH hy.a_3 (N:=nO o4) (ps:=(nO o4).take 1) X G (by ac_nf) (by ac_rfl) (nm0 (F:=[]) (k:=0) E (ae (F:=[]))) (by rfl') (by bv_omega) (λds M Q h=>SH.tj h);have Tw:FnD P w K mg base 4 "all_carried" (SH.fT c):=fnH hy.a_4 (N:=nO iD) (ps:=(nO iD).take 3) X G (by ac_nf) (by ac_rfl) (nmC (F:=[]) (k:=3) E (cJ (by decide) MC) (ae (F:=[]))) (by rfl') (by bv_omega) (λds M Q h=>SH.r0 (vX y) h);have Tx:FnD P w K mg base 5 "carried_heads" (SH.cq c S):=fnH hy.a_5 (N:=nO fI) (ps:=(nO fI).take 4) X G (by ac_nf) (by ac_rfl) (nmS (F:=[SH.fT c]) (k:=4) E (cJ (by decide) b) (ab (by decide) (.inl Tw) (ae (F:=[])))) (by rfl') (by bv_omega) (λds M Q h=>SH.pF rfl nP tV h);have Tz:FnD P w K mg base 2 "helped_rows" (SH.dk c S):=fnH hy.a_6 (N:=nO iF) (ps:=(nO iF).take 3) X G (by ac_nf) (by ac_rfl) (nmS (F:=[SH.ci]) (k:=1) E (cJ (by decide) b) (ab (by decide) (.inl a) (ae (F:=[])))) (by rfl') (by bv_omega) (λds M Q h=>SH.se rfl pN nP h);have L:FnD P w K mg base 2 "members" (SH.fD):=fnH hy.a_7 (N:=nO m8) (ps:=(nO m8).take 1) X G (by ac_nf) (by ac_rfl) (nm0 (F:=[SH.ci]) (k:=1) E (ab (by decide) (.inl a) (ae (F:=[])))) (by rfl') (by bv_omega) (λds M Q h=>SH.yT rfl h);have TB:FnD P w K mg base 3 "all_rows" (SH.kn c S):=fnH hy.a_8 (N:=nO lS) (ps:=(nO lS).take 2) X G (by ac_nf) (by ac_rfl) (nmS (F:=[SH.fD]) (k:=2) E (cJ (by decide) b) (ab (by decide) (.inl L) (ae (F:=[])))) (by rfl') (by bv_omega) (λds M Q h=>SH.wJ rfl tU h);have TC:FnD P w K mg base 6 "ranked_among" (SH.ml c S):=fnH hy.a_9 (N:=nO gx) (ps:=(nO gx).take 4) X G (by ac_nf) (by ac_rfl) (nm0 (F:=[SH.cq c S,SH.dk c S,SH.cp,SH.kn c S,SH.fD]) (k:=5) E (ab (by decide) (.inl Tx) (ab (by decide) (.inl Tz) (ab (by decide) (.inl J) (ab (by decide) (.inl TB) (ab (by decide) (.inl L) (ae (F:=[])))))))) (by rfl') (by bv_omega) (λds M Q h=>SH.AV rfl rfl rfl rfl rfl h);have Px:FnD P w K mg base 7 "least_among" (SH.gm c S):=fnH hy.a_10 (N:=nO iE) (ps:=(nO iE).take 4) X G (by ac_nf) (by ac_rfl) (nm0 (F:=[SH.cp,SH.ml c S]) (k:=6) E (ab (by decide) (.inl J) (ab (by decide) (.inl TC) (ae (F:=[]))))) (by rfl') (by bv_omega) (λds M Q h=>SH.sf rfl rfl h);have Py:FnD P w K mg base 8 "next_pair" (SH.ji c S):=fnH hy.a_11 (N:=nO kL) (ps:=(nO kL).take 5) X G (by ac_nf) (by ac_rfl) (nm0 (F:=[SH.gm c S]) (k:=7) E (ab (by decide) (.inl Px) (ae (F:=[])))) (by rfl') (by bv_omega) (λds M Q h=>SH.vC rfl h);have Pz:FnD P w K mg base 9 "to_and_fro" (SH.jj c S):=fnH hy.a_12 (N:=nO jE) (ps:=(nO jE).take 5) X G (by ac_nf) (by ac_rfl) (nm0 (F:=[SH.ji c S]) (k:=8) E (ab (by decide) (.inl Py) (ae (F:=[])))) (by rfl') (by bv_omega) (λds M Q h=>SH.tQ rfl h);have PB:FnD P w K mg base 1 "all_facts" (SH.jg):=fnH hy.a_13 (N:=nO kI) (ps:=(nO kI).take 1) X G (by ac_nf) (by ac_rfl) (nm0 (F:=[]) (k:=0) E (ae (F:=[]))) (by rfl') (by bv_omega) (λds M Q h=>SH.vd h);have O:cz P w K mg base 11 "Sorting" (aW Z (SH.bV c S Z)):=mkH (N:=nO gI) (ps:=(nO gI).take 3) MU MV MW hy.a_86 (by ac_rfl) (nmSZ (F:=[SH.jj c S,SH.jg]) (k:=9) E (cJ (by decide) b) (ab (by decide) (.inl Pz) (ab (by decide) (.inl PB) (ae (F:=[]))))) (by ac_nf) (by rfl') (by bv_omega) (λds M Q h=>SH.rj (λf hf=>⟨rfl,hf⟩) tT rfl rfl h);have PC:FnD P w K mg base 1 "rows_by_help" (SH.fX):=fnH hy.a_14 (ps:=kF) X G (by ac_nf) rp (nm0 (F:=[]) (k:=0) E (ae (F:=[]))) rz (by bv_omega) (λds M Q h=>SH.q0 h);have PD:FnD P w K mg base 4 "row_leanings" (SH.cN c):=fnH hy.a_15 (N:=nO gy) (ps:=(nO gy).take 1) X G (by ac_nf) (by ac_rfl) (nmC (F:=[]) (k:=3) E (cJ (by decide) MC) (ae (F:=[]))) (by rfl') (by bv_omega) (λds M Q h=>SH.qW (vY y) h);have PF:FnD P w K mg base 1 "rows_by_head" (SH.fV):=fnH hy.a_16 (N:=nO gz) (ps:=(nO gz).take 2) X G (by ac_nf) (by ac_rfl) (nm0 (F:=[]) (k:=0) E (ae (F:=[]))) (by rfl') (by bv_omega) (λds M Q h=>SH.qZ h);have PH:FnD P w K mg base 3 "made_cond" (SH.qV c):=fnH hy.a_17 (N:=nO kJ) (ps:=(nO kJ).take 1) X G (by ac_nf) (by ac_rfl) (nm0 (F:=[aW (c.at 3) (SH.bF c 3),aW (c.at 2) (SH.bF c 2),aW (c.at 1) (SH.bF c 1),aW (c.at 0) (SH.bF c 0)]) (k:=2) E (ab (by decide) Ph (ab (by decide) Pe (ab (by decide) Pb (ab (by decide) O9 (ae (F:=[]))))))) (by rfl') (by bv_omega) (λds M Q h=>SH.Ez (c:=c) rfl h);have R:FnD P w K mg base 1 "is_whole" (SH.jx):=fnH hy.a_18 (N:=nO lO) (ps:=(nO lO).take 1) X G (by ac_nf) (by ac_rfl) (nm0 (F:=[]) (k:=0) E (ae (F:=[]))) (by rfl') (by bv_omega) (λds M Q h=>SH.wo h);have g:FnD P w K mg base 2 "is_below" (SH.cQ):=fnH hy.a_19 (N:=nO lP) (ps:=(nO lP).take 2) X G (by ac_nf) (by ac_rfl) (nm0 (F:=[SH.jx]) (k:=1) E (ab (by decide) (.inl R) (ae (F:=[])))) (by rfl') (by bv_omega) (λds M Q h=>SH.wp rfl h);have PJ:FnD P w K mg base 3 "is_listing" (SH.kc):=fnH hy.a_20 (N:=nO jF) (ps:=(nO jF).take 2) X G (by ac_nf) (by ac_rfl) (nm0 (F:=[SH.cQ]) (k:=2) E (ab (by decide) (.inl g) (ae (F:=[])))) (by rfl') (by bv_omega) (λds M Q h=>SH.tO (j:=2) rfl rfl h);have PK:FnD P w K mg base 2 "is_number" (SH.md):=fnH hy.a_21 (N:=nO kM) (ps:=(nO kM).take 1) X G (by ac_nf) (by ac_rfl) (nm0 (F:=[SH.jx]) (k:=1) E (ab (by decide) (.inl R) (ae (F:=[])))) (by rfl') (by bv_omega) (λds M Q h=>SH.vh (j:=1) rfl rfl h);have PL:FnD P w K mg base 4 "is_cond" (SH.me):=fnH hy.a_22 (N:=nO m9) (ps:=(nO m9).take 2) X G (by ac_nf) (by ac_rfl) (nm0 (F:=[SH.kc,SH.cQ,SH.md]) (k:=3) E (ab (by decide) (.inl PJ) (ab (by decide) (.inl g) (ab (by decide) (.inl PK) (ae (F:=[])))))) (by rfl') (by bv_omega) (λds M Q h=>SH.yU rfl rfl rfl h);have PM:FnD P w K mg base 5 "is_row" (SH.oz):=fnH hy.a_23 (N:=nO o5) (ps:=(nO o5).take 2) X G (by ac_nf) (by ac_rfl) (nm0 (F:=[SH.me,SH.cQ]) (k:=4) E (ab (by decide) (.inl PL) (ab (by decide) (.inl g) (ae (F:=[]))))) (by rfl') (by bv_omega) (λds M Q h=>SH.AH (j:=0) rfl rfl rfl h);have T:cz P w K mg base 7 "Sheet" (aW S (SH.cR c S)):=mkH (N:=nO jH) (ps:=(nO jH).take 3) MQ MR MT hy.a_70 (by ac_rfl) (nmO (F:=[SH.fX,SH.cN c,SH.fV,SH.qV c,SH.oz,SH.cQ]) (k:=5) E (ab (by decide) (.inl PC) (ab (by decide) (.inl PD) (ab (by decide) (.inl PF) (ab (by decide) (.inl PH) (ab (by decide) (.inl PM) (ab (by decide) (.inl g) (ae (F:=[]))))))))) (by ac_nf) (by rfl') (by bv_omega) (λds M Q h=>SH.tP (j:=3) (l:=4) (λf hf=>⟨rfl,hf⟩) rfl rfl rfl rfl rfl rfl rfl rfl h);have PN:FnD P w K mg base 1 "_law_set" (SH.cp):=fnH hy.a_24 (N:=nO ni) (ps:=(nO ni).take 1) X G (by ac_nf) (by ac_rfl) (nm0 (F:=[]) (k:=0) E (ae (F:=[]))) (by rfl') (by bv_omega) (λds M Q h=>SR.rd_law_set h);have r:FnD P w K mg base 1 "_law_draw" (SH.iw):=fnH hy.a_25 (N:=nO lT) (ps:=(nO lT).take 2) X G (by ac_nf) (by ac_rfl) (nm0 (F:=[]) (k:=0) E (ae (F:=[]))) (by rfl') (by bv_omega) (λds M Q h=>SH.ED h);have PQ:FnD P w K mg base 2 "_law_places" (SR.spPlaces):=fnH hy.a_26 (N:=nO jG) (ps:=(nO jG).take 2) X G (by ac_nf) (by ac_rfl) (nm0 (F:=[SH.iw]) (k:=1) E (ab (by decide) (.inl r) (ae (F:=[])))) (by rfl') (by bv_omega) (λds M Q h=>SR.rd_places rfl h);have PR:FnD P w K mg base 12 "_law_long_good" (SR.spLong):=fnH hy.a_27 (ps:=j6) X G (by ac_nf) pJ (nmZ (F:=[aW Z (SH.bV c S Z),aW S (SH.cR c S),SH.cp,SR.spPlaces]) (k:=11) E (cJ (by decide) p) (ab (by decide) O (ab (by decide) T (ab (by decide) (.inl PN) (ab (by decide) (.inl PQ) (ae (F:=[]))))))) pL (by bv_omega) (λds M Q h=>SR.rd_long tJ rfl rfl rfl rfl h);have u:FnD P w K mg base 1 "_law_cell_at" (SH.dm):=fnH hy.a_28 (N:=nO iG) (ps:=(nO iG).take 2) X G (by ac_nf) (by ac_rfl) (nm0 (F:=[]) (k:=0) E (ae (F:=[]))) (by rfl') (by bv_omega) (λds M Q h=>SH.y8 h);have PU:∀d,FnD P w K mg base (1+d) "_law_plain" (SH.fh d):=by
  intro d;induction d with
  |zero=>exact u2 (k:=0) (a_29.def_ (ps:=gv) X G (by ac_nf)) nM (nm0 (F:=[(λ_ _ _=>False)]) (k:=0) E (ab (by omega) (.inl (A1 (k:=0) (a_29.def_ (ps:=gv) X G (by ac_nf)))) (ae (F:=[])))) nN (by bv_omega) (λds M Q h=>SH.zb h)
  |succ d ih=>exact u2 (k:=1+d) (a_29.def_ (ps:=gv) X G (by ac_nf)) nM (nm0 (F:=[SH.fh d]) (k:=1+d) E (ab (YJ _) (.inl ih) (ae (F:=[])))) nN (by bv_omega) (λds M Q h=>SH.zc rfl h)
 have U:FnD P w K mg base 4 "_law_same" (SR.spSame):=fnH hy.a_30 (N:=nO lU) (ps:=(nO lU).take 2) X G (by ac_nf) (by ac_rfl) (nm0 (F:=[SH.fh 2]) (k:=3) E (ab (by decide) (.inl (PU 2)) (ae (F:=[])))) (by rfl') (by bv_omega) (λds M Q h=>SR.rd_same rfl h);have PV:FnD P w K mg base 5 "_law_answers" (SR.spAnswers Z):=fnH hy.a_31 (N:=nO iI) (ps:=(nO iI).take 4) X G (by ac_nf) (by ac_rfl) (nmZ (F:=[SR.spSame]) (k:=4) E (cJ (by decide) p) (ab (by decide) (.inl U) (ae (F:=[])))) (by rfl') (by bv_omega) (λds M Q h=>SR.rd_answers rA rC pM sr rfl h);have PX:FnD P w K mg base 1 "_law_carried" (SH.gp):=fnH hy.a_32 (N:=nO iH) (ps:=(nO iH).take 3) X G (by ac_nf) (by ac_rfl) (nm0 (F:=[]) (k:=0) E (ae (F:=[]))) (by rfl') (by bv_omega) (λds M Q h=>SH.sg h);have PY:FnD P w K mg base 2 "_law_met" (SH.mo):=fnH hy.a_33 (N:=nO ng) (ps:=(nO ng).take 3) X G (by ac_nf) (by ac_rfl) (nm0 (F:=[SH.gp]) (k:=1) E (ab (by decide) (.inl PX) (ae (F:=[])))) (by rfl') (by bv_omega) (λds M Q h=>SH.y9 rfl h);have PZ:FnD P w K mg base 3 "_law_least" (SH.jl):=fnH hy.a_34 (N:=nO kN) (ps:=(nO kN).take 3) X G (by ac_nf) (by ac_rfl) (nm0 (F:=[SH.mo]) (k:=2) E (ab (by decide) (.inl PY) (ae (F:=[])))) (by rfl') (by bv_omega) (λds M Q h=>SH.vG rfl h);have P0:FnD P w K mg base 4 "_law_due" (SR.spDue):=fnH hy.a_35 (N:=nO nh) (ps:=(nO nh).take 2) X G (by ac_nf) (by ac_rfl) (nm0 (F:=[SH.jl]) (k:=3) E (ab (by decide) (.inl PZ) (ae (F:=[])))) (by rfl') (by bv_omega) (λds M Q h=>SR.rd_due rfl h);have P1:FnD P w K mg base 2 "_law_told" (SH.kr):=fnH hy.a_36 (N:=nO lX) (ps:=(nO lX).take 2) X G (by ac_nf) (by ac_rfl) (nm0 (F:=[SH.dm]) (k:=1) E (ab (by decide) (.inl u) (ae (F:=[])))) (by rfl') (by bv_omega) (λds M Q h=>SH.wQ rfl h);have P2:FnD P w K mg base 2 "_law_cond" (SH.iy):=fnH hy.a_37 (N:=nO lV) (ps:=(nO lV).take 2) X G (by ac_nf) (by ac_rfl) (nm0 (F:=[SH.iw]) (k:=1) E (ab (by decide) (.inl r) (ae (F:=[])))) (by rfl') (by bv_omega) (λds M Q h=>SH.wN rfl h);have P4:FnD P w K mg base 3 "_law_rows" (SH.ko):=fnH hy.a_38 (N:=nO lW) (ps:=(nO lW).take 4) X G (by ac_nf) (by ac_rfl) (nm0 (F:=[SH.iw,SH.iy,SH.dm]) (k:=2) E (ab (by decide) (.inl r) (ab (by decide) (.inl P2) (ab (by decide) (.inl u) (ae (F:=[])))))) (by rfl') (by bv_omega) (λds M Q h=>SH.wO rfl rfl rfl h);exact u3 (Ib.fun_) Gx (nmZ (F:=[SR.spLong,SH.dm,aW Z (SH.bV c S Z),aW S (SH.cR c S),SR.spAnswers Z,SR.spSame,SR.spDue,SH.kr,SH.ko]) (k:=12) E (cJ (by decide) p) (ab (by decide) (.inl PR) (ab (by decide) (.inl u) (ab (by decide) O (ab (by decide) T (ab (by decide) (.inl PV) (ab (by decide) (.inl U) (ab (by decide) (.inl P0) (ab (by decide) (.inl P1) (ab (by decide) (.inl P4) (ae (F:=[])))))))))))) Gz (by bv_omega) (λds M Q h=>SR.rd_law tJ rfl rfl rfl rfl rfl rfl rfl rfl rfl h)
end
theorem CF{a b d e:Addr}(h:(decide (a≠b)&&decide (a≠d)&&decide (a≠e)&&decide (b≠d)&&decide (b≠e)&&decide (d≠e))=true):SH.CA.apart ⟨a,b,d,e⟩:=by
 simp only[XB,XU] at h;obtain⟨⟨⟨⟨⟨c,h2⟩,f⟩,g⟩,j⟩,l⟩:=h;intro k hk;have m:k=0\/k=1\/k=2\/k=3:=by omega
 rcases m with rfl | rfl | rfl | rfl
 ·show(if a=a then some 0 else if a=b then some 1 else if a=d then some 2 else if a=e then some 3 else none)=some 0
  rw[if_pos rfl]
 ·show(if b=a then some 0 else if b=b then some 1 else if b=d then some 2 else if b=e then some 3 else none)=some 1
  rw[if_neg (λz=>c z.symm),if_pos rfl]
 ·show(if d=a then some 0 else if d=b then some 1 else if d=d then some 2 else if d=e then some 3 else none)=some 2
  rw[if_neg (λz=>h2 z.symm),if_neg (λz=>g z.symm),if_pos rfl]
 ·show(if e=a then some 0 else if e=b then some 1 else if e=d then some 2 else if e=e then some 3 else none)=some 3
  rw[if_neg (λz=>f z.symm),if_neg (λz=>j z.symm),if_neg (λz=>l z.symm),if_pos rfl]
theorem all4{p:Nat->Prop}(b:p 0)(c:p 1)(h2:p 2)(d:p 3):∀i,i<4->p i:=by
 intro i hi;have a:i=0\/i=1\/i=2\/i=3:=by omega
 rcases a with rfl | rfl | rfl | rfl<;>assumption
theorem GB:t7 63 SR.spLaw:=λa ns hl=>⟨a,ns,rfl,by unfold nX;rw[if_pos rfl],hl,λ_=>rfl⟩
theorem GC:CP SR.spLaw:=by
 intro l w K h mg y cH cL cS cD S Z X G o p gl bl r JQ JR JS JT JU JV JW JX JY JZ J0 z n Ib hy;have b:=JQ;simp only[XB] at b;have d:=JS;simp only[XB] at d;have f:=JU;simp only[XB] at f;have g:=JW;simp only[XB] at g;have j:=JY;simp only[XB] at j;have m:=J0;simp only[XB] at m;have E:Env0 K mg ⟨cH,cL,cS,cD⟩ S Z:=⟨qa X G gl,zT X G bl,all4 b.1.1 d.1.1 f.1.1 g.1.1,j.1.1,m.1.1⟩;have t:∀(s:Shared) (v:Value),BindsTo s n ⟨[v],[]⟩ [("_law_script",v)]:=by
  obtain⟨oc,od,an,Hl,kV,A_,pm,x_,ct,a,rfl,l,c,k⟩:=Ib.ex;exact λs v=>.of_eq rfl
 have u:=Ib.def_ (ps:=["_law_script"]) X G λ_ _ _ _ _ _=>us1 λ_=>rfl
 have e:=o.symm.trans u.mgf;cases e;exact⟨n,t,λbase _ _=>GA (c:=⟨cH,cL,cS,cD⟩) (S:=S) (Z:=Z) E (CF p) X G Ib (PySem.W.mg_of X G r) b.1.2 b.2 (PySem.W.mg_of X G JR) d.1.2 d.2 (PySem.W.mg_of X G JT) f.1.2 f.2 (PySem.W.mg_of X G JV) g.1.2 g.2 (PySem.W.mg_of X G JX) j.1.2 j.2 (PySem.W.mg_of X G JZ) m.1.2 m.2 hy⟩
end K41
open PySem PySem.W PyProof.Rows L2 DD
theorem PySem.Challenge.cw_notring_k41_sorted_by_rounds_holds : PySem.Challenge.rw_notring_k41_sorted_by_rounds.Holds := by
  exact K41.over K41.GB K41.GC
#print axioms PySem.Challenge.cw_notring_k41_sorted_by_rounds_holds
