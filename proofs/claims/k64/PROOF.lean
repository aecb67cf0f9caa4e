import PyProof.Rows.All
import Wide.All
import KE.KDictOf
import KE.KFromBytes
import KE.LcTurns
import KE.KIsAll
import KE.KItem
import Wide.FinOn
import KE.KNestM
import PySem.Challenge.RW_notring_k64_other_trees
import Lean
import PyProof.EqAt
import PyProof.EqKinds
import PyProof.TupleCall
import PyProof.DictIter
import PyProof.DictWalks
import PyProof.NeKinds
import PyProof.Rows.SetFrom
import PyProof.SetRoads
import PyProof.WalksMore
import PyProof.TupleIter
import PyProof.SumAnyB
import PyProof.Conv_int
import PyProof.Conv_int_bool
import PyProof.ListRange
import PyProof.DictTruth
import PyProof.Rows.SortWalk
import PyProof.EnumMake
import PyProof.EnumIter
import PyProof.EnumFor
import PyProof.EnumStmt
import PyProof.Draws
import PyProof.Rows.CallKwBuiltin
import PyProof.DefCall
import KE.BitLaws
set_option compiler.extract_closed false
set_option Elab.async false
set_option maxRecDepth 100000
set_option maxHeartbeats 4000000
local macro_rules
 |`(tactic|omega)=>`(tactic|first|assumption|lia|omega (splitDisjunctions:=true))
set_option hygiene false
set_option bootstrap.genMatcherCode false
set_option genSizeOfSpec false
local macro_rules
 |`(command|def $i:declId $s:optDeclSig $v:declVal)=>`(command|noncomputable def $i:declId $s:optDeclSig $v:declVal)
 |`(command|abbrev $i:declId $s:optDeclSig $v:declVal)=>`(command|noncomputable abbrev $i:declId $s:optDeclSig $v:declVal)
def Yb:=@PySem.wpAny_bind
def Yc:=@PySem.wpAny_pure
def Yd:=@PySem.Heap.get?_push_of_some
def Ye:=@PySem.Heap.lt_size
def Yg:=@PySem.Heap.get?_push_size
def Yh:=@False.elim
def Yi:=@Option.some.inj
def Yj:=@PySem.wpAny_holding
def Yk:=@PySem.wpAny_standAt
abbrev Za:=PySem.W.Frag
abbrev Zb:=PySem.Value->PySem.Shared->Prop
abbrev Zc:=List (PySem.Addr×PySem.Obj)
abbrev Zd:=List PySem.Value
abbrev Ze:=PySem.Str->Option PySem.Value
abbrev Zf:=List PySem.Str
abbrev Zg:=List PySem.Expr
abbrev Zh:=List PySem.Addr
abbrev Zi:=List Int
abbrev Zj:=List Nat
abbrev Zk:=PySem.Value->PySem.Value->PySem.Sem PySem.Value
abbrev Zl:=Array PySem.Value
abbrev Zm:=Option PySem.Addr
abbrev Zn:=Array (Option PySem.Value)
abbrev Zo:=Unit->PySem.Shared->Prop
abbrev Zp:=List (Nat×Nat)
abbrev Zq:=Option Int
abbrev Zr:=List (PySem.Str×PySem.Addr)
abbrev Zs:=List (Bool×Int)
abbrev Zt:=List (List PySem.Addr)
abbrev Zu:=List PySem.Stmt
abbrev Zv:=PySem.FuncData
abbrev Zw:=PySem.Program
abbrev Zx:=Option PySem.Value
local macro_rules
  | `(tactic| rfl') => `(tactic| decide +kernel)
def XA:=@Array.getElem?_toList
theorem XB{α}(l:List α):[]++l=l:=rfl
def XC:=@List.find?_cons
def XD:=@List.any_cons
def XE:=@Nat.lt_of_le_of_lt
def XF:=@beq_self_eq_true
def XG:=@Bool.false_eq_true
def XH:=@List.lookup_cons
def XI:=@List.all_eq_true
def XJ:=@List.getElem_mem
def XM:=@of_decide_eq_true
def XN:=@List.all_cons
def XO:=@decide_eq_true_eq
def XQ:=@List.eq_nil_of_length_eq_zero
def XR:=@Bool.not_eq_true'
def XS:=@List.filter_cons
def XT:=@List.mem_map
def XU:=@List.mem_of_mem_take
def XV:=@List.getD_cons_zero
def XW:=@List.getD_cons_succ
def XX:=@Nat.testBit_and
def XY:=@Nat.eq_of_testBit_eq
def XZ:=@Nat.testBit_or
def YA:=@List.mem_append
def YB:=@List.getElem?_eq_some_iff
def YC:=@Bool.false_ne_true
theorem YD(b):(false&&b)=false:=rfl
def YE:=@Nat.le_refl
def YF:=@List.mem_append_right
def YG:=@List.size_toArray
theorem YH{α}{a:α}{l}:(a::l).length=l.length+1:=rfl
theorem YJ{α β}{f:α→β}{a l}:(a::l).map f=f a::l.map f:=rfl
def YK:=@Nat.lt_succ_self
def YL:=@Nat.zero_le
def YM:=@Nat.le_succ
def YN:=@List.nodup_cons
def YR:=@List.length_take
def YS:=@List.mem_of_getElem?
theorem YT{α}:([]:List α).length=0:=rfl
def YU:=@decide_eq_true
def YV:=@Int.toNat_natCast
def YW:=@List.length_drop
def YX:=@Bool.and_eq_true
def YY:=@List.replicate_succ
def YZ:=@List.flatten_cons
def ZA:=@List.append_nil
def ZB:=@List.append_assoc
def ZD:=@List.getElem?_eq_getElem
def ZE:=@List.getElem?_append_left
def ZF:=@List.length_map
def ZG:=@List.getElem?_map
def ZH:=@List.getElem?_append_right
def ZI:=@List.length_range
def ZJ:=@List.length_append
def ZK:=@List.map_append
def ZL:=@List.map_map
def ZM:=@List.map_congr_left
def ZN:=@Option.map_eq_some_iff
def ZP:=@decide_eq_false
def ZQ:=@beq_eq_false_iff_ne
def ZR:=@Nat.lt_of_lt_of_le
def ZS:=@Nat.lt_irrefl
def ZT:=@Nat.ne_of_lt
def ZU:=@List.mem_filter
def ZV:=@List.mem_range
def ZW:=@Nat.le_trans
def ZX:=@List.mem_cons_self
def ZY:=@List.mem_cons_of_mem
def ZZ:=@List.mem_cons
namespace TopT
open PySem PySem.W PyProof.Rows
def mG:List Obj->Nat->BT->Option (BT×Nat)
 |[],n,T=>some (T,n)
 |o::r,n,T=>match((T.ins n o).get n).isSome with
  |true=>mG r (n+1) (T.ins n o)
  |false=>none
theorem wa(a:Life):∀{os:List Obj}{n n':Nat}{T b:BT},mG os n T=some (b,n')->absHeap b n' a=⟨((absHeap T n a).objs.toList++os).toArray,a⟩
 |[],n,n',T,b,h=>by
  cases h;rw[ZA];rfl
 |o::r,n,n',T,b,h=>by
  unfold mG at h;cases g:((T.ins n o).get n).isSome with
  |false=>rw[g] at h;cases h
  |true=>
   rw[g] at h;have c:=wa a (os:=r) h;rw[c,absHeap_ins g];show Heap.mk (((absHeap T n a).objs.push o).toList++r).toArray a=_;rw[Array.toList_push,ZB];rfl
def rG(b:String->Option Builtin)(p:Zw)(w:World)(c:Nat)(a:Zx):Nat->SharedT->Thread->Option SharedT
 |0,_,_=>none
 |n+1,s,t=>match through t with
  |true=>some s
  |false=>match stepOk c a t with
   |false=>none
   |true=>match stepT (denote b) p w s t with
    |some (d,t')=>rG b p w c a n d t'
    |none=>none
theorem wb{b:String->Option Builtin}{p:Zw}{w:World}{c:Nat}{a:Zx}:∀{n:Nat}{s d:SharedT}{t:Thread},rG b p w c a n s t=some d->topRun b p w c a n s.abs t=some d.abs
 |0,_,_,_,h=>by cases h
 |n+1,s,d,t,h=>by
  unfold rG at h;unfold topRun;cases ht:through t with
  |true=>rw[ht] at h;cases h;rfl
  |false=>
   rw[ht] at h;cases hk:stepOk c a t with
   |false=>rw[hk] at h;cases h
   |true=>
    rw[hk] at h;cases hs:stepT (denote b) p w s t with
    |none=>rw[hs] at h;cases h
    |some x=>
     obtain⟨s2,f⟩:=x;rw[hs] at h
     have:=stepT_spec hs
     simp only[this];exact wb h
def BF(s:SharedT)(a:Addr):Option Obj:=match Nat.blt a s.n with
 |true=>alive ((s.tree.get a).getD default)
 |false=>none
theorem HS(s:SharedT)(a:Addr):s.abs.heap.get? a=BF s a:=by
 show(absHeap s.tree s.n s.life).get? a=_;unfold BF Heap.get?;rw[absHeap_at];cases e:Nat.blt a s.n with
 |true=>
  have lt:a<s.n:=Nat.le_of_ble_eq_true e;rw[if_pos lt];obtain⟨c,d,b,sl⟩:=(s.tree.get a).getD default;cases b<;>rfl
 |false=>
  have f:¬a<s.n:=λh=>by
   have:Nat.blt a s.n=true:=Nat.ble_eq_true_of_le h
   rw[this] at e;cases e
  rw[if_neg f]
def Hg:BT->BT
 |.nil=>.nil
 |.node _ l _=>l
def Hh:BT->BT
 |.nil=>.nil
 |.node _ _ r=>r
def rt:BT->Obj
 |.nil=>default
 |.node v _ _=>v
def t5(ts:List BT)(m i:Nat):Obj:=(((ts[i%m]?).getD .nil).get (i / m)).getD default
def lv:Nat->List BT->Nat->Nat->List Obj
 |0,ts,m,n=>(List.range n).map (t5 ts m)
 |k+1,ts,m,n=>match Nat.ble n m with
  |true=>(ts.take n).map rt
  |false=>ts.map rt++lv k (ts.map Hg++ts.map Hh) (m+m) (n-m)
theorem JM(t:BT):(t.get 0).getD default=rt t:=by cases t<;>rfl
theorem HU(t:BT)(j:Nat):t.get (2*j+1)=(Hg t).get j:=by
 cases t with
 |nil=>rfl
 |node v l r=>rw[BT.get_node,if_neg (by omega),if_pos (by omega),show(2*j+1) / 2=j by omega];rfl
theorem E3(t:BT)(j:Nat):t.get (2*j+2)=(Hh t).get j:=by
 cases t with
 |nil=>rfl
 |node v l r=>rw[BT.get_node,if_neg (by omega),if_neg (by omega),show(2*j+2) / 2-1=j by omega];rfl
theorem t6{ts:List BT}{m r:Nat}(k:Nat)(a:r<m):t5 ts m (m*k+r)=((ts[r]?.getD .nil).get k).getD default:=by
 unfold t5;rw[Nat.mul_add_mod,Nat.mod_eq_of_lt a,Nat.mul_add_div (by omega),Nat.div_eq_of_lt a,Nat.add_zero]
theorem JN{ts:List BT}{m:Nat}(h:ts.length=m)(hm:0<m)(i:Nat):t5 ts m (m+i)=t5 (ts.map Hg++ts.map Hh) (m+m) i:=by
 have a:i%m<m:=Nat.mod_lt _ hm;have d:=Nat.div_add_mod i m;generalize i%m=r at *;generalize i / m=k at *;subst d;obtain⟨t,e0⟩:∃t,ts[r]?=some t:=⟨_,ZD (h▸a)⟩;rw[show m+(m*k+r)=m*(k+1)+r by rw[Nat.mul_add];omega,t6 _ a,e0];rcases Nat.mod_two_eq_zero_or_one k with e | e
 ·obtain⟨j,rfl⟩:∃j,k=2*j:=⟨k / 2,by omega⟩
  rw[show m*(2*j)+r=(m+m)*j+r by rw[←Nat.mul_assoc,Nat.mul_two],t6 _ (by omega),ZE (by rw[ZF];omega),ZG,e0];exact congrArg (·.getD default) (HU _ j)
 ·obtain⟨j,rfl⟩:∃j,k=2*j+1:=⟨k / 2,by omega⟩
  rw[show m*(2*j+1)+r=(m+m)*j+(m+r) by rw[Nat.mul_add,←Nat.mul_assoc,Nat.mul_two];omega,t6 _ (by omega),ZH (by rw[ZF];omega),ZF,h,Nat.add_sub_cancel_left,ZG,e0];exact congrArg (·.getD default) (E3 _ j)
theorem Hi:∀(k:Nat){ts:List BT}{m:Nat}(n:Nat),ts.length=m->0<m->lv k ts m n=(List.range n).map (t5 ts m)
 |0,_,_,_,_,_=>rfl
 |k+1,ts,m,n,h,hm=>by
  have hd:∀j,j<m->t5 ts m j=rt (ts[j]?.getD .nil):=λj a=>by
   rw[show j=m*0+j by omega,t6 _ a,JM];simp
  show(match Nat.ble n m with | true=>_ | false=>_)=_;cases e:Nat.ble n m with
  |true=>
   have hn:n<=m:=Nat.le_of_ble_eq_true e;apply List.ext_getElem?;intro j;show((ts.take n).map rt)[j]?=_;rw[ZG,ZG,List.getElem?_take];by_cases a:j<n
   ·rw[if_pos a,List.getElem?_range a,ZD (by omega)]
    show some (rt ts[j])=some (t5 ts m j);rw[hd j (by omega),ZD (by omega)];rfl
   ·rw[if_neg a,List.getElem?_eq_none (by rw[ZI];omega)];rfl
  |false=>
   have hn:m<n:=Nat.lt_of_not_le λq=>by rw[Nat.ble_eq_true_of_le q] at e;cases e
   show ts.map rt++lv k (ts.map Hg++ts.map Hh) (m+m) (n-m)=_;rw[Hi k (n-m) (by rw[ZJ,ZF,ZF,h]) (by omega),show n=m+(n-m) by omega,List.range_add,ZK,ZL];congr 1
   ·apply List.ext_getElem?
    intro j;rw[ZG,ZG];by_cases a:j<m
    ·rw[List.getElem?_range a,ZD (by omega)]
     show some (rt ts[j])=some (t5 ts m j);rw[hd j a,ZD (by omega)];rfl
    ·rw[List.getElem?_eq_none (by omega),List.getElem?_eq_none (by rw[ZI];omega)];rfl
   ·rw[show m+(n-m)-m=n-m by omega]
    exact ZM λi _=>(JN h hm i).symm
theorem list_eq(t:BT)(n:Nat):t.list n=lv 20 [t] 1 n:=by
 rw[Hi (ts:=[t]) (m:=1) 20 n rfl (by decide)];unfold BT.list;apply ZM;intro i _;show _=(((([t]:List BT)[i%1]?).getD .nil).get (i / 1)).getD default;rw[Nat.mod_one,Nat.div_one];rfl
def cV(s:SharedT):Shared:=⟨⟨(lv 20 [s.tree] 1 s.n).toArray,s.life⟩,s.gens,s.drawn,s.toks,s.os⟩
theorem AI(s:SharedT):s.abs=cV s:=by
 unfold SharedT.abs absHeap cV;rw[list_eq]
def runC{a:Type}(p:Zw)(w:World)(N:Nat)(C:Shared->SharedT->a):Option a:=(fencedOpening treeTable p w N).bind λs₀=>match s₀.heap.isNs mainGlobals&&s₀.gens.size==0 with
 |true=>match mG s₀.heap.objs.toList 0 .nil with
  |some (T,n)=>(rG treeTable p w s₀.heap.objs.size (s₀.heap.nsMap mainGlobals "__annotations__") N ⟨T,n,s₀.heap.life,s₀.gens,s₀.drawn,s₀.toks,s₀.os⟩ (topStub p)).map (C s₀)
  |none=>none
 |false=>none
theorem E4{a:Type}{p:Zw}{w:World}{N:Nat}(C:Shared->SharedT->a):runC p w N C=(runC p w N Prod.mk).map λx=>C x.1 x.2:=by
 unfold runC;cases fencedOpening treeTable p w N with
 |none=>rfl
 |some s₀=>
  show(match s₀.heap.isNs mainGlobals&&s₀.gens.size==0 with | true=>_ | false=>_)=Option.map _ (match s₀.heap.isNs mainGlobals&&s₀.gens.size==0 with | true=>_ | false=>_);cases s₀.heap.isNs mainGlobals&&s₀.gens.size==0 with
  |false=>rfl
  |true=>
   show(match mG s₀.heap.objs.toList 0 .nil with | some (T,n)=>_ | none=>_)=Option.map _ (match mG s₀.heap.objs.toList 0 .nil with | some (T,n)=>_ | none=>_);cases mG s₀.heap.objs.toList 0 .nil with
   |none=>rfl
   |some x=>
    obtain⟨T,n⟩:=x;show Option.map (C s₀) _=Option.map _ (Option.map (Prod.mk s₀) _);rw[Option.map_map];rfl
def xx(p:Zw)(s₀ s:Shared):Bool:=staticsOk (importedModules p.main.body) s₀.heap s.heap&&namesBound p s.heap&&gensDone s&&laidKept s₀.heap s.heap
theorem HV{p:Zw}{w:World}{N:Nat}{s₀:Shared}{s:SharedT}(h:runC p w N Prod.mk=some (s₀,s))(k:xx p s₀ (cV s)=true):openEnds treeTable p w N=some (cV s):=by
 unfold runC at h;obtain⟨b,c,h⟩:=Option.bind_eq_some_iff.mp h;cases g:(b.heap.isNs mainGlobals&&b.gens.size==0) with
 |false=>rw[g] at h;cases h
 |true=>
  rw[g] at h;cases e:mG b.heap.objs.toList 0 .nil with
  |none=>rw[e] at h;cases h
  |some x=>
   obtain⟨T,n⟩:=x;rw[e] at h;obtain⟨f,d,h2⟩:=ZN.mp h;cases h2;have a:(⟨T,n,s₀.heap.life,s₀.gens,s₀.drawn,s₀.toks,s₀.os⟩:SharedT).abs=s₀:=by
    show Shared.mk (absHeap T n s₀.heap.life) _ _ _ _=_;rw[wa s₀.heap.life e];rfl
   have r:=wb d;rw[a,AI] at r;unfold openEnds topFrom;rw[c];show(match s₀.heap.isNs mainGlobals&&s₀.gens.size==0 with | true=>_ | false=>_)=_;rw[g];show(topRun treeTable p w s₀.heap.objs.size (s₀.heap.nsMap mainGlobals "__annotations__") N s₀ (topStub p)).bind _=_;rw[r];show(match xx p s₀ (cV s) with | true=>some (cV s) | false=>none)=_;rw[k]
theorem LX{p q:Zw}{loose:Zf}{Xt:Shared->Bool}{N:Nat}{b:Bool}{K:Params->Frag}{as:Zh}{e:∀P,as=(K P).map (·.1)}
  (j:∀w,runC p w N (λs₀ s=>(xx p s₀ (cV s),(openSeen q loose (importedModules p.main.body) Xt b (cV s)).1,(openSeen q loose (importedModules p.main.body) Xt b (cV s)).2.1))=some (true,expectedOf q,bltViewBooted))
  (h2:∀w,runC p w N (λ_ s=>(openSeen q loose (importedModules p.main.body) Xt b (cV s)).2.2.1)=some true)
  (c:∀w,runC p w N (λ_ s=>((openSeen q loose (importedModules p.main.body) Xt b (cV s)).2.2.2.1,(openSeen q loose (importedModules p.main.body) Xt b (cV s)).2.2.2.2.1))=some (true,pinGoodD (drecsOf q)))
  (d:∀w,runC p w N (λ_ s=>(openSeen q loose (importedModules p.main.body) Xt b (cV s)).2.2.2.2.2.1)=some (plainGoodE q (looseW q loose)))
  (f:∀w,runC p w N (λ_ s=>(openSeen q loose (importedModules p.main.body) Xt b (cV s)).2.2.2.2.2.2)=some (plainGoodD q loose,wideGood q,clsGoodW q loose))
  (g:∀w:World,runC p w N (λ_ s=>as.map (BF s))=some ((K w.params).map (λp=>some p.2))):LeftO p q loose Xt (Hook.obs (kHook K as e)) (Hook.val (kHook K as e)) N b:=λw=>by
 have j:=j w;have h2:=h2 w;have c:=c w;have g:=g w;have d:=d w;have f:=f w;rw[E4] at j h2 c g d f;obtain⟨⟨s₀,s⟩,l,m⟩:=ZN.mp j;rw[l] at h2 c g d f;obtain⟨n,k⟩:=Prod.mk.inj m;obtain⟨k,o⟩:=Prod.mk.inj k;obtain⟨r,t⟩:=Prod.mk.inj (Yi c);rw[HV l n];have u:as.map (cV s).heap.get?=as.map (BF s):=ZM λa _=>by rw[←AI];exact HS s a
 exact congrArg some (Prod.ext (Prod.ext k (Prod.ext o (Prod.ext (Yi h2) (Prod.ext r (Prod.ext t (Prod.ext (Yi d) (Yi f))))))) (u.trans (Yi g)))
end TopT
section
open PySem PySem.W PyProof.Rows
def K64.viewQ:Program:=PySem.W.view PySem.Challenge.pw_notring_k64_other_trees [0,2,3,4,5,6,7,9,10,11,13,14,15,16,17,18,19,20,22,23,24,25,26,28,29,30,32,33,34,36,37,38,39,40,41,42,43,44,45,46,47,48,50,51,52,53,54,55,56,57,58,59,60,61,62,63,64,65,66,67,68,69,70]
set_option maxHeartbeats 0 in
theorem K64.said:PySem.Challenge.rw_notring_k64_other_trees.wellSaid=true:=by kernel_rfl
set_option maxHeartbeats 0 in
theorem K64.seen1:∀w:World,TopT.runC PySem.Challenge.pw_notring_k64_other_trees w 17100 (λs₀ s=>(TopT.xx PySem.Challenge.pw_notring_k64_other_trees s₀ (TopT.cV s),(openSeen K64.viewQ [] (importedModules PySem.Challenge.pw_notring_k64_other_trees.main.body) (λs=>xlAt K64.viewQ [] s&&recOk [] s) true (TopT.cV s)).1,(openSeen K64.viewQ [] (importedModules PySem.Challenge.pw_notring_k64_other_trees.main.body) (λs=>xlAt K64.viewQ [] s&&recOk [] s) true (TopT.cV s)).2.1))=some (true,expectedOf K64.viewQ,bltViewBooted):=by
 intro w;kernel_rfl
set_option maxHeartbeats 0 in
theorem K64.seen2:∀w:World,TopT.runC PySem.Challenge.pw_notring_k64_other_trees w 17100 (λ_ s=>(openSeen K64.viewQ [] (importedModules PySem.Challenge.pw_notring_k64_other_trees.main.body) (λs=>xlAt K64.viewQ [] s&&recOk [] s) true (TopT.cV s)).2.2.1)=some true:=by
 intro w;kernel_rfl
set_option maxHeartbeats 0 in
theorem K64.seen3:∀w:World,TopT.runC PySem.Challenge.pw_notring_k64_other_trees w 17100 (λ_ s=>((openSeen K64.viewQ [] (importedModules PySem.Challenge.pw_notring_k64_other_trees.main.body) (λs=>xlAt K64.viewQ [] s&&recOk [] s) true (TopT.cV s)).2.2.2.1,(openSeen K64.viewQ [] (importedModules PySem.Challenge.pw_notring_k64_other_trees.main.body) (λs=>xlAt K64.viewQ [] s&&recOk [] s) true (TopT.cV s)).2.2.2.2.1))=some (true,pinGoodD (drecsOf K64.viewQ)):=by
 intro w;kernel_rfl
set_option maxHeartbeats 0 in
theorem K64.seen5:∀w:World,TopT.runC PySem.Challenge.pw_notring_k64_other_trees w 17100 (λ_ s=>(openSeen K64.viewQ [] (importedModules PySem.Challenge.pw_notring_k64_other_trees.main.body) (λs=>xlAt K64.viewQ [] s&&recOk [] s) true (TopT.cV s)).2.2.2.2.2.1)=some (plainGoodE K64.viewQ (looseW K64.viewQ [])):=by
 intro w;kernel_rfl
set_option maxHeartbeats 0 in
theorem K64.seen6:∀w:World,TopT.runC PySem.Challenge.pw_notring_k64_other_trees w 17100 (λ_ s=>(openSeen K64.viewQ [] (importedModules PySem.Challenge.pw_notring_k64_other_trees.main.body) (λs=>xlAt K64.viewQ [] s&&recOk [] s) true (TopT.cV s)).2.2.2.2.2.2)=some (plainGoodD K64.viewQ [],wideGood K64.viewQ,clsGoodW K64.viewQ []):=by
 intro w;kernel_rfl
end
-- CHANGE: your row's module here,as the last of these a_
set_option linter.all false
namespace L2
open PySem PySem.Spec PyProof.Rows
abbrev Key:=Sum Int Str
def oU:Key->Value->Bool
 |.inl k,v=>Value.isInt k v
 |.inr x,v=>Value.isStrOf x v
def Nf(w:World):Key->Int
 |.inl k=>hashInt k
 |.inr x=>hashStr w x
theorem bZ:∀{k:Key}{v:Value},oU k v=true->(∃i t,k=Sum.inl i/\v=Value.int i t)\/(∃x t,k=Sum.inr x/\v=Value.str x t)
 |.inl i,v,h=>by
  obtain⟨t,e⟩:=Value.isInt_shape (k:=i) (v:=v) h;exact .inl ⟨i,t,rfl,e⟩
 |.inr x,v,h=>by
  obtain⟨t,e⟩:=Value.isStrOf_shape (x:=x) (v:=v) h;exact .inr ⟨x,t,rfl,e⟩
theorem Dn(i:Int)(t:Tok):oU (.inl i) (.int i t)=true:=by simp[oU,Value.isInt]
theorem Do(x:Str)(t:Tok):oU (.inr x) (.str x t)=true:=by simp[oU,Value.isStrOf]
theorem JO(a b:Int):decide ((Sum.inl a:Key)=Sum.inl b)=(a==b):=by
 by_cases e:a=b
 ·subst e;simp
 ·have h:¬(Sum.inl a:Key)=Sum.inl b:=λq=>e (Sum.inl.inj q)
  rw[ZP h];exact(ZQ.mpr e).symm
theorem JP(a b:Str):decide ((Sum.inr a:Key)=Sum.inr b)=decide (a=b):=by
 by_cases e:a=b
 ·subst e;simp
 ·have h:¬(Sum.inr a:Key)=Sum.inr b:=λq=>e (Sum.inr.inj q)
  rw[ZP h,ZP e]
theorem JQ(a:Int)(b:Str):decide ((Sum.inl a:Key)=Sum.inr b)=false:=ZP (λq=>nomatch q)
theorem JR(a:Str)(b:Int):decide ((Sum.inr a:Key)=Sum.inl b)=false:=ZP (λq=>nomatch q)
def bM(prog:Zw)(w:World):PySem.KeyKind prog w Key where
 is:=oU
 hash:=Nf w
 inj:=λv a b ha hb=>by
  rcases bZ ha with⟨i,t,rfl,rfl⟩ | ⟨x,t,rfl,rfl⟩
  ·rcases bZ hb with⟨j,u,rfl,e⟩ | ⟨y,u,rfl,e⟩
   ·injection e with e1 _;rw[e1]
   ·exact nomatch e
  ·rcases bZ hb with⟨j,u,rfl,e⟩ | ⟨y,u,rfl,e⟩
   ·exact nomatch e
   ·injection e with e1 _;rw[e1]
 byValue:=λk v h=>by
  rcases bZ h with⟨i,t,rfl,rfl⟩ | ⟨x,t,rfl,rfl⟩<;>rfl
 pyHash:=λc h=>by
  rcases bZ c with⟨i,t,rfl,rfl⟩ | ⟨x,t,rfl,rfl⟩
  ·exact wpAny_pyHash_int h
  ·exact wpAny_pyHash_str h
 eqBool:=λhu c h=>by
  rcases bZ hu with⟨i,t,rfl,rfl⟩ | ⟨x,t,rfl,rfl⟩
  ·rcases bZ c with⟨j,u,rfl,rfl⟩ | ⟨y,u,rfl,rfl⟩
   ·rw[JO] at h;exact wpAny_eqBool_int h
   ·rw[JQ] at h;exact SeqAt.EqAt.int_str i t y u _ _ _ _ h
  ·rcases bZ c with⟨j,u,rfl,rfl⟩ | ⟨y,u,rfl,rfl⟩
   ·rw[JR] at h;exact SeqAt.EqAt.str_int x t j u _ _ _ _ h
   ·rw[JP] at h;exact wpAny_eqBool_str h
 «strs»:=λk x t v h=>by
  rcases bZ h with⟨i,u,rfl,e⟩ | ⟨y,u,rfl,e⟩
  ·exact nomatch e
  ·injection e with e1 _
   subst e1;cases v<;>rfl
theorem BG(prog:Zw)(w:World)(k:Key)(v:Value):(bM prog w).is k v=oU k v:=rfl
theorem z9(prog:Zw)(w:World)(i:Int)(t:Tok):(bM prog w).is (.inl i) (.int i t)=true:=Dn i t
theorem Aa(prog:Zw)(w:World)(x:Str)(t:Tok):(bM prog w).is (.inr x) (.str x t)=true:=Do x t
inductive V where
 |non | bl (b:Bool) | int (i:Int) | str (x:Str) | byt (b:Array UInt8) | flt (b:UInt64) | ref (a:Addr) | ty (n:String)
 deriving DecidableEq
def RelV:V->Value->Prop
 |.non,u=>u=Value.none
 |.bl b,u=>u=Value.bool b
 |.int i,u=>∃t,u=Value.int i t
 |.str x,u=>∃t,u=Value.str x t
 |.byt b,u=>∃t,u=Value.bytes b t
 |.flt b,u=>∃t,u=Value.float b t
 |.ref a,u=>u=Value.ref a
 |.ty n,u=>u=Value.type n
abbrev av:List V->List Value->Prop:=Paired RelV
theorem av.length{xs:List V}{us:Zd}(r:av xs us):xs.length=us.length:=Paired.length r
theorem av.get:∀{xs:List V}{us:Zd}{i:Nat}{x:V},av xs us->xs[i]?=some x->∃u,us[i]?=some u/\RelV x u
 |_,_,_,_,.nil,e=>by simp at e
 |_,_,0,_,.cons r _,e=>by simp at e;subst e;exact⟨_,rfl,r⟩
 |_,_,i+1,x,.cons _ t,e=>by
  obtain⟨u,a,h2⟩:=av.get (i:=i) (x:=x) t (by simpa using e);exact⟨u,by simpa using a,h2⟩
theorem av.set{x:V}{u:Value}(r:RelV x u):∀{xs:List V}{us:Zd}(i:Nat),av xs us->av (xs.set i x) (us.set i u)
 |_,_,_,.nil=>.nil
 |_,_,0,.cons _ t=>.cons r t
 |_,_,i+1,.cons q t=>.cons q (av.set r i t)
theorem av.append{xs a:List V}{us b:Zd}(h:av xs us)(s:av a b):av (xs++a) (us++b):=by
 induction h with
 |nil=>exact s
 |cons r _ c=>exact .cons r c
theorem av.take:∀{xs:List V}{us:Zd}(n:Nat),av xs us->av (xs.take n) (us.take n)
 |_,_,0,_=>.nil
 |_,_,_+1,.nil=>.nil
 |_,_,n+1,.cons r t=>.cons r (av.take n t)
theorem av.drop:∀{xs:List V}{us:Zd}(n:Nat),av xs us->av (xs.drop n) (us.drop n)
 |_,_,0,r=>r
 |_,_,_+1,.nil=>.nil
 |_,_,n+1,.cons _ t=>av.drop n t
def gc:Option V->Option Value->Prop
 |some v,some u=>RelV v u
 |none,none=>True
 |_,_=>False
def KV{a:Type}:List (a×V)->List (a×Value)->Prop:=Paired λ(p:a×V) (q:a×Value)=>p.1=q.1/\RelV p.2 q.2
def kV:Key->V
 |.inl i=>.int i
 |.inr x=>.str x
inductive HO where
  /-- a list -/
  | lst (xs:List V)
  /-- a tuple (never changes) -/
  | tup (xs:List V)
  /-- a dict whose keys are ints and texts; one whose keys are tuples of ints and texts (the empty one is both) -/
  | dK (d_:List (Key × V)) | dT (d_:List (List Key × V))
  /-- a set of ints: f_ members,f_ size -/
  | set (S:Int->Bool) (n:Nat)
  /-- an instance of the class at C,f_ dict at dx,f_ attributes -/
  | ins (C dx:Addr) (fs:List (Str × V))
  /-- the dict of the instance at x -/
  | own (x:Addr)
  /-- the dict of an exception -/
  | xd (fs:List (Str × V))
  /-- a bound method,f of x -/
  | met (f x:Addr)
  /-- a range object lo,lo + 1,.. below hi -/
  | rng (lo hi:Int)
  /-- a thing that is known to the object (the script; a dict while a loop walks it): read,never written while it is so -/
  | frz (o:Obj) (u:HO)
  /-- a code object's table -/
  | tbl (ps:Zl)
  /-- any other thing,by what is true of f_ one object (a def of X3 own: SetO a S n:=HO.ext λh=>..) -/
  | ext (φ:Heap->Prop)
abbrev Hp:=Addr->Option HO
def upd(H:Hp)(a:Addr)(o:HO):Hp:=λb=>if b=a then some o else H b
theorem aK{H:Hp}{a:Addr}{o:HO}:upd H a o a=some o:=by unfold upd;rw[if_pos rfl]
theorem aS{H:Hp}{a b:Addr}{o:HO}(h:b≠a):upd H a o b=H b:=by unfold upd;rw[if_neg h]
theorem LY{H:Hp}{a b:Addr}{o u:HO}(h:H a=some o)(h':H b=some u)(d:o≠u):a≠b:=by
 intro e;subst e;rw[h] at h';exact d (Yi h')
theorem bw{H:Hp}{a b:Addr}{o:HO}(h:H a=some o)(h':H b=none):a≠b:=by
 intro e;subst e;rw[h] at h';cases h'
section
variable (P:Zw)(w:World)
def bp(H:Hp)(h:Heap)(a:Addr):HO->Prop
 |.lst xs=>xs.length<=sizeLine/\∃(f_:Zd) (n:Nat),av xs f_/\h.get? a=some { cls:=.type "list",data:=.seq f_.toArray n }
 |.tup xs=>xs.length<=sizeLine/\∃f_:List Value,av xs f_/\IsTup h a f_.toArray
 |.dK b=>b.length<=sizeLine/\(a==sysModules)=false/\∃vs,KV b vs/\h.DictOf (bM P w) a vs
 |.dT b=>b.length<=sizeLine/\(a==sysModules)=false/\∃xs:List (List Key×Addr×Value),
   Paired (λ(p:List Key×V) (q:List Key×Addr×Value)=>p.1=q.1/\H q.2.1=some (.tup (p.1.map kV))/\RelV p.2 q.2.2) b xs /\
   ∃o es g,h.get? a=some o/\o.ExactDict/\o.data=.dict es g/\es.toList=xs.map (entryOfKey (tupleKind (bM P w)))/\(xs.map (·.1)).Nodup
 |.set S n=>h.SetOf (intKind P w) a S n
 |.ins C dx fs=>H dx=some (.own a)/\fs.length<=1000/\dx≠a/\h.get? a=some (PySem.W.instObj C dx) /\
   ∃mA,h.Ns1 dx mA/\(∀f,gc (fs.lookup f) (mA f))/\PySem.Within mA (fs.map (·.1))
 |.own _=>∃o,h.get? a=some o
 |.xd fs=>∃mA,h.Ns1 a mA/\∀f,gc (fs.lookup f) (mA f)
 |.rng lo j=>∃t u v,h.get? a=some { cls:=.type "range",data:=.fields #[.int lo t,.int j u,.int 1 v] }
 |.frz o u=>h.get? a=some o/\bp H h a u
 |.tbl ps=>h.get? a=some { cls:=.none,data:=.fields ps }
 |.met f x=>h.get? a=some (PySem.W.methodObj (.ref f) (.ref x))
 |.ext c=>c h/\(∃o,h.get? a=some o)/\∀d h2:Heap,c d->(∀o,d.get? a=some o->h2.get? a=some o)->c h2
def cC(H:Hp)(h:Heap):Prop:=∀a o,H a=some o->bp P w H h a o
end
section
variable {P:Zw}{w:World}{H H':Hp}{h h':Heap}{a:Addr}{o:HO}
theorem bp.lt(x:bp P w H h a o):a<h.objs.size:=by
 cases o with
 |lst xs=>obtain⟨_,_,_,_,e⟩:=x;exact Ye e
 |tup xs=>obtain⟨_,_,_,p⟩:=x;exact p.lt
 |dK b=>obtain⟨_,_,_,_,o,_,_,e,_⟩:=x;exact Ye e
 |dT b=>obtain⟨_,_,_,_,o,_,_,e,_⟩:=x;exact Ye e
 |set S n=>obtain⟨o,_,_,_,e,_⟩:=x;exact Ye e
 |ins C dx fs=>obtain⟨_,_,_,e,_⟩:=x;exact Ye e
 |own y=>obtain⟨_,e⟩:=x;exact Ye e
 |xd fs=>obtain⟨_,⟨_,_,_,e,_⟩,_⟩:=x;exact Ye e
 |rng lo c=>obtain⟨_,_,_,e⟩:=x;exact Ye e
 |frz d u=>obtain⟨e,_⟩:=x;exact Ye e
 |tbl ps=>exact Ye (show h.get? a=some _ from x)
 |met f y=>exact Ye (show h.get? a=some _ from x)
 |ext g=>obtain⟨_,⟨_,e⟩,_⟩:=x;exact Ye e
theorem Paired.mapP{c d:Type}{F G:c->d->Prop}{l₁:List c}{g:List d}(h:Paired F l₁ g)(f:∀a b,F a b->G a b):Paired G l₁ g:=by
 induction h with
 |nil=>exact .nil
 |cons r _ j=>exact .cons (f _ _ r) j
theorem bp.stay(x:bp P w H h a o)(k:∀b u,(b=a\/H b=some (.own a))->h.get? b=some u->h'.get? b=some u)
  (l:∀b,H b=some (.own a)->H' b=some (.own a)) (ht:∀b xs,H b=some (.tup xs)->H' b=some (.tup xs)):bp P w H' h' a o:=by
 induction o with
 |lst xs=>obtain⟨z,f_,n,r,e⟩:=x;exact⟨z,f_,n,r,k _ _ (.inl rfl) e⟩
 |tup xs=>obtain⟨z,f_,r,g,e,c⟩:=x;exact⟨z,f_,r,g,k _ _ (.inl rfl) e,c⟩
 |dK m=>obtain⟨z,y,vs,r,g,es,j,e,c⟩:=x;exact⟨z,y,vs,r,g,es,j,k _ _ (.inl rfl) e,c⟩
 |dT m=>
  obtain⟨z,y,xs,r,g,es,j,e,c⟩:=x;exact⟨z,y,xs,Paired.mapP r λp q z=>⟨z.1,ht _ _ z.2.1,z.2.2⟩,g,es,j,k _ _ (.inl rfl) e,c⟩
 |set S n=>obtain⟨g,es,j,t,e,c⟩:=x;exact⟨g,es,j,t,k _ _ (.inl rfl) e,c⟩
 |ins C dx fs=>
  obtain⟨d,z,ne,e,mA,⟨od,es,j,A,c⟩,r⟩:=x;exact⟨l _ d,z,ne,k _ _ (.inl rfl) e,mA,⟨od,es,j,k _ _ (.inr d) A,c⟩,r⟩
 |own y=>obtain⟨g,e⟩:=x;exact⟨g,k _ _ (.inl rfl) e⟩
 |xd fs=>obtain⟨mA,⟨od,es,j,e,c⟩,r⟩:=x;exact⟨mA,⟨od,es,j,k _ _ (.inl rfl) e,c⟩,r⟩
 |rng lo E=>obtain⟨t,u,v,e⟩:=x;exact⟨t,u,v,k _ _ (.inl rfl) e⟩
 |frz g u B=>obtain⟨e,q⟩:=x;exact⟨k _ _ (.inl rfl) e,B q⟩
 |tbl ps=>
  have e:h.get? a=some { cls:=.none,data:=.fields ps }:=x;show h'.get? a=some { cls:=.none,data:=.fields ps };exact k a _ (.inl rfl) e
 |met f y=>
  have e:h.get? a=some (PySem.W.methodObj (.ref f) (.ref y)):=x;show h'.get? a=some (PySem.W.methodObj (.ref f) (.ref y));exact k a _ (.inl rfl) e
 |ext F=>obtain⟨p,⟨o,e⟩,st⟩:=x;exact⟨st _ _ p λo q=>k _ _ (.inl rfl) q,⟨o,k _ _ (.inl rfl) e⟩,st⟩
theorem cC.lt(x:cC P w H h)(e:H a=some o):a<h.objs.size:=(x a o e).lt
theorem cC.fresh(x:cC P w H h)(e:h.objs.size<=a):H a=none:=by
 cases q:H a with
 |none=>rfl
 |some u=>exact absurd (ZR (x.lt q) e) (ZS _)
theorem cC.kept(x:cC P w H h)(k:∀b u,h.get? b=some u->h'.get? b=some u):cC P w H h':=λa o e=>
 (x a o e).stay (λb u _ q=>k b u q) (λ_ q=>q) λ_ _ q=>q
theorem cC.laid(x:cC P w H h)(k:∀b u,h.get? b=some u->h'.get? b=some u)(hp:h.objs.size<=a)(new:bp P w (upd H a o) h' a o):cC P w (upd H a o) h':=λb u e=>by
 have hn:=x.fresh hp;by_cases hb:b=a
 ·subst hb;rw[aK] at e;cases e;exact new
 ·rw[aS hb] at e
  exact(x b u e).stay (λc v _ q=>k c v q) (λc q=>by rw[aS (bw q hn)];exact q) λc xs q=>by rw[aS (bw q hn)];exact q
end
def Rd(H:Hp)(a:Addr)(u:HO):Prop:=H a=some u \/ ∃o,H a=some (.frz o u)
theorem Rd.ok{P:Zw}{w:World}{H:Hp}{h:Heap}{a:Addr}{u:HO}(r:Rd H a u)(x:cC P w H h):bp P w H h a u:=by
 rcases r with r | ⟨o,r⟩
 ·exact x a u r
 ·obtain⟨_,q⟩:=x a _ r
  exact q
def Dp:Option HO->Prop
 |some (.lst _)=>True
 |some (.dK _)=>True
 |some (.dT _)=>True
 |some (.set _ _)=>True
 |some (.ins _ _ _)=>True
 |some (.ext _)=>True
 |_=>False
section
variable {P:Zw}{w:World}{H:Hp}{h h':Heap}{x e:Addr}{o':HO}
theorem cC.write(ok:cC P w H h)(mu:Dp (H x))(d:e=x\/H e=some (.own x))(k:∀b u,b≠e->h.get? b=some u->h'.get? b=some u)(j:∃u,h'.get? e=some u)
  (new:bp P w (upd H x o') h' x o'):cC P w (upd H x o') h':=λb u q=>by
 have f:∀c y,H c=some (.own y)->c≠x:=λc y r z=>by subst z;rw[r] at mu;exact mu
 have l:∀c xs,H c=some (.tup xs)->c≠x:=λc xs r z=>by subst z;rw[r] at mu;exact mu
 by_cases hb:b=x
 ·subst hb;rw[aK] at q;cases q;exact new
 ·rw[aS hb] at q
  by_cases a:b=e
  ·have g:H b=some (.own x):=by
    rcases d with z | z
    ·exact absurd (a.trans z) hb
    ·rw[a];exact z
   rw[q] at g;cases g;obtain⟨v,m⟩:=j;exact⟨v,by rw[a];exact m⟩
  ·refine(ok b u q).stay (λc v hc r=>k c v ?_ r) (λc r=>by rw[aS (f c b r)];exact r) λc xs r=>by rw[aS (l c xs r)];exact r
   rcases hc with rfl | hc
   ·exact a
   ·rintro rfl
    rcases d with z | z
    ·exact f c b hc z
    ·rw[hc] at z;cases z;exact hb rfl
end
structure Un (fs ex:Zh) (H H':Hp) (h h':Heap):Prop where
 keep:∀b o,h.get? b=some o->H b=none->b∉fs->b∉ex->h'.get? b=some o
 slot:∀b o,h.get? b=some o->H b=none->b∈fs->b∉ex->∃sl,h'.get? b=some { o with slots:=sl }
 free:∀b o,h.get? b=some o->H b=none->b∉ex->H' b=none
 there:∀b o,h.get? b=some o->b∉ex->∃o',h'.get? b=some o'
 tups:∀b xs,H b=some (.tup xs)->H' b=some (.tup xs)
 frzs:∀b o u,H b=some (.frz o u)->H' b=some (.frz o u)
 tbls:∀b ps,H b=some (.tbl ps)->∃more,H' b=some (.tbl (ps++more))
section
variable {fs Q6 ex ex':Zh}{H H1 H2:Hp}{h h1 h2 h':Heap}{a x e:Addr}{o:HO}
theorem Un.any(u:Un fs ex H H1 h h1){b:Addr}{c:Obj}(q:h.get? b=some c)(n:H b=none)(hx:b∉ex):∃sl,h1.get? b=some { c with slots:=sl }:=by
 by_cases hb:b∈fs
 ·exact u.slot b c q n hb hx
 ·exact⟨c.slots,u.keep b c q n hb hx⟩
theorem Un.kept(k:∀b u,h.get? b=some u->h'.get? b=some u):Un fs ex H H h h':=
 ⟨λb c q _ _ _=>k b c q,λb c q _ _ _=>⟨c.slots,k b c q⟩,λ_ _ _ n _=>n,λb c q _=>⟨c,k b c q⟩,λ_ _ q=>q,λ_ _ _ q=>q,λ_ ps q=>⟨#[],by rw[q];simp⟩⟩
theorem Un.refl:Un fs ex H H h h:=Un.kept λ_ _ q=>q
theorem Un.laid(k:∀b u,h.get? b=some u->h'.get? b=some u)(hp:h.objs.size<=a)(hn:H a=none):Un fs ex H (upd H a o) h h' where
 keep:=λb u q _ _ _=>k b u q
 slot:=λb u q _ _ _=>⟨u.slots,k b u q⟩
 free:=λb u q n _=>by rw[aS (ZT (ZR (Ye q) hp))];exact n
 there:=λb u q _=>⟨u,k b u q⟩
 tups:=λb xs q=>by rw[aS (bw q hn)];exact q
 frzs:=λb u xs q=>by rw[aS (bw q hn)];exact q
 tbls:=λb ps q=>⟨#[],by rw[aS (bw q hn),q];simp⟩
theorem Un.write(mu:Dp (H x))(d:e=x\/H e=some (.own x))(k:∀b u,b≠e->h.get? b=some u->h'.get? b=some u)(f:∃u,h'.get? e=some u):Un fs ex H (upd H x o) h h':=by
 have hx:∀b,H b=none->b≠x:=λb n z=>by subst z;rw[n] at mu;exact mu
 have hb:∀b,H b=none->b≠e:=λb n z=>by
  subst z;rcases d with r | r
  ·exact hx b n r
  ·rw[n] at r;cases r
 have hm:∀b u,H b=some u->¬Dp (some u)->b≠x:=λb u q nm z=>by subst z;rw[q] at mu;exact nm mu
 refine⟨λb u q n _ _=>k b u (hb b n) q,λb u q n _ _=>⟨u.slots,k b u (hb b n) q⟩,λb u q n _=>by rw[aS (hx b n)];exact n,λb u q _=>?_,
  λb xs q=>by rw[aS (hm b _ q λz=>z)];exact q,λb u xs q=>by rw[aS (hm b _ q λz=>z)];exact q,λb ps q=>⟨#[],by rw[aS (hm b _ q λz=>z),q];simp⟩⟩
 by_cases c:b=e
 ·subst c;exact f
 ·exact⟨u,k b u c q⟩
end
def Hj(h:Heap)(H:Hp):List Addr:=(List.range h.objs.size).filter λa=>(H a).isSome
def oV(h:Heap)(H:Hp):Heap:=PySem.W.hideAll h (Hj h H)
theorem Dq(h:Heap)(H:Hp):(oV h H).objs.size=h.objs.size:=PySem.W.hideAll_size _ _
theorem E5{h:Heap}{H:Hp}{b:Addr}{o:Obj}(e:h.get? b=some o)(n:H b=none):(oV h H).get? b=some o:=
 PySem.W.hideAll_get _ e λhm=>by
  have q:(H b).isSome=true:=(ZU.mp hm).2;rw[n] at q;simp at q
theorem HW{h:Heap}{H:Hp}{b:Addr}{o:Obj}(e:(oV h H).get? b=some o):h.get? b=some o/\H b=none:=by
 have e':h.get? b=some o:=PySem.W.of_hideAll (Hj h H) e;refine⟨e',?_⟩;cases q:H b with
 |none=>rfl
 |some x=>
  have hm:b∈Hj h H:=ZU.mpr ⟨ZV.mpr (Ye e'),by simp[q]⟩;have z:(oV h H).get? b=none:=PySem.W.hideAll_none (Hj h H) hm;rw[z] at e;cases e
def HX(g h:Heap)(L:Addr):List (Addr×Obj):=(List.range h.objs.size).filterMap λa=>if a=L\/(g.get? a).isSome=true then none else(h.get? a).map λo=>(a,o)
def rest(g h:Heap)(L d:Addr):List (Addr×Obj):=(HX g h L).filter λp=>decide (p.1≠d)
structure Mod (K:Za) (mg:Ze) (base:Heap):Prop where
 kin:K.In base
 glob:base.Ns mainGlobals mg
 blt:∃mb,base.Ns builtinsNs mb/\∀x:Str,x ≠ "__name__"->mb x=bootBuiltins x
 nolimit:base.NoLimit
structure Cx where
 prog:Program
 w:World
 K:PySem.W.Frag
 mg:Str->Option Value
 base:Heap
 A:Around
 N:List Str
 s₀:Shared
 H₀:Hp
 env:Env
 outer:List Env
 stack:List Env
 ex:List Addr
 fn:Str->Bool
 calm:Bool
 pn:List (Addr×Obj)
 xe:Value->Shared->Prop
def oi(l:List Env):List Addr:=l.filterMap (·.frame)
abbrev Cx.fs(X:Cx):List Addr:=oi X.outer
def xL(sc:Scope)(x:Str):Prop:=sc.names.lookup x=some .local \/ sc.names.lookup x=some .cell\/sc.names.lookup x=some .free
def Loc(sc:Scope)(x:Str):Prop:=sc.names.lookup x=some .local \/ sc.names.lookup x=some .cell
def Look(env:Env)(h:Heap)(m:Ze)(x:Str)(u:Value):Prop:=
 (env.kindOf x=some .local/\m x=some u)\/((env.kindOf x=some .cell\/env.kindOf x=some .free)/\∃c,env.cells.lookup x=some c/\h.IsCell c (some u))
structure Cx.Ok (X:Cx):Prop where
 mod:Mod X.K X.mg X.base
 kind:X.env.scope.kind=.function
 glob:X.env.globals=mainGlobals
 blt:X.env.builtins=builtinsNs
 above:X.s₀.heap.objs.size<=X.env.locals
 inj:∀x y c,X.env.cells.lookup x=some c->X.env.cells.lookup y=some c->x=y
 has:∀x,(X.env.kindOf x=some .cell\/X.env.kindOf x=some .free)->∃c,X.env.cells.lookup x=some c
 cab:∀x c,X.fn x=true->X.env.cells.lookup x=some c->X.s₀.heap.objs.size<=c
 hd:X.calm=true->X.A.handled=none
 frames:X.A.frames=some X.stack
 stk:X.stack=X.outer\/(X.stack=X.env::X.outer/\X.env.frame=some X.env.locals)
 exf:∀b∈X.ex,b≠X.env.locals/\∀x c,X.env.cells.lookup x=some c->c≠b
 bs:∀b o,X.base.get? b=some o->X.s₀.heap.get? b=some o/\X.H₀ b=none
 bsz:X.base.objs.size<=X.s₀.heap.objs.size
 noex:∀b o,X.base.get? b=some o->b∉X.ex
 exfs:∀b∈X.ex,b∉X.fs
 funs:X.s₀.heap.FunFrames X.base X.outer
 frf:∀b∈X.fs,X.H₀ b=none
structure af (X:Cx) (b_:Zc) (σ:List (Option V)) (H:Hp) (s:Shared):Prop where
 ok:X.Ok
 os:s.os=X.s₀.os
 bare:AllBare s.gens
 base:Un X.fs X.ex X.H₀ H X.s₀.heap s.heap
 loc:∃m,s.heap.Ns X.env.locals m/\∀(i:Nat) (x:Str) (v:V),X.N[i]?=some x->σ[i]?=some (some v)->xL X.env.scope x->∃u,RelV v u/\Look X.env s.heap m x u
 cell:∀x c,X.env.cells.lookup x=some c->∃v,s.heap.IsCell c v
 free:H X.env.locals=none
 freeC:∀x c,X.env.cells.lookup x=some c->H c=none
 pin:∀p∈X.pn++b_,s.heap.get? p.1=some p.2/\H p.1=none/\p.1≠X.env.locals/\p.1∉X.fs/\∀v,p.2.data≠.cell v
 hok:cC X.prog X.w H s.heap
 len:σ.length=X.N.length
section
variable {X:Cx}{b_:Zc}{σ:List (Option V)}{H H':Hp}{s:Shared}{h':Heap}
theorem Cx.Ok.nofr(ok:X.Ok){b:Addr}{o:Obj}(e:X.base.get? b=some o):b∉X.fs:=λhb=>by
 have:=(ok.funs.mem hb).1
 rw[e] at this;cases this
theorem af.bs(I:af X b_ σ H s):∀b o,X.base.get? b=some o->s.heap.get? b=some o/\H b=none:=λb o e=>
 ⟨I.base.keep b o (I.ok.bs b o e).1 (I.ok.bs b o e).2 (I.ok.nofr e) (I.ok.noex b o e),I.base.free b o (I.ok.bs b o e).1 (I.ok.bs b o e).2 (I.ok.noex b o e)⟩
theorem af.bk(I:af X b_ σ H s):∀b o,X.base.get? b=some o->s.heap.get? b=some o:=λb o e=>(I.bs b o e).1
theorem af.mod(I:af X b_ σ H s):Mod X.K X.mg X.base:=I.ok.mod
theorem af.kIn(I:af X b_ σ H s):X.K.In s.heap:=I.ok.mod.kin.keeps I.bk
theorem af.lt(I:af X b_ σ H s):X.env.locals<s.heap.objs.size:=let⟨_,hn,_⟩:=I.loc;hn.lt
theorem af.sz(I:af X b_ σ H s):X.s₀.heap.objs.size<=s.heap.objs.size:=ZW I.ok.above (Nat.le_of_lt I.lt)
theorem af.nofs(I:af X b_ σ H s){a:Addr}(h:s.heap.objs.size<=a):a∉X.fs:=λhb=>by
 obtain⟨_,o,b,_⟩:=I.ok.funs.mem hb;exact absurd (ZR (Ye b) (ZW I.sz h)) (ZS _)
theorem af.cne(I:af X b_ σ H s):∀x c,X.env.cells.lookup x=some c->c≠X.env.locals:=λx c e z=>by
 obtain⟨v,o,a,hd⟩:=I.cell x c e;obtain⟨m,⟨o',es,f,b,d,_⟩,_⟩:=I.loc;rw[z,b] at a;cases a;rw[d] at hd;cases hd
theorem af.funs(I:af X b_ σ H s):s.heap.FunFrames X.base X.outer:=by
 have all:∀(l:List Env),(∀b∈oi l,b∈X.fs)->X.s₀.heap.FunFrames X.base l->s.heap.FunFrames X.base l:=by
  intro l;induction l with
  |nil=>intro _ _;trivial
  |cons env r d=>
   intro c hl;obtain⟨hk,⟨L,o,hf,hn,f,hd⟩,g⟩:=hl;have a:L∈X.fs:=c L (by unfold oi;rw[List.filterMap_cons,hf];exact ZX);obtain⟨sl,e⟩:=I.base.slot L o f (I.ok.frf L a) a λz=>I.ok.exfs L z a
   exact⟨hk,⟨L,_,hf,hn,e,hd⟩,d (λb hb=>c b (by unfold oi;rw[List.filterMap_cons,hf];exact ZY _ hb)) g⟩
 exact all X.outer (λ_ hb=>hb) I.ok.funs
theorem af.stack(I:af X b_ σ H s):s.heap.FunFrames X.base X.stack:=by
 rcases I.ok.stk with e | ⟨e,hf⟩
 ·rw[e];exact I.funs
 ·rw[e]
  obtain⟨m,hn,_⟩:=I.loc;refine .cons (by rw[I.ok.kind];decide) hf hn ?_ I.funs;exact Heap.get?_none_of_le (ZW I.ok.bsz I.ok.above)
theorem af.stkSub(I:af X b_ σ H s):∀b∈oi X.stack,b∈X.env.locals::X.fs:=λb hb=>by
 rcases I.ok.stk with e | ⟨e,hf⟩
 ·rw[e] at hb;exact ZY _ hb
 ·rw[e] at hb
  unfold oi at hb;rw[List.filterMap_cons,hf] at hb;exact hb
theorem af.stkFree(I:af X b_ σ H s):∀b∈oi X.stack,H b=none:=λb hb=>by
 rcases ZZ.mp (I.stkSub b hb) with e | hb
 ·rw[e];exact I.free
 ·obtain⟨_,o,a,_⟩:=I.ok.funs.mem hb
  exact I.base.free b o a (I.ok.frf b hb) λz=>I.ok.exfs b z hb
theorem af.step{g':Array GenState}{t':Nat}{d':Drawn}{ch:Zh}(I:af X b_ σ H s)
  (j:∀b∈ch,(b∈X.ex\/X.s₀.heap.objs.size<=b)/\b≠X.env.locals/\(∀x c,X.env.cells.lookup x=some c->c≠b)/\∀p∈X.pn++b_,p.1≠b)
  (keep:∀b o,b≠X.env.locals->b∉X.fs->b∉ch->s.heap.get? b=some o->H b=none->h'.get? b=some o)
  (slot:∀b o,b≠X.env.locals->b∈X.fs->b∉ch->s.heap.get? b=some o->H b=none->∃sl,h'.get? b=some { o with slots:=sl }) (free:∀b o,b∉ch->s.heap.get? b=some o->H b=none->H' b=none)
  (there:∀b o,b∉ch->s.heap.get? b=some o->∃o',h'.get? b=some o')
  (tups:∀b xs,H b=some (.tup xs)->H' b=some (.tup xs)) (frzs:∀b o u,H b=some (.frz o u)->H' b=some (.frz o u)) (tbls:∀b ps,H b=some (.tbl ps)->∃more,H' b=some (.tbl (ps++more)))
  (ns:∀m,s.heap.Ns X.env.locals m->h'.Ns X.env.locals m) (hok:cC X.prog X.w H' h') (hg:AllBare g'):
  af X b_ σ H' { s with heap:=h',gens:=g',drawn:=d',toks:=t' }:=by
 have C:∀b o,X.s₀.heap.get? b=some o->b≠X.env.locals:=λb o e=>ZT (ZR (Ye e) I.ok.above)
 have A:∀b o,X.s₀.heap.get? b=some o->b∉X.ex->b∉ch:=λb o e hx hb=>by
  rcases(j b hb).1 with z | z
  ·exact hx z
  ·exact absurd (ZR (Ye e) z) (ZS _)
 have a:∀x c,X.env.cells.lookup x=some c->∀v,s.heap.IsCell c v->h'.IsCell c v:=λx c e v ⟨o,g,hd⟩=>by
  have t:c∉ch:=λz=>(j c z).2.2.1 x c e rfl
  by_cases hc:c∈X.fs
  ·obtain⟨sl,q⟩:=slot c o (I.cne x c e) hc t g (I.freeC x c e)
   exact⟨_,q,hd⟩
  ·exact⟨o,keep c o (I.cne x c e) hc t g (I.freeC x c e),hd⟩
 refine⟨I.ok,I.os,hg,⟨λb o e n hb hx=>?_,λb o e n hb hx=>?_,λb o e n hx=>?_,λb o e hx=>?_,λb xs e=>tups b xs (I.base.tups b xs e),λb o xs e=>frzs b o xs (I.base.frzs b o xs e),λb ps e=>?_⟩,?_,λx c e=>?_,?_,λx c e=>?_,λp hp=>?_,hok,I.len⟩
 ·exact keep b o (C b o e) hb (A b o e hx) (I.base.keep b o e n hb hx) (I.base.free b o e n hx)
 ·obtain⟨sl,f⟩:=I.base.slot b o e n hb hx
  obtain⟨B,y⟩:=slot b _ (C b o e) hb (A b o e hx) f (I.base.free b o e n hx);exact⟨B,y⟩
 ·obtain⟨o',f⟩:=I.base.there b o e hx
  exact free b o' (A b o e hx) f (I.base.free b o e n hx)
 ·obtain⟨o',f⟩:=I.base.there b o e hx
  exact there b o' (A b o e hx) f
 ·obtain⟨F,f⟩:=I.base.tbls b ps e
  obtain⟨G,y⟩:=tbls b _ f;exact⟨F++G,by rw[y,Array.append_assoc]⟩
 ·obtain⟨m,hn,hl⟩:=I.loc
  refine⟨m,ns m hn,λi x v f y J=>?_⟩;obtain⟨u,r,l⟩:=hl i x v f y J;refine⟨u,r,?_⟩;rcases l with l | ⟨k,c,e,z⟩
  ·exact .inl l
  ·exact .inr ⟨k,c,e,a x c e _ z⟩
 ·obtain⟨v,z⟩:=I.cell x c e
  exact⟨v,a x c e v z⟩
 ·obtain⟨m,⟨o,_,_,g,_⟩,_⟩:=I.loc
  exact free _ o (λz=>(j _ z).2.1 rfl) g I.free
 ·obtain⟨v,o,g,hd⟩:=I.cell x c e
  exact free c o (λz=>(j c z).2.2.1 x c e rfl) g (I.freeC x c e)
 ·obtain⟨e,n,ne,E,d⟩:=I.pin p hp
  have t:p.1∉ch:=λz=>(j p.1 z).2.2.2 p hp rfl
  exact⟨keep p.1 p.2 ne E t e n,free p.1 p.2 t e n,ne,E,d⟩
theorem af.un{t':Nat}(I:af X b_ σ H s)(u:Un X.fs [] H H' s.heap h')(hok:cC X.prog X.w H' h'):af X b_ σ H' { s with heap:=h',toks:=t' }:=by
 obtain⟨m,⟨o,es,k,a,r⟩,_⟩:=id I.loc;obtain⟨sl,d⟩:=u.any a I.free (by simp);exact I.step (g':=s.gens) (d':=s.drawn) (ch:=[]) (λ_ z=>nomatch z) (λb o _ hb _ e n=>u.keep b o e n hb (by simp)) (λb o _ hb _ e n=>u.slot b o e n hb (by simp)) (λb o _ e n=>u.free b o e n (by simp)) (λb o _ e=>u.there b o e (by simp)) u.tups u.frzs u.tbls (λm' hm=>by
  obtain⟨o',f,g,c,j⟩:=hm;rw[a] at c;cases c;exact⟨_,f,g,d,j⟩) hok I.bare
theorem af.call{g':Array GenState}{t':Nat}{d':Drawn}{ch:Zh}(I:af X b_ σ H s)(u:Un (oi X.stack) ch H H' s.heap h')(hok:cC X.prog X.w H' h')(hg:AllBare g')
  (d:∀b∈ch,(b∈X.ex\/X.s₀.heap.objs.size<=b)/\b≠X.env.locals/\(∀x c,X.env.cells.lookup x=some c->c≠b)/\∀p∈X.pn++b_,p.1≠b):
  af X b_ σ H' { s with heap:=h',gens:=g',drawn:=d',toks:=t' }:=by
 obtain⟨m,⟨o,es,t,f,r⟩,_⟩:=id I.loc;obtain⟨sl,a⟩:=u.any f I.free λz=>(d _ z).2.1 rfl
 exact I.step (ch:=ch) d (λb o a hb hc e n=>u.keep b o e n (λz=>(ZZ.mp (I.stkSub b z)).elim a hb) hc) (λb o _ _ hc e n=>u.any e n hc) (λb o hc e n=>u.free b o e n hc) (λb o hc e=>u.there b o e hc) u.tups u.frzs u.tbls (λm' hm=>by
  obtain⟨o',j,k,g,l⟩:=hm;rw[f] at g;cases g;exact⟨_,j,k,a,l⟩) hok hg
theorem af.turned{t':Nat}{it:Addr}(I:af X b_ σ H s)(k:∀b o,b≠it->s.heap.get? b=some o->h'.get? b=some o)(hn:H it=none)(a:it≠X.env.locals)
  (f:it∈X.ex\/X.s₀.heap.objs.size<=it) (h2:∀x c,X.env.cells.lookup x=some c->c≠it) (g:∀p∈X.pn++b_,p.1≠it):af X b_ σ H { s with heap:=h',toks:=t' }:=by
 have d:∀b u,H b=some u->b≠it:=λb u e z=>by rw[z,hn] at e;cases e
 refine I.step (g':=s.gens) (d':=s.drawn) (ch:=[it]) (λb hb=>?_) (λb o _ _ hc e _=>k b o (λz=>hc (by simp[z])) e) (λb o _ _ hc e _=>⟨o.slots,k b o (λz=>hc (by simp[z])) e⟩) (λ_ _ _ _ n=>n)
  (λb o hc e=>⟨o,k b o (λz=>hc (by simp[z])) e⟩) (λ_ _ e=>e) (λ_ _ _ e=>e) (λb ps e=>⟨#[],by rw[e];simp⟩) (λm hm=>?_) (λb u e=>?_) I.bare
 ·have e:b=it:=by simpa using hb
  subst e;exact⟨f,a,h2,g⟩
 ·obtain⟨o,es,j,l,r⟩:=hm
  exact⟨o,es,j,k _ o (Ne.symm a) l,r⟩
 ·refine(I.hok b u e).stay (λc v hc q=>k c v ?_ q) (λ_ q=>q) λ_ _ q=>q
  rcases hc with z | z
  ·rw[z];exact d b u e
  ·exact d c _ z
theorem af.tok(I:af X b_ σ H s)(t:Nat):af X b_ σ H { s with toks:=t }:=I.un (h':=s.heap) (t':=t) Un.refl I.hok
theorem af.kept{t':Nat}(I:af X b_ σ H s)(k:∀b u,s.heap.get? b=some u->h'.get? b=some u):af X b_ σ H { s with heap:=h',toks:=t' }:=I.un (Un.kept k) (I.hok.kept k)
theorem af.laid{a:Addr}{o:HO}{t':Nat}(I:af X b_ σ H s)(k:∀b u,s.heap.get? b=some u->h'.get? b=some u)(hp:s.heap.objs.size<=a)(new:bp X.prog X.w (upd H a o) h' a o):
  af X b_ σ (upd H a o) { s with heap:=h',toks:=t' }:=I.un (Un.laid k hp (I.hok.fresh hp)) (I.hok.laid k hp new)
theorem af.write{x e:Addr}{o:HO}{t':Nat}(I:af X b_ σ H s)(mu:Dp (H x))(a:e=x\/H e=some (.own x))(k:∀b u,b≠e->s.heap.get? b=some u->h'.get? b=some u)(c:∃u,h'.get? e=some u)
  (new:bp X.prog X.w (upd H x o) h' x o):af X b_ σ (upd H x o) { s with heap:=h',toks:=t' }:=I.un (Un.write mu a k c) (I.hok.write mu a k c new)
theorem af.pins_of{a:Zc}(I:af X b_ σ H s)(h:∀p∈a,s.heap.get? p.1=some p.2/\H p.1=none/\p.1≠X.env.locals/\p.1∉X.fs/\∀v,p.2.data≠.cell v):af X a σ H s:=
 ⟨I.ok,I.os,I.bare,I.base,I.loc,I.cell,I.free,I.freeC,λp hp=>(YA.mp hp).elim (λz=>I.pin p (List.mem_append_left _ z)) (h p),I.hok,I.len⟩
theorem xM{N:Zf}(c:N.Nodup){i j:Nat}{x:Str}(a:N[i]?=some x)(b:N[j]?=some x):i=j:=by
 obtain⟨g,d⟩:=YB.mp a;obtain⟨h2,f⟩:=YB.mp b;exact(List.getElem_inj c).mp (d.trans f.symm)
theorem wc{M:Model}{A:Around}{E:Zb}{i:Nat}{x:Str}{v:V}{u:Value}{Q:Zo}(I:af X b_ σ H s)(U:X.N.Nodup)(C:X.N[i]?=some x)(hx:Loc X.env.scope x)(r:RelV v u)
  (h:∀J,af X b_ (σ.set i (some v)) H J->(∃a,Heap.SameBut a s.heap J.heap/\(a=X.env.locals\/X.env.cells.lookup x=some a))->Q () J) (hf:X.fn x=true\/X.env.scope.names.lookup x=some .local:=by first | exact .inl rfl | exact .inr rfl | assumption):wpAny M A (storeName X.env x u) Q E s:=by
 obtain⟨m,hn,hl⟩:=id I.loc;have UT:(X.env.scope.kind==.class||(X.env.scope.kind==.module&&X.env.locals != X.env.globals))=false:=by rw[I.ok.kind];rfl
 have W:i<σ.length:=by rw[I.len];exact(YB.mp C).1
 have cne:=I.cne;have g:∀{a:Addr}{h':Heap},(∃o,s.heap.get? a=some o/\H a=none)->Heap.SameBut a s.heap h'->cC X.prog X.w H h':=λ{a h'} ha f b ob e=>by
  obtain⟨_,_,Y⟩:=ha;refine(I.hok b ob e).stay (λc F hc q=>(f.2 c ?_).trans q) (λ_ q=>q) λ_ _ q=>q
  rintro rfl;rcases hc with rfl | hc
  ·rw[Y] at e;cases e
  ·rw[Y] at hc;cases hc
 rcases hx with hk | hk
 ·refine wpAny_storeName_local hk hn (λh' Si f=>?_) UT
  obtain⟨oL,_,_,K,_⟩:=id hn;refine h _ ⟨I.ok,I.os,I.bare,⟨λb o e n hb hx=>?_,λb o e n hb hx=>?_,I.base.free,λb o e hx=>?_,I.base.tups,I.base.frzs,I.base.tbls⟩,⟨_,Si,λj y L l t O=>?_⟩,λy c e=>?_,I.free,I.freeC,λp hp=>?_,g ⟨oL,K,I.free⟩ f,by simpa using I.len⟩ ⟨_,f,.inl rfl⟩
  ·exact(f.2 b (ZT (ZR (Ye e) I.ok.above))).trans (I.base.keep b o e n hb hx)
  ·obtain⟨sl,l⟩:=I.base.slot b o e n hb hx
   exact⟨sl,(f.2 b (ZT (ZR (Ye e) I.ok.above))).trans l⟩
  ·obtain⟨o',l⟩:=I.base.there b o e hx
   exact⟨o',(f.2 b (ZT (ZR (Ye e) I.ok.above))).trans l⟩
  ·by_cases B:j=i
   ·subst B
    rw[C] at l;cases l;rw[List.getElem?_set_self W] at t;cases t;exact⟨u,r,.inl ⟨hk,by simp⟩⟩
   ·rw[List.getElem?_set_ne (Ne.symm B)] at t
    obtain⟨P,R,q⟩:=hl j y L l t O;refine⟨P,R,?_⟩;rcases q with⟨k,e⟩ | ⟨k,c,e,z⟩
    ·refine .inl ⟨k,?_⟩
     have:y≠x:=λe=>B (xM U l (e▸C))
     simp[this,e]
    ·exact .inr ⟨k,c,e,z.sameBut f (cne y c e)⟩
  ·obtain⟨F,z⟩:=I.cell y c e
   exact⟨F,z.sameBut f (cne y c e)⟩
  ·obtain⟨e,n,ne,S,d⟩:=I.pin p hp
   exact⟨(f.2 p.1 ne).trans e,n,ne,S,d⟩
 ·have T:X.fn x=true:=by
   rcases hf with z | z
   ·exact z
   ·rw[z] at hk;cases hk
  obtain⟨c,hc⟩:=I.ok.has x (.inl hk);obtain⟨F,z⟩:=I.cell x c hc;refine wpAny_storeName_cell I.ok.kind hk hc z (λh' Z f=>?_);obtain⟨oc,X5,UW⟩:=id z;refine h { s with heap:=h' } ⟨I.ok,I.os,I.bare,⟨λb o e n hb hx=>?_,λb o e n hb hx=>?_,I.base.free,λb o e hx=>?_,I.base.tups,I.base.frzs,I.base.tbls⟩,⟨m,hn.sameBut f (Ne.symm (cne x c hc)),λj y L l t O=>?_⟩,λy G e=>?_,I.free,I.freeC,λp hp=>?_,g ⟨oc,X5,I.freeC x c hc⟩ f,by simpa using I.len⟩ ⟨c,f,.inr hc⟩
  ·exact(f.2 b (ZT (ZR (Ye e) (I.ok.cab x c T hc)))).trans (I.base.keep b o e n hb hx)
  ·obtain⟨sl,l⟩:=I.base.slot b o e n hb hx
   exact⟨sl,(f.2 b (ZT (ZR (Ye e) (I.ok.cab x c T hc)))).trans l⟩
  ·obtain⟨o',l⟩:=I.base.there b o e hx
   exact⟨o',(f.2 b (ZT (ZR (Ye e) (I.ok.cab x c T hc)))).trans l⟩
  ·by_cases B:j=i
   ·subst B
    rw[C] at l;cases l;rw[List.getElem?_set_self W] at t;cases t;exact⟨u,r,.inr ⟨.inl hk,c,hc,Z⟩⟩
   ·rw[List.getElem?_set_ne (Ne.symm B)] at t
    obtain⟨P,R,q⟩:=hl j y L l t O;refine⟨P,R,?_⟩;rcases q with q | ⟨k,G,e,z'⟩
    ·exact .inl q
    ·refine .inr ⟨k,G,e,z'.sameBut f ?_⟩
     rintro rfl;exact B (xM U l (I.ok.inj _ _ _ e hc▸C))
  ·by_cases X6:G=c
   ·subst X6;exact⟨_,Z⟩
   ·obtain⟨w2,z2⟩:=I.cell y G e
    exact⟨w2,z2.sameBut f X6⟩
  ·obtain⟨e,n,ne,S,d⟩:=I.pin p hp
   refine⟨(f.2 p.1 ?_).trans e,n,ne,S,d⟩;intro q;rw[q,X5] at e;have q':oc=p.2:=Yi e;exact d F (by rw[←q'];exact UW)
theorem xN{M:Model}{A:Around}{E:Zb}{i:Nat}{x:Str}{v:V}{u:Value}{Q:Zo}(I:af X b_ σ H s)(b:X.N.Nodup)(c:X.N[i]?=some x)(hx:Loc X.env.scope x)(r:RelV v u)
  (h:∀a,af X b_ (σ.set i (some v)) H a->Q () a) (hf:X.fn x=true\/X.env.scope.names.lookup x=some .local:=by first | exact .inl rfl | exact .inr rfl | assumption):wpAny M A (storeName X.env x u) Q E s:=
 wc I b c hx r (λa d _=>h a d) hf
theorem af.call'{a:Shared}{ch:Zh}(I:af X b_ σ H s)(d:a.os=s.os)(u:Un (oi X.stack) ch H H' s.heap a.heap)(hok:cC X.prog X.w H' a.heap)(hg:AllBare a.gens)
  (f:∀b∈ch,(b∈X.ex\/X.s₀.heap.objs.size<=b)/\b≠X.env.locals/\(∀x c,X.env.cells.lookup x=some c->c≠b)/\∀p∈X.pn++b_,p.1≠b):af X b_ σ H' a:=by
 obtain⟨h',g',d',t',o'⟩:=a;have e:o'=s.os:=d;subst e;exact I.call (g':=g') (t':=t') (d':=d') u hok hg f
end
abbrev XK:=Value->Option Addr->Hp->Prop
abbrev St:=List (Option V)
abbrev VK:=V->Hp->Prop
abbrev TE:=St->Hp->VK->Prop
abbrev TT:=St->Hp->(Bool->Hp->Prop)->Prop
abbrev TA:=St->Hp->(List V->Hp->Prop)->Prop
structure Ends where
 nx:St->Hp->Prop
 rt:VK
 bk:St->Hp->Prop:=λ_ _=>False
 ct:St->Hp->Prop:=λ_ _=>False
abbrev TS:=Ends->St->Hp->Prop
def EP(X:Cx)(b_:Zc)(σ:St)(Q:VK)(u:Value)(a:Shared):Prop:=∃v H',af X b_ σ H' a/\RelV v u/\Q v H'
def TP(X:Cx)(b_:Zc)(σ:St)(Q:Bool->Hp->Prop)(b:Bool)(a:Shared):Prop:=∃H',af X b_ σ H' a/\Q b H'
def AP(X:Cx)(b_:Zc)(σ:St)(Q:List V->Hp->Prop)(us:Zd)(a:Shared):Prop:=∃vs H',af X b_ σ H' a/\av vs us/\Q vs H'
def SP(X:Cx)(b_:Zc)(D:Ends)(f:Flow)(b:Shared):Prop:=
 match f with
 |.next=>∃a H',af X b_ a H' b/\D.nx a H'
 |.brk=>∃a H',af X b_ a H' b/\D.bk a H'
 |.cont=>∃a H',af X b_ a H' b/\D.ct a H'
 |.ret u=>∃v a H',af X b_ a H' b/\RelV v u/\D.rt v H'
def PE(X:Cx)(e:Expr)(t:TE):Prop:=
 ∀(b_:Zc) (s:Shared) (σ:St) (H:Hp) (Q:VK),af X b_ σ H s->t σ H Q->wpAny (model X.prog X.w) X.A (eval e X.env) (EP X b_ σ Q) X.xe s
def PT(X:Cx)(e:Expr)(t:TT):Prop:=
 ∀(b_:Zc) (s:Shared) (σ:St) (H:Hp) (Q:Bool->Hp->Prop),af X b_ σ H s->t σ H Q->wpAny (model X.prog X.w) X.A (isTrue e X.env (eval e X.env)) (TP X b_ σ Q) X.xe s
def PW(X:Cx)(e:Expr)(t:TT):Prop:=
 ∀(a:Sem Value) (b_:Zc) (s:Shared) (σ:St) (H:Hp) (Q:Bool->Hp->Prop),af X b_ σ H s->t σ H Q->wpAny (model X.prog X.w) X.A (isTrue e X.env a) (TP X b_ σ Q) X.xe s
def PA(X:Cx)(es:Zg)(t:TA):Prop:=
 ∀(a:Pos) (b_:Zc) (s:Shared) (σ:St) (H:Hp) (Q:List V->Hp->Prop),af X b_ σ H s->t σ H Q->wpAny (model X.prog X.w) X.A (spliced (backTo a (starEach es X.env))) (AP X b_ σ Q) X.xe s
def PS(X:Cx)(st:Stmt)(t:TS):Prop:=
 ∀(b_:Zc) (s:Shared) (σ:St) (H:Hp) (D:Ends),af X b_ σ H s->t D σ H->wpAny (model X.prog X.w) X.A (exec st X.env) (SP X b_ D) X.xe s
def mH(X:Cx)(st:Zu)(t:TS):Prop:=
 ∀(b_:Zc) (s:Shared) (σ:St) (H:Hp) (D:Ends),af X b_ σ H s->t D σ H->wpAny (model X.prog X.w) X.A (execs st X.env) (SP X b_ D) X.xe s
theorem aN{b:Type}{t:Sem b}{Q c:b->Shared->Prop}{M:Model}{A:Around}{E:Zb}{s:Shared}(h:wpAny M A t Q E s)(d:∀a s,Q a s->c a s):wpAny M A t c E s:=wpAny_mono h d λ_ _ x=>x
section
variable {X:Cx}
theorem bin{a b:Expr}{g j:TE}(ha:PE X a g)(hb:PE X b j){b_:Zc}{s:Shared}{σ:St}{H:Hp}{R:V->V->Hp->Prop}(I:af X b_ σ H s)(h:g σ H λx d=>j σ d λy c=>R x y c)
  {k:Type}{Q:k->Shared->Prop}{f:Value->Value->Sem k}
  (hf:∀v u s2 x y c,af X b_ σ c s2->RelV x v->RelV y u->R x y c->wpAny (model X.prog X.w) X.A (f v u) Q X.xe s2):
  wpAny (model X.prog X.w) X.A (eval a X.env) (λv l=>wpAny (model X.prog X.w) X.A (eval b X.env) (λu m=>wpAny (model X.prog X.w) X.A (f v u) Q X.xe m) X.xe l) X.xe s:=by
 refine aN (ha b_ s σ H _ I h) λv s1 n=>?_
 obtain⟨x,d,o,p,r⟩:=n;refine aN (hb b_ s1 σ d _ o r) λu s2 t=>?_
 obtain⟨y,c,z,B,C⟩:=t;exact hf v u s2 x y c z p B C
def Ng(i:Nat):TE:=λσ H Q=>∃v,σ[i]?=some (some v)/\Q v H
def tC(v:V):TE:=λ_ H Q=>Q v H
theorem JS{i:Nat}{x:Str}{a:Pos}(d:X.N[i]?=some x)(f:xL X.env.scope x)(hd:(x==("__debug__" : Str))=false:=by decide)(g:(x==("__classdict__" : Str))=false:=by decide):PE X (.Name x a) (Ng i):=by
 intro b_ s σ H Q I h;obtain⟨v,e,h⟩:=h;obtain⟨m,hn,hl⟩:=I.loc;obtain⟨u,r,l⟩:=hl i x v d e f;have fin:EP X b_ σ Q u s:=⟨v,H,I,r,h⟩;rcases l with⟨hk,hm⟩ | ⟨hk,c,hc,b⟩
 ·exact wpAny_Name (wpAny_loadName_local I.ok.kind hk hn hm fin) hd
 ·rcases hk with hk | hk
  ·exact wpAny_Name (wpAny_loadName_cell I.ok.kind hk hc b fin) hd
  ·exact wpAny_Name (wpAny_loadName_free I.ok.kind hk hc b fin g) hd
theorem JT{i j pos}:PE X (.Constant (.int i) j pos) (tC (.int i)):=λ_ _ _ H _ I h=>wpAny_Constant_int ⟨.int i,H,I.tok _,⟨_,rfl⟩,h⟩
theorem LZ{b j pos}:PE X (.Constant (.bool b) j pos) (tC (.bl b)):=λ_ _ _ H _ I h=>Constant_bool ⟨.bl b,H,I,rfl,h⟩
theorem JU{j pos}:PE X (.Constant .none j pos) (tC .non):=λ_ _ _ H _ I h=>Constant_none ⟨.non,H,I,rfl,h⟩
theorem JV{x j pos}:PE X (.Constant (.str x) j pos) (tC (.str x)):=λ_ _ _ H _ I h=>Calls.Constant_str ⟨.str x,H,I.tok _,⟨_,rfl⟩,h⟩
def Gl(X:Cx)(x:Str):Prop:=X.env.kindOf x=some .globalImplicit
theorem vy{E:Zb}{b_:Zc}{s:Shared}{σ:St}{H:Hp}{x:Str}{u:Value}{a:Pos}{Q:Zb}(I:af X b_ σ H s)(hg:Gl X x)(hm:X.mg x=some u)(h:Q u s)
  (hd:(x==("__debug__" : Str))=false:=by decide):wpAny (model X.prog X.w) X.A (eval (.Name x a) X.env) Q E s:=
 Calls.Name_function_global I.ok.kind hg (Calls.loadGlobal_global (by rw[I.ok.glob];exact I.mod.glob.keeps I.bk) hm h) hd
theorem fg{E:Zb}{b_:Zc}{s:Shared}{σ:St}{H:Hp}{x:Str}{u:Value}{a:Pos}{Q:Zb}(I:af X b_ σ H s)(hg:Gl X x)(hm:X.mg x=none)(b:bootBuiltins x=some u)(h:Q u s)
  (hn:x ≠ "__name__":=by decide) (hd:(x==("__debug__" : Str))=false:=by decide):wpAny (model X.prog X.w) X.A (eval (.Name x a) X.env) Q E s:=by
 obtain⟨mb,c,h2⟩:=I.mod.blt;exact Calls.Name_function_global I.ok.kind hg (Calls.loadGlobal_builtin (by rw[I.ok.glob];exact I.mod.glob.keeps I.bk) hm (by rw[I.ok.blt];exact c.keeps I.bk) ((h2 x hn).trans b) h) hd
theorem HY{x:Str}{v:V}{u:Value}{a:Pos}(hg:Gl X x)(hm:X.mg x=some u)(r:RelV v u)(hd:(x==("__debug__" : Str))=false:=by decide):PE X (.Name x a) (tC v):=
 λ_ _ _ H _ I h=>vy I hg hm ⟨v,H,I,r,h⟩ hd
theorem HZ{x:Str}{v:V}{u:Value}{a:Pos}(hg:Gl X x)(hm:X.mg x=none)(b:bootBuiltins x=some u)(r:RelV v u)(hn:x ≠ "__name__":=by decide)(hd:(x==("__debug__" : Str))=false:=by decide):PE X (.Name x a) (tC v):=
 λ_ _ _ H _ I h=>fg I hg hm b ⟨v,H,I,r,h⟩ hn hd
variable {a b:Expr}{ta tb:TE}{pos:Pos}
variable {tA Up:TT}{rest:Zg}
def Nh(t u:TT):TT:=λσ H Q=>t σ H λc d=>if c=true then u σ d Q else Q false d
def NY(t u:TT):TT:=λσ H Q=>t σ H λc d=>if c=true then Q true d else u σ d Q
def Ni(t:TT):TT:=λσ H Q=>t σ H λc d=>Q (!c) d
theorem H9(ha:PT X a tA):PW X (.BoolOp .And [a] pos) tA:=by
 intro d b_ s σ H Q I h;refine isTrue_and (aN (ha b_ s σ H Q I h) λc s1 e=>?_);cases c with
 |true=>exact isTrue_and_nil e
 |false=>exact e
theorem JW(ha:PT X a tA):PW X (.BoolOp .Or [a] pos) tA:=by
 intro d b_ s σ H Q I h;refine isTrue_or (aN (ha b_ s σ H Q I h) λc s1 e=>?_);cases c with
 |false=>exact isTrue_or_nil e
 |true=>exact e
theorem JX(ha:PT X a tA)(hb:PW X (.BoolOp .And (b::rest) pos) Up):PW X (.BoolOp .And (a::b::rest) pos) (Nh tA Up):=by
 intro j b_ s σ H Q I h;refine isTrue_and (aN (ha b_ s σ H _ I h) λc s1 k=>?_);obtain⟨d,f,g⟩:=k;cases c with
 |true=>exact hb j b_ s1 σ d Q f g
 |false=>exact⟨d,f,g⟩
theorem L0(ha:PT X a tA)(hb:PW X (.BoolOp .Or (b::rest) pos) Up):PW X (.BoolOp .Or (a::b::rest) pos) (NY tA Up):=by
 intro j b_ s σ H Q I h;refine isTrue_or (aN (ha b_ s σ H _ I h) λc s1 k=>?_);obtain⟨d,f,g⟩:=k;cases c with
 |true=>exact⟨d,f,g⟩
 |false=>exact hb j b_ s1 σ d Q f g
theorem JY(ha:PT X a tA):PT X (.UnaryOp .Not a pos) (Ni tA):=by
 intro b_ s σ H Q I h;exact isTrue_not (ha b_ s σ H (λc d=>Q (!c) d) I h)
def L3(ta tb:TE):TE:=λσ H Q=>ta σ H λx d=>∃c,x=.bl c/\if c=true then tb σ d Q else Q (.bl false) d
def Nj(ta tb:TE):TE:=λσ H Q=>ta σ H λx d=>∃c,x=.bl c/\if c=true then Q (.bl true) d else tb σ d Q
def L5(ta:TE):TE:=λσ H Q=>ta σ H λx d=>∃c,x=.bl c/\Q (.bl (!c)) d
theorem JZ{op}{t:TE}(h:PE X a t):PE X (.BoolOp op [a] pos) t:=λb_ s σ H Q I hw=>BoolOp_one (h b_ s σ H Q I hw)
theorem J0(ha:PE X a ta)(hb:PE X (.BoolOp .And (b::rest) pos) tb):PE X (.BoolOp .And (a::b::rest) pos) (L3 ta tb):=by
 intro b_ s σ H Q I h;refine BoolOp_and (aN (ha b_ s σ H _ I h) λv s1 j=>?_);obtain⟨x,f,g,k,d⟩:=j;obtain⟨c,rfl,d⟩:=d;cases k;refine wpAny_truthy_bool ?_;cases c with
 |true=>exact hb b_ s1 σ f Q g d
 |false=>exact⟨.bl false,f,g,rfl,d⟩
theorem L8(ha:PE X a ta)(hb:PE X (.BoolOp .Or (b::rest) pos) tb):PE X (.BoolOp .Or (a::b::rest) pos) (Nj ta tb):=by
 intro b_ s σ H Q I h;refine BoolOp_or (aN (ha b_ s σ H _ I h) λv s1 j=>?_);obtain⟨x,f,g,k,d⟩:=j;obtain⟨c,rfl,d⟩:=d;cases k;refine wpAny_truthy_bool ?_;cases c with
 |false=>exact hb b_ s1 σ f Q g d
 |true=>exact⟨.bl true,f,g,rfl,d⟩
theorem J1(ha:PE X a ta):PE X (.UnaryOp .Not a pos) (L5 ta):=by
 intro b_ s σ H Q I h;refine UnaryOp_ (aN (ha b_ s σ H _ I h) λv s1 f=>?_);obtain⟨x,g,j,k,d⟩:=f;obtain⟨c,rfl,d⟩:=d;cases k;exact not_of (wpAny_truthy_bool ⟨.bl (!c),g,j,rfl,d⟩)
def NZ(t:TT)(ta tb:TE):TE:=λσ H Q=>t σ H λc d=>if c=true then ta σ d Q else tb σ d Q
theorem E6{c:Expr}(hc:PT X c tA)(ha:PE X a ta)(hb:PE X b tb):PE X (.IfExp c a b pos) (NZ tA ta tb):=by
 intro b_ s σ H Q I h;refine wpAny_IfExp (aN (hc b_ s σ H _ I h) λd s1 k=>?_);obtain⟨f,g,j⟩:=k;cases d with
 |true=>exact ha b_ s1 σ f Q g j
 |false=>exact hb b_ s1 σ f Q g j
end
def bH(K:Za)(H:Hp)(a:Addr)(xs:List V):Prop:=
 Rd H a (.lst xs) \/
  ∃(o:Obj) (f_:Zl) (n:Nat),K.lookup a=some o/\o.cls=.type "list"/\o.dict=none/\o.data=.seq f_ n/\f_.size<=sizeLine/\av xs f_.toList
def ca(K:Za)(H:Hp)(a:Addr)(xs:List V):Prop:=
 Rd H a (.tup xs) \/
  ∃(o:Obj) (f_:Zl) (n:Nat),K.lookup a=some o/\o.cls=.type "tuple"/\o.data=.seq f_ n/\f_.size<=sizeLine/\av xs f_.toList
def Nk:Value->Option V
 |.none=>some .non
 |.bool b=>some (.bl b)
 |.int i _=>some (.int i)
 |.str x _=>some (.str x)
 |.bytes b _=>some (.byt b)
 |.float b _=>some (.flt b)
 |.ref a=>some (.ref a)
 |.type n=>some (.ty n)
 |_=>none
theorem RelV.abs{x:V}{u:Value}(r:RelV x u):Nk u=some x:=by
 cases x with
 |non=>cases r;rfl
 |bl _=>cases r;rfl
 |int _=>obtain⟨t,rfl⟩:=r;rfl
 |str _=>obtain⟨t,rfl⟩:=r;rfl
 |byt _=>obtain⟨t,rfl⟩:=r;rfl
 |flt _=>obtain⟨t,rfl⟩:=r;rfl
 |ref _=>cases r;rfl
 |ty _=>cases r;rfl
theorem RelV.inj{x y:V}{u:Value}(r:RelV x u)(q:RelV y u):x=y:=Yi (r.abs.symm.trans q.abs)
theorem av.inj{xs a:List V}{us:Zd}(h:av xs us)(h':av a us):xs=a:=by
 induction h generalizing a with
 |nil=>cases h';rfl
 |cons r t b=>cases h' with
  |cons c t'=>rw[r.inj c,b t']
section
variable {X:Cx}{b_:Zc}{σ:St}{H:Hp}{s:Shared}{a:Addr}{xs ys:List V}
theorem bH.of{K:Za}(h:H a=some (.lst xs)):bH K H a xs:=.inl (.inl h)
theorem ca.of{K:Za}(h:H a=some (.tup xs)):ca K H a xs:=.inl (.inl h)
theorem af.list(I:af X b_ σ H s)(h:bH X.K H a xs):∃f_:List Value,av xs f_/\PlainL s.heap a f_.toArray/\xs.length<=sizeLine:=by
 rcases h with h | ⟨o,f_,n,hk,hc,hd,hs,hz,r⟩
 ·obtain⟨z,f_,n,r,e⟩:=h.ok I.hok
  exact⟨f_,r,⟨_,n,e,rfl,rfl,rfl⟩,z⟩
 ·refine⟨f_.toList,r,⟨o,n,I.kIn a o hk,hc,hd,by simpa using hs⟩,?_⟩
  have e:=r.length;simp only[Array.length_toList] at e;omega
theorem af.tuple(I:af X b_ σ H s)(h:ca X.K H a xs):∃f_:List Value,av xs f_/\IsTup s.heap a f_.toArray/\xs.length<=sizeLine:=by
 rcases h with h | ⟨o,f_,n,hk,hc,hs,hz,r⟩
 ·obtain⟨z,f_,r,p⟩:=h.ok I.hok
  exact⟨f_,r,p,z⟩
 ·refine⟨f_.toList,r,⟨o,I.kIn a o hk,hc,n,by simpa using hs⟩,?_⟩
  have e:=r.length;simp only[Array.length_toList] at e;omega
theorem af.list_inj(I:af X b_ σ H s)(h:bH X.K H a xs)(h':bH X.K H a ys):xs=ys:=by
 obtain⟨f_,r,⟨o,n,e,_,_,d⟩,_⟩:=I.list h;obtain⟨n_,b,⟨o',n',e',_,_,d'⟩,_⟩:=I.list h';rw[e] at e';cases e';rw[d] at d';injection d' with d1 _
 have:f_=n_:=by simpa using congrArg Array.toList d1
 subst this;exact r.inj b
theorem af.tuple_inj(I:af X b_ σ H s)(h:ca X.K H a xs)(h':ca X.K H a ys):xs=ys:=by
 obtain⟨f_,r,⟨o,e,_,n,d⟩,_⟩:=I.tuple h;obtain⟨n_,b,⟨o',e',_,n',d'⟩,_⟩:=I.tuple h';rw[e] at e';cases e';rw[d] at d';injection d' with d1 _
 have:f_=n_:=by simpa using congrArg Array.toList d1
 subst this;exact r.inj b
end
abbrev Cx.wish(X:Cx)(E:Zb):Cx:={ X with xe:=E }
abbrev Cx.nox(X:Cx):Cx:=X.wish λ_ _=>False
theorem Cx.Ok.wish{X:Cx}(ok:X.Ok)(E:Zb):(X.wish E).Ok:=
 ⟨ok.mod,ok.kind,ok.glob,ok.blt,ok.above,ok.inj,ok.has,ok.cab,ok.hd,ok.frames,ok.stk,ok.exf,ok.bs,ok.bsz,ok.noex,ok.exfs,ok.funs,ok.frf⟩
theorem Cx.Ok.unwish{X:Cx}{E:Zb}(ok:(X.wish E).Ok):X.Ok:=
 ⟨ok.mod,ok.kind,ok.glob,ok.blt,ok.above,ok.inj,ok.has,ok.cab,ok.hd,ok.frames,ok.stk,ok.exf,ok.bs,ok.bsz,ok.noex,ok.exfs,ok.funs,ok.frf⟩
section
variable {X:Cx}{b_:Zc}{σ:St}{H:Hp}{s:Shared}{E:Zb}
theorem af.wish(I:af X b_ σ H s)(E:Zb):af (X.wish E) b_ σ H s:=⟨I.ok.wish E,I.os,I.bare,I.base,I.loc,I.cell,I.free,I.freeC,I.pin,I.hok,I.len⟩
theorem af.unwish(I:af (X.wish E) b_ σ H s):af X b_ σ H s:=⟨I.ok.unwish,I.os,I.bare,I.base,I.loc,I.cell,I.free,I.freeC,I.pin,I.hok,I.len⟩
theorem SP.unwish{D:Ends}{f:Flow}{b:Shared}(h:SP (X.wish E) b_ D f b):SP X b_ D f b:=by
 cases f with
 |next=>obtain⟨a,H',I,q⟩:=h;exact⟨a,H',I.unwish,q⟩
 |brk=>obtain⟨a,H',I,q⟩:=h;exact⟨a,H',I.unwish,q⟩
 |cont=>obtain⟨a,H',I,q⟩:=h;exact⟨a,H',I.unwish,q⟩
 |ret u=>obtain⟨v,a,H',I,r,q⟩:=h;exact⟨v,a,H',I.unwish,r,q⟩
theorem mH.nox{st:Zu}{t:TS}(h:mH X.nox st t):mH X st t:=λb_ s σ H D I hw=>
 wpAny_mono (h b_ s σ H D (I.wish _) hw) (λ_ _ q=>q.unwish) λ_ _ z=>Yh z
end
section
variable {X:Cx}{st:Stmt}{rest:Zu}{t u:TS}{e:Expr}{te:TE}{pos:Pos}
def Hk:TS:=λD σ H=>D.nx σ H
def Nl(t u:TS):TS:=λD σ H=>t { D with nx:=u D } σ H
theorem Ia:mH X [] Hk:=λ_ _ σ H _ I h=>wpAny_execs_nil ⟨σ,H,I,h⟩
theorem E7(a:PS X st t)(h2:mH X rest u):mH X (st::rest) (Nl t u):=by
 intro b_ s σ H D I h;refine wpAny_execs_cons (aN (a b_ s σ H { D with nx:=u D } I h) λf s1 q=>?_);cases f with
 |next=>
  obtain⟨b,H',c,q⟩:=q;exact h2 b_ s1 b H' D c q
 |ret v=>exact q
 |brk=>exact q
 |cont=>exact q
theorem Ib:PS X (.Pass pos) Hk:=λ_ _ σ H _ I h=>wpAny_Pass ⟨σ,H,I,h⟩
theorem af.quiet{b_:Zc}{σ:St}{H:Hp}{s:Shared}(I:af X b_ σ H s):interactive X.env=false:=by simp[interactive,I.ok.kind]
def L9(te:TE):TS:=λD σ H=>te σ H λ_ a=>D.nx σ a
theorem Ic(a:PE X e te)(b:swapsWith e none pos.line X.env=pure false:=by rfl):PS X (.Expr e pos) (L9 te):=by
 intro b_ s σ H D I h;refine wpAny_Expr_any (aN (a b_ s σ H _ I h) λv s1 c=>?_) I.quiet b;obtain⟨x,d,f,j,g⟩:=c;exact⟨σ,d,f,g⟩
def Nm(te:TE):TS:=λD σ H=>te σ H D.rt
theorem J2(a:PE X e te):PS X (.Return (some e) pos) (Nm te):=by
 intro b_ s σ H D I h;refine wpAny_Return_some (aN (a b_ s σ H _ I h) λv s1 b=>?_);obtain⟨x,c,d,f,g⟩:=b;exact⟨x,σ,c,d,f,g⟩
def Nn(c:TT)(t u:TS):TS:=λD σ H=>c σ H λb a=>if b=true then t D σ a else u D σ a
theorem Ma{c:Expr}{a b:Zu}{tc:TT}(hc:PT X c tc)(ha:mH X a t)(hb:mH X b u):PS X (.If c a b pos) (Nn tc t u):=by
 intro b_ s σ H D I h;refine wpAny_If (aN (hc b_ s σ H _ I h) λd s1 k=>?_);obtain⟨f,g,j⟩:=k;cases d with
 |true=>exact ha b_ s1 σ f D g j
 |false=>exact hb b_ s1 σ f D g j
end
abbrev TG:=V->St->Hp->(St->Hp->Prop)->Prop
abbrev sC:=List V->St->Hp->(St->Hp->Prop)->Prop
def PG(X:Cx)(a:Expr)(t:TG):Prop:=
 ∀(b_:Zc) (s:Shared) (σ:St) (H:Hp) (v:V) (u:Value) (Q:St->Hp->Prop),af X b_ σ H s->RelV v u->t v σ H Q ->
  wpAny (model X.prog X.w) X.A (assign a X.env u) (λ_ c=>∃b H',af X b_ b H' c/\Q b H') X.xe s
def AJ(X:Cx)(ts:Zg)(t:sC):Prop:=
 ∀(b_:Zc) (s:Shared) (σ:St) (H:Hp) (vs:List V) (us:Zd) (Q:St->Hp->Prop),af X b_ σ H s->av vs us->t vs σ H Q ->
  wpAny (model X.prog X.w) X.A (assignInOrder ((assignEach ts X.env).map (·.2)) us) (λ_ b=>∃a H',af X b_ a H' b/\Q a H') X.xe s
abbrev BH:=V->V->V->Hp->(Hp->Prop)->Prop
def E8(X:Cx)(t:BH):Prop:=
 ∀(b_:Zc) (s:Shared) (σ:St) (H:Hp) (o i v:V) (a b u:Value) (Q:Hp->Prop),af X b_ σ H s->RelV o a->RelV i b->RelV v u->t o i v H Q ->
  wpAny (model X.prog X.w) X.A (setItem a b u) (λ_ c=>∃H',af X b_ σ H' c/\Q H') X.xe s
section
variable {X:Cx}{pos:Pos}
def xy(i:Nat):TG:=λv σ H Q=>Q (σ.set i (some v)) H
theorem AK{i:Nat}{x:Str}(a:X.N.Nodup)(b:X.N[i]?=some x)(hx:Loc X.env.scope x)(hf:X.fn x=true\/X.env.scope.names.lookup x=some .local:=by first | exact .inl rfl | exact .inr rfl | assumption):PG X (.Name x pos) (xy i):=by
 intro b_ s σ H v u Q I r h;exact wpAny_assign_Name (xN I a b hx r (λd c=>⟨_,H,c,h⟩) hf)
def J3:sC:=λvs σ H Q=>vs=[]/\Q σ H
def Hl(t:TG)(u:sC):sC:=λvs σ H Q=>∃v r,vs=v::r/\t v σ H λa H'=>u r a H' Q
theorem Id:AJ X [] J3:=by
 intro b_ s σ H vs us Q I r h;obtain⟨e,h⟩:=h;subst e;cases r;exact assignInOrder_nil ⟨σ,H,I,h⟩
theorem E9{e:Expr}{es:Zg}{t:TG}{u:sC}(a:PG X e t)(h2:AJ X es u)
  (b:(assignEach (e::es) X.env).map (·.2)=assign e X.env::(assignEach es X.env).map (·.2):=by rfl):AJ X (e::es) (Hl t u):=by
 intro b_ s σ H vs us Q I r h;obtain⟨v,m,c,h⟩:=h;subst c;cases r with
 |cons r d=>
  rw[b];refine assignInOrder_cons (aN (a b_ s σ H _ _ _ I r h) λ_ s1 f=>?_);obtain⟨g,j,k,l⟩:=f;exact h2 b_ s1 g j _ _ Q k d l
def No(K:Za)(n:Nat)(t:sC):TG:=λv σ H Q=>∃a xs,v=.ref a/\ca K H a xs/\xs.length=n/\t xs σ H Q
theorem J4{es:Zg}{k:Nat}{t:sC}{n:Nat}(hc:X.calm=true)(h:AJ X es t)
  (hn:(assignEach es X.env).length=n:=by rfl) (d:(assignEach es X.env).findIdx? (·.1)=none:=by rfl):PG X (.Tuple es k pos) (No X.K n t):=by
 intro b_ s σ H v u Q I r hw;obtain⟨a,xs,f,hq,hl,hw⟩:=hw;subst f;cases r;obtain⟨f_,c,ht,hz⟩:=I.tuple hq;refine assign_Tuple_tuple (I.ok.hd hc) ht (by simp[hn,←hl,c.length]) d λh' hx=>?_
 have g:af X b_ σ H { s with heap:=h' }:=I.kept (t':=s.toks) λb o e=>hx b o (ZT (Ye e)) e
 exact h b_ _ σ H xs _ Q g (by simpa using c) hw
def Np(a b:TE)(t:BH):TG:=λv σ H Q=>a σ H λo c=>b σ c λi d=>t o i v d λf=>Q σ f
theorem J5 {o i:Expr} {c d:TE} {t:BH} (f:PE X o c) (g:PE X i d) (j:E8 X t)
    (ha:∀ v,assign (.Subscript o i pos) X.env v = (do
      let a ← holding [v] (eval o X.env)
      let b ← holding [v,a] (eval i X.env)
      standAt pos
      holding [v,a,b] (setItem a b v)
      release [v,a,b] []):=by intro _; rfl):PG X (.Subscript o i pos) (Np c d t):=by
  intro b_ s σ H v u Q I r h
  rw [ha]
  refine Yb (Yj (aN (f b_ s σ H _ I h) λa s1 k=>?_))
  obtain ⟨x,l,m,n,p⟩:=k
  refine Yb (Yj (aN (g b_ s1 σ l _ m p) λb s2 w=>?_))
  obtain ⟨y,z,A,B,C⟩:=w
  refine Yb (Yk (Yb (Yj (aN (j b_ s2 σ z x y v a b u _ A n B r C) λ_ K E=>?_))))
  obtain ⟨F,G,J⟩:=E
  exact wpAny_release ⟨σ,F,G,J⟩
def J6(te:TE)(g:TG):TS:=λD σ H=>te σ H λx a=>g x σ a D.nx
theorem Dr{tg e:Expr}{te:TE}{g:TG}(a:PE X e te)(hg:PG X tg g)(b:swapsWithSole [tg] e pos.line X.env=pure false:=by rfl)(hw:swappedStores [tg] e X.env=pure none:=by rfl)
  (c:(assignEach [tg] X.env).map (·.2)=[assign tg X.env]:=by rfl):PS X (.Assign [tg] e pos) (J6 te g):=by
 intro b_ s σ H D I h;refine wpAny_Assign_stores (aN (a b_ s σ H _ I h) λv s1 d=>?_) b hw;obtain⟨x,f,j,k,l⟩:=d;rw[c];exact aN (hg b_ s1 σ f x v _ j k l) λ_ s2 q=>q
theorem J7{i:Nat}{x:Str}{e:Expr}{te:TE}{a:Pos}(b:X.N.Nodup)(c:X.N[i]?=some x)(hx:Loc X.env.scope x)(d:PE X e te)(f:swapsWith e (some (.Name x a)) pos.line X.env=pure false:=by rfl)(hf:X.fn x=true\/X.env.scope.names.lookup x=some .local:=by first | exact .inl rfl | exact .inr rfl | assumption):
  PS X (.Assign [.Name x a] e pos) (J6 te (xy i)):=by
 intro b_ s σ H D I h;refine wpAny_Assign_Name (aN (d b_ s σ H _ I h) λv s1 g=>?_) f;obtain⟨y,j,k,l,m⟩:=g;exact xN k b c hx l (λs2 n=>⟨_,j,n,m⟩) hf
end
section
variable {X:Cx}{pos:Pos}
def J8(c:TT)(f:TS):TS:=λD σ H=>∃W:Nat->St->Hp->Prop,(∃m,W m σ H)/\∀m σ H,W m σ H ->
 c σ H λb a=>if b=true then ∃N:St->Hp->Prop,(∀d H',N d H'->∃m',m'<m/\W m' d H')/\f { D with nx:=N,ct:=N,bk:=D.nx } σ a else D.nx σ a
theorem Fa{c:Expr}{a:Zu}{tc:TT}{t:TS}(hp:PassesOwn (model X.prog X.w) X.A X.env X.xe)(hc:PT X c tc)(hb:mH X a t):PS X (.While c a [] pos) (J8 tc t):=by
 intro b_ s σ H D I h;obtain⟨W,⟨E,F⟩,d⟩:=h;refine wpAny_While (codeAny_whileLoop (λn G=>∃u H',af X b_ u H' G/\W n u H') ?_ E ⟨σ,H,I,F⟩);rintro n s1 ⟨k,y,J,K⟩;refine wpAny_passesOwn hp (aN (hc b_ s1 k y _ J (d n k y K)) λb s2 L=>?_);obtain⟨z,B,l⟩:=L;cases b with
 |true=>
  obtain⟨N,C,l⟩:=l;rw[if_pos rfl];refine wpAny_passesOwn hp (aN (hb b_ s2 k z _ B l) λf O m=>?_);cases f with
  |next=>
   obtain⟨g,j,o,p⟩:=m;obtain⟨m',hm,r⟩:=C g j p;exact⟨m',hm,g,j,o,r⟩
  |cont=>
   obtain⟨g,j,o,p⟩:=m;obtain⟨m',hm,r⟩:=C g j p;exact⟨m',hm,g,j,o,r⟩
  |brk=>exact m
  |ret v=>exact m
 |false=>
  rw[if_neg YC];exact wpAny_execs_nil ⟨k,z,B,l⟩
end
structure It where
 go:Nat->Hp->Prop
 yld:Nat->Hp->V->Hp->Prop
 stop:Nat->Hp->Prop
def oX(X:Cx)(b_:Zc)(H:Hp)(b:Addr):Prop:=
 H b=none/\b≠X.env.locals/\b∉X.fs/\(b∈X.ex\/X.s₀.heap.objs.size<=b)/\(∀x c,X.env.cells.lookup x=some c->c≠b)/\∀p∈X.pn++b_,p.1≠b
theorem af.fpOk{X:Cx}{b_:Zc}{σ:St}{H H':Hp}{s:Shared}{b:Addr}(I:af X b_ σ H s)(hb:s.heap.objs.size<=b)(hn:H' b=none):oX X b_ H' b:=by
 refine⟨hn,Nat.ne_of_gt (ZR I.lt hb),I.nofs hb,.inr (ZW I.sz hb),λx c e z=>?_,λp hp z=>?_⟩
 ·obtain⟨v,q⟩:=I.cell x c e
  exact absurd (ZR q.lt (by rw[z];exact hb)) (ZS _)
 ·exact absurd (ZR (Ye (I.pin p hp).1) (by rw[z];exact hb)) (ZS _)
structure Turn (P:Zw) (w:World) (K:Za) (tg:Expr) (J:It) (fp:Zh) (it:Addr) (tn:Nat->Heap->Prop):Prop where
 mem:it∈fp
 obj:∀i h,tn i h->∀b∈fp,∃o,h.get? b=some o/\∀v,o.data≠.cell v
 keep:∀i h h',tn i h->(∀b∈fp,∀o,h.get? b=some o->h'.get? b=some o)->tn i h'
 item:∀(X:Cx),X.prog=P->X.w=w->X.K=K->X.calm=true->∀(i:Nat) (b_:Zc) (s:Shared) (σ:St) (H:Hp) (E:Zb),af X b_ σ H s->(∀b∈fp,oX X b_ H b)->tn i s.heap->J.go i H ->
  wpAny (model P w) X.A (pyNext (.ref it)) (λr s1=>∃u,r=some u /\
   wpAny (model P w) X.A (letOwnedTupleGo tg (.ref it) u) (λ_ s2=>∃x H',af X b_ σ H' s2/\RelV x u/\J.yld i H x H'/\tn (i+1) s2.heap/\∀b∈fp,H' b=none) E s1) E s
 done:∀(X:Cx),X.prog=P->X.w=w->X.K=K->X.calm=true->∀(i:Nat) (b_:Zc) (s:Shared) (σ:St) (H:Hp) (E:Zb),af X b_ σ H s->(∀b∈fp,oX X b_ H b)->tn i s.heap->J.stop i H ->
  wpAny (model P w) X.A (pyNext (.ref it)) (λr s1=>r=none/\af X b_ σ H s1) E s
 self:∀(A:Around) (i:Nat) (s:Shared) (Q:Zb) (E:Zb),tn i s.heap->Q (.ref it) s->wpAny (model P w) A (pyIter (.ref it)) Q E s
abbrev TI:=St->Hp->(It->Hp->Prop)->Prop
def t7(X:Cx)(b_:Zc)(σ:St)(tg:Expr)(R:It->Hp->Prop)(a:Value)(s2:Shared):Prop:=
 ∃(it:Addr) (fp:Zh) (tn:Nat->Heap->Prop) (J:It) (H':Hp),a=.ref it/\af X b_ σ H' s2/\Turn X.prog X.w X.K tg J fp it tn/\tn 0 s2.heap/\(∀b∈fp,oX X b_ H' b)/\R J H'
def PI(X:Cx)(tg a:Expr)(b:TI):Prop:=
 ∀(b_:Zc) (s:Shared) (σ:St) (H:Hp) (R:It->Hp->Prop),af X b_ σ H s->b σ H R ->
  wpAny (model X.prog X.w) X.A (eval a X.env) (λv s1=>wpAny (model X.prog X.w) X.A (pyIter v) (t7 X b_ σ tg R) X.xe s1) X.xe s
theorem rH {M:Model} {A:Around} {E:Zb} {s:Shared} {tg:Expr} {it:Addr} {u:Value} {o:Obj} {n:String} {vs:Zl} {Q:Zo} (b:s.heap.get? it = some o) (hc:o.cls = .type n) (hd:o.data = .fields vs)
    (hn:["enumerate","zip","dict_itemiterator","dict_reverseitemiterator","odict_iterator","itertools.zip_longest","itertools.pairwise"].contains n = false) (a:Q () s):wpAny M A (letOwnedTupleGo tg (.ref it) u) Q E s:=by
  unfold letOwnedTupleGo
  cases tg <;> first
    | exact Yc a
    | (cases u <;> first
        | exact Yc a
        | (refine Yb (wpAny_load b ?_)
           rw [hc,hd]
           show wpAny M A (if (["enumerate","zip","dict_itemiterator","dict_reverseitemiterator","odict_iterator","itertools.zip_longest","itertools.pairwise"].contains n && vs[0]? == some (rawInt _)) = true then _ else _) Q E s
           rw [if_neg (by intro h; rw [hn,YD] at h; cases h)]
           exact Yc a))
def J9(K:Za)(a:Addr):It:=
 ⟨λi H=>∃xs x,bH K H a xs/\xs[i]?=some x,λi H x H'=>H'=H/\∀xs,bH K H a xs->xs[i]?=some x,λi H=>∃xs,bH K H a xs/\xs.length<=i⟩
def Ka(K:Za)(a:Addr):It:=
 ⟨λi H=>∃xs x,ca K H a xs/\xs[i]?=some x,λi H x H'=>H'=H/\∀xs,ca K H a xs->xs[i]?=some x,λi H=>∃xs,ca K H a xs/\xs.length<=i⟩
def Hm(lo:Int)(n:Nat):It:=⟨λi _=>i<n,λi H x H'=>H'=H/\x=.int (lo+i),λi _=>n<=i⟩
theorem Ds{P:Zw}{w:World}{K:Za}{tg:Expr}(a it:Addr):Turn P w K tg (J9 K a) [it] it (λi h=>h.IsListIter it a i) where
 mem:=by simp
 obj:=λi h st b hb=>by
  have e:b=it:=by simpa using hb
  subst e;obtain⟨o,e,c,d⟩:=st;exact⟨o,e,λv z=>by rw[d] at z;cases z⟩
 keep:=λi h h' st k=>st.at λo e=>k it (by simp) o e
 item:=by
  intro X f hw g hc i b_ s σ H E I hf st hg;subst f hw g;obtain⟨xs,x,hq,hx⟩:=hg;obtain⟨f_,j,p,hz⟩:=I.list hq;obtain⟨u,hu,A⟩:=j.get hx;obtain⟨l,m,B,n,r,t⟩:=hf it (by simp);refine wpAny_pyNext_list_item st p.isList (x:=u) (by simpa using hu) λh' y C=>?_
  have F:af X b_ σ H { s with heap:=h' }:=I.turned (t':=s.toks) (λb o hb e=>(C.2 b hb).trans e) l m n r t;obtain⟨o,e,c,d⟩:=id y;exact⟨u,rfl,rH (s:={ s with heap:=h' }) e c d (by decide) ⟨x,H,F,A,⟨rfl,λJ hy=>by rw[I.list_inj hy hq];exact hx⟩,y,λb hb=>(hf b hb).1⟩⟩
 done:=by
  intro X f hw g hc i b_ s σ H E I hf st hg;subst f hw g;obtain⟨xs,hq,hx⟩:=hg;obtain⟨f_,j,p,hz⟩:=I.list hq;obtain⟨l,m,B,n,r,t⟩:=hf it (by simp);have hl:=j.length;exact wpAny_pyNext_list_end (I.ok.hd hc) st p.isList (by simp;omega) λh' G=>⟨rfl,I.turned (t':=s.toks) (λb o hb e=>G b o hb e) l m n r t⟩
 self:=λ_ _ _ _ _ st h=>wpAny_pyIter_listiter st h
theorem BI{P:Zw}{w:World}{K:Za}{tg:Expr}(a it:Addr):Turn P w K tg (Ka K a) [it] it (λi h=>h.IsTupleIter it a i) where
 mem:=by simp
 obj:=λi h st b hb=>by
  have e:b=it:=by simpa using hb
  subst e;obtain⟨o,e,c,d⟩:=st;exact⟨o,e,λv z=>by rw[d] at z;cases z⟩
 keep:=λi h h' st k=>st.at λo e=>k it (by simp) o e
 item:=by
  intro X f hw g hc i b_ s σ H E I hf st hg;subst f hw g;obtain⟨xs,x,hq,hx⟩:=hg;obtain⟨f_,j,p,hz⟩:=I.tuple hq;obtain⟨u,hu,A⟩:=j.get hx;obtain⟨l,m,B,n,r,t⟩:=hf it (by simp);refine wpAny_pyNext_tuple_item st (show s.heap.IsTuple a f_.toArray from p) (x:=u) (by simpa using hu) λh' y C=>?_
  have F:af X b_ σ H { s with heap:=h' }:=I.turned (t':=s.toks) (λb o hb e=>(C.2 b hb).trans e) l m n r t;obtain⟨o,e,c,d⟩:=id y;exact⟨u,rfl,rH (s:={ s with heap:=h' }) e c d (by decide) ⟨x,H,F,A,⟨rfl,λJ hy=>by rw[I.tuple_inj hy hq];exact hx⟩,y,λb hb=>(hf b hb).1⟩⟩
 done:=by
  intro X f hw g hc i b_ s σ H E I hf st hg;subst f hw g;obtain⟨xs,hq,hx⟩:=hg;obtain⟨f_,j,p,hz⟩:=I.tuple hq;obtain⟨l,m,B,n,r,t⟩:=hf it (by simp);have hl:=j.length;exact wpAny_pyNext_tuple_end (I.ok.hd hc) st (show s.heap.IsTuple a f_.toArray from p) (by simp;omega) λh' G=>⟨rfl,I.turned (t':=s.toks) (λb o hb e=>G b o hb e) l m n r t⟩
 self:=λ_ _ _ _ _ st h=>wpAny_pyIter_tupleiter st h
theorem BJ{P:Zw}{w:World}{K:Za}{tg:Expr}(it:Addr)(lo:Int)(n:Nat):Turn P w K tg (Hm lo n) [it] it (λi h=>IsRangeIter h it (lo+(i:Nat)*1) ((n:Int)-(i:Nat)) 1) where
 mem:=by simp
 obj:=λi h st b hb=>by
  have e:b=it:=by simpa using hb
  subst e;exact⟨_,st,λv z=>by
   have p:Data.fields _=Data.cell v:=z;cases p⟩
 keep:=λi h h' st k=>k it (by simp) _ st
 item:=by
  intro X a hw c hc i b_ s σ H E I hf st hg;subst a hw c;obtain⟨d,f,r,g,j,l⟩:=hf it (by simp);have W:=Walks.range (prog:=X.prog) (w:=X.w) (I.ok.hd hc) it lo 1 n;refine W.item i s _ _ hg st λv h' tk u m y=>?_
  obtain⟨t,rfl⟩:=u;have A:af X b_ σ H { s with heap:=h',toks:=tk }:=I.turned (λb o hb e=>y b o (by simpa using hb) e) d f g j l;refine⟨_,rfl,rH (s:={ s with heap:=h',toks:=tk }) (n:="range_iterator") m rfl rfl (by decide) ⟨.int (lo+i),H,A,⟨t,?_⟩,⟨rfl,rfl⟩,m,λb hb=>(hf b hb).1⟩⟩;rw[Int.mul_one]
 done:=by
  intro X a hw c hc i b_ s σ H E I hf st hg;subst a hw c;obtain⟨d,f,r,g,j,l⟩:=hf it (by simp);exact wpAny_pyNext_range_end (I.ok.hd hc) st (by have:n<=i:=hg;omega) λh' B=>⟨rfl,I.turned (t':=s.toks) (λb o hb e=>B b o hb e) d f g j l⟩
 self:=λ_ _ _ _ _ st h=>wpAny_pyIter_rangeiter st h
section
variable {X:Cx}{tg:Expr}
theorem Fb{b_:Zc}{σ:St}{H:Hp}{s:Shared}{R:It->Hp->Prop}{E:Zb}{lo a:Int}{t u v:Tok}{tk:Nat}(I:af X b_ σ H s)(d:-(2 ^ 62)<=lo)(h2:lo<2 ^ 62)(f:-(2 ^ 62)<=a)(g:a<2 ^ 62)
  (q:R (Hm lo (a-lo).toNat) H):wpAny (model X.prog X.w) X.A (pyIter (.ref s.heap.objs.size)) (t7 X b_ σ tg R) E { s with heap:=s.heap.push { cls:=.type "range",data:=.fields #[.int lo t,.int a u,.int 1 v] },toks:=tk }:=by
 refine wpAny_pyIter_range (IsRange.new ..) (small_one d h2 f g) ?_;have c:af X b_ σ H { s with heap:=s.heap.push { cls:=.type "range",data:=.fields #[.int lo t,.int a u,.int 1 v] },toks:=tk }:=I.kept λb o e=>Yd _ e
 refine⟨(s.heap.push { cls:=.type "range",data:=.fields #[.int lo t,.int a u,.int 1 v] }).objs.size,[(s.heap.push { cls:=.type "range",data:=.fields #[.int lo t,.int a u,.int 1 v] }).objs.size],_,_,H,rfl,
  c.kept (t':=tk) λb o e=>Yd _ e,BJ _ lo (a-lo).toNat,?_,λb hb=>?_,q⟩
 ·have j:lo+((0:Nat):Int)*1=lo:=by simp
  have k:(((a-lo).toNat:Nat):Int)-((0:Nat):Int)=Builtin.Range.rangeSize lo a 1:=by rw[rangeSize_one];split<;>omega
  show IsRangeIter _ _ (lo+((0:Nat):Int)*1) ((((a-lo).toNat:Nat):Int)-((0:Nat):Int)) 1;rw[j,k];exact Yg _ rfl
 ·have e:b=(s.heap.push { cls:=.type "range",data:=.fields #[.int lo t,.int a u,.int 1 v] }).objs.size:=by simpa using hb
  subst e;exact c.fpOk (YE _) (c.hok.fresh (YE _))
def Mb(a:TA):TI:=λσ H R=>a σ H λvs b=>∃j:Int,vs=[.int j]/\-(2 ^ 62)<=j/\j<2 ^ 62/\R (Hm 0 j.toNat) b
theorem Dt{a:Expr}{d:TA}{p b:Pos}(hg:Gl X "range")(hm:X.mg "range" = none)(ha:PA X [a] d)(f:starEach [a] X.env=[(false,eval a X.env)]:=by rfl):PI X tg (.Call (.Name "range" p) [a] [] b) (Mb d):=by
 intro b_ s σ H R I h;refine Call_ (fg I hg hm boot_range (PyProof.Rows.callWith_type1 (aN (ha b b_ s σ H _ I h) λus s1 g=>?_) f rfl));obtain⟨vs,o,k,l,c⟩:=g;obtain⟨j,e,c,m,q⟩:=c;subst e;cases l with
 |cons r n=>
  cases n;obtain⟨t,rfl⟩:=r;exact call_range_1 (Fb k (by omega) (by omega) c m (by simpa using q))
def Nq(b:TI)(g:TG)(c:TS):TS:=λD σ H=>b σ H λJ d=>∃W:Nat->Nat->St->Hp->Prop,(∃m,W 0 m σ d)/\∀i m σ H,W i m σ H ->
 (J.stop i H/\D.nx σ H)\/(J.go i H/\∃N:St->Hp->Prop,(∀a H',N a H'->∃m',m'<m/\W (i+1) m' a H')/\∀x H',J.yld i H x H'->g x σ H' λf j=>c { D with nx:=N,ct:=N,bk:=D.nx } f j)
def kg(fp:Zh)(h:Heap):List (Addr×Obj):=fp.filterMap λb=>(h.get? b).map λo=>(b,o)
theorem ly{fp:Zh}{h:Heap}{b:Addr}{o:Obj}(hb:b∈fp)(e:h.get? b=some o):(b,o)∈kg fp h:=List.mem_filterMap.mpr ⟨b,hb,by rw[e];rfl⟩
theorem wd{fp:Zh}{h:Heap}{p:Addr×Obj}(hp:p∈kg fp h):p.1∈fp/\h.get? p.1=some p.2:=by
 obtain⟨b,hb,e⟩:=List.mem_filterMap.mp hp;cases q:h.get? b with
 |none=>rw[q] at e;cases e
 |some o=>
  rw[q] at e;have e':(b,o)=p:=Yi e;subst e';exact⟨hb,q⟩
theorem af.pinned{b_:Zc}{σ:St}{H:Hp}{s:Shared}{fp:Zh}(I:af X b_ σ H s)(hf:∀b∈fp,oX X b_ H b)(a:∀b∈fp,∃o,s.heap.get? b=some o/\∀v,o.data≠.cell v):af X (b_++kg fp s.heap) σ H s:=
 I.pins_of λp hp=>(YA.mp hp).elim (λz=>I.pin p (YF _ z)) λz=>by
  obtain⟨hb,e⟩:=wd z;obtain⟨c,f,g,_⟩:=hf p.1 hb;obtain⟨o,e',d⟩:=a p.1 hb;rw[e] at e';cases e';exact⟨e,c,f,g,d⟩
theorem af.unpinned{b_ a:Zc}{σ:St}{H:Hp}{s:Shared}(I:af X (b_++a) σ H s):af X b_ σ H s:=I.pins_of λp hp=>I.pin p (YF _ (List.mem_append_left _ hp))
theorem Kb{a:Expr}{l:Zu}{O:TI}{g:TG}{P:TS}{E:Pos}(hp:PassesOwn (model X.prog X.w) X.A X.env X.xe)(hc:X.calm=true)(hi:PI X tg a O)(hg:PG X tg g)(hb:mH X l P)
  (hs:∀x,foldedSetIterable a X.env x=pure x:=by intro _;rfl):PS X (.For tg a l [] E) (Nq O g P):=by
 intro b_ s σ H D I h;refine wpAny_For (aN (hi b_ s σ H _ I h) λv s1 h1=>aN h1 λU3 s2 h2=>?_) hs;obtain⟨it,fp,tn,J,H2,e,I2,T,Sl,R,W,⟨m0,w0⟩,t⟩:=h2;subst e
 -- what stays true of the iterator's objects through the loop
 have F:∀{H':Hp},(∀b∈fp,H' b=none)->∀b∈fp,oX X b_ H' b:=λhn b hb=>⟨hn b hb,(R b hb).2⟩
 refine codeAny_forLoop_any (λn S=>∃i y H',af X b_ y H' S/\tn i S.heap/\(∀b∈fp,H' b=none)/\W i n y H') ?_ m0 ⟨0,σ,H2,I2,Sl,λb hb=>(R b hb).1,w0⟩;rintro n U ⟨i,z,C,V,Y,Z,w3⟩;rcases t i n z C w3 with⟨stop,qn⟩ | ⟨go,N,hN,step⟩
 ·refine wpAny_passesOwn hp (aN (T.done X rfl rfl rfl hc i b_ U z C X.xe V (F Z) Y stop) λr s4 U5=>?_)
  obtain⟨G,I4⟩:=U5;subst G;exact wpAny_execs_nil ⟨z,C,I4,qn⟩
 ·refine wpAny_passesOwn hp (aN (T.item X rfl rfl rfl hc i b_ U z C X.xe V (F Z) Y go) λr s4 U6=>?_)
  obtain⟨u,G,h4⟩:=U6;subst G;refine wpAny_passesOwn hp (aN h4 λ_ s5 U7=>?_);obtain⟨x,H5,I5,r5,y5,K,U8⟩:=U7;have U9:=I5.pinned (F U8) (T.obj _ _ K);refine wpAny_passesOwn hp (aN (hg _ s5 z H5 x u _ U9 r5 (step x H5 y5)) λ_ s6 U_=>?_);obtain⟨PQ,H6,I6,q6⟩:=U_;refine wpAny_passesOwn hp (aN (hb _ s6 PQ H6 _ I6 q6) λf L p=>?_);have again:∀{c:St}{j:Hp},af X (b_++kg fp s5.heap) c j L->N c j->∃m,m<n/\∃i y H',af X b_ y H' L/\tn i L.heap/\(∀b∈fp,H' b=none)/\W i m y H':=λ{c j} k B=>by
   obtain⟨m',hm,w7⟩:=hN c j B;refine⟨m',hm,i+1,c,j,k.unpinned,T.keep _ _ _ K λb hb o e=>(k.pin (b,o) (YF _ (YF _ (ly hb e)))).1,λb hb=>?_,w7⟩;obtain⟨o,e,d⟩:=T.obj _ _ K b hb;exact(k.pin (b,o) (YF _ (YF _ (ly hb e)))).2.1
  cases f with
  |next=>obtain⟨c,j,k,B⟩:=p;exact again k B
  |cont=>obtain⟨c,j,k,B⟩:=p;exact again k B
  |brk=>obtain⟨c,j,k,p⟩:=p;exact⟨c,j,k.unpinned,p⟩
  |ret v=>obtain⟨x7,c,j,k,r7,p⟩:=p;exact⟨x7,c,j,k.unpinned,r7,p⟩
end
abbrev R2:=V->V->Hp->VK->Prop
def cI(X:Cx)(f:Zk)(r:R2):Prop:=
 ∀(b_:Zc) (s:Shared) (σ:St) (H:Hp) (x y:V) (v u:Value) (Q:VK),af X b_ σ H s->RelV x v->RelV y u->r x y H Q ->
  wpAny (model X.prog X.w) X.A (f v u) (EP X b_ σ Q) X.xe s
def Hn(X:Cx)(f:Value->Sem Value)(r:V->Hp->VK->Prop):Prop:=
 ∀(b_:Zc) (s:Shared) (σ:St) (H:Hp) (x:V) (v:Value) (Q:VK),af X b_ σ H s->RelV x v->r x H Q ->
  wpAny (model X.prog X.w) X.A (f v) (EP X b_ σ Q) X.xe s
def d0(X:Cx)(f:Value)(r:List V->Hp->VK->Prop):Prop:=
 ∀(b_:Zc) (s:Shared) (σ:St) (H:Hp) (xs:List V) (us:Zd) (Q:VK),af X b_ σ H s->av xs us->r xs H Q ->
  wpAny (model X.prog X.w) X.A (call f us) (EP X b_ σ Q) X.xe s
def Nr(X:Cx)(r:V->Hp->(Bool->Hp->Prop)->Prop):Prop:=
 ∀(b_:Zc) (s:Shared) (σ:St) (H:Hp) (x:V) (v:Value) (Q:Bool->Hp->Prop),af X b_ σ H s->RelV x v->r x H Q ->
  wpAny (model X.prog X.w) X.A (truthy v) (TP X b_ σ Q) X.xe s
def Ho(r:R2)(a b:TE):TE:=λσ H Q=>a σ H λx c=>b σ c λy d=>r x y d Q
def N0(r:V->Hp->VK->Prop)(a:TE):TE:=λσ H Q=>a σ H λx b=>r x b Q
def rI(C:Int->Int->Prop)(g:Int->Int->V):R2:=λx y H Q=>∃i j,x=.int i/\y=.int j/\C i j/\Q (g i j) H
def oj(g:Int->Int->V):R2:=λx y H Q=>∃i j,x=.int i/\y=.int j/\Q (g i j) H
def rU(g:Int->V):V->Hp->VK->Prop:=λx H Q=>∃i,x=.int i/\Q (g i) H
section
variable {X:Cx}{a b c:Expr}{ta tb tc:TE}{pos:Pos}
theorem Fc(ha:PE X a ta)(hb:PE X b tb){b_:Zc}{s:Shared}{σ:St}{H:Hp}{R:V->V->Hp->Prop}(I:af X b_ σ H s)
  (h:ta σ H λx g=>tb σ g λy d=>R x y d){Q:Zb}{f:Zk}
  (hf:∀v u s2 x y d,af X b_ σ d s2->RelV x v->RelV y u->R x y d->wpAny (model X.prog X.w) X.A (f v u) Q X.xe s2):
  wpAny (model X.prog X.w) X.A (eval a X.env) (λv j=>wpAny (model X.prog X.w) X.A (eval b X.env) (λu k=>wpAny (model X.prog X.w) X.A (f v u) Q X.xe k) X.xe j) X.xe s:=by
 refine aN (ha b_ s σ H _ I h) λv s1 l=>?_
 obtain⟨x,g,m,n,o⟩:=l;refine aN (hb b_ s1 σ g _ m o) λu s2 p=>?_
 obtain⟨y,d,r,t,z⟩:=p;exact hf v u s2 x y d r n t z
theorem Mc{op:Operator}{r:R2}(d:cI X (binaryOp op) r)(ha:PE X a ta)(hb:PE X b tb):PE X (.BinOp a op b pos) (Ho r ta tb):=by
 intro b_ s σ H Q I h;exact wpAny_BinOp (Fc ha hb I h λv u s2 x y f g j k q=>d b_ s2 σ f x y v u Q g j k q)
theorem Hq{op:UnaryOp}{r:V->Hp->VK->Prop}(d:Hn X (unaryOp op) r)(ha:PE X a ta):PE X (.UnaryOp op a pos) (N0 r ta):=by
 intro b_ s σ H Q I h;refine UnaryOp_ (aN (ha b_ s σ H _ I h) λv s1 f=>?_);obtain⟨x,g,j,k,l⟩:=f;exact d b_ s1 σ g x v Q j k l
theorem AL{f:Zk}{C:Int->Int->Prop}{g:Int->Int->Int}
  (rule:∀(i j:Int) (t u:Tok) (s:Shared) (Q:Zb) (E:Zb),C i j->Q (.int (g i j) s.toks) { s with toks:=s.toks+1 }->wpAny (model X.prog X.w) X.A (f (.int i t) (.int j u)) Q E s):
  cI X f (rI C λi j=>.int (g i j)):=by
 intro b_ s σ H x y v u Q I d k h;obtain⟨i,j,rfl,rfl,hc,q⟩:=h;obtain⟨t,rfl⟩:=d;obtain⟨t',rfl⟩:=k;exact rule i j t t' s _ _ hc ⟨.int (g i j),H,I.tok _,⟨_,rfl⟩,q⟩
theorem xO{f:Zk}{g:Int->Int->Int}
  (rule:∀(i j:Int) (t u:Tok) (s:Shared) (Q:Zb) (E:Zb),Q (.int (g i j) s.toks) { s with toks:=s.toks+1 }->wpAny (model X.prog X.w) X.A (f (.int i t) (.int j u)) Q E s):
  cI X f (oj λi j=>.int (g i j)):=by
 intro b_ s σ H x y v u Q I d k h;obtain⟨i,j,rfl,rfl,q⟩:=h;obtain⟨t,rfl⟩:=d;obtain⟨t',rfl⟩:=k;exact rule i j t t' s _ _ ⟨.int (g i j),H,I.tok _,⟨_,rfl⟩,q⟩
theorem BK{f:Zk}{g:Int->Int->Bool}
  (rule:∀(i j:Int) (t u:Tok) (s:Shared) (Q:Zb) (E:Zb),Q (.bool (g i j)) s->wpAny (model X.prog X.w) X.A (f (.int i t) (.int j u)) Q E s):
  cI X f (oj λi j=>.bl (g i j)):=by
 intro b_ s σ H x y v u Q I d k h;obtain⟨i,j,rfl,rfl,q⟩:=h;obtain⟨t,rfl⟩:=d;obtain⟨t',rfl⟩:=k;exact rule i j t t' s _ _ ⟨.bl (g i j),H,I,rfl,q⟩
def Kc(i j:Int):Prop:=0<j/\j<1073741824
def xP(i j:Int):Prop:=0<=j/\j<=1000000/\i.natAbs<2 ^ 64
def xQ(i j:Int):Prop:=(-(2 ^ 64)<i/\i<2 ^ 64)\/(-(2 ^ 64)<j/\j<2 ^ 64)
theorem xQ.ok{i j:Int}(h:xQ i j):IntMulOk i j:=by
 rcases h with⟨d,h2⟩ | ⟨d,h2⟩
 ·exact .of_left (intBits_le_64 d h2)
 ·exact .of_right (intBits_le_64 d h2)
theorem BL(k:Nat):(0:Int)<=2 ^ k:=by
 rw[two_pow_cast];exact Int.natCast_nonneg _
theorem Kd:cI X (binaryOp .Add) (oj λi j=>.int (i+j)):=xO λ_ _ _ _ _ _ _ q=>add_int q
theorem Ke:cI X (binaryOp .Sub) (oj λi j=>.int (i-j)):=xO λ_ _ _ _ _ _ _ q=>sub_int q
theorem Kf:cI X (binaryOp .Mult) (rI xQ λi j=>.int (i*j)):=AL λ_ _ _ _ _ _ _ hc q=>mul_int q hc.ok
theorem Ie:cI X (binaryOp .FloorDiv) (rI Kc λi j=>.int (i / j)):=AL λi j _ _ _ _ _ hc q=>by
 have d:(0:Int)<j:=hc.1;have h2:j<1073741824:=hc.2;exact floordiv_int (by omega) (by rw[Int.fdiv_eq_ediv_of_nonneg i (by omega)];exact q) (.inl (PyProof.noPylong_small (by omega)))
theorem Kg:cI X (binaryOp .Mod) (rI (λ_ j=>0<j) λi j=>.int (i%j)):=AL λi j _ _ _ _ _ hc q=>by
 have d:(0:Int)<j:=hc;exact mod_int' (by omega) (by rw[Int.fmod_eq_emod_of_nonneg i (by omega)];exact q)
theorem Kh:cI X (binaryOp .Pow) (rI xP λi j=>.int (i ^ j.toNat)):=AL λ_ _ _ _ _ _ _ hc q=>pow_int_small hc.1 hc.2.1 hc.2.2 q
theorem Ki:cI X (binaryOp .LShift) (rI xP λi j=>.int (i*2 ^ j.toNat)):=AL λ_ _ _ _ _ _ _ hc q=>lshift_int_small hc.1 hc.2.1 hc.2.2 q
theorem Kj:cI X (binaryOp .RShift) (rI (λ_ j=>0<=j) λi j=>.int (i / 2 ^ j.toNat)):=AL λi j _ _ _ _ _ hc q=>
 rshift_int hc (by rw[Int.fdiv_eq_ediv_of_nonneg i (BL _)];exact q)
theorem Kk:cI X (binaryOp .BitAnd) (oj λi j=>.int (Builtin.bitAnd i j)):=xO λ_ _ _ _ _ _ _ q=>and_int q
theorem Md:cI X (binaryOp .BitOr) (oj λi j=>.int (Builtin.bitOr i j)):=xO λ_ _ _ _ _ _ _ q=>or_int q
theorem Kl:cI X (binaryOp .BitXor) (oj λi j=>.int (Builtin.bitXor i j)):=xO λ_ _ _ _ _ _ _ q=>xor_int q
theorem ML{f:Value->Sem Value}{g:Int->Int}
  (rule:∀(i:Int) (t:Tok) (s:Shared) (Q:Zb) (E:Zb),Q (.int (g i) s.toks) { s with toks:=s.toks+1 }->wpAny (model X.prog X.w) X.A (f (.int i t)) Q E s):
  Hn X f (rU λi=>.int (g i)):=by
 intro b_ s σ H x v Q I d h;obtain⟨i,rfl,q⟩:=h;obtain⟨t,rfl⟩:=d;exact rule i t s _ _ ⟨.int (g i),H,I.tok _,⟨_,rfl⟩,q⟩
theorem Km:Hn X (unaryOp .USub) (rU λi=>.int (-i)):=ML λ_ _ _ _ _ q=>neg_int q
theorem Kn:Hn X (unaryOp .Invert) (rU λi=>.int (Builtin.bitNot i)):=ML λ_ _ _ _ _ q=>invert_int q
end
section
variable {X:Cx}{a b c:Expr}{ta tb tc:TE}{pos:Pos}
theorem Du{b_:Zc}{σ:St}{H:Hp}{s:Shared}{Q:VK}{k k':Bool}(I:af X b_ σ H s)(q:Q (.bl k) H)(e:k=k'):EP X b_ σ Q (.bool k') s:=by
 subst e;exact⟨.bl k,H,I,rfl,q⟩
theorem Me:cI X (compareOp .Lt) (oj λi j=>.bl (decide (i<j))):=BK λ_ _ _ _ _ _ _ q=>lt_int q
theorem Mf:cI X (compareOp .LtE) (oj λi j=>.bl (decide (i<=j))):=BK λ_ _ _ _ _ _ _ q=>le_int q
theorem Mg:cI X (compareOp .Gt) (oj λi j=>.bl (decide (j<i))):=BK λ_ _ _ _ _ _ _ q=>gt_int q
theorem Mh:cI X (compareOp .GtE) (oj λi j=>.bl (decide (j<=i))):=BK λ_ _ _ _ _ _ _ q=>ge_int q
theorem Ko:cI X (compareOp .Is) (λx y H Q=>y=.non/\Q (.bl (decide (x=.non))) H):=by
 intro b_ s σ H x y v u Q I d f h;obtain⟨rfl,q⟩:=h;cases f;refine is_none_gen (Du I q ?_);cases x<;>first
  |(cases d;rfl)
  |(obtain⟨t,rfl⟩:=d;rfl)
theorem Ig:cI X (compareOp .IsNot) (λx y H Q=>y=.non/\Q (.bl (!decide (x=.non))) H):=by
 intro b_ s σ H x y v u Q I d f h;obtain⟨rfl,q⟩:=h;cases f;refine isnot_none_gen (Du I q ?_);cases x<;>first
  |(cases d;rfl)
  |(obtain⟨t,rfl⟩:=d;rfl)
theorem Ih{op:CmpOp}{r:R2}(d:cI X (compareOp op) r)(ha:PE X a ta)(hb:PE X b tb)(hm:behindInMarks op b=false):PE X (.Compare a [op] [b] pos) (Ho r ta tb):=by
 intro b_ s σ H Q I h;exact wpAny_Compare1 (Fc ha hb I h λv u s2 x y f g j k q=>d b_ s2 σ f x y v u Q g j k q) hm
def Mi(t:TE):TT:=λσ H Q=>t σ H λx H'=>∃k,x=.bl k/\Q k H'
theorem Ii{op:CmpOp}{r:R2}(d:cI X (compareOp op) r)(ha:PE X a ta)(hb:PE X b tb)(hm:behindInMarks op b=false):PT X (.Compare a [op] [b] pos) (Mi (Ho r ta tb)):=by
 intro b_ s σ H Q I h;refine wpAny_isTrue_Compare1 (aN (ha b_ s σ H _ I h) λv s1 ⟨x,f,g,j,l⟩=>aN (hb b_ s1 σ f _ g l) λu s2 ⟨y,m,n,o,p⟩=>
  aN (d b_ s2 σ m x y v u _ n j o p) λc C ⟨z,t,w,A,k,e,B⟩=>?_) hm
 subst e;cases A;exact wpAny_truthy_bool ⟨t,w,B⟩
def Fd(K:Za)(x:V)(H:Hp)(k:Bool):Prop:=
 match x with
 |.non=>k=false
 |.bl b=>k=b
 |.int i=>k=(i != 0)
 |.str y=>y.length<=sizeLine/\k=((y.length:Int) != 0)
 |.byt y=>y.size<=sizeLine/\k=((y.size:Int) != 0)
 |.ref p=>(∃xs,bH K H p xs/\k = !xs.isEmpty)\/(∃xs,ca K H p xs/\k = !xs.isEmpty) \/ ∃d,H p=some (.dK d)/\k = !d.isEmpty
 |_=>False
theorem BM{d:Type}{f:List (d×V)}{vs:List (d×Value)}(r:KV f vs):(!vs.isEmpty) = !f.isEmpty:=by
 cases r<;>rfl
theorem t8{xs:List V}{f_:Zd}(r:av xs f_):(!f_.toArray.isEmpty) = !xs.isEmpty:=by
 cases r<;>simp
theorem lQ:(sizeLine:Nat)<2 ^ 63:=by rw[sizeLine_eq];decide
theorem Kq:Nr X (λx H Q=>∃k,Fd X.K x H k/\Q k H):=by
 intro b_ s σ H x v Q I d h;obtain⟨k,e,q⟩:=h;have hl:=lQ;have l:sizeLine=16777216:=sizeLine_eq;cases x with
 |non=>
  cases d;have e':k=false:=e;subst e';exact truthy_none ⟨H,I,q⟩
 |bl b=>
  cases d;have e':k=b:=e;subst e';exact wpAny_truthy_bool ⟨H,I,q⟩
 |int i=>
  obtain⟨t,rfl⟩:=d;have e':k=(i != 0):=e;subst e';exact PySem.P.truthy_int ⟨H,I,q⟩
 |str y=>
  obtain⟨t,rfl⟩:=d;obtain⟨hy,e'⟩:y.length<=sizeLine/\k=((y.length:Int) != 0):=e;subst e';exact PySem.P.truthy_str (by omega) ⟨H,I.tok _,q⟩
 |byt y=>
  obtain⟨t,rfl⟩:=d;obtain⟨hy,e'⟩:y.size<=sizeLine/\k=((y.size:Int) != 0):=e;subst e';exact PySem.W.truthy_bytes (by omega) ⟨H,I.tok _,q⟩
 |ref p=>
  cases d;have e':(∃xs,bH X.K H p xs/\k = !xs.isEmpty)\/(∃xs,ca X.K H p xs/\k = !xs.isEmpty) \/ ∃f,H p=some (.dK f)/\k = !f.isEmpty:=e;rcases e' with⟨xs,hx,e'⟩ | ⟨xs,hx,e'⟩ | ⟨f,hx,e'⟩
  ·subst e'
   obtain⟨f_,r,g,hz⟩:=I.list hx;have j:=r.length;exact wpAny_truthy_list g.isList (by simp only[YG];omega) ⟨H,I.tok _,by rw[t8 r];exact q⟩
  ·subst e'
   obtain⟨f_,r,g,hz⟩:=I.tuple hx;have j:=r.length;exact truthy_tuple g (by simp only[YG];omega) ⟨H,I.tok _,by rw[t8 r];exact q⟩
  ·subst e'
   obtain⟨hz,hS,vs,r,m⟩:f.length<=sizeLine/\(p==sysModules)=false/\∃vs,KV f vs/\s.heap.DictOf (bM X.prog X.w) p vs:=I.hok p _ hx;have j:f.length=vs.length:=Paired.length r;exact wpAny_truthy_dict hS m (by omega) ⟨H,I.tok _,by rw[BM r];exact q⟩
 |_=>exact(show False from e).elim
theorem Fe(ha:PE X a ta)(f:∀d,isTrue a X.env d=(do let v ←d;standAt a.pos;holding [v] (truthy v))):
  PT X a (λσ H Q=>ta σ H λx H'=>∃k,Fd X.K x H' k/\Q k H'):=by
 intro b_ s σ H Q I h;refine isTrue_plain (aN (ha b_ s σ H _ I h) λv s1 g=>?_) (f _);obtain⟨x,j,l,m,n⟩:=g;exact Kq b_ s1 σ j x v Q l m n
theorem BN:cI X (binaryOp .Add) (λx y H Q=>∃i j,x=.str i/\y=.str j/\i.length+j.length<=sizeLine/\Q (.str (i++j)) H):=by
 intro b_ s σ H x y v u Q I d f h;obtain⟨i,j,rfl,rfl,hz,q⟩:=h;obtain⟨t,rfl⟩:=d;obtain⟨t',rfl⟩:=f;exact add_str (λt' tk=>⟨.str (i++j),H,I.tok _,⟨_,rfl⟩,q⟩) hz
theorem vals1{x:V}{us:Zd}(r:av [x] us):∃u,us=[u]/\RelV x u:=by
 cases r with
 |cons d f=>cases f;exact⟨_,rfl,d⟩
theorem vals2{x y:V}{us:Zd}(r:av [x,y] us):∃u d,us=[u,d]/\RelV x u/\RelV y d:=by
 cases r with
 |cons f g=>
  cases g with
  |cons j k=>cases k;exact⟨_,_,rfl,f,j⟩
theorem Dv(hc:X.calm=true):d0 X (.builtin "min") (λxs H Q=>∃i j,xs=[.int i,.int j]/\Q (.int (if j<i then j else i)) H):=by
 intro b_ s σ H xs us Q I r h;obtain⟨i,j,rfl,q⟩:=h;obtain⟨u,f,rfl,⟨t,rfl⟩,⟨t',rfl⟩⟩:=vals2 r;refine min_two_ints (I.ok.hd hc) λh' tk k=>⟨_,H,I.kept k,?_,q⟩
 by_cases d:j<i
 ·rw[if_pos d,if_pos d];exact⟨_,rfl⟩
 ·rw[if_neg d,if_neg d];exact⟨_,rfl⟩
theorem we:d0 X (.type "int") (λxs H Q=>(∃i,xs=[.int i]/\Q (.int i) H) \/ ∃k,xs=[.bl k]/\Q (.int (if k then 1 else 0)) H):=by
 intro b_ s σ H xs us Q I r h;rcases h with⟨i,rfl,q⟩ | ⟨k,rfl,q⟩
 ·obtain⟨u,rfl,t,rfl⟩:=vals1 r
  exact call_int_int ⟨.int i,H,I,⟨_,rfl⟩,q⟩
 ·obtain⟨u,rfl,d⟩:=vals1 r
  cases d;exact call_int_bool ⟨.int (if k then 1 else 0),H,I.tok _,⟨_,rfl⟩,q⟩
theorem xR:d0 X (.type "str") (λxs H Q=>∃i,xs=[.int i]/\i.natAbs.log2<1920/\Q (.str (toString i)) H):=by
 intro b_ s σ H xs us Q I r h;obtain⟨i,rfl,hz,q⟩:=h;obtain⟨u,rfl,t,rfl⟩:=vals1 r;exact PySem.P.str_of_int hz ⟨.str _,H,I.tok _,⟨_,rfl⟩,q⟩
end
structure td (h:Heap) (x dx C:Addr) (mA:Ze):Prop where
 obj:h.get? x=some (PySem.W.instObj C dx)
 ns:h.Ns1 dx mA
 ne:dx≠x
theorem Dw{h:Heap}{dx:Addr}{mA:Ze}(n:h.Ns1 dx mA):∃od,h.get? dx=some od/\∀name,PySem.W.lookIn name od=some (mA name):=by
 obtain⟨o,es,f,b,hd,hk,_,hm⟩:=n;refine⟨o,b,λname=>?_⟩;have e:=hm name;unfold nsFind findBy at e;rw[←Array.find?_toList] at e;unfold PySem.W.lookIn;rw[hd];dsimp only;split
 ·rename_i y q
  rw[q] at e;exact congrArg some e
 ·rename_i q
  rw[q] at e;have a:es.toList.any (·.refKey)=false:=by
   rw[List.any_eq_false];intro y hy;obtain⟨z,t,c⟩:=hk y (Array.mem_toList_iff.mp hy);simp[DictEntry.refKey,c]
  have d:¬es.toList.any (·.refKey)=true:=by rw[a];exact YC
  rw[if_neg d];exact congrArg some e
theorem td.look{h:Heap}{x dx C:Addr}{mA:Ze}(I:td h x dx C mA):∃od,PySem.W.InstAt h x (PySem.W.instObj C dx) C (some od)/\∀name,PySem.W.lookIn name od=some (mA name):=
 let⟨od,ho,hl⟩:=Dw I.ns;⟨od,⟨I.obj,rfl,rfl,ho⟩,hl⟩
section
variable {prog:Zw}{w:World}{A:Around}{E:Zb}{s:Shared}{K:Za}{x dx C f:Addr}{mA:Ze}{name:Str}{v:Value}
theorem Ij{expr:Bool}{Q:Zb}(X:K.In s.heap)(I:td s.heap x dx C mA)(hg:PySem.W.plainGet K C name=true)(b:PySem.W.hasDictIn K C=true)
  (ha:PySem.W.findIn K (.ref C) name=some none) (c:mA name=some v) (a:PySem.W.handedIn v=true) (h:Q v { s with toks:=s.toks+1 }):
  wpAny (model prog w) A (getAttr (.ref x) name expr) Q E s:=by
 obtain⟨od,J,hl⟩:=I.look;exact PySem.W.get_value X J (PySem.W.plainGet_of hg).1 (PySem.W.findObj_own b ha rfl (by rw[hl,c])) a h
theorem Ff{a:Sem Bool}{Q:Value×List Value->Shared->Prop}(X:K.In s.heap)(I:td s.heap x dx C mA)(hg:PySem.W.plainGet K C name=true)
  (hf:PySem.W.findIn K (.ref C) name=some (some (.ref f))) (ht:PySem.W.isFn K (.ref f)=true) (b:mA name=none) (h:Q (.ref f,[.ref x]) s):
  wpAny (model prog w) A (getMethod (.ref x) name a) Q E s:=by
 obtain⟨od,J,hl⟩:=I.look;exact PySem.W.method_fn X J (PySem.W.plainGet_of hg).1 (PySem.W.plainGet_of hg).2 hf (beq_iff_eq.mp ht) (by show(PySem.W.lookIn name od).map (·.isSome)=some false;rw[hl,b];rfl) h
theorem Ik{ns:Zf}{Q:Zo}(X:K.In s.heap)(I:td s.heap x dx C mA)
  (l:PySem.W.findIn K (.ref C) "__setattr__" = some (some (.builtin "object.__setattr__"))) (hp:PySem.W.plainOver K C=true) (ht:PySem.W.takerIn K C name=some none) (m:PySem.W.hasDictIn K C=true)
  (hw:PySem.Within mA ns) (hsz:ns.length<=sizeLine)
  (h:∀h',td h' x dx C (λy=>if y=name then some v else mA y)->Heap.SameBut dx s.heap h'->Q () { s with heap:=h',toks:=s.toks+2 }):
  wpAny (model prog w) A (setAttr (.ref x) name v) Q E s:=by
 obtain⟨od,J,hl⟩:=I.look;refine PySem.W.set_plain X J l (PySem.W.osa_open (s:={ s with toks:=s.toks+1 }) (r:=none) X J hp ht λb=>?_);obtain⟨t,hc,n⟩:=PySem.W.any_some m;have hx:s.heap.get? x=some ⟨.ref C,some dx,.plain,#[]⟩:=I.obj;refine Yb (Yc (Yb (Yb (wpAny_loadPart hx (Yb (PySem.W.Looks.here (s:={ s with toks:=s.toks+1 }) (PySem.W.looks_clsIn X hc) ?_))))));rw[n];refine Yc (a:=some dx) (Yb (Yc (Yb ?_)));refine wpAny_nsSet1 (s:={ s with toks:=s.toks+1 }) I.ns λh' j k=>?_
 obtain⟨u,o,p,c,d,g⟩:=j.count (PySem.Within.cons name v hw);refine Yb (wpAny_lookBehind c (by rw[d];exact pastItsLine_dict (ZW g (by rw[YH];omega))) ?_);exact Yc (h _ ⟨(k.2 _ (Ne.symm I.ne)).trans I.obj,j,I.ne⟩ k)
theorem Fg{R:Result->Shared->Prop}{vs:Zd}{a:List (Str×Value)}(X:K.In s.heap)(hm:PySem.W.makesIn K C=true)
  (b:PySem.W.findIn K (.ref C) "__init__" = some (some (.ref f))) (hf:PySem.W.typeIn K (.ref f)=some (.type "function"))
  (h:codeAny (model prog w) (A.under (.builtin "type.__call__" ⟨.ref C::vs,a⟩)) (.call (.ref f) ⟨.ref (s.heap.objs.size+1)::vs,a⟩) (PySem.W.InitBack (s.heap.objs.size+1) R)
   { s with heap:=(s.heap.push PySem.W.emptyDict).push (PySem.W.instObj C s.heap.objs.size) }):
  codeAny (model prog w) A (.call (.ref C) ⟨vs,a⟩) R s:=by
 obtain⟨c,g,d,t,os⟩:=s;exact PySem.W.make_core (PySem.W.makes_of X hm) (PySem.W.looks_findIn X b) (λself=>PySem.W.bind_fn X self hf) (.inl rfl) h
end
def dB(f:Str)(v:V):List (Str×V)->List (Str×V)
 |[]=>[(f,v)]
 |(g,x)::r=>if g=f then(g,v)::r else(g,x)::dB f v r
theorem sD(f g:Str)(v:V):∀fs:List (Str×V),(dB f v fs).lookup g=if g=f then some v else fs.lookup g
 |[]=>by
  show List.lookup g [(f,v)]=_;by_cases h:g=f
  ·have hb:(g==f)=true:=beq_iff_eq.mpr h
   simp only[List.lookup,hb,if_pos h]
  ·have hb:(g==f)=false:=ZQ.mpr h
   simp only[List.lookup,hb,if_neg h]
 |(k,x)::r=>by
  have a:=sD f g v r;rw[show dB f v ((k,x)::r)=(if k=f then(k,v)::r else(k,x)::dB f v r) from rfl];by_cases hk:k=f
  ·rw[if_pos hk]
   by_cases h:g=k
   ·have hb:(g==k)=true:=beq_iff_eq.mpr h
    simp only[List.lookup,hb,if_pos (h.trans hk)]
   ·have hb:(g==k)=false:=ZQ.mpr h
    simp only[List.lookup,hb,if_neg (λe:g=f=>h (e.trans hk.symm))]
  ·rw[if_neg hk]
   by_cases h:g=k
   ·have hb:(g==k)=true:=beq_iff_eq.mpr h
    simp only[List.lookup,hb,if_neg (λe:g=f=>hk (h.symm.trans e))]
   ·have hb:(g==k)=false:=ZQ.mpr h
    simp only[List.lookup,hb];exact a
theorem qE(f:Str)(v:V):∀fs:List (Str×V),f∈(dB f v fs).map (·.1)/\∀g,g∈fs.map (·.1)->g∈(dB f v fs).map (·.1)
 |[]=>⟨by simp[dB],λg h=>by simp at h⟩
 |(k,x)::r=>by
  obtain⟨a,b⟩:=qE f v r;rw[show dB f v ((k,x)::r)=(if k=f then(k,v)::r else(k,x)::dB f v r) from rfl];by_cases hk:k=f
  ·rw[if_pos hk]
   subst hk;exact⟨by simp,λg h=>by simpa using h⟩
  ·rw[if_neg hk]
   refine⟨?_,λg h=>?_⟩
   ·rw[YJ]
    exact ZY _ a
   ·rw[YJ] at h ⊢
    rcases ZZ.mp h with e | e
    ·exact ZZ.mpr (.inl e)
    ·exact ZY _ (b g e)
theorem sF(f:Str)(v:V):∀fs:List (Str×V),(dB f v fs).length<=fs.length+1
 |[]=>by simp[dB]
 |(k,x)::r=>by
  have a:=sF f v r;rw[show dB f v ((k,x)::r)=(if k=f then(k,v)::r else(k,x)::dB f v r) from rfl];by_cases hk:k=f
  ·rw[if_pos hk,YH,YH];omega
  ·rw[if_neg hk,YH,YH];omega
theorem gc.some_of{v:V}{o:Zx}(r:gc (some v) o):∃u,o=some u/\RelV v u:=by
 cases o with
 |none=>exact(show False from r).elim
 |some u=>exact⟨u,rfl,r⟩
theorem gc.none_of{o:Zx}(r:gc none o):o=none:=by
 cases o with
 |none=>rfl
 |some u=>exact(show False from r).elim
theorem Dx{v:V}{u:Value}(r:RelV v u):PySem.W.handedIn u=true:=by
 cases v with
 |non=>cases(show u=Value.none from r);rfl
 |bl b=>cases(show u=Value.bool b from r);rfl
 |int i=>obtain⟨t,e⟩:=(show ∃t,u=Value.int i t from r);cases e;rfl
 |str x=>obtain⟨t,e⟩:=(show ∃t,u=Value.str x t from r);cases e;rfl
 |byt b=>obtain⟨t,e⟩:=(show ∃t,u=Value.bytes b t from r);cases e;rfl
 |flt b=>obtain⟨t,e⟩:=(show ∃t,u=Value.float b t from r);cases e;rfl
 |ref a=>cases(show u=Value.ref a from r);rfl
 |ty n=>cases(show u=Value.type n from r);rfl
section
variable {P:Zw}{w:World}{H H':Hp}{h h':Heap}{a C dx:Addr}{fs Q6:List (Str×V)}
theorem rJ(hok:cC P w H h)(e:H a=some (.ins C dx fs)):∃mA,td h a dx C mA/\(∀f,gc (fs.lookup f) (mA f))/\PySem.Within mA (fs.map (·.1))/\fs.length<=1000/\H dx=some (.own a):=by
 obtain⟨d,z,ne,b,mA,n,r,q⟩:=(show bp P w H h a (.ins C dx fs) from hok a _ e);exact⟨mA,⟨b,n,ne⟩,r,q,z,d⟩
end
structure fY (K:Za) (C:Addr):Prop where
 pg:PySem.W.plainGet K C Str.empty=true
 hd:PySem.W.hasDictIn K C=true
 po:PySem.W.plainOver K C=true
 sa:PySem.W.findIn K (.ref C) "__setattr__" = some (some (.builtin "object.__setattr__"))
theorem fY.get{K:Za}{C:Addr}(c:fY K C)(f:Str):PySem.W.plainGet K C f=true:=c.pg
def cJ(K:Za)(C:Addr)(f:Str):Prop:=PySem.W.findIn K (.ref C) f=some none
theorem cJ.taker{K:Za}{C:Addr}{f:Str}(n:cJ K C f):PySem.W.takerIn K C f=some none:=by
 unfold PySem.W.takerIn;rw[show PySem.W.findIn K (.ref C) f=some none from n];rfl
structure Fh (K:Za) (C:Addr) (m:Str) (f:Addr):Prop where
 at_:PySem.W.findIn K (.ref C) m=some (some (.ref f))
 fn:PySem.W.isFn K (.ref f)=true
 kp:PySem.W.keepIn K (.ref f)=true
section
variable {X:Cx}{b_:Zc}{σ:St}{H:Hp}{s:Shared}{a C dx:Addr}{fs:List (Str×V)}{f:Str}{v:V}{A:Around}{E:Zb}
theorem BO{b:Bool}{Q:Zb}(I:af X b_ σ H s)(e:H a=some (.ins C dx fs))(c:fY X.K C)(n:cJ X.K C f)(l:fs.lookup f=some v)
  (h:∀u d,af X b_ σ H d->RelV v u->Q u d):wpAny (model X.prog X.w) A (getAttr (.ref a) f b) Q E s:=by
 obtain⟨mA,O,r,_,_,_⟩:=rJ I.hok e;obtain⟨u,hu,g⟩:=gc.some_of (v:=v) (o:=mA f) (by rw[←l];exact r f);exact Ij I.kIn O (c.get f) c.hd n hu (Dx g) (h u _ (I.tok _) g)
theorem t9{m:Str}{g:Addr}{b:Sem Bool}{Q:Value×List Value->Shared->Prop}(I:af X b_ σ H s)(e:H a=some (.ins C dx fs))(c:fY X.K C)(k:Fh X.K C m g)(l:fs.lookup m=none)
  (h:Q (.ref g,[.ref a]) s):wpAny (model X.prog X.w) A (getMethod (.ref a) m b) Q E s:=by
 obtain⟨mA,O,r,_,_,_⟩:=rJ I.hok e;have hn:mA m=none:=gc.none_of (by rw[←l];exact r m);exact Ff I.kIn O (c.get m) k.at_ k.fn hn h
theorem BP{y:V}{u:Value}{Q:Zo}(I:af X b_ σ H s)(e:H a=some (.ins C dx fs))(c:fY X.K C)(n:cJ X.K C f)(hl:fs.length<1000)(m:RelV y u)
  (h:∀j,af X b_ σ (upd H a (.ins C dx (dB f y fs))) j->Q () j):wpAny (model X.prog X.w) A (setAttr (.ref a) f u) Q E s:=by
 obtain⟨mA,O,r,k,_,l⟩:=rJ I.hok e;have hz:(fs.map (·.1)).length<=sizeLine:=by rw[ZF,sizeLine_eq];omega
 refine Ik I.kIn O c.sa c.po n.taker c.hd k hz λh' d p=>h _ ?_
 have hd:∃o,h'.get? dx=some o:=let⟨o,_,_,e',_⟩:=d.ns;⟨o,e'⟩;refine I.write (x:=a) (e:=dx) (by rw[e];exact True.intro) (.inr l) (λb q hb z=>(p.2 b hb).trans z) hd ?_;refine⟨by rw[aS O.ne];exact l,?_,O.ne,d.obj,_,d.ns,λg=>?_,λg hg=>?_⟩
 ·have:=sF f y fs;omega
 ·show gc ((dB f y fs).lookup g) (if g=f then some u else mA g)
  rw[sD];by_cases q:g=f
  ·rw[if_pos q,if_pos q];exact m
  ·rw[if_neg q,if_neg q];exact r g
 ·by_cases q:g=f
  ·rw[q];exact(qE f y fs).1
  ·refine(qE f y fs).2 g (k g λz=>hg ?_)
   show(if g=f then some u else mA g)=none;rw[if_neg q];exact z
theorem af.made(I:af X b_ σ H s):af X b_ σ (upd (upd H s.heap.objs.size (.own (s.heap.objs.size+1))) (s.heap.objs.size+1) (.ins C s.heap.objs.size []))
  { s with heap:=(s.heap.push PySem.W.emptyDict).push (PySem.W.instObj C s.heap.objs.size) }:=by
 have c:(s.heap.push PySem.W.emptyDict).get? s.heap.objs.size=some PySem.W.emptyDict:=Yg s.heap rfl;have d:((s.heap.push PySem.W.emptyDict).push (PySem.W.instObj C s.heap.objs.size)).get? (s.heap.objs.size+1)=some (PySem.W.instObj C s.heap.objs.size):=by
  have:=Yg (s.heap.push PySem.W.emptyDict) (o:=PySem.W.instObj C s.heap.objs.size) rfl
  rwa [Heap.size_push] at this
 have g:(s.heap.push PySem.W.emptyDict).Ns s.heap.objs.size (λ_=>none):=⟨PySem.W.emptyDict,#[],_,c,rfl,(λe j=>absurd j (by simp)),λ_=>rfl⟩;have k:=I.laid (a:=s.heap.objs.size) (o:=.own (s.heap.objs.size+1)) (h':=s.heap.push PySem.W.emptyDict) (t':=s.toks) (λb u q=>Yd _ q) (YE _) ⟨_,c⟩;refine k.laid (a:=s.heap.objs.size+1) (o:=.ins C s.heap.objs.size []) (t':=s.toks) (λb u q=>Yd _ q) (Nat.le_of_eq (Heap.size_push _ _)) ?_;have ne:s.heap.objs.size≠s.heap.objs.size+1:=ZT (YK _);refine⟨by rw[aS ne,aK],YL _,ne,d,λ_=>none,(Heap.Ns1.of_empty g).at λo q=>Yd _ q,λ_=>True.intro,λy hy=>absurd rfl hy⟩
theorem Il{prog:Zw}{w:World}{env:Env}{e:Expr}{f:Str}{b:Pos}{s:Shared}{Q:Zb}(hb:attributeBase e f env (eval e env)=eval e env)
  (h:wpAny (model prog w) A (eval e env) (λo c=>wpAny (model prog w) A (getAttr o f true) Q E c) E s):wpAny (model prog w) A (eval (.Attribute e f b) env) Q E s:=
 Attribute_any_ h (by rw[arm_eval_Attribute,hb])
end
def Nt(K:Za)(c:TE)(f:Str):TE:=λσ H Q=>c σ H λx b=>∃a C dx fs v,x=.ref a/\b a=some (.ins C dx fs)/\fY K C/\cJ K C f/\fs.lookup f=some v/\Q v b
def Nu(K:Za)(c d:TE)(f:Str):TS:=λD σ H=>d σ H λy g=>c σ g λx b=>∃a C dx fs,x=.ref a/\b a=some (.ins C dx fs)/\fY K C/\cJ K C f/\fs.length<1000 /\
 D.nx σ (upd b a (.ins C dx (dB f y fs)))
section
variable {X:Cx}{o e value:Expr}{f:Str}{pos pos' tpos:Pos}{ta tv:TE}
theorem Kr(b:PE X e ta)(hb:attributeBase e f X.env (eval e X.env)=eval e X.env):PE X (.Attribute e f pos) (Nt X.K ta f):=by
 intro b_ s σ H Q I h;refine Il hb (aN (b b_ s σ H _ I h) λu s1 d=>?_);obtain⟨x,g,j,k,a,C,dx,fs,v,ex,m,c,n,l,q⟩:=d;subst ex;obtain rfl:u=Value.ref a:=k;exact BO j m c n l λt s2 p r=>⟨v,g,p,r,q⟩
theorem Ks(ha:PE X o ta)(b:PE X value tv)(d:swapsWith value (some (.Attribute o f pos')) pos.line X.env=pure false):PS X (.Assign [.Attribute o f pos'] value pos) (Nu X.K ta tv f):=by
 intro b_ s σ H D I h;refine plainObj_wpAny_Assign_Attribute (aN (b b_ s σ H _ I h) λu s1 g=>?_) d;obtain⟨y,j,k,m,q⟩:=g;refine aN (ha b_ s1 σ j _ k q) λp s2 r=>?_
 obtain⟨x,E,t,w,a,C,dx,fs,ex,z,c,n,l,A⟩:=r;subst ex;obtain rfl:p=Value.ref a:=w;exact BP t z c n l m λF B=>⟨σ,_,B,A⟩
end
section
variable {X:Cx}{b_:Zc}{σ:St}{H:Hp}{s:Shared}{A:Around}{E:Zb}{Q:Zb}{c:Value}{b:Bool}
inductive kI (K:Za) (H:Hp):V->Value->Prop where
 |non:kI K H .non (.type "NoneType")
 |bl (x:Bool):kI K H (.bl x) (.type "bool")
 |int (i:Int):kI K H (.int i) (.type "int")
 |str (x:Str):kI K H (.str x) (.type "str")
 |flt (x:UInt64):kI K H (.flt x) (.type "float")
 |lst {a:Addr}{xs:List V}(e:H a=some (.lst xs)):kI K H (.ref a) (.type "list")
 |frz {a:Addr}{o:Obj}{xs:List V}(e:H a=some (.frz o (.lst xs))):kI K H (.ref a) (.type "list")
 |tup {a:Addr}{xs:List V}(e:H a=some (.tup xs)):kI K H (.ref a) (.type "tuple")
 |dK {a:Addr}{d_:List (Key×V)}(e:H a=some (.dK d_)):kI K H (.ref a) (.type "dict")
 |dT {a:Addr}{d_:List (List Key×V)}(e:H a=some (.dT d_)):kI K H (.ref a) (.type "dict")
 |ins {a C dx:Addr}{fs:List (Str×V)}(e:H a=some (.ins C dx fs)) (cl:fY K C) (ha:PySem.W.findIn K (.ref C) "__class__" = some (some (.builtin "object.__class__")))
   (hn:PySem.W.specialIn K (.builtin "object.__class__") "__get__" = some (some (.builtin "getset_descriptor.__get__"))) (X7:PySem.W.takesIn K (.builtin "object.__class__")=some true)
   (hm:PySem.W.mroIn K C (.type "object")=some true):kI K H (.ref a) (.ref C)
theorem im{x:V}{u t:Value}(I:af X b_ σ H s)(d:RelV x u)(ty:kI X.K H x t)(e:PySem.W.kitOne X.K t c=some b)(h:∀tk,Q (.bool b) { s with toks:=tk }):
  wpAny (model X.prog X.w) A (call (.builtin "isinstance") [u,c]) Q E s:=by
 cases ty with
 |non=>cases(show u=Value.none from d);exact PySem.W.kia_one PySem.W.kitx_none I.kIn True.intro e (λz=>nomatch z) h
 |bl y=>cases(show u=Value.bool y from d);exact PySem.W.kia_one PySem.W.kitx_bool I.kIn True.intro e (λz=>nomatch z) h
 |int i=>obtain⟨t,q⟩:=(show ∃t,u=Value.int i t from d);cases q;exact PySem.W.kia_one PySem.W.kitx_int I.kIn True.intro e (λz=>nomatch z) h
 |str y=>obtain⟨t,q⟩:=(show ∃t,u=Value.str y t from d);cases q;exact PySem.W.kia_one PySem.W.kitx_str I.kIn True.intro e (λz=>nomatch z) h
 |flt y=>obtain⟨t,q⟩:=(show ∃t,u=Value.float y t from d);cases q;exact PySem.W.kia_one PySem.W.kitx_float I.kIn True.intro e (λz=>nomatch z) h
 |@lst a xs f=>
  cases(show u=Value.ref a from d);obtain⟨_,_,n,_,g⟩:=(show bp X.prog X.w H s.heap a (.lst xs) from I.hok a _ f);exact PySem.W.kia_one PySem.W.kitx_list I.kIn ⟨_,g,rfl⟩ e (λz=>nomatch z) h
 |@frz a k xs f=>
  cases(show u=Value.ref a from d);obtain⟨_,_,_,n,_,g⟩:=(show bp X.prog X.w H s.heap a (.frz k (.lst xs)) from I.hok a _ f);exact PySem.W.kia_one PySem.W.kitx_list I.kIn ⟨_,g,rfl⟩ e (λz=>nomatch z) h
 |@tup a xs f=>
  cases(show u=Value.ref a from d);obtain⟨_,_,_,p⟩:=(show bp X.prog X.w H s.heap a (.tup xs) from I.hok a _ f);obtain⟨o,g,h2,_⟩:=p;exact PySem.W.kia_one PySem.W.kitx_tuple I.kIn ⟨o,g,h2⟩ e (λz=>nomatch z) h
 |@dK a j f=>
  cases(show u=Value.ref a from d);obtain⟨_,_,vs,_,p⟩:=(show bp X.prog X.w H s.heap a (.dK j) from I.hok a _ f);obtain⟨o,es,l,g,h2,_⟩:=p;exact PySem.W.kia_one PySem.W.kitx_dict I.kIn ⟨o,g,h2.1⟩ e (λz=>nomatch z) h
 |@dT a j f=>
  cases(show u=Value.ref a from d);obtain⟨_,_,xs,_,o,es,l,g,h2,_⟩:=(show bp X.prog X.w H s.heap a (.dT j) from I.hok a _ f);exact PySem.W.kia_one PySem.W.kitx_dict I.kIn ⟨o,g,h2.1⟩ e (λz=>nomatch z) h
 |@ins a C dx fs f cl ha hn m hm=>
  cases(show u=Value.ref a from d);obtain⟨mA,O,_⟩:=rJ I.hok f;obtain⟨od,J,_⟩:=O.look;exact PySem.W.kia_one (PySem.W.kitx_own (cl.get _) cl.hd ha hn m hm) I.kIn J e (λz=>nomatch z) h
end
structure cb (k:Nat) (A:Around):Prop where
 hd:A.handled=none
 dp:A.depth+3*k+5<recursionLimit
 un:A.units+16*k+200<cLine
theorem cb.mono{j k:Nat}{A:Around}(r:cb k A)(h:j<=k):cb j A:=⟨r.hd,by have:=r.dp;omega,by have:=r.un;omega⟩
theorem cb.deeper{k:Nat}{A:Around}(r:cb (k+1) A)(env:Env):cb k (A.deeper env):=
 ⟨r.hd,by have:=r.dp;show A.depth+1+3*k+5<_;omega,by have:=r.un;show A.units+3+16*k+200<_;omega⟩
theorem BQ{A:Around}{C:Addr}{us:Zd}{a:List (Str×Value)}:(A.under (.builtin "type.__call__" ⟨.ref C::us,a⟩)).depth=A.depth+1:=by
 first | rfl | simp[Around.under,Code.weight,Code.isCreation,Code.isGuard,Code.isCaller,Code.frames,Code.isFrame,guardIds]
theorem BR{A:Around}{C:Addr}{us:Zd}{a:List (Str×Value)}:(A.under (.builtin "type.__call__" ⟨.ref C::us,a⟩)).units=A.units+1:=by
 first | rfl | simp[Around.under,Code.cUnits,Code.frames,Code.isFrame]
theorem cb.make{k:Nat}{A:Around}(r:cb (k+1) A)(C:Addr)(us:Zd)(a:List (Str×Value)):cb k (A.under (.builtin "type.__call__" ⟨.ref C::us,a⟩)):=
 ⟨r.hd,by have:=r.dp;rw[BQ];omega,by have:=r.un;rw[BR];omega⟩
theorem cb.depth{k:Nat}{A:Around}(r:cb k A):A.depth<recursionLimit:=by have:=r.dp;omega
theorem cb.units{k:Nat}{A:Around}(r:cb k A):A.units+64<cLine:=by have:=r.un;omega
def Nv:TA:=λ_ H Q=>Q [] H
def Mj(a:TE)(b:TA):TA:=λσ H Q=>a σ H λx c=>b σ c λxs d=>Q (x::xs) d
section
variable {X:Cx}{e:Expr}{es:Zg}{te:TE}{t:TA}{pos:Pos}
theorem Kt:PA X [] Nv:=λ_ _ _ _ H Q I h=>Calls.spliced_nil ⟨[],H,I,.nil,h⟩
theorem Im(ha:PE X e te)(a:PA X es t)(b:starEach (e::es) X.env=(false,eval e X.env)::starEach es X.env:=by rfl):PA X (e::es) (Mj te t):=by
 intro pos b_ s σ H Q I h;rw[b];show wpAny _ _ (spliced ((false,eval e X.env)::backTo pos (starEach es X.env))) _ _ s;refine Calls.spliced_cons (aN (ha b_ s σ H _ I h) λu s1 c=>?_);obtain⟨x,d,f,g,j⟩:=c;refine aN (a pos b_ s1 σ d _ f j) λus s2 k=>?_
 obtain⟨xs,l,m,n,o⟩:=k;exact⟨x::xs,l,m,.cons g n,o⟩
def Nw(t:TA):TE:=λσ H Q=>t σ H λxs a=>xs.length<=sizeLine/\∀p,a p=none->Q (.ref p) (upd a p (.tup xs))
def Nx(t:TA):TE:=λσ H Q=>t σ H λxs a=>xs.length<=sizeLine/\∀p,a p=none->Q (.ref p) (upd a p (.lst xs))
theorem Ku{x1}(h:PA X es t):PE X (.Tuple es x1 pos) (Nw t):=by
 intro b_ s σ H Q I hq;refine wpAny_Tuple_spliced (aN (h pos b_ s σ H _ I hq) λus s1 ⟨xs,a,c,r,z,q⟩=>⟨by rw[←r.length];exact z,?_⟩);have hf:a s1.heap.objs.size=none:=c.hok.fresh (YE _);refine⟨.ref s1.heap.objs.size,upd a s1.heap.objs.size (.tup xs),c.laid (t':=s1.toks) (λb u e=>Yd _ e) (YE _) ?_,rfl,q _ hf⟩;exact⟨z,us,r,⟨_,Yg _ rfl,rfl,_,rfl⟩⟩
theorem Kv(h:PA X es t):PE X (.List es pos) (Nx t):=by
 intro b_ s σ H Q I hq;refine wpAny_List_spliced (aN (h pos b_ s σ H _ I hq) λus s1 ⟨xs,a,c,r,z,q⟩=>⟨by rw[←r.length];exact z,?_⟩);have hf:a s1.heap.objs.size=none:=c.hok.fresh (YE _);refine⟨.ref s1.heap.objs.size,upd a s1.heap.objs.size (.lst xs),c.laid (t':=s1.toks) (λb u e=>Yd _ e) (YE _) ?_,rfl,q _ hf⟩;exact⟨z,us,0,r,Yg _ rfl⟩
end
abbrev Sp:=List V->Hp->VK->XK->Prop
abbrev sG:=List Env->Hp->Shared->XK->Value->Shared->Prop
structure cG (P:Zw) (w:World) (K:Za) (mg:Ze) (base:Heap) (A:Around) (outer:List Env) (s:Shared) (H:Hp):Prop where
 frames:A.frames=some outer
 mod:Mod K mg base
 bs:∀b o,base.get? b=some o->s.heap.get? b=some o/\H b=none
 bsz:base.objs.size<=s.heap.objs.size
 funs:s.heap.FunFrames base outer
 frf:∀b∈oi outer,H b=none
 hok:cC P w H s.heap
 bare:AllBare s.gens
def CE(outer:List Env)(P:Zw)(w:World)(H:Hp)(s:Shared)(Q:VK)(u:Value)(a:Shared):Prop:=
 ∃v H',a.os=s.os/\AllBare a.gens/\Un (oi outer) [] H H' s.heap a.heap/\cC P w H' a.heap/\RelV v u/\Q v H'
def CR(CX:sG)(outer:List Env)(P:Zw)(w:World)(H:Hp)(s:Shared)(Q:VK)(E:XK)(r:Result)(a:Shared):Prop:=
 match r with
 |.ok (.ret u)=>CE outer P w H s Q u a
 |.ok _=>False
 |.error e=>CX outer H s E e a
structure ge (P:Zw) (w:World) (K:Za) (mg:Ze) (base:Heap) (CX:sG) (k:Nat) (f:Addr) (fd:Zv) (ps:Zf) (sp:Sp):Prop where
 len:∀vs H Q E,sp vs H Q E->vs.length=ps.length
 run:∀(A:Around) (outer:List Env) (s:Shared) (H:Hp) (args:Args) (us:Zd) (vs:List V) (Q:VK) (E:XK),cb k A->cG P w K mg base A outer s H->BindsTo s fd args (ps.zip us)->av vs us->sp vs H Q E ->
  codeAny (model P w) A (.call (.ref f) args) (CR CX outer P w H s Q E) s
theorem cG.make{P:Zw}{w:World}{K:Za}{mg:Ze}{base:Heap}{A:Around}{outer:List Env}{s:Shared}{H:Hp}(e:cG P w K mg base A outer s H)(C:Addr)(us:Zd)(a:List (Str×Value)):
  cG P w K mg base (A.under (.builtin "type.__call__" ⟨.ref C::us,a⟩)) outer s H:=⟨by first | exact e.frames | (simpa [Around.under,Code.envs,Code.isFrame,pushEnvs] using e.frames),e.mod,e.bs,e.bsz,e.funs,e.frf,e.hok,e.bare⟩
section
variable {X:Cx}{b_:Zc}{σ:St}{H:Hp}{s s':Shared}
theorem af.env0(I:af X b_ σ H s):cG X.prog X.w X.K X.mg X.base X.A X.stack s H:=
 ⟨I.ok.frames,I.ok.mod,I.bs,ZW I.ok.bsz I.sz,I.stack,I.stkFree,I.hok,I.bare⟩
theorem af.after{Q:VK}{u:Value}(I:af X b_ σ H s)(h:CE X.stack X.prog X.w H s Q u s'):EP X b_ σ Q u s':=by
 obtain⟨v,H',os,bare,un,hok,r,q⟩:=h;obtain⟨a,g,d,t,c⟩:=s';obtain rfl:c=s.os:=os;exact⟨v,H',I.call (h':=a) (g':=g) (d':=d) (t':=t) (ch:=[]) un hok bare (λb z=>absurd z (by simp)),r,q⟩
end
def Hr(sp:Sp)(a:List V)(E:XK)(t:TA):TE:=λσ H Q=>t σ H λvs b=>sp (vs++a) b Q E
def Ml(C:Addr)(sp:Sp)(b:List V)(E:XK)(t:TA):TE:=λσ H Q=>t σ H λvs a=>∀x dx,a x=none->a dx=none->dx≠x ->
 sp (.ref x::(vs++b)) (upd (upd a dx (.own x)) x (.ins C dx [])) (λv c=>v=.non/\Q (.ref x) c) E
def Binds(K:Za)(fd:Zv)(ps:Zf)(ds:Zd):Prop:=
 ∀(s:Shared) (us:Zd),K.In s.heap->(us++ds).length=ps.length->BindsTo s fd ⟨us,[]⟩ (ps.zip (us++ds))
theorem Binds.all{K:Za}{fd:Zv}{ps:Zf}(h:∀us:List Value,us.length=ps.length->bindArgs fd ⟨us,[]⟩=pure (ps.zip us)):Binds K fd ps []:=λs us _ hl=>by
 rw[ZA] at hl ⊢;exact .of_eq (h us hl)
def qF(CX:sG)(X:Cx)(E:XK):Prop:=∀(b_:Zc) (σ:St) (H:Hp) (s:Shared) (e:Value) (a:Shared),af X b_ σ H s->CX X.stack H s E e a->X.xe e a
section
variable {X:Cx}{CX:sG}{k:Nat}{f C:Addr}{fd:Zv}{ps:Zf}{sp:Sp}{O6:List V}{ds:Zd}{E:XK}{x m:Str}{p pos o_:Pos}{e o:Expr}{es:Zg}{ta:TE}{t:TA}
theorem xS{b_:Zc}{σ:St}{H:Hp}{s:Shared}{Q:VK}{us:Zd}{vs:List V}(F:ge X.prog X.w X.K X.mg X.base CX k f fd ps sp)(b:cb k X.A)(hb:Binds X.K fd ps ds)(hd:av O6 ds)(hx:qF CX X E)
  (I:af X b_ σ H s) (r:av vs us) (h:sp (vs++O6) H Q E):wpAny (model X.prog X.w) X.A (call (.ref f) us) (EP X b_ σ Q) X.xe s:=by
 have a:av (vs++O6) (us++ds):=r.append hd;have hl:(us++ds).length=ps.length:=by rw[←a.length];exact F.len _ _ _ _ h
 refine wpAny_call (codeAny_mono (F.run X.A X.stack s H ⟨us,[]⟩ (us++ds) (vs++O6) Q E b I.env0 (hb s us I.kIn hl) a h) λr c hq=>?_);cases r with
 |error e=>exact hx b_ σ H s e c I hq
 |ok fl=>
  cases fl with
  |ret u=>exact I.after hq
  |next=>exact Yh hq
  |brk=>exact Yh hq
  |cont=>exact Yh hq
theorem Io(F:ge X.prog X.w X.K X.mg X.base CX k f fd ps sp)(b:cb k X.A)(hg:Gl X x)(hm:X.mg x=some (.ref f))(hk:PySem.W.keepIn X.K (.ref f)=true)(hb:Binds X.K fd ps ds)(hd:av O6 ds)(hx:qF CX X E)
  (ha:PA X (e::es) t) (c:(x==("__debug__" : Str))=false:=by decide) (d:starEach (e::es) X.env=(false,eval e X.env)::starEach es X.env:=by rfl) (g:(backTo pos (starEach es X.env)).any (·.1)=false:=by rfl):
  PE X (.Call (.Name x p) (e::es) [] pos) (Hr sp O6 E t):=by
 intro b_ s σ H Q I h;refine wpAny_Call_Name_kw (vy I hg hm ?_ c);refine PySem.W.callWith_K (h₀:=X.base) I.ok.mod.kin hk (aN (ha pos b_ s σ H _ I h) λus s1 j=>?_) d g;obtain⟨vs,l,a,r,q⟩:=j;refine⟨a.kIn,?_⟩;exact xS F b hb hd hx a r q
structure Mk (K:Za) (C f:Addr):Prop where
 makes:PySem.W.makesIn K C=true
 init:PySem.W.findIn K (.ref C) "__init__" = some (some (.ref f))
 fn:PySem.W.isFn K (.ref f)=true
 kp:PySem.W.keepIn K (.ref C)=true
theorem Fi{b_:Zc}{σ:St}{H:Hp}{s:Shared}{Q:VK}{us:Zd}{vs:List V}(M:Mk X.K C f)(F:ge X.prog X.w X.K X.mg X.base CX k f fd ps sp)(d:cb (k+1) X.A)(hb:Binds X.K fd ps ds)(hd:av O6 ds)
  (hx:qF CX X E) (I:af X b_ σ H s) (r:av vs us)
  (h:∀x dx,H x=none->H dx=none->dx≠x->sp (.ref x::(vs++O6)) (upd (upd H dx (.own x)) x (.ins C dx [])) (λv g=>v=.non/\Q (.ref x) g) E):
  wpAny (model X.prog X.w) X.A (call (.ref C) us) (EP X b_ σ Q) X.xe s:=by
 have hq:=h (s.heap.objs.size+1) s.heap.objs.size (I.hok.fresh (YM _)) (I.hok.fresh (YE _)) (ZT (YK _));have b:=af.made (C:=C) I;have c:av (V.ref (s.heap.objs.size+1)::(vs++O6)) (Value.ref (s.heap.objs.size+1)::(us++ds)):=.cons rfl (r.append hd);have hl:(Value.ref (s.heap.objs.size+1)::us++ds).length=ps.length:=by
  have e:=c.length;rw[F.len _ _ _ _ hq] at e;exact e.symm
 refine wpAny_call (Fg (f:=f) I.kIn M.makes M.init (beq_iff_eq.mp M.fn) (codeAny_mono (F.run _ X.stack _ _ ⟨Value.ref (s.heap.objs.size+1)::us,[]⟩ (Value.ref (s.heap.objs.size+1)::(us++ds)) _ _ E (d.make C us [])
  (b.env0.make C us []) (hb _ (Value.ref (s.heap.objs.size+1)::us) b.kIn hl) c hq) λr j a=>?_))
 cases r with
 |error e=>exact hx b_ σ _ _ e j b a
 |ok fl=>
  cases fl with
  |ret u=>
   obtain⟨v,H',l,n,y,z⟩:=b.after a;subst y;exact⟨n,⟨V.ref (s.heap.objs.size+1),H',l,rfl,z⟩⟩
  |next=>exact Yh a
  |brk=>exact Yh a
  |cont=>exact Yh a
theorem Ip(M:Mk X.K C f)(F:ge X.prog X.w X.K X.mg X.base CX k f fd ps sp)(b:cb (k+1) X.A)(hg:Gl X x)(hm:X.mg x=some (.ref C))(hb:Binds X.K fd ps ds)(hd:av O6 ds)(hx:qF CX X E)
  (ha:PA X (e::es) t) (c:(x==("__debug__" : Str))=false:=by decide) (d:starEach (e::es) X.env=(false,eval e X.env)::starEach es X.env:=by rfl) (g:(backTo pos (starEach es X.env)).any (·.1)=false:=by rfl):
  PE X (.Call (.Name x p) (e::es) [] pos) (Ml C sp O6 E t):=by
 intro b_ s σ H Q I h;refine wpAny_Call_Name_kw (vy I hg hm ?_ c);refine PySem.W.callWith_K (h₀:=X.base) I.ok.mod.kin M.kp (aN (ha pos b_ s σ H _ I h) λus s1 j=>?_) d g;obtain⟨vs,l,a,r,q⟩:=j;refine⟨a.kIn,?_⟩;exact Fi M F b hb hd hx a r q
end
structure bU (N P:Zf) (sc:Scope):Prop where
 kind:sc.kind=.function
 co:sc.isCoroutine=false
 gen:sc.isGenerator=false
 nd:N.Nodup
 pre:N.take P.length=P
 par:∀x∈P,sc.names.lookup x=some .local \/ sc.names.lookup x=some .cell
 nofree:∀y∈sc.names,y.2≠.free
theorem wf{kindOf:Str->Option NameKind}{x:Str}:∀{binds:List (Str×Value)}{m:Ze},(∀v,(x,v)∉binds)->bindL kindOf binds m x=m x
 |[],_,_=>rfl
 |(n,v)::r,m,h=>by
  unfold bindL;rw[wf λw hw=>h w (ZY _ hw)];split
  ·have:x≠n:=by rintro rfl;exact h v ZX
   simp[this]
  ·rfl
theorem wg{kindOf:Str->Option NameKind}{x:Str}:∀{binds:List (Str×Value)}{m:Ze},(∀v,(x,v)∉binds)->bindC kindOf binds m x=m x
 |[],_,_=>rfl
 |(n,v)::r,m,h=>by
  unfold bindC;rw[wg λw hw=>h w (ZY _ hw)];split
  ·rfl
  ·have:x≠n:=by rintro rfl;exact h v ZX
   simp[this]
theorem wj{kindOf:Str->Option NameKind}{x:Str}{v:Value}:∀{P:Zf}{vs:Zd}{i:Nat}{m:Ze},P.Nodup->P[i]?=some x->vs[i]?=some v->kindOf x=some .local ->
  bindL kindOf (P.zip vs) m x=some v
 |[],_,_,_,_,h,_,_=>by simp at h
 |_::_,[],_,_,_,_,h,_=>by simp at h
 |p::P,w::vs,0,m,nd,a,h2,hk=>by
  simp at a h2;subst a;subst h2;show bindL kindOf ((p,w)::P.zip vs) m p=_;unfold bindL;rw[wf λv b=>(YN.mp nd).1 (List.of_mem_zip b).1,if_pos hk];simp
 |p::P,w::vs,i+1,m,nd,a,h2,hk=>by
  show bindL kindOf ((p,w)::P.zip vs) m x=_;unfold bindL;exact wj (i:=i) (YN.mp nd).2 (by simpa using a) (by simpa using h2) hk
theorem wk{kindOf:Str->Option NameKind}{x:Str}{v:Value}:∀{P:Zf}{vs:Zd}{i:Nat}{m:Ze},P.Nodup->P[i]?=some x->vs[i]?=some v->kindOf x≠some .local ->
  bindC kindOf (P.zip vs) m x=some v
 |[],_,_,_,_,h,_,_=>by simp at h
 |_::_,[],_,_,_,_,h,_=>by simp at h
 |p::P,w::vs,0,m,nd,a,h2,hk=>by
  simp at a h2;subst a;subst h2;show bindC kindOf ((p,w)::P.zip vs) m p=_;unfold bindC;rw[wg λv b=>(YN.mp nd).1 (List.of_mem_zip b).1,if_neg hk];simp
 |p::P,w::vs,i+1,m,nd,a,h2,hk=>by
  show bindC kindOf ((p,w)::P.zip vs) m x=_;unfold bindC;exact wk (i:=i) (YN.mp nd).2 (by simpa using a) (by simpa using h2) hk
def start(N:Zf)(vs:List V):St:=vs.map some++List.replicate (N.length-vs.length) none
def qG(CX:sG)(P:Zw)(w:World)(K:Za)(mg:Ze)(base:Heap)(N:Zf)(i':Str)(scope:Scope)(f:Addr)(a:Value)(A:Around)(outer:List Env)(s:Shared)(H:Hp)(E:XK):Cx where
 prog:=P
 w:=w
 K:=K
 mg:=mg
 base:=base
 A:=A.deeper (envOfC i' scope s.heap.objs.size f a)
 N:=N
 s₀:=s
 H₀:=H
 env:=envOfC i' scope s.heap.objs.size f a
 outer:=outer
 stack:=envOfC i' scope s.heap.objs.size f a::outer
 ex:=[]
 calm:=true
 fn:=λ_=>true
 pn:=[]
 xe:=λe c=>wpAny (model P w) (A.deeper (envOfC i' scope s.heap.objs.size f a)) (leaving (envOfC i' scope s.heap.objs.size f a) e) (λ_ b=>CX outer H s E e b) (λe' b=>CX outer H s E e' b) c
theorem xT{sc:Scope}{n:Nat}{x:Str}(h:sc.names.lookup x=some .cell):∃c,(cellsFrom n sc.names []).lookup x=some c:=by
 have q:=PySem.W.cellsFrom_some sc.names n [] (.inl h);exact Option.isSome_iff_exists.mp q
theorem Dy{CX:sG}{P:Zw}{w:World}{K:Za}{mg:Ze}{base:Heap}{N ps:Zf}{i':Str}{scope:Scope}{f:Addr}{g:Value}{A:Around}{outer:List Env}{s s1:Shared}{H:Hp}{E:XK}{us:Zd}{vs:List V}
  (S:bU N ps scope) (hd:A.handled=none) (d:cG P w K mg base A outer s H) (hl:vs.length=ps.length) (r:av vs us)
  (x:InCallC s s.heap.objs.size (bindL (envOfC i' scope s.heap.objs.size f g).kindOf (ps.zip us) λ_=>none) (cellsFrom (s.heap.objs.size+1) scope.names []) (bindC (envOfC i' scope s.heap.objs.size f g).kindOf (ps.zip us) λ_=>none) s1):
  af (qG CX P w K mg base N i' scope f g A outer s H E) [] (start N vs) H s1:=by
 have B:ps.length<=N.length:=by have:=congrArg List.length S.pre;rw[YR] at this;omega
 obtain⟨j,tk,rfl,hk⟩:=x.done;have m:∀b:Addr,b∉(qG CX P w K mg base N i' scope f g A outer s H E).ex:=λb z=>absurd (show b∈([]:List Addr) from z) (by simp)
 refine⟨⟨d.mod,S.kind,rfl,rfl,YE _,λy z c j h2=>?_,λy hy=>?_,λy c _ h=>?_,λ_=>hd,Around.frames_deeper d.frames,.inr ⟨rfl,rfl⟩,λb z=>absurd z (m b),d.bs,d.bsz,λb _ _=>m b,λb z=>absurd z (m b),d.funs,d.frf⟩,
  rfl,d.bare,Un.kept hk,⟨_,x.toInCall.ns,λi y v j h2 C=>?_⟩,λy c h=>⟨_,x.cell y c h⟩,d.hok.fresh (YE _),λy c h=>?_,λp hp=>absurd (show p∈([]:List (Addr×Obj)) from hp) (by simp),d.hok.kept hk,?_⟩
 ·exact name_of_addr x.apart (PySem.mem_of_lookup j) (PySem.mem_of_lookup h2)
 ·have hy:scope.names.lookup y=some .cell\/scope.names.lookup y=some .free:=hy
  rcases hy with hy | hy
  ·exact xT hy
  ·exact absurd rfl (S.nofree _ (PySem.mem_of_lookup hy))
 ·exact Nat.le_of_lt (x.above y c (PySem.mem_of_lookup h))
 ·have l:i<vs.length:=by
   unfold start at h2;by_cases l:i<vs.length
   ·exact l
   ·rw[ZH (by simpa using l)] at h2
    rw[List.getElem?_replicate] at h2;split at h2<;>cases h2
  have ha:vs[i]?=some v:=by
   unfold start at h2;rw[ZE (by simpa using l),ZG] at h2;cases e:vs[i]? with
   |none=>rw[e] at h2;cases h2
   |some a=>rw[e] at h2;cases h2;rfl
  obtain⟨u,hu,t⟩:=r.get ha;have hp:ps[i]?=some y:=by
   rw[←S.pre,List.getElem?_take_of_lt (by omega)];exact j
  have o:ps.Nodup:=by rw[←S.pre];exact S.nd.sublist (List.take_sublist _ _)
  refine⟨u,t,?_⟩;rcases S.par y (YS hp) with k | k
  ·exact .inl ⟨k,wj o hp hu k⟩
  ·obtain⟨c,e⟩:=xT (n:=s.heap.objs.size+1) k
   refine .inr ⟨.inl k,c,e,?_⟩;have q:=x.cell y c e;rw[wk o hp hu (by show scope.names.lookup y≠_;rw[k];decide)] at q;exact q
 ·exact d.hok.fresh (Nat.le_of_lt (x.above y c (PySem.mem_of_lookup h)))
 ·unfold start
  show _=N.length;rw[ZJ,ZF,List.length_replicate];omega
theorem Mm{CX:sG}{P:Zw}{w:World}{K:Za}{mg:Ze}{base:Heap}{k:Nat}{f:Addr}{name i':Str}{a:Arguments}{c:Zu}{scope:Scope}{B kV w_ pm u_ ct oc:Value}{an od:Zm}
  {G':Zn}{N ps:Zf}{sp:Sp}(G:K.lookup f=some ⟨oc,od,.func (PySem.W.fnOf name i' a c scope B kV w_ pm an u_ ct),G'⟩) (L:PySem.W.codeIn K u_ i'=true) (S:bU N ps scope)
  (len:∀vs H Q E,sp vs H Q E->vs.length=ps.length)
  (O:∀(A:Around) (outer:List Env) (s:Shared) (H:Hp) (vs:List V) (Q:VK) (E:XK),cb k (A.deeper (envOfC i' scope s.heap.objs.size f u_))->sp vs H Q E ->
   ∃t,mH (qG CX P w K mg base N i' scope f u_ A outer s H E) c t/\t { nx:=λ_ H'=>Q .non H',rt:=Q } (start N vs) H):
  ge P w K mg base CX (k+1) f (PySem.W.fnOf name i' a c scope B kV w_ pm an u_ ct) ps sp:=by
 refine⟨len,λA outer s H args us vs Q E l g hb r C=>?_⟩;have hl:=len _ _ _ _ C;have F:K.In s.heap:=g.mod.kin.keeps λb o e=>(g.bs b o e).1
 have m:s.heap.NoLimit:=g.mod.nolimit.keeps λb o e=>(g.bs b o e).1
 have R:∀y∈ps.zip us,scope.names.lookup y.1=some .local \/ (scope.names.lookup y.1=some .cell/\((cellsFrom (s.heap.objs.size+1) scope.names []).lookup y.1).isSome=true):=λ⟨n,v⟩ hy=>by
  rcases S.par n (List.of_mem_zip hy).1 with q | q
  ·exact .inl q
  ·exact .inr ⟨q,PySem.W.cellsFrom_some _ _ _ (.inl q)⟩
 refine codeAny_call_function l.depth (F _ _ G) rfl S.co S.gen rfl (PySem.W.codeRec_of F L) (hb _ _ _ _ ?_);refine wpAny_newFunctionEnv_cells S.kind R λenv T s1 x=>?_
 subst T;refine⟨m.keeps x.toInCall.keep,codeAny_func ?_⟩;obtain⟨t,ht,hq⟩:=O A outer s H vs Q E (l.deeper _) C;have I:af (qG CX P w K mg base N i' scope f u_ A outer s H E) [] (start N vs) H s1:=Dy S l.hd g hl r x;refine wpAny_mono (ht [] s1 (start N vs) H _ I hq) (λfl p d=>?_) λe p d=>d
 have fin:∀{j:St}{H':Hp}{v:V}{u:Value},af (qG CX P w K mg base N i' scope f u_ A outer s H E) [] j H' p->RelV v u->Q v H'->CE outer P w H s Q u p:=
  λ{j H' v u} J z q=>⟨v,H',J.os,J.bare,J.base,J.hok,z,q⟩
 cases fl with
 |ret u=>
  obtain⟨v,j,H',J,z,q⟩:=d;exact fin J z q
 |next=>
  obtain⟨j,H',J,q⟩:=d;exact fin (v:=V.non) (u:=Value.none) J rfl q
 |brk=>
  obtain⟨_,_,_,q⟩:=d;exact Yh q
 |cont=>
  obtain⟨_,_,_,q⟩:=d;exact Yh q
section
variable {X:Cx}{x:Str}{p pos:Pos}{e:Expr}{es:Zg}{t:TA}{id T:String}{r:List V->Hp->VK->Prop}
def MM(r:List V->Hp->VK->Prop)(t:TA):TE:=λσ H Q=>t σ H λvs a=>r vs a Q
theorem Fk(hc:d0 X (.builtin id) r)(hg:Gl X x)(hm:X.mg x=none)(a:bootBuiltins x=some (.builtin id))(ha:PA X (e::es) t)(hn:x ≠ "__name__":=by decide)(b:(x==("__debug__" : Str))=false:=by decide)
  (c:starEach (e::es) X.env=(false,eval e X.env)::starEach es X.env:=by rfl) (d:(backTo pos (starEach es X.env)).any (·.1)=false:=by rfl):PE X (.Call (.Name x p) (e::es) [] pos) (MM r t):=by
 intro b_ s σ H Q I h;refine wpAny_Call_Name_kw (fg I hg hm a ?_ hn b);refine PyProof.Rows.callWith_builtin1 (aN (ha pos b_ s σ H _ I h) λus s1 f=>?_) c d;obtain⟨vs,g,j,k,l⟩:=f;exact hc b_ s1 σ g vs us Q j k l
theorem Dz(hc:d0 X (.type T) r)(hg:Gl X x)(hm:X.mg x=none)(a:bootBuiltins x=some (.type T))(ha:PA X (e::es) t)(hn:x ≠ "__name__":=by decide)(b:(x==("__debug__" : Str))=false:=by decide)
  (c:starEach (e::es) X.env=(false,eval e X.env)::starEach es X.env:=by rfl) (d:(backTo pos (starEach es X.env)).any (·.1)=false:=by rfl):PE X (.Call (.Name x p) (e::es) [] pos) (MM r t):=by
 intro b_ s σ H Q I h;refine wpAny_Call_Name_kw (fg I hg hm a ?_ hn b);refine PyProof.Rows.callWith_type1 (aN (ha pos b_ s σ H _ I h) λus s1 f=>?_) c d;obtain⟨vs,g,j,k,l⟩:=f;exact hc b_ s1 σ g vs us Q j k l
end
end L2
namespace HT
open PySem PyProof.Rows
def lexLt:List Int->List Int->Bool
 |[],[]=>false
 |[],_::_=>true
 |_::_,[]=>false
 |x::xs,y::a=>if x=y then lexLt xs a else decide (x<y)
theorem oY(x y:Int)(xs a:Zi):lexLt (x::xs) (y::a)=if x=y then lexLt xs a else decide (x<y):=rfl
theorem pR:lexLt [] []=false:=rfl
theorem vz(y:Int)(a:Zi):lexLt [] (y::a)=true:=rfl
theorem vA(x:Int)(xs:Zi):lexLt (x::xs) []=false:=rfl
theorem Fl(A:Around)(s:Shared)(a:Int)(t:Tok)(c:Int)(u:Tok):∃e,SeqAt.EqAt A s (.int a t) (.int c u) e/\(e=true↔a=c):=
 ⟨(a==c),SeqAt.EqAt.int_int a t c u,by simp⟩
theorem Fm(A:Around)(s:Shared)(a:Int)(t:Tok)(c:Int)(u:Tok)(prog:Zw)(w:World)(E:Zb)(Q:Zb)(h:Q (.bool (decide (a<c))) s):
  wpAny (model prog w) A (richCompare .Lt (.int a t) (.int c u)) Q E s:=
 (PyProof.Rows.lt_int h:wpAny (model prog w) A (compareOp .Lt (.int a t) (.int c u)) Q E s)
section
open PySem.SeqAt
open PySem.AutoSeq1 (wpAny_loadPart')
open PySem.MeetsSeq PySem.MeetsSeq2 PySem.MeetsSeq3
theorem xb(l b:Addr)(f j:Zl)(n G:Nat)(I J:Zm)(sl K:Zn)(ns o:Zi)(B:IntsAre f.toList ns)(C:IntsAre j.toList o):
  Meets (Builtin.«tuple.__lt__» ⟨[.ref l,.ref b],[]⟩)
   (λ_ R s=>s.heap.get? l=some { cls:=.type "tuple",dict:=I,data:=.seq f n,slots:=sl }/\s.heap.get? b=some { cls:=.type "tuple",dict:=J,data:=.seq j G,slots:=K } /\
    R (.ok (.ret (.bool (lexLt ns o)))) s):=
 .of_wp λprog w A R s h=>by
  obtain⟨hp,g,d,tk,os⟩:=s;obtain⟨hl,hb,h⟩:=h;have S:=AutoSeq1.sub_tuple_tuple;have T:f.size=ns.length:=by rw[←B.length];simp
  have U:j.size=o.length:=by rw[←C.length];simp
  wp_walk using wpAny_loadPart' hl,wpAny_loadPart' hb,wpAny_forIn_list _ (λrest b r=>b.1=none/\r=⟨hp,g,d,tk,os⟩/\∃(vs p:Zd) (k m:Zi),rest=vs.zip p /\
   IntsAre vs k/\IntsAre p m/\k.length+j.size=m.length+f.size/\R (.ok (.ret (.bool (lexLt k m)))) ⟨hp,g,d,tk,os⟩) _
  case turn=>
   rintro⟨y,x⟩ rest b r ⟨ON,rfl,vs,p,k,m,hz,hvi,hwi,k_,hR⟩;cases hvi with
   |nil=>rw[List.zip_nil_left] at hz;cases hz
   |cons a t L=>
    cases hwi with
    |nil=>rw[List.zip_nil_right] at hz;cases hz
    |cons c u O=>
     rw[List.zip_cons_cons] at hz;injection hz with hyx hrest
     injection hyx with hy hx
     subst hy hx;rw[oY] at hR;simp only[YH] at k_;obtain⟨e,P,E⟩:=Fl A.in1 ⟨hp,g,d,tk,os⟩ a t c u;refine Yb (P prog w _ _ ?_);cases e with
     |true=>
      rw[if_pos (E.mp rfl)] at hR;wp_walk;exact⟨rfl,rfl,_,_,_,_,hrest,L,O,by omega,hR⟩
     |false=>
      rw[if_neg (λq=>absurd (E.mpr q) YC)] at hR;have z:=Fm A.in1 ⟨hp,g,d,tk,os⟩ a t c u prog w;wp_walk using z;exact⟨_,rfl,by simpa using hR⟩
  case fin=>
   rintro⟨b1,b2⟩ r ⟨ON,rfl,vs,p,k,m,hz,hvi,hwi,k_,hR⟩;simp only at ON;subst ON;have F:lexLt k m=decide (f.size<j.size):=by
    cases hvi with
    |nil=>
     cases hwi with
     |nil=>
      simp only[YT] at k_;rw[pR];exact(ZP (by omega)).symm
     |cons c u hw=>
      simp only[YT,YH] at k_;rw[vz];exact(YU (by omega)).symm
    |cons a t F=>
     cases hwi with
     |nil=>
      simp only[YT,YH] at k_;rw[vA];exact(ZP (by omega)).symm
     |cons c u hw=>
      rw[List.zip_cons_cons] at hz;cases hz
   rw[F] at hR;wp_walk;exact⟨_,rfl,by simpa [Builtin.Tuple.tupleCompareSizes] using hR⟩
  case h=>
   exact⟨rfl,rfl,f.toList,j.toList,ns,o,rfl,B,C,by omega,h⟩
end
section
variable {prog:Zw}{w:World}{A:Around}{E:Zb}{s:Shared}
theorem BS{l b:Addr}{c d:Zl}{ns a:Zi}{Q:Zb}(hl:IsTup s.heap l c)(hb:IsTup s.heap b d)(m:IntsAre c.toList ns)(o:IntsAre d.toList a)
  (hu:A.units<cLine) (h:Q (.bool (lexLt ns a)) s):wpAny (model prog w) A (compareOp .Lt (.ref l) (.ref b)) Q E s:=by
 obtain⟨⟨cls,p,data,sl⟩,f,hc,n,hd⟩:=id hl;obtain⟨⟨y,r,data2,t⟩,g,j,u,k⟩:=id hb;simp only at hc hd j k;subst hc hd j k;exact richCompare_meets_room (op:=.Lt) ⟨_,f,rfl⟩ ⟨_,g,rfl⟩ PySem.F.slot_tuple_lt PySem.F.entry_tuple_lt (PySem.F.args_tuple_lt_2 _ _) (xb l b c d n u p r sl t ns a m o)
  ⟨f,g,show Value.bool (lexLt ns a)≠Value.notImplemented/\Q (.bool (lexLt ns a)) s from⟨(λx=>nomatch x),h⟩⟩ hu
theorem Iq{t b:Addr}{vs a:Zd}{Q:Zb}(ht:IsTup s.heap t vs.toArray)(hb:IsTup s.heap b a.toArray)(f:vs≠[])
  (p:a=[]->Q (.ref t) s) (h2:a≠[]->Q (.ref s.heap.objs.size) { s with heap:=s.heap.push { cls:=.type "tuple",data:=.seq (vs++a).toArray } })
  (hsz:vs.length+a.length<=sizeLine):wpAny (model prog w) A (binaryOp .Add (.ref t) (.ref b)) Q E s:=by
 obtain⟨⟨cls,g,data,sl⟩,c,hc,n,hd⟩:=id ht;obtain⟨⟨r,j,data2,k⟩,d,l,m,o⟩:=id hb;simp only at hc hd l o;subst hc hd l o;have e:vs.toArray++a.toArray=(vs++a).toArray:=by simp
 by_cases hw:a=[]
 ·exact concat_meets ⟨_,c,rfl⟩ ⟨_,d,rfl⟩ noFill_tuple_add seq_tuple_add PySem.F.slot_tuple_add PySem.F.entry_tuple_add (PySem.F.args_tuple_add_2 _ _)
   (tuple_addW1 t b vs.toArray a.toArray n m g j sl k (by simpa using f) (by simp[hw])) ⟨c,d,p hw⟩
 ·refine concat_meets ⟨_,c,rfl⟩ ⟨_,d,rfl⟩ noFill_tuple_add seq_tuple_add PySem.F.slot_tuple_add PySem.F.entry_tuple_add (PySem.F.args_tuple_add_2 _ _)
   (tuple_addW2 t b vs.toArray a.toArray n m g j sl k (by simpa using f) (by simpa using hw) (by rw[YG,YG];exact hsz)) ⟨c,d,?_⟩
  rw[e];exact h2 hw
def a0(n d:Nat):Option Int->Nat
 |none=>d
 |some v=>if v<0 then(v+(n:Int)).toNat else min v.toNat n
theorem tf(n d:Nat):a0 n d none=d:=rfl
theorem jr(n d k:Nat):a0 n d (some (k:Int))=min k n:=by
 show(if(k:Int)<0 then((k:Int)+(n:Int)).toNat else min (k:Int).toNat n)=min k n;rw[if_neg (by omega),YV]
theorem Kw(n d:Nat)(hd:d<=n)(o:Zq):a0 n d o<=n:=by
 cases o with
 |none=>exact hd
 |some v=>
  show(if v<0 then(v+(n:Int)).toNat else min v.toNat n)<=n;by_cases a:v<0
  ·rw[if_pos a];omega
  ·rw[if_neg a];exact Nat.min_le_right _ _
theorem AM(v:Int)(n d:Nat):(if v<0 then max (v+(n:Int)) 0 else min v (n:Int))=((a0 n d (some v):Nat):Int):=by
 show(if v<0 then max (v+(n:Int)) 0 else min v (n:Int))=(((if v<0 then(v+(n:Int)).toNat else min v.toNat n):Nat):Int);by_cases a:v<0
 ·simp only[if_pos a];omega
 ·simp only[if_neg a];omega
theorem BU(lo a:Zq)(n:Nat):Builtin.Slice.sliceAdjust lo a 1 (n:Int)=(((a0 n 0 lo:Nat):Int),((a0 n n a:Nat):Int)):=by
 have b:¬((1:Int)<0):=by omega
 unfold Builtin.Slice.sliceAdjust;simp only[b,if_false];refine Prod.ext ?_ ?_
 ·cases lo with
  |none=>rfl
  |some v=>exact AM v n 0
 ·cases a with
  |none=>rfl
  |some v=>exact AM v n n
theorem BV(i j:Nat):Builtin.Slice.slicePlaces (i:Int) (j:Int) 1=j-i:=by
 unfold Builtin.Slice.slicePlaces;have a:(1:Int)>0:=by omega
 simp only[a,if_true,Int.ediv_one];split<;>omega
theorem ua{v:Value}{o:Zq}{Q:Option Int->Shared->Prop}(p:IsPart v o)(h:Q o s):wpAny (model prog w) A (Builtin.Slice.slicePartIndex v) Q E s:=by
 cases p with
 |none=>exact slicePart_none h
 |int i t=>exact slicePart_int h
theorem lR{sl:Addr}{b c:Value}{lo a:Zq}{n:Nat}{Q:Int×Int×Nat->Shared->Prop}(g:s.heap.IsSliceOf sl b c .none)(j:IsPart b lo)(k:IsPart c a)
  (h:Q (((a0 n 0 lo:Nat):Int),1,a0 n n a-a0 n 0 lo) s):wpAny (model prog w) A (Builtin.Slice.sliceApplied (.ref sl) (pure (n:Int))) Q E s:=by
 obtain⟨os,d,l,f⟩:=id g;unfold Builtin.Slice.sliceApplied Builtin.Slice.sliceFields;refine Yb (Yb (wpAny_field d f (x:=b) rfl (Yb (wpAny_field d f (x:=c) rfl (Yb (wpAny_field d f (x:=.none) rfl (Yc ?_)))))));refine Yb (slicePart_none ?_);show wpAny _ _ (if((1:Int)==0)=true then _ else _) _ _ s;rw[if_neg (by decide)];refine Yb (ua j (Yb (ua k (Yb (Yc ?_)))));show wpAny _ _ (match Builtin.Slice.sliceAdjust lo a 1 (n:Int) with | (lo,a)=>pure (lo,(1:Int),Builtin.Slice.slicePlaces lo a 1)) _ _ s;rw[BU lo a n];show wpAny _ _ (pure (((a0 n 0 lo:Nat):Int),(1:Int),Builtin.Slice.slicePlaces ((a0 n 0 lo:Nat):Int) ((a0 n n a:Nat):Int) 1)) _ _ s;rw[BV];exact Yc h
theorem Fn(xs:Zl)(i k:Nat):((List.range k).filterMap λ(m:Nat)=>xs[((i:Int)+(m:Int)*1).toNat]?).toArray=((xs.toList.drop i).take k).toArray:=by
 have e:(λ(m:Nat)=>xs[((i:Int)+(m:Int)*1).toNat]?)=λm=>xs[i+m]?:=by
  funext m;have:((i:Int)+(m:Int)*1).toNat=i+m:=by omega
  rw[this]
 rw[e]
 have:=pick_run xs i k
 rw[List.filterMap_map] at this;have a:((λx=>xs[x]?)∘λx=>i+x)=λm=>xs[i+m]?:=rfl
 rw[a] at this;rw[this]
theorem sy{t sl:Addr}{a:Zl}{d f:Value}{lo b:Zq}{Q:Zb}(ht:IsTup s.heap t a)(g:s.heap.IsSliceOf sl d f .none)(j:IsPart d lo)(k:IsPart f b)
  (hw:¬(a0 a.size 0 lo=0/\a0 a.size a.size b=a.size))
  (h:Q (.ref s.heap.objs.size) { s with heap:=s.heap.push { cls:=.type "tuple",data:=.seq ((a.toList.drop (a0 a.size 0 lo)).take (a0 a.size a.size b-a0 a.size 0 lo)).toArray } })
  (hsz:a.size<=sizeLine):wpAny (model prog w) A (getItem (.ref t) (.ref sl)) Q E s:=by
 have c:sizeOk (.seq ((a.toList.drop (a0 a.size 0 lo)).take (a0 a.size a.size b-a0 a.size 0 lo)).toArray):=by
  show((a.toList.drop (a0 a.size 0 lo)).take (a0 a.size a.size b-a0 a.size 0 lo)).toArray.size<=sizeLine;rw[YG,YR,YW,Array.length_toList];omega
 have r:a0 a.size a.size b<=a.size:=Kw _ _ (YE _) b;obtain⟨os,l,n,u⟩:=id g;have o:s.TypeIs (.ref sl) "slice":=⟨os,l,n⟩;unfold getItem;try with_reducible refine Yj ?_
 first | refine Yb (Yc ?_) | skip
 refine Yb (wpAny_sequenceKey ht.typeIs (by decide) ?_);refine Yb (wpAny_callSpecial?_slot (name:=Str.ofString "__getitem__") ht.typeIs PyProof.Rows.slot_tuple_getitem
  (wpAny_call_entry PyProof.Rows.slot_tuple_getitem ht.typeIs entry_tuple_getitem ?_ (args_tuple_getitem _ _)))
 show wpAny _ _ (Builtin.Tuple.tupleItemsOf (.ref t) >>= _) _ _ s;refine Yb (tupleItemsOf_ ht ?_);refine Yb (wpAny_typeOf o ?_);rw[if_pos (by decide)];refine Yb (lR g j k ?_);have p:¬((((a0 a.size 0 lo:Nat):Int)==0&&(1:Int)==1&&(a0 a.size a.size b-a0 a.size 0 lo)==a.size)=true):=by
  intro q;rw[YX,YX] at q;have y:((a0 a.size 0 lo:Nat):Int)=0:=eq_of_beq q.1.1;have z:a0 a.size a.size b-a0 a.size 0 lo=a.size:=eq_of_beq q.2;exact hw ⟨by omega,by omega⟩
 show wpAny _ _ (if(((a0 a.size 0 lo:Nat):Int)==0&&(1:Int)==1&&(a0 a.size a.size b-a0 a.size 0 lo)==a.size)=true then _ else _) _ _ s;rw[if_neg p,Fn];first
  |exact Yb (m:=Builtin.Tuple.tupleExact _) (wpAny_newObj_type (Yc ⟨_,rfl,Yc h⟩) c)
  |exact Yb (m:=Builtin.Tuple.tupleExact _) (wpAny_newObj_type (Yb (Yc (Yc ⟨_,rfl,Yc h⟩))) c)
  |exact Yb (Yb (m:=Builtin.Tuple.tupleExact _) (wpAny_newObj_type (Yc (Yc ⟨_,rfl,Yc h⟩)) c))
  |exact Yb (Yb (m:=Builtin.Tuple.tupleExact _) (wpAny_newObj_type (Yc ⟨_,rfl,Yc h⟩) c))
end
end HT
namespace L2
open PySem PySem.Spec PyProof.Rows
abbrev TO:=St->Hp->(Option Int->Hp->Prop)->Prop
def PO(X:Cx)(e:Option Expr)(t:TO):Prop:=
 ∀(b_:Zc) (s:Shared) (σ:St) (H:Hp) (Q:Option Int->Hp->Prop),af X b_ σ H s->t σ H Q ->
  wpAny (model X.prog X.w) X.A (evalPart e X.env) (λu a=>∃o H',af X b_ σ H' a/\IsPart u o/\Q o H') X.xe s
def Ir:TO:=λ_ H Q=>Q none H
def Mn(t:TE):TO:=λσ H Q=>t σ H λx a=>∃i,x=.int i/\Q (some i) a
theorem intsAre_of{ns:Zi}:∀{us:Zd},av (ns.map V.int) us->IntsAre us ns:=by
 induction ns with
 |nil=>intro us r;rw[List.map_nil] at r;cases r;exact .nil
 |cons n ns a=>
  intro us r;rw[YJ] at r;cases r with
  |cons b c=>
   obtain⟨t,e⟩:=b;subst e;exact .cons n t (a c)
section
variable {X:Cx}{e:Expr}{te:TE}{lo hi:Option Expr}{tl th:TO}{pos p2:Pos}
theorem Iu:PO X none Ir:=by
 intro b_ s σ H Q I h;rw[evalPart_none];exact Yc ⟨none,H,I,.none,h⟩
theorem Iv(h:PE X e te):PO X (some e) (Mn te):=by
 intro b_ s σ H Q I hw;rw[evalPart_some];refine aN (h b_ s σ H _ I hw) λu s1 a=>?_
 obtain⟨x,b,c,d,f⟩:=a;obtain⟨i,rfl,q⟩:=f;obtain⟨t,rfl⟩:=d;exact⟨some i,b,c,.int i t,q⟩
def xU(X:Cx)(r:V->Option Int->Option Int->Hp->VK->Prop):Prop:=
 ∀(b_:Zc) (s:Shared) (σ:St) (H:Hp) (x:V) (v a b:Value) (lo hi:Zq) (sl:Addr) (Q:VK),af X b_ σ H s->RelV x v->s.heap.IsSliceOf sl a b .none->IsPart a lo->IsPart b hi->r x lo hi H Q ->
  ∃T id,typeLookup (.type T) "__getitem__" = pure (some (.builtin id))/\s.TypeIs v T/\wpAny (model X.prog X.w) X.A (getItem v (.ref sl)) (EP X b_ σ Q) X.xe s
def N3(r:V->Option Int->Option Int->Hp->VK->Prop)(te:TE)(tl th:TO):TE:=λσ H Q=>te σ H λx a=>tl σ a λl b=>th σ b λu c=>r x l u c Q
theorem Fo{r:V->Option Int->Option Int->Hp->VK->Prop}(g:xU X r)(j:PE X e te)(hl:PO X lo tl)(hu:PO X hi th):PE X (.Subscript e (.Slice lo hi none p2) pos) (N3 r te tl th):=by
 intro b_ s σ H Q I h;refine Subscript_ (aN (j b_ s σ H _ I h) λv s1 k=>?_);obtain⟨x,m,n,o,p⟩:=k;refine wpAny_Slice (aN (hl b_ s1 σ m _ n p) λc s2 t=>?_);obtain⟨l,y,z,B,C⟩:=t;refine aN (hu b_ s2 σ y _ z C) λd a E=>?_
 obtain⟨u,f,F,G,J⟩:=E;rw[evalPart_none];refine Yc ?_;have K:af X b_ σ f { a with heap:=a.heap.push { cls:=.type "slice",data:=.fields #[c,d,.none] } }:=F.kept (t':=a.toks) λb O q=>Yd _ q
 obtain⟨T,id,L,ht,hg⟩:=g b_ { a with heap:=a.heap.push { cls:=.type "slice",data:=.fields #[c,d,.none] } } σ f x v c d l u a.heap.objs.size Q K o (Heap.IsSliceOf.new ..) B G J;show wpAny (model X.prog X.w) X.A (subscriptTail e (.Slice lo hi none p2) v (.ref a.heap.objs.size)) (EP X b_ σ Q) X.xe { a with heap:=a.heap.push { cls:=.type "slice",data:=.fields #[c,d,.none] } };exact tail_any (ops:=[.ref a.heap.objs.size,v]) ht L hg (by with_unfolding_all rfl)
def nA(xs:List V)(lo hi:Zq):List V:=(xs.drop (HT.a0 xs.length 0 lo)).take (HT.a0 xs.length xs.length hi-HT.a0 xs.length 0 lo)
theorem sH(xs:List V)(lo hi:Zq):(nA xs lo hi).length<=xs.length:=by
 unfold nA;rw[YR,YW];omega
def Ny(K:Za):V->Option Int->Option Int->Hp->VK->Prop:=λx lo hi H Q=>∃a xs,x=.ref a/\ca K H a xs /\
 ¬(HT.a0 xs.length 0 lo=0/\HT.a0 xs.length xs.length hi=xs.length)/\∀p,H p=none->Q (.ref p) (upd H p (.tup (nA xs lo hi)))
theorem Kx:xU X (Ny X.K):=by
 intro b_ s σ H x v k l lo hi sl Q I d f g j h;obtain⟨a,xs,rfl,hx,hw,q⟩:=h;cases d;obtain⟨f_,r,ht,hz⟩:=I.tuple hx;have c:f_.toArray.size=xs.length:=by rw[YG];exact r.length.symm
 refine⟨"tuple",_,PyProof.Rows.slot_tuple_getitem.lookup,ht.typeIs,?_⟩;refine HT.sy ht f g j (by rw[c];exact hw) ?_ (by rw[c];exact hz);rw[c];refine⟨.ref s.heap.objs.size,_,I.laid (t':=s.toks) (o:=.tup (nA xs lo hi)) (λb m q=>Yd _ q) (YE _) ?_,rfl,q _ (I.hok.fresh (YE _))⟩;exact⟨ZW (sH xs lo hi) hz,_,(r.drop (HT.a0 xs.length 0 lo)).take (HT.a0 xs.length xs.length hi-HT.a0 xs.length 0 lo),IsTup.new _ _⟩
def Mp(K:Za):R2:=λx y H Q=>∃a b xs c,x=.ref a/\y=.ref b/\ca K H a xs/\ca K H b c/\xs≠[]/\xs.length+c.length<=sizeLine /\
 (c=[]->Q (.ref a) H)/\(c≠[]->∀p,H p=none->Q (.ref p) (upd H p (.tup (xs++c))))
theorem av.nil_iff{xs:List V}{us:Zd}(r:av xs us):us=[]↔xs=[]:=by
 cases r with
 |nil=>simp
 |cons _ _=>simp
theorem Iw:cI X (binaryOp .Add) (Mp X.K):=by
 intro b_ s σ H x y v u Q I f g h;obtain⟨a,b,xs,j,rfl,rfl,ha,hb,hx,hz,k,l⟩:=h;cases f;cases g;obtain⟨f_,d,p1,_⟩:=I.tuple ha;obtain⟨m,c,p2,_⟩:=I.tuple hb;refine HT.Iq p1 p2 (λz=>hx (d.nil_iff.mp z)) (λz=>⟨.ref a,H,I,rfl,k (c.nil_iff.mp z)⟩) (λz=>?_) (by rw[←d.length,←c.length];exact hz);refine⟨.ref s.heap.objs.size,_,I.laid (t':=s.toks) (o:=.tup (xs++j)) (λb n q=>Yd _ q) (YE _) ?_,rfl,l (λw=>z (c.nil_iff.mpr w)) _ (I.hok.fresh (YE _))⟩;exact⟨by rw[ZJ];exact hz,_,d.append c,IsTup.new _ _⟩
end
def om(n:Nat)(i:Int):Option Nat:=if 0<=i then(if i<n then some i.toNat else none) else if -(n:Int)<=i then some (i+n).toNat else none
def cX{a:Type}(xs:List a)(i:Int):Option a:=(om xs.length i).bind λj=>xs[j]?
theorem AN{n:Nat}{i:Int}{j:Nat}(h:om n i=some j):seqIndex? i n=some j/\j<n/\-(n:Int)<=i/\i<n:=by
 unfold om at h;by_cases b:0<=i
 ·rw[if_pos b] at h
  by_cases a:i<n
  ·rw[if_pos a] at h
   have e:i.toNat=j:=Yi h;exact⟨by rw[seqIndex_of b a,e],by omega,by omega,a⟩
  ·rw[if_neg a] at h;cases h
 ·rw[if_neg b] at h
  by_cases a:-(n:Int)<=i
  ·rw[if_pos a] at h
   have e:(i+n).toNat=j:=Yi h;exact⟨by rw[seqIndex_neg (by omega) a,e],by omega,a,by omega⟩
  ·rw[if_neg a] at h;cases h
theorem vB{a:Type}{xs:List a}{i:Int}{v:a}(h:cX xs i=some v):∃j,seqIndex? i xs.length=some j/\xs[j]?=some v/\j<xs.length/\-(xs.length:Int)<=i/\i<xs.length:=by
 unfold cX at h;cases e:om xs.length i with
 |none=>rw[e] at h;cases h
 |some j=>
  rw[e] at h;obtain⟨b,h2,c,d⟩:=AN e;exact⟨j,b,h,h2,c,d⟩
theorem c9{a:Type}{xs:List a}{j:Nat}{v:a}(h:xs[j]?=some v):cX xs (j:Int)=some v:=by
 have b:j<xs.length:=(YB.mp h).1;have e:om xs.length (j:Int)=some j:=by
  unfold om;rw[if_pos (by omega),if_pos (by omega)];simp
 unfold cX;rw[e];exact h
theorem Fp{a:Type}(xs:List a)(v:a):cX (xs++[v]) (-1)=some v:=by
 have hl:(xs++[v]).length=xs.length+1:=by simp
 have e:om (xs++[v]).length (-1)=some xs.length:=by
  unfold om;rw[hl,if_neg (by decide),if_pos (by omega)];congr 1;omega
 unfold cX;rw[e];show(xs++[v])[xs.length]?=some v;simp
def AO(b:Expr):Prop:=∀o i,subscripted b false o i=operate [o,i] (getItem o i)
def xV(X:Cx)(r:R2):Prop:=
 ∀(b a:Expr) (b_:Zc) (s:Shared) (σ:St) (H:Hp) (x y:V) (v u:Value) (Q:VK),af X b_ σ H s->RelV x v->RelV y u->r x y H Q ->
  subscripted a false v u=operate [v,u] (getItem v u)->wpAny (model X.prog X.w) X.A (subscriptTail b a v u) (EP X b_ σ Q) X.xe s
def AQ(X:Cx)(id:String)(r:V->List V->Hp->VK->Prop):Prop:=
 ∀(b_:Zc) (s:Shared) (σ:St) (H:Hp) (x:V) (xs:List V) (v:Value) (us:Zd) (Q:VK),af X b_ σ H s->RelV x v->av xs us->r x xs H Q ->
  wpAny (model X.prog X.w) X.A (call (.builtin id) (v::us)) (EP X b_ σ Q) X.xe s
section
variable {X:Cx}{a b:Expr}{ta tb:TE}{pos:Pos}
theorem Mq{r:R2}(c:xV X r)(ha:PE X a ta)(hb:PE X b tb)(d:AO b):PE X (.Subscript a b pos) (Ho r ta tb):=by
 intro b_ s σ H Q I h;exact Subscript_ (Fc ha hb I h λv u s2 x y f g j k q=>c a b b_ s2 σ f x y v u Q g j k q (d _ _))
def Nz(K:Za):R2:=λx y H Q=>∃p xs i v,x=.ref p/\y=.int i/\bH K H p xs/\cX xs i=some v/\Q v H
def NA(K:Za):R2:=λx y H Q=>∃p xs i v,x=.ref p/\y=.int i/\ca K H p xs/\cX xs i=some v/\Q v H
def NB:R2:=λx y H Q=>∃z i c,x=.str z/\y=.int i/\z.length<=sizeLine/\cX z.cps.toList i=some c/\Q (.str ⟨#[c]⟩) H
theorem AR:xV X (Nz X.K):=by
 intro d f b_ s σ H x y v u Q I o A h l;obtain⟨p,xs,i,z,rfl,rfl,hq,B,q⟩:=h;cases o;obtain⟨t,rfl⟩:=A;obtain⟨f_,r,g,hz⟩:=I.list hq;obtain⟨j,c,h2,J,C,E⟩:=vB B;obtain⟨w,m,F⟩:=r.get h2;have hl:=r.length;have hn:=lQ;have fin:EP X b_ σ Q w s:=⟨z,H,I,F,q⟩;by_cases n:0<=i
 ·have k:i.toNat=j:=by
   rw[seqIndex_of n E] at c;exact Yi c
  exact item_listR g.isList n (by omega) (by rw[k];simpa using m) fin l
 ·have k:(i+(f_.toArray.size:Int)).toNat=j:=by
   rw[seqIndex_neg (by omega) C] at c;rw[YG,←hl];exact Yi c
  exact subscriptTail_builtinR (x:=w) g.isList.typeIs slot_list_getitem.lookup
   (wpAny_getItem_list_neg (Q:=λr G=>r=w/\EP X b_ σ Q r G) g.isList (by omega) (by rw[YG]<;>omega) (by omega) (by rw[k];simpa using m) ⟨rfl,fin⟩) l
theorem Ky:xV X (NA X.K):=by
 intro c d b_ s σ H x y v u Q I g k h l;obtain⟨p,xs,i,z,rfl,rfl,hq,m,q⟩:=h;cases g;obtain⟨t,rfl⟩:=k;obtain⟨f_,r,f,hz⟩:=I.tuple hq;obtain⟨j,n,h2,C,E,F⟩:=vB m;obtain⟨w,o,A⟩:=r.get h2;have hl:=r.length;have hn:=lQ;have fin:EP X b_ σ Q w s:=⟨z,H,I,A,q⟩;exact subscriptTail_builtinR (x:=w) f.typeIs slot_tuple_getitem.lookup
  (getItem_tuple (j:=j) (Q:=λr B=>r=w/\EP X b_ σ Q r B) f (by omega) (by omega) (by rw[YG,←hl];exact n) (by simpa using o) ⟨rfl,fin⟩) l
theorem Kz:xV X NB:=by
 intro d f b_ s σ H x y v u Q I k l h m;obtain⟨z,i,c,rfl,rfl,hz,n,q⟩:=h;obtain⟨t,rfl⟩:=k;obtain⟨t',rfl⟩:=l;obtain⟨j,g,h2,A,o,p⟩:=vB n;have hl:z.cps.toList.length=z.length:=by simp[Str.length]
 rw[hl] at g o p;have hn:=lQ;exact tail_any (typeIs_str s z t) slot_str_getitem.lookup (getItem_str (c:=c) (by
  have r:decide (i < -(2 ^ 63:Int))=false:=ZP (by omega);have w:decide (i>=2 ^ 63)=false:=ZP (by omega);rw[r,w,Bool.or_false]) (by rw[g];simpa using h2) ⟨.str ⟨#[c]⟩,H,I.tok _,⟨_,rfl⟩,q⟩) m
theorem BW(f_:Zd)(n j:Nat)(u:Value):Obj.mapSeq (·.setIfInBounds j u) { cls:=.type "list",data:=.seq f_.toArray n }={ cls:=.type "list",data:=.seq (f_.set j u).toArray n }:=by
 simp[Obj.mapSeq]
theorem af.lst{b_:Zc}{σ:St}{H:Hp}{s:Shared}{p:Addr}{xs:List V}(I:af X b_ σ H s)(h:H p=some (.lst xs)):
  ∃(f_:Zd) (n:Nat),av xs f_/\s.heap.get? p=some { cls:=.type "list",data:=.seq f_.toArray n }/\xs.length<=sizeLine:=by
 obtain⟨z,f_,n,r,e⟩:=I.hok p _ h;exact⟨f_,n,r,e,z⟩
theorem af.lstUpd{b_:Zc}{σ:St}{H:Hp}{s:Shared}{p:Addr}{xs c:List V}{f_ n_:Zd}{n n':Nat}{f:Obj->Obj}(I:af X b_ σ H s)(h:H p=some (.lst xs))
  (d:s.heap.get? p=some { cls:=.type "list",data:=.seq f_.toArray n }) (hf:f { cls:=.type "list",data:=.seq f_.toArray n }={ cls:=.type "list",data:=.seq n_.toArray n' }) (r:av c n_) (hz:c.length<=sizeLine) (t:Nat):
  af X b_ σ (upd H p (.lst c)) { s with heap:=s.heap.update p f,toks:=t }:=by
 have e:(s.heap.update p f).get? p=some { cls:=.type "list",data:=.seq n_.toArray n' }:=by
  rw[Heap.get?_update_self f d (by rw[hf]<;>rfl),hf]
 refine I.write (x:=p) (e:=p) (by rw[h];trivial) (.inl rfl) (λb u hb q=>(Heap.get?_update_other _ _ (Ne.symm hb)).trans q) ⟨_,e⟩ ?_;exact⟨hz,n_,n',r,e⟩
def Mr:V->V->V->Hp->(Hp->Prop)->Prop:=λo i v H Q=>∃p xs k j,o=.ref p/\i=.int k/\H p=some (.lst xs)/\om xs.length k=some j/\Q (upd H p (.lst (xs.set j v)))
theorem set_list:E8 X Mr:=by
 intro b_ s σ H o i v B C u Q I w y z h;obtain⟨p,xs,k,j,rfl,rfl,hp,A,q⟩:=h;cases w;obtain⟨t,rfl⟩:=y;obtain⟨f_,n,r,d,hz⟩:=I.lst hp;obtain⟨c,h2,f,g⟩:=AN A;have hl:=r.length;have hn:=lQ;have l:af X b_ σ (upd H p (.lst (xs.set j v))) { s with heap:=s.heap.update p (Obj.mapSeq (·.setIfInBounds j u)) }:=
  I.lstUpd hp d (BW f_ n j u) (r.set z j) (by rw[List.length_set];exact hz) s.toks
 by_cases m:0<=k
 ·have hk:k.toNat=j:=by
   rw[seqIndex_of m g] at c;exact Yi c
  exact PySem.W.ki_setAt d m (by omega) (by rw[YG,←hl];exact g) (by rw[hk];exact⟨_,l,q⟩)
 ·have hk:(k+(f_.toArray.size:Int)).toNat=j:=by
   rw[seqIndex_neg (by omega) f] at c;rw[YG,←hl];exact Yi c
  exact PySem.W.ki_setBack d (by omega) (by rw[YG,←hl];exact f) (by omega) (by rw[hk];exact⟨_,l,q⟩)
theorem xX(lo c:Zq)(n:Nat):(sliceBounds lo c none n).1=((HT.a0 n 0 lo:Nat):Int)/\(sliceBounds lo c none n).2.1=((HT.a0 n n c:Nat):Int)/\(sliceBounds lo c none n).2.2=1:=by
 refine⟨?_,?_,rfl⟩
 ·cases lo with
  |none=>simp[sliceBounds,HT.a0]
  |some i=>
   simp only[sliceBounds,HT.a0,Option.getD_none,show(1:Int)>0 by decide,if_true];by_cases h:i<0
   ·simp only[h,if_true]<;>omega
   ·simp only[h,if_false]<;>omega
 ·cases c with
  |none=>simp[sliceBounds,HT.a0]
  |some i=>
   simp only[sliceBounds,HT.a0,Option.getD_none,show(1:Int)>0 by decide,if_true];by_cases h:i<0
   ·simp only[h,if_true]<;>omega
   ·simp only[h,if_false]<;>omega
theorem xc(f_:Zd)(lo c:Zq):slicePick f_.toArray lo c none=((f_.drop (HT.a0 f_.length 0 lo)).take (HT.a0 f_.length f_.length c-HT.a0 f_.length 0 lo)).toArray:=by
 obtain⟨d,h2,f⟩:=xX lo c f_.toArray.size;unfold slicePick;rw[d,h2,f];simp only[sliceRange_one,pick_run,YG]<;>rfl
def NC(K:Za):V->Option Int->Option Int->Hp->VK->Prop:=λx lo c H Q=>∃a xs,x=.ref a/\bH K H a xs/\∀p,H p=none->Q (.ref p) (upd H p (.lst (nA xs lo c)))
theorem Ix:xU X (NC X.K):=by
 intro b_ s σ H x v l m lo c sl Q I d f g j h;obtain⟨a,xs,rfl,hx,q⟩:=h;cases d;obtain⟨f_,r,ht,hz⟩:=I.list hx;have k:=r.length;refine⟨"list",_,slot_list_getitem.lookup,ht.isList.typeIs,?_⟩;refine wpAny_getItem_list_slice ht.isList f g j .none (by simp) ?_ (by rw[YG]<;>omega);rw[xc,←k];refine⟨.ref s.heap.objs.size,_,I.laid (t':=s.toks) (o:=.lst (nA xs lo c)) (λb n q=>Yd _ q) (YE _) ?_,rfl,q _ (I.hok.fresh (YE _))⟩;exact⟨ZW (sH xs lo c) hz,_,0,(r.drop (HT.a0 xs.length 0 lo)).take (HT.a0 xs.length xs.length c-HT.a0 xs.length 0 lo),Yg _ rfl⟩
def BX:V->Bool
 |.non=>true
 |.bl _=>true
 |.int _=>true
 |.str _=>true
 |_=>false
def MN:V->V->Bool
 |.non,.non=>true
 |.bl a,.bl b=>a==b
 |.bl a,.int b=>(if a then 1 else 0)==b
 |.int a,.bl b=>a==(if b then 1 else 0)
 |.int a,.int b=>a==b
 |.str a,.str b=>a==b
 |_,_=>false
theorem DA{A:Around}{s:Shared}{y x:V}{u v:Value}(d:RelV y u)(c:RelV x v)(g:BX y=true)(f:BX x=true):SeqAt.EqAt A s u v (MN y x):=by
 cases y with
 |non=>
  cases d;cases x with
  |non=>cases c;exact SeqAt.EqAt.same _
  |bl b=>cases c;exact SeqAt.EqAt.none_bool b
  |int b=>obtain⟨t,rfl⟩:=c;exact SeqAt.EqAt.none_int b t
  |str b=>obtain⟨t,rfl⟩:=c;exact SeqAt.EqAt.none_str b t
  |_=>exact absurd (show false=true from f) YC
 |bl a=>
  cases d;cases x with
  |non=>cases c;exact SeqAt.EqAt.bool_none a
  |bl b=>cases c;exact SeqAt.EqAt.bool_bool a b
  |int b=>obtain⟨t,rfl⟩:=c;exact SeqAt.EqAt.bool_int a b t
  |str b=>obtain⟨t,rfl⟩:=c;exact SeqAt.EqAt.bool_str a b t
  |_=>exact absurd (show false=true from f) YC
 |int a=>
  obtain⟨t',rfl⟩:=d;cases x with
  |non=>cases c;exact SeqAt.EqAt.int_none a t'
  |bl b=>cases c;exact SeqAt.EqAt.int_bool a t' b
  |int b=>obtain⟨t,rfl⟩:=c;exact SeqAt.EqAt.int_int a t' b t
  |str b=>obtain⟨t,rfl⟩:=c;exact SeqAt.EqAt.int_str a t' b t
  |_=>exact absurd (show false=true from f) YC
 |str a=>
  obtain⟨t',rfl⟩:=d;cases x with
  |non=>cases c;exact SeqAt.EqAt.str_none a t'
  |bl b=>cases c;exact SeqAt.EqAt.str_bool a t' b
  |int b=>obtain⟨t,rfl⟩:=c;exact SeqAt.EqAt.str_int a t' b t
  |str b=>obtain⟨t,rfl⟩:=c;exact SeqAt.EqAt.str_str a t' b t
  |_=>exact absurd (show false=true from f) YC
 |_=>exact absurd (show false=true from g) YC
theorem lS:d0 X (.builtin "len") (λxs H Q=>∃p c,xs=[.ref p]/\(bH X.K H p c\/ca X.K H p c)/\Q (.int c.length) H):=by
 intro b_ s σ H xs us Q I r h;obtain⟨p,c,rfl,hq,q⟩:=h;obtain⟨u,rfl,j⟩:=vals1 r;cases j;have hn:=lQ;rcases hq with hq | hq
 ·obtain⟨f_,d,f,hz⟩:=I.list hq
  have g:=d.length;exact Calls.call_len_list f.isList (by simp only[YG]<;>omega) ⟨.int c.length,H,I.tok _,⟨s.toks+1,by rw[YG,g]⟩,q⟩
 ·obtain⟨f_,d,f,hz⟩:=I.tuple hq
  have g:=d.length;exact len_tuple f (by simp only[YG]<;>omega) ⟨.int c.length,H,I.tok _,⟨s.toks+1,by rw[YG,g]⟩,q⟩
theorem xY:d0 X (.builtin "len") (λxs H Q=>∃z,xs=[.str z]/\z.length<=sizeLine/\Q (.int z.length) H):=by
 intro b_ s σ H xs us Q I r h;obtain⟨z,rfl,hz,q⟩:=h;obtain⟨u,rfl,t,rfl⟩:=vals1 r;have hn:=lQ;exact len_str (by omega) ⟨.int z.length,H,I.tok _,⟨_,rfl⟩,q⟩
theorem qH:d0 X (.type "list") (λxs H Q=>∃p c,xs=[.ref p]/\(bH X.K H p c\/ca X.K H p c)/\∀l,H l=none->Q (.ref l) (upd H l (.lst c))):=by
 intro b_ s σ H xs us Q I r h;obtain⟨p,c,rfl,hq,q⟩:=h;obtain⟨u,rfl,k⟩:=vals1 r;cases k;have fin:∀(f_:Zd),av c f_->c.length<=sizeLine->∀(h':Heap) (d:Nat),(∀b o',s.heap.get? b=some o'->h'.get? b=some o') ->
   h'.get? s.heap.objs.size=some { cls:=.type "list",dict:=none,data:=.seq f_.toArray d,slots:=#[] }->EP X b_ σ Q (.ref s.heap.objs.size) { s with heap:=h' }:=λf_ f hz h' d kp e=>
  ⟨.ref s.heap.objs.size,_,I.laid (t':=s.toks) kp (YE _) (show bp X.prog X.w _ h' _ (.lst c) from⟨hz,f_,d,f,e⟩),rfl,q _ (I.hok.fresh (YE _))⟩
 rcases hq with hq | hq
 ·obtain⟨f_,f,g,hz⟩:=I.list hq
  have m:=f.length;obtain⟨o,j,hc,n,hd⟩:=g.isList;exact call_list_seq p (.inl rfl) j hc hd (λh' d kp e=>fin f_ f hz h' d kp e) (by simp only[YG]<;>omega)
 ·obtain⟨f_,f,g,hz⟩:=I.tuple hq
  have m:=f.length;obtain⟨o,j,hc,n,hd⟩:=g;exact call_list_seq p (.inr rfl) j hc hd (λh' d kp e=>fin f_ f hz h' d kp e) (by simp only[YG]<;>omega)
theorem pS:d0 X (.type "tuple") (λxs H Q=>∃p c,xs=[.ref p]/\((bH X.K H p c/\∀l,H l=none->Q (.ref l) (upd H l (.tup c)))\/(ca X.K H p c/\Q (.ref p) H))):=by
 intro b_ s σ H xs us Q I r h;obtain⟨p,c,rfl,h⟩:=h;obtain⟨u,rfl,j⟩:=vals1 r;cases j;rcases h with⟨hq,q⟩ | ⟨hq,q⟩
 ·obtain⟨f_,d,f,hz⟩:=I.list hq
  have m:=d.length;refine call_tuple_list f.isList (λh' kp=>?_) (by simp only[YG]<;>omega);have g:af X b_ σ H { s with heap:=h' }:=I.kept (t':=s.toks) kp;have k:af X b_ σ (upd H h'.objs.size (.tup c)) { s with heap:=h'.push { cls:=.type "tuple",data:=.seq f_.toArray } }:=
   g.laid (t':=s.toks) (λb o e=>Yd _ e) (YE _) (show bp X.prog X.w _ _ _ (.tup c) from⟨hz,f_,d,IsTup.new _ _⟩)
  exact⟨.ref h'.objs.size,_,k,rfl,q _ (g.hok.fresh (YE _))⟩
 ·obtain⟨f_,d,f,hz⟩:=I.tuple hq
  exact call_tuple_same f ⟨.ref p,H,I,rfl,q⟩
def Hs(K:Za)(T:String)(x:V)(H:Hp):Prop:=match x with
 |.str _=>T = "str"
 |.int _=>T = "int"
 |.ref p=>(T = "list"/\∃xs,bH K H p xs)\/(T = "tuple"/\∃o,K.lookup p=some o/\o.cls=.type "tuple"/\o.dict=none) \/
   (T = "dict"/\((∃c,H p=some (.dK c)) \/ ∃c,H p=some (.dT c)))\/(T = "set"/\∃S n,H p=some (.set S n))
 |_=>False
theorem DB{b_:Zc}{σ:St}{H:Hp}{s:Shared}{T:String}{x:V}{v:Value}(I:af X b_ σ H s)(r:RelV x v)(ty:Hs X.K T x H):
  s.TypeIs v T/\∀a,v=.ref a->∃f,s.heap.get? a=some f/\f.dict=none:=by
 cases x with
 |str z=>
  obtain⟨t,rfl⟩:=r;cases(show T = "str" from ty);exact⟨typeIs_str s z t,λ_ e=>nomatch e⟩
 |int i=>
  obtain⟨t,rfl⟩:=r;cases(show T = "int" from ty);exact⟨typeIs_int s i t,λ_ e=>nomatch e⟩
 |ref p=>
  cases r;rcases ty with⟨rfl,xs,hq⟩ | ⟨rfl,o,hk,hc,hd⟩ | ⟨rfl,hk⟩ | ⟨rfl,S,n,hk⟩
  ·obtain⟨f_,_,g,_⟩:=I.list hq
   refine⟨g.isList.typeIs,λa e=>?_⟩;cases e;obtain⟨o,n,e,c,hd,_⟩:=g;exact⟨o,e,hd⟩
  ·refine⟨⟨o,I.kIn p o hk,hc⟩,λa e=>?_⟩
   cases e;exact⟨o,I.kIn _ o hk,hd⟩
  ·have z:∃o,s.heap.get? p=some o/\o.ExactDict:=by
    rcases hk with⟨j,hk⟩ | ⟨j,hk⟩
    ·obtain⟨_,_,_,_,o,_,_,e,ex,_⟩:=I.hok p _ hk
     exact⟨o,e,ex⟩
    ·obtain⟨_,_,_,_,o,_,_,e,ex,_⟩:=I.hok p _ hk
     exact⟨o,e,ex⟩
   obtain⟨o,e,ex⟩:=z;refine⟨⟨o,e,ex.1⟩,λa d=>?_⟩;cases d;exact⟨o,e,ex.2.1⟩
  ·obtain⟨o,_,_,_,e,ex,_⟩:=I.hok p _ hk
   refine⟨⟨o,e,ex.1⟩,λa d=>?_⟩;cases d;exact⟨o,e,ex.2.1⟩
 |_=>exact Yh ty
def ND(K:Za)(T:String)(r:V->List V->Hp->VK->Prop)(d:TE):TE:=λσ H Q=>d σ H λx c=>Hs K T x c/\r x [] c Q
def N4(K:Za)(T:String)(r:V->List V->Hp->VK->Prop)(d:TE)(t:TA):TE:=λσ H Q=>d σ H λx c=>Hs K T x c/\t σ c λxs f=>r x xs f Q
variable {o e:Expr}{es:Zg}{to:TE}{t:TA}{name:Str}{o_ A':Pos}{T id:String}{r:V->List V->Hp->VK->Prop}
theorem KA(f:PlainAttrs T)(slot:Slot T name id)(g:typeOf (.builtin id)=pure (.type "method_descriptor"))(hm:AQ X id r)(j:PE X o to)
  (k:attributeBase o name X.env (eval o X.env)=eval o X.env:=by rfl) (l:(o_.endLine==A'.line)=true:=by rfl):PE X (.Call (.Attribute o name o_) [] [] A') (ND X.K T r to):=by
 intro b_ s σ H Q I h;refine wpAny_Call_method0_late k l (aN (j b_ s σ H _ I h) λv s1 m=>?_);obtain⟨x,n,c,d,ty,p⟩:=m;obtain⟨u,h2⟩:=DB c d ty;exact⟨T,id,f,slot,g,u,h2,Calls.callWith_builtin rfl (PySem.evalArgs_none (hm b_ s1 σ n x [] v [] Q c d .nil p))⟩
theorem Ms(g:PlainAttrs T)(slot:Slot T name id)(j:typeOf (.builtin id)=pure (.type "method_descriptor"))(hm:AQ X id r)(k:PE X o to)(ha:PA X (e::es) t)
  (l:attributeBase o name X.env (eval o X.env)=eval o X.env:=by rfl)
  (m:((backTo A' (starEach (e::es) X.env)).all (λx=>!x.1)&&(backToKw A' (keywordEach [] X.env)).all (λx=>x.1.isSome)
   && decide ((e::es).length+([]:List Keyword).length+(if([]:List Keyword).isEmpty then 0 else 1)<30))=true:=by rfl)
  (n:(o_.endLine==A'.line)=true:=by rfl) (p:starEach (e::es) X.env=(false,eval e X.env)::starEach es X.env:=by rfl) (u:(backTo A' (starEach es X.env)).any (·.1)=false:=by rfl):
  PE X (.Call (.Attribute o name o_) (e::es) [] A') (N4 X.K T r to t):=by
 intro b_ s σ H Q I h;refine wpAny_Call_method_late l m n rfl (aN (k b_ s σ H _ I h) λv s1 w=>?_);obtain⟨x,y,c,d,ty,z⟩:=w;obtain⟨A,h2⟩:=DB c d ty;refine⟨T,id,g,slot,j,A,h2,?_⟩;have f:=ha A' b_ s1 σ y _ c z;rw[p] at f ⊢;refine Calls.callWith_builtin (by show(false||(backTo A' (starEach es X.env)).any (·.1))=false;rw[u]<;>rfl) (Calls.evalArgs_plain ?_);refine aN f λus s2 B=>?_
 obtain⟨vs,C,E,F,G⟩:=B;exact hm b_ s2 σ C x vs v us Q E d F G
end
def Ht(X:Cx)(id:String)(r:V->List V->Hp->VK->Prop):Prop:=
 ∀(b_:Zc) (s:Shared) (σ:St) (H:Hp) (x:V) (xs:List V) (v:Value) (us:Zd) (Q:VK),af X b_ σ H s->RelV x v->av xs us->r x xs H Q ->
  wpAny (model X.prog X.w) X.A (call (.builtin id) (v::us)) (EP X b_ σ Q) X.xe s
theorem av.one{x:V}{us:Zd}(h:av [x] us):∃u,us=[u]/\RelV x u:=by
 cases h with
 |cons r t=>cases t;exact⟨_,rfl,r⟩
theorem av.two{x y:V}{us:Zd}(h:av [x,y] us):∃u v,us=[u,v]/\RelV x u/\RelV y v:=by
 cases h with
 |cons r t=>
  obtain⟨v,rfl,q⟩:=av.one t;exact⟨_,v,rfl,r,q⟩
theorem av.zero:∀{us:Zd},av [] us->us=[]
 |_,.nil=>rfl
theorem av.dropLast{xs:List V}{us:Zd}(h:av xs us):av xs.dropLast us.dropLast:=by
 induction h with
 |nil=>exact .nil
 |cons r t a=>
  cases t with
  |nil=>exact .nil
  |cons q t'=>exact .cons r a
theorem av.eraseIdx:∀{xs:List V}{us:Zd}(i:Nat),av xs us->av (xs.eraseIdx i) (us.eraseIdx i)
 |_,_,_,.nil=>.nil
 |_,_,0,.cons _ t=>t
 |_,_,i+1,.cons r t=>.cons r (av.eraseIdx i t)
theorem av.rep{xs:List V}{us:Zd}(h:av xs us):∀k:Nat,av (List.replicate k xs).flatten (List.replicate k us).flatten
 |0=>.nil
 |k+1=>by
  rw[YY,YY,YZ,YZ];exact av.append h (av.rep h k)
theorem BY{c:Type}(l:List c):l.eraseIdx (l.length-1)=l.dropLast:=by
 induction l with
 |nil=>rfl
 |cons a r d=>
  cases r with
  |nil=>rfl
  |cons b r=>
   have e:(a::b::r).length-1=((b::r).length-1)+1:=by
    have f:(a::b::r).length=r.length+2:=rfl;have h2:(b::r).length=r.length+1:=rfl;omega
   rw[e,List.eraseIdx_cons_succ,d];all_goals rfl
theorem wl{a:Type}:∀(l:List a) (i:Nat),(l.eraseIdx i).length<=l.length
 |[],_=>YE _
 |_::_,0=>YM _
 |_::r,i+1=>Nat.succ_le_succ (wl r i)
theorem foldl_rep(f_:Zd):∀(k:Nat) (h_:Zd),
  List.foldl (λa b=>a++b) h_.toArray (List.replicate k f_.toArray)=(h_++(List.replicate k f_).flatten).toArray
 |0,h_=>by simp
 |k+1,h_=>by
  have e:h_.toArray++f_.toArray=(h_++f_).toArray:=by simp
  have c:(h_++f_)++(List.replicate k f_).flatten=h_++(List.replicate (k+1) f_).flatten:=by
   rw[YY,YZ,ZB]
  rw[←c,←foldl_rep f_ k (h_++f_),←e,YY,List.foldl_cons]
section
variable {X:Cx}{b_:Zc}{σ:St}{H:Hp}{s:Shared}{l b:Addr}{xs ys zs:List V}
theorem af.lset{f_ n_:Zd}{n:Nat}{f:Array Value->Array Value}{t':Nat}(I:af X b_ σ H s)(a:H l=some (.lst xs))
  (e:s.heap.get? l=some { cls:=.type "list",data:=.seq f_.toArray n }) (hf:f f_.toArray=n_.toArray) (c:av ys n_) (hz:ys.length<=sizeLine):
  af X b_ σ (upd H l (.lst ys)) { s with heap:=s.heap.update l (Obj.mapSeq f),toks:=t' }:=by
 have q:=PySem.IsL.update e f;rw[hf] at q;refine I.write (x:=l) (e:=l) (by rw[a];exact trivial) (.inl rfl) (λd u hb hu=>(Heap.get?_update_other s.heap (Obj.mapSeq f) (Ne.symm hb)).trans hu) ⟨_,q⟩ ?_;exact⟨hz,n_,_,c,q⟩
theorem af.lnew{f_:Zd}{t':Nat}(I:af X b_ σ H s)(a:av ys f_)(hz:ys.length<=sizeLine):
  af X b_ σ (upd H s.heap.objs.size (.lst ys)) { s with heap:=s.heap.push { cls:=.type "list",data:=.seq f_.toArray },toks:=t' }:=
 I.laid (λ_ _ q=>Yd _ q) (YE _) ⟨hz,f_,0,a,Yg _ rfl⟩
theorem af.fresh(I:af X b_ σ H s):H s.heap.objs.size=none:=I.hok.fresh (YE _)
theorem af.lstM(I:af X b_ σ H s)(a:H l=some (.lst xs)):xs.length<=sizeLine/\∃(f_:Zd) (n:Nat),av xs f_/\xs.length=f_.length/\s.heap.get? l=some { cls:=.type "list",data:=.seq f_.toArray n }:=by
 obtain⟨z,f_,n,r,e⟩:=I.hok l _ a;exact⟨z,f_,n,r,r.length,e⟩
theorem xZ{n:Nat}(h:n<=sizeLine):Builtin.List.listTooLong n=false:=by
 unfold Builtin.List.listTooLong;exact ZP (by omega)
end
section
variable {X:Cx}
def Iy:V->List V->Hp->VK->Prop:=λx vs H Q=>∃l xs y,x=.ref l/\vs=[y]/\H l=some (.lst xs)/\xs.length<sizeLine/\Q .non (upd H l (.lst (xs++[y])))
theorem DC:Ht X "list.append" Iy:=by
 intro b_ s σ H x vs v us Q I b c h;obtain⟨l,xs,y,rfl,rfl,a,hz,q⟩:=h;cases b;obtain⟨u,rfl,d⟩:=c.one;obtain⟨z,f_,n,r,hl,e⟩:=I.lstM a;refine call_meets F.slot_list_append ⟨_,e,rfl⟩ F.entry_list_append (F.args_list_append_2 _ _) (PySem.list_append l f_.toArray n u (by rw[YG];omega)) ⟨e,?_⟩;refine⟨.non,_,I.lset (n_:=f_++[u]) a e (by simp) (r.append (.cons d .nil)) ?_,rfl,q⟩;rw[ZJ,List.length_singleton];omega
def Iz:V->List V->Hp->VK->Prop:=λx vs H Q=>∃l b xs a,x=.ref l/\vs=[.ref b]/\H l=some (.lst xs)/\H b=some (.lst a)/\xs.length+a.length<=sizeLine/\Q .non (upd H l (.lst (xs++a)))
theorem DE:Ht X "list.extend" Iz:=by
 intro b_ s σ H x vs v us Q I d f h;obtain⟨l,b,xs,t,rfl,rfl,c,g,hz,q⟩:=h;cases d;obtain⟨u,rfl,j⟩:=f.one;cases j;obtain⟨z,f_,n,r,hl,e⟩:=I.lstM c;obtain⟨w,a,k,m,y,o⟩:=I.lstM g;have hsz:f_.toArray.size+a.toArray.size<=sizeLine:=by rw[YG,YG];omega
 have p:¬(!f_.toArray.isEmpty&&Builtin.List.listTooLong (f_.toArray.size+a.toArray.size))=true:=by
  rw[xZ hsz,Bool.and_false];exact YC
 refine call_meets F.slot_list_extend ⟨_,e,rfl⟩ F.entry_list_extend (F.args_list_extend_2 _ _)
  (AutoSeq1.list_extend_list_list_0 l f_.toArray n b a.toArray k p (by rw[YG];omega) (by omega)) ⟨e,o,?_⟩
 refine⟨.non,_,I.lset (n_:=f_++a) c e (by simp) (r.append m) ?_,rfl,q⟩;rw[ZJ];omega
def NE:V->List V->Hp->VK->Prop:=λx vs H Q=>∃l xs y,x=.ref l/\vs=[]/\H l=some (.lst xs)/\xs[xs.length-1]?=some y/\Q y (upd H l (.lst xs.dropLast))
theorem KB:Ht X "list.pop" NE:=by
 intro b_ s σ H x vs v us Q I c d h;obtain⟨l,xs,y,rfl,rfl,b,hy,q⟩:=h;cases c;have f:=d.zero;subst f;obtain⟨z,f_,n,r,hl,e⟩:=I.lstM b;obtain⟨u,hu,g⟩:=r.get hy;have a:f_.toArray[f_.toArray.size-1]?=some u:=by
  show f_.toArray[f_.length-1]?=some u;rw[←XA,←hl];exact hu
 refine call_meets F.slot_list_pop ⟨_,e,rfl⟩ F.entry_list_pop (F.args_list_pop_1 _) (MeetsSeq.list_pop_last l f_.toArray n u a (by rw[YG];omega)) ⟨e,?_⟩;refine⟨y,_,I.lset (n_:=f_.dropLast) b e ?_ r.dropLast ?_,g,q⟩
 ·show f_.toArray.eraseIdxIfInBounds (f_.toArray.size-1)=f_.dropLast.toArray
  rw[YG,List.eraseIdxIfInBounds_toArray,BY]
 ·rw[List.length_dropLast]
  omega
def KC:V->List V->Hp->VK->Prop:=λx vs H Q=>∃l xs i k y,x=.ref l/\vs=[.int i]/\H l=some (.lst xs)/\-(2 ^ 63)<=i/\i<2 ^ 63/\seqIndex? i xs.length=some k/\xs[k]?=some y/\Q y (upd H l (.lst (xs.eraseIdx k)))
theorem Fq:Ht X "list.pop" KC:=by
 intro b_ s σ H x vs v us Q I b c h;obtain⟨l,xs,i,k,y,rfl,rfl,a,d,h2,hk,hy,q⟩:=h;cases b;obtain⟨u,rfl,f⟩:=c.one;obtain⟨t,rfl⟩:=f;obtain⟨z,f_,n,r,hl,e⟩:=I.lstM a;obtain⟨w,hw,g⟩:=r.get hy;refine call_meets F.slot_list_pop ⟨_,e,rfl⟩ F.entry_list_pop (F.args_list_pop_2 _ _)
  (MeetsSeq.list_pop_at l f_.toArray n i t k w (fitsIndex_both d h2) (by rw[YG,←hl];exact hk) (by rw[←XA];exact hw) (by rw[YG];omega)) ⟨e,?_⟩
 refine⟨y,_,I.lset (n_:=f_.eraseIdx k) a e ?_ (r.eraseIdx k) ?_,g,q⟩
 ·show f_.toArray.eraseIdxIfInBounds k=(f_.eraseIdx k).toArray
  rw[List.eraseIdxIfInBounds_toArray]
 ·have:=wl xs k
  omega
def NF:R2:=λx y H Q=>∃l b xs a,x=.ref l/\y=.ref b/\H l=some (.lst xs)/\H b=some (.lst a)/\xs.length+a.length<=sizeLine/\∀p,H p=none->Q (.ref p) (upd H p (.lst (xs++a)))
theorem KD:cI X (binaryOp .Add) NF:=by
 intro b_ s σ H x y v u Q I c d h;obtain⟨l,b,xs,o,rfl,rfl,f,g,hz,q⟩:=h;cases c;cases d;obtain⟨z,f_,n,r,hl,e⟩:=I.lstM f;obtain⟨p,a,t,j,w,k⟩:=I.lstM g;refine PySem.P.add_list e k ?_ (by rw[YG,YG];omega);have m:f_.toArray++a.toArray=(f_++a).toArray:=by simp
 rw[m];exact⟨.ref _,_,I.lnew (t':=s.toks) (r.append j) (by rw[ZJ];omega),rfl,q _ I.fresh⟩
def NG:R2:=λx y H Q=>∃l k xs,x=.ref l/\y=.int k/\H l=some (.lst xs)/\-(2 ^ 63)<=k/\k<2 ^ 63/\xs.length*k.toNat<=sizeLine /\
 ∀p,H p=none->Q (.ref p) (upd H p (.lst (List.replicate k.toNat xs).flatten))
theorem len_rep{a:Type}(xs:List a)(k:Nat):(List.replicate k xs).flatten.length=k*xs.length:=by
 induction k with
 |zero=>simp
 |succ k b=>rw[YY,YZ,ZJ,b,Nat.succ_mul,Nat.add_comm]
theorem KF:cI X (binaryOp .Mult) NG:=by
 intro b_ s σ H x y v u Q I d f h;obtain⟨l,k,xs,rfl,rfl,g,j,h2,hz,q⟩:=h;cases d;obtain⟨t,rfl⟩:=f;obtain⟨z,f_,n,r,hl,e⟩:=I.lstM g;have o:f_.toArray.size*k.toNat<=sizeLine:=by rw[YG,←hl];exact hz
 have p:¬f_.toArray.size*k.toNat>(2 ^ 63-1) / 8:=by
  have:(sizeLine:Nat)<=(2 ^ 63-1) / 8:=by decide
  omega
 have w:¬(!Builtin.List.listFitsIndex k)=true:=by
  rw[fitsIndex_both j h2];exact YC
 have A:¬Builtin.List.listTooLong (f_.toArray.size*k.toNat)=true:=by
  rw[xZ o];exact YC
 have B:List.foldl (λb c=>b++c) #[] (List.replicate (if f_.toArray.isEmpty=true then 0 else k.toNat) f_.toArray)=(List.replicate k.toNat f_).flatten.toArray:=by
  have C:∀m:Nat,List.foldl (λb c=>b++c) #[] (List.replicate m f_.toArray)=(List.replicate m f_).flatten.toArray:=λm=>by
   have:=foldl_rep f_ m []
   rw[XB] at this;exact this
  rw[C];cases f_ with
  |nil=>simp
  |cons a G=>rw[if_neg (by simp)]
 refine wpAny_binaryOp_repeat_ref (T:="list") (U:="int") (by decide) ⟨_,e,rfl⟩ (λE=>typeIs_int E k t) noFill_list_mul F.fills_int_mul F.slot_int_rmul repeat_list F.slot_int_index.lookup
  (call_meets F.slot_int_rmul (typeIs_int s k t) F.entry_int_rmul (F.args_int_rmul_2 _ _) (int___rmul___int_list k t l f_.toArray n)
   ⟨e,rfl,⟨_,e,rfl⟩,call_meets F.slot_list_mul ⟨_,e,rfl⟩ F.entry_list_mul (F.args_list_mul_2 _ _) (AutoListH.list___mul___list_int_3 l f_.toArray n k t w p A) ⟨e,?_⟩⟩)
 rw[B];exact⟨.ref _,_,I.lnew (t':=s.toks) (r.rep k.toNat) (by rw[len_rep,Nat.mul_comm];exact hz),rfl,q _ I.fresh⟩
end
section
variable {prog:Zw}{w:World}{A:Around}{E:Zb}{s:Shared}
end
section
variable {κ:Type}[DecidableEq κ]
def gf(a:List (κ×V))(k:κ):Option V:=(a.find? λb=>decide (b.1=k)).map (·.2)
def putK(b:List (κ×V))(k:κ)(v:V):List (κ×V):=
 if(b.any λa=>decide (a.1=k))=true then b.map (λa=>if a.1=k then(a.1,v) else a) else b++[(k,v)]
theorem tj{p:κ×V}{r:List (κ×V)}{k:κ}(e:p.1=k):gf (p::r) k=some p.2:=by simp[gf,XC,e]
theorem tm{p:κ×V}{r:List (κ×V)}{k:κ}(e:¬p.1=k):gf (p::r) k=gf r k:=by simp[gf,XC,e]
theorem x9(k:κ):∀a:List (κ×V),(a.any λb=>decide (b.1=k))=(gf a k).isSome
 |[]=>rfl
 |p::r=>by
  rw[XD];by_cases e:p.1=k
  ·simp only[tj e,YU e,Bool.true_or,Option.isSome_some]
  ·rw[tm e,ZP e,Bool.false_or];exact x9 k r
theorem sJ(a:List (κ×V))(k:κ)(v:V):(putK a k v).length<=a.length+1:=by
 unfold putK;split
 ·rw[ZF];omega
 ·rw[ZJ,YH,YT];omega
theorem gc.isSome_eq{o:Option V}{u:Zx}(r:gc o u):o.isSome=u.isSome:=by
 cases o with
 |none=>cases u with
  |none=>rfl
  |some _=>exact(show False from r).elim
 |some _=>cases u with
  |none=>exact(show False from r).elim
  |some _=>rfl
theorem KV.val{c:List (κ×V)}{vs:List (κ×Value)}(r:KV c vs)(k:κ):gc (gf c k) (valueAt vs k):=by
 unfold KV at r;induction r with
 |nil=>exact True.intro
 |@cons p q ps a h t f=>
  obtain⟨d,h2⟩:=h;by_cases e:p.1=k
  ·have e':q.1=k:=d.symm.trans e
   have b:valueAt (q::a) k=some q.2:=by simp[valueAt,XC,e']
   rw[tj e,b];exact h2
  ·have e':¬q.1=k:=λz=>e (d.trans z)
   have b:valueAt (q::a) k=valueAt a k:=by simp[valueAt,XC,e']
   rw[tm e,b];exact f
theorem KV.any{b:List (κ×V)}{vs:List (κ×Value)}(r:KV b vs)(k:κ):(b.any λa=>decide (a.1=k))=vs.any λa=>decide (a.1=k):=by
 unfold KV at r;induction r with
 |nil=>rfl
 |cons h t c=>rw[XD,XD,c,h.1]
theorem KV.repl{c:List (κ×V)}{vs:List (κ×Value)}(r:KV c vs)(k:κ){y:V}{u:Value}(d:RelV y u):
  KV (c.map λa=>if a.1=k then(a.1,y) else a) (vs.map λa=>if a.1=k then(a.1,u) else a):=by
 unfold KV at r ⊢;induction r with
 |nil=>exact .nil
 |@cons p q ps g h t f=>
  rw[YJ,YJ];refine .cons ?_ f;obtain⟨b,h2⟩:=h;by_cases e:p.1=k
  ·rw[if_pos e,if_pos (b.symm.trans e)];exact⟨b,d⟩
  ·rw[if_neg e,if_neg (λz=>e (b.trans z))];exact⟨b,h2⟩
theorem KV.put{a:List (κ×V)}{vs:List (κ×Value)}(r:KV a vs)(k:κ){y:V}{u:Value}(b:RelV y u):KV (putK a k y) (stored vs k u):=by
 unfold putK stored;rw[r.any k];by_cases e:(vs.any λc=>decide (c.1=k))=true
 ·rw[if_pos e,if_pos e];exact r.repl k b
 ·rw[if_neg e,if_neg e];exact Paired.snoc r ⟨rfl,b⟩
theorem KV.keys{a:List (κ×V)}{vs:List (κ×Value)}(r:KV a vs):a.map (·.1)=vs.map (·.1):=by
 unfold KV at r;induction r with
 |nil=>rfl
 |cons h t b=>rw[YJ,YJ,b,h.1]
theorem KV.length{a:List (κ×V)}{vs:List (κ×Value)}(r:KV a vs):a.length=vs.length:=Paired.length r
end
theorem ub{P:Zw}{w:World}{k:Key}{u:Value}(r:RelV (kV k) u):(bM P w).is k u=true:=by
 cases k with
 |inl i=>obtain⟨t,e⟩:=(show ∃t,u=Value.int i t from r);subst e;exact z9 P w i t
 |inr x=>obtain⟨t,e⟩:=(show ∃t,u=Value.str x t from r);subst e;exact Aa P w x t
theorem wm{P:Zw}{w:World}:∀{ks:List Key}{us:Zd},av (ks.map kV) us->ItemsAre (bM P w) ks us
 |[],_,r=>by rw[List.map_nil] at r;cases r;exact .nil
 |k::ks,_,r=>by
  rw[YJ] at r;cases r with
  |cons h t=>exact .cons (ub h) (wm t)
abbrev KT(H:Hp):List (List Key×V)->List (List Key×Addr×Value)->Prop:=Paired λp q=>p.1=q.1/\H q.2.1=some (.tup (p.1.map kV))/\RelV p.2 q.2.2
theorem KT.val{H:Hp}{c:List (List Key×V)}{xs:List (List Key×Addr×Value)}(r:KT H c xs)(k:List Key):gc (gf c k) ((atKey xs k).map (·.2)):=by
 induction r with
 |nil=>exact True.intro
 |@cons p q ps a h t f=>
  obtain⟨d,_,h2⟩:=h;by_cases e:p.1=k
  ·have e':q.1=k:=d.symm.trans e
   have b:atKey (q::a) k=some q.2:=by simp[atKey,XC,e']
   rw[tj e,b];exact h2
  ·have e':¬q.1=k:=λz=>e (d.trans z)
   have b:atKey (q::a) k=atKey a k:=by simp[atKey,XC,e']
   rw[tm e,b];exact f
theorem KT.repl{H:Hp}{c:List (List Key×V)}{xs:List (List Key×Addr×Value)}(r:KT H c xs)(k:List Key){y:V}{u:Value}(d:RelV y u):
  KT H (c.map λb=>if b.1=k then(b.1,y) else b) (xs.map (putAt k u)):=by
 induction r with
 |nil=>exact .nil
 |@cons p q ps j h t f=>
  rw[YJ,YJ];refine .cons ?_ f;obtain⟨a,h2,g⟩:=h;unfold putAt;by_cases e:p.1=k
  ·rw[if_pos e,if_pos (a.symm.trans e)];exact⟨a,h2,d⟩
  ·rw[if_neg e,if_neg (λz=>e (a.trans z))];exact⟨a,h2,g⟩
theorem KT.put{H:Hp}{a:List (List Key×V)}{xs:List (List Key×Addr×Value)}(r:KT H a xs)(k:List Key){b:Addr}{y:V}{u:Value}(hb:H b=some (.tup (k.map kV)))(c:RelV y u):
  KT H (putK a k y) (storedH xs k b u):=by
 have e:(a.any λd=>decide (d.1=k))=(atKey xs k).isSome:=by
  rw[x9,(r.val k).isSome_eq,Option.isSome_map]
 unfold putK storedH;rw[e];by_cases q:(atKey xs k).isSome=true
 ·rw[if_pos q,if_pos q];exact r.repl k c
 ·rw[if_neg q,if_neg q];exact Paired.snoc r ⟨rfl,hb,c⟩
theorem KT.keeps{H H':Hp}{a:List (List Key×V)}{xs:List (List Key×Addr×Value)}(r:KT H a xs)(ht:∀b c,H b=some (.tup c)->H' b=some (.tup c)):KT H' a xs:=
 Paired.mapP r λ_ _ z=>⟨z.1,ht _ _ z.2.1,z.2.2⟩
section
variable {P:Zw}{w:World}{H:Hp}{h:Heap}{a:Addr}
theorem Hu{u:HO}(ok:cC P w H h)(e:Rd H a u):bp P w H h a u:=e.ok ok
theorem mI{b:List (Key×V)}(ok:cC P w H h)(e:Rd H a (.dK b)):b.length<=sizeLine/\(a==sysModules)=false/\∃vs,KV b vs/\h.DictOf (bM P w) a vs:=
 show bp P w H h a (.dK b) from Hu ok e
theorem Hv{b:List (Key×V)}(ok:cC P w H h)(e:H a=some (.dK b)):b.length<=sizeLine/\(a==sysModules)=false/\∃vs,KV b vs/\h.DictOf (bM P w) a vs:=mI ok (.inl e)
theorem qI{ks:List Key}(ok:cC P w H h)(e:H a=some (.tup (ks.map kV))):(tupleKind (bM P w)).is h ks a:=by
 obtain⟨_,f_,r,o,b,h2,n,c⟩:=(show bp P w H h a (.tup (ks.map kV)) from ok a _ e);exact⟨o,f_.toArray,n,b,h2,c,by simpa using wm r⟩
theorem uc{b:List (List Key×V)}(ok:cC P w H h)(e:Rd H a (.dT b)):b.length<=sizeLine/\(a==sysModules)=false /\
  ∃xs,KT H b xs/\h.DictOfH (tupleKind (bM P w)) a xs:=by
 obtain⟨z,y,xs,r,o,es,c,d,h2,f,g,j⟩:=(show bp P w H h a (.dT b) from Hu ok e);refine⟨z,y,xs,r,o,es,c,d,h2,f,g,λx hx=>?_,j⟩;have all:∀{l:List (List Key×V)}{m:List (List Key×Addr×Value)},KT H l m->∀x∈m,(tupleKind (bM P w)).is h x.1 x.2.1:=by
  intro l m q;induction q with
  |nil=>intro x hx;exact nomatch hx
  |@cons p q ps n hq t k=>
   intro x hx;rcases ZZ.mp hx with e | hx
   ·subst e
    exact qI ok (by rw[←hq.1];exact hq.2.1)
   ·exact k x hx
 exact all r x hx
theorem Mu{b:List (List Key×V)}(ok:cC P w H h)(e:H a=some (.dT b)):b.length<=sizeLine/\(a==sysModules)=false /\
  ∃xs,KT H b xs/\h.DictOfH (tupleKind (bM P w)) a xs:=uc ok (.inl e)
end
def nB(H:Hp)(a:Addr)(y:V)(r:Option V):Prop:=
 (∃c k,Rd H a (.dK c)/\y=kV k/\r=gf c k) \/ ∃c k b,Rd H a (.dT c)/\y=.ref b/\H b=some (.tup (k.map kV))/\r=gf c k
def NH(H:Hp)(a:Addr)(y v:V)(H':Hp):Prop:=
 (∃c k,H a=some (.dK c)/\y=kV k/\c.length<sizeLine/\H'=upd H a (.dK (putK c k v))) \/
 ∃c k b,H a=some (.dT c)/\y=.ref b/\H b=some (.tup (k.map kV))/\c.length<sizeLine/\H'=upd H a (.dT (putK c k v))
theorem nB.k{H:Hp}{a:Addr}{b:List (Key×V)}{k:Key}(e:H a=some (.dK b)):nB H a (kV k) (gf b k):=.inl ⟨b,k,.inl e,rfl,rfl⟩
section
variable {X:Cx}{b_:Zc}{σ:St}{H:Hp}{s:Shared}{a:Addr}{y v:V}{u r:Value}{o:Option V}{A:Around}{E:Zb}
theorem af.big(I:af X b_ σ H s):sysModules<s.heap.objs.size:=by
 have h:mainGlobals<s.heap.objs.size:=(I.mod.glob.keeps I.bk).lt;exact Nat.lt_trans (by decide) h
theorem DF{Q:Zb}(hu:A.units+1<cLine)(I:af X b_ σ H s)(g:nB H a y (some v))(n:RelV y u)(h:∀c t,af X b_ σ H t->RelV v c->Q c t):
  wpAny (model X.prog X.w) A (getItem (.ref a) u) Q E s:=by
 rcases g with⟨B,k,e,d,l⟩ | ⟨B,k,b,e,d,C,l⟩
 ·subst d
  obtain⟨z,hd,vs,f,j⟩:=mI I.hok e;obtain⟨c,hw,m⟩:=gc.some_of (v:=v) (o:=valueAt vs k) (by rw[l];exact f.val k);exact wpAny_getItem_of (ub n) j.mapOf hw (h c _ (I.tok _) m)
 ·subst d
  cases(show u=Value.ref b from n);obtain⟨z,hd,xs,f,j⟩:=uc I.hok e;obtain⟨c,hw,m⟩:=gc.some_of (v:=v) (o:=(atKey xs k).map (·.2)) (by rw[l];exact f.val k);obtain⟨p,hp,F⟩:=ZN.mp hw;refine wpAny_getItem_heap (tupleKind_room_in1 hu) (qI I.hok C) j hp ?_;rw[F];exact h c _ (I.tok _) m
theorem NI{Q:Zb}(hu:A.units+1<cLine)(I:af X b_ σ H s)(g:nB H a y o)(j:RelV y u)(h:∀m,af X b_ σ H m->Q (.bool o.isSome) m):
  wpAny (model X.prog X.w) A (compareOp .In u (.ref a)) Q E s:=by
 rcases g with⟨n,k,e,c,l⟩ | ⟨n,k,b,e,c,p,l⟩
 ·subst c
  obtain⟨z,hd,vs,d,f⟩:=mI I.hok e;refine wpAny_in_of (ub j) hd f.mapOf ?_;rw[←(d.val k).isSome_eq,←l];exact h _ (I.tok _)
 ·subst c
  cases(show u=Value.ref b from j);obtain⟨z,hd,xs,d,f⟩:=uc I.hok e;refine wpAny_in_heap (tupleKind_room_in1 hu) (qI I.hok p) hd f ?_;have q:=(d.val k).isSome_eq;rw[Option.isSome_map] at q;rw[←q,←l];exact h _ (I.tok _)
theorem IA{Q:Zb}(hu:A.units+1<cLine)(I:af X b_ σ H s)(g:nB H a y o)(j:RelV y u)(h:∀m,af X b_ σ H m->Q (.bool (!o.isSome)) m):
  wpAny (model X.prog X.w) A (compareOp .NotIn u (.ref a)) Q E s:=by
 rcases g with⟨n,k,e,c,l⟩ | ⟨n,k,b,e,c,p,l⟩
 ·subst c
  obtain⟨z,hd,vs,d,f⟩:=mI I.hok e;refine wpAny_notIn_of (ub j) hd f.mapOf ?_;rw[←(d.val k).isSome_eq,←l];exact h _ (I.tok _)
 ·subst c
  cases(show u=Value.ref b from j);obtain⟨z,hd,xs,d,f⟩:=uc I.hok e;refine wpAny_notIn_heap (tupleKind_room_in1 hu) (qI I.hok p) hd f ?_;have q:=(d.val k).isSome_eq;rw[Option.isSome_map] at q;rw[←q,←l];exact h _ (I.tok _)
theorem AS{h':Heap}{t':Nat}{c:HO}(I:af X b_ σ H s)(mu:Dp (H a))(d:Heap.SameBut a s.heap h')(f:∃q,h'.get? a=some q)(new:bp X.prog X.w (upd H a c) h' a c):
  af X b_ σ (upd H a c) { s with heap:=h',toks:=t' }:=
 I.write (x:=a) (e:=a) mu (.inl rfl) (λb q hb z=>(d.2 b hb).trans z) f new
theorem KG{P:Zw}{w:World}{H':Hp}{h':Heap}{b:List (Key×V)}{vs:List (Key×Value)}(z:b.length<=sizeLine)(hd:(a==sysModules)=false)(c:KV b vs)(d:h'.DictOf (bM P w) a vs):
  bp P w H' h' a (.dK b):=⟨z,hd,vs,c,d⟩
theorem DG{H':Hp}{Q:Zo}(hu:A.units+1<cLine)(I:af X b_ σ H s)(g:NH H a y v H')(B:RelV y u)(C:RelV v r)(h:∀F,af X b_ σ H' F->Q () F):
  wpAny (model X.prog X.w) A (setItem (.ref a) u r) Q E s:=by
 rcases g with⟨d,k,e,m,l,n⟩ | ⟨d,k,b,e,m,G,l,n⟩
 ·subst m n
  obtain⟨z,hd,vs,f,p⟩:=Hv I.hok e;have hz:vs.length<=sizeLine:=by rw[←f.length];exact z
  have hl:(putK d k v).length<=sizeLine:=by have:=sJ d k v;omega
  refine wpAny_setItem_pairs (hsz:=hz) (ub B) p λh' j t=>h _ ?_
  have K:∃q,h'.get? a=some q:=let⟨q,_,_,hq,_⟩:=j;⟨q,hq⟩;exact AS I (by rw[e];exact True.intro) t K (KG hl hd (f.put k C) j)
 ·subst m n
  cases(show u=Value.ref b from B);obtain⟨z,hd,xs,f,p⟩:=Mu I.hok e;have hz:xs.length<=sizeLine:=by rw[←Paired.length f];exact z
  have hl:(putK d k v).length<=sizeLine:=by have:=sJ d k v;omega
  refine wpAny_setItem_heap (hsz:=hz) (tupleKind_room_in1 hu) (qI I.hok G) p λh' j t=>h _ ?_
  obtain⟨q,es,L,hq,h2,O,P,_,R⟩:=j;refine AS I (by rw[e];exact True.intro) t ⟨q,hq⟩ ⟨hl,hd,_,(f.put k G C).keeps λc S J=>?_,q,es,L,hq,h2,O,P,R⟩;rw[aS (LY J e (λz=>nomatch z))];exact J
end
section
variable {X:Cx}{b_:Zc}{σ:St}{H:Hp}{s:Shared}{a:Addr}{d_:List (Key×V)}{k:Key}{u:Value}{A:Around}{E:Zb}
theorem Hw{Q:Zb}(I:af X b_ σ H s)(e:Rd H a (.dK d_))(h:∀t b,af X b_ σ H b->Q (.int d_.length t) b):wpAny (model X.prog X.w) A (call (.builtin "len") [.ref a]) Q E s:=by
 obtain⟨z,hd,vs,c,d⟩:=mI I.hok e;refine call_len_dict hd d (by rw[←c.length];rw[sizeLine_eq] at z;omega) ?_;rw[←c.length];exact h _ _ (I.tok _)
end
theorem Ab{X:Cx}{b_:Zc}{σ:St}{H:Hp}{s:Shared}{a:Addr}{y:V}{o:Option V}(I:af X b_ σ H s)(g:nB H a y o):s.TypeIs (.ref a) "dict":=by
 rcases g with⟨d,k,e,_,_⟩ | ⟨d,k,b,e,_,_,_⟩
 ·obtain⟨_,_,vs,_,c⟩:=mI I.hok e
  exact c.typeIs
 ·obtain⟨_,_,xs,_,c⟩:=uc I.hok e
  exact c.typeIs
theorem Fr{P:Zw}{w:World}{H:Hp}(h:Heap)(hb:sysModules<h.objs.size):bp P w H (h.push { cls:=.type "dict",data:=.dict #[] }) h.objs.size (.dK []):=
 ⟨YL _,ZQ.mpr (Ne.symm (ZT hb)),[],.nil,Heap.DictOf.new h⟩
def KH:TE:=λ_ H Q=>∀p,H p=none->Q (.ref p) (upd H p (.dK []))
section
variable {X:Cx}{pos:Pos}
theorem Fs:PE X (.Dict [] [] pos) KH:=λb_ s σ H Q I h=>
 wpAny_Dict_empty ⟨.ref s.heap.objs.size,_,I.laid (a:=s.heap.objs.size) (o:=.dK []) (t':=s.toks) (λ_ _ q=>Yd _ q) (YE _) (Fr s.heap I.big),rfl,h _ (I.hok.fresh (YE _))⟩
end
structure M1 (X:Cx) (o:Expr) (m:Str) (o_:Pos) (e:Expr) (A':Pos):Prop where
 base:attributeBase o m X.env (eval o X.env)=eval o X.env
 few:((backTo A' (starEach [e] X.env)).all (λx=>!x.1)&&(backToKw A' (keywordEach [] X.env)).all (λx=>x.1.isSome)
  && decide (([e]:List Expr).length+([]:List Keyword).length+(if([]:List Keyword).isEmpty then 0 else 1)<30))=true
 line:(o_.endLine==A'.line)=true
 trees:backTo A' (starEach [e] X.env)=[(false,eval e X.env)]
structure M2 (X:Cx) (o:Expr) (m:Str) (o_:Pos) (e f:Expr) (A':Pos):Prop where
 base:attributeBase o m X.env (eval o X.env)=eval o X.env
 few:((backTo A' (starEach [e,f] X.env)).all (λx=>!x.1)&&(backToKw A' (keywordEach [] X.env)).all (λx=>x.1.isSome)
  && decide (([e,f]:List Expr).length+([]:List Keyword).length+(if([]:List Keyword).isEmpty then 0 else 1)<30))=true
 line:(o_.endLine==A'.line)=true
 trees:backTo A' (starEach [e,f] X.env)=[(false,eval e X.env),(false,eval f X.env)]
end L2
namespace Att
open PySem PySem.W PySem.Calls PyProof.Rows
theorem ud{P:Params}{h:Heap}:∀(ns:Zi) (vs:Zd),WellAll P h vs (ns.map WData.int)->IntsAre vs ns:=by
 intro ns;induction ns with
 |nil=>
  intro vs w;rw[List.map_nil] at w;cases w;exact .nil
 |cons n ns c=>
  intro vs w;rw[YJ] at w;cases w with
  |cons a b=>
   cases a;exact .cons _ _ (c _ b)
theorem DH{l:OpenLaw}{n:Nat}(hn:l.most=some n){P:Params}{h:Heap}{args:List WData}{b:Zd}
  (j:l.row.toRowW.claim.pre args=true) (k:WellAll P h b args):
  ∃a vs ns,b=[Value.ref a]/\args=[WData.list (ns.map WData.int)]/\h.get? a=some { cls:=.type "list",data:=.seq vs.toArray }/\IntsAre vs ns/\ns.length<=n:=by
 have g:WShape.hasAll [] args [.list .int]=true:=(pre_splitW j).1;have hc:l.pre.holds [] { args:=args }=true:=(pre_splitW j).2;obtain⟨d,r,rfl,m,h2⟩:=hasAllW_cons g;obtain rfl:=hasAllW_nil h2;obtain⟨xs,rfl,o⟩:=hasW_list m;obtain⟨ns,rfl⟩:=items_int o;have p:ns.length<=n:=by
  unfold OpenLaw.pre at hc;have c:(WTm.not (.lt (.lit (.int (n:Int))) (.len (.arg 0)))).holds [] { args:=[.list (ns.map .int)] }=true:=by
   have c:=(holds_andW hc).1;rw[hn] at c;exact c
  have f:=condW_of c (w_not (w_lt w_lit (w_len_list (w_arg rfl))));rw[ZF] at f;refine Nat.le_of_not_lt λq=>?_
  have t:(n:Int)<((ns.length:Nat):Int):=by omega
  first
   |(rw[YU t] at f;exact absurd f (by decide))
   |(simp at f;omega)
 cases k with
 |cons u w=>
  cases w;cases u with
  |list y z=>exact⟨_,_,ns,rfl,rfl,y,ud ns _ z,p⟩
theorem DI(l:OpenLaw)(args:List WData):l.row.toRowW.claim.post args (.bool true) args=true:=
 postW_of (r:=l.row.toRowW) (X:=(true==true))
  (show WShape.has [] (.bool true) .bool=true by first | rfl | decide | simp[WShape.has,WShape.arms,WShape.armsAll])
  (show(WTm.eq .res (.lit (.bool true))).value [] { args:=args,res:=some (.bool true),after:=args }=some (.bool (true==true)) from w_eq_bool (w_res rfl) w_lit) rfl
theorem Ac{l:OpenLaw}{n:Nat}{q:Zw}{loose:Zf}{XP:(Str->Option Value)->Heap->Prop}{YP:World->Heap->Prop}{d:DefRec}
  (hn:l.most=some n) (u:d.params.defaults=[])
  (call:∀(w:World) (s₀ b:Shared) (mg mb:Ze) (g:Addr) (o:Obj) (pm j w_:Value) (a:Addr) (vs:Zd) (ns:Zi),
   Ground q loose [] XP w s₀ mg mb b.heap->YP w b.heap ->
   b.heap.get? g=some o->o.data=.func (docDef d.name d.params d.body d.scope pm j w_)->b.heap.CodeRec j d.name->mg d.name=some (.ref g) ->
   b.heap.get? a=some { cls:=.type "list",data:=.seq vs.toArray }->IntsAre vs ns->ns.length<=n->b.gens = #[] ->
   codeAny (model l.prog w) callerA (.call (.ref g) ⟨[.ref a],[]⟩) (λr k=>r=.ok (.ret (.bool true))/\OldK b.heap k.heap/\k.os=b.os/\AllBare k.gens) b):
  WalkO q loose XP YP l.row.toRowW d [] (λf vs=>PySem.call f vs):=by
 intro w s₀ b mg mb G Y g o pm j w_ y kV z hd A m B hg args p as C t E F I;obtain rfl:y=.none:=Dflts.none m u;obtain rfl:kV=.none:=Dflts.noKw m;obtain⟨a,vs,ns,rfl,rfl,J,c,K⟩:=DH hn C F;refine enter_call (codeAny_mono (call w s₀ b mg mb g o pm j w_ a vs ns G Y z (fd_plain hd) A B J c K hg) λr k hq=>?_);obtain⟨rfl,h2,L,O⟩:=hq;exact⟨.inl ⟨.bool true,.bool true,[],rfl,λ_=>rfl,.bool true,DI l _,λ_=>⟨List.Pairwise.nil,λ_ hm=>(nomatch hm)⟩⟩,h2,L,O⟩
section
variable {prog:Zw}{w:World}{A:Around}{E:Zb}{s:Shared}{K:Frag}
end
end Att
namespace L2
open PySem PySem.Spec PyProof.Rows
theorem wn:∀{vs:Zd}{ns:Zi},IntsAre vs ns->av (ns.map V.int) vs
 |_,_,.nil=>.nil
 |_,_,.cons n t h=>.cons ⟨t,rfl⟩ (wn h)
def Ft(H:Hp):Prop:=∀b,H b=none \/ ∃o xs,H b=some (.frz o (.lst xs))
theorem Fu{P:Zw}{w:World}{K:Za}{mg mb:Ze}{CX:sG}{k:Nat}{t a:Addr}{fd:Zv}{x:Str}{sp:Sp}{c:Shared}{vs:Zd}{ns:Zi}
  (A:K.In c.heap) (B:c.heap.Ns mainGlobals mg) (hb:c.heap.Ns builtinsNs mb) (y:∀x:Str,x ≠ "__name__"->mb x=bootBuiltins x) (R:c.heap.NoLimit) (hg:c.gens = #[])
  (ha:c.heap.get? a=some { cls:=.type "list",data:=.seq vs.toArray }) (C:IntsAre vs ns) (hl:ns.length<=sizeLine) (S:cb k callerA)
  (F:∀base:Heap,K.In base->base.Ns mainGlobals mg->ge P w K mg base CX k t fd [x] sp) (T:∀(s:Shared) (u:Value),BindsTo s fd ⟨[u],[]⟩ [(x,u)])
  (U:∀H:Hp,Ft H->bH K H a (ns.map V.int)->sp [.ref a] H (λv _=>v=.bl true) λ_ _ _=>False)
  (W:∀H e f,CX [] H c (λ_ _ _=>False) e f->False):
  codeAny (model P w) callerA (.call (.ref t) ⟨[.ref a],[]⟩) (λr f=>r=.ok (.ret (.bool true))/\OldK c.heap f.heap/\f.os=c.os/\AllBare f.gens) c:=by
 have E:=wn C;have X:=C.length
 -- from an abstract heap in which nothing but the script may be tracked
 have g:∀H:Hp,Ft H->bH K H a (ns.map V.int)->cC P w H c.heap->(∀b,H b≠none->b=a)->(H a≠none->K.lookup a=none) ->
   codeAny (model P w) callerA (.call (.ref t) ⟨[.ref a],[]⟩) (λr f=>r=.ok (.ret (.bool true))/\OldK c.heap f.heap/\f.os=c.os/\AllBare f.gens) c:=by
  intro H G Y hok I Z;have J:∀{b:Addr}{o:Obj},c.heap.get? b=some o->H b=none->(oV c.heap H).get? b=some o:=λe n=>E5 e n
  have Sq:∀{b:Addr}{o:Obj}{es:Array DictEntry}{j:Nat},c.heap.get? b=some o->o.data=.dict es j->H b=none:=λ{b o es j} e d=>by
   cases q:H b with
   |none=>rfl
   |some u=>
    have e':b=a:=I b (by rw[q];simp);subst e';rw[ha] at e;cases e;have d':Data.seq vs.toArray _=Data.dict es j:=d;cases d'
  have p:∀{b:Addr}{m:Ze},c.heap.Ns b m->(oV c.heap H).Ns b m:=λ{b m} ⟨o,es,j,e,d,r⟩=>⟨o,es,j,J e (Sq e d),d,r⟩
  have L:K.In (oV c.heap H):=λb o e=>J (A b o e) (by
   cases q:H b with
   |none=>rfl
   |some u=>
    have e':b=a:=I b (by rw[q];simp);subst e';rw[Z (by rw[q];simp)] at e;cases e)
  have hM:Mod K mg (oV c.heap H):=⟨L,p B,⟨mb,p hb,y⟩,let⟨mc,h1,h2⟩:=R;⟨mc,p h1,h2⟩⟩;have e0:cG P w K mg (oV c.heap H) callerA [] c H:=⟨rfl,hM,λb o e=>HW e,Nat.le_of_eq (Dq _ _),trivial,λb hb=>absurd (show b∈([]:List Addr) from hb) (by simp),hok,.of_eq hg⟩;refine codeAny_mono ((F _ L (p B)).run callerA [] c H ⟨[.ref a],[]⟩ [.ref a] [.ref a] _ _ S e0 (T c (.ref a)) (.cons rfl .nil) (U H G Y)) λr f h=>?_
  cases r with
  |error e=>exact(W H e f h).elim
  |ok fl=>
   cases fl with
   |next=>exact Yh h
   |brk=>exact Yh h
   |cont=>exact Yh h
   |ret u=>
    obtain⟨v,H',os,bare,un,Rm,r',q⟩:=h;have q':v=.bl true:=q;subst q';obtain rfl:u=Value.bool true:=r';refine⟨rfl,OldK.of_keep λb o e=>?_,os,bare⟩;cases q:H b with
    |none=>exact un.keep b o e q (by intro z;exact absurd (show b∈([]:List Addr) from z) (by simp)) (by simp)
    |some u=>
     rcases G b with z | ⟨ob,xs,z⟩
     ·rw[q] at z;cases z
     ·have z2:=un.frzs b ob _ z
      obtain⟨O,_⟩:=hok b _ z;obtain⟨e2,_⟩:=Rm b _ z2;rw[e] at O;cases O;exact e2
 cases hk:K.lookup a with
 |some o=>
  -- the script is one of the module's own objects
  have e:=A a o hk;rw[ha] at e;cases e;refine g (λ_=>none) (λ_=>.inl rfl) (.inr ⟨_,vs.toArray,_,hk,rfl,rfl,rfl,by rw[YG,X];exact hl,by simpa using E⟩) (λb u z=>by have l:(none:Option HO)=some u:=z;cases l) (λb z=>absurd rfl z) λz=>absurd rfl z
 |none=>
  refine g (λb=>if b=a then some (.frz { cls:=.type "list",data:=.seq vs.toArray } (.lst (ns.map V.int))) else none) (λb=>?_) (.inl (.inr ⟨{ cls:=.type "list",data:=.seq vs.toArray },if_pos rfl⟩)) (λb u z=>?_) (λb z=>?_) λ_=>hk
  ·by_cases hb:b=a
   ·exact .inr ⟨_,_,if_pos hb⟩
   ·exact .inl (if_neg hb)
  ·by_cases hb:b=a
   ·have l:=(if_pos hb).symm.trans z
    cases l;subst hb;exact⟨ha,by rw[ZF];exact hl,vs,_,E,ha⟩
   ·have l:=(if_neg hb).symm.trans z
    cases l
  ·by_cases hb:b=a
   ·exact hb
   ·exact absurd (if_neg hb) z
theorem IB{l:PySem.W.OpenLaw}{n k:Nat}{q:Zw}{loose:Zf}{XP:(Str->Option Value)->Heap->Prop}{YP:World->Heap->Prop}{d:DefRec}{K:Params->PySem.W.Frag}{CX:World->sG}{sp:World->Sp}{x:Str}
  (hn:l.most=some n) (t:n<=sizeLine) (y:d.params.defaults=[]) (z:cb k callerA)
  (A:∀(w:World) (h:Heap),YP w h->(K w.params).In h)
  (F:∀(w:World) (mg:Ze) (j:Addr) (h:Heap),(K w.params).In h->h.Ns mainGlobals mg->mg d.name=some (.ref j) ->
   ∃fd:FuncData,(∀(s:Shared) (u:Value),BindsTo s fd ⟨[u],[]⟩ [(x,u)]) /\
    ∀base:Heap,(K w.params).In base->base.Ns mainGlobals mg->ge l.prog w (K w.params) mg base (CX w) k j fd [x] (sp w))
  (B:∀(w:World) (H:Hp) (a:Addr) (ns:Zi),ns.length<=n->Ft H->bH (K w.params) H a (ns.map V.int)->sp w [.ref a] H (λv _=>v=.bl true) λ_ _ _=>False)
  (C:∀(w:World) (H:Hp) (s:Shared) (e:Value) (m:Shared),CX w [] H s (λ_ _ _=>False) e m->False):
  PySem.W.WalkO q loose XP YP l.row.toRowW d [] (λf vs=>PySem.call f vs):=by
 refine Att.Ac hn y λw s₀ E mg mb j o pm R w_ a vs ns G Y S hd U I J c p hg=>?_
 have r:=A w _ Y;obtain⟨fd,hb,L⟩:=F w mg j _ r G.T.g I;exact Fu r G.T.g G.T.b G.T.builtins G.T.nolimit hg J c (ZW p t) z L hb (λH O P=>B w H a ns p O P) λH e m=>C w H E e m
def inClass(s:Stmt)(j:Nat):Stmt:=match s with
 |.ClassDef _ _ _ a _ _ _ _ _ _ _=>a.getD j (.Pass ⟨0,0,0,0⟩)
 |_=>.Pass ⟨0,0,0,0⟩
def bN(s:Stmt):Arguments:=match s with
 |.FunctionDef _ a _ _ _ _ _ _ _ _=>a
 |_=>{ posonlyargs:=[],args:=[],vararg:=none,kwonlyargs:=[],kw_defaults:=[],kwarg:=none,defaults:=[] }
def aW(s:Stmt):List Stmt:=match s with
 |.FunctionDef _ _ b _ _ _ _ _ _ _=>b
 |_=>[]
def am(s:Stmt):Scope:=match s with
 |.FunctionDef _ _ _ _ _ _ sc _ _ _=>sc
 |_=>{ kind:=.function,names:=[],isGenerator:=false,isCoroutine:=false }
abbrev mJ:sG:=λ_ _ _ _ _ _=>False
abbrev E0:XK:=λ_ _ _=>False
theorem xz{X:Cx}:qF mJ X E0:=λ_ _ _ _ _ _ _ h=>h.elim
structure ue (K:Za) (x i':Str) (st:Stmt) (f:Addr) (fd:Zv):Prop where
 ex:∃(oc:Value) (od:Zm) (kV w_ pm:Value) (an:Zm) (u_ ct:Value) (G':Zn),
  fd=PySem.W.fnOf x i' (bN st) (aW st) (am st) .none kV w_ pm an u_ ct/\K.lookup f=some ⟨oc,od,.func fd,G'⟩/\PySem.W.codeIn K u_ i'=true
 kp:PySem.W.keepIn K (.ref f)=true
section
variable {P:Zw}{w:World}{K:Za}{mg:Ze}{base:Heap}
theorem ue.ok{x i':Str}{st:Stmt}{f:Addr}{fd:Zv}{N ps:Zf}{k:Nat}{sp:Sp}(F:ue K x i' st f fd)(S:bU N ps (am st))(len:∀vs H Q E,sp vs H Q E->vs.length=ps.length)
  (a:∀(u_:Value) (A:Around) (outer:List Env) (s:Shared) (H:Hp) (vs:List V) (Q:VK) (E:XK),cb k (A.deeper (envOfC i' (am st) s.heap.objs.size f u_))->sp vs H Q E ->
   ∃t,mH (qG mJ P w K mg base N i' (am st) f u_ A outer s H E).nox (aW st) t/\t { nx:=λ_ H'=>Q .non H',rt:=Q } (start N vs) H):ge P w K mg base mJ (k+1) f fd ps sp:=by
 obtain⟨oc,od,kV,w_,pm,an,u_,ct,G',rfl,b,c⟩:=F.ex;refine Mm b c S len λA outer s H vs Q E d g=>?_
 obtain⟨t,h,q⟩:=a u_ A outer s H vs Q E d g;exact⟨t,h.nox,q⟩
theorem ue.binds{x i':Str}{st:Stmt}{f:Addr}{fd:Zv}{ps:Zf}(F:ue K x i' st f fd)
  (h:∀(kV w_ pm:Value) (an:Zm) (u_ ct:Value) (us:Zd),us.length=ps.length->bindArgs (PySem.W.fnOf x i' (bN st) (aW st) (am st) .none kV w_ pm an u_ ct) ⟨us,[]⟩=pure (ps.zip us)):Binds K fd ps []:=by
 obtain⟨oc,od,kV,w_,pm,an,u_,ct,G',rfl,a,b⟩:=F.ex;exact .all (h kV w_ pm an u_ ct)
theorem ya{x i':Str}{st:Stmt}{f:Addr}{oc:Value}{od an:Zm}{G':Zn}{kV w_ pm u_ ct:Value}(l:K.lookup f=some ⟨oc,od,.func (PySem.W.fnOf x i' (bN st) (aW st) (am st) .none kV w_ pm an u_ ct),G'⟩)
  (c:PySem.W.codeIn K u_ i'=true) (k:PySem.W.keepIn K (.ref f)=true):ue K x i' st f (PySem.W.fnOf x i' (bN st) (aW st) (am st) .none kV w_ pm an u_ ct):=⟨⟨oc,od,kV,w_,pm,an,u_,ct,G',rfl,l,c⟩,k⟩
end
theorem wo{n:Nat}(h:n<=1000):n<sizeLine:=XE h (by decide)
section
variable {X:Cx}
theorem DJ:d0 X (.builtin "len") (λxs H Q=>∃a b,xs=[V.ref a]/\H a=some (.dK b)/\Q (.int b.length) H):=by
 intro b_ s σ H xs us Q I r h;obtain⟨a,b,rfl,ha,q⟩:=h;obtain⟨u,rfl,c⟩:=vals1 r;cases c;exact Hw I (.inl ha) λt f d=>⟨.int b.length,H,d,⟨t,rfl⟩,q⟩
end
def kh(cells:Zr):List (Str×NameKind)->List (Str×Addr)->List (Str×Addr)
 |[],h_=>h_
 |(n,k)::r,h_=>kh cells r (if k==.free then(n,(cells.lookup n).getD 0)::h_ else h_)
def qJ(scope:Scope)(env:Env):List (Str×Addr):=kh env.cells scope.names []
theorem xf{scope:Scope}{env:Env}(h:∀x∈scope.names,x.2=.free->∃c,env.cells.lookup x.1=some c):closureFor scope env=pure (qJ scope env):=by
 have b:∀(l:List (Str×NameKind)) (h_:Zr),(∀x∈l,x.2=.free->∃c,env.cells.lookup x.1=some c) ->
   (forIn l h_ λ(x:Str×NameKind) (d:Zr)=>
    (if x.2==.free then(do let c ←cellOf env x.1;pure (ForInStep.yield ((x.1,c)::d))) else pure (ForInStep.yield d):Sem (ForInStep (List (Str×Addr)))))=pure (kh env.cells l h_):=by
  intro l;induction l with
  |nil=>intro h_ _;rfl
  |cons x r g=>
   intro h_ hx;obtain⟨n,k⟩:=x;have a:=g (if k==.free then(n,(env.cells.lookup n).getD 0)::h_ else h_) λy hy=>hx y (ZY _ hy)
   rw[List.forIn_cons];by_cases hk:k=.free
   ·subst hk
    obtain⟨c,hc⟩:=hx (n,.free) ZX rfl;have e:cellOf env n=pure c:=by unfold cellOf;rw[hc]
    have f:env.cells.lookup n=some c:=hc;simp only[XF,if_true,f,Option.getD_some] at a;simp only[XF,if_true,e,pure_bind];rw[a];simp only[kh,XF,if_true,f,Option.getD_some]
   ·have hb:(k==NameKind.free)=false:=by simpa using hk
    simp only[hb,XG,if_false] at a;simp only[hb,XG,if_false,pure_bind];rw[a];simp only[kh,hb,XG,if_false]
 have:=b scope.names [] h
 unfold closureFor qJ;simp only[bind_pure];exact this
theorem uf{cells:Zr}:∀{l:List (Str×NameKind)}{h_:Zr}{p:Str×Addr},p∈kh cells l h_->p∈h_\/((p.1,NameKind.free)∈l/\p.2=(cells.lookup p.1).getD 0)
 |[],_,_,h=>.inl h
 |(n,k)::r,h_,p,h=>by
  rcases uf (l:=r) h with q | ⟨q1,q2⟩
  ·by_cases hk:k=.free
   ·subst hk
    simp only[XF,if_true] at q;rcases ZZ.mp q with e | q
    ·subst e;exact .inr ⟨ZX,rfl⟩
    ·exact .inl q
   ·have hb:(k==NameKind.free)=false:=by simpa using hk
    simp only[hb,XG,if_false] at q;exact .inl q
  ·exact .inr ⟨ZY _ q1,q2⟩
theorem ug{cells:Zr}:∀{l:List (Str×NameKind)}{h_:Zr}{p:Str×Addr},p∈h_->p∈kh cells l h_
 |[],_,_,h=>h
 |(n,k)::r,h_,p,h=>by
  refine ug (l:=r) ?_;split
  ·exact ZY _ h
  ·exact h
theorem uh{cells:Zr}:∀{l:List (Str×NameKind)}{h_:Zr}{n:Str},(n,NameKind.free)∈l->∃c,(n,c)∈kh cells l h_
 |(m,k)::r,h_,n,h=>by
  rcases ZZ.mp h with e | h
  ·cases e
   exact⟨_,ug (l:=r) (by simp only[XF,if_true];exact ZX)⟩
  ·exact uh (l:=r) h
theorem kj{a:Type}:∀{l:List (Str×a)}{n:Str}{c:a},(n,c)∈l->∃d,l.lookup n=some d
 |(m,d)::r,n,c,h=>by
  rcases ZZ.mp h with e | h
  ·cases e;exact⟨d,by simp[XH]⟩
  ·cases hb:n==m with
   |true=>exact⟨d,by simp[XH,hb]⟩
   |false=>
    obtain⟨d',e⟩:=kj (l:=r) h;exact⟨d',by simp[XH,hb,e]⟩
theorem kl{scope:Scope}{env:Env}(h:∀x∈scope.names,x.2=.free->∃c,env.cells.lookup x.1=some c){y:Str}{c:Addr}(e:(qJ scope env).lookup y=some c):env.cells.lookup y=some c:=by
 have m:=PySem.mem_of_lookup e;rcases uf m with z | ⟨z1,z2⟩
 ·cases z
 ·obtain⟨d,f⟩:=h _ z1 rfl
  have a:env.cells.lookup y=some d:=f;have b:c=(env.cells.lookup y).getD 0:=z2;rw[a] at b;rw[a,b];rfl
theorem DL{scope:Scope}{env:Env}(h:∀x∈scope.names,x.2=.free->∃c,env.cells.lookup x.1=some c){y:Str}{c:Addr}(hy:(y,NameKind.free)∈scope.names)(e:env.cells.lookup y=some c):
  (qJ scope env).lookup y=some c:=by
 obtain⟨b,m⟩:=uh (cells:=env.cells) (h_:=[]) hy;obtain⟨d,q⟩:=kj m;have a:(qJ scope env).lookup y=some d:=q
 have:=kl h a
 rw[e] at this;rw[a,←this]
theorem fN{env:Env}:∀{names:List (Str×NameKind)}{x:Str},
  (names.map λ(n,k)=>if(k==NameKind.free&&env.scope.kind==.function&&env.kindOf n==some .cell) then(n,NameKind.cell) else(n,k)).lookup x =
   (names.lookup x).map λk=>if(k==NameKind.free&&env.scope.kind==.function&&env.kindOf x==some .cell) then NameKind.cell else k
 |[],_=>rfl
 |(n,k)::r,x=>by
  have a:=@fN env r x;show List.lookup x ((if(k==NameKind.free&&env.scope.kind==.function&&env.kindOf n==some .cell)=true then(n,NameKind.cell) else(n,k))::_)=_;cases hx:x==n with
  |true=>
   have e:x=n:=by simpa using hx
   subst e;by_cases hc:(k==NameKind.free&&env.scope.kind==.function&&env.kindOf x==some .cell)=true
   ·rw[if_pos hc];simp only[XH,XF,Option.map_some];rw[if_pos hc]
   ·rw[if_neg hc];simp only[XH,XF,Option.map_some];rw[if_neg hc]
  |false=>
   by_cases hc:(k==NameKind.free&&env.scope.kind==.function&&env.kindOf n==some .cell)=true
   ·rw[if_pos hc];simp only[XH,hx];exact a
   ·rw[if_neg hc];simp only[XH,hx];exact a
structure io (OI scope:Scope) (N own N2:Zf):Prop where
 kind:scope.kind=.function
 nocell:∀y∈scope.names,y.2≠.cell
 names:∀y∈scope.names,y.2=.local->scope.names.lookup y.1=some .local
 free:∀y∈scope.names,y.2=.free->(OI.names.lookup y.1=some .cell\/OI.names.lookup y.1=some .free)
 len:N2.length=N.length
 vis:∀p∈N2.zip N,(scope.names.lookup p.1=some .free->p.1=p.2)/\scope.names.lookup p.1≠some .local
def dC(X:Cx)(scope:Scope)(own N2:Zf)(C:Addr)(s:Shared)(H:Hp)(ex:Zh)(pn:Zc):Cx where
 prog:=X.prog
 w:=X.w
 K:=X.K
 mg:=X.mg
 base:=X.base
 A:=X.A
 N:=N2++own
 s₀:=s
 H₀:=H
 env:=compEnvC scope (qJ scope X.env) C X.env
 outer:=X.stack
 stack:=X.stack
 ex:=ex
 calm:=X.calm
 fn:=λ_=>false
 pn:=pn
 xe:=λ_ _=>False
theorem Un.track{fs ex:Zh}{H H':Hp}{h h':Heap}{a:Addr}{o:HO}(u:Un fs ex H H' h h')(hp:h.objs.size<=a)(hn:H a=none):Un fs ex H (upd H' a o) h h' where
 keep:=u.keep
 slot:=u.slot
 free:=λb c q n hx=>by rw[aS (ZT (ZR (Ye q) hp))];exact u.free b c q n hx
 there:=u.there
 tups:=λb xs q=>by rw[aS (bw q hn)];exact u.tups b xs q
 frzs:=λb c xs q=>by rw[aS (bw q hn)];exact u.frzs b c xs q
 tbls:=λb ps q=>by rw[aS (bw q hn)];exact u.tbls b ps q
def DM(X:Cx)(a:Zg)(t:TT):Prop:=
 ∀(b_:Zc) (s:Shared) (σ:St) (H:Hp) (Q:Bool->Hp->Prop),af X b_ σ H s->t σ H Q ->
  wpAny (model X.prog X.w) X.A (forIn a true λc r=>if r=true then do let ok ←isTrue c X.env (eval c X.env);pure (ForInStep.yield ok) else pure (ForInStep.yield r)) (TP X b_ σ Q) X.xe s
def NJ:TT:=λ_ H Q=>Q true H
theorem IC{X:Cx}:DM X [] NJ:=λ_ _ _ H _ I h=>wpAny_tests_nil ⟨H,I,h⟩
theorem ID{X:Cx}{c:Expr}{t:TT}(h:PT X c t):DM X [c] t:=λb_ s σ H Q I q=>wpAny_tests_one (h b_ s σ H Q I q)
def xA(J:It)(g:TG)(tc:TT)(te:TE)(Fin:List V->Hp->Prop)(σ0:St)(k:Hp):Prop:=
 ∃W:Nat->Nat->List V->St->Hp->Prop,(∃m,W 0 m [] σ0 k)/\∀i m a σ H,W i m a σ H ->
  (J.stop i H/\Fin a H)\/(J.go i H/\a.length<sizeLine/\∃N:List V->St->Hp->Prop,(∀d f H',N d f H'->∃m',m'<m/\W (i+1) m' d f H') /\
   ∀x H',J.yld i H x H'->g x σ H' λc l=>tc c l λb j=>if b=true then te c j (λy n=>N (a++[y]) c n) else N a c j)
section
variable {prog:Zw}{w:World}{A:Around}{R:Result->Shared->Prop}{s:Shared}
theorem sA{j a b:Expr}{d:Zg}{scope:Scope}{f:Pos}{it h_:Value}{env:Env}(I:Nat->Shared->Prop)
  (g:∀n s,I n s->wpAny (model prog w) A (pyNext it) (λr k=>match r with
   |none=>R (.ok .next) k
   |some v=>wpAny (model prog w) A (letOwnedTupleGo a it v) (λ_ o=>wpAny (model prog w) A (assign a env v) (λ_ p=>
     wpAny (model prog w) A (forIn d true λc r=>if r=true then do let ok ←isTrue c env (eval c env);pure (ForInStep.yield ok) else pure (ForInStep.yield r)) (λok l=>
      if ok=true then wpAny (model prog w) A (eval j env) (λx t=>
       wpAny (model prog w) A (call (.builtin "list.append") [h_,x]) (λ_ u=>∃m,m<n/\I m u) (λ_ _=>False) t) (λ_ _=>False) l
      else ∃m,m<n/\I m l) (λ_ _=>False) p) (λ_ _=>False) o) (λ_ _=>False) k) (λ_ _=>False) s)
  (n:Nat) (h:I n s):
  codeAny (model prog w) A (.compLoop (.ListComp j [⟨a,b,d,0⟩] scope f) 0 it h_ env) R s:=by
 refine codeAny_loop rfl I (λn s B=>?_) n h;show wpAny _ A ((compTurn (.ListComp j [⟨a,b,d,0⟩] scope f) 0 it h_ env).onRaise (λx=>do noteFrame x env;theTreesLotGoes x)) _ _ s;refine wpAny_noted (wpAny_noRaise ?_);rw[compTurn_list];refine Yb (Yk (Yb (wpAny_mono (g n s B) (λr k y=>?_) λ_ _ h'=>h')));cases r with
 |none=>exact Yc y
 |some v=>
  refine Yb (wpAny_mono y (λ_ o C=>?_) λ_ _ h'=>h');refine Yb (wpAny_mono C (λ_ p E=>Yb (wpAny_mono E (λok l z=>?_) λ_ _ h'=>h')) λ_ _ h'=>h');cases ok with
  |false=>exact Yc ⟨rfl,z⟩
  |true=>
   exact Yb (Yb (wpAny_mono z (λx t F=>Yb (wpAny_mono F (λ_ u G=>Yc (Yc ⟨rfl,G⟩)) λ_ _ h'=>h')) λ_ _ h'=>h'))
end
section
variable {X:Cx}{b_:Zc}{σ:St}{H:Hp}{s:Shared}
theorem wp{D_ tg l:Expr}{Z:Zg}{scope OI:Scope}{N own N2:Zf}{ab ap:Pos}{wi:TI}{g:TG}{tc:TT}{te:TE}{use:Option (Value->Sem Unit)}{QQ:Zb}{Fin:List V->Hp->Prop}
  (E:io OI scope N own N2) (ho:X.env.scope=OI) (hN:X.N=N) (hc:X.calm=true) (hi:PI X tg l wi)
  (hg:∀C s H ex pn,PG (dC X scope own N2 C s H ex pn) tg g) (ht:∀C s H ex pn,DM (dC X scope own N2 C s H ex pn) Z tc) (he:∀C s H ex pn,PE (dC X scope own N2 C s H ex pn) D_ te)
  (I:af X b_ σ H s) (h:wi σ H λJ H1=>xA J g tc te Fin (σ++List.replicate own.length none) H1)
  (fin:∀(D C:Addr) (t:List V) (H':Hp) (L:Shared) (m:Ze),Fin t H'->H' D=none->af X b_ σ (upd H' D (.lst t)) L->L.heap.Ns C m->oX X b_ (upd H' D (.lst t)) C ->
   compPost (model X.prog X.w) X.A X.xe use QQ (.ref D) C (.ok .next) L)
  (hs:∀x,foldedSetIterable l X.env x=pure x):
  wpAny (model X.prog X.w) X.A (comprehension (.ListComp D_ [⟨tg,l,Z,0⟩] scope ab) scope X.env ap (newList []) false (eval l X.env) use) QQ X.xe s:=by
 subst ho hN;have F:∀x∈scope.names,x.2=.free->∃c,X.env.cells.lookup x.1=some c:=λx hx hf=>I.ok.has x.1 (E.free x hx hf)
 refine wpAny_comprehension_free (use:=use) rfl hs (xf F) E.kind E.names (aN (hi b_ s σ H _ I h) λv s1 h1=>aN h1 λU3 s2 h2=>?_);obtain⟨it,fp,tn,J,O,e,a,T,Sl,R,W,⟨m0,w0⟩,aB⟩:=h2;subst e;refine wpAny_newObj_type (wpAny_newFunctionEnv E.nocell (by intro y hy;simp at hy) (λOJ O8 OK=>?_) E.kind);dsimp only at O8 OK ⊢;generalize hG:s2.heap.push { cls:=.type "list",dict:=none,data:=.seq ([]:List Value).toArray }=G at O8 OK ⊢;have hC:G.objs.size=s2.heap.objs.size+1:=by rw[←hG,Heap.size_push]
 have Uv:s2.heap.objs.size≠G.objs.size:=by rw[hC];exact ZT (YK _)
 have Rn:s2.heap.objs.size<=G.objs.size:=by rw[hC];exact YM _
 have f:∀b,b<s2.heap.objs.size->b≠G.objs.size/\b≠s2.heap.objs.size:=λb hb=>⟨by rw[hC];exact ZT (Nat.lt_succ_of_lt hb),ZT hb⟩
 have B:∀b o,s2.heap.get? b=some o->OJ.get? b=some o:=λb o e=>OK.extBut b o (f b (Ye e)).1 (Yd _ (hG▸Yd _ e))
 have B_:OJ.get? s2.heap.objs.size=some (LCg.lst []):=OK.extBut _ _ Uv (Yd _ (hG▸Yg _ rfl));have Qh:∀b∈fp,b<s2.heap.objs.size:=λb hb=>let⟨o,e,_⟩:=T.obj 0 _ Sl b hb;Ye e
 have Yl:O s2.heap.objs.size=none:=a.hok.fresh (YE _);have a1:O G.objs.size=none:=a.hok.fresh Rn;have Ro:∀x c,X.env.cells.lookup x=some c->c<s2.heap.objs.size:=λx c e=>let⟨v,z⟩:=a.cell x c e;z.lt
 have SG:∀p∈X.pn++b_,p.1<s2.heap.objs.size:=λp hp=>Ye (a.pin p hp).1
 -- the block's context
 generalize hX:dC X scope own N2 G.objs.size s2 O fp (X.pn++b_)=j;have Rm:j.Ok:=by
  subst hX;refine⟨a.ok.mod,E.kind,a.ok.glob,a.ok.blt,Rn,λx y c e1 e2=>a.ok.inj x y c (kl F e1) (kl F e2),λx hx=>?_,λx c hf=>?_,a.ok.hd,a.ok.frames,.inl rfl,λb hb=>?_,a.bs,
   ZW a.ok.bsz a.sz,λb o e hb=>?_,λb hb hz=>?_,a.stack,a.stkFree⟩
  ·have Rp:(relabel scope X.env).names.lookup x=some .cell\/(relabel scope X.env).names.lookup x=some .free:=hx
   unfold relabel at Rp;dsimp only at Rp;rw[fN] at Rp;have hm:∃k,scope.names.lookup x=some k:=by
    cases q:scope.names.lookup x with
    |none=>rw[q] at Rp;rcases Rp with z | z<;>cases z
    |some k=>exact⟨k,rfl⟩
   obtain⟨k,hk⟩:=hm;have Ox:=PySem.mem_of_lookup hk;have a2:k=.free:=by
    rw[hk] at Rp;cases k with
    |free=>rfl
    |cell=>exact absurd rfl (E.nocell _ Ox)
    |_=>rcases Rp with z | z<;>cases z
   subst a2;obtain⟨c,hc⟩:=F _ Ox rfl;exact⟨c,DL F Ox hc⟩
  ·cases hf
  ·obtain⟨_,f1,ff,fx,fc,Ym⟩:=R b hb
   exact⟨(f b (Qh b hb)).1,λx c e=>fc x c (kl F e)⟩
  ·obtain⟨_,_,_,fx,_,_⟩:=R b hb
   rcases fx with z | z
   ·exact a.ok.noex b o e z
   ·exact absurd (ZR (Ye e) (ZW a.ok.bsz z)) (ZS _)
  ·obtain⟨_,f1,ff,_⟩:=R b hb
   rcases ZZ.mp (a.stkSub b hz) with z | z
   ·exact f1 z
   ·exact ff z
 have I0:af j [(s2.heap.objs.size,LCg.lst [])] (σ++List.replicate own.length none) O { s2 with heap:=OJ,toks:=s2.toks+([]:List (Str×Value)).length }:=by
  subst hX;refine⟨Rm,rfl,a.bare,Un.kept B,⟨_,O8,λi x v e1 e2 e3=>?_⟩,λx c e=>?_,a1,λx c e=>a.freeC x c (kl F e),λp hp=>?_,a.hok.kept B,?_⟩
  ·have e1:(N2++own)[i]?=some x:=e1
   have Uw:i<σ.length:=by
    by_cases Uw:i<σ.length
    ·exact Uw
    ·rw[ZH (by omega),List.getElem?_replicate] at e2
     split at e2<;>cases e2
   rw[ZE Uw] at e2;have k_:N2.length=σ.length:=E.len.trans a.len.symm;rw[ZE (by omega)] at e1;have Yn:i<X.N.length:=by rw[←a.len];exact Uw
   have hz:(x,X.N[i])∈N2.zip X.N:=by
    refine YS (i:=i) ?_;rw[List.getElem?_zip_eq_some];exact⟨e1,ZD Yn⟩
   obtain⟨v1,v2⟩:=E.vis _ hz;have Rq:xL (relabel scope X.env) x:=e3;have VJ:scope.names.lookup x=some .free:=by
    unfold xL relabel at Rq;dsimp only at Rq;rw[fN] at Rq;cases q:scope.names.lookup x with
    |none=>rw[q] at Rq;rcases Rq with z | z | z<;>cases z
    |some k=>
     rw[q] at Rq;cases k with
     |free=>rfl
     |cell=>exact absurd rfl (E.nocell _ (PySem.mem_of_lookup q))
     |«local»=>exact absurd q v2
     |_=>rcases Rq with z | z | z<;>cases z
   have Ox:=PySem.mem_of_lookup VJ;have ex:x=X.N[i]:=v1 VJ;have a3:X.N[i]?=some x:=by rw[ex];exact ZD Yn
   have Yo:=E.free _ Ox rfl;obtain⟨m,hn,hl⟩:=a.loc;obtain⟨u,ru,lk⟩:=hl i x v a3 e2 (.inr Yo);refine⟨u,ru,?_⟩;rcases lk with⟨k,_⟩ | ⟨k,c,ec,z⟩
   ·have k':X.env.scope.names.lookup x=some .local:=k
    rcases Yo with q | q<;>(have q':X.env.scope.names.lookup x=_:=q;rw[k'] at q';cases q')
   ·refine .inr ⟨?_,c,DL F Ox ec,?_⟩
    ·show(relabel scope X.env).names.lookup x=some .cell\/(relabel scope X.env).names.lookup x=some .free
     unfold relabel;dsimp only;rw[fN,VJ];show some (if _ then NameKind.cell else NameKind.free)=_\/some (if _ then NameKind.cell else NameKind.free)=_;split
     ·exact .inl rfl
     ·exact .inr rfl
    ·obtain⟨o,eo,d⟩:=z
     exact⟨o,B _ _ eo,d⟩
  ·obtain⟨v,o,eo,d⟩:=a.cell x c (kl F e)
   exact⟨v,o,B _ _ eo,d⟩
  ·have hp:p∈(X.pn++b_)++[(s2.heap.objs.size,LCg.lst [])]:=hp
   rcases YA.mp hp with hp | hp
   ·obtain⟨e,n,nl,nf,d⟩:=a.pin p hp
    refine⟨B _ _ e,n,(f _ (Ye e)).1,λhz=>?_,d⟩;rcases ZZ.mp (a.stkSub p.1 hz) with z | z
    ·exact nl z
    ·exact nf z
   ·have e:p=(s2.heap.objs.size,LCg.lst []):=by simpa using hp
    subst e;refine⟨B_,Yl,Uv,λhz=>?_,λv z=>by cases z⟩;rcases ZZ.mp (a.stkSub _ hz) with z | z
    ·exact absurd a.lt (by rw[←z];exact ZS _)
    ·exact a.nofs (YE _) z
  ·show(σ++List.replicate own.length none).length=(N2++own).length
   rw[ZJ,ZJ,List.length_replicate,E.len,a.len]
 have O5:∀{H':Hp}{us:Zd},(∀b∈fp,H' b=none)->∀b∈fp,oX j [(s2.heap.objs.size,LCg.lst us)] H' b:=λ{H' us} hn b hb=>by
  subst hX;obtain⟨_,f1,ff,fx,fc,Ym⟩:=R b hb;refine⟨hn b hb,(f b (Qh b hb)).1,λhz=>?_,.inl hb,λx c e=>fc x c (kl F e),λp hp z=>?_⟩
  ·rcases ZZ.mp (a.stkSub b hz) with z | z
   ·exact f1 z
   ·exact ff z
  ·have hp:p∈(X.pn++b_)++[(s2.heap.objs.size,LCg.lst us)]:=hp
   rcases YA.mp hp with hp | hp
   ·exact Ym p hp z
   ·have e:p=(s2.heap.objs.size,LCg.lst us):=by simpa using hp
    subst e;exact(f b (Qh b hb)).2 z.symm
 have eP:j.prog=X.prog:=by subst hX;rfl
 have eW:j.w=X.w:=by subst hX;rfl
 have eK:j.K=X.K:=by subst hX;rfl
 have eA:j.A=X.A:=by subst hX;rfl
 have eE:j.env=compEnvC scope (qJ scope X.env) G.objs.size X.env:=by subst hX;rfl
 have eX:j.xe=λ_ _=>False:=by subst hX;rfl
 have eC:j.calm=true:=by subst hX;exact hc
 have eS:j.s₀=s2:=by subst hX;rfl
 have eH:j.H₀=O:=by subst hX;rfl
 have eF:j.fs=oi X.stack:=by subst hX;rfl
 have a4:j.ex=fp:=by subst hX;rfl
 have eN:j.pn=X.pn++b_:=by subst hX;rfl
 have RZ:=hg G.objs.size s2 O fp (X.pn++b_);have QV:=ht G.objs.size s2 O fp (X.pn++b_);have Yp:=he G.objs.size s2 O fp (X.pn++b_);rw[hX] at RZ QV Yp;have U:∀O7:Shared,O7={ s2 with heap:=OJ,toks:=s2.toks+([]:List (Str×Value)).length } ->
   codeAny (model X.prog X.w) X.A (.compLoop (.ListComp D_ [⟨tg,l,Z,0⟩] scope ab) 0 (.ref it) (.ref s2.heap.objs.size) (compEnvC scope (qJ scope X.env) G.objs.size X.env))
    (compPost (model X.prog X.w) X.A X.xe use QQ (.ref s2.heap.objs.size) G.objs.size) O7:=by
  rintro O7 rfl;refine sA (λn L=>∃i t us i_ H',af j [(s2.heap.objs.size,LCg.lst us)] i_ H' L/\tn i L.heap/\(∀b∈fp,H' b=none)/\av t us/\t.length<=sizeLine/\W i n t i_ H') ?_ m0
   ⟨0,[],[],_,O,I0,T.keep 0 _ _ Sl λb _ o e=>B b o e,λb hb=>(R b hb).1,.nil,YL _,w0⟩
  rintro n s3 ⟨i,t,us,N',P,I3,Sm,Sn,hv,hz,w3⟩;rcases aB i n t N' P w3 with⟨stop,qn⟩ | ⟨go,I_,NN,Yq,step⟩
  ·have dn:=T.done j eP eW eK eC i _ s3 N' P (λ_ _=>False) I3 (O5 Sn) Sm stop
   rw[eA] at dn;refine aN dn λr s4 N_=>?_
   obtain⟨hr,I4⟩:=N_;subst hr;have Y:=I4.pin (s2.heap.objs.size,LCg.lst us) (YF _ ZX);have VL:P s2.heap.objs.size=none:=Y.2.1;have a':P G.objs.size=none:=by have:=I4.free;rw[eE] at this;exact this
   have un:Un (oi X.stack) fp O P s2.heap s4.heap:=by have:=I4.base;rw[eF,a4,eH,eS] at this;exact this
   have bb:cC X.prog X.w P s4.heap:=by have:=I4.hok;rw[eP,eW] at this;exact this
   have VM:cC X.prog X.w (upd P s2.heap.objs.size (.lst t)) s4.heap:=λb u e=>by
    by_cases hb:b=s2.heap.objs.size
    ·subst hb
     rw[aK] at e;cases e;exact⟨hz,us,us.length,hv,Y.1⟩
    ·rw[aS hb] at e
     refine(bb b u e).stay (λc v _ q=>q) (λc q=>?_) λc xs q=>?_
     ·rw[aS (bw q VL)];exact q
     ·rw[aS (bw q VL)];exact q
   have be:s4.os=s2.os:=by have:=I4.os;rw[eS] at this;exact this
   have I5:af X b_ σ (upd P s2.heap.objs.size (.lst t)) s4:=a.call' be (un.track (YE _) Yl) VM I4.bare λb hb=>⟨(R b hb).2.2.2.1,(R b hb).2.1,(R b hb).2.2.2.2.1,(R b hb).2.2.2.2.2⟩
   obtain⟨m,hn,_⟩:=I4.loc;rw[eE] at hn;exact fin _ _ t P s4 m qn VL I5 hn (a.fpOk Rn (by rw[aS (Ne.symm Uv)];exact a'))
  ·have Yr:=T.item j eP eW eK eC i _ s3 N' P (λ_ _=>False) I3 (O5 Sn) Sm go
   rw[eA] at Yr;refine aN Yr λr s4 OH=>?_
   obtain⟨u,hr,h4⟩:=OH;subst hr;refine aN h4 λ_ s5 P1=>?_
   obtain⟨x,H5,I5,r5,y5,Q_,U8⟩:=P1;have U9:=I5.pinned (O5 U8) (T.obj _ _ Q_);have a5:=RZ _ s5 N' H5 x u _ U9 r5 (step x H5 y5);rw[eP,eW,eA,eE,eX] at a5;refine aN a5 λ_ s6 P2=>?_
   obtain⟨S,H6,I6,q6⟩:=P2;have a6:=QV _ s6 S H6 _ I6 q6;rw[eP,eW,eA,eE,eX] at a6;refine aN a6 λok s7 O9=>?_
   obtain⟨H7,I7,q7⟩:=O9;have Pm:∀{i_:St}{H':Hp}{L:Shared}{Rr:Zd},af j ([(s2.heap.objs.size,LCg.lst Rr)]++kg fp s5.heap) i_ H' L->tn (i+1) L.heap/\∀b∈fp,H' b=none:=λ{i_ H' L Rr} J'=>by
    refine⟨T.keep _ _ _ Q_ λb hb o e=>(J'.pin (b,o) (YF _ (YF _ (ly hb e)))).1,λb hb=>?_⟩;obtain⟨o,e,d⟩:=T.obj _ _ Q_ b hb;exact(J'.pin (b,o) (YF _ (YF _ (ly hb e)))).2.1
   cases ok with
   |false=>
    obtain⟨m',hm,w7⟩:=Yq _ _ _ (by simpa using q7);exact⟨m',hm,i+1,t,us,S,H7,I7.unpinned,(Pm I7).1,(Pm I7).2,hv,hz,w7⟩
   |true=>
    have q7:te S H7 (λy H4=>NN (t++[y]) S H4):=by simpa using q7
    have a7:=Yp _ s7 S H7 _ I7 q7;rw[eP,eW,eA,eE,eX] at a7;refine aN a7 λuy s8 Qi=>?_
    obtain⟨y,H8,I8,r8,q8⟩:=Qi;have Y:=I8.pin (s2.heap.objs.size,LCg.lst us) (YF _ (List.mem_append_left _ ZX));have b2:us.length=t.length:=hv.length.symm;refine append_at (hsz:=by rw[YG];omega) Y.1 λh9 bf bL=>?_
    obtain⟨m',hm,w8⟩:=Yq _ _ _ q8;have b1:af j (kg fp s5.heap) S H8 s8:=I8.pins_of λp hp=>I8.pin p (YF _ (YF _ hp))
    have I9:af j (kg fp s5.heap) S H8 { s8 with heap:=h9 }:=b1.turned (t':=s8.toks) (it:=s2.heap.objs.size) (λb o hb e=>(bf.2 b hb).trans e) Y.2.1 (by rw[eE];exact Uv) (.inr (by rw[eS];exact YE _))
     (λx c e=>by
      rw[eE] at e;exact ZT (Ro x c (kl F e)))
     (λp hp=>by
      rw[eN] at hp;rcases YA.mp hp with z | z
      ·exact ZT (SG p z)
      ·exact ZT (Qh _ (wd z).1))
    have VN:af j ([(s2.heap.objs.size,LCg.lst (us++[uy]))]++kg fp s5.heap) S H8 { s8 with heap:=h9 }:=I9.pins_of λp hp=>by
     rcases YA.mp hp with z | z
     ·have e:p=(s2.heap.objs.size,LCg.lst (us++[uy])):=by simpa using z
      subst e;exact⟨bL.trans (congrArg some (LCg.lst_snoc us uy)),Y.2.1,Y.2.2.1,Y.2.2.2.1,λv z=>by cases z⟩
     ·exact I9.pin p (YF _ z)
    exact⟨m',hm,i+1,t++[y],us++[uy],S,H8,VN.unpinned,(Pm VN).1,(Pm VN).2,hv.append (.cons r8 .nil),by rw[ZJ,List.length_singleton];omega,w8⟩
 exact codeAny_compStart_list (U _ rfl) (T.self X.A 0 _ _ _ (T.keep 0 _ _ Sl λb _ o e=>B b o e) (U _ rfl))
def Mv(k:Nat)(a:TI)(g:TG)(tc:TT)(te:TE):TE:=λσ H Q=>a σ H λJ b=>xA J g tc te (λc H'=>∀p,H' p=none->Q (.ref p) (upd H' p (.lst c))) (σ++List.replicate k none) b
theorem IE{j tg a:Expr}{c:Zg}{scope OI:Scope}{N own N2:Zf}{f:Pos}{k:TI}{g:TG}{tc:TT}{te:TE}(l:io OI scope N own N2)(hc:X.calm=true)(n:PI X tg a k)
  (hg:∀C s H ex pn,PG (dC X scope own N2 C s H ex pn) tg g) (ht:∀C s H ex pn,DM (dC X scope own N2 C s H ex pn) c tc) (p:∀C s H ex pn,PE (dC X scope own N2 C s H ex pn) j te)
  (r:X.env.scope=OI:=by rfl) (t:X.N=N:=by rfl) (u:∀x,foldedSetIterable a X.env x=pure x:=by intro _;rfl):
  PE X (.ListComp j [⟨tg,a,c,0⟩] scope f) (Mv own.length k g tc te):=by
 intro b_ s σ H Q I h;rw[eval_ListComp];refine wp (use:=none) l r t hc n hg ht p I h (λD C B H' w m q y z hn d=>⟨m,hn,λh' A=>⟨.ref D,_,?_,rfl,q D y⟩⟩) u;exact z.turned (t':=w.toks) (λb o hb e=>(A.2 b hb).trans e) d.1 d.2.1 d.2.2.2.1 d.2.2.2.2.1 d.2.2.2.2.2
def Mw(i k:Nat)(a:TI)(g:TG)(tc:TT)(te:TE):TS:=λD σ H=>a σ H λJ b=>xA J g tc te (λc H'=>∀p,H' p=none->D.nx (σ.set i (some (.ref p))) (upd H' p (.lst c))) (σ++List.replicate k none) b
theorem IF{l tg c:Expr}{d:Zg}{scope OI:Scope}{N own N2:Zf}{f k u:Pos}{w:TI}{g:TG}{tc:TT}{te:TE}{i:Nat}{y:Str}(B:io OI scope N own N2)(hc:X.calm=true)
  (E:X.N.Nodup) (hy:X.N[i]?=some y) (hl:X.env.scope.names.lookup y=some .local)
  (F:PI X tg c w)
  (hg:∀C s H ex pn,PG (dC X scope own N2 C s H ex pn) tg g) (ht:∀C s H ex pn,DM (dC X scope own N2 C s H ex pn) d tc) (G:∀C s H ex pn,PE (dC X scope own N2 C s H ex pn) l te)
  (J:swapsWith (.ListComp l [⟨tg,c,d,0⟩] scope f) (some (.Name y k)) u.line X.env=pure true:=by rfl)
  (K:X.env.scope=OI:=by rfl) (L:X.N=N:=by rfl) (O:∀x,foldedSetIterable c X.env x=pure x:=by intro _;rfl):
  PS X (.Assign [.Name y k] (.ListComp l [⟨tg,c,d,0⟩] scope f) u) (Mw i own.length w g tc te):=by
 intro b_ s σ H D I h;rw[exec_Assign_Name_used _ _ _ _ J];refine Yb (Yk (Yb ?_));show wpAny _ X.A (do let _ ←comprehension (.ListComp l [⟨tg,c,d,0⟩] scope f) scope X.env _ (newList []) false (eval c X.env) (some (assign (.Name y k) X.env))) _ _ s;refine Yb (aN (wp (use:=some (assign (.Name y k) X.env)) (QQ:=λ_ n=>SP X b_ D .next n) B K L hc F hg ht G I h (λD' C V H' n m q P R hn j=>?_) O) (λ_ n hq=>Yc (Yc hq)));show wpAny _ X.A (assign (.Name y k) X.env (.ref D')) _ _ _;refine wpAny_assign_Name (wc R E hy (.inl hl) (show RelV (.ref D') (.ref D') from rfl) (λS p T=>?_) (.inr hl));obtain⟨a,U,ha⟩:=T;have r:C≠a:=by
  rcases ha with z | z
  ·rw[z];exact j.2.1
  ·exact(j.2.2.2.2.1 y a z).symm
 refine⟨m,hn.sameBut U r,λh' t=>⟨_,_,?_,q D' P⟩⟩;exact p.turned (t':=S.toks) (λb o hb e=>(t.2 b hb).trans e) j.1 j.2.1 j.2.2.2.1 j.2.2.2.2.1 j.2.2.2.2.2
end
def Hx(x:Str):It:=⟨λi _=>i<x.cps.size,λi H v H'=>H'=H/\∃c,x.cps[i]?=some c/\v=.str ⟨#[c]⟩,λi _=>i=x.cps.size⟩
theorem DN{P:Zw}{w:World}{K:Za}{tg:Expr}(it:Addr)(x:Str)(t:Tok):Turn P w K tg (Hx x) [it] it (λi h=>h.IsStrIter it "str_ascii_iterator" x t i) where
 mem:=by simp
 obj:=λi h st b hb=>by
  have e:b=it:=by simpa using hb
  subst e;obtain⟨o,e,c,d⟩:=st;exact⟨o,e,λv z=>by rw[d] at z;cases z⟩
 keep:=λi h h' st k=>let⟨o,e,r⟩:=st;⟨o,k it (by simp) o e,r⟩
 item:=by
  intro X a hw f hc i b_ s σ H E I hf st hg;subst a hw f;obtain⟨g,j,A,l,m,n⟩:=hf it (by simp);have W:=Walks.strAscii (prog:=X.prog) (w:=X.w) (I.ok.hd hc) it x t;refine W.item i s _ _ hg st λv h' tk B y p=>?_
  obtain⟨c,u,C,rfl⟩:=B;have F:af X b_ σ H { s with heap:=h',toks:=tk }:=I.turned (λb o hb e=>p b o (by simpa using hb) e) g j l m n;obtain⟨o,e,G,d⟩:=id y;exact⟨_,rfl,rH (s:={ s with heap:=h',toks:=tk }) e G d (by decide) ⟨.str ⟨#[c]⟩,H,F,⟨u,rfl⟩,⟨rfl,c,C,rfl⟩,y,λb hb=>(hf b hb).1⟩⟩
 done:=by
  intro X a hw f hc i b_ s σ H E I hf st hg;subst a hw f;obtain⟨g,j,A,l,m,n⟩:=hf it (by simp);have W:=Walks.strAscii (prog:=X.prog) (w:=X.w) (I.ok.hd hc) it x t;have J:i=x.cps.size:=hg;subst J;exact W.done s _ _ st λh' tk p=>⟨rfl,I.turned (λb o hb e=>p b o (by simpa using hb) e) g j l m n⟩
 self:=λ_ _ _ _ _ st h=>wpAny_pyIter_striter_ascii st h
theorem DO{P:Zw}{w:World}{K:Za}{tg:Expr}(it:Addr)(x:Str)(t:Tok):Turn P w K tg (Hx x) [it] it (λi h=>h.IsStrIter it "str_iterator" x t i) where
 mem:=by simp
 obj:=λi h st b hb=>by
  have e:b=it:=by simpa using hb
  subst e;obtain⟨o,e,c,d⟩:=st;exact⟨o,e,λv z=>by rw[d] at z;cases z⟩
 keep:=λi h h' st k=>let⟨o,e,r⟩:=st;⟨o,k it (by simp) o e,r⟩
 item:=by
  intro X a hw f hc i b_ s σ H E I hf st hg;subst a hw f;obtain⟨g,j,A,l,m,n⟩:=hf it (by simp);have W:=Walks.strWide (prog:=X.prog) (w:=X.w) (I.ok.hd hc) it x t;refine W.item i s _ _ hg st λv h' tk B y p=>?_
  obtain⟨c,u,C,rfl⟩:=B;have F:af X b_ σ H { s with heap:=h',toks:=tk }:=I.turned (λb o hb e=>p b o (by simpa using hb) e) g j l m n;obtain⟨o,e,G,d⟩:=id y;exact⟨_,rfl,rH (s:={ s with heap:=h',toks:=tk }) e G d (by decide) ⟨.str ⟨#[c]⟩,H,F,⟨u,rfl⟩,⟨rfl,c,C,rfl⟩,y,λb hb=>(hf b hb).1⟩⟩
 done:=by
  intro X a hw f hc i b_ s σ H E I hf st hg;subst a hw f;obtain⟨g,j,A,l,m,n⟩:=hf it (by simp);have W:=Walks.strWide (prog:=X.prog) (w:=X.w) (I.ok.hd hc) it x t;have J:i=x.cps.size:=hg;subst J;exact W.done s _ _ st λh' tk p=>⟨rfl,I.turned (λb o hb e=>p b o (by simpa using hb) e) g j l m n⟩
 self:=λ_ _ _ _ _ st h=>wpAny_pyIter_striter_wide st h
section
variable {X:Cx}
theorem DP{bs:List Bool}{f_:Zd}(r:av (bs.map V.bl) f_){i:Nat}{v:Value}(h:f_[i]?=some v):v=.bool ((bs[i]?).getD false):=by
 have hl:=r.length;rw[ZF] at hl;have b:i<bs.length:=by have:=(YB.mp h).1;omega
 obtain⟨u,hu,a⟩:=r.get (i:=i) (x:=V.bl bs[i]) (by rw[ZG,ZD b];rfl);rw[h] at hu;cases hu;have a:v=Value.bool bs[i]:=a;rw[a,ZD b];rfl
theorem range_all{bs:List Bool}{n:Nat}(hn:n=bs.length):((List.range n).all λi=>(bs[i]?).getD false)=bs.all id:=by
 subst hn;rw[Bool.eq_iff_iff,XI,XI];constructor
 ·intro h b hb
  obtain⟨i,a,e⟩:=List.mem_iff_getElem.mp hb
  have:=h i (ZV.mpr a)
  rw[ZD a] at this;rw[←e];exact this
 ·intro h i a
  have a:=ZV.mp a;rw[ZD a];exact h _ (XJ a)
theorem Fv(hc:X.calm=true):d0 X (.builtin "all") (λxs H Q=>∃p bs,xs=[.ref p]/\bH X.K H p (List.map V.bl bs)/\Q (.bl (bs.all id)) H):=by
 intro b_ s σ H xs us Q I r h;obtain⟨p,bs,rfl,hq,q⟩:=h;obtain⟨u,rfl,f⟩:=vals1 r;cases f;obtain⟨f_,d,a,hz⟩:=I.list hq;have g:p<s.heap.objs.size:=by obtain⟨o,_,e,_⟩:=a;exact Ye e
 refine call_all_walk (wpAny_pyIter_list a.isList ⟨s.heap.objs.size,_,_,_,_,_,λi=>(bs[i]?).getD false,rfl,Walks.list (A:=X.A.in1) (I.ok.hd hc) s.heap.objs.size p (ZT g) f_.toArray,
  ⟨⟨_,Yg _ rfl,rfl,rfl⟩,a.isList.push _⟩,λi v l m n c j=>?_,λh' tk k=>?_⟩)
 ·have c:f_[i]?=some v:=by simpa using c
  rw[DP d c];exact wpAny_truthy_bool j
 ·have e:f_.toArray.size=bs.length:=by have:=d.length;rw[ZF] at this;simp;omega
  rw[range_all e];refine⟨.bl _,H,I.kept λb o e=>k b o ?_ (Yd _ e),rfl,q⟩;simp only[List.mem_singleton];exact ZT (Ye e)
theorem Fw:AQ X "str.upper" (λx vs H Q=>∃z,x=.str z/\vs=[]/\z.length<=5592405/\((Txt.upper z).length<=3*z.length->Q (.str (Txt.upper z)) H)):=by
 intro b_ s σ H x xs v us Q I a rs h;obtain⟨z,rfl,rfl,hz,q⟩:=h;obtain⟨t,rfl⟩:=a;cases rs;exact SCL.upper hz λhl=>⟨.str _,H,I.tok _,⟨_,rfl⟩,q hl⟩
theorem mulOk_of{x:Str}{n:Int}(a:0<=n)(h:x.length*n.toNat<=1048576)(hn:n<=1048576):MulOk x n:=by
 refine⟨?_,λb h2=>?_,λb h2=>?_⟩
 ·rw[Bool.or_eq_false_iff]
  exact⟨ZP (by omega),ZP (by omega)⟩
 ·intro d
  have c:1<=n:=by omega
  have f:(2 ^ 63-1:Int) / n*n<=2 ^ 63-1:=Int.ediv_mul_le _ (by omega);have g:(2 ^ 63-1:Int)<((2 ^ 63-1) / n+1)*n:=Int.lt_ediv_add_one_mul_self _ (by omega);have j:((2 ^ 63-1:Int) / n+1)*n<=(x.length:Int)*n:=Int.mul_le_mul_of_nonneg_right (by omega) (by omega);have k:((x.length*n.toNat:Nat):Int)=(x.length:Int)*n:=by rw[Int.natCast_mul,Int.toNat_of_nonneg a]
  have l:((x.length*n.toNat:Nat):Int)<=1048576:=by omega
  omega
 ·show decide (x.length*n.toNat>sizeLine)=false
  rw[sizeLine_eq];exact ZP (by omega)
theorem BZ:cI X (binaryOp .Mult) (λx y H Q=>∃z n,x=.str z/\y=.int n/\0<=n/\n<=1048576/\z.length*n.toNat<=1048576/\Q (.str (Txt.mul z n)) H):=by
 intro b_ s σ H x y v u Q I a b h;obtain⟨z,n,rfl,rfl,c,hn,hz,q⟩:=h;obtain⟨t,rfl⟩:=a;obtain⟨t',rfl⟩:=b;exact SB.mul (mulOk_of c hz hn) λd k=>⟨.str _,H,I.tok _,⟨d,rfl⟩,q⟩
end
structure oZ (K:Za) (mg:Ze) (x:Str) (st:Stmt) (ps:Zf) (f:Addr) (fd:Zv):Prop where
 fn:ue K x x st f fd
 mgf:mg x=some (.ref f)
 b:Binds K fd ps []
theorem Fx{K:Za}{h:Heap}{mg:Ze}{x:Str}{st:Stmt}{ps:Zf}{f:Addr}{oc:Value}{od an:Zm}{G':Zn}{kV w_ pm u_ ct:Value}(X:K.In h)(G:h.Ns mainGlobals mg)
  (a:PySem.W.nsIn K mainGlobals x=some (some (.ref f))) (l:K.lookup f=some ⟨oc,od,.func (PySem.W.fnOf x x (bN st) (aW st) (am st) .none kV w_ pm an u_ ct),G'⟩)
  (c:PySem.W.codeIn K u_ x=true) (k:PySem.W.keepIn K (.ref f)=true)
  (hb:∀(kV w_ pm:Value) (an:Zm) (u_ ct:Value) (us:Zd),us.length=ps.length->bindArgs (PySem.W.fnOf x x (bN st) (aW st) (am st) .none kV w_ pm an u_ ct) ⟨us,[]⟩=pure (ps.zip us)):
  oZ K mg x st ps f (PySem.W.fnOf x x (bN st) (aW st) (am st) .none kV w_ pm an u_ ct):=by
 have F:=ya (st:=st) l c k;exact⟨F,PySem.W.mg_of X G a,F.binds hb⟩
section
variable {X:Cx}{k:Nat}{f:Addr}{fd:Zv}{ps:Zf}{sp:Sp}{x:Str}{st:Stmt}{p pos:Pos}{e:Expr}{es:Zg}{t:TA}
theorem KI(D:oZ X.K X.mg x st ps f fd)(F:ge X.prog X.w X.K X.mg X.base mJ k f fd ps sp)(a:cb k X.A)(ha:PA X (e::es) t)(hg:Gl X x:=by rfl)(c:(x==("__debug__" : Str))=false:=by decide)
  (d:starEach (e::es) X.env=(false,eval e X.env)::starEach es X.env:=by rfl) (g:(backTo pos (starEach es X.env)).any (·.1)=false:=by rfl):PE X (.Call (.Name x p) (e::es) [] pos) (Hr sp [] E0 t):=
 Io F a hg D.mgf D.fn.kp D.b .nil xz ha c d g
end
theorem DQ(K:Za){a b:String}{r:Bool}(h:(if(Value.type a==Value.type b)=true then some true else if PySem.W.kitMeta b=true then(fastBuiltinMro a).map (·.contains (.type b)) else none)=some r):
  PySem.W.kitOne K (.type a) (.type b)=some r:=h
def ay:Expr->Bool
 |.Starred _ _=>false
 |_=>true
theorem bI{e:Expr}{es:Zg}{env:Env}(h:ay e=true):starEach (e::es) env=(false,eval e env)::starEach es env:=by
 cases e<;>first | rfl | (exact absurd (show false=true from h) YC)
end L2
namespace DD
open PySem PySem.Spec PyProof.Rows L2
inductive D where
 |non | bl (b:Bool) | int (i:Int) | str (x:Str) | tup (ds:List D) | ref (a:Addr) | ty (n:String)
section
variable {α β:Type}{F G:α->β->Prop}
theorem km:∀{l:List α}{m:List β},Paired F l m->l.length=m.length
 |_,_,.nil=>rfl
 |_,_,.cons _ t=>by simp[km t]
theorem et:∀{l:List α}{m:List β}{i:Nat}{a:α},Paired F l m->l[i]?=some a->∃b,m[i]?=some b/\F a b
 |_,_,_,_,.nil,e=>by simp at e
 |_,_,0,_,.cons r _,e=>by simp at e;subst e;exact⟨_,rfl,r⟩
 |_,_,i+1,a,.cons _ t,e=>by
  obtain⟨b,c,h2⟩:=et (i:=i) (a:=a) t (by simpa using e);exact⟨b,by simpa using c,h2⟩
theorem bA:∀{l a:List α}{m m':List β},Paired F l m->Paired F a m'->Paired F (l++a) (m++m')
 |_,_,_,_,.nil,s=>s
 |_,_,_,_,.cons r t,s=>.cons r (bA t s)
theorem rK:∀{l:List α}{m:List β}(n:Nat),Paired F l m->Paired F (l.take n) (m.take n)
 |_,_,0,_=>.nil
 |_,_,_+1,.nil=>.nil
 |_,_,n+1,.cons r t=>.cons r (rK n t)
theorem AT:∀{l:List α}{m:List β}(n:Nat),Paired F l m->Paired F (l.drop n) (m.drop n)
 |_,_,0,r=>r
 |_,_,_+1,.nil=>.nil
 |_,_,n+1,.cons _ t=>AT n t
theorem yb{a:α}{b:β}(r:F a b):∀{l:List α}{m:List β}(i:Nat),Paired F l m->Paired F (l.set i a) (m.set i b)
 |_,_,_,.nil=>.nil
 |_,_,0,.cons _ t=>.cons r t
 |_,_,i+1,.cons q t=>.cons q (yb r i t)
theorem kn(f:∀a b,F a b->G a b):∀{l:List α}{m:List β},Paired F l m->Paired G l m
 |_,_,.nil=>.nil
 |_,_,.cons r t=>.cons (f _ _ r) (kn f t)
theorem DR{l:List α}{m:List β}(h:Paired F l m):∀n,Paired F (List.replicate n l).flatten (List.replicate n m).flatten
 |0=>.nil
 |n+1=>by rw[YY,YY,YZ,YZ];exact bA h (DR h n)
theorem lT{a:α}{b:β}(r:F a b):∀n,Paired F (List.replicate n a) (List.replicate n b)
 |0=>.nil
 |n+1=>.cons r (lT r n)
end
section
variable (K:Za)(H:Hp)
mutual
noncomputable def RV:D->V->Prop
 |.non,v=>v=.non
 |.bl b,v=>v=.bl b
 |.int i,v=>v=.int i
 |.str x,v=>v=.str x
 |.ref a,v=>v=.ref a
 |.ty n,v=>v=.ty n
 |.tup ds,v=>∃a xs,v=.ref a/\ca K H a xs/\aj ds xs
noncomputable def aj:List D->List V->Prop
 |[],xs=>xs=[]
 |d::ds,xs=>∃v vs,xs=v::vs/\RV d v/\aj ds vs
end
end
section
variable {K:Za}{H H' Yt:Hp}
theorem aj.p:∀{ds:List D}{xs:List V},aj K H ds xs->Paired (RV K H) ds xs
 |[],_,h=>by rw[aj] at h;subst h;exact .nil
 |d::ds,_,h=>by
  rw[aj] at h;obtain⟨v,vs,rfl,r,t⟩:=h;exact .cons r (aj.p t)
theorem aj.of:∀{ds:List D}{xs:List V},Paired (RV K H) ds xs->aj K H ds xs
 |_,_,.nil=>by rw[aj]
 |_,_,.cons r t=>by rw[aj];exact⟨_,_,rfl,r,aj.of t⟩
theorem aj.nil:aj K H [] []:=by rw[aj]
theorem aj.cons{d:D}{v:V}{ds:List D}{vs:List V}(r:RV K H d v)(t:aj K H ds vs):aj K H (d::ds) (v::vs):=by rw[aj];exact⟨_,_,rfl,r,t⟩
theorem aj.len{ds:List D}{xs:List V}(h:aj K H ds xs):ds.length=xs.length:=km h.p
def Kp(H H':Hp):Prop:=(∀a xs,Rd H a (.tup xs)->Rd H' a (.tup xs))/\∀a u o,H a=some (.frz u o)->H' a=some (.frz u o)
theorem Kp.refl(H:Hp):Kp H H:=⟨λ_ _ h=>h,λ_ _ _ h=>h⟩
theorem Kp.trans(a:Kp H H')(b:Kp H' Yt):Kp H Yt:=⟨λc xs h=>b.1 c xs (a.1 c xs h),λc u o h=>b.2 c u o (a.2 c u o h)⟩
theorem Kp.new{p:Addr}{o:HO}(h:H p=none):Kp H (upd H p o):=⟨λa xs r=>by
 rcases r with r | ⟨u,r⟩
 ·exact .inl (by rw[aS (bw r h)];exact r)
 ·exact .inr ⟨u,by rw[aS (bw r h)];exact r⟩,λa u o r=>by rw[aS (bw r h)];exact r⟩
def Hy:HO->Prop
 |.tup _=>False
 |.frz _ _=>False
 |_=>True
theorem Kp.put{p:Addr}{o o':HO}(h:H p=some o)(n:Hy o):Kp H (upd H p o'):=⟨λa xs r=>by
 rcases r with r | ⟨u,r⟩
 ·have:a≠p:=λe=>by subst e;rw[h] at r;cases r;exact n
  exact .inl (by rw[aS this];exact r)
 ·have:a≠p:=λe=>by subst e;rw[h] at r;cases r;exact n
  exact .inr ⟨u,by rw[aS this];exact r⟩,λa u o r=>by
  have:a≠p:=λe=>by subst e;rw[h] at r;cases r;exact n
  rw[aS this];exact r⟩
theorem Kp.sq(t:Kp H H'){a:Addr}{xs:List V}(h:ca K H a xs):ca K H' a xs:=by
 rcases h with h | h
 ·exact .inl (t.1 a xs h)
 ·exact .inr h
mutual
theorem RV.mono(t:Kp H H'):∀(d:D){v:V},RV K H d v->RV K H' d v
 |.non,_,h=>by rw[RV] at h ⊢;exact h
 |.bl _,_,h=>by rw[RV] at h ⊢;exact h
 |.int _,_,h=>by rw[RV] at h ⊢;exact h
 |.str _,_,h=>by rw[RV] at h ⊢;exact h
 |.ref _,_,h=>by rw[RV] at h ⊢;exact h
 |.ty _,_,h=>by rw[RV] at h ⊢;exact h
 |.tup ds,_,h=>by
  rw[RV] at h ⊢;obtain⟨a,xs,e,s,r⟩:=h;exact⟨a,xs,e,t.sq s,aj.mono t ds r⟩
theorem aj.mono(t:Kp H H'):∀(ds:List D){xs:List V},aj K H ds xs->aj K H' ds xs
 |[],_,h=>by rw[aj] at h ⊢;exact h
 |d::ds,_,h=>by
  rw[aj] at h ⊢;obtain⟨v,vs,e,r,q⟩:=h;exact⟨v,vs,e,RV.mono t d r,aj.mono t ds q⟩
end
theorem RV.non_{v:V}:RV K H .non v↔v=.non:=by rw[RV]
theorem RV.bl_{v:V}{b:Bool}:RV K H (.bl b) v↔v=.bl b:=by rw[RV]
theorem RV.int_{v:V}{b:Int}:RV K H (.int b) v↔v=.int b:=by rw[RV]
theorem RV.str_{v:V}{b:Str}:RV K H (.str b) v↔v=.str b:=by rw[RV]
theorem RV.ref_{v:V}{b:Addr}:RV K H (.ref b) v↔v=.ref b:=by rw[RV]
theorem RV.ty_{v:V}{b:String}:RV K H (.ty b) v↔v=.ty b:=by rw[RV]
theorem RV.tup_{v:V}{ds:List D}:RV K H (.tup ds) v ↔ ∃a xs,v=.ref a/\ca K H a xs/\aj K H ds xs:=by rw[RV]
inductive MO where
 |lst (ds:List D) | rol (ds:List D) | dic (d_:List (Key×D)) | rod (d_:List (Key×D)) | ins (C:Addr) (fs:List (Str×D))
abbrev MH:=Addr->Option MO
def ac(M:MH)(a:Addr)(o:MO):MH:=λb=>if b=a then some o else M b
theorem aa{M:MH}{a:Addr}{o:MO}:ac M a o a=some o:=by unfold ac;rw[if_pos rfl]
theorem aG{M:MH}{a b:Addr}{o:MO}(h:b≠a):ac M a o b=M b:=by unfold ac;rw[if_neg h]
def RO(K:Za)(H:Hp)(a:Addr):MO->Prop
 |.lst ds=>∃xs,H a=some (.lst xs)/\aj K H ds xs
 |.rol ds=>∃xs,Rd H a (.lst xs)/\aj K H ds xs
 |.dic c=>∃b:List (Key×V),H a=some (.dK b)/\b.map (·.1)=c.map (·.1)/\aj K H (c.map (·.2)) (b.map (·.2))
 |.rod c=>∃(u:Obj) (b:List (Key×V)),H a=some (.frz u (.dK b))/\b.map (·.1)=c.map (·.1)/\aj K H (c.map (·.2)) (b.map (·.2))
 |.ins C fs=>∃(dx:Addr) (d:List (Str×V)),H a=some (.ins C dx d)/\d.map (·.1)=fs.map (·.1)/\aj K H (fs.map (·.2)) (d.map (·.2))
def RM(K:Za)(M:MH)(H:Hp):Prop:=∀a o,M a=some o->RO K H a o
theorem RO.stay{a:Addr}{o:MO}(h:RO K H a o)(t:Kp H H')(e:H' a=H a):RO K H' a o:=by
 cases o with
 |lst ds=>obtain⟨xs,q,r⟩:=h;exact⟨xs,e.trans q,aj.mono t _ r⟩
 |rol ds=>
  obtain⟨xs,q,r⟩:=h;refine⟨xs,?_,aj.mono t _ r⟩;rcases q with q | ⟨u,q⟩
  ·exact .inl (e.trans q)
  ·exact .inr ⟨u,e.trans q⟩
 |dic c=>obtain⟨b,q,k,r⟩:=h;exact⟨b,e.trans q,k,aj.mono t _ r⟩
 |rod c=>obtain⟨u,b,q,k,r⟩:=h;exact⟨u,b,e.trans q,k,aj.mono t _ r⟩
 |ins C fs=>obtain⟨dx,d,q,k,r⟩:=h;exact⟨dx,d,e.trans q,k,aj.mono t _ r⟩
theorem RO.some{a:Addr}{o:MO}(h:RO K H a o):H a≠none:=by
 cases o with
 |lst ds=>obtain⟨xs,q,_⟩:=h;rw[q];exact λz=>nomatch z
 |rol ds=>obtain⟨xs,q | ⟨u,q⟩,_⟩:=h<;>(rw[q];exact λz=>nomatch z)
 |dic b=>obtain⟨c,q,_⟩:=h;rw[q];exact λz=>nomatch z
 |rod b=>obtain⟨u,c,q,_⟩:=h;rw[q];exact λz=>nomatch z
 |ins C fs=>obtain⟨dx,d,q,_⟩:=h;rw[q];exact λz=>nomatch z
theorem RM.fresh{M:MH}{p:Addr}(h:RM K M H)(e:H p=none):M p=none:=by
 cases q:M p with
 |none=>rfl
 |some o=>exact absurd e (h p o q).some
theorem RM.newH{M:MH}{p:Addr}{o:HO}(h:RM K M H)(e:H p=none):RM K M (upd H p o):=λa u q=>
 (h a u q).stay (Kp.new e) (aS (λz=>by subst z;exact(h a u q).some e))
theorem RM.new{M:MH}{p:Addr}{o:HO}{m:MO}(h:RM K M H)(e:H p=none)(r:RO K (upd H p o) p m):RM K (ac M p m) (upd H p o):=λa u q=>by
 by_cases z:a=p
 ·subst z;rw[aa] at q;cases q;exact r
 ·rw[aG z] at q;exact(h a u q).stay (Kp.new e) (aS z)
theorem RM.put{M:MH}{p:Addr}{o o':HO}{m:MO}(h:RM K M H)(e:H p=some o)(n:Hy o)(r:RO K (upd H p o') p m):RM K (ac M p m) (upd H p o'):=λa u q=>by
 by_cases z:a=p
 ·subst z;rw[aa] at q;cases q;exact r
 ·rw[aG z] at q;exact(h a u q).stay (Kp.put e n) (aS z)
abbrev DS:=List (Option D)
abbrev ZC:=List (Key×D)
abbrev Zz:=Option D
def RS(K:Za)(H:Hp)(σ:DS)(ρ:L2.St):Prop:=Paired (λ(od:Zz) (a:Option V)=>∀d,od=some d->∃v,a=some v/\RV K H d v) σ ρ
theorem RS.mono{σ:DS}{ρ:L2.St}(t:Kp H H')(h:RS K H σ ρ):RS K H' σ ρ:=kn (λod a r d e=>let⟨v,q,s⟩:=r d e;⟨v,q,RV.mono t d s⟩) h
theorem RS.get{σ:DS}{ρ:L2.St}{i:Nat}{d:D}(h:RS K H σ ρ)(e:σ[i]?=some (some d)):∃v,ρ[i]?=some (some v)/\RV K H d v:=by
 obtain⟨a,q,r⟩:=et h e;obtain⟨v,rfl,s⟩:=r d rfl;exact⟨v,q,s⟩
theorem RS.set{σ:DS}{ρ:L2.St}{d:D}{v:V}(i:Nat)(h:RS K H σ ρ)(r:RV K H d v):RS K H (σ.set i (some d)) (ρ.set i (some v)):=yb (by intro d' e;cases e;exact⟨v,rfl,r⟩) i h
theorem RS.more{σ:DS}{ρ:L2.St}(n:Nat)(h:RS K H σ ρ):RS K H (σ++List.replicate n none) (ρ++List.replicate n none):=bA h (lT (λd e=>nomatch e) n)
end
abbrev DK:=D->MH->Prop
abbrev WE:=DS->MH->DK->Prop
abbrev WT:=DS->MH->(Bool->MH->Prop)->Prop
abbrev WA:=DS->MH->(List D->MH->Prop)->Prop
def lift(K:Za)(H:Hp)(Q:DK):VK:=λv H'=>Kp H H'/\∃d M',RV K H' d v/\RM K M' H'/\Q d M'
def xB(K:Za)(H:Hp)(Q:Bool->MH->Prop):Bool->Hp->Prop:=λb H'=>Kp H H'/\∃M',RM K M' H'/\Q b M'
def Mx(K:Za)(H:Hp)(n:Nat)(Q:List D->MH->Prop):List V->Hp->Prop:=λvs H'=>Kp H H'/\∃ds M',aj K H' ds vs/\ds.length=n/\RM K M' H'/\Q ds M'
section
variable (X:Cx)
def tW(e:Expr):TE:=λρ H Q=>∀b_ s,af X b_ ρ H s->wpAny (model X.prog X.w) X.A (eval e X.env) (EP X b_ ρ Q) X.xe s
def sK(e:Expr):TT:=λρ H Q=>∀b_ s,af X b_ ρ H s->wpAny (model X.prog X.w) X.A (isTrue e X.env (eval e X.env)) (TP X b_ ρ Q) X.xe s
def mK(es:Zg):TA:=λρ H Q=>∀a b_ s,af X b_ ρ H s->wpAny (model X.prog X.w) X.A (spliced (backTo a (starEach es X.env))) (AP X b_ ρ Q) X.xe s
def AU(st:Stmt):L2.TS:=λD ρ H=>∀b_ s,af X b_ ρ H s->wpAny (model X.prog X.w) X.A (exec st X.env) (SP X b_ D) X.xe s
end
section
variable {X:Cx}{e a b c:Expr}{es:Zg}{ρ:L2.St}{H H':Hp}{pos:Pos}
theorem bJ(e:Expr):PE X e (tW X e):=λb_ s _ _ _ I h=>h b_ s I
theorem o0(e:Expr):PT X e (sK X e):=λb_ s _ _ _ I h=>h b_ s I
theorem o3(es:Zg):PA X es (mK X es):=λpos b_ s _ _ _ I h=>h pos b_ s I
theorem bX{t:TE}{Q:VK}(h:PE X e t)(q:t ρ H Q):tW X e ρ H Q:=λb_ s I=>h b_ s ρ H Q I q
theorem yc{t:TT}{Q:Bool->Hp->Prop}(h:PT X e t)(q:t ρ H Q):sK X e ρ H Q:=λb_ s I=>h b_ s ρ H Q I q
theorem DT{t:TA}{Q:List V->Hp->Prop}(h:PA X es t)(q:t ρ H Q):mK X es ρ H Q:=λpos b_ s I=>h pos b_ s ρ H Q I q
theorem aU{Q d:VK}(h:tW X e ρ H Q)(f:∀v H',Q v H'->d v H'):tW X e ρ H d:=λb_ s I=>aN (h b_ s I) λ_ _ ⟨v,H',g,r,q⟩=>⟨v,H',g,r,f v H' q⟩
theorem gT{Q d:Bool->Hp->Prop}(h:sK X e ρ H Q)(f:∀v H',Q v H'->d v H'):sK X e ρ H d:=λb_ s I=>aN (h b_ s I) λ_ _ ⟨H',g,q⟩=>⟨H',g,f _ H' q⟩
theorem d3{Q d:List V->Hp->Prop}(h:mK X es ρ H Q)(f:∀v H',Q v H'->d v H'):mK X es ρ H d:=λpos b_ s I=>aN (h pos b_ s I) λ_ _ ⟨v,H',g,r,q⟩=>⟨v,H',g,r,f v H' q⟩
theorem cq{K:Za}{Q:DK}{v:V}{d:Hp}(k:Kp H H')(h:lift K H' Q v d):lift K H Q v d:=⟨k.trans h.1,h.2⟩
theorem yd{K:Za}{Q:Bool->MH->Prop}{v:Bool}{d:Hp}(k:Kp H H')(h:xB K H' Q v d):xB K H Q v d:=⟨k.trans h.1,h.2⟩
theorem aD{K:Za}{Q:DK}{v:V}{d:D}{M:MH}(r:RV K H d v)(m:RM K M H)(q:Q d M):lift K H Q v H:=⟨Kp.refl H,d,M,r,m,q⟩
def aP(X:Cx)(e:Expr)(t:WE):Prop:=∀σ M ρ H Q,RS X.K H σ ρ->RM X.K M H->t σ M Q->tW X e ρ H (lift X.K H Q)
def lU(X:Cx)(e:Expr)(t:WT):Prop:=∀σ M ρ H Q,RS X.K H σ ρ->RM X.K M H->t σ M Q->sK X e ρ H (xB X.K H Q)
def ip(X:Cx)(es:Zg)(t:WA):Prop:=∀σ M ρ H Q,RS X.K H σ ρ->RM X.K M H->t σ M Q->mK X es ρ H (Mx X.K H es.length Q)
def bG(b:Bool)(A B:Prop):Prop:=match b with
 |true=>A
 |false=>B
theorem aJ{A B:Prop}:bG true A B=A:=rfl
theorem ax{A B:Prop}:bG false A B=B:=rfl
theorem Fy{b:Bool}{A B:Prop}(d:b=true->A)(h2:b=false->B):bG b A B:=by
 cases b with
 |true=>exact d rfl
 |false=>exact h2 rfl
theorem AV{p:Prop}[Decidable p]{A B:Prop}(d:p->A)(h2:¬p->B):bG (decide p) A B:=Fy (λe=>d (XM e)) (λe=>h2 (of_decide_eq_false e))
def ye(σ:DS)(i:Nat)(Q:D->Prop):Prop:=match σ[i]? with
 |some (some d)=>Q d
 |_=>False
theorem IG{σ:DS}{i:Nat}{Q:D->Prop}(h:ye σ i Q):∃d,σ[i]?=some (some d)/\Q d:=by
 unfold ye at h;split at h
 ·exact⟨_,by assumption,h⟩
 ·exact Yh h
theorem IH{i:Nat}{x:Str}(f:X.N[i]?=some x)(g:xL X.env.scope x)(hd:(x==("__debug__" : Str))=false)(j:(x==("__classdict__" : Str))=false):aP X (.Name x pos) (λσ M Q=>ye σ i λd=>Q d M):=by
 intro σ M ρ H Q rs k h;obtain⟨d,e,q⟩:=IG h;obtain⟨v,e',r⟩:=rs.get e;exact bX (JS f g hd j) ⟨v,e',aD r k q⟩
theorem rL{d:D}{v:V}(h:PE X e (tC v))(r:∀H,RV X.K H d v):aP X e (λ_ M Q=>Q d M):=λ_ _ _ H _ _ f q=>bX h (aD (r H) f q)
theorem II{i:Int}{j:Nat}:aP X (.Constant (.int i) j pos) (λ_ M Q=>Q (.int i) M):=rL JT λ_=>RV.int_.2 rfl
theorem KJ{i:Bool}{j:Nat}:aP X (.Constant (.bool i) j pos) (λ_ M Q=>Q (.bl i) M):=rL LZ λ_=>RV.bl_.2 rfl
theorem IJ{i:Str}{j:Nat}:aP X (.Constant (.str i) j pos) (λ_ M Q=>Q (.str i) M):=rL JV λ_=>RV.str_.2 rfl
theorem IK{j:Nat}:aP X (.Constant .none j pos) (λ_ M Q=>Q .non M):=rL JU λ_=>RV.non_.2 rfl
def qK(K:Za)(mg:Ze)(x:Str)(d:D):Prop:=∃v u,mg x=some u/\RelV v u/\∀H,RV K H d v
theorem Fz{x:Str}{d:D}(hg:Gl X x)(h:qK X.K X.mg x d)(hd:(x==("__debug__" : Str))=false):aP X (.Name x pos) (λ_ M Q=>Q d M):=by
 obtain⟨v,u,hm,r,f⟩:=h;exact rL (HY hg hm r hd) f
def oW(X:Cx)(f:Zk):R2:=λx y H Q=>∀b_ s ρ v u,af X b_ ρ H s->RelV x v->RelV y u->wpAny (model X.prog X.w) X.A (f v u) (EP X b_ ρ Q) X.xe s
theorem FA(f:Zk):cI X f (oW X f):=λb_ s σ _ _ _ v u _ I d g h=>h b_ s σ v u I d g
theorem gJ{f:Zk}{r:R2}{x y:V}{Q:VK}(h:cI X f r)(q:r x y H Q):oW X f x y H Q:=λb_ s ρ v u I d g=>h b_ s ρ H x y v u Q I d g q
theorem vC{f:Zk}{x y:V}{Q d:VK}(h:oW X f x y H Q)(g:∀v H',Q v H'->d v H'):oW X f x y H d:=λb_ s ρ v u I j k=>aN (h b_ s ρ v u I j k) λ_ _ ⟨v,H',l,r,q⟩=>⟨v,H',l,r,g v H' q⟩
abbrev qL:=D->D->MH->DK->Prop
def ko(X:Cx)(f:Zk)(r:qL):Prop:=∀x y v u H M Q,RV X.K H x v->RV X.K H y u->RM X.K M H->r x y M Q->oW X f v u H (lift X.K H Q)
theorem two{g j:WE}{σ:DS}{M:MH}{R:D->D->MH->Prop}(ha:aP X a g)(hb:aP X b j)(rs:RS X.K H σ ρ)(m:RM X.K M H)(h:g σ M λx M1=>j σ M1 λy M2=>R x y M2):
  tW X a ρ H λv f=>tW X b ρ f λu d=>Kp H d/\∃x y M2,RV X.K d x v/\RV X.K d y u/\RM X.K M2 d/\R x y M2:=by
 refine aU (ha σ M ρ H _ rs m h) ?_;rintro v f ⟨k,x,M1,n,o,p⟩;refine aU (hb σ M1 ρ f _ (rs.mono k) o p) ?_;rintro u d ⟨l,y,M2,r,t,h2⟩;exact⟨k.trans l,x,y,M2,RV.mono l x n,r,t,h2⟩
def ui(r:qL)(d f:WE):WE:=λσ M Q=>d σ M λx M1=>f σ M1 λy M2=>r x y M2 Q
theorem IL{op:Operator}{r:qL}{d f:WE}(g:ko X (binaryOp op) r)(ha:aP X a d)(hb:aP X b f):aP X (.BinOp a op b pos) (ui r d f):=by
 intro σ M ρ H Q rs j h;refine bX (Mc (FA _) (bJ a) (bJ b)) ?_;show tW X a ρ H _;refine aU (two ha hb rs j h) λv l m=>?_
 show tW X b ρ l _;refine aU m λu n o=>?_
 obtain⟨k,x,y,M2,p,t,w,q⟩:=o;exact vC (g x y v u n M2 Q p t w q) λ_ _=>cq k
theorem IM{op:CmpOp}{r:qL}{d f:WE}(g:ko X (compareOp op) r)(ha:aP X a d)(hb:aP X b f)(hm:behindInMarks op b=false):aP X (.Compare a [op] [b] pos) (ui r d f):=by
 intro σ M ρ H Q rs j h;refine bX (Ih (FA _) (bJ a) (bJ b) hm) ?_;show tW X a ρ H _;refine aU (two ha hb rs j h) λv l m=>?_
 show tW X b ρ l _;refine aU m λu n o=>?_
 obtain⟨k,x,y,M2,p,t,w,q⟩:=o;exact vC (g x y v u n M2 Q p t w q) λ_ _=>cq k
def rM(x:D)(Q:Bool->Prop):Prop:=match x with
 |.bl b=>Q b
 |_=>False
theorem o4{x:D}{Q:Bool->Prop}(h:rM x Q):∃b,x=.bl b/\Q b:=by
 cases x with
 |bl b=>exact⟨b,rfl,h⟩
 |_=>exact Yh h
def B0(t:WE):WT:=λσ M Q=>t σ M λx M1=>rM x λb=>Q b M1
theorem IN{op:CmpOp}{r:qL}{g j:WE}(l:ko X (compareOp op) r)(ha:aP X a g)(hb:aP X b j)(hm:behindInMarks op b=false):lU X (.Compare a [op] [b] pos) (B0 (ui r g j)):=by
 intro σ M ρ H Q rs m h;refine yc (Ii (FA _) (bJ a) (bJ b) hm) ?_;show tW X a ρ H _;refine aU (two ha hb rs m h) λv n o=>?_
 show tW X b ρ n _;refine aU o λu p t=>?_
 obtain⟨k,x,y,M2,w,A,B,q⟩:=t;refine vC (l x y v u p M2 _ w A B q) λz J C=>?_
 obtain⟨E,d,F,G,I,f⟩:=C;obtain⟨c,rfl,f⟩:=o4 f;exact⟨c,RV.bl_.1 G,k.trans E,F,I,f⟩
def FB(t u:WT):WT:=λσ M Q=>t σ M λc M1=>bG c (u σ M1 Q) (Q false M1)
def KK(t u:WT):WT:=λσ M Q=>t σ M λc M1=>bG c (Q true M1) (u σ M1 Q)
def FC(t:WT):WT:=λσ M Q=>t σ M λc M1=>Q (!c) M1
theorem IO{t:WT}(h:lU X a t):lU X (.UnaryOp .Not a pos) (FC t):=by
 intro σ M ρ H Q rs d q;refine yc (JY (o0 a)) ?_;show sK X a ρ H _;exact gT (h σ M ρ H _ rs d q) λc g f=>f
def uj(X:Cx)(e:Expr)(t:WT):Prop:=∀σ M ρ H Q,RS X.K H σ ρ->RM X.K M H->t σ M Q->∀d b_ s,af X b_ ρ H s->wpAny (model X.prog X.w) X.A (isTrue e X.env d) (TP X b_ ρ (xB X.K H Q)) X.xe s
theorem uj.pt{t:WT}(h:uj X e t):lU X e t:=λσ M ρ H Q rs d q b_ s I=>h σ M ρ H Q rs d q _ b_ s I
def Hz(X:Cx)(e:Expr):TT:=λρ H Q=>∀d b_ s,af X b_ ρ H s->wpAny (model X.prog X.w) X.A (isTrue e X.env d) (TP X b_ ρ Q) X.xe s
theorem KL(e:Expr):PW X e (Hz X e):=λd b_ s _ _ _ I h=>h d b_ s I
theorem yf{Q g:Bool->Hp->Prop}(h:Hz X e ρ H Q)(f:∀v H',Q v H'->g v H'):Hz X e ρ H g:=λd b_ s I=>aN (h d b_ s I) λ_ _ ⟨H',j,q⟩=>⟨H',j,f _ H' q⟩
theorem uk{t:TT}{Q:Bool->Hp->Prop}(h:PW X e t)(q:t ρ H Q):Hz X e ρ H Q:=λd b_ s I=>h d b_ s ρ H Q I q
theorem FD{t:WT}(h:lU X a t):uj X (.BoolOp .And [a] pos) t:=λσ M ρ H Q rs d q=>uk (H9 (o0 a)) (h σ M ρ H Q rs d q)
theorem IP{t:WT}(h:lU X a t):uj X (.BoolOp .Or [a] pos) t:=λσ M ρ H Q rs d q=>uk (JW (o0 a)) (h σ M ρ H Q rs d q)
theorem AW{t u:WT}{rest:Zg}(h:lU X a t)(h':uj X (.BoolOp .And (b::rest) pos) u):uj X (.BoolOp .And (a::b::rest) pos) (FB t u):=by
 intro σ M ρ H Q rs j q;refine uk (JX (o0 a) (KL _)) ?_;show sK X a ρ H _;refine gT (h σ M ρ H _ rs j q) λc k l=>?_
 obtain⟨d,M1,f,g⟩:=l;cases c with
 |true=>exact yf (h' σ M1 ρ k Q (rs.mono d) f g) λ_ _=>yd d
 |false=>exact⟨d,M1,f,g⟩
theorem DU{t u:WT}{rest:Zg}(h:lU X a t)(h':uj X (.BoolOp .Or (b::rest) pos) u):uj X (.BoolOp .Or (a::b::rest) pos) (KK t u):=by
 intro σ M ρ H Q rs j q;refine uk (L0 (o0 a) (KL _)) ?_;show sK X a ρ H _;refine gT (h σ M ρ H _ rs j q) λc k l=>?_
 obtain⟨d,M1,f,g⟩:=l;cases c with
 |false=>exact yf (h' σ M1 ρ k Q (rs.mono d) f g) λ_ _=>yd d
 |true=>exact⟨d,M1,f,g⟩
def Ca(d f:WE):WE:=λσ M Q=>d σ M λx M1=>rM x λc=>bG c (f σ M1 Q) (Q (.bl false) M1)
def FE(d f:WE):WE:=λσ M Q=>d σ M λx M1=>rM x λc=>bG c (Q (.bl true) M1) (f σ M1 Q)
def Cb(d:WE):WE:=λσ M Q=>d σ M λx M1=>rM x λc=>Q (.bl (!c)) M1
theorem AX{op:BoolOp}{t:WE}(h:aP X a t):aP X (.BoolOp op [a] pos) t:=λσ M ρ H Q rs d q=>bX (JZ (bJ a)) (h σ M ρ H Q rs d q)
theorem AY{g j:WE}{rest:Zg}(h:aP X a g)(h':aP X (.BoolOp .And (b::rest) pos) j):aP X (.BoolOp .And (a::b::rest) pos) (Ca g j):=by
 intro σ M ρ H Q rs l q;refine bX (J0 (bJ a) (bJ _)) ?_;show tW X a ρ H _;refine aU (h σ M ρ H _ rs l q) λv m n=>?_
 obtain⟨f,x,M1,o,k,d⟩:=n;obtain⟨c,rfl,d⟩:=o4 d;refine⟨c,RV.bl_.1 o,?_⟩;cases c with
 |true=>exact aU (h' σ M1 ρ m Q (rs.mono f) k d) λ_ _=>cq f
 |false=>exact⟨f,.bl false,M1,RV.bl_.2 rfl,k,d⟩
theorem DV{g j:WE}{rest:Zg}(h:aP X a g)(h':aP X (.BoolOp .Or (b::rest) pos) j):aP X (.BoolOp .Or (a::b::rest) pos) (FE g j):=by
 intro σ M ρ H Q rs l q;refine bX (L8 (bJ a) (bJ _)) ?_;show tW X a ρ H _;refine aU (h σ M ρ H _ rs l q) λv m n=>?_
 obtain⟨f,x,M1,o,k,d⟩:=n;obtain⟨c,rfl,d⟩:=o4 d;refine⟨c,RV.bl_.1 o,?_⟩;cases c with
 |false=>exact aU (h' σ M1 ρ m Q (rs.mono f) k d) λ_ _=>cq f
 |true=>exact⟨f,.bl true,M1,RV.bl_.2 rfl,k,d⟩
theorem IQ{f:WE}(h:aP X a f):aP X (.UnaryOp .Not a pos) (Cb f):=by
 intro σ M ρ H Q rs g q;refine bX (J1 (bJ a)) ?_;show tW X a ρ H _;refine aU (h σ M ρ H _ rs g q) λv n j=>?_
 obtain⟨k,x,M1,l,m,d⟩:=j;obtain⟨c,rfl,d⟩:=o4 d;exact⟨c,RV.bl_.1 l,k,.bl (!c),M1,RV.bl_.2 rfl,m,d⟩
def KM(t:WT)(d f:WE):WE:=λσ M Q=>t σ M λc M1=>bG c (d σ M1 Q) (f σ M1 Q)
theorem DW{t:WT}{f g:WE}(hc:lU X c t)(ha:aP X a f)(hb:aP X b g):aP X (.IfExp c a b pos) (KM t f g):=by
 intro σ M ρ H Q rs n q;refine bX (E6 (o0 c) (bJ a) (bJ b)) ?_;show sK X c ρ H _;refine gT (hc σ M ρ H _ rs n q) λk j o=>?_
 obtain⟨d,M1,l,m⟩:=o;cases k with
 |true=>exact aU (ha σ M1 ρ j Q (rs.mono d) l m) λ_ _=>cq d
 |false=>exact aU (hb σ M1 ρ j Q (rs.mono d) l m) λ_ _=>cq d
def ck:Option MO->Option (List D)
 |some (.lst ds)=>some ds
 |some (.rol ds)=>some ds
 |_=>none
def FF(x:D)(M:MH)(Q:Bool->Prop):Prop:=match x with
 |.non=>Q false
 |.bl b=>Q b
 |.int i=>Q (i != 0)
 |.str y=>y.length<=sizeLine/\Q ((y.length:Int) != 0)
 |.tup ds=>Q (!ds.isEmpty)
 |.ref a=>match M a with
  |some (.lst ds)=>Q (!ds.isEmpty)
  |some (.rol ds)=>Q (!ds.isEmpty)
  |some (.dic d)=>Q (!d.isEmpty)
  |_=>False
 |.ty _=>False
theorem rN{d f:Type}{l:List d}{m:List f}(h:l.length=m.length):l.isEmpty=m.isEmpty:=by
 cases l<;>cases m<;>simp_all
theorem IR{K:Za}{M:MH}{x:D}{v:V}{Q:Bool->Prop}(r:RV K H x v)(m:RM K M H)(h:FF x M Q):∃k,Fd K v H k/\Q k:=by
 cases x with
 |non=>cases RV.non_.1 r;exact⟨_,rfl,h⟩
 |bl b=>cases RV.bl_.1 r;exact⟨_,rfl,h⟩
 |int i=>cases RV.int_.1 r;exact⟨_,rfl,h⟩
 |str y=>cases RV.str_.1 r;exact⟨_,⟨h.1,rfl⟩,h.2⟩
 |ty n=>exact Yh h
 |tup ds=>
  obtain⟨a,xs,rfl,s,d⟩:=RV.tup_.1 r;exact⟨_,.inr (.inl ⟨xs,s,rfl⟩),by rw[←rN d.len];exact h⟩
 |ref a=>
  cases RV.ref_.1 r;have h:match M a with
   |some (.lst ds)=>Q (!ds.isEmpty)
   |some (.rol ds)=>Q (!ds.isEmpty)
   |some (.dic f)=>Q (!f.isEmpty)
   |_=>False:=h
  split at h
  ·rename_i ds e
   obtain⟨xs,q,d⟩:=m a _ e;exact⟨_,.inl ⟨xs,bH.of q,rfl⟩,by rw[←rN d.len];exact h⟩
  ·rename_i ds e
   obtain⟨xs,q,d⟩:=m a _ e;exact⟨_,.inl ⟨xs,.inl q,rfl⟩,by rw[←rN d.len];exact h⟩
  ·rename_i f e
   obtain⟨g,q,k,d⟩:=m a _ e;refine⟨_,.inr (.inr ⟨g,q,rfl⟩),?_⟩;have:g.length=f.length:=by have:=congrArg List.length k;simpa using this
   rw[rN this];exact h
  ·exact Yh h
def FG(t:WE):WT:=λσ M Q=>t σ M λx M1=>FF x M1 λk=>Q k M1
theorem IS{t:WE}(h:aP X a t)(g:∀d,isTrue a X.env d=(do let v ←d;standAt a.pos;holding [v] (truthy v))):lU X a (FG t):=by
 intro σ M ρ H Q rs j q;refine yc (Fe (bJ a) g) ?_;show tW X a ρ H _;refine aU (h σ M ρ H _ rs j q) λv u l=>?_
 obtain⟨m,x,M1,n,f,o⟩:=l;obtain⟨k,p,r⟩:=IR n f o;exact⟨k,p,m,M1,f,r⟩
def qM:WA:=λ_ M Q=>Q [] M
def Cc(t:WE)(u:WA):WA:=λσ M Q=>t σ M λx M1=>u σ M1 λxs M2=>Q (x::xs) M2
theorem IT:ip X [] qM:=λσ M ρ H Q rs d q=>DT Kt ⟨Kp.refl H,[],M,aj.nil,rfl,d,q⟩
theorem FH{t:WE}{u:WA}(h:aP X e t)(h':ip X es u)(j:ay e=true):ip X (e::es) (Cc t u):=by
 intro σ M ρ H Q rs k q;refine DT (Im (bJ e) (o3 es) (bI j)) ?_;show tW X e ρ H _;refine aU (h σ M ρ H _ rs k q) λv d l=>?_
 obtain⟨f,x,M1,m,n,o⟩:=l;show mK X es ρ d _;refine d3 (h' σ M1 ρ d _ (rs.mono f) n o) λvs z p=>?_
 obtain⟨g,xs,M2,r,l2,w,y⟩:=p;exact⟨f.trans g,x::xs,M2,aj.cons (RV.mono g x m) r,by simp[l2],w,y⟩
def FI(t:WA):WE:=λσ M Q=>t σ M λxs M1=>Q (.tup xs) M1
def FJ(t:WA):WE:=λσ M Q=>t σ M λxs M1=>∀p,M1 p=none->Q (.ref p) (ac M1 p (.lst xs))
theorem IU{t:WA}{k:Nat}(h:ip X es t)(hz:es.length<=1000):aP X (.Tuple es k pos) (FI t):=by
 intro σ M ρ H Q rs j q;refine bX (Ku (o3 es)) ?_;show mK X es ρ H _;refine d3 (h σ M ρ H _ rs j q) λvs d l=>?_
 obtain⟨m,xs,M1,f,l1,n,o⟩:=l;refine⟨?_,λp hp=>?_⟩
 ·rw[←f.len,l1];exact Nat.le_of_lt (wo hz)
 ·have g:Kp d (upd d p (.tup vs)):=Kp.new hp
  exact⟨m.trans g,.tup xs,M1,RV.tup_.2 ⟨p,vs,rfl,ca.of aK,aj.mono g _ f⟩,n.newH hp,o⟩
theorem IV{t:WA}(h:ip X es t)(hz:es.length<=1000):aP X (.List es pos) (FJ t):=by
 intro σ M ρ H Q rs k q;refine bX (Kv (o3 es)) ?_;show mK X es ρ H _;refine d3 (h σ M ρ H _ rs k q) λvs d l=>?_
 obtain⟨n,xs,M1,f,l1,g,o⟩:=l;refine⟨?_,λp hp=>?_⟩
 ·rw[←f.len,l1];exact Nat.le_of_lt (wo hz)
 ·have j:Kp d (upd d p (.lst vs)):=Kp.new hp
  exact⟨n.trans j,.ref p,_,RV.ref_.2 rfl,g.new (m:=.lst xs) hp ⟨vs,aK,aj.mono j _ f⟩,o p (g.fresh hp)⟩
abbrev az:=List D->MH->DK->Prop
def iE(K:Za)(sp:az):Sp:=λvs H Q _=>∃ds M f,aj K H ds vs/\RM K M H/\sp ds M f/\∀d M' v H',f d M'->Kp H H'->RV K H' d v->RM K M' H'->Q v H'
def bB(P:Zw)(w:World)(K:Za)(mg:Ze)(base:Heap)(k:Nat)(x:Str)(sp:az):Prop:=
 ∃st ps f fd,oZ K mg x st ps f fd/\ge P w K mg base mJ k f fd ps (iE K sp)
theorem dX{env:Env}{pos:Pos}:∀{es:Zg},es.all ay=true->(backTo pos (starEach es env)).any (·.1)=false
 |[],_=>rfl
 |e::es,h=>by
  rw[XN,YX] at h;rw[bI h.1];show(false||(backTo pos (starEach es env)).any (·.1))=false;rw[dX h.2];rfl
def gK(sp:az)(t:WA):WE:=λσ M Q=>t σ M λds M1=>sp ds M1 Q
theorem IW{k:Nat}{x:Str}{sp:az}{t:WA}{p:Pos}(F:bB X.prog X.w X.K X.mg X.base k x sp)(g:cb k X.A)(hg:Gl X x)(j:(x==("__debug__" : Str))=false)(l:ay e=true)(m:es.all ay=true)(ha:ip X (e::es) t):
  aP X (.Call (.Name x p) (e::es) [] pos) (gK sp t):=by
 obtain⟨st,ps,f,fd,n,G⟩:=F;intro σ M ρ H Q rs o q;refine bX (KI n G g (o3 (e::es)) hg j (bI l) (dX m)) ?_;show mK X (e::es) ρ H _;refine d3 (ha σ M ρ H _ rs o q) λvs L r=>?_
 obtain⟨u,xs,M1,y,l1,z,B⟩:=r;rw[ZA];exact⟨xs,M1,Q,y,z,B,λd M' v H' C E I J=>⟨u.trans E,d,M',I,J,C⟩⟩
end
def ul(K:Za):Bool:=K.all λp=>match p.2.cls with
 |.type t=>!(t == "list")
 |_=>true
theorem wq{a:Addr}{o:Obj}:∀{K:Za},ul K=true->K.lookup a=some o->o.cls=.type "list"->False
 |[],_,h,_=>by cases h
 |(b,p)::K,hn,h,hc=>by
  unfold ul at hn;rw[XN,YX] at hn;rw[XH] at h;split at h
  ·cases h
   have c:=hn.1;simp only[hc] at c;exact absurd c (by decide)
  ·exact wq (K:=K) hn.2 h hc
theorem yg{K:Za}{H:Hp}:∀(ns:Zi),aj K H (ns.map D.int) (ns.map V.int)
 |[]=>.nil
 |n::ns=>.cons (RV.int_.2 rfl) (yg ns)
def rO(a:Addr)(ns:Zi):MH:=λb=>if b=a then some (.rol (ns.map D.int)) else none
def xC(n:Nat)(sp:az):Prop:=∀a ns,ns.length<=n->sp [.ref a] (rO a ns) λd _=>d=.bl true
theorem KN{K:Za}{H:Hp}{a:Addr}{ns:Zi}{n:Nat}{sp:az}(f:ul K=true)(g:xC n sp)(hl:ns.length<=n)(c:bH K H a (ns.map V.int))(E:XK):iE K sp [.ref a] H (λv _=>v=.bl true) E:=by
 rcases c with c | ⟨o,f_,m,h1,h2,_⟩
 ·refine⟨[.ref a],rO a ns,λd _=>d=.bl true,.cons (RV.ref_.2 rfl) .nil,λb o e=>?_,g a ns hl,λd M' v H' q _ r _=>?_⟩
  ·unfold rO at e
   split at e
   ·rename_i hb
    subst hb;cases e;exact⟨_,c,yg ns⟩
   ·cases e
  ·subst q
   exact RV.bl_.1 r
 ·exact(wq f h1 h2).elim
mutual
noncomputable def j0(K:Za):D->Value->Bool
 |.non,u=>match u with
  |.none=>true
  |_=>false
 |.bl b,u=>match u with
  |.bool c=>decide (b=c)
  |_=>false
 |.int i,u=>match u with
  |.int j _=>decide (i=j)
  |_=>false
 |.str x,u=>match u with
  |.str y _=>decide (x=y)
  |_=>false
 |.ty n,u=>match u with
  |.type m=>decide (n=m)
  |_=>false
 |.ref a,u=>match u with
  |.ref b=>decide (a=b)
  |_=>false
 |.tup ds,u=>match u with
  |.ref a=>(match K.lookup a with
   |some ⟨.type t,_,.seq f_ _,_⟩=>decide (t = "tuple")&&decide (f_.size<=sizeLine)&&qO K ds f_.toList
   |_=>false)
  |_=>false
noncomputable def qO(K:Za):List D->List Value->Bool
 |[],us=>us.isEmpty
 |d::ds,us=>match us with
  |u::us=>j0 K d u&&qO K ds us
  |[]=>false
end
mutual
theorem yh{K:Za}:∀(d:D){u:Value},j0 K d u=true->∃v,RelV v u/\∀H,RV K H d v
 |.non,u,h=>by
  unfold j0 at h;split at h
  ·exact⟨.non,rfl,λ_=>RV.non_.2 rfl⟩
  ·cases h
 |.bl b,u,h=>by
  unfold j0 at h;split at h
  ·cases XM h;exact⟨.bl _,rfl,λ_=>RV.bl_.2 rfl⟩
  ·cases h
 |.int b,u,h=>by
  unfold j0 at h;split at h
  ·cases XM h;exact⟨.int _,⟨_,rfl⟩,λ_=>RV.int_.2 rfl⟩
  ·cases h
 |.str b,u,h=>by
  unfold j0 at h;split at h
  ·cases XM h;exact⟨.str _,⟨_,rfl⟩,λ_=>RV.str_.2 rfl⟩
  ·cases h
 |.ty b,u,h=>by
  unfold j0 at h;split at h
  ·cases XM h;exact⟨.ty _,rfl,λ_=>RV.ty_.2 rfl⟩
  ·cases h
 |.ref a,u,h=>by
  unfold j0 at h;split at h
  ·cases XM h;exact⟨.ref _,rfl,λ_=>RV.ref_.2 rfl⟩
  ·cases h
 |.tup ds,u,h=>by
  unfold j0 at h;split at h
  ·rename_i a
   split at h
   ·rename_i t od f_ n sl e
    simp only[YX,XO] at h;obtain⟨⟨h1,h2⟩,h3⟩:=h;obtain⟨vs,r1,r2⟩:=wt ds h3;exact⟨.ref a,rfl,λH=>RV.tup_.2 ⟨a,vs,rfl,.inr ⟨_,f_,n,e,by rw[h1],rfl,h2,r1⟩,r2 H⟩⟩
   ·cases h
  ·cases h
theorem wt{K:Za}:∀(ds:List D){us:Zd},qO K ds us=true->∃vs,av vs us/\∀H,aj K H ds vs
 |[],us,h=>by
  unfold qO at h;cases us with
  |nil=>exact⟨[],.nil,λ_=>.nil⟩
  |cons u us=>cases h
 |d::ds,us,h=>by
  unfold qO at h;split at h
  ·rename_i u us
   rw[YX] at h;obtain⟨v,r1,r2⟩:=yh d h.1;obtain⟨vs,r3,r4⟩:=wt ds h.2;exact⟨v::vs,.cons r1 r3,λH=>.cons (r2 H) (r4 H)⟩
  ·cases h
end
def rP(K:Za):List Str->List D->Bool
 |[],_=>true
 |x::xs,ds=>(match PySem.W.nsIn K mainGlobals x with
  |some (some u)=>j0 K (ds.headD .non) u
  |_=>false)&&rP K xs ds.tail
theorem um{K:Za}{h:Heap}{mg:Ze}(X:K.In h)(G:h.Ns mainGlobals mg):∀{xs:Zf}{ds:List D},rP K xs ds=true->∀(j:Nat) x,xs[j]?=some x->qK K mg x (ds.getD j .non)
 |[],_,_,j,x,e=>by cases e
 |y::xs,ds,hk,j,x,e=>by
  unfold rP at hk;rw[YX] at hk;cases j with
  |zero=>
   have e:y=x:=by simpa using e
   subst e;have a:=hk.1;split at a
   ·rename_i u q
    obtain⟨v,b,c⟩:=yh _ a;have:ds.getD 0 .non=ds.headD .non:=by cases ds<;>rfl
    rw[this];exact⟨v,u,PySem.W.mg_of X G q,b,c⟩
   ·cases a
  |succ j=>
   have:=um X G hk.2 j x (by simpa using e)
   have d:ds.getD (j+1) .non=ds.tail.getD j .non:=by cases ds<;>simp
   rw[d];exact this
def DX(K:Za)(xs:Zf):Bool:=xs.all λx=>match PySem.W.nsIn K mainGlobals x with
 |some none=>true
 |_=>false
theorem DY{K:Za}{h:Heap}{mg:Ze}(X:K.In h)(G:h.Ns mainGlobals mg){xs:Zf}(hk:DX K xs=true):∀x,xs.contains x=true->mg x=none:=by
 intro x hx
 have:=XI.1 hk x (by simpa using hx)
 split at this
 ·rename_i q
  exact PySem.W.mg_none_of X G q
 ·cases this
theorem My{l:PySem.W.OpenLaw}{n k:Nat}{q:Zw}{loose:Zf}{XP:(Str->Option Value)->Heap->Prop}{YP:World->Heap->Prop}{d:DefRec}{K:Params->PySem.W.Frag}{sp:az}{x:Str}
  (hn:l.most=some n) (c:n<=sizeLine) (g:d.params.defaults=[]) (j:cb k callerA) (m:xC n sp)
  (o:∀(w:World) (h:Heap),YP w h->(K w.params).In h) (p:∀w:World,ul (K w.params)=true)
  (F:∀(w:World) (mg:Ze) (b:Addr) (h:Heap),(K w.params).In h->h.Ns mainGlobals mg->mg d.name=some (.ref b) ->
   ∃fd:FuncData,(∀(s:Shared) (u:Value),BindsTo s fd ⟨[u],[]⟩ [(x,u)]) /\
    ∀base:Heap,(K w.params).In base->base.Ns mainGlobals mg->ge l.prog w (K w.params) mg base mJ k b fd [x] (iE (K w.params) sp)):
  PySem.W.WalkO q loose XP YP l.row.toRowW d [] (λf vs=>PySem.call f vs):=
 L2.IB (n:=n) (k:=k) (x:=x) (CX:=λ_=>mJ) (sp:=λw=>iE (K w.params) sp) hn c g j o F (λw _ a ns hl _ r=>KN (p w) m hl r _) λ_ _ _ _ _ z=>z
section
variable {P:Zw}{w:World}{K:Za}{mg:Ze}{base:Heap}{k:Nat}
structure aO (K:Za) (x:Str) (st:Stmt) (f:Addr) (fd:Zv):Prop where
 ex:∃(oc:Value) (od an:Zm) (G':Zn) (kV w_ pm u_ ct:Value),PySem.W.nsIn K mainGlobals x=some (some (.ref f)) /\
  fd=PySem.W.fnOf x x (bN st) (aW st) (am st) .none kV w_ pm an u_ ct/\K.lookup f=some ⟨oc,od,.func fd,G'⟩/\PySem.W.codeIn K u_ x=true/\PySem.W.keepIn K (.ref f)=true
theorem aO.mk'{x:Str}{st:Stmt}{f:Addr}{oc:Value}{od an:Zm}{G':Zn}{kV w_ pm u_ ct:Value}
  (a:PySem.W.nsIn K mainGlobals x=some (some (.ref f))) (l:K.lookup f=some ⟨oc,od,.func (PySem.W.fnOf x x (bN st) (aW st) (am st) .none kV w_ pm an u_ ct),G'⟩)
  (c:PySem.W.codeIn K u_ x=true) (k:PySem.W.keepIn K (.ref f)=true):aO K x st f (PySem.W.fnOf x x (bN st) (aW st) (am st) .none kV w_ pm an u_ ct):=
 ⟨⟨oc,od,an,G',kV,w_,pm,u_,ct,a,rfl,l,c,k⟩⟩
theorem aO.def_{h:Heap}{x:Str}{st:Stmt}{ps:Zf}{f:Addr}{fd:Zv}(A:aO K x st f fd)(X:K.In h)(G:h.Ns mainGlobals mg)
  (hb:∀(kV w_ pm:Value) (an:Zm) (u_ ct:Value) (us:Zd),us.length=ps.length->bindArgs (PySem.W.fnOf x x (bN st) (aW st) (am st) .none kV w_ pm an u_ ct) ⟨us,[]⟩=pure (ps.zip us)):
  oZ K mg x st ps f fd:=by
 obtain⟨oc,od,an,G',kV,w_,pm,u_,ct,a,rfl,l,c,k⟩:=A.ex;exact Fx X G a l c k hb
def FK:Option (Option Value)->String->Bool
 |some (some (.builtin n)),s=>decide (n=s)
 |_,_=>false
def FM:Option (Option Value)->Bool
 |some none=>true
 |_=>false
theorem IX{o:Option (Option Value)}{s:String}(h:FK o s=true):o=some (some (.builtin s)):=by
 unfold FK at h;split at h
 ·cases XM h;rfl
 ·cases h
theorem IY{o:Option (Option Value)}(h:FM o=true):o=some none:=by
 unfold FM at h;split at h
 ·rfl
 ·cases h
def clsIn(K:Za)(C:Addr)(fs:Zf):Bool:=
 PySem.W.plainGet K C Str.empty&&PySem.W.hasDictIn K C&&PySem.W.plainOver K C&&FK (PySem.W.findIn K (.ref C) "__setattr__") "object.__setattr__" && fs.all (λf=>FM (PySem.W.findIn K (.ref C) f))
theorem aX{C:Addr}{fs:Zf}(h:clsIn K C fs=true):fY K C:=by
 unfold clsIn at h;simp only[YX] at h;exact⟨h.1.1.1.1,h.1.1.1.2,h.1.1.2,IX h.1.2⟩
theorem o5{C:Addr}{fs:Zf}{f:Str}(h:clsIn K C fs=true)(hf:f∈fs):cJ K C f:=by
 unfold clsIn at h;simp only[YX] at h;exact IY (XI.1 h.2 f hf)
structure MethAt (K:Za) (C:Addr) (m i':Str) (st:Stmt) (f:Addr) (fd:Zv):Prop where
 at_:PySem.W.findIn K (.ref C) m=some (some (.ref f))
 fn:PySem.W.isFn K (.ref f)=true
 fun_:ue K m i' st f fd
theorem MethAt.mk'{C:Addr}{m i':Str}{st:Stmt}{f:Addr}{oc:Value}{od an:Zm}{G':Zn}{kV w_ pm u_ ct:Value}
  (a:PySem.W.findIn K (.ref C) m=some (some (.ref f))) (l:K.lookup f=some ⟨oc,od,.func (PySem.W.fnOf m i' (bN st) (aW st) (am st) .none kV w_ pm an u_ ct),G'⟩)
  (n:PySem.W.isFn K (.ref f)=true) (c:PySem.W.codeIn K u_ i'=true) (k:PySem.W.keepIn K (.ref f)=true):MethAt K C m i' st f (PySem.W.fnOf m i' (bN st) (aW st) (am st) .none kV w_ pm an u_ ct):=
 ⟨a,n,ya l c k⟩
theorem MethAt.meth{C:Addr}{m i':Str}{st:Stmt}{f:Addr}{fd:Zv}(A:MethAt K C m i' st f fd):Fh K C m f:=⟨A.at_,A.fn,A.fun_.kp⟩
end
end DD
namespace K64
open PySem PySem.Spec PyProof.Rows L2 DD
def top(i:Nat):Stmt:=PySem.Challenge.pw_notring_k64_other_trees.main.body.getD i (.Pass ⟨0,0,0,0⟩)
abbrev gU:List Str:=["all","bool","enumerate","int","isinstance","len","list","min","range","set","sorted","str","tuple"]
abbrev d4:List Str:=["MOST_CONDS","HIGHEST_NUMBER","MOST_LISTED","MOST_OPEN","MOST_FACTS","MOST_ROWS"]
abbrev lz:List D:=[(.int 6),(.int 6),(.int 6),(.int 12),(.int 120),(.int 400)]
abbrev iF:Stmt:=top 2
abbrev o6:Stmt:=top 3
abbrev o7:Stmt:=top 4
abbrev tq:Stmt:=top 5
abbrev qP:Stmt:=top 6
abbrev nC:Stmt:=top 7
abbrev o8:Stmt:=top 18
abbrev nD:Stmt:=top 19
abbrev kJ:Stmt:=top 20
abbrev kK:Stmt:=top 22
abbrev jt:Stmt:=top 23
abbrev o9:Stmt:=top 24
abbrev kL:Stmt:=top 25
abbrev iG:Stmt:=top 26
abbrev lV:Stmt:=top 29
abbrev nE:Stmt:=top 30
abbrev lW:Stmt:=top 33
abbrev ju:Stmt:=top 42
abbrev jv:Stmt:=top 43
abbrev fO:Stmt:=top 44
abbrev tt:Stmt:=top 45
abbrev qQ:Stmt:=top 46
abbrev nF:Stmt:=top 47
abbrev lX:Stmt:=top 48
abbrev kM:Stmt:=top 50
abbrev pb:Stmt:=top 51
abbrev pc:Stmt:=top 54
abbrev ph:Stmt:=top 55
abbrev pi:Stmt:=top 56
abbrev nG:Stmt:=top 57
abbrev gV:Stmt:=top 58
abbrev kN:Stmt:=top 59
abbrev qR:Stmt:=top 60
abbrev nH:Stmt:=top 61
abbrev lY:Stmt:=top 62
abbrev nI:Stmt:=top 63
abbrev pj:Stmt:=top 64
abbrev pk:Stmt:=top 65
abbrev j4:Stmt:=top 66
abbrev lZ:Stmt:=top 67
abbrev j5:Stmt:=top 68
abbrev iH:Stmt:=top 69
abbrev uo:Stmt:=top 70
abbrev nJ:Stmt:=inClass (top 14) 0
abbrev jw:Stmt:=inClass (top 14) 2
abbrev jx:Stmt:=inClass (top 14) 4
abbrev nK:Stmt:=inClass (top 15) 0
abbrev jy:Stmt:=inClass (top 15) 2
abbrev jz:Stmt:=inClass (top 15) 4
abbrev nL:Stmt:=inClass (top 16) 0
abbrev jA:Stmt:=inClass (top 16) 2
abbrev jB:Stmt:=inClass (top 16) 4
abbrev nM:Stmt:=inClass (top 17) 0
abbrev jC:Stmt:=inClass (top 17) 2
abbrev jD:Stmt:=inClass (top 17) 4
abbrev jE:Stmt:=inClass (top 28) 0
abbrev d5:Stmt:=inClass (top 28) 2
abbrev d8:Stmt:=inClass (top 28) 4
abbrev l0:Stmt:=inClass (top 34) 0
abbrev fh:Stmt:=inClass (top 34) 2
abbrev dD:Stmt:=inClass (top 34) 3
abbrev gW:Stmt:=inClass (top 34) 4
abbrev dc:Stmt:=inClass (top 34) 6
abbrev gg:Stmt:=inClass (top 34) 7
abbrev l4:Stmt:=inClass (top 41) 0
abbrev gX:Stmt:=inClass (top 41) 1
abbrev gY:Stmt:=inClass (top 41) 4
abbrev eR:Stmt:=inClass (top 41) 5
abbrev iI:Stmt:=inClass (top 41) 6
abbrev gZ:Stmt:=inClass (top 41) 7
def bm(K:Za)(x:Str)(st:Stmt):Prop:=∃f fd,aO K x st f fd
def bC(K:Za)(C:Addr)(m q:Str)(st:Stmt):Prop:=∃f fd,MethAt K C m q st f fd
abbrev Cd:List Str:=["fact","number","facts","at"]
abbrev KO:List Str:=["many","heads","conds","headed","leanings","helped"]
abbrev Mz:List Str:=["pairs","sure","unsure","others"]
abbrev KP:List Str:=["sheet","sure","unsure"]
structure KQ (K:Za) (cH cL cS cD S Z V:Addr):Prop where
 a_0:bm K "has_fact" o7
 a_1:bm K "count_in" o8
 a_2:bm K "members" qP
 a_3:bm K "set_of" tq
 a_4:bm K "all_carried" kJ
 a_5:bm K "carried_heads" iG
 a_6:bm K "helped_rows" kL
 a_7:bm K "all_rows" o9
 a_8:bm K "ranked_among" jt
 a_9:bm K "least_among" kK
 a_10:bm K "next_pair" nE
 a_11:bm K "to_and_fro" lV
 a_12:bm K "all_facts" nC
 a_13:bm K "is_whole" iF
 a_14:bm K "is_below" o6
 a_15:bm K "tree_holds" lW
 a_16:bm K "_law_draw" pb
 a_17:bm K "_law_is_one" lZ
 a_18:bm K "_law_facts" nI
 a_19:bm K "_law_over" pk
 a_20:bm K "_law_carried" kN
 a_21:bm K "_law_met" qR
 a_22:bm K "_law_least" nH
 a_23:bm K "_law_narrow" lY
 a_24:bm K "_law_holds" j5
 a_25:bm K "_law_spoilt" iH
 a_26:bm K "_law_grown" j4
 a_27:bm K "_law_cell_at" kM
 a_28:bm K "_law_root" pj
 a_29:bm K "rows_by_help" fO
 a_30:bm K "row_leanings" ju
 a_31:bm K "rows_by_head" jv
 a_32:bm K "made_cond" nD
 a_33:bm K "is_listing" lX
 a_34:bm K "is_number" nF
 a_35:bm K "is_cond" qQ
 a_36:bm K "is_row" tt
 a_37:bm K "_law_sheet" nG
 a_38:bm K "_law_told" pi
 a_39:bm K "_law_cond" pc
 a_40:bm K "_law_rows" ph
 a_41:bm K "_law_with_pairs" gV
 a_61:bC K cH "__init__" "Have.__init__" nJ
 a_62:bC K cH "carried" "Have.carried" jw
 a_63:bC K cH "leaning" "Have.leaning" jx
 a_64:bC K cL "__init__" "Lack.__init__" nK
 a_65:bC K cL "carried" "Lack.carried" jy
 a_66:bC K cL "leaning" "Lack.leaning" jz
 a_67:bC K cS "__init__" "Some.__init__" nL
 a_68:bC K cS "carried" "Some.carried" jA
 a_69:bC K cS "leaning" "Some.leaning" jB
 a_70:bC K cD "__init__" "Lead.__init__" nM
 a_71:bC K cD "carried" "Lead.carried" jC
 a_72:bC K cD "leaning" "Lead.leaning" jD
 a_73:bC K S "__init__" "Sheet.__init__" l4
 a_74:bC K S "how_many" "Sheet.how_many" gX
 a_75:bC K S "rows_for" "Sheet.rows_for" gY
 a_76:bC K S "rows_helped" "Sheet.rows_helped" eR
 a_77:bC K S "head_of" "Sheet.head_of" iI
 a_78:bC K S "conds_of" "Sheet.conds_of" gZ
 a_89:bC K Z "__init__" "Sorting.__init__" jE
 a_95:bC K Z "true_facts" "Sorting.true_facts" d5
 a_97:bC K Z "open_facts" "Sorting.open_facts" d8
 a_105:bC K V "__init__" "Grove.__init__" l0
 a_114:bC K V "least_against" "Grove.least_against" dD
 a_115:bC K V "narrowed" "Grove.narrowed" gW
 a_118:bC K V "is_one_of" "Grove.is_one_of" gg
 a_119:bC K V "node_holds" "Grove.node_holds" dc
 a_120:bC K V "root_holds" "Grove.root_holds" fh
def HA(sp:az):Prop:=∀{l:PySem.W.OpenLaw}{w:World}{K:Za}{h:Heap}{mg:Ze}{a cH cL cS cD S Z V:Addr}(X:K.In h) (G:h.Ns mainGlobals mg) (d:mg "law" = some (.ref a))
 (f:(decide (cH≠cL)&&decide (cH≠cS)&&decide (cH≠cD)&&decide (cL≠cS)&&decide (cL≠cD)&&decide (cS≠cD))=true) (gl:rP K d4 lz=true) (bl:DX K gU=true)
 (g:PySem.W.nsIn K mainGlobals "Have" = some (some (.ref cH))) (Qk:(clsIn K cH Cd&&PySem.W.makesIn K cH&&PySem.W.keepIn K (.ref cH))=true)
 (Ql:PySem.W.nsIn K mainGlobals "Lack" = some (some (.ref cL))) (Qm:(clsIn K cL Cd&&PySem.W.makesIn K cL&&PySem.W.keepIn K (.ref cL))=true)
 (Qn:PySem.W.nsIn K mainGlobals "Some" = some (some (.ref cS))) (Qo:(clsIn K cS Cd&&PySem.W.makesIn K cS&&PySem.W.keepIn K (.ref cS))=true)
 (Qp:PySem.W.nsIn K mainGlobals "Lead" = some (some (.ref cD))) (Qq:(clsIn K cD Cd&&PySem.W.makesIn K cD&&PySem.W.keepIn K (.ref cD))=true)
 (Qr:PySem.W.nsIn K mainGlobals "Sheet" = some (some (.ref S))) (Qs:(clsIn K S KO&&PySem.W.makesIn K S&&PySem.W.keepIn K (.ref S))=true)
 (Qt:PySem.W.nsIn K mainGlobals "Sorting" = some (some (.ref Z))) (Qu:(clsIn K Z Mz&&PySem.W.makesIn K Z&&PySem.W.keepIn K (.ref Z))=true)
 (Qv:PySem.W.nsIn K mainGlobals "Grove" = some (some (.ref V))) (Qw:(clsIn K V KP&&PySem.W.makesIn K V&&PySem.W.keepIn K (.ref V))=true)
 {b:Addr}{c:Zv}(OT:aO K "law" uo b c)
 (hy:KQ K cH cL cS cD S Z V),
 ∃fd:FuncData,(∀(s:Shared) (v:Value),BindsTo s fd ⟨[v],[]⟩ [("_law_script",v)])/\∀base:Heap,K.In base->base.Ns mainGlobals mg->ge l.prog w K mg base mJ 27 a fd ["_law_script"] (iE K sp)
end K64
section
open PySem PySem.W PyProof.Rows L2 DD
local macro_rules
  | `(tactic| o_head $H:term) => `(tactic| refine holds_open (q := K64.viewQ) (loose := []) (Xt := λs => xlAt K64.viewQ [] s && recOk [] s) (XP := XL K64.viewQ []) (Yf := Hook.obs $H) (Ya := Hook.val $H) (YP := Hook.says $H) (N := 17100) ?$(Lean.mkIdent `hl) (Hook.of $H) (Hook.keeps $H)
      (λs e=>xl_of s (Bool.and_eq_true_iff.mp e).1) XL.keeps (by rfl) (by rfl) (by rfl) (λs e=>recFacts_of (Bool.and_eq_true_iff.mp e).2) (by rfl) (by first | assumption | rfl') (by rfl') ⟨rfl,rfl,rfl,rfl,rfl,by rfl'⟩ ?$(Lean.mkIdent `hw) ?$(Lean.mkIdent `hc))
set_option maxHeartbeats 0 in
theorem K64.over{sp:az}(ok:xC 63 sp)(a:K64.HA sp):PySem.Challenge.rw_notring_k64_other_trees.Holds:=by
 w_on;refine holds_law K64.said λsaid=>?_;k_head
 (case hl=>exact TopT.LX K64.seen1 K64.seen2 K64.seen3 K64.seen5 K64.seen6 (λw=>by kernel_rfl))
 (case hw=>w_witness2);k_fill;refine DD.My (l:=PySem.Challenge.rw_notring_k64_other_trees) (n:=63) (k:=27) (x:="_law_script") rfl (by decide) rfl ⟨rfl,by decide,by decide⟩ ok (λw h Y=>PySem.W.kIn_of Y) ?noL ?defs
 case noL=>intro w;kernel_rfl
 case defs=>
  intro w mg d h b G c;refine' a b G c ?ap ?gl ?bl ?Qj ?Qk ?Ql ?Qm ?Qn ?Qo ?Qp ?Qq ?Qr ?Qs ?Qt ?Qu ?Qv ?Qw (aO.mk' ?OT ?l_42 ?c_42 ?k_42) ⟨⟨_,_,aO.mk' ?a_0 ?l_0 ?c_0 ?k_0⟩,⟨_,_,aO.mk' ?a_1 ?l_1 ?c_1 ?k_1⟩,⟨_,_,aO.mk' ?a_2 ?l_2 ?c_2 ?k_2⟩,⟨_,_,aO.mk' ?a_3 ?l_3 ?c_3 ?k_3⟩,⟨_,_,aO.mk' ?a_4 ?l_4 ?c_4 ?k_4⟩,⟨_,_,aO.mk' ?a_5 ?l_5 ?c_5 ?k_5⟩,⟨_,_,aO.mk' ?a_6 ?l_6 ?c_6 ?k_6⟩,⟨_,_,aO.mk' ?a_7 ?l_7 ?c_7 ?k_7⟩,⟨_,_,aO.mk' ?a_8 ?l_8 ?c_8 ?k_8⟩,⟨_,_,aO.mk' ?a_9 ?l_9 ?c_9 ?k_9⟩,⟨_,_,aO.mk' ?a_10 ?l_10 ?c_10 ?k_10⟩,⟨_,_,aO.mk' ?a_11 ?l_11 ?c_11 ?k_11⟩,⟨_,_,aO.mk' ?a_12 ?l_12 ?c_12 ?k_12⟩,⟨_,_,aO.mk' ?a_13 ?l_13 ?c_13 ?k_13⟩,⟨_,_,aO.mk' ?a_14 ?l_14 ?c_14 ?k_14⟩,⟨_,_,aO.mk' ?a_15 ?l_15 ?c_15 ?k_15⟩,⟨_,_,aO.mk' ?a_16 ?l_16 ?c_16 ?k_16⟩,⟨_,_,aO.mk' ?a_17 ?l_17 ?c_17 ?k_17⟩,⟨_,_,aO.mk' ?a_18 ?l_18 ?c_18 ?k_18⟩,⟨_,_,aO.mk' ?a_19 ?l_19 ?c_19 ?k_19⟩,⟨_,_,aO.mk' ?a_20 ?l_20 ?c_20 ?k_20⟩,⟨_,_,aO.mk' ?a_21 ?l_21 ?c_21 ?k_21⟩,⟨_,_,aO.mk' ?a_22 ?l_22 ?c_22 ?k_22⟩,⟨_,_,aO.mk' ?a_23 ?l_23 ?c_23 ?k_23⟩,⟨_,_,aO.mk' ?a_24 ?l_24 ?c_24 ?k_24⟩,⟨_,_,aO.mk' ?a_25 ?l_25 ?c_25 ?k_25⟩,⟨_,_,aO.mk' ?a_26 ?l_26 ?c_26 ?k_26⟩,⟨_,_,aO.mk' ?a_27 ?l_27 ?c_27 ?k_27⟩,⟨_,_,aO.mk' ?a_28 ?l_28 ?c_28 ?k_28⟩,⟨_,_,aO.mk' ?a_29 ?l_29 ?c_29 ?k_29⟩,⟨_,_,aO.mk' ?a_30 ?l_30 ?c_30 ?k_30⟩,⟨_,_,aO.mk' ?a_31 ?l_31 ?c_31 ?k_31⟩,⟨_,_,aO.mk' ?a_32 ?l_32 ?c_32 ?k_32⟩,⟨_,_,aO.mk' ?a_33 ?l_33 ?c_33 ?k_33⟩,⟨_,_,aO.mk' ?a_34 ?l_34 ?c_34 ?k_34⟩,⟨_,_,aO.mk' ?a_35 ?l_35 ?c_35 ?k_35⟩,⟨_,_,aO.mk' ?a_36 ?l_36 ?c_36 ?k_36⟩,⟨_,_,aO.mk' ?a_37 ?l_37 ?c_37 ?k_37⟩,⟨_,_,aO.mk' ?a_38 ?l_38 ?c_38 ?k_38⟩,⟨_,_,aO.mk' ?a_39 ?l_39 ?c_39 ?k_39⟩,⟨_,_,aO.mk' ?a_40 ?l_40 ?c_40 ?k_40⟩,⟨_,_,aO.mk' ?a_41 ?l_41 ?c_41 ?k_41⟩,⟨_,_,MethAt.mk' ?a_61 ?l_61 ?n_61 ?c_61 ?k_61⟩,⟨_,_,MethAt.mk' ?a_62 ?l_62 ?n_62 ?c_62 ?k_62⟩,⟨_,_,MethAt.mk' ?a_63 ?l_63 ?n_63 ?c_63 ?k_63⟩,⟨_,_,MethAt.mk' ?a_64 ?l_64 ?n_64 ?c_64 ?k_64⟩,⟨_,_,MethAt.mk' ?a_65 ?l_65 ?n_65 ?c_65 ?k_65⟩,⟨_,_,MethAt.mk' ?a_66 ?l_66 ?n_66 ?c_66 ?k_66⟩,⟨_,_,MethAt.mk' ?a_67 ?l_67 ?n_67 ?c_67 ?k_67⟩,⟨_,_,MethAt.mk' ?a_68 ?l_68 ?n_68 ?c_68 ?k_68⟩,⟨_,_,MethAt.mk' ?a_69 ?l_69 ?n_69 ?c_69 ?k_69⟩,⟨_,_,MethAt.mk' ?a_70 ?l_70 ?n_70 ?c_70 ?k_70⟩,⟨_,_,MethAt.mk' ?a_71 ?l_71 ?n_71 ?c_71 ?k_71⟩,⟨_,_,MethAt.mk' ?a_72 ?l_72 ?n_72 ?c_72 ?k_72⟩,⟨_,_,MethAt.mk' ?a_73 ?l_73 ?n_73 ?c_73 ?k_73⟩,⟨_,_,MethAt.mk' ?a_74 ?l_74 ?n_74 ?c_74 ?k_74⟩,⟨_,_,MethAt.mk' ?a_75 ?l_75 ?n_75 ?c_75 ?k_75⟩,⟨_,_,MethAt.mk' ?a_76 ?l_76 ?n_76 ?c_76 ?k_76⟩,⟨_,_,MethAt.mk' ?a_77 ?l_77 ?n_77 ?c_77 ?k_77⟩,⟨_,_,MethAt.mk' ?a_78 ?l_78 ?n_78 ?c_78 ?k_78⟩,⟨_,_,MethAt.mk' ?a_89 ?l_89 ?n_89 ?c_89 ?k_89⟩,⟨_,_,MethAt.mk' ?a_95 ?l_95 ?n_95 ?c_95 ?k_95⟩,⟨_,_,MethAt.mk' ?a_97 ?l_97 ?n_97 ?c_97 ?k_97⟩,⟨_,_,MethAt.mk' ?a_105 ?l_105 ?n_105 ?c_105 ?k_105⟩,⟨_,_,MethAt.mk' ?a_114 ?l_114 ?n_114 ?c_114 ?k_114⟩,⟨_,_,MethAt.mk' ?a_115 ?l_115 ?n_115 ?c_115 ?k_115⟩,⟨_,_,MethAt.mk' ?a_118 ?l_118 ?n_118 ?c_118 ?k_118⟩,⟨_,_,MethAt.mk' ?a_119 ?l_119 ?n_119 ?c_119 ?k_119⟩,⟨_,_,MethAt.mk' ?a_120 ?l_120 ?n_120 ?c_120 ?SJ⟩⟩
  case Qj | Ql | Qn | Qp | Qr | Qt | Qv | a_0 | l_0 | c_0 | k_0 | a_1 | l_1 | c_1 | k_1 | a_2 | l_2 | c_2 | k_2 | a_3 | l_3 | c_3 | k_3 | a_4 | l_4 | c_4 | k_4 | a_5 | l_5 | c_5 | k_5 | a_6 | l_6 | c_6 | k_6 | a_7 | l_7 | c_7 | k_7 | a_8 | l_8 | c_8 | k_8 | a_9 | l_9 | c_9 | k_9 | a_10 | l_10 | c_10 | k_10 | a_11 | l_11 | c_11 | k_11 | a_12 | l_12 | c_12 | k_12 | a_13 | l_13 | c_13 | k_13 | a_14 | l_14 | c_14 | k_14 | a_15 | l_15 | c_15 | k_15 | a_16 | l_16 | c_16 | k_16 | a_17 | l_17 | c_17 | k_17 | a_18 | l_18 | c_18 | k_18 | a_19 | l_19 | c_19 | k_19 | a_20 | l_20 | c_20 | k_20 | a_21 | l_21 | c_21 | k_21 | a_22 | l_22 | c_22 | k_22 | a_23 | l_23 | c_23 | k_23 | a_24 | l_24 | c_24 | k_24 | a_25 | l_25 | c_25 | k_25 | a_26 | l_26 | c_26 | k_26 | a_27 | l_27 | c_27 | k_27 | a_28 | l_28 | c_28 | k_28 | a_29 | l_29 | c_29 | k_29 | a_30 | l_30 | c_30 | k_30 | a_31 | l_31 | c_31 | k_31 | a_32 | l_32 | c_32 | k_32 | a_33 | l_33 | c_33 | k_33 | a_34 | l_34 | c_34 | k_34 | a_35 | l_35 | c_35 | k_35 | a_36 | l_36 | c_36 | k_36 | a_37 | l_37 | c_37 | k_37 | a_38 | l_38 | c_38 | k_38 | a_39 | l_39 | c_39 | k_39 | a_40 | l_40 | c_40 | k_40 | a_41 | l_41 | c_41 | k_41 | OT | l_42 | c_42 | k_42 | a_61 | l_61 | n_61 | c_61 | k_61 | a_62 | l_62 | n_62 | c_62 | k_62 | a_63 | l_63 | n_63 | c_63 | k_63 | a_64 | l_64 | n_64 | c_64 | k_64 | a_65 | l_65 | n_65 | c_65 | k_65 | a_66 | l_66 | n_66 | c_66 | k_66 | a_67 | l_67 | n_67 | c_67 | k_67 | a_68 | l_68 | n_68 | c_68 | k_68 | a_69 | l_69 | n_69 | c_69 | k_69 | a_70 | l_70 | n_70 | c_70 | k_70 | a_71 | l_71 | n_71 | c_71 | k_71 | a_72 | l_72 | n_72 | c_72 | k_72 | a_73 | l_73 | n_73 | c_73 | k_73 | a_74 | l_74 | n_74 | c_74 | k_74 | a_75 | l_75 | n_75 | c_75 | k_75 | a_76 | l_76 | n_76 | c_76 | k_76 | a_77 | l_77 | n_77 | c_77 | k_77 | a_78 | l_78 | n_78 | c_78 | k_78 | a_89 | l_89 | n_89 | c_89 | k_89 | a_95 | l_95 | n_95 | c_95 | k_95 | a_97 | l_97 | n_97 | c_97 | k_97 | a_105 | l_105 | n_105 | c_105 | k_105 | a_114 | l_114 | n_114 | c_114 | k_114 | a_115 | l_115 | n_115 | c_115 | k_115 | a_118 | l_118 | n_118 | c_118 | k_118 | a_119 | l_119 | n_119 | c_119 | k_119 | a_120 | l_120 | n_120 | c_120 | SJ=>k_is
  case ap | gl | bl | Qk | Qm | Qo | Qq | Qs | Qu | Qw=>kernel_rfl
end
namespace DD
open PySem PySem.Spec PyProof.Rows L2
theorem vD{P:Zw}{w:World}{k:Key}{u:Value}(h:(bM P w).is k u=true):RelV (kV k) u:=by
 rw[BG] at h;rcases bZ h with⟨i,t,rfl,rfl⟩ | ⟨x,t,rfl,rfl⟩
 ·exact⟨t,rfl⟩
 ·exact⟨t,rfl⟩
def KR(a:Addr)(u:Obj)(b:List (Key×V)):It:=
 ⟨λi H=>H a=some (.frz u (.dK b))/\i<b.length,λi H x H'=>H'=H/\∃c,b[i]?=some c/\x=kV c.1,λi H=>H a=some (.frz u (.dK b))/\b.length<=i⟩
theorem on{X:Cx}{b_:Zc}{σ:L2.St}{H:Hp}{s:Shared}{a:Addr}{u:Obj}{b:List (Key×V)}(I:af X b_ σ H s)(h:H a=some (.frz u (.dK b))):
  (a==sysModules)=false/\b.length<=sizeLine/\∃vs es c,KV b vs/\u.data=.dict es c/\s.heap.DictAt (bM X.prog X.w) a vs c:=by
 obtain⟨f,hz,hd,vs,g,o,es,c,d,r⟩:=(show bp X.prog X.w H s.heap a (.frz u (.dK b)) from I.hok a _ h);have e:o=u:=by rw[f] at d;cases d;rfl
 subst e;exact⟨hd,hz,vs,es,c,g,r.2.1,o,es,d,r⟩
theorem DZ{P:Zw}{w:World}{K:Za}{tg:Expr}(a it:Addr){u:Obj}{j:List (Key×V)}{es:Array DictEntry}{l:Nat}(hu:u.data=.dict es l):
  Turn P w K tg (KR a u j) [it] it (λi h=>h.IsKeyIter it a i j.length l) where
 mem:=by simp
 obj:=λi h st b hb=>by
  have e:b=it:=by simpa using hb
  subst e;obtain⟨o,e,c,d⟩:=st;exact⟨o,e,λv z=>by rw[d] at z;cases z⟩
 keep:=λi h h' st k=>st.at λo e=>k it (by simp) o e
 item:=by
  intro X n hw p hc i b_ s σ H E I hf st hg;subst n hw p;obtain⟨hq,m⟩:=hg;obtain⟨hd,hz,vs,O,r,f,g,hm⟩:=on I hq;have t:r=l:=by rw[hu] at g;cases g;rfl
  subst t;obtain⟨⟨k,x⟩,hx,R⟩:=et f (ZD m);obtain⟨y,A,S,B,C,F⟩:=hf it (by simp);rw[f.length] at st;refine wpAny_pyNext_dict_item st hm hx λG h' T J U=>?_
  have W:af X b_ σ H { s with heap:=h' }:=I.turned (t':=s.toks) (λb o hb e=>(U.2 b hb).trans e) y A B C F;obtain⟨o,e,c,d⟩:=id J;rw[←f.length] at J;have L:j[i].1=k:=R.1;exact⟨G,rfl,rH (s:={ s with heap:=h' }) e c d (by decide) ⟨kV k,H,W,vD T,⟨rfl,j[i],ZD m,by rw[L]⟩,J,λb hb=>(hf b hb).1⟩⟩
 done:=by
  intro X n hw p hc i b_ s σ H E I hf st hg;subst n hw p;obtain⟨hq,m⟩:=hg;obtain⟨hd,hz,vs,O,r,f,g,hm⟩:=on I hq;have t:r=l:=by rw[hu] at g;cases g;rfl
  subst t;obtain⟨y,A,S,B,C,F⟩:=hf it (by simp);rw[f.length] at st;have hx:vs[i]?=none:=by rw[List.getElem?_eq_none_iff,←f.length];exact m
  exact wpAny_pyNext_dict_end (I.ok.hd hc) st hm hx λh' Y=>⟨rfl,I.turned (t':=s.toks) (λb o hb e=>Y b o hb e) y A B C F⟩
 self:=λ_ _ _ _ _ st h=>wpAny_pyIter_keyiter st h
section
variable {X:Cx}{ρ:L2.St}{H:Hp}
theorem AZ{b_:Zc}{s:Shared}{tg:Expr}{a:Addr}{u:Obj}{c:List (Key×V)}{R:It->Hp->Prop}(I:af X b_ ρ H s)(hq:H a=some (.frz u (.dK c)))(q:R (KR a u c) H):
  wpAny (model X.prog X.w) X.A (pyIter (.ref a)) (t7 X b_ ρ tg R) X.xe s:=by
 obtain⟨hd,hz,vs,es,f,d,hu,hm⟩:=on I hq;refine wpAny_pyIter_dict hd hm ?_;refine⟨s.heap.objs.size,[s.heap.objs.size],_,_,H,rfl,I.kept (t':=s.toks) λb o e=>Yd _ e,DZ a _ hu,⟨_,Yg _ rfl,rfl,by rw[d.length];rfl⟩,λb hb=>?_,q⟩;have e:b=s.heap.objs.size:=by simpa using hb
 subst e;exact I.fpOk (YE _) (I.hok.fresh (YE _))
theorem freeze{b_:Zc}{s:Shared}{a:Addr}{c:List (Key×V)}(I:af X b_ ρ H s)(hq:H a=some (.dK c)):∃u,af X b_ ρ (upd H a (.frz u (.dK c))) s:=by
 obtain⟨hz,hd,vs,g,d⟩:=(show bp X.prog X.w H s.heap a (.dK c) from I.hok a _ hq);obtain⟨o,es,j,f,r⟩:=id d;refine⟨o,?_⟩
 have:=I.write (x:=a) (e:=a) (o:=.frz o (.dK c)) (h':=s.heap) (t':=s.toks) (by rw[hq];exact trivial) (.inl rfl) (λb u _ e=>e) ⟨_,f⟩ ⟨f,hz,hd,vs,g,d⟩
 exact this
end
structure cv where
 nx:DS->MH->Prop
 rt:DK
 bk:DS->MH->Prop:=λ_ _=>False
 ct:DS->MH->Prop:=λ_ _=>False
abbrev WS:=cv->DS->MH->Prop
def uq(K:Za)(H:Hp)(n:DS->MH->Prop):L2.St->Hp->Prop:=λb H'=>Kp H H'/\∃a M',RS K H' a b/\RM K M' H'/\n a M'
def xD(K:Za)(H:Hp)(D:cv):Ends:={ nx:=uq K H D.nx,rt:=lift K H D.rt,bk:=uq K H D.bk,ct:=uq K H D.ct }
structure Ce (D D':Ends):Prop where
 nx:∀ρ H,D.nx ρ H->D'.nx ρ H
 rt:∀v H,D.rt v H->D'.rt v H
 bk:∀ρ H,D.bk ρ H->D'.bk ρ H
 ct:∀ρ H,D.ct ρ H->D'.ct ρ H
section
variable {X:Cx}{st:Stmt}{O0:Zu}{ρ:L2.St}{H H':Hp}{pos:Pos}{e:Expr}
theorem l6{K:Za}{n:DS->MH->Prop}{a:L2.St}{b:Hp}(k:Kp H H')(h:uq K H' n a b):uq K H n a b:=⟨k.trans h.1,h.2⟩
theorem tu{K:Za}{D:cv}(k:Kp H H'):Ce (xD K H' D) (xD K H D):=⟨λ_ _=>l6 k,λ_ _=>cq k,λ_ _=>l6 k,λ_ _=>l6 k⟩
theorem SP.imp{b_:Zc}{D D':Ends}{f:Flow}{g:Shared}(i:Ce D D')(h:SP X b_ D f g):SP X b_ D' f g:=by
 cases f with
 |next=>obtain⟨a,b,c,d⟩:=h;exact⟨a,b,c,i.nx _ _ d⟩
 |brk=>obtain⟨a,b,c,d⟩:=h;exact⟨a,b,c,i.bk _ _ d⟩
 |cont=>obtain⟨a,b,c,d⟩:=h;exact⟨a,b,c,i.ct _ _ d⟩
 |ret u=>obtain⟨v,a,b,c,r,d⟩:=h;exact⟨v,a,b,c,r,i.rt _ _ d⟩
def tw(X:Cx)(O0:Zu):L2.TS:=λD ρ H=>∀b_ s,af X b_ ρ H s->wpAny (model X.prog X.w) X.A (execs O0 X.env) (SP X b_ D) X.xe s
theorem NK(st:Stmt):PS X st (AU X st):=λb_ s _ _ _ I h=>h b_ s I
theorem pq(O0:Zu):mH X O0 (tw X O0):=λb_ s _ _ _ I h=>h b_ s I
theorem fj{t:L2.TS}{D:Ends}(h:PS X st t)(q:t D ρ H):AU X st D ρ H:=λb_ s I=>h b_ s ρ H D I q
theorem A0{t:L2.TS}{D:Ends}(h:mH X O0 t)(q:t D ρ H):tw X O0 D ρ H:=λb_ s I=>h b_ s ρ H D I q
theorem FN{D D':Ends}(h:AU X st D ρ H)(i:Ce D D'):AU X st D' ρ H:=λb_ s I=>aN (h b_ s I) λ_ _ q=>SP.imp i q
theorem fm{D D':Ends}(h:tw X O0 D ρ H)(i:Ce D D'):tw X O0 D' ρ H:=λb_ s I=>aN (h b_ s I) λ_ _ q=>SP.imp i q
def mL(X:Cx)(st:Stmt)(t:WS):Prop:=∀σ M ρ H D,RS X.K H σ ρ->RM X.K M H->t D σ M->AU X st (xD X.K H D) ρ H
def pv(X:Cx)(O0:Zu)(t:WS):Prop:=∀σ M ρ H D,RS X.K H σ ρ->RM X.K M H->t D σ M->tw X O0 (xD X.K H D) ρ H
def ur:WS:=λD σ M=>D.nx σ M
def FO(t u:WS):WS:=λD σ M=>t { D with nx:=u D } σ M
theorem FP:pv X [] ur:=λσ M ρ H D rs a q=>A0 Ia ⟨Kp.refl H,σ,M,rs,a,q⟩
theorem D1{t u:WS}(h:mL X st t)(h':pv X O0 u):pv X (st::O0) (FO t u):=by
 intro σ M ρ H D rs a q;refine A0 (E7 (NK st) (pq O0)) ?_;show AU X st _ ρ H;refine FN (h σ M ρ H _ rs a q) ⟨λb H' c=>?_,λ_ _ z=>z,λ_ _ z=>z,λ_ _ z=>z⟩;obtain⟨k,d,M',f,g,j⟩:=c;exact fm (h' d M' b H' D f g j) (tu k)
def FQ(t:WE):WS:=λD σ M=>t σ M D.rt
theorem IZ{t:WE}(h:aP X e t):mL X (.Return (some e) pos) (FQ t):=λσ M ρ H D rs a q=>fj (J2 (bJ e)) (h σ M ρ H _ rs a q)
theorem FR:mL X (.Pass pos) ur:=λσ M ρ H D rs a q=>fj Ib ⟨Kp.refl H,σ,M,rs,a,q⟩
theorem D2:mL X st (λ_ _ _=>False):=λ_ _ _ _ _ _ _ q=>Yh q
def eI:Expr->Bool
 |.ListComp _ _ _ _=>false
 |.SetComp _ _ _ _=>false
 |.DictComp _ _ _ _ _=>false
 |_=>true
theorem ut{t:Option Expr}{n:Nat}{env:Env}(h:eI e=true):swapsWith e t n env=pure false:=by
 cases e<;>first | rfl | (exact absurd (show false=true from h) YC)
def Cf(t:WE):WS:=λD σ M=>t σ M λ_ M1=>D.nx σ M1
theorem FS{t:WE}(h:aP X e t)(hc:eI e=true):mL X (.Expr e pos) (Cf t):=by
 intro σ M ρ H D rs b q;refine fj (Ic (bJ e) (ut hc)) ?_;show tW X e ρ H _;refine aU (h σ M ρ H _ rs b q) λv g c=>?_
 obtain⟨a,x,M1,j,d,f⟩:=c;exact⟨a,σ,M1,rs.mono a,d,f⟩
def FT(i:Nat)(t:WE):WS:=λD σ M=>t σ M λx M1=>D.nx (σ.set i (some x)) M1
def FU(c:WT)(t u:WS):WS:=λD σ M=>c σ M λb M1=>bG b (t D σ M1) (u D σ M1)
theorem KS{c:Expr}{a b:Zu}{tc:WT}{t u:WS}(hc:lU X c tc)(ha:pv X a t)(hb:pv X b u):mL X (.If c a b pos) (FU tc t u):=by
 intro σ M ρ H D rs l q;refine fj (Ma (o0 c) (pq a) (pq b)) ?_;show sK X c ρ H _;refine gT (hc σ M ρ H _ rs l q) λk f m=>?_
 obtain⟨d,M1,g,j⟩:=m;cases k with
 |true=>exact fm (ha σ M1 ρ f D (rs.mono d) g j) (tu d)
 |false=>exact fm (hb σ M1 ρ f D (rs.mono d) g j) (tu d)
inductive dY where
 |nm (i:Nat) | tp (is:Zj)
def Cg:List Nat->sC
 |[]=>J3
 |i::is=>Hl (xy i) (Cg is)
section
variable {prog:Zw}{w:World}{A:Around}{E:Zb}
theorem yi{it l:Addr}{f_:Zl}(ne:l≠it):∀(n i:Nat) (s:Shared) (Q:List Value->Shared->Prop),s.heap.IsListIter it l i->s.heap.IsList l f_->i+n<=f_.size ->
  (∀h',h'.IsListIter it l (i+n)->Heap.SameBut it s.heap h'->Q ((f_.toList.drop i).take n) { s with heap:=h' })->wpAny (model prog w) A (draw (.ref it) n) Q E s
 |0,i,s,Q,a,_,_,q=>by
  rw[draw];exact Yc (by simpa using q s.heap a (Heap.SameBut.refl ..))
 |n+1,i,s,Q,a,hl,le,q=>by
  have lt:i<f_.size:=by omega
  rw[draw];refine Yb (wpAny_pyNext_list_item a hl (x:=f_[i]) (by simp[lt]) λd b s1=>?_);refine Yb (Yj (yi ne n (i+1) _ _ b (hl.extBut s1.extBut ne) (by omega) λh2 c s2=>Yc ?_));have e:f_.toList.drop i=f_[i]::f_.toList.drop (i+1):=by simp[List.drop_eq_getElem_cons,lt]
  have r:=q h2 (by rw[show i+(n+1)=i+1+n by omega];exact c) (s1.trans s2);rw[e,List.take_succ_cons] at r;exact r
theorem Ch{s:Shared}{l:Addr}{f_:Zl}{ts:List (Bool×(Value->Sem Unit))}{Q:Zo}(a:A.handled=none)(hl:s.heap.IsList l f_)(hn:ts.length=f_.size)(c:ts.findIdx? (·.1)=none)
  (h:∀h',Heap.ExtBut s.heap.objs.size s.heap h'->wpAny (model prog w) A (assignInOrder (ts.map (·.2)) f_.toList) Q E { s with heap:=h' }):wpAny (model prog w) A (unpack (.ref l) ts) Q E s:=by
 have ne:l≠s.heap.objs.size:=by obtain⟨o,d,_⟩:=hl;exact ZT (Ye d)
 unfold unpack;rw[hn,c];refine Yb (Yj ?_);unfold unpackItems;refine Yb ?_;unfold notIterableAtAll;refine Yb (wpAny_specialOf hl.typeIs slot_list_iter.lookup (Yc ?_));simp only[XG,if_false];refine Yb (Yj (wpAny_pyIter_list hl ?_));refine Yb (Yj (yi ne f_.size 0 _ _ ⟨_,Yg _ rfl,rfl,rfl⟩ (hl.push _) (by omega) λj f s1=>?_));have e:List.take f_.size (List.drop 0 f_.toList)=f_.toList:=by rw[List.drop_zero];exact List.take_of_length_le (by simp)
 rw[e,if_neg (by simp)];refine Yb (Yj (wpAny_pyNext_list_end a f ((hl.push _).extBut s1.extBut ne) (by simp) λh2 g=>?_));simp only[Option.isSome_none,XG,if_false];exact Yc (h h2 λb o hb z=>g b o hb (s1.extBut b o hb (Yd _ z)))
end
def KU(K:Za)(n:Nat)(t:sC):TG:=λv σ H Q=>∃a xs,v=.ref a/\(ca K H a xs\/bH K H a xs)/\xs.length=n/\t xs σ H Q
theorem KW{X:Cx}{pos:Pos}{es:Zg}{k:Nat}{t:sC}{n:Nat}(hc:X.calm=true)(h:AJ X es t)(hn:(assignEach es X.env).length=n)(c:(assignEach es X.env).findIdx? (·.1)=none):PG X (.Tuple es k pos) (KU X.K n t):=by
 intro b_ s σ H v u Q I r hw;obtain⟨a,xs,d,hq | hq,hl,hw⟩:=hw
 ·exact J4 hc h hn c b_ s σ H v u Q I r ⟨a,xs,d,hq,hl,hw⟩
 ·subst d
  cases r;obtain⟨f_,f,ht,hz⟩:=I.list hq;rw[PyProof.Rows.assign_Tuple];refine Yb (Yk (Ch (I.ok.hd hc) ht.isList (by simp[hn,←hl,f.length]) c λh' hx=>?_));have g:af X b_ σ H { s with heap:=h' }:=I.kept (t':=s.toks) λb o e=>hx b o (ZT (Ye e)) e
  exact h b_ _ σ H xs _ Q g (by simpa using f) hw
def yj(K:Za):dY->TG
 |.nm i=>xy i
 |.tp is=>KU K is.length (Cg is)
def setM:List Nat->List D->DS->DS
 |i::is,d::ds,σ=>setM is ds (σ.set i (some d))
 |_,_,σ=>σ
def uu:dY->D->DS->(DS->Prop)->Prop
 |.nm i,d,σ,Q=>Q (σ.set i (some d))
 |.tp is,.tup ds,σ,Q=>ds.length=is.length/\Q (setM is ds σ)
 |.tp _,_,_,_=>False
theorem vE{K:Za}:∀(is:Zj) (ds:List D) (vs:List V) (σ:DS) (ρ:L2.St) (H:Hp) (Q:L2.St->Hp->Prop),aj K H ds vs->RS K H σ ρ->ds.length=is.length ->
  (∀a,RS K H (setM is ds σ) a->Q a H)->Cg is vs ρ H Q
 |[],[],vs,σ,ρ,H,Q,r,rs,_,q=>by rw[aj] at r;subst r;exact⟨rfl,q ρ rs⟩
 |i::is,d::ds,vs,σ,ρ,H,Q,r,rs,l,q=>by
  rw[aj] at r;obtain⟨v,b,rfl,c,f⟩:=r;exact⟨v,b,rfl,vE is ds b (σ.set i (some d)) (ρ.set i (some v)) H Q f (rs.set i c) (by simpa using l) q⟩
theorem yk{K:Za}{t:dY}{d:D}{v:V}{σ:DS}{ρ:L2.St}{H:Hp}{Q:L2.St->Hp->Prop}{c:DS->Prop}(r:RV K H d v)(rs:RS K H σ ρ)(h:uu t d σ c)(f:∀b g,RS K H g b->c g->Q b H):yj K t v ρ H Q:=by
 cases t with
 |nm i=>exact f _ _ (rs.set i r) h
 |tp is=>
  cases d with
  |tup ds=>
   obtain⟨a,xs,rfl,s,j⟩:=RV.tup_.1 r;exact⟨a,xs,rfl,.inl s,by rw[←j.len];exact h.1,vE is ds xs σ ρ H Q j rs h.1 λb k=>f b _ k h.2⟩
  |_=>exact Yh h
def MP(X:Cx)(tg:Expr)(t:dY):Prop:=PG X tg (yj X.K t)
theorem RM.list{K:Za}{H:Hp}{M:MH}{a:Addr}{ds:List D}(m:RM K M H)(h:ck (M a)=some ds):∃vs,bH K H a vs/\aj K H ds vs:=by
 cases e:M a with
 |none=>rw[e] at h;cases h
 |some o=>
  rw[e] at h;cases o with
  |lst xs=>cases h;obtain⟨vs,q,r⟩:=m a _ e;exact⟨vs,bH.of q,r⟩
  |rol xs=>cases h;obtain⟨vs,q,r⟩:=m a _ e;exact⟨vs,.inl q,r⟩
  |_=>cases h
def Ci(t:dY)(d:D)(M:MH)(σ:DS)(Q:DS->Prop):Prop:=match d with
 |.ref a=>match t with
  |.nm i=>Q (σ.set i (some (.ref a)))
  |.tp is=>match ck (M a) with
   |some ds=>ds.length=is.length/\Q (setM is ds σ)
   |none=>False
 |d=>uu t d σ Q
theorem Ja{K:Za}{t:dY}{d:D}{v:V}{M:MH}{σ:DS}{ρ:L2.St}{H:Hp}{Q:L2.St->Hp->Prop}{c:DS->Prop}(r:RV K H d v)(rs:RS K H σ ρ)(m:RM K M H)(h:Ci t d M σ c)(f:∀b g,RS K H g b->c g->Q b H):yj K t v ρ H Q:=by
 cases d with
 |ref a=>
  cases t with
  |nm i=>exact f _ _ (rs.set i r) h
  |tp is=>
   have h:match ck (M a) with | some ds=>ds.length=is.length/\c (setM is ds σ) | none=>False:=h
   split at h
   ·rename_i ds e
    obtain⟨vs,sq,j⟩:=m.list e;cases RV.ref_.1 r;exact⟨a,vs,rfl,.inr sq,by rw[←j.len];exact h.1,vE is ds vs σ ρ H Q j rs h.1 λb k=>f b _ k h.2⟩
   ·exact Yh h
 |_=>exact yk r rs h f
def FV(t:WE)(g:dY):WS:=λD σ M=>t σ M λx M1=>Ci g x M1 σ λa=>D.nx a M1
theorem Jb{tg:Expr}{t:WE}{g:dY}(h:aP X e t)(hg:MP X tg g)(c:swapsWithSole [tg] e pos.line X.env=pure false)(hw:swappedStores [tg] e X.env=pure none)(d:(assignEach [tg] X.env).map (·.2)=[assign tg X.env]):mL X (.Assign [tg] e pos) (FV t g):=by
 intro σ M ρ H D rs f q;refine fj (Dr (bJ e) hg c hw d) ?_;show tW X e ρ H _;refine aU (h σ M ρ H _ rs f q) λv p j=>?_
 obtain⟨a,x,M1,k,b,l⟩:=j;exact Ja k (rs.mono a) b l λr m n o=>⟨a,m,M1,n,b,o⟩
abbrev WI:=DS->MH->(List D->(MH->Prop)->MH->Prop)->Prop
def uv(K:Za)(J:It)(a:Hp)(xs:List D)(g:MH->Prop):Prop:=∀i H M,Kp a H->RM K M H->g M->(i<xs.length->J.go i H)/\(i=xs.length->J.stop i H)/\∀x H' d,xs[i]?=some d->J.yld i H x H'->Kp H H'/\RM K M H'/\RV K H' d x
def iW(X:Cx)(tg a:Expr):TI:=λρ H R=>∀b_ s,af X b_ ρ H s->wpAny (model X.prog X.w) X.A (eval a X.env) (λv s1=>wpAny (model X.prog X.w) X.A (pyIter v) (t7 X b_ ρ tg R) X.xe s1) X.xe s
theorem FW(tg a:Expr):PI X tg a (iW X tg a):=λb_ s _ _ _ I h=>h b_ s I
theorem MA{tg a:Expr}{t:TI}{R:It->Hp->Prop}(h:PI X tg a t)(q:t ρ H R):iW X tg a ρ H R:=λb_ s I=>h b_ s ρ H R I q
theorem vF{tg a:Expr}{R b:It->Hp->Prop}(h:iW X tg a ρ H R)(f:∀J H',R J H'->b J H'):iW X tg a ρ H b:=λb_ s I=>aN (h b_ s I) λ_ _ q=>aN q λ_ _ ⟨it,fp,tn,J,H',e,c,T,st,d,r⟩=>⟨it,fp,tn,J,H',e,c,T,st,d,f J H' r⟩
def NL(K:Za)(H:Hp)(R:List D->(MH->Prop)->MH->Prop):It->Hp->Prop:=λJ H'=>Kp H H'/\∃xs g M',RM K M' H'/\g M'/\uv K J H' xs g/\xs.length<=sizeLine/\R xs g M'
def yl(X:Cx)(tg a:Expr)(t:WI):Prop:=∀σ M ρ H R,RS X.K H σ ρ->RM X.K M H->t σ M R->iW X tg a ρ H (NL X.K H R)
def kD:Key->D
 |.inl i=>.int i
 |.inr x=>.str x
def keysOf(a:ZC):List D:=a.map λb=>kD b.1
theorem HB{K:Za}{H:Hp}(k:Key):RV K H (kD k) (kV k):=by
 cases k with
 |inl i=>exact RV.int_.2 rfl
 |inr x=>exact RV.str_.2 rfl
theorem ym{K:Za}{a:Addr}{u:Obj}{b:ZC}{f:List (Key×V)}{j:Hp}(e:j a=some (.frz u (.dK f)))(hk:f.map (·.1)=b.map (·.1))(g:MH->Prop):uv K (KR a u f) j (keysOf b) g:=by
 intro i H M k n _;have hl:f.length=b.length:=by have:=congrArg List.length hk;simpa using this
 have e':=k.2 a _ _ e;have hn:(keysOf b).length=b.length:=by unfold keysOf;rw[ZF]
 rw[hn];refine⟨λo=>⟨e',by omega⟩,λo=>⟨e',by omega⟩,λx H' d hd r=>?_⟩;obtain⟨t,m,w,h2⟩:=r;subst t h2;unfold keysOf at hd;rw[ZG] at hd;have c:(b[i]?).map (·.1)=some m.1:=by
  have:=congrArg (λl=>l[i]?) hk
  simp only[ZG,w] at this;rw[←this];rfl
 cases q:b[i]? with
 |none=>rw[q] at c;cases c
 |some p=>
  rw[q] at c hd;cases hd;have c:p.1=m.1:=by simpa using c
  refine⟨Kp.refl _,n,?_⟩;show RV K _ (kD p.1) _;rw[c];exact HB _
def KY(x:D)(M:MH)(R:List D->(MH->Prop)->MH->Prop):Prop:=match x with
 |.tup ds=>R ds (λ_=>True) M
 |.ref a=>match M a with
  |some (.lst ds)=>R ds (λM'=>M' a=some (.lst ds)) M
  |some (.rol ds)=>R ds (λM'=>M' a=some (.rol ds)) M
  |some (.dic b)=>R (keysOf b) (λM'=>M' a=some (.rod b)) (ac M a (.rod b))
  |some (.rod b)=>R (keysOf b) (λM'=>M' a=some (.rod b)) M
  |_=>False
 |.str z=>z.cps.size<=sizeLine/\R (z.cps.toList.map λc=>.str ⟨#[c]⟩) (λ_=>True) M
 |_=>False
theorem yn{K:Za}{a:Addr}{ds:List D}{j:Hp}{g:MH->Prop}(hg:∀H M,RM K M H->g M->∃vs,bH K H a vs/\aj K H ds vs):uv K (J9 K a) j ds g:=by
 intro i H M _ f q;obtain⟨vs,sq,b⟩:=hg H M f q;refine⟨λc=>?_,λc=>⟨vs,sq,by rw[←b.len];exact Nat.le_of_eq c.symm⟩,λx H' d hd ⟨e,y⟩=>?_⟩
 ·have:i<vs.length:=by rw[←b.len];exact c
  exact⟨vs,vs[i],sq,ZD this⟩
 ·subst e
  obtain⟨v,k,r⟩:=et b.p hd
  have:=y vs sq
  rw[k] at this;cases this;exact⟨Kp.refl _,f,r⟩
theorem Jc{K:Za}{a:Addr}{ds:List D}{vs:List V}{c:Hp}(sq:ca K c a vs)(b:aj K c ds vs):uv K (Ka K a) c ds (λ_=>True):=by
 intro i H M k g _;have sq:=k.sq sq;have b:=aj.mono k _ b;refine⟨λf=>?_,λf=>⟨vs,sq,by rw[←b.len];exact Nat.le_of_eq f.symm⟩,λx H' d hd ⟨e,y⟩=>?_⟩
 ·have:i<vs.length:=by rw[←b.len];exact f
  exact⟨vs,vs[i],sq,ZD this⟩
 ·subst e
  obtain⟨v,j,r⟩:=et b.p hd
  have:=y vs sq
  rw[j] at this;cases this;exact⟨Kp.refl _,g,r⟩
theorem Jd{K:Za}{z:Str}{b:Hp}:uv K (Hx z) b (z.cps.toList.map λc=>.str ⟨#[c]⟩) (λ_=>True):=by
 intro i H M k f _;rw[ZF];refine⟨λa=>?_,λa=>?_,λx H' d hd ⟨e,c,hc,y⟩=>?_⟩
 ·show i<z.cps.size
  simpa using a
 ·show i=z.cps.size
  simpa using a
 ·subst e y
  rw[ZG] at hd;have:z.cps.toList[i]?=some c:=by simpa using hc
  rw[this] at hd;cases hd;exact⟨Kp.refl _,f,RV.str_.2 rfl⟩
def Cj(t:WE):WI:=λσ M R=>t σ M λx M1=>KY x M1 R
theorem A4{b_:Zc}{s:Shared}{tg:Expr}{a:Addr}{xs:List V}{R:It->Hp->Prop}(I:af X b_ ρ H s)(hq:bH X.K H a xs)(q:R (J9 X.K a) H):wpAny (model X.prog X.w) X.A (pyIter (.ref a)) (t7 X b_ ρ tg R) X.xe s:=by
 obtain⟨f_,c,p,hz⟩:=I.list hq;refine wpAny_pyIter_list p.isList ?_;refine⟨s.heap.objs.size,[s.heap.objs.size],_,_,H,rfl,I.kept (t':=s.toks) λb o e=>Yd _ e,Ds a _,⟨_,Yg _ rfl,rfl,rfl⟩,λb hb=>?_,q⟩;have e:b=s.heap.objs.size:=by simpa using hb
 subst e;exact I.fpOk (YE _) (I.hok.fresh (YE _))
theorem KZ{b_:Zc}{s:Shared}{tg:Expr}{a:Addr}{xs:List V}{R:It->Hp->Prop}(I:af X b_ ρ H s)(hq:ca X.K H a xs)(q:R (Ka X.K a) H):wpAny (model X.prog X.w) X.A (pyIter (.ref a)) (t7 X b_ ρ tg R) X.xe s:=by
 obtain⟨f_,c,p,hz⟩:=I.tuple hq;refine wpAny_pyIter_tuple (show s.heap.IsTuple a f_.toArray from p) ?_;refine⟨s.heap.objs.size,[s.heap.objs.size],_,_,H,rfl,I.kept (t':=s.toks) λb o e=>Yd _ e,BI a _,⟨_,Yg _ rfl,rfl,rfl⟩,λb hb=>?_,q⟩;have e:b=s.heap.objs.size:=by simpa using hb
 subst e;exact I.fpOk (YE _) (I.hok.fresh (YE _))
theorem K0{b_:Zc}{s:Shared}{tg:Expr}{z:Str}{t:Tok}{R:It->Hp->Prop}(I:af X b_ ρ H s)(q:R (Hx z) H):wpAny (model X.prog X.w) X.A (pyIter (.str z t)) (t7 X b_ ρ tg R) X.xe s:=by
 have fp:∀b∈[s.heap.objs.size],oX X b_ H b:=λb hb=>by
  have e:b=s.heap.objs.size:=by simpa using hb
  subst e;exact I.fpOk (YE _) (I.hok.fresh (YE _))
 cases ha:z.cps.all (· < 128)
 ·refine wpAny_pyIter_wide ha ?_
  exact⟨s.heap.objs.size,[s.heap.objs.size],_,_,H,rfl,I.kept (t':=s.toks) λb o e=>Yd _ e,DO _ z t,⟨_,Yg _ rfl,rfl,rfl⟩,fp,q⟩
 ·refine wpAny_pyIter_ascii ha ?_
  exact⟨s.heap.objs.size,[s.heap.objs.size],_,_,H,rfl,I.kept (t':=s.toks) λb o e=>Yd _ e,DN _ z t,⟨_,Yg _ rfl,rfl,rfl⟩,fp,q⟩
theorem Je{l tg:Expr}{t:WE}(h:aP X l t):yl X tg l (Cj t):=by
 intro σ M ρ H R rs F q b_ s I;refine aN (h σ M ρ H _ rs F q b_ s I) λu s1 G=>?_
 obtain⟨v,J,g,r,⟨n,d,M1,w,j,f⟩⟩:=G;cases d with
 |tup ds=>
  obtain⟨a,xs,rfl,sq,k⟩:=RV.tup_.1 w;cases r;obtain⟨_,_,_,hz⟩:=g.tuple sq;exact KZ g sq ⟨n,ds,_,M1,j,trivial,Jc sq k,by rw[k.len];exact hz,f⟩
 |ref a=>
  cases RV.ref_.1 w;cases r;have f:match M1 a with
   |some (.lst ds)=>R ds (λM'=>M' a=some (.lst ds)) M1
   |some (.rol ds)=>R ds (λM'=>M' a=some (.rol ds)) M1
   |some (.dic c)=>R (keysOf c) (λM'=>M' a=some (.rod c)) (ac M1 a (.rod c))
   |some (.rod c)=>R (keysOf c) (λM'=>M' a=some (.rod c)) M1
   |_=>False:=f
  split at f
  ·rename_i ds e
   obtain⟨xs,b,k⟩:=j a _ e;obtain⟨_,_,_,hz⟩:=g.list (bH.of b);refine A4 g (bH.of b) ⟨n,ds,_,M1,j,e,yn λH' M' y g'=>?_,by rw[k.len];exact hz,f⟩;obtain⟨A,e',B⟩:=y a _ g';exact⟨A,bH.of e',B⟩
  ·rename_i ds e
   obtain⟨xs,b,k⟩:=j a _ e;have b:bH X.K J a xs:=.inl b;obtain⟨_,_,_,hz⟩:=g.list b;refine A4 g b ⟨n,ds,_,M1,j,e,yn λH' M' y g'=>?_,by rw[k.len];exact hz,f⟩;obtain⟨A,e',B⟩:=y a _ g';exact⟨A,.inl e',B⟩
  ·rename_i c e
   obtain⟨o,b,p,k⟩:=j a _ e;obtain⟨u,C⟩:=freeze g b;have E:=Kp.put (o':=.frz u (.dK o)) b trivial;have L:=j.put (m:=.rod c) b trivial (o':=.frz u (.dK o)) ⟨u,o,aK,p,aj.mono E _ k⟩;refine AZ C aK ⟨n.trans E,keysOf c,_,_,L,aa,ym aK p _,?_,f⟩;obtain⟨_,hz,_⟩:=on C aK;have hl:o.length=c.length:=by have:=congrArg List.length p;simpa using this
   unfold keysOf;rw[ZF];omega
  ·rename_i c e
   obtain⟨u,o,b,p,k⟩:=j a _ e;refine AZ g b ⟨n,keysOf c,_,M1,j,e,ym b p _,?_,f⟩;obtain⟨_,hz,_⟩:=on g b;have hl:o.length=c.length:=by have:=congrArg List.length p;simpa using this
   unfold keysOf;rw[ZF];omega
  ·exact Yh f
 |str z=>
  cases RV.str_.1 w;obtain⟨t,rfl⟩:=r;exact K0 g ⟨n,_,_,M1,j,trivial,Jd,by rw[ZF];simpa using f.1,f.2⟩
 |_=>exact Yh f
def bP(a b:Int):List D:=(List.range (b-a).toNat).map λ(i:Nat)=>.int (a+(i:Int))
theorem D4{K:Za}{a b:Int}{f:Hp}:uv K (Hm a (b-a).toNat) f (bP a b) (λ_=>True):=by
 intro i H M k g _;have hl:(bP a b).length=(b-a).toNat:=by unfold bP;rw[ZF,ZI]
 rw[hl];refine⟨λc=>c,λc=>Nat.le_of_eq c.symm,λx H' d hd j=>?_⟩;obtain⟨e,y⟩:=j;subst e y;have c:i<(b-a).toNat:=by have:=(YB.mp hd).1;rw[hl] at this;exact this
 unfold bP at hd;rw[ZG,List.getElem?_range c] at hd;cases hd;exact⟨Kp.refl _,g,RV.int_.2 rfl⟩
def Ck(t:WA):WI:=λσ M R=>t σ M λds M1=>match ds with
 |[.int j]=>(-1000000<=j/\j<=1000000)/\R (bP 0 j) (λ_=>True) M1
 |_=>False
theorem D7{a b:Int}(c:-1000000<=a)(h2:b<=1000000):(bP a b).length<=sizeLine:=by
 unfold bP;rw[ZF,ZI,sizeLine_eq];omega
theorem Cl{a tg:Expr}{t:WA}{p:Pos}(hg:Gl X "range")(hm:X.mg "range" = none)(ha:ip X [a] t)(d:ay a=true):yl X tg (.Call (.Name "range" p) [a] [] pos) (Ck t):=by
 intro σ M ρ H R rs f q;refine MA (Dt hg hm (o3 [a]) (by rw[bI d];rfl)) ?_;show mK X [a] ρ H _;refine d3 (ha σ M ρ H _ rs f q) λvs g k=>?_
 obtain⟨l,ds,M1,c,l1,m,b⟩:=k;try dsimp only at b
 split at b
 ·rename_i j
  have c:=c.p;cases c with
  |cons r n=>
   cases n;cases RV.int_.1 r;refine⟨j,rfl,by omega,by omega,l,_,_,M1,m,trivial,?_,D7 (by omega) b.1.2,b.2⟩
   have:=@D4 X.K 0 j g
   rw[Int.sub_zero] at this;exact this
 ·exact Yh b
def l7:Expr->Bool
 |.Set _ _ _=>false
 |_=>true
theorem Cm{env:Env}(h:l7 e=true):∀x,foldedSetIterable e env x=pure x:=by
 intro x;cases e<;>first | rfl | (exact absurd (show false=true from h) YC)
def aI(g:MH->Prop)(t:dY)(a:WS)(E:cv):List D->DS->MH->Prop
 |[],σ,M=>E.nx σ M
 |x::xs,σ,M=>uu t x σ λc=>a { E with nx:=λb M2=>g M2/\aI g t a E xs b M2,ct:=λb M2=>g M2/\aI g t a E xs b M2,bk:=E.nx } c M
def FX(t:WI)(g:dY)(a:WS):WS:=λE σ M=>t σ M λxs b M1=>aI b g a E xs σ M1
theorem Jf{tg d:Expr}{f:Zu}{t:WI}{g:dY}{l:WS}(hp:PassesOwn (model X.prog X.w) X.A X.env X.xe)(hc:X.calm=true)(S:yl X tg d t)(hg:MP X tg g)(hb:pv X f l)(T:l7 d=true):
  mL X (.For tg d f [] pos) (FX t g l):=by
 intro σ M ρ H E rs U q;refine fj (Kb hp hc (FW tg d) hg (pq f) (Cm T)) ?_;show iW X tg d ρ H _;refine vF (S σ M ρ H _ rs U q) λJ G V=>?_
 obtain⟨n,xs,o,M1,W,Y,Z,hz,q1⟩:=V;refine⟨λi m I H'=>m=xs.length-i/\i<=xs.length/\Kp G H'/\∃p M',RS X.K H' p I/\RM X.K M' H'/\o M'/\aI o g l E (xs.drop i) p M',⟨xs.length,by simp,YL _,Kp.refl _,σ,M1,rs.mono n,W,Y,q1⟩,?_⟩;rintro i m I H' ⟨rfl,SM,k',p,M',L,O,g',u⟩;obtain⟨j1,j2,j3⟩:=Z i H' M' k' O g';by_cases z:i<xs.length
 ·rw[List.drop_eq_getElem_cons z] at u
  refine .inr ⟨j1 z,λP j=>Kp G j/\∃R M2,RS X.K j R P/\RM X.K M2 j/\o M2/\aI o g l E (xs.drop (i+1)) R M2,λP j ⟨k,r⟩=>⟨xs.length-(i+1),by omega,rfl,z,k,r⟩,λx j y=>?_⟩;obtain⟨k,m2,r2⟩:=j3 x j xs[i] (ZD z) y;refine yk r2 (L.mono k) u λUx N' Py q3=>?_
  refine fm (hb N' M' Ux j _ Py m2 q3) ⟨λVP H4 PJ=>?_,λ_ _=>cq ((n.trans k').trans k),λ_ _=>l6 ((n.trans k').trans k),λVP H4 ⟨B,C,F,a,b,c⟩=>⟨k'.trans (k.trans B),C,F,a,b,c.1,c.2⟩⟩;obtain⟨B,C,F,a,b,c⟩:=PJ;exact⟨k'.trans (k.trans B),C,F,a,b,c.1,c.2⟩
 ·have e:i=xs.length:=by omega
  subst e;rw[List.drop_length] at u;exact .inl ⟨j2 rfl,n.trans k',p,M',L,O,u⟩
def a9(g:MH->Prop)(t:dY)(c:WT)(e:WE)(F:List D->MH->Prop):List D->List D->DS->MH->Prop
 |[],h_,_,M=>F h_ M
 |x::xs,h_,σ,M=>uu t x σ λa=>c a M λb M1=>bG b (e a M1 λy M2=>g M2/\a9 g t c e F xs (h_++[y]) a M2) (g M1/\a9 g t c e F xs h_ a M1)
def Co(n:Nat)(t:WI)(g:dY)(c:WT)(e:WE):WE:=λσ M Q=>t σ M λxs a M1=>a9 a g c e (λds M'=>∀p,M' p=none->Q (.ref p) (ac M' p (.lst ds))) xs [] (σ++List.replicate n none) M1
def Cp(X:Cx)(a:Zg)(t:WT):Prop:=(a=[]/\t=λ_ M Q=>Q true M) \/ ∃c,a=[c]/\lU X c t
theorem yo{K:Za}{J:It}{f:Hp}{xs:List D}{j:MH->Prop}{g:dY}{c:WT}{e:WE}{tc:TT}{te:TE}{F:List D->MH->Prop}{Fin:List V->Hp->Prop}{σ:DS}{M1:MH}{ρ:L2.St}
  (Z:uv K J f xs j) (hz:xs.length<=sizeLine) (rs:RS K f σ ρ) (m1:RM K M1 f) (g1:j M1)
  (hc:∀σ M ρ H Q (n:Bool->Hp->Prop),RS K H σ ρ->RM K M H->c σ M Q->(∀b H',Kp H H'->∀M',RM K M' H'->Q b M'->n b H')->tc ρ H n)
  (he:∀σ M ρ H Q (n:VK),RS K H σ ρ->RM K M H->e σ M Q->(∀v H',Kp H H'->∀d M',RV K H' d v->RM K M' H'->Q d M'->n v H')->te ρ H n)
  (hF:∀ds vs H' M',Kp f H'->RM K M' H'->aj K H' ds vs->F ds M'->Fin vs H') (q:a9 j g c e F xs [] σ M1):xA J (yj K g) tc te Fin ρ f:=by
 refine⟨λi m A G H'=>m=xs.length-i/\i<=xs.length/\Kp f H'/\∃B M' ds,RS K H' B G/\RM K M' H'/\j M'/\aj K H' ds A/\ds.length<=i/\a9 j g c e F (xs.drop i) ds B M',⟨xs.length,by simp,YL _,Kp.refl _,σ,M1,[],rs,m1,g1,aj.nil,YE _,q⟩,?_⟩;rintro i m A G H' ⟨rfl,SM,k',B,M',ds,K',I,g',o,hd,t⟩;obtain⟨j1,j2,j3⟩:=Z i H' M' k' I g';by_cases u:i<xs.length
 ·rw[List.drop_eq_getElem_cons u] at t
  refine .inr ⟨j1 u,by rw[←o.len];omega,λL O a=>Kp f a/\∃P M2 C,RS K a P O/\RM K M2 a/\j M2/\aj K a C L/\C.length<=i+1/\a9 j g c e F (xs.drop (i+1)) C P M2,λL O a ⟨k,r⟩=>⟨xs.length-(i+1),by omega,rfl,u,k,r⟩,λx a y=>?_⟩;obtain⟨k,m2,r2⟩:=j3 x a xs[i] (ZD u) y;refine yk r2 (K'.mono k) t λR w z q3=>?_
  refine hc w M' R a _ _ z m2 q3 λb H4 l S T E=>?_
  cases b with
  |true=>
   refine he w S R H4 _ _ (z.mono l) T E λv H5 U d M5 rv m5 W=>?_
   have Y:=k.trans (l.trans U);exact⟨k'.trans Y,w,M5,ds++[d],z.mono (l.trans U),m5,W.1,aj.of (bA (aj.mono Y _ o).p (.cons rv .nil)),by simp;omega,W.2⟩
  |false=>exact⟨k'.trans (k.trans l),w,S,ds,z.mono l,T,E.1,aj.mono (k.trans l) _ o,by omega,E.2⟩
 ·have e:i=xs.length:=by omega
  subst e;rw[List.drop_length] at t;exact .inl ⟨j2 rfl,hF ds A H' M' k' I o t⟩
section
variable {D_ tg iter:Expr}{ifs:Zg}{scope OI:Scope}{own N2:Zf}
def bT(X:Cx)(scope:Scope)(own N2:Zf)(ifs:Zg):TT:=λρ H Q=>∀C s a ex pn b_ b,af (dC X scope own N2 C s a ex pn) b_ ρ H b ->
 wpAny (model X.prog X.w) X.A (forIn ifs true λc r=>if r=true then do let ok ←isTrue c (dC X scope own N2 C s a ex pn).env (eval c (dC X scope own N2 C s a ex pn).env);pure (ForInStep.yield ok) else pure (ForInStep.yield r)) (TP (dC X scope own N2 C s a ex pn) b_ ρ Q) (dC X scope own N2 C s a ex pn).xe b
def bE(X:Cx)(scope:Scope)(own N2:Zf)(e:Expr):TE:=λρ H Q=>∀C s a ex pn,tW (dC X scope own N2 C s a ex pn) e ρ H Q
theorem sL{c:WT}{te:WE}(hc:∀C s a ex pn,Cp (dC X scope own N2 C s a ex pn) ifs c)(o:∀C s a ex pn,aP (dC X scope own N2 C s a ex pn) D_ te):
  (∀σ M ρ H Q (g:Bool->Hp->Prop),RS X.K H σ ρ->RM X.K M H->c σ M Q->(∀b H',Kp H H'->∀M',RM X.K M' H'->Q b M'->g b H')->bT X scope own N2 ifs ρ H g) /\
  (∀σ M ρ H Q (g:VK),RS X.K H σ ρ->RM X.K M H->te σ M Q->(∀v H',Kp H H'->∀d M',RV X.K H' d v->RM X.K M' H'->Q d M'->g v H')->bE X scope own N2 D_ ρ H g):=by
 refine⟨λσ M ρ H Q g rs j q f C s a ex pn b_ n I=>?_,λσ M ρ H Q g rs j q f C s a ex pn=>?_⟩
 ·rcases hc C s a ex pn with⟨l,p⟩ | ⟨t,l,h⟩
  ·subst l p
   exact IC (X:=dC X scope own N2 C s a ex pn) b_ n ρ H _ I (f true H (Kp.refl H) M j q)
  ·subst l
   refine ID (X:=dC X scope own N2 C s a ex pn) (o0 t) b_ n ρ H _ I ?_;refine gT (h σ M ρ H Q rs j q) λb H' u=>?_
   obtain⟨k,M',m',m⟩:=u;exact f b H' k M' m' m
 ·refine aU (o C s a ex pn σ M ρ H Q rs j q) λv H' w=>?_
  obtain⟨k,d,M',r,m',m⟩:=w;exact f v H' k d M' r m' m
theorem FY{t:WI}{g:dY}{c:WT}{te:WE}(k:io OI scope X.N own N2)(l:X.env.scope=OI)(n:X.calm=true)(o:yl X tg iter t)(hg:∀C s a ex pn,PG (dC X scope own N2 C s a ex pn) tg (yj X.K g))
  (hc:∀C s a ex pn,Cp (dC X scope own N2 C s a ex pn) ifs c) (r:∀C s a ex pn,aP (dC X scope own N2 C s a ex pn) D_ te) (u:l7 iter=true):aP X (.ListComp D_ [⟨tg,iter,ifs,0⟩] scope pos) (Co own.length t g c te):=by
 intro σ M ρ H Q rs w q;obtain⟨y,z⟩:=sL hc r;refine bX (IE (te:=bE X scope own N2 D_) (tc:=bT X scope own N2 ifs) k n (FW tg iter) hg (λC s a ex pn b_ b A H' B I h=>h C s a ex pn b_ b I) (λC s a ex pn b_ b A H' B I h=>h C s a ex pn b_ b I) l rfl (Cm u)) ?_;show iW X tg iter ρ H _;refine vF (o σ M ρ H _ rs w q) λJ R E=>?_
 obtain⟨d,xs,S,M1,F,G,L,hz,O⟩:=E;refine yo L hz ((rs.mono d).more own.length) F G y z ?_ O;intro ds vs H' M' k' m' P f p hp;have j:Kp H' (upd H' p (.lst vs)):=Kp.new hp;exact⟨(d.trans k').trans j,.ref p,_,RV.ref_.2 rfl,m'.new (m:=.lst ds) hp ⟨vs,aK,aj.mono j _ P⟩,f p (m'.fresh hp)⟩
def Cq(i n:Nat)(t:WI)(g:dY)(c:WT)(e:WE):WS:=λE σ M=>t σ M λxs a M1=>a9 a g c e (λds M'=>∀p,M' p=none->E.nx (σ.set i (some (.ref p))) (ac M' p (.lst ds))) xs [] (σ++List.replicate n none) M1
theorem FZ{t:WI}{g:dY}{c:WT}{te:WE}{i:Nat}{y:Str}{k l:Pos}(n:io OI scope X.N own N2)(o:X.env.scope=OI)(r:X.calm=true)(u:X.N.Nodup)(hy:X.N[i]?=some y)(hl:X.env.scope.names.lookup y=some .local)(w:yl X tg iter t)
  (hg:∀C s a ex pn,PG (dC X scope own N2 C s a ex pn) tg (yj X.K g))
  (hc:∀C s a ex pn,Cp (dC X scope own N2 C s a ex pn) ifs c) (z:∀C s a ex pn,aP (dC X scope own N2 C s a ex pn) D_ te) (A:l7 iter=true)
  (B:swapsWith (.ListComp D_ [⟨tg,iter,ifs,0⟩] scope pos) (some (.Name y k)) l.line X.env=pure true):mL X (.Assign [.Name y k] (.ListComp D_ [⟨tg,iter,ifs,0⟩] scope pos) l) (Cq i own.length t g c te):=by
 intro σ M ρ H E rs F q;obtain⟨G,L⟩:=sL hc z;refine fj (IF (te:=bE X scope own N2 D_) (tc:=bT X scope own N2 ifs) (i:=i) n r u hy hl (FW tg iter) hg (λC s a ex pn b_ b O H' P I h=>h C s a ex pn b_ b I) (λC s a ex pn b_ b O H' P I h=>h C s a ex pn b_ b I) B o rfl (Cm A)) ?_;show iW X tg iter ρ H _;refine vF (w σ M ρ H _ rs F q) λJ Y R=>?_
 obtain⟨d,xs,Z,M1,S,T,U,hz,V⟩:=R;refine yo U hz ((rs.mono d).more own.length) S T G L ?_ V;intro ds vs H' M' k' m' W f p hp;have j:Kp H' (upd H' p (.lst vs)):=Kp.new hp;exact⟨(d.trans k').trans j,_,_,(rs.mono ((d.trans k').trans j)).set i (RV.ref_.2 rfl),m'.new (m:=.lst ds) hp ⟨vs,aK,aj.mono j _ W⟩,f p (m'.fresh hp)⟩
end
def ai(N:Zf)(ds:List D):DS:=ds.map some++List.replicate (N.length-ds.length) none
theorem yp{K:Za}{H:Hp}{N:Zf}{ds:List D}{vs:List V}(r:aj K H ds vs):RS K H (ai N ds) (L2.start N vs):=by
 unfold ai L2.start;rw[r.len];refine bA ?_ (lT (λd e=>nomatch e) _);have p:=r.p;clear r;induction p with
 |nil=>exact .nil
 |cons r _ a=>exact .cons (λd e=>by cases e;exact⟨_,rfl,r⟩) a
end
section
variable {P:Zw}{w:World}{K:Za}{mg:Ze}{base:Heap}
theorem N5{x:Str}{st:Stmt}{ps N:Zf}{f:Addr}{fd:Zv}{k:Nat}{sp:az}{t:WS}(b:oZ K mg x st ps f fd)(S:bU N ps (am st))(len:∀ds M Q,sp ds M Q->ds.length=ps.length)
  (hb:∀u_ A outer s H E,cb k (A.deeper (envOfC x (am st) s.heap.objs.size f u_))->pv (qG mJ P w K mg base N x (am st) f u_ A outer s H E).nox (aW st) t)
  (h:∀ds M Q,sp ds M Q->t { nx:=λ_ M'=>Q .non M',rt:=Q } (ai N ds) M):bB P w K mg base (k+1) x sp:=by
 refine⟨st,ps,f,fd,b,b.fn.ok S (λvs H Q E ⟨ds,M,a,r,_,s,_⟩=>by rw[←r.len];exact len ds M a s) λu_ A outer s H vs Q E g ⟨ds,M,a,r,m,sq,c⟩=>⟨tw _ _,pq _,?_⟩⟩;refine fm (hb u_ A outer s H E g (ai N ds) M (L2.start N vs) H _ (yp r) m (h ds M a sq)) ⟨λn H' j=>?_,λv H' ⟨k',d,M',l,m',q⟩=>c _ _ _ _ q k' l m',λ_ _ ⟨_,_,_,_,_,q⟩=>q,λ_ _ ⟨_,_,_,_,_,q⟩=>q⟩;obtain⟨k',o,M',_,m',q⟩:=j;exact c _ _ _ _ q k' (RV.non_.2 rfl) m'
end
mutual
noncomputable def aY:D->Bool
 |.ref _=>false
 |.ty _=>false
 |.tup ds=>bo ds
 |_=>true
noncomputable def bo:List D->Bool
 |[]=>true
 |d::ds=>aY d&&bo ds
end
mutual
noncomputable def dE:D->Nat
 |.tup ds=>cw ds+1
 |_=>0
noncomputable def cw:List D->Nat
 |[]=>0
 |d::ds=>max (dE d) (cw ds)
end
mutual
noncomputable def a8:D->D->Bool
 |.non,.non=>true
 |.bl a,.bl b=>a==b
 |.bl a,.int b=>(if a then 1 else 0)==b
 |.int a,.bl b=>a==(if b then 1 else 0)
 |.int a,.int b=>a==b
 |.str a,.str b=>a==b
 |.tup as,.tup bs=>cr as bs
 |_,_=>false
noncomputable def cr:List D->List D->Bool
 |[],[]=>true
 |a::as,b::bs=>a8 a b&&cr as bs
 |_,_=>false
end
mutual
theorem tx:∀d:D,aY d=true->a8 d d=true
 |.non,_=>by rw[a8]
 |.bl b,_=>by rw[a8];simp
 |.int b,_=>by rw[a8];simp
 |.str b,_=>by rw[a8];simp
 |.ref _,h=>by rw[aY] at h;cases h
 |.ty _,h=>by rw[aY] at h;cases h
 |.tup ds,h=>by rw[aY] at h;rw[a8];exact wu ds h
theorem wu:∀ds:List D,bo ds=true->cr ds ds=true
 |[],_=>by rw[cr]
 |d::ds,h=>by
  rw[bo,YX] at h;rw[cr,tx d h.1,wu ds h.2];rfl
end
theorem l9:∀{as bs:List D},cr as bs=((List.range (min as.length bs.length)).all (λj=>a8 ((as[j]?).getD .non) ((bs[j]?).getD .non))&&as.length==bs.length)
 |[],[]=>by rw[cr];rfl
 |[],b::bs=>by rw[cr]<;>simp
 |a::as,[]=>by rw[cr]<;>simp
 |a::as,b::bs=>by
  rw[cr,l9 (as:=as) (bs:=bs)];have e:min (a::as).length (b::bs).length=min as.length bs.length+1:=by simp only[YH];omega
  rw[e,List.range_succ_eq_map,XN,List.all_map];simp only[List.getElem?_cons_zero,Option.getD_some,YH];rw[Bool.and_assoc];congr 1;congr 1;rw[Bool.eq_iff_iff];simp
theorem cK:∀{ds:List D}{i:Nat}{d:D},bo ds=true->ds[i]?=some d->aY d=true
 |d::ds,0,_,h,e=>by rw[bo,YX] at h;simp at e;subst e;exact h.1
 |d::ds,i+1,_,h,e=>by rw[bo,YX] at h;exact cK (ds:=ds) (i:=i) h.2 (by simpa using e)
theorem kr:∀{ds:List D}{i:Nat}{d:D},ds[i]?=some d->dE d<=cw ds
 |d::ds,0,_,e=>by rw[cw];simp at e;subst e;omega
 |d::ds,i+1,_,e=>by rw[cw];have:=kr (ds:=ds) (i:=i) (by simpa using e);omega
section
variable {X:Cx}{b_:Zc}{ρ:L2.St}{H:Hp}{s:Shared}
def lA:D->Bool
 |.non=>true
 |.bl _=>true
 |.int _=>true
 |.str _=>true
 |_=>false
def toV:D->V
 |.non=>.non
 |.bl b=>.bl b
 |.int i=>.int i
 |.str x=>.str x
 |_=>.non
theorem rQ{K:Za}{d:D}{v:V}(f:lA d=true)(r:RV K H d v):v=toV d/\BX v=true:=by
 cases d with
 |non=>cases RV.non_.1 r;exact⟨rfl,rfl⟩
 |bl b=>cases RV.bl_.1 r;exact⟨rfl,rfl⟩
 |int b=>cases RV.int_.1 r;exact⟨rfl,rfl⟩
 |str b=>cases RV.str_.1 r;exact⟨rfl,rfl⟩
 |_=>exact absurd (show false=true from f) YC
theorem A5{d e:D}(f:lA d=true)(g:lA e=true):a8 d e=MN (toV d) (toV e):=by
 cases d<;>cases e<;>first | exact absurd (show false=true from f) YC | exact absurd (show false=true from g) YC | (rw[a8]<;>first | rfl | (intros;contradiction) | skip)
mutual
theorem yq(I:af X b_ ρ H s):∀(d e:D){v:V},aY d=true->aY e=true->RV X.K H d v->RV X.K H e v->d=e:=λd e v pd pe rd re=>by
 cases d with
 |non=>cases RV.non_.1 rd;cases e with
  |non=>rfl
  |tup ds=>obtain⟨a,xs,z,_⟩:=RV.tup_.1 re;cases z
  |_=>rw[RV] at re;cases re
 |bl b=>cases RV.bl_.1 rd;cases e with
  |bl b'=>cases RV.bl_.1 re;rfl
  |tup ds=>obtain⟨a,xs,z,_⟩:=RV.tup_.1 re;cases z
  |_=>rw[RV] at re;cases re
 |int b=>cases RV.int_.1 rd;cases e with
  |int b'=>cases RV.int_.1 re;rfl
  |tup ds=>obtain⟨a,xs,z,_⟩:=RV.tup_.1 re;cases z
  |_=>rw[RV] at re;cases re
 |str b=>cases RV.str_.1 rd;cases e with
  |str b'=>cases RV.str_.1 re;rfl
  |tup ds=>obtain⟨a,xs,z,_⟩:=RV.tup_.1 re;cases z
  |_=>rw[RV] at re;cases re
 |ref a=>rw[aY] at pd;cases pd
 |ty a=>rw[aY] at pd;cases pd
 |tup ds=>
  obtain⟨a,xs,rfl,sq,rr⟩:=RV.tup_.1 rd;cases e with
  |tup es=>
   obtain⟨a',QW,z,Pb,B'⟩:=RV.tup_.1 re;cases z
   have:=I.tuple_inj sq Pb
   subst this;rw[aY] at pd pe;rw[A6 I ds es pd pe rr B']
  |ref a=>rw[aY] at pe;cases pe
  |_=>rw[RV] at re;cases re
theorem A6(I:af X b_ ρ H s):∀(ds es:List D){vs:List V},bo ds=true->bo es=true->aj X.K H ds vs->aj X.K H es vs->ds=es
 |[],[],_,_,_,_,_=>rfl
 |[],e::es,_,_,_,rd,re=>by have:=rd.len;have:=re.len;simp only[YH,YT] at *;omega
 |d::ds,[],_,_,_,rd,re=>by have:=rd.len;have:=re.len;simp only[YH,YT] at *;omega
 |d::ds,e::es,_,pd,pe,rd,re=>by
  rw[aj] at rd re;rw[bo,YX] at pd pe;obtain⟨v,vs,rfl,r1,r2⟩:=rd;obtain⟨v',Pa,z,r1',r2'⟩:=re;cases z;rw[yq I d e pd.1 pe.1 r1 r1',A6 I ds es pd.2 pe.2 r2 r2']
end
theorem vG{A:Around}{ds:List D}{e:D}{v u:V}{g j:Value}(I:af X b_ ρ H s)(hu:A.units<cLine)(f:lA e=true)(k:RV X.K H (.tup ds) v)(c:RV X.K H e u)(r:RelV v g)(d:RelV u j):
  SeqAt.EqAt A s g j false/\SeqAt.EqAt A s j g false:=by
 obtain⟨a,xs,rfl,sq,l⟩:=RV.tup_.1 k;obtain⟨f_,_,tp,_⟩:=I.tuple sq;cases r;have tp:s.heap.IsTuple a f_.toArray:=tp;cases e with
 |non=>cases RV.non_.1 c;cases d;exact⟨SeqAt.EqAt.tuple_none tp hu,SeqAt.EqAt.none_tuple tp hu⟩
 |bl b=>cases RV.bl_.1 c;cases d;exact⟨SeqAt.EqAt.tuple_bool b tp hu,SeqAt.EqAt.bool_tuple b tp hu⟩
 |int b=>cases RV.int_.1 c;obtain⟨t,rfl⟩:=d;exact⟨SeqAt.EqAt.tuple_int b t tp hu,SeqAt.EqAt.int_tuple b t tp hu⟩
 |str b=>cases RV.str_.1 c;obtain⟨t,rfl⟩:=d;exact⟨SeqAt.EqAt.tuple_str b t tp hu,SeqAt.EqAt.str_tuple b t tp hu⟩
 |_=>exact absurd (show false=true from f) YC
theorem qS{ds:List D}{e:D}(f:lA e=true):a8 (.tup ds) e=false/\a8 e (.tup ds)=false:=by
 cases e<;>first | exact absurd (show false=true from f) YC | (constructor<;>(rw[a8]<;>(intros;contradiction)))
theorem fP{d:D}(h:aY d=true):lA d=true \/ ∃ds,d=.tup ds:=by
 cases d with
 |ref a=>rw[aY] at h;cases h
 |ty a=>rw[aY] at h;cases h
 |tup ds=>exact .inr ⟨ds,rfl⟩
 |_=>exact .inl rfl
theorem units_in1(A:Around):A.in1.units=A.units+1:=rfl
theorem jF{K:Za}{ds:List D}{vs:List V}{f_:Zd}(a:aj K H ds vs)(b:av vs f_){j:Nat}(h:j<f_.toArray.size):
  ∃d v,ds[j]?=some d/\RV K H d v/\RelV v f_.toArray[j]:=by
 have c:j<f_.length:=by simpa using h
 have h2:j<vs.length:=by rw[b.length];exact c
 have f:j<ds.length:=by rw[a.len];exact h2
 obtain⟨v,g,r⟩:=et a.p (ZD f);obtain⟨u,hu,k⟩:=b.get g;have:f_.toArray[j]=u:=by
  have:=ZD c
  rw[this] at hu;simpa using hu
 exact⟨ds[j],v,ZD f,r,by rw[this];exact k⟩
theorem yr(n:Nat):∀{s:Shared}{A:Around}(d e:D){v u:V}{p t:Value},af X b_ ρ H s->dE d<=n->A.units+n<cLine->aY d=true->aY e=true->RV X.K H d v->RV X.K H e u->RelV v p->RelV u t->SeqAt.EqAt A s p t (a8 d e):=by
 induction n with
 |zero=>
  intro s A d e v u p t I hd hu m o c k r l;rcases fP m with f | ⟨ds,rfl⟩
  ·rcases fP o with g | ⟨es,rfl⟩
   ·rw[A5 f g]
    obtain⟨w,y⟩:=rQ f c;obtain⟨B,C⟩:=rQ g k;rw[←w,←B];exact DA r l y C
   ·rw[(qS f).2];exact(vG I (by omega) f k c l r).2
  ·rw[dE] at hd;omega
 |succ n R=>
  intro s A d e v u p t I hd hu m o c k r l;rcases fP m with f | ⟨ds,rfl⟩
  ·rcases fP o with g | ⟨es,rfl⟩
   ·rw[A5 f g]
    obtain⟨w,y⟩:=rQ f c;obtain⟨B,C⟩:=rQ g k;rw[←w,←B];exact DA r l y C
   ·rw[(qS f).2];exact(vG I (by omega) f k c l r).2
  ·rcases fP o with g | ⟨es,rfl⟩
   ·rw[(qS g).1];exact(vG I (by omega) g c k r l).1
   ·by_cases z:v=u
    ·subst z
     have:=yq I _ _ m o c k
     cases this;rw[tx _ m];obtain⟨a,xs,rfl,_⟩:=RV.tup_.1 c;cases r;cases l;exact SeqAt.EqAt.same _
    ·obtain⟨a,xs,rfl,sq,G⟩:=RV.tup_.1 c
     obtain⟨b,ys,rfl,S,J⟩:=RV.tup_.1 k;cases r;cases l;have T:a≠b:=λq=>z (by rw[q])
     obtain⟨f_,L,tp,_⟩:=I.tuple sq;obtain⟨n_,O,U,_⟩:=I.tuple S;rw[dE] at hd;rw[aY] at m o;have E:=SeqAt.RcAt.tuples (A:=A) (e:=λj=>a8 ((ds[j]?).getD .non) ((es[j]?).getD .non)) (show s.heap.IsTuple a f_.toArray from tp) (show s.heap.IsTuple b n_.toArray from U) (by omega) (λj W h2=>by
      obtain⟨d,v,F,Y,Z⟩:=jF G L W;obtain⟨e,u,P,r2,q2⟩:=jF J O h2;rw[F,P]
      have:=kr F
      exact R d e I (by omega) (by rw[units_in1];omega) (cK m F) (cK o P) Y r2 Z q2)
     have e:a8 (.tup ds) (.tup es)=((List.range (min f_.toArray.size n_.toArray.size)).all (λj=>a8 ((ds[j]?).getD .non) ((es[j]?).getD .non))&&f_.toArray.size==n_.toArray.size):=by
      have l1:f_.toArray.size=ds.length:=by rw[G.len,L.length];simp
      have l2:n_.toArray.size=es.length:=by rw[J.len,O.length];simp
      rw[a8,l9,l1,l2]
     rw[e];exact SeqAt.EqAt.of_refs T E
end
section
variable {X:Cx}{H:Hp}
def F1:D->D->MH->DK->Prop
 |.int i,.int j,M,Q=>Q (.int (i+j)) M
 |.str i,.str j,M,Q=>i.length+j.length<=sizeLine/\Q (.str (i++j)) M
 |.tup xs,.tup c,M,Q=>(xs≠[]/\xs.length+c.length<=sizeLine)/\Q (.tup (xs++c)) M
 |.ref a,.ref b,M,Q=>match M a,M b with
  |some (.lst xs),some (.lst c)=>xs.length+c.length<=sizeLine/\∀p,M p=none->Q (.ref p) (ac M p (.lst (xs++c)))
  |_,_=>False
 |_,_,_,_=>False
theorem Jg:ko X (binaryOp .Add) F1:=by
 intro x y v u H M Q l n c h;cases x with
 |int i=>cases y with
  |int j=>cases RV.int_.1 l;cases RV.int_.1 n;exact gJ Kd ⟨i,j,rfl,rfl,aD (RV.int_.2 rfl) c h⟩
  |_=>exact Yh h
 |str i=>cases y with
  |str j=>cases RV.str_.1 l;cases RV.str_.1 n;exact gJ BN ⟨i,j,rfl,rfl,h.1,aD (RV.str_.2 rfl) c h.2⟩
  |_=>exact Yh h
 |tup xs=>cases y with
  |tup d=>
   obtain⟨a,vs,rfl,sq,f⟩:=RV.tup_.1 l;obtain⟨b,us,rfl,t,g⟩:=RV.tup_.1 n;obtain⟨⟨w,h2⟩,r⟩:=h;refine gJ Iw ⟨a,b,vs,us,rfl,rfl,sq,t,λz=>w ?_,by rw[←f.len,←g.len];exact h2,λz=>?_,λz p hp=>?_⟩
   ·have:=f.len;rw[z] at this;exact XQ this
   ·have:=g.len;rw[z] at this
    have:d=[]:=XQ this
    subst this;rw[ZA] at r;exact aD l c r
   ·have k:=Kp.new (o:=.tup (vs++us)) hp
    exact⟨k,.tup (xs++d),M,RV.tup_.2 ⟨p,_,rfl,ca.of aK,aj.of (bA (aj.mono k _ f).p (aj.mono k _ g).p)⟩,c.newH hp,r⟩
  |_=>exact Yh h
 |ref a=>cases y with
  |ref b=>
   cases RV.ref_.1 l;cases RV.ref_.1 n;have h:match M a,M b with
    |some (.lst xs),some (.lst d)=>xs.length+d.length<=sizeLine/\∀p,M p=none->Q (.ref p) (ac M p (.lst (xs++d)))
    |_,_=>False:=h
   split at h
   ·rename_i xs d A B
    obtain⟨vs,C,f⟩:=c a _ A;obtain⟨us,E,g⟩:=c b _ B;refine gJ KD ⟨a,b,vs,us,rfl,rfl,C,E,by rw[←f.len,←g.len];exact h.1,λp hp=>?_⟩;have k:=Kp.new (o:=.lst (vs++us)) hp;exact⟨k,.ref p,_,RV.ref_.2 rfl,c.new (m:=.lst (xs++d)) hp ⟨_,aK,aj.of (bA (aj.mono k _ f).p (aj.mono k _ g).p)⟩,h.2 p (c.fresh hp)⟩
   ·exact Yh h
  |_=>exact Yh h
 |_=>exact Yh h
def dI(C:Int->Int->Prop)(g:Int->Int->Int):D->D->MH->DK->Prop
 |.int i,.int j,M,Q=>C i j/\Q (.int (g i j)) M
 |_,_,_,_=>False
theorem uw{f:Zk}{C:Int->Int->Prop}{g:Int->Int->Int}(a:cI X f (rI C λi j=>.int (g i j))):ko X f (dI C g):=by
 intro x y v u H M Q b c d h;cases x with
 |int i=>cases y with
  |int j=>cases RV.int_.1 b;cases RV.int_.1 c;exact gJ a ⟨i,j,rfl,rfl,h.1,aD (RV.int_.2 rfl) d h.2⟩
  |_=>exact Yh h
 |_=>exact Yh h
def A8(g:Int->Int->Int):D->D->MH->DK->Prop
 |.int i,.int j,M,Q=>Q (.int (g i j)) M
 |_,_,_,_=>False
theorem ux{f:Zk}{g:Int->Int->Int}(a:cI X f (oj λi j=>.int (g i j))):ko X f (A8 g):=by
 intro x y v u H M Q b c d h;cases x with
 |int i=>cases y with
  |int j=>cases RV.int_.1 b;cases RV.int_.1 c;exact gJ a ⟨i,j,rfl,rfl,aD (RV.int_.2 rfl) d h⟩
  |_=>exact Yh h
 |_=>exact Yh h
def F2:D->D->MH->DK->Prop
 |.int i,.int j,M,Q=>xQ i j/\Q (.int (i*j)) M
 |.str z,.int n,M,Q=>(0<=n/\n<=1048576/\z.length*n.toNat<=1048576)/\Q (.str (Txt.mul z n)) M
 |.ref a,.int k,M,Q=>match M a with
  |some (.lst xs)=>(-1000000<=k/\k<=1000000/\xs.length*k.toNat<=sizeLine)/\∀p,M p=none->Q (.ref p) (ac M p (.lst (List.replicate k.toNat xs).flatten))
  |_=>False
 |_,_,_,_=>False
theorem Jh:ko X (binaryOp .Mult) F2:=by
 intro x y v u H M Q c d b h;cases x with
 |int i=>cases y with
  |int j=>cases RV.int_.1 c;cases RV.int_.1 d;exact gJ Kf ⟨i,j,rfl,rfl,h.1,aD (RV.int_.2 rfl) b h.2⟩
  |_=>exact Yh h
 |str z=>cases y with
  |int n=>cases RV.str_.1 c;cases RV.int_.1 d;exact gJ BZ ⟨z,n,rfl,rfl,h.1.1,h.1.2.1,h.1.2.2,aD (RV.str_.2 rfl) b h.2⟩
  |_=>exact Yh h
 |ref a=>cases y with
  |int k=>
   cases RV.ref_.1 c;cases RV.int_.1 d;have h:match M a with
    |some (.lst xs)=>(-1000000<=k/\k<=1000000/\xs.length*k.toNat<=sizeLine)/\∀p,M p=none->Q (.ref p) (ac M p (.lst (List.replicate k.toNat xs).flatten))
    |_=>False:=h
   split at h
   ·rename_i xs l
    obtain⟨vs,r,f⟩:=b a _ l;refine gJ KF ⟨a,k,vs,rfl,rfl,r,by omega,by omega,by rw[←f.len];exact h.1.2.2,λp hp=>?_⟩;have g:=Kp.new (o:=.lst (List.replicate k.toNat vs).flatten) hp;exact⟨g,.ref p,_,RV.ref_.2 rfl,b.new (m:=.lst (List.replicate k.toNat xs).flatten) hp ⟨_,aK,aj.of (DR (aj.mono g _ f).p _)⟩,h.2 p (b.fresh hp)⟩
   ·exact Yh h
  |_=>exact Yh h
 |_=>exact Yh h
def F3:Operator->D->D->MH->DK->Prop
 |.Add=>F1
 |.Sub=>A8 λi j=>i-j
 |.Mult=>F2
 |.FloorDiv=>dI Kc λi j=>i / j
 |.Mod=>dI (λ_ j=>0<j) λi j=>i%j
 |.Pow=>dI xP λi j=>i ^ j.toNat
 |.LShift=>dI xP λi j=>i*2 ^ j.toNat
 |.RShift=>dI (λ_ j=>0<=j) λi j=>i / 2 ^ j.toNat
 |.BitAnd=>A8 Builtin.bitAnd
 |.BitOr=>A8 Builtin.bitOr
 |.BitXor=>A8 Builtin.bitXor
 |_=>λ_ _ _ _=>False
theorem Ji(op:Operator):ko X (binaryOp op) (F3 op):=by
 cases op with
 |Add=>exact Jg
 |Sub=>exact ux Ke
 |Mult=>exact Jh
 |FloorDiv=>exact uw Ie
 |Mod=>exact uw Kg
 |Pow=>exact uw Kh
 |LShift=>exact uw Ki
 |RShift=>exact uw Kj
 |BitAnd=>exact ux Kk
 |BitOr=>exact ux Md
 |BitXor=>exact ux Kl
 |_=>exact λ_ _ _ _ _ _ _ _ _ _ h=>Yh h
def D8(g:Int->Int->Bool):D->D->MH->DK->Prop
 |.int i,.int j,M,Q=>Q (.bl (g i j)) M
 |_,_,_,_=>False
theorem uz{f:Zk}{g:Int->Int->Bool}(a:cI X f (oj λi j=>.bl (g i j))):ko X f (D8 g):=by
 intro x y v u H M Q b c d h;cases x with
 |int i=>cases y with
  |int j=>cases RV.int_.1 b;cases RV.int_.1 c;exact gJ a ⟨i,j,rfl,rfl,aD (RV.bl_.2 rfl) d h⟩
  |_=>exact Yh h
 |_=>exact Yh h
def A9(x y:D)(M:MH)(Q:Bool->Prop):Prop:=match x,y with
 |.ref a,.ref b=>match ck (M a),ck (M b) with
  |some xs,some c=>(bo xs=true/\bo c=true/\cw xs<=30)/\Q (cr xs c)
  |_,_=>False
 |.ref a,y=>match ck (M a) with
  |some _=>aY y=true/\Q false
  |none=>False
 |x,.ref b=>match ck (M b) with
  |some _=>aY x=true/\Q false
  |none=>False
 |x,y=>(aY x=true/\aY y=true/\dE x<=30)/\Q (a8 x y)
theorem D9{A:Around}{s:Shared}{d e:D}{v u:V}{l m:Value}{K:Za}(f:lA d=true)(g:lA e=true)(k:RV K H d v)(c:RV K H e u)(r:RelV v l)(j:RelV u m):
  SeqAt.RcAt A s l m (a8 d e)/\SeqAt.RcNeAt A s l m (!a8 d e):=by
 cases d with
 |non=>
  cases RV.non_.1 k;cases r;cases e with
  |non=>cases RV.non_.1 c;cases j;rw[a8];exact⟨SeqAt.RcAt.none_none,SeqAt.RcNeAt.none_none⟩
  |bl b=>cases RV.bl_.1 c;cases j;rw[a8]<;>first | exact⟨SeqAt.RcAt.none_bool b,SeqAt.RcNeAt.none_bool b⟩ | (intros;contradiction)
  |int b=>cases RV.int_.1 c;obtain⟨t,rfl⟩:=j;rw[a8]<;>first | exact⟨SeqAt.RcAt.none_int b t,SeqAt.RcNeAt.none_int b t⟩ | (intros;contradiction)
  |str b=>cases RV.str_.1 c;obtain⟨t,rfl⟩:=j;rw[a8]<;>first | exact⟨SeqAt.RcAt.none_str b t,SeqAt.RcNeAt.none_str b t⟩ | (intros;contradiction)
  |_=>exact absurd (show false=true from g) YC
 |bl a=>
  cases RV.bl_.1 k;cases r;cases e with
  |non=>cases RV.non_.1 c;cases j;rw[a8]<;>first | exact⟨SeqAt.RcAt.bool_none a,SeqAt.RcNeAt.bool_none a⟩ | (intros;contradiction)
  |bl b=>cases RV.bl_.1 c;cases j;rw[a8];exact⟨SeqAt.RcAt.bool_bool a b,SeqAt.RcNeAt.bool_bool a b⟩
  |int b=>cases RV.int_.1 c;obtain⟨t,rfl⟩:=j;rw[a8];exact⟨SeqAt.RcAt.bool_int a b t,SeqAt.RcNeAt.bool_int a b t⟩
  |str b=>cases RV.str_.1 c;obtain⟨t,rfl⟩:=j;rw[a8]<;>first | exact⟨SeqAt.RcAt.bool_str a b t,SeqAt.RcNeAt.bool_str a b t⟩ | (intros;contradiction)
  |_=>exact absurd (show false=true from g) YC
 |int a=>
  cases RV.int_.1 k;obtain⟨t',rfl⟩:=r;cases e with
  |non=>cases RV.non_.1 c;cases j;rw[a8]<;>first | exact⟨SeqAt.RcAt.int_none a t',SeqAt.RcNeAt.int_none a t'⟩ | (intros;contradiction)
  |bl b=>cases RV.bl_.1 c;cases j;rw[a8];exact⟨SeqAt.RcAt.int_bool a t' b,SeqAt.RcNeAt.int_bool a t' b⟩
  |int b=>cases RV.int_.1 c;obtain⟨t,rfl⟩:=j;rw[a8];exact⟨SeqAt.RcAt.int_int a t' b t,SeqAt.RcNeAt.int_int a t' b t⟩
  |str b=>cases RV.str_.1 c;obtain⟨t,rfl⟩:=j;rw[a8]<;>first | exact⟨SeqAt.RcAt.int_str a t' b t,SeqAt.RcNeAt.int_str a t' b t⟩ | (intros;contradiction)
  |_=>exact absurd (show false=true from g) YC
 |str a=>
  cases RV.str_.1 k;obtain⟨t',rfl⟩:=r;cases e with
  |non=>cases RV.non_.1 c;cases j;rw[a8]<;>first | exact⟨SeqAt.RcAt.str_none a t',SeqAt.RcNeAt.str_none a t'⟩ | (intros;contradiction)
  |bl b=>cases RV.bl_.1 c;cases j;rw[a8]<;>first | exact⟨SeqAt.RcAt.str_bool a t' b,SeqAt.RcNeAt.str_bool a t' b⟩ | (intros;contradiction)
  |int b=>cases RV.int_.1 c;obtain⟨t,rfl⟩:=j;rw[a8]<;>first | exact⟨SeqAt.RcAt.str_int a t' b t,SeqAt.RcNeAt.str_int a t' b t⟩ | (intros;contradiction)
  |str b=>cases RV.str_.1 c;obtain⟨t,rfl⟩:=j;rw[a8];exact⟨SeqAt.RcAt.str_str a t' b t,SeqAt.RcNeAt.str_str a t' b t⟩
  |_=>exact absurd (show false=true from g) YC
 |_=>exact absurd (show false=true from f) YC
theorem vH{A:Around}{s:Shared}{b_:Zc}{ρ:L2.St}{a:Addr}{f_:Zl}{e:D}{u:V}{g:Value}(hu:A.units<cLine)(f:lA e=true)(tp:s.heap.IsTuple a f_\/s.heap.IsList a f_)(c:RV X.K H e u)(d:RelV u g):
  (SeqAt.RcAt A s (.ref a) g false/\SeqAt.RcNeAt A s (.ref a) g true)/\(SeqAt.RcAt A s g (.ref a) false/\SeqAt.RcNeAt A s g (.ref a) true):=by
 rcases tp with tp | tp
 ·cases e with
  |non=>cases RV.non_.1 c;cases d;exact⟨⟨SeqAt.RcAt.tuple_none tp hu,SeqAt.RcNeAt.tuple_none tp hu⟩,⟨SeqAt.RcAt.none_tuple tp hu,SeqAt.RcNeAt.none_tuple tp hu⟩⟩
  |bl b=>cases RV.bl_.1 c;cases d;exact⟨⟨SeqAt.RcAt.tuple_bool b tp hu,SeqAt.RcNeAt.tuple_bool b tp hu⟩,⟨SeqAt.RcAt.bool_tuple b tp hu,SeqAt.RcNeAt.bool_tuple b tp hu⟩⟩
  |int b=>cases RV.int_.1 c;obtain⟨t,rfl⟩:=d;exact⟨⟨SeqAt.RcAt.tuple_int b t tp hu,SeqAt.RcNeAt.tuple_int b t tp hu⟩,⟨SeqAt.RcAt.int_tuple b t tp hu,SeqAt.RcNeAt.int_tuple b t tp hu⟩⟩
  |str b=>cases RV.str_.1 c;obtain⟨t,rfl⟩:=d;exact⟨⟨SeqAt.RcAt.tuple_str b t tp hu,SeqAt.RcNeAt.tuple_str b t tp hu⟩,⟨SeqAt.RcAt.str_tuple b t tp hu,SeqAt.RcNeAt.str_tuple b t tp hu⟩⟩
  |_=>exact absurd (show false=true from f) YC
 ·cases e with
  |non=>cases RV.non_.1 c;cases d;exact⟨⟨SeqAt.RcAt.list_none tp hu,SeqAt.RcNeAt.list_none tp hu⟩,⟨SeqAt.RcAt.none_list tp hu,SeqAt.RcNeAt.none_list tp hu⟩⟩
  |bl b=>cases RV.bl_.1 c;cases d;exact⟨⟨SeqAt.RcAt.list_bool b tp hu,SeqAt.RcNeAt.list_bool b tp hu⟩,⟨SeqAt.RcAt.bool_list b tp hu,SeqAt.RcNeAt.bool_list b tp hu⟩⟩
  |int b=>cases RV.int_.1 c;obtain⟨t,rfl⟩:=d;exact⟨⟨SeqAt.RcAt.list_int b t tp hu,SeqAt.RcNeAt.list_int b t tp hu⟩,⟨SeqAt.RcAt.int_list b t tp hu,SeqAt.RcNeAt.int_list b t tp hu⟩⟩
  |str b=>cases RV.str_.1 c;obtain⟨t,rfl⟩:=d;exact⟨⟨SeqAt.RcAt.list_str b t tp hu,SeqAt.RcNeAt.list_str b t tp hu⟩,⟨SeqAt.RcAt.str_list b t tp hu,SeqAt.RcNeAt.str_list b t tp hu⟩⟩
  |_=>exact absurd (show false=true from f) YC
def Ba(A:Around)(s:Shared)(v u:Value)(b:Bool):Prop:=SeqAt.RcAt A s v u b/\SeqAt.RcNeAt A s v u (!b)
theorem Jj{A:Around}{s:Shared}{b_:Zc}{ρ:L2.St}{ds es:List D}{vs us:List V}{f_ n_:Zd}{a b:Addr}(I:af X b_ ρ H s)(hd:cw ds<=30)(hu:A.units+40<cLine)(r:bo ds=true)(t:bo es=true)
  (f:aj X.K H ds vs) (g:aj X.K H es us) (k:av vs f_) (l:av us n_) (tp:s.heap.IsTuple a f_.toArray) (m:s.heap.IsTuple b n_.toArray):Ba A s (.ref a) (.ref b) (cr ds es):=by
 have l1:f_.toArray.size=ds.length:=by rw[f.len,k.length];simp
 have l2:n_.toArray.size=es.length:=by rw[g.len,l.length];simp
 have n:∀j (o:j<f_.toArray.size) (h2:j<n_.toArray.size),SeqAt.EqAt A.in1 s f_.toArray[j] n_.toArray[j] (a8 ((ds[j]?).getD .non) ((es[j]?).getD .non)):=λj o h2=>by
  obtain⟨d,v,c,w,y⟩:=jF f k o;obtain⟨e,u,p,z,B⟩:=jF g l h2;rw[c,p]
  have:=kr c
  exact yr 30 d e I (by omega) (by rw[units_in1];omega) (cK r c) (cK t p) w z y B
 have e:cr ds es=((List.range (min f_.toArray.size n_.toArray.size)).all (λj=>a8 ((ds[j]?).getD .non) ((es[j]?).getD .non))&&f_.toArray.size==n_.toArray.size):=by rw[l9,l1,l2]
 rw[e];exact⟨SeqAt.RcAt.tuples tp m (by omega) n,SeqAt.RcNeAt.tuples tp m (by omega) n⟩
theorem F5{A:Around}{s:Shared}{b_:Zc}{ρ:L2.St}{ds es:List D}{vs us:List V}{f_ n_:Zd}{a b:Addr}(I:af X b_ ρ H s)(hd:cw ds<=30)(hu:A.units+40<cLine)(t:bo ds=true)(w:bo es=true)
  (g:aj X.K H ds vs) (k:aj X.K H es us) (l:av vs f_) (m:av us n_) (tp:s.heap.IsList a f_.toArray) (c:s.heap.IsList b n_.toArray):Ba A s (.ref a) (.ref b) (cr ds es):=by
 have l1:f_.toArray.size=ds.length:=by rw[g.len,l.length];simp
 have l2:n_.toArray.size=es.length:=by rw[k.len,m.length];simp
 have n:∀j (o:j<f_.toArray.size) (h2:j<n_.toArray.size),SeqAt.EqAt A.in1 s f_.toArray[j] n_.toArray[j] (a8 ((ds[j]?).getD .non) ((es[j]?).getD .non)):=λj o h2=>by
  obtain⟨d,v,f,y,z⟩:=jF g l o;obtain⟨e,u,p,B,C⟩:=jF k m h2;rw[f,p]
  have:=kr f
  exact yr 30 d e I (by omega) (by rw[units_in1];omega) (cK t f) (cK w p) y B z C
 by_cases hl:ds.length=es.length
 ·have e:cr ds es=(List.range f_.toArray.size).all (λj=>a8 ((ds[j]?).getD .non) ((es[j]?).getD .non)):=by rw[l9,l1,hl,Nat.min_self];simp
  rw[e];exact⟨SeqAt.RcAt.lists tp c (by omega) (by omega) n,SeqAt.RcNeAt.lists tp c (by omega) (by omega) n⟩
 ·have e:cr ds es=false:=by rw[l9];simp[hl]
  rw[e];have r:(f_.toArray.size != n_.toArray.size)=true:=by rw[l1,l2];simpa using hl
  exact⟨SeqAt.RcAt.lists_lengths tp c r (by omega),SeqAt.RcNeAt.lists_lengths tp c r (by omega)⟩
theorem K1{s:Shared}{b_:Zc}{ρ:L2.St}{M:MH}{x y:D}{v u:V}{F G:Value}{Q:Bool->Prop}(I:af X b_ ρ H s)(hu:X.A.units+40<cLine)(l:RV X.K H x v)(c:RV X.K H y u)(m:RM X.K M H)(r:RelV v F)(d:RelV u G)(h:A9 x y M Q):
  ∃b,Ba X.A s F G b/\Q b:=by
 have O:aY x=true->aY y=true->dE x<=30->Q (a8 x y)->∃b,Ba X.A s F G b/\Q b:=λJ k hd q=>by
  rcases fP J with f | ⟨ds,rfl⟩
  ·rcases fP k with g | ⟨es,rfl⟩
   ·exact⟨_,D9 f g l c r d,q⟩
   ·obtain⟨b,us,rfl,sq,n⟩:=RV.tup_.1 c
    obtain⟨f_,o,tp,_⟩:=I.tuple sq;cases d;rw[(qS f).2] at q;exact⟨false,(vH (X:=X) (b_:=b_) (ρ:=ρ) (by omega) f (.inl (show s.heap.IsTuple b f_.toArray from tp)) l r).2,q⟩
  ·obtain⟨a,vs,rfl,sq,n⟩:=RV.tup_.1 l
   obtain⟨f_,o,tp,_⟩:=I.tuple sq;cases r;rcases fP k with g | ⟨es,rfl⟩
   ·rw[(qS g).1] at q
    exact⟨false,(vH (X:=X) (b_:=b_) (ρ:=ρ) (by omega) g (.inl (show s.heap.IsTuple a f_.toArray from tp)) c d).1,q⟩
   ·obtain⟨b,us,rfl,p,z⟩:=RV.tup_.1 c
    obtain⟨n_,B,j,_⟩:=I.tuple p;cases d;rw[aY] at J k;rw[dE] at hd;rw[a8] at q;exact⟨_,Jj I (by omega) hu J k n z o B (show s.heap.IsTuple a f_.toArray from tp) (show s.heap.IsTuple b n_.toArray from j),q⟩
 have L:∀{a:Addr}{w:V}{C:Value}{y:D}{xs:List D},ck (M a)=some xs->RV X.K H y w->RelV w C->aY y=true->(Ba X.A s (.ref a) C false/\Ba X.A s C (.ref a) false):=λ{a w C y xs} hl c d k=>by
  obtain⟨vs,sq,n⟩:=m.list hl;obtain⟨f_,o,tp,_⟩:=I.list sq;rcases fP k with g | ⟨es,rfl⟩
  ·have:=vH (X:=X) (b_:=b_) (ρ:=ρ) (A:=X.A) (by omega) g (.inr tp.isList) c d
   exact⟨this.1,this.2⟩
  ·obtain⟨b,us,rfl,p,z⟩:=RV.tup_.1 c
   obtain⟨n_,B,j,_⟩:=I.tuple p;cases d;have j:s.heap.IsTuple b n_.toArray:=j;exact⟨⟨SeqAt.RcAt.list_tuple tp.isList j (by omega),SeqAt.RcNeAt.list_tuple tp.isList j (by omega)⟩,⟨SeqAt.RcAt.tuple_list j tp.isList (by omega),SeqAt.RcNeAt.tuple_list j tp.isList (by omega)⟩⟩
 cases x with
 |ref a=>
  cases RV.ref_.1 l;cases r;cases y with
  |ref b=>
   cases RV.ref_.1 c;cases d;have h:match ck (M a),ck (M b) with
    |some xs,some E=>(bo xs=true/\bo E=true/\cw xs<=30)/\Q (cr xs E)
    |_,_=>False:=h
   split at h
   ·rename_i xs E t P
    obtain⟨vs,sq,n⟩:=m.list t;obtain⟨us,p,z⟩:=m.list P;obtain⟨f_,o,tp,_⟩:=I.list sq;obtain⟨n_,B,j,_⟩:=I.list p;exact⟨_,F5 I h.1.2.2 hu h.1.1 h.1.2.1 n z o B tp.isList j.isList,h.2⟩
   ·exact Yh h
  |_=>
   simp only[A9] at h;split at h
   ·rename_i xs t
    exact⟨false,(L t c d h.1).1,h.2⟩
   ·exact Yh h
 |_=>
  cases y with
  |ref b=>
   cases RV.ref_.1 c;cases d;simp only[A9] at h;split at h
   ·rename_i E t
    exact⟨false,(L t l r h.1).2,h.2⟩
   ·exact Yh h
  |_=>exact O h.1.1 h.1.2.1 h.1.2.2 h.2
def F8:D->D->MH->DK->Prop:=λx y M Q=>A9 x y M λb=>Q (.bl b) M
def F9:D->D->MH->DK->Prop:=λx y M Q=>A9 x y M λb=>Q (.bl (!b)) M
theorem K3(hu:X.A.units+40<cLine):ko X (compareOp .Eq) F8:=by
 intro x y v u H M Q c d a h b_ s ρ j k I r f;obtain⟨b,g,q⟩:=K1 I hu c d a r f h;exact g.1 _ _ _ _ ⟨.bl b,H,I,rfl,aD (RV.bl_.2 rfl) a q⟩
theorem K4(hu:X.A.units+40<cLine):ko X (compareOp .NotEq) F9:=by
 intro x y v u H M Q c d a h b_ s ρ j k I r f;obtain⟨b,g,q⟩:=K1 I hu c d a r f h;exact g.2 _ _ _ _ ⟨.bl (!b),H,I,rfl,aD (RV.bl_.2 rfl) a q⟩
end
section
variable {X:Cx}{H:Hp}{e a b c:Expr}{es:Zg}{pos:Pos}
noncomputable def uA(K:Za)(H:Hp)(ds:List D)(x:D)(y:Value):Bool:=@decide (∃d v,d∈ds/\RV K H d v/\RelV v y/\a8 d x=true) (Classical.propDecidable _)
theorem wv{b_:Zc}{ρ:L2.St}{s:Shared}{ds:List D}{x d:D}{v:V}{y:Value}(I:af X b_ ρ H s)(g:bo ds=true)(hd:d∈ds)(r:RV X.K H d v)(f:RelV v y):uA X.K H ds x y=a8 d x:=by
 have pg:∀d∈ds,aY d=true:=λd h=>let⟨i,hi⟩:=List.getElem?_of_mem h;cK g hi
 unfold uA;cases q:a8 d x with
 |true=>exact @decide_eq_true _ (Classical.propDecidable _) ⟨d,v,hd,r,f,q⟩
 |false=>
  refine @decide_eq_false _ (Classical.propDecidable _) ?_;rintro⟨d',v',Qe,r1,r2,q'⟩
  have:=L2.RelV.inj r2 f
  subst this
  have:=yq I d' d (pg d' Qe) (pg d hd) r1 r
  subst this;rw[q] at q';cases q'
theorem ww{K:Za}{x:D}{f:Value->Bool}:∀{ds:List D}{vs:List V}{f_:Zd},aj K H ds vs->av vs f_->(∀d v u,d∈ds->RV K H d v->RelV v u->f u=a8 d x)->f_.any f=ds.any λd=>a8 d x
 |[],vs,f_,r,g,_=>by
  rw[aj] at r;subst r;cases g;rfl
 |d::ds,vs,f_,r,g,h=>by
  rw[aj] at r;obtain⟨v,p,rfl,j,k⟩:=r;cases g with
  |cons l m=>rw[XD,XD,h d v _ (ZX) j l,ww k m λd' n o hd=>h d' n o (ZY _ hd)]
theorem wx{K:Za}:∀{ds:List D}{vs:List V}{f_:Zd}{y:Value},aj K H ds vs->av vs f_->y∈f_->∃d v,d∈ds/\RV K H d v/\RelV v y
 |[],vs,f_,y,r,f,hy=>by rw[aj] at r;subst r;cases f;cases hy
 |d::ds,vs,f_,y,r,f,hy=>by
  rw[aj] at r;obtain⟨v,o,rfl,g,j⟩:=r;cases f with
  |cons k l=>
   rcases ZZ.mp hy with rfl | hy
   ·exact⟨d,v,ZX,g,k⟩
   ·obtain⟨d',m,n,h2⟩:=wx j l hy
    exact⟨d',m,ZY _ n,h2⟩
def tz:D->Option Key
 |.int i=>some (.inl i)
 |.str x=>some (.inr x)
 |_=>none
theorem Bb{K:Za}{d:D}{k:Key}{v:V}(h:tz d=some k)(r:RV K H d v):v=kV k:=by
 cases d with
 |int i=>cases h;exact RV.int_.1 r
 |str i=>cases h;exact RV.str_.1 r
 |_=>cases h
def eU(d:ZC)(k:Key):Option D:=(d.find? λf=>decide (f.1=k)).map (·.2)
theorem tB{k:Key}:∀{d:ZC}{f:List (Key×V)},f.map (·.1)=d.map (·.1)->(gf f k).isSome=(eU d k).isSome
 |[],[],_=>rfl
 |[],_::_,e=>by cases e
 |_::_,[],e=>by cases e
 |(m,n)::d,(g,o)::f,e=>by
  simp only[YJ,List.cons.injEq] at e;obtain⟨j,l⟩:=e;subst j;unfold gf eU;rw[XC,XC];by_cases q:g=k
  ·simp only[YU q,Option.map_some,Option.isSome_some]
  ·simp only[ZP q]
   exact tB l
def pT:Option MO->Option (List (Key×D))
 |some (.dic d)=>some d
 |some (.rod d)=>some d
 |_=>none
theorem RM.dict{K:Za}{H:Hp}{M:MH}{a:Addr}{f:ZC}(m:RM K M H)(h:pT (M a)=some f):∃d:List (Key×V),Rd H a (.dK d)/\d.map (·.1)=f.map (·.1)/\aj K H (f.map (·.2)) (d.map (·.2)):=by
 cases e:M a with
 |none=>rw[e] at h;cases h
 |some o=>
  rw[e] at h;cases o with
  |dic xs=>cases h;obtain⟨d,q,r⟩:=m a _ e;exact⟨d,.inl q,r⟩
  |rod xs=>cases h;obtain⟨u,d,q,r⟩:=m a _ e;exact⟨d,.inr ⟨u,q⟩,r⟩
  |_=>cases h
def Bc(x:D)(ds:List D):Bool:=ds.any λd=>a8 d x
def rR{d:Type}(o:Option d)(Q:d->Prop):Prop:=match o with
 |some x=>Q x
 |none=>False
theorem yt{d:Type}{o:Option d}{Q:d->Prop}(h:rR o Q):∃x,o=some x/\Q x:=by
 cases o with
 |none=>exact Yh h
 |some x=>exact⟨x,rfl,h⟩
def Cr(x y:D)(M:MH)(Q:Bool->Prop):Prop:=match y with
 |.tup ds=>(aY x=true/\bo ds=true/\cw ds<=30)/\Q (Bc x ds)
 |.ref a=>match ck (M a) with
  |some ds=>(aY x=true/\bo ds=true/\cw ds<=30)/\Q (Bc x ds)
  |none=>rR (pT (M a)) λd=>rR (tz x) λk=>Q (eU d k).isSome
 |.str j=>match x with
  |.str i=>Q (!(Builtin.Str.occurrences j i 0 j.length 1).isEmpty)
  |_=>False
 |_=>False
theorem K5{s:Shared}{b_:Zc}{ρ:L2.St}{M:MH}{x y:D}{v u:V}{C G:Value}{Q:Bool->Prop}(I:af X b_ ρ H s)(hu:X.A.units+40<cLine)(J:RV X.K H x v)(L:RV X.K H y u)(m:RM X.K M H)(r:RelV v C)(O:RelV u G)(h:Cr x y M Q):
  ∃k,Q k/\(∀(f:Zb),(∀l,af X b_ ρ H l->f (.bool k) l)->wpAny (model X.prog X.w) X.A (compareOp .In C G) f X.xe s)/\(∀(f:Zb),(∀l,af X b_ ρ H l->f (.bool (!k)) l)->wpAny (model X.prog X.w) X.A (compareOp .NotIn C G) f X.xe s):=by
 have p:∀{ds:List D}{vs:List V}{f_:Zd},aY x=true->bo ds=true->cw ds<=30->aj X.K H ds vs->av vs f_ ->
   (∀y,y∈f_.toArray->SeqAt.EqAt X.A.in1 s y C (uA X.K H ds x y))/\f_.toArray.any (uA X.K H ds x)=Bc x ds:=λ{ds vs f_} px R hd n o=>by
  refine⟨λy hy=>?_,?_⟩
  ·obtain⟨d,w',E,h2,F⟩:=wx n o (by simpa using hy)
   rw[wv I R E h2 F];obtain⟨i,U⟩:=List.getElem?_of_mem E
   have:=kr U
   exact yr 30 d x I (by omega) (by rw[units_in1];omega) (cK R U) px h2 J F r
  ·rw[List.any_toArray]
   exact ww n o λd w' u E h2 F=>wv I R E h2 F
 cases y with
 |tup ds=>
  obtain⟨b,us,rfl,sq,n⟩:=RV.tup_.1 L;obtain⟨f_,o,tp,_⟩:=I.tuple sq;cases O;obtain⟨z,B⟩:=p h.1.1 h.1.2.1 h.1.2.2 n o;have tp:s.heap.IsTuple b f_.toArray:=tp;exact⟨_,h.2,λf q=>SeqAt.in_tupleAt _ tp z (by rw[B];exact q s I),λf q=>SeqAt.notIn_tupleAt _ tp z (by rw[B];exact q s I)⟩
 |ref b=>
  cases RV.ref_.1 L;cases O;have h:match ck (M b) with
   |some ds=>(aY x=true/\bo ds=true/\cw ds<=30)/\Q (Bc x ds)
   |none=>rR (pT (M b)) λW=>rR (tz x) λk=>Q (eU W k).isSome:=h
  split at h
  ·rename_i ds S
   obtain⟨vs,sq,n⟩:=m.list S;obtain⟨f_,o,tp,_⟩:=I.list sq;obtain⟨z,B⟩:=p h.1.1 h.1.2.1 h.1.2.2 n o;exact⟨_,h.2,λf q=>SeqAt.in_listAt _ tp.isList z (by rw[B];exact q s I),λf q=>SeqAt.notIn_listAt _ tp.isList z (by rw[B];exact q s I)⟩
  ·obtain⟨W,S,h⟩:=yt h
   obtain⟨k,e2,h⟩:=yt h;obtain⟨Y,e3,Z,_⟩:=m.dict S
   have:=Bb e2 J
   subst this;have g:nB H b (kV k) (gf Y k):=.inl ⟨Y,k,e3,rfl,rfl⟩;refine⟨_,h,λf q=>NI (by omega) I g r λl T=>?_,λf q=>IA (by omega) I g r λl T=>?_⟩
   ·rw[tB Z];exact q l T
   ·rw[tB Z];exact q l T
 |str j=>
  cases RV.str_.1 L;cases x with
  |str i=>
   cases RV.str_.1 J;obtain⟨t,rfl⟩:=r;obtain⟨t',rfl⟩:=O;exact⟨_,h,λf q=>P.in_str (q s I),λf q=>notIn_str (q s I)⟩
  |_=>exact Yh h
 |_=>exact Yh h
def Ga:qL:=λx y M Q=>Cr x y M λb=>Q (.bl b) M
def vI:qL:=λx y M Q=>Cr x y M λb=>Q (.bl (!b)) M
theorem K6(hu:X.A.units+40<cLine):ko X (compareOp .In) Ga:=by
 intro x y v u H M Q f g d h b_ s ρ m n I r j;obtain⟨b,q,k,_⟩:=K5 I hu f g d r j h;exact k _ λo l=>⟨.bl b,H,l,rfl,aD (RV.bl_.2 rfl) d q⟩
theorem Ea(hu:X.A.units+40<cLine):ko X (compareOp .NotIn) vI:=by
 intro x y v u H M Q f g d h b_ s ρ m n I r j;obtain⟨b,q,_,k⟩:=K5 I hu f g d r j h;exact k _ λo l=>⟨.bl (!b),H,l,rfl,aD (RV.bl_.2 rfl) d q⟩
def xE:D->Bool
 |.non=>true
 |_=>false
def K7:D->Bool
 |.bl _=>true
 |_=>false
def Bd:Bool->D->Bool
 |true,.bl a=>a
 |false,.bl a=>!a
 |_,_=>false
def K8(x y:D):Bool:=match y with
 |.non=>true
 |.bl _=>K7 x
 |_=>false
def Cs(x y:D):Bool:=match y with
 |.non=>xE x
 |.bl b=>Bd b x
 |_=>false
def Gb:qL:=λx y M Q=>K8 x y=true/\Q (.bl (Cs x y)) M
def vJ:qL:=λx y M Q=>K8 x y=true/\Q (.bl (!Cs x y)) M
theorem tD{K:Za}{x:D}{v:V}(r:RV K H x v):decide (v=.non)=xE x:=by
 cases x with
 |non=>cases RV.non_.1 r;rfl
 |tup ds=>obtain⟨a,xs,rfl,_⟩:=RV.tup_.1 r;rfl
 |bl _=>cases RV.bl_.1 r;rfl
 |int _=>cases RV.int_.1 r;rfl
 |str _=>cases RV.str_.1 r;rfl
 |ref _=>cases RV.ref_.1 r;rfl
 |ty _=>cases RV.ty_.1 r;rfl
theorem K9(a b:Bool):(a==b)=Bd b (.bl a):=by cases a<;>cases b<;>rfl
theorem La:ko X (compareOp .Is) Gb:=by
 intro x y v u H M Q d f g h;obtain⟨j,h2⟩:=h;cases y with
 |non=>
  cases RV.non_.1 f;exact gJ Ko ⟨rfl,by rw[tD d];exact aD (RV.bl_.2 rfl) g h2⟩
 |bl b=>
  cases x with
  |bl a=>
   cases RV.bl_.1 d;cases RV.bl_.1 f;intro b_ s ρ l m I r k;cases r;cases k;refine is_bool ?_;rw[K9];exact⟨.bl (Bd b (.bl a)),H,I,rfl,aD (RV.bl_.2 rfl) g h2⟩
  |_=>cases j
 |_=>cases j
theorem Eb:ko X (compareOp .IsNot) vJ:=by
 intro x y v u H M Q d f g h;obtain⟨j,h2⟩:=h;cases y with
 |non=>
  cases RV.non_.1 f;exact gJ Ig ⟨rfl,by rw[tD d];exact aD (RV.bl_.2 rfl) g h2⟩
 |bl b=>
  cases x with
  |bl a=>
   cases RV.bl_.1 d;cases RV.bl_.1 f;intro b_ s ρ l m I r k;cases r;cases k;refine isnot_bool ?_;rw[show(a != b) = !Bd b (.bl a) by cases a<;>cases b<;>rfl];exact⟨.bl (!Bd b (.bl a)),H,I,rfl,aD (RV.bl_.2 rfl) g h2⟩
  |_=>cases j
 |_=>cases j
def HC:D->D->MH->DK->Prop
 |.int i,.int j,M,Q=>Q (.bl (decide (i<j))) M
 |.tup [.int a,.int b],.tup [.int c,.int d],M,Q=>Q (.bl (decide (a<c\/a=c/\b<d))) M
 |_,_,_,_=>False
theorem NM(a b c d:Int):HT.lexLt [a,b] [c,d]=decide (a<c\/a=c/\b<d):=by
 rw[HT.oY,HT.oY,HT.pR];split
 ·rename_i e
  subst e;split
  ·rename_i e
   subst e;simp
  ·simp
 ·rename_i e
  simp[e]
theorem HD{K:Za}{H:Hp}{a b:Int}{vs:List V}{f_:Zd}(r:aj K H [.int a,.int b] vs)(v:av vs f_):IntsAre f_.toArray.toList [a,b]:=by
 rw[aj] at r;obtain⟨x,l,rfl,j,d⟩:=r;rw[aj] at d;obtain⟨y,f,rfl,k,g⟩:=d;rw[aj] at g;subst g;cases RV.int_.1 j;cases RV.int_.1 k;exact intsAre_of (ns:=[a,b]) v
theorem Lb(hu:X.A.units+40<cLine):ko X (compareOp .Lt) HC:=by
 intro x y v u H M Q d f k h;unfold HC at h;split at h
 ·exact uz (g:=λi j=>decide (i<j)) Me _ _ v u H _ _ d f k h
 ·obtain⟨p,us,rfl,sq,l⟩:=RV.tup_.1 d
  obtain⟨q,B,rfl,m,n⟩:=RV.tup_.1 f;intro b_ s ρ C E I r o;obtain⟨f_,t,tp,_⟩:=I.tuple sq;obtain⟨n_,w,z,_⟩:=I.tuple m;cases r;cases o;refine HT.BS tp z (HD l t) (HD n w) (by omega) ?_;rw[NM];exact⟨.bl _,H,I,rfl,aD (RV.bl_.2 rfl) k h⟩
 ·exact Yh h
def Ct:CmpOp->qL
 |.Eq=>F8
 |.NotEq=>F9
 |.Lt=>HC
 |.LtE=>D8 λi j=>decide (i<=j)
 |.Gt=>D8 λi j=>decide (j<i)
 |.GtE=>D8 λi j=>decide (j<=i)
 |.Is=>Gb
 |.IsNot=>vJ
 |.In=>Ga
 |.NotIn=>vI
theorem Be(hu:X.A.units+40<cLine)(op:CmpOp):ko X (compareOp op) (Ct op):=by
 cases op with
 |Eq=>exact K3 hu
 |NotEq=>exact K4 hu
 |Lt=>exact Lb hu
 |LtE=>exact uz Mf
 |Gt=>exact uz Mg
 |GtE=>exact uz Mh
 |Is=>exact La
 |IsNot=>exact Eb
 |In=>exact K6 hu
 |NotIn=>exact Ea hu
def xW(X:Cx):R2:=λx y H Q=>∀f d b_ s ρ v u,af X b_ ρ H s->RelV x v->RelV y u->subscripted d false v u=operate [v,u] (getItem v u)->wpAny (model X.prog X.w) X.A (subscriptTail f d v u) (EP X b_ ρ Q) X.xe s
theorem NO:xV X (xW X):=λd f b_ s σ _ _ _ v u _ I g j h k=>h d f b_ s σ v u I g j k
theorem mM{r:R2}{x y:V}{Q:VK}(h:xV X r)(q:r x y H Q):xW X x y H Q:=λd f b_ s ρ v u I g j k=>h d f b_ s ρ H x y v u Q I g j q k
theorem Jk{x y:V}{Q j:VK}(h:xW X x y H Q)(g:∀v H',Q v H'->j v H'):xW X x y H j:=λd f b_ s ρ v u I k l m=>aN (h d f b_ s ρ v u I k l m) λ_ _ ⟨v,H',n,r,q⟩=>⟨v,H',n,r,g v H' q⟩
theorem rS(hu:X.A.units+1<cLine):xV X (λx y H Q=>∃a v,x=.ref a/\nB H a y (some v)/\Q v H):=by
 intro d f b_ s σ H x y v u Q I j k h l;obtain⟨a,z,rfl,g,q⟩:=h;cases j;exact tail_any (Ab I g) PySem.F.slot_dict_getitem.lookup (DF hu I g k λo p m n=>⟨z,H,m,n,q⟩) l
theorem oo{K:Za}:∀{f:ZC}{g:List (Key×V)}{k:Key}{d:D},g.map (·.1)=f.map (·.1)->aj K H (f.map (·.2)) (g.map (·.2))->eU f k=some d->∃v,gf g k=some v/\RV K H d v
 |[],_,_,_,_,_,h=>by cases h
 |(k',d')::f,[],_,_,e,_,_=>by cases e
 |(k',d')::f,(j,l)::g,k,d,e,r,h=>by
  simp only[YJ,List.cons.injEq] at e;obtain⟨m,n⟩:=e;subst m;simp only[YJ] at r;rw[aj] at r;obtain⟨v,vs,z,o,p⟩:=r;cases z;unfold eU at h;unfold gf;rw[XC] at h ⊢;by_cases q:j=k
  ·simp only[YU q,Option.map_some] at h ⊢
   cases h;exact⟨l,rfl,o⟩
  ·simp only[ZP q] at h ⊢
   exact oo n p h
def bn{d:Type}(o:Option d)(Q:d->Prop):Prop:=match o with
 |some x=>Q x
 |none=>False
theorem bg{d:Type}{o:Option d}{Q:d->Prop}(h:bn o Q):∃x,o=some x/\Q x:=by
 cases o with
 |none=>exact Yh h
 |some x=>exact⟨x,rfl,h⟩
def HE:qL:=λx y M Q=>match x,y with
 |.tup ds,.int i=>bn (cX ds i) λd=>Q d M
 |.str z,.int i=>z.length<=sizeLine/\bn (cX z.cps.toList i) λc=>Q (.str ⟨#[c]⟩) M
 |.ref a,.int i=>match M a with
  |some (.lst ds)=>bn (cX ds i) λd=>Q d M
  |some (.rol ds)=>bn (cX ds i) λd=>Q d M
  |some (.dic f)=>bn (eU f (.inl i)) λd=>Q d M
  |some (.rod f)=>bn (eU f (.inl i)) λd=>Q d M
  |_=>False
 |.ref a,.str k=>match M a with
  |some (.dic f)=>bn (eU f (.inr k)) λd=>Q d M
  |some (.rod f)=>bn (eU f (.inr k)) λd=>Q d M
  |_=>False
 |_,_=>False
theorem yu{K:Za}{ds:List D}{vs:List V}{i:Int}{d:D}(f:aj K H ds vs)(h:cX ds i=some d):∃v,cX vs i=some v/\RV K H d v:=by
 unfold cX at h ⊢;rw[←f.len];cases q:om ds.length i with
 |none=>rw[q] at h;cases h
 |some j=>
  rw[q] at h;obtain⟨v,g,r⟩:=et f.p (show ds[j]?=some d from h);exact⟨v,g,r⟩
theorem N6(hu:X.A.units+40<cLine){x y:D}{v u:V}{M:MH}{Q:DK}(C:RV X.K H x v)(B:RV X.K H y u)(g:RM X.K M H)(h:HE x y M Q):xW X v u H (lift X.K H Q):=by
 cases x with
 |tup ds=>cases y with
  |int i=>
   obtain⟨d,f,q⟩:=bg h;obtain⟨a,vs,rfl,sq,j⟩:=RV.tup_.1 C;cases RV.int_.1 B;obtain⟨l,m,r⟩:=yu j f;exact mM Ky ⟨a,vs,i,l,rfl,rfl,sq,m,aD r g q⟩
  |_=>exact Yh h
 |str z=>cases y with
  |int i=>
   obtain⟨F,h⟩:=h;obtain⟨c,f,q⟩:=bg h;cases RV.str_.1 C;cases RV.int_.1 B;exact mM Kz ⟨z,i,c,rfl,rfl,F,f,aD (RV.str_.2 rfl) g q⟩
  |_=>exact Yh h
 |ref a=>
  cases RV.ref_.1 C;cases y with
  |int i=>
   cases RV.int_.1 B;have h:match M a with
    |some (.lst ds)=>bn (cX ds i) λd=>Q d M
    |some (.rol ds)=>bn (cX ds i) λd=>Q d M
    |some (.dic n)=>bn (eU n (.inl i)) λd=>Q d M
    |some (.rod n)=>bn (eU n (.inl i)) λd=>Q d M
    |_=>False:=h
   split at h
   ·rename_i ds o
    obtain⟨d,f,q⟩:=bg h;obtain⟨vs,m,j⟩:=g a _ o;obtain⟨l,p,r⟩:=yu j f;exact mM AR ⟨a,vs,i,l,rfl,rfl,bH.of m,p,aD r g q⟩
   ·rename_i ds o
    obtain⟨d,f,q⟩:=bg h;obtain⟨vs,m,j⟩:=g a _ o;obtain⟨l,p,r⟩:=yu j f;exact mM AR ⟨a,vs,i,l,rfl,rfl,.inl m,p,aD r g q⟩
   ·rename_i n o
    obtain⟨d,f,q⟩:=bg h;obtain⟨w,m,p,j⟩:=g a _ o;obtain⟨l,t,r⟩:=oo p j f;exact mM (rS (by omega)) ⟨a,l,rfl,by rw[←t];exact nB.k (k:=.inl i) m,aD r g q⟩
   ·rename_i n o
    obtain⟨d,f,q⟩:=bg h;obtain⟨E,w,m,p,j⟩:=g a _ o;obtain⟨l,t,r⟩:=oo p j f;exact mM (rS (by omega)) ⟨a,l,rfl,by rw[←t];exact .inl ⟨w,.inl i,.inr ⟨E,m⟩,rfl,rfl⟩,aD r g q⟩
   ·exact Yh h
  |str k=>
   cases RV.str_.1 B;have h:match M a with
    |some (.dic n)=>bn (eU n (.inr k)) λd=>Q d M
    |some (.rod n)=>bn (eU n (.inr k)) λd=>Q d M
    |_=>False:=h
   split at h
   ·rename_i n o
    obtain⟨d,f,q⟩:=bg h;obtain⟨w,m,p,j⟩:=g a _ o;obtain⟨l,t,r⟩:=oo p j f;exact mM (rS (by omega)) ⟨a,l,rfl,by rw[←t];exact nB.k (k:=.inr k) m,aD r g q⟩
   ·rename_i n o
    obtain⟨d,f,q⟩:=bg h;obtain⟨E,w,m,p,j⟩:=g a _ o;obtain⟨l,t,r⟩:=oo p j f;exact mM (rS (by omega)) ⟨a,l,rfl,by rw[←t];exact .inl ⟨w,.inr k,.inr ⟨E,m⟩,rfl,rfl⟩,aD r g q⟩
   ·exact Yh h
  |_=>exact Yh h
 |_=>exact Yh h
def ma:Expr->Bool
 |.Slice _ _ _ _=>false
 |_=>true
theorem Jl(h:ma b=true):AO b:=by
 intro o i;cases b<;>first | rfl | (exact absurd (show false=true from h) YC)
theorem Lc(hu:X.A.units+40<cLine){d f:WE}(ha:aP X a d)(hb:aP X b f)(g:ma b=true):aP X (.Subscript a b pos) (ui HE d f):=by
 intro σ M ρ H Q rs j h;refine bX (Mq NO (bJ a) (bJ b) (Jl g)) ?_;show tW X a ρ H _;refine aU (two ha hb rs j h) λv l m=>?_
 show tW X b ρ l _;refine aU m λu t n=>?_
 obtain⟨k,x,y,M2,o,p,r,q⟩:=n;exact Jk (N6 hu o p r q) λ_ _=>cq k
end
end DD
namespace HT
open PySem PySem.Spec PyProof.Rows L2
section
variable {prog:Zw}{w:World}{A:Around}{E:Zb}{s:Shared}
theorem sB{t sl:Addr}{a:Zl}{c d:Value}{lo b:Zq}{Q:Zb}(ht:IsTup s.heap t a)(f:s.heap.IsSliceOf sl c d .none)(g:IsPart c lo)(j:IsPart d b)
  (hw:a0 a.size 0 lo=0/\a0 a.size a.size b=a.size) (h:Q (.ref t) s):wpAny (model prog w) A (getItem (.ref t) (.ref sl)) Q E s:=by
 obtain⟨os,k,l,o⟩:=id f;have n:s.TypeIs (.ref sl) "slice":=⟨os,k,l⟩;unfold getItem;try with_reducible refine Yj ?_
 first | refine Yb (Yc ?_) | skip
 refine Yb (wpAny_sequenceKey ht.typeIs (by decide) ?_);refine Yb (wpAny_callSpecial?_slot (name:=Str.ofString "__getitem__") ht.typeIs PyProof.Rows.slot_tuple_getitem
  (wpAny_call_entry PyProof.Rows.slot_tuple_getitem ht.typeIs entry_tuple_getitem ?_ (args_tuple_getitem _ _)))
 show wpAny _ _ (Builtin.Tuple.tupleItemsOf (.ref t) >>= _) _ _ s;refine Yb (tupleItemsOf_ ht ?_);refine Yb (wpAny_typeOf n ?_);rw[if_pos (by decide)];refine Yb (lR f g j ?_);show wpAny _ _ (if(((a0 a.size 0 lo:Nat):Int)==0&&(1:Int)==1&&(a0 a.size a.size b-a0 a.size 0 lo)==a.size)=true then _ else _) _ _ s;rw[if_pos (by rw[hw.1,hw.2];simp)];refine Yb (m:=Builtin.Tuple.tupleIsExact _) (Yb (wpAny_typeOf ht.typeIs (Yc ?_)));rw[if_pos (by decide)];refine Yb (wpAny_rule ?_);exact Yc ⟨_,rfl,Yc h⟩
end
end HT
namespace DD
open PySem PySem.Spec PyProof.Rows L2
section
variable {X:Cx}{H:Hp}{e a b c o:Expr}{es:Zg}{pos:Pos}
theorem Ld:xU X (λx lo m H Q=>∃z,x=.str z/\z.length<=sizeLine/\Q (.str (Txt.slice z lo m)) H):=by
 intro b_ s σ H x v A B lo m sl Q I r w y n h;obtain⟨z,rfl,hz,q⟩:=h;obtain⟨t,rfl⟩:=r;obtain⟨d,f,h2,g⟩:=w;refine⟨"str",_,F.slot_str_getitem.lookup,typeIs_str _ _ _,?_⟩;cases y with
 |none=>cases n with
  |none=>exact wpAny_getItem_str_slice (l:=none) (u:=none) (st:=none) ⟨d,f,h2,g⟩ rfl (post_val_or_str ⟨ZW (Txt.slice_le z _ _) hz,λt' k=>⟨.str _,H,I.tok _,⟨t',rfl⟩,q⟩⟩)
  |int j u=>exact wpAny_getItem_str_slice (l:=none) (u:=some (j,u)) (st:=none) ⟨d,f,h2,g⟩ rfl (post_val_or_str ⟨ZW (Txt.slice_le z _ _) hz,λt' k=>⟨.str _,H,I.tok _,⟨t',rfl⟩,q⟩⟩)
 |int i p=>cases n with
  |none=>exact wpAny_getItem_str_slice (l:=some (i,p)) (u:=none) (st:=none) ⟨d,f,h2,g⟩ rfl (post_val_or_str ⟨ZW (Txt.slice_le z _ _) hz,λt' k=>⟨.str _,H,I.tok _,⟨t',rfl⟩,q⟩⟩)
  |int j u=>exact wpAny_getItem_str_slice (l:=some (i,p)) (u:=some (j,u)) (st:=none) ⟨d,f,h2,g⟩ rfl (post_val_or_str ⟨ZW (Txt.slice_le z _ _) hz,λt' k=>⟨.str _,H,I.tok _,⟨t',rfl⟩,q⟩⟩)
def Ec(X:Cx):V->Option Int->Option Int->Hp->VK->Prop:=λx lo g H Q=>∀b_ s ρ v d f sl,af X b_ ρ H s->RelV x v->s.heap.IsSliceOf sl d f .none->IsPart d lo->IsPart f g ->
 ∃T id,typeLookup (.type T) "__getitem__" = pure (some (.builtin id))/\s.TypeIs v T/\wpAny (model X.prog X.w) X.A (getItem v (.ref sl)) (EP X b_ ρ Q) X.xe s
theorem NP:xU X (Ec X):=λb_ s σ _ _ v d f _ _ sl _ I g j k l h=>h b_ s σ v d f sl I g j k l
theorem uB{r:V->Option Int->Option Int->Hp->VK->Prop}{x:V}{lo d:Zq}{Q:VK}(h:xU X r)(q:r x lo d H Q):Ec X x lo d H Q:=λb_ s ρ v f g sl I j k l m=>h b_ s ρ H x v f g lo d sl Q I j k l m q
theorem Gc{x:V}{lo d:Zq}{Q f:VK}(h:Ec X x lo d H Q)(g:∀v H',Q v H'->f v H'):Ec X x lo d H f:=λb_ s ρ v j k sl I l m n p=>
 let⟨T,id,h1,h2,h3⟩:=h b_ s ρ v j k sl I l m n p;⟨T,id,h1,h2,aN h3 λ_ _ ⟨v,H',t,r,q⟩=>⟨v,H',t,r,g v H' q⟩⟩
def cc{d:Type}(xs:List d)(lo f:Zq):List d:=(xs.drop (HT.a0 xs.length 0 lo)).take (HT.a0 xs.length xs.length f-HT.a0 xs.length 0 lo)
theorem Ed{K:Za}{ds:List D}{vs:List V}(r:aj K H ds vs)(lo d:Zq):aj K H (cc ds lo d) (nA vs lo d):=by
 unfold cc nA;rw[←r.len];exact aj.of (rK _ (AT _ r.p))
def NQ(K:Za):V->Option Int->Option Int->Hp->VK->Prop:=λx lo d H Q=>∃a xs,x=.ref a/\ca K H a xs/\(HT.a0 xs.length 0 lo=0/\HT.a0 xs.length xs.length d=xs.length)/\Q (.ref a) H
theorem Jm:xU X (NQ X.K):=by
 intro b_ s σ H x v l m lo n sl Q I d f g j h;obtain⟨a,xs,rfl,hx,hw,q⟩:=h;cases d;obtain⟨f_,r,ht,hz⟩:=I.tuple hx;have k:f_.toArray.size=xs.length:=by rw[YG];exact r.length.symm
 refine⟨"tuple",_,PyProof.Rows.slot_tuple_getitem.lookup,ht.typeIs,?_⟩;exact HT.sB ht f g j (by rw[k];exact hw) ⟨.ref a,H,I,rfl,q⟩
def Le(x:D)(lo d:Zq)(M:MH)(Q:DK):Prop:=match x with
 |.tup ds=>Q (.tup (cc ds lo d)) M
 |.str z=>z.length<=sizeLine/\Q (.str (Txt.slice z lo d)) M
 |.ref a=>bn (ck (M a)) λds=>∀p,M p=none->Q (.ref p) (ac M p (.lst (cc ds lo d)))
 |_=>False
theorem N7{x:D}{v:V}{lo d:Zq}{M:MH}{Q:DK}(j:RV X.K H x v)(f:RM X.K M H)(h:Le x lo d M Q):Ec X v lo d H (lift X.K H Q):=by
 cases x with
 |tup ds=>
  obtain⟨a,vs,rfl,sq,g⟩:=RV.tup_.1 j;by_cases hw:HT.a0 ds.length 0 lo=0/\HT.a0 ds.length ds.length d=ds.length
  ·have h:Q (.tup (cc ds lo d)) M:=h
   have e:cc ds lo d=ds:=by unfold cc;rw[hw.1,hw.2];simp
   rw[e] at h;exact uB Jm ⟨a,vs,rfl,sq,by rw[←g.len];exact hw,aD j f h⟩
  refine uB Kx ⟨a,vs,rfl,sq,by rw[←g.len];exact hw,λp hp=>?_⟩;have k:=Kp.new (o:=.tup (nA vs lo d)) hp;exact⟨k,.tup (cc ds lo d),M,RV.tup_.2 ⟨p,_,rfl,ca.of aK,aj.mono k _ (Ed g lo d)⟩,f.newH hp,h⟩
 |str z=>cases RV.str_.1 j;exact uB Ld ⟨z,rfl,h.1,aD (RV.str_.2 rfl) f h.2⟩
 |ref a=>
  cases RV.ref_.1 j;obtain⟨ds,l,q⟩:=bg h;obtain⟨vs,sq,g⟩:=f.list l;refine uB Ix ⟨a,vs,rfl,sq,λp hp=>?_⟩;have k:=Kp.new (o:=.lst (nA vs lo d)) hp;exact⟨k,.ref p,_,RV.ref_.2 rfl,f.new (m:=.lst (cc ds lo d)) hp ⟨_,aK,aj.mono k _ (Ed g lo d)⟩,q p (f.fresh hp)⟩
 |_=>exact Yh h
def intD(x:D)(Q:Int->Prop):Prop:=match x with
 |.int i=>Q i
 |_=>False
theorem rT{x:D}{Q:Int->Prop}(h:intD x Q):∃i,x=.int i/\Q i:=by
 cases x with
 |int i=>exact⟨i,rfl,h⟩
 |_=>exact Yh h
abbrev WO:=DS->MH->(Option Int->MH->Prop)->Prop
def Bf(X:Cx)(e:Option Expr):TO:=λρ H Q=>∀b_ s,af X b_ ρ H s->wpAny (model X.prog X.w) X.A (evalPart e X.env) (λu d=>∃o H',af X b_ ρ H' d/\IsPart u o/\Q o H') X.xe s
theorem Lf(e:Option Expr):PO X e (Bf X e):=λb_ s _ _ _ I h=>h b_ s I
def Ee(X:Cx)(e:Option Expr)(t:WO):Prop:=∀σ M ρ H Q,RS X.K H σ ρ->RM X.K M H->t σ M Q->Bf X e ρ H λo H'=>Kp H H'/\∃M',RM X.K M' H'/\Q o M'
theorem Gd:Ee X none (λ_ M Q=>Q none M):=λσ M ρ H Q rs d q b_ s I=>Iu b_ s ρ H _ I ⟨Kp.refl H,M,d,q⟩
theorem Ge{t:WE}(h:aP X e t):Ee X (some e) (λσ M Q=>t σ M λx M1=>intD x λi=>Q (some i) M1):=λσ M ρ H Q rs f q b_ s I=>
 Iv (bJ e) b_ s ρ H _ I (aU (h σ M ρ H _ rs f q) λv l ⟨g,x,M1,j,k,d⟩=>by
  obtain⟨i,rfl,d⟩:=rT d;exact⟨i,RV.int_.1 j,g,M1,k,d⟩)
theorem yv{e:Option Expr}{ρ:L2.St}{Q d:Option Int->Hp->Prop}(h:Bf X e ρ H Q)(f:∀o H',Q o H'->d o H'):Bf X e ρ H d:=λb_ s I=>aN (h b_ s I) λ_ _ ⟨o,H',g,r,q⟩=>⟨o,H',g,r,f o H' q⟩
def Lg(d:WE)(f g:WO):WE:=λσ M Q=>d σ M λx M1=>f σ M1 λl M2=>g σ M2 λu j=>Le x l u j Q
theorem Lh{j:WE}{k m:WO}{lo d:Option Expr}{p2:Pos}(ha:aP X a j)(hl:Ee X lo k)(t:Ee X d m):aP X (.Subscript a (.Slice lo d none p2) pos) (Lg j k m):=by
 intro σ M ρ H Q rs w h;refine bX (Fo NP (bJ a) (Lf lo) (Lf d)) ?_;show tW X a ρ H _;refine aU (ha σ M ρ H _ rs w h) λv n y=>?_
 obtain⟨f,x,M1,z,A,B⟩:=y;show Bf X lo ρ n _;refine yv (hl σ M1 ρ n _ (rs.mono f) A B) λl p C=>?_
 obtain⟨g,M2,E,F⟩:=C;show Bf X d ρ p _;refine yv (t σ M2 ρ p _ (rs.mono (f.trans g)) E F) λu K G=>?_
 obtain⟨r,L,I,J⟩:=G;exact Gc (N7 (RV.mono (g.trans r) x z) I J) λ_ _=>cq (f.trans (g.trans r))
def cW(X:Cx)(f:Value):List V->Hp->VK->Prop:=λvs H Q=>∀b_ s ρ us,af X b_ ρ H s->av vs us->wpAny (model X.prog X.w) X.A (call f us) (EP X b_ ρ Q) X.xe s
theorem MQ(f:Value):d0 X f (cW X f):=λb_ s σ _ _ us _ I r h=>h b_ s σ us I r
theorem du{f:Value}{r:List V->Hp->VK->Prop}{vs:List V}{Q:VK}(h:d0 X f r)(q:r vs H Q):cW X f vs H Q:=λb_ s ρ us I d=>h b_ s ρ H vs us Q I d q
theorem Bg{f:Value}{vs:List V}{Q d:VK}(h:cW X f vs H Q)(g:∀v H',Q v H'->d v H'):cW X f vs H d:=λb_ s ρ us I j=>aN (h b_ s ρ us I j) λ_ _ ⟨v,H',k,r,q⟩=>⟨v,H',k,r,g v H' q⟩
def fQ(X:Cx)(f:Value)(r:az):Prop:=∀ds vs H M Q,aj X.K H ds vs->RM X.K M H->r ds M Q->cW X f vs H (lift X.K H Q)
theorem kt{x:Str}{id:String}{r:az}{t:WA}{p:Pos}(hc:fQ X (.builtin id) r)(hg:Gl X x)(hm:X.mg x=none)(d:bootBuiltins x=some (.builtin id))(hn:x ≠ "__name__")(f:(x==("__debug__" : Str))=false)(g:ay e=true)(j:es.all ay=true)
  (ha:ip X (e::es) t):aP X (.Call (.Name x p) (e::es) [] pos) (gK r t):=by
 intro σ M ρ H Q rs k h;refine bX (Fk (MQ _) hg hm d (o3 (e::es)) hn f (bI g) (dX j)) ?_;show mK X (e::es) ρ H _;refine d3 (ha σ M ρ H _ rs k h) λvs l m=>?_
 obtain⟨n,ds,M1,u,_,w,y⟩:=m;exact Bg (hc ds vs l M1 Q u w y) λ_ _=>cq n
theorem lB{x:Str}{id:String}{r:az}{t:WA}{p:Pos}(hc:fQ X (.type id) r)(hg:Gl X x)(hm:X.mg x=none)(d:bootBuiltins x=some (.type id))(hn:x ≠ "__name__")(f:(x==("__debug__" : Str))=false)(g:ay e=true)(j:es.all ay=true)
  (ha:ip X (e::es) t):aP X (.Call (.Name x p) (e::es) [] pos) (gK r t):=by
 intro σ M ρ H Q rs k h;refine bX (Dz (MQ _) hg hm d (o3 (e::es)) hn f (bI g) (dX j)) ?_;show mK X (e::es) ρ H _;refine d3 (ha σ M ρ H _ rs k h) λvs l m=>?_
 obtain⟨n,ds,M1,u,_,w,y⟩:=m;exact Bg (hc ds vs l M1 Q u w y) λ_ _=>cq n
theorem dF{K:Za}{d:D}{vs:List V}(r:aj K H [d] vs):∃v,vs=[v]/\RV K H d v:=by
 rw[aj] at r;obtain⟨v,j,rfl,g,f⟩:=r;rw[aj] at f;subst f;exact⟨v,rfl,g⟩
theorem Cu{K:Za}{d d':D}{vs:List V}(r:aj K H [d,d'] vs):∃v f,vs=[v,f]/\RV K H d v/\RV K H d' f:=by
 rw[aj] at r;obtain⟨v,l,rfl,g,j⟩:=r;obtain⟨f,rfl,k⟩:=dF j;exact⟨v,f,rfl,g,k⟩
def Cv:az:=λds M Q=>match ds with
 |[.str z]=>z.length<=sizeLine/\Q (.int z.length) M
 |[.tup xs]=>Q (.int xs.length) M
 |[.ref a]=>match M a with
  |some (.lst xs)=>Q (.int xs.length) M
  |some (.rol xs)=>Q (.int xs.length) M
  |some (.dic d)=>Q (.int d.length) M
  |some (.rod d)=>Q (.int d.length) M
  |_=>False
 |_=>False
theorem Ef:d0 X (.builtin "len") (λxs H Q=>∃a d,xs=[V.ref a]/\Rd H a (.dK d)/\Q (.int d.length) H):=by
 rintro b_ s σ H xs us Q I r ⟨a,d,rfl,ha,q⟩;obtain⟨u,rfl,f⟩:=vals1 r;cases f;exact Hw I ha λt j g=>⟨.int d.length,H,g,⟨t,rfl⟩,q⟩
theorem Li:fQ X (.builtin "len") Cv:=by
 intro ds vs H M Q r d h;unfold Cv at h;split at h
 ·obtain⟨v,rfl,j⟩:=dF r
  cases RV.str_.1 j;exact du xY ⟨_,rfl,h.1,aD (RV.int_.2 rfl) d h.2⟩
 ·obtain⟨v,rfl,j⟩:=dF r
  obtain⟨a,us,rfl,sq,f⟩:=RV.tup_.1 j;exact du lS ⟨a,us,rfl,.inr sq,aD (RV.int_.2 (by rw[f.len])) d h⟩
 ·obtain⟨v,rfl,j⟩:=dF r
  cases RV.ref_.1 j;split at h
  ·rename_i xs g
   obtain⟨us,sq,f⟩:=d _ _ g;exact du lS ⟨_,us,rfl,.inl (bH.of sq),aD (RV.int_.2 (by rw[f.len])) d h⟩
  ·rename_i xs g
   obtain⟨us,sq,f⟩:=d _ _ g;exact du lS ⟨_,us,rfl,.inl (.inl sq),aD (RV.int_.2 (by rw[f.len])) d h⟩
  ·rename_i n g
   obtain⟨k,l,m,f⟩:=d _ _ g;exact du DJ ⟨_,k,rfl,l,aD (RV.int_.2 (by have:=congrArg List.length m;simp only[ZF] at this;rw[this])) d h⟩
  ·rename_i n g
   obtain⟨p,k,l,m,f⟩:=d _ _ g;exact du Ef ⟨_,k,rfl,.inr ⟨p,l⟩,aD (RV.int_.2 (by have:=congrArg List.length m;simp only[ZF] at this;rw[this])) d h⟩
  ·exact Yh h
 ·exact Yh h
def dG(x:D)(M:MH):Option String:=match x with
 |.non=>some "NoneType"
 |.bl _=>some "bool"
 |.int _=>some "int"
 |.str _=>some "str"
 |.tup _=>some "tuple"
 |.ref a=>match M a with
  |some (.lst _)=>some "list"
  |some (.dic _)=>some "dict"
  |_=>none
 |.ty _=>none
def uC(t T:String):Bool:=t==T||(t == "bool" && T == "int")
def kinds:List String:=["NoneType","bool","int","str","tuple","list","dict"]
theorem Eg:∀t∈kinds,∀T∈kinds,T ≠ "NoneType"->(if(Value.type t==Value.type T)=true then some true else if PySem.W.kitMeta T=true then(fastBuiltinMro t).map (·.contains (.type T)) else none)=some (uC t T):=by rfl'
def yw:List D->Option (List String)
 |[]=>some []
 |.ty T::r=>(yw r).map (T :: ·)
 |_=>none
def Cw(T:String):Bool:=kinds.contains T&&T != "NoneType"
def rV:az:=λds M Q=>match ds with
 |[x,.ty T]=>(T∈kinds/\T ≠ "NoneType")/\bn (dG x M) λt=>Q (.bl (uC t T)) M
 |[x,.tup ts]=>bn (yw ts) λd=>d.all Cw=true/\bn (dG x M) λt=>Q (.bl (d.any (uC t))) M
 |_=>False
theorem Bh{K:Za}:∀{ts:List D}{d:List String}{vs:List V},yw ts=some d->aj K H ts vs->vs=d.map V.ty
 |[],d,vs,h,r=>by cases h;rw[aj] at r;subst r;rfl
 |.ty T::ts,d,vs,h,r=>by
  rw[yw] at h;rw[aj] at r;obtain⟨v,j,rfl,f,g⟩:=r;cases q:yw ts with
  |none=>rw[q] at h;cases h
  |some k=>rw[q] at h;cases h;rw[Bh q g,RV.ty_.1 f];rfl
 |.non::_,_,_,h,_=>by cases h
 |.bl _::_,_,_,h,_=>by cases h
 |.int _::_,_,_,h,_=>by cases h
 |.str _::_,_,_,h,_=>by cases h
 |.tup _::_,_,_,h,_=>by cases h
 |.ref _::_,_,_,h,_=>by cases h
theorem wy{K:Za}{t:String}(ht:t∈kinds):∀{d:List String}{us:Zd},d.all Cw=true->av (d.map V.ty) us->PySem.W.kitAny K (.type t) us=some (d.any (uC t))
 |[],_,_,r=>by cases r;rfl
 |T::d,_,h,r=>by
  cases r with
  |cons f j=>
   rw[XN,YX] at h;cases f;have g:=h.1;unfold Cw at g;rw[YX] at g;have k:=DQ K (Eg t ht T (by simpa using g.1) (by simpa using g.2));unfold PySem.W.kitAny;rw[k,XD];cases uC t T with
   |true=>rfl
   |false=>exact wy ht h.2 j
theorem yx{x:D}{M:MH}{t:String}(h:dG x M=some t):t∈kinds:=by
 cases x with
 |ref a=>
  have h:(match M a with
   |some (.lst _)=>some "list"
   |some (.dic _)=>some "dict"
   |_=>none)=some t:=h
  split at h<;>first | (cases h;decide) | cases h
 |ty _=>cases h
 |_=>cases h;decide
theorem Gf{s:Shared}{b_:Zc}{ρ:L2.St}{M:MH}{x:D}{v:V}{g c:Value}{t:String}{k:Bool}{Q:Zb}(I:af X b_ ρ H s)(d:RV X.K H x v)(j:RM X.K M H)(r:RelV v g)(h:dG x M=some t)(e:PySem.W.kitOne X.K (.type t) c=some k)
  (hq:∀tk,Q (.bool k) { s with toks:=tk }):wpAny (model X.prog X.w) X.A (call (.builtin "isinstance") [g,c]) Q X.xe s:=by
 cases x with
 |non=>cases h;cases RV.non_.1 d;exact im I r .non e hq
 |bl b=>cases h;cases RV.bl_.1 d;exact im I r (.bl b) e hq
 |int b=>cases h;cases RV.int_.1 d;exact im I r (.int b) e hq
 |str b=>cases h;cases RV.str_.1 d;exact im I r (.str b) e hq
 |ty b=>cases h
 |tup ds=>
  cases h;obtain⟨a,xs,rfl,sq,l⟩:=RV.tup_.1 d;obtain⟨_,_,tp,_⟩:=I.tuple sq;cases r;obtain⟨o,m,h2,_⟩:=tp;exact PySem.W.kia_one PySem.W.kitx_tuple I.kIn ⟨o,m,h2⟩ e (λz=>nomatch z) hq
 |ref a=>
  cases RV.ref_.1 d;have h:(match M a with
   |some (.lst _)=>some "list"
   |some (.dic _)=>some "dict"
   |_=>none)=some t:=h
  split at h
  ·rename_i f;cases h
   obtain⟨us,sq,l⟩:=j _ _ f;exact im I r (.lst sq) e hq
  ·rename_i f;cases h
   obtain⟨us,sq,_⟩:=j _ _ f;exact im I r (.dK sq) e hq
  ·cases h
theorem Gg{s:Shared}{b_:Zc}{ρ:L2.St}{M:MH}{x:D}{v:V}{m:Value}{t:String}{k:Bool}{tp:Addr}{us:Zd}{Q:Zb}(I:af X b_ ρ H s)(f:RV X.K H x v)(p:RM X.K M H)(r:RelV v m)(h:dG x M=some t)
  (ht:IsTup s.heap tp us.toArray) (e:PySem.W.kitAny X.K (.type t) us=some k) (hq:∀tk,Q (.bool k) { s with toks:=tk }):wpAny (model X.prog X.w) X.A (call (.builtin "isinstance") [m,.ref tp]) Q X.xe s:=by
 obtain⟨⟨oc,od,u,G'⟩,d,h2,n,y⟩:=ht;obtain rfl:oc=.type "tuple":=h2;obtain rfl:u=.seq us.toArray n:=y;cases x with
 |non=>cases h;cases RV.non_.1 f;cases r;exact PySem.W.kia_tup PySem.W.kitx_none I.kIn True.intro d e (λz=>nomatch z) hq
 |bl b=>cases h;cases RV.bl_.1 f;cases r;exact PySem.W.kia_tup PySem.W.kitx_bool I.kIn True.intro d e (λz=>nomatch z) hq
 |int b=>cases h;cases RV.int_.1 f;obtain⟨_,rfl⟩:=r;exact PySem.W.kia_tup PySem.W.kitx_int I.kIn True.intro d e (λz=>nomatch z) hq
 |str b=>cases h;cases RV.str_.1 f;obtain⟨_,rfl⟩:=r;exact PySem.W.kia_tup PySem.W.kitx_str I.kIn True.intro d e (λz=>nomatch z) hq
 |ty b=>cases h
 |tup ds=>
  cases h;obtain⟨a,xs,rfl,sq,B⟩:=RV.tup_.1 f;obtain⟨_,_,⟨o,g,j,_⟩,_⟩:=I.tuple sq;cases r;exact PySem.W.kia_tup PySem.W.kitx_tuple I.kIn ⟨o,g,j⟩ d e (λz=>nomatch z) hq
 |ref a=>
  cases RV.ref_.1 f;cases r;have h:(match M a with
   |some (.lst _)=>some "list"
   |some (.dic _)=>some "dict"
   |_=>none)=some t:=h
  split at h
  ·rename_i l;cases h
   obtain⟨C,sq,B⟩:=p _ _ l;obtain⟨_,_,_,_,_,g⟩:=I.lstM sq;exact PySem.W.kia_tup PySem.W.kitx_list I.kIn ⟨_,g,rfl⟩ d e (λz=>nomatch z) hq
  ·rename_i l;cases h
   obtain⟨C,sq,_⟩:=p _ _ l;obtain⟨_,_,_,_,o,es,E,g,j,_⟩:=Hv I.hok sq;exact PySem.W.kia_tup PySem.W.kitx_dict I.kIn ⟨o,g,j.1⟩ d e (λz=>nomatch z) hq
  ·cases h
theorem Eh:fQ X (.builtin "isinstance") rV:=by
 intro ds vs H M Q r f h;unfold rV at h;split at h
 ·rename_i x T
  obtain⟨v,p,rfl,g,j⟩:=Cu r;cases RV.ty_.1 j;obtain⟨t,d,q⟩:=bg h.2;intro b_ s ρ us I k;obtain⟨u,w,rfl,l,m⟩:=k.two;cases m;exact Gf I g f l d (DQ X.K (Eg t (yx d) T h.1.1 h.1.2)) λtk=>⟨.bl _,H,I.tok tk,rfl,aD (RV.bl_.2 rfl) f q⟩
 ·rename_i x ts
  obtain⟨v,p,rfl,g,j⟩:=Cu r;obtain⟨A,y,h⟩:=bg h;obtain⟨t,d,q⟩:=bg h.2;obtain⟨tp,xs,rfl,sq,z⟩:=RV.tup_.1 j;intro b_ s ρ us I k;obtain⟨u,w,rfl,l,m⟩:=k.two;cases m;obtain⟨f_,n,ht,_⟩:=I.tuple sq;rw[Bh y z] at n;exact Gg I g f l d ht (wy (yx d) h.1 n) λtk=>⟨.bl _,H,I.tok tk,rfl,aD (RV.bl_.2 rfl) f q⟩
 ·exact Yh h
def tE:List D->Option (List Bool)
 |[]=>some []
 |.bl b::r=>(tE r).map (b :: ·)
 |_=>none
theorem Bl{K:Za}:∀{ds:List D}{bs:List Bool}{vs:List V},tE ds=some bs->aj K H ds vs->vs=bs.map V.bl
 |[],bs,vs,h,r=>by rw[aj] at r;subst r;cases h;rfl
 |.bl b::ds,bs,vs,h,r=>by
  rw[aj] at r;obtain⟨v,j,rfl,d,f⟩:=r;cases RV.bl_.1 d;unfold tE at h;cases q:tE ds with
  |none=>rw[q] at h;cases h
  |some g=>rw[q] at h;cases h;rw[Bl q f];rfl
def Cy(f:List Bool->Bool):az:=λds M Q=>match ds with
 |[.ref a]=>match M a with
  |some (.lst xs)=>bn (tE xs) λbs=>Q (.bl (f bs)) M
  |_=>False
 |_=>False
theorem Lj(hc:X.calm=true):fQ X (.builtin "all") (Cy λbs=>bs.all id):=by
 intro ds vs H M Q r d h;unfold Cy at h;split at h
 ·obtain⟨v,rfl,f⟩:=dF r
  cases RV.ref_.1 f;split at h
  ·rename_i xs g
   obtain⟨bs,j,q⟩:=bg h;obtain⟨us,sq,k⟩:=d _ _ g
   have:=Bl j k
   subst this;exact du (Fv hc) ⟨_,bs,rfl,bH.of sq,aD (RV.bl_.2 rfl) d q⟩
  ·exact Yh h
 ·exact Yh h
def HF(f:Int->Int->Int):az:=λds M Q=>match ds with
 |[.int i,.int j]=>Q (.int (f i j)) M
 |_=>False
theorem Lk(hc:X.calm=true):fQ X (.builtin "min") (HF λi j=>if j<i then j else i):=by
 intro ds vs H M Q r d h;unfold HF at h;split at h
 ·obtain⟨v,k,rfl,f,g⟩:=Cu r
  cases RV.int_.1 f;cases RV.int_.1 g;exact du (Dv hc) ⟨_,_,rfl,aD (RV.int_.2 rfl) d h⟩
 ·exact Yh h
def Cz:az:=λds M Q=>match ds with
 |[.int i]=>Q (.int i) M
 |[.bl k]=>Q (.int (if k then 1 else 0)) M
 |_=>False
theorem Ll:fQ X (.type "int") Cz:=by
 intro ds vs H M Q r f h;unfold Cz at h;split at h
 ·obtain⟨v,rfl,d⟩:=dF r
  cases RV.int_.1 d;exact du we (.inl ⟨_,rfl,aD (RV.int_.2 rfl) f h⟩)
 ·obtain⟨v,rfl,d⟩:=dF r
  cases RV.bl_.1 d;exact du we (.inr ⟨_,rfl,aD (RV.int_.2 rfl) f h⟩)
 ·exact Yh h
def uD:az:=λds M Q=>match ds with
 |[.tup xs]=>Q (.tup xs) M
 |[.ref a]=>bn (ck (M a)) λxs=>Q (.tup xs) M
 |_=>False
theorem Gh:fQ X (.type "tuple") uD:=by
 intro ds vs H M Q r f h;unfold uD at h;split at h
 ·obtain⟨v,rfl,d⟩:=dF r
  obtain⟨a,us,rfl,sq,g⟩:=RV.tup_.1 d;exact du pS ⟨a,us,rfl,.inr ⟨sq,aD d f h⟩⟩
 ·obtain⟨v,rfl,d⟩:=dF r
  cases RV.ref_.1 d;obtain⟨xs,j,q⟩:=bg h;obtain⟨us,sq,g⟩:=f.list j;refine du pS ⟨_,us,rfl,.inl ⟨sq,λp hp=>?_⟩⟩;have k:=Kp.new (o:=.tup us) hp;exact⟨k,.tup xs,M,RV.tup_.2 ⟨p,_,rfl,ca.of aK,aj.mono k _ g⟩,f.newH hp,q⟩
 ·exact Yh h
def rW:az:=λds M Q=>match ds with
 |[.tup xs]=>∀p,M p=none->Q (.ref p) (ac M p (.lst xs))
 |[.ref a]=>bn (ck (M a)) λxs=>∀p,M p=none->Q (.ref p) (ac M p (.lst xs))
 |_=>False
theorem Bm:fQ X (.type "list") rW:=by
 intro ds vs H M Q r d h;unfold rW at h;split at h
 ·rename_i xs
  obtain⟨v,rfl,f⟩:=dF r;obtain⟨a,us,rfl,sq,g⟩:=RV.tup_.1 f;refine du qH ⟨a,us,rfl,.inr sq,λp hp=>?_⟩;have k:=Kp.new (o:=.lst us) hp;exact⟨k,.ref p,_,RV.ref_.2 rfl,d.new (m:=.lst xs) hp ⟨us,aK,aj.mono k _ g⟩,h p (d.fresh hp)⟩
 ·obtain⟨v,rfl,f⟩:=dF r
  cases RV.ref_.1 f;obtain⟨xs,j,q⟩:=bg h;obtain⟨us,sq,g⟩:=d.list j;refine du qH ⟨_,us,rfl,.inl sq,λp hp=>?_⟩;have k:=Kp.new (o:=.lst us) hp;exact⟨k,.ref p,_,RV.ref_.2 rfl,d.new (m:=.lst xs) hp ⟨us,aK,aj.mono k _ g⟩,q p (d.fresh hp)⟩
 ·exact Yh h
def CB:az:=λds M Q=>match ds with
 |[.int i]=>i.natAbs.log2<1920/\Q (.str (toString i)) M
 |[.str z]=>Q (.str z) M
 |_=>False
theorem yy:d0 X (.type "str") (λxs H Q=>∃z,xs=[.str z]/\Q (.str z) H):=by
 intro b_ s σ H xs us Q I r h;obtain⟨z,rfl,q⟩:=h;obtain⟨u,rfl,d⟩:=r.one;obtain⟨t,rfl⟩:=d;exact P.str_of_str ⟨.str z,H,I,⟨t,rfl⟩,q⟩
theorem Lm:fQ X (.type "str") CB:=by
 intro ds vs H M Q r f h;unfold CB at h;split at h
 ·obtain⟨v,rfl,d⟩:=dF r
  cases RV.int_.1 d;exact du xR ⟨_,rfl,h.1,aD (RV.str_.2 rfl) f h.2⟩
 ·obtain⟨v,rfl,d⟩:=dF r
  cases RV.str_.1 d;exact du yy ⟨_,rfl,aD (RV.str_.2 rfl) f h⟩
 ·exact Yh h
inductive Bi where
 |len | isinst | all | min | tuple | str
 deriving DecidableEq
def Ln:Bi->az
 |.len=>Cv
 |.isinst=>rV
 |.all=>Cy λbs=>bs.all id
 |.min=>HF λi j=>if j<i then j else i
 |.tuple=>uD
 |.str=>CB
def uE:Bi->Str
 |.len=>"len"
 |.isinst=>"isinstance"
 |.all=>"all"
 |.min=>"min"
 |.tuple=>"tuple"
 |.str=>"str"
theorem Lo(b:Bi)(hc:X.calm=true){t:WA}{p:Pos}(hg:Gl X (uE b))(hm:X.mg (uE b)=none)(d:ay e=true)(f:es.all ay=true)(ha:ip X (e::es) t):aP X (.Call (.Name (uE b) p) (e::es) [] pos) (gK (Ln b) t):=by
 cases b with
 |len=>exact kt Li hg hm PySem.boot_len (by decide) (by decide) d f ha
 |isinst=>exact kt Eh hg hm PyProof.Rows.boot_isinstance (by decide) (by decide) d f ha
 |all=>exact kt (Lj hc) hg hm (by rfl') (by decide) (by decide) d f ha
 |min=>exact kt (Lk hc) hg hm PyProof.Rows.boot_min (by decide) (by decide) d f ha
 |tuple=>exact lB Gh hg hm (by rfl') (by decide) (by decide) d f ha
 |str=>exact lB Lm hg hm (by rfl') (by decide) (by decide) d f ha
end
section
variable {X:Cx}{H:Hp}{e a b c o:Expr}{es:Zg}{pos:Pos}
def ce:Expr->Bool
 |.Call (.Name _ _) [] [] _=>false
 |_=>true
theorem rX{env:Env}{f:Str}{w:Sem Value}(h:ce o=true):attributeBase o f env w=w:=by
 unfold attributeBase;split
 ·exact absurd (show false=true from h) YC
 ·rfl
theorem tF{env:Env}{p:Pos}:∀{es:Zg},es.all ay=true->(backTo p (starEach es env)).all (λx=>!x.1)=true
 |[],_=>rfl
 |e::es,h=>by
  rw[XN,YX] at h;rw[bI h.1];show(true&&(backTo p (starEach es env)).all (λx=>!x.1))=true;rw[tF h.2];rfl
def mW(X:Cx)(id:String):V->List V->Hp->VK->Prop:=λx xs H Q=>∀b_ s ρ v us,af X b_ ρ H s->RelV x v->av xs us->wpAny (model X.prog X.w) X.A (call (.builtin id) (v::us)) (EP X b_ ρ Q) X.xe s
theorem MR(id:String):AQ X id (mW X id):=λb_ s σ _ _ _ v us _ I r d h=>h b_ s σ v us I r d
theorem rY{id:String}{r:V->List V->Hp->VK->Prop}{x:V}{xs:List V}{Q:VK}(h:AQ X id r)(q:r x xs H Q):mW X id x xs H Q:=λb_ s ρ v us I d f=>h b_ s ρ H x xs v us Q I d f q
theorem Bn{id:String}{x:V}{xs:List V}{Q d:VK}(h:mW X id x xs H Q)(g:∀v H',Q v H'->d v H'):mW X id x xs H d:=λb_ s ρ v us I f j=>aN (h b_ s ρ v us I f j) λ_ _ ⟨v,H',k,r,q⟩=>⟨v,H',k,r,g v H' q⟩
abbrev qT:=D->List D->MH->DK->Prop
def yz(X:Cx)(id:String)(r:qT):Prop:=∀x ds v vs H M Q,RV X.K H x v->aj X.K H ds vs->RM X.K M H->r x ds M Q->mW X id v vs H (lift X.K H Q)
inductive Rc where
 |str | lst | dic | int
def CC:Rc->D->MH->Prop
 |.str,.str _,_=>True
 |.int,.int _,_=>True
 |.lst,.ref a,M=>(ck (M a)).isSome=true
 |.dic,.ref a,M=>match M a with
  |some (.dic _)=>True
  |_=>False
 |_,_,_=>False
def Ei:Rc->String
 |.str=>"str"
 |.lst=>"list"
 |.dic=>"dict"
 |.int=>"int"
theorem Bo{K:Za}{M:MH}{c:Rc}{x:D}{v:V}(r:RV K H x v)(m:RM K M H)(h:CC c x M):Hs K (Ei c) v H:=by
 cases c with
 |int=>cases x with
  |int z=>cases RV.int_.1 r;rfl
  |_=>exact Yh h
 |str=>cases x with
  |str z=>cases RV.str_.1 r;rfl
  |_=>exact Yh h
 |lst=>cases x with
  |ref a=>
   cases RV.ref_.1 r;obtain⟨ds,e⟩:=Option.isSome_iff_exists.mp h;obtain⟨vs,sq,_⟩:=m.list e;exact .inl ⟨rfl,vs,sq⟩
  |_=>exact Yh h
 |dic=>cases x with
  |ref a=>
   cases RV.ref_.1 r;have h:match M a with
    |some (.dic _)=>True
    |_=>False:=h
   split at h
   ·rename_i e
    obtain⟨d,q,_⟩:=m a _ e;exact .inr (.inr (.inl ⟨rfl,.inl ⟨d,q⟩⟩))
   ·exact Yh h
  |_=>exact Yh h
def yA(c:Rc)(r:qT)(d:WE)(t:WA):WE:=λσ M Q=>d σ M λx M1=>CC c x M1/\t σ M1 λds M2=>r x ds M2 Q
theorem qU{c:Rc}{name:Str}{id:String}{r:qT}{d:WE}{t:WA}{o_:Pos}(u:PlainAttrs (Ei c))(slot:Slot (Ei c) name id)(w:typeOf (.builtin id)=pure (.type "method_descriptor"))(hm:yz X id r)(y:aP X o d)(ha:ip X (e::es) t)
  (hb:ce o=true) (f:ay e=true) (g:es.all ay=true) (hl:es.length<20) (z:(o_.endLine==pos.line)=true):aP X (.Call (.Attribute o name o_) (e::es) [] pos) (yA c r d t):=by
 intro σ M ρ H Q rs A h;refine bX (Ms u slot w (MR id) (bJ o) (o3 (e::es)) (rX hb) ?_ z (bI f) (dX g)) ?_
 ·rw[tF (es:=e::es) (by rw[XN,f,g];rfl)]
  show(true&&true&&decide ((e::es).length+0+0<30))=true;rw[Bool.and_self,Bool.true_and];exact YU (by rw[YH];omega)
 ·show tW X o ρ H _
  refine aU (y σ M ρ H _ rs A h) λv j B=>?_
  obtain⟨k,x,M1,l,m,n⟩:=B;refine⟨Bo l m n.1,?_⟩;show mK X (e::es) ρ j _;refine d3 (ha σ M1 ρ j _ (rs.mono k) m n.2) λvs C E=>?_
  obtain⟨p,ds,M2,F,_,G,I⟩:=E;exact Bn (hm x ds v vs C M2 Q (RV.mono p x l) F G I) λ_ _=>cq (k.trans p)
theorem oq{c:Rc}{name:Str}{id:String}{r:qT}{d:WE}{o_:Pos}(k:PlainAttrs (Ei c))(slot:Slot (Ei c) name id)(l:typeOf (.builtin id)=pure (.type "method_descriptor"))(hm:yz X id r)(m:aP X o d)
  (hb:ce o=true) (n:(o_.endLine==pos.line)=true):aP X (.Call (.Attribute o name o_) [] [] pos) (yA c r d qM):=by
 intro σ M ρ H Q rs p h;refine bX (KA k slot l (MR id) (bJ o) (rX hb) n) ?_;show tW X o ρ H _;refine aU (m σ M ρ H _ rs p h) λv t u=>?_
 obtain⟨w,x,M1,f,g,j⟩:=u;refine⟨Bo f g j.1,?_⟩;exact Bn (hm x [] v [] t M1 Q f aj.nil g j.2) λ_ _=>cq w
def rZ:qT:=λx ds M Q=>match x,ds with
 |.ref a,[d]=>match M a with
  |some (.lst xs)=>xs.length<sizeLine/\Q .non (ac M a (.lst (xs++[d])))
  |_=>False
 |_,_=>False
theorem wz:yz X "list.append" rZ:=by
 intro x ds v vs H M Q l r f h;unfold rZ at h;split at h
 ·rename_i a d
  obtain⟨g,rfl,n⟩:=dF r;cases RV.ref_.1 l;split at h
  ·rename_i xs t
   obtain⟨us,sq,j⟩:=f _ _ t;have k:=Kp.put (o':=.lst (us++[g])) sq trivial;exact rY DC ⟨a,us,g,rfl,rfl,sq,by rw[←j.len];exact h.1,k,.non,_,RV.non_.2 rfl,f.put (m:=.lst (xs++[d])) sq trivial ⟨_,aK,aj.of (bA (aj.mono k _ j).p (.cons (RV.mono k _ n) .nil))⟩,h.2⟩
  ·exact Yh h
 ·exact Yh h
def r0:qT:=λx ds M Q=>match x,ds with
 |.ref a,[.ref b]=>match M a,M b with
  |some (.lst xs),some (.lst d)=>xs.length+d.length<=sizeLine/\Q .non (ac M a (.lst (xs++d)))
  |_,_=>False
 |_,_=>False
theorem wA:yz X "list.extend" r0:=by
 intro x ds v vs H M Q l r d h;unfold r0 at h;split at h
 ·rename_i a b
  obtain⟨z,rfl,n⟩:=dF r;cases RV.ref_.1 l;cases RV.ref_.1 n;split at h
  ·rename_i xs t u w
   obtain⟨us,sq,f⟩:=d _ _ u;obtain⟨g,y,j⟩:=d _ _ w;have k:=Kp.put (o':=.lst (us++g)) sq trivial;exact rY DE ⟨a,b,us,g,rfl,rfl,sq,y,by rw[←f.len,←j.len];exact h.1,k,.non,_,RV.non_.2 rfl,d.put (m:=.lst (xs++t)) sq trivial ⟨_,aK,aj.of (bA (aj.mono k _ f).p (aj.mono k _ j).p)⟩,h.2⟩
  ·exact Yh h
 ·exact Yh h
def uF:qT:=λx ds M Q=>match x,ds with
 |.str z,[]=>z.length<=5592405/\((Txt.upper z).length<=3*z.length->Q (.str (Txt.upper z)) M)
 |_,_=>False
theorem yB:yz X "str.upper" uF:=by
 intro x ds v vs H M Q d r f h;unfold uF at h;split at h
 ·cases RV.str_.1 d
  rw[aj] at r;subst r;exact rY Fw ⟨_,rfl,rfl,h.1,λhl=>aD (RV.str_.2 rfl) f (h.2 hl)⟩
 ·exact Yh h
theorem yC{d f:Type}{F:d->f->Prop}:∀{l:List d}{m:List f}(i:Nat),Paired F l m->Paired F (l.eraseIdx i) (m.eraseIdx i)
 |_,_,_,.nil=>.nil
 |_,_,0,.cons _ t=>t
 |_,_,i+1,.cons q t=>.cons q (yC i t)
theorem Ad{d f:Type}{F:d->f->Prop}{l:List d}{m:List f}(h:Paired F l m):Paired F l.dropLast m.dropLast:=by
 rw[List.dropLast_eq_take,List.dropLast_eq_take,←km h];exact rK _ h
def CD:qT:=λx ds M Q=>match x,ds with
 |.ref a,[.int i]=>match M a with
  |some (.lst xs)=>(0<=i/\i<1000000)/\bn xs[i.toNat]? λd=>Q d (ac M a (.lst (xs.eraseIdx i.toNat)))
  |_=>False
 |.ref a,[]=>match M a with
  |some (.lst xs)=>bn xs[xs.length-1]? λd=>Q d (ac M a (.lst xs.dropLast))
  |_=>False
 |_,_=>False
theorem Ej:yz X "list.pop" CD:=by
 intro x ds v vs H M Q y r g h;unfold CD at h;split at h
 ·rename_i a i
  obtain⟨B,rfl,z⟩:=dF r;cases RV.ref_.1 y;cases RV.int_.1 z;split at h
  ·rename_i xs l
   obtain⟨us,sq,f⟩:=g _ _ l;obtain⟨d,n,q⟩:=bg h.2;obtain⟨u,j,t⟩:=et f.p n;have k:=Kp.put (o':=.lst (us.eraseIdx i.toNat)) sq trivial;have C:i.toNat<us.length:=(YB.1 j).1;have w:seqIndex? i us.length=some i.toNat:=by
    unfold seqIndex?;have A:¬i<0:=by omega
    have h2:i<(us.length:Int):=by omega
    simp[A,h.1.1,h2]
   exact rY Fq ⟨a,us,i,i.toNat,u,rfl,rfl,sq,by omega,by omega,w,j,k,d,_,RV.mono k _ t,g.put (m:=.lst (xs.eraseIdx i.toNat)) sq trivial ⟨_,aK,aj.of (yC _ (aj.mono k _ f).p)⟩,q⟩
  ·exact Yh h
 ·rename_i a
  obtain rfl:vs=[]:=by rw[aj] at r;exact r
  cases RV.ref_.1 y;split at h
  ·rename_i xs l
   obtain⟨us,sq,f⟩:=g _ _ l;obtain⟨d,n,q⟩:=bg h;obtain⟨u,j,t⟩:=et f.p n;have k:=Kp.put (o':=.lst us.dropLast) sq trivial;exact rY KB ⟨a,us,u,rfl,rfl,sq,by rw[←f.len];exact j,k,d,_,RV.mono k _ t,g.put (m:=.lst xs.dropLast) sq trivial ⟨_,aK,aj.of (Ad (aj.mono k _ f).p)⟩,q⟩
  ·exact Yh h
 ·exact Yh h
def d9(i:Int):Nat:=Builtin.Int.intBits i
def xF:qT:=λx ds M Q=>match x,ds with
 |.int i,[]=>Q (.int (d9 i)) M
 |_,_=>False
theorem Jn:AQ X "int.bit_length" (λx xs H Q=>∃i,x=.int i/\xs=[]/\Q (.int (d9 i)) H):=by
 rintro b_ s σ H x xs v us Q I d f ⟨i,rfl,rfl,q⟩;obtain⟨t,rfl⟩:=d;have g:=f.zero;subst g;exact call_int_bit_length ⟨.int (d9 i),H,I.tok _,⟨_,rfl⟩,q⟩
theorem Bp:yz X "int.bit_length" xF:=by
 intro x ds v vs H M Q d r f h;unfold xF at h;split at h
 ·rename_i i
  obtain rfl:vs=[]:=by rw[aj] at r;exact r
  cases RV.int_.1 d;exact rY Jn ⟨i,rfl,rfl,aD (RV.int_.2 rfl) f h⟩
 ·exact Yh h
def Lp:qT:=λx ds M Q=>match x,ds with
 |.ref a,[y]=>bn (ck (M a)) λxs=>(aY y=true/\bo xs=true/\cw xs<=30)/\bn (xs.findIdx? λd=>a8 d y) λ(j:Nat)=>Q (.int (j:Int)) M
 |_,_=>False
inductive Mt where
 |append | extend | upper | pop | bits
 deriving DecidableEq
def uG:Mt->Str
 |.append=>"append"
 |.extend=>"extend"
 |.upper=>"upper"
 |.pop=>"pop"
 |.bits=>"bit_length"
def yD:Mt->Rc
 |.append=>.lst
 |.extend=>.lst
 |.upper=>.str
 |.pop=>.lst
 |.bits=>.int
def Ek:Mt->qT
 |.append=>rZ
 |.extend=>r0
 |.upper=>uF
 |.pop=>CD
 |.bits=>xF
theorem Jo(hu:X.A.units+40<cLine)(m:Mt){k:WE}{t:WA}{o_:Pos}(d:aP X o k)(ha:ip X (e::es) t)(hb:ce o=true)(f:ay e=true)(g:es.all ay=true)(hl:es.length<20)(j:(o_.endLine==pos.line)=true):
  aP X (.Call (.Attribute o (uG m) o_) (e::es) [] pos) (yA (yD m) (Ek m) k t):=by
 cases m with
 |append=>exact qU (c:=.lst) PySem.F.plainAttrs_list PySem.F.slot_list_append PySem.F.type_list_append wz d ha hb f g hl j
 |extend=>exact qU (c:=.lst) PySem.F.plainAttrs_list PySem.F.slot_list_extend PySem.F.type_list_extend wA d ha hb f g hl j
 |upper=>exact qU (c:=.str) PySem.F.plainAttrs_str PySem.F.slot_str_upper PySem.F.type_str_upper yB d ha hb f g hl j
 |pop=>exact qU (c:=.lst) PySem.F.plainAttrs_list PySem.F.slot_list_pop PySem.F.type_list_pop Ej d ha hb f g hl j
 |bits=>exact qU (c:=.int) PySem.F.plainAttrs_int PySem.F.slot_int_bit_length PySem.F.type_int_bit_length Bp d ha hb f g hl j
theorem Gi(hu:X.A.units+40<cLine)(m:Mt){g:WE}{o_:Pos}(d:aP X o g)(hb:ce o=true)(f:(o_.endLine==pos.line)=true):
  aP X (.Call (.Attribute o (uG m) o_) [] [] pos) (yA (yD m) (Ek m) g qM):=by
 cases m with
 |append=>exact oq (c:=.lst) PySem.F.plainAttrs_list PySem.F.slot_list_append PySem.F.type_list_append wz d hb f
 |extend=>exact oq (c:=.lst) PySem.F.plainAttrs_list PySem.F.slot_list_extend PySem.F.type_list_extend wA d hb f
 |upper=>exact oq (c:=.str) PySem.F.plainAttrs_str PySem.F.slot_str_upper PySem.F.type_str_upper yB d hb f
 |pop=>exact oq (c:=.lst) PySem.F.plainAttrs_list PySem.F.slot_list_pop PySem.F.type_list_pop Ej d hb f
 |bits=>exact oq (c:=.int) PySem.F.plainAttrs_int PySem.F.slot_int_bit_length PySem.F.type_int_bit_length Bp d hb f
end
section
variable {X:Cx}{H:Hp}{e a b c o i v:Expr}{es:Zg}{pos:Pos}
def Gj(t:WE):WE:=λσ M Q=>t σ M λx M1=>intD x λi=>Q (.int (-i)) M1
theorem Jp{t:WE}(h:aP X a t):aP X (.UnaryOp .USub a pos) (Gj t):=by
 intro σ M ρ H Q rs f q;refine bX (Hq Km (bJ a)) ?_;show tW X a ρ H _;refine aU (h σ M ρ H _ rs f q) λv m g=>?_
 obtain⟨j,x,M1,k,l,d⟩:=g;obtain⟨i,rfl,d⟩:=rT d;exact⟨i,RV.int_.1 k,j,.int (-i),M1,RV.int_.2 rfl,l,d⟩
def nN(t:WE):WE:=λσ M Q=>t σ M λx M1=>intD x λi=>Q (.int (-i-1)) M1
theorem bitNot_eq(i:Int):Builtin.bitNot i = -i-1:=by unfold Builtin.bitNot;omega
theorem Jq{t:WE}(h:aP X a t):aP X (.UnaryOp .Invert a pos) (nN t):=by
 intro σ M ρ H Q rs f q;refine bX (Hq Kn (bJ a)) ?_;show tW X a ρ H _;refine aU (h σ M ρ H _ rs f q) λv m g=>?_
 obtain⟨j,x,M1,k,l,d⟩:=g;obtain⟨i,rfl,d⟩:=rT d;exact⟨i,RV.int_.1 k,j,.int (-i-1),M1,RV.int_.2 (congrArg V.int (bitNot_eq i)),l,d⟩
def putD(g:ZC)(k:Key)(d:D):List (Key×D):=if(g.any λf=>decide (f.1=k))=true then g.map (λf=>if f.1=k then(f.1,d) else f) else g++[(k,d)]
theorem Gk{g j:Type}{l:List (Key×g)}{m:List (Key×j)}(e:m.map (·.1)=l.map (·.1))(k:Key):(m.any λd=>decide (d.1=k))=l.any λd=>decide (d.1=k):=by
 have f:∀{n:Type}(l:List (Key×n)),(l.any λd=>decide (d.1=k))=(l.map (·.1)).any λq=>decide (q=k):=λl=>by rw[List.any_map];rfl
 rw[f,f,e]
theorem map_put{K:Za}{k:Key}{d:D}{v:V}(r:RV K H d v):∀{l:ZC}{m:List (Key×V)},m.map (·.1)=l.map (·.1)->aj K H (l.map (·.2)) (m.map (·.2)) ->
  ((m.map λf=>if f.1=k then(f.1,v) else f).map (·.1)=(l.map λf=>if f.1=k then(f.1,d) else f).map (·.1))/\aj K H ((l.map λf=>if f.1=k then(f.1,d) else f).map (·.2)) ((m.map λf=>if f.1=k then(f.1,v) else f).map (·.2))
 |[],[],_,_=>⟨rfl,.nil⟩
 |[],_::_,e,_=>by cases e
 |_::_,[],e,_=>by cases e
 |(A,B)::l,(p,C)::m,e,g=>by
  simp only[YJ,List.cons.injEq] at e;obtain⟨t,u⟩:=e;subst t;simp only[YJ] at g;rw[aj] at g;obtain⟨E,F,z,w,y⟩:=g;cases z;obtain⟨j,n⟩:=map_put r (k:=k) u y;by_cases q:p=k
  ·simp only[YJ,if_pos q]
   exact⟨by rw[j],.cons r n⟩
  ·simp only[YJ,if_neg q]
   exact⟨by rw[j],.cons w n⟩
theorem Lq{K:Za}{k:Key}{d:D}{v:V}{l:ZC}{m:List (Key×V)}(r:RV K H d v)(e:m.map (·.1)=l.map (·.1))(f:aj K H (l.map (·.2)) (m.map (·.2))):(putK m k v).map (·.1)=(putD l k d).map (·.1)/\aj K H ((putD l k d).map (·.2)) ((putK m k v).map (·.2)):=by
 unfold putK putD;rw[Gk e k];split
 ·exact map_put r e f
 ·refine⟨by rw[ZK,ZK,e];rfl,?_⟩
  rw[ZK,ZK];exact aj.of (bA f.p (.cons r .nil))
def Gm(o i d:D)(M:MH)(Q:MH->Prop):Prop:=match o with
 |.ref a=>match M a with
  |some (.lst xs)=>intD i λk=>bn (om xs.length k) λj=>Q (ac M a (.lst (xs.set j d)))
  |some (.dic f)=>bn (tz i) λk=>f.length<sizeLine/\Q (ac M a (.dic (putD f k d)))
  |_=>False
 |_=>False
def pW(X:Cx):BH:=λo i v H Q=>∀b_ s ρ d f u,af X b_ ρ H s->RelV o d->RelV i f->RelV v u->wpAny (model X.prog X.w) X.A (setItem d f u) (λ_ g=>∃H',af X b_ ρ H' g/\Q H') X.xe s
theorem N8:E8 X (pW X):=λb_ s σ _ _ _ _ d f u _ I g j k h=>h b_ s σ d f u I g j k
theorem Jr{o i v:V}{Q d:Hp->Prop}(h:pW X o i v H Q)(g:∀H',Q H'->d H'):pW X o i v H d:=λb_ s ρ f j u I k l m=>aN (h b_ s ρ f j u I k l m) λ_ _ ⟨H',n,q⟩=>⟨H',n,g H' q⟩
theorem NR(hu:X.A.units+40<cLine){x y d:D}{o i v:V}{M:MH}{Q:MH->Prop}(O:RV X.K H x o)(E:RV X.K H y i)(F:RV X.K H d v)(g:RM X.K M H)(h:Gm x y d M Q):pW X o i v H λH'=>Kp H H'/\∃M',RM X.K M' H'/\Q M':=by
 cases x with
 |ref a=>
  cases RV.ref_.1 O;have h:match M a with
   |some (.lst xs)=>intD y λk=>bn (om xs.length k) λj=>Q (ac M a (.lst (xs.set j d)))
   |some (.dic l)=>bn (tz y) λk=>l.length<sizeLine/\Q (ac M a (.dic (putD l k d)))
   |_=>False:=h
  split at h
  ·rename_i xs r
   obtain⟨k,rfl,h⟩:=rT h;obtain⟨j,t,q⟩:=bg h;cases RV.int_.1 E;obtain⟨us,sq,n⟩:=g _ _ r;have f:=Kp.put (o':=.lst (us.set j v)) sq trivial;intro b_ s ρ G J u I w z B;exact set_list b_ s ρ H _ _ _ G J u _ I w z B ⟨a,us,k,j,rfl,rfl,sq,by rw[←n.len];exact t,f,_,g.put (m:=.lst (xs.set j d)) sq trivial ⟨_,aK,aj.of (yb (RV.mono f _ F) j (aj.mono f _ n).p)⟩,q⟩
  ·rename_i l r
   obtain⟨k,t,hl,q⟩:=bg h
   have:=Bb t E
   subst this;obtain⟨C,sq,L,n⟩:=g _ _ r;have f:=Kp.put (o':=.dK (putK C k v)) sq trivial;obtain⟨p1,p2⟩:=Lq (k:=k) (RV.mono f _ F) L (aj.mono f _ n);have P:C.length<sizeLine:=by have:=congrArg List.length L;simp only[ZF] at this;omega
   intro b_ s ρ G J u I w z B;cases w;exact DG (by omega) I (.inl ⟨C,k,sq,rfl,P,rfl⟩) z B λS R=>⟨_,R,f,_,g.put (m:=.dic (putD l k d)) sq trivial ⟨_,aK,p1,p2⟩,q⟩
  ·exact Yh h
 |_=>exact Yh h
theorem NS{tg:Expr}{n:Nat}{env:Env}(h:eI v=true):swapsWithSole [tg] v n env=pure false:=ut h
def yE(f g j:WE):WS:=λE σ M=>f σ M λd M1=>g σ M1 λx M2=>j σ M2 λy k=>Gm x y d k λl=>E.nx σ l
theorem El{k l m:WE}{p:Pos}(hu:X.A.units+40<cLine)(B:aP X v k)(C:aP X o l)(F:aP X i m)(hc:eI v=true)(G:ma i=true):mL X (.Assign [.Subscript o i p] v pos) (yE k l m):=by
 intro σ M ρ H E rs I h;refine fj (Dr (bJ v) (J5 (bJ o) (bJ i) N8 (by intro w;cases i<;>first | rfl | exact absurd (show false=true from G) YC)) (NS hc) (by cases v<;>rfl) rfl) ?_;show tW X v ρ H _;refine aU (B σ M ρ H _ rs I h) λu n J=>?_
 obtain⟨f,d,M1,K,L,O⟩:=J;show tW X o ρ n _;refine aU (C σ M1 ρ n _ (rs.mono f) L O) λw' r P=>?_
 obtain⟨g,x,M2,R,S,T⟩:=P;show tW X i ρ r _;refine aU (F σ M2 ρ r _ (rs.mono (f.trans g)) S T) λz H3 U=>?_
 obtain⟨j,y,M3,V,W,Y⟩:=U;refine Jr (NR hu (RV.mono j x R) V (RV.mono (g.trans j) d K) W Y) λH4 Z=>?_
 obtain⟨t,M4,m4,q4⟩:=Z;exact⟨f.trans (g.trans (j.trans t)),σ,M4,rs.mono (f.trans (g.trans (j.trans t))),m4,q4⟩
abbrev WP:=DS->MH->(List (D×D)->MH->Prop)->Prop
def wPs:List (WE×WE)->WP
 |[],_,M,Q=>Q [] M
 |(tk,d)::r,σ,M,Q=>tk σ M λx M1=>d σ M1 λy M2=>wPs r σ M2 λps f=>Q ((x,y)::ps) f
inductive HG (X:Cx):List (Option Expr)->List Expr->List (WE×WE)->Prop where
 |nil:HG X [] [] []
 |cons {k v:Expr}{ks:List (Option Expr)}{vs:Zg}{tk tv:WE}{r:List (WE×WE)}:aP X k tk->aP X v tv->HG X ks vs r->HG X (some k::ks) (v::vs) ((tk,tv)::r)
def HH:List (D×D)->Option (List (Key×D))
 |[]=>some []
 |(k,d)::r=>(tz k).bind λq=>(HH r).map ((q,d) :: ·)
def Lr(f:ZC)(more:ZC):List (Key×D):=more.foldl (λh_ d=>putD h_ d.1 d.2) f
def MB(ts:List (WE×WE)):WE:=λσ M Q=>∀p,M p=none->wPs ts σ (ac M p (.dic [])) λds M2=>match M2 p with
 |some (.dic [])=>bn (HH ds) λd=>Q (.ref p) (ac M2 p (.dic (Lr [] d)))
 |_=>False
theorem Gn:aP X (.Dict [] [] pos) (λ_ M Q=>∀p,M p=none->Q (.ref p) (ac M p (.dic []))):=by
 intro σ M ρ H Q rs d q;refine bX Fs ?_;intro p hp;exact⟨Kp.new hp,.ref p,_,RV.ref_.2 rfl,d.new (m:=.dic []) hp ⟨[],aK,rfl,.nil⟩,q p (d.fresh hp)⟩
end
abbrev pU:=Addr->Str->Prop
theorem j6{K:Za}{H:Hp}{f:Str}:∀{fs:List (Str×D)}{a:List (Str×V)},a.map (·.1)=fs.map (·.1)->aj K H (fs.map (·.2)) (a.map (·.2)) ->
  (fs.lookup f=none->a.lookup f=none)/\∀d,fs.lookup f=some d->∃v,a.lookup f=some v/\RV K H d v
 |[],[],_,_=>⟨λ_=>rfl,λ_ h=>nomatch h⟩
 |[],_::_,e,_=>by cases e
 |_::_,[],e,_=>by cases e
 |(n,o)::fs,(b,c)::a,e,r=>by
  simp only[YJ,List.cons.injEq] at e;obtain⟨g,j⟩:=e;subst g;simp only[YJ] at r;rw[aj] at r;obtain⟨v,vs,z,k,l⟩:=r;cases z;obtain⟨m,h2⟩:=j6 (f:=f) j l;cases q:f==b with
  |true=>simp only[XH,q];exact⟨(λz=>nomatch z),λd z=>by cases z;exact⟨c,rfl,k⟩⟩
  |false=>simp only[XH,q];exact⟨m,h2⟩
def cM(f:Str)(v:D):List (Str×D)->List (Str×D)
 |[]=>[(f,v)]
 |(g,x)::r=>if g=f then(g,v)::r else(g,x)::cM f v r
theorem Bq{K:Za}{H:Hp}{f:Str}{d:D}{v:V}(b:RV K H d v):∀{fs:List (Str×D)}{a:List (Str×V)},a.map (·.1)=fs.map (·.1)->aj K H (fs.map (·.2)) (a.map (·.2)) ->
  (dB f v a).map (·.1)=(cM f d fs).map (·.1)/\aj K H ((cM f d fs).map (·.2)) ((dB f v a).map (·.2))
 |[],[],_,_=>⟨rfl,.cons b .nil⟩
 |[],_::_,e,_=>by cases e
 |_::_,[],e,_=>by cases e
 |(n,o)::fs,(j,p)::a,e,r=>by
  simp only[YJ,List.cons.injEq] at e;obtain⟨k,c⟩:=e;subst k;simp only[YJ] at r;rw[aj] at r;obtain⟨t,vs,z,l,g⟩:=r;cases z;obtain⟨m,h2⟩:=Bq (f:=f) b c g;unfold dB cM;by_cases q:j=f
  ·rw[if_pos q,if_pos q];exact⟨by simp only[YJ,c],.cons b g⟩
  ·rw[if_neg q,if_neg q];exact⟨by simp only[YJ,m],.cons l h2⟩
section
variable {X:Cx}{H:Hp}{e a b c o i v:Expr}{es:Zg}{pos:Pos}
def Go(O:pU)(x:D)(f:Str)(M:MH)(Q:D->Prop):Prop:=match x with
 |.ref a=>match M a with
  |some (.ins C fs)=>O C f/\bn (fs.lookup f) Q
  |_=>False
 |_=>False
def Gp(O:pU)(f:Str)(t:WE):WE:=λσ M Q=>t σ M λx M1=>Go O x f M1 λd=>Q d M1
theorem Js{O:pU}{f:Str}{t:WE}(j:∀C f,O C f->fY X.K C/\cJ X.K C f)(h:aP X o t)(hb:ce o=true):aP X (.Attribute o f pos) (Gp O f t):=by
 intro σ M ρ H Q rs l q;refine bX (Kr (bJ o) (rX hb)) ?_;show tW X o ρ H _;refine aU (h σ M ρ H _ rs l q) λv G m=>?_
 obtain⟨n,x,M1,p,k,g⟩:=m;unfold Go at g;try dsimp only at g
 split at g
 ·rename_i a
  split at g
  ·rename_i C fs r
   obtain⟨d,u,w⟩:=bg g.2;cases RV.ref_.1 p;obtain⟨dx,y,sq,z,A⟩:=k _ _ r;obtain⟨B,E,F⟩:=(j6 z A).2 d u;exact⟨a,C,dx,y,B,rfl,sq,(j C f g.1).1,(j C f g.1).2,E,n,d,M1,F,k,w⟩
  ·exact Yh g
 ·exact Yh g
def CF(O:pU)(x:D)(f:Str)(d:D)(M:MH)(Q:MH->Prop):Prop:=match x with
 |.ref a=>match M a with
  |some (.ins C fs)=>(O C f/\fs.length<1000)/\Q (ac M a (.ins C (cM f d fs)))
  |_=>False
 |_=>False
def CG(O:pU)(f:Str)(g j:WE):WS:=λE σ M=>j σ M λd M1=>g σ M1 λx M2=>CF O x f d M2 λk=>E.nx σ k
theorem Gq{O:pU}{f:Str}{r t:WE}{p:Pos}(w:∀C f,O C f->fY X.K C/\cJ X.K C f)(B:aP X o r)(F:aP X v t):mL X (.Assign [.Attribute o f p] v pos) (CG O f r t):=by
 intro σ M ρ H E rs G q;refine fj (Ks (bJ o) (bJ v) (by cases v<;>rfl)) ?_;show tW X v ρ H _;refine aU (F σ M ρ H _ rs G q) λu y I=>?_
 obtain⟨k,d,M1,J,L,P⟩:=I;show tW X o ρ y _;refine aU (B σ M1 ρ y _ (rs.mono k) L P) λV W R=>?_
 obtain⟨l,x,M2,S,z,g⟩:=R;unfold CF at g;dsimp only at g;split at g
 ·rename_i a
  split at g
  ·rename_i C fs T
   cases RV.ref_.1 S;obtain⟨dx,n,sq,A,U⟩:=z _ _ T;have j:=Kp.put (o':=.ins C dx (dB f u n)) sq trivial;obtain⟨p1,p2⟩:=Bq (f:=f) (RV.mono (l.trans j) d J) A (aj.mono j _ U);have hl:n.length<1000:=by have:=congrArg List.length A;simp only[ZF] at this;omega
   exact⟨a,C,dx,n,rfl,sq,(w C f g.1.1).1,(w C f g.1.1).2,hl,k.trans (l.trans j),σ,_,rs.mono (k.trans (l.trans j)),z.put (m:=.ins C (cM f d fs)) sq trivial ⟨dx,_,aK,p1,p2⟩,g.2⟩
  ·exact Yh g
 ·exact Yh g
def bD(C:Addr)(sp:az):az:=λds M Q=>∀x,M x=none->sp (.ref x::ds) (ac M x (.ins C [])) λd M2=>xE d=true/\Q (.ref x) M2
def MT(P:Zw)(w:World)(K:Za)(mg:Ze)(base:Heap)(k:Nat)(x:Str)(sp:az):Prop:=
 ∃C f fd ps d,Mk K C f/\mg x=some (.ref C)/\Binds K fd ps []/\ge P w K mg base mJ k f fd ps (iE K d)/\sp=bD C d
theorem Gs{k:Nat}{x:Str}{sp:az}{t:WA}{p:Pos}(F:MT X.prog X.w X.K X.mg X.base k x sp)(B:cb (k+1) X.A)(hg:Gl X x)(E:(x==("__debug__" : Str))=false)(G:ay e=true)(I:es.all ay=true)(ha:ip X (e::es) t):
  aP X (.Call (.Name x p) (e::es) [] pos) (gK sp t):=by
 obtain⟨C,f,fd,ps,Z,M0,hm,hb,J,rfl⟩:=F;intro σ M ρ H Q rs L q;refine bX (Ip M0 J B hg hm hb .nil xz (o3 (e::es)) E (bI G) (dX I)) ?_;show mK X (e::es) ρ H _;refine d3 (ha σ M ρ H _ rs L q) λvs O P=>?_
 obtain⟨R,ds,M1,S,l1,l,T⟩:=P;intro z dx hz n U;have g:=Kp.new (o:=.own z) n;have r:(upd O dx (.own z)) z=none:=by rw[aS U.symm];exact hz
 have j:=Kp.new (o:=.ins C dx []) r;have u:=g.trans j;rw[ZA];refine⟨.ref z::ds,ac M1 z (.ins C []),_,.cons (RV.ref_.2 rfl) (aj.mono u _ S),(l.newH n).new (m:=.ins C []) r ⟨dx,[],aK,rfl,.nil⟩,T z (l.fresh hz),λd M' v H' y V W Y=>⟨?_,R.trans (u.trans V),.ref z,M',RV.ref_.2 rfl,Y,y.2⟩⟩
 have:=tD W
 rw[y.1] at this;exact XM this
abbrev kZ:=Addr->Str->Option az
def bc(P:Zw)(w:World)(K:Za)(mg:Ze)(base:Heap)(k:Nat)(C:Addr)(m:Str)(sp:az):Prop:=
 ∃f fd ps,fY K C/\Fh K C m f/\Binds K fd ps []/\ge P w K mg base mJ k f fd ps (iE K sp)
def CH(X:Cx)(T:kZ):Prop:=∀C m sp,T C m=some sp->∃k,bc X.prog X.w X.K X.mg X.base k C m sp/\cb k X.A
def xG(x:D)(m:Str)(M:MH)(Q:Addr->Prop):Prop:=match x with
 |.ref a=>match M a with
  |some (.ins C fs)=>fs.lookup m=none/\Q C
  |_=>False
 |_=>False
def uH(T:kZ)(m:Str)(d:WE)(t:WA):WE:=λσ M Q=>d σ M λx M1=>xG x m M1 λC=>bn (T C m) λsp=>t σ M1 λds M2=>sp (x::ds) M2 Q
theorem Ls{env:Env}{p:Pos}(h:es.all ay=true)(hl:es.length<20):methodCallForm (es.length+([]:List Keyword).length) (backTo p (starEach es env)) (backToKw p (keywordEach [] env))=true:=by
 unfold methodCallForm;rw[tF h];show(true&&true&&decide (es.length+0+0<30))=true;rw[Bool.and_self,Bool.true_and];exact YU (by omega)
theorem HI {env:Env} {m:Str} {o_:Pos} (hb:ce o = true) (h:es.all ay = true) (hl:es.length < 20) (g:(o_.endLine == pos.line) = true):eval (.Call (.Attribute o m o_) es [] pos) env = (do
   let d ← eval o env
   standAt o_.atName
   let (f,first) ← holding [d] (getMethod d m (do return (← importBound o env).getD true))
   callWith pos f first (backTo pos (starEach es env)) (backToKw pos (keywordEach [] env))):=by
 rw [arm_eval_Call,rX hb]
 unfold methodCall calleeOf methodCallPos
 rw [Ls h hl]
 simp [g]
theorem Gu{T:kZ}{m:Str}{l:WE}{t:WA}{o_:Pos}(B:CH X T)(E:aP X o l)(ha:ip X (e::es) t)(hb:ce o=true)(n:ay e=true)(p:es.all ay=true)(hl:es.length<19)(G:(o_.endLine==pos.line)=true):
  aP X (.Call (.Attribute o m o_) (e::es) [] pos) (uH T m l t):=by
 intro σ M ρ H Q rs J h b_ s I;have K:(e::es).all ay=true:=by rw[XN,n,p];rfl
 refine PySem.W.methodCall_KW (aN (E σ M ρ H _ rs J h b_ s I) λu s1 L=>?_) (HI hb K (by rw[YH];omega) G);obtain⟨v,O,w,j,⟨y,x,M1,P,z,g⟩⟩:=L;unfold xG at g;dsimp only at g;split at g
 ·rename_i a
  split at g
  ·rename_i C fs R
   obtain⟨hn,g⟩:=g;obtain⟨sp,S,g⟩:=bg g;cases RV.ref_.1 P;obtain rfl:u=Value.ref a:=j;obtain⟨dx,gs,sq,U,V⟩:=z _ _ R;obtain⟨k,⟨f,fd,ps,c,hm,Y,F⟩,Z⟩:=B C m sp S
   ·refine t9 w sq c hm ((j6 U V).1 hn) ?_
    refine PySem.W.callWith_K (first:=[.ref a]) (h₀:=X.base) I.ok.mod.kin hm.kp (aN (ha σ M1 ρ O _ (rs.mono y) z g pos b_ s1 w) λus s2 Qi=>?_) (bI n) (dX p);obtain⟨vs,H2,A,r,⟨k2,ds,M2,r2,l2,m2,q2⟩⟩:=Qi;refine⟨A.kIn,?_⟩;refine xS (us:=.ref a::us) (vs:=.ref a::vs) F Z Y .nil xz A (.cons rfl r) ?_;rw[ZA];exact⟨.ref a::ds,M2,Q,.cons (RV.ref_.2 rfl) r2,m2,q2,λd M' v H' qd kq j mm=>⟨y.trans (k2.trans kq),d,M',j,mm,qd⟩⟩
  ·exact Yh g
 ·exact Yh g
theorem Em{T:kZ}{m:Str}{n:WE}{o_:Pos}(r:CH X T)(t:aP X o n)(hb:ce o=true)(w:(o_.endLine==pos.line)=true):
  aP X (.Call (.Attribute o m o_) [] [] pos) (uH T m n qM):=by
 intro σ M ρ H Q rs y h b_ s I;refine PySem.W.methodCall_KW (aN (t σ M ρ H _ rs y h b_ s I) λu s1 z=>?_) (HI hb rfl (by decide) w);obtain⟨v,U,j,l,⟨A,x,M1,B,p,g⟩⟩:=z;unfold xG at g;dsimp only at g;split at g
 ·rename_i a
  split at g
  ·rename_i C fs E
   obtain⟨hn,g⟩:=g;obtain⟨sp,G,g⟩:=bg g;cases RV.ref_.1 B;obtain rfl:u=Value.ref a:=l;obtain⟨dx,V,sq,J,K⟩:=p _ _ E;obtain⟨k,⟨f,fd,ps,c,hm,L,F⟩,O⟩:=r C m sp G;refine t9 j sq c hm ((j6 J K).1 hn) ?_;refine PySem.W.callWith_K0 (first:=[.ref a]) j.kIn hm.kp (xS (us:=[.ref a]) (vs:=[.ref a]) F O L .nil xz j (.cons rfl .nil) ?_);exact⟨[.ref a],M1,Q,.cons (RV.ref_.2 rfl) .nil,p,g,λd M' v H' P R l S=>⟨A.trans R,d,M',l,S,P⟩⟩
  ·exact Yh g
 ·exact Yh g
end
end DD
namespace DD
open PySem PyProof.Rows L2
section
variable {K:Type}[DecidableEq K]
def md(l:List K)(k:K):List K:=if k∈l then l else l++[k]
def bx(ks:List K):List K:=ks.foldl md []
theorem uI(ks:List K)(k:K):bx (ks++[k])=md (bx ks) k:=by unfold bx;rw[List.foldl_append];rfl
theorem yF(l:List K)(k:K):(md l k).length=if decide (k∈l) then l.length else l.length+1:=by
 unfold md;by_cases h:k∈l
 ·rw[if_pos h,if_pos (YU h)]
 ·rw[if_neg h,if_neg (by simpa using h)];simp
theorem Gv(l:List K)(k j:K):decide (j∈md l k)=(decide (j∈l)||decide (j=k)):=by
 unfold md;by_cases h:k∈l
 ·rw[if_pos h]
  by_cases e:j=k
  ·subst e;simp[h]
  ·simp[e]
 ·rw[if_neg h];simp
theorem pV:∀(ks l:List K),(ks.foldl md l).length<=l.length+ks.length
 |[],l=>by simp
 |k::ks,l=>by
  have a:=pV ks (md l k);have h2:(md l k).length<=l.length+1:=by rw[yF];split<;>omega
  simp only[List.foldl_cons,YH];omega
theorem Gw(ks:List K):(bx ks).length<=ks.length:=by have:=pV ks [];simpa [bx] using this
end
section
variable {prog:Zw}{w:World}{A:Around}{R:Result->Shared->Prop}{K:Type}[DecidableEq K]{knd:KeyKind prog w K}
theorem yG{h:Heap}{a:Addr}{S S':K->Bool}{n n':Nat}(q:h.SetOf knd a S n)(e:∀k,S k=S' k)(b:n=n'):h.SetOf knd a S' n':=by
 obtain rfl:S=S':=funext e;subst b;exact q
theorem uJ{h h':Heap}{a:Addr}{S:K->Bool}{n:Nat}(q:h.SetOf knd a S n)(k:∀o,h.get? a=some o->h'.get? a=some o):h'.SetOf knd a S n:=by
 obtain⟨o,es,b,t,y,r⟩:=q;exact⟨o,es,b,t,k o y,r⟩
theorem Gx{I:Addr}{fp a:Zh}{G:Array GenState->Array GenState->Prop}{n:Nat}{P:Nat->Value->Prop}{St:Nat->Shared->Prop}(W:WalksS prog w A.in1 I fp a G n P St){B:Addr}(l:B∉fp){ks:List K}
  (hn:ks.length=n) (u:∀i v,P i v->∀k,ks[i]?=some k->knd.is k v=true/\v.scannable=true) (hb:n+1<scanBound):
  ∀(j i:Nat) (t:Shared),n-i=j->i<=n->St i t->t.heap.SetOf knd B (λk=>decide (k∈bx (ks.take i))) (bx (ks.take i)).length ->
   (∀t',Moved (B::a) G t t'->t'.heap.SetOf knd B (λk=>decide (k∈bx ks)) (bx ks).length->R (.ok (.ret .none)) t') ->
   codeAny (model prog w) A (.builtin "set.update.loop" ⟨[.ref B,.ref I],[]⟩) R t:=by
 have hw:B∉a:=λh=>l (W.sub _ h)
 have m:∀b∈a,b∈B::a:=λb y=>.tail _ y
 intro j;induction j with
 |zero=>
  intro i t e C st q f;obtain rfl:i=n:=by omega
  refine codeAny_builtin F.entry_set_update_loop ?_;rw[Around.under_plainId F.plain_set_update_loop _];refine Yb (show wpAny _ A.in1 (pyNext (.ref I)) _ _ t from W.done t _ _ st λt' c=>?_);refine show wpAny _ A.in1 (ret Value.none) _ _ t' from Yc (f t' (c.mono m) ?_);rw[List.take_of_length_le (Nat.le_of_eq hn)] at q;exact uJ q λo y=>c.heap B _ hw y
 |succ j E=>
  intro i t e C st q f;have lt:i<n:=by omega
  refine codeAny_builtin F.entry_set_update_loop ?_;rw[Around.under_plainId F.plain_set_update_loop _];refine Yb (show wpAny _ A.in1 (pyNext (.ref I)) _ _ t from W.item i t _ _ lt st λv t' p J c=>?_);obtain⟨k,hk⟩:∃k,ks[i]?=some k:=⟨_,ZD (by omega)⟩;obtain⟨is,sc⟩:=u i v p k hk;have L:=uJ (h':=t'.heap) q λo y=>c.heap B _ hw y
  refine Yb (show wpAny _ A.in1 (holding [v] (setAdd B v)) _ _ t' from Yj ?_);unfold setAdd;refine Yj (Yb (knd.pyHash is ?_));have d:(bx (ks.take i)).length+1<scanBound:=by have:=Gw (ks.take i);rw[YR] at this;omega
  have tk:ks.take (i+1)=ks.take i++[k]:=by rw[List.take_add_one,hk];rfl
  refine wpAny_setAddHashed_of (knd:=knd) (s:={ t' with toks:=t'.toks+1 }) is sc L d λh' r O=>?_
  have S:=yG (S':=λk'=>decide (k'∈bx (ks.take (i+1)))) (n':=(bx (ks.take (i+1))).length) O (λk'=>by rw[tk,uI,Gv]) (by rw[tk,uI,yF]);refine Yc ⟨plainId_quiet F.plain_set_update_loop _,E (i+1) _ (by omega) lt (W.frame _ t' _ _ J (YM _) λb y o e=>?_) S λT g U=>?_⟩
  ·rw[r.2 b (λz:b=B=>l (z▸y))];exact e
  ·refine f T (Moved.trans W.gtrans ((c.mono m).then_heap (YM _) λb o y e=>?_) g) U
   rw[r.2 b (λz:b=B=>y (z▸ZX))];exact e
end
end DD
set_option maxHeartbeats 8000000
namespace DD
open PySem PyProof.Rows L2
section
variable {prog:Zw}{w:World}{A:Around}{Z:Zb}{s:Shared}{K:Type}[DecidableEq K]{knd:KeyKind prog w K}
def fo(led:Bool):Obj:={ cls:=.type "set",dict:=none,data:=.set #[] 0 (.fresh 0 0 led) }
theorem wB{T I:String}{l:Addr}{a:Zl}{ks:List K}{Q:Zb}{od:Zm}{m:Nat}{G':Zn}(O:A.handled=none)(u:s.heap.get? l=some { cls:=.type T,dict:=od,data:=.seq a m,slots:=G' })(s1:isSubtype (.type T) (.type "set")=pure false)(s2:isSubtype (.type T) (.type "frozenset")=pure false)(s3:(Value.type T==Value.type "dict")=false)
  (P:∀{A:Around} {E:Zb} {t:Shared} {Q:Zb},t.heap.get? l=some { cls:=.type T,dict:=od,data:=.seq a m,slots:=G' }->Q (.ref t.heap.objs.size) { t with heap:=t.heap.push { cls:=.type I,data:=.fields #[.ref l,.int 0 0] } }->wpAny (model prog w) A (pyIter (.ref l)) Q E t)
  (S:∀J,l≠J->∃St:Nat->Heap->Prop,(∀{A:Around},A.handled=none->Walks prog w A J [J,l] [J] a.size (λi v=>a[i]?=some v) St)/\∀h:Heap,h.get? J=some { cls:=.type I,data:=.fields #[.ref l,.int 0 0] }->h.get? l=some { cls:=.type T,dict:=od,data:=.seq a m,slots:=G' }->St 0 h)
  (hn:ks.length=a.size)
  (U:∀(i:Nat) (v:Value),a[i]?=some v->∀k,ks[i]?=some k->knd.is k v=true/\v.scannable=true) (hb:a.size+1<scanBound)
  (q:∀(h':Heap) (tk:Nat),h'.SetOf knd s.heap.objs.size (λk=>decide (k∈bx ks)) (bx ks).length ->
   (∀b o,b<s.heap.objs.size->s.heap.get? b=some o->h'.get? b=some o)->Q (.ref s.heap.objs.size) { s with heap:=h',toks:=tk }):
  wpAny (model prog w) A (call (.type "set") [.ref l]) Q Z s:=by
 obtain⟨c,tl,z⟩:=F.called_set.mro;have Yx:=F.called_set.made;have Pr:=F.called_set.sub;have n1:=F.called_set.notType;have n2:=F.called_set.canCreate;have n3:=F.typeCall_set_1 (.ref l);refine wpAny_call (codeAny_of_tree (show wpAny _ _ (callAny (.type "set") _) _ _ _ from Yc ⟨Code.quiet_builtin _ (by rfl'),codeAny_builtin F.entry_type_call ?_⟩));rw[Around.under_plain (weight_type_call_type "set" [.ref l] []) rfl];repeat (any_goals (first | assumption | wp_step))
 refine codeAny_mono (code_set_new_1 (.ref l) (E:=Z) (Q₁:=λo t=>∃led:Bool,o=.ref s.heap.objs.size/\t={ s with heap:=s.heap.push (fo led) }) λled=>⟨led,rfl,rfl⟩) λr t f=>?_
 cases r with
 |error e=>exact f
 |ok fl=>
  cases fl with
  |ret o=>
   obtain⟨led,rfl,rfl⟩:=f;have B:(s.heap.push (fo led)).get? s.heap.objs.size=some (fo led):=Yg _ rfl;have ty:Shared.TypeIs { s with heap:=s.heap.push (fo led) } (.ref s.heap.objs.size) "set":=⟨_,B,rfl⟩;have l1:=F.called_set.init.lookup;have l2:=F.called_set.init.bind (.ref s.heap.objs.size);repeat (any_goals (first | assumption | wp_step))
   refine codeAny_mono (codeAny_call_builtin (R:=wants (λr C=>r=.none/\∃h' tk,C={ s with heap:=h',toks:=tk }/\h'.SetOf knd s.heap.objs.size (λk=>decide (k∈bx ks)) (bx ks).length /\
     (∀b o,b<s.heap.objs.size->s.heap.get? b=some o->h'.get? b=some o)) Z) F.called_set.init.plain F.entry_set_init (check_set_init_1 ty ?_)) λV C g=>?_
   ·have G:(s.heap.push (fo led)).get? l=some { cls:=.type T,dict:=od,data:=.seq a m,slots:=G' }:=Yd _ u
    unfold Builtin.«set.__init__» noKeywords Builtin.Frozenset.updateFrom;generalize hPI:pyIter=PI;wp_walk;subst hPI;refine P G (Yb (wpAny_runValue ?_));have j:(s.heap.push (fo led)).objs.size=s.heap.objs.size+1:=Heap.size_push ..;have L:l<s.heap.objs.size:=Ye u;have X:l≠(s.heap.push (fo led)).objs.size:=by rw[j];exact ZT (Nat.lt_succ_of_lt L)
    have Y:s.heap.objs.size∉[(s.heap.push (fo led)).objs.size,l]:=by
     rw[j];intro y;rcases ZZ.1 y with y | y
     ·exact absurd y (ZT (YK _))
     ·exact absurd (List.mem_singleton.1 y) (Nat.ne_of_gt L)
    obtain⟨St,W,h0⟩:=S _ X;refine Gx ((W (by simp[O])).toS) (knd:=knd) (ks:=ks) Y hn U hb (a.size-0) 0 _ (by omega) (YL _) (h0 _ (Yg _ rfl) (Yd _ G)) ?_ ?_
    ·have:=(setObjOf_fresh (knd:=knd) led).setOf (Yd ({ cls:=.type I,data:=.fields #[.ref l,.int 0 0] }:Obj) B) (by unfold scanBound;omega)
     exact yG this (λk=>by simp[bx]) (by simp[bx])
    ·intro t' d n
     obtain⟨h',g',d',Rv,Vj⟩:=t';obtain rfl:g'=s.gens:=d.gens;obtain rfl:d'=s.drawn:=d.drawn;obtain rfl:Vj=s.os:=d.os;refine Yc (show wpAny _ _ (ret Value.none) _ _ _ from Yc ⟨rfl,h',Rv,rfl,n,λb o lt e=>d.heap b o ?_ (Yd _ (Yd _ e))⟩);rw[j];intro y;rcases ZZ.1 y with y | y
     ·exact ZT lt y
     ·exact ZT (Nat.lt_succ_of_lt lt) (List.mem_singleton.1 y)
   ·cases V with
    |error e=>exact g
    |ok p=>
     cases p with
     |ret r=>
      obtain⟨rfl,h',tk,rfl,n,k'⟩:=g;repeat (any_goals (first | assumption | wp_step))
      exact q _ _ n k'
     |_=>exact g.elim
  |_=>exact f.elim
theorem En{l:Addr}{c:Zl}{ks:List K}{Q:Zb}(d:A.handled=none)(hl:s.heap.IsList l c)(hn:ks.length=c.size)
  (f:∀(i:Nat) (v:Value),c[i]?=some v->∀k,ks[i]?=some k->knd.is k v=true/\v.scannable=true) (hb:c.size+1<scanBound)
  (q:∀(h':Heap) (tk:Nat),h'.SetOf knd s.heap.objs.size (λk=>decide (k∈bx ks)) (bx ks).length ->
   (∀b o,b<s.heap.objs.size->s.heap.get? b=some o->h'.get? b=some o)->Q (.ref s.heap.objs.size) { s with heap:=h',toks:=tk }):
  wpAny (model prog w) A (call (.type "set") [.ref l]) Q Z s:=by
 obtain⟨⟨oc,od,j,G'⟩,n,p,m,r⟩:=hl;obtain rfl:oc=.type "list":=p;obtain rfl:j=.seq c m:=r;exact wB (I:="list_iterator") d n F.sub_list_set F.sub_list_frozenset (by decide) (λg=>wpAny_pyIter_list ⟨_,g,rfl,_,rfl⟩) (λJ t=>⟨_,λh=>Walks.list h J l t c,λh' a b=>⟨⟨_,a,rfl,rfl⟩,⟨_,b,rfl,_,rfl⟩⟩⟩) hn f hb q
theorem CI{l:Addr}{c:Zl}{ks:List K}{Q:Zb}(d:A.handled=none)(hl:s.heap.IsTuple l c)(hn:ks.length=c.size)
  (f:∀(i:Nat) (v:Value),c[i]?=some v->∀k,ks[i]?=some k->knd.is k v=true/\v.scannable=true) (hb:c.size+1<scanBound)
  (q:∀(h':Heap) (tk:Nat),h'.SetOf knd s.heap.objs.size (λk=>decide (k∈bx ks)) (bx ks).length ->
   (∀b o,b<s.heap.objs.size->s.heap.get? b=some o->h'.get? b=some o)->Q (.ref s.heap.objs.size) { s with heap:=h',toks:=tk }):
  wpAny (model prog w) A (call (.type "set") [.ref l]) Q Z s:=by
 obtain⟨⟨oc,od,j,G'⟩,n,p,m,r⟩:=hl;obtain rfl:oc=.type "tuple":=p;obtain rfl:j=.seq c m:=r;exact wB (I:="tuple_iterator") d n F.sub_tuple_set F.sub_tuple_frozenset (by decide) (λg=>wpAny_pyIter_tuple ⟨_,g,rfl,_,rfl⟩) (λJ t=>⟨_,λh=>Walks.tuple h J l t c,λh' a b=>⟨⟨_,a,rfl,rfl⟩,⟨_,b,rfl,_,rfl⟩⟩⟩) hn f hb q
end
end DD
namespace DD
open PySem PySem.Spec PyProof.Rows L2
def pw:List D->Option (List Str)
 |[]=>some []
 |.str x::r=>(pw r).map (x :: ·)
 |_=>none
def j7:List D->Option (List Int)
 |[]=>some []
 |.int x::r=>(j7 r).map (x :: ·)
 |_=>none
theorem yH{K:Za}{H:Hp}:∀{ds:List D}{ks:Zf}{vs:List V},pw ds=some ks->aj K H ds vs->vs=ks.map V.str
 |[],ks,vs,h,r=>by
  rw[pw] at h;cases h;rw[aj] at r;subst r;rfl
 |.str x::ds,ks,vs,h,r=>by
  rw[pw] at h;rw[aj] at r;obtain⟨v,c,rfl,a,b⟩:=r;cases q:pw ds with
  |none=>rw[q] at h;cases h
  |some d=>
   rw[q] at h;cases h;rw[yH q b,RV.str_.1 a];rfl
 |.non::_,_,_,h,_=>by cases h
 |.bl _::_,_,_,h,_=>by cases h
 |.int _::_,_,_,h,_=>by cases h
 |.tup _::_,_,_,h,_=>by cases h
 |.ref _::_,_,_,h,_=>by cases h
 |.ty _::_,_,_,h,_=>by cases h
theorem tG{K:Za}{H:Hp}:∀{ds:List D}{ks:Zi}{vs:List V},j7 ds=some ks->aj K H ds vs->vs=ks.map V.int
 |[],ks,vs,h,r=>by
  rw[j7] at h;cases h;rw[aj] at r;subst r;rfl
 |.int x::ds,ks,vs,h,r=>by
  rw[j7] at h;rw[aj] at r;obtain⟨v,c,rfl,a,b⟩:=r;cases q:j7 ds with
  |none=>rw[q] at h;cases h
  |some d=>
   rw[q] at h;cases h;rw[tG q b,RV.int_.1 a];rfl
 |.non::_,_,_,h,_=>by cases h
 |.bl _::_,_,_,h,_=>by cases h
 |.str _::_,_,_,h,_=>by cases h
 |.tup _::_,_,_,h,_=>by cases h
 |.ref _::_,_,_,h,_=>by cases h
 |.ty _::_,_,_,h,_=>by cases h
def r9(xs:List D)(Q:Int->Prop):Prop:=xs.length<4000/\match pw xs with
 |some ks=>Q ((bx ks).length:Nat)
 |none=>match j7 xs with
  |some ks=>Q ((bx ks).length:Nat)
  |none=>False
def CJ(d:D)(M:MH)(Q:List D->Prop):Prop:=match d with
 |.ref a=>match M a with
  |some (.lst xs)=>Q xs
  |some (.rol xs)=>Q xs
  |_=>False
 |_=>False
def Gy(d:D)(M:MH)(Q:List D->Prop):Prop:=match d with
 |.tup xs=>Q xs
 |d=>CJ d M Q
def vK(t:WE):WE:=λσ M Q=>t σ M λd M1=>Gy d M1 λxs=>r9 xs λn=>Q (.int n) M1
section
variable {X:Cx}{H:Hp}{pos:Pos}
theorem Jt{K:Za}{d:D}{M:MH}{Q:List D->Prop}{v:V}(q:CJ d M Q)(g:RV K H d v)(j:RM K M H):∃a xs vs,v=.ref a/\bH K H a vs/\aj K H xs vs/\Q xs:=by
 unfold CJ at q;split at q
 ·rename_i a
  split at q
  ·rename_i xs e
   obtain⟨b,c,f⟩:=j a _ e;exact⟨a,xs,b,RV.ref_.1 g,bH.of c,f,q⟩
  ·rename_i xs e
   obtain⟨b,c,f⟩:=j a _ e;exact⟨a,xs,b,RV.ref_.1 g,.inl c,f,q⟩
  ·exact Yh q
 ·exact Yh q
theorem Ep{b_:Zc}{ρ:L2.St}{s:Shared}{a:Addr}{xs:List D}{vs:List V}{Q:Int->Prop}{Z:Zb}{R:Zb}(hc:X.calm=true)(I:af X b_ ρ H s)(hq:bH X.K H a vs\/ca X.K H a vs)(j:aj X.K H xs vs)(q:r9 xs Q)
  (g:∀n tk h' r,Q n->af X b_ ρ H { s with heap:=h',toks:=r }->R (.int n tk) { s with heap:=h',toks:=r }):
  wpAny (model X.prog X.w) X.A (call (.type "set") [.ref a]) (λu s1=>wpAny (model X.prog X.w) X.A (call (.builtin "len") [u]) R Z s1) Z s:=by
 have ht:∃f_,av vs f_/\(s.heap.IsList a f_.toArray\/s.heap.IsTuple a f_.toArray):=by
  rcases hq with hq | hq
  ·obtain⟨f_,c,p,_⟩:=I.list hq
   exact⟨f_,c,.inl p.isList⟩
  ·obtain⟨f_,c,p,_⟩:=I.tuple hq
   exact⟨f_,c,.inr p⟩
 obtain⟨f_,c,p⟩:=ht;have T:xs.length=f_.length:=by rw[j.len,c.length]
 have y:∀{K:Type}[DecidableEq K] {knd:KeyKind X.prog X.w K}{ks:List K}{l:Zb},ks.length=f_.toArray.size->(∀(i:Nat) (v:Value),f_.toArray[i]?=some v->∀k,ks[i]?=some k->knd.is k v=true/\v.scannable=true)->f_.toArray.size+1<scanBound ->
   (∀(h':Heap) (tk:Nat),h'.SetOf knd s.heap.objs.size (λk=>decide (k∈bx ks)) (bx ks).length->(∀b o,b<s.heap.objs.size->s.heap.get? b=some o->h'.get? b=some o)->l (.ref s.heap.objs.size) { s with heap:=h',toks:=tk }) ->
   wpAny (model X.prog X.w) X.A (call (.type "set") [.ref a]) l Z s:=by
  intro K _ knd ks l z B C E;rcases p with p | p
  ·exact En (I.ok.hd hc) p z B C E
  ·exact CI (I.ok.hd hc) p z B C E
 unfold r9 at q;obtain⟨hl,q⟩:=q;have fin:∀{K:Type}[DecidableEq K] {knd:KeyKind X.prog X.w K}{ks:List K}(h':Heap) (tk:Nat),h'.SetOf knd s.heap.objs.size (λk=>decide (k∈bx ks)) (bx ks).length->Q ((bx ks).length:Nat) ->
   (∀b o,b<s.heap.objs.size->s.heap.get? b=some o->h'.get? b=some o)->wpAny (model X.prog X.w) X.A (call (.builtin "len") [.ref s.heap.objs.size]) R Z { s with heap:=h',toks:=tk }:=by
  intro K _ knd ks h' tk st F kp;obtain⟨o,es,U,t,G,J,L,_,_,O,P,S⟩:=st;rw[←S] at F;refine call_len_set (s:={ s with heap:=h',toks:=tk }) G J L P (by unfold scanBound at O;omega) ?_;exact g _ _ h' (tk+1+1) F (I.kept (t':=tk+1+1) λb o e=>kp b o (Ye e) e)
 split at q
 ·rename_i ks e
  obtain rfl:=yH e j;have m:ks.length=f_.length:=by have:=c.length;simpa using this
  refine y (knd:=strKind X.prog X.w) (ks:=ks) (by simpa using m) (λi v d k hk=>?_) (by unfold scanBound;simp;omega) λh' tk st kp=>fin h' tk st q kp
  obtain⟨u,f,h2⟩:=c.get (i:=i) (x:=.str k) (by simp[hk]);have:v=u:=by simp at d;rw[d] at f;cases f;rfl
  subst this;obtain⟨t,rfl⟩:∃t,v=Value.str k t:=h2;exact⟨strKind_is _ _ _ _,rfl⟩
 ·split at q
  ·rename_i ks e
   obtain rfl:=tG e j;have m:ks.length=f_.length:=by have:=c.length;simpa using this
   refine y (knd:=intKind X.prog X.w) (ks:=ks) (by simpa using m) (λi v d k hk=>?_) (by unfold scanBound;simp;omega) λh' tk st kp=>fin h' tk st q kp
   obtain⟨u,f,h2⟩:=c.get (i:=i) (x:=.int k) (by simp[hk]);have:v=u:=by simp at d;rw[d] at f;cases f;rfl
   subst this;obtain⟨t,rfl⟩:∃t,v=Value.int k t:=h2;exact⟨intKind_is _ _ _ _,rfl⟩
  ·exact Yh q
theorem CK{l:Expr}{t:WE}{p p2 r:Pos}(hc:X.calm=true)(hg:Gl X "len")(hm:X.mg "len" = none)(z:Gl X "set")(A:X.mg "set" = none)(h:aP X l t)(k:ay l=true):aP X (.Call (.Name "len" p) [.Call (.Name "set" p2) [l] [] r] [] pos) (vK t):=by
 intro σ M ρ H Q rs B q b_ s I;refine Call_ (fg I hg hm PySem.boot_len (callWith_builtin1 (args_cons (Call_ (fg I z A (by rfl':bootBuiltins "set" = some (.type "set")) (PyProof.Rows.callWith_type1 (args_cons (aN (h σ M ρ H _ rs B q b_ s I) λu s1 C=>?_) (bI k)) (bI k) rfl))))));obtain⟨v,f,E,F,⟨G,d,M1,m,o,b⟩⟩:=C;have g:∃a xs vs,v=.ref a/\(bH X.K f a vs\/ca X.K f a vs)/\aj X.K f xs vs/\r9 xs λn=>Q (.int n) M1:=by
  unfold Gy at b;dsimp only at b;split at b
  ·obtain⟨a,vs,rfl,sq,c⟩:=RV.tup_.1 m
   exact⟨a,_,vs,rfl,.inr sq,c,b⟩
  ·obtain⟨a,xs,vs,rfl,sq,c,j⟩:=Jt b m o
   exact⟨a,xs,vs,rfl,.inl sq,c,j⟩
 obtain⟨a,xs,vs,rfl,sq,c,j⟩:=g;cases F;refine args_nil ?_
 have:=Ep (X:=X) (R:=λw t=>EP X b_ ρ (lift X.K H Q) w t) (Z:=X.xe) hc E sq c j λn tk h' O J L=>⟨.int n,f,L,⟨_,rfl⟩,G,.int n,M1,RV.int_.2 rfl,o,J⟩
 exact wpAny_mono this (λu t y=>args_nil y) λ_ _ y=>y
end
end DD
namespace DD
open PySem L2
theorem CL:typeLookup (.type "str") "__int__" = pure none:=by rw[typeLookup_type,builtinLookup_eq_fast];kernel_rfl
theorem yI:typeLookup (.type "str") "__index__" = pure none:=by rw[typeLookup_type,builtinLookup_eq_fast];kernel_rfl
theorem yJ:typeLookup (.type "str") "__trunc__" = pure none:=by rw[typeLookup_type,builtinLookup_eq_fast];kernel_rfl
theorem MD{a:Type}{b:Model}{A:Around}{Z:Zb}{s:Shared}{m m':Sem a}{Q:a->Shared->Prop}(e:m=m')(h:wpAny b A m' Q Z s):wpAny b A m Q Z s:=e▸h
def xH(x:Str):Option Int:=([("1",1),("2",2),("3",3),("4",4),("5",5),("6",6)]:List (Str×Int)).lookup x
theorem Gz{x:Str}{n:Int}(h:xH x=some n)(t:Tok):Meets (Builtin.«int.__new__» ⟨[.type "int",.str x t],[]⟩) (Made.int n).spec:=
 Meets.of_wp λprog w A R s a=>by
  obtain⟨hp,g,d,tk,os⟩:=s;have b:=F.conv_sub_int;have c:=F.madeHere_int;have f:(⟨hp,g,d,tk,os⟩:Shared).TypeIs (.str x t) "str":=rfl;have j:=CL;have k:=yI;have l:=yJ;repeat (any_goals (first | assumption | wp_step))
  unfold xH at h;simp only[XH] at h;iterate 6
   split at h
   ·rename_i e
    have hn:=Yi h;obtain rfl:=eq_of_beq e;rw[if_pos (by rfl')];refine Yb (Yc ?_);dsimp only;refine MD (m':=mkInt n) (by subst hn;kernel_rfl) (wpAny_mkInt ?_);exact Yc ⟨_,rfl,a⟩
  cases h
def uK:az:=λds M Q=>match ds with
 |[.str x]=>bn (xH x) λn=>Q (.int n) M
 |ds=>Cz ds M Q
theorem GA{prog:Zw}{w:World}{A:Around}{Z:Zb}{s:Shared}{x:Str}{n:Int}{t:Tok}{Q:Zb}(h:xH x=some n)(q:Q (.int n s.toks) { s with toks:=s.toks+1 }):
  wpAny (model prog w) A (call (.type "int") [.str x t]) Q Z s:=by
 exact call_int_1 (Gz h t) (show(Made.int n).post _ s from⟨rfl,q⟩)
theorem Ju{X:Cx}:fQ X (.type "int") uK:=by
 intro ds vs H M Q r a h;unfold uK at h;split at h
 ·rename_i x
  obtain⟨n,e,q⟩:=bg h;obtain⟨v,rfl,b⟩:=dF r;cases RV.str_.1 b;intro b_ s ρ us I c;obtain⟨u,rfl,t,rfl⟩:=vals1 c;exact GA e ⟨.int n,H,I.tok _,⟨_,rfl⟩,aD (RV.int_.2 rfl) a q⟩
 ·exact Ll _ _ _ _ _ r a h
end DD
namespace DD
open PySem PySem.Spec PyProof.Rows L2
section
variable {X:Cx}{H:Hp}{pos:Pos}{e:Expr}{es:Zg}
inductive Bj where
 |int
 deriving DecidableEq
def Er:Bj->az
 |.int=>uK
def uL:Bj->Str
 |.int=>"int"
theorem Lu(b:Bj)(hc:X.calm=true){t:WA}{p:Pos}(hg:Gl X (uL b))(hm:X.mg (uL b)=none)(a:ay e=true)(c:es.all ay=true)(ha:ip X (e::es) t):aP X (.Call (.Name (uL b) p) (e::es) [] pos) (gK (Er b) t):=by
 cases b with
 |int=>exact lB Ju hg hm (by rfl') (by decide) (by decide) a c ha
end
def fq(a:Int)(n:Nat):List V:=(List.range n).map λ(i:Nat)=>.int (a+(i:Int))
theorem CM(a:Int)(n:Nat):(fq a n).length=n:=by unfold fq;rw[ZF,ZI]
theorem sd{K:Za}{H:Hp}{a:Type}{f:a->D}{g:a->V}(h:∀x,RV K H (f x) (g x)):∀(l:List a),aj K H (l.map f) (l.map g)
 |[]=>.nil
 |x::l=>.cons (h x) (sd h l)
theorem GB{K:Za}{H:Hp}(a b:Int):aj K H (bP a b) (fq a (b-a).toNat):=sd (λ_=>RV.int_.2 rfl) _
theorem uM:∀(f_:Zd) (a:Int),(∀(j:Nat) v,f_[j]?=some v->∃t,v=Value.int (a+j*1) t)->av (fq a f_.length) f_
 |[],_,_=>.nil
 |u::f_,a,h=>by
  have e:fq a (u::f_).length=.int a::fq (a+1) f_.length:=by
   unfold fq;rw[YH,List.range_succ_eq_map,YJ,ZL];congr 1
   ·simp
   ·refine ZM λi _=>?_
    show V.int (a+((i+1:Nat):Int))=V.int (a+1+(i:Int));congr 1;omega
  rw[e];refine .cons ?_ (uM f_ (a+1) λj v e=>?_)
  ·obtain⟨t,e⟩:=h 0 u rfl
   exact⟨t,by rw[e];simp⟩
  ·obtain⟨t,b⟩:=h (j+1) v (by simpa using e)
   refine⟨t,?_⟩;rw[b];congr 1;omega
def CN(ds:List D)(Q:List D->Prop):Prop:=match ds with
 |[.int j]=>(-1000000<j/\j<1000000)/\Q (bP 0 j)
 |[.int i,.int j]=>(-1000000<i/\i<1000000/\-1000000<j/\j<1000000)/\Q (bP i j)
 |_=>False
def CO(t:WA):WE:=λσ M Q=>t σ M λds M1=>CN ds λxs=>∀p,M1 p=none->Q (.ref p) (ac M1 p (.lst xs))
section
variable {X:Cx}{H:Hp}{pos:Pos}{e:Expr}{es:Zg}
theorem Et{b_:Zc}{ρ:L2.St}{s:Shared}{lo a:Int}{t u v:Tok}{tk:Nat}{M:MH}{d:Hp}{Q:DK}(hc:X.calm=true)(I:af X b_ ρ H s)(l:Kp d H)(f:RM X.K M H)(E:-1000000<lo)(h2:lo<1000000)(F:-1000000<a)(G:a<1000000)
  (q:∀p,M p=none->Q (.ref p) (ac M p (.lst (bP lo a)))):
  wpAny (model X.prog X.w) X.A (call (.type "list") [.ref s.heap.objs.size]) (EP X b_ ρ (lift X.K d Q)) X.xe { s with heap:=s.heap.push { cls:=.type "range",data:=.fields #[.int lo t,.int a u,.int 1 v] },toks:=tk }:=by
 have g:af X b_ ρ H { s with heap:=s.heap.push { cls:=.type "range",data:=.fields #[.int lo t,.int a u,.int 1 v] },toks:=tk }:=I.kept λb o e=>Yd _ e
 refine call_list_range (s:={ s with heap:=s.heap.push { cls:=.type "range",data:=.fields #[.int lo t,.int a u,.int 1 v] },toks:=tk }) (n:=(a-lo).toNat) (I.ok.hd hc) (IsRange.new ..) (small_one (by omega) (by omega) (by omega) (by omega))
  (by rw[rangeSize_one];split<;>omega) (by omega) λh' r h_ y hk z c=>?_
 obtain⟨B,c⟩:=c;have hl:h_.toList.length=(a-lo).toNat:=by rw[←B];simp
 have C:av (fq lo (a-lo).toNat) h_.toList:=by
  rw[←hl];refine uM h_.toList lo λj w e=>?_
  exact c j w (by rw[←XA];exact e)
 have hf:H (s.heap.push { cls:=.type "range",data:=.fields #[.int lo t,.int a u,.int 1 v] }).objs.size=none:=g.hok.fresh (YE _);have k:=Kp.new (o:=.lst (fq lo (a-lo).toNat)) hf;have hz:(fq lo (a-lo).toNat).length<=sizeLine:=by
  rw[CM];have:(2000000:Nat)<=sizeLine:=by decide
  omega
 exact⟨.ref _,_,g.laid (t':=r) hk (YE _) (show bp X.prog X.w _ h' _ (.lst (fq lo (a-lo).toNat)) from⟨hz,h_.toList,y,C,by simpa using z⟩),rfl,l.trans k,.ref _,_,RV.ref_.2 rfl,f.new (m:=.lst (bP lo a)) hf ⟨_,aK,GB _ _⟩,q _ (f.fresh hf)⟩
theorem GC{a:Expr}{t:WA}{p p2 c:Pos}(hc:X.calm=true)(hg:Gl X "list")(hm:X.mg "list" = none)(d:Gl X "range")(f:X.mg "range" = none)(ha:ip X [a] t)(g:ay a=true):
  aP X (.Call (.Name "list" p) [.Call (.Name "range" p2) [a] [] c] [] pos) (CO t):=by
 intro σ M ρ H Q rs k q b_ s I;refine Call_ (fg I hg hm (by rfl':bootBuiltins "list" = some (.type "list")) (PyProof.Rows.callWith_type1 (args_cons (Call_ (fg I d f boot_range (PyProof.Rows.callWith_type1 (aN (ha σ M ρ H _ rs k q _ b_ s I) λus s1 l=>?_) (bI g) rfl)))) rfl rfl));obtain⟨vs,C,m,n,⟨o,ds,M1,r,l2,w,b⟩⟩:=l;unfold CN at b;dsimp only at b;split at b
 ·obtain⟨v,rfl,y⟩:=dF r
  cases RV.int_.1 y;obtain⟨u,rfl,z⟩:=vals1 n;obtain⟨t,rfl⟩:=z;obtain⟨⟨A,B⟩,b⟩:=b;refine call_range_1 (args_nil ?_);exact Et hc m o w (by decide) (by decide) A B b
 ·rename_i i j
  exact absurd l2 (by simp)
 ·exact Yh b
theorem GD{a b:Expr}{t:WA}{p p2 f:Pos}(hc:X.calm=true)(hg:Gl X "list")(hm:X.mg "list" = none)(g:Gl X "range")(j:X.mg "range" = none)(ha:ip X [a,b] t)(k:ay a=true)(l:ay b=true):
  aP X (.Call (.Name "list" p) [.Call (.Name "range" p2) [a,b] [] f] [] pos) (CO t):=by
 intro σ M ρ H Q rs m q b_ s I;refine Call_ (fg I hg hm (by rfl':bootBuiltins "list" = some (.type "list")) (PyProof.Rows.callWith_type1 (args_cons (Call_ (fg I g j boot_range (PyProof.Rows.callWith_type1 (aN (ha σ M ρ H _ rs m q _ b_ s I) λus s1 n=>?_) (bI k) (dX (by rw[XN,l];rfl)))))) rfl rfl));obtain⟨vs,K,o,r,⟨w,ds,M1,y,l2,z,c⟩⟩:=n;unfold CN at c;dsimp only at c;split at c
 ·exact absurd l2 (by simp)
 ·obtain⟨v,L,rfl,A,B⟩:=Cu y
  cases RV.int_.1 A;cases RV.int_.1 B;obtain⟨u,O,rfl,C,d⟩:=r.two;obtain⟨t,rfl⟩:=C;obtain⟨t',rfl⟩:=d;obtain⟨⟨E,F,G,J⟩,c⟩:=c;refine call_range_2 (args_nil ?_);exact Et hc o w z E F G J c
 ·exact Yh c
structure HJ (K:Za) (C D:Addr) (b:Bool):Prop where
 cl:fY K C
 ha:PySem.W.findIn K (.ref C) "__class__" = some (some (.builtin "object.__class__"))
 hn:PySem.W.specialIn K (.builtin "object.__class__") "__get__" = some (some (.builtin "getset_descriptor.__get__"))
 ht:PySem.W.takesIn K (.builtin "object.__class__")=some true
 hm:PySem.W.mroIn K C (.type "object")=some true
 ki:PySem.W.kitOne K (.ref C) (.ref D)=some b
abbrev N9:=Addr->Addr->Option Bool
end
section
variable {prog:Zw}{w:World}{A:Around}{E:Zb}{s:Shared}{κ:Type}[DecidableEq κ]{knd:KeyKind prog w κ}
abbrev xI(knd:KeyKind prog w κ)(a:List (κ×Value)):Nat->Value->Prop:=λi v=>∃k x,a[i]?=some (k,x)/\knd.is k v=true
theorem Eu{d:Addr}{g:List (κ×Value)}{j:Nat}{Q:Bool->Shared->Prop}(hd:(d==sysModules)=false)(hm:s.heap.DictAt knd d g j)(hl:g.length<=2 ^ 24)(h:∀b tk,Q b { s with toks:=tk }):
  wpAny (model prog w) A (Builtin.List.listLengthHint (.ref d)) Q E s:=by
 have a:s.TypeIs (.ref d) "dict":=hm.dictOf.typeIs;unfold Builtin.List.listLengthHint;refine Yb (wpAny_specialOf a F.slot_dict_len.lookup ?_);generalize hid:("dict.__len__" : String)=c;wp_delta;rw[show splitId c=some ("dict","__len__") from by subst hid;rfl'];subst hid;refine Yb (wpAny_isInstance (T:="dict") (b:=true) a (by rw[isSubtype_type];kernel_rfl) ?_);refine wpAny_ite_split (λf=>absurd f (by decide)) (λ_=>?_);refine wpAny_ite_split (λ_=>?_) (λf=>absurd (by rfl') f);refine Yb (wpAny_typeOf a ?_);exact Yc (h false s.toks)
theorem sM{R:Result->Shared->Prop}{d:Addr}{a:List (κ×Value)}{g:Nat}(L:A.handled=none)(hd:(d==sysModules)=false)(hm:s.heap.DictAt knd d a g)(hl:a.length<=2 ^ 24)(S:Addr)(res:Value)(z:Nat)
  (l:s.heap.get? S=some { cls:=.type "list",data:=.seq #[] z })
  (O:∀h' tk h_ k,(∀b o,b≠S->s.heap.get? b=some o->h'.get? b=some o)->h'.get? S=some { cls:=.type "list",dict:=none,data:=.seq h_ k,slots:=#[] }->ItemsOf (xI knd a) h_ a.length->R (.ok (.ret res)) { s with heap:=h',toks:=tk }):
  wpAny (model prog w) A.in1 (Builtin.List.listExtendWith (.ref S) (.ref d) res)
   (λfin j=>match fin with
    |.done f=>R (.ok f) j
    |.again k=>k.quiet=true/\codeAny (model prog w) A k R j) (λe j=>R (.error e) j) s:=by
 have P:s.TypeIs (.ref d) "dict":=hm.dictOf.typeIs;have m:S≠d:=λe=>by
  obtain⟨o,es,T,_,U,_⟩:=id hm;rw[e,T] at l;cases l;cases U
 have n:d≠s.heap.objs.size:=ZT hm.lt_size;have p:S≠s.heap.objs.size:=ZT (Ye l);have W:=(Walks.dictKeys (prog:=prog) (w:=w) (A:=A.in1) (knd:=knd) L s.heap.objs.size d n a g).toS;have go:∀(h:Heap) (c tk:Nat),h.IsKeyIter s.heap.objs.size d 0 a.length g->(∀b o,b≠S->s.heap.get? b=some o->h.get? b=some o)->h.get? S=some { cls:=.type "list",data:=.seq #[] c } ->
   codeAny (model prog w) A (.builtin "list.extend.loop" ⟨[.ref S,.ref s.heap.objs.size,res],[]⟩) R { s with heap:=h,toks:=tk }:=by
  intro h c tk V hk X;refine codeAny_extend_loopS W (by rw[sizeLine_eq];omega) S (by simp;exact⟨p,m⟩) res a.length 0 _ #[] c rfl (YL _) ⟨V,hm.at' λo e=>hk d o (Ne.symm m) e⟩ X (ItemsOf.nil _) λj h_ k B r Y=>?_
  rw[Moved.eq_with B];refine O j.heap j.toks h_ k (λb o hb e=>B.heap b o (λZ=>?_) (hk b o hb e)) r Y;rcases ZZ.mp Z with e' | e'
  ·exact hb e'
  ·exact absurd (Ye e) (by rw[List.mem_singleton.mp e'];exact ZS _)
 unfold Builtin.List.listExtendWith;refine Yb (wpAny_typeOf P ?_);have n1:Builtin.List.listSameRef (.ref S) (.ref d)=false:=by simp[Builtin.List.listSameRef,m]
 simp only[n1,show(Value.type "dict" == Value.type "list")=false by decide,show(Value.type "dict" == Value.type "tuple")=false by decide,Bool.or_false,XG,if_false];refine Yb (wpAny_pyIter_dict hd hm ?_);refine Yb (Yj (Eu hd (hm.push _) hl λb tk=>?_));have t:(s.heap.push { cls:=.type "dict_keyiterator",data:=.fields #[.ref d,.int 0 0,.int a.length 0,.int g 0] }).IsKeyIter s.heap.objs.size d 0 a.length g:=⟨_,Yg _ rfl,rfl,rfl⟩;have s1:=Yd { cls:=.type "dict_keyiterator",data:=.fields #[.ref d,.int 0 0,.int a.length 0,.int g 0] } l;have u:∀b o,b≠S->s.heap.get? b=some o->(s.heap.push { cls:=.type "dict_keyiterator",data:=.fields #[.ref d,.int 0 0,.int a.length 0,.int g 0] }).get? b=some o:=λb o _ e=>Yd _ e
 generalize s.heap.push { cls:=.type "dict_keyiterator",data:=.fields #[.ref d,.int 0 0,.int a.length 0,.int g 0] }=y at t s1 u ⊢;refine wpAny_ite_split (λ_=>?_) (λ_=>Yc ⟨plainId_quiet F.plain_extend_loop _,go _ z _ t u s1⟩);refine Yb (wpAny_rule (Yb ?_));show wpAny _ _ (updateSeq S (·.push .none) >>= λ_=>updateSeq S (·.pop)) _ _ _;refine Yb (wpAny_updateSeq s1 rfl ?_);have s2:=Heap.get?_update_self (Obj.mapSeq (·.push Value.none)) s1 rfl;have C:(y.update S (Obj.mapSeq (·.push Value.none))).IsKeyIter s.heap.objs.size d 0 a.length g:=t.at λo e=>(Heap.get?_update_other _ _ p).trans e
 have G:∀b o,b≠S->s.heap.get? b=some o->(y.update S (Obj.mapSeq (·.push Value.none))).get? b=some o:=λb o hb e=>(Heap.get?_update_other _ _ (Ne.symm hb)).trans (u b o hb e)
 generalize y.update S (Obj.mapSeq (·.push Value.none))=h2 at C s2 G ⊢;refine wpAny_updateSeq (hz:=by seq_fits) s2 rfl ?_;have I:=Heap.get?_update_self (Obj.mapSeq (·.pop)) s2 rfl;have J:(h2.update S (Obj.mapSeq (·.pop))).IsKeyIter s.heap.objs.size d 0 a.length g:=C.at λo e=>(Heap.get?_update_other _ _ p).trans e
 have K:∀b o,b≠S->s.heap.get? b=some o->(h2.update S (Obj.mapSeq (·.pop))).get? b=some o:=λb o hb e=>(Heap.get?_update_other _ _ (Ne.symm hb)).trans (G b o hb e)
 generalize h2.update S (Obj.mapSeq (·.pop))=h3 at J I K ⊢;exact Yc ⟨plainId_quiet F.plain_extend_loop _,go h3 _ _ J K I⟩
end
section
variable {prog:Zw}{w:World}{A:Around}{E:Zb}{s:Shared}{κ:Type}[DecidableEq κ]{knd:KeyKind prog w κ}
theorem list_dict{Q:Zb}{d:Addr}{a:List (κ×Value)}{j:Nat}(l:A.handled=none)(hd:(d==sysModules)=false)(hm:s.heap.DictAt knd d a j)(hl:a.length<=2 ^ 24)
  (m:∀h' tk h_ f,(∀b o,s.heap.get? b=some o->h'.get? b=some o)->h'.get? s.heap.objs.size=some { cls:=.type "list",dict:=none,data:=.seq h_ f,slots:=#[] }->ItemsOf (xI knd a) h_ a.length ->
   Q (.ref s.heap.objs.size) { s with heap:=h',toks:=tk }):wpAny (model prog w) A (call (.type "list") [.ref d]) Q E s:=by
 refine callType_codes (Q₁:=λobj k=>obj=.ref s.heap.objs.size/\k={ s with heap:=s.heap.push { cls:=.type "list",data:=.seq #[] } }) F.called_list (F.typeCall_list_1 _) F.entry_list_init (code_list_new _ ⟨rfl,rfl⟩) λobj k n=>?_
 obtain⟨rfl,rfl⟩:=n;have c:(s.heap.push { cls:=.type "list",data:=.seq #[] }).get? s.heap.objs.size=some { cls:=.type "list",data:=.seq #[] }:=Yg _ rfl;refine⟨⟨_,c,rfl⟩,F.args_list_init_2 _ _,?_⟩;show wpAny _ _ (do let g ←Builtin.List.listItems (.ref s.heap.objs.size);Builtin.List.listUpdate (.ref s.heap.objs.size) (λ_=>#[]);letGo g.toList.reverse;Builtin.List.listExtendWith (.ref s.heap.objs.size) (.ref d) .none) _ _ _;refine Yb ?_;unfold Builtin.List.listItems;refine Yb (wpAny_seqItems c rfl (Yc ?_));show wpAny _ _ (updateSeq s.heap.objs.size (λ_=>#[]) >>= λ_=>letGo (#[]:Array Value).toList.reverse >>= λ_=>Builtin.List.listExtendWith (.ref s.heap.objs.size) (.ref d) .none) _ _ _;refine Yb (wpAny_updateSeq c rfl ?_);have p1:=Heap.get?_update_self (Obj.mapSeq (λ_=>(#[]:Array Value))) c rfl;have nd:d≠s.heap.objs.size:=ZT hm.lt_size;have p:((s.heap.push { cls:=.type "list",data:=.seq #[] }).update s.heap.objs.size (Obj.mapSeq (λ_=>(#[]:Array Value)))).DictAt knd d a j:=(hm.push _).at' λo e=>(Heap.get?_update_other _ _ (Ne.symm nd)).trans e
 refine Yb (wpAny_letGo ?_);refine sM (A:=A.in1) (s:={ s with heap:=(s.heap.push { cls:=.type "list",data:=.seq #[] }).update s.heap.objs.size (Obj.mapSeq (λ_=>(#[]:Array Value))) }) l hd p hl s.heap.objs.size .none _ p1 ?_;intro h' tk h_ f hk r t;refine⟨rfl,m h' tk h_ f (λb o e=>hk b o (ZT (Ye e)) ?_) r t⟩;exact(Heap.get?_update_other _ _ (Ne.symm (ZT (Ye e)))).trans (Yd _ e)
theorem yK{Q:List Value->Shared->Prop}{d:Addr}{a:List (κ×Value)}{j:Nat}(k:A.handled=none)(hd:(d==sysModules)=false)(hm:s.heap.DictAt knd d a j)(hl:a.length<=2 ^ 24)
  (l:∀h' tk h_,(∀b o,s.heap.get? b=some o->h'.get? b=some o)->s.heap.objs.size<h'.objs.size->ItemsOf (xI knd a) h_ a.length->Q h_.toList { s with heap:=h',toks:=tk }):wpAny (model prog w) A (collect (.ref d)) Q E s:=by
 have go:∀R:Result->Shared->Prop,(∀h' tk h_ c,(∀b o,s.heap.get? b=some o->h'.get? b=some o)->h'.get? s.heap.objs.size=some { cls:=.type "list",dict:=none,data:=.seq h_ c,slots:=#[] }->ItemsOf (xI knd a) h_ a.length ->
   R (.ok (.ret (.ref s.heap.objs.size))) { s with heap:=h',toks:=tk })->codeAny (model prog w) A (.builtin "list.__iadd__" ⟨[.ref s.heap.objs.size,.ref d],[]⟩) R { s with heap:=s.heap.push (seqObj "list" #[] 0) }:=by
  intro R m;refine codeAny_builtin entry_list_iadd' ?_;show wpAny _ _ (Builtin.List.listExtendWith (.ref s.heap.objs.size) (.ref d) (.ref s.heap.objs.size)) _ _ { s with heap:=s.heap.push (seqObj "list" #[] 0) };rw[Around.under_plainId (id:="list.__iadd__") (by rfl')];refine sM (A:=A) (R:=R) (s:={ s with heap:=s.heap.push (seqObj "list" #[] 0) }) k hd (hm.push _) hl s.heap.objs.size _ 0 (Yg _ rfl) ?_;intro h' tk h_ c hk f g;exact m h' tk h_ c (λb o e=>hk b o (ZT (Ye e)) (Yd _ e)) f g
 unfold collect;refine Yb (wpAny_runValue (codeAny_builtin entry_proto_collect' ?_));show wpAny _ _ (do again (.builtin "list.__iadd__" ⟨[←newList [],.ref d],[]⟩)) _ _ s;refine Yb (wpAny_newList (Yc ⟨Code.quiet_builtin _ (by rfl'),go _ λh' tk h_ c hk f g=>?_⟩));refine Yb (wpAny_load f ?_);exact Yc (l h' tk h_ hk (Ye f) g)
theorem Br:∀{vs:Zd}{c:Zi},vs.length=c.length->(∀(i:Nat) (v:Value) (n:Int),vs[i]?=some v->c[i]?=some n->∃t,v=Value.int n t)->IntsAre vs c
 |[],[],_,_=>.nil
 |[],_::_,h,_=>by cases h
 |_::_,[],h,_=>by cases h
 |v::vs,n::c,h,g=>by
  obtain⟨t,rfl⟩:=g 0 v n rfl rfl;exact .cons n t (Br (by simpa using h) λi v m a b=>g (i+1) v m (by simpa using a) (by simpa using b))
theorem CP {it:Value} {vs:Zd} {ns:Zi} {h':Heap} {tk:Nat} {Q:Zb} (d:IntsAre vs ns) (b:vs.length < 64)
  (h:∀ (out:Zl) (a:Zi),IntsAre out.toList a->a.Perm ns->a.Pairwise (·<=·)->Q (.ref h'.objs.size) { s with heap:=sortedHeap (h'.push (seqObj "list" vs.toArray 0)) h'.objs.size vs out,toks:=tk }) :
  wpAny (model prog w) A.in1 (do
   let l ← newList vs
   let _ ← holding [l] (call (.builtin "list.sort") [l] [])
   ret l) (λfin f=>∃ v,fin = Fin.done (.ret v)/\Q v f) E { s with heap:=h',toks:=tk }:=by
 refine Yb (wpAny_newList ?_)
 have c:(h'.push (seqObj "list" vs.toArray 0)).get? h'.objs.size = some (seqObj "list" vs.toArray 0):=Yg _ rfl
 show wpAny _ _ _ _ _ { s with heap:=h'.push (seqObj "list" vs.toArray 0),toks:=tk }
 refine Yb (Yj (wpAny_call_entry slot_list_sort ⟨_,c,rfl⟩ entry_list_sort (list_sort_tree c d b λout a g j k=>⟨_,rfl,?_⟩) (args_list_sort _)))
 exact Yc ⟨_,rfl,h out a g j k⟩
end
def intKeys:List (Key×D)->Option (List Int)
 |[]=>some []
 |(.inl i,_)::r=>(intKeys r).map (i :: ·)
 |_=>none
theorem sN:∀{a:ZC}{ns:Zi},intKeys a=some ns->a.map (·.1)=ns.map Sum.inl
 |[],ns,h=>by cases h;rfl
 |(.inl i,d)::r,ns,h=>by
  rw[intKeys] at h;cases q:intKeys r with
  |none=>rw[q] at h;cases h
  |some b=>rw[q] at h;cases h;rw[YJ,YJ,sN q]
 |(.inr x,d)::r,ns,h=>by cases h
def se(ns:Zi)(M:MH)(Q:DK):Prop:=ns.length<64/\∀(p:Addr) (a:Zi),M p=none->a.Perm ns->a.Pairwise (·<=·)->Q (.ref p) (ac M p (.lst (a.map .int)))
def lK:az:=λds M Q=>match ds with
 |[.ref a]=>match ck (M a) with
  |some xs=>bn (j7 xs) λns=>se ns M Q
  |none=>bn (pT (M a)) λb=>bn (intKeys b) λns=>se ns M Q
 |_=>False
theorem qV:∀{us:Zd}{a:Zi},IntsAre us a->av (a.map V.int) us
 |_,_,.nil=>.nil
 |_,_,.cons n t r=>.cons ⟨t,rfl⟩ (qV r)
theorem qW:∀{a:Zi}{us:Zd},av (a.map V.int) us->IntsAre us a
 |[],_,h=>by cases h;exact .nil
 |n::a,_,h=>by
  cases h with
  |cons r t=>
   obtain⟨tk,rfl⟩:=r;exact .cons n tk (qW t)
section
variable {X:Cx}{H:Hp}
theorem yL{b_:Zc}{ρ:L2.St}{s:Shared}{M:MH}{Q:DK}{ns a:Zi}{h':Heap}{tk:Nat}{p:Addr}{out:Zl}{e:Nat}(I:af X b_ ρ H s)(c:RM X.K M H)(q:se ns M Q)(k:∀b o,s.heap.get? b=some o->h'.get? b=some o)(hp:s.heap.objs.size<=p)
  (f:h'.get? p=some (seqObj "list" out e)) (g:IntsAre out.toList a) (d:a.Perm ns) (j:a.Pairwise (·<=·)):EP X b_ ρ (lift X.K H Q) (.ref p) { s with heap:=h',toks:=tk }:=by
 have hf:H p=none:=I.hok.fresh hp;have l:=Kp.new (o:=.lst (a.map V.int)) hf;have hz:(a.map V.int).length<=sizeLine:=by
  rw[ZF,d.length_eq];have:(64:Nat)<=sizeLine:=by decide
  have:=q.1
  omega
 exact⟨.ref p,_,I.laid (t':=tk) k hp (show bp X.prog X.w _ h' p (.lst (a.map V.int)) from⟨hz,out.toList,e,qV g,by simpa [seqObj] using f⟩),rfl,l,.ref p,_,RV.ref_.2 rfl,c.new (m:=.lst (a.map .int)) hf ⟨_,aK,sd (λ_=>RV.int_.2 rfl) a⟩,q.2 p a (c.fresh hf) d j⟩
theorem Ev(hc:X.calm=true):fQ X (.builtin "sorted") lK:=by
 intro ds vs H M Q r c h;unfold lK at h;split at h
 ·obtain⟨v,rfl,F⟩:=dF r
  cases RV.ref_.1 F;split at h
  ·rename_i xs d
   obtain⟨ns,f,q⟩:=bg h;obtain⟨us,sq,G⟩:=c.list d;obtain rfl:=tG f G;intro b_ s ρ J I g;obtain⟨u,rfl,j⟩:=vals1 g;cases j;obtain⟨f_,C,K,hz⟩:=I.list sq;have hl:f_.length=ns.length:=by have:=C.length;simpa using this.symm
   refine sorted_ints (vs:=f_) K.isList (qW C) (by have:=q.1;omega) λout L p t w=>?_
   obtain⟨e,y⟩:=sortedAll_at s.heap f_ out;exact yL (tk:=s.toks) I c q (λb o e=>sortedAll_old e) (YM _) y p t w
  ·obtain⟨d_,d,h⟩:=bg h
   obtain⟨ns,f,q⟩:=bg h;obtain⟨j',O,P,_⟩:=c.dict d;intro b_ s ρ J I g;obtain⟨u,rfl,j⟩:=vals1 g;cases j;obtain⟨hz,hd,xs,R,S⟩:=mI I.hok O;obtain⟨ep,hm⟩:=S.dictAt;have hk:xs.map (·.1)=ns.map Sum.inl:=by rw[←R.keys,P,sN f]
   have hl:xs.length=ns.length:=by have:=congrArg List.length hk;simpa using this
   refine Calls.call_function_entry kind_sorted plain_sorted entry_sorted (args_sorted1 _) ?_;unfold Builtin.«sorted»;refine Yb (m:=checkCount "sorted" 1 1 _) (Yc ?_);refine Yb (yK (A:=X.A.in1) (I.ok.hd hc) hd hm (by have:=q.1;omega) λh' tk h_ T hsz z=>?_);obtain⟨U,z⟩:=z;have V:h_.toList.length=ns.length:=by rw[←hl,←U];simp
   have W:IntsAre h_.toList ns:=Br V λi v n Y hn=>by
    obtain⟨k,x,hx,Z⟩:=z i v (by rw[←XA];exact Y);have B:k=Sum.inl n:=by
     have:=congrArg (λl=>l[i]?) hk
     simp only[ZG,hx,hn,Option.map_some] at this;cases this;rfl
    subst B;exact vD Z
   refine CP (s:=s) (A:=X.A) (it:=.none) W (by have:=q.1;omega) λout L p t w=>?_
   obtain⟨e,y⟩:=sortedHeap_at (h:=h'.push (seqObj "list" h_.toList.toArray 0)) (a:=h'.objs.size) (vs:=h_.toList) (n:=0) (out:=out) (Yg _ rfl);refine yL I c q (λb o e=>?_) (Nat.le_of_lt hsz) y p t w;have E:=T b o e;have hb:b<h'.objs.size:=Ye E;rw[sortedHeap_old (ZT hb) (by rw[Heap.size_push];exact Nat.lt_succ_of_lt hb)];exact Yd _ E
 ·exact Yh h
def gD:az:=λds M Q=>match ds with
 |[.ref a]=>match pT (M a) with
  |some b=>∀p,M p=none->Q (.ref p) (ac M p (.lst (keysOf b)))
  |none=>rW ds M Q
 |ds=>rW ds M Q
theorem wC{P:Zw}{w:World}:∀{xs:List (Key×Value)}{us:Zd},us.length=xs.length->(∀(i:Nat) (v:Value) (k:Key) (x:Value),us[i]?=some v->xs[i]?=some (k,x)->(bM P w).is k v=true)->av (xs.map λp=>kV p.1) us
 |[],[],_,_=>.nil
 |[],_::_,h,_=>by cases h
 |_::_,[],h,_=>by cases h
 |(k,x)::xs,u::us,h,g=>.cons (vD (g 0 u k x rfl rfl)) (wC (by simpa using h) λi v k x a b=>g (i+1) v k x (by simpa using a) (by simpa using b))
theorem GE(hc:X.calm=true):fQ X (.type "list") gD:=by
 intro ds vs H M Q r d h;unfold gD at h;split at h
 ·rename_i a
  split at h
  ·rename_i f y
   obtain⟨v,rfl,z⟩:=dF r;cases RV.ref_.1 z;obtain⟨c,A,B,_⟩:=d.dict y;intro b_ s ρ V I C;obtain⟨u,rfl,E⟩:=vals1 C;cases E;obtain⟨hz,hd,xs,l,F⟩:=mI I.hok A;obtain⟨W,hm⟩:=F.dictAt;have g:xs.length=c.length:=l.length.symm;by_cases n:xs.length<=2 ^ 24
   ·refine list_dict (I.ok.hd hc) hd hm n λh' tk h_ G hk J j=>?_
    obtain⟨L,j⟩:=j;have t:av (xs.map λp=>kV p.1) h_.toList:=wC (P:=X.prog) (w:=X.w) (by rw[←L];simp) λi v k x a b=>by
     obtain⟨k',Y,hx,O⟩:=j i v (by rw[←XA];exact a);rw[b] at hx;cases hx;exact O
    have R:(xs.map λp=>kV p.1)=c.map λp=>kV p.1:=by
     have:=l.keys
     have h2:(c.map (·.1)).map kV=(xs.map (·.1)).map kV:=by rw[this]
     rw[ZL,ZL] at h2;exact h2.symm
    rw[R] at t;have hf:H s.heap.objs.size=none:=I.hok.fresh (YE _);have S:=Kp.new (o:=.lst (c.map λp=>kV p.1)) hf;have T:aj X.K (upd H s.heap.objs.size (.lst (c.map λp=>kV p.1))) (keysOf f) (c.map λp=>kV p.1):=by
     have h2:keysOf f=(c.map (·.1)).map kD:=by unfold keysOf;rw[B,ZL];rfl
     have U:(c.map λp=>kV p.1)=(c.map (·.1)).map kV:=by rw[ZL];rfl
     rw[h2,U];exact sd (λk=>HB k) _
    exact⟨.ref s.heap.objs.size,_,I.laid (t':=tk) hk (YE _) (show bp X.prog X.w _ h' _ (.lst (c.map λp=>kV p.1)) from⟨by rw[ZF];exact hz,h_.toList,G,t,by simpa using J⟩),rfl,S,.ref _,_,RV.ref_.2 rfl,d.new (m:=.lst (keysOf f)) hf ⟨_,aK,T⟩,h _ (d.fresh hf)⟩
   ·exact absurd (by rw[g];rw[sizeLine_eq] at hz;omega) n
  ·exact Bm _ vs H M Q r d h
 ·exact Bm _ vs H M Q r d h
end
section
variable {X:Cx}{H:Hp}{pos:Pos}{e:Expr}{es:Zg}
inductive Bk where
 |sorted | list
 deriving DecidableEq
def pX:Bk->az
 |.sorted=>lK
 |.list=>gD
def uN:Bk->Str
 |.sorted=>"sorted"
 |.list=>"list"
theorem Lv(b:Bk)(hc:X.calm=true){t:WA}{p:Pos}(hg:Gl X (uN b))(hm:X.mg (uN b)=none)(a:ay e=true)(c:es.all ay=true)(ha:ip X (e::es) t):aP X (.Call (.Name (uN b) p) (e::es) [] pos) (gK (pX b) t):=by
 cases b with
 |sorted=>exact kt (Ev hc) hg hm (by rfl') (by decide) (by decide) a c ha
 |list=>exact lB (GE hc) hg hm (by rfl') (by decide) (by decide) a c ha
end
section
variable {prog:Zw}{w:World}{A:Around}{E:Zb}{s:Shared}
theorem yM{it t:Addr}{i:Nat}{c:Zl}{x:Value}{Q:Zb}(b:s.heap.IsTupleIter it t i)(ht:s.heap.IsTuple t c)(hx:c[i]?=some x)
  (d:∀h',h'.IsTupleIter it t (i+1)->Heap.SameBut it s.heap h'->Q x { s with heap:=h' }):wpAny (model prog w) A (Builtin.SmallTypes.nextOf (.ref it)) Q E s:=by
 obtain⟨o,a,hc,hd⟩:=id b;obtain⟨j,f,_,k,g⟩:=ht;unfold Builtin.SmallTypes.nextOf;refine Yb (wpAny_callSpecial?_slot (name:=Str.ofString "__next__") b.typeIs F.slot_tuple_iterator_next (wpAny_call_entry F.slot_tuple_iterator_next b.typeIs F.entry_tuple_iterator_next ?_ (F.args_tuple_iterator_next_1 _)));show wpAny _ _ (field (.ref it) 0 >>= _) _ _ s;refine Yb (wpAny_field a hd (x:=.ref t) rfl ?_);show wpAny _ _ (if(Value.ref t==Value.none)=true then _ else _) _ _ s;rw[if_neg (show ¬((Value.ref t==Value.none)=true) from YC)];show wpAny _ _ (field (.ref it) 1 >>= _) _ _ s;refine Yb (wpAny_field a hd (x:=.int i 0) rfl ?_);show wpAny _ _ (seqItems? (.ref t) >>= _) _ _ s;refine Yb (wpAny_seqItems f g ?_);simp only[YV,hx];refine Yb (wpAny_setField a hd (by simp) (Yc ⟨x,rfl,Yc (d _ ⟨_,Heap.get?_update_self _ a (Obj.isFreed_of_fields (Obj.data_mapFields hd _)),(Obj.cls_mapFields ..).trans hc,?_⟩ (Heap.SameBut.update ..))⟩));rw[Obj.data_mapFields hd];simp[rawInt]
theorem tH{it t:Addr}{i:Nat}{d:Zl}{Q:Zb}(f:A.handled=none)(b:s.heap.IsTupleIter it t i)(ht:s.heap.IsTuple t d)(hx:d[i]?=none)
  (g:∀h' e,Heap.ExtBut it s.heap h'->(∃o,h'.get? e=some o/\o.cls=.type "StopIteration")->E (.ref e) { s with heap:=h' }):wpAny (model prog w) A (Builtin.SmallTypes.nextOf (.ref it)) Q E s:=by
 obtain⟨o,c,hc,hd⟩:=id b;obtain⟨l,j,_,n,k⟩:=ht;unfold Builtin.SmallTypes.nextOf;refine Yb (wpAny_callSpecial?_slot (name:=Str.ofString "__next__") b.typeIs F.slot_tuple_iterator_next (wpAny_call_entry F.slot_tuple_iterator_next b.typeIs F.entry_tuple_iterator_next ?_ (F.args_tuple_iterator_next_1 _)));show wpAny _ _ (field (.ref it) 0 >>= _) _ _ s;refine Yb (wpAny_field c hd (x:=.ref t) rfl ?_);show wpAny _ _ (if(Value.ref t==Value.none)=true then _ else _) _ _ s;rw[if_neg (show ¬((Value.ref t==Value.none)=true) from YC)];show wpAny _ _ (field (.ref it) 1 >>= _) _ _ s;refine Yb (wpAny_field c hd (x:=.int i 0) rfl ?_);show wpAny _ _ (seqItems? (.ref t) >>= _) _ _ s;refine Yb (wpAny_seqItems j k ?_);simp only[YV,hx];refine Yb (wpAny_rule (Yb (wpAny_setField c hd (by simp) ?_)));show wpAny _ _ (newExc (.type "StopIteration") [] >>= _) _ _ _;refine Yb ?_;simp only[newExc,newTuple];refine Yb (wpAny_newObj_type ?_ (by size_fits));refine Yb (m:=firstArgMember _ _) (wpAny_of_eq (a:=Value.none) (by first | rfl | (simp only[firstArgMember];rfl)) (wpAny_newObj_type ?_ (by size_fits)));simp only[raiseNew];refine Yb (wpAny_handled ?_);first | rw[show A.in1.handled=none from f] | rw[f]
 refine Yb (Yc (wpAny_throw (g _ _ (((Heap.SameBut.update ..).extBut.push _).push _) ⟨_,Yg _ rfl,rfl⟩)))
theorem sO(d:A.handled=none)(it t:Addr)(f:t≠it)(a:Zl):Draws prog w A it [it,t] a.size (λi v=>a[i]?=some v) (λi h=>h.IsTupleIter it t i/\h.IsTuple t a) where
 live:=λ_ _ st=>let⟨o,ho,_⟩:=st.1;⟨o,ho⟩
 frame:=λ_ _ _ st hk=>⟨st.1.at λo e=>hk it (by simp) o e,let⟨o,ho,r⟩:=st.2;⟨o,hk t (by simp) o ho,r⟩⟩
 item:=λi s Q E b st g=>yM st.1 st.2 (x:=a[i]) (by simp[b]) λh' j c=>g _ h' s.toks (by simp[b]) ⟨j,st.2.extBut c.extBut f⟩ c
 done:=λs Q E st k=>tH d st.1 st.2 (by simp) k
theorem Ew(l:Addr)(a:Zl)(n:Nat)(f:Zm)(sl:Zn):
  Meets (Builtin.«enumerate.__new__» ⟨[.type "enumerate",.ref l],[]⟩) (λ_ R s=>s.heap.get? l=some { cls:=.type "tuple",dict:=f,data:=.seq a n,slots:=sl } /\
   R (.ok (.ret (.ref (s.heap.push { cls:=.type "tuple_iterator",data:=.fields #[.ref l,.int 0 0] }).objs.size)))
    { s with heap:=(s.heap.push { cls:=.type "tuple_iterator",data:=.fields #[.ref l,.int 0 0] }).push { cls:=.type "enumerate",data:=.fields #[.none,.bool false,.ref s.heap.objs.size,rawInt 0,.none,.none] } }):=by
 refine .of_wp λprog w A R s h=>?_
 obtain⟨hp,g,d,tk,os⟩:=s;obtain⟨hl,h⟩:=h;have j:=sub_enumerate;have b:Heap.IsTuple (Shared.heap ⟨hp,g,d,tk,os⟩) l a:=⟨_,hl,rfl,n,rfl⟩;wp_walk using AutoSeq1.wpAny_loadPart' hl;refine wpAny_stack_any λst=>Yc ?_
 split
 ·rename_i c _ _ _ _ _
  cases(c==Value.type "enumerate")<;>(wp_walk using AutoSeq1.wpAny_loadPart' hl,wpAny_pyIter_tuple b;exact⟨_,rfl,h⟩)
 ·wp_walk using AutoSeq1.wpAny_loadPart' hl,wpAny_pyIter_tuple b
  exact⟨_,rfl,h⟩
theorem CQ{l:Addr}{a:Zl}{Q:Zb}(f:s.heap.IsTuple l a)
  (h:∀h',IsEnum h' (s.heap.objs.size+1) s.heap.objs.size 0 .none->h'.IsTupleIter s.heap.objs.size l 0->(∀b o,s.heap.get? b=some o->h'.get? b=some o)->Q (.ref (s.heap.objs.size+1)) { s with heap:=h' }):
  wpAny (model prog w) A (call (.type "enumerate") [.ref l]) Q E s:=by
 obtain⟨⟨c,g,j,sl⟩,hl,hc,n,hd⟩:=f;obtain rfl:c=.type "tuple":=hc;obtain rfl:j=.seq a n:=hd;refine callType_new F.called_enumerate (by decide) (F.typeCall_enumerate_1 _) (F.newCall_enumerate_1 _) (λobj=>F.args_object_init_2 obj _) F.entry_enumerate_new (Ew l a n g sl) ⟨hl,?_⟩;have hz:(s.heap.push { cls:=.type "tuple_iterator",data:=.fields #[.ref l,.int 0 0] }).objs.size=s.heap.objs.size+1:=Heap.size_push ..;show _/\_;rw[hz];have d:=Yg (s.heap.push { cls:=.type "tuple_iterator",data:=.fields #[.ref l,.int 0 0] }) (o:={ cls:=.type "enumerate",data:=.fields #[.none,.bool false,.ref s.heap.objs.size,rawInt 0,.none,.none] }) rfl;rw[hz] at d;exact⟨⟨_,d,rfl⟩,h _ d ⟨_,Yd _ (Yg _ rfl),rfl,rfl⟩ λb o x=>Yd _ (Yd _ x)⟩
end
section
variable {X:Cx}{b_:Zc}{σ:L2.St}{H:Hp}{s:Shared}{h':Heap}
theorem ME{fs ch:Zh}{h:Heap}(k:∀b o,b∉ch->h.get? b=some o->h'.get? b=some o):Un fs ch H H h h' where
 keep:=λb o e _ _ hc=>k b o hc e
 slot:=λb o e _ _ hc=>⟨o.slots,k b o hc e⟩
 free:=λ_ _ _ n _=>n
 there:=λb o e hc=>⟨o,k b o hc e⟩
 tups:=λ_ _ e=>e
 frzs:=λ_ _ _ e=>e
 tbls:=λb ps e=>⟨#[],by rw[e];simp⟩
theorem Lw{P:Zw}{w:World}{ch:Zh}{h:Heap}(ok:cC P w H h)(k:∀b o,b∉ch->h.get? b=some o->h'.get? b=some o)(hn:∀b∈ch,H b=none):cC P w H h':=λb u e=>by
 have a:∀c v,H c=some v->c∉ch:=λc v d z=>by rw[hn c z] at d;cases d
 refine(ok b u e).stay (λc v hc q=>k c v ?_ q) (λ_ q=>q) λ_ _ q=>q
 rcases hc with z | z
 ·rw[z];exact a b u e
 ·exact a c _ z
theorem af.turnedT{ch:Zh}{T:Addr}{xs:List V}{f_:Zd}{tk:Nat}(I:af X b_ σ H s)(k:∀b o,b∉ch->s.heap.get? b=some o->h'.get? b=some o)(hn:∀b∈ch,H b=none)
  (f:∀b∈ch,(b∈X.ex\/X.s₀.heap.objs.size<=b)/\b≠X.env.locals/\(∀x c,X.env.cells.lookup x=some c->c≠b)/\∀p∈X.pn++b_,p.1≠b) (d:s.heap.objs.size<=T) (r:av xs f_) (hz:xs.length<=sizeLine) (ht:IsTup h' T f_.toArray):
  af X b_ σ (upd H T (.tup xs)) { s with heap:=h',toks:=tk }:=by
 have hf:H T=none:=I.hok.fresh d;have a:=Lw I.hok k hn;refine I.call (g':=s.gens) (d':=s.drawn) (t':=tk) (Un.track (ME k) d hf) (λb u e=>?_) I.bare f;by_cases hb:b=T
 ·subst hb
  rw[aK] at e;cases e;exact⟨hz,f_,r,ht⟩
 ·rw[aS hb] at e
  refine(a b u e).stay (λc v _ q=>q) (λc q=>?_) λc g q=>?_
  ·rw[aS (bw q hf)];exact q
  ·rw[aS (bw q hf)];exact q
end
def Lx(K:Za)(a:Addr):It:=
 ⟨λi H=>∃xs x,bH K H a xs/\xs[i]?=some x,λi H x H'=>∃v p,(∀xs,bH K H a xs->xs[i]?=some v)/\H p=none/\H'=upd H p (.tup [.int (i:Int),v])/\x=.ref p,λi H=>∃xs,bH K H a xs/\xs.length<=i⟩
theorem Ex{P:Zw}{w:World}{K:Za}{l:Zg}{C:Nat}{tp:Pos}(a e it:Addr)(A:e≠it):Turn P w K (.Tuple l C tp) (Lx K a) [e,it] e (λi h=>(∃f,IsEnum h e it i f)/\h.IsListIter it a i) where
 mem:=by simp
 obj:=λi h st b hb=>by
  obtain⟨⟨f,g⟩,⟨o,F,c,d⟩⟩:=st;have n:b=e\/b=it:=by simpa using hb
  rcases n with rfl | rfl
  ·exact⟨_,g,λv z=>by cases z⟩
  ·exact⟨o,F,λv z=>by rw[d] at z;cases z⟩
 keep:=λi h h' st k=>by
  obtain⟨⟨f,g⟩,j⟩:=st;exact⟨⟨f,k e (by simp) _ g⟩,j.at λo x=>k it (by simp) o x⟩
 item:=by
  intro X r hw t hc i b_ s σ H E I hf st hg;subst r hw t;obtain⟨xs,x,hq,hx⟩:=hg;obtain⟨f_,y,p,hz⟩:=I.list hq;obtain⟨u,hu,G⟩:=y.get hx;obtain⟨⟨f,g⟩,j⟩:=st;have m:=hf e (by simp);have fi:=hf it (by simp);refine wpAny_pyNext_enum_item g j p.isList (x:=u) (by simpa using hu) A λh' J L O hsz hk=>⟨_,rfl,?_⟩
  have R:H s.heap.objs.size=none:=I.hok.fresh (YE _);have S:af X b_ σ (upd H s.heap.objs.size (.tup [.int (i:Int),x])) { s with heap:=h',toks:=s.toks+1 }:=af.turnedT (ch:=[e,it]) (f_:=[.int (i:Int) s.toks,u]) I
   (λb o hb q=>hk b o (λz=>hb (by simp[z])) (λz=>hb (by simp[z])) q)
   (λb hb=>(hf b hb).1) (λb hb=>⟨(hf b hb).2.2.2.1,(hf b hb).2.1,(hf b hb).2.2.2.2.1,(hf b hb).2.2.2.2.2⟩) (YE _) (.cons ⟨_,rfl⟩ (.cons G .nil)) (by show 2<=sizeLine;decide) ⟨_,O,rfl,_,rfl⟩
  have neT:∀b∈[e,it],b≠s.heap.objs.size:=λb hb z=>by
   have n:b=e\/b=it:=by simpa using hb
   rcases n with rfl | rfl
   ·exact absurd (Ye g) (by rw[z];exact ZS _)
   ·obtain⟨_,T,_⟩:=j;exact absurd (Ye T) (by rw[z];exact ZS _)
  refine wpAny_letOwnedTupleGo_enum (s:={ s with heap:=h',toks:=s.toks+1 }) J λU V B=>?_
  have W:=L2.af.turned (h':=U) (t':=s.toks+1) (it:=e) S (λb o hb q=>(B.2 b hb).trans q) (by rw[aS (neT e (by simp))];exact m.1) m.2.1 m.2.2.2.1 m.2.2.2.2.1 m.2.2.2.2.2;refine⟨.ref s.heap.objs.size,_,W,rfl,⟨x,s.heap.objs.size,λys hy=>by rw[I.list_inj hy hq];exact hx,R,rfl,rfl⟩,⟨⟨u,by simpa using V⟩,L.at λo q=>(B.2 it A.symm).trans q⟩,λb hb=>?_⟩;rw[aS (neT b hb)];exact(hf b hb).1
 done:=by
  intro X r hw t hc i b_ s σ H E I hf st hg;subst r hw t;obtain⟨xs,hq,hx⟩:=hg;obtain⟨f_,y,p,hz⟩:=I.list hq;obtain⟨⟨f,g⟩,j⟩:=st;obtain⟨Y,Z,f2,f3,f4,f5⟩:=hf it (by simp);have hl:=y.length;exact wpAny_pyNext_enum_end (I.ok.hd hc) g j p.isList (by simp;omega) λh' eb=>⟨rfl,I.turned (t':=s.toks) (λb o hb q=>eb b o hb q) Y Z f3 f4 f5⟩
 self:=λ_ _ _ _ _ st h=>by
  obtain⟨⟨f,g⟩,_⟩:=st;exact wpAny_pyIter_enum g h
def GF(K:Za)(a:Addr):It:=
 ⟨λi H=>∃xs x,ca K H a xs/\xs[i]?=some x,λi H x H'=>∃v p,(∀xs,ca K H a xs->xs[i]?=some v)/\H p=none/\H'=upd H p (.tup [.int (i:Int),v])/\x=.ref p,λi H=>∃xs,ca K H a xs/\xs.length=i⟩
theorem CS{P:Zw}{w:World}{K:Za}{n:Zg}{V:Nat}{tp:Pos}(a e it:Addr)(t:e≠it):Turn P w K (.Tuple n V tp) (GF K a) [e,it] e (λi h=>(∃f,IsEnum h e it i f)/\h.IsTupleIter it a i) where
 mem:=by simp
 obj:=λi h st b hb=>by
  obtain⟨⟨f,g⟩,⟨o,W,c,d⟩⟩:=st;have A:b=e\/b=it:=by simpa using hb
  rcases A with rfl | rfl
  ·exact⟨_,g,λv z=>by cases z⟩
  ·exact⟨o,W,λv z=>by rw[d] at z;cases z⟩
 keep:=λi h h' st k=>by
  obtain⟨⟨f,g⟩,j⟩:=st;exact⟨⟨f,k e (by simp) _ g⟩,j.at λo x=>k it (by simp) o x⟩
 item:=by
  intro X B hw C hc i b_ s σ H E I hf st hg;subst B hw C;obtain⟨xs,x,hq,hx⟩:=hg;obtain⟨f_,F,p,hz⟩:=I.tuple hq;obtain⟨u,hu,Y⟩:=F.get hx;obtain⟨⟨f,g⟩,j⟩:=st;have p:s.heap.IsTuple a f_.toArray:=p;have r:=hf e (by simp);have fi:=hf it (by simp);have G:a≠it:=λz=>by
   obtain⟨S,l,m,_⟩:=p;obtain⟨Z,J,L,_⟩:=j;rw[z,J] at l;cases l;rw[L] at m;exact absurd m (by decide)
  have O:e≠a:=λz=>by
   obtain⟨S,l,m,_⟩:=p;rw[←z,g] at l;cases l;exact absurd (show Value.type "enumerate" = Value.type "tuple" from m) (by decide)
  have hi:i<f_.toArray.size:=by have:=(YB.1 hu).1;simpa using this
  refine wpAny_pyNext_enum_itemD (sO (by simp[I.ok.hd hc]) it a G f_.toArray) g ⟨j,p⟩ hi t (by simp;exact⟨t,O⟩) λy h' tk hy ho Oz hT hsz hk=>⟨_,rfl,?_⟩
  have R:y=u:=by
   have T:f_[i]?=some y:=by simpa using hy
   rw[hu] at T;cases T;rfl
  subst R;have QY:H s.heap.objs.size=none:=I.hok.fresh (YE _);have I1:af X b_ σ (upd H s.heap.objs.size (.tup [.int (i:Int),x])) { s with heap:=h',toks:=tk+1 }:=af.turnedT (ch:=[e,it]) (f_:=[.int (i:Int) tk,y]) I
   (λb o hb q=>hk b o (λz=>hb (by simp[z])) (λz=>hb (by simp[z])) q)
   (λb hb=>(hf b hb).1) (λb hb=>⟨(hf b hb).2.2.2.1,(hf b hb).2.1,(hf b hb).2.2.2.2.1,(hf b hb).2.2.2.2.2⟩) (YE _) (.cons ⟨_,rfl⟩ (.cons Y .nil)) (by show 2<=sizeLine;decide) ⟨_,hT,rfl,_,rfl⟩
  have neT:∀b∈[e,it],b≠s.heap.objs.size:=λb hb z=>by
   have A:b=e\/b=it:=by simpa using hb
   rcases A with rfl | rfl
   ·exact absurd (Ye g) (by rw[z];exact ZS _)
   ·obtain⟨_,x1,_⟩:=j;exact absurd (Ye x1) (by rw[z];exact ZS _)
  refine wpAny_letOwnedTupleGo_enum (s:={ s with heap:=h',toks:=tk+1 }) ho λV0 Rx U=>?_
  have I2:=L2.af.turned (h':=V0) (t':=tk+1) (it:=e) I1 (λb o hb q=>(U.2 b hb).trans q) (by rw[aS (neT e (by simp))];exact r.1) r.2.1 r.2.2.2.1 r.2.2.2.2.1 r.2.2.2.2.2;refine⟨.ref s.heap.objs.size,_,I2,rfl,⟨x,s.heap.objs.size,λys hy=>by rw[I.tuple_inj hy hq];exact hx,QY,rfl,rfl⟩,⟨⟨y,by simpa using Rx⟩,Oz.1.at λo q=>(U.2 it t.symm).trans q⟩,λb hb=>?_⟩;rw[aS (neT b hb)];exact(hf b hb).1
 done:=by
  intro X B hw C hc i b_ s σ H E I hf st hg;subst B hw C;obtain⟨xs,hq,hx⟩:=hg;obtain⟨f_,F,p,hz⟩:=I.tuple hq;have p:s.heap.IsTuple a f_.toArray:=p;obtain⟨⟨f,g⟩,j⟩:=st;obtain⟨f0,f1,f2,f3,f4,f5⟩:=hf it (by simp);have G:a≠it:=λz=>by
   obtain⟨S,l,m,_⟩:=p;obtain⟨Z,J,L,_⟩:=j;rw[z,J] at l;cases l;rw[L] at m;exact absurd m (by decide)
  have hn:i=f_.toArray.size:=by rw[←hx,F.length];simp
  subst hn;exact wpAny_pyNext_enum_endD (sO (by simp[I.ok.hd hc]) it a G f_.toArray) g ⟨j,p⟩ λh' eb=>⟨rfl,I.turned (t':=s.toks) (λb o hb q=>eb b o hb q) f0 f1 f3 f4 f5⟩
 self:=λ_ _ _ _ _ st h=>by
  obtain⟨⟨f,g⟩,_⟩:=st;exact wpAny_pyIter_enum g h
def cE:Int->List D->List D
 |_,[]=>[]
 |n,d::r=>.tup [.int n,d]::cE (n+1) r
theorem iq:∀(n:Int) (ds:List D),(cE n ds).length=ds.length
 |_,[]=>rfl
 |n,d::r=>by rw[cE,YH,YH,iq]
theorem qX:∀{n:Int}{ds:List D}{i:Nat}{x:D},(cE n ds)[i]?=some x->∃d,ds[i]?=some d/\x=.tup [.int (n+i),d]
 |_,[],_,_,h=>by cases h
 |n,d::r,0,x,h=>by
  rw[cE] at h;simp at h;exact⟨d,rfl,by rw[←h];simp⟩
 |n,d::r,i+1,x,h=>by
  rw[cE] at h;obtain⟨d',a,h2⟩:=qX (n:=n+1) (ds:=r) (i:=i) (x:=x) (by simpa using h);refine⟨d',by simpa using a,?_⟩;rw[h2];congr 2;congr 1;omega
theorem yN{K:Za}{a:Addr}{ds:List D}{j:Hp}{g:MH->Prop}(hg:∀H M,RM K M H->g M->∃vs,bH K H a vs/\aj K H ds vs):uv K (Lx K a) j (cE 0 ds) g:=by
 intro i H M _ f q;obtain⟨vs,sq,b⟩:=hg H M f q;rw[iq];refine⟨λc=>?_,λc=>⟨vs,sq,by rw[←b.len];exact Nat.le_of_eq c.symm⟩,λx H' d hd ⟨v,p,l,hp,e,y⟩=>?_⟩
 ·have:i<vs.length:=by rw[←b.len];exact c
  exact⟨vs,vs[i],sq,ZD this⟩
 ·subst e y
  obtain⟨d',m,rfl⟩:=qX hd;obtain⟨n,h2,r⟩:=et b.p m
  have:=l vs sq
  rw[h2] at this;cases this;have k:=Kp.new (o:=.tup [.int (i:Int),v]) hp;refine⟨k,f.newH hp,RV.tup_.2 ⟨p,_,rfl,ca.of aK,.cons (RV.int_.2 (by rw[Int.zero_add])) (.cons (RV.mono k _ r) .nil)⟩⟩
theorem Ey{K:Za}{a:Addr}{ds:List D}{vs:List V}{c:Hp}(sq:ca K c a vs)(b:aj K c ds vs):uv K (GF K a) c (cE 0 ds) (λ_=>True):=by
 intro i H M k g _;have sq:=k.sq sq;have b:=aj.mono k _ b;rw[iq];refine⟨λf=>?_,λf=>⟨vs,sq,by rw[←b.len];exact f.symm⟩,λx H' d hd ⟨v,p,j,hp,e,y⟩=>?_⟩
 ·have:i<vs.length:=by rw[←b.len];exact f
  exact⟨vs,vs[i],sq,ZD this⟩
 ·subst e y
  obtain⟨d',l,rfl⟩:=qX hd;obtain⟨m,h2,r⟩:=et b.p l
  have:=j vs sq
  rw[h2] at this;cases this;have k:=Kp.new (o:=.tup [.int (i:Int),v]) hp;refine⟨k,g.newH hp,RV.tup_.2 ⟨p,_,rfl,ca.of aK,.cons (RV.int_.2 (by rw[Int.zero_add])) (.cons (RV.mono k _ r) .nil)⟩⟩
def CU(t:WA):WI:=λσ M R=>t σ M λds M1=>match ds with
 |[.tup xs]=>R (cE 0 xs) (λ_=>True) M1
 |[.ref a]=>match M1 a with
  |some (.lst xs)=>R (cE 0 xs) (λM'=>M' a=some (.lst xs)) M1
  |some (.rol xs)=>R (cE 0 xs) (λM'=>M' a=some (.rol xs)) M1
  |_=>False
 |_=>False
section
variable {X:Cx}{H:Hp}{pos:Pos}
theorem Bs{b_:Zc}{ρ:L2.St}{s:Shared}{c:Zg}{f:Nat}{tp:Pos}{a:Addr}{xs:List V}{R:It->Hp->Prop}(I:af X b_ ρ H s)(hq:bH X.K H a xs)(q:R (Lx X.K a) H):
  wpAny (model X.prog X.w) X.A (call (.type "enumerate") [.ref a]) (λv s1=>wpAny (model X.prog X.w) X.A (pyIter v) (t7 X b_ ρ (.Tuple c f tp) R) X.xe s1) X.xe s:=by
 obtain⟨f_,l,p,hz⟩:=I.list hq;refine call_enumerate_list p.isList λh' d g hsz hk=>?_
 refine wpAny_pyIter_enum d ?_;have j:af X b_ ρ H { s with heap:=h' }:=I.kept (t':=s.toks) hk;refine⟨s.heap.objs.size+1,[s.heap.objs.size+1,s.heap.objs.size],_,_,H,rfl,j,Ex a _ _ (Nat.succ_ne_self _),⟨⟨.none,d⟩,g⟩,λb hb=>?_,q⟩;have k:b=s.heap.objs.size+1\/b=s.heap.objs.size:=by simpa using hb
 rcases k with rfl | rfl
 ·exact I.fpOk (YM _) (I.hok.fresh (YM _))
 ·exact I.fpOk (YE _) (I.hok.fresh (YE _))
theorem GG{b_:Zc}{ρ:L2.St}{s:Shared}{c:Zg}{f:Nat}{tp:Pos}{a:Addr}{xs:List V}{R:It->Hp->Prop}(I:af X b_ ρ H s)(hq:ca X.K H a xs)(q:R (GF X.K a) H):
  wpAny (model X.prog X.w) X.A (call (.type "enumerate") [.ref a]) (λv s1=>wpAny (model X.prog X.w) X.A (pyIter v) (t7 X b_ ρ (.Tuple c f tp) R) X.xe s1) X.xe s:=by
 obtain⟨f_,l,p,hz⟩:=I.tuple hq;refine CQ (show s.heap.IsTuple a f_.toArray from p) λh' d g hk=>?_
 refine wpAny_pyIter_enum d ?_;have j:af X b_ ρ H { s with heap:=h' }:=I.kept (t':=s.toks) hk;refine⟨s.heap.objs.size+1,[s.heap.objs.size+1,s.heap.objs.size],_,_,H,rfl,j,CS a _ _ (Nat.succ_ne_self _),⟨⟨.none,d⟩,g⟩,λb hb=>?_,q⟩;have k:b=s.heap.objs.size+1\/b=s.heap.objs.size:=by simpa using hb
 rcases k with rfl | rfl
 ·exact I.fpOk (YM _) (I.hok.fresh (YM _))
 ·exact I.fpOk (YE _) (I.hok.fresh (YE _))
theorem GH{l:Expr}{t:WA}{p:Pos}{g:Zg}{C:Nat}{tp:Pos}(hg:Gl X "enumerate")(hm:X.mg "enumerate" = none)(h:ip X [l] t)(E:ay l=true):yl X (.Tuple g C tp) (.Call (.Name "enumerate" p) [l] [] pos) (CU t):=by
 intro σ M ρ H R rs F q b_ s I;refine Call_ (fg I hg hm (by rfl':bootBuiltins "enumerate" = some (.type "enumerate")) (PyProof.Rows.callWith_type1 (aN (h σ M ρ H _ rs F q pos b_ s I) λus s1 G=>?_) (bI E) rfl));obtain⟨vs,J,d,A,⟨n,ds,M1,m,l1,j,b⟩⟩:=G;try dsimp only at b
 split at b
 ·rename_i L
  rw[aj] at m;obtain⟨v,O,rfl,o,k⟩:=m;rw[aj] at k;subst k;obtain⟨a,xs,rfl,sq,f⟩:=RV.tup_.1 o;obtain⟨u,rfl,r⟩:=A.one;cases r;obtain⟨_,_,_,hz⟩:=d.tuple sq;exact GG d sq ⟨n,_,_,M1,j,trivial,Ey sq f,by rw[iq,f.len];exact hz,b⟩
 ·rename_i a
  rw[aj] at m;obtain⟨v,O,rfl,o,k⟩:=m;rw[aj] at k;subst k;cases RV.ref_.1 o;obtain⟨u,rfl,r⟩:=A.one;cases r;split at b
  ·rename_i xs e
   obtain⟨B,c,f⟩:=j a _ e;obtain⟨_,_,_,hz⟩:=d.list (bH.of c);refine Bs d (bH.of c) ⟨n,_,_,M1,j,e,yN λH' M' w g'=>?_,by rw[iq,f.len];exact hz,b⟩;obtain⟨y,e',z⟩:=w a _ g';exact⟨y,bH.of e',z⟩
  ·rename_i xs e
   obtain⟨B,c,f⟩:=j a _ e;have c:bH X.K J a B:=.inl c;obtain⟨_,_,_,hz⟩:=d.list c;refine Bs d c ⟨n,_,_,M1,j,e,yN λH' M' w g'=>?_,by rw[iq,f.len];exact hz,b⟩;obtain⟨y,e',z⟩:=w a _ g';exact⟨y,.inl e',z⟩
  ·exact Yh b
 ·exact Yh b
end
end DD
namespace DD
open PySem PySem.Spec PyProof.Rows L2
set_option genInjectivity false
set_option genSizeOf false
set_option genCtorIdx false
mutual
inductive E where
 |var (i:Nat) | int (i:Int) | str (x:Str) | bl (b:Bool) | non | glob (j:Nat) | ty (T:String)
 |bin (o:Operator) (a b:E) | cmp (o:CmpOp) (a b:E)
 |and (a b:E) | or (a b:E) | not (a:E) | ite (c:T) (a b:E)
 |fn (j:Nat) (es:Es) | bi (b:Bi) (es:Es) | mt (m:Mt) (o:E) (es:Es) | mt0 (m:Mt) (o:E)
 |ix (a b:E) | sl (a:E) (lo hi:Eo) | lst (es:Es) | tup (es:Es) | comp (n:Nat) (e:E) (t:dY) (i:I) (c:To)
 |neg (a:E) | dnew | fld (o:E) (f:Str) | mu (m:Str) (o:E) (es:Es) | mu0 (m:Str) (o:E) | lenSet (a:E) | bj (b:Bj) (es:Es) | lrg (es:Es) | inv (a:E) | bk (b:Bk) (es:Es)
inductive Ps where
 |nil | cons (k v:E) (r:Ps)
inductive Es where
 |nil | cons (e:E) (es:Es)
inductive Eo where
 |no | yes (e:E)
inductive To where
 |no | yes (t:T)
inductive T where
 |val (e:E) | cmp (o:CmpOp) (a b:E) | and (t u:T) | or (t u:T) | not (t:T)
inductive I where
 |seq (e:E) | rg1 (es:Es) | enum (es:Es)
end
mutual
inductive S where
 |set (i:Nat) (e:E) | setC (i n:Nat) (e:E) (t:dY) (it:I) (c:To) | asg (g:dY) (e:E) | expr (e:E) | ret (e:E)
 |ite (t:T) (a b:Ss) | for (g:dY) (it:I) (b:Ss) | pass | never
 |putIx (o i e:E) | setF (o:E) (f:Str) (e:E) | while (t:T) (b:Ss)
inductive Ss where
 |nil | cons (s:S) (r:Ss)
end
set_option genInjectivity true
set_option genSizeOf true
set_option genCtorIdx true
structure Cn where
 F:List az
 G:List D
 O:pU
 T:kZ
 I:N9:=λ_ _=>none
def ku(c:WT)(d:WS):WS:=λE σ M=>∃W:Nat->DS->MH->Prop,(∃m,W m σ M)/\∀m σ M,W m σ M ->
 c σ M λb M1=>bG b (∃N:DS->MH->Prop,(∀a M',N a M'->∃m',m'<m/\W m' a M')/\d { E with nx:=N,ct:=N,bk:=E.nx } σ M1) (E.nx σ M1)
section
variable (c:Cn)
mutual
noncomputable def wE:E->WE
 |.var i=>λσ M Q=>ye σ i λd=>Q d M
 |.int i=>λ_ M Q=>Q (.int i) M
 |.str i=>λ_ M Q=>Q (.str i) M
 |.bl i=>λ_ M Q=>Q (.bl i) M
 |.non=>λ_ M Q=>Q .non M
 |.glob j=>λ_ M Q=>Q (c.G.getD j .non) M
 |.ty n=>λ_ M Q=>Q (.ty n) M
 |.bin o a b=>ui (F3 o) (wE a) (wE b)
 |.cmp o a b=>ui (Ct o) (wE a) (wE b)
 |.and a b=>Ca (wE a) (wE b)
 |.or a b=>FE (wE a) (wE b)
 |.not a=>Cb (wE a)
 |.ite t a b=>KM (wT t) (wE a) (wE b)
 |.fn j es=>gK (c.F.getD j λ_ _ _=>False) (wEs es)
 |.bi b es=>gK (Ln b) (wEs es)
 |.lenSet a=>vK (wE a)
 |.bj b es=>gK (Er b) (wEs es)
 |.bk b es=>gK (pX b) (wEs es)
 |.lrg es=>CO (wEs es)
 |.mt m o es=>yA (yD m) (Ek m) (wE o) (wEs es)
 |.mt0 m o=>yA (yD m) (Ek m) (wE o) qM
 |.ix a b=>ui HE (wE a) (wE b)
 |.sl a lo hi=>Lg (wE a) (wEo lo) (wEo hi)
 |.lst es=>FJ (wEs es)
 |.tup es=>FI (wEs es)
 |.comp n e t i d=>Co n (wI i) t (ot d) (wE e)
 |.neg a=>Gj (wE a)
 |.inv a=>nN (wE a)
 |.dnew=>λ_ M Q=>∀p,M p=none->Q (.ref p) (ac M p (.dic []))
 |.fld o f=>Gp c.O f (wE o)
 |.mu m o es=>uH c.T m (wE o) (wEs es)
 |.mu0 m o=>uH c.T m (wE o) qM
noncomputable def wP:Ps->List (WE×WE)
 |.nil=>[]
 |.cons k v r=>(wE k,wE v)::wP r
noncomputable def wEs:Es->WA
 |.nil=>qM
 |.cons e es=>Cc (wE e) (wEs es)
noncomputable def wEo:Eo->WO
 |.no=>λ_ M Q=>Q none M
 |.yes e=>λσ M Q=>wE e σ M λx M1=>intD x λi=>Q (some i) M1
noncomputable def ot:To->WT
 |.no=>λ_ M Q=>Q true M
 |.yes t=>wT t
noncomputable def wT:T->WT
 |.val e=>FG (wE e)
 |.cmp o a b=>B0 (ui (Ct o) (wE a) (wE b))
 |.and t u=>FB (wT t) (wT u)
 |.or t u=>KK (wT t) (wT u)
 |.not t=>FC (wT t)
noncomputable def wI:I->WI
 |.seq e=>Cj (wE e)
 |.rg1 es=>Ck (wEs es)
 |.enum es=>CU (wEs es)
end
mutual
noncomputable def wS:S->WS
 |.set i e=>FT i (wE c e)
 |.setC i n e t it d=>Cq i n (wI c it) t (ot c d) (wE c e)
 |.asg g e=>FV (wE c e) g
 |.expr e=>Cf (wE c e)
 |.ret e=>FQ (wE c e)
 |.ite t a b=>FU (wT c t) (wSs a) (wSs b)
 |.for g it b=>FX (wI c it) g (wSs b)
 |.pass=>ur
 |.never=>λ_ _ _=>False
 |.putIx o i e=>yE (wE c e) (wE c o) (wE c i)
 |.setF o f e=>CG c.O f (wE c o) (wE c e)
 |.while t b=>ku (wT c t) (wSs b)
noncomputable def wSs:Ss->WS
 |.nil=>ur
 |.cons s r=>FO (wS s) (wSs r)
end
end
structure de where
 N:List Str
 sc:Scope
 all:Bool
 glob:List Str
 blt:List Str
 fns:List Str
def CV:Option NameKind->Bool
 |some .local=>true
 |some .cell=>true
 |some .free=>true
 |_=>false
def CW:Option NameKind->Bool
 |some .local=>true
 |some .cell=>true
 |_=>false
def Ez(Γ:de)(i:Nat)(x:Str):Bool:=decide (Γ.N[i]?=some x)&&CV (Γ.sc.names.lookup x) && !(x==("__debug__" : Str)) && !(x==("__classdict__" : Str))
def qY(Γ:de)(i:Nat)(x:Str):Bool:=decide (Γ.N[i]?=some x)&&CW (Γ.sc.names.lookup x)&&(Γ.all||decide (Γ.sc.names.lookup x=some .local))
def dv(Γ:de)(x:Str):Bool:=decide (Γ.sc.names.lookup x=some .globalImplicit) && !(x==("__debug__" : Str))
def uO:List String:=["bool","int","str","tuple","list","dict"]
def ownOf(sc:Scope):List Str:=sc.names.filterMap λp=>if p.2=.local/\p.1≠(".0" : Str) then some p.1 else none
def vL(Γ:de)(sc:Scope):List Str:=Γ.N.map λy=>if sc.names.lookup y=some .local then "" else y
def ou(Γ:de)(sc:Scope):Bool:=decide (sc.kind=.function)&&sc.names.all (λy=>decide (y.2≠.cell))&&sc.names.all (λy=>decide (y.2=.local->sc.names.lookup y.1=some .local)) &&
 sc.names.all (λy=>decide (y.2=.free->(Γ.sc.names.lookup y.1=some .cell\/Γ.sc.names.lookup y.1=some .free)))&&((vL Γ sc).zip Γ.N).all (λp=>decide ((sc.names.lookup p.1=some .free->p.1=p.2)/\sc.names.lookup p.1≠some .local))&&decide ((vL Γ sc++ownOf sc).Nodup)
def GI(sc OI:Scope):Scope:={ sc with names:=sc.names.map λ(p:Str×NameKind)=>if(p.2==NameKind.free&&OI.kind==.function&&OI.names.lookup p.1==some .cell)=true then(p.1,NameKind.cell) else(p.1,p.2) }
def inComp(Γ:de)(sc:Scope):de:={ Γ with N:=vL Γ sc++ownOf sc,sc:=GI sc Γ.sc,all:=false }
def uP(Γ:de):List Nat->List Expr->Bool
 |[],[]=>true
 |i::is,.Name x _::es=>qY Γ i x&&uP Γ is es
 |_,_=>false
def sf(Γ:de):dY->Expr->Bool
 |.nm i,.Name x _=>qY Γ i x
 |.tp is,.Tuple es _ _=>uP Γ is es
 |_,_=>false
def EA:Expr->Bool
 |.UnaryOp .Not _ _=>false
 |.BoolOp _ _ _=>false
 |.IfExp _ _ _ _=>false
 |.Compare _ _ _ _=>false
 |_=>true
def lC:Expr->Option (Str×List Expr×List Keyword)
 |.Call f es ks _=>match f with
  |.Name x _=>some (x,es,ks)
  |_=>none
 |_=>none
def uQ(e:Expr):Option (Str×Str×List Expr):=match lC e with
 |some (x,[c],[])=>match lC c with
  |some (y,es,[])=>some (x,y,es)
  |_=>none
 |_=>none
def isTup:Expr->Bool
 |.Tuple _ _ _=>true
 |_=>false
theorem MU{b:Type}{a:b}{P:Prop}(h:none=some a):P:=by cases h
theorem ff{P:Prop}(h:false=true):P:=by cases h
theorem fu{e:Expr}{x:Str}{es:Zg}{ks:List Keyword}(h:lC e=some (x,es,ks)):∃p q,e=.Call (.Name x p) es ks q:=by
 cases e with
 |Call f es ks q=>
  cases f with
  |Name x p=>cases h;exact⟨p,q,rfl⟩
  |_=>exact MU h
 |_=>exact MU h
theorem qZ{e:Expr}{x y:Str}{es:Zg}(h:uQ e=some (x,y,es)):∃p q a b,e=.Call (.Name x p) [.Call (.Name y a) es [] b] [] q:=by
 unfold uQ at h;split at h
 ·rename_i c
  split at h
  ·rename_i h2
   cases h;obtain⟨p,q,rfl⟩:=fu c;obtain⟨a,b,rfl⟩:=fu h2;exact⟨p,q,a,b,rfl⟩
  ·cases h
 ·cases h
theorem GJ{e:Expr}(h:isTup e=true):∃es k p,e=.Tuple es k p:=by
 cases e with
 |Tuple es k p=>exact⟨es,k,p,rfl⟩
 |_=>exact ff h
mutual
noncomputable def aF:de->E->Expr->Bool
 |Γ,.var i,e=>match e with
  |.Name x _=>Ez Γ i x
  |_=>false
 |_,.int i,e=>match e with
  |.Constant (.int j) _ _=>decide (i=j)
  |_=>false
 |_,.str i,e=>match e with
  |.Constant (.str j) _ _=>decide (i=j)
  |_=>false
 |_,.bl i,e=>match e with
  |.Constant (.bool j) _ _=>decide (i=j)
  |_=>false
 |_,.non,e=>match e with
  |.Constant .none _ _=>true
  |_=>false
 |Γ,.glob j,e=>match e with
  |.Name x _=>dv Γ x&&decide (Γ.glob[j]?=some x)
  |_=>false
 |Γ,.ty n,e=>match e with
  |.Name x _=>dv Γ x&&Γ.blt.contains x&&decide (x=Str.ofString n)&&uO.contains n
  |_=>false
 |Γ,.bin o a b,e=>match e with
  |.BinOp l op r _=>decide (o=op)&&aF Γ a l&&aF Γ b r
  |_=>false
 |Γ,.cmp o a b,e=>match e with
  |.Compare l [op] [r] _=>decide (o=op)&&aF Γ a l&&aF Γ b r && !(behindInMarks op r)
  |_=>false
 |Γ,.and a b,e=>match e with
  |.BoolOp .And [l,r] _=>aF Γ a l&&aF Γ b r
  |.BoolOp .And (l::r::q::rest) pos=>aF Γ a l&&aF Γ b (.BoolOp .And (r::q::rest) pos)
  |_=>false
 |Γ,.or a b,e=>match e with
  |.BoolOp .Or [l,r] _=>aF Γ a l&&aF Γ b r
  |.BoolOp .Or (l::r::q::rest) pos=>aF Γ a l&&aF Γ b (.BoolOp .Or (r::q::rest) pos)
  |_=>false
 |Γ,.not a,e=>match e with
  |.UnaryOp .Not l _=>aF Γ a l
  |_=>false
 |Γ,.ite c a b,e=>match e with
  |.IfExp t l r _=>ef Γ c t&&aF Γ a l&&aF Γ b r
  |_=>false
 |Γ,.fn j es,e=>match lC e with
  |some (x,a::as,[])=>dv Γ x&&decide (Γ.fns[j]?=some x)&&ay a&&as.all ay&&dw Γ es (a::as)
  |_=>false
 |Γ,.bi b es,e=>match lC e with
  |some (x,a::as,[])=>dv Γ x&&Γ.blt.contains x&&decide (x=uE b)&&ay a&&as.all ay&&dw Γ es (a::as)
  |_=>false
 |Γ,.bj b es,e=>match lC e with
  |some (x,a::as,[])=>dv Γ x&&Γ.blt.contains x&&decide (x=uL b)&&ay a&&as.all ay&&dw Γ es (a::as)
  |_=>false
 |Γ,.bk b es,e=>match lC e with
  |some (x,a::as,[])=>dv Γ x&&Γ.blt.contains x&&decide (x=uN b)&&ay a&&as.all ay&&dw Γ es (a::as)
  |_=>false
 |Γ,.lenSet a,e=>match uQ e with
  |some (x,y,[l])=>dv Γ x&&Γ.blt.contains x&&decide (x=("len" : Str))&&dv Γ y&&Γ.blt.contains y&&decide (y=("set" : Str))&&ay l&&aF Γ a l
  |_=>false
 |Γ,.lrg es,e=>match uQ e with
  |some (x,y,[l])=>dv Γ x&&Γ.blt.contains x&&decide (x=("list" : Str))&&dv Γ y&&Γ.blt.contains y&&decide (y=("range" : Str))&&ay l&&dw Γ es [l]
  |some (x,y,[l,r])=>dv Γ x&&Γ.blt.contains x&&decide (x=("list" : Str))&&dv Γ y&&Γ.blt.contains y&&decide (y=("range" : Str))&&ay l&&ay r&&dw Γ es [l,r]
  |_=>false
 |Γ,.mt m o es,e=>match e with
  |.Call (.Attribute l x o_) (a::as) [] pos=>decide (x=uG m)&&aF Γ o l&&ce l&&ay a&&as.all ay&&decide (as.length<20)&&(o_.endLine==pos.line)&&dw Γ es (a::as)
  |_=>false
 |Γ,.mt0 m o,e=>match e with
  |.Call (.Attribute l x o_) [] [] pos=>decide (x=uG m)&&aF Γ o l&&ce l&&(o_.endLine==pos.line)
  |_=>false
 |Γ,.ix a b,e=>match e with
  |.Subscript l r _=>aF Γ a l&&aF Γ b r&&ma r
  |_=>false
 |Γ,.sl a lo hi,e=>match e with
  |.Subscript l (.Slice x y none _) _=>aF Γ a l&&uR Γ lo x&&uR Γ hi y
  |_=>false
 |Γ,.lst es,e=>match e with
  |.List as _=>dw Γ es as&&decide (as.length<=1000)
  |_=>false
 |Γ,.tup es,e=>match e with
  |.Tuple as _ _=>dw Γ es as&&decide (as.length<=1000)
  |_=>false
 |Γ,.comp n e t i c,ex=>match ex with
  |.ListComp D_ [⟨tg,it,ifs,ia⟩] sc _=>ou Γ sc&&decide (n=(ownOf sc).length)&&decide (ia=0)&&tI Γ i tg it&&l7 it&&sf (inComp Γ sc) t tg&&uS (inComp Γ sc) c ifs&&aF (inComp Γ sc) e D_
  |_=>false
 |Γ,.neg a,e=>match e with
  |.UnaryOp .USub l _=>aF Γ a l
  |_=>false
 |Γ,.inv a,e=>match e with
  |.UnaryOp .Invert l _=>aF Γ a l
  |_=>false
 |_,.dnew,e=>match e with
  |.Dict [] [] _=>true
  |_=>false
 |Γ,.fld o f,e=>match e with
  |.Attribute l x _=>aF Γ o l&&decide (x=f)&&ce l
  |_=>false
 |Γ,.mu m o es,e=>match e with
  |.Call (.Attribute l x o_) (a::as) [] pos=>decide (x=m)&&aF Γ o l&&ce l&&ay a&&as.all ay&&decide (as.length<19)&&(o_.endLine==pos.line)&&dw Γ es (a::as)
  |_=>false
 |Γ,.mu0 m o,e=>match e with
  |.Call (.Attribute l x o_) [] [] pos=>decide (x=m)&&aF Γ o l&&ce l&&(o_.endLine==pos.line)
  |_=>false
noncomputable def CY:de->Ps->List (Option Expr)->List Expr->Bool
 |_,.nil,ks,vs=>match ks,vs with
  |[],[]=>true
  |_,_=>false
 |Γ,.cons k v r,ks,vs=>match ks,vs with
  |some x::ks,y::vs=>aF Γ k x&&aF Γ v y&&CY Γ r ks vs
  |_,_=>false
noncomputable def dw:de->Es->List Expr->Bool
 |_,.nil,as=>match as with
  |[]=>true
  |_=>false
 |Γ,.cons e es,as=>match as with
  |a::as=>aF Γ e a&&ay a&&dw Γ es as
  |_=>false
noncomputable def uR:de->Eo->Option Expr->Bool
 |_,.no,a=>match a with
  |none=>true
  |_=>false
 |Γ,.yes e,a=>match a with
  |some a=>aF Γ e a
  |_=>false
noncomputable def uS:de->To->List Expr->Bool
 |_,.no,as=>match as with
  |[]=>true
  |_=>false
 |Γ,.yes t,as=>match as with
  |[a]=>ef Γ t a
  |_=>false
noncomputable def ef:de->T->Expr->Bool
 |Γ,.val e,ex=>aF Γ e ex&&EA ex
 |Γ,.cmp o a b,e=>match e with
  |.Compare l [op] [r] _=>decide (o=op)&&aF Γ a l&&aF Γ b r && !(behindInMarks op r)
  |_=>false
 |Γ,.and a b,e=>match e with
  |.BoolOp .And [l,r] _=>ef Γ a l&&ef Γ b r
  |.BoolOp .And (l::r::q::rest) pos=>ef Γ a l&&ef Γ b (.BoolOp .And (r::q::rest) pos)
  |_=>false
 |Γ,.or a b,e=>match e with
  |.BoolOp .Or [l,r] _=>ef Γ a l&&ef Γ b r
  |.BoolOp .Or (l::r::q::rest) pos=>ef Γ a l&&ef Γ b (.BoolOp .Or (r::q::rest) pos)
  |_=>false
 |Γ,.not a,e=>match e with
  |.UnaryOp .Not l _=>ef Γ a l
  |_=>false
noncomputable def tI:de->I->Expr->Expr->Bool
 |Γ,.seq e,_,ex=>aF Γ e ex
 |Γ,.enum es,tg,e=>match isTup tg,lC e with
  |true,some (x,[a],[])=>dv Γ x&&Γ.blt.contains x&&decide (x=("enumerate" : Str))&&ay a&&dw Γ es [a]
  |_,_=>false
 |Γ,.rg1 es,_,e=>match lC e with
  |some (x,[a],[])=>dv Γ x&&Γ.blt.contains x&&decide (x=("range" : Str))&&ay a&&dw Γ es [a]
  |_=>false
end
def Bt:Expr->Bool
 |.Tuple _ _ _=>false
 |_=>true
mutual
noncomputable def jG:de->S->Stmt->Bool
 |Γ,.set i e,st=>match st with
  |.Assign [.Name x _] v _=>qY Γ i x&&(eI v||decide (Γ.sc.names.lookup x=some .cell))&&aF Γ e v
  |_=>false
 |Γ,.setC i n e t j c,st=>match st with
  |.Assign [.Name y py] (.ListComp D_ [⟨tg,it,ifs,ia⟩] sc pos) Pq=>decide (Γ.N[i]?=some y)&&decide (Γ.sc.names.lookup y=some .local)&&(py.line==pos.line) && !(sc.names.any λ(p:Str×NameKind)=>p.1==y&&(p.2==.local || p.2==.cell)) &&
   ou Γ sc&&decide (n=(ownOf sc).length)&&decide (ia=0)&&tI Γ j tg it&&l7 it&&sf (inComp Γ sc) t tg&&uS (inComp Γ sc) c ifs&&aF (inComp Γ sc) e D_
  |_=>false
 |Γ,.asg g e,st=>match st with
  |.Assign [.Tuple es k p] v _=>sf Γ g (.Tuple es k p)&&eI v&&Bt v&&aF Γ e v
  |_=>false
 |Γ,.expr e,st=>match st with
  |.Expr v _=>eI v&&aF Γ e v
  |_=>false
 |Γ,.ret e,st=>match st with
  |.Return (some v) _=>aF Γ e v
  |_=>false
 |Γ,.ite t a b,st=>match st with
  |.If c x y _=>ef Γ t c&&cx Γ a x&&cx Γ b y
  |_=>false
 |Γ,.for g j b,st=>match st with
  |.For tg it body [] _=>sf Γ g tg&&tI Γ j tg it&&l7 it&&cx Γ b body
  |_=>false
 |_,.pass,st=>match st with
  |.Pass _=>true
  |_=>false
 |_,.never,_=>true
 |Γ,.putIx o i e,st=>match st with
  |.Assign [.Subscript l r _] v _=>aF Γ o l&&aF Γ i r&&aF Γ e v&&eI v&&ma r
  |_=>false
 |Γ,.setF o f e,st=>match st with
  |.Assign [.Attribute l x _] v _=>aF Γ o l&&decide (x=f)&&aF Γ e v
  |_=>false
 |Γ,.while t b,st=>match st with
  |.While c body [] _=>ef Γ t c&&cx Γ b body
  |_=>false
noncomputable def cx:de->Ss->List Stmt->Bool
 |_,.nil,l=>match l with
  |[]=>true
  |_=>false
 |Γ,.cons s r,l=>match l with
  |st::O0=>jG Γ s st&&cx Γ r O0
  |_=>false
end
end DD
namespace DD
open PySem PySem.Spec PyProof.Rows L2
def dy(P:Zw)(w:World)(K:Za)(mg:Ze)(base:Heap)(k:Nat)(x:Str)(sp:az):Prop:=bB P w K mg base k x sp \/ ∃k',k=k'+1/\MT P w K mg base k' x sp
structure iu (Γ:de) (c:Cn) (X:Cx):Prop where
 N:X.N=Γ.N
 sc:X.env.scope=Γ.sc
 kind:Γ.sc.kind=.function
 nd:Γ.N.Nodup
 calm:X.calm=true
 fn:Γ.all=true->∀x,X.fn x=true
 own:PassesOwn (model X.prog X.w) X.A X.env X.xe
 glob:∀(j:Nat) x,Γ.glob[j]?=some x->qK X.K X.mg x (c.G.getD j .non)
 blt:∀x,Γ.blt.contains x=true->X.mg x=none
 fns:∀(j:Nat) x,Γ.fns[j]?=some x->∃k,dy X.prog X.w X.K X.mg X.base k x (c.F.getD j λ_ _ _=>False)/\cb k X.A
 flds:∀C f,c.O C f->fY X.K C/\cJ X.K C f
 mts:CH X c.T
 isi:∀C d b,c.I C d=some b->HJ X.K C d b
 hu:X.A.units+40<cLine
section
variable {Γ:de}{X:Cx}{e:Expr}{pos:Pos}{cn:Cn}
theorem Ly(sc:Scope)(env:Env):relabel sc env=GI sc env.scope:=rfl
theorem iu.comp{sc:Scope}{C:Addr}{s:Shared}{H:Hp}{ex:Zh}{pn:Zc}(g:iu Γ cn X)(h:ou Γ sc=true):iu (inComp Γ sc) cn (dC X sc (ownOf sc) (vL Γ sc) C s H ex pn):=by
 unfold ou at h;simp only[YX,XO] at h;obtain⟨⟨⟨⟨⟨a,h2⟩,c⟩,d⟩,f⟩,b⟩:=h;refine⟨rfl,?_,a,b,g.calm,(λz=>nomatch z),PassesOwn.never,g.glob,g.blt,g.fns,g.flds,g.mts,g.isi,g.hu⟩;show relabel sc X.env=GI sc Γ.sc;rw[Ly,g.sc]
theorem iu.cscope{sc:Scope}(g:iu Γ cn X)(h:ou Γ sc=true):io Γ.sc sc X.N (ownOf sc) (vL Γ sc):=by
 unfold ou at h;simp only[YX,XO] at h;obtain⟨⟨⟨⟨⟨d,h2⟩,a⟩,b⟩,c⟩,f⟩:=h;rw[XI] at h2 a b c;refine⟨d,λy hy=>XM (h2 y hy),λy hy=>XM (a y hy),λy hy=>XM (b y hy),?_,λp hp=>?_⟩
 ·rw[g.N];unfold vL;rw[ZF]
 ·rw[g.N] at hp;exact XM (c p hp)
theorem GK{sc:Scope}{x:Str}(h:CV (sc.names.lookup x)=true):xL sc x:=by
 unfold CV at h;unfold xL;split at h
 ·exact .inl (by assumption)
 ·exact .inr (.inl (by assumption))
 ·exact .inr (.inr (by assumption))
 ·exact ff h
theorem GL{sc:Scope}{x:Str}(h:CW (sc.names.lookup x)=true):L2.Loc sc x:=by
 unfold CW at h;unfold L2.Loc;split at h
 ·exact .inl (by assumption)
 ·exact .inr (by assumption)
 ·exact ff h
theorem CZ{i:Nat}{x:Str}(g:iu Γ cn X)(h:qY Γ i x=true):X.N.Nodup/\X.N[i]?=some x/\L2.Loc X.env.scope x/\(X.fn x=true\/X.env.scope.names.lookup x=some .local):=by
 unfold qY at h;simp only[YX,Bool.or_eq_true,XO] at h;obtain⟨⟨a,h2⟩,b⟩:=h;rw[g.N,g.sc];exact⟨g.nd,a,GL h2,b.imp (λz=>g.fn z x) id⟩
theorem iJ{x:Str}(g:iu Γ cn X)(h:dv Γ x=true):Gl X x/\(x==("__debug__" : Str))=false:=by
 unfold dv at h;simp only[YX,XO,XR] at h;refine⟨?_,h.2⟩;show X.env.scope.names.lookup x=_;rw[g.sc];exact h.1
theorem HK(g:iu Γ cn X):∀{is:Zj}{es:Zg},uP Γ is es=true->AJ X es (Cg is)/\(assignEach es X.env).length=is.length/\(assignEach es X.env).findIdx? (·.1)=none
 |[],[],_=>⟨Id,rfl,rfl⟩
 |i::is,.Name x p::es,h=>by
  unfold uP at h;rw[YX] at h;obtain⟨f,h2,j⟩:=HK g h.2;obtain⟨a,b,c,d⟩:=CZ g h.1;refine⟨E9 (AK a b c d) f rfl,?_,?_⟩
  ·show(assignEach es X.env).length+1=is.length+1;rw[h2]
  ·show List.findIdx? (·.1) ((false,assign (.Name x p) X.env)::assignEach es X.env)=none
   rw[List.findIdx?_cons];simp[j]
 |[],_::_,h=>ff h
 |_::_,[],h=>ff h
 |_::_,.BoolOp .. :: _,h=>ff h
 |_::_,.NamedExpr .. :: _,h=>ff h
 |_::_,.BinOp .. :: _,h=>ff h
 |_::_,.UnaryOp .. :: _,h=>ff h
 |_::_,.Lambda .. :: _,h=>ff h
 |_::_,.IfExp .. :: _,h=>ff h
 |_::_,.Dict .. :: _,h=>ff h
 |_::_,.Set .. :: _,h=>ff h
 |_::_,.ListComp .. :: _,h=>ff h
 |_::_,.SetComp .. :: _,h=>ff h
 |_::_,.DictComp .. :: _,h=>ff h
 |_::_,.GeneratorExp .. :: _,h=>ff h
 |_::_,.Await .. :: _,h=>ff h
 |_::_,.Yield .. :: _,h=>ff h
 |_::_,.YieldFrom .. :: _,h=>ff h
 |_::_,.Compare .. :: _,h=>ff h
 |_::_,.Call .. :: _,h=>ff h
 |_::_,.FormattedValue .. :: _,h=>ff h
 |_::_,.JoinedStr .. :: _,h=>ff h
 |_::_,.Constant .. :: _,h=>ff h
 |_::_,.Attribute .. :: _,h=>ff h
 |_::_,.Subscript .. :: _,h=>ff h
 |_::_,.Starred .. :: _,h=>ff h
 |_::_,.List .. :: _,h=>ff h
 |_::_,.Tuple .. :: _,h=>ff h
 |_::_,.Slice .. :: _,h=>ff h
theorem C0{t:dY}{tg:Expr}(g:iu Γ cn X)(h:sf Γ t tg=true):PG X tg (yj X.K t):=by
 unfold sf at h;split at h
 ·obtain⟨a,b,c,d⟩:=CZ g h
  exact AK a b c d
 ·obtain⟨f,h2,j⟩:=HK g h
  exact KW g.calm f h2 j
 ·exact ff h
theorem EB{env:Env}(h:EA e=true):∀b,isTrue e env b=(do let v ←b;standAt e.pos;holding [v] (truthy v)):=by
 intro w;cases e with
 |UnaryOp op a p=>cases op<;>first | rfl | exact absurd (show false=true from h) YC
 |BoolOp _ _ _=>exact absurd (show false=true from h) YC
 |IfExp _ _ _ _=>exact absurd (show false=true from h) YC
 |Compare _ _ _ _=>exact absurd (show false=true from h) YC
 |_=>rfl
theorem Jv:∀n∈uO,bootBuiltins (Str.ofString n)=some (.type n):=by rfl'
theorem Jw:∀n∈uO,Str.ofString n≠("__name__" : Str):=by rfl'
theorem uT{t:WT}(h:lU X e t)(hp:(∃vs p,e=.BoolOp .And vs p) \/ ∃vs p,e=.BoolOp .Or vs p):uj X e t:=by
 rcases hp with⟨vs,p,rfl⟩ | ⟨vs,p,rfl⟩
 ·intro σ M ρ H Q rs b q a b_ s I
  exact h σ M ρ H Q rs b q b_ s I
 ·intro σ M ρ H Q rs b q a b_ s I
  exact h σ M ρ H Q rs b q b_ s I
mutual
theorem sE:∀(ir:E){Γ:de}{cn:Cn}{X:Cx}{e:Expr},iu Γ cn X->aF Γ ir e=true->aP X e (wE cn ir)
 |.var i,Γ,cn,X,e,g,h=>by
  unfold aF at h;split at h
  ·unfold Ez at h
   simp only[YX,XO,XR] at h;rw[wE];exact IH (by rw[g.N];exact h.1.1.1) (by rw[g.sc];exact GK h.1.1.2) h.1.2 h.2
  ·exact ff h
 |.int i,Γ,cn,X,e,g,h=>by
  unfold aF at h;split at h
  ·cases XM h;rw[wE];exact II
  ·exact ff h
 |.str i,Γ,cn,X,e,g,h=>by
  unfold aF at h;split at h
  ·cases XM h;rw[wE];exact IJ
  ·exact ff h
 |.bl i,Γ,cn,X,e,g,h=>by
  unfold aF at h;split at h
  ·cases XM h;rw[wE];exact KJ
  ·exact ff h
 |.non,Γ,cn,X,e,g,h=>by
  unfold aF at h;split at h
  ·rw[wE];exact IK
  ·exact ff h
 |.glob j,Γ,cn,X,e,g,h=>by
  unfold aF at h;split at h
  ·rw[YX] at h
   obtain⟨h1,h2⟩:=iJ g h.1;rw[wE];exact Fz h1 (g.glob j _ (XM h.2)) h2
  ·exact ff h
 |.ty n,Γ,cn,X,e,g,h=>by
  unfold aF at h;split at h
  ·simp only[YX,XO] at h
   obtain⟨⟨⟨h1,h2⟩,rfl⟩,h4⟩:=h;obtain⟨h5,h6⟩:=iJ g h1;have h4:n∈uO:=by simpa using h4
   rw[wE];exact rL (HZ (v:=.ty n) h5 (g.blt _ h2) (Jv n h4) rfl (Jw n h4) h6) λ_=>RV.ty_.2 rfl
  ·exact ff h
 |.bin o a b,Γ,cn,X,e,g,h=>by
  unfold aF at h;split at h
  ·simp only[YX,XO] at h
   obtain⟨⟨rfl,h2⟩,h3⟩:=h;rw[wE];exact IL (Ji o) (sE a g h2) (sE b g h3)
  ·exact ff h
 |.cmp o a b,Γ,cn,X,e,g,h=>by
  unfold aF at h;split at h
  ·simp only[YX,XO,XR] at h
   obtain⟨⟨⟨rfl,h2⟩,h3⟩,h4⟩:=h;rw[wE];exact IM (Be g.hu o) (sE a g h2) (sE b g h3) h4
  ·exact ff h
 |.and a b,Γ,cn,X,e,g,h=>by
  unfold aF at h;split at h
  ·rw[YX] at h
   rw[wE];exact AY (sE a g h.1) (AX (sE b g h.2))
  ·rw[YX] at h
   rw[wE];exact AY (sE a g h.1) (sE b g h.2)
  ·exact ff h
 |.or a b,Γ,cn,X,e,g,h=>by
  unfold aF at h;split at h
  ·rw[YX] at h
   rw[wE];exact DV (sE a g h.1) (AX (sE b g h.2))
  ·rw[YX] at h
   rw[wE];exact DV (sE a g h.1) (sE b g h.2)
  ·exact ff h
 |.not a,Γ,cn,X,e,g,h=>by
  unfold aF at h;split at h
  ·rw[wE];exact IQ (sE a g h)
  ·exact ff h
 |.ite c a b,Γ,cn,X,e,g,h=>by
  unfold aF at h;split at h
  ·simp only[YX] at h
   rw[wE];exact DW (sT c g h.1.1) (sE a g h.1.2) (sE b g h.2)
  ·exact ff h
 |.fn j es,Γ,cn,X,e,g,h=>by
  unfold aF at h;split at h
  ·rename_i q_
   obtain⟨_,_,rfl⟩:=fu q_;simp only[YX,XO] at h;obtain⟨⟨⟨⟨h1,h2⟩,h3⟩,h4⟩,h5⟩:=h;obtain⟨h6,h7⟩:=iJ g h1;obtain⟨k,Fj,hr⟩:=g.fns j _ h2;rw[wE];rcases Fj with Fj | ⟨k',rfl,Fj⟩
   ·exact IW Fj hr h6 h7 h3 h4 (mN es g h5)
   ·exact Gs Fj hr h6 h7 h3 h4 (mN es g h5)
  ·exact ff h
 |.bi b es,Γ,cn,X,e,g,h=>by
  unfold aF at h;split at h
  ·rename_i q_
   obtain⟨_,_,rfl⟩:=fu q_;simp only[YX,XO] at h;obtain⟨⟨⟨⟨⟨h1,h2⟩,rfl⟩,h3⟩,h4⟩,h5⟩:=h;obtain⟨h6,h7⟩:=iJ g h1;rw[wE];exact Lo b g.calm h6 (g.blt _ h2) h3 h4 (mN es g h5)
  ·exact ff h
 |.bj b es,Γ,cn,X,e,g,h=>by
  unfold aF at h;split at h
  ·rename_i q_
   obtain⟨_,_,rfl⟩:=fu q_;simp only[YX,XO] at h;obtain⟨⟨⟨⟨⟨h1,h2⟩,rfl⟩,h3⟩,h4⟩,h5⟩:=h;obtain⟨h6,h7⟩:=iJ g h1;rw[wE];exact Lu b g.calm h6 (g.blt _ h2) h3 h4 (mN es g h5)
  ·exact ff h
 |.bk b es,Γ,cn,X,e,g,h=>by
  unfold aF at h;split at h
  ·rename_i q_
   obtain⟨_,_,rfl⟩:=fu q_;simp only[YX,XO] at h;obtain⟨⟨⟨⟨⟨h1,h2⟩,rfl⟩,h3⟩,h4⟩,h5⟩:=h;obtain⟨h6,h7⟩:=iJ g h1;rw[wE];exact Lv b g.calm h6 (g.blt _ h2) h3 h4 (mN es g h5)
  ·exact ff h
 |.lenSet a,Γ,cn,X,e,g,h=>by
  unfold aF at h;split at h
  ·rename_i q_
   obtain⟨_,_,_,_,rfl⟩:=qZ q_;simp only[YX,XO] at h;obtain⟨⟨⟨⟨⟨⟨⟨h1,h2⟩,rfl⟩,h3⟩,h4⟩,rfl⟩,h5⟩,h6⟩:=h;rw[wE];exact CK g.calm (iJ g h1).1 (g.blt _ h2) (iJ g h3).1 (g.blt _ h4) (sE a g h6) h5
  ·exact ff h
 |.lrg es,Γ,cn,X,e,g,h=>by
  unfold aF at h;split at h
  ·rename_i q_
   obtain⟨_,_,_,_,rfl⟩:=qZ q_;simp only[YX,XO] at h;obtain⟨⟨⟨⟨⟨⟨⟨h1,h2⟩,rfl⟩,h3⟩,h4⟩,rfl⟩,h5⟩,h6⟩:=h;rw[wE];exact GC g.calm (iJ g h1).1 (g.blt _ h2) (iJ g h3).1 (g.blt _ h4) (mN es g h6) h5
  ·rename_i q_
   obtain⟨_,_,_,_,rfl⟩:=qZ q_;simp only[YX,XO] at h;obtain⟨⟨⟨⟨⟨⟨⟨⟨h1,h2⟩,rfl⟩,h3⟩,h4⟩,rfl⟩,h5⟩,h5'⟩,h6⟩:=h;rw[wE];exact GD g.calm (iJ g h1).1 (g.blt _ h2) (iJ g h3).1 (g.blt _ h4) (mN es g h6) h5 h5'
  ·exact ff h
 |.mt m o es,Γ,cn,X,e,g,h=>by
  unfold aF at h;split at h
  ·simp only[YX,XO] at h
   obtain⟨⟨⟨⟨⟨⟨⟨rfl,h1⟩,h2⟩,h3⟩,h4⟩,h5⟩,h6⟩,h7⟩:=h;rw[wE];exact Jo g.hu m (sE o g h1) (mN es g h7) h2 h3 h4 h5 h6
  ·exact ff h
 |.mt0 m o,Γ,cn,X,e,g,h=>by
  unfold aF at h;split at h
  ·simp only[YX,XO] at h
   obtain⟨⟨⟨rfl,h1⟩,h2⟩,h3⟩:=h;rw[wE];exact Gi g.hu m (sE o g h1) h2 h3
  ·exact ff h
 |.ix a b,Γ,cn,X,e,g,h=>by
  unfold aF at h;split at h
  ·simp only[YX] at h
   rw[wE];exact Lc g.hu (sE a g h.1.1) (sE b g h.1.2) h.2
  ·exact ff h
 |.sl a lo hi,Γ,cn,X,e,g,h=>by
  unfold aF at h;split at h
  ·simp only[YX] at h
   rw[wE];exact Lh (sE a g h.1.1) (MV lo g h.1.2) (MV hi g h.2)
  ·exact ff h
 |.lst es,Γ,cn,X,e,g,h=>by
  unfold aF at h;split at h
  ·simp only[YX,XO] at h
   rw[wE];exact IV (mN es g h.1) h.2
  ·exact ff h
 |.tup es,Γ,cn,X,e,g,h=>by
  unfold aF at h;split at h
  ·simp only[YX,XO] at h
   rw[wE];exact IU (mN es g h.1) h.2
  ·exact ff h
 |.comp n el t i c,Γ,cn,X,e,g,h=>by
  unfold aF at h;split at h
  ·simp only[YX,XO] at h
   obtain⟨⟨⟨⟨⟨⟨⟨h1,rfl⟩,rfl⟩,h2⟩,h3⟩,h4⟩,h5⟩,h6⟩:=h;rw[wE];exact FY (g.cscope h1) g.sc g.calm (sI i g h2) (λC s H0 ex pn=>C0 (g.comp h1) h4) (λC s H0 ex pn=>MW c (Γ:=inComp Γ _) (g.comp h1) h5) (λC s H0 ex pn=>sE el (Γ:=inComp Γ _) (g.comp h1) h6) h3
  ·exact ff h
 |.neg a,Γ,cn,X,e,g,h=>by
  unfold aF at h;split at h
  ·rw[wE];exact Jp (sE a g h)
  ·exact ff h
 |.inv a,Γ,cn,X,e,g,h=>by
  unfold aF at h;split at h
  ·rw[wE];exact Jq (sE a g h)
  ·exact ff h
 |.dnew,Γ,cn,X,e,g,h=>by
  unfold aF at h;split at h
  ·rw[wE];exact Gn
  ·exact ff h
 |.fld o f,Γ,cn,X,e,g,h=>by
  unfold aF at h;split at h
  ·simp only[YX,XO] at h
   obtain⟨⟨h1,rfl⟩,h3⟩:=h;rw[wE];exact Js g.flds (sE o g h1) h3
  ·exact ff h
 |.mu m o es,Γ,cn,X,e,g,h=>by
  unfold aF at h;split at h
  ·simp only[YX,XO] at h
   obtain⟨⟨⟨⟨⟨⟨⟨rfl,h1⟩,h2⟩,h3⟩,h4⟩,h5⟩,h6⟩,h7⟩:=h;rw[wE];exact Gu g.mts (sE o g h1) (mN es g h7) h2 h3 h4 h5 h6
  ·exact ff h
 |.mu0 m o,Γ,cn,X,e,g,h=>by
  unfold aF at h;split at h
  ·simp only[YX,XO] at h
   obtain⟨⟨⟨rfl,h1⟩,h2⟩,h3⟩:=h;rw[wE];exact Em g.mts (sE o g h1) h2 h3
  ·exact ff h
theorem sP:∀(ir:Ps){Γ:de}{cn:Cn}{X:Cx}{ks:List (Option Expr)}{vs:Zg},iu Γ cn X->CY Γ ir ks vs=true->HG X ks vs (wP cn ir)
 |.nil,Γ,cn,X,ks,vs,g,h=>by
  unfold CY at h;split at h
  ·rw[wP];exact .nil
  ·exact ff h
 |.cons k v r,Γ,cn,X,ks,vs,g,h=>by
  unfold CY at h;split at h
  ·simp only[YX] at h
   rw[wP];exact .cons (sE k g h.1.1) (sE v g h.1.2) (sP r g h.2)
  ·exact ff h
theorem mN:∀(ir:Es){Γ:de}{cn:Cn}{X:Cx}{es:Zg},iu Γ cn X->dw Γ ir es=true->ip X es (wEs cn ir)
 |.nil,Γ,cn,X,es,g,h=>by
  unfold dw at h;split at h
  ·rw[wEs];exact IT
  ·exact ff h
 |.cons e r,Γ,cn,X,es,g,h=>by
  unfold dw at h;split at h
  ·simp only[YX] at h
   rw[wEs];exact FH (sE e g h.1.1) (mN r g h.2) h.1.2
  ·exact ff h
theorem MV:∀(ir:Eo){Γ:de}{cn:Cn}{X:Cx}{e:Option Expr},iu Γ cn X->uR Γ ir e=true->Ee X e (wEo cn ir)
 |.no,Γ,cn,X,e,g,h=>by
  unfold uR at h;split at h
  ·rw[wEo];exact Gd
  ·exact ff h
 |.yes a,Γ,cn,X,e,g,h=>by
  unfold uR at h;split at h
  ·rw[wEo];exact Ge (sE a g h)
  ·exact ff h
theorem MW:∀(ir:To){Γ:de}{cn:Cn}{X:Cx}{e:Zg},iu Γ cn X->uS Γ ir e=true->Cp X e (ot cn ir)
 |.no,Γ,cn,X,e,g,h=>by
  unfold uS at h;split at h
  ·rw[ot];exact .inl ⟨rfl,rfl⟩
  ·exact ff h
 |.yes a,Γ,cn,X,e,g,h=>by
  unfold uS at h;split at h
  ·rw[ot];exact .inr ⟨_,rfl,sT a g h⟩
  ·exact ff h
theorem sT:∀(ir:T){Γ:de}{cn:Cn}{X:Cx}{e:Expr},iu Γ cn X->ef Γ ir e=true->lU X e (wT cn ir)
 |.val a,Γ,cn,X,e,g,h=>by
  unfold ef at h;rw[YX] at h;rw[wT];exact IS (sE a g h.1) (EB h.2)
 |.cmp o a b,Γ,cn,X,e,g,h=>by
  unfold ef at h;split at h
  ·simp only[YX,XO,XR] at h
   obtain⟨⟨⟨rfl,h2⟩,h3⟩,h4⟩:=h;rw[wT];exact IN (Be g.hu o) (sE a g h2) (sE b g h3) h4
  ·exact ff h
 |.and a b,Γ,cn,X,e,g,h=>by
  unfold ef at h;split at h
  ·rw[YX] at h
   rw[wT];exact(AW (sT a g h.1) (FD (sT b g h.2))).pt
  ·rw[YX] at h
   rw[wT];exact(AW (sT a g h.1) (uT (sT b g h.2) (.inl ⟨_,_,rfl⟩))).pt
  ·exact ff h
 |.or a b,Γ,cn,X,e,g,h=>by
  unfold ef at h;split at h
  ·rw[YX] at h
   rw[wT];exact(DU (sT a g h.1) (IP (sT b g h.2))).pt
  ·rw[YX] at h
   rw[wT];exact(DU (sT a g h.1) (uT (sT b g h.2) (.inr ⟨_,_,rfl⟩))).pt
  ·exact ff h
 |.not a,Γ,cn,X,e,g,h=>by
  unfold ef at h;split at h
  ·rw[wT];exact IO (sT a g h)
  ·exact ff h
theorem sI:∀(ir:I){Γ:de}{cn:Cn}{X:Cx}{tg e:Expr},iu Γ cn X->tI Γ ir tg e=true->yl X tg e (wI cn ir)
 |.seq a,Γ,cn,X,tg,e,g,h=>by
  unfold tI at h;rw[wI];exact Je (sE a g h)
 |.enum es,Γ,cn,X,tg,e,g,h=>by
  unfold tI at h;split at h
  ·rename_i t_ q_
   obtain⟨_,_,_,rfl⟩:=GJ t_;obtain⟨_,_,rfl⟩:=fu q_;simp only[YX,XO] at h;obtain⟨⟨⟨⟨h1,h2⟩,rfl⟩,h3⟩,h4⟩:=h;rw[wI];exact GH (iJ g h1).1 (g.blt _ h2) (mN es g h4) h3
  ·exact ff h
 |.rg1 es,Γ,cn,X,tg,e,g,h=>by
  unfold tI at h;split at h
  ·rename_i q_
   obtain⟨_,_,rfl⟩:=fu q_;simp only[YX,XO] at h;obtain⟨⟨⟨⟨h1,h2⟩,rfl⟩,h3⟩,h4⟩:=h;rw[wI];exact Cl (iJ g h1).1 (g.blt _ h2) (mN es g h4) h3
  ·exact ff h
end
theorem C1{y:Str}{a sp pos:Pos}{b:Expr}{c:List Comprehension}{sc:Scope}(g:iu Γ cn X)(d:Γ.sc.names.lookup y=some .local)(h2:(a.line==pos.line)=true)(f:(sc.names.any λ(p:Str×NameKind)=>p.1==y&&(p.2==.local || p.2==.cell))=false):
  swapsWith (.ListComp b c sc pos) (some (.Name y a)) sp.line X.env=pure true:=by
 show pure (X.env.blockKind==.function&&X.env.kindOf y==some .local && a.line==pos.line && !(sc.names.any λ(p:Str×NameKind)=>p.1==y&&(p.2==.local || p.2==.cell)))=(pure true:Sem Bool);have j:X.env.blockKind=.function:=by
  unfold Env.blockKind;rw[g.sc,g.kind];rfl
 have k:X.env.kindOf y=some .local:=by show X.env.scope.names.lookup y=_;rw[g.sc];exact d
 rw[j,k,h2,f];rfl
theorem C2{y:Str}{f:Pos}{n:Nat}(g:iu Γ cn X)(j:Γ.sc.names.lookup y=some .cell)(v:Expr):swapsWith v (some (.Name y f)) n X.env=pure false:=by
 have k:X.env.kindOf y=some .cell:=by show X.env.scope.names.lookup y=_;rw[g.sc];exact j
 have l:(some NameKind.cell==some NameKind.local)=false:=rfl;have a:∀(b c d:Bool),(b&&X.env.kindOf y==some .local && c&&d)=false:=λb c d=>by rw[k,l,Bool.and_false,YD,YD]
 cases v<;>first | rfl | exact congrArg pure (a _ _ _)
theorem GM{t:WE}{i:Nat}{x:Str}{pos a:Pos}{e:Expr}(c:X.N.Nodup)(f:X.N[i]?=some x)(hx:Loc X.env.scope x)(hf:X.fn x=true\/X.env.scope.names.lookup x=some .local)(hc:swapsWith e (some (.Name x a)) pos.line X.env=pure false)(h:aP X e t):
  mL X (.Assign [.Name x a] e pos) (FT i t):=by
 intro σ M ρ H D rs g q;refine fj (J7 c f hx (bJ e) hc hf) ?_;show tW X e ρ H _;refine aU (h σ M ρ H _ rs g q) λv m z=>?_
 obtain⟨b,d,M1,j,k,l⟩:=z;exact⟨b,σ.set i (some d),M1,(rs.mono b).set i j,k,l⟩
theorem EC{tg v:Expr}{n:Nat}{env:Env}(h:eI v=true):swapsWithSole [tg] v n env=pure false:=ut h
theorem GN{es:Zg}{k:Nat}{p:Pos}{v:Expr}{n:Nat}{env:Env}(h:eI v=true)(h':Bt v=true):swapsWithSole [.Tuple es k p] v n env=pure false/\swappedStores [.Tuple es k p] v env=pure none:=by
 refine⟨EC h,?_⟩;cases v<;>first | rfl | exact ff h'
theorem ED{c:Expr}{d:Zu}{tc:WT}{y:WS}(hp:PassesOwn (model X.prog X.w) X.A X.env X.xe)(hc:lU X c tc)(hb:pv X d y):mL X (.While c d [] pos) (ku tc y):=by
 intro σ M ρ H E rs F q;obtain⟨W,⟨G,I⟩,step⟩:=q;refine fj (Fa hp (o0 c) (pq d)) ?_;refine⟨λm l H'=>Kp H H'/\∃f M',RS X.K H' f l/\RM X.K M' H'/\W m f M',⟨G,Kp.refl H,σ,M,rs,F,I⟩,?_⟩;rintro m l H' ⟨k,f,M',p,J,L⟩;refine gT (hc f M' l H' _ p J (step m f M' L)) λb O P=>?_
 obtain⟨g,M1,z,B⟩:=P;cases b with
 |true=>
  obtain⟨N,R,S⟩:=B;refine⟨λC o=>Kp H o/\∃j M2,RS X.K o j C/\RM X.K M2 o/\N j M2,λC o ⟨T,j,M2,a,b,n⟩=>let⟨m',h1,h2⟩:=R j M2 n;⟨m',h1,T,j,M2,a,b,h2⟩,?_⟩;refine fm (hb f M1 l O _ (p.mono g) z S) ⟨λU V Y=>?_,λ_ _=>cq (k.trans g),λ_ _=>l6 (k.trans g),λU V ⟨r,t,u,a,b,c⟩=>⟨(k.trans g).trans r,t,u,a,b,c⟩⟩;obtain⟨r,t,u,a,b,c⟩:=Y;exact⟨(k.trans g).trans r,t,u,a,b,c⟩
 |false=>exact⟨k.trans g,f,M1,p.mono g,z,B⟩
mutual
theorem sS:∀(ir:S){Γ:de}{cn:Cn}{X:Cx}{st:Stmt},iu Γ cn X->jG Γ ir st=true->mL X st (wS cn ir)
 |.set i e,Γ,cn,X,st,g,h=>by
  unfold jG at h;split at h
  ·simp only[YX] at h
   obtain⟨a,b,c,d⟩:=CZ g h.1.1;rw[wS];refine GM a b c d ?_ (sE e g h.2);rcases Bool.or_eq_true_iff.1 h.1.2 with z | z
   ·exact ut z
   ·exact C2 g (XM z) _
  ·exact ff h
 |.setC i n e t j c,Γ,cn,X,st,g,h=>by
  unfold jG at h;split at h
  ·simp only[YX,XO,XR] at h
   obtain⟨⟨⟨⟨⟨⟨⟨⟨⟨⟨⟨a1,a2⟩,a3⟩,a4⟩,h1⟩,rfl⟩,rfl⟩,h2⟩,h3⟩,h4⟩,h5⟩,h6⟩:=h;rw[wS];exact FZ (g.cscope h1) g.sc g.calm (by rw[g.N];exact g.nd) (by rw[g.N];exact a1) (by rw[g.sc];exact a2) (sI j g h2) (λC s H0 ex pn=>C0 (g.comp h1) h4)
    (λC s H0 ex pn=>MW c (Γ:=inComp Γ _) (g.comp h1) h5) (λC s H0 ex pn=>sE e (Γ:=inComp Γ _) (g.comp h1) h6) h3 (C1 g a2 a3 a4)
  ·exact ff h
 |.asg t e,Γ,cn,X,st,g,h=>by
  unfold jG at h;split at h
  ·simp only[YX] at h
   obtain⟨⟨⟨h1,h2⟩,h3⟩,h4⟩:=h;obtain⟨q1,q2⟩:=GN h2 h3;rw[wS];exact Jb (sE e g h4) (C0 g h1) q1 q2 rfl
  ·exact ff h
 |.expr e,Γ,cn,X,st,g,h=>by
  unfold jG at h;split at h
  ·simp only[YX] at h
   rw[wS];exact FS (sE e g h.2) h.1
  ·exact ff h
 |.ret e,Γ,cn,X,st,g,h=>by
  unfold jG at h;split at h
  ·rw[wS];exact IZ (sE e g h)
  ·exact ff h
 |.ite t a b,Γ,cn,X,st,g,h=>by
  unfold jG at h;split at h
  ·simp only[YX] at h
   rw[wS];exact KS (sT t g h.1.1) (yO a g h.1.2) (yO b g h.2)
  ·exact ff h
 |.for t j b,Γ,cn,X,st,g,h=>by
  unfold jG at h;split at h
  ·simp only[YX] at h
   rw[wS];exact Jf g.own g.calm (sI j g h.1.1.2) (C0 g h.1.1.1) (yO b g h.2) h.1.2
  ·exact ff h
 |.pass,Γ,cn,X,st,g,h=>by
  unfold jG at h;split at h
  ·rw[wS];exact FR
  ·exact ff h
 |.never,Γ,cn,X,st,g,h=>by rw[wS];exact D2
 |.putIx o i e,Γ,cn,X,st,g,h=>by
  unfold jG at h;split at h
  ·simp only[YX] at h
   rw[wS];exact El g.hu (sE e g h.1.1.2) (sE o g h.1.1.1.1) (sE i g h.1.1.1.2) h.1.2 h.2
  ·exact ff h
 |.setF o f e,Γ,cn,X,st,g,h=>by
  unfold jG at h;split at h
  ·simp only[YX,XO] at h
   obtain⟨⟨h1,rfl⟩,h3⟩:=h;rw[wS];exact Gq g.flds (sE o g h1) (sE e g h3)
  ·exact ff h
 |.while t b,Γ,cn,X,st,g,h=>by
  unfold jG at h;split at h
  ·simp only[YX] at h
   rw[wS];exact ED g.own (sT t g h.1) (yO b g h.2)
  ·exact ff h
theorem yO:∀(ir:Ss){Γ:de}{cn:Cn}{X:Cx}{st:Zu},iu Γ cn X->cx Γ ir st=true->pv X st (wSs cn ir)
 |.nil,Γ,cn,X,st,g,h=>by
  unfold cx at h;split at h
  ·rw[wSs];exact FP
  ·exact ff h
 |.cons s r,Γ,cn,X,st,g,h=>by
  unfold cx at h;split at h
  ·simp only[YX] at h
   rw[wSs];exact D1 (sS s g h.1) (yO r g h.2)
  ·exact ff h
end
end
section
variable {P:Zw}{w:World}{K:Za}{mg:Ze}{base:Heap}
structure Names (P:Zw) (w:World) (K:Za) (mg:Ze) (base:Heap) (k:Nat) (glob:Zf) (blt:Zf) (fns:Zf) (cn:Cn):Prop where
 glob:∀(j:Nat) x,glob[j]?=some x->qK K mg x (cn.G.getD j .non)
 blt:∀x,blt.contains x=true->mg x=none
 fns:∀(j:Nat) x,fns[j]?=some x->∃k',k'<=k/\dy P w K mg base k' x (cn.F.getD j λ_ _ _=>False)
 flds:∀C f,cn.O C f->fY K C/\cJ K C f
 mts:∀C m sp,cn.T C m=some sp->∃k',k'<=k/\bc P w K mg base k' C m sp
 isi:∀C d b,cn.I C d=some b->HJ K C d b
theorem me{x:Str}{st:Stmt}{ps N:Zf}{f:Addr}{fd:Zv}{k:Nat}{sp:az}{a:Ss}{glob:Zf}{blt:Zf}{fns:Zf}{cn:Cn}(c:oZ K mg x st ps f fd)(S:bU N ps (am st))(nm:Names P w K mg base k glob blt fns cn)
  (hc:cx ⟨N,am st,true,glob,blt,fns⟩ a (aW st)=true) (len:∀ds M Q,sp ds M Q->ds.length=ps.length)
  (h:∀ds M Q,sp ds M Q->wSs cn a { nx:=λ_ M'=>Q .non M',rt:=Q } (ai N ds) M):bB P w K mg base (k+1) x sp:=by
 refine N5 c S len (λu_ A outer s H E b=>?_) h;exact yO a (Γ:=⟨N,am st,true,glob,blt,fns⟩) ⟨rfl,rfl,S.kind,S.nd,rfl,λ_ _=>rfl,PassesOwn.never,nm.glob,nm.blt,λj x e=>let⟨k',h1,h2⟩:=nm.fns j x e;⟨k',h2,b.mono h1⟩,nm.flds,λC m sp e=>let⟨k',h1,h2⟩:=nm.mts C m sp e;⟨k',h2,b.mono h1⟩,nm.isi,XE (Nat.add_le_add_left (by decide:40<=64) _) b.units⟩ hc
theorem yP{x i':Str}{st:Stmt}{ps N:Zf}{f:Addr}{fd:Zv}{k:Nat}{sp:az}{a:Ss}{glob:Zf}{blt:Zf}{fns:Zf}{cn:Cn}(l:ue K x i' st f fd)(S:bU N ps (am st))(nm:Names P w K mg base k glob blt fns cn)
  (hc:cx ⟨N,am st,true,glob,blt,fns⟩ a (aW st)=true) (len:∀ds M Q,sp ds M Q->ds.length=ps.length)
  (h:∀ds M Q,sp ds M Q->wSs cn a { nx:=λ_ M'=>Q .non M',rt:=Q } (ai N ds) M):ge P w K mg base mJ (k+1) f fd ps (iE K sp):=by
 refine l.ok S (λvs H Q E ⟨ds,M,b,r,_,s,_⟩=>by rw[←r.len];exact len ds M b s) λu_ A outer s H vs Q E c ⟨ds,M,b,r,m,sq,g⟩=>⟨tw _ _,pq _,?_⟩
 have hb:=yO a (Γ:=⟨N,am st,true,glob,blt,fns⟩) (X:=(qG mJ P w K mg base N i' (am st) f u_ A outer s H E).nox) ⟨rfl,rfl,S.kind,S.nd,rfl,λ_ _=>rfl,PassesOwn.never,nm.glob,nm.blt,λj x e=>let⟨k',h1,h2⟩:=nm.fns j x e;⟨k',h2,c.mono h1⟩,nm.flds,λC m sp e=>let⟨k',h1,h2⟩:=nm.mts C m sp e;⟨k',h2,c.mono h1⟩,nm.isi,XE (Nat.add_le_add_left (by decide:40<=64) _) c.units⟩ hc;refine fm (hb (ai N ds) M (L2.start N vs) H _ (yp r) m (h ds M b sq)) ⟨λp H' n=>?_,λv H' ⟨k',d,M',o,m',q⟩=>g _ _ _ _ q k' o m',λ_ _ ⟨_,_,_,_,_,q⟩=>q,λ_ _ ⟨_,_,_,_,_,q⟩=>q⟩;obtain⟨k',t,M',_,m',q⟩:=n;exact g _ _ _ _ q k' (RV.non_.2 rfl) m'
end
section
variable {P:Zw}{w:World}{K:Za}{mg:Ze}{base:Heap}{k:Nat}
theorem ah{F:List az}:∀(j:Nat) (x:Str),([]:List Str)[j]?=some x->∃k',k'<=k/\dy P w K mg base k' x (F.getD j λ_ _ _=>False):=λj x e=>by simp at e
theorem ag{y:Str}{b:Zf}{sp:az}{F:List az}{a:Nat}(c:a<=k)(h:dy P w K mg base a y sp)(t:∀(j:Nat) (x:Str),b[j]?=some x->∃k',k'<=k/\dy P w K mg base k' x (F.getD j λ_ _ _=>False)):
  ∀(j:Nat) (x:Str),(y::b)[j]?=some x->∃k',k'<=k/\dy P w K mg base k' x ((sp::F).getD j λ_ _ _=>False):=λj x e=>by
 cases j with
 |zero=>
  have:y=x:=by simpa using e
  subst this;exact⟨a,c,h⟩
 |succ j=>exact t j x (by simpa using e)
theorem GO{C:Addr}{m i':Str}{st:Stmt}{ps N:Zf}{f:Addr}{fd:Zv}{sp:az}{a:Ss}{glob:Zf}{blt:Zf}{fns:Zf}{cn:Cn}(cl:fY K C)(A:MethAt K C m i' st f fd)(S:bU N ps (am st))(nm:Names P w K mg base k glob blt fns cn)
  (hb:∀(kV w_ pm:Value) (an:Zm) (u_ ct:Value) (us:Zd),us.length=ps.length->bindArgs (PySem.W.fnOf m i' (bN st) (aW st) (am st) .none kV w_ pm an u_ ct) ⟨us,[]⟩=pure (ps.zip us))
  (hc:cx ⟨N,am st,true,glob,blt,fns⟩ a (aW st)=true) (len:∀ds M Q,sp ds M Q->ds.length=ps.length)
  (h:∀ds M Q,sp ds M Q->wSs cn a { nx:=λ_ M'=>Q .non M',rt:=Q } (ai N ds) M):bc P w K mg base (k+1) C m sp:=
 ⟨f,fd,ps,cl,A.meth,A.fun_.binds hb,yP A.fun_ S nm hc len h⟩
theorem LA{x:Str}{C:Addr}{i':Str}{st:Stmt}{ps N:Zf}{f:Addr}{fd:Zv}{sp:az}{a:Ss}{glob:Zf}{blt:Zf}{fns:Zf}{cn:Cn}(hx:mg x=some (.ref C))(hm:PySem.W.makesIn K C=true)(hk:PySem.W.keepIn K (.ref C)=true)(A:MethAt K C "__init__" i' st f fd)
  (S:bU N ps (am st)) (nm:Names P w K mg base k glob blt fns cn)
  (hb:∀(kV w_ pm:Value) (an:Zm) (u_ ct:Value) (us:Zd),us.length=ps.length->bindArgs (PySem.W.fnOf "__init__" i' (bN st) (aW st) (am st) .none kV w_ pm an u_ ct) ⟨us,[]⟩=pure (ps.zip us))
  (hc:cx ⟨N,am st,true,glob,blt,fns⟩ a (aW st)=true) (len:∀ds M Q,sp ds M Q->ds.length=ps.length)
  (h:∀ds M Q,sp ds M Q->wSs cn a { nx:=λ_ M'=>Q .non M',rt:=Q } (ai N ds) M):dy P w K mg base (k+2) x (bD C sp):=
 .inr ⟨k+1,rfl,C,f,fd,ps,sp,⟨hm,A.at_,A.fn,hk⟩,hx,A.fun_.binds hb,yP A.fun_ S nm hc len h,rfl⟩
end
theorem aO.fun_{K:Za}{x:Str}{st:Stmt}{f:Addr}{fd:Zv}(A:aO K x st f fd):ue K x x st f fd:=by
 obtain⟨oc,od,an,G',kV,w_,pm,u_,ct,a,rfl,l,c,k⟩:=A.ex;exact ya l c k
end DD
open PySem L2 DD
local macro_rules
  | `(#v[]) => `(.nil)
  | `(#v[$x]) => `(.cons $x .nil)
  | `(#v[$x, $xs,*]) => `(.cons $x #v[$xs,*])
local macro_rules
  | `(~~~$x) => `(some (DD.D.int ($x : Int)))
local macro_rules
  | `(↑$x) => `(some (DD.D.ref $x))
local macro_rules
  | `(⇑$x) => `(DD.D.int ($x : Int))
local macro_rules
  | `(tactic| simp! only [$ts,*]) => `(tactic| simp only [wSs, wS, wE, wEs, wEo, ot, wT, wI, wP, FO, ur, FU, B0, FG, ui, FB, KK, FC, Ca, FE, Cb, KM, FQ, FT, FV, Ci, Cf, gK, yA, Lg, FJ, FI, qM, Cc, Gj, FX, Cj, Ck, CU, Co, Cq, yE, Gp, CG, uH, MB, ye, rM, FF, intD, bn, uu, setM, F3, Ct, D8, HC, dI, A8, F2, F1, Ln, Cv, rV, Cy, HF, Cz, uD, rW, CB, Ek, yD, CC, rZ, r0, uF, HE, Le, Gm, F8, F9, Gb, vJ, Ga, vI, Cr, A9, xE, K8, Cs, K7, Bd, KY, Go, CF, xG, tz, vK, CJ, r9, Er, CO, CN, CD, Lp, aJ, ax, List.getElem?_cons_zero, List.getElem?_cons_succ, $ts,*])
namespace SH
open PySem L2 DD
abbrev fin(Q:DK):cv:={ nx:=λ_ M'=>Q .non M',rt:=Q }
def ad(M M':MH):Prop:=∀a o,M a=some o->M' a=some o
theorem ad.refl(M:MH):ad M M:=λ_ _ h=>h
theorem ad.trans{M M' d:MH}(a:ad M M')(b:ad M' d):ad M d:=λc o h=>b c o (a c o h)
theorem ad.new{M:MH}{p:Addr}{o:MO}(h:M p=none):ad M (ac M p o):=λa u e=>by
 rw[aG (λz=>by subst z;rw[h] at e;cases e)];exact e
theorem ad.then{M M':MH}{p:Addr}{o:MO}(e:ad M M')(h:M' p=none):ad M (ac M' p o):=e.trans (ad.new h)
def ExtBut(p:Addr)(M M':MH):Prop:=∀a o,a≠p->M a=some o->M' a=some o
theorem fw{g:MH->Prop}{t:dY}{c:WT}{e:WE}{F:List D->MH->Prop}{f:D->D}{ok:DS->Prop}{M:MH}:∀{xs:List D}(h_:List D) (σ:DS),ok σ ->
  (∀x∈xs,∀σ h_ rest,ok σ->(∀a,ok a->a9 g t c e F rest (h_++[f x]) a M)->a9 g t c e F (x::rest) h_ σ M)->F (h_++xs.map f) M->a9 g t c e F xs h_ σ M
 |[],h_,σ,_,_,q=>by
  rw[List.map_nil,ZA] at q;exact q
 |x::xs,h_,σ,h,st,q=>st x ZX σ h_ xs h λa h'=>fw (h_++[f x]) a h' (λy hy=>st y (.tail _ hy)) (by simpa using q)
theorem dk{g:MH->Prop}{t:dY}{c:WT}{e:WE}{F:List D->MH->Prop}{p:D->Bool}{ok:DS->Prop}{M:MH}:∀{xs:List D}(h_:List D) (σ:DS),ok σ ->
  (∀x∈xs,∀σ h_ rest,ok σ->(∀a,ok a->a9 g t c e F rest (h_++cond (p x) [x] []) a M)->a9 g t c e F (x::rest) h_ σ M)->F (h_++xs.filter p) M->a9 g t c e F xs h_ σ M
 |[],h_,σ,_,_,q=>by
  rw[List.filter_nil,ZA] at q;exact q
 |x::xs,h_,σ,h,st,q=>st x ZX σ h_ xs h λa h'=>dk (h_++cond (p x) [x] []) a h' (λy hy=>st y (.tail _ hy)) (by
  rw[XS] at q;cases e:p x with
  |true=>rw[e] at q;simpa using q
  |false=>rw[e] at q;simpa using q)
theorem bz{a:Type}(x:a)(xs:List a):cX (x::xs) 0=some x:=c9 (j:=0) rfl
theorem bF{a:Type}(x y:a)(xs:List a):cX (x::y::xs) 1=some y:=c9 (j:=1) rfl
theorem at2{a:Type}(x y z:a)(xs:List a):cX (x::y::z::xs) 2=some z:=c9 (j:=2) rfl
theorem ao(x:Str):aY (.str x)=true:=rfl
theorem aq(x:Int):aY (.int x)=true:=rfl
theorem aA(x:Bool):aY (.bl x)=true:=rfl
theorem ar(x:Str):dE (.str x)=0:=rfl
theorem al(x:Int):dE (.int x)=0:=rfl
theorem aC(x:Bool):dE (.bl x)=0:=rfl
theorem ak(x y:Int):a8 (.int x) (.int y)=(x==y):=by rw[a8]
theorem au(x y:Str):a8 (.str x) (.str y)=(x==y):=by rw[a8]
def nP(h f:Int):Int:=h / 2 ^ f.toNat%2
theorem Jx(h f:Int):nP h f=0\/nP h f=1:=by unfold nP;omega
def hasB(h f:Int):Bool:=nP h f==1
theorem yQ(h f:Int):(nP h f==0) = !hasB h f:=by
 unfold hasB;rcases Jx h f with e | e<;>rw[e]<;>rfl
def aZ(fs:Zi):List D:=fs.map .int
def bits(h:Int)(fs:Zi):List D:=fs.map λf=>.int (nP h f)
def cY(fs:Zi)(h:Int):Nat:=(fs.filter (hasB h)).length
theorem q0:∀(fs:Zi),bo (aZ fs)=true
 |[]=>rfl
 |f::fs=>by
  show(aY (.int f)&&bo (aZ fs))=true;rw[q0 fs];rfl
theorem tJ:∀(fs:Zi),cw (aZ fs)=0
 |[]=>rfl
 |f::fs=>by
  show cw (.int f::aZ fs)=0;rw[cw,tJ fs];rfl
theorem vM{fs:Zi}{k:Nat}(h:k<fs.length):cX (aZ fs) (k:Int)=some (.int (fs.getD k 0)):=by
 refine c9 ?_;unfold aZ;rw[ZG,ZD h];simp[List.getD,ZD h]
theorem LB{a:Type}(xs:List a)(k:Nat):cc xs none (some (k:Int))=xs.take k:=by
 unfold cc;rw[HT.jr,HT.tf];simp
theorem sg(fs:Zi)(k:Nat):cc (aZ fs) none (some (k:Int))=aZ (fs.take k):=by rw[LB];unfold aZ;rw[List.map_take]
theorem tK(fs:Zi):(aZ fs).length=fs.length:=by unfold aZ;rw[ZF]
inductive CT where
 |hav (f:Int) | lck (f:Int) | som (n:Int) (fs:Zi) | led (fs:Zi) (k:Nat)
def CT.ok:CT->Prop
 |.hav f=>0<=f/\f<120
 |.lck f=>0<=f/\f<120
 |.som _ fs=>(0<fs.length/\fs.length<=6)/\∀f∈fs,0<=f/\f<120
 |.led fs k=>(k<fs.length/\fs.length<=6)/\∀f∈fs,0<=f/\f<120
def CT.told:CT->D
 |.hav f=>.tup [.str "have",.int f]
 |.lck f=>.tup [.str "lack",.int f]
 |.som n fs=>.tup [.str "some",.int n,.tup (aZ fs)]
 |.led fs k=>.tup [.str "lead",.tup (aZ fs),.int k]
def CT.flds:CT->List (Str×D)
 |.hav f=>[("fact",.int f)]
 |.lck f=>[("fact",.int f)]
 |.som n fs=>[("number",.int n),("facts",.tup (aZ fs))]
 |.led fs k=>[("facts",.tup (aZ fs)),("at",.int k)]
def CT.kind:CT->Nat
 |.hav _=>0
 |.lck _=>1
 |.som _ _=>2
 |.led _ _=>3
def CT.carried(h m:Int):CT->Bool
 |.hav f=>hasB h f
 |.lck f=>!hasB m f
 |.som n fs=>decide (n<=((cY fs h:Nat):Int))
 |.led fs k=>hasB h (fs.getD k 0)&&(((cY (fs.take k) m:Nat):Int)==0)
def cN(b:Bool)(f:Int):D:=.tup [.int f,.bl b]
def CT.leans:CT->List D
 |.hav f=>[cN false f]
 |.lck f=>[cN true f]
 |.som _ fs=>fs.map (cN false)
 |.led fs k=>(fs.take k).map (cN true)++[cN false (fs.getD k 0)]
structure CA where
 h:Addr
 l:Addr
 s:Addr
 d:Addr
def CA.at(c:CA):Nat->Addr
 |0=>c.h
 |1=>c.l
 |2=>c.s
 |_=>c.d
def CT.obj(c:CA)(t:CT):MO:=.ins (c.at t.kind) t.flds
theorem CT.kind_lt(t:CT):t.kind<4:=by
 cases t with
 |hav _=>exact(by decide:(0:Nat)<4)
 |lck _=>exact(by decide:(1:Nat)<4)
 |som _ _=>exact(by decide:(2:Nat)<4)
 |led _ _=>exact(by decide:(3:Nat)<4)
theorem Bu{fs:Zi}{k:Nat}(h:k<fs.length)(hf:∀f∈fs,0<=f/\f<120):0<=fs.getD k 0:=by
 have:fs.getD k 0=fs[k]:=by simp[List.getD,ZD h]
 rw[this];exact(hf _ (XJ h)).1
def dz:az:=λds M Q=>∃h f:Int,ds=[.int h,.int f]/\0<=f/\Q (.bl (hasB h f)) M
def lL:az:=λds M Q=>∃(fs:Zi) (h:Int),ds=[.tup (aZ fs),.int h]/\(∀f∈fs,0<=f)/\∀M',ad M M'->Q (.int (cY fs h:Nat)) M'
def cg(c:CA)(k:Nat):az:=λds M Q=>∃(a:Addr) (t:CT) (h m:Int),t.kind=k/\t.ok/\ds=[.ref a,.int h,.int m]/\M a=some (t.obj c)/\∀M',ad M M'->Q (.bl (t.carried h m)) M'
def ci(c:CA)(k:Nat):az:=λds M Q=>∃(a:Addr) (t:CT),t.kind=k/\t.ok/\ds=[.ref a]/\M a=some (t.obj c)/\∀p M',M p=none->ad M M'->M' p=some (.lst t.leans)->Q (.ref p) M'
def cB(c:CA)(k:Nat):az:=λds M Q=>∃(a:Addr) (t:CT),t.kind=k/\ds=.ref a::t.flds.map (·.2)/\M a=some (.ins (c.at k) [])/\∀M',(∀b,b≠a->M' b=M b)->M' a=some (t.obj c)->Q .non M'
def kindAt(c:CA)(a:Addr):Option Nat:=if a=c.h then some 0 else if a=c.l then some 1 else if a=c.s then some 2 else if a=c.d then some 3 else none
def CA.apart(c:CA):Prop:=∀k,k<4->kindAt c (c.at k)=some k
def hJ:List Str:=["fact","number","facts","at"]
def fA(c:CA):pU:=λa f=>∃k,k<4/\a=c.at k/\f∈hJ
theorem bQ(c:CA){k:Nat}{f:Str}(hk:k<4)(h:f∈hJ):fA c (c.at k) f:=⟨k,hk,rfl,h⟩
def nQ:Ss:=#v[.ret (.cmp .Eq (.bin .BitAnd (.bin .RShift (.var 0) (.var 1)) (.int 1)) (.int 1))]
def nR:Ss:=#v[.ret (.bi .len #v[.comp 1 (.var 2) (.nm 2) (.seq (.var 0)) (.yes (.val (.fn 0 #v[.var 1,.var 2])))])]
section
variable {cn:Cn}
theorem Ae{ds:List D}{M:MH}{Q:DK}(h:dz ds M Q):wSs cn nQ (fin Q) (ai ["",""] ds) M:=by
 obtain⟨x,f,rfl,hf,q⟩:=h;show wSs cn nQ (fin Q) [some (.int x),some (.int f)] M;unfold nQ;simp! only[];refine⟨hf,⟨rfl,rfl,(by decide:(0:Nat)<=30)⟩,?_⟩;rw[PyProof.Rows.bitAnd_m1];exact q
theorem Af{ds:List D}{M:MH}{Q:DK}(b:cn.F.getD 0 (λ_ _ _=>False)=dz)(h:lL ds M Q):wSs cn nR (fin Q) (ai ["",""] ds) M:=by
 obtain⟨fs,x,rfl,hf,q⟩:=h;show wSs cn nR (fin Q) [some (.tup (aZ fs)),some (.int x)] M;unfold nR;simp! only[b];refine dk (p:=λd=>match d with | .int f=>hasB x f | _=>false) (ok:=λσ=>∃v,σ=[some (.tup (aZ fs)),some (.int x),v]) [] _ ⟨none,rfl⟩ ?_ ?_
 ·intro d hd σ h_ rest ⟨v,c⟩ k
  subst c;obtain⟨f,g,rfl⟩:=XT.1 hd;refine⟨x,f,rfl,hf f g,?_⟩;have a:=k _ ⟨some (.int f),rfl⟩;show bG (hasB x f) _ _;dsimp only at a;cases hb:hasB x f with
  |true=>rw[hb] at a;exact⟨trivial,a⟩
  |false=>rw[hb] at a;exact⟨trivial,by simpa using a⟩
 ·intro p hp
  rw[aa];have e:([]++(aZ fs).filter (λ(d:D)=>match d with | .int f=>hasB x f | _=>false)).length=cY fs x:=by
   unfold aZ cY;rw[XB,List.filter_map,ZF];rfl
  dsimp only;rw[e];exact q _ (ad.new hp)
end
end SH
local macro_rules
  | `(tactic| simp_all! only [$ts,*]) => `(tactic| simp! only [SH.ao,SH.aq,SH.aA,SH.ar,SH.al,SH.aC,SH.ak,SH.au,YL,and_self,true_and,and_true,$ts,*])
namespace SH
open PySem L2 DD
theorem si(x:D):List.lookup ("fact" : Str) [("fact",x)]=some x:=rfl
theorem wD(x y:D):List.lookup ("number" : Str) [("number",x),("facts",y)]=some x:=rfl
theorem yR(x y:D):List.lookup ("facts" : Str) [("number",x),("facts",y)]=some y:=rfl
theorem mO(x y:D):List.lookup ("facts" : Str) [("facts",x),("at",y)]=some x:=rfl
theorem xJ(x y:D):List.lookup ("at" : Str) [("facts",x),("at",y)]=some y:=rfl
theorem lM:("fact" : Str)∈hJ:=by rfl'
theorem wF:("number" : Str)∈hJ:=by rfl'
theorem fB:("facts" : Str)∈hJ:=by rfl'
theorem uU:("at" : Str)∈hJ:=by rfl'
def dH:Ss:=#v[.setF (.var 0) "fact" (.var 1)]
def iK:Ss:=#v[.ret (.fn 0 #v[.var 1,.fld (.var 0) "fact"])]
def iL:Ss:=#v[.ret (.not (.fn 0 #v[.var 2,.fld (.var 0) "fact"]))]
def iM:Ss:=#v[.ret (.lst #v[.tup #v[.fld (.var 0) "fact",.bl false]])]
def iN:Ss:=#v[.ret (.lst #v[.tup #v[.fld (.var 0) "fact",.bl true]])]
def ow:Ss:=#v[.setF (.var 0) "facts" (.var 2)]
def mf:Ss:=.cons (.setF (.var 0) "number" (.var 1)) ow
def iO:Ss:=#v[.ret (.cmp .GtE (.fn 0 #v[.fld (.var 0) "facts",.var 1]) (.fld (.var 0) "number"))]
def iP:Ss:=#v[.ret (.comp 1 (.tup #v[.var 1,.bl false]) (.nm 1) (.seq (.fld (.var 0) "facts")) .no)]
def ox:Ss:=#v[.setF (.var 0) "at" (.var 2)]
def mh:Ss:=.cons (.setF (.var 0) "facts" (.var 1)) ox
def iQ:Ss:=#v[.ret (.and (.fn 0 #v[.var 1,.ix (.fld (.var 0) "facts") (.fld (.var 0) "at")]) (.cmp .Eq (.fn 1 #v[.sl (.fld (.var 0) "facts") .no (.yes (.fld (.var 0) "at")),.var 2]) (.int 0)))]
def iR:Ss:=#v[.ret (.bin .Add (.comp 1 (.tup #v[.var 1,.bl true]) (.nm 1) (.seq (.sl (.fld (.var 0) "facts") .no (.yes (.fld (.var 0) "at")))) .no) (.lst #v[.tup #v[.ix (.fld (.var 0) "facts") (.fld (.var 0) "at"),.bl false]]))]
section
variable {cn:Cn}{c:CA}{ds:List D}{M:MH}{Q:DK}
theorem yS(d:cn.O=fA c)(h:cB c 0 ds M Q):wSs cn dH (fin Q) (ai ["",""] ds) M:=by
 obtain⟨a,t,hk,rfl,g,q⟩:=h;cases t with
 |hav f=>
  show wSs cn dH (fin Q) [↑a,some (.int f)] M;unfold dH;simp! only[g,d];exact⟨⟨bQ c (by decide) lM,by decide⟩,q _ (λb hb=>aG hb) aa⟩
 |lck f=>cases hk
 |som n fs=>cases hk
 |led fs k=>cases hk
theorem yT(d:cn.O=fA c)(h:cB c 1 ds M Q):wSs cn dH (fin Q) (ai ["",""] ds) M:=by
 obtain⟨a,t,hk,rfl,g,q⟩:=h;cases t with
 |lck f=>
  show wSs cn dH (fin Q) [↑a,some (.int f)] M;unfold dH;simp! only[g,d];exact⟨⟨bQ c (by decide) lM,by decide⟩,q _ (λb hb=>aG hb) aa⟩
 |hav f=>cases hk
 |som n fs=>cases hk
 |led fs k=>cases hk
theorem yU(d:cn.O=fA c)(h:cB c 2 ds M Q):wSs cn mf (fin Q) (ai ["","",""] ds) M:=by
 obtain⟨a,t,hk,rfl,g,q⟩:=h;cases t with
 |som n fs=>
  show wSs cn mf (fin Q) [↑a,some (.int n),some (.tup (aZ fs))] M;unfold mf;simp! only[g,d];refine⟨⟨bQ c (by decide) wF,by decide⟩,?_⟩;unfold ow;simp! only[aa,d];exact⟨⟨bQ c (by decide) fB,(show(1:Nat)<1000 by decide)⟩,q _ (λb hb=>by rw[aG hb,aG hb]) aa⟩
 |hav f=>cases hk
 |lck f=>cases hk
 |led fs k=>cases hk
theorem yV(d:cn.O=fA c)(h:cB c 3 ds M Q):wSs cn mh (fin Q) (ai ["","",""] ds) M:=by
 obtain⟨a,t,hk,rfl,g,q⟩:=h;cases t with
 |led fs k=>
  show wSs cn mh (fin Q) [↑a,some (.tup (aZ fs)),some (.int k)] M;unfold mh;simp! only[g,d];refine⟨⟨bQ c (by decide) fB,by decide⟩,?_⟩;unfold ox;simp! only[aa,d];exact⟨⟨bQ c (by decide) uU,(show(1:Nat)<1000 by decide)⟩,q _ (λb hb=>by rw[aG hb,aG hb]) aa⟩
 |hav f=>cases hk
 |lck f=>cases hk
 |som n fs=>cases hk
theorem uV(d:cn.O=fA c)(g:cn.F.getD 0 (λ_ _ _=>False)=dz)(h:cg c 0 ds M Q):wSs cn iK (fin Q) (ai ["","",""] ds) M:=by
 obtain⟨a,t,h,m,hk,j,rfl,b,q⟩:=h;cases t with
 |hav f=>
  have b:M a=some (.ins (c.at 0) [("fact",.int f)]):=b;show wSs cn iK (fin Q) [↑a,some (.int h),some (.int m)] M;unfold iK;simp! only[b,d,si,g];exact⟨bQ c (by decide) lM,h,f,rfl,j.1,q M (ad.refl M)⟩
 |lck f=>cases hk
 |som n fs=>cases hk
 |led fs k=>cases hk
theorem uW(d:cn.O=fA c)(g:cn.F.getD 0 (λ_ _ _=>False)=dz)(h:cg c 1 ds M Q):wSs cn iL (fin Q) (ai ["","",""] ds) M:=by
 obtain⟨a,t,h,m,hk,j,rfl,b,q⟩:=h;cases t with
 |lck f=>
  have b:M a=some (.ins (c.at 1) [("fact",.int f)]):=b;show wSs cn iL (fin Q) [↑a,some (.int h),some (.int m)] M;unfold iL;simp! only[b,d,si,g];exact⟨bQ c (by decide) lM,m,f,rfl,j.1,q M (ad.refl M)⟩
 |hav f=>cases hk
 |som n fs=>cases hk
 |led fs k=>cases hk
theorem uX(g:cn.O=fA c)(j:cn.F.getD 0 (λ_ _ _=>False)=lL)(h:cg c 2 ds M Q):wSs cn iO (fin Q) (ai ["","",""] ds) M:=by
 obtain⟨a,t,h,m,hk,l,rfl,b,q⟩:=h;cases t with
 |som n fs=>
  have b:M a=some (.ins (c.at 2) [("number",.int n),("facts",.tup (aZ fs))]):=b;show wSs cn iO (fin Q) [↑a,some (.int h),some (.int m)] M;unfold iO;simp! only[b,g,wD,yR,j];refine⟨bQ c (by decide) fB,fs,h,rfl,λf hf=>(l.2 f hf).1,λM1 d=>?_⟩;simp only[d a _ b,wD];exact⟨bQ c (by decide) wF,q M1 d⟩
 |hav f=>cases hk
 |lck f=>cases hk
 |led fs k=>cases hk
theorem uY(g:cn.O=fA c)(j:cn.F.getD 0 (λ_ _ _=>False)=dz)(l:cn.F.getD 1 (λ_ _ _=>False)=lL)(h:cg c 3 ds M Q):wSs cn iQ (fin Q) (ai ["","",""] ds) M:=by
 obtain⟨a,t,h,m,hk,b,rfl,d,q⟩:=h;cases t with
 |led fs k=>
  have d:M a=some (.ins (c.at 3) [("facts",.tup (aZ fs)),("at",.int k)]):=d;show wSs cn iQ (fin Q) [↑a,some (.int h),some (.int m)] M;unfold iQ;simp! only[d,g,mO,xJ,j,l,vM b.1.1,sg];refine⟨bQ c (by decide) fB,bQ c (by decide) uU,h,fs.getD k 0,rfl,Bu b.1.1 b.2,?_⟩;have q:∀M',ad M M'->Q (.bl (hasB h (fs.getD k 0)&&(((cY (fs.take k) m:Nat):Int)==0))) M':=q;cases hb:hasB h (fs.getD k 0) with
  |false=>rw[hb,YD] at q;exact q M (ad.refl M)
  |true=>
   rw[hb,Bool.true_and] at q;simp only[aJ,d,mO,xJ,sg];refine⟨bQ c (by decide) fB,bQ c (by decide) uU,fs.take k,m,rfl,λf hf=>(b.2 f (XU hf)).1,λM1 o=>⟨⟨rfl,rfl,(by decide:(0:Nat)<=30)⟩,?_⟩⟩;rw[ak];exact q M1 o
 |hav f=>cases hk
 |lck f=>cases hk
 |som n fs=>cases hk
theorem uZ(d:cn.O=fA c)(h:ci c 0 ds M Q):wSs cn iM (fin Q) (ai [""] ds) M:=by
 obtain⟨a,t,hk,g,rfl,b,q⟩:=h;cases t with
 |hav f=>
  have b:M a=some (.ins (c.at 0) [("fact",.int f)]):=b;show wSs cn iM (fin Q) [↑a] M;unfold iM;simp! only[b,d,si];exact⟨bQ c (by decide) lM,λp hp=>q p _ hp (ad.new hp) aa⟩
 |lck f=>cases hk
 |som n fs=>cases hk
 |led fs k=>cases hk
theorem u1(d:cn.O=fA c)(h:ci c 1 ds M Q):wSs cn iN (fin Q) (ai [""] ds) M:=by
 obtain⟨a,t,hk,g,rfl,b,q⟩:=h;cases t with
 |lck f=>
  have b:M a=some (.ins (c.at 1) [("fact",.int f)]):=b;show wSs cn iN (fin Q) [↑a] M;unfold iN;simp! only[b,d,si];exact⟨bQ c (by decide) lM,λp hp=>q p _ hp (ad.new hp) aa⟩
 |hav f=>cases hk
 |som n fs=>cases hk
 |led fs k=>cases hk
def yW(b:Bool):D->D
 |.int f=>cN b f
 |d=>d
theorem yX(b:Bool)(fs:Zi):(aZ fs).map (yW b)=fs.map (cN b):=by
 unfold aZ;rw[ZL];rfl
theorem u2(g:cn.O=fA c)(h:ci c 2 ds M Q):wSs cn iP (fin Q) (ai [""] ds) M:=by
 obtain⟨a,t,hk,l,rfl,b,q⟩:=h;cases t with
 |som n fs=>
  have b:M a=some (.ins (c.at 2) [("number",.int n),("facts",.tup (aZ fs))]):=b;show wSs cn iP (fin Q) [↑a] M;unfold iP;simp! only[b,g,yR];refine⟨bQ c (by decide) fB,?_⟩;refine fw (f:=yW false) (ok:=λσ=>∃v,σ=[↑a,v]) [] _ ⟨none,rfl⟩ ?_ ?_
  ·intro d hd σ h_ rest ⟨v,j⟩ k
   subst j;obtain⟨f,m,rfl⟩:=XT.1 hd;exact⟨trivial,k _ ⟨_,rfl⟩⟩
  ·intro p hp
   rw[XB,yX];exact q p _ hp (ad.new hp) aa
 |hav f=>cases hk
 |lck f=>cases hk
 |led fs k=>cases hk
theorem u3(r:cn.O=fA c)(h:ci c 3 ds M Q):wSs cn iR (fin Q) (ai [""] ds) M:=by
 obtain⟨a,t,hk,l,rfl,b,q⟩:=h;cases t with
 |led fs k=>
  have b:M a=some (.ins (c.at 3) [("facts",.tup (aZ fs)),("at",.int k)]):=b;show wSs cn iR (fin Q) [↑a] M;unfold iR;simp! only[b,r,mO,xJ,sg];refine⟨bQ c (by decide) fB,bQ c (by decide) uU,?_⟩;refine fw (f:=yW true) (ok:=λσ=>∃v,σ=[↑a,v]) [] _ ⟨none,rfl⟩ ?_ ?_
  ·intro d hd σ h_ rest ⟨v,u⟩ k
   subst u;obtain⟨f,B,rfl⟩:=XT.1 hd;exact⟨trivial,k _ ⟨_,rfl⟩⟩
  ·intro p hp
   rw[XB,yX];have g:=ad.new (o:=MO.lst ((fs.take k).map (cN true))) hp;have w:=g a _ b;have y:ac M p (MO.lst ((fs.take k).map (cN true))) p=some (.lst ((fs.take k).map (cN true))):=aa;generalize ac M p (MO.lst ((fs.take k).map (cN true)))=M1 at *;simp only[w,mO,xJ,vM l.1.1];refine⟨bQ c (by decide) fB,bQ c (by decide) uU,λp2 z=>?_⟩;have j:=ad.new (o:=MO.lst [D.tup [D.int (fs.getD k 0),D.bl false]]) z;have h2:=j p _ y;have A:ac M1 p2 (MO.lst [D.tup [D.int (fs.getD k 0),D.bl false]]) p2=some (.lst [D.tup [D.int (fs.getD k 0),D.bl false]]):=aa;generalize ac M1 p2 (MO.lst [D.tup [D.int (fs.getD k 0),D.bl false]])=M2 at *;simp only[h2,A];refine⟨?_,λp3 m=>q p3 _ ?_ ((g.trans j).then m) aa⟩
   ·have:((fs.take k).map (cN true)).length<=6:=by rw[ZF];exact ZW (List.length_take_le' _ _) l.1.2
    have C:(7:Nat)<=sizeLine:=by decide
    simp only[YH,YT];omega
   ·cases e:M p3 with
    |none=>rfl
    |some o=>have:=(g.trans j) p3 o e;rw[m] at this;cases this
 |hav f=>cases hk
 |lck f=>cases hk
 |som n fs=>cases hk
end
theorem ad.free{M M':MH}{p:Addr}(e:ad M M')(h:M' p=none):M p=none:=by
 cases q:M p with
 |none=>rfl
 |some o=>have:=e p o q;rw[h] at this;cases this
theorem ad.put{M M':MH}{p:Addr}{o:MO}(e:ad M M')(h:M p=none):ad M (ac M' p o):=λa u q=>by
 have:a≠p:=λz=>by subst z;rw[h] at q;cases q
 rw[aG this];exact e a u q
theorem u4{M M':MH}{x:Addr}{o:MO}(hx:M x=none)(h:∀b,b≠x->M' b=ac M x o b):ad M M':=λb u e=>by
 have:b≠x:=λz=>by subst z;rw[hx] at e;cases e
 rw[h b this,aG this];exact e
theorem cp{M:MH}{a p:Addr}{o:MO}(h:M a=some o)(hp:M p=none):a≠p:=λz=>by subst z;rw[hp] at h;cases h
theorem ExtBut.refl(p:Addr)(M:MH):ExtBut p M M:=λ_ _ _ h=>h
theorem ExtBut.trans{p:Addr}{M M' d:MH}(a:ExtBut p M M')(b:ExtBut p M' d):ExtBut p M d:=λc o n h=>b c o n (a c o n h)
theorem ad.but{p:Addr}{M M':MH}(a:ad M M'):ExtBut p M M':=λc o _ h=>a c o h
theorem ExtBut.upd(p:Addr)(M:MH)(o:MO):ExtBut p M (ac M p o):=λc u n h=>by rw[aG n];exact h
theorem ExtBut.ext{p:Addr}{M M1 M2:MH}(a:ad M M1)(b:ExtBut p M1 M2)(h:M p=none):ad M M2:=λc o q=>b c o (cp q h) (a c o q)
theorem LC:(("have" : Str) == "have")=true:=XF _
theorem GP:(("some" : Str) == "some")=true:=XF _
theorem GQ:(("lack" : Str) == "lack")=true:=XF _
theorem NT:(("lead" : Str) == "lead")=true:=XF _
theorem GR:(("lack" : Str) == "have")=false:=by rfl'
theorem GS:(("some" : Str) == "have")=false:=by rfl'
theorem GT:(("some" : Str) == "lack")=false:=by rfl'
theorem GU:(("lead" : Str) == "have")=false:=by rfl'
theorem GV:(("lead" : Str) == "lack")=false:=by rfl'
theorem GW:(("lead" : Str) == "some")=false:=by rfl'
def u5(c:CA):az:=λds M Q=>∃t:CT,ds=[t.told]/\∀p M',M p=none->ad M M'->M' p=some (t.obj c)->Q (.ref p) M'
def pY:Ss:=#v[.ret (.fn 0 #v[.ix (.var 0) (.int 1),.ix (.var 0) (.int 2)])]
def kO:Ss:=.cons (.ite (.cmp .Eq (.ix (.var 0) (.int 0)) (.str "some")) #v[.ret (.fn 1 #v[.ix (.var 0) (.int 1),.ix (.var 0) (.int 2)])] .nil) pY
def gL:Ss:=.cons (.ite (.cmp .Eq (.ix (.var 0) (.int 0)) (.str "lack")) #v[.ret (.fn 2 #v[.ix (.var 0) (.int 1)])] .nil) kO
def eJ:Ss:=.cons (.ite (.cmp .Eq (.ix (.var 0) (.int 0)) (.str "have")) #v[.ret (.fn 3 #v[.ix (.var 0) (.int 1)])] .nil) gL
section
variable {cn:Cn}{c:CA}{ds:List D}{M:MH}{Q:DK}
theorem Jy(a:cn.F=[bD (c.at 3) (cB c 3),bD (c.at 2) (cB c 2),bD (c.at 1) (cB c 1),bD (c.at 0) (cB c 0)])(h:u5 c ds M Q):wSs cn eJ (fin Q) (ai [""] ds) M:=by
 obtain⟨t,rfl,q⟩:=h;show wSs cn eJ (fin Q) [some t.told] M;cases t with
 |hav f=>
  unfold eJ;simp_all! only[CT.told,bz,bF,at2,a,XV,XW,LC];exact λx hx=>⟨x,.hav f,rfl,rfl,aa,λM' b h2=>⟨rfl,q x M' hx (u4 hx b) h2⟩⟩
 |lck f=>
  unfold eJ;simp_all! only[CT.told,bz,bF,at2,a,XV,XW,GR];unfold gL;simp_all! only[CT.told,bz,bF,at2,a,XV,XW,GQ];exact λx hx=>⟨x,.lck f,rfl,rfl,aa,λM' b h2=>⟨rfl,q x M' hx (u4 hx b) h2⟩⟩
 |som n fs=>
  unfold eJ;simp_all! only[CT.told,bz,bF,at2,a,XV,XW,GS];unfold gL;simp_all! only[CT.told,bz,bF,at2,a,XV,XW,GT];unfold kO;simp_all! only[CT.told,bz,bF,at2,a,XV,XW,GP];exact λx hx=>⟨x,.som n fs,rfl,rfl,aa,λM' b h2=>⟨rfl,q x M' hx (u4 hx b) h2⟩⟩
 |led fs k=>
  unfold eJ;simp_all! only[CT.told,bz,bF,at2,a,XV,XW,GU];unfold gL;simp_all! only[CT.told,bz,bF,at2,a,XV,XW,GV];unfold kO;simp_all! only[CT.told,bz,bF,at2,a,XV,XW,GW];unfold pY;simp_all! only[CT.told,bz,bF,at2,a,XV,XW];exact λx hx=>⟨x,.led fs k,rfl,rfl,aa,λM' b h2=>⟨rfl,q x M' hx (u4 hx b) h2⟩⟩
end
theorem fD(n k:Nat):hasB (n:Int) (k:Int)=n.testBit k:=by
 unfold hasB nP;rw[Nat.testBit_eq_decide_div_mod_eq,YV];have e:(n:Int) / 2 ^ k%2=((n / 2 ^ k%2:Nat):Int):=by simp
 rw[e];by_cases h:n / 2 ^ k%2=1
 ·simp[h]
 ·have h2:n / 2 ^ k%2=0:=by omega
  simp[h2]
def ae(a b:Nat):Nat:=a ^^^ (a&&&b)
theorem aV(a b k:Nat):(ae a b).testBit k=(a.testBit k && !b.testBit k):=by
 unfold ae;rw[Nat.testBit_xor,XX];cases a.testBit k<;>cases b.testBit k<;>rfl
theorem eg(a b:Nat):ae a b+(a&&&b)=a:=by
 have h:=PyProof.Rows.nat_or_add_and (ae a b) (a&&&b);have c:ae a b|||(a&&&b)=a:=by
  refine XY λk=>?_
  rw[XZ,aV,XX];cases a.testBit k<;>cases b.testBit k<;>rfl
 have h2:ae a b&&&(a&&&b)=0:=by
  refine XY λk=>?_
  rw[XX,aV,XX,Nat.zero_testBit];cases a.testBit k<;>cases b.testBit k<;>rfl
 omega
theorem gE(a b:Nat):Builtin.bitOr (a:Int) (b:Int)=((a|||b:Nat):Int):=by
 rw[PyProof.Rows.bitOr_and,PyProof.Rows.bitAnd_pp (by omega) (by omega),YV,YV]
 have:=PyProof.Rows.nat_or_add_and a b
 omega
theorem jH(a b:Nat):Builtin.bitAnd (a:Int) (b:Int)=((a&&&b:Nat):Int):=by
 rw[PyProof.Rows.bitAnd_pp (by omega) (by omega),YV,YV]
theorem df(a b:Nat):Builtin.bitAnd (a:Int) (-(b:Int)-1)=((ae a b:Nat):Int):=by
 rw[←bitNot_eq,PyProof.Rows.bitAnd_not,jH]
 have:=eg a b
 omega
def nats(fs:Zj):List D:=fs.map λ(f:Nat)=>D.int (f:Int)
def dJ(fs:Zj):Nat:=fs.foldl (λa f=>a|||2 ^ f) 0
theorem bS(fs:Zj)(k:Nat):(dJ fs).testBit k=decide (k∈fs):=by
 have b:∀(fs:Zj) (a:Nat),(fs.foldl (λa f=>a|||2 ^ f) a).testBit k=(a.testBit k||decide (k∈fs)):=by
  intro fs;induction fs with
  |nil=>intro a;simp
  |cons f fs c=>
   intro a;rw[List.foldl_cons,c,XZ,Nat.testBit_two_pow];by_cases e:f=k
   ·subst e;simp
   ·have:k≠f:=λz=>e z.symm
    simp[e,this]
 unfold dJ;rw[b];simp
def bd(n:Nat):List Nat:=(List.range (d9 (n:Int))).filter λf=>n.testBit f
theorem bK(n f:Nat):f∈bd n↔n.testBit f=true:=by
 unfold bd;rw[ZU,ZV];refine⟨λh=>h.2,λh=>⟨?_,h⟩⟩;unfold d9 Builtin.Int.intBits;have hn:n≠0:=λz=>by subst z;simp at h
 have hb:((n:Int)==0)=false:=by rw[ZQ];omega
 rw[hb];simp only[XG,if_false,Int.natAbs_natCast];have a:=Nat.ge_two_pow_of_testBit h;have h2:=(Nat.le_log2 hn).2 a;omega
theorem pz(n:Nat):(bd n).Nodup:=List.Pairwise.filter _ List.nodup_range
theorem yY{n m:Nat}(h:n<2 ^ m):d9 (n:Int)<=m:=by
 unfold d9 Builtin.Int.intBits;by_cases hn:n=0
 ·subst hn;simp
 ·have hb:((n:Int)==0)=false:=by rw[ZQ];omega
  rw[hb];simp only[XG,if_false,Int.natAbs_natCast]
  have:=(Nat.log2_lt hn).2 h
  omega
def Meets(d:D)(M:MH)(fs:Zj)(M':MH):Prop:=(d=.tup (nats fs)/\M'=M) \/ ∃a,d=.ref a/\((M a=some (.lst (nats fs))/\M'=M) \/ ∃b,keysOf b=nats fs/\((M a=some (.dic b)/\M'=ac M a (.rod b))\/(M a=some (.rod b)/\M'=M)))
def lN:az:=λds M Q=>∃i:Int,ds=[.int i]/\Q (.bl true) M
def da:az:=λds M Q=>∃i m:Int,ds=[.int i,.int m]/\Q (.bl (decide (0<=i)&&decide (i<m))) M
def jI:az:=λds M Q=>∃(d:D) (fs:Zj) (M':MH),ds=[d]/\Meets d M fs M'/\(∀f∈fs,f<=1000)/\Q (.int (dJ fs:Nat)) M'
def dZ:az:=λds M Q=>∃n:Nat,ds=[⇑n]/\n<2 ^ 1000/\∀p M',M p=none->ad M M'->M' p=some (.lst (nats (bd n)))->Q (.ref p) M'
def lD:az:=λds M Q=>∃m:Nat,ds=[⇑m]/\m<=1000/\Q (.int ((2 ^ m-1:Nat):Int)) M
def eL:Ss:=#v[.ret (.and (.bi .isinst #v[.var 0,.ty "int"]) (.not (.bi .isinst #v[.var 0,.ty "bool"])))]
def nS:Ss:=#v[.ret (.and (.fn 0 #v[.var 0]) (.and (.cmp .GtE (.var 0) (.int 0)) (.cmp .Lt (.var 0) (.var 1))))]
def j8:Ss:=#v[.ret (.var 1)]
def gF:Ss:=#v[.set 1 (.bin .BitOr (.var 1) (.bin .LShift (.int 1) (.var 2)))]
def sQ:Ss:=.cons (.for (.nm 2) (.seq (.var 0)) gF) j8
def q9:Ss:=.cons (.set 1 (.int 0)) sQ
def pA:Ss:=#v[.ret (.comp 1 (.var 1) (.nm 1) (.rg1 #v[.mt0 .bits (.var 0)]) (.yes (.val (.fn 0 #v[.var 0,.var 1]))))]
def mi:Ss:=#v[.ret (.bin .Sub (.bin .LShift (.int 1) (.var 0)) (.int 1))]
section
variable {cn:Cn}{ds:List D}{M:MH}{Q:DK}
theorem Ag(h:lN ds M Q):wSs cn eL (fin Q) (ai [""] ds) M:=by
 obtain⟨i,rfl,q⟩:=h;show wSs cn eL (fin Q) [some (.int i)] M;unfold eL;simp! only[dG];refine⟨by decide,?_⟩;show bG true _ _;refine⟨by decide,?_⟩;exact q
theorem Ah(a:cn.F.getD 0 (λ_ _ _=>False)=lN)(h:da ds M Q):wSs cn nS (fin Q) (ai ["",""] ds) M:=by
 obtain⟨i,m,rfl,q⟩:=h;show wSs cn nS (fin Q) [some (.int i),some (.int m)] M;unfold nS;simp! only[a];refine⟨i,rfl,?_⟩;show bG (decide (0<=i)) _ _;cases b:decide (0<=i) with
 |true=>rw[b,Bool.true_and] at q;exact q
 |false=>rw[b,YD] at q;exact q
theorem yZ(h:lD ds M Q):wSs cn mi (fin Q) (ai [""] ds) M:=by
 obtain⟨m,rfl,hm,q⟩:=h;show wSs cn mi (fin Q) [~~~m] M;unfold mi;simp! only[];refine⟨⟨by omega (splitDisjunctions:=true),by omega (splitDisjunctions:=true),by decide⟩,?_⟩;have e:(1:Int)*2 ^ (m:Int).toNat-1=((2 ^ m-1:Nat):Int):=by
  have a:1<=2 ^ m:=Nat.one_le_two_pow;rw[YV,Int.one_mul,Int.ofNat_sub a];simp
 rw[e];exact q
theorem C3(b:cn.F.getD 0 (λ_ _ _=>False)=dz)(h:dZ ds M Q):wSs cn pA (fin Q) (ai [""] ds) M:=by
 obtain⟨n,rfl,hn,q⟩:=h;show wSs cn pA (fin Q) [~~~n] M;unfold pA;simp! only[b,xF,List.cons_append,XB,List.replicate];have hb:=yY hn;refine⟨trivial,⟨by omega,by omega⟩,?_⟩;refine dk (p:=λd=>match d with | .int f=>hasB (n:Int) f | _=>false) (ok:=λσ=>∃v,σ=[~~~n,v]) [] _ ⟨none,rfl⟩ ?_ ?_
 ·intro d hd σ h_ rest ⟨v,c⟩ k
  subst c;unfold bP at hd;obtain⟨i,j,rfl⟩:=XT.1 hd;refine⟨n,0+(i:Int),rfl,by omega,?_⟩;have a:=k _ ⟨some (.int (0+(i:Int))),rfl⟩;show bG (hasB (n:Int) (0+(i:Int))) _ _;dsimp only at a;cases hb:hasB (n:Int) (0+(i:Int)) with
  |true=>rw[hb] at a;exact⟨trivial,a⟩
  |false=>rw[hb] at a;exact⟨trivial,by simpa using a⟩
 ·intro p hp
  have e:([]++(bP 0 (d9 (n:Int))).filter (λ(d:D)=>match d with | .int f=>hasB (n:Int) f | _=>false))=nats (bd n):=by
   unfold bP nats bd;rw[XB,List.filter_map];have g:((d9 (n:Int):Int)-0).toNat=d9 (n:Int):=by omega
   rw[g];have h2:(List.range (d9 (n:Int))).filter ((λ(d:D)=>match d with | .int f=>hasB (n:Int) f | _=>false)∘λ(i:Nat)=>D.int (0+(i:Int)))=(List.range (d9 (n:Int))).filter λf=>n.testBit f:=by
    refine List.filter_congr λi _=>?_
    show hasB (n:Int) (0+(i:Int))=_;rw[Int.zero_add,fD]
   rw[h2];refine ZM λi _=>?_
   rw[Int.zero_add]
  rw[e];exact q p _ hp (ad.new hp) aa
theorem EE(h:jI ds M Q):wSs cn q9 (fin Q) (ai ["","",""] ds) M:=by
 obtain⟨d,fs,M',rfl,hm,hb,q⟩:=h;show wSs cn q9 (fin Q) [some d,none,none] M;unfold q9;simp! only[List.set];unfold sQ;simp! only[List.set];have go:∀(g:MH->Prop),g M'->aI g (.nm 2) (wSs cn gF) { nx:=wSs cn j8 (fin Q),rt:=Q } (nats fs) [some d,some (.int 0),none] M':=by
  intro g hg;have c:∀(fs:Zj) (a:Nat) (v:Zz),(∀f∈fs,f<=1000)->Q (.int (fs.foldl (λa f=>a|||2 ^ f) a:Nat)) M'->aI g (.nm 2) (wSs cn gF) { nx:=wSs cn j8 (fin Q),rt:=Q } (nats fs) [some d,~~~a,v] M':=by
   intro fs;induction fs with
   |nil=>
    intro a v _ q;rw[show nats []=[] from rfl,aI];unfold j8;simp! only[];exact q
   |cons f fs j=>
    intro a v hb q;show aI g (.nm 2) (wSs cn gF) _ (⇑f::nats fs) _ M';rw[aI];unfold gF;simp! only[List.set];have hf:=hb f (.head _);refine⟨⟨by omega (splitDisjunctions:=true),by omega (splitDisjunctions:=true),by decide⟩,hg,?_⟩;have e:Builtin.bitOr (a:Int) (1*2 ^ (f:Int).toNat)=((a|||2 ^ f:Nat):Int):=by
     rw[←gE];simp
    rw[e];exact j (a|||2 ^ f) _ (λx hx=>hb x (.tail _ hx)) q
  exact c fs 0 none hb q
 rcases hm with⟨rfl,rfl⟩ | ⟨a,rfl,hm⟩
 ·exact go _ trivial
 ·rcases hm with⟨b,rfl⟩ | ⟨k,hk,⟨b,rfl⟩ | ⟨b,rfl⟩⟩
  ·simp only[b]
   exact go _ b
  ·simp only[b,hk]
   exact go _ aa
  ·simp only[b,hk]
   exact go _ b
end
def CT.fit(m:Int):CT->Prop
 |.hav f=>0<=f/\f<m
 |.lck f=>0<=f/\f<m
 |.som n fs=>(1<=n/\n<=6)/\(0<fs.length/\fs.length<=6)/\fs.Nodup/\∀f∈fs,0<=f/\f<m
 |.led fs k=>(k<fs.length/\fs.length<=6)/\fs.Nodup/\∀f∈fs,0<=f/\f<m
theorem CT.fit_ok{m:Int}(hm:m<=120):∀{t:CT},t.fit m->t.ok
 |.hav f,h=>⟨h.1,Int.lt_of_lt_of_le h.2 hm⟩
 |.lck f,h=>⟨h.1,Int.lt_of_lt_of_le h.2 hm⟩
 |.som n fs,h=>⟨h.2.1,λf hf=>⟨(h.2.2.2 f hf).1,Int.lt_of_lt_of_le (h.2.2.2 f hf).2 hm⟩⟩
 |.led fs k,h=>⟨h.1,λf hf=>⟨(h.2.2 f hf).1,Int.lt_of_lt_of_le (h.2.2 f hf).2 hm⟩⟩
def pB:az:=λds M Q=>∃n:Int,ds=[.int n]/\(1<=n/\n<=6)/\Q (.bl true) M
def mP:az:=λds M Q=>∃(fs:Zi) (m:Int),ds=[.tup (aZ fs),.int m]/\(0<fs.length/\fs.length<=6)/\fs.Nodup/\(∀f∈fs,0<=f/\f<m)/\∀M',ad M M'->Q (.bl true) M'
def pC:az:=λds M Q=>∃(t:CT) (m:Int),ds=[t.told,.int m]/\t.fit m/\∀M',ad M M'->Q (.bl true) M'
def sj:az:=λds M Q=>∃(h m:Int) (p:Addr) (ts:List CT),ds=[.tup [.int h,.ref p],.int m]/\M p=some (.lst (ts.map CT.told))/\(0<=h/\h<m)/\ts.length<=6/\(∀t∈ts,t.fit m)/\∀M',ad M M'->Q (.bl true) M'
def mj(j:Nat):Ss:=#v[.ret (.and (.fn 0 #v[.var 0]) (.and (.cmp .GtE (.var 0) (.int 1)) (.cmp .LtE (.var 0) (.glob j))))]
def mQ:Ss:=#v[.ret (.and (.bi .all #v[.comp 1 (.fn 0 #v[.var 2,.var 1]) (.nm 2) (.seq (.var 0)) .no]) (.cmp .Eq (.lenSet (.var 0)) (.bi .len #v[.var 0])))]
def kP(j:Nat):Ss:=.cons (.ite (.or (.not (.val (.bi .isinst #v[.var 0,.ty "tuple"]))) (.or (.cmp .Lt (.bi .len #v[.var 0]) (.int 1)) (.cmp .Gt (.bi .len #v[.var 0]) (.glob j)))) #v[.ret (.bl false)] .nil) mQ
def ra:Ss:=#v[.ret (.and (.cmp .Eq (.ix (.var 0) (.int 0)) (.str "lead")) (.and (.fn 0 #v[.ix (.var 0) (.int 1),.var 1]) (.fn 1 #v[.ix (.var 0) (.int 2),.bi .len #v[.ix (.var 0) (.int 1)]])))]
def ml:Ss:=.cons (.ite (.cmp .Eq (.ix (.var 0) (.int 0)) (.str "some")) #v[.ret (.and (.fn 2 #v[.ix (.var 0) (.int 1)]) (.fn 0 #v[.ix (.var 0) (.int 2),.var 1]))] .nil) ra
def mo:Ss:=.cons (.ite (.cmp .NotEq (.bi .len #v[.var 0]) (.int 3)) #v[.ret (.bl false)] .nil) ml
def fE:Ss:=.cons (.ite (.or (.cmp .Eq (.ix (.var 0) (.int 0)) (.str "have")) (.cmp .Eq (.ix (.var 0) (.int 0)) (.str "lack"))) #v[.ret (.and (.cmp .Eq (.bi .len #v[.var 0]) (.int 2)) (.fn 1 #v[.ix (.var 0) (.int 1),.var 1]))] .nil) mo
def fR:Ss:=.cons (.ite (.or (.not (.val (.bi .isinst #v[.var 0,.ty "tuple"]))) (.cmp .Lt (.bi .len #v[.var 0]) (.int 2))) #v[.ret (.bl false)] .nil) fE
def sR:Ss:=#v[.ret (.bi .all #v[.comp 1 (.fn 0 #v[.var 3,.var 1]) (.nm 3) (.seq (.var 2)) .no])]
def sU(j:Nat):Ss:=.cons (.ite (.or (.not (.val (.bi .isinst #v[.var 2,.ty "list"]))) (.cmp .Gt (.bi .len #v[.var 2]) (.glob j))) #v[.ret (.bl false)] .nil) sR
def nT(j:Nat):Ss:=.cons (.set 2 (.ix (.var 0) (.int 1))) (sU j)
def rb(j:Nat):Ss:=.cons (.ite (.or (.not (.val (.bi .isinst #v[.var 0,.ty "tuple"]))) (.or (.cmp .NotEq (.bi .len #v[.var 0]) (.int 2)) (.not (.val (.fn 1 #v[.ix (.var 0) (.int 0),.var 1]))))) #v[.ret (.bl false)] .nil) (nT j)
theorem y7{g:MH->Prop}{t:dY}{c:WT}{e:WE}{F:List D->MH->Prop}{f:D->D}{ok:DS->Prop}{M0:MH}:∀{xs:List D}(h_:List D) (σ:DS) (M:MH),ok σ->ad M0 M ->
  (∀x∈xs,∀σ h_ rest M,ok σ->ad M0 M->(∀a M',ok a->ad M0 M'->a9 g t c e F rest (h_++[f x]) a M')->a9 g t c e F (x::rest) h_ σ M)->(∀M',ad M0 M'->F (h_++xs.map f) M')->a9 g t c e F xs h_ σ M
 |[],h_,σ,M,_,b,_,q=>by
  rw[List.map_nil,ZA] at q;exact q M b
 |x::xs,h_,σ,M,h,b,st,q=>st x ZX σ h_ xs M h b λa M' h' d=>y7 (h_++[f x]) a M' h' d (λy hy=>st y (.tail _ hy)) (by simpa using q)
theorem mq(t:String):uC t t=true:=by unfold uC;simp
theorem tL:∀(l:List D),tE (l.map λ_=>D.bl true)=some (l.map λ_=>true)
 |[]=>rfl
 |a::l=>by rw[YJ,tE,tL l];rfl
theorem y8{a:Type}(l:List a):(l.map λ_=>true).all id=true:=by simp
theorem EF{f:Int}{fs:Zi}:pw (aZ (f::fs))=none:=rfl
theorem rc:∀(fs:Zi),j7 (aZ fs)=some fs
 |[]=>rfl
 |f::fs=>by
  show Option.map _ (j7 (aZ fs))=_;rw[rc fs];rfl
theorem y9{a:Type}[DecidableEq a]:∀(ks l:List a),(l++ks).Nodup->ks.foldl md l=l++ks
 |[],l,_=>by simp
 |k::ks,l,h=>by
  have hk:k∉l:=λz=>by
   have:=(List.nodup_append.1 h).2.2 k z k (.head _)
   exact this rfl
  rw[List.foldl_cons,md,if_neg hk,y9 ks (l++[k]) (by simpa using h)];simp
theorem Ai{a:Type}[DecidableEq a](l:List a)(h:l.Nodup):(bx l).length=l.length:=by
 unfold bx;rw[y9 l [] (by simpa using h)];simp
section
variable {cn:Cn}{ds:List D}{M:MH}{Q:DK}{j:Nat}
theorem za(a:cn.F.getD 0 (λ_ _ _=>False)=lN)(b:cn.G.getD j .non=.int 6)(h:pB ds M Q):wSs cn (mj j) (fin Q) (ai [""] ds) M:=by
 obtain⟨n,rfl,hn,q⟩:=h;show wSs cn (mj j) (fin Q) [some (.int n)] M;unfold mj;simp! only[a,b];refine⟨n,rfl,?_⟩;have c:decide ((1:Int)<=n)=true:=YU hn.1;have d:decide (n<=(6:Int))=true:=YU hn.2;simp only[c,d,aJ];exact q
theorem xg(b:cn.F.getD 0 (λ_ _ _=>False)=da)(c:cn.G.getD j .non=.int 6)(h:mP ds M Q):wSs cn (kP j) (fin Q) (ai ["",""] ds) M:=by
 obtain⟨fs,m,rfl,hl,g,hf,q⟩:=h;show wSs cn (kP j) (fin Q) [some (.tup (aZ fs)),some (.int m)] M;unfold kP;simp! only[c,dG,tK];refine⟨by decide,?_⟩;show bG false _ _;have l:decide ((fs.length:Int)<1)=false:=ZP (by omega);have n:decide ((6:Int)<(fs.length:Int))=false:=ZP (by omega);simp only[l,n,ax];unfold mQ;simp! only[b,List.cons_append,XB,List.replicate];refine fw (f:=λ_=>.bl true) (ok:=λσ=>∃v,σ=[some (.tup (aZ fs)),some (.int m),v]) [] _ ⟨none,rfl⟩ ?_ ?_
 ·intro d hd σ h_ rest ⟨v,r⟩ k
  subst r;obtain⟨f,a,rfl⟩:=XT.1 hd;refine⟨f,m,rfl,?_⟩;have t:decide (0<=f)=true:=YU (hf f a).1;have h2:decide (f<m)=true:=YU (hf f a).2;rw[t,h2];exact⟨trivial,k _ ⟨_,rfl⟩⟩
 ·intro p hp
  rw[XB,aa];dsimp only;rw[tL];dsimp only;rw[y8];simp only[aJ,Gy];have u:=ad.new (o:=MO.lst ((aZ fs).map λ_=>D.bl true)) hp;generalize ac M p (MO.lst ((aZ fs).map λ_=>D.bl true))=M1 at *;cases fs with
  |nil=>exact absurd hl.1 (by simp)
  |cons f fs=>
   simp only[r9,EF,rc,tK];refine⟨by have:=hl.2;omega,⟨rfl,rfl,(by decide:(0:Nat)<=30)⟩,?_⟩;rw[Ai _ g,ak,XF];exact q M1 u
theorem C4(g:cn.F.getD 0 (λ_ _ _=>False)=mP)(d:cn.F.getD 1 (λ_ _ _=>False)=da)(p:cn.F.getD 2 (λ_ _ _=>False)=pB)(h:pC ds M Q):wSs cn fR (fin Q) (ai ["",""] ds) M:=by
 obtain⟨t,m,rfl,a,q⟩:=h;show wSs cn fR (fin Q) [some t.told,some (.int m)] M;have l2:decide (((1+1:Nat):Int)<2)=false:=by decide
 have c:decide (((1+1+1:Nat):Int)<2)=false:=by decide
 have l:(((1+1:Nat):Int)==2)=true:=by decide
 have o:(((1+1+1:Nat):Int)==3)=true:=by decide
 cases t with
 |hav f=>
  unfold fR;simp_all! only[CT.told,dG,YH,YT,Nat.zero_add];refine⟨by decide,?_⟩;simp only[mq,Bool.not_true,ax,l2,c];unfold fE;simp_all! only[CT.told,bz,bF,at2,LC,YH,YT,Nat.zero_add,d];simp only[aJ,l];refine⟨f,m,rfl,?_⟩;have b:decide (0<=f)=true:=YU a.1;have h2:decide (f<m)=true:=YU a.2;rw[b,h2];exact q M (ad.refl M)
 |lck f=>
  unfold fR;simp_all! only[CT.told,dG,YH,YT,Nat.zero_add];refine⟨by decide,?_⟩;simp only[mq,Bool.not_true,ax,l2,c];unfold fE;simp_all! only[CT.told,bz,bF,at2,GR,GQ,YH,YT,Nat.zero_add,d];simp only[aJ,l];refine⟨f,m,rfl,?_⟩;have b:decide (0<=f)=true:=YU a.1;have h2:decide (f<m)=true:=YU a.2;rw[b,h2];exact q M (ad.refl M)
 |som n fs=>
  unfold fR;simp_all! only[CT.told,dG,YH,YT,Nat.zero_add];refine⟨by decide,?_⟩;simp only[mq,Bool.not_true,ax,l2,c];unfold fE;simp_all! only[CT.told,bz,bF,at2,GS,GT];unfold mo;simp_all! only[CT.told,bz,bF,at2,YH,YT,Nat.zero_add];simp only[Bool.not_true,ax,o];unfold ml;simp_all! only[CT.told,bz,bF,at2,GP,g,p];refine⟨n,rfl,a.1,?_⟩;show bG true _ _;exact⟨fs,m,rfl,a.2.1,a.2.2.1,a.2.2.2,q⟩
 |led fs k=>
  unfold fR;simp_all! only[CT.told,dG,YH,YT,Nat.zero_add];refine⟨by decide,?_⟩;simp only[mq,Bool.not_true,ax,l2,c];unfold fE;simp_all! only[CT.told,bz,bF,at2,GU,GV];unfold mo;simp_all! only[CT.told,bz,bF,at2,YH,YT,Nat.zero_add];simp only[Bool.not_true,ax,o];unfold ml;simp_all! only[CT.told,bz,bF,at2,GW];unfold ra;simp_all! only[CT.told,bz,bF,at2,NT,g,d,tK];refine⟨fs,m,rfl,⟨by have:=a.1.1;omega,a.1.2⟩,a.2.1,a.2.2,λM1 r=>?_⟩;show bG true _ _;refine⟨k,(fs.length:Int),rfl,?_⟩;have b:decide (0<=(k:Int))=true:=YU (by omega);have h2:decide ((k:Int)<(fs.length:Int))=true:=YU (by have:=a.1.1;omega);rw[b,h2];exact q M1 r
theorem EG(n:cn.F.getD 0 (λ_ _ _=>False)=pC)(o:cn.F.getD 1 (λ_ _ _=>False)=da)(r:cn.G.getD j .non=.int 6)(h:sj ds M Q):wSs cn (rb j) (fin Q) (ai ["","",""] ds) M:=by
 obtain⟨hd,m,p,ts,rfl,b,g,hl,hf,q⟩:=h;show wSs cn (rb j) (fin Q) [some (.tup [.int hd,.ref p]),some (.int m),none] M;unfold rb;simp_all! only[List.set,dG,bz,bF,YH,YT,Nat.zero_add,o];refine⟨by decide,?_⟩;show bG false _ _;show bG false _ _;refine⟨hd,m,rfl,?_⟩;have u:decide (0<=hd)=true:=YU g.1;have h2:decide (hd<m)=true:=YU g.2;rw[u,h2];show wSs cn (nT j) (fin Q) _ M;unfold nT;simp_all! only[List.set,bz,bF];unfold sU;simp_all! only[List.set,dG,b,r,ZF];refine⟨by decide,?_⟩;show bG false _ _;have w:decide ((6:Int)<(ts.length:Int))=false:=ZP (by omega);simp only[w,ax];unfold sR;simp_all! only[List.set,b,n,List.cons_append,XB,List.replicate];refine y7 (f:=λ_=>.bl true) (M0:=M) (ok:=λσ=>∃v,σ=[some (.tup [.int hd,.ref p]),some (.int m),↑p,v]) [] _ M ⟨none,rfl⟩ (ad.refl M) ?_ ?_
 ·intro d y σ h_ rest M1 ⟨v,z⟩ a k
  subst z;obtain⟨t,c,rfl⟩:=XT.1 y;exact⟨t,m,rfl,hf t c,λM2 l=>⟨(a.trans l) p _ b,k _ M2 ⟨_,rfl⟩ (a.trans l)⟩⟩
 ·intro M1 a p2 A
  rw[XB,aa];dsimp only;rw[tL];dsimp only;rw[y8];exact q _ (a.then A)
end
def aw(rs:Zh):List D:=rs.map D.ref
def cR(c:CA)(M:MH)(rs:Zh)(ts:List CT):Prop:=Paired (λr (t:CT)=>M r=some (t.obj c)) rs ts
theorem cR.ext{c:CA}{M M':MH}{rs:Zh}{ts:List CT}(e:ad M M')(h:cR c M rs ts):cR c M' rs ts:=kn (λr t q=>e r _ q) h
def iS(c:CA):az:=λds M Q=>∃(a:Addr) (h m:Int) (rs:Zh) (ts:List CT),ds=[.ref a,.int h,.int m]/\M a=some (.lst (aw rs))/\cR c M rs ts/\(∀t∈ts,t.ok)/\∀M',ad M M'->Q (.bl (ts.all (CT.carried h m))) M'
def eD(c:CA):az:=λds M Q=>∃(rs:Zh) (ts:List CT),ds=[.tup (aw rs)]/\cR c M rs ts/\(∀t∈ts,t.ok)/\ts.length<=6/\∀p M',M p=none->ad M M'->M' p=some (.lst (ts.flatMap CT.leans))->Q (.ref p) M'
def hV:Ss:=#v[.ret (.bl true)]
def hZ:Ss:=#v[.ite (.not (.val (.mu "carried" (.var 3) #v[.var 1,.var 2]))) #v[.ret (.bl false)] .nil]
def jJ:Ss:=.cons (.for (.nm 3) (.seq (.var 0)) hZ) hV
def gh:Ss:=#v[.ret (.var 1)]
def gk:Ss:=#v[.expr (.mt .extend (.var 1) #v[.mu0 "leaning" (.var 2)])]
def k8:Ss:=.cons (.for (.nm 2) (.seq (.var 0)) gk) gh
def iT:Ss:=.cons (.set 1 (.lst .nil)) k8
theorem Aj(t:CT):t.flds.lookup ("carried" : Str)=none:=by cases t<;>rfl
theorem Ak(t:CT):t.flds.lookup ("leaning" : Str)=none:=by cases t<;>rfl
theorem EH{t:CT}(h:t.ok):t.leans.length<=7:=by
 cases t with
 |hav f=>exact(by decide:(1:Nat)<=7)
 |lck f=>exact(by decide:(1:Nat)<=7)
 |som n fs=>
  show(fs.map (cN false)).length<=7;rw[ZF];have:=h.1.2;omega
 |led fs k=>
  show((fs.take k).map (cN true)++[cN false (fs.getD k 0)]).length<=7;rw[ZJ,ZF,YR]
  have:=h.1.2
  simp only[YH,YT];omega
section
variable {cn:Cn}{c:CA}{ds:List D}{M:MH}{Q:DK}
theorem vN(o:∀t:CT,cn.T (c.at t.kind) "carried" = some (cg c t.kind))(h:iS c ds M Q):wSs cn jJ (fin Q) (ai ["","","",""] ds) M:=by
 obtain⟨a,x,m,k,p,rfl,l,hc,f,q⟩:=h;show wSs cn jJ (fin Q) [↑a,some (.int x),some (.int m),none] M;unfold jJ;simp! only[List.set,l];have g:∀(rs:Zh) (ts:List CT) (v:Zz) (M1:MH),ad M M1->cR c M rs ts->(∀t∈ts,t.ok)->(∀M',ad M M'->Q (.bl (ts.all (CT.carried x m))) M') ->
   aI (λM'=>M' a=some (.lst (aw k))) (.nm 3) (wSs cn hZ) { nx:=wSs cn hV (fin Q),rt:=Q } (aw rs) [↑a,some (.int x),some (.int m),v] M1:=by
  intro rs ts v M1 d hc;induction hc generalizing v M1 with
  |nil=>
   intro _ q;rw[show aw []=[] from rfl,aI];unfold hV;simp! only[];exact q M1 d
  |@cons r t rs ts u _ w=>
   intro f q;rw[show aw (r::rs)=.ref r::aw rs from rfl,aI];have n:M1 r=some (.ins (c.at t.kind) t.flds):=d r _ u;unfold hZ;simp! only[List.set,n,o,Aj];refine⟨trivial,r,t,x,m,rfl,f t (.head _),rfl,n,λM2 j=>?_⟩;simp only[XN] at q;cases b:t.carried x m with
   |false=>
    rw[b] at q;exact q M2 (d.trans j)
   |true=>
    rw[b] at q;refine⟨(d.trans j) a _ l,w _ M2 (d.trans j) (λt' h'=>f t' (.tail _ h')) ?_⟩;simpa using q
 exact g k p none M (ad.refl M) hc f q
theorem u6(n:∀t:CT,cn.T (c.at t.kind) "leaning" = some (ci c t.kind))(h:eD c ds M Q):wSs cn iT (fin Q) (ai ["","",""] ds) M:=by
 obtain⟨b,o,rfl,hc,a,hl,q⟩:=h;show wSs cn iT (fin Q) [some (.tup (aw b)),none,none] M;unfold iT;simp! only[List.set];intro p hp;unfold k8;simp! only[List.set];have d:∀(rs:Zh) (ts:List CT) (v:Zz) (M1:MH) (h_:List D),ad M M1->M1 p=some (.lst h_)->h_.length+7*ts.length<=42->cR c M rs ts->(∀t∈ts,t.ok)->(∀M',ad M M'->M' p=some (.lst (h_++ts.flatMap CT.leans))->Q (.ref p) M') ->
   aI (λ_=>True) (.nm 2) (wSs cn gk) { nx:=wSs cn gh (fin Q),rt:=Q } (aw rs) [some (.tup (aw b)),↑p,v] M1:=by
  intro rs ts v M1 h_ f g hl hc;induction hc generalizing v M1 h_ with
  |nil=>
   intro _ q;rw[show aw []=[] from rfl,aI];unfold gh;simp! only[];exact q M1 f (by simpa using g)
  |@cons r t rs ts u _ w=>
   intro a q;rw[show aw (r::rs)=.ref r::aw rs from rfl,aI];have k:M1 r=some (.ins (c.at t.kind) t.flds):=f r _ u;have l:=a t (.head _);have C:=EH l;unfold gk;simp! only[List.set,k,g,n,Ak];refine⟨rfl,trivial,r,t,rfl,l,rfl,k,λp2 M2 E m y=>?_⟩;have z:=m p _ g;simp only[z,y];rw[YH] at hl;have A:(42:Nat)<=sizeLine:=by decide
   refine⟨by omega,trivial,?_⟩;have j:M p=none:=hp;have B:ad M (ac M2 p (.lst (h_++t.leans))):=(f.trans m).put j;refine w _ _ (h_++t.leans) B aa (by rw[ZJ];omega) (λt' h'=>a t' (.tail _ h')) λM' e' g'=>q M' e' ?_
   rw[List.flatMap_cons,←ZB];exact g'
 exact d b o none _ [] (ad.new hp) aa (by simp;omega) hc a λM' e' g'=>q p M' hp e' (by simpa using g')
end
def cy(M:MH)(ps:Zh)(L:Nat->MO):Prop:=∀f r,ps[f]?=some r->M r=some (L f)
theorem cy.ext{M M':MH}{ps:Zh}{L:Nat->MO}(e:ad M M')(h:cy M ps L):cy M' ps L:=λf r q=>e r _ (h f r q)
theorem EI{b:Type}{ps:List b}{i j:Nat}{a:b}(nd:ps.Nodup)(c:ps[i]?=some a)(h2:ps[j]?=some a):i=j:=
 (List.getElem?_inj (YB.mp c).1 nd).1 (c.trans h2.symm)
theorem cy.put{M:MH}{ps:Zh}{L a:Nat->MO}{h:Nat}{r:Addr}{o:MO}(nd:ps.Nodup)(b:ps[h]?=some r)(s:cy M ps L)(d:a h=o)(g:∀f,f≠h->a f=L f):cy (ac M r o) ps a:=λf c q=>by
 by_cases e:f=h
 ·subst e
  rw[b] at q;cases q;rw[aa,d]
 ·have:c≠r:=λz=>by subst z;exact e (EI nd q b)
  rw[aG this,g f e];exact s f c q
theorem sk{ps:Zh}{f:Nat}{r:Addr}(h:ps[f]?=some r):cX (aw ps) (f:Int)=↑r:=c9 (by unfold aw;rw[ZG,h];rfl)
theorem u7(m:Nat):(bP 0 (m:Int)).length=m:=by unfold bP;rw[ZF,ZI];omega
theorem eh(fs:Zj):(nats fs).length=fs.length:=by unfold nats;rw[ZF]
theorem pE{i:Nat}{c:WT}{e:WE}{o:MO}{F:List D->MH->Prop}(M0:MH)(hc:∀σ M Q,Q true M->c σ M Q)(k:∀σ M Q,(∀p,M p=none->Q (.ref p) (ac M p o))->e σ M Q):∀(xs:List D) (ps:Zh) (σ:DS) (M:MH),ad M0 M->ps.Nodup->(∀p∈ps,M0 p=none/\M p=some o) ->
  (∀g M',ad M0 M'->g.Nodup->g.length=ps.length+xs.length->(∀p∈g,M0 p=none/\M' p=some o)->F (aw g) M')->a9 (λ_=>True) (.nm i) c e F xs (aw ps) σ M
 |[],ps,σ,M,j,nd,hp,q=>q ps M j nd rfl hp
 |x::xs,ps,σ,M,j,nd,hp,q=>by
  rw[a9];show c _ M _;refine hc _ _ _ ?_;rw[aJ];refine k _ _ _ λp hn=>⟨trivial,?_⟩
  have:aw ps++[D.ref p]=aw (ps++[p]):=by unfold aw;rw[ZK];rfl
  rw[this];refine pE M0 hc k xs (ps++[p]) _ _ (j.then hn) ?_ ?_ ?_
  ·rw[List.nodup_append]
   refine⟨nd,by simp,λa ha b hb z=>?_⟩;have hb:b=p:=by simpa using hb
   subst hb;subst z
   have:=(hp a ha).2
   rw[hn] at this;cases this
  ·intro a ha
   rw[YA] at ha;rcases ha with ha | ha
   ·exact⟨(hp a ha).1,(ad.new hn) a _ (hp a ha).2⟩
   ·have ha:a=p:=by simpa using ha
    subst ha;exact⟨j.free hn,aa⟩
  ·intro g M' a b d f
   refine q g M' a b ?_ f;rw[d,ZJ,YH,YH,YT];omega
def c3(a:Zj)(k f:Nat):List Nat:=(List.range k).filter λr=>decide (a[r]?=some f)
theorem u8{a:Zj}{k h:Nat}(f:Nat)(e:a[k]?=some h):c3 a (k+1) f=c3 a k f++(if f=h then[k] else[]):=by
 unfold c3;rw[List.range_succ,List.filter_append];congr 1;by_cases q:f=h
 ·subst q;simp[e]
 ·have:h≠f:=λz=>q z.symm
  simp[e,q,this]
theorem zb(a:Zj)(k f:Nat):(c3 a k f).length<=k:=by
 have:=List.length_filter_le (λr=>decide (a[r]?=some f)) (List.range k)
 rw[ZI] at this;exact this
def iU:az:=λds M Q=>∃(m:Nat) (a:Zj),ds=[⇑m,.tup (nats a)]/\m<=1000/\a.length<=1000/\(∀h∈a,h<m) /\
 ∀p ps M',M p=none->ad M M'->M' p=some (.lst (aw ps))->ps.length=m->cy M' ps (λf=>.lst (nats (c3 a a.length f)))->Q (.ref p) M'
def gm:Ss:=#v[.ret (.var 2)]
def gn:Ss:=#v[.expr (.mt .append (.ix (.var 2) (.var 4)) #v[.var 3])]
def k9:Ss:=.cons (.for (.tp [3,4]) (.enum #v[.var 1]) gn) gm
def iV:Ss:=.cons (.setC 2 1 (.lst .nil) (.nm 5) (.rg1 #v[.var 0]) .no) k9
def dA:Ss:=#v[.ret (.comp 1 (.bk .list #v[.var 7]) (.nm 7) (.seq (.var 2)) .no)]
def gp:Ss:=#v[.ite (.not (.val (.var 6))) #v[.putIx (.ix (.var 2) (.var 5)) (.var 3) (.bl true)] .nil]
def gq:Ss:=#v[.for (.tp [5,6]) (.seq (.var 4)) gp]
def la:Ss:=.cons (.for (.tp [3,4]) (.enum #v[.var 1]) gq) dA
def eY:Ss:=.cons (.setC 2 1 .dnew (.nm 7) (.rg1 #v[.var 0]) .no) la
def CT.leanP:CT->List (Bool×Int)
 |.hav f=>[(false,f)]
 |.lck f=>[(true,f)]
 |.som _ fs=>fs.map λf=>(false,f)
 |.led fs k=>(fs.take k).map (λf=>(true,f))++[(false,fs.getD k 0)]
def pairD(x:Bool×Int):D:=cN x.1 x.2
theorem GX(t:CT):t.leans=t.leanP.map pairD:=by
 cases t with
 |hav f=>rfl
 |lck f=>rfl
 |som n fs=>show fs.map (cN false)=(fs.map λf=>(false,f)).map pairD;rw[ZL];rfl
 |led fs k=>show(fs.take k).map (cN true)++[cN false (fs.getD k 0)]=((fs.take k).map (λf=>(true,f))++[(false,fs.getD k 0)]).map pairD;rw[ZK,ZL];rfl
theorem C5(ts:List CT):ts.flatMap CT.leans=(ts.flatMap CT.leanP).map pairD:=by
 rw[List.map_flatMap];congr 1
 funext t;exact GX t
theorem getD_mem{fs:Zi}{k:Nat}(h:k<fs.length):fs.getD k 0∈fs:=by
 have:fs.getD k 0=fs[k]:=by simp[List.getD,ZD h]
 rw[this];exact XJ h
theorem wG{m:Int}{t:CT}(h:t.fit m):∀x∈t.leanP,0<=x.2/\x.2<m:=by
 cases t with
 |hav f=>
  intro x hx;have:x=(false,f):=by simpa [CT.leanP] using hx
  subst this;exact h
 |lck f=>
  intro x hx;have:x=(true,f):=by simpa [CT.leanP] using hx
  subst this;exact h
 |som n fs=>
  intro x hx;obtain⟨f,hf,rfl⟩:=XT.1 hx;exact h.2.2.2 f hf
 |led fs k=>
  intro x hx;rcases YA.1 hx with hx | hx
  ·obtain⟨f,hf,rfl⟩:=XT.1 hx
   exact h.2.2 f (XU hf)
  ·have:x=(false,fs.getD k 0):=by simpa using hx
   subst this;exact h.2.2 _ (getD_mem h.1.1)
def bt(l:Zs)(f:Nat):Bool:=decide ((false,(f:Int))∈l)
def cf(a:List (List (Bool×Int)))(k f:Nat):List Nat:=(List.range k).filter λr=>bt (a.getD r []) f
theorem C7{a:List (List (Bool×Int))}{k:Nat}{l:Zs}(f:Nat)(e:a[k]?=some l):cf a (k+1) f=cf a k f++(if bt l f=true then[k] else[]):=by
 unfold cf;rw[List.range_succ,List.filter_append];congr 1;have b:a.getD k []=l:=by rw[List.getD_eq_getElem?_getD,e];rfl
 rw[XS,b,List.filter_nil]
theorem zc{a:List (List (Bool×Int))}{k f r:Nat}(h:r∈cf a k f):r<k:=ZV.1 (ZU.1 h).1
theorem GY(a:List (List (Bool×Int)))(k f:Nat):(cf a k f).length<=k:=by
 have:=List.length_filter_le (λr=>bt (a.getD r []) f) (List.range k)
 rw[ZI] at this;exact this
def cO(rs:Zj):List (Key×D):=rs.map λ(r:Nat)=>(.inl (r:Int),.bl true)
theorem EJ(rs:Zj):keysOf (cO rs)=nats rs:=by unfold keysOf cO nats;rw[ZL];rfl
theorem GZ(rs:Zj)(r:Nat):((cO rs).any λb=>decide (b.1=(.inl (r:Int):Key)))=decide (r∈rs):=by
 induction rs with
 |nil=>simp[cO]
 |cons a rs c=>
  have:cO (a::rs)=(.inl (a:Int),.bl true)::cO rs:=rfl
  rw[this,XD,c];by_cases e:a=r
  ·subst e;simp
  ·have d:r≠a:=λz=>e z.symm
   have h2:¬((a:Int)=(r:Int)):=by omega
   simp[d,h2]
theorem zd(rs:Zj)(r:Nat):putD (cO rs) (.inl (r:Int)) (.bl true)=cO (if r∈rs then rs else rs++[r]):=by
 unfold putD;rw[GZ];by_cases e:r∈rs
 ·rw[if_pos (YU e),if_pos e]
  unfold cO;rw[ZL];refine ZM λa _=>?_
  show(if(Sum.inl (a:Int):Key)=.inl (r:Int) then _ else _)=_;split<;>rfl
 ·rw[if_neg (by simpa using e),if_neg e]
  unfold cO;rw[ZK];rfl
def iX:az:=λds M Q=>∃(m:Nat) (b:Addr) (rs:Zh) (a:List (List (Bool×Int))),ds=[⇑m,.ref b]/\M b=some (.lst (aw rs))/\rs.length=a.length/\(∀(k:Nat) (r:Addr) (l:Zs),rs[k]?=some r->a[k]?=some l->M r=some (.lst (l.map pairD)))/\m<=1000/\a.length<=1000/\(∀l∈a,∀x∈l,0<=x.2/\x.2<(m:Int)) /\
 ∀p ps M',M p=none->ad M M'->M' p=some (.lst (aw ps))->ps.length=m->cy M' ps (λf=>.lst (nats (cf a a.length f)))->Q (.ref p) M'
section
variable {cn:Cn}{ds:List D}{M:MH}{Q:DK}
theorem u9(h:iU ds M Q):wSs cn iV (fin Q) (ai ["","","","",""] ds) M:=by
 obtain⟨m,a,rfl,hm,hl,w,q⟩:=h;show wSs cn iV (fin Q) [~~~m,some (.tup (nats a)),none,none,none] M;unfold iV;simp! only[List.cons_append,XB,List.replicate];refine⟨⟨by omega,by omega⟩,?_⟩;refine pE (o:=.lst []) M (λ_ _ _ h=>h) (λ_ _ _ h=>h) (bP 0 (m:Int)) [] _ M (ad.refl M) .nil (λp hp=>nomatch hp) ?_;intro ps M1 y nd z j p hp;rw[u7,YT,Nat.zero_add] at z;have C:M p=none:=y.free hp;have E:∀r∈ps,r≠p:=λr b=>cp (j r b).2 hp
 have F:ad M (ac M1 p (.lst (aw ps))):=y.then hp;have G:ac M1 p (MO.lst (aw ps)) p=some (.lst (aw ps)):=aa;have s2:cy (ac M1 p (MO.lst (aw ps))) ps (λf=>.lst (nats (c3 a 0 f))):=λf r b=>(ad.new hp) r _ (j r (YS b)).2
 generalize ac M1 p (MO.lst (aw ps))=M2 at *;unfold k9;simp! only[List.set];have l:∀(rest:Zj) (k:Nat) (n t:Zz) (c:MH),a.drop k=rest->k<=a.length->ad M c->c p=some (.lst (aw ps))->cy c ps (λf=>.lst (nats (c3 a k f))) ->
   aI (λ_=>True) (.tp [3,4]) (wSs cn gn) { nx:=wSs cn gm (fin Q),rt:=Q } (cE (k:Int) (nats rest)) [~~~m,some (.tup (nats a)),↑p,n,t] c:=by
  intro rest;induction rest with
  |nil=>
   intro k n t c hd I u d g;rw[show nats []=[] from rfl,cE,aI];unfold gm;simp! only[];have hk:a.length<=k:=by
    have:=congrArg List.length hd
    rw[YW,YT] at this;omega
   obtain rfl:k=a.length:=by omega
   exact q p ps c C u d z g
  |cons h rest J=>
   intro k n t c hd I u d g;have hk:a[k]?=some h:=by
    have:=congrArg (·[0]?) hd
    simpa using this
   have K:a.drop (k+1)=rest:=by
    have:=congrArg (List.drop 1) hd
    rw[List.drop_drop] at this;simpa using this
   have A:h∈a:=YS hk;have L:k<a.length:=(YB.mp hk).1;obtain⟨r,b⟩:∃r,ps[h]?=some r:=⟨ps[h]'(by have:=w h A;omega),ZD (by have:=w h A;omega)⟩;have B:=YS b;rw[show nats (h::rest)=⇑h::nats rest from rfl,cE,aI];unfold gn;simp! only[List.set,d,sk b,g h r b,eh];have hsz:(1000:Nat)<sizeLine:=by decide
   have O:=zb a k h;refine⟨rfl,rfl,by omega,trivial,?_⟩;rw[show((k:Int)+1)=((k+1:Nat):Int) by simp];refine J (k+1) _ _ _ K L (u.put (j r B).1) ?_ ?_
   ·rw[aG (E r B).symm];exact d
   ·refine cy.put nd b g ?_ ?_
    ·show MO.lst _=_
     rw[u8 h hk,if_pos rfl];unfold nats;rw[ZK];rfl
    ·intro f hf
     show MO.lst _=_;rw[u8 f hk,if_neg hf,ZA]
 exact l a 0 none none M2 rfl (YL _) F G s2
def iY(a:List (List (Bool×Int)))(k:Nat)(b:Zs)(f:Nat):MO:=.dic (cO (cf a k f++(if bt b f=true then[k] else[])))
theorem Al(a:Zs)(g:Int)(f:Nat):bt (a++[(true,g)]) f=bt a f:=by
 unfold bt;congr 1;simp
theorem Am(a:Zs)(f:Nat):bt (a++[(false,(f:Int))]) f=true:=by
 unfold bt;simp
theorem ze(a:Zs){g f:Nat}(h:f≠g):bt (a++[(false,(g:Int))]) f=bt a f:=by
 unfold bt;congr 1;have:¬(f:Int)=(g:Int):=by omega
 simp[this]
theorem EK(a:List (List (Bool×Int)))(k:Nat)(b:Zs)(g:Nat):MO.dic (putD (cO (cf a k g++(if bt b g=true then[k] else[]))) (.inl (k:Int)) (.bl true))=iY a k (b++[(false,(g:Int))]) g:=by
 unfold iY;rw[zd,Am,if_pos rfl];have hk:k∉cf a k g:=λz=>absurd (zc z) (ZS _)
 by_cases e:bt b g=true
 ·rw[if_pos e,if_pos (by simp)]
 ·rw[if_neg e,ZA,if_neg hk]
theorem va(h:iX ds M Q):wSs cn eY (fin Q) (ai ["","","","","","",""] ds) M:=by
 obtain⟨m,A,rs,a,rfl,OZ,Rz,S4,hm,hl,hf,q⟩:=h;show wSs cn eY (fin Q) [~~~m,↑A,none,none,none,none,none] M;unfold eY;simp! only[List.cons_append,XB,List.replicate];refine⟨⟨by omega,by omega⟩,?_⟩;refine pE (o:=.dic []) M (λ_ _ _ h=>h) (λ_ _ _ h=>h) (bP 0 (m:Int)) [] _ M (ad.refl M) .nil (λp hp=>nomatch hp) ?_;intro ps M1 e1 nd k_ X p hp;rw[u7,YT,Nat.zero_add] at k_;have Pc:M p=none:=e1.free hp;have F_:∀r∈ps,r≠p:=λr B=>cp (X r B).2 hp
 have e2:ad M (ac M1 p (.lst (aw ps))):=e1.then hp;have g2:ac M1 p (MO.lst (aw ps)) p=some (.lst (aw ps)):=aa;have s2:cy (ac M1 p (MO.lst (aw ps))) ps (iY a 0 []):=λf r B=>(ad.new hp) r _ (X r (YS B)).2
 generalize ac M1 p (MO.lst (aw ps))=M2 at *;unfold la;simp! only[List.set,e2 A _ OZ];have last:∀(F G j n:Zz) (c:MH),ad M c->c p=some (.lst (aw ps))->cy c ps (iY a a.length [])->wSs cn dA (fin Q) [~~~m,↑A,↑p,F,G,j,n] c:=by
  intro F G j n c I O R;unfold dA;simp! only[O,List.cons_append,XB,List.replicate,pX,gD];have Y:∀(rest:Zh) (k:Nat) (u:Zh) (v:Zz) (d:MH),ps.drop k=rest->k<=ps.length->u.length=k->ad c d->cy d u (λf=>.lst (nats (cf a a.length f))) ->
    a9 (λM'=>M' p=some (.lst (aw ps))) (.nm 7) (ot cn .no) (wE cn (.bk .list (.cons (.var 7) .nil))) (λds M'=>∀p,M' p=none->Q (.ref p) (ac M' p (.lst ds))) (aw rest) (aw u) [~~~m,↑A,↑p,F,G,j,n,v] d:=by
   intro rest;induction rest with
   |nil=>
    intro k u v d hd Z hq t C;rw[show aw []=[] from rfl,a9];intro p2 J;have hk:ps.length<=k:=by
     have:=congrArg List.length hd
     rw[YW,YT] at this;omega
    exact q p2 u _ ((I.trans t).free J) ((I.trans t).then J) aa (by omega) (C.ext (ad.new J))
   |cons r rest ih=>
    intro k u v d hd Z hq t C;have hk:ps[k]?=some r:=by
     have:=congrArg (·[0]?) hd
     simpa using this
    have OE:ps.drop (k+1)=rest:=by
     have:=congrArg (List.drop 1) hd
     rw[List.drop_drop] at this;simpa using this
    have S3:k<ps.length:=(YB.mp hk).1;have ab:d r=some (.dic (cO (cf a a.length k))):=by
     rw[t r _ (R k r hk)];unfold iY;rw[if_neg (by unfold bt;simp),ZA]
    rw[show aw (r::rest)=.ref r::aw rest from rfl,a9];simp! only[List.set,pX,gD,ab,pT,EJ];intro p2 J;refine⟨(t.trans (ad.new J)) p _ O,?_⟩;have:aw u++[D.ref p2]=aw (u++[p2]):=by unfold aw;rw[ZK];rfl
    rw[this];refine ih (k+1) (u++[p2]) _ _ OE S3 (by rw[ZJ,hq];rfl) (t.then J) λf K w=>?_
    by_cases ap:f<u.length
    ·rw[ZE ap] at w
     exact(ad.new J) K _ (C f K w)
    ·rw[ZH (by omega)] at w
     have hz:f-u.length=0:=by
      have:=(YB.mp w).1
      simp only[YH,YT] at this;omega
     rw[hz] at w;have:p2=K:=by simpa using w
     subst this;obtain rfl:f=k:=by omega
     exact aa
  exact Y ps 0 [] none c rfl (YL _) rfl (ad.refl c) (λf r B=>by simp at B)
 have outer:∀(rest:Zh) (k:Nat) (F G j n:Zz) (c:MH),rs.drop k=rest->k<=rs.length->ad M c->c p=some (.lst (aw ps))->cy c ps (iY a k []) ->
   aI (λM'=>M' A=some (.lst (aw rs))) (.tp [3,4]) (wSs cn gq) { nx:=wSs cn dA (fin Q),rt:=Q } (cE (k:Int) (aw rest)) [~~~m,↑A,↑p,F,G,j,n] c:=by
  intro rest;induction rest with
  |nil=>
   intro k F G j n c hd Z I O R;rw[show aw []=[] from rfl,cE,aI];have hk:rs.length<=k:=by
    have:=congrArg List.length hd
    rw[YW,YT] at this;omega
   obtain rfl:k=a.length:=by omega
   exact last F G j n c I O R
  |cons r rest ih=>
   intro k F G j n c hd Z I O R;have hk:rs[k]?=some r:=by
    have:=congrArg (·[0]?) hd
    simpa using this
   have OE:rs.drop (k+1)=rest:=by
    have:=congrArg (List.drop 1) hd
    rw[List.drop_drop] at this;simpa using this
   have S3:k<rs.length:=(YB.mp hk).1;obtain⟨l,hlk⟩:∃l,a[k]?=some l:=⟨a[k]'(by omega),ZD (by omega)⟩;have B:=S4 k r l hk hlk;have V5:=hf l (YS hlk);rw[show aw (r::rest)=.ref r::aw rest from rfl,cE,aI];unfold gq;simp! only[List.set,I r _ B];refine⟨rfl,?_⟩;have L:∀(P y:Zs) (j n:Zz) (d:MH),l=y++P->ad M d->d p=some (.lst (aw ps))->cy d ps (iY a k y)->∀(N:DS->MH->Prop),
     (∀w5 w6 M5,ad M M5->M5 p=some (.lst (aw ps))->cy M5 ps (iY a k l)->N [~~~m,↑A,↑p,~~~k,↑r,w5,w6] M5) ->
     ∀E:cv,E.nx=N ->
     aI (λM'=>M' r=some (.lst (l.map pairD))) (.tp [5,6]) (wSs cn gp) E (P.map pairD) [~~~m,↑A,↑p,~~~k,↑r,j,n] d:=by
    intro P;induction P with
    |nil=>
     intro y j n d S t T C N V E W;rw[ZA] at S;subst S;rw[List.map_nil,aI,W];exact V j n d t T C
    |cons x P S_=>
     intro y j n d S t T C N V E W;obtain⟨b,gi⟩:=x;have hx:=V5 (b,gi) (by rw[S];simp);obtain⟨g,rfl⟩:∃g:Nat,gi=(g:Int):=⟨gi.toNat,by have:=hx.1;simp only at this;omega⟩;have aB:g<ps.length:=by have:=hx.2;simp only at this;omega
     obtain⟨z,hz⟩:∃z,ps[g]?=some z:=⟨ps[g],ZD aB⟩;have Y1:=YS hz;have Ta:l=(y++[(b,(g:Int))])++P:=by rw[S];simp
     rw[YJ,show pairD (b,(g:Int))=.tup [⇑g,.bl b] from rfl,aI];unfold gp;cases b with
     |true=>
      simp! only[List.set,Bool.not_true];refine⟨rfl,t r _ B,S_ _ _ _ d Ta t T (λf K w=>?_) N V E W⟩;rw[C f K w];unfold iY;rw[Al]
     |false=>
      have a1:d z=some (.dic (cO (cf a k g++(if bt y g=true then[k] else[])))):=C g z hz;simp! only[List.set,Bool.not_false,T,sk hz,a1];have hsz:(2000:Nat)<sizeLine:=by decide
      have a3:=GY a k g;refine⟨rfl,?_,?_⟩
      ·unfold cO
       rw[ZF,ZJ];have:(if bt y g=true then[k] else[]).length<=1:=by split<;>simp
       omega
      have U:=t.put (o:=.dic (putD (cO (cf a k g++(if bt y g=true then[k] else[]))) (.inl (k:Int)) (.bl true))) (X z Y1).1;refine⟨U r _ B,S_ _ _ _ _ Ta U ?_ (cy.put nd hz C ?_ ?_) N V E W⟩
      ·rw[aG (F_ z Y1).symm];exact T
      ·exact(EK a k y g).symm
      ·intro f a2
       unfold iY;rw[ze y a2]
   refine L l [] j n c rfl I O R _ ?_ _ rfl;intro w5 w6 M5 U g5 s5;refine⟨U A _ OZ,?_⟩;rw[show((k:Int)+1)=((k+1:Nat):Int) by simp];refine ih (k+1) _ _ _ _ M5 OE S3 U g5 λf K w=>?_
   rw[s5 f K w];unfold iY;rw[C7 f hlk,if_neg (show ¬bt [] f=true by unfold bt;simp),ZA]
 exact outer rs 0 none none none none M2 rfl (YL _) e2 g2 s2
end
abbrev Row:=Nat×List CT
abbrev Zy:=List Row
structure eG (m:Nat) (a_:Zy):Prop where
 most:m<=120
 few:a_.length<=400
 fit:∀x∈a_,x.1<m/\x.2.length<=6/\∀t∈x.2,t.fit (m:Int)
def cF(x:Row):List (Bool×Int):=x.2.flatMap CT.leanP
def aT(a_:Zy):List Nat:=a_.map (·.1)
def ba(r_:Zt):List D:=r_.map λrs=>.tup (aw rs)
def hid(a:Addr)(M:MH):MH:=λb=>if b=a then none else M b
theorem eM(a:Addr)(M:MH)(o:MO):hid a (ac M a o)=hid a M:=by
 funext b;unfold hid ac;split<;>rfl
theorem rf{a b:Addr}{M:MH}(h:b≠a):hid a M b=M b:=if_neg h
theorem bV{a:Addr}{M M':MH}(e:ad M M'):ad (hid a M) (hid a M'):=λb o q=>by
 unfold hid at q ⊢;split at q
 ·cases q
 ·rename_i n
  rw[if_neg n];exact e b o q
theorem dg(a:Addr)(M:MH):ad (hid a M) M:=λb o q=>by
 unfold hid at q;split at q
 ·cases q
 ·exact q
theorem iw{a b S:Addr}{M:MH}{fs:List (Str×D)}{xs:List D}(ha:M a=some (.ins S fs))(hb:M b=some (.lst xs)):hid a M b=some (.lst xs):=by
 rw[rf]
 ·exact hb
 ·intro z;subst z;rw[ha] at hb;cases hb
theorem Jz{a b S:Addr}{M M':MH}{fs:List (Str×D)}{o:MO}(ha:M a=some (.ins S fs))(hb:M b=none)(h:M' b=some o):hid a M' b=some o:=by
 rw[rf]
 ·exact h
 ·intro z;subst z;rw[ha] at hb;cases hb
def aM(M:MH)(l_:List D)(a_:Zy):Prop:=Paired (λd (x:Row)=>∃q,d=.tup [⇑x.1,.ref q]/\M q=some (.lst (x.2.map CT.told))) l_ a_
theorem aM.ext{M M':MH}{l_:List D}{a_:Zy}(e:ad M M')(h:aM M l_ a_):aM M' l_ a_:=kn (λ_ _ ⟨q,a,b⟩=>⟨q,a,e q _ b⟩) h
theorem aM.hid{a S:Addr}{M:MH}{fs:List (Str×D)}{l_:List D}{a_:Zy}(ha:M a=some (.ins S fs))(h:aM M l_ a_):aM (SH.hid a M) l_ a_:=kn (λ_ _ ⟨q,a,b⟩=>⟨q,a,iw ha b⟩) h
def ib(c:CA)(M:MH)(r_:Zt)(a_:Zy):Prop:=Paired (λrs (x:Row)=>cR c M rs x.2) r_ a_
theorem ib.ext{c:CA}{M M':MH}{r_:Zt}{a_:Zy}(e:ad M M')(h:ib c M r_ a_):ib c M' r_ a_:=kn (λ_ _ q=>cR.ext e q) h
def fF(m:Nat)(a_:Zy)(r_:Zt)(p1 p2 p3:Addr):List (Str×D):=[("many",⇑m),("heads",.tup (nats (aT a_))),("conds",.tup (ba r_)),("headed",.ref p1),("leanings",.ref p2),("helped",.ref p3)]
def sn(M:MH)(ps:Zh)(a_:Zy):Prop:=ps.length=a_.length/\∀(k:Nat) (r:Addr) (x:Row),ps[k]?=some r->a_[k]?=some x->M r=some (.lst ((cF x).map pairD))
structure bh (c:CA) (S:Addr) (M:MH) (a:Addr) (m:Nat) (a_:Zy):Prop where
 ok:eG m a_
 ex:∃(r_:Zt) (p1 p2 p3:Addr) (M_ J_ OC:Zh),M a=some (.ins S (fF m a_ r_ p1 p2 p3))/\ib c M r_ a_ /\
  (M p1=some (.lst (aw M_))/\M_.length=m/\cy M M_ (λf=>.lst (nats (c3 (aT a_) a_.length f)))) /\
  (M p2=some (.lst (aw J_))/\sn M J_ a_) /\
  (M p3=some (.lst (aw OC))/\OC.length=m/\cy M OC (λf=>.lst (nats (cf (a_.map cF) a_.length f))))
theorem bh.ext{c:CA}{S:Addr}{M M':MH}{a:Addr}{m:Nat}{a_:Zy}(e:ad M M')(h:bh c S M a m a_):bh c S M' a m a_:=by
 obtain⟨ok,r_,p1,p2,p3,M_,J_,OC,d,h2,⟨f,g,j⟩,⟨l,b⟩,n,o,p⟩:=h;exact⟨ok,r_,p1,p2,p3,M_,J_,OC,e _ _ d,h2.ext e,⟨e _ _ f,g,j.ext e⟩,⟨e _ _ l,b.1,λk r x t u=>e _ _ (b.2 k r x t u)⟩,e _ _ n,o,p.ext e⟩
def kx:List Str:=["many","heads","conds","headed","leanings","helped"]
def j9(c:CA)(S:Addr):az:=λds M Q=>∃(a:Addr) (m:Nat) (b:Addr) (l_:List D) (a_:Zy),ds=[.ref a,⇑m,.ref b]/\M a=some (.ins S [])/\M b=some (.lst l_)/\aM M l_ a_/\eG m a_ /\
 ∀M',ExtBut a M M'->bh c S M' a m a_->Q .non M'
def iy(c:CA)(S:Addr):az:=λds M Q=>∃(a:Addr) (m:Nat) (a_:Zy),ds=[.ref a]/\bh c S M a m a_/\Q (⇑m) M
def ky(c:CA)(S:Addr):az:=λds M Q=>∃(a:Addr) (m:Nat) (a_:Zy) (f:Nat),ds=[.ref a,⇑f]/\bh c S M a m a_/\f<m/\∀p M',M p=none->ad M M'->M' p=some (.lst (nats (c3 (aT a_) a_.length f)))->Q (.ref p) M'
def fG(c:CA)(S:Addr):az:=λds M Q=>∃(a:Addr) (m:Nat) (a_:Zy) (f:Nat),ds=[.ref a,⇑f]/\bh c S M a m a_/\f<m/\∀p M',M p=none->ad M M'->M' p=some (.lst (nats (cf (a_.map cF) a_.length f)))->Q (.ref p) M'
def jK(c:CA)(S:Addr):az:=λds M Q=>∃(a:Addr) (m:Nat) (a_:Zy) (r:Nat) (x:Row),ds=[.ref a,⇑r]/\bh c S M a m a_/\a_[r]?=some x/\Q (⇑x.1) M
def kz(c:CA)(S:Addr):az:=λds M Q=>∃(a:Addr) (m:Nat) (a_:Zy) (r:Nat) (x:Row),ds=[.ref a,⇑r]/\bh c S M a m a_/\a_[r]?=some x/\∀p rs M',M p=none->ad M M'->M' p=some (.lst (aw rs))->cR c M' rs x.2->Q (.ref p) M'
def gr:Ss:=#v[.ret (.fld (.var 0) "many")]
def gt:Ss:=#v[.ret (.bk .list #v[.ix (.fld (.var 0) "headed") (.var 1)])]
def ei:Ss:=#v[.ret (.bk .list #v[.ix (.fld (.var 0) "helped") (.var 1)])]
def ic:Ss:=#v[.ret (.ix (.fld (.var 0) "heads") (.var 1))]
def gu:Ss:=#v[.ret (.bk .list #v[.ix (.fld (.var 0) "conds") (.var 1)])]
section
variable {m:Nat}{a_:Zy}{r_:Zt}{p1 p2 p3:Addr}
theorem JA:(fF m a_ r_ p1 p2 p3).lookup ("many" : Str)= ~~~m:=rfl
theorem G0:(fF m a_ r_ p1 p2 p3).lookup ("heads" : Str)=some (.tup (nats (aT a_))):=rfl
theorem G2:(fF m a_ r_ p1 p2 p3).lookup ("conds" : Str)=some (.tup (ba r_)):=rfl
theorem EL:(fF m a_ r_ p1 p2 p3).lookup ("headed" : Str)=↑p1:=rfl
theorem EM:(fF m a_ r_ p1 p2 p3).lookup ("helped" : Str)=↑p3:=rfl
end
section
variable {cn:Cn}{c:CA}{S:Addr}{ds:List D}{M:MH}{Q:DK}
theorem An(b:∀f∈kx,cn.O S f)(h:iy c S ds M Q):wSs cn gr (fin Q) (ai [""] ds) M:=by
 obtain⟨a,m,a_,rfl,⟨ok,r_,p1,p2,p3,M_,J_,OC,d,-⟩,q⟩:=h;show wSs cn gr (fin Q) [↑a] M;unfold gr;simp! only[d,JA];exact⟨b _ (by rfl'),q⟩
theorem Ao(b:∀f∈kx,cn.O S f)(h:ky c S ds M Q):wSs cn gt (fin Q) (ai ["",""] ds) M:=by
 obtain⟨a,m,a_,f,rfl,⟨ok,r_,p1,p2,p3,M_,J_,OC,d,-,⟨g,k,j⟩,-,-⟩,hf,q⟩:=h;show wSs cn gt (fin Q) [↑a,~~~f] M;have hz:M_[f]?=some (M_[f]'(by omega)):=ZD (by omega);unfold gt;simp! only[d,EL,g,sk hz,pX,gD,j f _ hz,pT,ck];exact⟨b _ (by rfl'),λp hp=>q p _ hp (ad.new hp) aa⟩
theorem vO(b:∀f∈kx,cn.O S f)(h:fG c S ds M Q):wSs cn ei (fin Q) (ai ["",""] ds) M:=by
 obtain⟨a,m,a_,f,rfl,⟨ok,r_,p1,p2,p3,M_,J_,OC,d,-,-,-,g,k,j⟩,hf,q⟩:=h;show wSs cn ei (fin Q) [↑a,~~~f] M;have hz:OC[f]?=some (OC[f]'(by omega)):=ZD (by omega);unfold ei;simp! only[d,EM,g,sk hz,pX,gD,j f _ hz,pT,ck];exact⟨b _ (by rfl'),λp hp=>q p _ hp (ad.new hp) aa⟩
theorem C9(b:∀f∈kx,cn.O S f)(h:jK c S ds M Q):wSs cn ic (fin Q) (ai ["",""] ds) M:=by
 obtain⟨a,m,a_,r,x,rfl,⟨ok,r_,p1,p2,p3,M_,J_,OC,d,-⟩,g,q⟩:=h;show wSs cn ic (fin Q) [↑a,~~~r] M;have hz:cX (nats (aT a_)) (r:Int)= ~~~x.1:=c9 (by unfold nats aT;rw[ZG,ZG,g];rfl);unfold ic;simp! only[d,G0,hz];exact⟨b _ (by rfl'),q⟩
theorem Bv{f d:Type}{F:f->d->Prop}:∀{l:List f}{m:List d}{i:Nat}{b:d},Paired F l m->m[i]?=some b->∃a,l[i]?=some a/\F a b
 |_,_,_,_,.nil,h=>by simp at h
 |_,_,0,_,.cons r _,h=>by
  rw[List.getElem?_cons_zero] at h;cases h;exact⟨_,rfl,r⟩
 |_,_,i+1,_,.cons _ t,h=>Bv (i:=i) t (by simpa using h)
theorem Ap(b:∀f∈kx,cn.O S f)(h:kz c S ds M Q):wSs cn gu (fin Q) (ai ["",""] ds) M:=by
 obtain⟨a,m,a_,r,x,rfl,⟨ok,r_,p1,p2,p3,M_,J_,OC,d,h2,-⟩,g,q⟩:=h;show wSs cn gu (fin Q) [↑a,~~~r] M;obtain⟨rs,j,hc⟩:=Bv h2 g;have hz:cX (ba r_) (r:Int)=some (.tup (aw rs)):=c9 (by unfold ba;rw[ZG,j];rfl);unfold gu;simp! only[d,G2,hz,pX,gD];exact⟨b _ (by rfl'),λp hp=>q p rs _ hp (ad.new hp) aa (hc.ext (ad.new hp))⟩
end
def mR:Ss:=#v[.setF (.var 0) "helped" (.fn 0 #v[.var 1,.fld (.var 0) "leanings"])]
def mS:Ss:=.cons (.setF (.var 0) "leanings" (.comp 1 (.fn 1 #v[.var 5]) (.nm 5) (.seq (.fld (.var 0) "conds")) .no)) mR
def mT:Ss:=.cons (.setF (.var 0) "headed" (.fn 2 #v[.var 1,.fld (.var 0) "heads"])) mS
def mU:Ss:=.cons (.setF (.var 0) "conds" (.bi .tuple #v[.comp 1 (.bi .tuple #v[.comp 1 (.fn 3 #v[.var 6]) (.nm 6) (.seq (.ix (.var 5) (.int 1))) .no]) (.nm 5) (.seq (.var 2)) .no])) mT
def mV:Ss:=.cons (.setF (.var 0) "heads" (.bi .tuple #v[.comp 1 (.ix (.var 5) (.int 0)) (.nm 5) (.seq (.var 2)) .no])) mU
def eZ:Ss:=.cons (.setF (.var 0) "many" (.var 1)) mV
def fb:Ss:=#v[.ite (.not (.val (.fn 4 #v[.var 4,.var 1]))) #v[.never] .nil]
def mX:Ss:=.cons (.for (.tp [3,4]) (.enum #v[.var 2]) fb) eZ
def kQ(j l:Nat):Ss:=.cons (.ite (.or (.not (.val (.fn 5 #v[.var 1,.bin .Add (.glob j) (.int 1)]))) (.or (.not (.val (.bi .isinst #v[.var 2,.ty "list"]))) (.cmp .Gt (.bi .len #v[.var 2]) (.glob l)))) #v[.never] .nil) mX
abbrev Bw(x:D):List (Str×D):=[("many",x)]
abbrev zf(x y:D):List (Str×D):=[("many",x),("heads",y)]
abbrev zg(x y z:D):List (Str×D):=[("many",x),("heads",y),("conds",z)]
abbrev zh(x y z u:D):List (Str×D):=[("many",x),("heads",y),("conds",z),("headed",u)]
abbrev zi(x y z u v:D):List (Str×D):=[("many",x),("heads",y),("conds",z),("headed",u),("leanings",v)]
abbrev LD(x y z u v w:D):List (Str×D):=[("many",x),("heads",y),("conds",z),("headed",u),("leanings",v),("helped",w)]
theorem Oa(x:D):cM ("many" : Str) x []=Bw x:=rfl
theorem Ob(x y:D):cM ("heads" : Str) y (Bw x)=zf x y:=rfl
theorem Oc(x y z:D):cM ("conds" : Str) z (zf x y)=zg x y z:=rfl
theorem Od(x y z u:D):cM ("headed" : Str) u (zg x y z)=zh x y z u:=rfl
theorem Oe(x y z u v:D):cM ("leanings" : Str) v (zh x y z u)=zi x y z u v:=rfl
theorem Of(x y z u v w:D):cM ("helped" : Str) w (zi x y z u v)=LD x y z u v w:=rfl
theorem Og(x y z:D):List.lookup ("heads" : Str) (zg x y z)=some y:=rfl
theorem Oh(x y z u:D):List.lookup ("conds" : Str) (zh x y z u)=some z:=rfl
theorem Oi(x y z u v:D):List.lookup ("leanings" : Str) (zi x y z u v)=some v:=rfl
theorem G3{M:MH}{l_:List D}{a_:Zy}(h:aM M l_ a_):([]++l_.map λd=>match d with | .tup (h::_)=>h | _=>.non)=nats (aT a_):=by
 rw[XB];induction h with
 |nil=>rfl
 |@cons d x ds rs hd _ a=>
  obtain⟨b,rfl,-⟩:=hd;rw[YJ,a];rfl
section
variable {cn:Cn}{c:CA}{S:Addr}
theorem wH{g:MH->Prop}{tc:WT}{te:WE}{F:List D->MH->Prop}{a:Addr}{fs:List (Str×D)}{σ0:DS}{i:Nat}{M0:MH}(hc:∀σ M Q,Q true M->tc σ M Q)(hg:∀M,ad M0 M->g M)
  (d:∀(t:CT) (M:MH) (Q:DK),(∀p M',M p=none->ad M M'->M' p=some (t.obj c)->Q (.ref p) M')->te (σ0.set i (some (CT.told t))) M Q) (f:∀v w:Option D,(σ0.set i v).set i w=σ0.set i w) (j:M0 a=some (.ins S fs)):
  ∀(ts:List CT) (b:List CT) (rs:Zh) (v:Zz) (M:MH),ad M0 M->cR c (hid a M) rs b->(∀k M',ad M0 M'->cR c (hid a M') k (b++ts)->F (aw k) M')->a9 g (.nm i) tc te F (ts.map CT.told) (aw rs) (σ0.set i v) M
 |[],b,rs,v,M,e,h,q=>by
  rw[ZA] at q;exact q rs M e h
 |t::ts,b,rs,v,M,e,h,q=>by
  rw[YJ,a9];show tc _ M _;refine hc _ _ _ ?_;rw[aJ,f];refine d t M _ λp M' hp e' l=>⟨hg _ (e.trans e'),?_⟩
  have:aw rs++[D.ref p]=aw (rs++[p]):=by unfold aw;rw[ZK];rfl
  rw[this];refine wH hc hg d f j ts (b++[t]) (rs++[p]) _ M' (e.trans e') ?_ (by simpa using q);exact bA (h.ext (bV e')) (.cons (Jz (e a _ j) hp l) .nil)
variable {ds:List D}{M:MH}{Q:DK}{j l:Nat}
theorem xh(W:∀f∈kx,cn.O S f)(f0:cn.F.getD 0 (λ_ _ _=>False)=iX)(f1:cn.F.getD 1 (λ_ _ _=>False)=eD c)(f2:cn.F.getD 2 (λ_ _ _=>False)=iU)(f3:cn.F.getD 3 (λ_ _ _=>False)=u5 c)(f4:cn.F.getD 4 (λ_ _ _=>False)=sj)(f5:cn.F.getD 5 (λ_ _ _=>False)=da)
  (gj:cn.G.getD j .non=.int 120) (gl:cn.G.getD l .non=.int 400) (h:j9 c S ds M Q):wSs cn (kQ j l) (fin Q) (ai ["","","","",""] ds) M:=by
 obtain⟨a,m,C,l_,a_,rfl,ha,Pz,hR,ok,q⟩:=h;show wSs cn (kQ j l) (fin Q) [↑a,~~~m,↑C,none,none] M;have a4:=ok.most;have a5:=ok.few;have Rz:l_.length=a_.length:=km hR;unfold kQ;simp_all! only[List.set,dG,Pz,f5,gj,gl];refine⟨(m:Int),120+1,rfl,?_⟩;have h1:decide (0<=(m:Int))=true:=YU (by omega);have h2:decide ((m:Int)<120+1)=true:=YU (by omega);simp only[h1,h2,Bool.and_self,Bool.not_true,ax,aJ];refine⟨by decide,?_⟩;simp only[Pz,mq,Bool.not_true,ax];have b2:decide ((400:Int)<(l_.length:Int))=false:=ZP (by omega);simp only[b2,ax];unfold mX;simp_all! only[List.set,Pz];have rest:∀(w z:Zz) (M1:MH),ad M M1->wSs cn eZ (fin Q) [↑a,~~~m,↑C,w,z] M1:=by
  intro w z M1 L;have Pn:=L _ _ ha;have R1:aM (hid a M1) l_ a_:=(hR.ext L).hid Pn;have Qy:hid a M1 C=some (.lst l_):=iw Pn (L _ _ Pz);have x1:ad (hid a M) (hid a M1):=bV L;unfold eZ;simp_all! only[List.set,Pn,Oa];refine⟨⟨W _ (by rfl'),by decide⟩,?_⟩;have O4:ac M1 a (MO.ins S (Bw (⇑m))) a=some (.ins S (Bw (⇑m))):=aa;have g:=eM a M1 (MO.ins S (Bw (⇑m)));generalize ac M1 a (MO.ins S (Bw (⇑m)))=M2 at *;rw[←g] at R1 Qy x1;clear g Pn L;clear M1;have RA:=dg a M2 _ _ Qy
  -- c_
  unfold mV;simp_all! only[List.set,List.cons_append,XB,List.replicate,RA];refine fw (f:=λd=>match d with | .tup (h::_)=>h | _=>.non) (ok:=λσ=>∃v,σ=[↑a,~~~m,↑C,w,z,v]) [] _ ⟨none,rfl⟩ ?_ ?_
  ·intro d hd σ h_ C' ⟨v,hv⟩ k
   subst hv;obtain⟨i,hi⟩:=List.getElem?_of_mem hd;obtain⟨x,-,A,rfl,-⟩:=et R1 hi;rw[a9];simp_all! only[List.set,bz];exact⟨RA,k _ ⟨_,rfl⟩⟩
  intro p hp;have c_:=G3 R1;rw[c_];have e3:=ad.new (o:=MO.lst (nats (aT a_))) hp;have g3:ac M2 p (MO.lst (nats (aT a_))) p=some (.lst (nats (aT a_))):=aa;generalize ac M2 p (MO.lst (nats (aT a_)))=M3 at *;have Q1:=e3 _ _ O4;simp only[g3,ck,Q1,Ob];refine⟨⟨W _ (by rfl'),(by decide:(1:Nat)<1000)⟩,?_⟩;have x3:ad (hid a M) (hid a M3):=x1.trans (bV e3);have R3:=R1.ext (bV (a:=a) e3);have RC:=bV (a:=a) e3 _ _ Qy;clear R1 Qy x1 O4 e3 g3 RA hp c_;clear M2;have RD:ac M3 a (MO.ins S (zf (⇑m) (.tup (nats (aT a_))))) a=some (.ins S (zf (⇑m) (.tup (nats (aT a_))))):=aa;have g:=eM a M3 (MO.ins S (zf (⇑m) (.tup (nats (aT a_)))));generalize ac M3 a (MO.ins S (zf (⇑m) (.tup (nats (aT a_)))))=X at *;rw[←g] at R3 RC x3;clear g Q1;clear M3;have RE:=dg a X _ _ RC
  -- OW
  unfold mU;simp_all! only[List.set,List.cons_append,XB,List.replicate,RE];have hm:∀(x:Row) (A:Addr) (M5:MH) (K:DK),M5 a=some (.ins S (zf (⇑m) (.tup (nats (aT a_)))))->M5 A=some (.lst (x.2.map CT.told))->(∀rs n,ad M5 n->cR c (hid a n) rs x.2->K (.tup (aw rs)) n) ->
    wE cn (.bi .tuple (.cons (.comp 1 (.fn 3 (.cons (.var 6) .nil)) (.nm 6) (.seq (.ix (.var 5) (.int 1))) .no) .nil)) [↑a,~~~m,↑C,w,z,some (.tup [⇑x.1,.ref A])] M5 K:=by
   intro x A M5 K V6 OM k;simp_all! only[List.set,List.cons_append,XB,List.replicate,bF,OM,f3];refine wH (c:=c) (S:=S) (a:=a) (M0:=M5) (i:=6) (σ0:=[↑a,~~~m,↑C,w,z,some (.tup [⇑x.1,.ref A]),none]) (λ_ _ _ h=>h) (λn J=>J _ _ OM) ?_ (λ_ _=>rfl) V6 x.2 [] [] none M5 (ad.refl M5) .nil ?_
   ·intro t n K2 k2
    exact⟨t,rfl,k2⟩
   ·intro rs n J V7 p hp
    rw[aa];exact k rs _ (J.then hp) (V7.ext (bV (ad.new hp)))
  have OW:∀(F:List D->MH->Prop) (xs:List D) (B P:Zy) (r_:Zt) (v:Zz) (M5:MH),aM (hid a X) xs B->ad X M5->ib c (hid a M5) r_ P->(∀Tc n,ad X n->ib c (hid a n) Tc (P++B)->F (ba Tc) n) ->
    a9 (λM'=>M' C=some (.lst l_)) (.nm 5) (ot cn .no) (wE cn (.bi .tuple (.cons (.comp 1 (.fn 3 (.cons (.var 6) .nil)) (.nm 6) (.seq (.ix (.var 5) (.int 1))) .no) .nil))) F xs (ba r_) [↑a,~~~m,↑C,w,z,v] M5:=by
   intro F xs B P r_ v M5 hp;induction hp generalizing P r_ v M5 with
   |nil=>
    intro U h5 k;rw[a9];rw[ZA] at k;exact k r_ M5 U h5
   |@cons d x xs B hd _ ih=>
    intro U h5 k;obtain⟨A,rfl,OM⟩:=hd;rw[a9];refine hm x A M5 _ (U _ _ RD) (U _ _ (dg a X _ _ OM)) λrs n J V7=>⟨(U.trans J) _ _ RE,?_⟩
    have:ba r_++[D.tup (aw rs)]=ba (r_++[rs]):=by unfold ba;rw[ZK];rfl
    rw[this];refine ih (P++[x]) (r_++[rs]) _ n (U.trans J) (bA (h5.ext (bV J)) (.cons V7 .nil)) (by simpa using k)
  refine OW _ l_ a_ [] [] none X R3 (ad.refl X) .nil ?_;clear OW hm;intro r_ M5 U V8 p hp;rw[XB] at V8;have J:=ad.new (o:=MO.lst (ba r_)) hp;have g6:ac M5 p (MO.lst (ba r_)) p=some (.lst (ba r_)):=aa;generalize ac M5 p (MO.lst (ba r_))=n at *;have Y2:=(U.trans J) _ _ RD;simp only[g6,ck,Y2,Oc];refine⟨⟨W _ (by rfl'),(by decide:(2:Nat)<1000)⟩,?_⟩;have x6:ad (hid a M) (hid a n):=x3.trans (bV (U.trans J));have C6:=V8.ext (bV (a:=a) J);clear R3 RC x3 RD U V8 hp J g6 RE;clear X M5;have V9:ac n a (MO.ins S (zg (⇑m) (.tup (nats (aT a_))) (.tup (ba r_)))) a=some (.ins S (zg (⇑m) (.tup (nats (aT a_))) (.tup (ba r_)))):=aa;have g:=eM a n (MO.ins S (zg (⇑m) (.tup (nats (aT a_))) (.tup (ba r_))));generalize ac n a (MO.ins S (zg (⇑m) (.tup (nats (aT a_))) (.tup (ba r_))))=M7 at *;rw[←g] at C6 x6;clear g Y2;clear n
  -- headed
  unfold mT;simp_all! only[List.set,V9,Og,f2];have ab:(aT a_).length=a_.length:=by unfold aT;rw[ZF]
  refine⟨W _ (by rfl'),m,aT a_,rfl,by omega,by omega,?_,?_⟩
  ·intro h g
   obtain⟨x,hx,rfl⟩:=XT.1 g;exact(ok.fit x hx).1
  intro p1 M_ Z QZ e8 g8 l8 s8;rw[ab] at s8;have Uz:=e8 _ _ V9;simp only[Uz,Od];refine⟨⟨W _ (by rfl'),(by decide:(3:Nat)<1000)⟩,?_⟩;have x8:ad (hid a M) (hid a Z):=x6.trans (bV e8);have C8:=C6.ext (bV (a:=a) e8);have G8:hid a Z p1=some (.lst (aw M_)):=iw Uz g8;have S8:cy (hid a Z) M_ (λf=>.lst (nats (c3 (aT a_) a_.length f))):=λf r u=>iw Uz (s8 f r u)
  clear C6 x6 V9 QZ e8 g8 s8;clear M7;have V_:ac Z a (MO.ins S (zh (⇑m) (.tup (nats (aT a_))) (.tup (ba r_)) (.ref p1))) a=some (.ins S (zh (⇑m) (.tup (nats (aT a_))) (.tup (ba r_)) (.ref p1))):=aa;have g:=eM a Z (MO.ins S (zh (⇑m) (.tup (nats (aT a_))) (.tup (ba r_)) (.ref p1)));generalize ac Z a (MO.ins S (zh (⇑m) (.tup (nats (aT a_))) (.tup (ba r_)) (.ref p1)))=M9 at *;rw[←g] at C8 x8 G8 S8;clear g Uz;clear Z
  -- leanings
  unfold mS;simp_all! only[List.set,List.cons_append,XB,List.replicate,V_,Oh];refine⟨W _ (by rfl'),?_⟩;have Y:∀(F:List D->MH->Prop) (cs:Zt) (B P:Zy) (ps:Zh) (v:Zz) (R:MH),ib c (hid a M9) cs B->(∀x∈B,x.1<m/\x.2.length<=6/\∀t∈x.2,t.fit (m:Int))->ad M9 R->sn R ps P->(∀Qx I,ad M9 I->sn I Qx (P++B)->F (aw Qx) I) ->
    a9 (λ_=>True) (.nm 5) (ot cn .no) (wE cn (.fn 1 (.cons (.var 5) .nil))) F (ba cs) (aw ps) [↑a,~~~m,↑C,w,z,v] R:=by
   intro F cs B P ps v R hp;induction hp generalizing P ps v R with
   |nil=>
    intro _ T P8 k;rw[show ba []=[] from rfl,a9];rw[ZA] at k;exact k ps R T P8
   |@cons rs x cs B hd _ ih=>
    intro hf T P8 k;obtain⟨V',Td,Te⟩:=hf x (.head _);rw[show ba (rs::cs)=.tup (aw rs)::ba cs from rfl,a9];have go:eD c [.tup (aw rs)] R (λy M2=>True/\a9 (λ_=>True) (.nm 5) (ot cn .no) (wE cn (.fn 1 (.cons (.var 5) .nil))) F (ba cs) (aw ps++[y]) [↑a,~~~m,↑C,w,z,some (.tup (aw rs))] M2):=by
     refine⟨rs,x.2,rfl,(hd.ext (dg a M9)).ext T,λt ht=>CT.fit_ok (by omega) (Te t ht),Td,λp I hp V UA=>⟨trivial,?_⟩⟩;have:aw ps++[D.ref p]=aw (ps++[p]):=by unfold aw;rw[ZK];rfl
     rw[this];refine ih (P++[x]) (ps++[p]) _ I (λy hy=>hf y (.tail _ hy)) (T.trans V) ⟨by rw[ZJ,ZJ,P8.1];rfl,λk r y u hy=>?_⟩ (by simpa using k);by_cases hk:k<ps.length
     ·rw[ZE hk] at u
      rw[ZE (by rw[←P8.1];exact hk)] at hy;exact V _ _ (P8.2 k r y u hy)
     ·rw[ZH (by omega)] at u
      rw[ZH (by rw[←P8.1];omega),←P8.1] at hy;have hz:k-ps.length=0:=by
       have:=(YB.mp u).1
       simp only[YH,YT] at this;omega
      rw[hz,List.getElem?_cons_zero] at u hy;cases u;cases hy;rw[UA,C5];rfl
    rw[←f1] at go;exact go
  refine Y _ r_ a_ [] [] none M9 C8 ok.fit (ad.refl M9) ⟨rfl,λk r x u=>by simp at u⟩ ?_;clear Y;intro J_ R T UB p2 y';rw[XB] at UB;have V:=ad.new (o:=MO.lst (aw J_)) y';have UA:ac R p2 (MO.lst (aw J_)) p2=some (.lst (aw J_)):=aa;generalize ac R p2 (MO.lst (aw J_))=I at *;have Qz:=(T.trans V) _ _ V_;simp only[Qz,Oe];refine⟨⟨W _ (by rfl'),(by decide:(4:Nat)<1000)⟩,?_⟩;have Y3:ad (hid a M) (hid a I):=x8.trans (bV (T.trans V));have Y4:=C8.ext (bV (a:=a) (T.trans V));have Y5:=bV (a:=a) (T.trans V) _ _ G8;have Y6:=S8.ext (bV (a:=a) (T.trans V));have Wc:hid a I p2=some (.lst (aw J_)):=iw Qz UA;have Tf:sn (hid a I) J_ a_:=⟨UB.1,λk r x u hx=>iw Qz (V _ _ (UB.2 k r x u hx))⟩;clear C8 x8 V_ y' T UB V UA G8 S8;clear M9 R;have Tg:ac I a (MO.ins S (zi (⇑m) (.tup (nats (aT a_))) (.tup (ba r_)) (.ref p1) (.ref p2))) a=some (.ins S (zi (⇑m) (.tup (nats (aT a_))) (.tup (ba r_)) (.ref p1) (.ref p2))):=aa;have g:=eM a I (MO.ins S (zi (⇑m) (.tup (nats (aT a_))) (.tup (ba r_)) (.ref p1) (.ref p2)));generalize ac I a (MO.ins S (zi (⇑m) (.tup (nats (aT a_))) (.tup (ba r_)) (.ref p1) (.ref p2)))=Wd at *;rw[←g] at Y4 Y3 Y5 Y6 Wc Tf;clear g Qz;clear I
  -- helped
  unfold mR;simp_all! only[List.set,Tg,Oi,f0];refine⟨W _ (by rfl'),m,p2,J_,a_.map cF,rfl,dg a Wd _ _ Wc,by rw[ZF];exact Tf.1,?_,by omega,by rw[ZF];omega,?_,?_⟩
  ·intro k r l u hl
   rw[ZG] at hl;obtain⟨x,hx,rfl⟩:=ZN.1 hl;exact dg a Wd _ _ (Tf.2 k r x u hx)
  ·intro l hl x hx
   obtain⟨y,hy,rfl⟩:=XT.1 hl;obtain⟨t,ht,ap⟩:=List.mem_flatMap.1 hx;exact wG ((ok.fit y hy).2.2 t ht) x ap
  intro p3 OC UC Qc We aB a1 Y7;rw[ZF] at Y7;have RF:=We _ _ Tg;simp only[RF,Of];refine⟨⟨W _ (by rfl'),(by decide:(5:Nat)<1000)⟩,?_⟩;have g:=eM a UC (MO.ins S (LD (⇑m) (.tup (nats (aT a_))) (.tup (ba r_)) (.ref p1) (.ref p2) (.ref p3)));have he:=bV (a:=a) We;have hl:=dg a (ac UC a (MO.ins S (LD (⇑m) (.tup (nats (aT a_))) (.tup (ba r_)) (.ref p1) (.ref p2) (.ref p3))));rw[g] at hl;have ee:=he.trans hl;refine q _ ?_ ⟨ok,r_,p1,p2,p3,M_,J_,OC,aa,Y4.ext ee,⟨ee _ _ Y5,l8,Y6.ext ee⟩,⟨ee _ _ Wc,Tf.1,λk r x u hx=>ee _ _ (Tf.2 k r x u hx)⟩,hl _ _ (iw RF aB),a1,λf r u=>hl _ _ (iw RF (Y7 f r u))⟩;intro b o hb a2;refine ee b o (Y3 b o ?_);rw[rf hb];exact a2
 have step:∀(E:cv) (v0 v2:Zz) (w z:Zz) (M1:MH) (x:Row) (A:Addr),(x.1<m/\x.2.length<=6/\∀t∈x.2,t.fit (m:Int))->M1 A=some (.lst (x.2.map CT.told))->(∀M2,ad M1 M2->E.nx [v0,~~~m,v2,w,some (.tup [⇑x.1,.ref A])] M2) ->
   wSs cn fb E [v0,~~~m,v2,w,some (.tup [⇑x.1,.ref A])] M1:=by
  intro E v0 v2 w z M1 x A ⟨V',Td,Te⟩ hq k;unfold fb;simp_all! only[List.set,f4];exact⟨(x.1:Int),(m:Int),A,x.2,rfl,hq,⟨by omega,by omega⟩,Td,Te,λM2 e2=>k M2 e2⟩
 have a3:∀(xs:List D) (B:Zy) (k:Int) (w z:Zz) (M1:MH),aM M xs B->(∀x∈B,x.1<m/\x.2.length<=6/\∀t∈x.2,t.fit (m:Int))->ad M M1 ->
   aI (λM'=>M' C=some (.lst l_)) (.tp [3,4]) (wSs cn fb) { nx:=wSs cn eZ (fin Q),rt:=Q } (cE k xs) [↑a,~~~m,↑C,w,z] M1:=by
  intro xs B k w z M1 hp;induction hp generalizing k w z M1 with
  |nil=>
   intro _ L;rw[cE,aI];exact rest w z M1 L
  |@cons d x xs B hd _ ih=>
   intro hf L;obtain⟨A,rfl,OM⟩:=hd;obtain⟨V',Td,Te⟩:=hf x (.head _);rw[cE,aI];refine⟨rfl,step _ _ _ _ none M1 x A ⟨V',Td,Te⟩ (L _ _ OM) λM2 e2=>?_⟩;exact⟨(L.trans e2) C _ Pz,ih _ _ _ M2 (λy hy=>hf y (.tail _ hy)) (L.trans e2)⟩
 exact a3 l_ a_ 0 none none M hR ok.fit (ad.refl M)
end
theorem G4(n:Nat)(f:Int):hasB (n:Int) f=n.testBit f.toNat:=fD n f.toNat▸(by unfold hasB nP;rw[YV])
def Sub(a b:Nat):Prop:=∀f,a.testBit f=true->b.testBit f=true
theorem Sub.refl(a:Nat):Sub a a:=λ_ h=>h
theorem Sub.trans{a b c:Nat}(h:Sub a b)(g:Sub b c):Sub a c:=λf q=>g f (h f q)
theorem Sub.or_l(a b:Nat):Sub a (a|||b):=λf h=>by rw[XZ,h];rfl
theorem Sub.or{a b c:Nat}(h:Sub a c)(g:Sub b c):Sub (a|||b) c:=λf q=>by
 rw[XZ,Bool.or_eq_true] at q;exact q.elim (h f) (g f)
theorem Sub.hasB{a b:Nat}(h:Sub a b){f:Int}(q:SH.hasB (a:Int) f=true):SH.hasB (b:Int) f=true:=by
 rw[G4] at q ⊢;exact h _ q
theorem EN{p q:Int->Bool}(h:∀f,p f=true->q f=true):∀fs:List Int,(fs.filter p).length<=(fs.filter q).length
 |[]=>YE _
 |f::fs=>by
  have a:=EN h fs;rw[XS,XS];by_cases e:p f=true
  ·rw[if_pos e,if_pos (h f e),YH,YH];omega
  ·rw[if_neg e]
   split
   ·rw[YH];omega
   ·exact a
theorem zj{p q:Int->Bool}:∀{fs:Zi},(fs.filter p).length<(fs.filter q).length->∃f∈fs,p f=false/\q f=true
 |[],h=>absurd h (ZS _)
 |f::fs,h=>by
  by_cases e:p f=false/\q f=true
  ·exact⟨f,.head _,e⟩
  ·rw[XS,XS] at h
   have:(fs.filter p).length<(fs.filter q).length:=by
    cases hp:p f with
    |true=>
     rw[if_pos hp] at h;split at h
     ·simpa using h
     ·rw[YH] at h;omega
    |false=>
     have hq:q f=false:=by
      cases hq:q f with
      |false=>rfl
      |true=>exact absurd ⟨hp,hq⟩ e
     rw[if_neg (by simp[hp]),if_neg (by simp[hq])] at h;exact h
   obtain⟨g,hg,w⟩:=zj this;exact⟨g,.tail _ hg,w⟩
theorem wJ{a b:Nat}(h:Sub a b)(fs:Zi):cY fs (a:Int)<=cY fs (b:Int):=by
 unfold cY;exact EN (λf q=>h.hasB q) fs
theorem zk{h h' g:Nat}(s:Sub h h'){t:CT}(q:t.carried (h:Int) (g:Int)=true):t.carried (h':Int) (g:Int)=true:=by
 cases t with
 |hav f=>exact s.hasB q
 |lck f=>exact q
 |som n fs=>
  have q:decide (n<=((cY fs (h:Int):Nat):Int))=true:=q;show decide (n<=((cY fs (h':Int):Nat):Int))=true
  have:=XM q
  have:=wJ s fs
  exact YU (by omega)
 |led fs k=>
  have q:(hasB (h:Int) (fs.getD k 0)&&(((cY (fs.take k) (g:Int):Nat):Int)==0))=true:=q;show(hasB (h':Int) (fs.getD k 0)&&(((cY (fs.take k) (g:Int):Nat):Int)==0))=true;rw[YX] at q ⊢;exact⟨s.hasB q.1,q.2⟩
theorem zl{h g g':Nat}(s:Sub g g'){t:CT}(q:t.carried (h:Int) (g':Int)=true):t.carried (h:Int) (g:Int)=true:=by
 cases t with
 |hav f=>exact q
 |lck f=>
  have q:(!hasB (g':Int) f)=true:=q;show(!hasB (g:Int) f)=true;cases e:hasB (g:Int) f with
  |false=>rfl
  |true=>rw[s.hasB e] at q;exact q
 |som n fs=>exact q
 |led fs k=>
  have q:(hasB (h:Int) (fs.getD k 0)&&(((cY (fs.take k) (g':Int):Nat):Int)==0))=true:=q;show(hasB (h:Int) (fs.getD k 0)&&(((cY (fs.take k) (g:Int):Nat):Int)==0))=true;rw[YX] at q ⊢;refine⟨q.1,?_⟩;have a:=q.2;have h2:=wJ s (fs.take k);rw[beq_iff_eq] at a ⊢;omega
theorem zm{h h' g:Nat}{t:CT}(q:t.carried (h:Int) (g:Int)=false)(a:t.carried (h':Int) (g:Int)=true):∃f,(false,f)∈t.leanP/\hasB (h:Int) f=false/\hasB (h':Int) f=true:=by
 cases t with
 |hav f=>exact⟨f,by simp[CT.leanP],q,a⟩
 |lck f=>
  have q:(!hasB (g:Int) f)=false:=q;have a:(!hasB (g:Int) f)=true:=a;rw[q] at a;cases a
 |som n fs=>
  have q:decide (n<=((cY fs (h:Int):Nat):Int))=false:=q;have a:decide (n<=((cY fs (h':Int):Nat):Int))=true:=a;have b:=of_decide_eq_false q;have h2:=XM a;have:(fs.filter (hasB (h:Int))).length<(fs.filter (hasB (h':Int))).length:=by
   unfold cY at b h2;omega
  obtain⟨f,hf,w⟩:=zj this;exact⟨f,XT.2 ⟨f,hf,rfl⟩,w⟩
 |led fs k=>
  have q:(hasB (h:Int) (fs.getD k 0)&&(((cY (fs.take k) (g:Int):Nat):Int)==0))=false:=q;have a:(hasB (h':Int) (fs.getD k 0)&&(((cY (fs.take k) (g:Int):Nat):Int)==0))=true:=a;rw[YX] at a;rw[a.2,Bool.and_true] at q;exact⟨_,YA.2 (.inr (.head _)),q,a.1⟩
def bu(h g:Nat)(x:Row):Bool:=x.2.all (CT.carried (h:Int) (g:Int))
theorem ka{h h' g:Nat}(s:Sub h h'){x:Row}(q:bu h g x=true):bu h' g x=true:=by
 unfold bu at q ⊢;rw[XI] at q ⊢;exact λt ht=>zk s (q t ht)
theorem nV{h g g':Nat}(s:Sub g g'){x:Row}(q:bu h g' x=true):bu h g x=true:=by
 unfold bu at q ⊢;rw[XI] at q ⊢;exact λt ht=>zl s (q t ht)
theorem Aq{h h' g:Nat}{x:Row}(q:bu h g x=false)(a:bu h' g x=true):∃f,(false,f)∈cF x/\hasB (h:Int) f=false/\hasB (h':Int) f=true:=by
 unfold bu at q a;rw[XI] at a;rw[List.all_eq_false] at q;obtain⟨t,ht,hq⟩:=q;obtain⟨f,hf,w⟩:=zm (by simpa using hq) (a t ht);exact⟨f,List.mem_flatMap.2 ⟨t,ht,hf⟩,w⟩
def vb(a_:Zy)(told g s:Nat):Prop:=Sub told s/\∀x∈a_,bu s g x=true->s.testBit x.1=true
def aL(a_:Zy)(told g n:Nat):Prop:=vb a_ told g n/\∀s,vb a_ told g s->Sub n s
theorem aL.anti{a_:Zy}{told g g' n n':Nat}(s:Sub g g')(h:aL a_ told g n)(h':aL a_ told g' n'):Sub n' n:=
 h'.2 n ⟨h.1.1,λx hx q=>h.1.2 x hx (nV s q)⟩
def hits(a_:Zy)(h g f r:Nat):Bool:=match a_[r]? with
 |some x=>decide (x.1=f)&&bu h g x
 |none=>false
theorem jL{a_:Zy}{h g f r:Nat}:hits a_ h g f r=true ↔ ∃x,a_[r]?=some x/\x.1=f/\bu h g x=true:=by
 unfold hits;cases e:a_[r]? with
 |none=>simp
 |some x=>simp
def bW(a_:Zy)(h g f:Nat):Option Nat:=(List.range a_.length).find? (hits a_ h g f)
def aH(a_:Zy)(h g left:Nat):List (Nat×Nat):=(bd left).filterMap λf=>(bW a_ h g f).map λr=>(f,r)
def cu(fr:Zp):Nat:=dJ (fr.map (·.1))
def cz(a_:Zy)(g:Nat):Nat->Nat->Nat->Nat->List (Nat×Nat×Nat)
 |0,_,_,_=>[]
 |k+1,step,a,left=>if aH a_ a g left=[] then[] else(aH a_ a g left).map (λx=>(x.1,step,x.2))++cz a_ g k (step+1) (a|||cu (aH a_ a g left)) (ae left (cu (aH a_ a g left)))
theorem nW{a_:Zy}{h g f:Nat}(q:bW a_ h g f=none){x:Row}(hx:x∈a_)(hf:x.1=f):bu h g x=false:=by
 obtain⟨r,a⟩:=List.getElem?_of_mem hx;have hl:r<a_.length:=(YB.mp a).1;unfold bW at q;rw[List.find?_eq_none] at q
 have:=q r (ZV.2 hl)
 rw[jL] at this;cases e:bu h g x with
 |false=>rfl
 |true=>exact absurd ⟨x,a,hf,e⟩ this
theorem sV{a_:Zy}{h g f r:Nat}(q:bW a_ h g f=some r):∃x,a_[r]?=some x/\x.1=f/\bu h g x=true:=
 jL.1 (List.find?_some q)
theorem dh{a_:Zy}{h g left f r:Nat}:(f,r)∈aH a_ h g left↔left.testBit f=true/\bW a_ h g f=some r:=by
 unfold aH;rw[List.mem_filterMap];constructor
 ·rintro⟨f',hf',q⟩
  obtain⟨d,c,e⟩:=ZN.1 q;cases e;exact⟨(bK _ _).1 hf',c⟩
 ·rintro⟨a,b⟩
  exact⟨f,(bK _ _).2 a,by rw[b];rfl⟩
theorem tM{fr:Zp}{f:Nat}:(cu fr).testBit f=true ↔ ∃r,(f,r)∈fr:=by
 unfold cu;rw[bS,XO,XT];constructor
 ·rintro⟨⟨a,b⟩,h,rfl⟩;exact⟨b,h⟩
 ·rintro⟨r,h⟩;exact⟨_,h,rfl⟩
theorem EO{a b f:Nat}(c:a.testBit f=true)(h2:b.testBit f=true):ae a b<a:=by
 have:=eg a b
 have d:a&&&b≠0:=λz=>by
  have:(a&&&b).testBit f=true:=by rw[XX,c,h2];rfl
  rw[z,Nat.zero_testBit] at this;cases this
 omega
theorem pF{a_:Zy}{h g left:Nat}(q:aH a_ h g left≠[]):ae left (cu (aH a_ h g left))<left:=by
 obtain⟨⟨f,r⟩,hx⟩:=List.exists_mem_of_ne_nil _ q;exact EO (dh.1 hx).1 (tM.2 ⟨r,hx⟩)
def cP(a_:Zy)(g told c_:Nat):Nat:=told|||dJ ((cz a_ g (ae c_ told+1) 1 told (ae c_ told)).map (·.1))
theorem vc{a_:Zy}{g told c_:Nat}(d:∀x∈a_,c_.testBit x.1=true):∀(k step a left:Nat),left<k->(∀f,left.testBit f=(c_.testBit f && !a.testBit f))->Sub told a->(∀s,vb a_ told g s->Sub a s) ->
  aL a_ told g (a|||dJ ((cz a_ g k step a left).map (·.1)))
 |0,_,_,_,h,_,_,_=>absurd h (Nat.not_lt_zero _)
 |k+1,step,a,left,hk,hl,ht,hc=>by
  rw[cz];by_cases e:aH a_ a g left=[]
  ·rw[if_pos e]
   have z:a|||dJ (([]:List (Nat×Nat×Nat)).map (·.1))=a:=by simp[dJ]
   rw[z];refine⟨⟨ht,λx hx q=>?_⟩,hc⟩;cases b:a.testBit x.1 with
   |true=>rfl
   |false=>
    have j:left.testBit x.1=true:=by rw[hl,d x hx,b];rfl
    cases f1:bW a_ a g x.1 with
    |none=>rw[nW f1 hx rfl] at q;cases q
    |some r=>
     have:=dh.2 ⟨j,f1⟩
     rw[e] at this;cases this
  ·rw[if_neg e]
   have l:=vc (g:=g) (told:=told) d k (step+1) (a|||cu (aH a_ a g left)) (ae left (cu (aH a_ a g left))) (by have:=pF e;omega) ?_ (ht.trans (Sub.or_l _ _)) ?_
   ·refine cast (congrArg (aL a_ told g) ?_) l
    refine XY λf=>?_
    rw[XZ,XZ,XZ,bS,bS,ZK,ZL];have z:(cu (aH a_ a g left)).testBit f=decide (f∈(aH a_ a g left).map ((·.1)∘λ(x:Nat×Nat)=>(x.1,step,x.2))):=by
     unfold cu;rw[bS];rfl
    rw[z,Bool.or_assoc];congr 1;rw[←Bool.decide_or];simp only[YA]
   ·intro f
    rw[aV,hl,XZ];cases c_.testBit f<;>cases a.testBit f<;>cases(cu (aH a_ a g left)).testBit f<;>rfl
   ·intro s c
    refine(hc s c).or λf hf=>?_
    obtain⟨r,m⟩:=tM.1 hf;obtain⟨x,hx,rfl,hq⟩:=sV (dh.1 m).2;exact c.2 x (YS hx) (ka (hc s c) hq)
theorem di{a_:Zy}{g told c_:Nat}(a:∀x∈a_,c_.testBit x.1=true):aL a_ told g (cP a_ g told c_):=
 vc a _ 1 told _ (YK _) (λf=>aV _ _ _) (Sub.refl _) λs b=>b.1
theorem pG:∀{l m:Zj},l.Pairwise (· < ·)->m.Pairwise (· < ·)->(∀x,x∈l↔x∈m)->l=m
 |[],[],_,_,_=>rfl
 |[],b::m,_,_,h=>absurd ((h b).2 (.head _)) (by simp)
 |a::l,[],_,_,h=>absurd ((h a).1 (.head _)) (by simp)
 |a::l,b::m,hl,hm,h=>by
  rw[List.pairwise_cons] at hl hm;have e:a=b:=by
   rcases ZZ.1 ((h a).1 (.head _)) with e | e
   ·exact e
   ·rcases ZZ.1 ((h b).2 (.head _)) with e' | e'
    ·exact e'.symm
    ·have:=hl.1 b e';have:=hm.1 a e;omega
  subst e;rw[pG hl.2 hm.2 λx=>?_];constructor
  ·intro hx
   rcases ZZ.1 ((h x).1 (.tail _ hx)) with e | e
   ·subst e;exact absurd (hl.1 x hx) (ZS _)
   ·exact e
  ·intro hx
   rcases ZZ.1 ((h x).2 (.tail _ hx)) with e | e
   ·subst e;exact absurd (hm.1 x hx) (ZS _)
   ·exact e
theorem dl:∀{n:Nat}{l:Zj},l.Nodup->(∀x∈l,x<n)->l.length<=n
 |0,[],_,_=>YE _
 |0,a::l,_,h=>absurd (h a (.head _)) (Nat.not_lt_zero _)
 |n+1,l,hd,h=>by
  have c:=dl (n:=n) (l:=l.filter λx=>decide (x≠n)) (List.Pairwise.filter _ hd) (λx hx=>by
   have h2:=ZU.1 hx
   have:=h x h2.1
   have:x≠n:=XM h2.2
   omega)
  have h2:∀{l:Zj},l.Nodup->l.length<=(l.filter λx=>decide (x≠n)).length+1:=by
   intro l hd;induction l with
   |nil=>simp
   |cons a l b=>
    rw[YN] at hd;rw[XS];by_cases e:a=n
    ·subst e
     rw[if_neg (by simp),YH];have:l.filter (λx=>decide (x≠a))=l:=List.filter_eq_self.2 λx hx=>YU λz=>hd.1 (z▸hx)
     rw[this];exact YE _
    ·rw[if_pos (by simpa using e),YH,YH]
     have:=b hd.2
     omega
  have:=h2 hd
  omega
theorem nX{b:Zi}{xs:Zj}(hp:b.Perm (xs.map λ(x:Nat)=>(x:Int)))(d:b.Pairwise (·<=·))(hd:xs.Nodup):∃ns:List Nat,b=ns.map (λ(x:Nat)=>(x:Int))/\ns.Pairwise (· < ·)/\∀r,r∈ns↔r∈xs:=by
 have f:(b.map Int.toNat).map (λ(x:Nat)=>(x:Int))=b:=by
  rw[ZL];refine(ZM λa ha=>?_).trans (List.map_id _);obtain⟨x,_,rfl⟩:=XT.1 (hp.mem_iff.1 ha);simp
 have c:(b.map Int.toNat).Perm xs:=by
  have:=hp.map Int.toNat
  rw[ZL] at this;refine this.trans ?_;rw[show(Int.toNat∘λ(x:Nat)=>(x:Int))=id by funext x;simp,List.map_id]
 refine⟨b.map Int.toNat,f.symm,?_,λr=>c.mem_iff⟩;have nd:(b.map Int.toNat).Nodup:=c.nodup_iff.2 hd;have le:(b.map Int.toNat).Pairwise (·<=·):=List.pairwise_map.2 (d.imp λh=>by omega);exact List.Pairwise.imp (λ⟨g,h2⟩=>Nat.lt_of_le_of_ne g h2) (List.pairwise_and_iff.2 ⟨le,nd⟩)
def mY(c:CA)(S:Addr):az:=λds M Q=>∃(a:Addr) (m:Nat) (a_:Zy) (left:Nat),ds=[.ref a,⇑left]/\bh c S M a m a_/\a_.length<64/\left<2 ^ m /\
 ∀p ns M',M p=none->ad M M'->M' p=some (.lst (nats ns))->ns.Pairwise (· < ·)->(∀r,r∈ns ↔ ∃x,a_[r]?=some x/\left.testBit x.1=true)->Q (.ref p) M'
def fH(c:CA)(S:Addr):az:=λds M Q=>∃(a:Addr) (m:Nat) (a_:Zy) (b:Addr) (d:ZC) (fs:Zj) (left:Nat),ds=[.ref a,.ref b,⇑left]/\bh c S M a m a_/\a_.length<64/\M b=some (.rod d)/\keysOf d=nats fs/\(∀f∈fs,f<m) /\
 ∀p ns M',M p=none->ad M M'->M' p=some (.lst (nats ns))->ns.Pairwise (· < ·)->(∀r,r∈ns ↔ ∃x,a_[r]?=some x/\left.testBit x.1=true/\∃f∈fs,bt (cF x) f=true)->Q (.ref p) M'
def bq(fr:Zp):List (Key×D):=fr.map λ(x:Nat×Nat)=>(.inl (x.1:Int),⇑x.2)
def dL(c:CA)(S:Addr):az:=λds M Q=>∃(a:Addr) (m:Nat) (a_:Zy) (b:Addr) (ns:Zj) (h g:Nat),ds=[.ref a,.ref b,⇑h,⇑g]/\bh c S M a m a_/\M b=some (.lst (nats ns))/\(∀r∈ns,r<a_.length) /\
 ∀p fr M',M p=none->ad M M'->M' p=some (.dic (bq fr))->(fr.map (·.1)).Nodup->(∀f r,(f,r)∈fr↔ns.find? (hits a_ h g f)=some r)->Q (.ref p) M'
def kR:Ss:=#v[.ret (.bk .sorted #v[.var 2])]
def kS:Ss:=#v[.expr (.mt .extend (.var 2) #v[.mu "rows_for" (.var 0) #v[.var 3]])]
def pZ:Ss:=.cons (.for (.nm 3) (.seq (.fn 0 #v[.var 1])) kS) kR
def nY:Ss:=.cons (.set 2 (.lst .nil)) pZ
def ie:Ss:=#v[.ret (.bk .sorted #v[.var 3])]
def ej:Ss:=#v[.ite (.val (.fn 0 #v[.var 2,.mu "head_of" (.var 0) #v[.var 5]])) #v[.putIx (.var 3) (.var 5) (.bl true)] .nil]
def ig:Ss:=#v[.for (.nm 5) (.seq (.mu "rows_helped" (.var 0) #v[.var 4])) ej]
def mr:Ss:=.cons (.for (.nm 4) (.seq (.var 1)) ig) ie
def jM:Ss:=.cons (.set 3 .dnew) mr
def fI:Ss:=#v[.ret (.var 4)]
def kA:Ss:=#v[.ite (.and (.cmp .NotIn (.var 6) (.var 4)) (.val (.fn 0 #v[.mu "conds_of" (.var 0) #v[.var 5],.var 2,.var 3]))) #v[.putIx (.var 4) (.var 6) (.var 5)] .nil]
def dj:Ss:=.cons (.set 6 (.mu "head_of" (.var 0) #v[.var 5])) kA
def kB:Ss:=.cons (.for (.nm 5) (.seq (.var 1)) dj) fI
def ii:Ss:=.cons (.set 4 .dnew) kB
section
variable {m:Nat}{a_:Zy}{r_:Zt}{p1 p2 p3:Addr}
theorem Ar:(fF m a_ r_ p1 p2 p3).lookup ("rows_for" : Str)=none:=rfl
theorem vP:(fF m a_ r_ p1 p2 p3).lookup ("rows_helped" : Str)=none:=rfl
theorem vd:(fF m a_ r_ p1 p2 p3).lookup ("head_of" : Str)=none:=rfl
theorem As:(fF m a_ r_ p1 p2 p3).lookup ("conds_of" : Str)=none:=rfl
theorem sW:(fF m a_ r_ p1 p2 p3).lookup ("how_many" : Str)=none:=rfl
end
theorem EQ(xs:Zj):j7 (nats xs)=some (xs.map λ(x:Nat)=>(x:Int)):=by
 have:nats xs=aZ (xs.map λ(x:Nat)=>(x:Int)):=by unfold nats aZ;rw[ZL];rfl
 rw[this,rc]
theorem G5(xs a:Zj):nats xs++nats a=nats (xs++a):=by unfold nats;rw[ZK]
theorem rg(xs:Zj):(xs.map λ(x:Nat)=>(x:Int)).map D.int=nats xs:=by unfold nats;rw[ZL];rfl
theorem iz{a:Zj}{k f r:Nat}:r∈c3 a k f↔r<k/\a[r]?=some f:=by
 unfold c3;rw[ZU,ZV,XO]
theorem At(a:Zj)(k f:Nat):(c3 a k f).Nodup:=List.Pairwise.filter _ List.nodup_range
theorem pH(c:Zj)(k:Nat):∀{d:Zj},d.Nodup->(d.flatMap (c3 c k)).Nodup
 |[],_=>by simp
 |f::d,h=>by
  rw[YN] at h;rw[List.flatMap_cons,List.nodup_append];refine⟨At c k f,pH c k h.2,λa ha b hb z=>?_⟩;subst z;obtain⟨g,hg,hb⟩:=List.mem_flatMap.1 hb;have j:=(iz.1 ha).2;have h2:=(iz.1 hb).2;rw[j] at h2;cases h2;exact h.1 hg
theorem dM{n m f:Nat}(h:n<2 ^ m)(q:n.testBit f=true):f<m:=by
 have a:=Nat.ge_two_pow_of_testBit q;exact(Nat.pow_lt_pow_iff_right (by decide:1<2)).1 (XE a h)
theorem wK{a_:Zy}{r f:Nat}:(aT a_)[r]?=some f ↔ ∃x,a_[r]?=some x/\x.1=f:=by
 unfold aT;rw[ZG];cases a_[r]? with
 |none=>simp
 |some x=>simp
theorem zn{m:Nat}{a_:Zy}(h:eG m a_){r:Nat}{x:Row}(e:a_[r]?=some x):x.1<m/\x.2.length<=6/\∀t∈x.2,t.fit (m:Int):=h.fit x (YS e)
section
variable {cn:Cn}{c:CA}{S:Addr}{ds:List D}{M:MH}{Q:DK}
theorem Au(G:cn.F.getD 0 (λ_ _ _=>False)=dZ)(I:cn.T S "rows_for" = some (ky c S))(h:mY c S ds M Q):wSs cn nY (fin Q) (ai ["","","",""] ds) M:=by
 obtain⟨a,m,a_,left,rfl,A,hn,hl,q⟩:=h;show wSs cn nY (fin Q) [↑a,~~~left,none,none] M;have hm:=A.ok.most;unfold nY;simp! only[List.set];intro p hp;unfold pZ;simp! only[List.set,G];refine⟨left,rfl,ZR hl (Nat.pow_le_pow_right (by decide) (by omega)),λu M1 w l y=>?_⟩;simp only[y];have B:ad M M1:=(ad.new hp).trans l;have J:M1 p=some (.lst []):=l p _ aa;have C:u≠p:=λz=>by subst z;rw[aa] at w;cases w
 clear l;have n:∀(b d:Zj) (v:Zz) (M2:MH),bd left=d++b->ExtBut p M1 M2->M2 p=some (.lst (nats (d.flatMap (c3 (aT a_) a_.length)))) ->
   aI (λM'=>M' u=some (.lst (nats (bd left)))) (.nm 3) (wSs cn kS) { nx:=wSs cn kR (fin Q),rt:=Q } (nats b) [↑a,~~~left,↑p,v] M2:=by
  intro b;induction b with
  |nil=>
   intro d v M2 hd g k;rw[ZA] at hd;subst hd;have nd:=pH (aT a_) a_.length (pz left);rw[show nats []=[] from rfl,aI];unfold kR;simp! only[pX,lK,k,ck,EQ,se];have K:((bd left).flatMap (c3 (aT a_) a_.length)).length<=a_.length:=dl nd λx hx=>by
    obtain⟨f,_,hx⟩:=List.mem_flatMap.1 hx;exact(iz.1 hx).1
   refine⟨by rw[ZF];omega,λp2 U E o h2=>?_⟩;obtain⟨ns,rfl,L,O⟩:=nX o h2 nd;rw[rg];have j:ad M M2:=g.ext B hp;refine q p2 ns _ (j.free E) (j.then E) aa L λr=>?_
   rw[O,List.mem_flatMap];constructor
   ·rintro⟨f,hf,hr⟩
    obtain⟨x,hx,rfl⟩:=wK.1 (iz.1 hr).2;exact⟨x,hx,(bK _ _).1 hf⟩
   ·rintro⟨x,hx,hb⟩
    exact⟨x.1,(bK _ _).2 hb,iz.2 ⟨(YB.mp hx).1,wK.2 ⟨x,hx,rfl⟩⟩⟩
  |cons f b P=>
   intro d v M2 hd g k;have j:ad M M2:=g.ext B hp;obtain⟨ok,r_,p1,p2,p3,M_,J_,OC,o,-⟩:=A.ext j;have hf:f<m:=dM hl ((bK _ _).1 (by rw[hd];simp));rw[show nats (f::b)=⇑f::nats b from rfl,aI];unfold kS;simp! only[List.set,k,o,Ar,I];refine⟨rfl,trivial,a,m,a_,f,rfl,A.ext j,hf,λV W X t R=>?_⟩;simp only[t p _ k,R,eh,G5];have nd:(d.flatMap (c3 (aT a_) a_.length)).Nodup:=pH _ _ (by have:=pz left;rw[hd,List.nodup_append] at this;exact this.1);have K:(d.flatMap (c3 (aT a_) a_.length)).length<=a_.length:=dl nd λx hx=>by
    obtain⟨f,_,hx⟩:=List.mem_flatMap.1 hx;exact(iz.1 hx).1
   have Y:=zb (aT a_) a_.length f;have hsz:(2000:Nat)<sizeLine:=by decide
   refine⟨by omega,?_,?_⟩
   ·rw[aG C]
    exact t _ _ (g _ _ C y)
   ·refine P (d++[f]) _ _ (by rw[hd];simp) ((g.trans t.but).trans (ExtBut.upd _ _ _)) ?_
    rw[aa,List.flatMap_append,List.flatMap_cons,List.flatMap_nil,ZA]
 exact n (bd left) [] none M1 rfl (ExtBut.refl p M1) J
theorem ER(rs:Zj):intKeys (cO rs)=some (rs.map λ(x:Nat)=>(x:Int)):=by
 induction rs with
 |nil=>rfl
 |cons r rs a=>
  show Option.map _ (intKeys (cO rs))=_;rw[a];rfl
theorem wL{a_:Zy}{r f:Nat}{x:Row}(h:a_[r]?=some x):r∈cf (a_.map cF) a_.length f↔bt (cF x) f=true:=by
 unfold cf;rw[ZU,ZV];have hl:r<a_.length:=(YB.mp h).1;have:(a_.map cF).getD r []=cF x:=by rw[List.getD_eq_getElem?_getD,ZG,h];rfl
 rw[this];exact⟨λh=>h.2,λh=>⟨hl,h⟩⟩
theorem vQ(f0:cn.F.getD 0 (λ_ _ _=>False)=dz)(hT:cn.T S "rows_helped" = some (fG c S))(QA:cn.T S "head_of" = some (jK c S))(h:fH c S ds M Q):wSs cn jM (fin Q) (ai ["","","","","",""] ds) M:=by
 obtain⟨a,m,a_,b,d_,fs,left,rfl,A,hn,hb,hk,hf,q⟩:=h;show wSs cn jM (fin Q) [↑a,↑b,~~~left,none,none,none] M;have hm:=A.ok.most;unfold jM;simp! only[List.set];intro p hp;have J:ad M (ac M p (MO.dic [])):=ad.new hp;have g0:ac M p (MO.dic []) p=some (.dic (cO [])):=aa;generalize ac M p (MO.dic [])=M1 at *;unfold mr;simp! only[List.set,J b _ hb,hk];have Th:b≠p:=cp hb hp;have outer:∀(n o:Zj) (rs:Zj) (v4 j:Zz) (M2:MH),fs=o++n->ExtBut p M1 M2->M2 p=some (.dic (cO rs))->rs.Nodup->(∀r,r∈rs ↔ ∃x,a_[r]?=some x/\left.testBit x.1=true/\∃f∈o,bt (cF x) f=true) ->
   aI (λM'=>M' b=some (.rod d_)) (.nm 4) (wSs cn ig) { nx:=wSs cn ie (fin Q),rt:=Q } (nats n) [↑a,↑b,~~~left,↑p,v4,j] M2:=by
  intro n;induction n with
  |nil=>
   intro o rs v4 j M2 hd K W nd X;rw[ZA] at hd;subst hd;rw[show nats []=[] from rfl,aI];unfold ie;simp! only[pX,lK,W,ck,pT,ER,se];have k_:rs.length<=a_.length:=dl nd λx hx=>by
    obtain⟨y,hy,_⟩:=(X x).1 hx;exact(YB.mp hy).1
   refine⟨by rw[ZF];omega,λp2 ms y' L h2=>?_⟩;obtain⟨ns,rfl,h3,h4⟩:=nX L h2 nd;rw[rg];have O:ad M M2:=K.ext J hp;exact q p2 ns _ (O.free y') (O.then y') aa h3 λr=>(h4 r).trans (X r)
  |cons f n ih=>
   intro o rs v4 j M2 hd K W nd X;have O:ad M M2:=K.ext J hp;have L_:f<m:=hf f (by rw[hd];simp);obtain⟨ok,r_,p1,p2,p3,M_,J_,OC,L,-⟩:=A.ext O;rw[show nats (f::n)=⇑f::nats n from rfl,aI];unfold ig;simp! only[List.set,L,vP,hT];refine⟨trivial,a,m,a_,f,rfl,A.ext O,L_,λp4 Y PB e4 g4=>?_⟩;simp only[g4];have Ti:p4≠p:=λz=>by subst z;rw[W] at PB;cases PB
   have t:∀(E:cv) (l u d:Zj) (j:Zz) (M5:MH),cf (a_.map cF) a_.length f=u++l->ExtBut p Y M5->M5 p=some (.dic (cO d))->d.Nodup ->
     (∀r,r∈d↔(∃x,a_[r]?=some x/\left.testBit x.1=true/\∃f∈o,bt (cF x) f=true)\/(r∈u/\∃x,a_[r]?=some x/\left.testBit x.1=true)) ->
     (∀P w B,ExtBut p Y B->B p=some (.dic (cO P))->P.Nodup->(∀r,r∈P↔(∃x,a_[r]?=some x/\left.testBit x.1=true/\∃f∈o,bt (cF x) f=true)\/(r∈cf (a_.map cF) a_.length f/\∃x,a_[r]?=some x/\left.testBit x.1=true)) ->
      E.nx [↑a,↑b,~~~left,↑p,~~~f,w] B) ->
     aI (λM'=>M' p4=some (.lst (nats (cf (a_.map cF) a_.length f)))) (.nm 5) (wSs cn ej) E (nats l) [↑a,↑b,~~~left,↑p,~~~f,j] M5:=by
    intro E l;induction l with
    |nil=>
     intro u d j M5 R C Z G I k;rw[ZA] at R;rw[←R] at I;rw[show nats []=[] from rfl,aI];exact k d j M5 C Z G I
    |cons r l S_=>
     intro u d j M5 R C Z G I k;have Rz:r<a_.length:=zc (show r∈cf (a_.map cF) a_.length f by rw[R];simp);have hx:a_[r]?=some a_[r]:=ZD Rz;generalize a_[r]=x at hx;have e5:ad M M5:=((K.trans e4.but).trans C).ext J hp;obtain⟨ok,r_,p1,p2,p3,M_,J_,OC,L,-⟩:=A.ext e5;have Y9:cf (a_.map cF) a_.length f=(u++[r])++l:=by rw[R];simp
     have Y_:M5 p4=some (.lst (nats (cf (a_.map cF) a_.length f))):=C _ _ Ti g4;have has:hasB (left:Int) (x.1:Int)=left.testBit x.1:=fD _ _;have U:∀(E:cv),bG (left.testBit x.1) (E.nx [↑a,↑b,~~~left,↑p,~~~f,~~~r] (ac M5 p (.dic (cO (if r∈d then d else d++[r]))))) (E.nx [↑a,↑b,~~~left,↑p,~~~f,~~~r] M5) ->
       wSs cn ej E [↑a,↑b,~~~left,↑p,~~~f,~~~r] M5:=by
      intro E kk;unfold ej;simp! only[List.set,L,vd,QA,f0];refine⟨trivial,a,m,a_,r,x,rfl,A.ext e5,hx,left,x.1,rfl,by omega,?_⟩;rw[has];cases bb:left.testBit x.1 with
      |false=>rw[bb] at kk;exact kk
      |true=>
       rw[bb] at kk;simp only[aJ,Z,zd];have k_:d.length<=a_.length:=dl G λy hy=>by
        rcases(I y).1 hy with⟨z,hz,_⟩ | ⟨_,z,hz,_⟩<;>exact(YB.mp hz).1
       have hsz:(2000:Nat)<sizeLine:=by decide
       exact⟨by unfold cO;rw[ZF];omega,kk⟩
     rw[show nats (r::l)=⇑r::nats l from rfl,aI];refine U _ ?_;cases bb:left.testBit x.1 with
     |false=>
      refine⟨Y_,S_ (u++[r]) d _ M5 Y9 C Z G (λV=>?_) k⟩;rw[I];constructor
      ·rintro(h | ⟨h,h'⟩)
       ·exact .inl h
       ·exact .inr ⟨YA.2 (.inl h),h'⟩
      ·rintro(h | ⟨h,h'⟩)
       ·exact .inl h
       ·rcases YA.1 h with h | h
        ·exact .inr ⟨h,h'⟩
        ·have:V=r:=by simpa using h
         subst this;obtain⟨y,hy,ON⟩:=h';rw[hx] at hy;cases hy;rw[bb] at ON;cases ON
     |true=>
      refine⟨?_,S_ (u++[r]) (if r∈d then d else d++[r]) _ _ Y9 (C.trans (ExtBut.upd _ _ _)) aa ?_ (λV=>?_) k⟩
      ·rw[aG Ti];exact Y_
      ·split
       ·exact G
       ·rename_i ab
        rw[List.nodup_append];refine⟨G,by simp,λy hy z hz w=>?_⟩;have hz:z=r:=by simpa using hz
        subst hz;subst w;exact ab hy
      ·have ap:V∈(if r∈d then d else d++[r])↔V∈d\/V=r:=by
        split
        ·rename_i hi
         exact⟨.inl,λh=>h.elim id λz=>z▸hi⟩
        ·simp
       rw[ap,I];constructor
       ·rintro((h | ⟨h,h'⟩) | h)
        ·exact .inl h
        ·exact .inr ⟨YA.2 (.inl h),h'⟩
        ·subst h
         exact .inr ⟨YA.2 (.inr (.head _)),x,hx,bb⟩
       ·rintro(h | ⟨h,h'⟩)
        ·exact .inl (.inl h)
        ·rcases YA.1 h with h | h
         ·exact .inl (.inr ⟨h,h'⟩)
         ·exact .inr (by simpa using h)
   refine t _ _ [] rs _ Y rfl (ExtBut.refl p Y) (e4 _ _ W) nd (λr=>?_) ?_
   ·rw[X]
    constructor
    ·exact .inl
    ·rintro(h | ⟨h,-⟩)
     ·exact h
     ·cases h
   ·intro P w B b6 g6 aB Wf
    have Y':ExtBut p M1 B:=(K.trans e4.but).trans b6;refine⟨(Y'.ext J hp) _ _ hb,ih (o++[f]) P _ _ B (by rw[hd];simp) Y' g6 aB λr=>?_⟩;rw[Wf];constructor
    ·rintro(⟨x,hx,RH,g,hg,hh⟩ | ⟨h,x,hx,RH⟩)
     ·exact⟨x,hx,RH,g,YA.2 (.inl hg),hh⟩
     ·exact⟨x,hx,RH,f,YA.2 (.inr (.head _)),(wL hx).1 h⟩
    ·rintro⟨x,hx,RH,g,hg,hh⟩
     rcases YA.1 hg with hg | hg
     ·exact .inl ⟨x,hx,RH,g,hg,hh⟩
     ·have:g=f:=by simpa using hg
      subst this;exact .inr ⟨(wL hx).2 hh,x,hx,RH⟩
 exact outer fs [] [] none none M1 rfl (ExtBut.refl p M1) g0 .nil λr=>by simp
theorem ve(fr:Zp):keysOf (bq fr)=nats (fr.map (·.1)):=by unfold keysOf bq nats;rw[ZL,ZL];rfl
theorem Da(fr:Zp):intKeys (bq fr)=some ((fr.map (·.1)).map λ(x:Nat)=>(x:Int)):=by
 induction fr with
 |nil=>rfl
 |cons r rs a=>
  show Option.map _ (intKeys (bq rs))=_;rw[a];rfl
theorem rh(f:Nat):∀{fr:Zp}{r:Nat},(fr.map (·.1)).Nodup->(f,r)∈fr->eU (bq fr) (.inl (f:Int))= ~~~r
 |[],r,_,h=>nomatch h
 |(g,s)::fr,r,nd,h=>by
  rw[YJ,YN] at nd;unfold eU;show Option.map _ (List.find? _ ((.inl (g:Int),⇑s)::bq fr))=_;rw[XC];by_cases e:g=f
  ·subst e
   rcases ZZ.1 h with h | h
   ·cases h;simp
   ·exact absurd (XT.2 ⟨_,h,rfl⟩) nd.1
  ·have h2:¬((g:Int)=(f:Int)):=by omega
   rw[show decide ((Sum.inl (g:Int):Key)=.inl (f:Int))=false by simp[h2]];rcases ZZ.1 h with h | h
   ·cases h;exact absurd rfl e
   ·exact rh f nd.2 h
theorem tN(f:Nat):∀{fr:Zp},(∀r,(f,r)∉fr)->eU (bq fr) (.inl (f:Int))=none/\((bq fr).any λb=>decide (b.1=(.inl (f:Int):Key)))=false
 |[],_=>⟨rfl,rfl⟩
 |(g,s)::fr,h=>by
  have e:g≠f:=λz=>by subst z;exact h s (.head _)
  have h2:¬((g:Int)=(f:Int)):=by omega
  have a:=tN f (fr:=fr) λr d=>h r (.tail _ d)
  constructor
  ·unfold eU
   show Option.map _ (List.find? _ ((.inl (g:Int),⇑s)::bq fr))=_;rw[XC,show decide ((Sum.inl (g:Int):Key)=.inl (f:Int))=false by simp[h2]];exact a.1
  ·show(List.any ((.inl (g:Int),⇑s)::bq fr) _)=false
   rw[XD,a.2,show decide ((Sum.inl (g:Int):Key)=.inl (f:Int))=false by simp[h2]];rfl
theorem ES{f r:Nat}{fr:Zp}(h:∀r,(f,r)∉fr):putD (bq fr) (.inl (f:Int)) (⇑r)=bq (fr++[(f,r)]):=by
 unfold putD;rw[(tN f h).2];unfold bq;rw[ZK];rfl
theorem tO(f0:cn.F.getD 0 (λ_ _ _=>False)=iS c)(hT:cn.T S "head_of" = some (jK c S))(QA:cn.T S "conds_of" = some (kz c S))(h:dL c S ds M Q):wSs cn ii (fin Q) (ai ["","","","","","",""] ds) M:=by
 obtain⟨a,m,a_,b,ns,h,g,rfl,A,hb,QT,q⟩:=h;show wSs cn ii (fin Q) [↑a,↑b,~~~h,~~~g,none,none,none] M;have hm:=A.ok.most;unfold ii;simp! only[List.set];intro p hp;have O:ad M (ac M p (MO.dic [])):=ad.new hp;have g0:ac M p (MO.dic []) p=some (.dic (bq [])):=aa;generalize ac M p (MO.dic [])=M1 at *;unfold kB;simp! only[List.set,O b _ hb];have Th:b≠p:=cp hb hp;have outer:∀(k j:Zj) (fr:Zp) (P n:Zz) (M2:MH),ns=j++k->ExtBut p M1 M2->M2 p=some (.dic (bq fr))->(fr.map (·.1)).Nodup->(∀f r,(f,r)∈fr↔j.find? (hits a_ h g f)=some r) ->
   aI (λM'=>M' b=some (.lst (nats ns))) (.nm 5) (wSs cn dj) { nx:=wSs cn fI (fin Q),rt:=Q } (nats k) [↑a,↑b,~~~h,~~~g,↑p,P,n] M2:=by
  intro k;induction k with
  |nil=>
   intro j fr P n M2 hd o u nd l;rw[ZA] at hd;subst hd;rw[show nats []=[] from rfl,aI];unfold fI;simp! only[];exact q p fr M2 hp (o.ext O hp) u nd l
  |cons r k R=>
   intro j fr P n M2 hd o u nd l;have B:ad M M2:=o.ext O hp;have Rz:r<a_.length:=QT r (by rw[hd];simp);have hx:a_[r]?=some a_[r]:=ZD Rz;generalize a_[r]=x at hx;have U:ns=(j++[r])++k:=by rw[hd];simp
   have Rj:=zn A.ok hx;have L_:∀f∈fr.map (·.1),f<m:=by
    intro f hf;obtain⟨⟨Z,d⟩,V,rfl⟩:=XT.1 hf;obtain⟨y,hy,W,_⟩:=jL.1 (List.find?_some ((l _ _).1 V));rw[←W];exact(zn A.ok hy).1
   have k_:fr.length<=m:=by have:=dl nd L_;rwa [ZF] at this
   have G:∀(E:cv) (n:Zz),((∃d,(x.1,d)∈fr)->E.nx [↑a,↑b,~~~h,~~~g,↑p,~~~r,~~~x.1] M2) ->
     ((∀d,(x.1,d)∉fr)->∀I,ad M2 I->bG (bu h g x) (E.nx [↑a,↑b,~~~h,~~~g,↑p,~~~r,~~~x.1] (ac I p (.dic (bq (fr++[(x.1,r)]))))) (E.nx [↑a,↑b,~~~h,~~~g,↑p,~~~r,~~~x.1] I)) ->
     wSs cn dj E [↑a,↑b,~~~h,~~~g,↑p,~~~r,n] M2:=by
    intro E n k1 k2;obtain⟨ok,r_,p1,p2,p3,M_,J_,OC,h1,-⟩:=A.ext B;unfold dj;simp! only[List.set,h1,vd,hT];refine⟨trivial,a,m,a_,r,x,rfl,A.ext B,hx,?_⟩;unfold kA;simp! only[List.set,h1,As,QA,u,ck,pT,rR,f0];by_cases Tj:∃d,(x.1,d)∈fr
    ·obtain⟨d,K⟩:=Tj
     rw[rh x.1 nd K];exact k1 ⟨d,K⟩
    ·have C:∀d,(x.1,d)∉fr:=λd z=>Tj ⟨d,z⟩
     rw[(tN x.1 C).1];simp only[Option.isSome_none,Bool.not_false,aJ];refine⟨trivial,a,m,a_,r,x,rfl,A.ext B,hx,λp4 rs M4 PB e4 g4 c4=>?_⟩;refine⟨p4,h,g,rs,x.2,rfl,g4,c4,λt ht=>CT.fit_ok (by omega) (Rj.2.2 t ht),λM5 e5=>?_⟩;have L:=k2 C M5 (e4.trans e5);have rm:x.2.all (CT.carried (h:Int) (g:Int))=bu h g x:=rfl;rw[rm];cases bb:bu h g x with
     |false=>rw[bb] at L;exact L
     |true=>
      rw[bb] at L;have hsz:(2000:Nat)<sizeLine:=by decide
      simp only[aJ,(e4.trans e5) p _ u,ES C];exact⟨by unfold bq;rw[ZF];omega,L⟩
   rw[show nats (r::k)=⇑r::nats k from rfl,aI];refine G _ _ ?_ ?_
   ·rintro⟨d,K⟩
    refine⟨B _ _ hb,R (j++[r]) fr _ _ M2 U o u nd λf X=>?_⟩;rw[l,List.find?_append];by_cases hf:x.1=f
    ·subst hf
     rw[(l _ _).1 K];rfl
    ·have:hits a_ h g f r=false:=by unfold hits;rw[hx];simp[hf]
     rw[XC,this,List.find?_nil,Option.or_none]
   ·intro C I J
    have Wg:j.find? (hits a_ h g x.1)=none:=by
     cases e:j.find? (hits a_ h g x.1) with
     |none=>rfl
     |some d=>exact absurd ((l _ _).2 e) (C d)
    cases bb:bu h g x with
    |false=>
     refine⟨(B.trans J) _ _ hb,R (j++[r]) fr _ _ I U (o.trans J.but) (J _ _ u) nd λf X=>?_⟩;rw[l,List.find?_append];have:hits a_ h g f r=false:=by unfold hits;rw[hx];simp[bb]
     rw[XC,this,List.find?_nil,Option.or_none]
    |true=>
     refine⟨?_,R (j++[r]) (fr++[(x.1,r)]) _ _ _ U ((o.trans J.but).trans (ExtBut.upd _ _ _)) aa ?_ λf X=>?_⟩
     ·rw[aG Th];exact(B.trans J) _ _ hb
     ·rw[ZK,List.nodup_append]
      refine⟨nd,by simp,λy hy z hz w=>?_⟩;have hz:z=x.1:=by simpa using hz
      subst hz;subst w;obtain⟨⟨Z,d⟩,V,Y⟩:=XT.1 hy;have Y:Z=x.1:=Y;subst Y;exact C d V
     ·rw[YA,l,List.find?_append]
      by_cases hf:x.1=f
      ·subst hf
       have:hits a_ h g x.1 r=true:=by unfold hits;rw[hx];simp[bb]
       rw[Wg,XC,this];simp only[Option.none_or,ZZ,List.not_mem_nil,or_false,Prod.mk.injEq,true_and,Option.some.injEq];constructor
       ·rintro(h | h)
        ·cases h
        ·exact h.symm
       ·exact λh=>.inr h.symm
      ·have:hits a_ h g f r=false:=by unfold hits;rw[hx];simp[hf]
       rw[XC,this,List.find?_nil,Option.or_none];constructor
       ·rintro(h | h)
        ·exact h
        ·have:f=x.1/\X=r:=by simpa using h
         exact absurd this.1.symm hf
       ·exact .inl
 exact outer ns [] [] none none M1 rfl (ExtBut.refl p M1) g0 .nil λf r=>by simp
end
def jN:Ss:=#v[.ret (.fn 0 #v[.comp 1 (.ix (.var 4) (.int 0)) (.nm 4) (.seq (.fn 1 #v[.var 0,.var 1,.var 2,.var 3])) .no])]
def lb:Ss:=#v[.ret (.var 4)]
def lc:Ss:=#v[.set 8 (.fn 0 #v[.var 0,.fn 1 #v[.var 0,.var 8,.var 5],.var 7,.var 3])]
def ld:Ss:=.cons (.set 6 (.bin .Add (.var 6) (.int 1))) lc
def lf:Ss:=.cons (.set 5 (.bin .BitAnd (.var 5) (.inv (.var 9)))) ld
def lh:Ss:=.cons (.set 7 (.bin .BitOr (.var 7) (.var 9))) lf
def li:Ss:=.cons (.set 9 (.fn 2 #v[.var 8])) lh
def gx:Ss:=.cons (.expr (.mt .extend (.var 4) #v[.comp 1 (.tup #v[.var 10,.var 6,.ix (.var 8) (.var 10)]) (.nm 10) (.seq (.bk .sorted #v[.var 8])) .no])) li
def lj:Ss:=.cons (.while (.cmp .Gt (.bi .len #v[.var 8]) (.int 0)) gx) lb
def lm:Ss:=.cons (.set 8 (.fn 0 #v[.var 0,.fn 3 #v[.var 0,.var 5],.var 7,.var 3])) lj
def lq:Ss:=.cons (.set 7 (.var 2)) lm
def kC:Ss:=.cons (.set 6 (.int 1)) lq
def kE:Ss:=.cons (.set 5 (.bin .BitAnd (.var 1) (.inv (.var 2)))) kC
def iZ:Ss:=.cons (.setC 4 1 (.tup #v[.var 10,.int 0,.non]) (.nm 10) (.seq (.fn 4 #v[.var 2])) .no) kE
def sr(x:Nat×Nat×Nat):D:=.tup [⇑x.1,.int (x.2.1:Int),.int (x.2.2:Int)]
def pI(f:Nat):D:=.tup [⇑f,.int 0,.non]
def jO(a_:Zy)(g told c_:Nat):List D:=(bd told).map pI++(cz a_ g (ae c_ told+1) 1 told (ae c_ told)).map sr
def pJ(c:CA)(S:Addr):az:=λds M Q=>∃(a:Addr) (m:Nat) (a_:Zy) (c_ told g:Nat),ds=[.ref a,⇑c_,⇑told,⇑g]/\bh c S M a m a_/\a_.length<64/\m<64/\c_<2 ^ m/\told<2 ^ m /\
 ∀p M',M p=none->ad M M'->M' p=some (.lst (jO a_ g told c_))->Q (.ref p) M'
def dN(c:CA)(S:Addr):az:=λds M Q=>∃(a:Addr) (m:Nat) (a_:Zy) (c_ told g:Nat),ds=[.ref a,⇑c_,⇑told,⇑g]/\bh c S M a m a_/\a_.length<64/\m<64/\c_<2 ^ m/\told<2 ^ m /\
 ∀M',ad M M'->Q (.int (cP a_ g told c_:Nat)) M'
theorem wM(a_:Zy)(h g left:Nat):aH a_ h g left=((bd left).filter λf=>(bW a_ h g f).isSome).map λf=>(f,(bW a_ h g f).getD 0):=by
 unfold aH;induction bd left with
 |nil=>rfl
 |cons f l a=>
  rw[List.filterMap_cons,XS];cases e:bW a_ h g f with
  |none=>simpa using a
  |some r=>simp[a,e]
theorem Av(n:Nat):(bd n).Pairwise (· < ·):=List.Pairwise.filter _ List.pairwise_lt_range
theorem zo{n m:Nat}(h:n<2 ^ m):(bd n).length<=m:=dl (pz n) λf hf=>dM h ((bK _ _).1 hf)
theorem zq(a_:Zy)(h g left:Nat):(aH a_ h g left).map (·.1)=(bd left).filter λf=>(bW a_ h g f).isSome:=by
 rw[wM,ZL];exact List.map_id _
theorem p9(a_:Zy)(h g left:Nat):((aH a_ h g left).map (·.1)).Pairwise (· < ·):=by
 rw[zq];exact List.Pairwise.filter _ (Av left)
theorem Db{l a:Zj}(h:∀f,f∈l↔f∈a):dJ l=dJ a:=by
 refine XY λf=>?_
 rw[bS,bS];exact decide_eq_decide.2 (h f)
theorem wN{a_:Zy}{g:Nat}:∀(k k' step a left:Nat),left<k->left<k'->cz a_ g k step a left=cz a_ g k' step a left
 |0,_,_,_,_,h,_=>absurd h (Nat.not_lt_zero _)
 |_,0,_,_,_,_,h=>absurd h (Nat.not_lt_zero _)
 |k+1,k'+1,step,a,left,h,h'=>by
  rw[cz,cz];by_cases e:aH a_ a g left=[]
  ·rw[if_pos e,if_pos e]
  ·rw[if_neg e,if_neg e]
   have:=pF e
   rw[wN k k' _ _ _ (by omega) (by omega)]
theorem lE{a_:Zy}{g:Nat}:∀(k step a left:Nat),((cz a_ g k step a left).map (·.1)).Nodup/\∀f∈(cz a_ g k step a left).map (·.1),left.testBit f=true
 |0,_,_,_=>⟨.nil,λf h=>nomatch h⟩
 |k+1,step,a,left=>by
  rw[cz];by_cases e:aH a_ a g left=[]
  ·rw[if_pos e];exact⟨.nil,λf h=>nomatch h⟩
  ·rw[if_neg e]
   obtain⟨b,h2⟩:=lE (a_:=a_) (g:=g) k (step+1) (a|||cu (aH a_ a g left)) (ae left (cu (aH a_ a g left)));have c:((aH a_ a g left).map λx=>(x.1,step,x.2)).map (·.1)=(aH a_ a g left).map (·.1):=by rw[ZL];rfl
   have d:∀f∈(aH a_ a g left).map (·.1),left.testBit f=true:=by
    intro f hf;obtain⟨⟨l,r⟩,hx,rfl⟩:=XT.1 hf;exact(dh.1 hx).1
   rw[ZK,c];refine⟨?_,λf hf=>?_⟩
   ·rw[List.nodup_append]
    refine⟨(p9 a_ a g left).imp λh=>ZT h,b,λx hx y hy z=>?_⟩;subst z
    have:=h2 x hy
    rw[aV] at this;have j:(cu (aH a_ a g left)).testBit x=true:=by unfold cu;rw[bS];exact YU hx
    rw[j,Bool.not_true,Bool.and_false] at this;cases this
   ·rcases YA.1 hf with hf | hf
    ·exact d f hf
    ·have:=h2 f hf
     rw[aV,YX] at this;exact this.1
theorem Dc{p:Nat->Bool}{ns:Zj}{n:Nat}(c:ns.Pairwise (· < ·))(hl:∀r∈ns,r<n)(hp:∀r,r<n->p r=true->r∈ns):ns.find? p=(List.range n).find? p:=by
 have d:ns.filter p=(List.range n).filter p:=pG (List.Pairwise.filter _ c) (List.Pairwise.filter _ List.pairwise_lt_range) λx=>by
  rw[ZU,ZU,ZV];exact⟨λ⟨a,b⟩=>⟨hl x a,b⟩,λ⟨a,b⟩=>⟨hp x a b,b⟩⟩
 rw[←List.head?_filter,←List.head?_filter,d]
theorem zr{a_:Zy}{h g left:Nat}{ns:Zj}(c:ns.Pairwise (· < ·))(hl:∀r∈ns,∃x,a_[r]?=some x/\left.testBit x.1=true)(hp:∀f r,left.testBit f=true->hits a_ h g f r=true->r∈ns)(f r:Nat):
  ns.find? (hits a_ h g f)=some r↔left.testBit f=true/\bW a_ h g f=some r:=by
 cases b:left.testBit f with
 |true=>
  unfold bW;rw[Dc c (λr a=>let⟨x,hx,_⟩:=hl r a;(YB.mp hx).1) λr _ q=>hp f r b q];simp
 |false=>
  have:ns.find? (hits a_ h g f)=none:=by
   rw[List.find?_eq_none];intro r a q;obtain⟨x,hx,hb⟩:=hl r a;obtain⟨y,hy,hf,_⟩:=jL.1 q;rw[hx] at hy;cases hy;rw[hf,b] at hb;cases hb
  rw[this];simp
def fS(a_:Zy)(a g left:Nat)(fr:Zp):Prop:=(fr.map (·.1)).Nodup/\∀f r,(f,r)∈fr↔left.testBit f=true/\bW a_ a g f=some r
theorem fS.mem{a_:Zy}{a g left:Nat}{fr:Zp}(h:fS a_ a g left fr)(f:Nat):f∈fr.map (·.1)↔f∈(aH a_ a g left).map (·.1):=by
 rw[XT,XT];constructor
 ·rintro⟨⟨f',r⟩,hx,rfl⟩;exact⟨_,dh.2 ((h.2 _ _).1 hx),rfl⟩
 ·rintro⟨⟨f',r⟩,hx,rfl⟩;exact⟨_,(h.2 _ _).2 (dh.1 hx),rfl⟩
theorem fS.nil{a_:Zy}{a g left:Nat}{fr:Zp}(h:fS a_ a g left fr)(e:fr.length=0):aH a_ a g left=[]:=by
 have e:fr=[]:=List.length_eq_zero_iff.1 e;subst e;cases q:aH a_ a g left with
 |nil=>rfl
 |cons x l=>
  have:=(h.mem x.1).2 (by rw[q];exact .head _)
  cases this
theorem Dd{m:Nat}{a_:Zy}{a g left:Nat}{fr:Zp}{ns:Zj}(ok:eG m a_)(h:fS a_ a g left fr)(n:ns.Pairwise (· < ·))
  (d:∀r,r∈ns ↔ ∃x,a_[r]?=some x/\(ae left (dJ (fr.map (·.1)))).testBit x.1=true/\∃f∈fr.map (·.1),bt (cF x) f=true) (f r:Nat):
  ns.find? (hits a_ (a|||dJ (fr.map (·.1))) g f)=some r↔(ae left (dJ (fr.map (·.1)))).testBit f=true/\bW a_ (a|||dJ (fr.map (·.1))) g f=some r:=by
 refine zr n (λr o=>let⟨x,hx,hb,_⟩:=(d r).1 o;⟨x,hx,hb⟩) ?_ f r;intro f r hf p;obtain⟨x,hx,rfl,hq⟩:=jL.1 p;refine(d r).2 ⟨x,hx,hf,?_⟩;rw[aV,YX,bS] at hf;have u:x.1∉fr.map (·.1):=by simpa using hf.2
 have w:bW a_ a g x.1=none:=by
  cases e:bW a_ a g x.1 with
  |none=>rfl
  |some z=>exact absurd (XT.2 ⟨_,(h.2 _ _).2 ⟨hf.1,e⟩,rfl⟩) u
 obtain⟨j,l,h2,b⟩:=Aq (nW w (YS hx) rfl) hq;obtain⟨t,ht,c⟩:=List.mem_flatMap.1 l;have y:=wG ((zn ok hx).2.2 t ht) _ c;obtain⟨k,rfl⟩:∃k:Nat,j=(k:Int):=⟨j.toNat,by have:=y.1;simp only at this;omega⟩;rw[fD] at h2 b;rw[XZ,h2,Bool.false_or,bS] at b;exact⟨k,XM b,YU l⟩
section
variable {cn:Cn}{c:CA}{S:Addr}{ds:List D}{M:MH}{Q:DK}
theorem ET(f0:cn.F.getD 0 (λ_ _ _=>False)=dL c S)(f1:cn.F.getD 1 (λ_ _ _=>False)=fH c S)(f2:cn.F.getD 2 (λ_ _ _=>False)=jI)
  {E:cv}{a p b:Addr}{m:Nat}{a_:Zy}{c_ told g left step j:Nat}{fr:Zp}{h_:List D}{B:Zz}{M0 M:MH}(A:bh c S M0 a m a_) (hn:a_.length<64) (hm:m<64) (hl:left<2 ^ m) (Y:ad M0 M) (R5:M0 p=none) (C:M0 b=none)
  (hp:M p=some (.lst h_)) (hb:M b=some (.dic (bq fr))) (F:fS a_ j g left fr) (B_:h_.length+64<=2000)
  (k:∀G Z w9 M',ad M0 M'->M0 G=none->M' p=some (.lst (h_++(aH a_ j g left).map λx=>sr (x.1,step,x.2)))->M' G=some (.dic (bq Z)) ->
   fS a_ (j|||cu (aH a_ j g left)) g (ae left (cu (aH a_ j g left))) Z ->
   E.nx [↑a,~~~c_,~~~told,~~~g,↑p,some (.int (ae left (cu (aH a_ j g left)):Nat)),some (.int ((step+1:Nat):Int)),some (.int (j|||cu (aH a_ j g left):Nat)),↑G,w9] M'):
  wSs cn gx E [↑a,~~~c_,~~~told,~~~g,↑p,~~~left,~~~step,~~~j,↑b,B] M:=by
 have Rk:cu (aH a_ j g left)=dJ (fr.map (·.1)):=Db λf=>(F.mem f).symm
 have n:∀f∈fr.map (·.1),f<m:=by
  intro f hf;obtain⟨⟨I,r⟩,hx,rfl⟩:=XT.1 hf;exact dM hl ((F.2 _ _).1 hx).1
 have V5:fr.length<=m:=by have:=dl F.1 n;rwa [ZF] at this
 have hsz:(2000:Nat)<sizeLine:=by decide
 unfold gx;simp! only[List.set,List.cons_append,XB,List.replicate,pX,lK,hp,hb,ck,pT,Da,se];refine⟨rfl,by rw[ZF,ZF];omega,λp2 ms y' h1 h2=>?_⟩;obtain⟨ns,rfl,J,t⟩:=nX h1 h2 F.1;rw[rg];have K:ns=(aH a_ j g left).map (·.1):=pG J (p9 _ _ _ _) λf=>(t f).trans (F.mem f)
 have L:=ad.new (o:=MO.lst (nats ns)) y';have O:ac M p2 (MO.lst (nats ns)) p2=some (.lst (nats ns)):=aa;generalize ac M p2 (MO.lst (nats ns))=P at *;simp only[O];refine fw (f:=λd=>match d with | .int i=>.tup [.int i,⇑step,.int ((bW a_ j g i.toNat).getD 0:Nat)] | _=>.non) (ok:=λσ=>∃v,σ=[↑a,~~~c_,~~~told,~~~g,↑p,~~~left,~~~step,~~~j,↑b,B,v]) [] _ ⟨none,rfl⟩ ?_ ?_
 ·intro d hd σ Pf rest ⟨v,R⟩ kk
  subst R;obtain⟨f,hf,rfl⟩:=XT.1 hd;obtain⟨⟨I,r⟩,hx,rfl⟩:=XT.1 ((t f).1 hf);have R:=rh I F.1 hx;have T:=((F.2 _ _).1 hx).2;rw[a9];simp! only[List.set,L b _ hb,R];refine⟨O,?_⟩
  have:=kk [↑a,~~~c_,~~~told,~~~g,↑p,~~~left,~~~step,~~~j,↑b,B,~~~I] ⟨_,rfl⟩
  dsimp only at this;rw[YV,T] at this;exact this
 intro U PB;have Pu:([]++(nats ns).map λd=>match d with | .int i=>D.tup [.int i,⇑step,.int ((bW a_ j g i.toNat).getD 0:Nat)] | _=>.non)=(aH a_ j g left).map λx=>sr (x.1,step,x.2):=by
  rw[XB,K,wM,ZL,ZL];unfold nats;rw[ZL];rw[show((λ(x:Nat×Nat)=>x.1)∘λf=>(f,(bW a_ j g f).getD 0))=id from rfl,List.map_id];rfl
 rw[Pu];have ab:((aH a_ j g left).map λx=>sr (x.1,step,x.2)).length<=64:=by
  have h5:ns.length=(aH a_ j g left).length:=by rw[K,ZF]
  have h6:ns.length<=m:=dl (J.imp λh=>ZT h) λf hf=>n f ((t f).1 hf)
  rw[ZF];omega
 generalize hnw:((aH a_ j g left).map λx=>sr (x.1,step,x.2))=new at *;have u:=L.trans (ad.new (o:=MO.lst new) PB);have g4:ac P U (MO.lst new) U=some (.lst new):=aa;generalize ac P U (MO.lst new)=l at *;simp only[u p _ hp,g4];refine⟨by omega,?_⟩;have e5:ad M0 (ac l p (.lst (h_++new))):=(Y.trans u).put R5;have g5:ac l p (MO.lst (h_++new)) p=some (.lst (h_++new)):=aa;have Th:b≠p:=λz=>by subst z;rw[hp] at hb;cases hb
 have b5:ac l p (MO.lst (h_++new)) b=some (.dic (bq fr)):=by rw[aG Th];exact u _ _ hb
 generalize ac l p (MO.lst (h_++new))=M5 at *;clear u g4 PB L O y' Pu h1 h2 K J t hb hp Y;clear P l M;unfold li;simp! only[List.set,f2];refine⟨.ref b,fr.map (·.1),ac M5 b (.rod (bq fr)),rfl,.inr ⟨b,rfl,.inr ⟨bq fr,ve fr,.inl ⟨b5,rfl⟩⟩⟩,λf hf=>by have:=n f hf;omega,?_⟩;have w:ad M0 (ac M5 b (.rod (bq fr))):=e5.put C;have b6:ac M5 b (MO.rod (bq fr)) b=some (.rod (bq fr)):=aa;have g6:ac M5 b (MO.rod (bq fr)) p=some (.lst (h_++new)):=by rw[aG Th.symm];exact g5
 generalize ac M5 b (MO.rod (bq fr))=M6 at *;unfold lh;simp! only[List.set,gE];unfold lf;simp! only[nN,List.set,df];unfold ld;simp! only[List.set];unfold lc;simp! only[List.set,f0,f1];refine⟨a,m,a_,b,bq fr,fr.map (·.1),_,rfl,A.ext w,hn,b6,ve fr,n,λp7 V M7 UE y g7 s7 r7=>?_⟩;refine⟨a,m,a_,p7,V,_,g,rfl,A.ext (w.trans y),g7,λr T=>?_,λp8 W M8 X e8 g8 n8 r8=>?_⟩
 ·obtain⟨x,hx,_⟩:=(r7 r).1 T
  exact(YB.mp hx).1
 have:=k p8 W (some (.int (dJ (fr.map (·.1)):Nat))) M8 ((w.trans y).trans e8) ((w.trans y).free X) ((y.trans e8) _ _ g6) g8
 rw[Rk] at this;exact this ⟨n8,λf r=>(r8 f r).trans (Dd A.ok F s7 r7 f r)⟩
end
theorem Aw{m:Nat}{a_:Zy}{g told c_:Nat}(c:told<2 ^ m)(h2:c_<2 ^ m):(jO a_ g told c_).length<=2*m:=by
 unfold jO;rw[ZJ,ZF,ZF];have a:=zo c;obtain⟨nd,hf⟩:=lE (a_:=a_) (g:=g) (ae c_ told+1) 1 told (ae c_ told);have b:=dl (n:=m) nd λf q=>dM h2 (by have:=hf f q;rw[aV,YX] at this;exact this.1)
 rw[ZF] at b;omega
section
variable {cn:Cn}{c:CA}{S:Addr}{ds:List D}{M:MH}{Q:DK}
theorem EU (I:cn.F.getD 0 (λ_ _ _=>False) = dL c S) (X:cn.F.getD 1 (λ_ _ _=>False) = fH c S) (Y:cn.F.getD 2 (λ_ _ _=>False) = jI) (Z:cn.F.getD 3 (λ_ _ _=>False) = mY c S) (f4:cn.F.getD 4 (λ_ _ _=>False) = dZ)
  (h:pJ c S ds M Q):wSs cn iZ (fin Q) (ai ["","","","","","","","","",""] ds) M:=by
 obtain ⟨a,m,a_,c_,told,g,rfl,A,hn,hm,hh,ht,q⟩:=h
 show wSs cn iZ (fin Q) [↑a,~~~c_,~~~told,~~~g,none,none,none,none,none,none] M
 have ab:=Aw (a_:=a_) (g:=g) ht hh
 unfold iZ
 simp! only [List.cons_append,XB,List.replicate,f4]
 refine ⟨told,rfl,ZR ht (Nat.pow_le_pow_right (by decide) (by omega)),λp0 M1 R5 t u=>?_⟩
 simp only [u]
 refine fw (f:=λd=>.tup [d,.int 0,.non]) (ok:=λσ=>∃ v,σ = [↑a,~~~c_,~~~told,~~~g,none,none,none,none,none,none,v]) [] _ ⟨none,rfl⟩ ?_ ?_
 ·intro d hd σ Pf rest ⟨v,hv⟩ kk
  subst hv
  exact ⟨u,kk _ ⟨_,rfl⟩⟩
 intro p hp
 have Pu:([] ++ (nats (bd told)).map λd=>D.tup [d,.int 0,.non]) = (bd told).map pI:=by
  rw [XB]; unfold nats; rw [ZL]; rfl
 rw [Pu]
 have l:ad M (ac M1 p (.lst ((bd told).map pI))):=t.then hp
 have g2:ac M1 p (MO.lst ((bd told).map pI)) p = some (.lst ((bd told).map pI)):=aa
 have J:M p = none:=t.free hp
 generalize ac M1 p (MO.lst ((bd told).map pI)) = M2 at *
 clear hp t u R5
 clear M1
 unfold kE
 simp! only [nN,List.set,df]
 unfold kC
 simp! only [List.set]
 unfold lq
 simp! only [List.set]
 unfold lm
 simp! only [List.set,I,Z]
 have hl:ae c_ told < 2 ^ m:=by have:=eg c_ told; omega
 refine ⟨a,m,a_,ae c_ told,rfl,A.ext l,hn,hl,λp3 ns M3 Qc n g3 s3 y=>?_⟩
 refine ⟨a,m,a_,p3,ns,told,g,rfl,A.ext (l.trans n),g3,λr B=>?_,λb fr L hb O g4 n4 r4=>?_⟩
 ·obtain ⟨x,hx,_⟩:=(y r).1 B
  exact (YB.mp hx).1
 have F4:fS a_ told g (ae c_ told) fr:=⟨n4,λf r=>(r4 f r).trans (zr s3 (λr B=>(y r).1 B) (λf r h1 h2=>by
  obtain ⟨x,hx,rfl,_⟩:=jL.1 h2
  exact (y r).2 ⟨x,hx,h1⟩) f r)⟩
 have C:M b = none:=(l.trans n).free hb
 have e5:ad M L:=(l.trans n).trans O
 have g5:L p = some (.lst ((bd told).map pI)):=(n.trans O) _ _ g2
 unfold lj
 show ku _ _ _ _ _
 refine ⟨λk σ M'=>∃ (left step j:Nat) (b:Addr) (fr:List (Nat × Nat)) (E:Zz) (h_:List D),left = k/\σ = [↑a,~~~c_,~~~told,~~~g,↑p,~~~left,~~~step,~~~j,↑b,E] /\
  ad M M'/\M b = none/\M' p = some (.lst h_)/\M' b = some (.dic (bq fr))/\fS a_ j g left fr/\left < 2 ^ m/\h_ ++ (cz a_ g (left + 1) step j left).map sr = jO a_ g told c_,?_,?_⟩
 ·exact ⟨_,ae c_ told,1,told,b,fr,none,_,rfl,rfl,e5,C,g5,g4,F4,hl,rfl⟩
 rintro k σ M' ⟨left,step,j,b,fr,E,h_,rfl,rfl,P,Wh,R,T,G,ZO,o⟩
 have Tl:=congrArg List.length o
 rw [ZJ] at Tl
 have Ys:∀ K:Bool->MH->Prop,K (decide (0 < (fr.length:Int))) M'->wT cn (.cmp .Gt (.bi .len (.cons (.var 8) .nil)) (.int 0)) [↑a,~~~c_,~~~told,~~~g,↑p,~~~left,~~~step,~~~j,↑b,E] M' K:=by
  intro K hK
  simp! only [List.set,T]
  rw [show (bq fr).length = fr.length by unfold bq; rw [ZF]]
  exact hK
 refine Ys _ ?_
 by_cases hz:fr.length = 0
 ·rw [ZP (by omega)]
  have Pk:=G.nil hz
  rw [cz,if_pos Pk,List.map_nil,ZA] at o
  rw [ax]
  dsimp only
  unfold lb
  simp! only [List.set]
  refine q p M' J P ?_
  rw [R,o]
 ·rw [YU (by omega)]
  have U:aH a_ j g left ≠ []:=λz=>by
   have hx:fr ≠ []:=λw=>hz (by rw [w]; rfl)
   obtain ⟨x,hx⟩:=List.exists_mem_of_ne_nil _ hx
   have:=(G.mem x.1).1 (XT.2 ⟨x,hx,rfl⟩)
   rw [z] at this; cases this
  have V:=pF U
  rw [aJ]
  refine ⟨λi_ W=>∃ k',k' < left/\_,λi_ W h=>h,?_⟩
  refine ET I X Y A hn hm ZO P J Wh R T G (by omega) ?_
  intro b' UD w9 W e7 Wi g7 d7 F7
  refine ⟨_,V,_,step + 1,_,b',UD,w9,_,rfl,rfl,e7,Wi,g7,d7,F7,by omega,?_⟩
  have r1:cz a_ g (left + 1) step j left = (aH a_ j g left).map (λx=>(x.1,step,x.2)) ++ cz a_ g left (step + 1) (j ||| cu (aH a_ j g left)) (ae left (cu (aH a_ j g left))):=by rw [cz,if_neg U]
  rw [← o,r1,ZK,ZL,ZB,wN (ae left (cu (aH a_ j g left)) + 1) left _ _ _ (by omega) V]
  rfl
theorem vR(k:cn.F.getD 0 (λ_ _ _=>False)=jI)(l:cn.F.getD 1 (λ_ _ _=>False)=pJ c S)(h:dN c S ds M Q):wSs cn jN (fin Q) (ai ["","","",""] ds) M:=by
 obtain⟨a,m,a_,c_,told,g,rfl,A,hn,hm,b,ht,q⟩:=h;show wSs cn jN (fin Q) [↑a,~~~c_,~~~told,~~~g] M;unfold jN;simp! only[List.cons_append,XB,List.replicate,k,l];refine⟨a,m,a_,c_,told,g,rfl,A,hn,hm,b,ht,λp M1 hp n j=>?_⟩;simp only[j];have o:∀d∈jO a_ g told c_,∃(f:Nat) (r:List D),d=.tup (⇑f::r):=by
  intro d hd;rcases YA.1 hd with hd | hd
  ·obtain⟨f,_,rfl⟩:=XT.1 hd
   exact⟨f,_,rfl⟩
  ·obtain⟨x,_,rfl⟩:=XT.1 hd
   exact⟨x.1,_,rfl⟩
 refine fw (f:=λd=>match d with | .tup (h::_)=>h | _=>.non) (ok:=λσ=>∃v,σ=[↑a,~~~c_,~~~told,~~~g,v]) [] _ ⟨none,rfl⟩ ?_ ?_
 ·intro d hd σ z rest ⟨v,t⟩ u
  subst t;obtain⟨f,r,rfl⟩:=o d hd;rw[a9];simp! only[List.set,bz];exact⟨j,u _ ⟨_,rfl⟩⟩
 intro p2 w;have y:([]++(jO a_ g told c_).map λd=>match d with | .tup (h::_)=>h | _=>.non)=nats (bd told++(cz a_ g (ae c_ told+1) 1 told (ae c_ told)).map (·.1)):=by
  rw[XB];unfold jO nats;rw[ZK,ZK,ZL,ZL,ZL];rfl
 rw[y];refine⟨.ref p2,_,_,rfl,.inr ⟨p2,rfl,.inl ⟨aa,rfl⟩⟩,?_,?_⟩
 ·intro f hf
  rcases YA.1 hf with hf | hf
  ·have:=dM ht ((bK _ _).1 hf);omega
  ·have:=(lE _ _ _ _).2 f hf
   rw[aV,YX] at this
   have:=dM b this.1
   omega
 ·have:dJ (bd told++(cz a_ g (ae c_ told+1) 1 told (ae c_ told)).map (·.1))=cP a_ g told c_:=by
   refine XY λf=>?_
   unfold cP;rw[XZ,bS,bS];cases e:told.testBit f with
   |true=>rw[Bool.true_or];exact YU (YA.2 (.inl ((bK _ _).2 e)))
   |false=>
    rw[Bool.false_or];refine decide_eq_decide.2 ⟨λh=>?_,λh=>YA.2 (.inr h)⟩;rcases YA.1 h with h | h
    ·rw[(bK _ _).1 h] at e;cases e
    ·exact h
  rw[this];exact q _ (n.then w)
end
def cellAt(ns:Zi)(k:Nat):Int:=(ns[k]?).getD 0
def dm:az:=λds M Q=>∃(a:Addr) (ns:Zi) (k:Nat),ds=[.ref a,⇑k]/\M a=some (.rol (ns.map .int))/\Q (.int (cellAt ns k)) M
def cZ:az:=λds M Q=>∃(p:Addr) (b k:Int) (m:Nat),ds=[.ref p,⇑m]/\M p=some (.lst [.int b,.int k])/\(0<m/\m<1000)/\∀(v:Nat) (a:Int),v<m->Q (⇑v) (ac M p (.lst [.int a,.int k]))
structure c8 (p:Addr) (k:Int) (M M':MH) (b:Int):Prop where
 but:ExtBut p M M'
 at_:M' p=some (.lst [.int b,.int k])
theorem ExtBut.put{p r:Addr}{o:MO}{M M':MH}(h:ExtBut p M M')(b:M r=none):ExtBut p M (ac M' r o):=λa u n q=>by
 have:a≠r:=λz=>by subst z;rw[b] at q;cases q
 rw[aG this];exact h a u n q
theorem c8.draw{p:Addr}{k b:Int}{M M':MH}(h:c8 p k M M' b)(a:Int):c8 p k M (ac M' p (.lst [.int a,.int k])) a:=⟨h.but.trans (ExtBut.upd _ _ _),aa⟩
theorem c8.ext{p:Addr}{k b:Int}{M M' a:MH}(h:c8 p k M M' b)(e:ad M' a):c8 p k M a b:=⟨h.but.trans e.but,e _ _ h.at_⟩
theorem c8.put{p r:Addr}{k b:Int}{o:MO}{M M':MH}(h:c8 p k M M' b)(a:M r=none)(hp:M p≠none):c8 p k M (ac M' r o) b:=⟨h.but.put a,by
 have:p≠r:=λz=>by subst z;exact hp a
 rw[aG this];exact h.at_⟩
def mw:Ss:=#v[.ret (.int 0)]
def jP:Ss:=.cons (.ite (.cmp .Lt (.var 1) (.bi .len #v[.var 0])) #v[.ret (.ix (.var 0) (.var 1))] .nil) mw
def qa:Ss:=#v[.ret (.bin .Mod (.bin .Mod (.bin .Mult (.var 3) (.var 3)) (.int 2147483587)) (.var 1))]
def qb:Ss:=.cons (.set 3 (.bin .Mod (.bin .Add (.bin .Mult (.ix (.var 0) (.int 0)) (.ix (.var 0) (.int 0))) (.int 12345)) (.int 2147483629))) qa
def qc:Ss:=.cons (.putIx (.var 0) (.int 0) (.bin .Mod (.bin .Add (.bin .Mult (.ix (.var 0) (.int 0)) (.int 48271)) (.int 7919)) (.int 2147483647))) qb
def qe:Ss:=#v[.ret (.var 2)]
def qf:Ss:=.cons (.putIx (.var 0) (.int 0) (.bin .FloorDiv (.ix (.var 0) (.int 0)) (.var 1))) qe
def nZ:Ss:=.cons (.ite (.cmp .Eq (.bin .Mod (.ix (.var 0) (.int 1)) (.int 2)) (.int 1)) (.cons (.set 2 (.bin .Mod (.ix (.var 0) (.int 0)) (.var 1))) qf) .nil) qc
theorem zt{y m:Int}(h:0<m):0<=y%m/\y%m<m:=⟨Int.emod_nonneg _ (by omega),Int.emod_lt_of_pos _ h⟩
theorem tP(x y:D):cX [x,y] 0=some x:=bz x [y]
theorem tQ(x y:D):cX [x,y] 1=some y:=bF x y []
theorem HL(x y:D):om ([x,y]:List D).length 0=some 0:=rfl
section
variable {cn:Cn}{ds:List D}{M:MH}{Q:DK}
theorem De(h:dm ds M Q):wSs cn jP (fin Q) (ai ["",""] ds) M:=by
 obtain⟨a,ns,k,rfl,b,q⟩:=h;show wSs cn jP (fin Q) [↑a,~~~k] M;unfold jP;simp! only[b,ZF];unfold cellAt at q;refine AV (λc=>?_) (λc=>?_)
 ·have hk:k<ns.length:=by omega
  rw[c9 (by rw[ZG,ZD hk];rfl)];rw[ZD hk] at q;exact q
 ·have hk:ns.length<=k:=by omega
  rw[List.getElem?_eq_none hk] at q;unfold mw;simp! only[];exact q
theorem JB(h:cZ ds M Q):wSs cn nZ (fin Q) (ai ["","","",""] ds) M:=by
 obtain⟨p,b,k,m,rfl,a,hm,q⟩:=h;show wSs cn nZ (fin Q) [↑p,~~~m,none,none] M;have done:∀(z c:Int),Q (.int (z%(m:Int))) (ac M p (.lst [.int c,.int k])):=by
  intro z c;have d:=zt (y:=z) (m:=(m:Int)) (by omega)
  have:=q (z%(m:Int)).toNat c (by omega)
  rwa [Int.toNat_of_nonneg d.1] at this
 unfold nZ;simp_all! only[List.set,a,tP,tQ];refine⟨by decide,?_⟩;refine Fy (λ_=>?_) (λ_=>?_)
 ·refine⟨by omega,?_⟩
  unfold qf;simp! only[List.set,a,tP,tQ,HL];refine⟨⟨by omega,by omega⟩,?_⟩;unfold qe;simp! only[List.set];exact done _ _
 ·unfold qc
  simp! only[List.set,a,tP,tQ,HL];refine⟨.inr ⟨by decide,by decide⟩,by decide,?_⟩;have f:=zt (y:=b*48271+7919) (m:=2147483647) (by decide);generalize (b*48271+7919)%2147483647=y at *;unfold qb;simp! only[List.set,aa,tP,tQ];refine⟨.inl ⟨by omega,by omega⟩,by decide,?_⟩;have g:=zt (y:=y*y+12345) (m:=2147483629) (by decide);generalize (y*y+12345)%2147483629=z at *;unfold qa;simp! only[List.set];exact⟨.inl ⟨by omega,by omega⟩,by decide,by omega,done _ _⟩
end
def qg:Ss:=#v[.ret (.tup #v[.str "lead",.bi .tuple #v[.var 4],.fn 0 #v[.var 0,.bi .len #v[.var 4]]])]
def gM:Ss:=.cons (.ite (.cmp .Eq (.var 2) (.int 4)) #v[.ret (.tup #v[.str "some",.bin .Add (.int 1) (.fn 0 #v[.var 0,.bi .min #v[.int 6,.bin .Add (.bi .len #v[.var 4]) (.int 1)]]),.bi .tuple #v[.var 4]])] .nil) qg
def gN:Ss:=#v[.expr (.mt .append (.var 4) #v[.mt .pop (.var 3) #v[.fn 0 #v[.var 0,.bi .len #v[.var 3]]]])]
def qh:Ss:=.cons (.for (.nm 5) (.rg1 #v[.bin .Add (.int 1) (.fn 0 #v[.var 0,.bi .min #v[.var 1,.int 6]])]) gN) gM
def qi:Ss:=.cons (.set 4 (.lst .nil)) qh
def qj:Ss:=.cons (.set 3 (.lrg #v[.var 1])) qi
def qk:Ss:=.cons (.ite (.cmp .Lt (.var 2) (.int 4)) #v[.ret (.tup #v[.ix (.lst #v[.str "have",.str "lack"]) (.bin .Mod (.var 2) (.int 2)),.fn 0 #v[.var 0,.var 1]])] .nil) qj
def n0:Ss:=.cons (.set 2 (.fn 0 #v[.var 0,.int 6])) qk
def kF:az:=λds M Q=>∃(p:Addr) (b k:Int) (m:Nat),ds=[.ref p,⇑m]/\M p=some (.lst [.int b,.int k])/\(0<m/\m<64)/\∀(t:CT) M' a,t.fit (m:Int)->c8 p k M M' a->Q t.told M'
theorem dq(m:Nat):bP 0 (m:Int)=nats (List.range m):=by
 unfold bP nats;rw[show((m:Int)-0).toNat=m by omega];refine ZM λi _=>?_
 rw[Int.zero_add]
theorem iA(fs:Zj):nats fs=aZ (fs.map λ(f:Nat)=>(f:Int)):=by unfold nats aZ;rw[ZL];rfl
theorem Df(b:Zj)(i:Nat):(nats b).eraseIdx i=nats (b.eraseIdx i):=by
 unfold nats;induction b generalizing i with
 |nil=>rfl
 |cons a r c=>
  cases i with
  |zero=>rfl
  |succ i=>rw[YJ,List.eraseIdx_cons_succ,List.eraseIdx_cons_succ,YJ,c]
theorem vf{b:Type}:∀{l:List b}{i:Nat}{x:b},l[i]?=some x->(x::l.eraseIdx i).Perm l
 |[],_,_,h=>by simp at h
 |a::l,0,x,h=>by
  rw[List.getElem?_cons_zero] at h;cases h;exact List.Perm.refl _
 |a::l,i+1,x,h=>by
  rw[List.getElem?_cons_succ] at h;rw[List.eraseIdx_cons_succ];exact(List.Perm.swap _ _ _).trans ((vf h).cons a)
theorem Ax{fs:Zj}(h:fs.Nodup):(fs.map λ(f:Nat)=>(f:Int)).Nodup:=by
 unfold List.Nodup;rw[List.pairwise_map];exact List.Pairwise.imp (λh z=>h (by omega)) h
structure Drawn (m:Nat) (rs fs:Zj):Prop where
 nd:(fs++rs).Nodup
 lt:∀f∈fs++rs,f<m
 len:fs.length+rs.length=m
theorem Drawn.pop{m:Nat}{rs fs:Zj}{i x:Nat}(h:Drawn m rs fs)(hx:rs[i]?=some x):Drawn m (rs.eraseIdx i) (fs++[x]):=by
 have hp:(fs++[x]++rs.eraseIdx i).Perm (fs++rs):=by
  rw[ZB];exact List.Perm.append_left _ (vf hx)
 have hl:=hp.length_eq;refine⟨hp.nodup_iff.2 h.nd,λf hf=>h.lt f (hp.mem_iff.1 hf),?_⟩
 have:=h.len
 simp only[ZJ] at hl ⊢;omega
section
variable {cn:Cn}{ds:List D}{M:MH}{Q:DK}
theorem Ay(G:cn.F.getD 0 (λ_ _ _=>False)=cZ)(h:kF ds M Q):wSs cn n0 (fin Q) (ai ["","","","","",""] ds) M:=by
 obtain⟨p,b,k,m,rfl,hM,hm,q⟩:=h;show wSs cn n0 (fin Q) [↑p,~~~m,none,none,none,none] M;have U:M p≠none:=by rw[hM];simp
 unfold n0;simp! only[List.set,G];refine⟨p,b,k,6,rfl,hM,⟨by decide,by decide⟩,λv A hv=>?_⟩;have K:c8 p k M (ac M p (.lst [.int A,.int k])) A:=⟨ExtBut.upd _ _ _,aa⟩;generalize ac M p (MO.lst [.int A,.int k])=M1 at *;unfold qk;simp! only[List.set];refine AV (λI_=>?_) (λI_=>?_)
 ·intro p2 y'
  have B:c8 p k M (ac M1 p2 (.lst [.str "have",.str "lack"])) A:=K.ext (ad.new y');have I:ac M1 p2 (MO.lst [.str "have",.str "lack"]) p2=some (.lst [.str "have",.str "lack"]):=aa;generalize ac M1 p2 (MO.lst [.str "have",.str "lack"])=M2 at *;simp only[I];refine⟨by decide,?_⟩;have h2:(v:Int)%2=0\/(v:Int)%2=1:=by omega
  rcases h2 with h2 | h2
  ·rw[h2,tP]
   simp only[G];refine⟨p,A,k,m,rfl,B.at_,⟨hm.1,by omega⟩,λw L hw=>?_⟩;exact q (.hav (w:Int)) _ L ⟨by omega,by omega⟩ (B.draw L)
  ·rw[h2,tQ]
   simp only[G];refine⟨p,A,k,m,rfl,B.at_,⟨hm.1,by omega⟩,λw L hw=>?_⟩;exact q (.lck (w:Int)) _ L ⟨by omega,by omega⟩ (B.draw L)
 ·unfold qj
  simp! only[List.set];refine⟨⟨by omega,by omega⟩,λa J=>?_⟩;rw[dq];have Tn:M a=none:=by
   cases e:M a with
   |none=>rfl
   |some o=>
    by_cases z:a=p
    ·subst z;rw[K.at_] at J;cases J
    ·rw[K.but _ _ z e] at J;cases J
  have B:c8 p k M (ac M1 a (.lst (nats (List.range m)))) A:=K.ext (ad.new J);have I:ac M1 a (MO.lst (nats (List.range m))) a=some (.lst (nats (List.range m))):=aa;generalize ac M1 a (MO.lst (nats (List.range m)))=M2 at *;unfold qi;simp! only[List.set];intro c C;have Tp:M c=none:=by
   cases e:M c with
   |none=>rfl
   |some o=>
    by_cases z:c=p
    ·subst z;rw[B.at_] at C;cases C
    ·rw[B.but _ _ z e] at C;cases C
  have X:c8 p k M (ac M2 c (.lst [])) A:=B.ext (ad.new C);have g3:ac M2 c (MO.lst []) c=some (.lst (nats [])):=aa;have r3:ac M2 c (MO.lst []) a=some (.lst (nats (List.range m))):=(ad.new C) _ _ I;have F_:c≠a:=λz=>by subst z;rw[C] at I;cases I
  have Uy:p≠a:=λz=>by subst z;exact U Tn
  have Y:p≠c:=λz=>by subst z;exact U Tp
  generalize ac M2 c (MO.lst [])=V at *;clear K B I J C;clear M1 M2;have D3:Drawn m (List.range m) []:=⟨List.nodup_range,λf hf=>by simpa using hf,by simp⟩;unfold qh;simp! only[List.set,G];refine⟨p,A,k,min m 6,?_,X.at_,⟨by omega,by omega⟩,λw O hw=>?_⟩
  ·congr 3
   split<;>omega
  have B4:=X.draw O;have g4:ac V p (MO.lst [.int O,.int k]) c=some (.lst (nats [])):=by rw[aG Y.symm];exact g3
  have r4:ac V p (MO.lst [.int O,.int k]) a=some (.lst (nats (List.range m))):=by rw[aG Uy.symm];exact r3
  generalize ac V p (MO.lst [.int O,.int k])=M4 at *;clear X g3 r3;clear V;refine⟨⟨by omega,by omega⟩,?_⟩;rw[show(1:Int)+(w:Int)=((w+1:Nat):Int) by omega,dq];have aB:w+1<=m/\w+1<=6:=by omega
  have last:∀(fs rs:Zj) (l:Zz) (j:Int) (M5:MH),fs.length=w+1->Drawn m rs fs->c8 p k M M5 j->M5 c=some (.lst (nats fs))->wSs cn gM (fin Q) [↑p,~~~m,~~~v,↑a,↑c,l] M5:=by
   intro fs rs l j M5 V5 u r y;have fit:∀f∈fs.map (λ(f:Nat)=>(f:Int)),0<=f/\f<(m:Int):=by
    intro f hf;obtain⟨g,hg,rfl⟩:=XT.1 hf
    have:=u.lt g (YA.2 (.inl hg))
    omega
   have nd:(fs.map λ(f:Nat)=>(f:Int)).Nodup:=Ax (List.nodup_append.1 u.nd).1;have ln:(fs.map λ(f:Nat)=>(f:Int)).length=fs.length:=ZF _;unfold gM;simp! only[List.set,G,y,eh];refine⟨⟨rfl,rfl,(by decide:(0:Nat)<=30)⟩,?_⟩;refine Fy (λ_=>?_) (λ_=>?_)
   ·refine⟨p,j,k,min 6 (fs.length+1),?_,r.at_,⟨by omega,by omega⟩,λn d hn=>?_⟩
    ·congr 3
     split<;>omega
    have P:ac M5 p (MO.lst [.int d,.int k]) c=some (.lst (nats fs)):=by rw[aG Y.symm];exact y
    simp only[P,ck,iA];refine q (.som (1+(n:Int)) _) _ d ⟨⟨by omega,by omega⟩,⟨by omega,by omega⟩,nd,fit⟩ (r.draw d)
   ·unfold qg
    simp! only[List.set,G,y,ck,eh];refine⟨p,j,k,fs.length,rfl,r.at_,⟨by omega,by omega⟩,λn d hn=>?_⟩;rw[iA];exact q (.led _ n) _ d ⟨⟨by omega,by omega⟩,nd,fit⟩ (r.draw d)
  have R:∀(E:cv) (fs rs:Zj) (l:Zz) (j:Int) (M5:MH),Drawn m rs fs->0<rs.length->c8 p k M M5 j->M5 c=some (.lst (nats fs))->M5 a=some (.lst (nats rs)) ->
    (∀S W d t,Drawn m W S->S.length=fs.length+1->c8 p k M t d->t c=some (.lst (nats S))->t a=some (.lst (nats W))->E.nx [↑p,~~~m,~~~v,↑a,↑c,l] t) ->
    wSs cn gN E [↑p,~~~m,~~~v,↑a,↑c,l] M5:=by
   intro E fs rs l j M5 u S4 r y T kk;have QY:=u.len;unfold gN;simp! only[List.set,G,y,T,eh];refine⟨rfl,rfl,p,j,k,rs.length,rfl,r.at_,⟨S4,by omega⟩,λi d hi=>?_⟩;have Z:=r.draw d;have P:ac M5 p (MO.lst [.int d,.int k]) c=some (.lst (nats fs)):=by rw[aG Y.symm];exact y
   have r6:ac M5 p (MO.lst [.int d,.int k]) a=some (.lst (nats rs)):=by rw[aG Uy.symm];exact T
   generalize ac M5 p (MO.lst [.int d,.int k])=t at *;have hx:rs[i]?=some rs[i]:=ZD hi;generalize rs[i]=x at hx;have ab:(nats rs)[(i:Int).toNat]?= ~~~x:=by unfold nats;rw[YV,ZG,hx];rfl
   simp only[r6,ab];refine⟨⟨by omega,by omega⟩,?_⟩;rw[YV,Df];have B7:c8 p k M (ac t a (.lst (nats (rs.eraseIdx i)))) d:=Z.put Tn U;have g7:ac t a (MO.lst (nats (rs.eraseIdx i))) c=some (.lst (nats fs)):=by rw[aG F_];exact P
   have r7:ac t a (MO.lst (nats (rs.eraseIdx i))) a=some (.lst (nats (rs.eraseIdx i))):=aa;generalize ac t a (MO.lst (nats (rs.eraseIdx i)))=M7 at *;simp only[g7,eh];have hsz:(2000:Nat)<sizeLine:=by decide
   refine⟨by omega,?_⟩;rw[show nats fs++[D.int (x:Int)]=nats (fs++[x]) by unfold nats;rw[ZK];rfl];exact kk (fs++[x]) (rs.eraseIdx i) d _ (u.pop hx) (by rw[ZJ];rfl) (B7.put Tp U) aa (by rw[aG F_.symm];exact r7)
  have ap:∀(xs:Zj) (fs rs:Zj) (l:Zz) (j:Int) (M5:MH),fs.length+xs.length=w+1->Drawn m rs fs->c8 p k M M5 j->M5 c=some (.lst (nats fs))->M5 a=some (.lst (nats rs)) ->
    aI (λ_=>True) (.nm 5) (wSs cn gN) { nx:=wSs cn gM (fin Q),rt:=Q } (nats xs) [↑p,~~~m,~~~v,↑a,↑c,l] M5:=by
   intro xs;induction xs with
   |nil=>
    intro fs rs l j M5 hl u r y T;rw[show nats []=[] from rfl,aI];exact last fs rs l j M5 (by simpa using hl) u r y
   |cons x xs ih=>
    intro fs rs l j M5 hl u r y T;rw[YH] at hl
    have:=u.len
    rw[show nats (x::xs)=⇑x::nats xs from rfl,aI];refine R _ fs rs _ j M5 u (by omega) r y T ?_;intro S W d t D6 h6 Z P r6;exact⟨trivial,ih S W _ d t (by omega) D6 Z P r6⟩
  exact ap (List.range (w+1)) [] (List.range m) none O M4 (by simp) D3 B4 g4 r4
end
def gO:Ss:=#v[.ret (.sl (.var 4) .no (.yes (.var 3)))]
def ql:Ss:=#v[.expr (.mt .append (.var 4) #v[.tup #v[.var 8,.comp 1 (.fn 1 #v[.var 6,.var 1]) (.nm 9) (.rg1 #v[.fn 0 #v[.var 6,.int 4]]) .no]])]
def gP:Ss:=.cons (.set 8 (.fn 0 #v[.var 6,.var 1])) ql
def qm:Ss:=#v[.for (.nm 7) (.rg1 #v[.bin .Add (.int 1) (.fn 0 #v[.var 6,.int 3])]) gP]
def gQ:Ss:=.cons (.set 6 (.lst #v[.var 5,.fn 2 #v[.var 0,.int 1]])) qm
def qo:Ss:=.cons (.for (.nm 5) (.seq (.sl (.var 0) (.yes (.var 2)) (.yes (.int 63)))) gQ) gO
def n6:Ss:=.cons (.set 4 (.lst .nil)) qo
def mZ:az:=λds M Q=>∃(a:Addr) (ns:Zi) (m b most:Nat),ds=[.ref a,⇑m,⇑b,⇑most]/\M a=some (.rol (ns.map .int))/\(0<m/\m<64)/\most<=400 /\
 ∀p l_ a_ M',M' p=some (.lst l_)->aM M' l_ a_->eG m a_->a_.length<=most->ad M M'->Q (.ref p) M'
def ij(r p:Addr)(M:MH):MH:=λb=>if b=r then none else if b=p then none else M b
section
variable {r p q:Addr}{M M':MH}{o:MO}
theorem LE(r p:Addr)(M:MH)(o:MO):ij r p (ac M r o)=ij r p M:=by
 funext b;unfold ij ac;split<;>rfl
theorem tR(h:ExtBut p M M'):ad (ij r p M) (ij r p M'):=λb o q=>by
 unfold ij at q ⊢;split at q
 ·cases q
 ·rename_i c
  rw[if_neg c];split at q
  ·cases q
  ·rename_i a
   rw[if_neg a];exact h b o a q
theorem zu(h:ad M M'):ad (ij r p M) (ij r p M'):=tR h.but
theorem G6(r p:Addr)(M:MH):ad (ij r p M) (hid r M):=λb o q=>by
 unfold ij at q;unfold hid;split at q
 ·cases q
 ·rename_i a
  rw[if_neg a];split at q
  ·cases q
  ·exact q
theorem G7(h:M p=none):ad (hid r M) (ij r p M):=λb o q=>by
 unfold hid at q;unfold ij;split at q
 ·cases q
 ·rename_i a
  rw[if_neg a];have:b≠p:=cp q h
  rw[if_neg this];exact q
theorem JC(a:q≠r)(b:q≠p):ij r p M q=M q:=by
 unfold ij;rw[if_neg a,if_neg b]
end
def rj(m:Nat)(a_:Zy):Prop:=∀x∈a_,x.1<m/\x.2.length<=6/\∀t∈x.2,t.fit (m:Int)
theorem rj.add{m:Nat}{a_:Zy}{x:Row}(h:rj m a_)(a:x.1<m)(h2:x.2.length<=6)(b:∀t∈x.2,t.fit (m:Int)):rj m (a_++[x]):=λy hy=>by
 rcases YA.1 hy with hy | hy
 ·exact h y hy
 ·have:y=x:=by simpa using hy
  subst this;exact⟨a,h2,b⟩
theorem JD{c:Type}(xs:List c)(a b:Nat):(cc xs (some (a:Int)) (some (b:Int))).length<=b:=by
 unfold cc;rw[HT.jr,HT.jr,YR];omega
theorem JE{a:Type}{xs:List a}{lo b:Zq}{x:a}(h:x∈cc xs lo b):x∈xs:=List.mem_of_mem_drop (XU h)
structure fJ (m:Nat) (R:Addr) (M2 M5:MH) (n:Nat):Prop where
 but:ExtBut R M2 M5
 ex:∃l_ a_,M5 R=some (.lst l_)/\aM (hid R M5) l_ a_/\rj m a_/\a_.length<=n
structure oy (m:Nat) (R p:Addr) (k:Int) (M2 M5:MH) (n:Nat):Prop where
 but:ExtBut R M2 M5
 box:∃b,M5 p=some (.lst [.int b,.int k])
 ex:∃l_ a_,M5 R=some (.lst l_)/\aM (ij R p M5) l_ a_/\rj m a_/\a_.length<=n
section
variable {cn:Cn}{ds:List D}{M:MH}{Q:DK}
theorem Az(f0:cn.F.getD 0 (λ_ _ _=>False)=cZ)(f1:cn.F.getD 1 (λ_ _ _=>False)=kF)(f2:cn.F.getD 2 (λ_ _ _=>False)=dm)(h:mZ ds M Q):wSs cn n6 (fin Q) (ai ["","","","","","","","",""] ds) M:=by
 obtain⟨a,ns,m,l,most,rfl,hM,hm,Tq,q⟩:=h;show wSs cn n6 (fin Q) [↑a,~~~m,~~~l,~~~most,none,none,none,none,none] M;have hsz:(2000:Nat)<sizeLine:=by decide
 unfold n6;simp! only[List.set];intro R hR;have e1:ad M (ac M R (.lst [])):=ad.new hR;have g1:ac M R (MO.lst []) R=some (.lst []):=aa;generalize ac M R (MO.lst [])=M1 at *;have Pn:=e1 _ _ hM;unfold qo;simp! only[List.set,Pn,ck];intro L hL;have ab:L≠R:=(cp g1 hL).symm;have R9:(cc (ns.map D.int) (some (l:Int)) (some (63:Int))).length<=63:=JD _ l 63;have PV:∀d∈cc (ns.map D.int) (some (l:Int)) (some (63:Int)),∃c,d=D.int c:=λd hd=>by
  obtain⟨c,-,rfl⟩:=XT.1 (JE hd);exact⟨c,rfl⟩
 generalize cc (ns.map D.int) (some (l:Int)) (some (63:Int))=cells at *;have Z:ad M1 (ac M1 L (.lst cells)):=ad.new hL;have g2:ac M1 L (MO.lst cells) L=some (.lst cells):=aa;generalize ac M1 L (MO.lst cells)=M2 at *;have O4:=Z _ _ Pn;have r2:=Z _ _ g1;have ap:ad M M2:=e1.trans Z;simp only[g2];clear e1 Z g1 Pn hL;clear M1;have a7:M2 R≠none:=by rw[r2];simp
 have Wj:a≠R:=cp hM hR;have last:∀(u B f g:Zz) (M5:MH) (n:Nat),fJ m R M2 M5 n->wSs cn gO (fin Q) [↑a,~~~m,~~~l,~~~most,↑R,u,B,f,g] M5:=by
  intro u B f g M5 n ⟨hb,l_,a_,A,h2,G,J⟩;unfold gO;simp! only[List.set,A,ck,LB];intro p hp;have lt:(a_.take most).length<=most:=by rw[YR];omega
  refine q p _ (a_.take most) _ aa (aM.ext ((dg R M5).trans (ad.new hp)) (rK most h2)) ⟨by omega,by omega,λx hx=>G x (XU hx)⟩ lt ?_;intro b o Tt;have aB:b≠R:=cp Tt hR;exact ad.new hp _ _ (hb b o aB (ap b o Tt))
 -- one V
 have V:∀(E:cv) (p:Addr) (k:Int) (u f g:Zz) (M5:MH) (n:Nat),p≠R->M2 p=none->n<2000->oy m R p k M2 M5 n ->
   (∀W j,oy m R p k M2 j (n+1)->E.nx [↑a,~~~m,~~~l,~~~most,↑R,u,↑p,f,W] j) ->
   wSs cn gP E [↑a,~~~m,~~~l,~~~most,↑R,u,↑p,f,g] M5:=by
  intro E p k u f g M5 n K X hn ⟨hb,⟨b,x_⟩,l_,a_,A,h2,G,J⟩ kk;unfold gP;simp! only[List.set,f0];refine⟨p,b,k,m,rfl,x_,⟨hm.1,by omega⟩,λhd U a1=>?_⟩;have B6:c8 p k M5 (ac M5 p (.lst [.int U,.int k])) U:=⟨ExtBut.upd _ _ _,aa⟩;generalize ac M5 p (MO.lst [.int U,.int k])=j at *;unfold ql;have UG:=B6.but _ _ K.symm A;simp! only[List.set,List.cons_append,XB,List.replicate,f0,UG];refine⟨rfl,p,U,k,4,rfl,B6.at_,⟨by decide,by decide⟩,λnc O a'=>?_⟩;have B7:=B6.draw O;generalize ac j p (MO.lst [.int O,.int k])=M7 at *;refine⟨⟨by omega,by omega⟩,?_⟩;rw[dq];clear B6 UG;clear j;have OW:∀(F:List D->MH->Prop),(∀(ts:List CT) r I,ts.length<=6->(∀t∈ts,CT.fit (m:Int) t)->c8 p k M5 r I->F (ts.map CT.told) r) ->
    ∀(xs:Zj) (ts:List CT) (v9:Zz) (r:MH) (I:Int),ts.length+xs.length<=6->(∀t∈ts,CT.fit (m:Int) t)->c8 p k M5 r I ->
    a9 (λ_=>True) (.nm 9) (ot cn .no) (wE cn (.fn 1 (.cons (.var 6) (.cons (.var 1) .nil)))) F (nats xs) (ts.map CT.told) [↑a,~~~m,~~~l,~~~most,↑R,u,↑p,f,~~~hd,v9] r:=by
   intro F hF xs;induction xs with
   |nil=>
    intro ts v9 r I hl ht C;rw[show nats []=[] from rfl,a9];exact hF ts r I (by simpa using hl) ht C
   |cons x xs Y=>
    intro ts v9 r I hl ht C;rw[YH] at hl;rw[show nats (x::xs)=⇑x::nats xs from rfl,a9];have go:kF [.ref p,⇑m] r (λy M2=>True/\a9 (λ_=>True) (.nm 9) (ot cn .no) (wE cn (.fn 1 (.cons (.var 6) (.cons (.var 1) .nil)))) F (nats xs) (ts.map CT.told++[y]) [↑a,~~~m,~~~l,~~~most,↑R,u,↑p,f,~~~hd,~~~x] M2):=by
     refine⟨p,I,k,m,rfl,C.at_,hm,λt M9 b9 ft B9=>⟨trivial,?_⟩⟩;rw[show ts.map CT.told++[t.told]=(ts++[t]).map CT.told by rw[ZK];rfl];refine Y (ts++[t]) _ M9 b9 (by rw[ZJ];simp;omega) (λt' QV=>?_) ⟨C.but.trans B9.but,B9.at_⟩;rcases YA.1 QV with QV | QV
     ·exact ht t' QV
     ·have:t'=t:=by simpa using QV
      subst this;exact ft
    rw[←f1] at go;exact go
  refine OW _ ?_ (List.range nc) [] none M7 O (by simp;omega) (by simp) B7;intro ts r I a2 ft C c hc;have Z0:=C.but _ _ K.symm A;have e9:ad r (ac r c (.lst (ts.map CT.told))):=ad.new hc;have g9:ac r c (MO.lst (ts.map CT.told)) c=some (.lst (ts.map CT.told)):=aa;generalize ac r c (MO.lst (ts.map CT.told))=M9 at *;have a3:=e9 _ _ Z0;have a4:c≠R:=(cp Z0 hc).symm;have a5:c≠p:=(cp C.at_ hc).symm;simp only[a3];have Rz:l_.length=a_.length:=km h2;refine⟨by omega,?_⟩;refine kk _ _ ⟨?_,⟨I,?_⟩,l_++[.tup [⇑hd,.ref c]],a_++[(hd,ts)],aa,?_,G.add a1 a2 ft,by rw[ZJ];simpa using J⟩
  ·intro z o hz Z3
   have a6:z≠p:=cp Z3 X;rw[aG hz];exact e9 _ _ (C.but _ _ a6 (hb _ _ hz Z3))
  ·rw[aG K];exact e9 _ _ C.at_
  ·rw[LE]
   refine bA (aM.ext ((tR C.but).trans (zu e9)) h2) (.cons ⟨c,rfl,?_⟩ .nil);rw[JC a4 a5];exact g9
 -- one cell
 have cell:∀(E:cv) (x:Int) (B f g:Zz) (M5:MH) (n:Nat),n<1000->fJ m R M2 M5 n ->
   (∀Z4 Z5 W j,fJ m R M2 j (n+3)->E.nx [↑a,~~~m,~~~l,~~~most,↑R,some (.int x),Z4,Z5,W] j) ->
   wSs cn gQ E [↑a,~~~m,~~~l,~~~most,↑R,some (.int x),B,f,g] M5:=by
  intro E x B f g M5 n hn ⟨hb,l_,a_,A,h2,G,J⟩ kk;have V6:=hb _ _ Wj O4;unfold gQ;simp! only[List.set,f2];refine⟨a,ns,1,rfl,V6,?_⟩;generalize cellAt ns 1=k;intro p hp;have K:p≠R:=(cp A hp).symm;have X:M2 p=none:=by
   cases e:M2 p with
   |none=>rfl
   |some o=>rw[hb _ _ K e] at hp;cases hp
  have P:oy m R p k M2 (ac M5 p (.lst [.int x,.int k])) n:=by
   refine⟨hb.put X,⟨x,aa⟩,l_,a_,?_,?_,G,J⟩
   ·exact ad.new hp _ _ A
   ·exact aM.ext ((G7 hp).trans (zu (ad.new hp))) h2
  generalize ac M5 p (MO.lst [.int x,.int k])=j at *;unfold qm;obtain⟨U,Wh⟩:=P.box;simp! only[List.set,f0];refine⟨p,U,k,3,rfl,Wh,⟨by decide,by decide⟩,λw O hw=>?_⟩;have S7:oy m R p k M2 (ac j p (.lst [.int O,.int k])) n:=by
   obtain⟨hb,-,l_,a_,A,h2,G,J⟩:=P;refine⟨hb.put X,⟨O,aa⟩,l_,a_,?_,aM.ext (tR (ExtBut.upd _ _ _)) h2,G,J⟩;rw[aG K.symm];exact A
  generalize ac j p (MO.lst [.int O,.int k])=M7 at *;refine⟨⟨by omega,by omega⟩,?_⟩;rw[show(1:Int)+(w:Int)=((w+1:Nat):Int) by omega,dq];have T:∀(xs:Zj) (f g:Zz) (M5:MH) (n':Nat),n'+xs.length<=n+3->oy m R p k M2 M5 n' ->
    aI (λ_=>True) (.nm 7) (wSs cn gP) E (nats xs) [↑a,~~~m,~~~l,~~~most,↑R,some (.int x),↑p,f,g] M5:=by
   intro xs;induction xs with
   |nil=>
    intro f g M5 n' Si ⟨hb,_,l_,a_,A,h2,G,J⟩;rw[show nats []=[] from rfl,aI];exact kk _ _ _ _ ⟨hb,l_,a_,A,aM.ext (G6 _ _ _) h2,G,by simp at Si;omega⟩
   |cons y xs Y=>
    intro f g M5 n' Si S;rw[YH] at Si;rw[show nats (y::xs)=⇑y::nats xs from rfl,aI];refine V _ p k _ _ _ M5 n' K X (by omega) S ?_;intro W j P;exact⟨trivial,Y _ _ j (n'+1) (by omega) P⟩
  exact T (List.range (w+1)) _ _ M7 n (by simp;omega) S7
 have T:∀(xs:List D) (u B f g:Zz) (M5:MH) (n:Nat),(∀d∈xs,∃c,d=D.int c)->n+3*xs.length<=189->fJ m R M2 M5 n ->
   aI (λM'=>M' L=some (.lst cells)) (.nm 5) (wSs cn gQ) { nx:=wSs cn gO (fin Q),rt:=Q } xs [↑a,~~~m,~~~l,~~~most,↑R,u,B,f,g] M5:=by
  intro xs;induction xs with
  |nil=>
   intro u B f g M5 n _ _ S;rw[aI];exact last u B f g M5 n S
  |cons d xs Y=>
   intro u B f g M5 n hd hn S;rw[YH] at hn;obtain⟨c,rfl⟩:=hd d (.head _);rw[aI];refine cell _ c _ _ _ M5 n (by omega) S ?_;intro Z4 Z5 W j P;exact⟨P.but _ _ ab g2,Y _ _ _ _ j (n+3) (λd Qe=>hd d (.tail _ Qe)) (by omega) P⟩
 refine T cells none none none none M2 0 PV (by omega) ⟨ExtBut.refl _ _,[],[],r2,.nil,λx hx=>(by cases hx),YE _⟩
end
def qp:Ss:=#v[.ret (.bin .BitAnd (.bin .Mod (.var 2) (.bin .LShift (.int 1) (.var 1))) (.bin .Mod (.bin .FloorDiv (.var 2) (.bin .LShift (.int 1) (.var 1))) (.bin .LShift (.int 1) (.var 1))))]
def n9:Ss:=.cons (.set 2 (.fn 0 #v[.var 0,.int 2])) qp
def mx:Ss:=#v[.ret (.fn 0 #v[.var 0,.comp 2 (.tup #v[.var 2,.bk .list #v[.var 3]]) (.tp [2,3]) (.seq (.var 1)) .no])]
def ik:Ss:=#v[.ret (.and (.cmp .Eq (.bin .BitAnd (.bin .RShift (.var 1) (.ix (.ix (.var 0) (.int 1)) (.ix (.var 0) (.int 2)))) (.int 1)) (.int 1)) (.cmp .Eq (.var 3) (.lst .nil)))]
def my:Ss:=.cons (.setC 3 1 (.var 4) (.nm 4) (.seq (.sl (.ix (.var 0) (.int 1)) .no (.yes (.ix (.var 0) (.int 2))))) (.yes (.cmp .Eq (.bin .BitAnd (.bin .RShift (.var 2) (.var 4)) (.int 1)) (.int 1)))) ik
def il:Ss:=.cons (.ite (.cmp .Eq (.ix (.var 0) (.int 0)) (.str "some")) #v[.ret (.cmp .GtE (.bi .len #v[.comp 1 (.var 4) (.nm 4) (.seq (.ix (.var 0) (.int 2))) (.yes (.cmp .Eq (.bin .BitAnd (.bin .RShift (.var 1) (.var 4)) (.int 1)) (.int 1)))]) (.ix (.var 0) (.int 1)))] .nil) my
def er:Ss:=.cons (.ite (.cmp .Eq (.ix (.var 0) (.int 0)) (.str "lack")) #v[.ret (.cmp .Eq (.bin .BitAnd (.bin .RShift (.var 2) (.ix (.var 0) (.int 1))) (.int 1)) (.int 0))] .nil) il
def cT:Ss:=.cons (.ite (.cmp .Eq (.ix (.var 0) (.int 0)) (.str "have")) #v[.ret (.cmp .Eq (.bin .BitAnd (.bin .RShift (.var 1) (.ix (.var 0) (.int 1))) (.int 1)) (.int 1))] .nil) er
def mz:Ss:=#v[.ret (.bl true)]
def i0:Ss:=#v[.ite (.not (.val (.fn 0 #v[.var 3,.var 1,.var 2]))) #v[.ret (.bl false)] .nil]
def pK:Ss:=.cons (.for (.nm 3) (.seq (.var 0)) i0) mz
def m6:az:=λds M Q=>∃(a:Addr) (ns:Zi) (m:Nat),ds=[.ref a,⇑m]/\M a=some (.rol (ns.map .int))/\m<30/\∀told:Nat,told<2 ^ m->Q (⇑told) M
def lF(c:CA)(S:Addr):az:=λds M Q=>∃(m:Nat) (p:Addr) (l_:List D) (a_:Zy),ds=[⇑m,.ref p]/\M p=some (.lst l_)/\aM M l_ a_/\eG m a_/\∀a M',ad M M'->bh c S M' a m a_->Q (.ref a) M'
def i3:az:=λds M Q=>∃(t:CT) (h g:Int),ds=[t.told,.int h,.int g]/\t.ok/\∀M',ad M M'->Q (.bl (t.carried h g)) M'
def pL:az:=λds M Q=>∃(p:Addr) (ts:List CT) (h g:Int),ds=[.ref p,.int h,.int g]/\M p=some (.lst (ts.map CT.told))/\(∀t∈ts,t.ok)/\∀M',ad M M'->Q (.bl (ts.all (CT.carried h g))) M'
theorem oz(m:Nat):(1:Int)*2 ^ (m:Int).toNat=((2 ^ m:Nat):Int):=by rw[YV,Int.one_mul];simp
theorem LF{m:Nat}(h:m<30):((2 ^ m:Nat):Int)<1073741824:=by
 have:2 ^ m<2 ^ 30:=Nat.pow_lt_pow_right (by decide) h
 exact Int.ofNat_lt.2 (ZR this (by decide))
theorem JF(m:Nat):0<((2 ^ m:Nat):Int):=Int.ofNat_lt.2 (Nat.two_pow_pos m)
theorem LG{x:Int}{n:Nat}(h:0<(n:Int)):∃u:Nat,x%(n:Int)=(u:Int)/\u<n:=by
 have a:=zt (y:=x) h;refine⟨(x%(n:Int)).toNat,(Int.toNat_of_nonneg a.1).symm,?_⟩;omega
theorem zv(L:Zi):cr (aZ L) []=(((L.length:Nat):Int)==0):=by
 cases L with
 |nil=>show cr [] []=_;rw[cr];rfl
 |cons a l=>
  have h2:((((a::l).length:Nat):Int)==0)=false:=by rw[ZQ,YH];omega
  rw[h2];show cr (.int a::aZ l) []=false;simp[cr]
theorem cU{a b:Nat}:a&&&b=a↔Sub a b:=by
 constructor
 ·intro h f hf
  have:(a&&&b).testBit f=true:=by rw[h];exact hf
  rw[XX,hf,Bool.true_and] at this;exact this
 ·intro h
  refine XY λf=>?_
  rw[XX];cases e:a.testBit f with
  |false=>rfl
  |true=>rw[h f e];rfl
section
variable {cn:Cn}{ds:List D}{M:MH}{Q:DK}{c:CA}{S:Addr}
theorem AA(d:cn.F.getD 0 (λ_ _ _=>False)=dm)(h:m6 ds M Q):wSs cn n9 (fin Q) (ai ["","",""] ds) M:=by
 obtain⟨a,ns,m,rfl,f,hm,q⟩:=h;show wSs cn n9 (fin Q) [↑a,~~~m,none] M;unfold n9;simp! only[List.set,d];refine⟨a,ns,2,rfl,f,?_⟩;generalize cellAt ns 2=x;unfold qp;simp! only[List.set,oz];have hp:=JF m;have P:xP 1 (m:Int):=⟨by omega (splitDisjunctions:=true),by omega (splitDisjunctions:=true),by decide⟩;refine⟨P,hp,P,⟨hp,LF hm⟩,P,hp,?_⟩;obtain⟨u,hu,b⟩:=LG (x:=x) hp;obtain⟨v,g,j⟩:=LG (x:=x / ((2 ^ m:Nat):Int)) hp;rw[hu,g,jH];exact q _ (XE Nat.and_le_left b)
theorem zw(I:cn.F.getD 0 (λ_ _ _=>False)=bD S (j9 c S))(h:lF c S ds M Q):wSs cn mx (fin Q) (ai ["",""] ds) M:=by
 obtain⟨m,p,l_,a_,rfl,hp,J,ok,q⟩:=h;show wSs cn mx (fin Q) [~~~m,↑p] M;have t:∀(F:List D->MH->Prop) (xs:List D) (g b:Zy) (h_:List D) (u w:Zz) (M5:MH),aM M xs g->ad M M5->aM M5 h_ b->(∀j a,ad M a->aM a j (b++g)->F j a) ->
   a9 (λM'=>M' p=some (.lst l_)) (.tp [2,3]) (ot cn .no) (wE cn (.tup (.cons (.var 2) (.cons (.bk .list (.cons (.var 3) .nil)) .nil)))) F xs h_ [~~~m,↑p,u,w] M5:=by
  intro F xs g b h_ u w M5 hx;induction hx generalizing b h_ u w M5 with
  |nil=>
   intro l y k;rw[a9];rw[ZA] at k;exact k h_ M5 l y
  |@cons d x xs g hd _ K=>
   intro l y k;obtain⟨V,rfl,L⟩:=hd;have A:=l _ _ L;rw[a9];simp! only[List.set,pX,gD,A,pT,ck];refine⟨rfl,λr f=>?_⟩;have n:=l.then (o:=MO.lst (x.2.map CT.told)) f;refine⟨n _ _ hp,K (b++[x]) _ _ _ _ n ?_ ?_⟩
   ·exact bA (aM.ext (ad.new f) y) (.cons ⟨r,rfl,aa⟩ .nil)
   ·intro j a e h
    rw[ZB] at h;exact k j a e h
 unfold mx;simp! only[List.set,List.cons_append,XB,List.replicate,hp,I];refine t _ l_ a_ [] [] none none M J (ad.refl M) .nil ?_;intro h_ a n C r f x hx;rw[XB] at C;have E:=n.then (o:=MO.lst h_) f;have O:ac a r (MO.lst h_) r=some (.lst h_):=aa;have P:=C.ext (ad.new (o:=MO.lst h_) f);generalize ac a r (MO.lst h_)=G at *;have B:ad G (ac G x (.ins S [])):=ad.new hx;refine⟨x,m,r,h_,a_,rfl,aa,B _ _ O,P.ext B,ok,λR T U=>⟨rfl,q x R ?_ U⟩⟩;exact ExtBut.ext (E.trans B) T (by
  cases z:M x with
  |none=>rfl
  |some o=>rw[E _ _ z] at hx;cases hx)
theorem vS(h:i3 ds M Q):wSs cn cT (fin Q) (ai ["","","",""] ds) M:=by
 obtain⟨t,h,g,rfl,b,q⟩:=h;show wSs cn cT (fin Q) [some t.told,some (.int h),some (.int g),none] M;cases t with
 |hav f=>
  unfold cT;simp_all! only[CT.told,bz,bF,at2,LC];refine⟨b.1,?_⟩;rw[PyProof.Rows.bitAnd_m1];exact q M (ad.refl M)
 |lck f=>
  unfold cT;simp_all! only[CT.told,bz,bF,at2,GR];unfold er;simp_all! only[CT.told,bz,bF,at2,GQ];refine⟨b.1,?_⟩;rw[PyProof.Rows.bitAnd_m1];have j:Q (.bl (!hasB g f)) M:=q M (ad.refl M);rw[←yQ] at j;exact j
 |som n fs=>
  unfold cT;simp_all! only[CT.told,bz,bF,at2,GS];unfold er;simp_all! only[CT.told,bz,bF,at2,GT];unfold il;simp_all! only[CT.told,bz,bF,at2,GP,List.cons_append,XB,List.replicate];refine dk (p:=λd=>match d with | .int f=>hasB h f | _=>false) (ok:=λσ=>∃v,σ=[some (.tup [.str "some",.int n,.tup (aZ fs)]),some (.int h),some (.int g),none,v]) [] _ ⟨none,rfl⟩ ?_ ?_
  ·intro d hd σ h_ rest ⟨v,l⟩ k
   subst l;obtain⟨f,m,rfl⟩:=XT.1 hd;have a:=k _ ⟨some (.int f),rfl⟩;dsimp only at a;refine⟨(b.2 f m).1,⟨rfl,rfl,(by decide:(0:Nat)<=30)⟩,?_⟩;show bG (Builtin.bitAnd (h / 2 ^ f.toNat) 1==1) _ _;rw[PyProof.Rows.bitAnd_m1];show bG (hasB h f) _ _;cases hb:hasB h f with
   |true=>rw[hb] at a;exact⟨trivial,a⟩
   |false=>rw[hb] at a;exact⟨trivial,by simpa using a⟩
  ·intro p hp
   rw[aa];have e:([]++(aZ fs).filter (λ(d:D)=>match d with | .int f=>hasB h f | _=>false)).length=cY fs h:=by
    unfold aZ cY;rw[XB,List.filter_map,ZF];rfl
   dsimp only;rw[e];exact q _ (ad.new hp)
 |led fs k=>
  unfold cT;simp_all! only[CT.told,bz,bF,at2,GU];unfold er;simp_all! only[CT.told,bz,bF,at2,GV];unfold il;simp_all! only[CT.told,bz,bF,at2,GW];unfold my;simp_all! only[CT.told,bz,bF,at2,sg,List.cons_append,XB,List.replicate];refine dk (p:=λd=>match d with | .int f=>hasB g f | _=>false) (ok:=λσ=>∃v,σ=[some (.tup [.str "lead",.tup (aZ fs),⇑k]),some (.int h),some (.int g),none,v]) [] _ ⟨none,rfl⟩ ?_ ?_
  ·intro d hd σ h_ rest ⟨v,l⟩ k
   subst l;obtain⟨f,m,rfl⟩:=XT.1 hd;have a:=k _ ⟨some (.int f),rfl⟩;dsimp only at a;refine⟨(b.2 f (XU m)).1,⟨rfl,rfl,(by decide:(0:Nat)<=30)⟩,?_⟩;show bG (Builtin.bitAnd (g / 2 ^ f.toNat) 1==1) _ _;rw[PyProof.Rows.bitAnd_m1];show bG (hasB g f) _ _;cases hb:hasB g f with
   |true=>rw[hb] at a;exact⟨trivial,a⟩
   |false=>rw[hb] at a;exact⟨trivial,by simpa using a⟩
  ·intro p hp
   have e:([]++(aZ (fs.take k)).filter (λ(d:D)=>match d with | .int f=>hasB g f | _=>false))=aZ ((fs.take k).filter (hasB g)):=by
    unfold aZ;rw[XB,List.filter_map];rfl
   rw[e];have r:=ad.new (o:=MO.lst (aZ ((fs.take k).filter (hasB g)))) hp;have w:ac M p (MO.lst (aZ ((fs.take k).filter (hasB g)))) p=some (.lst (aZ ((fs.take k).filter (hasB g)))):=aa;generalize ac M p (MO.lst (aZ ((fs.take k).filter (hasB g))))=M1 at *;show wSs cn ik (fin Q) [some (.tup [.str "lead",.tup (aZ fs),⇑k]),some (.int h),some (.int g),↑p] M1;have j:∀M',ad M M'->Q (.bl (hasB h (fs.getD k 0)&&(((cY (fs.take k) g:Nat):Int)==0))) M':=q;unfold ik;simp_all! only[CT.told,bz,bF,at2,vM b.1.1];refine⟨Bu b.1.1 b.2,?_⟩;rw[PyProof.Rows.bitAnd_m1];show bG (hasB h (fs.getD k 0)) _ _;cases hb:hasB h (fs.getD k 0) with
   |false=>
    rw[hb] at j;exact j M1 r
   |true=>
    rw[hb] at j;intro p2 y;have u:=ad.new (o:=MO.lst []) y;have z:ac M1 p2 (MO.lst []) p2=some (.lst []):=aa;generalize ac M1 p2 (MO.lst [])=M2 at *;simp only[u _ _ w,z,ck];refine⟨⟨q0 _,rfl,by rw[tJ];decide⟩,?_⟩;rw[zv];exact j M2 (r.trans u)
theorem Dg(m:cn.F.getD 0 (λ_ _ _=>False)=i3)(h:pL ds M Q):wSs cn pK (fin Q) (ai ["","","",""] ds) M:=by
 obtain⟨p,ts,h,g,rfl,hp,n,q⟩:=h;show wSs cn pK (fin Q) [↑p,some (.int h),some (.int g),none] M;have f:∀(E:cv) (t:CT) (M5:MH),t.ok->(∀a,ad M5 a->t.carried h g=true->E.nx [↑p,some (.int h),some (.int g),some t.told] a)->(∀a,ad M5 a->t.carried h g=false->E.rt (.bl false) a) ->
   wSs cn i0 E [↑p,some (.int h),some (.int g),some t.told] M5:=by
  intro E t M5 ht o r;unfold i0;simp! only[List.set,m];refine⟨t,h,g,rfl,ht,λa d=>?_⟩;simp! only[];cases b:t.carried h g with
  |true=>exact o a d b
  |false=>exact r a d b
 have l:∀(xs:List CT) (v:Zz) (M5:MH),(∀t∈xs,t.ok)->ad M M5->(∀M',ad M M'->Q (.bl (xs.all (CT.carried h g))) M') ->
   aI (λM'=>M' p=some (.lst (ts.map CT.told))) (.nm 3) (wSs cn i0) { nx:=wSs cn mz (fin Q),rt:=Q } (xs.map CT.told) [↑p,some (.int h),some (.int g),v] M5:=by
  intro xs;induction xs with
  |nil=>
   intro v M5 _ j k;rw[List.map_nil,aI];unfold mz;simp! only[];exact k M5 j
  |cons t xs u=>
   intro v M5 ht j k;rw[YJ,aI];refine f _ t M5 (ht t (.head _)) (λa d hb=>?_) (λa d hb=>?_)
   ·refine⟨j.trans d _ _ hp,u _ a (λt h=>ht t (.tail _ h)) (j.trans d) λM' e'=>?_⟩
    have:=k M' e'
    rw[XN,hb,Bool.true_and] at this;exact this
   ·have:=k a (j.trans d)
    rw[XN,hb,YD] at this;exact this
 unfold pK;simp! only[List.set,hp];exact l ts none M n (ad.refl M) q
end
theorem vT{a_:Zy}{g told c_ m:Nat}(b:told<2 ^ m)(h2:c_<2 ^ m):cP a_ g told c_<2 ^ m:=by
 refine Nat.lt_pow_two_of_testBit _ λf hf=>?_
 unfold cP;have a:told.testBit f=false:=Nat.testBit_lt_two_pow (ZR b (Nat.pow_le_pow_right (by decide) hf));rw[XZ,bS,a,Bool.false_or];refine ZP λh=>?_
 have:=(lE _ _ _ _).2 f h
 rw[aV,YX] at this
 have:=dM h2 this.1
 omega
theorem aL.uniq{a_:Zy}{told g n n':Nat}(h:aL a_ told g n)(h':aL a_ told g n'):n=n':=by
 refine XY λf=>?_
 have a:=h.2 _ h'.1 f;have b:=h'.2 _ h.1 f;cases e:n.testBit f with
 |true=>exact(a e).symm
 |false=>
  cases e':n'.testBit f with
  |false=>rfl
  |true=>rw[b e'] at e;cases e
theorem Sub.antisymm{a b:Nat}(h:Sub a b)(h':Sub b a):a=b:=by
 refine XY λf=>?_
 cases e:a.testBit f with
 |true=>exact(h f e).symm
 |false=>
  cases e':b.testBit f with
  |false=>rfl
  |true=>rw[h' f e'] at e;cases e
theorem Sub.zero(a:Nat):Sub 0 a:=λf h=>by rw[Nat.zero_testBit] at h;cases h
def cnt(m n:Nat):Nat:=(List.range m).countP λf=>n.testBit f
theorem wO{p q:Nat->Bool}{f:Nat}(hp:p f=false)(hq:q f=true)(h:∀x,p x=true->q x=true):∀{l:Zj},f∈l->l.countP p<l.countP q
 |[],hf=>by cases hf
 |a::l,hf=>by
  have le:l.countP p<=l.countP q:=List.countP_mono_left λx _=>h x
  rw[List.countP_cons,List.countP_cons];rcases ZZ.1 hf with rfl | hf
  ·rw[hp,hq];simp;omega
  ·have:=wO hp hq h hf
   cases e:p a with
   |true=>rw[h a e];simp;omega
   |false=>
    cases q a with
    |true=>simp;omega
    |false=>simp;omega
theorem lO{m a b:Nat}(h:Sub a b):cnt m a<=cnt m b:=List.countP_mono_left λf _=>h f
theorem ss(m n:Nat):cnt m n<=m:=by
 have:=List.countP_le_length (p:=λf=>n.testBit f) (l:=List.range m)
 rw[ZI] at this;exact this
theorem sv{m a b:Nat}(h:Sub a b)(c:a≠b)(hb:b<2 ^ m):cnt m a<cnt m b:=by
 have:∃f,a.testBit f=false/\b.testBit f=true:=by
  refine Classical.byContradiction λz=>c (h.antisymm λf hf=>?_)
  cases e:a.testBit f with
  |true=>rfl
  |false=>exact absurd ⟨f,e,hf⟩ z
 obtain⟨f,d,h2⟩:=this;exact wO d h2 h (ZV.2 (dM hb h2))
def br(a_:Zy)(c_ wide narrow known:Nat):Nat×Nat:=(cP a_ known wide c_,cP a_ (cP a_ known wide c_) narrow c_)
def aQ(x:Nat×Nat):D:=.tup [⇑x.1,⇑x.2]
structure Bx (a_:Zy) (c_ wide narrow known:Nat) (ps:Zp):Prop where
 first:ps[0]?=some (br a_ c_ wide narrow known)
 next:∀i x y,ps[i]?=some x->ps[i+1]?=some y->y=br a_ c_ wide narrow x.2/\y≠x
structure zx (a_:Zy) (c_ wide narrow known:Nat) (ps:Zp):Prop extends Bx a_ c_ wide narrow known ps where
 last:∀x,ps.getLast?=some x->br a_ c_ wide narrow x.2=x
section
variable {a_:Zy}{c_ wide narrow known m:Nat}
theorem zy(a:c_<2 ^ m)(h2:wide<2 ^ m)(b:narrow<2 ^ m)(known:Nat):(br a_ c_ wide narrow known).1<2 ^ m/\(br a_ c_ wide narrow known).2<2 ^ m:=⟨vT h2 a,vT b a⟩
theorem Dh(b:∀x∈a_,c_.testBit x.1=true){k k':Nat}(h:Sub k k'):Sub (br a_ c_ wide narrow k').1 (br a_ c_ wide narrow k).1/\Sub (br a_ c_ wide narrow k).2 (br a_ c_ wide narrow k').2:=by
 have a:Sub (br a_ c_ wide narrow k').1 (br a_ c_ wide narrow k).1:=aL.anti h (di b) (di b);exact⟨a,aL.anti a (di b) (di b)⟩
def gy(m:Nat)(x:Nat×Nat):Nat:=cnt m x.1+(m-cnt m x.2)
theorem JG(m:Nat)(x:Nat×Nat):gy m x<=2*m:=by
 unfold gy
 have:=ss m x.1
 omega
theorem By{x y:Nat×Nat}(a:Sub y.1 x.1)(h2:Sub x.2 y.2)(b:y≠x)(c:x.1<2 ^ m)(d:y.2<2 ^ m):gy m y<gy m x:=by
 unfold gy;have g:=lO (m:=m) a;have j:=lO (m:=m) h2;have k:=ss m y.2;by_cases e:y.1=x.1
 ·have f:x.2≠y.2:=λz=>b (Prod.ext e z.symm)
  have:=sv h2 f d
  omega
 ·have:=sv a e c
  omega
end
theorem Sub.le{a b:Nat}(h:Sub a b):a<=b:=by
 rw[←cU.2 h];exact Nat.and_le_right
theorem EV{a b:Nat}(h:Sub b a):b|||ae a b=a:=by
 refine XY λf=>?_
 rw[XZ,aV];cases e:b.testBit f with
 |true=>rw[h f e];rfl
 |false=>simp
theorem Di{a_:Zy}{c_ told:Nat}{ps:Zp}{x:Nat×Nat}(c:∀x∈a_,c_.testBit x.1=true)(R:zx a_ c_ told told 0 (ps++[x])):
  aL a_ told x.2 x.1/\aL a_ told x.1 x.2/\Sub x.2 x.1/\∀z o,aL a_ told z o->Sub z o->aL a_ told o z->Sub x.2 z/\Sub o x.1:=by
 have f:br a_ c_ told told x.2=x:=R.last x (by rw[List.getLast?_append];simp);have g:∀(i:Nat) (y:Nat×Nat),(ps++[x])[i]?=some y->aL a_ told y.1 y.2/\Sub y.2 y.1/\∀z o,aL a_ told z o->Sub z o->aL a_ told o z->Sub y.2 z/\Sub o y.1:=by
  have step:∀k,(∀o,aL a_ told k o->Sub k o)->∀y,y=br a_ c_ told told k->(∀z o,aL a_ told z o->Sub z o->aL a_ told o z->Sub k z)->aL a_ told y.1 y.2/\Sub y.2 y.1/\∀z o,aL a_ told z o->Sub z o->aL a_ told o z->Sub y.2 z/\Sub o y.1:=by
   intro k hk y hy hz;have l1:aL a_ told k y.1:=by rw[hy];exact di c
   have l2:aL a_ told y.1 y.2:=by rw[hy];exact di c
   refine⟨l2,aL.anti (hk _ l1) l1 l2,λz o b h2 d=>?_⟩;have a:Sub o y.1:=aL.anti (hz z o b h2 d) l1 b;exact⟨aL.anti a d l2,a⟩
  intro i;induction i with
  |zero=>
   intro y hy;have e:=R.first;rw[hy] at e;exact step 0 (λo _=>Sub.zero _) y (Yi e) λz o _ _ _=>Sub.zero _
  |succ i m=>
   intro y hy;have hl:=(YB.mp hy).1;have j:(ps++[x])[i]?=some ((ps++[x])[i]'(by omega)):=ZD (by omega);generalize (ps++[x])[i]'(by omega)=l at j;obtain⟨n,p,r⟩:=m l j;refine step l.2 (λo t=>?_) y (R.next i l y j hy).1 λz o b h2 d=>(r z o b h2 d).1
   exact aL.anti p t n
 obtain⟨-,u,w⟩:=g ps.length x (by simp);have A:aL a_ told x.2 x.1:=by
  have:x.1=cP a_ x.2 told c_:=(congrArg Prod.fst f).symm
  rw[this];exact di c
 have B:aL a_ told x.1 x.2:=by
  have b:cP a_ x.2 told c_=x.1:=congrArg Prod.fst f;have:x.2=cP a_ x.1 told c_:=by rw[←b];exact(congrArg Prod.snd f).symm
  rw[this];exact di c
 exact⟨A,B,u,w⟩
def m7:Ss:=#v[.ret (.var 5)]
def m8:Ss:=#v[.set 6 (.fn 0 #v[.var 0,.var 1,.ix (.var 6) (.int 1),.var 3,.var 4])]
def m9:Ss:=.cons (.expr (.mt .append (.var 5) #v[.var 6])) m8
def na:Ss:=.cons (.while (.cmp .NotEq (.var 6) (.ix (.var 5) (.neg (.int 1)))) m9) m7
def nb:Ss:=.cons (.set 6 (.fn 0 #v[.var 0,.var 1,.ix (.ix (.var 5) (.neg (.int 1))) (.int 1),.var 3,.var 4])) na
def kT:Ss:=.cons (.set 5 (.lst #v[.fn 0 #v[.var 0,.var 1,.var 2,.var 3,.var 4]])) nb
def oA:Ss:=#v[.ret (.tup #v[.var 5,.fn 0 #v[.var 0,.var 1,.var 4,.var 5]])]
def mB:Ss:=.cons (.set 5 (.fn 0 #v[.var 0,.var 1,.var 3,.var 2])) oA
def lr:Ss:=#v[.setF (.var 0) "others" (.bin .BitAnd (.var 3) (.inv (.ix (.ix (.fld (.var 0) "pairs") (.neg (.int 1))) (.int 0))))]
def lu:Ss:=.cons (.setF (.var 0) "unsure" (.bin .BitAnd (.ix (.ix (.fld (.var 0) "pairs") (.neg (.int 1))) (.int 0)) (.inv (.fld (.var 0) "sure")))) lr
def lw:Ss:=.cons (.setF (.var 0) "sure" (.ix (.ix (.fld (.var 0) "pairs") (.neg (.int 1))) (.int 1))) lu
def lx:Ss:=.cons (.setF (.var 0) "pairs" (.fn 0 #v[.var 1,.var 3,.int 0,.var 2,.var 2])) lw
def i5:Ss:=.cons (.set 3 (.fn 1 #v[.mu0 "how_many" (.var 1)])) lx
def dO:Ss:=#v[.ret (.fld (.var 0) "sure")]
def dP:Ss:=#v[.ret (.fld (.var 0) "unsure")]
def lG(c:CA)(S:Addr):az:=λds M Q=>∃(a:Addr) (m:Nat) (a_:Zy) (c_ known wide narrow:Nat),ds=[.ref a,⇑c_,⇑known,⇑wide,⇑narrow]/\bh c S M a m a_/\a_.length<64/\m<64/\c_<2 ^ m/\wide<2 ^ m/\narrow<2 ^ m /\
 ∀M',ad M M'->Q (aQ (br a_ c_ wide narrow known)) M'
def lH(c:CA)(S:Addr):az:=λds M Q=>∃(a:Addr) (m:Nat) (a_:Zy) (c_ known wide narrow:Nat),ds=[.ref a,⇑c_,⇑known,⇑wide,⇑narrow]/\bh c S M a m a_/\a_.length<64/\m<64/\c_<2 ^ m/\wide<2 ^ m/\narrow<2 ^ m /\
 (∀x∈a_,c_.testBit x.1=true)/\Sub known (br a_ c_ wide narrow known).2/\∀p ps x M',M p=none->ad M M'->M' p=some (.lst ((ps++[x]).map aQ))->zx a_ c_ wide narrow known (ps++[x])->Q (.ref p) M'
def vg(m:Nat)(p:Addr)(x:Nat×Nat):List (Str×D):=[("pairs",.ref p),("sure",⇑x.2),("unsure",.int (ae x.1 x.2:Nat)),("others",.int (ae (2 ^ m-1) x.1:Nat))]
structure mC (Z:Addr) (M:MH) (a:Addr) (m:Nat) (ps:Zp) (x:Nat×Nat):Prop where
 ex:∃p,M a=some (.ins Z (vg m p x))/\M p=some (.lst ((ps++[x]).map aQ))
theorem mC.ext{Z:Addr}{M M':MH}{a:Addr}{m:Nat}{ps:Zp}{x:Nat×Nat}(e:ad M M')(h:mC Z M a m ps x):mC Z M' a m ps x:=by
 obtain⟨p,b,h2⟩:=h;exact⟨p,e _ _ b,e _ _ h2⟩
def vh:List Str:=["pairs","sure","unsure","others"]
def gR(c:CA)(S Z:Addr):az:=λds M Q=>∃(a sh:Addr) (m:Nat) (a_:Zy) (told:Nat),ds=[.ref a,.ref sh,⇑told]/\M a=some (.ins Z [])/\bh c S M sh m a_/\a_.length<64/\m<64/\told<2 ^ m /\
 ∀ps x M',ExtBut a M M'->mC Z M' a m ps x->zx a_ (2 ^ m-1) told told 0 (ps++[x])->Q .non M'
def gG(Z:Addr):az:=λds M Q=>∃(a:Addr) (m:Nat) (ps:Zp) (x:Nat×Nat),ds=[.ref a]/\mC Z M a m ps x/\Q (⇑x.2) M
def gH(Z:Addr):az:=λds M Q=>∃(a:Addr) (m:Nat) (ps:Zp) (x:Nat×Nat),ds=[.ref a]/\mC Z M a m ps x/\Q (.int (ae x.1 x.2:Nat)) M
section
variable {m:Nat}{p:Addr}{x:Nat×Nat}
theorem JH:(vg m p x).lookup ("sure" : Str)= ~~~x.2:=rfl
theorem EW:(vg m p x).lookup ("unsure" : Str)=some (.int (ae x.1 x.2:Nat)):=rfl
theorem JI:(vg m p x).lookup ("true_facts" : Str)=none:=rfl
theorem Bz:(vg m p x).lookup ("open_facts" : Str)=none:=rfl
end
abbrev wQ(x:D):List (Str×D):=[("pairs",x)]
abbrev vi(x y:D):List (Str×D):=[("pairs",x),("sure",y)]
abbrev wR(x y z:D):List (Str×D):=[("pairs",x),("sure",y),("unsure",z)]
theorem Oj(x:D):cM ("pairs" : Str) x []=wQ x:=rfl
theorem Ol(x y:D):cM ("sure" : Str) y (wQ x)=vi x y:=rfl
theorem Om(x y z:D):cM ("unsure" : Str) z (vi x y)=wR x y z:=rfl
theorem On(x y z u:D):cM ("others" : Str) u (wR x y z)=([("pairs",x),("sure",y),("unsure",z),("others",u)]:List (Str×D)):=rfl
theorem Oo(x:D):List.lookup ("pairs" : Str) (wQ x)=some x:=rfl
theorem Op(x y:D):List.lookup ("pairs" : Str) (vi x y)=some x:=rfl
theorem NU(x y:D):List.lookup ("sure" : Str) (vi x y)=some y:=rfl
theorem Oq(x y z:D):List.lookup ("pairs" : Str) (wR x y z)=some x:=rfl
theorem i6(ps:Zp)(x:Nat×Nat):cX ((ps++[x]).map aQ) (-1)=some (.tup [⇑x.1,⇑x.2]):=by
 rw[ZK];exact Fp _ _
theorem JJ(x y:Nat×Nat):a8 (aQ x) (aQ y)=decide (x=y):=by
 unfold aQ;rw[a8,cr,cr,cr,ak,ak,Bool.and_true];by_cases h:x=y
 ·subst h;simp
 ·rw[ZP h]
  cases a:((x.1:Int)==(y.1:Int)) with
  |false=>rfl
  |true=>
   rw[Bool.true_and,ZQ];intro z;have a:=eq_of_beq a;exact h (Prod.ext (Int.ofNat_inj.1 a) (Int.ofNat_inj.1 z))
theorem wU(x:Nat×Nat):aY (aQ x)=true:=rfl
theorem G9(x:Nat×Nat):dE (aQ x)<=30:=by
 unfold aQ;rw[dE,cw,cw,cw,al,al];decide
section
variable {cn:Cn}{ds:List D}{M:MH}{Q:DK}{c:CA}{S Z:Addr}
theorem zz(b:cn.F.getD 0 (λ_ _ _=>False)=dN c S)(h:lG c S ds M Q):wSs cn mB (fin Q) (ai ["","","","","",""] ds) M:=by
 obtain⟨a,m,a_,c_,known,wide,narrow,rfl,A,hn,hm,d,hw,g,q⟩:=h;show wSs cn mB (fin Q) [↑a,~~~c_,~~~known,~~~wide,~~~narrow,none] M;unfold mB;simp! only[List.set,b];refine⟨a,m,a_,c_,wide,known,rfl,A,hn,hm,d,hw,λM1 f=>?_⟩;unfold oA;simp! only[List.set,b];exact⟨a,m,a_,c_,narrow,_,rfl,A.ext f,hn,hm,d,g,λM2 j=>q M2 (f.trans j)⟩
theorem xi(n:cn.F.getD 0 (λ_ _ _=>False)=lG c S)(h:lH c S ds M Q):wSs cn kT (fin Q) (ai ["","","","","","",""] ds) M:=by
 obtain⟨a,m,a_,c_,known,wide,narrow,rfl,A,hn,hm,g,hw,j,T,hk,q⟩:=h;show wSs cn kT (fin Q) [↑a,~~~c_,~~~known,~~~wide,~~~narrow,none,none] M;have hsz:(2000:Nat)<sizeLine:=by decide
 have E:=zy (a_:=a_) g hw j;unfold kT;simp! only[List.set,n];refine⟨a,m,a_,c_,known,wide,narrow,rfl,A,hn,hm,g,hw,j,λM1 o p hp=>?_⟩;have G:M p=none:=o.free hp;have r:ad M (ac M1 p (.lst [aQ (br a_ c_ wide narrow known)])):=o.then hp;have t:ac M1 p (MO.lst [aQ (br a_ c_ wide narrow known)]) p=some (.lst (([]++[br a_ c_ wide narrow known]).map aQ)):=aa;generalize ac M1 p (MO.lst [aQ (br a_ c_ wide narrow known)])=M2 at *;clear o hp;clear M1;unfold nb;simp! only[List.set,n,t,i6,bF];refine⟨a,m,a_,c_,_,wide,narrow,rfl,A.ext r,hn,hm,g,hw,j,λM3 u=>?_⟩;have U:=u _ _ t;have V:=r.trans u;clear r t u;clear M2;unfold na;show ku _ _ _ _ _;refine⟨λk σ M'=>∃(h_:Zp) (x:Nat×Nat),gy m x=k/\σ=[↑a,~~~c_,~~~known,~~~wide,~~~narrow,↑p,some (aQ (br a_ c_ wide narrow x.2))] /\
  ad M M'/\M' p=some (.lst ((h_++[x]).map aQ))/\(∃l,x=br a_ c_ wide narrow l/\Sub l x.2)/\h_.length+gy m x<=2*m/\Bx a_ c_ wide narrow known (h_++[x]),?_,?_⟩
 ·refine⟨_,[],_,rfl,rfl,V,U,⟨known,rfl,hk⟩,?_,rfl,?_⟩
  ·have:=JG m (br a_ c_ wide narrow known)
   simpa using this
  ·intro i x y b h2
   cases i with
   |zero=>cases h2
   |succ i=>cases h2
 rintro k σ M' ⟨h_,x,rfl,rfl,I,w,⟨l,hx,B⟩,k_,R⟩;have d:∀K:Bool->MH->Prop,K (!decide (br a_ c_ wide narrow x.2=x)) M'->wT cn (.cmp .NotEq (.var 6) (.ix (.var 5) (.neg (.int 1)))) [↑a,~~~c_,~~~known,~~~wide,~~~narrow,↑p,some (aQ (br a_ c_ wide narrow x.2))] M' K:=by
  intro K J;simp! only[List.set,w,i6];rw[←JJ] at J;exact⟨⟨wU _,wU x,G9 _⟩,J⟩
 refine d _ ?_;by_cases f:br a_ c_ wide narrow x.2=x
 ·rw[YU f,Bool.not_true,ax]
  dsimp only;unfold m7;simp! only[List.set];refine q p h_ x M' G I w ⟨R,λy hy=>?_⟩;rw[List.getLast?_append] at hy;have:x=y:=by simpa using hy
  subst this;exact f
 ·rw[ZP f,Bool.not_false,aJ]
  have mono:=Dh (wide:=wide) (narrow:=narrow) T B;rw[←hx] at mono;have hb:=E l;rw[←hx] at hb;have W:=By (m:=m) mono.1 mono.2 f hb.1 (E x.2).2;have YI:((h_++[x]).map aQ).length=h_.length+1:=by rw[ZF,ZJ];rfl
  refine⟨λX Y=>∃k',k'<gy m x/\_,λX Y h=>h,?_⟩;unfold m9;simp! only[List.set,w];refine⟨rfl,by omega,?_⟩;have L:ad M (ac M' p (.lst ((h_++[x]).map aQ++[aQ (br a_ c_ wide narrow x.2)]))):=I.put G;have g5:ac M' p (MO.lst ((h_++[x]).map aQ++[aQ (br a_ c_ wide narrow x.2)])) p=some (.lst ((h_++[x]++[br a_ c_ wide narrow x.2]).map aQ)):=by
   rw[aa,ZK (l₁:=h_++[x])];rfl
  generalize ac M' p (MO.lst ((h_++[x]).map aQ++[aQ (br a_ c_ wide narrow x.2)]))=M5 at *;unfold m8;simp! only[List.set,n,aQ,bF];refine⟨a,m,a_,c_,_,wide,narrow,rfl,A.ext L,hn,hm,g,hw,j,λM6 O=>?_⟩;refine⟨_,W,h_++[x],br a_ c_ wide narrow x.2,rfl,rfl,L.trans O,O _ _ g5,⟨x.2,rfl,mono.2⟩,by rw[ZJ];simp;omega,?_,?_⟩
  ·have h0:0<(h_++[x]).length:=by simp
   rw[ZE h0];exact R.first
  ·intro i y z b h2
   have hi:i+1<(h_++[x]++[br a_ c_ wide narrow x.2]).length:=(YB.mp h2).1;simp only[ZJ,YH,YT] at hi;by_cases P:i+1<(h_++[x]).length
   ·rw[ZE (by omega)] at b
    rw[ZE P] at h2;exact R.next i y z b h2
   ·simp only[ZJ,YH,YT] at P
    have C:i=h_.length:=by omega
    subst C;have hy:y=x:=by
     rw[ZE (by simp),ZH (by omega)] at b;simpa using b.symm
    have hz:z=br a_ c_ wide narrow x.2:=by
     rw[ZH (by simp)] at h2;simpa using h2.symm
    subst hy hz;exact⟨rfl,f⟩
theorem vj(b:∀f∈vh,cn.O Z f)(B:cn.T S "how_many" = some (iy c S))(C:cn.F.getD 0 (λ_ _ _=>False)=lH c S)(E:cn.F.getD 1 (λ_ _ _=>False)=lD)(h:gR c S Z ds M Q):wSs cn i5 (fin Q) (ai ["","","",""] ds) M:=by
 obtain⟨a,sh,m,a_,told,rfl,ha,A,hn,hm,ht,q⟩:=h;show wSs cn i5 (fin Q) [↑a,↑sh,~~~told,none] M;obtain⟨ok,r_,p1,p2,p3,M_,J_,OC,G,-⟩:=A.ext (ad.refl M);have K:1<=2 ^ m:=Nat.one_le_two_pow;unfold i5;simp! only[List.set,G,sW,B,E];refine⟨trivial,sh,m,a_,rfl,A,m,rfl,by omega,?_⟩;unfold lx;simp! only[List.set,C];have j:∀f,f<m->(2 ^ m-1).testBit f=true:=λf hf=>by rw[Nat.testBit_two_pow_sub_one];exact YU hf
 refine⟨sh,m,a_,2 ^ m-1,0,told,told,rfl,A,hn,hm,by omega,ht,ht,λx hx=>j x.1 (ok.fit x hx).1,Sub.zero _,λp ps x M1 hp k o R=>?_⟩;have g:a≠p:=cp ha hp;have r:=k _ _ ha;simp only[r,Oj];refine⟨⟨b _ (by rfl'),by decide⟩,?_⟩;have t:ExtBut a M (ac M1 a (.ins Z (wQ (.ref p)))):=k.but.trans (ExtBut.upd _ _ _);have u:ac M1 a (MO.ins Z (wQ (.ref p))) a=some (.ins Z (wQ (.ref p))):=aa;have l:ac M1 a (MO.ins Z (wQ (.ref p))) p=some (.lst ((ps++[x]).map aQ)):=by rw[aG g.symm];exact o
 generalize ac M1 a (MO.ins Z (wQ (.ref p)))=M2 at *;clear k o r hp;clear M1;unfold lw;simp! only[List.set,u,Oo,l,i6,bF,Ol];refine⟨b _ (by rfl'),⟨b _ (by rfl'),(by decide:(1:Nat)<1000)⟩,?_⟩;have w:=t.trans (ExtBut.upd a M2 (.ins Z (vi (.ref p) (⇑x.2))));have y:ac M2 a (MO.ins Z (vi (.ref p) (⇑x.2))) a=some (.ins Z (vi (.ref p) (⇑x.2))):=aa;have n:ac M2 a (MO.ins Z (vi (.ref p) (⇑x.2))) p=some (.lst ((ps++[x]).map aQ)):=by rw[aG g.symm];exact l
 generalize ac M2 a (MO.ins Z (vi (.ref p) (⇑x.2)))=d at *;clear t u l;clear M2;unfold lu;simp! only[nN,List.set,y,Op,NU,n,i6,bz,df,Om];refine⟨b _ (by rfl'),b _ (by rfl'),⟨b _ (by rfl'),(by decide:(2:Nat)<1000)⟩,?_⟩;have I:=w.trans (ExtBut.upd a d (.ins Z (wR (.ref p) (⇑x.2) (.int (ae x.1 x.2:Nat)))));have J:ac d a (MO.ins Z (wR (.ref p) (⇑x.2) (.int (ae x.1 x.2:Nat)))) a=some (.ins Z (wR (.ref p) (⇑x.2) (.int (ae x.1 x.2:Nat)))):=aa;have z:ac d a (MO.ins Z (wR (.ref p) (⇑x.2) (.int (ae x.1 x.2:Nat)))) p=some (.lst ((ps++[x]).map aQ)):=by rw[aG g.symm];exact n
 generalize ac d a (MO.ins Z (wR (.ref p) (⇑x.2) (.int (ae x.1 x.2:Nat))))=L at *;clear w y n;clear d;unfold lr;simp! only[nN,List.set,J,Oq,z,i6,bz,df,On];refine⟨b _ (by rfl'),⟨b _ (by rfl'),(by decide:(3:Nat)<1000)⟩,?_⟩;exact q ps x _ (I.trans (ExtBut.upd _ _ _)) ⟨p,aa,by rw[aG g.symm];exact z⟩ R
theorem xj(b:∀f∈vh,cn.O Z f)(h:gG Z ds M Q):wSs cn dO (fin Q) (ai [""] ds) M:=by
 obtain⟨a,m,ps,x,rfl,⟨p,d,h2⟩,q⟩:=h;show wSs cn dO (fin Q) [↑a] M;unfold dO;simp! only[d,JH];exact⟨b _ (by rfl'),q⟩
theorem xk(b:∀f∈vh,cn.O Z f)(h:gH Z ds M Q):wSs cn dP (fin Q) (ai [""] ds) M:=by
 obtain⟨a,m,ps,x,rfl,⟨p,d,h2⟩,q⟩:=h;show wSs cn dP (fin Q) [↑a] M;unfold dP;simp! only[d,EW];exact⟨b _ (by rfl'),q⟩
end
theorem rk{a b:Nat}:ae a b=0↔a&&&b=a:=by have:=eg a b;omega
def vU(a_:Zy)(c_ told g s:Nat):Prop:=Sub told s/\∀x∈a_,c_.testBit x.1=true->bu s g x=true->s.testBit x.1=true
def zA(a_:Zy)(c_ told g n:Nat):Prop:=vU a_ c_ told g n/\∀s,vU a_ c_ told g s->Sub n s
theorem sX{a_:Zy}{g told c_:Nat}:∀(k step a left:Nat),left<k->(∀f,left.testBit f=(c_.testBit f && !a.testBit f))->Sub told a->(∀s,vU a_ c_ told g s->Sub a s) ->
  zA a_ c_ told g (a|||dJ ((cz a_ g k step a left).map (·.1)))
 |0,_,_,_,h,_,_,_=>absurd h (Nat.not_lt_zero _)
 |k+1,step,a,left,hk,hl,ht,hc=>by
  rw[cz];by_cases e:aH a_ a g left=[]
  ·rw[if_pos e]
   have z:a|||dJ (([]:List (Nat×Nat×Nat)).map (·.1))=a:=by simp[dJ]
   rw[z];refine⟨⟨ht,λx hx l q=>?_⟩,hc⟩;cases b:a.testBit x.1 with
   |true=>rfl
   |false=>
    have m:left.testBit x.1=true:=by rw[hl,l,b];rfl
    cases f1:bW a_ a g x.1 with
    |none=>rw[nW f1 hx rfl] at q;cases q
    |some r=>
     have:=dh.2 ⟨m,f1⟩
     rw[e] at this;cases this
  ·rw[if_neg e]
   have n:=sX (a_:=a_) (g:=g) (told:=told) (c_:=c_) k (step+1) (a|||cu (aH a_ a g left)) (ae left (cu (aH a_ a g left))) (by have:=pF e;omega) ?_ (ht.trans (Sub.or_l _ _)) ?_
   ·refine cast (congrArg (zA a_ c_ told g) ?_) n
    refine XY λf=>?_
    rw[XZ,XZ,XZ,bS,bS,ZK,ZL];have z:(cu (aH a_ a g left)).testBit f=decide (f∈(aH a_ a g left).map ((·.1)∘λ(x:Nat×Nat)=>(x.1,step,x.2))):=by
     unfold cu;rw[bS];rfl
    rw[z,Bool.or_assoc];congr 1;rw[←Bool.decide_or];simp only[YA]
   ·intro f
    rw[aV,hl,XZ];cases c_.testBit f<;>cases a.testBit f<;>cases(cu (aH a_ a g left)).testBit f<;>rfl
   ·intro s c
    refine(hc s c).or λf hf=>?_
    obtain⟨r,o⟩:=tM.1 hf;obtain⟨j,d⟩:=dh.1 o;obtain⟨x,hx,rfl,hq⟩:=sV d;rw[hl,YX] at j;exact c.2 x (YS hx) j.1 (ka (hc s c) hq)
theorem AC(a_:Zy)(g told c_:Nat):zA a_ c_ told g (cP a_ g told c_):=
 sX _ 1 told _ (YK _) (λf=>aV _ _ _) (Sub.refl _) λs a=>a.1
theorem AD{a_:Zy}{told S U g:Nat}(d:aL a_ told S U)(L2:aL a_ told U S)(f:Sub S U)(j:Sub S g)(h2:Sub g U):aL a_ told g (cP a_ g S (ae U S))/\Sub S (cP a_ g S (ae U S))/\Sub (cP a_ g S (ae U S)) U:=by
 obtain⟨C,B⟩:=AC a_ g S (ae U S);have b:∀x∈a_,bu U g x=true->U.testBit x.1=true:=λx hx q=>d.1.2 x hx (nV j q)
 have c:Sub (cP a_ g S (ae U S)) U:=B U ⟨f,λx hx _ q=>b x hx q⟩;refine⟨⟨⟨L2.1.1.trans C.1,λx hx q=>?_⟩,λs a=>B s ⟨L2.2 s ⟨a.1,λx hx q=>a.2 x hx (nV h2 q)⟩,λx hx _ q=>a.2 x hx q⟩⟩,C.1,c⟩;have hu:U.testBit x.1=true:=b x hx (ka c q);cases e:S.testBit x.1 with
 |true=>exact C.1 _ e
 |false=>exact C.2 x hx (by rw[aV,hu,e];rfl) q
def aE(s_:Nat->Nat)(y:Nat×Nat):Nat×Nat:=(y.1|||s_ y.2,y.2&&&s_ (y.1|||s_ y.2))
inductive fZ (s_:Nat->Nat):Nat×Nat->Nat×Nat->Prop
 |stop {y:Nat×Nat}:¬((aE s_ y).1&&&(aE s_ y).2=(aE s_ y).1/\aE s_ y≠y)->fZ s_ y (aE s_ y)
 |go {y w:Nat×Nat}:(aE s_ y).1&&&(aE s_ y).2=(aE s_ y).1->aE s_ y≠y->fZ s_ (aE s_ y) w->fZ s_ y w
theorem fZ.det{s_:Nat->Nat}{y w c:Nat×Nat}(h:fZ s_ y w)(h':fZ s_ y c):w=c:=by
 induction h with
 |stop n=>
  cases h' with
  |stop _=>rfl
  |go a b _=>exact absurd ⟨a,b⟩ n
 |go a b _ d=>
  cases h' with
  |stop n=>exact absurd ⟨a,b⟩ n
  |go _ _ h2=>exact d h2
theorem fZ.mono{s_:Nat->Nat}{y w:Nat×Nat}(h:fZ s_ y w):Sub y.1 w.1/\Sub w.2 y.2:=by
 have st:∀y:Nat×Nat,Sub y.1 (aE s_ y).1/\Sub (aE s_ y).2 y.2:=λy=>⟨Sub.or_l _ _,λf hf=>by
  have hf:(y.2&&&s_ (y.1|||s_ y.2)).testBit f=true:=hf;rw[XX,YX] at hf;exact hf.1⟩
 induction h with
 |stop n=>exact st _
 |go a b _ c=>exact⟨(st _).1.trans c.1,c.2.trans (st _).2⟩
theorem wV{s_:Nat->Nat}{m:Nat}{y:Nat×Nat}(a:aE s_ y≠y)(b:y.2<2 ^ m)(c:(aE s_ y).1<2 ^ m):gy m ((aE s_ y).2,(aE s_ y).1)<gy m (y.2,y.1):=by
 refine By (x:=(y.2,y.1)) (y:=((aE s_ y).2,(aE s_ y).1)) (λf hf=>?_) (Sub.or_l _ _) (λz=>a (Prod.ext (congrArg Prod.snd z) (congrArg Prod.fst z))) b c;have hf:(y.2&&&s_ (y.1|||s_ y.2)).testBit f=true:=hf;rw[XX,YX] at hf;exact hf.1
inductive Tr where
 |broken (f:Nat) | world (s:Nat) | split (f:Nat) (a b:Tr)
def Tr.told:Tr->D
 |.broken f=>.tup [.str "broken",⇑f]
 |.world s=>.tup [.str "world",⇑s]
 |.split f a b=>.tup [.str "split",⇑f,a.told,b.told]
def Tr.deep:Tr->Nat
 |.split _ a b=>max a.deep b.deep+1
 |_=>0
structure fK (a_:Zy) (told s U:Nat):Prop where
 l1:aL a_ told s U
 l2:aL a_ told U s
 su:Sub s U
 mn:∀z o,aL a_ told z o->Sub z o->aL a_ told o z->Sub s z/\Sub o U
theorem fK.uniq{a_:Zy}{told s U a b:Nat}(h:fK a_ told s U)(h':fK a_ told a b):s=a/\U=b:=by
 obtain⟨c,d⟩:=h.mn a b h'.l1 h'.su h'.l2;obtain⟨f,g⟩:=h'.mn s U h.l1 h.su h.l2;exact⟨c.antisymm f,g.antisymm d⟩
section
variable {a_:Zy}{told S U:Nat}{s_:Nat->Nat}
def HM(a_:Zy)(told S U:Nat)(s_:Nat->Nat):Prop:=∀g,Sub S g->Sub g U->aL a_ told g (s_ g)/\Sub S (s_ g)/\Sub (s_ g) U
def Within(S U:Nat)(y:Nat×Nat):Prop:=(Sub S y.1/\Sub y.1 U)/\(Sub S y.2/\Sub y.2 U)
theorem Sub.and{a b c:Nat}(h:Sub a b)(h':Sub a c):Sub a (b&&&c):=λf hf=>by rw[XX,h f hf,h' f hf];rfl
theorem Sub.and_l(a b:Nat):Sub (a&&&b) a:=λf hf=>by rw[XX,YX] at hf;exact hf.1
theorem kb(ok:HM a_ told S U s_){y:Nat×Nat}(h:Within S U y):Within S U (aE s_ y):=by
 obtain⟨⟨f,h2⟩,c,d⟩:=h;have a:Sub S (y.1|||s_ y.2):=f.trans (Sub.or_l _ _);have b:Sub (y.1|||s_ y.2) U:=h2.or (ok _ c d).2.2;exact⟨⟨a,b⟩,c.and (ok _ a b).2.1,(Sub.and_l _ _).trans d⟩
theorem Ha(R:fK a_ told S U):HM a_ told S U (λg=>cP a_ g S (ae U S)):=λg a h2=>AD R.l1 R.l2 R.su a h2
end
def ng:Ss:=#v[.setF (.var 0) "unsure" (.mu0 "open_facts" (.var 3))]
def nh:Ss:=.cons (.setF (.var 0) "sure" (.mu0 "true_facts" (.var 3))) ng
def i7:Ss:=.cons (.setF (.var 0) "sheet" (.var 1)) nh
def ni(j:Nat):Ss:=.cons (.ite (.cmp .Gt (.var 4) (.glob j)) #v[.never] .nil) i7
def nj(j:Nat):Ss:=.cons (.set 4 (.bi .len #v[.fn 0 #v[.mu0 "open_facts" (.var 3)]])) (ni j)
def kU(j:Nat):Ss:=.cons (.set 3 (.fn 1 #v[.var 1,.var 2])) (nj j)
def dr:Ss:=#v[.ret (.fn 0 #v[.fld (.var 0) "sheet",.fld (.var 0) "unsure",.fld (.var 0) "sure",.var 1])]
def jh:Ss:=#v[.ret (.tup #v[.var 3,.var 4])]
def ji:Ss:=#v[.set 4 (.bin .BitAnd (.var 2) (.mu "least_against" (.var 0) #v[.var 3]))]
def jj:Ss:=.cons (.set 3 (.bin .BitOr (.var 1) (.mu "least_against" (.var 0) #v[.var 2]))) ji
def jk:Ss:=.cons (.set 2 (.var 4)) jj
def jl:Ss:=.cons (.set 1 (.var 3)) jk
def jm:Ss:=.cons (.while (.and (.cmp .Eq (.bin .BitAnd (.var 3) (.inv (.var 4))) (.int 0)) (.or (.cmp .NotEq (.var 3) (.var 1)) (.cmp .NotEq (.var 4) (.var 2)))) jl) jh
def jn:Ss:=.cons (.set 4 (.bin .BitAnd (.var 2) (.mu "least_against" (.var 0) #v[.var 3]))) jm
def gz:Ss:=.cons (.set 3 (.bin .BitOr (.var 1) (.mu "least_against" (.var 0) #v[.var 2]))) jn
def i8(sh:Addr)(s u:Nat):List (Str×D):=[("sheet",.ref sh),("sure",⇑s),("unsure",⇑u)]
def oB:List Str:=["sheet","sure","unsure"]
structure fT (c:CA) (S V:Addr) (M:MH) (a:Addr) (m:Nat) (a_:Zy) (s u:Nat):Prop where
 ex:∃sh,M a=some (.ins V (i8 sh s u))/\bh c S M sh m a_
 few:a_.length<64
 mlt:m<64
 slt:s<2 ^ m
 ult:u<2 ^ m
theorem fT.ext{c:CA}{S V:Addr}{M M':MH}{a:Addr}{m:Nat}{a_:Zy}{s u:Nat}(e:ad M M')(h:fT c S V M a m a_ s u):fT c S V M' a m a_ s u:=by
 obtain⟨⟨sh,b,h2⟩,d,f,g,j⟩:=h;exact⟨⟨sh,e _ _ b,h2.ext e⟩,d,f,g,j⟩
abbrev aR(a_:Zy)(s u:Nat):Nat->Nat:=λg=>cP a_ g s u
def jQ(c:CA)(S V:Addr):az:=λds M Q=>∃(a:Addr) (m:Nat) (a_:Zy) (s u g:Nat),ds=[.ref a,⇑g]/\fT c S V M a m a_ s u/\∀M',ad M M'->Q (.int (aR a_ s u g:Nat)) M'
def pM(c:CA)(S V:Addr):az:=λds M Q=>∃(a:Addr) (m:Nat) (a_:Zy) (s u:Nat) (y:Nat×Nat),ds=[.ref a,⇑y.1,⇑y.2]/\fT c S V M a m a_ s u/\y.1<2 ^ m/\y.2<2 ^ m /\
 ∀w M',fZ (aR a_ s u) y w->w.1<2 ^ m->w.2<2 ^ m->ad M M'->Q (aQ w) M'
def gap(m:Nat)(y:Nat×Nat):Nat:=cnt m y.2-cnt m y.1
def kc(c:CA)(S V:Addr):az:=λds M Q=>∃(a sh:Addr) (m:Nat) (a_:Zy) (told:Nat),ds=[.ref a,.ref sh,⇑told]/\M a=some (.ins V [])/\bh c S M sh m a_/\a_.length<64/\m<=12/\told<2 ^ m /\
 ∀s U M',fK a_ told s U->ExtBut a M M'->fT c S V M' a m a_ s (ae U s)->Q .non M'
section
variable {sh:Addr}{s u:Nat}
theorem zB:(i8 sh s u).lookup ("sheet" : Str)=↑sh:=rfl
theorem BA:(i8 sh s u).lookup ("sure" : Str)= ~~~s:=rfl
theorem wW:(i8 sh s u).lookup ("unsure" : Str)= ~~~u:=rfl
theorem pN:(i8 sh s u).lookup ("least_against" : Str)=none:=rfl
theorem AE:(i8 sh s u).lookup ("narrowed" : Str)=none:=rfl
end
abbrev zC(x:D):List (Str×D):=[("sheet",x)]
abbrev zD(x y:D):List (Str×D):=[("sheet",x),("sure",y)]
theorem Os(x:D):cM ("sheet" : Str) x []=zC x:=rfl
theorem Ot(x y:D):cM ("sure" : Str) y (zC x)=zD x y:=rfl
theorem Ou(x y z:D):cM ("unsure" : Str) z (zD x y)=([("sheet",x),("sure",y),("unsure",z)]:List (Str×D)):=rfl
theorem cj(a b:Nat):ae a b<=a:=by have:=eg a b;omega
theorem b0{a b:Nat}:ae a b=0↔a&&&b=a:=by have:=eg a b;omega
theorem zE(a b:Nat):(((ae a b:Nat):Int)==0)=decide (a&&&b=a):=by
 by_cases h:a&&&b=a
 ·rw[YU h,b0.2 h];rfl
 ·rw[ZP h,ZQ]
  intro z;exact h (b0.1 (by omega))
theorem LH(a b:Nat):(!((a:Int)==(b:Int))) = !decide (a=b):=by
 by_cases h:a=b
 ·subst h;simp
 ·rw[ZP h,beq_false_of_ne (by omega)]
theorem tS{n:Nat}:bd n=[]↔n=0:=by
 constructor
 ·intro h
  refine XY λf=>?_
  rw[Nat.zero_testBit];cases e:n.testBit f with
  |false=>rfl
  |true=>
   have:=(bK n f).2 e
   rw[h] at this;cases this
 ·rintro rfl
  rfl
theorem gI{a b V:Addr}{M:MH}{o:MO}(ha:M a=some (.ins V []))(hb:M b=some o)(h:o≠.ins V []):hid a M b=some o:=by
 rw[rf]
 ·exact hb
 ·intro z;subst z;rw[ha] at hb;cases hb;exact h rfl
theorem bh.hid{c:CA}{S V a sh:Addr}{M:MH}{m:Nat}{a_:Zy}(ha:M a=some (.ins V []))(h:bh c S M sh m a_):bh c S (SH.hid a M) sh m a_:=by
 obtain⟨ok,r_,p1,p2,p3,M_,J_,OC,j,h2,⟨l,n,o⟩,⟨p,g⟩,u,y,z⟩:=h;refine⟨ok,r_,p1,p2,p3,M_,J_,OC,gI ha j (λw=>by cases w),?_,⟨gI ha l (λw=>by cases w),n,λf r b=>gI ha (o f r b) (λw=>by cases w)⟩,⟨gI ha p (λw=>by cases w),g.1,λk r x A B=>gI ha (g.2 k r x A B) (λw=>by cases w)⟩,gI ha u (λw=>by cases w),y,λf r b=>gI ha (z f r b) (λw=>by cases w)⟩;exact kn (λrs x b=>kn (λr t d=>gI ha d (λw=>by cases t<;>cases w)) b) h2
section
variable {cn:Cn}{ds:List D}{M:MH}{Q:DK}{c:CA}{S Z V:Addr}
theorem tT(b:∀f∈oB,cn.O V f)(d:cn.F.getD 0 (λ_ _ _=>False)=dN c S)(h:jQ c S V ds M Q):wSs cn dr (fin Q) (ai ["",""] ds) M:=by
 obtain⟨a,m,a_,s,u,g,rfl,⟨⟨sh,j,h2⟩,hn,hm,k,hu⟩,q⟩:=h;show wSs cn dr (fin Q) [↑a,~~~g] M;unfold dr;simp! only[List.set,j,zB,BA,wW,d];exact⟨b _ (by rfl'),b _ (by rfl'),b _ (by rfl'),sh,m,a_,u,s,g,rfl,h2,hn,hm,hu,k,q⟩
theorem JK{a_:Zy}{s u m:Nat}(a:s<2 ^ m)(hu:u<2 ^ m)(g:Nat):aR a_ s u g<2 ^ m:=vT a hu
theorem Hb{a_:Zy}{s u m:Nat}(a:s<2 ^ m)(hu:u<2 ^ m){y:Nat×Nat}(b:y.1<2 ^ m)(h2:y.2<2 ^ m):(aE (aR a_ s u) y).1<2 ^ m/\(aE (aR a_ s u) y).2<2 ^ m:=
 ⟨Nat.or_lt_two_pow b (JK a hu _),XE Nat.and_le_left h2⟩
theorem AF (n:cn.T V "least_against" = some (jQ c S V)) (h:pM c S V ds M Q):wSs cn gz (fin Q) (ai ["","","","",""] ds) M:=by
 obtain ⟨a,m,a_,s,u,j,rfl,A,I,J,q⟩:=h
 show wSs cn gz (fin Q) [↑a,~~~j.1,~~~j.2,none,none] M
 obtain ⟨sh,p,-⟩:=A.ex
 have L:=A.slt
 have hu:=A.ult
 unfold gz
 simp! only [List.set,p,pN,n]
 refine ⟨trivial,a,m,a_,s,u,j.2,rfl,A,λM1 b=>?_⟩
 simp! only [gE]
 unfold jn
 simp! only [List.set,b _ _ p,pN,n]
 refine ⟨trivial,a,m,a_,s,u,_,rfl,A.ext b,λM2 f=>?_⟩
 simp! only [jH]
 have O:=b.trans f
 unfold jm
 show ku _ _ _ _ _
 refine ⟨λk σ M'=>∃ y:Nat × Nat,gy m (y.2,y.1) = k/\σ = [↑a,~~~y.1,~~~y.2,some (.int ((aE (aR a_ s u) y).1:Int)),some (.int ((aE (aR a_ s u) y).2:Int))] /\
  ad M M'/\y.1 < 2 ^ m/\y.2 < 2 ^ m/\∀ w,fZ (aR a_ s u) y w->fZ (aR a_ s u) j w,?_,?_⟩
 ·exact ⟨_,j,rfl,rfl,O,I,J,λw h=>h⟩
 rintro k σ M' ⟨y,rfl,rfl,o,P,C,hw⟩
 obtain ⟨r,E⟩:=Hb (a_:=a_) L hu P C
 have l:∀ K:Bool->MH->Prop,K (decide ((aE (aR a_ s u) y).1 &&& (aE (aR a_ s u) y).2 = (aE (aR a_ s u) y).1) && !decide (aE (aR a_ s u) y = y)) M' ->
   wT cn (.and (.cmp .Eq (.bin .BitAnd (.var 3) (.inv (.var 4))) (.int 0)) (.or (.cmp .NotEq (.var 3) (.var 1)) (.cmp .NotEq (.var 4) (.var 2)))) [↑a,~~~y.1,~~~y.2,some (.int ((aE (aR a_ s u) y).1:Int)),some (.int ((aE (aR a_ s u) y).2:Int))] M' K:=by
  intro K d
  simp! only [ao,aq,aA,ar,al,aC,ak,au,YL,and_self,true_and,and_true,nN,List.set,df,zE,LH]
  generalize aE (aR a_ s u) y = z at *
  cases t1:decide (z.1 &&& z.2 = z.1) with
  | false=>rw [t1,YD] at d; exact d
  | true=>
   rw [t1,Bool.true_and] at d
   by_cases b:z.1 = y.1
   ·by_cases f:z.2 = y.2
    ·have:z = y:=Prod.ext b f
     rw [YU this] at d
     rw [YU b,YU f]
     exact d
    ·have:z ≠ y:=λw=>f (congrArg Prod.snd w)
     rw [ZP this] at d
     rw [YU b,ZP f]
     exact d
   ·have:z ≠ y:=λw=>b (congrArg Prod.fst w)
    rw [ZP this] at d
    rw [ZP b]
    exact d
 refine l _ ?_
 by_cases g:(aE (aR a_ s u) y).1 &&& (aE (aR a_ s u) y).2 = (aE (aR a_ s u) y).1/\aE (aR a_ s u) y ≠ y
 ·rw [YU g.1,ZP g.2,Bool.not_false,Bool.and_true,aJ]
  have R:=wV g.2 C r
  refine ⟨λU W=>∃ k',k' < gy m (y.2,y.1)/\_,λU W h=>h,?_⟩
  have F:=A.ext o
  have G:=o _ _ p
  have t:∀ w,fZ (aR a_ s u) (aE (aR a_ s u) y) w->fZ (aR a_ s u) j w:=λw h=>hw w (.go g.1 g.2 h)
  generalize aE (aR a_ s u) y = z at *
  unfold jl
  simp! only [List.set]
  unfold jk
  simp! only [List.set]
  unfold jj
  simp! only [List.set,G,pN,n]
  refine ⟨trivial,a,m,a_,s,u,z.2,rfl,F,λM4 B=>?_⟩
  simp! only [gE]
  unfold ji
  simp! only [List.set,B _ _ G,pN,n]
  refine ⟨trivial,a,m,a_,s,u,_,rfl,F.ext B,λM5 X=>?_⟩
  simp! only [jH]
  exact ⟨_,R,z,rfl,rfl,o.trans (B.trans X),r,E,t⟩
 ·have Y:(decide ((aE (aR a_ s u) y).1 &&& (aE (aR a_ s u) y).2 = (aE (aR a_ s u) y).1) && !decide (aE (aR a_ s u) y = y)) = false:=by
   by_cases b:(aE (aR a_ s u) y).1 &&& (aE (aR a_ s u) y).2 = (aE (aR a_ s u) y).1
   ·have f:aE (aR a_ s u) y = y:=Classical.byContradiction λw=>g ⟨b,w⟩
    rw [YU f,Bool.not_true,Bool.and_false]
   ·rw [ZP b,YD]
  rw [Y,ax]
  dsimp only
  unfold jh
  simp! only [List.set]
  exact q _ M' (hw _ (.stop g)) r E o
theorem zF{m:Nat}{y w:Nat×Nat}(a:Sub y.1 w.1)(h2:Sub w.2 y.2):gap m w<=gap m y:=by
 unfold gap
 have:=lO (m:=m) a
 have:=lO (m:=m) h2
 omega
theorem tU{m f:Nat}{w:Nat×Nat}(d:Sub w.1 w.2)(j:w.1.testBit f=false)(h2:w.2.testBit f=true)(b:w.2<2 ^ m):gap m (w.1|||2 ^ f,w.2)<gap m w:=by
 unfold gap;have hb:(w.1|||2 ^ f).testBit f=true:=by rw[XZ,Nat.testBit_two_pow_self,Bool.or_true]
 have a:Sub (w.1|||2 ^ f) w.2:=d.or λg hg=>by
  rw[Nat.testBit_two_pow] at hg;have:f=g:=XM hg
  subst this;exact h2
 have k:=sv (m:=m) (Sub.or_l w.1 (2 ^ f)) (λz=>by rw[←z,j] at hb;cases hb) (XE a.le b);have l:=lO (m:=m) a;show cnt m w.2-cnt m (w.1|||2 ^ f)<cnt m w.2-cnt m w.1;omega
theorem oa{m f:Nat}{w:Nat×Nat}(a:Sub w.1 w.2)(d:w.1.testBit f=false)(h2:w.2.testBit f=true)(b:w.2<2 ^ m):gap m (w.1,ae w.2 (2 ^ f))<gap m w:=by
 unfold gap;have hb:(ae w.2 (2 ^ f)).testBit f=false:=by rw[aV,Nat.testBit_two_pow_self,Bool.not_true,Bool.and_false]
 have j:Sub (ae w.2 (2 ^ f)) w.2:=λg hg=>by rw[aV,YX] at hg;exact hg.1
 have k:Sub w.1 (ae w.2 (2 ^ f)):=λg hg=>by
  rw[aV,a g hg,Nat.testBit_two_pow];cases e:decide (f=g) with
  |false=>rfl
  |true=>
   have:f=g:=XM e
   subst this;rw[d] at hg;cases hg
 have l:=sv (m:=m) j (λz=>by rw[z,h2] at hb;cases hb) b;have n:=lO (m:=m) k;show cnt m (ae w.2 (2 ^ f))-cnt m w.1<cnt m w.2-cnt m w.1;omega
theorem xl{j:Nat}(gj:cn.G.getD j .non=.int 12)(t:∀f∈oB,cn.O V f)(UI:cn.T Z "true_facts" = some (gG Z))(I:cn.T Z "open_facts" = some (gH Z))(f0:cn.F.getD 0 (λ_ _ _=>False)=dZ)(f1:cn.F.getD 1 (λ_ _ _=>False)=bD Z (gR c S Z))
  (h:kc c S V ds M Q):wSs cn (kU j) (fin Q) (ai ["","","","",""] ds) M:=by
 obtain⟨a,sh,m,a_,told,rfl,ha,A,hn,hm,ht,q⟩:=h;show wSs cn (kU j) (fin Q) [↑a,↑sh,~~~told,none,none] M;have Wk:1<=2 ^ m:=Nat.one_le_two_pow;unfold kU;simp! only[List.set,f1];intro z hz;have u:ad M (ac M z (.ins Z [])):=ad.new hz;refine⟨z,sh,m,a_,told,rfl,aa,A.ext u,hn,by omega,ht,λps x M1 J y R=>⟨rfl,?_⟩⟩;have n:ad M M1:=ExtBut.ext u J hz;obtain⟨zp,B,K⟩:=y.ex;have L:=n _ _ ha;have ab:a≠z:=cp ha hz;have P:=A.ext n;have C:∀f,f<m->(2 ^ m-1).testBit f=true:=λf hf=>by rw[Nat.testBit_two_pow_sub_one];exact YU hf
 have o:x.1<2 ^ m/\x.2<2 ^ m:=by
  have:=R.last x (by rw[List.getLast?_append];simp)
  rw[←this];exact zy (by omega) ht ht x.2
 obtain⟨L1,L2,S1,Lz⟩:=Di (λx hx=>C x.1 (A.ok.fit x hx).1) R;clear R J u hz;unfold nj;simp! only[List.set,B,Bz,I,f0];refine⟨trivial,z,m,ps,x,rfl,y,ae x.1 x.2,rfl,ZR (XE (cj _ _) o.1) (Nat.pow_le_pow_right (by decide) (by omega)),λp2 M2 y' d U=>?_⟩;simp! only[U,eh];have k_:=zo (XE (cj x.1 x.2) o.1);unfold ni;simp! only[List.set,gj];rw[ZP (by omega)];show wSs cn i7 _ _ M2;have g:=d _ _ L;have k:=gI g (d _ _ B) (λw=>by cases w);have W:=gI g (d _ _ K) (λw=>by cases w);have p:=(P.ext d).hid g;have X:ExtBut a M M2:=(n.trans d).but;clear n L B K y P d U y';clear M1;have O1:=t "sheet" (by rfl');have O2:=t "sure" (by rfl');have O3:=t "unsure" (by rfl');have r:mC Z (hid a M2) z m ps x:=⟨zp,k,W⟩;unfold i7;simp! only[List.set,g,Os];refine⟨⟨O1,by decide⟩,?_⟩;have Y:=X.trans (ExtBut.upd a M2 (.ins V (zC (.ref sh))));have Q1:ac M2 a (MO.ins V (zC (.ref sh))) a=some (.ins V (zC (.ref sh))):=aa;have l:=eM a M2 (.ins V (zC (.ref sh)));generalize ac M2 a (MO.ins V (zC (.ref sh)))=b at *;rw[←l] at p r k;clear l X g W;clear M2;unfold nh;simp! only[List.set,dg a b _ _ k,JI,UI];refine⟨trivial,z,m,ps,x,rfl,r.ext (dg a b),?_⟩;simp only[Q1,Ot];refine⟨⟨O2,(by decide:(1:Nat)<1000)⟩,?_⟩;have b4:=Y.trans (ExtBut.upd a b (.ins V (zD (.ref sh) (⇑x.2))));have RD:ac b a (MO.ins V (zD (.ref sh) (⇑x.2))) a=some (.ins V (zD (.ref sh) (⇑x.2))):=aa;have l:=eM a b (.ins V (zD (.ref sh) (⇑x.2)));generalize ac b a (MO.ins V (zD (.ref sh) (⇑x.2)))=E at *;rw[←l] at p r k;clear l Y Q1;clear b;unfold ng;simp! only[List.set,dg a E _ _ k,Bz,I];refine⟨trivial,z,m,ps,x,rfl,r.ext (dg a E),?_⟩;simp only[RD,Ou];refine⟨⟨O3,(by decide:(2:Nat)<1000)⟩,?_⟩;refine q x.2 x.1 _ ⟨L1,L2,S1,Lz⟩ (b4.trans (ExtBut.upd _ _ _)) ⟨⟨sh,aa,?_⟩,hn,by omega,o.2,XE (cj _ _) o.1⟩;rw[←eM a E (.ins V [("sheet",.ref sh),("sure",⇑x.2),("unsure",.int (ae x.1 x.2:Nat))])] at p;exact p.ext (dg _ _)
end
theorem HN{a:Type}(x y z u:a)(xs:List a):cX (x::y::z::u::xs) 3=some u:=c9 (j:=3) rfl
theorem wX(p:Nat->Bool)(q:D->Bool)(h:∀n:Nat,q (⇑n)=p n)(a:Zj):([]++(nats a).filter q)=nats (a.filter p):=by
 unfold nats;rw[XB,List.filter_map];congr 1;exact List.filter_congr λn _=>h n
section
variable {cn:Cn}{ds:List D}{M:MH}{Q:DK}{c:CA}{S V:Addr}
theorem BB{b:Type}(l:List b):(((l.length:Nat):Int)==0)=decide (l.length=0):=by
 cases l with
 |nil=>rfl
 |cons a l=>rw[ZP (by rw[YH];omega),ZQ,YH];omega
end
def c0(s_:Nat->Nat):Nat->D->Nat×Nat->Prop
 |0,_,_=>False
 |d+1,x,y=>∃w,fZ s_ y w /\
  ((ae w.1 w.2≠0/\∃f:Nat,x=.tup [.str "broken",⇑f]/\(ae w.1 w.2).testBit f=true) \/
   (w.1=w.2/\x=.tup [.str "world",⇑w.1]) \/
   (ae w.1 w.2=0/\w.1≠w.2/\∃(f:Nat) (a b:D),x=.tup [.str "split",⇑f,a,b]/\(ae w.2 w.1).testBit f=true/\c0 s_ d a (w.1|||2 ^ f,w.2)/\c0 s_ d b (w.1,ae w.2 (2 ^ f))))
def Tr.small:Tr->Prop
 |.broken f=>f<2 ^ 64
 |.world f=>f<2 ^ 64
 |.split f a b=>f<2 ^ 64/\a.small/\b.small
inductive Gr (s_:Nat->Nat):Nat×Nat->Tr->Prop
 |broken {y w:Nat×Nat}{f:Nat}:fZ s_ y w->(ae w.1 w.2).testBit f=true->Gr s_ y (.broken f)
 |world {y w:Nat×Nat}:fZ s_ y w->w.1=w.2->Gr s_ y (.world w.1)
 |split {y w:Nat×Nat}{f:Nat}{a b:Tr}:fZ s_ y w->Sub w.1 w.2->(ae w.2 w.1).testBit f=true->Gr s_ (w.1|||2 ^ f,w.2) a->Gr s_ (w.1,ae w.2 (2 ^ f)) b->Gr s_ y (.split f a b)
theorem EX{n f:Nat}(h:n.testBit f=true):n≠0:=λz=>by rw[z,Nat.zero_testBit] at h;cases h
theorem Hc{s_:Nat->Nat}{y:Nat×Nat}{t:Tr}(T:Gr s_ y t):∀{d:Nat},t.deep<d->c0 s_ d t.told y:=by
 induction T with
 |@broken y w f n e=>
  intro d hd;cases d with
  |zero=>exact absurd hd (Nat.not_lt_zero _)
  |succ d=>exact⟨w,n,.inl ⟨EX e,f,rfl,e⟩⟩
 |@world y w n e=>
  intro d hd;cases d with
  |zero=>exact absurd hd (Nat.not_lt_zero _)
  |succ d=>exact⟨w,n,.inr (.inl ⟨e,rfl⟩)⟩
 |@split y w f a b n s e _ _ c g=>
  intro d hd;have hd:max a.deep b.deep+1<d:=hd;cases d with
  |zero=>exact absurd hd (Nat.not_lt_zero _)
  |succ d=>
   refine⟨w,n,.inr (.inr ⟨rk.2 (cU.2 s),λz=>?_,f,_,_,rfl,e,c (by omega),g (by omega)⟩)⟩;have:ae w.2 w.1=0:=rk.2 (cU.2 (by rw[z];exact Sub.refl _))
   exact EX e this
def vk:D->Bool
 |.non=>true
 |.bl _=>true
 |.int _=>true
 |.str _=>true
 |_=>false
inductive bR (M:MH):D->Prop
 |atom {x:D}:vk x=true->bR M x
 |lst {a:Addr}{xs:List D}:M a=some (.lst xs)->bR M (.ref a)
 |dic {a:Addr}{xs:_}:M a=some (.dic xs)->bR M (.ref a)
 |tup {xs:List D}:(∀x,xs[0]?=some x->aY x=true/\dE x<=30)->(∀x,xs[1]?=some x->vk x=true)->(∀x∈xs,bR M x)->bR M (.tup xs)
theorem bR.ext{M M':MH}{x:D}(h:bR M x)(e:ad M M'):bR M' x:=by
 induction h with
 |atom h=>exact .atom h
 |lst h=>exact .lst (e _ _ h)
 |dic h=>exact .dic (e _ _ h)
 |tup a h2 _ b=>exact .tup a h2 b
theorem jR (M:MH):∀ t:Tr,bR M t.told
 | .broken f=>.tup (λx h=>by cases h; exact ⟨rfl,YL _⟩) (λx h=>by cases h; rfl) λx hx=>by
  rcases ZZ.1 hx with rfl | h
  ·exact .atom rfl
  rcases ZZ.1 h with rfl | h
  ·exact .atom rfl
  cases h
 | .world f=>.tup (λx h=>by cases h; exact ⟨rfl,YL _⟩) (λx h=>by cases h; rfl) λx hx=>by
  rcases ZZ.1 hx with rfl | h
  ·exact .atom rfl
  rcases ZZ.1 h with rfl | h
  ·exact .atom rfl
  cases h
 | .split f a b=>.tup (λx h=>by cases h; exact ⟨rfl,YL _⟩) (λx h=>by cases h; rfl) λx hx=>by
  rcases ZZ.1 hx with rfl | h
  ·exact .atom rfl
  rcases ZZ.1 h with rfl | h
  ·exact .atom rfl
  rcases ZZ.1 h with rfl | h
  ·exact jR M a
  rcases ZZ.1 h with rfl | h
  ·exact jR M b
  cases h
theorem rl{s_:Nat->Nat}:∀{d:Nat}{x:D}{y:Nat×Nat},c0 s_ d x y->∃(z:Str) (f:Nat) (r:List D),x=.tup (.str z::⇑f::r)
 |0,_,_,h=>h.elim
 |d+1,x,y,⟨w,_,h⟩=>by
  rcases h with⟨_,f,rfl,_⟩ | ⟨_,rfl⟩ | ⟨_,_,f,a,b,rfl,_⟩
  ·exact⟨_,_,_,rfl⟩
  ·exact⟨_,_,_,rfl⟩
  ·exact⟨_,_,_,rfl⟩
theorem vm{s_:Nat->Nat}{d:Nat}{x:D}{y w:Nat×Nat}(n:fZ s_ y w):c0 s_ (d+1) x y ↔
  ((ae w.1 w.2≠0/\∃f:Nat,x=.tup [.str "broken",⇑f]/\(ae w.1 w.2).testBit f=true) \/
   (w.1=w.2/\x=.tup [.str "world",⇑w.1]) \/
   (ae w.1 w.2=0/\w.1≠w.2/\∃(f:Nat) (a b:D),x=.tup [.str "split",⇑f,a,b]/\(ae w.2 w.1).testBit f=true/\c0 s_ d a (w.1|||2 ^ f,w.2)/\c0 s_ d b (w.1,ae w.2 (2 ^ f)))):=by
 constructor
 ·rintro⟨w',n',h⟩
  cases n.det n';exact h
 ·exact λh=>⟨w,n,h⟩
theorem eO{x:D}{z:Str}:a8 x (.str z)=true↔x=.str z:=by
 cases x with
 |str a=>
  show(a==z)=true↔_;rw[beq_iff_eq];exact⟨λh=>by rw[h],λh=>by cases h;rfl⟩
 |_=>exact⟨λh=>(by cases h),λh=>by cases h⟩
theorem Hd{b:Bool}{p:Prop}(h:b=true↔p):(∀c:Bool,(c=true↔p)->c=b):=λc hc=>Bool.eq_iff_iff.2 (hc.trans h.symm)
def kW:Ss:=#v[.ret (.mu "root_holds" (.fn 0 #v[.var 0,.var 1]) #v[.var 2])]
def eV:Ss:=#v[.ret (.mu "node_holds" (.var 0) #v[.var 1,.fld (.var 0) "sure",.bin .BitOr (.fld (.var 0) "sure") (.fld (.var 0) "unsure")])]
def iB:Ss:=#v[.ret (.and (.mu "node_holds" (.var 0) #v[.ix (.var 1) (.int 2),.bin .BitOr (.ix (.var 4) (.int 0)) (.var 6),.ix (.var 4) (.int 1)]) (.mu "node_holds" (.var 0) #v[.ix (.var 1) (.int 3),.ix (.var 4) (.int 0),.bin .BitAnd (.ix (.var 4) (.int 1)) (.inv (.var 6))]))]
def dQ:Ss:=.cons (.set 6 (.bin .LShift (.int 1) (.ix (.var 1) (.int 1)))) iB
def dR:Ss:=.cons (.ite (.or (.cmp .NotEq (.bi .len #v[.var 1]) (.int 4)) (.or (.cmp .NotEq (.ix (.var 1) (.int 0)) (.str "split")) (.not (.val (.mu "is_one_of" (.var 0) #v[.ix (.var 1) (.int 1),.bin .BitAnd (.ix (.var 4) (.int 1)) (.inv (.ix (.var 4) (.int 0)))]))))) #v[.ret (.bl false)] .nil) dQ
def dS:Ss:=.cons (.ite (.cmp .Eq (.ix (.var 4) (.int 0)) (.ix (.var 4) (.int 1))) #v[.ret (.and (.cmp .Eq (.bi .len #v[.var 1]) (.int 2)) (.and (.cmp .Eq (.ix (.var 1) (.int 0)) (.str "world")) (.cmp .Eq (.ix (.var 1) (.int 1)) (.ix (.var 4) (.int 0)))))] .nil) dR
def iC:Ss:=.cons (.ite (.cmp .NotEq (.var 5) (.int 0)) #v[.ret (.and (.cmp .Eq (.bi .len #v[.var 1]) (.int 2)) (.and (.cmp .Eq (.ix (.var 1) (.int 0)) (.str "broken")) (.mu "is_one_of" (.var 0) #v[.ix (.var 1) (.int 1),.var 5])))] .nil) dS
def iD:Ss:=.cons (.set 5 (.bin .BitAnd (.ix (.var 4) (.int 0)) (.inv (.ix (.var 4) (.int 1))))) iC
def dU:Ss:=.cons (.set 4 (.mu "narrowed" (.var 0) #v[.var 2,.var 3])) iD
def bO:Ss:=.cons (.ite (.or (.not (.val (.bi .isinst #v[.var 1,.ty "tuple"]))) (.or (.cmp .Lt (.bi .len #v[.var 1]) (.int 2)) (.not (.val (.fn 0 #v[.ix (.var 1) (.int 1)]))))) #v[.ret (.bl false)] .nil) dU
def fL:Ss:=#v[.ret (.and (.fn 0 #v[.var 1,.mu0 "how_many" (.fld (.var 0) "sheet")]) (.fn 1 #v[.var 2,.var 1]))]
def mD:az:=λds M Q=>∃x:D,ds=[x]/\vk x=true/\∀b,(b=true ↔ ∃i:Int,x=.int i)->Q (.bl b) M
def vV(c:CA)(S V:Addr):az:=λds M Q=>∃(a:Addr) (m:Nat) (a_:Zy) (s u:Nat) (i:Int) (g:Nat),ds=[.ref a,.int i,⇑g]/\fT c S V M a m a_ s u/\g<2 ^ m/\∀b,(b=true ↔ ∃f:Nat,i=(f:Int)/\g.testBit f=true)->Q (.bl b) M
def kd(c:CA)(S V:Addr)(d:Nat):az:=λds M Q=>∃(a:Addr) (m:Nat) (a_:Zy) (s u:Nat) (y:Nat×Nat) (x:D),ds=[.ref a,x,⇑y.1,⇑y.2]/\fT c S V M a m a_ s u/\y.1<2 ^ m/\y.2<2 ^ m/\gap m y<d/\bR M x/\∀b M',(b=true↔c0 (aR a_ s u) d x y)->ad M M'->Q (.bl b) M'
def oe(c:CA)(S V:Addr)(d:Nat):az:=λds M Q=>∃(a:Addr) (m:Nat) (a_:Zy) (s u:Nat) (x:D),ds=[.ref a,x]/\fT c S V M a m a_ s u/\m<d/\bR M x/\∀b M',(b=true↔c0 (aR a_ s u) d x (s,s|||u))->ad M M'->Q (.bl b) M'
def ke(c:CA)(S:Addr):az:=λds M Q=>∃(sh:Addr) (m:Nat) (a_:Zy) (told:Nat) (x:D),ds=[.ref sh,⇑told,x]/\bh c S M sh m a_/\a_.length<64/\m<=12/\told<2 ^ m/\bR M x /\
 ∀b s U M',fK a_ told s U->(b=true↔c0 (aR a_ s (ae U s)) 13 x (s,U))->ad M M'->Q (.bl b) M'
section
variable {sh:Addr}{s u:Nat}
theorem vW:(i8 sh s u).lookup ("node_holds" : Str)=none:=rfl
theorem He:(i8 sh s u).lookup ("root_holds" : Str)=none:=rfl
theorem zG:(i8 sh s u).lookup ("is_one_of" : Str)=none:=rfl
end
section
variable {cn:Cn}{ds:List D}{M:MH}{Q:DK}{c:CA}{S V:Addr}
theorem Dj(h:mD ds M Q):wSs cn eL (fin Q) (ai [""] ds) M:=by
 obtain⟨x,rfl,hx,q⟩:=h;show wSs cn eL (fin Q) [some x] M;unfold eL;cases x with
 |int i=>
  simp! only[dG];refine⟨by decide,?_⟩;show bG true _ _;refine⟨by decide,?_⟩;exact q true ⟨λ_=>⟨i,rfl⟩,λ_=>rfl⟩
 |bl i=>
  simp! only[dG];refine⟨by decide,?_⟩;show bG true _ _;refine⟨by decide,?_⟩;exact q false ⟨λh=>(by cases h),λ⟨_,h⟩=>by cases h⟩
 |non=>
  simp! only[dG];refine⟨by decide,?_⟩;exact q false ⟨λh=>(by cases h),λ⟨_,h⟩=>by cases h⟩
 |str z=>
  simp! only[dG];refine⟨by decide,?_⟩;exact q false ⟨λh=>(by cases h),λ⟨_,h⟩=>by cases h⟩
 |_=>cases hx
theorem zH(j:∀f∈oB,cn.O V f)(k:cn.T S "how_many" = some (iy c S))(l:cn.F.getD 0 (λ_ _ _=>False)=da)(d:cn.F.getD 1 (λ_ _ _=>False)=dz)(h:vV c S V ds M Q):wSs cn fL (fin Q) (ai ["","",""] ds) M:=by
 obtain⟨a,m,a_,s,u,i,g,rfl,A,hg,q⟩:=h;show wSs cn fL (fin Q) [↑a,some (.int i),~~~g] M;obtain⟨sh,n,h2⟩:=A.ex;have o:=j "sheet" (by rfl');obtain⟨ok,r_,p1,p2,p3,M_,J_,OC,p,t⟩:=id h2;unfold fL;simp! only[List.set,n,zB,p,sW,k,l,d];refine⟨o,trivial,sh,m,a_,rfl,h2,i,(m:Int),rfl,?_⟩;by_cases b:0<=i/\i<(m:Int)
 ·rw[YU b.1,YU b.2]
  simp! only[Bool.and_self,d];refine⟨(g:Int),i,rfl,b.1,?_⟩;obtain⟨f,rfl⟩:∃f:Nat,i=(f:Int):=⟨i.toNat,by omega⟩;rw[fD];refine q _ ⟨λh=>⟨f,rfl,h⟩,λ⟨r,e,h⟩=>?_⟩;have:r=f:=by omega
  subst this;exact h
 ·have:(decide (0<=i)&&decide (i<(m:Int)))=false:=by
   cases e:(decide (0<=i)&&decide (i<(m:Int))) with
   |false=>rfl
   |true=>rw[YX,XO,XO] at e;exact absurd e b
  rw[this];simp! only[];refine q false ⟨λh=>(by cases h),λ⟨f,e,h⟩=>?_⟩
  have:=dM hg h
  exact absurd ⟨by omega,by omega⟩ b
theorem xm{d:Nat}(U:cn.T V "narrowed" = some (pM c S V))(UI:cn.T V "is_one_of" = some (vV c S V))(QA:cn.T V "node_holds" = some (kd c S V d))(f0:cn.F.getD 0 (λ_ _ _=>False)=mD)(h:kd c S V (d+1) ds M Q):wSs cn bO (fin Q) (ai ["","","","","","",""] ds) M:=by
 obtain⟨a,m,a_,s,u,y,x,rfl,A,b1,W,OY,ok,q⟩:=h;show wSs cn bO (fin Q) [↑a,some x,~~~y.1,~~~y.2,none,none,none] M;obtain⟨sh,L,-⟩:=A.ex;have hm:=A.mlt;have no:(∀(z:Str) (f:Nat) (r:List D),x≠.tup (.str z::⇑f::r))->Q (.bl false) M:=λhn=>q false M ⟨λh=>(by cases h),λh=>by
  obtain⟨z,f,r,e⟩:=rl h;exact absurd e (hn z f r)⟩ (ad.refl M)
 have t:∀T:String,dG x M=some T->uC T "tuple" = false->(∀xs,x≠.tup xs)->wSs cn bO (fin Q) [↑a,some x,~~~y.1,~~~y.2,none,none,none] M:=by
  intro T U hF hx;unfold bO;simp! only[List.set,U,hF,Bool.not_false];exact⟨by decide,no λz f r e=>hx _ e⟩
 cases ok with
 |@lst b xs hb=>exact t "list" (by show(match M b with | some (.lst _)=>some "list" | some (.dic _)=>some "dict" | _=>none)=_;rw[hb]) rfl λxs z=>by cases z
 |@dic b xs hb=>exact t "dict" (by show(match M b with | some (.lst _)=>some "list" | some (.dic _)=>some "dict" | _=>none)=_;rw[hb]) rfl λxs z=>by cases z
 |atom hx=>
  cases x with
  |non=>exact t "NoneType" rfl rfl λxs z=>by cases z
  |bl _=>exact t "bool" rfl rfl λxs z=>by cases z
  |int _=>exact t "int" rfl rfl λxs z=>by cases z
  |str _=>exact t "str" rfl rfl λxs z=>by cases z
  |_=>cases hx
 |@tup xs Y Z O=>
  unfold bO;simp_all! only[List.set,dG,f0];refine⟨by decide,?_⟩;show bG (!true) _ _;rw[Bool.not_true,ax];match xs,Y,Z,O,q,no with
  |[],_,_,_,_,no=>exact no λz f r e=>by cases e
  |[_],_,_,_,_,no=>exact no λz f r e=>by cases e
  |x0::x1::r,Y,Z,O,q,no=>
   have p0:=Y x0 rfl;have p1:=Z x1 rfl;rw[ZP (by rw[YH,YH];omega)];simp only[ax,bF];refine⟨x1,rfl,p1,λb hb=>?_⟩;simp! only[];cases b with
   |false=>exact no λz f r e=>by cases e;exact absurd (hb.2 ⟨_,rfl⟩) (by decide)
   |true=>
    obtain⟨i,rfl⟩:=hb.1 rfl;simp only[Bool.not_true,ax];show wSs cn dU _ _ _;unfold dU;simp! only[List.set,L,AE,U];refine⟨trivial,a,m,a_,s,u,y,rfl,A,b1,W,λw M1 N w1 B j=>?_⟩;have q:=λb M' (hb:b=true↔_)=>q b M' (hb.trans (vm N).symm)
    have P:=A.ext j;have R:=j _ _ L;have mono:=N.mono;unfold iD;simp! only[aQ,nN,List.set,bz,bF,df];have RY:((((x0::D.int i::r).length:Nat):Int)==2)=decide (r=[]):=by
     cases r with
     |nil=>rfl
     |cons _ _=>rw[ZP (by simp)];exact beq_false_of_ne (by simp only[YH];omega)
    have Wm:((((x0::D.int i::r).length:Nat):Int)==4)=decide (r.length=2):=by
     by_cases e:r.length=2
     ·rw[YU e,YH,YH,e];rfl
     ·rw[ZP e];exact beq_false_of_ne (by simp only[YH];omega)
    have Z8:∀(z:Str) (σ:DS) (K:DK),σ[1]?=some (some (.tup (x0::.int i::r)))->K (.bl (a8 x0 (.str z))) M1->wE cn (.cmp .Eq (.ix (.var 1) (.int 0)) (.str z)) σ M1 K:=by
     intro z σ K Tz h;obtain⟨p1,p2⟩:=p0;cases x0 with
     |ref _=>cases p1
     |_=>
      simp! only[Tz,bz];exact⟨⟨p1,rfl,p2⟩,h⟩
    have Wn:∀(z:Str) (σ:DS) (K:Bool->MH->Prop),σ[1]?=some (some (.tup (x0::.int i::r)))->K (!a8 x0 (.str z)) M1->wT cn (.cmp .NotEq (.ix (.var 1) (.int 0)) (.str z)) σ M1 K:=by
     intro z σ K Tz h;obtain⟨p1,p2⟩:=p0;cases x0 with
     |ref _=>cases p1
     |_=>
      simp! only[Tz,bz];exact⟨⟨p1,rfl,p2⟩,h⟩
    unfold iC;generalize hX:(E.cmp CmpOp.Eq (E.ix (E.var 1) (E.int 0)) (E.str "broken"))=X;simp_all! only[List.set,bz,bF,RY];by_cases l:ae w.1 w.2=0
    ·rw[l]
     clear hX;show wSs cn dS _ _ _;have Wo:((w.1:Int)==(w.2:Int))=decide (w.1=w.2):=by
      by_cases e:w.1=w.2
      ·rw[e,XF,YU rfl]
      ·rw[ZP e];exact beq_false_of_ne (by omega)
     unfold dS;generalize hX:(E.cmp CmpOp.Eq (E.ix (E.var 1) (E.int 0)) (E.str "world"))=X;simp_all! only[List.set,bz,bF,RY,Wo];by_cases hw:w.1=w.2
     ·rw[YU hw]
      simp only[aJ];have Wq:∀{p:Prop},(ae w.1 w.2≠0/\p)->False:=λh=>h.1 l
      by_cases k:r=[]
      ·subst k
       rw[YU rfl,aJ,←hX];refine Z8 _ _ _ rfl ?_;cases he:a8 x0 (.str "world") with
       |false=>
        refine q false M1 ⟨λh=>(by cases h),λh=>?_⟩ j;rcases h with h | ⟨_,e⟩ | ⟨_,e,_⟩
        ·exact(Wq h).elim
        ·cases e;rw[eO.2 rfl] at he;cases he
        ·exact absurd hw e
       |true=>
        have C:=eO.1 he;subst C;simp only[aJ];refine q _ M1 ⟨λh=>.inr (.inl ⟨hw,by rw[eq_of_beq h]⟩),λh=>?_⟩ j;rcases h with h | ⟨_,e⟩ | ⟨_,e,_⟩
        ·exact(Wq h).elim
        ·cases e;exact XF _
        ·exact absurd hw e
      ·rw[ZP k,ax]
       refine q false M1 ⟨λh=>(by cases h),λh=>?_⟩ j;rcases h with h | ⟨_,e⟩ | ⟨_,e,_⟩
       ·exact(Wq h).elim
       ·cases e;exact absurd rfl k
       ·exact absurd hw e
     ·rw[ZP hw]
      simp only[ax];clear hX;show wSs cn dR _ _ _;have sw:Sub w.1 w.2:=cU.1 (b0.1 l);have only:∀{f:Nat}{a b:D},D.tup (x0::.int i::r)=.tup [.str "split",⇑f,a,b]->x0=.str "split"/\i=(f:Int)/\r=[a,b]:=λh=>by cases h;exact⟨rfl,rfl,rfl⟩
      have G:∀b M',(b=true ↔ ∃(f:Nat) (a b:D),(x0=.str "split"/\i=(f:Int)/\r=[a,b])/\(ae w.2 w.1).testBit f=true/\c0 (aR a_ s u) d a (w.1|||2 ^ f,w.2)/\c0 (aR a_ s u) d b (w.1,ae w.2 (2 ^ f)))->ad M M'->Q (.bl b) M':=by
       intro b M' hb e;refine q b M' (hb.trans ⟨λ⟨f,a,b,⟨L,h2,I⟩,h4⟩=>.inr (.inr ⟨l,hw,f,a,b,by rw[L,h2,I],h4⟩),λh=>?_⟩) e;rcases h with h | ⟨e,_⟩ | ⟨_,_,f,a,b,e,h4⟩
       ·exact absurd l h.1
       ·exact absurd e hw
       ·exact⟨f,a,b,only e,h4⟩
      clear q no;unfold dR;generalize hX:(T.cmp CmpOp.NotEq (E.ix (E.var 1) (E.int 0)) (E.str "split"))=X;simp_all! only[nN,List.set,bz,bF,Wm,df];by_cases k:r.length=2
      ·obtain⟨n,o,rfl⟩:∃n o,r=[n,o]:=by
        match r,k with
        |[n,o],_=>exact⟨n,o,rfl⟩
       rw[YU k];simp only[Bool.not_true,ax];rw[←hX];refine Wn _ _ _ rfl ?_;cases he:a8 x0 (.str "split") with
       |false=>
        exact G false M1 ⟨λh=>(by cases h),λ⟨f,a,b,h,_⟩=>by rw[h.1,eO.2 rfl] at he;cases he⟩ j
       |true=>
        have C:=eO.1 he;subst C;simp only[Bool.not_true,ax,R,zG,UI];refine⟨trivial,a,m,a_,s,u,i,_,rfl,P,XE (cj _ _) B,λb hb=>?_⟩;cases b with
        |false=>
         exact G false M1 ⟨λh=>(by cases h),λ⟨f,a,b,h,h2,_⟩=>absurd (hb.2 ⟨f,h.2.1,h2⟩) (by decide)⟩ j
        |true=>
         obtain⟨f,rfl,hf⟩:=hb.1 rfl;have TB:=hf;rw[aV,YX,XR] at hf;have L_:f<m:=dM B hf.1;have gw:=zF (m:=m) mono.1 mono.2;have ga:=tU sw hf.2 hf.1 B;have gb:=oa sw hf.2 hf.1 B;have Wr:bR M1 n:=(O n (.tail _ (.tail _ (.head _)))).ext j;have Ws:bR M1 o:=(O o (.tail _ (.tail _ (.tail _ (.head _))))).ext j;simp only[Bool.not_true,ax];show wSs cn dQ _ _ _;unfold dQ;simp! only[List.set,bz,bF];refine⟨⟨by omega (splitDisjunctions:=true),by omega (splitDisjunctions:=true),by decide⟩,?_⟩;rw[oz];unfold iB;simp! only[nN,List.set,bz,bF,at2,HN,gE,df,R,vW,QA];refine⟨trivial,a,m,a_,s,u,(w.1|||2 ^ f,w.2),n,rfl,P,Nat.or_lt_two_pow w1 (Nat.pow_lt_pow_right (by decide) L_),B,by omega,Wr,λc1 M3 R9 J=>?_⟩;have same:∀{g:Nat},(f:Int)=(g:Int)->g=f:=λh=>by omega
         cases c1 with
         |false=>
          refine G false M3 ⟨λh=>(by cases h),λ⟨g,a2,W,⟨_,h2,I⟩,_,h5,_⟩=>?_⟩ (j.trans J);cases same h2;cases I;exact R9.2 h5
         |true=>
          simp only[aJ,J _ _ R,vW,QA];refine⟨trivial,a,m,a_,s,u,(w.1,ae w.2 (2 ^ f)),o,rfl,P.ext J,w1,XE (cj _ _) B,by omega,Ws.ext J,λc2 M4 PV e4=>?_⟩;refine G c2 M4 (PV.trans ⟨λh=>⟨f,n,o,⟨rfl,rfl,rfl⟩,TB,R9.1 rfl,h⟩,λ⟨g,a2,W,⟨_,h2,I⟩,_,_,h6⟩=>?_⟩) (j.trans (J.trans e4));cases same h2;cases I;exact h6
      ·rw[ZP k]
       simp only[Bool.not_false,aJ];exact G false M1 ⟨λh=>(by cases h),λ⟨f,a,b,h,_⟩=>by rw[h.2.2] at k;exact absurd rfl k⟩ j
    ·rw[beq_false_of_ne (by omega:((ae w.1 w.2:Nat):Int)≠0)]
     simp only[Bool.not_false,aJ];by_cases k:r=[]
     ·subst k
      rw[YU rfl,aJ,←hX];refine Z8 _ _ _ rfl ?_;cases he:a8 x0 (.str "broken") with
      |false=>
       refine q false M1 ⟨λh=>(by cases h),λh=>?_⟩ j;rcases h with⟨_,f,e,_⟩ | ⟨e,_⟩ | ⟨e,_⟩
       ·cases e;rw[eO.2 rfl] at he;cases he
       ·exact absurd (b0.2 (cU.2 (by rw[e];exact Sub.refl _))) l
       ·exact absurd e l
      |true=>
       have C:=eO.1 he;subst C;simp only[aJ,R,zG,UI];refine⟨trivial,a,m,a_,s,u,i,_,rfl,P,XE (cj _ _) w1,λb hb=>q b M1 (hb.trans ⟨λ⟨f,e,h⟩=>.inl ⟨l,f,by rw[e],h⟩,λh=>?_⟩) j⟩;rcases h with⟨_,f,e,h⟩ | ⟨e,_⟩ | ⟨e,_⟩
       ·cases e;exact⟨f,rfl,h⟩
       ·exact absurd (b0.2 (cU.2 (by rw[e];exact Sub.refl _))) l
       ·exact absurd e l
     ·rw[ZP k,ax]
      refine q false M1 ⟨λh=>(by cases h),λh=>?_⟩ j;rcases h with⟨_,f,e,_⟩ | ⟨e,_⟩ | ⟨e,_⟩
      ·cases e;exact absurd rfl k
      ·exact absurd (b0.2 (cU.2 (by rw[e];exact Sub.refl _))) l
      ·exact absurd e l
theorem xn{d:Nat}(g:∀f∈oB,cn.O V f)(l:cn.T V "node_holds" = some (kd c S V d))(h:oe c S V d ds M Q):wSs cn eV (fin Q) (ai ["",""] ds) M:=by
 obtain⟨a,m,a_,s,u,x,rfl,A,hd,ok,q⟩:=h;show wSs cn eV (fin Q) [↑a,some x] M;obtain⟨sh,n,-⟩:=A.ex;have b:=g "sure" (by rfl');have j:=g "unsure" (by rfl');unfold eV;simp! only[List.set,n,BA,wW,gE,vW,l];have hu:=Nat.or_lt_two_pow A.slt A.ult;have k:gap m (s,s|||u)<d:=by
  unfold gap
  have:=ss m (s|||u)
  show cnt m (s|||u)-cnt m s<d;omega
 first
  |exact⟨trivial,b,b,j,a,m,a_,s,u,(s,s|||u),x,rfl,A,A.slt,hu,k,ok,q⟩
  |exact⟨b,b,j,trivial,a,m,a_,s,u,(s,s|||u),x,rfl,A,A.slt,hu,k,ok,q⟩
theorem xo{d:Nat}(hd:d=13)(k:cn.T V "root_holds" = some (oe c S V d))(l:cn.F.getD 0 (λ_ _ _=>False)=bD V (kc c S V))(h:ke c S ds M Q):wSs cn kW (fin Q) (ai ["","",""] ds) M:=by
 obtain⟨sh,m,a_,told,x,rfl,A,hn,hm,ht,ok,q⟩:=h;show wSs cn kW (fin Q) [↑sh,~~~told,some x] M;unfold kW;simp! only[List.set,l];intro v a;have f:ad M (ac M v (.ins V [])):=ad.new a;refine⟨v,sh,m,a_,told,rfl,aa,A.ext f,hn,hm,ht,λs U M1 R n g=>⟨rfl,?_⟩⟩;have j:ad M M1:=ExtBut.ext f n a;obtain⟨o,p,-⟩:=g.ex;simp! only[p,He,k];subst hd;refine⟨trivial,v,m,a_,s,ae U s,x,rfl,g,by omega,ok.ext j,λb M2 hb r=>q b s U M2 R ?_ (j.trans r)⟩;rw[EV R.su] at hb;exact hb
end
def oC:Ss:=#v[.ret (.var 3)]
def fU:Ss:=#v[.ite (.and (.cmp .Eq (.bin .BitAnd (.bin .RShift (.var 4) (.var 5)) (.int 1)) (.int 0)) (.val (.fn 0 #v[.var 6,.var 3,.var 2]))) #v[.set 4 (.bin .BitOr (.var 4) (.bin .LShift (.int 1) (.var 5)))] .nil]
def oE:Ss:=#v[.for (.tp [5,6]) (.seq (.var 0)) fU]
def oF:Ss:=.cons (.set 3 (.var 4)) oE
def oG:Ss:=.cons (.while (.cmp .NotEq (.var 4) (.var 3)) oF) oC
def oH:Ss:=.cons (.set 4 (.var 1)) oG
def mE:Ss:=.cons (.set 3 (.neg (.int 1))) oH
def fV:az:=λds M Q=>∃(p:Addr) (m:Nat) (l_:List D) (a_:Zy) (told g:Nat),ds=[.ref p,⇑told,⇑g]/\M p=some (.lst l_)/\aM M l_ a_/\eG m a_/\told<2 ^ m /\
 ∀(n:Nat) M',aL a_ told g n->n<2 ^ m->ad M M'->Q (⇑n) M'
section
variable {cn:Cn}{ds:List D}{M:MH}{Q:DK}{c:CA}{S Z:Addr}
theorem zI (f0:cn.F.getD 0 (λ_ _ _=>False) = pL) (h:fV ds M Q):wSs cn mE (fin Q) (ai ["","","","","","",""] ds) M:=by
 obtain ⟨p,m,l_,a_,told,g,rfl,hp,hR,ok,ht,q⟩:=h
 show wSs cn mE (fin Q) [↑p,~~~told,~~~g,none,none,none,none] M
 have hok:∀ x ∈ a_,∀ t ∈ x.2,CT.ok t:=λx hx t ht=>CT.fit_ok (by have:=ok.most; omega) ((ok.fit x hx).2.2 t ht)
 have ab:=ok.most
 have C:∀ (E:cv) (h more:Nat) (x:Row) (u:Addr) (M5:MH),x.1 < m->(∀ t ∈ x.2,t.ok)->M5 u = some (.lst (x.2.map CT.told)) ->
   (∀ j o,ad M5 o->Sub more j->(bu h g x = true->j.testBit x.1 = true)->(∀ s,(bu h g x = true->s.testBit x.1 = true)->Sub more s->Sub j s)->(more < 2 ^ m->j < 2 ^ m)->E.nx [↑p,~~~told,~~~g,~~~h,~~~j,~~~x.1,↑u] o) ->
   wSs cn fU E [↑p,~~~told,~~~g,~~~h,~~~more,~~~x.1,↑u] M5:=by
  intro E h more x u M5 hx ht O w
  unfold fU
  simp! only [ao,aq,aA,ar,al,aC,ak,au,YL,and_self,true_and,and_true,List.set,f0]
  refine ⟨by omega,?_⟩
  rw [PyProof.Rows.bitAnd_m1]
  show bG (nP (more:Int) (x.1:Int) == 0) _ _
  rw [yQ,fD]
  cases b:more.testBit x.1 with
  | true=>exact w more M5 (ad.refl M5) (Sub.refl _) (λ_=>b) (λs _ a=>a) (λh=>h)
  | false=>
   refine ⟨u,x.2,(h:Int),(g:Int),rfl,O,ht,λo A=>?_⟩
   simp! only []
   cases b2:x.2.all (CT.carried (h:Int) (g:Int)) with
   | false=>
    refine w more o A (Sub.refl _) (λz=>?_) (λs _ a=>a) (λh=>h)
    have z:x.2.all (CT.carried (h:Int) (g:Int)) = true:=z
    rw [b2] at z; cases z
   | true=>
    simp! only [List.set]
    refine ⟨⟨by omega (splitDisjunctions:=true),by omega (splitDisjunctions:=true),by decide⟩,?_⟩
    rw [oz,gE]
    have tb:(more ||| 2 ^ x.1).testBit x.1 = true:=by rw [XZ,Nat.testBit_two_pow_self,Bool.or_true]
    refine w (more ||| 2 ^ x.1) o A (Sub.or_l _ _) (λ_=>tb) (λs a hm=>hm.or λf hf=>?_) (λhm=>Nat.or_lt_two_pow hm (Nat.pow_lt_pow_right (by decide) hx))
    rw [Nat.testBit_two_pow] at hf
    have:x.1 = f:=XM hf
    subst this
    exact a b2
 have G:∀ (E:cv) (h:Nat) (xs:List D) (B:Zy) (more:Nat) (l n:Zz) (M5:MH),aM M xs B->(∀ x ∈ B,x ∈ a_)->ad M M5->more < 2 ^ m ->
   (∀ j l n o,ad M o->Sub more j->(∀ x ∈ B,bu h g x = true->j.testBit x.1 = true)->(∀ s,(∀ x ∈ B,bu h g x = true->s.testBit x.1 = true)->Sub more s->Sub j s)->j < 2 ^ m->E.nx [↑p,~~~told,~~~g,~~~h,~~~j,l,n] o) ->
   aI (λM'=>M' p = some (.lst l_)) (.tp [5,6]) (wSs cn fU) E xs [↑p,~~~told,~~~g,~~~h,~~~more,l,n] M5:=by
  intro E h xs B more l n M5 hx
  induction hx generalizing more l n M5 with
  | nil=>
   intro _ I hm w
   rw [aI]
   exact w more l n M5 I (Sub.refl _) (λx hx=>by cases hx) (λs _ a=>a) hm
  | @cons d x xs B hd _ ih=>
   intro X I hm w
   obtain ⟨u,rfl,O⟩:=hd
   have hx:=X x (.head _)
   rw [aI]
   refine ⟨rfl,?_⟩
   refine C _ h more x u M5 (ok.fit x hx).1 (hok x hx) (I _ _ O) ?_
   intro j o A s1 s2 s3 s4
   refine ⟨I.trans A _ _ hp,ih j _ _ o (λx h=>X x (.tail _ h)) (I.trans A) (s4 hm) ?_⟩
   intro TC l n M7 e7 J P R T
   refine w TC l n M7 e7 (s1.trans J) (λy hy hq=>?_) (λs a U=>R s (λy hy=>a y (.tail _ hy)) (s3 s (a x (.head _)) U)) T
   rcases ZZ.1 hy with rfl | hy
   ·exact J _ (s2 hq)
   ·exact P y hy hq
 unfold mE
 simp! only [List.set]
 unfold oH
 simp! only [List.set]
 unfold oG
 show ku _ _ _ _ _
 refine ⟨λk σ M'=>∃ (r:Int) (more:Nat) (l n:Zz),(((2 ^ m:Nat):Int) - r).toNat = k/\σ = [↑p,~~~told,~~~g,some (.int r),~~~more,l,n] /\
  ad M M'/\Sub told more/\(∀ s,vb a_ told g s->Sub more s)/\more < 2 ^ m/\(r = -1 \/ ∃ h:Nat,r = (h:Int)/\Sub h more/\∀ x ∈ a_,bu h g x = true->more.testBit x.1 = true),?_,?_⟩
 ·exact ⟨_,-1,told,none,none,rfl,rfl,ad.refl M,Sub.refl _,λs a=>a.1,ht,.inl rfl⟩
 rintro k σ M' ⟨r,more,l,n,rfl,rfl,V,Y,h2,W,h4⟩
 have L:∀ K:Bool->MH->Prop,K (!((more:Int) == r)) M'->wT cn (.cmp .NotEq (.var 4) (.var 3)) [↑p,~~~told,~~~g,some (.int r),~~~more,l,n] M' K:=by
  intro K hK
  simp! only [ao,aq,aA,ar,al,aC,ak,au,YL,and_self,true_and,and_true,List.set]
  exact hK
 refine L _ ?_
 by_cases he:(more:Int) = r
 ·rw [he,XF,Bool.not_true,ax]
  dsimp only
  unfold oC
  simp! only [List.set]
  rcases h4 with z | ⟨h,hh,a,hc⟩
  ·omega
  ·have:h = more:=by omega
   subst this
   rw [hh]
   exact q h M' ⟨⟨Y,hc⟩,h2⟩ W V
 ·rw [beq_false_of_ne he,Bool.not_false,aJ]
  refine ⟨λi_ Oy=>∃ k',k' < (((2 ^ m:Nat):Int) - r).toNat/\_,λi_ Oy h=>h,?_⟩
  unfold oF
  simp! only [List.set]
  unfold oE
  simp! only [List.set,V _ _ hp]
  have I_:r < (more:Int):=by
   rcases h4 with z | ⟨h,hh,a,hc⟩
   ·omega
   ·have:=a.le
    omega
  have ap:(more:Int) < ((2 ^ m:Nat):Int):=Int.ofNat_lt.2 W
  refine G _ more l_ a_ more l n M' hR (λx h=>h) V W ?_
  intro j w5 w6 o A J P R T
  refine ⟨_,?_,(more:Int),j,w5,w6,rfl,rfl,A,Y.trans J,λs a=>R s (λx hx hq=>a.2 x hx (ka (h2 s a) hq)) (h2 s a),T,.inr ⟨more,rfl,J,P⟩⟩
  omega
end
def c5:Ss:=#v[.ret (.bin .Add (.var 4) (.fn 0 #v[.var 0,.var 1,.var 2,.var 3]))]
def c6:Ss:=#v[.expr (.mt .append (.var 4) #v[.tup #v[.bin .Add (.bin .Mult (.int 2) (.var 5)) (.int 1),.lst #v[.tup #v[.str "lack",.bin .Mult (.int 2) (.var 5)]]]])]
def c7:Ss:=.cons (.expr (.mt .append (.var 4) #v[.tup #v[.bin .Mult (.int 2) (.var 5),.lst #v[.tup #v[.str "lack",.bin .Add (.bin .Mult (.int 2) (.var 5)) (.int 1)]]]])) c6
def jo:Ss:=.cons (.for (.nm 5) (.rg1 #v[.bin .Mod (.bin .FloorDiv (.fn 1 #v[.var 0,.int 1]) (.int 2)) (.bin .Add (.bin .FloorDiv (.var 1) (.int 2)) (.int 1))]) c7) c5
def gA:Ss:=.cons (.set 4 (.lst .nil)) jo
def kf:az:=λds M Q=>∃(a:Addr) (ns:Zi) (m b most:Nat),ds=[.ref a,⇑m,⇑b,⇑most]/\M a=some (.rol (ns.map .int))/\(0<m/\m<64)/\most<=300 /\
 ∀p l_ a_ M',M' p=some (.lst l_)->aM M' l_ a_->eG m a_->a_.length<=most+m->ad M M'->Q (.ref p) M'
theorem vn(ns:Zj):bo (nats ns)=true:=by rw[iA];exact q0 _
theorem zJ(ns:Zj):cw (nats ns)<=30:=by rw[iA,tJ];decide
section
variable {cn:Cn}{ds:List D}{M:MH}{Q:DK}{c:CA}{S Z:Addr}
theorem xp(f0:cn.F.getD 0 (λ_ _ _=>False)=mZ)(f1:cn.F.getD 1 (λ_ _ _=>False)=dm)(h:kf ds M Q):wSs cn gA (fin Q) (ai ["","","","","",""] ds) M:=by
 obtain⟨a,ns,m,g,most,rfl,X,hm,Tq,q⟩:=h;show wSs cn gA (fin Q) [↑a,~~~m,~~~g,~~~most,none,none] M;have hsz:(2000:Nat)<sizeLine:=by decide
 unfold gA;simp! only[List.set];intro R C;have Y:ad M (ac M R (.lst [])):=ad.new C;have r2:ac M R (MO.lst []) R=some (.lst []):=aa;generalize ac M R (MO.lst [])=M2 at *;have O4:=Y _ _ X;have Wj:a≠R:=cp X C;have one:∀(E:cv) (S:Ss) (x y:Nat) (M5:MH) (n:Nat) (σ:DS),x<m->y<m->n<1000->fJ m R M2 M5 n->(∀d,fJ m R M2 d (n+1)->wSs cn S E σ d) ->
   ∀f,M5 f=none->∃xs,ac M5 f (MO.lst [.tup [.str "lack",⇑y]]) R=some (.lst xs)/\xs.length<sizeLine/\wSs cn S E σ (ac (ac M5 f (.lst [.tup [.str "lack",⇑y]])) R (.lst (xs++[.tup [⇑x,.ref f]]))):=by
  intro E S x y M5 n σ hx hy hn ⟨hb,l_,a_,l,h2,G,h4⟩ I f r;have J:f≠R:=(cp l r).symm;have Rz:l_.length=a_.length:=km h2;refine⟨l_,ad.new r _ _ l,by omega,I _ ⟨?_,l_++[.tup [⇑x,.ref f]],a_++[(x,[.lck (y:Int)])],aa,?_,G.add hx (by show 1<=6;decide) (λt ht=>?_),by rw[ZJ];simpa using h4⟩⟩
  ·exact(hb.trans (ad.new r).but).trans (ExtBut.upd _ _ _)
  ·rw[eM]
   refine bA (aM.ext (bV (ad.new r)) h2) (.cons ⟨f,rfl,?_⟩ .nil);rw[rf J];exact aa
  ·have:t=.lck (y:Int):=by simpa using ht
   subst this;exact⟨by omega,by omega⟩
 have z:∀(E:cv) (k:Nat) (M5:MH) (n:Nat),2*k+1<m->n<900->fJ m R M2 M5 n->(∀d,fJ m R M2 d (n+2)->E.nx [↑a,~~~m,~~~g,~~~most,↑R,~~~k] d) ->
   wSs cn c7 E [↑a,~~~m,~~~g,~~~most,↑R,~~~k] M5:=by
  intro E k M5 n hk hn u I;have ek:(2:Int)*(k:Int)=((2*k:Nat):Int):=by omega
  have Z9:((2*k:Nat):Int)+1=((2*k+1:Nat):Int):=by omega
  have A:xQ 2 (k:Int):=.inl ⟨by decide,by decide⟩;have K:∀d,fJ m R M2 d (n+1)->wSs cn c6 E [↑a,~~~m,~~~g,~~~most,↑R,~~~k] d:=by
   intro d B;unfold c6;simp! only[List.set,ek,Z9];obtain⟨ab,Z_,UG,-⟩:=B.ex;refine⟨by rw[UG];rfl,A,A,λq2 L=>?_⟩;obtain⟨xs,O,P,T⟩:=one E .nil (2*k+1) (2*k) d (n+1) [↑a,~~~m,~~~g,~~~most,↑R,~~~k] (by omega) (by omega) (by omega) B (λM7 S7=>I M7 S7) q2 L;simp only[O];exact⟨P,T⟩
  unfold c7;simp! only[List.set,ek,Z9];obtain⟨l_,a_,l,-⟩:=u.ex;refine⟨by rw[l];rfl,A,A,λf r=>?_⟩;obtain⟨xs,O,P,T⟩:=one E c6 (2*k) (2*k+1) M5 n [↑a,~~~m,~~~g,~~~most,↑R,~~~k] (by omega) (by omega) (by omega) u K f r;simp only[O];exact⟨P,T⟩
 have last:∀(j:Zz) (M5:MH) (n:Nat),n<=m->fJ m R M2 M5 n->wSs cn c5 (fin Q) [↑a,~~~m,~~~g,~~~most,↑R,j] M5:=by
  intro j M5 n hn ⟨hb,l_,a_,l,h2,G,h4⟩;unfold c5;simp! only[List.set,f0];refine⟨a,ns,m,g,most,rfl,hb _ _ Wj O4,hm,by omega,λp Wt Q4 d g6 R6 UL ZO U=>?_⟩;have l1:l_.length=a_.length:=km h2;have l2:Wt.length=Q4.length:=km R6;simp! only[U _ _ l,g6];refine⟨by omega,λp3 V=>?_⟩;refine q p3 _ (a_++Q4) _ aa (bA (aM.ext ((dg R M5).trans (U.then V)) h2) (aM.ext (ad.new V) R6)) ⟨UL.most,?_,λx hx=>?_⟩ (by rw[ZJ];omega) ?_
  ·rw[ZJ];omega
  ·rcases YA.1 hx with hx | hx
   ·exact G x hx
   ·exact UL.fit x hx
  ·intro b o Tt
   exact ad.new V _ _ (U _ _ (hb b o (cp Tt C) (Y b o Tt)))
 unfold jo;simp! only[List.set,f1];refine⟨a,ns,1,rfl,O4,⟨by decide,by decide⟩,⟨by decide,by decide⟩,by omega,?_⟩;obtain⟨w,ew,hw⟩:∃w:Nat,cellAt ns 1 / 2%((m:Int) / 2+1)=(w:Int)/\w<=m / 2:=by
  have b:=zt (y:=cellAt ns 1 / 2) (m:=(m:Int) / 2+1) (by omega);refine⟨(cellAt ns 1 / 2%((m:Int) / 2+1)).toNat,?_,?_⟩<;>omega
 rw[ew];refine⟨⟨by omega,by omega⟩,?_⟩;rw[dq];have W:∀(xs:Zj) (j:Zz) (M5:MH) (n:Nat),(∀k∈xs,2*k+1<m)->n+2*xs.length<=m->fJ m R M2 M5 n ->
   aI (λ_=>True) (.nm 5) (wSs cn c7) { nx:=wSs cn c5 (fin Q),rt:=Q } (nats xs) [↑a,~~~m,~~~g,~~~most,↑R,j] M5:=by
  intro xs;induction xs with
  |nil=>
   intro j M5 n _ hn u;rw[show nats []=[] from rfl,aI];exact last j M5 n (by simpa using hn) u
  |cons k xs ih=>
   intro j M5 n hk hn u;rw[YH] at hn;rw[show nats (k::xs)=⇑k::nats xs from rfl,aI];refine z _ k M5 n (hk k (.head _)) (by omega) u ?_;intro d B;exact⟨trivial,ih _ d (n+2) (λk h=>hk k (.tail _ h)) (by omega) B⟩
 refine W (List.range w) none M2 0 (λk hk=>?_) (by rw[ZI];omega) ⟨ExtBut.refl _ _,[],[],r2,.nil,λx hx=>(by cases hx),YE _⟩
 have:=ZV.1 hk
 omega
end
def i9:Ss:=#v[.ret (.tup #v[.var 2,.var 3])]
def nk:Ss:=#v[.set 3 (.bin .BitAnd (.var 3) (.fn 0 #v[.var 0,.var 1,.var 2]))]
def ja:Ss:=.cons (.set 2 (.bin .BitOr (.var 2) (.fn 0 #v[.var 0,.var 1,.var 3]))) nk
def nn:Ss:=.cons (.set 4 (.tup #v[.var 2,.var 3])) ja
def nq:Ss:=.cons (.while (.and (.cmp .NotEq (.var 4) (.tup #v[.var 2,.var 3])) (.cmp .Eq (.bin .BitAnd (.var 2) (.var 3)) (.var 2))) nn) i9
def kX:Ss:=.cons (.set 4 .non) nq
def mF:Ss:=#v[.ret (.comp 1 (.var 2) (.nm 2) (.rg1 #v[.var 1]) (.yes (.cmp .Eq (.bin .BitAnd (.bin .RShift (.var 0) (.var 2)) (.int 1)) (.int 1))))]
def qr:Ss:=#v[.ret (.tup #v[.var 2,.var 4])]
def qt:Ss:=#v[.set 3 (.fn 0 #v[.var 0,.var 1,.var 4])]
def qu:Ss:=.cons (.set 4 (.fn 0 #v[.var 0,.var 1,.var 2])) qt
def qv:Ss:=.cons (.set 2 (.var 3)) qu
def qw:Ss:=.cons (.while (.cmp .NotEq (.var 2) (.var 3)) qv) qr
def qx:Ss:=.cons (.set 4 (.int 0)) qw
def qy:Ss:=.cons (.set 3 (.int 0)) qx
def og:Ss:=.cons (.set 2 (.neg (.int 1))) qy
def eQ:az:=λds M Q=>∃(n m:Nat),ds=[⇑n,⇑m]/\n<2 ^ m/\m<64/\∀p M',M p=none->ad M M'->M' p=some (.lst (nats (bd n)))->Q (.ref p) M'
def cQ:az:=λds M Q=>∃(p:Addr) (m:Nat) (l_:List D) (a_:Zy) (told s U:Nat) (y:Nat×Nat),ds=[.ref p,⇑told,⇑y.1,⇑y.2]/\M p=some (.lst l_)/\aM M l_ a_/\eG m a_/\told<2 ^ m/\fK a_ told s U/\U<2 ^ m/\Within s U y/\Sub y.1 y.2 /\
 ∀w M',fZ (aR a_ s (ae U s)) y w->Within s U w->ad M M'->Q (aQ w) M'
def nr:az:=λds M Q=>∃(p:Addr) (m:Nat) (l_:List D) (a_:Zy) (told:Nat),ds=[.ref p,⇑told]/\M p=some (.lst l_)/\aM M l_ a_/\eG m a_/\told<2 ^ m /\
 ∀s U M',fK a_ told s U->U<2 ^ m->ad M M'->Q (aQ (s,U)) M'
theorem lI{n m:Nat}(h:n<2 ^ m):(List.range m).filter (λf=>n.testBit f)=bd n:=by
 have hb:=yY h;unfold bd;obtain⟨k,rfl⟩:∃k,m=d9 (n:Int)+k:=⟨m-d9 (n:Int),by omega⟩;rw[List.range_add,List.filter_append];have:((List.range k).map (d9 (n:Int) + ·)).filter (λf=>n.testBit f)=[]:=by
  rw[List.filter_eq_nil_iff];intro f hf q;obtain⟨j,_,rfl⟩:=XT.1 hf
  have:=(bK n _).2 q
  unfold bd at this
  have:=ZV.1 (ZU.1 this).1
  omega
 rw[this,ZA]
theorem EY{a b m:Nat}(h:a<2 ^ m):(bd a).filter (λf=>!b.testBit f)=bd (ae a b):=by
 rw[←lI h,List.filter_filter,←lI (XE (cj a b) h)];refine List.filter_congr λf _=>?_
 rw[aV,Bool.and_comm]
theorem lJ{a b:Nat}(h:Sub b a):(a:Int)-(b:Int)=((ae a b:Nat):Int):=by
 have:=eg a b
 have e:a&&&b=b:=by rw[Nat.and_comm];exact cU.2 h
 omega
theorem rn{S U f:Nat}{w:Nat×Nat}(hw:Within S U w)(a:Sub w.1 w.2)(d:w.1.testBit f=false)(h2:w.2.testBit f=true):
  (Within S U (w.1|||2 ^ f,w.2)/\Sub (w.1|||2 ^ f) w.2)/\Within S U (w.1,ae w.2 (2 ^ f))/\Sub w.1 (ae w.2 (2 ^ f)):=by
 have b:∀g,(2 ^ f).testBit g=true->g=f:=λg hg=>by
  rw[Nat.testBit_two_pow] at hg;exact(XM hg).symm
 have s1:Sub (w.1|||2 ^ f) w.2:=a.or λg hg=>by rw[b g hg];exact h2
 have s2:Sub (ae w.2 (2 ^ f)) w.2:=λg hg=>by rw[aV,YX] at hg;exact hg.1
 have c:Sub w.1 (ae w.2 (2 ^ f)):=λg hg=>by
  rw[aV,a g hg];cases e:(2 ^ f).testBit g with
  |false=>rfl
  |true=>rw[b g e,d] at hg;cases hg
 exact⟨⟨⟨⟨hw.1.1.trans (Sub.or_l _ _),s1.trans hw.2.2⟩,hw.2⟩,s1⟩,⟨hw.1,hw.1.1.trans c,s2.trans hw.2.2⟩,c⟩
theorem rp:∀t:Tr,aY t.told=true/\dE t.told<=t.deep+1
 |.broken f=>⟨rfl,YE _⟩
 |.world f=>⟨rfl,YE _⟩
 |.split f a b=>by
  obtain⟨c,g⟩:=rp a;obtain⟨d,j⟩:=rp b;refine⟨?_,?_⟩
  ·show(true&&(true&&(aY a.told&&(aY b.told&&true))))=true
   rw[c,d];rfl
  ·show max 0 (max 0 (max (dE a.told) (max (dE b.told) 0)))+1<=max a.deep b.deep+1+1
   omega
section
variable {cn:Cn}{ds:List D}{M:MH}{Q:DK}{c:CA}{S V:Addr}
theorem zK(h:eQ ds M Q):wSs cn mF (fin Q) (ai ["",""] ds) M:=by
 obtain⟨n,m,rfl,hn,hm,q⟩:=h;show wSs cn mF (fin Q) [~~~n,~~~m] M;unfold mF;simp_all! only[List.set,List.cons_append,XB,List.replicate];refine⟨⟨by omega,by omega⟩,?_⟩;rw[dq];refine dk (p:=λd=>match d with | .int w=>hasB (n:Int) w | _=>false) (ok:=λσ=>∃v,σ=[~~~n,~~~m,v]) [] _ ⟨none,rfl⟩ ?_ ?_
 ·intro d hd σ h_ rest ⟨v,b⟩ k
  subst b;obtain⟨f,hf,rfl⟩:=XT.1 hd;have a:=k _ ⟨~~~f,rfl⟩;dsimp only at a;refine⟨(by omega:(0:Int)<=(f:Int)),⟨rfl,rfl,(by decide:(0:Nat)<=30)⟩,?_⟩;show bG (Builtin.bitAnd ((n:Int) / 2 ^ (f:Int).toNat) 1==1) _ _;rw[PyProof.Rows.bitAnd_m1];show bG (hasB (n:Int) (f:Int)) _ _;cases hb:hasB (n:Int) (f:Int) with
  |true=>rw[hb] at a;exact⟨trivial,a⟩
  |false=>rw[hb] at a;exact⟨trivial,by simpa using a⟩
 intro p hp;rw[wX (λf=>n.testBit f) _ (λf=>fD n f),lI hn];exact q p _ hp (ad.new hp) aa
theorem xq (B:cn.F.getD 0 (λ_ _ _=>False) = fV) (h:cQ ds M Q):wSs cn kX (fin Q) (ai ["","","","",""] ds) M:=by
 obtain ⟨p,m,l_,a_,told,s,U,g,rfl,hp,C,ok,ht,R,T,X,Y,q⟩:=h
 show wSs cn kX (fin Q) [↑p,~~~told,~~~g.1,~~~g.2,none] M
 have G:=Ha R
 have lt:∀ {a:Nat},Sub a U->a < 2 ^ m:=λh=>XE h.le T
 have j:∀ (E:cv) (y:Nat × Nat) (b:D) (M1:MH),Within s U y->ad M M1->(∀ M2,ad M M2->E.nx [↑p,~~~told,some (.int ((aE (aR a_ s (ae U s)) y).1:Int)),some (.int ((aE (aR a_ s (ae U s)) y).2:Int)),some (aQ y)] M2) ->
   wSs cn nn E [↑p,~~~told,~~~y.1,~~~y.2,some b] M1:=by
  intro E y b M1 W d k
  obtain ⟨⟨Z,h2⟩,I,J⟩:=W
  have o:=kb G ⟨⟨Z,h2⟩,I,J⟩
  show wSs cn ja E [↑p,~~~told,~~~y.1,~~~y.2,some (.tup [⇑y.1,⇑y.2])] M1
  unfold ja
  simp! only [List.set,B]
  refine ⟨p,m,l_,a_,told,y.2,rfl,d _ _ hp,aM.ext d C,ok,ht,λn1 M2 L1 _ r=>?_⟩
  have:=(G _ I J).1.uniq L1
  subst this
  simp! only [gE]
  unfold nk
  simp! only [List.set,B]
  have t:=d.trans r
  refine ⟨p,m,l_,a_,told,_,rfl,t _ _ hp,aM.ext t C,ok,ht,λn2 M3 L2 _ e3=>?_⟩
  have:=(G _ o.1.1 o.1.2).1.uniq L2
  subst this
  simp! only [jH]
  exact k M3 (t.trans e3)
 have last:∀ (y:Nat × Nat) (b:D) (M1:MH),ad M M1->fZ (aR a_ s (ae U s)) g y->Within s U y->wSs cn i9 (fin Q) [↑p,~~~told,~~~y.1,~~~y.2,some b] M1:=by
  intro y b M1 d N W
  unfold i9
  simp! only [List.set]
  exact q y M1 N W d
 unfold kX
 simp! only [List.set]
 unfold nq
 show ku _ _ _ _ _
 refine ⟨λk σ M'=>∃ (y:Nat × Nat) (b:D),σ = [↑p,~~~told,~~~y.1,~~~y.2,some b]/\ad M M'/\Within s U y /\
  ((b = .non/\y = g/\k = gy m (g.2,g.1) + 1) \/ ∃ z,b = aQ z/\y = aE (aR a_ s (ae U s)) z/\Within s U z/\k = gy m (z.2,z.1)/\∀ w,fZ (aR a_ s (ae U s)) z w->fZ (aR a_ s (ae U s)) g w),?_,?_⟩
 ·exact ⟨_,g,.non,rfl,ad.refl M,X,.inl ⟨rfl,rfl,rfl⟩⟩
 rintro k σ M' ⟨y,b,rfl,d,W,h⟩
 have l:∀ K:Bool->MH->Prop,aY b = true->dE b<=30->(b = .non \/ ∃ z,b = aQ z)->K (!(a8 b (aQ y)) && decide (y.1 &&& y.2 = y.1)) M' ->
   wT cn (.and (.cmp .NotEq (.var 4) (.tup (.cons (.var 2) (.cons (.var 3) .nil)))) (.cmp .Eq (.bin .BitAnd (.var 2) (.var 3)) (.var 2))) [↑p,~~~told,~~~y.1,~~~y.2,some b] M' K:=by
  intro K RH L hb f
  have O:∀ x:Bool,K (!x && decide (y.1 &&& y.2 = y.1)) M'->bG (!x) (K (((y.1 &&& y.2:Nat):Int) == (y.1:Int)) M') (K false M'):=by
   intro x f
   cases x with
   | true=>exact f
   | false=>
    rw [Bool.not_false,Bool.true_and] at f
    by_cases e:y.1 &&& y.2 = y.1
    ·rw [e,XF]; rw [YU e] at f; exact f
    ·rw [beq_false_of_ne (by omega)]; rw [ZP e] at f; exact f
  rcases hb with rfl | ⟨z,rfl⟩
  ·simp! only [ao,aq,aA,ar,al,aC,ak,au,YL,and_self,true_and,and_true,List.set,jH]
   exact ⟨⟨rfl,rfl,L⟩,O _ f⟩
  ·simp! only [ao,aq,aA,ar,al,aC,ak,au,YL,and_self,true_and,and_true,aQ,List.set,jH]
   exact ⟨⟨rfl,rfl,L⟩,O _ f⟩
 rcases h with ⟨rfl,rfl,rfl⟩ | ⟨z,rfl,rfl,P,rfl,hw⟩
 ·refine l _ rfl (by decide) (.inl rfl) ?_
  rw [YU (cU.2 Y)]
  show bG true _ _
  rw [aJ]
  refine ⟨λu A=>∃ k',k' < gy m (y.2,y.1) + 1/\_,λu A h=>h,?_⟩
  refine j _ y .non M' W d λM2 r=>?_
  exact ⟨_,YK _,aE (aR a_ s (ae U s)) y,_,rfl,r,kb G W,.inr ⟨y,rfl,rfl,W,rfl,λw h=>h⟩⟩
 ·refine l _ rfl (Nat.le_add_left 1 29) (.inr ⟨z,rfl⟩) ?_
  have ez:a8 (aQ z) (aQ (aE (aR a_ s (ae U s)) z)) = decide (z = aE (aR a_ s (ae U s)) z):=by
   generalize aE (aR a_ s (ae U s)) z = x
   show ((z.1:Int) == (x.1:Int) && ((z.2:Int) == (x.2:Int) && true)) = _
   by_cases e:z = x
   ·subst e; simp
   ·rw [ZP e]
    by_cases d:z.1 = x.1
    ·have r:z.2 ≠ x.2:=λh=>e (Prod.ext d h)
     rw [beq_false_of_ne (a:=(z.2:Int)) (by omega),YD,Bool.and_false]
    ·rw [beq_false_of_ne (a:=(z.1:Int)) (by omega),YD]
  rw [ez]
  have o:=kb G P
  by_cases n:(aE (aR a_ s (ae U s)) z).1 &&& (aE (aR a_ s (ae U s)) z).2 = (aE (aR a_ s (ae U s)) z).1/\aE (aR a_ s (ae U s)) z ≠ z
  ·rw [YU n.1,ZP (λh=>n.2 h.symm),Bool.not_false,Bool.and_true,aJ]
   have Tw:=wV n.2 (lt P.2.2) (lt o.1.2)
   refine ⟨λu A=>∃ k',k' < gy m (z.2,z.1)/\_,λu A h=>h,?_⟩
   refine j _ _ _ M' W d λM2 r=>?_
   exact ⟨_,Tw,_,_,rfl,r,kb G W,.inr ⟨_,rfl,rfl,o,rfl,λw h=>hw w (.go n.1 n.2 h)⟩⟩
  ·have:(!decide (z = aE (aR a_ s (ae U s)) z) && decide ((aE (aR a_ s (ae U s)) z).1 &&& (aE (aR a_ s (ae U s)) z).2 = (aE (aR a_ s (ae U s)) z).1)) = false:=by
    cases e:(!decide (z = aE (aR a_ s (ae U s)) z) && decide ((aE (aR a_ s (ae U s)) z).1 &&& (aE (aR a_ s (ae U s)) z).2 = (aE (aR a_ s (ae U s)) z).1)) with
    | false=>rfl
    | true=>
     rw [YX,XR,decide_eq_false_iff_not,XO] at e
     exact absurd ⟨e.2,λh=>e.1 h.symm⟩ n
   rw [this,ax]
   dsimp only
   exact last _ _ M' d (hw _ (.stop n)) o
theorem AG (w:cn.F.getD 0 (λ_ _ _=>False) = fV) (h:nr ds M Q):wSs cn og (fin Q) (ai ["","","","",""] ds) M:=by
 obtain ⟨p,m,l_,a_,told,rfl,hp,y,ok,ht,q⟩:=h
 show wSs cn og (fin Q) [↑p,~~~told,none,none,none] M
 unfold og
 simp! only [List.set]
 unfold qy
 simp! only [List.set]
 unfold qx
 simp! only [List.set]
 unfold qw
 show ku _ _ _ _ _
 refine ⟨λk σ M'=>∃ (f:Int) (more d:Nat),(((2 ^ m:Nat):Int) - f).toNat = k/\σ = [↑p,~~~told,some (.int f),~~~more,~~~d]/\ad M M'/\more < 2 ^ m/\d < 2 ^ m /\
  (∀ z o,aL a_ told z o->Sub z o->aL a_ told o z->Sub more z) /\
  ((f = -1/\more = 0) \/ ∃ h:Nat,f = (h:Int)/\aL a_ told h d/\aL a_ told d more/\Sub h d/\Sub h more/\∀ z o,aL a_ told z o->Sub z o->aL a_ told o z->Sub o d),?_,?_⟩
 ·exact ⟨_,-1,0,0,rfl,rfl,ad.refl M,Nat.two_pow_pos m,Nat.two_pow_pos m,λ_ _ _ _ _=>Sub.zero _,.inl ⟨rfl,rfl⟩⟩
 rintro k σ M' ⟨f,more,d,rfl,rfl,l,I,J,hz,r⟩
 have g:∀ K:Bool->MH->Prop,K (!(f == (more:Int))) M'->wT cn (.cmp .NotEq (.var 2) (.var 3)) [↑p,~~~told,some (.int f),~~~more,~~~d] M' K:=by
  intro K L
  simp! only [ao,aq,aA,ar,al,aC,ak,au,YL,and_self,true_and,and_true,List.set]
  exact L
 refine g _ ?_
 by_cases A:f = (more:Int)
 ·rw [A,XF,Bool.not_true,ax]
  dsimp only
  unfold qr
  simp! only [List.set]
  rcases r with ⟨z,_⟩ | ⟨h,B,l1,l2,s1,s2,t⟩
  ·omega
  ·have:h = more:=by omega
   subst this
   exact q h d M' ⟨l1,l2,s1,λz o a b c=>⟨hz z o a b c,t z o a b c⟩⟩ J l
 ·rw [beq_false_of_ne A,Bool.not_false,aJ]
  refine ⟨λO P=>∃ k',k' < (((2 ^ m:Nat):Int) - f).toNat/\_,λO P h=>h,?_⟩
  unfold qv
  simp! only [List.set]
  unfold qu
  simp! only [List.set,w]
  refine ⟨p,m,l_,a_,told,more,rfl,l _ _ hp,aM.ext l y,ok,ht,λj M2 n R T=>?_⟩
  unfold qt
  simp! only [List.set,w]
  have u:=l.trans T
  refine ⟨p,m,l_,a_,told,j,rfl,u _ _ hp,aM.ext u y,ok,ht,λC Y L2 U W=>?_⟩
  have Z:f < (more:Int):=by
   rcases r with ⟨z,_⟩ | ⟨h,B,l1,l2,s1,s2,t⟩
   ·omega
   ·have:=s2.le
    omega
  have E:Sub more j/\Sub more C:=by
   rcases r with ⟨_,rfl⟩ | ⟨h,B,l1,l2,s1,s2,t⟩
   ·exact ⟨Sub.zero _,Sub.zero _⟩
   ·have a:Sub more d:=aL.anti s1 l1 l2
    have b:Sub j d:=aL.anti s2 l1 n
    exact ⟨aL.anti a n l2,aL.anti b L2 l2⟩
  have G:∀ z o,aL a_ told z o->Sub z o->aL a_ told o z->Sub o j:=λz o a b c=>aL.anti (hz z o a b c) n a
  have X:(more:Int) < ((2 ^ m:Nat):Int):=Int.ofNat_lt.2 I
  refine ⟨_,?_,(more:Int),C,j,rfl,rfl,u.trans W,U,R,λz o a b c=>aL.anti (G z o a b c) c L2,.inr ⟨more,rfl,n,L2,E.1,E.2,G⟩⟩
  omega
end
def oh:Ss:=#v[.ret (.comp 1 (.var 3) (.nm 3) (.seq (.fn 0 #v[.var 0,.var 2])) (.yes (.cmp .Eq (.bin .BitAnd (.bin .RShift (.var 1) (.var 3)) (.int 1)) (.int 0))))]
def oI:Ss:=#v[.ret (.tup #v[.str "split",.var 9,.var 10,.fn 0 #v[.var 0,.var 1,.bin .Sub (.var 2) (.bin .LShift (.int 1) (.var 9)),.var 3]])]
def oJ:Ss:=.cons (.set 10 (.fn 0 #v[.var 0,.bin .BitOr (.var 1) (.bin .LShift (.int 1) (.var 9)),.var 2,.var 3])) oI
def oK:Ss:=.cons (.set 9 (.ix (.var 8) (.fn 1 #v[.var 3,.bi .len #v[.var 8]]))) oJ
def jS:Ss:=.cons (.set 8 (.fn 2 #v[.bin .Sub (.var 2) (.var 1),.var 6])) oK
def jT:Ss:=.cons (.ite (.cmp .Eq (.var 1) (.var 2)) #v[.ret (.tup #v[.str "world",.var 1])] .nil) jS
def oM:Ss:=.cons (.ite (.cmp .NotEq (.var 7) (.lst .nil)) #v[.ret (.tup #v[.str "broken",.ix (.var 7) (.fn 1 #v[.var 3,.bi .len #v[.var 7]])])] .nil) jT
def oN:Ss:=.cons (.set 7 (.fn 3 #v[.var 1,.var 2,.var 6])) oM
def oO:Ss:=.cons (.asg (.tp [1,2]) (.fn 4 #v[.var 4,.var 5,.var 1,.var 2])) oN
def jb:Ss:=.cons (.asg (.tp [4,5,6]) (.var 0)) oO
def kY:Ss:=#v[.ret (.and (.bi .isinst #v[.var 0,.ty "int"]) (.and (.not (.bi .isinst #v[.var 0,.ty "bool"])) (.cmp .In (.var 0) (.var 1))))]
def kG:az:=λds M Q=>∃(a b m:Nat),ds=[⇑a,⇑b,⇑m]/\a<2 ^ m/\m<64/\∀p M',M p=none->ad M M'->M' p=some (.lst (nats (bd (ae a b))))->Q (.ref p) M'
def oP:az:=λds M Q=>∃(x:D) (p:Addr) (ns:Zj),ds=[x,.ref p]/\vk x=true/\M p=some (.lst (nats ns))/\∀b,(b=true ↔ ∃f:Nat,x=⇑f/\f∈ns)->Q (.bl b) M
def lP(d:Nat):az:=λds M Q=>∃(B:MH) (p box:Addr) (k b:Int) (m:Nat) (l_:List D) (a_:Zy) (told s U:Nat) (y:Nat×Nat),ds=[.tup [.ref p,⇑told,⇑m],⇑y.1,⇑y.2,.ref box]/\ad B M/\B box=none/\M box=some (.lst [.int b,.int k]) /\
 B p=some (.lst l_)/\aM B l_ a_/\eG m a_/\told<2 ^ m/\fK a_ told s U/\U<2 ^ m/\Within s U y/\Sub y.1 y.2/\gap m y<d/\m<60 /\
 ∀t M' a,Gr (aR a_ s (ae U s)) y t->t.small->t.deep<d->ad B M'->M' box=some (.lst [.int a,.int k])->Q t.told M'
theorem MF{a m:Nat}(h:a<2 ^ m)(hm:m<60):a<2 ^ 64:=ZR h (Nat.pow_le_pow_right (by decide) (by omega))
theorem HP{f m:Nat}(h:f<m)(hm:m<60):f<2 ^ 64:=ZR (by omega:f<60) (by decide)
theorem ad.box{B M:MH}{p:Addr}{o:MO}(e:ad B M)(hp:B p=none):ad B (ac M p o):=λa u h=>by
 have:a≠p:=λz=>by subst z;rw[hp] at h;cases h
 rw[aG this];exact e a u h
theorem BC{ns:Zj}{v:Nat}(h:v<ns.length):cX (nats ns) (v:Int)=some (.int ((ns[v]:Nat):Int)):=by
 refine c9 ?_;unfold nats;rw[ZG,ZD h];rfl
theorem zL{n m:Nat}(h:n<2 ^ m):(bd n).length<=m:=by
 rw[←lI h];exact ZW (List.length_filter_le _ _) (by rw[ZI];exact YE _)
section
variable {cn:Cn}{ds:List D}{M:MH}{Q:DK}{c:CA}{S V:Addr}
theorem AH(n:cn.F.getD 0 (λ_ _ _=>False)=eQ)(h:kG ds M Q):wSs cn oh (fin Q) (ai ["","",""] ds) M:=by
 obtain⟨a,b,m,rfl,ha,hm,q⟩:=h;show wSs cn oh (fin Q) [~~~a,~~~b,~~~m] M;unfold oh;simp_all! only[List.set,List.cons_append,XB,List.replicate,n];refine⟨a,m,rfl,ha,hm,λp1 M1 r l j=>?_⟩;simp only[j];refine dk (p:=λd=>match d with | .int w=>!hasB (b:Int) w | _=>false) (ok:=λσ=>∃v,σ=[~~~a,~~~b,~~~m,v]) [] _ ⟨none,rfl⟩ ?_ ?_
 ·intro d hd σ h_ rest ⟨v,o⟩ k
  subst o;obtain⟨f,hf,rfl⟩:=XT.1 hd;have g:=k _ ⟨~~~f,rfl⟩;dsimp only at g;refine⟨(by omega:(0:Int)<=(f:Int)),⟨rfl,rfl,(by decide:(0:Nat)<=30)⟩,?_⟩;show bG (Builtin.bitAnd ((b:Int) / 2 ^ (f:Int).toNat) 1==0) _ _;rw[PyProof.Rows.bitAnd_m1];show bG (nP (b:Int) (f:Int)==0) _ _;rw[yQ];cases hb:hasB (b:Int) (f:Int) with
  |false=>rw[hb] at g;exact⟨j,g⟩
  |true=>rw[hb] at g;exact⟨j,by simpa using g⟩
 intro p hp;rw[wX (λf=>!b.testBit f) _ (λf=>by show(!hasB (b:Int) (f:Int))=_;rw[fD]),EY ha];exact q p _ (l.free hp) (l.then hp) aa
theorem xr(h:oP ds M Q):wSs cn kY (fin Q) (ai ["",""] ds) M:=by
 obtain⟨x,p,ns,rfl,hx,hp,q⟩:=h;show wSs cn kY (fin Q) [some x,↑p] M;unfold kY;cases x with
 |int i=>
  simp! only[dG,hp,ck];refine⟨by decide,?_⟩;show bG true _ _;refine⟨by decide,?_⟩;show bG true _ _;refine⟨⟨rfl,vn ns,zJ ns⟩,q _ ?_⟩;unfold Bc nats;rw[List.any_map,List.any_eq_true];constructor
  ·rintro⟨f,hf,e⟩
   have e:((f:Int)==i)=true:=e;exact⟨f,by rw[eq_of_beq e],hf⟩
  ·rintro⟨f,e,hf⟩
   cases e;exact⟨f,hf,XF _⟩
 |bl i=>
  simp! only[dG];refine⟨by decide,?_⟩;show bG true _ _;refine⟨by decide,?_⟩;exact q false ⟨λh=>(by cases h),λ⟨_,h,_⟩=>by cases h⟩
 |non=>
  simp! only[dG];refine⟨by decide,?_⟩;exact q false ⟨λh=>(by cases h),λ⟨_,h,_⟩=>by cases h⟩
 |str z=>
  simp! only[dG];refine⟨by decide,?_⟩;exact q false ⟨λh=>(by cases h),λ⟨_,h,_⟩=>by cases h⟩
 |_=>cases hx
theorem zM{d:Nat}(X:cn.F.getD 0 (λ_ _ _=>False)=lP d)(Y:cn.F.getD 1 (λ_ _ _=>False)=cZ)(f2:cn.F.getD 2 (λ_ _ _=>False)=eQ)(f3:cn.F.getD 3 (λ_ _ _=>False)=kG)(f4:cn.F.getD 4 (λ_ _ _=>False)=cQ)(h:lP (d+1) ds M Q):
  wSs cn jb (fin Q) (ai ["","","","","","","","","","",""] ds) M:=by
 obtain⟨B,p,box,k,b,m,l_,a_,told,s,U,y,rfl,G,u,hb,hp,I,ok,ht,R,A,W0,s0,OY,hm,q⟩:=h;show wSs cn jb (fin Q) [some (.tup [.ref p,⇑told,⇑m]),~~~y.1,~~~y.2,↑box,none,none,none,none,none,none,none] M;have lt:∀{a:Nat},Sub a U->a<2 ^ m:=λh=>XE h.le A
 have qN:∀ns:List Nat,cr (nats ns) []=decide (ns=[]):=λns=>by
  rw[iA,zv,ZF,BB];exact decide_eq_decide.2 List.length_eq_zero_iff
 unfold jb;simp! only[List.set];refine⟨rfl,?_⟩;unfold oO;simp! only[List.set,f4];refine⟨p,m,l_,a_,told,s,U,y,rfl,G _ _ hp,aM.ext G I,ok,ht,R,A,W0,s0,λw M1 C l Z=>?_⟩;simp! only[aQ,List.set];refine⟨rfl,?_⟩;have mono:=C.mono;unfold oN;simp! only[List.set,f3];refine⟨w.1,w.2,m,rfl,lt l.1.2,by omega,λp2 M2 y' e2 g2=>?_⟩;have l2:(bd (ae w.1 w.2)).length<=m:=zL (XE (cj _ _) (lt l.1.2));unfold oM;simp! only[List.set,Y];intro J OV;have x1:=ad.new (o:=MO.lst []) OV;have k1:ac M2 J (MO.lst []) J=some (.lst []):=aa;generalize ac M2 J (MO.lst [])=r at *;have g4:=x1 _ _ g2;have e4:=Z.trans (e2.trans x1);have K:=G.trans e4;have E:=e4 _ _ hb;have n2:p2≠box:=λz=>by subst z;rw[Z _ _ hb] at y';cases y'
 simp only[g4,k1,ck,qN,eh];refine⟨⟨vn _,rfl,zJ _⟩,?_⟩;by_cases hz:bd (ae w.1 w.2)=[]
 ·rw[YU hz]
  simp only[Bool.not_true,ax];have n:Sub w.1 w.2:=cU.1 (b0.1 (tS.1 hz));show wSs cn jT _ _ _;unfold jT;simp_all! only[List.set];by_cases e:w.1=w.2
  ·rw[e,XF]
   simp only[aJ]
   have:=q (.world w.1) r b (.world C e) (MF (lt l.1.2) hm) (Nat.succ_pos _) K E
   rw[e] at this;exact this
  ·rw[beq_false_of_ne (by omega:(w.1:Int)≠(w.2:Int))]
   simp only[ax];show wSs cn jS _ _ _;unfold jS;simp! only[List.set,f2,lJ n];refine⟨ae w.2 w.1,m,rfl,XE (cj _ _) (lt l.2.2),by omega,λp5 M5 Wv e5 g5=>?_⟩;have l5:(bd (ae w.2 w.1)).length<=m:=zL (XE (cj _ _) (lt l.2.2));have z5:0<(bd (ae w.2 w.1)).length:=by
    refine Nat.pos_of_ne_zero λz=>e (n.antisymm (cU.1 (b0.1 (tS.1 (XQ z)))))
   have n5:p5≠box:=λz=>by subst z;rw[E] at Wv;cases Wv
   unfold oK;simp! only[List.set,Y,g5,eh];refine⟨box,b,k,_,rfl,e5 _ _ E,⟨z5,by omega⟩,λv j t=>?_⟩;have L:ad B (ac M5 box (.lst [.int j,.int k])):=(K.trans e5).box u;have O:ac M5 box (MO.lst [.int j,.int k]) box=some (.lst [.int j,.int k]):=aa;have P:ac M5 box (MO.lst [.int j,.int k]) p5=some (.lst (nats (bd (ae w.2 w.1)))):=by rw[aG n5];exact g5
   generalize ac M5 box (MO.lst [.int j,.int k])=M6 at *;simp only[P,BC t,bn];have hf:(ae w.2 w.1).testBit (bd (ae w.2 w.1))[v]=true:=(bK _ _).1 (XJ t);generalize (bd (ae w.2 w.1))[v]=f at *;have TB:=hf;rw[aV,YX,XR] at hf;have L_:f<m:=dM (lt l.2.2) hf.1;obtain⟨⟨Wa,sa⟩,Wb,sb⟩:=rn l n hf.2 hf.1;have TH:(1:Int)*2 ^ (f:Int).toNat=((2 ^ f:Nat):Int):=oz f;have gw:=zF (m:=m) mono.1 mono.2;have ga:=tU n hf.2 hf.1 (lt l.2.2);have gb:=oa n hf.2 hf.1 (lt l.2.2);unfold oJ;simp! only[List.set,X,TH,gE];refine⟨⟨by omega (splitDisjunctions:=true),by omega (splitDisjunctions:=true),by decide⟩,B,p,box,k,j,m,l_,a_,told,s,U,(w.1|||2 ^ f,w.2),rfl,L,u,O,hp,I,ok,ht,R,A,Wa,sa,by omega,hm,λt1 M7 b7 T1 Ww d1 T h7=>?_⟩;have Wx:Sub (2 ^ f) w.2:=λg hg=>by
    rw[Nat.testBit_two_pow] at hg;have:f=g:=XM hg
    subst this;exact hf.1
   unfold oI;simp! only[List.set,X,TH,lJ Wx];refine⟨⟨by omega (splitDisjunctions:=true),by omega (splitDisjunctions:=true),by decide⟩,B,p,box,k,b7,m,l_,a_,told,s,U,(w.1,ae w.2 (2 ^ f)),rfl,T,u,h7,hp,I,ok,ht,R,A,Wb,sb,by omega,hm,λt2 M8 b8 T2 Wy d2 W h8=>?_⟩;exact q (.split f t1 t2) M8 b8 (.split C n TB T1 T2) ⟨HP L_ hm,Ww,Wy⟩ (by show max t1.deep t2.deep+1<d+1;omega) W h8
 ·rw[ZP hz]
  simp only[Bool.not_false,aJ];have z2:0<(bd (ae w.1 w.2)).length:=Nat.pos_of_ne_zero λz=>hz (XQ z)
  refine⟨box,b,k,_,rfl,E,⟨z2,by omega⟩,λv j t=>?_⟩;have L:ad B (ac r box (.lst [.int j,.int k])):=K.box u;have O:ac r box (MO.lst [.int j,.int k]) box=some (.lst [.int j,.int k]):=aa;have P:ac r box (MO.lst [.int j,.int k]) p2=some (.lst (nats (bd (ae w.1 w.2)))):=by rw[aG n2];exact g4
  generalize ac r box (MO.lst [.int j,.int k])=M6 at *;simp only[P,BC t,bn];have hf:=(bK _ _).1 (XJ t);exact q (.broken _) M6 j (.broken C hf) (HP (dM (XE (cj _ _) (lt l.1.2)) hf) hm) (Nat.succ_pos _) L O
end
def jU:Ss:=#v[.ret (.fn 0 #v[.var 0,.var 1,.bin .Sub (.var 2) (.bin .LShift (.int 1) (.ix (.var 3) (.int 1))),.ix (.var 3) (.int 3)])]
def jV:Ss:=.cons (.ite (.not (.val (.fn 0 #v[.var 0,.bin .BitOr (.var 1) (.bin .LShift (.int 1) (.ix (.var 3) (.int 1))),.var 2,.ix (.var 3) (.int 2)]))) #v[.ret (.bl false)] .nil) jU
def jW:Ss:=.cons (.ite (.or (.cmp .NotEq (.bi .len #v[.var 3]) (.int 4)) (.or (.cmp .NotEq (.ix (.var 3) (.int 0)) (.str "split")) (.not (.val (.fn 1 #v[.ix (.var 3) (.int 1),.fn 2 #v[.bin .Sub (.var 2) (.var 1),.var 6]]))))) #v[.ret (.bl false)] .nil) jV
def jX:Ss:=#v[.ret (.fn 1 #v[.ix (.var 3) (.int 1),.ix (.lst #v[.var 7,.lst #v[.var 1]]) (.bj .int #v[.cmp .Eq (.var 7) (.lst .nil)])])]
def oQ:Ss:=.cons (.ite (.or (.cmp .NotEq (.var 7) (.lst .nil)) (.cmp .Eq (.var 1) (.var 2))) (.cons (.ite (.or (.cmp .NotEq (.bi .len #v[.var 3]) (.int 2)) (.cmp .NotEq (.ix (.var 3) (.int 0)) (.ix (.lst #v[.str "world",.str "broken"]) (.bj .int #v[.cmp .NotEq (.var 7) (.lst .nil)])))) #v[.ret (.bl false)] .nil) jX) .nil) jW
def fW:Ss:=.cons (.ite (.or (.not (.val (.bi .isinst #v[.var 3,.ty "tuple"]))) (.cmp .NotIn (.bi .len #v[.var 3]) (.tup #v[.int 2,.int 4]))) #v[.ret (.bl false)] .nil) oQ
def oR:Ss:=.cons (.set 7 (.fn 3 #v[.var 1,.var 2,.var 6])) fW
def oS:Ss:=.cons (.asg (.tp [1,2]) (.fn 4 #v[.var 4,.var 5,.var 1,.var 2])) oR
def jc:Ss:=.cons (.asg (.tp [4,5,6]) (.var 0)) oS
def fX(d:Nat):az:=λds M Q=>∃(p:Addr) (m:Nat) (l_:List D) (a_:Zy) (told s U:Nat) (y:Nat×Nat) (x:D),ds=[.tup [.ref p,⇑told,⇑m],⇑y.1,⇑y.2,x]/\M p=some (.lst l_)/\aM M l_ a_/\eG m a_/\told<2 ^ m/\fK a_ told s U/\U<2 ^ m/\Within s U y/\Sub y.1 y.2/\gap m y<d/\m<60/\bR M x /\
 ∀b M',(b=true↔c0 (aR a_ s (ae U s)) d x y)->ad M M'->Q (.bl b) M'
theorem Dk(ns:Zj):cr (nats ns) []=decide (ns=[]):=by
 rw[iA,zv,ZF,BB];exact decide_eq_decide.2 List.length_eq_zero_iff
section
variable {cn:Cn}{ds:List D}{M:MH}{Q:DK}{c:CA}{S V:Addr}
theorem MG{σ:DS}{K:Bool->MH->Prop}{i:Nat}{p:Addr}{ns:Zj}(d:σ[i]?=some (↑p))(hp:M p=some (.lst (nats ns)))(k:∀M',ad M M'->K (!decide (ns=[])) M'):wT cn (.cmp .NotEq (.var i) (.lst .nil)) σ M K:=by
 simp! only[d];intro a f;have b:=ad.new (o:=MO.lst []) f;have g:ac M a (MO.lst []) a=some (.lst []):=aa;generalize ac M a (MO.lst [])=j at *;simp only[b _ _ hp,g,ck,Dk];exact⟨⟨vn _,rfl,zJ _⟩,k j b⟩
theorem MI{σ:DS}{K:DK}{i:Nat}{p:Addr}{ns:Zj}(d:σ[i]?=some (↑p))(hp:M p=some (.lst (nats ns)))(k:∀M',ad M M'->K (.bl (!decide (ns=[]))) M'):wE cn (.cmp .NotEq (.var i) (.lst .nil)) σ M K:=by
 simp! only[d];intro a f;have b:=ad.new (o:=MO.lst []) f;have g:ac M a (MO.lst []) a=some (.lst []):=aa;generalize ac M a (MO.lst [])=j at *;simp only[b _ _ hp,g,ck,Dk];exact⟨⟨vn _,rfl,zJ _⟩,k j b⟩
theorem MJ{σ:DS}{K:DK}{i:Nat}{p:Addr}{ns:Zj}(d:σ[i]?=some (↑p))(hp:M p=some (.lst (nats ns)))(k:∀M',ad M M'->K (.bl (decide (ns=[]))) M'):wE cn (.cmp .Eq (.var i) (.lst .nil)) σ M K:=by
 simp! only[d];intro a f;have b:=ad.new (o:=MO.lst []) f;have g:ac M a (MO.lst []) a=some (.lst []):=aa;generalize ac M a (MO.lst [])=j at *;simp only[b _ _ hp,g,ck,Dk];exact⟨⟨vn _,rfl,zJ _⟩,k j b⟩
def vo(ns:Zj):Str:=if ns=[] then "world" else "broken"
theorem JL{σ:DS}{K:Bool->MH->Prop}{p:Addr}{ns:Zj}{x0:D}{r:List D}(g:aY x0=true/\dE x0<=30)(j:σ[3]?=some (some (.tup (x0::r))))(l:σ[7]?=some (↑p))(hp:M p=some (.lst (nats ns)))(k:∀M',ad M M'->K (!a8 x0 (.str (vo ns))) M'):
  wT cn (.cmp .NotEq (.ix (.var 3) (.int 0)) (.ix (.lst (.cons (.str "world") (.cons (.str "broken") .nil))) (.bj .int (.cons (.cmp .NotEq (.var 7) (.lst .nil)) .nil)))) σ M K:=by
 obtain⟨p1,p2⟩:=g;generalize hN:(E.cmp CmpOp.NotEq (E.var 7) (E.lst Es.nil))=N;cases x0 with
 |ref _=>cases p1
 |_=>
  simp! only[Er,uK,j,bz];intro a m;have d:=ad.new (o:=MO.lst [.str "world",.str "broken"]) m;have f:ac M a (MO.lst [.str "world",.str "broken"]) a=some (.lst [.str "world",.str "broken"]):=aa;generalize ac M a (MO.lst [.str "world",.str "broken"])=t at *;rw[←hN];refine MI l (d _ _ hp) λn b=>?_
  have k:=k n (d.trans b);unfold vo at k;by_cases e:ns=[]
  ·rw[if_pos e] at k
   rw[YU e];simp only[Bool.not_true,XG,if_false,b _ _ f,tP];exact⟨⟨p1,rfl,p2⟩,k⟩
  ·rw[if_neg e] at k
   rw[ZP e];simp only[Bool.not_false,if_true,b _ _ f,tQ];exact⟨⟨p1,rfl,p2⟩,k⟩
theorem NV(n:Nat):Bc (⇑n) [.int 2,.int 4]=decide (n=2\/n=4):=by
 show(((2:Int)==(n:Int))||(((4:Int)==(n:Int))||false))=_;by_cases h:n=2
 ·subst h;rfl
 ·by_cases a:n=4
  ·subst a;rfl
  ·rw[ZP (by omega),beq_false_of_ne (by omega),beq_false_of_ne (by omega)];rfl
theorem zN{d:Nat}(f0:cn.F.getD 0 (λ_ _ _=>False)=fX d)(f1:cn.F.getD 1 (λ_ _ _=>False)=oP)(f2:cn.F.getD 2 (λ_ _ _=>False)=eQ)(f3:cn.F.getD 3 (λ_ _ _=>False)=kG)(f4:cn.F.getD 4 (λ_ _ _=>False)=cQ)(h:fX (d+1) ds M Q):
  wSs cn jc (fin Q) (ai ["","","","","","","",""] ds) M:=by
 obtain⟨p,m,l_,a_,told,s,U,y,x,rfl,hp,hR,ok,ht,R,Z,W0,s0,OY,hm,PC,q⟩:=h;show wSs cn jc (fin Q) [some (.tup [.ref p,⇑told,⇑m]),~~~y.1,~~~y.2,some x,none,none,none,none] M;have lt:∀{a:Nat},Sub a U->a<2 ^ m:=λh=>XE h.le Z
 unfold jc;simp! only[List.set];refine⟨rfl,?_⟩;unfold oS;simp! only[List.set,f4];refine⟨p,m,l_,a_,told,s,U,y,rfl,hp,hR,ok,ht,R,Z,W0,s0,λw M1 N W1 e1=>?_⟩;simp! only[aQ,List.set];refine⟨rfl,?_⟩;have mono:=N.mono;have w1:=lt W1.1.2;have w2:=lt W1.2.2;unfold oR;simp! only[List.set,f3];refine⟨w.1,w.2,m,rfl,w1,by omega,λp2 M2 y' e2 g2=>?_⟩;have C:=e1.trans e2;have no:(∀(z:Str) (f:Nat) (r:List D),x≠.tup (.str z::⇑f::r))->Q (.bl false) M2:=λhn=>q false M2 ⟨λh=>(by cases h),λh=>by
  obtain⟨z,f,r,e⟩:=rl h;exact absurd e (hn z f r)⟩ C
 have B:∀T:String,dG x M2=some T->uC T "tuple" = false->(∀xs,x≠.tup xs)->wSs cn fW (fin Q) [some (.tup [.ref p,⇑told,⇑m]),~~~w.1,~~~w.2,some x,↑p,~~~told,~~~m,↑p2] M2:=by
  intro T hT hF hx;unfold fW;simp! only[List.set,hT,hF,Bool.not_false];exact⟨by decide,no λz f r e=>hx _ e⟩
 cases PC with
 |@lst b xs hb=>exact B "list" (by show(match M2 b with | some (.lst _)=>some "list" | some (.dic _)=>some "dict" | _=>none)=_;rw[C _ _ hb]) rfl λxs z=>by cases z
 |@dic b xs hb=>exact B "dict" (by show(match M2 b with | some (.lst _)=>some "list" | some (.dic _)=>some "dict" | _=>none)=_;rw[C _ _ hb]) rfl λxs z=>by cases z
 |atom hx=>
  cases x with
  |non=>exact B "NoneType" rfl rfl λxs z=>by cases z
  |bl _=>exact B "bool" rfl rfl λxs z=>by cases z
  |int _=>exact B "int" rfl rfl λxs z=>by cases z
  |str _=>exact B "str" rfl rfl λxs z=>by cases z
  |_=>cases hx
 |@tup xs k0 k1 kk=>
  unfold fW;simp_all! only[List.set,dG,NV];refine⟨by decide,?_⟩;show bG (!true) _ _;rw[Bool.not_true,ax];refine⟨by decide,?_⟩;by_cases hl:xs.length=2\/xs.length=4
  ·rw[YU hl]
   simp only[Bool.not_true,ax];obtain⟨x0,k,r,rfl⟩:∃x0 k r,xs=x0::k::r:=by
    match xs,hl with
    |[],h=>simp at h
    |[_],h=>simp at h
    |x0::k::r,_=>exact⟨x0,k,r,rfl⟩
   have p0:=k0 x0 rfl;have p1:=k1 k rfl;clear no B k0 k1 hl;have q:=λb M' (hb:b=true↔_)=>q b M' (hb.trans (vm N).symm)
   have RY:((((x0::k::r).length:Nat):Int)==2)=decide (r=[]):=by
    cases r with
    |nil=>rfl
    |cons _ _=>rw[ZP (by simp)];exact beq_false_of_ne (by simp only[YH];omega)
   have Wm:((((x0::k::r).length:Nat):Int)==4)=decide (r.length=2):=by
    by_cases e:r.length=2
    ·rw[YU e,YH,YH,e];rfl
    ·rw[ZP e];exact beq_false_of_ne (by simp only[YH];omega)
   have Wo:((w.1:Int)==(w.2:Int))=decide (w.1=w.2):=by
    by_cases e:w.1=w.2
    ·rw[e,XF,YU rfl]
    ·rw[ZP e];exact beq_false_of_ne (by omega)
   have Wn:∀(z:Str) (σ:DS) (M':MH) (K:Bool->MH->Prop),σ[3]?=some (some (.tup (x0::k::r)))->K (!a8 x0 (.str z)) M'->wT cn (.cmp .NotEq (.ix (.var 3) (.int 0)) (.str z)) σ M' K:=by
    intro z σ M' K Tz h;obtain⟨p1,p2⟩:=p0;cases x0 with
    |ref _=>cases p1
    |_=>
     simp! only[Tz,bz];exact⟨⟨p1,rfl,p2⟩,h⟩
   have TJ:∀f,f∈bd (ae w.1 w.2)↔(ae w.1 w.2).testBit f=true:=λf=>bK _ f
   have RK:bd (ae w.1 w.2)=[]↔ae w.1 w.2=0:=tS;generalize hL:bd (ae w.1 w.2)=L at *;have two:(L≠[]\/w.1=w.2)->∀I,ad M2 I->bG (!decide (r=[])) (Q (.bl false) I) (wT cn (.cmp .NotEq (.ix (.var 3) (.int 0)) (.ix (.lst (.cons (.str "world") (.cons (.str "broken") .nil))) (.bj .int (.cons (.cmp .NotEq (.var 7) (.lst .nil)) .nil)))) [some (.tup [.ref p,⇑told,⇑m]),~~~w.1,~~~w.2,some (.tup (x0::k::r)),↑p,~~~told,~~~m,↑p2] I
     λb M'=>bG b (Q (.bl false) M') (wSs cn jX (fin Q) [some (.tup [.ref p,⇑told,⇑m]),~~~w.1,~~~w.2,some (.tup (x0::k::r)),↑p,~~~told,~~~m,↑p2] M')):=by
    intro ab I e4;have g4:=e4 _ _ g2;have WB:=C.trans e4;have q2:∀b M',(b=true↔r=[]/\x0=.str (vo L)/\((L≠[]/\∃f:Nat,k=⇑f/\f∈L)\/(L=[]/\∃f:Nat,k=⇑f/\f∈[w.1])))->ad M M'->Q (.bl b) M':=by
     intro b M' hb e;refine q b M' (hb.trans ?_) e;unfold vo;by_cases j:L=[]
     ·have J:=RK.1 j
      have hw:w.1=w.2:=ab.resolve_left λh=>h j
      rw[if_pos j];constructor
      ·rintro⟨rfl,rfl,⟨h,_⟩ | ⟨_,f,rfl,h⟩⟩
       ·exact absurd j h
       ·have:f=w.1:=by simpa using h
        subst this;exact .inr (.inl ⟨hw,rfl⟩)
      ·rintro(⟨h,_⟩ | ⟨_,e⟩ | ⟨_,h,_⟩)
       ·exact absurd J h
       ·cases e;exact⟨rfl,rfl,.inr ⟨j,w.1,rfl,.head _⟩⟩
       ·exact absurd hw h
     ·have J:ae w.1 w.2≠0:=λz=>j (RK.2 z)
      rw[if_neg j];constructor
      ·rintro⟨rfl,rfl,⟨_,f,rfl,h⟩ | ⟨h,_⟩⟩
       ·exact .inl ⟨J,f,rfl,(TJ f).1 h⟩
       ·exact absurd h j
      ·rintro(⟨_,f,e,h⟩ | ⟨h,_⟩ | ⟨h,_⟩)
       ·cases e;exact⟨rfl,rfl,.inl ⟨j,f,rfl,(TJ f).2 h⟩⟩
       ·exact absurd (b0.2 (cU.2 (by rw[h];exact Sub.refl _))) J
       ·exact absurd h J
    by_cases l:r=[]
    ·rw[YU l,Bool.not_true,ax]
     refine JL p0 rfl rfl g4 λM5 x5=>?_
     cases he:a8 x0 (.str (vo L)) with
     |false=>exact q2 false M5 ⟨λh=>(by cases h),λh=>by rw[h.2.1,eO.2 rfl] at he;cases he⟩ (WB.trans x5)
     |true=>
      have Qd:=eO.1 he;simp only[Bool.not_true,ax];unfold jX;generalize hE:(E.cmp CmpOp.Eq (E.var 7) (E.lst Es.nil))=X;simp! only[Er,uK,List.set,f1,bF];intro n Wf;have x6:=ad.new (o:=MO.lst [⇑w.1]) Wf;have k6:ac M5 n (MO.lst [⇑w.1]) n=some (.lst (nats [w.1])):=aa;generalize ac M5 n (MO.lst [⇑w.1])=M6 at *;intro r7 ap;have x7:=ad.new (o:=MO.lst [.ref p2,.ref n]) ap;have k7:ac M6 r7 (MO.lst [.ref p2,.ref n]) r7=some (.lst [.ref p2,.ref n]):=aa;generalize ac M6 r7 (MO.lst [.ref p2,.ref n])=M7 at *;have g7:=(x5.trans (x6.trans x7)) _ _ g4;rw[←hE];refine MJ rfl g7 λM8 O=>?_
      have P:=WB.trans (x5.trans (x6.trans (x7.trans O)));by_cases j:L=[]
      ·rw[YU j]
       simp only[if_true,O _ _ k7,tQ];refine⟨k,n,[w.1],rfl,p1,(x7.trans O) _ _ k6,λb hb=>q2 b M8 (hb.trans ⟨λh=>⟨l,Qd,.inr ⟨j,h⟩⟩,λh=>?_⟩) P⟩;rcases h.2.2 with h | h
       ·exact absurd j h.1
       ·exact h.2
      ·rw[ZP j]
       simp only[XG,if_false,O _ _ k7,tP];refine⟨k,p2,L,rfl,p1,O _ _ g7,λb hb=>q2 b M8 (hb.trans ⟨λh=>⟨l,Qd,.inl ⟨j,h⟩⟩,λh=>?_⟩) P⟩;rcases h.2.2 with h | h
       ·exact h.2
       ·exact absurd h.1 j
    ·rw[ZP l,Bool.not_false,aJ]
     exact q2 false I ⟨λh=>(by cases h),λh=>absurd h.1 l⟩ WB
   unfold oQ;generalize hA:(T.cmp CmpOp.NotEq (E.var 7) (E.lst Es.nil))=A;generalize hX:(T.cmp CmpOp.NotEq (E.ix (E.var 3) (E.int 0)) (E.ix (E.lst (Es.cons (E.str "world") (Es.cons (E.str "broken") Es.nil))) (E.bj Bj.int (Es.cons (E.cmp CmpOp.NotEq (E.var 7) (E.lst Es.nil)) Es.nil))))=X at two ⊢;simp_all! only[List.set,RY,Wo];rw[←hA];refine MG rfl g2 λM3 x3=>?_
   by_cases j:L=[]
   ·rw[YU j]
    simp only[Bool.not_true,ax];by_cases hw:w.1=w.2
    ·rw[YU hw]
     simp only[aJ];exact two (.inr hw) M3 x3
    ·rw[ZP hw]
     simp only[ax];clear two hX hA;show wSs cn jW _ _ _;have hB:=RK.1 j;have sw:Sub w.1 w.2:=cU.1 (b0.1 hB);have Tv:=C.trans x3;have only:∀{f:Nat}{a b:D},D.tup (x0::k::r)=.tup [.str "split",⇑f,a,b]->x0=.str "split"/\k=⇑f/\r=[a,b]:=λh=>by cases h;exact⟨rfl,rfl,rfl⟩
     have W:∀b M',(b=true ↔ ∃(f:Nat) (a b:D),(x0=.str "split"/\k=⇑f/\r=[a,b])/\(ae w.2 w.1).testBit f=true/\c0 (aR a_ s (ae U s)) d a (w.1|||2 ^ f,w.2)/\c0 (aR a_ s (ae U s)) d b (w.1,ae w.2 (2 ^ f)))->ad M M'->Q (.bl b) M':=by
      intro b M' hb e;refine q b M' (hb.trans ⟨λ⟨f,a,b,⟨h1,h2,Y⟩,h4⟩=>.inr (.inr ⟨hB,hw,f,a,b,by rw[h1,h2,Y],h4⟩),λh=>?_⟩) e;rcases h with h | ⟨e,_⟩ | ⟨_,_,f,a,b,e,h4⟩
      ·exact absurd hB h.1
      ·exact absurd e hw
      ·exact⟨f,a,b,only e,h4⟩
     clear q;unfold jW;generalize hX:(T.cmp CmpOp.NotEq (E.ix (E.var 3) (E.int 0)) (E.str "split"))=X;simp_all! only[List.set,bF,Wm,f1,f2,lJ sw];by_cases l:r.length=2
     ·obtain⟨t,u,rfl⟩:∃t u,r=[t,u]:=by
       match r,l with
       |[t,u],_=>exact⟨t,u,rfl⟩
      rw[YU l];simp only[Bool.not_true,ax];rw[←hX];refine Wn _ _ _ _ rfl ?_;cases he:a8 x0 (.str "split") with
      |false=>exact W false M3 ⟨λh=>(by cases h),λ⟨f,a,b,h,_⟩=>by rw[h.1,eO.2 rfl] at he;cases he⟩ Tv
      |true=>
       have Qd:=eO.1 he;subst Qd;simp only[Bool.not_true,ax];refine⟨ae w.2 w.1,m,rfl,XE (cj _ _) w2,by omega,λp5 M5 Wv e5 g5=>?_⟩;have G:=Tv.trans e5;refine⟨k,p5,_,rfl,p1,g5,λb hb=>?_⟩;cases b with
       |false=>exact W false M5 ⟨λh=>(by cases h),λ⟨f,a,b,h,h2,_⟩=>absurd (hb.2 ⟨f,h.2.1,(bK _ _).2 h2⟩) (by decide)⟩ G
       |true=>
        obtain⟨f,rfl,hf⟩:=hb.1 rfl;have hf:=(bK _ _).1 hf;have TB:=hf;rw[aV,YX,XR] at hf;have L_:f<m:=dM w2 hf.1;have gw:=zF (m:=m) mono.1 mono.2;have ga:=tU sw hf.2 hf.1 w2;have gb:=oa sw hf.2 hf.1 w2;obtain⟨⟨Wa,sa⟩,Wb,sb⟩:=rn W1 sw hf.2 hf.1;have Wr:bR M5 t:=(kk t (.tail _ (.tail _ (.head _)))).ext G;have Ws:bR M5 u:=(kk u (.tail _ (.tail _ (.tail _ (.head _))))).ext G;have TH:(1:Int)*2 ^ (f:Int).toNat=((2 ^ f:Nat):Int):=oz f;have Wx:Sub (2 ^ f) w.2:=λg hg=>by
         rw[Nat.testBit_two_pow] at hg;have:f=g:=XM hg
         subst this;exact hf.1
        have same:∀{g:Nat},D.int (f:Int)=⇑g->g=f:=λ{g} h=>by
         have:(f:Int)=(g:Int):=by cases h;rfl
         omega
        simp only[Bool.not_true,ax];show wSs cn jV _ _ _;unfold jV;simp! only[List.set,bF,at2,f0,TH,gE];refine⟨⟨by omega (splitDisjunctions:=true),by omega (splitDisjunctions:=true),by decide⟩,p,m,l_,a_,told,s,U,(w.1|||2 ^ f,w.2),t,rfl,G _ _ hp,aM.ext G hR,ok,ht,R,Z,Wa,sa,by omega,hm,Wr,λc1 M6 R9 e6=>?_⟩;simp! only[];have UN:=G.trans e6;cases c1 with
        |false=>
         refine W false M6 ⟨λh=>(by cases h),λ⟨g,a2,b2,⟨_,h2,Y⟩,_,h5,_⟩=>?_⟩ UN;cases same h2;cases Y;exact R9.2 h5
        |true=>
         simp only[Bool.not_true,ax];show wSs cn jU _ _ _;unfold jU;simp! only[List.set,bF,HN,f0,TH,lJ Wx];refine⟨⟨by omega (splitDisjunctions:=true),by omega (splitDisjunctions:=true),by decide⟩,p,m,l_,a_,told,s,U,(w.1,ae w.2 (2 ^ f)),u,rfl,UN _ _ hp,aM.ext UN hR,ok,ht,R,Z,Wb,sb,by omega,hm,Ws.ext e6,λc2 M7 PV e7=>?_⟩;refine W c2 M7 (PV.trans ⟨λh=>⟨f,t,u,⟨rfl,rfl,rfl⟩,TB,R9.1 rfl,h⟩,λ⟨g,a2,b2,⟨_,h2,Y⟩,_,_,h6⟩=>?_⟩) (UN.trans e7);cases same h2;cases Y;exact h6
     ·rw[ZP l]
      simp only[Bool.not_false,aJ];exact W false M3 ⟨λh=>(by cases h),λ⟨f,a,b,h,_⟩=>by rw[h.2.2] at l;exact absurd rfl l⟩ Tv
   ·rw[ZP j]
    simp only[Bool.not_false,aJ];exact two (.inl j) M3 x3
  ·rw[ZP hl]
   simp only[Bool.not_false,aJ];refine q false M2 ⟨λh=>(by cases h),λh=>?_⟩ C;obtain⟨w',_,h⟩:=h;rcases h with⟨_,f,e,_⟩ | ⟨_,e⟩ | ⟨_,_,f,a,b,e,_⟩
   ·cases e;exact absurd (.inl rfl) hl
   ·cases e;exact absurd (.inl rfl) hl
   ·cases e;exact absurd (.inr rfl) hl
end
def jd:Ss:=#v[.ret (.ix (.var 2) (.fn 0 #v[.var 1,.int 17]))]
def nu:Ss:=.cons (.set 2 (.bin .Add (.var 2) (.lst #v[.bin .Add (.bin .Add (.sl (.var 0) .no (.yes (.int 2))) (.sl (.var 0) (.yes (.int 3)) .no)) (.sl (.var 0) (.yes (.int 2)) (.yes (.int 3))),.bin .Add (.bin .Add (.sl (.var 0) .no (.yes (.int 2))) (.sl (.var 0) (.yes (.int 2)) (.yes (.int 3)))) (.sl (.var 0) (.yes (.int 2)) (.yes (.int 3))),.bin .Add (.tup #v[.mt0 .upper (.ix (.var 0) (.int 0))]) (.sl (.var 0) (.yes (.int 1)) .no)]))) jd
def nv:Ss:=.cons (.set 2 (.bin .Add (.var 2) (.lst #v[.bin .Add (.bin .Add (.sl (.var 0) .no (.yes (.int 1))) (.tup #v[.bi .str #v[.ix (.var 0) (.int 1)]])) (.sl (.var 0) (.yes (.int 2)) .no),.bin .Add (.bin .Add (.sl (.var 0) .no (.yes (.int 1))) (.tup #v[.bin .Sub (.int 0) (.ix (.var 0) (.int 1))])) (.sl (.var 0) (.yes (.int 2)) .no),.sl (.var 0) .no (.yes (.int 2))]))) nu
def nw:Ss:=.cons (.set 2 (.bin .Add (.var 2) (.lst #v[.bin .Add (.bin .Add (.sl (.var 0) .no (.yes (.int 1))) (.tup #v[.fn 0 #v[.var 1,.int 9]])) (.sl (.var 0) (.yes (.int 2)) .no),.bin .Add (.bin .Add (.sl (.var 0) .no (.yes (.int 1))) (.tup #v[.bl true])) (.sl (.var 0) (.yes (.int 2)) .no),.non,.tup .nil,.tup #v[.var 0]]))) nv
def je:Ss:=.cons (.set 2 (.lst #v[.bin .Add (.tup #v[.str "world"]) (.sl (.var 0) (.yes (.int 1)) .no),.bin .Add (.tup #v[.str "broken"]) (.sl (.var 0) (.yes (.int 1)) .no),.bin .Add (.tup #v[.str "split"]) (.sl (.var 0) (.yes (.int 1)) .no),.bk .list #v[.var 0],.sl (.var 0) .no (.yes (.int 1)),.bin .Add (.var 0) (.tup #v[.int 0])])) nw
def ny:Ss:=#v[.ret (.bin .Add (.sl (.var 0) .no (.yes (.int 3))) (.tup #v[.fn 1 #v[.ix (.var 0) (.int 3),.var 1]]))]
def db:Ss:=.cons (.ite (.and (.cmp .Eq (.ix (.var 0) (.int 0)) (.str "split")) (.cmp .Gt (.fn 0 #v[.var 1,.int 3]) (.int 0))) (.cons (.ite (.cmp .Eq (.fn 0 #v[.var 1,.int 2]) (.int 0)) #v[.ret (.bin .Add (.sl (.var 0) .no (.yes (.int 2))) (.tup #v[.fn 1 #v[.ix (.var 0) (.int 2),.var 1],.ix (.var 0) (.int 3)]))] .nil) ny) .nil) je
def jY(d:Nat):az:=λds M Q=>∃(B:MH) (box:Addr) (k b:Int) (t:Tr),ds=[t.told,.ref box]/\ad B M/\B box=none/\M box=some (.lst [.int b,.int k])/\t.deep<d/\d<=20/\t.small /\
 ∀x M' a,bR M' x->ad B M'->M' box=some (.lst [.int a,.int k])->Q x M'
theorem tV{a:Type}(xs:List a)(k:Nat):cc xs none (some (k:Int))=xs.take k:=by
 unfold cc;rw[HT.jr,HT.tf,List.drop_zero,Nat.sub_zero];rcases Nat.le_total k xs.length with h | h
 ·rw[Nat.min_eq_left h]
 ·rw[Nat.min_eq_right h,List.take_length,List.take_of_length_le h]
theorem tX{a:Type}(xs:List a)(k:Nat):cc xs (some (k:Int)) none=xs.drop k:=by
 unfold cc;rw[HT.jr,HT.tf];rcases Nat.le_total k xs.length with h | h
 ·rw[Nat.min_eq_left h,List.take_of_length_le (by rw[YW];exact YE _)]
 ·rw[Nat.min_eq_right h,List.drop_length,List.drop_of_length_le h,List.take_nil]
section
variable {α:Type}(x y:α)(r:List α)
theorem zO:cc (x::r) none (some 1)=[x]:=tV _ 1
theorem zP:cc (x::y::r) none (some 2)=[x,y]:=tV _ 2
theorem LI(z:α):cc (x::y::z::r) none (some 3)=[x,y,z]:=tV _ 3
theorem EZ:cc (x::r) (some 1) none=r:=tX _ 1
theorem E1:cc (x::y::r) (some 2) none=r:=tX _ 2
theorem LJ:cc (x::y::r) (some 3) none=r.drop 1:=tX _ 3
theorem MK:cc (x::y::r) (some 2) (some 3)=r.take 1:=by
 show((x::y::r).drop (HT.a0 _ 0 (some ((2:Nat):Int)))).take (HT.a0 _ _ (some ((3:Nat):Int))-HT.a0 _ 0 (some ((2:Nat):Int)))=_;rw[HT.jr,HT.jr];cases r with
 |nil=>rfl
 |cons a r=>
  have b:min 2 (x::y::a::r).length=2:=by simp only[YH];omega
  have h2:min 3 (x::y::a::r).length=3:=by simp only[YH];omega
  rw[b,h2];rfl
end
theorem bR.box{M:MH}{p:Addr}{l:List D}{x:D}(h:bR M x):bR (ac M p (.lst l)) x:=by
 induction h with
 |atom h=>exact .atom h
 |@lst a xs h=>
  by_cases e:a=p
  ·subst e;exact .lst aa
  ·exact .lst (by rw[aG e];exact h)
 |@dic a xs h=>
  by_cases e:a=p
  ·subst e;exact .lst aa
  ·exact .dic (by rw[aG e];exact h)
 |tup b h2 _ c=>exact .tup b h2 c
theorem dW {M:MH} {z:Str} {x:D} {r:List D} (hx:vk x = true) (a:∀ y ∈ r,bR M y):bR M (.tup (.str z :: x :: r)):=
 .tup (λu h=>by cases h; exact ⟨rfl,YL _⟩) (λu h=>by cases h; exact hx) λu hu=>by
  rcases ZZ.1 hu with rfl | hu
  ·exact .atom rfl
  rcases ZZ.1 hu with rfl | hu
  ·exact .atom hx
  exact a u hu
theorem LK{M:MH}{xs:List D}{v:Nat}(h:v<xs.length)(ok:∀x∈xs,bR M x):∃x,cX xs (v:Int)=some x/\bR M x:=
 ⟨xs[v],c9 (ZD h),ok _ (XJ h)⟩
section
variable {cn:Cn}{ds:List D}{M:MH}{Q:DK}
theorem jZ {B:MH} {box:Addr} {k b:Int} {z:Str} {n:Nat} {r:List D} (f0:cn.F.getD 0 (λ_ _ _=>False) = cZ) (eB:ad B M) (x_:B box = none) (hb:M box = some (.lst [.int b,.int k])) (hz:z.length<=100) (hn:n < 2 ^ 64) (hr:r.length<=2) (g:∀ M':MH,∀ x ∈ r,bR M' x)
  (pt:aY (.tup (.str z :: ⇑n :: r)) = true) (dt:dE (.tup (.str z :: ⇑n :: r))<=30) (q:∀ x M' b',bR M' x->ad B M'->M' box = some (.lst [.int b',.int k])->Q x M') :
  wSs cn je (fin Q) [some (.tup (.str z :: ⇑n :: r)),↑box,none] M:=by
 have hsz:(2000:Nat) < sizeLine:=by decide
 have K:∀ (M':MH) (u:Str),bR M' (.tup (.str u :: ⇑n :: r)):=λM' u=>dW rfl (g M')
 have TK:∀ (L:List D) (p:Addr) (d:Int) (M5:MH),L.length = 17->M5 p = some (.lst L)->(∀ x ∈ L,bR M5 x)->p ≠ box->ad B M5->M5 box = some (.lst [.int d,.int k])->wSs cn jd (fin Q) [some (.tup (.str z :: ⇑n :: r)),↑box,↑p] M5:=by
  intro L p d M5 hL hp ok np Z h5
  unfold jd
  simp! only [List.set,f0]
  refine ⟨box,d,k,17,rfl,h5,⟨by decide,by decide⟩,λv t hv=>?_⟩
  have g6:ac M5 box (MO.lst [.int t,.int k]) p = some (.lst L):=by rw [aG np]; exact hp
  obtain ⟨x,hx,PC⟩:=LK (M:=ac M5 box (MO.lst [.int t,.int k])) (xs:=L) (v:=v) (by omega) λx h=>(ok x h).box
  simp only [g6,hx,bn]
  exact q x _ t PC (Z.box x_) aa
 unfold je
 simp! only [pX,gD,rW,List.set,EZ,zO,List.cons_append,XB]
 have z1:∀ (u:D) (l:List D),([u]:List D) ≠ []:=λ_ _ h=>by cases h
 have O:∀ (u v:D),([u]:List D).length + (v :: r).length<=sizeLine:=λu v=>by simp only [YH,YT]; omega
 refine ⟨⟨by simp,O _ _⟩,⟨by simp,O _ _⟩,⟨by simp,O _ _⟩,λA OZ=>⟨⟨by simp,by simp only [YH,YT]; omega⟩,λC P=>?_⟩⟩
 have R:=ad.new (o:=MO.lst (.str z :: ⇑n :: r)) OZ
 have k1:ac M A (MO.lst (.str z :: ⇑n :: r)) A = some (.lst (.str z :: ⇑n :: r)):=aa
 generalize ac M A (MO.lst (.str z :: ⇑n :: r)) = M1 at *
 have G:C ≠ box:=λh=>by subst h; rw [R _ _ hb] at P; cases P
 have TL:∀ M':MH,ad M1 M'->∀ x ∈ [D.tup (.str "world" :: ⇑n :: r),.tup (.str "broken" :: ⇑n :: r),.tup (.str "split" :: ⇑n :: r),.ref A,.tup [.str z],.tup (.str z :: ⇑n :: (r ++ [.int 0]))],bR M' x:=by
  intro M' e x hx
  simp only [ZZ,List.not_mem_nil,or_false] at hx
  rcases hx with rfl | rfl | rfl | rfl | rfl | rfl
  ·exact K _ _
  ·exact K _ _
  ·exact K _ _
  ·exact .lst (e _ _ k1)
  ·exact .tup (λu h=>by cases h; exact ⟨rfl,YL _⟩) (λu h=>by cases h) λu hu=>by
    rcases ZZ.1 hu with rfl | hu
    ·exact .atom rfl
    cases hu
  ·refine dW rfl λy hy=>?_
   rcases YA.1 hy with hy | hy
   ·exact g _ y hy
   ·rcases ZZ.1 hy with rfl | hy
    ·exact .atom rfl
    cases hy
 have I:[D.tup (.str "world" :: ⇑n :: r),.tup (.str "broken" :: ⇑n :: r),.tup (.str "split" :: ⇑n :: r),.ref A,.tup [.str z],.tup (.str z :: ⇑n :: (r ++ [.int 0]))].length = 6:=rfl
 generalize [D.tup (.str "world" :: ⇑n :: r),.tup (.str "broken" :: ⇑n :: r),.tup (.str "split" :: ⇑n :: r),.ref A,.tup [.str z],.tup (.str z :: ⇑n :: (r ++ [.int 0]))] = j at *
 have S:=ad.new (o:=MO.lst j) P
 have k4:ac M1 C (MO.lst j) C = some (.lst j):=aa
 generalize ac M1 C (MO.lst j) = M4 at *
 have ab:=TL M4 S
 have e4:=eB.trans (R.trans S)
 have h4:=(R.trans S) _ _ hb
 clear TL R S k1 P OZ eB hb
 clear M1
 unfold nw
 simp! only [List.set,zO,E1,List.cons_append,XB,f0]
 refine ⟨box,b,k,9,rfl,h4,⟨by decide,by decide⟩,λv d hv=>?_⟩
 have Z:ad B (ac M4 box (.lst [.int d,.int k])):=e4.box x_
 have h5:ac M4 box (MO.lst [.int d,.int k]) box = some (.lst [.int d,.int k]):=aa
 have g5:ac M4 box (MO.lst [.int d,.int k]) C = some (.lst j):=by rw [aG G]; exact k4
 have ap:∀ x ∈ j,bR (ac M4 box (MO.lst [.int d,.int k])) x:=λx h=>(ab x h).box
 generalize ac M4 box (MO.lst [.int d,.int k]) = M5 at *
 dsimp only
 have T:∀ (u v:D),([u,v]:List D).length + r.length<=sizeLine:=λu v=>by simp only [YH,YT]; omega
 have U:∀ (u v:D),([u]:List D).length + ([v]:List D).length<=sizeLine:=λu v=>by simp only [YH,YT]; omega
 -- a list put behind the one that is there
 have put:∀ (X:Ss) (L N:List D) (p:Addr) (t:Int) (c:MH),L.length + N.length<=17->c p = some (.lst L)->(∀ x ∈ L,bR c x)->(∀ M',ad c M'->∀ x ∈ N,bR M' x)->p ≠ box->ad B c->c box = some (.lst [.int t,.int k]) ->
   (∀ f m,m f = some (.lst (L ++ N))->(∀ x ∈ L ++ N,bR m x)->f ≠ box->ad B m->m box = some (.lst [.int t,.int k])->wSs cn X (fin Q) [some (.tup (.str z :: ⇑n :: r)),↑box,↑f] m) ->
   ∀ pn,c pn = none->(match ac c pn (.lst N) p,ac c pn (.lst N) pn with
    | some (.lst xs),some (.lst ys)=>xs.length + ys.length<=sizeLine/\∀ f,ac c pn (.lst N) f = none->wSs cn X (fin Q) [some (.tup (.str z :: ⇑n :: r)),↑box,↑f] (ac (ac c pn (.lst N)) f (.lst (xs ++ ys)))
    | _,_=>False):=by
  intro X L N p t c hl hp ok aB np e6 V kk pn Pc
  have E:=ad.new (o:=MO.lst N) Pc
  have k6:ac c pn (MO.lst N) pn = some (.lst N):=aa
  generalize ac c pn (MO.lst N) = m at *
  rw [E _ _ hp,k6]
  refine ⟨by omega,λf UE=>?_⟩
  have W:=ad.new (o:=MO.lst (L ++ N)) UE
  refine kk f _ aa (λx hx=>?_) (λh=>by subst h; rw [E _ _ V] at UE; cases UE) (e6.trans (E.trans W)) ((E.trans W) _ _ V)
  rcases YA.1 hx with hx | hx
  ·exact (ok x hx).ext (E.trans W)
  ·exact aB _ (E.trans W) x hx
 refine ⟨⟨by simp,U _ _⟩,⟨by simp,T _ _⟩,⟨by simp,U _ _⟩,⟨by simp,T _ _⟩,?_⟩
 refine put _ j _ C d M5 (by rw [I]; exact Nat.le_add_left 11 6) g5 ap (λM' _ x hx=>?_) G Z h5 ?_
 ·simp only [ZZ,List.not_mem_nil,or_false] at hx
  rcases hx with rfl | rfl | rfl | rfl | rfl
  ·exact dW rfl (g M')
  ·exact dW rfl (g M')
  ·exact .atom rfl
  ·exact .tup (λu h=>by cases h) (λu h=>by cases h) λu hu=>by cases hu
  ·exact .tup (λu h=>by cases h; exact ⟨pt,dt⟩) (λu h=>by cases h) λu hu=>by
    rcases ZZ.1 hu with rfl | hu
    ·exact K _ _
    cases hu
 intro p6 c g6 UL a1 e6 V
 have J:(j ++ [D.tup (.str z :: ⇑v :: r),.tup (.str z :: .bl true :: r),.non,.tup [],.tup [.tup (.str z :: ⇑n :: r)]]).length = 11:=by rw [ZJ,I]; rfl
 generalize (j ++ [D.tup (.str z :: ⇑v :: r),.tup (.str z :: .bl true :: r),.non,.tup [],.tup [.tup (.str z :: ⇑n :: r)]]) = L6 at *
 unfold nv
 simp! only [List.set,zO,zP,E1,bF,List.cons_append,XB]
 have lg:((n:Int)).natAbs.log2 < 1920:=by
  show n.log2 < 1920
  by_cases h0:n = 0
  ·subst h0; decide
  ·exact (Nat.log2_lt h0).2 (ZR hn (Nat.pow_le_pow_right (by decide) (by decide)))
 refine ⟨lg,⟨by simp,U _ _⟩,⟨by simp,T _ _⟩,⟨by simp,U _ _⟩,⟨by simp,T _ _⟩,?_⟩
 refine put _ L6 _ p6 d c (by rw [J]; exact Nat.le_add_left 14 3) g6 UL (λM' _ x hx=>?_) a1 e6 V ?_
 ·simp only [ZZ,List.not_mem_nil,or_false] at hx
  rcases hx with rfl | rfl | rfl
  ·exact dW rfl (g M')
  ·exact dW rfl (g M')
  ·exact dW rfl λy hy=>by cases hy
 intro f m g7 a2 a3 e7 h7
 have Y:∀ u v w:D,(L6 ++ [u,v,w]).length = 14:=λu v w=>by rw [ZJ,J]; rfl
 have Y:=Y (D.tup (.str z :: .str (toString (n:Int)) :: r)) (.tup (.str z :: .int (0 - (n:Int)) :: r)) (.tup [.str z,⇑n])
 generalize (L6 ++ [D.tup (.str z :: .str (toString (n:Int)) :: r),.tup (.str z :: .int (0 - (n:Int)) :: r),.tup [.str z,⇑n]]) = L7 at *
 unfold nu
 simp! only [List.set,zP,EZ,LJ,MK,bz,List.cons_append,XB]
 have d1:(r.drop 1).length<=2:=by rw [YW]; omega
 have t1:(r.take 1).length<=2:=by rw [YR]; omega
 have a4:∀ (M':MH),∀ x ∈ r.drop 1,bR M' x:=λM' x h=>g M' x (List.mem_of_mem_drop h)
 have WC:∀ (M':MH),∀ x ∈ r.take 1,bR M' x:=λM' x h=>g M' x (XU h)
 refine ⟨⟨by simp,by simp only [YH,YT]; omega⟩,⟨by simp,by simp only [YH,YT]; omega⟩,⟨by simp,by simp only [YH,YT]; omega⟩,⟨by simp,by simp only [YH,YT]; omega⟩,trivial,by omega,λ_=>⟨⟨by simp,O _ _⟩,?_⟩⟩
 refine put _ L7 _ f d m (by rw [Y]; exact YE 17) g7 a2 (λM' _ x hx=>?_) a3 e7 h7 ?_
 ·simp only [ZZ,List.not_mem_nil,or_false] at hx
  rcases hx with rfl | rfl | rfl
  ·exact dW rfl λy hy=>(YA.1 hy).elim (a4 M' y) (WC M' y)
  ·exact dW rfl λy hy=>(YA.1 hy).elim (WC M' y) (WC M' y)
  ·exact dW rfl (g M')
 intro p8 M8 g8 a5 a6 e8 h8
 exact TK _ p8 d M8 (by rw [ZJ,Y]; rfl) g8 a5 a6 e8 h8
theorem xt {d:Nat} (o:cn.F.getD 0 (λ_ _ _=>False) = cZ) (L:cn.F.getD 1 (λ_ _ _=>False) = jY d) (h:jY (d + 1) ds M Q):wSs cn db (fin Q) (ai ["","",""] ds) M:=by
 obtain ⟨B,box,k,b,t,rfl,p,a,hb,hd,U,w,q⟩:=h
 show wSs cn db (fin Q) [some t.told,↑box,none] M
 obtain ⟨A,C⟩:=rp t
 cases t with
 | broken f=>
  unfold db
  simp! only [ao,aq,aA,ar,al,aC,ak,au,YL,and_self,true_and,and_true,Tr.told,List.set,bz]
  rw [show (("broken" : Str) == "split") = false by rfl']
  exact jZ (r:=[]) o p a hb (by rfl') w (by decide) (λM' x hx=>by cases hx) A (ZW C (Nat.le_add_left 1 29)) q
 | world f=>
  unfold db
  simp! only [ao,aq,aA,ar,al,aC,ak,au,YL,and_self,true_and,and_true,Tr.told,List.set,bz]
  rw [show (("world" : Str) == "split") = false by rfl']
  exact jZ (r:=[]) o p a hb (by rfl') w (by decide) (λM' x hx=>by cases hx) A (ZW C (Nat.le_add_left 1 29)) q
 | split f g j=>
  have hd:max g.deep j.deep + 1 < d + 1:=hd
  obtain ⟨E,V,W⟩:=w
  have hsz:(2000:Nat) < sizeLine:=by decide
  unfold db
  simp! only [ao,aq,aA,ar,al,aC,ak,au,YL,and_self,true_and,and_true,Tr.told,List.set,bz,at2,HN,o,L,zP,XF]
  refine ⟨box,b,k,3,rfl,hb,⟨by decide,by decide⟩,λv m Y=>?_⟩
  have O:ad B (ac M box (.lst [.int m,.int k])):=p.box a
  have P:ac M box (MO.lst [.int m,.int k]) box = some (.lst [.int m,.int k]):=aa
  generalize ac M box (MO.lst [.int m,.int k]) = M1 at *
  have R:∀ (z:Str) (x y:D) (M':MH),bR M' x->bR M' y->bR M' (.tup [.str z,⇑f,x,y]):=by
   intro z x y M' hx hy
   refine dW rfl λu hu=>?_
   rcases ZZ.1 hu with rfl | hu
   ·exact hx
   rcases ZZ.1 hu with rfl | hu
   ·exact hy
   cases hu
  show bG (decide ((0:Int) < (v:Int))) _ _
  by_cases n:(0:Int) < (v:Int)
  ·rw [YU n,aJ]
   refine ⟨box,m,k,2,rfl,P,⟨by decide,by decide⟩,λS l X=>?_⟩
   have T:ad B (ac M1 box (.lst [.int l,.int k])):=O.box a
   have h2:ac M1 box (MO.lst [.int l,.int k]) box = some (.lst [.int l,.int k]):=aa
   generalize ac M1 box (MO.lst [.int l,.int k]) = M2 at *
   refine ⟨⟨rfl,rfl,YL _⟩,?_⟩
   show bG ((S:Int) == 0) _ _
   by_cases hz:(S:Int) = 0
   ·rw [hz,XF,aJ]
    refine ⟨B,box,k,l,g,rfl,T,a,h2,by omega,by omega,V,λx c G I J K=>⟨⟨by simp,by simp only [YH,YT]; omega⟩,?_⟩⟩
    exact q _ c G (R _ _ _ c I (jR c j)) J K
   ·rw [beq_false_of_ne hz,ax]
    unfold ny
    simp! only [List.set,HN,L,LI]
    refine ⟨B,box,k,l,j,rfl,T,a,h2,by omega,by omega,W,λx c G I J K=>⟨⟨by simp,by simp only [YH,YT]; omega⟩,?_⟩⟩
    exact q _ c G (R _ _ _ c (jR c g) I) J K
  ·rw [ZP n,ax]
   exact jZ (r:=[g.told,j.told]) o O a P (by rfl') E (YE 2) (λM' x hx=>by
    rcases ZZ.1 hx with rfl | hx
    ·exact jR M' g
    rcases ZZ.1 hx with rfl | hx
    ·exact jR M' j
    cases hx) A (ZW C (by show max g.deep j.deep + 1 + 1<=30; omega)) q
end
def pO:Ss:=#v[.ret (.cmp .Is (.fn 0 #v[.var 4,.var 3,.ix (.lst #v[.lst #v[.var 9],.str "world",.int 7,.dnew]) (.fn 1 #v[.var 8,.int 4])]) (.bl false))]
def zQ:Ss:=#v[.ite (.or (.not (.val (.bi .isinst #v[.var 12,.ty "bool"]))) (.cmp .NotEq (.var 12) (.fn 2 #v[.var 5,.var 6,.var 7,.var 11]))) #v[.ret (.bl false)] .nil]
def zR:Ss:=.cons (.set 12 (.fn 0 #v[.var 4,.var 3,.var 11])) zQ
def pP:Ss:=.cons (.set 11 (.fn 3 #v[.var 9,.var 8])) zR
def tY:Ss:=.cons (.for (.nm 10) (.rg1 #v[.int 4]) pP) pO
def zS:Ss:=.cons (.ite (.cmp .IsNot (.fn 0 #v[.var 4,.var 3,.var 9]) (.bl true)) #v[.ret (.bl false)] .nil) tY
def zT:Ss:=.cons (.set 9 (.fn 4 #v[.var 5,.var 6,.var 7,.var 8])) zS
def zU:Ss:=.cons (.set 8 (.lst #v[.fn 5 #v[.var 0,.int 3],.int 0])) zT
def zV:Ss:=.cons (.asg (.tp [6,7]) (.fn 6 #v[.var 2,.var 3])) zU
def zW:Ss:=.cons (.set 5 (.tup #v[.var 2,.var 3,.var 1])) zV
def wY:Ss:=.cons (.set 4 (.fn 7 #v[.var 1,.var 2])) zW
def wZ:Ss:=.cons (.set 3 (.fn 8 #v[.var 0,.var 1])) wY
def w4:Ss:=.cons (.set 2 (.fn 9 #v[.var 0,.var 1,.int 4,.int 16])) wZ
def vp:Ss:=.cons (.set 1 (.bin .Add (.int 1) (.bin .Mod (.fn 5 #v[.var 0,.int 0]) (.int 7)))) w4
def xK:az:=λds M Q=>∃(a:Addr) (ns:Zi),ds=[.ref a]/\M a=some (.rol (ns.map .int))/\ns.length<=63/\∀M',Q (.bl true) M'
section
variable {cn:Cn}{ds:List D}{M:MH}{Q:DK}{c:CA}{S Z:Addr}
theorem LL(f0:cn.F.getD 0 (λ_ _ _=>False)=ke c S)(f1:cn.F.getD 1 (λ_ _ _=>False)=cZ)(f2:cn.F.getD 2 (λ_ _ _=>False)=fX 13)(f3:cn.F.getD 3 (λ_ _ _=>False)=jY 13)(f4:cn.F.getD 4 (λ_ _ _=>False)=lP 13)
  (f5:cn.F.getD 5 (λ_ _ _=>False)=dm) (f6:cn.F.getD 6 (λ_ _ _=>False)=nr) (f7:cn.F.getD 7 (λ_ _ _=>False)=lF c S) (f8:cn.F.getD 8 (λ_ _ _=>False)=m6) (f9:cn.F.getD 9 (λ_ _ _=>False)=kf) (h:xK ds M Q):
  wSs cn vp (fin Q) (ai ["","","","","","","","","","","","",""] ds) M:=by
 obtain⟨a,ns,rfl,L,-,q⟩:=h;show wSs cn vp (fin Q) [↑a,none,none,none,none,none,none,none,none,none,none,none,none] M;unfold vp;simp! only[List.set,f5];refine⟨a,ns,0,rfl,L,by decide,?_⟩;obtain⟨m,em,hm⟩:∃m:Nat,1+cellAt ns 0%7=(m:Int)/\(0<m/\m<=7):=by
  refine⟨(1+cellAt ns 0%7).toNat,?_,?_⟩<;>omega
 dsimp only;rw[em];unfold w4;simp! only[List.set,f9];refine⟨a,ns,m,4,16,rfl,L,⟨hm.1,by omega⟩,by decide,λp l_ a_ M1 g1 hR ok hl e1=>?_⟩;unfold wZ;simp! only[List.set,f8];refine⟨a,ns,m,rfl,e1 _ _ L,by omega,λtold ht=>?_⟩;unfold wY;simp! only[List.set,f7];refine⟨m,p,l_,a_,rfl,g1,hR,ok,λsh M2 e2 A=>?_⟩;have hn:a_.length<64:=by omega
 have RL:m<=12:=by omega
 unfold zW;simp! only[List.set];unfold zV;simp! only[List.set,f6];refine⟨p,m,l_,a_,told,rfl,e2 _ _ g1,aM.ext e2 hR,ok,ht,λs U B R hU e4=>?_⟩;simp! only[aQ,List.set];refine⟨rfl,?_⟩;have UQ:=e2.trans e4;have gB:=UQ _ _ g1;have RB:=aM.ext UQ hR;have AB:=A.ext e4;have aB:=(e1.trans UQ) _ _ L;clear g1 hR A e1 e2 e4 UQ L;clear M1 M2;have W:Within s U (s,U):=⟨⟨Sub.refl _,R.su⟩,R.su,Sub.refl _⟩;have OY:gap m (s,U)<13:=by
  unfold gap
  have:=ss m U
  show cnt m U-cnt m s<13;omega
 have uniq:∀{G I:Nat},fK a_ told G I->G=s/\I=U:=λh=>h.uniq R
 unfold zU;simp! only[List.set,f5];refine⟨a,ns,3,rfl,aB,λbox x_=>?_⟩;have eB:ad B (ac B box (.lst [.int (cellAt ns 3),.int 0])):=ad.new x_;have hb:ac B box (MO.lst [.int (cellAt ns 3),.int 0]) box=some (.lst [.int (cellAt ns 3),.int 0]):=aa;generalize ac B box (MO.lst [.int (cellAt ns 3),.int 0])=M5 at *;unfold zT;simp! only[List.set,f4];refine⟨B,p,box,0,_,m,l_,a_,told,s,U,(s,U),rfl,eB,x_,hb,gB,RB,ok,ht,R,hU,W,R.su,OY,by omega,λt M6 b6 T sm hd R_ h6=>?_⟩;unfold zS;simp! only[List.set,f0];refine⟨sh,m,a_,told,t.told,rfl,AB.ext R_,hn,RL,ht,jR M6 t,λb G I M7 R' Wi e7=>?_⟩;obtain⟨rfl,rfl⟩:=uniq R';have:b=true:=Wi.2 (Hc T hd)
 subst this;simp! only[Bool.not_true];refine⟨trivial,?_⟩;show wSs cn tY _ _ _;have last:∀(g d k:Zz) (j:MH) (l:Int),ad B j->j box=some (.lst [.int l,.int 0])->wSs cn pO (fin Q) [↑a,~~~m,↑p,~~~told,↑sh,some (.tup [.ref p,⇑told,⇑m]),~~~G,~~~I,↑box,some t.told,g,d,k] j:=by
  intro g d k j l J C;unfold pO;simp! only[List.set,f0,f1];intro n OV;have x1:=ad.new (o:=MO.lst [t.told]) OV;have k1:ac j n (MO.lst [t.told]) n=some (.lst [t.told]):=aa;generalize ac j n (MO.lst [t.told])=w at *;intro u SQ;have x2:=ad.new (o:=MO.dic []) SQ;have k2:ac w u (MO.dic []) u=some (.dic []):=aa;generalize ac w u (MO.dic [])=Pd at *;intro O WH;have x3:=ad.new (o:=MO.lst [.ref n,.str "world",.int 7,.ref u]) WH;have k3:ac Pd O (MO.lst [.ref n,.str "world",.int 7,.ref u]) O=some (.lst [.ref n,.str "world",.int 7,.ref u]):=aa;have n3:O≠box:=λh=>by subst h;rw[(x1.trans x2) _ _ C] at WH;cases WH
  generalize ac Pd O (MO.lst [.ref n,.str "world",.int 7,.ref u])=K at *;have P:=x1.trans (x2.trans x3);refine⟨box,l,0,4,rfl,P _ _ C,⟨by decide,by decide⟩,λv UR hv=>?_⟩;have OQ:ad B (ac K box (.lst [.int UR,.int 0])):=(J.trans P).box x_;have ap:ac K box (MO.lst [.int UR,.int 0]) O=some (.lst [.ref n,.str "world",.int 7,.ref u]):=by rw[aG n3];exact k3
  have WJ:∀y∈[D.ref n,.str "world",.int 7,.ref u],bR (ac K box (MO.lst [.int UR,.int 0])) y/\∀xs,y≠.tup xs:=by
   intro y hy;simp only[ZZ,List.not_mem_nil,or_false] at hy;rcases hy with rfl | rfl | rfl | rfl
   ·exact⟨(bR.lst ((x2.trans x3) _ _ k1)).box,λxs h=>by cases h⟩
   ·exact⟨.atom rfl,λxs h=>by cases h⟩
   ·exact⟨.atom rfl,λxs h=>by cases h⟩
   ·exact⟨(bR.dic (x3 _ _ k2)).box,λxs h=>by cases h⟩
  generalize ac K box (MO.lst [.int UR,.int 0])=Wd at *;have V:v<[D.ref n,.str "world",.int 7,.ref u].length:=hv;obtain⟨PC,nt⟩:=WJ _ (XJ V);simp only[ap,c9 (ZD V),bn];generalize [D.ref n,.str "world",.int 7,.ref u][v]=x at *;refine⟨sh,m,a_,told,x,rfl,AB.ext OQ,hn,RL,ht,PC,λb s2 U2 UC R2 WK We=>?_⟩;have:b=false:=by
   cases b with
   |false=>rfl
   |true=>
    obtain⟨z,f,r,e⟩:=rl (WK.1 rfl);exact absurd e (nt _)
  subst this;simp! only[];exact⟨trivial,q UC⟩
 have X:∀(E:cv) (g d k:Zz) (j:MH) (l:Int),ad B j->j box=some (.lst [.int l,.int 0]) ->
   (∀d k w Y,ad B w->w box=some (.lst [.int Y,.int 0])->E.nx [↑a,~~~m,↑p,~~~told,↑sh,some (.tup [.ref p,⇑told,⇑m]),~~~G,~~~I,↑box,some t.told,g,d,k] w) ->
   wSs cn pP E [↑a,~~~m,↑p,~~~told,↑sh,some (.tup [.ref p,⇑told,⇑m]),~~~G,~~~I,↑box,some t.told,g,d,k] j:=by
  intro E g d k j l J C kk;unfold pP;simp! only[List.set,f3];refine⟨B,box,0,l,t,rfl,J,x_,C,hd,by decide,sm,λx w Y PC e9 h9=>?_⟩;unfold zR;simp! only[List.set,f0];refine⟨sh,m,a_,told,x,rfl,AB.ext e9,hn,RL,ht,PC,λb s2 U2 Pd R2 WL Pe=>?_⟩;obtain⟨rfl,rfl⟩:=uniq R2;unfold zQ;simp_all! only[List.set,f2,dG];refine⟨by decide,?_⟩;show bG (!true) _ _;rw[Bool.not_true,ax];have RN:=e9.trans Pe;refine⟨p,m,l_,a_,told,s2,U2,(s2,U2),x,rfl,RN _ _ gB,aM.ext RN RB,ok,ht,R,hU,W,R.su,OY,by omega,PC.ext Pe,λb2 K WM Pt=>?_⟩;have:b2=b:=Hd WL b2 WM
  subst this;simp_all! only[and_true];rw[tx _ rfl,Bool.not_true,ax];exact kk _ _ K Y (RN.trans Pt) ((Pe.trans Pt) _ _ h9)
 have ab:∀(xs:Zj) (g d k:Zz) (j:MH) (l:Int),ad B j->j box=some (.lst [.int l,.int 0])->aI (λ_=>True) (.nm 10) (wSs cn pP) { nx:=wSs cn pO (fin Q),rt:=Q } (nats xs) [↑a,~~~m,↑p,~~~told,↑sh,some (.tup [.ref p,⇑told,⇑m]),~~~G,~~~I,↑box,some t.told,g,d,k] j:=by
  intro xs;induction xs with
  |nil=>
   intro g d k j l J C;rw[show nats []=[] from rfl,aI];exact last g d k j l J C
  |cons f xs ih=>
   intro g d k j l J C;rw[show nats (f::xs)=⇑f::nats xs from rfl,aI];refine X _ _ d k j l J C ?_;intro d k w Y e9 h9;exact⟨trivial,ih _ _ _ w Y e9 h9⟩
 unfold tY;simp! only[List.set];refine⟨⟨by decide,by decide⟩,?_⟩;rw[show(4:Int)=((4:Nat):Int) from rfl,dq];exact ab _ none none none M7 b6 (R_.trans e7) (e7 _ _ h6)
end
end SH
namespace K64
open PySem L2 DD
abbrev oT:List Str:=["many","leanings","found","row","row_leaned","fact","lack"]
abbrev nz:List Str:=["many","leanings"]
theorem vq:bU oT nz (am fO):=⟨rfl,rfl,rfl,by rfl',rfl,by rfl',by rfl'⟩
abbrev vt:List Str:=[]
theorem vv:cx ⟨oT,am fO,true,d4,gU,vt⟩ SH.eY (aW fO)=true:=by rfl'
abbrev sY:List Str:=["_law_sheet_here","_law_sure","_law_may","_law_left","_law_rows_here","_law_told_here","_law_many","_law_over_here","_law_some","_law_fact","_law_one"]
abbrev jf:List Str:=["_law_sheet_here","_law_sure","_law_may","_law_left"]
theorem rq:bU sY jf (am j4):=⟨rfl,rfl,rfl,by rfl',rfl,by rfl',by rfl'⟩
abbrev zX:List Str:=["_law_grown","_law_draw","_law_facts","_law_over","_law_narrow"]
theorem rz:cx ⟨sY,am j4,true,d4,gU,zX⟩ SH.jb (aW j4)=true:=by rfl'
abbrev sZ:List Str:=["_law_sheet_here","_law_sure","_law_may","_law_tree","_law_rows_here","_law_told_here","_law_many","_law_over_here"]
abbrev jg:List Str:=["_law_sheet_here","_law_sure","_law_may","_law_tree"]
theorem rA:bU sZ jg (am j5):=⟨rfl,rfl,rfl,by rfl',rfl,by rfl',by rfl'⟩
abbrev zY:List Str:=["_law_holds","_law_is_one","_law_facts","_law_over","_law_narrow"]
theorem rB:cx ⟨sZ,am j5,true,d4,gU,zY⟩ SH.jc (aW j5)=true:=by rfl'
abbrev rC:List Str:=["_law_tree","_law_left","_law_some"]
abbrev gS:List Str:=["_law_tree","_law_left"]
theorem qz:bU rC gS (am iH):=⟨rfl,rfl,rfl,by rfl',rfl,by rfl',by rfl'⟩
abbrev xu:List Str:=["_law_draw","_law_spoilt"]
theorem qA:cx ⟨rC,am iH,true,d4,gU,xu⟩ SH.db (aW iH)=true:=by rfl'
abbrev HQ:List Str:=["_law_script","_law_many","_law_rows_here","_law_told_here","_law_made","_law_sheet_here","_law_sure","_law_may","_law_left","_law_tree","_law_k","_law_other","_law_found"]
abbrev LM:List Str:=["_law_script"]
theorem LN:bU HQ LM (am uo):=⟨rfl,rfl,rfl,by rfl',rfl,by rfl',by rfl'⟩
abbrev LO:List Str:=["tree_holds","_law_draw","_law_holds","_law_spoilt","_law_grown","_law_cell_at","_law_root","_law_sheet","_law_told","_law_with_pairs"]
theorem LP:cx ⟨HQ,am uo,true,d4,gU,LO⟩ SH.vp (aW uo)=true:=by rfl'
abbrev kH:List Str:=["self","node","sure","may","narrow","beyond","bit"]
abbrev qC:List Str:=["self","node","sure","may"]
theorem jp:bU kH qC (am dc):=⟨rfl,rfl,rfl,by rfl',rfl,by rfl',by rfl'⟩
abbrev qD:List Str:=["is_whole"]
theorem jq:cx ⟨kH,am dc,true,d4,gU,qD⟩ SH.bO (aW dc)=true:=by rfl'
end K64
namespace K64
open PySem PySem.Spec PyProof.Rows L2 DD
theorem Ov{P:List Value->Prop}(h:P []):∀us:List Value,us.length=0->P us
 |[],_=>h
theorem LQ{P:List Value->Prop}(h:∀a,P [a]):∀us:List Value,us.length=1->P us
 |a::t,hl=>Ov (P:=λt=>P (a::t)) (h a) t (Nat.succ.inj hl)
 |[],hl=>nomatch hl
theorem MX{P:List Value->Prop}(h:∀a b,P [a,b]):∀us:List Value,us.length=2->P us
 |a::t,hl=>LQ (P:=λt=>P (a::t)) (h a) t (Nat.succ.inj hl)
 |[],hl=>nomatch hl
theorem MY{P:List Value->Prop}(h:∀a b c,P [a,b,c]):∀us:List Value,us.length=3->P us
 |a::t,hl=>MX (P:=λt=>P (a::t)) (h a) t (Nat.succ.inj hl)
 |[],hl=>nomatch hl
theorem Na{P:List Value->Prop}(h:∀a b c d,P [a,b,c,d]):∀us:List Value,us.length=4->P us
 |a::t,hl=>MY (P:=λt=>P (a::t)) (h a) t (Nat.succ.inj hl)
 |[],hl=>nomatch hl
theorem Nb{P:List Value->Prop}(h:∀a b c d e,P [a,b,c,d,e]):∀us:List Value,us.length=5->P us
 |a::t,hl=>Na (P:=λt=>P (a::t)) (h a) t (Nat.succ.inj hl)
 |[],hl=>nomatch hl
theorem Ow{P:List Value->Prop}(h:∀a b c d e f,P [a,b,c,d,e,f]):∀us:List Value,us.length=6->P us
 |a::t,hl=>Nb (P:=λt=>P (a::t)) (h a) t (Nat.succ.inj hl)
 |[],hl=>nomatch hl
local macro_rules
 | `(tactic| ac_rfl) => `(tactic| exact ⟨rfl, rfl, rfl, by rfl', rfl, by rfl', by rfl'⟩)
abbrev nO(st:Stmt):List Str:=((am st).names.filter λp=>p.2==.local || p.2==.cell).map (·.1)
local macro_rules
 | `(tactic| ac_nf) => `(tactic| first | exact λ_ _ _ _ _ _ => LQ λ_ => rfl | exact λ_ _ _ _ _ _ => MX λ_ _ => rfl | exact λ_ _ _ _ _ _ => MY λ_ _ _ => rfl | exact λ_ _ _ _ _ _ => Na λ_ _ _ _ => rfl | exact λ_ _ _ _ _ _ => Nb λ_ _ _ _ _ => rfl | exact λ_ _ _ _ _ _ => Ow λ_ _ _ _ _ _ => rfl)
local macro_rules
 | `(tactic| bv_omega) => `(tactic| (intro ds M Q h; first | (obtain ⟨_, e, _⟩ := h; subst e; rfl) | (obtain ⟨_, _, e, _⟩ := h; subst e; rfl) | (obtain ⟨_, _, _, e, _⟩ := h; subst e; rfl) | (obtain ⟨_, _, _, _, e, _⟩ := h; subst e; rfl) | (obtain ⟨_, _, _, _, _, e, _⟩ := h; subst e; rfl) | (obtain ⟨_, _, _, _, _, _, e, _⟩ := h; subst e; rfl) | (obtain ⟨_, _, _, _, _, _, _, e, _⟩ := h; subst e; rfl) | (obtain ⟨_, _, _, _, _, _, _, _, e, _⟩ := h; subst e; rfl) | (obtain ⟨_, _, _, _, _, _, _, _, _, e, _⟩ := h; subst e; rfl) | (obtain ⟨_, _, _, _, _, _, _, _, _, _, e, _⟩ := h; subst e; rfl) | (obtain ⟨_, _, _, _, _, _, _, _, _, _, _, e, _⟩ := h; subst e; rfl) | (obtain ⟨_, _, _, _, _, _, _, _, _, _, _, _, e, _⟩ := h; subst e; rfl) | (obtain ⟨_, _, _, _, _, _, _, _, _, _, _, _, _, e, _⟩ := h; subst e; rfl) | (obtain ⟨_, _, _, _, _, _, _, _, _, _, _, _, _, _, e, _⟩ := h; subst e; rfl)))
def rD(c:SH.CA):kZ:=λa m=>(SH.kindAt c a).bind λk=>if m = "carried" then some (SH.cg c k) else if m = "leaning" then some (SH.ci c k) else none
def gC(c:SH.CA)(S:Addr):kZ:=λa m=>if a=S then(if m = "how_many" then some (SH.iy c S) else if m = "rows_for" then some (SH.ky c S) else if m = "rows_helped" then some (SH.fG c S) else if m = "head_of" then some (SH.jK c S) else if m = "conds_of" then some (SH.kz c S) else none) else none
def E2(S:Addr):pU:=λC f=>C=S/\f∈SH.kx
def Dl(Z:Addr):pU:=λC f=>C=Z/\f∈SH.vh
def vX(Z:Addr):kZ:=λa m=>if a=Z then(if m = "true_facts" then some (SH.gG Z) else if m = "open_facts" then some (SH.gH Z) else none) else none
theorem vw{Z:Addr}:vX Z Z "true_facts" = some (SH.gG Z):=by unfold vX;rw[if_pos rfl];kernel_rfl
theorem vx{Z:Addr}:vX Z Z "open_facts" = some (SH.gH Z):=by unfold vX;rw[if_pos rfl];kernel_rfl
def LR(V:Addr):pU:=λC f=>C=V/\f∈SH.oB
def Dm(V:Addr)(x:Str)(sp:az):kZ:=λa m=>if a=V/\m=x then some sp else none
def vY(V:Addr)(x:Str)(sp:az)(T:kZ):kZ:=λa m=>if a=V/\m=x then some sp else T a m
theorem BD{V:Addr}{x:Str}{sp:az}{T:kZ}:vY V x sp T V x=some sp:=by unfold vY;rw[if_pos ⟨rfl,rfl⟩]
theorem vZ{V:Addr}{x y:Str}{sp:az}{T:kZ}(h:y≠x):vY V x sp T V y=T V y:=by unfold vY;rw[if_neg (λz=>h z.2)]
theorem sx{V:Addr}{x:Str}{sp:az}:Dm V x sp V x=some sp:=by unfold Dm;rw[if_pos ⟨rfl,rfl⟩]
section
variable {P:Zw}{w:World}{K:Za}{mg:Ze}{base:Heap}{c:SH.CA}{S Z V:Addr}{k:Nat}
theorem zZ(h:c.apart)(t:SH.CT):rD c (c.at t.kind) "carried" = some (SH.cg c t.kind):=by
 unfold rD;rw[h _ t.kind_lt];rfl
theorem z6(h:c.apart)(t:SH.CT):rD c (c.at t.kind) "leaning" = some (SH.ci c t.kind):=by
 unfold rD;rw[h _ t.kind_lt];rfl
theorem qB:gC c S S "how_many" = some (SH.iy c S):=by unfold gC;rw[if_pos rfl];kernel_rfl
theorem xv:gC c S S "rows_for" = some (SH.ky c S):=by unfold gC;rw[if_pos rfl];kernel_rfl
theorem tZ:gC c S S "rows_helped" = some (SH.fG c S):=by unfold gC;rw[if_pos rfl];kernel_rfl
theorem rE:gC c S S "head_of" = some (SH.jK c S):=by unfold gC;rw[if_pos rfl];kernel_rfl
theorem xw:gC c S S "conds_of" = some (SH.kz c S):=by unfold gC;rw[if_pos rfl];kernel_rfl
theorem rF{x:Str}{st:Stmt}{ps:Zf}{f:Addr}{fd:Zv}(a:oZ K mg x st ps f fd):bB P w K mg base k x (λ_ _ _=>False):=
 ⟨st,ps,f,fd,a,⟨λ_ _ _ _ ⟨_,_,_,_,_,z,_⟩=>z.elim,λ_ _ _ _ _ _ _ _ _ _ _ _ _ ⟨_,_,_,_,_,z,_⟩=>z.elim⟩⟩
theorem bY{h:Heap}{x:Str}{st:Stmt}{N:Zf}{sp:az}{a:Ss}{glob blt fns:Zf}{cn:Cn}(A:bm K x st){ps:Zf}(X:K.In h)(G:h.Ns mainGlobals mg)
  (hb:∀(kV w_ pm:Value) (an:Zm) (u_ ct:Value) (us:Zd),us.length=ps.length->bindArgs (PySem.W.fnOf x x (bN st) (aW st) (am st) .none kV w_ pm an u_ ct) ⟨us,[]⟩=pure (ps.zip us))
  (S:bU N ps (am st)) (nm:Names P w K mg base k glob blt fns cn) (hc:cx ⟨N,am st,true,glob,blt,fns⟩ a (aW st)=true) (len:∀ds M Q,sp ds M Q->ds.length=ps.length)
  (h':∀ds M Q,sp ds M Q->wSs cn a { nx:=λ_ M'=>Q .non M',rt:=Q } (ai N ds) M):bB P w K mg base (k+1) x sp:=by
 obtain⟨_,_,A⟩:=A;exact me (A.def_ X G hb) S nm hc len h'
theorem cA{C:Addr}{m i':Str}{st:Stmt}{ps N:Zf}{sp:az}{a:Ss}{glob blt fns:Zf}{cn:Cn}(cl:fY K C)(A:bC K C m i' st)(S:bU N ps (am st))(nm:Names P w K mg base k glob blt fns cn)
  (hb:∀(kV w_ pm:Value) (an:Zm) (u_ ct:Value) (us:Zd),us.length=ps.length->bindArgs (PySem.W.fnOf m i' (bN st) (aW st) (am st) .none kV w_ pm an u_ ct) ⟨us,[]⟩=pure (ps.zip us))
  (hc:cx ⟨N,am st,true,glob,blt,fns⟩ a (aW st)=true) (len:∀ds M Q,sp ds M Q->ds.length=ps.length)
  (h:∀ds M Q,sp ds M Q->wSs cn a { nx:=λ_ M'=>Q .non M',rt:=Q } (ai N ds) M):bc P w K mg base (k+1) C m sp:=by
 obtain⟨_,_,A⟩:=A;exact GO cl A S nm hb hc len h
theorem z7{x:Str}{C:Addr}{i':Str}{st:Stmt}{ps N:Zf}{sp:az}{a:Ss}{glob blt fns:Zf}{cn:Cn}(hx:mg x=some (.ref C))(hm:PySem.W.makesIn K C=true)(hk:PySem.W.keepIn K (.ref C)=true)(A:bC K C "__init__" i' st)
  (S:bU N ps (am st)) (nm:Names P w K mg base k glob blt fns cn)
  (hb:∀(kV w_ pm:Value) (an:Zm) (u_ ct:Value) (us:Zd),us.length=ps.length->bindArgs (PySem.W.fnOf "__init__" i' (bN st) (aW st) (am st) .none kV w_ pm an u_ ct) ⟨us,[]⟩=pure (ps.zip us))
  (hc:cx ⟨N,am st,true,glob,blt,fns⟩ a (aW st)=true) (len:∀ds M Q,sp ds M Q->ds.length=ps.length)
  (h:∀ds M Q,sp ds M Q->wSs cn a { nx:=λ_ M'=>Q .non M',rt:=Q } (ai N ds) M):dy P w K mg base (k+2) x (bD C sp):=by
 obtain⟨_,_,A⟩:=A;exact LA hx hm hk A S nm hb hc len h
structure cG (K:Za) (mg:Ze) (c:SH.CA) (S Z V:Addr):Prop where
 gl:∀(j:Nat) x,d4[j]?=some x->qK K mg x (lz.getD j .non)
 bl:∀x,gU.contains x=true->mg x=none
 cl:∀i,i<4->clsIn K (c.at i) SH.hJ=true
 sh:clsIn K S SH.kx=true
 so:clsIn K Z SH.vh=true
 gv:clsIn K V SH.oB=true
theorem cG.fl(E:cG K mg c S Z V):∀C f,SH.fA c C f->fY K C/\cJ K C f:=by
 rintro C f ⟨i,a,rfl,hf⟩;exact⟨aX (E.cl i a),o5 (E.cl i a) hf⟩
theorem cG.fs(E:cG K mg c S Z V):∀C f,E2 S C f->fY K C/\cJ K C f:=by
 rintro C f ⟨rfl,hf⟩;exact⟨aX E.sh,o5 E.sh hf⟩
abbrev z8(P:Zw)(w:World)(K:Za)(mg:Ze)(base:Heap)(k:Nat)(fns:Zf)(F:List az):Prop:=∀(j:Nat) (x:Str),fns[j]?=some x->∃k',k'<=k/\dy P w K mg base k' x (F.getD j λ_ _ _=>False)
theorem bv{fns:Zf}{F:List az}(E:cG K mg c S Z V)(hf:z8 P w K mg base k fns F):
 Names P w K mg base k d4 gU fns ⟨F,lz,SH.fA c,λ_ _=>none,λ_ _=>none⟩:=⟨E.gl,E.bl,hf,E.fl,(λ_ _ _ z=>nomatch z),(λ_ _ _ z=>nomatch z)⟩
theorem BE{fns:Zf}{F:List az}(E:cG K mg c S Z V)(hf:z8 P w K mg base k fns F):
 Names P w K mg base k d4 gU fns ⟨F,lz,E2 S,λ_ _=>none,λ_ _=>none⟩:=⟨E.gl,E.bl,hf,E.fs,(λ_ _ _ z=>nomatch z),(λ_ _ _ z=>nomatch z)⟩
theorem Nc{fns:Zf}{F:List az}(E:cG K mg c S Z V)(mt:∀C m sp,rD c C m=some sp->∃k',k'<=k/\bc P w K mg base k' C m sp)(hf:z8 P w K mg base k fns F):
 Names P w K mg base k d4 gU fns ⟨F,lz,SH.fA c,rD c,λ_ _=>none⟩:=⟨E.gl,E.bl,hf,E.fl,mt,(λ_ _ _ z=>nomatch z)⟩
theorem LS{fns:Zf}{F:List az}(E:cG K mg c S Z V)(mt:∀C m sp,gC c S C m=some sp->∃k',k'<=k/\bc P w K mg base k' C m sp)(hf:z8 P w K mg base k fns F):
 Names P w K mg base k d4 gU fns ⟨F,lz,SH.fA c,gC c S,λ_ _=>none⟩:=⟨E.gl,E.bl,hf,E.fl,mt,(λ_ _ _ z=>nomatch z)⟩
theorem fM{T:kZ}{j:Nat}(h:j<=k)(mt:∀C m sp,T C m=some sp->∃k',k'<=j/\bc P w K mg base k' C m sp):∀C m sp,T C m=some sp->∃k',k'<=k/\bc P w K mg base k' C m sp:=λC m sp e=>let⟨k',h1,h2⟩:=mt C m sp e;⟨k',ZW h1 h,h2⟩
theorem cG.fz(E:cG K mg c S Z V):∀C f,Dl Z C f->fY K C/\cJ K C f:=by
 rintro C f ⟨rfl,hf⟩;exact⟨aX E.so,o5 E.so hf⟩
theorem LT{fns:Zf}{F:List az}(E:cG K mg c S Z V)(hf:z8 P w K mg base k fns F):
 Names P w K mg base k d4 gU fns ⟨F,lz,Dl Z,λ_ _=>none,λ_ _=>none⟩:=⟨E.gl,E.bl,hf,E.fz,(λ_ _ _ z=>nomatch z),(λ_ _ _ z=>nomatch z)⟩
theorem NW{fns:Zf}{F:List az}(E:cG K mg c S Z V)(mt:∀C m sp,gC c S C m=some sp->∃k',k'<=k/\bc P w K mg base k' C m sp)(hf:z8 P w K mg base k fns F):
 Names P w K mg base k d4 gU fns ⟨F,lz,Dl Z,gC c S,λ_ _=>none⟩:=⟨E.gl,E.bl,hf,E.fz,mt,(λ_ _ _ z=>nomatch z)⟩
theorem cG.fv(E:cG K mg c S Z V):∀C f,LR V C f->fY K C/\cJ K C f:=by
 rintro C f ⟨rfl,hf⟩;exact⟨aX E.gv,o5 E.gv hf⟩
theorem xa{O:pU}{T:kZ}{fns:Zf}{F:List az}(E:cG K mg c S Z V)(a:∀C f,O C f->fY K C/\cJ K C f)(mt:∀C m sp,T C m=some sp->∃k',k'<=k/\bc P w K mg base k' C m sp)(hf:z8 P w K mg base k fns F):
 Names P w K mg base k d4 gU fns ⟨F,lz,O,T,λ_ _=>none⟩:=⟨E.gl,E.bl,hf,a,mt,(λ_ _ _ z=>nomatch z)⟩
theorem HR{x:Str}{sp:az}{j:Nat}(b:j<=k)(h:bc P w K mg base j V x sp):∀C m a,Dm V x sp C m=some a->∃k',k'<=k/\bc P w K mg base k' C m a:=by
 intro C m a e;unfold Dm at e;split at e
 ·rename_i q
  obtain⟨rfl,rfl⟩:=q;cases e;exact⟨j,b,h⟩
 ·cases e
theorem Nd{x:Str}{sp:az}{T:kZ}{j:Nat}(b:j<=k)(h:bc P w K mg base j V x sp)(mt:∀C m a,T C m=some a->∃k',k'<=k/\bc P w K mg base k' C m a):∀C m a,vY V x sp T C m=some a->∃k',k'<=k/\bc P w K mg base k' C m a:=by
 intro C m a e;unfold vY at e;split at e
 ·rename_i q
  obtain⟨rfl,rfl⟩:=q;cases e;exact⟨j,b,h⟩
 ·exact mt C m a e
theorem pQ(i:Nat){n:Nat}(h:∀t:SH.CT,t.kind=i->t.flds.length+1=n){ps:Zf}(hp:ps.length=n):∀ds M Q,SH.cB c i ds M Q->ds.length=ps.length:=by
 rintro ds M Q ⟨a,t,hk,rfl,_⟩;rw[YH,ZF,h t hk,hp]
theorem LU(E:cG K mg c S Z V)
  (ap:c.apart)
  {hp:Heap}
  (X:K.In hp)
  (G:hp.Ns mainGlobals mg)
  {P4:Addr}{O_:Zv}(OT:aO K "law" uo P4 O_)
  (TM:mg "Have" = some (.ref (c.at 0))) (TN:PySem.W.makesIn K (c.at 0)=true) (TQ:PySem.W.keepIn K (.ref (c.at 0))=true)
  (TR:mg "Lack" = some (.ref (c.at 1))) (TU:PySem.W.makesIn K (c.at 1)=true) (TV:PySem.W.keepIn K (.ref (c.at 1))=true)
  (TX:mg "Some" = some (.ref (c.at 2))) (TY:PySem.W.makesIn K (c.at 2)=true) (TZ:PySem.W.keepIn K (.ref (c.at 2))=true)
  (T3:mg "Lead" = some (.ref (c.at 3))) (T4:PySem.W.makesIn K (c.at 3)=true) (T5:PySem.W.keepIn K (.ref (c.at 3))=true)
  (T6:mg "Sheet" = some (.ref S)) (T7:PySem.W.makesIn K S=true) (T8:PySem.W.keepIn K (.ref S)=true)
  (T9:mg "Sorting" = some (.ref Z)) (T_:PySem.W.makesIn K Z=true) (Ua:PySem.W.keepIn K (.ref Z)=true)
  (Ub:mg "Grove" = some (.ref V)) (Uc:PySem.W.makesIn K V=true) (Ud:PySem.W.keepIn K (.ref V)=true)
  (hy:KQ K (c.at 0) (c.at 1) (c.at 2) (c.at 3) S Z V):
  ge P w K mg base mJ 27 P4 O_ ["_law_script"] (iE K SH.xK):=by
 obtain⟨_,_,a_24⟩:=hy.a_24;obtain⟨_,_,a_25⟩:=hy.a_25;obtain⟨_,_,a_26⟩:=hy.a_26;have b:bB P w K mg base 1 "has_fact" (SH.dz):=bY hy.a_0 (N:=nO o7) (ps:=(nO o7).take 2) X G (by ac_nf) (by ac_rfl) (bv (F:=[]) (k:=0) E (ah (F:=[]))) (by rfl') (by bv_omega) (λds M Q h=>SH.Ae h);have p:bB P w K mg base 2 "count_in" (SH.lL):=bY hy.a_1 (N:=nO o8) (ps:=(nO o8).take 2) X G (by ac_nf) (by ac_rfl) (bv (F:=[SH.dz]) (k:=1) E (ag (by decide) (.inl b) (ah (F:=[])))) (by rfl') (by bv_omega) (λds M Q h=>SH.Af rfl h);have WN:dy P w K mg base 2 "Have" (bD (c.at 0) (SH.cB c 0)):=z7 (N:=nO nJ) (ps:=(nO nJ).take 2) TM TN TQ hy.a_61 (by ac_rfl) (bv (F:=[]) (k:=0) E (ah (F:=[]))) (by ac_nf) (by rfl') (pQ 0 (n:=2) (λt ht=>by cases t<;>first | rfl | cases ht) rfl) (λds M Q h=>SH.yS rfl h);have WQ:bc P w K mg base 2 (c.at 0) "carried" (SH.cg c 0):=cA (N:=nO jw) (ps:=(nO jw).take 3) (aX (E.cl 0 (by decide))) hy.a_62 (by ac_rfl) (bv (F:=[SH.dz]) (k:=1) E (ag (by decide) (.inl b) (ah (F:=[])))) (by ac_nf) (by rfl') (by bv_omega) (λds M Q h=>SH.uV rfl rfl h);have WR:bc P w K mg base 1 (c.at 0) "leaning" (SH.ci c 0):=cA (N:=nO jx) (ps:=(nO jx).take 1) (aX (E.cl 0 (by decide))) hy.a_63 (by ac_rfl) (bv (F:=[]) (k:=0) E (ah (F:=[]))) (by ac_nf) (by rfl') (by bv_omega) (λds M Q h=>SH.uZ rfl h);have WU:dy P w K mg base 2 "Lack" (bD (c.at 1) (SH.cB c 1)):=z7 (N:=nO nK) (ps:=(nO nK).take 2) TR TU TV hy.a_64 (by ac_rfl) (bv (F:=[]) (k:=0) E (ah (F:=[]))) (by ac_nf) (by rfl') (pQ 1 (n:=2) (λt ht=>by cases t<;>first | rfl | cases ht) rfl) (λds M Q h=>SH.yT rfl h);have WV:bc P w K mg base 2 (c.at 1) "carried" (SH.cg c 1):=cA (N:=nO jy) (ps:=(nO jy).take 3) (aX (E.cl 1 (by decide))) hy.a_65 (by ac_rfl) (bv (F:=[SH.dz]) (k:=1) E (ag (by decide) (.inl b) (ah (F:=[])))) (by ac_nf) (by rfl') (by bv_omega) (λds M Q h=>SH.uW rfl rfl h);have WW:bc P w K mg base 1 (c.at 1) "leaning" (SH.ci c 1):=cA (N:=nO jz) (ps:=(nO jz).take 1) (aX (E.cl 1 (by decide))) hy.a_66 (by ac_rfl) (bv (F:=[]) (k:=0) E (ah (F:=[]))) (by ac_nf) (by rfl') (by bv_omega) (λds M Q h=>SH.u1 rfl h);have WX:dy P w K mg base 2 "Some" (bD (c.at 2) (SH.cB c 2)):=z7 (N:=nO nL) (ps:=(nO nL).take 3) TX TY TZ hy.a_67 (by ac_rfl) (bv (F:=[]) (k:=0) E (ah (F:=[]))) (by ac_nf) (by rfl') (pQ 2 (n:=3) (λt ht=>by cases t<;>first | rfl | cases ht) rfl) (λds M Q h=>SH.yU rfl h);have WY:bc P w K mg base 3 (c.at 2) "carried" (SH.cg c 2):=cA (N:=nO jA) (ps:=(nO jA).take 3) (aX (E.cl 2 (by decide))) hy.a_68 (by ac_rfl) (bv (F:=[SH.lL]) (k:=2) E (ag (by decide) (.inl p) (ah (F:=[])))) (by ac_nf) (by rfl') (by bv_omega) (λds M Q h=>SH.uX rfl rfl h);have WZ:bc P w K mg base 1 (c.at 2) "leaning" (SH.ci c 2):=cA (N:=nO jB) (ps:=(nO jB).take 1) (aX (E.cl 2 (by decide))) hy.a_69 (by ac_rfl) (bv (F:=[]) (k:=0) E (ah (F:=[]))) (by ac_nf) (by rfl') (by bv_omega) (λds M Q h=>SH.u2 rfl h);have W3:dy P w K mg base 2 "Lead" (bD (c.at 3) (SH.cB c 3)):=z7 (N:=nO nM) (ps:=(nO nM).take 3) T3 T4 T5 hy.a_70 (by ac_rfl) (bv (F:=[]) (k:=0) E (ah (F:=[]))) (by ac_nf) (by rfl') (pQ 3 (n:=3) (λt ht=>by cases t<;>first | rfl | cases ht) rfl) (λds M Q h=>SH.yV rfl h);have W4:bc P w K mg base 3 (c.at 3) "carried" (SH.cg c 3):=cA (N:=nO jC) (ps:=(nO jC).take 3) (aX (E.cl 3 (by decide))) hy.a_71 (by ac_rfl) (bv (F:=[SH.dz,SH.lL]) (k:=2) E (ag (by decide) (.inl b) (ag (by decide) (.inl p) (ah (F:=[]))))) (by ac_nf) (by rfl') (by bv_omega) (λds M Q h=>SH.uY rfl rfl rfl h);have W5:bc P w K mg base 1 (c.at 3) "leaning" (SH.ci c 3):=cA (N:=nO jD) (ps:=(nO jD).take 1) (aX (E.cl 3 (by decide))) hy.a_72 (by ac_rfl) (bv (F:=[]) (k:=0) E (ah (F:=[]))) (by ac_nf) (by rfl') (by bv_omega) (λds M Q h=>SH.u3 rfl h);have W6:bc P w K mg base 1 S "how_many" (SH.iy c S):=cA (N:=nO gX) (ps:=(nO gX).take 1) (aX E.sh) hy.a_74 (by ac_rfl) (BE (F:=[]) (k:=0) E (ah (F:=[]))) (by ac_nf) (by rfl') (by bv_omega) (λds M Q h=>SH.An (λf hf=>⟨rfl,hf⟩) h);have W7:bc P w K mg base 1 S "rows_for" (SH.ky c S):=cA (N:=nO gY) (ps:=(nO gY).take 2) (aX E.sh) hy.a_75 (by ac_rfl) (BE (F:=[]) (k:=0) E (ah (F:=[]))) (by ac_nf) (by rfl') (by bv_omega) (λds M Q h=>SH.Ao (λf hf=>⟨rfl,hf⟩) h);have W8:bc P w K mg base 1 S "rows_helped" (SH.fG c S):=cA (N:=nO eR) (ps:=(nO eR).take 2) (aX E.sh) hy.a_76 (by ac_rfl) (BE (F:=[]) (k:=0) E (ah (F:=[]))) (by ac_nf) (by rfl') (by bv_omega) (λds M Q h=>SH.vO (λf hf=>⟨rfl,hf⟩) h);have W9:bc P w K mg base 1 S "head_of" (SH.jK c S):=cA (N:=nO iI) (ps:=(nO iI).take 2) (aX E.sh) hy.a_77 (by ac_rfl) (BE (F:=[]) (k:=0) E (ah (F:=[]))) (by ac_nf) (by rfl') (by bv_omega) (λds M Q h=>SH.C9 (λf hf=>⟨rfl,hf⟩) h);have W_:bc P w K mg base 1 S "conds_of" (SH.kz c S):=cA (N:=nO gZ) (ps:=(nO gZ).take 2) (aX E.sh) hy.a_78 (by ac_rfl) (BE (F:=[]) (k:=0) E (ah (F:=[]))) (by ac_nf) (by rfl') (by bv_omega) (λds M Q h=>SH.Ap (λf hf=>⟨rfl,hf⟩) h);have W':bc P w K mg base 1 Z "true_facts" (SH.gG Z):=cA (N:=nO d5) (ps:=(nO d5).take 1) (aX E.so) hy.a_95 (by ac_rfl) (LT (F:=[]) (k:=0) E (ah (F:=[]))) (by ac_nf) (by rfl') (by bv_omega) (λds M Q h=>SH.xj (λf hf=>⟨rfl,hf⟩) h);have Xa:bc P w K mg base 1 Z "open_facts" (SH.gH Z):=cA (N:=nO d8) (ps:=(nO d8).take 1) (aX E.so) hy.a_97 (by ac_rfl) (LT (F:=[]) (k:=0) E (ah (F:=[]))) (by ac_nf) (by rfl') (by bv_omega) (λds M Q h=>SH.xk (λf hf=>⟨rfl,hf⟩) h);have MC:∀C m sp,rD c C m=some sp->∃k',k'<=3/\bc P w K mg base k' C m sp:=by
  intro C m sp e;unfold rD at e;have at_:∀i,SH.kindAt c C=some i->C=c.at i/\i<4:=by
   intro i a;unfold SH.kindAt at a;split at a
   ·cases a;exact⟨by assumption,by decide⟩
   ·split at a
    ·cases a;exact⟨by assumption,by decide⟩
    ·split at a
     ·cases a;exact⟨by assumption,by decide⟩
     ·split at a
      ·cases a;exact⟨by assumption,by decide⟩
      ·cases a
  cases q:SH.kindAt c C with
  |none=>rw[q] at e;cases e
  |some i=>
   rw[q] at e;obtain⟨rfl,a⟩:=at_ i q;have e:(if m = "carried" then some (SH.cg c i) else if m = "leaning" then some (SH.ci c i) else none)=some sp:=e;have i4:i=0\/i=1\/i=2\/i=3:=by omega
   split at e
   ·rename_i hm
    subst hm;cases e;rcases i4 with rfl | rfl | rfl | rfl
    ·exact⟨_,by decide,WQ⟩
    ·exact⟨_,by decide,WV⟩
    ·exact⟨_,by decide,WY⟩
    ·exact⟨_,by decide,W4⟩
   ·split at e
    ·rename_i hm
     subst hm;cases e;rcases i4 with rfl | rfl | rfl | rfl
     ·exact⟨_,by decide,WR⟩
     ·exact⟨_,by decide,WW⟩
     ·exact⟨_,by decide,WZ⟩
     ·exact⟨_,by decide,W5⟩
    ·cases e
 have r:∀C m sp,gC c S C m=some sp->∃k',k'<=1/\bc P w K mg base k' C m sp:=by
  intro C m sp e;unfold gC at e;split at e
  ·rename_i O
   subst O;split at e
   ·rename_i hm;subst hm;cases e;exact⟨_,by decide,W6⟩
   ·split at e
    ·rename_i hm;subst hm;cases e;exact⟨_,by decide,W7⟩
    ·split at e
     ·rename_i hm;subst hm;cases e;exact⟨_,by decide,W8⟩
     ·split at e
      ·rename_i hm;subst hm;cases e;exact⟨_,by decide,W9⟩
      ·split at e
       ·rename_i hm;subst hm;cases e;exact⟨_,by decide,W_⟩
       ·cases e
  ·cases e
 have MZ:∀C m sp,vX Z C m=some sp->∃k',k'<=1/\bc P w K mg base k' C m sp:=by
  intro C m sp e;unfold vX at e;split at e
  ·rename_i O
   subst O;split at e
   ·rename_i hm;subst hm;cases e;exact⟨_,by decide,W'⟩
   ·split at e
    ·rename_i hm;subst hm;cases e;exact⟨_,by decide,Xa⟩
    ·cases e
  ·cases e
 have R:bB P w K mg base 2 "members" (SH.dZ):=bY hy.a_2 (N:=nO qP) (ps:=(nO qP).take 1) X G (by ac_nf) (by ac_rfl) (bv (F:=[SH.dz]) (k:=1) E (ag (by decide) (.inl b) (ah (F:=[])))) (by rfl') (by bv_omega) (λds M Q h=>SH.C3 rfl h);have u:bB P w K mg base 1 "set_of" (SH.jI):=bY hy.a_3 (N:=nO tq) (ps:=(nO tq).take 1) X G (by ac_nf) (by ac_rfl) (bv (F:=[]) (k:=0) E (ah (F:=[]))) (by rfl') (by bv_omega) (λds M Q h=>SH.EE h);have U:bB P w K mg base 4 "all_carried" (SH.iS c):=bY hy.a_4 (N:=nO kJ) (ps:=(nO kJ).take 3) X G (by ac_nf) (by ac_rfl) (Nc (F:=[]) (k:=3) E (fM (by decide) MC) (ah (F:=[]))) (by rfl') (by bv_omega) (λds M Q h=>SH.vN (zZ ap) h);have Y:bB P w K mg base 5 "carried_heads" (SH.dL c S):=bY hy.a_5 (N:=nO iG) (ps:=(nO iG).take 4) X G (by ac_nf) (by ac_rfl) (LS (F:=[SH.iS c]) (k:=4) E (fM (by decide) r) (ag (by decide) (.inl U) (ah (F:=[])))) (by rfl') (by bv_omega) (λds M Q h=>SH.tO rfl rE xw h);have ab:bB P w K mg base 2 "helped_rows" (SH.fH c S):=bY hy.a_6 (N:=nO kL) (ps:=(nO kL).take 3) X G (by ac_nf) (by ac_rfl) (LS (F:=[SH.dz]) (k:=1) E (fM (by decide) r) (ag (by decide) (.inl b) (ah (F:=[])))) (by rfl') (by bv_omega) (λds M Q h=>SH.vQ rfl tZ rE h);have aB:bB P w K mg base 3 "all_rows" (SH.mY c S):=bY hy.a_7 (N:=nO o9) (ps:=(nO o9).take 2) X G (by ac_nf) (by ac_rfl) (LS (F:=[SH.dZ]) (k:=2) E (fM (by decide) r) (ag (by decide) (.inl R) (ah (F:=[])))) (by rfl') (by bv_omega) (λds M Q h=>SH.Au rfl xv h);have a1:bB P w K mg base 6 "ranked_among" (SH.pJ c S):=bY hy.a_8 (N:=nO jt) (ps:=(nO jt).take 4) X G (by ac_nf) (by ac_rfl) (bv (F:=[SH.dL c S,SH.fH c S,SH.jI,SH.mY c S,SH.dZ]) (k:=5) E (ag (by decide) (.inl Y) (ag (by decide) (.inl ab) (ag (by decide) (.inl u) (ag (by decide) (.inl aB) (ag (by decide) (.inl R) (ah (F:=[])))))))) (by rfl') (by bv_omega) (λds M Q h=>SH.EU rfl rfl rfl rfl rfl h);have y:bB P w K mg base 7 "least_among" (SH.dN c S):=bY hy.a_9 (N:=nO kK) (ps:=(nO kK).take 4) X G (by ac_nf) (by ac_rfl) (bv (F:=[SH.jI,SH.pJ c S]) (k:=6) E (ag (by decide) (.inl u) (ag (by decide) (.inl a1) (ah (F:=[]))))) (by rfl') (by bv_omega) (λds M Q h=>SH.vR rfl rfl h);have Xc:bB P w K mg base 8 "next_pair" (SH.lG c S):=bY hy.a_10 (N:=nO nE) (ps:=(nO nE).take 5) X G (by ac_nf) (by ac_rfl) (bv (F:=[SH.dN c S]) (k:=7) E (ag (by decide) (.inl y) (ah (F:=[])))) (by rfl') (by bv_omega) (λds M Q h=>SH.zz rfl h);have Xd:bB P w K mg base 9 "to_and_fro" (SH.lH c S):=bY hy.a_11 (N:=nO lV) (ps:=(nO lV).take 5) X G (by ac_nf) (by ac_rfl) (bv (F:=[SH.lG c S]) (k:=8) E (ag (by decide) (.inl Xc) (ah (F:=[])))) (by rfl') (by bv_omega) (λds M Q h=>SH.xi rfl h);have Xe:bB P w K mg base 1 "all_facts" (SH.lD):=bY hy.a_12 (N:=nO nC) (ps:=(nO nC).take 1) X G (by ac_nf) (by ac_rfl) (bv (F:=[]) (k:=0) E (ah (F:=[]))) (by rfl') (by bv_omega) (λds M Q h=>SH.yZ h);have Xf:dy P w K mg base 11 "Sorting" (bD Z (SH.gR c S Z)):=z7 (N:=nO jE) (ps:=(nO jE).take 3) T9 T_ Ua hy.a_89 (by ac_rfl) (NW (F:=[SH.lH c S,SH.lD]) (k:=9) E (fM (by decide) r) (ag (by decide) (.inl Xd) (ag (by decide) (.inl Xe) (ah (F:=[]))))) (by ac_nf) (by rfl') (by bv_omega) (λds M Q h=>SH.vj (λf hf=>⟨rfl,hf⟩) qB rfl rfl h);have Ue:bc P w K mg base 8 V "least_against" (SH.jQ c S V):=cA (N:=nO dD) (ps:=(nO dD).take 2) (aX E.gv) hy.a_114 (by ac_rfl) (xa (T:=λ_ _=>none) (F:=[SH.dN c S]) (k:=7) E E.fv (λ_ _ _ z=>nomatch z) (ag (by decide) (.inl y) (ah (F:=[])))) (by ac_nf) (by rfl') (by bv_omega) (λds M Q h=>SH.tT (λf hf=>⟨rfl,hf⟩) rfl h);have Ug:bc P w K mg base 9 V "narrowed" (SH.pM c S V):=cA (N:=nO gW) (ps:=(nO gW).take 3) (aX E.gv) hy.a_115 (by ac_rfl) (xa (F:=[]) (k:=8) E E.fl (HR (by decide) Ue) (ah (F:=[]))) (by ac_nf) (by rfl') (by bv_omega) (λds M Q h=>SH.AF sx h);have Xg:dy P w K mg base 13 "Grove" (bD V (SH.kc c S V)):=z7 (N:=nO l0) (ps:=(nO l0).take 3) Ub Uc Ud hy.a_105 (by ac_rfl) (xa (F:=[SH.dZ,bD Z (SH.gR c S Z)]) (k:=11) E E.fv (fM (by decide) MZ) (ag (by decide) (.inl R) (ag (by decide) Xf (ah (F:=[]))))) (by ac_nf) (by rfl') (by bv_omega) (λds M Q h=>SH.xl (j:=3) rfl (λf hf=>⟨rfl,hf⟩) vw vx rfl rfl h);have Uh:bB P w K mg base 1 "is_whole" (SH.lN):=bY hy.a_13 (N:=nO iF) (ps:=(nO iF).take 1) X G (by ac_nf) (by ac_rfl) (bv (F:=[]) (k:=0) E (ah (F:=[]))) (by rfl') (by bv_omega) (λds M Q h=>SH.Ag h);have A:bB P w K mg base 2 "is_below" (SH.da):=bY hy.a_14 (N:=nO o6) (ps:=(nO o6).take 2) X G (by ac_nf) (by ac_rfl) (bv (F:=[SH.lN]) (k:=1) E (ag (by decide) (.inl Uh) (ah (F:=[])))) (by rfl') (by bv_omega) (λds M Q h=>SH.Ah rfl h);have G_:bB P w K mg base 1 "is_whole" SH.mD:=bY hy.a_13 (N:=nO iF) (ps:=(nO iF).take 1) X G (by ac_nf) (by ac_rfl) (bv (F:=[]) (k:=0) E (ah (F:=[]))) (by rfl') (by bv_omega) (λds M Q h=>SH.Dj h);have Ui:bc P w K mg base 3 V "is_one_of" (SH.vV c S V):=cA (N:=nO gg) (ps:=(nO gg).take 3) (aX E.gv) hy.a_118 (by ac_rfl) (xa (F:=[SH.da,SH.dz]) (k:=2) E E.fv (fM (by decide) r) (ag (by decide) (.inl A) (ag (by decide) (.inl b) (ah (F:=[]))))) (by ac_nf) (by rfl') (by bv_omega) (λds M Q h=>SH.zH (λf hf=>⟨rfl,hf⟩) qB rfl rfl h);have Uj:∀d,bc P w K mg base (11+d) V "node_holds" (SH.kd c S V d):=by
  intro d;induction d with
  |zero=>exact cA (aX E.gv) hy.a_119 jp (xa (T:=λ_ _=>none) (F:=[SH.mD]) (k:=10) E E.fl (λ_ _ _ z=>nomatch z) (ag (by decide) (.inl G_) (ah (F:=[])))) (by ac_nf) jq (by bv_omega) (λds M Q h=>by obtain⟨_,_,_,_,_,_,_,_,_,_,_,z,_⟩:=h;exact absurd z (Nat.not_lt_zero _))
  |succ d g=>exact cA (k:=11+d) (aX E.gv) hy.a_119 jp (xa (F:=[SH.mD]) (k:=11+d) E E.fl (Nd (by omega) Ug (Nd (by omega) Ui (HR (YE _) g))) (ag (by omega) (.inl G_) (ah (F:=[])))) (by ac_nf) jq (by bv_omega) (λds M Q h=>SH.xm BD ((vZ (by rfl')).trans BD) ((vZ (by rfl')).trans ((vZ (by rfl')).trans sx)) rfl h)
 have Uk:bc P w K mg base 25 V "root_holds" (SH.oe c S V 13):=cA (N:=nO fh) (ps:=(nO fh).take 2) (aX E.gv) hy.a_120 (by ac_rfl) (xa (F:=[]) (k:=24) E E.fv (HR (by decide) (Uj 13)) (ah (F:=[]))) (by ac_nf) (by rfl') (by bv_omega) (λds M Q h=>SH.xn (λf hf=>⟨rfl,hf⟩) sx h);have Xh:bB P w K mg base 26 "tree_holds" (SH.ke c S):=bY hy.a_15 (N:=nO lW) (ps:=(nO lW).take 3) X G (by ac_nf) (by ac_rfl) (xa (F:=[bD V (SH.kc c S V)]) (k:=25) E E.fl (HR (by decide) Uk) (ag (by decide) Xg (ah (F:=[])))) (by rfl') (by bv_omega) (λds M Q h=>SH.xo rfl sx rfl h);have o:bB P w K mg base 1 "_law_draw" (SH.cZ):=bY hy.a_16 (N:=nO pb) (ps:=(nO pb).take 2) X G (by ac_nf) (by ac_rfl) (bv (F:=[]) (k:=0) E (ah (F:=[]))) (by rfl') (by bv_omega) (λds M Q h=>SH.JB h);have Ul:bB P w K mg base 1 "_law_is_one" (SH.oP):=bY hy.a_17 (N:=nO lZ) (ps:=(nO lZ).take 2) X G (by ac_nf) (by ac_rfl) (bv (F:=[]) (k:=0) E (ah (F:=[]))) (by rfl') (by bv_omega) (λds M Q h=>SH.xr h);have B:bB P w K mg base 1 "_law_facts" (SH.eQ):=bY hy.a_18 (N:=nO nI) (ps:=(nO nI).take 2) X G (by ac_nf) (by ac_rfl) (bv (F:=[]) (k:=0) E (ah (F:=[]))) (by rfl') (by bv_omega) (λds M Q h=>SH.zK h);have I:bB P w K mg base 2 "_law_over" (SH.kG):=bY hy.a_19 (N:=nO pk) (ps:=(nO pk).take 3) X G (by ac_nf) (by ac_rfl) (bv (F:=[SH.eQ]) (k:=1) E (ag (by decide) (.inl B) (ah (F:=[])))) (by rfl') (by bv_omega) (λds M Q h=>SH.AH rfl h);have Xi:bB P w K mg base 1 "_law_carried" (SH.i3):=bY hy.a_20 (N:=nO kN) (ps:=(nO kN).take 3) X G (by ac_nf) (by ac_rfl) (bv (F:=[]) (k:=0) E (ah (F:=[]))) (by rfl') (by bv_omega) (λds M Q h=>SH.vS h);have Xj:bB P w K mg base 2 "_law_met" (SH.pL):=bY hy.a_21 (N:=nO qR) (ps:=(nO qR).take 3) X G (by ac_nf) (by ac_rfl) (bv (F:=[SH.i3]) (k:=1) E (ag (by decide) (.inl Xi) (ah (F:=[])))) (by rfl') (by bv_omega) (λds M Q h=>SH.Dg rfl h);have Um:bB P w K mg base 3 "_law_least" (SH.fV):=bY hy.a_22 (N:=nO nH) (ps:=(nO nH).take 3) X G (by ac_nf) (by ac_rfl) (bv (F:=[SH.pL]) (k:=2) E (ag (by decide) (.inl Xj) (ah (F:=[])))) (by rfl') (by bv_omega) (λds M Q h=>SH.zI rfl h);have J:bB P w K mg base 4 "_law_narrow" (SH.cQ):=bY hy.a_23 (N:=nO lY) (ps:=(nO lY).take 4) X G (by ac_nf) (by ac_rfl) (bv (F:=[SH.fV]) (k:=3) E (ag (by decide) (.inl Um) (ah (F:=[])))) (by rfl') (by bv_omega) (λds M Q h=>SH.xq rfl h);have Xk:∀d,bB P w K mg base (5+d) "_law_holds" (SH.fX d):=by
  intro d;induction d with
  |zero=>exact me (k:=4) (a_24.def_ (ps:=jg) X G (by ac_nf)) rA (bv (F:=[(λ_ _ _=>False),SH.oP,SH.eQ,SH.kG,SH.cQ]) (k:=4) E (ag (by omega) (.inl (rF (k:=0) (a_24.def_ (ps:=jg) X G (by ac_nf)))) (ag (by omega) (.inl Ul) (ag (by omega) (.inl B) (ag (by omega) (.inl I) (ag (by omega) (.inl J) (ah (F:=[])))))))) rB (by bv_omega) (λds M Q h=>by obtain⟨_,_,_,_,_,_,_,_,_,_,_,_,_,_,_,_,_,_,z,_⟩:=h;exact absurd z (Nat.not_lt_zero _))
  |succ d g=>exact me (k:=5+d) (a_24.def_ (ps:=jg) X G (by ac_nf)) rA (bv (F:=[SH.fX d,SH.oP,SH.eQ,SH.kG,SH.cQ]) (k:=5+d) E (ag (YE _) (.inl g) (ag (by omega) (.inl Ul) (ag (by omega) (.inl B) (ag (by omega) (.inl I) (ag (by omega) (.inl J) (ah (F:=[])))))))) rB (by bv_omega) (λds M Q h=>SH.zN rfl rfl rfl rfl rfl h)
 have Xl:∀d,bB P w K mg base (2+d) "_law_spoilt" (SH.jY d):=by
  intro d;induction d with
  |zero=>exact me (k:=1) (a_25.def_ (ps:=gS) X G (by ac_nf)) qz (bv (F:=[SH.cZ,(λ_ _ _=>False)]) (k:=1) E (ag (by omega) (.inl o) (ag (by omega) (.inl (rF (k:=0) (a_25.def_ (ps:=gS) X G (by ac_nf)))) (ah (F:=[]))))) qA (by bv_omega) (λds M Q h=>by obtain⟨_,_,_,_,_,_,_,_,_,z,_⟩:=h;exact absurd z (Nat.not_lt_zero _))
  |succ d g=>exact me (k:=2+d) (a_25.def_ (ps:=gS) X G (by ac_nf)) qz (bv (F:=[SH.cZ,SH.jY d]) (k:=2+d) E (ag (by omega) (.inl o) (ag (YE _) (.inl g) (ah (F:=[]))))) qA (by bv_omega) (λds M Q h=>SH.xt rfl rfl h)
 have Xm:∀d,bB P w K mg base (5+d) "_law_grown" (SH.lP d):=by
  intro d;induction d with
  |zero=>exact me (k:=4) (a_26.def_ (ps:=jf) X G (by ac_nf)) rq (bv (F:=[(λ_ _ _=>False),SH.cZ,SH.eQ,SH.kG,SH.cQ]) (k:=4) E (ag (by omega) (.inl (rF (k:=0) (a_26.def_ (ps:=jf) X G (by ac_nf)))) (ag (by omega) (.inl o) (ag (by omega) (.inl B) (ag (by omega) (.inl I) (ag (by omega) (.inl J) (ah (F:=[])))))))) rz (by bv_omega) (λds M Q h=>by obtain⟨_,_,_,_,_,_,_,_,_,_,_,_,_,_,_,_,_,_,_,_,_,_,_,_,z,_⟩:=h;exact absurd z (Nat.not_lt_zero _))
  |succ d g=>exact me (k:=5+d) (a_26.def_ (ps:=jf) X G (by ac_nf)) rq (bv (F:=[SH.lP d,SH.cZ,SH.eQ,SH.kG,SH.cQ]) (k:=5+d) E (ag (YE _) (.inl g) (ag (by omega) (.inl o) (ag (by omega) (.inl B) (ag (by omega) (.inl I) (ag (by omega) (.inl J) (ah (F:=[])))))))) rz (by bv_omega) (λds M Q h=>SH.zM rfl rfl rfl rfl rfl h)
 have L:bB P w K mg base 1 "_law_cell_at" (SH.dm):=bY hy.a_27 (N:=nO kM) (ps:=(nO kM).take 2) X G (by ac_nf) (by ac_rfl) (bv (F:=[]) (k:=0) E (ah (F:=[]))) (by rfl') (by bv_omega) (λds M Q h=>SH.De h);have Xn:bB P w K mg base 4 "_law_root" (SH.nr):=bY hy.a_28 (N:=nO pj) (ps:=(nO pj).take 2) X G (by ac_nf) (by ac_rfl) (bv (F:=[SH.fV]) (k:=3) E (ag (by decide) (.inl Um) (ah (F:=[])))) (by rfl') (by bv_omega) (λds M Q h=>SH.AG rfl h);have Xo:bB P w K mg base 1 "rows_by_help" (SH.iX):=bY hy.a_29 (ps:=nz) X G (by ac_nf) vq (bv (F:=[]) (k:=0) E (ah (F:=[]))) vv (by bv_omega) (λds M Q h=>SH.va h);have Xp:bB P w K mg base 4 "row_leanings" (SH.eD c):=bY hy.a_30 (N:=nO ju) (ps:=(nO ju).take 1) X G (by ac_nf) (by ac_rfl) (Nc (F:=[]) (k:=3) E (fM (by decide) MC) (ah (F:=[]))) (by rfl') (by bv_omega) (λds M Q h=>SH.u6 (z6 ap) h);have Xq:bB P w K mg base 1 "rows_by_head" (SH.iU):=bY hy.a_31 (N:=nO jv) (ps:=(nO jv).take 2) X G (by ac_nf) (by ac_rfl) (bv (F:=[]) (k:=0) E (ah (F:=[]))) (by rfl') (by bv_omega) (λds M Q h=>SH.u9 h);have Xr:bB P w K mg base 3 "made_cond" (SH.u5 c):=bY hy.a_32 (N:=nO nD) (ps:=(nO nD).take 1) X G (by ac_nf) (by ac_rfl) (bv (F:=[bD (c.at 3) (SH.cB c 3),bD (c.at 2) (SH.cB c 2),bD (c.at 1) (SH.cB c 1),bD (c.at 0) (SH.cB c 0)]) (k:=2) E (ag (by decide) W3 (ag (by decide) WX (ag (by decide) WU (ag (by decide) WN (ah (F:=[]))))))) (by rfl') (by bv_omega) (λds M Q h=>SH.Jy (c:=c) rfl h);have Xs:bB P w K mg base 3 "is_listing" (SH.mP):=bY hy.a_33 (N:=nO lX) (ps:=(nO lX).take 2) X G (by ac_nf) (by ac_rfl) (bv (F:=[SH.da]) (k:=2) E (ag (by decide) (.inl A) (ah (F:=[])))) (by rfl') (by bv_omega) (λds M Q h=>SH.xg (j:=2) rfl rfl h);have Xu:bB P w K mg base 2 "is_number" (SH.pB):=bY hy.a_34 (N:=nO nF) (ps:=(nO nF).take 1) X G (by ac_nf) (by ac_rfl) (bv (F:=[SH.lN]) (k:=1) E (ag (by decide) (.inl Uh) (ah (F:=[])))) (by rfl') (by bv_omega) (λds M Q h=>SH.za (j:=1) rfl rfl h);have Xv:bB P w K mg base 4 "is_cond" (SH.pC):=bY hy.a_35 (N:=nO qQ) (ps:=(nO qQ).take 2) X G (by ac_nf) (by ac_rfl) (bv (F:=[SH.mP,SH.da,SH.pB]) (k:=3) E (ag (by decide) (.inl Xs) (ag (by decide) (.inl A) (ag (by decide) (.inl Xu) (ah (F:=[])))))) (by rfl') (by bv_omega) (λds M Q h=>SH.C4 rfl rfl rfl h);have Xw:bB P w K mg base 5 "is_row" (SH.sj):=bY hy.a_36 (N:=nO tt) (ps:=(nO tt).take 2) X G (by ac_nf) (by ac_rfl) (bv (F:=[SH.pC,SH.da]) (k:=4) E (ag (by decide) (.inl Xv) (ag (by decide) (.inl A) (ah (F:=[]))))) (by rfl') (by bv_omega) (λds M Q h=>SH.EG (j:=0) rfl rfl rfl h);have Xx:dy P w K mg base 7 "Sheet" (bD S (SH.j9 c S)):=z7 (N:=nO l4) (ps:=(nO l4).take 3) T6 T7 T8 hy.a_73 (by ac_rfl) (BE (F:=[SH.iX,SH.eD c,SH.iU,SH.u5 c,SH.sj,SH.da]) (k:=5) E (ag (by decide) (.inl Xo) (ag (by decide) (.inl Xp) (ag (by decide) (.inl Xq) (ag (by decide) (.inl Xr) (ag (by decide) (.inl Xw) (ag (by decide) (.inl A) (ah (F:=[]))))))))) (by ac_nf) (by rfl') (by bv_omega) (λds M Q h=>SH.xh (j:=4) (l:=5) (λf hf=>⟨rfl,hf⟩) rfl rfl rfl rfl rfl rfl rfl rfl h);have Xy:bB P w K mg base 8 "_law_sheet" (SH.lF c S):=bY hy.a_37 (N:=nO nG) (ps:=(nO nG).take 2) X G (by ac_nf) (by ac_rfl) (bv (F:=[bD S (SH.j9 c S)]) (k:=7) E (ag (by decide) Xx (ah (F:=[])))) (by rfl') (by bv_omega) (λds M Q h=>SH.zw rfl h);have Xz:bB P w K mg base 2 "_law_told" (SH.m6):=bY hy.a_38 (N:=nO pi) (ps:=(nO pi).take 2) X G (by ac_nf) (by ac_rfl) (bv (F:=[SH.dm]) (k:=1) E (ag (by decide) (.inl L) (ah (F:=[])))) (by rfl') (by bv_omega) (λds M Q h=>SH.AA rfl h);have X0:bB P w K mg base 2 "_law_cond" (SH.kF):=bY hy.a_39 (N:=nO pc) (ps:=(nO pc).take 2) X G (by ac_nf) (by ac_rfl) (bv (F:=[SH.cZ]) (k:=1) E (ag (by decide) (.inl o) (ah (F:=[])))) (by rfl') (by bv_omega) (λds M Q h=>SH.Ay rfl h);have X1:bB P w K mg base 3 "_law_rows" (SH.mZ):=bY hy.a_40 (N:=nO ph) (ps:=(nO ph).take 4) X G (by ac_nf) (by ac_rfl) (bv (F:=[SH.cZ,SH.kF,SH.dm]) (k:=2) E (ag (by decide) (.inl o) (ag (by decide) (.inl X0) (ag (by decide) (.inl L) (ah (F:=[])))))) (by rfl') (by bv_omega) (λds M Q h=>SH.Az rfl rfl rfl h);have X2:bB P w K mg base 4 "_law_with_pairs" (SH.kf):=bY hy.a_41 (N:=nO gV) (ps:=(nO gV).take 4) X G (by ac_nf) (by ac_rfl) (bv (F:=[SH.mZ,SH.dm]) (k:=3) E (ag (by decide) (.inl X1) (ag (by decide) (.inl L) (ah (F:=[]))))) (by rfl') (by bv_omega) (λds M Q h=>SH.xp rfl rfl h);exact yP (OT.fun_) LN (bv (F:=[SH.ke c S,SH.cZ,SH.fX 13,SH.jY 13,SH.lP 13,SH.dm,SH.nr,SH.lF c S,SH.m6,SH.kf]) (k:=26) E (ag (by decide) (.inl Xh) (ag (by decide) (.inl o) (ag (by decide) (.inl (Xk 13)) (ag (by decide) (.inl (Xl 13)) (ag (by decide) (.inl (Xm 13)) (ag (by decide) (.inl L) (ag (by decide) (.inl Xn) (ag (by decide) (.inl Xy) (ag (by decide) (.inl Xz) (ag (by decide) (.inl X2) (ah (F:=[]))))))))))))) LP (by bv_omega) (λds M Q h=>SH.LL rfl rfl rfl rfl rfl rfl rfl rfl rfl rfl h)
end
theorem Hf{a b d e:Addr}(h:(decide (a≠b)&&decide (a≠d)&&decide (a≠e)&&decide (b≠d)&&decide (b≠e)&&decide (d≠e))=true):SH.CA.apart ⟨a,b,d,e⟩:=by
 simp only[YX,XO] at h;obtain⟨⟨⟨⟨⟨c,h2⟩,f⟩,g⟩,j⟩,l⟩:=h;intro k hk;have m:k=0\/k=1\/k=2\/k=3:=by omega
 rcases m with rfl | rfl | rfl | rfl
 ·show(if a=a then some 0 else if a=b then some 1 else if a=d then some 2 else if a=e then some 3 else none)=some 0
  rw[if_pos rfl]
 ·show(if b=a then some 0 else if b=b then some 1 else if b=d then some 2 else if b=e then some 3 else none)=some 1
  rw[if_neg (λz=>c z.symm),if_pos rfl]
 ·show(if d=a then some 0 else if d=b then some 1 else if d=d then some 2 else if d=e then some 3 else none)=some 2
  rw[if_neg (λz=>h2 z.symm),if_neg (λz=>g z.symm),if_pos rfl]
 ·show(if e=a then some 0 else if e=b then some 1 else if e=d then some 2 else if e=e then some 3 else none)=some 3
  rw[if_neg (λz=>f z.symm),if_neg (λz=>j z.symm),if_neg (λz=>l z.symm),if_pos rfl]
theorem NX{p:Nat->Prop}(b:p 0)(c:p 1)(h2:p 2)(d:p 3):∀i,i<4->p i:=by
 intro i f;have a:i=0\/i=1\/i=2\/i=3:=by omega
 rcases a with rfl | rfl | rfl | rfl<;>assumption
theorem LV:xC 63 SH.xK:=λa ns hl=>⟨a,ns,rfl,by unfold rO;rw[if_pos rfl],hl,λ_=>rfl⟩
theorem LW:HA SH.xK:=by
 intro l w K h mg z cH cL cS cD S Z V X G p r gl bl t Qk Ql Qm Qn Qo Qp Qq Qr Qs Qt Qu Qv Qw A o OT hy;have b:=Qk;simp only[YX] at b;have d:=Qm;simp only[YX] at d;have f:=Qo;simp only[YX] at f;have g:=Qq;simp only[YX] at g;have j:=Qs;simp only[YX] at j;have m:=Qu;simp only[YX] at m;have n:=Qw;simp only[YX] at n;have E:cG K mg ⟨cH,cL,cS,cD⟩ S Z V:=⟨um X G gl,DY X G bl,NX b.1.1 d.1.1 f.1.1 g.1.1,j.1.1,m.1.1,n.1.1⟩;have u:∀(s:Shared) (v:Value),BindsTo s o ⟨[v],[]⟩ [("_law_script",v)]:=by
  obtain⟨oc,od,an,G',kV,w_,pm,u_,ct,a,rfl,l,c,k⟩:=OT.ex;exact λs v=>.of_eq rfl
 have y:=OT.def_ (ps:=["_law_script"]) X G λ_ _ _ _ _ _=>LQ λ_=>rfl
 have e:=p.symm.trans y.mgf;cases e;exact⟨o,u,λbase _ _=>LU (c:=⟨cH,cL,cS,cD⟩) (S:=S) (Z:=Z) (V:=V) E (Hf r) X G OT (PySem.W.mg_of X G t) b.1.2 b.2 (PySem.W.mg_of X G Ql) d.1.2 d.2 (PySem.W.mg_of X G Qn) f.1.2 f.2 (PySem.W.mg_of X G Qp) g.1.2 g.2 (PySem.W.mg_of X G Qr) j.1.2 j.2 (PySem.W.mg_of X G Qt) m.1.2 m.2 (PySem.W.mg_of X G Qv) n.1.2 n.2 hy⟩
end K64
open PySem PySem.W PyProof.Rows L2 DD
theorem PySem.Challenge.cw_notring_k64_other_trees_holds : PySem.Challenge.rw_notring_k64_other_trees.Holds := by
  exact K64.over K64.LV K64.LW
#print axioms PySem.Challenge.cw_notring_k64_other_trees_holds
