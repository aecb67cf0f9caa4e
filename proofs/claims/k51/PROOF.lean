import PyProof.Rows.All
import Wide.All
import KE.KDictOf
import KE.KFromBytes
import KE.LcTurns
import KE.KIsAll
import KE.KItem
import Wide.FinOn
import KE.KNestM
import PySem.Challenge.RW_notring_k51_papers_by_rounds
import Lean
import PyProof.EqAt
import PyProof.EqKinds
import PyProof.TupleCall
import PyProof.DictIter
import PyProof.DictWalks
import PyProof.NeKinds
import PyProof.Rows.SetFrom
import PyProof.SetRoads
import PyProof.WalksMore
import PyProof.TupleIter
import PyProof.SumAnyB
import PyProof.Conv_int
import PyProof.Conv_int_bool
import PyProof.ListRange
import PyProof.DictTruth
import PyProof.Rows.SortWalk
import PyProof.EnumMake
import PyProof.EnumIter
import PyProof.EnumFor
import PyProof.EnumStmt
import PyProof.Draws
import PyProof.Rows.CallKwBuiltin
import PyProof.DefCall
import KE.BitLaws
set_option compiler.extract_closed false
set_option Elab.async false
set_option maxRecDepth 100000
set_option maxHeartbeats 4000000
set_option hygiene false
local macro_rules
 |`('a')=>`((by decide))
 |`('b')=>`((by omega))
 |`('c')=>`((model X.prog X.w))
 |`('d')=>`((openSeen K51.viewQ [] (importedModules PySem.Challenge.pw_notring_k51_papers_by_rounds.main.body) (λs=>xlAt K51.viewQ [] s&&recOk [] s) true (TopT.absF s)))
local macro_rules
 |`('e')=>`((by rfl'))
local macro_rules
 |`(tactic|rw[0])=>`(tactic|(intro X hP hw hK hc i pins s σ H E I hf st hg;subst hP hw hK))
set_option bootstrap.genMatcherCode false
set_option genSizeOfSpec false
local macro_rules
 |`(command|def $i:declId $s:optDeclSig $v:declVal)=>`(command|noncomputable def $i:declId $s:optDeclSig $v:declVal)
 |`(command|abbrev $i:declId $s:optDeclSig $v:declVal)=>`(command|noncomputable abbrev $i:declId $s:optDeclSig $v:declVal)
def Yb:=@PySem.wpAny_bind
def Yc:=@PySem.wpAny_pure
def Yd:=@PySem.Heap.get?_push_of_some
def Ye:=@PySem.Heap.lt_size
def Yg:=@PySem.Heap.get?_push_size
def Yh:=@False.elim
def Yi:=@Option.some.inj
def Yj:=@PySem.wpAny_holding
def Yk:=@PySem.wpAny_standAt
abbrev Za:=PySem.W.Frag
abbrev Zb:=PySem.Value->PySem.Shared->Prop
abbrev Zc:=List (PySem.Addr×PySem.Obj)
abbrev Zd:=List PySem.Value
abbrev Ze:=PySem.Str->Option PySem.Value
abbrev Zf:=List PySem.Str
abbrev Zg:=List PySem.Expr
abbrev Zh:=List PySem.Addr
abbrev Zi:=List Int
abbrev Zj:=List Nat
abbrev Zk:=PySem.Value->PySem.Value->PySem.Sem PySem.Value
abbrev Zl:=Array PySem.Value
abbrev Zm:=Option PySem.Addr
abbrev Zn:=Array (Option PySem.Value)
abbrev Zo:=Unit->PySem.Shared->Prop
abbrev Zp:=List (Nat×Nat)
abbrev Zq:=Option Int
abbrev Zr:=List (PySem.Str×PySem.Addr)
abbrev Zs:=List (Bool×Int)
abbrev Zt:=List (List PySem.Addr)
abbrev Zu:=List PySem.Stmt
abbrev Zv:=PySem.FuncData
abbrev Zw:=PySem.Program
abbrev Zx:=Option PySem.Value
local macro_rules
  | `(tactic| rfl') => `(tactic| decide +kernel)
def XA:=@List.nil_append
def XB:=@Bool.false_eq_true
def XC:=@beq_self_eq_true
def XD:=@List.find?_cons
def XE:=@List.any_cons
def XF:=@Nat.lt_of_le_of_lt
def XG:=@List.lookup_cons
def XH:=@Nat.lt_succ_of_lt
def XI:=@List.all_eq_true
def XJ:=@List.mem_singleton
def XM:=@of_decide_eq_true
def XN:=@List.all_cons
def XO:=@decide_eq_true_eq
def XQ:=@List.getElem?_cons_zero
def XR:=@List.getElem?_of_mem
def XS:=@Bool.or_eq_true
def XT:=@List.filter_cons
def XU:=@List.mem_map
def XV:=@Bool.not_true
def XW:=@List.getD_cons_zero
def XX:=@List.getD_cons_succ
def XY:=@Nat.eq_of_testBit_eq
def XZ:=@Nat.testBit_or
def YA:=@List.mem_cons
def YB:=@List.mem_append
def YC:=@List.getElem?_eq_some_iff
def YD:=@Bool.false_ne_true
def YE:=@Nat.le_refl
def YF:=@List.mem_append_right
def YG:=@List.size_toArray
def YH:=@List.length_cons
def YJ:=@List.map_cons
def YK:=@Nat.lt_succ_self
def YL:=@Nat.zero_le
def YM:=@Nat.le_succ
def YN:=@List.nodup_cons
def YR:=@List.mem_of_getElem?
def YS:=@List.length_nil
def YT:=@decide_eq_true
def YU:=@Int.toNat_natCast
def YV:=@Bool.and_eq_true
def YW:=@List.map_nil
def YX:=@List.replicate_succ
def YY:=@List.flatten_cons
def YZ:=@Array.getElem?_toList
def ZA:=@List.append_nil
def ZC:=@List.getElem?_eq_getElem
def ZD:=@List.getElem?_append_left
def ZE:=@List.length_map
def ZF:=@List.getElem?_map
def ZG:=@List.getElem?_append_right
def ZH:=@List.getElem?_eq_none
def ZI:=@List.length_range
def ZJ:=@List.length_append
def ZK:=@List.map_append
def ZL:=@List.map_map
def ZM:=@List.map_congr_left
def ZO:=@Option.map_eq_some_iff
def ZQ:=@decide_eq_false
def ZR:=@beq_eq_false_iff_ne
def ZS:=@Nat.lt_of_lt_of_le
def ZT:=@Nat.lt_irrefl
def ZU:=@Nat.ne_of_lt
def ZV:=@List.mem_filter
def ZW:=@List.mem_range
def ZX:=@Nat.le_trans
def ZY:=@List.mem_cons_self
def ZZ:=@List.mem_cons_of_mem
namespace TopT
open PySem PySem.W PyProof.Rows
def lA:List Obj->Nat->BT->Option (BT×Nat)
 |[],n,T=>some (T,n)
 |o::r,n,T=>match((T.ins n o).get n).isSome with
  |true=>lA r (n+1) (T.ins n o)
  |false=>none
theorem uN(life:Life):∀{os:List Obj}{n n':Nat}{T T':BT},lA os n T=some (T',n')->absHeap T' n' life=⟨((absHeap T n life).objs.toList++os).toArray,life⟩
 |[],n,n',T,T',h=>by
  cases h;rw[ZA];rfl
 |o::r,n,n',T,T',h=>by
  unfold lA at h;cases g:((T.ins n o).get n).isSome with
  |false=>rw[g] at h;cases h
  |true=>
   rw[g] at h;have ih:=uN life (os:=r) h;rw[ih,absHeap_ins g];show Heap.mk (((absHeap T n life).objs.push o).toList++r).toArray life=_;rw[Array.toList_push,List.append_assoc];rfl
def pY(tb:String->Option Builtin)(p:Zw)(w:World)(n₀:Nat)(ann:Zx):Nat->SharedT->Thread->Option SharedT
 |0,_,_=>none
 |n+1,s,t=>match through t with
  |true=>some s
  |false=>match stepOk n₀ ann t with
   |false=>none
   |true=>match stepT (denote tb) p w s t with
    |some (s',t')=>pY tb p w n₀ ann n s' t'
    |none=>none
theorem uO{tb:String->Option Builtin}{p:Zw}{w:World}{n₀:Nat}{ann:Zx}:∀{n:Nat}{s s':SharedT}{t:Thread},pY tb p w n₀ ann n s t=some s'->topRun tb p w n₀ ann n s.abs t=some s'.abs
 |0,_,_,_,h=>by cases h
 |n+1,s,s',t,h=>by
  unfold pY at h;unfold topRun;cases ht:through t with
  |true=>rw[ht] at h;cases h;rfl
  |false=>
   rw[ht] at h;cases hk:stepOk n₀ ann t with
   |false=>rw[hk] at h;cases h
   |true=>
    rw[hk] at h;cases hs:stepT (denote tb) p w s t with
    |none=>rw[hs] at h;cases h
    |some x=>
     obtain⟨s2,t2⟩:=x;rw[hs] at h
     have:=stepT_spec hs
     simp only[this];exact uO h
def getT(s:SharedT)(a:Addr):Option Obj:=match Nat.blt a s.n with
 |true=>alive ((s.tree.get a).getD default)
 |false=>none
theorem DT(s:SharedT)(a:Addr):s.abs.heap.get? a=getT s a:=by
 show(absHeap s.tree s.n s.life).get? a=_;unfold getT Heap.get?;rw[absHeap_at];cases e:Nat.blt a s.n with
 |true=>
  have lt:a<s.n:=Nat.le_of_ble_eq_true e;rw[if_pos lt];obtain⟨c,d,dt,sl⟩:=(s.tree.get a).getD default;cases dt<;>rfl
 |false=>
  have nl:¬a<s.n:=λh=>by
   have:Nat.blt a s.n=true:=Nat.ble_eq_true_of_le h
   rw[this] at e;cases e
  rw[if_neg nl]
def lft:BT->BT
 |.nil=>.nil
 |.node _ l _=>l
def rgt:BT->BT
 |.nil=>.nil
 |.node _ _ r=>r
def rt:BT->Obj
 |.nil=>default
 |.node v _ _=>v
def atL(ts:List BT)(m i:Nat):Obj:=(((ts[i%m]?).getD .nil).get (i / m)).getD default
def lv:Nat->List BT->Nat->Nat->List Obj
 |0,ts,m,n=>(List.range n).map (atL ts m)
 |k+1,ts,m,n=>match Nat.ble n m with
  |true=>(ts.take n).map rt
  |false=>ts.map rt++lv k (ts.map lft++ts.map rgt) (m+m) (n-m)
theorem FA(t:BT):(t.get 0).getD default=rt t:=by cases t<;>rfl
theorem DU(t:BT)(j:Nat):t.get (2*j+1)=(lft t).get j:=by
 cases t with
 |nil=>rfl
 |node v l r=>rw[BT.get_node,if_neg 'b',if_pos 'b',show(2*j+1) / 2=j by omega];rfl
theorem BW(t:BT)(j:Nat):t.get (2*j+2)=(rgt t).get j:=by
 cases t with
 |nil=>rfl
 |node v l r=>rw[BT.get_node,if_neg 'b',if_neg 'b',show(2*j+2) / 2-1=j by omega];rfl
theorem rR{ts:List BT}{m r:Nat}(k:Nat)(hr:r<m):atL ts m (m*k+r)=((ts[r]?.getD .nil).get k).getD default:=by
 unfold atL;rw[Nat.mul_add_mod,Nat.mod_eq_of_lt hr,Nat.mul_add_div 'b',Nat.div_eq_of_lt hr,Nat.add_zero]
theorem FB{ts:List BT}{m:Nat}(h:ts.length=m)(hm:0<m)(i:Nat):atL ts m (m+i)=atL (ts.map lft++ts.map rgt) (m+m) i:=by
 have hr:i%m<m:=Nat.mod_lt _ hm;have d:=Nat.div_add_mod i m;generalize i%m=r at *;generalize i / m=k at *;subst d;obtain⟨t,e0⟩:∃t,ts[r]?=some t:=⟨_,ZC (h▸hr)⟩;rw[show m+(m*k+r)=m*(k+1)+r by rw[Nat.mul_add];omega,rR _ hr,e0];rcases Nat.mod_two_eq_zero_or_one k with e | e
 ·obtain⟨j,rfl⟩:∃j,k=2*j:=⟨k / 2,by omega⟩
  rw[show m*(2*j)+r=(m+m)*j+r by rw[←Nat.mul_assoc,Nat.mul_two],rR _ 'b',ZD (by rw[ZE];omega),ZF,e0];exact congrArg (·.getD default) (DU _ j)
 ·obtain⟨j,rfl⟩:∃j,k=2*j+1:=⟨k / 2,by omega⟩
  rw[show m*(2*j+1)+r=(m+m)*j+(m+r) by rw[Nat.mul_add,←Nat.mul_assoc,Nat.mul_two];omega,rR _ 'b',ZG (by rw[ZE];omega),ZE,h,Nat.add_sub_cancel_left,ZF,e0];exact congrArg (·.getD default) (BW _ j)
theorem Dy:∀(k:Nat){ts:List BT}{m:Nat}(n:Nat),ts.length=m->0<m->lv k ts m n=(List.range n).map (atL ts m)
 |0,_,_,_,_,_=>rfl
 |k+1,ts,m,n,h,hm=>by
  have hd:∀j,j<m->atL ts m j=rt (ts[j]?.getD .nil):=λj hj=>by
   rw[show j=m*0+j by omega,rR _ hj,FA];simp
  show(match Nat.ble n m with | true=>_ | false=>_)=_;cases e:Nat.ble n m with
  |true=>
   have hn:n<=m:=Nat.le_of_ble_eq_true e;apply List.ext_getElem?;intro j;show((ts.take n).map rt)[j]?=_;rw[ZF,ZF,List.getElem?_take];by_cases hj:j<n
   ·rw[if_pos hj,List.getElem?_range hj,ZC 'b']
    show some (rt ts[j])=some (atL ts m j);rw[hd j 'b',ZC 'b'];rfl
   ·rw[if_neg hj,ZH (by rw[ZI];omega)];rfl
  |false=>
   have hn:m<n:=Nat.lt_of_not_le λq=>by rw[Nat.ble_eq_true_of_le q] at e;cases e
   show ts.map rt++lv k (ts.map lft++ts.map rgt) (m+m) (n-m)=_;rw[Dy k (n-m) (by rw[ZJ,ZE,ZE,h]) 'b',show n=m+(n-m) by omega,List.range_add,ZK,ZL];congr 1
   ·apply List.ext_getElem?
    intro j;rw[ZF,ZF];by_cases hj:j<m
    ·rw[List.getElem?_range hj,ZC 'b']
     show some (rt ts[j])=some (atL ts m j);rw[hd j hj,ZC 'b'];rfl
    ·rw[ZH 'b',ZH (by rw[ZI];omega)];rfl
   ·rw[show m+(n-m)-m=n-m by omega]
    exact ZM λi _=>(FB h hm i).symm
theorem list_eq(t:BT)(n:Nat):t.list n=lv 20 [t] 1 n:=by
 rw[Dy (ts:=[t]) (m:=1) 20 n rfl 'a'];unfold BT.list;apply ZM;intro i _;show _=(((([t]:List BT)[i%1]?).getD .nil).get (i / 1)).getD default;rw[Nat.mod_one,Nat.div_one];rfl
def absF(s:SharedT):Shared:=⟨⟨(lv 20 [s.tree] 1 s.n).toArray,s.life⟩,s.gens,s.drawn,s.toks,s.os⟩
theorem ym(s:SharedT):s.abs=absF s:=by
 unfold SharedT.abs absHeap absF;rw[list_eq]
def runC{α:Type}(p:Zw)(w:World)(N:Nat)(C:Shared->SharedT->α):Option α:=(fencedOpening treeTable p w N).bind λs₀=>match s₀.heap.isNs mainGlobals&&s₀.gens.size==0 with
 |true=>match lA s₀.heap.objs.toList 0 .nil with
  |some (T,n)=>(pY treeTable p w s₀.heap.objs.size (s₀.heap.nsMap mainGlobals "__annotations__") N ⟨T,n,s₀.heap.life,s₀.gens,s₀.drawn,s₀.toks,s₀.os⟩ (topStub p)).map (C s₀)
  |none=>none
 |false=>none
theorem BX{α:Type}{p:Zw}{w:World}{N:Nat}(C:Shared->SharedT->α):runC p w N C=(runC p w N Prod.mk).map λx=>C x.1 x.2:=by
 unfold runC;cases fencedOpening treeTable p w N with
 |none=>rfl
 |some s₀=>
  show(match s₀.heap.isNs mainGlobals&&s₀.gens.size==0 with | true=>_ | false=>_)=Option.map _ (match s₀.heap.isNs mainGlobals&&s₀.gens.size==0 with | true=>_ | false=>_);cases s₀.heap.isNs mainGlobals&&s₀.gens.size==0 with
  |false=>rfl
  |true=>
   show(match lA s₀.heap.objs.toList 0 .nil with | some (T,n)=>_ | none=>_)=Option.map _ (match lA s₀.heap.objs.toList 0 .nil with | some (T,n)=>_ | none=>_);cases lA s₀.heap.objs.toList 0 .nil with
   |none=>rfl
   |some x=>
    obtain⟨T,n⟩:=x;show Option.map (C s₀) _=Option.map _ (Option.map (Prod.mk s₀) _);rw[Option.map_map];rfl
def vD(p:Zw)(s₀ s:Shared):Bool:=staticsOk (importedModules p.main.body) s₀.heap s.heap&&namesBound p s.heap&&gensDone s&&laidKept s₀.heap s.heap
theorem DV{p:Zw}{w:World}{N:Nat}{s₀:Shared}{s:SharedT}(h:runC p w N Prod.mk=some (s₀,s))(k:vD p s₀ (absF s)=true):openEnds treeTable p w N=some (absF s):=by
 unfold runC at h;obtain⟨s₂,h0,h⟩:=Option.bind_eq_some_iff.mp h;cases g:(s₂.heap.isNs mainGlobals&&s₂.gens.size==0) with
 |false=>rw[g] at h;cases h
 |true=>
  rw[g] at h;cases e:lA s₂.heap.objs.toList 0 .nil with
  |none=>rw[e] at h;cases h
  |some x=>
   obtain⟨T,n⟩:=x;rw[e] at h;obtain⟨s₁,h1,h2⟩:=ZO.mp h;cases h2;have a:(⟨T,n,s₀.heap.life,s₀.gens,s₀.drawn,s₀.toks,s₀.os⟩:SharedT).abs=s₀:=by
    show Shared.mk (absHeap T n s₀.heap.life) _ _ _ _=_;rw[uN s₀.heap.life e];rfl
   have r:=uO h1;rw[a,ym] at r;unfold openEnds topFrom;rw[h0];show(match s₀.heap.isNs mainGlobals&&s₀.gens.size==0 with | true=>_ | false=>_)=_;rw[g];show(topRun treeTable p w s₀.heap.objs.size (s₀.heap.nsMap mainGlobals "__annotations__") N s₀ (topStub p)).bind _=_;rw[r];show(match vD p s₀ (absF s) with | true=>some (absF s) | false=>none)=_;rw[k]
theorem Hs{p q:Zw}{loose:Zf}{Xt:Shared->Bool}{N:Nat}{g0:Bool}{K:Params->Frag}{as:Zh}{e:∀P,as=(K P).map (·.1)}
  (h1:∀w,runC p w N (λs₀ s=>(vD p s₀ (absF s),(openSeen q loose (importedModules p.main.body) Xt g0 (absF s)).1,(openSeen q loose (importedModules p.main.body) Xt g0 (absF s)).2.1))=some (true,expectedOf q,bltViewBooted))
  (h2:∀w,runC p w N (λ_ s=>(openSeen q loose (importedModules p.main.body) Xt g0 (absF s)).2.2.1)=some true)
  (h3:∀w,runC p w N (λ_ s=>((openSeen q loose (importedModules p.main.body) Xt g0 (absF s)).2.2.2.1,(openSeen q loose (importedModules p.main.body) Xt g0 (absF s)).2.2.2.2.1))=some (true,pinGoodD (drecsOf q)))
  (h5:∀w,runC p w N (λ_ s=>(openSeen q loose (importedModules p.main.body) Xt g0 (absF s)).2.2.2.2.2.1)=some (plainGoodE q (looseW q loose)))
  (h6:∀w,runC p w N (λ_ s=>(openSeen q loose (importedModules p.main.body) Xt g0 (absF s)).2.2.2.2.2.2)=some (plainGoodD q loose,wideGood q,clsGoodW q loose))
  (h4:∀w:World,runC p w N (λ_ s=>as.map (getT s))=some ((K w.params).map (λp=>some p.2))):LeftO p q loose Xt (Hook.obs (kHook K as e)) (Hook.val (kHook K as e)) N g0:=λw=>by
 have h1:=h1 w;have h2:=h2 w;have h3:=h3 w;have h4:=h4 w;have h5:=h5 w;have h6:=h6 w;rw[BX] at h1 h2 h3 h4 h5 h6;obtain⟨⟨s₀,s⟩,hr,a1⟩:=ZO.mp h1;rw[hr] at h2 h3 h4 h5 h6;obtain⟨b1,b2⟩:=Prod.mk.inj a1;obtain⟨b2,b3⟩:=Prod.mk.inj b2;obtain⟨b4,b5⟩:=Prod.mk.inj (Yi h3);rw[DV hr b1];have e3:as.map (absF s).heap.get?=as.map (getT s):=ZM λa _=>by rw[←ym];exact DT s a
 exact congrArg some (Prod.ext (Prod.ext b2 (Prod.ext b3 (Prod.ext (Yi h2) (Prod.ext b4 (Prod.ext b5 (Prod.ext (Yi h5) (Yi h6))))))) (e3.trans (Yi h4)))
end TopT
section
open PySem PySem.W PyProof.Rows
def K51.viewQ:Program:=PySem.W.view PySem.Challenge.pw_notring_k51_papers_by_rounds [0,2,3,4,5,6,7,9,10,11,12,13,14,15,16,17,19,20,21,22,23,24,26,27,28,29,31,32,33,34,35,36,37,38,39,40,42,43,45,46,47,48,49,50,51,52,53,54,55,56,57,59,60,61,62,63,64,65,66,67,68,69,70,71]
set_option maxHeartbeats 0 in
theorem K51.said:PySem.Challenge.rw_notring_k51_papers_by_rounds.wellSaid=true:=by kernel_rfl
set_option maxHeartbeats 0 in
theorem K51.seen1:∀w:World,TopT.runC PySem.Challenge.pw_notring_k51_papers_by_rounds w 12100 (λs₀ s=>(TopT.vD PySem.Challenge.pw_notring_k51_papers_by_rounds s₀ (TopT.absF s),'d'.1,'d'.2.1))=some (true,expectedOf K51.viewQ,bltViewBooted):=by
 intro w;kernel_rfl
set_option maxHeartbeats 0 in
theorem K51.seen2:∀w:World,TopT.runC PySem.Challenge.pw_notring_k51_papers_by_rounds w 12100 (λ_ s=>'d'.2.2.1)=some true:=by
 intro w;kernel_rfl
set_option maxHeartbeats 0 in
theorem K51.seen3:∀w:World,TopT.runC PySem.Challenge.pw_notring_k51_papers_by_rounds w 12100 (λ_ s=>('d'.2.2.2.1,'d'.2.2.2.2.1))=some (true,pinGoodD (drecsOf K51.viewQ)):=by
 intro w;kernel_rfl
set_option maxHeartbeats 0 in
theorem K51.seen5:∀w:World,TopT.runC PySem.Challenge.pw_notring_k51_papers_by_rounds w 12100 (λ_ s=>'d'.2.2.2.2.2.1)=some (plainGoodE K51.viewQ (looseW K51.viewQ [])):=by
 intro w;kernel_rfl
set_option maxHeartbeats 0 in
theorem K51.seen6:∀w:World,TopT.runC PySem.Challenge.pw_notring_k51_papers_by_rounds w 12100 (λ_ s=>'d'.2.2.2.2.2.2)=some (plainGoodD K51.viewQ [],wideGood K51.viewQ,clsGoodW K51.viewQ []):=by
 intro w;kernel_rfl
end
-- CHANGE: your row's module here,as the last of these rows
set_option linter.all false
namespace L2
open PySem PySem.Spec PyProof.Rows
abbrev Key:=Sum Int Str
def nD:Key->Value->Bool
 |.inl k,v=>Value.isInt k v
 |.inr x,v=>Value.isStrOf x v
def keyH(w:World):Key->Int
 |.inl k=>hashInt k
 |.inr x=>hashStr w x
theorem bw:∀{k:Key}{v:Value},nD k v=true->(∃i t,k=Sum.inl i/\v=Value.int i t)\/(∃x t,k=Sum.inr x/\v=Value.str x t)
 |.inl i,v,h=>by
  obtain⟨t,e⟩:=Value.isInt_shape (k:=i) (v:=v) h;exact .inl ⟨i,t,rfl,e⟩
 |.inr x,v,h=>by
  obtain⟨t,e⟩:=Value.isStrOf_shape (x:=x) (v:=v) h;exact .inr ⟨x,t,rfl,e⟩
theorem Ak(i:Int)(t:Tok):nD (.inl i) (.int i t)=true:=by simp[nD,Value.isInt]
theorem Al(x:Str)(t:Tok):nD (.inr x) (.str x t)=true:=by simp[nD,Value.isStrOf]
theorem FC(a b:Int):decide ((Sum.inl a:Key)=Sum.inl b)=(a==b):=by
 by_cases e:a=b
 ·subst e;simp
 ·have h:¬(Sum.inl a:Key)=Sum.inl b:=λq=>e (Sum.inl.inj q)
  rw[ZQ h];exact(ZR.mpr e).symm
theorem FD(a b:Str):decide ((Sum.inr a:Key)=Sum.inr b)=decide (a=b):=by
 by_cases e:a=b
 ·subst e;simp
 ·have h:¬(Sum.inr a:Key)=Sum.inr b:=λq=>e (Sum.inr.inj q)
  rw[ZQ h,ZQ e]
theorem FE(a:Int)(b:Str):decide ((Sum.inl a:Key)=Sum.inr b)=false:=ZQ (λq=>nomatch q)
theorem FF(a:Str)(b:Int):decide ((Sum.inr a:Key)=Sum.inl b)=false:=ZQ (λq=>nomatch q)
def bn(prog:Zw)(w:World):PySem.KeyKind prog w Key where
 is:=nD
 hash:=keyH w
 inj:=λv a b ha hb=>by
  rcases bw ha with⟨i,t,rfl,rfl⟩ | ⟨x,t,rfl,rfl⟩
  ·rcases bw hb with⟨j,u,rfl,e⟩ | ⟨y,u,rfl,e⟩
   ·injection e with e1 _;rw[e1]
   ·exact nomatch e
  ·rcases bw hb with⟨j,u,rfl,e⟩ | ⟨y,u,rfl,e⟩
   ·exact nomatch e
   ·injection e with e1 _;rw[e1]
 byValue:=λk v h=>by
  rcases bw h with⟨i,t,rfl,rfl⟩ | ⟨x,t,rfl,rfl⟩<;>rfl
 pyHash:=λhv h=>by
  rcases bw hv with⟨i,t,rfl,rfl⟩ | ⟨x,t,rfl,rfl⟩
  ·exact wpAny_pyHash_int h
  ·exact wpAny_pyHash_str h
 eqBool:=λhu hv h=>by
  rcases bw hu with⟨i,t,rfl,rfl⟩ | ⟨x,t,rfl,rfl⟩
  ·rcases bw hv with⟨j,u,rfl,rfl⟩ | ⟨y,u,rfl,rfl⟩
   ·rw[FC] at h;exact wpAny_eqBool_int h
   ·rw[FE] at h;exact SeqAt.EqAt.int_str i t y u _ _ _ _ h
  ·rcases bw hv with⟨j,u,rfl,rfl⟩ | ⟨y,u,rfl,rfl⟩
   ·rw[FF] at h;exact SeqAt.EqAt.str_int x t j u _ _ _ _ h
   ·rw[FD] at h;exact wpAny_eqBool_str h
 «strs»:=λk x t v h=>by
  rcases bw h with⟨i,u,rfl,e⟩ | ⟨y,u,rfl,e⟩
  ·exact nomatch e
  ·injection e with e1 _
   subst e1;cases v<;>rfl
theorem y8(prog:Zw)(w:World)(k:Key)(v:Value):(bn prog w).is k v=nD k v:=rfl
theorem xN(prog:Zw)(w:World)(i:Int)(t:Tok):(bn prog w).is (.inl i) (.int i t)=true:=Ak i t
theorem xO(prog:Zw)(w:World)(x:Str)(t:Tok):(bn prog w).is (.inr x) (.str x t)=true:=Al x t
inductive V where
 |non | bl (b:Bool) | int (i:Int) | str (x:Str) | byt (b:Array UInt8) | flt (b:UInt64) | ref (a:Addr) | ty (n:String)
 deriving DecidableEq
def RelV:V->Value->Prop
 |.non,u=>u=Value.none
 |.bl b,u=>u=Value.bool b
 |.int i,u=>∃t,u=Value.int i t
 |.str x,u=>∃t,u=Value.str x t
 |.byt b,u=>∃t,u=Value.bytes b t
 |.flt b,u=>∃t,u=Value.float b t
 |.ref a,u=>u=Value.ref a
 |.ty n,u=>u=Value.type n
abbrev Vals:List V->List Value->Prop:=Paired RelV
theorem Vals.length{xs:List V}{us:Zd}(r:Vals xs us):xs.length=us.length:=Paired.length r
theorem Vals.get:∀{xs:List V}{us:Zd}{i:Nat}{x:V},Vals xs us->xs[i]?=some x->∃u,us[i]?=some u/\RelV x u
 |_,_,_,_,.nil,e=>by simp at e
 |_,_,0,_,.cons r _,e=>by simp at e;subst e;exact⟨_,rfl,r⟩
 |_,_,i+1,x,.cons _ t,e=>by
  obtain⟨u,h1,h2⟩:=Vals.get (i:=i) (x:=x) t (by simpa using e);exact⟨u,by simpa using h1,h2⟩
theorem Vals.set{x:V}{u:Value}(r:RelV x u):∀{xs:List V}{us:Zd}(i:Nat),Vals xs us->Vals (xs.set i x) (us.set i u)
 |_,_,_,.nil=>.nil
 |_,_,0,.cons _ t=>.cons r t
 |_,_,i+1,.cons q t=>.cons q (Vals.set r i t)
theorem Vals.append{xs ys:List V}{us ws:Zd}(h:Vals xs us)(s:Vals ys ws):Vals (xs++ys) (us++ws):=by
 induction h with
 |nil=>exact s
 |cons r _ ih=>exact .cons r ih
theorem Vals.take:∀{xs:List V}{us:Zd}(n:Nat),Vals xs us->Vals (xs.take n) (us.take n)
 |_,_,0,_=>.nil
 |_,_,_+1,.nil=>.nil
 |_,_,n+1,.cons r t=>.cons r (Vals.take n t)
theorem Vals.drop:∀{xs:List V}{us:Zd}(n:Nat),Vals xs us->Vals (xs.drop n) (us.drop n)
 |_,_,0,r=>r
 |_,_,_+1,.nil=>.nil
 |_,_,n+1,.cons _ t=>Vals.drop n t
def RelO:Option V->Option Value->Prop
 |some v,some u=>RelV v u
 |none,none=>True
 |_,_=>False
def KV{κ:Type}:List (κ×V)->List (κ×Value)->Prop:=Paired λ(p:κ×V) (q:κ×Value)=>p.1=q.1/\RelV p.2 q.2
def kV:Key->V
 |.inl i=>.int i
 |.inr x=>.str x
inductive HO where
  /-- a list -/
  | lst (xs:List V)
  /-- a tuple (never changes) -/
  | tup (xs:List V)
  /-- a dict whose keys are ints and texts; one whose keys are tuples of ints and texts (the empty one is both) -/
  | dK (kvs:List (Key × V)) | dT (kvs:List (List Key × V))
  /-- a set of ints: its members,its size -/
  | set (S:Int->Bool) (n:Nat)
  /-- an instance of the class at C,its dict at dx,its attributes -/
  | ins (C dx:Addr) (fs:List (Str × V))
  /-- the dict of the instance at x -/
  | own (x:Addr)
  /-- the dict of an exception -/
  | xd (fs:List (Str × V))
  /-- a bound method,f of x -/
  | met (f x:Addr)
  /-- a range object lo,lo + 1,.. below hi -/
  | rng (lo hi:Int)
  /-- a thing that is known to the object (the script; a dict while a loop walks it): read,never written while it is so -/
  | frz (o:Obj) (u:HO)
  /-- a code object's table -/
  | tbl (ps:Zl)
  /-- any other thing,by what is true of its one object (a def of one's own: SetO a S n:=HO.ext λh=>..) -/
  | ext (φ:Heap->Prop)
abbrev Hp:=Addr->Option HO
def upd(H:Hp)(a:Addr)(o:HO):Hp:=λb=>if b=a then some o else H b
theorem az{H:Hp}{a:Addr}{o:HO}:upd H a o a=some o:=by unfold upd;rw[if_pos rfl]
theorem aF{H:Hp}{a b:Addr}{o:HO}(h:b≠a):upd H a o b=H b:=by unfold upd;rw[if_neg h]
theorem Ht{H:Hp}{a b:Addr}{o u:HO}(h:H a=some o)(h':H b=some u)(d:o≠u):a≠b:=by
 intro e;subst e;rw[h] at h';exact d (Yi h')
theorem aX{H:Hp}{a b:Addr}{o:HO}(h:H a=some o)(h':H b=none):a≠b:=by
 intro e;subst e;rw[h] at h';cases h'
section
variable (P:Zw)(w:World)
def aU(H:Hp)(h:Heap)(a:Addr):HO->Prop
 |.lst xs=>xs.length<=sizeLine/\∃(its:Zd) (n:Nat),Vals xs its/\h.get? a=some { cls:=.type "list",data:=.seq its.toArray n }
 |.tup xs=>xs.length<=sizeLine/\∃its:List Value,Vals xs its/\IsTup h a its.toArray
 |.dK kvs=>kvs.length<=sizeLine/\(a==sysModules)=false/\∃vs,KV kvs vs/\h.DictOf (bn P w) a vs
 |.dT kvs=>kvs.length<=sizeLine/\(a==sysModules)=false/\∃xs:List (List Key×Addr×Value),
   Paired (λ(p:List Key×V) (q:List Key×Addr×Value)=>p.1=q.1/\H q.2.1=some (.tup (p.1.map kV))/\RelV p.2 q.2.2) kvs xs /\
   ∃o es ep,h.get? a=some o/\o.ExactDict/\o.data=.dict es ep/\es.toList=xs.map (entryOfKey (tupleKind (bn P w)))/\(xs.map (·.1)).Nodup
 |.set S n=>h.SetOf (intKind P w) a S n
 |.ins C dx fs=>H dx=some (.own a)/\fs.length<=1000/\dx≠a/\h.get? a=some (PySem.W.instObj C dx) /\
   ∃mA,h.Ns1 dx mA/\(∀f,RelO (fs.lookup f) (mA f))/\PySem.Within mA (fs.map (·.1))
 |.own _=>∃o,h.get? a=some o
 |.xd fs=>∃mA,h.Ns1 a mA/\∀f,RelO (fs.lookup f) (mA f)
 |.rng lo hi=>∃t u v,h.get? a=some { cls:=.type "range",data:=.fields #[.int lo t,.int hi u,.int 1 v] }
 |.frz o u=>h.get? a=some o/\aU H h a u
 |.tbl ps=>h.get? a=some { cls:=.none,data:=.fields ps }
 |.met f x=>h.get? a=some (PySem.W.methodObj (.ref f) (.ref x))
 |.ext φ=>φ h/\(∃o,h.get? a=some o)/\∀h1 h2:Heap,φ h1->(∀o,h1.get? a=some o->h2.get? a=some o)->φ h2
def HOk(H:Hp)(h:Heap):Prop:=∀a o,H a=some o->aU P w H h a o
end
section
variable {P:Zw}{w:World}{H H':Hp}{h h':Heap}{a:Addr}{o:HO}
theorem aU.lt(x:aU P w H h a o):a<h.objs.size:=by
 cases o with
 |lst xs=>obtain⟨_,_,_,_,e⟩:=x;exact Ye e
 |tup xs=>obtain⟨_,_,_,p⟩:=x;exact p.lt
 |dK kvs=>obtain⟨_,_,_,_,o,_,_,e,_⟩:=x;exact Ye e
 |dT kvs=>obtain⟨_,_,_,_,o,_,_,e,_⟩:=x;exact Ye e
 |set S n=>obtain⟨o,_,_,_,e,_⟩:=x;exact Ye e
 |ins C dx fs=>obtain⟨_,_,_,e,_⟩:=x;exact Ye e
 |own y=>obtain⟨_,e⟩:=x;exact Ye e
 |xd fs=>obtain⟨_,⟨_,_,_,e,_⟩,_⟩:=x;exact Ye e
 |rng lo hi=>obtain⟨_,_,_,e⟩:=x;exact Ye e
 |frz ob u=>obtain⟨e,_⟩:=x;exact Ye e
 |tbl ps=>exact Ye (show h.get? a=some _ from x)
 |met f y=>exact Ye (show h.get? a=some _ from x)
 |ext φ=>obtain⟨_,⟨_,e⟩,_⟩:=x;exact Ye e
theorem Paired.mapP{α β:Type}{F G:α->β->Prop}{l₁:List α}{l₂:List β}(h:Paired F l₁ l₂)(f:∀a b,F a b->G a b):Paired G l₁ l₂:=by
 induction h with
 |nil=>exact .nil
 |cons r _ ih=>exact .cons (f _ _ r) ih
theorem aU.stay(x:aU P w H h a o)(k:∀b u,(b=a\/H b=some (.own a))->h.get? b=some u->h'.get? b=some u)
  (ho:∀b,H b=some (.own a)->H' b=some (.own a)) (ht:∀b xs,H b=some (.tup xs)->H' b=some (.tup xs)):aU P w H' h' a o:=by
 induction o with
 |lst xs=>obtain⟨z,its,n,r,e⟩:=x;exact⟨z,its,n,r,k _ _ (.inl rfl) e⟩
 |tup xs=>obtain⟨z,its,r,ob,e,c⟩:=x;exact⟨z,its,r,ob,k _ _ (.inl rfl) e,c⟩
 |dK kvs=>obtain⟨z,y,vs,r,ob,es,ep,e,c⟩:=x;exact⟨z,y,vs,r,ob,es,ep,k _ _ (.inl rfl) e,c⟩
 |dT kvs=>
  obtain⟨z,y,xs,r,ob,es,ep,e,c⟩:=x;exact⟨z,y,xs,Paired.mapP r λp q z=>⟨z.1,ht _ _ z.2.1,z.2.2⟩,ob,es,ep,k _ _ (.inl rfl) e,c⟩
 |set S n=>obtain⟨ob,es,ep,t,e,c⟩:=x;exact⟨ob,es,ep,t,k _ _ (.inl rfl) e,c⟩
 |ins C dx fs=>
  obtain⟨d,z,ne,e,mA,⟨od,es,ep,e2,c⟩,r⟩:=x;exact⟨ho _ d,z,ne,k _ _ (.inl rfl) e,mA,⟨od,es,ep,k _ _ (.inr d) e2,c⟩,r⟩
 |own y=>obtain⟨ob,e⟩:=x;exact⟨ob,k _ _ (.inl rfl) e⟩
 |xd fs=>obtain⟨mA,⟨od,es,ep,e,c⟩,r⟩:=x;exact⟨mA,⟨od,es,ep,k _ _ (.inl rfl) e,c⟩,r⟩
 |rng lo hi=>obtain⟨t,u,v,e⟩:=x;exact⟨t,u,v,k _ _ (.inl rfl) e⟩
 |frz ob u ih=>obtain⟨e,q⟩:=x;exact⟨k _ _ (.inl rfl) e,ih q⟩
 |tbl ps=>
  have e:h.get? a=some { cls:=.none,data:=.fields ps }:=x;show h'.get? a=some { cls:=.none,data:=.fields ps };exact k a _ (.inl rfl) e
 |met f y=>
  have e:h.get? a=some (PySem.W.methodObj (.ref f) (.ref y)):=x;show h'.get? a=some (PySem.W.methodObj (.ref f) (.ref y));exact k a _ (.inl rfl) e
 |ext φ=>obtain⟨p,⟨o,e⟩,st⟩:=x;exact⟨st _ _ p λo q=>k _ _ (.inl rfl) q,⟨o,k _ _ (.inl rfl) e⟩,st⟩
theorem HOk.lt(x:HOk P w H h)(e:H a=some o):a<h.objs.size:=(x a o e).lt
theorem HOk.fresh(x:HOk P w H h)(e:h.objs.size<=a):H a=none:=by
 cases q:H a with
 |none=>rfl
 |some u=>exact absurd (ZS (x.lt q) e) (ZT _)
theorem HOk.kept(x:HOk P w H h)(k:∀b u,h.get? b=some u->h'.get? b=some u):HOk P w H h':=λa o e=>
 (x a o e).stay (λb u _ q=>k b u q) (λ_ q=>q) λ_ _ q=>q
theorem HOk.laid(x:HOk P w H h)(k:∀b u,h.get? b=some u->h'.get? b=some u)(hp:h.objs.size<=a)(new:aU P w (upd H a o) h' a o):HOk P w (upd H a o) h':=λb u e=>by
 have hn:=x.fresh hp;by_cases hb:b=a
 ·subst hb;rw[az] at e;cases e;exact new
 ·rw[aF hb] at e
  exact(x b u e).stay (λc v _ q=>k c v q) (λc q=>by rw[aF (aX q hn)];exact q) λc xs q=>by rw[aF (aX q hn)];exact q
end
def Rd(H:Hp)(a:Addr)(u:HO):Prop:=H a=some u \/ ∃o,H a=some (.frz o u)
theorem Rd.ok{P:Zw}{w:World}{H:Hp}{h:Heap}{a:Addr}{u:HO}(r:Rd H a u)(x:HOk P w H h):aU P w H h a u:=by
 rcases r with r | ⟨o,r⟩
 ·exact x a u r
 ·obtain⟨_,q⟩:=x a _ r
  exact q
def Mut:Option HO->Prop
 |some (.lst _)=>True
 |some (.dK _)=>True
 |some (.dT _)=>True
 |some (.set _ _)=>True
 |some (.ins _ _ _)=>True
 |some (.ext _)=>True
 |_=>False
section
variable {P:Zw}{w:World}{H:Hp}{h h':Heap}{x e:Addr}{o':HO}
theorem HOk.write(ok:HOk P w H h)(mu:Mut (H x))(he:e=x\/H e=some (.own x))(k:∀b u,b≠e->h.get? b=some u->h'.get? b=some u)(heo:∃u,h'.get? e=some u)
  (new:aU P w (upd H x o') h' x o'):HOk P w (upd H x o') h':=λb u q=>by
 have nown:∀c y,H c=some (.own y)->c≠x:=λc y r z=>by subst z;rw[r] at mu;exact mu
 have ntup:∀c xs,H c=some (.tup xs)->c≠x:=λc xs r z=>by subst z;rw[r] at mu;exact mu
 by_cases hb:b=x
 ·subst hb;rw[az] at q;cases q;exact new
 ·rw[aF hb] at q
  by_cases hbe:b=e
  ·have q':H b=some (.own x):=by
    rcases he with z | z
    ·exact absurd (hbe.trans z) hb
    ·rw[hbe];exact z
   rw[q] at q';cases q';obtain⟨v,hv⟩:=heo;exact⟨v,by rw[hbe];exact hv⟩
  ·refine(ok b u q).stay (λc v hc r=>k c v ?_ r) (λc r=>by rw[aF (nown c b r)];exact r) λc xs r=>by rw[aF (ntup c xs r)];exact r
   rcases hc with rfl | hc
   ·exact hbe
   ·rintro rfl
    rcases he with z | z
    ·exact nown c b hc z
    ·rw[hc] at z;cases z;exact hb rfl
end
structure Un (fs ex:Zh) (H H':Hp) (h h':Heap):Prop where
 keep:∀b o,h.get? b=some o->H b=none->b∉fs->b∉ex->h'.get? b=some o
 slot:∀b o,h.get? b=some o->H b=none->b∈fs->b∉ex->∃sl,h'.get? b=some { o with slots:=sl }
 free:∀b o,h.get? b=some o->H b=none->b∉ex->H' b=none
 there:∀b o,h.get? b=some o->b∉ex->∃o',h'.get? b=some o'
 tups:∀b xs,H b=some (.tup xs)->H' b=some (.tup xs)
 frzs:∀b o u,H b=some (.frz o u)->H' b=some (.frz o u)
 tbls:∀b ps,H b=some (.tbl ps)->∃more,H' b=some (.tbl (ps++more))
section
variable {fs fs' ex ex':Zh}{H H1 H2:Hp}{h h1 h2 h':Heap}{a x e:Addr}{o:HO}
theorem Un.any(u:Un fs ex H H1 h h1){b:Addr}{ob:Obj}(q:h.get? b=some ob)(n:H b=none)(hx:b∉ex):∃sl,h1.get? b=some { ob with slots:=sl }:=by
 by_cases hb:b∈fs
 ·exact u.slot b ob q n hb hx
 ·exact⟨ob.slots,u.keep b ob q n hb hx⟩
theorem Un.kept(k:∀b u,h.get? b=some u->h'.get? b=some u):Un fs ex H H h h':=
 ⟨λb ob q _ _ _=>k b ob q,λb ob q _ _ _=>⟨ob.slots,k b ob q⟩,λ_ _ _ n _=>n,λb ob q _=>⟨ob,k b ob q⟩,λ_ _ q=>q,λ_ _ _ q=>q,λ_ ps q=>⟨#[],by rw[q];simp⟩⟩
theorem Un.refl:Un fs ex H H h h:=Un.kept λ_ _ q=>q
theorem Un.laid(k:∀b u,h.get? b=some u->h'.get? b=some u)(hp:h.objs.size<=a)(hn:H a=none):Un fs ex H (upd H a o) h h' where
 keep:=λb u q _ _ _=>k b u q
 slot:=λb u q _ _ _=>⟨u.slots,k b u q⟩
 free:=λb u q n _=>by rw[aF (ZU (ZS (Ye q) hp))];exact n
 there:=λb u q _=>⟨u,k b u q⟩
 tups:=λb xs q=>by rw[aF (aX q hn)];exact q
 frzs:=λb u xs q=>by rw[aF (aX q hn)];exact q
 tbls:=λb ps q=>⟨#[],by rw[aF (aX q hn),q];simp⟩
theorem Un.write(mu:Mut (H x))(he:e=x\/H e=some (.own x))(k:∀b u,b≠e->h.get? b=some u->h'.get? b=some u)(heo:∃u,h'.get? e=some u):Un fs ex H (upd H x o) h h':=by
 have hx:∀b,H b=none->b≠x:=λb n z=>by subst z;rw[n] at mu;exact mu
 have hb:∀b,H b=none->b≠e:=λb n z=>by
  subst z;rcases he with r | r
  ·exact hx b n r
  ·rw[n] at r;cases r
 have hm:∀b u,H b=some u->¬Mut (some u)->b≠x:=λb u q nm z=>by subst z;rw[q] at mu;exact nm mu
 refine⟨λb u q n _ _=>k b u (hb b n) q,λb u q n _ _=>⟨u.slots,k b u (hb b n) q⟩,λb u q n _=>by rw[aF (hx b n)];exact n,λb u q _=>?_,
  λb xs q=>by rw[aF (hm b _ q λz=>z)];exact q,λb u xs q=>by rw[aF (hm b _ q λz=>z)];exact q,λb ps q=>⟨#[],by rw[aF (hm b _ q λz=>z),q];simp⟩⟩
 by_cases hbe:b=e
 ·subst hbe;exact heo
 ·exact⟨u,k b u hbe q⟩
end
def trk(h:Heap)(H:Hp):List Addr:=(List.range h.objs.size).filter λa=>(H a).isSome
def hidT(h:Heap)(H:Hp):Heap:=PySem.W.hideAll h (trk h H)
theorem Am(h:Heap)(H:Hp):(hidT h H).objs.size=h.objs.size:=PySem.W.hideAll_size _ _
theorem BY{h:Heap}{H:Hp}{b:Addr}{o:Obj}(e:h.get? b=some o)(n:H b=none):(hidT h H).get? b=some o:=
 PySem.W.hideAll_get _ e λhm=>by
  have q:(H b).isSome=true:=(ZV.mp hm).2;rw[n] at q;simp at q
theorem DW{h:Heap}{H:Hp}{b:Addr}{o:Obj}(e:(hidT h H).get? b=some o):h.get? b=some o/\H b=none:=by
 have e':h.get? b=some o:=PySem.W.of_hideAll (trk h H) e;refine⟨e',?_⟩;cases q:H b with
 |none=>rfl
 |some x=>
  have hm:b∈trk h H:=ZV.mpr ⟨ZW.mpr (Ye e'),by simp[q]⟩;have z:(hidT h H).get? b=none:=PySem.W.hideAll_none (trk h H) hm;rw[z] at e;cases e
def DX(g h:Heap)(L:Addr):List (Addr×Obj):=(List.range h.objs.size).filterMap λa=>if a=L\/(g.get? a).isSome=true then none else(h.get? a).map λo=>(a,o)
def rest(g h:Heap)(L d:Addr):List (Addr×Obj):=(DX g h L).filter λp=>decide (p.1≠d)
structure Mod (K:Za) (mg:Ze) (base:Heap):Prop where
 kin:K.In base
 glob:base.Ns mainGlobals mg
 blt:∃mb,base.Ns builtinsNs mb/\∀x:Str,x ≠ "__name__"->mb x=bootBuiltins x
 nolimit:base.NoLimit
structure Cx where
 prog:Program
 w:World
 K:PySem.W.Frag
 mg:Str->Option Value
 base:Heap
 A:Around
 N:List Str
 s₀:Shared
 H₀:Hp
 env:Env
 outer:List Env
 stack:List Env
 ex:List Addr
 fn:Str->Bool
 calm:Bool
 pn:List (Addr×Obj)
 xe:Value->Shared->Prop
def frs(l:List Env):List Addr:=l.filterMap (·.frame)
abbrev Cx.fs(X:Cx):List Addr:=frs X.outer
def Vis(sc:Scope)(x:Str):Prop:=sc.names.lookup x=some .local \/ sc.names.lookup x=some .cell\/sc.names.lookup x=some .free
def Loc(sc:Scope)(x:Str):Prop:=sc.names.lookup x=some .local \/ sc.names.lookup x=some .cell
def Look(env:Env)(h:Heap)(m:Ze)(x:Str)(u:Value):Prop:=
 (env.kindOf x=some .local/\m x=some u)\/((env.kindOf x=some .cell\/env.kindOf x=some .free)/\∃c,env.cells.lookup x=some c/\h.IsCell c (some u))
structure Cx.Ok (X:Cx):Prop where
 mod:Mod X.K X.mg X.base
 kind:X.env.scope.kind=.function
 glob:X.env.globals=mainGlobals
 blt:X.env.builtins=builtinsNs
 above:X.s₀.heap.objs.size<=X.env.locals
 inj:∀x y c,X.env.cells.lookup x=some c->X.env.cells.lookup y=some c->x=y
 has:∀x,(X.env.kindOf x=some .cell\/X.env.kindOf x=some .free)->∃c,X.env.cells.lookup x=some c
 cab:∀x c,X.fn x=true->X.env.cells.lookup x=some c->X.s₀.heap.objs.size<=c
 hd:X.calm=true->X.A.handled=none
 frames:X.A.frames=some X.stack
 stk:X.stack=X.outer\/(X.stack=X.env::X.outer/\X.env.frame=some X.env.locals)
 exf:∀b∈X.ex,b≠X.env.locals/\∀x c,X.env.cells.lookup x=some c->c≠b
 bs:∀b o,X.base.get? b=some o->X.s₀.heap.get? b=some o/\X.H₀ b=none
 bsz:X.base.objs.size<=X.s₀.heap.objs.size
 noex:∀b o,X.base.get? b=some o->b∉X.ex
 exfs:∀b∈X.ex,b∉X.fs
 funs:X.s₀.heap.FunFrames X.base X.outer
 frf:∀b∈X.fs,X.H₀ b=none
structure Inv (X:Cx) (pins:Zc) (σ:List (Option V)) (H:Hp) (s:Shared):Prop where
 ok:X.Ok
 os:s.os=X.s₀.os
 bare:AllBare s.gens
 base:Un X.fs X.ex X.H₀ H X.s₀.heap s.heap
 loc:∃m,s.heap.Ns X.env.locals m/\∀(i:Nat) (x:Str) (v:V),X.N[i]?=some x->σ[i]?=some (some v)->Vis X.env.scope x->∃u,RelV v u/\Look X.env s.heap m x u
 cell:∀x c,X.env.cells.lookup x=some c->∃v,s.heap.IsCell c v
 free:H X.env.locals=none
 freeC:∀x c,X.env.cells.lookup x=some c->H c=none
 pin:∀p∈X.pn++pins,s.heap.get? p.1=some p.2/\H p.1=none/\p.1≠X.env.locals/\p.1∉X.fs/\∀v,p.2.data≠.cell v
 hok:HOk X.prog X.w H s.heap
 len:σ.length=X.N.length
section
variable {X:Cx}{pins:Zc}{σ:List (Option V)}{H H':Hp}{s:Shared}{h':Heap}
theorem Cx.Ok.nofr(ok:X.Ok){b:Addr}{o:Obj}(e:X.base.get? b=some o):b∉X.fs:=λhb=>by
 have:=(ok.funs.mem hb).1
 rw[e] at this;cases this
theorem Inv.bs(I:Inv X pins σ H s):∀b o,X.base.get? b=some o->s.heap.get? b=some o/\H b=none:=λb o e=>
 ⟨I.base.keep b o (I.ok.bs b o e).1 (I.ok.bs b o e).2 (I.ok.nofr e) (I.ok.noex b o e),I.base.free b o (I.ok.bs b o e).1 (I.ok.bs b o e).2 (I.ok.noex b o e)⟩
theorem Inv.bk(I:Inv X pins σ H s):∀b o,X.base.get? b=some o->s.heap.get? b=some o:=λb o e=>(I.bs b o e).1
theorem Inv.mod(I:Inv X pins σ H s):Mod X.K X.mg X.base:=I.ok.mod
theorem Inv.kIn(I:Inv X pins σ H s):X.K.In s.heap:=I.ok.mod.kin.keeps I.bk
theorem Inv.lt(I:Inv X pins σ H s):X.env.locals<s.heap.objs.size:=let⟨_,hn,_⟩:=I.loc;hn.lt
theorem Inv.sz(I:Inv X pins σ H s):X.s₀.heap.objs.size<=s.heap.objs.size:=ZX I.ok.above (Nat.le_of_lt I.lt)
theorem Inv.nofs(I:Inv X pins σ H s){a:Addr}(h:s.heap.objs.size<=a):a∉X.fs:=λhb=>by
 obtain⟨_,o,ho,_⟩:=I.ok.funs.mem hb;exact absurd (ZS (Ye ho) (ZX I.sz h)) (ZT _)
theorem Inv.cne(I:Inv X pins σ H s):∀x c,X.env.cells.lookup x=some c->c≠X.env.locals:=λx c e z=>by
 obtain⟨v,o,ho,hd⟩:=I.cell x c e;obtain⟨m,⟨o',es,ep,ho',hd',_⟩,_⟩:=I.loc;rw[z,ho'] at ho;cases ho;rw[hd'] at hd;cases hd
theorem Inv.funs(I:Inv X pins σ H s):s.heap.FunFrames X.base X.outer:=by
 have all:∀(l:List Env),(∀b∈frs l,b∈X.fs)->X.s₀.heap.FunFrames X.base l->s.heap.FunFrames X.base l:=by
  intro l;induction l with
  |nil=>intro _ _;trivial
  |cons env r ih=>
   intro hs hl;obtain⟨hk,⟨L,o,hf,hn,ho,hd⟩,hr⟩:=hl;have hL:L∈X.fs:=hs L (by unfold frs;rw[List.filterMap_cons,hf];exact ZY);obtain⟨sl,e⟩:=I.base.slot L o ho (I.ok.frf L hL) hL λz=>I.ok.exfs L z hL
   exact⟨hk,⟨L,_,hf,hn,e,hd⟩,ih (λb hb=>hs b (by unfold frs;rw[List.filterMap_cons,hf];exact ZZ _ hb)) hr⟩
 exact all X.outer (λ_ hb=>hb) I.ok.funs
theorem Inv.stack(I:Inv X pins σ H s):s.heap.FunFrames X.base X.stack:=by
 rcases I.ok.stk with e | ⟨e,hf⟩
 ·rw[e];exact I.funs
 ·rw[e]
  obtain⟨m,hn,_⟩:=I.loc;refine .cons (by rw[I.ok.kind];decide) hf hn ?_ I.funs;exact Heap.get?_none_of_le (ZX I.ok.bsz I.ok.above)
theorem Inv.stkSub(I:Inv X pins σ H s):∀b∈frs X.stack,b∈X.env.locals::X.fs:=λb hb=>by
 rcases I.ok.stk with e | ⟨e,hf⟩
 ·rw[e] at hb;exact ZZ _ hb
 ·rw[e] at hb
  unfold frs at hb;rw[List.filterMap_cons,hf] at hb;exact hb
theorem Inv.stkFree(I:Inv X pins σ H s):∀b∈frs X.stack,H b=none:=λb hb=>by
 rcases YA.mp (I.stkSub b hb) with e | hb
 ·rw[e];exact I.free
 ·obtain⟨_,o,ho,_⟩:=I.ok.funs.mem hb
  exact I.base.free b o ho (I.ok.frf b hb) λz=>I.ok.exfs b z hb
theorem Inv.step{g':Array GenState}{t':Nat}{d':Drawn}{ch:Zh}(I:Inv X pins σ H s)
  (hch:∀b∈ch,(b∈X.ex\/X.s₀.heap.objs.size<=b)/\b≠X.env.locals/\(∀x c,X.env.cells.lookup x=some c->c≠b)/\∀p∈X.pn++pins,p.1≠b)
  (keep:∀b o,b≠X.env.locals->b∉X.fs->b∉ch->s.heap.get? b=some o->H b=none->h'.get? b=some o)
  (slot:∀b o,b≠X.env.locals->b∈X.fs->b∉ch->s.heap.get? b=some o->H b=none->∃sl,h'.get? b=some { o with slots:=sl }) (free:∀b o,b∉ch->s.heap.get? b=some o->H b=none->H' b=none)
  (there:∀b o,b∉ch->s.heap.get? b=some o->∃o',h'.get? b=some o')
  (tups:∀b xs,H b=some (.tup xs)->H' b=some (.tup xs)) (frzs:∀b o u,H b=some (.frz o u)->H' b=some (.frz o u)) (tbls:∀b ps,H b=some (.tbl ps)->∃more,H' b=some (.tbl (ps++more)))
  (ns:∀m,s.heap.Ns X.env.locals m->h'.Ns X.env.locals m) (hok:HOk X.prog X.w H' h') (hg:AllBare g'):
  Inv X pins σ H' { s with heap:=h',gens:=g',drawn:=d',toks:=t' }:=by
 have neL:∀b o,X.s₀.heap.get? b=some o->b≠X.env.locals:=λb o e=>ZU (ZS (Ye e) I.ok.above)
 have neC:∀b o,X.s₀.heap.get? b=some o->b∉X.ex->b∉ch:=λb o e hx hb=>by
  rcases(hch b hb).1 with z | z
  ·exact hx z
  ·exact absurd (ZS (Ye e) z) (ZT _)
 have cellK:∀x c,X.env.cells.lookup x=some c->∀v,s.heap.IsCell c v->h'.IsCell c v:=λx c e v ⟨o,ho,hd⟩=>by
  have nch:c∉ch:=λz=>(hch c z).2.2.1 x c e rfl
  by_cases hc:c∈X.fs
  ·obtain⟨sl,q⟩:=slot c o (I.cne x c e) hc nch ho (I.freeC x c e)
   exact⟨_,q,hd⟩
  ·exact⟨o,keep c o (I.cne x c e) hc nch ho (I.freeC x c e),hd⟩
 refine⟨I.ok,I.os,hg,⟨λb o e n hb hx=>?_,λb o e n hb hx=>?_,λb o e n hx=>?_,λb o e hx=>?_,λb xs e=>tups b xs (I.base.tups b xs e),λb o xs e=>frzs b o xs (I.base.frzs b o xs e),λb ps e=>?_⟩,?_,λx c e=>?_,?_,λx c e=>?_,λp hp=>?_,hok,I.len⟩
 ·exact keep b o (neL b o e) hb (neC b o e hx) (I.base.keep b o e n hb hx) (I.base.free b o e n hx)
 ·obtain⟨sl,e1⟩:=I.base.slot b o e n hb hx
  obtain⟨sl',e2⟩:=slot b _ (neL b o e) hb (neC b o e hx) e1 (I.base.free b o e n hx);exact⟨sl',e2⟩
 ·obtain⟨o',e1⟩:=I.base.there b o e hx
  exact free b o' (neC b o e hx) e1 (I.base.free b o e n hx)
 ·obtain⟨o',e1⟩:=I.base.there b o e hx
  exact there b o' (neC b o e hx) e1
 ·obtain⟨m1,e1⟩:=I.base.tbls b ps e
  obtain⟨m2,e2⟩:=tbls b _ e1;exact⟨m1++m2,by rw[e2,Array.append_assoc]⟩
 ·obtain⟨m,hn,hl⟩:=I.loc
  refine⟨m,ns m hn,λi x v e1 e2 e3=>?_⟩;obtain⟨u,r,l⟩:=hl i x v e1 e2 e3;refine⟨u,r,?_⟩;rcases l with l | ⟨k,c,e,z⟩
  ·exact .inl l
  ·exact .inr ⟨k,c,e,cellK x c e _ z⟩
 ·obtain⟨v,z⟩:=I.cell x c e
  exact⟨v,cellK x c e v z⟩
 ·obtain⟨m,⟨o,_,_,ho,_⟩,_⟩:=I.loc
  exact free _ o (λz=>(hch _ z).2.1 rfl) ho I.free
 ·obtain⟨v,o,ho,hd⟩:=I.cell x c e
  exact free c o (λz=>(hch c z).2.2.1 x c e rfl) ho (I.freeC x c e)
 ·obtain⟨e,n,ne,nf,d⟩:=I.pin p hp
  have nch:p.1∉ch:=λz=>(hch p.1 z).2.2.2 p hp rfl
  exact⟨keep p.1 p.2 ne nf nch e n,free p.1 p.2 nch e n,ne,nf,d⟩
theorem Inv.un{t':Nat}(I:Inv X pins σ H s)(u:Un X.fs [] H H' s.heap h')(hok:HOk X.prog X.w H' h'):Inv X pins σ H' { s with heap:=h',toks:=t' }:=by
 obtain⟨m,⟨o,es,ep,ho,r⟩,_⟩:=id I.loc;obtain⟨sl,hL⟩:=u.any ho I.free (by simp);exact I.step (g':=s.gens) (d':=s.drawn) (ch:=[]) (λ_ z=>nomatch z) (λb o _ hb _ e n=>u.keep b o e n hb (by simp)) (λb o _ hb _ e n=>u.slot b o e n hb (by simp)) (λb o _ e n=>u.free b o e n (by simp)) (λb o _ e=>u.there b o e (by simp)) u.tups u.frzs u.tbls (λm' hm=>by
  obtain⟨o',es',ep',ho',r'⟩:=hm;rw[ho] at ho';cases ho';exact⟨_,es',ep',hL,r'⟩) hok I.bare
theorem Inv.call{g':Array GenState}{t':Nat}{d':Drawn}{ch:Zh}(I:Inv X pins σ H s)(u:Un (frs X.stack) ch H H' s.heap h')(hok:HOk X.prog X.w H' h')(hg:AllBare g')
  (hch:∀b∈ch,(b∈X.ex\/X.s₀.heap.objs.size<=b)/\b≠X.env.locals/\(∀x c,X.env.cells.lookup x=some c->c≠b)/\∀p∈X.pn++pins,p.1≠b):
  Inv X pins σ H' { s with heap:=h',gens:=g',drawn:=d',toks:=t' }:=by
 obtain⟨m,⟨o,es,ep,ho,r⟩,_⟩:=id I.loc;obtain⟨sl,hL⟩:=u.any ho I.free λz=>(hch _ z).2.1 rfl
 exact I.step (ch:=ch) hch (λb o hL hb hc e n=>u.keep b o e n (λz=>(YA.mp (I.stkSub b z)).elim hL hb) hc) (λb o _ _ hc e n=>u.any e n hc) (λb o hc e n=>u.free b o e n hc) (λb o hc e=>u.there b o e hc) u.tups u.frzs u.tbls (λm' hm=>by
  obtain⟨o',es',ep',ho',r'⟩:=hm;rw[ho] at ho';cases ho';exact⟨_,es',ep',hL,r'⟩) hok hg
theorem Inv.turned{t':Nat}{it:Addr}(I:Inv X pins σ H s)(k:∀b o,b≠it->s.heap.get? b=some o->h'.get? b=some o)(hn:H it=none)(hL:it≠X.env.locals)
  (h1:it∈X.ex\/X.s₀.heap.objs.size<=it) (h2:∀x c,X.env.cells.lookup x=some c->c≠it) (h3:∀p∈X.pn++pins,p.1≠it):Inv X pins σ H { s with heap:=h',toks:=t' }:=by
 have nit:∀b u,H b=some u->b≠it:=λb u e z=>by rw[z,hn] at e;cases e
 refine I.step (g':=s.gens) (d':=s.drawn) (ch:=[it]) (λb hb=>?_) (λb o _ _ hc e _=>k b o (λz=>hc (by simp[z])) e) (λb o _ _ hc e _=>⟨o.slots,k b o (λz=>hc (by simp[z])) e⟩) (λ_ _ _ _ n=>n)
  (λb o hc e=>⟨o,k b o (λz=>hc (by simp[z])) e⟩) (λ_ _ e=>e) (λ_ _ _ e=>e) (λb ps e=>⟨#[],by rw[e];simp⟩) (λm hm=>?_) (λb u e=>?_) I.bare
 ·have e:b=it:=by simpa using hb
  subst e;exact⟨h1,hL,h2,h3⟩
 ·obtain⟨o,es,ep,ho,r⟩:=hm
  exact⟨o,es,ep,k _ o (Ne.symm hL) ho,r⟩
 ·refine(I.hok b u e).stay (λc v hc q=>k c v ?_ q) (λ_ q=>q) λ_ _ q=>q
  rcases hc with z | z
  ·rw[z];exact nit b u e
  ·exact nit c _ z
theorem Inv.tok(I:Inv X pins σ H s)(t:Nat):Inv X pins σ H { s with toks:=t }:=I.un (h':=s.heap) (t':=t) Un.refl I.hok
theorem Inv.kept{t':Nat}(I:Inv X pins σ H s)(k:∀b u,s.heap.get? b=some u->h'.get? b=some u):Inv X pins σ H { s with heap:=h',toks:=t' }:=I.un (Un.kept k) (I.hok.kept k)
theorem Inv.laid{a:Addr}{o:HO}{t':Nat}(I:Inv X pins σ H s)(k:∀b u,s.heap.get? b=some u->h'.get? b=some u)(hp:s.heap.objs.size<=a)(new:aU X.prog X.w (upd H a o) h' a o):
  Inv X pins σ (upd H a o) { s with heap:=h',toks:=t' }:=I.un (Un.laid k hp (I.hok.fresh hp)) (I.hok.laid k hp new)
theorem Inv.write{x e:Addr}{o:HO}{t':Nat}(I:Inv X pins σ H s)(mu:Mut (H x))(he:e=x\/H e=some (.own x))(k:∀b u,b≠e->s.heap.get? b=some u->h'.get? b=some u)(heo:∃u,h'.get? e=some u)
  (new:aU X.prog X.w (upd H x o) h' x o):Inv X pins σ (upd H x o) { s with heap:=h',toks:=t' }:=I.un (Un.write mu he k heo) (I.hok.write mu he k heo new)
theorem Inv.pins_of{pins':Zc}(I:Inv X pins σ H s)(h:∀p∈pins',s.heap.get? p.1=some p.2/\H p.1=none/\p.1≠X.env.locals/\p.1∉X.fs/\∀v,p.2.data≠.cell v):Inv X pins' σ H s:=
 ⟨I.ok,I.os,I.bare,I.base,I.loc,I.cell,I.free,I.freeC,λp hp=>(YB.mp hp).elim (λz=>I.pin p (List.mem_append_left _ z)) (h p),I.hok,I.len⟩
theorem vP{N:Zf}(hN:N.Nodup){i j:Nat}{x:Str}(a:N[i]?=some x)(b:N[j]?=some x):i=j:=by
 obtain⟨h1,e1⟩:=YC.mp a;obtain⟨h2,e2⟩:=YC.mp b;exact(List.getElem_inj hN).mp (e1.trans e2.symm)
theorem uP{M:Model}{A:Around}{E:Zb}{i:Nat}{x:Str}{v:V}{u:Value}{Q:Zo}(I:Inv X pins σ H s)(hN:X.N.Nodup)(hi:X.N[i]?=some x)(hx:Loc X.env.scope x)(r:RelV v u)
  (h:∀s',Inv X pins (σ.set i (some v)) H s'->(∃a,Heap.SameBut a s.heap s'.heap/\(a=X.env.locals\/X.env.cells.lookup x=some a))->Q () s') (hf:X.fn x=true\/X.env.scope.names.lookup x=some .local:=by first | exact .inl rfl | exact .inr rfl | assumption):wpAny M A (storeName X.env x u) Q E s:=by
 obtain⟨m,hn,hl⟩:=id I.loc;have hcls:(X.env.scope.kind==.class||(X.env.scope.kind==.module&&X.env.locals != X.env.globals))=false:=by rw[I.ok.kind];rfl
 have hiσ:i<σ.length:=by rw[I.len];exact(YC.mp hi).1
 have cne:=I.cne;have tracked:∀{a:Addr}{h':Heap},(∃o,s.heap.get? a=some o/\H a=none)->Heap.SameBut a s.heap h'->HOk X.prog X.w H h':=λ{a h'} ha hs b ob e=>by
  obtain⟨_,_,hfree⟩:=ha;refine(I.hok b ob e).stay (λc w' hc q=>(hs.2 c ?_).trans q) (λ_ q=>q) λ_ _ q=>q
  rintro rfl;rcases hc with rfl | hc
  ·rw[hfree] at e;cases e
  ·rw[hfree] at hc;cases hc
 rcases hx with hk | hk
 ·refine wpAny_storeName_local hk hn (λh' hn' hs=>?_) hcls
  obtain⟨oL,_,_,hoL,_⟩:=id hn;refine h _ ⟨I.ok,I.os,I.bare,⟨λb o e n hb hx=>?_,λb o e n hb hx=>?_,I.base.free,λb o e hx=>?_,I.base.tups,I.base.frzs,I.base.tbls⟩,⟨_,hn',λj y v' e1 e2 e3=>?_⟩,λy c e=>?_,I.free,I.freeC,λp hp=>?_,tracked ⟨oL,hoL,I.free⟩ hs,by simpa using I.len⟩ ⟨_,hs,.inl rfl⟩
  ·exact(hs.2 b (ZU (ZS (Ye e) I.ok.above))).trans (I.base.keep b o e n hb hx)
  ·obtain⟨sl,e1⟩:=I.base.slot b o e n hb hx
   exact⟨sl,(hs.2 b (ZU (ZS (Ye e) I.ok.above))).trans e1⟩
  ·obtain⟨o',e1⟩:=I.base.there b o e hx
   exact⟨o',(hs.2 b (ZU (ZS (Ye e) I.ok.above))).trans e1⟩
  ·by_cases hj:j=i
   ·subst hj
    rw[hi] at e1;cases e1;rw[List.getElem?_set_self hiσ] at e2;cases e2;exact⟨u,r,.inl ⟨hk,by simp⟩⟩
   ·rw[List.getElem?_set_ne (Ne.symm hj)] at e2
    obtain⟨u',r',q⟩:=hl j y v' e1 e2 e3;refine⟨u',r',?_⟩;rcases q with⟨k,e⟩ | ⟨k,c,e,z⟩
    ·refine .inl ⟨k,?_⟩
     have:y≠x:=λe=>hj (vP hN e1 (e▸hi))
     simp[this,e]
    ·exact .inr ⟨k,c,e,z.sameBut hs (cne y c e)⟩
  ·obtain⟨w',z⟩:=I.cell y c e
   exact⟨w',z.sameBut hs (cne y c e)⟩
  ·obtain⟨e,n,ne,nf,d⟩:=I.pin p hp
   exact⟨(hs.2 p.1 ne).trans e,n,ne,nf,d⟩
 ·have hfn:X.fn x=true:=by
   rcases hf with z | z
   ·exact z
   ·rw[z] at hk;cases hk
  obtain⟨c,hc⟩:=I.ok.has x (.inl hk);obtain⟨w',z⟩:=I.cell x c hc;refine wpAny_storeName_cell I.ok.kind hk hc z (λh' hc' hs=>?_);obtain⟨oc,hoc,hocd⟩:=id z;refine h { s with heap:=h' } ⟨I.ok,I.os,I.bare,⟨λb o e n hb hx=>?_,λb o e n hb hx=>?_,I.base.free,λb o e hx=>?_,I.base.tups,I.base.frzs,I.base.tbls⟩,⟨m,hn.sameBut hs (Ne.symm (cne x c hc)),λj y v' e1 e2 e3=>?_⟩,λy c' e=>?_,I.free,I.freeC,λp hp=>?_,tracked ⟨oc,hoc,I.freeC x c hc⟩ hs,by simpa using I.len⟩ ⟨c,hs,.inr hc⟩
  ·exact(hs.2 b (ZU (ZS (Ye e) (I.ok.cab x c hfn hc)))).trans (I.base.keep b o e n hb hx)
  ·obtain⟨sl,e1⟩:=I.base.slot b o e n hb hx
   exact⟨sl,(hs.2 b (ZU (ZS (Ye e) (I.ok.cab x c hfn hc)))).trans e1⟩
  ·obtain⟨o',e1⟩:=I.base.there b o e hx
   exact⟨o',(hs.2 b (ZU (ZS (Ye e) (I.ok.cab x c hfn hc)))).trans e1⟩
  ·by_cases hj:j=i
   ·subst hj
    rw[hi] at e1;cases e1;rw[List.getElem?_set_self hiσ] at e2;cases e2;exact⟨u,r,.inr ⟨.inl hk,c,hc,hc'⟩⟩
   ·rw[List.getElem?_set_ne (Ne.symm hj)] at e2
    obtain⟨u',r',q⟩:=hl j y v' e1 e2 e3;refine⟨u',r',?_⟩;rcases q with q | ⟨k,c',e,z'⟩
    ·exact .inl q
    ·refine .inr ⟨k,c',e,z'.sameBut hs ?_⟩
     rintro rfl;exact hj (vP hN e1 (I.ok.inj _ _ _ e hc▸hi))
  ·by_cases hcc:c'=c
   ·subst hcc;exact⟨_,hc'⟩
   ·obtain⟨w2,z2⟩:=I.cell y c' e
    exact⟨w2,z2.sameBut hs hcc⟩
  ·obtain⟨e,n,ne,nf,d⟩:=I.pin p hp
   refine⟨(hs.2 p.1 ?_).trans e,n,ne,nf,d⟩;intro q;rw[q,hoc] at e;have q':oc=p.2:=Yi e;exact d w' (by rw[←q'];exact hocd)
theorem vQ{M:Model}{A:Around}{E:Zb}{i:Nat}{x:Str}{v:V}{u:Value}{Q:Zo}(I:Inv X pins σ H s)(hN:X.N.Nodup)(hi:X.N[i]?=some x)(hx:Loc X.env.scope x)(r:RelV v u)
  (h:∀s',Inv X pins (σ.set i (some v)) H s'->Q () s') (hf:X.fn x=true\/X.env.scope.names.lookup x=some .local:=by first | exact .inl rfl | exact .inr rfl | assumption):wpAny M A (storeName X.env x u) Q E s:=
 uP I hN hi hx r (λs' I' _=>h s' I') hf
theorem Inv.call'{s':Shared}{ch:Zh}(I:Inv X pins σ H s)(ho:s'.os=s.os)(u:Un (frs X.stack) ch H H' s.heap s'.heap)(hok:HOk X.prog X.w H' s'.heap)(hg:AllBare s'.gens)
  (hch:∀b∈ch,(b∈X.ex\/X.s₀.heap.objs.size<=b)/\b≠X.env.locals/\(∀x c,X.env.cells.lookup x=some c->c≠b)/\∀p∈X.pn++pins,p.1≠b):Inv X pins σ H' s':=by
 obtain⟨h',g',d',t',o'⟩:=s';have e:o'=s.os:=ho;subst e;exact I.call (g':=g') (t':=t') (d':=d') u hok hg hch
end
abbrev XK:=Value->Option Addr->Hp->Prop
abbrev St:=List (Option V)
abbrev VK:=V->Hp->Prop
abbrev TE:=St->Hp->VK->Prop
abbrev TT:=St->Hp->(Bool->Hp->Prop)->Prop
abbrev TA:=St->Hp->(List V->Hp->Prop)->Prop
structure Ends where
 nx:St->Hp->Prop
 rt:VK
 bk:St->Hp->Prop:=λ_ _=>False
 ct:St->Hp->Prop:=λ_ _=>False
abbrev TS:=Ends->St->Hp->Prop
def EP(X:Cx)(pins:Zc)(σ:St)(Q:VK)(u:Value)(s':Shared):Prop:=∃v H',Inv X pins σ H' s'/\RelV v u/\Q v H'
def TP(X:Cx)(pins:Zc)(σ:St)(Q:Bool->Hp->Prop)(b:Bool)(s':Shared):Prop:=∃H',Inv X pins σ H' s'/\Q b H'
def AP(X:Cx)(pins:Zc)(σ:St)(Q:List V->Hp->Prop)(us:Zd)(s':Shared):Prop:=∃vs H',Inv X pins σ H' s'/\Vals vs us/\Q vs H'
def SP(X:Cx)(pins:Zc)(D:Ends)(f:Flow)(s':Shared):Prop:=
 match f with
 |.next=>∃σ' H',Inv X pins σ' H' s'/\D.nx σ' H'
 |.brk=>∃σ' H',Inv X pins σ' H' s'/\D.bk σ' H'
 |.cont=>∃σ' H',Inv X pins σ' H' s'/\D.ct σ' H'
 |.ret u=>∃v σ' H',Inv X pins σ' H' s'/\RelV v u/\D.rt v H'
def PE(X:Cx)(e:Expr)(t:TE):Prop:=
 ∀(pins:Zc) (s:Shared) (σ:St) (H:Hp) (Q:VK),Inv X pins σ H s->t σ H Q->wpAny 'c' X.A (eval e X.env) (EP X pins σ Q) X.xe s
def PT(X:Cx)(e:Expr)(t:TT):Prop:=
 ∀(pins:Zc) (s:Shared) (σ:St) (H:Hp) (Q:Bool->Hp->Prop),Inv X pins σ H s->t σ H Q->wpAny 'c' X.A (isTrue e X.env (eval e X.env)) (TP X pins σ Q) X.xe s
def PW(X:Cx)(e:Expr)(t:TT):Prop:=
 ∀(whole:Sem Value) (pins:Zc) (s:Shared) (σ:St) (H:Hp) (Q:Bool->Hp->Prop),Inv X pins σ H s->t σ H Q->wpAny 'c' X.A (isTrue e X.env whole) (TP X pins σ Q) X.xe s
def PA(X:Cx)(es:Zg)(t:TA):Prop:=
 ∀(pos:Pos) (pins:Zc) (s:Shared) (σ:St) (H:Hp) (Q:List V->Hp->Prop),Inv X pins σ H s->t σ H Q->wpAny 'c' X.A (spliced (backTo pos (starEach es X.env))) (AP X pins σ Q) X.xe s
def PS(X:Cx)(st:Stmt)(t:TS):Prop:=
 ∀(pins:Zc) (s:Shared) (σ:St) (H:Hp) (D:Ends),Inv X pins σ H s->t D σ H->wpAny 'c' X.A (exec st X.env) (SP X pins D) X.xe s
def PSs(X:Cx)(st:Zu)(t:TS):Prop:=
 ∀(pins:Zc) (s:Shared) (σ:St) (H:Hp) (D:Ends),Inv X pins σ H s->t D σ H->wpAny 'c' X.A (execs st X.env) (SP X pins D) X.xe s
theorem thn{α:Type}{t:Sem α}{Q Q':α->Shared->Prop}{M:Model}{A:Around}{E:Zb}{s:Shared}(h:wpAny M A t Q E s)(hQ:∀a s,Q a s->Q' a s):wpAny M A t Q' E s:=wpAny_mono h hQ λ_ _ x=>x
section
variable {X:Cx}
theorem bin{a b:Expr}{ta tb:TE}(ha:PE X a ta)(hb:PE X b tb){pins:Zc}{s:Shared}{σ:St}{H:Hp}{R:V->V->Hp->Prop}(I:Inv X pins σ H s)(h:ta σ H λx H1=>tb σ H1 λy H2=>R x y H2)
  {α:Type}{Q:α->Shared->Prop}{f:Value->Value->Sem α}
  (hf:∀v u s2 x y H2,Inv X pins σ H2 s2->RelV x v->RelV y u->R x y H2->wpAny 'c' X.A (f v u) Q X.xe s2):
  wpAny 'c' X.A (eval a X.env) (λv s₁=>wpAny 'c' X.A (eval b X.env) (λu s₂=>wpAny 'c' X.A (f v u) Q X.xe s₂) X.xe s₁) X.xe s:=by
 refine thn (ha pins s σ H _ I h) λv s1 zz1=>?_
 obtain⟨x,H1,I1,r1,q1⟩:=zz1;refine thn (hb pins s1 σ H1 _ I1 q1) λu s2 zz2=>?_
 obtain⟨y,H2,I2,r2,q2⟩:=zz2;exact hf v u s2 x y H2 I2 r1 r2 q2
def tVar(i:Nat):TE:=λσ H Q=>∃v,σ[i]?=some (some v)/\Q v H
def tC(v:V):TE:=λ_ H Q=>Q v H
theorem FG{i:Nat}{x:Str}{pos:Pos}(hN:X.N[i]?=some x)(hv:Vis X.env.scope x)(hd:(x==("__debug__" : Str))=false:=by decide)(hcd:(x==("__classdict__" : Str))=false:=by decide):PE X (.Name x pos) (tVar i):=by
 intro pins s σ H Q I h;obtain⟨v,e,h⟩:=h;obtain⟨m,hn,hl⟩:=I.loc;obtain⟨u,r,l⟩:=hl i x v hN e hv;have fin:EP X pins σ Q u s:=⟨v,H,I,r,h⟩;rcases l with⟨hk,hm⟩ | ⟨hk,c,hc,hcell⟩
 ·exact wpAny_Name (wpAny_loadName_local I.ok.kind hk hn hm fin) hd
 ·rcases hk with hk | hk
  ·exact wpAny_Name (wpAny_loadName_cell I.ok.kind hk hc hcell fin) hd
  ·exact wpAny_Name (wpAny_loadName_free I.ok.kind hk hc hcell fin hcd) hd
theorem FH{i j pos}:PE X (.Constant (.int i) j pos) (tC (.int i)):=λ_ _ _ H _ I h=>wpAny_Constant_int ⟨.int i,H,I.tok _,⟨_,rfl⟩,h⟩
theorem Hu{b j pos}:PE X (.Constant (.bool b) j pos) (tC (.bl b)):=λ_ _ _ H _ I h=>Constant_bool ⟨.bl b,H,I,rfl,h⟩
theorem FI{j pos}:PE X (.Constant .none j pos) (tC .non):=λ_ _ _ H _ I h=>Constant_none ⟨.non,H,I,rfl,h⟩
theorem FJ{x j pos}:PE X (.Constant (.str x) j pos) (tC (.str x)):=λ_ _ _ H _ I h=>Calls.Constant_str ⟨.str x,H,I.tok _,⟨_,rfl⟩,h⟩
def Gl(X:Cx)(x:Str):Prop:=X.env.kindOf x=some .globalImplicit
theorem tZ{E:Zb}{pins:Zc}{s:Shared}{σ:St}{H:Hp}{x:Str}{u:Value}{pos:Pos}{Q:Zb}(I:Inv X pins σ H s)(hg:Gl X x)(hm:X.mg x=some u)(h:Q u s)
  (hd:(x==("__debug__" : Str))=false:=by decide):wpAny 'c' X.A (eval (.Name x pos) X.env) Q E s:=
 Calls.Name_function_global I.ok.kind hg (Calls.loadGlobal_global (by rw[I.ok.glob];exact I.mod.glob.keeps I.bk) hm h) hd
theorem cM{E:Zb}{pins:Zc}{s:Shared}{σ:St}{H:Hp}{x:Str}{u:Value}{pos:Pos}{Q:Zb}(I:Inv X pins σ H s)(hg:Gl X x)(hm:X.mg x=none)(hv:bootBuiltins x=some u)(h:Q u s)
  (hn:x ≠ "__name__":=by decide) (hd:(x==("__debug__" : Str))=false:=by decide):wpAny 'c' X.A (eval (.Name x pos) X.env) Q E s:=by
 obtain⟨mb,h1,h2⟩:=I.mod.blt;exact Calls.Name_function_global I.ok.kind hg (Calls.loadGlobal_builtin (by rw[I.ok.glob];exact I.mod.glob.keeps I.bk) hm (by rw[I.ok.blt];exact h1.keeps I.bk) ((h2 x hn).trans hv) h) hd
theorem DY{x:Str}{v:V}{u:Value}{pos:Pos}(hg:Gl X x)(hm:X.mg x=some u)(r:RelV v u)(hd:(x==("__debug__" : Str))=false:=by decide):PE X (.Name x pos) (tC v):=
 λ_ _ _ H _ I h=>tZ I hg hm ⟨v,H,I,r,h⟩ hd
theorem DZ{x:Str}{v:V}{u:Value}{pos:Pos}(hg:Gl X x)(hm:X.mg x=none)(hv:bootBuiltins x=some u)(r:RelV v u)(hn:x ≠ "__name__":=by decide)(hd:(x==("__debug__" : Str))=false:=by decide):PE X (.Name x pos) (tC v):=
 λ_ _ _ H _ I h=>cM I hg hm hv ⟨v,H,I,r,h⟩ hn hd
variable {a b:Expr}{ta tb:TE}{pos:Pos}
variable {tA tB':TT}{rest:Zg}
def tAnd(t u:TT):TT:=λσ H Q=>t σ H λc H1=>if c=true then u σ H1 Q else Q false H1
def tOr(t u:TT):TT:=λσ H Q=>t σ H λc H1=>if c=true then Q true H1 else u σ H1 Q
def tNot(t:TT):TT:=λσ H Q=>t σ H λc H1=>Q (!c) H1
theorem D1(ha:PT X a tA):PW X (.BoolOp .And [a] pos) tA:=by
 intro wh pins s σ H Q I h;refine isTrue_and (thn (ha pins s σ H Q I h) λc s1 e=>?_);cases c with
 |true=>exact isTrue_and_nil e
 |false=>exact e
theorem FK(ha:PT X a tA):PW X (.BoolOp .Or [a] pos) tA:=by
 intro wh pins s σ H Q I h;refine isTrue_or (thn (ha pins s σ H Q I h) λc s1 e=>?_);cases c with
 |false=>exact isTrue_or_nil e
 |true=>exact e
theorem FM(ha:PT X a tA)(hb:PW X (.BoolOp .And (b::rest) pos) tB'):PW X (.BoolOp .And (a::b::rest) pos) (tAnd tA tB'):=by
 intro wh pins s σ H Q I h;refine isTrue_and (thn (ha pins s σ H _ I h) λc s1 zz7=>?_);obtain⟨H1,I1,q1⟩:=zz7;cases c with
 |true=>exact hb wh pins s1 σ H1 Q I1 q1
 |false=>exact⟨H1,I1,q1⟩
theorem Hv(ha:PT X a tA)(hb:PW X (.BoolOp .Or (b::rest) pos) tB'):PW X (.BoolOp .Or (a::b::rest) pos) (tOr tA tB'):=by
 intro wh pins s σ H Q I h;refine isTrue_or (thn (ha pins s σ H _ I h) λc s1 zz8=>?_);obtain⟨H1,I1,q1⟩:=zz8;cases c with
 |true=>exact⟨H1,I1,q1⟩
 |false=>exact hb wh pins s1 σ H1 Q I1 q1
theorem FN(ha:PT X a tA):PT X (.UnaryOp .Not a pos) (tNot tA):=by
 intro pins s σ H Q I h;exact isTrue_not (ha pins s σ H (λc H1=>Q (!c) H1) I h)
def Hw(ta tb:TE):TE:=λσ H Q=>ta σ H λx H1=>∃c,x=.bl c/\if c=true then tb σ H1 Q else Q (.bl false) H1
def tOrV(ta tb:TE):TE:=λσ H Q=>ta σ H λx H1=>∃c,x=.bl c/\if c=true then Q (.bl true) H1 else tb σ H1 Q
def Hx(ta:TE):TE:=λσ H Q=>ta σ H λx H1=>∃c,x=.bl c/\Q (.bl (!c)) H1
theorem FO{op}{t:TE}(h:PE X a t):PE X (.BoolOp op [a] pos) t:=λpins s σ H Q I hw=>BoolOp_one (h pins s σ H Q I hw)
theorem FP(ha:PE X a ta)(hb:PE X (.BoolOp .And (b::rest) pos) tb):PE X (.BoolOp .And (a::b::rest) pos) (Hw ta tb):=by
 intro pins s σ H Q I h;refine BoolOp_and (thn (ha pins s σ H _ I h) λv s1 zz9=>?_);obtain⟨x,H1,I1,r1,q1⟩:=zz9;obtain⟨c,rfl,q1⟩:=q1;cases r1;refine wpAny_truthy_bool ?_;cases c with
 |true=>exact hb pins s1 σ H1 Q I1 q1
 |false=>exact⟨.bl false,H1,I1,rfl,q1⟩
theorem Hy(ha:PE X a ta)(hb:PE X (.BoolOp .Or (b::rest) pos) tb):PE X (.BoolOp .Or (a::b::rest) pos) (tOrV ta tb):=by
 intro pins s σ H Q I h;refine BoolOp_or (thn (ha pins s σ H _ I h) λv s1 zz10=>?_);obtain⟨x,H1,I1,r1,q1⟩:=zz10;obtain⟨c,rfl,q1⟩:=q1;cases r1;refine wpAny_truthy_bool ?_;cases c with
 |false=>exact hb pins s1 σ H1 Q I1 q1
 |true=>exact⟨.bl true,H1,I1,rfl,q1⟩
theorem FQ(ha:PE X a ta):PE X (.UnaryOp .Not a pos) (Hx ta):=by
 intro pins s σ H Q I h;refine UnaryOp_ (thn (ha pins s σ H _ I h) λv s1 zz11=>?_);obtain⟨x,H1,I1,r1,q1⟩:=zz11;obtain⟨c,rfl,q1⟩:=q1;cases r1;exact not_of (wpAny_truthy_bool ⟨.bl (!c),H1,I1,rfl,q1⟩)
def tIf(t:TT)(ta tb:TE):TE:=λσ H Q=>t σ H λc H1=>if c=true then ta σ H1 Q else tb σ H1 Q
theorem BZ{c:Expr}(hc:PT X c tA)(ha:PE X a ta)(hb:PE X b tb):PE X (.IfExp c a b pos) (tIf tA ta tb):=by
 intro pins s σ H Q I h;refine wpAny_IfExp (thn (hc pins s σ H _ I h) λd s1 zz12=>?_);obtain⟨H1,I1,q1⟩:=zz12;cases d with
 |true=>exact ha pins s1 σ H1 Q I1 q1
 |false=>exact hb pins s1 σ H1 Q I1 q1
end
def SqL(K:Za)(H:Hp)(a:Addr)(xs:List V):Prop:=
 Rd H a (.lst xs) \/
  ∃(o:Obj) (its:Zl) (n:Nat),K.lookup a=some o/\o.cls=.type "list"/\o.dict=none/\o.data=.seq its n/\its.size<=sizeLine/\Vals xs its.toList
def SqT(K:Za)(H:Hp)(a:Addr)(xs:List V):Prop:=
 Rd H a (.tup xs) \/
  ∃(o:Obj) (its:Zl) (n:Nat),K.lookup a=some o/\o.cls=.type "tuple"/\o.data=.seq its n/\its.size<=sizeLine/\Vals xs its.toList
def absV:Value->Option V
 |.none=>some .non
 |.bool b=>some (.bl b)
 |.int i _=>some (.int i)
 |.str x _=>some (.str x)
 |.bytes b _=>some (.byt b)
 |.float b _=>some (.flt b)
 |.ref a=>some (.ref a)
 |.type n=>some (.ty n)
 |_=>none
theorem RelV.abs{x:V}{u:Value}(r:RelV x u):absV u=some x:=by
 cases x with
 |non=>cases r;rfl
 |bl _=>cases r;rfl
 |int _=>obtain⟨t,rfl⟩:=r;rfl
 |str _=>obtain⟨t,rfl⟩:=r;rfl
 |byt _=>obtain⟨t,rfl⟩:=r;rfl
 |flt _=>obtain⟨t,rfl⟩:=r;rfl
 |ref _=>cases r;rfl
 |ty _=>cases r;rfl
theorem RelV.inj{x y:V}{u:Value}(r:RelV x u)(q:RelV y u):x=y:=Yi (r.abs.symm.trans q.abs)
theorem Vals.inj{xs ys:List V}{us:Zd}(h:Vals xs us)(h':Vals ys us):xs=ys:=by
 induction h generalizing ys with
 |nil=>cases h';rfl
 |cons r t ih=>cases h' with
  |cons r' t'=>rw[r.inj r',ih t']
section
variable {X:Cx}{pins:Zc}{σ:St}{H:Hp}{s:Shared}{a:Addr}{xs ys:List V}
theorem SqL.of{K:Za}(h:H a=some (.lst xs)):SqL K H a xs:=.inl (.inl h)
theorem SqT.of{K:Za}(h:H a=some (.tup xs)):SqT K H a xs:=.inl (.inl h)
theorem Inv.list(I:Inv X pins σ H s)(h:SqL X.K H a xs):∃its:List Value,Vals xs its/\PlainL s.heap a its.toArray/\xs.length<=sizeLine:=by
 rcases h with h | ⟨o,its,n,hk,hc,hd,hs,hz,r⟩
 ·obtain⟨z,its,n,r,e⟩:=h.ok I.hok
  exact⟨its,r,⟨_,n,e,rfl,rfl,rfl⟩,z⟩
 ·refine⟨its.toList,r,⟨o,n,I.kIn a o hk,hc,hd,by simpa using hs⟩,?_⟩
  have e:=r.length;simp only[Array.length_toList] at e;omega
theorem Inv.tuple(I:Inv X pins σ H s)(h:SqT X.K H a xs):∃its:List Value,Vals xs its/\IsTup s.heap a its.toArray/\xs.length<=sizeLine:=by
 rcases h with h | ⟨o,its,n,hk,hc,hs,hz,r⟩
 ·obtain⟨z,its,r,p⟩:=h.ok I.hok
  exact⟨its,r,p,z⟩
 ·refine⟨its.toList,r,⟨o,I.kIn a o hk,hc,n,by simpa using hs⟩,?_⟩
  have e:=r.length;simp only[Array.length_toList] at e;omega
theorem Inv.list_inj(I:Inv X pins σ H s)(h:SqL X.K H a xs)(h':SqL X.K H a ys):xs=ys:=by
 obtain⟨its,r,⟨o,n,e,_,_,d⟩,_⟩:=I.list h;obtain⟨its',r',⟨o',n',e',_,_,d'⟩,_⟩:=I.list h';rw[e] at e';cases e';rw[d] at d';injection d' with d1 _
 have:its=its':=by simpa using congrArg Array.toList d1
 subst this;exact r.inj r'
theorem Inv.tuple_inj(I:Inv X pins σ H s)(h:SqT X.K H a xs)(h':SqT X.K H a ys):xs=ys:=by
 obtain⟨its,r,⟨o,e,_,n,d⟩,_⟩:=I.tuple h;obtain⟨its',r',⟨o',e',_,n',d'⟩,_⟩:=I.tuple h';rw[e] at e';cases e';rw[d] at d';injection d' with d1 _
 have:its=its':=by simpa using congrArg Array.toList d1
 subst this;exact r.inj r'
end
abbrev Cx.wish(X:Cx)(E:Zb):Cx:={ X with xe:=E }
abbrev Cx.nox(X:Cx):Cx:=X.wish λ_ _=>False
theorem Cx.Ok.wish{X:Cx}(ok:X.Ok)(E:Zb):(X.wish E).Ok:=
 ⟨ok.mod,ok.kind,ok.glob,ok.blt,ok.above,ok.inj,ok.has,ok.cab,ok.hd,ok.frames,ok.stk,ok.exf,ok.bs,ok.bsz,ok.noex,ok.exfs,ok.funs,ok.frf⟩
theorem Cx.Ok.unwish{X:Cx}{E:Zb}(ok:(X.wish E).Ok):X.Ok:=
 ⟨ok.mod,ok.kind,ok.glob,ok.blt,ok.above,ok.inj,ok.has,ok.cab,ok.hd,ok.frames,ok.stk,ok.exf,ok.bs,ok.bsz,ok.noex,ok.exfs,ok.funs,ok.frf⟩
section
variable {X:Cx}{pins:Zc}{σ:St}{H:Hp}{s:Shared}{E:Zb}
theorem Inv.wish(I:Inv X pins σ H s)(E:Zb):Inv (X.wish E) pins σ H s:=⟨I.ok.wish E,I.os,I.bare,I.base,I.loc,I.cell,I.free,I.freeC,I.pin,I.hok,I.len⟩
theorem Inv.unwish(I:Inv (X.wish E) pins σ H s):Inv X pins σ H s:=⟨I.ok.unwish,I.os,I.bare,I.base,I.loc,I.cell,I.free,I.freeC,I.pin,I.hok,I.len⟩
theorem SP.unwish{D:Ends}{f:Flow}{s':Shared}(h:SP (X.wish E) pins D f s'):SP X pins D f s':=by
 cases f with
 |next=>obtain⟨σ',H',I,q⟩:=h;exact⟨σ',H',I.unwish,q⟩
 |brk=>obtain⟨σ',H',I,q⟩:=h;exact⟨σ',H',I.unwish,q⟩
 |cont=>obtain⟨σ',H',I,q⟩:=h;exact⟨σ',H',I.unwish,q⟩
 |ret u=>obtain⟨v,σ',H',I,r,q⟩:=h;exact⟨v,σ',H',I.unwish,r,q⟩
theorem PSs.nox{st:Zu}{t:TS}(h:PSs X.nox st t):PSs X st t:=λpins s σ H D I hw=>
 wpAny_mono (h pins s σ H D (I.wish _) hw) (λ_ _ q=>q.unwish) λ_ _ z=>Yh z
end
section
variable {X:Cx}{st:Stmt}{rest:Zu}{t u:TS}{e:Expr}{te:TE}{pos:Pos}
def Dz:TS:=λD σ H=>D.nx σ H
def tSeq(t u:TS):TS:=λD σ H=>t { D with nx:=u D } σ H
theorem D2:PSs X [] Dz:=λ_ _ σ H _ I h=>wpAny_execs_nil ⟨σ,H,I,h⟩
theorem B0(h1:PS X st t)(h2:PSs X rest u):PSs X (st::rest) (tSeq t u):=by
 intro pins s σ H D I h;refine wpAny_execs_cons (thn (h1 pins s σ H { D with nx:=u D } I h) λf s1 q=>?_);cases f with
 |next=>
  obtain⟨σ',H',I',q⟩:=q;exact h2 pins s1 σ' H' D I' q
 |ret v=>exact q
 |brk=>exact q
 |cont=>exact q
def FR:TS:=λD σ H=>D.bk σ H
theorem D4:PS X (.Pass pos) Dz:=λ_ _ σ H _ I h=>wpAny_Pass ⟨σ,H,I,h⟩
theorem Ca:PS X (.Break pos) FR:=λ_ _ σ H _ I h=>wpAny_Break ⟨σ,H,I,h⟩
theorem Inv.quiet{pins:Zc}{σ:St}{H:Hp}{s:Shared}(I:Inv X pins σ H s):interactive X.env=false:=by simp[interactive,I.ok.kind]
def Hz(te:TE):TS:=λD σ H=>te σ H λ_ H1=>D.nx σ H1
theorem D7(he:PE X e te)(hs:swapsWith e none pos.line X.env=pure false:=by rfl):PS X (.Expr e pos) (Hz te):=by
 intro pins s σ H D I h;refine wpAny_Expr_any (thn (he pins s σ H _ I h) λv s1 zz13=>?_) I.quiet hs;obtain⟨x,H1,I1,r1,q1⟩:=zz13;exact⟨σ,H1,I1,q1⟩
def tRet(te:TE):TS:=λD σ H=>te σ H D.rt
theorem FS(he:PE X e te):PS X (.Return (some e) pos) (tRet te):=by
 intro pins s σ H D I h;refine wpAny_Return_some (thn (he pins s σ H _ I h) λv s1 zz14=>?_);obtain⟨x,H1,I1,r1,q1⟩:=zz14;exact⟨x,σ,H1,I1,r1,q1⟩
def tIfS(c:TT)(t u:TS):TS:=λD σ H=>c σ H λb H1=>if b=true then t D σ H1 else u D σ H1
theorem HA{c:Expr}{a b:Zu}{tc:TT}(hc:PT X c tc)(ha:PSs X a t)(hb:PSs X b u):PS X (.If c a b pos) (tIfS tc t u):=by
 intro pins s σ H D I h;refine wpAny_If (thn (hc pins s σ H _ I h) λd s1 zz15=>?_);obtain⟨H1,I1,q1⟩:=zz15;cases d with
 |true=>exact ha pins s1 σ H1 D I1 q1
 |false=>exact hb pins s1 σ H1 D I1 q1
end
abbrev TG:=V->St->Hp->(St->Hp->Prop)->Prop
abbrev TGs:=List V->St->Hp->(St->Hp->Prop)->Prop
def PG(X:Cx)(target:Expr)(t:TG):Prop:=
 ∀(pins:Zc) (s:Shared) (σ:St) (H:Hp) (v:V) (u:Value) (Q:St->Hp->Prop),Inv X pins σ H s->RelV v u->t v σ H Q ->
  wpAny 'c' X.A (assign target X.env u) (λ_ s'=>∃σ' H',Inv X pins σ' H' s'/\Q σ' H') X.xe s
def PGs(X:Cx)(ts:Zg)(t:TGs):Prop:=
 ∀(pins:Zc) (s:Shared) (σ:St) (H:Hp) (vs:List V) (us:Zd) (Q:St->Hp->Prop),Inv X pins σ H s->Vals vs us->t vs σ H Q ->
  wpAny 'c' X.A (assignInOrder ((assignEach ts X.env).map (·.2)) us) (λ_ s'=>∃σ' H',Inv X pins σ' H' s'/\Q σ' H') X.xe s
abbrev TSet:=V->V->V->Hp->(Hp->Prop)->Prop
def PSet(X:Cx)(t:TSet):Prop:=
 ∀(pins:Zc) (s:Shared) (σ:St) (H:Hp) (o i v:V) (ov iv u:Value) (Q:Hp->Prop),Inv X pins σ H s->RelV o ov->RelV i iv->RelV v u->t o i v H Q ->
  wpAny 'c' X.A (setItem ov iv u) (λ_ s'=>∃H',Inv X pins σ H' s'/\Q H') X.xe s
section
variable {X:Cx}{pos:Pos}
def vE(i:Nat):TG:=λv σ H Q=>Q (σ.set i (some v)) H
theorem yn{i:Nat}{x:Str}(hN:X.N.Nodup)(hi:X.N[i]?=some x)(hx:Loc X.env.scope x)(hf:X.fn x=true\/X.env.scope.names.lookup x=some .local:=by first | exact .inl rfl | exact .inr rfl | assumption):PG X (.Name x pos) (vE i):=by
 intro pins s σ H v u Q I r h;exact wpAny_assign_Name (vQ I hN hi hx r (λs' I'=>⟨_,H,I',h⟩) hf)
def gNil:TGs:=λvs σ H Q=>vs=[]/\Q σ H
def DA(t:TG)(u:TGs):TGs:=λvs σ H Q=>∃v r,vs=v::r/\t v σ H λσ' H'=>u r σ' H' Q
theorem D8:PGs X [] gNil:=by
 intro pins s σ H vs us Q I r h;obtain⟨e,h⟩:=h;subst e;cases r;exact assignInOrder_nil ⟨σ,H,I,h⟩
theorem Cb{e:Expr}{es:Zg}{t:TG}{u:TGs}(h1:PG X e t)(h2:PGs X es u)
  (hs:(assignEach (e::es) X.env).map (·.2)=assign e X.env::(assignEach es X.env).map (·.2):=by rfl):PGs X (e::es) (DA t u):=by
 intro pins s σ H vs us Q I r h;obtain⟨v,vr,e1,h⟩:=h;subst e1;cases r with
 |cons r rr=>
  rw[hs];refine assignInOrder_cons (thn (h1 pins s σ H _ _ _ I r h) λ_ s1 zz16=>?_);obtain⟨σ1,H1,I1,q1⟩:=zz16;exact h2 pins s1 σ1 H1 _ _ Q I1 rr q1
def gTup(K:Za)(n:Nat)(t:TGs):TG:=λv σ H Q=>∃a xs,v=.ref a/\SqT K H a xs/\xs.length=n/\t xs σ H Q
theorem FT{es:Zg}{k:Nat}{t:TGs}{n:Nat}(hc:X.calm=true)(h:PGs X es t)
  (hn:(assignEach es X.env).length=n:=by rfl) (hst:(assignEach es X.env).findIdx? (·.1)=none:=by rfl):PG X (.Tuple es k pos) (gTup X.K n t):=by
 intro pins s σ H v u Q I r hw;obtain⟨a,xs,e1,hq,hl,hw⟩:=hw;subst e1;cases r;obtain⟨its,rv,ht,hz⟩:=I.tuple hq;refine assign_Tuple_tuple (I.ok.hd hc) ht (by simp[hn,←hl,rv.length]) hst λh' hx=>?_
 have I1:Inv X pins σ H { s with heap:=h' }:=I.kept (t':=s.toks) λb o e=>hx b o (ZU (Ye e)) e
 exact h pins _ σ H xs _ Q I1 (by simpa using rv) hw
def gSub(to ti:TE)(t:TSet):TG:=λv σ H Q=>to σ H λo H1=>ti σ H1 λi H2=>t o i v H2 λH3=>Q σ H3
theorem FU {o i:Expr} {to ti:TE} {t:TSet} (ho:PE X o to) (hi:PE X i ti) (hs:PSet X t)
    (ha:∀ v,assign (.Subscript o i pos) X.env v = (do
      let ov ← holding [v] (eval o X.env)
      let iv ← holding [v,ov] (eval i X.env)
      standAt pos
      holding [v,ov,iv] (setItem ov iv v)
      release [v,ov,iv] []):=by intro _; rfl):PG X (.Subscript o i pos) (gSub to ti t):=by
  intro pins s σ H v u Q I r h
  rw [ha]
  refine Yb (Yj (thn (ho pins s σ H _ I h) λov s1 zz17=>?_))
  obtain ⟨x,H1,I1,r1,q1⟩:=zz17
  refine Yb (Yj (thn (hi pins s1 σ H1 _ I1 q1) λiv s2 zz18=>?_))
  obtain ⟨y,H2,I2,r2,q2⟩:=zz18
  refine Yb (Yk (Yb (Yj (thn (hs pins s2 σ H2 x y v ov iv u _ I2 r1 r2 r q2) λ_ s3 zz19=>?_))))
  obtain ⟨H3,I3,q3⟩:=zz19
  exact wpAny_release ⟨σ,H3,I3,q3⟩
def tAsg(te:TE)(g:TG):TS:=λD σ H=>te σ H λx H1=>g x σ H1 D.nx
theorem An{tg e:Expr}{te:TE}{g:TG}(he:PE X e te)(hg:PG X tg g)(hs:swapsWithSole [tg] e pos.line X.env=pure false:=by rfl)(hw:swappedStores [tg] e X.env=pure none:=by rfl)
  (h1:(assignEach [tg] X.env).map (·.2)=[assign tg X.env]:=by rfl):PS X (.Assign [tg] e pos) (tAsg te g):=by
 intro pins s σ H D I h;refine wpAny_Assign_stores (thn (he pins s σ H _ I h) λv s1 zz20=>?_) hs hw;obtain⟨x,H1,I1,r1,q1⟩:=zz20;rw[h1];exact thn (hg pins s1 σ H1 x v _ I1 r1 q1) λ_ s2 q=>q
theorem FV{i:Nat}{x:Str}{e:Expr}{te:TE}{pos':Pos}(hN:X.N.Nodup)(hi:X.N[i]?=some x)(hx:Loc X.env.scope x)(he:PE X e te)(hs:swapsWith e (some (.Name x pos')) pos.line X.env=pure false:=by rfl)(hf:X.fn x=true\/X.env.scope.names.lookup x=some .local:=by first | exact .inl rfl | exact .inr rfl | assumption):
  PS X (.Assign [.Name x pos'] e pos) (tAsg te (vE i)):=by
 intro pins s σ H D I h;refine wpAny_Assign_Name (thn (he pins s σ H _ I h) λv s1 zz21=>?_) hs;obtain⟨y,H1,I1,r1,q1⟩:=zz21;exact vQ I1 hN hi hx r1 (λs2 I2=>⟨_,H1,I2,q1⟩) hf
end
section
variable {X:Cx}{pos:Pos}
def FW(c:TT)(tb:TS):TS:=λD σ H=>∃W:Nat->St->Hp->Prop,(∃m,W m σ H)/\∀m σ H,W m σ H ->
 c σ H λb H1=>if b=true then ∃N:St->Hp->Prop,(∀σ' H',N σ' H'->∃m',m'<m/\W m' σ' H')/\tb { D with nx:=N,ct:=N,bk:=D.nx } σ H1 else D.nx σ H1
theorem Cc{c:Expr}{body:Zu}{tc:TT}{tb:TS}(hp:PassesOwn 'c' X.A X.env X.xe)(hc:PT X c tc)(hb:PSs X body tb):PS X (.While c body [] pos) (FW tc tb):=by
 intro pins s σ H D I h;obtain⟨W,⟨m0,w0⟩,turn⟩:=h;refine wpAny_While (codeAny_whileLoop (λn s'=>∃σ' H',Inv X pins σ' H' s'/\W n σ' H') ?_ m0 ⟨σ,H,I,w0⟩);rintro n s1 ⟨σ1,H1,I1,w1⟩;refine wpAny_passesOwn hp (thn (hc pins s1 σ1 H1 _ I1 (turn n σ1 H1 w1)) λb s2 zz31=>?_);obtain⟨H2,I2,q2⟩:=zz31;cases b with
 |true=>
  obtain⟨N,hN,q2⟩:=q2;rw[if_pos rfl];refine wpAny_passesOwn hp (thn (hb pins s2 σ1 H2 _ I2 q2) λf s3 q3=>?_);cases f with
  |next=>
   obtain⟨σ3,H3,I3,n3⟩:=q3;obtain⟨m',hm,w3⟩:=hN σ3 H3 n3;exact⟨m',hm,σ3,H3,I3,w3⟩
  |cont=>
   obtain⟨σ3,H3,I3,n3⟩:=q3;obtain⟨m',hm,w3⟩:=hN σ3 H3 n3;exact⟨m',hm,σ3,H3,I3,w3⟩
  |brk=>exact q3
  |ret v=>exact q3
 |false=>
  rw[if_neg YD];exact wpAny_execs_nil ⟨σ1,H2,I2,q2⟩
end
structure It where
 go:Nat->Hp->Prop
 yld:Nat->Hp->V->Hp->Prop
 stop:Nat->Hp->Prop
def FpOk(X:Cx)(pins:Zc)(H:Hp)(b:Addr):Prop:=
 H b=none/\b≠X.env.locals/\b∉X.fs/\(b∈X.ex\/X.s₀.heap.objs.size<=b)/\(∀x c,X.env.cells.lookup x=some c->c≠b)/\∀p∈X.pn++pins,p.1≠b
theorem Inv.fpOk{X:Cx}{pins:Zc}{σ:St}{H H':Hp}{s:Shared}{b:Addr}(I:Inv X pins σ H s)(hb:s.heap.objs.size<=b)(hn:H' b=none):FpOk X pins H' b:=by
 refine⟨hn,Nat.ne_of_gt (ZS I.lt hb),I.nofs hb,.inr (ZX I.sz hb),λx c e z=>?_,λp hp z=>?_⟩
 ·obtain⟨v,q⟩:=I.cell x c e
  exact absurd (ZS q.lt (by rw[z];exact hb)) (ZT _)
 ·exact absurd (ZS (Ye (I.pin p hp).1) (by rw[z];exact hb)) (ZT _)
structure Turn (P:Zw) (w:World) (K:Za) (tg:Expr) (J:It) (fp:Zh) (it:Addr) (tn:Nat->Heap->Prop):Prop where
 mem:it∈fp
 obj:∀i h,tn i h->∀b∈fp,∃o,h.get? b=some o/\∀v,o.data≠.cell v
 keep:∀i h h',tn i h->(∀b∈fp,∀o,h.get? b=some o->h'.get? b=some o)->tn i h'
 item:∀(X:Cx),X.prog=P->X.w=w->X.K=K->X.calm=true->∀(i:Nat) (pins:Zc) (s:Shared) (σ:St) (H:Hp) (E:Zb),Inv X pins σ H s->(∀b∈fp,FpOk X pins H b)->tn i s.heap->J.go i H ->
  wpAny (model P w) X.A (pyNext (.ref it)) (λr s1=>∃u,r=some u /\
   wpAny (model P w) X.A (letOwnedTupleGo tg (.ref it) u) (λ_ s2=>∃x H',Inv X pins σ H' s2/\RelV x u/\J.yld i H x H'/\tn (i+1) s2.heap/\∀b∈fp,H' b=none) E s1) E s
 done:∀(X:Cx),X.prog=P->X.w=w->X.K=K->X.calm=true->∀(i:Nat) (pins:Zc) (s:Shared) (σ:St) (H:Hp) (E:Zb),Inv X pins σ H s->(∀b∈fp,FpOk X pins H b)->tn i s.heap->J.stop i H ->
  wpAny (model P w) X.A (pyNext (.ref it)) (λr s1=>r=none/\Inv X pins σ H s1) E s
 self:∀(A:Around) (i:Nat) (s:Shared) (Q:Zb) (E:Zb),tn i s.heap->Q (.ref it) s->wpAny (model P w) A (pyIter (.ref it)) Q E s
abbrev TI:=St->Hp->(It->Hp->Prop)->Prop
def PIE(X:Cx)(pins:Zc)(σ:St)(tg:Expr)(R:It->Hp->Prop)(itv:Value)(s2:Shared):Prop:=
 ∃(it:Addr) (fp:Zh) (tn:Nat->Heap->Prop) (J:It) (H':Hp),itv=.ref it/\Inv X pins σ H' s2/\Turn X.prog X.w X.K tg J fp it tn/\tn 0 s2.heap/\(∀b∈fp,FpOk X pins H' b)/\R J H'
def PI(X:Cx)(tg iter:Expr)(wi:TI):Prop:=
 ∀(pins:Zc) (s:Shared) (σ:St) (H:Hp) (R:It->Hp->Prop),Inv X pins σ H s->wi σ H R ->
  wpAny 'c' X.A (eval iter X.env) (λv s1=>wpAny 'c' X.A (pyIter v) (PIE X pins σ tg R) X.xe s1) X.xe s
theorem pZ {M:Model} {A:Around} {E:Zb} {s:Shared} {tg:Expr} {it:Addr} {u:Value} {o:Obj} {n:String} {vs:Zl} {Q:Zo} (ho:s.heap.get? it = some o) (hc:o.cls = .type n) (hd:o.data = .fields vs)
    (hn:["enumerate","zip","dict_itemiterator","dict_reverseitemiterator","odict_iterator","itertools.zip_longest","itertools.pairwise"].contains n = false) (hQ:Q () s):wpAny M A (letOwnedTupleGo tg (.ref it) u) Q E s:=by
  unfold letOwnedTupleGo
  cases tg <;> first
    | exact Yc hQ
    | (cases u <;> first
        | exact Yc hQ
        | (refine Yb (wpAny_load ho ?_)
           rw [hc,hd]
           show wpAny M A (if (["enumerate","zip","dict_itemiterator","dict_reverseitemiterator","odict_iterator","itertools.zip_longest","itertools.pairwise"].contains n && vs[0]? == some (rawInt _)) = true then _ else _) Q E s
           rw [if_neg (by intro h; rw [hn,Bool.false_and] at h; cases h)]
           exact Yc hQ))
def Itl(K:Za)(a:Addr):It:=
 ⟨λi H=>∃xs x,SqL K H a xs/\xs[i]?=some x,λi H x H'=>H'=H/\∀xs,SqL K H a xs->xs[i]?=some x,λi H=>∃xs,SqL K H a xs/\xs.length<=i⟩
def Itt(K:Za)(a:Addr):It:=
 ⟨λi H=>∃xs x,SqT K H a xs/\xs[i]?=some x,λi H x H'=>H'=H/\∀xs,SqT K H a xs->xs[i]?=some x,λi H=>∃xs,SqT K H a xs/\xs.length<=i⟩
def Itr(lo:Int)(n:Nat):It:=⟨λi _=>i<n,λi H x H'=>H'=H/\x=.int (lo+i),λi _=>n<=i⟩
theorem Ao{P:Zw}{w:World}{K:Za}{tg:Expr}(a it:Addr):Turn P w K tg (Itl K a) [it] it (λi h=>h.IsListIter it a i) where
 mem:=by simp
 obj:=λi h st b hb=>by
  have e:b=it:=by simpa using hb
  subst e;obtain⟨o,e,c,d⟩:=st;exact⟨o,e,λv z=>by rw[d] at z;cases z⟩
 keep:=λi h h' st k=>st.at λo e=>k it (by simp) o e
 item:=by
  rw[0];obtain⟨xs,x,hq,hx⟩:=hg;obtain⟨its,rv,p,hz⟩:=I.list hq;obtain⟨u,hu,ru⟩:=rv.get hx;obtain⟨f0,f1,f2,f3,f4,f5⟩:=hf it (by simp);refine wpAny_pyNext_list_item st p.isList (x:=u) (by simpa using hu) λh' st' sb=>?_
  have I1:Inv X pins σ H { s with heap:=h' }:=I.turned (t':=s.toks) (λb o hb e=>(sb.2 b hb).trans e) f0 f1 f3 f4 f5;obtain⟨o,e,c,d⟩:=id st';exact⟨u,rfl,pZ (s:={ s with heap:=h' }) e c d 'a' ⟨x,H,I1,ru,⟨rfl,λys hy=>by rw[I.list_inj hy hq];exact hx⟩,st',λb hb=>(hf b hb).1⟩⟩
 done:=by
  rw[0];obtain⟨xs,hq,hx⟩:=hg;obtain⟨its,rv,p,hz⟩:=I.list hq;obtain⟨f0,f1,f2,f3,f4,f5⟩:=hf it (by simp);have hl:=rv.length;exact wpAny_pyNext_list_end (I.ok.hd hc) st p.isList (by simp;omega) λh' eb=>⟨rfl,I.turned (t':=s.toks) (λb o hb e=>eb b o hb e) f0 f1 f3 f4 f5⟩
 self:=λ_ _ _ _ _ st h=>wpAny_pyIter_listiter st h
theorem y9{P:Zw}{w:World}{K:Za}{tg:Expr}(a it:Addr):Turn P w K tg (Itt K a) [it] it (λi h=>h.IsTupleIter it a i) where
 mem:=by simp
 obj:=λi h st b hb=>by
  have e:b=it:=by simpa using hb
  subst e;obtain⟨o,e,c,d⟩:=st;exact⟨o,e,λv z=>by rw[d] at z;cases z⟩
 keep:=λi h h' st k=>st.at λo e=>k it (by simp) o e
 item:=by
  rw[0];obtain⟨xs,x,hq,hx⟩:=hg;obtain⟨its,rv,p,hz⟩:=I.tuple hq;obtain⟨u,hu,ru⟩:=rv.get hx;obtain⟨f0,f1,f2,f3,f4,f5⟩:=hf it (by simp);refine wpAny_pyNext_tuple_item st (show s.heap.IsTuple a its.toArray from p) (x:=u) (by simpa using hu) λh' st' sb=>?_
  have I1:Inv X pins σ H { s with heap:=h' }:=I.turned (t':=s.toks) (λb o hb e=>(sb.2 b hb).trans e) f0 f1 f3 f4 f5;obtain⟨o,e,c,d⟩:=id st';exact⟨u,rfl,pZ (s:={ s with heap:=h' }) e c d 'a' ⟨x,H,I1,ru,⟨rfl,λys hy=>by rw[I.tuple_inj hy hq];exact hx⟩,st',λb hb=>(hf b hb).1⟩⟩
 done:=by
  rw[0];obtain⟨xs,hq,hx⟩:=hg;obtain⟨its,rv,p,hz⟩:=I.tuple hq;obtain⟨f0,f1,f2,f3,f4,f5⟩:=hf it (by simp);have hl:=rv.length;exact wpAny_pyNext_tuple_end (I.ok.hd hc) st (show s.heap.IsTuple a its.toArray from p) (by simp;omega) λh' eb=>⟨rfl,I.turned (t':=s.toks) (λb o hb e=>eb b o hb e) f0 f1 f3 f4 f5⟩
 self:=λ_ _ _ _ _ st h=>wpAny_pyIter_tupleiter st h
theorem za{P:Zw}{w:World}{K:Za}{tg:Expr}(it:Addr)(lo:Int)(n:Nat):Turn P w K tg (Itr lo n) [it] it (λi h=>IsRangeIter h it (lo+(i:Nat)*1) ((n:Int)-(i:Nat)) 1) where
 mem:=by simp
 obj:=λi h st b hb=>by
  have e:b=it:=by simpa using hb
  subst e;exact⟨_,st,λv z=>by
   have z':Data.fields _=Data.cell v:=z;cases z'⟩
 keep:=λi h h' st k=>k it (by simp) _ st
 item:=by
  rw[0];obtain⟨f0,f1,f2,f3,f4,f5⟩:=hf it (by simp);have W:=Walks.range (prog:=X.prog) (w:=X.w) (I.ok.hd hc) it lo 1 n;refine W.item i s _ _ hg st λv h' tk hv st' kk=>?_
  obtain⟨t,rfl⟩:=hv;have I1:Inv X pins σ H { s with heap:=h',toks:=tk }:=I.turned (λb o hb e=>kk b o (by simpa using hb) e) f0 f1 f3 f4 f5;refine⟨_,rfl,pZ (s:={ s with heap:=h',toks:=tk }) (n:="range_iterator") st' rfl rfl 'a' ⟨.int (lo+i),H,I1,⟨t,?_⟩,⟨rfl,rfl⟩,st',λb hb=>(hf b hb).1⟩⟩;rw[Int.mul_one]
 done:=by
  rw[0];obtain⟨f0,f1,f2,f3,f4,f5⟩:=hf it (by simp);exact wpAny_pyNext_range_end (I.ok.hd hc) st (by have:n<=i:=hg;omega) λh' eb=>⟨rfl,I.turned (t':=s.toks) (λb o hb e=>eb b o hb e) f0 f1 f3 f4 f5⟩
 self:=λ_ _ _ _ _ st h=>wpAny_pyIter_rangeiter st h
section
variable {X:Cx}{tg:Expr}
theorem vR{pins:Zc}{σ:St}{H:Hp}{s:Shared}{R:It->Hp->Prop}{E:Zb}{lo hi:Int}{t u v:Tok}{tk:Nat}(I:Inv X pins σ H s)(h1:-(2 ^ 62)<=lo)(h2:lo<2 ^ 62)(h3:-(2 ^ 62)<=hi)(h4:hi<2 ^ 62)
  (q:R (Itr lo (hi-lo).toNat) H):wpAny 'c' X.A (pyIter (.ref s.heap.objs.size)) (PIE X pins σ tg R) E { s with heap:=s.heap.push { cls:=.type "range",data:=.fields #[.int lo t,.int hi u,.int 1 v] },toks:=tk }:=by
 refine wpAny_pyIter_range (IsRange.new ..) (small_one h1 h2 h3 h4) ?_;have I1:Inv X pins σ H { s with heap:=s.heap.push { cls:=.type "range",data:=.fields #[.int lo t,.int hi u,.int 1 v] },toks:=tk }:=I.kept λb o e=>Yd _ e
 refine⟨(s.heap.push { cls:=.type "range",data:=.fields #[.int lo t,.int hi u,.int 1 v] }).objs.size,[(s.heap.push { cls:=.type "range",data:=.fields #[.int lo t,.int hi u,.int 1 v] }).objs.size],_,_,H,rfl,
  I1.kept (t':=tk) λb o e=>Yd _ e,za _ lo (hi-lo).toNat,?_,λb hb=>?_,q⟩
 ·have e1:lo+((0:Nat):Int)*1=lo:=by simp
  have e2:(((hi-lo).toNat:Nat):Int)-((0:Nat):Int)=Builtin.Range.rangeSize lo hi 1:=by rw[rangeSize_one];split<;>omega
  show IsRangeIter _ _ (lo+((0:Nat):Int)*1) ((((hi-lo).toNat:Nat):Int)-((0:Nat):Int)) 1;rw[e1,e2];exact Yg _ rfl
 ·have e:b=(s.heap.push { cls:=.type "range",data:=.fields #[.int lo t,.int hi u,.int 1 v] }).objs.size:=by simpa using hb
  subst e;exact I1.fpOk (YE _) (I1.hok.fresh (YE _))
def HB(ta:TA):TI:=λσ H R=>ta σ H λvs H1=>∃j:Int,vs=[.int j]/\-(2 ^ 62)<=j/\j<2 ^ 62/\R (Itr 0 j.toNat) H1
def HC(ta:TA):TI:=λσ H R=>ta σ H λvs H1=>∃i j:Int,vs=[.int i,.int j]/\(-(2 ^ 62)<=i/\i<2 ^ 62/\-(2 ^ 62)<=j/\j<2 ^ 62)/\R (Itr i (j-i).toNat) H1
theorem Ap{a:Expr}{ta:TA}{p pos:Pos}(hg:Gl X "range")(hm:X.mg "range" = none)(ha:PA X [a] ta)(hs:starEach [a] X.env=[(false,eval a X.env)]:=by rfl):PI X tg (.Call (.Name "range" p) [a] [] pos) (HB ta):=by
 intro pins s σ H R I h;refine Call_ (cM I hg hm boot_range (PyProof.Rows.callWith_type1 (thn (ha pos pins s σ H _ I h) λus s1 zz34=>?_) hs rfl));obtain⟨vs,H1,I1,r1,q1⟩:=zz34;obtain⟨j,e,q1,q2,q⟩:=q1;subst e;cases r1 with
 |cons r rr=>
  cases rr;obtain⟨t,rfl⟩:=r;exact call_range_1 (vR I1 'b' 'b' q1 q2 (by simpa using q))
theorem Aq{a b:Expr}{ta:TA}{p pos:Pos}(hg:Gl X "range")(hm:X.mg "range" = none)(ha:PA X [a,b] ta)(hs:starEach [a,b] X.env=[(false,eval a X.env),(false,eval b X.env)]:=by rfl)(hs2:starEach [b] X.env=[(false,eval b X.env)]:=by rfl):
  PI X tg (.Call (.Name "range" p) [a,b] [] pos) (HC ta):=by
 intro pins s σ H R I h;refine Call_ (cM I hg hm boot_range (PyProof.Rows.callWith_type1 (thn (ha pos pins s σ H _ I h) λus s1 zz35=>?_) (by rw[hs,hs2]) (by rw[hs2];rfl)));obtain⟨vs,H1,I1,r1,q1⟩:=zz35;obtain⟨i,j,e,⟨q1,q2,q3,q4⟩,q⟩:=q1;subst e;cases r1 with
 |cons r rr=>
  cases rr with
  |cons r' rr=>
   cases rr;obtain⟨t,rfl⟩:=r;obtain⟨t',rfl⟩:=r';exact call_range_2 (vR I1 q1 q2 q3 q4 q)
def tFor(wi:TI)(g:TG)(tb:TS):TS:=λD σ H=>wi σ H λJ H1=>∃W:Nat->Nat->St->Hp->Prop,(∃m,W 0 m σ H1)/\∀i m σ H,W i m σ H ->
 (J.stop i H/\D.nx σ H)\/(J.go i H/\∃N:St->Hp->Prop,(∀σ' H',N σ' H'->∃m',m'<m/\W (i+1) m' σ' H')/\∀x H',J.yld i H x H'->g x σ H' λσ2 H2=>tb { D with nx:=N,ct:=N,bk:=D.nx } σ2 H2)
def jk(fp:Zh)(h:Heap):List (Addr×Obj):=fp.filterMap λb=>(h.get? b).map λo=>(b,o)
theorem kf{fp:Zh}{h:Heap}{b:Addr}{o:Obj}(hb:b∈fp)(e:h.get? b=some o):(b,o)∈jk fp h:=List.mem_filterMap.mpr ⟨b,hb,by rw[e];rfl⟩
theorem uQ{fp:Zh}{h:Heap}{p:Addr×Obj}(hp:p∈jk fp h):p.1∈fp/\h.get? p.1=some p.2:=by
 obtain⟨b,hb,e⟩:=List.mem_filterMap.mp hp;cases q:h.get? b with
 |none=>rw[q] at e;cases e
 |some o=>
  rw[q] at e;have e':(b,o)=p:=Yi e;subst e';exact⟨hb,q⟩
theorem Inv.pinned{pins:Zc}{σ:St}{H:Hp}{s:Shared}{fp:Zh}(I:Inv X pins σ H s)(hf:∀b∈fp,FpOk X pins H b)(ho:∀b∈fp,∃o,s.heap.get? b=some o/\∀v,o.data≠.cell v):Inv X (pins++jk fp s.heap) σ H s:=
 I.pins_of λp hp=>(YB.mp hp).elim (λz=>I.pin p (YF _ z)) λz=>by
  obtain⟨hb,e⟩:=uQ z;obtain⟨f0,f1,f2,_⟩:=hf p.1 hb;obtain⟨o,e',d⟩:=ho p.1 hb;rw[e] at e';cases e';exact⟨e,f0,f1,f2,d⟩
theorem Inv.unpinned{pins pl:Zc}{σ:St}{H:Hp}{s:Shared}(I:Inv X (pins++pl) σ H s):Inv X pins σ H s:=I.pins_of λp hp=>I.pin p (YF _ (List.mem_append_left _ hp))
theorem FX{iter:Expr}{body:Zu}{wi:TI}{g:TG}{tb:TS}{pos:Pos}(hp:PassesOwn 'c' X.A X.env X.xe)(hc:X.calm=true)(hi:PI X tg iter wi)(hg:PG X tg g)(hb:PSs X body tb)
  (hs:∀x,foldedSetIterable iter X.env x=pure x:=by intro _;rfl):PS X (.For tg iter body [] pos) (tFor wi g tb):=by
 intro pins s σ H D I h;refine wpAny_For (thn (hi pins s σ H _ I h) λv s1 h1=>thn h1 λitv s2 h2=>?_) hs;obtain⟨it,fp,tn,J,H2,e,I2,T,st2,f2,W,⟨m0,w0⟩,turn⟩:=h2;subst e
 -- what stays true of the iterator's objects through the loop
 have stat:∀{H':Hp},(∀b∈fp,H' b=none)->∀b∈fp,FpOk X pins H' b:=λhn b hb=>⟨hn b hb,(f2 b hb).2⟩
 refine codeAny_forLoop_any (λn s'=>∃i σ' H',Inv X pins σ' H' s'/\tn i s'.heap/\(∀b∈fp,H' b=none)/\W i n σ' H') ?_ m0 ⟨0,σ,H2,I2,st2,λb hb=>(f2 b hb).1,w0⟩;rintro n s3 ⟨i,σ3,H3,I3,st3,fr3,w3⟩;rcases turn i n σ3 H3 w3 with⟨stop,qn⟩ | ⟨go,N,hN,step⟩
 ·refine wpAny_passesOwn hp (thn (T.done X rfl rfl rfl hc i pins s3 σ3 H3 X.xe I3 (stat fr3) st3 stop) λr s4 zz36=>?_)
  obtain⟨hr,I4⟩:=zz36;subst hr;exact wpAny_execs_nil ⟨σ3,H3,I4,qn⟩
 ·refine wpAny_passesOwn hp (thn (T.item X rfl rfl rfl hc i pins s3 σ3 H3 X.xe I3 (stat fr3) st3 go) λr s4 zz37=>?_)
  obtain⟨u,hr,h4⟩:=zz37;subst hr;refine wpAny_passesOwn hp (thn h4 λ_ s5 zz38=>?_);obtain⟨x,H5,I5,r5,y5,st5,fr5⟩:=zz38;have I5':=I5.pinned (stat fr5) (T.obj _ _ st5);refine wpAny_passesOwn hp (thn (hg _ s5 σ3 H5 x u _ I5' r5 (step x H5 y5)) λ_ s6 zz39=>?_);obtain⟨σ6,H6,I6,q6⟩:=zz39;refine wpAny_passesOwn hp (thn (hb _ s6 σ6 H6 _ I6 q6) λf s7 q7=>?_);have again:∀{σ7:St}{H7:Hp},Inv X (pins++jk fp s5.heap) σ7 H7 s7->N σ7 H7->∃m,m<n/\∃i σ' H',Inv X pins σ' H' s7/\tn i s7.heap/\(∀b∈fp,H' b=none)/\W i m σ' H':=λ{σ7 H7} I7 n7=>by
   obtain⟨m',hm,w7⟩:=hN σ7 H7 n7;refine⟨m',hm,i+1,σ7,H7,I7.unpinned,T.keep _ _ _ st5 λb hb o e=>(I7.pin (b,o) (YF _ (YF _ (kf hb e)))).1,λb hb=>?_,w7⟩;obtain⟨o,e,d⟩:=T.obj _ _ st5 b hb;exact(I7.pin (b,o) (YF _ (YF _ (kf hb e)))).2.1
  cases f with
  |next=>obtain⟨σ7,H7,I7,n7⟩:=q7;exact again I7 n7
  |cont=>obtain⟨σ7,H7,I7,n7⟩:=q7;exact again I7 n7
  |brk=>obtain⟨σ7,H7,I7,q7⟩:=q7;exact⟨σ7,H7,I7.unpinned,q7⟩
  |ret v=>obtain⟨x7,σ7,H7,I7,r7,q7⟩:=q7;exact⟨x7,σ7,H7,I7.unpinned,r7,q7⟩
end
abbrev R2:=V->V->Hp->VK->Prop
def OpR(X:Cx)(f:Zk)(r:R2):Prop:=
 ∀(pins:Zc) (s:Shared) (σ:St) (H:Hp) (x y:V) (v u:Value) (Q:VK),Inv X pins σ H s->RelV x v->RelV y u->r x y H Q ->
  wpAny 'c' X.A (f v u) (EP X pins σ Q) X.xe s
def UnR(X:Cx)(f:Value->Sem Value)(r:V->Hp->VK->Prop):Prop:=
 ∀(pins:Zc) (s:Shared) (σ:St) (H:Hp) (x:V) (v:Value) (Q:VK),Inv X pins σ H s->RelV x v->r x H Q ->
  wpAny 'c' X.A (f v) (EP X pins σ Q) X.xe s
def fI(X:Cx)(f:Value)(r:List V->Hp->VK->Prop):Prop:=
 ∀(pins:Zc) (s:Shared) (σ:St) (H:Hp) (xs:List V) (us:Zd) (Q:VK),Inv X pins σ H s->Vals xs us->r xs H Q ->
  wpAny 'c' X.A (call f us) (EP X pins σ Q) X.xe s
def TruR(X:Cx)(r:V->Hp->(Bool->Hp->Prop)->Prop):Prop:=
 ∀(pins:Zc) (s:Shared) (σ:St) (H:Hp) (x:V) (v:Value) (Q:Bool->Hp->Prop),Inv X pins σ H s->RelV x v->r x H Q ->
  wpAny 'c' X.A (truthy v) (TP X pins σ Q) X.xe s
def tOp(r:R2)(ta tb:TE):TE:=λσ H Q=>ta σ H λx H1=>tb σ H1 λy H2=>r x y H2 Q
def tUn(r:V->Hp->VK->Prop)(ta:TE):TE:=λσ H Q=>ta σ H λx H1=>r x H1 Q
def rI(C:Int->Int->Prop)(g:Int->Int->V):R2:=λx y H Q=>∃i j,x=.int i/\y=.int j/\C i j/\Q (g i j) H
def rI0(g:Int->Int->V):R2:=λx y H Q=>∃i j,x=.int i/\y=.int j/\Q (g i j) H
def rU(g:Int->V):V->Hp->VK->Prop:=λx H Q=>∃i,x=.int i/\Q (g i) H
section
variable {X:Cx}{a b c:Expr}{ta tb tc:TE}{pos:Pos}
theorem binT(ha:PE X a ta)(hb:PE X b tb){pins:Zc}{s:Shared}{σ:St}{H:Hp}{R:V->V->Hp->Prop}(I:Inv X pins σ H s)
  (h:ta σ H λx H1=>tb σ H1 λy H2=>R x y H2){Q:Zb}{f:Zk}
  (hf:∀v u s2 x y H2,Inv X pins σ H2 s2->RelV x v->RelV y u->R x y H2->wpAny 'c' X.A (f v u) Q X.xe s2):
  wpAny 'c' X.A (eval a X.env) (λv s₁=>wpAny 'c' X.A (eval b X.env) (λu s₂=>wpAny 'c' X.A (f v u) Q X.xe s₂) X.xe s₁) X.xe s:=by
 refine thn (ha pins s σ H _ I h) λv s1 zz40=>?_
 obtain⟨x,H1,I1,r1,q1⟩:=zz40;refine thn (hb pins s1 σ H1 _ I1 q1) λu s2 zz41=>?_
 obtain⟨y,H2,I2,r2,q2⟩:=zz41;exact hf v u s2 x y H2 I2 r1 r2 q2
theorem HD{op:Operator}{r:R2}(ho:OpR X (binaryOp op) r)(ha:PE X a ta)(hb:PE X b tb):PE X (.BinOp a op b pos) (tOp r ta tb):=by
 intro pins s σ H Q I h;exact wpAny_BinOp (binT ha hb I h λv u s2 x y H2 I2 rx ry q=>ho pins s2 σ H2 x y v u Q I2 rx ry q)
theorem DB{op:UnaryOp}{r:V->Hp->VK->Prop}(ho:UnR X (unaryOp op) r)(ha:PE X a ta):PE X (.UnaryOp op a pos) (tUn r ta):=by
 intro pins s σ H Q I h;refine UnaryOp_ (thn (ha pins s σ H _ I h) λv s1 zz42=>?_);obtain⟨x,H1,I1,r1,q1⟩:=zz42;exact ho pins s1 σ H1 x v Q I1 r1 q1
theorem opI{f:Zk}{C:Int->Int->Prop}{g:Int->Int->Int}
  (rule:∀(i j:Int) (t u:Tok) (s:Shared) (Q:Zb) (E:Zb),C i j->Q (.int (g i j) s.toks) { s with toks:=s.toks+1 }->wpAny 'c' X.A (f (.int i t) (.int j u)) Q E s):
  OpR X f (rI C λi j=>.int (g i j)):=by
 intro pins s σ H x y v u Q I rx ry h;obtain⟨i,j,rfl,rfl,hc,q⟩:=h;obtain⟨t,rfl⟩:=rx;obtain⟨t',rfl⟩:=ry;exact rule i j t t' s _ _ hc ⟨.int (g i j),H,I.tok _,⟨_,rfl⟩,q⟩
theorem opI0{f:Zk}{g:Int->Int->Int}
  (rule:∀(i j:Int) (t u:Tok) (s:Shared) (Q:Zb) (E:Zb),Q (.int (g i j) s.toks) { s with toks:=s.toks+1 }->wpAny 'c' X.A (f (.int i t) (.int j u)) Q E s):
  OpR X f (rI0 λi j=>.int (g i j)):=by
 intro pins s σ H x y v u Q I rx ry h;obtain⟨i,j,rfl,rfl,q⟩:=h;obtain⟨t,rfl⟩:=rx;obtain⟨t',rfl⟩:=ry;exact rule i j t t' s _ _ ⟨.int (g i j),H,I.tok _,⟨_,rfl⟩,q⟩
theorem opB0{f:Zk}{g:Int->Int->Bool}
  (rule:∀(i j:Int) (t u:Tok) (s:Shared) (Q:Zb) (E:Zb),Q (.bool (g i j)) s->wpAny 'c' X.A (f (.int i t) (.int j u)) Q E s):
  OpR X f (rI0 λi j=>.bl (g i j)):=by
 intro pins s σ H x y v u Q I rx ry h;obtain⟨i,j,rfl,rfl,q⟩:=h;obtain⟨t,rfl⟩:=rx;obtain⟨t',rfl⟩:=ry;exact rule i j t t' s _ _ ⟨.bl (g i j),H,I,rfl,q⟩
def CDiv(i j:Int):Prop:=0<j/\j<1073741824
def CPow(i j:Int):Prop:=0<=j/\j<=1000000/\i.natAbs<2 ^ 64
def CMul(i j:Int):Prop:=(-(2 ^ 64)<i/\i<2 ^ 64)\/(-(2 ^ 64)<j/\j<2 ^ 64)
theorem CMul.ok{i j:Int}(h:CMul i j):IntMulOk i j:=by
 rcases h with⟨h1,h2⟩ | ⟨h1,h2⟩
 ·exact .of_left (intBits_le_64 h1 h2)
 ·exact .of_right (intBits_le_64 h1 h2)
theorem zb(k:Nat):(0:Int)<=2 ^ k:=by
 rw[two_pow_cast];exact Int.natCast_nonneg _
theorem FY:OpR X (binaryOp .Add) (rI0 λi j=>.int (i+j)):=opI0 λ_ _ _ _ _ _ _ q=>add_int q
theorem FZ:OpR X (binaryOp .Sub) (rI0 λi j=>.int (i-j)):=opI0 λ_ _ _ _ _ _ _ q=>sub_int q
theorem F1:OpR X (binaryOp .Mult) (rI CMul λi j=>.int (i*j)):=opI λ_ _ _ _ _ _ _ hc q=>mul_int q hc.ok
theorem D9:OpR X (binaryOp .FloorDiv) (rI CDiv λi j=>.int (i / j)):=opI λi j _ _ _ _ _ hc q=>by
 have h1:(0:Int)<j:=hc.1;have h2:j<1073741824:=hc.2;exact floordiv_int 'b' (by rw[Int.fdiv_eq_ediv_of_nonneg i 'b'];exact q) (.inl (PyProof.noPylong_small 'b'))
theorem F2:OpR X (binaryOp .Mod) (rI (λ_ j=>0<j) λi j=>.int (i%j)):=opI λi j _ _ _ _ _ hc q=>by
 have h1:(0:Int)<j:=hc;exact mod_int' 'b' (by rw[Int.fmod_eq_emod_of_nonneg i 'b'];exact q)
theorem F3:OpR X (binaryOp .Pow) (rI CPow λi j=>.int (i ^ j.toNat)):=opI λ_ _ _ _ _ _ _ hc q=>pow_int_small hc.1 hc.2.1 hc.2.2 q
theorem F5:OpR X (binaryOp .LShift) (rI CPow λi j=>.int (i*2 ^ j.toNat)):=opI λ_ _ _ _ _ _ _ hc q=>lshift_int_small hc.1 hc.2.1 hc.2.2 q
theorem F8:OpR X (binaryOp .RShift) (rI (λ_ j=>0<=j) λi j=>.int (i / 2 ^ j.toNat)):=opI λi j _ _ _ _ _ hc q=>
 rshift_int hc (by rw[Int.fdiv_eq_ediv_of_nonneg i (zb _)];exact q)
theorem F9:OpR X (binaryOp .BitAnd) (rI0 λi j=>.int (Builtin.bitAnd i j)):=opI0 λ_ _ _ _ _ _ _ q=>and_int q
theorem HE:OpR X (binaryOp .BitOr) (rI0 λi j=>.int (Builtin.bitOr i j)):=opI0 λ_ _ _ _ _ _ _ q=>or_int q
theorem Ga:OpR X (binaryOp .BitXor) (rI0 λi j=>.int (Builtin.bitXor i j)):=opI0 λ_ _ _ _ _ _ _ q=>xor_int q
theorem unI{f:Value->Sem Value}{g:Int->Int}
  (rule:∀(i:Int) (t:Tok) (s:Shared) (Q:Zb) (E:Zb),Q (.int (g i) s.toks) { s with toks:=s.toks+1 }->wpAny 'c' X.A (f (.int i t)) Q E s):
  UnR X f (rU λi=>.int (g i)):=by
 intro pins s σ H x v Q I rx h;obtain⟨i,rfl,q⟩:=h;obtain⟨t,rfl⟩:=rx;exact rule i t s _ _ ⟨.int (g i),H,I.tok _,⟨_,rfl⟩,q⟩
theorem Gb:UnR X (unaryOp .USub) (rU λi=>.int (-i)):=unI λ_ _ _ _ _ q=>neg_int q
theorem Gc:UnR X (unaryOp .Invert) (rU λi=>.int (Builtin.bitNot i)):=unI λ_ _ _ _ _ q=>invert_int q
end
section
variable {X:Cx}{a b c:Expr}{ta tb tc:TE}{pos:Pos}
theorem Ar{pins:Zc}{σ:St}{H:Hp}{s:Shared}{Q:VK}{k k':Bool}(I:Inv X pins σ H s)(q:Q (.bl k) H)(e:k=k'):EP X pins σ Q (.bool k') s:=by
 subst e;exact⟨.bl k,H,I,rfl,q⟩
theorem HF:OpR X (compareOp .Lt) (rI0 λi j=>.bl (decide (i<j))):=opB0 λ_ _ _ _ _ _ _ q=>lt_int q
theorem HG:OpR X (compareOp .LtE) (rI0 λi j=>.bl (decide (i<=j))):=opB0 λ_ _ _ _ _ _ _ q=>le_int q
theorem HH:OpR X (compareOp .Gt) (rI0 λi j=>.bl (decide (j<i))):=opB0 λ_ _ _ _ _ _ _ q=>gt_int q
theorem HI:OpR X (compareOp .GtE) (rI0 λi j=>.bl (decide (j<=i))):=opB0 λ_ _ _ _ _ _ _ q=>ge_int q
theorem Gd:OpR X (compareOp .Is) (λx y H Q=>y=.non/\Q (.bl (decide (x=.non))) H):=by
 intro pins s σ H x y v u Q I rx ry h;obtain⟨rfl,q⟩:=h;cases ry;refine is_none_gen (Ar I q ?_);cases x<;>first
  |(cases rx;rfl)
  |(obtain⟨t,rfl⟩:=rx;rfl)
theorem Ea:OpR X (compareOp .IsNot) (λx y H Q=>y=.non/\Q (.bl (!decide (x=.non))) H):=by
 intro pins s σ H x y v u Q I rx ry h;obtain⟨rfl,q⟩:=h;cases ry;refine isnot_none_gen (Ar I q ?_);cases x<;>first
  |(cases rx;rfl)
  |(obtain⟨t,rfl⟩:=rx;rfl)
theorem Eb{op:CmpOp}{r:R2}(ho:OpR X (compareOp op) r)(ha:PE X a ta)(hb:PE X b tb)(hm:behindInMarks op b=false):PE X (.Compare a [op] [b] pos) (tOp r ta tb):=by
 intro pins s σ H Q I h;exact wpAny_Compare1 (binT ha hb I h λv u s2 x y H2 I2 rx ry q=>ho pins s2 σ H2 x y v u Q I2 rx ry q) hm
def HJ(t:TE):TT:=λσ H Q=>t σ H λx H'=>∃k,x=.bl k/\Q k H'
theorem Ec{op:CmpOp}{r:R2}(ho:OpR X (compareOp op) r)(ha:PE X a ta)(hb:PE X b tb)(hm:behindInMarks op b=false):PT X (.Compare a [op] [b] pos) (HJ (tOp r ta tb)):=by
 intro pins s σ H Q I h;refine wpAny_isTrue_Compare1 (thn (ha pins s σ H _ I h) λv s1 ⟨x,H1,I1,r1,q1⟩=>thn (hb pins s1 σ H1 _ I1 q1) λu s2 ⟨y,H2,I2,r2,q2⟩=>
  thn (ho pins s2 σ H2 x y v u _ I2 r1 r2 q2) λc s3 ⟨z,H3,I3,r3,k,e,q3⟩=>?_) hm
 subst e;cases r3;exact wpAny_truthy_bool ⟨H3,I3,q3⟩
def TruV(K:Za)(x:V)(H:Hp)(k:Bool):Prop:=
 match x with
 |.non=>k=false
 |.bl b=>k=b
 |.int i=>k=(i != 0)
 |.str y=>y.length<=sizeLine/\k=((y.length:Int) != 0)
 |.byt y=>y.size<=sizeLine/\k=((y.size:Int) != 0)
 |.ref p=>(∃xs,SqL K H p xs/\k = !xs.isEmpty)\/(∃xs,SqT K H p xs/\k = !xs.isEmpty) \/ ∃kvs,H p=some (.dK kvs)/\k = !kvs.isEmpty
 |_=>False
theorem zc{κ:Type}{kvs:List (κ×V)}{vs:List (κ×Value)}(r:KV kvs vs):(!vs.isEmpty) = !kvs.isEmpty:=by
 cases r<;>rfl
theorem rS{xs:List V}{its:Zd}(r:Vals xs its):(!its.toArray.isEmpty) = !xs.isEmpty:=by
 cases r<;>simp
theorem kz:(sizeLine:Nat)<2 ^ 63:=by rw[sizeLine_eq];decide
theorem Ge:TruR X (λx H Q=>∃k,TruV X.K x H k/\Q k H):=by
 intro pins s σ H x v Q I rx h;obtain⟨k,e,q⟩:=h;have hl:=kz;have hs:sizeLine=16777216:=sizeLine_eq;cases x with
 |non=>
  cases rx;have e':k=false:=e;subst e';exact truthy_none ⟨H,I,q⟩
 |bl b=>
  cases rx;have e':k=b:=e;subst e';exact wpAny_truthy_bool ⟨H,I,q⟩
 |int i=>
  obtain⟨t,rfl⟩:=rx;have e':k=(i != 0):=e;subst e';exact PySem.P.truthy_int ⟨H,I,q⟩
 |str y=>
  obtain⟨t,rfl⟩:=rx;obtain⟨hy,e'⟩:y.length<=sizeLine/\k=((y.length:Int) != 0):=e;subst e';exact PySem.P.truthy_str 'b' ⟨H,I.tok _,q⟩
 |byt y=>
  obtain⟨t,rfl⟩:=rx;obtain⟨hy,e'⟩:y.size<=sizeLine/\k=((y.size:Int) != 0):=e;subst e';exact PySem.W.truthy_bytes 'b' ⟨H,I.tok _,q⟩
 |ref p=>
  cases rx;have e':(∃xs,SqL X.K H p xs/\k = !xs.isEmpty)\/(∃xs,SqT X.K H p xs/\k = !xs.isEmpty) \/ ∃kvs,H p=some (.dK kvs)/\k = !kvs.isEmpty:=e;rcases e' with⟨xs,hx,e'⟩ | ⟨xs,hx,e'⟩ | ⟨kvs,hx,e'⟩
  ·subst e'
   obtain⟨its,r,pl,hz⟩:=I.list hx;have hlen:=r.length;exact wpAny_truthy_list pl.isList (by simp only[YG];omega) ⟨H,I.tok _,by rw[rS r];exact q⟩
  ·subst e'
   obtain⟨its,r,pl,hz⟩:=I.tuple hx;have hlen:=r.length;exact truthy_tuple pl (by simp only[YG];omega) ⟨H,I.tok _,by rw[rS r];exact q⟩
  ·subst e'
   obtain⟨hz,hS,vs,r,m⟩:kvs.length<=sizeLine/\(p==sysModules)=false/\∃vs,KV kvs vs/\s.heap.DictOf (bn X.prog X.w) p vs:=I.hok p _ hx;have hlen:kvs.length=vs.length:=Paired.length r;exact wpAny_truthy_dict hS m 'b' ⟨H,I.tok _,by rw[zc r];exact q⟩
 |_=>exact(show False from e).elim
theorem Cd(ha:PE X a ta)(he:∀whole,isTrue a X.env whole=(do let v ←whole;standAt a.pos;holding [v] (truthy v))):
  PT X a (λσ H Q=>ta σ H λx H'=>∃k,TruV X.K x H' k/\Q k H'):=by
 intro pins s σ H Q I h;refine isTrue_plain (thn (ha pins s σ H _ I h) λv s1 zz45=>?_) (he _);obtain⟨x,H1,I1,r1,q1⟩:=zz45;exact Ge pins s1 σ H1 x v Q I1 r1 q1
theorem zd:OpR X (binaryOp .Add) (λx y H Q=>∃i j,x=.str i/\y=.str j/\i.length+j.length<=sizeLine/\Q (.str (i++j)) H):=by
 intro pins s σ H x y v u Q I rx ry h;obtain⟨i,j,rfl,rfl,hz,q⟩:=h;obtain⟨t,rfl⟩:=rx;obtain⟨t',rfl⟩:=ry;exact add_str (λt' tk=>⟨.str (i++j),H,I.tok _,⟨_,rfl⟩,q⟩) hz
theorem vals1{x:V}{us:Zd}(r:Vals [x] us):∃u,us=[u]/\RelV x u:=by
 cases r with
 |cons r1 r2=>cases r2;exact⟨_,rfl,r1⟩
theorem vals2{x y:V}{us:Zd}(r:Vals [x,y] us):∃u w',us=[u,w']/\RelV x u/\RelV y w':=by
 cases r with
 |cons r1 r2=>
  cases r2 with
  |cons r3 r4=>cases r4;exact⟨_,_,rfl,r1,r3⟩
theorem As(hc:X.calm=true):fI X (.builtin "min") (λxs H Q=>∃i j,xs=[.int i,.int j]/\Q (.int (if j<i then j else i)) H):=by
 intro pins s σ H xs us Q I r h;obtain⟨i,j,rfl,q⟩:=h;obtain⟨u,w',rfl,⟨t,rfl⟩,⟨t',rfl⟩⟩:=vals2 r;refine min_two_ints (I.ok.hd hc) λh' tk k=>⟨_,H,I.kept k,?_,q⟩
 by_cases hj:j<i
 ·rw[if_pos hj,if_pos hj];exact⟨_,rfl⟩
 ·rw[if_neg hj,if_neg hj];exact⟨_,rfl⟩
end
structure ObjM (h:Heap) (x dx C:Addr) (mA:Ze):Prop where
 obj:h.get? x=some (PySem.W.instObj C dx)
 ns:h.Ns1 dx mA
 ne:dx≠x
theorem At{h:Heap}{dx:Addr}{mA:Ze}(n:h.Ns1 dx mA):∃od,h.get? dx=some od/\∀name,PySem.W.lookIn name od=some (mA name):=by
 obtain⟨o,es,ep,ho,hd,hk,_,hm⟩:=n;refine⟨o,ho,λname=>?_⟩;have e:=hm name;unfold nsFind findBy at e;rw[←Array.find?_toList] at e;unfold PySem.W.lookIn;rw[hd];dsimp only;split
 ·rename_i y q
  rw[q] at e;exact congrArg some e
 ·rename_i q
  rw[q] at e;have a:es.toList.any (·.refKey)=false:=by
   rw[List.any_eq_false];intro y hy;obtain⟨z,t,hkey⟩:=hk y (Array.mem_toList_iff.mp hy);simp[DictEntry.refKey,hkey]
  have a':¬es.toList.any (·.refKey)=true:=by rw[a];exact YD
  rw[if_neg a'];exact congrArg some e
theorem ObjM.look{h:Heap}{x dx C:Addr}{mA:Ze}(I:ObjM h x dx C mA):∃od,PySem.W.InstAt h x (PySem.W.instObj C dx) C (some od)/\∀name,PySem.W.lookIn name od=some (mA name):=
 let⟨od,ho,hl⟩:=At I.ns;⟨od,⟨I.obj,rfl,rfl,ho⟩,hl⟩
section
variable {prog:Zw}{w:World}{A:Around}{E:Zb}{s:Shared}{K:Za}{x dx C f:Addr}{mA:Ze}{name:Str}{v:Value}
theorem Ed{expr:Bool}{Q:Zb}(X:K.In s.heap)(I:ObjM s.heap x dx C mA)(hg:PySem.W.plainGet K C name=true)(hh:PySem.W.hasDictIn K C=true)
  (ha:PySem.W.findIn K (.ref C) name=some none) (hv:mA name=some v) (hv':PySem.W.handedIn v=true) (h:Q v { s with toks:=s.toks+1 }):
  wpAny (model prog w) A (getAttr (.ref x) name expr) Q E s:=by
 obtain⟨od,J,hl⟩:=I.look;exact PySem.W.get_value X J (PySem.W.plainGet_of hg).1 (PySem.W.findObj_own hh ha rfl (by rw[hl,hv])) hv' h
theorem Ce{pl:Sem Bool}{Q:Value×List Value->Shared->Prop}(X:K.In s.heap)(I:ObjM s.heap x dx C mA)(hg:PySem.W.plainGet K C name=true)
  (hf:PySem.W.findIn K (.ref C) name=some (some (.ref f))) (ht:PySem.W.isFn K (.ref f)=true) (hv:mA name=none) (h:Q (.ref f,[.ref x]) s):
  wpAny (model prog w) A (getMethod (.ref x) name pl) Q E s:=by
 obtain⟨od,J,hl⟩:=I.look;exact PySem.W.method_fn X J (PySem.W.plainGet_of hg).1 (PySem.W.plainGet_of hg).2 hf (beq_iff_eq.mp ht) (by show(PySem.W.lookIn name od).map (·.isSome)=some false;rw[hl,hv];rfl) h
theorem Ee{ns:Zf}{Q:Zo}(X:K.In s.heap)(I:ObjM s.heap x dx C mA)
  (hs:PySem.W.findIn K (.ref C) "__setattr__" = some (some (.builtin "object.__setattr__"))) (hp:PySem.W.plainOver K C=true) (ht:PySem.W.takerIn K C name=some none) (hh:PySem.W.hasDictIn K C=true)
  (hw:PySem.Within mA ns) (hsz:ns.length<=sizeLine)
  (h:∀h',ObjM h' x dx C (λy=>if y=name then some v else mA y)->Heap.SameBut dx s.heap h'->Q () { s with heap:=h',toks:=s.toks+2 }):
  wpAny (model prog w) A (setAttr (.ref x) name v) Q E s:=by
 obtain⟨od,J,hl⟩:=I.look;refine PySem.W.set_plain X J hs (PySem.W.osa_open (s:={ s with toks:=s.toks+1 }) (r:=none) X J hp ht λb=>?_);obtain⟨cd,hc,hd'⟩:=PySem.W.any_some hh;have hx:s.heap.get? x=some ⟨.ref C,some dx,.plain,#[]⟩:=I.obj;refine Yb (Yc (Yb (Yb (wpAny_loadPart hx (Yb (PySem.W.Looks.here (s:={ s with toks:=s.toks+1 }) (PySem.W.looks_clsIn X hc) ?_))))));rw[hd'];refine Yc (a:=some dx) (Yb (Yc (Yb ?_)));refine wpAny_nsSet1 (s:={ s with toks:=s.toks+1 }) I.ns λh' hn2 hs2=>?_
 obtain⟨oD,esD,epD,hoD,hdD,hcD⟩:=hn2.count (PySem.Within.cons name v hw);refine Yb (wpAny_lookBehind hoD (by rw[hdD];exact pastItsLine_dict (ZX hcD (by rw[YH];omega))) ?_);exact Yc (h _ ⟨(hs2.2 _ (Ne.symm I.ne)).trans I.obj,hn2,I.ne⟩ hs2)
theorem Cf{R:Result->Shared->Prop}{vs:Zd}{kw:List (Str×Value)}(X:K.In s.heap)(hm:PySem.W.makesIn K C=true)
  (hi:PySem.W.findIn K (.ref C) "__init__" = some (some (.ref f))) (hf:PySem.W.typeIn K (.ref f)=some (.type "function"))
  (h:codeAny (model prog w) (A.under (.builtin "type.__call__" ⟨.ref C::vs,kw⟩)) (.call (.ref f) ⟨.ref (s.heap.objs.size+1)::vs,kw⟩) (PySem.W.InitBack (s.heap.objs.size+1) R)
   { s with heap:=(s.heap.push PySem.W.emptyDict).push (PySem.W.instObj C s.heap.objs.size) }):
  codeAny (model prog w) A (.call (.ref C) ⟨vs,kw⟩) R s:=by
 obtain⟨hh,g,d,t,os⟩:=s;exact PySem.W.make_core (PySem.W.makes_of X hm) (PySem.W.looks_findIn X hi) (λself=>PySem.W.bind_fn X self hf) (.inl rfl) h
end
def putF(f:Str)(v:V):List (Str×V)->List (Str×V)
 |[]=>[(f,v)]
 |(g,x)::r=>if g=f then(g,v)::r else(g,x)::putF f v r
theorem qI(f g:Str)(v:V):∀fs:List (Str×V),(putF f v fs).lookup g=if g=f then some v else fs.lookup g
 |[]=>by
  show List.lookup g [(f,v)]=_;by_cases h:g=f
  ·have hb:(g==f)=true:=beq_iff_eq.mpr h
   simp only[List.lookup,hb,if_pos h]
  ·have hb:(g==f)=false:=ZR.mpr h
   simp only[List.lookup,hb,if_neg h]
 |(k,x)::r=>by
  have ih:=qI f g v r;rw[show putF f v ((k,x)::r)=(if k=f then(k,v)::r else(k,x)::putF f v r) from rfl];by_cases hk:k=f
  ·rw[if_pos hk]
   by_cases h:g=k
   ·have hb:(g==k)=true:=beq_iff_eq.mpr h
    simp only[List.lookup,hb,if_pos (h.trans hk)]
   ·have hb:(g==k)=false:=ZR.mpr h
    simp only[List.lookup,hb,if_neg (λe:g=f=>h (e.trans hk.symm))]
  ·rw[if_neg hk]
   by_cases h:g=k
   ·have hb:(g==k)=true:=beq_iff_eq.mpr h
    simp only[List.lookup,hb,if_neg (λe:g=f=>hk (h.symm.trans e))]
   ·have hb:(g==k)=false:=ZR.mpr h
    simp only[List.lookup,hb];exact ih
theorem o8(f:Str)(v:V):∀fs:List (Str×V),f∈(putF f v fs).map (·.1)/\∀g,g∈fs.map (·.1)->g∈(putF f v fs).map (·.1)
 |[]=>⟨by simp[putF],λg h=>by simp at h⟩
 |(k,x)::r=>by
  obtain⟨i1,i2⟩:=o8 f v r;rw[show putF f v ((k,x)::r)=(if k=f then(k,v)::r else(k,x)::putF f v r) from rfl];by_cases hk:k=f
  ·rw[if_pos hk]
   subst hk;exact⟨by simp,λg h=>by simpa using h⟩
  ·rw[if_neg hk]
   refine⟨?_,λg h=>?_⟩
   ·rw[YJ]
    exact ZZ _ i1
   ·rw[YJ] at h ⊢
    rcases YA.mp h with e | e
    ·exact YA.mpr (.inl e)
    ·exact ZZ _ (i2 g e)
theorem qJ(f:Str)(v:V):∀fs:List (Str×V),(putF f v fs).length<=fs.length+1
 |[]=>by simp[putF]
 |(k,x)::r=>by
  have ih:=qJ f v r;rw[show putF f v ((k,x)::r)=(if k=f then(k,v)::r else(k,x)::putF f v r) from rfl];by_cases hk:k=f
  ·rw[if_pos hk,YH,YH];omega
  ·rw[if_neg hk,YH,YH];omega
theorem RelO.some_of{v:V}{o:Zx}(r:RelO (some v) o):∃u,o=some u/\RelV v u:=by
 cases o with
 |none=>exact(show False from r).elim
 |some u=>exact⟨u,rfl,r⟩
theorem RelO.none_of{o:Zx}(r:RelO none o):o=none:=by
 cases o with
 |none=>rfl
 |some u=>exact(show False from r).elim
theorem Au{v:V}{u:Value}(r:RelV v u):PySem.W.handedIn u=true:=by
 cases v with
 |non=>cases(show u=Value.none from r);rfl
 |bl b=>cases(show u=Value.bool b from r);rfl
 |int i=>obtain⟨t,e⟩:=(show ∃t,u=Value.int i t from r);cases e;rfl
 |str x=>obtain⟨t,e⟩:=(show ∃t,u=Value.str x t from r);cases e;rfl
 |byt b=>obtain⟨t,e⟩:=(show ∃t,u=Value.bytes b t from r);cases e;rfl
 |flt b=>obtain⟨t,e⟩:=(show ∃t,u=Value.float b t from r);cases e;rfl
 |ref a=>cases(show u=Value.ref a from r);rfl
 |ty n=>cases(show u=Value.type n from r);rfl
section
variable {P:Zw}{w:World}{H H':Hp}{h h':Heap}{a C dx:Addr}{fs fs':List (Str×V)}
theorem p6(hok:HOk P w H h)(e:H a=some (.ins C dx fs)):∃mA,ObjM h a dx C mA/\(∀f,RelO (fs.lookup f) (mA f))/\PySem.Within mA (fs.map (·.1))/\fs.length<=1000/\H dx=some (.own a):=by
 obtain⟨d,z,ne,ob,mA,n,r,q⟩:=(show aU P w H h a (.ins C dx fs) from hok a _ e);exact⟨mA,⟨ob,n,ne⟩,r,q,z,d⟩
end
structure Cls (K:Za) (C:Addr):Prop where
 pg:PySem.W.plainGet K C Str.empty=true
 hd:PySem.W.hasDictIn K C=true
 po:PySem.W.plainOver K C=true
 sa:PySem.W.findIn K (.ref C) "__setattr__" = some (some (.builtin "object.__setattr__"))
theorem Cls.get{K:Za}{C:Addr}(c:Cls K C)(f:Str):PySem.W.plainGet K C f=true:=c.pg
def bZ(K:Za)(C:Addr)(f:Str):Prop:=PySem.W.findIn K (.ref C) f=some none
theorem bZ.taker{K:Za}{C:Addr}{f:Str}(n:bZ K C f):PySem.W.takerIn K C f=some none:=by
 unfold PySem.W.takerIn;rw[show PySem.W.findIn K (.ref C) f=some none from n];rfl
structure Con (K:Za) (C:Addr) (f:Str) (v:V) (u:Value):Prop where
 at_:PySem.W.findIn K (.ref C) f=some (some u)
 rel:RelV v u
 get:PySem.W.specialIn K u "__get__" = some none
 cp:PySem.W.copiedNames.contains f=false
structure Meth (K:Za) (C:Addr) (m:Str) (f:Addr):Prop where
 at_:PySem.W.findIn K (.ref C) m=some (some (.ref f))
 fn:PySem.W.isFn K (.ref f)=true
 kp:PySem.W.keepIn K (.ref f)=true
section
variable {X:Cx}{pins:Zc}{σ:St}{H:Hp}{s:Shared}{a C dx:Addr}{fs:List (Str×V)}{f:Str}{v:V}{A:Around}{E:Zb}
theorem ze{b:Bool}{Q:Zb}(I:Inv X pins σ H s)(e:H a=some (.ins C dx fs))(c:Cls X.K C)(n:bZ X.K C f)(l:fs.lookup f=some v)
  (h:∀u s',Inv X pins σ H s'->RelV v u->Q u s'):wpAny 'c' A (getAttr (.ref a) f b) Q E s:=by
 obtain⟨mA,O,r,_,_,_⟩:=p6 I.hok e;obtain⟨u,hu,ru⟩:=RelO.some_of (v:=v) (o:=mA f) (by rw[←l];exact r f);exact Ed I.kIn O (c.get f) c.hd n hu (Au ru) (h u _ (I.tok _) ru)
theorem rT{m:Str}{g:Addr}{pl:Sem Bool}{Q:Value×List Value->Shared->Prop}(I:Inv X pins σ H s)(e:H a=some (.ins C dx fs))(c:Cls X.K C)(k:Meth X.K C m g)(l:fs.lookup m=none)
  (h:Q (.ref g,[.ref a]) s):wpAny 'c' A (getMethod (.ref a) m pl) Q E s:=by
 obtain⟨mA,O,r,_,_,_⟩:=p6 I.hok e;have hn:mA m=none:=RelO.none_of (by rw[←l];exact r m);exact Ce I.kIn O (c.get m) k.at_ k.fn hn h
theorem zf{y:V}{u:Value}{Q:Zo}(I:Inv X pins σ H s)(e:H a=some (.ins C dx fs))(c:Cls X.K C)(n:bZ X.K C f)(hl:fs.length<1000)(ry:RelV y u)
  (h:∀s',Inv X pins σ (upd H a (.ins C dx (putF f y fs))) s'->Q () s'):wpAny 'c' A (setAttr (.ref a) f u) Q E s:=by
 obtain⟨mA,O,r,wi,_,ho⟩:=p6 I.hok e;have hz:(fs.map (·.1)).length<=sizeLine:=by rw[ZE,sizeLine_eq];omega
 refine Ee I.kIn O c.sa c.po n.taker c.hd wi hz λh' O' sb=>h _ ?_
 have hd:∃o,h'.get? dx=some o:=let⟨o,_,_,e',_⟩:=O'.ns;⟨o,e'⟩;refine I.write (x:=a) (e:=dx) (by rw[e];exact True.intro) (.inr ho) (λb q hb z=>(sb.2 b hb).trans z) hd ?_;refine⟨by rw[aF O.ne];exact ho,?_,O.ne,O'.obj,_,O'.ns,λg=>?_,λg hg=>?_⟩
 ·have:=qJ f y fs;omega
 ·show RelO ((putF f y fs).lookup g) (if g=f then some u else mA g)
  rw[qI];by_cases q:g=f
  ·rw[if_pos q,if_pos q];exact ry
  ·rw[if_neg q,if_neg q];exact r g
 ·by_cases q:g=f
  ·rw[q];exact(o8 f y fs).1
  ·refine(o8 f y fs).2 g (wi g λz=>hg ?_)
   show(if g=f then some u else mA g)=none;rw[if_neg q];exact z
theorem Inv.made(I:Inv X pins σ H s):Inv X pins σ (upd (upd H s.heap.objs.size (.own (s.heap.objs.size+1))) (s.heap.objs.size+1) (.ins C s.heap.objs.size []))
  { s with heap:=(s.heap.push PySem.W.emptyDict).push (PySem.W.instObj C s.heap.objs.size) }:=by
 have e1:(s.heap.push PySem.W.emptyDict).get? s.heap.objs.size=some PySem.W.emptyDict:=Yg s.heap rfl;have e2:((s.heap.push PySem.W.emptyDict).push (PySem.W.instObj C s.heap.objs.size)).get? (s.heap.objs.size+1)=some (PySem.W.instObj C s.heap.objs.size):=by
  have:=Yg (s.heap.push PySem.W.emptyDict) (o:=PySem.W.instObj C s.heap.objs.size) rfl
  rwa [Heap.size_push] at this
 have e3:(s.heap.push PySem.W.emptyDict).Ns s.heap.objs.size (λ_=>none):=⟨PySem.W.emptyDict,#[],_,e1,rfl,(λe he=>absurd he (by simp)),λ_=>rfl⟩;have I1:=I.laid (a:=s.heap.objs.size) (o:=.own (s.heap.objs.size+1)) (h':=s.heap.push PySem.W.emptyDict) (t':=s.toks) (λb u q=>Yd _ q) (YE _) ⟨_,e1⟩;refine I1.laid (a:=s.heap.objs.size+1) (o:=.ins C s.heap.objs.size []) (t':=s.toks) (λb u q=>Yd _ q) (Nat.le_of_eq (Heap.size_push _ _)) ?_;have ne:s.heap.objs.size≠s.heap.objs.size+1:=ZU (YK _);refine⟨by rw[aF ne,az],YL _,ne,e2,λ_=>none,(Heap.Ns1.of_empty e3).at λo q=>Yd _ q,λ_=>True.intro,λy hy=>absurd rfl hy⟩
theorem Ef{prog:Zw}{w:World}{env:Env}{e:Expr}{f:Str}{pos:Pos}{s:Shared}{Q:Zb}(hb:attributeBase e f env (eval e env)=eval e env)
  (h:wpAny (model prog w) A (eval e env) (λo s₁=>wpAny (model prog w) A (getAttr o f true) Q E s₁) E s):wpAny (model prog w) A (eval (.Attribute e f pos) env) Q E s:=
 Attribute_any_ h (by rw[arm_eval_Attribute,hb])
end
def tFld(K:Za)(ta:TE)(f:Str):TE:=λσ H Q=>ta σ H λx H1=>∃a C dx fs v,x=.ref a/\H1 a=some (.ins C dx fs)/\Cls K C/\bZ K C f/\fs.lookup f=some v/\Q v H1
def sFld(K:Za)(ta tv:TE)(f:Str):TS:=λD σ H=>tv σ H λy H1=>ta σ H1 λx H2=>∃a C dx fs,x=.ref a/\H2 a=some (.ins C dx fs)/\Cls K C/\bZ K C f/\fs.length<1000 /\
 D.nx σ (upd H2 a (.ins C dx (putF f y fs)))
section
variable {X:Cx}{o e value:Expr}{f:Str}{pos pos' tpos:Pos}{ta tv:TE}
theorem Gf(he:PE X e ta)(hb:attributeBase e f X.env (eval e X.env)=eval e X.env):PE X (.Attribute e f pos) (tFld X.K ta f):=by
 intro pins s σ H Q I h;refine Ef hb (thn (he pins s σ H _ I h) λu s1 zz46=>?_);obtain⟨x,H1,I1,rx,a,C,dx,fs,v,ex,ea,c,n,l,q⟩:=zz46;subst ex;obtain rfl:u=Value.ref a:=rx;exact ze I1 ea c n l λu' s2 I2 ru=>⟨v,H1,I2,ru,q⟩
theorem Gg(ha:PE X o ta)(hv:PE X value tv)(hs:swapsWith value (some (.Attribute o f pos')) pos.line X.env=pure false):PS X (.Assign [.Attribute o f pos'] value pos) (sFld X.K ta tv f):=by
 intro pins s σ H D I h;refine plainObj_wpAny_Assign_Attribute (thn (hv pins s σ H _ I h) λu s1 zz48=>?_) hs;obtain⟨y,H1,I1,ry,q⟩:=zz48;refine thn (ha pins s1 σ H1 _ I1 q) λov s2 zz49=>?_
 obtain⟨x,H2,I2,rx,a,C,dx,fs,ex,ea,c,n,l,q2⟩:=zz49;subst ex;obtain rfl:ov=Value.ref a:=rx;exact zf I2 ea c n l ry λs3 I3=>⟨σ,_,I3,q2⟩
end
section
variable {X:Cx}{pins:Zc}{σ:St}{H:Hp}{s:Shared}{A:Around}{E:Zb}{Q:Zb}{c:Value}{b:Bool}
inductive TyOf (K:Za) (H:Hp):V->Value->Prop where
 |non:TyOf K H .non (.type "NoneType")
 |bl (x:Bool):TyOf K H (.bl x) (.type "bool")
 |int (i:Int):TyOf K H (.int i) (.type "int")
 |str (x:Str):TyOf K H (.str x) (.type "str")
 |flt (x:UInt64):TyOf K H (.flt x) (.type "float")
 |lst {a:Addr}{xs:List V}(e:H a=some (.lst xs)):TyOf K H (.ref a) (.type "list")
 |frz {a:Addr}{o:Obj}{xs:List V}(e:H a=some (.frz o (.lst xs))):TyOf K H (.ref a) (.type "list")
 |tup {a:Addr}{xs:List V}(e:H a=some (.tup xs)):TyOf K H (.ref a) (.type "tuple")
 |dK {a:Addr}{kvs:List (Key×V)}(e:H a=some (.dK kvs)):TyOf K H (.ref a) (.type "dict")
 |dT {a:Addr}{kvs:List (List Key×V)}(e:H a=some (.dT kvs)):TyOf K H (.ref a) (.type "dict")
 |ins {a C dx:Addr}{fs:List (Str×V)}(e:H a=some (.ins C dx fs)) (cl:Cls K C) (ha:PySem.W.findIn K (.ref C) "__class__" = some (some (.builtin "object.__class__")))
   (hn:PySem.W.specialIn K (.builtin "object.__class__") "__get__" = some (some (.builtin "getset_descriptor.__get__"))) (htk:PySem.W.takesIn K (.builtin "object.__class__")=some true)
   (hm:PySem.W.mroIn K C (.type "object")=some true):TyOf K H (.ref a) (.ref C)
theorem gu{x:V}{u t:Value}(I:Inv X pins σ H s)(rx:RelV x u)(ty:TyOf X.K H x t)(e:PySem.W.kitOne X.K t c=some b)(h:∀tk,Q (.bool b) { s with toks:=tk }):
  wpAny 'c' A (call (.builtin "isinstance") [u,c]) Q E s:=by
 cases ty with
 |non=>cases(show u=Value.none from rx);exact PySem.W.kia_one PySem.W.kitx_none I.kIn True.intro e (λz=>nomatch z) h
 |bl y=>cases(show u=Value.bool y from rx);exact PySem.W.kia_one PySem.W.kitx_bool I.kIn True.intro e (λz=>nomatch z) h
 |int i=>obtain⟨t,q⟩:=(show ∃t,u=Value.int i t from rx);cases q;exact PySem.W.kia_one PySem.W.kitx_int I.kIn True.intro e (λz=>nomatch z) h
 |str y=>obtain⟨t,q⟩:=(show ∃t,u=Value.str y t from rx);cases q;exact PySem.W.kia_one PySem.W.kitx_str I.kIn True.intro e (λz=>nomatch z) h
 |flt y=>obtain⟨t,q⟩:=(show ∃t,u=Value.float y t from rx);cases q;exact PySem.W.kia_one PySem.W.kitx_float I.kIn True.intro e (λz=>nomatch z) h
 |@lst a xs ea=>
  cases(show u=Value.ref a from rx);obtain⟨_,_,n,_,h1⟩:=(show aU X.prog X.w H s.heap a (.lst xs) from I.hok a _ ea);exact PySem.W.kia_one PySem.W.kitx_list I.kIn ⟨_,h1,rfl⟩ e (λz=>nomatch z) h
 |@frz a ob xs ea=>
  cases(show u=Value.ref a from rx);obtain⟨_,_,_,n,_,h1⟩:=(show aU X.prog X.w H s.heap a (.frz ob (.lst xs)) from I.hok a _ ea);exact PySem.W.kia_one PySem.W.kitx_list I.kIn ⟨_,h1,rfl⟩ e (λz=>nomatch z) h
 |@tup a xs ea=>
  cases(show u=Value.ref a from rx);obtain⟨_,_,_,p⟩:=(show aU X.prog X.w H s.heap a (.tup xs) from I.hok a _ ea);obtain⟨o,h1,h2,_⟩:=p;exact PySem.W.kia_one PySem.W.kitx_tuple I.kIn ⟨o,h1,h2⟩ e (λz=>nomatch z) h
 |@dK a kvs ea=>
  cases(show u=Value.ref a from rx);obtain⟨_,_,vs,_,p⟩:=(show aU X.prog X.w H s.heap a (.dK kvs) from I.hok a _ ea);obtain⟨o,es,ep,h1,h2,_⟩:=p;exact PySem.W.kia_one PySem.W.kitx_dict I.kIn ⟨o,h1,h2.1⟩ e (λz=>nomatch z) h
 |@dT a kvs ea=>
  cases(show u=Value.ref a from rx);obtain⟨_,_,xs,_,o,es,ep,h1,h2,_⟩:=(show aU X.prog X.w H s.heap a (.dT kvs) from I.hok a _ ea);exact PySem.W.kia_one PySem.W.kitx_dict I.kIn ⟨o,h1,h2.1⟩ e (λz=>nomatch z) h
 |@ins a C dx fs ea cl ha hn htk hm=>
  cases(show u=Value.ref a from rx);obtain⟨mA,O,_⟩:=p6 I.hok ea;obtain⟨od,J,_⟩:=O.look;exact PySem.W.kia_one (PySem.W.kitx_own (cl.get _) cl.hd ha hn htk hm) I.kIn J e (λz=>nomatch z) h
end
structure Room (k:Nat) (A:Around):Prop where
 hd:A.handled=none
 dp:A.depth+3*k+5<recursionLimit
 un:A.units+16*k+200<cLine
theorem Room.mono{j k:Nat}{A:Around}(r:Room k A)(h:j<=k):Room j A:=⟨r.hd,by have:=r.dp;omega,by have:=r.un;omega⟩
theorem Room.deeper{k:Nat}{A:Around}(r:Room (k+1) A)(env:Env):Room k (A.deeper env):=
 ⟨r.hd,by have:=r.dp;show A.depth+1+3*k+5<_;omega,by have:=r.un;show A.units+3+16*k+200<_;omega⟩
theorem zg{A:Around}{C:Addr}{us:Zd}{kw:List (Str×Value)}:(A.under (.builtin "type.__call__" ⟨.ref C::us,kw⟩)).depth=A.depth+1:=by
 first | rfl | simp[Around.under,Code.weight,Code.isCreation,Code.isGuard,Code.isCaller,Code.frames,Code.isFrame,guardIds]
theorem zh{A:Around}{C:Addr}{us:Zd}{kw:List (Str×Value)}:(A.under (.builtin "type.__call__" ⟨.ref C::us,kw⟩)).units=A.units+1:=by
 first | rfl | simp[Around.under,Code.cUnits,Code.frames,Code.isFrame]
theorem Room.make{k:Nat}{A:Around}(r:Room (k+1) A)(C:Addr)(us:Zd)(kw:List (Str×Value)):Room k (A.under (.builtin "type.__call__" ⟨.ref C::us,kw⟩)):=
 ⟨r.hd,by have:=r.dp;rw[zg];omega,by have:=r.un;rw[zh];omega⟩
theorem Room.depth{k:Nat}{A:Around}(r:Room k A):A.depth<recursionLimit:=by have:=r.dp;omega
theorem Room.units{k:Nat}{A:Around}(r:Room k A):A.units+64<cLine:=by have:=r.un;omega
def tNil:TA:=λ_ H Q=>Q [] H
def HK(ta:TE)(tr:TA):TA:=λσ H Q=>ta σ H λx H1=>tr σ H1 λxs H2=>Q (x::xs) H2
section
variable {X:Cx}{e:Expr}{es:Zg}{te:TE}{t:TA}{pos:Pos}
theorem Gh:PA X [] tNil:=λ_ _ _ _ H Q I h=>Calls.spliced_nil ⟨[],H,I,.nil,h⟩
theorem Eg(ha:PE X e te)(hr:PA X es t)(hs:starEach (e::es) X.env=(false,eval e X.env)::starEach es X.env:=by rfl):PA X (e::es) (HK te t):=by
 intro pos pins s σ H Q I h;rw[hs];show wpAny _ _ (spliced ((false,eval e X.env)::backTo pos (starEach es X.env))) _ _ s;refine Calls.spliced_cons (thn (ha pins s σ H _ I h) λu s1 zz54=>?_);obtain⟨x,H1,I1,r1,q1⟩:=zz54;refine thn (hr pos pins s1 σ H1 _ I1 q1) λus s2 zz55=>?_
 obtain⟨xs,H2,I2,r2,q2⟩:=zz55;exact⟨x::xs,H2,I2,.cons r1 r2,q2⟩
def tTup(t:TA):TE:=λσ H Q=>t σ H λxs H1=>xs.length<=sizeLine/\∀p,H1 p=none->Q (.ref p) (upd H1 p (.tup xs))
def tLst(t:TA):TE:=λσ H Q=>t σ H λxs H1=>xs.length<=sizeLine/\∀p,H1 p=none->Q (.ref p) (upd H1 p (.lst xs))
theorem Gi{x1}(h:PA X es t):PE X (.Tuple es x1 pos) (tTup t):=by
 intro pins s σ H Q I hq;refine wpAny_Tuple_spliced (thn (h pos pins s σ H _ I hq) λus s1 ⟨xs,H1,I1,r,z,q⟩=>⟨by rw[←r.length];exact z,?_⟩);have hf:H1 s1.heap.objs.size=none:=I1.hok.fresh (YE _);refine⟨.ref s1.heap.objs.size,upd H1 s1.heap.objs.size (.tup xs),I1.laid (t':=s1.toks) (λb u e=>Yd _ e) (YE _) ?_,rfl,q _ hf⟩;exact⟨z,us,r,⟨_,Yg _ rfl,rfl,_,rfl⟩⟩
theorem Gj(h:PA X es t):PE X (.List es pos) (tLst t):=by
 intro pins s σ H Q I hq;refine wpAny_List_spliced (thn (h pos pins s σ H _ I hq) λus s1 ⟨xs,H1,I1,r,z,q⟩=>⟨by rw[←r.length];exact z,?_⟩);have hf:H1 s1.heap.objs.size=none:=I1.hok.fresh (YE _);refine⟨.ref s1.heap.objs.size,upd H1 s1.heap.objs.size (.lst xs),I1.laid (t':=s1.toks) (λb u e=>Yd _ e) (YE _) ?_,rfl,q _ hf⟩;exact⟨z,us,0,r,Yg _ rfl⟩
end
abbrev Sp:=List V->Hp->VK->XK->Prop
abbrev CXT:=List Env->Hp->Shared->XK->Value->Shared->Prop
structure Env0 (P:Zw) (w:World) (K:Za) (mg:Ze) (base:Heap) (A:Around) (outer:List Env) (s:Shared) (H:Hp):Prop where
 frames:A.frames=some outer
 mod:Mod K mg base
 bs:∀b o,base.get? b=some o->s.heap.get? b=some o/\H b=none
 bsz:base.objs.size<=s.heap.objs.size
 funs:s.heap.FunFrames base outer
 frf:∀b∈frs outer,H b=none
 hok:HOk P w H s.heap
 bare:AllBare s.gens
def CE(outer:List Env)(P:Zw)(w:World)(H:Hp)(s:Shared)(Q:VK)(u:Value)(s':Shared):Prop:=
 ∃v H',s'.os=s.os/\AllBare s'.gens/\Un (frs outer) [] H H' s.heap s'.heap/\HOk P w H' s'.heap/\RelV v u/\Q v H'
def CR(CX:CXT)(outer:List Env)(P:Zw)(w:World)(H:Hp)(s:Shared)(Q:VK)(E:XK)(r:Result)(s':Shared):Prop:=
 match r with
 |.ok (.ret u)=>CE outer P w H s Q u s'
 |.ok _=>False
 |.error e=>CX outer H s E e s'
structure FnOk (P:Zw) (w:World) (K:Za) (mg:Ze) (base:Heap) (CX:CXT) (k:Nat) (f:Addr) (fd:Zv) (ps:Zf) (sp:Sp):Prop where
 len:∀vs H Q E,sp vs H Q E->vs.length=ps.length
 run:∀(A:Around) (outer:List Env) (s:Shared) (H:Hp) (args:Args) (us:Zd) (vs:List V) (Q:VK) (E:XK),Room k A->Env0 P w K mg base A outer s H->BindsTo s fd args (ps.zip us)->Vals vs us->sp vs H Q E ->
  codeAny (model P w) A (.call (.ref f) args) (CR CX outer P w H s Q E) s
theorem Env0.make{P:Zw}{w:World}{K:Za}{mg:Ze}{base:Heap}{A:Around}{outer:List Env}{s:Shared}{H:Hp}(e:Env0 P w K mg base A outer s H)(C:Addr)(us:Zd)(kw:List (Str×Value)):
  Env0 P w K mg base (A.under (.builtin "type.__call__" ⟨.ref C::us,kw⟩)) outer s H:=⟨by first | exact e.frames | (simpa [Around.under,Code.envs,Code.isFrame,pushEnvs] using e.frames),e.mod,e.bs,e.bsz,e.funs,e.frf,e.hok,e.bare⟩
section
variable {X:Cx}{pins:Zc}{σ:St}{H:Hp}{s s':Shared}
theorem Inv.env0(I:Inv X pins σ H s):Env0 X.prog X.w X.K X.mg X.base X.A X.stack s H:=
 ⟨I.ok.frames,I.ok.mod,I.bs,ZX I.ok.bsz I.sz,I.stack,I.stkFree,I.hok,I.bare⟩
theorem Inv.after{Q:VK}{u:Value}(I:Inv X pins σ H s)(h:CE X.stack X.prog X.w H s Q u s'):EP X pins σ Q u s':=by
 obtain⟨v,H',os,bare,un,hok,r,q⟩:=h;obtain⟨hh,g,d,t,os'⟩:=s';obtain rfl:os'=s.os:=os;exact⟨v,H',I.call (h':=hh) (g':=g) (d':=d) (t':=t) (ch:=[]) un hok bare (λb z=>absurd z (by simp)),r,q⟩
end
def DC(sp:Sp)(dvs:List V)(E:XK)(t:TA):TE:=λσ H Q=>t σ H λvs H1=>sp (vs++dvs) H1 Q E
def HL(C:Addr)(sp:Sp)(dvs:List V)(E:XK)(t:TA):TE:=λσ H Q=>t σ H λvs H1=>∀x dx,H1 x=none->H1 dx=none->dx≠x ->
 sp (.ref x::(vs++dvs)) (upd (upd H1 dx (.own x)) x (.ins C dx [])) (λv H2=>v=.non/\Q (.ref x) H2) E
def Binds(K:Za)(fd:Zv)(ps:Zf)(ds:Zd):Prop:=
 ∀(s:Shared) (us:Zd),K.In s.heap->(us++ds).length=ps.length->BindsTo s fd ⟨us,[]⟩ (ps.zip (us++ds))
theorem Binds.all{K:Za}{fd:Zv}{ps:Zf}(h:∀us:List Value,us.length=ps.length->bindArgs fd ⟨us,[]⟩=pure (ps.zip us)):Binds K fd ps []:=λs us _ hl=>by
 rw[ZA] at hl ⊢;exact .of_eq (h us hl)
def o9(CX:CXT)(X:Cx)(E:XK):Prop:=∀(pins:Zc) (σ:St) (H:Hp) (s:Shared) (e:Value) (s':Shared),Inv X pins σ H s->CX X.stack H s E e s'->X.xe e s'
section
variable {X:Cx}{CX:CXT}{k:Nat}{f C:Addr}{fd:Zv}{ps:Zf}{sp:Sp}{dvs:List V}{ds:Zd}{E:XK}{x m:Str}{p pos apos:Pos}{e o:Expr}{es:Zg}{ta:TE}{t:TA}
theorem vS{pins:Zc}{σ:St}{H:Hp}{s:Shared}{Q:VK}{us:Zd}{vs:List V}(F:FnOk X.prog X.w X.K X.mg X.base CX k f fd ps sp)(hr:Room k X.A)(hb:Binds X.K fd ps ds)(hd:Vals dvs ds)(hx:o9 CX X E)
  (I:Inv X pins σ H s) (r:Vals vs us) (h:sp (vs++dvs) H Q E):wpAny 'c' X.A (call (.ref f) us) (EP X pins σ Q) X.xe s:=by
 have r2:Vals (vs++dvs) (us++ds):=r.append hd;have hl:(us++ds).length=ps.length:=by rw[←r2.length];exact F.len _ _ _ _ h
 refine wpAny_call (codeAny_mono (F.run X.A X.stack s H ⟨us,[]⟩ (us++ds) (vs++dvs) Q E hr I.env0 (hb s us I.kIn hl) r2 h) λr s' hq=>?_);cases r with
 |error e=>exact hx pins σ H s e s' I hq
 |ok fl=>
  cases fl with
  |ret u=>exact I.after hq
  |next=>exact Yh hq
  |brk=>exact Yh hq
  |cont=>exact Yh hq
theorem Eh(F:FnOk X.prog X.w X.K X.mg X.base CX k f fd ps sp)(hr:Room k X.A)(hg:Gl X x)(hm:X.mg x=some (.ref f))(hk:PySem.W.keepIn X.K (.ref f)=true)(hb:Binds X.K fd ps ds)(hd:Vals dvs ds)(hx:o9 CX X E)
  (ha:PA X (e::es) t) (hdb:(x==("__debug__" : Str))=false:=by decide) (he:starEach (e::es) X.env=(false,eval e X.env)::starEach es X.env:=by rfl) (hpl:(backTo pos (starEach es X.env)).any (·.1)=false:=by rfl):
  PE X (.Call (.Name x p) (e::es) [] pos) (DC sp dvs E t):=by
 intro pins s σ H Q I h;refine wpAny_Call_Name_kw (tZ I hg hm ?_ hdb);refine PySem.W.callWith_K (h₀:=X.base) I.ok.mod.kin hk (thn (ha pos pins s σ H _ I h) λus s1 zz56=>?_) he hpl;obtain⟨vs,H1,I1,r,q⟩:=zz56;refine⟨I1.kIn,?_⟩;exact vS F hr hb hd hx I1 r q
structure Mk (K:Za) (C f:Addr):Prop where
 makes:PySem.W.makesIn K C=true
 init:PySem.W.findIn K (.ref C) "__init__" = some (some (.ref f))
 fn:PySem.W.isFn K (.ref f)=true
 kp:PySem.W.keepIn K (.ref C)=true
theorem Cg{pins:Zc}{σ:St}{H:Hp}{s:Shared}{Q:VK}{us:Zd}{vs:List V}(M:Mk X.K C f)(F:FnOk X.prog X.w X.K X.mg X.base CX k f fd ps sp)(hr:Room (k+1) X.A)(hb:Binds X.K fd ps ds)(hd:Vals dvs ds)
  (hx:o9 CX X E) (I:Inv X pins σ H s) (r:Vals vs us)
  (h:∀x dx,H x=none->H dx=none->dx≠x->sp (.ref x::(vs++dvs)) (upd (upd H dx (.own x)) x (.ins C dx [])) (λv H2=>v=.non/\Q (.ref x) H2) E):
  wpAny 'c' X.A (call (.ref C) us) (EP X pins σ Q) X.xe s:=by
 have hq:=h (s.heap.objs.size+1) s.heap.objs.size (I.hok.fresh (YM _)) (I.hok.fresh (YE _)) (ZU (YK _));have I2:=Inv.made (C:=C) I;have r2:Vals (V.ref (s.heap.objs.size+1)::(vs++dvs)) (Value.ref (s.heap.objs.size+1)::(us++ds)):=.cons rfl (r.append hd);have hl:(Value.ref (s.heap.objs.size+1)::us++ds).length=ps.length:=by
  have e:=r2.length;rw[F.len _ _ _ _ hq] at e;exact e.symm
 refine wpAny_call (Cf (f:=f) I.kIn M.makes M.init (beq_iff_eq.mp M.fn) (codeAny_mono (F.run _ X.stack _ _ ⟨Value.ref (s.heap.objs.size+1)::us,[]⟩ (Value.ref (s.heap.objs.size+1)::(us++ds)) _ _ E (hr.make C us [])
  (I2.env0.make C us []) (hb _ (Value.ref (s.heap.objs.size+1)::us) I2.kIn hl) r2 hq) λr s' hq'=>?_))
 cases r with
 |error e=>exact hx pins σ _ _ e s' I2 hq'
 |ok fl=>
  cases fl with
  |ret u=>
   obtain⟨v,H',I3,rv,ev,q3⟩:=I2.after hq';subst ev;exact⟨rv,⟨V.ref (s.heap.objs.size+1),H',I3,rfl,q3⟩⟩
  |next=>exact Yh hq'
  |brk=>exact Yh hq'
  |cont=>exact Yh hq'
theorem Ei(M:Mk X.K C f)(F:FnOk X.prog X.w X.K X.mg X.base CX k f fd ps sp)(hr:Room (k+1) X.A)(hg:Gl X x)(hm:X.mg x=some (.ref C))(hb:Binds X.K fd ps ds)(hd:Vals dvs ds)(hx:o9 CX X E)
  (ha:PA X (e::es) t) (hdb:(x==("__debug__" : Str))=false:=by decide) (he:starEach (e::es) X.env=(false,eval e X.env)::starEach es X.env:=by rfl) (hpl:(backTo pos (starEach es X.env)).any (·.1)=false:=by rfl):
  PE X (.Call (.Name x p) (e::es) [] pos) (HL C sp dvs E t):=by
 intro pins s σ H Q I h;refine wpAny_Call_Name_kw (tZ I hg hm ?_ hdb);refine PySem.W.callWith_K (h₀:=X.base) I.ok.mod.kin M.kp (thn (ha pos pins s σ H _ I h) λus s1 zz60=>?_) he hpl;obtain⟨vs,H1,I1,r,q⟩:=zz60;refine⟨I1.kIn,?_⟩;exact Cg M F hr hb hd hx I1 r q
end
section
variable {X:Cx}{CX:CXT}{k:Nat}{f C:Addr}{fd:Zv}{ps ks:Zf}{sp:Sp}{E:XK}{x m:Str}{p pos apos kpos:Pos}{e o:Expr}{es:Zg}{kws:List Keyword}{te ta:TE}{t tk:TA}{nm:Option Str}
structure KBinds (K:Za) (fd:Zv) (ps ks:Zf) (g:List Value->List Value->List Value) (gV:List V->List V->List V):Prop where
 to:∀(s:Shared) (us ws:Zd),K.In s.heap->(g us ws).length=ps.length->BindsTo s fd ⟨us,ks.zip ws⟩ (ps.zip (g us ws))
 rel:∀{vs:List V}{us:Zd}{zs:List V}{ws:Zd},Vals vs us->Vals zs ws->Vals (gV vs zs) (g us ws)
variable {g:List Value->List Value->List Value}{gV:List V->List V->List V}
end
structure FnScope (N P:Zf) (sc:Scope):Prop where
 kind:sc.kind=.function
 co:sc.isCoroutine=false
 gen:sc.isGenerator=false
 nd:N.Nodup
 pre:N.take P.length=P
 par:∀x∈P,sc.names.lookup x=some .local \/ sc.names.lookup x=some .cell
 nofree:∀y∈sc.names,y.2≠.free
theorem uR{kindOf:Str->Option NameKind}{x:Str}:∀{binds:List (Str×Value)}{m:Ze},(∀v,(x,v)∉binds)->bindL kindOf binds m x=m x
 |[],_,_=>rfl
 |(n,v)::r,m,h=>by
  unfold bindL;rw[uR λw hw=>h w (ZZ _ hw)];split
  ·have:x≠n:=by rintro rfl;exact h v ZY
   simp[this]
  ·rfl
theorem uS{kindOf:Str->Option NameKind}{x:Str}:∀{binds:List (Str×Value)}{m:Ze},(∀v,(x,v)∉binds)->bindC kindOf binds m x=m x
 |[],_,_=>rfl
 |(n,v)::r,m,h=>by
  unfold bindC;rw[uS λw hw=>h w (ZZ _ hw)];split
  ·rfl
  ·have:x≠n:=by rintro rfl;exact h v ZY
   simp[this]
theorem uT{kindOf:Str->Option NameKind}{x:Str}{v:Value}:∀{P:Zf}{vs:Zd}{i:Nat}{m:Ze},P.Nodup->P[i]?=some x->vs[i]?=some v->kindOf x=some .local ->
  bindL kindOf (P.zip vs) m x=some v
 |[],_,_,_,_,h,_,_=>by simp at h
 |_::_,[],_,_,_,_,h,_=>by simp at h
 |p::P,w::vs,0,m,nd,h1,h2,hk=>by
  simp at h1 h2;subst h1;subst h2;show bindL kindOf ((p,w)::P.zip vs) m p=_;unfold bindL;rw[uR λv hv=>(YN.mp nd).1 (List.of_mem_zip hv).1,if_pos hk];simp
 |p::P,w::vs,i+1,m,nd,h1,h2,hk=>by
  show bindL kindOf ((p,w)::P.zip vs) m x=_;unfold bindL;exact uT (i:=i) (YN.mp nd).2 (by simpa using h1) (by simpa using h2) hk
theorem uU{kindOf:Str->Option NameKind}{x:Str}{v:Value}:∀{P:Zf}{vs:Zd}{i:Nat}{m:Ze},P.Nodup->P[i]?=some x->vs[i]?=some v->kindOf x≠some .local ->
  bindC kindOf (P.zip vs) m x=some v
 |[],_,_,_,_,h,_,_=>by simp at h
 |_::_,[],_,_,_,_,h,_=>by simp at h
 |p::P,w::vs,0,m,nd,h1,h2,hk=>by
  simp at h1 h2;subst h1;subst h2;show bindC kindOf ((p,w)::P.zip vs) m p=_;unfold bindC;rw[uS λv hv=>(YN.mp nd).1 (List.of_mem_zip hv).1,if_neg hk];simp
 |p::P,w::vs,i+1,m,nd,h1,h2,hk=>by
  show bindC kindOf ((p,w)::P.zip vs) m x=_;unfold bindC;exact uU (i:=i) (YN.mp nd).2 (by simpa using h1) (by simpa using h2) hk
def start(N:Zf)(vs:List V):St:=vs.map some++List.replicate (N.length-vs.length) none
def cxOf(CX:CXT)(P:Zw)(w:World)(K:Za)(mg:Ze)(base:Heap)(N:Zf)(qual:Str)(scope:Scope)(f:Addr)(cd:Value)(A:Around)(outer:List Env)(s:Shared)(H:Hp)(E:XK):Cx where
 prog:=P
 w:=w
 K:=K
 mg:=mg
 base:=base
 A:=A.deeper (envOfC qual scope s.heap.objs.size f cd)
 N:=N
 s₀:=s
 H₀:=H
 env:=envOfC qual scope s.heap.objs.size f cd
 outer:=outer
 stack:=envOfC qual scope s.heap.objs.size f cd::outer
 ex:=[]
 calm:=true
 fn:=λ_=>true
 pn:=[]
 xe:=λe s'=>wpAny (model P w) (A.deeper (envOfC qual scope s.heap.objs.size f cd)) (leaving (envOfC qual scope s.heap.objs.size f cd) e) (λ_ s''=>CX outer H s E e s'') (λe' s''=>CX outer H s E e' s'') s'
theorem vT{sc:Scope}{n:Nat}{x:Str}(h:sc.names.lookup x=some .cell):∃c,(cellsFrom n sc.names []).lookup x=some c:=by
 have q:=PySem.W.cellsFrom_some sc.names n [] (.inl h);exact Option.isSome_iff_exists.mp q
theorem Av{CX:CXT}{P:Zw}{w:World}{K:Za}{mg:Ze}{base:Heap}{N ps:Zf}{qual:Str}{scope:Scope}{f:Addr}{cd:Value}{A:Around}{outer:List Env}{s s1:Shared}{H:Hp}{E:XK}{us:Zd}{vs:List V}
  (S:FnScope N ps scope) (hd:A.handled=none) (e0:Env0 P w K mg base A outer s H) (hl:vs.length=ps.length) (r:Vals vs us)
  (x:InCallC s s.heap.objs.size (bindL (envOfC qual scope s.heap.objs.size f cd).kindOf (ps.zip us) λ_=>none) (cellsFrom (s.heap.objs.size+1) scope.names []) (bindC (envOfC qual scope s.heap.objs.size f cd).kindOf (ps.zip us) λ_=>none) s1):
  Inv (cxOf CX P w K mg base N qual scope f cd A outer s H E) [] (start N vs) H s1:=by
 have hpl:ps.length<=N.length:=by have:=congrArg List.length S.pre;rw[List.length_take] at this;omega
 obtain⟨h1,tk,rfl,hk⟩:=x.done;have noA:∀b:Addr,b∉(cxOf CX P w K mg base N qual scope f cd A outer s H E).ex:=λb z=>absurd (show b∈([]:List Addr) from z) (by simp)
 refine⟨⟨e0.mod,S.kind,rfl,rfl,YE _,λy z c h1 h2=>?_,λy hy=>?_,λy c _ h=>?_,λ_=>hd,Around.frames_deeper e0.frames,.inr ⟨rfl,rfl⟩,λb z=>absurd z (noA b),e0.bs,e0.bsz,λb _ _=>noA b,λb z=>absurd z (noA b),e0.funs,e0.frf⟩,
  rfl,e0.bare,Un.kept hk,⟨_,x.toInCall.ns,λi y v h1 h2 h3=>?_⟩,λy c h=>⟨_,x.cell y c h⟩,e0.hok.fresh (YE _),λy c h=>?_,λp hp=>absurd (show p∈([]:List (Addr×Obj)) from hp) (by simp),e0.hok.kept hk,?_⟩
 ·exact name_of_addr x.apart (PySem.mem_of_lookup h1) (PySem.mem_of_lookup h2)
 ·have hy:scope.names.lookup y=some .cell\/scope.names.lookup y=some .free:=hy
  rcases hy with hy | hy
  ·exact vT hy
  ·exact absurd rfl (S.nofree _ (PySem.mem_of_lookup hy))
 ·exact Nat.le_of_lt (x.above y c (PySem.mem_of_lookup h))
 ·have hi:i<vs.length:=by
   unfold start at h2;by_cases hi:i<vs.length
   ·exact hi
   ·rw[ZG (by simpa using hi)] at h2
    rw[List.getElem?_replicate] at h2;split at h2<;>cases h2
  have ha:vs[i]?=some v:=by
   unfold start at h2;rw[ZD (by simpa using hi),ZF] at h2;cases e:vs[i]? with
   |none=>rw[e] at h2;cases h2
   |some a=>rw[e] at h2;cases h2;rfl
  obtain⟨u,hu,rv⟩:=r.get ha;have hp:ps[i]?=some y:=by
   rw[←S.pre,List.getElem?_take_of_lt 'b'];exact h1
  have ndP:ps.Nodup:=by rw[←S.pre];exact S.nd.sublist (List.take_sublist _ _)
  refine⟨u,rv,?_⟩;rcases S.par y (YR hp) with k | k
  ·exact .inl ⟨k,uT ndP hp hu k⟩
  ·obtain⟨c,e⟩:=vT (n:=s.heap.objs.size+1) k
   refine .inr ⟨.inl k,c,e,?_⟩;have q:=x.cell y c e;rw[uU ndP hp hu (by show scope.names.lookup y≠_;rw[k];decide)] at q;exact q
 ·exact e0.hok.fresh (Nat.le_of_lt (x.above y c (PySem.mem_of_lookup h)))
 ·unfold start
  show _=N.length;rw[ZJ,ZE,List.length_replicate];omega
theorem HM{CX:CXT}{P:Zw}{w:World}{K:Za}{mg:Ze}{base:Heap}{k:Nat}{f:Addr}{name qual:Str}{params:Arguments}{body:Zu}{scope:Scope}{dV kV doc pm cdv ct oc:Value}{an od:Zm}
  {osl:Zn}{N ps:Zf}{sp:Sp}(lk:K.lookup f=some ⟨oc,od,.func (PySem.W.fnOf name qual params body scope dV kV doc pm an cdv ct),osl⟩) (hcd:PySem.W.codeIn K cdv qual=true) (S:FnScope N ps scope)
  (len:∀vs H Q E,sp vs H Q E->vs.length=ps.length)
  (hbody:∀(A:Around) (outer:List Env) (s:Shared) (H:Hp) (vs:List V) (Q:VK) (E:XK),Room k (A.deeper (envOfC qual scope s.heap.objs.size f cdv))->sp vs H Q E ->
   ∃t,PSs (cxOf CX P w K mg base N qual scope f cdv A outer s H E) body t/\t { nx:=λ_ H'=>Q .non H',rt:=Q } (start N vs) H):
  FnOk P w K mg base CX (k+1) f (PySem.W.fnOf name qual params body scope dV kV doc pm an cdv ct) ps sp:=by
 refine⟨len,λA outer s H args us vs Q E hr e0 hb r hsp=>?_⟩;have hl:=len _ _ _ _ hsp;have KX:K.In s.heap:=e0.mod.kin.keeps λb o e=>(e0.bs b o e).1
 have lim:s.heap.NoLimit:=e0.mod.nolimit.keeps λb o e=>(e0.bs b o e).1
 have hkind:∀y∈ps.zip us,scope.names.lookup y.1=some .local \/ (scope.names.lookup y.1=some .cell/\((cellsFrom (s.heap.objs.size+1) scope.names []).lookup y.1).isSome=true):=λ⟨n,v⟩ hy=>by
  rcases S.par n (List.of_mem_zip hy).1 with q | q
  ·exact .inl q
  ·exact .inr ⟨q,PySem.W.cellsFrom_some _ _ _ (.inl q)⟩
 refine codeAny_call_function hr.depth (KX _ _ lk) rfl S.co S.gen rfl (PySem.W.codeRec_of KX hcd) (hb _ _ _ _ ?_);refine wpAny_newFunctionEnv_cells S.kind hkind λenv he s1 x=>?_
 subst he;refine⟨lim.keeps x.toInCall.keep,codeAny_func ?_⟩;obtain⟨t,ht,hq⟩:=hbody A outer s H vs Q E (hr.deeper _) hsp;have I:Inv (cxOf CX P w K mg base N qual scope f cdv A outer s H E) [] (start N vs) H s1:=Av S hr.hd e0 hl r x;refine wpAny_mono (ht [] s1 (start N vs) H _ I hq) (λfl s' hs=>?_) λe s' hs=>hs
 have fin:∀{σ':St}{H':Hp}{v:V}{u:Value},Inv (cxOf CX P w K mg base N qual scope f cdv A outer s H E) [] σ' H' s'->RelV v u->Q v H'->CE outer P w H s Q u s':=
  λ{σ' H' v u} J rv q=>⟨v,H',J.os,J.bare,J.base,J.hok,rv,q⟩
 cases fl with
 |ret u=>
  obtain⟨v,σ',H',J,rv,q⟩:=hs;exact fin J rv q
 |next=>
  obtain⟨σ',H',J,q⟩:=hs;exact fin (v:=V.non) (u:=Value.none) J rfl q
 |brk=>
  obtain⟨_,_,_,q⟩:=hs;exact Yh q
 |cont=>
  obtain⟨_,_,_,q⟩:=hs;exact Yh q
section
variable {X:Cx}{x:Str}{p pos:Pos}{e:Expr}{es:Zg}{t:TA}{id T:String}{r:List V->Hp->VK->Prop}
def tCB(r:List V->Hp->VK->Prop)(t:TA):TE:=λσ H Q=>t σ H λvs H1=>r vs H1 Q
theorem Ch(hc:fI X (.builtin id) r)(hg:Gl X x)(hm:X.mg x=none)(hv:bootBuiltins x=some (.builtin id))(ha:PA X (e::es) t)(hn:x ≠ "__name__":=by decide)(hdb:(x==("__debug__" : Str))=false:=by decide)
  (he:starEach (e::es) X.env=(false,eval e X.env)::starEach es X.env:=by rfl) (hpl:(backTo pos (starEach es X.env)).any (·.1)=false:=by rfl):PE X (.Call (.Name x p) (e::es) [] pos) (tCB r t):=by
 intro pins s σ H Q I h;refine wpAny_Call_Name_kw (cM I hg hm hv ?_ hn hdb);refine PyProof.Rows.callWith_builtin1 (thn (ha pos pins s σ H _ I h) λus s1 zz65=>?_) he hpl;obtain⟨vs,H1,I1,r1,q1⟩:=zz65;exact hc pins s1 σ H1 vs us Q I1 r1 q1
theorem Aw(hc:fI X (.type T) r)(hg:Gl X x)(hm:X.mg x=none)(hv:bootBuiltins x=some (.type T))(ha:PA X (e::es) t)(hn:x ≠ "__name__":=by decide)(hdb:(x==("__debug__" : Str))=false:=by decide)
  (he:starEach (e::es) X.env=(false,eval e X.env)::starEach es X.env:=by rfl) (hpl:(backTo pos (starEach es X.env)).any (·.1)=false:=by rfl):PE X (.Call (.Name x p) (e::es) [] pos) (tCB r t):=by
 intro pins s σ H Q I h;refine wpAny_Call_Name_kw (cM I hg hm hv ?_ hn hdb);refine PyProof.Rows.callWith_type1 (thn (ha pos pins s σ H _ I h) λus s1 zz66=>?_) he hpl;obtain⟨vs,H1,I1,r1,q1⟩:=zz66;exact hc pins s1 σ H1 vs us Q I1 r1 q1
end
end L2
namespace HT
open PySem PyProof.Rows
def lexLt:List Int->List Int->Bool
 |[],[]=>false
 |[],_::_=>true
 |_::_,[]=>false
 |x::xs,y::ys=>if x=y then lexLt xs ys else decide (x<y)
theorem nE(x y:Int)(xs ys:Zi):lexLt (x::xs) (y::ys)=if x=y then lexLt xs ys else decide (x<y):=rfl
theorem oC:lexLt [] []=false:=rfl
theorem t5(y:Int)(ys:Zi):lexLt [] (y::ys)=true:=rfl
theorem t6(x:Int)(xs:Zi):lexLt (x::xs) []=false:=rfl
theorem Ci(A:Around)(s:Shared)(a:Int)(t:Tok)(c:Int)(u:Tok):∃e,SeqAt.EqAt A s (.int a t) (.int c u) e/\(e=true↔a=c):=
 ⟨(a==c),SeqAt.EqAt.int_int a t c u,by simp⟩
theorem Cj(A:Around)(s:Shared)(a:Int)(t:Tok)(c:Int)(u:Tok)(prog:Zw)(w:World)(E:Zb)(Q:Zb)(h:Q (.bool (decide (a<c))) s):
  wpAny (model prog w) A (richCompare .Lt (.int a t) (.int c u)) Q E s:=
 (PyProof.Rows.lt_int h:wpAny (model prog w) A (compareOp .Lt (.int a t) (.int c u)) Q E s)
section
open PySem.SeqAt
open PySem.AutoSeq1 (wpAny_loadPart')
open PySem.MeetsSeq PySem.MeetsSeq2 PySem.MeetsSeq3
theorem vo(l b:Addr)(items items2:Zl)(n n2:Nat)(dd dd2:Zm)(sl sl2:Zn)(ns ms:Zi)(hi:IntsAre items.toList ns)(hj:IntsAre items2.toList ms):
  Meets (Builtin.«tuple.__lt__» ⟨[.ref l,.ref b],[]⟩)
   (λ_ R s=>s.heap.get? l=some { cls:=.type "tuple",dict:=dd,data:=.seq items n,slots:=sl }/\s.heap.get? b=some { cls:=.type "tuple",dict:=dd2,data:=.seq items2 n2,slots:=sl2 } /\
    R (.ok (.ret (.bool (lexLt ns ms)))) s):=
 .of_wp λprog w A R s h=>by
  obtain⟨hp,g,d,tk,os⟩:=s;obtain⟨hl,hb,h⟩:=h;have f2:=AutoSeq1.sub_tuple_tuple;have z1:items.size=ns.length:=by rw[←hi.length];simp
  have z2:items2.size=ms.length:=by rw[←hj.length];simp
  wp_walk using wpAny_loadPart' hl,wpAny_loadPart' hb,wpAny_forIn_list _ (λrest b s'=>b.1=none/\s'=⟨hp,g,d,tk,os⟩/\∃(vs ws:Zd) (ns' ms':Zi),rest=vs.zip ws /\
   IntsAre vs ns'/\IntsAre ws ms'/\ns'.length+items2.size=ms'.length+items.size/\R (.ok (.ret (.bool (lexLt ns' ms')))) ⟨hp,g,d,tk,os⟩) _
  case turn=>
   rintro⟨y,x⟩ rest b s' ⟨hb',rfl,vs,ws,ns',ms',hz,hvi,hwi,hlen,hR⟩;cases hvi with
   |nil=>rw[List.zip_nil_left] at hz;cases hz
   |cons a t hvi'=>
    cases hwi with
    |nil=>rw[List.zip_nil_right] at hz;cases hz
    |cons c u hwi'=>
     rw[List.zip_cons_cons] at hz;injection hz with hyx hrest
     injection hyx with hy hx
     subst hy hx;rw[nE] at hR;simp only[YH] at hlen;obtain⟨e,he,hiff⟩:=Ci A.in1 ⟨hp,g,d,tk,os⟩ a t c u;refine Yb (he prog w _ _ ?_);cases e with
     |true=>
      rw[if_pos (hiff.mp rfl)] at hR;wp_walk;exact⟨rfl,rfl,_,_,_,_,hrest,hvi',hwi',by omega,hR⟩
     |false=>
      rw[if_neg (λq=>absurd (hiff.mpr q) YD)] at hR;have hri:=Cj A.in1 ⟨hp,g,d,tk,os⟩ a t c u prog w;wp_walk using hri;exact⟨_,rfl,by simpa using hR⟩
  case fin=>
   rintro⟨b1,b2⟩ s' ⟨hb',rfl,vs,ws,ns',ms',hz,hvi,hwi,hlen,hR⟩;simp only at hb';subst hb';have hv:lexLt ns' ms'=decide (items.size<items2.size):=by
    cases hvi with
    |nil=>
     cases hwi with
     |nil=>
      simp only[YS] at hlen;rw[oC];exact(ZQ 'b').symm
     |cons c u hw=>
      simp only[YS,YH] at hlen;rw[t5];exact(YT 'b').symm
    |cons a t hv=>
     cases hwi with
     |nil=>
      simp only[YS,YH] at hlen;rw[t6];exact(ZQ 'b').symm
     |cons c u hw=>
      rw[List.zip_cons_cons] at hz;cases hz
   rw[hv] at hR;wp_walk;exact⟨_,rfl,by simpa [Builtin.Tuple.tupleCompareSizes] using hR⟩
  case h=>
   exact⟨rfl,rfl,items.toList,items2.toList,ns,ms,rfl,hi,hj,by omega,h⟩
end
section
variable {prog:Zw}{w:World}{A:Around}{E:Zb}{s:Shared}
theorem zi{l b:Addr}{items items2:Zl}{ns ms:Zi}{Q:Zb}(hl:IsTup s.heap l items)(hb:IsTup s.heap b items2)(hi:IntsAre items.toList ns)(hj:IntsAre items2.toList ms)
  (hu:A.units<cLine) (h:Q (.bool (lexLt ns ms)) s):wpAny (model prog w) A (compareOp .Lt (.ref l) (.ref b)) Q E s:=by
 obtain⟨⟨cls,dd,data,sl⟩,ho,hc,n,hd⟩:=id hl;obtain⟨⟨cls2,dd2,data2,sl2⟩,ho2,hc2,n2,hd2⟩:=id hb;simp only at hc hd hc2 hd2;subst hc hd hc2 hd2;exact richCompare_meets_room (op:=.Lt) ⟨_,ho,rfl⟩ ⟨_,ho2,rfl⟩ PySem.F.slot_tuple_lt PySem.F.entry_tuple_lt (PySem.F.args_tuple_lt_2 _ _) (vo l b items items2 n n2 dd dd2 sl sl2 ns ms hi hj)
  ⟨ho,ho2,show Value.bool (lexLt ns ms)≠Value.notImplemented/\Q (.bool (lexLt ns ms)) s from⟨(λx=>nomatch x),h⟩⟩ hu
theorem Ej{t b:Addr}{vs ws:Zd}{Q:Zb}(ht:IsTup s.heap t vs.toArray)(hb:IsTup s.heap b ws.toArray)(hv:vs≠[])
  (h1:ws=[]->Q (.ref t) s) (h2:ws≠[]->Q (.ref s.heap.objs.size) { s with heap:=s.heap.push { cls:=.type "tuple",data:=.seq (vs++ws).toArray } })
  (hsz:vs.length+ws.length<=sizeLine):wpAny (model prog w) A (binaryOp .Add (.ref t) (.ref b)) Q E s:=by
 obtain⟨⟨cls,dd,data,sl⟩,ho,hc,n,hd⟩:=id ht;obtain⟨⟨cls2,dd2,data2,sl2⟩,ho2,hc2,n2,hd2⟩:=id hb;simp only at hc hd hc2 hd2;subst hc hd hc2 hd2;have e:vs.toArray++ws.toArray=(vs++ws).toArray:=by simp
 by_cases hw:ws=[]
 ·exact concat_meets ⟨_,ho,rfl⟩ ⟨_,ho2,rfl⟩ noFill_tuple_add seq_tuple_add PySem.F.slot_tuple_add PySem.F.entry_tuple_add (PySem.F.args_tuple_add_2 _ _)
   (tuple_addW1 t b vs.toArray ws.toArray n n2 dd dd2 sl sl2 (by simpa using hv) (by simp[hw])) ⟨ho,ho2,h1 hw⟩
 ·refine concat_meets ⟨_,ho,rfl⟩ ⟨_,ho2,rfl⟩ noFill_tuple_add seq_tuple_add PySem.F.slot_tuple_add PySem.F.entry_tuple_add (PySem.F.args_tuple_add_2 _ _)
   (tuple_addW2 t b vs.toArray ws.toArray n n2 dd dd2 sl sl2 (by simpa using hv) (by simpa using hw) (by rw[YG,YG];exact hsz)) ⟨ho,ho2,?_⟩
  rw[e];exact h2 hw
def sIx(n d:Nat):Option Int->Nat
 |none=>d
 |some v=>if v<0 then(v+(n:Int)).toNat else min v.toNat n
theorem Ck(n d:Nat):sIx n d none=d:=rfl
theorem Ek(n d k:Nat):sIx n d (some (k:Int))=min k n:=by
 show(if(k:Int)<0 then((k:Int)+(n:Int)).toNat else min (k:Int).toNat n)=min k n;rw[if_neg 'b',YU]
theorem Gk(n d:Nat)(hd:d<=n)(o:Zq):sIx n d o<=n:=by
 cases o with
 |none=>exact hd
 |some v=>
  show(if v<0 then(v+(n:Int)).toNat else min v.toNat n)<=n;by_cases hv:v<0
  ·rw[if_pos hv];omega
  ·rw[if_neg hv];exact Nat.min_le_right _ _
theorem yo(v:Int)(n d:Nat):(if v<0 then max (v+(n:Int)) 0 else min v (n:Int))=((sIx n d (some v):Nat):Int):=by
 show(if v<0 then max (v+(n:Int)) 0 else min v (n:Int))=(((if v<0 then(v+(n:Int)).toNat else min v.toNat n):Nat):Int);by_cases hv:v<0
 ·simp only[if_pos hv];omega
 ·simp only[if_neg hv];omega
theorem zj(lo hi:Zq)(n:Nat):Builtin.Slice.sliceAdjust lo hi 1 (n:Int)=(((sIx n 0 lo:Nat):Int),((sIx n n hi:Nat):Int)):=by
 have h1:¬((1:Int)<0):=by omega
 unfold Builtin.Slice.sliceAdjust;simp only[h1,if_false];refine Prod.ext ?_ ?_
 ·cases lo with
  |none=>rfl
  |some v=>exact yo v n 0
 ·cases hi with
  |none=>rfl
  |some v=>exact yo v n n
theorem zk(i j:Nat):Builtin.Slice.slicePlaces (i:Int) (j:Int) 1=j-i:=by
 unfold Builtin.Slice.slicePlaces;have h1:(1:Int)>0:=by omega
 simp only[h1,if_true,Int.ediv_one];split<;>omega
theorem rV{v:Value}{o:Zq}{Q:Option Int->Shared->Prop}(p:IsPart v o)(h:Q o s):wpAny (model prog w) A (Builtin.Slice.slicePartIndex v) Q E s:=by
 cases p with
 |none=>exact slicePart_none h
 |int i t=>exact slicePart_int h
theorem kA{sl:Addr}{vl vu:Value}{lo hi:Zq}{n:Nat}{Q:Int×Int×Nat->Shared->Prop}(hs:s.heap.IsSliceOf sl vl vu .none)(pl:IsPart vl lo)(pu:IsPart vu hi)
  (h:Q (((sIx n 0 lo:Nat):Int),1,sIx n n hi-sIx n 0 lo) s):wpAny (model prog w) A (Builtin.Slice.sliceApplied (.ref sl) (pure (n:Int))) Q E s:=by
 obtain⟨os,hos,hcs,hds⟩:=id hs;unfold Builtin.Slice.sliceApplied Builtin.Slice.sliceFields;refine Yb (Yb (wpAny_field hos hds (x:=vl) rfl (Yb (wpAny_field hos hds (x:=vu) rfl (Yb (wpAny_field hos hds (x:=.none) rfl (Yc ?_)))))));refine Yb (slicePart_none ?_);show wpAny _ _ (if((1:Int)==0)=true then _ else _) _ _ s;rw[if_neg 'a'];refine Yb (rV pl (Yb (rV pu (Yb (Yc ?_)))));show wpAny _ _ (match Builtin.Slice.sliceAdjust lo hi 1 (n:Int) with | (lo,hi)=>pure (lo,(1:Int),Builtin.Slice.slicePlaces lo hi 1)) _ _ s;rw[zj lo hi n];show wpAny _ _ (pure (((sIx n 0 lo:Nat):Int),(1:Int),Builtin.Slice.slicePlaces ((sIx n 0 lo:Nat):Int) ((sIx n n hi:Nat):Int) 1)) _ _ s;rw[zk];exact Yc h
theorem Cl(xs:Zl)(i k:Nat):((List.range k).filterMap λ(m:Nat)=>xs[((i:Int)+(m:Int)*1).toNat]?).toArray=((xs.toList.drop i).take k).toArray:=by
 have e:(λ(m:Nat)=>xs[((i:Int)+(m:Int)*1).toNat]?)=λm=>xs[i+m]?:=by
  funext m;have:((i:Int)+(m:Int)*1).toNat=i+m:=by omega
  rw[this]
 rw[e]
 have:=pick_run xs i k
 rw[List.filterMap_map] at this;have e2:((λx=>xs[x]?)∘λx=>i+x)=λm=>xs[i+m]?:=rfl
 rw[e2] at this;rw[this]
theorem qE{t sl:Addr}{items:Zl}{vl vu:Value}{lo hi:Zq}{Q:Zb}(ht:IsTup s.heap t items)(hs:s.heap.IsSliceOf sl vl vu .none)(pl:IsPart vl lo)(pu:IsPart vu hi)
  (hw:¬(sIx items.size 0 lo=0/\sIx items.size items.size hi=items.size))
  (h:Q (.ref s.heap.objs.size) { s with heap:=s.heap.push { cls:=.type "tuple",data:=.seq ((items.toList.drop (sIx items.size 0 lo)).take (sIx items.size items.size hi-sIx items.size 0 lo)).toArray } })
  (hsz:items.size<=sizeLine):wpAny (model prog w) A (getItem (.ref t) (.ref sl)) Q E s:=by
 have htake:sizeOk (.seq ((items.toList.drop (sIx items.size 0 lo)).take (sIx items.size items.size hi-sIx items.size 0 lo)).toArray):=by
  show((items.toList.drop (sIx items.size 0 lo)).take (sIx items.size items.size hi-sIx items.size 0 lo)).toArray.size<=sizeLine;rw[YG,List.length_take,List.length_drop,Array.length_toList];omega
 have hj:sIx items.size items.size hi<=items.size:=Gk _ _ (YE _) hi;obtain⟨os,hos,hcs,hds⟩:=id hs;have hTs:s.TypeIs (.ref sl) "slice":=⟨os,hos,hcs⟩;unfold getItem;try with_reducible refine Yj ?_
 first | refine Yb (Yc ?_) | skip
 refine Yb (wpAny_sequenceKey ht.typeIs 'a' ?_);refine Yb (wpAny_callSpecial?_slot (name:=Str.ofString "__getitem__") ht.typeIs PyProof.Rows.slot_tuple_getitem
  (wpAny_call_entry PyProof.Rows.slot_tuple_getitem ht.typeIs entry_tuple_getitem ?_ (args_tuple_getitem _ _)))
 show wpAny _ _ (Builtin.Tuple.tupleItemsOf (.ref t) >>= _) _ _ s;refine Yb (tupleItemsOf_ ht ?_);refine Yb (wpAny_typeOf hTs ?_);rw[if_pos 'a'];refine Yb (kA hs pl pu ?_);have hno:¬((((sIx items.size 0 lo:Nat):Int)==0&&(1:Int)==1&&(sIx items.size items.size hi-sIx items.size 0 lo)==items.size)=true):=by
  intro q;rw[YV,YV] at q;have q1:((sIx items.size 0 lo:Nat):Int)=0:=eq_of_beq q.1.1;have q2:sIx items.size items.size hi-sIx items.size 0 lo=items.size:=eq_of_beq q.2;exact hw ⟨by omega,by omega⟩
 show wpAny _ _ (if(((sIx items.size 0 lo:Nat):Int)==0&&(1:Int)==1&&(sIx items.size items.size hi-sIx items.size 0 lo)==items.size)=true then _ else _) _ _ s;rw[if_neg hno,Cl];first
  |exact Yb (m:=Builtin.Tuple.tupleExact _) (wpAny_newObj_type (Yc ⟨_,rfl,Yc h⟩) htake)
  |exact Yb (m:=Builtin.Tuple.tupleExact _) (wpAny_newObj_type (Yb (Yc (Yc ⟨_,rfl,Yc h⟩))) htake)
  |exact Yb (Yb (m:=Builtin.Tuple.tupleExact _) (wpAny_newObj_type (Yc (Yc ⟨_,rfl,Yc h⟩)) htake))
  |exact Yb (Yb (m:=Builtin.Tuple.tupleExact _) (wpAny_newObj_type (Yc ⟨_,rfl,Yc h⟩) htake))
end
end HT
namespace L2
open PySem PySem.Spec PyProof.Rows
abbrev TO:=St->Hp->(Option Int->Hp->Prop)->Prop
def PO(X:Cx)(e:Option Expr)(t:TO):Prop:=
 ∀(pins:Zc) (s:Shared) (σ:St) (H:Hp) (Q:Option Int->Hp->Prop),Inv X pins σ H s->t σ H Q ->
  wpAny 'c' X.A (evalPart e X.env) (λu s'=>∃o H',Inv X pins σ H' s'/\IsPart u o/\Q o H') X.xe s
def El:TO:=λ_ H Q=>Q none H
def HN(t:TE):TO:=λσ H Q=>t σ H λx H1=>∃i,x=.int i/\Q (some i) H1
theorem intsAre_of{ns:Zi}:∀{us:Zd},Vals (ns.map V.int) us->IntsAre us ns:=by
 induction ns with
 |nil=>intro us r;rw[YW] at r;cases r;exact .nil
 |cons n ns ih=>
  intro us r;rw[YJ] at r;cases r with
  |cons r1 r2=>
   obtain⟨t,e⟩:=r1;subst e;exact .cons n t (ih r2)
section
variable {X:Cx}{e:Expr}{te:TE}{lo hi:Option Expr}{tl th:TO}{pos p2:Pos}
theorem Em:PO X none El:=by
 intro pins s σ H Q I h;rw[evalPart_none];exact Yc ⟨none,H,I,.none,h⟩
theorem En(h:PE X e te):PO X (some e) (HN te):=by
 intro pins s σ H Q I hw;rw[evalPart_some];refine thn (h pins s σ H _ I hw) λu s1 zz67=>?_
 obtain⟨x,H1,I1,r1,q1⟩:=zz67;obtain⟨i,rfl,q⟩:=q1;obtain⟨t,rfl⟩:=r1;exact⟨some i,H1,I1,.int i t,q⟩
def SlR(X:Cx)(r:V->Option Int->Option Int->Hp->VK->Prop):Prop:=
 ∀(pins:Zc) (s:Shared) (σ:St) (H:Hp) (x:V) (v vl vu:Value) (lo hi:Zq) (sl:Addr) (Q:VK),Inv X pins σ H s->RelV x v->s.heap.IsSliceOf sl vl vu .none->IsPart vl lo->IsPart vu hi->r x lo hi H Q ->
  ∃T id,typeLookup (.type T) "__getitem__" = pure (some (.builtin id))/\s.TypeIs v T/\wpAny 'c' X.A (getItem v (.ref sl)) (EP X pins σ Q) X.xe s
def tSl(r:V->Option Int->Option Int->Hp->VK->Prop)(te:TE)(tl th:TO):TE:=λσ H Q=>te σ H λx H1=>tl σ H1 λl H2=>th σ H2 λu H3=>r x l u H3 Q
theorem Cm{r:V->Option Int->Option Int->Hp->VK->Prop}(hr:SlR X r)(he:PE X e te)(hl:PO X lo tl)(hu:PO X hi th):PE X (.Subscript e (.Slice lo hi none p2) pos) (tSl r te tl th):=by
 intro pins s σ H Q I h;refine Subscript_ (thn (he pins s σ H _ I h) λv s1 zz68=>?_);obtain⟨x,H1,I1,r1,q1⟩:=zz68;refine wpAny_Slice (thn (hl pins s1 σ H1 _ I1 q1) λvl s2 zz69=>?_);obtain⟨l,H2,I2,pl,q2⟩:=zz69;refine thn (hu pins s2 σ H2 _ I2 q2) λvu s3 zz70=>?_
 obtain⟨u,H3,I3,pu,q3⟩:=zz70;rw[evalPart_none];refine Yc ?_;have I4:Inv X pins σ H3 { s3 with heap:=s3.heap.push { cls:=.type "slice",data:=.fields #[vl,vu,.none] } }:=I3.kept (t':=s3.toks) λb ob q=>Yd _ q
 obtain⟨T,id,hT,ht,hg⟩:=hr pins { s3 with heap:=s3.heap.push { cls:=.type "slice",data:=.fields #[vl,vu,.none] } } σ H3 x v vl vu l u s3.heap.objs.size Q I4 r1 (Heap.IsSliceOf.new ..) pl pu q3;show wpAny 'c' X.A (subscriptTail e (.Slice lo hi none p2) v (.ref s3.heap.objs.size)) (EP X pins σ Q) X.xe { s3 with heap:=s3.heap.push { cls:=.type "slice",data:=.fields #[vl,vu,.none] } };exact tail_any (ops:=[.ref s3.heap.objs.size,v]) ht hT hg (by with_unfolding_all rfl)
def cutV(xs:List V)(lo hi:Zq):List V:=(xs.drop (HT.sIx xs.length 0 lo)).take (HT.sIx xs.length xs.length hi-HT.sIx xs.length 0 lo)
theorem qK(xs:List V)(lo hi:Zq):(cutV xs lo hi).length<=xs.length:=by
 unfold cutV;rw[List.length_take,List.length_drop];omega
def rSlT(K:Za):V->Option Int->Option Int->Hp->VK->Prop:=λx lo hi H Q=>∃a xs,x=.ref a/\SqT K H a xs /\
 ¬(HT.sIx xs.length 0 lo=0/\HT.sIx xs.length xs.length hi=xs.length)/\∀p,H p=none->Q (.ref p) (upd H p (.tup (cutV xs lo hi)))
theorem Gm:SlR X (rSlT X.K):=by
 intro pins s σ H x v vl vu lo hi sl Q I rx hs pl pu h;obtain⟨a,xs,rfl,hx,hw,q⟩:=h;cases rx;obtain⟨its,r,ht,hz⟩:=I.tuple hx;have hlen:its.toArray.size=xs.length:=by rw[YG];exact r.length.symm
 refine⟨"tuple",_,PyProof.Rows.slot_tuple_getitem.lookup,ht.typeIs,?_⟩;refine HT.qE ht hs pl pu (by rw[hlen];exact hw) ?_ (by rw[hlen];exact hz);rw[hlen];refine⟨.ref s.heap.objs.size,_,I.laid (t':=s.toks) (o:=.tup (cutV xs lo hi)) (λb ob q=>Yd _ q) (YE _) ?_,rfl,q _ (I.hok.fresh (YE _))⟩;exact⟨ZX (qK xs lo hi) hz,_,(r.drop (HT.sIx xs.length 0 lo)).take (HT.sIx xs.length xs.length hi-HT.sIx xs.length 0 lo),IsTup.new _ _⟩
def HP(K:Za):R2:=λx y H Q=>∃a b xs ys,x=.ref a/\y=.ref b/\SqT K H a xs/\SqT K H b ys/\xs≠[]/\xs.length+ys.length<=sizeLine /\
 (ys=[]->Q (.ref a) H)/\(ys≠[]->∀p,H p=none->Q (.ref p) (upd H p (.tup (xs++ys))))
theorem Vals.nil_iff{xs:List V}{us:Zd}(r:Vals xs us):us=[]↔xs=[]:=by
 cases r with
 |nil=>simp
 |cons _ _=>simp
theorem Ep:OpR X (binaryOp .Add) (HP X.K):=by
 intro pins s σ H x y v u Q I rx ry h;obtain⟨a,b,xs,ys,rfl,rfl,ha,hb,hx,hz,q1,q2⟩:=h;cases rx;cases ry;obtain⟨its,r1,p1,_⟩:=I.tuple ha;obtain⟨its2,r2,p2,_⟩:=I.tuple hb;refine HT.Ej p1 p2 (λz=>hx (r1.nil_iff.mp z)) (λz=>⟨.ref a,H,I,rfl,q1 (r2.nil_iff.mp z)⟩) (λz=>?_) (by rw[←r1.length,←r2.length];exact hz);refine⟨.ref s.heap.objs.size,_,I.laid (t':=s.toks) (o:=.tup (xs++ys)) (λb ob q=>Yd _ q) (YE _) ?_,rfl,q2 (λw=>z (r2.nil_iff.mpr w)) _ (I.hok.fresh (YE _))⟩;exact⟨by rw[ZJ];exact hz,_,r1.append r2,IsTup.new _ _⟩
end
def ixN(n:Nat)(i:Int):Option Nat:=if 0<=i then(if i<n then some i.toNat else none) else if -(n:Int)<=i then some (i+n).toNat else none
def atI{α:Type}(xs:List α)(i:Int):Option α:=(ixN xs.length i).bind λj=>xs[j]?
theorem yp{n:Nat}{i:Int}{j:Nat}(h:ixN n i=some j):seqIndex? i n=some j/\j<n/\-(n:Int)<=i/\i<n:=by
 unfold ixN at h;by_cases h0:0<=i
 ·rw[if_pos h0] at h
  by_cases h1:i<n
  ·rw[if_pos h1] at h
   have e:i.toNat=j:=Yi h;exact⟨by rw[seqIndex_of h0 h1,e],by omega,by omega,h1⟩
  ·rw[if_neg h1] at h;cases h
 ·rw[if_neg h0] at h
  by_cases h1:-(n:Int)<=i
  ·rw[if_pos h1] at h
   have e:(i+n).toNat=j:=Yi h;exact⟨by rw[seqIndex_neg 'b' h1,e],by omega,h1,by omega⟩
  ·rw[if_neg h1] at h;cases h
theorem t7{α:Type}{xs:List α}{i:Int}{v:α}(h:atI xs i=some v):∃j,seqIndex? i xs.length=some j/\xs[j]?=some v/\j<xs.length/\-(xs.length:Int)<=i/\i<xs.length:=by
 unfold atI at h;cases e:ixN xs.length i with
 |none=>rw[e] at h;cases h
 |some j=>
  rw[e] at h;obtain⟨h1,h2,h3,h4⟩:=yp e;exact⟨j,h1,h,h2,h3,h4⟩
theorem cN{α:Type}{xs:List α}{j:Nat}{v:α}(h:xs[j]?=some v):atI xs (j:Int)=some v:=by
 have hj:j<xs.length:=(YC.mp h).1;have e:ixN xs.length (j:Int)=some j:=by
  unfold ixN;rw[if_pos 'b',if_pos 'b'];simp
 unfold atI;rw[e];exact h
theorem Co{α:Type}(xs:List α)(v:α):atI (xs++[v]) (-1)=some v:=by
 have hl:(xs++[v]).length=xs.length+1:=by simp
 have e:ixN (xs++[v]).length (-1)=some xs.length:=by
  unfold ixN;rw[hl,if_neg 'a',if_pos 'b'];congr 1;omega
 unfold atI;rw[e];show(xs++[v])[xs.length]?=some v;simp
def yq(b:Expr):Prop:=∀o i,subscripted b false o i=operate [o,i] (getItem o i)
def IxR(X:Cx)(r:R2):Prop:=
 ∀(value slice:Expr) (pins:Zc) (s:Shared) (σ:St) (H:Hp) (x y:V) (v u:Value) (Q:VK),Inv X pins σ H s->RelV x v->RelV y u->r x y H Q ->
  subscripted slice false v u=operate [v,u] (getItem v u)->wpAny 'c' X.A (subscriptTail value slice v u) (EP X pins σ Q) X.xe s
def MtR(X:Cx)(id:String)(r:V->List V->Hp->VK->Prop):Prop:=
 ∀(pins:Zc) (s:Shared) (σ:St) (H:Hp) (x:V) (xs:List V) (v:Value) (us:Zd) (Q:VK),Inv X pins σ H s->RelV x v->Vals xs us->r x xs H Q ->
  wpAny 'c' X.A (call (.builtin id) (v::us)) (EP X pins σ Q) X.xe s
section
variable {X:Cx}{a b:Expr}{ta tb:TE}{pos:Pos}
theorem HQ{r:R2}(hr:IxR X r)(ha:PE X a ta)(hb:PE X b tb)(hs:yq b):PE X (.Subscript a b pos) (tOp r ta tb):=by
 intro pins s σ H Q I h;exact Subscript_ (binT ha hb I h λv u s2 x y H2 I2 rx ry q=>hr a b pins s2 σ H2 x y v u Q I2 rx ry q (hs _ _))
def rIxL(K:Za):R2:=λx y H Q=>∃p xs i v,x=.ref p/\y=.int i/\SqL K H p xs/\atI xs i=some v/\Q v H
def rIxT(K:Za):R2:=λx y H Q=>∃p xs i v,x=.ref p/\y=.int i/\SqT K H p xs/\atI xs i=some v/\Q v H
def rIxS:R2:=λx y H Q=>∃z i c,x=.str z/\y=.int i/\z.length<=sizeLine/\atI z.cps.toList i=some c/\Q (.str ⟨#[c]⟩) H
theorem yr:IxR X (rIxL X.K):=by
 intro value slice pins s σ H x y v u Q I rx ry h hs;obtain⟨p,xs,i,z,rfl,rfl,hq,he,q⟩:=h;cases rx;obtain⟨t,rfl⟩:=ry;obtain⟨its,r,pl,hz⟩:=I.list hq;obtain⟨j,h1,h2,h3,h4,h5⟩:=t7 he;obtain⟨w,ew,rw'⟩:=r.get h2;have hl:=r.length;have hn:=kz;have fin:EP X pins σ Q w s:=⟨z,H,I,rw',q⟩;by_cases h0:0<=i
 ·have hj:i.toNat=j:=by
   rw[seqIndex_of h0 h5] at h1;exact Yi h1
  exact item_listR pl.isList h0 'b' (by rw[hj];simpa using ew) fin hs
 ·have hj:(i+(its.toArray.size:Int)).toNat=j:=by
   rw[seqIndex_neg 'b' h4] at h1;rw[YG,←hl];exact Yi h1
  exact subscriptTail_builtinR (x:=w) pl.isList.typeIs slot_list_getitem.lookup
   (wpAny_getItem_list_neg (Q:=λr s'=>r=w/\EP X pins σ Q r s') pl.isList 'b' (by rw[YG]<;>omega) 'b' (by rw[hj];simpa using ew) ⟨rfl,fin⟩) hs
theorem Gn:IxR X (rIxT X.K):=by
 intro value slice pins s σ H x y v u Q I rx ry h hs;obtain⟨p,xs,i,z,rfl,rfl,hq,he,q⟩:=h;cases rx;obtain⟨t,rfl⟩:=ry;obtain⟨its,r,pl,hz⟩:=I.tuple hq;obtain⟨j,h1,h2,h3,h4,h5⟩:=t7 he;obtain⟨w,ew,rw'⟩:=r.get h2;have hl:=r.length;have hn:=kz;have fin:EP X pins σ Q w s:=⟨z,H,I,rw',q⟩;exact subscriptTail_builtinR (x:=w) pl.typeIs slot_tuple_getitem.lookup
  (getItem_tuple (j:=j) (Q:=λr s'=>r=w/\EP X pins σ Q r s') pl 'b' 'b' (by rw[YG,←hl];exact h1) (by simpa using ew) ⟨rfl,fin⟩) hs
theorem Go:IxR X rIxS:=by
 intro value slice pins s σ H x y v u Q I rx ry h hs;obtain⟨z,i,c,rfl,rfl,hz,he,q⟩:=h;obtain⟨t,rfl⟩:=rx;obtain⟨t',rfl⟩:=ry;obtain⟨j,h1,h2,h3,h4,h5⟩:=t7 he;have hl:z.cps.toList.length=z.length:=by simp[Str.length]
 rw[hl] at h1 h4 h5;have hn:=kz;exact tail_any (typeIs_str s z t) slot_str_getitem.lookup (getItem_str (c:=c) (by
  have e1:decide (i < -(2 ^ 63:Int))=false:=ZQ 'b';have e2:decide (i>=2 ^ 63)=false:=ZQ 'b';rw[e1,e2,Bool.or_false]) (by rw[h1];simpa using h2) ⟨.str ⟨#[c]⟩,H,I.tok _,⟨_,rfl⟩,q⟩) hs
theorem zl(its:Zd)(n j:Nat)(u:Value):Obj.mapSeq (·.setIfInBounds j u) { cls:=.type "list",data:=.seq its.toArray n }={ cls:=.type "list",data:=.seq (its.set j u).toArray n }:=by
 simp[Obj.mapSeq]
theorem Inv.lst{pins:Zc}{σ:St}{H:Hp}{s:Shared}{p:Addr}{xs:List V}(I:Inv X pins σ H s)(h:H p=some (.lst xs)):
  ∃(its:Zd) (n:Nat),Vals xs its/\s.heap.get? p=some { cls:=.type "list",data:=.seq its.toArray n }/\xs.length<=sizeLine:=by
 obtain⟨z,its,n,r,e⟩:=I.hok p _ h;exact⟨its,n,r,e,z⟩
theorem Inv.lstUpd{pins:Zc}{σ:St}{H:Hp}{s:Shared}{p:Addr}{xs ys:List V}{its its':Zd}{n n':Nat}{f:Obj->Obj}(I:Inv X pins σ H s)(h:H p=some (.lst xs))
  (ho:s.heap.get? p=some { cls:=.type "list",data:=.seq its.toArray n }) (hf:f { cls:=.type "list",data:=.seq its.toArray n }={ cls:=.type "list",data:=.seq its'.toArray n' }) (r:Vals ys its') (hz:ys.length<=sizeLine) (t:Nat):
  Inv X pins σ (upd H p (.lst ys)) { s with heap:=s.heap.update p f,toks:=t }:=by
 have e:(s.heap.update p f).get? p=some { cls:=.type "list",data:=.seq its'.toArray n' }:=by
  rw[Heap.get?_update_self f ho (by rw[hf]<;>rfl),hf]
 refine I.write (x:=p) (e:=p) (by rw[h];trivial) (.inl rfl) (λb u hb q=>(Heap.get?_update_other _ _ (Ne.symm hb)).trans q) ⟨_,e⟩ ?_;exact⟨hz,its',n',r,e⟩
def HR:V->V->V->Hp->(Hp->Prop)->Prop:=λo i v H Q=>∃p xs k j,o=.ref p/\i=.int k/\H p=some (.lst xs)/\ixN xs.length k=some j/\Q (upd H p (.lst (xs.set j v)))
theorem set_list:PSet X HR:=by
 intro pins s σ H o i v ov iv u Q I ro ri rv h;obtain⟨p,xs,k,j,rfl,rfl,hp,hj,q⟩:=h;cases ro;obtain⟨t,rfl⟩:=ri;obtain⟨its,n,r,ho,hz⟩:=I.lst hp;obtain⟨h1,h2,h3,h4⟩:=yp hj;have hl:=r.length;have hn:=kz;have I':Inv X pins σ (upd H p (.lst (xs.set j v))) { s with heap:=s.heap.update p (Obj.mapSeq (·.setIfInBounds j u)) }:=
  I.lstUpd hp ho (zl its n j u) (r.set rv j) (by rw[List.length_set];exact hz) s.toks
 by_cases h0:0<=k
 ·have hk:k.toNat=j:=by
   rw[seqIndex_of h0 h4] at h1;exact Yi h1
  exact PySem.W.ki_setAt ho h0 'b' (by rw[YG,←hl];exact h4) (by rw[hk];exact⟨_,I',q⟩)
 ·have hk:(k+(its.toArray.size:Int)).toNat=j:=by
   rw[seqIndex_neg 'b' h3] at h1;rw[YG,←hl];exact Yi h1
  exact PySem.W.ki_setBack ho 'b' (by rw[YG,←hl];exact h3) 'b' (by rw[hk];exact⟨_,I',q⟩)
theorem vU(lo hi:Zq)(n:Nat):(sliceBounds lo hi none n).1=((HT.sIx n 0 lo:Nat):Int)/\(sliceBounds lo hi none n).2.1=((HT.sIx n n hi:Nat):Int)/\(sliceBounds lo hi none n).2.2=1:=by
 refine⟨?_,?_,rfl⟩
 ·cases lo with
  |none=>simp[sliceBounds,HT.sIx]
  |some i=>
   simp only[sliceBounds,HT.sIx,Option.getD_none,show(1:Int)>0 by decide,if_true];by_cases h:i<0
   ·simp only[h,if_true]<;>omega
   ·simp only[h,if_false]<;>omega
 ·cases hi with
  |none=>simp[sliceBounds,HT.sIx]
  |some i=>
   simp only[sliceBounds,HT.sIx,Option.getD_none,show(1:Int)>0 by decide,if_true];by_cases h:i<0
   ·simp only[h,if_true]<;>omega
   ·simp only[h,if_false]<;>omega
theorem vp(its:Zd)(lo hi:Zq):slicePick its.toArray lo hi none=((its.drop (HT.sIx its.length 0 lo)).take (HT.sIx its.length its.length hi-HT.sIx its.length 0 lo)).toArray:=by
 obtain⟨h1,h2,h3⟩:=vU lo hi its.toArray.size;unfold slicePick;rw[h1,h2,h3];simp only[sliceRange_one,pick_run,YG]<;>rfl
def rSlL(K:Za):V->Option Int->Option Int->Hp->VK->Prop:=λx lo hi H Q=>∃a xs,x=.ref a/\SqL K H a xs/\∀p,H p=none->Q (.ref p) (upd H p (.lst (cutV xs lo hi)))
theorem Er:SlR X (rSlL X.K):=by
 intro pins s σ H x v vl vu lo hi sl Q I rx hs pl pu h;obtain⟨a,xs,rfl,hx,q⟩:=h;cases rx;obtain⟨its,r,ht,hz⟩:=I.list hx;have hlen:=r.length;refine⟨"list",_,slot_list_getitem.lookup,ht.isList.typeIs,?_⟩;refine wpAny_getItem_list_slice ht.isList hs pl pu .none (by simp) ?_ (by rw[YG]<;>omega);rw[vp,←hlen];refine⟨.ref s.heap.objs.size,_,I.laid (t':=s.toks) (o:=.lst (cutV xs lo hi)) (λb ob q=>Yd _ q) (YE _) ?_,rfl,q _ (I.hok.fresh (YE _))⟩;exact⟨ZX (qK xs lo hi) hz,_,0,(r.drop (HT.sIx xs.length 0 lo)).take (HT.sIx xs.length xs.length hi-HT.sIx xs.length 0 lo),Yg _ rfl⟩
def zm:V->Bool
 |.non=>true
 |.bl _=>true
 |.int _=>true
 |.str _=>true
 |_=>false
def eqV:V->V->Bool
 |.non,.non=>true
 |.bl a,.bl b=>a==b
 |.bl a,.int b=>(if a then 1 else 0)==b
 |.int a,.bl b=>a==(if b then 1 else 0)
 |.int a,.int b=>a==b
 |.str a,.str b=>a==b
 |_,_=>false
theorem Ax{A:Around}{s:Shared}{y x:V}{u v:Value}(ry:RelV y u)(rx:RelV x v)(fy:zm y=true)(fx:zm x=true):SeqAt.EqAt A s u v (eqV y x):=by
 cases y with
 |non=>
  cases ry;cases x with
  |non=>cases rx;exact SeqAt.EqAt.same _
  |bl b=>cases rx;exact SeqAt.EqAt.none_bool b
  |int b=>obtain⟨t,rfl⟩:=rx;exact SeqAt.EqAt.none_int b t
  |str b=>obtain⟨t,rfl⟩:=rx;exact SeqAt.EqAt.none_str b t
  |_=>exact absurd (show false=true from fx) YD
 |bl a=>
  cases ry;cases x with
  |non=>cases rx;exact SeqAt.EqAt.bool_none a
  |bl b=>cases rx;exact SeqAt.EqAt.bool_bool a b
  |int b=>obtain⟨t,rfl⟩:=rx;exact SeqAt.EqAt.bool_int a b t
  |str b=>obtain⟨t,rfl⟩:=rx;exact SeqAt.EqAt.bool_str a b t
  |_=>exact absurd (show false=true from fx) YD
 |int a=>
  obtain⟨t',rfl⟩:=ry;cases x with
  |non=>cases rx;exact SeqAt.EqAt.int_none a t'
  |bl b=>cases rx;exact SeqAt.EqAt.int_bool a t' b
  |int b=>obtain⟨t,rfl⟩:=rx;exact SeqAt.EqAt.int_int a t' b t
  |str b=>obtain⟨t,rfl⟩:=rx;exact SeqAt.EqAt.int_str a t' b t
  |_=>exact absurd (show false=true from fx) YD
 |str a=>
  obtain⟨t',rfl⟩:=ry;cases x with
  |non=>cases rx;exact SeqAt.EqAt.str_none a t'
  |bl b=>cases rx;exact SeqAt.EqAt.str_bool a t' b
  |int b=>obtain⟨t,rfl⟩:=rx;exact SeqAt.EqAt.str_int a t' b t
  |str b=>obtain⟨t,rfl⟩:=rx;exact SeqAt.EqAt.str_str a t' b t
  |_=>exact absurd (show false=true from fx) YD
 |_=>exact absurd (show false=true from fy) YD
theorem kB:fI X (.builtin "len") (λxs H Q=>∃p ys,xs=[.ref p]/\(SqL X.K H p ys\/SqT X.K H p ys)/\Q (.int ys.length) H):=by
 intro pins s σ H xs us Q I r h;obtain⟨p,ys,rfl,hq,q⟩:=h;obtain⟨u,rfl,rx⟩:=vals1 r;cases rx;have hn:=kz;rcases hq with hq | hq
 ·obtain⟨its,r',pl,hz⟩:=I.list hq
  have hlen:=r'.length;exact Calls.call_len_list pl.isList (by simp only[YG]<;>omega) ⟨.int ys.length,H,I.tok _,⟨s.toks+1,by rw[YG,hlen]⟩,q⟩
 ·obtain⟨its,r',pl,hz⟩:=I.tuple hq
  have hlen:=r'.length;exact len_tuple pl (by simp only[YG]<;>omega) ⟨.int ys.length,H,I.tok _,⟨s.toks+1,by rw[YG,hlen]⟩,q⟩
theorem vV:fI X (.builtin "len") (λxs H Q=>∃z,xs=[.str z]/\z.length<=sizeLine/\Q (.int z.length) H):=by
 intro pins s σ H xs us Q I r h;obtain⟨z,rfl,hz,q⟩:=h;obtain⟨u,rfl,t,rfl⟩:=vals1 r;have hn:=kz;exact len_str 'b' ⟨.int z.length,H,I.tok _,⟨_,rfl⟩,q⟩
theorem pb:fI X (.type "list") (λxs H Q=>∃p ys,xs=[.ref p]/\(SqL X.K H p ys\/SqT X.K H p ys)/\∀l,H l=none->Q (.ref l) (upd H l (.lst ys))):=by
 intro pins s σ H xs us Q I r h;obtain⟨p,ys,rfl,hq,q⟩:=h;obtain⟨u,rfl,rx⟩:=vals1 r;cases rx;have fin:∀(its:Zd),Vals ys its->ys.length<=sizeLine->∀(h':Heap) (c':Nat),(∀b o',s.heap.get? b=some o'->h'.get? b=some o') ->
   h'.get? s.heap.objs.size=some { cls:=.type "list",dict:=none,data:=.seq its.toArray c',slots:=#[] }->EP X pins σ Q (.ref s.heap.objs.size) { s with heap:=h' }:=λits r' hz h' c' kp e=>
  ⟨.ref s.heap.objs.size,_,I.laid (t':=s.toks) kp (YE _) (show aU X.prog X.w _ h' _ (.lst ys) from⟨hz,its,c',r',e⟩),rfl,q _ (I.hok.fresh (YE _))⟩
 rcases hq with hq | hq
 ·obtain⟨its,r',pl,hz⟩:=I.list hq
  have hlen:=r'.length;obtain⟨o,ho,hc,n,hd⟩:=pl.isList;exact call_list_seq p (.inl rfl) ho hc hd (λh' c' kp e=>fin its r' hz h' c' kp e) (by simp only[YG]<;>omega)
 ·obtain⟨its,r',pl,hz⟩:=I.tuple hq
  have hlen:=r'.length;obtain⟨o,ho,hc,n,hd⟩:=pl;exact call_list_seq p (.inr rfl) ho hc hd (λh' c' kp e=>fin its r' hz h' c' kp e) (by simp only[YG]<;>omega)
theorem oE:fI X (.type "tuple") (λxs H Q=>∃p ys,xs=[.ref p]/\((SqL X.K H p ys/\∀l,H l=none->Q (.ref l) (upd H l (.tup ys)))\/(SqT X.K H p ys/\Q (.ref p) H))):=by
 intro pins s σ H xs us Q I r h;obtain⟨p,ys,rfl,h⟩:=h;obtain⟨u,rfl,rx⟩:=vals1 r;cases rx;rcases h with⟨hq,q⟩ | ⟨hq,q⟩
 ·obtain⟨its,r',pl,hz⟩:=I.list hq
  have hlen:=r'.length;refine call_tuple_list pl.isList (λh' kp=>?_) (by simp only[YG]<;>omega);have I1:Inv X pins σ H { s with heap:=h' }:=I.kept (t':=s.toks) kp;have I2:Inv X pins σ (upd H h'.objs.size (.tup ys)) { s with heap:=h'.push { cls:=.type "tuple",data:=.seq its.toArray } }:=
   I1.laid (t':=s.toks) (λb o e=>Yd _ e) (YE _) (show aU X.prog X.w _ _ _ (.tup ys) from⟨hz,its,r',IsTup.new _ _⟩)
  exact⟨.ref h'.objs.size,_,I2,rfl,q _ (I1.hok.fresh (YE _))⟩
 ·obtain⟨its,r',pl,hz⟩:=I.tuple hq
  exact call_tuple_same pl ⟨.ref p,H,I,rfl,q⟩
def tyV(K:Za)(T:String)(x:V)(H:Hp):Prop:=match x with
 |.str _=>T = "str"
 |.int _=>T = "int"
 |.ref p=>(T = "list"/\∃xs,SqL K H p xs)\/(T = "tuple"/\∃o,K.lookup p=some o/\o.cls=.type "tuple"/\o.dict=none) \/
   (T = "dict"/\((∃kvs,H p=some (.dK kvs)) \/ ∃kvs,H p=some (.dT kvs)))\/(T = "set"/\∃S n,H p=some (.set S n))
 |_=>False
theorem Ay{pins:Zc}{σ:St}{H:Hp}{s:Shared}{T:String}{x:V}{v:Value}(I:Inv X pins σ H s)(r:RelV x v)(ty:tyV X.K T x H):
  s.TypeIs v T/\∀a,v=.ref a->∃ob,s.heap.get? a=some ob/\ob.dict=none:=by
 cases x with
 |str z=>
  obtain⟨t,rfl⟩:=r;cases(show T = "str" from ty);exact⟨typeIs_str s z t,λ_ e=>nomatch e⟩
 |int i=>
  obtain⟨t,rfl⟩:=r;cases(show T = "int" from ty);exact⟨typeIs_int s i t,λ_ e=>nomatch e⟩
 |ref p=>
  cases r;rcases ty with⟨rfl,xs,hq⟩ | ⟨rfl,o,hk,hc,hd⟩ | ⟨rfl,hk⟩ | ⟨rfl,S,n,hk⟩
  ·obtain⟨its,_,pl,_⟩:=I.list hq
   refine⟨pl.isList.typeIs,λa e=>?_⟩;cases e;obtain⟨o,n,e,c,hd,_⟩:=pl;exact⟨o,e,hd⟩
  ·refine⟨⟨o,I.kIn p o hk,hc⟩,λa e=>?_⟩
   cases e;exact⟨o,I.kIn _ o hk,hd⟩
  ·have z:∃o,s.heap.get? p=some o/\o.ExactDict:=by
    rcases hk with⟨kvs,hk⟩ | ⟨kvs,hk⟩
    ·obtain⟨_,_,_,_,o,_,_,e,ex,_⟩:=I.hok p _ hk
     exact⟨o,e,ex⟩
    ·obtain⟨_,_,_,_,o,_,_,e,ex,_⟩:=I.hok p _ hk
     exact⟨o,e,ex⟩
   obtain⟨o,e,ex⟩:=z;refine⟨⟨o,e,ex.1⟩,λa e2=>?_⟩;cases e2;exact⟨o,e,ex.2.1⟩
  ·obtain⟨o,_,_,_,e,ex,_⟩:=I.hok p _ hk
   refine⟨⟨o,e,ex.1⟩,λa e2=>?_⟩;cases e2;exact⟨o,e,ex.2.1⟩
 |_=>exact Yh ty
def tBM0(K:Za)(T:String)(r:V->List V->Hp->VK->Prop)(to:TE):TE:=λσ H Q=>to σ H λx H1=>tyV K T x H1/\r x [] H1 Q
def tBM(K:Za)(T:String)(r:V->List V->Hp->VK->Prop)(to:TE)(t:TA):TE:=λσ H Q=>to σ H λx H1=>tyV K T x H1/\t σ H1 λxs H2=>r x xs H2 Q
variable {o e:Expr}{es:Zg}{to:TE}{t:TA}{name:Str}{apos cpos:Pos}{T id:String}{r:V->List V->Hp->VK->Prop}
theorem Gp(pa:PlainAttrs T)(slot:Slot T name id)(hty:typeOf (.builtin id)=pure (.type "method_descriptor"))(hm:MtR X id r)(ho:PE X o to)
  (hbase:attributeBase o name X.env (eval o X.env)=eval o X.env:=by rfl) (hline:(apos.endLine==cpos.line)=true:=by rfl):PE X (.Call (.Attribute o name apos) [] [] cpos) (tBM0 X.K T r to):=by
 intro pins s σ H Q I h;refine wpAny_Call_method0_late hbase hline (thn (ho pins s σ H _ I h) λv s1 zz71=>?_);obtain⟨x,H1,I1,r1,ty,q1⟩:=zz71;obtain⟨h1,h2⟩:=Ay I1 r1 ty;exact⟨T,id,pa,slot,hty,h1,h2,Calls.callWith_builtin rfl (PySem.evalArgs_none (hm pins s1 σ H1 x [] v [] Q I1 r1 .nil q1))⟩
theorem HS(pa:PlainAttrs T)(slot:Slot T name id)(hty:typeOf (.builtin id)=pure (.type "method_descriptor"))(hm:MtR X id r)(ho:PE X o to)(ha:PA X (e::es) t)
  (hbase:attributeBase o name X.env (eval o X.env)=eval o X.env:=by rfl)
  (hfew:((backTo cpos (starEach (e::es) X.env)).all (λx=>!x.1)&&(backToKw cpos (keywordEach [] X.env)).all (λx=>x.1.isSome)
   && decide ((e::es).length+([]:List Keyword).length+(if([]:List Keyword).isEmpty then 0 else 1)<30))=true:=by rfl)
  (hline:(apos.endLine==cpos.line)=true:=by rfl) (hs:starEach (e::es) X.env=(false,eval e X.env)::starEach es X.env:=by rfl) (hplain:(backTo cpos (starEach es X.env)).any (·.1)=false:=by rfl):
  PE X (.Call (.Attribute o name apos) (e::es) [] cpos) (tBM X.K T r to t):=by
 intro pins s σ H Q I h;refine wpAny_Call_method_late hbase hfew hline rfl (thn (ho pins s σ H _ I h) λv s1 zz72=>?_);obtain⟨x,H1,I1,r1,ty,q1⟩:=zz72;obtain⟨h1,h2⟩:=Ay I1 r1 ty;refine⟨T,id,pa,slot,hty,h1,h2,?_⟩;have hA:=ha cpos pins s1 σ H1 _ I1 q1;rw[hs] at hA ⊢;refine Calls.callWith_builtin (by show(false||(backTo cpos (starEach es X.env)).any (·.1))=false;rw[hplain]<;>rfl) (Calls.evalArgs_plain ?_);refine thn hA λus s2 zz73=>?_
 obtain⟨vs,H2,I2,r2,q2⟩:=zz73;exact hm pins s2 σ H2 x vs v us Q I2 r1 r2 q2
end
def MtM(X:Cx)(id:String)(r:V->List V->Hp->VK->Prop):Prop:=
 ∀(pins:Zc) (s:Shared) (σ:St) (H:Hp) (x:V) (xs:List V) (v:Value) (us:Zd) (Q:VK),Inv X pins σ H s->RelV x v->Vals xs us->r x xs H Q ->
  wpAny 'c' X.A (call (.builtin id) (v::us)) (EP X pins σ Q) X.xe s
theorem Vals.one{x:V}{us:Zd}(h:Vals [x] us):∃u,us=[u]/\RelV x u:=by
 cases h with
 |cons r t=>cases t;exact⟨_,rfl,r⟩
theorem Vals.two{x y:V}{us:Zd}(h:Vals [x,y] us):∃u v,us=[u,v]/\RelV x u/\RelV y v:=by
 cases h with
 |cons r t=>
  obtain⟨v,rfl,q⟩:=Vals.one t;exact⟨_,v,rfl,r,q⟩
theorem Vals.zero:∀{us:Zd},Vals [] us->us=[]
 |_,.nil=>rfl
theorem Vals.dropLast{xs:List V}{us:Zd}(h:Vals xs us):Vals xs.dropLast us.dropLast:=by
 induction h with
 |nil=>exact .nil
 |cons r t ih=>
  cases t with
  |nil=>exact .nil
  |cons q t'=>exact .cons r ih
theorem Vals.eraseIdx:∀{xs:List V}{us:Zd}(i:Nat),Vals xs us->Vals (xs.eraseIdx i) (us.eraseIdx i)
 |_,_,_,.nil=>.nil
 |_,_,0,.cons _ t=>t
 |_,_,i+1,.cons r t=>.cons r (Vals.eraseIdx i t)
theorem Vals.rep{xs:List V}{us:Zd}(h:Vals xs us):∀k:Nat,Vals (List.replicate k xs).flatten (List.replicate k us).flatten
 |0=>.nil
 |k+1=>by
  rw[YX,YX,YY,YY];exact Vals.append h (Vals.rep h k)
theorem zn{α:Type}(l:List α):l.eraseIdx (l.length-1)=l.dropLast:=by
 induction l with
 |nil=>rfl
 |cons a r ih=>
  cases r with
  |nil=>rfl
  |cons b r=>
   have e:(a::b::r).length-1=((b::r).length-1)+1:=by
    have h1:(a::b::r).length=r.length+2:=rfl;have h2:(b::r).length=r.length+1:=rfl;omega
   rw[e,List.eraseIdx_cons_succ,ih];all_goals rfl
theorem uV{α:Type}:∀(l:List α) (i:Nat),(l.eraseIdx i).length<=l.length
 |[],_=>YE _
 |_::_,0=>YM _
 |_::r,i+1=>Nat.succ_le_succ (uV r i)
theorem foldl_rep(its:Zd):∀(k:Nat) (acc:Zd),
  List.foldl (λx1 x2=>x1++x2) acc.toArray (List.replicate k its.toArray)=(acc++(List.replicate k its).flatten).toArray
 |0,acc=>by simp
 |k+1,acc=>by
  have e:acc.toArray++its.toArray=(acc++its).toArray:=by simp
  have e2:(acc++its)++(List.replicate k its).flatten=acc++(List.replicate (k+1) its).flatten:=by
   rw[YX,YY,List.append_assoc]
  rw[←e2,←foldl_rep its k (acc++its),←e,YX,List.foldl_cons]
section
variable {X:Cx}{pins:Zc}{σ:St}{H:Hp}{s:Shared}{l b:Addr}{xs ys zs:List V}
theorem Inv.lset{its its':Zd}{n:Nat}{f:Array Value->Array Value}{t':Nat}(I:Inv X pins σ H s)(hH:H l=some (.lst xs))
  (e:s.heap.get? l=some { cls:=.type "list",data:=.seq its.toArray n }) (hf:f its.toArray=its'.toArray) (hv:Vals ys its') (hz:ys.length<=sizeLine):
  Inv X pins σ (upd H l (.lst ys)) { s with heap:=s.heap.update l (Obj.mapSeq f),toks:=t' }:=by
 have q:=PySem.IsL.update e f;rw[hf] at q;refine I.write (x:=l) (e:=l) (by rw[hH];exact trivial) (.inl rfl) (λb' u hb hu=>(Heap.get?_update_other s.heap (Obj.mapSeq f) (Ne.symm hb)).trans hu) ⟨_,q⟩ ?_;exact⟨hz,its',_,hv,q⟩
theorem Inv.lnew{its:Zd}{t':Nat}(I:Inv X pins σ H s)(hv:Vals ys its)(hz:ys.length<=sizeLine):
  Inv X pins σ (upd H s.heap.objs.size (.lst ys)) { s with heap:=s.heap.push { cls:=.type "list",data:=.seq its.toArray },toks:=t' }:=
 I.laid (λ_ _ q=>Yd _ q) (YE _) ⟨hz,its,0,hv,Yg _ rfl⟩
theorem Inv.fresh(I:Inv X pins σ H s):H s.heap.objs.size=none:=I.hok.fresh (YE _)
theorem Inv.lstM(I:Inv X pins σ H s)(hH:H l=some (.lst xs)):xs.length<=sizeLine/\∃(its:Zd) (n:Nat),Vals xs its/\xs.length=its.length/\s.heap.get? l=some { cls:=.type "list",data:=.seq its.toArray n }:=by
 obtain⟨z,its,n,r,e⟩:=I.hok l _ hH;exact⟨z,its,n,r,r.length,e⟩
theorem nF{n:Nat}(h:n<=sizeLine):Builtin.List.listTooLong n=false:=by
 unfold Builtin.List.listTooLong;exact ZQ 'b'
end
section
variable {X:Cx}
def Et:V->List V->Hp->VK->Prop:=λx vs H Q=>∃l xs y,x=.ref l/\vs=[y]/\H l=some (.lst xs)/\xs.length<sizeLine/\Q .non (upd H l (.lst (xs++[y])))
theorem Az:MtM X "list.append" Et:=by
 intro pins s σ H x vs v us Q I rx rv h;obtain⟨l,xs,y,rfl,rfl,hH,hz,q⟩:=h;cases rx;obtain⟨u,rfl,ru⟩:=rv.one;obtain⟨z,its,n,r,hl,e⟩:=I.lstM hH;refine call_meets F.slot_list_append ⟨_,e,rfl⟩ F.entry_list_append (F.args_list_append_2 _ _) (PySem.list_append l its.toArray n u (by rw[YG];omega)) ⟨e,?_⟩;refine⟨.non,_,I.lset (its':=its++[u]) hH e (by simp) (r.append (.cons ru .nil)) ?_,rfl,q⟩;rw[ZJ,List.length_singleton];omega
def Eu:V->List V->Hp->VK->Prop:=λx vs H Q=>∃l b xs zs,x=.ref l/\vs=[.ref b]/\H l=some (.lst xs)/\H b=some (.lst zs)/\xs.length+zs.length<=sizeLine/\Q .non (upd H l (.lst (xs++zs)))
theorem AA:MtM X "list.extend" Eu:=by
 intro pins s σ H x vs v us Q I rx rv h;obtain⟨l,b,xs,zs,rfl,rfl,hH,hB,hz,q⟩:=h;cases rx;obtain⟨u,rfl,ru⟩:=rv.one;cases ru;obtain⟨z,its,n,r,hl,e⟩:=I.lstM hH;obtain⟨z2,its2,n2,r2,hl2,e2⟩:=I.lstM hB;have hsz:its.toArray.size+its2.toArray.size<=sizeLine:=by rw[YG,YG];omega
 have hlong:¬(!its.toArray.isEmpty&&Builtin.List.listTooLong (its.toArray.size+its2.toArray.size))=true:=by
  rw[nF hsz,Bool.and_false];exact YD
 refine call_meets F.slot_list_extend ⟨_,e,rfl⟩ F.entry_list_extend (F.args_list_extend_2 _ _)
  (AutoSeq1.list_extend_list_list_0 l its.toArray n b its2.toArray n2 hlong (by rw[YG];omega) 'b') ⟨e,e2,?_⟩
 refine⟨.non,_,I.lset (its':=its++its2) hH e (by simp) (r.append r2) ?_,rfl,q⟩;rw[ZJ];omega
def rPop:V->List V->Hp->VK->Prop:=λx vs H Q=>∃l xs y,x=.ref l/\vs=[]/\H l=some (.lst xs)/\xs[xs.length-1]?=some y/\Q y (upd H l (.lst xs.dropLast))
theorem Gq:MtM X "list.pop" rPop:=by
 intro pins s σ H x vs v us Q I rx rv h;obtain⟨l,xs,y,rfl,rfl,hH,hy,q⟩:=h;cases rx;have hus:=rv.zero;subst hus;obtain⟨z,its,n,r,hl,e⟩:=I.lstM hH;obtain⟨u,hu,ru⟩:=r.get hy;have hy':its.toArray[its.toArray.size-1]?=some u:=by
  show its.toArray[its.length-1]?=some u;rw[←YZ,←hl];exact hu
 refine call_meets F.slot_list_pop ⟨_,e,rfl⟩ F.entry_list_pop (F.args_list_pop_1 _) (MeetsSeq.list_pop_last l its.toArray n u hy' (by rw[YG];omega)) ⟨e,?_⟩;refine⟨y,_,I.lset (its':=its.dropLast) hH e ?_ r.dropLast ?_,ru,q⟩
 ·show its.toArray.eraseIdxIfInBounds (its.toArray.size-1)=its.dropLast.toArray
  rw[YG,List.eraseIdxIfInBounds_toArray,zn]
 ·rw[List.length_dropLast]
  omega
def Gr:V->List V->Hp->VK->Prop:=λx vs H Q=>∃l xs i k y,x=.ref l/\vs=[.int i]/\H l=some (.lst xs)/\-(2 ^ 63)<=i/\i<2 ^ 63/\seqIndex? i xs.length=some k/\xs[k]?=some y/\Q y (upd H l (.lst (xs.eraseIdx k)))
theorem Cp:MtM X "list.pop" Gr:=by
 intro pins s σ H x vs v us Q I rx rv h;obtain⟨l,xs,i,k,y,rfl,rfl,hH,h1,h2,hk,hy,q⟩:=h;cases rx;obtain⟨u,rfl,ru⟩:=rv.one;obtain⟨t,rfl⟩:=ru;obtain⟨z,its,n,r,hl,e⟩:=I.lstM hH;obtain⟨w,hw,rw'⟩:=r.get hy;refine call_meets F.slot_list_pop ⟨_,e,rfl⟩ F.entry_list_pop (F.args_list_pop_2 _ _)
  (MeetsSeq.list_pop_at l its.toArray n i t k w (fitsIndex_both h1 h2) (by rw[YG,←hl];exact hk) (by rw[←YZ];exact hw) (by rw[YG];omega)) ⟨e,?_⟩
 refine⟨y,_,I.lset (its':=its.eraseIdx k) hH e ?_ (r.eraseIdx k) ?_,rw',q⟩
 ·show its.toArray.eraseIdxIfInBounds k=(its.eraseIdx k).toArray
  rw[List.eraseIdxIfInBounds_toArray]
 ·have:=uV xs k
  omega
def Gs:V->List V->Hp->VK->Prop:=λx vs H Q=>∃l xs,x=.ref l/\vs=[]/\H l=some (.lst xs)/\Q .non (upd H l (.lst []))
theorem Cq:MtM X "list.clear" Gs:=by
 intro pins s σ H x vs v us Q I rx rv h;obtain⟨l,xs,rfl,rfl,hH,q⟩:=h;cases rx;have hus:=rv.zero;subst hus;obtain⟨z,its,n,r,hl,e⟩:=I.lstM hH;refine call_meets F.slot_list_clear ⟨_,e,rfl⟩ F.entry_list_clear (F.args_list_clear_1 _) (AutoSeq1.list_clear_list_0 l its.toArray n (by rw[YG];omega)) ⟨e,?_⟩;exact⟨.non,_,I.lset (its':=[]) (ys:=[]) hH e rfl .nil (YL _),rfl,q⟩
def rCat:R2:=λx y H Q=>∃l b xs zs,x=.ref l/\y=.ref b/\H l=some (.lst xs)/\H b=some (.lst zs)/\xs.length+zs.length<=sizeLine/\∀p,H p=none->Q (.ref p) (upd H p (.lst (xs++zs)))
theorem Gu:OpR X (binaryOp .Add) rCat:=by
 intro pins s σ H x y v u Q I rx ry h;obtain⟨l,b,xs,zs,rfl,rfl,hH,hB,hz,q⟩:=h;cases rx;cases ry;obtain⟨z,its,n,r,hl,e⟩:=I.lstM hH;obtain⟨z2,its2,n2,r2,hl2,e2⟩:=I.lstM hB;refine PySem.P.add_list e e2 ?_ (by rw[YG,YG];omega);have ea:its.toArray++its2.toArray=(its++its2).toArray:=by simp
 rw[ea];exact⟨.ref _,_,I.lnew (t':=s.toks) (r.append r2) (by rw[ZJ];omega),rfl,q _ I.fresh⟩
def rRep:R2:=λx y H Q=>∃l k xs,x=.ref l/\y=.int k/\H l=some (.lst xs)/\-(2 ^ 63)<=k/\k<2 ^ 63/\xs.length*k.toNat<=sizeLine /\
 ∀p,H p=none->Q (.ref p) (upd H p (.lst (List.replicate k.toNat xs).flatten))
theorem len_rep{α:Type}(xs:List α)(k:Nat):(List.replicate k xs).flatten.length=k*xs.length:=by
 induction k with
 |zero=>simp
 |succ k ih=>rw[YX,YY,ZJ,ih,Nat.succ_mul,Nat.add_comm]
theorem Gv:OpR X (binaryOp .Mult) rRep:=by
 intro pins s σ H x y v u Q I rx ry h;obtain⟨l,k,xs,rfl,rfl,hH,h1,h2,hz,q⟩:=h;cases rx;obtain⟨t,rfl⟩:=ry;obtain⟨z,its,n,r,hl,e⟩:=I.lstM hH;have hlen:its.toArray.size*k.toNat<=sizeLine:=by rw[YG,←hl];exact hz
 have hcap:¬its.toArray.size*k.toNat>(2 ^ 63-1) / 8:=by
  have:(sizeLine:Nat)<=(2 ^ 63-1) / 8:=by decide
  omega
 have hfit:¬(!Builtin.List.listFitsIndex k)=true:=by
  rw[fitsIndex_both h1 h2];exact YD
 have hlong:¬Builtin.List.listTooLong (its.toArray.size*k.toNat)=true:=by
  rw[nF hlen];exact YD
 have hnew:List.foldl (λx1 x2=>x1++x2) #[] (List.replicate (if its.toArray.isEmpty=true then 0 else k.toNat) its.toArray)=(List.replicate k.toNat its).flatten.toArray:=by
  have f0:∀m:Nat,List.foldl (λx1 x2=>x1++x2) #[] (List.replicate m its.toArray)=(List.replicate m its).flatten.toArray:=λm=>by
   have:=foldl_rep its m []
   rw[XA] at this;exact this
  rw[f0];cases its with
  |nil=>simp
  |cons a r'=>rw[if_neg (by simp)]
 refine wpAny_binaryOp_repeat_ref (T:="list") (U:="int") 'a' ⟨_,e,rfl⟩ (λs'=>typeIs_int s' k t) noFill_list_mul F.fills_int_mul F.slot_int_rmul repeat_list F.slot_int_index.lookup
  (call_meets F.slot_int_rmul (typeIs_int s k t) F.entry_int_rmul (F.args_int_rmul_2 _ _) (int___rmul___int_list k t l its.toArray n)
   ⟨e,rfl,⟨_,e,rfl⟩,call_meets F.slot_list_mul ⟨_,e,rfl⟩ F.entry_list_mul (F.args_list_mul_2 _ _) (AutoListH.list___mul___list_int_3 l its.toArray n k t hfit hcap hlong) ⟨e,?_⟩⟩)
 rw[hnew];exact⟨.ref _,_,I.lnew (t':=s.toks) (r.rep k.toNat) (by rw[len_rep,Nat.mul_comm];exact hz),rfl,q _ I.fresh⟩
end
section
variable {prog:Zw}{w:World}{A:Around}{E:Zb}{s:Shared}
theorem zo{a c n:Nat}(hac:a<=c)(hc:c<=n):sliceBounds (some (a:Int)) (some (c:Int)) none n=((a:Int),(c:Int),1):=by
 simp only[sliceBounds,Option.getD_none];have h1:¬((a:Int)<0):=by omega
 have h2:¬((c:Int)<0):=by omega
 simp only[h1,h2,if_false,show(1:Int)>0 by decide,if_true];congr 1
 ·omega
 ·congr 1;omega
/-- list.__setitem__ with a slice of step one and another list -/
theorem Fz {l b sl:Addr} {items new:Zl} {n n2:Nat} {vl vu:Value} {a c:Nat} {Q:Zo}
    (e:s.heap.get? l = some { cls:=.type "list",data:=.seq items n }) (e2:s.heap.get? b = some { cls:=.type "list",data:=.seq new n2 }) (hne:l ≠ b)
    (hs:s.heap.IsSliceOf sl vl vu .none) (pl:IsPart vl (some (a:Int))) (pu:IsPart vu (some (c:Int))) (hac:a<=c) (hc:c<=items.size)
    (hsz:items.size + new.size<=sizeLine) (h:Q () { s with heap:=s.heap.update l (Obj.mapSeq λxs=>xs.extract 0 a ++ new ++ xs.extract c xs.size) }) :
    wpAny (model prog w) A (setItem (.ref l) (.ref sl) (.ref b)) Q E s:=by
  have hl:s.heap.IsList l items:=PySem.IsL.isList e
  have hb:s.heap.IsList b new:=PySem.IsL.isList e2
  obtain ⟨os,hos,hcs,hds⟩:=id hs
  have hTs:s.TypeIs (.ref sl) "slice":=⟨os,hos,hcs⟩
  have hstep:¬ ((rawPart none == rawInt 0) = true):=YD
  have hsame:Builtin.List.listSameRef (.ref l) (.ref b) = false:=by
    unfold Builtin.List.listSameRef
    exact ZR.mpr hne
  have hmax:(max (a:Int) (c:Int)).toNat = c:=by omega
  have hz':((λxs:Array Value=>xs.extract 0 a ++ new ++ xs.extract c xs.size) items).size<=sizeLine + 1:=by
    simp only [Array.size_append,Array.size_extract]
    omega
  unfold setItem
  try with_reducible refine Yj ?_
  first | refine Yb (Yc ?_) | skip
  refine Yb (wpAny_sequenceKey hl.typeIs 'a' ?_)
  refine Yb (wpAny_callSpecial?_slot (name:=Str.ofString "__setitem__") hl.typeIs slot_list_setitem
    (wpAny_call_entry slot_list_setitem hl.typeIs entry_list_setitem ?_ (args_list_setitem _ _ _)))
  show wpAny _ _ (Builtin.List.listSubscript? (.ref sl) >>= _) _ _ s
  refine Yb ?_
  unfold Builtin.List.listSubscript?
  refine Yb (wpAny_specialOf hTs slice_no_index ?_)
  simp only [Option.isNone_none,if_true]
  refine Yc ?_
  show wpAny _ _ (typeOf (.ref sl) >>= _) _ _ s
  refine Yb (wpAny_typeOf hTs ?_)
  first
    | rw [if_neg 'a']
    | refine PySem.W.KFB.if_not 'a' ?_
  rw [listSliceParts_eq]
  refine Yb (Yb (wpAny_field hos hds (x:=.none) rfl (Yb (wpAny_listPart .none ?_))))
  rw [if_neg hstep]
  refine Yb (wpAny_field hos hds (x:=vl) rfl (Yb (wpAny_listPart pl ?_)))
  refine Yb (wpAny_field hos hds (x:=vu) rfl (Yb (wpAny_listPart pu (Yc ?_))))
  first
    | simp only [hsame,XB,if_false]
    | refine PySem.W.KFB.if_not hsame ?_
    | (dsimp only
       rw [if_neg (by rw [hsame]; exact YD)])
  refine Yb (m:=Builtin.List.listAllItems (.ref b) "must assign iterable to extended slice") ?_
  unfold Builtin.List.listAllItems
  refine Yb (wpAny_typeOf hb.typeIs ?_)
  first
    | refine PySem.W.KFB.if_so 'a' ?_
    | rw [if_pos 'a']
    | simp only [XC,Bool.true_or,if_true]
  unfold Builtin.List.listItems
  refine Yb (wpAny_seqItems e2 rfl (Yc ?_))
  refine Yb (Yb (wpAny_seqItems e rfl (Yc ?_)))
  refine Yb (wpAny_of_eq ((sliceIndices_raw (some (a:Int)) (some (c:Int)) none items.size (by simp)).trans (congrArg (pure:Int × Int × Int->Sem (Int × Int × Int)) (zo hac hc))) ?_)
  show wpAny _ _ (if ((1:Int) == 1) = true then _ else _) _ _ s
  rw [if_pos 'a']
  refine Yb (wpAny_rule ?_)
  first
    | simp only [nF hsz,XB,if_false]
    | refine PySem.W.KFB.if_not (nF hsz) ?_
  first | refine Yb (Yc ?_) | skip
  show wpAny _ _ (updateSeq l (λxs=>xs.extract 0 ((a:Int)).toNat ++ new ++ xs.extract (max (a:Int) (c:Int)).toNat xs.size) >>= _) _ _ s
  rw [hmax,YU]
  refine Yb (wpAny_updateSeq (hz:=ZX (Nat.le_add_right _ _) hsz) (_hz':=hz') e rfl ?_)
  refine Yb (wpAny_letGo ?_)
  first
    | exact Yb (Yc (Yc ⟨.none,rfl,Yc h⟩))
    | exact Yc ⟨.none,rfl,Yc h⟩
end
section
variable {κ:Type}[DecidableEq κ]
def valV(kvs:List (κ×V))(k:κ):Option V:=(kvs.find? λkv=>decide (kv.1=k)).map (·.2)
def putK(kvs:List (κ×V))(k:κ)(v:V):List (κ×V):=
 if(kvs.any λkv=>decide (kv.1=k))=true then kvs.map (λkv=>if kv.1=k then(kv.1,v) else kv) else kvs++[(k,v)]
theorem qW{p:κ×V}{r:List (κ×V)}{k:κ}(e:p.1=k):valV (p::r) k=some p.2:=by simp[valV,XD,e]
theorem qX{p:κ×V}{r:List (κ×V)}{k:κ}(e:¬p.1=k):valV (p::r) k=valV r k:=by simp[valV,XD,e]
theorem vW(k:κ):∀kvs:List (κ×V),(kvs.any λkv=>decide (kv.1=k))=(valV kvs k).isSome
 |[]=>rfl
 |p::r=>by
  rw[XE];by_cases e:p.1=k
  ·simp only[qW e,YT e,Bool.true_or,Option.isSome_some]
  ·rw[qX e,ZQ e,Bool.false_or];exact vW k r
theorem qL(kvs:List (κ×V))(k:κ)(v:V):(putK kvs k v).length<=kvs.length+1:=by
 unfold putK;split
 ·rw[ZE];omega
 ·rw[ZJ,YH,YS];omega
theorem RelO.isSome_eq{o:Option V}{u:Zx}(r:RelO o u):o.isSome=u.isSome:=by
 cases o with
 |none=>cases u with
  |none=>rfl
  |some _=>exact(show False from r).elim
 |some _=>cases u with
  |none=>exact(show False from r).elim
  |some _=>rfl
theorem KV.val{kvs:List (κ×V)}{vs:List (κ×Value)}(r:KV kvs vs)(k:κ):RelO (valV kvs k) (valueAt vs k):=by
 unfold KV at r;induction r with
 |nil=>exact True.intro
 |@cons p q ps qs h t ih=>
  obtain⟨h1,h2⟩:=h;by_cases e:p.1=k
  ·have e':q.1=k:=h1.symm.trans e
   have b:valueAt (q::qs) k=some q.2:=by simp[valueAt,XD,e']
   rw[qW e,b];exact h2
  ·have e':¬q.1=k:=λz=>e (h1.trans z)
   have b:valueAt (q::qs) k=valueAt qs k:=by simp[valueAt,XD,e']
   rw[qX e,b];exact ih
theorem KV.any{kvs:List (κ×V)}{vs:List (κ×Value)}(r:KV kvs vs)(k:κ):(kvs.any λkv=>decide (kv.1=k))=vs.any λkv=>decide (kv.1=k):=by
 unfold KV at r;induction r with
 |nil=>rfl
 |cons h t ih=>rw[XE,XE,ih,h.1]
theorem KV.repl{kvs:List (κ×V)}{vs:List (κ×Value)}(r:KV kvs vs)(k:κ){y:V}{u:Value}(ry:RelV y u):
  KV (kvs.map λkv=>if kv.1=k then(kv.1,y) else kv) (vs.map λkv=>if kv.1=k then(kv.1,u) else kv):=by
 unfold KV at r ⊢;induction r with
 |nil=>exact .nil
 |@cons p q ps qs h t ih=>
  rw[YJ,YJ];refine .cons ?_ ih;obtain⟨h1,h2⟩:=h;by_cases e:p.1=k
  ·rw[if_pos e,if_pos (h1.symm.trans e)];exact⟨h1,ry⟩
  ·rw[if_neg e,if_neg (λz=>e (h1.trans z))];exact⟨h1,h2⟩
theorem KV.put{kvs:List (κ×V)}{vs:List (κ×Value)}(r:KV kvs vs)(k:κ){y:V}{u:Value}(ry:RelV y u):KV (putK kvs k y) (stored vs k u):=by
 unfold putK stored;rw[r.any k];by_cases e:(vs.any λkv=>decide (kv.1=k))=true
 ·rw[if_pos e,if_pos e];exact r.repl k ry
 ·rw[if_neg e,if_neg e];exact Paired.snoc r ⟨rfl,ry⟩
theorem KV.keys{kvs:List (κ×V)}{vs:List (κ×Value)}(r:KV kvs vs):kvs.map (·.1)=vs.map (·.1):=by
 unfold KV at r;induction r with
 |nil=>rfl
 |cons h t ih=>rw[YJ,YJ,ih,h.1]
theorem KV.length{kvs:List (κ×V)}{vs:List (κ×Value)}(r:KV kvs vs):kvs.length=vs.length:=Paired.length r
end
theorem rW{P:Zw}{w:World}{k:Key}{u:Value}(r:RelV (kV k) u):(bn P w).is k u=true:=by
 cases k with
 |inl i=>obtain⟨t,e⟩:=(show ∃t,u=Value.int i t from r);subst e;exact xN P w i t
 |inr x=>obtain⟨t,e⟩:=(show ∃t,u=Value.str x t from r);subst e;exact xO P w x t
theorem uW{P:Zw}{w:World}:∀{ks:List Key}{us:Zd},Vals (ks.map kV) us->ItemsAre (bn P w) ks us
 |[],_,r=>by rw[YW] at r;cases r;exact .nil
 |k::ks,_,r=>by
  rw[YJ] at r;cases r with
  |cons h t=>exact .cons (rW h) (uW t)
abbrev KT(H:Hp):List (List Key×V)->List (List Key×Addr×Value)->Prop:=Paired λp q=>p.1=q.1/\H q.2.1=some (.tup (p.1.map kV))/\RelV p.2 q.2.2
theorem KT.val{H:Hp}{kvs:List (List Key×V)}{xs:List (List Key×Addr×Value)}(r:KT H kvs xs)(k:List Key):RelO (valV kvs k) ((atKey xs k).map (·.2)):=by
 induction r with
 |nil=>exact True.intro
 |@cons p q ps qs h t ih=>
  obtain⟨h1,_,h2⟩:=h;by_cases e:p.1=k
  ·have e':q.1=k:=h1.symm.trans e
   have b:atKey (q::qs) k=some q.2:=by simp[atKey,XD,e']
   rw[qW e,b];exact h2
  ·have e':¬q.1=k:=λz=>e (h1.trans z)
   have b:atKey (q::qs) k=atKey qs k:=by simp[atKey,XD,e']
   rw[qX e,b];exact ih
theorem KT.repl{H:Hp}{kvs:List (List Key×V)}{xs:List (List Key×Addr×Value)}(r:KT H kvs xs)(k:List Key){y:V}{u:Value}(ry:RelV y u):
  KT H (kvs.map λkv=>if kv.1=k then(kv.1,y) else kv) (xs.map (putAt k u)):=by
 induction r with
 |nil=>exact .nil
 |@cons p q ps qs h t ih=>
  rw[YJ,YJ];refine .cons ?_ ih;obtain⟨h1,h2,h3⟩:=h;unfold putAt;by_cases e:p.1=k
  ·rw[if_pos e,if_pos (h1.symm.trans e)];exact⟨h1,h2,ry⟩
  ·rw[if_neg e,if_neg (λz=>e (h1.trans z))];exact⟨h1,h2,h3⟩
theorem KT.put{H:Hp}{kvs:List (List Key×V)}{xs:List (List Key×Addr×Value)}(r:KT H kvs xs)(k:List Key){b:Addr}{y:V}{u:Value}(hb:H b=some (.tup (k.map kV)))(ry:RelV y u):
  KT H (putK kvs k y) (storedH xs k b u):=by
 have e:(kvs.any λkv=>decide (kv.1=k))=(atKey xs k).isSome:=by
  rw[vW,(r.val k).isSome_eq,Option.isSome_map]
 unfold putK storedH;rw[e];by_cases q:(atKey xs k).isSome=true
 ·rw[if_pos q,if_pos q];exact r.repl k ry
 ·rw[if_neg q,if_neg q];exact Paired.snoc r ⟨rfl,hb,ry⟩
theorem KT.keeps{H H':Hp}{kvs:List (List Key×V)}{xs:List (List Key×Addr×Value)}(r:KT H kvs xs)(ht:∀b ys,H b=some (.tup ys)->H' b=some (.tup ys)):KT H' kvs xs:=
 Paired.mapP r λ_ _ z=>⟨z.1,ht _ _ z.2.1,z.2.2⟩
section
variable {P:Zw}{w:World}{H:Hp}{h:Heap}{a:Addr}
theorem DE{u:HO}(ok:HOk P w H h)(e:Rd H a u):aU P w H h a u:=e.ok ok
theorem lB{kvs:List (Key×V)}(ok:HOk P w H h)(e:Rd H a (.dK kvs)):kvs.length<=sizeLine/\(a==sysModules)=false/\∃vs,KV kvs vs/\h.DictOf (bn P w) a vs:=
 show aU P w H h a (.dK kvs) from DE ok e
theorem DF{kvs:List (Key×V)}(ok:HOk P w H h)(e:H a=some (.dK kvs)):kvs.length<=sizeLine/\(a==sysModules)=false/\∃vs,KV kvs vs/\h.DictOf (bn P w) a vs:=lB ok (.inl e)
theorem pc{ks:List Key}(ok:HOk P w H h)(e:H a=some (.tup (ks.map kV))):(tupleKind (bn P w)).is h ks a:=by
 obtain⟨_,its,r,o,h1,h2,n,h3⟩:=(show aU P w H h a (.tup (ks.map kV)) from ok a _ e);exact⟨o,its.toArray,n,h1,h2,h3,by simpa using uW r⟩
theorem rX{kvs:List (List Key×V)}(ok:HOk P w H h)(e:Rd H a (.dT kvs)):kvs.length<=sizeLine/\(a==sysModules)=false /\
  ∃xs,KT H kvs xs/\h.DictOfH (tupleKind (bn P w)) a xs:=by
 obtain⟨z,y,xs,r,o,es,ep,h1,h2,h3,h4,h5⟩:=(show aU P w H h a (.dT kvs) from DE ok e);refine⟨z,y,xs,r,o,es,ep,h1,h2,h3,h4,λx hx=>?_,h5⟩;have all:∀{l:List (List Key×V)}{m:List (List Key×Addr×Value)},KT H l m->∀x∈m,(tupleKind (bn P w)).is h x.1 x.2.1:=by
  intro l m q;induction q with
  |nil=>intro x hx;exact nomatch hx
  |@cons p q ps qs hq t ih=>
   intro x hx;rcases YA.mp hx with e | hx
   ·subst e
    exact pc ok (by rw[←hq.1];exact hq.2.1)
   ·exact ih x hx
 exact all r x hx
theorem HU{kvs:List (List Key×V)}(ok:HOk P w H h)(e:H a=some (.dT kvs)):kvs.length<=sizeLine/\(a==sysModules)=false /\
  ∃xs,KT H kvs xs/\h.DictOfH (tupleKind (bn P w)) a xs:=rX ok (.inl e)
end
def DGet(H:Hp)(a:Addr)(y:V)(r:Option V):Prop:=
 (∃kvs k,Rd H a (.dK kvs)/\y=kV k/\r=valV kvs k) \/ ∃kvs k b,Rd H a (.dT kvs)/\y=.ref b/\H b=some (.tup (k.map kV))/\r=valV kvs k
def DPut(H:Hp)(a:Addr)(y v:V)(H':Hp):Prop:=
 (∃kvs k,H a=some (.dK kvs)/\y=kV k/\kvs.length<sizeLine/\H'=upd H a (.dK (putK kvs k v))) \/
 ∃kvs k b,H a=some (.dT kvs)/\y=.ref b/\H b=some (.tup (k.map kV))/\kvs.length<sizeLine/\H'=upd H a (.dT (putK kvs k v))
theorem DGet.k{H:Hp}{a:Addr}{kvs:List (Key×V)}{k:Key}(e:H a=some (.dK kvs)):DGet H a (kV k) (valV kvs k):=.inl ⟨kvs,k,.inl e,rfl,rfl⟩
section
variable {X:Cx}{pins:Zc}{σ:St}{H:Hp}{s:Shared}{a:Addr}{y v:V}{u r:Value}{o:Option V}{A:Around}{E:Zb}
theorem Inv.big(I:Inv X pins σ H s):sysModules<s.heap.objs.size:=by
 have h:mainGlobals<s.heap.objs.size:=(I.mod.glob.keeps I.bk).lt;exact Nat.lt_trans 'a' h
theorem AB{Q:Zb}(hu:A.units+1<cLine)(I:Inv X pins σ H s)(g:DGet H a y (some v))(ry:RelV y u)(h:∀w' s',Inv X pins σ H s'->RelV v w'->Q w' s'):
  wpAny 'c' A (getItem (.ref a) u) Q E s:=by
 rcases g with⟨kvs,k,e,ey,l⟩ | ⟨kvs,k,b,e,ey,eb,l⟩
 ·subst ey
  obtain⟨z,hd,vs,rel,dd⟩:=lB I.hok e;obtain⟨w',hw,rw'⟩:=RelO.some_of (v:=v) (o:=valueAt vs k) (by rw[l];exact rel.val k);exact wpAny_getItem_of (rW ry) dd.mapOf hw (h w' _ (I.tok _) rw')
 ·subst ey
  cases(show u=Value.ref b from ry);obtain⟨z,hd,xs,rel,dd⟩:=rX I.hok e;obtain⟨w',hw,rw'⟩:=RelO.some_of (v:=v) (o:=(atKey xs k).map (·.2)) (by rw[l];exact rel.val k);obtain⟨p,hp,hp2⟩:=ZO.mp hw;refine wpAny_getItem_heap (tupleKind_room_in1 hu) (pc I.hok eb) dd hp ?_;rw[hp2];exact h w' _ (I.tok _) rw'
theorem d_in{Q:Zb}(hu:A.units+1<cLine)(I:Inv X pins σ H s)(g:DGet H a y o)(ry:RelV y u)(h:∀s',Inv X pins σ H s'->Q (.bool o.isSome) s'):
  wpAny 'c' A (compareOp .In u (.ref a)) Q E s:=by
 rcases g with⟨kvs,k,e,ey,l⟩ | ⟨kvs,k,b,e,ey,eb,l⟩
 ·subst ey
  obtain⟨z,hd,vs,rel,dd⟩:=lB I.hok e;refine wpAny_in_of (rW ry) hd dd.mapOf ?_;rw[←(rel.val k).isSome_eq,←l];exact h _ (I.tok _)
 ·subst ey
  cases(show u=Value.ref b from ry);obtain⟨z,hd,xs,rel,dd⟩:=rX I.hok e;refine wpAny_in_heap (tupleKind_room_in1 hu) (pc I.hok eb) hd dd ?_;have q:=(rel.val k).isSome_eq;rw[Option.isSome_map] at q;rw[←q,←l];exact h _ (I.tok _)
theorem Ev{Q:Zb}(hu:A.units+1<cLine)(I:Inv X pins σ H s)(g:DGet H a y o)(ry:RelV y u)(h:∀s',Inv X pins σ H s'->Q (.bool (!o.isSome)) s'):
  wpAny 'c' A (compareOp .NotIn u (.ref a)) Q E s:=by
 rcases g with⟨kvs,k,e,ey,l⟩ | ⟨kvs,k,b,e,ey,eb,l⟩
 ·subst ey
  obtain⟨z,hd,vs,rel,dd⟩:=lB I.hok e;refine wpAny_notIn_of (rW ry) hd dd.mapOf ?_;rw[←(rel.val k).isSome_eq,←l];exact h _ (I.tok _)
 ·subst ey
  cases(show u=Value.ref b from ry);obtain⟨z,hd,xs,rel,dd⟩:=rX I.hok e;refine wpAny_notIn_heap (tupleKind_room_in1 hu) (pc I.hok eb) hd dd ?_;have q:=(rel.val k).isSome_eq;rw[Option.isSome_map] at q;rw[←q,←l];exact h _ (I.tok _)
theorem yt{h':Heap}{t':Nat}{ob:HO}(I:Inv X pins σ H s)(mu:Mut (H a))(hs:Heap.SameBut a s.heap h')(he:∃q,h'.get? a=some q)(new:aU X.prog X.w (upd H a ob) h' a ob):
  Inv X pins σ (upd H a ob) { s with heap:=h',toks:=t' }:=
 I.write (x:=a) (e:=a) mu (.inl rfl) (λb q hb z=>(hs.2 b hb).trans z) he new
theorem Gw{P:Zw}{w:World}{H':Hp}{h':Heap}{kvs:List (Key×V)}{vs:List (Key×Value)}(z:kvs.length<=sizeLine)(hd:(a==sysModules)=false)(rel:KV kvs vs)(dd:h'.DictOf (bn P w) a vs):
  aU P w H' h' a (.dK kvs):=⟨z,hd,vs,rel,dd⟩
theorem AC{H':Hp}{Q:Zo}(hu:A.units+1<cLine)(I:Inv X pins σ H s)(g:DPut H a y v H')(ry:RelV y u)(rv:RelV v r)(h:∀s',Inv X pins σ H' s'->Q () s'):
  wpAny 'c' A (setItem (.ref a) u r) Q E s:=by
 rcases g with⟨kvs,k,e,ey,l,eH⟩ | ⟨kvs,k,b,e,ey,eb,l,eH⟩
 ·subst ey eH
  obtain⟨z,hd,vs,rel,dd⟩:=DF I.hok e;have hz:vs.length<=sizeLine:=by rw[←rel.length];exact z
  have hl:(putK kvs k v).length<=sizeLine:=by have:=qL kvs k v;omega
  refine wpAny_setItem_pairs (hsz:=hz) (rW ry) dd λh' dd' hs=>h _ ?_
  have he:∃q,h'.get? a=some q:=let⟨q,_,_,hq,_⟩:=dd';⟨q,hq⟩;exact yt I (by rw[e];exact True.intro) hs he (Gw hl hd (rel.put k rv) dd')
 ·subst ey eH
  cases(show u=Value.ref b from ry);obtain⟨z,hd,xs,rel,dd⟩:=HU I.hok e;have hz:xs.length<=sizeLine:=by rw[←Paired.length rel];exact z
  have hl:(putK kvs k v).length<=sizeLine:=by have:=qL kvs k v;omega
  refine wpAny_setItem_heap (hsz:=hz) (tupleKind_room_in1 hu) (pc I.hok eb) dd λh' dd' hs=>h _ ?_
  obtain⟨q,es,ep,hq,h2,h3,h4,_,h5⟩:=dd';refine yt I (by rw[e];exact True.intro) hs ⟨q,hq⟩ ⟨hl,hd,_,(rel.put k eb rv).keeps λc ys ec=>?_,q,es,ep,hq,h2,h3,h4,h5⟩;rw[aF (Ht ec e (λz=>nomatch z))];exact ec
end
section
variable {X:Cx}{pins:Zc}{σ:St}{H:Hp}{s:Shared}{a:Addr}{kvs:List (Key×V)}{k:Key}{u:Value}{A:Around}{E:Zb}
theorem DG{Q:Zb}(I:Inv X pins σ H s)(e:Rd H a (.dK kvs))(h:∀t s',Inv X pins σ H s'->Q (.int kvs.length t) s'):wpAny 'c' A (call (.builtin "len") [.ref a]) Q E s:=by
 obtain⟨z,hd,vs,rel,dd⟩:=lB I.hok e;refine call_len_dict hd dd (by rw[←rel.length];rw[sizeLine_eq] at z;omega) ?_;rw[←rel.length];exact h _ _ (I.tok _)
end
theorem xP{X:Cx}{pins:Zc}{σ:St}{H:Hp}{s:Shared}{a:Addr}{y:V}{o:Option V}(I:Inv X pins σ H s)(g:DGet H a y o):s.TypeIs (.ref a) "dict":=by
 rcases g with⟨kvs,k,e,_,_⟩ | ⟨kvs,k,b,e,_,_,_⟩
 ·obtain⟨_,_,vs,_,dd⟩:=lB I.hok e
  exact dd.typeIs
 ·obtain⟨_,_,xs,_,dd⟩:=rX I.hok e
  exact dd.typeIs
theorem Cr{P:Zw}{w:World}{H:Hp}(h:Heap)(hb:sysModules<h.objs.size):aU P w H (h.push { cls:=.type "dict",data:=.dict #[] }) h.objs.size (.dK []):=
 ⟨YL _,ZR.mpr (Ne.symm (ZU hb)),[],.nil,Heap.DictOf.new h⟩
def Gx:TE:=λ_ H Q=>∀p,H p=none->Q (.ref p) (upd H p (.dK []))
section
variable {X:Cx}{pos:Pos}
theorem Cs:PE X (.Dict [] [] pos) Gx:=λpins s σ H Q I h=>
 wpAny_Dict_empty ⟨.ref s.heap.objs.size,_,I.laid (a:=s.heap.objs.size) (o:=.dK []) (t':=s.toks) (λ_ _ q=>Yd _ q) (YE _) (Cr s.heap I.big),rfl,h _ (I.hok.fresh (YE _))⟩
end
structure M1 (X:Cx) (o:Expr) (m:Str) (apos:Pos) (e:Expr) (cpos:Pos):Prop where
 base:attributeBase o m X.env (eval o X.env)=eval o X.env
 few:((backTo cpos (starEach [e] X.env)).all (λx=>!x.1)&&(backToKw cpos (keywordEach [] X.env)).all (λx=>x.1.isSome)
  && decide (([e]:List Expr).length+([]:List Keyword).length+(if([]:List Keyword).isEmpty then 0 else 1)<30))=true
 line:(apos.endLine==cpos.line)=true
 trees:backTo cpos (starEach [e] X.env)=[(false,eval e X.env)]
structure M2 (X:Cx) (o:Expr) (m:Str) (apos:Pos) (e f:Expr) (cpos:Pos):Prop where
 base:attributeBase o m X.env (eval o X.env)=eval o X.env
 few:((backTo cpos (starEach [e,f] X.env)).all (λx=>!x.1)&&(backToKw cpos (keywordEach [] X.env)).all (λx=>x.1.isSome)
  && decide (([e,f]:List Expr).length+([]:List Keyword).length+(if([]:List Keyword).isEmpty then 0 else 1)<30))=true
 line:(apos.endLine==cpos.line)=true
 trees:backTo cpos (starEach [e,f] X.env)=[(false,eval e X.env),(false,eval f X.env)]
end L2
namespace Att
open PySem PySem.W PySem.Calls PyProof.Rows
theorem rY{P:Params}{h:Heap}:∀(ns:Zi) (vs:Zd),WellAll P h vs (ns.map WData.int)->IntsAre vs ns:=by
 intro ns;induction ns with
 |nil=>
  intro vs w;rw[YW] at w;cases w;exact .nil
 |cons n ns ih=>
  intro vs w;rw[YJ] at w;cases w with
  |cons a b=>
   cases a;exact .cons _ _ (ih _ b)
theorem AD{l:OpenLaw}{n:Nat}(hn:l.most=some n){P:Params}{h:Heap}{args:List WData}{vals:Zd}
  (hpre:l.row.toRowW.claim.pre args=true) (hwl:WellAll P h vals args):
  ∃a vs ns,vals=[Value.ref a]/\args=[WData.list (ns.map WData.int)]/\h.get? a=some { cls:=.type "list",data:=.seq vs.toArray }/\IntsAre vs ns/\ns.length<=n:=by
 have hsh:WShape.hasAll [] args [.list .int]=true:=(pre_splitW hpre).1;have hc:l.pre.holds [] { args:=args }=true:=(pre_splitW hpre).2;obtain⟨d,r,rfl,h1,h2⟩:=hasAllW_cons hsh;obtain rfl:=hasAllW_nil h2;obtain⟨xs,rfl,h3⟩:=hasW_list h1;obtain⟨ns,rfl⟩:=items_int h3;have hlen:ns.length<=n:=by
  unfold OpenLaw.pre at hc;have h4:(WTm.not (.lt (.lit (.int (n:Int))) (.len (.arg 0)))).holds [] { args:=[.list (ns.map .int)] }=true:=by
   have h4:=(holds_andW hc).1;rw[hn] at h4;exact h4
  have h5:=condW_of h4 (w_not (w_lt w_lit (w_len_list (w_arg rfl))));rw[ZE] at h5;refine Nat.le_of_not_lt λq=>?_
  have q':(n:Int)<((ns.length:Nat):Int):=by omega
  first
   |(rw[YT q'] at h5;exact absurd h5 'a')
   |(simp at h5;omega)
 cases hwl with
 |cons w1 w2=>
  cases w2;cases w1 with
  |list ho hall=>exact⟨_,_,ns,rfl,rfl,ho,rY ns _ hall,hlen⟩
theorem AE(l:OpenLaw)(args:List WData):l.row.toRowW.claim.post args (.bool true) args=true:=
 postW_of (r:=l.row.toRowW) (X:=(true==true))
  (show WShape.has [] (.bool true) .bool=true by first | rfl | decide | simp[WShape.has,WShape.arms,WShape.armsAll])
  (show(WTm.eq .res (.lit (.bool true))).value [] { args:=args,res:=some (.bool true),after:=args }=some (.bool (true==true)) from w_eq_bool (w_res rfl) w_lit) rfl
theorem xQ{l:OpenLaw}{n:Nat}{q:Zw}{loose:Zf}{XP:(Str->Option Value)->Heap->Prop}{YP:World->Heap->Prop}{d:DefRec}
  (hn:l.most=some n) (hdf:d.params.defaults=[])
  (call:∀(w:World) (s₀ s₁:Shared) (mg mb:Ze) (fa:Addr) (o:Obj) (pm cd doc:Value) (a:Addr) (vs:Zd) (ns:Zi),
   Ground q loose [] XP w s₀ mg mb s₁.heap->YP w s₁.heap ->
   s₁.heap.get? fa=some o->o.data=.func (docDef d.name d.params d.body d.scope pm cd doc)->s₁.heap.CodeRec cd d.name->mg d.name=some (.ref fa) ->
   s₁.heap.get? a=some { cls:=.type "list",data:=.seq vs.toArray }->IntsAre vs ns->ns.length<=n->s₁.gens = #[] ->
   codeAny (model l.prog w) callerA (.call (.ref fa) ⟨[.ref a],[]⟩) (λr s'=>r=.ok (.ret (.bool true))/\OldK s₁.heap s'.heap/\s'.os=s₁.os/\AllBare s'.gens) s₁):
  WalkO q loose XP YP l.row.toRowW d [] (λf vs=>PySem.call f vs):=by
 intro w s₀ s₁ mg mb G Y fa o pm cd doc dV kV ho hd hcd hD hmg hg args vals as hpre hlay hrd hwl hlo;obtain rfl:dV=.none:=Dflts.none hD hdf;obtain rfl:kV=.none:=Dflts.noKw hD;obtain⟨a,vs,ns,rfl,rfl,hobj,hints,hlen⟩:=AD hn hpre hwl;refine enter_call (codeAny_mono (call w s₀ s₁ mg mb fa o pm cd doc a vs ns G Y ho (fd_plain hd) hcd hmg hobj hints hlen hg) λr s' hq=>?_);obtain⟨rfl,h2,h3,h4⟩:=hq;exact⟨.inl ⟨.bool true,.bool true,[],rfl,λ_=>rfl,.bool true,AE l _,λ_=>⟨List.Pairwise.nil,λ_ hm=>(nomatch hm)⟩⟩,h2,h3,h4⟩
section
variable {prog:Zw}{w:World}{A:Around}{E:Zb}{s:Shared}{K:Frag}
end
end Att
namespace L2
open PySem PySem.Spec PyProof.Rows
theorem uX:∀{vs:Zd}{ns:Zi},IntsAre vs ns->Vals (ns.map V.int) vs
 |_,_,.nil=>.nil
 |_,_,.cons n t h=>.cons ⟨t,rfl⟩ (uX h)
def Only(H:Hp):Prop:=∀b,H b=none \/ ∃o xs,H b=some (.frz o (.lst xs))
theorem Ct{P:Zw}{w:World}{K:Za}{mg mb:Ze}{CX:CXT}{k:Nat}{fa a:Addr}{fd:Zv}{x:Str}{sp:Sp}{s₁:Shared}{vs:Zd}{ns:Zi}
  (KX:K.In s₁.heap) (hns:s₁.heap.Ns mainGlobals mg) (hb:s₁.heap.Ns builtinsNs mb) (hbb:∀x:Str,x ≠ "__name__"->mb x=bootBuiltins x) (hlim:s₁.heap.NoLimit) (hg:s₁.gens = #[])
  (ha:s₁.heap.get? a=some { cls:=.type "list",data:=.seq vs.toArray }) (hi:IntsAre vs ns) (hl:ns.length<=sizeLine) (hr:Room k callerA)
  (F:∀base:Heap,K.In base->base.Ns mainGlobals mg->FnOk P w K mg base CX k fa fd [x] sp) (hbind:∀(s:Shared) (u:Value),BindsTo s fd ⟨[u],[]⟩ [(x,u)])
  (hsp:∀H:Hp,Only H->SqL K H a (ns.map V.int)->sp [.ref a] H (λv _=>v=.bl true) λ_ _ _=>False)
  (hCX:∀H e s',CX [] H s₁ (λ_ _ _=>False) e s'->False):
  codeAny (model P w) callerA (.call (.ref fa) ⟨[.ref a],[]⟩) (λr s'=>r=.ok (.ret (.bool true))/\OldK s₁.heap s'.heap/\s'.os=s₁.os/\AllBare s'.gens) s₁:=by
 have rv:=uX hi;have lenV:=hi.length
 -- from an abstract heap in which nothing but the script may be tracked
 have core:∀H:Hp,Only H->SqL K H a (ns.map V.int)->HOk P w H s₁.heap->(∀b,H b≠none->b=a)->(H a≠none->K.lookup a=none) ->
   codeAny (model P w) callerA (.call (.ref fa) ⟨[.ref a],[]⟩) (λr s'=>r=.ok (.ret (.bool true))/\OldK s₁.heap s'.heap/\s'.os=s₁.os/\AllBare s'.gens) s₁:=by
  intro H hO hS hok hA hK;have base_of:∀{b:Addr}{o:Obj},s₁.heap.get? b=some o->H b=none->(hidT s₁.heap H).get? b=some o:=λe n=>BY e n
  have noA:∀{b:Addr}{o:Obj}{es:Array DictEntry}{ep:Nat},s₁.heap.get? b=some o->o.data=.dict es ep->H b=none:=λ{b o es ep} e d=>by
   cases q:H b with
   |none=>rfl
   |some u=>
    have e':b=a:=hA b (by rw[q];simp);subst e';rw[ha] at e;cases e;have d':Data.seq vs.toArray _=Data.dict es ep:=d;cases d'
  have nsK:∀{b:Addr}{m:Ze},s₁.heap.Ns b m->(hidT s₁.heap H).Ns b m:=λ{b m} ⟨o,es,ep,e,d,r⟩=>⟨o,es,ep,base_of e (noA e d),d,r⟩
  have hKb:K.In (hidT s₁.heap H):=λb o e=>base_of (KX b o e) (by
   cases q:H b with
   |none=>rfl
   |some u=>
    have e':b=a:=hA b (by rw[q];simp);subst e';rw[hK (by rw[q];simp)] at e;cases e)
  have hM:Mod K mg (hidT s₁.heap H):=⟨hKb,nsK hns,⟨mb,nsK hb,hbb⟩,let⟨mc,h1,h2⟩:=hlim;⟨mc,nsK h1,h2⟩⟩;have e0:Env0 P w K mg (hidT s₁.heap H) callerA [] s₁ H:=⟨rfl,hM,λb o e=>DW e,Nat.le_of_eq (Am _ _),trivial,λb hb=>absurd (show b∈([]:List Addr) from hb) (by simp),hok,.of_eq hg⟩;refine codeAny_mono ((F _ hKb (nsK hns)).run callerA [] s₁ H ⟨[.ref a],[]⟩ [.ref a] [.ref a] _ _ hr e0 (hbind s₁ (.ref a)) (.cons rfl .nil) (hsp H hO hS)) λr s' h=>?_
  cases r with
  |error e=>exact(hCX H e s' h).elim
  |ok fl=>
   cases fl with
   |next=>exact Yh h
   |brk=>exact Yh h
   |cont=>exact Yh h
   |ret u=>
    obtain⟨v,H',os,bare,un,hok',r',q⟩:=h;have q':v=.bl true:=q;subst q';obtain rfl:u=Value.bool true:=r';refine⟨rfl,OldK.of_keep λb o e=>?_,os,bare⟩;cases q:H b with
    |none=>exact un.keep b o e q (by intro z;exact absurd (show b∈([]:List Addr) from z) (by simp)) (by simp)
    |some u=>
     rcases hO b with z | ⟨ob,xs,z⟩
     ·rw[q] at z;cases z
     ·have z2:=un.frzs b ob _ z
      obtain⟨e1,_⟩:=hok b _ z;obtain⟨e2,_⟩:=hok' b _ z2;rw[e] at e1;cases e1;exact e2
 cases hk:K.lookup a with
 |some o=>
  -- the script is one of the module's own objects
  have e:=KX a o hk;rw[ha] at e;cases e;refine core (λ_=>none) (λ_=>.inl rfl) (.inr ⟨_,vs.toArray,_,hk,rfl,rfl,rfl,by rw[YG,lenV];exact hl,by simpa using rv⟩) (λb u z=>by have z':(none:Option HO)=some u:=z;cases z') (λb z=>absurd rfl z) λz=>absurd rfl z
 |none=>
  refine core (λb=>if b=a then some (.frz { cls:=.type "list",data:=.seq vs.toArray } (.lst (ns.map V.int))) else none) (λb=>?_) (.inl (.inr ⟨{ cls:=.type "list",data:=.seq vs.toArray },if_pos rfl⟩)) (λb u z=>?_) (λb z=>?_) λ_=>hk
  ·by_cases hb:b=a
   ·exact .inr ⟨_,_,if_pos hb⟩
   ·exact .inl (if_neg hb)
  ·by_cases hb:b=a
   ·have z':=(if_pos hb).symm.trans z
    cases z';subst hb;exact⟨ha,by rw[ZE];exact hl,vs,_,rv,ha⟩
   ·have z':=(if_neg hb).symm.trans z
    cases z'
  ·by_cases hb:b=a
   ·exact hb
   ·exact absurd (if_neg hb) z
theorem Ew{l:PySem.W.OpenLaw}{n k:Nat}{q:Zw}{loose:Zf}{XP:(Str->Option Value)->Heap->Prop}{YP:World->Heap->Prop}{d:DefRec}{K:Params->PySem.W.Frag}{CX:World->CXT}{sp:World->Sp}{x:Str}
  (hn:l.most=some n) (hn2:n<=sizeLine) (hdf:d.params.defaults=[]) (hr:Room k callerA)
  (hY:∀(w:World) (h:Heap),YP w h->(K w.params).In h)
  (F:∀(w:World) (mg:Ze) (fa:Addr) (h:Heap),(K w.params).In h->h.Ns mainGlobals mg->mg d.name=some (.ref fa) ->
   ∃fd:FuncData,(∀(s:Shared) (u:Value),BindsTo s fd ⟨[u],[]⟩ [(x,u)]) /\
    ∀base:Heap,(K w.params).In base->base.Ns mainGlobals mg->FnOk l.prog w (K w.params) mg base (CX w) k fa fd [x] (sp w))
  (hsp:∀(w:World) (H:Hp) (a:Addr) (ns:Zi),ns.length<=n->Only H->SqL (K w.params) H a (ns.map V.int)->sp w [.ref a] H (λv _=>v=.bl true) λ_ _ _=>False)
  (hCX:∀(w:World) (H:Hp) (s:Shared) (e:Value) (s':Shared),CX w [] H s (λ_ _ _=>False) e s'->False):
  PySem.W.WalkO q loose XP YP l.row.toRowW d [] (λf vs=>PySem.call f vs):=by
 refine Att.xQ hn hdf λw s₀ s₁ mg mb fa o pm cd doc a vs ns G Y ho hd hcd hmg hobj hints hlen hg=>?_
 have KX:=hY w _ Y;obtain⟨fd,hb,hF⟩:=F w mg fa _ KX G.T.g hmg;exact Ct KX G.T.g G.T.b G.T.builtins G.T.nolimit hg hobj hints (ZX hlen hn2) hr hF hb (λH hO hS=>hsp w H a ns hlen hO hS) λH e s'=>hCX w H s₁ e s'
def inClass(s:Stmt)(j:Nat):Stmt:=match s with
 |.ClassDef _ _ _ body _ _ _ _ _ _ _=>body.getD j (.Pass ⟨0,0,0,0⟩)
 |_=>.Pass ⟨0,0,0,0⟩
def bo(s:Stmt):Arguments:=match s with
 |.FunctionDef _ a _ _ _ _ _ _ _ _=>a
 |_=>{ posonlyargs:=[],args:=[],vararg:=none,kwonlyargs:=[],kw_defaults:=[],kwarg:=none,defaults:=[] }
def aK(s:Stmt):List Stmt:=match s with
 |.FunctionDef _ _ b _ _ _ _ _ _ _=>b
 |_=>[]
def av(s:Stmt):Scope:=match s with
 |.FunctionDef _ _ _ _ _ _ sc _ _ _=>sc
 |_=>{ kind:=.function,names:=[],isGenerator:=false,isCoroutine:=false }
abbrev CX0:CXT:=λ_ _ _ _ _ _=>False
abbrev E0:XK:=λ_ _ _=>False
theorem vF{X:Cx}:o9 CX0 X E0:=λ_ _ _ _ _ _ _ h=>h.elim
structure Fun (K:Za) (x qual:Str) (st:Stmt) (f:Addr) (fd:Zv):Prop where
 ex:∃(oc:Value) (od:Zm) (kV doc pm:Value) (an:Zm) (cdv ct:Value) (osl:Zn),
  fd=PySem.W.fnOf x qual (bo st) (aK st) (av st) .none kV doc pm an cdv ct/\K.lookup f=some ⟨oc,od,.func fd,osl⟩/\PySem.W.codeIn K cdv qual=true
 kp:PySem.W.keepIn K (.ref f)=true
section
variable {P:Zw}{w:World}{K:Za}{mg:Ze}{base:Heap}
theorem Fun.ok{x qual:Str}{st:Stmt}{f:Addr}{fd:Zv}{N ps:Zf}{k:Nat}{sp:Sp}(F:Fun K x qual st f fd)(S:FnScope N ps (av st))(len:∀vs H Q E,sp vs H Q E->vs.length=ps.length)
  (hbody:∀(cdv:Value) (A:Around) (outer:List Env) (s:Shared) (H:Hp) (vs:List V) (Q:VK) (E:XK),Room k (A.deeper (envOfC qual (av st) s.heap.objs.size f cdv))->sp vs H Q E ->
   ∃t,PSs (cxOf CX0 P w K mg base N qual (av st) f cdv A outer s H E).nox (aK st) t/\t { nx:=λ_ H'=>Q .non H',rt:=Q } (start N vs) H):FnOk P w K mg base CX0 (k+1) f fd ps sp:=by
 obtain⟨oc,od,kV,doc,pm,an,cdv,ct,osl,rfl,lk,hcd⟩:=F.ex;refine HM lk hcd S len λA outer s H vs Q E hr hsp=>?_
 obtain⟨t,h,q⟩:=hbody cdv A outer s H vs Q E hr hsp;exact⟨t,h.nox,q⟩
theorem Fun.binds{x qual:Str}{st:Stmt}{f:Addr}{fd:Zv}{ps:Zf}(F:Fun K x qual st f fd)
  (h:∀(kV doc pm:Value) (an:Zm) (cdv ct:Value) (us:Zd),us.length=ps.length->bindArgs (PySem.W.fnOf x qual (bo st) (aK st) (av st) .none kV doc pm an cdv ct) ⟨us,[]⟩=pure (ps.zip us)):Binds K fd ps []:=by
 obtain⟨oc,od,kV,doc,pm,an,cdv,ct,osl,rfl,lk,hcd⟩:=F.ex;exact .all (h kV doc pm an cdv ct)
theorem vX{x qual:Str}{st:Stmt}{f:Addr}{oc:Value}{od an:Zm}{osl:Zn}{kV doc pm cdv ct:Value}(l:K.lookup f=some ⟨oc,od,.func (PySem.W.fnOf x qual (bo st) (aK st) (av st) .none kV doc pm an cdv ct),osl⟩)
  (c:PySem.W.codeIn K cdv qual=true) (k:PySem.W.keepIn K (.ref f)=true):Fun K x qual st f (PySem.W.fnOf x qual (bo st) (aK st) (av st) .none kV doc pm an cdv ct):=⟨⟨oc,od,kV,doc,pm,an,cdv,ct,osl,rfl,l,c⟩,k⟩
end
theorem uY{n:Nat}(h:n<=1000):n<sizeLine:=XF h 'a'
section
variable {X:Cx}
theorem AF:fI X (.builtin "len") (λxs H Q=>∃a kvs,xs=[V.ref a]/\H a=some (.dK kvs)/\Q (.int kvs.length) H):=by
 intro pins s σ H xs us Q I r h;obtain⟨a,kvs,rfl,ha,q⟩:=h;obtain⟨u,rfl,ru⟩:=vals1 r;cases ru;exact DG I (.inl ha) λt s' I'=>⟨.int kvs.length,H,I',⟨t,rfl⟩,q⟩
end
def jl(cells:Zr):List (Str×NameKind)->List (Str×Addr)->List (Str×Addr)
 |[],acc=>acc
 |(n,k)::r,acc=>jl cells r (if k==.free then(n,(cells.lookup n).getD 0)::acc else acc)
def clOf(scope:Scope)(env:Env):List (Str×Addr):=jl env.cells scope.names []
theorem vq{scope:Scope}{env:Env}(h:∀x∈scope.names,x.2=.free->∃c,env.cells.lookup x.1=some c):closureFor scope env=pure (clOf scope env):=by
 have key:∀(l:List (Str×NameKind)) (acc:Zr),(∀x∈l,x.2=.free->∃c,env.cells.lookup x.1=some c) ->
   (forIn l acc λ(x:Str×NameKind) (cs:Zr)=>
    (if x.2==.free then(do let c ←cellOf env x.1;pure (ForInStep.yield ((x.1,c)::cs))) else pure (ForInStep.yield cs):Sem (ForInStep (List (Str×Addr)))))=pure (jl env.cells l acc):=by
  intro l;induction l with
  |nil=>intro acc _;rfl
  |cons x r ih=>
   intro acc hx;obtain⟨n,k⟩:=x;have hr:=ih (if k==.free then(n,(env.cells.lookup n).getD 0)::acc else acc) λy hy=>hx y (ZZ _ hy)
   rw[List.forIn_cons];by_cases hk:k=.free
   ·subst hk
    obtain⟨c,hc⟩:=hx (n,.free) ZY rfl;have e:cellOf env n=pure c:=by unfold cellOf;rw[hc]
    have hc':env.cells.lookup n=some c:=hc;simp only[XC,if_true,hc',Option.getD_some] at hr;simp only[XC,if_true,e,pure_bind];rw[hr];simp only[jl,XC,if_true,hc',Option.getD_some]
   ·have hb:(k==NameKind.free)=false:=by simpa using hk
    simp only[hb,XB,if_false] at hr;simp only[hb,XB,if_false,pure_bind];rw[hr];simp only[jl,hb,XB,if_false]
 have:=key scope.names [] h
 unfold closureFor clOf;simp only[bind_pure];exact this
theorem rZ{cells:Zr}:∀{l:List (Str×NameKind)}{acc:Zr}{p:Str×Addr},p∈jl cells l acc->p∈acc\/((p.1,NameKind.free)∈l/\p.2=(cells.lookup p.1).getD 0)
 |[],_,_,h=>.inl h
 |(n,k)::r,acc,p,h=>by
  rcases rZ (l:=r) h with q | ⟨q1,q2⟩
  ·by_cases hk:k=.free
   ·subst hk
    simp only[XC,if_true] at q;rcases YA.mp q with e | q
    ·subst e;exact .inr ⟨ZY,rfl⟩
    ·exact .inl q
   ·have hb:(k==NameKind.free)=false:=by simpa using hk
    simp only[hb,XB,if_false] at q;exact .inl q
  ·exact .inr ⟨ZZ _ q1,q2⟩
theorem r0{cells:Zr}:∀{l:List (Str×NameKind)}{acc:Zr}{p:Str×Addr},p∈acc->p∈jl cells l acc
 |[],_,_,h=>h
 |(n,k)::r,acc,p,h=>by
  refine r0 (l:=r) ?_;split
  ·exact ZZ _ h
  ·exact h
theorem r9{cells:Zr}:∀{l:List (Str×NameKind)}{acc:Zr}{n:Str},(n,NameKind.free)∈l->∃c,(n,c)∈jl cells l acc
 |(m,k)::r,acc,n,h=>by
  rcases YA.mp h with e | h
  ·cases e
   exact⟨_,r0 (l:=r) (by simp only[XC,if_true];exact ZY)⟩
  ·exact r9 (l:=r) h
theorem jm{β:Type}:∀{l:List (Str×β)}{n:Str}{c:β},(n,c)∈l->∃d,l.lookup n=some d
 |(m,d)::r,n,c,h=>by
  rcases YA.mp h with e | h
  ·cases e;exact⟨d,by simp[XG]⟩
  ·cases hb:n==m with
   |true=>exact⟨d,by simp[XG,hb]⟩
   |false=>
    obtain⟨d',e⟩:=jm (l:=r) h;exact⟨d',by simp[XG,hb,e]⟩
theorem jn{scope:Scope}{env:Env}(h:∀x∈scope.names,x.2=.free->∃c,env.cells.lookup x.1=some c){y:Str}{c:Addr}(e:(clOf scope env).lookup y=some c):env.cells.lookup y=some c:=by
 have m:=PySem.mem_of_lookup e;rcases rZ m with z | ⟨z1,z2⟩
 ·cases z
 ·obtain⟨c',hc'⟩:=h _ z1 rfl
  have hc'':env.cells.lookup y=some c':=hc';have z2':c=(env.cells.lookup y).getD 0:=z2;rw[hc''] at z2';rw[hc'',z2'];rfl
theorem AG{scope:Scope}{env:Env}(h:∀x∈scope.names,x.2=.free->∃c,env.cells.lookup x.1=some c){y:Str}{c:Addr}(hy:(y,NameKind.free)∈scope.names)(e:env.cells.lookup y=some c):
  (clOf scope env).lookup y=some c:=by
 obtain⟨c',m⟩:=r9 (cells:=env.cells) (acc:=[]) hy;obtain⟨d,q⟩:=jm m;have q':(clOf scope env).lookup y=some d:=q
 have:=jn h q'
 rw[e] at this;rw[q',←this]
theorem eB{env:Env}:∀{names:List (Str×NameKind)}{x:Str},
  (names.map λ(n,k)=>if(k==NameKind.free&&env.scope.kind==.function&&env.kindOf n==some .cell) then(n,NameKind.cell) else(n,k)).lookup x =
   (names.lookup x).map λk=>if(k==NameKind.free&&env.scope.kind==.function&&env.kindOf x==some .cell) then NameKind.cell else k
 |[],_=>rfl
 |(n,k)::r,x=>by
  have ih:=@eB env r x;show List.lookup x ((if(k==NameKind.free&&env.scope.kind==.function&&env.kindOf n==some .cell)=true then(n,NameKind.cell) else(n,k))::_)=_;cases hx:x==n with
  |true=>
   have e:x=n:=by simpa using hx
   subst e;by_cases hc:(k==NameKind.free&&env.scope.kind==.function&&env.kindOf x==some .cell)=true
   ·rw[if_pos hc];simp only[XG,XC,Option.map_some];rw[if_pos hc]
   ·rw[if_neg hc];simp only[XG,XC,Option.map_some];rw[if_neg hc]
  |false=>
   by_cases hc:(k==NameKind.free&&env.scope.kind==.function&&env.kindOf n==some .cell)=true
   ·rw[if_pos hc];simp only[XG,hx];exact ih
   ·rw[if_neg hc];simp only[XG,hx];exact ih
structure CompScope (osc scope:Scope) (N own N2:Zf):Prop where
 kind:scope.kind=.function
 nocell:∀y∈scope.names,y.2≠.cell
 names:∀y∈scope.names,y.2=.local->scope.names.lookup y.1=some .local
 free:∀y∈scope.names,y.2=.free->(osc.names.lookup y.1=some .cell\/osc.names.lookup y.1=some .free)
 len:N2.length=N.length
 vis:∀p∈N2.zip N,(scope.names.lookup p.1=some .free->p.1=p.2)/\scope.names.lookup p.1≠some .local
def cxC(X:Cx)(scope:Scope)(own N2:Zf)(C:Addr)(s:Shared)(H:Hp)(ex:Zh)(pn:Zc):Cx where
 prog:=X.prog
 w:=X.w
 K:=X.K
 mg:=X.mg
 base:=X.base
 A:=X.A
 N:=N2++own
 s₀:=s
 H₀:=H
 env:=compEnvC scope (clOf scope X.env) C X.env
 outer:=X.stack
 stack:=X.stack
 ex:=ex
 calm:=X.calm
 fn:=λ_=>false
 pn:=pn
 xe:=λ_ _=>False
theorem Un.track{fs ex:Zh}{H H':Hp}{h h':Heap}{a:Addr}{o:HO}(u:Un fs ex H H' h h')(hp:h.objs.size<=a)(hn:H a=none):Un fs ex H (upd H' a o) h h' where
 keep:=u.keep
 slot:=u.slot
 free:=λb ob q n hx=>by rw[aF (ZU (ZS (Ye q) hp))];exact u.free b ob q n hx
 there:=u.there
 tups:=λb xs q=>by rw[aF (aX q hn)];exact u.tups b xs q
 frzs:=λb ob xs q=>by rw[aF (aX q hn)];exact u.frzs b ob xs q
 tbls:=λb ps q=>by rw[aF (aX q hn)];exact u.tbls b ps q
def PTs(X:Cx)(ifs:Zg)(t:TT):Prop:=
 ∀(pins:Zc) (s:Shared) (σ:St) (H:Hp) (Q:Bool->Hp->Prop),Inv X pins σ H s->t σ H Q ->
  wpAny 'c' X.A (forIn ifs true λc r=>if r=true then do let ok ←isTrue c X.env (eval c X.env);pure (ForInStep.yield ok) else pure (ForInStep.yield r)) (TP X pins σ Q) X.xe s
def tYes:TT:=λ_ H Q=>Q true H
theorem Ex{X:Cx}:PTs X [] tYes:=λ_ _ _ H _ I h=>wpAny_tests_nil ⟨H,I,h⟩
theorem Ey{X:Cx}{c:Expr}{t:TT}(h:PT X c t):PTs X [c] t:=λpins s σ H Q I q=>wpAny_tests_one (h pins s σ H Q I q)
def vG(J:It)(g:TG)(tc:TT)(te:TE)(Fin:List V->Hp->Prop)(σ0:St)(H1:Hp):Prop:=
 ∃W:Nat->Nat->List V->St->Hp->Prop,(∃m,W 0 m [] σ0 H1)/\∀i m ys σ H,W i m ys σ H ->
  (J.stop i H/\Fin ys H)\/(J.go i H/\ys.length<sizeLine/\∃N:List V->St->Hp->Prop,(∀zs σ' H',N zs σ' H'->∃m',m'<m/\W (i+1) m' zs σ' H') /\
   ∀x H',J.yld i H x H'->g x σ H' λσ2 H2=>tc σ2 H2 λb H3=>if b=true then te σ2 H3 (λy H4=>N (ys++[y]) σ2 H4) else N ys σ2 H3)
section
variable {prog:Zw}{w:World}{A:Around}{R:Result->Shared->Prop}{s:Shared}
theorem qF{elt target iter:Expr}{ifs:Zg}{scope:Scope}{pos:Pos}{it acc:Value}{env:Env}(I:Nat->Shared->Prop)
  (turn:∀n s,I n s->wpAny (model prog w) A (pyNext it) (λr s₁=>match r with
   |none=>R (.ok .next) s₁
   |some v=>wpAny (model prog w) A (letOwnedTupleGo target it v) (λ_ s₁'=>wpAny (model prog w) A (assign target env v) (λ_ s₂=>
     wpAny (model prog w) A (forIn ifs true λc r=>if r=true then do let ok ←isTrue c env (eval c env);pure (ForInStep.yield ok) else pure (ForInStep.yield r)) (λok s₃=>
      if ok=true then wpAny (model prog w) A (eval elt env) (λx s₄=>
       wpAny (model prog w) A (call (.builtin "list.append") [acc,x]) (λ_ s₅=>∃m,m<n/\I m s₅) (λ_ _=>False) s₄) (λ_ _=>False) s₃
      else ∃m,m<n/\I m s₃) (λ_ _=>False) s₂) (λ_ _=>False) s₁') (λ_ _=>False) s₁) (λ_ _=>False) s)
  (n:Nat) (h:I n s):
  codeAny (model prog w) A (.compLoop (.ListComp elt [⟨target,iter,ifs,0⟩] scope pos) 0 it acc env) R s:=by
 refine codeAny_loop rfl I (λn s hI=>?_) n h;show wpAny _ A ((compTurn (.ListComp elt [⟨target,iter,ifs,0⟩] scope pos) 0 it acc env).onRaise (λx=>do noteFrame x env;theTreesLotGoes x)) _ _ s;refine wpAny_noted (wpAny_noRaise ?_);rw[compTurn_list];refine Yb (Yk (Yb (wpAny_mono (turn n s hI) (λr s₁ h₁=>?_) λ_ _ h'=>h')));cases r with
 |none=>exact Yc h₁
 |some v=>
  refine Yb (wpAny_mono h₁ (λ_ s₁' h₁'=>?_) λ_ _ h'=>h');refine Yb (wpAny_mono h₁' (λ_ s₂ h₂=>Yb (wpAny_mono h₂ (λok s₃ h₃=>?_) λ_ _ h'=>h')) λ_ _ h'=>h');cases ok with
  |false=>exact Yc ⟨rfl,h₃⟩
  |true=>
   exact Yb (Yb (wpAny_mono h₃ (λx s₄ h₄=>Yb (wpAny_mono h₄ (λ_ s₅ h₅=>Yc (Yc ⟨rfl,h₅⟩)) λ_ _ h'=>h')) λ_ _ h'=>h'))
end
section
variable {X:Cx}{pins:Zc}{σ:St}{H:Hp}{s:Shared}
theorem uZ{elt tg iter:Expr}{ifs:Zg}{scope osc:Scope}{N own N2:Zf}{pos pos':Pos}{wi:TI}{g:TG}{tc:TT}{te:TE}{use:Option (Value->Sem Unit)}{QQ:Zb}{Fin:List V->Hp->Prop}
  (cs:CompScope osc scope N own N2) (ho:X.env.scope=osc) (hN:X.N=N) (hc:X.calm=true) (hi:PI X tg iter wi)
  (hg:∀C s H ex pn,PG (cxC X scope own N2 C s H ex pn) tg g) (ht:∀C s H ex pn,PTs (cxC X scope own N2 C s H ex pn) ifs tc) (he:∀C s H ex pn,PE (cxC X scope own N2 C s H ex pn) elt te)
  (I:Inv X pins σ H s) (h:wi σ H λJ H1=>vG J g tc te Fin (σ++List.replicate own.length none) H1)
  (fin:∀(D C:Addr) (ys:List V) (H':Hp) (s':Shared) (m:Ze),Fin ys H'->H' D=none->Inv X pins σ (upd H' D (.lst ys)) s'->s'.heap.Ns C m->FpOk X pins (upd H' D (.lst ys)) C ->
   compPost 'c' X.A X.xe use QQ (.ref D) C (.ok .next) s')
  (hs:∀x,foldedSetIterable iter X.env x=pure x):
  wpAny 'c' X.A (comprehension (.ListComp elt [⟨tg,iter,ifs,0⟩] scope pos) scope X.env pos' (newList []) false (eval iter X.env) use) QQ X.xe s:=by
 subst ho hN;have hfree:∀x∈scope.names,x.2=.free->∃c,X.env.cells.lookup x.1=some c:=λx hx hf=>I.ok.has x.1 (cs.free x hx hf)
 refine wpAny_comprehension_free (use:=use) rfl hs (vq hfree) cs.kind cs.names (thn (hi pins s σ H _ I h) λv s1 h1=>thn h1 λitv s2 h2=>?_);obtain⟨it,fp,tn,J,H2,e,I2,T,st2,f2,W,⟨m0,w0⟩,turn⟩:=h2;subst e;refine wpAny_newObj_type (wpAny_newFunctionEnv cs.nocell (by intro y hy;simp at hy) (λh₁ hns₁ hsb₁=>?_) cs.kind);dsimp only at hns₁ hsb₁ ⊢;generalize hG:s2.heap.push { cls:=.type "list",dict:=none,data:=.seq ([]:List Value).toArray }=G at hns₁ hsb₁ ⊢;have hC:G.objs.size=s2.heap.objs.size+1:=by rw[←hG,Heap.size_push]
 have hDC:s2.heap.objs.size≠G.objs.size:=by rw[hC];exact ZU (YK _)
 have hCle:s2.heap.objs.size<=G.objs.size:=by rw[hC];exact YM _
 have below:∀b,b<s2.heap.objs.size->b≠G.objs.size/\b≠s2.heap.objs.size:=λb hb=>⟨by rw[hC];exact ZU (XH hb),ZU hb⟩
 have old:∀b o,s2.heap.get? b=some o->h₁.get? b=some o:=λb o e=>hsb₁.extBut b o (below b (Ye e)).1 (Yd _ (hG▸Yd _ e))
 have hacc:h₁.get? s2.heap.objs.size=some (LCg.lst []):=hsb₁.extBut _ _ hDC (Yd _ (hG▸Yg _ rfl));have fpLt:∀b∈fp,b<s2.heap.objs.size:=λb hb=>let⟨o,e,_⟩:=T.obj 0 _ st2 b hb;Ye e
 have hD2:H2 s2.heap.objs.size=none:=I2.hok.fresh (YE _);have hC2:H2 G.objs.size=none:=I2.hok.fresh hCle;have cellLt:∀x c,X.env.cells.lookup x=some c->c<s2.heap.objs.size:=λx c e=>let⟨v,z⟩:=I2.cell x c e;z.lt
 have pinLt:∀p∈X.pn++pins,p.1<s2.heap.objs.size:=λp hp=>Ye (I2.pin p hp).1
 -- the block's context
 generalize hX:cxC X scope own N2 G.objs.size s2 H2 fp (X.pn++pins)=X';have hok':X'.Ok:=by
  subst hX;refine⟨I2.ok.mod,cs.kind,I2.ok.glob,I2.ok.blt,hCle,λx y c e1 e2=>I2.ok.inj x y c (jn hfree e1) (jn hfree e2),λx hx=>?_,λx c hf=>?_,I2.ok.hd,I2.ok.frames,.inl rfl,λb hb=>?_,I2.bs,
   ZX I2.ok.bsz I2.sz,λb o e hb=>?_,λb hb hz=>?_,I2.stack,I2.stkFree⟩
  ·have hx':(relabel scope X.env).names.lookup x=some .cell\/(relabel scope X.env).names.lookup x=some .free:=hx
   unfold relabel at hx';dsimp only at hx';rw[eB] at hx';have hm:∃k,scope.names.lookup x=some k:=by
    cases q:scope.names.lookup x with
    |none=>rw[q] at hx';rcases hx' with z | z<;>cases z
    |some k=>exact⟨k,rfl⟩
   obtain⟨k,hk⟩:=hm;have hmem:=PySem.mem_of_lookup hk;have hkf:k=.free:=by
    rw[hk] at hx';cases k with
    |free=>rfl
    |cell=>exact absurd rfl (cs.nocell _ hmem)
    |_=>rcases hx' with z | z<;>cases z
   subst hkf;obtain⟨c,hc⟩:=hfree _ hmem rfl;exact⟨c,AG hfree hmem hc⟩
  ·cases hf
  ·obtain⟨_,f1,ff,fx,fc,fpn⟩:=f2 b hb
   exact⟨(below b (fpLt b hb)).1,λx c e=>fc x c (jn hfree e)⟩
  ·obtain⟨_,_,_,fx,_,_⟩:=f2 b hb
   rcases fx with z | z
   ·exact I2.ok.noex b o e z
   ·exact absurd (ZS (Ye e) (ZX I2.ok.bsz z)) (ZT _)
  ·obtain⟨_,f1,ff,_⟩:=f2 b hb
   rcases YA.mp (I2.stkSub b hz) with z | z
   ·exact f1 z
   ·exact ff z
 have I0:Inv X' [(s2.heap.objs.size,LCg.lst [])] (σ++List.replicate own.length none) H2 { s2 with heap:=h₁,toks:=s2.toks+([]:List (Str×Value)).length }:=by
  subst hX;refine⟨hok',rfl,I2.bare,Un.kept old,⟨_,hns₁,λi x v e1 e2 e3=>?_⟩,λx c e=>?_,hC2,λx c e=>I2.freeC x c (jn hfree e),λp hp=>?_,I2.hok.kept old,?_⟩
  ·have e1:(N2++own)[i]?=some x:=e1
   have hil:i<σ.length:=by
    by_cases hil:i<σ.length
    ·exact hil
    ·rw[ZG 'b',List.getElem?_replicate] at e2
     split at e2<;>cases e2
   rw[ZD hil] at e2;have hlen:N2.length=σ.length:=cs.len.trans I2.len.symm;rw[ZD 'b'] at e1;have hiN:i<X.N.length:=by rw[←I2.len];exact hil
   have hz:(x,X.N[i])∈N2.zip X.N:=by
    refine YR (i:=i) ?_;rw[List.getElem?_zip_eq_some];exact⟨e1,ZC hiN⟩
   obtain⟨v1,v2⟩:=cs.vis _ hz;have e3':Vis (relabel scope X.env) x:=e3;have hmf:scope.names.lookup x=some .free:=by
    unfold Vis relabel at e3';dsimp only at e3';rw[eB] at e3';cases q:scope.names.lookup x with
    |none=>rw[q] at e3';rcases e3' with z | z | z<;>cases z
    |some k=>
     rw[q] at e3';cases k with
     |free=>rfl
     |cell=>exact absurd rfl (cs.nocell _ (PySem.mem_of_lookup q))
     |«local»=>exact absurd q v2
     |_=>rcases e3' with z | z | z<;>cases z
   have hmem:=PySem.mem_of_lookup hmf;have ex:x=X.N[i]:=v1 hmf;have hNi:X.N[i]?=some x:=by rw[ex];exact ZC hiN
   have hcf:=cs.free _ hmem rfl;obtain⟨m,hn,hl⟩:=I2.loc;obtain⟨u,ru,lk⟩:=hl i x v hNi e2 (.inr hcf);refine⟨u,ru,?_⟩;rcases lk with⟨k,_⟩ | ⟨k,c,ec,z⟩
   ·have k':X.env.scope.names.lookup x=some .local:=k
    rcases hcf with q | q<;>(have q':X.env.scope.names.lookup x=_:=q;rw[k'] at q';cases q')
   ·refine .inr ⟨?_,c,AG hfree hmem ec,?_⟩
    ·show(relabel scope X.env).names.lookup x=some .cell\/(relabel scope X.env).names.lookup x=some .free
     unfold relabel;dsimp only;rw[eB,hmf];show some (if _ then NameKind.cell else NameKind.free)=_\/some (if _ then NameKind.cell else NameKind.free)=_;split
     ·exact .inl rfl
     ·exact .inr rfl
    ·obtain⟨o,eo,d⟩:=z
     exact⟨o,old _ _ eo,d⟩
  ·obtain⟨v,o,eo,d⟩:=I2.cell x c (jn hfree e)
   exact⟨v,o,old _ _ eo,d⟩
  ·have hp:p∈(X.pn++pins)++[(s2.heap.objs.size,LCg.lst [])]:=hp
   rcases YB.mp hp with hp | hp
   ·obtain⟨e,n,nl,nf,d⟩:=I2.pin p hp
    refine⟨old _ _ e,n,(below _ (Ye e)).1,λhz=>?_,d⟩;rcases YA.mp (I2.stkSub p.1 hz) with z | z
    ·exact nl z
    ·exact nf z
   ·have e:p=(s2.heap.objs.size,LCg.lst []):=by simpa using hp
    subst e;refine⟨hacc,hD2,hDC,λhz=>?_,λv z=>by cases z⟩;rcases YA.mp (I2.stkSub _ hz) with z | z
    ·exact absurd I2.lt (by rw[←z];exact ZT _)
    ·exact I2.nofs (YE _) z
  ·show(σ++List.replicate own.length none).length=(N2++own).length
   rw[ZJ,ZJ,List.length_replicate,cs.len,I2.len]
 have stat:∀{H':Hp}{us:Zd},(∀b∈fp,H' b=none)->∀b∈fp,FpOk X' [(s2.heap.objs.size,LCg.lst us)] H' b:=λ{H' us} hn b hb=>by
  subst hX;obtain⟨_,f1,ff,fx,fc,fpn⟩:=f2 b hb;refine⟨hn b hb,(below b (fpLt b hb)).1,λhz=>?_,.inl hb,λx c e=>fc x c (jn hfree e),λp hp z=>?_⟩
  ·rcases YA.mp (I2.stkSub b hz) with z | z
   ·exact f1 z
   ·exact ff z
  ·have hp:p∈(X.pn++pins)++[(s2.heap.objs.size,LCg.lst us)]:=hp
   rcases YB.mp hp with hp | hp
   ·exact fpn p hp z
   ·have e:p=(s2.heap.objs.size,LCg.lst us):=by simpa using hp
    subst e;exact(below b (fpLt b hb)).2 z.symm
 have eP:X'.prog=X.prog:=by subst hX;rfl
 have eW:X'.w=X.w:=by subst hX;rfl
 have eK:X'.K=X.K:=by subst hX;rfl
 have eA:X'.A=X.A:=by subst hX;rfl
 have eE:X'.env=compEnvC scope (clOf scope X.env) G.objs.size X.env:=by subst hX;rfl
 have eX:X'.xe=λ_ _=>False:=by subst hX;rfl
 have eC:X'.calm=true:=by subst hX;exact hc
 have eS:X'.s₀=s2:=by subst hX;rfl
 have eH:X'.H₀=H2:=by subst hX;rfl
 have eF:X'.fs=frs X.stack:=by subst hX;rfl
 have eEx:X'.ex=fp:=by subst hX;rfl
 have eN:X'.pn=X.pn++pins:=by subst hX;rfl
 have hg':=hg G.objs.size s2 H2 fp (X.pn++pins);have ht':=ht G.objs.size s2 H2 fp (X.pn++pins);have he':=he G.objs.size s2 H2 fp (X.pn++pins);rw[hX] at hg' ht' he';have loop:∀s₃:Shared,s₃={ s2 with heap:=h₁,toks:=s2.toks+([]:List (Str×Value)).length } ->
   codeAny 'c' X.A (.compLoop (.ListComp elt [⟨tg,iter,ifs,0⟩] scope pos) 0 (.ref it) (.ref s2.heap.objs.size) (compEnvC scope (clOf scope X.env) G.objs.size X.env))
    (compPost 'c' X.A X.xe use QQ (.ref s2.heap.objs.size) G.objs.size) s₃:=by
  rintro s₃ rfl;refine qF (λn s'=>∃i ys us σ' H',Inv X' [(s2.heap.objs.size,LCg.lst us)] σ' H' s'/\tn i s'.heap/\(∀b∈fp,H' b=none)/\Vals ys us/\ys.length<=sizeLine/\W i n ys σ' H') ?_ m0
   ⟨0,[],[],_,H2,I0,T.keep 0 _ _ st2 λb _ o e=>old b o e,λb hb=>(f2 b hb).1,.nil,YL _,w0⟩
  rintro n s3 ⟨i,ys,us,σ3,H3,I3,st3,fr3,hv,hz,w3⟩;rcases turn i n ys σ3 H3 w3 with⟨stop,qn⟩ | ⟨go,hlt,NN,hNN,step⟩
  ·have dn:=T.done X' eP eW eK eC i _ s3 σ3 H3 (λ_ _=>False) I3 (stat fr3) st3 stop
   rw[eA] at dn;refine thn dn λr s4 zz1=>?_
   obtain⟨hr,I4⟩:=zz1;subst hr;have pD:=I4.pin (s2.heap.objs.size,LCg.lst us) (YF _ ZY);have hD3:H3 s2.heap.objs.size=none:=pD.2.1;have hC3:H3 G.objs.size=none:=by have:=I4.free;rw[eE] at this;exact this
   have un:Un (frs X.stack) fp H2 H3 s2.heap s4.heap:=by have:=I4.base;rw[eF,eEx,eH,eS] at this;exact this
   have hk4:HOk X.prog X.w H3 s4.heap:=by have:=I4.hok;rw[eP,eW] at this;exact this
   have hok4:HOk X.prog X.w (upd H3 s2.heap.objs.size (.lst ys)) s4.heap:=λb u e=>by
    by_cases hb:b=s2.heap.objs.size
    ·subst hb
     rw[az] at e;cases e;exact⟨hz,us,us.length,hv,pD.1⟩
    ·rw[aF hb] at e
     refine(hk4 b u e).stay (λc v _ q=>q) (λc q=>?_) λc xs q=>?_
     ·rw[aF (aX q hD3)];exact q
     ·rw[aF (aX q hD3)];exact q
   have os4:s4.os=s2.os:=by have:=I4.os;rw[eS] at this;exact this
   have I5:Inv X pins σ (upd H3 s2.heap.objs.size (.lst ys)) s4:=I2.call' os4 (un.track (YE _) hD2) hok4 I4.bare λb hb=>⟨(f2 b hb).2.2.2.1,(f2 b hb).2.1,(f2 b hb).2.2.2.2.1,(f2 b hb).2.2.2.2.2⟩
   obtain⟨m,hn,_⟩:=I4.loc;rw[eE] at hn;exact fin _ _ ys H3 s4 m qn hD3 I5 hn (I2.fpOk hCle (by rw[aF (Ne.symm hDC)];exact hC3))
  ·have itm:=T.item X' eP eW eK eC i _ s3 σ3 H3 (λ_ _=>False) I3 (stat fr3) st3 go
   rw[eA] at itm;refine thn itm λr s4 zz2=>?_
   obtain⟨u,hr,h4⟩:=zz2;subst hr;refine thn h4 λ_ s5 zz3=>?_
   obtain⟨x,H5,I5,r5,y5,st5,fr5⟩:=zz3;have I5':=I5.pinned (stat fr5) (T.obj _ _ st5);have a5:=hg' _ s5 σ3 H5 x u _ I5' r5 (step x H5 y5);rw[eP,eW,eA,eE,eX] at a5;refine thn a5 λ_ s6 zz4=>?_
   obtain⟨σ6,H6,I6,q6⟩:=zz4;have a6:=ht' _ s6 σ6 H6 _ I6 q6;rw[eP,eW,eA,eE,eX] at a6;refine thn a6 λok s7 zz5=>?_
   obtain⟨H7,I7,q7⟩:=zz5;have keepT:∀{σ':St}{H':Hp}{s':Shared}{us':Zd},Inv X' ([(s2.heap.objs.size,LCg.lst us')]++jk fp s5.heap) σ' H' s'->tn (i+1) s'.heap/\∀b∈fp,H' b=none:=λ{σ' H' s' us'} J'=>by
    refine⟨T.keep _ _ _ st5 λb hb o e=>(J'.pin (b,o) (YF _ (YF _ (kf hb e)))).1,λb hb=>?_⟩;obtain⟨o,e,d⟩:=T.obj _ _ st5 b hb;exact(J'.pin (b,o) (YF _ (YF _ (kf hb e)))).2.1
   cases ok with
   |false=>
    obtain⟨m',hm,w7⟩:=hNN _ _ _ (by simpa using q7);exact⟨m',hm,i+1,ys,us,σ6,H7,I7.unpinned,(keepT I7).1,(keepT I7).2,hv,hz,w7⟩
   |true=>
    have q7:te σ6 H7 (λy H4=>NN (ys++[y]) σ6 H4):=by simpa using q7
    have a7:=he' _ s7 σ6 H7 _ I7 q7;rw[eP,eW,eA,eE,eX] at a7;refine thn a7 λuy s8 zz6=>?_
    obtain⟨y,H8,I8,r8,q8⟩:=zz6;have pD:=I8.pin (s2.heap.objs.size,LCg.lst us) (YF _ (List.mem_append_left _ ZY));have hul:us.length=ys.length:=hv.length.symm;refine append_at (hsz:=by rw[YG];omega) pD.1 λh9 sb9 hD9=>?_
    obtain⟨m',hm,w8⟩:=hNN _ _ _ q8;have I8a:Inv X' (jk fp s5.heap) σ6 H8 s8:=I8.pins_of λp hp=>I8.pin p (YF _ (YF _ hp))
    have I9:Inv X' (jk fp s5.heap) σ6 H8 { s8 with heap:=h9 }:=I8a.turned (t':=s8.toks) (it:=s2.heap.objs.size) (λb o hb e=>(sb9.2 b hb).trans e) pD.2.1 (by rw[eE];exact hDC) (.inr (by rw[eS];exact YE _))
     (λx c e=>by
      rw[eE] at e;exact ZU (cellLt x c (jn hfree e)))
     (λp hp=>by
      rw[eN] at hp;rcases YB.mp hp with z | z
      ·exact ZU (pinLt p z)
      ·exact ZU (fpLt _ (uQ z).1))
    have I9':Inv X' ([(s2.heap.objs.size,LCg.lst (us++[uy]))]++jk fp s5.heap) σ6 H8 { s8 with heap:=h9 }:=I9.pins_of λp hp=>by
     rcases YB.mp hp with z | z
     ·have e:p=(s2.heap.objs.size,LCg.lst (us++[uy])):=by simpa using z
      subst e;exact⟨hD9.trans (congrArg some (LCg.lst_snoc us uy)),pD.2.1,pD.2.2.1,pD.2.2.2.1,λv z=>by cases z⟩
     ·exact I9.pin p (YF _ z)
    exact⟨m',hm,i+1,ys++[y],us++[uy],σ6,H8,I9'.unpinned,(keepT I9').1,(keepT I9').2,hv.append (.cons r8 .nil),by rw[ZJ,List.length_singleton];omega,w8⟩
 exact codeAny_compStart_list (loop _ rfl) (T.self X.A 0 _ _ _ (T.keep 0 _ _ st2 λb _ o e=>old b o e) (loop _ rfl))
def HV(k:Nat)(wi:TI)(g:TG)(tc:TT)(te:TE):TE:=λσ H Q=>wi σ H λJ H1=>vG J g tc te (λys H'=>∀p,H' p=none->Q (.ref p) (upd H' p (.lst ys))) (σ++List.replicate k none) H1
theorem Ez{elt tg iter:Expr}{ifs:Zg}{scope osc:Scope}{N own N2:Zf}{pos:Pos}{wi:TI}{g:TG}{tc:TT}{te:TE}(cs:CompScope osc scope N own N2)(hc:X.calm=true)(hi:PI X tg iter wi)
  (hg:∀C s H ex pn,PG (cxC X scope own N2 C s H ex pn) tg g) (ht:∀C s H ex pn,PTs (cxC X scope own N2 C s H ex pn) ifs tc) (he:∀C s H ex pn,PE (cxC X scope own N2 C s H ex pn) elt te)
  (ho:X.env.scope=osc:=by rfl) (hN:X.N=N:=by rfl) (hs:∀x,foldedSetIterable iter X.env x=pure x:=by intro _;rfl):
  PE X (.ListComp elt [⟨tg,iter,ifs,0⟩] scope pos) (HV own.length wi g tc te):=by
 intro pins s σ H Q I h;rw[eval_ListComp];refine uZ (use:=none) cs ho hN hc hi hg ht he I h (λD C ys H' s' m q hD I' hn fC=>⟨m,hn,λh' sb=>⟨.ref D,_,?_,rfl,q D hD⟩⟩) hs;exact I'.turned (t':=s'.toks) (λb o hb e=>(sb.2 b hb).trans e) fC.1 fC.2.1 fC.2.2.2.1 fC.2.2.2.2.1 fC.2.2.2.2.2
def HW(i k:Nat)(wi:TI)(g:TG)(tc:TT)(te:TE):TS:=λD σ H=>wi σ H λJ H1=>vG J g tc te (λys H'=>∀p,H' p=none->D.nx (σ.set i (some (.ref p))) (upd H' p (.lst ys))) (σ++List.replicate k none) H1
theorem EA{elt tg iter:Expr}{ifs:Zg}{scope osc:Scope}{N own N2:Zf}{pos py spos:Pos}{wi:TI}{g:TG}{tc:TT}{te:TE}{i:Nat}{y:Str}(cs:CompScope osc scope N own N2)(hc:X.calm=true)
  (hnd:X.N.Nodup) (hy:X.N[i]?=some y) (hl:X.env.scope.names.lookup y=some .local)
  (hi:PI X tg iter wi)
  (hg:∀C s H ex pn,PG (cxC X scope own N2 C s H ex pn) tg g) (ht:∀C s H ex pn,PTs (cxC X scope own N2 C s H ex pn) ifs tc) (he:∀C s H ex pn,PE (cxC X scope own N2 C s H ex pn) elt te)
  (hsw:swapsWith (.ListComp elt [⟨tg,iter,ifs,0⟩] scope pos) (some (.Name y py)) spos.line X.env=pure true:=by rfl)
  (ho:X.env.scope=osc:=by rfl) (hN:X.N=N:=by rfl) (hs:∀x,foldedSetIterable iter X.env x=pure x:=by intro _;rfl):
  PS X (.Assign [.Name y py] (.ListComp elt [⟨tg,iter,ifs,0⟩] scope pos) spos) (HW i own.length wi g tc te):=by
 intro pins s σ H D I h;rw[exec_Assign_Name_used _ _ _ _ hsw];refine Yb (Yk (Yb ?_));show wpAny _ X.A (do let _ ←comprehension (.ListComp elt [⟨tg,iter,ifs,0⟩] scope pos) scope X.env _ (newList []) false (eval iter X.env) (some (assign (.Name y py) X.env))) _ _ s;refine Yb (thn (uZ (use:=some (assign (.Name y py) X.env)) (QQ:=λ_ s'=>SP X pins D .next s') cs ho hN hc hi hg ht he I h (λD' C ys H' s' m q hD I' hn fC=>?_) hs) (λ_ s' hq=>Yc (Yc hq)));show wpAny _ X.A (assign (.Name y py) X.env (.ref D')) _ _ _;refine wpAny_assign_Name (uP I' hnd hy (.inl hl) (show RelV (.ref D') (.ref D') from rfl) (λs'' I'' zz7=>?_) (.inr hl));obtain⟨a,sb,ha⟩:=zz7;have hCa:C≠a:=by
  rcases ha with z | z
  ·rw[z];exact fC.2.1
  ·exact(fC.2.2.2.2.1 y a z).symm
 refine⟨m,hn.sameBut sb hCa,λh' sb'=>⟨_,_,?_,q D' hD⟩⟩;exact I''.turned (t':=s''.toks) (λb o hb e=>(sb'.2 b hb).trans e) fC.1 fC.2.1 fC.2.2.2.1 fC.2.2.2.2.1 fC.2.2.2.2.2
end
def Its(x:Str):It:=⟨λi _=>i<x.cps.size,λi H v H'=>H'=H/\∃c,x.cps[i]?=some c/\v=.str ⟨#[c]⟩,λi _=>i=x.cps.size⟩
theorem AH{P:Zw}{w:World}{K:Za}{tg:Expr}(it:Addr)(x:Str)(t:Tok):Turn P w K tg (Its x) [it] it (λi h=>h.IsStrIter it "str_ascii_iterator" x t i) where
 mem:=by simp
 obj:=λi h st b hb=>by
  have e:b=it:=by simpa using hb
  subst e;obtain⟨o,e,c,d⟩:=st;exact⟨o,e,λv z=>by rw[d] at z;cases z⟩
 keep:=λi h h' st k=>let⟨o,e,r⟩:=st;⟨o,k it (by simp) o e,r⟩
 item:=by
  rw[0];obtain⟨f0,f1,f2,f3,f4,f5⟩:=hf it (by simp);have W:=Walks.strAscii (prog:=X.prog) (w:=X.w) (I.ok.hd hc) it x t;refine W.item i s _ _ hg st λv h' tk hv st' kk=>?_
  obtain⟨c,u,hc',rfl⟩:=hv;have I1:Inv X pins σ H { s with heap:=h',toks:=tk }:=I.turned (λb o hb e=>kk b o (by simpa using hb) e) f0 f1 f3 f4 f5;obtain⟨o,e,c1,d⟩:=id st';exact⟨_,rfl,pZ (s:={ s with heap:=h',toks:=tk }) e c1 d 'a' ⟨.str ⟨#[c]⟩,H,I1,⟨u,rfl⟩,⟨rfl,c,hc',rfl⟩,st',λb hb=>(hf b hb).1⟩⟩
 done:=by
  rw[0];obtain⟨f0,f1,f2,f3,f4,f5⟩:=hf it (by simp);have W:=Walks.strAscii (prog:=X.prog) (w:=X.w) (I.ok.hd hc) it x t;have hg':i=x.cps.size:=hg;subst hg';exact W.done s _ _ st λh' tk kk=>⟨rfl,I.turned (λb o hb e=>kk b o (by simpa using hb) e) f0 f1 f3 f4 f5⟩
 self:=λ_ _ _ _ _ st h=>wpAny_pyIter_striter_ascii st h
theorem AI{P:Zw}{w:World}{K:Za}{tg:Expr}(it:Addr)(x:Str)(t:Tok):Turn P w K tg (Its x) [it] it (λi h=>h.IsStrIter it "str_iterator" x t i) where
 mem:=by simp
 obj:=λi h st b hb=>by
  have e:b=it:=by simpa using hb
  subst e;obtain⟨o,e,c,d⟩:=st;exact⟨o,e,λv z=>by rw[d] at z;cases z⟩
 keep:=λi h h' st k=>let⟨o,e,r⟩:=st;⟨o,k it (by simp) o e,r⟩
 item:=by
  rw[0];obtain⟨f0,f1,f2,f3,f4,f5⟩:=hf it (by simp);have W:=Walks.strWide (prog:=X.prog) (w:=X.w) (I.ok.hd hc) it x t;refine W.item i s _ _ hg st λv h' tk hv st' kk=>?_
  obtain⟨c,u,hc',rfl⟩:=hv;have I1:Inv X pins σ H { s with heap:=h',toks:=tk }:=I.turned (λb o hb e=>kk b o (by simpa using hb) e) f0 f1 f3 f4 f5;obtain⟨o,e,c1,d⟩:=id st';exact⟨_,rfl,pZ (s:={ s with heap:=h',toks:=tk }) e c1 d 'a' ⟨.str ⟨#[c]⟩,H,I1,⟨u,rfl⟩,⟨rfl,c,hc',rfl⟩,st',λb hb=>(hf b hb).1⟩⟩
 done:=by
  rw[0];obtain⟨f0,f1,f2,f3,f4,f5⟩:=hf it (by simp);have W:=Walks.strWide (prog:=X.prog) (w:=X.w) (I.ok.hd hc) it x t;have hg':i=x.cps.size:=hg;subst hg';exact W.done s _ _ st λh' tk kk=>⟨rfl,I.turned (λb o hb e=>kk b o (by simpa using hb) e) f0 f1 f3 f4 f5⟩
 self:=λ_ _ _ _ _ st h=>wpAny_pyIter_striter_wide st h
section
variable {X:Cx}
theorem AJ{bs:List Bool}{its:Zd}(r:Vals (bs.map V.bl) its){i:Nat}{v:Value}(h:its[i]?=some v):v=.bool ((bs[i]?).getD false):=by
 have hl:=r.length;rw[ZE] at hl;have hi:i<bs.length:=by have:=(YC.mp h).1;omega
 obtain⟨u,hu,ru⟩:=r.get (i:=i) (x:=V.bl bs[i]) (by rw[ZF,ZC hi];rfl);rw[h] at hu;cases hu;have ru:v=Value.bool bs[i]:=ru;rw[ru,ZC hi];rfl
theorem range_all{bs:List Bool}{n:Nat}(hn:n=bs.length):((List.range n).all λi=>(bs[i]?).getD false)=bs.all id:=by
 subst hn;rw[Bool.eq_iff_iff,XI,XI];constructor
 ·intro h b hb
  obtain⟨i,hi,e⟩:=List.mem_iff_getElem.mp hb
  have:=h i (ZW.mpr hi)
  rw[ZC hi] at this;rw[←e];exact this
 ·intro h i hi
  have hi:=ZW.mp hi;rw[ZC hi];exact h _ (List.getElem_mem hi)
theorem Cu(hc:X.calm=true):fI X (.builtin "all") (λxs H Q=>∃p bs,xs=[.ref p]/\SqL X.K H p (List.map V.bl bs)/\Q (.bl (bs.all id)) H):=by
 intro pins s σ H xs us Q I r h;obtain⟨p,bs,rfl,hq,q⟩:=h;obtain⟨u,rfl,ru⟩:=vals1 r;cases ru;obtain⟨its,rv,pl,hz⟩:=I.list hq;have hlt:p<s.heap.objs.size:=by obtain⟨o,_,e,_⟩:=pl;exact Ye e
 refine call_all_walk (wpAny_pyIter_list pl.isList ⟨s.heap.objs.size,_,_,_,_,_,λi=>(bs[i]?).getD false,rfl,Walks.list (A:=X.A.in1) (I.ok.hd hc) s.heap.objs.size p (ZU hlt) its.toArray,
  ⟨⟨_,Yg _ rfl,rfl,rfl⟩,pl.isList.push _⟩,λi v s' Q' E' hv hq'=>?_,λh' tk kk=>?_⟩)
 ·have hv:its[i]?=some v:=by simpa using hv
  rw[AJ rv hv];exact wpAny_truthy_bool hq'
 ·have e:its.toArray.size=bs.length:=by have:=rv.length;rw[ZE] at this;simp;omega
  rw[range_all e];refine⟨.bl _,H,I.kept λb o e=>kk b o ?_ (Yd _ e),rfl,q⟩;simp only[XJ];exact ZU (Ye e)
theorem mulOk_of{x:Str}{n:Int}(h0:0<=n)(h:x.length*n.toNat<=1048576)(hn:n<=1048576):MulOk x n:=by
 refine⟨?_,λh1 h2=>?_,λh1 h2=>?_⟩
 ·rw[Bool.or_eq_false_iff]
  exact⟨ZQ 'b',ZQ 'b'⟩
 ·intro hgt
  have hn1:1<=n:=by omega
  have h3:(2 ^ 63-1:Int) / n*n<=2 ^ 63-1:=Int.ediv_mul_le _ 'b';have h4:(2 ^ 63-1:Int)<((2 ^ 63-1) / n+1)*n:=Int.lt_ediv_add_one_mul_self _ 'b';have h5:((2 ^ 63-1:Int) / n+1)*n<=(x.length:Int)*n:=Int.mul_le_mul_of_nonneg_right 'b' 'b';have h6:((x.length*n.toNat:Nat):Int)=(x.length:Int)*n:=by rw[Int.natCast_mul,Int.toNat_of_nonneg h0]
  have h7:((x.length*n.toNat:Nat):Int)<=1048576:=by omega
  omega
 ·show decide (x.length*n.toNat>sizeLine)=false
  rw[sizeLine_eq];exact ZQ 'b'
theorem zp:OpR X (binaryOp .Mult) (λx y H Q=>∃z n,x=.str z/\y=.int n/\0<=n/\n<=1048576/\z.length*n.toNat<=1048576/\Q (.str (Txt.mul z n)) H):=by
 intro pins s σ H x y v u Q I rx ry h;obtain⟨z,n,rfl,rfl,h0,hn,hz,q⟩:=h;obtain⟨t,rfl⟩:=rx;obtain⟨t',rfl⟩:=ry;exact SB.mul (mulOk_of h0 hz hn) λt2 k=>⟨.str _,H,I.tok _,⟨t2,rfl⟩,q⟩
end
structure IsDef (K:Za) (mg:Ze) (x:Str) (st:Stmt) (ps:Zf) (f:Addr) (fd:Zv):Prop where
 fn:Fun K x x st f fd
 mgf:mg x=some (.ref f)
 b:Binds K fd ps []
theorem Cv{K:Za}{h:Heap}{mg:Ze}{x:Str}{st:Stmt}{ps:Zf}{f:Addr}{oc:Value}{od an:Zm}{osl:Zn}{kV doc pm cdv ct:Value}(X:K.In h)(G:h.Ns mainGlobals mg)
  (a:PySem.W.nsIn K mainGlobals x=some (some (.ref f))) (l:K.lookup f=some ⟨oc,od,.func (PySem.W.fnOf x x (bo st) (aK st) (av st) .none kV doc pm an cdv ct),osl⟩)
  (c:PySem.W.codeIn K cdv x=true) (k:PySem.W.keepIn K (.ref f)=true)
  (hb:∀(kV doc pm:Value) (an:Zm) (cdv ct:Value) (us:Zd),us.length=ps.length->bindArgs (PySem.W.fnOf x x (bo st) (aK st) (av st) .none kV doc pm an cdv ct) ⟨us,[]⟩=pure (ps.zip us)):
  IsDef K mg x st ps f (PySem.W.fnOf x x (bo st) (aK st) (av st) .none kV doc pm an cdv ct):=by
 have F:=vX (st:=st) l c k;exact⟨F,PySem.W.mg_of X G a,F.binds hb⟩
section
variable {X:Cx}{k:Nat}{f:Addr}{fd:Zv}{ps:Zf}{sp:Sp}{x:Str}{st:Stmt}{p pos:Pos}{e:Expr}{es:Zg}{t:TA}
theorem Gy(D:IsDef X.K X.mg x st ps f fd)(F:FnOk X.prog X.w X.K X.mg X.base CX0 k f fd ps sp)(hr:Room k X.A)(ha:PA X (e::es) t)(hg:Gl X x:=by rfl)(hdb:(x==("__debug__" : Str))=false:=by decide)
  (he:starEach (e::es) X.env=(false,eval e X.env)::starEach es X.env:=by rfl) (hpl:(backTo pos (starEach es X.env)).any (·.1)=false:=by rfl):PE X (.Call (.Name x p) (e::es) [] pos) (DC sp [] E0 t):=
 Eh F hr hg D.mgf D.fn.kp D.b .nil vF ha hdb he hpl
end
theorem AK(K:Za){a b:String}{r:Bool}(h:(if(Value.type a==Value.type b)=true then some true else if PySem.W.kitMeta b=true then(fastBuiltinMro a).map (·.contains (.type b)) else none)=some r):
  PySem.W.kitOne K (.type a) (.type b)=some r:=h
def ar:Expr->Bool
 |.Starred _ _=>false
 |_=>true
theorem aP{e:Expr}{es:Zg}{env:Env}(h:ar e=true):starEach (e::es) env=(false,eval e env)::starEach es env:=by
 cases e<;>first | rfl | (exact absurd (show false=true from h) YD)
end L2
namespace DD
open PySem PySem.Spec PyProof.Rows L2
inductive D where
 |non | bl (b:Bool) | int (i:Int) | str (x:Str) | tup (ds:List D) | ref (a:Addr) | ty (n:String)
section
variable {α β:Type}{F G:α->β->Prop}
theorem mT:∀{l:List α}{m:List β},Paired F l m->l.length=m.length
 |_,_,.nil=>rfl
 |_,_,.cons _ t=>by simp[mT t]
theorem cO:∀{l:List α}{m:List β}{i:Nat}{a:α},Paired F l m->l[i]?=some a->∃b,m[i]?=some b/\F a b
 |_,_,_,_,.nil,e=>by simp at e
 |_,_,0,_,.cons r _,e=>by simp at e;subst e;exact⟨_,rfl,r⟩
 |_,_,i+1,a,.cons _ t,e=>by
  obtain⟨b,h1,h2⟩:=cO (i:=i) (a:=a) t (by simpa using e);exact⟨b,by simpa using h1,h2⟩
theorem bq:∀{l l':List α}{m m':List β},Paired F l m->Paired F l' m'->Paired F (l++l') (m++m')
 |_,_,_,_,.nil,s=>s
 |_,_,_,_,.cons r t,s=>.cons r (bq t s)
theorem t8:∀{l:List α}{m:List β}(n:Nat),Paired F l m->Paired F (l.take n) (m.take n)
 |_,_,0,_=>.nil
 |_,_,_+1,.nil=>.nil
 |_,_,n+1,.cons r t=>.cons r (t8 n t)
theorem yu:∀{l:List α}{m:List β}(n:Nat),Paired F l m->Paired F (l.drop n) (m.drop n)
 |_,_,0,r=>r
 |_,_,_+1,.nil=>.nil
 |_,_,n+1,.cons _ t=>yu n t
theorem vY{a:α}{b:β}(r:F a b):∀{l:List α}{m:List β}(i:Nat),Paired F l m->Paired F (l.set i a) (m.set i b)
 |_,_,_,.nil=>.nil
 |_,_,0,.cons _ t=>.cons r t
 |_,_,i+1,.cons q t=>.cons q (vY r i t)
theorem mU(f:∀a b,F a b->G a b):∀{l:List α}{m:List β},Paired F l m->Paired G l m
 |_,_,.nil=>.nil
 |_,_,.cons r t=>.cons (f _ _ r) (mU f t)
theorem AL{l:List α}{m:List β}(h:Paired F l m):∀n,Paired F (List.replicate n l).flatten (List.replicate n m).flatten
 |0=>.nil
 |n+1=>by rw[YX,YX,YY,YY];exact bq h (AL h n)
theorem kC{a:α}{b:β}(r:F a b):∀n,Paired F (List.replicate n a) (List.replicate n b)
 |0=>.nil
 |n+1=>.cons r (kC r n)
end
section
variable (K:Za)(H:Hp)
mutual
noncomputable def RV:D->V->Prop
 |.non,v=>v=.non
 |.bl b,v=>v=.bl b
 |.int i,v=>v=.int i
 |.str x,v=>v=.str x
 |.ref a,v=>v=.ref a
 |.ty n,v=>v=.ty n
 |.tup ds,v=>∃a xs,v=.ref a/\SqT K H a xs/\RVs ds xs
noncomputable def RVs:List D->List V->Prop
 |[],xs=>xs=[]
 |d::ds,xs=>∃v vs,xs=v::vs/\RV d v/\RVs ds vs
end
end
section
variable {K:Za}{H H' H'':Hp}
theorem RVs.p:∀{ds:List D}{xs:List V},RVs K H ds xs->Paired (RV K H) ds xs
 |[],_,h=>by rw[RVs] at h;subst h;exact .nil
 |d::ds,_,h=>by
  rw[RVs] at h;obtain⟨v,vs,rfl,r,t⟩:=h;exact .cons r (RVs.p t)
theorem RVs.of:∀{ds:List D}{xs:List V},Paired (RV K H) ds xs->RVs K H ds xs
 |_,_,.nil=>by rw[RVs]
 |_,_,.cons r t=>by rw[RVs];exact⟨_,_,rfl,r,RVs.of t⟩
theorem RVs.nil:RVs K H [] []:=by rw[RVs]
theorem RVs.cons{d:D}{v:V}{ds:List D}{vs:List V}(r:RV K H d v)(t:RVs K H ds vs):RVs K H (d::ds) (v::vs):=by rw[RVs];exact⟨_,_,rfl,r,t⟩
theorem RVs.len{ds:List D}{xs:List V}(h:RVs K H ds xs):ds.length=xs.length:=mT h.p
def Kp(H H':Hp):Prop:=(∀a xs,Rd H a (.tup xs)->Rd H' a (.tup xs))/\∀a u o,H a=some (.frz u o)->H' a=some (.frz u o)
theorem Kp.refl(H:Hp):Kp H H:=⟨λ_ _ h=>h,λ_ _ _ h=>h⟩
theorem Kp.trans(a:Kp H H')(b:Kp H' H''):Kp H H'':=⟨λc xs h=>b.1 c xs (a.1 c xs h),λc u o h=>b.2 c u o (a.2 c u o h)⟩
theorem Kp.new{p:Addr}{o:HO}(h:H p=none):Kp H (upd H p o):=⟨λa xs r=>by
 rcases r with r | ⟨u,r⟩
 ·exact .inl (by rw[aF (aX r h)];exact r)
 ·exact .inr ⟨u,by rw[aF (aX r h)];exact r⟩,λa u o r=>by rw[aF (aX r h)];exact r⟩
def DH:HO->Prop
 |.tup _=>False
 |.frz _ _=>False
 |_=>True
theorem Kp.put{p:Addr}{o o':HO}(h:H p=some o)(n:DH o):Kp H (upd H p o'):=⟨λa xs r=>by
 rcases r with r | ⟨u,r⟩
 ·have:a≠p:=λe=>by subst e;rw[h] at r;cases r;exact n
  exact .inl (by rw[aF this];exact r)
 ·have:a≠p:=λe=>by subst e;rw[h] at r;cases r;exact n
  exact .inr ⟨u,by rw[aF this];exact r⟩,λa u o r=>by
  have:a≠p:=λe=>by subst e;rw[h] at r;cases r;exact n
  rw[aF this];exact r⟩
theorem Kp.sq(t:Kp H H'){a:Addr}{xs:List V}(h:SqT K H a xs):SqT K H' a xs:=by
 rcases h with h | h
 ·exact .inl (t.1 a xs h)
 ·exact .inr h
mutual
theorem RV.mono(t:Kp H H'):∀(d:D){v:V},RV K H d v->RV K H' d v
 |.non,_,h=>by rw[RV] at h ⊢;exact h
 |.bl _,_,h=>by rw[RV] at h ⊢;exact h
 |.int _,_,h=>by rw[RV] at h ⊢;exact h
 |.str _,_,h=>by rw[RV] at h ⊢;exact h
 |.ref _,_,h=>by rw[RV] at h ⊢;exact h
 |.ty _,_,h=>by rw[RV] at h ⊢;exact h
 |.tup ds,_,h=>by
  rw[RV] at h ⊢;obtain⟨a,xs,e,s,r⟩:=h;exact⟨a,xs,e,t.sq s,RVs.mono t ds r⟩
theorem RVs.mono(t:Kp H H'):∀(ds:List D){xs:List V},RVs K H ds xs->RVs K H' ds xs
 |[],_,h=>by rw[RVs] at h ⊢;exact h
 |d::ds,_,h=>by
  rw[RVs] at h ⊢;obtain⟨v,vs,e,r,q⟩:=h;exact⟨v,vs,e,RV.mono t d r,RVs.mono t ds q⟩
end
theorem RV.non_{v:V}:RV K H .non v↔v=.non:=by rw[RV]
theorem RV.bl_{v:V}{b:Bool}:RV K H (.bl b) v↔v=.bl b:=by rw[RV]
theorem RV.int_{v:V}{b:Int}:RV K H (.int b) v↔v=.int b:=by rw[RV]
theorem RV.str_{v:V}{b:Str}:RV K H (.str b) v↔v=.str b:=by rw[RV]
theorem RV.ref_{v:V}{b:Addr}:RV K H (.ref b) v↔v=.ref b:=by rw[RV]
theorem RV.ty_{v:V}{b:String}:RV K H (.ty b) v↔v=.ty b:=by rw[RV]
theorem RV.tup_{v:V}{ds:List D}:RV K H (.tup ds) v ↔ ∃a xs,v=.ref a/\SqT K H a xs/\RVs K H ds xs:=by rw[RV]
inductive MO where
 |lst (ds:List D) | rol (ds:List D) | dic (kvs:List (Key×D)) | rod (kvs:List (Key×D)) | ins (C:Addr) (fs:List (Str×D))
abbrev MH:=Addr->Option MO
def updM(M:MH)(a:Addr)(o:MO):MH:=λb=>if b=a then some o else M b
theorem aa{M:MH}{a:Addr}{o:MO}:updM M a o a=some o:=by unfold updM;rw[if_pos rfl]
theorem aB{M:MH}{a b:Addr}{o:MO}(h:b≠a):updM M a o b=M b:=by unfold updM;rw[if_neg h]
def RO(K:Za)(H:Hp)(a:Addr):MO->Prop
 |.lst ds=>∃xs,H a=some (.lst xs)/\RVs K H ds xs
 |.rol ds=>∃xs,Rd H a (.lst xs)/\RVs K H ds xs
 |.dic kvs=>∃kws:List (Key×V),H a=some (.dK kws)/\kws.map (·.1)=kvs.map (·.1)/\RVs K H (kvs.map (·.2)) (kws.map (·.2))
 |.rod kvs=>∃(u:Obj) (kws:List (Key×V)),H a=some (.frz u (.dK kws))/\kws.map (·.1)=kvs.map (·.1)/\RVs K H (kvs.map (·.2)) (kws.map (·.2))
 |.ins C fs=>∃(dx:Addr) (gs:List (Str×V)),H a=some (.ins C dx gs)/\gs.map (·.1)=fs.map (·.1)/\RVs K H (fs.map (·.2)) (gs.map (·.2))
def RM(K:Za)(M:MH)(H:Hp):Prop:=∀a o,M a=some o->RO K H a o
theorem RO.stay{a:Addr}{o:MO}(h:RO K H a o)(t:Kp H H')(e:H' a=H a):RO K H' a o:=by
 cases o with
 |lst ds=>obtain⟨xs,q,r⟩:=h;exact⟨xs,e.trans q,RVs.mono t _ r⟩
 |rol ds=>
  obtain⟨xs,q,r⟩:=h;refine⟨xs,?_,RVs.mono t _ r⟩;rcases q with q | ⟨u,q⟩
  ·exact .inl (e.trans q)
  ·exact .inr ⟨u,e.trans q⟩
 |dic kvs=>obtain⟨kws,q,k,r⟩:=h;exact⟨kws,e.trans q,k,RVs.mono t _ r⟩
 |rod kvs=>obtain⟨u,kws,q,k,r⟩:=h;exact⟨u,kws,e.trans q,k,RVs.mono t _ r⟩
 |ins C fs=>obtain⟨dx,gs,q,k,r⟩:=h;exact⟨dx,gs,e.trans q,k,RVs.mono t _ r⟩
theorem RO.some{a:Addr}{o:MO}(h:RO K H a o):H a≠none:=by
 cases o with
 |lst ds=>obtain⟨xs,q,_⟩:=h;rw[q];exact λz=>nomatch z
 |rol ds=>obtain⟨xs,q | ⟨u,q⟩,_⟩:=h<;>(rw[q];exact λz=>nomatch z)
 |dic kvs=>obtain⟨kws,q,_⟩:=h;rw[q];exact λz=>nomatch z
 |rod kvs=>obtain⟨u,kws,q,_⟩:=h;rw[q];exact λz=>nomatch z
 |ins C fs=>obtain⟨dx,gs,q,_⟩:=h;rw[q];exact λz=>nomatch z
theorem RM.fresh{M:MH}{p:Addr}(h:RM K M H)(e:H p=none):M p=none:=by
 cases q:M p with
 |none=>rfl
 |some o=>exact absurd e (h p o q).some
theorem RM.newH{M:MH}{p:Addr}{o:HO}(h:RM K M H)(e:H p=none):RM K M (upd H p o):=λa u q=>
 (h a u q).stay (Kp.new e) (aF (λz=>by subst z;exact(h a u q).some e))
theorem RM.new{M:MH}{p:Addr}{o:HO}{m:MO}(h:RM K M H)(e:H p=none)(r:RO K (upd H p o) p m):RM K (updM M p m) (upd H p o):=λa u q=>by
 by_cases z:a=p
 ·subst z;rw[aa] at q;cases q;exact r
 ·rw[aB z] at q;exact(h a u q).stay (Kp.new e) (aF z)
theorem RM.put{M:MH}{p:Addr}{o o':HO}{m:MO}(h:RM K M H)(e:H p=some o)(n:DH o)(r:RO K (upd H p o') p m):RM K (updM M p m) (upd H p o'):=λa u q=>by
 by_cases z:a=p
 ·subst z;rw[aa] at q;cases q;exact r
 ·rw[aB z] at q;exact(h a u q).stay (Kp.put e n) (aF z)
abbrev DS:=List (Option D)
abbrev ZB:=List (Key×D)
abbrev Zz:=Option D
def RS(K:Za)(H:Hp)(σ:DS)(ρ:L2.St):Prop:=Paired (λ(od:Zz) (ov:Option V)=>∀d,od=some d->∃v,ov=some v/\RV K H d v) σ ρ
theorem RS.mono{σ:DS}{ρ:L2.St}(t:Kp H H')(h:RS K H σ ρ):RS K H' σ ρ:=mU (λod ov r d e=>let⟨v,q,s⟩:=r d e;⟨v,q,RV.mono t d s⟩) h
theorem RS.get{σ:DS}{ρ:L2.St}{i:Nat}{d:D}(h:RS K H σ ρ)(e:σ[i]?=some (some d)):∃v,ρ[i]?=some (some v)/\RV K H d v:=by
 obtain⟨ov,q,r⟩:=cO h e;obtain⟨v,rfl,s⟩:=r d rfl;exact⟨v,q,s⟩
theorem RS.set{σ:DS}{ρ:L2.St}{d:D}{v:V}(i:Nat)(h:RS K H σ ρ)(r:RV K H d v):RS K H (σ.set i (some d)) (ρ.set i (some v)):=vY (by intro d' e;cases e;exact⟨v,rfl,r⟩) i h
theorem RS.more{σ:DS}{ρ:L2.St}(n:Nat)(h:RS K H σ ρ):RS K H (σ++List.replicate n none) (ρ++List.replicate n none):=bq h (kC (λd e=>nomatch e) n)
end
abbrev DK:=D->MH->Prop
abbrev WE:=DS->MH->DK->Prop
abbrev WT:=DS->MH->(Bool->MH->Prop)->Prop
abbrev WA:=DS->MH->(List D->MH->Prop)->Prop
def lift(K:Za)(H:Hp)(Q:DK):VK:=λv H'=>Kp H H'/\∃d M',RV K H' d v/\RM K M' H'/\Q d M'
def vH(K:Za)(H:Hp)(Q:Bool->MH->Prop):Bool->Hp->Prop:=λb H'=>Kp H H'/\∃M',RM K M' H'/\Q b M'
def HX(K:Za)(H:Hp)(n:Nat)(Q:List D->MH->Prop):List V->Hp->Prop:=λvs H'=>Kp H H'/\∃ds M',RVs K H' ds vs/\ds.length=n/\RM K M' H'/\Q ds M'
section
variable (X:Cx)
def tW(e:Expr):TE:=λρ H Q=>∀pins s,Inv X pins ρ H s->wpAny 'c' X.A (eval e X.env) (EP X pins ρ Q) X.xe s
def tWT(e:Expr):TT:=λρ H Q=>∀pins s,Inv X pins ρ H s->wpAny 'c' X.A (isTrue e X.env (eval e X.env)) (TP X pins ρ Q) X.xe s
def tWA(es:Zg):TA:=λρ H Q=>∀pos pins s,Inv X pins ρ H s->wpAny 'c' X.A (spliced (backTo pos (starEach es X.env))) (AP X pins ρ Q) X.xe s
def tWS(st:Stmt):L2.TS:=λD ρ H=>∀pins s,Inv X pins ρ H s->wpAny 'c' X.A (exec st X.env) (SP X pins D) X.xe s
end
section
variable {X:Cx}{e a b c:Expr}{es:Zg}{ρ:L2.St}{H H':Hp}{pos:Pos}
theorem pe_W(e:Expr):PE X e (tW X e):=λpins s _ _ _ I h=>h pins s I
theorem pt_W(e:Expr):PT X e (tWT X e):=λpins s _ _ _ I h=>h pins s I
theorem pa_W(es:Zg):PA X es (tWA X es):=λpos pins s _ _ _ I h=>h pos pins s I
theorem bv{t:TE}{Q:VK}(h:PE X e t)(q:t ρ H Q):tW X e ρ H Q:=λpins s I=>h pins s ρ H Q I q
theorem vZ{t:TT}{Q:Bool->Hp->Prop}(h:PT X e t)(q:t ρ H Q):tWT X e ρ H Q:=λpins s I=>h pins s ρ H Q I q
theorem AM{t:TA}{Q:List V->Hp->Prop}(h:PA X es t)(q:t ρ H Q):tWA X es ρ H Q:=λpos pins s I=>h pos pins s ρ H Q I q
theorem aG{Q Q':VK}(h:tW X e ρ H Q)(f:∀v H',Q v H'->Q' v H'):tW X e ρ H Q':=λpins s I=>thn (h pins s I) λ_ _ ⟨v,H',I',r,q⟩=>⟨v,H',I',r,f v H' q⟩
theorem fY{Q Q':Bool->Hp->Prop}(h:tWT X e ρ H Q)(f:∀v H',Q v H'->Q' v H'):tWT X e ρ H Q':=λpins s I=>thn (h pins s I) λ_ _ ⟨H',I',q⟩=>⟨H',I',f _ H' q⟩
theorem cB{Q Q':List V->Hp->Prop}(h:tWA X es ρ H Q)(f:∀v H',Q v H'->Q' v H'):tWA X es ρ H Q':=λpos pins s I=>thn (h pos pins s I) λ_ _ ⟨v,H',I',r,q⟩=>⟨v,H',I',r,f v H' q⟩
theorem bK{K:Za}{Q:DK}{v:V}{H2:Hp}(k:Kp H H')(h:lift K H' Q v H2):lift K H Q v H2:=⟨k.trans h.1,h.2⟩
theorem wa{K:Za}{Q:Bool->MH->Prop}{v:Bool}{H2:Hp}(k:Kp H H')(h:vH K H' Q v H2):vH K H Q v H2:=⟨k.trans h.1,h.2⟩
theorem ay{K:Za}{Q:DK}{v:V}{d:D}{M:MH}(r:RV K H d v)(m:RM K M H)(q:Q d M):lift K H Q v H:=⟨Kp.refl H,d,M,r,m,q⟩
def PEd(X:Cx)(e:Expr)(t:WE):Prop:=∀σ M ρ H Q,RS X.K H σ ρ->RM X.K M H->t σ M Q->tW X e ρ H (lift X.K H Q)
def PTd(X:Cx)(e:Expr)(t:WT):Prop:=∀σ M ρ H Q,RS X.K H σ ρ->RM X.K M H->t σ M Q->tWT X e ρ H (vH X.K H Q)
def PAd(X:Cx)(es:Zg)(t:WA):Prop:=∀σ M ρ H Q,RS X.K H σ ρ->RM X.K M H->t σ M Q->tWA X es ρ H (HX X.K H es.length Q)
def Bif(b:Bool)(A B:Prop):Prop:=match b with
 |true=>A
 |false=>B
theorem aH{A B:Prop}:Bif true A B=A:=rfl
theorem ao{A B:Prop}:Bif false A B=B:=rfl
theorem Bif2{b:Bool}{A B:Prop}(h1:b=true->A)(h2:b=false->B):Bif b A B:=by
 cases b with
 |true=>exact h1 rfl
 |false=>exact h2 rfl
theorem p9{p:Prop}[Decidable p]{A B:Prop}(h1:p->A)(h2:¬p->B):Bif (decide p) A B:=Bif2 (λe=>h1 (XM e)) (λe=>h2 (of_decide_eq_false e))
def getS(σ:DS)(i:Nat)(Q:D->Prop):Prop:=match σ[i]? with
 |some (some d)=>Q d
 |_=>False
theorem EB{σ:DS}{i:Nat}{Q:D->Prop}(h:getS σ i Q):∃d,σ[i]?=some (some d)/\Q d:=by
 unfold getS at h;split at h
 ·exact⟨_,by assumption,h⟩
 ·exact Yh h
theorem EC{i:Nat}{x:Str}(hN:X.N[i]?=some x)(hv:Vis X.env.scope x)(hd:(x==("__debug__" : Str))=false)(hcd:(x==("__classdict__" : Str))=false):PEd X (.Name x pos) (λσ M Q=>getS σ i λd=>Q d M):=by
 intro σ M ρ H Q rs rm h;obtain⟨d,e,q⟩:=EB h;obtain⟨v,e',r⟩:=rs.get e;exact bv (FG hN hv hd hcd) ⟨v,e',ay r rm q⟩
theorem qb{d:D}{v:V}(h:PE X e (tC v))(r:∀H,RV X.K H d v):PEd X e (λ_ M Q=>Q d M):=λ_ _ _ H _ _ rm q=>bv h (ay (r H) rm q)
theorem ED{i:Int}{j:Nat}:PEd X (.Constant (.int i) j pos) (λ_ M Q=>Q (.int i) M):=qb FH λ_=>RV.int_.2 rfl
theorem Gz{i:Bool}{j:Nat}:PEd X (.Constant (.bool i) j pos) (λ_ M Q=>Q (.bl i) M):=qb Hu λ_=>RV.bl_.2 rfl
theorem EE{i:Str}{j:Nat}:PEd X (.Constant (.str i) j pos) (λ_ M Q=>Q (.str i) M):=qb FJ λ_=>RV.str_.2 rfl
theorem EF{j:Nat}:PEd X (.Constant .none j pos) (λ_ M Q=>Q .non M):=qb FI λ_=>RV.non_.2 rfl
def ph(K:Za)(mg:Ze)(x:Str)(d:D):Prop:=∃v u,mg x=some u/\RelV v u/\∀H,RV K H d v
theorem Cw{x:Str}{d:D}(hg:Gl X x)(h:ph X.K X.mg x d)(hd:(x==("__debug__" : Str))=false):PEd X (.Name x pos) (λ_ M Q=>Q d M):=by
 obtain⟨v,u,hm,r,rv⟩:=h;exact qb (DY hg hm r hd) rv
def oW(X:Cx)(f:Zk):R2:=λx y H Q=>∀pins s ρ v u,Inv X pins ρ H s->RelV x v->RelV y u->wpAny 'c' X.A (f v u) (EP X pins ρ Q) X.xe s
theorem op_W(f:Zk):OpR X f (oW X f):=λpins s σ _ _ _ v u _ I rx ry h=>h pins s σ v u I rx ry
theorem fJ{f:Zk}{r:R2}{x y:V}{Q:VK}(h:OpR X f r)(q:r x y H Q):oW X f x y H Q:=λpins s ρ v u I rx ry=>h pins s ρ H x y v u Q I rx ry q
theorem t9{f:Zk}{x y:V}{Q Q':VK}(h:oW X f x y H Q)(g:∀v H',Q v H'->Q' v H'):oW X f x y H Q':=λpins s ρ v u I rx ry=>thn (h pins s ρ v u I rx ry) λ_ _ ⟨v,H',I',r,q⟩=>⟨v,H',I',r,g v H' q⟩
abbrev R2d:=D->D->MH->DK->Prop
def OpD(X:Cx)(f:Zk)(r:R2d):Prop:=∀x y v u H M Q,RV X.K H x v->RV X.K H y u->RM X.K M H->r x y M Q->oW X f v u H (lift X.K H Q)
theorem two{ta tb:WE}{σ:DS}{M:MH}{R:D->D->MH->Prop}(ha:PEd X a ta)(hb:PEd X b tb)(rs:RS X.K H σ ρ)(rm:RM X.K M H)(h:ta σ M λx M1=>tb σ M1 λy M2=>R x y M2):
  tW X a ρ H λv H1=>tW X b ρ H1 λu H2=>Kp H H2/\∃x y M2,RV X.K H2 x v/\RV X.K H2 y u/\RM X.K M2 H2/\R x y M2:=by
 refine aG (ha σ M ρ H _ rs rm h) ?_;rintro v H1 ⟨k1,x,M1,r1,m1,h1⟩;refine aG (hb σ M1 ρ H1 _ (rs.mono k1) m1 h1) ?_;rintro u H2 ⟨k2,y,M2,r2,m2,h2⟩;exact⟨k1.trans k2,x,y,M2,RV.mono k2 x r1,r2,m2,h2⟩
def wOp(r:R2d)(ta tb:WE):WE:=λσ M Q=>ta σ M λx M1=>tb σ M1 λy M2=>r x y M2 Q
theorem EG{op:Operator}{r:R2d}{ta tb:WE}(ho:OpD X (binaryOp op) r)(ha:PEd X a ta)(hb:PEd X b tb):PEd X (.BinOp a op b pos) (wOp r ta tb):=by
 intro σ M ρ H Q rs rm h;refine bv (HD (op_W _) (pe_W a) (pe_W b)) ?_;show tW X a ρ H _;refine aG (two ha hb rs rm h) λv H1 q1=>?_
 show tW X b ρ H1 _;refine aG q1 λu H2 zz1=>?_
 obtain⟨k,x,y,M2,r1,r2,m2,q⟩:=zz1;exact t9 (ho x y v u H2 M2 Q r1 r2 m2 q) λ_ _=>bK k
theorem EH{op:CmpOp}{r:R2d}{ta tb:WE}(ho:OpD X (compareOp op) r)(ha:PEd X a ta)(hb:PEd X b tb)(hm:behindInMarks op b=false):PEd X (.Compare a [op] [b] pos) (wOp r ta tb):=by
 intro σ M ρ H Q rs rm h;refine bv (Eb (op_W _) (pe_W a) (pe_W b) hm) ?_;show tW X a ρ H _;refine aG (two ha hb rs rm h) λv H1 q1=>?_
 show tW X b ρ H1 _;refine aG q1 λu H2 zz2=>?_
 obtain⟨k,x,y,M2,r1,r2,m2,q⟩:=zz2;exact t9 (ho x y v u H2 M2 Q r1 r2 m2 q) λ_ _=>bK k
def qc(x:D)(Q:Bool->Prop):Prop:=match x with
 |.bl b=>Q b
 |_=>False
theorem nG{x:D}{Q:Bool->Prop}(h:qc x Q):∃b,x=.bl b/\Q b:=by
 cases x with
 |bl b=>exact⟨b,rfl,h⟩
 |_=>exact Yh h
def zq(t:WE):WT:=λσ M Q=>t σ M λx M1=>qc x λb=>Q b M1
theorem EI{op:CmpOp}{r:R2d}{ta tb:WE}(ho:OpD X (compareOp op) r)(ha:PEd X a ta)(hb:PEd X b tb)(hm:behindInMarks op b=false):PTd X (.Compare a [op] [b] pos) (zq (wOp r ta tb)):=by
 intro σ M ρ H Q rs rm h;refine vZ (Ec (op_W _) (pe_W a) (pe_W b) hm) ?_;show tW X a ρ H _;refine aG (two ha hb rs rm h) λv H1 q1=>?_
 show tW X b ρ H1 _;refine aG q1 λu H2 zz3=>?_
 obtain⟨k,x,y,M2,r1,r2,m2,q⟩:=zz3;refine t9 (ho x y v u H2 M2 _ r1 r2 m2 q) λz H3 zz4=>?_
 obtain⟨k3,d,M3,r3,m3,q3⟩:=zz4;obtain⟨c,rfl,q3⟩:=nG q3;exact⟨c,RV.bl_.1 r3,k.trans k3,M3,m3,q3⟩
def wAnd(t u:WT):WT:=λσ M Q=>t σ M λc M1=>Bif c (u σ M1 Q) (Q false M1)
def wOr(t u:WT):WT:=λσ M Q=>t σ M λc M1=>Bif c (Q true M1) (u σ M1 Q)
def wNot(t:WT):WT:=λσ M Q=>t σ M λc M1=>Q (!c) M1
theorem EJ{t:WT}(h:PTd X a t):PTd X (.UnaryOp .Not a pos) (wNot t):=by
 intro σ M ρ H Q rs rm q;refine vZ (FN (pt_W a)) ?_;show tWT X a ρ H _;exact fY (h σ M ρ H _ rs rm q) λc H1 q1=>q1
def PWd(X:Cx)(e:Expr)(t:WT):Prop:=∀σ M ρ H Q,RS X.K H σ ρ->RM X.K M H->t σ M Q->∀whole pins s,Inv X pins ρ H s->wpAny 'c' X.A (isTrue e X.env whole) (TP X pins ρ (vH X.K H Q)) X.xe s
theorem PWd.pt{t:WT}(h:PWd X e t):PTd X e t:=λσ M ρ H Q rs rm q pins s I=>h σ M ρ H Q rs rm q _ pins s I
def tWW(X:Cx)(e:Expr):TT:=λρ H Q=>∀whole pins s,Inv X pins ρ H s->wpAny 'c' X.A (isTrue e X.env whole) (TP X pins ρ Q) X.xe s
theorem pw_W(e:Expr):PW X e (tWW X e):=λwhole pins s _ _ _ I h=>h whole pins s I
theorem wb{Q Q':Bool->Hp->Prop}(h:tWW X e ρ H Q)(f:∀v H',Q v H'->Q' v H'):tWW X e ρ H Q':=λwhole pins s I=>thn (h whole pins s I) λ_ _ ⟨H',I',q⟩=>⟨H',I',f _ H' q⟩
theorem sd{t:TT}{Q:Bool->Hp->Prop}(h:PW X e t)(q:t ρ H Q):tWW X e ρ H Q:=λwhole pins s I=>h whole pins s ρ H Q I q
theorem Cy{t:WT}(h:PTd X a t):PWd X (.BoolOp .And [a] pos) t:=λσ M ρ H Q rs rm q=>sd (D1 (pt_W a)) (h σ M ρ H Q rs rm q)
theorem EK{t:WT}(h:PTd X a t):PWd X (.BoolOp .Or [a] pos) t:=λσ M ρ H Q rs rm q=>sd (FK (pt_W a)) (h σ M ρ H Q rs rm q)
theorem yv{t u:WT}{rest:Zg}(h:PTd X a t)(h':PWd X (.BoolOp .And (b::rest) pos) u):PWd X (.BoolOp .And (a::b::rest) pos) (wAnd t u):=by
 intro σ M ρ H Q rs rm q;refine sd (FM (pt_W a) (pw_W _)) ?_;show tWT X a ρ H _;refine fY (h σ M ρ H _ rs rm q) λc H1 zz5=>?_
 obtain⟨k1,M1,m1,q1⟩:=zz5;cases c with
 |true=>exact wb (h' σ M1 ρ H1 Q (rs.mono k1) m1 q1) λ_ _=>wa k1
 |false=>exact⟨k1,M1,m1,q1⟩
theorem AN{t u:WT}{rest:Zg}(h:PTd X a t)(h':PWd X (.BoolOp .Or (b::rest) pos) u):PWd X (.BoolOp .Or (a::b::rest) pos) (wOr t u):=by
 intro σ M ρ H Q rs rm q;refine sd (Hv (pt_W a) (pw_W _)) ?_;show tWT X a ρ H _;refine fY (h σ M ρ H _ rs rm q) λc H1 zz6=>?_
 obtain⟨k1,M1,m1,q1⟩:=zz6;cases c with
 |false=>exact wb (h' σ M1 ρ H1 Q (rs.mono k1) m1 q1) λ_ _=>wa k1
 |true=>exact⟨k1,M1,m1,q1⟩
def zr(ta tb:WE):WE:=λσ M Q=>ta σ M λx M1=>qc x λc=>Bif c (tb σ M1 Q) (Q (.bl false) M1)
def wOrV(ta tb:WE):WE:=λσ M Q=>ta σ M λx M1=>qc x λc=>Bif c (Q (.bl true) M1) (tb σ M1 Q)
def zt(ta:WE):WE:=λσ M Q=>ta σ M λx M1=>qc x λc=>Q (.bl (!c)) M1
theorem yw{op:BoolOp}{t:WE}(h:PEd X a t):PEd X (.BoolOp op [a] pos) t:=λσ M ρ H Q rs rm q=>bv (FO (pe_W a)) (h σ M ρ H Q rs rm q)
theorem yx{ta tb:WE}{rest:Zg}(h:PEd X a ta)(h':PEd X (.BoolOp .And (b::rest) pos) tb):PEd X (.BoolOp .And (a::b::rest) pos) (zr ta tb):=by
 intro σ M ρ H Q rs rm q;refine bv (FP (pe_W a) (pe_W _)) ?_;show tW X a ρ H _;refine aG (h σ M ρ H _ rs rm q) λv H1 zz7=>?_
 obtain⟨k1,x,M1,r1,m1,q1⟩:=zz7;obtain⟨c,rfl,q1⟩:=nG q1;refine⟨c,RV.bl_.1 r1,?_⟩;cases c with
 |true=>exact aG (h' σ M1 ρ H1 Q (rs.mono k1) m1 q1) λ_ _=>bK k1
 |false=>exact⟨k1,.bl false,M1,RV.bl_.2 rfl,m1,q1⟩
theorem AO{ta tb:WE}{rest:Zg}(h:PEd X a ta)(h':PEd X (.BoolOp .Or (b::rest) pos) tb):PEd X (.BoolOp .Or (a::b::rest) pos) (wOrV ta tb):=by
 intro σ M ρ H Q rs rm q;refine bv (Hy (pe_W a) (pe_W _)) ?_;show tW X a ρ H _;refine aG (h σ M ρ H _ rs rm q) λv H1 zz8=>?_
 obtain⟨k1,x,M1,r1,m1,q1⟩:=zz8;obtain⟨c,rfl,q1⟩:=nG q1;refine⟨c,RV.bl_.1 r1,?_⟩;cases c with
 |false=>exact aG (h' σ M1 ρ H1 Q (rs.mono k1) m1 q1) λ_ _=>bK k1
 |true=>exact⟨k1,.bl true,M1,RV.bl_.2 rfl,m1,q1⟩
theorem EL{ta:WE}(h:PEd X a ta):PEd X (.UnaryOp .Not a pos) (zt ta):=by
 intro σ M ρ H Q rs rm q;refine bv (FQ (pe_W a)) ?_;show tW X a ρ H _;refine aG (h σ M ρ H _ rs rm q) λv H1 zz9=>?_
 obtain⟨k1,x,M1,r1,m1,q1⟩:=zz9;obtain⟨c,rfl,q1⟩:=nG q1;exact⟨c,RV.bl_.1 r1,k1,.bl (!c),M1,RV.bl_.2 rfl,m1,q1⟩
def wIf(t:WT)(ta tb:WE):WE:=λσ M Q=>t σ M λc M1=>Bif c (ta σ M1 Q) (tb σ M1 Q)
theorem AQ{t:WT}{ta tb:WE}(hc:PTd X c t)(ha:PEd X a ta)(hb:PEd X b tb):PEd X (.IfExp c a b pos) (wIf t ta tb):=by
 intro σ M ρ H Q rs rm q;refine bv (BZ (pt_W c) (pe_W a) (pe_W b)) ?_;show tWT X c ρ H _;refine fY (hc σ M ρ H _ rs rm q) λk H1 zz10=>?_
 obtain⟨k1,M1,m1,q1⟩:=zz10;cases k with
 |true=>exact aG (ha σ M1 ρ H1 Q (rs.mono k1) m1 q1) λ_ _=>bK k1
 |false=>exact aG (hb σ M1 ρ H1 Q (rs.mono k1) m1 q1) λ_ _=>bK k1
def rdL:Option MO->Option (List D)
 |some (.lst ds)=>some ds
 |some (.rol ds)=>some ds
 |_=>none
def truD(x:D)(M:MH)(Q:Bool->Prop):Prop:=match x with
 |.non=>Q false
 |.bl b=>Q b
 |.int i=>Q (i != 0)
 |.str y=>y.length<=sizeLine/\Q ((y.length:Int) != 0)
 |.tup ds=>Q (!ds.isEmpty)
 |.ref a=>match M a with
  |some (.lst ds)=>Q (!ds.isEmpty)
  |some (.rol ds)=>Q (!ds.isEmpty)
  |some (.dic kvs)=>Q (!kvs.isEmpty)
  |_=>False
 |.ty _=>False
theorem qe{α β:Type}{l:List α}{m:List β}(h:l.length=m.length):l.isEmpty=m.isEmpty:=by
 cases l<;>cases m<;>simp_all
theorem EM{K:Za}{M:MH}{x:D}{v:V}{Q:Bool->Prop}(r:RV K H x v)(m:RM K M H)(h:truD x M Q):∃k,TruV K v H k/\Q k:=by
 cases x with
 |non=>cases RV.non_.1 r;exact⟨_,rfl,h⟩
 |bl b=>cases RV.bl_.1 r;exact⟨_,rfl,h⟩
 |int i=>cases RV.int_.1 r;exact⟨_,rfl,h⟩
 |str y=>cases RV.str_.1 r;exact⟨_,⟨h.1,rfl⟩,h.2⟩
 |ty n=>exact Yh h
 |tup ds=>
  obtain⟨a,xs,rfl,s,rr⟩:=RV.tup_.1 r;exact⟨_,.inr (.inl ⟨xs,s,rfl⟩),by rw[←qe rr.len];exact h⟩
 |ref a=>
  cases RV.ref_.1 r;have h:match M a with
   |some (.lst ds)=>Q (!ds.isEmpty)
   |some (.rol ds)=>Q (!ds.isEmpty)
   |some (.dic kvs)=>Q (!kvs.isEmpty)
   |_=>False:=h
  split at h
  ·rename_i ds e
   obtain⟨xs,q,rr⟩:=m a _ e;exact⟨_,.inl ⟨xs,SqL.of q,rfl⟩,by rw[←qe rr.len];exact h⟩
  ·rename_i ds e
   obtain⟨xs,q,rr⟩:=m a _ e;exact⟨_,.inl ⟨xs,.inl q,rfl⟩,by rw[←qe rr.len];exact h⟩
  ·rename_i kvs e
   obtain⟨kws,q,k,rr⟩:=m a _ e;refine⟨_,.inr (.inr ⟨kws,q,rfl⟩),?_⟩;have:kws.length=kvs.length:=by have:=congrArg List.length k;simpa using this
   rw[qe this];exact h
  ·exact Yh h
def wTru(t:WE):WT:=λσ M Q=>t σ M λx M1=>truD x M1 λk=>Q k M1
theorem EN{t:WE}(h:PEd X a t)(he:∀whole,isTrue a X.env whole=(do let v ←whole;standAt a.pos;holding [v] (truthy v))):PTd X a (wTru t):=by
 intro σ M ρ H Q rs rm q;refine vZ (Cd (pe_W a) he) ?_;show tW X a ρ H _;refine aG (h σ M ρ H _ rs rm q) λv H1 zz11=>?_
 obtain⟨k1,x,M1,r1,m1,q1⟩:=zz11;obtain⟨k,t1,q2⟩:=EM r1 m1 q1;exact⟨k,t1,k1,M1,m1,q2⟩
def wNil:WA:=λ_ M Q=>Q [] M
def zu(t:WE)(u:WA):WA:=λσ M Q=>t σ M λx M1=>u σ M1 λxs M2=>Q (x::xs) M2
theorem EO:PAd X [] wNil:=λσ M ρ H Q rs rm q=>AM Gh ⟨Kp.refl H,[],M,RVs.nil,rfl,rm,q⟩
theorem Cz{t:WE}{u:WA}(h:PEd X e t)(h':PAd X es u)(hs:ar e=true):PAd X (e::es) (zu t u):=by
 intro σ M ρ H Q rs rm q;refine AM (Eg (pe_W e) (pa_W es) (aP hs)) ?_;show tW X e ρ H _;refine aG (h σ M ρ H _ rs rm q) λv H1 zz12=>?_
 obtain⟨k1,x,M1,r1,m1,q1⟩:=zz12;show tWA X es ρ H1 _;refine cB (h' σ M1 ρ H1 _ (rs.mono k1) m1 q1) λvs H2 zz13=>?_
 obtain⟨k2,xs,M2,r2,l2,m2,q2⟩:=zz13;exact⟨k1.trans k2,x::xs,M2,RVs.cons (RV.mono k2 x r1) r2,by simp[l2],m2,q2⟩
def wTup(t:WA):WE:=λσ M Q=>t σ M λxs M1=>Q (.tup xs) M1
def wLst(t:WA):WE:=λσ M Q=>t σ M λxs M1=>∀p,M1 p=none->Q (.ref p) (updM M1 p (.lst xs))
theorem EQ{t:WA}{k:Nat}(h:PAd X es t)(hz:es.length<=1000):PEd X (.Tuple es k pos) (wTup t):=by
 intro σ M ρ H Q rs rm q;refine bv (Gi (pa_W es)) ?_;show tWA X es ρ H _;refine cB (h σ M ρ H _ rs rm q) λvs H1 zz14=>?_
 obtain⟨k1,xs,M1,r1,l1,m1,q1⟩:=zz14;refine⟨?_,λp hp=>?_⟩
 ·rw[←r1.len,l1];exact Nat.le_of_lt (uY hz)
 ·have k2:Kp H1 (upd H1 p (.tup vs)):=Kp.new hp
  exact⟨k1.trans k2,.tup xs,M1,RV.tup_.2 ⟨p,vs,rfl,SqT.of az,RVs.mono k2 _ r1⟩,m1.newH hp,q1⟩
theorem ER{t:WA}(h:PAd X es t)(hz:es.length<=1000):PEd X (.List es pos) (wLst t):=by
 intro σ M ρ H Q rs rm q;refine bv (Gj (pa_W es)) ?_;show tWA X es ρ H _;refine cB (h σ M ρ H _ rs rm q) λvs H1 zz15=>?_
 obtain⟨k1,xs,M1,r1,l1,m1,q1⟩:=zz15;refine⟨?_,λp hp=>?_⟩
 ·rw[←r1.len,l1];exact Nat.le_of_lt (uY hz)
 ·have k2:Kp H1 (upd H1 p (.lst vs)):=Kp.new hp
  exact⟨k1.trans k2,.ref p,_,RV.ref_.2 rfl,m1.new (m:=.lst xs) hp ⟨vs,az,RVs.mono k2 _ r1⟩,q1 p (m1.fresh hp)⟩
abbrev SpD:=List D->MH->DK->Prop
abbrev Yl:SpD:=λ_ _ _=>False
def gD(K:Za)(sp:SpD):Sp:=λvs H Q _=>∃ds M Q0,RVs K H ds vs/\RM K M H/\sp ds M Q0/\∀d M' v H',Q0 d M'->Kp H H'->RV K H' d v->RM K M' H'->Q v H'
def FnD(P:Zw)(w:World)(K:Za)(mg:Ze)(base:Heap)(k:Nat)(x:Str)(sp:SpD):Prop:=
 ∃st ps f fd,IsDef K mg x st ps f fd/\FnOk P w K mg base CX0 k f fd ps (gD K sp)
theorem cZ{env:Env}{pos:Pos}:∀{es:Zg},es.all ar=true->(backTo pos (starEach es env)).any (·.1)=false
 |[],_=>rfl
 |e::es,h=>by
  rw[XN,YV] at h;rw[aP h.1];show(false||(backTo pos (starEach es env)).any (·.1))=false;rw[cZ h.2];rfl
def fK(sp:SpD)(t:WA):WE:=λσ M Q=>t σ M λds M1=>sp ds M1 Q
theorem ES{k:Nat}{x:Str}{sp:SpD}{t:WA}{p:Pos}(F:FnD X.prog X.w X.K X.mg X.base k x sp)(hr:Room k X.A)(hg:Gl X x)(hdb:(x==("__debug__" : Str))=false)(hs:ar e=true)(hss:es.all ar=true)(ha:PAd X (e::es) t):
  PEd X (.Call (.Name x p) (e::es) [] pos) (fK sp t):=by
 obtain⟨st,ps,f,fd,D0,G⟩:=F;intro σ M ρ H Q rs rm q;refine bv (Gy D0 G hr (pa_W (e::es)) hg hdb (aP hs) (cZ hss)) ?_;show tWA X (e::es) ρ H _;refine cB (ha σ M ρ H _ rs rm q) λvs H1 zz16=>?_
 obtain⟨k1,xs,M1,r1,l1,m1,q1⟩:=zz16;rw[ZA];exact⟨xs,M1,Q,r1,m1,q1,λd M' v H' qd kk rv mm=>⟨k1.trans kk,d,M',rv,mm,qd⟩⟩
end
def se(K:Za):Bool:=K.all λp=>match p.2.cls with
 |.type t=>!(t == "list")
 |_=>true
theorem u1{a:Addr}{o:Obj}:∀{K:Za},se K=true->K.lookup a=some o->o.cls=.type "list"->False
 |[],_,h,_=>by cases h
 |(b,p)::K,hn,h,hc=>by
  unfold se at hn;rw[XN,YV] at hn;rw[XG] at h;split at h
  ·cases h
   have h1:=hn.1;simp only[hc] at h1;exact absurd h1 'a'
  ·exact u1 (K:=K) hn.2 h hc
theorem wc{K:Za}{H:Hp}:∀(ns:Zi),RVs K H (ns.map D.int) (ns.map V.int)
 |[]=>.nil
 |n::ns=>.cons (RV.int_.2 rfl) (wc ns)
def qf(a:Addr)(ns:Zi):MH:=λb=>if b=a then some (.rol (ns.map D.int)) else none
def vI(n:Nat)(sp:SpD):Prop:=∀a ns,ns.length<=n->sp [.ref a] (qf a ns) λd _=>d=.bl true
theorem GA{K:Za}{H:Hp}{a:Addr}{ns:Zi}{n:Nat}{sp:SpD}(hK:se K=true)(hs:vI n sp)(hl:ns.length<=n)(hS:SqL K H a (ns.map V.int))(E:XK):gD K sp [.ref a] H (λv _=>v=.bl true) E:=by
 rcases hS with hS | ⟨o,its,m,h1,h2,_⟩
 ·refine⟨[.ref a],qf a ns,λd _=>d=.bl true,.cons (RV.ref_.2 rfl) .nil,λb o e=>?_,hs a ns hl,λd M' v H' q _ r _=>?_⟩
  ·unfold qf at e
   split at e
   ·rename_i hb
    subst hb;cases e;exact⟨_,hS,wc ns⟩
   ·cases e
  ·subst q
   exact RV.bl_.1 r
 ·exact(u1 hK h1 h2).elim
mutual
noncomputable def jb(K:Za):D->Value->Bool
 |.non,u=>match u with
  |.none=>true
  |_=>false
 |.bl b,u=>match u with
  |.bool c=>decide (b=c)
  |_=>false
 |.int i,u=>match u with
  |.int j _=>decide (i=j)
  |_=>false
 |.str x,u=>match u with
  |.str y _=>decide (x=y)
  |_=>false
 |.ty n,u=>match u with
  |.type m=>decide (n=m)
  |_=>false
 |.ref a,u=>match u with
  |.ref b=>decide (a=b)
  |_=>false
 |.tup ds,u=>match u with
  |.ref a=>(match K.lookup a with
   |some ⟨.type t,_,.seq its _,_⟩=>decide (t = "tuple")&&decide (its.size<=sizeLine)&&pi K ds its.toList
   |_=>false)
  |_=>false
noncomputable def pi(K:Za):List D->List Value->Bool
 |[],us=>us.isEmpty
 |d::ds,us=>match us with
  |u::us=>jb K d u&&pi K ds us
  |[]=>false
end
mutual
theorem wd{K:Za}:∀(d:D){u:Value},jb K d u=true->∃v,RelV v u/\∀H,RV K H d v
 |.non,u,h=>by
  unfold jb at h;split at h
  ·exact⟨.non,rfl,λ_=>RV.non_.2 rfl⟩
  ·cases h
 |.bl b,u,h=>by
  unfold jb at h;split at h
  ·cases XM h;exact⟨.bl _,rfl,λ_=>RV.bl_.2 rfl⟩
  ·cases h
 |.int b,u,h=>by
  unfold jb at h;split at h
  ·cases XM h;exact⟨.int _,⟨_,rfl⟩,λ_=>RV.int_.2 rfl⟩
  ·cases h
 |.str b,u,h=>by
  unfold jb at h;split at h
  ·cases XM h;exact⟨.str _,⟨_,rfl⟩,λ_=>RV.str_.2 rfl⟩
  ·cases h
 |.ty b,u,h=>by
  unfold jb at h;split at h
  ·cases XM h;exact⟨.ty _,rfl,λ_=>RV.ty_.2 rfl⟩
  ·cases h
 |.ref a,u,h=>by
  unfold jb at h;split at h
  ·cases XM h;exact⟨.ref _,rfl,λ_=>RV.ref_.2 rfl⟩
  ·cases h
 |.tup ds,u,h=>by
  unfold jb at h;split at h
  ·rename_i a
   split at h
   ·rename_i t od its n sl e
    simp only[YV,XO] at h;obtain⟨⟨h1,h2⟩,h3⟩:=h;obtain⟨vs,r1,r2⟩:=u2 ds h3;exact⟨.ref a,rfl,λH=>RV.tup_.2 ⟨a,vs,rfl,.inr ⟨_,its,n,e,by rw[h1],rfl,h2,r1⟩,r2 H⟩⟩
   ·cases h
  ·cases h
theorem u2{K:Za}:∀(ds:List D){us:Zd},pi K ds us=true->∃vs,Vals vs us/\∀H,RVs K H ds vs
 |[],us,h=>by
  unfold pi at h;cases us with
  |nil=>exact⟨[],.nil,λ_=>.nil⟩
  |cons u us=>cases h
 |d::ds,us,h=>by
  unfold pi at h;split at h
  ·rename_i u us
   rw[YV] at h;obtain⟨v,r1,r2⟩:=wd d h.1;obtain⟨vs,r3,r4⟩:=u2 ds h.2;exact⟨v::vs,.cons r1 r3,λH=>.cons (r2 H) (r4 H)⟩
  ·cases h
end
def qg(K:Za):List Str->List D->Bool
 |[],_=>true
 |x::xs,ds=>(match PySem.W.nsIn K mainGlobals x with
  |some (some u)=>jb K (ds.headD .non) u
  |_=>false)&&qg K xs ds.tail
theorem sf{K:Za}{h:Heap}{mg:Ze}(X:K.In h)(G:h.Ns mainGlobals mg):∀{xs:Zf}{ds:List D},qg K xs ds=true->∀(j:Nat) x,xs[j]?=some x->ph K mg x (ds.getD j .non)
 |[],_,_,j,x,e=>by cases e
 |y::xs,ds,hk,j,x,e=>by
  unfold qg at hk;rw[YV] at hk;cases j with
  |zero=>
   have e:y=x:=by simpa using e
   subst e;have h1:=hk.1;split at h1
   ·rename_i u q
    obtain⟨v,r1,r2⟩:=wd _ h1;have:ds.getD 0 .non=ds.headD .non:=by cases ds<;>rfl
    rw[this];exact⟨v,u,PySem.W.mg_of X G q,r1,r2⟩
   ·cases h1
  |succ j=>
   have:=sf X G hk.2 j x (by simpa using e)
   have e2:ds.getD (j+1) .non=ds.tail.getD j .non:=by cases ds<;>simp
   rw[e2];exact this
def AR(K:Za)(xs:Zf):Bool:=xs.all λx=>match PySem.W.nsIn K mainGlobals x with
 |some none=>true
 |_=>false
theorem AS{K:Za}{h:Heap}{mg:Ze}(X:K.In h)(G:h.Ns mainGlobals mg){xs:Zf}(hk:AR K xs=true):∀x,xs.contains x=true->mg x=none:=by
 intro x hx
 have:=XI.1 hk x (by simpa using hx)
 split at this
 ·rename_i q
  exact PySem.W.mg_none_of X G q
 ·cases this
theorem HY{l:PySem.W.OpenLaw}{n k:Nat}{q:Zw}{loose:Zf}{XP:(Str->Option Value)->Heap->Prop}{YP:World->Heap->Prop}{d:DefRec}{K:Params->PySem.W.Frag}{sp:SpD}{x:Str}
  (hn:l.most=some n) (hn2:n<=sizeLine) (hdf:d.params.defaults=[]) (hr:Room k callerA) (hs:vI n sp)
  (hY:∀(w:World) (h:Heap),YP w h->(K w.params).In h) (hK:∀w:World,se (K w.params)=true)
  (F:∀(w:World) (mg:Ze) (fa:Addr) (h:Heap),(K w.params).In h->h.Ns mainGlobals mg->mg d.name=some (.ref fa) ->
   ∃fd:FuncData,(∀(s:Shared) (u:Value),BindsTo s fd ⟨[u],[]⟩ [(x,u)]) /\
    ∀base:Heap,(K w.params).In base->base.Ns mainGlobals mg->FnOk l.prog w (K w.params) mg base CX0 k fa fd [x] (gD (K w.params) sp)):
  PySem.W.WalkO q loose XP YP l.row.toRowW d [] (λf vs=>PySem.call f vs):=
 L2.Ew (n:=n) (k:=k) (x:=x) (CX:=λ_=>CX0) (sp:=λw=>gD (K w.params) sp) hn hn2 hdf hr hY F (λw _ a ns hl _ hS=>GA (hK w) hs hl hS _) λ_ _ _ _ _ z=>z
section
variable {P:Zw}{w:World}{K:Za}{mg:Ze}{base:Heap}{k:Nat}
structure DefAt (K:Za) (x:Str) (st:Stmt) (f:Addr) (fd:Zv):Prop where
 ex:∃(oc:Value) (od an:Zm) (osl:Zn) (kV doc pm cdv ct:Value),PySem.W.nsIn K mainGlobals x=some (some (.ref f)) /\
  fd=PySem.W.fnOf x x (bo st) (aK st) (av st) .none kV doc pm an cdv ct/\K.lookup f=some ⟨oc,od,.func fd,osl⟩/\PySem.W.codeIn K cdv x=true/\PySem.W.keepIn K (.ref f)=true
theorem DefAt.mk'{x:Str}{st:Stmt}{f:Addr}{oc:Value}{od an:Zm}{osl:Zn}{kV doc pm cdv ct:Value}
  (a:PySem.W.nsIn K mainGlobals x=some (some (.ref f))) (l:K.lookup f=some ⟨oc,od,.func (PySem.W.fnOf x x (bo st) (aK st) (av st) .none kV doc pm an cdv ct),osl⟩)
  (c:PySem.W.codeIn K cdv x=true) (k:PySem.W.keepIn K (.ref f)=true):DefAt K x st f (PySem.W.fnOf x x (bo st) (aK st) (av st) .none kV doc pm an cdv ct):=
 ⟨⟨oc,od,an,osl,kV,doc,pm,cdv,ct,a,rfl,l,c,k⟩⟩
theorem DefAt.def_{h:Heap}{x:Str}{st:Stmt}{ps:Zf}{f:Addr}{fd:Zv}(A:DefAt K x st f fd)(X:K.In h)(G:h.Ns mainGlobals mg)
  (hb:∀(kV doc pm:Value) (an:Zm) (cdv ct:Value) (us:Zd),us.length=ps.length->bindArgs (PySem.W.fnOf x x (bo st) (aK st) (av st) .none kV doc pm an cdv ct) ⟨us,[]⟩=pure (ps.zip us)):
  IsDef K mg x st ps f fd:=by
 obtain⟨oc,od,an,osl,kV,doc,pm,cdv,ct,a,rfl,l,c,k⟩:=A.ex;exact Cv X G a l c k hb
def isBt:Option (Option Value)->String->Bool
 |some (some (.builtin n)),s=>decide (n=s)
 |_,_=>false
def isNo:Option (Option Value)->Bool
 |some none=>true
 |_=>false
theorem ET{o:Option (Option Value)}{s:String}(h:isBt o s=true):o=some (some (.builtin s)):=by
 unfold isBt at h;split at h
 ·cases XM h;rfl
 ·cases h
theorem EU{o:Option (Option Value)}(h:isNo o=true):o=some none:=by
 unfold isNo at h;split at h
 ·rfl
 ·cases h
def clsIn(K:Za)(C:Addr)(fs:Zf):Bool:=
 PySem.W.plainGet K C Str.empty&&PySem.W.hasDictIn K C&&PySem.W.plainOver K C&&isBt (PySem.W.findIn K (.ref C) "__setattr__") "object.__setattr__" && fs.all (λf=>isNo (PySem.W.findIn K (.ref C) f))
theorem aE{C:Addr}{fs:Zf}(h:clsIn K C fs=true):Cls K C:=by
 unfold clsIn at h;simp only[YV] at h;exact⟨h.1.1.1.1,h.1.1.1.2,h.1.1.2,ET h.1.2⟩
theorem nH{C:Addr}{fs:Zf}{f:Str}(h:clsIn K C fs=true)(hf:f∈fs):bZ K C f:=by
 unfold clsIn at h;simp only[YV] at h;exact EU (XI.1 h.2 f hf)
structure MethAt (K:Za) (C:Addr) (m qual:Str) (st:Stmt) (f:Addr) (fd:Zv):Prop where
 at_:PySem.W.findIn K (.ref C) m=some (some (.ref f))
 fn:PySem.W.isFn K (.ref f)=true
 fun_:Fun K m qual st f fd
theorem MethAt.mk'{C:Addr}{m qual:Str}{st:Stmt}{f:Addr}{oc:Value}{od an:Zm}{osl:Zn}{kV doc pm cdv ct:Value}
  (a:PySem.W.findIn K (.ref C) m=some (some (.ref f))) (l:K.lookup f=some ⟨oc,od,.func (PySem.W.fnOf m qual (bo st) (aK st) (av st) .none kV doc pm an cdv ct),osl⟩)
  (n:PySem.W.isFn K (.ref f)=true) (c:PySem.W.codeIn K cdv qual=true) (k:PySem.W.keepIn K (.ref f)=true):MethAt K C m qual st f (PySem.W.fnOf m qual (bo st) (aK st) (av st) .none kV doc pm an cdv ct):=
 ⟨a,n,vX l c k⟩
theorem MethAt.meth{C:Addr}{m qual:Str}{st:Stmt}{f:Addr}{fd:Zv}(A:MethAt K C m qual st f fd):Meth K C m f:=⟨A.at_,A.fn,A.fun_.kp⟩
end
end DD
namespace K51
open PySem PySem.Spec PyProof.Rows L2 DD
def top(i:Nat):Stmt:=PySem.Challenge.pw_notring_k51_papers_by_rounds.main.body.getD i (.Pass ⟨0,0,0,0⟩)
abbrev bltL:List Str:=["all","bool","enumerate","int","isinstance","len","list","min","range","set","sorted","sum","tuple"]
abbrev gE:List Str:=["TOLD_PAPER","MOST_CONDS","HIGHEST_NUMBER","MOST_LISTED","MOST_FACTS","MOST_ROWS"]
abbrev kg:List D:=[(.tup [(.str "true"),(.int 0),(.int 0),.non]),(.int 6),(.int 6),(.int 6),(.int 120),(.int 400)]
abbrev nI:Stmt:=top 2
abbrev nJ:Stmt:=top 3
abbrev nK:Stmt:=top 4
abbrev qY:Stmt:=top 5
abbrev pj:Stmt:=top 6
abbrev mi:Stmt:=top 7
abbrev nL:Stmt:=top 14
abbrev mj:Stmt:=top 15
abbrev jw:Stmt:=top 16
abbrev jx:Stmt:=top 17
abbrev kE:Stmt:=top 19
abbrev jy:Stmt:=top 20
abbrev iE:Stmt:=top 21
abbrev nM:Stmt:=top 22
abbrev jz:Stmt:=top 23
abbrev gF:Stmt:=top 24
abbrev ml:Stmt:=top 27
abbrev kF:Stmt:=top 28
abbrev mn:Stmt:=top 29
abbrev mo:Stmt:=top 32
abbrev ua:Stmt:=top 33
abbrev jA:Stmt:=top 34
abbrev nN:Stmt:=top 35
abbrev kG:Stmt:=top 36
abbrev nP:Stmt:=top 37
abbrev fZ:Stmt:=top 38
abbrev gG:Stmt:=top 39
abbrev iF:Stmt:=top 51
abbrev iG:Stmt:=top 52
abbrev eD:Stmt:=top 53
abbrev qZ:Stmt:=top 54
abbrev pk:Stmt:=top 55
abbrev mq:Stmt:=top 56
abbrev kH:Stmt:=top 57
abbrev nQ:Stmt:=top 59
abbrev kI:Stmt:=top 60
abbrev mr:Stmt:=top 61
abbrev kJ:Stmt:=top 62
abbrev nS:Stmt:=top 63
abbrev nT:Stmt:=top 64
abbrev jB:Stmt:=top 65
abbrev mw:Stmt:=top 66
abbrev nU:Stmt:=top 67
abbrev nV:Stmt:=top 68
abbrev pq:Stmt:=top 69
abbrev nW:Stmt:=top 70
abbrev sg:Stmt:=top 71
abbrev mx:Stmt:=inClass (top 10) 0
abbrev iH:Stmt:=inClass (top 10) 2
abbrev iI:Stmt:=inClass (top 10) 3
abbrev iJ:Stmt:=inClass (top 10) 4
abbrev my:Stmt:=inClass (top 11) 0
abbrev iK:Stmt:=inClass (top 11) 2
abbrev iL:Stmt:=inClass (top 11) 3
abbrev iM:Stmt:=inClass (top 11) 4
abbrev mz:Stmt:=inClass (top 12) 0
abbrev iN:Stmt:=inClass (top 12) 2
abbrev iO:Stmt:=inClass (top 12) 3
abbrev iP:Stmt:=inClass (top 12) 4
abbrev mC:Stmt:=inClass (top 13) 0
abbrev iQ:Stmt:=inClass (top 13) 2
abbrev iR:Stmt:=inClass (top 13) 3
abbrev iS:Stmt:=inClass (top 13) 4
abbrev iT:Stmt:=inClass (top 26) 0
abbrev iU:Stmt:=inClass (top 26) 1
abbrev dE:Stmt:=inClass (top 26) 5
abbrev db:Stmt:=inClass (top 26) 6
abbrev cP:Stmt:=inClass (top 26) 7
abbrev jC:Stmt:=inClass (top 40) 0
abbrev dF:Stmt:=inClass (top 40) 1
abbrev ci:Stmt:=inClass (top 40) 2
abbrev cQ:Stmt:=inClass (top 40) 3
abbrev dG:Stmt:=inClass (top 40) 4
abbrev kK:Stmt:=inClass (top 50) 0
abbrev f6:Stmt:=inClass (top 50) 1
abbrev eV:Stmt:=inClass (top 50) 3
abbrev f7:Stmt:=inClass (top 50) 4
abbrev dH:Stmt:=inClass (top 50) 5
abbrev gH:Stmt:=inClass (top 50) 6
abbrev f8:Stmt:=inClass (top 50) 7
def HDef(K:Za)(x:Str)(st:Stmt):Prop:=∃f fd,DefAt K x st f fd
def aQ(K:Za)(C:Addr)(m q:Str)(st:Stmt):Prop:=∃f fd,MethAt K C m q st f fd
abbrev fldL:List Str:=["fact","number","facts","at"]
abbrev GB:List Str:=["many","heads","conds","headed","leanings","helped"]
abbrev HZ:List Str:=["pairs","sure","unsure","others"]
abbrev GC:List Str:=["everything","true_ones","false_ones","open_ones","sure","not_false"]
structure Hyps (K:Za) (cH cL cS cD S Z W:Addr):Prop where
 a_0:HDef K "has_fact" nK
 a_1:HDef K "count_in" nL
 a_2:HDef K "answer_in" ml
 a_3:HDef K "set_of" qY
 a_4:HDef K "_law_same" nW
 a_5:HDef K "all_carried" jw
 a_6:HDef K "carried_heads" gF
 a_7:HDef K "helped_rows" jz
 a_8:HDef K "members" pj
 a_9:HDef K "all_rows" nM
 a_10:HDef K "ranked_among" iE
 a_11:HDef K "all_facts" mi
 a_12:HDef K "ranked_set" kE
 a_13:HDef K "ranks" ua
 a_14:HDef K "least_among" jy
 a_15:HDef K "next_pair" mn
 a_16:HDef K "to_and_fro" kF
 a_17:HDef K "papers_of" mo
 a_18:HDef K "open_is_right" gG
 a_19:HDef K "any_blocked" jx
 a_20:HDef K "false_is_right" fZ
 a_21:HDef K "is_right" nP
 a_22:HDef K "is_whole" nI
 a_23:HDef K "is_below" nJ
 a_24:HDef K "is_own_row" kG
 a_25:HDef K "is_paper" nN
 a_26:HDef K "papers_hold" jA
 a_27:HDef K "_law_carried" jB
 a_28:HDef K "_law_least" mw
 a_29:HDef K "_law_runs" nU
 a_30:HDef K "_law_due" pq
 a_31:HDef K "rows_by_help" eD
 a_32:HDef K "row_leanings" iF
 a_33:HDef K "rows_by_head" iG
 a_34:HDef K "made_cond" mj
 a_35:HDef K "is_listing" kH
 a_36:HDef K "is_number" mq
 a_37:HDef K "is_cond" pk
 a_38:HDef K "is_row" qZ
 a_39:HDef K "_law_digit" mr
 a_40:HDef K "_law_picked" kJ
 a_41:HDef K "_law_cond" nS
 a_42:HDef K "_law_rows" nT
 a_43:HDef K "_law_cell" nQ
 a_44:HDef K "_law_source" kI
 a_45:HDef K "_law_made" nV
 a_65:aQ K cH "__init__" "Have.__init__" mx
 a_66:aQ K cH "carried" "Have.carried" iH
 a_67:aQ K cH "leaning" "Have.leaning" iJ
 a_68:aQ K cH "blocked" "Have.blocked" iI
 a_69:aQ K cL "__init__" "Lack.__init__" my
 a_70:aQ K cL "carried" "Lack.carried" iK
 a_71:aQ K cL "leaning" "Lack.leaning" iM
 a_72:aQ K cL "blocked" "Lack.blocked" iL
 a_73:aQ K cS "__init__" "Some.__init__" mz
 a_74:aQ K cS "carried" "Some.carried" iN
 a_75:aQ K cS "leaning" "Some.leaning" iP
 a_76:aQ K cS "blocked" "Some.blocked" iO
 a_77:aQ K cD "__init__" "Lead.__init__" mC
 a_78:aQ K cD "carried" "Lead.carried" iQ
 a_79:aQ K cD "leaning" "Lead.leaning" iS
 a_80:aQ K cD "blocked" "Lead.blocked" iR
 a_81:aQ K S "__init__" "Sheet.__init__" kK
 a_82:aQ K S "how_many" "Sheet.how_many" f6
 a_83:aQ K S "rows_for" "Sheet.rows_for" f7
 a_84:aQ K S "rows_helped" "Sheet.rows_helped" dH
 a_85:aQ K S "head_of" "Sheet.head_of" gH
 a_86:aQ K S "conds_of" "Sheet.conds_of" f8
 a_64:aQ K S "row_count" "Sheet.row_count" eV
 a_97:aQ K Z "__init__" "Sorting.__init__" iT
 a_60:aQ K Z "runs" "Sorting.runs" iU
 a_61:aQ K Z "answer_of" "Sorting.answer_of" dE
 a_62:aQ K Z "true_round" "Sorting.true_round" db
 a_63:aQ K Z "false_round" "Sorting.false_round" cP
 a_55:aQ K W "__init__" "Claims.__init__" jC
 a_56:aQ K W "true_ahead" "Claims.true_ahead" dF
 a_57:aQ K W "true_by_rounds" "Claims.true_by_rounds" ci
 a_58:aQ K W "not_false_by" "Claims.not_false_by" cQ
 a_59:aQ K W "open_ahead" "Claims.open_ahead" dG
def DI(sp:SpD):Prop:=∀{l:PySem.W.OpenLaw}{w:World}{K:Za}{h:Heap}{mg:Ze}{fa cH cL cS cD S Z W:Addr}(X:K.In h) (G:h.Ns mainGlobals mg) (hfa:mg "law" = some (.ref fa))
 (ap:(decide (cH≠cL)&&decide (cH≠cS)&&decide (cH≠cD)&&decide (cL≠cS)&&decide (cL≠cD)&&decide (cS≠cD))=true) (gl:qg K gE kg=true) (bl:AR K bltL=true)
 (n_47:PySem.W.nsIn K mainGlobals "Have" = some (some (.ref cH))) (k_47:(clsIn K cH fldL&&PySem.W.makesIn K cH&&PySem.W.keepIn K (.ref cH))=true)
 (n_48:PySem.W.nsIn K mainGlobals "Lack" = some (some (.ref cL))) (k_48:(clsIn K cL fldL&&PySem.W.makesIn K cL&&PySem.W.keepIn K (.ref cL))=true)
 (n_49:PySem.W.nsIn K mainGlobals "Some" = some (some (.ref cS))) (k_49:(clsIn K cS fldL&&PySem.W.makesIn K cS&&PySem.W.keepIn K (.ref cS))=true)
 (n_50:PySem.W.nsIn K mainGlobals "Lead" = some (some (.ref cD))) (k_50:(clsIn K cD fldL&&PySem.W.makesIn K cD&&PySem.W.keepIn K (.ref cD))=true)
 (n_51:PySem.W.nsIn K mainGlobals "Sheet" = some (some (.ref S))) (k_51:(clsIn K S GB&&PySem.W.makesIn K S&&PySem.W.keepIn K (.ref S))=true)
 (n_52:PySem.W.nsIn K mainGlobals "Sorting" = some (some (.ref Z))) (k_52:(clsIn K Z HZ&&PySem.W.makesIn K Z&&PySem.W.keepIn K (.ref Z))=true)
 (n_54:PySem.W.nsIn K mainGlobals "Claims" = some (some (.ref W))) (k_54:(clsIn K W GC&&PySem.W.makesIn K W&&PySem.W.keepIn K (.ref W))=true)
 {f_46:Addr}{d_46:Zv}(a_46:DefAt K "law" sg f_46 d_46)
 (hy:Hyps K cH cL cS cD S Z W),
 ∃fd:FuncData,(∀(s:Shared) (v:Value),BindsTo s fd ⟨[v],[]⟩ [("_law_script",v)])/\∀base:Heap,K.In base->base.Ns mainGlobals mg->FnOk l.prog w K mg base CX0 13 fa fd ["_law_script"] (gD K sp)
end K51
section
open PySem PySem.W PyProof.Rows L2 DD
local macro_rules
  | `(tactic| o_head $H:term) => `(tactic| refine holds_open (q := K51.viewQ) (loose := []) (Xt := λs => xlAt K51.viewQ [] s && recOk [] s) (XP := XL K51.viewQ []) (Yf := Hook.obs $H) (Ya := Hook.val $H) (YP := Hook.says $H) (N := 12100) ?$(Lean.mkIdent `hl) (Hook.of $H) (Hook.keeps $H)
      (λs e=>xl_of s (Bool.and_eq_true_iff.mp e).1) XL.keeps (by rfl) (by rfl) (by rfl) (λs e=>recFacts_of (Bool.and_eq_true_iff.mp e).2) (by rfl) (by first | assumption | rfl') (by rfl') ⟨rfl,rfl,rfl,rfl,rfl,by rfl'⟩ ?$(Lean.mkIdent `hw) ?$(Lean.mkIdent `hc))
set_option maxHeartbeats 0 in
theorem K51.over{sp:SpD}(ok:vI 63 sp)(mk:K51.DI sp):PySem.Challenge.rw_notring_k51_papers_by_rounds.Holds:=by
 w_on;refine holds_law K51.said λsaid=>?_;k_head
 (case hl=>exact TopT.Hs K51.seen1 K51.seen2 K51.seen3 K51.seen5 K51.seen6 (λw=>by kernel_rfl))
 (case hw=>w_witness2);k_fill;refine DD.HY (l:=PySem.Challenge.rw_notring_k51_papers_by_rounds) (n:=63) (k:=13) (x:="_law_script") rfl 'a' rfl ⟨rfl,by decide,by decide⟩ ok (λw h Y=>PySem.W.kIn_of Y) ?noL ?defs
 case noL=>intro w;kernel_rfl
 case defs=>
  intro w mg fa h KX G hmg;refine' mk KX G hmg ?ap ?gl ?bl ?n_47 ?k_47 ?n_48 ?k_48 ?n_49 ?k_49 ?n_50 ?k_50 ?n_51 ?k_51 ?n_52 ?k_52 ?n_54 ?k_54 (DefAt.mk' ?a_46 ?l_46 ?c_46 ?k_46) ⟨⟨_,_,DefAt.mk' ?a_0 ?l_0 ?c_0 ?k_0⟩,⟨_,_,DefAt.mk' ?a_1 ?l_1 ?c_1 ?k_1⟩,⟨_,_,DefAt.mk' ?a_2 ?l_2 ?c_2 ?k_2⟩,⟨_,_,DefAt.mk' ?a_3 ?l_3 ?c_3 ?k_3⟩,⟨_,_,DefAt.mk' ?a_4 ?l_4 ?c_4 ?k_4⟩,⟨_,_,DefAt.mk' ?a_5 ?l_5 ?c_5 ?k_5⟩,⟨_,_,DefAt.mk' ?a_6 ?l_6 ?c_6 ?k_6⟩,⟨_,_,DefAt.mk' ?a_7 ?l_7 ?c_7 ?k_7⟩,⟨_,_,DefAt.mk' ?a_8 ?l_8 ?c_8 ?k_8⟩,⟨_,_,DefAt.mk' ?a_9 ?l_9 ?c_9 ?k_9⟩,⟨_,_,DefAt.mk' ?a_10 ?l_10 ?c_10 ?k_10⟩,⟨_,_,DefAt.mk' ?a_11 ?l_11 ?c_11 ?k_11⟩,⟨_,_,DefAt.mk' ?a_12 ?l_12 ?c_12 ?k_12⟩,⟨_,_,DefAt.mk' ?a_13 ?l_13 ?c_13 ?k_13⟩,⟨_,_,DefAt.mk' ?a_14 ?l_14 ?c_14 ?k_14⟩,⟨_,_,DefAt.mk' ?a_15 ?l_15 ?c_15 ?k_15⟩,⟨_,_,DefAt.mk' ?a_16 ?l_16 ?c_16 ?k_16⟩,⟨_,_,DefAt.mk' ?a_17 ?l_17 ?c_17 ?k_17⟩,⟨_,_,DefAt.mk' ?a_18 ?l_18 ?c_18 ?k_18⟩,⟨_,_,DefAt.mk' ?a_19 ?l_19 ?c_19 ?k_19⟩,⟨_,_,DefAt.mk' ?a_20 ?l_20 ?c_20 ?k_20⟩,⟨_,_,DefAt.mk' ?a_21 ?l_21 ?c_21 ?k_21⟩,⟨_,_,DefAt.mk' ?a_22 ?l_22 ?c_22 ?k_22⟩,⟨_,_,DefAt.mk' ?a_23 ?l_23 ?c_23 ?k_23⟩,⟨_,_,DefAt.mk' ?a_24 ?l_24 ?c_24 ?k_24⟩,⟨_,_,DefAt.mk' ?a_25 ?l_25 ?c_25 ?k_25⟩,⟨_,_,DefAt.mk' ?a_26 ?l_26 ?c_26 ?k_26⟩,⟨_,_,DefAt.mk' ?a_27 ?l_27 ?c_27 ?k_27⟩,⟨_,_,DefAt.mk' ?a_28 ?l_28 ?c_28 ?k_28⟩,⟨_,_,DefAt.mk' ?a_29 ?l_29 ?c_29 ?k_29⟩,⟨_,_,DefAt.mk' ?a_30 ?l_30 ?c_30 ?k_30⟩,⟨_,_,DefAt.mk' ?a_31 ?l_31 ?c_31 ?k_31⟩,⟨_,_,DefAt.mk' ?a_32 ?l_32 ?c_32 ?k_32⟩,⟨_,_,DefAt.mk' ?a_33 ?l_33 ?c_33 ?k_33⟩,⟨_,_,DefAt.mk' ?a_34 ?l_34 ?c_34 ?k_34⟩,⟨_,_,DefAt.mk' ?a_35 ?l_35 ?c_35 ?k_35⟩,⟨_,_,DefAt.mk' ?a_36 ?l_36 ?c_36 ?k_36⟩,⟨_,_,DefAt.mk' ?a_37 ?l_37 ?c_37 ?k_37⟩,⟨_,_,DefAt.mk' ?a_38 ?l_38 ?c_38 ?k_38⟩,⟨_,_,DefAt.mk' ?a_39 ?l_39 ?c_39 ?k_39⟩,⟨_,_,DefAt.mk' ?a_40 ?l_40 ?c_40 ?k_40⟩,⟨_,_,DefAt.mk' ?a_41 ?l_41 ?c_41 ?k_41⟩,⟨_,_,DefAt.mk' ?a_42 ?l_42 ?c_42 ?k_42⟩,⟨_,_,DefAt.mk' ?a_43 ?l_43 ?c_43 ?k_43⟩,⟨_,_,DefAt.mk' ?a_44 ?l_44 ?c_44 ?k_44⟩,⟨_,_,DefAt.mk' ?a_45 ?l_45 ?c_45 ?k_45⟩,⟨_,_,MethAt.mk' ?a_65 ?l_65 ?n_65 ?c_65 ?k_65⟩,⟨_,_,MethAt.mk' ?a_66 ?l_66 ?n_66 ?c_66 ?k_66⟩,⟨_,_,MethAt.mk' ?a_67 ?l_67 ?n_67 ?c_67 ?k_67⟩,⟨_,_,MethAt.mk' ?a_68 ?l_68 ?n_68 ?c_68 ?k_68⟩,⟨_,_,MethAt.mk' ?a_69 ?l_69 ?n_69 ?c_69 ?k_69⟩,⟨_,_,MethAt.mk' ?a_70 ?l_70 ?n_70 ?c_70 ?k_70⟩,⟨_,_,MethAt.mk' ?a_71 ?l_71 ?n_71 ?c_71 ?k_71⟩,⟨_,_,MethAt.mk' ?a_72 ?l_72 ?n_72 ?c_72 ?k_72⟩,⟨_,_,MethAt.mk' ?a_73 ?l_73 ?n_73 ?c_73 ?k_73⟩,⟨_,_,MethAt.mk' ?a_74 ?l_74 ?n_74 ?c_74 ?k_74⟩,⟨_,_,MethAt.mk' ?a_75 ?l_75 ?n_75 ?c_75 ?k_75⟩,⟨_,_,MethAt.mk' ?a_76 ?l_76 ?n_76 ?c_76 ?k_76⟩,⟨_,_,MethAt.mk' ?a_77 ?l_77 ?n_77 ?c_77 ?k_77⟩,⟨_,_,MethAt.mk' ?a_78 ?l_78 ?n_78 ?c_78 ?k_78⟩,⟨_,_,MethAt.mk' ?a_79 ?l_79 ?n_79 ?c_79 ?k_79⟩,⟨_,_,MethAt.mk' ?a_80 ?l_80 ?n_80 ?c_80 ?k_80⟩,⟨_,_,MethAt.mk' ?a_81 ?l_81 ?n_81 ?c_81 ?k_81⟩,⟨_,_,MethAt.mk' ?a_82 ?l_82 ?n_82 ?c_82 ?k_82⟩,⟨_,_,MethAt.mk' ?a_83 ?l_83 ?n_83 ?c_83 ?k_83⟩,⟨_,_,MethAt.mk' ?a_84 ?l_84 ?n_84 ?c_84 ?k_84⟩,⟨_,_,MethAt.mk' ?a_85 ?l_85 ?n_85 ?c_85 ?k_85⟩,⟨_,_,MethAt.mk' ?a_86 ?l_86 ?n_86 ?c_86 ?k_86⟩,⟨_,_,MethAt.mk' ?a_64 ?l_64 ?n_64 ?c_64 ?k_64⟩,⟨_,_,MethAt.mk' ?a_97 ?l_97 ?n_97 ?c_97 ?k_97⟩,⟨_,_,MethAt.mk' ?a_60 ?l_60 ?n_60 ?c_60 ?k_60⟩,⟨_,_,MethAt.mk' ?a_61 ?l_61 ?n_61 ?c_61 ?k_61⟩,⟨_,_,MethAt.mk' ?a_62 ?l_62 ?n_62 ?c_62 ?k_62⟩,⟨_,_,MethAt.mk' ?a_63 ?l_63 ?n_63 ?c_63 ?k_63⟩,⟨_,_,MethAt.mk' ?a_55 ?l_55 ?n_55 ?c_55 ?k_55⟩,⟨_,_,MethAt.mk' ?a_56 ?l_56 ?n_56 ?c_56 ?k_56⟩,⟨_,_,MethAt.mk' ?a_57 ?l_57 ?n_57 ?c_57 ?k_57⟩,⟨_,_,MethAt.mk' ?a_58 ?l_58 ?n_58 ?c_58 ?k_58⟩,⟨_,_,MethAt.mk' ?a_59 ?l_59 ?n_59 ?c_59 ?k_59⟩⟩
  case n_47 | n_48 | n_49 | n_50 | n_51 | n_52 | n_54 | a_0 | l_0 | c_0 | k_0 | a_1 | l_1 | c_1 | k_1 | a_2 | l_2 | c_2 | k_2 | a_3 | l_3 | c_3 | k_3 | a_4 | l_4 | c_4 | k_4 | a_5 | l_5 | c_5 | k_5 | a_6 | l_6 | c_6 | k_6 | a_7 | l_7 | c_7 | k_7 | a_8 | l_8 | c_8 | k_8 | a_9 | l_9 | c_9 | k_9 | a_10 | l_10 | c_10 | k_10 | a_11 | l_11 | c_11 | k_11 | a_12 | l_12 | c_12 | k_12 | a_13 | l_13 | c_13 | k_13 | a_14 | l_14 | c_14 | k_14 | a_15 | l_15 | c_15 | k_15 | a_16 | l_16 | c_16 | k_16 | a_17 | l_17 | c_17 | k_17 | a_18 | l_18 | c_18 | k_18 | a_19 | l_19 | c_19 | k_19 | a_20 | l_20 | c_20 | k_20 | a_21 | l_21 | c_21 | k_21 | a_22 | l_22 | c_22 | k_22 | a_23 | l_23 | c_23 | k_23 | a_24 | l_24 | c_24 | k_24 | a_25 | l_25 | c_25 | k_25 | a_26 | l_26 | c_26 | k_26 | a_27 | l_27 | c_27 | k_27 | a_28 | l_28 | c_28 | k_28 | a_29 | l_29 | c_29 | k_29 | a_30 | l_30 | c_30 | k_30 | a_31 | l_31 | c_31 | k_31 | a_32 | l_32 | c_32 | k_32 | a_33 | l_33 | c_33 | k_33 | a_34 | l_34 | c_34 | k_34 | a_35 | l_35 | c_35 | k_35 | a_36 | l_36 | c_36 | k_36 | a_37 | l_37 | c_37 | k_37 | a_38 | l_38 | c_38 | k_38 | a_39 | l_39 | c_39 | k_39 | a_40 | l_40 | c_40 | k_40 | a_41 | l_41 | c_41 | k_41 | a_42 | l_42 | c_42 | k_42 | a_43 | l_43 | c_43 | k_43 | a_44 | l_44 | c_44 | k_44 | a_45 | l_45 | c_45 | k_45 | a_46 | l_46 | c_46 | k_46 | a_65 | l_65 | n_65 | c_65 | k_65 | a_66 | l_66 | n_66 | c_66 | k_66 | a_67 | l_67 | n_67 | c_67 | k_67 | a_68 | l_68 | n_68 | c_68 | k_68 | a_69 | l_69 | n_69 | c_69 | k_69 | a_70 | l_70 | n_70 | c_70 | k_70 | a_71 | l_71 | n_71 | c_71 | k_71 | a_72 | l_72 | n_72 | c_72 | k_72 | a_73 | l_73 | n_73 | c_73 | k_73 | a_74 | l_74 | n_74 | c_74 | k_74 | a_75 | l_75 | n_75 | c_75 | k_75 | a_76 | l_76 | n_76 | c_76 | k_76 | a_77 | l_77 | n_77 | c_77 | k_77 | a_78 | l_78 | n_78 | c_78 | k_78 | a_79 | l_79 | n_79 | c_79 | k_79 | a_80 | l_80 | n_80 | c_80 | k_80 | a_81 | l_81 | n_81 | c_81 | k_81 | a_82 | l_82 | n_82 | c_82 | k_82 | a_83 | l_83 | n_83 | c_83 | k_83 | a_84 | l_84 | n_84 | c_84 | k_84 | a_85 | l_85 | n_85 | c_85 | k_85 | a_86 | l_86 | n_86 | c_86 | k_86 | a_64 | l_64 | n_64 | c_64 | k_64 | a_97 | l_97 | n_97 | c_97 | k_97 | a_60 | l_60 | n_60 | c_60 | k_60 | a_61 | l_61 | n_61 | c_61 | k_61 | a_62 | l_62 | n_62 | c_62 | k_62 | a_63 | l_63 | n_63 | c_63 | k_63 | a_55 | l_55 | n_55 | c_55 | k_55 | a_56 | l_56 | n_56 | c_56 | k_56 | a_57 | l_57 | n_57 | c_57 | k_57 | a_58 | l_58 | n_58 | c_58 | k_58 | a_59 | l_59 | n_59 | c_59 | k_59=>k_is
  case ap | gl | bl | k_47 | k_48 | k_49 | k_50 | k_51 | k_52 | k_54=>kernel_rfl
end
namespace DD
open PySem PySem.Spec PyProof.Rows L2
theorem ub{P:Zw}{w:World}{k:Key}{u:Value}(h:(bn P w).is k u=true):RelV (kV k) u:=by
 rw[y8] at h;rcases bw h with⟨i,t,rfl,rfl⟩ | ⟨x,t,rfl,rfl⟩
 ·exact⟨t,rfl⟩
 ·exact⟨t,rfl⟩
def Itd(a:Addr)(u:Obj)(kws:List (Key×V)):It:=
 ⟨λi H=>H a=some (.frz u (.dK kws))/\i<kws.length,λi H x H'=>H'=H/\∃kv,kws[i]?=some kv/\x=kV kv.1,λi H=>H a=some (.frz u (.dK kws))/\kws.length<=i⟩
theorem mV{X:Cx}{pins:Zc}{σ:L2.St}{H:Hp}{s:Shared}{a:Addr}{u:Obj}{kws:List (Key×V)}(I:Inv X pins σ H s)(h:H a=some (.frz u (.dK kws))):
  (a==sysModules)=false/\kws.length<=sizeLine/\∃vs es ep,KV kws vs/\u.data=.dict es ep/\s.heap.DictAt (bn X.prog X.w) a vs ep:=by
 obtain⟨h1,hz,hd,vs,rel,o,es,ep,ho,r⟩:=(show aU X.prog X.w H s.heap a (.frz u (.dK kws)) from I.hok a _ h);have e:o=u:=by rw[h1] at ho;cases ho;rfl
 subst e;exact⟨hd,hz,vs,es,ep,rel,r.2.1,o,es,ho,r⟩
theorem AT{P:Zw}{w:World}{K:Za}{tg:Expr}(a it:Addr){u:Obj}{kws:List (Key×V)}{es:Array DictEntry}{ep:Nat}(hu:u.data=.dict es ep):
  Turn P w K tg (Itd a u kws) [it] it (λi h=>h.IsKeyIter it a i kws.length ep) where
 mem:=by simp
 obj:=λi h st b hb=>by
  have e:b=it:=by simpa using hb
  subst e;obtain⟨o,e,c,d⟩:=st;exact⟨o,e,λv z=>by rw[d] at z;cases z⟩
 keep:=λi h h' st k=>st.at λo e=>k it (by simp) o e
 item:=by
  rw[0];obtain⟨hq,hi⟩:=hg;obtain⟨hd,hz,vs,es',ep',rel,hu',hm⟩:=mV I hq;have ee:ep'=ep:=by rw[hu] at hu';cases hu';rfl
  subst ee;obtain⟨⟨k,x⟩,hx,hr⟩:=cO rel (ZC hi);obtain⟨f0,f1,f2,f3,f4,f5⟩:=hf it (by simp);rw[rel.length] at st;refine wpAny_pyNext_dict_item st hm hx λkey h' hkey st' sb=>?_
  have I1:Inv X pins σ H { s with heap:=h' }:=I.turned (t':=s.toks) (λb o hb e=>(sb.2 b hb).trans e) f0 f1 f3 f4 f5;obtain⟨o,e,c,d⟩:=id st';rw[←rel.length] at st';have hk1:kws[i].1=k:=hr.1;exact⟨key,rfl,pZ (s:={ s with heap:=h' }) e c d 'a' ⟨kV k,H,I1,ub hkey,⟨rfl,kws[i],ZC hi,by rw[hk1]⟩,st',λb hb=>(hf b hb).1⟩⟩
 done:=by
  rw[0];obtain⟨hq,hi⟩:=hg;obtain⟨hd,hz,vs,es',ep',rel,hu',hm⟩:=mV I hq;have ee:ep'=ep:=by rw[hu] at hu';cases hu';rfl
  subst ee;obtain⟨f0,f1,f2,f3,f4,f5⟩:=hf it (by simp);rw[rel.length] at st;have hx:vs[i]?=none:=by rw[List.getElem?_eq_none_iff,←rel.length];exact hi
  exact wpAny_pyNext_dict_end (I.ok.hd hc) st hm hx λh' eb=>⟨rfl,I.turned (t':=s.toks) (λb o hb e=>eb b o hb e) f0 f1 f3 f4 f5⟩
 self:=λ_ _ _ _ _ st h=>wpAny_pyIter_keyiter st h
section
variable {X:Cx}{ρ:L2.St}{H:Hp}
theorem yy{pins:Zc}{s:Shared}{tg:Expr}{a:Addr}{u:Obj}{kws:List (Key×V)}{R:It->Hp->Prop}(I:Inv X pins ρ H s)(hq:H a=some (.frz u (.dK kws)))(q:R (Itd a u kws) H):
  wpAny 'c' X.A (pyIter (.ref a)) (PIE X pins ρ tg R) X.xe s:=by
 obtain⟨hd,hz,vs,es,ep,rel,hu,hm⟩:=mV I hq;refine wpAny_pyIter_dict hd hm ?_;refine⟨s.heap.objs.size,[s.heap.objs.size],_,_,H,rfl,I.kept (t':=s.toks) λb o e=>Yd _ e,AT a _ hu,⟨_,Yg _ rfl,rfl,by rw[rel.length];rfl⟩,λb hb=>?_,q⟩;have e:b=s.heap.objs.size:=by simpa using hb
 subst e;exact I.fpOk (YE _) (I.hok.fresh (YE _))
theorem freeze{pins:Zc}{s:Shared}{a:Addr}{kws:List (Key×V)}(I:Inv X pins ρ H s)(hq:H a=some (.dK kws)):∃u,Inv X pins ρ (upd H a (.frz u (.dK kws))) s:=by
 obtain⟨hz,hd,vs,rel,dd⟩:=(show aU X.prog X.w H s.heap a (.dK kws) from I.hok a _ hq);obtain⟨o,es,ep,ho,r⟩:=id dd;refine⟨o,?_⟩
 have:=I.write (x:=a) (e:=a) (o:=.frz o (.dK kws)) (h':=s.heap) (t':=s.toks) (by rw[hq];exact trivial) (.inl rfl) (λb u _ e=>e) ⟨_,ho⟩ ⟨ho,hz,hd,vs,rel,dd⟩
 exact this
end
structure EndsD where
 nx:DS->MH->Prop
 rt:DK
 bk:DS->MH->Prop:=λ_ _=>False
 ct:DS->MH->Prop:=λ_ _=>False
abbrev WS:=EndsD->DS->MH->Prop
def si(K:Za)(H:Hp)(n:DS->MH->Prop):L2.St->Hp->Prop:=λρ' H'=>Kp H H'/\∃σ' M',RS K H' σ' ρ'/\RM K M' H'/\n σ' M'
def vJ(K:Za)(H:Hp)(D:EndsD):Ends:={ nx:=si K H D.nx,rt:=lift K H D.rt,bk:=si K H D.bk,ct:=si K H D.ct }
structure EImp (D D':Ends):Prop where
 nx:∀ρ H,D.nx ρ H->D'.nx ρ H
 rt:∀v H,D.rt v H->D'.rt v H
 bk:∀ρ H,D.bk ρ H->D'.bk ρ H
 ct:∀ρ H,D.ct ρ H->D'.ct ρ H
section
variable {X:Cx}{st:Stmt}{sts:Zu}{ρ:L2.St}{H H':Hp}{pos:Pos}{e:Expr}
theorem kL{K:Za}{n:DS->MH->Prop}{ρ':L2.St}{H2:Hp}(k:Kp H H')(h:si K H' n ρ' H2):si K H n ρ' H2:=⟨k.trans h.1,h.2⟩
theorem q0{K:Za}{D:EndsD}(k:Kp H H'):EImp (vJ K H' D) (vJ K H D):=⟨λ_ _=>kL k,λ_ _=>bK k,λ_ _=>kL k,λ_ _=>kL k⟩
theorem SP.imp{pins:Zc}{D D':Ends}{f:Flow}{s':Shared}(i:EImp D D')(h:SP X pins D f s'):SP X pins D' f s':=by
 cases f with
 |next=>obtain⟨a,b,c,d⟩:=h;exact⟨a,b,c,i.nx _ _ d⟩
 |brk=>obtain⟨a,b,c,d⟩:=h;exact⟨a,b,c,i.bk _ _ d⟩
 |cont=>obtain⟨a,b,c,d⟩:=h;exact⟨a,b,c,i.ct _ _ d⟩
 |ret u=>obtain⟨v,a,b,c,r,d⟩:=h;exact⟨v,a,b,c,r,i.rt _ _ d⟩
def tWSs(X:Cx)(sts:Zu):L2.TS:=λD ρ H=>∀pins s,Inv X pins ρ H s->wpAny 'c' X.A (execs sts X.env) (SP X pins D) X.xe s
theorem ps_W(st:Stmt):PS X st (tWS X st):=λpins s _ _ _ I h=>h pins s I
theorem nX(sts:Zu):PSs X sts (tWSs X sts):=λpins s _ _ _ I h=>h pins s I
theorem dm{t:L2.TS}{D:Ends}(h:PS X st t)(q:t D ρ H):tWS X st D ρ H:=λpins s I=>h pins s ρ H D I q
theorem yz{t:L2.TS}{D:Ends}(h:PSs X sts t)(q:t D ρ H):tWSs X sts D ρ H:=λpins s I=>h pins s ρ H D I q
theorem CB{D D':Ends}(h:tWS X st D ρ H)(i:EImp D D'):tWS X st D' ρ H:=λpins s I=>thn (h pins s I) λ_ _ q=>SP.imp i q
theorem dR{D D':Ends}(h:tWSs X sts D ρ H)(i:EImp D D'):tWSs X sts D' ρ H:=λpins s I=>thn (h pins s I) λ_ _ q=>SP.imp i q
def PSd(X:Cx)(st:Stmt)(t:WS):Prop:=∀σ M ρ H D,RS X.K H σ ρ->RM X.K M H->t D σ M->tWS X st (vJ X.K H D) ρ H
def PSsd(X:Cx)(sts:Zu)(t:WS):Prop:=∀σ M ρ H D,RS X.K H σ ρ->RM X.K M H->t D σ M->tWSs X sts (vJ X.K H D) ρ H
def sj:WS:=λD σ M=>D.nx σ M
def wSeq(t u:WS):WS:=λD σ M=>t { D with nx:=u D } σ M
theorem CC:PSsd X [] sj:=λσ M ρ H D rs rm q=>yz D2 ⟨Kp.refl H,σ,M,rs,rm,q⟩
theorem AU{t u:WS}(h:PSd X st t)(h':PSsd X sts u):PSsd X (st::sts) (wSeq t u):=by
 intro σ M ρ H D rs rm q;refine yz (B0 (ps_W st) (nX sts)) ?_;show tWS X st _ ρ H;refine CB (h σ M ρ H _ rs rm q) ⟨λρ' H' zz1=>?_,λ_ _ z=>z,λ_ _ z=>z,λ_ _ z=>z⟩;obtain⟨k,σ',M',rs',rm',q'⟩:=zz1;exact dR (h' σ' M' ρ' H' D rs' rm' q') (q0 k)
def wRet(t:WE):WS:=λD σ M=>t σ M D.rt
theorem EV{t:WE}(h:PEd X e t):PSd X (.Return (some e) pos) (wRet t):=λσ M ρ H D rs rm q=>dm (FS (pe_W e)) (h σ M ρ H _ rs rm q)
theorem CD:PSd X (.Pass pos) sj:=λσ M ρ H D rs rm q=>dm D4 ⟨Kp.refl H,σ,M,rs,rm,q⟩
theorem AV:PSd X (.Break pos) (λD σ M=>D.bk σ M):=λσ M ρ H D rs rm q=>dm Ca ⟨Kp.refl H,σ,M,rs,rm,q⟩
theorem AW:PSd X st (λ_ _ _=>False):=λ_ _ _ _ _ _ _ q=>Yh q
def dA:Expr->Bool
 |.ListComp _ _ _ _=>false
 |.SetComp _ _ _ _=>false
 |.DictComp _ _ _ _ _=>false
 |_=>true
theorem sk{t:Option Expr}{n:Nat}{env:Env}(h:dA e=true):swapsWith e t n env=pure false:=by
 cases e<;>first | rfl | (exact absurd (show false=true from h) YD)
def zv(t:WE):WS:=λD σ M=>t σ M λ_ M1=>D.nx σ M1
theorem CF{t:WE}(h:PEd X e t)(hc:dA e=true):PSd X (.Expr e pos) (zv t):=by
 intro σ M ρ H D rs rm q;refine dm (D7 (pe_W e) (sk hc)) ?_;show tW X e ρ H _;refine aG (h σ M ρ H _ rs rm q) λv H1 zz2=>?_
 obtain⟨k1,x,M1,r1,m1,q1⟩:=zz2;exact⟨k1,σ,M1,rs.mono k1,m1,q1⟩
def wSet(i:Nat)(t:WE):WS:=λD σ M=>t σ M λx M1=>D.nx (σ.set i (some x)) M1
def wIfS(c:WT)(t u:WS):WS:=λD σ M=>c σ M λb M1=>Bif b (t D σ M1) (u D σ M1)
theorem GD{c:Expr}{a b:Zu}{tc:WT}{t u:WS}(hc:PTd X c tc)(ha:PSsd X a t)(hb:PSsd X b u):PSd X (.If c a b pos) (wIfS tc t u):=by
 intro σ M ρ H D rs rm q;refine dm (HA (pt_W c) (nX a) (nX b)) ?_;show tWT X c ρ H _;refine fY (hc σ M ρ H _ rs rm q) λk H1 zz4=>?_
 obtain⟨k1,M1,m1,q1⟩:=zz4;cases k with
 |true=>exact dR (ha σ M1 ρ H1 D (rs.mono k1) m1 q1) (q0 k1)
 |false=>exact dR (hb σ M1 ρ H1 D (rs.mono k1) m1 q1) (q0 k1)
inductive Tgt where
 |nm (i:Nat) | tp (is:Zj)
def gsOf:List Nat->TGs
 |[]=>gNil
 |i::is=>DA (vE i) (gsOf is)
section
variable {prog:Zw}{w:World}{A:Around}{E:Zb}
theorem we{it l:Addr}{its:Zl}(ne:l≠it):∀(n i:Nat) (s:Shared) (Q:List Value->Shared->Prop),s.heap.IsListIter it l i->s.heap.IsList l its->i+n<=its.size ->
  (∀h',h'.IsListIter it l (i+n)->Heap.SameBut it s.heap h'->Q ((its.toList.drop i).take n) { s with heap:=h' })->wpAny (model prog w) A (draw (.ref it) n) Q E s
 |0,i,s,Q,hi,_,_,q=>by
  rw[draw];exact Yc (by simpa using q s.heap hi (Heap.SameBut.refl ..))
 |n+1,i,s,Q,hi,hl,le,q=>by
  have lt:i<its.size:=by omega
  rw[draw];refine Yb (wpAny_pyNext_list_item hi hl (x:=its[i]) (by simp[lt]) λh1 i1 s1=>?_);refine Yb (Yj (we ne n (i+1) _ _ i1 (hl.extBut s1.extBut ne) 'b' λh2 i2 s2=>Yc ?_));have e:its.toList.drop i=its[i]::its.toList.drop (i+1):=by simp[List.drop_eq_getElem_cons,lt]
  have r:=q h2 (by rw[show i+(n+1)=i+1+n by omega];exact i2) (s1.trans s2);rw[e,List.take_succ_cons] at r;exact r
theorem zw{s:Shared}{l:Addr}{its:Zl}{ts:List (Bool×(Value->Sem Unit))}{Q:Zo}(hh:A.handled=none)(hl:s.heap.IsList l its)(hn:ts.length=its.size)(hs:ts.findIdx? (·.1)=none)
  (h:∀h',Heap.ExtBut s.heap.objs.size s.heap h'->wpAny (model prog w) A (assignInOrder (ts.map (·.2)) its.toList) Q E { s with heap:=h' }):wpAny (model prog w) A (unpack (.ref l) ts) Q E s:=by
 have ne:l≠s.heap.objs.size:=by obtain⟨o,ho,_⟩:=hl;exact ZU (Ye ho)
 unfold unpack;rw[hn,hs];refine Yb (Yj ?_);unfold unpackItems;refine Yb ?_;unfold notIterableAtAll;refine Yb (wpAny_specialOf hl.typeIs slot_list_iter.lookup (Yc ?_));simp only[XB,if_false];refine Yb (Yj (wpAny_pyIter_list hl ?_));refine Yb (Yj (we ne its.size 0 _ _ ⟨_,Yg _ rfl,rfl,rfl⟩ (hl.push _) 'b' λh1 i1 s1=>?_));have e:List.take its.size (List.drop 0 its.toList)=its.toList:=by rw[List.drop_zero];exact List.take_of_length_le (by simp)
 rw[e,if_neg (by simp)];refine Yb (Yj (wpAny_pyNext_list_end hh i1 ((hl.push _).extBut s1.extBut ne) (by simp) λh2 e2=>?_));simp only[Option.isSome_none,XB,if_false];exact Yc (h h2 λb o hb z=>e2 b o hb (s1.extBut b o hb (Yd _ z)))
end
def gSeq(K:Za)(n:Nat)(t:TGs):TG:=λv σ H Q=>∃a xs,v=.ref a/\(SqT K H a xs\/SqL K H a xs)/\xs.length=n/\t xs σ H Q
theorem GE{X:Cx}{pos:Pos}{es:Zg}{k:Nat}{t:TGs}{n:Nat}(hc:X.calm=true)(h:PGs X es t)(hn:(assignEach es X.env).length=n)(hst:(assignEach es X.env).findIdx? (·.1)=none):PG X (.Tuple es k pos) (gSeq X.K n t):=by
 intro pins s σ H v u Q I r hw;obtain⟨a,xs,e1,hq | hq,hl,hw⟩:=hw
 ·exact FT hc h hn hst pins s σ H v u Q I r ⟨a,xs,e1,hq,hl,hw⟩
 ·subst e1
  cases r;obtain⟨its,rv,ht,hz⟩:=I.list hq;rw[PyProof.Rows.assign_Tuple];refine Yb (Yk (zw (I.ok.hd hc) ht.isList (by simp[hn,←hl,rv.length]) hst λh' hx=>?_));have I1:Inv X pins σ H { s with heap:=h' }:=I.kept (t':=s.toks) λb o e=>hx b o (ZU (Ye e)) e
  exact h pins _ σ H xs _ Q I1 (by simpa using rv) hw
def gOf(K:Za):Tgt->TG
 |.nm i=>vE i
 |.tp is=>gSeq K is.length (gsOf is)
def setM:List Nat->List D->DS->DS
 |i::is,d::ds,σ=>setM is ds (σ.set i (some d))
 |_,_,σ=>σ
def sm:Tgt->D->DS->(DS->Prop)->Prop
 |.nm i,d,σ,Q=>Q (σ.set i (some d))
 |.tp is,.tup ds,σ,Q=>ds.length=is.length/\Q (setM is ds σ)
 |.tp _,_,_,_=>False
theorem uc{K:Za}:∀(is:Zj) (ds:List D) (vs:List V) (σ:DS) (ρ:L2.St) (H:Hp) (Q:L2.St->Hp->Prop),RVs K H ds vs->RS K H σ ρ->ds.length=is.length ->
  (∀ρ',RS K H (setM is ds σ) ρ'->Q ρ' H)->gsOf is vs ρ H Q
 |[],[],vs,σ,ρ,H,Q,r,rs,_,q=>by rw[RVs] at r;subst r;exact⟨rfl,q ρ rs⟩
 |i::is,d::ds,vs,σ,ρ,H,Q,r,rs,l,q=>by
  rw[RVs] at r;obtain⟨v,vs',rfl,rv,rr⟩:=r;exact⟨v,vs',rfl,uc is ds vs' (σ.set i (some d)) (ρ.set i (some v)) H Q rr (rs.set i rv) (by simpa using l) q⟩
theorem wf{K:Za}{t:Tgt}{d:D}{v:V}{σ:DS}{ρ:L2.St}{H:Hp}{Q:L2.St->Hp->Prop}{Q':DS->Prop}(r:RV K H d v)(rs:RS K H σ ρ)(h:sm t d σ Q')(f:∀ρ' σ',RS K H σ' ρ'->Q' σ'->Q ρ' H):gOf K t v ρ H Q:=by
 cases t with
 |nm i=>exact f _ _ (rs.set i r) h
 |tp is=>
  cases d with
  |tup ds=>
   obtain⟨a,xs,rfl,s,rr⟩:=RV.tup_.1 r;exact⟨a,xs,rfl,.inl s,by rw[←rr.len];exact h.1,uc is ds xs σ ρ H Q rr rs h.1 λρ' rs'=>f ρ' _ rs' h.2⟩
  |_=>exact Yh h
def PGd(X:Cx)(tg:Expr)(t:Tgt):Prop:=PG X tg (gOf X.K t)
theorem RM.list{K:Za}{H:Hp}{M:MH}{a:Addr}{ds:List D}(m:RM K M H)(h:rdL (M a)=some ds):∃vs,SqL K H a vs/\RVs K H ds vs:=by
 cases e:M a with
 |none=>rw[e] at h;cases h
 |some o=>
  rw[e] at h;cases o with
  |lst xs=>cases h;obtain⟨vs,q,r⟩:=m a _ e;exact⟨vs,SqL.of q,r⟩
  |rol xs=>cases h;obtain⟨vs,q,r⟩:=m a _ e;exact⟨vs,.inl q,r⟩
  |_=>cases h
def zx(t:Tgt)(d:D)(M:MH)(σ:DS)(Q:DS->Prop):Prop:=match d with
 |.ref a=>match t with
  |.nm i=>Q (σ.set i (some (.ref a)))
  |.tp is=>match rdL (M a) with
   |some ds=>ds.length=is.length/\Q (setM is ds σ)
   |none=>False
 |d=>sm t d σ Q
theorem EW{K:Za}{t:Tgt}{d:D}{v:V}{M:MH}{σ:DS}{ρ:L2.St}{H:Hp}{Q:L2.St->Hp->Prop}{Q':DS->Prop}(r:RV K H d v)(rs:RS K H σ ρ)(m:RM K M H)(h:zx t d M σ Q')(f:∀ρ' σ',RS K H σ' ρ'->Q' σ'->Q ρ' H):gOf K t v ρ H Q:=by
 cases d with
 |ref a=>
  cases t with
  |nm i=>exact f _ _ (rs.set i r) h
  |tp is=>
   have h:match rdL (M a) with | some ds=>ds.length=is.length/\Q' (setM is ds σ) | none=>False:=h
   split at h
   ·rename_i ds e
    obtain⟨vs,sq,rr⟩:=m.list e;cases RV.ref_.1 r;exact⟨a,vs,rfl,.inr sq,by rw[←rr.len];exact h.1,uc is ds vs σ ρ H Q rr rs h.1 λρ' rs'=>f ρ' _ rs' h.2⟩
   ·exact Yh h
 |_=>exact wf r rs h f
def wAsg(t:WE)(g:Tgt):WS:=λD σ M=>t σ M λx M1=>zx g x M1 σ λσ'=>D.nx σ' M1
theorem EX{tg:Expr}{t:WE}{g:Tgt}(h:PEd X e t)(hg:PGd X tg g)(hs:swapsWithSole [tg] e pos.line X.env=pure false)(hw:swappedStores [tg] e X.env=pure none)(h1:(assignEach [tg] X.env).map (·.2)=[assign tg X.env]):PSd X (.Assign [tg] e pos) (wAsg t g):=by
 intro σ M ρ H D rs rm q;refine dm (An (pe_W e) hg hs hw h1) ?_;show tW X e ρ H _;refine aG (h σ M ρ H _ rs rm q) λv H1 zz5=>?_
 obtain⟨k1,x,M1,r1,m1,q1⟩:=zz5;exact EW r1 (rs.mono k1) m1 q1 λρ' σ' rs' q'=>⟨k1,σ',M1,rs',m1,q'⟩
abbrev WI:=DS->MH->(List D->(MH->Prop)->MH->Prop)->Prop
def JOk(K:Za)(J:It)(H0:Hp)(xs:List D)(g:MH->Prop):Prop:=∀i H M,Kp H0 H->RM K M H->g M->(i<xs.length->J.go i H)/\(i=xs.length->J.stop i H)/\∀x H' d,xs[i]?=some d->J.yld i H x H'->Kp H H'/\RM K M H'/\RV K H' d x
def iW(X:Cx)(tg iter:Expr):TI:=λρ H R=>∀pins s,Inv X pins ρ H s->wpAny 'c' X.A (eval iter X.env) (λv s1=>wpAny 'c' X.A (pyIter v) (PIE X pins ρ tg R) X.xe s1) X.xe s
theorem pi_W(tg iter:Expr):PI X tg iter (iW X tg iter):=λpins s _ _ _ I h=>h pins s I
theorem DJ{tg iter:Expr}{t:TI}{R:It->Hp->Prop}(h:PI X tg iter t)(q:t ρ H R):iW X tg iter ρ H R:=λpins s I=>h pins s ρ H R I q
theorem ud{tg iter:Expr}{R R':It->Hp->Prop}(h:iW X tg iter ρ H R)(f:∀J H',R J H'->R' J H'):iW X tg iter ρ H R':=λpins s I=>thn (h pins s I) λ_ _ q=>thn q λ_ _ ⟨it,fp,tn,J,H',e,I',T,st,fk,r⟩=>⟨it,fp,tn,J,H',e,I',T,st,fk,f J H' r⟩
def IEnd(K:Za)(H:Hp)(R:List D->(MH->Prop)->MH->Prop):It->Hp->Prop:=λJ H'=>Kp H H'/\∃xs g M',RM K M' H'/\g M'/\JOk K J H' xs g/\xs.length<=sizeLine/\R xs g M'
def PId(X:Cx)(tg iter:Expr)(t:WI):Prop:=∀σ M ρ H R,RS X.K H σ ρ->RM X.K M H->t σ M R->iW X tg iter ρ H (IEnd X.K H R)
def kD:Key->D
 |.inl i=>.int i
 |.inr x=>.str x
def keysOf(kvs:ZB):List D:=kvs.map λkv=>kD kv.1
theorem DL{K:Za}{H:Hp}(k:Key):RV K H (kD k) (kV k):=by
 cases k with
 |inl i=>exact RV.int_.2 rfl
 |inr x=>exact RV.str_.2 rfl
theorem wg{K:Za}{a:Addr}{u:Obj}{kvs:ZB}{kws:List (Key×V)}{H0:Hp}(e:H0 a=some (.frz u (.dK kws)))(hk:kws.map (·.1)=kvs.map (·.1))(g:MH->Prop):JOk K (Itd a u kws) H0 (keysOf kvs) g:=by
 intro i H M k rm _;have hl:kws.length=kvs.length:=by have:=congrArg List.length hk;simpa using this
 have e':=k.2 a _ _ e;have hn:(keysOf kvs).length=kvs.length:=by unfold keysOf;rw[ZE]
 rw[hn];refine⟨λhi=>⟨e',by omega⟩,λhi=>⟨e',by omega⟩,λx H' d hd zz6=>?_⟩;obtain⟨e1,kv,h1,h2⟩:=zz6;subst e1 h2;unfold keysOf at hd;rw[ZF] at hd;have h3:(kvs[i]?).map (·.1)=some kv.1:=by
  have:=congrArg (λl=>l[i]?) hk
  simp only[ZF,h1] at this;rw[←this];rfl
 cases q:kvs[i]? with
 |none=>rw[q] at h3;cases h3
 |some p=>
  rw[q] at h3 hd;cases hd;have h3:p.1=kv.1:=by simpa using h3
  refine⟨Kp.refl _,rm,?_⟩;show RV K _ (kD p.1) _;rw[h3];exact DL _
def seqD(x:D)(M:MH)(R:List D->(MH->Prop)->MH->Prop):Prop:=match x with
 |.tup ds=>R ds (λ_=>True) M
 |.ref a=>match M a with
  |some (.lst ds)=>R ds (λM'=>M' a=some (.lst ds)) M
  |some (.rol ds)=>R ds (λM'=>M' a=some (.rol ds)) M
  |some (.dic kvs)=>R (keysOf kvs) (λM'=>M' a=some (.rod kvs)) (updM M a (.rod kvs))
  |some (.rod kvs)=>R (keysOf kvs) (λM'=>M' a=some (.rod kvs)) M
  |_=>False
 |.str z=>z.cps.size<=sizeLine/\R (z.cps.toList.map λc=>.str ⟨#[c]⟩) (λ_=>True) M
 |_=>False
theorem wj{K:Za}{a:Addr}{ds:List D}{H0:Hp}{g:MH->Prop}(hg:∀H M,RM K M H->g M->∃vs,SqL K H a vs/\RVs K H ds vs):JOk K (Itl K a) H0 ds g:=by
 intro i H M _ rm q;obtain⟨vs,sq,rr⟩:=hg H M rm q;refine⟨λhi=>?_,λhi=>⟨vs,sq,by rw[←rr.len];exact Nat.le_of_eq hi.symm⟩,λx H' d hd ⟨e,y⟩=>?_⟩
 ·have:i<vs.length:=by rw[←rr.len];exact hi
  exact⟨vs,vs[i],sq,ZC this⟩
 ·subst e
  obtain⟨v,hv,r⟩:=cO rr.p hd
  have:=y vs sq
  rw[hv] at this;cases this;exact⟨Kp.refl _,rm,r⟩
theorem EY{K:Za}{a:Addr}{ds:List D}{vs:List V}{H0:Hp}(sq:SqT K H0 a vs)(rr:RVs K H0 ds vs):JOk K (Itt K a) H0 ds (λ_=>True):=by
 intro i H M k rm _;have sq:=k.sq sq;have rr:=RVs.mono k _ rr;refine⟨λhi=>?_,λhi=>⟨vs,sq,by rw[←rr.len];exact Nat.le_of_eq hi.symm⟩,λx H' d hd ⟨e,y⟩=>?_⟩
 ·have:i<vs.length:=by rw[←rr.len];exact hi
  exact⟨vs,vs[i],sq,ZC this⟩
 ·subst e
  obtain⟨v,hv,r⟩:=cO rr.p hd
  have:=y vs sq
  rw[hv] at this;cases this;exact⟨Kp.refl _,rm,r⟩
theorem EZ{K:Za}{z:Str}{H0:Hp}:JOk K (Its z) H0 (z.cps.toList.map λc=>.str ⟨#[c]⟩) (λ_=>True):=by
 intro i H M k rm _;rw[ZE];refine⟨λhi=>?_,λhi=>?_,λx H' d hd ⟨e,c,hc,y⟩=>?_⟩
 ·show i<z.cps.size
  simpa using hi
 ·show i=z.cps.size
  simpa using hi
 ·subst e y
  rw[ZF] at hd;have:z.cps.toList[i]?=some c:=by simpa using hc
  rw[this] at hd;cases hd;exact⟨Kp.refl _,rm,RV.str_.2 rfl⟩
def zy(t:WE):WI:=λσ M R=>t σ M λx M1=>seqD x M1 R
theorem yA{pins:Zc}{s:Shared}{tg:Expr}{a:Addr}{xs:List V}{R:It->Hp->Prop}(I:Inv X pins ρ H s)(hq:SqL X.K H a xs)(q:R (Itl X.K a) H):wpAny 'c' X.A (pyIter (.ref a)) (PIE X pins ρ tg R) X.xe s:=by
 obtain⟨its,rv,p,hz⟩:=I.list hq;refine wpAny_pyIter_list p.isList ?_;refine⟨s.heap.objs.size,[s.heap.objs.size],_,_,H,rfl,I.kept (t':=s.toks) λb o e=>Yd _ e,Ao a _,⟨_,Yg _ rfl,rfl,rfl⟩,λb hb=>?_,q⟩;have e:b=s.heap.objs.size:=by simpa using hb
 subst e;exact I.fpOk (YE _) (I.hok.fresh (YE _))
theorem GF{pins:Zc}{s:Shared}{tg:Expr}{a:Addr}{xs:List V}{R:It->Hp->Prop}(I:Inv X pins ρ H s)(hq:SqT X.K H a xs)(q:R (Itt X.K a) H):wpAny 'c' X.A (pyIter (.ref a)) (PIE X pins ρ tg R) X.xe s:=by
 obtain⟨its,rv,p,hz⟩:=I.tuple hq;refine wpAny_pyIter_tuple (show s.heap.IsTuple a its.toArray from p) ?_;refine⟨s.heap.objs.size,[s.heap.objs.size],_,_,H,rfl,I.kept (t':=s.toks) λb o e=>Yd _ e,y9 a _,⟨_,Yg _ rfl,rfl,rfl⟩,λb hb=>?_,q⟩;have e:b=s.heap.objs.size:=by simpa using hb
 subst e;exact I.fpOk (YE _) (I.hok.fresh (YE _))
theorem GG{pins:Zc}{s:Shared}{tg:Expr}{z:Str}{t:Tok}{R:It->Hp->Prop}(I:Inv X pins ρ H s)(q:R (Its z) H):wpAny 'c' X.A (pyIter (.str z t)) (PIE X pins ρ tg R) X.xe s:=by
 have fp:∀b∈[s.heap.objs.size],FpOk X pins H b:=λb hb=>by
  have e:b=s.heap.objs.size:=by simpa using hb
  subst e;exact I.fpOk (YE _) (I.hok.fresh (YE _))
 cases ha:z.cps.all (· < 128)
 ·refine wpAny_pyIter_wide ha ?_
  exact⟨s.heap.objs.size,[s.heap.objs.size],_,_,H,rfl,I.kept (t':=s.toks) λb o e=>Yd _ e,AI _ z t,⟨_,Yg _ rfl,rfl,rfl⟩,fp,q⟩
 ·refine wpAny_pyIter_ascii ha ?_
  exact⟨s.heap.objs.size,[s.heap.objs.size],_,_,H,rfl,I.kept (t':=s.toks) λb o e=>Yd _ e,AH _ z t,⟨_,Yg _ rfl,rfl,rfl⟩,fp,q⟩
theorem E1{l tg:Expr}{t:WE}(h:PEd X l t):PId X tg l (zy t):=by
 intro σ M ρ H R rs rm q pins s I;refine thn (h σ M ρ H _ rs rm q pins s I) λu s1 zz7=>?_
 obtain⟨v,H1,I1,r1,⟨k1,d,M1,rd,m1,q1⟩⟩:=zz7;cases d with
 |tup ds=>
  obtain⟨a,xs,rfl,sq,rr⟩:=RV.tup_.1 rd;cases r1;obtain⟨_,_,_,hz⟩:=I1.tuple sq;exact GF I1 sq ⟨k1,ds,_,M1,m1,trivial,EY sq rr,by rw[rr.len];exact hz,q1⟩
 |ref a=>
  cases RV.ref_.1 rd;cases r1;have q1:match M1 a with
   |some (.lst ds)=>R ds (λM'=>M' a=some (.lst ds)) M1
   |some (.rol ds)=>R ds (λM'=>M' a=some (.rol ds)) M1
   |some (.dic kvs)=>R (keysOf kvs) (λM'=>M' a=some (.rod kvs)) (updM M1 a (.rod kvs))
   |some (.rod kvs)=>R (keysOf kvs) (λM'=>M' a=some (.rod kvs)) M1
   |_=>False:=q1
  split at q1
  ·rename_i ds e
   obtain⟨xs,e1,rr⟩:=m1 a _ e;obtain⟨_,_,_,hz⟩:=I1.list (SqL.of e1);refine yA I1 (SqL.of e1) ⟨k1,ds,_,M1,m1,e,wj λH' M' rm' g'=>?_,by rw[rr.len];exact hz,q1⟩;obtain⟨xs',e',rr'⟩:=rm' a _ g';exact⟨xs',SqL.of e',rr'⟩
  ·rename_i ds e
   obtain⟨xs,e1,rr⟩:=m1 a _ e;have e1:SqL X.K H1 a xs:=.inl e1;obtain⟨_,_,_,hz⟩:=I1.list e1;refine yA I1 e1 ⟨k1,ds,_,M1,m1,e,wj λH' M' rm' g'=>?_,by rw[rr.len];exact hz,q1⟩;obtain⟨xs',e',rr'⟩:=rm' a _ g';exact⟨xs',.inl e',rr'⟩
  ·rename_i kvs e
   obtain⟨kws,e1,ek,rr⟩:=m1 a _ e;obtain⟨u,I2⟩:=freeze I1 e1;have k2:=Kp.put (o':=.frz u (.dK kws)) e1 trivial;have m2:=m1.put (m:=.rod kvs) e1 trivial (o':=.frz u (.dK kws)) ⟨u,kws,az,ek,RVs.mono k2 _ rr⟩;refine yy I2 az ⟨k1.trans k2,keysOf kvs,_,_,m2,aa,wg az ek _,?_,q1⟩;obtain⟨_,hz,_⟩:=mV I2 az;have hl:kws.length=kvs.length:=by have:=congrArg List.length ek;simpa using this
   unfold keysOf;rw[ZE];omega
  ·rename_i kvs e
   obtain⟨u,kws,e1,ek,rr⟩:=m1 a _ e;refine yy I1 e1 ⟨k1,keysOf kvs,_,M1,m1,e,wg e1 ek _,?_,q1⟩;obtain⟨_,hz,_⟩:=mV I1 e1;have hl:kws.length=kvs.length:=by have:=congrArg List.length ek;simpa using this
   unfold keysOf;rw[ZE];omega
  ·exact Yh q1
 |str z=>
  cases RV.str_.1 rd;obtain⟨t,rfl⟩:=r1;exact GG I1 ⟨k1,_,_,M1,m1,trivial,EZ,by rw[ZE];simpa using q1.1,q1.2⟩
 |_=>exact Yh q1
def a8(a b:Int):List D:=(List.range (b-a).toNat).map λ(i:Nat)=>.int (a+(i:Int))
theorem u3{K:Za}{a b:Int}{H0:Hp}:JOk K (Itr a (b-a).toNat) H0 (a8 a b) (λ_=>True):=by
 intro i H M k rm _;have hl:(a8 a b).length=(b-a).toNat:=by unfold a8;rw[ZE,ZI]
 rw[hl];refine⟨λhi=>hi,λhi=>Nat.le_of_eq hi.symm,λx H' d hd zz8=>?_⟩;obtain⟨e,y⟩:=zz8;subst e y;have hi:i<(b-a).toNat:=by have:=(YC.mp hd).1;rw[hl] at this;exact this
 unfold a8 at hd;rw[ZF,List.getElem?_range hi] at hd;cases hd;exact⟨Kp.refl _,rm,RV.int_.2 rfl⟩
def zz(t:WA):WI:=λσ M R=>t σ M λds M1=>match ds with
 |[.int j]=>(-1000000<=j/\j<=1000000)/\R (a8 0 j) (λ_=>True) M1
 |_=>False
def zA(t:WA):WI:=λσ M R=>t σ M λds M1=>match ds with
 |[.int i,.int j]=>(-1000000<=i/\i<=1000000/\-1000000<=j/\j<=1000000)/\R (a8 i j) (λ_=>True) M1
 |_=>False
theorem u4{a b:Int}(h1:-1000000<=a)(h2:b<=1000000):(a8 a b).length<=sizeLine:=by
 unfold a8;rw[ZE,ZI,sizeLine_eq];omega
theorem zB{a tg:Expr}{t:WA}{p:Pos}(hg:Gl X "range")(hm:X.mg "range" = none)(ha:PAd X [a] t)(hs:ar a=true):PId X tg (.Call (.Name "range" p) [a] [] pos) (zz t):=by
 intro σ M ρ H R rs rm q;refine DJ (Ap hg hm (pa_W [a]) (by rw[aP hs];rfl)) ?_;show tWA X [a] ρ H _;refine cB (ha σ M ρ H _ rs rm q) λvs H1 zz9=>?_
 obtain⟨k1,ds,M1,r1,l1,m1,q1⟩:=zz9;try dsimp only at q1
 split at q1
 ·rename_i j
  have r1:=r1.p;cases r1 with
  |cons r rr=>
   cases rr;cases RV.int_.1 r;refine⟨j,rfl,by omega,by omega,k1,_,_,M1,m1,trivial,?_,u4 'b' q1.1.2,q1.2⟩
   have:=@u3 X.K 0 j H1
   rw[Int.sub_zero] at this;exact this
 ·exact Yh q1
theorem zC{a b tg:Expr}{t:WA}{p:Pos}(hg:Gl X "range")(hm:X.mg "range" = none)(ha:PAd X [a,b] t)(hs:ar a=true)(hs':ar b=true):PId X tg (.Call (.Name "range" p) [a,b] [] pos) (zA t):=by
 intro σ M ρ H R rs rm q;refine DJ (Aq hg hm (pa_W [a,b]) (by rw[aP hs,aP hs'];rfl) (by rw[aP hs'];rfl)) ?_;show tWA X [a,b] ρ H _;refine cB (ha σ M ρ H _ rs rm q) λvs H1 zz10=>?_
 obtain⟨k1,ds,M1,r1,l1,m1,q1⟩:=zz10;try dsimp only at q1
 split at q1
 ·rename_i i j
  have r1:=r1.p;cases r1 with
  |cons r rr=>
   cases rr with
   |cons r' rr=>
    cases rr;cases RV.int_.1 r;cases RV.int_.1 r';exact⟨i,j,rfl,⟨by omega,by omega,by omega,by omega⟩,k1,_,_,M1,m1,trivial,u3,u4 q1.1.1 q1.1.2.2.2,q1.2⟩
 ·exact Yh q1
def kM:Expr->Bool
 |.Set _ _ _=>false
 |_=>true
theorem zD{env:Env}(h:kM e=true):∀x,foldedSetIterable e env x=pure x:=by
 intro x;cases e<;>first | rfl | (exact absurd (show false=true from h) YD)
def aq(g:MH->Prop)(t:Tgt)(tb:WS)(E:EndsD):List D->DS->MH->Prop
 |[],σ,M=>E.nx σ M
 |x::xs,σ,M=>sm t x σ λσ'=>tb { E with nx:=λσ2 M2=>g M2/\aq g t tb E xs σ2 M2,ct:=λσ2 M2=>g M2/\aq g t tb E xs σ2 M2,bk:=E.nx } σ' M
def wFor(t:WI)(g:Tgt)(tb:WS):WS:=λE σ M=>t σ M λxs gd M1=>aq gd g tb E xs σ M1
theorem E2{tg iter:Expr}{body:Zu}{t:WI}{g:Tgt}{tb:WS}(hp:PassesOwn 'c' X.A X.env X.xe)(hc:X.calm=true)(hi:PId X tg iter t)(hg:PGd X tg g)(hb:PSsd X body tb)(hs:kM iter=true):
  PSd X (.For tg iter body [] pos) (wFor t g tb):=by
 intro σ M ρ H E rs rm q;refine dm (FX hp hc (pi_W tg iter) hg (nX body) (zD hs)) ?_;show iW X tg iter ρ H _;refine ud (hi σ M ρ H _ rs rm q) λJ H1 zz11=>?_
 obtain⟨k1,xs,gd,M1,m1,g1,jok,hz,q1⟩:=zz11;refine⟨λi m ρ' H'=>m=xs.length-i/\i<=xs.length/\Kp H1 H'/\∃σ' M',RS X.K H' σ' ρ'/\RM X.K M' H'/\gd M'/\aq gd g tb E (xs.drop i) σ' M',⟨xs.length,by simp,YL _,Kp.refl _,σ,M1,rs.mono k1,m1,g1,q1⟩,?_⟩;rintro i m ρ' H' ⟨rfl,hi',k',σ',M',rs',rm',g',l'⟩;obtain⟨j1,j2,j3⟩:=jok i H' M' k' rm' g';by_cases hlt:i<xs.length
 ·rw[List.drop_eq_getElem_cons hlt] at l'
  refine .inr ⟨j1 hlt,λρ2 H2=>Kp H1 H2/\∃σ2 M2,RS X.K H2 σ2 ρ2/\RM X.K M2 H2/\gd M2/\aq gd g tb E (xs.drop (i+1)) σ2 M2,λρ2 H2 ⟨k2,r⟩=>⟨xs.length-(i+1),by omega,rfl,hlt,k2,r⟩,λx H2 y=>?_⟩;obtain⟨k2,m2,r2⟩:=j3 x H2 xs[i] (ZC hlt) y;refine wf r2 (rs'.mono k2) l' λρ3 σ3 rs3 q3=>?_
  refine dR (hb σ3 M' ρ3 H2 _ rs3 m2 q3) ⟨λρ4 H4 zz12=>?_,λ_ _=>bK ((k1.trans k').trans k2),λ_ _=>kL ((k1.trans k').trans k2),λρ4 H4 ⟨k4,σ4,M4,a,b,c⟩=>⟨k'.trans (k2.trans k4),σ4,M4,a,b,c.1,c.2⟩⟩;obtain⟨k4,σ4,M4,a,b,c⟩:=zz12;exact⟨k'.trans (k2.trans k4),σ4,M4,a,b,c.1,c.2⟩
 ·have e:i=xs.length:=by omega
  subst e;rw[List.drop_length] at l';exact .inl ⟨j2 rfl,k1.trans k',σ',M',rs',rm',l'⟩
def ax(g:MH->Prop)(t:Tgt)(c:WT)(e:WE)(F:List D->MH->Prop):List D->List D->DS->MH->Prop
 |[],acc,_,M=>F acc M
 |x::xs,acc,σ,M=>sm t x σ λσ'=>c σ' M λb M1=>Bif b (e σ' M1 λy M2=>g M2/\ax g t c e F xs (acc++[y]) σ' M2) (g M1/\ax g t c e F xs acc σ' M1)
def zE(n:Nat)(t:WI)(g:Tgt)(c:WT)(e:WE):WE:=λσ M Q=>t σ M λxs gd M1=>ax gd g c e (λds M'=>∀p,M' p=none->Q (.ref p) (updM M' p (.lst ds))) xs [] (σ++List.replicate n none) M1
def PTsd(X:Cx)(ifs:Zg)(t:WT):Prop:=(ifs=[]/\t=λ_ M Q=>Q true M) \/ ∃c,ifs=[c]/\PTd X c t
theorem wk{K:Za}{J:It}{H1:Hp}{xs:List D}{gd:MH->Prop}{g:Tgt}{c:WT}{e:WE}{tc:TT}{te:TE}{F:List D->MH->Prop}{Fin:List V->Hp->Prop}{σ:DS}{M1:MH}{ρ:L2.St}
  (jok:JOk K J H1 xs gd) (hz:xs.length<=sizeLine) (rs:RS K H1 σ ρ) (m1:RM K M1 H1) (g1:gd M1)
  (hc:∀σ M ρ H Q (Q':Bool->Hp->Prop),RS K H σ ρ->RM K M H->c σ M Q->(∀b H',Kp H H'->∀M',RM K M' H'->Q b M'->Q' b H')->tc ρ H Q')
  (he:∀σ M ρ H Q (Q':VK),RS K H σ ρ->RM K M H->e σ M Q->(∀v H',Kp H H'->∀d M',RV K H' d v->RM K M' H'->Q d M'->Q' v H')->te ρ H Q')
  (hF:∀ds vs H' M',Kp H1 H'->RM K M' H'->RVs K H' ds vs->F ds M'->Fin vs H') (q:ax gd g c e F xs [] σ M1):vG J (gOf K g) tc te Fin ρ H1:=by
 refine⟨λi m ys ρ' H'=>m=xs.length-i/\i<=xs.length/\Kp H1 H'/\∃σ' M' ds,RS K H' σ' ρ'/\RM K M' H'/\gd M'/\RVs K H' ds ys/\ds.length<=i/\ax gd g c e F (xs.drop i) ds σ' M',⟨xs.length,by simp,YL _,Kp.refl _,σ,M1,[],rs,m1,g1,RVs.nil,YE _,q⟩,?_⟩;rintro i m ys ρ' H' ⟨rfl,hi',k',σ',M',ds,rs',rm',g',rd,hd,l'⟩;obtain⟨j1,j2,j3⟩:=jok i H' M' k' rm' g';by_cases hlt:i<xs.length
 ·rw[List.drop_eq_getElem_cons hlt] at l'
  refine .inr ⟨j1 hlt,by rw[←rd.len];omega,λzs ρ2 H2=>Kp H1 H2/\∃σ2 M2 ds2,RS K H2 σ2 ρ2/\RM K M2 H2/\gd M2/\RVs K H2 ds2 zs/\ds2.length<=i+1/\ax gd g c e F (xs.drop (i+1)) ds2 σ2 M2,λzs ρ2 H2 ⟨k2,r⟩=>⟨xs.length-(i+1),by omega,rfl,hlt,k2,r⟩,λx H2 y=>?_⟩;obtain⟨k2,m2,r2⟩:=j3 x H2 xs[i] (ZC hlt) y;refine wf r2 (rs'.mono k2) l' λρ3 σ3 rs3 q3=>?_
  refine hc σ3 M' ρ3 H2 _ _ rs3 m2 q3 λb H4 k4 M4 m4 q4=>?_
  cases b with
  |true=>
   refine he σ3 M4 ρ3 H4 _ _ (rs3.mono k4) m4 q4 λv H5 k5 d M5 rv m5 q5=>?_
   have kk:=k2.trans (k4.trans k5);exact⟨k'.trans kk,σ3,M5,ds++[d],rs3.mono (k4.trans k5),m5,q5.1,RVs.of (bq (RVs.mono kk _ rd).p (.cons rv .nil)),by simp;omega,q5.2⟩
  |false=>exact⟨k'.trans (k2.trans k4),σ3,M4,ds,rs3.mono k4,m4,q4.1,RVs.mono (k2.trans k4) _ rd,by omega,q4.2⟩
 ·have e:i=xs.length:=by omega
  subst e;rw[List.drop_length] at l';exact .inl ⟨j2 rfl,hF ds ys H' M' k' rm' rd l'⟩
section
variable {elt tg iter:Expr}{ifs:Zg}{scope osc:Scope}{own N2:Zf}
def bT(X:Cx)(scope:Scope)(own N2:Zf)(ifs:Zg):TT:=λρ H Q=>∀C s H0 ex pn pins s',Inv (cxC X scope own N2 C s H0 ex pn) pins ρ H s' ->
 wpAny 'c' X.A (forIn ifs true λc r=>if r=true then do let ok ←isTrue c (cxC X scope own N2 C s H0 ex pn).env (eval c (cxC X scope own N2 C s H0 ex pn).env);pure (ForInStep.yield ok) else pure (ForInStep.yield r)) (TP (cxC X scope own N2 C s H0 ex pn) pins ρ Q) (cxC X scope own N2 C s H0 ex pn).xe s'
def bE(X:Cx)(scope:Scope)(own N2:Zf)(e:Expr):TE:=λρ H Q=>∀C s H0 ex pn,tW (cxC X scope own N2 C s H0 ex pn) e ρ H Q
theorem qM{c:WT}{te:WE}(hc:∀C s H0 ex pn,PTsd (cxC X scope own N2 C s H0 ex pn) ifs c)(he:∀C s H0 ex pn,PEd (cxC X scope own N2 C s H0 ex pn) elt te):
  (∀σ M ρ H Q (Q':Bool->Hp->Prop),RS X.K H σ ρ->RM X.K M H->c σ M Q->(∀b H',Kp H H'->∀M',RM X.K M' H'->Q b M'->Q' b H')->bT X scope own N2 ifs ρ H Q') /\
  (∀σ M ρ H Q (Q':VK),RS X.K H σ ρ->RM X.K M H->te σ M Q->(∀v H',Kp H H'->∀d M',RV X.K H' d v->RM X.K M' H'->Q d M'->Q' v H')->bE X scope own N2 elt ρ H Q'):=by
 refine⟨λσ M ρ H Q Q' rs rm q f C s H0 ex pn pins s' I=>?_,λσ M ρ H Q Q' rs rm q f C s H0 ex pn=>?_⟩
 ·rcases hc C s H0 ex pn with⟨e1,e2⟩ | ⟨c',e1,h⟩
  ·subst e1 e2
   exact Ex (X:=cxC X scope own N2 C s H0 ex pn) pins s' ρ H _ I (f true H (Kp.refl H) M rm q)
  ·subst e1
   refine Ey (X:=cxC X scope own N2 C s H0 ex pn) (pt_W c') pins s' ρ H _ I ?_;refine fY (h σ M ρ H Q rs rm q) λb H' zz13=>?_
   obtain⟨k,M',m',q'⟩:=zz13;exact f b H' k M' m' q'
 ·refine aG (he C s H0 ex pn σ M ρ H Q rs rm q) λv H' zz14=>?_
  obtain⟨k,d,M',r,m',q'⟩:=zz14;exact f v H' k d M' r m' q'
theorem CG{t:WI}{g:Tgt}{c:WT}{te:WE}(cs:CompScope osc scope X.N own N2)(ho:X.env.scope=osc)(hcalm:X.calm=true)(hi:PId X tg iter t)(hg:∀C s H0 ex pn,PG (cxC X scope own N2 C s H0 ex pn) tg (gOf X.K g))
  (hc:∀C s H0 ex pn,PTsd (cxC X scope own N2 C s H0 ex pn) ifs c) (he:∀C s H0 ex pn,PEd (cxC X scope own N2 C s H0 ex pn) elt te) (hs:kM iter=true):PEd X (.ListComp elt [⟨tg,iter,ifs,0⟩] scope pos) (zE own.length t g c te):=by
 intro σ M ρ H Q rs rm q;obtain⟨b1,b2⟩:=qM hc he;refine bv (Ez (te:=bE X scope own N2 elt) (tc:=bT X scope own N2 ifs) cs hcalm (pi_W tg iter) hg (λC s H0 ex pn pins s' σ' H' Q' I h=>h C s H0 ex pn pins s' I) (λC s H0 ex pn pins s' σ' H' Q' I h=>h C s H0 ex pn pins s' I) ho rfl (zD hs)) ?_;show iW X tg iter ρ H _;refine ud (hi σ M ρ H _ rs rm q) λJ H1 zz15=>?_
 obtain⟨k1,xs,gd,M1,m1,g1,jok,hz,q1⟩:=zz15;refine wk jok hz ((rs.mono k1).more own.length) m1 g1 b1 b2 ?_ q1;intro ds vs H' M' k' m' rr f p hp;have k2:Kp H' (upd H' p (.lst vs)):=Kp.new hp;exact⟨(k1.trans k').trans k2,.ref p,_,RV.ref_.2 rfl,m'.new (m:=.lst ds) hp ⟨vs,az,RVs.mono k2 _ rr⟩,f p (m'.fresh hp)⟩
def zF(i n:Nat)(t:WI)(g:Tgt)(c:WT)(e:WE):WS:=λE σ M=>t σ M λxs gd M1=>ax gd g c e (λds M'=>∀p,M' p=none->E.nx (σ.set i (some (.ref p))) (updM M' p (.lst ds))) xs [] (σ++List.replicate n none) M1
theorem CH{t:WI}{g:Tgt}{c:WT}{te:WE}{i:Nat}{y:Str}{py spos:Pos}(cs:CompScope osc scope X.N own N2)(ho:X.env.scope=osc)(hcalm:X.calm=true)(hnd:X.N.Nodup)(hy:X.N[i]?=some y)(hl:X.env.scope.names.lookup y=some .local)(hi:PId X tg iter t)
  (hg:∀C s H0 ex pn,PG (cxC X scope own N2 C s H0 ex pn) tg (gOf X.K g))
  (hc:∀C s H0 ex pn,PTsd (cxC X scope own N2 C s H0 ex pn) ifs c) (he:∀C s H0 ex pn,PEd (cxC X scope own N2 C s H0 ex pn) elt te) (hs:kM iter=true)
  (hsw:swapsWith (.ListComp elt [⟨tg,iter,ifs,0⟩] scope pos) (some (.Name y py)) spos.line X.env=pure true):PSd X (.Assign [.Name y py] (.ListComp elt [⟨tg,iter,ifs,0⟩] scope pos) spos) (zF i own.length t g c te):=by
 intro σ M ρ H E rs rm q;obtain⟨b1,b2⟩:=qM hc he;refine dm (EA (te:=bE X scope own N2 elt) (tc:=bT X scope own N2 ifs) (i:=i) cs hcalm hnd hy hl (pi_W tg iter) hg (λC s H0 ex pn pins s' σ' H' Q' I h=>h C s H0 ex pn pins s' I) (λC s H0 ex pn pins s' σ' H' Q' I h=>h C s H0 ex pn pins s' I) hsw ho rfl (zD hs)) ?_;show iW X tg iter ρ H _;refine ud (hi σ M ρ H _ rs rm q) λJ H1 zz16=>?_
 obtain⟨k1,xs,gd,M1,m1,g1,jok,hz,q1⟩:=zz16;refine wk jok hz ((rs.mono k1).more own.length) m1 g1 b1 b2 ?_ q1;intro ds vs H' M' k' m' rr f p hp;have k2:Kp H' (upd H' p (.lst vs)):=Kp.new hp;exact⟨(k1.trans k').trans k2,_,_,(rs.mono ((k1.trans k').trans k2)).set i (RV.ref_.2 rfl),m'.new (m:=.lst ds) hp ⟨vs,az,RVs.mono k2 _ rr⟩,f p (m'.fresh hp)⟩
end
def af(N:Zf)(ds:List D):DS:=ds.map some++List.replicate (N.length-ds.length) none
theorem wl{K:Za}{H:Hp}{N:Zf}{ds:List D}{vs:List V}(r:RVs K H ds vs):RS K H (af N ds) (L2.start N vs):=by
 unfold af L2.start;rw[r.len];refine bq ?_ (kC (λd e=>nomatch e) _);have p:=r.p;clear r;induction p with
 |nil=>exact .nil
 |cons r _ ih=>exact .cons (λd e=>by cases e;exact⟨_,rfl,r⟩) ih
end
section
variable {P:Zw}{w:World}{K:Za}{mg:Ze}{base:Heap}
theorem fnD{x:Str}{st:Stmt}{ps N:Zf}{f:Addr}{fd:Zv}{k:Nat}{sp:SpD}{t:WS}(D0:IsDef K mg x st ps f fd)(S:FnScope N ps (av st))(len:∀ds M Q,sp ds M Q->ds.length=ps.length)
  (hb:∀cdv A outer s H E,Room k (A.deeper (envOfC x (av st) s.heap.objs.size f cdv))->PSsd (cxOf CX0 P w K mg base N x (av st) f cdv A outer s H E).nox (aK st) t)
  (h:∀ds M Q,sp ds M Q->t { nx:=λ_ M'=>Q .non M',rt:=Q } (af N ds) M):FnD P w K mg base (k+1) x sp:=by
 refine⟨st,ps,f,fd,D0,D0.fn.ok S (λvs H Q E ⟨ds,M,Q0,r,_,s,_⟩=>by rw[←r.len];exact len ds M Q0 s) λcdv A outer s H vs Q E hr ⟨ds,M,Q0,r,m,sq,f0⟩=>⟨tWSs _ _,nX _,?_⟩⟩;refine dR (hb cdv A outer s H E hr (af N ds) M (L2.start N vs) H _ (wl r) m (h ds M Q0 sq)) ⟨λρ' H' zz17=>?_,λv H' ⟨k',d,M',r',m',q⟩=>f0 _ _ _ _ q k' r' m',λ_ _ ⟨_,_,_,_,_,q⟩=>q,λ_ _ ⟨_,_,_,_,_,q⟩=>q⟩;obtain⟨k',σ',M',_,m',q⟩:=zz17;exact f0 _ _ _ _ q k' (RV.non_.2 rfl) m'
end
mutual
noncomputable def aM:D->Bool
 |.ref _=>false
 |.ty _=>false
 |.tup ds=>aO ds
 |_=>true
noncomputable def aO:List D->Bool
 |[]=>true
 |d::ds=>aM d&&aO ds
end
mutual
noncomputable def depD:D->Nat
 |.tup ds=>bz ds+1
 |_=>0
noncomputable def bz:List D->Nat
 |[]=>0
 |d::ds=>max (depD d) (bz ds)
end
mutual
noncomputable def eqD:D->D->Bool
 |.non,.non=>true
 |.bl a,.bl b=>a==b
 |.bl a,.int b=>(if a then 1 else 0)==b
 |.int a,.bl b=>a==(if b then 1 else 0)
 |.int a,.int b=>a==b
 |.str a,.str b=>a==b
 |.tup as,.tup bs=>eqDs as bs
 |_,_=>false
noncomputable def eqDs:List D->List D->Bool
 |[],[]=>true
 |a::as,b::bs=>eqD a b&&eqDs as bs
 |_,_=>false
end
mutual
theorem nY:∀d:D,aM d=true->eqD d d=true
 |.non,_=>by rw[eqD]
 |.bl b,_=>by rw[eqD];simp
 |.int b,_=>by rw[eqD];simp
 |.str b,_=>by rw[eqD];simp
 |.ref _,h=>by rw[aM] at h;cases h
 |.ty _,h=>by rw[aM] at h;cases h
 |.tup ds,h=>by rw[aM] at h;rw[eqD];exact pv ds h
theorem pv:∀ds:List D,aO ds=true->eqDs ds ds=true
 |[],_=>by rw[eqDs]
 |d::ds,h=>by
  rw[aO,YV] at h;rw[eqDs,nY d h.1,pv ds h.2];rfl
end
theorem f9:∀{as bs:List D},eqDs as bs=((List.range (min as.length bs.length)).all (λj=>eqD ((as[j]?).getD .non) ((bs[j]?).getD .non))&&as.length==bs.length)
 |[],[]=>by rw[eqDs];rfl
 |[],b::bs=>by rw[eqDs]<;>simp
 |a::as,[]=>by rw[eqDs]<;>simp
 |a::as,b::bs=>by
  rw[eqDs,f9 (as:=as) (bs:=bs)];have e:min (a::as).length (b::bs).length=min as.length bs.length+1:=by simp only[YH];omega
  rw[e,List.range_succ_eq_map,XN,List.all_map];simp only[XQ,Option.getD_some,YH];rw[Bool.and_assoc];congr 1;congr 1;rw[Bool.eq_iff_iff];simp
theorem bN:∀{ds:List D}{i:Nat}{d:D},aO ds=true->ds[i]?=some d->aM d=true
 |d::ds,0,_,h,e=>by rw[aO,YV] at h;simp at e;subst e;exact h.1
 |d::ds,i+1,_,h,e=>by rw[aO,YV] at h;exact bN (ds:=ds) (i:=i) h.2 (by simpa using e)
theorem gv:∀{ds:List D}{i:Nat}{d:D},ds[i]?=some d->depD d<=bz ds
 |d::ds,0,_,e=>by rw[bz];simp at e;subst e;omega
 |d::ds,i+1,_,e=>by rw[bz];have:=gv (ds:=ds) (i:=i) (by simpa using e);omega
section
variable {X:Cx}{pins:Zc}{ρ:L2.St}{H:Hp}{s:Shared}
def kh:D->Bool
 |.non=>true
 |.bl _=>true
 |.int _=>true
 |.str _=>true
 |_=>false
def toV:D->V
 |.non=>.non
 |.bl b=>.bl b
 |.int i=>.int i
 |.str x=>.str x
 |_=>.non
theorem qh{K:Za}{d:D}{v:V}(f:kh d=true)(r:RV K H d v):v=toV d/\zm v=true:=by
 cases d with
 |non=>cases RV.non_.1 r;exact⟨rfl,rfl⟩
 |bl b=>cases RV.bl_.1 r;exact⟨rfl,rfl⟩
 |int b=>cases RV.int_.1 r;exact⟨rfl,rfl⟩
 |str b=>cases RV.str_.1 r;exact⟨rfl,rfl⟩
 |_=>exact absurd (show false=true from f) YD
theorem yB{d e:D}(f:kh d=true)(g:kh e=true):eqD d e=eqV (toV d) (toV e):=by
 cases d<;>cases e<;>first | exact absurd (show false=true from f) YD | exact absurd (show false=true from g) YD | (rw[eqD]<;>first | rfl | (intros;contradiction) | skip)
mutual
theorem wm(I:Inv X pins ρ H s):∀(d e:D){v:V},aM d=true->aM e=true->RV X.K H d v->RV X.K H e v->d=e:=λd e v pd pe rd re=>by
 cases d with
 |non=>cases RV.non_.1 rd;cases e with
  |non=>rfl
  |tup ds=>obtain⟨a,xs,z,_⟩:=RV.tup_.1 re;cases z
  |_=>rw[RV] at re;cases re
 |bl b=>cases RV.bl_.1 rd;cases e with
  |bl b'=>cases RV.bl_.1 re;rfl
  |tup ds=>obtain⟨a,xs,z,_⟩:=RV.tup_.1 re;cases z
  |_=>rw[RV] at re;cases re
 |int b=>cases RV.int_.1 rd;cases e with
  |int b'=>cases RV.int_.1 re;rfl
  |tup ds=>obtain⟨a,xs,z,_⟩:=RV.tup_.1 re;cases z
  |_=>rw[RV] at re;cases re
 |str b=>cases RV.str_.1 rd;cases e with
  |str b'=>cases RV.str_.1 re;rfl
  |tup ds=>obtain⟨a,xs,z,_⟩:=RV.tup_.1 re;cases z
  |_=>rw[RV] at re;cases re
 |ref a=>rw[aM] at pd;cases pd
 |ty a=>rw[aM] at pd;cases pd
 |tup ds=>
  obtain⟨a,xs,rfl,sq,rr⟩:=RV.tup_.1 rd;cases e with
  |tup es=>
   obtain⟨a',xs',z,sq',rr'⟩:=RV.tup_.1 re;cases z
   have:=I.tuple_inj sq sq'
   subst this;rw[aM] at pd pe;rw[yC I ds es pd pe rr rr']
  |ref a=>rw[aM] at pe;cases pe
  |_=>rw[RV] at re;cases re
theorem yC(I:Inv X pins ρ H s):∀(ds es:List D){vs:List V},aO ds=true->aO es=true->RVs X.K H ds vs->RVs X.K H es vs->ds=es
 |[],[],_,_,_,_,_=>rfl
 |[],e::es,_,_,_,rd,re=>by have:=rd.len;have:=re.len;simp only[YH,YS] at *;omega
 |d::ds,[],_,_,_,rd,re=>by have:=rd.len;have:=re.len;simp only[YH,YS] at *;omega
 |d::ds,e::es,_,pd,pe,rd,re=>by
  rw[RVs] at rd re;rw[aO,YV] at pd pe;obtain⟨v,vs,rfl,r1,r2⟩:=rd;obtain⟨v',vs',z,r1',r2'⟩:=re;cases z;rw[wm I d e pd.1 pe.1 r1 r1',yC I ds es pd.2 pe.2 r2 r2']
end
theorem ue{A:Around}{ds:List D}{e:D}{v u:V}{v' u':Value}(I:Inv X pins ρ H s)(hu:A.units<cLine)(f:kh e=true)(rd:RV X.K H (.tup ds) v)(re:RV X.K H e u)(r:RelV v v')(r':RelV u u'):
  SeqAt.EqAt A s v' u' false/\SeqAt.EqAt A s u' v' false:=by
 obtain⟨a,xs,rfl,sq,rr⟩:=RV.tup_.1 rd;obtain⟨its,_,tp,_⟩:=I.tuple sq;cases r;have tp:s.heap.IsTuple a its.toArray:=tp;cases e with
 |non=>cases RV.non_.1 re;cases r';exact⟨SeqAt.EqAt.tuple_none tp hu,SeqAt.EqAt.none_tuple tp hu⟩
 |bl b=>cases RV.bl_.1 re;cases r';exact⟨SeqAt.EqAt.tuple_bool b tp hu,SeqAt.EqAt.bool_tuple b tp hu⟩
 |int b=>cases RV.int_.1 re;obtain⟨t,rfl⟩:=r';exact⟨SeqAt.EqAt.tuple_int b t tp hu,SeqAt.EqAt.int_tuple b t tp hu⟩
 |str b=>cases RV.str_.1 re;obtain⟨t,rfl⟩:=r';exact⟨SeqAt.EqAt.tuple_str b t tp hu,SeqAt.EqAt.str_tuple b t tp hu⟩
 |_=>exact absurd (show false=true from f) YD
theorem pw{ds:List D}{e:D}(f:kh e=true):eqD (.tup ds) e=false/\eqD e (.tup ds)=false:=by
 cases e<;>first | exact absurd (show false=true from f) YD | (constructor<;>(rw[eqD]<;>(intros;contradiction)))
theorem eG{d:D}(h:aM d=true):kh d=true \/ ∃ds,d=.tup ds:=by
 cases d with
 |ref a=>rw[aM] at h;cases h
 |ty a=>rw[aM] at h;cases h
 |tup ds=>exact .inr ⟨ds,rfl⟩
 |_=>exact .inl rfl
theorem units_in1(A:Around):A.in1.units=A.units+1:=rfl
theorem ga{K:Za}{ds:List D}{vs:List V}{its:Zd}(rr:RVs K H ds vs)(rv:Vals vs its){j:Nat}(h:j<its.toArray.size):
  ∃d v,ds[j]?=some d/\RV K H d v/\RelV v its.toArray[j]:=by
 have h1:j<its.length:=by simpa using h
 have h2:j<vs.length:=by rw[rv.length];exact h1
 have h3:j<ds.length:=by rw[rr.len];exact h2
 obtain⟨v,hv,r⟩:=cO rr.p (ZC h3);obtain⟨u,hu,r'⟩:=rv.get hv;have:its.toArray[j]=u:=by
  have:=ZC h1
  rw[this] at hu;simpa using hu
 exact⟨ds[j],v,ZC h3,r,by rw[this];exact r'⟩
theorem sn(n:Nat):∀{s:Shared}{A:Around}(d e:D){v u:V}{v' u':Value},Inv X pins ρ H s->depD d<=n->A.units+n<cLine->aM d=true->aM e=true->RV X.K H d v->RV X.K H e u->RelV v v'->RelV u u'->SeqAt.EqAt A s v' u' (eqD d e):=by
 induction n with
 |zero=>
  intro s A d e v u v' u' I hd hu pd pe rd re r r';rcases eG pd with f | ⟨ds,rfl⟩
  ·rcases eG pe with g | ⟨es,rfl⟩
   ·rw[yB f g]
    obtain⟨z1,z2⟩:=qh f rd;obtain⟨z3,z4⟩:=qh g re;rw[←z1,←z3];exact Ax r r' z2 z4
   ·rw[(pw f).2];exact(ue I 'b' f re rd r' r).2
  ·rw[depD] at hd;omega
 |succ n ih=>
  intro s A d e v u v' u' I hd hu pd pe rd re r r';rcases eG pd with f | ⟨ds,rfl⟩
  ·rcases eG pe with g | ⟨es,rfl⟩
   ·rw[yB f g]
    obtain⟨z1,z2⟩:=qh f rd;obtain⟨z3,z4⟩:=qh g re;rw[←z1,←z3];exact Ax r r' z2 z4
   ·rw[(pw f).2];exact(ue I 'b' f re rd r' r).2
  ·rcases eG pe with g | ⟨es,rfl⟩
   ·rw[(pw g).1];exact(ue I 'b' g rd re r r').1
   ·by_cases z:v=u
    ·subst z
     have:=wm I _ _ pd pe rd re
     cases this;rw[nY _ pd];obtain⟨a,xs,rfl,_⟩:=RV.tup_.1 rd;cases r;cases r';exact SeqAt.EqAt.same _
    ·obtain⟨a,xs,rfl,sq,rr⟩:=RV.tup_.1 rd
     obtain⟨b,ys,rfl,sq',rr'⟩:=RV.tup_.1 re;cases r;cases r';have hab:a≠b:=λq=>z (by rw[q])
     obtain⟨its,rv,tp,_⟩:=I.tuple sq;obtain⟨its',rv',tp',_⟩:=I.tuple sq';rw[depD] at hd;rw[aM] at pd pe;have key:=SeqAt.RcAt.tuples (A:=A) (e:=λj=>eqD ((ds[j]?).getD .non) ((es[j]?).getD .non)) (show s.heap.IsTuple a its.toArray from tp) (show s.heap.IsTuple b its'.toArray from tp') 'b' (λj h1 h2=>by
      obtain⟨d,v,e1,r1,q1⟩:=ga rr rv h1;obtain⟨e,u,e2,r2,q2⟩:=ga rr' rv' h2;rw[e1,e2]
      have:=gv e1
      exact ih d e I 'b' (by rw[units_in1];omega) (bN pd e1) (bN pe e2) r1 r2 q1 q2)
     have e:eqD (.tup ds) (.tup es)=((List.range (min its.toArray.size its'.toArray.size)).all (λj=>eqD ((ds[j]?).getD .non) ((es[j]?).getD .non))&&its.toArray.size==its'.toArray.size):=by
      have l1:its.toArray.size=ds.length:=by rw[rr.len,rv.length];simp
      have l2:its'.toArray.size=es.length:=by rw[rr'.len,rv'.length];simp
      rw[eqD,f9,l1,l2]
     rw[e];exact SeqAt.EqAt.of_refs hab key
end
section
variable {X:Cx}{H:Hp}
def dAdd:D->D->MH->DK->Prop
 |.int i,.int j,M,Q=>Q (.int (i+j)) M
 |.str i,.str j,M,Q=>i.length+j.length<=sizeLine/\Q (.str (i++j)) M
 |.tup xs,.tup ys,M,Q=>(xs≠[]/\xs.length+ys.length<=sizeLine)/\Q (.tup (xs++ys)) M
 |.ref a,.ref b,M,Q=>match M a,M b with
  |some (.lst xs),some (.lst ys)=>xs.length+ys.length<=sizeLine/\∀p,M p=none->Q (.ref p) (updM M p (.lst (xs++ys)))
  |_,_=>False
 |_,_,_,_=>False
theorem E3:OpD X (binaryOp .Add) dAdd:=by
 intro x y v u H M Q rx ry rm h;cases x with
 |int i=>cases y with
  |int j=>cases RV.int_.1 rx;cases RV.int_.1 ry;exact fJ FY ⟨i,j,rfl,rfl,ay (RV.int_.2 rfl) rm h⟩
  |_=>exact Yh h
 |str i=>cases y with
  |str j=>cases RV.str_.1 rx;cases RV.str_.1 ry;exact fJ zd ⟨i,j,rfl,rfl,h.1,ay (RV.str_.2 rfl) rm h.2⟩
  |_=>exact Yh h
 |tup xs=>cases y with
  |tup ys=>
   obtain⟨a,vs,rfl,sq,rr⟩:=RV.tup_.1 rx;obtain⟨b,us,rfl,sq',rr'⟩:=RV.tup_.1 ry;obtain⟨⟨h1,h2⟩,h3⟩:=h;refine fJ Ep ⟨a,b,vs,us,rfl,rfl,sq,sq',λz=>h1 ?_,by rw[←rr.len,←rr'.len];exact h2,λz=>?_,λz p hp=>?_⟩
   ·have:=rr.len;rw[z] at this;exact List.eq_nil_of_length_eq_zero this
   ·have:=rr'.len;rw[z] at this
    have:ys=[]:=List.eq_nil_of_length_eq_zero this
    subst this;rw[ZA] at h3;exact ay rx rm h3
   ·have k:=Kp.new (o:=.tup (vs++us)) hp
    exact⟨k,.tup (xs++ys),M,RV.tup_.2 ⟨p,_,rfl,SqT.of az,RVs.of (bq (RVs.mono k _ rr).p (RVs.mono k _ rr').p)⟩,rm.newH hp,h3⟩
  |_=>exact Yh h
 |ref a=>cases y with
  |ref b=>
   cases RV.ref_.1 rx;cases RV.ref_.1 ry;have h:match M a,M b with
    |some (.lst xs),some (.lst ys)=>xs.length+ys.length<=sizeLine/\∀p,M p=none->Q (.ref p) (updM M p (.lst (xs++ys)))
    |_,_=>False:=h
   split at h
   ·rename_i xs ys e1 e2
    obtain⟨vs,q1,rr⟩:=rm a _ e1;obtain⟨us,q2,rr'⟩:=rm b _ e2;refine fJ Gu ⟨a,b,vs,us,rfl,rfl,q1,q2,by rw[←rr.len,←rr'.len];exact h.1,λp hp=>?_⟩;have k:=Kp.new (o:=.lst (vs++us)) hp;exact⟨k,.ref p,_,RV.ref_.2 rfl,rm.new (m:=.lst (xs++ys)) hp ⟨_,az,RVs.of (bq (RVs.mono k _ rr).p (RVs.mono k _ rr').p)⟩,h.2 p (rm.fresh hp)⟩
   ·exact Yh h
  |_=>exact Yh h
 |_=>exact Yh h
def dI(C:Int->Int->Prop)(g:Int->Int->Int):D->D->MH->DK->Prop
 |.int i,.int j,M,Q=>C i j/\Q (.int (g i j)) M
 |_,_,_,_=>False
theorem sr{f:Zk}{C:Int->Int->Prop}{g:Int->Int->Int}(h0:OpR X f (rI C λi j=>.int (g i j))):OpD X f (dI C g):=by
 intro x y v u H M Q rx ry rm h;cases x with
 |int i=>cases y with
  |int j=>cases RV.int_.1 rx;cases RV.int_.1 ry;exact fJ h0 ⟨i,j,rfl,rfl,h.1,ay (RV.int_.2 rfl) rm h.2⟩
  |_=>exact Yh h
 |_=>exact Yh h
def dI0(g:Int->Int->Int):D->D->MH->DK->Prop
 |.int i,.int j,M,Q=>Q (.int (g i j)) M
 |_,_,_,_=>False
theorem ss{f:Zk}{g:Int->Int->Int}(h0:OpR X f (rI0 λi j=>.int (g i j))):OpD X f (dI0 g):=by
 intro x y v u H M Q rx ry rm h;cases x with
 |int i=>cases y with
  |int j=>cases RV.int_.1 rx;cases RV.int_.1 ry;exact fJ h0 ⟨i,j,rfl,rfl,ay (RV.int_.2 rfl) rm h⟩
  |_=>exact Yh h
 |_=>exact Yh h
def dMul:D->D->MH->DK->Prop
 |.int i,.int j,M,Q=>CMul i j/\Q (.int (i*j)) M
 |.str z,.int n,M,Q=>(0<=n/\n<=1048576/\z.length*n.toNat<=1048576)/\Q (.str (Txt.mul z n)) M
 |.ref a,.int k,M,Q=>match M a with
  |some (.lst xs)=>(-1000000<=k/\k<=1000000/\xs.length*k.toNat<=sizeLine)/\∀p,M p=none->Q (.ref p) (updM M p (.lst (List.replicate k.toNat xs).flatten))
  |_=>False
 |_,_,_,_=>False
theorem E4:OpD X (binaryOp .Mult) dMul:=by
 intro x y v u H M Q rx ry rm h;cases x with
 |int i=>cases y with
  |int j=>cases RV.int_.1 rx;cases RV.int_.1 ry;exact fJ F1 ⟨i,j,rfl,rfl,h.1,ay (RV.int_.2 rfl) rm h.2⟩
  |_=>exact Yh h
 |str z=>cases y with
  |int n=>cases RV.str_.1 rx;cases RV.int_.1 ry;exact fJ zp ⟨z,n,rfl,rfl,h.1.1,h.1.2.1,h.1.2.2,ay (RV.str_.2 rfl) rm h.2⟩
  |_=>exact Yh h
 |ref a=>cases y with
  |int k=>
   cases RV.ref_.1 rx;cases RV.int_.1 ry;have h:match M a with
    |some (.lst xs)=>(-1000000<=k/\k<=1000000/\xs.length*k.toNat<=sizeLine)/\∀p,M p=none->Q (.ref p) (updM M p (.lst (List.replicate k.toNat xs).flatten))
    |_=>False:=h
   split at h
   ·rename_i xs e1
    obtain⟨vs,q1,rr⟩:=rm a _ e1;refine fJ Gv ⟨a,k,vs,rfl,rfl,q1,by omega,by omega,by rw[←rr.len];exact h.1.2.2,λp hp=>?_⟩;have kk:=Kp.new (o:=.lst (List.replicate k.toNat vs).flatten) hp;exact⟨kk,.ref p,_,RV.ref_.2 rfl,rm.new (m:=.lst (List.replicate k.toNat xs).flatten) hp ⟨_,az,RVs.of (AL (RVs.mono kk _ rr).p _)⟩,h.2 p (rm.fresh hp)⟩
   ·exact Yh h
  |_=>exact Yh h
 |_=>exact Yh h
def dBin:Operator->D->D->MH->DK->Prop
 |.Add=>dAdd
 |.Sub=>dI0 λi j=>i-j
 |.Mult=>dMul
 |.FloorDiv=>dI CDiv λi j=>i / j
 |.Mod=>dI (λ_ j=>0<j) λi j=>i%j
 |.Pow=>dI CPow λi j=>i ^ j.toNat
 |.LShift=>dI CPow λi j=>i*2 ^ j.toNat
 |.RShift=>dI (λ_ j=>0<=j) λi j=>i / 2 ^ j.toNat
 |.BitAnd=>dI0 Builtin.bitAnd
 |.BitOr=>dI0 Builtin.bitOr
 |.BitXor=>dI0 Builtin.bitXor
 |_=>λ_ _ _ _=>False
theorem E5(op:Operator):OpD X (binaryOp op) (dBin op):=by
 cases op with
 |Add=>exact E3
 |Sub=>exact ss FZ
 |Mult=>exact E4
 |FloorDiv=>exact sr D9
 |Mod=>exact sr F2
 |Pow=>exact sr F3
 |LShift=>exact sr F5
 |RShift=>exact sr F8
 |BitAnd=>exact ss F9
 |BitOr=>exact ss HE
 |BitXor=>exact ss Ga
 |_=>exact λ_ _ _ _ _ _ _ _ _ _ h=>Yh h
def dIB(g:Int->Int->Bool):D->D->MH->DK->Prop
 |.int i,.int j,M,Q=>Q (.bl (g i j)) M
 |_,_,_,_=>False
theorem su{f:Zk}{g:Int->Int->Bool}(h0:OpR X f (rI0 λi j=>.bl (g i j))):OpD X f (dIB g):=by
 intro x y v u H M Q rx ry rm h;cases x with
 |int i=>cases y with
  |int j=>cases RV.int_.1 rx;cases RV.int_.1 ry;exact fJ h0 ⟨i,j,rfl,rfl,ay (RV.bl_.2 rfl) rm h⟩
  |_=>exact Yh h
 |_=>exact Yh h
def dEq(x y:D)(M:MH)(Q:Bool->Prop):Prop:=match x,y with
 |.ref a,.ref b=>match rdL (M a),rdL (M b) with
  |some xs,some ys=>(aO xs=true/\aO ys=true/\bz xs<=30)/\Q (eqDs xs ys)
  |_,_=>False
 |.ref a,y=>match rdL (M a) with
  |some _=>aM y=true/\Q false
  |none=>False
 |x,.ref b=>match rdL (M b) with
  |some _=>aM x=true/\Q false
  |none=>False
 |x,y=>(aM x=true/\aM y=true/\depD x<=30)/\Q (eqD x y)
theorem AX{A:Around}{s:Shared}{d e:D}{v u:V}{v' u':Value}{K:Za}(f:kh d=true)(g:kh e=true)(rd:RV K H d v)(re:RV K H e u)(r:RelV v v')(r':RelV u u'):
  SeqAt.RcAt A s v' u' (eqD d e)/\SeqAt.RcNeAt A s v' u' (!eqD d e):=by
 cases d with
 |non=>
  cases RV.non_.1 rd;cases r;cases e with
  |non=>cases RV.non_.1 re;cases r';rw[eqD];exact⟨SeqAt.RcAt.none_none,SeqAt.RcNeAt.none_none⟩
  |bl b=>cases RV.bl_.1 re;cases r';rw[eqD]<;>first | exact⟨SeqAt.RcAt.none_bool b,SeqAt.RcNeAt.none_bool b⟩ | (intros;contradiction)
  |int b=>cases RV.int_.1 re;obtain⟨t,rfl⟩:=r';rw[eqD]<;>first | exact⟨SeqAt.RcAt.none_int b t,SeqAt.RcNeAt.none_int b t⟩ | (intros;contradiction)
  |str b=>cases RV.str_.1 re;obtain⟨t,rfl⟩:=r';rw[eqD]<;>first | exact⟨SeqAt.RcAt.none_str b t,SeqAt.RcNeAt.none_str b t⟩ | (intros;contradiction)
  |_=>exact absurd (show false=true from g) YD
 |bl a=>
  cases RV.bl_.1 rd;cases r;cases e with
  |non=>cases RV.non_.1 re;cases r';rw[eqD]<;>first | exact⟨SeqAt.RcAt.bool_none a,SeqAt.RcNeAt.bool_none a⟩ | (intros;contradiction)
  |bl b=>cases RV.bl_.1 re;cases r';rw[eqD];exact⟨SeqAt.RcAt.bool_bool a b,SeqAt.RcNeAt.bool_bool a b⟩
  |int b=>cases RV.int_.1 re;obtain⟨t,rfl⟩:=r';rw[eqD];exact⟨SeqAt.RcAt.bool_int a b t,SeqAt.RcNeAt.bool_int a b t⟩
  |str b=>cases RV.str_.1 re;obtain⟨t,rfl⟩:=r';rw[eqD]<;>first | exact⟨SeqAt.RcAt.bool_str a b t,SeqAt.RcNeAt.bool_str a b t⟩ | (intros;contradiction)
  |_=>exact absurd (show false=true from g) YD
 |int a=>
  cases RV.int_.1 rd;obtain⟨t',rfl⟩:=r;cases e with
  |non=>cases RV.non_.1 re;cases r';rw[eqD]<;>first | exact⟨SeqAt.RcAt.int_none a t',SeqAt.RcNeAt.int_none a t'⟩ | (intros;contradiction)
  |bl b=>cases RV.bl_.1 re;cases r';rw[eqD];exact⟨SeqAt.RcAt.int_bool a t' b,SeqAt.RcNeAt.int_bool a t' b⟩
  |int b=>cases RV.int_.1 re;obtain⟨t,rfl⟩:=r';rw[eqD];exact⟨SeqAt.RcAt.int_int a t' b t,SeqAt.RcNeAt.int_int a t' b t⟩
  |str b=>cases RV.str_.1 re;obtain⟨t,rfl⟩:=r';rw[eqD]<;>first | exact⟨SeqAt.RcAt.int_str a t' b t,SeqAt.RcNeAt.int_str a t' b t⟩ | (intros;contradiction)
  |_=>exact absurd (show false=true from g) YD
 |str a=>
  cases RV.str_.1 rd;obtain⟨t',rfl⟩:=r;cases e with
  |non=>cases RV.non_.1 re;cases r';rw[eqD]<;>first | exact⟨SeqAt.RcAt.str_none a t',SeqAt.RcNeAt.str_none a t'⟩ | (intros;contradiction)
  |bl b=>cases RV.bl_.1 re;cases r';rw[eqD]<;>first | exact⟨SeqAt.RcAt.str_bool a t' b,SeqAt.RcNeAt.str_bool a t' b⟩ | (intros;contradiction)
  |int b=>cases RV.int_.1 re;obtain⟨t,rfl⟩:=r';rw[eqD]<;>first | exact⟨SeqAt.RcAt.str_int a t' b t,SeqAt.RcNeAt.str_int a t' b t⟩ | (intros;contradiction)
  |str b=>cases RV.str_.1 re;obtain⟨t,rfl⟩:=r';rw[eqD];exact⟨SeqAt.RcAt.str_str a t' b t,SeqAt.RcNeAt.str_str a t' b t⟩
  |_=>exact absurd (show false=true from g) YD
 |_=>exact absurd (show false=true from f) YD
theorem uf{A:Around}{s:Shared}{pins:Zc}{ρ:L2.St}{a:Addr}{its:Zl}{e:D}{u:V}{u':Value}(hu:A.units<cLine)(f:kh e=true)(tp:s.heap.IsTuple a its\/s.heap.IsList a its)(re:RV X.K H e u)(r':RelV u u'):
  (SeqAt.RcAt A s (.ref a) u' false/\SeqAt.RcNeAt A s (.ref a) u' true)/\(SeqAt.RcAt A s u' (.ref a) false/\SeqAt.RcNeAt A s u' (.ref a) true):=by
 rcases tp with tp | tp
 ·cases e with
  |non=>cases RV.non_.1 re;cases r';exact⟨⟨SeqAt.RcAt.tuple_none tp hu,SeqAt.RcNeAt.tuple_none tp hu⟩,⟨SeqAt.RcAt.none_tuple tp hu,SeqAt.RcNeAt.none_tuple tp hu⟩⟩
  |bl b=>cases RV.bl_.1 re;cases r';exact⟨⟨SeqAt.RcAt.tuple_bool b tp hu,SeqAt.RcNeAt.tuple_bool b tp hu⟩,⟨SeqAt.RcAt.bool_tuple b tp hu,SeqAt.RcNeAt.bool_tuple b tp hu⟩⟩
  |int b=>cases RV.int_.1 re;obtain⟨t,rfl⟩:=r';exact⟨⟨SeqAt.RcAt.tuple_int b t tp hu,SeqAt.RcNeAt.tuple_int b t tp hu⟩,⟨SeqAt.RcAt.int_tuple b t tp hu,SeqAt.RcNeAt.int_tuple b t tp hu⟩⟩
  |str b=>cases RV.str_.1 re;obtain⟨t,rfl⟩:=r';exact⟨⟨SeqAt.RcAt.tuple_str b t tp hu,SeqAt.RcNeAt.tuple_str b t tp hu⟩,⟨SeqAt.RcAt.str_tuple b t tp hu,SeqAt.RcNeAt.str_tuple b t tp hu⟩⟩
  |_=>exact absurd (show false=true from f) YD
 ·cases e with
  |non=>cases RV.non_.1 re;cases r';exact⟨⟨SeqAt.RcAt.list_none tp hu,SeqAt.RcNeAt.list_none tp hu⟩,⟨SeqAt.RcAt.none_list tp hu,SeqAt.RcNeAt.none_list tp hu⟩⟩
  |bl b=>cases RV.bl_.1 re;cases r';exact⟨⟨SeqAt.RcAt.list_bool b tp hu,SeqAt.RcNeAt.list_bool b tp hu⟩,⟨SeqAt.RcAt.bool_list b tp hu,SeqAt.RcNeAt.bool_list b tp hu⟩⟩
  |int b=>cases RV.int_.1 re;obtain⟨t,rfl⟩:=r';exact⟨⟨SeqAt.RcAt.list_int b t tp hu,SeqAt.RcNeAt.list_int b t tp hu⟩,⟨SeqAt.RcAt.int_list b t tp hu,SeqAt.RcNeAt.int_list b t tp hu⟩⟩
  |str b=>cases RV.str_.1 re;obtain⟨t,rfl⟩:=r';exact⟨⟨SeqAt.RcAt.list_str b t tp hu,SeqAt.RcNeAt.list_str b t tp hu⟩,⟨SeqAt.RcAt.str_list b t tp hu,SeqAt.RcNeAt.str_list b t tp hu⟩⟩
  |_=>exact absurd (show false=true from f) YD
def Rc2(A:Around)(s:Shared)(v u:Value)(b:Bool):Prop:=SeqAt.RcAt A s v u b/\SeqAt.RcNeAt A s v u (!b)
theorem E6{A:Around}{s:Shared}{pins:Zc}{ρ:L2.St}{ds es:List D}{vs us:List V}{its its':Zd}{a b:Addr}(I:Inv X pins ρ H s)(hd:bz ds<=30)(hu:A.units+40<cLine)(pd:aO ds=true)(pe:aO es=true)
  (rr:RVs X.K H ds vs) (rr':RVs X.K H es us) (rv:Vals vs its) (rv':Vals us its') (tp:s.heap.IsTuple a its.toArray) (tp':s.heap.IsTuple b its'.toArray):Rc2 A s (.ref a) (.ref b) (eqDs ds es):=by
 have l1:its.toArray.size=ds.length:=by rw[rr.len,rv.length];simp
 have l2:its'.toArray.size=es.length:=by rw[rr'.len,rv'.length];simp
 have he:∀j (h1:j<its.toArray.size) (h2:j<its'.toArray.size),SeqAt.EqAt A.in1 s its.toArray[j] its'.toArray[j] (eqD ((ds[j]?).getD .non) ((es[j]?).getD .non)):=λj h1 h2=>by
  obtain⟨d,v,e1,r1,q1⟩:=ga rr rv h1;obtain⟨e,u,e2,r2,q2⟩:=ga rr' rv' h2;rw[e1,e2]
  have:=gv e1
  exact sn 30 d e I 'b' (by rw[units_in1];omega) (bN pd e1) (bN pe e2) r1 r2 q1 q2
 have e:eqDs ds es=((List.range (min its.toArray.size its'.toArray.size)).all (λj=>eqD ((ds[j]?).getD .non) ((es[j]?).getD .non))&&its.toArray.size==its'.toArray.size):=by rw[f9,l1,l2]
 rw[e];exact⟨SeqAt.RcAt.tuples tp tp' 'b' he,SeqAt.RcNeAt.tuples tp tp' 'b' he⟩
theorem CI{A:Around}{s:Shared}{pins:Zc}{ρ:L2.St}{ds es:List D}{vs us:List V}{its its':Zd}{a b:Addr}(I:Inv X pins ρ H s)(hd:bz ds<=30)(hu:A.units+40<cLine)(pd:aO ds=true)(pe:aO es=true)
  (rr:RVs X.K H ds vs) (rr':RVs X.K H es us) (rv:Vals vs its) (rv':Vals us its') (tp:s.heap.IsList a its.toArray) (tp':s.heap.IsList b its'.toArray):Rc2 A s (.ref a) (.ref b) (eqDs ds es):=by
 have l1:its.toArray.size=ds.length:=by rw[rr.len,rv.length];simp
 have l2:its'.toArray.size=es.length:=by rw[rr'.len,rv'.length];simp
 have he:∀j (h1:j<its.toArray.size) (h2:j<its'.toArray.size),SeqAt.EqAt A.in1 s its.toArray[j] its'.toArray[j] (eqD ((ds[j]?).getD .non) ((es[j]?).getD .non)):=λj h1 h2=>by
  obtain⟨d,v,e1,r1,q1⟩:=ga rr rv h1;obtain⟨e,u,e2,r2,q2⟩:=ga rr' rv' h2;rw[e1,e2]
  have:=gv e1
  exact sn 30 d e I 'b' (by rw[units_in1];omega) (bN pd e1) (bN pe e2) r1 r2 q1 q2
 by_cases hl:ds.length=es.length
 ·have e:eqDs ds es=(List.range its.toArray.size).all (λj=>eqD ((ds[j]?).getD .non) ((es[j]?).getD .non)):=by rw[f9,l1,hl,Nat.min_self];simp
  rw[e];exact⟨SeqAt.RcAt.lists tp tp' 'b' 'b' he,SeqAt.RcNeAt.lists tp tp' 'b' 'b' he⟩
 ·have e:eqDs ds es=false:=by rw[f9];simp[hl]
  rw[e];have hne:(its.toArray.size != its'.toArray.size)=true:=by rw[l1,l2];simpa using hl
  exact⟨SeqAt.RcAt.lists_lengths tp tp' hne 'b',SeqAt.RcNeAt.lists_lengths tp tp' hne 'b'⟩
theorem rc_D{s:Shared}{pins:Zc}{ρ:L2.St}{M:MH}{x y:D}{v u:V}{v' u':Value}{Q:Bool->Prop}(I:Inv X pins ρ H s)(hu:X.A.units+40<cLine)(rx:RV X.K H x v)(ry:RV X.K H y u)(m:RM X.K M H)(r:RelV v v')(r':RelV u u')(h:dEq x y M Q):
  ∃b,Rc2 X.A s v' u' b/\Q b:=by
 have pp:aM x=true->aM y=true->depD x<=30->Q (eqD x y)->∃b,Rc2 X.A s v' u' b/\Q b:=λpx py hd q=>by
  rcases eG px with f | ⟨ds,rfl⟩
  ·rcases eG py with g | ⟨es,rfl⟩
   ·exact⟨_,AX f g rx ry r r',q⟩
   ·obtain⟨b,us,rfl,sq,rr⟩:=RV.tup_.1 ry
    obtain⟨its,rv,tp,_⟩:=I.tuple sq;cases r';rw[(pw f).2] at q;exact⟨false,(uf (X:=X) (pins:=pins) (ρ:=ρ) 'b' f (.inl (show s.heap.IsTuple b its.toArray from tp)) rx r).2,q⟩
  ·obtain⟨a,vs,rfl,sq,rr⟩:=RV.tup_.1 rx
   obtain⟨its,rv,tp,_⟩:=I.tuple sq;cases r;rcases eG py with g | ⟨es,rfl⟩
   ·rw[(pw g).1] at q
    exact⟨false,(uf (X:=X) (pins:=pins) (ρ:=ρ) 'b' g (.inl (show s.heap.IsTuple a its.toArray from tp)) ry r').1,q⟩
   ·obtain⟨b,us,rfl,sq',rr'⟩:=RV.tup_.1 ry
    obtain⟨its',rv',tp',_⟩:=I.tuple sq';cases r';rw[aM] at px py;rw[depD] at hd;rw[eqD] at q;exact⟨_,E6 I 'b' hu px py rr rr' rv rv' (show s.heap.IsTuple a its.toArray from tp) (show s.heap.IsTuple b its'.toArray from tp'),q⟩
 have lp:∀{a:Addr}{w:V}{w':Value}{y:D}{xs:List D},rdL (M a)=some xs->RV X.K H y w->RelV w w'->aM y=true->(Rc2 X.A s (.ref a) w' false/\Rc2 X.A s w' (.ref a) false):=λ{a w w' y xs} hl ry r' py=>by
  obtain⟨vs,sq,rr⟩:=m.list hl;obtain⟨its,rv,tp,_⟩:=I.list sq;rcases eG py with g | ⟨es,rfl⟩
  ·have:=uf (X:=X) (pins:=pins) (ρ:=ρ) (A:=X.A) 'b' g (.inr tp.isList) ry r'
   exact⟨this.1,this.2⟩
  ·obtain⟨b,us,rfl,sq',rr'⟩:=RV.tup_.1 ry
   obtain⟨its',rv',tp',_⟩:=I.tuple sq';cases r';have tp':s.heap.IsTuple b its'.toArray:=tp';exact⟨⟨SeqAt.RcAt.list_tuple tp.isList tp' 'b',SeqAt.RcNeAt.list_tuple tp.isList tp' 'b'⟩,⟨SeqAt.RcAt.tuple_list tp' tp.isList 'b',SeqAt.RcNeAt.tuple_list tp' tp.isList 'b'⟩⟩
 cases x with
 |ref a=>
  cases RV.ref_.1 rx;cases r;cases y with
  |ref b=>
   cases RV.ref_.1 ry;cases r';have h:match rdL (M a),rdL (M b) with
    |some xs,some ys=>(aO xs=true/\aO ys=true/\bz xs<=30)/\Q (eqDs xs ys)
    |_,_=>False:=h
   split at h
   ·rename_i xs ys e1 e2
    obtain⟨vs,sq,rr⟩:=m.list e1;obtain⟨us,sq',rr'⟩:=m.list e2;obtain⟨its,rv,tp,_⟩:=I.list sq;obtain⟨its',rv',tp',_⟩:=I.list sq';exact⟨_,CI I h.1.2.2 hu h.1.1 h.1.2.1 rr rr' rv rv' tp.isList tp'.isList,h.2⟩
   ·exact Yh h
  |_=>
   simp only[dEq] at h;split at h
   ·rename_i xs e1
    exact⟨false,(lp e1 ry r' h.1).1,h.2⟩
   ·exact Yh h
 |_=>
  cases y with
  |ref b=>
   cases RV.ref_.1 ry;cases r';simp only[dEq] at h;split at h
   ·rename_i ys e1
    exact⟨false,(lp e1 rx r h.1).2,h.2⟩
   ·exact Yh h
  |_=>exact pp h.1.1 h.1.2.1 h.1.2.2 h.2
def dEqV:D->D->MH->DK->Prop:=λx y M Q=>dEq x y M λb=>Q (.bl b) M
def dNeV:D->D->MH->DK->Prop:=λx y M Q=>dEq x y M λb=>Q (.bl (!b)) M
theorem GH(hu:X.A.units+40<cLine):OpD X (compareOp .Eq) dEqV:=by
 intro x y v u H M Q rx ry rm h pins s ρ v' u' I r r';obtain⟨b,h1,q⟩:=rc_D I hu rx ry rm r r' h;exact h1.1 _ _ _ _ ⟨.bl b,H,I,rfl,ay (RV.bl_.2 rfl) rm q⟩
theorem GI(hu:X.A.units+40<cLine):OpD X (compareOp .NotEq) dNeV:=by
 intro x y v u H M Q rx ry rm h pins s ρ v' u' I r r';obtain⟨b,h1,q⟩:=rc_D I hu rx ry rm r r' h;exact h1.2 _ _ _ _ ⟨.bl (!b),H,I,rfl,ay (RV.bl_.2 rfl) rm q⟩
end
section
variable {X:Cx}{H:Hp}{e a b c:Expr}{es:Zg}{pos:Pos}
noncomputable def mX(K:Za)(H:Hp)(ds:List D)(x:D)(y:Value):Bool:=@decide (∃d v,d∈ds/\RV K H d v/\RelV v y/\eqD d x=true) (Classical.propDecidable _)
theorem lC{pins:Zc}{ρ:L2.St}{s:Shared}{ds:List D}{x d:D}{v:V}{y:Value}(I:Inv X pins ρ H s)(pd:aO ds=true)(hd:d∈ds)(r:RV X.K H d v)(r':RelV v y):mX X.K H ds x y=eqD d x:=by
 have pg:∀d∈ds,aM d=true:=λd h=>let⟨i,hi⟩:=XR h;bN pd hi
 unfold mX;cases q:eqD d x with
 |true=>exact @decide_eq_true _ (Classical.propDecidable _) ⟨d,v,hd,r,r',q⟩
 |false=>
  refine @decide_eq_false _ (Classical.propDecidable _) ?_;rintro⟨d',v',hd',r1,r2,q'⟩
  have:=L2.RelV.inj r2 r'
  subst this
  have:=wm I d' d (pg d' hd') (pg d hd) r1 r
  subst this;rw[q] at q';cases q'
theorem u5{K:Za}{x:D}{f:Value->Bool}:∀{ds:List D}{vs:List V}{its:Zd},RVs K H ds vs->Vals vs its->(∀d v u,d∈ds->RV K H d v->RelV v u->f u=eqD d x)->its.any f=ds.any λd=>eqD d x
 |[],vs,its,r,rv,_=>by
  rw[RVs] at r;subst r;cases rv;rfl
 |d::ds,vs,its,r,rv,h=>by
  rw[RVs] at r;obtain⟨v,vs',rfl,r1,r2⟩:=r;cases rv with
  |cons q1 q2=>rw[XE,XE,h d v _ (ZY) r1 q1,u5 r2 q2 λd' v' u' hd=>h d' v' u' (ZZ _ hd)]
theorem pA{K:Za}:∀{ds:List D}{vs:List V}{its:Zd}{y:Value},RVs K H ds vs->Vals vs its->y∈its->∃d v,d∈ds/\RV K H d v/\RelV v y
 |[],vs,its,y,r,rv,hy=>by rw[RVs] at r;subst r;cases rv;cases hy
 |d::ds,vs,its,y,r,rv,hy=>by
  rw[RVs] at r;obtain⟨v,vs',rfl,r1,r2⟩:=r;cases rv with
  |cons q1 q2=>
   rcases YA.mp hy with rfl | hy
   ·exact⟨d,v,ZY,r1,q1⟩
   ·obtain⟨d',v',h1,h2⟩:=pA r2 q2 hy
    exact⟨d',v',ZZ _ h1,h2⟩
def keyD:D->Option Key
 |.int i=>some (.inl i)
 |.str x=>some (.inr x)
 |_=>none
theorem yD{K:Za}{d:D}{k:Key}{v:V}(h:keyD d=some k)(r:RV K H d v):v=kV k:=by
 cases d with
 |int i=>cases h;exact RV.int_.1 r
 |str i=>cases h;exact RV.str_.1 r
 |_=>cases h
def valD(kvs:ZB)(k:Key):Option D:=(kvs.find? λkv=>decide (kv.1=k)).map (·.2)
theorem q9{k:Key}:∀{kvs:ZB}{kws:List (Key×V)},kws.map (·.1)=kvs.map (·.1)->(valV kws k).isSome=(valD kvs k).isSome
 |[],[],_=>rfl
 |[],_::_,e=>by cases e
 |_::_,[],e=>by cases e
 |(k1,d1)::kvs,(k2,v2)::kws,e=>by
  simp only[YJ,List.cons.injEq] at e;obtain⟨e1,e2⟩:=e;subst e1;unfold valV valD;rw[XD,XD];by_cases q:k2=k
  ·simp only[YT q,Option.map_some,Option.isSome_some]
  ·simp only[ZQ q]
   exact q9 e2
def rdD:Option MO->Option (List (Key×D))
 |some (.dic kvs)=>some kvs
 |some (.rod kvs)=>some kvs
 |_=>none
theorem RM.dict{K:Za}{H:Hp}{M:MH}{a:Addr}{kvs:ZB}(m:RM K M H)(h:rdD (M a)=some kvs):∃kws:List (Key×V),Rd H a (.dK kws)/\kws.map (·.1)=kvs.map (·.1)/\RVs K H (kvs.map (·.2)) (kws.map (·.2)):=by
 cases e:M a with
 |none=>rw[e] at h;cases h
 |some o=>
  rw[e] at h;cases o with
  |dic xs=>cases h;obtain⟨kws,q,r⟩:=m a _ e;exact⟨kws,.inl q,r⟩
  |rod xs=>cases h;obtain⟨u,kws,q,r⟩:=m a _ e;exact⟨kws,.inr ⟨u,q⟩,r⟩
  |_=>cases h
def inD(x:D)(ds:List D):Bool:=ds.any λd=>eqD d x
def qi{α:Type}(o:Option α)(Q:α->Prop):Prop:=match o with
 |some x=>Q x
 |none=>False
theorem wn{α:Type}{o:Option α}{Q:α->Prop}(h:qi o Q):∃x,o=some x/\Q x:=by
 cases o with
 |none=>exact Yh h
 |some x=>exact⟨x,rfl,h⟩
def dInP(x y:D)(M:MH)(Q:Bool->Prop):Prop:=match y with
 |.tup ds=>(aM x=true/\aO ds=true/\bz ds<=30)/\Q (inD x ds)
 |.ref a=>match rdL (M a) with
  |some ds=>(aM x=true/\aO ds=true/\bz ds<=30)/\Q (inD x ds)
  |none=>qi (rdD (M a)) λkvs=>qi (keyD x) λk=>Q (valD kvs k).isSome
 |.str j=>match x with
  |.str i=>Q (!(Builtin.Str.occurrences j i 0 j.length 1).isEmpty)
  |_=>False
 |_=>False
theorem in_D{s:Shared}{pins:Zc}{ρ:L2.St}{M:MH}{x y:D}{v u:V}{v' u':Value}{Q:Bool->Prop}(I:Inv X pins ρ H s)(hu:X.A.units+40<cLine)(rx:RV X.K H x v)(ry:RV X.K H y u)(m:RM X.K M H)(r:RelV v v')(r':RelV u u')(h:dInP x y M Q):
  ∃k,Q k/\(∀(Q':Zb),(∀s',Inv X pins ρ H s'->Q' (.bool k) s')->wpAny 'c' X.A (compareOp .In v' u') Q' X.xe s)/\(∀(Q':Zb),(∀s',Inv X pins ρ H s'->Q' (.bool (!k)) s')->wpAny 'c' X.A (compareOp .NotIn v' u') Q' X.xe s):=by
 have key:∀{ds:List D}{vs:List V}{its:Zd},aM x=true->aO ds=true->bz ds<=30->RVs X.K H ds vs->Vals vs its ->
   (∀y,y∈its.toArray->SeqAt.EqAt X.A.in1 s y v' (mX X.K H ds x y))/\its.toArray.any (mX X.K H ds x)=inD x ds:=λ{ds vs its} px pd hd rr rv=>by
  refine⟨λy hy=>?_,?_⟩
  ·obtain⟨d,w',h1,h2,h3⟩:=pA rr rv (by simpa using hy)
   rw[lC I pd h1 h2 h3];obtain⟨i,hi⟩:=XR h1
   have:=gv hi
   exact sn 30 d x I 'b' (by rw[units_in1];omega) (bN pd hi) px h2 rx h3 r
  ·rw[List.any_toArray]
   exact u5 rr rv λd w' u h1 h2 h3=>lC I pd h1 h2 h3
 cases y with
 |tup ds=>
  obtain⟨b,us,rfl,sq,rr⟩:=RV.tup_.1 ry;obtain⟨its,rv,tp,_⟩:=I.tuple sq;cases r';obtain⟨k1,k2⟩:=key h.1.1 h.1.2.1 h.1.2.2 rr rv;have tp:s.heap.IsTuple b its.toArray:=tp;exact⟨_,h.2,λQ' q=>SeqAt.in_tupleAt _ tp k1 (by rw[k2];exact q s I),λQ' q=>SeqAt.notIn_tupleAt _ tp k1 (by rw[k2];exact q s I)⟩
 |ref b=>
  cases RV.ref_.1 ry;cases r';have h:match rdL (M b) with
   |some ds=>(aM x=true/\aO ds=true/\bz ds<=30)/\Q (inD x ds)
   |none=>qi (rdD (M b)) λkvs=>qi (keyD x) λk=>Q (valD kvs k).isSome:=h
  split at h
  ·rename_i ds e1
   obtain⟨vs,sq,rr⟩:=m.list e1;obtain⟨its,rv,tp,_⟩:=I.list sq;obtain⟨k1,k2⟩:=key h.1.1 h.1.2.1 h.1.2.2 rr rv;exact⟨_,h.2,λQ' q=>SeqAt.in_listAt _ tp.isList k1 (by rw[k2];exact q s I),λQ' q=>SeqAt.notIn_listAt _ tp.isList k1 (by rw[k2];exact q s I)⟩
  ·obtain⟨kvs,e1,h⟩:=wn h
   obtain⟨k,e2,h⟩:=wn h;obtain⟨kws,e3,e4,_⟩:=m.dict e1
   have:=yD e2 rx
   subst this;have g:DGet H b (kV k) (valV kws k):=.inl ⟨kws,k,e3,rfl,rfl⟩;refine⟨_,h,λQ' q=>d_in 'b' I g r λs' I'=>?_,λQ' q=>Ev 'b' I g r λs' I'=>?_⟩
   ·rw[q9 e4];exact q s' I'
   ·rw[q9 e4];exact q s' I'
 |str j=>
  cases RV.str_.1 ry;cases x with
  |str i=>
   cases RV.str_.1 rx;obtain⟨t,rfl⟩:=r;obtain⟨t',rfl⟩:=r';exact⟨_,h,λQ' q=>P.in_str (q s I),λQ' q=>notIn_str (q s I)⟩
  |_=>exact Yh h
 |_=>exact Yh h
def dInV:R2d:=λx y M Q=>dInP x y M λb=>Q (.bl b) M
def ug:R2d:=λx y M Q=>dInP x y M λb=>Q (.bl (!b)) M
theorem GJ(hu:X.A.units+40<cLine):OpD X (compareOp .In) dInV:=by
 intro x y v u H M Q rx ry rm h pins s ρ v' u' I r r';obtain⟨b,q,h1,_⟩:=in_D I hu rx ry rm r r' h;exact h1 _ λs' I'=>⟨.bl b,H,I',rfl,ay (RV.bl_.2 rfl) rm q⟩
theorem AY(hu:X.A.units+40<cLine):OpD X (compareOp .NotIn) ug:=by
 intro x y v u H M Q rx ry rm h pins s ρ v' u' I r r';obtain⟨b,q,_,h1⟩:=in_D I hu rx ry rm r r' h;exact h1 _ λs' I'=>⟨.bl (!b),H,I',rfl,ay (RV.bl_.2 rfl) rm q⟩
def vK:D->Bool
 |.non=>true
 |_=>false
def isBl:D->Bool
 |.bl _=>true
 |_=>false
def isB:Bool->D->Bool
 |true,.bl a=>a
 |false,.bl a=>!a
 |_,_=>false
def isW(x y:D):Bool:=match y with
 |.non=>true
 |.bl _=>isBl x
 |_=>false
def zG(x y:D):Bool:=match y with
 |.non=>vK x
 |.bl b=>isB b x
 |_=>false
def dIsV:R2d:=λx y M Q=>isW x y=true/\Q (.bl (zG x y)) M
def uh:R2d:=λx y M Q=>isW x y=true/\Q (.bl (!zG x y)) M
theorem rc{K:Za}{x:D}{v:V}(r:RV K H x v):decide (v=.non)=vK x:=by
 cases x with
 |non=>cases RV.non_.1 r;rfl
 |tup ds=>obtain⟨a,xs,rfl,_⟩:=RV.tup_.1 r;rfl
 |bl _=>cases RV.bl_.1 r;rfl
 |int _=>cases RV.int_.1 r;rfl
 |str _=>cases RV.str_.1 r;rfl
 |ref _=>cases RV.ref_.1 r;rfl
 |ty _=>cases RV.ty_.1 r;rfl
theorem GK(a b:Bool):(a==b)=isB b (.bl a):=by cases a<;>cases b<;>rfl
theorem GL:OpD X (compareOp .Is) dIsV:=by
 intro x y v u H M Q rx ry rm h;obtain⟨h1,h2⟩:=h;cases y with
 |non=>
  cases RV.non_.1 ry;exact fJ Gd ⟨rfl,by rw[rc rx];exact ay (RV.bl_.2 rfl) rm h2⟩
 |bl b=>
  cases x with
  |bl a=>
   cases RV.bl_.1 rx;cases RV.bl_.1 ry;intro pins s ρ v' u' I r r';cases r;cases r';refine is_bool ?_;rw[GK];exact⟨.bl (isB b (.bl a)),H,I,rfl,ay (RV.bl_.2 rfl) rm h2⟩
  |_=>cases h1
 |_=>cases h1
theorem AZ:OpD X (compareOp .IsNot) uh:=by
 intro x y v u H M Q rx ry rm h;obtain⟨h1,h2⟩:=h;cases y with
 |non=>
  cases RV.non_.1 ry;exact fJ Ea ⟨rfl,by rw[rc rx];exact ay (RV.bl_.2 rfl) rm h2⟩
 |bl b=>
  cases x with
  |bl a=>
   cases RV.bl_.1 rx;cases RV.bl_.1 ry;intro pins s ρ v' u' I r r';cases r;cases r';refine isnot_bool ?_;rw[show(a != b) = !isB b (.bl a) by cases a<;>cases b<;>rfl];exact⟨.bl (!isB b (.bl a)),H,I,rfl,ay (RV.bl_.2 rfl) rm h2⟩
  |_=>cases h1
 |_=>cases h1
def dLt:D->D->MH->DK->Prop
 |.int i,.int j,M,Q=>Q (.bl (decide (i<j))) M
 |.tup [.int a,.int b],.tup [.int c,.int d],M,Q=>Q (.bl (decide (a<c\/a=c/\b<d))) M
 |_,_,_,_=>False
theorem lex2(a b c d:Int):HT.lexLt [a,b] [c,d]=decide (a<c\/a=c/\b<d):=by
 rw[HT.nE,HT.nE,HT.oC];split
 ·rename_i e
  subst e;split
  ·rename_i e
   subst e;simp
  ·simp
 ·rename_i e
  simp[e]
theorem DM{K:Za}{H:Hp}{a b:Int}{vs:List V}{its:Zd}(r:RVs K H [.int a,.int b] vs)(v:Vals vs its):IntsAre its.toArray.toList [a,b]:=by
 rw[RVs] at r;obtain⟨x,vs',rfl,r1,r2⟩:=r;rw[RVs] at r2;obtain⟨y,vs'',rfl,r3,r4⟩:=r2;rw[RVs] at r4;subst r4;cases RV.int_.1 r1;cases RV.int_.1 r3;exact intsAre_of (ns:=[a,b]) v
theorem GM(hu:X.A.units+40<cLine):OpD X (compareOp .Lt) dLt:=by
 intro x y v u H M Q rx ry rm h;unfold dLt at h;split at h
 ·exact su (g:=λi j=>decide (i<j)) HF _ _ v u H _ _ rx ry rm h
 ·obtain⟨p,us,rfl,sq,rr⟩:=RV.tup_.1 rx
  obtain⟨q,ws,rfl,sq',rr'⟩:=RV.tup_.1 ry;intro pins s ρ v' u' I r r';obtain⟨its,rv,tp,_⟩:=I.tuple sq;obtain⟨its',rv',tp',_⟩:=I.tuple sq';cases r;cases r';refine HT.zi tp tp' (DM rr rv) (DM rr' rv') 'b' ?_;rw[lex2];exact⟨.bl _,H,I,rfl,ay (RV.bl_.2 rfl) rm h⟩
 ·exact Yh h
def dCmp:CmpOp->R2d
 |.Eq=>dEqV
 |.NotEq=>dNeV
 |.Lt=>dLt
 |.LtE=>dIB λi j=>decide (i<=j)
 |.Gt=>dIB λi j=>decide (j<i)
 |.GtE=>dIB λi j=>decide (j<=i)
 |.Is=>dIsV
 |.IsNot=>uh
 |.In=>dInV
 |.NotIn=>ug
theorem yE(hu:X.A.units+40<cLine)(op:CmpOp):OpD X (compareOp op) (dCmp op):=by
 cases op with
 |Eq=>exact GH hu
 |NotEq=>exact GI hu
 |Lt=>exact GM hu
 |LtE=>exact su HG
 |Gt=>exact su HH
 |GtE=>exact su HI
 |Is=>exact GL
 |IsNot=>exact AZ
 |In=>exact GJ hu
 |NotIn=>exact AY hu
def xW(X:Cx):R2:=λx y H Q=>∀value slice pins s ρ v u,Inv X pins ρ H s->RelV x v->RelV y u->subscripted slice false v u=operate [v,u] (getItem v u)->wpAny 'c' X.A (subscriptTail value slice v u) (EP X pins ρ Q) X.xe s
theorem ix_W:IxR X (xW X):=λvalue slice pins s σ _ _ _ v u _ I rx ry h hs=>h value slice pins s σ v u I rx ry hs
theorem lD{r:R2}{x y:V}{Q:VK}(h:IxR X r)(q:r x y H Q):xW X x y H Q:=λvalue slice pins s ρ v u I rx ry hs=>h value slice pins s ρ H x y v u Q I rx ry q hs
theorem E7{x y:V}{Q Q':VK}(h:xW X x y H Q)(g:∀v H',Q v H'->Q' v H'):xW X x y H Q':=λvalue slice pins s ρ v u I rx ry hs=>thn (h value slice pins s ρ v u I rx ry hs) λ_ _ ⟨v,H',I',r,q⟩=>⟨v,H',I',r,g v H' q⟩
theorem qj(hu:X.A.units+1<cLine):IxR X (λx y H Q=>∃a v,x=.ref a/\DGet H a y (some v)/\Q v H):=by
 intro value slice pins s σ H x y v u Q I rx ry h hs;obtain⟨a,z,rfl,g,q⟩:=h;cases rx;exact tail_any (xP I g) PySem.F.slot_dict_getitem.lookup (AB hu I g ry λw' s3 I3 rw'=>⟨z,H,I3,rw',q⟩) hs
theorem mY{K:Za}:∀{kvs:ZB}{kws:List (Key×V)}{k:Key}{d:D},kws.map (·.1)=kvs.map (·.1)->RVs K H (kvs.map (·.2)) (kws.map (·.2))->valD kvs k=some d->∃v,valV kws k=some v/\RV K H d v
 |[],_,_,_,_,_,h=>by cases h
 |(k',d')::kvs,[],_,_,e,_,_=>by cases e
 |(k',d')::kvs,(k2,v2)::kws,k,d,e,r,h=>by
  simp only[YJ,List.cons.injEq] at e;obtain⟨e1,e2⟩:=e;subst e1;simp only[YJ] at r;rw[RVs] at r;obtain⟨v,vs,z,r1,r2⟩:=r;cases z;unfold valD at h;unfold valV;rw[XD] at h ⊢;by_cases q:k2=k
  ·simp only[YT q,Option.map_some] at h ⊢
   cases h;exact⟨v2,rfl,r1⟩
  ·simp only[ZQ q] at h ⊢
   exact mY e2 r2 h
def optD{α:Type}(o:Option α)(Q:α->Prop):Prop:=match o with
 |some x=>Q x
 |none=>False
theorem aL{α:Type}{o:Option α}{Q:α->Prop}(h:optD o Q):∃x,o=some x/\Q x:=by
 cases o with
 |none=>exact Yh h
 |some x=>exact⟨x,rfl,h⟩
def dIx:R2d:=λx y M Q=>match x,y with
 |.tup ds,.int i=>optD (atI ds i) λd=>Q d M
 |.str z,.int i=>z.length<=sizeLine/\optD (atI z.cps.toList i) λc=>Q (.str ⟨#[c]⟩) M
 |.ref a,.int i=>match M a with
  |some (.lst ds)=>optD (atI ds i) λd=>Q d M
  |some (.rol ds)=>optD (atI ds i) λd=>Q d M
  |some (.dic kvs)=>optD (valD kvs (.inl i)) λd=>Q d M
  |some (.rod kvs)=>optD (valD kvs (.inl i)) λd=>Q d M
  |_=>False
 |.ref a,.str k=>match M a with
  |some (.dic kvs)=>optD (valD kvs (.inr k)) λd=>Q d M
  |some (.rod kvs)=>optD (valD kvs (.inr k)) λd=>Q d M
  |_=>False
 |_,_=>False
theorem wo{K:Za}{ds:List D}{vs:List V}{i:Int}{d:D}(rr:RVs K H ds vs)(h:atI ds i=some d):∃v,atI vs i=some v/\RV K H d v:=by
 unfold atI at h ⊢;rw[←rr.len];cases q:ixN ds.length i with
 |none=>rw[q] at h;cases h
 |some j=>
  rw[q] at h;obtain⟨v,hv,r⟩:=cO rr.p (show ds[j]?=some d from h);exact⟨v,hv,r⟩
theorem ixd(hu:X.A.units+40<cLine){x y:D}{v u:V}{M:MH}{Q:DK}(rx:RV X.K H x v)(ry:RV X.K H y u)(rm:RM X.K M H)(h:dIx x y M Q):xW X v u H (lift X.K H Q):=by
 cases x with
 |tup ds=>cases y with
  |int i=>
   obtain⟨d,e1,q⟩:=aL h;obtain⟨a,vs,rfl,sq,rr⟩:=RV.tup_.1 rx;cases RV.int_.1 ry;obtain⟨w',e2,r⟩:=wo rr e1;exact lD Gn ⟨a,vs,i,w',rfl,rfl,sq,e2,ay r rm q⟩
  |_=>exact Yh h
 |str z=>cases y with
  |int i=>
   obtain⟨h1,h⟩:=h;obtain⟨c,e1,q⟩:=aL h;cases RV.str_.1 rx;cases RV.int_.1 ry;exact lD Go ⟨z,i,c,rfl,rfl,h1,e1,ay (RV.str_.2 rfl) rm q⟩
  |_=>exact Yh h
 |ref a=>
  cases RV.ref_.1 rx;cases y with
  |int i=>
   cases RV.int_.1 ry;have h:match M a with
    |some (.lst ds)=>optD (atI ds i) λd=>Q d M
    |some (.rol ds)=>optD (atI ds i) λd=>Q d M
    |some (.dic kvs)=>optD (valD kvs (.inl i)) λd=>Q d M
    |some (.rod kvs)=>optD (valD kvs (.inl i)) λd=>Q d M
    |_=>False:=h
   split at h
   ·rename_i ds e0
    obtain⟨d,e1,q⟩:=aL h;obtain⟨vs,e2,rr⟩:=rm a _ e0;obtain⟨w',e3,r⟩:=wo rr e1;exact lD yr ⟨a,vs,i,w',rfl,rfl,SqL.of e2,e3,ay r rm q⟩
   ·rename_i ds e0
    obtain⟨d,e1,q⟩:=aL h;obtain⟨vs,e2,rr⟩:=rm a _ e0;obtain⟨w',e3,r⟩:=wo rr e1;exact lD yr ⟨a,vs,i,w',rfl,rfl,.inl e2,e3,ay r rm q⟩
   ·rename_i kvs e0
    obtain⟨d,e1,q⟩:=aL h;obtain⟨kws,e2,e3,rr⟩:=rm a _ e0;obtain⟨w',e4,r⟩:=mY e3 rr e1;exact lD (qj 'b') ⟨a,w',rfl,by rw[←e4];exact DGet.k (k:=.inl i) e2,ay r rm q⟩
   ·rename_i kvs e0
    obtain⟨d,e1,q⟩:=aL h;obtain⟨u0,kws,e2,e3,rr⟩:=rm a _ e0;obtain⟨w',e4,r⟩:=mY e3 rr e1;exact lD (qj 'b') ⟨a,w',rfl,by rw[←e4];exact .inl ⟨kws,.inl i,.inr ⟨u0,e2⟩,rfl,rfl⟩,ay r rm q⟩
   ·exact Yh h
  |str k=>
   cases RV.str_.1 ry;have h:match M a with
    |some (.dic kvs)=>optD (valD kvs (.inr k)) λd=>Q d M
    |some (.rod kvs)=>optD (valD kvs (.inr k)) λd=>Q d M
    |_=>False:=h
   split at h
   ·rename_i kvs e0
    obtain⟨d,e1,q⟩:=aL h;obtain⟨kws,e2,e3,rr⟩:=rm a _ e0;obtain⟨w',e4,r⟩:=mY e3 rr e1;exact lD (qj 'b') ⟨a,w',rfl,by rw[←e4];exact DGet.k (k:=.inr k) e2,ay r rm q⟩
   ·rename_i kvs e0
    obtain⟨d,e1,q⟩:=aL h;obtain⟨u0,kws,e2,e3,rr⟩:=rm a _ e0;obtain⟨w',e4,r⟩:=mY e3 rr e1;exact lD (qj 'b') ⟨a,w',rfl,by rw[←e4];exact .inl ⟨kws,.inr k,.inr ⟨u0,e2⟩,rfl,rfl⟩,ay r rm q⟩
   ·exact Yh h
  |_=>exact Yh h
 |_=>exact Yh h
def kN:Expr->Bool
 |.Slice _ _ _ _=>false
 |_=>true
theorem E8(h:kN b=true):yq b:=by
 intro o i;cases b<;>first | rfl | (exact absurd (show false=true from h) YD)
theorem GN(hu:X.A.units+40<cLine){ta tb:WE}(ha:PEd X a ta)(hb:PEd X b tb)(hs:kN b=true):PEd X (.Subscript a b pos) (wOp dIx ta tb):=by
 intro σ M ρ H Q rs rm h;refine bv (HQ ix_W (pe_W a) (pe_W b) (E8 hs)) ?_;show tW X a ρ H _;refine aG (two ha hb rs rm h) λv H1 q1=>?_
 show tW X b ρ H1 _;refine aG q1 λu H2 zz5=>?_
 obtain⟨k,x,y,M2,r1,r2,m2,q⟩:=zz5;exact E7 (ixd hu r1 r2 m2 q) λ_ _=>bK k
end
end DD
namespace HT
open PySem PySem.Spec PyProof.Rows L2
section
variable {prog:Zw}{w:World}{A:Around}{E:Zb}{s:Shared}
theorem qG{t sl:Addr}{items:Zl}{vl vu:Value}{lo hi:Zq}{Q:Zb}(ht:IsTup s.heap t items)(hs:s.heap.IsSliceOf sl vl vu .none)(pl:IsPart vl lo)(pu:IsPart vu hi)
  (hw:sIx items.size 0 lo=0/\sIx items.size items.size hi=items.size) (h:Q (.ref t) s):wpAny (model prog w) A (getItem (.ref t) (.ref sl)) Q E s:=by
 obtain⟨os,hos,hcs,hds⟩:=id hs;have hTs:s.TypeIs (.ref sl) "slice":=⟨os,hos,hcs⟩;unfold getItem;try with_reducible refine Yj ?_
 first | refine Yb (Yc ?_) | skip
 refine Yb (wpAny_sequenceKey ht.typeIs 'a' ?_);refine Yb (wpAny_callSpecial?_slot (name:=Str.ofString "__getitem__") ht.typeIs PyProof.Rows.slot_tuple_getitem
  (wpAny_call_entry PyProof.Rows.slot_tuple_getitem ht.typeIs entry_tuple_getitem ?_ (args_tuple_getitem _ _)))
 show wpAny _ _ (Builtin.Tuple.tupleItemsOf (.ref t) >>= _) _ _ s;refine Yb (tupleItemsOf_ ht ?_);refine Yb (wpAny_typeOf hTs ?_);rw[if_pos 'a'];refine Yb (kA hs pl pu ?_);show wpAny _ _ (if(((sIx items.size 0 lo:Nat):Int)==0&&(1:Int)==1&&(sIx items.size items.size hi-sIx items.size 0 lo)==items.size)=true then _ else _) _ _ s;rw[if_pos (by rw[hw.1,hw.2];simp)];refine Yb (m:=Builtin.Tuple.tupleIsExact _) (Yb (wpAny_typeOf ht.typeIs (Yc ?_)));rw[if_pos 'a'];refine Yb (wpAny_rule ?_);exact Yc ⟨_,rfl,Yc h⟩
end
end HT
namespace DD
open PySem PySem.Spec PyProof.Rows L2
section
variable {X:Cx}{H:Hp}{e a b c o:Expr}{es:Zg}{pos:Pos}
theorem GO:SlR X (λx lo hi H Q=>∃z,x=.str z/\z.length<=sizeLine/\Q (.str (Txt.slice z lo hi)) H):=by
 intro pins s σ H x v vl vu lo hi sl Q I rx hs pl pu h;obtain⟨z,rfl,hz,q⟩:=h;obtain⟨t,rfl⟩:=rx;obtain⟨ob,h1,h2,h3⟩:=hs;refine⟨"str",_,F.slot_str_getitem.lookup,typeIs_str _ _ _,?_⟩;cases pl with
 |none=>cases pu with
  |none=>exact wpAny_getItem_str_slice (l:=none) (u:=none) (st:=none) ⟨ob,h1,h2,h3⟩ rfl (post_val_or_str ⟨ZX (Txt.slice_le z _ _) hz,λt' k=>⟨.str _,H,I.tok _,⟨t',rfl⟩,q⟩⟩)
  |int j u=>exact wpAny_getItem_str_slice (l:=none) (u:=some (j,u)) (st:=none) ⟨ob,h1,h2,h3⟩ rfl (post_val_or_str ⟨ZX (Txt.slice_le z _ _) hz,λt' k=>⟨.str _,H,I.tok _,⟨t',rfl⟩,q⟩⟩)
 |int i t0=>cases pu with
  |none=>exact wpAny_getItem_str_slice (l:=some (i,t0)) (u:=none) (st:=none) ⟨ob,h1,h2,h3⟩ rfl (post_val_or_str ⟨ZX (Txt.slice_le z _ _) hz,λt' k=>⟨.str _,H,I.tok _,⟨t',rfl⟩,q⟩⟩)
  |int j u=>exact wpAny_getItem_str_slice (l:=some (i,t0)) (u:=some (j,u)) (st:=none) ⟨ob,h1,h2,h3⟩ rfl (post_val_or_str ⟨ZX (Txt.slice_le z _ _) hz,λt' k=>⟨.str _,H,I.tok _,⟨t',rfl⟩,q⟩⟩)
def slW(X:Cx):V->Option Int->Option Int->Hp->VK->Prop:=λx lo hi H Q=>∀pins s ρ v vl vu sl,Inv X pins ρ H s->RelV x v->s.heap.IsSliceOf sl vl vu .none->IsPart vl lo->IsPart vu hi ->
 ∃T id,typeLookup (.type T) "__getitem__" = pure (some (.builtin id))/\s.TypeIs v T/\wpAny 'c' X.A (getItem v (.ref sl)) (EP X pins ρ Q) X.xe s
theorem sl_W:SlR X (slW X):=λpins s σ _ _ v vl vu _ _ sl _ I rx hs pl pu h=>h pins s σ v vl vu sl I rx hs pl pu
theorem sv{r:V->Option Int->Option Int->Hp->VK->Prop}{x:V}{lo hi:Zq}{Q:VK}(h:SlR X r)(q:r x lo hi H Q):slW X x lo hi H Q:=λpins s ρ v vl vu sl I rx hs pl pu=>h pins s ρ H x v vl vu lo hi sl Q I rx hs pl pu q
theorem CJ{x:V}{lo hi:Zq}{Q Q':VK}(h:slW X x lo hi H Q)(g:∀v H',Q v H'->Q' v H'):slW X x lo hi H Q':=λpins s ρ v vl vu sl I rx hs pl pu=>
 let⟨T,id,h1,h2,h3⟩:=h pins s ρ v vl vu sl I rx hs pl pu;⟨T,id,h1,h2,thn h3 λ_ _ ⟨v,H',I',r,q⟩=>⟨v,H',I',r,g v H' q⟩⟩
def cutL{α:Type}(xs:List α)(lo hi:Zq):List α:=(xs.drop (HT.sIx xs.length 0 lo)).take (HT.sIx xs.length xs.length hi-HT.sIx xs.length 0 lo)
theorem A0{K:Za}{ds:List D}{vs:List V}(r:RVs K H ds vs)(lo hi:Zq):RVs K H (cutL ds lo hi) (cutV vs lo hi):=by
 unfold cutL cutV;rw[←r.len];exact RVs.of (t8 _ (yu _ r.p))
def rSlW(K:Za):V->Option Int->Option Int->Hp->VK->Prop:=λx lo hi H Q=>∃a xs,x=.ref a/\SqT K H a xs/\(HT.sIx xs.length 0 lo=0/\HT.sIx xs.length xs.length hi=xs.length)/\Q (.ref a) H
theorem E9:SlR X (rSlW X.K):=by
 intro pins s σ H x v vl vu lo hi sl Q I rx hs pl pu h;obtain⟨a,xs,rfl,hx,hw,q⟩:=h;cases rx;obtain⟨its,r,ht,hz⟩:=I.tuple hx;have hlen:its.toArray.size=xs.length:=by rw[YG];exact r.length.symm
 refine⟨"tuple",_,PyProof.Rows.slot_tuple_getitem.lookup,ht.typeIs,?_⟩;exact HT.qG ht hs pl pu (by rw[hlen];exact hw) ⟨.ref a,H,I,rfl,q⟩
def dSl(x:D)(lo hi:Zq)(M:MH)(Q:DK):Prop:=match x with
 |.tup ds=>Q (.tup (cutL ds lo hi)) M
 |.str z=>z.length<=sizeLine/\Q (.str (Txt.slice z lo hi)) M
 |.ref a=>optD (rdL (M a)) λds=>∀p,M p=none->Q (.ref p) (updM M p (.lst (cutL ds lo hi)))
 |_=>False
theorem sld{x:D}{v:V}{lo hi:Zq}{M:MH}{Q:DK}(rx:RV X.K H x v)(rm:RM X.K M H)(h:dSl x lo hi M Q):slW X v lo hi H (lift X.K H Q):=by
 cases x with
 |tup ds=>
  obtain⟨a,vs,rfl,sq,rr⟩:=RV.tup_.1 rx;by_cases hw:HT.sIx ds.length 0 lo=0/\HT.sIx ds.length ds.length hi=ds.length
  ·have h:Q (.tup (cutL ds lo hi)) M:=h
   have e:cutL ds lo hi=ds:=by unfold cutL;rw[hw.1,hw.2];simp
   rw[e] at h;exact sv E9 ⟨a,vs,rfl,sq,by rw[←rr.len];exact hw,ay rx rm h⟩
  refine sv Gm ⟨a,vs,rfl,sq,by rw[←rr.len];exact hw,λp hp=>?_⟩;have k:=Kp.new (o:=.tup (cutV vs lo hi)) hp;exact⟨k,.tup (cutL ds lo hi),M,RV.tup_.2 ⟨p,_,rfl,SqT.of az,RVs.mono k _ (A0 rr lo hi)⟩,rm.newH hp,h⟩
 |str z=>cases RV.str_.1 rx;exact sv GO ⟨z,rfl,h.1,ay (RV.str_.2 rfl) rm h.2⟩
 |ref a=>
  cases RV.ref_.1 rx;obtain⟨ds,e1,q⟩:=aL h;obtain⟨vs,sq,rr⟩:=rm.list e1;refine sv Er ⟨a,vs,rfl,sq,λp hp=>?_⟩;have k:=Kp.new (o:=.lst (cutV vs lo hi)) hp;exact⟨k,.ref p,_,RV.ref_.2 rfl,rm.new (m:=.lst (cutL ds lo hi)) hp ⟨_,az,RVs.mono k _ (A0 rr lo hi)⟩,q p (rm.fresh hp)⟩
 |_=>exact Yh h
def intD(x:D)(Q:Int->Prop):Prop:=match x with
 |.int i=>Q i
 |_=>False
theorem qk{x:D}{Q:Int->Prop}(h:intD x Q):∃i,x=.int i/\Q i:=by
 cases x with
 |int i=>exact⟨i,rfl,h⟩
 |_=>exact Yh h
abbrev WO:=DS->MH->(Option Int->MH->Prop)->Prop
def oWp(X:Cx)(e:Option Expr):TO:=λρ H Q=>∀pins s,Inv X pins ρ H s->wpAny 'c' X.A (evalPart e X.env) (λu s'=>∃o H',Inv X pins ρ H' s'/\IsPart u o/\Q o H') X.xe s
theorem po_W(e:Option Expr):PO X e (oWp X e):=λpins s _ _ _ I h=>h pins s I
def POd(X:Cx)(e:Option Expr)(t:WO):Prop:=∀σ M ρ H Q,RS X.K H σ ρ->RM X.K M H->t σ M Q->oWp X e ρ H λo H'=>Kp H H'/\∃M',RM X.K M' H'/\Q o M'
theorem CK:POd X none (λ_ M Q=>Q none M):=λσ M ρ H Q rs rm q pins s I=>Em pins s ρ H _ I ⟨Kp.refl H,M,rm,q⟩
theorem CL{t:WE}(h:PEd X e t):POd X (some e) (λσ M Q=>t σ M λx M1=>intD x λi=>Q (some i) M1):=λσ M ρ H Q rs rm q pins s I=>
 En (pe_W e) pins s ρ H _ I (aG (h σ M ρ H _ rs rm q) λv H1 ⟨k1,x,M1,r1,m1,q1⟩=>by
  obtain⟨i,rfl,q1⟩:=qk q1;exact⟨i,RV.int_.1 r1,k1,M1,m1,q1⟩)
theorem wp{e:Option Expr}{ρ:L2.St}{Q Q':Option Int->Hp->Prop}(h:oWp X e ρ H Q)(f:∀o H',Q o H'->Q' o H'):oWp X e ρ H Q':=λpins s I=>thn (h pins s I) λ_ _ ⟨o,H',I',r,q⟩=>⟨o,H',I',r,f o H' q⟩
def wSl(ta:WE)(tl th:WO):WE:=λσ M Q=>ta σ M λx M1=>tl σ M1 λl M2=>th σ M2 λu M3=>dSl x l u M3 Q
theorem GP{ta:WE}{tl th:WO}{lo hi:Option Expr}{p2:Pos}(ha:PEd X a ta)(hl:POd X lo tl)(hh:POd X hi th):PEd X (.Subscript a (.Slice lo hi none p2) pos) (wSl ta tl th):=by
 intro σ M ρ H Q rs rm h;refine bv (Cm sl_W (pe_W a) (po_W lo) (po_W hi)) ?_;show tW X a ρ H _;refine aG (ha σ M ρ H _ rs rm h) λv H1 zz1=>?_
 obtain⟨k1,x,M1,r1,m1,q1⟩:=zz1;show oWp X lo ρ H1 _;refine wp (hl σ M1 ρ H1 _ (rs.mono k1) m1 q1) λl H2 zz2=>?_
 obtain⟨k2,M2,m2,q2⟩:=zz2;show oWp X hi ρ H2 _;refine wp (hh σ M2 ρ H2 _ (rs.mono (k1.trans k2)) m2 q2) λu H3 zz3=>?_
 obtain⟨k3,M3,m3,q3⟩:=zz3;exact CJ (sld (RV.mono (k2.trans k3) x r1) m3 q3) λ_ _=>bK (k1.trans (k2.trans k3))
def cW(X:Cx)(f:Value):List V->Hp->VK->Prop:=λvs H Q=>∀pins s ρ us,Inv X pins ρ H s->Vals vs us->wpAny 'c' X.A (call f us) (EP X pins ρ Q) X.xe s
theorem c_W(f:Value):fI X f (cW X f):=λpins s σ _ _ us _ I r h=>h pins s σ us I r
theorem fL{f:Value}{r:List V->Hp->VK->Prop}{vs:List V}{Q:VK}(h:fI X f r)(q:r vs H Q):cW X f vs H Q:=λpins s ρ us I rv=>h pins s ρ H vs us Q I rv q
theorem yF{f:Value}{vs:List V}{Q Q':VK}(h:cW X f vs H Q)(g:∀v H',Q v H'->Q' v H'):cW X f vs H Q':=λpins s ρ us I rv=>thn (h pins s ρ us I rv) λ_ _ ⟨v,H',I',r,q⟩=>⟨v,H',I',r,g v H' q⟩
def gI(X:Cx)(f:Value)(r:SpD):Prop:=∀ds vs H M Q,RVs X.K H ds vs->RM X.K M H->r ds M Q->cW X f vs H (lift X.K H Q)
theorem gw{x:Str}{id:String}{r:SpD}{t:WA}{p:Pos}(hc:gI X (.builtin id) r)(hg:Gl X x)(hm:X.mg x=none)(hv:bootBuiltins x=some (.builtin id))(hn:x ≠ "__name__")(hdb:(x==("__debug__" : Str))=false)(hs:ar e=true)(hss:es.all ar=true)
  (ha:PAd X (e::es) t):PEd X (.Call (.Name x p) (e::es) [] pos) (fK r t):=by
 intro σ M ρ H Q rs rm h;refine bv (Ch (c_W _) hg hm hv (pa_W (e::es)) hn hdb (aP hs) (cZ hss)) ?_;show tWA X (e::es) ρ H _;refine cB (ha σ M ρ H _ rs rm h) λvs H1 zz4=>?_
 obtain⟨k1,ds,M1,r1,_,m1,q1⟩:=zz4;exact yF (hc ds vs H1 M1 Q r1 m1 q1) λ_ _=>bK k1
theorem sw{x:Str}{id:String}{r:SpD}{t:WA}{p:Pos}(hc:gI X (.type id) r)(hg:Gl X x)(hm:X.mg x=none)(hv:bootBuiltins x=some (.type id))(hn:x ≠ "__name__")(hdb:(x==("__debug__" : Str))=false)(hs:ar e=true)(hss:es.all ar=true)
  (ha:PAd X (e::es) t):PEd X (.Call (.Name x p) (e::es) [] pos) (fK r t):=by
 intro σ M ρ H Q rs rm h;refine bv (Aw (c_W _) hg hm hv (pa_W (e::es)) hn hdb (aP hs) (cZ hss)) ?_;show tWA X (e::es) ρ H _;refine cB (ha σ M ρ H _ rs rm h) λvs H1 zz5=>?_
 obtain⟨k1,ds,M1,r1,_,m1,q1⟩:=zz5;exact yF (hc ds vs H1 M1 Q r1 m1 q1) λ_ _=>bK k1
theorem rvs1{K:Za}{d:D}{vs:List V}(r:RVs K H [d] vs):∃v,vs=[v]/\RV K H d v:=by
 rw[RVs] at r;obtain⟨v,vs',rfl,r1,r2⟩:=r;rw[RVs] at r2;subst r2;exact⟨v,rfl,r1⟩
theorem rvs2{K:Za}{d d':D}{vs:List V}(r:RVs K H [d,d'] vs):∃v v',vs=[v,v']/\RV K H d v/\RV K H d' v':=by
 rw[RVs] at r;obtain⟨v,vs',rfl,r1,r2⟩:=r;obtain⟨v',rfl,r3⟩:=rvs1 r2;exact⟨v,v',rfl,r1,r3⟩
def dLen:SpD:=λds M Q=>match ds with
 |[.str z]=>z.length<=sizeLine/\Q (.int z.length) M
 |[.tup xs]=>Q (.int xs.length) M
 |[.ref a]=>match M a with
  |some (.lst xs)=>Q (.int xs.length) M
  |some (.rol xs)=>Q (.int xs.length) M
  |some (.dic kvs)=>Q (.int kvs.length) M
  |some (.rod kvs)=>Q (.int kvs.length) M
  |_=>False
 |_=>False
theorem A7:fI X (.builtin "len") (λxs H Q=>∃a kvs,xs=[V.ref a]/\Rd H a (.dK kvs)/\Q (.int kvs.length) H):=by
 rintro pins s σ H xs us Q I r ⟨a,kvs,rfl,ha,q⟩;obtain⟨u,rfl,ru⟩:=vals1 r;cases ru;exact DG I ha λt s' I'=>⟨.int kvs.length,H,I',⟨t,rfl⟩,q⟩
theorem GQ:gI X (.builtin "len") dLen:=by
 intro ds vs H M Q r rm h;unfold dLen at h;split at h
 ·obtain⟨v,rfl,r1⟩:=rvs1 r
  cases RV.str_.1 r1;exact fL vV ⟨_,rfl,h.1,ay (RV.int_.2 rfl) rm h.2⟩
 ·obtain⟨v,rfl,r1⟩:=rvs1 r
  obtain⟨a,us,rfl,sq,rr⟩:=RV.tup_.1 r1;exact fL kB ⟨a,us,rfl,.inr sq,ay (RV.int_.2 (by rw[rr.len])) rm h⟩
 ·obtain⟨v,rfl,r1⟩:=rvs1 r
  cases RV.ref_.1 r1;split at h
  ·rename_i xs e1
   obtain⟨us,sq,rr⟩:=rm _ _ e1;exact fL kB ⟨_,us,rfl,.inl (SqL.of sq),ay (RV.int_.2 (by rw[rr.len])) rm h⟩
  ·rename_i xs e1
   obtain⟨us,sq,rr⟩:=rm _ _ e1;exact fL kB ⟨_,us,rfl,.inl (.inl sq),ay (RV.int_.2 (by rw[rr.len])) rm h⟩
  ·rename_i kvs e1
   obtain⟨kws,q1,q2,rr⟩:=rm _ _ e1;exact fL AF ⟨_,kws,rfl,q1,ay (RV.int_.2 (by have:=congrArg List.length q2;simp only[ZE] at this;rw[this])) rm h⟩
  ·rename_i kvs e1
   obtain⟨u0,kws,q1,q2,rr⟩:=rm _ _ e1;exact fL A7 ⟨_,kws,rfl,.inr ⟨u0,q1⟩,ay (RV.int_.2 (by have:=congrArg List.length q2;simp only[ZE] at this;rw[this])) rm h⟩
  ·exact Yh h
 ·exact Yh h
def tyD(x:D)(M:MH):Option String:=match x with
 |.non=>some "NoneType"
 |.bl _=>some "bool"
 |.int _=>some "int"
 |.str _=>some "str"
 |.tup _=>some "tuple"
 |.ref a=>match M a with
  |some (.lst _)=>some "list"
  |some (.dic _)=>some "dict"
  |_=>none
 |.ty _=>none
def isT(t T:String):Bool:=t==T||(t == "bool" && T == "int")
def kinds:List String:=["NoneType","bool","int","str","tuple","list","dict"]
theorem A8:∀t∈kinds,∀T∈kinds,T ≠ "NoneType"->(if(Value.type t==Value.type T)=true then some true else if PySem.W.kitMeta T=true then(fastBuiltinMro t).map (·.contains (.type T)) else none)=some (isT t T):=by rfl'
def tysD:List D->Option (List String)
 |[]=>some []
 |.ty T::r=>(tysD r).map (T :: ·)
 |_=>none
def zH(T:String):Bool:=kinds.contains T&&T != "NoneType"
def ql:SpD:=λds M Q=>match ds with
 |[x,.ty T]=>(T∈kinds/\T ≠ "NoneType")/\optD (tyD x M) λt=>Q (.bl (isT t T)) M
 |[x,.tup ts]=>optD (tysD ts) λTs=>Ts.all zH=true/\optD (tyD x M) λt=>Q (.bl (Ts.any (isT t))) M
 |_=>False
theorem yG{K:Za}:∀{ts:List D}{Ts:List String}{vs:List V},tysD ts=some Ts->RVs K H ts vs->vs=Ts.map V.ty
 |[],Ts,vs,h,r=>by cases h;rw[RVs] at r;subst r;rfl
 |.ty T::ts,Ts,vs,h,r=>by
  rw[tysD] at h;rw[RVs] at r;obtain⟨v,vs',rfl,r1,r2⟩:=r;cases q:tysD ts with
  |none=>rw[q] at h;cases h
  |some js=>rw[q] at h;cases h;rw[yG q r2,RV.ty_.1 r1];rfl
 |.non::_,_,_,h,_=>by cases h
 |.bl _::_,_,_,h,_=>by cases h
 |.int _::_,_,_,h,_=>by cases h
 |.str _::_,_,_,h,_=>by cases h
 |.tup _::_,_,_,h,_=>by cases h
 |.ref _::_,_,_,h,_=>by cases h
theorem u6{K:Za}{t:String}(ht:t∈kinds):∀{Ts:List String}{us:Zd},Ts.all zH=true->Vals (Ts.map V.ty) us->PySem.W.kitAny K (.type t) us=some (Ts.any (isT t))
 |[],_,_,r=>by cases r;rfl
 |T::Ts,_,h,r=>by
  cases r with
  |cons q1 q2=>
   rw[XN,YV] at h;cases q1;have g:=h.1;unfold zH at g;rw[YV] at g;have k1:=AK K (A8 t ht T (by simpa using g.1) (by simpa using g.2));unfold PySem.W.kitAny;rw[k1,XE];cases isT t T with
   |true=>rfl
   |false=>exact u6 ht h.2 q2
theorem wq{x:D}{M:MH}{t:String}(h:tyD x M=some t):t∈kinds:=by
 cases x with
 |ref a=>
  have h:(match M a with
   |some (.lst _)=>some "list"
   |some (.dic _)=>some "dict"
   |_=>none)=some t:=h
  split at h<;>first | (cases h;decide) | cases h
 |ty _=>cases h
 |_=>cases h;decide
theorem CM{s:Shared}{pins:Zc}{ρ:L2.St}{M:MH}{x:D}{v:V}{v' c:Value}{t:String}{k:Bool}{Q:Zb}(I:Inv X pins ρ H s)(rx:RV X.K H x v)(rm:RM X.K M H)(r:RelV v v')(h:tyD x M=some t)(e:PySem.W.kitOne X.K (.type t) c=some k)
  (hq:∀tk,Q (.bool k) { s with toks:=tk }):wpAny 'c' X.A (call (.builtin "isinstance") [v',c]) Q X.xe s:=by
 cases x with
 |non=>cases h;cases RV.non_.1 rx;exact gu I r .non e hq
 |bl b=>cases h;cases RV.bl_.1 rx;exact gu I r (.bl b) e hq
 |int b=>cases h;cases RV.int_.1 rx;exact gu I r (.int b) e hq
 |str b=>cases h;cases RV.str_.1 rx;exact gu I r (.str b) e hq
 |ty b=>cases h
 |tup ds=>
  cases h;obtain⟨a,xs,rfl,sq,rr⟩:=RV.tup_.1 rx;obtain⟨_,_,tp,_⟩:=I.tuple sq;cases r;obtain⟨o,h1,h2,_⟩:=tp;exact PySem.W.kia_one PySem.W.kitx_tuple I.kIn ⟨o,h1,h2⟩ e (λz=>nomatch z) hq
 |ref a=>
  cases RV.ref_.1 rx;have h:(match M a with
   |some (.lst _)=>some "list"
   |some (.dic _)=>some "dict"
   |_=>none)=some t:=h
  split at h
  ·rename_i e1;cases h
   obtain⟨us,sq,rr⟩:=rm _ _ e1;exact gu I r (.lst sq) e hq
  ·rename_i e1;cases h
   obtain⟨us,sq,_⟩:=rm _ _ e1;exact gu I r (.dK sq) e hq
  ·cases h
theorem CN{s:Shared}{pins:Zc}{ρ:L2.St}{M:MH}{x:D}{v:V}{v':Value}{t:String}{k:Bool}{tp:Addr}{us:Zd}{Q:Zb}(I:Inv X pins ρ H s)(rx:RV X.K H x v)(rm:RM X.K M H)(r:RelV v v')(h:tyD x M=some t)
  (ht:IsTup s.heap tp us.toArray) (e:PySem.W.kitAny X.K (.type t) us=some k) (hq:∀tk,Q (.bool k) { s with toks:=tk }):wpAny 'c' X.A (call (.builtin "isinstance") [v',.ref tp]) Q X.xe s:=by
 obtain⟨⟨oc,od,odt,osl⟩,h1,h2,n,h3⟩:=ht;obtain rfl:oc=.type "tuple":=h2;obtain rfl:odt=.seq us.toArray n:=h3;cases x with
 |non=>cases h;cases RV.non_.1 rx;cases r;exact PySem.W.kia_tup PySem.W.kitx_none I.kIn True.intro h1 e (λz=>nomatch z) hq
 |bl b=>cases h;cases RV.bl_.1 rx;cases r;exact PySem.W.kia_tup PySem.W.kitx_bool I.kIn True.intro h1 e (λz=>nomatch z) hq
 |int b=>cases h;cases RV.int_.1 rx;obtain⟨_,rfl⟩:=r;exact PySem.W.kia_tup PySem.W.kitx_int I.kIn True.intro h1 e (λz=>nomatch z) hq
 |str b=>cases h;cases RV.str_.1 rx;obtain⟨_,rfl⟩:=r;exact PySem.W.kia_tup PySem.W.kitx_str I.kIn True.intro h1 e (λz=>nomatch z) hq
 |ty b=>cases h
 |tup ds=>
  cases h;obtain⟨a,xs,rfl,sq,rr⟩:=RV.tup_.1 rx;obtain⟨_,_,⟨o,y1,y2,_⟩,_⟩:=I.tuple sq;cases r;exact PySem.W.kia_tup PySem.W.kitx_tuple I.kIn ⟨o,y1,y2⟩ h1 e (λz=>nomatch z) hq
 |ref a=>
  cases RV.ref_.1 rx;cases r;have h:(match M a with
   |some (.lst _)=>some "list"
   |some (.dic _)=>some "dict"
   |_=>none)=some t:=h
  split at h
  ·rename_i e1;cases h
   obtain⟨us',sq,rr⟩:=rm _ _ e1;obtain⟨_,_,_,_,_,y1⟩:=I.lstM sq;exact PySem.W.kia_tup PySem.W.kitx_list I.kIn ⟨_,y1,rfl⟩ h1 e (λz=>nomatch z) hq
  ·rename_i e1;cases h
   obtain⟨us',sq,_⟩:=rm _ _ e1;obtain⟨_,_,_,_,o,es,ep,y1,y2,_⟩:=DF I.hok sq;exact PySem.W.kia_tup PySem.W.kitx_dict I.kIn ⟨o,y1,y2.1⟩ h1 e (λz=>nomatch z) hq
  ·cases h
theorem A9:gI X (.builtin "isinstance") ql:=by
 intro ds vs H M Q r rm h;unfold ql at h;split at h
 ·rename_i x T
  obtain⟨v,w',rfl,r1,r2⟩:=rvs2 r;cases RV.ty_.1 r2;obtain⟨t,e1,q⟩:=aL h.2;intro pins s ρ us I rv;obtain⟨u,u',rfl,q1,q2⟩:=rv.two;cases q2;exact CM I r1 rm q1 e1 (AK X.K (A8 t (wq e1) T h.1.1 h.1.2)) λtk=>⟨.bl _,H,I.tok tk,rfl,ay (RV.bl_.2 rfl) rm q⟩
 ·rename_i x ts
  obtain⟨v,w',rfl,r1,r2⟩:=rvs2 r;obtain⟨Ts,e0,h⟩:=aL h;obtain⟨t,e1,q⟩:=aL h.2;obtain⟨tp,xs,rfl,sq,rr⟩:=RV.tup_.1 r2;intro pins s ρ us I rv;obtain⟨u,u',rfl,q1,q2⟩:=rv.two;cases q2;obtain⟨its,rv',ht,_⟩:=I.tuple sq;rw[yG e0 rr] at rv';exact CN I r1 rm q1 e1 ht (u6 (wq e1) h.1 rv') λtk=>⟨.bl _,H,I.tok tk,rfl,ay (RV.bl_.2 rfl) rm q⟩
 ·exact Yh h
def blsD:List D->Option (List Bool)
 |[]=>some []
 |.bl b::r=>(blsD r).map (b :: ·)
 |_=>none
theorem yH{K:Za}:∀{ds:List D}{bs:List Bool}{vs:List V},blsD ds=some bs->RVs K H ds vs->vs=bs.map V.bl
 |[],bs,vs,h,r=>by rw[RVs] at r;subst r;cases h;rfl
 |.bl b::ds,bs,vs,h,r=>by
  rw[RVs] at r;obtain⟨v,vs',rfl,r1,r2⟩:=r;cases RV.bl_.1 r1;unfold blsD at h;cases q:blsD ds with
  |none=>rw[q] at h;cases h
  |some bs'=>rw[q] at h;cases h;rw[yH q r2];rfl
def dAll(f:List Bool->Bool):SpD:=λds M Q=>match ds with
 |[.ref a]=>match M a with
  |some (.lst xs)=>optD (blsD xs) λbs=>Q (.bl (f bs)) M
  |_=>False
 |_=>False
theorem GR(hc:X.calm=true):gI X (.builtin "all") (dAll λbs=>bs.all id):=by
 intro ds vs H M Q r rm h;unfold dAll at h;split at h
 ·obtain⟨v,rfl,r1⟩:=rvs1 r
  cases RV.ref_.1 r1;split at h
  ·rename_i xs e1
   obtain⟨bs,e2,q⟩:=aL h;obtain⟨us,sq,rr⟩:=rm _ _ e1
   have:=yH e2 rr
   subst this;exact fL (Cu hc) ⟨_,bs,rfl,SqL.of sq,ay (RV.bl_.2 rfl) rm q⟩
  ·exact Yh h
 ·exact Yh h
def dII(f:Int->Int->Int):SpD:=λds M Q=>match ds with
 |[.int i,.int j]=>Q (.int (f i j)) M
 |_=>False
theorem GS(hc:X.calm=true):gI X (.builtin "min") (dII λi j=>if j<i then j else i):=by
 intro ds vs H M Q r rm h;unfold dII at h;split at h
 ·obtain⟨v,v',rfl,r1,r2⟩:=rvs2 r
  cases RV.int_.1 r1;cases RV.int_.1 r2;exact fL (As hc) ⟨_,_,rfl,ay (RV.int_.2 rfl) rm h⟩
 ·exact Yh h
def sx:SpD:=λds M Q=>match ds with
 |[.tup xs]=>Q (.tup xs) M
 |[.ref a]=>optD (rdL (M a)) λxs=>Q (.tup xs) M
 |_=>False
theorem CO:gI X (.type "tuple") sx:=by
 intro ds vs H M Q r rm h;unfold sx at h;split at h
 ·obtain⟨v,rfl,r1⟩:=rvs1 r
  obtain⟨a,us,rfl,sq,rr⟩:=RV.tup_.1 r1;exact fL oE ⟨a,us,rfl,.inr ⟨sq,ay r1 rm h⟩⟩
 ·obtain⟨v,rfl,r1⟩:=rvs1 r
  cases RV.ref_.1 r1;obtain⟨xs,e1,q⟩:=aL h;obtain⟨us,sq,rr⟩:=rm.list e1;refine fL oE ⟨_,us,rfl,.inl ⟨sq,λp hp=>?_⟩⟩;have k:=Kp.new (o:=.tup us) hp;exact⟨k,.tup xs,M,RV.tup_.2 ⟨p,_,rfl,SqT.of az,RVs.mono k _ rr⟩,rm.newH hp,q⟩
 ·exact Yh h
def sy:SpD:=λds M Q=>match ds with
 |[.tup xs]=>∀p,M p=none->Q (.ref p) (updM M p (.lst xs))
 |[.ref a]=>optD (rdL (M a)) λxs=>∀p,M p=none->Q (.ref p) (updM M p (.lst xs))
 |_=>False
theorem yI:gI X (.type "list") sy:=by
 intro ds vs H M Q r rm h;unfold sy at h;split at h
 ·rename_i xs
  obtain⟨v,rfl,r1⟩:=rvs1 r;obtain⟨a,us,rfl,sq,rr⟩:=RV.tup_.1 r1;refine fL pb ⟨a,us,rfl,.inr sq,λp hp=>?_⟩;have k:=Kp.new (o:=.lst us) hp;exact⟨k,.ref p,_,RV.ref_.2 rfl,rm.new (m:=.lst xs) hp ⟨us,az,RVs.mono k _ rr⟩,h p (rm.fresh hp)⟩
 ·obtain⟨v,rfl,r1⟩:=rvs1 r
  cases RV.ref_.1 r1;obtain⟨xs,e1,q⟩:=aL h;obtain⟨us,sq,rr⟩:=rm.list e1;refine fL pb ⟨_,us,rfl,.inl sq,λp hp=>?_⟩;have k:=Kp.new (o:=.lst us) hp;exact⟨k,.ref p,_,RV.ref_.2 rfl,rm.new (m:=.lst xs) hp ⟨us,az,RVs.mono k _ rr⟩,q p (rm.fresh hp)⟩
 ·exact Yh h
inductive Bi where
 |len | isinst | all | min | tuple
 deriving DecidableEq
def dBi:Bi->SpD
 |.len=>dLen
 |.isinst=>ql
 |.all=>dAll λbs=>bs.all id
 |.min=>dII λi j=>if j<i then j else i
 |.tuple=>sx
def sA:Bi->Str
 |.len=>"len"
 |.isinst=>"isinstance"
 |.all=>"all"
 |.min=>"min"
 |.tuple=>"tuple"
theorem GT(b:Bi)(hc:X.calm=true){t:WA}{p:Pos}(hg:Gl X (sA b))(hm:X.mg (sA b)=none)(hs:ar e=true)(hss:es.all ar=true)(ha:PAd X (e::es) t):PEd X (.Call (.Name (sA b) p) (e::es) [] pos) (fK (dBi b) t):=by
 cases b with
 |len=>exact gw GQ hg hm PySem.boot_len 'a' 'a' hs hss ha
 |isinst=>exact gw A9 hg hm PyProof.Rows.boot_isinstance 'a' 'a' hs hss ha
 |all=>exact gw (GR hc) hg hm 'e' 'a' 'a' hs hss ha
 |min=>exact gw (GS hc) hg hm PyProof.Rows.boot_min 'a' 'a' hs hss ha
 |tuple=>exact sw CO hg hm 'e' 'a' 'a' hs hss ha
end
section
variable {X:Cx}{H:Hp}{e a b c o:Expr}{es:Zg}{pos:Pos}
def bA:Expr->Bool
 |.Call (.Name _ _) [] [] _=>false
 |_=>true
theorem qm{env:Env}{f:Str}{w:Sem Value}(h:bA o=true):attributeBase o f env w=w:=by
 unfold attributeBase;split
 ·exact absurd (show false=true from h) YD
 ·rfl
theorem rf{env:Env}{p:Pos}:∀{es:Zg},es.all ar=true->(backTo p (starEach es env)).all (λx=>!x.1)=true
 |[],_=>rfl
 |e::es,h=>by
  rw[XN,YV] at h;rw[aP h.1];show(true&&(backTo p (starEach es env)).all (λx=>!x.1))=true;rw[rf h.2];rfl
def mW(X:Cx)(id:String):V->List V->Hp->VK->Prop:=λx xs H Q=>∀pins s ρ v us,Inv X pins ρ H s->RelV x v->Vals xs us->wpAny 'c' X.A (call (.builtin id) (v::us)) (EP X pins ρ Q) X.xe s
theorem m_W(id:String):MtR X id (mW X id):=λpins s σ _ _ _ v us _ I r rv h=>h pins s σ v us I r rv
theorem qo{id:String}{r:V->List V->Hp->VK->Prop}{x:V}{xs:List V}{Q:VK}(h:MtR X id r)(q:r x xs H Q):mW X id x xs H Q:=λpins s ρ v us I rx rv=>h pins s ρ H x xs v us Q I rx rv q
theorem yJ{id:String}{x:V}{xs:List V}{Q Q':VK}(h:mW X id x xs H Q)(g:∀v H',Q v H'->Q' v H'):mW X id x xs H Q':=λpins s ρ v us I rx rv=>thn (h pins s ρ v us I rx rv) λ_ _ ⟨v,H',I',r,q⟩=>⟨v,H',I',r,g v H' q⟩
abbrev SpM:=D->List D->MH->DK->Prop
def MtD(X:Cx)(id:String)(r:SpM):Prop:=∀x ds v vs H M Q,RV X.K H x v->RVs X.K H ds vs->RM X.K M H->r x ds M Q->mW X id v vs H (lift X.K H Q)
inductive Rc where
 |str | lst | dic | int
def zI:Rc->D->MH->Prop
 |.str,.str _,_=>True
 |.int,.int _,_=>True
 |.lst,.ref a,M=>(rdL (M a)).isSome=true
 |.dic,.ref a,M=>match M a with
  |some (.dic _)=>True
  |_=>False
 |_,_,_=>False
def rcT:Rc->String
 |.str=>"str"
 |.lst=>"list"
 |.dic=>"dict"
 |.int=>"int"
theorem yK{K:Za}{M:MH}{c:Rc}{x:D}{v:V}(r:RV K H x v)(m:RM K M H)(h:zI c x M):tyV K (rcT c) v H:=by
 cases c with
 |int=>cases x with
  |int z=>cases RV.int_.1 r;rfl
  |_=>exact Yh h
 |str=>cases x with
  |str z=>cases RV.str_.1 r;rfl
  |_=>exact Yh h
 |lst=>cases x with
  |ref a=>
   cases RV.ref_.1 r;obtain⟨ds,e⟩:=Option.isSome_iff_exists.mp h;obtain⟨vs,sq,_⟩:=m.list e;exact .inl ⟨rfl,vs,sq⟩
  |_=>exact Yh h
 |dic=>cases x with
  |ref a=>
   cases RV.ref_.1 r;have h:match M a with
    |some (.dic _)=>True
    |_=>False:=h
   split at h
   ·rename_i e
    obtain⟨kws,q,_⟩:=m a _ e;exact .inr (.inr (.inl ⟨rfl,.inl ⟨kws,q⟩⟩))
   ·exact Yh h
  |_=>exact Yh h
def wMt(c:Rc)(r:SpM)(to:WE)(t:WA):WE:=λσ M Q=>to σ M λx M1=>zI c x M1/\t σ M1 λds M2=>r x ds M2 Q
theorem mZ{c:Rc}{name:Str}{id:String}{r:SpM}{to:WE}{t:WA}{apos:Pos}(pa:PlainAttrs (rcT c))(slot:Slot (rcT c) name id)(hty:typeOf (.builtin id)=pure (.type "method_descriptor"))(hm:MtD X id r)(ho:PEd X o to)(ha:PAd X (e::es) t)
  (hb:bA o=true) (hs:ar e=true) (hss:es.all ar=true) (hl:es.length<20) (hline:(apos.endLine==pos.line)=true):PEd X (.Call (.Attribute o name apos) (e::es) [] pos) (wMt c r to t):=by
 intro σ M ρ H Q rs rm h;refine bv (HS pa slot hty (m_W id) (pe_W o) (pa_W (e::es)) (qm hb) ?_ hline (aP hs) (cZ hss)) ?_
 ·rw[rf (es:=e::es) (by rw[XN,hs,hss];rfl)]
  show(true&&true&&decide ((e::es).length+0+0<30))=true;rw[Bool.and_self,Bool.true_and];exact YT (by rw[YH];omega)
 ·show tW X o ρ H _
  refine aG (ho σ M ρ H _ rs rm h) λv H1 zz1=>?_
  obtain⟨k1,x,M1,r1,m1,q1⟩:=zz1;refine⟨yK r1 m1 q1.1,?_⟩;show tWA X (e::es) ρ H1 _;refine cB (ha σ M1 ρ H1 _ (rs.mono k1) m1 q1.2) λvs H2 zz2=>?_
  obtain⟨k2,ds,M2,r2,_,m2,q2⟩:=zz2;exact yJ (hm x ds v vs H2 M2 Q (RV.mono k2 x r1) r2 m2 q2) λ_ _=>bK (k1.trans k2)
theorem kr{c:Rc}{name:Str}{id:String}{r:SpM}{to:WE}{apos:Pos}(pa:PlainAttrs (rcT c))(slot:Slot (rcT c) name id)(hty:typeOf (.builtin id)=pure (.type "method_descriptor"))(hm:MtD X id r)(ho:PEd X o to)
  (hb:bA o=true) (hline:(apos.endLine==pos.line)=true):PEd X (.Call (.Attribute o name apos) [] [] pos) (wMt c r to wNil):=by
 intro σ M ρ H Q rs rm h;refine bv (Gp pa slot hty (m_W id) (pe_W o) (qm hb) hline) ?_;show tW X o ρ H _;refine aG (ho σ M ρ H _ rs rm h) λv H1 zz3=>?_
 obtain⟨k1,x,M1,r1,m1,q1⟩:=zz3;refine⟨yK r1 m1 q1.1,?_⟩;exact yJ (hm x [] v [] H1 M1 Q r1 RVs.nil m1 q1.2) λ_ _=>bK k1
def qp:SpM:=λx ds M Q=>match x,ds with
 |.ref a,[d]=>match M a with
  |some (.lst xs)=>xs.length<sizeLine/\Q .non (updM M a (.lst (xs++[d])))
  |_=>False
 |_,_=>False
theorem u7:MtD X "list.append" qp:=by
 intro x ds v vs H M Q rx r rm h;unfold qp at h;split at h
 ·rename_i a d
  obtain⟨w',rfl,r1⟩:=rvs1 r;cases RV.ref_.1 rx;split at h
  ·rename_i xs e1
   obtain⟨us,sq,rr⟩:=rm _ _ e1;have k:=Kp.put (o':=.lst (us++[w'])) sq trivial;exact qo Az ⟨a,us,w',rfl,rfl,sq,by rw[←rr.len];exact h.1,k,.non,_,RV.non_.2 rfl,rm.put (m:=.lst (xs++[d])) sq trivial ⟨_,az,RVs.of (bq (RVs.mono k _ rr).p (.cons (RV.mono k _ r1) .nil))⟩,h.2⟩
  ·exact Yh h
 ·exact Yh h
def qr:SpM:=λx ds M Q=>match x,ds with
 |.ref a,[.ref b]=>match M a,M b with
  |some (.lst xs),some (.lst ys)=>xs.length+ys.length<=sizeLine/\Q .non (updM M a (.lst (xs++ys)))
  |_,_=>False
 |_,_=>False
theorem u8:MtD X "list.extend" qr:=by
 intro x ds v vs H M Q rx r rm h;unfold qr at h;split at h
 ·rename_i a b
  obtain⟨w',rfl,r1⟩:=rvs1 r;cases RV.ref_.1 rx;cases RV.ref_.1 r1;split at h
  ·rename_i xs ys e1 e2
   obtain⟨us,sq,rr⟩:=rm _ _ e1;obtain⟨us',sq',rr'⟩:=rm _ _ e2;have k:=Kp.put (o':=.lst (us++us')) sq trivial;exact qo AA ⟨a,b,us,us',rfl,rfl,sq,sq',by rw[←rr.len,←rr'.len];exact h.1,k,.non,_,RV.non_.2 rfl,rm.put (m:=.lst (xs++ys)) sq trivial ⟨_,az,RVs.of (bq (RVs.mono k _ rr).p (RVs.mono k _ rr').p)⟩,h.2⟩
  ·exact Yh h
 ·exact Yh h
theorem wt{α β:Type}{F:α->β->Prop}:∀{l:List α}{m:List β}(i:Nat),Paired F l m->Paired F (l.eraseIdx i) (m.eraseIdx i)
 |_,_,_,.nil=>.nil
 |_,_,0,.cons _ t=>t
 |_,_,i+1,.cons q t=>.cons q (wt i t)
theorem xR{α β:Type}{F:α->β->Prop}{l:List α}{m:List β}(h:Paired F l m):Paired F l.dropLast m.dropLast:=by
 rw[List.dropLast_eq_take,List.dropLast_eq_take,←mT h];exact t8 _ h
def dPop:SpM:=λx ds M Q=>match x,ds with
 |.ref a,[.int i]=>match M a with
  |some (.lst xs)=>(0<=i/\i<1000000)/\optD xs[i.toNat]? λd=>Q d (updM M a (.lst (xs.eraseIdx i.toNat)))
  |_=>False
 |.ref a,[]=>match M a with
  |some (.lst xs)=>optD xs[xs.length-1]? λd=>Q d (updM M a (.lst xs.dropLast))
  |_=>False
 |_,_=>False
theorem Ba:MtD X "list.pop" dPop:=by
 intro x ds v vs H M Q rx r rm h;unfold dPop at h;split at h
 ·rename_i a i
  obtain⟨w',rfl,r1⟩:=rvs1 r;cases RV.ref_.1 rx;cases RV.int_.1 r1;split at h
  ·rename_i xs e1
   obtain⟨us,sq,rr⟩:=rm _ _ e1;obtain⟨d,ed,q⟩:=aL h.2;obtain⟨u,eu,ru⟩:=cO rr.p ed;have k:=Kp.put (o':=.lst (us.eraseIdx i.toNat)) sq trivial;have hlt:i.toNat<us.length:=(YC.1 eu).1;have hsi:seqIndex? i us.length=some i.toNat:=by
    unfold seqIndex?;have h1:¬i<0:=by omega
    have h2:i<(us.length:Int):=by omega
    simp[h1,h.1.1,h2]
   exact qo Cp ⟨a,us,i,i.toNat,u,rfl,rfl,sq,by omega,by omega,hsi,eu,k,d,_,RV.mono k _ ru,rm.put (m:=.lst (xs.eraseIdx i.toNat)) sq trivial ⟨_,az,RVs.of (wt _ (RVs.mono k _ rr).p)⟩,q⟩
  ·exact Yh h
 ·rename_i a
  obtain rfl:vs=[]:=by rw[RVs] at r;exact r
  cases RV.ref_.1 rx;split at h
  ·rename_i xs e1
   obtain⟨us,sq,rr⟩:=rm _ _ e1;obtain⟨d,ed,q⟩:=aL h;obtain⟨u,eu,ru⟩:=cO rr.p ed;have k:=Kp.put (o':=.lst us.dropLast) sq trivial;exact qo Gq ⟨a,us,u,rfl,rfl,sq,by rw[←rr.len];exact eu,k,d,_,RV.mono k _ ru,rm.put (m:=.lst xs.dropLast) sq trivial ⟨_,az,RVs.of (xR (RVs.mono k _ rr).p)⟩,q⟩
  ·exact Yh h
 ·exact Yh h
def sB:SpM:=λx ds M Q=>match x,ds with
 |.ref a,[]=>match M a with
  |some (.lst _)=>Q .non (updM M a (.lst []))
  |_=>False
 |_,_=>False
theorem wu:MtD X "list.clear" sB:=by
 intro x ds v vs H M Q rx r rm h;unfold sB at h;split at h
 ·rename_i a
  obtain rfl:vs=[]:=by rw[RVs] at r;exact r
  cases RV.ref_.1 rx;split at h
  ·rename_i xs e1
   obtain⟨us,sq,rr⟩:=rm _ _ e1;have k:=Kp.put (o':=.lst []) sq trivial;exact qo Cq ⟨a,us,rfl,rfl,sq,k,.non,_,RV.non_.2 rfl,rm.put (m:=.lst []) sq trivial ⟨_,az,RVs.nil⟩,h⟩
  ·exact Yh h
 ·exact Yh h
def fM(i:Int):Nat:=Builtin.Int.intBits i
def vL:SpM:=λx ds M Q=>match x,ds with
 |.int i,[]=>Q (.int (fM i)) M
 |_,_=>False
theorem Fa:MtR X "int.bit_length" (λx xs H Q=>∃i,x=.int i/\xs=[]/\Q (.int (fM i)) H):=by
 rintro pins s σ H x xs v us Q I rx rv ⟨i,rfl,rfl,q⟩;obtain⟨t,rfl⟩:=rx;have hus:=rv.zero;subst hus;exact call_int_bit_length ⟨.int (fM i),H,I.tok _,⟨_,rfl⟩,q⟩
theorem yL:MtD X "int.bit_length" vL:=by
 intro x ds v vs H M Q rx r rm h;unfold vL at h;split at h
 ·rename_i i
  obtain rfl:vs=[]:=by rw[RVs] at r;exact r
  cases RV.int_.1 rx;exact qo Fa ⟨i,rfl,rfl,ay (RV.int_.2 rfl) rm h⟩
 ·exact Yh h
def sC:SpM:=λx ds M Q=>match x,ds with
 |.ref a,[y]=>optD (rdL (M a)) λxs=>(aM y=true/\aO xs=true/\bz xs<=30)/\optD (xs.findIdx? λd=>eqD d y) λ(j:Nat)=>Q (.int (j:Int)) M
 |_,_=>False
theorem wv(hu:X.A.units+40<cLine):MtD X "list.index" sC:=by
 intro x ds v vs H M Q rx r rm h;unfold sC at h;split at h
 ·rename_i a y
  obtain⟨w',rfl,r1⟩:=rvs1 r;cases RV.ref_.1 rx;obtain⟨xs,e1,h⟩:=aL h;obtain⟨⟨py,pd,hd⟩,h⟩:=h;obtain⟨j,ej,q⟩:=aL h;obtain⟨us,sq,rr⟩:=rm.list e1;intro pins s ρ v' us' I rv ru;cases rv;obtain⟨y',rfl,ry'⟩:=vals1 ru;obtain⟨its,rvv,tp,hz⟩:=I.list sq;have tl:=tp.isList;obtain⟨⟨cls,dd,data,sl⟩,ho,hc,n,hdt⟩:=id tl;simp only at hc hdt;subst hc hdt;obtain⟨hj,hp,hno⟩:=List.findIdx?_eq_some_iff_getElem.1 ej;have hlen:its.length=xs.length:=by rw[rr.len,rvv.length]
  have item:∀m (hm:m<its.toArray.size) (hx:m<xs.length),mX X.K H xs y its.toArray[m]=eqD xs[m] y:=by
   intro m hm hx;obtain⟨d,w,e,r2,r3⟩:=ga rr rvv hm;have:d=xs[m]:=by rw[ZC hx] at e;exact(Yi e).symm
   subst this;exact lC I pd (List.getElem_mem hx) r2 r3
  refine call_meets PySem.F.slot_list_index ⟨_,ho,rfl⟩ PySem.F.entry_list_index (PySem.F.args_list_index_2 _ _) (SeqAt.list_indexAt a its.toArray n dd sl y' (mX X.K H xs y) j (by simpa [hlen] using hj) ?_ ?_ ?_) ⟨ho,λu hu=>?_,?_⟩
  ·have h1:us.length<=sizeLine:=hz
   have h2:us.length=xs.length:=rr.len.symm;have h3:(sizeLine:Int)<2 ^ 63-1:=by decide
   omega
  ·rw[item j (by simpa [hlen] using hj) hj];exact hp
  ·intro m hm hlt
   rw[item m hm 'b']
   have:=hno m hlt
   simpa using this
  ·obtain⟨d,w,h1,h2,h3⟩:=pA rr rvv (by simpa using hu)
   rw[lC I pd h1 h2 h3];obtain⟨i,hi⟩:=XR h1
   have:=gv hi
   exact sn 30 d y I 'b' (by rw[units_in1];omega) (bN pd hi) py h2 r1 h3 ry'
  ·exact⟨.int (j:Int),H,I.tok _,⟨_,rfl⟩,ay (RV.int_.2 rfl) rm q⟩
 ·exact Yh h
inductive Mt where
 |append | extend | pop | clear | bits | index
 deriving DecidableEq
def sD:Mt->Str
 |.append=>"append"
 |.extend=>"extend"
 |.pop=>"pop"
 |.clear=>"clear"
 |.bits=>"bit_length"
 |.index=>"index"
def mtRc:Mt->Rc
 |.append=>.lst
 |.extend=>.lst
 |.pop=>.lst
 |.clear=>.lst
 |.bits=>.int
 |.index=>.lst
def dMt:Mt->SpM
 |.append=>qp
 |.extend=>qr
 |.pop=>dPop
 |.clear=>sB
 |.bits=>vL
 |.index=>sC
theorem Fb(hu:X.A.units+40<cLine)(m:Mt){to:WE}{t:WA}{apos:Pos}(ho:PEd X o to)(ha:PAd X (e::es) t)(hb:bA o=true)(hs:ar e=true)(hss:es.all ar=true)(hl:es.length<20)(hline:(apos.endLine==pos.line)=true):
  PEd X (.Call (.Attribute o (sD m) apos) (e::es) [] pos) (wMt (mtRc m) (dMt m) to t):=by
 cases m with
 |append=>exact mZ (c:=.lst) PySem.F.plainAttrs_list PySem.F.slot_list_append PySem.F.type_list_append u7 ho ha hb hs hss hl hline
 |extend=>exact mZ (c:=.lst) PySem.F.plainAttrs_list PySem.F.slot_list_extend PySem.F.type_list_extend u8 ho ha hb hs hss hl hline
 |pop=>exact mZ (c:=.lst) PySem.F.plainAttrs_list PySem.F.slot_list_pop PySem.F.type_list_pop Ba ho ha hb hs hss hl hline
 |clear=>exact mZ (c:=.lst) PySem.F.plainAttrs_list PySem.F.slot_list_clear PySem.F.type_list_clear wu ho ha hb hs hss hl hline
 |bits=>exact mZ (c:=.int) PySem.F.plainAttrs_int PySem.F.slot_int_bit_length PySem.F.type_int_bit_length yL ho ha hb hs hss hl hline
 |index=>exact mZ (c:=.lst) PySem.F.plainAttrs_list PySem.F.slot_list_index PySem.F.type_list_index (wv hu) ho ha hb hs hss hl hline
theorem CP(hu:X.A.units+40<cLine)(m:Mt){to:WE}{apos:Pos}(ho:PEd X o to)(hb:bA o=true)(hline:(apos.endLine==pos.line)=true):
  PEd X (.Call (.Attribute o (sD m) apos) [] [] pos) (wMt (mtRc m) (dMt m) to wNil):=by
 cases m with
 |append=>exact kr (c:=.lst) PySem.F.plainAttrs_list PySem.F.slot_list_append PySem.F.type_list_append u7 ho hb hline
 |extend=>exact kr (c:=.lst) PySem.F.plainAttrs_list PySem.F.slot_list_extend PySem.F.type_list_extend u8 ho hb hline
 |pop=>exact kr (c:=.lst) PySem.F.plainAttrs_list PySem.F.slot_list_pop PySem.F.type_list_pop Ba ho hb hline
 |clear=>exact kr (c:=.lst) PySem.F.plainAttrs_list PySem.F.slot_list_clear PySem.F.type_list_clear wu ho hb hline
 |bits=>exact kr (c:=.int) PySem.F.plainAttrs_int PySem.F.slot_int_bit_length PySem.F.type_int_bit_length yL ho hb hline
 |index=>exact kr (c:=.lst) PySem.F.plainAttrs_list PySem.F.slot_list_index PySem.F.type_list_index (wv hu) ho hb hline
end
section
variable {X:Cx}{H:Hp}{e a b c o i v:Expr}{es:Zg}{pos:Pos}
def wNeg(t:WE):WE:=λσ M Q=>t σ M λx M1=>intD x λi=>Q (.int (-i)) M1
theorem Fc{t:WE}(h:PEd X a t):PEd X (.UnaryOp .USub a pos) (wNeg t):=by
 intro σ M ρ H Q rs rm q;refine bv (DB Gb (pe_W a)) ?_;show tW X a ρ H _;refine aG (h σ M ρ H _ rs rm q) λv H1 zz1=>?_
 obtain⟨k1,x,M1,r1,m1,q1⟩:=zz1;obtain⟨i,rfl,q1⟩:=qk q1;exact⟨i,RV.int_.1 r1,k1,.int (-i),M1,RV.int_.2 rfl,m1,q1⟩
def wInv(t:WE):WE:=λσ M Q=>t σ M λx M1=>intD x λi=>Q (.int (-i-1)) M1
theorem bitNot_eq(i:Int):Builtin.bitNot i = -i-1:=by unfold Builtin.bitNot;omega
theorem Fd{t:WE}(h:PEd X a t):PEd X (.UnaryOp .Invert a pos) (wInv t):=by
 intro σ M ρ H Q rs rm q;refine bv (DB Gc (pe_W a)) ?_;show tW X a ρ H _;refine aG (h σ M ρ H _ rs rm q) λv H1 zz2=>?_
 obtain⟨k1,x,M1,r1,m1,q1⟩:=zz2;obtain⟨i,rfl,q1⟩:=qk q1;exact⟨i,RV.int_.1 r1,k1,.int (-i-1),M1,RV.int_.2 (congrArg V.int (bitNot_eq i)),m1,q1⟩
def putD(kvs:ZB)(k:Key)(d:D):List (Key×D):=if(kvs.any λkv=>decide (kv.1=k))=true then kvs.map (λkv=>if kv.1=k then(kv.1,d) else kv) else kvs++[(k,d)]
theorem CQ{α β:Type}{l:List (Key×α)}{m:List (Key×β)}(e:m.map (·.1)=l.map (·.1))(k:Key):(m.any λkv=>decide (kv.1=k))=l.any λkv=>decide (kv.1=k):=by
 have f:∀{γ:Type}(l:List (Key×γ)),(l.any λkv=>decide (kv.1=k))=(l.map (·.1)).any λq=>decide (q=k):=λl=>by rw[List.any_map];rfl
 rw[f,f,e]
theorem map_put{K:Za}{k:Key}{d:D}{v:V}(r:RV K H d v):∀{l:ZB}{m:List (Key×V)},m.map (·.1)=l.map (·.1)->RVs K H (l.map (·.2)) (m.map (·.2)) ->
  ((m.map λkv=>if kv.1=k then(kv.1,v) else kv).map (·.1)=(l.map λkv=>if kv.1=k then(kv.1,d) else kv).map (·.1))/\RVs K H ((l.map λkv=>if kv.1=k then(kv.1,d) else kv).map (·.2)) ((m.map λkv=>if kv.1=k then(kv.1,v) else kv).map (·.2))
 |[],[],_,_=>⟨rfl,.nil⟩
 |[],_::_,e,_=>by cases e
 |_::_,[],e,_=>by cases e
 |(k1,d1)::l,(k2,v2)::m,e,rr=>by
  simp only[YJ,List.cons.injEq] at e;obtain⟨e1,e2⟩:=e;subst e1;simp only[YJ] at rr;rw[RVs] at rr;obtain⟨v',vs',z,r1,r2⟩:=rr;cases z;obtain⟨q1,q2⟩:=map_put r (k:=k) e2 r2;by_cases q:k2=k
  ·simp only[YJ,if_pos q]
   exact⟨by rw[q1],.cons r q2⟩
  ·simp only[YJ,if_neg q]
   exact⟨by rw[q1],.cons r1 q2⟩
theorem GU{K:Za}{k:Key}{d:D}{v:V}{l:ZB}{m:List (Key×V)}(r:RV K H d v)(e:m.map (·.1)=l.map (·.1))(rr:RVs K H (l.map (·.2)) (m.map (·.2))):(putK m k v).map (·.1)=(putD l k d).map (·.1)/\RVs K H ((putD l k d).map (·.2)) ((putK m k v).map (·.2)):=by
 unfold putK putD;rw[CQ e k];split
 ·exact map_put r e rr
 ·refine⟨by rw[ZK,ZK,e];rfl,?_⟩
  rw[ZK,ZK];exact RVs.of (bq rr.p (.cons r .nil))
def dPut(o i d:D)(M:MH)(Q:MH->Prop):Prop:=match o with
 |.ref a=>match M a with
  |some (.lst xs)=>intD i λk=>optD (ixN xs.length k) λj=>Q (updM M a (.lst (xs.set j d)))
  |some (.dic kvs)=>optD (keyD i) λk=>kvs.length<sizeLine/\Q (updM M a (.dic (putD kvs k d)))
  |_=>False
 |_=>False
def pW(X:Cx):TSet:=λo i v H Q=>∀pins s ρ ov iv u,Inv X pins ρ H s->RelV o ov->RelV i iv->RelV v u->wpAny 'c' X.A (setItem ov iv u) (λ_ s'=>∃H',Inv X pins ρ H' s'/\Q H') X.xe s
theorem p_W:PSet X (pW X):=λpins s σ _ _ _ _ ov iv u _ I r1 r2 r3 h=>h pins s σ ov iv u I r1 r2 r3
theorem Fe{o i v:V}{Q Q':Hp->Prop}(h:pW X o i v H Q)(g:∀H',Q H'->Q' H'):pW X o i v H Q':=λpins s ρ ov iv u I r1 r2 r3=>thn (h pins s ρ ov iv u I r1 r2 r3) λ_ _ ⟨H',I',q⟩=>⟨H',I',g H' q⟩
theorem putd(hu:X.A.units+40<cLine){x y d:D}{o i v:V}{M:MH}{Q:MH->Prop}(rx:RV X.K H x o)(ry:RV X.K H y i)(rd:RV X.K H d v)(rm:RM X.K M H)(h:dPut x y d M Q):pW X o i v H λH'=>Kp H H'/\∃M',RM X.K M' H'/\Q M':=by
 cases x with
 |ref a=>
  cases RV.ref_.1 rx;have h:match M a with
   |some (.lst xs)=>intD y λk=>optD (ixN xs.length k) λj=>Q (updM M a (.lst (xs.set j d)))
   |some (.dic kvs)=>optD (keyD y) λk=>kvs.length<sizeLine/\Q (updM M a (.dic (putD kvs k d)))
   |_=>False:=h
  split at h
  ·rename_i xs e1
   obtain⟨k,rfl,h⟩:=qk h;obtain⟨j,e2,q⟩:=aL h;cases RV.int_.1 ry;obtain⟨us,sq,rr⟩:=rm _ _ e1;have kk:=Kp.put (o':=.lst (us.set j v)) sq trivial;intro pins s ρ ov iv u I r1 r2 r3;exact set_list pins s ρ H _ _ _ ov iv u _ I r1 r2 r3 ⟨a,us,k,j,rfl,rfl,sq,by rw[←rr.len];exact e2,kk,_,rm.put (m:=.lst (xs.set j d)) sq trivial ⟨_,az,RVs.of (vY (RV.mono kk _ rd) j (RVs.mono kk _ rr).p)⟩,q⟩
  ·rename_i kvs e1
   obtain⟨k,e2,hl,q⟩:=aL h
   have:=yD e2 ry
   subst this;obtain⟨kws,sq,ek,rr⟩:=rm _ _ e1;have kk:=Kp.put (o':=.dK (putK kws k v)) sq trivial;obtain⟨p1,p2⟩:=GU (k:=k) (RV.mono kk _ rd) ek (RVs.mono kk _ rr);have hlen:kws.length<sizeLine:=by have:=congrArg List.length ek;simp only[ZE] at this;omega
   intro pins s ρ ov iv u I r1 r2 r3;cases r1;exact AC 'b' I (.inl ⟨kws,k,sq,rfl,hlen,rfl⟩) r2 r3 λs' I'=>⟨_,I',kk,_,rm.put (m:=.dic (putD kvs k d)) sq trivial ⟨_,az,p1,p2⟩,q⟩
  ·exact Yh h
 |_=>exact Yh h
theorem sole{tg:Expr}{n:Nat}{env:Env}(h:dA v=true):swapsWithSole [tg] v n env=pure false:=sk h
def ww(tv to ti:WE):WS:=λE σ M=>tv σ M λd M1=>to σ M1 λx M2=>ti σ M2 λy M3=>dPut x y d M3 λM4=>E.nx σ M4
theorem Bb{tv to ti:WE}{p:Pos}(hu:X.A.units+40<cLine)(hv:PEd X v tv)(ho:PEd X o to)(hi:PEd X i ti)(hc:dA v=true)(hs:kN i=true):PSd X (.Assign [.Subscript o i p] v pos) (ww tv to ti):=by
 intro σ M ρ H E rs rm h;refine dm (An (pe_W v) (FU (pe_W o) (pe_W i) p_W (by intro w;cases i<;>first | rfl | exact absurd (show false=true from hs) YD)) (sole hc) (by cases v<;>rfl) rfl) ?_;show tW X v ρ H _;refine aG (hv σ M ρ H _ rs rm h) λu H1 zz3=>?_
 obtain⟨k1,d,M1,r1,m1,q1⟩:=zz3;show tW X o ρ H1 _;refine aG (ho σ M1 ρ H1 _ (rs.mono k1) m1 q1) λw' H2 zz4=>?_
 obtain⟨k2,x,M2,r2,m2,q2⟩:=zz4;show tW X i ρ H2 _;refine aG (hi σ M2 ρ H2 _ (rs.mono (k1.trans k2)) m2 q2) λz H3 zz5=>?_
 obtain⟨k3,y,M3,r3,m3,q3⟩:=zz5;refine Fe (putd hu (RV.mono k3 x r2) r3 (RV.mono (k2.trans k3) d r1) m3 q3) λH4 zz6=>?_
 obtain⟨k4,M4,m4,q4⟩:=zz6;exact⟨k1.trans (k2.trans (k3.trans k4)),σ,M4,rs.mono (k1.trans (k2.trans (k3.trans k4))),m4,q4⟩
abbrev WP:=DS->MH->(List (D×D)->MH->Prop)->Prop
def wPs:List (WE×WE)->WP
 |[],_,M,Q=>Q [] M
 |(tk,tv)::r,σ,M,Q=>tk σ M λx M1=>tv σ M1 λy M2=>wPs r σ M2 λps M3=>Q ((x,y)::ps) M3
inductive PPd (X:Cx):List (Option Expr)->List Expr->List (WE×WE)->Prop where
 |nil:PPd X [] [] []
 |cons {k v:Expr}{ks:List (Option Expr)}{vs:Zg}{tk tv:WE}{r:List (WE×WE)}:PEd X k tk->PEd X v tv->PPd X ks vs r->PPd X (some k::ks) (v::vs) ((tk,tv)::r)
def DN:List (D×D)->Option (List (Key×D))
 |[]=>some []
 |(k,d)::r=>(keyD k).bind λq=>(DN r).map ((q,d) :: ·)
def GV(kvs:ZB)(more:ZB):List (Key×D):=more.foldl (λacc kv=>putD acc kv.1 kv.2) kvs
def H9(ts:List (WE×WE)):WE:=λσ M Q=>∀p,M p=none->wPs ts σ (updM M p (.dic [])) λds M2=>match M2 p with
 |some (.dic [])=>optD (DN ds) λkvs=>Q (.ref p) (updM M2 p (.dic (GV [] kvs)))
 |_=>False
theorem CS:PEd X (.Dict [] [] pos) (λ_ M Q=>∀p,M p=none->Q (.ref p) (updM M p (.dic []))):=by
 intro σ M ρ H Q rs rm q;refine bv Cs ?_;intro p hp;exact⟨Kp.new hp,.ref p,_,RV.ref_.2 rfl,rm.new (m:=.dic []) hp ⟨[],az,rfl,.nil⟩,q p (rm.fresh hp)⟩
end
abbrev OK0:=Addr->Str->Prop
theorem jc{K:Za}{H:Hp}{f:Str}:∀{fs:List (Str×D)}{gs:List (Str×V)},gs.map (·.1)=fs.map (·.1)->RVs K H (fs.map (·.2)) (gs.map (·.2)) ->
  (fs.lookup f=none->gs.lookup f=none)/\∀d,fs.lookup f=some d->∃v,gs.lookup f=some v/\RV K H d v
 |[],[],_,_=>⟨λ_=>rfl,λ_ h=>nomatch h⟩
 |[],_::_,e,_=>by cases e
 |_::_,[],e,_=>by cases e
 |(k1,d1)::fs,(k2,v2)::gs,e,r=>by
  simp only[YJ,List.cons.injEq] at e;obtain⟨e1,e2⟩:=e;subst e1;simp only[YJ] at r;rw[RVs] at r;obtain⟨v,vs,z,r1,r2⟩:=r;cases z;obtain⟨h1,h2⟩:=jc (f:=f) e2 r2;cases q:f==k2 with
  |true=>simp only[XG,q];exact⟨(λz=>nomatch z),λd z=>by cases z;exact⟨v2,rfl,r1⟩⟩
  |false=>simp only[XG,q];exact⟨h1,h2⟩
def bJ(f:Str)(v:D):List (Str×D)->List (Str×D)
 |[]=>[(f,v)]
 |(g,x)::r=>if g=f then(g,v)::r else(g,x)::bJ f v r
theorem yM{K:Za}{H:Hp}{f:Str}{d:D}{v:V}(rv:RV K H d v):∀{fs:List (Str×D)}{gs:List (Str×V)},gs.map (·.1)=fs.map (·.1)->RVs K H (fs.map (·.2)) (gs.map (·.2)) ->
  (putF f v gs).map (·.1)=(bJ f d fs).map (·.1)/\RVs K H ((bJ f d fs).map (·.2)) ((putF f v gs).map (·.2))
 |[],[],_,_=>⟨rfl,.cons rv .nil⟩
 |[],_::_,e,_=>by cases e
 |_::_,[],e,_=>by cases e
 |(k1,d1)::fs,(k2,v2)::gs,e,r=>by
  simp only[YJ,List.cons.injEq] at e;obtain⟨e1,e2⟩:=e;subst e1;simp only[YJ] at r;rw[RVs] at r;obtain⟨w',vs,z,r1,r2⟩:=r;cases z;obtain⟨h1,h2⟩:=yM (f:=f) rv e2 r2;unfold putF bJ;by_cases q:k2=f
  ·rw[if_pos q,if_pos q];exact⟨by simp only[YJ,e2],.cons rv r2⟩
  ·rw[if_neg q,if_neg q];exact⟨by simp only[YJ,h1],.cons r1 h2⟩
section
variable {X:Cx}{H:Hp}{e a b c o i v:Expr}{es:Zg}{pos:Pos}
def fldD(O:OK0)(x:D)(f:Str)(M:MH)(Q:D->Prop):Prop:=match x with
 |.ref a=>match M a with
  |some (.ins C fs)=>O C f/\optD (fs.lookup f) Q
  |_=>False
 |_=>False
def wFld(O:OK0)(f:Str)(t:WE):WE:=λσ M Q=>t σ M λx M1=>fldD O x f M1 λd=>Q d M1
theorem Ff{O:OK0}{f:Str}{t:WE}(hO:∀C f,O C f->Cls X.K C/\bZ X.K C f)(h:PEd X o t)(hb:bA o=true):PEd X (.Attribute o f pos) (wFld O f t):=by
 intro σ M ρ H Q rs rm q;refine bv (Gf (pe_W o) (qm hb)) ?_;show tW X o ρ H _;refine aG (h σ M ρ H _ rs rm q) λv H1 zz1=>?_
 obtain⟨k1,x,M1,r1,m1,q1⟩:=zz1;unfold fldD at q1;try dsimp only at q1
 split at q1
 ·rename_i a
  split at q1
  ·rename_i C fs e1
   obtain⟨d,e2,q2⟩:=aL q1.2;cases RV.ref_.1 r1;obtain⟨dx,gs,sq,ek,rr⟩:=m1 _ _ e1;obtain⟨v2,e3,r3⟩:=(jc ek rr).2 d e2;exact⟨a,C,dx,gs,v2,rfl,sq,(hO C f q1.1).1,(hO C f q1.1).2,e3,k1,d,M1,r3,m1,q2⟩
  ·exact Yh q1
 ·exact Yh q1
def zJ(O:OK0)(x:D)(f:Str)(d:D)(M:MH)(Q:MH->Prop):Prop:=match x with
 |.ref a=>match M a with
  |some (.ins C fs)=>(O C f/\fs.length<1000)/\Q (updM M a (.ins C (bJ f d fs)))
  |_=>False
 |_=>False
def zK(O:OK0)(f:Str)(to tv:WE):WS:=λE σ M=>tv σ M λd M1=>to σ M1 λx M2=>zJ O x f d M2 λM3=>E.nx σ M3
theorem CU{O:OK0}{f:Str}{to tv:WE}{p:Pos}(hO:∀C f,O C f->Cls X.K C/\bZ X.K C f)(ho:PEd X o to)(hv:PEd X v tv):PSd X (.Assign [.Attribute o f p] v pos) (zK O f to tv):=by
 intro σ M ρ H E rs rm q;refine dm (Gg (pe_W o) (pe_W v) (by cases v<;>rfl)) ?_;show tW X v ρ H _;refine aG (hv σ M ρ H _ rs rm q) λu H1 zz2=>?_
 obtain⟨k1,d,M1,r1,m1,q1⟩:=zz2;show tW X o ρ H1 _;refine aG (ho σ M1 ρ H1 _ (rs.mono k1) m1 q1) λw' H2 zz3=>?_
 obtain⟨k2,x,M2,r2,m2,q2⟩:=zz3;unfold zJ at q2;dsimp only at q2;split at q2
 ·rename_i a
  split at q2
  ·rename_i C fs e1
   cases RV.ref_.1 r2;obtain⟨dx,gs,sq,ek,rr⟩:=m2 _ _ e1;have kk:=Kp.put (o':=.ins C dx (putF f u gs)) sq trivial;obtain⟨p1,p2⟩:=yM (f:=f) (RV.mono (k2.trans kk) d r1) ek (RVs.mono kk _ rr);have hl:gs.length<1000:=by have:=congrArg List.length ek;simp only[ZE] at this;omega
   exact⟨a,C,dx,gs,rfl,sq,(hO C f q2.1.1).1,(hO C f q2.1.1).2,hl,k1.trans (k2.trans kk),σ,_,rs.mono (k1.trans (k2.trans kk)),m2.put (m:=.ins C (bJ f d fs)) sq trivial ⟨dx,_,az,p1,p2⟩,q2.2⟩
  ·exact Yh q2
 ·exact Yh q2
def a9(C:Addr)(sp:SpD):SpD:=λds M Q=>∀x,M x=none->sp (.ref x::ds) (updM M x (.ins C [])) λd M2=>vK d=true/\Q (.ref x) M2
def MkD(P:Zw)(w:World)(K:Za)(mg:Ze)(base:Heap)(k:Nat)(x:Str)(sp:SpD):Prop:=
 ∃C f fd ps sp0,Mk K C f/\mg x=some (.ref C)/\Binds K fd ps []/\FnOk P w K mg base CX0 k f fd ps (gD K sp0)/\sp=a9 C sp0
theorem CV{k:Nat}{x:Str}{sp:SpD}{t:WA}{p:Pos}(F:MkD X.prog X.w X.K X.mg X.base k x sp)(hr:Room (k+1) X.A)(hg:Gl X x)(hdb:(x==("__debug__" : Str))=false)(hs:ar e=true)(hss:es.all ar=true)(ha:PAd X (e::es) t):
  PEd X (.Call (.Name x p) (e::es) [] pos) (fK sp t):=by
 obtain⟨C,f,fd,ps,sp0,M0,hm,hb,F0,rfl⟩:=F;intro σ M ρ H Q rs rm q;refine bv (Ei M0 F0 hr hg hm hb .nil vF (pa_W (e::es)) hdb (aP hs) (cZ hss)) ?_;show tWA X (e::es) ρ H _;refine cB (ha σ M ρ H _ rs rm q) λvs H1 zz4=>?_
 obtain⟨k1,ds,M1,r1,l1,m1,q1⟩:=zz4;intro z dx hz hdx hne;have kk1:=Kp.new (o:=.own z) hdx;have hz2:(upd H1 dx (.own z)) z=none:=by rw[aF hne.symm];exact hz
 have kk2:=Kp.new (o:=.ins C dx []) hz2;have kk:=kk1.trans kk2;rw[ZA];refine⟨.ref z::ds,updM M1 z (.ins C []),_,.cons (RV.ref_.2 rfl) (RVs.mono kk _ r1),(m1.newH hdx).new (m:=.ins C []) hz2 ⟨dx,[],az,rfl,.nil⟩,q1 z (m1.fresh hz),λd M' v H' qd kq rv mm=>⟨?_,k1.trans (kk.trans kq),.ref z,M',RV.ref_.2 rfl,mm,qd.2⟩⟩
 have:=rc rv
 rw[qd.1] at this;exact XM this
abbrev MT0:=Addr->Str->Option SpD
def aJ(P:Zw)(w:World)(K:Za)(mg:Ze)(base:Heap)(k:Nat)(C:Addr)(m:Str)(sp:SpD):Prop:=
 ∃f fd ps,Cls K C/\Meth K C m f/\Binds K fd ps []/\FnOk P w K mg base CX0 k f fd ps (gD K sp)
def zL(X:Cx)(T:MT0):Prop:=∀C m sp,T C m=some sp->∃k,aJ X.prog X.w X.K X.mg X.base k C m sp/\Room k X.A
def vM(x:D)(m:Str)(M:MH)(Q:Addr->Prop):Prop:=match x with
 |.ref a=>match M a with
  |some (.ins C fs)=>fs.lookup m=none/\Q C
  |_=>False
 |_=>False
def sF(T:MT0)(m:Str)(to:WE)(t:WA):WE:=λσ M Q=>to σ M λx M1=>vM x m M1 λC=>optD (T C m) λsp=>t σ M1 λds M2=>sp (x::ds) M2 Q
theorem GW{env:Env}{p:Pos}(h:es.all ar=true)(hl:es.length<20):methodCallForm (es.length+([]:List Keyword).length) (backTo p (starEach es env)) (backToKw p (keywordEach [] env))=true:=by
 unfold methodCallForm;rw[rf h];show(true&&true&&decide (es.length+0+0<30))=true;rw[Bool.and_self,Bool.true_and];exact YT 'b'
theorem DO {env:Env} {m:Str} {apos:Pos} (hb:bA o = true) (h:es.all ar = true) (hl:es.length < 20) (hline:(apos.endLine == pos.line) = true):eval (.Call (.Attribute o m apos) es [] pos) env = (do
   let ov ← eval o env
   standAt apos.atName
   let (f,first) ← holding [ov] (getMethod ov m (do return (← importBound o env).getD true))
   callWith pos f first (backTo pos (starEach es env)) (backToKw pos (keywordEach [] env))):=by
 rw [arm_eval_Call,qm hb]
 unfold methodCall calleeOf methodCallPos
 rw [GW h hl]
 simp [hline]
theorem CW{T:MT0}{m:Str}{to:WE}{t:WA}{apos:Pos}(hT:zL X T)(ho:PEd X o to)(ha:PAd X (e::es) t)(hb:bA o=true)(hs:ar e=true)(hss:es.all ar=true)(hl:es.length<19)(hline:(apos.endLine==pos.line)=true):
  PEd X (.Call (.Attribute o m apos) (e::es) [] pos) (sF T m to t):=by
 intro σ M ρ H Q rs rm h pins s I;have hall:(e::es).all ar=true:=by rw[XN,hs,hss];rfl
 refine PySem.W.methodCall_KW (thn (ho σ M ρ H _ rs rm h pins s I) λu s1 zz5=>?_) (DO hb hall (by rw[YH];omega) hline);obtain⟨v,H1,I1,rv,⟨k1,x,M1,r1,m1,q1⟩⟩:=zz5;unfold vM at q1;dsimp only at q1;split at q1
 ·rename_i a
  split at q1
  ·rename_i C fs e1
   obtain⟨hn,q1⟩:=q1;obtain⟨sp,eT,q1⟩:=aL q1;cases RV.ref_.1 r1;obtain rfl:u=Value.ref a:=rv;obtain⟨dx,gs,sq,ek,rr⟩:=m1 _ _ e1;obtain⟨k,⟨f,fd,ps,c,hm,hbd,F⟩,hr⟩:=hT C m sp eT
   ·refine rT I1 sq c hm ((jc ek rr).1 hn) ?_
    refine PySem.W.callWith_K (first:=[.ref a]) (h₀:=X.base) I.ok.mod.kin hm.kp (thn (ha σ M1 ρ H1 _ (rs.mono k1) m1 q1 pos pins s1 I1) λus s2 zz6=>?_) (aP hs) (cZ hss);obtain⟨vs,H2,I2,r,⟨k2,ds,M2,r2,l2,m2,q2⟩⟩:=zz6;refine⟨I2.kIn,?_⟩;refine vS (us:=.ref a::us) (vs:=.ref a::vs) F hr hbd .nil vF I2 (.cons rfl r) ?_;rw[ZA];exact⟨.ref a::ds,M2,Q,.cons (RV.ref_.2 rfl) r2,m2,q2,λd M' v H' qd kq rv mm=>⟨k1.trans (k2.trans kq),d,M',rv,mm,qd⟩⟩
  ·exact Yh q1
 ·exact Yh q1
theorem Bc{T:MT0}{m:Str}{to:WE}{apos:Pos}(hT:zL X T)(ho:PEd X o to)(hb:bA o=true)(hline:(apos.endLine==pos.line)=true):
  PEd X (.Call (.Attribute o m apos) [] [] pos) (sF T m to wNil):=by
 intro σ M ρ H Q rs rm h pins s I;refine PySem.W.methodCall_KW (thn (ho σ M ρ H _ rs rm h pins s I) λu s1 zz7=>?_) (DO hb rfl 'a' hline);obtain⟨v,H1,I1,rv,⟨k1,x,M1,r1,m1,q1⟩⟩:=zz7;unfold vM at q1;dsimp only at q1;split at q1
 ·rename_i a
  split at q1
  ·rename_i C fs e1
   obtain⟨hn,q1⟩:=q1;obtain⟨sp,eT,q1⟩:=aL q1;cases RV.ref_.1 r1;obtain rfl:u=Value.ref a:=rv;obtain⟨dx,gs,sq,ek,rr⟩:=m1 _ _ e1;obtain⟨k,⟨f,fd,ps,c,hm,hbd,F⟩,hr⟩:=hT C m sp eT;refine rT I1 sq c hm ((jc ek rr).1 hn) ?_;refine PySem.W.callWith_K0 (first:=[.ref a]) I1.kIn hm.kp (vS (us:=[.ref a]) (vs:=[.ref a]) F hr hbd .nil vF I1 (.cons rfl .nil) ?_);exact⟨[.ref a],M1,Q,.cons (RV.ref_.2 rfl) .nil,m1,q1,λd M' v H' qd kq rv mm=>⟨k1.trans kq,d,M',rv,mm,qd⟩⟩
  ·exact Yh q1
 ·exact Yh q1
end
end DD
namespace DD
open PySem PyProof.Rows L2
section
variable {K:Type}[DecidableEq K]
def addK(l:List K)(k:K):List K:=if k∈l then l else l++[k]
def aY(ks:List K):List K:=ks.foldl addK []
theorem sG(ks:List K)(k:K):aY (ks++[k])=addK (aY ks) k:=by unfold aY;rw[List.foldl_append];rfl
theorem wx(l:List K)(k:K):(addK l k).length=if decide (k∈l) then l.length else l.length+1:=by
 unfold addK;by_cases h:k∈l
 ·rw[if_pos h,if_pos (YT h)]
 ·rw[if_neg h,if_neg (by simpa using h)];simp
theorem CY(l:List K)(k j:K):decide (j∈addK l k)=(decide (j∈l)||decide (j=k)):=by
 unfold addK;by_cases h:k∈l
 ·rw[if_pos h]
  by_cases e:j=k
  ·subst e;simp[h]
  ·simp[e]
 ·rw[if_neg h];simp
theorem oF:∀(ks l:List K),(ks.foldl addK l).length<=l.length+ks.length
 |[],l=>by simp
 |k::ks,l=>by
  have h1:=oF ks (addK l k);have h2:(addK l k).length<=l.length+1:=by rw[wx];split<;>omega
  simp only[List.foldl_cons,YH];omega
theorem CZ(ks:List K):(aY ks).length<=ks.length:=by have:=oF ks [];simpa [aY] using this
end
section
variable {prog:Zw}{w:World}{A:Around}{R:Result->Shared->Prop}{K:Type}[DecidableEq K]{knd:KeyKind prog w K}
theorem wy{h:Heap}{a:Addr}{S S':K->Bool}{n n':Nat}(q:h.SetOf knd a S n)(e:∀k,S k=S' k)(en:n=n'):h.SetOf knd a S' n':=by
 obtain rfl:S=S':=funext e;subst en;exact q
theorem sH{h h':Heap}{a:Addr}{S:K->Bool}{n:Nat}(q:h.SetOf knd a S n)(k:∀o,h.get? a=some o->h'.get? a=some o):h'.SetOf knd a S n:=by
 obtain⟨o,es,ep,t,y,r⟩:=q;exact⟨o,es,ep,t,k o y,r⟩
theorem C0{I:Addr}{fp wr:Zh}{G:Array GenState->Array GenState->Prop}{n:Nat}{P:Nat->Value->Prop}{St:Nat->Shared->Prop}(W:WalksS prog w A.in1 I fp wr G n P St){B:Addr}(hB:B∉fp){ks:List K}
  (hn:ks.length=n) (hv:∀i v,P i v->∀k,ks[i]?=some k->knd.is k v=true/\v.scannable=true) (hb:n+1<scanBound):
  ∀(j i:Nat) (t:Shared),n-i=j->i<=n->St i t->t.heap.SetOf knd B (λk=>decide (k∈aY (ks.take i))) (aY (ks.take i)).length ->
   (∀t',Moved (B::wr) G t t'->t'.heap.SetOf knd B (λk=>decide (k∈aY ks)) (aY ks).length->R (.ok (.ret .none)) t') ->
   codeAny (model prog w) A (.builtin "set.update.loop" ⟨[.ref B,.ref I],[]⟩) R t:=by
 have hw:B∉wr:=λh=>hB (W.sub _ h)
 have up:∀b∈wr,b∈B::wr:=λb y=>.tail _ y
 intro j;induction j with
 |zero=>
  intro i t e hi st q hR;obtain rfl:i=n:=by omega
  refine codeAny_builtin F.entry_set_update_loop ?_;rw[Around.under_plainId F.plain_set_update_loop _];refine Yb (show wpAny _ A.in1 (pyNext (.ref I)) _ _ t from W.done t _ _ st λt' mv=>?_);refine show wpAny _ A.in1 (ret Value.none) _ _ t' from Yc (hR t' (mv.mono up) ?_);rw[List.take_of_length_le (Nat.le_of_eq hn)] at q;exact sH q λo y=>mv.heap B _ hw y
 |succ j ih=>
  intro i t e hi st q hR;have lt:i<n:=by omega
  refine codeAny_builtin F.entry_set_update_loop ?_;rw[Around.under_plainId F.plain_set_update_loop _];refine Yb (show wpAny _ A.in1 (pyNext (.ref I)) _ _ t from W.item i t _ _ lt st λv t' p st' mv=>?_);obtain⟨k,hk⟩:∃k,ks[i]?=some k:=⟨_,ZC 'b'⟩;obtain⟨is,sc⟩:=hv i v p k hk;have q':=sH (h':=t'.heap) q λo y=>mv.heap B _ hw y
  refine Yb (show wpAny _ A.in1 (holding [v] (setAdd B v)) _ _ t' from Yj ?_);unfold setAdd;refine Yj (Yb (knd.pyHash is ?_));have room:(aY (ks.take i)).length+1<scanBound:=by have:=CZ (ks.take i);rw[List.length_take] at this;omega
  have tk:ks.take (i+1)=ks.take i++[k]:=by rw[List.take_add_one,hk];rfl
  refine wpAny_setAddHashed_of (knd:=knd) (s:={ t' with toks:=t'.toks+1 }) is sc q' room λh' sb q2=>?_
  have q3:=wy (S':=λk'=>decide (k'∈aY (ks.take (i+1)))) (n':=(aY (ks.take (i+1))).length) q2 (λk'=>by rw[tk,sG,CY]) (by rw[tk,sG,wx]);refine Yc ⟨plainId_quiet F.plain_set_update_loop _,ih (i+1) _ 'b' lt (W.frame _ t' _ _ st' (YM _) λb y o e=>?_) q3 λt2 mv2 q4=>?_⟩
  ·rw[sb.2 b (λz:b=B=>hB (z▸y))];exact e
  ·refine hR t2 (Moved.trans W.gtrans ((mv.mono up).then_heap (YM _) λb o y e=>?_) mv2) q4
   rw[sb.2 b (λz:b=B=>y (z▸ZY))];exact e
end
end DD
set_option maxHeartbeats 8000000
namespace DD
open PySem PyProof.Rows L2
section
variable {prog:Zw}{w:World}{A:Around}{Z:Zb}{s:Shared}{K:Type}[DecidableEq K]{knd:KeyKind prog w K}
def dS(led:Bool):Obj:={ cls:=.type "set",dict:=none,data:=.set #[] 0 (.fresh 0 0 led) }
theorem u9{T I:String}{l:Addr}{items:Zl}{ks:List K}{Q:Zb}{od:Zm}{m:Nat}{osl:Zn}(hh:A.handled=none)(y1:s.heap.get? l=some { cls:=.type T,dict:=od,data:=.seq items m,slots:=osl })(s1:isSubtype (.type T) (.type "set")=pure false)(s2:isSubtype (.type T) (.type "frozenset")=pure false)(s3:(Value.type T==Value.type "dict")=false)
  (hI:∀{A:Around} {E:Zb} {t:Shared} {Q:Zb},t.heap.get? l=some { cls:=.type T,dict:=od,data:=.seq items m,slots:=osl }->Q (.ref t.heap.objs.size) { t with heap:=t.heap.push { cls:=.type I,data:=.fields #[.ref l,.int 0 0] } }->wpAny (model prog w) A (pyIter (.ref l)) Q E t)
  (hW:∀J,l≠J->∃St:Nat->Heap->Prop,(∀{A:Around},A.handled=none->Walks prog w A J [J,l] [J] items.size (λi v=>items[i]?=some v) St)/\∀h:Heap,h.get? J=some { cls:=.type I,data:=.fields #[.ref l,.int 0 0] }->h.get? l=some { cls:=.type T,dict:=od,data:=.seq items m,slots:=osl }->St 0 h)
  (hn:ks.length=items.size)
  (hv:∀(i:Nat) (v:Value),items[i]?=some v->∀k,ks[i]?=some k->knd.is k v=true/\v.scannable=true) (hb:items.size+1<scanBound)
  (q:∀(h':Heap) (tk:Nat),h'.SetOf knd s.heap.objs.size (λk=>decide (k∈aY ks)) (aY ks).length ->
   (∀b o,b<s.heap.objs.size->s.heap.get? b=some o->h'.get? b=some o)->Q (.ref s.heap.objs.size) { s with heap:=h',toks:=tk }):
  wpAny (model prog w) A (call (.type "set") [.ref l]) Q Z s:=by
 obtain⟨c,tl,hmro⟩:=F.called_set.mro;have hmade:=F.called_set.made;have hsub:=F.called_set.sub;have n1:=F.called_set.notType;have n2:=F.called_set.canCreate;have n3:=F.typeCall_set_1 (.ref l);refine wpAny_call (codeAny_of_tree (show wpAny _ _ (callAny (.type "set") _) _ _ _ from Yc ⟨Code.quiet_builtin _ 'e',codeAny_builtin F.entry_type_call ?_⟩));rw[Around.under_plain (weight_type_call_type "set" [.ref l] []) rfl];repeat (any_goals (first | assumption | wp_step))
 refine codeAny_mono (code_set_new_1 (.ref l) (E:=Z) (Q₁:=λo t=>∃led:Bool,o=.ref s.heap.objs.size/\t={ s with heap:=s.heap.push (dS led) }) λled=>⟨led,rfl,rfl⟩) λr t hr=>?_
 cases r with
 |error e=>exact hr
 |ok fl=>
  cases fl with
  |ret o=>
   obtain⟨led,rfl,rfl⟩:=hr;have g0:(s.heap.push (dS led)).get? s.heap.objs.size=some (dS led):=Yg _ rfl;have ty:Shared.TypeIs { s with heap:=s.heap.push (dS led) } (.ref s.heap.objs.size) "set":=⟨_,g0,rfl⟩;have l1:=F.called_set.init.lookup;have l2:=F.called_set.init.bind (.ref s.heap.objs.size);repeat (any_goals (first | assumption | wp_step))
   refine codeAny_mono (codeAny_call_builtin (R:=wants (λr t2=>r=.none/\∃h' tk,t2={ s with heap:=h',toks:=tk }/\h'.SetOf knd s.heap.objs.size (λk=>decide (k∈aY ks)) (aY ks).length /\
     (∀b o,b<s.heap.objs.size->s.heap.get? b=some o->h'.get? b=some o)) Z) F.called_set.init.plain F.entry_set_init (check_set_init_1 ty ?_)) λr2 t2 hr2=>?_
   ·have y4:(s.heap.push (dS led)).get? l=some { cls:=.type T,dict:=od,data:=.seq items m,slots:=osl }:=Yd _ y1
    unfold Builtin.«set.__init__» noKeywords Builtin.Frozenset.updateFrom;generalize hPI:pyIter=PI;wp_walk;subst hPI;refine hI y4 (Yb (wpAny_runValue ?_));have z1:(s.heap.push (dS led)).objs.size=s.heap.objs.size+1:=Heap.size_push ..;have z2:l<s.heap.objs.size:=Ye y1;have z3:l≠(s.heap.push (dS led)).objs.size:=by rw[z1];exact ZU (XH z2)
    have z4:s.heap.objs.size∉[(s.heap.push (dS led)).objs.size,l]:=by
     rw[z1];intro y;rcases YA.1 y with y | y
     ·exact absurd y (ZU (YK _))
     ·exact absurd (XJ.1 y) (Nat.ne_of_gt z2)
    obtain⟨St,W,h0⟩:=hW _ z3;refine C0 ((W (by simp[hh])).toS) (knd:=knd) (ks:=ks) z4 hn hv hb (items.size-0) 0 _ 'b' (YL _) (h0 _ (Yg _ rfl) (Yd _ y4)) ?_ ?_
    ·have:=(setObjOf_fresh (knd:=knd) led).setOf (Yd ({ cls:=.type I,data:=.fields #[.ref l,.int 0 0] }:Obj) g0) (by unfold scanBound;omega)
     exact wy this (λk=>by simp[aY]) (by simp[aY])
    ·intro t' mv q'
     obtain⟨h',g',d',tk',os'⟩:=t';obtain rfl:g'=s.gens:=mv.gens;obtain rfl:d'=s.drawn:=mv.drawn;obtain rfl:os'=s.os:=mv.os;refine Yc (show wpAny _ _ (ret Value.none) _ _ _ from Yc ⟨rfl,h',tk',rfl,q',λb o lt e=>mv.heap b o ?_ (Yd _ (Yd _ e))⟩);rw[z1];intro y;rcases YA.1 y with y | y
     ·exact ZU lt y
     ·exact ZU (XH lt) (XJ.1 y)
   ·cases r2 with
    |error e=>exact hr2
    |ok fl2=>
     cases fl2 with
     |ret r=>
      obtain⟨rfl,h',tk,rfl,q',k'⟩:=hr2;repeat (any_goals (first | assumption | wp_step))
      exact q _ _ q' k'
     |_=>exact hr2.elim
  |_=>exact hr.elim
theorem Bd{l:Addr}{items:Zl}{ks:List K}{Q:Zb}(hh:A.handled=none)(hl:s.heap.IsList l items)(hn:ks.length=items.size)
  (hv:∀(i:Nat) (v:Value),items[i]?=some v->∀k,ks[i]?=some k->knd.is k v=true/\v.scannable=true) (hb:items.size+1<scanBound)
  (q:∀(h':Heap) (tk:Nat),h'.SetOf knd s.heap.objs.size (λk=>decide (k∈aY ks)) (aY ks).length ->
   (∀b o,b<s.heap.objs.size->s.heap.get? b=some o->h'.get? b=some o)->Q (.ref s.heap.objs.size) { s with heap:=h',toks:=tk }):
  wpAny (model prog w) A (call (.type "set") [.ref l]) Q Z s:=by
 obtain⟨⟨oc,od,odt,osl⟩,y1,y2,m,y3⟩:=hl;obtain rfl:oc=.type "list":=y2;obtain rfl:odt=.seq items m:=y3;exact u9 (I:="list_iterator") hh y1 F.sub_list_set F.sub_list_frozenset 'a' (λg=>wpAny_pyIter_list ⟨_,g,rfl,_,rfl⟩) (λJ hne=>⟨_,λh=>Walks.list h J l hne items,λh' a b=>⟨⟨_,a,rfl,rfl⟩,⟨_,b,rfl,_,rfl⟩⟩⟩) hn hv hb q
theorem zM{l:Addr}{items:Zl}{ks:List K}{Q:Zb}(hh:A.handled=none)(hl:s.heap.IsTuple l items)(hn:ks.length=items.size)
  (hv:∀(i:Nat) (v:Value),items[i]?=some v->∀k,ks[i]?=some k->knd.is k v=true/\v.scannable=true) (hb:items.size+1<scanBound)
  (q:∀(h':Heap) (tk:Nat),h'.SetOf knd s.heap.objs.size (λk=>decide (k∈aY ks)) (aY ks).length ->
   (∀b o,b<s.heap.objs.size->s.heap.get? b=some o->h'.get? b=some o)->Q (.ref s.heap.objs.size) { s with heap:=h',toks:=tk }):
  wpAny (model prog w) A (call (.type "set") [.ref l]) Q Z s:=by
 obtain⟨⟨oc,od,odt,osl⟩,y1,y2,m,y3⟩:=hl;obtain rfl:oc=.type "tuple":=y2;obtain rfl:odt=.seq items m:=y3;exact u9 (I:="tuple_iterator") hh y1 F.sub_tuple_set F.sub_tuple_frozenset 'a' (λg=>wpAny_pyIter_tuple ⟨_,g,rfl,_,rfl⟩) (λJ hne=>⟨_,λh=>Walks.tuple h J l hne items,λh' a b=>⟨⟨_,a,rfl,rfl⟩,⟨_,b,rfl,_,rfl⟩⟩⟩) hn hv hb q
end
end DD
namespace DD
open PySem PySem.Spec PyProof.Rows L2
def nZ:List D->Option (List Str)
 |[]=>some []
 |.str x::r=>(nZ r).map (x :: ·)
 |_=>none
def jd:List D->Option (List Int)
 |[]=>some []
 |.int x::r=>(jd r).map (x :: ·)
 |_=>none
theorem wz{K:Za}{H:Hp}:∀{ds:List D}{ks:Zf}{vs:List V},nZ ds=some ks->RVs K H ds vs->vs=ks.map V.str
 |[],ks,vs,h,r=>by
  rw[nZ] at h;cases h;rw[RVs] at r;subst r;rfl
 |.str x::ds,ks,vs,h,r=>by
  rw[nZ] at h;rw[RVs] at r;obtain⟨v,vs',rfl,r1,r2⟩:=r;cases q:nZ ds with
  |none=>rw[q] at h;cases h
  |some js=>
   rw[q] at h;cases h;rw[wz q r2,RV.str_.1 r1];rfl
 |.non::_,_,_,h,_=>by cases h
 |.bl _::_,_,_,h,_=>by cases h
 |.int _::_,_,_,h,_=>by cases h
 |.tup _::_,_,_,h,_=>by cases h
 |.ref _::_,_,_,h,_=>by cases h
 |.ty _::_,_,_,h,_=>by cases h
theorem rg{K:Za}{H:Hp}:∀{ds:List D}{ks:Zi}{vs:List V},jd ds=some ks->RVs K H ds vs->vs=ks.map V.int
 |[],ks,vs,h,r=>by
  rw[jd] at h;cases h;rw[RVs] at r;subst r;rfl
 |.int x::ds,ks,vs,h,r=>by
  rw[jd] at h;rw[RVs] at r;obtain⟨v,vs',rfl,r1,r2⟩:=r;cases q:jd ds with
  |none=>rw[q] at h;cases h
  |some js=>
   rw[q] at h;cases h;rw[rg q r2,RV.int_.1 r1];rfl
 |.non::_,_,_,h,_=>by cases h
 |.bl _::_,_,_,h,_=>by cases h
 |.str _::_,_,_,h,_=>by cases h
 |.tup _::_,_,_,h,_=>by cases h
 |.ref _::_,_,_,h,_=>by cases h
 |.ty _::_,_,_,h,_=>by cases h
def qt(xs:List D)(Q:Int->Prop):Prop:=xs.length<4000/\match nZ xs with
 |some ks=>Q ((aY ks).length:Nat)
 |none=>match jd xs with
  |some ks=>Q ((aY ks).length:Nat)
  |none=>False
def lstD(d:D)(M:MH)(Q:List D->Prop):Prop:=match d with
 |.ref a=>match M a with
  |some (.lst xs)=>Q xs
  |some (.rol xs)=>Q xs
  |_=>False
 |_=>False
def seqL(d:D)(M:MH)(Q:List D->Prop):Prop:=match d with
 |.tup xs=>Q xs
 |d=>lstD d M Q
def ui(t:WE):WE:=λσ M Q=>t σ M λd M1=>seqL d M1 λxs=>qt xs λn=>Q (.int n) M1
section
variable {X:Cx}{H:Hp}{pos:Pos}
theorem yN{K:Za}{d:D}{M:MH}{Q:List D->Prop}{v:V}(q:lstD d M Q)(rv:RV K H d v)(rm:RM K M H):∃a xs vs,v=.ref a/\SqL K H a vs/\RVs K H xs vs/\Q xs:=by
 unfold lstD at q;split at q
 ·rename_i a
  split at q
  ·rename_i xs e
   obtain⟨ys,e1,rr⟩:=rm a _ e;exact⟨a,xs,ys,RV.ref_.1 rv,SqL.of e1,rr,q⟩
  ·rename_i xs e
   obtain⟨ys,e1,rr⟩:=rm a _ e;exact⟨a,xs,ys,RV.ref_.1 rv,.inl e1,rr,q⟩
  ·exact Yh q
 ·exact Yh q
theorem Be{pins:Zc}{ρ:L2.St}{s:Shared}{a:Addr}{xs:List D}{vs:List V}{Q:Int->Prop}{Z:Zb}{R:Zb}(hc:X.calm=true)(I:Inv X pins ρ H s)(hq:SqL X.K H a vs\/SqT X.K H a vs)(rr:RVs X.K H xs vs)(q:qt xs Q)
  (g:∀n tk h' tk',Q n->Inv X pins ρ H { s with heap:=h',toks:=tk' }->R (.int n tk) { s with heap:=h',toks:=tk' }):
  wpAny 'c' X.A (call (.type "set") [.ref a]) (λu s1=>wpAny 'c' X.A (call (.builtin "len") [u]) R Z s1) Z s:=by
 have ht:∃its,Vals vs its/\(s.heap.IsList a its.toArray\/s.heap.IsTuple a its.toArray):=by
  rcases hq with hq | hq
  ·obtain⟨its,rv,p,_⟩:=I.list hq
   exact⟨its,rv,.inl p.isList⟩
  ·obtain⟨its,rv,p,_⟩:=I.tuple hq
   exact⟨its,rv,.inr p⟩
 obtain⟨its,rv,p⟩:=ht;have ll:xs.length=its.length:=by rw[rr.len,rv.length]
 have setA:∀{K:Type}[DecidableEq K] {knd:KeyKind X.prog X.w K}{ks:List K}{Q2:Zb},ks.length=its.toArray.size->(∀(i:Nat) (v:Value),its.toArray[i]?=some v->∀k,ks[i]?=some k->knd.is k v=true/\v.scannable=true)->its.toArray.size+1<scanBound ->
   (∀(h':Heap) (tk:Nat),h'.SetOf knd s.heap.objs.size (λk=>decide (k∈aY ks)) (aY ks).length->(∀b o,b<s.heap.objs.size->s.heap.get? b=some o->h'.get? b=some o)->Q2 (.ref s.heap.objs.size) { s with heap:=h',toks:=tk }) ->
   wpAny 'c' X.A (call (.type "set") [.ref a]) Q2 Z s:=by
  intro K _ knd ks Q2 a1 a2 a3 a4;rcases p with p | p
  ·exact Bd (I.ok.hd hc) p a1 a2 a3 a4
  ·exact zM (I.ok.hd hc) p a1 a2 a3 a4
 unfold qt at q;obtain⟨hl,q⟩:=q;have fin:∀{K:Type}[DecidableEq K] {knd:KeyKind X.prog X.w K}{ks:List K}(h':Heap) (tk:Nat),h'.SetOf knd s.heap.objs.size (λk=>decide (k∈aY ks)) (aY ks).length->Q ((aY ks).length:Nat) ->
   (∀b o,b<s.heap.objs.size->s.heap.get? b=some o->h'.get? b=some o)->wpAny 'c' X.A (call (.builtin "len") [.ref s.heap.objs.size]) R Z { s with heap:=h',toks:=tk }:=by
  intro K _ knd ks h' tk st qq kp;obtain⟨o,es,ep,t,y1,y2,y3,_,_,y4,y5,y6⟩:=st;rw[←y6] at qq;refine call_len_set (s:={ s with heap:=h',toks:=tk }) y1 y2 y3 y5 (by unfold scanBound at y4;omega) ?_;exact g _ _ h' (tk+1+1) qq (I.kept (t':=tk+1+1) λb o e=>kp b o (Ye e) e)
 split at q
 ·rename_i ks e
  obtain rfl:=wz e rr;have lk:ks.length=its.length:=by have:=rv.length;simpa using this
  refine setA (knd:=strKind X.prog X.w) (ks:=ks) (by simpa using lk) (λi v hv k hk=>?_) (by unfold scanBound;simp;omega) λh' tk st kp=>fin h' tk st q kp
  obtain⟨u,h1,h2⟩:=rv.get (i:=i) (x:=.str k) (by simp[hk]);have:v=u:=by simp at hv;rw[hv] at h1;cases h1;rfl
  subst this;obtain⟨t,rfl⟩:∃t,v=Value.str k t:=h2;exact⟨strKind_is _ _ _ _,rfl⟩
 ·split at q
  ·rename_i ks e
   obtain rfl:=rg e rr;have lk:ks.length=its.length:=by have:=rv.length;simpa using this
   refine setA (knd:=intKind X.prog X.w) (ks:=ks) (by simpa using lk) (λi v hv k hk=>?_) (by unfold scanBound;simp;omega) λh' tk st kp=>fin h' tk st q kp
   obtain⟨u,h1,h2⟩:=rv.get (i:=i) (x:=.int k) (by simp[hk]);have:v=u:=by simp at hv;rw[hv] at h1;cases h1;rfl
   subst this;obtain⟨t,rfl⟩:∃t,v=Value.int k t:=h2;exact⟨intKind_is _ _ _ _,rfl⟩
  ·exact Yh q
theorem zN{l:Expr}{t:WE}{p p2 pos2:Pos}(hc:X.calm=true)(hg:Gl X "len")(hm:X.mg "len" = none)(hg2:Gl X "set")(hm2:X.mg "set" = none)(h:PEd X l t)(hs:ar l=true):PEd X (.Call (.Name "len" p) [.Call (.Name "set" p2) [l] [] pos2] [] pos) (ui t):=by
 intro σ M ρ H Q rs rm q pins s I;refine Call_ (cM I hg hm PySem.boot_len (callWith_builtin1 (args_cons (Call_ (cM I hg2 hm2 (by rfl':bootBuiltins "set" = some (.type "set")) (PyProof.Rows.callWith_type1 (args_cons (thn (h σ M ρ H _ rs rm q pins s I) λu s1 zz1=>?_) (aP hs)) (aP hs) rfl))))));obtain⟨v,H1,I1,rv,⟨k1,d,M1,r1,m1,q1⟩⟩:=zz1;have hsq:∃a xs vs,v=.ref a/\(SqL X.K H1 a vs\/SqT X.K H1 a vs)/\RVs X.K H1 xs vs/\qt xs λn=>Q (.int n) M1:=by
  unfold seqL at q1;dsimp only at q1;split at q1
  ·obtain⟨a,vs,rfl,sq,rr⟩:=RV.tup_.1 r1
   exact⟨a,_,vs,rfl,.inr sq,rr,q1⟩
  ·obtain⟨a,xs,vs,rfl,sq,rr,q2⟩:=yN q1 r1 m1
   exact⟨a,xs,vs,rfl,.inl sq,rr,q2⟩
 obtain⟨a,xs,vs,rfl,sq,rr,q2⟩:=hsq;cases rv;refine args_nil ?_
 have:=Be (X:=X) (R:=λw t=>EP X pins ρ (lift X.K H Q) w t) (Z:=X.xe) hc I1 sq rr q2 λn tk h' tk' qn I'=>⟨.int n,H1,I',⟨_,rfl⟩,k1,.int n,M1,RV.int_.2 rfl,m1,qn⟩
 exact wpAny_mono this (λu t y=>args_nil y) λ_ _ y=>y
end
def cntD:List D->Option (List Int)
 |[]=>some []
 |.int x::r=>(cntD r).map (x :: ·)
 |.bl b::r=>(cntD r).map ((if b=true then 1 else 0) :: ·)
 |_=>none
theorem qN(ns:Zi):∀j,j<=ns.length->preSum (λi=>ns.getD i 0) j=(ns.take j).sum
 |0,_=>by simp[preSum]
 |j+1,h=>by
  have hj:j<ns.length:=h;rw[preSum,qN ns j 'b',List.take_add_one,List.sum_append,ZC hj];simp[List.getD,ZC hj]
theorem rh{K:Za}{H:Hp}:∀{ds:List D}{ns:Zi}{vs:List V}{us:Zd}{i:Nat}{u:Value},cntD ds=some ns->RVs K H ds vs->Vals vs us->us[i]?=some u->NumOf (ns.getD i 0) u
 |[],ns,vs,us,i,u,h,r,rv,e=>by
  rw[RVs] at r;subst r;cases rv;cases e
 |.int x::ds,ns,vs,us,i,u,h,r,rv,e=>by
  rw[RVs] at r;obtain⟨v,vs',rfl,r1,r2⟩:=r;cases rv with
  |cons ra rb=>
   rw[cntD] at h;cases q:cntD ds with
   |none=>rw[q] at h;cases h
   |some js=>
    rw[q] at h;cases h;cases RV.int_.1 r1;cases i with
    |zero=>simp at e;subst e;exact .inl ra
    |succ i=>simpa using rh q r2 rb (by simpa using e)
 |.bl x::ds,ns,vs,us,i,u,h,r,rv,e=>by
  rw[RVs] at r;obtain⟨v,vs',rfl,r1,r2⟩:=r;cases rv with
  |cons ra rb=>
   rw[cntD] at h;cases q:cntD ds with
   |none=>rw[q] at h;cases h
   |some js=>
    rw[q] at h;cases h;cases RV.bl_.1 r1;cases i with
    |zero=>simp at e;subst e;exact .inr ⟨x,ra,rfl⟩
    |succ i=>simpa using rh q r2 rb (by simpa using e)
 |.non::_,_,_,_,_,_,h,_,_,_=>by cases h
 |.str _::_,_,_,_,_,_,h,_,_,_=>by cases h
 |.tup _::_,_,_,_,_,_,h,_,_,_=>by cases h
 |.ref _::_,_,_,_,_,_,h,_,_,_=>by cases h
 |.ty _::_,_,_,_,_,_,h,_,_,_=>by cases h
theorem rj:∀{ds:List D}{ns:Zi},cntD ds=some ns->ns.length=ds.length
 |[],_,h=>by rw[cntD] at h;cases h;rfl
 |.int x::ds,ns,h=>by
  rw[cntD] at h;cases q:cntD ds with
  |none=>rw[q] at h;cases h
  |some js=>rw[q] at h;cases h;simp[rj q]
 |.bl x::ds,ns,h=>by
  rw[cntD] at h;cases q:cntD ds with
  |none=>rw[q] at h;cases h
  |some js=>rw[q] at h;cases h;simp[rj q]
 |.non::_,_,h=>by cases h
 |.str _::_,_,h=>by cases h
 |.tup _::_,_,h=>by cases h
 |.ref _::_,_,h=>by cases h
 |.ty _::_,_,h=>by cases h
def dSum:SpD:=λds M Q=>match ds with
 |[d]=>lstD d M λxs=>optD (cntD xs) λns=>Q (.int ns.sum) M
 |_=>False
section
variable {X:Cx}{H:Hp}{pos:Pos}{e:Expr}{es:Zg}
theorem GX(hc:X.calm=true):gI X (.builtin "sum") dSum:=by
 intro ds vs H M Q r rm h;unfold dSum at h;split at h
 ·obtain⟨v,rfl,r1⟩:=rvs1 r
  obtain⟨a,xs,ws,rfl,hq,rr,q⟩:=yN h r1 rm;obtain⟨ns,e2,q⟩:=aL q;intro pins s ρ us I rv0;obtain⟨u,rfl,ru⟩:=vals1 rv0;cases ru;obtain⟨its,rv,pl,hz⟩:=I.list hq;have hlt:a<s.heap.objs.size:=by obtain⟨o,_,e,_⟩:=pl;exact Ye e
  have len:its.toArray.size=ns.length:=by rw[rj e2,rr.len,rv.length];simp
  refine call_sum_walkAnyB (wpAny_pyIter_list pl.isList ⟨s.heap.objs.size,_,_,_,_,_,_,λi=>ns.getD i 0,rfl,(Walks.list (A:=X.A.in1) (I.ok.hd hc) s.heap.objs.size a (ZU hlt) its.toArray).toS,
   ⟨⟨_,Yg _ rfl,rfl,rfl⟩,pl.isList.push _⟩,λb hb=>?_,λi v hv=>rh e2 rr rv (by simpa using hv),λs' t' mv=>?_⟩)
  ·show b<(s.heap.push _).objs.size
   rw[Heap.size_push];rcases YA.1 hb with y | y
   ·exact y▸YK _
   ·exact(XJ.1 y)▸XH hlt
  ·rw[len,qN ns _ (YE _),List.take_length]
   obtain⟨h',g',d',tk',os'⟩:=s';obtain rfl:g'=s.gens:=mv.gens;obtain rfl:d'=s.drawn:=mv.drawn;obtain rfl:os'=s.os:=mv.os;refine⟨.int _,H,I.kept (t':=tk') λb o e=>mv.heap b o ?_ (Yd _ e),⟨_,rfl⟩,ay (RV.int_.2 rfl) rm q⟩;simp only[XJ];exact ZU (Ye e)
 ·exact Yh h
end
section
variable {X:Cx}{H:Hp}{pos:Pos}{e:Expr}{es:Zg}
inductive Bj where
 |sum
 deriving DecidableEq
def dBj:Bj->SpD
 |.sum=>dSum
def sJ:Bj->Str
 |.sum=>"sum"
theorem GY(b:Bj)(hc:X.calm=true){t:WA}{p:Pos}(hg:Gl X (sJ b))(hm:X.mg (sJ b)=none)(hs:ar e=true)(hss:es.all ar=true)(ha:PAd X (e::es) t):PEd X (.Call (.Name (sJ b) p) (e::es) [] pos) (fK (dBj b) t):=by
 cases b with
 |sum=>exact gw (GX hc) hg hm 'e' 'a' 'a' hs hss ha
end
def dU(a:Int)(n:Nat):List V:=(List.range n).map λ(i:Nat)=>.int (a+(i:Int))
theorem zO(a:Int)(n:Nat):(dU a n).length=n:=by unfold dU;rw[ZE,ZI]
theorem qu{K:Za}{H:Hp}{α:Type}{f:α->D}{g:α->V}(h:∀x,RV K H (f x) (g x)):∀(l:List α),RVs K H (l.map f) (l.map g)
 |[]=>.nil
 |x::l=>.cons (h x) (qu h l)
theorem C1{K:Za}{H:Hp}(a b:Int):RVs K H (a8 a b) (dU a (b-a).toNat):=qu (λ_=>RV.int_.2 rfl) _
theorem sK:∀(its:Zd) (a:Int),(∀(j:Nat) v,its[j]?=some v->∃t,v=Value.int (a+j*1) t)->Vals (dU a its.length) its
 |[],_,_=>.nil
 |u::its,a,h=>by
  have e:dU a (u::its).length=.int a::dU (a+1) its.length:=by
   unfold dU;rw[YH,List.range_succ_eq_map,YJ,ZL];congr 1
   ·simp
   ·refine ZM λi _=>?_
    show V.int (a+((i+1:Nat):Int))=V.int (a+1+(i:Int));congr 1;omega
  rw[e];refine .cons ?_ (sK its (a+1) λj v e=>?_)
  ·obtain⟨t,e⟩:=h 0 u rfl
   exact⟨t,by rw[e];simp⟩
  ·obtain⟨t,e2⟩:=h (j+1) v (by simpa using e)
   refine⟨t,?_⟩;rw[e2];congr 1;omega
def rngD(ds:List D)(Q:List D->Prop):Prop:=match ds with
 |[.int j]=>(-1000000<j/\j<1000000)/\Q (a8 0 j)
 |[.int i,.int j]=>(-1000000<i/\i<1000000/\-1000000<j/\j<1000000)/\Q (a8 i j)
 |_=>False
def wLrg(t:WA):WE:=λσ M Q=>t σ M λds M1=>rngD ds λxs=>∀p,M1 p=none->Q (.ref p) (updM M1 p (.lst xs))
section
variable {X:Cx}{H:Hp}{pos:Pos}{e:Expr}{es:Zg}
theorem Bf{pins:Zc}{ρ:L2.St}{s:Shared}{lo hi:Int}{t u v:Tok}{tk:Nat}{M:MH}{H0:Hp}{Q:DK}(hc:X.calm=true)(I:Inv X pins ρ H s)(k0:Kp H0 H)(rm:RM X.K M H)(h1:-1000000<lo)(h2:lo<1000000)(h3:-1000000<hi)(h4:hi<1000000)
  (q:∀p,M p=none->Q (.ref p) (updM M p (.lst (a8 lo hi)))):
  wpAny 'c' X.A (call (.type "list") [.ref s.heap.objs.size]) (EP X pins ρ (lift X.K H0 Q)) X.xe { s with heap:=s.heap.push { cls:=.type "range",data:=.fields #[.int lo t,.int hi u,.int 1 v] },toks:=tk }:=by
 have I1:Inv X pins ρ H { s with heap:=s.heap.push { cls:=.type "range",data:=.fields #[.int lo t,.int hi u,.int 1 v] },toks:=tk }:=I.kept λb o e=>Yd _ e
 refine call_list_range (s:={ s with heap:=s.heap.push { cls:=.type "range",data:=.fields #[.int lo t,.int hi u,.int 1 v] },toks:=tk }) (n:=(hi-lo).toNat) (I.ok.hd hc) (IsRange.new ..) (small_one 'b' 'b' 'b' 'b')
  (by rw[rangeSize_one];split<;>omega) 'b' λh' tk' acc c' hk he hi'=>?_
 obtain⟨hs,hi'⟩:=hi';have hl:acc.toList.length=(hi-lo).toNat:=by rw[←hs];simp
 have hv:Vals (dU lo (hi-lo).toNat) acc.toList:=by
  rw[←hl];refine sK acc.toList lo λj w e=>?_
  exact hi' j w (by rw[←YZ];exact e)
 have hf:H (s.heap.push { cls:=.type "range",data:=.fields #[.int lo t,.int hi u,.int 1 v] }).objs.size=none:=I1.hok.fresh (YE _);have k:=Kp.new (o:=.lst (dU lo (hi-lo).toNat)) hf;have hz:(dU lo (hi-lo).toNat).length<=sizeLine:=by
  rw[zO];have:(2000000:Nat)<=sizeLine:=by decide
  omega
 exact⟨.ref _,_,I1.laid (t':=tk') hk (YE _) (show aU X.prog X.w _ h' _ (.lst (dU lo (hi-lo).toNat)) from⟨hz,acc.toList,c',hv,by simpa using he⟩),rfl,k0.trans k,.ref _,_,RV.ref_.2 rfl,rm.new (m:=.lst (a8 lo hi)) hf ⟨_,az,C1 _ _⟩,q _ (rm.fresh hf)⟩
theorem C2{a:Expr}{t:WA}{p p2 pos2:Pos}(hc:X.calm=true)(hg:Gl X "list")(hm:X.mg "list" = none)(hg2:Gl X "range")(hm2:X.mg "range" = none)(ha:PAd X [a] t)(hs:ar a=true):
  PEd X (.Call (.Name "list" p) [.Call (.Name "range" p2) [a] [] pos2] [] pos) (wLrg t):=by
 intro σ M ρ H Q rs rm q pins s I;refine Call_ (cM I hg hm (by rfl':bootBuiltins "list" = some (.type "list")) (PyProof.Rows.callWith_type1 (args_cons (Call_ (cM I hg2 hm2 boot_range (PyProof.Rows.callWith_type1 (thn (ha σ M ρ H _ rs rm q _ pins s I) λus s1 zz1=>?_) (aP hs) rfl)))) rfl rfl));obtain⟨vs,H1,I1,r1,⟨k1,ds,M1,r2,l2,m1,q1⟩⟩:=zz1;unfold rngD at q1;dsimp only at q1;split at q1
 ·obtain⟨v,rfl,r3⟩:=rvs1 r2
  cases RV.int_.1 r3;obtain⟨u,rfl,ru⟩:=vals1 r1;obtain⟨t,rfl⟩:=ru;obtain⟨⟨b1,b2⟩,q1⟩:=q1;refine call_range_1 (args_nil ?_);exact Bf hc I1 k1 m1 'a' 'a' b1 b2 q1
 ·rename_i i j
  exact absurd l2 (by simp)
 ·exact Yh q1
theorem C4{a b:Expr}{t:WA}{p p2 pos2:Pos}(hc:X.calm=true)(hg:Gl X "list")(hm:X.mg "list" = none)(hg2:Gl X "range")(hm2:X.mg "range" = none)(ha:PAd X [a,b] t)(hs:ar a=true)(hs2:ar b=true):
  PEd X (.Call (.Name "list" p) [.Call (.Name "range" p2) [a,b] [] pos2] [] pos) (wLrg t):=by
 intro σ M ρ H Q rs rm q pins s I;refine Call_ (cM I hg hm (by rfl':bootBuiltins "list" = some (.type "list")) (PyProof.Rows.callWith_type1 (args_cons (Call_ (cM I hg2 hm2 boot_range (PyProof.Rows.callWith_type1 (thn (ha σ M ρ H _ rs rm q _ pins s I) λus s1 zz2=>?_) (aP hs) (cZ (by rw[XN,hs2];rfl)))))) rfl rfl));obtain⟨vs,H1,I1,r1,⟨k1,ds,M1,r2,l2,m1,q1⟩⟩:=zz2;unfold rngD at q1;dsimp only at q1;split at q1
 ·exact absurd l2 (by simp)
 ·obtain⟨v,w',rfl,r3,r4⟩:=rvs2 r2
  cases RV.int_.1 r3;cases RV.int_.1 r4;obtain⟨u,u',rfl,ru,ru'⟩:=r1.two;obtain⟨t,rfl⟩:=ru;obtain⟨t',rfl⟩:=ru';obtain⟨⟨b1,b2,b3,b4⟩,q1⟩:=q1;refine call_range_2 (args_nil ?_);exact Bf hc I1 k1 m1 b1 b2 b3 b4 q1
 ·exact Yh q1
structure IsiOk (K:Za) (C D:Addr) (b:Bool):Prop where
 cl:Cls K C
 ha:PySem.W.findIn K (.ref C) "__class__" = some (some (.builtin "object.__class__"))
 hn:PySem.W.specialIn K (.builtin "object.__class__") "__get__" = some (some (.builtin "getset_descriptor.__get__"))
 ht:PySem.W.takesIn K (.builtin "object.__class__")=some true
 hm:PySem.W.mroIn K C (.type "object")=some true
 ki:PySem.W.kitOne K (.ref C) (.ref D)=some b
abbrev IS0:=Addr->Addr->Option Bool
end
section
variable {prog:Zw}{w:World}{A:Around}{E:Zb}{s:Shared}{κ:Type}[DecidableEq κ]{knd:KeyKind prog w κ}
abbrev vN(knd:KeyKind prog w κ)(kvs:List (κ×Value)):Nat->Value->Prop:=λi v=>∃k x,kvs[i]?=some (k,x)/\knd.is k v=true
theorem Bg{d:Addr}{kvs:List (κ×Value)}{ep:Nat}{Q:Bool->Shared->Prop}(hd:(d==sysModules)=false)(hm:s.heap.DictAt knd d kvs ep)(hl:kvs.length<=2 ^ 24)(h:∀b tk,Q b { s with toks:=tk }):
  wpAny (model prog w) A (Builtin.List.listLengthHint (.ref d)) Q E s:=by
 have hT:s.TypeIs (.ref d) "dict":=hm.dictOf.typeIs;unfold Builtin.List.listLengthHint;refine Yb (wpAny_specialOf hT F.slot_dict_len.lookup ?_);generalize hid:("dict.__len__" : String)=id0;wp_delta;rw[show splitId id0=some ("dict","__len__") from by subst hid;rfl'];subst hid;refine Yb (wpAny_isInstance (T:="dict") (b:=true) hT (by rw[isSubtype_type];kernel_rfl) ?_);refine wpAny_ite_split (λhab=>absurd hab 'a') (λ_=>?_);refine wpAny_ite_split (λ_=>?_) (λhab=>absurd 'e' hab);refine Yb (wpAny_typeOf hT ?_);exact Yc (h false s.toks)
theorem qO{R:Result->Shared->Prop}{d:Addr}{kvs:List (κ×Value)}{ep:Nat}(hh:A.handled=none)(hd:(d==sysModules)=false)(hm:s.heap.DictAt knd d kvs ep)(hl:kvs.length<=2 ^ 24)(S:Addr)(res:Value)(c₀:Nat)
  (hS:s.heap.get? S=some { cls:=.type "list",data:=.seq #[] c₀ })
  (hR:∀h' tk acc c',(∀b o,b≠S->s.heap.get? b=some o->h'.get? b=some o)->h'.get? S=some { cls:=.type "list",dict:=none,data:=.seq acc c',slots:=#[] }->ItemsOf (vN knd kvs) acc kvs.length->R (.ok (.ret res)) { s with heap:=h',toks:=tk }):
  wpAny (model prog w) A.in1 (Builtin.List.listExtendWith (.ref S) (.ref d) res)
   (λfin s'=>match fin with
    |.done f=>R (.ok f) s'
    |.again c'=>c'.quiet=true/\codeAny (model prog w) A c' R s') (λe s'=>R (.error e) s') s:=by
 have hT:s.TypeIs (.ref d) "dict":=hm.dictOf.typeIs;have hSd:S≠d:=λe=>by
  obtain⟨o,es,ho,_,hdat,_⟩:=id hm;rw[e,ho] at hS;cases hS;cases hdat
 have hdI:d≠s.heap.objs.size:=ZU hm.lt_size;have hSI:S≠s.heap.objs.size:=ZU (Ye hS);have W:=(Walks.dictKeys (prog:=prog) (w:=w) (A:=A.in1) (knd:=knd) hh s.heap.objs.size d hdI kvs ep).toS;have go:∀(h:Heap) (c₁ tk:Nat),h.IsKeyIter s.heap.objs.size d 0 kvs.length ep->(∀b o,b≠S->s.heap.get? b=some o->h.get? b=some o)->h.get? S=some { cls:=.type "list",data:=.seq #[] c₁ } ->
   codeAny (model prog w) A (.builtin "list.extend.loop" ⟨[.ref S,.ref s.heap.objs.size,res],[]⟩) R { s with heap:=h,toks:=tk }:=by
  intro h c₁ tk hit hk hS₁;refine codeAny_extend_loopS W (by rw[sizeLine_eq];omega) S (by simp;exact⟨hSI,hSd⟩) res kvs.length 0 _ #[] c₁ rfl (YL _) ⟨hit,hm.at' λo e=>hk d o (Ne.symm hSd) e⟩ hS₁ (ItemsOf.nil _) λs' acc c' mv hS' hacc=>?_
  rw[Moved.eq_with mv];refine hR s'.heap s'.toks acc c' (λb o hb e=>mv.heap b o (λhmem=>?_) (hk b o hb e)) hS' hacc;rcases YA.mp hmem with e' | e'
  ·exact hb e'
  ·exact absurd (Ye e) (by rw[XJ.mp e'];exact ZT _)
 unfold Builtin.List.listExtendWith;refine Yb (wpAny_typeOf hT ?_);have n1:Builtin.List.listSameRef (.ref S) (.ref d)=false:=by simp[Builtin.List.listSameRef,hSd]
 simp only[n1,show(Value.type "dict" == Value.type "list")=false by decide,show(Value.type "dict" == Value.type "tuple")=false by decide,Bool.or_false,XB,if_false];refine Yb (wpAny_pyIter_dict hd hm ?_);refine Yb (Yj (Bg hd (hm.push _) hl λb tk=>?_));have it1:(s.heap.push { cls:=.type "dict_keyiterator",data:=.fields #[.ref d,.int 0 0,.int kvs.length 0,.int ep 0] }).IsKeyIter s.heap.objs.size d 0 kvs.length ep:=⟨_,Yg _ rfl,rfl,rfl⟩;have s1:=Yd { cls:=.type "dict_keyiterator",data:=.fields #[.ref d,.int 0 0,.int kvs.length 0,.int ep 0] } hS;have k1:∀b o,b≠S->s.heap.get? b=some o->(s.heap.push { cls:=.type "dict_keyiterator",data:=.fields #[.ref d,.int 0 0,.int kvs.length 0,.int ep 0] }).get? b=some o:=λb o _ e=>Yd _ e
 generalize s.heap.push { cls:=.type "dict_keyiterator",data:=.fields #[.ref d,.int 0 0,.int kvs.length 0,.int ep 0] }=h1 at it1 s1 k1 ⊢;refine wpAny_ite_split (λ_=>?_) (λ_=>Yc ⟨plainId_quiet F.plain_extend_loop _,go _ c₀ _ it1 k1 s1⟩);refine Yb (wpAny_rule (Yb ?_));show wpAny _ _ (updateSeq S (·.push .none) >>= λ_=>updateSeq S (·.pop)) _ _ _;refine Yb (wpAny_updateSeq s1 rfl ?_);have s2:=Heap.get?_update_self (Obj.mapSeq (·.push Value.none)) s1 rfl;have it2:(h1.update S (Obj.mapSeq (·.push Value.none))).IsKeyIter s.heap.objs.size d 0 kvs.length ep:=it1.at λo e=>(Heap.get?_update_other _ _ hSI).trans e
 have k2:∀b o,b≠S->s.heap.get? b=some o->(h1.update S (Obj.mapSeq (·.push Value.none))).get? b=some o:=λb o hb e=>(Heap.get?_update_other _ _ (Ne.symm hb)).trans (k1 b o hb e)
 generalize h1.update S (Obj.mapSeq (·.push Value.none))=h2 at it2 s2 k2 ⊢;refine wpAny_updateSeq (hz:=by seq_fits) s2 rfl ?_;have s3:=Heap.get?_update_self (Obj.mapSeq (·.pop)) s2 rfl;have it3:(h2.update S (Obj.mapSeq (·.pop))).IsKeyIter s.heap.objs.size d 0 kvs.length ep:=it2.at λo e=>(Heap.get?_update_other _ _ hSI).trans e
 have k3:∀b o,b≠S->s.heap.get? b=some o->(h2.update S (Obj.mapSeq (·.pop))).get? b=some o:=λb o hb e=>(Heap.get?_update_other _ _ (Ne.symm hb)).trans (k2 b o hb e)
 generalize h2.update S (Obj.mapSeq (·.pop))=h3 at it3 s3 k3 ⊢;exact Yc ⟨plainId_quiet F.plain_extend_loop _,go h3 _ _ it3 k3 s3⟩
end
section
variable {prog:Zw}{w:World}{A:Around}{E:Zb}{s:Shared}{κ:Type}[DecidableEq κ]{knd:KeyKind prog w κ}
theorem list_dict{Q:Zb}{d:Addr}{kvs:List (κ×Value)}{ep:Nat}(hh:A.handled=none)(hd:(d==sysModules)=false)(hm:s.heap.DictAt knd d kvs ep)(hl:kvs.length<=2 ^ 24)
  (hQ:∀h' tk acc c',(∀b o,s.heap.get? b=some o->h'.get? b=some o)->h'.get? s.heap.objs.size=some { cls:=.type "list",dict:=none,data:=.seq acc c',slots:=#[] }->ItemsOf (vN knd kvs) acc kvs.length ->
   Q (.ref s.heap.objs.size) { s with heap:=h',toks:=tk }):wpAny (model prog w) A (call (.type "list") [.ref d]) Q E s:=by
 refine callType_codes (Q₁:=λobj s₁=>obj=.ref s.heap.objs.size/\s₁={ s with heap:=s.heap.push { cls:=.type "list",data:=.seq #[] } }) F.called_list (F.typeCall_list_1 _) F.entry_list_init (code_list_new _ ⟨rfl,rfl⟩) λobj s₁ h₁=>?_
 obtain⟨rfl,rfl⟩:=h₁;have p0:(s.heap.push { cls:=.type "list",data:=.seq #[] }).get? s.heap.objs.size=some { cls:=.type "list",data:=.seq #[] }:=Yg _ rfl;refine⟨⟨_,p0,rfl⟩,F.args_list_init_2 _ _,?_⟩;show wpAny _ _ (do let old ←Builtin.List.listItems (.ref s.heap.objs.size);Builtin.List.listUpdate (.ref s.heap.objs.size) (λ_=>#[]);letGo old.toList.reverse;Builtin.List.listExtendWith (.ref s.heap.objs.size) (.ref d) .none) _ _ _;refine Yb ?_;unfold Builtin.List.listItems;refine Yb (wpAny_seqItems p0 rfl (Yc ?_));show wpAny _ _ (updateSeq s.heap.objs.size (λ_=>#[]) >>= λ_=>letGo (#[]:Array Value).toList.reverse >>= λ_=>Builtin.List.listExtendWith (.ref s.heap.objs.size) (.ref d) .none) _ _ _;refine Yb (wpAny_updateSeq p0 rfl ?_);have p1:=Heap.get?_update_self (Obj.mapSeq (λ_=>(#[]:Array Value))) p0 rfl;have nd:d≠s.heap.objs.size:=ZU hm.lt_size;have m1:((s.heap.push { cls:=.type "list",data:=.seq #[] }).update s.heap.objs.size (Obj.mapSeq (λ_=>(#[]:Array Value)))).DictAt knd d kvs ep:=(hm.push _).at' λo e=>(Heap.get?_update_other _ _ (Ne.symm nd)).trans e
 refine Yb (wpAny_letGo ?_);refine qO (A:=A.in1) (s:={ s with heap:=(s.heap.push { cls:=.type "list",data:=.seq #[] }).update s.heap.objs.size (Obj.mapSeq (λ_=>(#[]:Array Value))) }) hh hd m1 hl s.heap.objs.size .none _ p1 ?_;intro h' tk acc c' hk hS hacc;refine⟨rfl,hQ h' tk acc c' (λb o e=>hk b o (ZU (Ye e)) ?_) hS hacc⟩;exact(Heap.get?_update_other _ _ (Ne.symm (ZU (Ye e)))).trans (Yd _ e)
theorem wA{Q:List Value->Shared->Prop}{d:Addr}{kvs:List (κ×Value)}{ep:Nat}(hh:A.handled=none)(hd:(d==sysModules)=false)(hm:s.heap.DictAt knd d kvs ep)(hl:kvs.length<=2 ^ 24)
  (hQ:∀h' tk acc,(∀b o,s.heap.get? b=some o->h'.get? b=some o)->s.heap.objs.size<h'.objs.size->ItemsOf (vN knd kvs) acc kvs.length->Q acc.toList { s with heap:=h',toks:=tk }):wpAny (model prog w) A (collect (.ref d)) Q E s:=by
 have go:∀R:Result->Shared->Prop,(∀h' tk acc c',(∀b o,s.heap.get? b=some o->h'.get? b=some o)->h'.get? s.heap.objs.size=some { cls:=.type "list",dict:=none,data:=.seq acc c',slots:=#[] }->ItemsOf (vN knd kvs) acc kvs.length ->
   R (.ok (.ret (.ref s.heap.objs.size))) { s with heap:=h',toks:=tk })->codeAny (model prog w) A (.builtin "list.__iadd__" ⟨[.ref s.heap.objs.size,.ref d],[]⟩) R { s with heap:=s.heap.push (seqObj "list" #[] 0) }:=by
  intro R hR;refine codeAny_builtin entry_list_iadd' ?_;show wpAny _ _ (Builtin.List.listExtendWith (.ref s.heap.objs.size) (.ref d) (.ref s.heap.objs.size)) _ _ { s with heap:=s.heap.push (seqObj "list" #[] 0) };rw[Around.under_plainId (id:="list.__iadd__") 'e'];refine qO (A:=A) (R:=R) (s:={ s with heap:=s.heap.push (seqObj "list" #[] 0) }) hh hd (hm.push _) hl s.heap.objs.size _ 0 (Yg _ rfl) ?_;intro h' tk acc c' hk hS hacc;exact hR h' tk acc c' (λb o e=>hk b o (ZU (Ye e)) (Yd _ e)) hS hacc
 unfold collect;refine Yb (wpAny_runValue (codeAny_builtin entry_proto_collect' ?_));show wpAny _ _ (do again (.builtin "list.__iadd__" ⟨[←newList [],.ref d],[]⟩)) _ _ s;refine Yb (wpAny_newList (Yc ⟨Code.quiet_builtin _ 'e',go _ λh' tk acc c' hk hS hacc=>?_⟩));refine Yb (wpAny_load hS ?_);exact Yc (hQ h' tk acc hk (Ye hS) hacc)
theorem yO:∀{vs:Zd}{ms:Zi},vs.length=ms.length->(∀(i:Nat) (v:Value) (n:Int),vs[i]?=some v->ms[i]?=some n->∃t,v=Value.int n t)->IntsAre vs ms
 |[],[],_,_=>.nil
 |[],_::_,h,_=>by cases h
 |_::_,[],h,_=>by cases h
 |v::vs,n::ms,h,g=>by
  obtain⟨t,rfl⟩:=g 0 v n rfl rfl;exact .cons n t (yO (by simpa using h) λi v m a b=>g (i+1) v m (by simpa using a) (by simpa using b))
theorem zP {it:Value} {vs:Zd} {ns:Zi} {h':Heap} {tk:Nat} {Q:Zb} (hI:IntsAre vs ns) (h64:vs.length < 64)
  (h:∀ (out:Zl) (ns':Zi),IntsAre out.toList ns'->ns'.Perm ns->ns'.Pairwise (·<=·)->Q (.ref h'.objs.size) { s with heap:=sortedHeap (h'.push (seqObj "list" vs.toArray 0)) h'.objs.size vs out,toks:=tk }) :
  wpAny (model prog w) A.in1 (do
   let l ← newList vs
   let _ ← holding [l] (call (.builtin "list.sort") [l] [])
   ret l) (λfin s'=>∃ v,fin = Fin.done (.ret v)/\Q v s') E { s with heap:=h',toks:=tk }:=by
 refine Yb (wpAny_newList ?_)
 have p0:(h'.push (seqObj "list" vs.toArray 0)).get? h'.objs.size = some (seqObj "list" vs.toArray 0):=Yg _ rfl
 show wpAny _ _ _ _ _ { s with heap:=h'.push (seqObj "list" vs.toArray 0),toks:=tk }
 refine Yb (Yj (wpAny_call_entry slot_list_sort ⟨_,p0,rfl⟩ entry_list_sort (list_sort_tree p0 hI h64 λout ns' a1 a2 a3=>⟨_,rfl,?_⟩) (args_list_sort _)))
 exact Yc ⟨_,rfl,h out ns' a1 a2 a3⟩
end
def intKeys:List (Key×D)->Option (List Int)
 |[]=>some []
 |(.inl i,_)::r=>(intKeys r).map (i :: ·)
 |_=>none
theorem qP:∀{kvs:ZB}{ns:Zi},intKeys kvs=some ns->kvs.map (·.1)=ns.map Sum.inl
 |[],ns,h=>by cases h;rfl
 |(.inl i,d)::r,ns,h=>by
  rw[intKeys] at h;cases q:intKeys r with
  |none=>rw[q] at h;cases h
  |some ms=>rw[q] at h;cases h;rw[YJ,YJ,qP q]
 |(.inr x,d)::r,ns,h=>by cases h
def qv(ns:Zi)(M:MH)(Q:DK):Prop:=ns.length<64/\∀(p:Addr) (ms:Zi),M p=none->ms.Perm ns->ms.Pairwise (·<=·)->Q (.ref p) (updM M p (.lst (ms.map .int)))
def kt:SpD:=λds M Q=>match ds with
 |[.ref a]=>match rdL (M a) with
  |some xs=>optD (jd xs) λns=>qv ns M Q
  |none=>optD (rdD (M a)) λkvs=>optD (intKeys kvs) λns=>qv ns M Q
 |_=>False
theorem pB:∀{us:Zd}{ms:Zi},IntsAre us ms->Vals (ms.map V.int) us
 |_,_,.nil=>.nil
 |_,_,.cons n t r=>.cons ⟨t,rfl⟩ (pB r)
theorem pC:∀{ms:Zi}{us:Zd},Vals (ms.map V.int) us->IntsAre us ms
 |[],_,h=>by cases h;exact .nil
 |n::ms,_,h=>by
  cases h with
  |cons r t=>
   obtain⟨tk,rfl⟩:=r;exact .cons n tk (pC t)
section
variable {X:Cx}{H:Hp}
theorem wB{pins:Zc}{ρ:L2.St}{s:Shared}{M:MH}{Q:DK}{ns ms:Zi}{h':Heap}{tk:Nat}{p:Addr}{out:Zl}{e:Nat}(I:Inv X pins ρ H s)(rm:RM X.K M H)(q:qv ns M Q)(k:∀b o,s.heap.get? b=some o->h'.get? b=some o)(hp:s.heap.objs.size<=p)
  (ho:h'.get? p=some (seqObj "list" out e)) (a1:IntsAre out.toList ms) (a2:ms.Perm ns) (a3:ms.Pairwise (·<=·)):EP X pins ρ (lift X.K H Q) (.ref p) { s with heap:=h',toks:=tk }:=by
 have hf:H p=none:=I.hok.fresh hp;have kk:=Kp.new (o:=.lst (ms.map V.int)) hf;have hz:(ms.map V.int).length<=sizeLine:=by
  rw[ZE,a2.length_eq];have:(64:Nat)<=sizeLine:=by decide
  have:=q.1
  omega
 exact⟨.ref p,_,I.laid (t':=tk) k hp (show aU X.prog X.w _ h' p (.lst (ms.map V.int)) from⟨hz,out.toList,e,pB a1,by simpa [seqObj] using ho⟩),rfl,kk,.ref p,_,RV.ref_.2 rfl,rm.new (m:=.lst (ms.map .int)) hf ⟨_,az,qu (λ_=>RV.int_.2 rfl) ms⟩,q.2 p ms (rm.fresh hf) a2 a3⟩
theorem Bh(hc:X.calm=true):gI X (.builtin "sorted") kt:=by
 intro ds vs H M Q r rm h;unfold kt at h;split at h
 ·obtain⟨v,rfl,r1⟩:=rvs1 r
  cases RV.ref_.1 r1;split at h
  ·rename_i xs e1
   obtain⟨ns,e2,q⟩:=aL h;obtain⟨us,sq,rr⟩:=rm.list e1;obtain rfl:=rg e2 rr;intro pins s ρ ws I rv0;obtain⟨u,rfl,ru⟩:=vals1 rv0;cases ru;obtain⟨its,rv,pl,hz⟩:=I.list sq;have hl:its.length=ns.length:=by have:=rv.length;simpa using this.symm
   refine sorted_ints (vs:=its) pl.isList (pC rv) (by have:=q.1;omega) λout ms a1 a2 a3=>?_
   obtain⟨e,ho⟩:=sortedAll_at s.heap its out;exact wB (tk:=s.toks) I rm q (λb o e=>sortedAll_old e) (YM _) ho a1 a2 a3
  ·obtain⟨kvs,e1,h⟩:=aL h
   obtain⟨ns,e2,q⟩:=aL h;obtain⟨kws,e3,e4,_⟩:=rm.dict e1;intro pins s ρ ws I rv0;obtain⟨u,rfl,ru⟩:=vals1 rv0;cases ru;obtain⟨hz,hd,xs,rel,dd⟩:=lB I.hok e3;obtain⟨ep,hm⟩:=dd.dictAt;have hk:xs.map (·.1)=ns.map Sum.inl:=by rw[←rel.keys,e4,qP e2]
   have hl:xs.length=ns.length:=by have:=congrArg List.length hk;simpa using this
   refine Calls.call_function_entry kind_sorted plain_sorted entry_sorted (args_sorted1 _) ?_;unfold Builtin.«sorted»;refine Yb (m:=checkCount "sorted" 1 1 _) (Yc ?_);refine Yb (wA (A:=X.A.in1) (I.ok.hd hc) hd hm (by have:=q.1;omega) λh' tk acc hkeep hsz hacc=>?_);obtain⟨hs,hacc⟩:=hacc;have hal:acc.toList.length=ns.length:=by rw[←hl,←hs];simp
   have hI:IntsAre acc.toList ns:=yO hal λi v n hv hn=>by
    obtain⟨k,x,hx,hi⟩:=hacc i v (by rw[←YZ];exact hv);have hkn:k=Sum.inl n:=by
     have:=congrArg (λl=>l[i]?) hk
     simp only[ZF,hx,hn,Option.map_some] at this;cases this;rfl
    subst hkn;exact ub hi
   refine zP (s:=s) (A:=X.A) (it:=.none) hI (by have:=q.1;omega) λout ms a1 a2 a3=>?_
   obtain⟨e,ho⟩:=sortedHeap_at (h:=h'.push (seqObj "list" acc.toList.toArray 0)) (a:=h'.objs.size) (vs:=acc.toList) (n:=0) (out:=out) (Yg _ rfl);refine wB I rm q (λb o e=>?_) (Nat.le_of_lt hsz) ho a1 a2 a3;have h1:=hkeep b o e;have hb:b<h'.objs.size:=Ye h1;rw[sortedHeap_old (ZU hb) (by rw[Heap.size_push];exact XH hb)];exact Yd _ h1
 ·exact Yh h
def gJ:SpD:=λds M Q=>match ds with
 |[.ref a]=>match rdD (M a) with
  |some kvs=>∀p,M p=none->Q (.ref p) (updM M p (.lst (keysOf kvs)))
  |none=>sy ds M Q
 |ds=>sy ds M Q
theorem va{P:Zw}{w:World}:∀{xs:List (Key×Value)}{us:Zd},us.length=xs.length->(∀(i:Nat) (v:Value) (k:Key) (x:Value),us[i]?=some v->xs[i]?=some (k,x)->(bn P w).is k v=true)->Vals (xs.map λp=>kV p.1) us
 |[],[],_,_=>.nil
 |[],_::_,h,_=>by cases h
 |_::_,[],h,_=>by cases h
 |(k,x)::xs,u::us,h,g=>.cons (ub (g 0 u k x rfl rfl)) (va (by simpa using h) λi v k x a b=>g (i+1) v k x (by simpa using a) (by simpa using b))
theorem C5(hc:X.calm=true):gI X (.type "list") gJ:=by
 intro ds vs H M Q r rm h;unfold gJ at h;split at h
 ·rename_i a
  split at h
  ·rename_i kvs e1
   obtain⟨v,rfl,r1⟩:=rvs1 r;cases RV.ref_.1 r1;obtain⟨kws,e3,e4,_⟩:=rm.dict e1;intro pins s ρ ws I rv0;obtain⟨u,rfl,ru⟩:=vals1 rv0;cases ru;obtain⟨hz,hd,xs,rel,dd⟩:=lB I.hok e3;obtain⟨ep,hm⟩:=dd.dictAt;have hxl:xs.length=kws.length:=rel.length.symm;by_cases hbig:xs.length<=2 ^ 24
   ·refine list_dict (I.ok.hd hc) hd hm hbig λh' tk acc c' hk hS hacc=>?_
    obtain⟨hs,hacc⟩:=hacc;have hv:Vals (xs.map λp=>kV p.1) acc.toList:=va (P:=X.prog) (w:=X.w) (by rw[←hs];simp) λi v k x a b=>by
     obtain⟨k',x',hx,hi⟩:=hacc i v (by rw[←YZ];exact a);rw[b] at hx;cases hx;exact hi
    have ek:(xs.map λp=>kV p.1)=kws.map λp=>kV p.1:=by
     have:=rel.keys
     have h2:(kws.map (·.1)).map kV=(xs.map (·.1)).map kV:=by rw[this]
     rw[ZL,ZL] at h2;exact h2.symm
    rw[ek] at hv;have hf:H s.heap.objs.size=none:=I.hok.fresh (YE _);have kk:=Kp.new (o:=.lst (kws.map λp=>kV p.1)) hf;have rr:RVs X.K (upd H s.heap.objs.size (.lst (kws.map λp=>kV p.1))) (keysOf kvs) (kws.map λp=>kV p.1):=by
     have h2:keysOf kvs=(kws.map (·.1)).map kD:=by unfold keysOf;rw[e4,ZL];rfl
     have h3:(kws.map λp=>kV p.1)=(kws.map (·.1)).map kV:=by rw[ZL];rfl
     rw[h2,h3];exact qu (λk=>DL k) _
    exact⟨.ref s.heap.objs.size,_,I.laid (t':=tk) hk (YE _) (show aU X.prog X.w _ h' _ (.lst (kws.map λp=>kV p.1)) from⟨by rw[ZE];exact hz,acc.toList,c',hv,by simpa using hS⟩),rfl,kk,.ref _,_,RV.ref_.2 rfl,rm.new (m:=.lst (keysOf kvs)) hf ⟨_,az,rr⟩,h _ (rm.fresh hf)⟩
   ·exact absurd (by rw[hxl];rw[sizeLine_eq] at hz;omega) hbig
  ·exact yI _ vs H M Q r rm h
 ·exact yI _ vs H M Q r rm h
end
section
variable {X:Cx}{H:Hp}{pos:Pos}{e:Expr}{es:Zg}
inductive Bk where
 |sorted | list
 deriving DecidableEq
def dBk:Bk->SpD
 |.sorted=>kt
 |.list=>gJ
def sL:Bk->Str
 |.sorted=>"sorted"
 |.list=>"list"
theorem GZ(b:Bk)(hc:X.calm=true){t:WA}{p:Pos}(hg:Gl X (sL b))(hm:X.mg (sL b)=none)(hs:ar e=true)(hss:es.all ar=true)(ha:PAd X (e::es) t):PEd X (.Call (.Name (sL b) p) (e::es) [] pos) (fK (dBk b) t):=by
 cases b with
 |sorted=>exact gw (Bh hc) hg hm 'e' 'a' 'a' hs hss ha
 |list=>exact sw (C5 hc) hg hm 'e' 'a' 'a' hs hss ha
end
section
variable {prog:Zw}{w:World}{A:Around}{E:Zb}{s:Shared}
theorem wC{it t:Addr}{i:Nat}{items:Zl}{x:Value}{Q:Zb}(hit:s.heap.IsTupleIter it t i)(ht:s.heap.IsTuple t items)(hx:items[i]?=some x)
  (hQ:∀h',h'.IsTupleIter it t (i+1)->Heap.SameBut it s.heap h'->Q x { s with heap:=h' }):wpAny (model prog w) A (Builtin.SmallTypes.nextOf (.ref it)) Q E s:=by
 obtain⟨o,ho,hc,hd⟩:=id hit;obtain⟨ol,hol,_,nl,hdl⟩:=ht;unfold Builtin.SmallTypes.nextOf;refine Yb (wpAny_callSpecial?_slot (name:=Str.ofString "__next__") hit.typeIs F.slot_tuple_iterator_next (wpAny_call_entry F.slot_tuple_iterator_next hit.typeIs F.entry_tuple_iterator_next ?_ (F.args_tuple_iterator_next_1 _)));show wpAny _ _ (field (.ref it) 0 >>= _) _ _ s;refine Yb (wpAny_field ho hd (x:=.ref t) rfl ?_);show wpAny _ _ (if(Value.ref t==Value.none)=true then _ else _) _ _ s;rw[if_neg (show ¬((Value.ref t==Value.none)=true) from YD)];show wpAny _ _ (field (.ref it) 1 >>= _) _ _ s;refine Yb (wpAny_field ho hd (x:=.int i 0) rfl ?_);show wpAny _ _ (seqItems? (.ref t) >>= _) _ _ s;refine Yb (wpAny_seqItems hol hdl ?_);simp only[YU,hx];refine Yb (wpAny_setField ho hd (by simp) (Yc ⟨x,rfl,Yc (hQ _ ⟨_,Heap.get?_update_self _ ho (Obj.isFreed_of_fields (Obj.data_mapFields hd _)),(Obj.cls_mapFields ..).trans hc,?_⟩ (Heap.SameBut.update ..))⟩));rw[Obj.data_mapFields hd];simp[rawInt]
theorem rk{it t:Addr}{i:Nat}{items:Zl}{Q:Zb}(hh:A.handled=none)(hit:s.heap.IsTupleIter it t i)(ht:s.heap.IsTuple t items)(hx:items[i]?=none)
  (hE:∀h' e,Heap.ExtBut it s.heap h'->(∃o,h'.get? e=some o/\o.cls=.type "StopIteration")->E (.ref e) { s with heap:=h' }):wpAny (model prog w) A (Builtin.SmallTypes.nextOf (.ref it)) Q E s:=by
 obtain⟨o,ho,hc,hd⟩:=id hit;obtain⟨ol,hol,_,nl,hdl⟩:=ht;unfold Builtin.SmallTypes.nextOf;refine Yb (wpAny_callSpecial?_slot (name:=Str.ofString "__next__") hit.typeIs F.slot_tuple_iterator_next (wpAny_call_entry F.slot_tuple_iterator_next hit.typeIs F.entry_tuple_iterator_next ?_ (F.args_tuple_iterator_next_1 _)));show wpAny _ _ (field (.ref it) 0 >>= _) _ _ s;refine Yb (wpAny_field ho hd (x:=.ref t) rfl ?_);show wpAny _ _ (if(Value.ref t==Value.none)=true then _ else _) _ _ s;rw[if_neg (show ¬((Value.ref t==Value.none)=true) from YD)];show wpAny _ _ (field (.ref it) 1 >>= _) _ _ s;refine Yb (wpAny_field ho hd (x:=.int i 0) rfl ?_);show wpAny _ _ (seqItems? (.ref t) >>= _) _ _ s;refine Yb (wpAny_seqItems hol hdl ?_);simp only[YU,hx];refine Yb (wpAny_rule (Yb (wpAny_setField ho hd (by simp) ?_)));show wpAny _ _ (newExc (.type "StopIteration") [] >>= _) _ _ _;refine Yb ?_;simp only[newExc,newTuple];refine Yb (wpAny_newObj_type ?_ (by size_fits));refine Yb (m:=firstArgMember _ _) (wpAny_of_eq (a:=Value.none) (by first | rfl | (simp only[firstArgMember];rfl)) (wpAny_newObj_type ?_ (by size_fits)));simp only[raiseNew];refine Yb (wpAny_handled ?_);first | rw[show A.in1.handled=none from hh] | rw[hh]
 refine Yb (Yc (wpAny_throw (hE _ _ (((Heap.SameBut.update ..).extBut.push _).push _) ⟨_,Yg _ rfl,rfl⟩)))
theorem qQ(hh:A.handled=none)(it t:Addr)(hne:t≠it)(items:Zl):Draws prog w A it [it,t] items.size (λi v=>items[i]?=some v) (λi h=>h.IsTupleIter it t i/\h.IsTuple t items) where
 live:=λ_ _ st=>let⟨o,ho,_⟩:=st.1;⟨o,ho⟩
 frame:=λ_ _ _ st hk=>⟨st.1.at λo e=>hk it (by simp) o e,let⟨o,ho,r⟩:=st.2;⟨o,hk t (by simp) o ho,r⟩⟩
 item:=λi s Q E hi st hQ=>wC st.1 st.2 (x:=items[i]) (by simp[hi]) λh' hit' hs'=>hQ _ h' s.toks (by simp[hi]) ⟨hit',st.2.extBut hs'.extBut hne⟩ hs'
 done:=λs Q E st hE=>rk hh st.1 st.2 (by simp) hE
theorem Bl(l:Addr)(items:Zl)(n:Nat)(dct:Zm)(sl:Zn):
  Meets (Builtin.«enumerate.__new__» ⟨[.type "enumerate",.ref l],[]⟩) (λ_ R s=>s.heap.get? l=some { cls:=.type "tuple",dict:=dct,data:=.seq items n,slots:=sl } /\
   R (.ok (.ret (.ref (s.heap.push { cls:=.type "tuple_iterator",data:=.fields #[.ref l,.int 0 0] }).objs.size)))
    { s with heap:=(s.heap.push { cls:=.type "tuple_iterator",data:=.fields #[.ref l,.int 0 0] }).push { cls:=.type "enumerate",data:=.fields #[.none,.bool false,.ref s.heap.objs.size,rawInt 0,.none,.none] } }):=by
 refine .of_wp λprog w A R s h=>?_
 obtain⟨hp,g,d,tk,os⟩:=s;obtain⟨hl,h⟩:=h;have hsub:=sub_enumerate;have hL:Heap.IsTuple (Shared.heap ⟨hp,g,d,tk,os⟩) l items:=⟨_,hl,rfl,n,rfl⟩;wp_walk using AutoSeq1.wpAny_loadPart' hl;refine wpAny_stack_any λst=>Yc ?_
 split
 ·rename_i c _ _ _ _ _
  cases(c==Value.type "enumerate")<;>(wp_walk using AutoSeq1.wpAny_loadPart' hl,wpAny_pyIter_tuple hL;exact⟨_,rfl,h⟩)
 ·wp_walk using AutoSeq1.wpAny_loadPart' hl,wpAny_pyIter_tuple hL
  exact⟨_,rfl,h⟩
theorem zQ{l:Addr}{items:Zl}{Q:Zb}(hL:s.heap.IsTuple l items)
  (h:∀h',IsEnum h' (s.heap.objs.size+1) s.heap.objs.size 0 .none->h'.IsTupleIter s.heap.objs.size l 0->(∀b o,s.heap.get? b=some o->h'.get? b=some o)->Q (.ref (s.heap.objs.size+1)) { s with heap:=h' }):
  wpAny (model prog w) A (call (.type "enumerate") [.ref l]) Q E s:=by
 obtain⟨⟨c,dct,dt,sl⟩,hl,hc,n,hd⟩:=hL;obtain rfl:c=.type "tuple":=hc;obtain rfl:dt=.seq items n:=hd;refine callType_new F.called_enumerate 'a' (F.typeCall_enumerate_1 _) (F.newCall_enumerate_1 _) (λobj=>F.args_object_init_2 obj _) F.entry_enumerate_new (Bl l items n dct sl) ⟨hl,?_⟩;have hz:(s.heap.push { cls:=.type "tuple_iterator",data:=.fields #[.ref l,.int 0 0] }).objs.size=s.heap.objs.size+1:=Heap.size_push ..;show _/\_;rw[hz];have he:=Yg (s.heap.push { cls:=.type "tuple_iterator",data:=.fields #[.ref l,.int 0 0] }) (o:={ cls:=.type "enumerate",data:=.fields #[.none,.bool false,.ref s.heap.objs.size,rawInt 0,.none,.none] }) rfl;rw[hz] at he;exact⟨⟨_,he,rfl⟩,h _ he ⟨_,Yd _ (Yg _ rfl),rfl,rfl⟩ λb o x=>Yd _ (Yd _ x)⟩
end
section
variable {X:Cx}{pins:Zc}{σ:L2.St}{H:Hp}{s:Shared}{h':Heap}
theorem Ia{fs ch:Zh}{h:Heap}(k:∀b o,b∉ch->h.get? b=some o->h'.get? b=some o):Un fs ch H H h h' where
 keep:=λb o e _ _ hc=>k b o hc e
 slot:=λb o e _ _ hc=>⟨o.slots,k b o hc e⟩
 free:=λ_ _ _ n _=>n
 there:=λb o e hc=>⟨o,k b o hc e⟩
 tups:=λ_ _ e=>e
 frzs:=λ_ _ _ e=>e
 tbls:=λb ps e=>⟨#[],by rw[e];simp⟩
theorem G0{P:Zw}{w:World}{ch:Zh}{h:Heap}(ok:HOk P w H h)(k:∀b o,b∉ch->h.get? b=some o->h'.get? b=some o)(hn:∀b∈ch,H b=none):HOk P w H h':=λb u e=>by
 have nit:∀c v,H c=some v->c∉ch:=λc v ec z=>by rw[hn c z] at ec;cases ec
 refine(ok b u e).stay (λc v hc q=>k c v ?_ q) (λ_ q=>q) λ_ _ q=>q
 rcases hc with z | z
 ·rw[z];exact nit b u e
 ·exact nit c _ z
theorem Inv.turnedT{ch:Zh}{T:Addr}{xs:List V}{its:Zd}{tk:Nat}(I:Inv X pins σ H s)(k:∀b o,b∉ch->s.heap.get? b=some o->h'.get? b=some o)(hn:∀b∈ch,H b=none)
  (hch:∀b∈ch,(b∈X.ex\/X.s₀.heap.objs.size<=b)/\b≠X.env.locals/\(∀x c,X.env.cells.lookup x=some c->c≠b)/\∀p∈X.pn++pins,p.1≠b) (hT:s.heap.objs.size<=T) (r:Vals xs its) (hz:xs.length<=sizeLine) (ht:IsTup h' T its.toArray):
  Inv X pins σ (upd H T (.tup xs)) { s with heap:=h',toks:=tk }:=by
 have hf:H T=none:=I.hok.fresh hT;have ok1:=G0 I.hok k hn;refine I.call (g':=s.gens) (d':=s.drawn) (t':=tk) (Un.track (Ia k) hT hf) (λb u e=>?_) I.bare hch;by_cases hb:b=T
 ·subst hb
  rw[az] at e;cases e;exact⟨hz,its,r,ht⟩
 ·rw[aF hb] at e
  refine(ok1 b u e).stay (λc v _ q=>q) (λc q=>?_) λc ys q=>?_
  ·rw[aF (aX q hf)];exact q
  ·rw[aF (aX q hf)];exact q
end
def Ite(K:Za)(a:Addr):It:=
 ⟨λi H=>∃xs x,SqL K H a xs/\xs[i]?=some x,λi H x H'=>∃v p,(∀xs,SqL K H a xs->xs[i]?=some v)/\H p=none/\H'=upd H p (.tup [.int (i:Int),v])/\x=.ref p,λi H=>∃xs,SqL K H a xs/\xs.length<=i⟩
theorem Bm{P:Zw}{w:World}{K:Za}{elts:Zg}{kk:Nat}{tp:Pos}(a e it:Addr)(hei:e≠it):Turn P w K (.Tuple elts kk tp) (Ite K a) [e,it] e (λi h=>(∃old,IsEnum h e it i old)/\h.IsListIter it a i) where
 mem:=by simp
 obj:=λi h st b hb=>by
  obtain⟨⟨old,he⟩,⟨o,eo,c,d⟩⟩:=st;have hb':b=e\/b=it:=by simpa using hb
  rcases hb' with rfl | rfl
  ·exact⟨_,he,λv z=>by cases z⟩
  ·exact⟨o,eo,λv z=>by rw[d] at z;cases z⟩
 keep:=λi h h' st k=>by
  obtain⟨⟨old,he⟩,hit⟩:=st;exact⟨⟨old,k e (by simp) _ he⟩,hit.at λo x=>k it (by simp) o x⟩
 item:=by
  rw[0];obtain⟨xs,x,hq,hx⟩:=hg;obtain⟨its,rv,p,hz⟩:=I.list hq;obtain⟨u,hu,ru⟩:=rv.get hx;obtain⟨⟨old,he⟩,hit⟩:=st;have fe:=hf e (by simp);have fi:=hf it (by simp);refine wpAny_pyNext_enum_item he hit p.isList (x:=u) (by simpa using hu) hei λh' ho hit' hT hsz hk=>⟨_,rfl,?_⟩
  have hfr:H s.heap.objs.size=none:=I.hok.fresh (YE _);have I1:Inv X pins σ (upd H s.heap.objs.size (.tup [.int (i:Int),x])) { s with heap:=h',toks:=s.toks+1 }:=Inv.turnedT (ch:=[e,it]) (its:=[.int (i:Int) s.toks,u]) I
   (λb o hb q=>hk b o (λz=>hb (by simp[z])) (λz=>hb (by simp[z])) q)
   (λb hb=>(hf b hb).1) (λb hb=>⟨(hf b hb).2.2.2.1,(hf b hb).2.1,(hf b hb).2.2.2.2.1,(hf b hb).2.2.2.2.2⟩) (YE _) (.cons ⟨_,rfl⟩ (.cons ru .nil)) (by show 2<=sizeLine;decide) ⟨_,hT,rfl,_,rfl⟩
  have neT:∀b∈[e,it],b≠s.heap.objs.size:=λb hb z=>by
   have hb':b=e\/b=it:=by simpa using hb
   rcases hb' with rfl | rfl
   ·exact absurd (Ye he) (by rw[z];exact ZT _)
   ·obtain⟨_,x1,_⟩:=hit;exact absurd (Ye x1) (by rw[z];exact ZT _)
  refine wpAny_letOwnedTupleGo_enum (s:={ s with heap:=h',toks:=s.toks+1 }) ho λh'' he'' hs''=>?_
  have I2:=L2.Inv.turned (h':=h'') (t':=s.toks+1) (it:=e) I1 (λb o hb q=>(hs''.2 b hb).trans q) (by rw[aF (neT e (by simp))];exact fe.1) fe.2.1 fe.2.2.2.1 fe.2.2.2.2.1 fe.2.2.2.2.2;refine⟨.ref s.heap.objs.size,_,I2,rfl,⟨x,s.heap.objs.size,λys hy=>by rw[I.list_inj hy hq];exact hx,hfr,rfl,rfl⟩,⟨⟨u,by simpa using he''⟩,hit'.at λo q=>(hs''.2 it hei.symm).trans q⟩,λb hb=>?_⟩;rw[aF (neT b hb)];exact(hf b hb).1
 done:=by
  rw[0];obtain⟨xs,hq,hx⟩:=hg;obtain⟨its,rv,p,hz⟩:=I.list hq;obtain⟨⟨old,he⟩,hit⟩:=st;obtain⟨f0,f1,f2,f3,f4,f5⟩:=hf it (by simp);have hl:=rv.length;exact wpAny_pyNext_enum_end (I.ok.hd hc) he hit p.isList (by simp;omega) λh' eb=>⟨rfl,I.turned (t':=s.toks) (λb o hb q=>eb b o hb q) f0 f1 f3 f4 f5⟩
 self:=λ_ _ _ _ _ st h=>by
  obtain⟨⟨old,he⟩,_⟩:=st;exact wpAny_pyIter_enum he h
def IteT(K:Za)(a:Addr):It:=
 ⟨λi H=>∃xs x,SqT K H a xs/\xs[i]?=some x,λi H x H'=>∃v p,(∀xs,SqT K H a xs->xs[i]?=some v)/\H p=none/\H'=upd H p (.tup [.int (i:Int),v])/\x=.ref p,λi H=>∃xs,SqT K H a xs/\xs.length=i⟩
theorem zR{P:Zw}{w:World}{K:Za}{elts:Zg}{kk:Nat}{tp:Pos}(a e it:Addr)(hei:e≠it):Turn P w K (.Tuple elts kk tp) (IteT K a) [e,it] e (λi h=>(∃old,IsEnum h e it i old)/\h.IsTupleIter it a i) where
 mem:=by simp
 obj:=λi h st b hb=>by
  obtain⟨⟨old,he⟩,⟨o,eo,c,d⟩⟩:=st;have hb':b=e\/b=it:=by simpa using hb
  rcases hb' with rfl | rfl
  ·exact⟨_,he,λv z=>by cases z⟩
  ·exact⟨o,eo,λv z=>by rw[d] at z;cases z⟩
 keep:=λi h h' st k=>by
  obtain⟨⟨old,he⟩,hit⟩:=st;exact⟨⟨old,k e (by simp) _ he⟩,hit.at λo x=>k it (by simp) o x⟩
 item:=by
  rw[0];obtain⟨xs,x,hq,hx⟩:=hg;obtain⟨its,rv,p,hz⟩:=I.tuple hq;obtain⟨u,hu,ru⟩:=rv.get hx;obtain⟨⟨old,he⟩,hit⟩:=st;have p:s.heap.IsTuple a its.toArray:=p;have fe:=hf e (by simp);have fi:=hf it (by simp);have nai:a≠it:=λz=>by
   obtain⟨o1,y1,y2,_⟩:=p;obtain⟨o2,y3,y4,_⟩:=hit;rw[z,y3] at y1;cases y1;rw[y4] at y2;exact absurd y2 'a'
  have nea:e≠a:=λz=>by
   obtain⟨o1,y1,y2,_⟩:=p;rw[←z,he] at y1;cases y1;exact absurd (show Value.type "enumerate" = Value.type "tuple" from y2) 'a'
  have hi:i<its.toArray.size:=by have:=(YC.1 hu).1;simpa using this
  refine wpAny_pyNext_enum_itemD (qQ (by simp[I.ok.hd hc]) it a nai its.toArray) he ⟨hit,p⟩ hi hei (by simp;exact⟨hei,nea⟩) λy h' tk hy ho st' hT hsz hk=>⟨_,rfl,?_⟩
  have hyu:y=u:=by
   have h1:its[i]?=some y:=by simpa using hy
   rw[hu] at h1;cases h1;rfl
  subst hyu;have hfr:H s.heap.objs.size=none:=I.hok.fresh (YE _);have I1:Inv X pins σ (upd H s.heap.objs.size (.tup [.int (i:Int),x])) { s with heap:=h',toks:=tk+1 }:=Inv.turnedT (ch:=[e,it]) (its:=[.int (i:Int) tk,y]) I
   (λb o hb q=>hk b o (λz=>hb (by simp[z])) (λz=>hb (by simp[z])) q)
   (λb hb=>(hf b hb).1) (λb hb=>⟨(hf b hb).2.2.2.1,(hf b hb).2.1,(hf b hb).2.2.2.2.1,(hf b hb).2.2.2.2.2⟩) (YE _) (.cons ⟨_,rfl⟩ (.cons ru .nil)) (by show 2<=sizeLine;decide) ⟨_,hT,rfl,_,rfl⟩
  have neT:∀b∈[e,it],b≠s.heap.objs.size:=λb hb z=>by
   have hb':b=e\/b=it:=by simpa using hb
   rcases hb' with rfl | rfl
   ·exact absurd (Ye he) (by rw[z];exact ZT _)
   ·obtain⟨_,x1,_⟩:=hit;exact absurd (Ye x1) (by rw[z];exact ZT _)
  refine wpAny_letOwnedTupleGo_enum (s:={ s with heap:=h',toks:=tk+1 }) ho λh'' he'' hs''=>?_
  have I2:=L2.Inv.turned (h':=h'') (t':=tk+1) (it:=e) I1 (λb o hb q=>(hs''.2 b hb).trans q) (by rw[aF (neT e (by simp))];exact fe.1) fe.2.1 fe.2.2.2.1 fe.2.2.2.2.1 fe.2.2.2.2.2;refine⟨.ref s.heap.objs.size,_,I2,rfl,⟨x,s.heap.objs.size,λys hy=>by rw[I.tuple_inj hy hq];exact hx,hfr,rfl,rfl⟩,⟨⟨y,by simpa using he''⟩,st'.1.at λo q=>(hs''.2 it hei.symm).trans q⟩,λb hb=>?_⟩;rw[aF (neT b hb)];exact(hf b hb).1
 done:=by
  rw[0];obtain⟨xs,hq,hx⟩:=hg;obtain⟨its,rv,p,hz⟩:=I.tuple hq;have p:s.heap.IsTuple a its.toArray:=p;obtain⟨⟨old,he⟩,hit⟩:=st;obtain⟨f0,f1,f2,f3,f4,f5⟩:=hf it (by simp);have nai:a≠it:=λz=>by
   obtain⟨o1,y1,y2,_⟩:=p;obtain⟨o2,y3,y4,_⟩:=hit;rw[z,y3] at y1;cases y1;rw[y4] at y2;exact absurd y2 'a'
  have hn:i=its.toArray.size:=by rw[←hx,rv.length];simp
  subst hn;exact wpAny_pyNext_enum_endD (qQ (by simp[I.ok.hd hc]) it a nai its.toArray) he ⟨hit,p⟩ λh' eb=>⟨rfl,I.turned (t':=s.toks) (λb o hb q=>eb b o hb q) f0 f1 f3 f4 f5⟩
 self:=λ_ _ _ _ _ st h=>by
  obtain⟨⟨old,he⟩,_⟩:=st;exact wpAny_pyIter_enum he h
def aS:Int->List D->List D
 |_,[]=>[]
 |n,d::r=>.tup [.int n,d]::aS (n+1) r
theorem cq:∀(n:Int) (ds:List D),(aS n ds).length=ds.length
 |_,[]=>rfl
 |n,d::r=>by rw[aS,YH,YH,cq]
theorem lE:∀{n:Int}{ds:List D}{i:Nat}{x:D},(aS n ds)[i]?=some x->∃d,ds[i]?=some d/\x=.tup [.int (n+i),d]
 |_,[],_,_,h=>by cases h
 |n,d::r,0,x,h=>by
  rw[aS] at h;simp at h;exact⟨d,rfl,by rw[←h];simp⟩
 |n,d::r,i+1,x,h=>by
  rw[aS] at h;obtain⟨d',h1,h2⟩:=lE (n:=n+1) (ds:=r) (i:=i) (x:=x) (by simpa using h);refine⟨d',by simpa using h1,?_⟩;rw[h2];congr 2;congr 1;omega
theorem wD{K:Za}{a:Addr}{ds:List D}{H0:Hp}{g:MH->Prop}(hg:∀H M,RM K M H->g M->∃vs,SqL K H a vs/\RVs K H ds vs):JOk K (Ite K a) H0 (aS 0 ds) g:=by
 intro i H M _ rm q;obtain⟨vs,sq,rr⟩:=hg H M rm q;rw[cq];refine⟨λhi=>?_,λhi=>⟨vs,sq,by rw[←rr.len];exact Nat.le_of_eq hi.symm⟩,λx H' d hd ⟨v,p,hv,hp,e,y⟩=>?_⟩
 ·have:i<vs.length:=by rw[←rr.len];exact hi
  exact⟨vs,vs[i],sq,ZC this⟩
 ·subst e y
  obtain⟨d',h1,rfl⟩:=lE hd;obtain⟨v',h2,r⟩:=cO rr.p h1
  have:=hv vs sq
  rw[h2] at this;cases this;have k:=Kp.new (o:=.tup [.int (i:Int),v]) hp;refine⟨k,rm.newH hp,RV.tup_.2 ⟨p,_,rfl,SqT.of az,.cons (RV.int_.2 (by rw[Int.zero_add])) (.cons (RV.mono k _ r) .nil)⟩⟩
theorem Bo{K:Za}{a:Addr}{ds:List D}{vs:List V}{H0:Hp}(sq:SqT K H0 a vs)(rr:RVs K H0 ds vs):JOk K (IteT K a) H0 (aS 0 ds) (λ_=>True):=by
 intro i H M k rm _;have sq:=k.sq sq;have rr:=RVs.mono k _ rr;rw[cq];refine⟨λhi=>?_,λhi=>⟨vs,sq,by rw[←rr.len];exact hi.symm⟩,λx H' d hd ⟨v,p,hv,hp,e,y⟩=>?_⟩
 ·have:i<vs.length:=by rw[←rr.len];exact hi
  exact⟨vs,vs[i],sq,ZC this⟩
 ·subst e y
  obtain⟨d',h1,rfl⟩:=lE hd;obtain⟨v',h2,r⟩:=cO rr.p h1
  have:=hv vs sq
  rw[h2] at this;cases this;have k:=Kp.new (o:=.tup [.int (i:Int),v]) hp;refine⟨k,rm.newH hp,RV.tup_.2 ⟨p,_,rfl,SqT.of az,.cons (RV.int_.2 (by rw[Int.zero_add])) (.cons (RV.mono k _ r) .nil)⟩⟩
def zS(t:WA):WI:=λσ M R=>t σ M λds M1=>match ds with
 |[.tup xs]=>R (aS 0 xs) (λ_=>True) M1
 |[.ref a]=>match M1 a with
  |some (.lst xs)=>R (aS 0 xs) (λM'=>M' a=some (.lst xs)) M1
  |some (.rol xs)=>R (aS 0 xs) (λM'=>M' a=some (.rol xs)) M1
  |_=>False
 |_=>False
section
variable {X:Cx}{H:Hp}{pos:Pos}
theorem yP{pins:Zc}{ρ:L2.St}{s:Shared}{elts:Zg}{kk:Nat}{tp:Pos}{a:Addr}{xs:List V}{R:It->Hp->Prop}(I:Inv X pins ρ H s)(hq:SqL X.K H a xs)(q:R (Ite X.K a) H):
  wpAny 'c' X.A (call (.type "enumerate") [.ref a]) (λv s1=>wpAny 'c' X.A (pyIter v) (PIE X pins ρ (.Tuple elts kk tp) R) X.xe s1) X.xe s:=by
 obtain⟨its,rv,p,hz⟩:=I.list hq;refine call_enumerate_list p.isList λh' hE hI hsz hk=>?_
 refine wpAny_pyIter_enum hE ?_;have I1:Inv X pins ρ H { s with heap:=h' }:=I.kept (t':=s.toks) hk;refine⟨s.heap.objs.size+1,[s.heap.objs.size+1,s.heap.objs.size],_,_,H,rfl,I1,Bm a _ _ (Nat.succ_ne_self _),⟨⟨.none,hE⟩,hI⟩,λb hb=>?_,q⟩;have hb':b=s.heap.objs.size+1\/b=s.heap.objs.size:=by simpa using hb
 rcases hb' with rfl | rfl
 ·exact I.fpOk (YM _) (I.hok.fresh (YM _))
 ·exact I.fpOk (YE _) (I.hok.fresh (YE _))
theorem C7{pins:Zc}{ρ:L2.St}{s:Shared}{elts:Zg}{kk:Nat}{tp:Pos}{a:Addr}{xs:List V}{R:It->Hp->Prop}(I:Inv X pins ρ H s)(hq:SqT X.K H a xs)(q:R (IteT X.K a) H):
  wpAny 'c' X.A (call (.type "enumerate") [.ref a]) (λv s1=>wpAny 'c' X.A (pyIter v) (PIE X pins ρ (.Tuple elts kk tp) R) X.xe s1) X.xe s:=by
 obtain⟨its,rv,p,hz⟩:=I.tuple hq;refine zQ (show s.heap.IsTuple a its.toArray from p) λh' hE hI hk=>?_
 refine wpAny_pyIter_enum hE ?_;have I1:Inv X pins ρ H { s with heap:=h' }:=I.kept (t':=s.toks) hk;refine⟨s.heap.objs.size+1,[s.heap.objs.size+1,s.heap.objs.size],_,_,H,rfl,I1,zR a _ _ (Nat.succ_ne_self _),⟨⟨.none,hE⟩,hI⟩,λb hb=>?_,q⟩;have hb':b=s.heap.objs.size+1\/b=s.heap.objs.size:=by simpa using hb
 rcases hb' with rfl | rfl
 ·exact I.fpOk (YM _) (I.hok.fresh (YM _))
 ·exact I.fpOk (YE _) (I.hok.fresh (YE _))
theorem C9{l:Expr}{t:WA}{p:Pos}{elts:Zg}{kk:Nat}{tp:Pos}(hg:Gl X "enumerate")(hm:X.mg "enumerate" = none)(h:PAd X [l] t)(hs:ar l=true):PId X (.Tuple elts kk tp) (.Call (.Name "enumerate" p) [l] [] pos) (zS t):=by
 intro σ M ρ H R rs rm q pins s I;refine Call_ (cM I hg hm (by rfl':bootBuiltins "enumerate" = some (.type "enumerate")) (PyProof.Rows.callWith_type1 (thn (h σ M ρ H _ rs rm q pos pins s I) λus s1 zz1=>?_) (aP hs) rfl));obtain⟨vs,H1,I1,rv,⟨k1,ds,M1,r1,l1,m1,q1⟩⟩:=zz1;try dsimp only at q1
 split at q1
 ·rename_i ds'
  rw[RVs] at r1;obtain⟨v,vs',rfl,r2,r3⟩:=r1;rw[RVs] at r3;subst r3;obtain⟨a,xs,rfl,sq,rr⟩:=RV.tup_.1 r2;obtain⟨u,rfl,ru⟩:=rv.one;cases ru;obtain⟨_,_,_,hz⟩:=I1.tuple sq;exact C7 I1 sq ⟨k1,_,_,M1,m1,trivial,Bo sq rr,by rw[cq,rr.len];exact hz,q1⟩
 ·rename_i a
  rw[RVs] at r1;obtain⟨v,vs',rfl,r2,r3⟩:=r1;rw[RVs] at r3;subst r3;cases RV.ref_.1 r2;obtain⟨u,rfl,ru⟩:=rv.one;cases ru;split at q1
  ·rename_i xs e
   obtain⟨ys,e1,rr⟩:=m1 a _ e;obtain⟨_,_,_,hz⟩:=I1.list (SqL.of e1);refine yP I1 (SqL.of e1) ⟨k1,_,_,M1,m1,e,wD λH' M' rm' g'=>?_,by rw[cq,rr.len];exact hz,q1⟩;obtain⟨xs',e',rr'⟩:=rm' a _ g';exact⟨xs',SqL.of e',rr'⟩
  ·rename_i xs e
   obtain⟨ys,e1,rr⟩:=m1 a _ e;have e1:SqL X.K H1 a ys:=.inl e1;obtain⟨_,_,_,hz⟩:=I1.list e1;refine yP I1 e1 ⟨k1,_,_,M1,m1,e,wD λH' M' rm' g'=>?_,by rw[cq,rr.len];exact hz,q1⟩;obtain⟨xs',e',rr'⟩:=rm' a _ g';exact⟨xs',.inl e',rr'⟩
  ·exact Yh q1
 ·exact Yh q1
end
end DD
namespace DD
open PySem PySem.Spec PyProof.Rows L2
open AutoSeq1 (wpAny_loadPart')
section
variable {prog:Zw}{w:World}{A:Around}{Z:Zb}{s:Shared}
theorem Fg{T nid:String}{self a:Value}{k:Str×Value}(hl:typeLookup (.type T) "__init__" = pure (some (.builtin "object.__init__")))
  (hm:Bind.madeBy (.type T)=pure (some nid)) (hd:(some nid != some "object.__new__")=true):
  Meets (Builtin.«object.__init__» ⟨[self,a],[k]⟩) (λ_ R t=>t.TypeIs self T/\R (.ok (.ret .none)) t):=by
 refine .of_wp λpr w' A' R t ht=>?_
 obtain⟨hT,q⟩:=ht;repeat (any_goals (first | assumption | wp_step))
 exact⟨_,rfl,q⟩
theorem G1(a v:Value):checkTypeCall "enumerate" ⟨[a],[("start",v)]⟩=pure ():=by kernel_rfl
theorem G2(a v:Value):checkBuiltinCall "enumerate.__new__" ⟨[.type "enumerate",a],[("start",v)]⟩=pure ():=by kernel_rfl
theorem G3(o a v:Value):argsOk "object.__init__" ⟨[o,a],[("start",v)]⟩:=by
 unfold argsOk;rw[signature?_of (id:="object.__init__") (n:=("__init__".toList).reverse) (o:=("object".toList).reverse) (by kernel_rfl) F.owner_object];kernel_rfl
set_option maxHeartbeats 8000000 in
theorem wF{T nid:String}{Bn:Builtin}{a v:Value}{S:PySem.Spec}{Q:Zb}(ft:TypeCalled T nid "object.__init__")(hd:(some nid != some "object.__new__")=true)
  (ct:checkTypeCall T ⟨[a],[("start",v)]⟩=pure ()) (cn:checkBuiltinCall nid ⟨[.type T,a],[("start",v)]⟩=pure ())
  (en:entryFor table nid=some Bn) (g:Meets (Bn ⟨[.type T,a],[("start",v)]⟩) S)
  (h:S A.in1 (wants (λo t=>t.TypeIs o T/\Q o t) Z) s):wpAny (model prog w) A (call (.type T) [a] [("start",v)]) Q Z s:=by
 obtain⟨c,tl,hmro⟩:=ft.mro;have hmade:=ft.made;have hsub:=ft.sub;have n1:=ft.notType;have n2:=ft.canCreate;refine wpAny_call (codeAny_of_tree (show wpAny _ _ (callAny (.type T) _) _ _ _ from Yc ⟨Code.quiet_builtin _ 'e',codeAny_builtin F.entry_type_call ?_⟩));rw[Around.under_plain (weight_type_call_type T [a] [("start",v)]) (units_type_call_type T [a] [("start",v)])];repeat (any_goals (first | assumption | wp_step))
 refine codeAny_mono (codeAny_call_builtin ft.plain en (wpAny_of_eq cn (g prog w A.in1 _ s h))) λr t hr=>?_
 cases r with
 |error e=>exact hr
 |ok fl=>
  cases fl with
  |ret o=>
   obtain⟨hT,q⟩:=hr;have l1:=ft.init.lookup;have l2:=ft.init.bind o;repeat (any_goals (first | assumption | wp_step))
   refine codeAny_mono (codeAny_call_builtin ft.init.plain F.entry_object_init (ft.init.check _ _ _ _ _ _ _ _ hT (G3 o a v) (Fg l1 hmade hd prog w A.in1 (wants (λr t2=>r=Value.none/\Q o t2) Z) t ⟨hT,rfl,q⟩))) λr2 t2 hr2=>?_
   cases r2 with
   |error e=>exact hr2
   |ok fl2=>
    cases fl2 with
    |ret r=>
     obtain⟨rfl,hq⟩:=hr2;repeat (any_goals (first | assumption | wp_step))
    |_=>exact hr2.elim
  |_=>exact hr.elim
theorem Fh(l:Addr)(items:Zl)(m:Nat)(dct:Zm)(sl:Zn)(n:Int)(tok:Tok)(hf:Builtin.SmallTypes.fitsIndex n=true):
  Meets (Builtin.«enumerate.__new__» ⟨[.type "enumerate",.ref l],[("start",.int n tok)]⟩) (λ_ R t=>t.heap.get? l=some { cls:=.type "list",dict:=dct,data:=.seq items m,slots:=sl } /\
   R (.ok (.ret (.ref (t.heap.push { cls:=.type "list_iterator",data:=.fields #[.ref l,.int 0 0] }).objs.size)))
    { t with heap:=(t.heap.push { cls:=.type "list_iterator",data:=.fields #[.ref l,.int 0 0] }).push { cls:=.type "enumerate",data:=.fields #[.none,.bool false,.ref t.heap.objs.size,rawInt n,.none,.none] } }):=
 .of_wp λpr w' A' R t h=>by
  obtain⟨hp,g,d,tk,os⟩:=t;obtain⟨hl,h⟩:=h;have sb:=sub_enumerate;have hL:Heap.IsList (Shared.heap ⟨hp,g,d,tk,os⟩) l items:=⟨_,hl,rfl,m,rfl⟩;wp_walk using wpAny_loadPart' hl;refine wpAny_stack_any λst=>Yc ?_
  split
  ·rename_i c _ _ _ _ _
   cases(c==Value.type "enumerate")
   ·wp_walk using wpAny_loadPart' hl,wpAny_pyIter_list hL
    exact⟨_,rfl,h⟩
   ·wp_walk using wpAny_loadPart' hl,wpAny_pyIter_list hL
    exact⟨_,rfl,h⟩
  ·wp_walk using wpAny_loadPart' hl,wpAny_pyIter_list hL
   exact⟨_,rfl,h⟩
theorem zT{l:Addr}{items:Zl}{n:Int}{tok:Tok}{Q:Zb}(hL:s.heap.IsList l items)(hf:Builtin.SmallTypes.fitsIndex n=true)
  (q:∀h',IsEnum h' (s.heap.objs.size+1) s.heap.objs.size n .none->h'.IsListIter s.heap.objs.size l 0 ->
   (∀b o,s.heap.get? b=some o->h'.get? b=some o)->Q (.ref (s.heap.objs.size+1)) { s with heap:=h' }):
  wpAny (model prog w) A (call (.type "enumerate") [.ref l] [("start",.int n tok)]) Q Z s:=by
 obtain⟨⟨cl,dct,dt,sl⟩,hl,e1,m,e2⟩:=hL;obtain rfl:cl=.type "list":=e1;obtain rfl:dt=.seq items m:=e2;refine wF F.called_enumerate 'a' (G1 _ _) (G2 _ _) F.entry_enumerate_new (Fh l items m dct sl n tok hf) ⟨hl,?_⟩;generalize eo:({ cls:=.type "list_iterator",data:=.fields #[.ref l,.int 0 0] }:Obj)=o1;generalize ep:({ cls:=.type "enumerate",data:=.fields #[.none,.bool false,.ref s.heap.objs.size,rawInt n,.none,.none] }:Obj)=o2;have z1:(s.heap.push o1).objs.size=s.heap.objs.size+1:=Heap.size_push ..;have g1:(s.heap.push o1).get? s.heap.objs.size=some o1:=Yg _ (by rw[←eo];rfl);have g2:((s.heap.push o1).push o2).get? (s.heap.objs.size+1)=some o2:=by
  have:=Yg (s.heap.push o1) (o:=o2) (by rw[←ep];rfl)
  rwa [z1] at this
 show _/\_;rw[z1];exact⟨⟨o2,g2,by rw[←ep]⟩,q _ (by rw[←ep] at g2 ⊢;exact g2) ⟨o1,Yd _ g1,by rw[←eo],by rw[←eo];rfl⟩ λb o y=>Yd _ (Yd _ y)⟩
theorem Ib{e it l:Addr}{c:Int}{i:Nat}{items:Zl}{x old:Value}{Q:Zb}(he:IsEnum s.heap e it c old)(hit:s.heap.IsListIter it l i)(hl:s.heap.IsList l items)(hx:items[i]?=some x)(hne:e≠it)
  (q:∀h',IsEnumOut h' e it (c+1) x s.heap.objs.size->h'.IsListIter it l (i+1)->h'.get? s.heap.objs.size=some { cls:=.type "tuple",data:=.seq #[.int c s.toks,x] } ->
   (∀b o,b≠e->b≠it->s.heap.get? b=some o->h'.get? b=some o)->Q (.ref s.heap.objs.size) { s with heap:=h',toks:=s.toks+1 }):
  wpAny (model prog w) A (Builtin.«enumerate.__next__» ⟨[.ref e],[]⟩) (λfin t=>∃v,fin=.done (.ret v)/\Q v t) Z s:=by
 obtain⟨hp,g,d,tk,os⟩:=s;show wpAny _ _ (field (.ref e) 2 >>= _) _ _ _;refine Yb (wpAny_field he rfl (x:=.ref it) rfl (Yb (wpAny_nextOf_list_item hit hl hx λa1 j1 b1=>?_)));have b1:Heap.SameBut it hp a1:=b1;have e1:IsEnum a1 e it c old:=by rw[IsEnum,b1.2 e hne];exact he
 refine Yb (wpAny_field (s:=⟨a1,g,d,tk,os⟩) e1 rfl (x:=rawInt c) rfl ?_);refine Yb (wpAny_field (s:=⟨a1,g,d,tk,os⟩) e1 rfl (x:=.none) rfl ?_);refine Yb (show wpAny _ _ (mkInt c) _ _ ⟨a1,g,d,tk,os⟩ from wpAny_mkInt ?_);refine Yb (show wpAny _ _ (setField (.ref e) 3 (rawInt (c+1))) _ _ ⟨a1,g,d,tk+1,os⟩ from wpAny_setField_rec e1 (by simp) λa2 e2 b2=>?_);have b2:Heap.SameBut e a1 a2:=b2;have e2:IsEnum a2 e it (c+1) old:=e2;refine Yb (show wpAny _ _ (setField (.ref e) 4 .none) _ _ ⟨a2,g,d,tk+1,os⟩ from wpAny_setField_rec e2 (by simp) λa3 e3 b3=>?_);have b3:Heap.SameBut e a2 a3:=b3;have e3:IsEnum a3 e it (c+1) old:=e3;have sz:a3.objs.size=hp.objs.size:=by rw[b3.1,b2.1,b1.1]
 refine Yb (show wpAny _ _ (newTuple [.int c tk,x]) _ _ ⟨a3,g,d,tk+1,os⟩ from wpAny_newTuple ?_);have e4:IsEnum (a3.push { cls:=.type "tuple",data:=.seq #[.int c tk,x] }) e it (c+1) old:=Yd _ e3;have t4:(a3.push { cls:=.type "tuple",data:=.seq #[.int c tk,x] }).get? hp.objs.size=some { cls:=.type "tuple",data:=.seq #[.int c tk,x] }:=by rw[←sz];exact Yg _ rfl
 have k4:∀b o,b≠e->b≠it->hp.get? b=some o->(a3.push { cls:=.type "tuple",data:=.seq #[.int c tk,x] }).get? b=some o:=
  λb o n1 n2 y=>Yd _ (b3.extBut b o n1 (b2.extBut b o n1 (b1.extBut b o n2 y)))
 have j4:(a3.push { cls:=.type "tuple",data:=.seq #[.int c tk,x] }).IsListIter it l (i+1):=by
  obtain⟨o,y,r⟩:=(j1.extBut b2.extBut hne.symm).extBut b3.extBut hne.symm;exact⟨o,Yd _ y,r⟩
 have ne:hp.objs.size≠e:=Nat.ne_of_gt (Ye he);show wpAny _ _ (Builtin.SmallTypes.ownedTupleIsFree (.ref e) >>= _) _ _ ⟨_,g,d,tk+1,os⟩;rw[sz];generalize a3.push { cls:=.type "tuple",data:=.seq #[.int c tk,x] }=a4 at e4 t4 k4 j4;clear b3 b2 b1 e3 e2 e1 j1 sz;unfold Builtin.SmallTypes.ownedTupleIsFree;refine Yb (Yb (wpAny_field (s:=⟨a4,g,d,tk+1,os⟩) e4 rfl (x:=.none) rfl (Yc ?_)));simp only[if_true];refine Yb (wpAny_rule (Yb (wpAny_field (s:=⟨a4,g,d,tk+1,os⟩) e4 rfl (x:=old) rfl ?_)));refine Yb (wpAny_setField_rec (s:=⟨a4,g,d,tk+1,os⟩) e4 (by simp) λa5 e5 b5=>?_);have b5:Heap.SameBut e a4 a5:=b5;have e5:IsEnum a5 e it (c+1) x:=e5;refine Yb ?_;unfold Builtin.SmallTypes.ownedTupleHandOut;refine Yb (wpAny_setField_rec (s:=⟨a5,g,d,tk+1,os⟩) e5 (by simp) λa6 e6 b6=>?_);have b6:Heap.SameBut e a5 a6:=b6;have e6:IsEnumOut a6 e it (c+1) x hp.objs.size:=e6;refine wpAny_setField_rec (s:=⟨a6,g,d,tk+1,os⟩) e6 (by simp) λa7 e7 b7=>?_
 have b7:Heap.SameBut e a6 a7:=b7;have e7:IsEnumOut a7 e it (c+1) x hp.objs.size:=e7;have go:∀b o,b≠e->a4.get? b=some o->a7.get? b=some o:=λb o n y=>b7.extBut b o n (b6.extBut b o n (b5.extBut b o n y))
 exact Yb (wpAny_letGo (Yc ⟨_,rfl,q a7 e7 (j4.at λo y=>go it o hne.symm y) (go _ _ ne t4) λb o n1 n2 y=>go b o n1 (k4 b o n1 n2 y)⟩))
theorem zU{e it l:Addr}{c:Int}{i:Nat}{items:Zl}{x old:Value}{Q:Option Value->Shared->Prop}(he:IsEnum s.heap e it c old)(hit:s.heap.IsListIter it l i)(hl:s.heap.IsList l items)(hx:items[i]?=some x)(hne:e≠it)
  (q:∀h',IsEnumOut h' e it (c+1) x s.heap.objs.size->h'.IsListIter it l (i+1)->h'.get? s.heap.objs.size=some { cls:=.type "tuple",data:=.seq #[.int c s.toks,x] } ->
   (∀b o,b≠e->b≠it->s.heap.get? b=some o->h'.get? b=some o)->Q (some (.ref s.heap.objs.size)) { s with heap:=h',toks:=s.toks+1 }):
  wpAny (model prog w) A (pyNext (.ref e)) Q Z s:=by
 have ty:s.TypeIs (.ref e) "enumerate":=⟨_,he,rfl⟩;unfold pyNext;refine Yb (wpAny_attempt (wpAny_callSpecial?_slot (name:=Str.ofString "__next__") ty F.slot_enumerate_next (wpAny_call_entry F.slot_enumerate_next ty F.entry_enumerate_next ?_ (F.args_enumerate_next_1 _))));exact Ib he hit hl hx hne λh' y1 y2 y3 y4=>Yc (q h' y1 y2 y3 y4)
theorem Bp{e it l:Addr}{c:Int}{i:Nat}{items:Zl}{old:Value}{Q:Option Value->Shared->Prop}(hh:A.handled=none)(he:IsEnum s.heap e it c old)(hit:s.heap.IsListIter it l i)(hl:s.heap.IsList l items)(hx:items[i]?=none)
  (q:∀h',Heap.ExtBut it s.heap h'->Q none { s with heap:=h' }):wpAny (model prog w) A (pyNext (.ref e)) Q Z s:=by
 have ty:s.TypeIs (.ref e) "enumerate":=⟨_,he,rfl⟩;unfold pyNext;refine Yb (wpAny_attempt (wpAny_callSpecial?_slot (name:=Str.ofString "__next__") ty F.slot_enumerate_next (wpAny_call_entry F.slot_enumerate_next ty F.entry_enumerate_next ?_ (F.args_enumerate_next_1 _))));show wpAny _ _ (field (.ref e) 2 >>= λ_=>_) _ _ _;refine Yb (wpAny_field he rfl (x:=.ref it) rfl ?_);refine Yb (wpAny_nextOf_list_end hh hit hl hx λh' y eb ⟨o,y1,y2⟩=>?_);exact Yb (wpAny_isInstance (T:="StopIteration") (b:=true) ⟨o,y1,y2⟩ isSubtype_stop (Yc (q _ eb)))
end
def IteS(K:Za)(a:Addr)(n:Int):It:=
 ⟨λi H=>∃xs x,SqL K H a xs/\xs[i]?=some x,λi H x H'=>∃v p,(∀xs,SqL K H a xs->xs[i]?=some v)/\H p=none/\H'=upd H p (.tup [.int (n+i),v])/\x=.ref p,λi H=>∃xs,SqL K H a xs/\xs.length<=i⟩
theorem zV{P:Zw}{w:World}{K:Za}{elts:Zg}{kk:Nat}{tp:Pos}(a e it:Addr)(n:Int)(hei:e≠it):Turn P w K (.Tuple elts kk tp) (IteS K a n) [e,it] e (λi h=>(∃old,IsEnum h e it (n+i) old)/\h.IsListIter it a i) where
 mem:=by simp
 obj:=λi h st b hb=>by
  obtain⟨⟨old,he⟩,⟨o,eo,c,d⟩⟩:=st;have hb':b=e\/b=it:=by simpa using hb
  rcases hb' with rfl | rfl
  ·exact⟨_,he,λv z=>by cases z⟩
  ·exact⟨o,eo,λv z=>by rw[d] at z;cases z⟩
 keep:=λi h h' st k=>by
  obtain⟨⟨old,he⟩,hit⟩:=st;exact⟨⟨old,k e (by simp) _ he⟩,hit.at λo x=>k it (by simp) o x⟩
 item:=by
  rw[0];obtain⟨xs,x,hq,hx⟩:=hg;obtain⟨its,rv,p,hz⟩:=I.list hq;obtain⟨u,hu,ru⟩:=rv.get hx;obtain⟨⟨old,he⟩,hit⟩:=st;have fe:=hf e (by simp);refine zU he hit p.isList (x:=u) (by simpa using hu) hei λh' ho hit' hT hk=>⟨_,rfl,?_⟩
  have hfr:H s.heap.objs.size=none:=I.hok.fresh (YE _);have I1:Inv X pins σ (upd H s.heap.objs.size (.tup [.int (n+i),x])) { s with heap:=h',toks:=s.toks+1 }:=Inv.turnedT (ch:=[e,it]) (its:=[.int (n+i) s.toks,u]) I
   (λb o hb q=>hk b o (λz=>hb (by simp[z])) (λz=>hb (by simp[z])) q)
   (λb hb=>(hf b hb).1) (λb hb=>⟨(hf b hb).2.2.2.1,(hf b hb).2.1,(hf b hb).2.2.2.2.1,(hf b hb).2.2.2.2.2⟩) (YE _) (.cons ⟨_,rfl⟩ (.cons ru .nil)) (by show 2<=sizeLine;decide) ⟨_,hT,rfl,_,rfl⟩
  have neT:∀b∈[e,it],b≠s.heap.objs.size:=λb hb z=>by
   have hb':b=e\/b=it:=by simpa using hb
   rcases hb' with rfl | rfl
   ·exact absurd (Ye he) (by rw[z];exact ZT _)
   ·obtain⟨_,x1,_⟩:=hit;exact absurd (Ye x1) (by rw[z];exact ZT _)
  refine wpAny_letOwnedTupleGo_enum (s:={ s with heap:=h',toks:=s.toks+1 }) ho λh'' he'' hs''=>?_
  have I2:=L2.Inv.turned (h':=h'') (t':=s.toks+1) (it:=e) I1 (λb o hb q=>(hs''.2 b hb).trans q) (by rw[aF (neT e (by simp))];exact fe.1) fe.2.1 fe.2.2.2.1 fe.2.2.2.2.1 fe.2.2.2.2.2;refine⟨.ref s.heap.objs.size,_,I2,rfl,⟨x,s.heap.objs.size,λys hy=>by rw[I.list_inj hy hq];exact hx,hfr,rfl,rfl⟩,⟨⟨u,by simpa [Int.add_assoc] using he''⟩,hit'.at λo q=>(hs''.2 it hei.symm).trans q⟩,λb hb=>?_⟩;rw[aF (neT b hb)];exact(hf b hb).1
 done:=by
  rw[0];obtain⟨xs,hq,hx⟩:=hg;obtain⟨its,rv,p,hz⟩:=I.list hq;obtain⟨⟨old,he⟩,hit⟩:=st;obtain⟨f0,f1,f2,f3,f4,f5⟩:=hf it (by simp);have hl:=rv.length;exact Bp (I.ok.hd hc) he hit p.isList (by simp;omega) λh' eb=>⟨rfl,I.turned (t':=s.toks) (λb o hb q=>eb b o hb q) f0 f1 f3 f4 f5⟩
 self:=λ_ _ _ _ _ st h=>by
  obtain⟨⟨old,he⟩,_⟩:=st;exact wpAny_pyIter_enum he h
theorem vb{K:Za}{a:Addr}{n:Int}{ds:List D}{H0:Hp}{g:MH->Prop}(hg:∀H M,RM K M H->g M->∃vs,SqL K H a vs/\RVs K H ds vs):JOk K (IteS K a n) H0 (aS n ds) g:=by
 intro i H M _ rm q;obtain⟨vs,sq,rr⟩:=hg H M rm q;rw[cq];refine⟨λhi=>?_,λhi=>⟨vs,sq,by rw[←rr.len];exact Nat.le_of_eq hi.symm⟩,λx H' d hd ⟨v,p,hv,hp,e,y⟩=>?_⟩
 ·have:i<vs.length:=by rw[←rr.len];exact hi
  exact⟨vs,vs[i],sq,ZC this⟩
 ·subst e y
  obtain⟨d',h1,rfl⟩:=lE hd;obtain⟨v',h2,r⟩:=cO rr.p h1
  have:=hv vs sq
  rw[h2] at this;cases this;have k:=Kp.new (o:=.tup [.int (n+i),v]) hp;refine⟨k,rm.newH hp,RV.tup_.2 ⟨p,_,rfl,SqT.of az,.cons (RV.int_.2 rfl) (.cons (RV.mono k _ r) .nil)⟩⟩
def wG(t:WA)(tk:WE):WI:=λσ M R=>t σ M λds M1=>tk σ M1 λd M2=>match ds,d with
 |[.ref a],.int n=>match M2 a with
  |some (.lst xs)=>Builtin.SmallTypes.fitsIndex n=true/\R (aS n xs) (λM'=>M' a=some (.lst xs)) M2
  |some (.rol xs)=>Builtin.SmallTypes.fitsIndex n=true/\R (aS n xs) (λM'=>M' a=some (.rol xs)) M2
  |_=>False
 |_,_=>False
section
variable {X:Cx}{H:Hp}{pos:Pos}
theorem wH{pins:Zc}{ρ:L2.St}{s:Shared}{elts:Zg}{kk:Nat}{tp:Pos}{a:Addr}{n:Int}{tok:Tok}{xs:List V}{R:It->Hp->Prop}(I:Inv X pins ρ H s)(hf:Builtin.SmallTypes.fitsIndex n=true)(hq:SqL X.K H a xs)(q:R (IteS X.K a n) H):
  wpAny 'c' X.A (call (.type "enumerate") [.ref a] [("start",.int n tok)]) (λv s1=>wpAny 'c' X.A (pyIter v) (PIE X pins ρ (.Tuple elts kk tp) R) X.xe s1) X.xe s:=by
 obtain⟨its,rv,p,hz⟩:=I.list hq;refine zT p.isList hf λh' hE hI hk=>?_
 refine wpAny_pyIter_enum hE ?_;have I1:Inv X pins ρ H { s with heap:=h' }:=I.kept (t':=s.toks) hk;refine⟨s.heap.objs.size+1,[s.heap.objs.size+1,s.heap.objs.size],_,_,H,rfl,I1,zV a _ _ n (Nat.succ_ne_self _),⟨⟨.none,by simpa using hE⟩,hI⟩,λb hb=>?_,q⟩;have hb':b=s.heap.objs.size+1\/b=s.heap.objs.size:=by simpa using hb
 rcases hb' with rfl | rfl
 ·exact I.fpOk (YM _) (I.hok.fresh (YM _))
 ·exact I.fpOk (YE _) (I.hok.fresh (YE _))
theorem wJ{Mo:Model}{A:Around}{Z:Zb}{s:Shared}{env:Env}{T:String}{e v:Expr}{k:Str}{kp:Pos}{Q:Zb}
  (h:wpAny Mo A (spliced (backTo pos (starEach [e] env))) (λvs t=>wpAny Mo A (eval v env) (λu t2=>wpAny Mo A (call (.type T) vs [(k,u)]) Q Z t2) Z t) Z s)
  (he:starEach [e] env=[(false,eval e env)]):
  wpAny Mo A (callWith pos (.type T) [] (backTo pos (starEach [e] env)) (backToKw pos (keywordEach [⟨some k,v,kp⟩] env))) Q Z s:=by
 rw[he] at h ⊢;unfold callWith;refine Yb (Yj (evalArgs_kwB rfl (wpAny_mono h (λvs t h1=>kws_cons (wpAny_mono h1 (λu t2 h2=>kws_nil ?_) λ_ _ y=>y)) λ_ _ y=>y)));refine Yb (Yk (Yb (Yc (Yb ?_))));exact wpAny_mono h2 (λr t3 hr=>Yb (Yj (wpAny_point (Yc hr)))) λ_ _ y=>y
theorem Bq{l v:Expr}{t:WA}{tk:WE}{p kp:Pos}{elts:Zg}{kk:Nat}{tp:Pos}(hg:Gl X "enumerate")(hm:X.mg "enumerate" = none)(h:PAd X [l] t)(hv:PEd X v tk)(hs:ar l=true):PId X (.Tuple elts kk tp) (.Call (.Name "enumerate" p) [l] [⟨some "start",v,kp⟩] pos) (wG t tk):=by
 intro σ M ρ H R rs rm q pins s I;refine wpAny_Call_Name_kw (cM I hg hm (by rfl':bootBuiltins "enumerate" = some (.type "enumerate")) (wJ (thn (h σ M ρ H _ rs rm q pos pins s I) λus s1 ⟨vs,H1,I1,rv,⟨k1,ds,M1,r1,l1,m1,q1⟩⟩=>?_) (aP hs)));refine thn (hv σ M1 ρ H1 _ (rs.mono k1) m1 q1 pins s1 I1) λuk s2 ⟨vk,H2,I2,rvk,⟨k2,d,M2,r2,m2,q2⟩⟩=>?_
 dsimp only at q2;split at q2
 ·rename_i a n _
  replace r1:=RVs.mono k2 _ r1;rw[RVs] at r1;obtain⟨v1,vs',rfl,r3,r4⟩:=r1;rw[RVs] at r4;subst r4;cases RV.ref_.1 r3;obtain⟨u,rfl,ru⟩:=rv.one;cases ru;cases RV.int_.1 r2;obtain⟨tok,rfl⟩:∃tok,uk=Value.int n tok:=rvk;split at q2
  ·rename_i xs e
   obtain⟨ys,e1,rr⟩:=m2 a _ e;obtain⟨_,_,_,hz⟩:=I2.list (SqL.of e1);refine wH I2 q2.1 (SqL.of e1) ⟨k1.trans k2,_,_,M2,m2,e,vb λH' M' rm' g'=>?_,by rw[cq,rr.len];exact hz,q2.2⟩;obtain⟨xs',e',rr'⟩:=rm' a _ g';exact⟨xs',SqL.of e',rr'⟩
  ·rename_i xs e
   obtain⟨ys,e1,rr⟩:=m2 a _ e;have e1:SqL X.K H2 a ys:=.inl e1;obtain⟨_,_,_,hz⟩:=I2.list e1;refine wH I2 q2.1 e1 ⟨k1.trans k2,_,_,M2,m2,e,vb λH' M' rm' g'=>?_,by rw[cq,rr.len];exact hz,q2.2⟩;obtain⟨xs',e',rr'⟩:=rm' a _ g';exact⟨xs',.inl e',rr'⟩
  ·exact Yh q2
 ·exact Yh q2
end
end DD
namespace DD
open PySem PySem.Spec PyProof.Rows L2
set_option genInjectivity false
set_option genSizeOf false
set_option genCtorIdx false
mutual
inductive E where
 |var (i:Nat) | int (i:Int) | str (x:Str) | bl (b:Bool) | non | glob (j:Nat) | ty (T:String)
 |bin (o:Operator) (a b:E) | cmp (o:CmpOp) (a b:E)
 |and (a b:E) | or (a b:E) | not (a:E) | ite (c:T) (a b:E)
 |fn (j:Nat) (es:Es) | bi (b:Bi) (es:Es) | mt (m:Mt) (o:E) (es:Es) | mt0 (m:Mt) (o:E)
 |ix (a b:E) | sl (a:E) (lo hi:Eo) | lst (es:Es) | tup (es:Es) | comp (n:Nat) (e:E) (t:Tgt) (i:I) (c:To)
 |neg (a:E) | dnew | fld (o:E) (f:Str) | mu (m:Str) (o:E) (es:Es) | mu0 (m:Str) (o:E) | lenSet (a:E) | bj (b:Bj) (es:Es) | lrg (es:Es) | inv (a:E) | bk (b:Bk) (es:Es)
inductive Ps where
 |nil | cons (k v:E) (r:Ps)
inductive Es where
 |nil | cons (e:E) (es:Es)
inductive Eo where
 |no | yes (e:E)
inductive To where
 |no | yes (t:T)
inductive T where
 |val (e:E) | cmp (o:CmpOp) (a b:E) | and (t u:T) | or (t u:T) | not (t:T)
inductive I where
 |seq (e:E) | rg1 (es:Es) | rg2 (es:Es) | enum (es:Es) | enumS (es:Es) (k:E)
end
mutual
inductive S where
 |set (i:Nat) (e:E) | setC (i n:Nat) (e:E) (t:Tgt) (it:I) (c:To) | asg (g:Tgt) (e:E) | expr (e:E) | ret (e:E)
 |ite (t:T) (a b:Ss) | for (g:Tgt) (it:I) (b:Ss) | brk | pass | never
 |putIx (o i e:E) | setF (o:E) (f:Str) (e:E) | while (t:T) (b:Ss)
inductive Ss where
 |nil | cons (s:S) (r:Ss)
end
set_option genInjectivity true
set_option genSizeOf true
set_option genCtorIdx true
structure Cn where
 F:List SpD
 G:List D
 O:OK0
 T:MT0
 I:IS0:=λ_ _=>none
def sM(c:WT)(tb:WS):WS:=λE σ M=>∃W:Nat->DS->MH->Prop,(∃m,W m σ M)/\∀m σ M,W m σ M ->
 c σ M λb M1=>Bif b (∃N:DS->MH->Prop,(∀σ' M',N σ' M'->∃m',m'<m/\W m' σ' M')/\tb { E with nx:=N,ct:=N,bk:=E.nx } σ M1) (E.nx σ M1)
section
variable (c:Cn)
mutual
noncomputable def wE:E->WE
 |.var i=>λσ M Q=>getS σ i λd=>Q d M
 |.int i=>λ_ M Q=>Q (.int i) M
 |.str i=>λ_ M Q=>Q (.str i) M
 |.bl i=>λ_ M Q=>Q (.bl i) M
 |.non=>λ_ M Q=>Q .non M
 |.glob j=>λ_ M Q=>Q (c.G.getD j .non) M
 |.ty n=>λ_ M Q=>Q (.ty n) M
 |.bin o a b=>wOp (dBin o) (wE a) (wE b)
 |.cmp o a b=>wOp (dCmp o) (wE a) (wE b)
 |.and a b=>zr (wE a) (wE b)
 |.or a b=>wOrV (wE a) (wE b)
 |.not a=>zt (wE a)
 |.ite t a b=>wIf (wT t) (wE a) (wE b)
 |.fn j es=>fK (c.F.getD j λ_ _ _=>False) (wEs es)
 |.bi b es=>fK (dBi b) (wEs es)
 |.lenSet a=>ui (wE a)
 |.bj b es=>fK (dBj b) (wEs es)
 |.bk b es=>fK (dBk b) (wEs es)
 |.lrg es=>wLrg (wEs es)
 |.mt m o es=>wMt (mtRc m) (dMt m) (wE o) (wEs es)
 |.mt0 m o=>wMt (mtRc m) (dMt m) (wE o) wNil
 |.ix a b=>wOp dIx (wE a) (wE b)
 |.sl a lo hi=>wSl (wE a) (wEo lo) (wEo hi)
 |.lst es=>wLst (wEs es)
 |.tup es=>wTup (wEs es)
 |.comp n e t i d=>zE n (wI i) t (wTo d) (wE e)
 |.neg a=>wNeg (wE a)
 |.inv a=>wInv (wE a)
 |.dnew=>λ_ M Q=>∀p,M p=none->Q (.ref p) (updM M p (.dic []))
 |.fld o f=>wFld c.O f (wE o)
 |.mu m o es=>sF c.T m (wE o) (wEs es)
 |.mu0 m o=>sF c.T m (wE o) wNil
noncomputable def wP:Ps->List (WE×WE)
 |.nil=>[]
 |.cons k v r=>(wE k,wE v)::wP r
noncomputable def wEs:Es->WA
 |.nil=>wNil
 |.cons e es=>zu (wE e) (wEs es)
noncomputable def wEo:Eo->WO
 |.no=>λ_ M Q=>Q none M
 |.yes e=>λσ M Q=>wE e σ M λx M1=>intD x λi=>Q (some i) M1
noncomputable def wTo:To->WT
 |.no=>λ_ M Q=>Q true M
 |.yes t=>wT t
noncomputable def wT:T->WT
 |.val e=>wTru (wE e)
 |.cmp o a b=>zq (wOp (dCmp o) (wE a) (wE b))
 |.and t u=>wAnd (wT t) (wT u)
 |.or t u=>wOr (wT t) (wT u)
 |.not t=>wNot (wT t)
noncomputable def wI:I->WI
 |.seq e=>zy (wE e)
 |.rg1 es=>zz (wEs es)
 |.rg2 es=>zA (wEs es)
 |.enum es=>zS (wEs es)
 |.enumS es k=>wG (wEs es) (wE k)
end
mutual
noncomputable def wS:S->WS
 |.set i e=>wSet i (wE c e)
 |.setC i n e t it d=>zF i n (wI c it) t (wTo c d) (wE c e)
 |.asg g e=>wAsg (wE c e) g
 |.expr e=>zv (wE c e)
 |.ret e=>wRet (wE c e)
 |.ite t a b=>wIfS (wT c t) (wSs a) (wSs b)
 |.for g it b=>wFor (wI c it) g (wSs b)
 |.brk=>λD σ M=>D.bk σ M
 |.pass=>sj
 |.never=>λ_ _ _=>False
 |.putIx o i e=>ww (wE c e) (wE c o) (wE c i)
 |.setF o f e=>zK c.O f (wE c o) (wE c e)
 |.while t b=>sM (wT c t) (wSs b)
noncomputable def wSs:Ss->WS
 |.nil=>sj
 |.cons s r=>wSeq (wS s) (wSs r)
end
end
structure Gam where
 N:List Str
 sc:Scope
 all:Bool
 glob:List Str
 blt:List Str
 fns:List Str
def zW:Option NameKind->Bool
 |some .local=>true
 |some .cell=>true
 |some .free=>true
 |_=>false
def zX:Option NameKind->Bool
 |some .local=>true
 |some .cell=>true
 |_=>false
def Br(Γ:Gam)(i:Nat)(x:Str):Bool:=decide (Γ.N[i]?=some x)&&zW (Γ.sc.names.lookup x) && !(x==("__debug__" : Str)) && !(x==("__classdict__" : Str))
def pE(Γ:Gam)(i:Nat)(x:Str):Bool:=decide (Γ.N[i]?=some x)&&zX (Γ.sc.names.lookup x)&&(Γ.all||decide (Γ.sc.names.lookup x=some .local))
def cf(Γ:Gam)(x:Str):Bool:=decide (Γ.sc.names.lookup x=some .globalImplicit) && !(x==("__debug__" : Str))
def sN:List String:=["bool","int","str","tuple","list","dict"]
def ownOf(sc:Scope):List Str:=sc.names.filterMap λp=>if p.2=.local/\p.1≠(".0" : Str) then some p.1 else none
def n2Of(Γ:Gam)(sc:Scope):List Str:=Γ.N.map λy=>if sc.names.lookup y=some .local then "" else y
def m6(Γ:Gam)(sc:Scope):Bool:=decide (sc.kind=.function)&&sc.names.all (λy=>decide (y.2≠.cell))&&sc.names.all (λy=>decide (y.2=.local->sc.names.lookup y.1=some .local)) &&
 sc.names.all (λy=>decide (y.2=.free->(Γ.sc.names.lookup y.1=some .cell\/Γ.sc.names.lookup y.1=some .free)))&&((n2Of Γ sc).zip Γ.N).all (λp=>decide ((sc.names.lookup p.1=some .free->p.1=p.2)/\sc.names.lookup p.1≠some .local))&&decide ((n2Of Γ sc++ownOf sc).Nodup)
def relS(sc osc:Scope):Scope:={ sc with names:=sc.names.map λ(p:Str×NameKind)=>if(p.2==NameKind.free&&osc.kind==.function&&osc.names.lookup p.1==some .cell)=true then(p.1,NameKind.cell) else(p.1,p.2) }
def inComp(Γ:Gam)(sc:Scope):Gam:={ Γ with N:=n2Of Γ sc++ownOf sc,sc:=relS sc Γ.sc,all:=false }
def sO(Γ:Gam):List Nat->List Expr->Bool
 |[],[]=>true
 |i::is,.Name x _::es=>pE Γ i x&&sO Γ is es
 |_,_=>false
def qw(Γ:Gam):Tgt->Expr->Bool
 |.nm i,.Name x _=>pE Γ i x
 |.tp is,.Tuple es _ _=>sO Γ is es
 |_,_=>false
def Bs:Expr->Bool
 |.UnaryOp .Not _ _=>false
 |.BoolOp _ _ _=>false
 |.IfExp _ _ _ _=>false
 |.Compare _ _ _ _=>false
 |_=>true
def gK:Expr->Option (Str×List Expr×List Keyword)
 |.Call f es ks _=>match f with
  |.Name x _=>some (x,es,ks)
  |_=>none
 |_=>none
def sQ(e:Expr):Option (Str×Str×List Expr):=match gK e with
 |some (x,[c],[])=>match gK c with
  |some (y,es,[])=>some (x,y,es)
  |_=>none
 |_=>none
def isTup:Expr->Bool
 |.Tuple _ _ _=>true
 |_=>false
theorem nos{α:Type}{a:α}{P:Prop}(h:none=some a):P:=by cases h
theorem ff{P:Prop}(h:false=true):P:=by cases h
theorem cC{e:Expr}{x:Str}{es:Zg}{ks:List Keyword}(h:gK e=some (x,es,ks)):∃p q,e=.Call (.Name x p) es ks q:=by
 cases e with
 |Call f es ks q=>
  cases f with
  |Name x p=>cases h;exact⟨p,q,rfl⟩
  |_=>exact nos h
 |_=>exact nos h
theorem pF{e:Expr}{x y:Str}{es:Zg}(h:sQ e=some (x,y,es)):∃p q p' q',e=.Call (.Name x p) [.Call (.Name y p') es [] q'] [] q:=by
 unfold sQ at h;split at h
 ·rename_i h1
  split at h
  ·rename_i h2
   cases h;obtain⟨p,q,rfl⟩:=cC h1;obtain⟨p',q',rfl⟩:=cC h2;exact⟨p,q,p',q',rfl⟩
  ·cases h
 ·cases h
theorem wK{e:Expr}(h:isTup e=true):∃es k p,e=.Tuple es k p:=by
 cases e with
 |Tuple es k p=>exact⟨es,k,p,rfl⟩
 |_=>exact ff h
mutual
noncomputable def chkE:Gam->E->Expr->Bool
 |Γ,.var i,e=>match e with
  |.Name x _=>Br Γ i x
  |_=>false
 |_,.int i,e=>match e with
  |.Constant (.int j) _ _=>decide (i=j)
  |_=>false
 |_,.str i,e=>match e with
  |.Constant (.str j) _ _=>decide (i=j)
  |_=>false
 |_,.bl i,e=>match e with
  |.Constant (.bool j) _ _=>decide (i=j)
  |_=>false
 |_,.non,e=>match e with
  |.Constant .none _ _=>true
  |_=>false
 |Γ,.glob j,e=>match e with
  |.Name x _=>cf Γ x&&decide (Γ.glob[j]?=some x)
  |_=>false
 |Γ,.ty n,e=>match e with
  |.Name x _=>cf Γ x&&Γ.blt.contains x&&decide (x=Str.ofString n)&&sN.contains n
  |_=>false
 |Γ,.bin o a b,e=>match e with
  |.BinOp l op r _=>decide (o=op)&&chkE Γ a l&&chkE Γ b r
  |_=>false
 |Γ,.cmp o a b,e=>match e with
  |.Compare l [op] [r] _=>decide (o=op)&&chkE Γ a l&&chkE Γ b r && !(behindInMarks op r)
  |_=>false
 |Γ,.and a b,e=>match e with
  |.BoolOp .And [l,r] _=>chkE Γ a l&&chkE Γ b r
  |.BoolOp .And (l::r::q::rest) pos=>chkE Γ a l&&chkE Γ b (.BoolOp .And (r::q::rest) pos)
  |_=>false
 |Γ,.or a b,e=>match e with
  |.BoolOp .Or [l,r] _=>chkE Γ a l&&chkE Γ b r
  |.BoolOp .Or (l::r::q::rest) pos=>chkE Γ a l&&chkE Γ b (.BoolOp .Or (r::q::rest) pos)
  |_=>false
 |Γ,.not a,e=>match e with
  |.UnaryOp .Not l _=>chkE Γ a l
  |_=>false
 |Γ,.ite c a b,e=>match e with
  |.IfExp t l r _=>chkT Γ c t&&chkE Γ a l&&chkE Γ b r
  |_=>false
 |Γ,.fn j es,e=>match gK e with
  |some (x,a::as,[])=>cf Γ x&&decide (Γ.fns[j]?=some x)&&ar a&&as.all ar&&cg Γ es (a::as)
  |_=>false
 |Γ,.bi b es,e=>match gK e with
  |some (x,a::as,[])=>cf Γ x&&Γ.blt.contains x&&decide (x=sA b)&&ar a&&as.all ar&&cg Γ es (a::as)
  |_=>false
 |Γ,.bj b es,e=>match gK e with
  |some (x,a::as,[])=>cf Γ x&&Γ.blt.contains x&&decide (x=sJ b)&&ar a&&as.all ar&&cg Γ es (a::as)
  |_=>false
 |Γ,.bk b es,e=>match gK e with
  |some (x,a::as,[])=>cf Γ x&&Γ.blt.contains x&&decide (x=sL b)&&ar a&&as.all ar&&cg Γ es (a::as)
  |_=>false
 |Γ,.lenSet a,e=>match sQ e with
  |some (x,y,[l])=>cf Γ x&&Γ.blt.contains x&&decide (x=("len" : Str))&&cf Γ y&&Γ.blt.contains y&&decide (y=("set" : Str))&&ar l&&chkE Γ a l
  |_=>false
 |Γ,.lrg es,e=>match sQ e with
  |some (x,y,[l])=>cf Γ x&&Γ.blt.contains x&&decide (x=("list" : Str))&&cf Γ y&&Γ.blt.contains y&&decide (y=("range" : Str))&&ar l&&cg Γ es [l]
  |some (x,y,[l,r])=>cf Γ x&&Γ.blt.contains x&&decide (x=("list" : Str))&&cf Γ y&&Γ.blt.contains y&&decide (y=("range" : Str))&&ar l&&ar r&&cg Γ es [l,r]
  |_=>false
 |Γ,.mt m o es,e=>match e with
  |.Call (.Attribute l x apos) (a::as) [] pos=>decide (x=sD m)&&chkE Γ o l&&bA l&&ar a&&as.all ar&&decide (as.length<20)&&(apos.endLine==pos.line)&&cg Γ es (a::as)
  |_=>false
 |Γ,.mt0 m o,e=>match e with
  |.Call (.Attribute l x apos) [] [] pos=>decide (x=sD m)&&chkE Γ o l&&bA l&&(apos.endLine==pos.line)
  |_=>false
 |Γ,.ix a b,e=>match e with
  |.Subscript l r _=>chkE Γ a l&&chkE Γ b r&&kN r
  |_=>false
 |Γ,.sl a lo hi,e=>match e with
  |.Subscript l (.Slice x y none _) _=>chkE Γ a l&&sR Γ lo x&&sR Γ hi y
  |_=>false
 |Γ,.lst es,e=>match e with
  |.List as _=>cg Γ es as&&decide (as.length<=1000)
  |_=>false
 |Γ,.tup es,e=>match e with
  |.Tuple as _ _=>cg Γ es as&&decide (as.length<=1000)
  |_=>false
 |Γ,.comp n e t i c,ex=>match ex with
  |.ListComp elt [⟨tg,it,ifs,ia⟩] sc _=>m6 Γ sc&&decide (n=(ownOf sc).length)&&decide (ia=0)&&chkI Γ i tg it&&kM it&&qw (inComp Γ sc) t tg&&sU (inComp Γ sc) c ifs&&chkE (inComp Γ sc) e elt
  |_=>false
 |Γ,.neg a,e=>match e with
  |.UnaryOp .USub l _=>chkE Γ a l
  |_=>false
 |Γ,.inv a,e=>match e with
  |.UnaryOp .Invert l _=>chkE Γ a l
  |_=>false
 |_,.dnew,e=>match e with
  |.Dict [] [] _=>true
  |_=>false
 |Γ,.fld o f,e=>match e with
  |.Attribute l x _=>chkE Γ o l&&decide (x=f)&&bA l
  |_=>false
 |Γ,.mu m o es,e=>match e with
  |.Call (.Attribute l x apos) (a::as) [] pos=>decide (x=m)&&chkE Γ o l&&bA l&&ar a&&as.all ar&&decide (as.length<19)&&(apos.endLine==pos.line)&&cg Γ es (a::as)
  |_=>false
 |Γ,.mu0 m o,e=>match e with
  |.Call (.Attribute l x apos) [] [] pos=>decide (x=m)&&chkE Γ o l&&bA l&&(apos.endLine==pos.line)
  |_=>false
noncomputable def chkP:Gam->Ps->List (Option Expr)->List Expr->Bool
 |_,.nil,ks,vs=>match ks,vs with
  |[],[]=>true
  |_,_=>false
 |Γ,.cons k v r,ks,vs=>match ks,vs with
  |some x::ks,y::vs=>chkE Γ k x&&chkE Γ v y&&chkP Γ r ks vs
  |_,_=>false
noncomputable def cg:Gam->Es->List Expr->Bool
 |_,.nil,as=>match as with
  |[]=>true
  |_=>false
 |Γ,.cons e es,as=>match as with
  |a::as=>chkE Γ e a&&ar a&&cg Γ es as
  |_=>false
noncomputable def sR:Gam->Eo->Option Expr->Bool
 |_,.no,a=>match a with
  |none=>true
  |_=>false
 |Γ,.yes e,a=>match a with
  |some a=>chkE Γ e a
  |_=>false
noncomputable def sU:Gam->To->List Expr->Bool
 |_,.no,as=>match as with
  |[]=>true
  |_=>false
 |Γ,.yes t,as=>match as with
  |[a]=>chkT Γ t a
  |_=>false
noncomputable def chkT:Gam->T->Expr->Bool
 |Γ,.val e,ex=>chkE Γ e ex&&Bs ex
 |Γ,.cmp o a b,e=>match e with
  |.Compare l [op] [r] _=>decide (o=op)&&chkE Γ a l&&chkE Γ b r && !(behindInMarks op r)
  |_=>false
 |Γ,.and a b,e=>match e with
  |.BoolOp .And [l,r] _=>chkT Γ a l&&chkT Γ b r
  |.BoolOp .And (l::r::q::rest) pos=>chkT Γ a l&&chkT Γ b (.BoolOp .And (r::q::rest) pos)
  |_=>false
 |Γ,.or a b,e=>match e with
  |.BoolOp .Or [l,r] _=>chkT Γ a l&&chkT Γ b r
  |.BoolOp .Or (l::r::q::rest) pos=>chkT Γ a l&&chkT Γ b (.BoolOp .Or (r::q::rest) pos)
  |_=>false
 |Γ,.not a,e=>match e with
  |.UnaryOp .Not l _=>chkT Γ a l
  |_=>false
noncomputable def chkI:Gam->I->Expr->Expr->Bool
 |Γ,.seq e,_,ex=>chkE Γ e ex
 |Γ,.enum es,tg,e=>match isTup tg,gK e with
  |true,some (x,[a],[])=>cf Γ x&&Γ.blt.contains x&&decide (x=("enumerate" : Str))&&ar a&&cg Γ es [a]
  |_,_=>false
 |Γ,.enumS es k,tg,e=>match isTup tg,gK e with
  |true,some (x,[a],[⟨some y,b,_⟩])=>cf Γ x&&Γ.blt.contains x&&decide (x=("enumerate" : Str))&&ar a&&cg Γ es [a]&&decide (y=("start" : Str))&&chkE Γ k b
  |_,_=>false
 |Γ,.rg1 es,_,e=>match gK e with
  |some (x,[a],[])=>cf Γ x&&Γ.blt.contains x&&decide (x=("range" : Str))&&ar a&&cg Γ es [a]
  |_=>false
 |Γ,.rg2 es,_,e=>match gK e with
  |some (x,[a,b],[])=>cf Γ x&&Γ.blt.contains x&&decide (x=("range" : Str))&&ar a&&ar b&&cg Γ es [a,b]
  |_=>false
end
def yQ:Expr->Bool
 |.Tuple _ _ _=>false
 |_=>true
mutual
noncomputable def chkS:Gam->S->Stmt->Bool
 |Γ,.set i e,st=>match st with
  |.Assign [.Name x _] v _=>pE Γ i x&&(dA v||decide (Γ.sc.names.lookup x=some .cell))&&chkE Γ e v
  |_=>false
 |Γ,.setC i n e t j c,st=>match st with
  |.Assign [.Name y py] (.ListComp elt [⟨tg,it,ifs,ia⟩] sc pos) spos=>decide (Γ.N[i]?=some y)&&decide (Γ.sc.names.lookup y=some .local)&&(py.line==pos.line) && !(sc.names.any λ(p:Str×NameKind)=>p.1==y&&(p.2==.local || p.2==.cell)) &&
   m6 Γ sc&&decide (n=(ownOf sc).length)&&decide (ia=0)&&chkI Γ j tg it&&kM it&&qw (inComp Γ sc) t tg&&sU (inComp Γ sc) c ifs&&chkE (inComp Γ sc) e elt
  |_=>false
 |Γ,.asg g e,st=>match st with
  |.Assign [.Tuple es k p] v _=>qw Γ g (.Tuple es k p)&&dA v&&yQ v&&chkE Γ e v
  |_=>false
 |Γ,.expr e,st=>match st with
  |.Expr v _=>dA v&&chkE Γ e v
  |_=>false
 |Γ,.ret e,st=>match st with
  |.Return (some v) _=>chkE Γ e v
  |_=>false
 |Γ,.ite t a b,st=>match st with
  |.If c x y _=>chkT Γ t c&&cr Γ a x&&cr Γ b y
  |_=>false
 |Γ,.for g j b,st=>match st with
  |.For tg it body [] _=>qw Γ g tg&&chkI Γ j tg it&&kM it&&cr Γ b body
  |_=>false
 |_,.brk,st=>match st with
  |.Break _=>true
  |_=>false
 |_,.pass,st=>match st with
  |.Pass _=>true
  |_=>false
 |_,.never,_=>true
 |Γ,.putIx o i e,st=>match st with
  |.Assign [.Subscript l r _] v _=>chkE Γ o l&&chkE Γ i r&&chkE Γ e v&&dA v&&kN r
  |_=>false
 |Γ,.setF o f e,st=>match st with
  |.Assign [.Attribute l x _] v _=>chkE Γ o l&&decide (x=f)&&chkE Γ e v
  |_=>false
 |Γ,.while t b,st=>match st with
  |.While c body [] _=>chkT Γ t c&&cr Γ b body
  |_=>false
noncomputable def cr:Gam->Ss->List Stmt->Bool
 |_,.nil,l=>match l with
  |[]=>true
  |_=>false
 |Γ,.cons s r,l=>match l with
  |st::sts=>chkS Γ s st&&cr Γ r sts
  |_=>false
end
def cJ(P:Zw)(w:World)(K:Za)(mg:Ze)(base:Heap)(k:Nat)(x:Str)(sp:SpD):Prop:=FnD P w K mg base k x sp \/ ∃k',k=k'+1/\MkD P w K mg base k' x sp
structure GOk (Γ:Gam) (c:Cn) (X:Cx):Prop where
 N:X.N=Γ.N
 sc:X.env.scope=Γ.sc
 kind:Γ.sc.kind=.function
 nd:Γ.N.Nodup
 calm:X.calm=true
 fn:Γ.all=true->∀x,X.fn x=true
 own:PassesOwn 'c' X.A X.env X.xe
 glob:∀(j:Nat) x,Γ.glob[j]?=some x->ph X.K X.mg x (c.G.getD j .non)
 blt:∀x,Γ.blt.contains x=true->X.mg x=none
 fns:∀(j:Nat) x,Γ.fns[j]?=some x->∃k,cJ X.prog X.w X.K X.mg X.base k x (c.F.getD j λ_ _ _=>False)/\Room k X.A
 flds:∀C f,c.O C f->Cls X.K C/\bZ X.K C f
 mts:zL X c.T
 isi:∀C d b,c.I C d=some b->IsiOk X.K C d b
 hu:X.A.units+40<cLine
section
variable {Γ:Gam}{X:Cx}{e:Expr}{pos:Pos}{cn:Cn}
theorem G4(sc:Scope)(env:Env):relabel sc env=relS sc env.scope:=rfl
theorem GOk.comp{sc:Scope}{C:Addr}{s:Shared}{H:Hp}{ex:Zh}{pn:Zc}(g:GOk Γ cn X)(h:m6 Γ sc=true):GOk (inComp Γ sc) cn (cxC X sc (ownOf sc) (n2Of Γ sc) C s H ex pn):=by
 unfold m6 at h;simp only[YV,XO] at h;obtain⟨⟨⟨⟨⟨h1,h2⟩,h3⟩,h4⟩,h5⟩,h6⟩:=h;refine⟨rfl,?_,h1,h6,g.calm,(λz=>nomatch z),PassesOwn.never,g.glob,g.blt,g.fns,g.flds,g.mts,g.isi,g.hu⟩;show relabel sc X.env=relS sc Γ.sc;rw[G4,g.sc]
theorem GOk.cscope{sc:Scope}(g:GOk Γ cn X)(h:m6 Γ sc=true):CompScope Γ.sc sc X.N (ownOf sc) (n2Of Γ sc):=by
 unfold m6 at h;simp only[YV,XO] at h;obtain⟨⟨⟨⟨⟨h1,h2⟩,h3⟩,h4⟩,h5⟩,h6⟩:=h;rw[XI] at h2 h3 h4 h5;refine⟨h1,λy hy=>XM (h2 y hy),λy hy=>XM (h3 y hy),λy hy=>XM (h4 y hy),?_,λp hp=>?_⟩
 ·rw[g.N];unfold n2Of;rw[ZE]
 ·rw[g.N] at hp;exact XM (h5 p hp)
theorem Da{sc:Scope}{x:Str}(h:zW (sc.names.lookup x)=true):Vis sc x:=by
 unfold zW at h;unfold Vis;split at h
 ·exact .inl (by assumption)
 ·exact .inr (.inl (by assumption))
 ·exact .inr (.inr (by assumption))
 ·exact ff h
theorem Db{sc:Scope}{x:Str}(h:zX (sc.names.lookup x)=true):L2.Loc sc x:=by
 unfold zX at h;unfold L2.Loc;split at h
 ·exact .inl (by assumption)
 ·exact .inr (by assumption)
 ·exact ff h
theorem zY{i:Nat}{x:Str}(g:GOk Γ cn X)(h:pE Γ i x=true):X.N.Nodup/\X.N[i]?=some x/\L2.Loc X.env.scope x/\(X.fn x=true\/X.env.scope.names.lookup x=some .local):=by
 unfold pE at h;simp only[YV,XS,XO] at h;obtain⟨⟨h1,h2⟩,h3⟩:=h;rw[g.N,g.sc];exact⟨g.nd,h1,Db h2,h3.imp (λz=>g.fn z x) id⟩
theorem s_gl{x:Str}(g:GOk Γ cn X)(h:cf Γ x=true):Gl X x/\(x==("__debug__" : Str))=false:=by
 unfold cf at h;simp only[YV,XO,Bool.not_eq_true'] at h;refine⟨?_,h.2⟩;show X.env.scope.names.lookup x=_;rw[g.sc];exact h.1
theorem DP(g:GOk Γ cn X):∀{is:Zj}{es:Zg},sO Γ is es=true->PGs X es (gsOf is)/\(assignEach es X.env).length=is.length/\(assignEach es X.env).findIdx? (·.1)=none
 |[],[],_=>⟨D8,rfl,rfl⟩
 |i::is,.Name x p::es,h=>by
  unfold sO at h;rw[YV] at h;obtain⟨h1,h2,h3⟩:=DP g h.2;obtain⟨a,b,c,d⟩:=zY g h.1;refine⟨Cb (yn a b c d) h1 rfl,?_,?_⟩
  ·show(assignEach es X.env).length+1=is.length+1;rw[h2]
  ·show List.findIdx? (·.1) ((false,assign (.Name x p) X.env)::assignEach es X.env)=none
   rw[List.findIdx?_cons];simp[h3]
 |[],_::_,h=>ff h
 |_::_,[],h=>ff h
 |_::_,.BoolOp .. :: _,h=>ff h
 |_::_,.NamedExpr .. :: _,h=>ff h
 |_::_,.BinOp .. :: _,h=>ff h
 |_::_,.UnaryOp .. :: _,h=>ff h
 |_::_,.Lambda .. :: _,h=>ff h
 |_::_,.IfExp .. :: _,h=>ff h
 |_::_,.Dict .. :: _,h=>ff h
 |_::_,.Set .. :: _,h=>ff h
 |_::_,.ListComp .. :: _,h=>ff h
 |_::_,.SetComp .. :: _,h=>ff h
 |_::_,.DictComp .. :: _,h=>ff h
 |_::_,.GeneratorExp .. :: _,h=>ff h
 |_::_,.Await .. :: _,h=>ff h
 |_::_,.Yield .. :: _,h=>ff h
 |_::_,.YieldFrom .. :: _,h=>ff h
 |_::_,.Compare .. :: _,h=>ff h
 |_::_,.Call .. :: _,h=>ff h
 |_::_,.FormattedValue .. :: _,h=>ff h
 |_::_,.JoinedStr .. :: _,h=>ff h
 |_::_,.Constant .. :: _,h=>ff h
 |_::_,.Attribute .. :: _,h=>ff h
 |_::_,.Subscript .. :: _,h=>ff h
 |_::_,.Starred .. :: _,h=>ff h
 |_::_,.List .. :: _,h=>ff h
 |_::_,.Tuple .. :: _,h=>ff h
 |_::_,.Slice .. :: _,h=>ff h
theorem s_tg{t:Tgt}{tg:Expr}(g:GOk Γ cn X)(h:qw Γ t tg=true):PG X tg (gOf X.K t):=by
 unfold qw at h;split at h
 ·obtain⟨a,b,c,d⟩:=zY g h
  exact yn a b c d
 ·obtain⟨h1,h2,h3⟩:=DP g h
  exact GE g.calm h1 h2 h3
 ·exact ff h
theorem Bt{env:Env}(h:Bs e=true):∀whole,isTrue e env whole=(do let v ←whole;standAt e.pos;holding [v] (truthy v)):=by
 intro w;cases e with
 |UnaryOp op a p=>cases op<;>first | rfl | exact absurd (show false=true from h) YD
 |BoolOp _ _ _=>exact absurd (show false=true from h) YD
 |IfExp _ _ _ _=>exact absurd (show false=true from h) YD
 |Compare _ _ _ _=>exact absurd (show false=true from h) YD
 |_=>rfl
theorem Fi:∀n∈sN,bootBuiltins (Str.ofString n)=some (.type n):=by rfl'
theorem Fk:∀n∈sN,Str.ofString n≠("__name__" : Str):=by rfl'
theorem sV{t:WT}(h:PTd X e t)(hp:(∃vs p,e=.BoolOp .And vs p) \/ ∃vs p,e=.BoolOp .Or vs p):PWd X e t:=by
 rcases hp with⟨vs,p,rfl⟩ | ⟨vs,p,rfl⟩
 ·intro σ M ρ H Q rs rm q whole pins s I
  exact h σ M ρ H Q rs rm q pins s I
 ·intro σ M ρ H Q rs rm q whole pins s I
  exact h σ M ρ H Q rs rm q pins s I
mutual
theorem sE:∀(ir:E){Γ:Gam}{cn:Cn}{X:Cx}{e:Expr},GOk Γ cn X->chkE Γ ir e=true->PEd X e (wE cn ir)
 |.var i,Γ,cn,X,e,g,h=>by
  unfold chkE at h;split at h
  ·unfold Br at h
   simp only[YV,XO,Bool.not_eq_true'] at h;rw[wE];exact EC (by rw[g.N];exact h.1.1.1) (by rw[g.sc];exact Da h.1.1.2) h.1.2 h.2
  ·exact ff h
 |.int i,Γ,cn,X,e,g,h=>by
  unfold chkE at h;split at h
  ·cases XM h;rw[wE];exact ED
  ·exact ff h
 |.str i,Γ,cn,X,e,g,h=>by
  unfold chkE at h;split at h
  ·cases XM h;rw[wE];exact EE
  ·exact ff h
 |.bl i,Γ,cn,X,e,g,h=>by
  unfold chkE at h;split at h
  ·cases XM h;rw[wE];exact Gz
  ·exact ff h
 |.non,Γ,cn,X,e,g,h=>by
  unfold chkE at h;split at h
  ·rw[wE];exact EF
  ·exact ff h
 |.glob j,Γ,cn,X,e,g,h=>by
  unfold chkE at h;split at h
  ·rw[YV] at h
   obtain⟨h1,h2⟩:=s_gl g h.1;rw[wE];exact Cw h1 (g.glob j _ (XM h.2)) h2
  ·exact ff h
 |.ty n,Γ,cn,X,e,g,h=>by
  unfold chkE at h;split at h
  ·simp only[YV,XO] at h
   obtain⟨⟨⟨h1,h2⟩,rfl⟩,h4⟩:=h;obtain⟨h5,h6⟩:=s_gl g h1;have h4:n∈sN:=by simpa using h4
   rw[wE];exact qb (DZ (v:=.ty n) h5 (g.blt _ h2) (Fi n h4) rfl (Fk n h4) h6) λ_=>RV.ty_.2 rfl
  ·exact ff h
 |.bin o a b,Γ,cn,X,e,g,h=>by
  unfold chkE at h;split at h
  ·simp only[YV,XO] at h
   obtain⟨⟨rfl,h2⟩,h3⟩:=h;rw[wE];exact EG (E5 o) (sE a g h2) (sE b g h3)
  ·exact ff h
 |.cmp o a b,Γ,cn,X,e,g,h=>by
  unfold chkE at h;split at h
  ·simp only[YV,XO,Bool.not_eq_true'] at h
   obtain⟨⟨⟨rfl,h2⟩,h3⟩,h4⟩:=h;rw[wE];exact EH (yE g.hu o) (sE a g h2) (sE b g h3) h4
  ·exact ff h
 |.and a b,Γ,cn,X,e,g,h=>by
  unfold chkE at h;split at h
  ·rw[YV] at h
   rw[wE];exact yx (sE a g h.1) (yw (sE b g h.2))
  ·rw[YV] at h
   rw[wE];exact yx (sE a g h.1) (sE b g h.2)
  ·exact ff h
 |.or a b,Γ,cn,X,e,g,h=>by
  unfold chkE at h;split at h
  ·rw[YV] at h
   rw[wE];exact AO (sE a g h.1) (yw (sE b g h.2))
  ·rw[YV] at h
   rw[wE];exact AO (sE a g h.1) (sE b g h.2)
  ·exact ff h
 |.not a,Γ,cn,X,e,g,h=>by
  unfold chkE at h;split at h
  ·rw[wE];exact EL (sE a g h)
  ·exact ff h
 |.ite c a b,Γ,cn,X,e,g,h=>by
  unfold chkE at h;split at h
  ·simp only[YV] at h
   rw[wE];exact AQ (sT c g h.1.1) (sE a g h.1.2) (sE b g h.2)
  ·exact ff h
 |.fn j es,Γ,cn,X,e,g,h=>by
  unfold chkE at h;split at h
  ·rename_i q_
   obtain⟨_,_,rfl⟩:=cC q_;simp only[YV,XO] at h;obtain⟨⟨⟨⟨h1,h2⟩,h3⟩,h4⟩,h5⟩:=h;obtain⟨h6,h7⟩:=s_gl g h1;obtain⟨k,Fj,hr⟩:=g.fns j _ h2;rw[wE];rcases Fj with Fj | ⟨k',rfl,Fj⟩
   ·exact ES Fj hr h6 h7 h3 h4 (sEs es g h5)
   ·exact CV Fj hr h6 h7 h3 h4 (sEs es g h5)
  ·exact ff h
 |.bi b es,Γ,cn,X,e,g,h=>by
  unfold chkE at h;split at h
  ·rename_i q_
   obtain⟨_,_,rfl⟩:=cC q_;simp only[YV,XO] at h;obtain⟨⟨⟨⟨⟨h1,h2⟩,rfl⟩,h3⟩,h4⟩,h5⟩:=h;obtain⟨h6,h7⟩:=s_gl g h1;rw[wE];exact GT b g.calm h6 (g.blt _ h2) h3 h4 (sEs es g h5)
  ·exact ff h
 |.bj b es,Γ,cn,X,e,g,h=>by
  unfold chkE at h;split at h
  ·rename_i q_
   obtain⟨_,_,rfl⟩:=cC q_;simp only[YV,XO] at h;obtain⟨⟨⟨⟨⟨h1,h2⟩,rfl⟩,h3⟩,h4⟩,h5⟩:=h;obtain⟨h6,h7⟩:=s_gl g h1;rw[wE];exact GY b g.calm h6 (g.blt _ h2) h3 h4 (sEs es g h5)
  ·exact ff h
 |.bk b es,Γ,cn,X,e,g,h=>by
  unfold chkE at h;split at h
  ·rename_i q_
   obtain⟨_,_,rfl⟩:=cC q_;simp only[YV,XO] at h;obtain⟨⟨⟨⟨⟨h1,h2⟩,rfl⟩,h3⟩,h4⟩,h5⟩:=h;obtain⟨h6,h7⟩:=s_gl g h1;rw[wE];exact GZ b g.calm h6 (g.blt _ h2) h3 h4 (sEs es g h5)
  ·exact ff h
 |.lenSet a,Γ,cn,X,e,g,h=>by
  unfold chkE at h;split at h
  ·rename_i q_
   obtain⟨_,_,_,_,rfl⟩:=pF q_;simp only[YV,XO] at h;obtain⟨⟨⟨⟨⟨⟨⟨h1,h2⟩,rfl⟩,h3⟩,h4⟩,rfl⟩,h5⟩,h6⟩:=h;rw[wE];exact zN g.calm (s_gl g h1).1 (g.blt _ h2) (s_gl g h3).1 (g.blt _ h4) (sE a g h6) h5
  ·exact ff h
 |.lrg es,Γ,cn,X,e,g,h=>by
  unfold chkE at h;split at h
  ·rename_i q_
   obtain⟨_,_,_,_,rfl⟩:=pF q_;simp only[YV,XO] at h;obtain⟨⟨⟨⟨⟨⟨⟨h1,h2⟩,rfl⟩,h3⟩,h4⟩,rfl⟩,h5⟩,h6⟩:=h;rw[wE];exact C2 g.calm (s_gl g h1).1 (g.blt _ h2) (s_gl g h3).1 (g.blt _ h4) (sEs es g h6) h5
  ·rename_i q_
   obtain⟨_,_,_,_,rfl⟩:=pF q_;simp only[YV,XO] at h;obtain⟨⟨⟨⟨⟨⟨⟨⟨h1,h2⟩,rfl⟩,h3⟩,h4⟩,rfl⟩,h5⟩,h5'⟩,h6⟩:=h;rw[wE];exact C4 g.calm (s_gl g h1).1 (g.blt _ h2) (s_gl g h3).1 (g.blt _ h4) (sEs es g h6) h5 h5'
  ·exact ff h
 |.mt m o es,Γ,cn,X,e,g,h=>by
  unfold chkE at h;split at h
  ·simp only[YV,XO] at h
   obtain⟨⟨⟨⟨⟨⟨⟨rfl,h1⟩,h2⟩,h3⟩,h4⟩,h5⟩,h6⟩,h7⟩:=h;rw[wE];exact Fb g.hu m (sE o g h1) (sEs es g h7) h2 h3 h4 h5 h6
  ·exact ff h
 |.mt0 m o,Γ,cn,X,e,g,h=>by
  unfold chkE at h;split at h
  ·simp only[YV,XO] at h
   obtain⟨⟨⟨rfl,h1⟩,h2⟩,h3⟩:=h;rw[wE];exact CP g.hu m (sE o g h1) h2 h3
  ·exact ff h
 |.ix a b,Γ,cn,X,e,g,h=>by
  unfold chkE at h;split at h
  ·simp only[YV] at h
   rw[wE];exact GN g.hu (sE a g h.1.1) (sE b g h.1.2) h.2
  ·exact ff h
 |.sl a lo hi,Γ,cn,X,e,g,h=>by
  unfold chkE at h;split at h
  ·simp only[YV] at h
   rw[wE];exact GP (sE a g h.1.1) (sEo lo g h.1.2) (sEo hi g h.2)
  ·exact ff h
 |.lst es,Γ,cn,X,e,g,h=>by
  unfold chkE at h;split at h
  ·simp only[YV,XO] at h
   rw[wE];exact ER (sEs es g h.1) h.2
  ·exact ff h
 |.tup es,Γ,cn,X,e,g,h=>by
  unfold chkE at h;split at h
  ·simp only[YV,XO] at h
   rw[wE];exact EQ (sEs es g h.1) h.2
  ·exact ff h
 |.comp n el t i c,Γ,cn,X,e,g,h=>by
  unfold chkE at h;split at h
  ·simp only[YV,XO] at h
   obtain⟨⟨⟨⟨⟨⟨⟨h1,rfl⟩,rfl⟩,h2⟩,h3⟩,h4⟩,h5⟩,h6⟩:=h;rw[wE];exact CG (g.cscope h1) g.sc g.calm (sI i g h2) (λC s H0 ex pn=>s_tg (g.comp h1) h4) (λC s H0 ex pn=>sTo c (Γ:=inComp Γ _) (g.comp h1) h5) (λC s H0 ex pn=>sE el (Γ:=inComp Γ _) (g.comp h1) h6) h3
  ·exact ff h
 |.neg a,Γ,cn,X,e,g,h=>by
  unfold chkE at h;split at h
  ·rw[wE];exact Fc (sE a g h)
  ·exact ff h
 |.inv a,Γ,cn,X,e,g,h=>by
  unfold chkE at h;split at h
  ·rw[wE];exact Fd (sE a g h)
  ·exact ff h
 |.dnew,Γ,cn,X,e,g,h=>by
  unfold chkE at h;split at h
  ·rw[wE];exact CS
  ·exact ff h
 |.fld o f,Γ,cn,X,e,g,h=>by
  unfold chkE at h;split at h
  ·simp only[YV,XO] at h
   obtain⟨⟨h1,rfl⟩,h3⟩:=h;rw[wE];exact Ff g.flds (sE o g h1) h3
  ·exact ff h
 |.mu m o es,Γ,cn,X,e,g,h=>by
  unfold chkE at h;split at h
  ·simp only[YV,XO] at h
   obtain⟨⟨⟨⟨⟨⟨⟨rfl,h1⟩,h2⟩,h3⟩,h4⟩,h5⟩,h6⟩,h7⟩:=h;rw[wE];exact CW g.mts (sE o g h1) (sEs es g h7) h2 h3 h4 h5 h6
  ·exact ff h
 |.mu0 m o,Γ,cn,X,e,g,h=>by
  unfold chkE at h;split at h
  ·simp only[YV,XO] at h
   obtain⟨⟨⟨rfl,h1⟩,h2⟩,h3⟩:=h;rw[wE];exact Bc g.mts (sE o g h1) h2 h3
  ·exact ff h
theorem sP:∀(ir:Ps){Γ:Gam}{cn:Cn}{X:Cx}{ks:List (Option Expr)}{vs:Zg},GOk Γ cn X->chkP Γ ir ks vs=true->PPd X ks vs (wP cn ir)
 |.nil,Γ,cn,X,ks,vs,g,h=>by
  unfold chkP at h;split at h
  ·rw[wP];exact .nil
  ·exact ff h
 |.cons k v r,Γ,cn,X,ks,vs,g,h=>by
  unfold chkP at h;split at h
  ·simp only[YV] at h
   rw[wP];exact .cons (sE k g h.1.1) (sE v g h.1.2) (sP r g h.2)
  ·exact ff h
theorem sEs:∀(ir:Es){Γ:Gam}{cn:Cn}{X:Cx}{es:Zg},GOk Γ cn X->cg Γ ir es=true->PAd X es (wEs cn ir)
 |.nil,Γ,cn,X,es,g,h=>by
  unfold cg at h;split at h
  ·rw[wEs];exact EO
  ·exact ff h
 |.cons e r,Γ,cn,X,es,g,h=>by
  unfold cg at h;split at h
  ·simp only[YV] at h
   rw[wEs];exact Cz (sE e g h.1.1) (sEs r g h.2) h.1.2
  ·exact ff h
theorem sEo:∀(ir:Eo){Γ:Gam}{cn:Cn}{X:Cx}{e:Option Expr},GOk Γ cn X->sR Γ ir e=true->POd X e (wEo cn ir)
 |.no,Γ,cn,X,e,g,h=>by
  unfold sR at h;split at h
  ·rw[wEo];exact CK
  ·exact ff h
 |.yes a,Γ,cn,X,e,g,h=>by
  unfold sR at h;split at h
  ·rw[wEo];exact CL (sE a g h)
  ·exact ff h
theorem sTo:∀(ir:To){Γ:Gam}{cn:Cn}{X:Cx}{e:Zg},GOk Γ cn X->sU Γ ir e=true->PTsd X e (wTo cn ir)
 |.no,Γ,cn,X,e,g,h=>by
  unfold sU at h;split at h
  ·rw[wTo];exact .inl ⟨rfl,rfl⟩
  ·exact ff h
 |.yes a,Γ,cn,X,e,g,h=>by
  unfold sU at h;split at h
  ·rw[wTo];exact .inr ⟨_,rfl,sT a g h⟩
  ·exact ff h
theorem sT:∀(ir:T){Γ:Gam}{cn:Cn}{X:Cx}{e:Expr},GOk Γ cn X->chkT Γ ir e=true->PTd X e (wT cn ir)
 |.val a,Γ,cn,X,e,g,h=>by
  unfold chkT at h;rw[YV] at h;rw[wT];exact EN (sE a g h.1) (Bt h.2)
 |.cmp o a b,Γ,cn,X,e,g,h=>by
  unfold chkT at h;split at h
  ·simp only[YV,XO,Bool.not_eq_true'] at h
   obtain⟨⟨⟨rfl,h2⟩,h3⟩,h4⟩:=h;rw[wT];exact EI (yE g.hu o) (sE a g h2) (sE b g h3) h4
  ·exact ff h
 |.and a b,Γ,cn,X,e,g,h=>by
  unfold chkT at h;split at h
  ·rw[YV] at h
   rw[wT];exact(yv (sT a g h.1) (Cy (sT b g h.2))).pt
  ·rw[YV] at h
   rw[wT];exact(yv (sT a g h.1) (sV (sT b g h.2) (.inl ⟨_,_,rfl⟩))).pt
  ·exact ff h
 |.or a b,Γ,cn,X,e,g,h=>by
  unfold chkT at h;split at h
  ·rw[YV] at h
   rw[wT];exact(AN (sT a g h.1) (EK (sT b g h.2))).pt
  ·rw[YV] at h
   rw[wT];exact(AN (sT a g h.1) (sV (sT b g h.2) (.inr ⟨_,_,rfl⟩))).pt
  ·exact ff h
 |.not a,Γ,cn,X,e,g,h=>by
  unfold chkT at h;split at h
  ·rw[wT];exact EJ (sT a g h)
  ·exact ff h
theorem sI:∀(ir:I){Γ:Gam}{cn:Cn}{X:Cx}{tg e:Expr},GOk Γ cn X->chkI Γ ir tg e=true->PId X tg e (wI cn ir)
 |.seq a,Γ,cn,X,tg,e,g,h=>by
  unfold chkI at h;rw[wI];exact E1 (sE a g h)
 |.enum es,Γ,cn,X,tg,e,g,h=>by
  unfold chkI at h;split at h
  ·rename_i t_ q_
   obtain⟨_,_,_,rfl⟩:=wK t_;obtain⟨_,_,rfl⟩:=cC q_;simp only[YV,XO] at h;obtain⟨⟨⟨⟨h1,h2⟩,rfl⟩,h3⟩,h4⟩:=h;rw[wI];exact C9 (s_gl g h1).1 (g.blt _ h2) (sEs es g h4) h3
  ·exact ff h
 |.enumS es k,Γ,cn,X,tg,e,g,h=>by
  unfold chkI at h;split at h
  ·rename_i t_ q_
   obtain⟨_,_,_,rfl⟩:=wK t_;obtain⟨_,_,rfl⟩:=cC q_;simp only[YV,XO] at h;obtain⟨⟨⟨⟨⟨⟨h1,h2⟩,rfl⟩,h3⟩,h4⟩,rfl⟩,h5⟩:=h;rw[wI];exact Bq (s_gl g h1).1 (g.blt _ h2) (sEs es g h4) (sE k g h5) h3
  ·exact ff h
 |.rg1 es,Γ,cn,X,tg,e,g,h=>by
  unfold chkI at h;split at h
  ·rename_i q_
   obtain⟨_,_,rfl⟩:=cC q_;simp only[YV,XO] at h;obtain⟨⟨⟨⟨h1,h2⟩,rfl⟩,h3⟩,h4⟩:=h;rw[wI];exact zB (s_gl g h1).1 (g.blt _ h2) (sEs es g h4) h3
  ·exact ff h
 |.rg2 es,Γ,cn,X,tg,e,g,h=>by
  unfold chkI at h;split at h
  ·rename_i q_
   obtain⟨_,_,rfl⟩:=cC q_;simp only[YV,XO] at h;obtain⟨⟨⟨⟨⟨h1,h2⟩,rfl⟩,h3⟩,h3'⟩,h4⟩:=h;rw[wI];exact zC (s_gl g h1).1 (g.blt _ h2) (sEs es g h4) h3 h3'
  ·exact ff h
end
theorem zZ{y:Str}{py sp pos:Pos}{elt:Expr}{gs:List Comprehension}{sc:Scope}(g:GOk Γ cn X)(h1:Γ.sc.names.lookup y=some .local)(h2:(py.line==pos.line)=true)(h3:(sc.names.any λ(p:Str×NameKind)=>p.1==y&&(p.2==.local || p.2==.cell))=false):
  swapsWith (.ListComp elt gs sc pos) (some (.Name y py)) sp.line X.env=pure true:=by
 show pure (X.env.blockKind==.function&&X.env.kindOf y==some .local && py.line==pos.line && !(sc.names.any λ(p:Str×NameKind)=>p.1==y&&(p.2==.local || p.2==.cell)))=(pure true:Sem Bool);have e1:X.env.blockKind=.function:=by
  unfold Env.blockKind;rw[g.sc,g.kind];rfl
 have e2:X.env.kindOf y=some .local:=by show X.env.scope.names.lookup y=_;rw[g.sc];exact h1
 rw[e1,e2,h2,h3];rfl
theorem z0{y:Str}{py:Pos}{n:Nat}(g:GOk Γ cn X)(h1:Γ.sc.names.lookup y=some .cell)(v:Expr):swapsWith v (some (.Name y py)) n X.env=pure false:=by
 have e2:X.env.kindOf y=some .cell:=by show X.env.scope.names.lookup y=_;rw[g.sc];exact h1
 have e3:(some NameKind.cell==some NameKind.local)=false:=rfl;have key:∀(b c d:Bool),(b&&X.env.kindOf y==some .local && c&&d)=false:=λb c d=>by rw[e2,e3,Bool.and_false,Bool.false_and,Bool.false_and]
 cases v<;>first | rfl | exact congrArg pure (key _ _ _)
theorem Dc{t:WE}{i:Nat}{x:Str}{pos pos':Pos}{e:Expr}(hN:X.N.Nodup)(hi:X.N[i]?=some x)(hx:Loc X.env.scope x)(hf:X.fn x=true\/X.env.scope.names.lookup x=some .local)(hc:swapsWith e (some (.Name x pos')) pos.line X.env=pure false)(h:PEd X e t):
  PSd X (.Assign [.Name x pos'] e pos) (wSet i t):=by
 intro σ M ρ H D rs rm q;refine dm (FV hN hi hx (pe_W e) hc hf) ?_;show tW X e ρ H _;refine aG (h σ M ρ H _ rs rm q) λv H1 z=>?_
 obtain⟨k1,d,M1,r1,m1,q1⟩:=z;exact⟨k1,σ.set i (some d),M1,(rs.mono k1).set i r1,m1,q1⟩
theorem Bu{tg v:Expr}{n:Nat}{env:Env}(h:dA v=true):swapsWithSole [tg] v n env=pure false:=sk h
theorem Dd{es:Zg}{k:Nat}{p:Pos}{v:Expr}{n:Nat}{env:Env}(h:dA v=true)(h':yQ v=true):swapsWithSole [.Tuple es k p] v n env=pure false/\swappedStores [.Tuple es k p] v env=pure none:=by
 refine⟨Bu h,?_⟩;cases v<;>first | rfl | exact ff h'
theorem Bv{c:Expr}{body:Zu}{tc:WT}{tb:WS}(hp:PassesOwn 'c' X.A X.env X.xe)(hc:PTd X c tc)(hb:PSsd X body tb):PSd X (.While c body [] pos) (sM tc tb):=by
 intro σ M ρ H E rs rm q;obtain⟨W,⟨m0,w0⟩,step⟩:=q;refine dm (Cc hp (pt_W c) (nX body)) ?_;refine⟨λm ρ' H'=>Kp H H'/\∃σ' M',RS X.K H' σ' ρ'/\RM X.K M' H'/\W m σ' M',⟨m0,Kp.refl H,σ,M,rs,rm,w0⟩,?_⟩;rintro m ρ' H' ⟨k,σ',M',rs',rm',w'⟩;refine fY (hc σ' M' ρ' H' _ rs' rm' (step m σ' M' w')) λb H1 zz1=>?_
 obtain⟨k1,M1,m1,q1⟩:=zz1;cases b with
 |true=>
  obtain⟨N,hN,q2⟩:=q1;refine⟨λρ2 H2=>Kp H H2/\∃σ2 M2,RS X.K H2 σ2 ρ2/\RM X.K M2 H2/\N σ2 M2,λρ2 H2 ⟨k2,σ2,M2,a,b,n⟩=>let⟨m',h1,h2⟩:=hN σ2 M2 n;⟨m',h1,k2,σ2,M2,a,b,h2⟩,?_⟩;refine dR (hb σ' M1 ρ' H1 _ (rs'.mono k1) m1 q2) ⟨λρ4 H4 zz2=>?_,λ_ _=>bK (k.trans k1),λ_ _=>kL (k.trans k1),λρ4 H4 ⟨k4,σ4,M4,a,b,c⟩=>⟨(k.trans k1).trans k4,σ4,M4,a,b,c⟩⟩;obtain⟨k4,σ4,M4,a,b,c⟩:=zz2;exact⟨(k.trans k1).trans k4,σ4,M4,a,b,c⟩
 |false=>exact⟨k.trans k1,σ',M1,rs'.mono k1,m1,q1⟩
mutual
theorem sS:∀(ir:S){Γ:Gam}{cn:Cn}{X:Cx}{st:Stmt},GOk Γ cn X->chkS Γ ir st=true->PSd X st (wS cn ir)
 |.set i e,Γ,cn,X,st,g,h=>by
  unfold chkS at h;split at h
  ·simp only[YV] at h
   obtain⟨a,b,c,d⟩:=zY g h.1.1;rw[wS];refine Dc a b c d ?_ (sE e g h.2);rcases Bool.or_eq_true_iff.1 h.1.2 with z | z
   ·exact sk z
   ·exact z0 g (XM z) _
  ·exact ff h
 |.setC i n e t j c,Γ,cn,X,st,g,h=>by
  unfold chkS at h;split at h
  ·simp only[YV,XO,Bool.not_eq_true'] at h
   obtain⟨⟨⟨⟨⟨⟨⟨⟨⟨⟨⟨a1,a2⟩,a3⟩,a4⟩,h1⟩,rfl⟩,rfl⟩,h2⟩,h3⟩,h4⟩,h5⟩,h6⟩:=h;rw[wS];exact CH (g.cscope h1) g.sc g.calm (by rw[g.N];exact g.nd) (by rw[g.N];exact a1) (by rw[g.sc];exact a2) (sI j g h2) (λC s H0 ex pn=>s_tg (g.comp h1) h4)
    (λC s H0 ex pn=>sTo c (Γ:=inComp Γ _) (g.comp h1) h5) (λC s H0 ex pn=>sE e (Γ:=inComp Γ _) (g.comp h1) h6) h3 (zZ g a2 a3 a4)
  ·exact ff h
 |.asg t e,Γ,cn,X,st,g,h=>by
  unfold chkS at h;split at h
  ·simp only[YV] at h
   obtain⟨⟨⟨h1,h2⟩,h3⟩,h4⟩:=h;obtain⟨q1,q2⟩:=Dd h2 h3;rw[wS];exact EX (sE e g h4) (s_tg g h1) q1 q2 rfl
  ·exact ff h
 |.expr e,Γ,cn,X,st,g,h=>by
  unfold chkS at h;split at h
  ·simp only[YV] at h
   rw[wS];exact CF (sE e g h.2) h.1
  ·exact ff h
 |.ret e,Γ,cn,X,st,g,h=>by
  unfold chkS at h;split at h
  ·rw[wS];exact EV (sE e g h)
  ·exact ff h
 |.ite t a b,Γ,cn,X,st,g,h=>by
  unfold chkS at h;split at h
  ·simp only[YV] at h
   rw[wS];exact GD (sT t g h.1.1) (sSs a g h.1.2) (sSs b g h.2)
  ·exact ff h
 |.for t j b,Γ,cn,X,st,g,h=>by
  unfold chkS at h;split at h
  ·simp only[YV] at h
   rw[wS];exact E2 g.own g.calm (sI j g h.1.1.2) (s_tg g h.1.1.1) (sSs b g h.2) h.1.2
  ·exact ff h
 |.brk,Γ,cn,X,st,g,h=>by
  unfold chkS at h;split at h
  ·rw[wS];exact AV
  ·exact ff h
 |.pass,Γ,cn,X,st,g,h=>by
  unfold chkS at h;split at h
  ·rw[wS];exact CD
  ·exact ff h
 |.never,Γ,cn,X,st,g,h=>by rw[wS];exact AW
 |.putIx o i e,Γ,cn,X,st,g,h=>by
  unfold chkS at h;split at h
  ·simp only[YV] at h
   rw[wS];exact Bb g.hu (sE e g h.1.1.2) (sE o g h.1.1.1.1) (sE i g h.1.1.1.2) h.1.2 h.2
  ·exact ff h
 |.setF o f e,Γ,cn,X,st,g,h=>by
  unfold chkS at h;split at h
  ·simp only[YV,XO] at h
   obtain⟨⟨h1,rfl⟩,h3⟩:=h;rw[wS];exact CU g.flds (sE o g h1) (sE e g h3)
  ·exact ff h
 |.while t b,Γ,cn,X,st,g,h=>by
  unfold chkS at h;split at h
  ·simp only[YV] at h
   rw[wS];exact Bv g.own (sT t g h.1) (sSs b g h.2)
  ·exact ff h
theorem sSs:∀(ir:Ss){Γ:Gam}{cn:Cn}{X:Cx}{st:Zu},GOk Γ cn X->cr Γ ir st=true->PSsd X st (wSs cn ir)
 |.nil,Γ,cn,X,st,g,h=>by
  unfold cr at h;split at h
  ·rw[wSs];exact CC
  ·exact ff h
 |.cons s r,Γ,cn,X,st,g,h=>by
  unfold cr at h;split at h
  ·simp only[YV] at h
   rw[wSs];exact AU (sS s g h.1) (sSs r g h.2)
  ·exact ff h
end
end
section
variable {P:Zw}{w:World}{K:Za}{mg:Ze}{base:Heap}
structure Names (P:Zw) (w:World) (K:Za) (mg:Ze) (base:Heap) (k:Nat) (glob:Zf) (blt:Zf) (fns:Zf) (cn:Cn):Prop where
 glob:∀(j:Nat) x,glob[j]?=some x->ph K mg x (cn.G.getD j .non)
 blt:∀x,blt.contains x=true->mg x=none
 fns:∀(j:Nat) x,fns[j]?=some x->∃k',k'<=k/\cJ P w K mg base k' x (cn.F.getD j λ_ _ _=>False)
 flds:∀C f,cn.O C f->Cls K C/\bZ K C f
 mts:∀C m sp,cn.T C m=some sp->∃k',k'<=k/\aJ P w K mg base k' C m sp
 isi:∀C d b,cn.I C d=some b->IsiOk K C d b
theorem G5{x:Str}{st:Stmt}{ps N:Zf}{f:Addr}{fd:Zv}{k:Nat}{sp:SpD}{ir:Ss}{glob:Zf}{blt:Zf}{fns:Zf}{cn:Cn}(D0:IsDef K mg x st ps f fd)(S:FnScope N ps (av st))(nm:Names P w K mg base k glob blt fns cn)
  (hc:cr ⟨N,av st,true,glob,blt,fns⟩ ir (aK st)=true) (len:∀ds M Q,sp ds M Q->ds.length=ps.length)
  (h:∀ds M Q,sp ds M Q->wSs cn ir { nx:=λ_ M'=>Q .non M',rt:=Q } (af N ds) M):FnD P w K mg base (k+1) x sp:=by
 refine fnD D0 S len (λcdv A outer s H E hr=>?_) h;exact sSs ir (Γ:=⟨N,av st,true,glob,blt,fns⟩) ⟨rfl,rfl,S.kind,S.nd,rfl,λ_ _=>rfl,PassesOwn.never,nm.glob,nm.blt,λj x e=>let⟨k',h1,h2⟩:=nm.fns j x e;⟨k',h2,hr.mono h1⟩,nm.flds,λC m sp e=>let⟨k',h1,h2⟩:=nm.mts C m sp e;⟨k',h2,hr.mono h1⟩,nm.isi,XF (Nat.add_le_add_left (by decide:40<=64) _) hr.units⟩ hc
theorem wL{x qual:Str}{st:Stmt}{ps N:Zf}{f:Addr}{fd:Zv}{k:Nat}{sp:SpD}{ir:Ss}{glob:Zf}{blt:Zf}{fns:Zf}{cn:Cn}(D0:Fun K x qual st f fd)(S:FnScope N ps (av st))(nm:Names P w K mg base k glob blt fns cn)
  (hc:cr ⟨N,av st,true,glob,blt,fns⟩ ir (aK st)=true) (len:∀ds M Q,sp ds M Q->ds.length=ps.length)
  (h:∀ds M Q,sp ds M Q->wSs cn ir { nx:=λ_ M'=>Q .non M',rt:=Q } (af N ds) M):FnOk P w K mg base CX0 (k+1) f fd ps (gD K sp):=by
 refine D0.ok S (λvs H Q E ⟨ds,M,Q0,r,_,s,_⟩=>by rw[←r.len];exact len ds M Q0 s) λcdv A outer s H vs Q E hr ⟨ds,M,Q0,r,m,sq,f0⟩=>⟨tWSs _ _,nX _,?_⟩
 have hb:=sSs ir (Γ:=⟨N,av st,true,glob,blt,fns⟩) (X:=(cxOf CX0 P w K mg base N qual (av st) f cdv A outer s H E).nox) ⟨rfl,rfl,S.kind,S.nd,rfl,λ_ _=>rfl,PassesOwn.never,nm.glob,nm.blt,λj x e=>let⟨k',h1,h2⟩:=nm.fns j x e;⟨k',h2,hr.mono h1⟩,nm.flds,λC m sp e=>let⟨k',h1,h2⟩:=nm.mts C m sp e;⟨k',h2,hr.mono h1⟩,nm.isi,XF (Nat.add_le_add_left (by decide:40<=64) _) hr.units⟩ hc;refine dR (hb (af N ds) M (L2.start N vs) H _ (wl r) m (h ds M Q0 sq)) ⟨λρ' H' zz5=>?_,λv H' ⟨k',d,M',r',m',q⟩=>f0 _ _ _ _ q k' r' m',λ_ _ ⟨_,_,_,_,_,q⟩=>q,λ_ _ ⟨_,_,_,_,_,q⟩=>q⟩;obtain⟨k',σ',M',_,m',q⟩:=zz5;exact f0 _ _ _ _ q k' (RV.non_.2 rfl) m'
end
section
variable {P:Zw}{w:World}{K:Za}{mg:Ze}{base:Heap}{k:Nat}
theorem ae{F:List SpD}:∀(j:Nat) (x:Str),([]:List Str)[j]?=some x->∃k',k'<=k/\cJ P w K mg base k' x (F.getD j λ_ _ _=>False):=λj x e=>by simp at e
theorem ab{y:Str}{ys:Zf}{sp:SpD}{F:List SpD}{k1:Nat}(h1:k1<=k)(h:cJ P w K mg base k1 y sp)(t:∀(j:Nat) (x:Str),ys[j]?=some x->∃k',k'<=k/\cJ P w K mg base k' x (F.getD j λ_ _ _=>False)):
  ∀(j:Nat) (x:Str),(y::ys)[j]?=some x->∃k',k'<=k/\cJ P w K mg base k' x ((sp::F).getD j λ_ _ _=>False):=λj x e=>by
 cases j with
 |zero=>
  have:y=x:=by simpa using e
  subst this;exact⟨k1,h1,h⟩
 |succ j=>exact t j x (by simpa using e)
theorem De{C:Addr}{m qual:Str}{st:Stmt}{ps N:Zf}{f:Addr}{fd:Zv}{sp:SpD}{ir:Ss}{glob:Zf}{blt:Zf}{fns:Zf}{cn:Cn}(cl:Cls K C)(A:MethAt K C m qual st f fd)(S:FnScope N ps (av st))(nm:Names P w K mg base k glob blt fns cn)
  (hb:∀(kV doc pm:Value) (an:Zm) (cdv ct:Value) (us:Zd),us.length=ps.length->bindArgs (PySem.W.fnOf m qual (bo st) (aK st) (av st) .none kV doc pm an cdv ct) ⟨us,[]⟩=pure (ps.zip us))
  (hc:cr ⟨N,av st,true,glob,blt,fns⟩ ir (aK st)=true) (len:∀ds M Q,sp ds M Q->ds.length=ps.length)
  (h:∀ds M Q,sp ds M Q->wSs cn ir { nx:=λ_ M'=>Q .non M',rt:=Q } (af N ds) M):aJ P w K mg base (k+1) C m sp:=
 ⟨f,fd,ps,cl,A.meth,A.fun_.binds hb,wL A.fun_ S nm hc len h⟩
theorem G6{x:Str}{C:Addr}{qual:Str}{st:Stmt}{ps N:Zf}{f:Addr}{fd:Zv}{sp:SpD}{ir:Ss}{glob:Zf}{blt:Zf}{fns:Zf}{cn:Cn}(hx:mg x=some (.ref C))(hm:PySem.W.makesIn K C=true)(hk:PySem.W.keepIn K (.ref C)=true)(A:MethAt K C "__init__" qual st f fd)
  (S:FnScope N ps (av st)) (nm:Names P w K mg base k glob blt fns cn)
  (hb:∀(kV doc pm:Value) (an:Zm) (cdv ct:Value) (us:Zd),us.length=ps.length->bindArgs (PySem.W.fnOf "__init__" qual (bo st) (aK st) (av st) .none kV doc pm an cdv ct) ⟨us,[]⟩=pure (ps.zip us))
  (hc:cr ⟨N,av st,true,glob,blt,fns⟩ ir (aK st)=true) (len:∀ds M Q,sp ds M Q->ds.length=ps.length)
  (h:∀ds M Q,sp ds M Q->wSs cn ir { nx:=λ_ M'=>Q .non M',rt:=Q } (af N ds) M):cJ P w K mg base (k+2) x (a9 C sp):=
 .inr ⟨k+1,rfl,C,f,fd,ps,sp,⟨hm,A.at_,A.fn,hk⟩,hx,A.fun_.binds hb,wL A.fun_ S nm hc len h,rfl⟩
end
theorem DefAt.fun_{K:Za}{x:Str}{st:Stmt}{f:Addr}{fd:Zv}(A:DefAt K x st f fd):Fun K x x st f fd:=by
 obtain⟨oc,od,an,osl,kV,doc,pm,cdv,ct,a,rfl,l,c,k⟩:=A.ex;exact vX l c k
end DD
open PySem L2 DD
local macro_rules
  | `(#v[]) => `(.nil)
  | `(#v[$x]) => `(.cons $x .nil)
  | `(#v[$x, $xs,*]) => `(.cons $x #v[$xs,*])
local macro_rules
  | `(~~~$x) => `(some (DD.D.int ($x : Int)))
local macro_rules
  | `(↑$x) => `(some (DD.D.ref $x))
local macro_rules
  | `(⇑$x) => `(DD.D.int ($x : Int))
local macro_rules
  | `(tactic| simp! only [$ts,*]) => `(tactic| simp only [wSs, wS, wE, wEs, wEo, wTo, wT, wI, wP, wSeq, sj, wIfS, zq, wTru, wOp, wAnd, wOr, wNot, zr, wOrV, zt, wIf, wRet, wSet, wAsg, zx, zv, fK, wMt, wSl, wLst, wTup, wNil, zu, wNeg, wFor, zy, zz, zA, zS, zE, zF, ww, wFld, zK, sF, H9, getS, qc, truD, intD, optD, sm, setM, dBin, dCmp, dIB, dLt, dI, dI0, dMul, dAdd, dBi, dLen, ql, dAll, dII, sx, sy, dMt, mtRc, zI, qp, qr, dIx, dSl, dPut, dEqV, dNeV, dIsV, uh, dInV, ug, dInP, dEq, vK, isW, zG, isBl, isB, seqD, fldD, zJ, vM, keyD, ui, lstD, qt, wG, dBj, dSum, wLrg, rngD, dPop, sB, sC, aH, ao, XQ, List.getElem?_cons_succ, $ts,*])
namespace SH
open PySem L2 DD
abbrev fin(Q:DK):EndsD:={ nx:=λ_ M'=>Q .non M',rt:=Q }
def Ext(M M':MH):Prop:=∀a o,M a=some o->M' a=some o
theorem Ext.refl(M:MH):Ext M M:=λ_ _ h=>h
theorem Ext.trans{M M' M'':MH}(a:Ext M M')(b:Ext M' M''):Ext M M'':=λc o h=>b c o (a c o h)
theorem Ext.new{M:MH}{p:Addr}{o:MO}(h:M p=none):Ext M (updM M p o):=λa u e=>by
 rw[aB (λz=>by subst z;rw[h] at e;cases e)];exact e
theorem Ext.then{M M':MH}{p:Addr}{o:MO}(e:Ext M M')(h:M' p=none):Ext M (updM M' p o):=e.trans (Ext.new h)
def ExtBut(p:Addr)(M M':MH):Prop:=∀a o,a≠p->M a=some o->M' a=some o
theorem bX{g:MH->Prop}{t:Tgt}{c:WT}{e:WE}{F:List D->MH->Prop}{f:D->D}{ok:DS->Prop}{M:MH}:∀{xs:List D}(acc:List D) (σ:DS),ok σ ->
  (∀x∈xs,∀σ acc rest,ok σ->(∀σ',ok σ'->ax g t c e F rest (acc++[f x]) σ' M)->ax g t c e F (x::rest) acc σ M)->F (acc++xs.map f) M->ax g t c e F xs acc σ M
 |[],acc,σ,_,_,q=>by
  rw[YW,ZA] at q;exact q
 |x::xs,acc,σ,h,st,q=>st x ZY σ acc xs h λσ' h'=>bX (acc++[f x]) σ' h' (λy hy=>st y (.tail _ hy)) (by simpa using q)
theorem mD{g:MH->Prop}{t:Tgt}{c:WT}{e:WE}{F:List D->MH->Prop}{p:D->Bool}{ok:DS->Prop}{M:MH}:∀{xs:List D}(acc:List D) (σ:DS),ok σ ->
  (∀x∈xs,∀σ acc rest,ok σ->(∀σ',ok σ'->ax g t c e F rest (acc++cond (p x) [x] []) σ' M)->ax g t c e F (x::rest) acc σ M)->F (acc++xs.filter p) M->ax g t c e F xs acc σ M
 |[],acc,σ,_,_,q=>by
  rw[List.filter_nil,ZA] at q;exact q
 |x::xs,acc,σ,h,st,q=>st x ZY σ acc xs h λσ' h'=>mD (acc++cond (p x) [x] []) σ' h' (λy hy=>st y (.tail _ hy)) (by
  rw[XT] at q;cases e:p x with
  |true=>rw[e] at q;simpa using q
  |false=>rw[e] at q;simpa using q)
theorem at0{α:Type}(x:α)(xs:List α):atI (x::xs) 0=some x:=cN (j:=0) rfl
theorem at1{α:Type}(x y:α)(xs:List α):atI (x::y::xs) 1=some y:=cN (j:=1) rfl
theorem at2{α:Type}(x y z:α)(xs:List α):atI (x::y::z::xs) 2=some z:=cN (j:=2) rfl
theorem ah(x:Str):aM (.str x)=true:=rfl
theorem ai(x:Int):aM (.int x)=true:=rfl
theorem al(x:Bool):aM (.bl x)=true:=rfl
theorem aj(x:Str):depD (.str x)=0:=rfl
theorem ag(x:Int):depD (.int x)=0:=rfl
theorem am(x:Bool):depD (.bl x)=0:=rfl
theorem ad(x y:Int):eqD (.int x) (.int y)=(x==y):=by rw[eqD]
theorem ac(x y:Str):eqD (.str x) (.str y)=(x==y):=by rw[eqD]
def bitZ(h f:Int):Int:=h / 2 ^ f.toNat%2
theorem yR(h f:Int):bitZ h f=0\/bitZ h f=1:=by unfold bitZ;omega
def hasB(h f:Int):Bool:=bitZ h f==1
theorem wM(h f:Int):(bitZ h f==0) = !hasB h f:=by
 unfold hasB;rcases yR h f with e | e<;>rw[e]<;>rfl
def intL(fs:Zi):List D:=fs.map .int
def bits(h:Int)(fs:Zi):List D:=fs.map λf=>.int (bitZ h f)
def cntB(fs:Zi)(h:Int):Nat:=(fs.filter (hasB h)).length
theorem Bw(f:Int)(fs:Zi)(h:Int):cntB (f::fs) h=(if hasB h f=true then 1 else 0)+cntB fs h:=by
 unfold cntB;rw[XT];split<;>simp<;>omega
theorem rl(h:Int):∀(fs:Zi),cntD (bits h fs)=some (fs.map (bitZ h))
 |[]=>rfl
 |f::fs=>by
  show Option.map _ (cntD (bits h fs))=_;rw[rl h fs];rfl
theorem rp(h:Int):∀(fs:Zi),(fs.map (bitZ h)).sum=((cntB fs h:Nat):Int)
 |[]=>rfl
 |f::fs=>by
  rw[YJ,List.sum_cons,rp h fs,Bw];unfold hasB;rcases yR h f with e | e<;>simp[e]
theorem qx{fs:Zi}{k:Nat}(h:k<fs.length):atI (intL fs) (k:Int)=some (.int (fs.getD k 0)):=by
 refine cN ?_;unfold intL;rw[ZF,ZC h];simp[List.getD,ZC h]
theorem cutK{α:Type}(xs:List α)(k:Nat):cutL xs none (some (k:Int))=xs.take k:=by
 unfold cutL;rw[HT.Ek,HT.Ck];simp
theorem ku(fs:Zi)(k:Nat):cutL (intL fs) none (some (k:Int))=intL (fs.take k):=by rw[cutK];unfold intL;rw[List.map_take]
theorem rq(fs:Zi):(intL fs).length=fs.length:=by unfold intL;rw[ZE]
inductive CT where
 |hav (f:Int) | lck (f:Int) | som (n:Int) (fs:Zi) | led (fs:Zi) (k:Nat)
def CT.ok:CT->Prop
 |.hav f=>0<=f/\f<120
 |.lck f=>0<=f/\f<120
 |.som _ fs=>(0<fs.length/\fs.length<=6)/\∀f∈fs,0<=f/\f<120
 |.led fs k=>(k<fs.length/\fs.length<=6)/\∀f∈fs,0<=f/\f<120
def CT.told:CT->D
 |.hav f=>.tup [.str "have",.int f]
 |.lck f=>.tup [.str "lack",.int f]
 |.som n fs=>.tup [.str "some",.int n,.tup (intL fs)]
 |.led fs k=>.tup [.str "lead",.tup (intL fs),.int k]
def CT.flds:CT->List (Str×D)
 |.hav f=>[("fact",.int f)]
 |.lck f=>[("fact",.int f)]
 |.som n fs=>[("number",.int n),("facts",.tup (intL fs))]
 |.led fs k=>[("facts",.tup (intL fs)),("at",.int k)]
def CT.kind:CT->Nat
 |.hav _=>0
 |.lck _=>1
 |.som _ _=>2
 |.led _ _=>3
def CT.carried(h m:Int):CT->Bool
 |.hav f=>hasB h f
 |.lck f=>!hasB m f
 |.som n fs=>decide (n<=((cntB fs h:Nat):Int))
 |.led fs k=>hasB h (fs.getD k 0)&&(((cntB (fs.take k) m:Nat):Int)==0)
def CT.blocked(h m:Int):CT->Bool
 |.hav f=>!hasB m f
 |.lck f=>hasB h f
 |.som n fs=>decide (((cntB fs m:Nat):Int)<n)
 |.led fs k=>!hasB m (fs.getD k 0)||decide (0<((cntB (fs.take k) h:Nat):Int))
def b0(b:Bool)(f:Int):D:=.tup [.int f,.bl b]
def CT.leans:CT->List D
 |.hav f=>[b0 false f]
 |.lck f=>[b0 true f]
 |.som _ fs=>fs.map (b0 false)
 |.led fs k=>(fs.take k).map (b0 true)++[b0 false (fs.getD k 0)]
structure CA where
 h:Addr
 l:Addr
 s:Addr
 d:Addr
def CA.at(c:CA):Nat->Addr
 |0=>c.h
 |1=>c.l
 |2=>c.s
 |_=>c.d
def CT.obj(c:CA)(t:CT):MO:=.ins (c.at t.kind) t.flds
theorem CT.kind_lt(t:CT):t.kind<4:=by
 cases t with
 |hav _=>exact(by decide:(0:Nat)<4)
 |lck _=>exact(by decide:(1:Nat)<4)
 |som _ _=>exact(by decide:(2:Nat)<4)
 |led _ _=>exact(by decide:(3:Nat)<4)
theorem uj{fs:Zi}{k:Nat}(h:k<fs.length)(hf:∀f∈fs,0<=f/\f<120):0<=fs.getD k 0:=by
 have:fs.getD k 0=fs[k]:=by simp[List.getD,ZC h]
 rw[this];exact(hf _ (List.getElem_mem h)).1
def aZ:SpD:=λds M Q=>∃h f:Int,ds=[.int h,.int f]/\0<=f/\Q (.bl (hasB h f)) M
def dB:SpD:=λds M Q=>∃(fs:Zi) (h:Int),ds=[.tup (intL fs),.int h]/\(∀f∈fs,0<=f)/\∀M',Ext M M'->Q (.int (cntB fs h:Nat)) M'
def bF(c:CA)(k:Nat):SpD:=λds M Q=>∃(a:Addr) (t:CT) (h m:Int),t.kind=k/\t.ok/\ds=[.ref a,.int h,.int m]/\M a=some (t.obj c)/\∀M',Ext M M'->Q (.bl (t.carried h m)) M'
def bG(c:CA)(k:Nat):SpD:=λds M Q=>∃(a:Addr) (t:CT) (h m:Int),t.kind=k/\t.ok/\ds=[.ref a,.int h,.int m]/\M a=some (t.obj c)/\∀M',Ext M M'->Q (.bl (t.blocked h m)) M'
def bH(c:CA)(k:Nat):SpD:=λds M Q=>∃(a:Addr) (t:CT),t.kind=k/\t.ok/\ds=[.ref a]/\M a=some (t.obj c)/\∀p M',M p=none->Ext M M'->M' p=some (.lst t.leans)->Q (.ref p) M'
def bQ(c:CA)(k:Nat):SpD:=λds M Q=>∃(a:Addr) (t:CT),t.kind=k/\ds=.ref a::t.flds.map (·.2)/\M a=some (.ins (c.at k) [])/\∀M',(∀b,b≠a->M' b=M b)->M' a=some (t.obj c)->Q .non M'
def kindAt(c:CA)(a:Addr):Option Nat:=if a=c.h then some 0 else if a=c.l then some 1 else if a=c.s then some 2 else if a=c.d then some 3 else none
def CA.apart(c:CA):Prop:=∀k,k<4->kindAt c (c.at k)=some k
def gb:List Str:=["fact","number","facts","at"]
def fldO(c:CA):OK0:=λa f=>∃k,k<4/\a=c.at k/\f∈gb
theorem aR(c:CA){k:Nat}{f:Str}(hk:k<4)(h:f∈gb):fldO c (c.at k) f:=⟨k,hk,rfl,h⟩
def mE:Ss:=#v[.ret (.cmp .Eq (.bin .BitAnd (.bin .RShift (.var 0) (.var 1)) (.int 1)) (.int 1))]
def mF:Ss:=#v[.ret (.bi .len #v[.comp 1 (.var 2) (.nm 2) (.seq (.var 0)) (.yes (.val (.fn 0 #v[.var 1,.var 2])))])]
section
variable {cn:Cn}
theorem xS{ds:List D}{M:MH}{Q:DK}(h:aZ ds M Q):wSs cn mE (fin Q) (af ["",""] ds) M:=by
 obtain⟨x,f,rfl,hf,q⟩:=h;show wSs cn mE (fin Q) [some (.int x),some (.int f)] M;unfold mE;simp! only[];refine⟨hf,⟨rfl,rfl,(by decide:(0:Nat)<=30)⟩,?_⟩;rw[PyProof.Rows.bitAnd_m1];exact q
theorem xT{ds:List D}{M:MH}{Q:DK}(f0:cn.F.getD 0 Yl=aZ)(h:dB ds M Q):wSs cn mF (fin Q) (af ["",""] ds) M:=by
 obtain⟨fs,x,rfl,hf,q⟩:=h;show wSs cn mF (fin Q) [some (.tup (intL fs)),some (.int x)] M;unfold mF;simp! only[f0];refine mD (p:=λd=>match d with | .int f=>hasB x f | _=>false) (ok:=λσ=>∃v,σ=[some (.tup (intL fs)),some (.int x),v]) [] _ ⟨none,rfl⟩ ?_ ?_
 ·intro d hd σ acc rest ⟨v,hv⟩ k
  subst hv;obtain⟨f,hfm,rfl⟩:=XU.1 hd;refine⟨x,f,rfl,hf f hfm,?_⟩;have k1:=k _ ⟨some (.int f),rfl⟩;show Bif (hasB x f) _ _;dsimp only at k1;cases hb:hasB x f with
  |true=>rw[hb] at k1;exact⟨trivial,k1⟩
  |false=>rw[hb] at k1;exact⟨trivial,by simpa using k1⟩
 ·intro p hp
  rw[aa];have e:([]++(intL fs).filter (λ(d:D)=>match d with | .int f=>hasB x f | _=>false)).length=cntB fs x:=by
   unfold intL cntB;rw[XA,List.filter_map,ZE];rfl
  dsimp only;rw[e];exact q _ (Ext.new hp)
end
end SH
local macro_rules
  | `(tactic| simp_all! only [$ts,*]) => `(tactic| simp! only [SH.ah,SH.ai,SH.al,SH.aj,SH.ag,SH.am,SH.ad,SH.ac,YL,and_self,true_and,and_true,$ts,*])
namespace SH
open PySem L2 DD
theorem kx(x:D):List.lookup ("fact" : Str) [("fact",x)]=some x:=rfl
theorem lF(x y:D):List.lookup ("number" : Str) [("number",x),("facts",y)]=some x:=rfl
theorem rz(x y:D):List.lookup ("facts" : Str) [("number",x),("facts",y)]=some y:=rfl
theorem gy(x y:D):List.lookup ("facts" : Str) [("facts",x),("at",y)]=some x:=rfl
theorem qy(x y:D):List.lookup ("at" : Str) [("facts",x),("at",y)]=some y:=rfl
theorem gz:("fact" : Str)∈gb:=by rfl'
theorem pG:("number" : Str)∈gb:=by rfl'
theorem cc:("facts" : Str)∈gb:=by rfl'
theorem n0:("at" : Str)∈gb:=by rfl'
def cR:Ss:=#v[.setF (.var 0) "fact" (.var 1)]
def bS:Ss:=#v[.ret (.fn 0 #v[.var 1,.fld (.var 0) "fact"])]
def bU:Ss:=#v[.ret (.not (.fn 0 #v[.var 2,.fld (.var 0) "fact"]))]
def gL:Ss:=#v[.ret (.lst #v[.tup #v[.fld (.var 0) "fact",.bl false]])]
def gM:Ss:=#v[.ret (.lst #v[.tup #v[.fld (.var 0) "fact",.bl true]])]
def m7:Ss:=#v[.setF (.var 0) "facts" (.var 2)]
def kO:Ss:=.cons (.setF (.var 0) "number" (.var 1)) m7
def gN:Ss:=#v[.ret (.cmp .GtE (.fn 0 #v[.fld (.var 0) "facts",.var 1]) (.fld (.var 0) "number"))]
def gO:Ss:=#v[.ret (.cmp .Lt (.fn 0 #v[.fld (.var 0) "facts",.var 2]) (.fld (.var 0) "number"))]
def gP:Ss:=#v[.ret (.comp 1 (.tup #v[.var 1,.bl false]) (.nm 1) (.seq (.fld (.var 0) "facts")) .no)]
def m8:Ss:=#v[.setF (.var 0) "at" (.var 2)]
def kP:Ss:=.cons (.setF (.var 0) "facts" (.var 1)) m8
def gQ:Ss:=#v[.ret (.and (.fn 0 #v[.var 1,.ix (.fld (.var 0) "facts") (.fld (.var 0) "at")]) (.cmp .Eq (.fn 1 #v[.sl (.fld (.var 0) "facts") .no (.yes (.fld (.var 0) "at")),.var 2]) (.int 0)))]
def gR:Ss:=#v[.ret (.or (.not (.fn 0 #v[.var 2,.ix (.fld (.var 0) "facts") (.fld (.var 0) "at")])) (.cmp .Gt (.fn 1 #v[.sl (.fld (.var 0) "facts") .no (.yes (.fld (.var 0) "at")),.var 1]) (.int 0)))]
def gS:Ss:=#v[.ret (.bin .Add (.comp 1 (.tup #v[.var 1,.bl true]) (.nm 1) (.seq (.sl (.fld (.var 0) "facts") .no (.yes (.fld (.var 0) "at")))) .no) (.lst #v[.tup #v[.ix (.fld (.var 0) "facts") (.fld (.var 0) "at"),.bl false]]))]
section
variable {cn:Cn}{c:CA}{ds:List D}{M:MH}{Q:DK}
theorem wN(hO:cn.O=fldO c)(h:bQ c 0 ds M Q):wSs cn cR (fin Q) (af ["",""] ds) M:=by
 obtain⟨a,t,hk,rfl,hM,q⟩:=h;cases t with
 |hav f=>
  show wSs cn cR (fin Q) [↑a,some (.int f)] M;unfold cR;simp! only[hM,hO];exact⟨⟨aR c 'a' gz,by decide⟩,q _ (λb hb=>aB hb) aa⟩
 |lck f=>cases hk
 |som n fs=>cases hk
 |led fs k=>cases hk
theorem wO(hO:cn.O=fldO c)(h:bQ c 1 ds M Q):wSs cn cR (fin Q) (af ["",""] ds) M:=by
 obtain⟨a,t,hk,rfl,hM,q⟩:=h;cases t with
 |lck f=>
  show wSs cn cR (fin Q) [↑a,some (.int f)] M;unfold cR;simp! only[hM,hO];exact⟨⟨aR c 'a' gz,by decide⟩,q _ (λb hb=>aB hb) aa⟩
 |hav f=>cases hk
 |som n fs=>cases hk
 |led fs k=>cases hk
theorem wQ(hO:cn.O=fldO c)(h:bQ c 2 ds M Q):wSs cn kO (fin Q) (af ["","",""] ds) M:=by
 obtain⟨a,t,hk,rfl,hM,q⟩:=h;cases t with
 |som n fs=>
  show wSs cn kO (fin Q) [↑a,some (.int n),some (.tup (intL fs))] M;unfold kO;simp! only[hM,hO];refine⟨⟨aR c 'a' pG,by decide⟩,?_⟩;unfold m7;simp! only[aa,hO];exact⟨⟨aR c 'a' cc,(show(1:Nat)<1000 by decide)⟩,q _ (λb hb=>by rw[aB hb,aB hb]) aa⟩
 |hav f=>cases hk
 |lck f=>cases hk
 |led fs k=>cases hk
theorem wR(hO:cn.O=fldO c)(h:bQ c 3 ds M Q):wSs cn kP (fin Q) (af ["","",""] ds) M:=by
 obtain⟨a,t,hk,rfl,hM,q⟩:=h;cases t with
 |led fs k=>
  show wSs cn kP (fin Q) [↑a,some (.tup (intL fs)),some (.int k)] M;unfold kP;simp! only[hM,hO];refine⟨⟨aR c 'a' cc,by decide⟩,?_⟩;unfold m8;simp! only[aa,hO];exact⟨⟨aR c 'a' n0,(show(1:Nat)<1000 by decide)⟩,q _ (λb hb=>by rw[aB hb,aB hb]) aa⟩
 |hav f=>cases hk
 |lck f=>cases hk
 |som n fs=>cases hk
theorem sW(hO:cn.O=fldO c)(f0:cn.F.getD 0 Yl=aZ)(h:bF c 0 ds M Q):wSs cn bS (fin Q) (af ["","",""] ds) M:=by
 obtain⟨a,t,h,m,hk,ho,rfl,hM,q⟩:=h;cases t with
 |hav f=>
  have hM:M a=some (.ins (c.at 0) [("fact",.int f)]):=hM;show wSs cn bS (fin Q) [↑a,some (.int h),some (.int m)] M;unfold bS;simp! only[hM,hO,kx,f0];exact⟨aR c 'a' gz,h,f,rfl,ho.1,q M (Ext.refl M)⟩
 |lck f=>cases hk
 |som n fs=>cases hk
 |led fs k=>cases hk
theorem sX(hO:cn.O=fldO c)(f0:cn.F.getD 0 Yl=aZ)(h:bG c 1 ds M Q):wSs cn bS (fin Q) (af ["","",""] ds) M:=by
 obtain⟨a,t,h,m,hk,ho,rfl,hM,q⟩:=h;cases t with
 |lck f=>
  have hM:M a=some (.ins (c.at 1) [("fact",.int f)]):=hM;show wSs cn bS (fin Q) [↑a,some (.int h),some (.int m)] M;unfold bS;simp! only[hM,hO,kx,f0];exact⟨aR c 'a' gz,h,f,rfl,ho.1,q M (Ext.refl M)⟩
 |hav f=>cases hk
 |som n fs=>cases hk
 |led fs k=>cases hk
theorem sY(hO:cn.O=fldO c)(f0:cn.F.getD 0 Yl=aZ)(h:bG c 0 ds M Q):wSs cn bU (fin Q) (af ["","",""] ds) M:=by
 obtain⟨a,t,h,m,hk,ho,rfl,hM,q⟩:=h;cases t with
 |hav f=>
  have hM:M a=some (.ins (c.at 0) [("fact",.int f)]):=hM;show wSs cn bU (fin Q) [↑a,some (.int h),some (.int m)] M;unfold bU;simp! only[hM,hO,kx,f0];exact⟨aR c 'a' gz,m,f,rfl,ho.1,q M (Ext.refl M)⟩
 |lck f=>cases hk
 |som n fs=>cases hk
 |led fs k=>cases hk
theorem sZ(hO:cn.O=fldO c)(f0:cn.F.getD 0 Yl=aZ)(h:bF c 1 ds M Q):wSs cn bU (fin Q) (af ["","",""] ds) M:=by
 obtain⟨a,t,h,m,hk,ho,rfl,hM,q⟩:=h;cases t with
 |lck f=>
  have hM:M a=some (.ins (c.at 1) [("fact",.int f)]):=hM;show wSs cn bU (fin Q) [↑a,some (.int h),some (.int m)] M;unfold bU;simp! only[hM,hO,kx,f0];exact⟨aR c 'a' gz,m,f,rfl,ho.1,q M (Ext.refl M)⟩
 |hav f=>cases hk
 |som n fs=>cases hk
 |led fs k=>cases hk
theorem s9(hO:cn.O=fldO c)(f0:cn.F.getD 0 Yl=dB)(h:bF c 2 ds M Q):wSs cn gN (fin Q) (af ["","",""] ds) M:=by
 obtain⟨a,t,h,m,hk,ho,rfl,hM,q⟩:=h;cases t with
 |som n fs=>
  have hM:M a=some (.ins (c.at 2) [("number",.int n),("facts",.tup (intL fs))]):=hM;show wSs cn gN (fin Q) [↑a,some (.int h),some (.int m)] M;unfold gN;simp! only[hM,hO,lF,rz,f0];refine⟨aR c 'a' cc,fs,h,rfl,λf hf=>(ho.2 f hf).1,λM1 e1=>?_⟩;simp only[e1 a _ hM,lF];exact⟨aR c 'a' pG,q M1 e1⟩
 |hav f=>cases hk
 |lck f=>cases hk
 |led fs k=>cases hk
theorem td(hO:cn.O=fldO c)(f0:cn.F.getD 0 Yl=dB)(h:bG c 2 ds M Q):wSs cn gO (fin Q) (af ["","",""] ds) M:=by
 obtain⟨a,t,h,m,hk,ho,rfl,hM,q⟩:=h;cases t with
 |som n fs=>
  have hM:M a=some (.ins (c.at 2) [("number",.int n),("facts",.tup (intL fs))]):=hM;show wSs cn gO (fin Q) [↑a,some (.int h),some (.int m)] M;unfold gO;simp! only[hM,hO,lF,rz,f0];refine⟨aR c 'a' cc,fs,m,rfl,λf hf=>(ho.2 f hf).1,λM1 e1=>?_⟩;simp only[e1 a _ hM,lF];exact⟨aR c 'a' pG,q M1 e1⟩
 |hav f=>cases hk
 |lck f=>cases hk
 |led fs k=>cases hk
theorem tf(hO:cn.O=fldO c)(f0:cn.F.getD 0 Yl=aZ)(f1:cn.F.getD 1 Yl=dB)(h:bF c 3 ds M Q):wSs cn gQ (fin Q) (af ["","",""] ds) M:=by
 obtain⟨a,t,h,m,hk,ho,rfl,hM,q⟩:=h;cases t with
 |led fs k=>
  have hM:M a=some (.ins (c.at 3) [("facts",.tup (intL fs)),("at",.int k)]):=hM;show wSs cn gQ (fin Q) [↑a,some (.int h),some (.int m)] M;unfold gQ;simp! only[hM,hO,gy,qy,f0,f1,qx ho.1.1,ku];refine⟨aR c 'a' cc,aR c 'a' n0,h,fs.getD k 0,rfl,uj ho.1.1 ho.2,?_⟩;have q:∀M',Ext M M'->Q (.bl (hasB h (fs.getD k 0)&&(((cntB (fs.take k) m:Nat):Int)==0))) M':=q;cases hb:hasB h (fs.getD k 0) with
  |false=>rw[hb,Bool.false_and] at q;exact q M (Ext.refl M)
  |true=>
   rw[hb,Bool.true_and] at q;simp only[aH,hM,gy,qy,ku];refine⟨aR c 'a' cc,aR c 'a' n0,fs.take k,m,rfl,λf hf=>(ho.2 f (List.mem_of_mem_take hf)).1,λM1 e1=>⟨⟨rfl,rfl,(by decide:(0:Nat)<=30)⟩,?_⟩⟩;rw[ad];exact q M1 e1
 |hav f=>cases hk
 |lck f=>cases hk
 |som n fs=>cases hk
theorem tj(hO:cn.O=fldO c)(f0:cn.F.getD 0 Yl=aZ)(f1:cn.F.getD 1 Yl=dB)(h:bG c 3 ds M Q):wSs cn gR (fin Q) (af ["","",""] ds) M:=by
 obtain⟨a,t,h,m,hk,ho,rfl,hM,q⟩:=h;cases t with
 |led fs k=>
  have hM:M a=some (.ins (c.at 3) [("facts",.tup (intL fs)),("at",.int k)]):=hM;show wSs cn gR (fin Q) [↑a,some (.int h),some (.int m)] M;unfold gR;simp! only[hM,hO,gy,qy,f0,f1,qx ho.1.1,ku];refine⟨aR c 'a' cc,aR c 'a' n0,m,fs.getD k 0,rfl,uj ho.1.1 ho.2,?_⟩;have q:∀M',Ext M M'->Q (.bl (!hasB m (fs.getD k 0)||decide (0<((cntB (fs.take k) h:Nat):Int)))) M':=q;cases hb:hasB m (fs.getD k 0) with
  |false=>rw[hb] at q;exact q M (Ext.refl M)
  |true=>
   rw[hb] at q;simp only[XV,ao,hM,gy,qy,ku];refine⟨aR c 'a' cc,aR c 'a' n0,fs.take k,h,rfl,λf hf=>(ho.2 f (List.mem_of_mem_take hf)).1,λM1 e1=>?_⟩;exact q M1 e1
 |hav f=>cases hk
 |lck f=>cases hk
 |som n fs=>cases hk
theorem tm(hO:cn.O=fldO c)(h:bH c 0 ds M Q):wSs cn gL (fin Q) (af [""] ds) M:=by
 obtain⟨a,t,hk,ho,rfl,hM,q⟩:=h;cases t with
 |hav f=>
  have hM:M a=some (.ins (c.at 0) [("fact",.int f)]):=hM;show wSs cn gL (fin Q) [↑a] M;unfold gL;simp! only[hM,hO,kx];exact⟨aR c 'a' gz,λp hp=>q p _ hp (Ext.new hp) aa⟩
 |lck f=>cases hk
 |som n fs=>cases hk
 |led fs k=>cases hk
theorem tq(hO:cn.O=fldO c)(h:bH c 1 ds M Q):wSs cn gM (fin Q) (af [""] ds) M:=by
 obtain⟨a,t,hk,ho,rfl,hM,q⟩:=h;cases t with
 |lck f=>
  have hM:M a=some (.ins (c.at 1) [("fact",.int f)]):=hM;show wSs cn gM (fin Q) [↑a] M;unfold gM;simp! only[hM,hO,kx];exact⟨aR c 'a' gz,λp hp=>q p _ hp (Ext.new hp) aa⟩
 |hav f=>cases hk
 |som n fs=>cases hk
 |led fs k=>cases hk
def wU(b:Bool):D->D
 |.int f=>b0 b f
 |d=>d
theorem wV(b:Bool)(fs:Zi):(intL fs).map (wU b)=fs.map (b0 b):=by
 unfold intL;rw[ZL];rfl
theorem tt(hO:cn.O=fldO c)(h:bH c 2 ds M Q):wSs cn gP (fin Q) (af [""] ds) M:=by
 obtain⟨a,t,hk,ho,rfl,hM,q⟩:=h;cases t with
 |som n fs=>
  have hM:M a=some (.ins (c.at 2) [("number",.int n),("facts",.tup (intL fs))]):=hM;show wSs cn gP (fin Q) [↑a] M;unfold gP;simp! only[hM,hO,rz];refine⟨aR c 'a' cc,?_⟩;refine bX (f:=wU false) (ok:=λσ=>∃v,σ=[↑a,v]) [] _ ⟨none,rfl⟩ ?_ ?_
  ·intro d hd σ acc rest ⟨v,hv⟩ k
   subst hv;obtain⟨f,hfm,rfl⟩:=XU.1 hd;exact⟨trivial,k _ ⟨_,rfl⟩⟩
  ·intro p hp
   rw[XA,wV];exact q p _ hp (Ext.new hp) aa
 |hav f=>cases hk
 |lck f=>cases hk
 |led fs k=>cases hk
theorem tu(hO:cn.O=fldO c)(h:bH c 3 ds M Q):wSs cn gS (fin Q) (af [""] ds) M:=by
 obtain⟨a,t,hk,ho,rfl,hM,q⟩:=h;cases t with
 |led fs k=>
  have hM:M a=some (.ins (c.at 3) [("facts",.tup (intL fs)),("at",.int k)]):=hM;show wSs cn gS (fin Q) [↑a] M;unfold gS;simp! only[hM,hO,gy,qy,ku];refine⟨aR c 'a' cc,aR c 'a' n0,?_⟩;refine bX (f:=wU true) (ok:=λσ=>∃v,σ=[↑a,v]) [] _ ⟨none,rfl⟩ ?_ ?_
  ·intro d hd σ acc rest ⟨v,hv⟩ k
   subst hv;obtain⟨f,hfm,rfl⟩:=XU.1 hd;exact⟨trivial,k _ ⟨_,rfl⟩⟩
  ·intro p hp
   rw[XA,wV];have e1:=Ext.new (o:=MO.lst ((fs.take k).map (b0 true))) hp;have h1:=e1 a _ hM;have hpp:updM M p (MO.lst ((fs.take k).map (b0 true))) p=some (.lst ((fs.take k).map (b0 true))):=aa;generalize updM M p (MO.lst ((fs.take k).map (b0 true)))=M1 at *;simp only[h1,gy,qy,qx ho.1.1];refine⟨aR c 'a' cc,aR c 'a' n0,λp2 hp2=>?_⟩;have e2:=Ext.new (o:=MO.lst [D.tup [D.int (fs.getD k 0),D.bl false]]) hp2;have h2:=e2 p _ hpp;have hp22:updM M1 p2 (MO.lst [D.tup [D.int (fs.getD k 0),D.bl false]]) p2=some (.lst [D.tup [D.int (fs.getD k 0),D.bl false]]):=aa;generalize updM M1 p2 (MO.lst [D.tup [D.int (fs.getD k 0),D.bl false]])=M2 at *;simp only[h2,hp22];refine⟨?_,λp3 hp3=>q p3 _ ?_ ((e1.trans e2).then hp3) aa⟩
   ·have:((fs.take k).map (b0 true)).length<=6:=by rw[ZE];exact ZX (List.length_take_le' _ _) ho.1.2
    have h6:(7:Nat)<=sizeLine:=by decide
    simp only[YH,YS];omega
   ·cases e:M p3 with
    |none=>rfl
    |some o=>have:=(e1.trans e2) p3 o e;rw[hp3] at this;cases this
 |hav f=>cases hk
 |lck f=>cases hk
 |som n fs=>cases hk
end
theorem Ext.free{M M':MH}{p:Addr}(e:Ext M M')(h:M' p=none):M p=none:=by
 cases q:M p with
 |none=>rfl
 |some o=>have:=e p o q;rw[h] at this;cases this
theorem Ext.put{M M':MH}{p:Addr}{o:MO}(e:Ext M M')(h:M p=none):Ext M (updM M' p o):=λa u q=>by
 have:a≠p:=λz=>by subst z;rw[h] at q;cases q
 rw[aB this];exact e a u q
theorem tw{M M':MH}{x:Addr}{o:MO}(hx:M x=none)(h:∀b,b≠x->M' b=updM M x o b):Ext M M':=λb u e=>by
 have:b≠x:=λz=>by subst z;rw[hx] at e;cases e
 rw[h b this,aB this];exact e
theorem bd{M:MH}{a p:Addr}{o:MO}(h:M a=some o)(hp:M p=none):a≠p:=λz=>by subst z;rw[hp] at h;cases h
theorem ExtBut.refl(p:Addr)(M:MH):ExtBut p M M:=λ_ _ _ h=>h
theorem ExtBut.trans{p:Addr}{M M' M'':MH}(a:ExtBut p M M')(b:ExtBut p M' M''):ExtBut p M M'':=λc o n h=>b c o n (a c o n h)
theorem Ext.but{p:Addr}{M M':MH}(a:Ext M M'):ExtBut p M M':=λc o _ h=>a c o h
theorem ExtBut.upd(p:Addr)(M:MH)(o:MO):ExtBut p M (updM M p o):=λc u n h=>by rw[aB n];exact h
theorem ExtBut.ext{p:Addr}{M M1 M2:MH}(a:Ext M M1)(b:ExtBut p M1 M2)(h:M p=none):Ext M M2:=λc o q=>b c o (bd q h) (a c o q)
theorem sh_:(("have" : Str) == "have")=true:=XC _
theorem s_ss:(("some" : Str) == "some")=true:=XC _
theorem s_ll:(("lack" : Str) == "lack")=true:=XC _
theorem s_dd:(("lead" : Str) == "lead")=true:=XC _
theorem s_lh:(("lack" : Str) == "have")=false:=by rfl'
theorem s_sh:(("some" : Str) == "have")=false:=by rfl'
theorem s_sl:(("some" : Str) == "lack")=false:=by rfl'
theorem s_dh:(("lead" : Str) == "have")=false:=by rfl'
theorem s_dl:(("lead" : Str) == "lack")=false:=by rfl'
theorem s_ds:(("lead" : Str) == "some")=false:=by rfl'
def gT(c:CA):SpD:=λds M Q=>∃t:CT,ds=[t.told]/\∀p M',M p=none->Ext M M'->M' p=some (t.obj c)->Q (.ref p) M'
def cj:Ss:=#v[.ret (.fn 0 #v[.ix (.var 0) (.int 1),.ix (.var 0) (.int 2)])]
def ck:Ss:=.cons (.ite (.cmp .Eq (.ix (.var 0) (.int 0)) (.str "some")) #v[.ret (.fn 1 #v[.ix (.var 0) (.int 1),.ix (.var 0) (.int 2)])] .nil) cj
def bI:Ss:=.cons (.ite (.cmp .Eq (.ix (.var 0) (.int 0)) (.str "lack")) #v[.ret (.fn 2 #v[.ix (.var 0) (.int 1)])] .nil) ck
def bx:Ss:=.cons (.ite (.cmp .Eq (.ix (.var 0) (.int 0)) (.str "have")) #v[.ret (.fn 3 #v[.ix (.var 0) (.int 1)])] .nil) bI
section
variable {cn:Cn}{c:CA}{ds:List D}{M:MH}{Q:DK}
theorem ul(hF:cn.F=[a9 (c.at 3) (bQ c 3),a9 (c.at 2) (bQ c 2),a9 (c.at 1) (bQ c 1),a9 (c.at 0) (bQ c 0)])(h:gT c ds M Q):wSs cn bx (fin Q) (af [""] ds) M:=by
 obtain⟨t,rfl,q⟩:=h;show wSs cn bx (fin Q) [some t.told] M;cases t with
 |hav f=>
  unfold bx;simp_all! only[CT.told,at0,at1,at2,hF,XW,XX,sh_];exact λx hx=>⟨x,.hav f,rfl,rfl,aa,λM' h1 h2=>⟨rfl,q x M' hx (tw hx h1) h2⟩⟩
 |lck f=>
  unfold bx;simp_all! only[CT.told,at0,at1,at2,hF,XW,XX,s_lh];unfold bI;simp_all! only[CT.told,at0,at1,at2,hF,XW,XX,s_ll];exact λx hx=>⟨x,.lck f,rfl,rfl,aa,λM' h1 h2=>⟨rfl,q x M' hx (tw hx h1) h2⟩⟩
 |som n fs=>
  unfold bx;simp_all! only[CT.told,at0,at1,at2,hF,XW,XX,s_sh];unfold bI;simp_all! only[CT.told,at0,at1,at2,hF,XW,XX,s_sl];unfold ck;simp_all! only[CT.told,at0,at1,at2,hF,XW,XX,s_ss];exact λx hx=>⟨x,.som n fs,rfl,rfl,aa,λM' h1 h2=>⟨rfl,q x M' hx (tw hx h1) h2⟩⟩
 |led fs k=>
  unfold bx;simp_all! only[CT.told,at0,at1,at2,hF,XW,XX,s_dh];unfold bI;simp_all! only[CT.told,at0,at1,at2,hF,XW,XX,s_dl];unfold ck;simp_all! only[CT.told,at0,at1,at2,hF,XW,XX,s_ds];unfold cj;simp_all! only[CT.told,at0,at1,at2,hF,XW,XX];exact λx hx=>⟨x,.led fs k,rfl,rfl,aa,λM' h1 h2=>⟨rfl,q x M' hx (tw hx h1) h2⟩⟩
end
theorem bf(n k:Nat):hasB (n:Int) (k:Int)=n.testBit k:=by
 unfold hasB bitZ;rw[Nat.testBit_eq_decide_div_mod_eq,YU];have e:(n:Int) / 2 ^ k%2=((n / 2 ^ k%2:Nat):Int):=by simp
 rw[e];by_cases h:n / 2 ^ k%2=1
 ·simp[h]
 ·have h2:n / 2 ^ k%2=0:=by omega
  simp[h2]
def au(a b:Nat):Nat:=a ^^^ (a&&&b)
theorem aT(a b k:Nat):(au a b).testBit k=(a.testBit k && !b.testBit k):=by
 unfold au;rw[Nat.testBit_xor,Nat.testBit_and];cases a.testBit k<;>cases b.testBit k<;>rfl
theorem n5(a b:Nat):au a b+(a&&&b)=a:=by
 have h:=PyProof.Rows.nat_or_add_and (au a b) (a&&&b);have h1:au a b|||(a&&&b)=a:=by
  refine XY λk=>?_
  rw[XZ,aT,Nat.testBit_and];cases a.testBit k<;>cases b.testBit k<;>rfl
 have h2:au a b&&&(a&&&b)=0:=by
  refine XY λk=>?_
  rw[Nat.testBit_and,aT,Nat.testBit_and,Nat.zero_testBit];cases a.testBit k<;>cases b.testBit k<;>rfl
 omega
theorem tx(a b:Nat):Builtin.bitOr (a:Int) (b:Int)=((a|||b:Nat):Int):=by
 rw[PyProof.Rows.bitOr_and,PyProof.Rows.bitAnd_pp 'b' 'b',YU,YU]
 have:=PyProof.Rows.nat_or_add_and a b
 omega
theorem um(a b:Nat):Builtin.bitAnd (a:Int) (b:Int)=((a&&&b:Nat):Int):=by
 rw[PyProof.Rows.bitAnd_pp 'b' 'b',YU,YU]
theorem eI(a b:Nat):Builtin.bitAnd (a:Int) (-(b:Int)-1)=((au a b:Nat):Int):=by
 rw[←bitNot_eq,PyProof.Rows.bitAnd_not,um]
 have:=n5 a b
 omega
def nats(fs:Zj):List D:=fs.map λ(f:Nat)=>D.int (f:Int)
def setN(fs:Zj):Nat:=fs.foldl (λa f=>a|||2 ^ f) 0
theorem bg(fs:Zj)(k:Nat):(setN fs).testBit k=decide (k∈fs):=by
 have key:∀(fs:Zj) (a:Nat),(fs.foldl (λa f=>a|||2 ^ f) a).testBit k=(a.testBit k||decide (k∈fs)):=by
  intro fs;induction fs with
  |nil=>intro a;simp
  |cons f fs ih=>
   intro a;rw[List.foldl_cons,ih,XZ,Nat.testBit_two_pow];by_cases e:f=k
   ·subst e;simp
   ·have:k≠f:=λz=>e z.symm
    simp[e,this]
 unfold setN;rw[key];simp
def memb(n:Nat):List Nat:=(List.range (fM (n:Int))).filter λf=>n.testBit f
theorem dc(n f:Nat):f∈memb n↔n.testBit f=true:=by
 unfold memb;rw[ZV,ZW];refine⟨λh=>h.2,λh=>⟨?_,h⟩⟩;unfold fM Builtin.Int.intBits;have hn:n≠0:=λz=>by subst z;simp at h
 have hb:((n:Int)==0)=false:=by rw[ZR];omega
 rw[hb];simp only[XB,if_false,Int.natAbs_natCast];have h1:=Nat.ge_two_pow_of_testBit h;have h2:=(Nat.le_log2 hn).2 h1;omega
theorem n6(n:Nat):(memb n).Nodup:=List.Pairwise.filter _ List.nodup_range
theorem Df{n m:Nat}(h:n<2 ^ m):fM (n:Int)<=m:=by
 unfold fM Builtin.Int.intBits;by_cases hn:n=0
 ·subst hn;simp
 ·have hb:((n:Int)==0)=false:=by rw[ZR];omega
  rw[hb];simp only[XB,if_false,Int.natAbs_natCast]
  have:=(Nat.log2_lt hn).2 h
  omega
def Meets(d:D)(M:MH)(fs:Zj)(M':MH):Prop:=(d=.tup (nats fs)/\M'=M) \/ ∃a,d=.ref a/\((M a=some (.lst (nats fs))/\M'=M) \/ ∃kvs,keysOf kvs=nats fs/\((M a=some (.dic kvs)/\M'=updM M a (.rod kvs))\/(M a=some (.rod kvs)/\M'=M)))
def gA:SpD:=λds M Q=>∃i:Int,ds=[.int i]/\Q (.bl true) M
def cm:SpD:=λds M Q=>∃i m:Int,ds=[.int i,.int m]/\Q (.bl (decide (0<=i)&&decide (i<m))) M
def bu:SpD:=λds M Q=>∃(d:D) (fs:Zj) (M':MH),ds=[d]/\Meets d M fs M'/\(∀f∈fs,f<=1000)/\Q (.int (setN fs:Nat)) M'
def gB:SpD:=λds M Q=>∃n:Nat,ds=[⇑n]/\n<2 ^ 1000/\∀p M',M p=none->Ext M M'->M' p=some (.lst (nats (memb n)))->Q (.ref p) M'
def cu:SpD:=λds M Q=>∃m:Nat,ds=[⇑m]/\m<=1000/\Q (.int ((2 ^ m-1:Nat):Int)) M
def mG:Ss:=#v[.ret (.and (.bi .isinst #v[.var 0,.ty "int"]) (.not (.bi .isinst #v[.var 0,.ty "bool"])))]
def mH:Ss:=#v[.ret (.and (.fn 0 #v[.var 0]) (.and (.cmp .GtE (.var 0) (.int 0)) (.cmp .Lt (.var 0) (.var 1))))]
def je:Ss:=#v[.ret (.var 1)]
def fB:Ss:=#v[.set 1 (.bin .BitOr (.var 1) (.bin .LShift (.int 1) (.var 2)))]
def qR:Ss:=.cons (.for (.nm 2) (.seq (.var 0)) fB) je
def pH:Ss:=.cons (.set 1 (.int 0)) qR
def n9:Ss:=#v[.ret (.comp 1 (.var 1) (.nm 1) (.rg1 #v[.mt0 .bits (.var 0)]) (.yes (.val (.fn 0 #v[.var 0,.var 1]))))]
def kQ:Ss:=#v[.ret (.bin .Sub (.bin .LShift (.int 1) (.var 0)) (.int 1))]
section
variable {cn:Cn}{ds:List D}{M:MH}{Q:DK}
theorem xU(h:gA ds M Q):wSs cn mG (fin Q) (af [""] ds) M:=by
 obtain⟨i,rfl,q⟩:=h;show wSs cn mG (fin Q) [some (.int i)] M;unfold mG;simp! only[tyD];refine⟨by decide,?_⟩;show Bif true _ _;refine⟨by decide,?_⟩;exact q
theorem xV(f0:cn.F.getD 0 Yl=gA)(h:cm ds M Q):wSs cn mH (fin Q) (af ["",""] ds) M:=by
 obtain⟨i,m,rfl,q⟩:=h;show wSs cn mH (fin Q) [some (.int i),some (.int m)] M;unfold mH;simp! only[f0];refine⟨i,rfl,?_⟩;show Bif (decide (0<=i)) _ _;cases b:decide (0<=i) with
 |true=>rw[b,Bool.true_and] at q;exact q
 |false=>rw[b,Bool.false_and] at q;exact q
theorem wW(h:cu ds M Q):wSs cn kQ (fin Q) (af [""] ds) M:=by
 obtain⟨m,rfl,hm,q⟩:=h;show wSs cn kQ (fin Q) [~~~m] M;unfold kQ;simp! only[];refine⟨⟨by omega,by omega,by decide⟩,?_⟩;have e:(1:Int)*2 ^ (m:Int).toNat-1=((2 ^ m-1:Nat):Int):=by
  have h1:1<=2 ^ m:=Nat.one_le_two_pow;rw[YU,Int.one_mul,Int.ofNat_sub h1];simp
 rw[e];exact q
theorem z5(f0:cn.F.getD 0 Yl=aZ)(h:gB ds M Q):wSs cn n9 (fin Q) (af [""] ds) M:=by
 obtain⟨n,rfl,hn,q⟩:=h;show wSs cn n9 (fin Q) [~~~n] M;unfold n9;simp! only[f0,vL,List.cons_append,XA,List.replicate];have hb:=Df hn;refine⟨trivial,⟨by omega,by omega⟩,?_⟩;refine mD (p:=λd=>match d with | .int f=>hasB (n:Int) f | _=>false) (ok:=λσ=>∃v,σ=[~~~n,v]) [] _ ⟨none,rfl⟩ ?_ ?_
 ·intro d hd σ acc rest ⟨v,hv⟩ k
  subst hv;unfold a8 at hd;obtain⟨i,hi,rfl⟩:=XU.1 hd;refine⟨n,0+(i:Int),rfl,by omega,?_⟩;have k1:=k _ ⟨some (.int (0+(i:Int))),rfl⟩;show Bif (hasB (n:Int) (0+(i:Int))) _ _;dsimp only at k1;cases hb:hasB (n:Int) (0+(i:Int)) with
  |true=>rw[hb] at k1;exact⟨trivial,k1⟩
  |false=>rw[hb] at k1;exact⟨trivial,by simpa using k1⟩
 ·intro p hp
  have e:([]++(a8 0 (fM (n:Int))).filter (λ(d:D)=>match d with | .int f=>hasB (n:Int) f | _=>false))=nats (memb n):=by
   unfold a8 nats memb;rw[XA,List.filter_map];have h1:((fM (n:Int):Int)-0).toNat=fM (n:Int):=by omega
   rw[h1];have h2:(List.range (fM (n:Int))).filter ((λ(d:D)=>match d with | .int f=>hasB (n:Int) f | _=>false)∘λ(i:Nat)=>D.int (0+(i:Int)))=(List.range (fM (n:Int))).filter λf=>n.testBit f:=by
    refine List.filter_congr λi _=>?_
    show hasB (n:Int) (0+(i:Int))=_;rw[Int.zero_add,bf]
   rw[h2];refine ZM λi _=>?_
   rw[Int.zero_add]
  rw[e];exact q p _ hp (Ext.new hp) aa
theorem Bx(h:bu ds M Q):wSs cn pH (fin Q) (af ["","",""] ds) M:=by
 obtain⟨d,fs,M',rfl,hm,hb,q⟩:=h;show wSs cn pH (fin Q) [some d,none,none] M;unfold pH;simp! only[List.set];unfold qR;simp! only[List.set];have go:∀(g:MH->Prop),g M'->aq g (.nm 2) (wSs cn fB) { nx:=wSs cn je (fin Q),rt:=Q } (nats fs) [some d,some (.int 0),none] M':=by
  intro g hg;have key:∀(fs:Zj) (a:Nat) (v:Zz),(∀f∈fs,f<=1000)->Q (.int (fs.foldl (λa f=>a|||2 ^ f) a:Nat)) M'->aq g (.nm 2) (wSs cn fB) { nx:=wSs cn je (fin Q),rt:=Q } (nats fs) [some d,~~~a,v] M':=by
   intro fs;induction fs with
   |nil=>
    intro a v _ q;rw[show nats []=[] from rfl,aq];unfold je;simp! only[];exact q
   |cons f fs ih=>
    intro a v hb q;show aq g (.nm 2) (wSs cn fB) _ (⇑f::nats fs) _ M';rw[aq];unfold fB;simp! only[List.set];have hf:=hb f (.head _);refine⟨⟨by omega,by omega,by decide⟩,hg,?_⟩;have e:Builtin.bitOr (a:Int) (1*2 ^ (f:Int).toNat)=((a|||2 ^ f:Nat):Int):=by
     rw[←tx];simp
    rw[e];exact ih (a|||2 ^ f) _ (λx hx=>hb x (.tail _ hx)) q
  exact key fs 0 none hb q
 rcases hm with⟨rfl,rfl⟩ | ⟨a,rfl,hm⟩
 ·exact go _ trivial
 ·rcases hm with⟨h1,rfl⟩ | ⟨kvs,hk,⟨h1,rfl⟩ | ⟨h1,rfl⟩⟩
  ·simp only[h1]
   exact go _ h1
  ·simp only[h1,hk]
   exact go _ aa
  ·simp only[h1,hk]
   exact go _ h1
end
def CT.fit(m:Int):CT->Prop
 |.hav f=>0<=f/\f<m
 |.lck f=>0<=f/\f<m
 |.som n fs=>(1<=n/\n<=6)/\(0<fs.length/\fs.length<=6)/\fs.Nodup/\∀f∈fs,0<=f/\f<m
 |.led fs k=>(k<fs.length/\fs.length<=6)/\fs.Nodup/\∀f∈fs,0<=f/\f<m
theorem CT.fit_ok{m:Int}(hm:m<=120):∀{t:CT},t.fit m->t.ok
 |.hav f,h=>⟨h.1,Int.lt_of_lt_of_le h.2 hm⟩
 |.lck f,h=>⟨h.1,Int.lt_of_lt_of_le h.2 hm⟩
 |.som n fs,h=>⟨h.2.1,λf hf=>⟨(h.2.2.2 f hf).1,Int.lt_of_lt_of_le (h.2.2.2 f hf).2 hm⟩⟩
 |.led fs k,h=>⟨h.1,λf hf=>⟨(h.2.2 f hf).1,Int.lt_of_lt_of_le (h.2.2 f hf).2 hm⟩⟩
def oa:SpD:=λds M Q=>∃n:Int,ds=[.int n]/\(1<=n/\n<=6)/\Q (.bl true) M
def lG:SpD:=λds M Q=>∃(fs:Zi) (m:Int),ds=[.tup (intL fs),.int m]/\(0<fs.length/\fs.length<=6)/\fs.Nodup/\(∀f∈fs,0<=f/\f<m)/\∀M',Ext M M'->Q (.bl true) M'
def oe:SpD:=λds M Q=>∃(t:CT) (m:Int),ds=[t.told,.int m]/\t.fit m/\∀M',Ext M M'->Q (.bl true) M'
def qz:SpD:=λds M Q=>∃(h m:Int) (p:Addr) (ts:List CT),ds=[.tup [.int h,.ref p],.int m]/\M p=some (.lst (ts.map CT.told))/\(0<=h/\h<m)/\ts.length<=6/\(∀t∈ts,t.fit m)/\∀M',Ext M M'->Q (.bl true) M'
def kR(j:Nat):Ss:=#v[.ret (.and (.fn 0 #v[.var 0]) (.and (.cmp .GtE (.var 0) (.int 1)) (.cmp .LtE (.var 0) (.glob j))))]
def lH:Ss:=#v[.ret (.and (.bi .all #v[.comp 1 (.fn 0 #v[.var 2,.var 1]) (.nm 2) (.seq (.var 0)) .no]) (.cmp .Eq (.lenSet (.var 0)) (.bi .len #v[.var 0])))]
def jD(j:Nat):Ss:=.cons (.ite (.or (.not (.val (.bi .isinst #v[.var 0,.ty "tuple"]))) (.or (.cmp .Lt (.bi .len #v[.var 0]) (.int 1)) (.cmp .Gt (.bi .len #v[.var 0]) (.glob j)))) #v[.ret (.bl false)] .nil) lH
def pI:Ss:=#v[.ret (.and (.cmp .Eq (.ix (.var 0) (.int 0)) (.str "lead")) (.and (.fn 0 #v[.ix (.var 0) (.int 1),.var 1]) (.fn 1 #v[.ix (.var 0) (.int 2),.bi .len #v[.ix (.var 0) (.int 1)]])))]
def kS:Ss:=.cons (.ite (.cmp .Eq (.ix (.var 0) (.int 0)) (.str "some")) #v[.ret (.and (.fn 2 #v[.ix (.var 0) (.int 1)]) (.fn 0 #v[.ix (.var 0) (.int 2),.var 1]))] .nil) pI
def kT:Ss:=.cons (.ite (.cmp .NotEq (.bi .len #v[.var 0]) (.int 3)) #v[.ret (.bl false)] .nil) kS
def dW:Ss:=.cons (.ite (.or (.cmp .Eq (.ix (.var 0) (.int 0)) (.str "have")) (.cmp .Eq (.ix (.var 0) (.int 0)) (.str "lack"))) #v[.ret (.and (.cmp .Eq (.bi .len #v[.var 0]) (.int 2)) (.fn 1 #v[.ix (.var 0) (.int 1),.var 1]))] .nil) kT
def eJ:Ss:=.cons (.ite (.or (.not (.val (.bi .isinst #v[.var 0,.ty "tuple"]))) (.cmp .Lt (.bi .len #v[.var 0]) (.int 2))) #v[.ret (.bl false)] .nil) dW
def qS:Ss:=#v[.ret (.bi .all #v[.comp 1 (.fn 0 #v[.var 3,.var 1]) (.nm 3) (.seq (.var 2)) .no])]
def qT(j:Nat):Ss:=.cons (.ite (.or (.not (.val (.bi .isinst #v[.var 2,.ty "list"]))) (.cmp .Gt (.bi .len #v[.var 2]) (.glob j))) #v[.ret (.bl false)] .nil) qS
def mI(j:Nat):Ss:=.cons (.set 2 (.ix (.var 0) (.int 1))) (qT j)
def pJ(j:Nat):Ss:=.cons (.ite (.or (.not (.val (.bi .isinst #v[.var 0,.ty "tuple"]))) (.or (.cmp .NotEq (.bi .len #v[.var 0]) (.int 2)) (.not (.val (.fn 1 #v[.ix (.var 0) (.int 0),.var 1]))))) #v[.ret (.bl false)] .nil) (mI j)
theorem wX{g:MH->Prop}{t:Tgt}{c:WT}{e:WE}{F:List D->MH->Prop}{f:D->D}{ok:DS->Prop}{M0:MH}:∀{xs:List D}(acc:List D) (σ:DS) (M:MH),ok σ->Ext M0 M ->
  (∀x∈xs,∀σ acc rest M,ok σ->Ext M0 M->(∀σ' M',ok σ'->Ext M0 M'->ax g t c e F rest (acc++[f x]) σ' M')->ax g t c e F (x::rest) acc σ M)->(∀M',Ext M0 M'->F (acc++xs.map f) M')->ax g t c e F xs acc σ M
 |[],acc,σ,M,_,hM,_,q=>by
  rw[YW,ZA] at q;exact q M hM
 |x::xs,acc,σ,M,h,hM,st,q=>st x ZY σ acc xs M h hM λσ' M' h' hM'=>wX (acc++[f x]) σ' M' h' hM' (λy hy=>st y (.tail _ hy)) (by simpa using q)
theorem kU(t:String):isT t t=true:=by unfold isT;simp
theorem rA:∀(l:List D),blsD (l.map λ_=>D.bl true)=some (l.map λ_=>true)
 |[]=>rfl
 |a::l=>by rw[YJ,blsD,rA l];rfl
theorem wY{α:Type}(l:List α):(l.map λ_=>true).all id=true:=by simp
theorem By{f:Int}{fs:Zi}:nZ (intL (f::fs))=none:=rfl
theorem pK:∀(fs:Zi),jd (intL fs)=some fs
 |[]=>rfl
 |f::fs=>by
  show Option.map _ (jd (intL fs))=_;rw[pK fs];rfl
theorem wZ{α:Type}[DecidableEq α]:∀(ks l:List α),(l++ks).Nodup->ks.foldl addK l=l++ks
 |[],l,_=>by simp
 |k::ks,l,h=>by
  have hk:k∉l:=λz=>by
   have:=(List.nodup_append.1 h).2.2 k z k (.head _)
   exact this rfl
  rw[List.foldl_cons,addK,if_neg hk,wZ ks (l++[k]) (by simpa using h)];simp
theorem xX{α:Type}[DecidableEq α](l:List α)(h:l.Nodup):(aY l).length=l.length:=by
 unfold aY;rw[wZ l [] (by simpa using h)];simp
section
variable {cn:Cn}{ds:List D}{M:MH}{Q:DK}{j:Nat}
theorem w4(f0:cn.F.getD 0 Yl=gA)(gj:cn.G.getD j .non=.int 6)(h:oa ds M Q):wSs cn (kR j) (fin Q) (af [""] ds) M:=by
 obtain⟨n,rfl,hn,q⟩:=h;show wSs cn (kR j) (fin Q) [some (.int n)] M;unfold kR;simp! only[f0,gj];refine⟨n,rfl,?_⟩;have b1:decide ((1:Int)<=n)=true:=YT hn.1;have b2:decide (n<=(6:Int))=true:=YT hn.2;simp only[b1,b2,aH];exact q
theorem vt(f0:cn.F.getD 0 Yl=cm)(gj:cn.G.getD j .non=.int 6)(h:lG ds M Q):wSs cn (jD j) (fin Q) (af ["",""] ds) M:=by
 obtain⟨fs,m,rfl,hl,hnd,hf,q⟩:=h;show wSs cn (jD j) (fin Q) [some (.tup (intL fs)),some (.int m)] M;unfold jD;simp! only[gj,tyD,rq];refine⟨by decide,?_⟩;show Bif false _ _;have b1:decide ((fs.length:Int)<1)=false:=ZQ 'b';have b2:decide ((6:Int)<(fs.length:Int))=false:=ZQ 'b';simp only[b1,b2,ao];unfold lH;simp! only[f0,List.cons_append,XA,List.replicate];refine bX (f:=λ_=>.bl true) (ok:=λσ=>∃v,σ=[some (.tup (intL fs)),some (.int m),v]) [] _ ⟨none,rfl⟩ ?_ ?_
 ·intro d hd σ acc rest ⟨v,hv⟩ k
  subst hv;obtain⟨f,hfm,rfl⟩:=XU.1 hd;refine⟨f,m,rfl,?_⟩;have h1:decide (0<=f)=true:=YT (hf f hfm).1;have h2:decide (f<m)=true:=YT (hf f hfm).2;rw[h1,h2];exact⟨trivial,k _ ⟨_,rfl⟩⟩
 ·intro p hp
  rw[XA,aa];dsimp only;rw[rA];dsimp only;rw[wY];simp only[aH,seqL];have e1:=Ext.new (o:=MO.lst ((intL fs).map λ_=>D.bl true)) hp;generalize updM M p (MO.lst ((intL fs).map λ_=>D.bl true))=M1 at *;cases fs with
  |nil=>exact absurd hl.1 (by simp)
  |cons f fs=>
   simp only[qt,By,pK,rq];refine⟨by have:=hl.2;omega,⟨rfl,rfl,(by decide:(0:Nat)<=30)⟩,?_⟩;rw[xX _ hnd,ad,XC];exact q M1 e1
theorem z6(f0:cn.F.getD 0 Yl=lG)(f1:cn.F.getD 1 Yl=cm)(f2:cn.F.getD 2 Yl=oa)(h:oe ds M Q):wSs cn eJ (fin Q) (af ["",""] ds) M:=by
 obtain⟨t,m,rfl,ho,q⟩:=h;show wSs cn eJ (fin Q) [some t.told,some (.int m)] M;have l2:decide (((1+1:Nat):Int)<2)=false:=by decide
 have l3:decide (((1+1+1:Nat):Int)<2)=false:=by decide
 have e2:(((1+1:Nat):Int)==2)=true:=by decide
 have e3:(((1+1+1:Nat):Int)==3)=true:=by decide
 cases t with
 |hav f=>
  unfold eJ;simp_all! only[CT.told,tyD,YH,YS,Nat.zero_add];refine⟨by decide,?_⟩;simp only[kU,XV,ao,l2,l3];unfold dW;simp_all! only[CT.told,at0,at1,at2,sh_,YH,YS,Nat.zero_add,f1];simp only[aH,e2];refine⟨f,m,rfl,?_⟩;have h1:decide (0<=f)=true:=YT ho.1;have h2:decide (f<m)=true:=YT ho.2;rw[h1,h2];exact q M (Ext.refl M)
 |lck f=>
  unfold eJ;simp_all! only[CT.told,tyD,YH,YS,Nat.zero_add];refine⟨by decide,?_⟩;simp only[kU,XV,ao,l2,l3];unfold dW;simp_all! only[CT.told,at0,at1,at2,s_lh,s_ll,YH,YS,Nat.zero_add,f1];simp only[aH,e2];refine⟨f,m,rfl,?_⟩;have h1:decide (0<=f)=true:=YT ho.1;have h2:decide (f<m)=true:=YT ho.2;rw[h1,h2];exact q M (Ext.refl M)
 |som n fs=>
  unfold eJ;simp_all! only[CT.told,tyD,YH,YS,Nat.zero_add];refine⟨by decide,?_⟩;simp only[kU,XV,ao,l2,l3];unfold dW;simp_all! only[CT.told,at0,at1,at2,s_sh,s_sl];unfold kT;simp_all! only[CT.told,at0,at1,at2,YH,YS,Nat.zero_add];simp only[XV,ao,e3];unfold kS;simp_all! only[CT.told,at0,at1,at2,s_ss,f0,f2];refine⟨n,rfl,ho.1,?_⟩;show Bif true _ _;exact⟨fs,m,rfl,ho.2.1,ho.2.2.1,ho.2.2.2,q⟩
 |led fs k=>
  unfold eJ;simp_all! only[CT.told,tyD,YH,YS,Nat.zero_add];refine⟨by decide,?_⟩;simp only[kU,XV,ao,l2,l3];unfold dW;simp_all! only[CT.told,at0,at1,at2,s_dh,s_dl];unfold kT;simp_all! only[CT.told,at0,at1,at2,YH,YS,Nat.zero_add];simp only[XV,ao,e3];unfold kS;simp_all! only[CT.told,at0,at1,at2,s_ds];unfold pI;simp_all! only[CT.told,at0,at1,at2,s_dd,f0,f1,rq];refine⟨fs,m,rfl,⟨by have:=ho.1.1;omega,ho.1.2⟩,ho.2.1,ho.2.2,λM1 e1=>?_⟩;show Bif true _ _;refine⟨k,(fs.length:Int),rfl,?_⟩;have h1:decide (0<=(k:Int))=true:=YT 'b';have h2:decide ((k:Int)<(fs.length:Int))=true:=YT (by have:=ho.1.1;omega);rw[h1,h2];exact q M1 e1
theorem Bz(f0:cn.F.getD 0 Yl=oe)(f1:cn.F.getD 1 Yl=cm)(gj:cn.G.getD j .non=.int 6)(h:qz ds M Q):wSs cn (pJ j) (fin Q) (af ["","",""] ds) M:=by
 obtain⟨hd,m,p,ts,rfl,hM,hh,hl,hf,q⟩:=h;show wSs cn (pJ j) (fin Q) [some (.tup [.int hd,.ref p]),some (.int m),none] M;unfold pJ;simp_all! only[List.set,tyD,at0,at1,YH,YS,Nat.zero_add,f1];refine⟨by decide,?_⟩;show Bif false _ _;show Bif false _ _;refine⟨hd,m,rfl,?_⟩;have h1:decide (0<=hd)=true:=YT hh.1;have h2:decide (hd<m)=true:=YT hh.2;rw[h1,h2];show wSs cn (mI j) (fin Q) _ M;unfold mI;simp_all! only[List.set,at0,at1];unfold qT;simp_all! only[List.set,tyD,hM,gj,ZE];refine⟨by decide,?_⟩;show Bif false _ _;have b2:decide ((6:Int)<(ts.length:Int))=false:=ZQ 'b';simp only[b2,ao];unfold qS;simp_all! only[List.set,hM,f0,List.cons_append,XA,List.replicate];refine wX (f:=λ_=>.bl true) (M0:=M) (ok:=λσ=>∃v,σ=[some (.tup [.int hd,.ref p]),some (.int m),↑p,v]) [] _ M ⟨none,rfl⟩ (Ext.refl M) ?_ ?_
 ·intro d hd' σ acc rest M1 ⟨v,hv⟩ e1 k
  subst hv;obtain⟨t,htm,rfl⟩:=XU.1 hd';exact⟨t,m,rfl,hf t htm,λM2 e2=>⟨(e1.trans e2) p _ hM,k _ M2 ⟨_,rfl⟩ (e1.trans e2)⟩⟩
 ·intro M1 e1 p2 hp2
  rw[XA,aa];dsimp only;rw[rA];dsimp only;rw[wY];exact q _ (e1.then hp2)
end
def ak(rs:Zh):List D:=rs.map D.ref
def bM(c:CA)(M:MH)(rs:Zh)(ts:List CT):Prop:=Paired (λr (t:CT)=>M r=some (t.obj c)) rs ts
theorem bM.ext{c:CA}{M M':MH}{rs:Zh}{ts:List CT}(e:Ext M M')(h:bM c M rs ts):bM c M' rs ts:=mU (λr t q=>e r _ q) h
def bR(c:CA):SpD:=λds M Q=>∃(a:Addr) (h m:Int) (rs:Zh) (ts:List CT),ds=[.ref a,.int h,.int m]/\M a=some (.lst (ak rs))/\bM c M rs ts/\(∀t∈ts,t.ok)/\∀M',Ext M M'->Q (.bl (ts.all (CT.carried h m))) M'
def dq(c:CA):SpD:=λds M Q=>∃(rs:Zh) (ts:List CT),ds=[.tup (ak rs)]/\bM c M rs ts/\(∀t∈ts,t.ok)/\ts.length<=6/\∀p M',M p=none->Ext M M'->M' p=some (.lst (ts.flatMap CT.leans))->Q (.ref p) M'
def gc:Ss:=#v[.ret (.bl true)]
def ge:Ss:=#v[.ite (.not (.val (.mu "carried" (.var 3) #v[.var 1,.var 2]))) #v[.ret (.bl false)] .nil]
def iV:Ss:=.cons (.for (.nm 3) (.seq (.var 0)) ge) gc
def eY:Ss:=#v[.ret (.var 1)]
def eZ:Ss:=#v[.expr (.mt .extend (.var 1) #v[.mu0 "leaning" (.var 2)])]
def jT:Ss:=.cons (.for (.nm 2) (.seq (.var 0)) eZ) eY
def gU:Ss:=.cons (.set 1 (.lst .nil)) jT
theorem xY(t:CT):t.flds.lookup ("carried" : Str)=none:=by cases t<;>rfl
theorem xZ(t:CT):t.flds.lookup ("leaning" : Str)=none:=by cases t<;>rfl
theorem BA{t:CT}(h:t.ok):t.leans.length<=7:=by
 cases t with
 |hav f=>exact(by decide:(1:Nat)<=7)
 |lck f=>exact(by decide:(1:Nat)<=7)
 |som n fs=>
  show(fs.map (b0 false)).length<=7;rw[ZE];have:=h.1.2;omega
 |led fs k=>
  show((fs.take k).map (b0 true)++[b0 false (fs.getD k 0)]).length<=7;rw[ZJ,ZE,List.length_take]
  have:=h.1.2
  simp only[YH,YS];omega
section
variable {cn:Cn}{c:CA}{ds:List D}{M:MH}{Q:DK}
theorem uo(hT:∀t:CT,cn.T (c.at t.kind) "carried" = some (bF c t.kind))(h:bR c ds M Q):wSs cn iV (fin Q) (af ["","","",""] ds) M:=by
 obtain⟨a,x,m,rs0,ts0,rfl,hM,hc,ho,q⟩:=h;show wSs cn iV (fin Q) [↑a,some (.int x),some (.int m),none] M;unfold iV;simp! only[List.set,hM];have key:∀(rs:Zh) (ts:List CT) (v:Zz) (M1:MH),Ext M M1->bM c M rs ts->(∀t∈ts,t.ok)->(∀M',Ext M M'->Q (.bl (ts.all (CT.carried x m))) M') ->
   aq (λM'=>M' a=some (.lst (ak rs0))) (.nm 3) (wSs cn ge) { nx:=wSs cn gc (fin Q),rt:=Q } (ak rs) [↑a,some (.int x),some (.int m),v] M1:=by
  intro rs ts v M1 e1 hc;induction hc generalizing v M1 with
  |nil=>
   intro _ q;rw[show ak []=[] from rfl,aq];unfold gc;simp! only[];exact q M1 e1
  |@cons r t rs ts hr _ ih=>
   intro ho q;rw[show ak (r::rs)=.ref r::ak rs from rfl,aq];have hr1:M1 r=some (.ins (c.at t.kind) t.flds):=e1 r _ hr;unfold ge;simp! only[List.set,hr1,hT,xY];refine⟨trivial,r,t,x,m,rfl,ho t (.head _),rfl,hr1,λM2 e2=>?_⟩;simp only[XN] at q;cases b:t.carried x m with
   |false=>
    rw[b] at q;exact q M2 (e1.trans e2)
   |true=>
    rw[b] at q;refine⟨(e1.trans e2) a _ hM,ih _ M2 (e1.trans e2) (λt' h'=>ho t' (.tail _ h')) ?_⟩;simpa using q
 exact key rs0 ts0 none M (Ext.refl M) hc ho q
theorem tz(hT:∀t:CT,cn.T (c.at t.kind) "leaning" = some (bH c t.kind))(h:dq c ds M Q):wSs cn gU (fin Q) (af ["","",""] ds) M:=by
 obtain⟨rs0,ts0,rfl,hc,ho,hl,q⟩:=h;show wSs cn gU (fin Q) [some (.tup (ak rs0)),none,none] M;unfold gU;simp! only[List.set];intro p hp;unfold jT;simp! only[List.set];have key:∀(rs:Zh) (ts:List CT) (v:Zz) (M1:MH) (acc:List D),Ext M M1->M1 p=some (.lst acc)->acc.length+7*ts.length<=42->bM c M rs ts->(∀t∈ts,t.ok)->(∀M',Ext M M'->M' p=some (.lst (acc++ts.flatMap CT.leans))->Q (.ref p) M') ->
   aq (λ_=>True) (.nm 2) (wSs cn eZ) { nx:=wSs cn eY (fin Q),rt:=Q } (ak rs) [some (.tup (ak rs0)),↑p,v] M1:=by
  intro rs ts v M1 acc e1 hp1 hl hc;induction hc generalizing v M1 acc with
  |nil=>
   intro _ q;rw[show ak []=[] from rfl,aq];unfold eY;simp! only[];exact q M1 e1 (by simpa using hp1)
  |@cons r t rs ts hr _ ih=>
   intro ho q;rw[show ak (r::rs)=.ref r::ak rs from rfl,aq];have hr1:M1 r=some (.ins (c.at t.kind) t.flds):=e1 r _ hr;have hot:=ho t (.head _);have hlt:=BA hot;unfold eZ;simp! only[List.set,hr1,hp1,hT,xZ];refine⟨rfl,trivial,r,t,rfl,hot,rfl,hr1,λp2 M2 hp2 e2 g2=>?_⟩;have hp3:=e2 p _ hp1;simp only[hp3,g2];rw[YH] at hl;have h42:(42:Nat)<=sizeLine:=by decide
   refine⟨by omega,trivial,?_⟩;have hMp:M p=none:=hp;have e3:Ext M (updM M2 p (.lst (acc++t.leans))):=(e1.trans e2).put hMp;refine ih _ _ (acc++t.leans) e3 aa (by rw[ZJ];omega) (λt' h'=>ho t' (.tail _ h')) λM' e' g'=>q M' e' ?_
   rw[List.flatMap_cons,←List.append_assoc];exact g'
 exact key rs0 ts0 none _ [] (Ext.new hp) aa (by simp;omega) hc ho λM' e' g'=>q p M' hp e' (by simpa using g')
end
def bO(M:MH)(ps:Zh)(L:Nat->MO):Prop:=∀f r,ps[f]?=some r->M r=some (L f)
theorem bO.ext{M M':MH}{ps:Zh}{L:Nat->MO}(e:Ext M M')(h:bO M ps L):bO M' ps L:=λf r q=>e r _ (h f r q)
theorem BB{α:Type}{ps:List α}{i j:Nat}{a:α}(nd:ps.Nodup)(h1:ps[i]?=some a)(h2:ps[j]?=some a):i=j:=
 (List.getElem?_inj (YC.mp h1).1 nd).1 (h1.trans h2.symm)
theorem bO.put{M:MH}{ps:Zh}{L L':Nat->MO}{h:Nat}{r:Addr}{o:MO}(nd:ps.Nodup)(hr:ps[h]?=some r)(s:bO M ps L)(e1:L' h=o)(e2:∀f,f≠h->L' f=L f):bO (updM M r o) ps L':=λf r' q=>by
 by_cases e:f=h
 ·subst e
  rw[hr] at q;cases q;rw[aa,e1]
 ·have:r'≠r:=λz=>by subst z;exact e (BB nd q hr)
  rw[aB this,e2 f e];exact s f r' q
theorem qA{ps:Zh}{f:Nat}{r:Addr}(h:ps[f]?=some r):atI (ak ps) (f:Int)=↑r:=cN (by unfold ak;rw[ZF,h];rfl)
theorem tB(m:Nat):(a8 0 (m:Int)).length=m:=by unfold a8;rw[ZE,ZI];omega
theorem iX(fs:Zj):(nats fs).length=fs.length:=by unfold nats;rw[ZE]
theorem og{i:Nat}{c:WT}{e:WE}{o:MO}{F:List D->MH->Prop}(M0:MH)(hc:∀σ M Q,Q true M->c σ M Q)(he:∀σ M Q,(∀p,M p=none->Q (.ref p) (updM M p o))->e σ M Q):∀(xs:List D) (ps:Zh) (σ:DS) (M:MH),Ext M0 M->ps.Nodup->(∀p∈ps,M0 p=none/\M p=some o) ->
  (∀ps' M',Ext M0 M'->ps'.Nodup->ps'.length=ps.length+xs.length->(∀p∈ps',M0 p=none/\M' p=some o)->F (ak ps') M')->ax (λ_=>True) (.nm i) c e F xs (ak ps) σ M
 |[],ps,σ,M,e1,nd,hp,q=>q ps M e1 nd rfl hp
 |x::xs,ps,σ,M,e1,nd,hp,q=>by
  rw[ax];show c _ M _;refine hc _ _ _ ?_;rw[aH];refine he _ _ _ λp hn=>⟨trivial,?_⟩
  have:ak ps++[D.ref p]=ak (ps++[p]):=by unfold ak;rw[ZK];rfl
  rw[this];refine og M0 hc he xs (ps++[p]) _ _ (e1.then hn) ?_ ?_ ?_
  ·rw[List.nodup_append]
   refine⟨nd,by simp,λa ha b hb z=>?_⟩;have hb:b=p:=by simpa using hb
   subst hb;subst z
   have:=(hp a ha).2
   rw[hn] at this;cases this
  ·intro a ha
   rw[YB] at ha;rcases ha with ha | ha
   ·exact⟨(hp a ha).1,(Ext.new hn) a _ (hp a ha).2⟩
   ·have ha:a=p:=by simpa using ha
    subst ha;exact⟨e1.free hn,aa⟩
  ·intro ps' M' a b d f
   refine q ps' M' a b ?_ f;rw[d,ZJ,YH,YH,YS];omega
def bV(hs:Zj)(k f:Nat):List Nat:=(List.range k).filter λr=>decide (hs[r]?=some f)
theorem tD{hs:Zj}{k h:Nat}(f:Nat)(e:hs[k]?=some h):bV hs (k+1) f=bV hs k f++(if f=h then[k] else[]):=by
 unfold bV;rw[List.range_succ,List.filter_append];congr 1;by_cases q:f=h
 ·subst q;simp[e]
 ·have:h≠f:=λz=>q z.symm
  simp[e,q,this]
theorem xa(hs:Zj)(k f:Nat):(bV hs k f).length<=k:=by
 have:=List.length_filter_le (λr=>decide (hs[r]?=some f)) (List.range k)
 rw[ZI] at this;exact this
def gW:SpD:=λds M Q=>∃(m:Nat) (hs:Zj),ds=[⇑m,.tup (nats hs)]/\m<=1000/\hs.length<=1000/\(∀h∈hs,h<m) /\
 ∀p ps M',M p=none->Ext M M'->M' p=some (.lst (ak ps))->ps.length=m->bO M' ps (λf=>.lst (nats (bV hs hs.length f)))->Q (.ref p) M'
def fb:Ss:=#v[.ret (.var 2)]
def fg:Ss:=#v[.expr (.mt .append (.ix (.var 2) (.var 4)) #v[.var 3])]
def jU:Ss:=.cons (.for (.tp [3,4]) (.enum #v[.var 1]) fg) fb
def gX:Ss:=.cons (.setC 2 1 (.lst .nil) (.nm 5) (.rg1 #v[.var 0]) .no) jU
def cK:Ss:=#v[.ret (.comp 1 (.bk .list #v[.var 7]) (.nm 7) (.seq (.var 2)) .no)]
def fh:Ss:=#v[.ite (.not (.val (.var 6))) #v[.putIx (.ix (.var 2) (.var 5)) (.var 3) (.bl true)] .nil]
def fj:Ss:=#v[.for (.tp [5,6]) (.seq (.var 4)) fh]
def jV:Ss:=.cons (.for (.tp [3,4]) (.enum #v[.var 1]) fj) cK
def dJ:Ss:=.cons (.setC 2 1 .dnew (.nm 7) (.rg1 #v[.var 0]) .no) jV
def CT.leanP:CT->List (Bool×Int)
 |.hav f=>[(false,f)]
 |.lck f=>[(true,f)]
 |.som _ fs=>fs.map λf=>(false,f)
 |.led fs k=>(fs.take k).map (λf=>(true,f))++[(false,fs.getD k 0)]
def pairD(x:Bool×Int):D:=b0 x.1 x.2
theorem Dg(t:CT):t.leans=t.leanP.map pairD:=by
 cases t with
 |hav f=>rfl
 |lck f=>rfl
 |som n fs=>show fs.map (b0 false)=(fs.map λf=>(false,f)).map pairD;rw[ZL];rfl
 |led fs k=>show(fs.take k).map (b0 true)++[b0 false (fs.getD k 0)]=((fs.take k).map (λf=>(true,f))++[(false,fs.getD k 0)]).map pairD;rw[ZK,ZL];rfl
theorem z7(ts:List CT):ts.flatMap CT.leans=(ts.flatMap CT.leanP).map pairD:=by
 rw[List.map_flatMap];congr 1
 funext t;exact Dg t
theorem getD_mem{fs:Zi}{k:Nat}(h:k<fs.length):fs.getD k 0∈fs:=by
 have:fs.getD k 0=fs[k]:=by simp[List.getD,ZC h]
 rw[this];exact List.getElem_mem h
theorem vc{m:Int}{t:CT}(h:t.fit m):∀x∈t.leanP,0<=x.2/\x.2<m:=by
 cases t with
 |hav f=>
  intro x hx;have:x=(false,f):=by simpa [CT.leanP] using hx
  subst this;exact h
 |lck f=>
  intro x hx;have:x=(true,f):=by simpa [CT.leanP] using hx
  subst this;exact h
 |som n fs=>
  intro x hx;obtain⟨f,hf,rfl⟩:=XU.1 hx;exact h.2.2.2 f hf
 |led fs k=>
  intro x hx;rcases YB.1 hx with hx | hx
  ·obtain⟨f,hf,rfl⟩:=XU.1 hx
   exact h.2.2 f (List.mem_of_mem_take hf)
  ·have:x=(false,fs.getD k 0):=by simpa using hx
   subst this;exact h.2.2 _ (getD_mem h.1.1)
def aW(l:Zs)(f:Nat):Bool:=decide ((false,(f:Int))∈l)
def bB(ls:List (List (Bool×Int)))(k f:Nat):List Nat:=(List.range k).filter λr=>aW (ls.getD r []) f
theorem z8{ls:List (List (Bool×Int))}{k:Nat}{l:Zs}(f:Nat)(e:ls[k]?=some l):bB ls (k+1) f=bB ls k f++(if aW l f=true then[k] else[]):=by
 unfold bB;rw[List.range_succ,List.filter_append];congr 1;have e2:ls.getD k []=l:=by rw[List.getD_eq_getElem?_getD,e];rfl
 rw[XT,e2,List.filter_nil]
theorem xb{ls:List (List (Bool×Int))}{k f r:Nat}(h:r∈bB ls k f):r<k:=ZW.1 (ZV.1 h).1
theorem Dh(ls:List (List (Bool×Int)))(k f:Nat):(bB ls k f).length<=k:=by
 have:=List.length_filter_le (λr=>aW (ls.getD r []) f) (List.range k)
 rw[ZI] at this;exact this
def rowK(rs:Zj):List (Key×D):=rs.map λ(r:Nat)=>(.inl (r:Int),.bl true)
theorem BC(rs:Zj):keysOf (rowK rs)=nats rs:=by unfold keysOf rowK nats;rw[ZL];rfl
theorem Di(rs:Zj)(r:Nat):((rowK rs).any λkv=>decide (kv.1=(.inl (r:Int):Key)))=decide (r∈rs):=by
 induction rs with
 |nil=>simp[rowK]
 |cons a rs ih=>
  have:rowK (a::rs)=(.inl (a:Int),.bl true)::rowK rs:=rfl
  rw[this,XE,ih];by_cases e:a=r
  ·subst e;simp
  ·have h1:r≠a:=λz=>e z.symm
   have h2:¬((a:Int)=(r:Int)):=by omega
   simp[h1,h2]
theorem xc(rs:Zj)(r:Nat):putD (rowK rs) (.inl (r:Int)) (.bl true)=rowK (if r∈rs then rs else rs++[r]):=by
 unfold putD;rw[Di];by_cases e:r∈rs
 ·rw[if_pos (YT e),if_pos e]
  unfold rowK;rw[ZL];refine ZM λa _=>?_
  show(if(Sum.inl (a:Int):Key)=.inl (r:Int) then _ else _)=_;split<;>rfl
 ·rw[if_neg (by simpa using e),if_neg e]
  unfold rowK;rw[ZK];rfl
def gY:SpD:=λds M Q=>∃(m:Nat) (pl:Addr) (rs:Zh) (ls:List (List (Bool×Int))),ds=[⇑m,.ref pl]/\M pl=some (.lst (ak rs))/\rs.length=ls.length/\(∀(k:Nat) (r:Addr) (l:Zs),rs[k]?=some r->ls[k]?=some l->M r=some (.lst (l.map pairD)))/\m<=1000/\ls.length<=1000/\(∀l∈ls,∀x∈l,0<=x.2/\x.2<(m:Int)) /\
 ∀p ps M',M p=none->Ext M M'->M' p=some (.lst (ak ps))->ps.length=m->bO M' ps (λf=>.lst (nats (bB ls ls.length f)))->Q (.ref p) M'
section
variable {cn:Cn}{ds:List D}{M:MH}{Q:DK}
theorem tE(h:gW ds M Q):wSs cn gX (fin Q) (af ["","","","",""] ds) M:=by
 obtain⟨m,hs,rfl,hm,hl,hh,q⟩:=h;show wSs cn gX (fin Q) [~~~m,some (.tup (nats hs)),none,none,none] M;unfold gX;simp! only[List.cons_append,XA,List.replicate];refine⟨⟨by omega,by omega⟩,?_⟩;refine og (o:=.lst []) M (λ_ _ _ h=>h) (λ_ _ _ h=>h) (a8 0 (m:Int)) [] _ M (Ext.refl M) .nil (λp hp=>nomatch hp) ?_;intro ps M1 e1 nd hlen hps p hp;rw[tB,YS,Nat.zero_add] at hlen;have hpn:M p=none:=e1.free hp;have hne:∀r∈ps,r≠p:=λr hr=>bd (hps r hr).2 hp
 have e2:Ext M (updM M1 p (.lst (ak ps))):=e1.then hp;have g2:updM M1 p (MO.lst (ak ps)) p=some (.lst (ak ps)):=aa;have s2:bO (updM M1 p (MO.lst (ak ps))) ps (λf=>.lst (nats (bV hs 0 f))):=λf r hr=>(Ext.new hp) r _ (hps r (YR hr)).2
 generalize updM M1 p (MO.lst (ak ps))=M2 at *;unfold jU;simp! only[List.set];have key:∀(rest:Zj) (k:Nat) (v3 v4:Zz) (M3:MH),hs.drop k=rest->k<=hs.length->Ext M M3->M3 p=some (.lst (ak ps))->bO M3 ps (λf=>.lst (nats (bV hs k f))) ->
   aq (λ_=>True) (.tp [3,4]) (wSs cn fg) { nx:=wSs cn fb (fin Q),rt:=Q } (aS (k:Int) (nats rest)) [~~~m,some (.tup (nats hs)),↑p,v3,v4] M3:=by
  intro rest;induction rest with
  |nil=>
   intro k v3 v4 M3 hd hkk e3 g3 s3;rw[show nats []=[] from rfl,aS,aq];unfold fb;simp! only[];have hk:hs.length<=k:=by
    have:=congrArg List.length hd
    rw[List.length_drop,YS] at this;omega
   obtain rfl:k=hs.length:=by omega
   exact q p ps M3 hpn e3 g3 hlen s3
  |cons h rest ih=>
   intro k v3 v4 M3 hd hkk e3 g3 s3;have hk:hs[k]?=some h:=by
    have:=congrArg (·[0]?) hd
    simpa using this
   have hd2:hs.drop (k+1)=rest:=by
    have:=congrArg (List.drop 1) hd
    rw[List.drop_drop] at this;simpa using this
   have hmem:h∈hs:=YR hk;have hkl:k<hs.length:=(YC.mp hk).1;obtain⟨r,hr⟩:∃r,ps[h]?=some r:=⟨ps[h]'(by have:=hh h hmem;omega),ZC (by have:=hh h hmem;omega)⟩;have hrm:=YR hr;rw[show nats (h::rest)=⇑h::nats rest from rfl,aS,aq];unfold fg;simp! only[List.set,g3,qA hr,s3 h r hr,iX];have hsz:(1000:Nat)<sizeLine:=by decide
   have hle:=xa hs k h;refine⟨rfl,rfl,by omega,trivial,?_⟩;rw[show((k:Int)+1)=((k+1:Nat):Int) by simp];refine ih (k+1) _ _ _ hd2 hkl (e3.put (hps r hrm).1) ?_ ?_
   ·rw[aB (hne r hrm).symm];exact g3
   ·refine bO.put nd hr s3 ?_ ?_
    ·show MO.lst _=_
     rw[tD h hk,if_pos rfl];unfold nats;rw[ZK];rfl
    ·intro f hf
     show MO.lst _=_;rw[tD f hk,if_neg hf,ZA]
 exact key hs 0 none none M2 rfl (YL _) e2 g2 s2
def gZ(ls:List (List (Bool×Int)))(k:Nat)(dn:Zs)(f:Nat):MO:=.dic (rowK (bB ls k f++(if aW dn f=true then[k] else[])))
theorem x0(dn:Zs)(g:Int)(f:Nat):aW (dn++[(true,g)]) f=aW dn f:=by
 unfold aW;congr 1;simp
theorem x4(dn:Zs)(f:Nat):aW (dn++[(false,(f:Int))]) f=true:=by
 unfold aW;simp
theorem xf(dn:Zs){g f:Nat}(h:f≠g):aW (dn++[(false,(g:Int))]) f=aW dn f:=by
 unfold aW;congr 1;have:¬(f:Int)=(g:Int):=by omega
 simp[this]
theorem BD(ls:List (List (Bool×Int)))(k:Nat)(dn:Zs)(g:Nat):MO.dic (putD (rowK (bB ls k g++(if aW dn g=true then[k] else[]))) (.inl (k:Int)) (.bl true))=gZ ls k (dn++[(false,(g:Int))]) g:=by
 unfold gZ;rw[xc,x4,if_pos rfl];have hk:k∉bB ls k g:=λz=>absurd (xb z) (ZT _)
 by_cases e:aW dn g=true
 ·rw[if_pos e,if_pos (by simp)]
 ·rw[if_neg e,ZA,if_neg hk]
theorem tF(h:gY ds M Q):wSs cn dJ (fin Q) (af ["","","","","","",""] ds) M:=by
 obtain⟨m,pl,rs,ls,rfl,hpl,hrl,hrs,hm,hl,hf,q⟩:=h;show wSs cn dJ (fin Q) [~~~m,↑pl,none,none,none,none,none] M;unfold dJ;simp! only[List.cons_append,XA,List.replicate];refine⟨⟨by omega,by omega⟩,?_⟩;refine og (o:=.dic []) M (λ_ _ _ h=>h) (λ_ _ _ h=>h) (a8 0 (m:Int)) [] _ M (Ext.refl M) .nil (λp hp=>nomatch hp) ?_;intro ps M1 e1 nd hlen hps p hp;rw[tB,YS,Nat.zero_add] at hlen;have hpn:M p=none:=e1.free hp;have hne:∀r∈ps,r≠p:=λr hr=>bd (hps r hr).2 hp
 have e2:Ext M (updM M1 p (.lst (ak ps))):=e1.then hp;have g2:updM M1 p (MO.lst (ak ps)) p=some (.lst (ak ps)):=aa;have s2:bO (updM M1 p (MO.lst (ak ps))) ps (gZ ls 0 []):=λf r hr=>(Ext.new hp) r _ (hps r (YR hr)).2
 generalize updM M1 p (MO.lst (ak ps))=M2 at *;unfold jV;simp! only[List.set,e2 pl _ hpl];have last:∀(v3 v4 v5 v6:Zz) (M3:MH),Ext M M3->M3 p=some (.lst (ak ps))->bO M3 ps (gZ ls ls.length [])->wSs cn cK (fin Q) [~~~m,↑pl,↑p,v3,v4,v5,v6] M3:=by
  intro v3 v4 v5 v6 M3 e3 g3 s3;unfold cK;simp! only[g3,List.cons_append,XA,List.replicate,dBk,gJ];have key:∀(rest:Zh) (k:Nat) (qs:Zh) (v:Zz) (M4:MH),ps.drop k=rest->k<=ps.length->qs.length=k->Ext M3 M4->bO M4 qs (λf=>.lst (nats (bB ls ls.length f))) ->
    ax (λM'=>M' p=some (.lst (ak ps))) (.nm 7) (wTo cn .no) (wE cn (.bk .list (.cons (.var 7) .nil))) (λds M'=>∀p,M' p=none->Q (.ref p) (updM M' p (.lst ds))) (ak rest) (ak qs) [~~~m,↑pl,↑p,v3,v4,v5,v6,v] M4:=by
   intro rest;induction rest with
   |nil=>
    intro k qs v M4 hd hkk hq e4 s4;rw[show ak []=[] from rfl,ax];intro p2 hp2;have hk:ps.length<=k:=by
     have:=congrArg List.length hd
     rw[List.length_drop,YS] at this;omega
    exact q p2 qs _ ((e3.trans e4).free hp2) ((e3.trans e4).then hp2) aa 'b' (s4.ext (Ext.new hp2))
   |cons r rest ih=>
    intro k qs v M4 hd hkk hq e4 s4;have hk:ps[k]?=some r:=by
     have:=congrArg (·[0]?) hd
     simpa using this
    have hd2:ps.drop (k+1)=rest:=by
     have:=congrArg (List.drop 1) hd
     rw[List.drop_drop] at this;simpa using this
    have hkl:k<ps.length:=(YC.mp hk).1;have hr4:M4 r=some (.dic (rowK (bB ls ls.length k))):=by
     rw[e4 r _ (s3 k r hk)];unfold gZ;rw[if_neg (by unfold aW;simp),ZA]
    rw[show ak (r::rest)=.ref r::ak rest from rfl,ax];simp! only[List.set,dBk,gJ,hr4,rdD,BC];intro p2 hp2;refine⟨(e4.trans (Ext.new hp2)) p _ g3,?_⟩;have:ak qs++[D.ref p2]=ak (qs++[p2]):=by unfold ak;rw[ZK];rfl
    rw[this];refine ih (k+1) (qs++[p2]) _ _ hd2 hkl (by rw[ZJ,hq];rfl) (e4.then hp2) λf r' hr'=>?_
    by_cases hfk:f<qs.length
    ·rw[ZD hfk] at hr'
     exact(Ext.new hp2) r' _ (s4 f r' hr')
    ·rw[ZG 'b'] at hr'
     have hz:f-qs.length=0:=by
      have:=(YC.mp hr').1
      simp only[YH,YS] at this;omega
     rw[hz] at hr';have:p2=r':=by simpa using hr'
     subst this;obtain rfl:f=k:=by omega
     exact aa
  exact key ps 0 [] none M3 rfl (YL _) rfl (Ext.refl M3) (λf r hr=>by simp at hr)
 have outer:∀(rest:Zh) (k:Nat) (v3 v4 v5 v6:Zz) (M3:MH),rs.drop k=rest->k<=rs.length->Ext M M3->M3 p=some (.lst (ak ps))->bO M3 ps (gZ ls k []) ->
   aq (λM'=>M' pl=some (.lst (ak rs))) (.tp [3,4]) (wSs cn fj) { nx:=wSs cn cK (fin Q),rt:=Q } (aS (k:Int) (ak rest)) [~~~m,↑pl,↑p,v3,v4,v5,v6] M3:=by
  intro rest;induction rest with
  |nil=>
   intro k v3 v4 v5 v6 M3 hd hkk e3 g3 s3;rw[show ak []=[] from rfl,aS,aq];have hk:rs.length<=k:=by
    have:=congrArg List.length hd
    rw[List.length_drop,YS] at this;omega
   obtain rfl:k=ls.length:=by omega
   exact last v3 v4 v5 v6 M3 e3 g3 s3
  |cons r rest ih=>
   intro k v3 v4 v5 v6 M3 hd hkk e3 g3 s3;have hk:rs[k]?=some r:=by
    have:=congrArg (·[0]?) hd
    simpa using this
   have hd2:rs.drop (k+1)=rest:=by
    have:=congrArg (List.drop 1) hd
    rw[List.drop_drop] at this;simpa using this
   have hkl:k<rs.length:=(YC.mp hk).1;obtain⟨l,hlk⟩:∃l,ls[k]?=some l:=⟨ls[k]' 'b',ZC 'b'⟩;have hr:=hrs k r l hk hlk;have hfl:=hf l (YR hlk);rw[show ak (r::rest)=.ref r::ak rest from rfl,aS,aq];unfold fj;simp! only[List.set,e3 r _ hr];refine⟨rfl,?_⟩;have inner:∀(rst dn:Zs) (v5 v6:Zz) (M4:MH),l=dn++rst->Ext M M4->M4 p=some (.lst (ak ps))->bO M4 ps (gZ ls k dn)->∀(N:DS->MH->Prop),
     (∀w5 w6 M5,Ext M M5->M5 p=some (.lst (ak ps))->bO M5 ps (gZ ls k l)->N [~~~m,↑pl,↑p,~~~k,↑r,w5,w6] M5) ->
     ∀E:EndsD,E.nx=N ->
     aq (λM'=>M' r=some (.lst (l.map pairD))) (.tp [5,6]) (wSs cn fh) E (rst.map pairD) [~~~m,↑pl,↑p,~~~k,↑r,v5,v6] M4:=by
    intro rst;induction rst with
    |nil=>
     intro dn v5 v6 M4 hdn e4 g4 s4 N hN E hE;rw[ZA] at hdn;subst hdn;rw[YW,aq,hE];exact hN v5 v6 M4 e4 g4 s4
    |cons x rst ih2=>
     intro dn v5 v6 M4 hdn e4 g4 s4 N hN E hE;obtain⟨b,gi⟩:=x;have hx:=hfl (b,gi) (by rw[hdn];simp);obtain⟨g,rfl⟩:∃g:Nat,gi=(g:Int):=⟨gi.toNat,by have:=hx.1;simp only at this;omega⟩;have hgm:g<ps.length:=by have:=hx.2;simp only at this;omega
     obtain⟨z,hz⟩:∃z,ps[g]?=some z:=⟨ps[g],ZC hgm⟩;have hzm:=YR hz;have hdn2:l=(dn++[(b,(g:Int))])++rst:=by rw[hdn];simp
     rw[YJ,show pairD (b,(g:Int))=.tup [⇑g,.bl b] from rfl,aq];unfold fh;cases b with
     |true=>
      simp! only[List.set,XV];refine⟨rfl,e4 r _ hr,ih2 _ _ _ M4 hdn2 e4 g4 (λf r' hr'=>?_) N hN E hE⟩;rw[s4 f r' hr'];unfold gZ;rw[x0]
     |false=>
      have hz4:M4 z=some (.dic (rowK (bB ls k g++(if aW dn g=true then[k] else[])))):=s4 g z hz;simp! only[List.set,Bool.not_false,g4,qA hz,hz4];have hsz:(2000:Nat)<sizeLine:=by decide
      have hle:=Dh ls k g;refine⟨rfl,?_,?_⟩
      ·unfold rowK
       rw[ZE,ZJ];have:(if aW dn g=true then[k] else[]).length<=1:=by split<;>simp
       omega
      have e5:=e4.put (o:=.dic (putD (rowK (bB ls k g++(if aW dn g=true then[k] else[]))) (.inl (k:Int)) (.bl true))) (hps z hzm).1;refine⟨e5 r _ hr,ih2 _ _ _ _ hdn2 e5 ?_ (bO.put nd hz s4 ?_ ?_) N hN E hE⟩
      ·rw[aB (hne z hzm).symm];exact g4
      ·exact(BD ls k dn g).symm
      ·intro f hfg
       unfold gZ;rw[xf dn hfg]
   refine inner l [] v5 v6 M3 rfl e3 g3 s3 _ ?_ _ rfl;intro w5 w6 M5 e5 g5 s5;refine⟨e5 pl _ hpl,?_⟩;rw[show((k:Int)+1)=((k+1:Nat):Int) by simp];refine ih (k+1) _ _ _ _ M5 hd2 hkl e5 g5 λf r' hr'=>?_
   rw[s5 f r' hr'];unfold gZ;rw[z8 f hlk,if_neg (show ¬aW [] f=true by unfold aW;simp),ZA]
 exact outer rs 0 none none none none M2 rfl (YL _) e2 g2 s2
end
abbrev Row:=Nat×List CT
abbrev Zy:=List Row
structure RowsOk (m:Nat) (rows:Zy):Prop where
 most:m<=120
 few:rows.length<=400
 fit:∀x∈rows,x.1<m/\x.2.length<=6/\∀t∈x.2,t.fit (m:Int)
def bW(x:Row):List (Bool×Int):=x.2.flatMap CT.leanP
def aD(rows:Zy):List Nat:=rows.map (·.1)
def aN(crs:Zt):List D:=crs.map λrs=>.tup (ak rs)
def hid(a:Addr)(M:MH):MH:=λb=>if b=a then none else M b
theorem ky(a:Addr)(M:MH)(o:MO):hid a (updM M a o)=hid a M:=by
 funext b;unfold hid updM;split<;>rfl
theorem xg{a b:Addr}{M:MH}(h:b≠a):hid a M b=M b:=if_neg h
theorem bD{a:Addr}{M M':MH}(e:Ext M M'):Ext (hid a M) (hid a M'):=λb o q=>by
 unfold hid at q ⊢;split at q
 ·cases q
 ·rename_i n
  rw[if_neg n];exact e b o q
theorem kW(a:Addr)(M:MH):Ext (hid a M) M:=λb o q=>by
 unfold hid at q;split at q
 ·cases q
 ·exact q
theorem gC{a b S:Addr}{M:MH}{fs:List (Str×D)}{xs:List D}(ha:M a=some (.ins S fs))(hb:M b=some (.lst xs)):hid a M b=some (.lst xs):=by
 rw[xg]
 ·exact hb
 ·intro z;subst z;rw[ha] at hb;cases hb
theorem Fl{a b S:Addr}{M M':MH}{fs:List (Str×D)}{o:MO}(ha:M a=some (.ins S fs))(hb:M b=none)(h:M' b=some o):hid a M' b=some o:=by
 rw[xg]
 ·exact h
 ·intro z;subst z;rw[ha] at hb;cases hb
def ba(M:MH)(rds:List D)(rows:Zy):Prop:=Paired (λd (x:Row)=>∃q,d=.tup [⇑x.1,.ref q]/\M q=some (.lst (x.2.map CT.told))) rds rows
theorem ba.ext{M M':MH}{rds:List D}{rows:Zy}(e:Ext M M')(h:ba M rds rows):ba M' rds rows:=mU (λ_ _ ⟨q,a,b⟩=>⟨q,a,e q _ b⟩) h
theorem ba.hid{a S:Addr}{M:MH}{fs:List (Str×D)}{rds:List D}{rows:Zy}(ha:M a=some (.ins S fs))(h:ba M rds rows):ba (SH.hid a M) rds rows:=mU (λ_ _ ⟨q,a,b⟩=>⟨q,a,gC ha b⟩) h
def gf(c:CA)(M:MH)(crs:Zt)(rows:Zy):Prop:=Paired (λrs (x:Row)=>bM c M rs x.2) crs rows
theorem gf.ext{c:CA}{M M':MH}{crs:Zt}{rows:Zy}(e:Ext M M')(h:gf c M crs rows):gf c M' crs rows:=mU (λ_ _ q=>bM.ext e q) h
def dr(m:Nat)(rows:Zy)(crs:Zt)(p1 p2 p3:Addr):List (Str×D):=[("many",⇑m),("heads",.tup (nats (aD rows))),("conds",.tup (aN crs)),("headed",.ref p1),("leanings",.ref p2),("helped",.ref p3)]
def qB(M:MH)(ps:Zh)(rows:Zy):Prop:=ps.length=rows.length/\∀(k:Nat) (r:Addr) (x:Row),ps[k]?=some r->rows[k]?=some x->M r=some (.lst ((bW x).map pairD))
structure SheetAt (c:CA) (S:Addr) (M:MH) (a:Addr) (m:Nat) (rows:Zy):Prop where
 ok:RowsOk m rows
 ex:∃(crs:Zt) (p1 p2 p3:Addr) (ps1 ps2 ps3:Zh),M a=some (.ins S (dr m rows crs p1 p2 p3))/\gf c M crs rows /\
  (M p1=some (.lst (ak ps1))/\ps1.length=m/\bO M ps1 (λf=>.lst (nats (bV (aD rows) rows.length f)))) /\
  (M p2=some (.lst (ak ps2))/\qB M ps2 rows) /\
  (M p3=some (.lst (ak ps3))/\ps3.length=m/\bO M ps3 (λf=>.lst (nats (bB (rows.map bW) rows.length f))))
theorem SheetAt.ext{c:CA}{S:Addr}{M M':MH}{a:Addr}{m:Nat}{rows:Zy}(e:Ext M M')(h:SheetAt c S M a m rows):SheetAt c S M' a m rows:=by
 obtain⟨ok,crs,p1,p2,p3,ps1,ps2,ps3,h1,h2,⟨h3,h4,h5⟩,⟨h6,h7⟩,h8,h9,h10⟩:=h;exact⟨ok,crs,p1,p2,p3,ps1,ps2,ps3,e _ _ h1,h2.ext e,⟨e _ _ h3,h4,h5.ext e⟩,⟨e _ _ h6,h7.1,λk r x q1 q2=>e _ _ (h7.2 k r x q1 q2)⟩,e _ _ h8,h9,h10.ext e⟩
def hJ:List Str:=["many","heads","conds","headed","leanings","helped"]
def jf(c:CA)(S:Addr):SpD:=λds M Q=>∃(a:Addr) (m:Nat) (pr:Addr) (rds:List D) (rows:Zy),ds=[.ref a,⇑m,.ref pr]/\M a=some (.ins S [])/\M pr=some (.lst rds)/\ba M rds rows/\RowsOk m rows /\
 ∀M',ExtBut a M M'->SheetAt c S M' a m rows->Q .non M'
def c5(c:CA)(S:Addr):SpD:=λds M Q=>∃(a:Addr) (m:Nat) (rows:Zy),ds=[.ref a]/\SheetAt c S M a m rows/\Q (⇑m) M
def dX(c:CA)(S:Addr):SpD:=λds M Q=>∃(a:Addr) (m:Nat) (rows:Zy) (f:Nat),ds=[.ref a,⇑f]/\SheetAt c S M a m rows/\f<m/\∀p M',M p=none->Ext M M'->M' p=some (.lst (nats (bV (aD rows) rows.length f)))->Q (.ref p) M'
def dY(c:CA)(S:Addr):SpD:=λds M Q=>∃(a:Addr) (m:Nat) (rows:Zy) (f:Nat),ds=[.ref a,⇑f]/\SheetAt c S M a m rows/\f<m/\∀p M',M p=none->Ext M M'->M' p=some (.lst (nats (bB (rows.map bW) rows.length f)))->Q (.ref p) M'
def gg(c:CA)(S:Addr):SpD:=λds M Q=>∃(a:Addr) (m:Nat) (rows:Zy) (r:Nat) (x:Row),ds=[.ref a,⇑r]/\SheetAt c S M a m rows/\rows[r]?=some x/\Q (⇑x.1) M
def c8(c:CA)(S:Addr):SpD:=λds M Q=>∃(a:Addr) (m:Nat) (rows:Zy) (r:Nat) (x:Row),ds=[.ref a,⇑r]/\SheetAt c S M a m rows/\rows[r]?=some x/\∀p rs M',M p=none->Ext M M'->M' p=some (.lst (ak rs))->bM c M' rs x.2->Q (.ref p) M'
def fm:Ss:=#v[.ret (.fld (.var 0) "many")]
def fq:Ss:=#v[.ret (.bk .list #v[.ix (.fld (.var 0) "headed") (.var 1)])]
def de:Ss:=#v[.ret (.bk .list #v[.ix (.fld (.var 0) "helped") (.var 1)])]
def gh:Ss:=#v[.ret (.ix (.fld (.var 0) "heads") (.var 1))]
def fu:Ss:=#v[.ret (.bk .list #v[.ix (.fld (.var 0) "conds") (.var 1)])]
section
variable {m:Nat}{rows:Zy}{crs:Zt}{p1 p2 p3:Addr}
theorem Fm:(dr m rows crs p1 p2 p3).lookup ("many" : Str)= ~~~m:=rfl
theorem xh:(dr m rows crs p1 p2 p3).lookup ("heads" : Str)=some (.tup (nats (aD rows))):=rfl
theorem Dj:(dr m rows crs p1 p2 p3).lookup ("conds" : Str)=some (.tup (aN crs)):=rfl
theorem BE:(dr m rows crs p1 p2 p3).lookup ("headed" : Str)=↑p1:=rfl
theorem BF:(dr m rows crs p1 p2 p3).lookup ("helped" : Str)=↑p3:=rfl
end
section
variable {cn:Cn}{c:CA}{S:Addr}{ds:List D}{M:MH}{Q:DK}
theorem x9(hO:∀f∈hJ,cn.O S f)(h:c5 c S ds M Q):wSs cn fm (fin Q) (af [""] ds) M:=by
 obtain⟨a,m,rows,rfl,⟨ok,crs,p1,p2,p3,ps1,ps2,ps3,h1,-⟩,q⟩:=h;show wSs cn fm (fin Q) [↑a] M;unfold fm;simp! only[h1,Fm];exact⟨hO _ 'e',q⟩
theorem ya(hO:∀f∈hJ,cn.O S f)(h:dX c S ds M Q):wSs cn fq (fin Q) (af ["",""] ds) M:=by
 obtain⟨a,m,rows,f,rfl,⟨ok,crs,p1,p2,p3,ps1,ps2,ps3,h1,-,⟨h3,h4,h5⟩,-,-⟩,hf,q⟩:=h;show wSs cn fq (fin Q) [↑a,~~~f] M;have hz:ps1[f]?=some (ps1[f]' 'b'):=ZC 'b';unfold fq;simp! only[h1,BE,h3,qA hz,dBk,gJ,h5 f _ hz,rdD,rdL];exact⟨hO _ 'e',λp hp=>q p _ hp (Ext.new hp) aa⟩
theorem uq(hO:∀f∈hJ,cn.O S f)(h:dY c S ds M Q):wSs cn de (fin Q) (af ["",""] ds) M:=by
 obtain⟨a,m,rows,f,rfl,⟨ok,crs,p1,p2,p3,ps1,ps2,ps3,h1,-,-,-,h3,h4,h5⟩,hf,q⟩:=h;show wSs cn de (fin Q) [↑a,~~~f] M;have hz:ps3[f]?=some (ps3[f]' 'b'):=ZC 'b';unfold de;simp! only[h1,BF,h3,qA hz,dBk,gJ,h5 f _ hz,rdD,rdL];exact⟨hO _ 'e',λp hp=>q p _ hp (Ext.new hp) aa⟩
theorem z9(hO:∀f∈hJ,cn.O S f)(h:gg c S ds M Q):wSs cn gh (fin Q) (af ["",""] ds) M:=by
 obtain⟨a,m,rows,r,x,rfl,⟨ok,crs,p1,p2,p3,ps1,ps2,ps3,h1,-⟩,hr,q⟩:=h;show wSs cn gh (fin Q) [↑a,~~~r] M;have hz:atI (nats (aD rows)) (r:Int)= ~~~x.1:=cN (by unfold nats aD;rw[ZF,ZF,hr];rfl);unfold gh;simp! only[h1,xh,hz];exact⟨hO _ 'e',q⟩
theorem yS{α β:Type}{F:α->β->Prop}:∀{l:List α}{m:List β}{i:Nat}{b:β},Paired F l m->m[i]?=some b->∃a,l[i]?=some a/\F a b
 |_,_,_,_,.nil,h=>by simp at h
 |_,_,0,_,.cons r _,h=>by
  rw[XQ] at h;cases h;exact⟨_,rfl,r⟩
 |_,_,i+1,_,.cons _ t,h=>yS (i:=i) t (by simpa using h)
theorem yb(hO:∀f∈hJ,cn.O S f)(h:c8 c S ds M Q):wSs cn fu (fin Q) (af ["",""] ds) M:=by
 obtain⟨a,m,rows,r,x,rfl,⟨ok,crs,p1,p2,p3,ps1,ps2,ps3,h1,h2,-⟩,hr,q⟩:=h;show wSs cn fu (fin Q) [↑a,~~~r] M;obtain⟨rs,hrs,hc⟩:=yS h2 hr;have hz:atI (aN crs) (r:Int)=some (.tup (ak rs)):=cN (by unfold aN;rw[ZF,hrs];rfl);unfold fu;simp! only[h1,Dj,hz,dBk,gJ];exact⟨hO _ 'e',λp hp=>q p rs _ hp (Ext.new hp) aa (hc.ext (Ext.new hp))⟩
end
def lI:Ss:=#v[.setF (.var 0) "helped" (.fn 0 #v[.var 1,.fld (.var 0) "leanings"])]
def lJ:Ss:=.cons (.setF (.var 0) "leanings" (.comp 1 (.fn 1 #v[.var 5]) (.nm 5) (.seq (.fld (.var 0) "conds")) .no)) lI
def lK:Ss:=.cons (.setF (.var 0) "headed" (.fn 2 #v[.var 1,.fld (.var 0) "heads"])) lJ
def lL:Ss:=.cons (.setF (.var 0) "conds" (.bi .tuple #v[.comp 1 (.bi .tuple #v[.comp 1 (.fn 3 #v[.var 6]) (.nm 6) (.seq (.ix (.var 5) (.int 1))) .no]) (.nm 5) (.seq (.var 2)) .no])) lK
def lM:Ss:=.cons (.setF (.var 0) "heads" (.bi .tuple #v[.comp 1 (.ix (.var 5) (.int 0)) (.nm 5) (.seq (.var 2)) .no])) lL
def dL:Ss:=.cons (.setF (.var 0) "many" (.var 1)) lM
def dM:Ss:=#v[.ite (.not (.val (.fn 4 #v[.var 4,.var 1]))) #v[.never] .nil]
def lN:Ss:=.cons (.for (.tp [3,4]) (.enum #v[.var 2]) dM) dL
def jE(j l:Nat):Ss:=.cons (.ite (.or (.not (.val (.fn 5 #v[.var 1,.bin .Add (.glob j) (.int 1)]))) (.or (.not (.val (.bi .isinst #v[.var 2,.ty "list"]))) (.cmp .Gt (.bi .len #v[.var 2]) (.glob l)))) #v[.never] .nil) lN
abbrev sF1(x:D):List (Str×D):=[("many",x)]
abbrev sF2(x y:D):List (Str×D):=[("many",x),("heads",y)]
abbrev sF3(x y z:D):List (Str×D):=[("many",x),("heads",y),("conds",z)]
abbrev sF4(x y z u:D):List (Str×D):=[("many",x),("heads",y),("conds",z),("headed",u)]
abbrev sF5(x y z u v:D):List (Str×D):=[("many",x),("heads",y),("conds",z),("headed",u),("leanings",v)]
abbrev sF6(x y z u v w:D):List (Str×D):=[("many",x),("heads",y),("conds",z),("headed",u),("leanings",v),("helped",w)]
theorem pf0(x:D):bJ ("many" : Str) x []=sF1 x:=rfl
theorem pf1(x y:D):bJ ("heads" : Str) y (sF1 x)=sF2 x y:=rfl
theorem pf2(x y z:D):bJ ("conds" : Str) z (sF2 x y)=sF3 x y z:=rfl
theorem pf3(x y z u:D):bJ ("headed" : Str) u (sF3 x y z)=sF4 x y z u:=rfl
theorem pf4(x y z u v:D):bJ ("leanings" : Str) v (sF4 x y z u)=sF5 x y z u v:=rfl
theorem pf5(x y z u v w:D):bJ ("helped" : Str) w (sF5 x y z u v)=sF6 x y z u v w:=rfl
theorem lf2(x y z:D):List.lookup ("heads" : Str) (sF3 x y z)=some y:=rfl
theorem lf3(x y z u:D):List.lookup ("conds" : Str) (sF4 x y z u)=some z:=rfl
theorem lf4(x y z u v:D):List.lookup ("leanings" : Str) (sF5 x y z u v)=some v:=rfl
theorem Dk{M:MH}{rds:List D}{rows:Zy}(h:ba M rds rows):([]++rds.map λd=>match d with | .tup (h::_)=>h | _=>.non)=nats (aD rows):=by
 rw[XA];induction h with
 |nil=>rfl
 |@cons d x ds rs hd _ ih=>
  obtain⟨q1,rfl,-⟩:=hd;rw[YJ,ih];rfl
section
variable {cn:Cn}{c:CA}{S:Addr}
theorem vd{g:MH->Prop}{tc:WT}{te:WE}{F:List D->MH->Prop}{a:Addr}{fs:List (Str×D)}{σ0:DS}{i:Nat}{M0:MH}(hc:∀σ M Q,Q true M->tc σ M Q)(hg:∀M,Ext M0 M->g M)
  (he:∀(t:CT) (M:MH) (Q:DK),(∀p M',M p=none->Ext M M'->M' p=some (t.obj c)->Q (.ref p) M')->te (σ0.set i (some (CT.told t))) M Q) (hset:∀v w:Option D,(σ0.set i v).set i w=σ0.set i w) (h0:M0 a=some (.ins S fs)):
  ∀(ts:List CT) (dn:List CT) (rs:Zh) (v:Zz) (M:MH),Ext M0 M->bM c (hid a M) rs dn->(∀rs' M',Ext M0 M'->bM c (hid a M') rs' (dn++ts)->F (ak rs') M')->ax g (.nm i) tc te F (ts.map CT.told) (ak rs) (σ0.set i v) M
 |[],dn,rs,v,M,e,h,q=>by
  rw[ZA] at q;exact q rs M e h
 |t::ts,dn,rs,v,M,e,h,q=>by
  rw[YJ,ax];show tc _ M _;refine hc _ _ _ ?_;rw[aH,hset];refine he t M _ λp M' hp e' hM'=>⟨hg _ (e.trans e'),?_⟩
  have:ak rs++[D.ref p]=ak (rs++[p]):=by unfold ak;rw[ZK];rfl
  rw[this];refine vd hc hg he hset h0 ts (dn++[t]) (rs++[p]) _ M' (e.trans e') ?_ (by simpa using q);exact bq (h.ext (bD e')) (.cons (Fl (e a _ h0) hp hM') .nil)
variable {ds:List D}{M:MH}{Q:DK}{j l:Nat}
theorem vv(hO:∀f∈hJ,cn.O S f)(f0:cn.F.getD 0 Yl=gY)(f1:cn.F.getD 1 Yl=dq c)(f2:cn.F.getD 2 Yl=gW)(f3:cn.F.getD 3 Yl=gT c)(f4:cn.F.getD 4 Yl=qz)(f5:cn.F.getD 5 Yl=cm)
  (gj:cn.G.getD j .non=.int 120) (gl:cn.G.getD l .non=.int 400) (h:jf c S ds M Q):wSs cn (jE j l) (fin Q) (af ["","","","",""] ds) M:=by
 obtain⟨a,m,pr,rds,rows,rfl,ha,hpr,hR,ok,q⟩:=h;show wSs cn (jE j l) (fin Q) [↑a,~~~m,↑pr,none,none] M;have okm:=ok.most;have okn:=ok.few;have hrl:rds.length=rows.length:=mT hR;unfold jE;simp_all! only[List.set,tyD,hpr,f5,gj,gl];refine⟨(m:Int),120+1,rfl,?_⟩;have h1:decide (0<=(m:Int))=true:=YT 'b';have h2:decide ((m:Int)<120+1)=true:=YT 'b';simp only[h1,h2,Bool.and_self,XV,ao,aH];refine⟨by decide,?_⟩;simp only[hpr,kU,XV,ao];have b2:decide ((400:Int)<(rds.length:Int))=false:=ZQ 'b';simp only[b2,ao];unfold lN;simp_all! only[List.set,hpr];have rest:∀(v3 v4:Zz) (M1:MH),Ext M M1->wSs cn dL (fin Q) [↑a,~~~m,↑pr,v3,v4] M1:=by
  intro v3 v4 M1 e1;have ha1:=e1 _ _ ha;have R1:ba (hid a M1) rds rows:=(hR.ext e1).hid ha1;have hpr1:hid a M1 pr=some (.lst rds):=gC ha1 (e1 _ _ hpr);have x1:Ext (hid a M) (hid a M1):=bD e1;unfold dL;simp_all! only[List.set,ha1,pf0];refine⟨⟨hO _ 'e',by decide⟩,?_⟩;have ha2:updM M1 a (MO.ins S (sF1 (⇑m))) a=some (.ins S (sF1 (⇑m))):=aa;have hh:=ky a M1 (MO.ins S (sF1 (⇑m)));generalize updM M1 a (MO.ins S (sF1 (⇑m)))=M2 at *;rw[←hh] at R1 hpr1 x1;clear hh ha1 e1;clear M1;have hpr2:=kW a M2 _ _ hpr1
  -- heads
  unfold lM;simp_all! only[List.set,List.cons_append,XA,List.replicate,hpr2];refine bX (f:=λd=>match d with | .tup (h::_)=>h | _=>.non) (ok:=λσ=>∃v,σ=[↑a,~~~m,↑pr,v3,v4,v]) [] _ ⟨none,rfl⟩ ?_ ?_
  ·intro d hd σ acc rst ⟨v,hv⟩ k
   subst hv;obtain⟨i,hi⟩:=XR hd;obtain⟨x,-,q1,rfl,-⟩:=cO R1 hi;rw[ax];simp_all! only[List.set,at0];exact⟨hpr2,k _ ⟨_,rfl⟩⟩
  intro p hp;have heads:=Dk R1;rw[heads];have e3:=Ext.new (o:=MO.lst (nats (aD rows))) hp;have g3:updM M2 p (MO.lst (nats (aD rows))) p=some (.lst (nats (aD rows))):=aa;generalize updM M2 p (MO.lst (nats (aD rows)))=M3 at *;have ha3:=e3 _ _ ha2;simp only[g3,rdL,ha3,pf1];refine⟨⟨hO _ 'e',(by decide:(1:Nat)<1000)⟩,?_⟩;have x3:Ext (hid a M) (hid a M3):=x1.trans (bD e3);have R3:=R1.ext (bD (a:=a) e3);have hpr3:=bD (a:=a) e3 _ _ hpr1;clear R1 hpr1 x1 ha2 e3 g3 hpr2 hp heads;clear M2;have ha4:updM M3 a (MO.ins S (sF2 (⇑m) (.tup (nats (aD rows))))) a=some (.ins S (sF2 (⇑m) (.tup (nats (aD rows))))):=aa;have hh:=ky a M3 (MO.ins S (sF2 (⇑m) (.tup (nats (aD rows)))));generalize updM M3 a (MO.ins S (sF2 (⇑m) (.tup (nats (aD rows)))))=M4 at *;rw[←hh] at R3 hpr3 x3;clear hh ha3;clear M3;have hpr4:=kW a M4 _ _ hpr3
  -- conds
  unfold lL;simp_all! only[List.set,List.cons_append,XA,List.replicate,hpr4];have hm:∀(x:Row) (q1:Addr) (M5:MH) (K:DK),M5 a=some (.ins S (sF2 (⇑m) (.tup (nats (aD rows)))))->M5 q1=some (.lst (x.2.map CT.told))->(∀rs M6,Ext M5 M6->bM c (hid a M6) rs x.2->K (.tup (ak rs)) M6) ->
    wE cn (.bi .tuple (.cons (.comp 1 (.fn 3 (.cons (.var 6) .nil)) (.nm 6) (.seq (.ix (.var 5) (.int 1))) .no) .nil)) [↑a,~~~m,↑pr,v3,v4,some (.tup [⇑x.1,.ref q1])] M5 K:=by
   intro x q1 M5 K ha5 hq1 k;simp_all! only[List.set,List.cons_append,XA,List.replicate,at1,hq1,f3];refine vd (c:=c) (S:=S) (a:=a) (M0:=M5) (i:=6) (σ0:=[↑a,~~~m,↑pr,v3,v4,some (.tup [⇑x.1,.ref q1]),none]) (λ_ _ _ h=>h) (λM6 e6=>e6 _ _ hq1) ?_ (λ_ _=>rfl) ha5 x.2 [] [] none M5 (Ext.refl M5) .nil ?_
   ·intro t M6 K2 k2
    exact⟨t,rfl,k2⟩
   ·intro rs M6 e6 hc6 p hp
    rw[aa];exact k rs _ (e6.then hp) (hc6.ext (bD (Ext.new hp)))
  have conds:∀(F:List D->MH->Prop) (xs:List D) (rrs dn:Zy) (crs:Zt) (v:Zz) (M5:MH),ba (hid a M4) xs rrs->Ext M4 M5->gf c (hid a M5) crs dn->(∀crs' M6,Ext M4 M6->gf c (hid a M6) crs' (dn++rrs)->F (aN crs') M6) ->
    ax (λM'=>M' pr=some (.lst rds)) (.nm 5) (wTo cn .no) (wE cn (.bi .tuple (.cons (.comp 1 (.fn 3 (.cons (.var 6) .nil)) (.nm 6) (.seq (.ix (.var 5) (.int 1))) .no) .nil))) F xs (aN crs) [↑a,~~~m,↑pr,v3,v4,v] M5:=by
   intro F xs rrs dn crs v M5 hp;induction hp generalizing dn crs v M5 with
   |nil=>
    intro e5 h5 k;rw[ax];rw[ZA] at k;exact k crs M5 e5 h5
   |@cons d x xs rrs hd _ ih=>
    intro e5 h5 k;obtain⟨q1,rfl,hq1⟩:=hd;rw[ax];refine hm x q1 M5 _ (e5 _ _ ha4) (e5 _ _ (kW a M4 _ _ hq1)) λrs M6 e6 hc6=>⟨(e5.trans e6) _ _ hpr4,?_⟩
    have:aN crs++[D.tup (ak rs)]=aN (crs++[rs]):=by unfold aN;rw[ZK];rfl
    rw[this];refine ih (dn++[x]) (crs++[rs]) _ M6 (e5.trans e6) (bq (h5.ext (bD e6)) (.cons hc6 .nil)) (by simpa using k)
  refine conds _ rds rows [] [] none M4 R3 (Ext.refl M4) .nil ?_;clear conds hm;intro crs M5 e5 hc5 p hp;rw[XA] at hc5;have e6:=Ext.new (o:=MO.lst (aN crs)) hp;have g6:updM M5 p (MO.lst (aN crs)) p=some (.lst (aN crs)):=aa;generalize updM M5 p (MO.lst (aN crs))=M6 at *;have ha6:=(e5.trans e6) _ _ ha4;simp only[g6,rdL,ha6,pf2];refine⟨⟨hO _ 'e',(by decide:(2:Nat)<1000)⟩,?_⟩;have x6:Ext (hid a M) (hid a M6):=x3.trans (bD (e5.trans e6));have C6:=hc5.ext (bD (a:=a) e6);clear R3 hpr3 x3 ha4 e5 hc5 hp e6 g6 hpr4;clear M4 M5;have ha7:updM M6 a (MO.ins S (sF3 (⇑m) (.tup (nats (aD rows))) (.tup (aN crs)))) a=some (.ins S (sF3 (⇑m) (.tup (nats (aD rows))) (.tup (aN crs)))):=aa;have hh:=ky a M6 (MO.ins S (sF3 (⇑m) (.tup (nats (aD rows))) (.tup (aN crs))));generalize updM M6 a (MO.ins S (sF3 (⇑m) (.tup (nats (aD rows))) (.tup (aN crs))))=M7 at *;rw[←hh] at C6 x6;clear hh ha6;clear M6
  -- headed
  unfold lK;simp_all! only[List.set,ha7,lf2,f2];have hlh:(aD rows).length=rows.length:=by unfold aD;rw[ZE]
  refine⟨hO _ 'e',m,aD rows,rfl,by omega,by omega,?_,?_⟩
  ·intro h hh
   obtain⟨x,hx,rfl⟩:=XU.1 hh;exact(ok.fit x hx).1
  intro p1 ps1 M8 hp1 e8 g8 l8 s8;rw[hlh] at s8;have ha8:=e8 _ _ ha7;simp only[ha8,pf3];refine⟨⟨hO _ 'e',(by decide:(3:Nat)<1000)⟩,?_⟩;have x8:Ext (hid a M) (hid a M8):=x6.trans (bD e8);have C8:=C6.ext (bD (a:=a) e8);have G8:hid a M8 p1=some (.lst (ak ps1)):=gC ha8 g8;have S8:bO (hid a M8) ps1 (λf=>.lst (nats (bV (aD rows) rows.length f))):=λf r hr=>gC ha8 (s8 f r hr)
  clear C6 x6 ha7 hp1 e8 g8 s8;clear M7;have ha9:updM M8 a (MO.ins S (sF4 (⇑m) (.tup (nats (aD rows))) (.tup (aN crs)) (.ref p1))) a=some (.ins S (sF4 (⇑m) (.tup (nats (aD rows))) (.tup (aN crs)) (.ref p1))):=aa;have hh:=ky a M8 (MO.ins S (sF4 (⇑m) (.tup (nats (aD rows))) (.tup (aN crs)) (.ref p1)));generalize updM M8 a (MO.ins S (sF4 (⇑m) (.tup (nats (aD rows))) (.tup (aN crs)) (.ref p1)))=M9 at *;rw[←hh] at C8 x8 G8 S8;clear hh ha8;clear M8
  -- leanings
  unfold lJ;simp_all! only[List.set,List.cons_append,XA,List.replicate,ha9,lf3];refine⟨hO _ 'e',?_⟩;have lean:∀(F:List D->MH->Prop) (cs:Zt) (rrs dn:Zy) (ps:Zh) (v:Zz) (M10:MH),gf c (hid a M9) cs rrs->(∀x∈rrs,x.1<m/\x.2.length<=6/\∀t∈x.2,t.fit (m:Int))->Ext M9 M10->qB M10 ps dn->(∀ps' M11,Ext M9 M11->qB M11 ps' (dn++rrs)->F (ak ps') M11) ->
    ax (λ_=>True) (.nm 5) (wTo cn .no) (wE cn (.fn 1 (.cons (.var 5) .nil))) F (aN cs) (ak ps) [↑a,~~~m,↑pr,v3,v4,v] M10:=by
   intro F cs rrs dn ps v M10 hp;induction hp generalizing dn ps v M10 with
   |nil=>
    intro _ e10 h10 k;rw[show aN []=[] from rfl,ax];rw[ZA] at k;exact k ps M10 e10 h10
   |@cons rs x cs rrs hd _ ih=>
    intro hf e10 h10 k;obtain⟨hx1,hx2,hx3⟩:=hf x (.head _);rw[show aN (rs::cs)=.tup (ak rs)::aN cs from rfl,ax];have go:dq c [.tup (ak rs)] M10 (λy M2=>True/\ax (λ_=>True) (.nm 5) (wTo cn .no) (wE cn (.fn 1 (.cons (.var 5) .nil))) F (aN cs) (ak ps++[y]) [↑a,~~~m,↑pr,v3,v4,some (.tup (ak rs))] M2):=by
     refine⟨rs,x.2,rfl,(hd.ext (kW a M9)).ext e10,λt ht=>CT.fit_ok 'b' (hx3 t ht),hx2,λp M11 hp e11 g11=>⟨trivial,?_⟩⟩;have:ak ps++[D.ref p]=ak (ps++[p]):=by unfold ak;rw[ZK];rfl
     rw[this];refine ih (dn++[x]) (ps++[p]) _ M11 (λy hy=>hf y (.tail _ hy)) (e10.trans e11) ⟨by rw[ZJ,ZJ,h10.1];rfl,λk r y hr hy=>?_⟩ (by simpa using k);by_cases hk:k<ps.length
     ·rw[ZD hk] at hr
      rw[ZD (by rw[←h10.1];exact hk)] at hy;exact e11 _ _ (h10.2 k r y hr hy)
     ·rw[ZG 'b'] at hr
      rw[ZG (by rw[←h10.1];omega),←h10.1] at hy;have hz:k-ps.length=0:=by
       have:=(YC.mp hr).1
       simp only[YH,YS] at this;omega
      rw[hz,XQ] at hr hy;cases hr;cases hy;rw[g11,z7];rfl
    rw[←f1] at go;exact go
  refine lean _ crs rows [] [] none M9 C8 ok.fit (Ext.refl M9) ⟨rfl,λk r x hr=>by simp at hr⟩ ?_;clear lean;intro ps2 M10 e10 L10 p2 hp2;rw[XA] at L10;have e11:=Ext.new (o:=MO.lst (ak ps2)) hp2;have g11:updM M10 p2 (MO.lst (ak ps2)) p2=some (.lst (ak ps2)):=aa;generalize updM M10 p2 (MO.lst (ak ps2))=M11 at *;have ha11:=(e10.trans e11) _ _ ha9;simp only[ha11,pf4];refine⟨⟨hO _ 'e',(by decide:(4:Nat)<1000)⟩,?_⟩;have x11:Ext (hid a M) (hid a M11):=x8.trans (bD (e10.trans e11));have C11:=C8.ext (bD (a:=a) (e10.trans e11));have G11:=bD (a:=a) (e10.trans e11) _ _ G8;have S11:=S8.ext (bD (a:=a) (e10.trans e11));have H11:hid a M11 p2=some (.lst (ak ps2)):=gC ha11 g11;have L11:qB (hid a M11) ps2 rows:=⟨L10.1,λk r x hr hx=>gC ha11 (e11 _ _ (L10.2 k r x hr hx))⟩;clear C8 x8 ha9 hp2 e10 L10 e11 g11 G8 S8;clear M9 M10;have ha12:updM M11 a (MO.ins S (sF5 (⇑m) (.tup (nats (aD rows))) (.tup (aN crs)) (.ref p1) (.ref p2))) a=some (.ins S (sF5 (⇑m) (.tup (nats (aD rows))) (.tup (aN crs)) (.ref p1) (.ref p2))):=aa;have hh:=ky a M11 (MO.ins S (sF5 (⇑m) (.tup (nats (aD rows))) (.tup (aN crs)) (.ref p1) (.ref p2)));generalize updM M11 a (MO.ins S (sF5 (⇑m) (.tup (nats (aD rows))) (.tup (aN crs)) (.ref p1) (.ref p2)))=M12 at *;rw[←hh] at C11 x11 G11 S11 H11 L11;clear hh ha11;clear M11
  -- helped
  unfold lI;simp_all! only[List.set,ha12,lf4,f0];refine⟨hO _ 'e',m,p2,ps2,rows.map bW,rfl,kW a M12 _ _ H11,by rw[ZE];exact L11.1,?_,by omega,by rw[ZE];omega,?_,?_⟩
  ·intro k r l hr hl
   rw[ZF] at hl;obtain⟨x,hx,rfl⟩:=ZO.1 hl;exact kW a M12 _ _ (L11.2 k r x hr hx)
  ·intro l hl x hx
   obtain⟨y,hy,rfl⟩:=XU.1 hl;obtain⟨t,ht,hxt⟩:=List.mem_flatMap.1 hx;exact vc ((ok.fit y hy).2.2 t ht) x hxt
  intro p3 ps3 M13 hp3 e13 g13 l13 s13;rw[ZE] at s13;have ha13:=e13 _ _ ha12;simp only[ha13,pf5];refine⟨⟨hO _ 'e',(by decide:(5:Nat)<1000)⟩,?_⟩;have hh:=ky a M13 (MO.ins S (sF6 (⇑m) (.tup (nats (aD rows))) (.tup (aN crs)) (.ref p1) (.ref p2) (.ref p3)));have he:=bD (a:=a) e13;have hl:=kW a (updM M13 a (MO.ins S (sF6 (⇑m) (.tup (nats (aD rows))) (.tup (aN crs)) (.ref p1) (.ref p2) (.ref p3))));rw[hh] at hl;have ee:=he.trans hl;refine q _ ?_ ⟨ok,crs,p1,p2,p3,ps1,ps2,ps3,aa,C11.ext ee,⟨ee _ _ G11,l8,S11.ext ee⟩,⟨ee _ _ H11,L11.1,λk r x hr hx=>ee _ _ (L11.2 k r x hr hx)⟩,hl _ _ (gC ha13 g13),l13,λf r hr=>hl _ _ (gC ha13 (s13 f r hr))⟩;intro b o hb hMb;refine ee b o (x11 b o ?_);rw[xg hb];exact hMb
 have step:∀(E:EndsD) (v0 v2:Zz) (v3 v4:Zz) (M1:MH) (x:Row) (q1:Addr),(x.1<m/\x.2.length<=6/\∀t∈x.2,t.fit (m:Int))->M1 q1=some (.lst (x.2.map CT.told))->(∀M2,Ext M1 M2->E.nx [v0,~~~m,v2,v3,some (.tup [⇑x.1,.ref q1])] M2) ->
   wSs cn dM E [v0,~~~m,v2,v3,some (.tup [⇑x.1,.ref q1])] M1:=by
  intro E v0 v2 v3 v4 M1 x q1 ⟨hx1,hx2,hx3⟩ hq k;unfold dM;simp_all! only[List.set,f4];exact⟨(x.1:Int),(m:Int),q1,x.2,rfl,hq,⟨by omega,by omega⟩,hx2,hx3,λM2 e2=>k M2 e2⟩
 have key:∀(xs:List D) (rrs:Zy) (k:Int) (v3 v4:Zz) (M1:MH),ba M xs rrs->(∀x∈rrs,x.1<m/\x.2.length<=6/\∀t∈x.2,t.fit (m:Int))->Ext M M1 ->
   aq (λM'=>M' pr=some (.lst rds)) (.tp [3,4]) (wSs cn dM) { nx:=wSs cn dL (fin Q),rt:=Q } (aS k xs) [↑a,~~~m,↑pr,v3,v4] M1:=by
  intro xs rrs k v3 v4 M1 hp;induction hp generalizing k v3 v4 M1 with
  |nil=>
   intro _ e1;rw[aS,aq];exact rest v3 v4 M1 e1
  |@cons d x xs rrs hd _ ih=>
   intro hf e1;obtain⟨q1,rfl,hq1⟩:=hd;obtain⟨hx1,hx2,hx3⟩:=hf x (.head _);rw[aS,aq];refine⟨rfl,step _ _ _ _ none M1 x q1 ⟨hx1,hx2,hx3⟩ (e1 _ _ hq1) λM2 e2=>?_⟩;exact⟨(e1.trans e2) pr _ hpr,ih _ _ _ M2 (λy hy=>hf y (.tail _ hy)) (e1.trans e2)⟩
 exact key rds rows 0 none none M hR ok.fit (Ext.refl M)
end
theorem Dl(n:Nat)(f:Int):hasB (n:Int) f=n.testBit f.toNat:=bf n f.toNat▸(by unfold hasB bitZ;rw[YU])
def Sub(a b:Nat):Prop:=∀f,a.testBit f=true->b.testBit f=true
theorem Sub.refl(a:Nat):Sub a a:=λ_ h=>h
theorem Sub.trans{a b c:Nat}(h:Sub a b)(g:Sub b c):Sub a c:=λf q=>g f (h f q)
theorem Sub.or_l(a b:Nat):Sub a (a|||b):=λf h=>by rw[XZ,h];rfl
theorem Sub.or{a b c:Nat}(h:Sub a c)(g:Sub b c):Sub (a|||b) c:=λf q=>by
 rw[XZ,XS] at q;exact q.elim (h f) (g f)
theorem Sub.hasB{a b:Nat}(h:Sub a b){f:Int}(q:SH.hasB (a:Int) f=true):SH.hasB (b:Int) f=true:=by
 rw[Dl] at q ⊢;exact h _ q
theorem BG{p q:Int->Bool}(h:∀f,p f=true->q f=true):∀fs:List Int,(fs.filter p).length<=(fs.filter q).length
 |[]=>YE _
 |f::fs=>by
  have ih:=BG h fs;rw[XT,XT];by_cases e:p f=true
  ·rw[if_pos e,if_pos (h f e),YH,YH];omega
  ·rw[if_neg e]
   split
   ·rw[YH];omega
   ·exact ih
theorem xi{p q:Int->Bool}:∀{fs:Zi},(fs.filter p).length<(fs.filter q).length->∃f∈fs,p f=false/\q f=true
 |[],h=>absurd h (ZT _)
 |f::fs,h=>by
  by_cases e:p f=false/\q f=true
  ·exact⟨f,.head _,e⟩
  ·rw[XT,XT] at h
   have:(fs.filter p).length<(fs.filter q).length:=by
    cases hp:p f with
    |true=>
     rw[if_pos hp] at h;split at h
     ·simpa using h
     ·rw[YH] at h;omega
    |false=>
     have hq:q f=false:=by
      cases hq:q f with
      |false=>rfl
      |true=>exact absurd ⟨hp,hq⟩ e
     rw[if_neg (by simp[hp]),if_neg (by simp[hq])] at h;exact h
   obtain⟨g,hg,w⟩:=xi this;exact⟨g,.tail _ hg,w⟩
theorem ve{a b:Nat}(h:Sub a b)(fs:Zi):cntB fs (a:Int)<=cntB fs (b:Int):=by
 unfold cntB;exact BG (λf q=>h.hasB q) fs
theorem xj{h h' g:Nat}(s:Sub h h'){t:CT}(q:t.carried (h:Int) (g:Int)=true):t.carried (h':Int) (g:Int)=true:=by
 cases t with
 |hav f=>exact s.hasB q
 |lck f=>exact q
 |som n fs=>
  have q:decide (n<=((cntB fs (h:Int):Nat):Int))=true:=q;show decide (n<=((cntB fs (h':Int):Nat):Int))=true
  have:=XM q
  have:=ve s fs
  exact YT 'b'
 |led fs k=>
  have q:(hasB (h:Int) (fs.getD k 0)&&(((cntB (fs.take k) (g:Int):Nat):Int)==0))=true:=q;show(hasB (h':Int) (fs.getD k 0)&&(((cntB (fs.take k) (g:Int):Nat):Int)==0))=true;rw[YV] at q ⊢;exact⟨s.hasB q.1,q.2⟩
theorem xk{h g g':Nat}(s:Sub g g'){t:CT}(q:t.carried (h:Int) (g':Int)=true):t.carried (h:Int) (g:Int)=true:=by
 cases t with
 |hav f=>exact q
 |lck f=>
  have q:(!hasB (g':Int) f)=true:=q;show(!hasB (g:Int) f)=true;cases e:hasB (g:Int) f with
  |false=>rfl
  |true=>rw[s.hasB e] at q;exact q
 |som n fs=>exact q
 |led fs k=>
  have q:(hasB (h:Int) (fs.getD k 0)&&(((cntB (fs.take k) (g':Int):Nat):Int)==0))=true:=q;show(hasB (h:Int) (fs.getD k 0)&&(((cntB (fs.take k) (g:Int):Nat):Int)==0))=true;rw[YV] at q ⊢;refine⟨q.1,?_⟩;have h1:=q.2;have h2:=ve s (fs.take k);rw[beq_iff_eq] at h1 ⊢;omega
theorem xl{h h' g:Nat}{t:CT}(q:t.carried (h:Int) (g:Int)=false)(q':t.carried (h':Int) (g:Int)=true):∃f,(false,f)∈t.leanP/\hasB (h:Int) f=false/\hasB (h':Int) f=true:=by
 cases t with
 |hav f=>exact⟨f,by simp[CT.leanP],q,q'⟩
 |lck f=>
  have q:(!hasB (g:Int) f)=false:=q;have q':(!hasB (g:Int) f)=true:=q';rw[q] at q';cases q'
 |som n fs=>
  have q:decide (n<=((cntB fs (h:Int):Nat):Int))=false:=q;have q':decide (n<=((cntB fs (h':Int):Nat):Int))=true:=q';have h1:=of_decide_eq_false q;have h2:=XM q';have:(fs.filter (hasB (h:Int))).length<(fs.filter (hasB (h':Int))).length:=by
   unfold cntB at h1 h2;omega
  obtain⟨f,hf,w⟩:=xi this;exact⟨f,XU.2 ⟨f,hf,rfl⟩,w⟩
 |led fs k=>
  have q:(hasB (h:Int) (fs.getD k 0)&&(((cntB (fs.take k) (g:Int):Nat):Int)==0))=false:=q;have q':(hasB (h':Int) (fs.getD k 0)&&(((cntB (fs.take k) (g:Int):Nat):Int)==0))=true:=q';rw[YV] at q';rw[q'.2,Bool.and_true] at q;exact⟨_,YB.2 (.inr (.head _)),q,q'.1⟩
def aI(h g:Nat)(x:Row):Bool:=x.2.all (CT.carried (h:Int) (g:Int))
theorem fD{h h' g:Nat}(s:Sub h h'){x:Row}(q:aI h g x=true):aI h' g x=true:=by
 unfold aI at q ⊢;rw[XI] at q ⊢;exact λt ht=>xj s (q t ht)
theorem jg{h g g':Nat}(s:Sub g g'){x:Row}(q:aI h g' x=true):aI h g x=true:=by
 unfold aI at q ⊢;rw[XI] at q ⊢;exact λt ht=>xk s (q t ht)
theorem yc{h h' g:Nat}{x:Row}(q:aI h g x=false)(q':aI h' g x=true):∃f,(false,f)∈bW x/\hasB (h:Int) f=false/\hasB (h':Int) f=true:=by
 unfold aI at q q';rw[XI] at q';rw[List.all_eq_false] at q;obtain⟨t,ht,hq⟩:=q;obtain⟨f,hf,w⟩:=xl (by simpa using hq) (q' t ht);exact⟨f,List.mem_flatMap.2 ⟨t,ht,hf⟩,w⟩
def xm(rows:Zy)(told g s:Nat):Prop:=Sub told s/\∀x∈rows,aI s g x=true->s.testBit x.1=true
def bp(rows:Zy)(told g n:Nat):Prop:=xm rows told g n/\∀s,xm rows told g s->Sub n s
theorem bp.anti{rows:Zy}{told g g' n n':Nat}(s:Sub g g')(h:bp rows told g n)(h':bp rows told g' n'):Sub n' n:=
 h'.2 n ⟨h.1.1,λx hx q=>h.1.2 x hx (jg s q)⟩
def hits(rows:Zy)(h g f r:Nat):Bool:=match rows[r]? with
 |some x=>decide (x.1=f)&&aI h g x
 |none=>false
theorem bY{rows:Zy}{h g f r:Nat}:hits rows h g f r=true ↔ ∃x,rows[r]?=some x/\x.1=f/\aI h g x=true:=by
 unfold hits;cases e:rows[r]? with
 |none=>simp
 |some x=>simp
def bc(rows:Zy)(h g f:Nat):Option Nat:=(List.range rows.length).find? (hits rows h g f)
def aA(rows:Zy)(h g left:Nat):List (Nat×Nat):=(memb left).filterMap λf=>(bc rows h g f).map λr=>(f,r)
def newB(fr:Zp):Nat:=setN (fr.map (·.1))
def bh(rows:Zy)(g:Nat):Nat->Nat->Nat->Nat->List (Nat×Nat×Nat)
 |0,_,_,_=>[]
 |k+1,step,come,left=>if aA rows come g left=[] then[] else(aA rows come g left).map (λx=>(x.1,step,x.2))++bh rows g k (step+1) (come|||newB (aA rows come g left)) (au left (newB (aA rows come g left)))
theorem mJ{rows:Zy}{h g f:Nat}(q:bc rows h g f=none){x:Row}(hx:x∈rows)(hf:x.1=f):aI h g x=false:=by
 obtain⟨r,hr⟩:=XR hx;have hl:r<rows.length:=(YC.mp hr).1;unfold bc at q;rw[List.find?_eq_none] at q
 have:=q r (ZW.2 hl)
 rw[bY] at this;cases e:aI h g x with
 |false=>rfl
 |true=>exact absurd ⟨x,hr,hf,e⟩ this
theorem cE{rows:Zy}{h g f r:Nat}(q:bc rows h g f=some r):∃x,rows[r]?=some x/\x.1=f/\aI h g x=true:=
 bY.1 (List.find?_some q)
theorem df{rows:Zy}{h g left f r:Nat}:(f,r)∈aA rows h g left↔left.testBit f=true/\bc rows h g f=some r:=by
 unfold aA;rw[List.mem_filterMap];constructor
 ·rintro⟨f',hf',q⟩
  obtain⟨r',hr',e⟩:=ZO.1 q;cases e;exact⟨(dc _ _).1 hf',hr'⟩
 ·rintro⟨a,b⟩
  exact⟨f,(dc _ _).2 a,by rw[b];rfl⟩
theorem rB{fr:Zp}{f:Nat}:(newB fr).testBit f=true ↔ ∃r,(f,r)∈fr:=by
 unfold newB;rw[bg,XO,XU];constructor
 ·rintro⟨⟨a,b⟩,h,rfl⟩;exact⟨b,h⟩
 ·rintro⟨r,h⟩;exact⟨_,h,rfl⟩
theorem BH{a b f:Nat}(h1:a.testBit f=true)(h2:b.testBit f=true):au a b<a:=by
 have:=n5 a b
 have h3:a&&&b≠0:=λz=>by
  have:(a&&&b).testBit f=true:=by rw[Nat.testBit_and,h1,h2];rfl
  rw[z,Nat.zero_testBit] at this;cases this
 omega
theorem oh{rows:Zy}{h g left:Nat}(q:aA rows h g left≠[]):au left (newB (aA rows h g left))<left:=by
 obtain⟨⟨f,r⟩,hx⟩:=List.exists_mem_of_ne_nil _ q;exact BH (df.1 hx).1 (rB.2 ⟨r,hx⟩)
def hU(rows:Zy)(g told heads:Nat):Nat:=told|||setN ((bh rows g (au heads told+1) 1 told (au heads told)).map (·.1))
theorem tG{rows:Zy}{g told heads:Nat}(hh:∀x∈rows,heads.testBit x.1=true):∀(k step come left:Nat),left<k->(∀f,left.testBit f=(heads.testBit f && !come.testBit f))->Sub told come->(∀s,xm rows told g s->Sub come s) ->
  bp rows told g (come|||setN ((bh rows g k step come left).map (·.1)))
 |0,_,_,_,h,_,_,_=>absurd h (Nat.not_lt_zero _)
 |k+1,step,come,left,hk,hl,ht,hc=>by
  rw[bh];by_cases e:aA rows come g left=[]
  ·rw[if_pos e]
   have z:come|||setN (([]:List (Nat×Nat×Nat)).map (·.1))=come:=by simp[setN]
   rw[z];refine⟨⟨ht,λx hx q=>?_⟩,hc⟩;cases b:come.testBit x.1 with
   |true=>rfl
   |false=>
    have h1:left.testBit x.1=true:=by rw[hl,hh x hx,b];rfl
    cases f1:bc rows come g x.1 with
    |none=>rw[mJ f1 hx rfl] at q;cases q
    |some r=>
     have:=df.2 ⟨h1,f1⟩
     rw[e] at this;cases this
  ·rw[if_neg e]
   have ih:=tG (g:=g) (told:=told) hh k (step+1) (come|||newB (aA rows come g left)) (au left (newB (aA rows come g left))) (by have:=oh e;omega) ?_ (ht.trans (Sub.or_l _ _)) ?_
   ·refine cast (congrArg (bp rows told g) ?_) ih
    refine XY λf=>?_
    rw[XZ,XZ,XZ,bg,bg,ZK,ZL];have z:(newB (aA rows come g left)).testBit f=decide (f∈(aA rows come g left).map ((·.1)∘λ(x:Nat×Nat)=>(x.1,step,x.2))):=by
     unfold newB;rw[bg];rfl
    rw[z,Bool.or_assoc];congr 1;rw[←Bool.decide_or];simp only[YB]
   ·intro f
    rw[aT,hl,XZ];cases heads.testBit f<;>cases come.testBit f<;>cases(newB (aA rows come g left)).testBit f<;>rfl
   ·intro s hs
    refine(hc s hs).or λf hf=>?_
    obtain⟨r,hr⟩:=rB.1 hf;obtain⟨x,hx,rfl,hq⟩:=cE (df.1 hr).2;exact hs.2 x (YR hx) (fD (hc s hs) hq)
theorem bP{rows:Zy}{g told heads:Nat}(hh:∀x∈rows,heads.testBit x.1=true):bp rows told g (hU rows g told heads):=
 tG hh _ 1 told _ (YK _) (λf=>aT _ _ _) (Sub.refl _) λs hs=>hs.1
theorem oi:∀{l m:Zj},l.Pairwise (· < ·)->m.Pairwise (· < ·)->(∀x,x∈l↔x∈m)->l=m
 |[],[],_,_,_=>rfl
 |[],b::m,_,_,h=>absurd ((h b).2 (.head _)) (by simp)
 |a::l,[],_,_,h=>absurd ((h a).1 (.head _)) (by simp)
 |a::l,b::m,hl,hm,h=>by
  rw[List.pairwise_cons] at hl hm;have e:a=b:=by
   rcases YA.1 ((h a).1 (.head _)) with e | e
   ·exact e
   ·rcases YA.1 ((h b).2 (.head _)) with e' | e'
    ·exact e'.symm
    ·have:=hl.1 b e';have:=hm.1 a e;omega
  subst e;rw[oi hl.2 hm.2 λx=>?_];constructor
  ·intro hx
   rcases YA.1 ((h x).1 (.tail _ hx)) with e | e
   ·subst e;exact absurd (hl.1 x hx) (ZT _)
   ·exact e
  ·intro hx
   rcases YA.1 ((h x).2 (.tail _ hx)) with e | e
   ·subst e;exact absurd (hm.1 x hx) (ZT _)
   ·exact e
theorem cF:∀{n:Nat}{l:Zj},l.Nodup->(∀x∈l,x<n)->l.length<=n
 |0,[],_,_=>YE _
 |0,a::l,_,h=>absurd (h a (.head _)) (Nat.not_lt_zero _)
 |n+1,l,hd,h=>by
  have h1:=cF (n:=n) (l:=l.filter λx=>decide (x≠n)) (List.Pairwise.filter _ hd) (λx hx=>by
   have h2:=ZV.1 hx
   have:=h x h2.1
   have:x≠n:=XM h2.2
   omega)
  have h2:∀{l:Zj},l.Nodup->l.length<=(l.filter λx=>decide (x≠n)).length+1:=by
   intro l hd;induction l with
   |nil=>simp
   |cons a l ih=>
    rw[YN] at hd;rw[XT];by_cases e:a=n
    ·subst e
     rw[if_neg (by simp),YH];have:l.filter (λx=>decide (x≠a))=l:=List.filter_eq_self.2 λx hx=>YT λz=>hd.1 (z▸hx)
     rw[this];exact YE _
    ·rw[if_pos (by simpa using e),YH,YH]
     have:=ih hd.2
     omega
  have:=h2 hd
  omega
theorem mK{ms:Zi}{xs:Zj}(hp:ms.Perm (xs.map λ(x:Nat)=>(x:Int)))(hs:ms.Pairwise (·<=·))(hd:xs.Nodup):∃ns:List Nat,ms=ns.map (λ(x:Nat)=>(x:Int))/\ns.Pairwise (· < ·)/\∀r,r∈ns↔r∈xs:=by
 have e0:(ms.map Int.toNat).map (λ(x:Nat)=>(x:Int))=ms:=by
  rw[ZL];refine(ZM λa ha=>?_).trans (List.map_id _);obtain⟨x,_,rfl⟩:=XU.1 (hp.mem_iff.1 ha);simp
 have e1:(ms.map Int.toNat).Perm xs:=by
  have:=hp.map Int.toNat
  rw[ZL] at this;refine this.trans ?_;rw[show(Int.toNat∘λ(x:Nat)=>(x:Int))=id by funext x;simp,List.map_id]
 refine⟨ms.map Int.toNat,e0.symm,?_,λr=>e1.mem_iff⟩;have nd:(ms.map Int.toNat).Nodup:=e1.nodup_iff.2 hd;have le:(ms.map Int.toNat).Pairwise (·<=·):=List.pairwise_map.2 (hs.imp λh=>by omega);exact List.Pairwise.imp (λ⟨h1,h2⟩=>Nat.lt_of_le_of_ne h1 h2) (List.pairwise_and_iff.2 ⟨le,nd⟩)
def lO(c:CA)(S:Addr):SpD:=λds M Q=>∃(a:Addr) (m:Nat) (rows:Zy) (left:Nat),ds=[.ref a,⇑left]/\SheetAt c S M a m rows/\rows.length<64/\left<2 ^ m /\
 ∀p ns M',M p=none->Ext M M'->M' p=some (.lst (nats ns))->ns.Pairwise (· < ·)->(∀r,r∈ns ↔ ∃x,rows[r]?=some x/\left.testBit x.1=true)->Q (.ref p) M'
def dZ(c:CA)(S:Addr):SpD:=λds M Q=>∃(a:Addr) (m:Nat) (rows:Zy) (b:Addr) (kvs:ZB) (fs:Zj) (left:Nat),ds=[.ref a,.ref b,⇑left]/\SheetAt c S M a m rows/\rows.length<64/\M b=some (.rod kvs)/\keysOf kvs=nats fs/\(∀f∈fs,f<m) /\
 ∀p ns M',M p=none->Ext M M'->M' p=some (.lst (nats ns))->ns.Pairwise (· < ·)->(∀r,r∈ns ↔ ∃x,rows[r]?=some x/\left.testBit x.1=true/\∃f∈fs,aW (bW x) f=true)->Q (.ref p) M'
def aV(fr:Zp):List (Key×D):=fr.map λ(x:Nat×Nat)=>(.inl (x.1:Int),⇑x.2)
def cT(c:CA)(S:Addr):SpD:=λds M Q=>∃(a:Addr) (m:Nat) (rows:Zy) (b:Addr) (ns:Zj) (h g:Nat),ds=[.ref a,.ref b,⇑h,⇑g]/\SheetAt c S M a m rows/\M b=some (.lst (nats ns))/\(∀r∈ns,r<rows.length) /\
 ∀p fr M',M p=none->Ext M M'->M' p=some (.dic (aV fr))->(fr.map (·.1)).Nodup->(∀f r,(f,r)∈fr↔ns.find? (hits rows h g f)=some r)->Q (.ref p) M'
def jF:Ss:=#v[.ret (.bk .sorted #v[.var 2])]
def jG:Ss:=#v[.expr (.mt .extend (.var 2) #v[.mu "rows_for" (.var 0) #v[.var 3]])]
def oG:Ss:=.cons (.for (.nm 3) (.seq (.fn 0 #v[.var 1])) jG) jF
def mL:Ss:=.cons (.set 2 (.lst .nil)) oG
def gk:Ss:=#v[.ret (.bk .sorted #v[.var 3])]
def dg:Ss:=#v[.ite (.val (.fn 0 #v[.var 2,.mu "head_of" (.var 0) #v[.var 5]])) #v[.putIx (.var 3) (.var 5) (.bl true)] .nil]
def gm:Ss:=#v[.for (.nm 5) (.seq (.mu "rows_helped" (.var 0) #v[.var 4])) dg]
def kX:Ss:=.cons (.for (.nm 4) (.seq (.var 1)) gm) gk
def iY:Ss:=.cons (.set 3 .dnew) kX
def d0:Ss:=#v[.ret (.var 4)]
def jo:Ss:=#v[.ite (.and (.cmp .NotIn (.var 6) (.var 4)) (.val (.fn 0 #v[.mu "conds_of" (.var 0) #v[.var 5],.var 2,.var 3]))) #v[.putIx (.var 4) (.var 6) (.var 5)] .nil]
def cv:Ss:=.cons (.set 6 (.mu "head_of" (.var 0) #v[.var 5])) jo
def jp:Ss:=.cons (.for (.nm 5) (.seq (.var 1)) cv) d0
def gn:Ss:=.cons (.set 4 .dnew) jp
section
variable {m:Nat}{rows:Zy}{crs:Zt}{p1 p2 p3:Addr}
theorem mM:(dr m rows crs p1 p2 p3).lookup ("rows_for" : Str)=none:=rfl
theorem ur:(dr m rows crs p1 p2 p3).lookup ("rows_helped" : Str)=none:=rfl
theorem oj:(dr m rows crs p1 p2 p3).lookup ("head_of" : Str)=none:=rfl
theorem fE:(dr m rows crs p1 p2 p3).lookup ("conds_of" : Str)=none:=rfl
theorem jh:(dr m rows crs p1 p2 p3).lookup ("how_many" : Str)=none:=rfl
end
theorem BI(xs:Zj):jd (nats xs)=some (xs.map λ(x:Nat)=>(x:Int)):=by
 have:nats xs=intL (xs.map λ(x:Nat)=>(x:Int)):=by unfold nats intL;rw[ZL];rfl
 rw[this,pK]
theorem Dm(xs ys:Zj):nats xs++nats ys=nats (xs++ys):=by unfold nats;rw[ZK]
theorem pL(xs:Zj):(xs.map λ(x:Nat)=>(x:Int)).map D.int=nats xs:=by unfold nats;rw[ZL];rfl
theorem c9{hs:Zj}{k f r:Nat}:r∈bV hs k f↔r<k/\hs[r]?=some f:=by
 unfold bV;rw[ZV,ZW,XO]
theorem yd(hs:Zj)(k f:Nat):(bV hs k f).Nodup:=List.Pairwise.filter _ List.nodup_range
theorem om(hs:Zj)(k:Nat):∀{dn:Zj},dn.Nodup->(dn.flatMap (bV hs k)).Nodup
 |[],_=>by simp
 |f::dn,h=>by
  rw[YN] at h;rw[List.flatMap_cons,List.nodup_append];refine⟨yd hs k f,om hs k h.2,λa ha b hb z=>?_⟩;subst z;obtain⟨g,hg,hb⟩:=List.mem_flatMap.1 hb;have h1:=(c9.1 ha).2;have h2:=(c9.1 hb).2;rw[h1] at h2;cases h2;exact h.1 hg
theorem dv{n m f:Nat}(h:n<2 ^ m)(q:n.testBit f=true):f<m:=by
 have h1:=Nat.ge_two_pow_of_testBit q;exact(Nat.pow_lt_pow_iff_right (by decide:1<2)).1 (XF h1 h)
theorem lP{rows:Zy}{r f:Nat}:(aD rows)[r]?=some f ↔ ∃x,rows[r]?=some x/\x.1=f:=by
 unfold aD;rw[ZF];cases rows[r]? with
 |none=>simp
 |some x=>simp
theorem m9{m:Nat}{rows:Zy}(h:RowsOk m rows){r:Nat}{x:Row}(e:rows[r]?=some x):x.1<m/\x.2.length<=6/\∀t∈x.2,t.fit (m:Int):=h.fit x (YR e)
section
variable {cn:Cn}{c:CA}{S:Addr}{ds:List D}{M:MH}{Q:DK}
theorem ye(f0:cn.F.getD 0 Yl=gB)(hT:cn.T S "rows_for" = some (dX c S))(h:lO c S ds M Q):wSs cn mL (fin Q) (af ["","","",""] ds) M:=by
 obtain⟨a,m,rows,left,rfl,A,hn,hl,q⟩:=h;show wSs cn mL (fin Q) [↑a,~~~left,none,none] M;have hm:=A.ok.most;unfold mL;simp! only[List.set];intro p hp;unfold oG;simp! only[List.set,f0];refine⟨left,rfl,ZS hl (Nat.pow_le_pow_right 'a' 'b'),λp0 M1 hp0 e1 g1=>?_⟩;simp only[g1];have e0:Ext M M1:=(Ext.new hp).trans e1;have hp1:M1 p=some (.lst []):=e1 p _ aa;have hne:p0≠p:=λz=>by subst z;rw[aa] at hp0;cases hp0
 clear e1;have key:∀(rst dn:Zj) (v:Zz) (M2:MH),memb left=dn++rst->ExtBut p M1 M2->M2 p=some (.lst (nats (dn.flatMap (bV (aD rows) rows.length)))) ->
   aq (λM'=>M' p0=some (.lst (nats (memb left)))) (.nm 3) (wSs cn jG) { nx:=wSs cn jF (fin Q),rt:=Q } (nats rst) [↑a,~~~left,↑p,v] M2:=by
  intro rst;induction rst with
  |nil=>
   intro dn v M2 hd b2 g2;rw[ZA] at hd;subst hd;have nd:=om (aD rows) rows.length (n6 left);rw[show nats []=[] from rfl,aq];unfold jF;simp! only[dBk,kt,g2,rdL,BI,qv];have hlen:((memb left).flatMap (bV (aD rows) rows.length)).length<=rows.length:=cF nd λx hx=>by
    obtain⟨f,_,hx⟩:=List.mem_flatMap.1 hx;exact(c9.1 hx).1
   refine⟨by rw[ZE];omega,λp2 ms hp2 h1 h2=>?_⟩;obtain⟨ns,rfl,h3,h4⟩:=mK h1 h2 nd;rw[pL];have e2:Ext M M2:=b2.ext e0 hp;refine q p2 ns _ (e2.free hp2) (e2.then hp2) aa h3 λr=>?_
   rw[h4,List.mem_flatMap];constructor
   ·rintro⟨f,hf,hr⟩
    obtain⟨x,hx,rfl⟩:=lP.1 (c9.1 hr).2;exact⟨x,hx,(dc _ _).1 hf⟩
   ·rintro⟨x,hx,hb⟩
    exact⟨x.1,(dc _ _).2 hb,c9.2 ⟨(YC.mp hx).1,lP.2 ⟨x,hx,rfl⟩⟩⟩
  |cons f rst ih=>
   intro dn v M2 hd b2 g2;have e2:Ext M M2:=b2.ext e0 hp;obtain⟨ok,crs,p1,p2,p3,ps1,ps2,ps3,h1,-⟩:=A.ext e2;have hf:f<m:=dv hl ((dc _ _).1 (by rw[hd];simp));rw[show nats (f::rst)=⇑f::nats rst from rfl,aq];unfold jG;simp! only[List.set,g2,h1,mM,hT];refine⟨rfl,trivial,a,m,rows,f,rfl,A.ext e2,hf,λp4 M4 hp4 e4 g4=>?_⟩;simp only[e4 p _ g2,g4,iX,Dm];have nd:(dn.flatMap (bV (aD rows) rows.length)).Nodup:=om _ _ (by have:=n6 left;rw[hd,List.nodup_append] at this;exact this.1);have hlen:(dn.flatMap (bV (aD rows) rows.length)).length<=rows.length:=cF nd λx hx=>by
    obtain⟨f,_,hx⟩:=List.mem_flatMap.1 hx;exact(c9.1 hx).1
   have hlen2:=xa (aD rows) rows.length f;have hsz:(2000:Nat)<sizeLine:=by decide
   refine⟨by omega,?_,?_⟩
   ·rw[aB hne]
    exact e4 _ _ (b2 _ _ hne g1)
   ·refine ih (dn++[f]) _ _ (by rw[hd];simp) ((b2.trans e4.but).trans (ExtBut.upd _ _ _)) ?_
    rw[aa,List.flatMap_append,List.flatMap_cons,List.flatMap_nil,ZA]
 exact key (memb left) [] none M1 rfl (ExtBut.refl p M1) hp1
theorem BJ(rs:Zj):intKeys (rowK rs)=some (rs.map λ(x:Nat)=>(x:Int)):=by
 induction rs with
 |nil=>rfl
 |cons r rs ih=>
  show Option.map _ (intKeys (rowK rs))=_;rw[ih];rfl
theorem vf{rows:Zy}{r f:Nat}{x:Row}(h:rows[r]?=some x):r∈bB (rows.map bW) rows.length f↔aW (bW x) f=true:=by
 unfold bB;rw[ZV,ZW];have hl:r<rows.length:=(YC.mp h).1;have:(rows.map bW).getD r []=bW x:=by rw[List.getD_eq_getElem?_getD,ZF,h];rfl
 rw[this];exact⟨λh=>h.2,λh=>⟨hl,h⟩⟩
theorem ut(f0:cn.F.getD 0 Yl=aZ)(hT:cn.T S "rows_helped" = some (dY c S))(hT2:cn.T S "head_of" = some (gg c S))(h:dZ c S ds M Q):wSs cn iY (fin Q) (af ["","","","","",""] ds) M:=by
 obtain⟨a,m,rows,b,kvs,fs,left,rfl,A,hn,hb,hk,hf,q⟩:=h;show wSs cn iY (fin Q) [↑a,↑b,~~~left,none,none,none] M;have hm:=A.ok.most;unfold iY;simp! only[List.set];intro p hp;have e0:Ext M (updM M p (MO.dic [])):=Ext.new hp;have g0:updM M p (MO.dic []) p=some (.dic (rowK [])):=aa;generalize updM M p (MO.dic [])=M1 at *;unfold kX;simp! only[List.set,e0 b _ hb,hk];have hbp:b≠p:=bd hb hp;have outer:∀(rst dn:Zj) (rs:Zj) (v4 v5:Zz) (M2:MH),fs=dn++rst->ExtBut p M1 M2->M2 p=some (.dic (rowK rs))->rs.Nodup->(∀r,r∈rs ↔ ∃x,rows[r]?=some x/\left.testBit x.1=true/\∃f∈dn,aW (bW x) f=true) ->
   aq (λM'=>M' b=some (.rod kvs)) (.nm 4) (wSs cn gm) { nx:=wSs cn gk (fin Q),rt:=Q } (nats rst) [↑a,↑b,~~~left,↑p,v4,v5] M2:=by
  intro rst;induction rst with
  |nil=>
   intro dn rs v4 v5 M2 hd b2 g2 nd hr;rw[ZA] at hd;subst hd;rw[show nats []=[] from rfl,aq];unfold gk;simp! only[dBk,kt,g2,rdL,rdD,BJ,qv];have hlen:rs.length<=rows.length:=cF nd λx hx=>by
    obtain⟨y,hy,_⟩:=(hr x).1 hx;exact(YC.mp hy).1
   refine⟨by rw[ZE];omega,λp2 ms hp2 h1 h2=>?_⟩;obtain⟨ns,rfl,h3,h4⟩:=mK h1 h2 nd;rw[pL];have e2:Ext M M2:=b2.ext e0 hp;exact q p2 ns _ (e2.free hp2) (e2.then hp2) aa h3 λr=>(h4 r).trans (hr r)
  |cons f rst ih=>
   intro dn rs v4 v5 M2 hd b2 g2 nd hr;have e2:Ext M M2:=b2.ext e0 hp;have hfm:f<m:=hf f (by rw[hd];simp);obtain⟨ok,crs,p1,p2,p3,ps1,ps2,ps3,h1,-⟩:=A.ext e2;rw[show nats (f::rst)=⇑f::nats rst from rfl,aq];unfold gm;simp! only[List.set,h1,ur,hT];refine⟨trivial,a,m,rows,f,rfl,A.ext e2,hfm,λp4 M4 hp4 e4 g4=>?_⟩;simp only[g4];have hp4p:p4≠p:=λz=>by subst z;rw[g2] at hp4;cases hp4
   have inner:∀(E:EndsD) (rst2 dn2 rs2:Zj) (v5:Zz) (M5:MH),bB (rows.map bW) rows.length f=dn2++rst2->ExtBut p M4 M5->M5 p=some (.dic (rowK rs2))->rs2.Nodup ->
     (∀r,r∈rs2↔(∃x,rows[r]?=some x/\left.testBit x.1=true/\∃f∈dn,aW (bW x) f=true)\/(r∈dn2/\∃x,rows[r]?=some x/\left.testBit x.1=true)) ->
     (∀rs3 w M6,ExtBut p M4 M6->M6 p=some (.dic (rowK rs3))->rs3.Nodup->(∀r,r∈rs3↔(∃x,rows[r]?=some x/\left.testBit x.1=true/\∃f∈dn,aW (bW x) f=true)\/(r∈bB (rows.map bW) rows.length f/\∃x,rows[r]?=some x/\left.testBit x.1=true)) ->
      E.nx [↑a,↑b,~~~left,↑p,~~~f,w] M6) ->
     aq (λM'=>M' p4=some (.lst (nats (bB (rows.map bW) rows.length f)))) (.nm 5) (wSs cn dg) E (nats rst2) [↑a,↑b,~~~left,↑p,~~~f,v5] M5:=by
    intro E rst2;induction rst2 with
    |nil=>
     intro dn2 rs2 v5 M5 hd2 b5 g5 nd5 hr5 k;rw[ZA] at hd2;rw[←hd2] at hr5;rw[show nats []=[] from rfl,aq];exact k rs2 v5 M5 b5 g5 nd5 hr5
    |cons r rst2 ih2=>
     intro dn2 rs2 v5 M5 hd2 b5 g5 nd5 hr5 k;have hrl:r<rows.length:=xb (show r∈bB (rows.map bW) rows.length f by rw[hd2];simp);have hx:rows[r]?=some rows[r]:=ZC hrl;generalize rows[r]=x at hx;have e5:Ext M M5:=((b2.trans e4.but).trans b5).ext e0 hp;obtain⟨ok,crs,p1,p2,p3,ps1,ps2,ps3,h1,-⟩:=A.ext e5;have hd3:bB (rows.map bW) rows.length f=(dn2++[r])++rst2:=by rw[hd2];simp
     have g45:M5 p4=some (.lst (nats (bB (rows.map bW) rows.length f))):=b5 _ _ hp4p g4;have has:hasB (left:Int) (x.1:Int)=left.testBit x.1:=bf _ _;have body:∀(E:EndsD),Bif (left.testBit x.1) (E.nx [↑a,↑b,~~~left,↑p,~~~f,~~~r] (updM M5 p (.dic (rowK (if r∈rs2 then rs2 else rs2++[r]))))) (E.nx [↑a,↑b,~~~left,↑p,~~~f,~~~r] M5) ->
       wSs cn dg E [↑a,↑b,~~~left,↑p,~~~f,~~~r] M5:=by
      intro E kk;unfold dg;simp! only[List.set,h1,oj,hT2,f0];refine⟨trivial,a,m,rows,r,x,rfl,A.ext e5,hx,left,x.1,rfl,by omega,?_⟩;rw[has];cases bb:left.testBit x.1 with
      |false=>rw[bb] at kk;exact kk
      |true=>
       rw[bb] at kk;simp only[aH,g5,xc];have hlen:rs2.length<=rows.length:=cF nd5 λy hy=>by
        rcases(hr5 y).1 hy with⟨z,hz,_⟩ | ⟨_,z,hz,_⟩<;>exact(YC.mp hz).1
       have hsz:(2000:Nat)<sizeLine:=by decide
       exact⟨by unfold rowK;rw[ZE];omega,kk⟩
     rw[show nats (r::rst2)=⇑r::nats rst2 from rfl,aq];refine body _ ?_;cases bb:left.testBit x.1 with
     |false=>
      refine⟨g45,ih2 (dn2++[r]) rs2 _ M5 hd3 b5 g5 nd5 (λr'=>?_) k⟩;rw[hr5];constructor
      ·rintro(h | ⟨h,h'⟩)
       ·exact .inl h
       ·exact .inr ⟨YB.2 (.inl h),h'⟩
      ·rintro(h | ⟨h,h'⟩)
       ·exact .inl h
       ·rcases YB.1 h with h | h
        ·exact .inr ⟨h,h'⟩
        ·have:r'=r:=by simpa using h
         subst this;obtain⟨y,hy,hb'⟩:=h';rw[hx] at hy;cases hy;rw[bb] at hb';cases hb'
     |true=>
      refine⟨?_,ih2 (dn2++[r]) (if r∈rs2 then rs2 else rs2++[r]) _ _ hd3 (b5.trans (ExtBut.upd _ _ _)) aa ?_ (λr'=>?_) k⟩
      ·rw[aB hp4p];exact g45
      ·split
       ·exact nd5
       ·rename_i hni
        rw[List.nodup_append];refine⟨nd5,by simp,λy hy z hz w=>?_⟩;have hz:z=r:=by simpa using hz
        subst hz;subst w;exact hni hy
      ·have hm1:r'∈(if r∈rs2 then rs2 else rs2++[r])↔r'∈rs2\/r'=r:=by
        split
        ·rename_i hi
         exact⟨.inl,λh=>h.elim id λz=>z▸hi⟩
        ·simp
       rw[hm1,hr5];constructor
       ·rintro((h | ⟨h,h'⟩) | h)
        ·exact .inl h
        ·exact .inr ⟨YB.2 (.inl h),h'⟩
        ·subst h
         exact .inr ⟨YB.2 (.inr (.head _)),x,hx,bb⟩
       ·rintro(h | ⟨h,h'⟩)
        ·exact .inl (.inl h)
        ·rcases YB.1 h with h | h
         ·exact .inl (.inr ⟨h,h'⟩)
         ·exact .inr (by simpa using h)
   refine inner _ _ [] rs _ M4 rfl (ExtBut.refl p M4) (e4 _ _ g2) nd (λr=>?_) ?_
   ·rw[hr]
    constructor
    ·exact .inl
    ·rintro(h | ⟨h,-⟩)
     ·exact h
     ·cases h
   ·intro rs3 w M6 b6 g6 nd6 hr6
    have b46:ExtBut p M1 M6:=(b2.trans e4.but).trans b6;refine⟨(b46.ext e0 hp) _ _ hb,ih (dn++[f]) rs3 _ _ M6 (by rw[hd];simp) b46 g6 nd6 λr=>?_⟩;rw[hr6];constructor
    ·rintro(⟨x,hx,hb1,g,hg,hh⟩ | ⟨h,x,hx,hb1⟩)
     ·exact⟨x,hx,hb1,g,YB.2 (.inl hg),hh⟩
     ·exact⟨x,hx,hb1,f,YB.2 (.inr (.head _)),(vf hx).1 h⟩
    ·rintro⟨x,hx,hb1,g,hg,hh⟩
     rcases YB.1 hg with hg | hg
     ·exact .inl ⟨x,hx,hb1,g,hg,hh⟩
     ·have:g=f:=by simpa using hg
      subst this;exact .inr ⟨(vf hx).2 hh,x,hx,hb1⟩
 exact outer fs [] [] none none M1 rfl (ExtBut.refl p M1) g0 .nil λr=>by simp
theorem tH(fr:Zp):keysOf (aV fr)=nats (fr.map (·.1)):=by unfold keysOf aV nats;rw[ZL,ZL];rfl
theorem Aa(fr:Zp):intKeys (aV fr)=some ((fr.map (·.1)).map λ(x:Nat)=>(x:Int)):=by
 induction fr with
 |nil=>rfl
 |cons r rs ih=>
  show Option.map _ (intKeys (aV rs))=_;rw[ih];rfl
theorem pM(f:Nat):∀{fr:Zp}{r:Nat},(fr.map (·.1)).Nodup->(f,r)∈fr->valD (aV fr) (.inl (f:Int))= ~~~r
 |[],r,_,h=>nomatch h
 |(g,s)::fr,r,nd,h=>by
  rw[YJ,YN] at nd;unfold valD;show Option.map _ (List.find? _ ((.inl (g:Int),⇑s)::aV fr))=_;rw[XD];by_cases e:g=f
  ·subst e
   rcases YA.1 h with h | h
   ·cases h;simp
   ·exact absurd (XU.2 ⟨_,h,rfl⟩) nd.1
  ·have h2:¬((g:Int)=(f:Int)):=by omega
   rw[show decide ((Sum.inl (g:Int):Key)=.inl (f:Int))=false by simp[h2]];rcases YA.1 h with h | h
   ·cases h;exact absurd rfl e
   ·exact pM f nd.2 h
theorem rC(f:Nat):∀{fr:Zp},(∀r,(f,r)∉fr)->valD (aV fr) (.inl (f:Int))=none/\((aV fr).any λkv=>decide (kv.1=(.inl (f:Int):Key)))=false
 |[],_=>⟨rfl,rfl⟩
 |(g,s)::fr,h=>by
  have e:g≠f:=λz=>by subst z;exact h s (.head _)
  have h2:¬((g:Int)=(f:Int)):=by omega
  have ih:=rC f (fr:=fr) λr hr=>h r (.tail _ hr)
  constructor
  ·unfold valD
   show Option.map _ (List.find? _ ((.inl (g:Int),⇑s)::aV fr))=_;rw[XD,show decide ((Sum.inl (g:Int):Key)=.inl (f:Int))=false by simp[h2]];exact ih.1
  ·show(List.any ((.inl (g:Int),⇑s)::aV fr) _)=false
   rw[XE,ih.2,show decide ((Sum.inl (g:Int):Key)=.inl (f:Int))=false by simp[h2]];rfl
theorem BK{f r:Nat}{fr:Zp}(h:∀r,(f,r)∉fr):putD (aV fr) (.inl (f:Int)) (⇑r)=aV (fr++[(f,r)]):=by
 unfold putD;rw[(rC f h).2];unfold aV;rw[ZK];rfl
theorem rD(f0:cn.F.getD 0 Yl=bR c)(hT:cn.T S "head_of" = some (gg c S))(hT2:cn.T S "conds_of" = some (c8 c S))(h:cT c S ds M Q):wSs cn gn (fin Q) (af ["","","","","","",""] ds) M:=by
 obtain⟨a,m,rows,b,ns,h,g,rfl,A,hb,hns,q⟩:=h;show wSs cn gn (fin Q) [↑a,↑b,~~~h,~~~g,none,none,none] M;have hm:=A.ok.most;unfold gn;simp! only[List.set];intro p hp;have e0:Ext M (updM M p (MO.dic [])):=Ext.new hp;have g0:updM M p (MO.dic []) p=some (.dic (aV [])):=aa;generalize updM M p (MO.dic [])=M1 at *;unfold jp;simp! only[List.set,e0 b _ hb];have hbp:b≠p:=bd hb hp;have outer:∀(rst dn:Zj) (fr:Zp) (v5 v6:Zz) (M2:MH),ns=dn++rst->ExtBut p M1 M2->M2 p=some (.dic (aV fr))->(fr.map (·.1)).Nodup->(∀f r,(f,r)∈fr↔dn.find? (hits rows h g f)=some r) ->
   aq (λM'=>M' b=some (.lst (nats ns))) (.nm 5) (wSs cn cv) { nx:=wSs cn d0 (fin Q),rt:=Q } (nats rst) [↑a,↑b,~~~h,~~~g,↑p,v5,v6] M2:=by
  intro rst;induction rst with
  |nil=>
   intro dn fr v5 v6 M2 hd b2 g2 nd hr;rw[ZA] at hd;subst hd;rw[show nats []=[] from rfl,aq];unfold d0;simp! only[];exact q p fr M2 hp (b2.ext e0 hp) g2 nd hr
  |cons r rst ih=>
   intro dn fr v5 v6 M2 hd b2 g2 nd hr;have e2:Ext M M2:=b2.ext e0 hp;have hrl:r<rows.length:=hns r (by rw[hd];simp);have hx:rows[r]?=some rows[r]:=ZC hrl;generalize rows[r]=x at hx;have hd2:ns=(dn++[r])++rst:=by rw[hd];simp
   have hfit:=m9 A.ok hx;have hfm:∀f∈fr.map (·.1),f<m:=by
    intro f hf;obtain⟨⟨f',r'⟩,hfr,rfl⟩:=XU.1 hf;obtain⟨y,hy,hy1,_⟩:=bY.1 (List.find?_some ((hr _ _).1 hfr));rw[←hy1];exact(m9 A.ok hy).1
   have hlen:fr.length<=m:=by have:=cF nd hfm;rwa [ZE] at this
   have body:∀(E:EndsD) (v6:Zz),((∃r',(x.1,r')∈fr)->E.nx [↑a,↑b,~~~h,~~~g,↑p,~~~r,~~~x.1] M2) ->
     ((∀r',(x.1,r')∉fr)->∀M3,Ext M2 M3->Bif (aI h g x) (E.nx [↑a,↑b,~~~h,~~~g,↑p,~~~r,~~~x.1] (updM M3 p (.dic (aV (fr++[(x.1,r)]))))) (E.nx [↑a,↑b,~~~h,~~~g,↑p,~~~r,~~~x.1] M3)) ->
     wSs cn cv E [↑a,↑b,~~~h,~~~g,↑p,~~~r,v6] M2:=by
    intro E v6 k1 k2;obtain⟨ok,crs,p1,p2,p3,ps1,ps2,ps3,h1,-⟩:=A.ext e2;unfold cv;simp! only[List.set,h1,oj,hT];refine⟨trivial,a,m,rows,r,x,rfl,A.ext e2,hx,?_⟩;unfold jo;simp! only[List.set,h1,fE,hT2,g2,rdL,rdD,qi,f0];by_cases hin:∃r',(x.1,r')∈fr
    ·obtain⟨r',hr'⟩:=hin
     rw[pM x.1 nd hr'];exact k1 ⟨r',hr'⟩
    ·have hno:∀r',(x.1,r')∉fr:=λr' z=>hin ⟨r',z⟩
     rw[(rC x.1 hno).1];simp only[Option.isSome_none,Bool.not_false,aH];refine⟨trivial,a,m,rows,r,x,rfl,A.ext e2,hx,λp4 rs M4 hp4 e4 g4 c4=>?_⟩;refine⟨p4,h,g,rs,x.2,rfl,g4,c4,λt ht=>CT.fit_ok 'b' (hfit.2.2 t ht),λM5 e5=>?_⟩;have k3:=k2 hno M5 (e4.trans e5);have rm:x.2.all (CT.carried (h:Int) (g:Int))=aI h g x:=rfl;rw[rm];cases bb:aI h g x with
     |false=>rw[bb] at k3;exact k3
     |true=>
      rw[bb] at k3;have hsz:(2000:Nat)<sizeLine:=by decide
      simp only[aH,(e4.trans e5) p _ g2,BK hno];exact⟨by unfold aV;rw[ZE];omega,k3⟩
   rw[show nats (r::rst)=⇑r::nats rst from rfl,aq];refine body _ _ ?_ ?_
   ·rintro⟨r',hr'⟩
    refine⟨e2 _ _ hb,ih (dn++[r]) fr _ _ M2 hd2 b2 g2 nd λf r2=>?_⟩;rw[hr,List.find?_append];by_cases hf:x.1=f
    ·subst hf
     rw[(hr _ _).1 hr'];rfl
    ·have:hits rows h g f r=false:=by unfold hits;rw[hx];simp[hf]
     rw[XD,this,List.find?_nil,Option.or_none]
   ·intro hno M3 e3
    have hnf:dn.find? (hits rows h g x.1)=none:=by
     cases e:dn.find? (hits rows h g x.1) with
     |none=>rfl
     |some r'=>exact absurd ((hr _ _).2 e) (hno r')
    cases bb:aI h g x with
    |false=>
     refine⟨(e2.trans e3) _ _ hb,ih (dn++[r]) fr _ _ M3 hd2 (b2.trans e3.but) (e3 _ _ g2) nd λf r2=>?_⟩;rw[hr,List.find?_append];have:hits rows h g f r=false:=by unfold hits;rw[hx];simp[bb]
     rw[XD,this,List.find?_nil,Option.or_none]
    |true=>
     refine⟨?_,ih (dn++[r]) (fr++[(x.1,r)]) _ _ _ hd2 ((b2.trans e3.but).trans (ExtBut.upd _ _ _)) aa ?_ λf r2=>?_⟩
     ·rw[aB hbp];exact(e2.trans e3) _ _ hb
     ·rw[ZK,List.nodup_append]
      refine⟨nd,by simp,λy hy z hz w=>?_⟩;have hz:z=x.1:=by simpa using hz
      subst hz;subst w;obtain⟨⟨f',r'⟩,hfr,he⟩:=XU.1 hy;have he:f'=x.1:=he;subst he;exact hno r' hfr
     ·rw[YB,hr,List.find?_append]
      by_cases hf:x.1=f
      ·subst hf
       have:hits rows h g x.1 r=true:=by unfold hits;rw[hx];simp[bb]
       rw[hnf,XD,this];simp only[Option.none_or,YA,List.not_mem_nil,or_false,Prod.mk.injEq,true_and,Option.some.injEq];constructor
       ·rintro(h | h)
        ·cases h
        ·exact h.symm
       ·exact λh=>.inr h.symm
      ·have:hits rows h g f r=false:=by unfold hits;rw[hx];simp[hf]
       rw[XD,this,List.find?_nil,Option.or_none];constructor
       ·rintro(h | h)
        ·exact h
        ·have:f=x.1/\r2=r:=by simpa using h
         exact absurd this.1.symm hf
       ·exact .inl
 exact outer ns [] [] none none M1 rfl (ExtBut.refl p M1) g0 .nil λf r=>by simp
end
def iZ:Ss:=#v[.ret (.fn 0 #v[.comp 1 (.ix (.var 4) (.int 0)) (.nm 4) (.seq (.fn 1 #v[.var 0,.var 1,.var 2,.var 3])) .no])]
def jW:Ss:=#v[.ret (.var 4)]
def jX:Ss:=#v[.set 8 (.fn 0 #v[.var 0,.fn 1 #v[.var 0,.var 8,.var 5],.var 7,.var 3])]
def jY:Ss:=.cons (.set 6 (.bin .Add (.var 6) (.int 1))) jX
def jZ:Ss:=.cons (.set 5 (.bin .BitAnd (.var 5) (.inv (.var 9)))) jY
def j0:Ss:=.cons (.set 7 (.bin .BitOr (.var 7) (.var 9))) jZ
def j5:Ss:=.cons (.set 9 (.fn 2 #v[.var 8])) j0
def fv:Ss:=.cons (.expr (.mt .extend (.var 4) #v[.comp 1 (.tup #v[.var 10,.var 6,.ix (.var 8) (.var 10)]) (.nm 10) (.seq (.bk .sorted #v[.var 8])) .no])) j5
def j6:Ss:=.cons (.while (.cmp .Gt (.bi .len #v[.var 8]) (.int 0)) fv) jW
def j7:Ss:=.cons (.set 8 (.fn 0 #v[.var 0,.fn 3 #v[.var 0,.var 5],.var 7,.var 3])) j6
def j8:Ss:=.cons (.set 7 (.var 2)) j7
def jq:Ss:=.cons (.set 6 (.int 1)) j8
def jr:Ss:=.cons (.set 5 (.bin .BitAnd (.var 1) (.inv (.var 2)))) jq
def hV:Ss:=.cons (.setC 4 1 (.tup #v[.var 10,.int 0,.non]) (.nm 10) (.seq (.fn 4 #v[.var 2])) .no) jr
def lQ(x:Nat×Nat×Nat):D:=.tup [⇑x.1,.int (x.2.1:Int),.int (x.2.2:Int)]
def lR(f:Nat):D:=.tup [⇑f,.int 0,.non]
def cU(rows:Zy)(g told heads:Nat):List D:=(memb told).map lR++(bh rows g (au heads told+1) 1 told (au heads told)).map lQ
def i3(c:CA)(S:Addr):SpD:=λds M Q=>∃(a:Addr) (m:Nat) (rows:Zy) (heads told g:Nat),ds=[.ref a,⇑heads,⇑told,⇑g]/\SheetAt c S M a m rows/\rows.length<64/\m<64/\heads<2 ^ m/\told<2 ^ m /\
 ∀p M',M p=none->Ext M M'->M' p=some (.lst (cU rows g told heads))->Q (.ref p) M'
def hZ(c:CA)(S:Addr):SpD:=λds M Q=>∃(a:Addr) (m:Nat) (rows:Zy) (heads told g:Nat),ds=[.ref a,⇑heads,⇑told,⇑g]/\SheetAt c S M a m rows/\rows.length<64/\m<64/\heads<2 ^ m/\told<2 ^ m /\
 ∀M',Ext M M'->Q (.int (hU rows g told heads:Nat)) M'
theorem vg(rows:Zy)(h g left:Nat):aA rows h g left=((memb left).filter λf=>(bc rows h g f).isSome).map λf=>(f,(bc rows h g f).getD 0):=by
 unfold aA;induction memb left with
 |nil=>rfl
 |cons f l ih=>
  rw[List.filterMap_cons,XT];cases e:bc rows h g f with
  |none=>simpa using ih
  |some r=>simp[ih,e]
theorem yf(n:Nat):(memb n).Pairwise (· < ·):=List.Pairwise.filter _ List.pairwise_lt_range
theorem Dn{n m:Nat}(h:n<2 ^ m):(memb n).length<=m:=cF (n6 n) λf hf=>dv h ((dc _ _).1 hf)
theorem xn(rows:Zy)(h g left:Nat):(aA rows h g left).map (·.1)=(memb left).filter λf=>(bc rows h g f).isSome:=by
 rw[vg,ZL];exact List.map_id _
theorem oH(rows:Zy)(h g left:Nat):((aA rows h g left).map (·.1)).Pairwise (· < ·):=by
 rw[xn];exact List.Pairwise.filter _ (yf left)
theorem Ab{l l':Zj}(h:∀f,f∈l↔f∈l'):setN l=setN l':=by
 refine XY λf=>?_
 rw[bg,bg];exact decide_eq_decide.2 (h f)
theorem vh{rows:Zy}{g:Nat}:∀(k k' step come left:Nat),left<k->left<k'->bh rows g k step come left=bh rows g k' step come left
 |0,_,_,_,_,h,_=>absurd h (Nat.not_lt_zero _)
 |_,0,_,_,_,_,h=>absurd h (Nat.not_lt_zero _)
 |k+1,k'+1,step,come,left,h,h'=>by
  rw[bh,bh];by_cases e:aA rows come g left=[]
  ·rw[if_pos e,if_pos e]
  ·rw[if_neg e,if_neg e]
   have:=oh e
   rw[vh k k' _ _ _ 'b' 'b']
theorem ib{rows:Zy}{g:Nat}:∀(k step come left:Nat),((bh rows g k step come left).map (·.1)).Nodup/\∀f∈(bh rows g k step come left).map (·.1),left.testBit f=true
 |0,_,_,_=>⟨.nil,λf h=>nomatch h⟩
 |k+1,step,come,left=>by
  rw[bh];by_cases e:aA rows come g left=[]
  ·rw[if_pos e];exact⟨.nil,λf h=>nomatch h⟩
  ·rw[if_neg e]
   obtain⟨h1,h2⟩:=ib (rows:=rows) (g:=g) k (step+1) (come|||newB (aA rows come g left)) (au left (newB (aA rows come g left)));have h0:((aA rows come g left).map λx=>(x.1,step,x.2)).map (·.1)=(aA rows come g left).map (·.1):=by rw[ZL];rfl
   have h3:∀f∈(aA rows come g left).map (·.1),left.testBit f=true:=by
    intro f hf;obtain⟨⟨f',r⟩,hx,rfl⟩:=XU.1 hf;exact(df.1 hx).1
   rw[ZK,h0];refine⟨?_,λf hf=>?_⟩
   ·rw[List.nodup_append]
    refine⟨(oH rows come g left).imp λh=>ZU h,h1,λx hx y hy z=>?_⟩;subst z
    have:=h2 x hy
    rw[aT] at this;have h4:(newB (aA rows come g left)).testBit x=true:=by unfold newB;rw[bg];exact YT hx
    rw[h4,XV,Bool.and_false] at this;cases this
   ·rcases YB.1 hf with hf | hf
    ·exact h3 f hf
    ·have:=h2 f hf
     rw[aT,YV] at this;exact this.1
theorem Ac{p:Nat->Bool}{ns:Zj}{n:Nat}(hs:ns.Pairwise (· < ·))(hl:∀r∈ns,r<n)(hp:∀r,r<n->p r=true->r∈ns):ns.find? p=(List.range n).find? p:=by
 have h1:ns.filter p=(List.range n).filter p:=oi (List.Pairwise.filter _ hs) (List.Pairwise.filter _ List.pairwise_lt_range) λx=>by
  rw[ZV,ZV,ZW];exact⟨λ⟨a,b⟩=>⟨hl x a,b⟩,λ⟨a,b⟩=>⟨hp x a b,b⟩⟩
 rw[←List.head?_filter,←List.head?_filter,h1]
theorem xo{rows:Zy}{h g left:Nat}{ns:Zj}(hs:ns.Pairwise (· < ·))(hl:∀r∈ns,∃x,rows[r]?=some x/\left.testBit x.1=true)(hp:∀f r,left.testBit f=true->hits rows h g f r=true->r∈ns)(f r:Nat):
  ns.find? (hits rows h g f)=some r↔left.testBit f=true/\bc rows h g f=some r:=by
 cases b:left.testBit f with
 |true=>
  unfold bc;rw[Ac hs (λr hr=>let⟨x,hx,_⟩:=hl r hr;(YC.mp hx).1) λr _ q=>hp f r b q];simp
 |false=>
  have:ns.find? (hits rows h g f)=none:=by
   rw[List.find?_eq_none];intro r hr q;obtain⟨x,hx,hb⟩:=hl r hr;obtain⟨y,hy,hf,_⟩:=bY.1 q;rw[hx] at hy;cases hy;rw[hf,b] at hb;cases hb
  rw[this];simp
def eL(rows:Zy)(come g left:Nat)(fr:Zp):Prop:=(fr.map (·.1)).Nodup/\∀f r,(f,r)∈fr↔left.testBit f=true/\bc rows come g f=some r
theorem eL.mem{rows:Zy}{come g left:Nat}{fr:Zp}(h:eL rows come g left fr)(f:Nat):f∈fr.map (·.1)↔f∈(aA rows come g left).map (·.1):=by
 rw[XU,XU];constructor
 ·rintro⟨⟨f',r⟩,hx,rfl⟩;exact⟨_,df.2 ((h.2 _ _).1 hx),rfl⟩
 ·rintro⟨⟨f',r⟩,hx,rfl⟩;exact⟨_,(h.2 _ _).2 (df.1 hx),rfl⟩
theorem eL.nil{rows:Zy}{come g left:Nat}{fr:Zp}(h:eL rows come g left fr)(e:fr.length=0):aA rows come g left=[]:=by
 have e:fr=[]:=List.length_eq_zero_iff.1 e;subst e;cases q:aA rows come g left with
 |nil=>rfl
 |cons x l=>
  have:=(h.mem x.1).2 (by rw[q];exact .head _)
  cases this
theorem Ad{m:Nat}{rows:Zy}{come g left:Nat}{fr:Zp}{ns:Zj}(ok:RowsOk m rows)(h:eL rows come g left fr)(hs:ns.Pairwise (· < ·))
  (hr:∀r,r∈ns ↔ ∃x,rows[r]?=some x/\(au left (setN (fr.map (·.1)))).testBit x.1=true/\∃f∈fr.map (·.1),aW (bW x) f=true) (f r:Nat):
  ns.find? (hits rows (come|||setN (fr.map (·.1))) g f)=some r↔(au left (setN (fr.map (·.1)))).testBit f=true/\bc rows (come|||setN (fr.map (·.1))) g f=some r:=by
 refine xo hs (λr hr'=>let⟨x,hx,hb,_⟩:=(hr r).1 hr';⟨x,hx,hb⟩) ?_ f r;intro f r hf hh;obtain⟨x,hx,rfl,hq⟩:=bY.1 hh;refine(hr r).2 ⟨x,hx,hf,?_⟩;rw[aT,YV,bg] at hf;have hnf:x.1∉fr.map (·.1):=by simpa using hf.2
 have hno:bc rows come g x.1=none:=by
  cases e:bc rows come g x.1 with
  |none=>rfl
  |some r'=>exact absurd (XU.2 ⟨_,(h.2 _ _).2 ⟨hf.1,e⟩,rfl⟩) hnf
 obtain⟨fi,h1,h2,h3⟩:=yc (mJ hno (YR hx) rfl) hq;obtain⟨t,ht,hft⟩:=List.mem_flatMap.1 h1;have h4:=vc ((m9 ok hx).2.2 t ht) _ hft;obtain⟨k,rfl⟩:∃k:Nat,fi=(k:Int):=⟨fi.toNat,by have:=h4.1;simp only at this;omega⟩;rw[bf] at h2 h3;rw[XZ,h2,Bool.false_or,bg] at h3;exact⟨k,XM h3,YT h1⟩
section
variable {cn:Cn}{c:CA}{S:Addr}{ds:List D}{M:MH}{Q:DK}
theorem BL(f0:cn.F.getD 0 Yl=cT c S)(f1:cn.F.getD 1 Yl=dZ c S)(f2:cn.F.getD 2 Yl=bu)
  {E:EndsD}{a p b:Addr}{m:Nat}{rows:Zy}{heads told g left step come:Nat}{fr:Zp}{acc:List D}{v9:Zz}{M0 M:MH}(A:SheetAt c S M0 a m rows) (hn:rows.length<64) (hm:m<64) (hl:left<2 ^ m) (e0:Ext M0 M) (hp0:M0 p=none) (hb0:M0 b=none)
  (hp:M p=some (.lst acc)) (hb:M b=some (.dic (aV fr))) (F:eL rows come g left fr) (hacc:acc.length+64<=2000)
  (k:∀b' fr' w9 M',Ext M0 M'->M0 b'=none->M' p=some (.lst (acc++(aA rows come g left).map λx=>lQ (x.1,step,x.2)))->M' b'=some (.dic (aV fr')) ->
   eL rows (come|||newB (aA rows come g left)) g (au left (newB (aA rows come g left))) fr' ->
   E.nx [↑a,~~~heads,~~~told,~~~g,↑p,some (.int (au left (newB (aA rows come g left)):Nat)),some (.int ((step+1:Nat):Int)),some (.int (come|||newB (aA rows come g left):Nat)),↑b',w9] M'):
  wSs cn fv E [↑a,~~~heads,~~~told,~~~g,↑p,~~~left,~~~step,~~~come,↑b,v9] M:=by
 have hnew:newB (aA rows come g left)=setN (fr.map (·.1)):=Ab λf=>(F.mem f).symm
 have hfm:∀f∈fr.map (·.1),f<m:=by
  intro f hf;obtain⟨⟨f',r⟩,hx,rfl⟩:=XU.1 hf;exact dv hl ((F.2 _ _).1 hx).1
 have hfl:fr.length<=m:=by have:=cF F.1 hfm;rwa [ZE] at this
 have hsz:(2000:Nat)<sizeLine:=by decide
 unfold fv;simp! only[List.set,List.cons_append,XA,List.replicate,dBk,kt,hp,hb,rdL,rdD,Aa,qv];refine⟨rfl,by rw[ZE,ZE];omega,λp2 ms hp2 h1 h2=>?_⟩;obtain⟨ns,rfl,h3,h4⟩:=mK h1 h2 F.1;rw[pL];have hns:ns=(aA rows come g left).map (·.1):=oi h3 (oH _ _ _ _) λf=>(h4 f).trans (F.mem f)
 have e3:=Ext.new (o:=MO.lst (nats ns)) hp2;have g3:updM M p2 (MO.lst (nats ns)) p2=some (.lst (nats ns)):=aa;generalize updM M p2 (MO.lst (nats ns))=M3 at *;simp only[g3];refine bX (f:=λd=>match d with | .int i=>.tup [.int i,⇑step,.int ((bc rows come g i.toNat).getD 0:Nat)] | _=>.non) (ok:=λσ=>∃v,σ=[↑a,~~~heads,~~~told,~~~g,↑p,~~~left,~~~step,~~~come,↑b,v9,v]) [] _ ⟨none,rfl⟩ ?_ ?_
 ·intro d hd σ acc' rest ⟨v,hv⟩ kk
  subst hv;obtain⟨f,hf,rfl⟩:=XU.1 hd;obtain⟨⟨f',r⟩,hx,rfl⟩:=XU.1 ((h4 f).1 hf);have hv:=pM f' F.1 hx;have hr:=((F.2 _ _).1 hx).2;rw[ax];simp! only[List.set,e3 b _ hb,hv];refine⟨g3,?_⟩
  have:=kk [↑a,~~~heads,~~~told,~~~g,↑p,~~~left,~~~step,~~~come,↑b,v9,~~~f'] ⟨_,rfl⟩
  dsimp only at this;rw[YU,hr] at this;exact this
 intro p4 hp4;have hmap:([]++(nats ns).map λd=>match d with | .int i=>D.tup [.int i,⇑step,.int ((bc rows come g i.toNat).getD 0:Nat)] | _=>.non)=(aA rows come g left).map λx=>lQ (x.1,step,x.2):=by
  rw[XA,hns,vg,ZL,ZL];unfold nats;rw[ZL];rw[show((λ(x:Nat×Nat)=>x.1)∘λf=>(f,(bc rows come g f).getD 0))=id from rfl,List.map_id];rfl
 rw[hmap];have hln:((aA rows come g left).map λx=>lQ (x.1,step,x.2)).length<=64:=by
  have h5:ns.length=(aA rows come g left).length:=by rw[hns,ZE]
  have h6:ns.length<=m:=cF (h3.imp λh=>ZU h) λf hf=>hfm f ((h4 f).1 hf)
  rw[ZE];omega
 generalize hnw:((aA rows come g left).map λx=>lQ (x.1,step,x.2))=new at *;have e4:=e3.trans (Ext.new (o:=MO.lst new) hp4);have g4:updM M3 p4 (MO.lst new) p4=some (.lst new):=aa;generalize updM M3 p4 (MO.lst new)=M4 at *;simp only[e4 p _ hp,g4];refine⟨by omega,?_⟩;have e5:Ext M0 (updM M4 p (.lst (acc++new))):=(e0.trans e4).put hp0;have g5:updM M4 p (MO.lst (acc++new)) p=some (.lst (acc++new)):=aa;have hbp:b≠p:=λz=>by subst z;rw[hp] at hb;cases hb
 have b5:updM M4 p (MO.lst (acc++new)) b=some (.dic (aV fr)):=by rw[aB hbp];exact e4 _ _ hb
 generalize updM M4 p (MO.lst (acc++new))=M5 at *;clear e4 g4 hp4 e3 g3 hp2 hmap h1 h2 hns h3 h4 hb hp e0;clear M3 M4 M;unfold j5;simp! only[List.set,f2];refine⟨.ref b,fr.map (·.1),updM M5 b (.rod (aV fr)),rfl,.inr ⟨b,rfl,.inr ⟨aV fr,tH fr,.inl ⟨b5,rfl⟩⟩⟩,λf hf=>by have:=hfm f hf;omega,?_⟩;have e6:Ext M0 (updM M5 b (.rod (aV fr))):=e5.put hb0;have b6:updM M5 b (MO.rod (aV fr)) b=some (.rod (aV fr)):=aa;have g6:updM M5 b (MO.rod (aV fr)) p=some (.lst (acc++new)):=by rw[aB hbp.symm];exact g5
 generalize updM M5 b (MO.rod (aV fr))=M6 at *;unfold j0;simp! only[List.set,tx];unfold jZ;simp! only[wInv,List.set,eI];unfold jY;simp! only[List.set];unfold jX;simp! only[List.set,f0,f1];refine⟨a,m,rows,b,aV fr,fr.map (·.1),_,rfl,A.ext e6,hn,b6,tH fr,hfm,λp7 ns7 M7 hp7 e7 g7 s7 r7=>?_⟩;refine⟨a,m,rows,p7,ns7,_,g,rfl,A.ext (e6.trans e7),g7,λr hr=>?_,λp8 fr8 M8 hp8 e8 g8 n8 r8=>?_⟩
 ·obtain⟨x,hx,_⟩:=(r7 r).1 hr
  exact(YC.mp hx).1
 have:=k p8 fr8 (some (.int (setN (fr.map (·.1)):Nat))) M8 ((e6.trans e7).trans e8) ((e6.trans e7).free hp8) ((e7.trans e8) _ _ g6) g8
 rw[hnew] at this;exact this ⟨n8,λf r=>(r8 f r).trans (Ad A.ok F s7 r7 f r)⟩
end
theorem qU{m:Nat}{rows:Zy}{g told heads:Nat}(h1:told<2 ^ m)(h2:heads<2 ^ m):(cU rows g told heads).length<=2*m:=by
 unfold cU;rw[ZJ,ZE,ZE];have a:=Dn h1;obtain⟨nd,hf⟩:=ib (rows:=rows) (g:=g) (au heads told+1) 1 told (au heads told);have b:=cF (n:=m) nd λf q=>dv h2 (by have:=hf f q;rw[aT,YV] at this;exact this.1)
 rw[ZE] at b;omega
section
variable {cn:Cn}{c:CA}{S:Addr}{ds:List D}{M:MH}{Q:DK}
theorem BM (f0:cn.F.getD 0 Yl = cT c S) (f1:cn.F.getD 1 Yl = dZ c S) (f2:cn.F.getD 2 Yl = bu) (f3:cn.F.getD 3 Yl = lO c S) (f4:cn.F.getD 4 Yl = gB)
  (h:i3 c S ds M Q):wSs cn hV (fin Q) (af ["","","","","","","","","",""] ds) M:=by
 obtain ⟨a,m,rows,heads,told,g,rfl,A,hn,hm,hh,ht,q⟩:=h
 show wSs cn hV (fin Q) [↑a,~~~heads,~~~told,~~~g,none,none,none,none,none,none] M
 have tot:=qU (rows:=rows) (g:=g) ht hh
 unfold hV
 simp! only [List.cons_append,XA,List.replicate,f4]
 refine ⟨told,rfl,ZS ht (Nat.pow_le_pow_right 'a' 'b'),λp0 M1 hp0 e1 g1=>?_⟩
 simp only [g1]
 refine bX (f:=λd=>.tup [d,.int 0,.non]) (ok:=λσ=>∃ v,σ = [↑a,~~~heads,~~~told,~~~g,none,none,none,none,none,none,v]) [] _ ⟨none,rfl⟩ ?_ ?_
 ·intro d hd σ acc' rest ⟨v,hv⟩ kk
  subst hv
  exact ⟨g1,kk _ ⟨_,rfl⟩⟩
 intro p hp
 have hmap:([] ++ (nats (memb told)).map λd=>D.tup [d,.int 0,.non]) = (memb told).map lR:=by
  rw [XA]; unfold nats; rw [ZL]; rfl
 rw [hmap]
 have e2:Ext M (updM M1 p (.lst ((memb told).map lR))):=e1.then hp
 have g2:updM M1 p (MO.lst ((memb told).map lR)) p = some (.lst ((memb told).map lR)):=aa
 have hpn:M p = none:=e1.free hp
 generalize updM M1 p (MO.lst ((memb told).map lR)) = M2 at *
 clear hp e1 g1 hp0
 clear M1
 unfold jr
 simp! only [wInv,List.set,eI]
 unfold jq
 simp! only [List.set]
 unfold j8
 simp! only [List.set]
 unfold j7
 simp! only [List.set,f0,f3]
 have hl:au heads told < 2 ^ m:=by have:=n5 heads told; omega
 refine ⟨a,m,rows,au heads told,rfl,A.ext e2,hn,hl,λp3 ns M3 hp3 e3 g3 s3 r3=>?_⟩
 refine ⟨a,m,rows,p3,ns,told,g,rfl,A.ext (e2.trans e3),g3,λr hr=>?_,λb fr M4 hb e4 g4 n4 r4=>?_⟩
 ·obtain ⟨x,hx,_⟩:=(r3 r).1 hr
  exact (YC.mp hx).1
 have F4:eL rows told g (au heads told) fr:=⟨n4,λf r=>(r4 f r).trans (xo s3 (λr hr=>(r3 r).1 hr) (λf r h1 h2=>by
  obtain ⟨x,hx,rfl,_⟩:=bY.1 h2
  exact (r3 r).2 ⟨x,hx,h1⟩) f r)⟩
 have hbn:M b = none:=(e2.trans e3).free hb
 have e5:Ext M M4:=(e2.trans e3).trans e4
 have g5:M4 p = some (.lst ((memb told).map lR)):=(e3.trans e4) _ _ g2
 unfold j6
 show sM _ _ _ _ _
 refine ⟨λk σ M'=>∃ (left step come:Nat) (b:Addr) (fr:List (Nat × Nat)) (v9:Zz) (acc:List D),left = k/\σ = [↑a,~~~heads,~~~told,~~~g,↑p,~~~left,~~~step,~~~come,↑b,v9] /\
  Ext M M'/\M b = none/\M' p = some (.lst acc)/\M' b = some (.dic (aV fr))/\eL rows come g left fr/\left < 2 ^ m/\acc ++ (bh rows g (left + 1) step come left).map lQ = cU rows g told heads,?_,?_⟩
 ·exact ⟨_,au heads told,1,told,b,fr,none,_,rfl,rfl,e5,hbn,g5,g4,F4,hl,rfl⟩
 rintro k σ M' ⟨left,step,come,b,fr,v9,acc,rfl,rfl,e6,hb6,g6,d6,F6,hl6,h6⟩
 have hlen6:=congrArg List.length h6
 rw [ZJ] at hlen6
 have hgt:∀ K:Bool->MH->Prop,K (decide (0 < (fr.length:Int))) M'->wT cn (.cmp .Gt (.bi .len (.cons (.var 8) .nil)) (.int 0)) [↑a,~~~heads,~~~told,~~~g,↑p,~~~left,~~~step,~~~come,↑b,v9] M' K:=by
  intro K hK
  simp! only [List.set,d6]
  rw [show (aV fr).length = fr.length by unfold aV; rw [ZE]]
  exact hK
 refine hgt _ ?_
 by_cases hz:fr.length = 0
 ·rw [ZQ 'b']
  have hno:=F6.nil hz
  rw [bh,if_pos hno,YW,ZA] at h6
  rw [ao]
  dsimp only
  unfold jW
  simp! only [List.set]
  refine q p M' hpn e6 ?_
  rw [g6,h6]
 ·rw [YT 'b']
  have hne:aA rows come g left ≠ []:=λz=>by
   have hx:fr ≠ []:=λw=>hz (by rw [w]; rfl)
   obtain ⟨x,hx⟩:=List.exists_mem_of_ne_nil _ hx
   have:=(F6.mem x.1).1 (XU.2 ⟨x,hx,rfl⟩)
   rw [z] at this; cases this
  have hlt:=oh hne
  rw [aH]
  refine ⟨λσ' M''=>∃ k',k' < left/\_,λσ' M'' h=>h,?_⟩
  refine BL f0 f1 f2 A hn hm hl6 e6 hpn hb6 g6 d6 F6 'b' ?_
  intro b' fr' w9 M'' e7 hb7 g7 d7 F7
  refine ⟨_,hlt,_,step + 1,_,b',fr',w9,_,rfl,rfl,e7,hb7,g7,d7,F7,by omega,?_⟩
  have r1:bh rows g (left + 1) step come left = (aA rows come g left).map (λx=>(x.1,step,x.2)) ++ bh rows g left (step + 1) (come ||| newB (aA rows come g left)) (au left (newB (aA rows come g left))):=by rw [bh,if_neg hne]
  rw [← h6,r1,ZK,ZL,List.append_assoc,vh (au left (newB (aA rows come g left)) + 1) left _ _ _ 'b' hlt]
  rfl
theorem uu(f0:cn.F.getD 0 Yl=bu)(f1:cn.F.getD 1 Yl=i3 c S)(h:hZ c S ds M Q):wSs cn iZ (fin Q) (af ["","","",""] ds) M:=by
 obtain⟨a,m,rows,heads,told,g,rfl,A,hn,hm,hh,ht,q⟩:=h;show wSs cn iZ (fin Q) [↑a,~~~heads,~~~told,~~~g] M;unfold iZ;simp! only[List.cons_append,XA,List.replicate,f0,f1];refine⟨a,m,rows,heads,told,g,rfl,A,hn,hm,hh,ht,λp M1 hp e1 g1=>?_⟩;simp only[g1];have hall:∀d∈cU rows g told heads,∃(f:Nat) (r:List D),d=.tup (⇑f::r):=by
  intro d hd;rcases YB.1 hd with hd | hd
  ·obtain⟨f,_,rfl⟩:=XU.1 hd
   exact⟨f,_,rfl⟩
  ·obtain⟨x,_,rfl⟩:=XU.1 hd
   exact⟨x.1,_,rfl⟩
 refine bX (f:=λd=>match d with | .tup (h::_)=>h | _=>.non) (ok:=λσ=>∃v,σ=[↑a,~~~heads,~~~told,~~~g,v]) [] _ ⟨none,rfl⟩ ?_ ?_
 ·intro d hd σ acc' rest ⟨v,hv⟩ kk
  subst hv;obtain⟨f,r,rfl⟩:=hall d hd;rw[ax];simp! only[List.set,at0];exact⟨g1,kk _ ⟨_,rfl⟩⟩
 intro p2 hp2;have hmap:([]++(cU rows g told heads).map λd=>match d with | .tup (h::_)=>h | _=>.non)=nats (memb told++(bh rows g (au heads told+1) 1 told (au heads told)).map (·.1)):=by
  rw[XA];unfold cU nats;rw[ZK,ZK,ZL,ZL,ZL];rfl
 rw[hmap];refine⟨.ref p2,_,_,rfl,.inr ⟨p2,rfl,.inl ⟨aa,rfl⟩⟩,?_,?_⟩
 ·intro f hf
  rcases YB.1 hf with hf | hf
  ·have:=dv ht ((dc _ _).1 hf);omega
  ·have:=(ib _ _ _ _).2 f hf
   rw[aT,YV] at this
   have:=dv hh this.1
   omega
 ·have:setN (memb told++(bh rows g (au heads told+1) 1 told (au heads told)).map (·.1))=hU rows g told heads:=by
   refine XY λf=>?_
   unfold hU;rw[XZ,bg,bg];cases e:told.testBit f with
   |true=>rw[Bool.true_or];exact YT (YB.2 (.inl ((dc _ _).2 e)))
   |false=>
    rw[Bool.false_or];refine decide_eq_decide.2 ⟨λh=>?_,λh=>YB.2 (.inr h)⟩;rcases YB.1 h with h | h
    ·rw[(dc _ _).1 h] at e;cases e
    ·exact h
  rw[this];exact q _ (e1.then hp2)
end
structure Box2 (p:Addr) (k:Int) (M M':MH) (b:Int):Prop where
 but:ExtBut p M M'
 at_:M' p=some (.lst [.int b,.int k])
theorem ExtBut.put{p r:Addr}{o:MO}{M M':MH}(h:ExtBut p M M')(hr:M r=none):ExtBut p M (updM M' r o):=λa u n q=>by
 have:a≠r:=λz=>by subst z;rw[hr] at q;cases q
 rw[aB this];exact h a u n q
theorem modB{y m:Int}(h:0<m):0<=y%m/\y%m<m:=⟨Int.emod_nonneg _ 'b',Int.emod_lt_of_pos _ h⟩
theorem ca(m:Nat):a8 0 (m:Int)=nats (List.range m):=by
 unfold a8 nats;rw[show((m:Int)-0).toNat=m by omega];refine ZM λi _=>?_
 rw[Int.zero_add]
theorem vi(fs:Zj):nats fs=intL (fs.map λ(f:Nat)=>(f:Int)):=by unfold nats intL;rw[ZL];rfl
theorem Ae(ls:Zj)(i:Nat):(nats ls).eraseIdx i=nats (ls.eraseIdx i):=by
 unfold nats;induction ls generalizing i with
 |nil=>rfl
 |cons a r ih=>
  cases i with
  |zero=>rfl
  |succ i=>rw[YJ,List.eraseIdx_cons_succ,List.eraseIdx_cons_succ,YJ,ih]
theorem tI{α:Type}:∀{l:List α}{i:Nat}{x:α},l[i]?=some x->(x::l.eraseIdx i).Perm l
 |[],_,_,h=>by simp at h
 |a::l,0,x,h=>by
  rw[XQ] at h;cases h;exact List.Perm.refl _
 |a::l,i+1,x,h=>by
  rw[List.getElem?_cons_succ] at h;rw[List.eraseIdx_cons_succ];exact(List.Perm.swap _ _ _).trans ((tI h).cons a)
theorem yg{fs:Zj}(h:fs.Nodup):(fs.map λ(f:Nat)=>(f:Int)).Nodup:=by
 unfold List.Nodup;rw[List.pairwise_map];exact List.Pairwise.imp (λh z=>h 'b') h
structure Drawn (m:Nat) (rs fs:Zj):Prop where
 nd:(fs++rs).Nodup
 lt:∀f∈fs++rs,f<m
 len:fs.length+rs.length=m
theorem Drawn.pop{m:Nat}{rs fs:Zj}{i x:Nat}(h:Drawn m rs fs)(hx:rs[i]?=some x):Drawn m (rs.eraseIdx i) (fs++[x]):=by
 have hp:(fs++[x]++rs.eraseIdx i).Perm (fs++rs):=by
  rw[List.append_assoc];exact List.Perm.append_left _ (tI hx)
 have hl:=hp.length_eq;refine⟨hp.nodup_iff.2 h.nd,λf hf=>h.lt f (hp.mem_iff.1 hf),?_⟩
 have:=h.len
 simp only[ZJ] at hl ⊢;omega
def hid2(r p:Addr)(M:MH):MH:=λb=>if b=r then none else if b=p then none else M b
section
variable {r p q:Addr}{M M':MH}{o:MO}
theorem G7(r p:Addr)(M:MH)(o:MO):hid2 r p (updM M r o)=hid2 r p M:=by
 funext b;unfold hid2 updM;split<;>rfl
theorem rE(h:ExtBut p M M'):Ext (hid2 r p M) (hid2 r p M'):=λb o q=>by
 unfold hid2 at q ⊢;split at q
 ·cases q
 ·rename_i n1
  rw[if_neg n1];split at q
  ·cases q
  ·rename_i n2
   rw[if_neg n2];exact h b o n2 q
theorem Do(h:Ext M M'):Ext (hid2 r p M) (hid2 r p M'):=rE h.but
theorem Fn(n1:q≠r)(n2:q≠p):hid2 r p M q=M q:=by
 unfold hid2;rw[if_neg n1,if_neg n2]
end
def na(m:Nat)(rows:Zy):Prop:=∀x∈rows,x.1<m/\x.2.length<=6/\∀t∈x.2,t.fit (m:Int)
theorem na.add{m:Nat}{rows:Zy}{x:Row}(h:na m rows)(h1:x.1<m)(h2:x.2.length<=6)(h3:∀t∈x.2,t.fit (m:Int)):na m (rows++[x]):=λy hy=>by
 rcases YB.1 hy with hy | hy
 ·exact h y hy
 ·have:y=x:=by simpa using hy
  subst this;exact⟨h1,h2,h3⟩
structure RowsSt (m:Nat) (R:Addr) (M2 M5:MH) (n:Nat):Prop where
 but:ExtBut R M2 M5
 ex:∃rds rows,M5 R=some (.lst rds)/\ba (hid R M5) rds rows/\na m rows/\rows.length<=n
structure RowsSt2 (m:Nat) (R p:Addr) (k:Int) (M2 M5:MH) (n:Nat):Prop where
 but:ExtBut R M2 M5
 box:∃b,M5 p=some (.lst [.int b,.int k])
 ex:∃rds rows,M5 R=some (.lst rds)/\ba (hid2 R p M5) rds rows/\na m rows/\rows.length<=n
def d3:SpD:=λds M Q=>∃(t:CT) (h g:Int),ds=[t.told,.int h,.int g]/\t.ok/\∀M',Ext M M'->Q (.bl (t.carried h g)) M'
theorem yT(m:Nat):(1:Int)*2 ^ (m:Int).toNat=((2 ^ m:Nat):Int):=by rw[YU,Int.one_mul];simp
end SH
namespace SQ
open PySem L2 DD
open SH
def oI:Ss:=#v[.ret (.bin .Mod (.bin .Add (.bin .Add (.bin .Mult (.var 2) (.var 2)) (.bin .Mult (.int 7) (.var 2))) (.var 1)) (.int 2147483629))]
def oJ:Ss:=.cons (.set 2 (.bin .Mod (.bin .Mult (.var 2) (.var 2)) (.int 2147483647))) oI
def jH:Ss:=.cons (.set 2 (.bin .Mod (.bin .Add (.bin .Add (.bin .Mult (.bin .Mod (.var 2) (.int 2147483647)) (.int 48271)) (.bin .Mult (.int 7919) (.var 1))) (.int 1)) (.int 2147483647))) oJ
def oK:Ss:=.cons (.ite (.cmp .Lt (.var 1) (.bi .len #v[.var 0])) #v[.set 2 (.ix (.var 0) (.var 1))] .nil) jH
def mN:Ss:=.cons (.set 2 (.bin .Add (.bin .Mult (.int 104729) (.var 1)) (.int 7))) oK
def ic:Ss:=#v[.ret (.lst #v[.var 2])]
def lS:Ss:=#v[.set 2 (.bin .Add (.bin .Mult (.var 2) (.int 2147483647)) (.bin .Mod (.bin .Add (.bin .Mult (.var 4) (.var 4)) (.bin .Mult (.int 7) (.var 4))) (.int 2147483647)))]
def lT:Ss:=.cons (.set 4 (.bin .Mod (.bin .Add (.bin .Add (.bin .Mult (.var 4) (.var 4)) (.bin .Mult (.int 48271) (.fn 0 #v[.var 0,.bin .Add (.bin .Add (.var 1) (.int 2)) (.var 3)]))) (.var 3)) (.int 2147483629))) lS
def dN:Ss:=.cons (.set 4 (.bin .Mod (.bin .Add (.fn 0 #v[.var 0,.var 1]) (.bin .Mult (.int 7919) (.var 3))) (.int 2147483587))) lT
def lU:Ss:=.cons (.for (.nm 3) (.rg1 #v[.int 40]) dN) ic
def ie:Ss:=.cons (.set 2 (.int 0)) lU
def jI:Ss:=.cons (.ite (.and (.cmp .Eq (.bin .Mod (.fn 0 #v[.var 0,.bin .Add (.var 1) (.int 1)]) (.int 2)) (.int 0)) (.cmp .Lt (.var 1) (.bi .len #v[.var 0]))) #v[.ret (.lst #v[.ix (.var 0) (.var 1)])] .nil) ie
def nb:Ss:=#v[.ret (.var 2)]
def ng:Ss:=.cons (.putIx (.var 0) (.int 0) (.bin .FloorDiv (.ix (.var 0) (.int 0)) (.var 1))) nb
def kY:Ss:=.cons (.set 2 (.bin .Mod (.ix (.var 0) (.int 0)) (.var 1))) ng
def dO:Ss:=#v[.ret (.bi .tuple #v[.var 3])]
def dP:Ss:=#v[.expr (.mt .append (.var 3) #v[.mt .pop (.var 2) #v[.fn 0 #v[.var 0,.bi .len #v[.var 2]]]])]
def lV:Ss:=.cons (.for (.nm 4) (.rg1 #v[.bin .Add (.int 1) (.fn 0 #v[.var 0,.bi .min #v[.int 6,.var 1]])]) dP) dO
def lW:Ss:=.cons (.set 3 (.lst .nil)) lV
def jJ:Ss:=.cons (.set 2 (.lrg #v[.var 1])) lW
def oM:Ss:=#v[.ret (.tup #v[.str "lead",.var 3,.fn 0 #v[.var 0,.bi .len #v[.var 3]]])]
def oN:Ss:=.cons (.ite (.cmp .Eq (.var 2) (.int 6)) #v[.ret (.tup #v[.str "some",.bin .Add (.int 1) (.fn 0 #v[.var 0,.bi .min #v[.int 6,.bin .Add (.bi .len #v[.var 3]) (.int 1)]]),.var 3])] .nil) oM
def oO:Ss:=.cons (.set 3 (.fn 1 #v[.var 0,.var 1])) oN
def oP:Ss:=.cons (.ite (.cmp .Lt (.var 2) (.int 6)) #v[.ret (.tup #v[.str "lack",.fn 0 #v[.var 0,.var 1]])] .nil) oO
def oQ:Ss:=.cons (.ite (.cmp .Lt (.var 2) (.int 3)) #v[.ret (.tup #v[.str "have",.fn 0 #v[.var 0,.var 1]])] .nil) oP
def mO:Ss:=.cons (.set 2 (.fn 0 #v[.var 0,.int 8])) oQ
structure Box1 (p:Addr) (M M':MH) (b:Int):Prop where
 but:ExtBut p M M'
 at_:M' p=some (.lst [.int b])
theorem Box1.draw{p:Addr}{b:Int}{M M':MH}(h:Box1 p M M' b)(b':Int):Box1 p M (updM M' p (.lst [.int b'])) b':=⟨h.but.trans (ExtBut.upd _ _ _),aa⟩
theorem Box1.ext{p:Addr}{b:Int}{M M' M'':MH}(h:Box1 p M M' b)(e:Ext M' M''):Box1 p M M'' b:=⟨h.but.trans e.but,e _ _ h.at_⟩
theorem Box1.put{p r:Addr}{b:Int}{o:MO}{M M':MH}(h:Box1 p M M' b)(hr:M r=none)(hp:M p≠none):Box1 p M (updM M' r o) b:=⟨h.but.put hr,by
 have:p≠r:=λz=>by subst z;exact hp hr
 rw[aB this];exact h.at_⟩
theorem Box1.none{p r:Addr}{b:Int}{M M':MH}(h:Box1 p M M' b)(hr:M' r=none):M r=none:=by
 cases e:M r with
 |none=>rfl
 |some o=>
  by_cases z:r=p
  ·subst z;rw[h.at_] at hr;cases hr
  ·rw[h.but _ _ z e] at hr;cases hr
def tJ:SpD:=λds M Q=>∃(a:Addr) (ns:Zi) (k:Nat),ds=[.ref a,⇑k]/\M a=some (.rol (ns.map .int))/\∀c:Int,0<=c->c<2147483629->Q (.int c) M
def on:SpD:=λds M Q=>∃(a:Addr) (ns:Zi) (k:Nat),ds=[.ref a,⇑k]/\M a=some (.rol (ns.map .int))/\∀(p:Addr) (b:Int),M p=none->Q (.ref p) (updM M p (.lst [.int b]))
def cV:SpD:=λds M Q=>∃(p:Addr) (b:Int) (m:Nat),ds=[.ref p,⇑m]/\M p=some (.lst [.int b])/\(0<m/\m<1073741824)/\∀(v:Nat) (b':Int),v<m->Q (⇑v) (updM M p (.lst [.int b']))
def oo:SpD:=λds M Q=>∃(p:Addr) (b:Int) (m:Nat),ds=[.ref p,⇑m]/\M p=some (.lst [.int b])/\(0<m/\m<64)/\∀(fs:Zj) M' b',fs.Nodup->(∀f∈fs,f<m)->(0<fs.length/\fs.length<=6)->Box1 p M M' b'->Q (.tup (nats fs)) M'
def pN:SpD:=λds M Q=>∃(p:Addr) (b:Int) (m:Nat),ds=[.ref p,⇑m]/\M p=some (.lst [.int b])/\(0<m/\m<64)/\∀(t:CT) M' b',t.fit (m:Int)->Box1 p M M' b'->Q t.told M'
theorem ix0(x:D):atI [x] 0=some x:=at0 x []
theorem Ic(x:D):ixN ([x]:List D).length 0=some 0:=rfl
section
variable {cn:Cn}{ds:List D}{M:MH}{Q:DK}
theorem Fo(h:tJ ds M Q):wSs cn mN (fin Q) (af ["","",""] ds) M:=by
 obtain⟨a,ns,k,rfl,hM,q⟩:=h;show wSs cn mN (fin Q) [↑a,~~~k,none] M;have last:∀x:Int,wSs cn jH (fin Q) [↑a,~~~k,some (.int x)] M:=by
  intro x;unfold jH;simp! only[List.set];refine⟨by decide,.inr ⟨by decide,by decide⟩,.inl ⟨by decide,by decide⟩,by decide,?_⟩;generalize x%2147483647*48271+7919*(k:Int)+1=x1;have b1:=modB (y:=x1) (m:=2147483647) 'a';generalize x1%2147483647=y at *;unfold oJ;simp! only[List.set];refine⟨.inl ⟨by omega,by omega⟩,by decide,?_⟩;generalize y*y=x2;have b2:=modB (y:=x2) (m:=2147483647) 'a';generalize x2%2147483647=z at *;unfold oI;simp! only[List.set];refine⟨.inl ⟨by omega,by omega⟩,.inl ⟨by decide,by decide⟩,by decide,?_⟩;have b3:=modB (y:=z*z+7*z+(k:Int)) (m:=2147483629) 'a';exact q _ b3.1 b3.2
 unfold mN;simp! only[List.set];refine⟨.inl ⟨by decide,by decide⟩,?_⟩;unfold oK;simp! only[List.set,hM,ZE];refine p9 (λhlt=>?_) (λhlt=>?_)
 ·have hk:k<ns.length:=by omega
  rw[cN (by rw[ZF,ZC hk];rfl)];exact last _
 ·exact last _
theorem Dp(h:cV ds M Q):wSs cn kY (fin Q) (af ["","",""] ds) M:=by
 obtain⟨p,b,m,rfl,hM,hm,q⟩:=h;show wSs cn kY (fin Q) [↑p,~~~m,none] M;unfold kY;simp! only[List.set,hM,ix0];refine⟨by omega,?_⟩;have h1:=modB (y:=b) (m:=(m:Int)) 'b';unfold ng;simp! only[List.set,hM,ix0,Ic];refine⟨⟨by omega,by omega⟩,?_⟩;unfold nb;simp! only[List.set]
 have:=q (b%(m:Int)).toNat (b / (m:Int)) 'b'
 rwa [Int.toNat_of_nonneg h1.1] at this
theorem BN (f0:cn.F.getD 0 Yl = tJ) (h:on ds M Q):wSs cn jI (fin Q) (af ["","","","",""] ds) M:=by
  obtain ⟨a,ns,k,rfl,hM,q⟩:=h
  show wSs cn jI (fin Q) [↑a,~~~k,none,none,none] M
  have body:∀ (E:EndsD) (x:Int) (j:Nat) (v4:Zz),(∀ x' v4',E.nx [↑a,~~~k,some (.int x'),~~~j,v4'] M)->wSs cn dN E [↑a,~~~k,some (.int x),~~~j,v4] M:=by
    intro E x j v4 kk
    unfold dN
    simp! only [List.set,f0]
    refine ⟨a,ns,k,rfl,hM,λc1 _ _=>?_⟩
    simp! only []
    refine ⟨.inl ⟨by decide,by decide⟩,by decide,?_⟩
    generalize c1 + 7919 * (j:Int) = x1
    have b1:=modB (y:=x1) (m:=2147483587) 'a'
    generalize x1 % 2147483587 = y at *
    unfold lT
    simp! only [List.set,f0]
    refine ⟨.inl ⟨by omega,by omega⟩,a,ns,k + 2 + j,?_,hM,λc2 _ _=>?_⟩
    · congr 3
    simp! only []
    refine ⟨.inl ⟨by decide,by decide⟩,by decide,?_⟩
    generalize y * y + 48271 * c2 + (j:Int) = x2
    have b2:=modB (y:=x2) (m:=2147483629) 'a'
    generalize x2 % 2147483629 = z at *
    unfold lS
    simp! only [List.set]
    refine ⟨.inr ⟨by decide,by decide⟩,.inl ⟨by omega,by omega⟩,.inl ⟨by decide,by decide⟩,by decide,?_⟩
    exact kk _ _
  have rest:wSs cn ie (fin Q) [↑a,~~~k,none,none,none] M:=by
    unfold ie
    simp! only [List.set]
    unfold lU
    simp! only [List.set]
    refine ⟨⟨by decide,by decide⟩,?_⟩
    rw [show (40:Int) = ((40:Nat):Int) from rfl,ca]
    have key:∀ (xs:Zj) (x:Int) (v3 v4:Zz),aq (λ_=>True) (.nm 3) (wSs cn dN) { nx:=wSs cn ic (fin Q),rt:=Q } (nats xs) [↑a,~~~k,some (.int x),v3,v4] M:=by
      intro xs
      induction xs with
      | nil=>
        intro x v3 v4
        rw [show nats [] = [] from rfl,aq]
        unfold ic
        simp! only [List.set]
        exact λp hp=>q p x hp
      | cons j xs ih=>
        intro x v3 v4
        rw [show nats (j :: xs) = ⇑j :: nats xs from rfl,aq]
        refine body _ x j v4 ?_
        intro x' v4'
        exact ⟨trivial,ih x' _ _⟩
    exact key _ 0 none none
  unfold jI
  simp! only [ah,ai,al,aj,ag,am,ad,ac,YL,and_self,true_and,and_true,List.set,f0,hM,ZE]
  refine ⟨a,ns,k + 1,rfl,hM,λc _ _=>?_⟩
  simp! only [ah,ai,al,aj,ag,am,ad,ac,YL,and_self,true_and,and_true]
  refine ⟨by decide,?_⟩
  refine Bif2 (λ_=>?_) (λ_=>rest)
  simp only [hM,ZE]
  refine p9 (λhlt=>?_) (λhlt=>rest)
  have hk:k < ns.length:=by omega
  rw [cN (by rw [ZF,ZC hk]; rfl)]
  exact λp hp=>q p _ hp
theorem BO(f0:cn.F.getD 0 Yl=cV)(h:oo ds M Q):wSs cn jJ (fin Q) (af ["","","","",""] ds) M:=by
 obtain⟨p,b,m,rfl,hM,hm,q⟩:=h;show wSs cn jJ (fin Q) [↑p,~~~m,none,none,none] M;have hpn:M p≠none:=by rw[hM];simp
 have B1:Box1 p M M b:=⟨ExtBut.refl _ _,hM⟩;unfold jJ;simp! only[List.set];refine⟨⟨by omega,by omega⟩,λpr hpr=>?_⟩;rw[ca];have hprM:=hpr;have B2:Box1 p M (updM M pr (.lst (nats (List.range m)))) b:=B1.ext (Ext.new hpr);have g2:updM M pr (MO.lst (nats (List.range m))) pr=some (.lst (nats (List.range m))):=aa;generalize updM M pr (MO.lst (nats (List.range m)))=M2 at *;unfold lW;simp! only[List.set];intro pf hpf;have hpfM:M pf=none:=B2.none hpf;have B3:Box1 p M (updM M2 pf (.lst [])) b:=B2.ext (Ext.new hpf);have g3:updM M2 pf (MO.lst []) pf=some (.lst (nats [])):=aa;have r3:updM M2 pf (MO.lst []) pr=some (.lst (nats (List.range m))):=(Ext.new hpf) _ _ g2;have hne:pf≠pr:=λz=>by subst z;rw[hpf] at g2;cases g2
 have hpp:p≠pr:=λz=>by subst z;exact hpn hprM
 have hpp2:p≠pf:=λz=>by subst z;exact hpn hpfM
 generalize updM M2 pf (MO.lst [])=M3 at *;clear B1 B2 g2 hpf;clear M2;have D3:Drawn m (List.range m) []:=⟨List.nodup_range,λf hf=>by simpa using hf,by simp⟩;unfold lV;simp! only[List.set,f0];refine⟨p,b,min 6 m,?_,B3.at_,⟨by omega,by omega⟩,λw b4 hw=>?_⟩
 ·congr 3
  split<;>omega
 have B4:=B3.draw b4;have g4:updM M3 p (MO.lst [.int b4]) pf=some (.lst (nats [])):=by rw[aB hpp2.symm];exact g3
 have r4:updM M3 p (MO.lst [.int b4]) pr=some (.lst (nats (List.range m))):=by rw[aB hpp.symm];exact r3
 generalize updM M3 p (MO.lst [.int b4])=M4 at *;clear B3 g3 r3;clear M3;refine⟨⟨by omega,by omega⟩,?_⟩;rw[show(1:Int)+(w:Int)=((w+1:Nat):Int) by omega,ca];have hw1:w+1<=m/\w+1<=6:=by omega
 have last:∀(fs rs:Zj) (v4:Zz) (b5:Int) (M5:MH),fs.length=w+1->Drawn m rs fs->Box1 p M M5 b5->M5 pf=some (.lst (nats fs))->wSs cn dO (fin Q) [↑p,~~~m,↑pr,↑pf,v4] M5:=by
  intro fs rs v4 b5 M5 hfl D5 B5 g5;unfold dO;simp! only[List.set,g5,rdL];exact q fs M5 b5 (List.nodup_append.1 D5.nd).1 (λf hf=>D5.lt f (YB.2 (.inl hf))) ⟨by omega,by omega⟩ B5
 have body:∀(E:EndsD) (fs rs:Zj) (v4:Zz) (b5:Int) (M5:MH),Drawn m rs fs->0<rs.length->Box1 p M M5 b5->M5 pf=some (.lst (nats fs))->M5 pr=some (.lst (nats rs)) ->
   (∀fs' rs' b6 M6,Drawn m rs' fs'->fs'.length=fs.length+1->Box1 p M M6 b6->M6 pf=some (.lst (nats fs'))->M6 pr=some (.lst (nats rs'))->E.nx [↑p,~~~m,↑pr,↑pf,v4] M6) ->
   wSs cn dP E [↑p,~~~m,↑pr,↑pf,v4] M5:=by
  intro E fs rs v4 b5 M5 D5 hrs B5 g5 r5 kk;have hfr:=D5.len;unfold dP;simp! only[List.set,f0,g5,r5,iX];refine⟨rfl,rfl,p,b5,rs.length,rfl,B5.at_,⟨hrs,by omega⟩,λi b6 hi=>?_⟩;have B6:=B5.draw b6;have g6:updM M5 p (MO.lst [.int b6]) pf=some (.lst (nats fs)):=by rw[aB hpp2.symm];exact g5
  have r6:updM M5 p (MO.lst [.int b6]) pr=some (.lst (nats rs)):=by rw[aB hpp.symm];exact r5
  generalize updM M5 p (MO.lst [.int b6])=M6 at *;have hx:rs[i]?=some rs[i]:=ZC hi;generalize rs[i]=x at hx;have hxn:(nats rs)[(i:Int).toNat]?= ~~~x:=by unfold nats;rw[YU,ZF,hx];rfl
  simp only[r6,hxn];refine⟨⟨by omega,by omega⟩,?_⟩;rw[YU,Ae];have B7:Box1 p M (updM M6 pr (.lst (nats (rs.eraseIdx i)))) b6:=B6.put hprM hpn;have g7:updM M6 pr (MO.lst (nats (rs.eraseIdx i))) pf=some (.lst (nats fs)):=by rw[aB hne];exact g6
  have r7:updM M6 pr (MO.lst (nats (rs.eraseIdx i))) pr=some (.lst (nats (rs.eraseIdx i))):=aa;generalize updM M6 pr (MO.lst (nats (rs.eraseIdx i)))=M7 at *;simp only[g7,iX];have hsz:(2000:Nat)<sizeLine:=by decide
  refine⟨by omega,?_⟩;rw[show nats fs++[D.int (x:Int)]=nats (fs++[x]) by unfold nats;rw[ZK];rfl];exact kk (fs++[x]) (rs.eraseIdx i) b6 _ (D5.pop hx) (by rw[ZJ];rfl) (B7.put hpfM hpn) aa (by rw[aB hne.symm];exact r7)
 have key:∀(xs:Zj) (fs rs:Zj) (v4:Zz) (b5:Int) (M5:MH),fs.length+xs.length=w+1->Drawn m rs fs->Box1 p M M5 b5->M5 pf=some (.lst (nats fs))->M5 pr=some (.lst (nats rs)) ->
   aq (λ_=>True) (.nm 4) (wSs cn dP) { nx:=wSs cn dO (fin Q),rt:=Q } (nats xs) [↑p,~~~m,↑pr,↑pf,v4] M5:=by
  intro xs;induction xs with
  |nil=>
   intro fs rs v4 b5 M5 hl D5 B5 g5 r5;rw[show nats []=[] from rfl,aq];exact last fs rs v4 b5 M5 (by simpa using hl) D5 B5 g5
  |cons x xs ih=>
   intro fs rs v4 b5 M5 hl D5 B5 g5 r5;rw[YH] at hl
   have:=D5.len
   rw[show nats (x::xs)=⇑x::nats xs from rfl,aq];refine body _ fs rs _ b5 M5 D5 'b' B5 g5 r5 ?_;intro fs' rs' b6 M6 D6 h6 B6 g6 r6;exact⟨trivial,ih fs' rs' _ b6 M6 'b' D6 B6 g6 r6⟩
 exact key (List.range (w+1)) [] (List.range m) none b4 M4 (by simp) D3 B4 g4 r4
theorem Fp(f0:cn.F.getD 0 Yl=cV)(f1:cn.F.getD 1 Yl=oo)(h:pN ds M Q):wSs cn mO (fin Q) (af ["","","",""] ds) M:=by
 obtain⟨p,b,m,rfl,hM,hm,q⟩:=h;show wSs cn mO (fin Q) [↑p,~~~m,none,none] M;unfold mO;simp! only[List.set,f0];refine⟨p,b,8,rfl,hM,⟨by decide,by decide⟩,λv b1 hv=>?_⟩;have B1:Box1 p M (updM M p (.lst [.int b1])) b1:=⟨ExtBut.upd _ _ _,aa⟩;generalize updM M p (MO.lst [.int b1])=M1 at *;unfold oQ;simp! only[List.set,f0];refine p9 (λ_=>?_) (λ_=>?_)
 ·refine⟨p,b1,m,rfl,B1.at_,⟨hm.1,by omega⟩,λw b3 hw=>?_⟩
  exact q (.hav (w:Int)) _ b3 ⟨by omega,by omega⟩ (B1.draw b3)
 unfold oP;simp! only[List.set,f0];refine p9 (λ_=>?_) (λ_=>?_)
 ·refine⟨p,b1,m,rfl,B1.at_,⟨hm.1,by omega⟩,λw b3 hw=>?_⟩
  exact q (.lck (w:Int)) _ b3 ⟨by omega,by omega⟩ (B1.draw b3)
 unfold oO;simp! only[List.set,f1];refine⟨p,b1,m,rfl,B1.at_,hm,λfs M2 b2 nd0 lt hl B2=>?_⟩;have B2:Box1 p M M2 b2:=⟨B1.but.trans B2.but,B2.at_⟩;have fit:∀f∈fs.map (λ(f:Nat)=>(f:Int)),0<=f/\f<(m:Int):=by
  intro f hf;obtain⟨g,hg,rfl⟩:=XU.1 hf
  have:=lt g hg
  omega
 have nd:(fs.map λ(f:Nat)=>(f:Int)).Nodup:=yg nd0;have ln:(fs.map λ(f:Nat)=>(f:Int)).length=fs.length:=ZE _;unfold oN;simp! only[List.set,f0,iX];refine⟨⟨rfl,rfl,(by decide:(0:Nat)<=30)⟩,?_⟩;refine Bif2 (λ_=>?_) (λ_=>?_)
 ·refine⟨p,b2,min 6 (fs.length+1),?_,B2.at_,⟨by omega,by omega⟩,λn b6 hn=>?_⟩
  ·congr 3
   split<;>omega
  rw[vi];exact q (.som (1+(n:Int)) _) _ b6 ⟨⟨by omega,by omega⟩,⟨by omega,by omega⟩,nd,fit⟩ (B2.draw b6)
 ·unfold oM
  simp! only[List.set,f0,iX];refine⟨p,b2,fs.length,rfl,B2.at_,⟨by omega,by omega⟩,λn b6 hn=>?_⟩;rw[vi];exact q (.led _ n) _ b6 ⟨⟨by omega,by omega⟩,nd,fit⟩ (B2.draw b6)
end
def fN:Ss:=#v[.ret (.var 3)]
def oR:Ss:=#v[.expr (.mt .append (.var 3) #v[.tup #v[.var 5,.comp 1 (.fn 1 #v[.var 0,.var 1]) (.nm 6) (.rg1 #v[.fn 0 #v[.var 0,.int 4]]) .no]])]
def fO:Ss:=.cons (.set 5 (.fn 0 #v[.var 0,.var 1])) oR
def oS:Ss:=.cons (.for (.nm 4) (.rg1 #v[.fn 0 #v[.var 0,.bin .Add (.var 2) (.int 1)]]) fO) fN
def mP:Ss:=.cons (.set 3 (.lst .nil)) oS
def cj:Ss:=#v[.ret (.lst #v[.var 2,.var 3,.var 4])]
def ck:Ss:=.cons (.set 4 (.bin .BitAnd (.bin .BitAnd (.fn 0 #v[.var 1,.bin .LShift (.int 1) (.var 2)]) (.fn 0 #v[.var 1,.bin .LShift (.int 1) (.var 2)])) (.fn 0 #v[.var 1,.bin .LShift (.int 1) (.var 2)]))) cj
def bI:Ss:=.cons (.set 3 (.fn 1 #v[.var 1,.var 2,.bin .Add (.bin .Mult (.int 2) (.var 2)) (.int 2)])) ck
def oT:Ss:=.cons (.ite (.cmp .Eq (.fn 0 #v[.var 1,.int 4]) (.int 3)) #v[.set 2 (.bin .Add (.int 1) (.fn 0 #v[.var 1,.int 24]))] .nil) bI
def oU:Ss:=.cons (.set 2 (.bin .Add (.int 1) (.fn 0 #v[.var 1,.int 8]))) oT
def bx:Ss:=.cons (.set 1 (.fn 2 #v[.var 0,.int 0])) oU
def tK:SpD:=λds M Q=>∃(p:Addr) (b:Int) (m most:Nat),ds=[.ref p,⇑m,⇑most]/\M p=some (.lst [.int b])/\(0<m/\m<64)/\most<=300 /\
 ∀R rds rows M' b',M' R=some (.lst rds)->R≠p->ba (hid p M') rds rows->RowsOk m rows->rows.length<=most->Box1 p M M' b'->Q (.ref R) M'
def gT:SpD:=λds M Q=>∃(a:Addr) (ns:Zi),ds=[.ref a]/\M a=some (.rol (ns.map .int)) /\
 ∀L R m rds rows told M',M' L=some (.lst [.int ((m:Nat):Int),.ref R,.int ((told:Nat):Int)])->M' R=some (.lst rds)->ba M' rds rows->RowsOk m rows->rows.length<=2*m+2->(0<m/\m<=24)->told<2 ^ m->Ext M M'->Q (.ref L) M'
structure RowsS (m:Nat) (R p:Addr) (M M5:MH) (n:Nat):Prop where
 box:∃b,Box1 p M M5 b
 ex:∃rds rows,M5 R=some (.lst rds)/\ba (hid2 R p M5) rds rows/\na m rows/\rows.length<=n
theorem G9(r p:Addr)(M:MH):Ext (hid2 r p M) (hid p M):=λb o q=>by
 unfold hid2 at q;unfold hid;split at q
 ·cases q
 ·exact q
section
variable {cn:Cn}{ds:List D}{M:MH}{Q:DK}
theorem Fq (f0:cn.F.getD 0 Yl = cV) (f1:cn.F.getD 1 Yl = pN) (h:tK ds M Q):wSs cn mP (fin Q) (af ["","","","","",""] ds) M:=by
  obtain ⟨p,b,m,most,rfl,hM,hm,hmost,q⟩:=h
  show wSs cn mP (fin Q) [↑p,~~~m,~~~most,none,none,none] M
  have hsz:(2000:Nat) < sizeLine:=by decide
  unfold mP
  simp! only [List.set]
  intro R hR
  have hpR:p ≠ R:=bd hM hR
  have S2:RowsS m R p M (updM M R (.lst [])) 0:=⟨⟨b,⟨(Ext.new hR).but,Ext.new hR _ _ hM⟩⟩,[],[],aa,.nil,λx hx=>(by cases hx),YE _⟩
  generalize updM M R (MO.lst []) = M2 at *
  have body:∀ (E:EndsD) (v4 v5:Zz) (M5:MH) (n:Nat),n < 1000->RowsS m R p M M5 n ->
      (∀ v5' M6,RowsS m R p M M6 (n + 1)->E.nx [↑p,~~~m,~~~most,↑R,v4,v5'] M6) ->
      wSs cn fO E [↑p,~~~m,~~~most,↑R,v4,v5] M5:=by
    intro E v4 v5 M5 n hn ⟨⟨b5,B5⟩,rds,rows,h1,h2,h3,h4⟩ kk
    unfold fO
    simp! only [List.set,f0]
    refine ⟨p,b5,m,rfl,B5.at_,⟨hm.1,by omega⟩,λhd b6 hhd=>?_⟩
    have B6:Box1 p M5 (updM M5 p (.lst [.int b6])) b6:=⟨ExtBut.upd _ _ _,aa⟩
    generalize updM M5 p (MO.lst [.int b6]) = M6 at *
    have h16:=B6.but _ _ hpR.symm h1
    unfold oR
    simp! only [List.set,List.cons_append,XA,List.replicate,f0,h16]
    refine ⟨rfl,p,b6,4,rfl,B6.at_,⟨by decide,by decide⟩,λnc b7 hnc=>?_⟩
    have B7:Box1 p M5 (updM M6 p (.lst [.int b7])) b7:=B6.draw b7
    generalize updM M6 p (MO.lst [.int b7]) = M7 at *
    refine ⟨⟨by omega,by omega⟩,?_⟩
    rw [ca]
    have conds:∀ (F:List D->MH->Prop),(∀ (ts:List CT) M8 b8,ts.length<=6->(∀ t ∈ ts,CT.fit (m:Int) t)->Box1 p M5 M8 b8->F (ts.map CT.told) M8) ->
        ∀ (xs:Zj) (ts:List CT) (v6:Zz) (M8:MH) (b8:Int),ts.length + xs.length<=6->(∀ t ∈ ts,CT.fit (m:Int) t)->Box1 p M5 M8 b8 ->
        ax (λ_=>True) (.nm 6) (wTo cn .no) (wE cn (.fn 1 (.cons (.var 0) (.cons (.var 1) .nil)))) F (nats xs) (ts.map CT.told) [↑p,~~~m,~~~most,↑R,v4,~~~hd,v6] M8:=by
      intro F hF xs
      induction xs with
      | nil=>
        intro ts v6 M8 b8 hl ht B8
        rw [show nats [] = [] from rfl,ax]
        exact hF ts M8 b8 (by simpa using hl) ht B8
      | cons x xs ih=>
        intro ts v6 M8 b8 hl ht B8
        rw [YH] at hl
        rw [show nats (x :: xs) = ⇑x :: nats xs from rfl,ax]
        have go:pN [.ref p,⇑m] M8 (λy M2=>True/\ax (λ_=>True) (.nm 6) (wTo cn .no) (wE cn (.fn 1 (.cons (.var 0) (.cons (.var 1) .nil)))) F (nats xs) (ts.map CT.told ++ [y]) [↑p,~~~m,~~~most,↑R,v4,~~~hd,~~~x] M2):=by
          refine ⟨p,b8,m,rfl,B8.at_,hm,λt M9 b9 ft B9=>⟨trivial,?_⟩⟩
          rw [show ts.map CT.told ++ [t.told] = (ts ++ [t]).map CT.told by rw [ZK]; rfl]
          refine ih (ts ++ [t]) _ M9 b9 (by rw [ZJ]; simp; omega) (λt' ht'=>?_) ⟨B8.but.trans B9.but,B9.at_⟩
          rcases YB.1 ht' with ht' | ht'
          · exact ht t' ht'
          · have:t' = t:=by simpa using ht'
            subst this; exact ft
        rw [← f1] at go
        exact go
    refine conds _ ?_ (List.range nc) [] none M7 b7 (by simp; omega) (by simp) B7
    intro ts M8 b8 hts ft B8 c hc
    have h18:=B8.but _ _ hpR.symm h1
    have e9:Ext M8 (updM M8 c (.lst (ts.map CT.told))):=Ext.new hc
    have g9:updM M8 c (MO.lst (ts.map CT.told)) c = some (.lst (ts.map CT.told)):=aa
    generalize updM M8 c (MO.lst (ts.map CT.told)) = M9 at *
    have h19:=e9 _ _ h18
    have hcR:c ≠ R:=(bd h18 hc).symm
    have hcp:c ≠ p:=(bd B8.at_ hc).symm
    simp only [h19]
    have hrl:rds.length = rows.length:=mT h2
    refine ⟨by omega,?_⟩
    refine kk _ _ ⟨⟨b8,⟨?_,?_⟩⟩,rds ++ [.tup [⇑hd,.ref c]],rows ++ [(hd,ts)],aa,?_,h3.add hhd hts ft,by rw [ZJ]; simpa using h4⟩
    · intro z o hz hzo
      have hzR:z ≠ R:=bd hzo hR
      rw [aB hzR]
      exact e9 _ _ (B8.but _ _ hz (B5.but _ _ hz hzo))
    · rw [aB hpR]; exact e9 _ _ B8.at_
    · rw [G7]
      refine bq (ba.ext ((rE B8.but).trans (Do e9)) h2) (.cons ⟨c,rfl,?_⟩ .nil)
      rw [Fn hcR hcp]; exact g9
  unfold oS
  simp! only [List.set,f0]
  obtain ⟨⟨b2,B2⟩,ex2⟩:=S2
  refine ⟨p,b2,most + 1,?_,B2.at_,⟨by omega,by omega⟩,λw b3 hw=>?_⟩
  · congr 3
  have S3:RowsS m R p M (updM M2 p (.lst [.int b3])) 0:=by
    obtain ⟨rds,rows,h1,h2,h3,h4⟩:=ex2
    exact ⟨⟨b3,B2.draw b3⟩,rds,rows,by rw [aB hpR.symm]; exact h1,ba.ext (rE (ExtBut.upd _ _ _)) h2,h3,h4⟩
  generalize updM M2 p (MO.lst [.int b3]) = M3 at *
  refine ⟨⟨by omega,by omega⟩,?_⟩
  rw [ca]
  have last:∀ (v4 v5:Zz) (M5:MH) (n:Nat),n<=most->RowsS m R p M M5 n->wSs cn fN (fin Q) [↑p,~~~m,~~~most,↑R,v4,v5] M5:=by
    intro v4 v5 M5 n hn ⟨⟨b5,B5⟩,rds,rows,h1,h2,h3,h4⟩
    unfold fN
    simp! only [List.set]
    exact q R rds rows M5 b5 h1 hpR.symm (ba.ext (G9 R p M5) h2) ⟨by omega,by omega,h3⟩ 'b' B5
  have key:∀ (xs:Zj) (v4 v5:Zz) (M5:MH) (n:Nat),n + xs.length<=most->RowsS m R p M M5 n ->
      aq (λ_=>True) (.nm 4) (wSs cn fO) { nx:=wSs cn fN (fin Q),rt:=Q } (nats xs) [↑p,~~~m,~~~most,↑R,v4,v5] M5:=by
    intro xs
    induction xs with
    | nil=>
      intro v4 v5 M5 n hn S5
      rw [show nats [] = [] from rfl,aq]
      exact last v4 v5 M5 n (by simpa using hn) S5
    | cons x xs ih=>
      intro v4 v5 M5 n hn S5
      rw [YH] at hn
      rw [show nats (x :: xs) = ⇑x :: nats xs from rfl,aq]
      refine body _ _ v5 M5 n 'b' S5 ?_
      intro v5' M6 S6
      exact ⟨trivial,ih _ _ M6 (n + 1) 'b' S6⟩
  exact key (List.range w) none none M3 0 (by rw [ZI]; omega) S3
theorem ul (f0:cn.F.getD 0 Yl = cV) (f1:cn.F.getD 1 Yl = tK) (f2:cn.F.getD 2 Yl = on) (h:gT ds M Q):wSs cn bx (fin Q) (af ["","","","",""] ds) M:=by
  obtain ⟨a,ns,rfl,hM,q⟩:=h
  show wSs cn bx (fin Q) [↑a,none,none,none,none] M
  unfold bx
  simp! only [List.set,f2]
  refine ⟨a,ns,0,rfl,hM,λp b hp=>?_⟩
  have e1:Ext M (updM M p (.lst [.int b])):=Ext.new hp
  have h1:updM M p (MO.lst [.int b]) p = some (.lst [.int b]):=aa
  generalize updM M p (MO.lst [.int b]) = M1 at *
  unfold oU
  simp! only [List.set,f0]
  refine ⟨p,b,8,rfl,h1,⟨by decide,by decide⟩,λv b2 hv=>?_⟩
  have e2:Ext M (updM M1 p (.lst [.int b2])):=λz o hz=>by rw [aB (bd hz hp)]; exact e1 z o hz
  have h2:updM M1 p (MO.lst [.int b2]) p = some (.lst [.int b2]):=aa
  generalize updM M1 p (MO.lst [.int b2]) = M2 at *
  have go:∀ (m:Nat) (b3:Int) (M3:MH),(0 < m/\m<=24)->Ext M M3->M3 p = some (.lst [.int b3])->wSs cn bI (fin Q) [↑a,↑p,~~~m,none,none] M3:=by
    intro m b3 M3 hm e3 h3
    have P:∀ {j:Int},CPow 1 (m:Int):=λ{_}=>⟨by omega,by omega,by decide⟩
    unfold bI
    simp! only [List.set,f1]
    refine ⟨.inl ⟨by decide,by decide⟩,p,b3,m,2 * m + 2,?_,h3,⟨hm.1,by omega⟩,by omega,λR rds rows M4 b4 g4 nR A4 ok hl B4=>?_⟩
    · congr 3
    have e4:Ext M M4:=λz o hz=>B4.but z o (bd hz hp) (e3 z o hz)
    have hpw:0 < 2 ^ m:=Nat.two_pow_pos m
    have hpw2:2 ^ m < 1073741824:=XF (Nat.pow_le_pow_right 'a' hm.2) 'a'
    have dig:∀ (M5:MH) (b5:Int),ExtBut p M4 M5->M5 p = some (.lst [.int b5])->∀ K:DK,(∀ v b6,v < 2 ^ m->K (.int ((v:Nat):Int)) (updM M5 p (.lst [.int b6])))->cV [.ref p,.int ((2 ^ m:Nat):Int)] M5 K:=λM5 b5 _ h5 K hK=>⟨p,b5,2 ^ m,rfl,h5,⟨hpw,hpw2⟩,λv b6 hv=>hK v b6 hv⟩
    unfold ck
    simp! only [List.set,f0,yT]
    refine ⟨⟨by omega,by omega,by decide⟩,?_⟩
    refine dig M4 b4 (ExtBut.refl _ _) B4.at_ _ λv1 b5 hv1=>?_
    have x5:ExtBut p M4 (updM M4 p (.lst [.int b5])):=ExtBut.upd _ _ _
    have h5:updM M4 p (MO.lst [.int b5]) p = some (.lst [.int b5]):=aa
    generalize updM M4 p (MO.lst [.int b5]) = M5 at *
    refine ⟨⟨by omega,by omega,by decide⟩,?_⟩
    refine dig M5 b5 x5 h5 _ λv2 b6 hv2=>?_
    have x6:ExtBut p M4 (updM M5 p (.lst [.int b6])):=x5.trans (ExtBut.upd _ _ _)
    have h6:updM M5 p (MO.lst [.int b6]) p = some (.lst [.int b6]):=aa
    generalize updM M5 p (MO.lst [.int b6]) = M6 at *
    refine ⟨⟨by omega,by omega,by decide⟩,?_⟩
    refine dig M6 b6 x6 h6 _ λv3 b7 hv3=>?_
    have x7:ExtBut p M4 (updM M6 p (.lst [.int b7])):=x6.trans (ExtBut.upd _ _ _)
    generalize updM M6 p (MO.lst [.int b7]) = M7 at *
    show wSs cn cj (fin Q) [↑a,↑p,~~~m,↑R,some (.int (Builtin.bitAnd (Builtin.bitAnd (v1:Int) (v2:Int)) (v3:Int)))] M7
    rw [um,um]
    unfold cj
    simp! only [List.set]
    intro L hL
    have e8:Ext M7 (updM M7 L (.lst [⇑m,.ref R,.int ((v1 &&& v2 &&& v3:Nat):Int)])):=Ext.new hL
    refine q L R m rds rows (v1 &&& v2 &&& v3) _ aa (e8 _ _ (x7 _ _ nR g4)) (ba.ext (λz o hz=>?_) A4) ok hl hm ?_ (λz o hz=>e8 _ _ (x7 _ _ (bd hz hp) (e4 z o hz)))
    · unfold hid at hz
      split at hz
      · cases hz
      · exact e8 _ _ (x7 _ _ ‹_› hz)
    · exact XF Nat.and_le_right hv3
  unfold oT
  simp! only [ah,ai,al,aj,ag,am,ad,ac,YL,and_self,true_and,and_true,List.set,f0]
  refine ⟨p,b2,4,rfl,h2,⟨by decide,by decide⟩,λv3 b3 hv3=>?_⟩
  have e3:Ext M (updM M2 p (.lst [.int b3])):=λz o hz=>by rw [aB (bd hz hp)]; exact e2 z o hz
  have h3:updM M2 p (MO.lst [.int b3]) p = some (.lst [.int b3]):=aa
  generalize updM M2 p (MO.lst [.int b3]) = M3 at *
  simp! only [ah,ai,al,aj,ag,am,ad,ac,YL,and_self,true_and,and_true]
  refine Bif2 (λ_=>?_) (λ_=>?_)
  · refine ⟨p,b3,24,rfl,h3,⟨by decide,by decide⟩,λw b4 hw=>?_⟩
    have e4:Ext M (updM M3 p (.lst [.int b4])):=λz o hz=>by rw [aB (bd hz hp)]; exact e3 z o hz
    exact go (1 + w) b4 _ ⟨by omega,by omega⟩ e4 aa
  · exact go (1 + v) b3 M3 ⟨by omega,by omega⟩ e3 h3
end
end SQ
namespace SH
open PySem L2 DD
theorem yU{rows:Zy}{g told heads m:Nat}(h1:told<2 ^ m)(h2:heads<2 ^ m):hU rows g told heads<2 ^ m:=by
 refine Nat.lt_pow_two_of_testBit _ λf hf=>?_
 unfold hU;have a:told.testBit f=false:=Nat.testBit_lt_two_pow (ZS h1 (Nat.pow_le_pow_right 'a' hf));rw[XZ,bg,a,Bool.false_or];refine ZQ λh=>?_
 have:=(ib _ _ _ _).2 f h
 rw[aT,YV] at this
 have:=dv h2 this.1
 omega
theorem bp.uniq{rows:Zy}{told g n n':Nat}(h:bp rows told g n)(h':bp rows told g n'):n=n':=by
 refine XY λf=>?_
 have a:=h.2 _ h'.1 f;have b:=h'.2 _ h.1 f;cases e:n.testBit f with
 |true=>exact(a e).symm
 |false=>
  cases e':n'.testBit f with
  |false=>rfl
  |true=>rw[b e'] at e;cases e
theorem Sub.antisymm{a b:Nat}(h:Sub a b)(h':Sub b a):a=b:=by
 refine XY λf=>?_
 cases e:a.testBit f with
 |true=>exact(h f e).symm
 |false=>
  cases e':b.testBit f with
  |false=>rfl
  |true=>rw[h' f e'] at e;cases e
theorem Sub.zero(a:Nat):Sub 0 a:=λf h=>by rw[Nat.zero_testBit] at h;cases h
def cnt(m n:Nat):Nat:=(List.range m).countP λf=>n.testBit f
theorem vj{p q:Nat->Bool}{f:Nat}(hp:p f=false)(hq:q f=true)(h:∀x,p x=true->q x=true):∀{l:Zj},f∈l->l.countP p<l.countP q
 |[],hf=>by cases hf
 |a::l,hf=>by
  have le:l.countP p<=l.countP q:=List.countP_mono_left λx _=>h x
  rw[List.countP_cons,List.countP_cons];rcases YA.1 hf with rfl | hf
  ·rw[hp,hq];simp;omega
  ·have:=vj hp hq h hf
   cases e:p a with
   |true=>rw[h a e];simp;omega
   |false=>
    cases q a with
    |true=>simp;omega
    |false=>simp;omega
theorem yV{m a b:Nat}(h:Sub a b):cnt m a<=cnt m b:=List.countP_mono_left λf _=>h f
theorem uv(m n:Nat):cnt m n<=m:=by
 have:=List.countP_le_length (p:=λf=>n.testBit f) (l:=List.range m)
 rw[ZI] at this;exact this
theorem uw{m a b:Nat}(h:Sub a b)(hne:a≠b)(hb:b<2 ^ m):cnt m a<cnt m b:=by
 have:∃f,a.testBit f=false/\b.testBit f=true:=by
  refine Classical.byContradiction λz=>hne (h.antisymm λf hf=>?_)
  cases e:a.testBit f with
  |true=>rfl
  |false=>exact absurd ⟨f,e,hf⟩ z
 obtain⟨f,h1,h2⟩:=this;exact vj h1 h2 h (ZW.2 (dv hb h2))
def aC(rows:Zy)(heads wide narrow known:Nat):Nat×Nat:=(hU rows known wide heads,hU rows (hU rows known wide heads) narrow heads)
def aw(x:Nat×Nat):D:=.tup [⇑x.1,⇑x.2]
structure Rounds0 (rows:Zy) (heads wide narrow known:Nat) (ps:Zp):Prop where
 first:ps[0]?=some (aC rows heads wide narrow known)
 next:∀i x y,ps[i]?=some x->ps[i+1]?=some y->y=aC rows heads wide narrow x.2/\y≠x
structure Rounds (rows:Zy) (heads wide narrow known:Nat) (ps:Zp):Prop extends Rounds0 rows heads wide narrow known ps where
 last:∀x,ps.getLast?=some x->aC rows heads wide narrow x.2=x
section
variable {rows:Zy}{heads wide narrow known m:Nat}
theorem rF(h1:heads<2 ^ m)(h2:wide<2 ^ m)(h3:narrow<2 ^ m)(known:Nat):(aC rows heads wide narrow known).1<2 ^ m/\(aC rows heads wide narrow known).2<2 ^ m:=⟨yU h2 h1,yU h3 h1⟩
theorem tL(hh:∀x∈rows,heads.testBit x.1=true){k k':Nat}(h:Sub k k'):Sub (aC rows heads wide narrow k').1 (aC rows heads wide narrow k).1/\Sub (aC rows heads wide narrow k).2 (aC rows heads wide narrow k').2:=by
 have a:Sub (aC rows heads wide narrow k').1 (aC rows heads wide narrow k).1:=bp.anti h (bP hh) (bP hh);exact⟨a,bp.anti a (bP hh) (bP hh)⟩
def farP(m:Nat)(x:Nat×Nat):Nat:=cnt m x.1+(m-cnt m x.2)
theorem yW(m:Nat)(x:Nat×Nat):farP m x<=2*m:=by
 unfold farP
 have:=uv m x.1
 omega
theorem yX{x y:Nat×Nat}(h1:Sub y.1 x.1)(h2:Sub x.2 y.2)(hne:y≠x)(b1:x.1<2 ^ m)(b2:y.2<2 ^ m):farP m y<farP m x:=by
 unfold farP;have a1:=yV (m:=m) h1;have a2:=yV (m:=m) h2;have m2:=uv m y.2;by_cases e:y.1=x.1
 ·have e2:x.2≠y.2:=λz=>hne (Prod.ext e z.symm)
  have:=uw h2 e2 b2
  omega
 ·have:=uw h1 e b1
  omega
end
def lX:Ss:=#v[.ret (.var 5)]
def lY:Ss:=#v[.set 6 (.fn 0 #v[.var 0,.var 1,.ix (.var 6) (.int 1),.var 3,.var 4])]
def lZ:Ss:=.cons (.expr (.mt .append (.var 5) #v[.var 6])) lY
def l0:Ss:=.cons (.while (.cmp .NotEq (.var 6) (.ix (.var 5) (.neg (.int 1)))) lZ) lX
def l4:Ss:=.cons (.set 6 (.fn 0 #v[.var 0,.var 1,.ix (.ix (.var 5) (.neg (.int 1))) (.int 1),.var 3,.var 4])) l0
def jK:Ss:=.cons (.set 5 (.lst #v[.fn 0 #v[.var 0,.var 1,.var 2,.var 3,.var 4]])) l4
def nh:Ss:=#v[.ret (.tup #v[.var 5,.fn 0 #v[.var 0,.var 1,.var 4,.var 5]])]
def kZ:Ss:=.cons (.set 5 (.fn 0 #v[.var 0,.var 1,.var 3,.var 2])) nh
def j9:Ss:=#v[.setF (.var 0) "others" (.bin .BitAnd (.var 3) (.inv (.ix (.ix (.fld (.var 0) "pairs") (.neg (.int 1))) (.int 0))))]
def ka:Ss:=.cons (.setF (.var 0) "unsure" (.bin .BitAnd (.ix (.ix (.fld (.var 0) "pairs") (.neg (.int 1))) (.int 0)) (.inv (.fld (.var 0) "sure")))) j9
def kc:Ss:=.cons (.setF (.var 0) "sure" (.ix (.ix (.fld (.var 0) "pairs") (.neg (.int 1))) (.int 1))) ka
def kd:Ss:=.cons (.setF (.var 0) "pairs" (.fn 0 #v[.var 1,.var 3,.int 0,.var 2,.var 2])) kc
def ig:Ss:=.cons (.set 3 (.fn 1 #v[.mu0 "how_many" (.var 1)])) kd
def kj(c:CA)(S:Addr):SpD:=λds M Q=>∃(a:Addr) (m:Nat) (rows:Zy) (heads known wide narrow:Nat),ds=[.ref a,⇑heads,⇑known,⇑wide,⇑narrow]/\SheetAt c S M a m rows/\rows.length<64/\m<64/\heads<2 ^ m/\wide<2 ^ m/\narrow<2 ^ m /\
 ∀M',Ext M M'->Q (aw (aC rows heads wide narrow known)) M'
def kl(c:CA)(S:Addr):SpD:=λds M Q=>∃(a:Addr) (m:Nat) (rows:Zy) (heads known wide narrow:Nat),ds=[.ref a,⇑heads,⇑known,⇑wide,⇑narrow]/\SheetAt c S M a m rows/\rows.length<64/\m<64/\heads<2 ^ m/\wide<2 ^ m/\narrow<2 ^ m /\
 (∀x∈rows,heads.testBit x.1=true)/\Sub known (aC rows heads wide narrow known).2/\∀p ps x M',M p=none->Ext M M'->M' p=some (.lst ((ps++[x]).map aw))->Rounds rows heads wide narrow known (ps++[x])->Q (.ref p) M'
def l5(m:Nat)(p:Addr)(x:Nat×Nat):List (Str×D):=[("pairs",.ref p),("sure",⇑x.2),("unsure",.int (au x.1 x.2:Nat)),("others",.int (au (2 ^ m-1) x.1:Nat))]
structure SortAt (Z:Addr) (M:MH) (a:Addr) (m:Nat) (ps:Zp) (x:Nat×Nat):Prop where
 ex:∃p,M a=some (.ins Z (l5 m p x))/\M p=some (.lst ((ps++[x]).map aw))
theorem SortAt.ext{Z:Addr}{M M':MH}{a:Addr}{m:Nat}{ps:Zp}{x:Nat×Nat}(e:Ext M M')(h:SortAt Z M a m ps x):SortAt Z M' a m ps x:=by
 obtain⟨p,h1,h2⟩:=h;exact⟨p,e _ _ h1,e _ _ h2⟩
def oq:List Str:=["pairs","sure","unsure","others"]
def fP(c:CA)(S Z:Addr):SpD:=λds M Q=>∃(a sh:Addr) (m:Nat) (rows:Zy) (told:Nat),ds=[.ref a,.ref sh,⇑told]/\M a=some (.ins Z [])/\SheetAt c S M sh m rows/\rows.length<64/\m<64/\told<2 ^ m /\
 ∀ps x M',ExtBut a M M'->SortAt Z M' a m ps x->Rounds rows (2 ^ m-1) told told 0 (ps++[x])->Q .non M'
section
variable {m:Nat}{p:Addr}{x:Nat×Nat}
theorem Fr:(l5 m p x).lookup ("sure" : Str)= ~~~x.2:=rfl
theorem BP:(l5 m p x).lookup ("unsure" : Str)=some (.int (au x.1 x.2:Nat)):=rfl
end
abbrev zF1(x:D):List (Str×D):=[("pairs",x)]
abbrev zF2(x y:D):List (Str×D):=[("pairs",x),("sure",y)]
abbrev zF3(x y z:D):List (Str×D):=[("pairs",x),("sure",y),("unsure",z)]
theorem zp0(x:D):bJ ("pairs" : Str) x []=zF1 x:=rfl
theorem zp1(x y:D):bJ ("sure" : Str) y (zF1 x)=zF2 x y:=rfl
theorem zp2(x y z:D):bJ ("unsure" : Str) z (zF2 x y)=zF3 x y z:=rfl
theorem zp3(x y z u:D):bJ ("others" : Str) u (zF3 x y z)=([("pairs",x),("sure",y),("unsure",z),("others",u)]:List (Str×D)):=rfl
theorem zl1(x:D):List.lookup ("pairs" : Str) (zF1 x)=some x:=rfl
theorem zl2(x y:D):List.lookup ("pairs" : Str) (zF2 x y)=some x:=rfl
theorem zl2s(x y:D):List.lookup ("sure" : Str) (zF2 x y)=some y:=rfl
theorem zl3(x y z:D):List.lookup ("pairs" : Str) (zF3 x y z)=some x:=rfl
theorem cx(ps:Zp)(x:Nat×Nat):atI ((ps++[x]).map aw) (-1)=some (.tup [⇑x.1,⇑x.2]):=by
 rw[ZK];exact Co _ _
theorem yY(x y:Nat×Nat):eqD (aw x) (aw y)=decide (x=y):=by
 unfold aw;rw[eqD,eqDs,eqDs,eqDs,ad,ad,Bool.and_true];by_cases h:x=y
 ·subst h;simp
 ·rw[ZQ h]
  cases h1:((x.1:Int)==(y.1:Int)) with
  |false=>rfl
  |true=>
   rw[Bool.true_and,ZR];intro z;have h1:=eq_of_beq h1;exact h (Prod.ext (Int.ofNat_inj.1 h1) (Int.ofNat_inj.1 z))
theorem l6(x:Nat×Nat):aM (aw x)=true:=rfl
theorem xp(x:Nat×Nat):depD (aw x)<=30:=by
 unfold aw;rw[depD,bz,bz,bz,ag,ag];decide
section
variable {cn:Cn}{ds:List D}{M:MH}{Q:DK}{c:CA}{S Z:Addr}
theorem xq(f0:cn.F.getD 0 Yl=hZ c S)(h:kj c S ds M Q):wSs cn kZ (fin Q) (af ["","","","","",""] ds) M:=by
 obtain⟨a,m,rows,heads,known,wide,narrow,rfl,A,hn,hm,hh,hw,hv,q⟩:=h;show wSs cn kZ (fin Q) [↑a,~~~heads,~~~known,~~~wide,~~~narrow,none] M;unfold kZ;simp! only[List.set,f0];refine⟨a,m,rows,heads,wide,known,rfl,A,hn,hm,hh,hw,λM1 e1=>?_⟩;unfold nh;simp! only[List.set,f0];exact⟨a,m,rows,heads,narrow,_,rfl,A.ext e1,hn,hm,hh,hv,λM2 e2=>q M2 (e1.trans e2)⟩
theorem vw(f0:cn.F.getD 0 Yl=kj c S)(h:kl c S ds M Q):wSs cn jK (fin Q) (af ["","","","","","",""] ds) M:=by
 obtain⟨a,m,rows,heads,known,wide,narrow,rfl,A,hn,hm,hh,hw,hv,hr,hk,q⟩:=h;show wSs cn jK (fin Q) [↑a,~~~heads,~~~known,~~~wide,~~~narrow,none,none] M;have hsz:(2000:Nat)<sizeLine:=by decide
 have hlt:=rF (rows:=rows) hh hw hv;unfold jK;simp! only[List.set,f0];refine⟨a,m,rows,heads,known,wide,narrow,rfl,A,hn,hm,hh,hw,hv,λM1 e1 p hp=>?_⟩;have hpn:M p=none:=e1.free hp;have e2:Ext M (updM M1 p (.lst [aw (aC rows heads wide narrow known)])):=e1.then hp;have g2:updM M1 p (MO.lst [aw (aC rows heads wide narrow known)]) p=some (.lst (([]++[aC rows heads wide narrow known]).map aw)):=aa;generalize updM M1 p (MO.lst [aw (aC rows heads wide narrow known)])=M2 at *;clear e1 hp;clear M1;unfold l4;simp! only[List.set,f0,g2,cx,at1];refine⟨a,m,rows,heads,_,wide,narrow,rfl,A.ext e2,hn,hm,hh,hw,hv,λM3 e3=>?_⟩;have g3:=e3 _ _ g2;have e03:=e2.trans e3;clear e2 g2 e3;clear M2;unfold l0;show sM _ _ _ _ _;refine⟨λk σ M'=>∃(acc:Zp) (x:Nat×Nat),farP m x=k/\σ=[↑a,~~~heads,~~~known,~~~wide,~~~narrow,↑p,some (aw (aC rows heads wide narrow x.2))] /\
  Ext M M'/\M' p=some (.lst ((acc++[x]).map aw))/\(∃k0,x=aC rows heads wide narrow k0/\Sub k0 x.2)/\acc.length+farP m x<=2*m/\Rounds0 rows heads wide narrow known (acc++[x]),?_,?_⟩
 ·refine⟨_,[],_,rfl,rfl,e03,g3,⟨known,rfl,hk⟩,?_,rfl,?_⟩
  ·have:=yW m (aC rows heads wide narrow known)
   simpa using this
  ·intro i x y h1 h2
   cases i with
   |zero=>cases h2
   |succ i=>cases h2
 rintro k σ M' ⟨acc,x,rfl,rfl,e4,g4,⟨k0,hx,hk0⟩,hlen,R⟩;have test:∀K:Bool->MH->Prop,K (!decide (aC rows heads wide narrow x.2=x)) M'->wT cn (.cmp .NotEq (.var 6) (.ix (.var 5) (.neg (.int 1)))) [↑a,~~~heads,~~~known,~~~wide,~~~narrow,↑p,some (aw (aC rows heads wide narrow x.2))] M' K:=by
  intro K hK;simp! only[List.set,g4,cx];rw[←yY] at hK;exact⟨⟨l6 _,l6 x,xp _⟩,hK⟩
 refine test _ ?_;by_cases he:aC rows heads wide narrow x.2=x
 ·rw[YT he,XV,ao]
  dsimp only;unfold lX;simp! only[List.set];refine q p acc x M' hpn e4 g4 ⟨R,λy hy=>?_⟩;rw[List.getLast?_append] at hy;have:x=y:=by simpa using hy
  subst this;exact he
 ·rw[ZQ he,Bool.not_false,aH]
  have mono:=tL (wide:=wide) (narrow:=narrow) hr hk0;rw[←hx] at mono;have hb:=hlt k0;rw[←hx] at hb;have far:=yX (m:=m) mono.1 mono.2 he hb.1 (hlt x.2).2;have hal:((acc++[x]).map aw).length=acc.length+1:=by rw[ZE,ZJ];rfl
  refine⟨λσ' M''=>∃k',k'<farP m x/\_,λσ' M'' h=>h,?_⟩;unfold lZ;simp! only[List.set,g4];refine⟨rfl,by omega,?_⟩;have e5:Ext M (updM M' p (.lst ((acc++[x]).map aw++[aw (aC rows heads wide narrow x.2)]))):=e4.put hpn;have g5:updM M' p (MO.lst ((acc++[x]).map aw++[aw (aC rows heads wide narrow x.2)])) p=some (.lst ((acc++[x]++[aC rows heads wide narrow x.2]).map aw)):=by
   rw[aa,ZK (l₁:=acc++[x])];rfl
  generalize updM M' p (MO.lst ((acc++[x]).map aw++[aw (aC rows heads wide narrow x.2)]))=M5 at *;unfold lY;simp! only[List.set,f0,aw,at1];refine⟨a,m,rows,heads,_,wide,narrow,rfl,A.ext e5,hn,hm,hh,hw,hv,λM6 e6=>?_⟩;refine⟨_,far,acc++[x],aC rows heads wide narrow x.2,rfl,rfl,e5.trans e6,e6 _ _ g5,⟨x.2,rfl,mono.2⟩,by rw[ZJ];simp;omega,?_,?_⟩
  ·have h0:0<(acc++[x]).length:=by simp
   rw[ZD h0];exact R.first
  ·intro i y z h1 h2
   have hi:i+1<(acc++[x]++[aC rows heads wide narrow x.2]).length:=(YC.mp h2).1;simp only[ZJ,YH,YS] at hi;by_cases hlast:i+1<(acc++[x]).length
   ·rw[ZD 'b'] at h1
    rw[ZD hlast] at h2;exact R.next i y z h1 h2
   ·simp only[ZJ,YH,YS] at hlast
    have hia:i=acc.length:=by omega
    subst hia;have hy:y=x:=by
     rw[ZD (by simp),ZG 'b'] at h1;simpa using h1.symm
    have hz:z=aC rows heads wide narrow x.2:=by
     rw[ZG (by simp)] at h2;simpa using h2.symm
    subst hy hz;exact⟨rfl,he⟩
theorem tM(hO:∀f∈oq,cn.O Z f)(hT:cn.T S "how_many" = some (c5 c S))(f0:cn.F.getD 0 Yl=kl c S)(f1:cn.F.getD 1 Yl=cu)(h:fP c S Z ds M Q):wSs cn ig (fin Q) (af ["","","",""] ds) M:=by
 obtain⟨a,sh,m,rows,told,rfl,ha,A,hn,hm,ht,q⟩:=h;show wSs cn ig (fin Q) [↑a,↑sh,~~~told,none] M;obtain⟨ok,crs,p1,p2,p3,ps1,ps2,ps3,h1,-⟩:=A.ext (Ext.refl M);have hpos:1<=2 ^ m:=Nat.one_le_two_pow;unfold ig;simp! only[List.set,h1,jh,hT,f1];refine⟨trivial,sh,m,rows,rfl,A,m,rfl,by omega,?_⟩;unfold kd;simp! only[List.set,f0];have bit:∀f,f<m->(2 ^ m-1).testBit f=true:=λf hf=>by rw[Nat.testBit_two_pow_sub_one];exact YT hf
 refine⟨sh,m,rows,2 ^ m-1,0,told,told,rfl,A,hn,hm,by omega,ht,ht,λx hx=>bit x.1 (ok.fit x hx).1,Sub.zero _,λp ps x M1 hp e1 g1 R=>?_⟩;have hap:a≠p:=bd ha hp;have ha1:=e1 _ _ ha;simp only[ha1,zp0];refine⟨⟨hO _ 'e',by decide⟩,?_⟩;have b2:ExtBut a M (updM M1 a (.ins Z (zF1 (.ref p)))):=e1.but.trans (ExtBut.upd _ _ _);have ha2:updM M1 a (MO.ins Z (zF1 (.ref p))) a=some (.ins Z (zF1 (.ref p))):=aa;have g2:updM M1 a (MO.ins Z (zF1 (.ref p))) p=some (.lst ((ps++[x]).map aw)):=by rw[aB hap.symm];exact g1
 generalize updM M1 a (MO.ins Z (zF1 (.ref p)))=M2 at *;clear e1 g1 ha1 hp;clear M1;unfold kc;simp! only[List.set,ha2,zl1,g2,cx,at1,zp1];refine⟨hO _ 'e',⟨hO _ 'e',(by decide:(1:Nat)<1000)⟩,?_⟩;have b3:=b2.trans (ExtBut.upd a M2 (.ins Z (zF2 (.ref p) (⇑x.2))));have ha3:updM M2 a (MO.ins Z (zF2 (.ref p) (⇑x.2))) a=some (.ins Z (zF2 (.ref p) (⇑x.2))):=aa;have g3:updM M2 a (MO.ins Z (zF2 (.ref p) (⇑x.2))) p=some (.lst ((ps++[x]).map aw)):=by rw[aB hap.symm];exact g2
 generalize updM M2 a (MO.ins Z (zF2 (.ref p) (⇑x.2)))=M3 at *;clear b2 ha2 g2;clear M2;unfold ka;simp! only[wInv,List.set,ha3,zl2,zl2s,g3,cx,at0,eI,zp2];refine⟨hO _ 'e',hO _ 'e',⟨hO _ 'e',(by decide:(2:Nat)<1000)⟩,?_⟩;have b4:=b3.trans (ExtBut.upd a M3 (.ins Z (zF3 (.ref p) (⇑x.2) (.int (au x.1 x.2:Nat)))));have ha4:updM M3 a (MO.ins Z (zF3 (.ref p) (⇑x.2) (.int (au x.1 x.2:Nat)))) a=some (.ins Z (zF3 (.ref p) (⇑x.2) (.int (au x.1 x.2:Nat)))):=aa;have g4:updM M3 a (MO.ins Z (zF3 (.ref p) (⇑x.2) (.int (au x.1 x.2:Nat)))) p=some (.lst ((ps++[x]).map aw)):=by rw[aB hap.symm];exact g3
 generalize updM M3 a (MO.ins Z (zF3 (.ref p) (⇑x.2) (.int (au x.1 x.2:Nat))))=M4 at *;clear b3 ha3 g3;clear M3;unfold j9;simp! only[wInv,List.set,ha4,zl3,g4,cx,at0,eI,zp3];refine⟨hO _ 'e',⟨hO _ 'e',(by decide:(3:Nat)<1000)⟩,?_⟩;exact q ps x _ (b4.trans (ExtBut.upd _ _ _)) ⟨p,aa,by rw[aB hap.symm];exact g4⟩ R
end
def stg(rows:Zy)(g told:Nat):Nat->Nat
 |0=>told
 |s+1=>stg rows g told s|||setN ((rows.filter (aI (stg rows g told s) g)).map (·.1))
def Came(rows:Zy)(g told f s r:Nat):Prop:=(stg rows g told s).testBit f=false/\bc rows (stg rows g told s) g f=some r
section
variable {rows:Zy}{g told:Nat}
theorem dh(s f:Nat):(stg rows g told (s+1)).testBit f=true↔(stg rows g told s).testBit f=true \/ ∃x∈rows,x.1=f/\aI (stg rows g told s) g x=true:=by
 rw[stg,XZ,XS,bg,XO,XU];refine or_congr Iff.rfl ⟨λ⟨x,hx,e⟩=>?_,λ⟨x,hx,e,q⟩=>⟨x,ZV.2 ⟨hx,q⟩,e⟩⟩;exact⟨x,(ZV.1 hx).1,e,(ZV.1 hx).2⟩
theorem k6(s:Nat):Sub (stg rows g told s) (stg rows g told (s+1)):=λf h=>(dh s f).2 (.inl h)
theorem k7{s t:Nat}(h:s<=t):Sub (stg rows g told s) (stg rows g told t):=by
 induction h with
 |refl=>exact Sub.refl _
 |step _ ih=>exact ih.trans (k6 _)
theorem Came.in{f s r:Nat}(h:Came rows g told f s r):(stg rows g told (s+1)).testBit f=true:=by
 obtain⟨x,hx,e,q⟩:=cE h.2;exact(dh s f).2 (.inr ⟨x,YR hx,e,q⟩)
theorem Came.uniq{f s r s' r':Nat}(h:Came rows g told f s r)(h':Came rows g told f s' r'):s=s'/\r=r':=by
 have key:s=s':=by
  rcases Nat.lt_trichotomy s s' with z | z | z
  ·have:=k7 z f h.in
   rw[h'.1] at this;cases this
  ·exact z
  ·have:=k7 z f h'.in
   rw[h.1] at this;cases this
 subst key
 have:=h.2.symm.trans h'.2
 exact⟨rfl,Yi this⟩
theorem pO{h f:Nat}{x:Row}(hx:x∈rows)(e:x.1=f)(q:aI h g x=true):∃r,bc rows h g f=some r:=by
 cases z:bc rows h g f with
 |none=>rw[mJ z hx e] at q;cases q
 |some r=>exact⟨r,rfl⟩
theorem rG(f:Nat):∀s,(stg rows g told s).testBit f=true↔told.testBit f=true \/ ∃t r,t<s/\Came rows g told f t r
 |0=>by rw[stg];exact⟨.inl,λh=>h.elim id λ⟨t,r,h,_⟩=>absurd h (Nat.not_lt_zero _)⟩
 |s+1=>by
  constructor
  ·intro h
   cases b:(stg rows g told s).testBit f with
   |true=>
    rcases(rG f s).1 b with z | ⟨t,r,ht,c⟩
    ·exact .inl z
    ·exact .inr ⟨t,r,XH ht,c⟩
   |false=>
    rcases(dh s f).1 h with z | ⟨x,hx,e,q⟩
    ·rw[z] at b;cases b
    ·obtain⟨r,hr⟩:=pO hx e q
     exact .inr ⟨s,r,YK s,b,hr⟩
  ·rintro(h | ⟨t,r,ht,c⟩)
   ·exact k7 (YL _) f h
   ·exact k7 ht f c.in
theorem vm{heads:Nat}(hh:∀x∈rows,heads.testBit x.1=true):∀(k s left:Nat),left<k->(∀f,left.testBit f=(heads.testBit f && !(stg rows g told s).testBit f))->∀f t r,(f,t,r)∈bh rows g k (s+1) (stg rows g told s) left ↔ ∃t',t=t'+1/\s<=t'/\Came rows g told f t' r
 |0,_,_,h,_,_,_,_=>absurd h (Nat.not_lt_zero _)
 |k+1,s,left,hk,hl,f,t,r=>by
  have fr:∀f r,(f,r)∈aA rows (stg rows g told s) g left↔Came rows g told f s r:=by
   intro f r;rw[df,hl];constructor
   ·rintro⟨a,b⟩
    rw[YV] at a;exact⟨by simpa using a.2,b⟩
   ·rintro⟨a,b⟩
    obtain⟨x,hx,e,q⟩:=cE b
    have:=hh x (YR hx)
    rw[e] at this;rw[this,a];exact⟨rfl,b⟩
  have nx:stg rows g told s|||newB (aA rows (stg rows g told s) g left)=stg rows g told (s+1):=by
   refine XY λf=>?_
   rw[Bool.eq_iff_iff,XZ,XS,rB];constructor
   ·rintro(h | ⟨r,h⟩)
    ·exact k6 s f h
    ·exact((fr f r).1 h).in
   ·intro h
    cases b:(stg rows g told s).testBit f with
    |true=>exact .inl rfl
    |false=>
     rcases(dh s f).1 h with z | ⟨x,hx,e,q⟩
     ·rw[z] at b;cases b
     ·obtain⟨r,hr⟩:=pO hx e q
      exact .inr ⟨r,(fr f r).2 ⟨b,hr⟩⟩
  rw[bh];by_cases e:aA rows (stg rows g told s) g left=[]
  ·rw[if_pos e]
   refine⟨λh=>(by cases h),λ⟨t',_,ht,c⟩=>?_⟩;have st:∀u,s<=u->stg rows g told u=stg rows g told s:=by
    intro u hu;induction hu with
    |refl=>rfl
    |@step u _ ih=>
     refine XY λf=>?_
     rw[Bool.eq_iff_iff];refine⟨λh=>?_,λh=>k7 (Nat.le_succ_of_le ‹_›) f h⟩;rcases(dh u f).1 h with z | ⟨x,hx,e',q⟩
     ·rw[ih] at z;exact z
     ·rw[ih] at q
      cases b:(stg rows g told s).testBit f with
      |true=>rfl
      |false=>
       obtain⟨r,hr⟩:=pO hx e' q
       have:=(fr f r).2 ⟨b,hr⟩
       rw[e] at this;cases this
   unfold Came at c;rw[st t' ht] at c
   have:=(fr f r).2 c
   rw[e] at this;cases this
  ·rw[if_neg e,nx,YB,vm hh k (s+1) _ (by have:=oh e;omega) ?_ f t r]
   ·constructor
    ·rintro(h | ⟨t',h1,h2,h3⟩)
     ·obtain⟨⟨f',r'⟩,hx,z⟩:=XU.1 h
      cases z;exact⟨s,rfl,YE _,(fr _ _).1 hx⟩
     ·exact⟨t',h1,by omega,h3⟩
    ·rintro⟨t',h1,h2,h3⟩
     by_cases z:t'=s
     ·subst z
      exact .inl (XU.2 ⟨(f,r),(fr f r).2 h3,by rw[h1]⟩)
     ·exact .inr ⟨t',h1,by omega,h3⟩
   ·intro f
    rw[aT,hl,←nx,XZ];cases heads.testBit f<;>cases(stg rows g told s).testBit f<;>cases(newB (aA rows (stg rows g told s) g left)).testBit f<;>rfl
theorem rH{heads:Nat}(hh:∀x∈rows,heads.testBit x.1=true)(f t r:Nat):(f,t,r)∈bh rows g (au heads told+1) 1 told (au heads told) ↔ ∃t',t=t'+1/\Came rows g told f t' r:=by
 rw[show bh rows g (au heads told+1) 1 told (au heads told)=bh rows g (au heads told+1) (0+1) (stg rows g told 0) (au heads told) from rfl];rw[vm hh _ 0 _ (YK _) (λf=>by rw[stg];exact aT _ _ _)];exact⟨λ⟨t',a,_,b⟩=>⟨t',a,b⟩,λ⟨t',a,b⟩=>⟨t',a,YL _,b⟩⟩
theorem bp.came{heads n:Nat}(hh:∀x∈rows,heads.testBit x.1=true)(L:bp rows told g n)(f:Nat):n.testBit f=true↔told.testBit f=true \/ ∃s r,Came rows g told f s r:=by
 rw[L.uniq (bP (heads:=heads) hh)];unfold hU;rw[XZ,XS,bg,XO,XU];refine or_congr Iff.rfl ⟨λ⟨⟨f',t,r⟩,hx,e⟩=>?_,λ⟨s,r,c⟩=>⟨(f,s+1,r),(rH hh _ _ _).2 ⟨s,rfl,c⟩,rfl⟩⟩;cases e;obtain⟨t',-,c⟩:=(rH hh _ _ _).1 hx;exact⟨t',r,c⟩
end
inductive Pap where
 |told
 |tru (turn step row:Nat)
 |fls (turn:Nat)
 |opn (step row:Nat)
def Pap.D:Pap->D
 |.told=>.tup [.str "true",.int 0,.int 0,.non]
 |.tru i s r=>.tup [.str "true",⇑i,⇑s,⇑r]
 |.fls i=>.tup [.str "false",⇑i]
 |.opn s r=>.tup [.str "open",⇑s,⇑r]
abbrev ZN:=List Pap
structure Runs (rows:Zy) (m told:Nat) (ps:Zp):Prop where
 ok:RowsOk m rows
 tl:told<2 ^ m
 ne:ps≠[]
 rounds:Rounds rows (2 ^ m-1) told told 0 ps
def dQ(rows:Zy)(told:Nat)(ps:Zp)(f:Nat):Pap->Prop
 |.told=>told.testBit f=true
 |.tru i s r=>told.testBit f=false/\∃i0 s0 x,i=i0+1/\s=s0+1/\ps[i0]?=some x/\x.2.testBit f=true/\(∀j y,j<i0->ps[j]?=some y->y.2.testBit f=false)/\Came rows x.1 told f s0 r
 |.fls i=>told.testBit f=false/\∃i0 x,i=i0+1/\ps[i0]?=some x/\x.1.testBit f=false/\∀j y,j<i0->ps[j]?=some y->y.1.testBit f=true
 |.opn s r=>told.testBit f=false/\∃s0 x,s=s0+1/\ps.getLast?=some x/\x.1.testBit f=true/\x.2.testBit f=false/\Came rows x.2 told f s0 r
section
variable {rows:Zy}{m told:Nat}{ps:Zp}
theorem Runs.heads(R:Runs rows m told ps):∀x∈rows,(2 ^ m-1).testBit x.1=true:=λx hx=>by
 rw[Nat.testBit_two_pow_sub_one];exact YT (R.ok.fit x hx).1
def ahead(ps:Zp):Nat->Nat
 |0=>0
 |i+1=>((ps[i]?).getD (0,0)).2
theorem Runs.at(R:Runs rows m told ps):∀{i:Nat}{x:Nat×Nat},ps[i]?=some x->x=aC rows (2 ^ m-1) told told (ahead ps i)
 |0,x,h=>by have:=R.rounds.first;rw[h] at this;exact Yi this
 |i+1,x,h=>by
  have hl:=(YC.mp h).1;have hi:ps[i]?=some (ps[i]' 'b'):=ZC 'b';rw[(R.rounds.next i _ _ hi h).1,ahead,hi];rfl
theorem Runs.l1(R:Runs rows m told ps){i:Nat}{x:Nat×Nat}(h:ps[i]?=some x):bp rows told (ahead ps i) x.1:=by
 rw[R.at h];exact bP R.heads
theorem Runs.l2(R:Runs rows m told ps){i:Nat}{x:Nat×Nat}(h:ps[i]?=some x):bp rows told x.1 x.2:=by
 rw[R.at h];exact bP R.heads
theorem Runs.step(R:Runs rows m told ps):∀{i:Nat}{x:Nat×Nat},ps[i]?=some x->Sub (ahead ps i) x.2/\Sub x.2 x.1
 |0,x,h=>by
  refine⟨Sub.zero _,?_⟩;exact bp.anti (Sub.zero _) (R.l1 h) (R.l2 h)
 |i+1,x,h=>by
  have hl:=(YC.mp h).1;have hi:ps[i]?=some (ps[i]' 'b'):=ZC 'b';generalize ps[i]' 'b'=y at hi;obtain⟨a,b⟩:=R.step hi;have e:ahead ps (i+1)=y.2:=by rw[ahead,hi];rfl
  have l1:=R.l1 h;rw[e] at l1 ⊢;have c:Sub x.1 y.1:=bp.anti a (R.l1 hi) l1;have d:Sub y.2 x.2:=bp.anti c (R.l2 h) (R.l2 hi);have e1:Sub y.2 x.1:=bp.anti b l1 (R.l2 hi);exact⟨d,bp.anti e1 l1 (R.l2 h)⟩
theorem Runs.mono(R:Runs rows m told ps){i j:Nat}(hij:i<=j):∀{x y:Nat×Nat},ps[i]?=some x->ps[j]?=some y->Sub y.1 x.1/\Sub x.2 y.2:=by
 induction hij with
 |refl=>intro x y h1 h2;rw[h1] at h2;cases h2;exact⟨Sub.refl _,Sub.refl _⟩
 |@step j _ ih=>
  intro x y h1 h2;have hl:=(YC.mp h2).1;have hj:ps[j]?=some (ps[j]' 'b'):=ZC 'b';generalize ps[j]' 'b'=z at hj;obtain⟨a,b⟩:=ih h1 hj;have e:ahead ps (j+1)=z.2:=by rw[ahead,hj];rfl
  have s2:=R.step h2;have s1:=R.step hj;have l1:=R.l1 h2;rw[e] at s2 l1;exact⟨(bp.anti s1.1 (R.l1 hj) l1).trans a,b.trans s2.1⟩
theorem Runs.below(R:Runs rows m told ps){i j:Nat}{x y:Nat×Nat}(h1:ps[i]?=some x)(h2:ps[j]?=some y):Sub x.2 y.1:=by
 rcases Nat.le_total i j with h | h
 ·exact(R.mono h h1 h2).2.trans (R.step h2).2
 ·exact(R.step h1).2.trans (R.mono h h2 h1).1
theorem Runs.tolds(R:Runs rows m told ps){i:Nat}{x:Nat×Nat}(h:ps[i]?=some x):Sub told x.1/\Sub told x.2:=⟨(R.l1 h).1.1,(R.l2 h).1.1⟩
theorem Runs.lt(R:Runs rows m told ps){i:Nat}{x:Nat×Nat}(h:ps[i]?=some x):x.1<2 ^ m/\x.2<2 ^ m:=by
 have hp:2 ^ m-1<2 ^ m:=by have:=Nat.two_pow_pos m;omega
 rw[R.at h];exact rF hp R.tl R.tl _
theorem bC{α:Type}{l:List α}{x:α}(h:l.getLast?=some x):l[l.length-1]?=some x:=by
 rw[List.getLast?_eq_getElem?] at h;exact h
theorem Runs.end_(R:Runs rows m told ps){x:Nat×Nat}(h:ps.getLast?=some x):bp rows told x.2 x.1:=by
 have e:x.1=hU rows x.2 told (2 ^ m-1):=(congrArg Prod.fst (R.rounds.last x h)).symm;rw[e];exact bP R.heads
theorem dQ.uniq(R:Runs rows m told ps){f:Nat}{p q:Pap}(h:dQ rows told ps f p)(h':dQ rows told ps f q):p=q:=by
 have no:∀{b:Bool},b=true->b=false->p=q:=λz z'=>by rw[z] at z';cases z'
 cases p with
 |told=>
  cases q with
  |told=>rfl
  |_=>exact no h h'.1
 |tru=>
  obtain⟨n,i,s,x,rfl,rfl,h1,h2,h3,h4⟩:=h;have hl:=(YC.mp h1).1;cases q with
  |told=>exact no h' n
  |tru=>
   obtain⟨_,i',s',x',rfl,rfl,h1',h2',h3',h4'⟩:=h';rcases Nat.lt_trichotomy i i' with z | z | z
   ·exact no h2 (h3' i x z h1)
   ·subst z
    rw[h1] at h1';cases h1';obtain⟨rfl,rfl⟩:=h4.uniq h4';rfl
   ·exact no h2' (h3 i' x' z h1')
  |fls=>
   obtain⟨_,i',x',rfl,h1',h2',h3'⟩:=h';exact no (R.below h1 h1' f h2) h2'
  |opn=>
   obtain⟨_,s',x',rfl,h1',h2',h3',h4'⟩:=h';exact no ((R.mono 'b' h1 (bC h1')).2 f h2) h3'
 |fls=>
  obtain⟨n,i,x,rfl,h1,h2,h3⟩:=h;have hl:=(YC.mp h1).1;cases q with
  |told=>exact no h' n
  |tru=>
   obtain⟨_,i',s',x',rfl,rfl,h1',h2',h3',h4'⟩:=h';exact no (R.below h1' h1 f h2') h2
  |fls=>
   obtain⟨_,i',x',rfl,h1',h2',h3'⟩:=h';rcases Nat.lt_trichotomy i i' with z | z | z
   ·exact no (h3' i x z h1) h2
   ·subst z;rfl
   ·exact no (h3 i' x' z h1') h2'
  |opn=>
   obtain⟨_,s',x',rfl,h1',h2',h3',h4'⟩:=h';exact no ((R.mono 'b' h1 (bC h1')).1 f h2') h2
 |opn=>
  obtain⟨n,s,x,rfl,h1,h2,h3,h4⟩:=h;cases q with
  |told=>exact no h' n
  |tru=>
   obtain⟨_,i',s',x',rfl,rfl,h1',h2',h3',h4'⟩:=h';have hl:=(YC.mp h1').1;exact no ((R.mono 'b' h1' (bC h1)).2 f h2') h3
  |fls=>
   obtain⟨_,i',x',rfl,h1',h2',h3'⟩:=h';have hl:=(YC.mp h1').1;exact no ((R.mono 'b' h1' (bC h1)).1 f h2) h2'
  |opn=>
   obtain⟨_,s',x',rfl,h1',h2',h3',h4'⟩:=h';rw[h1] at h1';cases h1';obtain⟨rfl,rfl⟩:=h4.uniq h4';rfl
def setP(pps:ZN)(p:Pap->Bool):Nat:=setN ((List.range pps.length).filter λf=>((pps[f]?).map p).getD false)
theorem d8(pps:ZN)(p:Pap->Bool)(f:Nat):(setP pps p).testBit f=true ↔ ∃q,pps[f]?=some q/\p q=true:=by
 unfold setP;rw[bg,XO,ZV,ZW];constructor
 ·rintro⟨h1,h2⟩
  rw[ZC h1] at h2;exact⟨_,ZC h1,by simpa using h2⟩
 ·rintro⟨q,h1,h2⟩
  exact⟨(YC.mp h1).1,by rw[h1];simpa using h2⟩
def Pap.isT:Pap->Bool | .told=>true | .tru ..=>true | _=>false
def Pap.isF:Pap->Bool | .fls _=>true | _=>false
def Pap.isO:Pap->Bool | .opn ..=>true | _=>false
def cy(i s:Nat):Pap->Bool | .told=>decide (0<i\/0=i/\0<s) | .tru i' s' _=>decide (i'<i\/i'=i/\s'<s) | _=>false
def pBy(i:Nat):Pap->Bool | .told=>decide (0<i) | .tru i' _ _=>decide (i'<i) | _=>false
def pFls(i:Nat):Pap->Bool | .fls i'=>decide (i'<=i) | _=>false
def pOpn(s:Nat):Pap->Bool | .opn s' _=>decide (s'<s) | _=>false
structure Papers (rows:Zy) (m told:Nat) (ps:Zp) (pps:ZN):Prop where
 runs:Runs rows m told ps
 len:pps.length=m
 pap:∀f q,pps[f]?=some q->dQ rows told ps f q
variable {pps:ZN}
theorem Papers.get(P:Papers rows m told ps pps){f:Nat}(h:f<m):∃q,pps[f]?=some q/\dQ rows told ps f q:=
 ⟨_,ZC (by rw[P.len];exact h),P.pap f _ (ZC (by rw[P.len];exact h))⟩
theorem Papers.may(P:Papers rows m told ps pps){i:Nat}{x:Nat×Nat}(hx:ps[i]?=some x):Sub (au (2 ^ m-1) (setP pps (pFls (i+1)))) x.1:=by
 intro f hf;rw[aT,YV,Nat.testBit_two_pow_sub_one,XO] at hf;obtain⟨hm,hf⟩:=hf;cases b:x.1.testBit f with
 |true=>rfl
 |false=>
  exfalso;obtain⟨q,hq,hp⟩:=P.get hm;have no:¬pFls (i+1) q=true:=λz=>by
   rw[(d8 pps _ f).2 ⟨q,hq,z⟩] at hf;cases hf
  cases q with
  |told=>rw[(P.runs.tolds hx).1 f hp] at b;cases b
  |tru i' s r=>
   obtain⟨_,i0,s0,y,rfl,rfl,h1,h2,h3,h4⟩:=hp;rw[P.runs.below h1 hx f h2] at b;cases b
  |fls i'=>
   obtain⟨_,i0,y,rfl,h1,h2,h3⟩:=hp;refine no (YT ?_);rcases Nat.lt_or_ge i i0 with z | z
   ·rw[h3 i x z hx] at b;cases b
   ·omega
  |opn s r=>
   obtain⟨_,s0,y,rfl,h1,h2,h3,h4⟩:=hp;have hl:=(YC.mp hx).1;rw[(P.runs.mono 'b' hx (bC h1)).1 f h2] at b;cases b
theorem Papers.tru_by(P:Papers rows m told ps pps){i f:Nat}{x:Nat×Nat}(hx:ps[i]?=some x)(h:x.2.testBit f=true):∃q,pps[f]?=some q/\(q=.told \/ ∃i' s r,q=.tru i' s r/\i'<=i+1):=by
 obtain⟨q,hq,hp⟩:=P.get (dv (P.runs.lt hx).2 h);refine⟨q,hq,?_⟩;cases q with
 |told=>exact .inl rfl
 |tru i' s r=>
  obtain⟨_,i0,s0,y,rfl,rfl,h1,h2,h3,h4⟩:=hp;refine .inr ⟨_,_,_,rfl,?_⟩;rcases Nat.lt_or_ge i i0 with z | z
  ·rw[h3 i x z hx] at h;cases h
  ·omega
 |fls i'=>
  obtain⟨_,i0,y,rfl,h1,h2,h3⟩:=hp;rw[P.runs.below hx h1 f h] at h2;cases h2
 |opn s r=>
  obtain⟨_,s0,y,rfl,h1,h2,h3,h4⟩:=hp;have hl:=(YC.mp hx).1;rw[(P.runs.mono 'b' hx (bC h1)).2 f h] at h3;cases h3
theorem Papers.true_right(P:Papers rows m told ps pps){f i s r:Nat}(h:pps[f]?=some (.tru i s r)):∃x,rows[r]?=some x/\x.1=f/\aI (setP pps (cy i s)) (au (2 ^ m-1) (setP pps (pFls i))) x=true:=by
 obtain⟨h0,i0,s0,y,rfl,rfl,h1,h2,h3,h4⟩:=P.pap f _ h;obtain⟨x,hx,e,q⟩:=cE h4.2;refine⟨x,hx,e,fD ?_ (jg (P.may h1) q)⟩;intro f' hf';rw[d8];rcases(rG f' s0).1 hf' with z | ⟨t,r',ht,c⟩
 ·obtain⟨q,hq,hp⟩:=P.get (dv P.runs.tl z)
  refine⟨q,hq,?_⟩;cases q with
  |told=>simp[cy]
  |tru _ _ _=>rw[hp.1] at z;cases z
  |fls _=>rw[hp.1] at z;cases z
  |opn _ _=>rw[hp.1] at z;cases z
 ·have b:y.2.testBit f'=true:=((P.runs.l2 h1).came P.runs.heads f').2 (.inr ⟨t,r',c⟩)
  obtain⟨q,hq,hq'⟩:=P.tru_by h1 b;refine⟨q,hq,?_⟩;rcases hq' with rfl | ⟨i',s',r2,rfl,hi'⟩
  ·simp[cy]
  ·refine YT ?_
   obtain⟨_,i1,s1,y',rfl,rfl,g1,g2,g3,g4⟩:=P.pap f' _ hq;by_cases z:i1=i0
   ·subst z
    rw[h1] at g1;cases g1;obtain⟨rfl,rfl⟩:=g4.uniq c;exact .inr ⟨rfl,by omega⟩
   ·exact .inl 'b'
theorem Papers.false_right(P:Papers rows m told ps pps){f i:Nat}(h:pps[f]?=some (.fls i)){x:Row}(hx:x∈rows)(e:x.1=f):aI (au (2 ^ m-1) (setP pps (pFls i))) (setP pps (pBy i)) x=false:=by
 obtain⟨h0,i0,y,rfl,h1,h2,h3⟩:=P.pap f _ h;cases b:aI (au (2 ^ m-1) (setP pps (pFls (i0+1)))) (setP pps (pBy (i0+1))) x with
 |false=>rfl
 |true=>
  exfalso;have a:=fD (P.may h1) b;have s:Sub (ahead ps i0) (setP pps (pBy (i0+1))):=by
   cases i0 with
   |zero=>exact Sub.zero _
   |succ i1=>
    have hl:=(YC.mp h1).1;have hi:ps[i1]?=some (ps[i1]' 'b'):=ZC 'b';generalize ps[i1]' 'b'=z at hi;intro f' hf';rw[ahead,hi] at hf';obtain⟨q,hq,hq'⟩:=P.tru_by hi hf';rw[d8];refine⟨q,hq,?_⟩;rcases hq' with rfl | ⟨i',s',r2,rfl,hi'⟩
    ·simp[pBy]
    ·simp[pBy];omega
  have:=(P.runs.l1 h1).1.2 x hx (jg s a)
  rw[e,h2] at this;cases this
theorem Papers.sure(P:Papers rows m told ps pps){x:Nat×Nat}(hx:ps.getLast?=some x):setP pps Pap.isT=x.2:=by
 have h1:=bC hx;refine Sub.antisymm (λf hf=>?_) λf hf=>?_
 ·obtain⟨q,hq,t⟩:=(d8 pps _ f).1 hf
  have hp:=P.pap f q hq;cases q with
  |told=>exact(P.runs.tolds h1).2 f hp
  |tru i s r=>
   obtain⟨_,i0,s0,y,rfl,rfl,g1,g2,g3,g4⟩:=hp;have hl:=(YC.mp g1).1;exact(P.runs.mono 'b' g1 h1).2 f g2
  |fls _=>cases t
  |opn _ _=>cases t
 ·obtain⟨q,hq,hq'⟩:=P.tru_by h1 hf
  rw[d8];refine⟨q,hq,?_⟩;rcases hq' with rfl | ⟨i',s',r2,rfl,hi'⟩<;>rfl
theorem Papers.not_false(P:Papers rows m told ps pps){x:Nat×Nat}(hx:ps.getLast?=some x):Sub x.1 (au (2 ^ m-1) (setP pps Pap.isF)):=by
 have h1:=bC hx;intro f hf;rw[aT,YV,Nat.testBit_two_pow_sub_one,XO];refine⟨dv (P.runs.lt h1).1 hf,?_⟩;cases b:(setP pps Pap.isF).testBit f with
 |false=>rfl
 |true=>
  obtain⟨q,hq,t⟩:=(d8 pps _ f).1 b;have hp:=P.pap f q hq;cases q with
  |told=>cases t
  |tru _ _ _=>cases t
  |opn _ _=>cases t
  |fls i=>
   obtain⟨_,i0,y,rfl,g1,g2,g3⟩:=hp;have hl:=(YC.mp g1).1;rw[(P.runs.mono 'b' g1 h1).1 f hf] at g2;cases g2
theorem Papers.open_no(P:Papers rows m told ps pps){f s r:Nat}(h:pps[f]?=some (.opn s r)){x:Row}(hx:x∈rows)(e:x.1=f):aI (setP pps Pap.isT) (au (2 ^ m-1) (setP pps Pap.isF)) x=false:=by
 obtain⟨h0,s0,y,rfl,h1,h2,h3,h4⟩:=P.pap f _ h;cases b:aI (setP pps Pap.isT) (au (2 ^ m-1) (setP pps Pap.isF)) x with
 |false=>rfl
 |true=>
  exfalso;rw[P.sure h1] at b
  have:=(P.runs.l2 (bC h1)).1.2 x hx (jg (P.not_false h1) b)
  rw[e,h3] at this;cases this
theorem Papers.open_right(P:Papers rows m told ps pps){f s r:Nat}(h:pps[f]?=some (.opn s r)):∃x,rows[r]?=some x/\x.1=f/\aI (setP pps Pap.isT|||setP pps (pOpn s)) (setP pps Pap.isT) x=true:=by
 obtain⟨h0,s0,y,rfl,h1,h2,h3,h4⟩:=P.pap f _ h;obtain⟨x,hx,e,q⟩:=cE h4.2;refine⟨x,hx,e,?_⟩;rw[P.sure h1];refine fD ?_ q;intro f' hf';rw[XZ,XS];rcases(rG f' s0).1 hf' with z | ⟨t,r',ht,c⟩
 ·exact .inl ((P.runs.tolds (bC h1)).2 f' z)
 ·have b:y.1.testBit f'=true:=((P.runs.end_ h1).came P.runs.heads f').2 (.inr ⟨t,r',c⟩)
  cases b2:y.2.testBit f' with
  |true=>exact .inl rfl
  |false=>
   refine .inr ((d8 pps _ f').2 ?_);obtain⟨q,hq,hp⟩:=P.get (dv (P.runs.lt (bC h1)).1 b);refine⟨q,hq,?_⟩;cases q with
   |told=>rw[(P.runs.tolds (bC h1)).2 f' hp] at b2;cases b2
   |tru i s r=>
    obtain⟨_,i0,s1,y',rfl,rfl,g1,g2,g3,g4⟩:=hp;have hl:=(YC.mp g1).1;rw[(P.runs.mono 'b' g1 (bC h1)).2 f' g2] at b2;cases b2
   |fls i=>
    obtain⟨_,i0,y',rfl,g1,g2,g3⟩:=hp;have hl:=(YC.mp g1).1;rw[(P.runs.mono 'b' g1 (bC h1)).1 f' b] at g2;cases g2
   |opn s r=>
    obtain⟨_,s1,y',rfl,g1,g2,g3,g4⟩:=hp;rw[h1] at g1;cases g1;obtain⟨rfl,rfl⟩:=g4.uniq c;exact YT 'b'
end
theorem d9(kv:Key×D)(kvs:ZB)(k:Key):valD (kv::kvs) k=if kv.1=k then some kv.2 else valD kvs k:=by
 unfold valD;rw[XD];by_cases h:kv.1=k
 ·rw[if_pos h,YT h];rfl
 ·rw[if_neg h,ZQ h]
theorem xr(k k':Key)(d:D):∀kvs:List (Key×D),valD (kvs.map λkv=>if kv.1=k then(kv.1,d) else kv) k'=if k'=k then(valD kvs k).map (λ_=>d) else valD kvs k'
 |[]=>by split<;>rfl
 |kv::kvs=>by
  rw[YJ,d9,xr k k' d kvs,d9,d9];by_cases h1:kv.1=k
  ·by_cases h2:k'=k
   ·subst h2;simp[h1]
   ·have h3:k≠k':=λz=>h2 z.symm
    simp[h1,h2,h3]
  ·by_cases h2:k'=k
   ·subst h2;simp[h1]
   ·simp[h1,h2]
theorem xt{k:Key}:∀{kvs:ZB},(kvs.any λkv=>decide (kv.1=k))=true->∃d,valD kvs k=some d
 |[],h=>by cases h
 |kv::kvs,h=>by
  rw[d9];by_cases h1:kv.1=k
  ·rw[if_pos h1];exact⟨_,rfl⟩
  ·rw[if_neg h1]
   rw[XE,ZQ h1,Bool.false_or] at h;exact xt h
theorem qV(k:Key)(x:Key×D):∀kvs:List (Key×D),(kvs.any λkv=>decide (kv.1=x.1))=false->valD (kvs++[x]) k=if k=x.1 then some x.2 else valD kvs k
 |[],_=>by
  rw[XA,d9];by_cases h:k=x.1
  ·rw[if_pos h,if_pos h.symm]
  ·rw[if_neg h,if_neg λz=>h z.symm]
 |kv::kvs,h=>by
  rw[XE,Bool.or_eq_false_iff,decide_eq_false_iff_not] at h;rw[List.cons_append,d9,qV k x kvs h.2,d9];by_cases h1:kv.1=k
  ·rw[if_pos h1,if_pos h1,if_neg λz=>h.1 (h1.trans z)]
  ·rw[if_neg h1,if_neg h1]
theorem ot(kvs:ZB)(k k':Key)(d:D):valD (putD kvs k d) k'=if k'=k then some d else valD kvs k':=by
 unfold putD;by_cases h:(kvs.any λkv=>decide (kv.1=k))=true
 ·rw[if_pos h,xr]
  obtain⟨z,hz⟩:=xt h;rw[hz];rfl
 ·rw[if_neg h]
  exact qV k' (k,d) kvs (Bool.eq_false_iff.2 h)
theorem rJ(kvs:ZB)(k:Key)(d:D):(putD kvs k d).length<=kvs.length+1:=by
 unfold putD;split
 ·rw[ZE];omega
 ·rw[ZJ];exact YE _
theorem xu(h m:Int)(t:CT):t.blocked h m = !t.carried m h:=by
 cases t with
 |hav f=>rfl
 |lck f=>unfold CT.blocked CT.carried;rw[Bool.not_not]
 |som n fs=>
  unfold CT.blocked CT.carried;rw[←decide_not];exact decide_eq_decide.2 'b'
 |led fs k=>
  show(!hasB m (fs.getD k 0)||decide (0<((cntB (fs.take k) h:Nat):Int))) = !(hasB m (fs.getD k 0)&&(((cntB (fs.take k) h:Nat):Int)==0));rw[Bool.not_and];congr 1;by_cases e:((cntB (fs.take k) h:Nat):Int)=0
  ·rw[e];rfl
  ·rw[beq_false_of_ne e]
   exact YT 'b'
theorem Dq(h m:Nat)(x:Row):x.2.any (CT.blocked (h:Int) (m:Int)) = !aI m h x:=by
 unfold aI;rw[List.not_all_eq_any_not];congr 1
 funext t;exact xu _ _ t
def ii(c:CA):SpD:=λds M Q=>∃(a:Addr) (h m:Int) (rs:Zh) (ts:List CT),ds=[.ref a,.int h,.int m]/\M a=some (.lst (ak rs))/\bM c M rs ts/\(∀t∈ts,t.ok)/\∀M',Ext M M'->Q (.bl (ts.any (CT.blocked h m))) M'
def ij(c:CA)(S:Addr):SpD:=λds M Q=>∃(a:Addr) (m:Nat) (rows:Zy),ds=[.ref a]/\SheetAt c S M a m rows/\Q (.int (rows.length:Int)) M
def ji(c:CA)(S:Addr):SpD:=λds M Q=>∃(a:Addr) (m:Nat) (rows:Zy) (told g:Nat),ds=[.ref a,⇑told,⇑g]/\SheetAt c S M a m rows/\rows.length<64/\m<64/\told<2 ^ m /\
 ∀p M',M p=none->Ext M M'->M' p=some (.lst (cU rows g told (2 ^ m-1)))->Q (.ref p) M'
def i5(rows:Zy)(g told:Nat)(kvs:ZB):Prop:=∀f s r,Came rows g told f s r->valD kvs (.inl (f:Int))=some (.tup [.int ((s+1:Nat):Int),⇑r])
def ni(c:CA)(S:Addr):SpD:=λds M Q=>∃(a:Addr) (m:Nat) (rows:Zy) (told g:Nat),ds=[.ref a,⇑told,⇑g]/\SheetAt c S M a m rows/\rows.length<64/\m<64/\told<2 ^ m /\
 ∀p kvs M',M p=none->Ext M M'->M' p=some (.dic kvs)->i5 rows g told kvs->Q (.ref p) M'
def gp:Ss:=#v[.ret (.bl false)]
def gq:Ss:=#v[.ite (.val (.mu "blocked" (.var 3) #v[.var 1,.var 2])) #v[.ret (.bl true)] .nil]
def i6:Ss:=.cons (.for (.nm 3) (.seq (.var 0)) gq) gp
def jL:Ss:=#v[.ret (.fn 0 #v[.var 0,.fn 1 #v[.mu0 "how_many" (.var 0)],.var 1,.var 2])]
def ik:Ss:=#v[.ret (.var 3)]
def il:Ss:=#v[.putIx (.var 3) (.var 4) (.tup #v[.var 5,.var 6])]
def tN:Ss:=.cons (.for (.tp [4,5,6]) (.seq (.fn 0 #v[.var 0,.var 1,.var 2])) il) ik
def rK:Ss:=.cons (.set 3 .dnew) tN
def ef:Ss:=#v[.ret (.bi .len #v[.fld (.var 0) "heads"])]
theorem yh(t:CT):t.flds.lookup ("blocked" : Str)=none:=by cases t<;>rfl
section
variable {cn:Cn}{ds:List D}{M:MH}{Q:DK}{c:CA}{S Z:Addr}
theorem ux(hT:∀t:CT,cn.T (c.at t.kind) "blocked" = some (bG c t.kind))(h:ii c ds M Q):wSs cn i6 (fin Q) (af ["","","",""] ds) M:=by
 obtain⟨a,x,m,rs0,ts0,rfl,hM,hc,ho,q⟩:=h;show wSs cn i6 (fin Q) [↑a,some (.int x),some (.int m),none] M;unfold i6;simp! only[List.set,hM];have key:∀(rs:Zh) (ts:List CT) (v:Zz) (M1:MH),Ext M M1->bM c M rs ts->(∀t∈ts,t.ok)->(∀M',Ext M M'->Q (.bl (ts.any (CT.blocked x m))) M') ->
   aq (λM'=>M' a=some (.lst (ak rs0))) (.nm 3) (wSs cn gq) { nx:=wSs cn gp (fin Q),rt:=Q } (ak rs) [↑a,some (.int x),some (.int m),v] M1:=by
  intro rs ts v M1 e1 hc;induction hc generalizing v M1 with
  |nil=>
   intro _ q;rw[show ak []=[] from rfl,aq];unfold gp;simp! only[];exact q M1 e1
  |@cons r t rs ts hr _ ih=>
   intro ho q;rw[show ak (r::rs)=.ref r::ak rs from rfl,aq];have hr1:M1 r=some (.ins (c.at t.kind) t.flds):=e1 r _ hr;unfold gq;simp! only[List.set,hr1,hT,yh];refine⟨trivial,r,t,x,m,rfl,ho t (.head _),rfl,hr1,λM2 e2=>?_⟩;simp only[XE] at q;cases b:t.blocked x m with
   |true=>
    rw[b] at q;exact q M2 (e1.trans e2)
   |false=>
    rw[b] at q;refine⟨(e1.trans e2) a _ hM,ih _ M2 (e1.trans e2) (λt' h'=>ho t' (.tail _ h')) ?_⟩;simpa using q
 exact key rs0 ts0 none M (Ext.refl M) hc ho q
theorem xv(hO:∀f∈hJ,cn.O S f)(h:ij c S ds M Q):wSs cn ef (fin Q) (af [""] ds) M:=by
 obtain⟨a,m,rows,rfl,A,q⟩:=h;show wSs cn ef (fin Q) [↑a] M;obtain⟨ok,crs,p1,p2,p3,ps1,ps2,ps3,h1,-⟩:=A;unfold ef;simp! only[h1,xh];refine⟨hO _ 'e',?_⟩;have:(nats (aD rows)).length=rows.length:=by unfold nats aD;rw[ZE,ZE]
 rw[this];exact q
theorem vx(hT:cn.T S "how_many" = some (c5 c S))(f0:cn.F.getD 0 Yl=i3 c S)(f1:cn.F.getD 1 Yl=cu)(h:ji c S ds M Q):wSs cn jL (fin Q) (af ["","",""] ds) M:=by
 obtain⟨a,m,rows,told,g,rfl,A,hn,hm,ht,q⟩:=h;show wSs cn jL (fin Q) [↑a,~~~told,~~~g] M;obtain⟨ok,crs,p1,p2,p3,ps1,ps2,ps3,h1,-⟩:=A.ext (Ext.refl M);have hpos:1<=2 ^ m:=Nat.one_le_two_pow;unfold jL;simp! only[h1,jh,hT,f0,f1];refine⟨trivial,a,m,rows,rfl,A,m,rfl,by omega,?_⟩;exact⟨a,m,rows,2 ^ m-1,told,g,rfl,A,hn,hm,by omega,ht,λp M1 hp e1 g1=>q p M1 hp e1 g1⟩
theorem Dr(f0:cn.F.getD 0 Yl=ji c S)(h:ni c S ds M Q):wSs cn rK (fin Q) (af ["","","","","","",""] ds) M:=by
 obtain⟨a,m,rows,told,g,rfl,A,hn,hm,ht,q⟩:=h;show wSs cn rK (fin Q) [↑a,~~~told,~~~g,none,none,none,none] M;have hsz:(2000:Nat)<sizeLine:=by decide
 have hp1:2 ^ m-1<2 ^ m:=by have:=Nat.two_pow_pos m;omega
 have hal:=qU (rows:=rows) (g:=g) ht hp1;have hh:∀x∈rows,(2 ^ m-1).testBit x.1=true:=λx hx=>by
  rw[Nat.testBit_two_pow_sub_one];exact YT (A.ok.fit x hx).1
 unfold rK;simp! only[List.set];intro p hp;have e0:Ext M (updM M p (MO.dic [])):=Ext.new hp;have g0:updM M p (MO.dic []) p=some (.dic []):=aa;generalize updM M p (MO.dic [])=M1 at *;unfold tN;simp! only[List.set,f0];refine⟨a,m,rows,told,g,rfl,A.ext e0,hn,hm,ht,λl M2 hl e2 g2=>?_⟩;simp only[g2];have hlp:l≠p:=(bd g0 hl).symm;have hpl:=e2 _ _ g0
 -- first what is told,then what comes
 have last:∀(kvs:ZB) (v4 v5 v6:Zz) (M5:MH),Ext M M5->M5 p=some (.dic kvs)->i5 rows g told kvs->wSs cn ik (fin Q) [↑a,~~~told,~~~g,↑p,v4,v5,v6] M5:=by
  intro kvs v4 v5 v6 M5 e5 h5 r5;unfold ik;simp! only[];exact q p kvs M5 hp e5 h5 r5
 have body:∀(E:EndsD) (f:Nat) (s r:D) (kvs:ZB) (M5:MH),M5 p=some (.dic kvs)->kvs.length<1000->E.nx [↑a,~~~told,~~~g,↑p,~~~f,some s,some r] (updM M5 p (.dic (putD kvs (.inl (f:Int)) (.tup [s,r])))) ->
   wSs cn il E [↑a,~~~told,~~~g,↑p,~~~f,some s,some r] M5:=by
  intro E f s r kvs M5 h5 hk kk;unfold il;simp! only[List.set,h5];exact⟨by omega,kk⟩
 have key:∀(xs:List (Nat×Nat×Nat)) (kvs:ZB) (v4 v5 v6:Zz) (M5:MH),ExtBut p M2 M5->M5 p=some (.dic kvs)->kvs.length+xs.length<1000->(xs.map (·.1)).Nodup ->
   (∀f s r,Came rows g told f s r->(f,s+1,r)∈xs\/(valD kvs (.inl (f:Int))=some (.tup [.int ((s+1:Nat):Int),⇑r])/\f∉xs.map (·.1))) ->
   aq (λM'=>M' l=some (.lst (cU rows g told (2 ^ m-1)))) (.tp [4,5,6]) (wSs cn il) { nx:=wSs cn ik (fin Q),rt:=Q } (xs.map lQ) [↑a,~~~told,~~~g,↑p,v4,v5,v6] M5:=by
  intro xs;induction xs with
  |nil=>
   intro kvs v4 v5 v6 M5 b5 h5 _ _ hc;rw[YW,aq];refine last kvs v4 v5 v6 M5 (ExtBut.ext (e0.trans e2) b5 hp) h5 λf s r hcm=>?_
   rcases hc f s r hcm with z | z
   ·cases z
   ·exact z.1
  |cons x xs ih=>
   intro kvs v4 v5 v6 M5 b5 h5 hk nd hc;rw[YH] at hk;rw[YJ,YN] at nd;rw[YJ,aq];refine⟨rfl,?_⟩;refine body _ x.1 _ _ kvs M5 h5 'b' ⟨by rw[aB hlp];exact b5 _ _ hlp g2,?_⟩;have pl:=rJ kvs (.inl (x.1:Int)) (.tup [.int (x.2.1:Int),.int (x.2.2:Int)]);refine ih _ _ _ _ _ (b5.trans (ExtBut.upd _ _ _)) aa 'b' nd.2 λf s r hcm=>?_
   rw[ot];rcases hc f s r hcm with z | ⟨z1,z2⟩
   ·rcases YA.1 z with rfl | z
    ·refine .inr ⟨by rw[if_pos rfl],nd.1⟩
    ·exact .inl z
   ·rw[YJ,YA,not_or] at z2
    refine .inr ⟨?_,z2.2⟩;rw[if_neg (λz=>z2.1 (by injection z with z;exact Int.ofNat_inj.1 z))];exact z1
 have key0:∀(xs:Zj) (kvs:ZB) (v4 v5 v6:Zz) (M5:MH),ExtBut p M2 M5->M5 p=some (.dic kvs)->kvs.length+xs.length+(bh rows g (au (2 ^ m-1) told+1) 1 told (au (2 ^ m-1) told)).length<1000 ->
   aq (λM'=>M' l=some (.lst (cU rows g told (2 ^ m-1)))) (.tp [4,5,6]) (wSs cn il) { nx:=wSs cn ik (fin Q),rt:=Q } (xs.map lR++(bh rows g (au (2 ^ m-1) told+1) 1 told (au (2 ^ m-1) told)).map lQ) [↑a,~~~told,~~~g,↑p,v4,v5,v6] M5:=by
  intro xs;induction xs with
  |nil=>
   intro kvs v4 v5 v6 M5 b5 h5 hk;rw[YW,XA];refine key _ kvs v4 v5 v6 M5 b5 h5 (by simpa using hk) (ib _ _ _ _).1 λf s r hcm=>.inl ?_
   exact(rH hh _ _ _).2 ⟨s,rfl,hcm⟩
  |cons x xs ih=>
   intro kvs v4 v5 v6 M5 b5 h5 hk;rw[YH] at hk;rw[YJ,List.cons_append,aq];refine⟨rfl,?_⟩;refine body _ x _ _ kvs M5 h5 'b' ⟨by rw[aB hlp];exact b5 _ _ hlp g2,?_⟩;have pl:=rJ kvs (.inl (x:Int)) (.tup [.int 0,.non]);exact ih _ _ _ _ _ (b5.trans (ExtBut.upd _ _ _)) aa 'b'
 unfold cU at hal;rw[ZJ,ZE,ZE] at hal;exact key0 (memb told) [] none none none M2 (ExtBut.refl _ _) hpl (by simp only[YS];omega)
end
end SH
namespace SQ
open PySem L2 DD
open SH
def k8:Ss:=#v[.ret (.and (.cmp .Eq (.bin .BitAnd (.bin .RShift (.var 1) (.ix (.ix (.var 0) (.int 1)) (.ix (.var 0) (.int 2)))) (.int 1)) (.int 1)) (.cmp .Eq (.var 3) (.int 0)))]
def k9:Ss:=.cons (.set 3 (.bj .sum #v[.comp 1 (.bin .BitAnd (.bin .RShift (.var 2) (.var 4)) (.int 1)) (.nm 4) (.seq (.sl (.ix (.var 0) (.int 1)) .no (.yes (.ix (.var 0) (.int 2))))) .no])) k8
def gr:Ss:=.cons (.ite (.cmp .Eq (.ix (.var 0) (.int 0)) (.str "some")) #v[.ret (.cmp .GtE (.bj .sum #v[.comp 1 (.bin .BitAnd (.bin .RShift (.var 1) (.var 4)) (.int 1)) (.nm 4) (.seq (.ix (.var 0) (.int 2))) .no]) (.ix (.var 0) (.int 1)))] .nil) k9
def di:Ss:=.cons (.ite (.cmp .Eq (.ix (.var 0) (.int 0)) (.str "lack")) #v[.ret (.cmp .Eq (.bin .BitAnd (.bin .RShift (.var 2) (.ix (.var 0) (.int 1))) (.int 1)) (.int 0))] .nil) gr
def cb:Ss:=.cons (.ite (.cmp .Eq (.ix (.var 0) (.int 0)) (.str "have")) #v[.ret (.cmp .Eq (.bin .BitAnd (.bin .RShift (.var 1) (.ix (.var 0) (.int 1))) (.int 1)) (.int 1))] .nil) di
def eM:Ss:=#v[.ret (.tup #v[.var 3,.var 4])]
def nj:Ss:=#v[.set 3 (.var 6)]
def nk:Ss:=.cons (.ite (.cmp .Eq (.var 6) (.var 3)) #v[.brk] .nil) nj
def nn:Ss:=#v[.putIx (.var 4) (.ix (.var 8) (.int 0)) (.tup #v[.var 5,.var 7])]
def eO:Ss:=#v[.ite (.and (.cmp .Eq (.bin .BitAnd (.bin .RShift (.var 6) (.ix (.var 8) (.int 0))) (.int 1)) (.int 0)) (.val (.bi .all #v[.comp 1 (.fn 0 #v[.var 9,.var 3,.var 2]) (.nm 9) (.seq (.ix (.var 8) (.int 1))) .no]))) (.cons (.set 6 (.bin .BitOr (.var 6) (.bin .LShift (.int 1) (.ix (.var 8) (.int 0))))) nn) .nil]
def np:Ss:=.cons (.for (.tp [7,8]) (.enum #v[.var 0]) eO) nk
def eQ:Ss:=.cons (.set 6 (.var 3)) np
def nq:Ss:=.cons (.for (.nm 5) (.rg2 #v[.int 1,.bin .Add (.bi .len #v[.var 0]) (.int 2)]) eQ) eM
def nr:Ss:=.cons (.set 4 .dnew) nq
def la:Ss:=.cons (.set 3 (.var 1)) nr
def eR:SpD:=λds M Q=>∃(p:Addr) (m:Nat) (rds:List D) (rows:Zy) (told g:Nat),ds=[.ref p,⇑told,⇑g]/\M p=some (.lst rds)/\ba M rds rows/\RowsOk m rows/\told<2 ^ m /\
 ∀(n:Nat) (d:Addr) (kvs:ZB) M',bp rows told g n->n<2 ^ m->M d=none->Ext M M'->M' d=some (.dic kvs)->i5 rows g told kvs->Q (.tup [⇑n,.ref d]) M'
structure StepS (rows:Zy) (g told m i j:Nat) (more:Nat) (kvs:ZB):Prop where
 lt:more<2 ^ m
 bits:∀f,more.testBit f=true↔(stg rows g told i).testBit f=true \/ ∃r,r<j/\hits rows (stg rows g told i) g f r=true
 old:∀f t r,t<i->Came rows g told f t r->valD kvs (.inl (f:Int))=some (.tup [.int ((t+1:Nat):Int),⇑r])
 now:∀f r,r<j->Came rows g told f i r->valD kvs (.inl (f:Int))=some (.tup [.int ((i+1:Nat):Int),⇑r])
 len:kvs.length<=cnt m more
section
variable {rows:Zy}{g told m i j:Nat}{more:Nat}{kvs:ZB}
theorem StepS.skip(h:StepS rows g told m i j more kvs){x:Row}(hx:rows[j]?=some x)(hs:more.testBit x.1=true\/aI (stg rows g told i) g x=false):StepS rows g told m i (j+1) more kvs:=by
 have nohit:∀f,hits rows (stg rows g told i) g f j=true->more.testBit f=true:=by
  intro f hf;obtain⟨y,hy,rfl,hq⟩:=bY.1 hf;rw[hx] at hy;cases hy;rcases hs with z | z
  ·exact z
  ·rw[z] at hq;cases hq
 refine⟨h.lt,λf=>?_,h.old,λf r hr hc=>?_,h.len⟩
 ·rw[h.bits f]
  constructor
  ·rintro(z | ⟨r,hr,z⟩)
   ·exact .inl z
   ·exact .inr ⟨r,by omega,z⟩
  ·rintro(z | ⟨r,hr,z⟩)
   ·exact .inl z
   ·by_cases e:r=j
    ·subst e;exact(h.bits f).1 (nohit f z)
    ·exact .inr ⟨r,by omega,z⟩
 ·by_cases e:r=j
  ·subst e
   exfalso;have hh:hits rows (stg rows g told i) g f r=true:=List.find?_some hc.2;rcases(h.bits f).1 (nohit f hh) with z | ⟨r',hr',z⟩
   ·rw[hc.1] at z;cases z
   ·have hfind:=hc.2
    unfold bc at hfind;rw[List.find?_range_eq_some] at hfind
    have:=hfind.2.2 r' hr'
    rw[z] at this;cases this
  ·exact h.now f r 'b' hc
theorem StepS.put(h:StepS rows g told m i j more kvs){x:Row}(hx:rows[j]?=some x)(hm:x.1<m)(h1:more.testBit x.1=false)(h2:aI (stg rows g told i) g x=true):StepS rows g told m i (j+1) (more|||2 ^ x.1) (putD kvs (.inl (x.1:Int)) (.tup [.int ((i+1:Nat):Int),⇑j])):=by
 have hlt:more|||2 ^ x.1<2 ^ m:=Nat.or_lt_two_pow h.lt (Nat.pow_lt_pow_right 'a' hm);have hin:hits rows (stg rows g told i) g x.1 j=true:=bY.2 ⟨x,hx,rfl,h2⟩;have neq:∀f:Nat,f≠x.1->¬(Sum.inl (f:Int):Key)=.inl (x.1:Int):=λf hf z=>hf (by injection z with z;exact Int.ofNat_inj.1 z)
 refine⟨hlt,λf=>?_,λf t r ht hc=>?_,λf r hr hc=>?_,?_⟩
 ·rw[XZ,XS,h.bits f,Nat.testBit_two_pow,XO]
  constructor
  ·rintro((z | ⟨r,hr,z⟩) | z)
   ·exact .inl z
   ·exact .inr ⟨r,by omega,z⟩
   ·subst z;exact .inr ⟨j,by omega,hin⟩
  ·rintro(z | ⟨r,hr,z⟩)
   ·exact .inl (.inl z)
   ·by_cases e:r=j
    ·subst e
     obtain⟨y,hy,e,_⟩:=bY.1 z;rw[hx] at hy;cases hy;exact .inr e
    ·exact .inl (.inr ⟨r,by omega,z⟩)
 ·have hf:f≠x.1:=by
   intro z;subst z
   have:=(h.bits x.1).2 (.inl (k7 (show t+1<=i by omega) _ hc.in))
   rw[h1] at this;cases this
  rw[ot,if_neg (neq f hf)];exact h.old f t r ht hc
 ·by_cases e:r=j
  ·subst e
   obtain⟨y,hy,e,_⟩:=cE hc.2;rw[hx] at hy;cases hy;subst e;rw[ot,if_pos rfl]
  ·have hf:f≠x.1:=by
    intro z;subst z
    have:=(h.bits x.1).2 (.inr ⟨r,by omega,List.find?_some hc.2⟩)
    rw[h1] at this;cases this
   rw[ot,if_neg (neq f hf)];exact h.now f r 'b' hc
 ·have a:=rJ kvs (.inl (x.1:Int)) (.tup [.int ((i+1:Nat):Int),⇑j])
  have b:=uw (m:=m) (a:=more) (b:=more|||2 ^ x.1) (Sub.or_l _ _) (λz=>by
   have:(more|||2 ^ x.1).testBit x.1=true:=by rw[XZ,Nat.testBit_two_pow_self,Bool.or_true]
   rw[←z,h1] at this;cases this) hlt
  have:=h.len
  omega
theorem StepS.done(h:StepS rows g told m i rows.length more kvs):more=stg rows g told (i+1):=by
 refine XY λf=>?_
 rw[Bool.eq_iff_iff,h.bits f,dh];refine or_congr Iff.rfl ⟨λ⟨r,_,z⟩=>?_,λ⟨x,hx,e,q⟩=>?_⟩
 ·obtain⟨x,hx,e,q⟩:=bY.1 z
  exact⟨x,YR hx,e,q⟩
 ·obtain⟨r,hr⟩:=XR hx
  exact⟨r,(YC.mp hr).1,bY.2 ⟨x,hr,e,q⟩⟩
theorem StepS.next(h:StepS rows g told m i rows.length more kvs):StepS rows g told m (i+1) 0 more kvs:=by
 have e:=h.done;refine⟨h.lt,λf=>?_,λf t r ht hc=>?_,λf r hr _=>absurd hr (Nat.not_lt_zero _),h.len⟩
 ·rw[e]
  exact⟨.inl,λz=>z.elim id λ⟨r,hr,_⟩=>absurd hr (Nat.not_lt_zero _)⟩
 ·by_cases z:t=i
  ·subst z
   obtain⟨x,hx,-⟩:=cE hc.2;exact h.now f r (YC.mp hx).1 hc
  ·exact h.old f t r 'b' hc
theorem BQ(hh:∀x∈rows,x.1<m)(e:stg rows g told (i+1)=stg rows g told i):bp rows told g (stg rows g told i):=by
 refine⟨⟨k7 (YL i),λx hx q=>?_⟩,λs hs=>?_⟩
 ·rw[←e];exact(dh i x.1).2 (.inr ⟨x,hx,rfl,q⟩)
 ·clear e
  induction i with
  |zero=>exact hs.1
  |succ i ih=>
   intro f hf;rcases(dh i f).1 hf with z | ⟨x,hx,rfl,q⟩
   ·exact ih f z
   ·exact hs.2 x hx (fD ih q)
theorem uz(e:stg rows g told (i+1)=stg rows g told i):∀t,i<=t->stg rows g told t=stg rows g told i:=by
 intro t ht;induction ht with
 |refl=>rfl
 |@step t _ ih=>
  show stg rows g told (t+1)=_;rw[stg,ih,←stg,e]
theorem StepS.ranks(h:StepS rows g told m i 0 more kvs)(e:stg rows g told (i+1)=stg rows g told i):i5 rows g told kvs:=by
 intro f s r hc;by_cases z:s<i
 ·exact h.old f s r z hc
 ·exfalso
  have:=hc.in
  rw[uz e (s+1) 'b'] at this;have h1:=hc.1;rw[uz e s 'b'] at h1;rw[h1] at this;cases this
def left(rows:Zy)(s:Nat):Nat:=rows.countP λx=>!s.testBit x.1
theorem Fs(e:stg rows g told (i+1)≠stg rows g told i):left rows (stg rows g told (i+1))<left rows (stg rows g told i):=by
 have:∃f,(stg rows g told i).testBit f=false/\(stg rows g told (i+1)).testBit f=true:=by
  refine Classical.byContradiction λz=>e (Sub.antisymm (λf hf=>?_) (k6 i))
  cases b:(stg rows g told i).testBit f with
  |true=>rfl
  |false=>exact absurd ⟨f,b,hf⟩ z
 obtain⟨f,h1,h2⟩:=this;rcases(dh i f).1 h2 with z | ⟨x,hx,rfl,q⟩
 ·rw[z] at h1;cases h1
 ·unfold left
  have key:∀l:List Row,x∈l->l.countP (λx=>!(stg rows g told (i+1)).testBit x.1)<l.countP (λx=>!(stg rows g told i).testBit x.1):=by
   intro l;have mono:∀l:List Row,l.countP (λx=>!(stg rows g told (i+1)).testBit x.1)<=l.countP (λx=>!(stg rows g told i).testBit x.1):=λl=>List.countP_mono_left λy _ hy=>by
    cases b:(stg rows g told i).testBit y.1 with
    |false=>rfl
    |true=>rw[k6 i _ b] at hy;cases hy
   induction l with
   |nil=>intro h;cases h
   |cons y l ih=>
    intro hm;rw[List.countP_cons,List.countP_cons];rcases YA.1 hm with rfl | hm
    ·rw[h1,h2]
     have:=mono l
     simp;omega
    ·have:=ih hm
     cases b:(stg rows g told i).testBit y.1 with
     |false=>simp only[Bool.not_false,if_true];split<;>omega
     |true=>rw[k6 i _ b];simpa using this
  exact key rows hx
end
theorem BR{α:Type}(g:α->Bool):∀l:List α,blsD (l.map λy=>D.bl (g y))=some (l.map g)
 |[]=>rfl
 |y::l=>by rw[YJ,blsD,BR g l];rfl
def Af(h:Int):D->D
 |.int f=>.int (bitZ h f)
 |_=>.non
theorem xw(h:Int)(fs:Zi):(intL fs).map (Af h)=bits h fs:=by
 unfold intL bits;rw[ZL];rfl
section
variable {cn:Cn}{ds:List D}{M:MH}{Q:DK}
theorem uA(h:d3 ds M Q):wSs cn cb (fin Q) (af ["","","",""] ds) M:=by
 obtain⟨t,h,g,rfl,ho,q⟩:=h;show wSs cn cb (fin Q) [some t.told,some (.int h),some (.int g),none] M;cases t with
 |hav f=>
  unfold cb;simp_all! only[CT.told,at0,at1,at2,sh_];refine⟨ho.1,?_⟩;rw[PyProof.Rows.bitAnd_m1];exact q M (Ext.refl M)
 |lck f=>
  unfold cb;simp_all! only[CT.told,at0,at1,at2,s_lh];unfold di;simp_all! only[CT.told,at0,at1,at2,s_ll];refine⟨ho.1,?_⟩;rw[PyProof.Rows.bitAnd_m1];have q1:Q (.bl (!hasB g f)) M:=q M (Ext.refl M);rw[←wM] at q1;exact q1
 |som n fs=>
  unfold cb;simp_all! only[CT.told,at0,at1,at2,s_sh];unfold di;simp_all! only[CT.told,at0,at1,at2,s_sl];unfold gr;simp_all! only[CT.told,at0,at1,at2,s_ss,List.cons_append,XA,List.replicate];refine bX (f:=Af h) (ok:=λσ=>∃v,σ=[some (.tup [.str "some",.int n,.tup (intL fs)]),some (.int h),some (.int g),none,v]) [] _ ⟨none,rfl⟩ ?_ ?_
  ·intro d hd σ acc rest ⟨v,hv⟩ k
   subst hv;obtain⟨f,hfm,rfl⟩:=XU.1 hd;have k1:=k _ ⟨some (.int f),rfl⟩;refine⟨(ho.2 f hfm).1,trivial,?_⟩;rw[PyProof.Rows.bitAnd_m1];exact k1
  ·intro p hp
   rw[XA,xw,aa];simp only[rl,rp];exact q _ (Ext.new hp)
 |led fs k=>
  unfold cb;simp_all! only[CT.told,at0,at1,at2,s_dh];unfold di;simp_all! only[CT.told,at0,at1,at2,s_dl];unfold gr;simp_all! only[CT.told,at0,at1,at2,s_ds];unfold k9;simp_all! only[CT.told,at0,at1,at2,ku,List.cons_append,XA,List.replicate];refine bX (f:=Af g) (ok:=λσ=>∃v,σ=[some (.tup [.str "lead",.tup (intL fs),⇑k]),some (.int h),some (.int g),none,v]) [] _ ⟨none,rfl⟩ ?_ ?_
  ·intro d hd σ acc rest ⟨v,hv⟩ k
   subst hv;obtain⟨f,hfm,rfl⟩:=XU.1 hd;have k1:=k _ ⟨some (.int f),rfl⟩;refine⟨(ho.2 f (List.mem_of_mem_take hfm)).1,trivial,?_⟩;rw[PyProof.Rows.bitAnd_m1];exact k1
  ·intro p hp
   rw[XA,xw,aa];simp only[rl,rp,List.set];have e1:=Ext.new (o:=MO.lst (bits g (fs.take k))) hp;generalize updM M p (MO.lst (bits g (fs.take k)))=M1 at *;have q1:∀M',Ext M M'->Q (.bl (hasB h (fs.getD k 0)&&(((cntB (fs.take k) g:Nat):Int)==0))) M':=q;unfold k8;simp_all! only[CT.told,at0,at1,at2,qx ho.1.1];refine⟨uj ho.1.1 ho.2,?_⟩;rw[PyProof.Rows.bitAnd_m1];show Bif (hasB h (fs.getD k 0)) _ _;cases hb:hasB h (fs.getD k 0) with
   |false=>
    rw[hb] at q1;exact q1 M1 e1
   |true=>
    rw[hb] at q1;exact q1 M1 e1
theorem xx(f0:cn.F.getD 0 Yl=d3)(h:eR ds M Q):wSs cn la (fin Q) (af ["","","","","","","","",""] ds) M:=by
 obtain⟨p,m,rds,rows,told,g,rfl,hp,hR,ok,ht,q⟩:=h;show wSs cn la (fin Q) [↑p,~~~told,~~~g,none,none,none,none,none,none] M;have hsz:(2000:Nat)<sizeLine:=by decide
 have hok:∀x∈rows,∀t∈x.2,CT.ok t:=λx hx t ht=>CT.fit_ok (by have:=ok.most;omega) ((ok.fit x hx).2.2 t ht)
 have okm:=ok.most;have okf:=ok.few;have hrl:rds.length=rows.length:=mT hR;unfold la;simp! only[List.set];unfold nr;simp! only[List.set];intro d hd;have e0:Ext M (updM M d (MO.dic [])):=Ext.new hd;have g0:updM M d (MO.dic []) d=some (.dic []):=aa;have hpd:p≠d:=bd hp hd;generalize updM M d (MO.dic [])=M1 at *;have last:∀(hv:Nat) (kvs:ZB) (v5 v6 v7 v8:Zz) (M5:MH),Ext M M5->M5 d=some (.dic kvs)->bp rows told g hv->hv<2 ^ m->i5 rows g told kvs->wSs cn eM (fin Q) [↑p,~~~told,~~~g,~~~hv,↑d,v5,v6,v7,v8] M5:=by
  intro hv kvs v5 v6 v7 v8 M5 e5 h5 L hlt r5;unfold eM;simp! only[];exact q hv d kvs M5 L hlt hd e5 h5 r5
 -- one row
 have body:∀(E:EndsD) (i j:Nat) (x:Row) (q1:Addr) (more:Nat) (kvs:ZB) (M5:MH),rows[j]?=some x->Ext M M5->M5 q1=some (.lst (x.2.map CT.told))->M5 d=some (.dic kvs)->StepS rows g told m i j more kvs ->
   (∀more' kvs' M6,Ext M M6->M6 d=some (.dic kvs')->StepS rows g told m i (j+1) more' kvs'->E.nx [↑p,~~~told,~~~g,some (.int ((stg rows g told i:Nat):Int)),↑d,some (.int ((i+1:Nat):Int)),~~~more',~~~j,some (.tup [⇑x.1,.ref q1])] M6) ->
   wSs cn eO E [↑p,~~~told,~~~g,some (.int ((stg rows g told i:Nat):Int)),↑d,some (.int ((i+1:Nat):Int)),~~~more,~~~j,some (.tup [⇑x.1,.ref q1])] M5:=by
  intro E i j x q1 more kvs M5 hx e5 hq1 h5 St kk;have hxm:=YR hx;have hx1:=(ok.fit x hxm).1;unfold eO;simp_all! only[List.set,at0,at1];refine⟨by omega,?_⟩;rw[PyProof.Rows.bitAnd_m1];show Bif (bitZ (more:Int) (x.1:Int)==0) _ _;rw[wM,bf];cases b:more.testBit x.1 with
  |true=>exact kk more kvs M5 e5 h5 (St.skip hx (.inl b))
  |false=>
   simp only[Bool.not_false,aH,List.cons_append,XA,List.replicate,hq1];have comp:∀(F:List D->MH->Prop),(∀M6,Ext M5 M6->F (x.2.map λt=>D.bl (t.carried ((stg rows g told i:Nat):Int) (g:Int))) M6)->∀(rest dn:List CT) (v:Zz) (M6:MH),x.2=dn++rest->Ext M5 M6 ->
     ax (λM'=>M' q1=some (.lst (x.2.map CT.told))) (.nm 9) (wTo cn .no) (wE cn (.fn 0 (.cons (.var 9) (.cons (.var 3) (.cons (.var 2) .nil))))) F (rest.map CT.told) (dn.map λt=>D.bl (t.carried ((stg rows g told i:Nat):Int) (g:Int))) [↑p,~~~told,~~~g,some (.int ((stg rows g told i:Nat):Int)),↑d,some (.int ((i+1:Nat):Int)),~~~more,~~~j,some (.tup [⇑x.1,.ref q1]),v] M6:=by
    intro F hF rest;induction rest with
    |nil=>
     intro dn v M6 hd e6;rw[ZA] at hd;rw[YW,ax,←hd];exact hF M6 e6
    |cons t rest ih=>
     intro dn v M6 hd e6;rw[YJ,ax];have go:d3 [t.told,.int ((stg rows g told i:Nat):Int),⇑g] M6 (λy M2=>M2 q1=some (.lst (x.2.map CT.told))/\ax (λM'=>M' q1=some (.lst (x.2.map CT.told))) (.nm 9) (wTo cn .no) (wE cn (.fn 0 (.cons (.var 9) (.cons (.var 3) (.cons (.var 2) .nil))))) F (rest.map CT.told) ((dn.map λt=>D.bl (t.carried ((stg rows g told i:Nat):Int) (g:Int)))++[y]) [↑p,~~~told,~~~g,some (.int ((stg rows g told i:Nat):Int)),↑d,some (.int ((i+1:Nat):Int)),~~~more,~~~j,some (.tup [⇑x.1,.ref q1]),some t.told] M2):=by
      refine⟨t,_,_,rfl,hok x hxm t (by rw[hd];simp),λM7 e7=>⟨e7 _ _ (e6 _ _ hq1),?_⟩⟩
      have:=ih (dn++[t]) (some t.told) M7 (by rw[hd];simp) (e6.trans e7)
      rw[ZK] at this;exact this
     rw[←f0] at go;exact go
   refine comp _ ?_ x.2 [] none M5 rfl (Ext.refl _);intro M6 e6 pl hpl;rw[aa];simp only[BR];have e7:Ext M5 (updM M6 pl (.lst (x.2.map λt=>D.bl (t.carried ((stg rows g told i:Nat):Int) (g:Int))))):=e6.then hpl;generalize updM M6 pl (MO.lst (x.2.map λt=>D.bl (t.carried ((stg rows g told i:Nat):Int) (g:Int))))=M7 at *;have all:(x.2.map λt=>t.carried ((stg rows g told i:Nat):Int) (g:Int)).all id=aI (stg rows g told i) g x:=by
    unfold aI;rw[List.all_map];rfl
   rw[all];cases b2:aI (stg rows g told i) g x with
   |false=>exact kk more kvs M7 (e5.trans e7) (e7 _ _ h5) (St.skip hx (.inr b2))
   |true=>
    simp only[aH];refine⟨⟨by omega,by omega,by decide⟩,?_⟩;rw[yT,tx];have hlen:=St.len;have hcm:=uv m more;unfold nn;simp! only[List.set,at0,e7 _ _ h5];refine⟨by omega,?_⟩;exact kk _ _ _ ((e5.trans e7).put hd) aa (St.put hx hx1 b b2)
 -- all rows,once
 have loop:∀(E:EndsD) (i:Nat) (xs:List D) (rrs:Zy) (j:Nat) (more:Nat) (kvs:ZB) (v7 v8:Zz) (M5:MH),ba M xs rrs->rows.drop j=rrs->Ext M M5->M5 d=some (.dic kvs)->StepS rows g told m i j more kvs ->
   (∀more' kvs' v7 v8 M6,Ext M M6->M6 d=some (.dic kvs')->StepS rows g told m i rows.length more' kvs'->E.nx [↑p,~~~told,~~~g,some (.int ((stg rows g told i:Nat):Int)),↑d,some (.int ((i+1:Nat):Int)),~~~more',v7,v8] M6) ->
   aq (λM'=>M' p=some (.lst rds)) (.tp [7,8]) (wSs cn eO) E (aS (j:Int) xs) [↑p,~~~told,~~~g,some (.int ((stg rows g told i:Nat):Int)),↑d,some (.int ((i+1:Nat):Int)),~~~more,v7,v8] M5:=by
  intro E i xs rrs j more kvs v7 v8 M5 hx;induction hx generalizing j more kvs v7 v8 M5 with
  |nil=>
   intro hdr e5 h5 St kk;have hj:rows.length<=j:=List.drop_eq_nil_iff.1 hdr;rw[aS,aq];refine kk more kvs v7 v8 M5 e5 h5 ⟨St.lt,λf=>?_,St.old,λf r hr hc=>St.now f r 'b' hc,St.len⟩;rw[St.bits f];refine or_congr Iff.rfl ⟨λ⟨r,_,z⟩=>?_,λ⟨r,hr,z⟩=>⟨r,by omega,z⟩⟩;obtain⟨y,hy,-⟩:=bY.1 z;exact⟨r,(YC.mp hy).1,z⟩
  |@cons d' x xs rrs hd' _ ih=>
   intro hdr e5 h5 St kk;obtain⟨q1,rfl,hq1⟩:=hd';have hx:rows[j]?=some x:=by
    have:=congrArg (·[0]?) hdr
    simpa using this
   have hdr2:rows.drop (j+1)=rrs:=by
    have:=congrArg List.tail hdr
    simpa using this
   rw[aS,aq];refine⟨rfl,?_⟩;refine body _ i j x q1 more kvs M5 hx e5 (e5 _ _ hq1) h5 St ?_;intro more' kvs' M6 e6 h6 St';exact⟨e6 _ _ hp,ih (j+1) more' kvs' _ _ M6 hdr2 e6 h6 St' kk⟩
 have step:∀(E:EndsD) (i:Nat) (kvs:ZB) (v6 v7 v8:Zz) (M5:MH),Ext M M5->M5 d=some (.dic kvs)->StepS rows g told m i 0 (stg rows g told i) kvs ->
   (∀kvs' v6 v7 v8 M6,Ext M M6->M6 d=some (.dic kvs')->StepS rows g told m (i+1) 0 (stg rows g told (i+1)) kvs' ->
    (stg rows g told (i+1)=stg rows g told i->E.bk [↑p,~~~told,~~~g,some (.int ((stg rows g told i:Nat):Int)),↑d,some (.int ((i+1:Nat):Int)),v6,v7,v8] M6) /\
    (stg rows g told (i+1)≠stg rows g told i->E.nx [↑p,~~~told,~~~g,some (.int ((stg rows g told (i+1):Nat):Int)),↑d,some (.int ((i+1:Nat):Int)),v6,v7,v8] M6)) ->
   wSs cn eQ E [↑p,~~~told,~~~g,some (.int ((stg rows g told i:Nat):Int)),↑d,some (.int ((i+1:Nat):Int)),v6,v7,v8] M5:=by
  intro E i kvs v6 v7 v8 M5 e5 h5 St kk;unfold eQ;simp! only[List.set];unfold np;simp! only[List.set,e5 _ _ hp];refine loop _ i rds rows 0 _ kvs _ _ M5 hR rfl e5 h5 St ?_;intro more' kvs' v7 v8 M6 e6 h6 St';have em:=St'.done;have k:=kk kvs' (~~~more') v7 v8 M6 e6 h6 (em▸St'.next);rw[em] at k;dsimp only;unfold nk;simp_all! only[List.set];rw[em];by_cases e:stg rows g told (i+1)=stg rows g told i
  ·have hb:(((stg rows g told (i+1):Nat):Int)==((stg rows g told i:Nat):Int))=true:=by rw[e];simp
   rw[hb,aH];exact k.1 e
  ·have hb:(((stg rows g told (i+1):Nat):Int)==((stg rows g told i:Nat):Int))=false:=beq_false_of_ne λz=>e (Int.ofNat_inj.1 z)
   rw[hb,ao];unfold nj;simp! only[List.set];exact k.2 e
 have key:∀(k i:Nat) (kvs:ZB) (v5 v6 v7 v8:Zz) (M5:MH),i+k=rows.length+1->left rows (stg rows g told i)+i<=rows.length->Ext M M5->M5 d=some (.dic kvs)->StepS rows g told m i 0 (stg rows g told i) kvs ->
   aq (λ_=>True) (.nm 5) (wSs cn eQ) { nx:=wSs cn eM (fin Q),rt:=Q } ((List.range' i k).map λi=>D.int ((i+1:Nat):Int)) [↑p,~~~told,~~~g,some (.int ((stg rows g told i:Nat):Int)),↑d,v5,v6,v7,v8] M5:=by
  intro k;induction k with
  |zero=>
   intro i kvs v5 v6 v7 v8 M5 hik hl;omega
  |succ k ih=>
   intro i kvs v5 v6 v7 v8 M5 hik hl e5 h5 St;rw[List.range'_succ,YJ,aq];refine step _ i kvs v6 v7 v8 M5 e5 h5 St ?_;intro kvs' v6 v7 v8 M6 e6 h6 St';refine⟨λe=>?_,λe=>⟨trivial,?_⟩⟩
   ·refine last _ kvs' (some (.int ((i+1:Nat):Int))) v6 v7 v8 M6 e6 h6 (BQ (m:=m) (λx hx=>(ok.fit x hx).1) e) St.lt (St'.ranks ?_)
    rw[uz e (i+1+1) 'b',e]
   ·have:=Fs e
    exact ih (i+1) kvs' (some (.int ((i+1:Nat):Int))) v6 v7 v8 M6 'b' 'b' e6 h6 St'
 unfold nq;simp! only[List.set,e0 _ _ hp,hrl];refine⟨⟨by omega,by omega,by omega,by omega⟩,?_⟩;have hrg:a8 1 ((rows.length:Int)+2)=(List.range' 0 (rows.length+1)).map λi=>D.int ((i+1:Nat):Int):=by
  unfold a8;rw[show((rows.length:Int)+2-1).toNat=rows.length+1 by omega,List.range_eq_range'];refine ZM λi _=>?_
  rw[show(1:Int)+(i:Int)=((i+1:Nat):Int) by omega]
 rw[hrg];refine key (rows.length+1) 0 [] none none none none M1 'b' ?_ e0 g0 ?_
 ·unfold left
  have:=List.countP_le_length (p:=λ(x:Row)=>!(stg rows g told 0).testBit x.1) (l:=rows)
  omega
 ·refine⟨ht,λf=>⟨.inl,λz=>z.elim id λ⟨r,hr,_⟩=>absurd hr (Nat.not_lt_zero _)⟩,λf t r h=>absurd h (Nat.not_lt_zero _),λf r h=>absurd h (Nat.not_lt_zero _),YL _⟩
end
end SQ
namespace SH
open PySem L2 DD
def uB:Ss:=#v[.ret (.str "false")]
def nt:Ss:=.cons (.ite (.val (.fn 0 #v[.var 1,.var 2])) #v[.ret (.str "open")] .nil) uB
def lb:Ss:=.cons (.ite (.val (.fn 0 #v[.var 0,.var 2])) #v[.ret (.str "true")] .nil) nt
def im:Ss:=#v[.ret (.bk .list #v[.fld (.var 0) "pairs"])]
def dj:Ss:=#v[.ret (.fn 0 #v[.fld (.var 0) "sure",.fld (.var 0) "unsure",.var 1])]
def cX:Ss:=#v[.ret (.bin .Add (.mt .index (.comp 1 (.fn 0 #v[.ix (.var 2) (.int 1),.var 1]) (.nm 2) (.seq (.fld (.var 0) "pairs")) .no) #v[.bl true]) (.int 1))]
def cG:Ss:=#v[.ret (.bin .Add (.mt .index (.comp 1 (.fn 0 #v[.ix (.var 2) (.int 0),.var 1]) (.nm 2) (.seq (.fld (.var 0) "pairs")) .no) #v[.bl false]) (.int 1))]
def ansS(a b f:Nat):Str:=if a.testBit f=true then "true" else if b.testBit f=true then "open" else "false"
def km:SpD:=λds M Q=>∃(a b f:Nat),ds=[⇑a,⇑b,⇑f]/\Q (.str (ansS a b f)) M
def pP(Z:Addr):SpD:=λds M Q=>∃(a:Addr) (m:Nat) (ps:Zp) (x:Nat×Nat),ds=[.ref a]/\SortAt Z M a m ps x/\∀p M',M p=none->Ext M M'->M' p=some (.lst ((ps++[x]).map aw))->Q (.ref p) M'
def io(Z:Addr):SpD:=λds M Q=>∃(a:Addr) (m:Nat) (ps:Zp) (x:Nat×Nat) (f:Nat),ds=[.ref a,⇑f]/\SortAt Z M a m ps x/\Q (.str (ansS x.2 (au x.1 x.2) f)) M
def fF(Z:Addr):SpD:=λds M Q=>∃(a:Addr) (m:Nat) (ps:Zp) (x:Nat×Nat) (f i:Nat) (y:Nat×Nat),ds=[.ref a,⇑f]/\SortAt Z M a m ps x/\(ps++[x])[i]?=some y/\y.2.testBit f=true/\(∀j z,j<i->(ps++[x])[j]?=some z->z.2.testBit f=false)/\∀M',Ext M M'->Q (.int ((i+1:Nat):Int)) M'
def eg(Z:Addr):SpD:=λds M Q=>∃(a:Addr) (m:Nat) (ps:Zp) (x:Nat×Nat) (f i:Nat) (y:Nat×Nat),ds=[.ref a,⇑f]/\SortAt Z M a m ps x/\(ps++[x])[i]?=some y/\y.1.testBit f=false/\(∀j z,j<i->(ps++[x])[j]?=some z->z.1.testBit f=true)/\∀M',Ext M M'->Q (.int ((i+1:Nat):Int)) M'
theorem rL{m:Nat}{p:Addr}{x:Nat×Nat}:(l5 m p x).lookup ("pairs" : Str)=↑p:=rfl
theorem Ft{m:Nat}{p:Addr}{x:Nat×Nat}:(l5 m p x).lookup ("runs" : Str)=none:=rfl
theorem xy{m:Nat}{p:Addr}{x:Nat×Nat}:(l5 m p x).lookup ("answer_of" : Str)=none:=rfl
theorem vy{m:Nat}{p:Addr}{x:Nat×Nat}:(l5 m p x).lookup ("true_round" : Str)=none:=rfl
theorem uC{m:Nat}{p:Addr}{x:Nat×Nat}:(l5 m p x).lookup ("false_round" : Str)=none:=rfl
theorem DQ(x y:Bool):eqD (.bl x) (.bl y)=(x==y):=by rw[eqD]
theorem rM{α:Type}(g:α->Bool):∀l:List α,aO (l.map λy=>D.bl (g y))=true
 |[]=>rfl
 |y::l=>by rw[YJ,aO,rM g l];rfl
theorem uD{α:Type}(g:α->Bool):∀l:List α,bz (l.map λy=>D.bl (g y))=0
 |[]=>rfl
 |y::l=>by rw[YJ,bz,uD g l];rfl
theorem yZ{α:Type}{g:α->Bool}{l:List α}{b:Bool}{i:Nat}{y:α}(h1:l[i]?=some y)(h2:g y=b)(h3:∀(j:Nat) (z:α),j<i->l[j]?=some z->g z = !b):(l.map λy=>D.bl (g y)).findIdx? (λd=>eqD d (.bl b))=some i:=by
 have hl:=(YC.mp h1).1;rw[List.findIdx?_eq_some_iff_getElem];refine⟨by rw[ZE];exact hl,?_,λj hj=>?_⟩
 ·rw[List.getElem_map,DQ]
  have:l[i]=y:=by rw[ZC hl] at h1;exact Yi h1
  rw[this,h2];simp
 ·rw[List.getElem_map,DQ,h3 j _ hj (ZC 'b')]
  cases b<;>decide
theorem rN{α:Type}{p:α->Bool}:∀{l:List α}{i:Nat}{y:α},l[i]?=some y->p y=true->∃(j:Nat) (z:α),l[j]?=some z/\p z=true/\∀(k:Nat) (w:α),k<j->l[k]?=some w->p w=false
 |[],_,_,h,_=>by cases h
 |a::l,i,y,h,q=>by
  cases e:p a with
  |true=>exact⟨0,a,rfl,e,λk w hk=>absurd hk (Nat.not_lt_zero _)⟩
  |false=>
   cases i with
   |zero=>
    have h:some a=some y:=h;cases h;rw[e] at q;cases q
   |succ i=>
    obtain⟨j,z,h1,h2,h3⟩:=rN (l:=l) (i:=i) h q;refine⟨j+1,z,h1,h2,λk w hk hw=>?_⟩;cases k with
    |zero=>
     have hw:some a=some w:=hw;cases hw;exact e
    |succ k=>exact h3 k w 'b' hw
def bitAt(j:Int)(f:Nat):D->D
 |.tup l=>match atI l j with
  |some (.int b)=>.bl (hasB b (f:Int))
  |_=>.non
 |_=>.non
theorem Ha(f:Nat)(l:Zp):(l.map aw).map (bitAt 0 f)=l.map λy=>D.bl (y.1.testBit f):=by
 rw[ZL];refine ZM λy _=>?_
 show bitAt 0 f (.tup [⇑y.1,⇑y.2])=_;rw[bitAt,at0];show D.bl (hasB (y.1:Int) (f:Int))=_;rw[bf]
theorem Hb(f:Nat)(l:Zp):(l.map aw).map (bitAt 1 f)=l.map λy=>D.bl (y.2.testBit f):=by
 rw[ZL];refine ZM λy _=>?_
 show bitAt 1 f (.tup [⇑y.1,⇑y.2])=_;rw[bitAt,at1];show D.bl (hasB (y.2:Int) (f:Int))=_;rw[bf]
section
variable {cn:Cn}{ds:List D}{M:MH}{Q:DK}{c:CA}{S Z:Addr}
theorem xz(f0:cn.F.getD 0 Yl=aZ)(h:km ds M Q):wSs cn lb (fin Q) (af ["","",""] ds) M:=by
 obtain⟨a,b,f,rfl,q⟩:=h;show wSs cn lb (fin Q) [~~~a,~~~b,~~~f] M;unfold ansS at q;unfold lb;simp! only[f0];refine⟨(a:Int),(f:Int),rfl,by omega,?_⟩;rw[bf];cases e:a.testBit f with
 |true=>rw[if_pos e] at q;exact q
 |false=>
  rw[if_neg (by rw[e];decide)] at q;simp only[ao];unfold nt;simp! only[f0];refine⟨(b:Int),(f:Int),rfl,by omega,?_⟩;rw[bf];cases e:b.testBit f with
  |true=>rw[if_pos e] at q;exact q
  |false=>
   rw[if_neg (by rw[e];decide)] at q;exact q
theorem Fu(hO:∀f∈oq,cn.O Z f)(h:pP Z ds M Q):wSs cn im (fin Q) (af [""] ds) M:=by
 obtain⟨a,m,ps,x,rfl,⟨p,h1,h2⟩,q⟩:=h;show wSs cn im (fin Q) [↑a] M;unfold im;simp! only[h1,rL,dBk,gJ,h2];refine⟨hO _ 'e',λp' hp'=>?_⟩;exact q p' _ hp' (Ext.new hp') aa
theorem xA(hO:∀f∈oq,cn.O Z f)(f0:cn.F.getD 0 Yl=km)(h:io Z ds M Q):wSs cn dj (fin Q) (af ["",""] ds) M:=by
 obtain⟨a,m,ps,x,f,rfl,⟨p,h1,h2⟩,q⟩:=h;show wSs cn dj (fin Q) [↑a,~~~f] M;unfold dj;simp! only[h1,Fr,BP,f0];exact⟨hO _ 'e',hO _ 'e',x.2,au x.1 x.2,f,rfl,q⟩
theorem vz(hO:∀f∈oq,cn.O Z f)(f0:cn.F.getD 0 Yl=aZ)(h:fF Z ds M Q):wSs cn cX (fin Q) (af ["",""] ds) M:=by
 obtain⟨a,m,ps,x,f,i,y,rfl,⟨p,h1,h2⟩,h3,h4,h5,q⟩:=h;show wSs cn cX (fin Q) [↑a,~~~f] M;unfold cX;simp! only[List.cons_append,XA,List.replicate,h1,rL,h2,f0];refine⟨hO _ 'e',?_⟩;refine bX (f:=bitAt 1 f) (ok:=λσ=>∃v,σ=[↑a,~~~f,v]) [] _ ⟨none,rfl⟩ ?_ ?_
 ·intro d hd σ acc' rest ⟨v,hv⟩ kk
  subst hv;obtain⟨y',hy',rfl⟩:=XU.1 hd;have k1:=kk _ ⟨some (aw y'),rfl⟩;refine⟨(y'.2:Int),(f:Int),rfl,by omega,h2,?_⟩;exact k1
 intro p' hp';rw[XA,Hb,aa];simp only[rdL];refine⟨rfl,⟨rfl,rM _ _,by rw[uD];decide⟩,?_⟩;rw[yZ (b:=true) h3 h4 λj z hj hz=>h5 j z hj hz];exact q _ (Ext.new hp')
theorem uE(hO:∀f∈oq,cn.O Z f)(f0:cn.F.getD 0 Yl=aZ)(h:eg Z ds M Q):wSs cn cG (fin Q) (af ["",""] ds) M:=by
 obtain⟨a,m,ps,x,f,i,y,rfl,⟨p,h1,h2⟩,h3,h4,h5,q⟩:=h;show wSs cn cG (fin Q) [↑a,~~~f] M;unfold cG;simp! only[List.cons_append,XA,List.replicate,h1,rL,h2,f0];refine⟨hO _ 'e',?_⟩;refine bX (f:=bitAt 0 f) (ok:=λσ=>∃v,σ=[↑a,~~~f,v]) [] _ ⟨none,rfl⟩ ?_ ?_
 ·intro d hd σ acc' rest ⟨v,hv⟩ kk
  subst hv;obtain⟨y',hy',rfl⟩:=XU.1 hd;have k1:=kk _ ⟨some (aw y'),rfl⟩;refine⟨(y'.1:Int),(f:Int),rfl,by omega,h2,?_⟩;exact k1
 intro p' hp';rw[XA,Ha,aa];simp only[rdL];refine⟨rfl,⟨rfl,rM _ _,by rw[uD];decide⟩,?_⟩;rw[yZ (b:=false) h3 h4 λj z hj hz=>h5 j z hj hz];exact q _ (Ext.new hp')
end
def i7:Ss:=#v[.ret (.var 6)]
def nu:Ss:=#v[.expr (.mt .append (.var 6) #v[.bin .Add (.tup #v[.str "true",.var 9]) (.ix (.ix (.var 4) (.bin .Sub (.var 9) (.int 1))) (.var 7))])]
def nv:Ss:=#v[.ite (.val (.fn 0 #v[.var 1,.var 7])) #v[.expr (.mt .append (.var 6) #v[.glob 0])] #v[.ite (.cmp .Eq (.var 8) (.str "true")) (.cons (.set 9 (.mu "true_round" (.var 2) #v[.var 7])) nu) #v[.ite (.cmp .Eq (.var 8) (.str "false")) #v[.expr (.mt .append (.var 6) #v[.tup #v[.str "false",.mu "false_round" (.var 2) #v[.var 7]]])] #v[.expr (.mt .append (.var 6) #v[.bin .Add (.tup #v[.str "open"]) (.ix (.var 5) (.var 7))])]]]]
def eU:Ss:=.cons (.set 8 (.mu "answer_of" (.var 2) #v[.var 7])) nv
def nw:Ss:=.cons (.for (.nm 7) (.rg1 #v[.mu0 "how_many" (.var 0)]) eU) i7
def ny:Ss:=.cons (.set 6 (.lst .nil)) nw
def i8:Ss:=.cons (.set 5 (.fn 1 #v[.var 0,.var 1,.ix (.ix (.var 3) (.neg (.int 1))) (.int 1)])) ny
def nz:Ss:=.cons (.setC 4 1 (.fn 1 #v[.var 0,.var 1,.ix (.var 10) (.int 0)]) (.nm 10) (.seq (.var 3)) .no) i8
def nA:Ss:=.cons (.set 3 (.mu0 "runs" (.var 2))) nz
def lc:Ss:=.cons (.set 2 (.fn 2 #v[.var 0,.var 1])) nA
def ko(c:CA)(S:Addr):SpD:=λds M Q=>∃(a:Addr) (m:Nat) (rows:Zy) (told:Nat),ds=[.ref a,⇑told]/\SheetAt c S M a m rows/\rows.length<64/\m<64/\told<2 ^ m /\
 ∀p ps pps M',M p=none->Ext M M'->M' p=some (.lst (pps.map Pap.D))->Papers rows m told ps pps->Q (.ref p) M'
def da(M:MH)(rows:Zy)(told:Nat)(qs:Zh)(L:Zp):Prop:=qs.length=L.length/\∀(i:Nat) (q:Addr) (y:Nat×Nat),qs[i]?=some q->L[i]?=some y->∃kvs,M q=some (.dic kvs)/\i5 rows y.1 told kvs
theorem da.ext{M M':MH}{rows:Zy}{told:Nat}{qs:Zh}{L:Zp}(e:Ext M M')(h:da M rows told qs L):da M' rows told qs L:=
 ⟨h.1,λi q y h1 h2=>let⟨kvs,a,b⟩:=h.2 i q y h1 h2;⟨kvs,e _ _ a,b⟩⟩
theorem da.add{M:MH}{rows:Zy}{told:Nat}{qs:Zh}{L:Zp}{q:Addr}{y:Nat×Nat}{kvs:ZB}(h:da M rows told qs L)(h1:M q=some (.dic kvs))(h2:i5 rows y.1 told kvs):da M rows told (qs++[q]) (L++[y]):=by
 refine⟨by rw[ZJ,ZJ,h.1];rfl,λi q' y' a b=>?_⟩;by_cases hi:i<L.length
 ·rw[ZD (by rw[h.1];exact hi)] at a
  rw[ZD hi] at b;exact h.2 i q' y' a b
 ·have hl:=(YC.mp b).1
  rw[ZJ] at hl;have:i=L.length:=by simp at hl;omega
  subst this;rw[ZG (by rw[h.1];exact YE _),h.1,Nat.sub_self] at a;rw[ZG (YE _),Nat.sub_self] at b;cases a;cases b;exact⟨kvs,h1,h2⟩
theorem eh{α:Type}(ps:List α)(x:α):(ps++[x]).getLast?=some x:=by rw[List.getLast?_append];simp
section
variable {cn:Cn}{ds:List D}{M:MH}{Q:DK}{c:CA}{S Z:Addr}
theorem xB(hT:cn.T S "how_many" = some (c5 c S))(t1:cn.T Z "runs" = some (pP Z))(t2:cn.T Z "answer_of" = some (io Z))(t3:cn.T Z "true_round" = some (fF Z))(t4:cn.T Z "false_round" = some (eg Z))
  (hG:cn.G.getD 0 .non=Pap.told.D) (f0:cn.F.getD 0 Yl=aZ) (f1:cn.F.getD 1 Yl=ni c S) (f2:cn.F.getD 2 Yl=a9 Z (fP c S Z)) (h:ko c S ds M Q):
  wSs cn lc (fin Q) (af ["","","","","","","","","",""] ds) M:=by
 obtain⟨a,m,rows,told,rfl,A,hn,hm,ht,q⟩:=h;show wSs cn lc (fin Q) [↑a,~~~told,none,none,none,none,none,none,none,none] M;have hsz:(2000:Nat)<sizeLine:=by decide
 unfold lc;simp! only[List.set,f2];intro z hz;have ez:Ext M (updM M z (.ins Z [])):=Ext.new hz;refine⟨z,a,m,rows,told,rfl,aa,A.ext ez,hn,hm,ht,λps x M3 b3 Z3 R0=>⟨rfl,?_⟩⟩;have e3:Ext M M3:=ExtBut.ext ez b3 hz;have R:Runs rows m told (ps++[x]):=⟨A.ok,ht,by simp,R0⟩;clear b3 ez hz;obtain⟨pz,hz1,hz2⟩:=id Z3;unfold nA;simp! only[List.set,hz1,Ft,t1];refine⟨trivial,z,m,ps,x,rfl,Z3,λrn M4 hrn e4 g4=>?_⟩;unfold nz;simp! only[List.set,List.cons_append,XA,List.replicate,g4];have comp:∀(F:List D->MH->Prop),(∀qs M5,Ext M4 M5->da M5 rows told qs (ps++[x])->F (ak qs) M5)->∀(rest dn:Zp) (qs:Zh) (v:Zz) (M5:MH),ps++[x]=dn++rest->Ext M4 M5->da M5 rows told qs dn ->
   ax (λM'=>M' rn=some (.lst ((ps++[x]).map aw))) (.nm 10) (wTo cn .no) (wE cn (.fn 1 (.cons (.var 0) (.cons (.var 1) (.cons (.ix (.var 10) (.int 0)) .nil))))) F (rest.map aw) (ak qs) [↑a,~~~told,↑z,↑rn,none,none,none,none,none,none,v] M5:=by
  intro F hF rest;induction rest with
  |nil=>
   intro dn qs v M5 hd e5 s5;rw[ZA] at hd;rw[YW,ax];exact hF qs M5 e5 (hd▸s5)
  |cons y rest ih=>
   intro dn qs v M5 hd e5 s5;rw[YJ,ax];have go:ni c S [.ref a,⇑told,⇑y.1] M5 (λd M2=>M2 rn=some (.lst ((ps++[x]).map aw))/\ax (λM'=>M' rn=some (.lst ((ps++[x]).map aw))) (.nm 10) (wTo cn .no) (wE cn (.fn 1 (.cons (.var 0) (.cons (.var 1) (.cons (.ix (.var 10) (.int 0)) .nil))))) F (rest.map aw) (ak qs++[d]) [↑a,~~~told,↑z,↑rn,none,none,none,none,none,none,some (aw y)] M2):=by
    refine⟨a,m,rows,told,y.1,rfl,A.ext (e3.trans (e4.trans e5)),hn,hm,ht,λq kvs M6 hq e6 g6 r6=>⟨e6 _ _ (e5 _ _ g4),?_⟩⟩;have s6:=(s5.ext e6).add (y:=y) g6 r6
    have:=ih (dn++[y]) (qs++[q]) (some (aw y)) M6 (by rw[hd];simp) (e5.trans e6) s6
    rw[show ak (qs++[q])=ak qs++[.ref q] from ZK] at this;exact this
   rw[←f1] at go;exact go
 refine comp _ ?_ (ps++[x]) [] [] none M4 rfl (Ext.refl _) ⟨rfl,λi q y h=>by cases h⟩;clear comp;intro qs M5 e5 s5 br hbr;have e05:Ext M (updM M5 br (.lst (ak qs))):=(e3.trans (e4.trans e5)).then hbr;have e35:Ext M3 (updM M5 br (.lst (ak qs))):=(e4.trans e5).then hbr;have g5:updM M5 br (MO.lst (ak qs)) rn=some (.lst ((ps++[x]).map aw)):=Ext.new hbr _ _ (e5 _ _ g4);have s6:=s5.ext (Ext.new (o:=.lst (ak qs)) hbr);have b6:updM M5 br (MO.lst (ak qs)) br=some (.lst (ak qs)):=aa;show wSs cn i8 (fin Q) [↑a,~~~told,↑z,↑rn,↑br,none,none,none,none,none] (updM M5 br (MO.lst (ak qs)));generalize updM M5 br (MO.lst (ak qs))=M6 at *;unfold i8;simp! only[List.set,g5,cx,at1,f1];refine⟨a,m,rows,told,x.2,rfl,A.ext e05,hn,hm,ht,λbl kvl M7 hbl e7 g7 r7=>?_⟩;have e07:=e05.trans e7;have Z7:=Z3.ext (e35.trans e7);have s7:=s6.ext e7;have b7:=e7 _ _ b6;clear e05 e35 s6 b6 g5 e5 s5 hbr e4 g4 hrn hz1 hz2 Z3 e3 hbl e7;clear M6 M5 M4 M3;unfold ny;simp! only[List.set];intro p hp;have hpM:M p=none:=e07.free hp;have e8:Ext M7 (updM M7 p (.lst [])):=Ext.new hp;have g8:updM M7 p (MO.lst []) p=some (.lst (([]:List Pap).map Pap.D)):=aa;generalize updM M7 p (MO.lst [])=M8 at *;obtain⟨ok,crs,p1,p2,p3,ps1,ps2,ps3,h1,-⟩:=A.ext (e07.trans e8);unfold nw;simp! only[List.set,h1,jh,hT];refine⟨trivial,a,m,rows,rfl,A.ext (e07.trans e8),⟨by omega,by omega⟩,?_⟩;rw[ca,List.range_eq_range'];have body:∀(E:EndsD) (f:Nat) (pps:ZN) (v8 v9:Zz) (M5:MH),f<m->pps.length=f->Ext M7 M5->M5 p=some (.lst (pps.map Pap.D)) ->
   (∀q v8 v9 M6,dQ rows told (ps++[x]) f q->Ext M7 M6->M6 p=some (.lst ((pps++[q]).map Pap.D))->E.nx [↑a,~~~told,↑z,↑rn,↑br,↑bl,↑p,~~~f,v8,v9] M6) ->
   wSs cn eU E [↑a,~~~told,↑z,↑rn,↑br,↑bl,↑p,~~~f,v8,v9] M5:=by
  intro E f pps v8 v9 M5 hf hl e5 g5 kk;have Z5:=Z7.ext e5;obtain⟨pz,hz1,hz2⟩:=id Z5;have hal:(pps.map Pap.D).length=f:=by rw[ZE,hl]
  -- what is put behind
  have put:∀(q:Pap) (v8 v9:Zz) (M6:MH),Ext M5 M6->dQ rows told (ps++[x]) f q->E.nx [↑a,~~~told,↑z,↑rn,↑br,↑bl,↑p,~~~f,v8,v9] (updM M6 p (.lst (pps.map Pap.D++[q.D]))):=by
   intro q v8 v9 M6 e6 hq;refine kk q v8 v9 _ hq ((e5.trans e6).put hp) ?_;rw[aa,ZK];rfl
  unfold eU;simp! only[List.set,hz1,xy,t2];refine⟨trivial,z,m,ps,x,f,rfl,Z5,?_⟩;unfold nv;simp! only[List.set,f0];refine⟨(told:Int),(f:Int),rfl,by omega,?_⟩;rw[bf];have gx:(ps++[x])[ps.length]?=some x:=by simp
  cases bt:told.testBit f with
  |true=>
   simp only[aH,hG,g5];refine⟨rfl,by omega,?_⟩;exact put .told _ _ M5 (Ext.refl _) bt
  |false=>
   simp only[ao];have str:∀(s k:Str),(aM (.str s)=true/\aM (.str k)=true/\depD (.str s)<=30):=λs k=>⟨rfl,rfl,(by decide:(0:Nat)<=30)⟩
   cases b2:x.2.testBit f with
   |true=>
    have ea:ansS x.2 (au x.1 x.2) f = "true":=by unfold ansS;rw[if_pos b2]
    rw[ea];refine⟨str _ _,?_⟩;rw[ac,show(("true" : Str) == "true")=true by rfl'];simp only[aH,hz1,vy,t3];obtain⟨i,y,h1,h2,h3⟩:=rN (p:=λ(y:Nat×Nat)=>y.2.testBit f) gx b2;refine⟨trivial,z,m,ps,x,f,i,y,rfl,Z5,h1,h2,h3,λM6 e6=>?_⟩;have hc:∃s r,Came rows y.1 told f s r:=by
     rcases((R.l2 h1).came R.heads f).1 h2 with z | z
     ·rw[bt] at z;cases z
     ·exact z
    obtain⟨s,r,hc⟩:=hc;have hil:=(YC.mp h1).1;have hqi:qs[i]?=some (qs[i]'(by rw[s7.1];exact hil)):=ZC _;generalize qs[i]'(by rw[s7.1];exact hil)=qa at hqi;obtain⟨kvs,k1,k2⟩:=s7.2 i qa y hqi h1;have hat:atI (ak qs) (((i+1:Nat):Int)-1)=↑qa:=by
     rw[show(((i+1:Nat):Int)-1)=(i:Int) by omega];exact cN (by unfold ak;rw[ZF,hqi];rfl)
    unfold nu;simp! only[List.set,(e5.trans e6) _ _ b7,e6 _ _ g5,hat,(e5.trans e6) _ _ k1,k2 f s r hc,List.cons_append,XA];refine⟨rfl,⟨by simp,by show 4<=sizeLine;omega⟩,by omega,?_⟩;exact put (.tru (i+1) (s+1) r) _ _ M6 e6 ⟨bt,i,s,y,rfl,rfl,h1,h2,λj w hj hw=>h3 j w hj hw,hc⟩
   |false=>
    cases b3:x.1.testBit f with
    |false=>
     have ea:ansS x.2 (au x.1 x.2) f = "false":=by unfold ansS;rw[if_neg (by rw[b2];decide),if_neg (by rw[aT,b3,Bool.false_and];decide)]
     rw[ea];refine⟨str _ _,?_⟩;rw[ac,show(("false" : Str) == "true")=false by rfl'];simp only[ao];refine⟨str _ _,?_⟩;rw[ac,show(("false" : Str) == "false")=true by rfl'];simp only[aH,hz1,uC,t4,g5];obtain⟨i,y,h1,h2,h3⟩:=rN (p:=λ(y:Nat×Nat)=>!y.1.testBit f) gx (by rw[b3];rfl);have h2:y.1.testBit f=false:=by simpa using h2
     have h3:∀(j:Nat) (w:Nat×Nat),j<i->(ps++[x])[j]?=some w->w.1.testBit f=true:=λj w hj hw=>by simpa using h3 j w hj hw
     refine⟨rfl,trivial,z,m,ps,x,f,i,y,rfl,Z5,h1,h2,h3,λM6 e6=>?_⟩;simp only[e6 _ _ g5];refine⟨by omega,?_⟩;exact put (.fls (i+1)) _ _ M6 e6 ⟨bt,i,y,rfl,h1,h2,h3⟩
    |true=>
     have ea:ansS x.2 (au x.1 x.2) f = "open":=by unfold ansS;rw[if_neg (by rw[b2];decide),if_pos (by rw[aT,b3,b2];rfl)]
     rw[ea];refine⟨str _ _,?_⟩;rw[ac,show(("open" : Str) == "true")=false by rfl'];simp only[ao];refine⟨str _ _,?_⟩;rw[ac,show(("open" : Str) == "false")=false by rfl'];have hc:∃s r,Came rows x.2 told f s r:=by
      rcases((R.end_ (eh ps x)).came R.heads f).1 b3 with z | z
      ·rw[bt] at z;cases z
      ·exact z
     obtain⟨s,r,hc⟩:=hc;simp only[ao,e5 _ _ g7,r7 f s r hc,g5,List.cons_append,XA];refine⟨rfl,⟨by simp,by show 3<=sizeLine;omega⟩,by omega,?_⟩;exact put (.opn (s+1) r) _ _ M5 (Ext.refl _) ⟨bt,s,x,rfl,eh ps x,b3,b2,hc⟩
 have key:∀(k n:Nat) (pps:ZN) (v7 v8 v9:Zz) (M5:MH),n+k=m->pps.length=n->(∀f q,pps[f]?=some q->dQ rows told (ps++[x]) f q)->Ext M7 M5->M5 p=some (.lst (pps.map Pap.D)) ->
   aq (λ_=>True) (.nm 7) (wSs cn eU) { nx:=wSs cn i7 (fin Q),rt:=Q } (nats (List.range' n k)) [↑a,~~~told,↑z,↑rn,↑br,↑bl,↑p,v7,v8,v9] M5:=by
  intro k;induction k with
  |zero=>
   intro n pps v7 v8 v9 M5 hnk hl hp5 e5 g5;rw[List.range'_zero,show nats []=[] from rfl,aq];unfold i7;simp! only[];exact q p (ps++[x]) pps M5 hpM (e07.trans e5) g5 ⟨R,by omega,hp5⟩
  |succ k ih=>
   intro n pps v7 v8 v9 M5 hnk hl hp5 e5 g5;rw[List.range'_succ,show nats (n::List.range' (n+1) k)=⇑n::nats (List.range' (n+1) k) from rfl,aq];refine body _ n pps v8 v9 M5 'b' hl e5 g5 ?_;intro q v8 v9 M6 hq e6 g6;refine⟨trivial,ih (n+1) (pps++[q]) _ _ _ M6 'b' (by rw[ZJ,hl];rfl) (λf q' hf=>?_) e6 g6⟩;by_cases hfn:f<n
   ·rw[ZD 'b'] at hf
    exact hp5 f q' hf
   ·have hfl:=(YC.mp hf).1
    rw[ZJ,hl] at hfl;have:f=n:=by simp at hfl;omega
    subst this;rw[ZG 'b',hl,Nat.sub_self] at hf;cases hf;exact hq
 exact key m 0 [] none none none M8 'b' rfl (λf q h=>by cases h) e8 g8
end
end SH
namespace SQ
open PySem L2 DD
open SH
def fQ:Ss:=#v[.ret (.var 3)]
def jM:Ss:=#v[.expr (.mt .append (.var 3) #v[.tup #v[.var 6,.var 4]])]
def oV:Ss:=.cons (.ite (.and (.cmp .NotEq (.var 3) (.lst .nil)) (.cmp .Eq (.ix (.var 3) (.neg (.int 1))) (.tup #v[.var 6,.var 4]))) #v[.brk] .nil) jM
def oX:Ss:=.cons (.set 4 (.ix (.fn 0 #v[.var 0,.var 1,.var 6]) (.int 0))) oV
def fR:Ss:=.cons (.set 6 (.ix (.fn 0 #v[.var 0,.var 1,.var 4]) (.int 0))) oX
def oY:Ss:=.cons (.for (.nm 5) (.rg1 #v[.bin .Add (.bin .Mult (.int 2) (.var 2)) (.int 2)]) fR) fQ
def oZ:Ss:=.cons (.set 4 (.int 0)) oY
def mQ:Ss:=.cons (.set 3 (.lst .nil)) oZ
def l7:SpD:=λds M Q=>∃(p:Addr) (m:Nat) (rds:List D) (rows:Zy) (told:Nat),ds=[.ref p,⇑told,⇑m]/\M p=some (.lst rds)/\ba M rds rows/\RowsOk m rows/\told<2 ^ m /\
 ∀(rn:Addr) (ps:Zp) (x:Nat×Nat) M',M rn=none->Ext M M'->M' rn=some (.lst ((ps++[x]).map aw))->Runs rows m told (ps++[x])->Q (.ref rn) M'
theorem tO:∀l:List (Nat×Nat),aO (l.map aw)=true
 |[]=>rfl
 |y::l=>by rw[YJ,aO,tO l];rfl
theorem vn:∀l:List (Nat×Nat),bz (l.map aw)<=1
 |[]=>YL _
 |y::l=>by
  rw[YJ,bz]
  have:=vn l
  have h:depD (aw y)=1:=rfl;rw[h];omega
theorem Ds:∀l:List D,eqDs l []=l.isEmpty
 |[]=>by rw[eqDs];rfl
 |a::l=>by rw[eqDs]<;>simp
inductive RunS (rows:Zy) (m told:Nat):List (Nat×Nat)->Nat->Prop
 |nil:RunS rows m told [] 0
 |more (acc:Zp) (x:Nat×Nat) (R:Rounds0 rows (2 ^ m-1) told told 0 (acc++[x])) (k0:Nat) (hx:x=aC rows (2 ^ m-1) told told k0) (hk:Sub k0 x.2) (far:acc.length+farP m x<=2*m):RunS rows m told (acc++[x]) x.2
section
variable {rows:Zy}{m told:Nat}
theorem Rounds0.add{acc:Zp}{x:Nat×Nat}(R:Rounds0 rows (2 ^ m-1) told told 0 (acc++[x]))(he:aC rows (2 ^ m-1) told told x.2≠x):Rounds0 rows (2 ^ m-1) told told 0 (acc++[x]++[aC rows (2 ^ m-1) told told x.2]):=by
 constructor
 ·have h0:0<(acc++[x]).length:=by simp
  rw[ZD h0];exact R.first
 ·intro i y z h1 h2
  have hi:i+1<(acc++[x]++[aC rows (2 ^ m-1) told told x.2]).length:=(YC.mp h2).1;simp only[ZJ,YH,YS] at hi;by_cases hlast:i+1<(acc++[x]).length
  ·rw[ZD 'b'] at h1
   rw[ZD hlast] at h2;exact R.next i y z h1 h2
  ·simp only[ZJ,YH,YS] at hlast
   have hia:i=acc.length:=by omega
   subst hia;have hy:y=x:=by
    rw[ZD (by simp),ZG 'b'] at h1;simpa using h1.symm
   have hz:z=aC rows (2 ^ m-1) told told x.2:=by
    rw[ZG (by simp)] at h2;simpa using h2.symm
   subst hy hz;exact⟨rfl,he⟩
theorem RunS.add(ok:RowsOk m rows)(ht:told<2 ^ m){l:Zp}{hv:Nat}(h:RunS rows m told l hv)(hne:l.getLast?≠some (aC rows (2 ^ m-1) told told hv)):RunS rows m told (l++[aC rows (2 ^ m-1) told told hv]) (aC rows (2 ^ m-1) told told hv).2:=by
 have hh:∀x∈rows,(2 ^ m-1).testBit x.1=true:=λx hx=>by
  rw[Nat.testBit_two_pow_sub_one];exact YT (ok.fit x hx).1
 have hp1:2 ^ m-1<2 ^ m:=by have:=Nat.two_pow_pos m;omega
 have hlt:=rF (rows:=rows) hp1 ht ht;cases h with
 |nil=>
  refine .more [] _ ⟨rfl,λi x y h1 h2=>?_⟩ 0 rfl (Sub.zero _) ?_
  ·cases i<;>cases h2
  ·have:=yW m (aC rows (2 ^ m-1) told told 0)
   simpa using this
 |more acc x R k0 hx hk far=>
  have he:aC rows (2 ^ m-1) told told x.2≠x:=λz=>hne (by rw[z];exact eh acc x)
  have mono:=tL (wide:=told) (narrow:=told) hh hk;rw[←hx] at mono;have hb:=hlt k0;rw[←hx] at hb;have f2:=yX (m:=m) mono.1 mono.2 he hb.1 (hlt x.2).2;exact .more (acc++[x]) _ (Rounds0.add R he) x.2 rfl mono.2 (by rw[ZJ];simp;omega)
theorem RunS.len{l:Zp}{hv:Nat}(h:RunS rows m told l hv):l.length<=2*m+1:=by
 cases h with
 |nil=>exact YL _
 |more acc x R k0 hx hk far=>rw[ZJ];simp;omega
theorem RunS.done(ok:RowsOk m rows)(ht:told<2 ^ m){l:Zp}{hv:Nat}(h:RunS rows m told l hv)(he:l.getLast?=some (aC rows (2 ^ m-1) told told hv)):∃ps x,l=ps++[x]/\Runs rows m told (ps++[x]):=by
 cases h with
 |nil=>cases he
 |more acc x R k0 hx hk far=>
  refine⟨acc,x,rfl,ok,ht,by simp,R,λy hy=>?_⟩;rw[eh] at hy he;cases hy;exact(Yi he).symm
end
section
variable {cn:Cn}{ds:List D}{M:MH}{Q:DK}
theorem yi(f0:cn.F.getD 0 Yl=eR)(h:l7 ds M Q):wSs cn mQ (fin Q) (af ["","","","","","",""] ds) M:=by
 obtain⟨p,m,rds,rows,told,rfl,hp,hR,ok,ht,q⟩:=h;show wSs cn mQ (fin Q) [↑p,~~~told,~~~m,none,none,none,none] M;have hsz:(2000:Nat)<sizeLine:=by decide
 have okm:=ok.most;have hh:∀x∈rows,(2 ^ m-1).testBit x.1=true:=λx hx=>by
  rw[Nat.testBit_two_pow_sub_one];exact YT (ok.fit x hx).1
 unfold mQ;simp! only[List.set];intro rn hrn;have e0:Ext M (updM M rn (.lst [])):=Ext.new hrn;have g0:updM M rn (MO.lst []) rn=some (.lst (([]:List (Nat×Nat)).map aw)):=aa;generalize updM M rn (MO.lst [])=M1 at *;unfold oZ;simp! only[List.set];have last:∀(l:Zp) (hv:Nat) (v4 v5 v6:Zz) (M5:MH),Ext M M5->M5 rn=some (.lst (l.map aw))->RunS rows m told l hv->l.getLast?=some (aC rows (2 ^ m-1) told told hv)->wSs cn fQ (fin Q) [↑p,~~~told,~~~m,↑rn,v4,v5,v6] M5:=by
  intro l hv v4 v5 v6 M5 e5 g5 S5 hl;obtain⟨ps,x,rfl,R⟩:=S5.done ok ht hl;unfold fQ;simp! only[];exact q rn ps x M5 hrn e5 g5 R
 have body:∀(E:EndsD) (l:Zp) (hv:Nat) (v5 v6:Zz) (M5:MH),Ext M M5->M5 rn=some (.lst (l.map aw))->RunS rows m told l hv ->
   (l.getLast?=some (aC rows (2 ^ m-1) told told hv)->∀v4 v6 M6,Ext M M6->M6 rn=some (.lst (l.map aw))->E.bk [↑p,~~~told,~~~m,↑rn,v4,v5,v6] M6) ->
   (l.getLast?≠some (aC rows (2 ^ m-1) told told hv)->∀v6 M6,Ext M M6->M6 rn=some (.lst ((l++[aC rows (2 ^ m-1) told told hv]).map aw))->E.nx [↑p,~~~told,~~~m,↑rn,some (.int (((aC rows (2 ^ m-1) told told hv).2:Nat):Int)),v5,v6] M6) ->
   wSs cn fR E [↑p,~~~told,~~~m,↑rn,~~~hv,v5,v6] M5:=by
  intro E l hv v5 v6 M5 e5 g5 S5 kb kn;unfold fR;simp! only[List.set,f0];refine⟨p,m,rds,rows,told,hv,rfl,e5 _ _ hp,hR.ext e5,ok,ht,λn1 d1 kvs1 M6 L1 lt1 _ e6 _ _=>?_⟩;simp! only[at0];have en1:n1=(aC rows (2 ^ m-1) told told hv).1:=L1.uniq (bP hh);unfold oX;simp! only[List.set,f0];refine⟨p,m,rds,rows,told,n1,rfl,e6 _ _ (e5 _ _ hp),(hR.ext e5).ext e6,ok,ht,λn2 d2 kvs2 M7 L2 lt2 _ e7 _ _=>?_⟩;simp! only[at0];have en2:n2=(aC rows (2 ^ m-1) told told hv).2:=by
   rw[en1] at L2;exact L2.uniq (bP hh)
  subst en1 en2;have e57:=e6.trans e7;have g7:=e57 _ _ g5;unfold oV;simp! only[List.set];intro pe hpe;have e8:Ext M7 (updM M7 pe (.lst [])):=Ext.new hpe;have g8:updM M7 pe (MO.lst []) pe=some (.lst []):=aa;generalize updM M7 pe (MO.lst [])=M8 at *;have g88:=e8 _ _ g7;have e08:Ext M M8:=e5.trans (e57.trans e8);have hll:=S5.len;have app:l.getLast?≠some (aC rows (2 ^ m-1) told told hv)->wSs cn jM E [↑p,~~~told,~~~m,↑rn,some (.int (((aC rows (2 ^ m-1) told told hv).2:Nat):Int)),v5,some (.int (((aC rows (2 ^ m-1) told told hv).1:Nat):Int))] M8:=by
   intro hne;unfold jM;simp! only[List.set,g88];refine⟨rfl,by rw[ZE];omega,?_⟩;refine kn hne _ _ (e08.put hrn) ?_;rw[aa,ZK];rfl
  simp only[g8,g88,rdL];refine⟨⟨tO l,rfl,by have:=vn l;omega⟩,?_⟩;rw[Ds];cases S5 with
  |nil=>exact app (by simp)
  |more acc x R k0 hx hk far=>
   have hem:((acc++[x]).map aw).isEmpty=false:=by simp
   rw[hem];simp only[Bool.not_false,aH,cx];refine⟨⟨l6 x,l6 _,xp x⟩,?_⟩;rw[show eqD (.tup [⇑x.1,⇑x.2]) (.tup [.int (((aC rows (2 ^ m-1) told told x.2).1:Nat):Int),.int (((aC rows (2 ^ m-1) told told x.2).2:Nat):Int)])=decide (x=aC rows (2 ^ m-1) told told x.2) from yY x _];by_cases he:x=aC rows (2 ^ m-1) told told x.2
   ·rw[YT he,aH]
    exact kb (by rw[eh,←he]) _ _ M8 e08 g88
   ·rw[ZQ he,ao]
    exact app (by rw[eh];exact λz=>he (Yi z))
 have key:∀(k n:Nat) (l:Zp) (hv:Nat) (v5 v6:Zz) (M5:MH),n+k=2*m+2->l.length=n->Ext M M5->M5 rn=some (.lst (l.map aw))->RunS rows m told l hv ->
   aq (λ_=>True) (.nm 5) (wSs cn fR) { nx:=wSs cn fQ (fin Q),rt:=Q } (nats (List.range' n k)) [↑p,~~~told,~~~m,↑rn,~~~hv,v5,v6] M5:=by
  intro k;induction k with
  |zero=>
   intro n l hv v5 v6 M5 hn hl e5 g5 S5
   have:=S5.len
   omega
  |succ k ih=>
   intro n l hv v5 v6 M5 hn hl e5 g5 S5;rw[List.range'_succ,show nats (n::List.range' (n+1) k)=⇑n::nats (List.range' (n+1) k) from rfl,aq];refine body _ l hv (~~~n) v6 M5 e5 g5 S5 ?_ ?_
   ·intro he v4 v6 M6 e6 g6
    exact last l hv v4 (~~~n) v6 M6 e6 g6 S5 he
   ·intro hne v6 M6 e6 g6
    exact⟨trivial,ih (n+1) _ _ (~~~n) v6 M6 'b' (by rw[ZJ,hl];rfl) e6 g6 (S5.add ok ht hne)⟩
 unfold oY;simp! only[List.set];refine⟨.inl ⟨by decide,by decide⟩,⟨by omega,by omega⟩,?_⟩;rw[show(2:Int)*(m:Int)+2=((2*m+2:Nat):Int) by omega,ca,List.range_eq_range'];exact key (2*m+2) 0 [] 0 none none M1 'b' rfl e0 g0 .nil
end
def ld:Ss:=#v[.ret (.var 4)]
def lf:Ss:=#v[.expr (.mt .append (.var 4) #v[.var 7])]
def pQ:Ss:=.cons (.ite (.cmp .Is (.var 7) .non) #v[.set 7 (.bin .Add (.tup #v[.str "open"]) (.ix (.var 5) (.var 6)))] .nil) lf
def ip:Ss:=#v[.ite (.and (.cmp .Is (.var 7) .non) (.cmp .Eq (.bin .BitAnd (.bin .RShift (.ix (.var 9) (.int 1)) (.var 6)) (.int 1)) (.int 1))) #v[.set 7 (.bin .Add (.tup #v[.str "true",.var 8]) (.ix (.ix (.fn 0 #v[.var 1,.var 2,.ix (.var 9) (.int 0)]) (.int 1)) (.var 6)))] .nil]
def ei:Ss:=.cons (.ite (.and (.cmp .Is (.var 7) .non) (.cmp .Eq (.bin .BitAnd (.bin .RShift (.ix (.var 9) (.int 0)) (.var 6)) (.int 1)) (.int 0))) #v[.set 7 (.tup #v[.str "false",.var 8])] .nil) ip
def lg:Ss:=.cons (.for (.tp [8,9]) (.enumS #v[.var 3] (.int 1)) ei) pQ
def pR:Ss:=.cons (.ite (.cmp .Eq (.bin .BitAnd (.bin .RShift (.var 2) (.var 6)) (.int 1)) (.int 1)) #v[.set 7 (.tup #v[.str "true",.int 0,.int 0,.non])] .nil) lg
def iq:Ss:=.cons (.set 7 .non) pR
def pS:Ss:=.cons (.for (.nm 6) (.rg1 #v[.var 0]) iq) ld
def pT:Ss:=.cons (.set 5 (.ix (.fn 0 #v[.var 1,.var 2,.ix (.ix (.var 3) (.neg (.int 1))) (.int 1)]) (.int 1))) pS
def o0:Ss:=.cons (.set 4 (.lst .nil)) pT
def ou:Ss:=.cons (.set 3 (.fn 1 #v[.var 1,.var 2,.var 0])) o0
def ow:SpD:=λds M Q=>∃(p:Addr) (m:Nat) (rds:List D) (rows:Zy) (told:Nat),ds=[⇑m,.ref p,⇑told]/\M p=some (.lst rds)/\ba M rds rows/\RowsOk m rows/\told<2 ^ m /\
 ∀q ps pps M',M q=none->Ext M M'->M' q=some (.lst (pps.map Pap.D))->Papers rows m told ps pps->Q (.ref q) M'
inductive PapS (rows:Zy) (told:Nat) (L:Zp) (f j:Nat):D->Prop
 |no (h:told.testBit f=false) (hb:∀(i:Nat) (y:Nat×Nat),i<j->L[i]?=some y->y.1.testBit f=true/\y.2.testBit f=false):PapS rows told L f j .non
 |yes (q:Pap) (h:dQ rows told L f q):PapS rows told L f j q.D
section
variable {cn:Cn}{ds:List D}{M:MH}{Q:DK}
theorem Ag(f0:cn.F.getD 0 Yl=eR)(f1:cn.F.getD 1 Yl=l7)(h:ow ds M Q):wSs cn ou (fin Q) (af ["","","","","","","","","",""] ds) M:=by
 obtain⟨p,m,rds,rows,told,rfl,hp,hR,ok,ht,q⟩:=h;show wSs cn ou (fin Q) [~~~m,↑p,~~~told,none,none,none,none,none,none,none] M;have hsz:(2000:Nat)<sizeLine:=by decide
 have okm:=ok.most;unfold ou;simp! only[List.set,f1];refine⟨p,m,rds,rows,told,rfl,hp,hR,ok,ht,λrn ps x M3 hrn e3 g3 R=>?_⟩;unfold o0;simp! only[List.set];intro fd hfd;have hfdM:M fd=none:=e3.free hfd;have hrf:rn≠fd:=bd g3 hfd;have e4:Ext M (updM M3 fd (.lst [])):=e3.then hfd;have g4:updM M3 fd (MO.lst []) rn=some (.lst ((ps++[x]).map aw)):=Ext.new hfd _ _ g3;have d4:updM M3 fd (MO.lst []) fd=some (.lst (([]:List Pap).map Pap.D)):=aa;generalize updM M3 fd (MO.lst [])=M4 at *;clear hfd g3 hrn e3;clear M3;unfold pT;simp! only[List.set,g4,cx,at1,f0];refine⟨p,m,rds,rows,told,x.2,rfl,e4 _ _ hp,hR.ext e4,ok,ht,λn1 bl kvl M5 L1 lt1 hbl e5 g5 r5=>?_⟩;simp! only[at1,List.set];have hbf:bl≠fd:=(bd d4 hbl).symm;have e05:=e4.trans e5;have rn5:=e5 _ _ g4;have d5:=e5 _ _ d4;clear e4 g4 d4 hbl e5 L1 lt1;clear M4 n1;have gx:(ps++[x])[ps.length]?=some x:=by simp
 -- one round,for a fact
 have inner:∀(E:EndsD) (f j:Nat) (y:Nat×Nat) (d:D) (M6:MH),f<m->(ps++[x])[j]?=some y->ExtBut fd M5 M6->PapS rows told (ps++[x]) f j d ->
   (∀d' M7,Ext M6 M7->PapS rows told (ps++[x]) f (j+1) d'->E.nx [~~~m,↑p,~~~told,↑rn,↑fd,↑bl,~~~f,some d',some (.int ((j+1:Nat):Int)),some (aw y)] M7) ->
   wSs cn ei E [~~~m,↑p,~~~told,↑rn,↑fd,↑bl,~~~f,some d,some (.int ((j+1:Nat):Int)),some (aw y)] M6:=by
  intro E f j y d M6 hf hy b6 S kk;have e06:Ext M M6:=ExtBut.ext e05 b6 hfdM;have keep:∀(q:Pap),dQ rows told (ps++[x]) f q->∀M7,Ext M6 M7->wSs cn ip E [~~~m,↑p,~~~told,↑rn,↑fd,↑bl,~~~f,some q.D,some (.int ((j+1:Nat):Int)),some (aw y)] M7:=by
   intro q hq M7 e7;unfold ip;simp_all! only[List.set];cases q<;>exact kk _ M7 e7 (.yes _ hq)
  cases S with
  |yes q hq=>
   unfold ei;simp_all! only[List.set];cases q<;>exact keep _ hq M6 (Ext.refl _)
  |no h0 hb=>
   unfold ei;simp_all! only[List.set,aw,at0];refine⟨by omega,?_⟩;rw[PyProof.Rows.bitAnd_m1];show Bif (bitZ (y.1:Int) (f:Int)==0) _ _;rw[wM,bf];cases b1:y.1.testBit f with
   |false=>
    have:=keep (.fls (j+1)) ⟨h0,j,y,rfl,hy,b1,λi w hi hw=>(hb i w hi hw).1⟩ M6 (Ext.refl _)
    exact this
   |true=>
    simp only[XV,ao];unfold ip;simp_all! only[List.set,at0,at1];refine⟨by omega,?_⟩;rw[PyProof.Rows.bitAnd_m1];show Bif (hasB (y.2:Int) (f:Int)) _ _;rw[bf];cases b2:y.2.testBit f with
    |false=>
     refine kk .non M6 (Ext.refl _) (.no h0 λi w hi hw=>?_);by_cases z:i=j
     ·subst z
      rw[hy] at hw;cases hw;exact⟨b1,b2⟩
     ·exact hb i w 'b' hw
    |true=>
     have hc:∃s r,Came rows y.1 told f s r:=by
      rcases((R.l2 hy).came R.heads f).1 b2 with z | z
      ·rw[h0] at z;cases z
      ·exact z
     obtain⟨s,r,hc⟩:=hc;simp only[aH,f0];refine⟨p,m,rds,rows,told,y.1,rfl,e06 _ _ hp,hR.ext e06,ok,ht,λn1 b1 kvs M7 L1 lt1 hb1 e7 g7 r7=>?_⟩;simp! only[at1,g7,r7 f s r hc,List.cons_append,XA,List.set];refine⟨⟨by simp,by show 4<=sizeLine;omega⟩,?_⟩;exact kk (Pap.tru (j+1) (s+1) r).D M7 e7 (.yes (.tru (j+1) (s+1) r) ⟨h0,j,s,y,rfl,rfl,hy,b2,λi w hi hw=>(hb i w hi hw).2,hc⟩)
 have loop:∀(E:EndsD) (f:Nat),f<m->∀(rest:Zp) (j:Nat) (d:D) (v8 v9:Zz) (M6:MH),(ps++[x]).drop j=rest->ExtBut fd M5 M6->PapS rows told (ps++[x]) f j d ->
   (∀d' v8 v9 M7,Ext M6 M7->PapS rows told (ps++[x]) f (ps++[x]).length d'->E.nx [~~~m,↑p,~~~told,↑rn,↑fd,↑bl,~~~f,some d',v8,v9] M7) ->
   aq (λM'=>M' rn=some (.lst ((ps++[x]).map aw))) (.tp [8,9]) (wSs cn ei) E (aS ((j+1:Nat):Int) (rest.map aw)) [~~~m,↑p,~~~told,↑rn,↑fd,↑bl,~~~f,some d,v8,v9] M6:=by
  intro E f hf rest;induction rest with
  |nil=>
   intro j d v8 v9 M6 hdr b6 S kk;have hj:(ps++[x]).length<=j:=List.drop_eq_nil_iff.1 hdr;rw[YW,aS,aq];refine kk d v8 v9 M6 (Ext.refl _) ?_;cases S with
   |no h0 hb=>exact .no h0 λi y hi hy=>hb i y 'b' hy
   |yes q hq=>exact .yes q hq
  |cons y rest ih=>
   intro j d v8 v9 M6 hdr b6 S kk;have hy:(ps++[x])[j]?=some y:=by
    have:=congrArg (·[0]?) hdr
    simpa using this
   have hdr2:(ps++[x]).drop (j+1)=rest:=by
    have:=congrArg List.tail hdr
    simpa using this
   rw[YJ,aS,aq];refine⟨rfl,?_⟩;refine inner _ f j y d M6 hf hy b6 S ?_;intro d' M7 e7 S';refine⟨e7 _ _ (b6 _ _ hrf rn5),?_⟩;exact ih (j+1) d' _ _ M7 hdr2 (b6.trans e7.but) S' λd'' v8 v9 M8 e8 S''=>kk d'' v8 v9 M8 (e7.trans e8) S''
 have body:∀(E:EndsD) (f:Nat) (pps:ZN) (v7 v8 v9:Zz) (M6:MH),f<m->pps.length=f->ExtBut fd M5 M6->M6 fd=some (.lst (pps.map Pap.D)) ->
   (∀q v7 v8 v9 M7,dQ rows told (ps++[x]) f q->ExtBut fd M5 M7->M7 fd=some (.lst ((pps++[q]).map Pap.D))->E.nx [~~~m,↑p,~~~told,↑rn,↑fd,↑bl,~~~f,v7,v8,v9] M7) ->
   wSs cn iq E [~~~m,↑p,~~~told,↑rn,↑fd,↑bl,~~~f,v7,v8,v9] M6:=by
  intro E f pps v7 v8 v9 M6 hf hl b6 d6 kk;have hal:(pps.map Pap.D).length=f:=by rw[ZE,hl]
  have put:∀(q:Pap) (v8 v9:Zz) (M7:MH),Ext M6 M7->dQ rows told (ps++[x]) f q->wSs cn lf E [~~~m,↑p,~~~told,↑rn,↑fd,↑bl,~~~f,some q.D,v8,v9] M7:=by
   intro q v8 v9 M7 e7 hq;unfold lf;simp! only[List.set,e7 _ _ d6];refine⟨rfl,by omega,?_⟩;refine kk q _ v8 v9 _ hq ((b6.trans e7.but).trans (ExtBut.upd _ _ _)) ?_;rw[aa,ZK];rfl
  have rest:∀d,PapS rows told (ps++[x]) f 0 d->wSs cn lg E [~~~m,↑p,~~~told,↑rn,↑fd,↑bl,~~~f,some d,v8,v9] M6:=by
   intro d S;unfold lg;simp! only[List.set,b6 _ _ hrf rn5];refine⟨by rfl',?_⟩;refine loop _ f hf (ps++[x]) 0 d v8 v9 M6 rfl b6 S ?_;intro d' v8 v9 M7 e7 S';dsimp only;unfold pQ;cases S' with
   |yes q hq=>
    simp! only[List.set];cases q<;>exact⟨trivial,put _ v8 v9 M7 e7 hq⟩
   |no h0 hb=>
    have b:=hb _ x (by simp) gx;have hc:∃s r,Came rows x.2 told f s r:=by
     rcases((R.end_ (eh ps x)).came R.heads f).1 b.1 with z | z
     ·rw[h0] at z;cases z
     ·exact z
    obtain⟨s,r,hc⟩:=hc;simp! only[List.set,e7 _ _ (b6 _ _ hbf g5),r5 f s r hc,List.cons_append,XA];refine⟨trivial,⟨by simp,by show 3<=sizeLine;omega⟩,?_⟩;exact put (.opn (s+1) r) v8 v9 M7 e7 ⟨h0,s,x,rfl,eh ps x,b.1,b.2,hc⟩
  unfold iq;simp! only[List.set];unfold pR;simp_all! only[List.set];refine⟨by omega,?_⟩;rw[PyProof.Rows.bitAnd_m1];show Bif (hasB (told:Int) (f:Int)) _ _;rw[bf];cases bt:told.testBit f with
  |true=>exact rest _ (.yes .told bt)
  |false=>exact rest _ (.no bt λi y hi=>absurd hi (Nat.not_lt_zero _))
 have key:∀(k n:Nat) (pps:ZN) (v6 v7 v8 v9:Zz) (M6:MH),n+k=m->pps.length=n->(∀f q,pps[f]?=some q->dQ rows told (ps++[x]) f q)->ExtBut fd M5 M6->M6 fd=some (.lst (pps.map Pap.D)) ->
   aq (λ_=>True) (.nm 6) (wSs cn iq) { nx:=wSs cn ld (fin Q),rt:=Q } (nats (List.range' n k)) [~~~m,↑p,~~~told,↑rn,↑fd,↑bl,v6,v7,v8,v9] M6:=by
  intro k;induction k with
  |zero=>
   intro n pps v6 v7 v8 v9 M6 hnk hl hp5 b6 d6;rw[List.range'_zero,show nats []=[] from rfl,aq];unfold ld;simp! only[];exact q fd (ps++[x]) pps M6 hfdM (ExtBut.ext e05 b6 hfdM) d6 ⟨R,by omega,hp5⟩
  |succ k ih=>
   intro n pps v6 v7 v8 v9 M6 hnk hl hp5 b6 d6;rw[List.range'_succ,show nats (n::List.range' (n+1) k)=⇑n::nats (List.range' (n+1) k) from rfl,aq];refine body _ n pps v7 v8 v9 M6 'b' hl b6 d6 ?_;intro q v7 v8 v9 M7 hq b7 d7;refine⟨trivial,ih (n+1) (pps++[q]) _ _ _ _ M7 'b' (by rw[ZJ,hl];rfl) (λf q' hf=>?_) b7 d7⟩;by_cases hfn:f<n
   ·rw[ZD 'b'] at hf
    exact hp5 f q' hf
   ·have hfl:=(YC.mp hf).1
    rw[ZJ,hl] at hfl;have:f=n:=by simp at hfl;omega
    subst this;rw[ZG 'b',hl,Nat.sub_self] at hf;cases hf;exact hq
 unfold pS;simp! only[List.set];refine⟨⟨by omega,by omega⟩,?_⟩;rw[ca,List.range_eq_range'];exact key m 0 [] none none none none M5 'b' rfl (λf q h=>by cases h) (ExtBut.refl _ _) d5
end
end SQ
namespace SH
open PySem L2 DD
def enP:Nat->List Pap->List (Nat×Pap)
 |_,[]=>[]
 |n,q::l=>(n,q)::enP (n+1) l
def tupP(x:Nat×Pap):D:=.tup [⇑x.1,x.2.D]
theorem ox:∀(n:Nat) (l:ZN),aS (n:Int) (l.map Pap.D)=(enP n l).map tupP
 |n,[]=>by rw[YW,aS];rfl
 |n,q::l=>by
  rw[YJ,aS,enP,YJ,←ox (n+1) l];rfl
theorem uF:∀(n:Nat) (l:ZN) (f:Nat) (q:Pap),(f,q)∈enP n l↔n<=f/\l[f-n]?=some q
 |n,[],f,q=>by rw[enP];simp
 |n,a::l,f,q=>by
  rw[enP,YA,uF (n+1) l f q];constructor
  ·rintro(h | ⟨h1,h2⟩)
   ·cases h
    exact⟨YE _,by rw[Nat.sub_self];rfl⟩
   ·refine⟨by omega,?_⟩
    rw[show f-n=(f-(n+1))+1 by omega];exact h2
  ·rintro⟨h1,h2⟩
   by_cases e:f=n
   ·subst e
    rw[Nat.sub_self] at h2;have h2:some a=some q:=h2;cases h2;exact .inl rfl
   ·refine .inr ⟨by omega,?_⟩
    rw[show f-n=(f-(n+1))+1 by omega] at h2;exact h2
def ones(pps:ZN)(p:Pap->Bool):List (Nat×Pap):=(enP 0 pps).filter λx=>p x.2
theorem er{pps:ZN}{p:Pap->Bool}{f:Nat}{q:Pap}:(f,q)∈ones pps p↔pps[f]?=some q/\p q=true:=by
 unfold ones;rw[ZV,uF,Nat.sub_zero];exact⟨λh=>⟨h.1.2,h.2⟩,λh=>⟨⟨YL _,h.1⟩,h.2⟩⟩
theorem lh{pps:ZN}{p r:Pap->Bool}:setN (((ones pps p).filter λx=>r x.2).map (·.1))=setP pps (λq=>p q&&r q):=by
 refine XY λf=>?_
 rw[Bool.eq_iff_iff,bg,XO,d8,XU];constructor
 ·rintro⟨⟨f',q⟩,h,rfl⟩
  rw[ZV,er] at h;exact⟨q,h.1.1,by rw[h.1.2,h.2];rfl⟩
 ·rintro⟨q,h1,h2⟩
  rw[YV] at h2;exact⟨(f,q),ZV.2 ⟨er.2 ⟨h1,h2.1⟩,h2.2⟩,rfl⟩
theorem iu{pps:ZN}{p r:Pap->Bool}(h:∀q,p q=r q):setP pps p=setP pps r:=by
 rw[show p=r from funext h]
theorem y0{pps:ZN}{p:Pap->Bool}:setN ((ones pps p).map (·.1))=setP pps p:=by
 have:=lh (pps:=pps) (p:=p) (r:=λ_=>true)
 rw[List.filter_eq_self.2 (λ_ _=>rfl)] at this;rw[this];exact iu λq=>Bool.and_true _
theorem et{g:MH->Prop}{t:Tgt}{c:WT}{e:WE}{F:List D->MH->Prop}{ok:DS->Prop}{M:MH}(p:Nat×Pap->Bool)(out:Nat×Pap->D):∀(l:List (Nat×Pap)) (acc:List D) (σ:DS),ok σ ->
  (∀x∈l,∀σ acc rest,ok σ->(∀σ',ok σ'->ax g t c e F rest (acc++cond (p x) [out x] []) σ' M)->ax g t c e F (tupP x::rest) acc σ M)->F (acc++(l.filter p).map out) M->ax g t c e F (l.map tupP) acc σ M
 |[],acc,σ,_,_,q=>by
  rw[List.filter_nil,YW,ZA] at q;exact q
 |x::l,acc,σ,h,st,q=>st x ZY σ acc _ h λσ' h'=>et p out l (acc++cond (p x) [out x] []) σ' h' (λy hy=>st y (.tail _ hy)) (by
  rw[XT] at q;cases e:p x with
  |true=>rw[e] at q;simpa using q
  |false=>rw[e] at q;simpa using q)
def jt:List Str:=["everything","true_ones","false_ones","open_ones","sure","not_false"]
def dw(pps:ZN)(p1 p2 p3:Addr):List (Str×D):=[("everything",.int ((2 ^ pps.length-1:Nat):Int)),("true_ones",.ref p1),("false_ones",.ref p2),("open_ones",.ref p3),("sure",.int ((setP pps Pap.isT:Nat):Int)),("not_false",.int ((au (2 ^ pps.length-1) (setP pps Pap.isF):Nat):Int))]
structure ClaimAt (W:Addr) (M:MH) (a:Addr) (pps:ZN):Prop where
 ex:∃p1 p2 p3,M a=some (.ins W (dw pps p1 p2 p3))/\M p1=some (.lst ((ones pps Pap.isT).map tupP))/\M p2=some (.lst ((ones pps Pap.isF).map tupP))/\M p3=some (.lst ((ones pps Pap.isO).map tupP))
theorem ClaimAt.ext{W:Addr}{M M':MH}{a:Addr}{pps:ZN}(e:Ext M M')(h:ClaimAt W M a pps):ClaimAt W M' a pps:=by
 obtain⟨p1,p2,p3,h1,h2,h3,h4⟩:=h;exact⟨p1,p2,p3,e _ _ h1,e _ _ h2,e _ _ h3,e _ _ h4⟩
def iw(W:Addr):SpD:=λds M Q=>∃(a b:Addr) (pps:ZN),ds=[.ref a,.ref b]/\M a=some (.ins W [])/\M b=some (.lst (pps.map Pap.D))/\pps.length<=120/\∀M',ExtBut a M M'->ClaimAt W M' a pps->Q .non M'
def fG(W:Addr):SpD:=λds M Q=>∃(a:Addr) (pps:ZN) (i s:Nat),ds=[.ref a,⇑i,⇑s]/\ClaimAt W M a pps/\pps.length<=120/\∀M',Ext M M'->Q (.int ((setP pps (cy i s):Nat):Int)) M'
def li(W:Addr):SpD:=λds M Q=>∃(a:Addr) (pps:ZN) (i:Nat),ds=[.ref a,⇑i]/\ClaimAt W M a pps/\pps.length<=120/\∀M',Ext M M'->Q (.int ((setP pps (pBy i):Nat):Int)) M'
def cY(W:Addr):SpD:=λds M Q=>∃(a:Addr) (pps:ZN) (i:Nat),ds=[.ref a,⇑i]/\ClaimAt W M a pps/\pps.length<=120/\∀M',Ext M M'->Q (.int ((au (2 ^ pps.length-1) (setP pps (pFls i)):Nat):Int)) M'
def fH(W:Addr):SpD:=λds M Q=>∃(a:Addr) (pps:ZN) (s:Nat),ds=[.ref a,⇑s]/\ClaimAt W M a pps/\pps.length<=120/\∀M',Ext M M'->Q (.int ((setP pps (pOpn s):Nat):Int)) M'
def lj:Ss:=#v[.setF (.var 0) "not_false" (.bin .BitAnd (.fld (.var 0) "everything") (.inv (.fn 0 #v[.comp 2 (.var 2) (.tp [2,3]) (.seq (.fld (.var 0) "false_ones")) .no])))]
def lm:Ss:=.cons (.setF (.var 0) "sure" (.fn 0 #v[.comp 2 (.var 2) (.tp [2,3]) (.seq (.fld (.var 0) "true_ones")) .no])) lj
def lq:Ss:=.cons (.setF (.var 0) "open_ones" (.comp 2 (.tup #v[.var 2,.var 3]) (.tp [2,3]) (.enum #v[.var 1]) (.yes (.cmp .Eq (.ix (.var 3) (.int 0)) (.str "open"))))) lm
def lr:Ss:=.cons (.setF (.var 0) "false_ones" (.comp 2 (.tup #v[.var 2,.var 3]) (.tp [2,3]) (.enum #v[.var 1]) (.yes (.cmp .Eq (.ix (.var 3) (.int 0)) (.str "false"))))) lq
def lu:Ss:=.cons (.setF (.var 0) "true_ones" (.comp 2 (.tup #v[.var 2,.var 3]) (.tp [2,3]) (.enum #v[.var 1]) (.yes (.cmp .Eq (.ix (.var 3) (.int 0)) (.str "true"))))) lr
def i9:Ss:=.cons (.setF (.var 0) "everything" (.fn 1 #v[.bi .len #v[.var 1]])) lu
def dk:Ss:=#v[.ret (.fn 0 #v[.comp 2 (.var 3) (.tp [3,4]) (.seq (.fld (.var 0) "true_ones")) (.yes (.cmp .Lt (.sl (.var 4) (.yes (.int 1)) (.yes (.int 3))) (.tup #v[.var 1,.var 2])))])]
def ce:Ss:=#v[.ret (.fn 0 #v[.comp 2 (.var 2) (.tp [2,3]) (.seq (.fld (.var 0) "true_ones")) (.yes (.cmp .Lt (.ix (.var 3) (.int 1)) (.var 1)))])]
def cI:Ss:=#v[.ret (.bin .BitAnd (.fld (.var 0) "everything") (.inv (.fn 0 #v[.comp 2 (.var 2) (.tp [2,3]) (.seq (.fld (.var 0) "false_ones")) (.yes (.cmp .LtE (.ix (.var 3) (.int 1)) (.var 1)))])))]
def dl:Ss:=#v[.ret (.fn 0 #v[.comp 2 (.var 2) (.tp [2,3]) (.seq (.fld (.var 0) "open_ones")) (.yes (.cmp .Lt (.ix (.var 3) (.int 1)) (.var 1)))])]
abbrev cF1(x:D):List (Str×D):=[("everything",x)]
abbrev cF2(x y:D):List (Str×D):=[("everything",x),("true_ones",y)]
abbrev cF3(x y z:D):List (Str×D):=[("everything",x),("true_ones",y),("false_ones",z)]
abbrev cF4(x y z u:D):List (Str×D):=[("everything",x),("true_ones",y),("false_ones",z),("open_ones",u)]
abbrev cF5(x y z u v:D):List (Str×D):=[("everything",x),("true_ones",y),("false_ones",z),("open_ones",u),("sure",v)]
theorem cp0(x:D):bJ ("everything" : Str) x []=cF1 x:=rfl
theorem cp1(x y:D):bJ ("true_ones" : Str) y (cF1 x)=cF2 x y:=rfl
theorem cp2(x y z:D):bJ ("false_ones" : Str) z (cF2 x y)=cF3 x y z:=rfl
theorem cp3(x y z u:D):bJ ("open_ones" : Str) u (cF3 x y z)=cF4 x y z u:=rfl
theorem cp4(x y z u v:D):bJ ("sure" : Str) v (cF4 x y z u)=cF5 x y z u v:=rfl
theorem cp5(x y z u v w:D):bJ ("not_false" : Str) w (cF5 x y z u v)=([("everything",x),("true_ones",y),("false_ones",z),("open_ones",u),("sure",v),("not_false",w)]:List (Str×D)):=rfl
theorem cl4(x y z u:D):List.lookup ("true_ones" : Str) (cF4 x y z u)=some y:=rfl
theorem cl5(x y z u v:D):List.lookup ("false_ones" : Str) (cF5 x y z u v)=some z:=rfl
theorem cl5e(x y z u v:D):List.lookup ("everything" : Str) (cF5 x y z u v)=some x:=rfl
def papW:Pap->Str
 |.told=>"true"
 |.tru ..=>"true"
 |.fls _=>"false"
 |.opn ..=>"open"
section
variable {pps:ZN}{p1 p2 p3:Addr}
theorem oy:(dw pps p1 p2 p3).lookup ("everything" : Str)=some (.int ((2 ^ pps.length-1:Nat):Int)):=rfl
theorem y7:(dw pps p1 p2 p3).lookup ("true_ones" : Str)=↑p1:=rfl
theorem Dt:(dw pps p1 p2 p3).lookup ("false_ones" : Str)=↑p2:=rfl
theorem Fv:(dw pps p1 p2 p3).lookup ("open_ones" : Str)=↑p3:=rfl
theorem qC:(dw pps p1 p2 p3).lookup ("sure" : Str)=some (.int ((setP pps Pap.isT:Nat):Int)):=rfl
theorem Hc:(dw pps p1 p2 p3).lookup ("not_false" : Str)=some (.int ((au (2 ^ pps.length-1) (setP pps Pap.isF):Nat):Int)):=rfl
theorem Du:(dw pps p1 p2 p3).lookup ("true_ahead" : Str)=none:=rfl
theorem Id:(dw pps p1 p2 p3).lookup ("true_by_rounds" : Str)=none:=rfl
theorem BS:(dw pps p1 p2 p3).lookup ("not_false_by" : Str)=none:=rfl
theorem Fw:(dw pps p1 p2 p3).lookup ("open_ahead" : Str)=none:=rfl
end
theorem oz{pps:ZN}{p:Pap->Bool}{r:Nat×Pap->Bool}(h:pps.length<=120):∀f∈((ones pps p).filter r).map (·.1),f<=1000:=by
 intro f hf;obtain⟨⟨f',q⟩,hx,rfl⟩:=XU.1 hf
 have:=(YC.mp (er.1 (ZV.1 hx).1).1).1
 dsimp only;omega
theorem ju(l:List (Nat×Pap)):(l.map λx=>D.int (x.1:Int))=nats (l.map (·.1)):=by
 unfold nats;rw[ZL];rfl
theorem Hd(q:Pap):(papW q == "true")=q.isT:=by
 cases q with
 |told=>exact(by rfl':(("true" : Str) == "true")=true)
 |tru _ _ _=>exact(by rfl':(("true" : Str) == "true")=true)
 |fls _=>exact(by rfl':(("false" : Str) == "true")=false)
 |opn _ _=>exact(by rfl':(("open" : Str) == "true")=false)
theorem Fx(q:Pap):(papW q == "false")=q.isF:=by
 cases q with
 |told=>exact(by rfl':(("true" : Str) == "false")=false)
 |tru _ _ _=>exact(by rfl':(("true" : Str) == "false")=false)
 |fls _=>exact(by rfl':(("false" : Str) == "false")=true)
 |opn _ _=>exact(by rfl':(("open" : Str) == "false")=false)
theorem He(q:Pap):(papW q == "open")=q.isO:=by
 cases q with
 |told=>exact(by rfl':(("true" : Str) == "open")=false)
 |tru _ _ _=>exact(by rfl':(("true" : Str) == "open")=false)
 |fls _=>exact(by rfl':(("false" : Str) == "open")=false)
 |opn _ _=>exact(by rfl':(("open" : Str) == "open")=true)
section
variable {cn:Cn}{ds:List D}{M:MH}{Q:DK}{W:Addr}
theorem Ah(hO:∀f∈jt,cn.O W f)(f0:cn.F.getD 0 Yl=bu)(h:li W ds M Q):wSs cn ce (fin Q) (af ["",""] ds) M:=by
 obtain⟨a,pps,i,rfl,⟨p1,p2,p3,h1,h2,h3,h4⟩,hl,q⟩:=h;show wSs cn ce (fin Q) [↑a,~~~i] M;unfold ce;simp! only[List.cons_append,XA,List.replicate,h1,oy,y7,h2,f0];refine⟨hO _ 'e',?_⟩;refine et (λx=>pBy i x.2) (λx=>⇑x.1) (ok:=λσ=>∃v w,σ=[↑a,~~~i,v,w]) (ones pps Pap.isT) [] _ ⟨none,none,rfl⟩ ?_ ?_
 ·intro x hx σ acc rest ⟨v,w,hv⟩ kk
  subst hv;have k1:=kk _ ⟨~~~x.1,some x.2.D,rfl⟩;obtain⟨f,q⟩:=x;have hq:=(er.1 hx).2;refine⟨rfl,?_⟩;cases q with
  |told=>
   have hb:decide ((0:Int)<(i:Int))=pBy i (.told):=decide_eq_decide.2 'b';show Bif (decide ((0:Int)<(i:Int))) _ _;rw[hb];have k1:ax _ _ _ _ _ _ (acc++cond (pBy i (.told)) [D.int (f:Int)] []) _ _:=k1;cases e:pBy i (.told) with
   |true=>rw[e] at k1;exact⟨h2,k1⟩
   |false=>rw[e,cond_false,ZA] at k1;exact⟨h2,k1⟩
  |tru i' s' r'=>
   have hb:decide ((i':Int)<(i:Int))=pBy i (.tru i' s' r'):=decide_eq_decide.2 'b';show Bif (decide ((i':Int)<(i:Int))) _ _;rw[hb];have k1:ax _ _ _ _ _ _ (acc++cond (pBy i (.tru i' s' r')) [D.int (f:Int)] []) _ _:=k1;cases e:pBy i (.tru i' s' r') with
   |true=>rw[e] at k1;exact⟨h2,k1⟩
   |false=>rw[e,cond_false,ZA] at k1;exact⟨h2,k1⟩
  |fls _=>cases hq
  |opn _ _=>cases hq
 ·intro p hp
  rw[XA,ju];refine⟨.ref p,_,_,rfl,.inr ⟨p,rfl,.inl ⟨aa,rfl⟩⟩,oz hl,?_⟩;rw[lh (r:=pBy i),iu (r:=pBy i) λq=>by cases q<;>simp[Pap.isT,pBy]];exact q _ (Ext.new hp)
theorem vA(hO:∀f∈jt,cn.O W f)(f0:cn.F.getD 0 Yl=bu)(h:fG W ds M Q):wSs cn dk (fin Q) (af ["","",""] ds) M:=by
 obtain⟨a,pps,i,s,rfl,⟨p1,p2,p3,h1,h2,h3,h4⟩,hl,q⟩:=h;show wSs cn dk (fin Q) [↑a,~~~i,~~~s] M;unfold dk;simp! only[List.cons_append,XA,List.replicate,h1,oy,y7,h2,f0];refine⟨hO _ 'e',?_⟩;refine et (λx=>cy i s x.2) (λx=>⇑x.1) (ok:=λσ=>∃v w,σ=[↑a,~~~i,~~~s,v,w]) (ones pps Pap.isT) [] _ ⟨none,none,rfl⟩ ?_ ?_
 ·intro x hx σ acc rest ⟨v,w,hv⟩ kk
  subst hv;have k1:=kk _ ⟨~~~x.1,some x.2.D,rfl⟩;obtain⟨f,q⟩:=x;have hq:=(er.1 hx).2;refine⟨rfl,?_⟩;cases q with
  |told=>
   have hb:decide ((0:Int)<(i:Int)\/(0:Int)=(i:Int)/\(0:Int)<(s:Int))=cy i s (.told):=decide_eq_decide.2 'b';show Bif (decide ((0:Int)<(i:Int)\/(0:Int)=(i:Int)/\(0:Int)<(s:Int))) _ _;rw[hb];have k1:ax _ _ _ _ _ _ (acc++cond (cy i s (.told)) [D.int (f:Int)] []) _ _:=k1;cases e:cy i s (.told) with
   |true=>rw[e] at k1;exact⟨h2,k1⟩
   |false=>rw[e,cond_false,ZA] at k1;exact⟨h2,k1⟩
  |tru i' s' r'=>
   have hb:decide ((i':Int)<(i:Int)\/(i':Int)=(i:Int)/\(s':Int)<(s:Int))=cy i s (.tru i' s' r'):=decide_eq_decide.2 'b';show Bif (decide ((i':Int)<(i:Int)\/(i':Int)=(i:Int)/\(s':Int)<(s:Int))) _ _;rw[hb];have k1:ax _ _ _ _ _ _ (acc++cond (cy i s (.tru i' s' r')) [D.int (f:Int)] []) _ _:=k1;cases e:cy i s (.tru i' s' r') with
   |true=>rw[e] at k1;exact⟨h2,k1⟩
   |false=>rw[e,cond_false,ZA] at k1;exact⟨h2,k1⟩
  |fls _=>cases hq
  |opn _ _=>cases hq
 ·intro p hp
  rw[XA,ju];refine⟨.ref p,_,_,rfl,.inr ⟨p,rfl,.inl ⟨aa,rfl⟩⟩,oz hl,?_⟩;rw[lh (r:=cy i s),iu (r:=cy i s) λq=>by cases q<;>simp[Pap.isT,cy]];exact q _ (Ext.new hp)
theorem vB(hO:∀f∈jt,cn.O W f)(f0:cn.F.getD 0 Yl=bu)(h:fH W ds M Q):wSs cn dl (fin Q) (af ["",""] ds) M:=by
 obtain⟨a,pps,s,rfl,⟨p1,p2,p3,h1,h2,h3,h4⟩,hl,q⟩:=h;show wSs cn dl (fin Q) [↑a,~~~s] M;unfold dl;simp! only[List.cons_append,XA,List.replicate,h1,oy,Fv,h4,f0];refine⟨hO _ 'e',?_⟩;refine et (λx=>pOpn s x.2) (λx=>⇑x.1) (ok:=λσ=>∃v w,σ=[↑a,~~~s,v,w]) (ones pps Pap.isO) [] _ ⟨none,none,rfl⟩ ?_ ?_
 ·intro x hx σ acc rest ⟨v,w,hv⟩ kk
  subst hv;have k1:=kk _ ⟨~~~x.1,some x.2.D,rfl⟩;obtain⟨f,q⟩:=x;have hq:=(er.1 hx).2;refine⟨rfl,?_⟩;cases q with
  |told=>cases hq
  |tru _ _ _=>cases hq
  |fls _=>cases hq
  |opn s' r'=>
   have hb:decide ((s':Int)<(s:Int))=pOpn s (.opn s' r'):=decide_eq_decide.2 'b';show Bif (decide ((s':Int)<(s:Int))) _ _;rw[hb];have k1:ax _ _ _ _ _ _ (acc++cond (pOpn s (.opn s' r')) [D.int (f:Int)] []) _ _:=k1;cases e:pOpn s (.opn s' r') with
   |true=>rw[e] at k1;exact⟨h4,k1⟩
   |false=>rw[e,cond_false,ZA] at k1;exact⟨h4,k1⟩
 ·intro p hp
  rw[XA,ju];refine⟨.ref p,_,_,rfl,.inr ⟨p,rfl,.inl ⟨aa,rfl⟩⟩,oz hl,?_⟩;rw[lh (r:=pOpn s),iu (r:=pOpn s) λq=>by cases q<;>simp[Pap.isO,pOpn]];exact q _ (Ext.new hp)
theorem tP(hO:∀f∈jt,cn.O W f)(f0:cn.F.getD 0 Yl=bu)(h:cY W ds M Q):wSs cn cI (fin Q) (af ["",""] ds) M:=by
 obtain⟨a,pps,i,rfl,⟨p1,p2,p3,h1,h2,h3,h4⟩,hl,q⟩:=h;show wSs cn cI (fin Q) [↑a,~~~i] M;unfold cI;simp! only[wInv,List.cons_append,XA,List.replicate,h1,oy,Dt,h3,f0];refine⟨hO _ 'e',hO _ 'e',?_⟩;refine et (λx=>pFls i x.2) (λx=>⇑x.1) (ok:=λσ=>∃v w,σ=[↑a,~~~i,v,w]) (ones pps Pap.isF) [] _ ⟨none,none,rfl⟩ ?_ ?_
 ·intro x hx σ acc rest ⟨v,w,hv⟩ kk
  subst hv;have k1:=kk _ ⟨~~~x.1,some x.2.D,rfl⟩;obtain⟨f,q⟩:=x;have hq:=(er.1 hx).2;refine⟨rfl,?_⟩;cases q with
  |told=>cases hq
  |tru _ _ _=>cases hq
  |fls i'=>
   have hb:decide ((i':Int)<=(i:Int))=pFls i (.fls i'):=decide_eq_decide.2 'b';show Bif (decide ((i':Int)<=(i:Int))) _ _;rw[hb];have k1:ax _ _ _ _ _ _ (acc++cond (pFls i (.fls i')) [D.int (f:Int)] []) _ _:=k1;cases e:pFls i (.fls i') with
   |true=>rw[e] at k1;exact⟨h3,k1⟩
   |false=>rw[e,cond_false,ZA] at k1;exact⟨h3,k1⟩
  |opn _ _=>cases hq
 ·intro p hp
  rw[XA,ju];refine⟨.ref p,_,_,rfl,.inr ⟨p,rfl,.inl ⟨aa,rfl⟩⟩,oz hl,?_⟩;rw[lh (r:=pFls i),iu (r:=pFls i) λq=>by cases q<;>simp[Pap.isF,pFls]];simp only[wInv,eI];exact q _ (Ext.new hp)
theorem uG(hO:∀f∈jt,cn.O W f)(f0:cn.F.getD 0 Yl=bu)(f1:cn.F.getD 1 Yl=cu)(h:iw W ds M Q):wSs cn i9 (fin Q) (af ["",""] ds) M:=by
 obtain⟨a,b,pps,rfl,ha,hb,hl,q⟩:=h;show wSs cn i9 (fin Q) [↑a,↑b] M;have hba:b≠a:=λz=>by rw[z,ha] at hb;cases hb
 have comp:∀(K:Str) (pr:Pap->Bool),(∀q,(papW q==K)=pr q)->∀(F:List D->MH->Prop) (M5:MH),M5 b=some (.lst (pps.map Pap.D))->F ((ones pps pr).map tupP) M5 ->
   ax (λM'=>M' b=some (.lst (pps.map Pap.D))) (.tp [2,3]) (wTo cn (.yes (.cmp .Eq (.ix (.var 3) (.int 0)) (.str K)))) (wE cn (.tup (.cons (.var 2) (.cons (.var 3) .nil)))) F (aS 0 (pps.map Pap.D)) [] [↑a,↑b,none,none] M5:=by
  intro K pr hp F M5 h5 hF;rw[show(0:Int)=((0:Nat):Int) from rfl,ox];refine et (λx=>pr x.2) tupP (ok:=λσ=>∃v w,σ=[↑a,↑b,v,w]) (enP 0 pps) [] _ ⟨none,none,rfl⟩ ?_ hF
  ·intro x hx σ acc rest ⟨v,w,hv⟩ kk
   subst hv;have k1:=kk _ ⟨~~~x.1,some x.2.D,rfl⟩;obtain⟨f,q⟩:=x;refine⟨rfl,?_⟩;cases q with
   |told=>
    refine⟨⟨rfl,rfl,(by decide:(0:Nat)<=30)⟩,?_⟩;show Bif (eqD (.str "true") (.str K)) _ _;have hK:(("true" : Str)==K)=pr (.told):=hp (.told);rw[ac,hK];have k1:ax _ _ _ _ _ _ (acc++cond (pr (.told)) [tupP (f,.told)] []) _ _:=k1;cases e:pr (.told) with
    |true=>rw[e] at k1;exact⟨h5,k1⟩
    |false=>rw[e,cond_false,ZA] at k1;exact⟨h5,k1⟩
   |tru i s r=>
    refine⟨⟨rfl,rfl,(by decide:(0:Nat)<=30)⟩,?_⟩;show Bif (eqD (.str "true") (.str K)) _ _;have hK:(("true" : Str)==K)=pr (.tru i s r):=hp (.tru i s r);rw[ac,hK];have k1:ax _ _ _ _ _ _ (acc++cond (pr (.tru i s r)) [tupP (f,.tru i s r)] []) _ _:=k1;cases e:pr (.tru i s r) with
    |true=>rw[e] at k1;exact⟨h5,k1⟩
    |false=>rw[e,cond_false,ZA] at k1;exact⟨h5,k1⟩
   |fls i=>
    refine⟨⟨rfl,rfl,(by decide:(0:Nat)<=30)⟩,?_⟩;show Bif (eqD (.str "false") (.str K)) _ _;have hK:(("false" : Str)==K)=pr (.fls i):=hp (.fls i);rw[ac,hK];have k1:ax _ _ _ _ _ _ (acc++cond (pr (.fls i)) [tupP (f,.fls i)] []) _ _:=k1;cases e:pr (.fls i) with
    |true=>rw[e] at k1;exact⟨h5,k1⟩
    |false=>rw[e,cond_false,ZA] at k1;exact⟨h5,k1⟩
   |opn s r=>
    refine⟨⟨rfl,rfl,(by decide:(0:Nat)<=30)⟩,?_⟩;show Bif (eqD (.str "open") (.str K)) _ _;have hK:(("open" : Str)==K)=pr (.opn s r):=hp (.opn s r);rw[ac,hK];have k1:ax _ _ _ _ _ _ (acc++cond (pr (.opn s r)) [tupP (f,.opn s r)] []) _ _:=k1;cases e:pr (.opn s r) with
    |true=>rw[e] at k1;exact⟨h5,k1⟩
    |false=>rw[e,cond_false,ZA] at k1;exact⟨h5,k1⟩
 have facts:∀(pr:Pap->Bool) (lp:Addr) (F:List D->MH->Prop) (M5:MH),M5 lp=some (.lst ((ones pps pr).map tupP))->F (nats ((ones pps pr).map (·.1))) M5 ->
   ax (λM'=>M' lp=some (.lst ((ones pps pr).map tupP))) (.tp [2,3]) (wTo cn .no) (wE cn (.var 2)) F ((ones pps pr).map tupP) [] [↑a,↑b,none,none] M5:=by
  intro pr lp F M5 h5 hF;refine et (λ_=>true) (λx=>⇑x.1) (ok:=λσ=>∃v w,σ=[↑a,↑b,v,w]) (ones pps pr) [] _ ⟨none,none,rfl⟩ ?_ ?_
  ·intro x hx σ acc rest ⟨v,w,hv⟩ kk
   subst hv;exact⟨rfl,h5,kk _ ⟨~~~x.1,some x.2.D,rfl⟩⟩
  ·rw[XA,List.filter_eq_self.2 (λ_ _=>rfl),ju]
   exact hF
 have le:∀(pr:Pap->Bool),∀f∈(ones pps pr).map (·.1),f<=1000:=λpr f hf=>by
  obtain⟨⟨f',q⟩,hx,rfl⟩:=XU.1 hf
  have:=(YC.mp (er.1 hx).1).1
  dsimp only;omega
 have c0:=ExtBut.refl a M;unfold i9;simp! only[List.set,hb,ZE,f1];refine⟨pps.length,rfl,by omega,?_⟩;simp only[ha,cp0];refine⟨⟨hO _ 'e',(by decide:(0:Nat)<1000)⟩,?_⟩;have x:ExtBut a M (updM M a (.ins W (cF1 (.int ((2 ^ pps.length-1:Nat):Int))))):=ExtBut.upd _ _ _;have y:updM M a (MO.ins W (cF1 (.int ((2 ^ pps.length-1:Nat):Int)))) a=some (.ins W (cF1 (.int ((2 ^ pps.length-1:Nat):Int)))):=aa;generalize updM M a (MO.ins W (cF1 (.int ((2 ^ pps.length-1:Nat):Int))))=M1 at *;have c0:=c0.trans x;unfold lu;simp! only[List.cons_append,XA,List.replicate,c0 _ _ hba hb];refine comp "true" Pap.isT Hd _ M1 (c0 _ _ hba hb) ?_;intro p1 hp1;have hap1:p1≠a:=(bd y hp1).symm;have x:Ext M1 (updM M1 p1 (.lst ((ones pps Pap.isT).map tupP))):=Ext.new hp1;have gp1:updM M1 p1 (MO.lst ((ones pps Pap.isT).map tupP)) p1=some (.lst ((ones pps Pap.isT).map tupP)):=aa;generalize updM M1 p1 (MO.lst ((ones pps Pap.isT).map tupP))=M2 at *;have c0:=c0.trans x.but;have y:=x _ _ y;have c1:=ExtBut.refl a M2;simp only[y,cp1];refine⟨⟨hO _ 'e',(by decide:(1:Nat)<1000)⟩,?_⟩;have x:ExtBut a M2 (updM M2 a (.ins W (cF2 (.int ((2 ^ pps.length-1:Nat):Int)) (.ref p1)))):=ExtBut.upd _ _ _;have y:updM M2 a (MO.ins W (cF2 (.int ((2 ^ pps.length-1:Nat):Int)) (.ref p1))) a=some (.ins W (cF2 (.int ((2 ^ pps.length-1:Nat):Int)) (.ref p1))):=aa;generalize updM M2 a (MO.ins W (cF2 (.int ((2 ^ pps.length-1:Nat):Int)) (.ref p1)))=M3 at *;have c0:=c0.trans x;have c1:=c1.trans x;unfold lr;simp! only[List.cons_append,XA,List.replicate,c0 _ _ hba hb];refine comp "false" Pap.isF Fx _ M3 (c0 _ _ hba hb) ?_;intro p2 hp2;have hap2:p2≠a:=(bd y hp2).symm;have x:Ext M3 (updM M3 p2 (.lst ((ones pps Pap.isF).map tupP))):=Ext.new hp2;have gp2:updM M3 p2 (MO.lst ((ones pps Pap.isF).map tupP)) p2=some (.lst ((ones pps Pap.isF).map tupP)):=aa;generalize updM M3 p2 (MO.lst ((ones pps Pap.isF).map tupP))=M4 at *;have c0:=c0.trans x.but;have c1:=c1.trans x.but;have y:=x _ _ y;have c2:=ExtBut.refl a M4;simp only[y,cp2];refine⟨⟨hO _ 'e',(by decide:(2:Nat)<1000)⟩,?_⟩;have x:ExtBut a M4 (updM M4 a (.ins W (cF3 (.int ((2 ^ pps.length-1:Nat):Int)) (.ref p1) (.ref p2)))):=ExtBut.upd _ _ _;have y:updM M4 a (MO.ins W (cF3 (.int ((2 ^ pps.length-1:Nat):Int)) (.ref p1) (.ref p2))) a=some (.ins W (cF3 (.int ((2 ^ pps.length-1:Nat):Int)) (.ref p1) (.ref p2))):=aa;generalize updM M4 a (MO.ins W (cF3 (.int ((2 ^ pps.length-1:Nat):Int)) (.ref p1) (.ref p2)))=M5 at *;have c0:=c0.trans x;have c1:=c1.trans x;have c2:=c2.trans x;unfold lq;simp! only[List.cons_append,XA,List.replicate,c0 _ _ hba hb];refine comp "open" Pap.isO He _ M5 (c0 _ _ hba hb) ?_;intro p3 hp3;have hap3:p3≠a:=(bd y hp3).symm;have x:Ext M5 (updM M5 p3 (.lst ((ones pps Pap.isO).map tupP))):=Ext.new hp3;have gp3:updM M5 p3 (MO.lst ((ones pps Pap.isO).map tupP)) p3=some (.lst ((ones pps Pap.isO).map tupP)):=aa;generalize updM M5 p3 (MO.lst ((ones pps Pap.isO).map tupP))=M6 at *;have c0:=c0.trans x.but;have c1:=c1.trans x.but;have c2:=c2.trans x.but;have y:=x _ _ y;have c3:=ExtBut.refl a M6;simp only[y,cp3];refine⟨⟨hO _ 'e',(by decide:(3:Nat)<1000)⟩,?_⟩;have x:ExtBut a M6 (updM M6 a (.ins W (cF4 (.int ((2 ^ pps.length-1:Nat):Int)) (.ref p1) (.ref p2) (.ref p3)))):=ExtBut.upd _ _ _;have y:updM M6 a (MO.ins W (cF4 (.int ((2 ^ pps.length-1:Nat):Int)) (.ref p1) (.ref p2) (.ref p3))) a=some (.ins W (cF4 (.int ((2 ^ pps.length-1:Nat):Int)) (.ref p1) (.ref p2) (.ref p3))):=aa;generalize updM M6 a (MO.ins W (cF4 (.int ((2 ^ pps.length-1:Nat):Int)) (.ref p1) (.ref p2) (.ref p3)))=M7 at *;have c0:=c0.trans x;have c1:=c1.trans x;have c2:=c2.trans x;have c3:=c3.trans x;unfold lm;simp! only[List.cons_append,XA,List.replicate,y,cl4,c1 _ _ hap1 gp1,f0];refine⟨hO _ 'e',?_⟩;refine facts Pap.isT p1 _ M7 (c1 _ _ hap1 gp1) ?_;intro lp hlp;refine⟨.ref lp,_,_,rfl,.inr ⟨lp,rfl,.inl ⟨aa,rfl⟩⟩,le Pap.isT,?_⟩;have x:Ext M7 (updM M7 lp (.lst (nats ((ones pps Pap.isT).map (·.1))))):=Ext.new hlp;generalize updM M7 lp (MO.lst (nats ((ones pps Pap.isT).map (·.1))))=M8 at *;have c0:=c0.trans x.but;have c1:=c1.trans x.but;have c2:=c2.trans x.but;have c3:=c3.trans x.but;have y:=x _ _ y;rw[y0];simp only[y,cp4];refine⟨⟨hO _ 'e',(by decide:(4:Nat)<1000)⟩,?_⟩;have x:ExtBut a M8 (updM M8 a (.ins W (cF5 (.int ((2 ^ pps.length-1:Nat):Int)) (.ref p1) (.ref p2) (.ref p3) (.int ((setP pps Pap.isT:Nat):Int))))):=ExtBut.upd _ _ _;have y:updM M8 a (MO.ins W (cF5 (.int ((2 ^ pps.length-1:Nat):Int)) (.ref p1) (.ref p2) (.ref p3) (.int ((setP pps Pap.isT:Nat):Int)))) a=some (.ins W (cF5 (.int ((2 ^ pps.length-1:Nat):Int)) (.ref p1) (.ref p2) (.ref p3) (.int ((setP pps Pap.isT:Nat):Int)))):=aa;generalize updM M8 a (MO.ins W (cF5 (.int ((2 ^ pps.length-1:Nat):Int)) (.ref p1) (.ref p2) (.ref p3) (.int ((setP pps Pap.isT:Nat):Int))))=M9 at *;have c0:=c0.trans x;have c1:=c1.trans x;have c2:=c2.trans x;have c3:=c3.trans x;unfold lj;simp! only[wInv,List.cons_append,XA,List.replicate,y,cl5,cl5e,c2 _ _ hap2 gp2,f0];refine⟨hO _ 'e',hO _ 'e',?_⟩;refine facts Pap.isF p2 _ M9 (c2 _ _ hap2 gp2) ?_;intro lp hlp;refine⟨.ref lp,_,_,rfl,.inr ⟨lp,rfl,.inl ⟨aa,rfl⟩⟩,le Pap.isF,?_⟩;have x:Ext M9 (updM M9 lp (.lst (nats ((ones pps Pap.isF).map (·.1))))):=Ext.new hlp;generalize updM M9 lp (MO.lst (nats ((ones pps Pap.isF).map (·.1))))=M10 at *;have c0:=c0.trans x.but;have c1:=c1.trans x.but;have c2:=c2.trans x.but;have c3:=c3.trans x.but;have y:=x _ _ y;rw[y0];simp only[wInv,eI,y,cp5];refine⟨⟨hO _ 'e',(by decide:(5:Nat)<1000)⟩,?_⟩;have x:=ExtBut.upd a M10 (.ins W (dw pps p1 p2 p3));exact q _ (c0.trans x) ⟨p1,p2,p3,aa,(c1.trans x) _ _ hap1 gp1,(c2.trans x) _ _ hap2 gp2,(c3.trans x) _ _ hap3 gp3⟩
end
end SH
namespace SQ
open PySem L2 DD
open SH
def fS:Ss:=#v[.ret (.bl true)]
def dy:Ss:=#v[.ite (.and (.cmp .IsNot (.var 3) .non) (.or (.not (.val (.bi .isinst #v[.var 3,.ty "int"]))) (.val (.bi .isinst #v[.var 3,.ty "bool"])))) #v[.ret (.bl false)] .nil]
def fT:Ss:=#v[.for (.nm 3) (.seq (.sl (.var 2) (.yes (.int 1)) .no)) dy]
def o3:Ss:=.cons (.for (.nm 2) (.seq (.var 0)) fT) fS
def mR:Ss:=.cons (.ite (.or (.not (.val (.bi .isinst #v[.var 0,.ty "list"]))) (.cmp .NotEq (.var 0) (.var 1))) #v[.ret (.bl false)] .nil) o3
def l9:SpD:=λds M Q=>∃(a b:Addr) (pps:ZN),ds=[.ref a,.ref b]/\M a=some (.lst (pps.map Pap.D))/\M b=some (.lst (pps.map Pap.D))/\Q (.bl true) M
theorem Dv(q:Pap):aM q.D=true:=by cases q<;>rfl
theorem Fy(q:Pap):depD q.D<=1:=by cases q<;>exact YE _
theorem ma:∀l:List Pap,aO (l.map Pap.D)=true
 |[]=>rfl
 |y::l=>by rw[YJ,aO,ma l,Dv];rfl
theorem xC:∀l:List Pap,bz (l.map Pap.D)<=1
 |[]=>YL _
 |y::l=>by
  rw[YJ,bz]
  have:=xC l
  have:=Fy y
  omega
def papT:Pap->List D
 |.told=>[.int 0,.int 0,.non]
 |.tru i s r=>[⇑i,⇑s,⇑r]
 |.fls i=>[⇑i]
 |.opn s r=>[⇑s,⇑r]
theorem Ie(q:Pap):q.D=.tup (.str (papW q)::papT q):=by cases q<;>rfl
theorem cut1{α:Type}(x:α)(xs:List α):cutL (x::xs) (some 1) none=xs:=by
 unfold cutL;have h1:HT.sIx (x::xs).length 0 (some 1)=1:=by unfold HT.sIx;simp;try omega
 have h2:HT.sIx (x::xs).length (x::xs).length none=(x::xs).length:=rfl;rw[h1,h2,List.drop_one,List.tail_cons];exact List.take_of_length_le (by simp)
theorem Dw(q:Pap):∀d∈papT q,d=.non \/ ∃i:Int,d=.int i:=by
 intro d hd;cases q with
 |told=>
  rcases YA.1 hd with rfl | hd
  ·exact .inr ⟨_,rfl⟩
  ·rcases YA.1 hd with rfl | hd
   ·exact .inr ⟨_,rfl⟩
   ·rcases YA.1 hd with rfl | hd
    ·exact .inl rfl
    ·cases hd
 |tru i s r=>
  rcases YA.1 hd with rfl | hd
  ·exact .inr ⟨_,rfl⟩
  ·rcases YA.1 hd with rfl | hd
   ·exact .inr ⟨_,rfl⟩
   ·rcases YA.1 hd with rfl | hd
    ·exact .inr ⟨_,rfl⟩
    ·cases hd
 |fls i=>
  rcases YA.1 hd with rfl | hd
  ·exact .inr ⟨_,rfl⟩
  ·cases hd
 |opn s r=>
  rcases YA.1 hd with rfl | hd
  ·exact .inr ⟨_,rfl⟩
  ·rcases YA.1 hd with rfl | hd
   ·exact .inr ⟨_,rfl⟩
   ·cases hd
section
variable {cn:Cn}{ds:List D}{M:MH}{Q:DK}
theorem yj(h:l9 ds M Q):wSs cn mR (fin Q) (af ["","","",""] ds) M:=by
 obtain⟨a,b,pps,rfl,ha,hb,q⟩:=h;show wSs cn mR (fin Q) [↑a,↑b,none,none] M;have last:∀(v2 v3:Zz),wSs cn fS (fin Q) [↑a,↑b,v2,v3] M:=by
  intro v2 v3;unfold fS;simp! only[];exact q
 have num:∀(E:EndsD) (v2:Zz) (d:D),(d=.non \/ ∃i:Int,d=.int i)->E.nx [↑a,↑b,v2,some d] M->wSs cn dy E [↑a,↑b,v2,some d] M:=by
  intro E v2 d hd kk;rcases hd with rfl | ⟨i,rfl⟩
  ·unfold dy
   simp! only[tyD,tysD];exact⟨trivial,kk⟩
  ·unfold dy
   simp! only[tyD,tysD];refine⟨trivial,?_⟩;rw[Bool.not_false,aH];refine⟨by decide,?_⟩;rw[show isT "int" "int" = true by decide];simp only[XV,ao];refine⟨by decide,?_⟩;rw[show isT "int" "bool" = false by decide];exact kk
 unfold mR;simp! only[tyD,tysD,ha,hb,rdL];refine⟨by decide,?_⟩;rw[show isT "list" "list" = true by decide];simp only[XV,ao];refine⟨⟨ma _,ma _,by have:=xC pps;omega⟩,?_⟩;rw[pv _ (ma _)];simp only[XV,ao];have body:∀(E:EndsD) (q:Pap) (v3:Zz),(∀v3,E.nx [↑a,↑b,some q.D,v3] M)->wSs cn fT E [↑a,↑b,some q.D,v3] M:=by
  intro E q v3 kk;unfold fT;rw[Ie q] at kk ⊢;simp! only[List.set,cut1];have go:∀(xs:List D) (v3:Zz),(∀d∈xs,d=.non \/ ∃i:Int,d=.int i)->aq (λ_=>True) (.nm 3) (wSs cn dy) { nx:=E.nx,rt:=E.rt,bk:=E.bk,ct:=E.ct } xs [↑a,↑b,some (.tup (.str (papW q)::papT q)),v3] M:=by
   intro xs;induction xs with
   |nil=>intro v3 _;rw[aq];exact kk v3
   |cons d xs ih=>
    intro v3 h;rw[aq];refine num _ _ d (h d ZY) ⟨trivial,ih _ λd' hd'=>h d' (.tail _ hd')⟩
  exact go (papT q) v3 (Dw q)
 unfold o3;simp! only[List.set,ha];have key:∀(l:ZN) (v2 v3:Zz),aq (λM'=>M' a=some (.lst (pps.map Pap.D))) (.nm 2) (wSs cn fT) { nx:=wSs cn fS (fin Q),rt:=Q } (l.map Pap.D) [↑a,↑b,v2,v3] M:=by
  intro l;induction l with
  |nil=>intro v2 v3;rw[YW,aq];exact last v2 v3
  |cons y l ih=>
   intro v2 v3;rw[YJ,aq];exact body _ y v3 λv3=>⟨ha,ih _ _⟩
 exact key pps none none
end
end SQ
namespace SH
open PySem L2 DD
def lw:Ss:=#v[.ret (.bi .all #v[.comp 2 (.fn 0 #v[.var 0,.var 1,.var 3,.var 4,.var 5]) (.tp [4,5]) (.enum #v[.var 2]) .no])]
def lx:Ss:=.cons (.set 3 (.fn 1 #v[.var 2])) lw
def ly:Ss:=.cons (.ite (.not (.val (.bi .all #v[.comp 2 (.fn 2 #v[.var 0,.var 4,.var 5]) (.tp [4,5]) (.enum #v[.var 2]) .no]))) #v[.ret (.bl false)] .nil) lx
def ja:Ss:=.cons (.ite (.or (.not (.val (.bi .isinst #v[.var 2,.ty "list"]))) (.cmp .NotEq (.bi .len #v[.var 2]) (.mu0 "how_many" (.var 0)))) #v[.ret (.bl false)] .nil) ly
def jN:Ss:=#v[.ret (.or (.cmp .Eq (.var 2) (.glob 0)) (.fn 0 #v[.var 0,.var 1,.ix (.var 2) (.int 3)]))]
def jO:Ss:=.cons (.ite (.or (.cmp .NotEq (.ix (.var 2) (.int 0)) (.str "true")) (.or (.cmp .NotEq (.bi .len #v[.var 2]) (.int 4)) (.not (.val (.fn 1 #v[.ix (.var 2) (.int 2)]))))) #v[.ret (.bl false)] .nil) jN
def fU:Ss:=.cons (.ite (.cmp .Eq (.ix (.var 2) (.int 0)) (.str "open")) #v[.ret (.and (.cmp .Eq (.bi .len #v[.var 2]) (.int 3)) (.fn 0 #v[.var 0,.var 1,.ix (.var 2) (.int 2)]))] .nil) jO
def dz:Ss:=.cons (.ite (.cmp .Eq (.ix (.var 2) (.int 0)) (.str "false")) #v[.ret (.cmp .Eq (.bi .len #v[.var 2]) (.int 2))] .nil) fU
def dC:Ss:=.cons (.ite (.or (.not (.val (.bi .isinst #v[.var 2,.ty "tuple"]))) (.or (.cmp .Lt (.bi .len #v[.var 2]) (.int 2)) (.not (.val (.fn 1 #v[.ix (.var 2) (.int 1)]))))) #v[.ret (.bl false)] .nil) dz
def jP:Ss:=#v[.ret (.and (.fn 0 #v[.var 2,.mu0 "row_count" (.var 0)]) (.cmp .Eq (.mu "head_of" (.var 0) #v[.var 2]) (.var 1)))]
def o4:Ss:=#v[.ret (.fn 0 #v[.var 0,.var 2,.var 3,.var 4])]
def jQ:Ss:=.cons (.ite (.cmp .Eq (.ix (.var 4) (.int 0)) (.str "false")) #v[.ret (.fn 1 #v[.var 0,.var 2,.var 3,.ix (.var 4) (.int 1)])] .nil) o4
def jR:Ss:=.cons (.ite (.val (.fn 2 #v[.var 1,.var 3])) #v[.ret (.bl false)] .nil) jQ
def o5:Ss:=#v[.ret (.fn 3 #v[.mu "conds_of" (.var 0) #v[.ix (.var 4) (.int 3)],.var 5,.mu "not_false_by" (.var 2) #v[.ix (.var 4) (.int 1)]])]
def fV:Ss:=.cons (.ite (.cmp .Eq (.ix (.var 4) (.int 0)) (.str "true")) (.cons (.set 5 (.mu "true_ahead" (.var 2) #v[.ix (.var 4) (.int 1),.ix (.var 4) (.int 2)])) o5) .nil) jR
def dD:Ss:=.cons (.ite (.cmp .Eq (.var 4) (.glob 0)) #v[.ret (.fn 2 #v[.var 1,.var 3])] .nil) fV
def iC:Ss:=#v[.ret (.bi .all #v[.comp 1 (.fn 0 #v[.mu "conds_of" (.var 0) #v[.var 6],.var 4,.var 5]) (.nm 6) (.seq (.mu "rows_for" (.var 0) #v[.var 2])) .no])]
def iD:Ss:=.cons (.set 5 (.mu "not_false_by" (.var 1) #v[.var 3])) iC
def fA:Ss:=.cons (.set 4 (.mu "true_by_rounds" (.var 1) #v[.var 3])) iD
def jv:Ss:=#v[.ret (.fn 0 #v[.mu "conds_of" (.var 0) #v[.ix (.var 3) (.int 2)],.var 5,.fld (.var 1) "sure"])]
def cz:Ss:=.cons (.set 5 (.bin .BitOr (.fld (.var 1) "sure") (.mu "open_ahead" (.var 1) #v[.ix (.var 3) (.int 1)]))) jv
def cA:Ss:=#v[.ite (.val (.fn 0 #v[.mu "conds_of" (.var 0) #v[.var 4],.fld (.var 1) "sure",.fld (.var 1) "not_false"])) #v[.ret (.bl false)] .nil]
def gt:Ss:=.cons (.for (.nm 4) (.seq (.mu "rows_for" (.var 0) #v[.var 2])) cA) cz
structure HoldAt (c:CA) (S W:Addr) (M:MH) (a k:Addr) (m:Nat) (rows:Zy) (told:Nat) (ps:Zp) (pps:ZN):Prop where
 sheet:SheetAt c S M a m rows
 claim:ClaimAt W M k pps
 pap:Papers rows m told ps pps
theorem HoldAt.ext{c:CA}{S W:Addr}{M M':MH}{a k:Addr}{m:Nat}{rows:Zy}{told:Nat}{ps:Zp}{pps:ZN}(e:Ext M M')(h:HoldAt c S W M a k m rows told ps pps):HoldAt c S W M' a k m rows told ps pps:=⟨h.sheet.ext e,h.claim.ext e,h.pap⟩
def oA(c:CA)(S:Addr):SpD:=λds M Q=>∃(a:Addr) (m:Nat) (rows:Zy) (r:Nat) (x:Row),ds=[.ref a,⇑x.1,⇑r]/\SheetAt c S M a m rows/\rows[r]?=some x/\Q (.bl true) M
def md(c:CA)(S:Addr):SpD:=λds M Q=>∃(a:Addr) (m:Nat) (rows:Zy) (f:Nat) (q:Pap),ds=[.ref a,⇑f,q.D]/\SheetAt c S M a m rows /\
 (∀i s r,q=.tru i s r->∃x,rows[r]?=some x/\x.1=f)/\(∀s r,q=.opn s r->∃x,rows[r]?=some x/\x.1=f)/\Q (.bl true) M
def iy(c:CA)(S W:Addr):SpD:=λds M Q=>∃(a k:Addr) (m:Nat) (rows:Zy) (told:Nat) (ps:Zp) (pps:ZN) (f i:Nat),ds=[.ref a,.ref k,⇑f,⇑i]/\HoldAt c S W M a k m rows told ps pps/\pps[f]?=some (.fls i)/\∀M',Ext M M'->Q (.bl true) M'
def jj(c:CA)(S W:Addr):SpD:=λds M Q=>∃(a k:Addr) (m:Nat) (rows:Zy) (told:Nat) (ps:Zp) (pps:ZN) (f s r:Nat),ds=[.ref a,.ref k,⇑f,(Pap.opn s r).D]/\HoldAt c S W M a k m rows told ps pps/\pps[f]?=some (.opn s r)/\∀M',Ext M M'->Q (.bl true) M'
def me(c:CA)(S W:Addr):SpD:=λds M Q=>∃(a k:Addr) (m:Nat) (rows:Zy) (told:Nat) (ps:Zp) (pps:ZN) (f:Nat) (q:Pap),ds=[.ref a,⇑told,.ref k,⇑f,q.D]/\HoldAt c S W M a k m rows told ps pps/\pps[f]?=some q/\∀M',Ext M M'->Q (.bl true) M'
def iz(c:CA)(S:Addr):SpD:=λds M Q=>∃(a b:Addr) (m:Nat) (rows:Zy) (told:Nat) (ps:Zp) (pps:ZN),ds=[.ref a,⇑told,.ref b]/\SheetAt c S M a m rows/\M b=some (.lst (pps.map Pap.D))/\Papers rows m told ps pps/\∀M',Ext M M'->Q (.bl true) M'
theorem xD{m:Nat}{rows:Zy}{crs:Zt}{p1 p2 p3:Addr}:(dr m rows crs p1 p2 p3).lookup ("row_count" : Str)=none:=rfl
section
variable {cn:Cn}{ds:List D}{M:MH}{Q:DK}{c:CA}{S W:Addr}
theorem Ai(t1:cn.T S "row_count" = some (ij c S))(t2:cn.T S "head_of" = some (gg c S))(f0:cn.F.getD 0 Yl=cm)(h:oA c S ds M Q):wSs cn jP (fin Q) (af ["","",""] ds) M:=by
 obtain⟨a,m,rows,r,x,rfl,A,hx,q⟩:=h;show wSs cn jP (fin Q) [↑a,~~~x.1,~~~r] M;obtain⟨ok,crs,p1,p2,p3,ps1,ps2,ps3,h1,-⟩:=id A;have hl:=(YC.mp hx).1;unfold jP;simp! only[h1,xD,t1,f0];refine⟨trivial,a,m,rows,rfl,A,?_⟩;refine⟨(r:Int),(rows.length:Int),rfl,?_⟩;rw[YT (by omega:(0:Int)<=(r:Int)),YT (by omega:(r:Int)<(rows.length:Int))];simp only[Bool.and_self,aH,h1,oj,t2];refine⟨trivial,a,m,rows,r,x,rfl,A,hx,?_⟩;refine⟨⟨rfl,rfl,(by decide:(0:Nat)<=30)⟩,?_⟩;rw[ad,XC];exact q
theorem mf:isT "tuple" "tuple" = true:=by decide
theorem w_tf:(("true" : Str) == "false")=false:=by rfl'
theorem w_to:(("true" : Str) == "open")=false:=by rfl'
theorem w_tt:(("true" : Str) == "true")=true:=by rfl'
theorem w_ff:(("false" : Str) == "false")=true:=by rfl'
theorem w_ft:(("false" : Str) == "true")=false:=by rfl'
theorem w_of:(("open" : Str) == "false")=false:=by rfl'
theorem w_ot:(("open" : Str) == "true")=false:=by rfl'
theorem w_oo:(("open" : Str) == "open")=true:=by rfl'
theorem at3{α:Type}(x y z u:α)(xs:List α):atI (x::y::z::u::xs) 3=some u:=cN (j:=3) rfl
theorem yk(hG:cn.G.getD 0 .non=Pap.told.D)(f0:cn.F.getD 0 Yl=oA c S)(f1:cn.F.getD 1 Yl=gA)(h:md c S ds M Q):wSs cn dC (fin Q) (af ["","",""] ds) M:=by
 obtain⟨a,m,rows,f,p,rfl,A,ht,ho,q⟩:=h;show wSs cn dC (fin Q) [↑a,~~~f,some p.D] M;cases p with
 |told=>
  unfold dC;simp_all! only[Pap.D,tyD,tysD,at0,at1,at2,at3,f0,f1,mf,XV];refine⟨by decide,?_⟩;show Bif (decide (((4:Nat):Int)<2)) _ _;rw[show decide (((4:Nat):Int)<2)=false by decide,ao];refine⟨0,rfl,?_⟩;unfold dz;simp_all! only[Pap.D,tyD,tysD,at0,at1,at2,at3,f0,f1,w_tf];unfold fU;simp_all! only[Pap.D,tyD,tysD,at0,at1,at2,at3,f0,f1,w_to];unfold jO;simp_all! only[Pap.D,tyD,tysD,at0,at1,at2,at3,f0,f1,w_tt,XV];show Bif (!(((4:Nat):Int)==4)) _ _;rw[show(((4:Nat):Int)==4)=true by decide,XV,ao];refine⟨0,rfl,?_⟩;unfold jN;simp_all! only[Pap.D,tyD,tysD,at0,at1,at2,at3,f0,f1,hG];rw[XV,ao];refine⟨⟨rfl,rfl,(by decide:(1:Nat)<=30)⟩,?_⟩;rw[nY _ rfl];exact q
 |tru i s r=>
  unfold dC;simp_all! only[Pap.D,tyD,tysD,at0,at1,at2,at3,f0,f1,mf,XV];refine⟨by decide,?_⟩;show Bif (decide (((4:Nat):Int)<2)) _ _;rw[show decide (((4:Nat):Int)<2)=false by decide,ao];refine⟨(i:Int),rfl,?_⟩;unfold dz;simp_all! only[Pap.D,tyD,tysD,at0,at1,at2,at3,f0,f1,w_tf];unfold fU;simp_all! only[Pap.D,tyD,tysD,at0,at1,at2,at3,f0,f1,w_to];unfold jO;simp_all! only[Pap.D,tyD,tysD,at0,at1,at2,at3,f0,f1,w_tt,XV];show Bif (!(((4:Nat):Int)==4)) _ _;rw[show(((4:Nat):Int)==4)=true by decide,XV,ao];refine⟨(s:Int),rfl,?_⟩;unfold jN;simp_all! only[Pap.D,tyD,tysD,at0,at1,at2,at3,f0,f1,hG];rw[XV,ao];refine⟨⟨rfl,rfl,(by decide:(1:Nat)<=30)⟩,?_⟩;obtain⟨x,hx,rfl⟩:=ht i s r rfl;cases eqD (D.tup [D.str "true",D.int (i:Int),D.int (s:Int),D.int (r:Int)]) (D.tup [D.str "true",D.int 0,D.int 0,D.non]) with
  |true=>exact q
  |false=>exact⟨a,m,rows,r,x,rfl,A,hx,q⟩
 |fls i=>
  unfold dC;simp_all! only[Pap.D,tyD,tysD,at0,at1,at2,at3,f0,f1,mf,XV];refine⟨by decide,?_⟩;show Bif (decide (((2:Nat):Int)<2)) _ _;rw[show decide (((2:Nat):Int)<2)=false by decide,ao];refine⟨(i:Int),rfl,?_⟩;unfold dz;simp_all! only[Pap.D,tyD,tysD,at0,at1,at2,at3,f0,f1,w_ff];rw[XV,ao];exact q
 |opn s r=>
  unfold dC;simp_all! only[Pap.D,tyD,tysD,at0,at1,at2,at3,f0,f1,mf,XV];refine⟨by decide,?_⟩;show Bif (decide (((3:Nat):Int)<2)) _ _;rw[show decide (((3:Nat):Int)<2)=false by decide,ao];refine⟨(s:Int),rfl,?_⟩;unfold dz;simp_all! only[Pap.D,tyD,tysD,at0,at1,at2,at3,f0,f1,w_of];unfold fU;simp_all! only[Pap.D,tyD,tysD,at0,at1,at2,at3,f0,f1,w_oo];rw[XV,ao];show Bif (((3:Nat):Int)==3) _ _;rw[show(((3:Nat):Int)==3)=true by decide,aH];obtain⟨x,hx,rfl⟩:=ho s r rfl;exact⟨a,m,rows,r,x,rfl,A,hx,q⟩
theorem qD:∀n:Nat,blsD (List.replicate n (D.bl true))=some (List.replicate n true)
 |0=>rfl
 |n+1=>by rw[YX,blsD,qD n];rfl
theorem uH(n:Nat):(List.replicate n true).all id=true:=by simp
theorem uI(h g:Nat)(x:Row):x.2.all (CT.carried (h:Int) (g:Int))=aI h g x:=rfl
theorem uJ(hf:cn.T S "rows_for" = some (dX c S))(hc:cn.T S "conds_of" = some (c8 c S))(t1:cn.T W "true_by_rounds" = some (li W))(t2:cn.T W "not_false_by" = some (cY W))(f0:cn.F.getD 0 Yl=ii c)(h:iy c S W ds M Q):
  wSs cn fA (fin Q) (af ["","","","","",""] ds) M:=by
 obtain⟨a,k,m,rows,told,ps,pps,f,i,rfl,A,hp,q⟩:=h;show wSs cn fA (fin Q) [↑a,↑k,~~~f,~~~i,none,none] M;have hm:=A.sheet.ok.most;have hlen:=A.pap.len;have hfm:f<m:=by have:=(YC.mp hp).1;omega
 obtain⟨p1,p2,p3,k1,-⟩:=id A.claim;unfold fA;simp! only[List.set,k1,Id,t1];refine⟨trivial,k,pps,i,rfl,A.claim,by omega,λM1 e1=>?_⟩;unfold iD;simp! only[List.set,e1 _ _ k1,BS,t2];refine⟨trivial,k,pps,i,rfl,A.claim.ext e1,by omega,λM2 e2=>?_⟩;have A2:=A.ext (e1.trans e2);obtain⟨ok,crs,q1,q2,q3,ps1,ps2,ps3,h1,-⟩:=id A2.sheet;unfold iC;simp! only[List.set,h1,mM,hf,List.cons_append,XA,List.replicate];refine⟨trivial,a,m,rows,f,rfl,A2.sheet,hfm,λl M3 hl e3 g3=>?_⟩;simp only[g3];rw[hlen];have A3:=A2.ext e3;have right:=λ(x:Row) hx e=>A.pap.false_right hp (x:=x) hx e
 have comp:∀(F:List D->MH->Prop),(∀n M5,Ext M3 M5->F (List.replicate n (D.bl true)) M5)->∀(rs:Zj) (n:Nat) (v:Zz) (M5:MH),(∀r∈rs,∃x,rows[r]?=some x/\x.1=f)->Ext M3 M5 ->
   ax (λM'=>M' l=some (.lst (nats (bV (aD rows) rows.length f)))) (.nm 6) (wTo cn .no) (wE cn (.fn 0 (.cons (.mu "conds_of" (.var 0) (.cons (.var 6) .nil)) (.cons (.var 4) (.cons (.var 5) .nil))))) F (nats rs) (List.replicate n (D.bl true))
    [↑a,↑k,~~~f,~~~i,some (.int ((setP pps (pBy i):Nat):Int)),some (.int ((au (2 ^ m-1) (setP pps (pFls i)):Nat):Int)),v] M5:=by
  intro F hF rs;induction rs with
  |nil=>
   intro n v M5 _ e5;rw[show nats []=[] from rfl,ax];exact hF n M5 e5
  |cons r rs ih=>
   intro n v M5 hr e5;obtain⟨x,hx,hxf⟩:=hr r ZY;have h5:=(A3.ext e5).sheet;obtain⟨_,crs,q1,q2,q3,ps1,ps2,ps3,h15,-⟩:=id h5;rw[show nats (r::rs)=⇑r::nats rs from rfl,ax];have ev:∀K:DK,(∀M7,Ext M5 M7->K (.bl true) M7)->wE cn (.fn 0 (.cons (.mu "conds_of" (.var 0) (.cons (.var 6) .nil)) (.cons (.var 4) (.cons (.var 5) .nil)))) [↑a,↑k,~~~f,~~~i,some (.int ((setP pps (pBy i):Nat):Int)),some (.int ((au (2 ^ m-1) (setP pps (pFls i)):Nat):Int)),~~~r] M5 K:=by
    intro K hK;simp! only[h15,fE,hc,f0];refine⟨trivial,a,m,rows,r,x,rfl,h5,hx,λp4 rs4 M6 hp4 e6 g6 c6=>?_⟩;refine⟨p4,_,_,rs4,x.2,rfl,g6,c6,λt ht=>CT.fit_ok 'b' ((m9 A.sheet.ok hx).2.2 t ht),λM7 e7=>?_⟩;rw[Dq,right x (YR hx) hxf];exact hK M7 (e6.trans e7)
   refine ev _ λM7 e7=>⟨e7 _ _ (e5 _ _ g3),?_⟩
   have:=ih (n+1) (~~~r) M7 (λr' hr'=>hr r' (.tail _ hr')) (e5.trans e7)
   rw[List.replicate_succ'] at this;exact this
 refine comp _ ?_ _ 0 none M3 (λr hr=>?_) (Ext.refl _)
 ·intro n M5 e5 p5 hp5
  rw[aa];simp only[qD,uH];exact q _ (e1.trans (e2.trans (e3.trans (e5.then hp5))))
 ·exact lP.1 (c9.1 hr).2
theorem vC(hO:∀f∈jt,cn.O W f)(hf:cn.T S "rows_for" = some (dX c S))(hc:cn.T S "conds_of" = some (c8 c S))(t1:cn.T W "open_ahead" = some (fH W))(f0:cn.F.getD 0 Yl=bR c)(h:jj c S W ds M Q):
  wSs cn gt (fin Q) (af ["","","","","",""] ds) M:=by
 obtain⟨a,k,m,rows,told,ps,pps,f,s,r,rfl,A,hp,q⟩:=h;show wSs cn gt (fin Q) [↑a,↑k,~~~f,some (Pap.opn s r).D,none,none] M;have hm:=A.sheet.ok.most;have hlen:=A.pap.len;have hfm:f<m:=by have:=(YC.mp hp).1;omega
 obtain⟨ok,crs,q1,q2,q3,ps1,ps2,ps3,h1,-⟩:=id A.sheet;have conds:∀(x:Row) (r':Nat),rows[r']?=some x->∀t∈x.2,t.ok:=λx r' hx t ht=>CT.fit_ok 'b' ((m9 A.sheet.ok hx).2.2 t ht)
 have last:∀(v4:Zz) (M5:MH),Ext M M5->wSs cn cz (fin Q) [↑a,↑k,~~~f,some (Pap.opn s r).D,v4,none] M5:=by
  intro v4 M5 e5;have A5:=A.ext e5;obtain⟨p1,p2,p3,k1,-⟩:=id A5.claim;unfold cz;simp! only[Pap.D,List.set,k1,qC,Fw,t1,at1];refine⟨hO _ 'e',trivial,k,pps,s,rfl,A5.claim,by omega,λM6 e6=>?_⟩;dsimp only;rw[tx];have A6:=A5.ext e6;obtain⟨_,crs,q1,q2,q3,ps1,ps2,ps3,h16,-⟩:=id A6.sheet;obtain⟨x,hx,hxf,hr⟩:=A.pap.open_right hp;unfold jv;simp! only[List.set,h16,fE,hc,at2,f0,e6 _ _ k1,qC];refine⟨trivial,a,m,rows,r,x,rfl,A6.sheet,hx,λp4 rs4 M7 hp4 e7 g7 c7=>?_⟩;simp only[e7 _ _ (e6 _ _ k1),qC];refine⟨hO _ 'e',p4,_,_,rs4,x.2,rfl,g7,c7,conds x r hx,λM8 e8=>?_⟩;rw[uI,hr];exact q M8 (e5.trans (e6.trans (e7.trans e8)))
 have body:∀(E:EndsD) (r':Nat) (x:Row) (M5:MH),Ext M M5->rows[r']?=some x->x.1=f->(∀M6,Ext M5 M6->E.nx [↑a,↑k,~~~f,some (Pap.opn s r).D,~~~r',none] M6) ->
   wSs cn cA E [↑a,↑k,~~~f,some (Pap.opn s r).D,~~~r',none] M5:=by
  intro E r' x M5 e5 hx hxf kk;have A5:=A.ext e5;obtain⟨p1,p2,p3,k1,-⟩:=id A5.claim;obtain⟨_,crs,q1,q2,q3,ps1,ps2,ps3,h15,-⟩:=id A5.sheet;unfold cA;simp! only[List.set,h15,fE,hc,f0];refine⟨trivial,a,m,rows,r',x,rfl,A5.sheet,hx,λp4 rs4 M7 hp4 e7 g7 c7=>?_⟩;simp only[e7 _ _ k1,qC,Hc];refine⟨hO _ 'e',hO _ 'e',p4,_,_,rs4,x.2,rfl,g7,c7,conds x r' hx,λM8 e8=>?_⟩;rw[uI,hlen,A.pap.open_no hp (YR hx) hxf];exact kk M8 (e7.trans e8)
 unfold gt;simp! only[List.set,h1,mM,hf];refine⟨trivial,a,m,rows,f,rfl,A.sheet,hfm,λl M3 hl e3 g3=>?_⟩;simp only[g3];have key:∀(rs:Zj) (v4:Zz) (M5:MH),(∀r∈rs,∃x,rows[r]?=some x/\x.1=f)->Ext M3 M5 ->
   aq (λM'=>M' l=some (.lst (nats (bV (aD rows) rows.length f)))) (.nm 4) (wSs cn cA) { nx:=wSs cn cz (fin Q),rt:=Q } (nats rs) [↑a,↑k,~~~f,some (Pap.opn s r).D,v4,none] M5:=by
  intro rs;induction rs with
  |nil=>
   intro v4 M5 _ e5;rw[show nats []=[] from rfl,aq];exact last v4 M5 (e3.trans e5)
  |cons r' rs ih=>
   intro v4 M5 hr e5;obtain⟨x,hx,hxf⟩:=hr r' ZY;rw[show nats (r'::rs)=⇑r'::nats rs from rfl,aq];refine body _ r' x M5 (e3.trans e5) hx hxf λM6 e6=>⟨e6 _ _ (e5 _ _ g3),?_⟩
   exact ih (~~~r') M6 (λr2 h2=>hr r2 (.tail _ h2)) (e5.trans e6)
 exact key _ none M3 (λr' hr'=>lP.1 (c9.1 hr').2) (Ext.refl _)
theorem Hf{i s r:Nat}:eqD (.tup [.str "true",⇑i,⇑s,⇑r]) (.tup [.str "true",.int 0,.int 0,.non])=false:=by
 have h:eqD (⇑r) .non=false:=by rw[eqD]<;>(intros;contradiction)
 rw[eqD,eqDs,eqDs,eqDs,eqDs,h];simp
theorem Hg{i:Nat}:eqD (.tup [.str "false",⇑i]) (.tup [.str "true",.int 0,.int 0,.non])=false:=by
 rw[eqD,f9];simp
theorem Hh{s r:Nat}:eqD (.tup [.str "open",⇑s,⇑r]) (.tup [.str "true",.int 0,.int 0,.non])=false:=by
 rw[eqD,f9];simp
theorem yl(hG:cn.G.getD 0 .non=Pap.told.D)(hc:cn.T S "conds_of" = some (c8 c S))(t1:cn.T W "true_ahead" = some (fG W))(t2:cn.T W "not_false_by" = some (cY W))
  (f0:cn.F.getD 0 Yl=jj c S W) (f1:cn.F.getD 1 Yl=iy c S W) (f2:cn.F.getD 2 Yl=aZ) (f3:cn.F.getD 3 Yl=bR c) (h:me c S W ds M Q):
  wSs cn dD (fin Q) (af ["","","","","",""] ds) M:=by
 obtain⟨a,k,m,rows,told,ps,pps,f,p,rfl,A,hp,q⟩:=h;show wSs cn dD (fin Q) [↑a,~~~told,↑k,~~~f,some p.D,none] M;have hm:=A.sheet.ok.most;have hlen:=A.pap.len;have hq:=A.pap.pap f p hp;obtain⟨p1,p2,p3,k1,-⟩:=id A.claim;cases p with
 |told=>
  have hq:told.testBit f=true:=hq;unfold dD;simp_all! only[Pap.D,List.set,at0,at1,at2,at3,hG];refine⟨⟨rfl,rfl,(by decide:(1:Nat)<=30)⟩,?_⟩;rw[nY _ rfl];simp only[aH,f2];refine⟨(told:Int),(f:Int),rfl,by omega,?_⟩;rw[bf,hq];exact q M (Ext.refl _)
 |tru i s r=>
  unfold dD;simp_all! only[Pap.D,List.set,at0,at1,at2,at3,hG];refine⟨⟨rfl,rfl,(by decide:(1:Nat)<=30)⟩,?_⟩;rw[Hf];simp only[ao];unfold fV;simp_all! only[Pap.D,List.set,at0,at1,at2,at3,w_tt,k1,Du,t1];refine⟨k,pps,i,s,rfl,A.claim,by omega,λM1 e1=>?_⟩;have A1:=A.ext e1;obtain⟨_,crs,q1,q2,q3,ps1,ps2,ps3,h1,-⟩:=id A1.sheet;obtain⟨x,hx,hxf,hr⟩:=A.pap.true_right hp;unfold o5;simp_all! only[Pap.D,List.set,at0,at1,at2,at3,h1,fE,hc,f3];refine⟨a,m,rows,r,x,rfl,A1.sheet,hx,λp4 rs4 M2 hp4 e2 g2 c2=>?_⟩;simp only[e2 _ _ (e1 _ _ k1),BS,t2];refine⟨trivial,k,pps,i,rfl,A1.claim.ext e2,by omega,λM3 e3=>?_⟩;refine⟨p4,_,_,rs4,x.2,rfl,e3 _ _ g2,c2.ext e3,λt ht=>CT.fit_ok 'b' ((m9 A.sheet.ok hx).2.2 t ht),λM4 e4=>?_⟩;rw[uI,hlen,hr];exact q M4 (e1.trans (e2.trans (e3.trans e4)))
 |fls i=>
  unfold dD;simp_all! only[Pap.D,List.set,at0,at1,at2,at3,hG];refine⟨⟨rfl,rfl,(by decide:(1:Nat)<=30)⟩,?_⟩;rw[Hg];simp only[ao];unfold fV;simp_all! only[Pap.D,List.set,at0,at1,at2,at3,w_ft];unfold jR;simp_all! only[Pap.D,List.set,at0,at1,at2,at3,f2];refine⟨(told:Int),(f:Int),rfl,by omega,?_⟩;rw[bf,hq.1];simp only[ao];unfold jQ;simp_all! only[Pap.D,List.set,at0,at1,at2,at3,w_ff,f1];exact⟨a,k,m,rows,told,ps,pps,f,i,rfl,A,hp,q⟩
 |opn s r=>
  unfold dD;simp_all! only[Pap.D,List.set,at0,at1,at2,at3,hG];refine⟨⟨rfl,rfl,(by decide:(1:Nat)<=30)⟩,?_⟩;rw[Hh];simp only[ao];unfold fV;simp_all! only[Pap.D,List.set,at0,at1,at2,at3,w_ot];unfold jR;simp_all! only[Pap.D,List.set,at0,at1,at2,at3,f2];refine⟨(told:Int),(f:Int),rfl,by omega,?_⟩;rw[bf,hq.1];simp only[ao];unfold jQ;simp_all! only[Pap.D,List.set,at0,at1,at2,at3,w_of];unfold o4;simp_all! only[Pap.D,List.set,at0,at1,at2,at3,f0];exact⟨a,k,m,rows,told,ps,pps,f,s,r,rfl,A,hp,q⟩
theorem tQ{c:CA}{S:Addr}{M:MH}{a:Addr}{m:Nat}{rows:Zy}{told:Nat}{ps:Zp}{pps:ZN}(P:Papers rows m told ps pps){f:Nat}{q:Pap}(h:pps[f]?=some q):
  (∀i s r,q=.tru i s r->∃x,rows[r]?=some x/\x.1=f)/\(∀s r,q=.opn s r->∃x,rows[r]?=some x/\x.1=f):=by
 refine⟨λi s r e=>?_,λs r e=>?_⟩
 ·subst e
  obtain⟨x,hx,hf,_⟩:=P.true_right h;exact⟨x,hx,hf⟩
 ·subst e
  obtain⟨x,hx,hf,_⟩:=P.open_right h;exact⟨x,hx,hf⟩
theorem uK(hT:cn.T S "how_many" = some (c5 c S))(f0:cn.F.getD 0 Yl=me c S W)(f1:cn.F.getD 1 Yl=a9 W (iw W))(f2:cn.F.getD 2 Yl=md c S)(h:iz c S ds M Q):
  wSs cn ja (fin Q) (af ["","","",""] ds) M:=by
 obtain⟨a,b,m,rows,told,ps,pps,rfl,A,hb,P,q⟩:=h;show wSs cn ja (fin Q) [↑a,~~~told,↑b,none] M;have hm:=A.ok.most;have hlen:=P.len;obtain⟨ok,crs,q1,q2,q3,ps1,ps2,ps3,h1,-⟩:=id A;have comp1:∀(F:List D->MH->Prop),(∀n M5,Ext M M5->F (List.replicate n (D.bl true)) M5)->∀(l:List (Nat×Pap)) (n:Nat) (v w:Zz) (M5:MH),(∀f q,(f,q)∈l->pps[f]?=some q)->Ext M M5 ->
   ax (λM'=>M' b=some (.lst (pps.map Pap.D))) (.tp [4,5]) (wTo cn .no) (wE cn (.fn 2 (.cons (.var 0) (.cons (.var 4) (.cons (.var 5) .nil))))) F (l.map tupP) (List.replicate n (D.bl true)) [↑a,~~~told,↑b,none,v,w] M5:=by
  intro F hF l;induction l with
  |nil=>
   intro n v w M5 _ e5;rw[YW,ax];exact hF n M5 e5
  |cons x l ih=>
   intro n v w M5 hl e5;obtain⟨f,p⟩:=x;have hp:=hl f p ZY;have ev:∀K:DK,K (.bl true) M5->wE cn (.fn 2 (.cons (.var 0) (.cons (.var 4) (.cons (.var 5) .nil)))) [↑a,~~~told,↑b,none,~~~f,some p.D] M5 K:=by
    intro K hK;simp! only[f2];have hh:=tQ (c:=c) (S:=S) (M:=M) (a:=a) P hp;exact⟨a,m,rows,f,p,rfl,A.ext e5,hh.1,hh.2,hK⟩
   rw[YJ,ax];refine⟨rfl,ev _ ⟨e5 _ _ hb,?_⟩⟩
   have:=ih (n+1) (~~~f) (some p.D) M5 (λf' q' h'=>hl f' q' (.tail _ h')) e5
   rw[List.replicate_succ'] at this;exact this
 have comp2:∀(k:Addr) (M3:MH),Ext M M3->ClaimAt W M3 k pps->∀(F:List D->MH->Prop),(∀n M5,Ext M3 M5->F (List.replicate n (D.bl true)) M5)->∀(l:List (Nat×Pap)) (n:Nat) (v w:Zz) (M5:MH),(∀f q,(f,q)∈l->pps[f]?=some q)->Ext M3 M5 ->
   ax (λM'=>M' b=some (.lst (pps.map Pap.D))) (.tp [4,5]) (wTo cn .no) (wE cn (.fn 0 (.cons (.var 0) (.cons (.var 1) (.cons (.var 3) (.cons (.var 4) (.cons (.var 5) .nil))))))) F (l.map tupP) (List.replicate n (D.bl true)) [↑a,~~~told,↑b,↑k,v,w] M5:=by
  intro k M3 e3 C3 F hF l;induction l with
  |nil=>
   intro n v w M5 _ e5;rw[YW,ax];exact hF n M5 e5
  |cons x l ih=>
   intro n v w M5 hl e5;obtain⟨f,p⟩:=x;have hp:=hl f p ZY;have ev:∀K:DK,(∀M6,Ext M5 M6->K (.bl true) M6)->wE cn (.fn 0 (.cons (.var 0) (.cons (.var 1) (.cons (.var 3) (.cons (.var 4) (.cons (.var 5) .nil)))))) [↑a,~~~told,↑b,↑k,~~~f,some p.D] M5 K:=by
    intro K hK;simp! only[f0];exact⟨a,k,m,rows,told,ps,pps,f,p,rfl,⟨A.ext (e3.trans e5),C3.ext e5,P⟩,hp,hK⟩
   rw[YJ,ax];refine⟨rfl,ev _ λM6 e6=>⟨e6 _ _ (e5 _ _ (e3 _ _ hb)),?_⟩⟩
   have:=ih (n+1) (~~~f) (some p.D) M6 (λf' q' h'=>hl f' q' (.tail _ h')) (e5.trans e6)
   rw[List.replicate_succ'] at this;exact this
 have all:∀f q,(f,q)∈enP 0 pps->pps[f]?=some q:=λf q h=>by
  have:=((uF 0 pps f q).1 h).2
  rwa [Nat.sub_zero] at this
 unfold ja;simp! only[List.set,tyD,tysD,hb,h1,jh,hT,ZE];refine⟨by decide,?_⟩;rw[show isT "list" "list" = true by decide];simp only[XV,ao];refine⟨trivial,a,m,rows,rfl,A,?_⟩;refine⟨⟨rfl,rfl,(by decide:(0:Nat)<=30)⟩,?_⟩;rw[ad,hlen,XC];simp only[XV,ao];unfold ly;simp! only[List.set,List.cons_append,XA,List.replicate,hb];rw[show(0:Int)=((0:Nat):Int) from rfl,ox];refine comp1 _ ?_ (enP 0 pps) 0 none none M all (Ext.refl _);intro n M1 e1 p1 hp1;rw[aa];simp only[qD,uH,XV,ao];have e2:Ext M (updM M1 p1 (.lst (List.replicate n (D.bl true)))):=e1.then hp1;generalize updM M1 p1 (MO.lst (List.replicate n (D.bl true)))=M2 at *;unfold lx;simp! only[List.set,f1];intro k hk;have ek:Ext M2 (updM M2 k (.ins W [])):=Ext.new hk;refine⟨k,b,pps,rfl,aa,ek _ _ (e2 _ _ hb),by omega,λM3 b3 C3=>⟨rfl,?_⟩⟩;have e3:Ext M M3:=e2.trans (ExtBut.ext ek b3 hk);unfold lw;simp! only[List.set,List.cons_append,XA,List.replicate,e3 _ _ hb];rw[show(0:Int)=((0:Nat):Int) from rfl,ox];refine comp2 k M3 e3 C3 _ ?_ (enP 0 pps) 0 none none M3 all (Ext.refl _);intro n M4 e4 p4 hp4;rw[aa];simp only[qD,uH];exact q _ (e3.trans (e4.then hp4))
end
end SH
namespace SQ
open PySem L2 DD
open SH
def xE:Ss:=#v[.ret (.fn 0 #v[.fn 1 #v[.var 4,.var 3],.var 5])]
def xF:Ss:=.cons (.expr (.mt0 .clear (.var 6))) xE
def xG:Ss:=.cons (.ite (.or (.not (.val (.fn 0 #v[.var 6,.var 5]))) (.or (.not (.val (.fn 2 #v[.var 4,.var 3,.var 6]))) (.not (.val (.fn 2 #v[.var 4,.var 3,.var 5]))))) #v[.ret (.bl false)] .nil) xF
def xH:Ss:=.cons (.set 6 (.fn 1 #v[.var 4,.var 3])) xG
def xI:Ss:=.cons (.set 5 (.fn 3 #v[.var 1,.var 2,.var 3])) xH
def rO:Ss:=.cons (.set 4 (.fn 4 #v[.var 1,.var 2])) xI
def tR:Ss:=.cons (.asg (.tp [1,2,3]) (.fn 5 #v[.var 0])) rO
def vO:SpD:=λds M Q=>∃(a:Addr) (ns:Zi),ds=[.ref a]/\M a=some (.rol (ns.map .int))/\ns.length<=63/\∀M',Q (.bl true) M'
theorem Runs.uniq{rows:Zy}{m told:Nat}{ps ps':Zp}(R:SH.Runs rows m told ps)(R':SH.Runs rows m told ps'):ps=ps':=by
 refine List.ext_getElem? λi=>?_
 have half:∀{ps ps':Zp},SH.Runs rows m told ps->SH.Runs rows m told ps'->∀(i:Nat) (y:Nat×Nat),ps[i]?=some y->ps'[i]?=some y:=by
  intro ps ps' R R' i;induction i with
  |zero=>
   intro y h
   have:=R.rounds.first
   rw[h] at this;rw[R'.rounds.first,this]
  |succ i ih=>
   intro y h;have hl:=(YC.mp h).1;have hi:ps[i]?=some (ps[i]' 'b'):=ZC 'b';generalize ps[i]' 'b'=x at hi;have hi':=ih x hi;obtain⟨e1,e2⟩:=R.rounds.next i x y hi h;cases h':ps'[i+1]? with
   |some z=>rw[(R'.rounds.next i x z hi' h').1,e1]
   |none=>
    exfalso;have hl':=(YC.mp hi').1;have hn:=List.getElem?_eq_none_iff.1 h';have hlast:ps'.getLast?=some x:=by
     rw[List.getLast?_eq_getElem?,show ps'.length-1=i by omega];exact hi'
    exact e2 (e1.trans (R'.rounds.last x hlast))
 cases h:ps[i]? with
 |some y=>exact(half R R' i y h).symm
 |none=>
  cases h':ps'[i]? with
  |none=>rfl
  |some y=>rw[half R' R i y h'] at h;cases h
theorem Papers.uniq{rows:Zy}{m told:Nat}{ps ps':Zp}{pps pps':ZN}(P:SH.Papers rows m told ps pps)(P':SH.Papers rows m told ps' pps'):pps=pps':=by
 have e:=Runs.uniq P.runs P'.runs;subst e;refine List.ext_getElem? λf=>?_
 by_cases h:f<m
 ·obtain⟨q,h1,h2⟩:=P.get h
  obtain⟨q',h1',h2'⟩:=P'.get h;rw[h1,h1',dQ.uniq P.runs h2 h2']
 ·rw[ZH (by rw[P.len];omega),ZH (by rw[P'.len];omega)]
section
variable {cn:Cn}{ds:List D}{M:MH}{Q:DK}{c:CA}{S:Addr}
theorem Hi(f0:cn.F.getD 0 Yl=l9)(f1:cn.F.getD 1 Yl=ko c S)(f2:cn.F.getD 2 Yl=iz c S)(f3:cn.F.getD 3 Yl=ow)
  (f4:cn.F.getD 4 Yl=a9 S (jf c S)) (f5:cn.F.getD 5 Yl=gT) (h:vO ds M Q):wSs cn tR (fin Q) (af ["","","","","","",""] ds) M:=by
 obtain⟨a,ns,rfl,hM,-,q⟩:=h;show wSs cn tR (fin Q) [some (.ref a),none,none,none,none,none,none] M;unfold tR;simp! only[List.set,f5];refine⟨a,ns,rfl,hM,λL R m rds rows told M1 g1 r1 A1 ok hn hm ht e1=>?_⟩;simp! only[g1,rdL];refine⟨rfl,?_⟩;show wSs cn rO (fin Q) [some (.ref a),some (.int (m:Int)),some (.ref R),some (.int (told:Int)),none,none,none] M1;unfold rO;simp! only[List.set,f4];intro sh hsh;have es:Ext M1 (updM M1 sh (.ins S [])):=Ext.new hsh;refine⟨sh,m,R,rds,rows,rfl,aa,es _ _ r1,A1.ext es,ok,λM2 b2 S2=>⟨rfl,?_⟩⟩;have e2:Ext M1 M2:=ExtBut.ext es b2 hsh;unfold xI;simp! only[List.set,f3];refine⟨R,m,rds,rows,told,rfl,e2 _ _ r1,A1.ext e2,ok,ht,λdu ps pps M3 hdu e3 g3 P=>?_⟩;have S3:=S2.ext e3;unfold xH;simp! only[List.set,f1];refine⟨sh,m,rows,told,rfl,S3,by omega,by omega,ht,λfo ps' pps' M4 hfo e4 g4 P'=>?_⟩;have e:=Papers.uniq P' P;subst e;unfold xG;simp! only[List.set,f0,f2];refine⟨fo,du,pps',rfl,g4,e4 _ _ g3,?_⟩;simp only[XV,ao];refine⟨sh,fo,m,rows,told,ps',pps',rfl,S3.ext e4,g4,P',λM5 e5=>?_⟩;simp only[XV,ao];refine⟨sh,du,m,rows,told,ps,pps',rfl,(S3.ext e4).ext e5,e5 _ _ (e4 _ _ g3),P,λM6 e6=>?_⟩;simp only[XV,ao];have g6:=e6 _ _ (e5 _ _ g4);unfold xF;simp! only[List.set,g6];refine⟨rfl,?_⟩;have e7:Ext M3 (updM M6 fo (.lst [])):=(e4.trans (e5.trans e6)).put hfo;generalize updM M6 fo (MO.lst [])=M7 at *;unfold xE;simp! only[List.set,f0,f1];refine⟨sh,m,rows,told,rfl,S3.ext e7,by omega,by omega,ht,λfo' ps2 pps2 M8 hfo' e8 g8 P2=>?_⟩;have e:=Papers.uniq P2 P;subst e;exact⟨fo',du,pps2,rfl,g8,e8 _ _ (e7 _ _ g3),q M8⟩
end
end SQ
namespace K51
open PySem L2 DD
abbrev nB:List Str:=["many","leanings","found","row","row_leaned","fact","lack"]
abbrev mh:List Str:=["many","leanings"]
theorem tS:FnScope nB mh (av eD):=⟨rfl,rfl,rfl,by rfl',rfl,by rfl',by rfl'⟩
abbrev tT:List Str:=[]
theorem tU:cr ⟨nB,av eD,true,gE,bltL,tT⟩ SH.dJ (aK eD)=true:=by rfl'
abbrev DR:List Str:=["_law_script","_law_many","_law_rows_here","_law_told","_law_sheet","_law_due_here","_law_found"]
abbrev Hj:List Str:=["_law_script"]
theorem Hk:FnScope DR Hj (av sg):=⟨rfl,rfl,rfl,by rfl',rfl,by rfl',by rfl'⟩
abbrev Hl:List Str:=["_law_same","papers_of","papers_hold","_law_due","Sheet","_law_made"]
theorem Hm:cr ⟨DR,av sg,true,gE,bltL,Hl⟩ SQ.tR (aK sg)=true:=by rfl'
end K51
namespace K51
open PySem PySem.Spec PyProof.Rows L2 DD
theorem us0{P:List Value->Prop}(h:P []):∀us:List Value,us.length=0->P us
 |[],_=>h
theorem us1{P:List Value->Prop}(h:∀a,P [a]):∀us:List Value,us.length=1->P us
 |a::t,hl=>us0 (P:=λt=>P (a::t)) (h a) t (Nat.succ.inj hl)
 |[],hl=>nomatch hl
theorem us2{P:List Value->Prop}(h:∀a b,P [a,b]):∀us:List Value,us.length=2->P us
 |a::t,hl=>us1 (P:=λt=>P (a::t)) (h a) t (Nat.succ.inj hl)
 |[],hl=>nomatch hl
theorem us3{P:List Value->Prop}(h:∀a b c,P [a,b,c]):∀us:List Value,us.length=3->P us
 |a::t,hl=>us2 (P:=λt=>P (a::t)) (h a) t (Nat.succ.inj hl)
 |[],hl=>nomatch hl
theorem us4{P:List Value->Prop}(h:∀a b c d,P [a,b,c,d]):∀us:List Value,us.length=4->P us
 |a::t,hl=>us3 (P:=λt=>P (a::t)) (h a) t (Nat.succ.inj hl)
 |[],hl=>nomatch hl
theorem us5{P:List Value->Prop}(h:∀a b c d e,P [a,b,c,d,e]):∀us:List Value,us.length=5->P us
 |a::t,hl=>us4 (P:=λt=>P (a::t)) (h a) t (Nat.succ.inj hl)
 |[],hl=>nomatch hl
theorem us6{P:List Value->Prop}(h:∀a b c d e f,P [a,b,c,d,e,f]):∀us:List Value,us.length=6->P us
 |a::t,hl=>us5 (P:=λt=>P (a::t)) (h a) t (Nat.succ.inj hl)
 |[],hl=>nomatch hl
local macro_rules
 | `(tactic| ac_rfl) => `(tactic| exact ⟨rfl, rfl, rfl, by rfl', rfl, by rfl', by rfl'⟩)
abbrev nO(st:Stmt):List Str:=((av st).names.filter λp=>p.2==.local || p.2==.cell).map (·.1)
local macro_rules
 | `(tactic| ac_nf) => `(tactic| first | exact λ_ _ _ _ _ _ => us1 λ_ => rfl | exact λ_ _ _ _ _ _ => us2 λ_ _ => rfl | exact λ_ _ _ _ _ _ => us3 λ_ _ _ => rfl | exact λ_ _ _ _ _ _ => us4 λ_ _ _ _ => rfl | exact λ_ _ _ _ _ _ => us5 λ_ _ _ _ _ => rfl | exact λ_ _ _ _ _ _ => us6 λ_ _ _ _ _ _ => rfl)
local macro_rules
 | `(tactic| bv_omega) => `(tactic| (intro ds M Q h; first | (obtain ⟨_, e, _⟩ := h; subst e; rfl) | (obtain ⟨_, _, e, _⟩ := h; subst e; rfl) | (obtain ⟨_, _, _, e, _⟩ := h; subst e; rfl) | (obtain ⟨_, _, _, _, e, _⟩ := h; subst e; rfl) | (obtain ⟨_, _, _, _, _, e, _⟩ := h; subst e; rfl) | (obtain ⟨_, _, _, _, _, _, e, _⟩ := h; subst e; rfl) | (obtain ⟨_, _, _, _, _, _, _, e, _⟩ := h; subst e; rfl) | (obtain ⟨_, _, _, _, _, _, _, _, e, _⟩ := h; subst e; rfl) | (obtain ⟨_, _, _, _, _, _, _, _, _, e, _⟩ := h; subst e; rfl) | (obtain ⟨_, _, _, _, _, _, _, _, _, _, e, _⟩ := h; subst e; rfl) | (obtain ⟨_, _, _, _, _, _, _, _, _, _, _, e, _⟩ := h; subst e; rfl) | (obtain ⟨_, _, _, _, _, _, _, _, _, _, _, _, e, _⟩ := h; subst e; rfl) | (obtain ⟨_, _, _, _, _, _, _, _, _, _, _, _, _, e, _⟩ := h; subst e; rfl) | (obtain ⟨_, _, _, _, _, _, _, _, _, _, _, _, _, _, e, _⟩ := h; subst e; rfl)))
def metC(c:SH.CA):MT0:=λa m=>(SH.kindAt c a).bind λk=>if m = "carried" then some (SH.bF c k) else if m = "leaning" then some (SH.bH c k) else if m = "blocked" then some (SH.bG c k) else none
def metS(c:SH.CA)(S:Addr):MT0:=λa m=>if a=S then(if m = "how_many" then some (SH.c5 c S) else if m = "rows_for" then some (SH.dX c S) else if m = "rows_helped" then some (SH.dY c S) else if m = "head_of" then some (SH.gg c S) else if m = "conds_of" then some (SH.c8 c S) else if m = "row_count" then some (SH.ij c S) else none) else none
def BU(S:Addr):OK0:=λC f=>C=S/\f∈SH.hJ
def Aj(Z:Addr):OK0:=λC f=>C=Z/\f∈SH.oq
def metZ(Z:Addr):MT0:=λa m=>if a=Z then(if m = "runs" then some (SH.pP Z) else if m = "answer_of" then some (SH.io Z) else if m = "true_round" then some (SH.fF Z) else if m = "false_round" then some (SH.eg Z) else none) else none
theorem BV{Z:Addr}:metZ Z Z "runs" = some (SH.pP Z):=by unfold metZ;rw[if_pos rfl];kernel_rfl
theorem uL{Z:Addr}:metZ Z Z "answer_of" = some (SH.io Z):=by unfold metZ;rw[if_pos rfl];kernel_rfl
theorem tV{Z:Addr}:metZ Z Z "true_round" = some (SH.fF Z):=by unfold metZ;rw[if_pos rfl];kernel_rfl
theorem rP{Z:Addr}:metZ Z Z "false_round" = some (SH.eg Z):=by unfold metZ;rw[if_pos rfl];kernel_rfl
def Hn(W:Addr):OK0:=λC f=>C=W/\f∈SH.jt
def metW(W:Addr):MT0:=λa m=>if a=W then(if m = "true_ahead" then some (SH.fG W) else if m = "true_by_rounds" then some (SH.li W) else if m = "not_false_by" then some (SH.cY W) else if m = "open_ahead" then some (SH.fH W) else none) else none
theorem tX{W:Addr}:metW W W "true_ahead" = some (SH.fG W):=by unfold metW;rw[if_pos rfl];kernel_rfl
theorem o6{W:Addr}:metW W W "true_by_rounds" = some (SH.li W):=by unfold metW;rw[if_pos rfl];kernel_rfl
theorem ke{W:Addr}:metW W W "not_false_by" = some (SH.cY W):=by unfold metW;rw[if_pos rfl];kernel_rfl
theorem tY{W:Addr}:metW W W "open_ahead" = some (SH.fH W):=by unfold metW;rw[if_pos rfl];kernel_rfl
def metJ(A B:MT0):MT0:=λa m=>match A a m with
 |some sp=>some sp
 |none=>B a m
theorem nC{A B:MT0}{a:Addr}{m:Str}{sp:SpD}(h:A a m=some sp):metJ A B a m=some sp:=by unfold metJ;rw[h]
theorem iA{A B:MT0}{a:Addr}{m:Str}{sp:SpD}(h:A a m=none)(h':B a m=some sp):metJ A B a m=some sp:=by unfold metJ;rw[h];exact h'
section
variable {P:Zw}{w:World}{K:Za}{mg:Ze}{base:Heap}{c:SH.CA}{S Z W:Addr}{k:Nat}
theorem xJ(h:c.apart)(t:SH.CT):metC c (c.at t.kind) "carried" = some (SH.bF c t.kind):=by
 unfold metC;rw[h _ t.kind_lt];rfl
theorem xK(h:c.apart)(t:SH.CT):metC c (c.at t.kind) "leaning" = some (SH.bH c t.kind):=by
 unfold metC;rw[h _ t.kind_lt];rfl
theorem fW:metS c S S "how_many" = some (SH.c5 c S):=by unfold metS;rw[if_pos rfl];kernel_rfl
theorem jS:metS c S S "rows_for" = some (SH.dX c S):=by unfold metS;rw[if_pos rfl];kernel_rfl
theorem rQ:metS c S S "rows_helped" = some (SH.dY c S):=by unfold metS;rw[if_pos rfl];kernel_rfl
theorem lz:metS c S S "head_of" = some (SH.gg c S):=by unfold metS;rw[if_pos rfl];kernel_rfl
theorem fX:metS c S S "conds_of" = some (SH.c8 c S):=by unfold metS;rw[if_pos rfl];kernel_rfl
theorem xL(h:c.apart)(t:SH.CT):metC c (c.at t.kind) "blocked" = some (SH.bG c t.kind):=by
 unfold metC;rw[h _ t.kind_lt];rfl
theorem uM:metS c S S "row_count" = some (SH.ij c S):=by unfold metS;rw[if_pos rfl];kernel_rfl
theorem xM{a:Addr}:metS c S a "runs" = none:=by
 unfold metS;split<;>kernel_rfl
theorem qH{a:Addr}:metS c S a "answer_of" = none:=by
 unfold metS;split<;>kernel_rfl
theorem pU{a:Addr}:metS c S a "true_round" = none:=by
 unfold metS;split<;>kernel_rfl
theorem o7{a:Addr}:metS c S a "false_round" = none:=by
 unfold metS;split<;>kernel_rfl
theorem pV{a:Addr}:metS c S a "true_ahead" = none:=by
 unfold metS;split<;>kernel_rfl
theorem mS{a:Addr}:metS c S a "true_by_rounds" = none:=by
 unfold metS;split<;>kernel_rfl
theorem iB{a:Addr}:metS c S a "not_false_by" = none:=by
 unfold metS;split<;>kernel_rfl
theorem pX{a:Addr}:metS c S a "open_ahead" = none:=by
 unfold metS;split<;>kernel_rfl
theorem fnH{h:Heap}{x:Str}{st:Stmt}{N:Zf}{sp:SpD}{ir:Ss}{glob blt fns:Zf}{cn:Cn}(A:HDef K x st){ps:Zf}(X:K.In h)(G:h.Ns mainGlobals mg)
  (hb:∀(kV doc pm:Value) (an:Zm) (cdv ct:Value) (us:Zd),us.length=ps.length->bindArgs (PySem.W.fnOf x x (bo st) (aK st) (av st) .none kV doc pm an cdv ct) ⟨us,[]⟩=pure (ps.zip us))
  (S:FnScope N ps (av st)) (nm:Names P w K mg base k glob blt fns cn) (hc:cr ⟨N,av st,true,glob,blt,fns⟩ ir (aK st)=true) (len:∀ds M Q,sp ds M Q->ds.length=ps.length)
  (h':∀ds M Q,sp ds M Q->wSs cn ir { nx:=λ_ M'=>Q .non M',rt:=Q } (af N ds) M):FnD P w K mg base (k+1) x sp:=by
 obtain⟨_,_,A⟩:=A;exact G5 (A.def_ X G hb) S nm hc len h'
theorem bm{C:Addr}{m qual:Str}{st:Stmt}{ps N:Zf}{sp:SpD}{ir:Ss}{glob blt fns:Zf}{cn:Cn}(cl:Cls K C)(A:aQ K C m qual st)(S:FnScope N ps (av st))(nm:Names P w K mg base k glob blt fns cn)
  (hb:∀(kV doc pm:Value) (an:Zm) (cdv ct:Value) (us:Zd),us.length=ps.length->bindArgs (PySem.W.fnOf m qual (bo st) (aK st) (av st) .none kV doc pm an cdv ct) ⟨us,[]⟩=pure (ps.zip us))
  (hc:cr ⟨N,av st,true,glob,blt,fns⟩ ir (aK st)=true) (len:∀ds M Q,sp ds M Q->ds.length=ps.length)
  (h:∀ds M Q,sp ds M Q->wSs cn ir { nx:=λ_ M'=>Q .non M',rt:=Q } (af N ds) M):aJ P w K mg base (k+1) C m sp:=by
 obtain⟨_,_,A⟩:=A;exact De cl A S nm hb hc len h
theorem mkH{x:Str}{C:Addr}{qual:Str}{st:Stmt}{ps N:Zf}{sp:SpD}{ir:Ss}{glob blt fns:Zf}{cn:Cn}(hx:mg x=some (.ref C))(hm:PySem.W.makesIn K C=true)(hk:PySem.W.keepIn K (.ref C)=true)(A:aQ K C "__init__" qual st)
  (S:FnScope N ps (av st)) (nm:Names P w K mg base k glob blt fns cn)
  (hb:∀(kV doc pm:Value) (an:Zm) (cdv ct:Value) (us:Zd),us.length=ps.length->bindArgs (PySem.W.fnOf "__init__" qual (bo st) (aK st) (av st) .none kV doc pm an cdv ct) ⟨us,[]⟩=pure (ps.zip us))
  (hc:cr ⟨N,av st,true,glob,blt,fns⟩ ir (aK st)=true) (len:∀ds M Q,sp ds M Q->ds.length=ps.length)
  (h:∀ds M Q,sp ds M Q->wSs cn ir { nx:=λ_ M'=>Q .non M',rt:=Q } (af N ds) M):cJ P w K mg base (k+2) x (a9 C sp):=by
 obtain⟨_,_,A⟩:=A;exact G6 hx hm hk A S nm hb hc len h
structure Env0 (K:Za) (mg:Ze) (c:SH.CA) (S Z W:Addr):Prop where
 gl:∀(j:Nat) x,gE[j]?=some x->ph K mg x (kg.getD j .non)
 bl:∀x,bltL.contains x=true->mg x=none
 cl:∀i,i<4->clsIn K (c.at i) SH.gb=true
 sh:clsIn K S SH.hJ=true
 so:clsIn K Z SH.oq=true
 cw:clsIn K W SH.jt=true
theorem Env0.fl(E:Env0 K mg c S Z W):∀C f,SH.fldO c C f->Cls K C/\bZ K C f:=by
 rintro C f ⟨i,hi,rfl,hf⟩;exact⟨aE (E.cl i hi),nH (E.cl i hi) hf⟩
theorem Env0.fs(E:Env0 K mg c S Z W):∀C f,BU S C f->Cls K C/\bZ K C f:=by
 rintro C f ⟨rfl,hf⟩;exact⟨aE E.sh,nH E.sh hf⟩
abbrev Fns(P:Zw)(w:World)(K:Za)(mg:Ze)(base:Heap)(k:Nat)(fns:Zf)(F:List SpD):Prop:=∀(j:Nat) (x:Str),fns[j]?=some x->∃k',k'<=k/\cJ P w K mg base k' x (F.getD j λ_ _ _=>False)
theorem nm0{fns:Zf}{F:List SpD}(E:Env0 K mg c S Z W)(hf:Fns P w K mg base k fns F):
 Names P w K mg base k gE bltL fns ⟨F,kg,SH.fldO c,λ_ _=>none,λ_ _=>none⟩:=⟨E.gl,E.bl,hf,E.fl,(λ_ _ _ z=>nomatch z),(λ_ _ _ z=>nomatch z)⟩
theorem nmO{fns:Zf}{F:List SpD}(E:Env0 K mg c S Z W)(hf:Fns P w K mg base k fns F):
 Names P w K mg base k gE bltL fns ⟨F,kg,BU S,λ_ _=>none,λ_ _=>none⟩:=⟨E.gl,E.bl,hf,E.fs,(λ_ _ _ z=>nomatch z),(λ_ _ _ z=>nomatch z)⟩
theorem nmC{fns:Zf}{F:List SpD}(E:Env0 K mg c S Z W)(mt:∀C m sp,metC c C m=some sp->∃k',k'<=k/\aJ P w K mg base k' C m sp)(hf:Fns P w K mg base k fns F):
 Names P w K mg base k gE bltL fns ⟨F,kg,SH.fldO c,metC c,λ_ _=>none⟩:=⟨E.gl,E.bl,hf,E.fl,mt,(λ_ _ _ z=>nomatch z)⟩
theorem nmS{fns:Zf}{F:List SpD}(E:Env0 K mg c S Z W)(mt:∀C m sp,metS c S C m=some sp->∃k',k'<=k/\aJ P w K mg base k' C m sp)(hf:Fns P w K mg base k fns F):
 Names P w K mg base k gE bltL fns ⟨F,kg,SH.fldO c,metS c S,λ_ _=>none⟩:=⟨E.gl,E.bl,hf,E.fl,mt,(λ_ _ _ z=>nomatch z)⟩
theorem a0{T:MT0}{j:Nat}(h:j<=k)(mt:∀C m sp,T C m=some sp->∃k',k'<=j/\aJ P w K mg base k' C m sp):∀C m sp,T C m=some sp->∃k',k'<=k/\aJ P w K mg base k' C m sp:=λC m sp e=>let⟨k',h1,h2⟩:=mt C m sp e;⟨k',ZX h1 h,h2⟩
theorem Env0.fz(E:Env0 K mg c S Z W):∀C f,Aj Z C f->Cls K C/\bZ K C f:=by
 rintro C f ⟨rfl,hf⟩;exact⟨aE E.so,nH E.so hf⟩
theorem nmZO{fns:Zf}{F:List SpD}(E:Env0 K mg c S Z W)(hf:Fns P w K mg base k fns F):
 Names P w K mg base k gE bltL fns ⟨F,kg,Aj Z,λ_ _=>none,λ_ _=>none⟩:=⟨E.gl,E.bl,hf,E.fz,(λ_ _ _ z=>nomatch z),(λ_ _ _ z=>nomatch z)⟩
theorem nmSZ{fns:Zf}{F:List SpD}(E:Env0 K mg c S Z W)(mt:∀C m sp,metS c S C m=some sp->∃k',k'<=k/\aJ P w K mg base k' C m sp)(hf:Fns P w K mg base k fns F):
 Names P w K mg base k gE bltL fns ⟨F,kg,Aj Z,metS c S,λ_ _=>none⟩:=⟨E.gl,E.bl,hf,E.fz,mt,(λ_ _ _ z=>nomatch z)⟩
theorem Env0.fw(E:Env0 K mg c S Z W):∀C f,Hn W C f->Cls K C/\bZ K C f:=by
 rintro C f ⟨rfl,hf⟩;exact⟨aE E.cw,nH E.cw hf⟩
theorem nmG{O:OK0}{T:MT0}{fns:Zf}{F:List SpD}(E:Env0 K mg c S Z W)(ho:∀C f,O C f->Cls K C/\bZ K C f)(mt:∀C m sp,T C m=some sp->∃k',k'<=k/\aJ P w K mg base k' C m sp)(hf:Fns P w K mg base k fns F):
 Names P w K mg base k gE bltL fns ⟨F,kg,O,T,λ_ _=>none⟩:=⟨E.gl,E.bl,hf,ho,mt,(λ_ _ _ z=>nomatch z)⟩
theorem mtJ{A B:MT0}(mA:∀C m sp',A C m=some sp'->∃k',k'<=k/\aJ P w K mg base k' C m sp')(mB:∀C m sp',B C m=some sp'->∃k',k'<=k/\aJ P w K mg base k' C m sp'):∀C m sp',metJ A B C m=some sp'->∃k',k'<=k/\aJ P w K mg base k' C m sp':=by
 intro C m sp' e;unfold metJ at e;split at e
 ·rename_i sp h
  cases e;exact mA C m _ h
 ·exact mB C m sp' e
theorem oB(i:Nat){n:Nat}(h:∀t:SH.CT,t.kind=i->t.flds.length+1=n){ps:Zf}(hp:ps.length=n):∀ds M Q,SH.bQ c i ds M Q->ds.length=ps.length:=by
 rintro ds M Q ⟨a,t,hk,rfl,_⟩;rw[YH,ZE,h t hk,hp]
theorem Ho(E:Env0 K mg c S Z W)
  (ap:c.apart)
  {hp:Heap}
  (X:K.In hp)
  (G:hp.Ns mainGlobals mg)
  {f_46:Addr}{d_46:Zv}(a_46:DefAt K "law" sg f_46 d_46)
  (mg_47:mg "Have" = some (.ref (c.at 0))) (mk_47:PySem.W.makesIn K (c.at 0)=true) (kp_47:PySem.W.keepIn K (.ref (c.at 0))=true)
  (mg_48:mg "Lack" = some (.ref (c.at 1))) (mk_48:PySem.W.makesIn K (c.at 1)=true) (kp_48:PySem.W.keepIn K (.ref (c.at 1))=true)
  (mg_49:mg "Some" = some (.ref (c.at 2))) (mk_49:PySem.W.makesIn K (c.at 2)=true) (kp_49:PySem.W.keepIn K (.ref (c.at 2))=true)
  (mg_50:mg "Lead" = some (.ref (c.at 3))) (mk_50:PySem.W.makesIn K (c.at 3)=true) (kp_50:PySem.W.keepIn K (.ref (c.at 3))=true)
  (mg_51:mg "Sheet" = some (.ref S)) (mk_51:PySem.W.makesIn K S=true) (kp_51:PySem.W.keepIn K (.ref S)=true)
  (mg_52:mg "Sorting" = some (.ref Z)) (mk_52:PySem.W.makesIn K Z=true) (kp_52:PySem.W.keepIn K (.ref Z)=true)
  (mg_54:mg "Claims" = some (.ref W)) (mk_54:PySem.W.makesIn K W=true) (kp_54:PySem.W.keepIn K (.ref W)=true)
  (hy:Hyps K (c.at 0) (c.at 1) (c.at 2) (c.at 3) S Z W):
  FnOk P w K mg base CX0 13 f_46 d_46 ["_law_script"] (gD K SQ.vO):=by
 have F_0:FnD P w K mg base 1 "has_fact" (SH.aZ):=fnH hy.a_0 (N:=nO nK) (ps:=(nO nK).take 2) X G (by ac_nf) (by ac_rfl) (nm0 (F:=[]) (k:=0) E (ae (F:=[]))) 'e' (by bv_omega) (λds M Q h=>SH.xS h);have F_1:FnD P w K mg base 2 "count_in" (SH.dB):=fnH hy.a_1 (N:=nO nL) (ps:=(nO nL).take 2) X G (by ac_nf) (by ac_rfl) (nm0 (F:=[SH.aZ]) (k:=1) E (ab 'a' (.inl F_0) (ae (F:=[])))) 'e' (by bv_omega) (λds M Q h=>SH.xT rfl h);have F_2:FnD P w K mg base 2 "answer_in" (SH.km):=fnH hy.a_2 (N:=nO ml) (ps:=(nO ml).take 3) X G (by ac_nf) (by ac_rfl) (nm0 (F:=[SH.aZ]) (k:=1) E (ab 'a' (.inl F_0) (ae (F:=[])))) 'e' (by bv_omega) (λds M Q h=>SH.xz rfl h);have F_3:FnD P w K mg base 1 "set_of" (SH.bu):=fnH hy.a_3 (N:=nO qY) (ps:=(nO qY).take 1) X G (by ac_nf) (by ac_rfl) (nm0 (F:=[]) (k:=0) E (ae (F:=[]))) 'e' (by bv_omega) (λds M Q h=>SH.Bx h);have F_47:cJ P w K mg base 2 "Have" (a9 (c.at 0) (SH.bQ c 0)):=mkH (N:=nO mx) (ps:=(nO mx).take 2) mg_47 mk_47 kp_47 hy.a_65 (by ac_rfl) (nm0 (F:=[]) (k:=0) E (ae (F:=[]))) (by ac_nf) 'e' (oB 0 (n:=2) (λt ht=>by cases t<;>first | rfl | cases ht) rfl) (λds M Q h=>SH.wN rfl h);have M_66:aJ P w K mg base 2 (c.at 0) "carried" (SH.bF c 0):=bm (N:=nO iH) (ps:=(nO iH).take 3) (aE (E.cl 0 'a')) hy.a_66 (by ac_rfl) (nm0 (F:=[SH.aZ]) (k:=1) E (ab 'a' (.inl F_0) (ae (F:=[])))) (by ac_nf) 'e' (by bv_omega) (λds M Q h=>SH.sW rfl rfl h);have M_67:aJ P w K mg base 1 (c.at 0) "leaning" (SH.bH c 0):=bm (N:=nO iJ) (ps:=(nO iJ).take 1) (aE (E.cl 0 'a')) hy.a_67 (by ac_rfl) (nm0 (F:=[]) (k:=0) E (ae (F:=[]))) (by ac_nf) 'e' (by bv_omega) (λds M Q h=>SH.tm rfl h);have M_68:aJ P w K mg base 2 (c.at 0) "blocked" (SH.bG c 0):=bm (N:=nO iI) (ps:=(nO iI).take 3) (aE (E.cl 0 'a')) hy.a_68 (by ac_rfl) (nm0 (F:=[SH.aZ]) (k:=1) E (ab 'a' (.inl F_0) (ae (F:=[])))) (by ac_nf) 'e' (by bv_omega) (λds M Q h=>SH.sY rfl rfl h);have F_48:cJ P w K mg base 2 "Lack" (a9 (c.at 1) (SH.bQ c 1)):=mkH (N:=nO my) (ps:=(nO my).take 2) mg_48 mk_48 kp_48 hy.a_69 (by ac_rfl) (nm0 (F:=[]) (k:=0) E (ae (F:=[]))) (by ac_nf) 'e' (oB 1 (n:=2) (λt ht=>by cases t<;>first | rfl | cases ht) rfl) (λds M Q h=>SH.wO rfl h);have M_70:aJ P w K mg base 2 (c.at 1) "carried" (SH.bF c 1):=bm (N:=nO iK) (ps:=(nO iK).take 3) (aE (E.cl 1 'a')) hy.a_70 (by ac_rfl) (nm0 (F:=[SH.aZ]) (k:=1) E (ab 'a' (.inl F_0) (ae (F:=[])))) (by ac_nf) 'e' (by bv_omega) (λds M Q h=>SH.sZ rfl rfl h);have M_71:aJ P w K mg base 1 (c.at 1) "leaning" (SH.bH c 1):=bm (N:=nO iM) (ps:=(nO iM).take 1) (aE (E.cl 1 'a')) hy.a_71 (by ac_rfl) (nm0 (F:=[]) (k:=0) E (ae (F:=[]))) (by ac_nf) 'e' (by bv_omega) (λds M Q h=>SH.tq rfl h);have M_72:aJ P w K mg base 2 (c.at 1) "blocked" (SH.bG c 1):=bm (N:=nO iL) (ps:=(nO iL).take 3) (aE (E.cl 1 'a')) hy.a_72 (by ac_rfl) (nm0 (F:=[SH.aZ]) (k:=1) E (ab 'a' (.inl F_0) (ae (F:=[])))) (by ac_nf) 'e' (by bv_omega) (λds M Q h=>SH.sX rfl rfl h);have F_49:cJ P w K mg base 2 "Some" (a9 (c.at 2) (SH.bQ c 2)):=mkH (N:=nO mz) (ps:=(nO mz).take 3) mg_49 mk_49 kp_49 hy.a_73 (by ac_rfl) (nm0 (F:=[]) (k:=0) E (ae (F:=[]))) (by ac_nf) 'e' (oB 2 (n:=3) (λt ht=>by cases t<;>first | rfl | cases ht) rfl) (λds M Q h=>SH.wQ rfl h);have M_74:aJ P w K mg base 3 (c.at 2) "carried" (SH.bF c 2):=bm (N:=nO iN) (ps:=(nO iN).take 3) (aE (E.cl 2 'a')) hy.a_74 (by ac_rfl) (nm0 (F:=[SH.dB]) (k:=2) E (ab 'a' (.inl F_1) (ae (F:=[])))) (by ac_nf) 'e' (by bv_omega) (λds M Q h=>SH.s9 rfl rfl h);have M_75:aJ P w K mg base 1 (c.at 2) "leaning" (SH.bH c 2):=bm (N:=nO iP) (ps:=(nO iP).take 1) (aE (E.cl 2 'a')) hy.a_75 (by ac_rfl) (nm0 (F:=[]) (k:=0) E (ae (F:=[]))) (by ac_nf) 'e' (by bv_omega) (λds M Q h=>SH.tt rfl h);have M_76:aJ P w K mg base 3 (c.at 2) "blocked" (SH.bG c 2):=bm (N:=nO iO) (ps:=(nO iO).take 3) (aE (E.cl 2 'a')) hy.a_76 (by ac_rfl) (nm0 (F:=[SH.dB]) (k:=2) E (ab 'a' (.inl F_1) (ae (F:=[])))) (by ac_nf) 'e' (by bv_omega) (λds M Q h=>SH.td rfl rfl h);have F_50:cJ P w K mg base 2 "Lead" (a9 (c.at 3) (SH.bQ c 3)):=mkH (N:=nO mC) (ps:=(nO mC).take 3) mg_50 mk_50 kp_50 hy.a_77 (by ac_rfl) (nm0 (F:=[]) (k:=0) E (ae (F:=[]))) (by ac_nf) 'e' (oB 3 (n:=3) (λt ht=>by cases t<;>first | rfl | cases ht) rfl) (λds M Q h=>SH.wR rfl h);have M_78:aJ P w K mg base 3 (c.at 3) "carried" (SH.bF c 3):=bm (N:=nO iQ) (ps:=(nO iQ).take 3) (aE (E.cl 3 'a')) hy.a_78 (by ac_rfl) (nm0 (F:=[SH.aZ,SH.dB]) (k:=2) E (ab 'a' (.inl F_0) (ab 'a' (.inl F_1) (ae (F:=[]))))) (by ac_nf) 'e' (by bv_omega) (λds M Q h=>SH.tf rfl rfl rfl h);have M_79:aJ P w K mg base 1 (c.at 3) "leaning" (SH.bH c 3):=bm (N:=nO iS) (ps:=(nO iS).take 1) (aE (E.cl 3 'a')) hy.a_79 (by ac_rfl) (nm0 (F:=[]) (k:=0) E (ae (F:=[]))) (by ac_nf) 'e' (by bv_omega) (λds M Q h=>SH.tu rfl h);have M_80:aJ P w K mg base 3 (c.at 3) "blocked" (SH.bG c 3):=bm (N:=nO iR) (ps:=(nO iR).take 3) (aE (E.cl 3 'a')) hy.a_80 (by ac_rfl) (nm0 (F:=[SH.aZ,SH.dB]) (k:=2) E (ab 'a' (.inl F_0) (ab 'a' (.inl F_1) (ae (F:=[]))))) (by ac_nf) 'e' (by bv_omega) (λds M Q h=>SH.tj rfl rfl rfl h);have M_82:aJ P w K mg base 1 S "how_many" (SH.c5 c S):=bm (N:=nO f6) (ps:=(nO f6).take 1) (aE E.sh) hy.a_82 (by ac_rfl) (nmO (F:=[]) (k:=0) E (ae (F:=[]))) (by ac_nf) 'e' (by bv_omega) (λds M Q h=>SH.x9 (λf hf=>⟨rfl,hf⟩) h);have M_83:aJ P w K mg base 1 S "rows_for" (SH.dX c S):=bm (N:=nO f7) (ps:=(nO f7).take 2) (aE E.sh) hy.a_83 (by ac_rfl) (nmO (F:=[]) (k:=0) E (ae (F:=[]))) (by ac_nf) 'e' (by bv_omega) (λds M Q h=>SH.ya (λf hf=>⟨rfl,hf⟩) h);have M_84:aJ P w K mg base 1 S "rows_helped" (SH.dY c S):=bm (N:=nO dH) (ps:=(nO dH).take 2) (aE E.sh) hy.a_84 (by ac_rfl) (nmO (F:=[]) (k:=0) E (ae (F:=[]))) (by ac_nf) 'e' (by bv_omega) (λds M Q h=>SH.uq (λf hf=>⟨rfl,hf⟩) h);have M_85:aJ P w K mg base 1 S "head_of" (SH.gg c S):=bm (N:=nO gH) (ps:=(nO gH).take 2) (aE E.sh) hy.a_85 (by ac_rfl) (nmO (F:=[]) (k:=0) E (ae (F:=[]))) (by ac_nf) 'e' (by bv_omega) (λds M Q h=>SH.z9 (λf hf=>⟨rfl,hf⟩) h);have M_86:aJ P w K mg base 1 S "conds_of" (SH.c8 c S):=bm (N:=nO f8) (ps:=(nO f8).take 2) (aE E.sh) hy.a_86 (by ac_rfl) (nmO (F:=[]) (k:=0) E (ae (F:=[]))) (by ac_nf) 'e' (by bv_omega) (λds M Q h=>SH.yb (λf hf=>⟨rfl,hf⟩) h);have M_64:aJ P w K mg base 1 S "row_count" (SH.ij c S):=bm (N:=nO eV) (ps:=(nO eV).take 1) (aE E.sh) hy.a_64 (by ac_rfl) (nmO (F:=[]) (k:=0) E (ae (F:=[]))) (by ac_nf) 'e' (by bv_omega) (λds M Q h=>SH.xv (λf hf=>⟨rfl,hf⟩) h);have M_60:aJ P w K mg base 1 Z "runs" (SH.pP Z):=bm (N:=nO iU) (ps:=(nO iU).take 1) (aE E.so) hy.a_60 (by ac_rfl) (nmZO (F:=[]) (k:=0) E (ae (F:=[]))) (by ac_nf) 'e' (by bv_omega) (λds M Q h=>SH.Fu (λf hf=>⟨rfl,hf⟩) h);have M_61:aJ P w K mg base 3 Z "answer_of" (SH.io Z):=bm (N:=nO dE) (ps:=(nO dE).take 2) (aE E.so) hy.a_61 (by ac_rfl) (nmZO (F:=[SH.km]) (k:=2) E (ab 'a' (.inl F_2) (ae (F:=[])))) (by ac_nf) 'e' (by bv_omega) (λds M Q h=>SH.xA (λf hf=>⟨rfl,hf⟩) rfl h);have M_62:aJ P w K mg base 2 Z "true_round" (SH.fF Z):=bm (N:=nO db) (ps:=(nO db).take 2) (aE E.so) hy.a_62 (by ac_rfl) (nmZO (F:=[SH.aZ]) (k:=1) E (ab 'a' (.inl F_0) (ae (F:=[])))) (by ac_nf) 'e' (by bv_omega) (λds M Q h=>SH.vz (λf hf=>⟨rfl,hf⟩) rfl h);have M_63:aJ P w K mg base 2 Z "false_round" (SH.eg Z):=bm (N:=nO cP) (ps:=(nO cP).take 2) (aE E.so) hy.a_63 (by ac_rfl) (nmZO (F:=[SH.aZ]) (k:=1) E (ab 'a' (.inl F_0) (ae (F:=[])))) (by ac_nf) 'e' (by bv_omega) (λds M Q h=>SH.uE (λf hf=>⟨rfl,hf⟩) rfl h);have M_56:aJ P w K mg base 2 W "true_ahead" (SH.fG W):=bm (N:=nO dF) (ps:=(nO dF).take 3) (aE E.cw) hy.a_56 (by ac_rfl) (nmG (T:=λ_ _=>none) (F:=[SH.bu]) (k:=1) E E.fw (λ_ _ _ z=>nomatch z) (ab 'a' (.inl F_3) (ae (F:=[])))) (by ac_nf) 'e' (by bv_omega) (λds M Q h=>SH.vA (λf hf=>⟨rfl,hf⟩) rfl h);have M_57:aJ P w K mg base 2 W "true_by_rounds" (SH.li W):=bm (N:=nO ci) (ps:=(nO ci).take 2) (aE E.cw) hy.a_57 (by ac_rfl) (nmG (T:=λ_ _=>none) (F:=[SH.bu]) (k:=1) E E.fw (λ_ _ _ z=>nomatch z) (ab 'a' (.inl F_3) (ae (F:=[])))) (by ac_nf) 'e' (by bv_omega) (λds M Q h=>SH.Ah (λf hf=>⟨rfl,hf⟩) rfl h);have M_58:aJ P w K mg base 2 W "not_false_by" (SH.cY W):=bm (N:=nO cQ) (ps:=(nO cQ).take 2) (aE E.cw) hy.a_58 (by ac_rfl) (nmG (T:=λ_ _=>none) (F:=[SH.bu]) (k:=1) E E.fw (λ_ _ _ z=>nomatch z) (ab 'a' (.inl F_3) (ae (F:=[])))) (by ac_nf) 'e' (by bv_omega) (λds M Q h=>SH.tP (λf hf=>⟨rfl,hf⟩) rfl h);have M_59:aJ P w K mg base 2 W "open_ahead" (SH.fH W):=bm (N:=nO dG) (ps:=(nO dG).take 2) (aE E.cw) hy.a_59 (by ac_rfl) (nmG (T:=λ_ _=>none) (F:=[SH.bu]) (k:=1) E E.fw (λ_ _ _ z=>nomatch z) (ab 'a' (.inl F_3) (ae (F:=[])))) (by ac_nf) 'e' (by bv_omega) (λds M Q h=>SH.vB (λf hf=>⟨rfl,hf⟩) rfl h);have MC:∀C m sp,metC c C m=some sp->∃k',k'<=3/\aJ P w K mg base k' C m sp:=by
  intro C m sp e;unfold metC at e;have at_:∀i,SH.kindAt c C=some i->C=c.at i/\i<4:=by
   intro i hi;unfold SH.kindAt at hi;split at hi
   ·cases hi;exact⟨by assumption,by decide⟩
   ·split at hi
    ·cases hi;exact⟨by assumption,by decide⟩
    ·split at hi
     ·cases hi;exact⟨by assumption,by decide⟩
     ·split at hi
      ·cases hi;exact⟨by assumption,by decide⟩
      ·cases hi
  cases q:SH.kindAt c C with
  |none=>rw[q] at e;cases e
  |some i=>
   rw[q] at e;obtain⟨rfl,hi⟩:=at_ i q;have e:(if m = "carried" then some (SH.bF c i) else if m = "leaning" then some (SH.bH c i) else if m = "blocked" then some (SH.bG c i) else none)=some sp:=e;have i4:i=0\/i=1\/i=2\/i=3:=by omega
   split at e
   ·rename_i hm
    subst hm;cases e;rcases i4 with rfl | rfl | rfl | rfl
    ·exact⟨_,by decide,M_66⟩
    ·exact⟨_,by decide,M_70⟩
    ·exact⟨_,by decide,M_74⟩
    ·exact⟨_,by decide,M_78⟩
   ·split at e
    ·rename_i hm
     subst hm;cases e;rcases i4 with rfl | rfl | rfl | rfl
     ·exact⟨_,by decide,M_67⟩
     ·exact⟨_,by decide,M_71⟩
     ·exact⟨_,by decide,M_75⟩
     ·exact⟨_,by decide,M_79⟩
    ·split at e
     ·rename_i hm
      subst hm;cases e;rcases i4 with rfl | rfl | rfl | rfl
      ·exact⟨_,by decide,M_68⟩
      ·exact⟨_,by decide,M_72⟩
      ·exact⟨_,by decide,M_76⟩
      ·exact⟨_,by decide,M_80⟩
     ·cases e
 have MS:∀C m sp,metS c S C m=some sp->∃k',k'<=1/\aJ P w K mg base k' C m sp:=by
  intro C m sp e;unfold metS at e;split at e
  ·rename_i hC
   subst hC;split at e
   ·rename_i hm;subst hm;cases e;exact⟨_,by decide,M_82⟩
   ·split at e
    ·rename_i hm;subst hm;cases e;exact⟨_,by decide,M_83⟩
    ·split at e
     ·rename_i hm;subst hm;cases e;exact⟨_,by decide,M_84⟩
     ·split at e
      ·rename_i hm;subst hm;cases e;exact⟨_,by decide,M_85⟩
      ·split at e
       ·rename_i hm;subst hm;cases e;exact⟨_,by decide,M_86⟩
       ·split at e
        ·rename_i hm;subst hm;cases e;exact⟨_,by decide,M_64⟩
        ·cases e
  ·cases e
 have MZ:∀C m sp,metZ Z C m=some sp->∃k',k'<=3/\aJ P w K mg base k' C m sp:=by
  intro C m sp e;unfold metZ at e;split at e
  ·rename_i hC
   subst hC;split at e
   ·rename_i hm;subst hm;cases e;exact⟨_,by decide,M_60⟩
   ·split at e
    ·rename_i hm;subst hm;cases e;exact⟨_,by decide,M_61⟩
    ·split at e
     ·rename_i hm;subst hm;cases e;exact⟨_,by decide,M_62⟩
     ·split at e
      ·rename_i hm;subst hm;cases e;exact⟨_,by decide,M_63⟩
      ·cases e
  ·cases e
 have MW:∀C m sp,metW W C m=some sp->∃k',k'<=2/\aJ P w K mg base k' C m sp:=by
  intro C m sp e;unfold metW at e;split at e
  ·rename_i hC
   subst hC;split at e
   ·rename_i hm;subst hm;cases e;exact⟨_,by decide,M_56⟩
   ·split at e
    ·rename_i hm;subst hm;cases e;exact⟨_,by decide,M_57⟩
    ·split at e
     ·rename_i hm;subst hm;cases e;exact⟨_,by decide,M_58⟩
     ·split at e
      ·rename_i hm;subst hm;cases e;exact⟨_,by decide,M_59⟩
      ·cases e
  ·cases e
 have F_4:FnD P w K mg base 1 "_law_same" (SQ.l9):=fnH hy.a_4 (N:=nO nW) (ps:=(nO nW).take 2) X G (by ac_nf) (by ac_rfl) (nm0 (F:=[]) (k:=0) E (ae (F:=[]))) 'e' (by bv_omega) (λds M Q h=>SQ.yj h);have F_5:FnD P w K mg base 4 "all_carried" (SH.bR c):=fnH hy.a_5 (N:=nO jw) (ps:=(nO jw).take 3) X G (by ac_nf) (by ac_rfl) (nmC (F:=[]) (k:=3) E (a0 'a' MC) (ae (F:=[]))) 'e' (by bv_omega) (λds M Q h=>SH.uo (xJ ap) h);have F_6:FnD P w K mg base 5 "carried_heads" (SH.cT c S):=fnH hy.a_6 (N:=nO gF) (ps:=(nO gF).take 4) X G (by ac_nf) (by ac_rfl) (nmS (F:=[SH.bR c]) (k:=4) E (a0 'a' MS) (ab 'a' (.inl F_5) (ae (F:=[])))) 'e' (by bv_omega) (λds M Q h=>SH.rD rfl lz fX h);have F_7:FnD P w K mg base 2 "helped_rows" (SH.dZ c S):=fnH hy.a_7 (N:=nO jz) (ps:=(nO jz).take 3) X G (by ac_nf) (by ac_rfl) (nmS (F:=[SH.aZ]) (k:=1) E (a0 'a' MS) (ab 'a' (.inl F_0) (ae (F:=[])))) 'e' (by bv_omega) (λds M Q h=>SH.ut rfl rQ lz h);have F_8:FnD P w K mg base 2 "members" (SH.gB):=fnH hy.a_8 (N:=nO pj) (ps:=(nO pj).take 1) X G (by ac_nf) (by ac_rfl) (nm0 (F:=[SH.aZ]) (k:=1) E (ab 'a' (.inl F_0) (ae (F:=[])))) 'e' (by bv_omega) (λds M Q h=>SH.z5 rfl h);have F_9:FnD P w K mg base 3 "all_rows" (SH.lO c S):=fnH hy.a_9 (N:=nO nM) (ps:=(nO nM).take 2) X G (by ac_nf) (by ac_rfl) (nmS (F:=[SH.gB]) (k:=2) E (a0 'a' MS) (ab 'a' (.inl F_8) (ae (F:=[])))) 'e' (by bv_omega) (λds M Q h=>SH.ye rfl jS h);have F_10:FnD P w K mg base 6 "ranked_among" (SH.i3 c S):=fnH hy.a_10 (N:=nO iE) (ps:=(nO iE).take 4) X G (by ac_nf) (by ac_rfl) (nm0 (F:=[SH.cT c S,SH.dZ c S,SH.bu,SH.lO c S,SH.gB]) (k:=5) E (ab 'a' (.inl F_6) (ab 'a' (.inl F_7) (ab 'a' (.inl F_3) (ab 'a' (.inl F_9) (ab 'a' (.inl F_8) (ae (F:=[])))))))) 'e' (by bv_omega) (λds M Q h=>SH.BM rfl rfl rfl rfl rfl h);have F_11:FnD P w K mg base 1 "all_facts" (SH.cu):=fnH hy.a_11 (N:=nO mi) (ps:=(nO mi).take 1) X G (by ac_nf) (by ac_rfl) (nm0 (F:=[]) (k:=0) E (ae (F:=[]))) 'e' (by bv_omega) (λds M Q h=>SH.wW h);have F_12:FnD P w K mg base 7 "ranked_set" (SH.ji c S):=fnH hy.a_12 (N:=nO kE) (ps:=(nO kE).take 3) X G (by ac_nf) (by ac_rfl) (nmS (F:=[SH.i3 c S,SH.cu]) (k:=6) E (a0 'a' MS) (ab 'a' (.inl F_10) (ab 'a' (.inl F_11) (ae (F:=[]))))) 'e' (by bv_omega) (λds M Q h=>SH.vx fW rfl rfl h);have F_13:FnD P w K mg base 8 "ranks" (SH.ni c S):=fnH hy.a_13 (N:=nO ua) (ps:=(nO ua).take 3) X G (by ac_nf) (by ac_rfl) (nm0 (F:=[SH.ji c S]) (k:=7) E (ab 'a' (.inl F_12) (ae (F:=[])))) 'e' (by bv_omega) (λds M Q h=>SH.Dr rfl h);have F_14:FnD P w K mg base 7 "least_among" (SH.hZ c S):=fnH hy.a_14 (N:=nO jy) (ps:=(nO jy).take 4) X G (by ac_nf) (by ac_rfl) (nm0 (F:=[SH.bu,SH.i3 c S]) (k:=6) E (ab 'a' (.inl F_3) (ab 'a' (.inl F_10) (ae (F:=[]))))) 'e' (by bv_omega) (λds M Q h=>SH.uu rfl rfl h);have F_15:FnD P w K mg base 8 "next_pair" (SH.kj c S):=fnH hy.a_15 (N:=nO mn) (ps:=(nO mn).take 5) X G (by ac_nf) (by ac_rfl) (nm0 (F:=[SH.hZ c S]) (k:=7) E (ab 'a' (.inl F_14) (ae (F:=[])))) 'e' (by bv_omega) (λds M Q h=>SH.xq rfl h);have F_16:FnD P w K mg base 9 "to_and_fro" (SH.kl c S):=fnH hy.a_16 (N:=nO kF) (ps:=(nO kF).take 5) X G (by ac_nf) (by ac_rfl) (nm0 (F:=[SH.kj c S]) (k:=8) E (ab 'a' (.inl F_15) (ae (F:=[])))) 'e' (by bv_omega) (λds M Q h=>SH.vw rfl h);have F_52:cJ P w K mg base 11 "Sorting" (a9 Z (SH.fP c S Z)):=mkH (N:=nO iT) (ps:=(nO iT).take 3) mg_52 mk_52 kp_52 hy.a_97 (by ac_rfl) (nmSZ (F:=[SH.kl c S,SH.cu]) (k:=9) E (a0 'a' MS) (ab 'a' (.inl F_16) (ab 'a' (.inl F_11) (ae (F:=[]))))) (by ac_nf) 'e' (by bv_omega) (λds M Q h=>SH.tM (λf hf=>⟨rfl,hf⟩) fW rfl rfl h);have F_17:FnD P w K mg base 12 "papers_of" (SH.ko c S):=fnH hy.a_17 (N:=nO mo) (ps:=(nO mo).take 2) X G (by ac_nf) (by ac_rfl) (nmG (F:=[SH.aZ,SH.ni c S,a9 Z (SH.fP c S Z)]) (k:=11) E E.fl (mtJ (a0 'a' MS) (a0 'a' MZ)) (ab 'a' (.inl F_0) (ab 'a' (.inl F_13) (ab 'a' F_52 (ae (F:=[])))))) 'e' (by bv_omega) (λds M Q h=>SH.xB (nC fW) (iA xM BV) (iA qH uL) (iA pU tV) (iA o7 rP) rfl rfl rfl rfl h);have F_18:FnD P w K mg base 5 "open_is_right" (SH.jj c S W):=fnH hy.a_18 (N:=nO gG) (ps:=(nO gG).take 4) X G (by ac_nf) (by ac_rfl) (nmG (F:=[SH.bR c]) (k:=4) E E.fw (mtJ (a0 'a' MS) (a0 'a' MW)) (ab 'a' (.inl F_5) (ae (F:=[])))) 'e' (by bv_omega) (λds M Q h=>SH.vC (λf hf=>⟨rfl,hf⟩) (nC jS) (nC fX) (iA pX tY) rfl h);have F_19:FnD P w K mg base 4 "any_blocked" (SH.ii c):=fnH hy.a_19 (N:=nO jx) (ps:=(nO jx).take 3) X G (by ac_nf) (by ac_rfl) (nmC (F:=[]) (k:=3) E (a0 'a' MC) (ae (F:=[]))) 'e' (by bv_omega) (λds M Q h=>SH.ux (xL ap) h);have F_20:FnD P w K mg base 5 "false_is_right" (SH.iy c S W):=fnH hy.a_20 (N:=nO fZ) (ps:=(nO fZ).take 4) X G (by ac_nf) (by ac_rfl) (nmG (F:=[SH.ii c]) (k:=4) E E.fw (mtJ (a0 'a' MS) (a0 'a' MW)) (ab 'a' (.inl F_19) (ae (F:=[])))) 'e' (by bv_omega) (λds M Q h=>SH.uJ (nC jS) (nC fX) (iA mS o6) (iA iB ke) rfl h);have F_21:FnD P w K mg base 6 "is_right" (SH.me c S W):=fnH hy.a_21 (N:=nO nP) (ps:=(nO nP).take 5) X G (by ac_nf) (by ac_rfl) (nmG (F:=[SH.jj c S W,SH.iy c S W,SH.aZ,SH.bR c]) (k:=5) E E.fw (mtJ (a0 'a' MS) (a0 'a' MW)) (ab 'a' (.inl F_18) (ab 'a' (.inl F_20) (ab 'a' (.inl F_0) (ab 'a' (.inl F_5) (ae (F:=[]))))))) 'e' (by bv_omega) (λds M Q h=>SH.yl rfl (nC fX) (iA pV tX) (iA iB ke) rfl rfl rfl rfl h);have F_54:cJ P w K mg base 3 "Claims" (a9 W (SH.iw W)):=mkH (N:=nO jC) (ps:=(nO jC).take 2) mg_54 mk_54 kp_54 hy.a_55 (by ac_rfl) (nmG (T:=λ_ _=>none) (F:=[SH.bu,SH.cu]) (k:=1) E E.fw (λ_ _ _ z=>nomatch z) (ab 'a' (.inl F_3) (ab 'a' (.inl F_11) (ae (F:=[]))))) (by ac_nf) 'e' (by bv_omega) (λds M Q h=>SH.uG (λf hf=>⟨rfl,hf⟩) rfl rfl h);have F_22:FnD P w K mg base 1 "is_whole" (SH.gA):=fnH hy.a_22 (N:=nO nI) (ps:=(nO nI).take 1) X G (by ac_nf) (by ac_rfl) (nm0 (F:=[]) (k:=0) E (ae (F:=[]))) 'e' (by bv_omega) (λds M Q h=>SH.xU h);have F_23:FnD P w K mg base 2 "is_below" (SH.cm):=fnH hy.a_23 (N:=nO nJ) (ps:=(nO nJ).take 2) X G (by ac_nf) (by ac_rfl) (nm0 (F:=[SH.gA]) (k:=1) E (ab 'a' (.inl F_22) (ae (F:=[])))) 'e' (by bv_omega) (λds M Q h=>SH.xV rfl h);have F_24:FnD P w K mg base 3 "is_own_row" (SH.oA c S):=fnH hy.a_24 (N:=nO kG) (ps:=(nO kG).take 3) X G (by ac_nf) (by ac_rfl) (nmS (F:=[SH.cm]) (k:=2) E (a0 'a' MS) (ab 'a' (.inl F_23) (ae (F:=[])))) 'e' (by bv_omega) (λds M Q h=>SH.Ai uM lz rfl h);have F_25:FnD P w K mg base 4 "is_paper" (SH.md c S):=fnH hy.a_25 (N:=nO nN) (ps:=(nO nN).take 3) X G (by ac_nf) (by ac_rfl) (nm0 (F:=[SH.oA c S,SH.gA]) (k:=3) E (ab 'a' (.inl F_24) (ab 'a' (.inl F_22) (ae (F:=[]))))) 'e' (by bv_omega) (λds M Q h=>SH.yk rfl rfl rfl h);have F_26:FnD P w K mg base 7 "papers_hold" (SH.iz c S):=fnH hy.a_26 (N:=nO jA) (ps:=(nO jA).take 3) X G (by ac_nf) (by ac_rfl) (nmS (F:=[SH.me c S W,a9 W (SH.iw W),SH.md c S]) (k:=6) E (a0 'a' MS) (ab 'a' (.inl F_21) (ab 'a' F_54 (ab 'a' (.inl F_25) (ae (F:=[])))))) 'e' (by bv_omega) (λds M Q h=>SH.uK (W:=W) fW rfl rfl rfl h);have F_27:FnD P w K mg base 1 "_law_carried" (SH.d3):=fnH hy.a_27 (N:=nO jB) (ps:=(nO jB).take 3) X G (by ac_nf) (by ac_rfl) (nm0 (F:=[]) (k:=0) E (ae (F:=[]))) 'e' (by bv_omega) (λds M Q h=>SQ.uA h);have F_28:FnD P w K mg base 2 "_law_least" (SQ.eR):=fnH hy.a_28 (N:=nO mw) (ps:=(nO mw).take 3) X G (by ac_nf) (by ac_rfl) (nm0 (F:=[SH.d3]) (k:=1) E (ab 'a' (.inl F_27) (ae (F:=[])))) 'e' (by bv_omega) (λds M Q h=>SQ.xx rfl h);have F_29:FnD P w K mg base 3 "_law_runs" (SQ.l7):=fnH hy.a_29 (N:=nO nU) (ps:=(nO nU).take 3) X G (by ac_nf) (by ac_rfl) (nm0 (F:=[SQ.eR]) (k:=2) E (ab 'a' (.inl F_28) (ae (F:=[])))) 'e' (by bv_omega) (λds M Q h=>SQ.yi rfl h);have F_30:FnD P w K mg base 4 "_law_due" (SQ.ow):=fnH hy.a_30 (N:=nO pq) (ps:=(nO pq).take 3) X G (by ac_nf) (by ac_rfl) (nm0 (F:=[SQ.eR,SQ.l7]) (k:=3) E (ab 'a' (.inl F_28) (ab 'a' (.inl F_29) (ae (F:=[]))))) 'e' (by bv_omega) (λds M Q h=>SQ.Ag rfl rfl h);have F_31:FnD P w K mg base 1 "rows_by_help" (SH.gY):=fnH hy.a_31 (ps:=mh) X G (by ac_nf) tS (nm0 (F:=[]) (k:=0) E (ae (F:=[]))) tU (by bv_omega) (λds M Q h=>SH.tF h);have F_32:FnD P w K mg base 4 "row_leanings" (SH.dq c):=fnH hy.a_32 (N:=nO iF) (ps:=(nO iF).take 1) X G (by ac_nf) (by ac_rfl) (nmC (F:=[]) (k:=3) E (a0 'a' MC) (ae (F:=[]))) 'e' (by bv_omega) (λds M Q h=>SH.tz (xK ap) h);have F_33:FnD P w K mg base 1 "rows_by_head" (SH.gW):=fnH hy.a_33 (N:=nO iG) (ps:=(nO iG).take 2) X G (by ac_nf) (by ac_rfl) (nm0 (F:=[]) (k:=0) E (ae (F:=[]))) 'e' (by bv_omega) (λds M Q h=>SH.tE h);have F_34:FnD P w K mg base 3 "made_cond" (SH.gT c):=fnH hy.a_34 (N:=nO mj) (ps:=(nO mj).take 1) X G (by ac_nf) (by ac_rfl) (nm0 (F:=[a9 (c.at 3) (SH.bQ c 3),a9 (c.at 2) (SH.bQ c 2),a9 (c.at 1) (SH.bQ c 1),a9 (c.at 0) (SH.bQ c 0)]) (k:=2) E (ab 'a' F_50 (ab 'a' F_49 (ab 'a' F_48 (ab 'a' F_47 (ae (F:=[]))))))) 'e' (by bv_omega) (λds M Q h=>SH.ul (c:=c) rfl h);have F_35:FnD P w K mg base 3 "is_listing" (SH.lG):=fnH hy.a_35 (N:=nO kH) (ps:=(nO kH).take 2) X G (by ac_nf) (by ac_rfl) (nm0 (F:=[SH.cm]) (k:=2) E (ab 'a' (.inl F_23) (ae (F:=[])))) 'e' (by bv_omega) (λds M Q h=>SH.vt (j:=3) rfl rfl h);have F_36:FnD P w K mg base 2 "is_number" (SH.oa):=fnH hy.a_36 (N:=nO mq) (ps:=(nO mq).take 1) X G (by ac_nf) (by ac_rfl) (nm0 (F:=[SH.gA]) (k:=1) E (ab 'a' (.inl F_22) (ae (F:=[])))) 'e' (by bv_omega) (λds M Q h=>SH.w4 (j:=2) rfl rfl h);have F_37:FnD P w K mg base 4 "is_cond" (SH.oe):=fnH hy.a_37 (N:=nO pk) (ps:=(nO pk).take 2) X G (by ac_nf) (by ac_rfl) (nm0 (F:=[SH.lG,SH.cm,SH.oa]) (k:=3) E (ab 'a' (.inl F_35) (ab 'a' (.inl F_23) (ab 'a' (.inl F_36) (ae (F:=[])))))) 'e' (by bv_omega) (λds M Q h=>SH.z6 rfl rfl rfl h);have F_38:FnD P w K mg base 5 "is_row" (SH.qz):=fnH hy.a_38 (N:=nO qZ) (ps:=(nO qZ).take 2) X G (by ac_nf) (by ac_rfl) (nm0 (F:=[SH.oe,SH.cm]) (k:=4) E (ab 'a' (.inl F_37) (ab 'a' (.inl F_23) (ae (F:=[]))))) 'e' (by bv_omega) (λds M Q h=>SH.Bz (j:=1) rfl rfl rfl h);have F_51:cJ P w K mg base 7 "Sheet" (a9 S (SH.jf c S)):=mkH (N:=nO kK) (ps:=(nO kK).take 3) mg_51 mk_51 kp_51 hy.a_81 (by ac_rfl) (nmO (F:=[SH.gY,SH.dq c,SH.gW,SH.gT c,SH.qz,SH.cm]) (k:=5) E (ab 'a' (.inl F_31) (ab 'a' (.inl F_32) (ab 'a' (.inl F_33) (ab 'a' (.inl F_34) (ab 'a' (.inl F_38) (ab 'a' (.inl F_23) (ae (F:=[]))))))))) (by ac_nf) 'e' (by bv_omega) (λds M Q h=>SH.vv (j:=4) (l:=5) (λf hf=>⟨rfl,hf⟩) rfl rfl rfl rfl rfl rfl rfl rfl h);have F_39:FnD P w K mg base 1 "_law_digit" (SQ.cV):=fnH hy.a_39 (N:=nO mr) (ps:=(nO mr).take 2) X G (by ac_nf) (by ac_rfl) (nm0 (F:=[]) (k:=0) E (ae (F:=[]))) 'e' (by bv_omega) (λds M Q h=>SQ.Dp h);have F_40:FnD P w K mg base 2 "_law_picked" (SQ.oo):=fnH hy.a_40 (N:=nO kJ) (ps:=(nO kJ).take 2) X G (by ac_nf) (by ac_rfl) (nm0 (F:=[SQ.cV]) (k:=1) E (ab 'a' (.inl F_39) (ae (F:=[])))) 'e' (by bv_omega) (λds M Q h=>SQ.BO rfl h);have F_41:FnD P w K mg base 3 "_law_cond" (SQ.pN):=fnH hy.a_41 (N:=nO nS) (ps:=(nO nS).take 2) X G (by ac_nf) (by ac_rfl) (nm0 (F:=[SQ.cV,SQ.oo]) (k:=2) E (ab 'a' (.inl F_39) (ab 'a' (.inl F_40) (ae (F:=[]))))) 'e' (by bv_omega) (λds M Q h=>SQ.Fp rfl rfl h);have F_42:FnD P w K mg base 4 "_law_rows" (SQ.tK):=fnH hy.a_42 (N:=nO nT) (ps:=(nO nT).take 3) X G (by ac_nf) (by ac_rfl) (nm0 (F:=[SQ.cV,SQ.pN]) (k:=3) E (ab 'a' (.inl F_39) (ab 'a' (.inl F_41) (ae (F:=[]))))) 'e' (by bv_omega) (λds M Q h=>SQ.Fq rfl rfl h);have F_43:FnD P w K mg base 1 "_law_cell" (SQ.tJ):=fnH hy.a_43 (N:=nO nQ) (ps:=(nO nQ).take 2) X G (by ac_nf) (by ac_rfl) (nm0 (F:=[]) (k:=0) E (ae (F:=[]))) 'e' (by bv_omega) (λds M Q h=>SQ.Fo h);have F_44:FnD P w K mg base 2 "_law_source" (SQ.on):=fnH hy.a_44 (N:=nO kI) (ps:=(nO kI).take 2) X G (by ac_nf) (by ac_rfl) (nm0 (F:=[SQ.tJ]) (k:=1) E (ab 'a' (.inl F_43) (ae (F:=[])))) 'e' (by bv_omega) (λds M Q h=>SQ.BN rfl h);have F_45:FnD P w K mg base 5 "_law_made" (SQ.gT):=fnH hy.a_45 (N:=nO nV) (ps:=(nO nV).take 1) X G (by ac_nf) (by ac_rfl) (nm0 (F:=[SQ.cV,SQ.tK,SQ.on]) (k:=4) E (ab 'a' (.inl F_39) (ab 'a' (.inl F_42) (ab 'a' (.inl F_44) (ae (F:=[])))))) 'e' (by bv_omega) (λds M Q h=>SQ.ul rfl rfl rfl h);exact wL (a_46.fun_) Hk (nm0 (F:=[SQ.l9,SH.ko c S,SH.iz c S,SQ.ow,a9 S (SH.jf c S),SQ.gT]) (k:=12) E (ab 'a' (.inl F_4) (ab 'a' (.inl F_17) (ab 'a' (.inl F_26) (ab 'a' (.inl F_30) (ab 'a' F_51 (ab 'a' (.inl F_45) (ae (F:=[]))))))))) Hm (by bv_omega) (λds M Q h=>SQ.Hi rfl rfl rfl rfl rfl rfl h)
end
theorem Dx{a b d e:Addr}(h:(decide (a≠b)&&decide (a≠d)&&decide (a≠e)&&decide (b≠d)&&decide (b≠e)&&decide (d≠e))=true):SH.CA.apart ⟨a,b,d,e⟩:=by
 simp only[YV,XO] at h;obtain⟨⟨⟨⟨⟨h1,h2⟩,h3⟩,h4⟩,h5⟩,h6⟩:=h;intro k hk;have i4:k=0\/k=1\/k=2\/k=3:=by omega
 rcases i4 with rfl | rfl | rfl | rfl
 ·show(if a=a then some 0 else if a=b then some 1 else if a=d then some 2 else if a=e then some 3 else none)=some 0
  rw[if_pos rfl]
 ·show(if b=a then some 0 else if b=b then some 1 else if b=d then some 2 else if b=e then some 3 else none)=some 1
  rw[if_neg (λz=>h1 z.symm),if_pos rfl]
 ·show(if d=a then some 0 else if d=b then some 1 else if d=d then some 2 else if d=e then some 3 else none)=some 2
  rw[if_neg (λz=>h2 z.symm),if_neg (λz=>h4 z.symm),if_pos rfl]
 ·show(if e=a then some 0 else if e=b then some 1 else if e=d then some 2 else if e=e then some 3 else none)=some 3
  rw[if_neg (λz=>h3 z.symm),if_neg (λz=>h5 z.symm),if_neg (λz=>h6 z.symm),if_pos rfl]
theorem all4{p:Nat->Prop}(h0:p 0)(h1:p 1)(h2:p 2)(h3:p 3):∀i,i<4->p i:=by
 intro i hi;have i4:i=0\/i=1\/i=2\/i=3:=by omega
 rcases i4 with rfl | rfl | rfl | rfl<;>assumption
theorem Hq:vI 63 SQ.vO:=λa ns hl=>⟨a,ns,rfl,by unfold qf;rw[if_pos rfl],hl,λ_=>rfl⟩
theorem Hr:DI SQ.vO:=by
 intro l w K h mg fa cH cL cS cD S Z W X G hfa ap gl bl n_47 k_47 n_48 k_48 n_49 k_49 n_50 k_50 n_51 k_51 n_52 k_52 n_54 k_54 f_46 d_46 a_46 hy;have y_47:=k_47;simp only[YV] at y_47;have y_48:=k_48;simp only[YV] at y_48;have y_49:=k_49;simp only[YV] at y_49;have y_50:=k_50;simp only[YV] at y_50;have y_51:=k_51;simp only[YV] at y_51;have y_52:=k_52;simp only[YV] at y_52;have y_54:=k_54;simp only[YV] at y_54;have E:Env0 K mg ⟨cH,cL,cS,cD⟩ S Z W:=⟨sf X G gl,AS X G bl,all4 y_47.1.1 y_48.1.1 y_49.1.1 y_50.1.1,y_51.1.1,y_52.1.1,y_54.1.1⟩;have bL:∀(s:Shared) (v:Value),BindsTo s d_46 ⟨[v],[]⟩ [("_law_script",v)]:=by
  obtain⟨oc,od,an,osl,kV,doc,pm,cdv,ct,a,rfl,l,c,k⟩:=a_46.ex;exact λs v=>.of_eq rfl
 have FL:=a_46.def_ (ps:=["_law_script"]) X G λ_ _ _ _ _ _=>us1 λ_=>rfl
 have e:=hfa.symm.trans FL.mgf;cases e;exact⟨d_46,bL,λbase _ _=>Ho (c:=⟨cH,cL,cS,cD⟩) (S:=S) (Z:=Z) (W:=W) E (Dx ap) X G a_46 (PySem.W.mg_of X G n_47) y_47.1.2 y_47.2 (PySem.W.mg_of X G n_48) y_48.1.2 y_48.2 (PySem.W.mg_of X G n_49) y_49.1.2 y_49.2 (PySem.W.mg_of X G n_50) y_50.1.2 y_50.2 (PySem.W.mg_of X G n_51) y_51.1.2 y_51.2 (PySem.W.mg_of X G n_52) y_52.1.2 y_52.2 (PySem.W.mg_of X G n_54) y_54.1.2 y_54.2 hy⟩
end K51
open PySem PySem.W PyProof.Rows L2 DD
theorem PySem.Challenge.cw_notring_k51_papers_by_rounds_holds : PySem.Challenge.rw_notring_k51_papers_by_rounds.Holds := by
  exact K51.over K51.Hq K51.Hr
#print axioms PySem.Challenge.cw_notring_k51_papers_by_rounds_holds
