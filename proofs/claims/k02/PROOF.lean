import PyProof.Rows.All
import Wide.All
import KE.KDictOf
import KE.KFromBytes
import KE.LcTurns
import KE.KIsAll
import KE.BitLaws
import KE.KItem
import Wide.FinOn
import KE.KNestM
import PySem.Challenge.RW_notring_k02_books_read_and_written
import Lean
import PyProof.EqAt
import PyProof.EqKinds
import PyProof.TupleCall
import KE.KTryDeep
import PyProof.DictIter
import PyProof.DictWalks
import PyProof.NeKinds
import PyProof.Rows.SetFrom
import PyProof.SetRoads
import PyProof.WalksMore
import PyProof.TupleIter
import PyProof.FactsAll.set_2
import PyProof.MeetsSeq2
import PyProof.EnumMake
import PyProof.EnumIter
import PyProof.EnumFor
import PyProof.EnumStmt
import PyProof.Draws
import PyProof.ZipIter
import PyProof.SumAnyB
import PyProof.Conv_int
import PyProof.Conv_int_bool
import PyProof.ListRange
import KE.KDictList
import PyProof.DictTruth
import PyProof.Rows.SortWalk
import PyProof.Rows.CallKwBuiltin
import PyProof.DefCall
import Wide.Txt
import PyProof.Rows.StrSplitJoin
import PyProof.Rows.CatFin
import PyProof.Rows.StrJoinRep
set_option compiler.extract_closed false
set_option Elab.async false
set_option maxRecDepth 100000
set_option maxHeartbeats 4000000
local macro_rules
 |`(tactic|omega)=>`(tactic|first|assumption|lia|omega (splitDisjunctions:=true))
set_option hygiene false
local macro_rules
 |`('a')=>`((by decide))
 |`('b')=>`((model X.prog X.w))
 |`('c')=>`((by omega))
 |`('d')=>`((openSeen K02.viewQ [] (importedModules PySem.Challenge.pw_notring_k02_books_read_and_written.main.body) (λs=>xlAt K02.viewQ [] s&&recOk [] s) true (TopT.cA s)))
local macro_rules
 |`('e')=>`((λ_ _ _=>False))
 |`('f')=>`((model prog w))
local macro_rules
 |`(tactic|rw[0])=>`(tactic|(intro i hi σ acc rest M' ⟨v,hv⟩ ⟨e1,e2⟩ k;subst hv e2;simp only[ba,wSs,wS,wE,wEs,wEo,pf,wT,wI,wP,iZ,lX,pO,lL,pJ,io,pF,vA,pG,lM,pH,lN,vC,pN,lY,pP,lZ,jA,cE,rJ,vT,nj,pK,lO,gv,qc,pQ,iq,l7,l8,iu,l9,i7,qg,mj,rO,mh,wPs,gR,gu,pI,intD,aH,fh,setM,pT,nz,rB,ul,dI,o0,pS,pR,vZ,nB,eI,nD,nE,eJ,nF,gI,iA,nG,v9,qb,me,eL,eM,jD,gJ,mf,nA,vR,qe,pU,pV,pZ,fH,pY,fG,ny,o6,jB,vP,ma,tu,o7,nv,qf,mi,ou,gV,fJ,fL,uw,i8,iB,i9,wu,wv,v8,nH,bu,aq,List.getElem?_cons_zero,List.getElem?_cons_succ,List.set]))
 |`(tactic|rw[1])=>`(tactic|(refine⟨⟨rfl,rfl,YL _⟩,?_⟩))
set_option bootstrap.genMatcherCode false
set_option genSizeOfSpec false
local macro_rules
 |`(command|def $i:declId $s:optDeclSig $v:declVal)=>`(command|noncomputable def $i:declId $s:optDeclSig $v:declVal)
 |`(command|abbrev $i:declId $s:optDeclSig $v:declVal)=>`(command|noncomputable abbrev $i:declId $s:optDeclSig $v:declVal)
def Yb:=@PySem.wpAny_bind
def Yc:=@PySem.wpAny_pure
def Yd:=@PySem.Heap.get?_push_of_some
def Ye:=@PySem.Heap.lt_size
def Yg:=@PySem.Heap.get?_push_size
def Yh:=@False.elim
def Yi:=@Option.some.inj
def Yj:=@PySem.wpAny_holding
def Yk:=@PySem.wpAny_standAt
abbrev Za:=PySem.W.Frag
abbrev Zb:=PySem.Value->PySem.Shared->Prop
abbrev Zc:=List (PySem.Addr×PySem.Obj)
abbrev Zd:=List PySem.Value
abbrev Ze:=PySem.Str->Option PySem.Value
abbrev Zf:=List PySem.Str
abbrev Zg:=List PySem.Expr
abbrev Zh:=List PySem.Addr
abbrev Zi:=List Int
abbrev Zj:=List Nat
abbrev Zk:=PySem.Value->PySem.Value->PySem.Sem PySem.Value
abbrev Zl:=Array PySem.Value
abbrev Zm:=Option PySem.Addr
abbrev Zn:=Array (Option PySem.Value)
abbrev Zo:=Unit->PySem.Shared->Prop
abbrev Zp:=Option Int
abbrev Zq:=List (PySem.Str×PySem.Addr)
abbrev Zr:=List PySem.Stmt
abbrev Zs:=PySem.FuncData
abbrev Zt:=PySem.Program
abbrev Zu:=Option PySem.Value
local macro_rules
  | `(tactic| rfl') => `(tactic| decide +kernel)
def XA:=@List.forIn_cons
def XB:=@beq_self_eq_true
def XC:=@Bool.false_eq_true
def XD:=@List.lookup_cons
def XE:=@List.all_eq_true
def XG:=@List.mem_singleton
def XH:=@Option.bind_some
def XI:=@of_decide_eq_true
def XJ:=@List.all_cons
def XM:=@decide_eq_true_eq
def XN:=@List.getElem?_of_mem
def XO:=@Bool.not_eq_true'
def XQ:=@List.length_filter_le
def XR:=@Array.getD_eq_getD_getElem?
def XS:=@Array.getElem?_toList
def XU:=@List.mem_map
theorem XV{α}{a:α}{l m}:(a::l)++m=a::(l++m):=rfl
def XY:=@Array.toList_inj
def XZ:=@List.mem_of_mem_take
def YA:=@List.mem_append
def YB:=@List.getElem?_eq_some_iff
def YC:=@Array.length_toList
theorem YD(b):(false&&b)=false:=rfl
def YE:=@Nat.le_refl
def YF:=@List.mem_append_right
def YG:=@List.size_toArray
def YH:=@Bool.false_ne_true
theorem YI{α}{a:α}{l}:(a::l).length=l.length+1:=rfl
theorem YK{α β}{f:α→β}{a l}:(a::l).map f=f a::l.map f:=rfl
def YL:=@Nat.zero_le
def YM:=@List.nodup_cons
def YQ:=@List.length_take
def YR:=@List.mem_of_getElem?
theorem YS{α}:([]:List α).length=0:=rfl
def YT:=@decide_eq_true
def YU:=@Bool.and_eq_true
def YV:=@List.replicate_succ
def YW:=@List.flatten_cons
theorem YX{α}(l:List α):[]++l=l:=rfl
def YY:=@List.find?_cons
def YZ:=@List.any_cons
def ZA:=@List.append_nil
def ZB:=@List.append_assoc
def ZD:=@List.getElem?_eq_getElem
def ZE:=@List.getElem?_append_left
def ZF:=@List.length_map
def ZG:=@List.getElem?_map
def ZH:=@List.getElem?_append_right
def ZI:=@List.length_range
def ZJ:=@List.length_append
def ZK:=@List.map_append
def ZL:=@List.map_map
def ZM:=@List.map_congr_left
def ZO:=@decide_eq_false
def ZP:=@beq_eq_false_iff_ne
def ZQ:=@Nat.lt_of_lt_of_le
def ZR:=@Nat.lt_irrefl
def ZS:=@Nat.ne_of_lt
def ZT:=@List.mem_range
def ZU:=@Nat.le_trans
def ZV:=@List.filterMap_cons
def ZW:=@List.mem_cons_self
def ZX:=@List.mem_cons_of_mem
def ZY:=@List.mem_cons
def ZZ:=@Array.append_assoc
namespace TopT
open PySem PySem.W PyProof.Rows
def ju:List Obj->Nat->BT->Option (BT×Nat)
 |[],n,T=>some (T,n)
 |o::r,n,T=>match((T.ins n o).get n).isSome with
  |true=>ju r (n+1) (T.ins n o)
  |false=>none
theorem tN(a:Life):∀{os:List Obj}{n n':Nat}{T b:BT},ju os n T=some (b,n')->absHeap b n' a=⟨((absHeap T n a).objs.toList++os).toArray,a⟩
 |[],n,n',T,b,h=>by
  cases h;rw[ZA];rfl
 |o::r,n,n',T,b,h=>by
  unfold ju at h;cases g:((T.ins n o).get n).isSome with
  |false=>rw[g] at h;cases h
  |true=>
   rw[g] at h;have c:=tN a (os:=r) h;rw[c,absHeap_ins g];show Heap.mk (((absHeap T n a).objs.push o).toList++r).toArray a=_;rw[Array.toList_push,ZB];rfl
def n5(b:String->Option Builtin)(p:Zt)(w:World)(c:Nat)(a:Zu):Nat->SharedT->Thread->Option SharedT
 |0,_,_=>none
 |n+1,s,t=>match through t with
  |true=>some s
  |false=>match stepOk c a t with
   |false=>none
   |true=>match stepT (denote b) p w s t with
    |some (d,t')=>n5 b p w c a n d t'
    |none=>none
theorem tO{b:String->Option Builtin}{p:Zt}{w:World}{c:Nat}{a:Zu}:∀{n:Nat}{s d:SharedT}{t:Thread},n5 b p w c a n s t=some d->topRun b p w c a n s.abs t=some d.abs
 |0,_,_,_,h=>by cases h
 |n+1,s,d,t,h=>by
  unfold n5 at h;unfold topRun;cases ht:through t with
  |true=>rw[ht] at h;cases h;rfl
  |false=>
   rw[ht] at h;cases hk:stepOk c a t with
   |false=>rw[hk] at h;cases h
   |true=>
    rw[hk] at h;cases hs:stepT (denote b) p w s t with
    |none=>rw[hs] at h;cases h
    |some x=>
     obtain⟨s2,f⟩:=x;rw[hs] at h
     have:=stepT_spec hs
     simp only[this];exact tO h
def yP(s:SharedT)(a:Addr):Option Obj:=match Nat.blt a s.n with
 |true=>alive ((s.tree.get a).getD default)
 |false=>none
theorem DG(s:SharedT)(a:Addr):s.abs.heap.get? a=yP s a:=by
 show(absHeap s.tree s.n s.life).get? a=_;unfold yP Heap.get?;rw[absHeap_at];cases e:Nat.blt a s.n with
 |true=>
  have lt:a<s.n:=Nat.le_of_ble_eq_true e;rw[if_pos lt];obtain⟨c,d,b,sl⟩:=(s.tree.get a).getD default;cases b<;>rfl
 |false=>
  have nl:¬a<s.n:=λh=>by
   have:Nat.blt a s.n=true:=Nat.ble_eq_true_of_le h
   rw[this] at e;cases e
  rw[if_neg nl]
def De:BT->BT
 |.nil=>.nil
 |.node _ l _=>l
def Df:BT->BT
 |.nil=>.nil
 |.node _ _ r=>r
def rt:BT->Obj
 |.nil=>default
 |.node v _ _=>v
def qN(ts:List BT)(m i:Nat):Obj:=(((ts[i%m]?).getD .nil).get (i / m)).getD default
def lv:Nat->List BT->Nat->Nat->List Obj
 |0,ts,m,n=>(List.range n).map (qN ts m)
 |k+1,ts,m,n=>match Nat.ble n m with
  |true=>(ts.take n).map rt
  |false=>ts.map rt++lv k (ts.map De++ts.map Df) (m+m) (n-m)
theorem Fy(t:BT):(t.get 0).getD default=rt t:=by cases t<;>rfl
theorem DH(t:BT)(j:Nat):t.get (2*j+1)=(De t).get j:=by
 cases t with
 |nil=>rfl
 |node v l r=>rw[BT.get_node,if_neg 'c',if_pos 'c',show(2*j+1) / 2=j by omega];rfl
theorem BI(t:BT)(j:Nat):t.get (2*j+2)=(Df t).get j:=by
 cases t with
 |nil=>rfl
 |node v l r=>rw[BT.get_node,if_neg 'c',if_neg 'c',show(2*j+2) / 2-1=j by omega];rfl
theorem qO{ts:List BT}{m r:Nat}(k:Nat)(a:r<m):qN ts m (m*k+r)=((ts[r]?.getD .nil).get k).getD default:=by
 unfold qN;rw[Nat.mul_add_mod,Nat.mod_eq_of_lt a,Nat.mul_add_div 'c',Nat.div_eq_of_lt a,Nat.add_zero]
theorem Fz{ts:List BT}{m:Nat}(h:ts.length=m)(hm:0<m)(i:Nat):qN ts m (m+i)=qN (ts.map De++ts.map Df) (m+m) i:=by
 have a:i%m<m:=Nat.mod_lt _ hm;have d:=Nat.div_add_mod i m;generalize i%m=r at *;generalize i / m=k at *;subst d;obtain⟨t,e0⟩:∃t,ts[r]?=some t:=⟨_,ZD (h▸a)⟩;rw[show m+(m*k+r)=m*(k+1)+r by rw[Nat.mul_add];omega,qO _ a,e0];rcases Nat.mod_two_eq_zero_or_one k with e | e
 ·obtain⟨j,rfl⟩:∃j,k=2*j:=⟨k / 2,by omega⟩
  rw[show m*(2*j)+r=(m+m)*j+r by rw[←Nat.mul_assoc,Nat.mul_two],qO _ 'c',ZE (by rw[ZF];omega),ZG,e0];exact congrArg (·.getD default) (DH _ j)
 ·obtain⟨j,rfl⟩:∃j,k=2*j+1:=⟨k / 2,by omega⟩
  rw[show m*(2*j+1)+r=(m+m)*j+(m+r) by rw[Nat.mul_add,←Nat.mul_assoc,Nat.mul_two];omega,qO _ 'c',ZH (by rw[ZF];omega),ZF,h,Nat.add_sub_cancel_left,ZG,e0];exact congrArg (·.getD default) (BI _ j)
theorem Dg:∀(k:Nat){ts:List BT}{m:Nat}(n:Nat),ts.length=m->0<m->lv k ts m n=(List.range n).map (qN ts m)
 |0,_,_,_,_,_=>rfl
 |k+1,ts,m,n,h,hm=>by
  have hd:∀j,j<m->qN ts m j=rt (ts[j]?.getD .nil):=λj a=>by
   rw[show j=m*0+j by omega,qO _ a,Fy];simp
  show(match Nat.ble n m with | true=>_ | false=>_)=_;cases e:Nat.ble n m with
  |true=>
   have hn:n<=m:=Nat.le_of_ble_eq_true e;apply List.ext_getElem?;intro j;show((ts.take n).map rt)[j]?=_;rw[ZG,ZG,List.getElem?_take];by_cases a:j<n
   ·rw[if_pos a,List.getElem?_range a,ZD 'c']
    show some (rt ts[j])=some (qN ts m j);rw[hd j 'c',ZD 'c'];rfl
   ·rw[if_neg a,List.getElem?_eq_none (by rw[ZI];omega)];rfl
  |false=>
   have hn:m<n:=Nat.lt_of_not_le λq=>by rw[Nat.ble_eq_true_of_le q] at e;cases e
   show ts.map rt++lv k (ts.map De++ts.map Df) (m+m) (n-m)=_;rw[Dg k (n-m) (by rw[ZJ,ZF,ZF,h]) 'c',show n=m+(n-m) by omega,List.range_add,ZK,ZL];congr 1
   ·apply List.ext_getElem?
    intro j;rw[ZG,ZG];by_cases a:j<m
    ·rw[List.getElem?_range a,ZD 'c']
     show some (rt ts[j])=some (qN ts m j);rw[hd j a,ZD 'c'];rfl
    ·rw[List.getElem?_eq_none 'c',List.getElem?_eq_none (by rw[ZI];omega)];rfl
   ·rw[show m+(n-m)-m=n-m by omega]
    exact ZM λi _=>(Fz h hm i).symm
theorem list_eq(t:BT)(n:Nat):t.list n=lv 20 [t] 1 n:=by
 rw[Dg (ts:=[t]) (m:=1) 20 n rfl 'a'];unfold BT.list;apply ZM;intro i _;show _=(((([t]:List BT)[i%1]?).getD .nil).get (i / 1)).getD default;rw[Nat.mod_one,Nat.div_one];rfl
def cA(s:SharedT):Shared:=⟨⟨(lv 20 [s.tree] 1 s.n).toArray,s.life⟩,s.gens,s.drawn,s.toks,s.os⟩
theorem xP(s:SharedT):s.abs=cA s:=by
 unfold SharedT.abs absHeap cA;rw[list_eq]
def runC{a:Type}(p:Zt)(w:World)(N:Nat)(C:Shared->SharedT->a):Option a:=(fencedOpening treeTable p w N).bind λs₀=>match s₀.heap.isNs mainGlobals&&s₀.gens.size==0 with
 |true=>match ju s₀.heap.objs.toList 0 .nil with
  |some (T,n)=>(n5 treeTable p w s₀.heap.objs.size (s₀.heap.nsMap mainGlobals "__annotations__") N ⟨T,n,s₀.heap.life,s₀.gens,s₀.drawn,s₀.toks,s₀.os⟩ (topStub p)).map (C s₀)
  |none=>none
 |false=>none
theorem BJ{a:Type}{p:Zt}{w:World}{N:Nat}(C:Shared->SharedT->a):runC p w N C=(runC p w N Prod.mk).map λx=>C x.1 x.2:=by
 unfold runC;cases fencedOpening treeTable p w N with
 |none=>rfl
 |some s₀=>
  show(match s₀.heap.isNs mainGlobals&&s₀.gens.size==0 with | true=>_ | false=>_)=Option.map _ (match s₀.heap.isNs mainGlobals&&s₀.gens.size==0 with | true=>_ | false=>_);cases s₀.heap.isNs mainGlobals&&s₀.gens.size==0 with
  |false=>rfl
  |true=>
   show(match ju s₀.heap.objs.toList 0 .nil with | some (T,n)=>_ | none=>_)=Option.map _ (match ju s₀.heap.objs.toList 0 .nil with | some (T,n)=>_ | none=>_);cases ju s₀.heap.objs.toList 0 .nil with
   |none=>rfl
   |some x=>
    obtain⟨T,n⟩:=x;show Option.map (C s₀) _=Option.map _ (Option.map (Prod.mk s₀) _);rw[Option.map_map];rfl
def u2(p:Zt)(s₀ s:Shared):Bool:=staticsOk (importedModules p.main.body) s₀.heap s.heap&&namesBound p s.heap&&gensDone s&&laidKept s₀.heap s.heap
theorem DI{p:Zt}{w:World}{N:Nat}{s₀:Shared}{s:SharedT}(h:runC p w N Prod.mk=some (s₀,s))(k:u2 p s₀ (cA s)=true):openEnds treeTable p w N=some (cA s):=by
 unfold runC at h;obtain⟨b,c,h⟩:=Option.bind_eq_some_iff.mp h;cases g:(b.heap.isNs mainGlobals&&b.gens.size==0) with
 |false=>rw[g] at h;cases h
 |true=>
  rw[g] at h;cases e:ju b.heap.objs.toList 0 .nil with
  |none=>rw[e] at h;cases h
  |some x=>
   obtain⟨T,n⟩:=x;rw[e] at h;obtain⟨f',h1,d⟩:=Option.map_eq_some_iff.mp h;cases d;have a:(⟨T,n,s₀.heap.life,s₀.gens,s₀.drawn,s₀.toks,s₀.os⟩:SharedT).abs=s₀:=by
    show Shared.mk (absHeap T n s₀.heap.life) _ _ _ _=_;rw[tN s₀.heap.life e];rfl
   have r:=tO h1;rw[a,xP] at r;unfold openEnds topFrom;rw[c];show(match s₀.heap.isNs mainGlobals&&s₀.gens.size==0 with | true=>_ | false=>_)=_;rw[g];show(topRun treeTable p w s₀.heap.objs.size (s₀.heap.nsMap mainGlobals "__annotations__") N s₀ (topStub p)).bind _=_;rw[r];show(match u2 p s₀ (cA s) with | true=>some (cA s) | false=>none)=_;rw[k]
theorem Hr{p q:Zt}{loose:Zf}{Xt:Shared->Bool}{N:Nat}{b:Bool}{K:Params->Frag}{as:Zh}{e:∀P,as=(K P).map (·.1)}
  (h1:∀w,runC p w N (λs₀ s=>(u2 p s₀ (cA s),(openSeen q loose (importedModules p.main.body) Xt b (cA s)).1,(openSeen q loose (importedModules p.main.body) Xt b (cA s)).2.1))=some (true,expectedOf q,bltViewBooted))
  (c:∀w,runC p w N (λ_ s=>(openSeen q loose (importedModules p.main.body) Xt b (cA s)).2.2.1)=some true)
  (d:∀w,runC p w N (λ_ s=>((openSeen q loose (importedModules p.main.body) Xt b (cA s)).2.2.2.1,(openSeen q loose (importedModules p.main.body) Xt b (cA s)).2.2.2.2.1))=some (true,pinGoodD (drecsOf q)))
  (f:∀w,runC p w N (λ_ s=>(openSeen q loose (importedModules p.main.body) Xt b (cA s)).2.2.2.2.2.1)=some (plainGoodE q (looseW q loose)))
  (g:∀w,runC p w N (λ_ s=>(openSeen q loose (importedModules p.main.body) Xt b (cA s)).2.2.2.2.2.2)=some (plainGoodD q loose,wideGood q,clsGoodW q loose))
  (j:∀w:World,runC p w N (λ_ s=>as.map (yP s))=some ((K w.params).map (λp=>some p.2))):LeftO p q loose Xt (Hook.obs (kHook K as e)) (Hook.val (kHook K as e)) N b:=λw=>by
 have h1:=h1 w;have c:=c w;have d:=d w;have j:=j w;have f:=f w;have g:=g w;rw[BJ] at h1 c d j f g;obtain⟨⟨s₀,s⟩,m,n⟩:=Option.map_eq_some_iff.mp h1;rw[m] at c d j f g;obtain⟨o,l⟩:=Prod.mk.inj n;obtain⟨l,r⟩:=Prod.mk.inj l;obtain⟨t,u⟩:=Prod.mk.inj (Yi d);rw[DI m o];have y:as.map (cA s).heap.get?=as.map (yP s):=ZM λa _=>by rw[←xP];exact DG s a
 exact congrArg some (Prod.ext (Prod.ext l (Prod.ext r (Prod.ext (Yi c) (Prod.ext t (Prod.ext u (Prod.ext (Yi f) (Yi g))))))) (y.trans (Yi j)))
end TopT
section
open PySem PySem.W PyProof.Rows
def K02.viewQ:Program:=PySem.W.view PySem.Challenge.pw_notring_k02_books_read_and_written [1,2,4,5,6,7,8,9,11,12,13,14,15,16,17,18,19,20,21,22,23,24,25,26,27,28,29,30,31,32,33,34,36,37,38,39,40,41,42,43,44,45,46,47,48,49,50,51]
set_option maxHeartbeats 0 in
theorem K02.said:PySem.Challenge.rw_notring_k02_books_read_and_written.wellSaid=true:=by kernel_rfl
set_option maxHeartbeats 0 in
theorem K02.seen1:∀w:World,TopT.runC PySem.Challenge.pw_notring_k02_books_read_and_written w 12100 (λs₀ s=>(TopT.u2 PySem.Challenge.pw_notring_k02_books_read_and_written s₀ (TopT.cA s),'d'.1,'d'.2.1))=some (true,expectedOf K02.viewQ,bltViewBooted):=by
 intro w;kernel_rfl
set_option maxHeartbeats 0 in
theorem K02.seen2:∀w:World,TopT.runC PySem.Challenge.pw_notring_k02_books_read_and_written w 12100 (λ_ s=>'d'.2.2.1)=some true:=by
 intro w;kernel_rfl
set_option maxHeartbeats 0 in
theorem K02.seen3:∀w:World,TopT.runC PySem.Challenge.pw_notring_k02_books_read_and_written w 12100 (λ_ s=>('d'.2.2.2.1,'d'.2.2.2.2.1))=some (true,pinGoodD (drecsOf K02.viewQ)):=by
 intro w;kernel_rfl
set_option maxHeartbeats 0 in
theorem K02.seen5:∀w:World,TopT.runC PySem.Challenge.pw_notring_k02_books_read_and_written w 12100 (λ_ s=>'d'.2.2.2.2.2.1)=some (plainGoodE K02.viewQ (looseW K02.viewQ [])):=by
 intro w;kernel_rfl
set_option maxHeartbeats 0 in
theorem K02.seen6:∀w:World,TopT.runC PySem.Challenge.pw_notring_k02_books_read_and_written w 12100 (λ_ s=>'d'.2.2.2.2.2.2)=some (plainGoodD K02.viewQ [],wideGood K02.viewQ,clsGoodW K02.viewQ []):=by
 intro w;kernel_rfl
end
-- CHANGE: your row's module here,as the last of these rows
set_option linter.all false
namespace L2
open PySem PySem.Spec PyProof.Rows
abbrev Key:=Sum Int Str
def lE:Key->Value->Bool
 |.inl k,v=>Value.isInt k v
 |.inr x,v=>Value.isStrOf x v
def IC(w:World):Key->Int
 |.inl k=>hashInt k
 |.inr x=>hashStr w x
theorem bP:∀{k:Key}{v:Value},lE k v=true->(∃i t,k=Sum.inl i/\v=Value.int i t)\/(∃x t,k=Sum.inr x/\v=Value.str x t)
 |.inl i,v,h=>by
  obtain⟨t,e⟩:=Value.isInt_shape (k:=i) (v:=v) h;exact .inl ⟨i,t,rfl,e⟩
 |.inr x,v,h=>by
  obtain⟨t,e⟩:=Value.isStrOf_shape (x:=x) (v:=v) h;exact .inr ⟨x,t,rfl,e⟩
theorem zW(i:Int)(t:Tok):lE (.inl i) (.int i t)=true:=by simp[lE,Value.isInt]
theorem zX(x:Str)(t:Tok):lE (.inr x) (.str x t)=true:=by simp[lE,Value.isStrOf]
theorem FA(a b:Int):decide ((Sum.inl a:Key)=Sum.inl b)=(a==b):=by
 by_cases e:a=b
 ·subst e;simp
 ·have h:¬(Sum.inl a:Key)=Sum.inl b:=λq=>e (Sum.inl.inj q)
  rw[ZO h];exact(ZP.mpr e).symm
theorem FB(a b:Str):decide ((Sum.inr a:Key)=Sum.inr b)=decide (a=b):=by
 by_cases e:a=b
 ·subst e;simp
 ·have h:¬(Sum.inr a:Key)=Sum.inr b:=λq=>e (Sum.inr.inj q)
  rw[ZO h,ZO e]
theorem FC(a:Int)(b:Str):decide ((Sum.inl a:Key)=Sum.inr b)=false:=ZO (λq=>nomatch q)
theorem FD(a:Str)(b:Int):decide ((Sum.inr a:Key)=Sum.inl b)=false:=ZO (λq=>nomatch q)
def bA(prog:Zt)(w:World):PySem.KeyKind prog w Key where
 is:=lE
 hash:=IC w
 inj:=λv a b ha hb=>by
  rcases bP ha with⟨i,t,rfl,rfl⟩ | ⟨x,t,rfl,rfl⟩
  ·rcases bP hb with⟨j,u,rfl,e⟩ | ⟨y,u,rfl,e⟩
   ·injection e with e1 _;rw[e1]
   ·exact nomatch e
  ·rcases bP hb with⟨j,u,rfl,e⟩ | ⟨y,u,rfl,e⟩
   ·exact nomatch e
   ·injection e with e1 _;rw[e1]
 byValue:=λk v h=>by
  rcases bP h with⟨i,t,rfl,rfl⟩ | ⟨x,t,rfl,rfl⟩<;>rfl
 pyHash:=λhv h=>by
  rcases bP hv with⟨i,t,rfl,rfl⟩ | ⟨x,t,rfl,rfl⟩
  ·exact wpAny_pyHash_int h
  ·exact wpAny_pyHash_str h
 eqBool:=λhu hv h=>by
  rcases bP hu with⟨i,t,rfl,rfl⟩ | ⟨x,t,rfl,rfl⟩
  ·rcases bP hv with⟨j,u,rfl,rfl⟩ | ⟨y,u,rfl,rfl⟩
   ·rw[FA] at h;exact wpAny_eqBool_int h
   ·rw[FC] at h;exact SeqAt.EqAt.int_str i t y u _ _ _ _ h
  ·rcases bP hv with⟨j,u,rfl,rfl⟩ | ⟨y,u,rfl,rfl⟩
   ·rw[FD] at h;exact SeqAt.EqAt.str_int x t j u _ _ _ _ h
   ·rw[FB] at h;exact wpAny_eqBool_str h
 «strs»:=λk x t v h=>by
  rcases bP h with⟨i,u,rfl,e⟩ | ⟨y,u,rfl,e⟩
  ·exact nomatch e
  ·injection e with e1 _
   subst e1;cases v<;>rfl
theorem yQ(prog:Zt)(w:World)(k:Key)(v:Value):(bA prog w).is k v=lE k v:=rfl
theorem xF(prog:Zt)(w:World)(i:Int)(t:Tok):(bA prog w).is (.inl i) (.int i t)=true:=zW i t
theorem xG(prog:Zt)(w:World)(x:Str)(t:Tok):(bA prog w).is (.inr x) (.str x t)=true:=zX x t
inductive V where
 |non | bl (b:Bool) | int (i:Int) | str (x:Str) | byt (b:Array UInt8) | flt (b:UInt64) | ref (a:Addr) | ty (n:String)
 deriving DecidableEq
def RelV:V->Value->Prop
 |.non,u=>u=Value.none
 |.bl b,u=>u=Value.bool b
 |.int i,u=>∃t,u=Value.int i t
 |.str x,u=>∃t,u=Value.str x t
 |.byt b,u=>∃t,u=Value.bytes b t
 |.flt b,u=>∃t,u=Value.float b t
 |.ref a,u=>u=Value.ref a
 |.ty n,u=>u=Value.type n
abbrev am:List V->List Value->Prop:=Paired RelV
theorem am.length{xs:List V}{us:Zd}(r:am xs us):xs.length=us.length:=Paired.length r
theorem am.get:∀{xs:List V}{us:Zd}{i:Nat}{x:V},am xs us->xs[i]?=some x->∃u,us[i]?=some u/\RelV x u
 |_,_,_,_,.nil,e=>by simp at e
 |_,_,0,_,.cons r _,e=>by simp at e;subst e;exact⟨_,rfl,r⟩
 |_,_,i+1,x,.cons _ t,e=>by
  obtain⟨u,h1,a⟩:=am.get (i:=i) (x:=x) t (by simpa using e);exact⟨u,by simpa using h1,a⟩
theorem am.set{x:V}{u:Value}(r:RelV x u):∀{xs:List V}{us:Zd}(i:Nat),am xs us->am (xs.set i x) (us.set i u)
 |_,_,_,.nil=>.nil
 |_,_,0,.cons _ t=>.cons r t
 |_,_,i+1,.cons q t=>.cons q (am.set r i t)
theorem am.append{xs ys:List V}{us ws:Zd}(h:am xs us)(s:am ys ws):am (xs++ys) (us++ws):=by
 induction h with
 |nil=>exact s
 |cons r _ a=>exact .cons r a
theorem am.take:∀{xs:List V}{us:Zd}(n:Nat),am xs us->am (xs.take n) (us.take n)
 |_,_,0,_=>.nil
 |_,_,_+1,.nil=>.nil
 |_,_,n+1,.cons r t=>.cons r (am.take n t)
theorem am.drop:∀{xs:List V}{us:Zd}(n:Nat),am xs us->am (xs.drop n) (us.drop n)
 |_,_,0,r=>r
 |_,_,_+1,.nil=>.nil
 |_,_,n+1,.cons _ t=>am.drop n t
def dQ:Option V->Option Value->Prop
 |some v,some u=>RelV v u
 |none,none=>True
 |_,_=>False
def KV{a:Type}:List (a×V)->List (a×Value)->Prop:=Paired λ(p:a×V) (q:a×Value)=>p.1=q.1/\RelV p.2 q.2
def kV:Key->V
 |.inl i=>.int i
 |.inr x=>.str x
inductive HO where
  /-- a list -/
  | lst (xs:List V)
  /-- a tuple (never changes) -/
  | tup (xs:List V)
  /-- a dict whose keys are ints and texts; one whose keys are tuples of ints and texts (the empty one is both) -/
  | dK (d_:List (Key × V)) | dT (d_:List (List Key × V))
  /-- a set of ints: b_ members,b_ size -/
  | set (S:Int->Bool) (n:Nat)
  /-- an instance of the class at C,b_ dict at dx,b_ attributes -/
  | ins (C dx:Addr) (fs:List (Str × V))
  /-- the dict of the instance at x -/
  | own (x:Addr)
  /-- the dict of an exception -/
  | xd (fs:List (Str × V))
  /-- a bound method,f of x -/
  | met (f x:Addr)
  /-- a range object lo,lo + 1,.. below hi -/
  | rng (lo hi:Int)
  /-- a thing that is known to the object (the script; a dict while a loop walks it): read,never written while it is so -/
  | frz (o:Obj) (u:HO)
  /-- a code object's table -/
  | tbl (ps:Zl)
  /-- any other thing,by what is true of b_ one object (a def of PH own: SetO a S n:=HO.ext λh=>..) -/
  | ext (φ:Heap->Prop)
abbrev Hp:=Addr->Option HO
def aM(H:Hp)(a:Addr)(o:HO):Hp:=λb=>if b=a then some o else H b
theorem aD{H:Hp}{a:Addr}{o:HO}:aM H a o a=some o:=by unfold aM;rw[if_pos rfl]
theorem aG{H:Hp}{a b:Addr}{o:HO}(h:b≠a):aM H a o b=H b:=by unfold aM;rw[if_neg h]
theorem Hs{H:Hp}{a b:Addr}{o u:HO}(h:H a=some o)(h':H b=some u)(d:o≠u):a≠b:=by
 intro e;subst e;rw[h] at h';exact d (Yi h')
theorem bt{H:Hp}{a b:Addr}{o:HO}(h:H a=some o)(h':H b=none):a≠b:=by
 intro e;subst e;rw[h] at h';cases h'
section
variable (P:Zt)(w:World)
def bg(H:Hp)(h:Heap)(a:Addr):HO->Prop
 |.lst xs=>xs.length<=sizeLine/\∃(b_:Zd) (n:Nat),am xs b_/\h.get? a=some { cls:=.type "list",data:=.seq b_.toArray n }
 |.tup xs=>xs.length<=sizeLine/\∃b_:List Value,am xs b_/\IsTup h a b_.toArray
 |.dK b=>b.length<=sizeLine/\(a==sysModules)=false/\∃vs,KV b vs/\h.DictOf (bA P w) a vs
 |.dT b=>b.length<=sizeLine/\(a==sysModules)=false/\∃xs:List (List Key×Addr×Value),
   Paired (λ(p:List Key×V) (q:List Key×Addr×Value)=>p.1=q.1/\H q.2.1=some (.tup (p.1.map kV))/\RelV p.2 q.2.2) b xs /\
   ∃o es g,h.get? a=some o/\o.ExactDict/\o.data=.dict es g/\es.toList=xs.map (entryOfKey (tupleKind (bA P w)))/\(xs.map (·.1)).Nodup
 |.set S n=>h.SetOf (intKind P w) a S n
 |.ins C dx fs=>H dx=some (.own a)/\fs.length<=1000/\dx≠a/\h.get? a=some (PySem.W.instObj C dx) /\
   ∃mA,h.Ns1 dx mA/\(∀f,dQ (fs.lookup f) (mA f))/\PySem.Within mA (fs.map (·.1))
 |.own _=>∃o,h.get? a=some o
 |.xd fs=>∃mA,h.Ns1 a mA/\∀f,dQ (fs.lookup f) (mA f)
 |.rng lo hi=>∃t u v,h.get? a=some { cls:=.type "range",data:=.fields #[.int lo t,.int hi u,.int 1 v] }
 |.frz o u=>h.get? a=some o/\bg H h a u
 |.tbl ps=>h.get? a=some { cls:=.none,data:=.fields ps }
 |.met f x=>h.get? a=some (PySem.W.methodObj (.ref f) (.ref x))
 |.ext c=>c h/\(∃o,h.get? a=some o)/\∀h1 d:Heap,c h1->(∀o,h1.get? a=some o->d.get? a=some o)->c d
def ci(H:Hp)(h:Heap):Prop:=∀a o,H a=some o->bg P w H h a o
end
section
variable {P:Zt}{w:World}{H H':Hp}{h h':Heap}{a:Addr}{o:HO}
theorem bg.lt(x:bg P w H h a o):a<h.objs.size:=by
 cases o with
 |lst xs=>obtain⟨_,_,_,_,e⟩:=x;exact Ye e
 |tup xs=>obtain⟨_,_,_,p⟩:=x;exact p.lt
 |dK b=>obtain⟨_,_,_,_,o,_,_,e,_⟩:=x;exact Ye e
 |dT b=>obtain⟨_,_,_,_,o,_,_,e,_⟩:=x;exact Ye e
 |set S n=>obtain⟨o,_,_,_,e,_⟩:=x;exact Ye e
 |ins C dx fs=>obtain⟨_,_,_,e,_⟩:=x;exact Ye e
 |own y=>obtain⟨_,e⟩:=x;exact Ye e
 |xd fs=>obtain⟨_,⟨_,_,_,e,_⟩,_⟩:=x;exact Ye e
 |rng lo hi=>obtain⟨_,_,_,e⟩:=x;exact Ye e
 |frz c u=>obtain⟨e,_⟩:=x;exact Ye e
 |tbl ps=>exact Ye (show h.get? a=some _ from x)
 |met f y=>exact Ye (show h.get? a=some _ from x)
 |ext d=>obtain⟨_,⟨_,e⟩,_⟩:=x;exact Ye e
theorem Paired.mapP{c d:Type}{F G:c->d->Prop}{g:List c}{j:List d}(h:Paired F g j)(f:∀a b,F a b->G a b):Paired G g j:=by
 induction h with
 |nil=>exact .nil
 |cons r _ l=>exact .cons (f _ _ r) l
theorem bg.stay(x:bg P w H h a o)(k:∀b u,(b=a\/H b=some (.own a))->h.get? b=some u->h'.get? b=some u)
  (l:∀b,H b=some (.own a)->H' b=some (.own a)) (ht:∀b xs,H b=some (.tup xs)->H' b=some (.tup xs)):bg P w H' h' a o:=by
 induction o with
 |lst xs=>obtain⟨z,b_,n,r,e⟩:=x;exact⟨z,b_,n,r,k _ _ (.inl rfl) e⟩
 |tup xs=>obtain⟨z,b_,r,g,e,c⟩:=x;exact⟨z,b_,r,g,k _ _ (.inl rfl) e,c⟩
 |dK m=>obtain⟨z,y,vs,r,g,es,j,e,c⟩:=x;exact⟨z,y,vs,r,g,es,j,k _ _ (.inl rfl) e,c⟩
 |dT m=>
  obtain⟨z,y,xs,r,g,es,j,e,c⟩:=x;exact⟨z,y,xs,Paired.mapP r λp q z=>⟨z.1,ht _ _ z.2.1,z.2.2⟩,g,es,j,k _ _ (.inl rfl) e,c⟩
 |set S n=>obtain⟨g,es,j,t,e,c⟩:=x;exact⟨g,es,j,t,k _ _ (.inl rfl) e,c⟩
 |ins C dx fs=>
  obtain⟨d,z,ne,e,mA,⟨od,es,j,e2,c⟩,r⟩:=x;exact⟨l _ d,z,ne,k _ _ (.inl rfl) e,mA,⟨od,es,j,k _ _ (.inr d) e2,c⟩,r⟩
 |own y=>obtain⟨g,e⟩:=x;exact⟨g,k _ _ (.inl rfl) e⟩
 |xd fs=>obtain⟨mA,⟨od,es,j,e,c⟩,r⟩:=x;exact⟨mA,⟨od,es,j,k _ _ (.inl rfl) e,c⟩,r⟩
 |rng lo hi=>obtain⟨t,u,v,e⟩:=x;exact⟨t,u,v,k _ _ (.inl rfl) e⟩
 |frz g u A=>obtain⟨e,q⟩:=x;exact⟨k _ _ (.inl rfl) e,A q⟩
 |tbl ps=>
  have e:h.get? a=some { cls:=.none,data:=.fields ps }:=x;show h'.get? a=some { cls:=.none,data:=.fields ps };exact k a _ (.inl rfl) e
 |met f y=>
  have e:h.get? a=some (PySem.W.methodObj (.ref f) (.ref y)):=x;show h'.get? a=some (PySem.W.methodObj (.ref f) (.ref y));exact k a _ (.inl rfl) e
 |ext B=>obtain⟨p,⟨o,e⟩,st⟩:=x;exact⟨st _ _ p λo q=>k _ _ (.inl rfl) q,⟨o,k _ _ (.inl rfl) e⟩,st⟩
theorem ci.lt(x:ci P w H h)(e:H a=some o):a<h.objs.size:=(x a o e).lt
theorem ci.fresh(x:ci P w H h)(e:h.objs.size<=a):H a=none:=by
 cases q:H a with
 |none=>rfl
 |some u=>exact absurd (ZQ (x.lt q) e) (ZR _)
theorem ci.kept(x:ci P w H h)(k:∀b u,h.get? b=some u->h'.get? b=some u):ci P w H h':=λa o e=>
 (x a o e).stay (λb u _ q=>k b u q) (λ_ q=>q) λ_ _ q=>q
theorem ci.laid(x:ci P w H h)(k:∀b u,h.get? b=some u->h'.get? b=some u)(hp:h.objs.size<=a)(new:bg P w (aM H a o) h' a o):ci P w (aM H a o) h':=λb u e=>by
 have hn:=x.fresh hp;by_cases hb:b=a
 ·subst hb;rw[aD] at e;cases e;exact new
 ·rw[aG hb] at e
  exact(x b u e).stay (λc v _ q=>k c v q) (λc q=>by rw[aG (bt q hn)];exact q) λc xs q=>by rw[aG (bt q hn)];exact q
end
def Rd(H:Hp)(a:Addr)(u:HO):Prop:=H a=some u \/ ∃o,H a=some (.frz o u)
theorem Rd.ok{P:Zt}{w:World}{H:Hp}{h:Heap}{a:Addr}{u:HO}(r:Rd H a u)(x:ci P w H h):bg P w H h a u:=by
 rcases r with r | ⟨o,r⟩
 ·exact x a u r
 ·obtain⟨_,q⟩:=x a _ r
  exact q
def zY:Option HO->Prop
 |some (.lst _)=>True
 |some (.dK _)=>True
 |some (.dT _)=>True
 |some (.set _ _)=>True
 |some (.ins _ _ _)=>True
 |some (.ext _)=>True
 |_=>False
section
variable {P:Zt}{w:World}{H:Hp}{h h':Heap}{x e:Addr}{o':HO}
theorem ci.write(ok:ci P w H h)(a:zY (H x))(f:e=x\/H e=some (.own x))(k:∀b u,b≠e->h.get? b=some u->h'.get? b=some u)(l:∃u,h'.get? e=some u)
  (new:bg P w (aM H x o') h' x o'):ci P w (aM H x o') h':=λb u q=>by
 have g:∀c y,H c=some (.own y)->c≠x:=λc y r z=>by subst z;rw[r] at a;exact a
 have m:∀c xs,H c=some (.tup xs)->c≠x:=λc xs r z=>by subst z;rw[r] at a;exact a
 by_cases hb:b=x
 ·subst hb;rw[aD] at q;cases q;exact new
 ·rw[aG hb] at q
  by_cases d:b=e
  ·have j:H b=some (.own x):=by
    rcases f with z | z
    ·exact absurd (d.trans z) hb
    ·rw[d];exact z
   rw[q] at j;cases j;obtain⟨v,hv⟩:=l;exact⟨v,by rw[d];exact hv⟩
  ·refine(ok b u q).stay (λc v hc r=>k c v ?_ r) (λc r=>by rw[aG (g c b r)];exact r) λc xs r=>by rw[aG (m c xs r)];exact r
   rcases hc with rfl | hc
   ·exact d
   ·rintro rfl
    rcases f with z | z
    ·exact g c b hc z
    ·rw[hc] at z;cases z;exact hb rfl
end
structure Un (fs ex:Zh) (H H':Hp) (h h':Heap):Prop where
 keep:∀b o,h.get? b=some o->H b=none->b∉fs->b∉ex->h'.get? b=some o
 slot:∀b o,h.get? b=some o->H b=none->b∈fs->b∉ex->∃sl,h'.get? b=some { o with slots:=sl }
 free:∀b o,h.get? b=some o->H b=none->b∉ex->H' b=none
 there:∀b o,h.get? b=some o->b∉ex->∃o',h'.get? b=some o'
 tups:∀b xs,H b=some (.tup xs)->H' b=some (.tup xs)
 frzs:∀b o u,H b=some (.frz o u)->H' b=some (.frz o u)
 tbls:∀b ps,H b=some (.tbl ps)->∃more,H' b=some (.tbl (ps++more))
section
variable {fs Qu ex SM:Zh}{H H1 H2:Hp}{h h1 h2 h':Heap}{a x e:Addr}{o:HO}
theorem Un.any(u:Un fs ex H H1 h h1){b:Addr}{c:Obj}(q:h.get? b=some c)(n:H b=none)(hx:b∉ex):∃sl,h1.get? b=some { c with slots:=sl }:=by
 by_cases hb:b∈fs
 ·exact u.slot b c q n hb hx
 ·exact⟨c.slots,u.keep b c q n hb hx⟩
theorem Un.kept(k:∀b u,h.get? b=some u->h'.get? b=some u):Un fs ex H H h h':=
 ⟨λb c q _ _ _=>k b c q,λb c q _ _ _=>⟨c.slots,k b c q⟩,λ_ _ _ n _=>n,λb c q _=>⟨c,k b c q⟩,λ_ _ q=>q,λ_ _ _ q=>q,λ_ ps q=>⟨#[],by rw[q];simp⟩⟩
theorem Un.refl:Un fs ex H H h h:=Un.kept λ_ _ q=>q
theorem Un.laid(k:∀b u,h.get? b=some u->h'.get? b=some u)(hp:h.objs.size<=a)(hn:H a=none):Un fs ex H (aM H a o) h h' where
 keep:=λb u q _ _ _=>k b u q
 slot:=λb u q _ _ _=>⟨u.slots,k b u q⟩
 free:=λb u q n _=>by rw[aG (ZS (ZQ (Ye q) hp))];exact n
 there:=λb u q _=>⟨u,k b u q⟩
 tups:=λb xs q=>by rw[aG (bt q hn)];exact q
 frzs:=λb u xs q=>by rw[aG (bt q hn)];exact q
 tbls:=λb ps q=>⟨#[],by rw[aG (bt q hn),q];simp⟩
theorem Un.write(c:zY (H x))(f:e=x\/H e=some (.own x))(k:∀b u,b≠e->h.get? b=some u->h'.get? b=some u)(g:∃u,h'.get? e=some u):Un fs ex H (aM H x o) h h':=by
 have hx:∀b,H b=none->b≠x:=λb n z=>by subst z;rw[n] at c;exact c
 have hb:∀b,H b=none->b≠e:=λb n z=>by
  subst z;rcases f with r | r
  ·exact hx b n r
  ·rw[n] at r;cases r
 have hm:∀b u,H b=some u->¬zY (some u)->b≠x:=λb u q nm z=>by subst z;rw[q] at c;exact nm c
 refine⟨λb u q n _ _=>k b u (hb b n) q,λb u q n _ _=>⟨u.slots,k b u (hb b n) q⟩,λb u q n _=>by rw[aG (hx b n)];exact n,λb u q _=>?_,
  λb xs q=>by rw[aG (hm b _ q λz=>z)];exact q,λb u xs q=>by rw[aG (hm b _ q λz=>z)];exact q,λb ps q=>⟨#[],by rw[aG (hm b _ q λz=>z),q];simp⟩⟩
 by_cases d:b=e
 ·subst d;exact g
 ·exact⟨u,k b u d q⟩
end
def Dh(h:Heap)(H:Hp):List Addr:=(List.range h.objs.size).filter λa=>(H a).isSome
def lF(h:Heap)(H:Hp):Heap:=PySem.W.hideAll h (Dh h H)
theorem zZ(h:Heap)(H:Hp):(lF h H).objs.size=h.objs.size:=PySem.W.hideAll_size _ _
theorem BK{h:Heap}{H:Hp}{b:Addr}{o:Obj}(e:h.get? b=some o)(n:H b=none):(lF h H).get? b=some o:=
 PySem.W.hideAll_get _ e λhm=>by
  have q:(H b).isSome=true:=(List.mem_filter.mp hm).2;rw[n] at q;simp at q
theorem DJ{h:Heap}{H:Hp}{b:Addr}{o:Obj}(e:(lF h H).get? b=some o):h.get? b=some o/\H b=none:=by
 have e':h.get? b=some o:=PySem.W.of_hideAll (Dh h H) e;refine⟨e',?_⟩;cases q:H b with
 |none=>rfl
 |some x=>
  have hm:b∈Dh h H:=List.mem_filter.mpr ⟨ZT.mpr (Ye e'),by simp[q]⟩;have z:(lF h H).get? b=none:=PySem.W.hideAll_none (Dh h H) hm;rw[z] at e;cases e
def DL(g h:Heap)(L:Addr):List (Addr×Obj):=(List.range h.objs.size).filterMap λa=>if a=L\/(g.get? a).isSome=true then none else(h.get? a).map λo=>(a,o)
def rest(g h:Heap)(L d:Addr):List (Addr×Obj):=(DL g h L).filter λp=>decide (p.1≠d)
structure Mod (K:Za) (mg:Ze) (base:Heap):Prop where
 kin:K.In base
 glob:base.Ns mainGlobals mg
 blt:∃mb,base.Ns builtinsNs mb/\∀x:Str,x ≠ "__name__"->mb x=bootBuiltins x
 nolimit:base.NoLimit
structure Cx where
 prog:Program
 w:World
 K:PySem.W.Frag
 mg:Str->Option Value
 base:Heap
 A:Around
 N:List Str
 s₀:Shared
 H₀:Hp
 env:Env
 outer:List Env
 stack:List Env
 ex:List Addr
 fn:Str->Bool
 calm:Bool
 pn:List (Addr×Obj)
 xe:Value->Shared->Prop
def kC(l:List Env):List Addr:=l.filterMap (·.frame)
abbrev Cx.fs(X:Cx):List Addr:=kC X.outer
def vd(sc:Scope)(x:Str):Prop:=sc.names.lookup x=some .local \/ sc.names.lookup x=some .cell\/sc.names.lookup x=some .free
def Loc(sc:Scope)(x:Str):Prop:=sc.names.lookup x=some .local \/ sc.names.lookup x=some .cell
def Look(env:Env)(h:Heap)(m:Ze)(x:Str)(u:Value):Prop:=
 (env.kindOf x=some .local/\m x=some u)\/((env.kindOf x=some .cell\/env.kindOf x=some .free)/\∃c,env.cells.lookup x=some c/\h.IsCell c (some u))
structure Cx.Ok (X:Cx):Prop where
 mod:Mod X.K X.mg X.base
 kind:X.env.scope.kind=.function
 glob:X.env.globals=mainGlobals
 blt:X.env.builtins=builtinsNs
 above:X.s₀.heap.objs.size<=X.env.locals
 inj:∀x y c,X.env.cells.lookup x=some c->X.env.cells.lookup y=some c->x=y
 has:∀x,(X.env.kindOf x=some .cell\/X.env.kindOf x=some .free)->∃c,X.env.cells.lookup x=some c
 cab:∀x c,X.fn x=true->X.env.cells.lookup x=some c->X.s₀.heap.objs.size<=c
 hd:X.calm=true->X.A.handled=none
 frames:X.A.frames=some X.stack
 stk:X.stack=X.outer\/(X.stack=X.env::X.outer/\X.env.frame=some X.env.locals)
 exf:∀b∈X.ex,b≠X.env.locals/\∀x c,X.env.cells.lookup x=some c->c≠b
 bs:∀b o,X.base.get? b=some o->X.s₀.heap.get? b=some o/\X.H₀ b=none
 bsz:X.base.objs.size<=X.s₀.heap.objs.size
 noex:∀b o,X.base.get? b=some o->b∉X.ex
 exfs:∀b∈X.ex,b∉X.fs
 funs:X.s₀.heap.FunFrames X.base X.outer
 frf:∀b∈X.fs,X.H₀ b=none
structure ac (X:Cx) (a_:Zc) (σ:List (Option V)) (H:Hp) (s:Shared):Prop where
 ok:X.Ok
 os:s.os=X.s₀.os
 bare:AllBare s.gens
 base:Un X.fs X.ex X.H₀ H X.s₀.heap s.heap
 loc:∃m,s.heap.Ns X.env.locals m/\∀(i:Nat) (x:Str) (v:V),X.N[i]?=some x->σ[i]?=some (some v)->vd X.env.scope x->∃u,RelV v u/\Look X.env s.heap m x u
 cell:∀x c,X.env.cells.lookup x=some c->∃v,s.heap.IsCell c v
 free:H X.env.locals=none
 freeC:∀x c,X.env.cells.lookup x=some c->H c=none
 pin:∀p∈X.pn++a_,s.heap.get? p.1=some p.2/\H p.1=none/\p.1≠X.env.locals/\p.1∉X.fs/\∀v,p.2.data≠.cell v
 hok:ci X.prog X.w H s.heap
 len:σ.length=X.N.length
section
variable {X:Cx}{a_:Zc}{σ:List (Option V)}{H H':Hp}{s:Shared}{h':Heap}
theorem Cx.Ok.nofr(ok:X.Ok){b:Addr}{o:Obj}(e:X.base.get? b=some o):b∉X.fs:=λhb=>by
 have:=(ok.funs.mem hb).1
 rw[e] at this;cases this
theorem ac.bs(I:ac X a_ σ H s):∀b o,X.base.get? b=some o->s.heap.get? b=some o/\H b=none:=λb o e=>
 ⟨I.base.keep b o (I.ok.bs b o e).1 (I.ok.bs b o e).2 (I.ok.nofr e) (I.ok.noex b o e),I.base.free b o (I.ok.bs b o e).1 (I.ok.bs b o e).2 (I.ok.noex b o e)⟩
theorem ac.bk(I:ac X a_ σ H s):∀b o,X.base.get? b=some o->s.heap.get? b=some o:=λb o e=>(I.bs b o e).1
theorem ac.mod(I:ac X a_ σ H s):Mod X.K X.mg X.base:=I.ok.mod
theorem ac.kIn(I:ac X a_ σ H s):X.K.In s.heap:=I.ok.mod.kin.keeps I.bk
theorem ac.lt(I:ac X a_ σ H s):X.env.locals<s.heap.objs.size:=let⟨_,hn,_⟩:=I.loc;hn.lt
theorem ac.sz(I:ac X a_ σ H s):X.s₀.heap.objs.size<=s.heap.objs.size:=ZU I.ok.above (Nat.le_of_lt I.lt)
theorem ac.nofs(I:ac X a_ σ H s){a:Addr}(h:s.heap.objs.size<=a):a∉X.fs:=λhb=>by
 obtain⟨_,o,b,_⟩:=I.ok.funs.mem hb;exact absurd (ZQ (Ye b) (ZU I.sz h)) (ZR _)
theorem ac.cne(I:ac X a_ σ H s):∀x c,X.env.cells.lookup x=some c->c≠X.env.locals:=λx c e z=>by
 obtain⟨v,o,a,hd⟩:=I.cell x c e;obtain⟨m,⟨o',es,f,b,d,_⟩,_⟩:=I.loc;rw[z,b] at a;cases a;rw[d] at hd;cases hd
theorem ac.funs(I:ac X a_ σ H s):s.heap.FunFrames X.base X.outer:=by
 have all:∀(l:List Env),(∀b∈kC l,b∈X.fs)->X.s₀.heap.FunFrames X.base l->s.heap.FunFrames X.base l:=by
  intro l;induction l with
  |nil=>intro _ _;trivial
  |cons env r f=>
   intro d hl;obtain⟨hk,⟨L,o,a,hn,g,hd⟩,j⟩:=hl;have c:L∈X.fs:=d L (by unfold kC;rw[ZV,a];exact ZW);obtain⟨sl,e⟩:=I.base.slot L o g (I.ok.frf L c) c λz=>I.ok.exfs L z c
   exact⟨hk,⟨L,_,a,hn,e,hd⟩,f (λb hb=>d b (by unfold kC;rw[ZV,a];exact ZX _ hb)) j⟩
 exact all X.outer (λ_ hb=>hb) I.ok.funs
theorem ac.stack(I:ac X a_ σ H s):s.heap.FunFrames X.base X.stack:=by
 rcases I.ok.stk with e | ⟨e,hf⟩
 ·rw[e];exact I.funs
 ·rw[e]
  obtain⟨m,hn,_⟩:=I.loc;refine .cons (by rw[I.ok.kind];decide) hf hn ?_ I.funs;exact Heap.get?_none_of_le (ZU I.ok.bsz I.ok.above)
theorem ac.stkSub(I:ac X a_ σ H s):∀b∈kC X.stack,b∈X.env.locals::X.fs:=λb hb=>by
 rcases I.ok.stk with e | ⟨e,hf⟩
 ·rw[e] at hb;exact ZX _ hb
 ·rw[e] at hb
  unfold kC at hb;rw[ZV,hf] at hb;exact hb
theorem ac.stkFree(I:ac X a_ σ H s):∀b∈kC X.stack,H b=none:=λb hb=>by
 rcases ZY.mp (I.stkSub b hb) with e | hb
 ·rw[e];exact I.free
 ·obtain⟨_,o,a,_⟩:=I.ok.funs.mem hb
  exact I.base.free b o a (I.ok.frf b hb) λz=>I.ok.exfs b z hb
theorem ac.step{g':Array GenState}{t':Nat}{d':Drawn}{ch:Zh}(I:ac X a_ σ H s)
  (g:∀b∈ch,(b∈X.ex\/X.s₀.heap.objs.size<=b)/\b≠X.env.locals/\(∀x c,X.env.cells.lookup x=some c->c≠b)/\∀p∈X.pn++a_,p.1≠b)
  (keep:∀b o,b≠X.env.locals->b∉X.fs->b∉ch->s.heap.get? b=some o->H b=none->h'.get? b=some o)
  (slot:∀b o,b≠X.env.locals->b∈X.fs->b∉ch->s.heap.get? b=some o->H b=none->∃sl,h'.get? b=some { o with slots:=sl }) (free:∀b o,b∉ch->s.heap.get? b=some o->H b=none->H' b=none)
  (there:∀b o,b∉ch->s.heap.get? b=some o->∃o',h'.get? b=some o')
  (tups:∀b xs,H b=some (.tup xs)->H' b=some (.tup xs)) (frzs:∀b o u,H b=some (.frz o u)->H' b=some (.frz o u)) (tbls:∀b ps,H b=some (.tbl ps)->∃more,H' b=some (.tbl (ps++more)))
  (ns:∀m,s.heap.Ns X.env.locals m->h'.Ns X.env.locals m) (hok:ci X.prog X.w H' h') (B:AllBare g'):
  ac X a_ σ H' { s with heap:=h',gens:=g',drawn:=d',toks:=t' }:=by
 have y:∀b o,X.s₀.heap.get? b=some o->b≠X.env.locals:=λb o e=>ZS (ZQ (Ye e) I.ok.above)
 have t:∀b o,X.s₀.heap.get? b=some o->b∉X.ex->b∉ch:=λb o e hx hb=>by
  rcases(g b hb).1 with z | z
  ·exact hx z
  ·exact absurd (ZQ (Ye e) z) (ZR _)
 have a:∀x c,X.env.cells.lookup x=some c->∀v,s.heap.IsCell c v->h'.IsCell c v:=λx c e v ⟨o,f,hd⟩=>by
  have j:c∉ch:=λz=>(g c z).2.2.1 x c e rfl
  by_cases hc:c∈X.fs
  ·obtain⟨sl,q⟩:=slot c o (I.cne x c e) hc j f (I.freeC x c e)
   exact⟨_,q,hd⟩
  ·exact⟨o,keep c o (I.cne x c e) hc j f (I.freeC x c e),hd⟩
 refine⟨I.ok,I.os,B,⟨λb o e n hb hx=>?_,λb o e n hb hx=>?_,λb o e n hx=>?_,λb o e hx=>?_,λb xs e=>tups b xs (I.base.tups b xs e),λb o xs e=>frzs b o xs (I.base.frzs b o xs e),λb ps e=>?_⟩,?_,λx c e=>?_,?_,λx c e=>?_,λp hp=>?_,hok,I.len⟩
 ·exact keep b o (y b o e) hb (t b o e hx) (I.base.keep b o e n hb hx) (I.base.free b o e n hx)
 ·obtain⟨sl,e1⟩:=I.base.slot b o e n hb hx
  obtain⟨C,e2⟩:=slot b _ (y b o e) hb (t b o e hx) e1 (I.base.free b o e n hx);exact⟨C,e2⟩
 ·obtain⟨o',e1⟩:=I.base.there b o e hx
  exact free b o' (t b o e hx) e1 (I.base.free b o e n hx)
 ·obtain⟨o',e1⟩:=I.base.there b o e hx
  exact there b o' (t b o e hx) e1
 ·obtain⟨E,e1⟩:=I.base.tbls b ps e
  obtain⟨F,e2⟩:=tbls b _ e1;exact⟨E++F,by rw[e2,ZZ]⟩
 ·obtain⟨m,hn,hl⟩:=I.loc
  refine⟨m,ns m hn,λi x v e1 e2 G=>?_⟩;obtain⟨u,r,l⟩:=hl i x v e1 e2 G;refine⟨u,r,?_⟩;rcases l with l | ⟨k,c,e,z⟩
  ·exact .inl l
  ·exact .inr ⟨k,c,e,a x c e _ z⟩
 ·obtain⟨v,z⟩:=I.cell x c e
  exact⟨v,a x c e v z⟩
 ·obtain⟨m,⟨o,_,_,f,_⟩,_⟩:=I.loc
  exact free _ o (λz=>(g _ z).2.1 rfl) f I.free
 ·obtain⟨v,o,f,hd⟩:=I.cell x c e
  exact free c o (λz=>(g c z).2.2.1 x c e rfl) f (I.freeC x c e)
 ·obtain⟨e,n,ne,A,d⟩:=I.pin p hp
  have j:p.1∉ch:=λz=>(g p.1 z).2.2.2 p hp rfl
  exact⟨keep p.1 p.2 ne A j e n,free p.1 p.2 j e n,ne,A,d⟩
theorem ac.un{t':Nat}(I:ac X a_ σ H s)(u:Un X.fs [] H H' s.heap h')(hok:ci X.prog X.w H' h'):ac X a_ σ H' { s with heap:=h',toks:=t' }:=by
 obtain⟨m,⟨o,es,l,a,r⟩,_⟩:=id I.loc;obtain⟨sl,d⟩:=u.any a I.free (by simp);exact I.step (g':=s.gens) (d':=s.drawn) (ch:=[]) (λ_ z=>nomatch z) (λb o _ hb _ e n=>u.keep b o e n hb (by simp)) (λb o _ hb _ e n=>u.slot b o e n hb (by simp)) (λb o _ e n=>u.free b o e n (by simp)) (λb o _ e=>u.there b o e (by simp)) u.tups u.frzs u.tbls (λm' hm=>by
  obtain⟨o',f,g,c,j⟩:=hm;rw[a] at c;cases c;exact⟨_,f,g,d,j⟩) hok I.bare
theorem ac.call{g':Array GenState}{t':Nat}{d':Drawn}{ch:Zh}(I:ac X a_ σ H s)(u:Un (kC X.stack) ch H H' s.heap h')(hok:ci X.prog X.w H' h')(j:AllBare g')
  (d:∀b∈ch,(b∈X.ex\/X.s₀.heap.objs.size<=b)/\b≠X.env.locals/\(∀x c,X.env.cells.lookup x=some c->c≠b)/\∀p∈X.pn++a_,p.1≠b):
  ac X a_ σ H' { s with heap:=h',gens:=g',drawn:=d',toks:=t' }:=by
 obtain⟨m,⟨o,es,y,f,r⟩,_⟩:=id I.loc;obtain⟨sl,a⟩:=u.any f I.free λz=>(d _ z).2.1 rfl
 exact I.step (ch:=ch) d (λb o a hb hc e n=>u.keep b o e n (λz=>(ZY.mp (I.stkSub b z)).elim a hb) hc) (λb o _ _ hc e n=>u.any e n hc) (λb o hc e n=>u.free b o e n hc) (λb o hc e=>u.there b o e hc) u.tups u.frzs u.tbls (λm' hm=>by
  obtain⟨o',l,q,g,t⟩:=hm;rw[f] at g;cases g;exact⟨_,l,q,a,t⟩) hok j
theorem ac.turned{t':Nat}{it:Addr}(I:ac X a_ σ H s)(k:∀b o,b≠it->s.heap.get? b=some o->h'.get? b=some o)(hn:H it=none)(a:it≠X.env.locals)
  (h1:it∈X.ex\/X.s₀.heap.objs.size<=it) (f:∀x c,X.env.cells.lookup x=some c->c≠it) (g:∀p∈X.pn++a_,p.1≠it):ac X a_ σ H { s with heap:=h',toks:=t' }:=by
 have d:∀b u,H b=some u->b≠it:=λb u e z=>by rw[z,hn] at e;cases e
 refine I.step (g':=s.gens) (d':=s.drawn) (ch:=[it]) (λb hb=>?_) (λb o _ _ hc e _=>k b o (λz=>hc (by simp[z])) e) (λb o _ _ hc e _=>⟨o.slots,k b o (λz=>hc (by simp[z])) e⟩) (λ_ _ _ _ n=>n)
  (λb o hc e=>⟨o,k b o (λz=>hc (by simp[z])) e⟩) (λ_ _ e=>e) (λ_ _ _ e=>e) (λb ps e=>⟨#[],by rw[e];simp⟩) (λm hm=>?_) (λb u e=>?_) I.bare
 ·have e:b=it:=by simpa using hb
  subst e;exact⟨h1,a,f,g⟩
 ·obtain⟨o,es,j,l,r⟩:=hm
  exact⟨o,es,j,k _ o (Ne.symm a) l,r⟩
 ·refine(I.hok b u e).stay (λc v hc q=>k c v ?_ q) (λ_ q=>q) λ_ _ q=>q
  rcases hc with z | z
  ·rw[z];exact d b u e
  ·exact d c _ z
theorem ac.tok(I:ac X a_ σ H s)(t:Nat):ac X a_ σ H { s with toks:=t }:=I.un (h':=s.heap) (t':=t) Un.refl I.hok
theorem ac.kept{t':Nat}(I:ac X a_ σ H s)(k:∀b u,s.heap.get? b=some u->h'.get? b=some u):ac X a_ σ H { s with heap:=h',toks:=t' }:=I.un (Un.kept k) (I.hok.kept k)
theorem ac.laid{a:Addr}{o:HO}{t':Nat}(I:ac X a_ σ H s)(k:∀b u,s.heap.get? b=some u->h'.get? b=some u)(hp:s.heap.objs.size<=a)(new:bg X.prog X.w (aM H a o) h' a o):
  ac X a_ σ (aM H a o) { s with heap:=h',toks:=t' }:=I.un (Un.laid k hp (I.hok.fresh hp)) (I.hok.laid k hp new)
theorem ac.write{x e:Addr}{o:HO}{t':Nat}(I:ac X a_ σ H s)(a:zY (H x))(c:e=x\/H e=some (.own x))(k:∀b u,b≠e->s.heap.get? b=some u->h'.get? b=some u)(d:∃u,h'.get? e=some u)
  (new:bg X.prog X.w (aM H x o) h' x o):ac X a_ σ (aM H x o) { s with heap:=h',toks:=t' }:=I.un (Un.write a c k d) (I.hok.write a c k d new)
theorem ac.pins_of{a:Zc}(I:ac X a_ σ H s)(h:∀p∈a,s.heap.get? p.1=some p.2/\H p.1=none/\p.1≠X.env.locals/\p.1∉X.fs/\∀v,p.2.data≠.cell v):ac X a σ H s:=
 ⟨I.ok,I.os,I.bare,I.base,I.loc,I.cell,I.free,I.freeC,λp hp=>(YA.mp hp).elim (λz=>I.pin p (List.mem_append_left _ z)) (h p),I.hok,I.len⟩
theorem ve{N:Zf}(c:N.Nodup){i j:Nat}{x:Str}(a:N[i]?=some x)(b:N[j]?=some x):i=j:=by
 obtain⟨h1,e1⟩:=YB.mp a;obtain⟨d,e2⟩:=YB.mp b;exact(List.getElem_inj c).mp (e1.trans e2.symm)
theorem tP{M:Model}{A:Around}{E:Zb}{i:Nat}{x:Str}{v:V}{u:Value}{Q:Zo}(I:ac X a_ σ H s)(O:X.N.Nodup)(hi:X.N[i]?=some x)(hx:Loc X.env.scope x)(r:RelV v u)
  (h:∀B,ac X a_ (σ.set i (some v)) H B->(∃a,Heap.SameBut a s.heap B.heap/\(a=X.env.locals\/X.env.cells.lookup x=some a))->Q () B) (U:X.fn x=true\/X.env.scope.names.lookup x=some .local):wpAny M A (storeName X.env x u) Q E s:=by
 obtain⟨m,hn,hl⟩:=id I.loc;have W:(X.env.scope.kind==.class||(X.env.scope.kind==.module&&X.env.locals != X.env.globals))=false:=by rw[I.ok.kind];rfl
 have P:i<σ.length:=by rw[I.len];exact(YB.mp hi).1
 have cne:=I.cne;have g:∀{a:Addr}{h':Heap},(∃o,s.heap.get? a=some o/\H a=none)->Heap.SameBut a s.heap h'->ci X.prog X.w H h':=λ{a h'} ha f b Y e=>by
  obtain⟨_,_,R⟩:=ha;refine(I.hok b Y e).stay (λc t hc q=>(f.2 c ?_).trans q) (λ_ q=>q) λ_ _ q=>q
  rintro rfl;rcases hc with rfl | hc
  ·rw[R] at e;cases e
  ·rw[R] at hc;cases hc
 rcases hx with hk | hk
 ·refine wpAny_storeName_local hk hn (λh' Z f=>?_) W
  obtain⟨oL,_,_,Qw,_⟩:=id hn;refine h _ ⟨I.ok,I.os,I.bare,⟨λb o e n hb hx=>?_,λb o e n hb hx=>?_,I.base.free,λb o e hx=>?_,I.base.tups,I.base.frzs,I.base.tbls⟩,⟨_,Z,λj y C e1 e2 F=>?_⟩,λy c e=>?_,I.free,I.freeC,λp hp=>?_,g ⟨oL,Qw,I.free⟩ f,by simpa using I.len⟩ ⟨_,f,.inl rfl⟩
  ·exact(f.2 b (ZS (ZQ (Ye e) I.ok.above))).trans (I.base.keep b o e n hb hx)
  ·obtain⟨sl,e1⟩:=I.base.slot b o e n hb hx
   exact⟨sl,(f.2 b (ZS (ZQ (Ye e) I.ok.above))).trans e1⟩
  ·obtain⟨o',e1⟩:=I.base.there b o e hx
   exact⟨o',(f.2 b (ZS (ZQ (Ye e) I.ok.above))).trans e1⟩
  ·by_cases l:j=i
   ·subst l
    rw[hi] at e1;cases e1;rw[List.getElem?_set_self P] at e2;cases e2;exact⟨u,r,.inl ⟨hk,by simp⟩⟩
   ·rw[List.getElem?_set_ne (Ne.symm l)] at e2
    obtain⟨G,J,q⟩:=hl j y C e1 e2 F;refine⟨G,J,?_⟩;rcases q with⟨k,e⟩ | ⟨k,c,e,z⟩
    ·refine .inl ⟨k,?_⟩
     have:y≠x:=λe=>l (ve O e1 (e▸hi))
     simp[this,e]
    ·exact .inr ⟨k,c,e,z.sameBut f (cne y c e)⟩
  ·obtain⟨t,z⟩:=I.cell y c e
   exact⟨t,z.sameBut f (cne y c e)⟩
  ·obtain⟨e,n,ne,K,d⟩:=I.pin p hp
   exact⟨(f.2 p.1 ne).trans e,n,ne,K,d⟩
 ·have L:X.fn x=true:=by
   rcases U with z | z
   ·exact z
   ·rw[z] at hk;cases hk
  obtain⟨c,hc⟩:=I.ok.has x (.inl hk);obtain⟨t,z⟩:=I.cell x c hc;refine wpAny_storeName_cell I.ok.kind hk hc z (λh' D_ f=>?_);obtain⟨oc,S,Nt⟩:=id z;refine h { s with heap:=h' } ⟨I.ok,I.os,I.bare,⟨λb o e n hb hx=>?_,λb o e n hb hx=>?_,I.base.free,λb o e hx=>?_,I.base.tups,I.base.frzs,I.base.tbls⟩,⟨m,hn.sameBut f (Ne.symm (cne x c hc)),λj y C e1 e2 F=>?_⟩,λy c' e=>?_,I.free,I.freeC,λp hp=>?_,g ⟨oc,S,I.freeC x c hc⟩ f,by simpa using I.len⟩ ⟨c,f,.inr hc⟩
  ·exact(f.2 b (ZS (ZQ (Ye e) (I.ok.cab x c L hc)))).trans (I.base.keep b o e n hb hx)
  ·obtain⟨sl,e1⟩:=I.base.slot b o e n hb hx
   exact⟨sl,(f.2 b (ZS (ZQ (Ye e) (I.ok.cab x c L hc)))).trans e1⟩
  ·obtain⟨o',e1⟩:=I.base.there b o e hx
   exact⟨o',(f.2 b (ZS (ZQ (Ye e) (I.ok.cab x c L hc)))).trans e1⟩
  ·by_cases l:j=i
   ·subst l
    rw[hi] at e1;cases e1;rw[List.getElem?_set_self P] at e2;cases e2;exact⟨u,r,.inr ⟨.inl hk,c,hc,D_⟩⟩
   ·rw[List.getElem?_set_ne (Ne.symm l)] at e2
    obtain⟨G,J,q⟩:=hl j y C e1 e2 F;refine⟨G,J,?_⟩;rcases q with q | ⟨k,c',e,z'⟩
    ·exact .inl q
    ·refine .inr ⟨k,c',e,z'.sameBut f ?_⟩
     rintro rfl;exact l (ve O e1 (I.ok.inj _ _ _ e hc▸hi))
  ·by_cases T:c'=c
   ·subst T;exact⟨_,D_⟩
   ·obtain⟨w2,z2⟩:=I.cell y c' e
    exact⟨w2,z2.sameBut f T⟩
  ·obtain⟨e,n,ne,K,d⟩:=I.pin p hp
   refine⟨(f.2 p.1 ?_).trans e,n,ne,K,d⟩;intro q;rw[q,S] at e;have q':oc=p.2:=Yi e;exact d t (by rw[←q'];exact Nt)
theorem vf{M:Model}{A:Around}{E:Zb}{i:Nat}{x:Str}{v:V}{u:Value}{Q:Zo}(I:ac X a_ σ H s)(b:X.N.Nodup)(hi:X.N[i]?=some x)(hx:Loc X.env.scope x)(r:RelV v u)
  (h:∀a,ac X a_ (σ.set i (some v)) H a->Q () a) (c:X.fn x=true\/X.env.scope.names.lookup x=some .local:=by first | exact .inl rfl | exact .inr rfl | assumption):wpAny M A (storeName X.env x u) Q E s:=
 tP I b hi hx r (λa d _=>h a d) c
theorem ac.call'{a:Shared}{ch:Zh}(I:ac X a_ σ H s)(d:a.os=s.os)(u:Un (kC X.stack) ch H H' s.heap a.heap)(hok:ci X.prog X.w H' a.heap)(f:AllBare a.gens)
  (g:∀b∈ch,(b∈X.ex\/X.s₀.heap.objs.size<=b)/\b≠X.env.locals/\(∀x c,X.env.cells.lookup x=some c->c≠b)/\∀p∈X.pn++a_,p.1≠b):ac X a_ σ H' a:=by
 obtain⟨h',g',d',t',o'⟩:=a;have e:o'=s.os:=d;subst e;exact I.call (g':=g') (t':=t') (d':=d') u hok f g
end
abbrev XK:=Value->Option Addr->Hp->Prop
abbrev St:=List (Option V)
abbrev VK:=V->Hp->Prop
abbrev TE:=St->Hp->VK->Prop
abbrev TT:=St->Hp->(Bool->Hp->Prop)->Prop
abbrev TA:=St->Hp->(List V->Hp->Prop)->Prop
structure Ends where
 nx:St->Hp->Prop
 rt:VK
 bk:St->Hp->Prop:=λ_ _=>False
 ct:St->Hp->Prop:=λ_ _=>False
abbrev TS:=Ends->St->Hp->Prop
def EP(X:Cx)(a_:Zc)(σ:St)(Q:VK)(u:Value)(a:Shared):Prop:=∃v H',ac X a_ σ H' a/\RelV v u/\Q v H'
def TP(X:Cx)(a_:Zc)(σ:St)(Q:Bool->Hp->Prop)(b:Bool)(a:Shared):Prop:=∃H',ac X a_ σ H' a/\Q b H'
def AP(X:Cx)(a_:Zc)(σ:St)(Q:List V->Hp->Prop)(us:Zd)(a:Shared):Prop:=∃vs H',ac X a_ σ H' a/\am vs us/\Q vs H'
def SP(X:Cx)(a_:Zc)(D:Ends)(f:Flow)(b:Shared):Prop:=
 match f with
 |.next=>∃a H',ac X a_ a H' b/\D.nx a H'
 |.brk=>∃a H',ac X a_ a H' b/\D.bk a H'
 |.cont=>∃a H',ac X a_ a H' b/\D.ct a H'
 |.ret u=>∃v a H',ac X a_ a H' b/\RelV v u/\D.rt v H'
def PE(X:Cx)(e:Expr)(t:TE):Prop:=
 ∀(a_:Zc) (s:Shared) (σ:St) (H:Hp) (Q:VK),ac X a_ σ H s->t σ H Q->wpAny 'b' X.A (eval e X.env) (EP X a_ σ Q) X.xe s
def PT(X:Cx)(e:Expr)(t:TT):Prop:=
 ∀(a_:Zc) (s:Shared) (σ:St) (H:Hp) (Q:Bool->Hp->Prop),ac X a_ σ H s->t σ H Q->wpAny 'b' X.A (isTrue e X.env (eval e X.env)) (TP X a_ σ Q) X.xe s
def PW(X:Cx)(e:Expr)(t:TT):Prop:=
 ∀(a:Sem Value) (a_:Zc) (s:Shared) (σ:St) (H:Hp) (Q:Bool->Hp->Prop),ac X a_ σ H s->t σ H Q->wpAny 'b' X.A (isTrue e X.env a) (TP X a_ σ Q) X.xe s
def PA(X:Cx)(es:Zg)(t:TA):Prop:=
 ∀(a:Pos) (a_:Zc) (s:Shared) (σ:St) (H:Hp) (Q:List V->Hp->Prop),ac X a_ σ H s->t σ H Q->wpAny 'b' X.A (spliced (backTo a (starEach es X.env))) (AP X a_ σ Q) X.xe s
def PS(X:Cx)(st:Stmt)(t:TS):Prop:=
 ∀(a_:Zc) (s:Shared) (σ:St) (H:Hp) (D:Ends),ac X a_ σ H s->t D σ H->wpAny 'b' X.A (exec st X.env) (SP X a_ D) X.xe s
def kE(X:Cx)(st:Zr)(t:TS):Prop:=
 ∀(a_:Zc) (s:Shared) (σ:St) (H:Hp) (D:Ends),ac X a_ σ H s->t D σ H->wpAny 'b' X.A (execs st X.env) (SP X a_ D) X.xe s
theorem aE{b:Type}{t:Sem b}{Q c:b->Shared->Prop}{M:Model}{A:Around}{E:Zb}{s:Shared}(h:wpAny M A t Q E s)(d:∀a s,Q a s->c a s):wpAny M A t c E s:=wpAny_mono h d λ_ _ x=>x
section
variable {X:Cx}
theorem bin{a b:Expr}{g j:TE}(ha:PE X a g)(hb:PE X b j){a_:Zc}{s:Shared}{σ:St}{H:Hp}{R:V->V->Hp->Prop}(I:ac X a_ σ H s)(h:g σ H λx d=>j σ d λy c=>R x y c)
  {l:Type}{Q:l->Shared->Prop}{f:Value->Value->Sem l}
  (m:∀v u s2 x y c,ac X a_ σ c s2->RelV x v->RelV y u->R x y c->wpAny 'b' X.A (f v u) Q X.xe s2):
  wpAny 'b' X.A (eval a X.env) (λv f'=>wpAny 'b' X.A (eval b X.env) (λu n=>wpAny 'b' X.A (f v u) Q X.xe n) X.xe f') X.xe s:=by
 refine aE (ha a_ s σ H _ I h) λv s1 o=>?_
 obtain⟨x,d,p,q,q1⟩:=o;refine aE (hb a_ s1 σ d _ p q1) λu s2 r=>?_
 obtain⟨y,c,t,z,B⟩:=r;exact m v u s2 x y c t q z B
def ID(i:Nat):TE:=λσ H Q=>∃v,σ[i]?=some (some v)/\Q v H
def tC(v:V):TE:=λ_ H Q=>Q v H
theorem FE{i:Nat}{x:Str}{a:Pos}(d:X.N[i]?=some x)(hv:vd X.env.scope x)(hd:(x==("__debug__" : Str))=false:=by decide)(f:(x==("__classdict__" : Str))=false:=by decide):PE X (.Name x a) (ID i):=by
 intro a_ s σ H Q I h;obtain⟨v,e,h⟩:=h;obtain⟨m,hn,hl⟩:=I.loc;obtain⟨u,r,l⟩:=hl i x v d e hv;have fin:EP X a_ σ Q u s:=⟨v,H,I,r,h⟩;rcases l with⟨hk,hm⟩ | ⟨hk,c,hc,b⟩
 ·exact wpAny_Name (wpAny_loadName_local I.ok.kind hk hn hm fin) hd
 ·rcases hk with hk | hk
  ·exact wpAny_Name (wpAny_loadName_cell I.ok.kind hk hc b fin) hd
  ·exact wpAny_Name (wpAny_loadName_free I.ok.kind hk hc b fin f) hd
theorem FF{i j pos}:PE X (.Constant (.int i) j pos) (tC (.int i)):=λ_ _ _ H _ I h=>wpAny_Constant_int ⟨.int i,H,I.tok _,⟨_,rfl⟩,h⟩
theorem Ht{b j pos}:PE X (.Constant (.bool b) j pos) (tC (.bl b)):=λ_ _ _ H _ I h=>Constant_bool ⟨.bl b,H,I,rfl,h⟩
theorem FG{j pos}:PE X (.Constant .none j pos) (tC .non):=λ_ _ _ H _ I h=>Constant_none ⟨.non,H,I,rfl,h⟩
theorem FH{x j pos}:PE X (.Constant (.str x) j pos) (tC (.str x)):=λ_ _ _ H _ I h=>Calls.Constant_str ⟨.str x,H,I.tok _,⟨_,rfl⟩,h⟩
def Gl(X:Cx)(x:Str):Prop:=X.env.kindOf x=some .globalImplicit
theorem sR{E:Zb}{a_:Zc}{s:Shared}{σ:St}{H:Hp}{x:Str}{u:Value}{a:Pos}{Q:Zb}(I:ac X a_ σ H s)(b:Gl X x)(hm:X.mg x=some u)(h:Q u s)
  (hd:(x==("__debug__" : Str))=false:=by decide):wpAny 'b' X.A (eval (.Name x a) X.env) Q E s:=
 Calls.Name_function_global I.ok.kind b (Calls.loadGlobal_global (by rw[I.ok.glob];exact I.mod.glob.keeps I.bk) hm h) hd
theorem dc{E:Zb}{a_:Zc}{s:Shared}{σ:St}{H:Hp}{x:Str}{u:Value}{a:Pos}{Q:Zb}(I:ac X a_ σ H s)(b:Gl X x)(hm:X.mg x=none)(hv:bootBuiltins x=some u)(h:Q u s)
  (hn:x ≠ "__name__":=by decide) (hd:(x==("__debug__" : Str))=false:=by decide):wpAny 'b' X.A (eval (.Name x a) X.env) Q E s:=by
 obtain⟨mb,h1,c⟩:=I.mod.blt;exact Calls.Name_function_global I.ok.kind b (Calls.loadGlobal_builtin (by rw[I.ok.glob];exact I.mod.glob.keeps I.bk) hm (by rw[I.ok.blt];exact h1.keeps I.bk) ((c x hn).trans hv) h) hd
theorem DM{x:Str}{v:V}{u:Value}{a:Pos}(b:Gl X x)(hm:X.mg x=some u)(r:RelV v u)(hd:(x==("__debug__" : Str))=false:=by decide):PE X (.Name x a) (tC v):=
 λ_ _ _ H _ I h=>sR I b hm ⟨v,H,I,r,h⟩ hd
theorem DN{x:Str}{v:V}{u:Value}{a:Pos}(b:Gl X x)(hm:X.mg x=none)(hv:bootBuiltins x=some u)(r:RelV v u)(hn:x ≠ "__name__":=by decide)(hd:(x==("__debug__" : Str))=false:=by decide):PE X (.Name x a) (tC v):=
 λ_ _ _ H _ I h=>dc I b hm hv ⟨v,H,I,r,h⟩ hn hd
variable {a b:Expr}{ta tb:TE}{pos:Pos}
def tB(t:TE):TT:=λσ H Q=>t σ H λx d=>∃c,x=.bl c/\Q c d
variable {tA MU:TT}{rest:Zg}
def IE(t u:TT):TT:=λσ H Q=>t σ H λc d=>if c=true then u σ d Q else Q false d
def Js(t u:TT):TT:=λσ H Q=>t σ H λc d=>if c=true then Q true d else u σ d Q
def IF(t:TT):TT:=λσ H Q=>t σ H λc d=>Q (!c) d
theorem DO(ha:PT X a tA):PW X (.BoolOp .And [a] pos) tA:=by
 intro d a_ s σ H Q I h;refine isTrue_and (aE (ha a_ s σ H Q I h) λc s1 e=>?_);cases c with
 |true=>exact isTrue_and_nil e
 |false=>exact e
theorem FI(ha:PT X a tA):PW X (.BoolOp .Or [a] pos) tA:=by
 intro d a_ s σ H Q I h;refine isTrue_or (aE (ha a_ s σ H Q I h) λc s1 e=>?_);cases c with
 |false=>exact isTrue_or_nil e
 |true=>exact e
theorem FJ(ha:PT X a tA)(hb:PW X (.BoolOp .And (b::rest) pos) MU):PW X (.BoolOp .And (a::b::rest) pos) (IE tA MU):=by
 intro g a_ s σ H Q I h;refine isTrue_and (aE (ha a_ s σ H _ I h) λc s1 j=>?_);obtain⟨d,f,q1⟩:=j;cases c with
 |true=>exact hb g a_ s1 σ d Q f q1
 |false=>exact⟨d,f,q1⟩
theorem Hu(ha:PT X a tA)(hb:PW X (.BoolOp .Or (b::rest) pos) MU):PW X (.BoolOp .Or (a::b::rest) pos) (Js tA MU):=by
 intro g a_ s σ H Q I h;refine isTrue_or (aE (ha a_ s σ H _ I h) λc s1 j=>?_);obtain⟨d,f,q1⟩:=j;cases c with
 |true=>exact⟨d,f,q1⟩
 |false=>exact hb g a_ s1 σ d Q f q1
theorem FK(ha:PT X a tA):PT X (.UnaryOp .Not a pos) (IF tA):=by
 intro a_ s σ H Q I h;exact isTrue_not (ha a_ s σ H (λc d=>Q (!c) d) I h)
def Hv(ta tb:TE):TE:=λσ H Q=>ta σ H λx d=>∃c,x=.bl c/\if c=true then tb σ d Q else Q (.bl false) d
def IG(ta tb:TE):TE:=λσ H Q=>ta σ H λx d=>∃c,x=.bl c/\if c=true then Q (.bl true) d else tb σ d Q
def Hw(ta:TE):TE:=λσ H Q=>ta σ H λx d=>∃c,x=.bl c/\Q (.bl (!c)) d
theorem FM{op}{t:TE}(h:PE X a t):PE X (.BoolOp op [a] pos) t:=λa_ s σ H Q I hw=>BoolOp_one (h a_ s σ H Q I hw)
theorem FN(ha:PE X a ta)(hb:PE X (.BoolOp .And (b::rest) pos) tb):PE X (.BoolOp .And (a::b::rest) pos) (Hv ta tb):=by
 intro a_ s σ H Q I h;refine BoolOp_and (aE (ha a_ s σ H _ I h) λv s1 g=>?_);obtain⟨x,d,f,j,q1⟩:=g;obtain⟨c,rfl,q1⟩:=q1;cases j;refine wpAny_truthy_bool ?_;cases c with
 |true=>exact hb a_ s1 σ d Q f q1
 |false=>exact⟨.bl false,d,f,rfl,q1⟩
theorem Hx(ha:PE X a ta)(hb:PE X (.BoolOp .Or (b::rest) pos) tb):PE X (.BoolOp .Or (a::b::rest) pos) (IG ta tb):=by
 intro a_ s σ H Q I h;refine BoolOp_or (aE (ha a_ s σ H _ I h) λv s1 g=>?_);obtain⟨x,d,f,j,q1⟩:=g;obtain⟨c,rfl,q1⟩:=q1;cases j;refine wpAny_truthy_bool ?_;cases c with
 |false=>exact hb a_ s1 σ d Q f q1
 |true=>exact⟨.bl true,d,f,rfl,q1⟩
theorem FO(ha:PE X a ta):PE X (.UnaryOp .Not a pos) (Hw ta):=by
 intro a_ s σ H Q I h;refine UnaryOp_ (aE (ha a_ s σ H _ I h) λv s1 d=>?_);obtain⟨x,f,g,j,q1⟩:=d;obtain⟨c,rfl,q1⟩:=q1;cases j;exact not_of (wpAny_truthy_bool ⟨.bl (!c),f,g,rfl,q1⟩)
def Jt(t:TT)(ta tb:TE):TE:=λσ H Q=>t σ H λc d=>if c=true then ta σ d Q else tb σ d Q
theorem BL{c:Expr}(hc:PT X c tA)(ha:PE X a ta)(hb:PE X b tb):PE X (.IfExp c a b pos) (Jt tA ta tb):=by
 intro a_ s σ H Q I h;refine wpAny_IfExp (aE (hc a_ s σ H _ I h) λd s1 j=>?_);obtain⟨f,g,q1⟩:=j;cases d with
 |true=>exact ha a_ s1 σ f Q g q1
 |false=>exact hb a_ s1 σ f Q g q1
end
def bw(K:Za)(H:Hp)(a:Addr)(xs:List V):Prop:=
 Rd H a (.lst xs) \/
  ∃(o:Obj) (b_:Zl) (n:Nat),K.lookup a=some o/\o.cls=.type "list"/\o.dict=none/\o.data=.seq b_ n/\b_.size<=sizeLine/\am xs b_.toList
def bG(K:Za)(H:Hp)(a:Addr)(xs:List V):Prop:=
 Rd H a (.tup xs) \/
  ∃(o:Obj) (b_:Zl) (n:Nat),K.lookup a=some o/\o.cls=.type "tuple"/\o.data=.seq b_ n/\b_.size<=sizeLine/\am xs b_.toList
def IH:Value->Option V
 |.none=>some .non
 |.bool b=>some (.bl b)
 |.int i _=>some (.int i)
 |.str x _=>some (.str x)
 |.bytes b _=>some (.byt b)
 |.float b _=>some (.flt b)
 |.ref a=>some (.ref a)
 |.type n=>some (.ty n)
 |_=>none
theorem RelV.abs{x:V}{u:Value}(r:RelV x u):IH u=some x:=by
 cases x with
 |non=>cases r;rfl
 |bl _=>cases r;rfl
 |int _=>obtain⟨t,rfl⟩:=r;rfl
 |str _=>obtain⟨t,rfl⟩:=r;rfl
 |byt _=>obtain⟨t,rfl⟩:=r;rfl
 |flt _=>obtain⟨t,rfl⟩:=r;rfl
 |ref _=>cases r;rfl
 |ty _=>cases r;rfl
theorem RelV.inj{x y:V}{u:Value}(r:RelV x u)(q:RelV y u):x=y:=Yi (r.abs.symm.trans q.abs)
theorem am.inj{xs ys:List V}{us:Zd}(h:am xs us)(h':am ys us):xs=ys:=by
 induction h generalizing ys with
 |nil=>cases h';rfl
 |cons r t a=>cases h' with
  |cons b t'=>rw[r.inj b,a t']
section
variable {X:Cx}{a_:Zc}{σ:St}{H:Hp}{s:Shared}{a:Addr}{xs ys:List V}
theorem bw.of{K:Za}(h:H a=some (.lst xs)):bw K H a xs:=.inl (.inl h)
theorem bG.of{K:Za}(h:H a=some (.tup xs)):bG K H a xs:=.inl (.inl h)
theorem ac.list(I:ac X a_ σ H s)(h:bw X.K H a xs):∃b_:List Value,am xs b_/\PlainL s.heap a b_.toArray/\xs.length<=sizeLine:=by
 rcases h with h | ⟨o,b_,n,hk,hc,hd,hs,hz,r⟩
 ·obtain⟨z,b_,n,r,e⟩:=h.ok I.hok
  exact⟨b_,r,⟨_,n,e,rfl,rfl,rfl⟩,z⟩
 ·refine⟨b_.toList,r,⟨o,n,I.kIn a o hk,hc,hd,by simpa using hs⟩,?_⟩
  have e:=r.length;simp only[YC] at e;omega
theorem ac.tuple(I:ac X a_ σ H s)(h:bG X.K H a xs):∃b_:List Value,am xs b_/\IsTup s.heap a b_.toArray/\xs.length<=sizeLine:=by
 rcases h with h | ⟨o,b_,n,hk,hc,hs,hz,r⟩
 ·obtain⟨z,b_,r,p⟩:=h.ok I.hok
  exact⟨b_,r,p,z⟩
 ·refine⟨b_.toList,r,⟨o,I.kIn a o hk,hc,n,by simpa using hs⟩,?_⟩
  have e:=r.length;simp only[YC] at e;omega
theorem ac.list_inj(I:ac X a_ σ H s)(h:bw X.K H a xs)(h':bw X.K H a ys):xs=ys:=by
 obtain⟨b_,r,⟨o,n,e,_,_,d⟩,_⟩:=I.list h;obtain⟨g_,b,⟨o',n',e',_,_,d'⟩,_⟩:=I.list h';rw[e] at e';cases e';rw[d] at d';injection d' with d1 _
 have:b_=g_:=by simpa using congrArg Array.toList d1
 subst this;exact r.inj b
theorem ac.tuple_inj(I:ac X a_ σ H s)(h:bG X.K H a xs)(h':bG X.K H a ys):xs=ys:=by
 obtain⟨b_,r,⟨o,e,_,n,d⟩,_⟩:=I.tuple h;obtain⟨g_,b,⟨o',e',_,n',d'⟩,_⟩:=I.tuple h';rw[e] at e';cases e';rw[d] at d';injection d' with d1 _
 have:b_=g_:=by simpa using congrArg Array.toList d1
 subst this;exact r.inj b
end
abbrev Cx.wish(X:Cx)(E:Zb):Cx:={ X with xe:=E }
abbrev Cx.nox(X:Cx):Cx:=X.wish λ_ _=>False
theorem Cx.Ok.wish{X:Cx}(ok:X.Ok)(E:Zb):(X.wish E).Ok:=
 ⟨ok.mod,ok.kind,ok.glob,ok.blt,ok.above,ok.inj,ok.has,ok.cab,ok.hd,ok.frames,ok.stk,ok.exf,ok.bs,ok.bsz,ok.noex,ok.exfs,ok.funs,ok.frf⟩
theorem Cx.Ok.unwish{X:Cx}{E:Zb}(ok:(X.wish E).Ok):X.Ok:=
 ⟨ok.mod,ok.kind,ok.glob,ok.blt,ok.above,ok.inj,ok.has,ok.cab,ok.hd,ok.frames,ok.stk,ok.exf,ok.bs,ok.bsz,ok.noex,ok.exfs,ok.funs,ok.frf⟩
section
variable {X:Cx}{a_:Zc}{σ:St}{H:Hp}{s:Shared}{E:Zb}
theorem ac.wish(I:ac X a_ σ H s)(E:Zb):ac (X.wish E) a_ σ H s:=⟨I.ok.wish E,I.os,I.bare,I.base,I.loc,I.cell,I.free,I.freeC,I.pin,I.hok,I.len⟩
theorem ac.unwish(I:ac (X.wish E) a_ σ H s):ac X a_ σ H s:=⟨I.ok.unwish,I.os,I.bare,I.base,I.loc,I.cell,I.free,I.freeC,I.pin,I.hok,I.len⟩
theorem SP.unwish{D:Ends}{f:Flow}{b:Shared}(h:SP (X.wish E) a_ D f b):SP X a_ D f b:=by
 cases f with
 |next=>obtain⟨a,H',I,q⟩:=h;exact⟨a,H',I.unwish,q⟩
 |brk=>obtain⟨a,H',I,q⟩:=h;exact⟨a,H',I.unwish,q⟩
 |cont=>obtain⟨a,H',I,q⟩:=h;exact⟨a,H',I.unwish,q⟩
 |ret u=>obtain⟨v,a,H',I,r,q⟩:=h;exact⟨v,a,H',I.unwish,r,q⟩
theorem kE.nox{st:Zr}{t:TS}(h:kE X.nox st t):kE X st t:=λa_ s σ H D I hw=>
 wpAny_mono (h a_ s σ H D (I.wish _) hw) (λ_ _ q=>q.unwish) λ_ _ z=>Yh z
end
section
variable {X:Cx}{st:Stmt}{rest:Zr}{t u:TS}{e:Expr}{te:TE}{pos:Pos}
def Hy:TS:=λD σ H=>D.nx σ H
def II(t u:TS):TS:=λD σ H=>t { D with nx:=u D } σ H
theorem DP:kE X [] Hy:=λ_ _ σ H _ I h=>wpAny_execs_nil ⟨σ,H,I,h⟩
theorem BM(h1:PS X st t)(a:kE X rest u):kE X (st::rest) (II t u):=by
 intro a_ s σ H D I h;refine wpAny_execs_cons (aE (h1 a_ s σ H { D with nx:=u D } I h) λf s1 q=>?_);cases f with
 |next=>
  obtain⟨b,H',c,q⟩:=q;exact a a_ s1 b H' D c q
 |ret v=>exact q
 |brk=>exact q
 |cont=>exact q
theorem ac.quiet{a_:Zc}{σ:St}{H:Hp}{s:Shared}(I:ac X a_ σ H s):interactive X.env=false:=by simp[interactive,I.ok.kind]
def Hz(te:TE):TS:=λD σ H=>te σ H λ_ a=>D.nx σ a
theorem DQ(a:PE X e te)(b:swapsWith e none pos.line X.env=pure false:=by rfl):PS X (.Expr e pos) (Hz te):=by
 intro a_ s σ H D I h;refine wpAny_Expr_any (aE (a a_ s σ H _ I h) λv s1 c=>?_) I.quiet b;obtain⟨x,d,f,g,q1⟩:=c;exact⟨σ,d,f,q1⟩
def IJ(te:TE):TS:=λD σ H=>te σ H D.rt
theorem FP(a:PE X e te):PS X (.Return (some e) pos) (IJ te):=by
 intro a_ s σ H D I h;refine wpAny_Return_some (aE (a a_ s σ H _ I h) λv s1 b=>?_);obtain⟨x,c,d,f,q1⟩:=b;exact⟨x,σ,c,d,f,q1⟩
def IK(c:TT)(t u:TS):TS:=λD σ H=>c σ H λb a=>if b=true then t D σ a else u D σ a
theorem HA{c:Expr}{a b:Zr}{tc:TT}(hc:PT X c tc)(ha:kE X a t)(hb:kE X b u):PS X (.If c a b pos) (IK tc t u):=by
 intro a_ s σ H D I h;refine wpAny_If (aE (hc a_ s σ H _ I h) λd s1 j=>?_);obtain⟨f,g,q1⟩:=j;cases d with
 |true=>exact ha a_ s1 σ f D g q1
 |false=>exact hb a_ s1 σ f D g q1
end
abbrev TG:=V->St->Hp->(St->Hp->Prop)->Prop
abbrev oS:=List V->St->Hp->(St->Hp->Prop)->Prop
def PG(X:Cx)(a:Expr)(t:TG):Prop:=
 ∀(a_:Zc) (s:Shared) (σ:St) (H:Hp) (v:V) (u:Value) (Q:St->Hp->Prop),ac X a_ σ H s->RelV v u->t v σ H Q ->
  wpAny 'b' X.A (assign a X.env u) (λ_ c=>∃b H',ac X a_ b H' c/\Q b H') X.xe s
def xQ(X:Cx)(ts:Zg)(t:oS):Prop:=
 ∀(a_:Zc) (s:Shared) (σ:St) (H:Hp) (vs:List V) (us:Zd) (Q:St->Hp->Prop),ac X a_ σ H s->am vs us->t vs σ H Q ->
  wpAny 'b' X.A (assignInOrder ((assignEach ts X.env).map (·.2)) us) (λ_ b=>∃a H',ac X a_ a H' b/\Q a H') X.xe s
abbrev yR:=V->V->V->Hp->(Hp->Prop)->Prop
def BN(X:Cx)(t:yR):Prop:=
 ∀(a_:Zc) (s:Shared) (σ:St) (H:Hp) (o i v:V) (a b u:Value) (Q:Hp->Prop),ac X a_ σ H s->RelV o a->RelV i b->RelV v u->t o i v H Q ->
  wpAny 'b' X.A (setItem a b u) (λ_ c=>∃H',ac X a_ σ H' c/\Q H') X.xe s
section
variable {X:Cx}{pos:Pos}
def u3(i:Nat):TG:=λv σ H Q=>Q (σ.set i (some v)) H
theorem xR{i:Nat}{x:Str}(a:X.N.Nodup)(hi:X.N[i]?=some x)(hx:Loc X.env.scope x)(b:X.fn x=true\/X.env.scope.names.lookup x=some .local:=by first | exact .inl rfl | exact .inr rfl | assumption):PG X (.Name x pos) (u3 i):=by
 intro a_ s σ H v u Q I r h;exact wpAny_assign_Name (vf I a hi hx r (λd c=>⟨_,H,c,h⟩) b)
def FQ:oS:=λvs σ H Q=>vs=[]/\Q σ H
def Di(t:TG)(u:oS):oS:=λvs σ H Q=>∃v r,vs=v::r/\t v σ H λa H'=>u r a H' Q
theorem DR:xQ X [] FQ:=by
 intro a_ s σ H vs us Q I r h;obtain⟨e,h⟩:=h;subst e;cases r;exact assignInOrder_nil ⟨σ,H,I,h⟩
theorem BO{e:Expr}{es:Zg}{t:TG}{u:oS}(h1:PG X e t)(a:xQ X es u)
  (b:(assignEach (e::es) X.env).map (·.2)=assign e X.env::(assignEach es X.env).map (·.2):=by rfl):xQ X (e::es) (Di t u):=by
 intro a_ s σ H vs us Q I r h;obtain⟨v,l,e1,h⟩:=h;subst e1;cases r with
 |cons r c=>
  rw[b];refine assignInOrder_cons (aE (h1 a_ s σ H _ _ _ I r h) λ_ s1 d=>?_);obtain⟨f,g,j,q1⟩:=d;exact a a_ s1 f g _ _ Q j c q1
def IL(K:Za)(n:Nat)(t:oS):TG:=λv σ H Q=>∃a xs,v=.ref a/\bG K H a xs/\xs.length=n/\t xs σ H Q
theorem FR{es:Zg}{k:Nat}{t:oS}{n:Nat}(hc:X.calm=true)(h:xQ X es t)
  (hn:(assignEach es X.env).length=n:=by rfl) (d:(assignEach es X.env).findIdx? (·.1)=none:=by rfl):PG X (.Tuple es k pos) (IL X.K n t):=by
 intro a_ s σ H v u Q I r hw;obtain⟨a,xs,e1,hq,hl,hw⟩:=hw;subst e1;cases r;obtain⟨b_,c,ht,hz⟩:=I.tuple hq;refine assign_Tuple_tuple (I.ok.hd hc) ht (by simp[hn,←hl,c.length]) d λh' hx=>?_
 have f:ac X a_ σ H { s with heap:=h' }:=I.kept (t':=s.toks) λb o e=>hx b o (ZS (Ye e)) e
 exact h a_ _ σ H xs _ Q f (by simpa using c) hw
def IM(a b:TE)(t:yR):TG:=λv σ H Q=>a σ H λo c=>b σ c λi d=>t o i v d λf=>Q σ f
theorem FS {o i:Expr} {c d:TE} {t:yR} (f:PE X o c) (hi:PE X i d) (g:BN X t)
    (ha:∀ v,assign (.Subscript o i pos) X.env v = (do
      let a ← holding [v] (eval o X.env)
      let b ← holding [v,a] (eval i X.env)
      standAt pos
      holding [v,a,b] (setItem a b v)
      release [v,a,b] []):=by intro _; rfl):PG X (.Subscript o i pos) (IM c d t):=by
  intro a_ s σ H v u Q I r h
  rw [ha]
  refine Yb (Yj (aE (f a_ s σ H _ I h) λa s1 j=>?_))
  obtain ⟨x,l,m,n,q1⟩:=j
  refine Yb (Yj (aE (hi a_ s1 σ l _ m q1) λb s2 p=>?_))
  obtain ⟨y,q,z,A,B⟩:=p
  refine Yb (Yk (Yb (Yj (aE (g a_ s2 σ q x y v a b u _ z n A r B) λ_ J C=>?_))))
  obtain ⟨E,F,G⟩:=C
  exact wpAny_release ⟨σ,E,F,G⟩
def FT(te:TE)(g:TG):TS:=λD σ H=>te σ H λx a=>g x σ a D.nx
theorem z0{tg e:Expr}{te:TE}{g:TG}(a:PE X e te)(b:PG X tg g)(c:swapsWithSole [tg] e pos.line X.env=pure false:=by rfl)(hw:swappedStores [tg] e X.env=pure none:=by rfl)
  (h1:(assignEach [tg] X.env).map (·.2)=[assign tg X.env]:=by rfl):PS X (.Assign [tg] e pos) (FT te g):=by
 intro a_ s σ H D I h;refine wpAny_Assign_stores (aE (a a_ s σ H _ I h) λv s1 d=>?_) c hw;obtain⟨x,f,j,l,q1⟩:=d;rw[h1];exact aE (b a_ s1 σ f x v _ j l q1) λ_ s2 q=>q
theorem FU{i:Nat}{x:Str}{e:Expr}{te:TE}{a:Pos}(b:X.N.Nodup)(hi:X.N[i]?=some x)(hx:Loc X.env.scope x)(c:PE X e te)(d:swapsWith e (some (.Name x a)) pos.line X.env=pure false:=by rfl)(f:X.fn x=true\/X.env.scope.names.lookup x=some .local:=by first | exact .inl rfl | exact .inr rfl | assumption):
  PS X (.Assign [.Name x a] e pos) (FT te (u3 i)):=by
 intro a_ s σ H D I h;refine wpAny_Assign_Name (aE (c a_ s σ H _ I h) λv s1 g=>?_) d;obtain⟨y,j,l,m,q1⟩:=g;exact vf l b hi hx m (λs2 n=>⟨_,j,n,q1⟩) f
end
structure It where
 go:Nat->Hp->Prop
 yld:Nat->Hp->V->Hp->Prop
 stop:Nat->Hp->Prop
def lG(X:Cx)(a_:Zc)(H:Hp)(b:Addr):Prop:=
 H b=none/\b≠X.env.locals/\b∉X.fs/\(b∈X.ex\/X.s₀.heap.objs.size<=b)/\(∀x c,X.env.cells.lookup x=some c->c≠b)/\∀p∈X.pn++a_,p.1≠b
theorem ac.fpOk{X:Cx}{a_:Zc}{σ:St}{H H':Hp}{s:Shared}{b:Addr}(I:ac X a_ σ H s)(hb:s.heap.objs.size<=b)(hn:H' b=none):lG X a_ H' b:=by
 refine⟨hn,Nat.ne_of_gt (ZQ I.lt hb),I.nofs hb,.inr (ZU I.sz hb),λx c e z=>?_,λp hp z=>?_⟩
 ·obtain⟨v,q⟩:=I.cell x c e
  exact absurd (ZQ q.lt (by rw[z];exact hb)) (ZR _)
 ·exact absurd (ZQ (Ye (I.pin p hp).1) (by rw[z];exact hb)) (ZR _)
structure Turn (P:Zt) (w:World) (K:Za) (tg:Expr) (J:It) (fp:Zh) (it:Addr) (tn:Nat->Heap->Prop):Prop where
 mem:it∈fp
 obj:∀i h,tn i h->∀b∈fp,∃o,h.get? b=some o/\∀v,o.data≠.cell v
 keep:∀i h h',tn i h->(∀b∈fp,∀o,h.get? b=some o->h'.get? b=some o)->tn i h'
 item:∀(X:Cx),X.prog=P->X.w=w->X.K=K->X.calm=true->∀(i:Nat) (a_:Zc) (s:Shared) (σ:St) (H:Hp) (E:Zb),ac X a_ σ H s->(∀b∈fp,lG X a_ H b)->tn i s.heap->J.go i H ->
  wpAny (model P w) X.A (pyNext (.ref it)) (λr s1=>∃u,r=some u /\
   wpAny (model P w) X.A (letOwnedTupleGo tg (.ref it) u) (λ_ s2=>∃x H',ac X a_ σ H' s2/\RelV x u/\J.yld i H x H'/\tn (i+1) s2.heap/\∀b∈fp,H' b=none) E s1) E s
 done:∀(X:Cx),X.prog=P->X.w=w->X.K=K->X.calm=true->∀(i:Nat) (a_:Zc) (s:Shared) (σ:St) (H:Hp) (E:Zb),ac X a_ σ H s->(∀b∈fp,lG X a_ H b)->tn i s.heap->J.stop i H ->
  wpAny (model P w) X.A (pyNext (.ref it)) (λr s1=>r=none/\ac X a_ σ H s1) E s
 self:∀(A:Around) (i:Nat) (s:Shared) (Q:Zb) (E:Zb),tn i s.heap->Q (.ref it) s->wpAny (model P w) A (pyIter (.ref it)) Q E s
abbrev TI:=St->Hp->(It->Hp->Prop)->Prop
def tQ(X:Cx)(a_:Zc)(σ:St)(tg:Expr)(R:It->Hp->Prop)(a:Value)(s2:Shared):Prop:=
 ∃(it:Addr) (fp:Zh) (tn:Nat->Heap->Prop) (J:It) (H':Hp),a=.ref it/\ac X a_ σ H' s2/\Turn X.prog X.w X.K tg J fp it tn/\tn 0 s2.heap/\(∀b∈fp,lG X a_ H' b)/\R J H'
def PI(X:Cx)(tg a:Expr)(b:TI):Prop:=
 ∀(a_:Zc) (s:Shared) (σ:St) (H:Hp) (R:It->Hp->Prop),ac X a_ σ H s->b σ H R ->
  wpAny 'b' X.A (eval a X.env) (λv s1=>wpAny 'b' X.A (pyIter v) (tQ X a_ σ tg R) X.xe s1) X.xe s
theorem n6 {M:Model} {A:Around} {E:Zb} {s:Shared} {tg:Expr} {it:Addr} {u:Value} {o:Obj} {n:String} {vs:Zl} {Q:Zo} (b:s.heap.get? it = some o) (hc:o.cls = .type n) (hd:o.data = .fields vs)
    (hn:["enumerate","zip","dict_itemiterator","dict_reverseitemiterator","odict_iterator","itertools.zip_longest","itertools.pairwise"].contains n = false) (a:Q () s):wpAny M A (letOwnedTupleGo tg (.ref it) u) Q E s:=by
  unfold letOwnedTupleGo
  cases tg <;> first
    | exact Yc a
    | (cases u <;> first
        | exact Yc a
        | (refine Yb (wpAny_load b ?_)
           rw [hc,hd]
           show wpAny M A (if (["enumerate","zip","dict_itemiterator","dict_reverseitemiterator","odict_iterator","itertools.zip_longest","itertools.pairwise"].contains n && vs[0]? == some (rawInt _)) = true then _ else _) Q E s
           rw [if_neg (by intro h; rw [hn,YD] at h; cases h)]
           exact Yc a))
def FV(K:Za)(a:Addr):It:=
 ⟨λi H=>∃xs x,bw K H a xs/\xs[i]?=some x,λi H x H'=>H'=H/\∀xs,bw K H a xs->xs[i]?=some x,λi H=>∃xs,bw K H a xs/\xs.length<=i⟩
def FW(K:Za)(a:Addr):It:=
 ⟨λi H=>∃xs x,bG K H a xs/\xs[i]?=some x,λi H x H'=>H'=H/\∀xs,bG K H a xs->xs[i]?=some x,λi H=>∃xs,bG K H a xs/\xs.length<=i⟩
def z9(lo:Int)(n:Nat):It:=⟨λi _=>i<n,λi H x H'=>H'=H/\x=.int (lo+i),λi _=>n<=i⟩
theorem Aa{P:Zt}{w:World}{K:Za}{tg:Expr}(a it:Addr):Turn P w K tg (FV K a) [it] it (λi h=>h.IsListIter it a i) where
 mem:=by simp
 obj:=λi h st b hb=>by
  have e:b=it:=by simpa using hb
  subst e;obtain⟨o,e,c,d⟩:=st;exact⟨o,e,λv z=>by rw[d] at z;cases z⟩
 keep:=λi h h' st k=>st.at λo e=>k it (by simp) o e
 item:=by
  intro X g hw j hc i a_ s σ H E I f st l;subst g hw j;obtain⟨xs,x,hq,hx⟩:=l;obtain⟨b_,m,p,hz⟩:=I.list hq;obtain⟨u,hu,B⟩:=m.get hx;obtain⟨n,q,C,r,t,y⟩:=f it (by simp);refine wpAny_pyNext_list_item st p.isList (x:=u) (by simpa using hu) λh' A F=>?_
  have G:ac X a_ σ H { s with heap:=h' }:=I.turned (t':=s.toks) (λb o hb e=>(F.2 b hb).trans e) n q r t y;obtain⟨o,e,c,d⟩:=id A;exact⟨u,rfl,n6 (s:={ s with heap:=h' }) e c d 'a' ⟨x,H,G,B,⟨rfl,λys hy=>by rw[I.list_inj hy hq];exact hx⟩,A,λb hb=>(f b hb).1⟩⟩
 done:=by
  intro X g hw j hc i a_ s σ H E I f st l;subst g hw j;obtain⟨xs,hq,hx⟩:=l;obtain⟨b_,m,p,hz⟩:=I.list hq;obtain⟨n,q,C,r,t,y⟩:=f it (by simp);have hl:=m.length;exact wpAny_pyNext_list_end (I.ok.hd hc) st p.isList (by simp;omega) λh' J=>⟨rfl,I.turned (t':=s.toks) (λb o hb e=>J b o hb e) n q r t y⟩
 self:=λ_ _ _ _ _ st h=>wpAny_pyIter_listiter st h
theorem yS{P:Zt}{w:World}{K:Za}{tg:Expr}(a it:Addr):Turn P w K tg (FW K a) [it] it (λi h=>h.IsTupleIter it a i) where
 mem:=by simp
 obj:=λi h st b hb=>by
  have e:b=it:=by simpa using hb
  subst e;obtain⟨o,e,c,d⟩:=st;exact⟨o,e,λv z=>by rw[d] at z;cases z⟩
 keep:=λi h h' st k=>st.at λo e=>k it (by simp) o e
 item:=by
  intro X g hw j hc i a_ s σ H E I f st l;subst g hw j;obtain⟨xs,x,hq,hx⟩:=l;obtain⟨b_,m,p,hz⟩:=I.tuple hq;obtain⟨u,hu,B⟩:=m.get hx;obtain⟨n,q,C,r,t,y⟩:=f it (by simp);refine wpAny_pyNext_tuple_item st (show s.heap.IsTuple a b_.toArray from p) (x:=u) (by simpa using hu) λh' A F=>?_
  have G:ac X a_ σ H { s with heap:=h' }:=I.turned (t':=s.toks) (λb o hb e=>(F.2 b hb).trans e) n q r t y;obtain⟨o,e,c,d⟩:=id A;exact⟨u,rfl,n6 (s:={ s with heap:=h' }) e c d 'a' ⟨x,H,G,B,⟨rfl,λys hy=>by rw[I.tuple_inj hy hq];exact hx⟩,A,λb hb=>(f b hb).1⟩⟩
 done:=by
  intro X g hw j hc i a_ s σ H E I f st l;subst g hw j;obtain⟨xs,hq,hx⟩:=l;obtain⟨b_,m,p,hz⟩:=I.tuple hq;obtain⟨n,q,C,r,t,y⟩:=f it (by simp);have hl:=m.length;exact wpAny_pyNext_tuple_end (I.ok.hd hc) st (show s.heap.IsTuple a b_.toArray from p) (by simp;omega) λh' J=>⟨rfl,I.turned (t':=s.toks) (λb o hb e=>J b o hb e) n q r t y⟩
 self:=λ_ _ _ _ _ st h=>wpAny_pyIter_tupleiter st h
theorem yT{P:Zt}{w:World}{K:Za}{tg:Expr}(it:Addr)(lo:Int)(n:Nat):Turn P w K tg (z9 lo n) [it] it (λi h=>IsRangeIter h it (lo+(i:Nat)*1) ((n:Int)-(i:Nat)) 1) where
 mem:=by simp
 obj:=λi h st b hb=>by
  have e:b=it:=by simpa using hb
  subst e;exact⟨_,st,λv z=>by
   have r:Data.fields _=Data.cell v:=z;cases r⟩
 keep:=λi h h' st k=>k it (by simp) _ st
 item:=by
  intro X c hw d hc i a_ s σ H E I a st f;subst c hw d;obtain⟨g,j,u,l,m,p⟩:=a it (by simp);have W:=Walks.range (prog:=X.prog) (w:=X.w) (I.ok.hd hc) it lo 1 n;refine W.item i s _ _ f st λv h' tk hv q y=>?_
  obtain⟨t,rfl⟩:=hv;have A:ac X a_ σ H { s with heap:=h',toks:=tk }:=I.turned (λb o hb e=>y b o (by simpa using hb) e) g j l m p;refine⟨_,rfl,n6 (s:={ s with heap:=h',toks:=tk }) (n:="range_iterator") q rfl rfl 'a' ⟨.int (lo+i),H,A,⟨t,?_⟩,⟨rfl,rfl⟩,q,λb hb=>(a b hb).1⟩⟩;rw[Int.mul_one]
 done:=by
  intro X c hw d hc i a_ s σ H E I a st f;subst c hw d;obtain⟨g,j,u,l,m,p⟩:=a it (by simp);exact wpAny_pyNext_range_end (I.ok.hd hc) st (by have:n<=i:=f;omega) λh' B=>⟨rfl,I.turned (t':=s.toks) (λb o hb e=>B b o hb e) g j l m p⟩
 self:=λ_ _ _ _ _ st h=>wpAny_pyIter_rangeiter st h
section
variable {X:Cx}{tg:Expr}
theorem vg{a_:Zc}{σ:St}{H:Hp}{s:Shared}{R:It->Hp->Prop}{E:Zb}{lo hi:Int}{t u v:Tok}{tk:Nat}(I:ac X a_ σ H s)(h1:-(2 ^ 62)<=lo)(c:lo<2 ^ 62)(d:-(2 ^ 62)<=hi)(f:hi<2 ^ 62)
  (q:R (z9 lo (hi-lo).toNat) H):wpAny 'b' X.A (pyIter (.ref s.heap.objs.size)) (tQ X a_ σ tg R) E { s with heap:=s.heap.push { cls:=.type "range",data:=.fields #[.int lo t,.int hi u,.int 1 v] },toks:=tk }:=by
 refine wpAny_pyIter_range (IsRange.new ..) (small_one h1 c d f) ?_;have a:ac X a_ σ H { s with heap:=s.heap.push { cls:=.type "range",data:=.fields #[.int lo t,.int hi u,.int 1 v] },toks:=tk }:=I.kept λb o e=>Yd _ e
 refine⟨(s.heap.push { cls:=.type "range",data:=.fields #[.int lo t,.int hi u,.int 1 v] }).objs.size,[(s.heap.push { cls:=.type "range",data:=.fields #[.int lo t,.int hi u,.int 1 v] }).objs.size],_,_,H,rfl,
  a.kept (t':=tk) λb o e=>Yd _ e,yT _ lo (hi-lo).toNat,?_,λb hb=>?_,q⟩
 ·have e1:lo+((0:Nat):Int)*1=lo:=by simp
  have e2:(((hi-lo).toNat:Nat):Int)-((0:Nat):Int)=Builtin.Range.rangeSize lo hi 1:=by rw[rangeSize_one];split<;>omega
  show IsRangeIter _ _ (lo+((0:Nat):Int)*1) ((((hi-lo).toNat:Nat):Int)-((0:Nat):Int)) 1;rw[e1,e2];exact Yg _ rfl
 ·have e:b=(s.heap.push { cls:=.type "range",data:=.fields #[.int lo t,.int hi u,.int 1 v] }).objs.size:=by simpa using hb
  subst e;exact a.fpOk (YE _) (a.hok.fresh (YE _))
def HB(a:TA):TI:=λσ H R=>a σ H λvs b=>∃j:Int,vs=[.int j]/\-(2 ^ 62)<=j/\j<2 ^ 62/\R (z9 0 j.toNat) b
def HC(a:TA):TI:=λσ H R=>a σ H λvs b=>∃i j:Int,vs=[.int i,.int j]/\(-(2 ^ 62)<=i/\i<2 ^ 62/\-(2 ^ 62)<=j/\j<2 ^ 62)/\R (z9 i (j-i).toNat) b
theorem Ab{a:Expr}{c:TA}{p b:Pos}(d:Gl X "range")(hm:X.mg "range" = none)(ha:PA X [a] c)(f:starEach [a] X.env=[(false,eval a X.env)]:=by rfl):PI X tg (.Call (.Name "range" p) [a] [] b) (HB c):=by
 intro a_ s σ H R I h;refine Call_ (dc I d hm boot_range (PyProof.Rows.callWith_type1 (aE (ha b a_ s σ H _ I h) λus s1 g=>?_) f rfl));obtain⟨vs,u,l,m,q1⟩:=g;obtain⟨j,e,q1,n,q⟩:=q1;subst e;cases m with
 |cons r o=>
  cases o;obtain⟨t,rfl⟩:=r;exact call_range_1 (vg l 'c' 'c' q1 n (by simpa using q))
theorem Ac{a b:Expr}{f:TA}{p c:Pos}(l:Gl X "range")(hm:X.mg "range" = none)(ha:PA X [a,b] f)(m:starEach [a,b] X.env=[(false,eval a X.env),(false,eval b X.env)]:=by rfl)(g:starEach [b] X.env=[(false,eval b X.env)]:=by rfl):
  PI X tg (.Call (.Name "range" p) [a,b] [] c) (HC f):=by
 intro a_ s σ H R I h;refine Call_ (dc I l hm boot_range (PyProof.Rows.callWith_type1 (aE (ha c a_ s σ H _ I h) λus s1 n=>?_) (by rw[m,g]) (by rw[g];rfl)));obtain⟨vs,C,o,u,q1⟩:=n;obtain⟨i,j,e,⟨q1,y,z,A⟩,q⟩:=q1;subst e;cases u with
 |cons r d=>
  cases d with
  |cons B d=>
   cases d;obtain⟨t,rfl⟩:=r;obtain⟨t',rfl⟩:=B;exact call_range_2 (vg o q1 y z A q)
def IN(b:TI)(g:TG)(c:TS):TS:=λD σ H=>b σ H λJ d=>∃W:Nat->Nat->St->Hp->Prop,(∃m,W 0 m σ d)/\∀i m σ H,W i m σ H ->
 (J.stop i H/\D.nx σ H)\/(J.go i H/\∃N:St->Hp->Prop,(∀a H',N a H'->∃m',m'<m/\W (i+1) m' a H')/\∀x H',J.yld i H x H'->g x σ H' λf j=>c { D with nx:=N,ct:=N,bk:=D.nx } f j)
def gB(fp:Zh)(h:Heap):List (Addr×Obj):=fp.filterMap λb=>(h.get? b).map λo=>(b,o)
theorem ip{fp:Zh}{h:Heap}{b:Addr}{o:Obj}(hb:b∈fp)(e:h.get? b=some o):(b,o)∈gB fp h:=List.mem_filterMap.mpr ⟨b,hb,by rw[e];rfl⟩
theorem tR{fp:Zh}{h:Heap}{p:Addr×Obj}(hp:p∈gB fp h):p.1∈fp/\h.get? p.1=some p.2:=by
 obtain⟨b,hb,e⟩:=List.mem_filterMap.mp hp;cases q:h.get? b with
 |none=>rw[q] at e;cases e
 |some o=>
  rw[q] at e;have e':(b,o)=p:=Yi e;subst e';exact⟨hb,q⟩
theorem ac.pinned{a_:Zc}{σ:St}{H:Hp}{s:Shared}{fp:Zh}(I:ac X a_ σ H s)(a:∀b∈fp,lG X a_ H b)(c:∀b∈fp,∃o,s.heap.get? b=some o/\∀v,o.data≠.cell v):ac X (a_++gB fp s.heap) σ H s:=
 I.pins_of λp hp=>(YA.mp hp).elim (λz=>I.pin p (YF _ z)) λz=>by
  obtain⟨hb,e⟩:=tR z;obtain⟨f,g,j,_⟩:=a p.1 hb;obtain⟨o,e',d⟩:=c p.1 hb;rw[e] at e';cases e';exact⟨e,f,g,j,d⟩
theorem ac.unpinned{a_ pl:Zc}{σ:St}{H:Hp}{s:Shared}(I:ac X (a_++pl) σ H s):ac X a_ σ H s:=I.pins_of λp hp=>I.pin p (YF _ (List.mem_append_left _ hp))
theorem FX{a:Expr}{body:Zr}{L:TI}{g:TG}{O:TS}{C:Pos}(hp:PassesOwn 'b' X.A X.env X.xe)(hc:X.calm=true)(hi:PI X tg a L)(hg:PG X tg g)(hb:kE X body O)
  (hs:∀x,foldedSetIterable a X.env x=pure x:=by intro _;rfl):PS X (.For tg a body [] C) (IN L g O):=by
 intro a_ s σ H D I h;refine wpAny_For (aE (hi a_ s σ H _ I h) λv s1 h1=>aE h1 λNy s2 h2=>?_) hs;obtain⟨it,fp,tn,J,H2,e,I2,T,Ld,P,W,⟨m0,w0⟩,q⟩:=h2;subst e
 -- what stays true of the iterator's objects through the loop
 have E:∀{H':Hp},(∀b∈fp,H' b=none)->∀b∈fp,lG X a_ H' b:=λhn b hb=>⟨hn b hb,(P b hb).2⟩
 refine codeAny_forLoop_any (λn R=>∃i t H',ac X a_ t H' R/\tn i R.heap/\(∀b∈fp,H' b=none)/\W i n t H') ?_ m0 ⟨0,σ,H2,I2,Ld,λb hb=>(P b hb).1,w0⟩;rintro n S ⟨i,y,B,U,V,Y,w3⟩;rcases q i n y B w3 with⟨stop,qn⟩ | ⟨go,N,hN,step⟩
 ·refine wpAny_passesOwn hp (aE (T.done X rfl rfl rfl hc i a_ S y B X.xe U (E Y) V stop) λr s4 NB=>?_)
  obtain⟨F,I4⟩:=NB;subst F;exact wpAny_execs_nil ⟨y,B,I4,qn⟩
 ·refine wpAny_passesOwn hp (aE (T.item X rfl rfl rfl hc i a_ S y B X.xe U (E Y) V go) λr s4 NC=>?_)
  obtain⟨u,F,h4⟩:=NC;subst F;refine wpAny_passesOwn hp (aE h4 λ_ Z ND=>?_);obtain⟨x,H5,I5,r5,y5,G,NF⟩:=ND;have NG:=I5.pinned (E NF) (T.obj _ _ G);refine wpAny_passesOwn hp (aE (hg _ Z y H5 x u _ NG r5 (step x H5 y5)) λ_ s6 NH=>?_);obtain⟨Ku,H6,I6,q6⟩:=NH;refine wpAny_passesOwn hp (aE (hb _ s6 Ku H6 _ I6 q6) λf K p=>?_);have again:∀{c:St}{j:Hp},ac X (a_++gB fp Z.heap) c j K->N c j->∃m,m<n/\∃i t H',ac X a_ t H' K/\tn i K.heap/\(∀b∈fp,H' b=none)/\W i m t H':=λ{c j} l z=>by
   obtain⟨m',hm,w7⟩:=hN c j z;refine⟨m',hm,i+1,c,j,l.unpinned,T.keep _ _ _ G λb hb o e=>(l.pin (b,o) (YF _ (YF _ (ip hb e)))).1,λb hb=>?_,w7⟩;obtain⟨o,e,d⟩:=T.obj _ _ G b hb;exact(l.pin (b,o) (YF _ (YF _ (ip hb e)))).2.1
  cases f with
  |next=>obtain⟨c,j,l,z⟩:=p;exact again l z
  |cont=>obtain⟨c,j,l,z⟩:=p;exact again l z
  |brk=>obtain⟨c,j,l,p⟩:=p;exact⟨c,j,l.unpinned,p⟩
  |ret v=>obtain⟨x7,c,j,l,r7,p⟩:=p;exact⟨x7,c,j,l.unpinned,r7,p⟩
end
abbrev R2:=V->V->Hp->VK->Prop
def ck(X:Cx)(f:Zk)(r:R2):Prop:=
 ∀(a_:Zc) (s:Shared) (σ:St) (H:Hp) (x y:V) (v u:Value) (Q:VK),ac X a_ σ H s->RelV x v->RelV y u->r x y H Q ->
  wpAny 'b' X.A (f v u) (EP X a_ σ Q) X.xe s
def FY(X:Cx)(f:Value->Sem Value)(r:V->Hp->VK->Prop):Prop:=
 ∀(a_:Zc) (s:Shared) (σ:St) (H:Hp) (x:V) (v:Value) (Q:VK),ac X a_ σ H s->RelV x v->r x H Q ->
  wpAny 'b' X.A (f v) (EP X a_ σ Q) X.xe s
def cJ(X:Cx)(f:Value)(r:List V->Hp->VK->Prop):Prop:=
 ∀(a_:Zc) (s:Shared) (σ:St) (H:Hp) (xs:List V) (us:Zd) (Q:VK),ac X a_ σ H s->am xs us->r xs H Q ->
  wpAny 'b' X.A (call f us) (EP X a_ σ Q) X.xe s
def IO(X:Cx)(r:V->Hp->(Bool->Hp->Prop)->Prop):Prop:=
 ∀(a_:Zc) (s:Shared) (σ:St) (H:Hp) (x:V) (v:Value) (Q:Bool->Hp->Prop),ac X a_ σ H s->RelV x v->r x H Q ->
  wpAny 'b' X.A (truthy v) (TP X a_ σ Q) X.xe s
def Dj(r:R2)(a b:TE):TE:=λσ H Q=>a σ H λx c=>b σ c λy d=>r x y d Q
def Ju(r:V->Hp->VK->Prop)(a:TE):TE:=λσ H Q=>a σ H λx b=>r x b Q
def rI(C:Int->Int->Prop)(g:Int->Int->V):R2:=λx y H Q=>∃i j,x=.int i/\y=.int j/\C i j/\Q (g i j) H
def kF(g:Int->Int->V):R2:=λx y H Q=>∃i j,x=.int i/\y=.int j/\Q (g i j) H
def rU(g:Int->V):V->Hp->VK->Prop:=λx H Q=>∃i,x=.int i/\Q (g i) H
section
variable {X:Cx}{a b c:Expr}{ta tb tc:TE}{pos:Pos}
theorem BP(ha:PE X a ta)(hb:PE X b tb){a_:Zc}{s:Shared}{σ:St}{H:Hp}{R:V->V->Hp->Prop}(I:ac X a_ σ H s)
  (h:ta σ H λx g=>tb σ g λy d=>R x y d){Q:Zb}{f:Zk}
  (j:∀v u s2 x y d,ac X a_ σ d s2->RelV x v->RelV y u->R x y d->wpAny 'b' X.A (f v u) Q X.xe s2):
  wpAny 'b' X.A (eval a X.env) (λv f'=>wpAny 'b' X.A (eval b X.env) (λu l=>wpAny 'b' X.A (f v u) Q X.xe l) X.xe f') X.xe s:=by
 refine aE (ha a_ s σ H _ I h) λv s1 m=>?_
 obtain⟨x,g,n,o,q1⟩:=m;refine aE (hb a_ s1 σ g _ n q1) λu s2 p=>?_
 obtain⟨y,d,q,r,t⟩:=p;exact j v u s2 x y d q o r t
theorem HD{op:Operator}{r:R2}(d:ck X (binaryOp op) r)(ha:PE X a ta)(hb:PE X b tb):PE X (.BinOp a op b pos) (Dj r ta tb):=by
 intro a_ s σ H Q I h;exact wpAny_BinOp (BP ha hb I h λv u s2 x y f g j l q=>d a_ s2 σ f x y v u Q g j l q)
theorem HE{op:UnaryOp}{r:V->Hp->VK->Prop}(d:FY X (unaryOp op) r)(ha:PE X a ta):PE X (.UnaryOp op a pos) (Ju r ta):=by
 intro a_ s σ H Q I h;refine UnaryOp_ (aE (ha a_ s σ H _ I h) λv s1 f=>?_);obtain⟨x,g,j,l,q1⟩:=f;exact d a_ s1 σ g x v Q j l q1
theorem xS{f:Zk}{C:Int->Int->Prop}{g:Int->Int->Int}
  (rule:∀(i j:Int) (t u:Tok) (s:Shared) (Q:Zb) (E:Zb),C i j->Q (.int (g i j) s.toks) { s with toks:=s.toks+1 }->wpAny 'b' X.A (f (.int i t) (.int j u)) Q E s):
  ck X f (rI C λi j=>.int (g i j)):=by
 intro a_ s σ H x y v u Q I d l h;obtain⟨i,j,rfl,rfl,hc,q⟩:=h;obtain⟨t,rfl⟩:=d;obtain⟨t',rfl⟩:=l;exact rule i j t t' s _ _ hc ⟨.int (g i j),H,I.tok _,⟨_,rfl⟩,q⟩
theorem vh{f:Zk}{g:Int->Int->Int}
  (rule:∀(i j:Int) (t u:Tok) (s:Shared) (Q:Zb) (E:Zb),Q (.int (g i j) s.toks) { s with toks:=s.toks+1 }->wpAny 'b' X.A (f (.int i t) (.int j u)) Q E s):
  ck X f (kF λi j=>.int (g i j)):=by
 intro a_ s σ H x y v u Q I d l h;obtain⟨i,j,rfl,rfl,q⟩:=h;obtain⟨t,rfl⟩:=d;obtain⟨t',rfl⟩:=l;exact rule i j t t' s _ _ ⟨.int (g i j),H,I.tok _,⟨_,rfl⟩,q⟩
theorem yU{f:Zk}{g:Int->Int->Bool}
  (rule:∀(i j:Int) (t u:Tok) (s:Shared) (Q:Zb) (E:Zb),Q (.bool (g i j)) s->wpAny 'b' X.A (f (.int i t) (.int j u)) Q E s):
  ck X f (kF λi j=>.bl (g i j)):=by
 intro a_ s σ H x y v u Q I d l h;obtain⟨i,j,rfl,rfl,q⟩:=h;obtain⟨t,rfl⟩:=d;obtain⟨t',rfl⟩:=l;exact rule i j t t' s _ _ ⟨.bl (g i j),H,I,rfl,q⟩
def FZ(i j:Int):Prop:=0<j/\j<1073741824
def yV(i j:Int):Prop:=0<=j/\j<=1000000/\i.natAbs<2 ^ 64
def yW(i j:Int):Prop:=(-(2 ^ 64)<i/\i<2 ^ 64)\/(-(2 ^ 64)<j/\j<2 ^ 64)
theorem yW.ok{i j:Int}(h:yW i j):IntMulOk i j:=by
 rcases h with⟨h1,d⟩ | ⟨h1,d⟩
 ·exact .of_left (intBits_le_64 h1 d)
 ·exact .of_right (intBits_le_64 h1 d)
theorem yX(k:Nat):(0:Int)<=2 ^ k:=by
 rw[two_pow_cast];exact Int.natCast_nonneg _
theorem F1:ck X (binaryOp .Add) (kF λi j=>.int (i+j)):=vh λ_ _ _ _ _ _ _ q=>add_int q
theorem F2:ck X (binaryOp .Sub) (kF λi j=>.int (i-j)):=vh λ_ _ _ _ _ _ _ q=>sub_int q
theorem F3:ck X (binaryOp .Mult) (rI yW λi j=>.int (i*j)):=xS λ_ _ _ _ _ _ _ hc q=>mul_int q hc.ok
theorem DT:ck X (binaryOp .FloorDiv) (rI FZ λi j=>.int (i / j)):=xS λi j _ _ _ _ _ hc q=>by
 have h1:(0:Int)<j:=hc.1;have d:j<1073741824:=hc.2;exact floordiv_int 'c' (by rw[Int.fdiv_eq_ediv_of_nonneg i 'c'];exact q) (.inl (PyProof.noPylong_small 'c'))
theorem F4:ck X (binaryOp .Mod) (rI (λ_ j=>0<j) λi j=>.int (i%j)):=xS λi j _ _ _ _ _ hc q=>by
 have h1:(0:Int)<j:=hc;exact mod_int' 'c' (by rw[Int.fmod_eq_emod_of_nonneg i 'c'];exact q)
theorem F5:ck X (binaryOp .Pow) (rI yV λi j=>.int (i ^ j.toNat)):=xS λ_ _ _ _ _ _ _ hc q=>pow_int_small hc.1 hc.2.1 hc.2.2 q
theorem F6:ck X (binaryOp .LShift) (rI yV λi j=>.int (i*2 ^ j.toNat)):=xS λ_ _ _ _ _ _ _ hc q=>lshift_int_small hc.1 hc.2.1 hc.2.2 q
theorem F7:ck X (binaryOp .RShift) (rI (λ_ j=>0<=j) λi j=>.int (i / 2 ^ j.toNat)):=xS λi j _ _ _ _ _ hc q=>
 rshift_int hc (by rw[Int.fdiv_eq_ediv_of_nonneg i (yX _)];exact q)
theorem F8:ck X (binaryOp .BitAnd) (kF λi j=>.int (Builtin.bitAnd i j)):=vh λ_ _ _ _ _ _ _ q=>and_int q
theorem HF:ck X (binaryOp .BitOr) (kF λi j=>.int (Builtin.bitOr i j)):=vh λ_ _ _ _ _ _ _ q=>or_int q
theorem F9:ck X (binaryOp .BitXor) (kF λi j=>.int (Builtin.bitXor i j)):=vh λ_ _ _ _ _ _ _ q=>xor_int q
theorem Jv{f:Value->Sem Value}{g:Int->Int}
  (rule:∀(i:Int) (t:Tok) (s:Shared) (Q:Zb) (E:Zb),Q (.int (g i) s.toks) { s with toks:=s.toks+1 }->wpAny 'b' X.A (f (.int i t)) Q E s):
  FY X f (rU λi=>.int (g i)):=by
 intro a_ s σ H x v Q I d h;obtain⟨i,rfl,q⟩:=h;obtain⟨t,rfl⟩:=d;exact rule i t s _ _ ⟨.int (g i),H,I.tok _,⟨_,rfl⟩,q⟩
theorem Ga:FY X (unaryOp .USub) (rU λi=>.int (-i)):=Jv λ_ _ _ _ _ q=>neg_int q
end
section
variable {X:Cx}{a b c:Expr}{ta tb tc:TE}{pos:Pos}
theorem Ad{a_:Zc}{σ:St}{H:Hp}{s:Shared}{Q:VK}{k k':Bool}(I:ac X a_ σ H s)(q:Q (.bl k) H)(e:k=k'):EP X a_ σ Q (.bool k') s:=by
 subst e;exact⟨.bl k,H,I,rfl,q⟩
theorem HG:ck X (compareOp .Lt) (kF λi j=>.bl (decide (i<j))):=yU λ_ _ _ _ _ _ _ q=>lt_int q
theorem HH:ck X (compareOp .LtE) (kF λi j=>.bl (decide (i<=j))):=yU λ_ _ _ _ _ _ _ q=>le_int q
theorem HI:ck X (compareOp .Gt) (kF λi j=>.bl (decide (j<i))):=yU λ_ _ _ _ _ _ _ q=>gt_int q
theorem HJ:ck X (compareOp .GtE) (kF λi j=>.bl (decide (j<=i))):=yU λ_ _ _ _ _ _ _ q=>ge_int q
theorem Gb:ck X (compareOp .Is) (λx y H Q=>y=.non/\Q (.bl (decide (x=.non))) H):=by
 intro a_ s σ H x y v u Q I d f h;obtain⟨rfl,q⟩:=h;cases f;refine is_none_gen (Ad I q ?_);cases x<;>first
  |(cases d;rfl)
  |(obtain⟨t,rfl⟩:=d;rfl)
theorem DU:ck X (compareOp .IsNot) (λx y H Q=>y=.non/\Q (.bl (!decide (x=.non))) H):=by
 intro a_ s σ H x y v u Q I d f h;obtain⟨rfl,q⟩:=h;cases f;refine isnot_none_gen (Ad I q ?_);cases x<;>first
  |(cases d;rfl)
  |(obtain⟨t,rfl⟩:=d;rfl)
theorem DV{op:CmpOp}{r:R2}(d:ck X (compareOp op) r)(ha:PE X a ta)(hb:PE X b tb)(hm:behindInMarks op b=false):PE X (.Compare a [op] [b] pos) (Dj r ta tb):=by
 intro a_ s σ H Q I h;exact wpAny_Compare1 (BP ha hb I h λv u s2 x y f g j l q=>d a_ s2 σ f x y v u Q g j l q) hm
def HK(t:TE):TT:=λσ H Q=>t σ H λx H'=>∃k,x=.bl k/\Q k H'
theorem DW{op:CmpOp}{r:R2}(d:ck X (compareOp op) r)(ha:PE X a ta)(hb:PE X b tb)(hm:behindInMarks op b=false):PT X (.Compare a [op] [b] pos) (HK (Dj r ta tb)):=by
 intro a_ s σ H Q I h;refine wpAny_isTrue_Compare1 (aE (ha a_ s σ H _ I h) λv s1 ⟨x,f,g,j,q1⟩=>aE (hb a_ s1 σ f _ g q1) λu s2 ⟨y,l,m,n,o⟩=>
  aE (d a_ s2 σ l x y v u _ m j n o) λc B ⟨z,p,q,t,k,e,A⟩=>?_) hm
 subst e;cases t;exact wpAny_truthy_bool ⟨p,q,A⟩
def BQ(K:Za)(x:V)(H:Hp)(k:Bool):Prop:=
 match x with
 |.non=>k=false
 |.bl b=>k=b
 |.int i=>k=(i != 0)
 |.str y=>y.length<=sizeLine/\k=((y.length:Int) != 0)
 |.byt y=>y.size<=sizeLine/\k=((y.size:Int) != 0)
 |.ref p=>(∃xs,bw K H p xs/\k = !xs.isEmpty)\/(∃xs,bG K H p xs/\k = !xs.isEmpty) \/ ∃d,H p=some (.dK d)/\k = !d.isEmpty
 |_=>False
theorem yY{d:Type}{f:List (d×V)}{vs:List (d×Value)}(r:KV f vs):(!vs.isEmpty) = !f.isEmpty:=by
 cases r<;>rfl
theorem qP{xs:List V}{b_:Zd}(r:am xs b_):(!b_.toArray.isEmpty) = !xs.isEmpty:=by
 cases r<;>simp
theorem iO:(sizeLine:Nat)<2 ^ 63:=by rw[sizeLine_eq];decide
theorem Gc:IO X (λx H Q=>∃k,BQ X.K x H k/\Q k H):=by
 intro a_ s σ H x v Q I d h;obtain⟨k,e,q⟩:=h;have hl:=iO;have j:sizeLine=16777216:=sizeLine_eq;cases x with
 |non=>
  cases d;have e':k=false:=e;subst e';exact truthy_none ⟨H,I,q⟩
 |bl b=>
  cases d;have e':k=b:=e;subst e';exact wpAny_truthy_bool ⟨H,I,q⟩
 |int i=>
  obtain⟨t,rfl⟩:=d;have e':k=(i != 0):=e;subst e';exact PySem.P.truthy_int ⟨H,I,q⟩
 |str y=>
  obtain⟨t,rfl⟩:=d;obtain⟨hy,e'⟩:y.length<=sizeLine/\k=((y.length:Int) != 0):=e;subst e';exact PySem.P.truthy_str 'c' ⟨H,I.tok _,q⟩
 |byt y=>
  obtain⟨t,rfl⟩:=d;obtain⟨hy,e'⟩:y.size<=sizeLine/\k=((y.size:Int) != 0):=e;subst e';exact PySem.W.truthy_bytes 'c' ⟨H,I.tok _,q⟩
 |ref p=>
  cases d;have e':(∃xs,bw X.K H p xs/\k = !xs.isEmpty)\/(∃xs,bG X.K H p xs/\k = !xs.isEmpty) \/ ∃f,H p=some (.dK f)/\k = !f.isEmpty:=e;rcases e' with⟨xs,hx,e'⟩ | ⟨xs,hx,e'⟩ | ⟨f,hx,e'⟩
  ·subst e'
   obtain⟨b_,r,pl,hz⟩:=I.list hx;have g:=r.length;exact wpAny_truthy_list pl.isList (by simp only[YG];omega) ⟨H,I.tok _,by rw[qP r];exact q⟩
  ·subst e'
   obtain⟨b_,r,pl,hz⟩:=I.tuple hx;have g:=r.length;exact truthy_tuple pl (by simp only[YG];omega) ⟨H,I.tok _,by rw[qP r];exact q⟩
  ·subst e'
   obtain⟨hz,hS,vs,r,m⟩:f.length<=sizeLine/\(p==sysModules)=false/\∃vs,KV f vs/\s.heap.DictOf (bA X.prog X.w) p vs:=I.hok p _ hx;have g:f.length=vs.length:=Paired.length r;exact wpAny_truthy_dict hS m 'c' ⟨H,I.tok _,by rw[yY r];exact q⟩
 |_=>exact(show False from e).elim
theorem BR(ha:PE X a ta)(f:∀d,isTrue a X.env d=(do let v ←d;standAt a.pos;holding [v] (truthy v))):
  PT X a (λσ H Q=>ta σ H λx H'=>∃k,BQ X.K x H' k/\Q k H'):=by
 intro a_ s σ H Q I h;refine isTrue_plain (aE (ha a_ s σ H _ I h) λv s1 g=>?_) (f _);obtain⟨x,j,l,m,q1⟩:=g;exact Gc a_ s1 σ j x v Q l m q1
theorem yZ:ck X (binaryOp .Add) (λx y H Q=>∃i j,x=.str i/\y=.str j/\i.length+j.length<=sizeLine/\Q (.str (i++j)) H):=by
 intro a_ s σ H x y v u Q I d f h;obtain⟨i,j,rfl,rfl,hz,q⟩:=h;obtain⟨t,rfl⟩:=d;obtain⟨t',rfl⟩:=f;exact add_str (λt' tk=>⟨.str (i++j),H,I.tok _,⟨_,rfl⟩,q⟩) hz
theorem vals1{x:V}{us:Zd}(r:am [x] us):∃u,us=[u]/\RelV x u:=by
 cases r with
 |cons d f=>cases f;exact⟨_,rfl,d⟩
theorem vals2{x y:V}{us:Zd}(r:am [x,y] us):∃u d,us=[u,d]/\RelV x u/\RelV y d:=by
 cases r with
 |cons f g=>
  cases g with
  |cons j l=>cases l;exact⟨_,_,rfl,f,j⟩
theorem Ae(hc:X.calm=true):cJ X (.builtin "max") (λxs H Q=>∃i j,xs=[.int i,.int j]/\Q (.int (if j>i then j else i)) H):=by
 intro a_ s σ H xs us Q I r h;obtain⟨i,j,rfl,q⟩:=h;obtain⟨u,f,rfl,⟨t,rfl⟩,⟨t',rfl⟩⟩:=vals2 r;refine max_two_ints (I.ok.hd hc) λh' tk k=>⟨_,H,I.kept k,?_,q⟩
 by_cases d:j>i
 ·rw[if_pos d,if_pos d];exact⟨_,rfl⟩
 ·rw[if_neg d,if_neg d];exact⟨_,rfl⟩
theorem Af(hc:X.calm=true):cJ X (.builtin "min") (λxs H Q=>∃i j,xs=[.int i,.int j]/\Q (.int (if j<i then j else i)) H):=by
 intro a_ s σ H xs us Q I r h;obtain⟨i,j,rfl,q⟩:=h;obtain⟨u,f,rfl,⟨t,rfl⟩,⟨t',rfl⟩⟩:=vals2 r;refine min_two_ints (I.ok.hd hc) λh' tk k=>⟨_,H,I.kept k,?_,q⟩
 by_cases d:j<i
 ·rw[if_pos d,if_pos d];exact⟨_,rfl⟩
 ·rw[if_neg d,if_neg d];exact⟨_,rfl⟩
theorem tS:cJ X (.type "int") (λxs H Q=>(∃i,xs=[.int i]/\Q (.int i) H) \/ ∃k,xs=[.bl k]/\Q (.int (if k then 1 else 0)) H):=by
 intro a_ s σ H xs us Q I r h;rcases h with⟨i,rfl,q⟩ | ⟨k,rfl,q⟩
 ·obtain⟨u,rfl,t,rfl⟩:=vals1 r
  exact call_int_int ⟨.int i,H,I,⟨_,rfl⟩,q⟩
 ·obtain⟨u,rfl,d⟩:=vals1 r
  cases d;exact call_int_bool ⟨.int (if k then 1 else 0),H,I.tok _,⟨_,rfl⟩,q⟩
theorem vi:cJ X (.type "str") (λxs H Q=>∃i,xs=[.int i]/\i.natAbs.log2<1920/\Q (.str (toString i)) H):=by
 intro a_ s σ H xs us Q I r h;obtain⟨i,rfl,hz,q⟩:=h;obtain⟨u,rfl,t,rfl⟩:=vals1 r;exact PySem.P.str_of_int hz ⟨.str _,H,I.tok _,⟨_,rfl⟩,q⟩
end
structure sU (h:Heap) (x dx C:Addr) (mA:Ze):Prop where
 obj:h.get? x=some (PySem.W.instObj C dx)
 ns:h.Ns1 dx mA
 ne:dx≠x
theorem tT{h:Heap}{dx:Addr}{mA:Ze}(n:h.Ns1 dx mA):∃od,h.get? dx=some od/\∀name,PySem.W.lookIn name od=some (mA name):=by
 obtain⟨o,es,d,b,hd,hk,_,hm⟩:=n;refine⟨o,b,λname=>?_⟩;have e:=hm name;unfold nsFind findBy at e;rw[←Array.find?_toList] at e;unfold PySem.W.lookIn;rw[hd];dsimp only;split
 ·rename_i y q
  rw[q] at e;exact congrArg some e
 ·rename_i q
  rw[q] at e;have a:es.toList.any (·.refKey)=false:=by
   rw[List.any_eq_false];intro y hy;obtain⟨z,t,c⟩:=hk y (Array.mem_toList_iff.mp hy);simp[DictEntry.refKey,c]
  have a':¬es.toList.any (·.refKey)=true:=by rw[a];exact YH
  rw[if_neg a'];exact congrArg some e
theorem sU.look{h:Heap}{x dx C:Addr}{mA:Ze}(I:sU h x dx C mA):∃od,PySem.W.InstAt h x (PySem.W.instObj C dx) C (some od)/\∀name,PySem.W.lookIn name od=some (mA name):=
 let⟨od,ho,hl⟩:=tT I.ns;⟨od,⟨I.obj,rfl,rfl,ho⟩,hl⟩
section
variable {prog:Zt}{w:World}{A:Around}{E:Zb}{s:Shared}{K:Za}{x dx C f:Addr}{mA:Ze}{name:Str}{v:Value}
theorem DX{expr:Bool}{Q:Zb}(X:K.In s.heap)(I:sU s.heap x dx C mA)(a:PySem.W.plainGet K C name=true)(b:PySem.W.hasDictIn K C=true)
  (ha:PySem.W.findIn K (.ref C) name=some none) (hv:mA name=some v) (c:PySem.W.handedIn v=true) (h:Q v { s with toks:=s.toks+1 }):
  wpAny 'f' A (getAttr (.ref x) name expr) Q E s:=by
 obtain⟨od,J,hl⟩:=I.look;exact PySem.W.get_value X J (PySem.W.plainGet_of a).1 (PySem.W.findObj_own b ha rfl (by rw[hl,hv])) c h
theorem DY{ns:Zf}{Q:Zo}(X:K.In s.heap)(I:sU s.heap x dx C mA)
  (g:PySem.W.findIn K (.ref C) "__setattr__" = some (some (.builtin "object.__setattr__"))) (hp:PySem.W.plainOver K C=true) (ht:PySem.W.takerIn K C name=some none) (j:PySem.W.hasDictIn K C=true)
  (hw:PySem.Within mA ns) (hsz:ns.length<=sizeLine)
  (h:∀h',sU h' x dx C (λy=>if y=name then some v else mA y)->Heap.SameBut dx s.heap h'->Q () { s with heap:=h',toks:=s.toks+2 }):
  wpAny 'f' A (setAttr (.ref x) name v) Q E s:=by
 obtain⟨od,J,hl⟩:=I.look;refine PySem.W.set_plain X J g (PySem.W.osa_open (s:={ s with toks:=s.toks+1 }) (r:=none) X J hp ht λb=>?_);obtain⟨cd,hc,l⟩:=PySem.W.any_some j;have hx:s.heap.get? x=some ⟨.ref C,some dx,.plain,#[]⟩:=I.obj;refine Yb (Yc (Yb (Yb (wpAny_loadPart hx (Yb (PySem.W.Looks.here (s:={ s with toks:=s.toks+1 }) (PySem.W.looks_clsIn X hc) ?_))))));rw[l];refine Yc (a:=some dx) (Yb (Yc (Yb ?_)));refine wpAny_nsSet1 (s:={ s with toks:=s.toks+1 }) I.ns λh' c d=>?_
 obtain⟨p,q,t,m,n,o⟩:=c.count (PySem.Within.cons name v hw);refine Yb (wpAny_lookBehind m (by rw[n];exact pastItsLine_dict (ZU o (by rw[YI];omega))) ?_);exact Yc (h _ ⟨(d.2 _ (Ne.symm I.ne)).trans I.obj,c,I.ne⟩ d)
theorem BS{R:Result->Shared->Prop}{vs:Zd}{a:List (Str×Value)}(X:K.In s.heap)(hm:PySem.W.makesIn K C=true)
  (hi:PySem.W.findIn K (.ref C) "__init__" = some (some (.ref f))) (b:PySem.W.typeIn K (.ref f)=some (.type "function"))
  (h:codeAny 'f' (A.under (.builtin "type.__call__" ⟨.ref C::vs,a⟩)) (.call (.ref f) ⟨.ref (s.heap.objs.size+1)::vs,a⟩) (PySem.W.InitBack (s.heap.objs.size+1) R)
   { s with heap:=(s.heap.push PySem.W.emptyDict).push (PySem.W.instObj C s.heap.objs.size) }):
  codeAny 'f' A (.call (.ref C) ⟨vs,a⟩) R s:=by
 obtain⟨c,g,d,t,os⟩:=s;exact PySem.W.make_core (PySem.W.makes_of X hm) (PySem.W.looks_findIn X hi) (λself=>PySem.W.bind_fn X self b) (.inl rfl) h
end
def cX(f:Str)(v:V):List (Str×V)->List (Str×V)
 |[]=>[(f,v)]
 |(g,x)::r=>if g=f then(g,v)::r else(g,x)::cX f v r
theorem oT(f g:Str)(v:V):∀fs:List (Str×V),(cX f v fs).lookup g=if g=f then some v else fs.lookup g
 |[]=>by
  show List.lookup g [(f,v)]=_;by_cases h:g=f
  ·have hb:(g==f)=true:=beq_iff_eq.mpr h
   simp only[List.lookup,hb,if_pos h]
  ·have hb:(g==f)=false:=ZP.mpr h
   simp only[List.lookup,hb,if_neg h]
 |(k,x)::r=>by
  have a:=oT f g v r;rw[show cX f v ((k,x)::r)=(if k=f then(k,v)::r else(k,x)::cX f v r) from rfl];by_cases hk:k=f
  ·rw[if_pos hk]
   by_cases h:g=k
   ·have hb:(g==k)=true:=beq_iff_eq.mpr h
    simp only[List.lookup,hb,if_pos (h.trans hk)]
   ·have hb:(g==k)=false:=ZP.mpr h
    simp only[List.lookup,hb,if_neg (λe:g=f=>h (e.trans hk.symm))]
  ·rw[if_neg hk]
   by_cases h:g=k
   ·have hb:(g==k)=true:=beq_iff_eq.mpr h
    simp only[List.lookup,hb,if_neg (λe:g=f=>hk (h.symm.trans e))]
   ·have hb:(g==k)=false:=ZP.mpr h
    simp only[List.lookup,hb];exact a
theorem mZ(f:Str)(v:V):∀fs:List (Str×V),f∈(cX f v fs).map (·.1)/\∀g,g∈fs.map (·.1)->g∈(cX f v fs).map (·.1)
 |[]=>⟨by simp[cX],λg h=>by simp at h⟩
 |(k,x)::r=>by
  obtain⟨a,b⟩:=mZ f v r;rw[show cX f v ((k,x)::r)=(if k=f then(k,v)::r else(k,x)::cX f v r) from rfl];by_cases hk:k=f
  ·rw[if_pos hk]
   subst hk;exact⟨by simp,λg h=>by simpa using h⟩
  ·rw[if_neg hk]
   refine⟨?_,λg h=>?_⟩
   ·rw[YK]
    exact ZX _ a
   ·rw[YK] at h ⊢
    rcases ZY.mp h with e | e
    ·exact ZY.mpr (.inl e)
    ·exact ZX _ (b g e)
theorem oU(f:Str)(v:V):∀fs:List (Str×V),(cX f v fs).length<=fs.length+1
 |[]=>by simp[cX]
 |(k,x)::r=>by
  have a:=oU f v r;rw[show cX f v ((k,x)::r)=(if k=f then(k,v)::r else(k,x)::cX f v r) from rfl];by_cases hk:k=f
  ·rw[if_pos hk,YI,YI];omega
  ·rw[if_neg hk,YI,YI];omega
theorem dQ.some_of{v:V}{o:Zu}(r:dQ (some v) o):∃u,o=some u/\RelV v u:=by
 cases o with
 |none=>exact(show False from r).elim
 |some u=>exact⟨u,rfl,r⟩
theorem dQ.none_of{o:Zu}(r:dQ none o):o=none:=by
 cases o with
 |none=>rfl
 |some u=>exact(show False from r).elim
theorem tU{v:V}{u:Value}(r:RelV v u):PySem.W.handedIn u=true:=by
 cases v with
 |non=>cases(show u=Value.none from r);rfl
 |bl b=>cases(show u=Value.bool b from r);rfl
 |int i=>obtain⟨t,e⟩:=(show ∃t,u=Value.int i t from r);cases e;rfl
 |str x=>obtain⟨t,e⟩:=(show ∃t,u=Value.str x t from r);cases e;rfl
 |byt b=>obtain⟨t,e⟩:=(show ∃t,u=Value.bytes b t from r);cases e;rfl
 |flt b=>obtain⟨t,e⟩:=(show ∃t,u=Value.float b t from r);cases e;rfl
 |ref a=>cases(show u=Value.ref a from r);rfl
 |ty n=>cases(show u=Value.type n from r);rfl
section
variable {P:Zt}{w:World}{H H':Hp}{h h':Heap}{a C dx:Addr}{fs Qu:List (Str×V)}
theorem sV(hok:ci P w H h)(e:H a=some (.ins C dx fs)):∃mA,sU h a dx C mA/\(∀f,dQ (fs.lookup f) (mA f))/\PySem.Within mA (fs.map (·.1))/\fs.length<=1000/\H dx=some (.own a):=by
 obtain⟨d,z,ne,b,mA,n,r,q⟩:=(show bg P w H h a (.ins C dx fs) from hok a _ e);exact⟨mA,⟨b,n,ne⟩,r,q,z,d⟩
end
structure jv (K:Za) (C:Addr):Prop where
 pg:PySem.W.plainGet K C Str.empty=true
 hd:PySem.W.hasDictIn K C=true
 po:PySem.W.plainOver K C=true
 sa:PySem.W.findIn K (.ref C) "__setattr__" = some (some (.builtin "object.__setattr__"))
theorem jv.get{K:Za}{C:Addr}(c:jv K C)(f:Str):PySem.W.plainGet K C f=true:=c.pg
def cB(K:Za)(C:Addr)(f:Str):Prop:=PySem.W.findIn K (.ref C) f=some none
theorem cB.taker{K:Za}{C:Addr}{f:Str}(n:cB K C f):PySem.W.takerIn K C f=some none:=by
 unfold PySem.W.takerIn;rw[show PySem.W.findIn K (.ref C) f=some none from n];rfl
structure IP (K:Za) (C:Addr) (m:Str) (f:Addr):Prop where
 at_:PySem.W.findIn K (.ref C) m=some (some (.ref f))
 fn:PySem.W.isFn K (.ref f)=true
 kp:PySem.W.keepIn K (.ref f)=true
section
variable {X:Cx}{a_:Zc}{σ:St}{H:Hp}{s:Shared}{a C dx:Addr}{fs:List (Str×V)}{f:Str}{v:V}{A:Around}{E:Zb}
theorem y7{b:Bool}{Q:Zb}(I:ac X a_ σ H s)(e:H a=some (.ins C dx fs))(c:jv X.K C)(n:cB X.K C f)(l:fs.lookup f=some v)
  (h:∀u d,ac X a_ σ H d->RelV v u->Q u d):wpAny 'b' A (getAttr (.ref a) f b) Q E s:=by
 obtain⟨mA,O,r,_,_,_⟩:=sV I.hok e;obtain⟨u,hu,g⟩:=dQ.some_of (v:=v) (o:=mA f) (by rw[←l];exact r f);exact DX I.kIn O (c.get f) c.hd n hu (tU g) (h u _ (I.tok _) g)
theorem y8{y:V}{u:Value}{Q:Zo}(I:ac X a_ σ H s)(e:H a=some (.ins C dx fs))(c:jv X.K C)(n:cB X.K C f)(hl:fs.length<1000)(p:RelV y u)
  (h:∀j,ac X a_ σ (aM H a (.ins C dx (cX f y fs))) j->Q () j):wpAny 'b' A (setAttr (.ref a) f u) Q E s:=by
 obtain⟨mA,O,r,l,_,m⟩:=sV I.hok e;have hz:(fs.map (·.1)).length<=sizeLine:=by rw[ZF,sizeLine_eq];omega
 refine DY I.kIn O c.sa c.po n.taker c.hd l hz λh' d t=>h _ ?_
 have hd:∃o,h'.get? dx=some o:=let⟨o,_,_,e',_⟩:=d.ns;⟨o,e'⟩;refine I.write (x:=a) (e:=dx) (by rw[e];exact True.intro) (.inr m) (λb q hb z=>(t.2 b hb).trans z) hd ?_;refine⟨by rw[aG O.ne];exact m,?_,O.ne,d.obj,_,d.ns,λg=>?_,λg B=>?_⟩
 ·have:=oU f y fs;omega
 ·show dQ ((cX f y fs).lookup g) (if g=f then some u else mA g)
  rw[oT];by_cases q:g=f
  ·rw[if_pos q,if_pos q];exact p
  ·rw[if_neg q,if_neg q];exact r g
 ·by_cases q:g=f
  ·rw[q];exact(mZ f y fs).1
  ·refine(mZ f y fs).2 g (l g λz=>B ?_)
   show(if g=f then some u else mA g)=none;rw[if_neg q];exact z
theorem ac.made(I:ac X a_ σ H s):ac X a_ σ (aM (aM H s.heap.objs.size (.own (s.heap.objs.size+1))) (s.heap.objs.size+1) (.ins C s.heap.objs.size []))
  { s with heap:=(s.heap.push PySem.W.emptyDict).push (PySem.W.instObj C s.heap.objs.size) }:=by
 have e1:(s.heap.push PySem.W.emptyDict).get? s.heap.objs.size=some PySem.W.emptyDict:=Yg s.heap rfl;have e2:((s.heap.push PySem.W.emptyDict).push (PySem.W.instObj C s.heap.objs.size)).get? (s.heap.objs.size+1)=some (PySem.W.instObj C s.heap.objs.size):=by
  have:=Yg (s.heap.push PySem.W.emptyDict) (o:=PySem.W.instObj C s.heap.objs.size) rfl
  rwa [Heap.size_push] at this
 have c:(s.heap.push PySem.W.emptyDict).Ns s.heap.objs.size (λ_=>none):=⟨PySem.W.emptyDict,#[],_,e1,rfl,(λe d=>absurd d (by simp)),λ_=>rfl⟩;have g:=I.laid (a:=s.heap.objs.size) (o:=.own (s.heap.objs.size+1)) (h':=s.heap.push PySem.W.emptyDict) (t':=s.toks) (λb u q=>Yd _ q) (YE _) ⟨_,e1⟩;refine g.laid (a:=s.heap.objs.size+1) (o:=.ins C s.heap.objs.size []) (t':=s.toks) (λb u q=>Yd _ q) (Nat.le_of_eq (Heap.size_push _ _)) ?_;have ne:s.heap.objs.size≠s.heap.objs.size+1:=ZS (Nat.lt_succ_self _);refine⟨by rw[aG ne,aD],YL _,ne,e2,λ_=>none,(Heap.Ns1.of_empty c).at λo q=>Yd _ q,λ_=>True.intro,λy hy=>absurd rfl hy⟩
theorem DZ{prog:Zt}{w:World}{env:Env}{e:Expr}{f:Str}{b:Pos}{s:Shared}{Q:Zb}(hb:attributeBase e f env (eval e env)=eval e env)
  (h:wpAny 'f' A (eval e env) (λo f'=>wpAny 'f' A (getAttr o f true) Q E f') E s):wpAny 'f' A (eval (.Attribute e f b) env) Q E s:=
 Attribute_any_ h (by rw[arm_eval_Attribute,hb])
end
def IQ(K:Za)(c d:TE)(f:Str):TS:=λD σ H=>d σ H λy g=>c σ g λx b=>∃a C dx fs,x=.ref a/\b a=some (.ins C dx fs)/\jv K C/\cB K C f/\fs.length<1000 /\
 D.nx σ (aM b a (.ins C dx (cX f y fs)))
section
variable {X:Cx}{o e value:Expr}{f:Str}{pos pos' QB:Pos}{ta tv:TE}
theorem Gd(ha:PE X o ta)(hv:PE X value tv)(b:swapsWith value (some (.Attribute o f pos')) pos.line X.env=pure false):PS X (.Assign [.Attribute o f pos'] value pos) (IQ X.K ta tv f):=by
 intro a_ s σ H D I h;refine plainObj_wpAny_Assign_Attribute (aE (hv a_ s σ H _ I h) λu s1 d=>?_) b;obtain⟨y,g,j,m,q⟩:=d;refine aE (ha a_ s1 σ g _ j q) λp s2 r=>?_
 obtain⟨x,F,t,z,a,C,dx,fs,ex,A,c,n,l,B⟩:=r;subst ex;obtain rfl:p=Value.ref a:=z;exact y8 t A c n l m λG E=>⟨σ,_,E,B⟩
end
section
variable {X:Cx}{a_:Zc}{σ:St}{H:Hp}{s:Shared}{A:Around}{E:Zb}{Q:Zb}{c:Value}{b:Bool}
inductive gQ (K:Za) (H:Hp):V->Value->Prop where
 |non:gQ K H .non (.type "NoneType")
 |bl (x:Bool):gQ K H (.bl x) (.type "bool")
 |int (i:Int):gQ K H (.int i) (.type "int")
 |str (x:Str):gQ K H (.str x) (.type "str")
 |flt (x:UInt64):gQ K H (.flt x) (.type "float")
 |lst {a:Addr}{xs:List V}(e:H a=some (.lst xs)):gQ K H (.ref a) (.type "list")
 |frz {a:Addr}{o:Obj}{xs:List V}(e:H a=some (.frz o (.lst xs))):gQ K H (.ref a) (.type "list")
 |tup {a:Addr}{xs:List V}(e:H a=some (.tup xs)):gQ K H (.ref a) (.type "tuple")
 |dK {a:Addr}{d_:List (Key×V)}(e:H a=some (.dK d_)):gQ K H (.ref a) (.type "dict")
 |dT {a:Addr}{d_:List (List Key×V)}(e:H a=some (.dT d_)):gQ K H (.ref a) (.type "dict")
 |ins {a C dx:Addr}{fs:List (Str×V)}(e:H a=some (.ins C dx fs)) (cl:jv K C) (ha:PySem.W.findIn K (.ref C) "__class__" = some (some (.builtin "object.__class__")))
   (hn:PySem.W.specialIn K (.builtin "object.__class__") "__get__" = some (some (.builtin "getset_descriptor.__get__"))) (MX:PySem.W.takesIn K (.builtin "object.__class__")=some true)
   (hm:PySem.W.mroIn K C (.type "object")=some true):gQ K H (.ref a) (.ref C)
theorem ej{x:V}{u t:Value}(I:ac X a_ σ H s)(d:RelV x u)(ty:gQ X.K H x t)(e:PySem.W.kitOne X.K t c=some b)(h:∀tk,Q (.bool b) { s with toks:=tk }):
  wpAny 'b' A (call (.builtin "isinstance") [u,c]) Q E s:=by
 cases ty with
 |non=>cases(show u=Value.none from d);exact PySem.W.kia_one PySem.W.kitx_none I.kIn True.intro e (λz=>nomatch z) h
 |bl y=>cases(show u=Value.bool y from d);exact PySem.W.kia_one PySem.W.kitx_bool I.kIn True.intro e (λz=>nomatch z) h
 |int i=>obtain⟨t,q⟩:=(show ∃t,u=Value.int i t from d);cases q;exact PySem.W.kia_one PySem.W.kitx_int I.kIn True.intro e (λz=>nomatch z) h
 |str y=>obtain⟨t,q⟩:=(show ∃t,u=Value.str y t from d);cases q;exact PySem.W.kia_one PySem.W.kitx_str I.kIn True.intro e (λz=>nomatch z) h
 |flt y=>obtain⟨t,q⟩:=(show ∃t,u=Value.float y t from d);cases q;exact PySem.W.kia_one PySem.W.kitx_float I.kIn True.intro e (λz=>nomatch z) h
 |@lst a xs f=>
  cases(show u=Value.ref a from d);obtain⟨_,_,n,_,h1⟩:=(show bg X.prog X.w H s.heap a (.lst xs) from I.hok a _ f);exact PySem.W.kia_one PySem.W.kitx_list I.kIn ⟨_,h1,rfl⟩ e (λz=>nomatch z) h
 |@frz a l xs f=>
  cases(show u=Value.ref a from d);obtain⟨_,_,_,n,_,h1⟩:=(show bg X.prog X.w H s.heap a (.frz l (.lst xs)) from I.hok a _ f);exact PySem.W.kia_one PySem.W.kitx_list I.kIn ⟨_,h1,rfl⟩ e (λz=>nomatch z) h
 |@tup a xs f=>
  cases(show u=Value.ref a from d);obtain⟨_,_,_,p⟩:=(show bg X.prog X.w H s.heap a (.tup xs) from I.hok a _ f);obtain⟨o,h1,g,_⟩:=p;exact PySem.W.kia_one PySem.W.kitx_tuple I.kIn ⟨o,h1,g⟩ e (λz=>nomatch z) h
 |@dK a j f=>
  cases(show u=Value.ref a from d);obtain⟨_,_,vs,_,p⟩:=(show bg X.prog X.w H s.heap a (.dK j) from I.hok a _ f);obtain⟨o,es,m,h1,g,_⟩:=p;exact PySem.W.kia_one PySem.W.kitx_dict I.kIn ⟨o,h1,g.1⟩ e (λz=>nomatch z) h
 |@dT a j f=>
  cases(show u=Value.ref a from d);obtain⟨_,_,xs,_,o,es,m,h1,g,_⟩:=(show bg X.prog X.w H s.heap a (.dT j) from I.hok a _ f);exact PySem.W.kia_one PySem.W.kitx_dict I.kIn ⟨o,h1,g.1⟩ e (λz=>nomatch z) h
 |@ins a C dx fs f cl ha hn r hm=>
  cases(show u=Value.ref a from d);obtain⟨mA,O,_⟩:=sV I.hok f;obtain⟨od,J,_⟩:=O.look;exact PySem.W.kia_one (PySem.W.kitx_own (cl.get _) cl.hd ha hn r hm) I.kIn J e (λz=>nomatch z) h
end
structure bQ (k:Nat) (A:Around):Prop where
 hd:A.handled=none
 dp:A.depth+3*k+5<recursionLimit
 un:A.units+16*k+200<cLine
theorem bQ.mono{j k:Nat}{A:Around}(r:bQ k A)(h:j<=k):bQ j A:=⟨r.hd,by have:=r.dp;omega,by have:=r.un;omega⟩
theorem bQ.deeper{k:Nat}{A:Around}(r:bQ (k+1) A)(env:Env):bQ k (A.deeper env):=
 ⟨r.hd,by have:=r.dp;show A.depth+1+3*k+5<_;omega,by have:=r.un;show A.units+3+16*k+200<_;omega⟩
theorem y9{A:Around}{C:Addr}{us:Zd}{a:List (Str×Value)}:(A.under (.builtin "type.__call__" ⟨.ref C::us,a⟩)).depth=A.depth+1:=by
 first | rfl | simp[Around.under,Code.weight,Code.isCreation,Code.isGuard,Code.isCaller,Code.frames,Code.isFrame,guardIds]
theorem zc{A:Around}{C:Addr}{us:Zd}{a:List (Str×Value)}:(A.under (.builtin "type.__call__" ⟨.ref C::us,a⟩)).units=A.units+1:=by
 first | rfl | simp[Around.under,Code.cUnits,Code.frames,Code.isFrame]
theorem bQ.make{k:Nat}{A:Around}(r:bQ (k+1) A)(C:Addr)(us:Zd)(a:List (Str×Value)):bQ k (A.under (.builtin "type.__call__" ⟨.ref C::us,a⟩)):=
 ⟨r.hd,by have:=r.dp;rw[y9];omega,by have:=r.un;rw[zc];omega⟩
theorem bQ.depth{k:Nat}{A:Around}(r:bQ k A):A.depth<recursionLimit:=by have:=r.dp;omega
theorem bQ.units{k:Nat}{A:Around}(r:bQ k A):A.units+64<cLine:=by have:=r.un;omega
def IR:TA:=λ_ H Q=>Q [] H
def HL(a:TE)(b:TA):TA:=λσ H Q=>a σ H λx c=>b σ c λxs d=>Q (x::xs) d
section
variable {X:Cx}{e:Expr}{es:Zg}{te:TE}{t:TA}{pos:Pos}
theorem Ge:PA X [] IR:=λ_ _ _ _ H Q I h=>Calls.spliced_nil ⟨[],H,I,.nil,h⟩
theorem D1(ha:PE X e te)(a:PA X es t)(b:starEach (e::es) X.env=(false,eval e X.env)::starEach es X.env:=by rfl):PA X (e::es) (HL te t):=by
 intro pos a_ s σ H Q I h;rw[b];show wpAny _ _ (spliced ((false,eval e X.env)::backTo pos (starEach es X.env))) _ _ s;refine Calls.spliced_cons (aE (ha a_ s σ H _ I h) λu s1 c=>?_);obtain⟨x,d,f,g,q1⟩:=c;refine aE (a pos a_ s1 σ d _ f q1) λus s2 j=>?_
 obtain⟨xs,l,m,n,o⟩:=j;exact⟨x::xs,l,m,.cons g n,o⟩
def IS(t:TA):TE:=λσ H Q=>t σ H λxs a=>xs.length<=sizeLine/\∀p,a p=none->Q (.ref p) (aM a p (.tup xs))
def IT(t:TA):TE:=λσ H Q=>t σ H λxs a=>xs.length<=sizeLine/\∀p,a p=none->Q (.ref p) (aM a p (.lst xs))
theorem Gf{x1}(h:PA X es t):PE X (.Tuple es x1 pos) (IS t):=by
 intro a_ s σ H Q I hq;refine wpAny_Tuple_spliced (aE (h pos a_ s σ H _ I hq) λus s1 ⟨xs,a,c,r,z,q⟩=>⟨by rw[←r.length];exact z,?_⟩);have d:a s1.heap.objs.size=none:=c.hok.fresh (YE _);refine⟨.ref s1.heap.objs.size,aM a s1.heap.objs.size (.tup xs),c.laid (t':=s1.toks) (λb u e=>Yd _ e) (YE _) ?_,rfl,q _ d⟩;exact⟨z,us,r,⟨_,Yg _ rfl,rfl,_,rfl⟩⟩
theorem Gg(h:PA X es t):PE X (.List es pos) (IT t):=by
 intro a_ s σ H Q I hq;refine wpAny_List_spliced (aE (h pos a_ s σ H _ I hq) λus s1 ⟨xs,a,c,r,z,q⟩=>⟨by rw[←r.length];exact z,?_⟩);have d:a s1.heap.objs.size=none:=c.hok.fresh (YE _);refine⟨.ref s1.heap.objs.size,aM a s1.heap.objs.size (.lst xs),c.laid (t':=s1.toks) (λb u e=>Yd _ e) (YE _) ?_,rfl,q _ d⟩;exact⟨z,us,0,r,Yg _ rfl⟩
end
abbrev Sp:=List V->Hp->VK->XK->Prop
abbrev oV:=List Env->Hp->Shared->XK->Value->Shared->Prop
structure fD (P:Zt) (w:World) (K:Za) (mg:Ze) (base:Heap) (A:Around) (outer:List Env) (s:Shared) (H:Hp):Prop where
 frames:A.frames=some outer
 mod:Mod K mg base
 bs:∀b o,base.get? b=some o->s.heap.get? b=some o/\H b=none
 bsz:base.objs.size<=s.heap.objs.size
 funs:s.heap.FunFrames base outer
 frf:∀b∈kC outer,H b=none
 hok:ci P w H s.heap
 bare:AllBare s.gens
def CE(outer:List Env)(P:Zt)(w:World)(H:Hp)(s:Shared)(Q:VK)(u:Value)(a:Shared):Prop:=
 ∃v H',a.os=s.os/\AllBare a.gens/\Un (kC outer) [] H H' s.heap a.heap/\ci P w H' a.heap/\RelV v u/\Q v H'
def CR(CX:oV)(outer:List Env)(P:Zt)(w:World)(H:Hp)(s:Shared)(Q:VK)(E:XK)(r:Result)(a:Shared):Prop:=
 match r with
 |.ok (.ret u)=>CE outer P w H s Q u a
 |.ok _=>False
 |.error e=>CX outer H s E e a
structure dR (P:Zt) (w:World) (K:Za) (mg:Ze) (base:Heap) (CX:oV) (k:Nat) (f:Addr) (fd:Zs) (ps:Zf) (sp:Sp):Prop where
 len:∀vs H Q E,sp vs H Q E->vs.length=ps.length
 run:∀(A:Around) (outer:List Env) (s:Shared) (H:Hp) (args:Args) (us:Zd) (vs:List V) (Q:VK) (E:XK),bQ k A->fD P w K mg base A outer s H->BindsTo s fd args (ps.zip us)->am vs us->sp vs H Q E ->
  codeAny (model P w) A (.call (.ref f) args) (CR CX outer P w H s Q E) s
theorem fD.make{P:Zt}{w:World}{K:Za}{mg:Ze}{base:Heap}{A:Around}{outer:List Env}{s:Shared}{H:Hp}(e:fD P w K mg base A outer s H)(C:Addr)(us:Zd)(a:List (Str×Value)):
  fD P w K mg base (A.under (.builtin "type.__call__" ⟨.ref C::us,a⟩)) outer s H:=⟨by first | exact e.frames | (simpa [Around.under,Code.envs,Code.isFrame,pushEnvs] using e.frames),e.mod,e.bs,e.bsz,e.funs,e.frf,e.hok,e.bare⟩
section
variable {X:Cx}{a_:Zc}{σ:St}{H:Hp}{s s':Shared}
theorem ac.env0(I:ac X a_ σ H s):fD X.prog X.w X.K X.mg X.base X.A X.stack s H:=
 ⟨I.ok.frames,I.ok.mod,I.bs,ZU I.ok.bsz I.sz,I.stack,I.stkFree,I.hok,I.bare⟩
theorem ac.after{Q:VK}{u:Value}(I:ac X a_ σ H s)(h:CE X.stack X.prog X.w H s Q u s'):EP X a_ σ Q u s':=by
 obtain⟨v,H',os,bare,un,hok,r,q⟩:=h;obtain⟨a,g,d,t,c⟩:=s';obtain rfl:c=s.os:=os;exact⟨v,H',I.call (h':=a) (g':=g) (d':=d) (t':=t) (ch:=[]) un hok bare (λb z=>absurd z (by simp)),r,q⟩
end
def Dk(sp:Sp)(a:List V)(E:XK)(t:TA):TE:=λσ H Q=>t σ H λvs b=>sp (vs++a) b Q E
def HM(C:Addr)(sp:Sp)(b:List V)(E:XK)(t:TA):TE:=λσ H Q=>t σ H λvs a=>∀x dx,a x=none->a dx=none->dx≠x ->
 sp (.ref x::(vs++b)) (aM (aM a dx (.own x)) x (.ins C dx [])) (λv c=>v=.non/\Q (.ref x) c) E
def Binds(K:Za)(fd:Zs)(ps:Zf)(ds:Zd):Prop:=
 ∀(s:Shared) (us:Zd),K.In s.heap->(us++ds).length=ps.length->BindsTo s fd ⟨us,[]⟩ (ps.zip (us++ds))
theorem Binds.all{K:Za}{fd:Zs}{ps:Zf}(h:∀us:List Value,us.length=ps.length->bindArgs fd ⟨us,[]⟩=pure (ps.zip us)):Binds K fd ps []:=λs us _ hl=>by
 rw[ZA] at hl ⊢;exact .of_eq (h us hl)
def m6(CX:oV)(X:Cx)(E:XK):Prop:=∀(a_:Zc) (σ:St) (H:Hp) (s:Shared) (e:Value) (a:Shared),ac X a_ σ H s->CX X.stack H s E e a->X.xe e a
section
variable {X:Cx}{CX:oV}{k:Nat}{f C:Addr}{fd:Zs}{ps:Zf}{sp:Sp}{JX:List V}{ds:Zd}{E:XK}{x m:Str}{p pos v_:Pos}{e o:Expr}{es:Zg}{ta:TE}{t:TA}
theorem Gh{a_:Zc}{σ:St}{H:Hp}{s:Shared}{Q:VK}{us:Zd}{vs:List V}(F:dR X.prog X.w X.K X.mg X.base CX k f fd ps sp)(b:bQ k X.A)(hb:Binds X.K fd ps ds)(hd:am JX ds)(hx:m6 CX X E)
  (I:ac X a_ σ H s) (r:am vs us) (h:sp (vs++JX) H Q E):wpAny 'b' X.A (call (.ref f) us) (EP X a_ σ Q) X.xe s:=by
 have a:am (vs++JX) (us++ds):=r.append hd;have hl:(us++ds).length=ps.length:=by rw[←a.length];exact F.len _ _ _ _ h
 refine wpAny_call (codeAny_mono (F.run X.A X.stack s H ⟨us,[]⟩ (us++ds) (vs++JX) Q E b I.env0 (hb s us I.kIn hl) a h) λr c hq=>?_);cases r with
 |error e=>exact hx a_ σ H s e c I hq
 |ok d=>
  cases d with
  |ret u=>exact I.after hq
  |next=>exact Yh hq
  |brk=>exact Yh hq
  |cont=>exact Yh hq
theorem D2(F:dR X.prog X.w X.K X.mg X.base CX k f fd ps sp)(b:bQ k X.A)(c:Gl X x)(hm:X.mg x=some (.ref f))(hk:PySem.W.keepIn X.K (.ref f)=true)(hb:Binds X.K fd ps ds)(hd:am JX ds)(hx:m6 CX X E)
  (ha:PA X (e::es) t) (d:(x==("__debug__" : Str))=false:=by decide) (g:starEach (e::es) X.env=(false,eval e X.env)::starEach es X.env:=by rfl) (j:(backTo pos (starEach es X.env)).any (·.1)=false:=by rfl):
  PE X (.Call (.Name x p) (e::es) [] pos) (Dk sp JX E t):=by
 intro a_ s σ H Q I h;refine wpAny_Call_Name_kw (sR I c hm ?_ d);refine PySem.W.callWith_K (h₀:=X.base) I.ok.mod.kin hk (aE (ha pos a_ s σ H _ I h) λus s1 l=>?_) g j;obtain⟨vs,n,a,r,q⟩:=l;refine⟨a.kIn,?_⟩;exact Gh F b hb hd hx a r q
structure Mk (K:Za) (C f:Addr):Prop where
 makes:PySem.W.makesIn K C=true
 init:PySem.W.findIn K (.ref C) "__init__" = some (some (.ref f))
 fn:PySem.W.isFn K (.ref f)=true
 kp:PySem.W.keepIn K (.ref C)=true
theorem BU{a_:Zc}{σ:St}{H:Hp}{s:Shared}{Q:VK}{us:Zd}{vs:List V}(M:Mk X.K C f)(F:dR X.prog X.w X.K X.mg X.base CX k f fd ps sp)(d:bQ (k+1) X.A)(hb:Binds X.K fd ps ds)(hd:am JX ds)
  (hx:m6 CX X E) (I:ac X a_ σ H s) (r:am vs us)
  (h:∀x dx,H x=none->H dx=none->dx≠x->sp (.ref x::(vs++JX)) (aM (aM H dx (.own x)) x (.ins C dx [])) (λv g=>v=.non/\Q (.ref x) g) E):
  wpAny 'b' X.A (call (.ref C) us) (EP X a_ σ Q) X.xe s:=by
 have hq:=h (s.heap.objs.size+1) s.heap.objs.size (I.hok.fresh (Nat.le_succ _)) (I.hok.fresh (YE _)) (ZS (Nat.lt_succ_self _));have b:=ac.made (C:=C) I;have c:am (V.ref (s.heap.objs.size+1)::(vs++JX)) (Value.ref (s.heap.objs.size+1)::(us++ds)):=.cons rfl (r.append hd);have hl:(Value.ref (s.heap.objs.size+1)::us++ds).length=ps.length:=by
  have e:=c.length;rw[F.len _ _ _ _ hq] at e;exact e.symm
 refine wpAny_call (BS (f:=f) I.kIn M.makes M.init (beq_iff_eq.mp M.fn) (codeAny_mono (F.run _ X.stack _ _ ⟨Value.ref (s.heap.objs.size+1)::us,[]⟩ (Value.ref (s.heap.objs.size+1)::(us++ds)) _ _ E (d.make C us [])
  (b.env0.make C us []) (hb _ (Value.ref (s.heap.objs.size+1)::us) b.kIn hl) c hq) λr j a=>?_))
 cases r with
 |error e=>exact hx a_ σ _ _ e j b a
 |ok l=>
  cases l with
  |ret u=>
   obtain⟨v,H',n,q,y,z⟩:=b.after a;subst y;exact⟨q,⟨V.ref (s.heap.objs.size+1),H',n,rfl,z⟩⟩
  |next=>exact Yh a
  |brk=>exact Yh a
  |cont=>exact Yh a
theorem D3(M:Mk X.K C f)(F:dR X.prog X.w X.K X.mg X.base CX k f fd ps sp)(b:bQ (k+1) X.A)(c:Gl X x)(hm:X.mg x=some (.ref C))(hb:Binds X.K fd ps ds)(hd:am JX ds)(hx:m6 CX X E)
  (ha:PA X (e::es) t) (d:(x==("__debug__" : Str))=false:=by decide) (g:starEach (e::es) X.env=(false,eval e X.env)::starEach es X.env:=by rfl) (j:(backTo pos (starEach es X.env)).any (·.1)=false:=by rfl):
  PE X (.Call (.Name x p) (e::es) [] pos) (HM C sp JX E t):=by
 intro a_ s σ H Q I h;refine wpAny_Call_Name_kw (sR I c hm ?_ d);refine PySem.W.callWith_K (h₀:=X.base) I.ok.mod.kin M.kp (aE (ha pos a_ s σ H _ I h) λus s1 l=>?_) g j;obtain⟨vs,n,a,r,q⟩:=l;refine⟨a.kIn,?_⟩;exact BU M F b hb hd hx a r q
end
structure cI (N P:Zf) (sc:Scope):Prop where
 kind:sc.kind=.function
 co:sc.isCoroutine=false
 gen:sc.isGenerator=false
 nd:N.Nodup
 pre:N.take P.length=P
 par:∀x∈P,sc.names.lookup x=some .local \/ sc.names.lookup x=some .cell
 nofree:∀y∈sc.names,y.2≠.free
theorem tV{kindOf:Str->Option NameKind}{x:Str}:∀{binds:List (Str×Value)}{m:Ze},(∀v,(x,v)∉binds)->bindL kindOf binds m x=m x
 |[],_,_=>rfl
 |(n,v)::r,m,h=>by
  unfold bindL;rw[tV λw hw=>h w (ZX _ hw)];split
  ·have:x≠n:=by rintro rfl;exact h v ZW
   simp[this]
  ·rfl
theorem tX{kindOf:Str->Option NameKind}{x:Str}:∀{binds:List (Str×Value)}{m:Ze},(∀v,(x,v)∉binds)->bindC kindOf binds m x=m x
 |[],_,_=>rfl
 |(n,v)::r,m,h=>by
  unfold bindC;rw[tX λw hw=>h w (ZX _ hw)];split
  ·rfl
  ·have:x≠n:=by rintro rfl;exact h v ZW
   simp[this]
theorem tY{kindOf:Str->Option NameKind}{x:Str}{v:Value}:∀{P:Zf}{vs:Zd}{i:Nat}{m:Ze},P.Nodup->P[i]?=some x->vs[i]?=some v->kindOf x=some .local ->
  bindL kindOf (P.zip vs) m x=some v
 |[],_,_,_,_,h,_,_=>by simp at h
 |_::_,[],_,_,_,_,h,_=>by simp at h
 |p::P,w::vs,0,m,nd,h1,a,hk=>by
  simp at h1 a;subst h1;subst a;show bindL kindOf ((p,w)::P.zip vs) m p=_;unfold bindL;rw[tV λv hv=>(YM.mp nd).1 (List.of_mem_zip hv).1,if_pos hk];simp
 |p::P,w::vs,i+1,m,nd,h1,a,hk=>by
  show bindL kindOf ((p,w)::P.zip vs) m x=_;unfold bindL;exact tY (i:=i) (YM.mp nd).2 (by simpa using h1) (by simpa using a) hk
theorem tZ{kindOf:Str->Option NameKind}{x:Str}{v:Value}:∀{P:Zf}{vs:Zd}{i:Nat}{m:Ze},P.Nodup->P[i]?=some x->vs[i]?=some v->kindOf x≠some .local ->
  bindC kindOf (P.zip vs) m x=some v
 |[],_,_,_,_,h,_,_=>by simp at h
 |_::_,[],_,_,_,_,h,_=>by simp at h
 |p::P,w::vs,0,m,nd,h1,a,hk=>by
  simp at h1 a;subst h1;subst a;show bindC kindOf ((p,w)::P.zip vs) m p=_;unfold bindC;rw[tX λv hv=>(YM.mp nd).1 (List.of_mem_zip hv).1,if_neg hk];simp
 |p::P,w::vs,i+1,m,nd,h1,a,hk=>by
  show bindC kindOf ((p,w)::P.zip vs) m x=_;unfold bindC;exact tZ (i:=i) (YM.mp nd).2 (by simpa using h1) (by simpa using a) hk
def start(N:Zf)(vs:List V):St:=vs.map some++List.replicate (N.length-vs.length) none
def m7(CX:oV)(P:Zt)(w:World)(K:Za)(mg:Ze)(base:Heap)(N:Zf)(h_:Str)(scope:Scope)(f:Addr)(cd:Value)(A:Around)(outer:List Env)(s:Shared)(H:Hp)(E:XK):Cx where
 prog:=P
 w:=w
 K:=K
 mg:=mg
 base:=base
 A:=A.deeper (envOfC h_ scope s.heap.objs.size f cd)
 N:=N
 s₀:=s
 H₀:=H
 env:=envOfC h_ scope s.heap.objs.size f cd
 outer:=outer
 stack:=envOfC h_ scope s.heap.objs.size f cd::outer
 ex:=[]
 calm:=true
 fn:=λ_=>true
 pn:=[]
 xe:=λe b=>wpAny (model P w) (A.deeper (envOfC h_ scope s.heap.objs.size f cd)) (leaving (envOfC h_ scope s.heap.objs.size f cd) e) (λ_ a=>CX outer H s E e a) (λe' a=>CX outer H s E e' a) b
theorem vj{sc:Scope}{n:Nat}{x:Str}(h:sc.names.lookup x=some .cell):∃c,(cellsFrom n sc.names []).lookup x=some c:=by
 have q:=PySem.W.cellsFrom_some sc.names n [] (.inl h);exact Option.isSome_iff_exists.mp q
theorem Ag{CX:oV}{P:Zt}{w:World}{K:Za}{mg:Ze}{base:Heap}{N ps:Zf}{h_:Str}{scope:Scope}{f:Addr}{cd:Value}{A:Around}{outer:List Env}{s s1:Shared}{H:Hp}{E:XK}{us:Zd}{vs:List V}
  (S:cI N ps scope) (hd:A.handled=none) (g:fD P w K mg base A outer s H) (hl:vs.length=ps.length) (r:am vs us)
  (x:InCallC s s.heap.objs.size (bindL (envOfC h_ scope s.heap.objs.size f cd).kindOf (ps.zip us) λ_=>none) (cellsFrom (s.heap.objs.size+1) scope.names []) (bindC (envOfC h_ scope s.heap.objs.size f cd).kindOf (ps.zip us) λ_=>none) s1):
  ac (m7 CX P w K mg base N h_ scope f cd A outer s H E) [] (start N vs) H s1:=by
 have o:ps.length<=N.length:=by have:=congrArg List.length S.pre;rw[YQ] at this;omega
 obtain⟨h1,tk,rfl,hk⟩:=x.done;have j:∀b:Addr,b∉(m7 CX P w K mg base N h_ scope f cd A outer s H E).ex:=λb z=>absurd (show b∈([]:List Addr) from z) (by simp)
 refine⟨⟨g.mod,S.kind,rfl,rfl,YE _,λy z c h1 d=>?_,λy hy=>?_,λy c _ h=>?_,λ_=>hd,Around.frames_deeper g.frames,.inr ⟨rfl,rfl⟩,λb z=>absurd z (j b),g.bs,g.bsz,λb _ _=>j b,λb z=>absurd z (j b),g.funs,g.frf⟩,
  rfl,g.bare,Un.kept hk,⟨_,x.toInCall.ns,λi y v h1 d t=>?_⟩,λy c h=>⟨_,x.cell y c h⟩,g.hok.fresh (YE _),λy c h=>?_,λp hp=>absurd (show p∈([]:List (Addr×Obj)) from hp) (by simp),g.hok.kept hk,?_⟩
 ·exact name_of_addr x.apart (PySem.mem_of_lookup h1) (PySem.mem_of_lookup d)
 ·have hy:scope.names.lookup y=some .cell\/scope.names.lookup y=some .free:=hy
  rcases hy with hy | hy
  ·exact vj hy
  ·exact absurd rfl (S.nofree _ (PySem.mem_of_lookup hy))
 ·exact Nat.le_of_lt (x.above y c (PySem.mem_of_lookup h))
 ·have hi:i<vs.length:=by
   unfold start at d;by_cases hi:i<vs.length
   ·exact hi
   ·rw[ZH (by simpa using hi)] at d
    rw[List.getElem?_replicate] at d;split at d<;>cases d
  have ha:vs[i]?=some v:=by
   unfold start at d;rw[ZE (by simpa using hi),ZG] at d;cases e:vs[i]? with
   |none=>rw[e] at d;cases d
   |some a=>rw[e] at d;cases d;rfl
  obtain⟨u,hu,m⟩:=r.get ha;have hp:ps[i]?=some y:=by
   rw[←S.pre,List.getElem?_take_of_lt 'c'];exact h1
  have l:ps.Nodup:=by rw[←S.pre];exact S.nd.sublist (List.take_sublist _ _)
  refine⟨u,m,?_⟩;rcases S.par y (YR hp) with k | k
  ·exact .inl ⟨k,tY l hp hu k⟩
  ·obtain⟨c,e⟩:=vj (n:=s.heap.objs.size+1) k
   refine .inr ⟨.inl k,c,e,?_⟩;have q:=x.cell y c e;rw[tZ l hp hu (by show scope.names.lookup y≠_;rw[k];decide)] at q;exact q
 ·exact g.hok.fresh (Nat.le_of_lt (x.above y c (PySem.mem_of_lookup h)))
 ·unfold start
  show _=N.length;rw[ZJ,ZF,List.length_replicate];omega
theorem HN{CX:oV}{P:Zt}{w:World}{K:Za}{mg:Ze}{base:Heap}{k:Nat}{f:Addr}{name h_:Str}{a:Arguments}{body:Zr}{scope:Scope}{z kV l_ pm i' ct oc:Value}{an od:Zm}
  {x_:Zn}{N ps:Zf}{sp:Sp}(F:K.lookup f=some ⟨oc,od,.func (PySem.W.fnOf name h_ a body scope z kV l_ pm an i' ct),x_⟩) (G:PySem.W.codeIn K i' h_=true) (S:cI N ps scope)
  (len:∀vs H Q E,sp vs H Q E->vs.length=ps.length)
  (L:∀(A:Around) (outer:List Env) (s:Shared) (H:Hp) (vs:List V) (Q:VK) (E:XK),bQ k (A.deeper (envOfC h_ scope s.heap.objs.size f i'))->sp vs H Q E ->
   ∃t,kE (m7 CX P w K mg base N h_ scope f i' A outer s H E) body t/\t { nx:=λ_ H'=>Q .non H',rt:=Q } (start N vs) H):
  dR P w K mg base CX (k+1) f (PySem.W.fnOf name h_ a body scope z kV l_ pm an i' ct) ps sp:=by
 refine⟨len,λA outer s H args us vs Q E j d hb r B=>?_⟩;have hl:=len _ _ _ _ B;have C:K.In s.heap:=d.mod.kin.keeps λb o e=>(d.bs b o e).1
 have l:s.heap.NoLimit:=d.mod.nolimit.keeps λb o e=>(d.bs b o e).1
 have O:∀y∈ps.zip us,scope.names.lookup y.1=some .local \/ (scope.names.lookup y.1=some .cell/\((cellsFrom (s.heap.objs.size+1) scope.names []).lookup y.1).isSome=true):=λ⟨n,v⟩ hy=>by
  rcases S.par n (List.of_mem_zip hy).1 with q | q
  ·exact .inl q
  ·exact .inr ⟨q,PySem.W.cellsFrom_some _ _ _ (.inl q)⟩
 refine codeAny_call_function j.depth (C _ _ F) rfl S.co S.gen rfl (PySem.W.codeRec_of C G) (hb _ _ _ _ ?_);refine wpAny_newFunctionEnv_cells S.kind O λenv R s1 x=>?_
 subst R;refine⟨l.keeps x.toInCall.keep,codeAny_func ?_⟩;obtain⟨t,ht,hq⟩:=L A outer s H vs Q E (j.deeper _) B;have I:ac (m7 CX P w K mg base N h_ scope f i' A outer s H E) [] (start N vs) H s1:=Ag S j.hd d hl r x;refine wpAny_mono (ht [] s1 (start N vs) H _ I hq) (λT m c=>?_) λe m c=>c
 have fin:∀{g:St}{H':Hp}{v:V}{u:Value},ac (m7 CX P w K mg base N h_ scope f i' A outer s H E) [] g H' m->RelV v u->Q v H'->CE outer P w H s Q u m:=
  λ{g H' v u} J p q=>⟨v,H',J.os,J.bare,J.base,J.hok,p,q⟩
 cases T with
 |ret u=>
  obtain⟨v,g,H',J,p,q⟩:=c;exact fin J p q
 |next=>
  obtain⟨g,H',J,q⟩:=c;exact fin (v:=V.non) (u:=Value.none) J rfl q
 |brk=>
  obtain⟨_,_,_,q⟩:=c;exact Yh q
 |cont=>
  obtain⟨_,_,_,q⟩:=c;exact Yh q
section
variable {X:Cx}{x:Str}{p pos:Pos}{e:Expr}{es:Zg}{t:TA}{id T:String}{r:List V->Hp->VK->Prop}
def Ik(r:List V->Hp->VK->Prop)(t:TA):TE:=λσ H Q=>t σ H λvs a=>r vs a Q
theorem BV(hc:cJ X (.builtin id) r)(a:Gl X x)(hm:X.mg x=none)(hv:bootBuiltins x=some (.builtin id))(ha:PA X (e::es) t)(hn:x ≠ "__name__":=by decide)(b:(x==("__debug__" : Str))=false:=by decide)
  (c:starEach (e::es) X.env=(false,eval e X.env)::starEach es X.env:=by rfl) (d:(backTo pos (starEach es X.env)).any (·.1)=false:=by rfl):PE X (.Call (.Name x p) (e::es) [] pos) (Ik r t):=by
 intro a_ s σ H Q I h;refine wpAny_Call_Name_kw (dc I a hm hv ?_ hn b);refine PyProof.Rows.callWith_builtin1 (aE (ha pos a_ s σ H _ I h) λus s1 f=>?_) c d;obtain⟨vs,g,j,l,q1⟩:=f;exact hc a_ s1 σ g vs us Q j l q1
theorem Ah(hc:cJ X (.type T) r)(a:Gl X x)(hm:X.mg x=none)(hv:bootBuiltins x=some (.type T))(ha:PA X (e::es) t)(hn:x ≠ "__name__":=by decide)(b:(x==("__debug__" : Str))=false:=by decide)
  (c:starEach (e::es) X.env=(false,eval e X.env)::starEach es X.env:=by rfl) (d:(backTo pos (starEach es X.env)).any (·.1)=false:=by rfl):PE X (.Call (.Name x p) (e::es) [] pos) (Ik r t):=by
 intro a_ s σ H Q I h;refine wpAny_Call_Name_kw (dc I a hm hv ?_ hn b);refine PyProof.Rows.callWith_type1 (aE (ha pos a_ s σ H _ I h) λus s1 f=>?_) c d;obtain⟨vs,g,j,l,q1⟩:=f;exact hc a_ s1 σ g vs us Q j l q1
end
end L2
namespace HT
open PySem PyProof.Rows
def lexLt:List Int->List Int->Bool
 |[],[]=>false
 |[],_::_=>true
 |_::_,[]=>false
 |x::xs,y::ys=>if x=y then lexLt xs ys else decide (x<y)
theorem lH(x y:Int)(xs ys:Zi):lexLt (x::xs) (y::ys)=if x=y then lexLt xs ys else decide (x<y):=rfl
theorem mI:lexLt [] []=false:=rfl
theorem sW(y:Int)(ys:Zi):lexLt [] (y::ys)=true:=rfl
theorem sX(x:Int)(xs:Zi):lexLt (x::xs) []=false:=rfl
theorem BW(A:Around)(s:Shared)(a:Int)(t:Tok)(c:Int)(u:Tok):∃e,SeqAt.EqAt A s (.int a t) (.int c u) e/\(e=true↔a=c):=
 ⟨(a==c),SeqAt.EqAt.int_int a t c u,by simp⟩
theorem BX(A:Around)(s:Shared)(a:Int)(t:Tok)(c:Int)(u:Tok)(prog:Zt)(w:World)(E:Zb)(Q:Zb)(h:Q (.bool (decide (a<c))) s):
  wpAny 'f' A (richCompare .Lt (.int a t) (.int c u)) Q E s:=
 (PyProof.Rows.lt_int h:wpAny 'f' A (compareOp .Lt (.int a t) (.int c u)) Q E s)
section
open PySem.SeqAt
open PySem.AutoSeq1 (wpAny_loadPart')
open PySem.MeetsSeq PySem.MeetsSeq2 PySem.MeetsSeq3
theorem uQ(l b:Addr)(f j:Zl)(n C:Nat)(E F:Zm)(sl G:Zn)(ns p:Zi)(hi:IntsAre f.toList ns)(z:IntsAre j.toList p):
  Meets (Builtin.«tuple.__lt__» ⟨[.ref l,.ref b],[]⟩)
   (λ_ R s=>s.heap.get? l=some { cls:=.type "tuple",dict:=E,data:=.seq f n,slots:=sl }/\s.heap.get? b=some { cls:=.type "tuple",dict:=F,data:=.seq j C,slots:=G } /\
    R (.ok (.ret (.bool (lexLt ns p)))) s):=
 .of_wp λprog w A R s h=>by
  obtain⟨hp,g,d,tk,os⟩:=s;obtain⟨hl,hb,h⟩:=h;have N:=AutoSeq1.sub_tuple_tuple;have O:f.size=ns.length:=by rw[←hi.length];simp
  have P:j.size=p.length:=by rw[←z.length];simp
  wp_walk using wpAny_loadPart' hl,wpAny_loadPart' hb,wpAny_forIn_list _ (λrest b r=>b.1=none/\r=⟨hp,g,d,tk,os⟩/\∃(vs ws:Zd) (m o:Zi),rest=vs.zip ws /\
   IntsAre vs m/\IntsAre ws o/\m.length+j.size=o.length+f.size/\R (.ok (.ret (.bool (lexLt m o)))) ⟨hp,g,d,tk,os⟩) _
  case turn=>
   rintro⟨y,x⟩ rest b r ⟨Kx,rfl,vs,ws,m,o,hz,hvi,hwi,i_,hR⟩;cases hvi with
   |nil=>rw[List.zip_nil_left] at hz;cases hz
   |cons a t I=>
    cases hwi with
    |nil=>rw[List.zip_nil_right] at hz;cases hz
    |cons c u J=>
     rw[List.zip_cons_cons] at hz;injection hz with hyx hrest
     injection hyx with hy hx
     subst hy hx;rw[lH] at hR;simp only[YI] at i_;obtain⟨e,K,B⟩:=BW A.in1 ⟨hp,g,d,tk,os⟩ a t c u;refine Yb (K prog w _ _ ?_);cases e with
     |true=>
      rw[if_pos (B.mp rfl)] at hR;wp_walk;exact⟨rfl,rfl,_,_,_,_,hrest,I,J,by omega,hR⟩
     |false=>
      rw[if_neg (λq=>absurd (B.mpr q) YH)] at hR;have L:=BX A.in1 ⟨hp,g,d,tk,os⟩ a t c u prog w;wp_walk using L;exact⟨_,rfl,by simpa using hR⟩
  case fin=>
   rintro⟨b1,b2⟩ r ⟨Kx,rfl,vs,ws,m,o,hz,hvi,hwi,i_,hR⟩;simp only at Kx;subst Kx;have hv:lexLt m o=decide (f.size<j.size):=by
    cases hvi with
    |nil=>
     cases hwi with
     |nil=>
      simp only[YS] at i_;rw[mI];exact(ZO 'c').symm
     |cons c u hw=>
      simp only[YS,YI] at i_;rw[sW];exact(YT 'c').symm
    |cons a t hv=>
     cases hwi with
     |nil=>
      simp only[YS,YI] at i_;rw[sX];exact(ZO 'c').symm
     |cons c u hw=>
      rw[List.zip_cons_cons] at hz;cases hz
   rw[hv] at hR;wp_walk;exact⟨_,rfl,by simpa [Builtin.Tuple.tupleCompareSizes] using hR⟩
  case h=>
   exact⟨rfl,rfl,f.toList,j.toList,ns,p,rfl,hi,z,by omega,h⟩
end
section
variable {prog:Zt}{w:World}{A:Around}{E:Zb}{s:Shared}
theorem zd{l b:Addr}{c d:Zl}{ns a:Zi}{Q:Zb}(hl:IsTup s.heap l c)(hb:IsTup s.heap b d)(hi:IntsAre c.toList ns)(o:IntsAre d.toList a)
  (hu:A.units<cLine) (h:Q (.bool (lexLt ns a)) s):wpAny 'f' A (compareOp .Lt (.ref l) (.ref b)) Q E s:=by
 obtain⟨⟨cls,p,data,sl⟩,f,hc,n,hd⟩:=id hl;obtain⟨⟨u,q,data2,r⟩,g,j,t,m⟩:=id hb;simp only at hc hd j m;subst hc hd j m;exact richCompare_meets_room (op:=.Lt) ⟨_,f,rfl⟩ ⟨_,g,rfl⟩ PySem.F.slot_tuple_lt PySem.F.entry_tuple_lt (PySem.F.args_tuple_lt_2 _ _) (uQ l b c d n t p q sl r ns a hi o)
  ⟨f,g,show Value.bool (lexLt ns a)≠Value.notImplemented/\Q (.bool (lexLt ns a)) s from⟨(λx=>nomatch x),h⟩⟩ hu
theorem D4{t b:Addr}{vs ws:Zd}{Q:Zb}(ht:IsTup s.heap t vs.toArray)(hb:IsTup s.heap b ws.toArray)(hv:vs≠[])
  (h1:ws=[]->Q (.ref t) s) (o:ws≠[]->Q (.ref s.heap.objs.size) { s with heap:=s.heap.push { cls:=.type "tuple",data:=.seq (vs++ws).toArray } })
  (hsz:vs.length+ws.length<=sizeLine):wpAny 'f' A (binaryOp .Add (.ref t) (.ref b)) Q E s:=by
 obtain⟨⟨cls,d,data,sl⟩,a,hc,n,hd⟩:=id ht;obtain⟨⟨p,f,data2,g⟩,c,j,l,m⟩:=id hb;simp only at hc hd j m;subst hc hd j m;have e:vs.toArray++ws.toArray=(vs++ws).toArray:=by simp
 by_cases hw:ws=[]
 ·exact concat_meets ⟨_,a,rfl⟩ ⟨_,c,rfl⟩ noFill_tuple_add seq_tuple_add PySem.F.slot_tuple_add PySem.F.entry_tuple_add (PySem.F.args_tuple_add_2 _ _)
   (tuple_addW1 t b vs.toArray ws.toArray n l d f sl g (by simpa using hv) (by simp[hw])) ⟨a,c,h1 hw⟩
 ·refine concat_meets ⟨_,a,rfl⟩ ⟨_,c,rfl⟩ noFill_tuple_add seq_tuple_add PySem.F.slot_tuple_add PySem.F.entry_tuple_add (PySem.F.args_tuple_add_2 _ _)
   (tuple_addW2 t b vs.toArray ws.toArray n l d f sl g (by simpa using hv) (by simpa using hw) (by rw[YG,YG];exact hsz)) ⟨a,c,?_⟩
  rw[e];exact o hw
def aS(n d:Nat):Option Int->Nat
 |none=>d
 |some v=>if v<0 then(v+(n:Int)).toNat else min v.toNat n
theorem BY(n d:Nat):aS n d none=d:=rfl
theorem D5(n d k:Nat):aS n d (some (k:Int))=min k n:=by
 show(if(k:Int)<0 then((k:Int)+(n:Int)).toNat else min (k:Int).toNat n)=min k n;rw[if_neg 'c',Int.toNat_natCast]
theorem Gi(n d:Nat)(hd:d<=n)(o:Zp):aS n d o<=n:=by
 cases o with
 |none=>exact hd
 |some v=>
  show(if v<0 then(v+(n:Int)).toNat else min v.toNat n)<=n;by_cases hv:v<0
  ·rw[if_pos hv];omega
  ·rw[if_neg hv];exact Nat.min_le_right _ _
theorem xT(v:Int)(n d:Nat):(if v<0 then max (v+(n:Int)) 0 else min v (n:Int))=((aS n d (some v):Nat):Int):=by
 show(if v<0 then max (v+(n:Int)) 0 else min v (n:Int))=(((if v<0 then(v+(n:Int)).toNat else min v.toNat n):Nat):Int);by_cases hv:v<0
 ·simp only[if_pos hv];omega
 ·simp only[if_neg hv];omega
theorem ze(lo hi:Zp)(n:Nat):Builtin.Slice.sliceAdjust lo hi 1 (n:Int)=(((aS n 0 lo:Nat):Int),((aS n n hi:Nat):Int)):=by
 have h1:¬((1:Int)<0):=by omega
 unfold Builtin.Slice.sliceAdjust;simp only[h1,if_false];refine Prod.ext ?_ ?_
 ·cases lo with
  |none=>rfl
  |some v=>exact xT v n 0
 ·cases hi with
  |none=>rfl
  |some v=>exact xT v n n
theorem zf(i j:Nat):Builtin.Slice.slicePlaces (i:Int) (j:Int) 1=j-i:=by
 unfold Builtin.Slice.slicePlaces;have h1:(1:Int)>0:=by omega
 simp only[h1,if_true,Int.ediv_one];split<;>omega
theorem qQ{v:Value}{o:Zp}{Q:Option Int->Shared->Prop}(p:IsPart v o)(h:Q o s):wpAny 'f' A (Builtin.Slice.slicePartIndex v) Q E s:=by
 cases p with
 |none=>exact slicePart_none h
 |int i t=>exact slicePart_int h
theorem iP{sl:Addr}{a b:Value}{lo hi:Zp}{n:Nat}{Q:Int×Int×Nat->Shared->Prop}(f:s.heap.IsSliceOf sl a b .none)(pl:IsPart a lo)(g:IsPart b hi)
  (h:Q (((aS n 0 lo:Nat):Int),1,aS n n hi-aS n 0 lo) s):wpAny 'f' A (Builtin.Slice.sliceApplied (.ref sl) (pure (n:Int))) Q E s:=by
 obtain⟨os,c,j,d⟩:=id f;unfold Builtin.Slice.sliceApplied Builtin.Slice.sliceFields;refine Yb (Yb (wpAny_field c d (x:=a) rfl (Yb (wpAny_field c d (x:=b) rfl (Yb (wpAny_field c d (x:=.none) rfl (Yc ?_)))))));refine Yb (slicePart_none ?_);show wpAny _ _ (if((1:Int)==0)=true then _ else _) _ _ s;rw[if_neg 'a'];refine Yb (qQ pl (Yb (qQ g (Yb (Yc ?_)))));show wpAny _ _ (match Builtin.Slice.sliceAdjust lo hi 1 (n:Int) with | (lo,hi)=>pure (lo,(1:Int),Builtin.Slice.slicePlaces lo hi 1)) _ _ s;rw[ze lo hi n];show wpAny _ _ (pure (((aS n 0 lo:Nat):Int),(1:Int),Builtin.Slice.slicePlaces ((aS n 0 lo:Nat):Int) ((aS n n hi:Nat):Int) 1)) _ _ s;rw[zf];exact Yc h
theorem BZ(xs:Zl)(i k:Nat):((List.range k).filterMap λ(m:Nat)=>xs[((i:Int)+(m:Int)*1).toNat]?).toArray=((xs.toList.drop i).take k).toArray:=by
 have e:(λ(m:Nat)=>xs[((i:Int)+(m:Int)*1).toNat]?)=λm=>xs[i+m]?:=by
  funext m;have:((i:Int)+(m:Int)*1).toNat=i+m:=by omega
  rw[this]
 rw[e]
 have:=pick_run xs i k
 rw[List.filterMap_map] at this;have e2:((λx=>xs[x]?)∘λx=>i+x)=λm=>xs[i+m]?:=rfl
 rw[e2] at this;rw[this]
theorem oP{t sl:Addr}{a:Zl}{c d:Value}{lo hi:Zp}{Q:Zb}(ht:IsTup s.heap t a)(f:s.heap.IsSliceOf sl c d .none)(pl:IsPart c lo)(g:IsPart d hi)
  (hw:¬(aS a.size 0 lo=0/\aS a.size a.size hi=a.size))
  (h:Q (.ref s.heap.objs.size) { s with heap:=s.heap.push { cls:=.type "tuple",data:=.seq ((a.toList.drop (aS a.size 0 lo)).take (aS a.size a.size hi-aS a.size 0 lo)).toArray } })
  (hsz:a.size<=sizeLine):wpAny 'f' A (getItem (.ref t) (.ref sl)) Q E s:=by
 have b:sizeOk (.seq ((a.toList.drop (aS a.size 0 lo)).take (aS a.size a.size hi-aS a.size 0 lo)).toArray):=by
  show((a.toList.drop (aS a.size 0 lo)).take (aS a.size a.size hi-aS a.size 0 lo)).toArray.size<=sizeLine;rw[YG,YQ,List.length_drop,YC];omega
 have p:aS a.size a.size hi<=a.size:=Gi _ _ (YE _) hi;obtain⟨os,j,l,r⟩:=id f;have n:s.TypeIs (.ref sl) "slice":=⟨os,j,l⟩;unfold getItem;try with_reducible refine Yj ?_
 first | refine Yb (Yc ?_) | skip
 refine Yb (wpAny_sequenceKey ht.typeIs 'a' ?_);refine Yb (wpAny_callSpecial?_slot (name:=Str.ofString "__getitem__") ht.typeIs PyProof.Rows.slot_tuple_getitem
  (wpAny_call_entry PyProof.Rows.slot_tuple_getitem ht.typeIs entry_tuple_getitem ?_ (args_tuple_getitem _ _)))
 show wpAny _ _ (Builtin.Tuple.tupleItemsOf (.ref t) >>= _) _ _ s;refine Yb (tupleItemsOf_ ht ?_);refine Yb (wpAny_typeOf n ?_);rw[if_pos 'a'];refine Yb (iP f pl g ?_);have o:¬((((aS a.size 0 lo:Nat):Int)==0&&(1:Int)==1&&(aS a.size a.size hi-aS a.size 0 lo)==a.size)=true):=by
  intro q;rw[YU,YU] at q;have q1:((aS a.size 0 lo:Nat):Int)=0:=eq_of_beq q.1.1;have u:aS a.size a.size hi-aS a.size 0 lo=a.size:=eq_of_beq q.2;exact hw ⟨by omega,by omega⟩
 show wpAny _ _ (if(((aS a.size 0 lo:Nat):Int)==0&&(1:Int)==1&&(aS a.size a.size hi-aS a.size 0 lo)==a.size)=true then _ else _) _ _ s;rw[if_neg o,BZ];first
  |exact Yb (m:=Builtin.Tuple.tupleExact _) (wpAny_newObj_type (Yc ⟨_,rfl,Yc h⟩) b)
  |exact Yb (m:=Builtin.Tuple.tupleExact _) (wpAny_newObj_type (Yb (Yc (Yc ⟨_,rfl,Yc h⟩))) b)
  |exact Yb (Yb (m:=Builtin.Tuple.tupleExact _) (wpAny_newObj_type (Yc (Yc ⟨_,rfl,Yc h⟩)) b))
  |exact Yb (Yb (m:=Builtin.Tuple.tupleExact _) (wpAny_newObj_type (Yc ⟨_,rfl,Yc h⟩) b))
end
end HT
namespace L2
open PySem PySem.Spec PyProof.Rows
abbrev TO:=St->Hp->(Option Int->Hp->Prop)->Prop
def PO(X:Cx)(e:Option Expr)(t:TO):Prop:=
 ∀(a_:Zc) (s:Shared) (σ:St) (H:Hp) (Q:Option Int->Hp->Prop),ac X a_ σ H s->t σ H Q ->
  wpAny 'b' X.A (evalPart e X.env) (λu a=>∃o H',ac X a_ σ H' a/\IsPart u o/\Q o H') X.xe s
def D6:TO:=λ_ H Q=>Q none H
def HP(t:TE):TO:=λσ H Q=>t σ H λx a=>∃i,x=.int i/\Q (some i) a
theorem intsAre_of{ns:Zi}:∀{us:Zd},am (ns.map V.int) us->IntsAre us ns:=by
 induction ns with
 |nil=>intro us r;rw[List.map_nil] at r;cases r;exact .nil
 |cons n ns a=>
  intro us r;rw[YK] at r;cases r with
  |cons b c=>
   obtain⟨t,e⟩:=b;subst e;exact .cons n t (a c)
section
variable {X:Cx}{e:Expr}{te:TE}{lo hi:Option Expr}{tl th:TO}{pos p2:Pos}
theorem D7:PO X none D6:=by
 intro a_ s σ H Q I h;rw[evalPart_none];exact Yc ⟨none,H,I,.none,h⟩
theorem D8(h:PE X e te):PO X (some e) (HP te):=by
 intro a_ s σ H Q I hw;rw[evalPart_some];refine aE (h a_ s σ H _ I hw) λu s1 a=>?_
 obtain⟨x,b,c,d,q1⟩:=a;obtain⟨i,rfl,q⟩:=q1;obtain⟨t,rfl⟩:=d;exact⟨some i,b,c,.int i t,q⟩
def vm(X:Cx)(r:V->Option Int->Option Int->Hp->VK->Prop):Prop:=
 ∀(a_:Zc) (s:Shared) (σ:St) (H:Hp) (x:V) (v a b:Value) (lo hi:Zp) (sl:Addr) (Q:VK),ac X a_ σ H s->RelV x v->s.heap.IsSliceOf sl a b .none->IsPart a lo->IsPart b hi->r x lo hi H Q ->
  ∃T id,typeLookup (.type T) "__getitem__" = pure (some (.builtin id))/\s.TypeIs v T/\wpAny 'b' X.A (getItem v (.ref sl)) (EP X a_ σ Q) X.xe s
def Jw(r:V->Option Int->Option Int->Hp->VK->Prop)(te:TE)(tl th:TO):TE:=λσ H Q=>te σ H λx a=>tl σ a λl b=>th σ b λu c=>r x l u c Q
theorem B0{r:V->Option Int->Option Int->Hp->VK->Prop}(g:vm X r)(j:PE X e te)(hl:PO X lo tl)(hu:PO X hi th):PE X (.Subscript e (.Slice lo hi none p2) pos) (Jw r te tl th):=by
 intro a_ s σ H Q I h;refine Subscript_ (aE (j a_ s σ H _ I h) λv s1 m=>?_);obtain⟨x,n,o,p,q1⟩:=m;refine wpAny_Slice (aE (hl a_ s1 σ n _ o q1) λc s2 t=>?_);obtain⟨l,y,z,pl,B⟩:=t;refine aE (hu a_ s2 σ y _ z B) λd a C=>?_
 obtain⟨u,f,E,F,G⟩:=C;rw[evalPart_none];refine Yc ?_;have J:ac X a_ σ f { a with heap:=a.heap.push { cls:=.type "slice",data:=.fields #[c,d,.none] } }:=E.kept (t':=a.toks) λb N q=>Yd _ q
 obtain⟨T,id,K,ht,L⟩:=g a_ { a with heap:=a.heap.push { cls:=.type "slice",data:=.fields #[c,d,.none] } } σ f x v c d l u a.heap.objs.size Q J p (Heap.IsSliceOf.new ..) pl F G;show wpAny 'b' X.A (subscriptTail e (.Slice lo hi none p2) v (.ref a.heap.objs.size)) (EP X a_ σ Q) X.xe { a with heap:=a.heap.push { cls:=.type "slice",data:=.fields #[c,d,.none] } };exact tail_any (ops:=[.ref a.heap.objs.size,v]) ht K L (by with_unfolding_all rfl)
def j6(xs:List V)(lo hi:Zp):List V:=(xs.drop (HT.aS xs.length 0 lo)).take (HT.aS xs.length xs.length hi-HT.aS xs.length 0 lo)
theorem oX(xs:List V)(lo hi:Zp):(j6 xs lo hi).length<=xs.length:=by
 unfold j6;rw[YQ,List.length_drop];omega
def IU(K:Za):V->Option Int->Option Int->Hp->VK->Prop:=λx lo hi H Q=>∃a xs,x=.ref a/\bG K H a xs /\
 ¬(HT.aS xs.length 0 lo=0/\HT.aS xs.length xs.length hi=xs.length)/\∀p,H p=none->Q (.ref p) (aM H p (.tup (j6 xs lo hi)))
theorem Gj:vm X (IU X.K):=by
 intro a_ s σ H x v j l lo hi sl Q I d f pl g h;obtain⟨a,xs,rfl,hx,hw,q⟩:=h;cases d;obtain⟨b_,r,ht,hz⟩:=I.tuple hx;have c:b_.toArray.size=xs.length:=by rw[YG];exact r.length.symm
 refine⟨"tuple",_,PyProof.Rows.slot_tuple_getitem.lookup,ht.typeIs,?_⟩;refine HT.oP ht f pl g (by rw[c];exact hw) ?_ (by rw[c];exact hz);rw[c];refine⟨.ref s.heap.objs.size,_,I.laid (t':=s.toks) (o:=.tup (j6 xs lo hi)) (λb m q=>Yd _ q) (YE _) ?_,rfl,q _ (I.hok.fresh (YE _))⟩;exact⟨ZU (oX xs lo hi) hz,_,(r.drop (HT.aS xs.length 0 lo)).take (HT.aS xs.length xs.length hi-HT.aS xs.length 0 lo),IsTup.new _ _⟩
def HQ(K:Za):R2:=λx y H Q=>∃a b xs ys,x=.ref a/\y=.ref b/\bG K H a xs/\bG K H b ys/\xs≠[]/\xs.length+ys.length<=sizeLine /\
 (ys=[]->Q (.ref a) H)/\(ys≠[]->∀p,H p=none->Q (.ref p) (aM H p (.tup (xs++ys))))
theorem am.nil_iff{xs:List V}{us:Zd}(r:am xs us):us=[]↔xs=[]:=by
 cases r with
 |nil=>simp
 |cons _ _=>simp
theorem D9:ck X (binaryOp .Add) (HQ X.K):=by
 intro a_ s σ H x y v u Q I f g h;obtain⟨a,b,xs,ys,rfl,rfl,ha,hb,hx,hz,q1,j⟩:=h;cases f;cases g;obtain⟨b_,d,l,_⟩:=I.tuple ha;obtain⟨m,c,p2,_⟩:=I.tuple hb;refine HT.D4 l p2 (λz=>hx (d.nil_iff.mp z)) (λz=>⟨.ref a,H,I,rfl,q1 (c.nil_iff.mp z)⟩) (λz=>?_) (by rw[←d.length,←c.length];exact hz);refine⟨.ref s.heap.objs.size,_,I.laid (t':=s.toks) (o:=.tup (xs++ys)) (λb n q=>Yd _ q) (YE _) ?_,rfl,j (λw=>z (c.nil_iff.mpr w)) _ (I.hok.fresh (YE _))⟩;exact⟨by rw[ZJ];exact hz,_,d.append c,IsTup.new _ _⟩
end
def iQ(n:Nat)(i:Int):Option Nat:=if 0<=i then(if i<n then some i.toNat else none) else if -(n:Int)<=i then some (i+n).toNat else none
def bv{a:Type}(xs:List a)(i:Int):Option a:=(iQ xs.length i).bind λj=>xs[j]?
theorem xU{n:Nat}{i:Int}{j:Nat}(h:iQ n i=some j):seqIndex? i n=some j/\j<n/\-(n:Int)<=i/\i<n:=by
 unfold iQ at h;by_cases a:0<=i
 ·rw[if_pos a] at h
  by_cases h1:i<n
  ·rw[if_pos h1] at h
   have e:i.toNat=j:=Yi h;exact⟨by rw[seqIndex_of a h1,e],by omega,by omega,h1⟩
  ·rw[if_neg h1] at h;cases h
 ·rw[if_neg a] at h
  by_cases h1:-(n:Int)<=i
  ·rw[if_pos h1] at h
   have e:(i+n).toNat=j:=Yi h;exact⟨by rw[seqIndex_neg 'c' h1,e],by omega,h1,by omega⟩
  ·rw[if_neg h1] at h;cases h
theorem sY{a:Type}{xs:List a}{i:Int}{v:a}(h:bv xs i=some v):∃j,seqIndex? i xs.length=some j/\xs[j]?=some v/\j<xs.length/\-(xs.length:Int)<=i/\i<xs.length:=by
 unfold bv at h;cases e:iQ xs.length i with
 |none=>rw[e] at h;cases h
 |some j=>
  rw[e] at h;obtain⟨h1,b,c,d⟩:=xU e;exact⟨j,h1,h,b,c,d⟩
theorem cY{a:Type}{xs:List a}{j:Nat}{v:a}(h:xs[j]?=some v):bv xs (j:Int)=some v:=by
 have b:j<xs.length:=(YB.mp h).1;have e:iQ xs.length (j:Int)=some j:=by
  unfold iQ;rw[if_pos 'c',if_pos 'c'];simp
 unfold bv;rw[e];exact h
def xV(b:Expr):Prop:=∀o i,subscripted b false o i=operate [o,i] (getItem o i)
def vn(X:Cx)(r:R2):Prop:=
 ∀(b a:Expr) (a_:Zc) (s:Shared) (σ:St) (H:Hp) (x y:V) (v u:Value) (Q:VK),ac X a_ σ H s->RelV x v->RelV y u->r x y H Q ->
  subscripted a false v u=operate [v,u] (getItem v u)->wpAny 'b' X.A (subscriptTail b a v u) (EP X a_ σ Q) X.xe s
def Ai(X:Cx)(id:String)(r:V->List V->Hp->VK->Prop):Prop:=
 ∀(a_:Zc) (s:Shared) (σ:St) (H:Hp) (x:V) (xs:List V) (v:Value) (us:Zd) (Q:VK),ac X a_ σ H s->RelV x v->am xs us->r x xs H Q ->
  wpAny 'b' X.A (call (.builtin id) (v::us)) (EP X a_ σ Q) X.xe s
section
variable {X:Cx}{a b:Expr}{ta tb:TE}{pos:Pos}
theorem HR{r:R2}(c:vn X r)(ha:PE X a ta)(hb:PE X b tb)(d:xV b):PE X (.Subscript a b pos) (Dj r ta tb):=by
 intro a_ s σ H Q I h;exact Subscript_ (BP ha hb I h λv u s2 x y f g j l q=>c a b a_ s2 σ f x y v u Q g j l q (d _ _))
def IV(K:Za):R2:=λx y H Q=>∃p xs i v,x=.ref p/\y=.int i/\bw K H p xs/\bv xs i=some v/\Q v H
def IW(K:Za):R2:=λx y H Q=>∃p xs i v,x=.ref p/\y=.int i/\bG K H p xs/\bv xs i=some v/\Q v H
def IX:R2:=λx y H Q=>∃z i c,x=.str z/\y=.int i/\z.length<=sizeLine/\bv z.cps.toList i=some c/\Q (.str ⟨#[c]⟩) H
theorem xX:vn X (IV X.K):=by
 intro c d a_ s σ H x y v u Q I n o h g;obtain⟨p,xs,i,z,rfl,rfl,hq,A,q⟩:=h;cases n;obtain⟨t,rfl⟩:=o;obtain⟨b_,r,pl,hz⟩:=I.list hq;obtain⟨j,h1,B,J,C,E⟩:=sY A;obtain⟨w,l,F⟩:=r.get B;have hl:=r.length;have hn:=iO;have fin:EP X a_ σ Q w s:=⟨z,H,I,F,q⟩;by_cases m:0<=i
 ·have f:i.toNat=j:=by
   rw[seqIndex_of m E] at h1;exact Yi h1
  exact item_listR pl.isList m 'c' (by rw[f];simpa using l) fin g
 ·have f:(i+(b_.toArray.size:Int)).toNat=j:=by
   rw[seqIndex_neg 'c' C] at h1;rw[YG,←hl];exact Yi h1
  exact subscriptTail_builtinR (x:=w) pl.isList.typeIs slot_list_getitem.lookup
   (wpAny_getItem_list_neg (Q:=λr G=>r=w/\EP X a_ σ Q r G) pl.isList 'c' (by rw[YG]<;>omega) 'c' (by rw[f];simpa using l) ⟨rfl,fin⟩) g
theorem Gk:vn X (IW X.K):=by
 intro c d a_ s σ H x y v u Q I f g h l;obtain⟨p,xs,i,z,rfl,rfl,hq,m,q⟩:=h;cases f;obtain⟨t,rfl⟩:=g;obtain⟨b_,r,pl,hz⟩:=I.tuple hq;obtain⟨j,h1,n,C,E,F⟩:=sY m;obtain⟨w,o,A⟩:=r.get n;have hl:=r.length;have hn:=iO;have fin:EP X a_ σ Q w s:=⟨z,H,I,A,q⟩;exact subscriptTail_builtinR (x:=w) pl.typeIs slot_tuple_getitem.lookup
  (getItem_tuple (j:=j) (Q:=λr B=>r=w/\EP X a_ σ Q r B) pl 'c' 'c' (by rw[YG,←hl];exact h1) (by simpa using o) ⟨rfl,fin⟩) l
theorem Gm:vn X IX:=by
 intro d f a_ s σ H x y v u Q I g l h m;obtain⟨z,i,c,rfl,rfl,hz,n,q⟩:=h;obtain⟨t,rfl⟩:=g;obtain⟨t',rfl⟩:=l;obtain⟨j,h1,o,A,p,r⟩:=sY n;have hl:z.cps.toList.length=z.length:=by simp[Str.length]
 rw[hl] at h1 p r;have hn:=iO;exact tail_any (typeIs_str s z t) slot_str_getitem.lookup (getItem_str (c:=c) (by
  have e1:decide (i < -(2 ^ 63:Int))=false:=ZO 'c';have e2:decide (i>=2 ^ 63)=false:=ZO 'c';rw[e1,e2,Bool.or_false]) (by rw[h1];simpa using o) ⟨.str ⟨#[c]⟩,H,I.tok _,⟨_,rfl⟩,q⟩) m
theorem zg(b_:Zd)(n j:Nat)(u:Value):Obj.mapSeq (·.setIfInBounds j u) { cls:=.type "list",data:=.seq b_.toArray n }={ cls:=.type "list",data:=.seq (b_.set j u).toArray n }:=by
 simp[Obj.mapSeq]
theorem ac.lst{a_:Zc}{σ:St}{H:Hp}{s:Shared}{p:Addr}{xs:List V}(I:ac X a_ σ H s)(h:H p=some (.lst xs)):
  ∃(b_:Zd) (n:Nat),am xs b_/\s.heap.get? p=some { cls:=.type "list",data:=.seq b_.toArray n }/\xs.length<=sizeLine:=by
 obtain⟨z,b_,n,r,e⟩:=I.hok p _ h;exact⟨b_,n,r,e,z⟩
theorem ac.lstUpd{a_:Zc}{σ:St}{H:Hp}{s:Shared}{p:Addr}{xs ys:List V}{b_ g_:Zd}{n n':Nat}{f:Obj->Obj}(I:ac X a_ σ H s)(h:H p=some (.lst xs))
  (d:s.heap.get? p=some { cls:=.type "list",data:=.seq b_.toArray n }) (c:f { cls:=.type "list",data:=.seq b_.toArray n }={ cls:=.type "list",data:=.seq g_.toArray n' }) (r:am ys g_) (hz:ys.length<=sizeLine) (t:Nat):
  ac X a_ σ (aM H p (.lst ys)) { s with heap:=s.heap.update p f,toks:=t }:=by
 have e:(s.heap.update p f).get? p=some { cls:=.type "list",data:=.seq g_.toArray n' }:=by
  rw[Heap.get?_update_self f d (by rw[c]<;>rfl),c]
 refine I.write (x:=p) (e:=p) (by rw[h];trivial) (.inl rfl) (λb u hb q=>(Heap.get?_update_other _ _ (Ne.symm hb)).trans q) ⟨_,e⟩ ?_;exact⟨hz,g_,n',r,e⟩
def HS:V->V->V->Hp->(Hp->Prop)->Prop:=λo i v H Q=>∃p xs k j,o=.ref p/\i=.int k/\H p=some (.lst xs)/\iQ xs.length k=some j/\Q (aM H p (.lst (xs.set j v)))
theorem set_list:BN X HS:=by
 intro a_ s σ H o i v B C u Q I m y z h;obtain⟨p,xs,k,j,rfl,rfl,hp,A,q⟩:=h;cases m;obtain⟨t,rfl⟩:=y;obtain⟨b_,n,r,c,hz⟩:=I.lst hp;obtain⟨h1,E,d,f⟩:=xU A;have hl:=r.length;have hn:=iO;have g:ac X a_ σ (aM H p (.lst (xs.set j v))) { s with heap:=s.heap.update p (Obj.mapSeq (·.setIfInBounds j u)) }:=
  I.lstUpd hp c (zg b_ n j u) (r.set z j) (by rw[List.length_set];exact hz) s.toks
 by_cases l:0<=k
 ·have hk:k.toNat=j:=by
   rw[seqIndex_of l f] at h1;exact Yi h1
  exact PySem.W.ki_setAt c l 'c' (by rw[YG,←hl];exact f) (by rw[hk];exact⟨_,g,q⟩)
 ·have hk:(k+(b_.toArray.size:Int)).toNat=j:=by
   rw[seqIndex_neg 'c' d] at h1;rw[YG,←hl];exact Yi h1
  exact PySem.W.ki_setBack c 'c' (by rw[YG,←hl];exact d) 'c' (by rw[hk];exact⟨_,g,q⟩)
theorem vo(lo hi:Zp)(n:Nat):(sliceBounds lo hi none n).1=((HT.aS n 0 lo:Nat):Int)/\(sliceBounds lo hi none n).2.1=((HT.aS n n hi:Nat):Int)/\(sliceBounds lo hi none n).2.2=1:=by
 refine⟨?_,?_,rfl⟩
 ·cases lo with
  |none=>simp[sliceBounds,HT.aS]
  |some i=>
   simp only[sliceBounds,HT.aS,Option.getD_none,show(1:Int)>0 by decide,if_true];by_cases h:i<0
   ·simp only[h,if_true]<;>omega
   ·simp only[h,if_false]<;>omega
 ·cases hi with
  |none=>simp[sliceBounds,HT.aS]
  |some i=>
   simp only[sliceBounds,HT.aS,Option.getD_none,show(1:Int)>0 by decide,if_true];by_cases h:i<0
   ·simp only[h,if_true]<;>omega
   ·simp only[h,if_false]<;>omega
theorem uR(b_:Zd)(lo hi:Zp):slicePick b_.toArray lo hi none=((b_.drop (HT.aS b_.length 0 lo)).take (HT.aS b_.length b_.length hi-HT.aS b_.length 0 lo)).toArray:=by
 obtain⟨h1,c,d⟩:=vo lo hi b_.toArray.size;unfold slicePick;rw[h1,c,d];simp only[sliceRange_one,pick_run,YG]<;>rfl
def IY(K:Za):V->Option Int->Option Int->Hp->VK->Prop:=λx lo hi H Q=>∃a xs,x=.ref a/\bw K H a xs/\∀p,H p=none->Q (.ref p) (aM H p (.lst (j6 xs lo hi)))
theorem Ea:vm X (IY X.K):=by
 intro a_ s σ H x v j l lo hi sl Q I c d pl f h;obtain⟨a,xs,rfl,hx,q⟩:=h;cases c;obtain⟨b_,r,ht,hz⟩:=I.list hx;have g:=r.length;refine⟨"list",_,slot_list_getitem.lookup,ht.isList.typeIs,?_⟩;refine wpAny_getItem_list_slice ht.isList d pl f .none (by simp) ?_ (by rw[YG]<;>omega);rw[uR,←g];refine⟨.ref s.heap.objs.size,_,I.laid (t':=s.toks) (o:=.lst (j6 xs lo hi)) (λb m q=>Yd _ q) (YE _) ?_,rfl,q _ (I.hok.fresh (YE _))⟩;exact⟨ZU (oX xs lo hi) hz,_,0,(r.drop (HT.aS xs.length 0 lo)).take (HT.aS xs.length xs.length hi-HT.aS xs.length 0 lo),Yg _ rfl⟩
def zh:V->Bool
 |.non=>true
 |.bl _=>true
 |.int _=>true
 |.str _=>true
 |_=>false
def Il:V->V->Bool
 |.non,.non=>true
 |.bl a,.bl b=>a==b
 |.bl a,.int b=>(if a then 1 else 0)==b
 |.int a,.bl b=>a==(if b then 1 else 0)
 |.int a,.int b=>a==b
 |.str a,.str b=>a==b
 |_,_=>false
theorem Aj{A:Around}{s:Shared}{y x:V}{u v:Value}(d:RelV y u)(c:RelV x v)(g:zh y=true)(f:zh x=true):SeqAt.EqAt A s u v (Il y x):=by
 cases y with
 |non=>
  cases d;cases x with
  |non=>cases c;exact SeqAt.EqAt.same _
  |bl b=>cases c;exact SeqAt.EqAt.none_bool b
  |int b=>obtain⟨t,rfl⟩:=c;exact SeqAt.EqAt.none_int b t
  |str b=>obtain⟨t,rfl⟩:=c;exact SeqAt.EqAt.none_str b t
  |_=>exact absurd (show false=true from f) YH
 |bl a=>
  cases d;cases x with
  |non=>cases c;exact SeqAt.EqAt.bool_none a
  |bl b=>cases c;exact SeqAt.EqAt.bool_bool a b
  |int b=>obtain⟨t,rfl⟩:=c;exact SeqAt.EqAt.bool_int a b t
  |str b=>obtain⟨t,rfl⟩:=c;exact SeqAt.EqAt.bool_str a b t
  |_=>exact absurd (show false=true from f) YH
 |int a=>
  obtain⟨t',rfl⟩:=d;cases x with
  |non=>cases c;exact SeqAt.EqAt.int_none a t'
  |bl b=>cases c;exact SeqAt.EqAt.int_bool a t' b
  |int b=>obtain⟨t,rfl⟩:=c;exact SeqAt.EqAt.int_int a t' b t
  |str b=>obtain⟨t,rfl⟩:=c;exact SeqAt.EqAt.int_str a t' b t
  |_=>exact absurd (show false=true from f) YH
 |str a=>
  obtain⟨t',rfl⟩:=d;cases x with
  |non=>cases c;exact SeqAt.EqAt.str_none a t'
  |bl b=>cases c;exact SeqAt.EqAt.str_bool a t' b
  |int b=>obtain⟨t,rfl⟩:=c;exact SeqAt.EqAt.str_int a t' b t
  |str b=>obtain⟨t,rfl⟩:=c;exact SeqAt.EqAt.str_str a t' b t
  |_=>exact absurd (show false=true from f) YH
 |_=>exact absurd (show false=true from g) YH
theorem iR:cJ X (.builtin "len") (λxs H Q=>∃p ys,xs=[.ref p]/\(bw X.K H p ys\/bG X.K H p ys)/\Q (.int ys.length) H):=by
 intro a_ s σ H xs us Q I r h;obtain⟨p,ys,rfl,hq,q⟩:=h;obtain⟨u,rfl,f⟩:=vals1 r;cases f;have hn:=iO;rcases hq with hq | hq
 ·obtain⟨b_,c,pl,hz⟩:=I.list hq
  have d:=c.length;exact Calls.call_len_list pl.isList (by simp only[YG]<;>omega) ⟨.int ys.length,H,I.tok _,⟨s.toks+1,by rw[YG,d]⟩,q⟩
 ·obtain⟨b_,c,pl,hz⟩:=I.tuple hq
  have d:=c.length;exact len_tuple pl (by simp only[YG]<;>omega) ⟨.int ys.length,H,I.tok _,⟨s.toks+1,by rw[YG,d]⟩,q⟩
theorem vp:cJ X (.builtin "len") (λxs H Q=>∃z,xs=[.str z]/\z.length<=sizeLine/\Q (.int z.length) H):=by
 intro a_ s σ H xs us Q I r h;obtain⟨z,rfl,hz,q⟩:=h;obtain⟨u,rfl,t,rfl⟩:=vals1 r;have hn:=iO;exact len_str 'c' ⟨.int z.length,H,I.tok _,⟨_,rfl⟩,q⟩
theorem m8:cJ X (.type "list") (λxs H Q=>∃p ys,xs=[.ref p]/\(bw X.K H p ys\/bG X.K H p ys)/\∀l,H l=none->Q (.ref l) (aM H l (.lst ys))):=by
 intro a_ s σ H xs us Q I r h;obtain⟨p,ys,rfl,hq,q⟩:=h;obtain⟨u,rfl,f⟩:=vals1 r;cases f;have fin:∀(b_:Zd),am ys b_->ys.length<=sizeLine->∀(h':Heap) (c':Nat),(∀b o',s.heap.get? b=some o'->h'.get? b=some o') ->
   h'.get? s.heap.objs.size=some { cls:=.type "list",dict:=none,data:=.seq b_.toArray c',slots:=#[] }->EP X a_ σ Q (.ref s.heap.objs.size) { s with heap:=h' }:=λb_ c hz h' c' kp e=>
  ⟨.ref s.heap.objs.size,_,I.laid (t':=s.toks) kp (YE _) (show bg X.prog X.w _ h' _ (.lst ys) from⟨hz,b_,c',c,e⟩),rfl,q _ (I.hok.fresh (YE _))⟩
 rcases hq with hq | hq
 ·obtain⟨b_,c,pl,hz⟩:=I.list hq
  have g:=c.length;obtain⟨o,d,hc,n,hd⟩:=pl.isList;exact call_list_seq p (.inl rfl) d hc hd (λh' c' kp e=>fin b_ c hz h' c' kp e) (by simp only[YG]<;>omega)
 ·obtain⟨b_,c,pl,hz⟩:=I.tuple hq
  have g:=c.length;obtain⟨o,d,hc,n,hd⟩:=pl;exact call_list_seq p (.inr rfl) d hc hd (λh' c' kp e=>fin b_ c hz h' c' kp e) (by simp only[YG]<;>omega)
theorem mJ:cJ X (.type "tuple") (λxs H Q=>∃p ys,xs=[.ref p]/\((bw X.K H p ys/\∀l,H l=none->Q (.ref l) (aM H l (.tup ys)))\/(bG X.K H p ys/\Q (.ref p) H))):=by
 intro a_ s σ H xs us Q I r h;obtain⟨p,ys,rfl,h⟩:=h;obtain⟨u,rfl,f⟩:=vals1 r;cases f;rcases h with⟨hq,q⟩ | ⟨hq,q⟩
 ·obtain⟨b_,c,pl,hz⟩:=I.list hq
  have j:=c.length;refine call_tuple_list pl.isList (λh' kp=>?_) (by simp only[YG]<;>omega);have d:ac X a_ σ H { s with heap:=h' }:=I.kept (t':=s.toks) kp;have g:ac X a_ σ (aM H h'.objs.size (.tup ys)) { s with heap:=h'.push { cls:=.type "tuple",data:=.seq b_.toArray } }:=
   d.laid (t':=s.toks) (λb o e=>Yd _ e) (YE _) (show bg X.prog X.w _ _ _ (.tup ys) from⟨hz,b_,c,IsTup.new _ _⟩)
  exact⟨.ref h'.objs.size,_,g,rfl,q _ (d.hok.fresh (YE _))⟩
 ·obtain⟨b_,c,pl,hz⟩:=I.tuple hq
  exact call_tuple_same pl ⟨.ref p,H,I,rfl,q⟩
def Gn(K:Za)(T:String)(x:V)(H:Hp):Prop:=match x with
 |.str _=>T = "str"
 |.int _=>T = "int"
 |.ref p=>(T = "list"/\∃xs,bw K H p xs)\/(T = "tuple"/\∃o,K.lookup p=some o/\o.cls=.type "tuple"/\o.dict=none) \/
   (T = "dict"/\((∃c,H p=some (.dK c)) \/ ∃c,H p=some (.dT c)))\/(T = "set"/\∃S n,H p=some (.set S n))
 |_=>False
theorem Go{a_:Zc}{σ:St}{H:Hp}{s:Shared}{T:String}{x:V}{v:Value}(I:ac X a_ σ H s)(r:RelV x v)(ty:Gn X.K T x H):
  s.TypeIs v T/\∀a,v=.ref a->∃d,s.heap.get? a=some d/\d.dict=none:=by
 cases x with
 |str z=>
  obtain⟨t,rfl⟩:=r;cases(show T = "str" from ty);exact⟨typeIs_str s z t,λ_ e=>nomatch e⟩
 |int i=>
  obtain⟨t,rfl⟩:=r;cases(show T = "int" from ty);exact⟨typeIs_int s i t,λ_ e=>nomatch e⟩
 |ref p=>
  cases r;rcases ty with⟨rfl,xs,hq⟩ | ⟨rfl,o,hk,hc,hd⟩ | ⟨rfl,hk⟩ | ⟨rfl,S,n,hk⟩
  ·obtain⟨b_,_,pl,_⟩:=I.list hq
   refine⟨pl.isList.typeIs,λa e=>?_⟩;cases e;obtain⟨o,n,e,c,hd,_⟩:=pl;exact⟨o,e,hd⟩
  ·refine⟨⟨o,I.kIn p o hk,hc⟩,λa e=>?_⟩
   cases e;exact⟨o,I.kIn _ o hk,hd⟩
  ·have z:∃o,s.heap.get? p=some o/\o.ExactDict:=by
    rcases hk with⟨f,hk⟩ | ⟨f,hk⟩
    ·obtain⟨_,_,_,_,o,_,_,e,ex,_⟩:=I.hok p _ hk
     exact⟨o,e,ex⟩
    ·obtain⟨_,_,_,_,o,_,_,e,ex,_⟩:=I.hok p _ hk
     exact⟨o,e,ex⟩
   obtain⟨o,e,ex⟩:=z;refine⟨⟨o,e,ex.1⟩,λa e2=>?_⟩;cases e2;exact⟨o,e,ex.2.1⟩
  ·obtain⟨o,_,_,_,e,ex,_⟩:=I.hok p _ hk
   refine⟨⟨o,e,ex.1⟩,λa e2=>?_⟩;cases e2;exact⟨o,e,ex.2.1⟩
 |_=>exact Yh ty
def Jx(K:Za)(T:String)(r:V->List V->Hp->VK->Prop)(d:TE)(t:TA):TE:=λσ H Q=>d σ H λx c=>Gn K T x c/\t σ c λxs f=>r x xs f Q
variable {o e:Expr}{es:Zg}{to:TE}{t:TA}{name:Str}{v_ s_:Pos}{T id:String}{r:V->List V->Hp->VK->Prop}
theorem HU(g:PlainAttrs T)(slot:Slot T name id)(j:typeOf (.builtin id)=pure (.type "method_descriptor"))(hm:Ai X id r)(l:PE X o to)(ha:PA X (e::es) t)
  (m:attributeBase o name X.env (eval o X.env)=eval o X.env:=by rfl)
  (n:((backTo s_ (starEach (e::es) X.env)).all (λx=>!x.1)&&(backToKw s_ (keywordEach [] X.env)).all (λx=>x.1.isSome)
   && decide ((e::es).length+([]:List Keyword).length+(if([]:List Keyword).isEmpty then 0 else 1)<30))=true:=by rfl)
  (p:(v_.endLine==s_.line)=true:=by rfl) (q:starEach (e::es) X.env=(false,eval e X.env)::starEach es X.env:=by rfl) (u:(backTo s_ (starEach es X.env)).any (·.1)=false:=by rfl):
  PE X (.Call (.Attribute o name v_) (e::es) [] s_) (Jx X.K T r to t):=by
 intro a_ s σ H Q I h;refine wpAny_Call_method_late m n p rfl (aE (l a_ s σ H _ I h) λv s1 y=>?_);obtain⟨x,z,c,d,ty,q1⟩:=y;obtain⟨h1,A⟩:=Go c d ty;refine⟨T,id,g,slot,j,h1,A,?_⟩;have f:=ha s_ a_ s1 σ z _ c q1;rw[q] at f ⊢;refine Calls.callWith_builtin (by show(false||(backTo s_ (starEach es X.env)).any (·.1))=false;rw[u]<;>rfl) (Calls.evalArgs_plain ?_);refine aE f λus s2 B=>?_
 obtain⟨vs,C,E,F,G⟩:=B;exact hm a_ s2 σ C x vs v us Q E d F G
end
def Im(X:Cx)(id:String)(r:V->List V->Hp->VK->Prop):Prop:=
 ∀(a_:Zc) (s:Shared) (σ:St) (H:Hp) (x:V) (xs:List V) (v:Value) (us:Zd) (Q:VK),ac X a_ σ H s->RelV x v->am xs us->r x xs H Q ->
  wpAny 'b' X.A (call (.builtin id) (v::us)) (EP X a_ σ Q) X.xe s
theorem am.one{x:V}{us:Zd}(h:am [x] us):∃u,us=[u]/\RelV x u:=by
 cases h with
 |cons r t=>cases t;exact⟨_,rfl,r⟩
theorem am.two{x y:V}{us:Zd}(h:am [x,y] us):∃u v,us=[u,v]/\RelV x u/\RelV y v:=by
 cases h with
 |cons r t=>
  obtain⟨v,rfl,q⟩:=am.one t;exact⟨_,v,rfl,r,q⟩
theorem am.zero:∀{us:Zd},am [] us->us=[]
 |_,.nil=>rfl
theorem am.dropLast{xs:List V}{us:Zd}(h:am xs us):am xs.dropLast us.dropLast:=by
 induction h with
 |nil=>exact .nil
 |cons r t a=>
  cases t with
  |nil=>exact .nil
  |cons q t'=>exact .cons r a
theorem am.eraseIdx:∀{xs:List V}{us:Zd}(i:Nat),am xs us->am (xs.eraseIdx i) (us.eraseIdx i)
 |_,_,_,.nil=>.nil
 |_,_,0,.cons _ t=>t
 |_,_,i+1,.cons r t=>.cons r (am.eraseIdx i t)
theorem am.rep{xs:List V}{us:Zd}(h:am xs us):∀k:Nat,am (List.replicate k xs).flatten (List.replicate k us).flatten
 |0=>.nil
 |k+1=>by
  rw[YV,YV,YW,YW];exact am.append h (am.rep h k)
theorem foldl_rep(b_:Zd):∀(k:Nat) (acc:Zd),
  List.foldl (λa b=>a++b) acc.toArray (List.replicate k b_.toArray)=(acc++(List.replicate k b_).flatten).toArray
 |0,acc=>by simp
 |k+1,acc=>by
  have e:acc.toArray++b_.toArray=(acc++b_).toArray:=by simp
  have e2:(acc++b_)++(List.replicate k b_).flatten=acc++(List.replicate (k+1) b_).flatten:=by
   rw[YV,YW,ZB]
  rw[←e2,←foldl_rep b_ k (acc++b_),←e,YV,List.foldl_cons]
section
variable {X:Cx}{a_:Zc}{σ:St}{H:Hp}{s:Shared}{l b:Addr}{xs ys zs:List V}
theorem ac.lset{b_ g_:Zd}{n:Nat}{f:Array Value->Array Value}{t':Nat}(I:ac X a_ σ H s)(a:H l=some (.lst xs))
  (e:s.heap.get? l=some { cls:=.type "list",data:=.seq b_.toArray n }) (c:f b_.toArray=g_.toArray) (hv:am ys g_) (hz:ys.length<=sizeLine):
  ac X a_ σ (aM H l (.lst ys)) { s with heap:=s.heap.update l (Obj.mapSeq f),toks:=t' }:=by
 have q:=PySem.IsL.update e f;rw[c] at q;refine I.write (x:=l) (e:=l) (by rw[a];exact trivial) (.inl rfl) (λb' u hb hu=>(Heap.get?_update_other s.heap (Obj.mapSeq f) (Ne.symm hb)).trans hu) ⟨_,q⟩ ?_;exact⟨hz,g_,_,hv,q⟩
theorem ac.lnew{b_:Zd}{t':Nat}(I:ac X a_ σ H s)(hv:am ys b_)(hz:ys.length<=sizeLine):
  ac X a_ σ (aM H s.heap.objs.size (.lst ys)) { s with heap:=s.heap.push { cls:=.type "list",data:=.seq b_.toArray },toks:=t' }:=
 I.laid (λ_ _ q=>Yd _ q) (YE _) ⟨hz,b_,0,hv,Yg _ rfl⟩
theorem ac.fresh(I:ac X a_ σ H s):H s.heap.objs.size=none:=I.hok.fresh (YE _)
theorem ac.lstM(I:ac X a_ σ H s)(a:H l=some (.lst xs)):xs.length<=sizeLine/\∃(b_:Zd) (n:Nat),am xs b_/\xs.length=b_.length/\s.heap.get? l=some { cls:=.type "list",data:=.seq b_.toArray n }:=by
 obtain⟨z,b_,n,r,e⟩:=I.hok l _ a;exact⟨z,b_,n,r,r.length,e⟩
theorem vq{n:Nat}(h:n<=sizeLine):Builtin.List.listTooLong n=false:=by
 unfold Builtin.List.listTooLong;exact ZO 'c'
end
section
variable {X:Cx}
def Eb:V->List V->Hp->VK->Prop:=λx vs H Q=>∃l xs y,x=.ref l/\vs=[y]/\H l=some (.lst xs)/\xs.length<sizeLine/\Q .non (aM H l (.lst (xs++[y])))
theorem Ak:Im X "list.append" Eb:=by
 intro a_ s σ H x vs v us Q I b c h;obtain⟨l,xs,y,rfl,rfl,a,hz,q⟩:=h;cases b;obtain⟨u,rfl,d⟩:=c.one;obtain⟨z,b_,n,r,hl,e⟩:=I.lstM a;refine call_meets F.slot_list_append ⟨_,e,rfl⟩ F.entry_list_append (F.args_list_append_2 _ _) (PySem.list_append l b_.toArray n u (by rw[YG];omega)) ⟨e,?_⟩;refine⟨.non,_,I.lset (g_:=b_++[u]) a e (by simp) (r.append (.cons d .nil)) ?_,rfl,q⟩;rw[ZJ,List.length_singleton];omega
def Ec:V->List V->Hp->VK->Prop:=λx vs H Q=>∃l b xs a,x=.ref l/\vs=[.ref b]/\H l=some (.lst xs)/\H b=some (.lst a)/\xs.length+a.length<=sizeLine/\Q .non (aM H l (.lst (xs++a)))
theorem Al:Im X "list.extend" Ec:=by
 intro a_ s σ H x vs v us Q I d f h;obtain⟨l,b,xs,t,rfl,rfl,c,g,hz,q⟩:=h;cases d;obtain⟨u,rfl,j⟩:=f.one;cases j;obtain⟨z,b_,n,r,hl,e⟩:=I.lstM c;obtain⟨y,a,m,o,A,e2⟩:=I.lstM g;have hsz:b_.toArray.size+a.toArray.size<=sizeLine:=by rw[YG,YG];omega
 have p:¬(!b_.toArray.isEmpty&&Builtin.List.listTooLong (b_.toArray.size+a.toArray.size))=true:=by
  rw[vq hsz,Bool.and_false];exact YH
 refine call_meets F.slot_list_extend ⟨_,e,rfl⟩ F.entry_list_extend (F.args_list_extend_2 _ _)
  (AutoSeq1.list_extend_list_list_0 l b_.toArray n b a.toArray m p (by rw[YG];omega) 'c') ⟨e,e2,?_⟩
 refine⟨.non,_,I.lset (g_:=b_++a) c e (by simp) (r.append o) ?_,rfl,q⟩;rw[ZJ];omega
def IZ:R2:=λx y H Q=>∃l b xs a,x=.ref l/\y=.ref b/\H l=some (.lst xs)/\H b=some (.lst a)/\xs.length+a.length<=sizeLine/\∀p,H p=none->Q (.ref p) (aM H p (.lst (xs++a)))
theorem Gp:ck X (binaryOp .Add) IZ:=by
 intro a_ s σ H x y v u Q I c d h;obtain⟨l,b,xs,o,rfl,rfl,f,g,hz,q⟩:=h;cases c;cases d;obtain⟨z,b_,n,r,hl,e⟩:=I.lstM f;obtain⟨p,a,t,j,A,e2⟩:=I.lstM g;refine PySem.P.add_list e e2 ?_ (by rw[YG,YG];omega);have m:b_.toArray++a.toArray=(b_++a).toArray:=by simp
 rw[m];exact⟨.ref _,_,I.lnew (t':=s.toks) (r.append j) (by rw[ZJ];omega),rfl,q _ I.fresh⟩
def Ja:R2:=λx y H Q=>∃l k xs,x=.ref l/\y=.int k/\H l=some (.lst xs)/\-(2 ^ 63)<=k/\k<2 ^ 63/\xs.length*k.toNat<=sizeLine /\
 ∀p,H p=none->Q (.ref p) (aM H p (.lst (List.replicate k.toNat xs).flatten))
theorem len_rep{a:Type}(xs:List a)(k:Nat):(List.replicate k xs).flatten.length=k*xs.length:=by
 induction k with
 |zero=>simp
 |succ k b=>rw[YV,YW,ZJ,b,Nat.succ_mul,Nat.add_comm]
theorem Gq:ck X (binaryOp .Mult) Ja:=by
 intro a_ s σ H x y v u Q I d f h;obtain⟨l,k,xs,rfl,rfl,g,h1,j,hz,q⟩:=h;cases d;obtain⟨t,rfl⟩:=f;obtain⟨z,b_,n,r,hl,e⟩:=I.lstM g;have o:b_.toArray.size*k.toNat<=sizeLine:=by rw[YG,←hl];exact hz
 have p:¬b_.toArray.size*k.toNat>(2 ^ 63-1) / 8:=by
  have:(sizeLine:Nat)<=(2 ^ 63-1) / 8:=by decide
  omega
 have A:¬(!Builtin.List.listFitsIndex k)=true:=by
  rw[fitsIndex_both h1 j];exact YH
 have B:¬Builtin.List.listTooLong (b_.toArray.size*k.toNat)=true:=by
  rw[vq o];exact YH
 have C:List.foldl (λb c=>b++c) #[] (List.replicate (if b_.toArray.isEmpty=true then 0 else k.toNat) b_.toArray)=(List.replicate k.toNat b_).flatten.toArray:=by
  have E:∀m:Nat,List.foldl (λb c=>b++c) #[] (List.replicate m b_.toArray)=(List.replicate m b_).flatten.toArray:=λm=>by
   have:=foldl_rep b_ m []
   rw[YX] at this;exact this
  rw[E];cases b_ with
  |nil=>simp
  |cons a J=>rw[if_neg (by simp)]
 refine wpAny_binaryOp_repeat_ref (T:="list") (U:="int") 'a' ⟨_,e,rfl⟩ (λG=>typeIs_int G k t) noFill_list_mul F.fills_int_mul F.slot_int_rmul repeat_list F.slot_int_index.lookup
  (call_meets F.slot_int_rmul (typeIs_int s k t) F.entry_int_rmul (F.args_int_rmul_2 _ _) (int___rmul___int_list k t l b_.toArray n)
   ⟨e,rfl,⟨_,e,rfl⟩,call_meets F.slot_list_mul ⟨_,e,rfl⟩ F.entry_list_mul (F.args_list_mul_2 _ _) (AutoListH.list___mul___list_int_3 l b_.toArray n k t A p B) ⟨e,?_⟩⟩)
 rw[C];exact⟨.ref _,_,I.lnew (t':=s.toks) (r.rep k.toNat) (by rw[len_rep,Nat.mul_comm];exact hz),rfl,q _ I.fresh⟩
end
section
variable {prog:Zt}{w:World}{A:Around}{E:Zb}{s:Shared}
end
section
variable {κ:Type}[DecidableEq κ]
def dS(a:List (κ×V))(k:κ):Option V:=(a.find? λb=>decide (b.1=k)).map (·.2)
def putK(b:List (κ×V))(k:κ)(v:V):List (κ×V):=
 if(b.any λa=>decide (a.1=k))=true then b.map (λa=>if a.1=k then(a.1,v) else a) else b++[(k,v)]
theorem pA{p:κ×V}{r:List (κ×V)}{k:κ}(e:p.1=k):dS (p::r) k=some p.2:=by simp[dS,YY,e]
theorem pB{p:κ×V}{r:List (κ×V)}{k:κ}(e:¬p.1=k):dS (p::r) k=dS r k:=by simp[dS,YY,e]
theorem vt(k:κ):∀a:List (κ×V),(a.any λb=>decide (b.1=k))=(dS a k).isSome
 |[]=>rfl
 |p::r=>by
  rw[YZ];by_cases e:p.1=k
  ·simp only[pA e,YT e,Bool.true_or,Option.isSome_some]
  ·rw[pB e,ZO e,Bool.false_or];exact vt k r
theorem j7(a:List (κ×V))(k:κ)(v:V):(putK a k v).length<=a.length+1:=by
 unfold putK;split
 ·rw[ZF];omega
 ·rw[ZJ,YI,YS];omega
theorem dQ.isSome_eq{o:Option V}{u:Zu}(r:dQ o u):o.isSome=u.isSome:=by
 cases o with
 |none=>cases u with
  |none=>rfl
  |some _=>exact(show False from r).elim
 |some _=>cases u with
  |none=>exact(show False from r).elim
  |some _=>rfl
theorem KV.val{c:List (κ×V)}{vs:List (κ×Value)}(r:KV c vs)(k:κ):dQ (dS c k) (valueAt vs k):=by
 unfold KV at r;induction r with
 |nil=>exact True.intro
 |@cons p q ps a h t d=>
  obtain⟨h1,f⟩:=h;by_cases e:p.1=k
  ·have e':q.1=k:=h1.symm.trans e
   have b:valueAt (q::a) k=some q.2:=by simp[valueAt,YY,e']
   rw[pA e,b];exact f
  ·have e':¬q.1=k:=λz=>e (h1.trans z)
   have b:valueAt (q::a) k=valueAt a k:=by simp[valueAt,YY,e']
   rw[pB e,b];exact d
theorem KV.any{b:List (κ×V)}{vs:List (κ×Value)}(r:KV b vs)(k:κ):(b.any λa=>decide (a.1=k))=vs.any λa=>decide (a.1=k):=by
 unfold KV at r;induction r with
 |nil=>rfl
 |cons h t c=>rw[YZ,YZ,c,h.1]
theorem KV.repl{b:List (κ×V)}{vs:List (κ×Value)}(r:KV b vs)(k:κ){y:V}{u:Value}(c:RelV y u):
  KV (b.map λa=>if a.1=k then(a.1,y) else a) (vs.map λa=>if a.1=k then(a.1,u) else a):=by
 unfold KV at r ⊢;induction r with
 |nil=>exact .nil
 |@cons p q ps g h t d=>
  rw[YK,YK];refine .cons ?_ d;obtain⟨h1,f⟩:=h;by_cases e:p.1=k
  ·rw[if_pos e,if_pos (h1.symm.trans e)];exact⟨h1,c⟩
  ·rw[if_neg e,if_neg (λz=>e (h1.trans z))];exact⟨h1,f⟩
theorem KV.put{a:List (κ×V)}{vs:List (κ×Value)}(r:KV a vs)(k:κ){y:V}{u:Value}(b:RelV y u):KV (putK a k y) (stored vs k u):=by
 unfold putK stored;rw[r.any k];by_cases e:(vs.any λc=>decide (c.1=k))=true
 ·rw[if_pos e,if_pos e];exact r.repl k b
 ·rw[if_neg e,if_neg e];exact Paired.snoc r ⟨rfl,b⟩
theorem KV.keys{a:List (κ×V)}{vs:List (κ×Value)}(r:KV a vs):a.map (·.1)=vs.map (·.1):=by
 unfold KV at r;induction r with
 |nil=>rfl
 |cons h t b=>rw[YK,YK,b,h.1]
theorem KV.length{a:List (κ×V)}{vs:List (κ×Value)}(r:KV a vs):a.length=vs.length:=Paired.length r
end
theorem n8{P:Zt}{w:World}{k:Key}{u:Value}(r:RelV (kV k) u):(bA P w).is k u=true:=by
 cases k with
 |inl i=>obtain⟨t,e⟩:=(show ∃t,u=Value.int i t from r);subst e;exact xF P w i t
 |inr x=>obtain⟨t,e⟩:=(show ∃t,u=Value.str x t from r);subst e;exact xG P w x t
theorem t5{P:Zt}{w:World}:∀{ks:List Key}{us:Zd},am (ks.map kV) us->ItemsAre (bA P w) ks us
 |[],_,r=>by rw[List.map_nil] at r;cases r;exact .nil
 |k::ks,_,r=>by
  rw[YK] at r;cases r with
  |cons h t=>exact .cons (n8 h) (t5 t)
abbrev KT(H:Hp):List (List Key×V)->List (List Key×Addr×Value)->Prop:=Paired λp q=>p.1=q.1/\H q.2.1=some (.tup (p.1.map kV))/\RelV p.2 q.2.2
theorem KT.val{H:Hp}{c:List (List Key×V)}{xs:List (List Key×Addr×Value)}(r:KT H c xs)(k:List Key):dQ (dS c k) ((atKey xs k).map (·.2)):=by
 induction r with
 |nil=>exact True.intro
 |@cons p q ps a h t d=>
  obtain⟨h1,_,f⟩:=h;by_cases e:p.1=k
  ·have e':q.1=k:=h1.symm.trans e
   have b:atKey (q::a) k=some q.2:=by simp[atKey,YY,e']
   rw[pA e,b];exact f
  ·have e':¬q.1=k:=λz=>e (h1.trans z)
   have b:atKey (q::a) k=atKey a k:=by simp[atKey,YY,e']
   rw[pB e,b];exact d
theorem KT.repl{H:Hp}{b:List (List Key×V)}{xs:List (List Key×Addr×Value)}(r:KT H b xs)(k:List Key){y:V}{u:Value}(d:RelV y u):
  KT H (b.map λa=>if a.1=k then(a.1,y) else a) (xs.map (putAt k u)):=by
 induction r with
 |nil=>exact .nil
 |@cons p q ps j h t f=>
  rw[YK,YK];refine .cons ?_ f;obtain⟨h1,c,g⟩:=h;unfold putAt;by_cases e:p.1=k
  ·rw[if_pos e,if_pos (h1.symm.trans e)];exact⟨h1,c,d⟩
  ·rw[if_neg e,if_neg (λz=>e (h1.trans z))];exact⟨h1,c,g⟩
theorem KT.put{H:Hp}{a:List (List Key×V)}{xs:List (List Key×Addr×Value)}(r:KT H a xs)(k:List Key){b:Addr}{y:V}{u:Value}(hb:H b=some (.tup (k.map kV)))(c:RelV y u):
  KT H (putK a k y) (storedH xs k b u):=by
 have e:(a.any λd=>decide (d.1=k))=(atKey xs k).isSome:=by
  rw[vt,(r.val k).isSome_eq,Option.isSome_map]
 unfold putK storedH;rw[e];by_cases q:(atKey xs k).isSome=true
 ·rw[if_pos q,if_pos q];exact r.repl k c
 ·rw[if_neg q,if_neg q];exact Paired.snoc r ⟨rfl,hb,c⟩
theorem KT.keeps{H H':Hp}{a:List (List Key×V)}{xs:List (List Key×Addr×Value)}(r:KT H a xs)(ht:∀b ys,H b=some (.tup ys)->H' b=some (.tup ys)):KT H' a xs:=
 Paired.mapP r λ_ _ z=>⟨z.1,ht _ _ z.2.1,z.2.2⟩
section
variable {P:Zt}{w:World}{H:Hp}{h:Heap}{a:Addr}
theorem Dl{u:HO}(ok:ci P w H h)(e:Rd H a u):bg P w H h a u:=e.ok ok
theorem lI{b:List (Key×V)}(ok:ci P w H h)(e:Rd H a (.dK b)):b.length<=sizeLine/\(a==sysModules)=false/\∃vs,KV b vs/\h.DictOf (bA P w) a vs:=
 show bg P w H h a (.dK b) from Dl ok e
theorem zi{b:List (Key×V)}(ok:ci P w H h)(e:H a=some (.dK b)):b.length<=sizeLine/\(a==sysModules)=false/\∃vs,KV b vs/\h.DictOf (bA P w) a vs:=lI ok (.inl e)
theorem m9{ks:List Key}(ok:ci P w H h)(e:H a=some (.tup (ks.map kV))):(tupleKind (bA P w)).is h ks a:=by
 obtain⟨_,b_,r,o,h1,b,n,c⟩:=(show bg P w H h a (.tup (ks.map kV)) from ok a _ e);exact⟨o,b_.toArray,n,h1,b,c,by simpa using t5 r⟩
theorem qR{b:List (List Key×V)}(ok:ci P w H h)(e:Rd H a (.dT b)):b.length<=sizeLine/\(a==sysModules)=false /\
  ∃xs,KT H b xs/\h.DictOfH (tupleKind (bA P w)) a xs:=by
 obtain⟨z,y,xs,r,o,es,c,h1,d,f,g,j⟩:=(show bg P w H h a (.dT b) from Dl ok e);refine⟨z,y,xs,r,o,es,c,h1,d,f,g,λx hx=>?_,j⟩;have all:∀{l:List (List Key×V)}{m:List (List Key×Addr×Value)},KT H l m->∀x∈m,(tupleKind (bA P w)).is h x.1 x.2.1:=by
  intro l m q;induction q with
  |nil=>intro x hx;exact nomatch hx
  |@cons p q ps u hq t n=>
   intro x hx;rcases ZY.mp hx with e | hx
   ·subst e
    exact m9 ok (by rw[←hq.1];exact hq.2.1)
   ·exact n x hx
 exact all r x hx
theorem HV{b:List (List Key×V)}(ok:ci P w H h)(e:H a=some (.dT b)):b.length<=sizeLine/\(a==sysModules)=false /\
  ∃xs,KT H b xs/\h.DictOfH (tupleKind (bA P w)) a xs:=qR ok (.inl e)
end
def j8(H:Hp)(a:Addr)(y:V)(r:Option V):Prop:=
 (∃c k,Rd H a (.dK c)/\y=kV k/\r=dS c k) \/ ∃c k b,Rd H a (.dT c)/\y=.ref b/\H b=some (.tup (k.map kV))/\r=dS c k
def Jb(H:Hp)(a:Addr)(y v:V)(H':Hp):Prop:=
 (∃c k,H a=some (.dK c)/\y=kV k/\c.length<sizeLine/\H'=aM H a (.dK (putK c k v))) \/
 ∃c k b,H a=some (.dT c)/\y=.ref b/\H b=some (.tup (k.map kV))/\c.length<sizeLine/\H'=aM H a (.dT (putK c k v))
theorem j8.k{H:Hp}{a:Addr}{b:List (Key×V)}{k:Key}(e:H a=some (.dK b)):j8 H a (kV k) (dS b k):=.inl ⟨b,k,.inl e,rfl,rfl⟩
section
variable {X:Cx}{a_:Zc}{σ:St}{H:Hp}{s:Shared}{a:Addr}{y v:V}{u r:Value}{o:Option V}{A:Around}{E:Zb}
theorem ac.big(I:ac X a_ σ H s):sysModules<s.heap.objs.size:=by
 have h:mainGlobals<s.heap.objs.size:=(I.mod.glob.keeps I.bk).lt;exact Nat.lt_trans 'a' h
theorem Am{Q:Zb}(hu:A.units+1<cLine)(I:ac X a_ σ H s)(g:j8 H a y (some v))(n:RelV y u)(h:∀c q,ac X a_ σ H q->RelV v c->Q c q):
  wpAny 'b' A (getItem (.ref a) u) Q E s:=by
 rcases g with⟨t,k,e,d,l⟩ | ⟨t,k,b,e,d,B,l⟩
 ·subst d
  obtain⟨z,hd,vs,f,j⟩:=lI I.hok e;obtain⟨c,hw,m⟩:=dQ.some_of (v:=v) (o:=valueAt vs k) (by rw[l];exact f.val k);exact wpAny_getItem_of (n8 n) j.mapOf hw (h c _ (I.tok _) m)
 ·subst d
  cases(show u=Value.ref b from n);obtain⟨z,hd,xs,f,j⟩:=qR I.hok e;obtain⟨c,hw,m⟩:=dQ.some_of (v:=v) (o:=(atKey xs k).map (·.2)) (by rw[l];exact f.val k);obtain⟨p,hp,C⟩:=Option.map_eq_some_iff.mp hw;refine wpAny_getItem_heap (tupleKind_room_in1 hu) (m9 I.hok B) j hp ?_;rw[C];exact h c _ (I.tok _) m
theorem Jc{Q:Zb}(hu:A.units+1<cLine)(I:ac X a_ σ H s)(g:j8 H a y o)(j:RelV y u)(h:∀m,ac X a_ σ H m->Q (.bool o.isSome) m):
  wpAny 'b' A (compareOp .In u (.ref a)) Q E s:=by
 rcases g with⟨n,k,e,c,l⟩ | ⟨n,k,b,e,c,p,l⟩
 ·subst c
  obtain⟨z,hd,vs,d,f⟩:=lI I.hok e;refine wpAny_in_of (n8 j) hd f.mapOf ?_;rw[←(d.val k).isSome_eq,←l];exact h _ (I.tok _)
 ·subst c
  cases(show u=Value.ref b from j);obtain⟨z,hd,xs,d,f⟩:=qR I.hok e;refine wpAny_in_heap (tupleKind_room_in1 hu) (m9 I.hok p) hd f ?_;have q:=(d.val k).isSome_eq;rw[Option.isSome_map] at q;rw[←q,←l];exact h _ (I.tok _)
theorem Ed{Q:Zb}(hu:A.units+1<cLine)(I:ac X a_ σ H s)(g:j8 H a y o)(j:RelV y u)(h:∀m,ac X a_ σ H m->Q (.bool (!o.isSome)) m):
  wpAny 'b' A (compareOp .NotIn u (.ref a)) Q E s:=by
 rcases g with⟨n,k,e,c,l⟩ | ⟨n,k,b,e,c,p,l⟩
 ·subst c
  obtain⟨z,hd,vs,d,f⟩:=lI I.hok e;refine wpAny_notIn_of (n8 j) hd f.mapOf ?_;rw[←(d.val k).isSome_eq,←l];exact h _ (I.tok _)
 ·subst c
  cases(show u=Value.ref b from j);obtain⟨z,hd,xs,d,f⟩:=qR I.hok e;refine wpAny_notIn_heap (tupleKind_room_in1 hu) (m9 I.hok p) hd f ?_;have q:=(d.val k).isSome_eq;rw[Option.isSome_map] at q;rw[←q,←l];exact h _ (I.tok _)
theorem sZ{h':Heap}{t':Nat}{c:HO}(I:ac X a_ σ H s)(d:zY (H a))(f:Heap.SameBut a s.heap h')(g:∃q,h'.get? a=some q)(new:bg X.prog X.w (aM H a c) h' a c):
  ac X a_ σ (aM H a c) { s with heap:=h',toks:=t' }:=
 I.write (x:=a) (e:=a) d (.inl rfl) (λb q hb z=>(f.2 b hb).trans z) g new
theorem An{P:Zt}{w:World}{H':Hp}{h':Heap}{b:List (Key×V)}{vs:List (Key×Value)}(z:b.length<=sizeLine)(hd:(a==sysModules)=false)(c:KV b vs)(d:h'.DictOf (bA P w) a vs):
  bg P w H' h' a (.dK b):=⟨z,hd,vs,c,d⟩
theorem Ao{H':Hp}{Q:Zo}(hu:A.units+1<cLine)(I:ac X a_ σ H s)(g:Jb H a y v H')(B:RelV y u)(C:RelV v r)(h:∀F,ac X a_ σ H' F->Q () F):
  wpAny 'b' A (setItem (.ref a) u r) Q E s:=by
 rcases g with⟨d,k,e,m,l,n⟩ | ⟨d,k,b,e,m,G,l,n⟩
 ·subst m n
  obtain⟨z,hd,vs,f,p⟩:=zi I.hok e;have hz:vs.length<=sizeLine:=by rw[←f.length];exact z
  have hl:(putK d k v).length<=sizeLine:=by have:=j7 d k v;omega
  refine wpAny_setItem_pairs (hsz:=hz) (n8 B) p λh' j t=>h _ ?_
  have K:∃q,h'.get? a=some q:=let⟨q,_,_,hq,_⟩:=j;⟨q,hq⟩;exact sZ I (by rw[e];exact True.intro) t K (An hl hd (f.put k C) j)
 ·subst m n
  cases(show u=Value.ref b from B);obtain⟨z,hd,xs,f,p⟩:=HV I.hok e;have hz:xs.length<=sizeLine:=by rw[←Paired.length f];exact z
  have hl:(putK d k v).length<=sizeLine:=by have:=j7 d k v;omega
  refine wpAny_setItem_heap (hsz:=hz) (tupleKind_room_in1 hu) (m9 I.hok G) p λh' j t=>h _ ?_
  obtain⟨q,es,L,hq,N,O,P,_,R⟩:=j;refine sZ I (by rw[e];exact True.intro) t ⟨q,hq⟩ ⟨hl,hd,_,(f.put k G C).keeps λc ys J=>?_,q,es,L,hq,N,O,P,R⟩;rw[aG (Hs J e (λz=>nomatch z))];exact J
end
section
variable {X:Cx}{a_:Zc}{σ:St}{H:Hp}{s:Shared}{a:Addr}{d_:List (Key×V)}{k:Key}{u:Value}{A:Around}{E:Zb}
theorem Dm{Q:Zb}(I:ac X a_ σ H s)(e:Rd H a (.dK d_))(h:∀t b,ac X a_ σ H b->Q (.int d_.length t) b):wpAny 'b' A (call (.builtin "len") [.ref a]) Q E s:=by
 obtain⟨z,hd,vs,c,d⟩:=lI I.hok e;refine call_len_dict hd d (by rw[←c.length];rw[sizeLine_eq] at z;omega) ?_;rw[←c.length];exact h _ _ (I.tok _)
end
theorem xH{X:Cx}{a_:Zc}{σ:St}{H:Hp}{s:Shared}{a:Addr}{y:V}{o:Option V}(I:ac X a_ σ H s)(g:j8 H a y o):s.TypeIs (.ref a) "dict":=by
 rcases g with⟨d,k,e,_,_⟩ | ⟨d,k,b,e,_,_,_⟩
 ·obtain⟨_,_,vs,_,c⟩:=lI I.hok e
  exact c.typeIs
 ·obtain⟨_,_,xs,_,c⟩:=qR I.hok e
  exact c.typeIs
theorem B1{P:Zt}{w:World}{H:Hp}(h:Heap)(hb:sysModules<h.objs.size):bg P w H (h.push { cls:=.type "dict",data:=.dict #[] }) h.objs.size (.dK []):=
 ⟨YL _,ZP.mpr (Ne.symm (ZS hb)),[],.nil,Heap.DictOf.new h⟩
def qS:List (TE×TE)->St->Hp->(List (V×V)->Hp->Prop)->Prop
 |[],_,H,Q=>Q [] H
 |(tk,a)::r,σ,H,Q=>tk σ H λx b=>a σ b λy c=>qS r σ c λps d=>Q ((x,y)::ps) d
abbrev VV:List (V×V)->List (Value×Value)->Prop:=Paired λp q=>RelV p.1 q.1/\RelV p.2 q.2
def Ap(X:Cx)(b:Pos)(keys:List (Option Expr))(a:Zg)(c:List (TE×TE)):Prop:=
 ∀(a_:Zc) (s:Shared) (σ:St) (H:Hp) (Q:List (V×V)->Hp->Prop),ac X a_ σ H s->qS c σ H Q ->
  wpAny 'b' X.A (evalPairs (pairTrees keys a X.env b)) (λvs d=>∃ps H',ac X a_ σ H' d/\VV ps vs/\Q ps H') X.xe s
theorem Ee{X:Cx}{a:Pos}:Ap X a [] [] []:=λa_ s σ H Q I h=>pairTrees_nil_walk ⟨[],H,I,.nil,h⟩
theorem B2{X:Cx}{a:Pos}{k v:Expr}{ks:List (Option Expr)}{vs:Zg}{tk b:TE}{c:List (TE×TE)}(hk:PE X k tk)(hv:PE X v b)(d:Ap X a ks vs c):
  Ap X a (some k::ks) (v::vs) ((tk,b)::c):=λa_ s σ H Q I h=>
 pairTrees_cons_walk (aE (hk a_ s σ H _ I h) λu s1 ⟨x,f,g,j,q1⟩=>aE (hv a_ s1 σ f _ g q1) λz s2 ⟨y,l,m,n,o⟩=>
  aE (d a_ s2 σ l _ m o) λws A ⟨ps,p,q,r,t⟩=>⟨(x,y)::ps,p,q,.cons ⟨j,n⟩ r,t⟩)
def gC(b more:List (Key×V)):List (Key×V):=more.foldl (λacc a=>putK acc a.1 a.2) b
theorem KV.merge:∀{more:List (Key×V)}{rs:List (Key×Value)}{a:List (Key×V)}{vs:List (Key×Value)},KV more rs->KV a vs->KV (gC a more) (merged vs rs):=by
 intro more rs a vs r;unfold KV at r;induction r generalizing a vs with
 |nil=>intro q;exact q
 |@cons p q ps d h t b=>
  intro c;have e:KV (putK a p.1 p.2) (stored vs q.1 q.2):=by
   have:=c.put p.1 h.2
   rw[←h.1];exact this
  exact b e
theorem mK:∀(more a:List (Key×V)),(gC a more).length<=a.length+more.length
 |[],a=>by show a.length<=a.length+0;omega
 |p::r,a=>by
  have h1:=mK r (putK a p.1 p.2);have b:=j7 a p.1 p.2;show(gC (putK a p.1 p.2) r).length<=_;rw[YI];omega
theorem qT{P:Zt}{w:World}:∀{d:List (Key×V)}{ws:List (Value×Value)},VV (d.map λf=>(kV f.1,f.2)) ws->∃rs,Carries (bA P w) ws rs/\KV d rs
 |[],_,r=>by rw[List.map_nil] at r;cases r;exact⟨[],True.intro,.nil⟩
 |p::d,_,r=>by
  rw[YK] at r;cases r with
  |@cons a b as bs h t=>
   obtain⟨rs,c,q⟩:=qT (P:=P) (w:=w) t;obtain⟨j,g⟩:=b;exact⟨(p.1,g)::rs,⟨n8 h.1,rfl,c⟩,.cons ⟨rfl,h.2⟩ q⟩
def HW(d:List (TE×TE)):TE:=λσ H Q=>∀p,H p=none->qS d σ (aM H p (.dK [])) λps b=>b p=some (.dK [])/\∃a:List (Key×V),ps=a.map (λc=>(kV c.1,c.2))/\a.length<=15/\Q (.ref p) (aM b p (.dK (gC [] a)))
theorem Ef{X:Cx}{d:Pos}{keys:List (Option Expr)}{b:Zg}{f:List (TE×TE)}(h:Ap X d keys b f)(m:keys.all (·.isSome)=true)(hl:keys.length=b.length)(n:keys≠[])
  (p:keys.length<=15):PE X (.Dict keys b d) (HW f):=by
 intro a_ s σ H Q I q;have hn:=I.hok.fresh (YE s.heap.objs.size);have r:=I.laid (a:=s.heap.objs.size) (o:=.dK []) (h':=s.heap.push { cls:=.type "dict",data:=.dict #[] }) (t':=s.toks) (λ_ _ q=>Yd _ q) (YE _) (B1 s.heap I.big);refine wpAny_Dict_walk (knd:=bA X.prog X.w) m hl n p (aE (h a_ _ σ _ _ r (q _ hn)) λws s2 t=>?_);obtain⟨ps,J,g,u,e,j,y,K,A⟩:=t;subst y;obtain⟨rs,c,B⟩:=qT (P:=X.prog) (w:=X.w) u;obtain⟨z,hd,L,C,E⟩:=zi g.hok e;cases C;refine⟨rs,c,E,λh' l F=>⟨.ref s.heap.objs.size,_,?_,rfl,A⟩⟩;have hz:(gC [] j).length<=sizeLine:=by
  have h1:=mK j [];rw[YS] at h1;rw[sizeLine_eq];omega
 have G:∃q,h'.get? s.heap.objs.size=some q:=let⟨q,_,_,hq,_⟩:=l;⟨q,hq⟩;exact sZ g (by rw[e];exact True.intro) F G (An hz hd (B.merge .nil) l)
structure M1 (X:Cx) (o:Expr) (m:Str) (v_:Pos) (e:Expr) (s_:Pos):Prop where
 base:attributeBase o m X.env (eval o X.env)=eval o X.env
 few:((backTo s_ (starEach [e] X.env)).all (λx=>!x.1)&&(backToKw s_ (keywordEach [] X.env)).all (λx=>x.1.isSome)
  && decide (([e]:List Expr).length+([]:List Keyword).length+(if([]:List Keyword).isEmpty then 0 else 1)<30))=true
 line:(v_.endLine==s_.line)=true
 trees:backTo s_ (starEach [e] X.env)=[(false,eval e X.env)]
structure M2 (X:Cx) (o:Expr) (m:Str) (v_:Pos) (e f:Expr) (s_:Pos):Prop where
 base:attributeBase o m X.env (eval o X.env)=eval o X.env
 few:((backTo s_ (starEach [e,f] X.env)).all (λx=>!x.1)&&(backToKw s_ (keywordEach [] X.env)).all (λx=>x.1.isSome)
  && decide (([e,f]:List Expr).length+([]:List Keyword).length+(if([]:List Keyword).isEmpty then 0 else 1)<30))=true
 line:(v_.endLine==s_.line)=true
 trees:backTo s_ (starEach [e,f] X.env)=[(false,eval e X.env),(false,eval f X.env)]
end L2
namespace Att
open PySem PySem.W PySem.Calls PyProof.Rows
theorem qU{P:Params}{h:Heap}:∀(ns:Zi) (vs:Zd),WellAll P h vs (ns.map WData.int)->IntsAre vs ns:=by
 intro ns;induction ns with
 |nil=>
  intro vs w;rw[List.map_nil] at w;cases w;exact .nil
 |cons n ns c=>
  intro vs w;rw[YK] at w;cases w with
  |cons a b=>
   cases a;exact .cons _ _ (c _ b)
theorem Aq{l:OpenLaw}{n:Nat}(hn:l.most=some n){P:Params}{h:Heap}{args:List WData}{b:Zd}
  (g:l.row.toRowW.claim.pre args=true) (j:WellAll P h b args):
  ∃a vs ns,b=[Value.ref a]/\args=[WData.list (ns.map WData.int)]/\h.get? a=some { cls:=.type "list",data:=.seq vs.toArray }/\IntsAre vs ns/\ns.length<=n:=by
 have m:WShape.hasAll [] args [.list .int]=true:=(pre_splitW g).1;have hc:l.pre.holds [] { args:=args }=true:=(pre_splitW g).2;obtain⟨d,r,rfl,h1,o⟩:=hasAllW_cons m;obtain rfl:=hasAllW_nil o;obtain⟨xs,rfl,p⟩:=hasW_list h1;obtain⟨ns,rfl⟩:=items_int p;have t:ns.length<=n:=by
  unfold OpenLaw.pre at hc;have c:(WTm.not (.lt (.lit (.int (n:Int))) (.len (.arg 0)))).holds [] { args:=[.list (ns.map .int)] }=true:=by
   have c:=(holds_andW hc).1;rw[hn] at c;exact c
  have f:=condW_of c (w_not (w_lt w_lit (w_len_list (w_arg rfl))));rw[ZF] at f;refine Nat.le_of_not_lt λq=>?_
  have u:(n:Int)<((ns.length:Nat):Int):=by omega
  first
   |(rw[YT u] at f;exact absurd f 'a')
   |(simp at f;omega)
 cases j with
 |cons y z=>
  cases z;cases y with
  |list A B=>exact⟨_,_,ns,rfl,rfl,A,qU ns _ B,t⟩
theorem Ar(l:OpenLaw)(args:List WData):l.row.toRowW.claim.post args (.bool true) args=true:=
 postW_of (r:=l.row.toRowW) (X:=(true==true))
  (show WShape.has [] (.bool true) .bool=true by first | rfl | decide | simp[WShape.has,WShape.arms,WShape.armsAll])
  (show(WTm.eq .res (.lit (.bool true))).value [] { args:=args,res:=some (.bool true),after:=args }=some (.bool (true==true)) from w_eq_bool (w_res rfl) w_lit) rfl
theorem xI{l:OpenLaw}{n:Nat}{q:Zt}{loose:Zf}{XP:(Str->Option Value)->Heap->Prop}{YP:World->Heap->Prop}{d:DefRec}
  (hn:l.most=some n) (p:d.params.defaults=[])
  (call:∀(w:World) (s₀ f':Shared) (mg mb:Ze) (c:Addr) (o:Obj) (pm cd l_:Value) (a:Addr) (vs:Zd) (ns:Zi),
   Ground q loose [] XP w s₀ mg mb f'.heap->YP w f'.heap ->
   f'.heap.get? c=some o->o.data=.func (docDef d.name d.params d.body d.scope pm cd l_)->f'.heap.CodeRec cd d.name->mg d.name=some (.ref c) ->
   f'.heap.get? a=some { cls:=.type "list",data:=.seq vs.toArray }->IntsAre vs ns->ns.length<=n->f'.gens = #[] ->
   codeAny (model l.prog w) callerA (.call (.ref c) ⟨[.ref a],[]⟩) (λr g=>r=.ok (.ret (.bool true))/\OldK f'.heap g.heap/\g.os=f'.os/\AllBare g.gens) f'):
  WalkO q loose XP YP l.row.toRowW d [] (λf vs=>PySem.call f vs):=by
 intro w s₀ f' mg mb G Y c o pm cd l_ t kV u hd y j z A args m as B L N C O;obtain rfl:t=.none:=Dflts.none j p;obtain rfl:kV=.none:=Dflts.noKw j;obtain⟨a,vs,ns,rfl,rfl,E,b,F⟩:=Aq hn B C;refine enter_call (codeAny_mono (call w s₀ f' mg mb c o pm cd l_ a vs ns G Y u (fd_plain hd) y z E b F A) λr g hq=>?_);obtain⟨rfl,I,J,K⟩:=hq;exact⟨.inl ⟨.bool true,.bool true,[],rfl,λ_=>rfl,.bool true,Ar l _,λ_=>⟨List.Pairwise.nil,λ_ hm=>(nomatch hm)⟩⟩,I,J,K⟩
section
variable {prog:Zt}{w:World}{A:Around}{E:Zb}{s:Shared}{K:Frag}
end
end Att
namespace L2
open PySem PySem.Spec PyProof.Rows
theorem t6:∀{vs:Zd}{ns:Zi},IntsAre vs ns->am (ns.map V.int) vs
 |_,_,.nil=>.nil
 |_,_,.cons n t h=>.cons ⟨t,rfl⟩ (t6 h)
def B3(H:Hp):Prop:=∀b,H b=none \/ ∃o xs,H b=some (.frz o (.lst xs))
theorem B4{P:Zt}{w:World}{K:Za}{mg mb:Ze}{CX:oV}{k:Nat}{p a:Addr}{fd:Zs}{x:Str}{sp:Sp}{f':Shared}{vs:Zd}{ns:Zi}
  (t:K.In f'.heap) (y:f'.heap.Ns mainGlobals mg) (hb:f'.heap.Ns builtinsNs mb) (I:∀x:Str,x ≠ "__name__"->mb x=bootBuiltins x) (J:f'.heap.NoLimit) (L:f'.gens = #[])
  (ha:f'.heap.get? a=some { cls:=.type "list",data:=.seq vs.toArray }) (hi:IntsAre vs ns) (hl:ns.length<=sizeLine) (N:bQ k callerA)
  (F:∀base:Heap,K.In base->base.Ns mainGlobals mg->dR P w K mg base CX k p fd [x] sp) (O:∀(s:Shared) (u:Value),BindsTo s fd ⟨[u],[]⟩ [(x,u)])
  (R:∀H:Hp,B3 H->bw K H a (ns.map V.int)->sp [.ref a] H (λv _=>v=.bl true) λ_ _ _=>False)
  (S:∀H e c,CX [] H f' 'e' e c->False):
  codeAny (model P w) callerA (.call (.ref p) ⟨[.ref a],[]⟩) (λr c=>r=.ok (.ret (.bool true))/\OldK f'.heap c.heap/\c.os=f'.os/\AllBare c.gens) f':=by
 have A:=t6 hi;have T:=hi.length
 -- from an abstract heap in which nothing but the script may be tracked
 have f:∀H:Hp,B3 H->bw K H a (ns.map V.int)->ci P w H f'.heap->(∀b,H b≠none->b=a)->(H a≠none->K.lookup a=none) ->
   codeAny (model P w) callerA (.call (.ref p) ⟨[.ref a],[]⟩) (λr c=>r=.ok (.ret (.bool true))/\OldK f'.heap c.heap/\c.os=f'.os/\AllBare c.gens) f':=by
  intro H B U hok C W;have E:∀{b:Addr}{o:Obj},f'.heap.get? b=some o->H b=none->(lF f'.heap H).get? b=some o:=λe n=>BK e n
  have Y:∀{b:Addr}{o:Obj}{es:Array DictEntry}{g:Nat},f'.heap.get? b=some o->o.data=.dict es g->H b=none:=λ{b o es g} e d=>by
   cases q:H b with
   |none=>rfl
   |some u=>
    have e':b=a:=C b (by rw[q];simp);subst e';rw[ha] at e;cases e;have d':Data.seq vs.toArray _=Data.dict es g:=d;cases d'
  have l:∀{b:Addr}{m:Ze},f'.heap.Ns b m->(lF f'.heap H).Ns b m:=λ{b m} ⟨o,es,g,e,d,r⟩=>⟨o,es,g,E e (Y e d),d,r⟩
  have G:K.In (lF f'.heap H):=λb o e=>E (t b o e) (by
   cases q:H b with
   |none=>rfl
   |some u=>
    have e':b=a:=C b (by rw[q];simp);subst e';rw[W (by rw[q];simp)] at e;cases e)
  have Z:Mod K mg (lF f'.heap H):=⟨G,l y,⟨mb,l hb,I⟩,let⟨mc,h1,h2⟩:=J;⟨mc,l h1,h2⟩⟩;have e0:fD P w K mg (lF f'.heap H) callerA [] f' H:=⟨rfl,Z,λb o e=>DJ e,Nat.le_of_eq (zZ _ _),trivial,λb hb=>absurd (show b∈([]:List Addr) from hb) (by simp),hok,.of_eq L⟩;refine codeAny_mono ((F _ G (l y)).run callerA [] f' H ⟨[.ref a],[]⟩ [.ref a] [.ref a] _ _ N e0 (O f' (.ref a)) (.cons rfl .nil) (R H B U)) λr c h=>?_
  cases r with
  |error e=>exact(S H e c h).elim
  |ok fl=>
   cases fl with
   |next=>exact Yh h
   |brk=>exact Yh h
   |cont=>exact Yh h
   |ret u=>
    obtain⟨v,H',os,bare,un,Lm,r',q⟩:=h;have q':v=.bl true:=q;subst q';obtain rfl:u=Value.bool true:=r';refine⟨rfl,OldK.of_keep λb o e=>?_,os,bare⟩;cases q:H b with
    |none=>exact un.keep b o e q (by intro z;exact absurd (show b∈([]:List Addr) from z) (by simp)) (by simp)
    |some u=>
     rcases B b with z | ⟨ob,xs,z⟩
     ·rw[q] at z;cases z
     ·have z2:=un.frzs b ob _ z
      obtain⟨e1,_⟩:=hok b _ z;obtain⟨e2,_⟩:=Lm b _ z2;rw[e] at e1;cases e1;exact e2
 cases hk:K.lookup a with
 |some o=>
  -- the script is one of the module's own objects
  have e:=t a o hk;rw[ha] at e;cases e;refine f (λ_=>none) (λ_=>.inl rfl) (.inr ⟨_,vs.toArray,_,hk,rfl,rfl,rfl,by rw[YG,T];exact hl,by simpa using A⟩) (λb u z=>by have j:(none:Option HO)=some u:=z;cases j) (λb z=>absurd rfl z) λz=>absurd rfl z
 |none=>
  refine f (λb=>if b=a then some (.frz { cls:=.type "list",data:=.seq vs.toArray } (.lst (ns.map V.int))) else none) (λb=>?_) (.inl (.inr ⟨{ cls:=.type "list",data:=.seq vs.toArray },if_pos rfl⟩)) (λb u z=>?_) (λb z=>?_) λ_=>hk
  ·by_cases hb:b=a
   ·exact .inr ⟨_,_,if_pos hb⟩
   ·exact .inl (if_neg hb)
  ·by_cases hb:b=a
   ·have j:=(if_pos hb).symm.trans z
    cases j;subst hb;exact⟨ha,by rw[ZF];exact hl,vs,_,A,ha⟩
   ·have j:=(if_neg hb).symm.trans z
    cases j
  ·by_cases hb:b=a
   ·exact hb
   ·exact absurd (if_neg hb) z
theorem Eg{l:PySem.W.OpenLaw}{n k:Nat}{q:Zt}{loose:Zf}{XP:(Str->Option Value)->Heap->Prop}{YP:World->Heap->Prop}{d:DefRec}{K:Params->PySem.W.Frag}{CX:World->oV}{sp:World->Sp}{x:Str}
  (hn:l.most=some n) (t:n<=sizeLine) (y:d.params.defaults=[]) (z:bQ k callerA)
  (A:∀(w:World) (h:Heap),YP w h->(K w.params).In h)
  (F:∀(w:World) (mg:Ze) (j:Addr) (h:Heap),(K w.params).In h->h.Ns mainGlobals mg->mg d.name=some (.ref j) ->
   ∃fd:FuncData,(∀(s:Shared) (u:Value),BindsTo s fd ⟨[u],[]⟩ [(x,u)]) /\
    ∀base:Heap,(K w.params).In base->base.Ns mainGlobals mg->dR l.prog w (K w.params) mg base (CX w) k j fd [x] (sp w))
  (B:∀(w:World) (H:Hp) (a:Addr) (ns:Zi),ns.length<=n->B3 H->bw (K w.params) H a (ns.map V.int)->sp w [.ref a] H (λv _=>v=.bl true) λ_ _ _=>False)
  (C:∀(w:World) (H:Hp) (s:Shared) (e:Value) (m:Shared),CX w [] H s 'e' e m->False):
  PySem.W.WalkO q loose XP YP l.row.toRowW d [] (λf vs=>PySem.call f vs):=by
 refine Att.xI hn y λw s₀ f' mg mb j o pm cd l_ a vs ns G Y P hd R E I c p J=>?_
 have r:=A w _ Y;obtain⟨fd,hb,L⟩:=F w mg j _ r G.T.g E;exact B4 r G.T.g G.T.b G.T.builtins G.T.nolimit J I c (ZU p t) z L hb (λH N O=>B w H a ns p N O) λH e m=>C w H f' e m
def inClass(s:Stmt)(j:Nat):Stmt:=match s with
 |.ClassDef _ _ _ body _ _ _ _ _ _ _=>body.getD j (.Pass ⟨0,0,0,0⟩)
 |_=>.Pass ⟨0,0,0,0⟩
def bU(s:Stmt):Arguments:=match s with
 |.FunctionDef _ a _ _ _ _ _ _ _ _=>a
 |_=>{ posonlyargs:=[],args:=[],vararg:=none,kwonlyargs:=[],kw_defaults:=[],kwarg:=none,defaults:=[] }
def aY(s:Stmt):List Stmt:=match s with
 |.FunctionDef _ _ b _ _ _ _ _ _ _=>b
 |_=>[]
def ax(s:Stmt):Scope:=match s with
 |.FunctionDef _ _ _ _ _ _ sc _ _ _=>sc
 |_=>{ kind:=.function,names:=[],isGenerator:=false,isCoroutine:=false }
abbrev jw:oV:=λ_ _ _ _ _ _=>False
abbrev E0:XK:=λ_ _ _=>False
theorem Dn{X:Cx}:m6 jw X E0:=λ_ _ _ _ _ _ _ h=>h.elim
structure qV (K:Za) (x h_:Str) (st:Stmt) (f:Addr) (fd:Zs):Prop where
 ex:∃(oc:Value) (od:Zm) (kV l_ pm:Value) (an:Zm) (i' ct:Value) (x_:Zn),
  fd=PySem.W.fnOf x h_ (bU st) (aY st) (ax st) .none kV l_ pm an i' ct/\K.lookup f=some ⟨oc,od,.func fd,x_⟩/\PySem.W.codeIn K i' h_=true
 kp:PySem.W.keepIn K (.ref f)=true
section
variable {P:Zt}{w:World}{K:Za}{mg:Ze}{base:Heap}
theorem qV.ok{x h_:Str}{st:Stmt}{f:Addr}{fd:Zs}{N ps:Zf}{k:Nat}{sp:Sp}(F:qV K x h_ st f fd)(S:cI N ps (ax st))(len:∀vs H Q E,sp vs H Q E->vs.length=ps.length)
  (a:∀(i':Value) (A:Around) (outer:List Env) (s:Shared) (H:Hp) (vs:List V) (Q:VK) (E:XK),bQ k (A.deeper (envOfC h_ (ax st) s.heap.objs.size f i'))->sp vs H Q E ->
   ∃t,kE (m7 jw P w K mg base N h_ (ax st) f i' A outer s H E).nox (aY st) t/\t { nx:=λ_ H'=>Q .non H',rt:=Q } (start N vs) H):dR P w K mg base jw (k+1) f fd ps sp:=by
 obtain⟨oc,od,kV,l_,pm,an,i',ct,x_,rfl,b,c⟩:=F.ex;refine HN b c S len λA outer s H vs Q E d g=>?_
 obtain⟨t,h,q⟩:=a i' A outer s H vs Q E d g;exact⟨t,h.nox,q⟩
theorem qV.binds{x h_:Str}{st:Stmt}{f:Addr}{fd:Zs}{ps:Zf}(F:qV K x h_ st f fd)
  (h:∀(kV l_ pm:Value) (an:Zm) (i' ct:Value) (us:Zd),us.length=ps.length->bindArgs (PySem.W.fnOf x h_ (bU st) (aY st) (ax st) .none kV l_ pm an i' ct) ⟨us,[]⟩=pure (ps.zip us)):Binds K fd ps []:=by
 obtain⟨oc,od,kV,l_,pm,an,i',ct,x_,rfl,a,b⟩:=F.ex;exact .all (h kV l_ pm an i' ct)
theorem vv{x h_:Str}{st:Stmt}{f:Addr}{oc:Value}{od an:Zm}{x_:Zn}{kV l_ pm i' ct:Value}(l:K.lookup f=some ⟨oc,od,.func (PySem.W.fnOf x h_ (bU st) (aY st) (ax st) .none kV l_ pm an i' ct),x_⟩)
  (c:PySem.W.codeIn K i' h_=true) (k:PySem.W.keepIn K (.ref f)=true):qV K x h_ st f (PySem.W.fnOf x h_ (bU st) (aY st) (ax st) .none kV l_ pm an i' ct):=⟨⟨oc,od,kV,l_,pm,an,i',ct,x_,rfl,l,c⟩,k⟩
end
theorem t7{n:Nat}(h:n<=1000):n<sizeLine:=Nat.lt_of_le_of_lt h 'a'
section
variable {X:Cx}
theorem As:cJ X (.builtin "len") (λxs H Q=>∃a b,xs=[V.ref a]/\H a=some (.dK b)/\Q (.int b.length) H):=by
 intro a_ s σ H xs us Q I r h;obtain⟨a,b,rfl,ha,q⟩:=h;obtain⟨u,rfl,c⟩:=vals1 r;cases c;exact Dm I (.inl ha) λt f d=>⟨.int b.length,H,d,⟨t,rfl⟩,q⟩
end
def gD(cells:Zq):List (Str×NameKind)->List (Str×Addr)->List (Str×Addr)
 |[],acc=>acc
 |(n,k)::r,acc=>gD cells r (if k==.free then(n,(cells.lookup n).getD 0)::acc else acc)
def na(scope:Scope)(env:Env):List (Str×Addr):=gD env.cells scope.names []
theorem uS{scope:Scope}{env:Env}(h:∀x∈scope.names,x.2=.free->∃c,env.cells.lookup x.1=some c):closureFor scope env=pure (na scope env):=by
 have b:∀(l:List (Str×NameKind)) (acc:Zq),(∀x∈l,x.2=.free->∃c,env.cells.lookup x.1=some c) ->
   (forIn l acc λ(x:Str×NameKind) (d:Zq)=>
    (if x.2==.free then(do let c ←cellOf env x.1;pure (ForInStep.yield ((x.1,c)::d))) else pure (ForInStep.yield d):Sem (ForInStep (List (Str×Addr)))))=pure (gD env.cells l acc):=by
  intro l;induction l with
  |nil=>intro acc _;rfl
  |cons x r f=>
   intro acc hx;obtain⟨n,k⟩:=x;have a:=f (if k==.free then(n,(env.cells.lookup n).getD 0)::acc else acc) λy hy=>hx y (ZX _ hy)
   rw[XA];by_cases hk:k=.free
   ·subst hk
    obtain⟨c,hc⟩:=hx (n,.free) ZW rfl;have e:cellOf env n=pure c:=by unfold cellOf;rw[hc]
    have D_:env.cells.lookup n=some c:=hc;simp only[XB,if_true,D_,Option.getD_some] at a;simp only[XB,if_true,e,pure_bind];rw[a];simp only[gD,XB,if_true,D_,Option.getD_some]
   ·have hb:(k==NameKind.free)=false:=by simpa using hk
    simp only[hb,XC,if_false] at a;simp only[hb,XC,if_false,pure_bind];rw[a];simp only[gD,hb,XC,if_false]
 have:=b scope.names [] h
 unfold closureFor na;simp only[bind_pure];exact this
theorem qW{cells:Zq}:∀{l:List (Str×NameKind)}{acc:Zq}{p:Str×Addr},p∈gD cells l acc->p∈acc\/((p.1,NameKind.free)∈l/\p.2=(cells.lookup p.1).getD 0)
 |[],_,_,h=>.inl h
 |(n,k)::r,acc,p,h=>by
  rcases qW (l:=r) h with q | ⟨q1,q2⟩
  ·by_cases hk:k=.free
   ·subst hk
    simp only[XB,if_true] at q;rcases ZY.mp q with e | q
    ·subst e;exact .inr ⟨ZW,rfl⟩
    ·exact .inl q
   ·have hb:(k==NameKind.free)=false:=by simpa using hk
    simp only[hb,XC,if_false] at q;exact .inl q
  ·exact .inr ⟨ZX _ q1,q2⟩
theorem qX{cells:Zq}:∀{l:List (Str×NameKind)}{acc:Zq}{p:Str×Addr},p∈acc->p∈gD cells l acc
 |[],_,_,h=>h
 |(n,k)::r,acc,p,h=>by
  refine qX (l:=r) ?_;split
  ·exact ZX _ h
  ·exact h
theorem qY{cells:Zq}:∀{l:List (Str×NameKind)}{acc:Zq}{n:Str},(n,NameKind.free)∈l->∃c,(n,c)∈gD cells l acc
 |(m,k)::r,acc,n,h=>by
  rcases ZY.mp h with e | h
  ·cases e
   exact⟨_,qX (l:=r) (by simp only[XB,if_true];exact ZW)⟩
  ·exact qY (l:=r) h
theorem gE{a:Type}:∀{l:List (Str×a)}{n:Str}{c:a},(n,c)∈l->∃d,l.lookup n=some d
 |(m,d)::r,n,c,h=>by
  rcases ZY.mp h with e | h
  ·cases e;exact⟨d,by simp[XD]⟩
  ·cases hb:n==m with
   |true=>exact⟨d,by simp[XD,hb]⟩
   |false=>
    obtain⟨d',e⟩:=gE (l:=r) h;exact⟨d',by simp[XD,hb,e]⟩
theorem gF{scope:Scope}{env:Env}(h:∀x∈scope.names,x.2=.free->∃c,env.cells.lookup x.1=some c){y:Str}{c:Addr}(e:(na scope env).lookup y=some c):env.cells.lookup y=some c:=by
 have m:=PySem.mem_of_lookup e;rcases qW m with z | ⟨z1,z2⟩
 ·cases z
 ·obtain⟨c',D_⟩:=h _ z1 rfl
  have a:env.cells.lookup y=some c':=D_;have b:c=(env.cells.lookup y).getD 0:=z2;rw[a] at b;rw[a,b];rfl
theorem At{scope:Scope}{env:Env}(h:∀x∈scope.names,x.2=.free->∃c,env.cells.lookup x.1=some c){y:Str}{c:Addr}(hy:(y,NameKind.free)∈scope.names)(e:env.cells.lookup y=some c):
  (na scope env).lookup y=some c:=by
 obtain⟨c',m⟩:=qY (cells:=env.cells) (acc:=[]) hy;obtain⟨d,q⟩:=gE m;have a:(na scope env).lookup y=some d:=q
 have:=gF h a
 rw[e] at this;rw[a,←this]
theorem dG{env:Env}:∀{names:List (Str×NameKind)}{x:Str},
  (names.map λ(n,k)=>if(k==NameKind.free&&env.scope.kind==.function&&env.kindOf n==some .cell) then(n,NameKind.cell) else(n,k)).lookup x =
   (names.lookup x).map λk=>if(k==NameKind.free&&env.scope.kind==.function&&env.kindOf x==some .cell) then NameKind.cell else k
 |[],_=>rfl
 |(n,k)::r,x=>by
  have a:=@dG env r x;show List.lookup x ((if(k==NameKind.free&&env.scope.kind==.function&&env.kindOf n==some .cell)=true then(n,NameKind.cell) else(n,k))::_)=_;cases hx:x==n with
  |true=>
   have e:x=n:=by simpa using hx
   subst e;by_cases hc:(k==NameKind.free&&env.scope.kind==.function&&env.kindOf x==some .cell)=true
   ·rw[if_pos hc];simp only[XD,XB,Option.map_some];rw[if_pos hc]
   ·rw[if_neg hc];simp only[XD,XB,Option.map_some];rw[if_neg hc]
  |false=>
   by_cases hc:(k==NameKind.free&&env.scope.kind==.function&&env.kindOf n==some .cell)=true
   ·rw[if_pos hc];simp only[XD,hx];exact a
   ·rw[if_neg hc];simp only[XD,hx];exact a
structure er (JL scope:Scope) (N own N2:Zf):Prop where
 kind:scope.kind=.function
 nocell:∀y∈scope.names,y.2≠.cell
 names:∀y∈scope.names,y.2=.local->scope.names.lookup y.1=some .local
 free:∀y∈scope.names,y.2=.free->(JL.names.lookup y.1=some .cell\/JL.names.lookup y.1=some .free)
 len:N2.length=N.length
 vis:∀p∈N2.zip N,(scope.names.lookup p.1=some .free->p.1=p.2)/\scope.names.lookup p.1≠some .local
def cZ(X:Cx)(scope:Scope)(own N2:Zf)(C:Addr)(s:Shared)(H:Hp)(ex:Zh)(pn:Zc):Cx where
 prog:=X.prog
 w:=X.w
 K:=X.K
 mg:=X.mg
 base:=X.base
 A:=X.A
 N:=N2++own
 s₀:=s
 H₀:=H
 env:=compEnvC scope (na scope X.env) C X.env
 outer:=X.stack
 stack:=X.stack
 ex:=ex
 calm:=X.calm
 fn:=λ_=>false
 pn:=pn
 xe:=λ_ _=>False
theorem Un.track{fs ex:Zh}{H H':Hp}{h h':Heap}{a:Addr}{o:HO}(u:Un fs ex H H' h h')(hp:h.objs.size<=a)(hn:H a=none):Un fs ex H (aM H' a o) h h' where
 keep:=u.keep
 slot:=u.slot
 free:=λb c q n hx=>by rw[aG (ZS (ZQ (Ye q) hp))];exact u.free b c q n hx
 there:=u.there
 tups:=λb xs q=>by rw[aG (bt q hn)];exact u.tups b xs q
 frzs:=λb c xs q=>by rw[aG (bt q hn)];exact u.frzs b c xs q
 tbls:=λb ps q=>by rw[aG (bt q hn)];exact u.tbls b ps q
def Au(X:Cx)(a:Zg)(t:TT):Prop:=
 ∀(a_:Zc) (s:Shared) (σ:St) (H:Hp) (Q:Bool->Hp->Prop),ac X a_ σ H s->t σ H Q ->
  wpAny 'b' X.A (forIn a true λc r=>if r=true then do let ok ←isTrue c X.env (eval c X.env);pure (ForInStep.yield ok) else pure (ForInStep.yield r)) (TP X a_ σ Q) X.xe s
def Jd:TT:=λ_ H Q=>Q true H
theorem Eh{X:Cx}:Au X [] Jd:=λ_ _ _ H _ I h=>wpAny_tests_nil ⟨H,I,h⟩
theorem Ei{X:Cx}{c:Expr}{t:TT}(h:PT X c t):Au X [c] t:=λa_ s σ H Q I q=>wpAny_tests_one (h a_ s σ H Q I q)
def u4(J:It)(g:TG)(tc:TT)(te:TE)(Fin:List V->Hp->Prop)(j:St)(l:Hp):Prop:=
 ∃W:Nat->Nat->List V->St->Hp->Prop,(∃m,W 0 m [] j l)/\∀i m ys σ H,W i m ys σ H ->
  (J.stop i H/\Fin ys H)\/(J.go i H/\ys.length<sizeLine/\∃N:List V->St->Hp->Prop,(∀c d H',N c d H'->∃m',m'<m/\W (i+1) m' c d H') /\
   ∀x H',J.yld i H x H'->g x σ H' λa n=>tc a n λb f=>if b=true then te a f (λy o=>N (ys++[y]) a o) else N ys a f)
section
variable {prog:Zt}{w:World}{A:Around}{R:Result->Shared->Prop}{s:Shared}
theorem oQ{j a b:Expr}{d:Zg}{scope:Scope}{f:Pos}{it acc:Value}{env:Env}(I:Nat->Shared->Prop)
  (g:∀n s,I n s->wpAny 'f' A (pyNext it) (λr f'=>match r with
   |none=>R (.ok .next) f'
   |some v=>wpAny 'f' A (letOwnedTupleGo a it v) (λ_ o=>wpAny 'f' A (assign a env v) (λ_ p=>
     wpAny 'f' A (forIn d true λc r=>if r=true then do let ok ←isTrue c env (eval c env);pure (ForInStep.yield ok) else pure (ForInStep.yield r)) (λok l=>
      if ok=true then wpAny 'f' A (eval j env) (λx q=>
       wpAny 'f' A (call (.builtin "list.append") [acc,x]) (λ_ t=>∃m,m<n/\I m t) (λ_ _=>False) q) (λ_ _=>False) l
      else ∃m,m<n/\I m l) (λ_ _=>False) p) (λ_ _=>False) o) (λ_ _=>False) f') (λ_ _=>False) s)
  (n:Nat) (h:I n s):
  codeAny 'f' A (.compLoop (.ListComp j [⟨a,b,d,0⟩] scope f) 0 it acc env) R s:=by
 refine codeAny_loop rfl I (λn s z=>?_) n h;show wpAny _ A ((compTurn (.ListComp j [⟨a,b,d,0⟩] scope f) 0 it acc env).onRaise (λx=>do noteFrame x env;theTreesLotGoes x)) _ _ s;refine wpAny_noted (wpAny_noRaise ?_);rw[compTurn_list];refine Yb (Yk (Yb (wpAny_mono (g n s z) (λr f' u=>?_) λ_ _ h'=>h')));cases r with
 |none=>exact Yc u
 |some v=>
  refine Yb (wpAny_mono u (λ_ o B=>?_) λ_ _ h'=>h');refine Yb (wpAny_mono B (λ_ p C=>Yb (wpAny_mono C (λok l y=>?_) λ_ _ h'=>h')) λ_ _ h'=>h');cases ok with
  |false=>exact Yc ⟨rfl,y⟩
  |true=>
   exact Yb (Yb (wpAny_mono y (λx q E=>Yb (wpAny_mono E (λ_ t F=>Yc (Yc ⟨rfl,F⟩)) λ_ _ h'=>h')) λ_ _ h'=>h'))
end
section
variable {X:Cx}{a_:Zc}{σ:St}{H:Hp}{s:Shared}
theorem t9{w_ tg l:Expr}{Y:Zg}{scope JL:Scope}{N own N2:Zf}{ap aw:Pos}{wi:TI}{g:TG}{tc:TT}{te:TE}{use:Option (Value->Sem Unit)}{QQ:Zb}{Fin:List V->Hp->Prop}
  (B:er JL scope N own N2) (ho:X.env.scope=JL) (hN:X.N=N) (hc:X.calm=true) (hi:PI X tg l wi)
  (hg:∀C s H ex pn,PG (cZ X scope own N2 C s H ex pn) tg g) (ht:∀C s H ex pn,Au (cZ X scope own N2 C s H ex pn) Y tc) (he:∀C s H ex pn,PE (cZ X scope own N2 C s H ex pn) w_ te)
  (I:ac X a_ σ H s) (h:wi σ H λJ H1=>u4 J g tc te Fin (σ++List.replicate own.length none) H1)
  (fin:∀(D C:Addr) (ys:List V) (H':Hp) (F:Shared) (m:Ze),Fin ys H'->H' D=none->ac X a_ σ (aM H' D (.lst ys)) F->F.heap.Ns C m->lG X a_ (aM H' D (.lst ys)) C ->
   compPost 'b' X.A X.xe use QQ (.ref D) C (.ok .next) F)
  (hs:∀x,foldedSetIterable l X.env x=pure x):
  wpAny 'b' X.A (comprehension (.ListComp w_ [⟨tg,l,Y,0⟩] scope ap) scope X.env aw (newList []) false (eval l X.env) use) QQ X.xe s:=by
 subst ho hN;have E:∀x∈scope.names,x.2=.free->∃c,X.env.cells.lookup x.1=some c:=λx hx hf=>I.ok.has x.1 (B.free x hx hf)
 refine wpAny_comprehension_free (use:=use) rfl hs (uS E) B.kind B.names (aE (hi a_ s σ H _ I h) λv s1 h1=>aE h1 λNy s2 h2=>?_);obtain⟨it,fp,tn,J,L,e,a,T,Ld,P,W,⟨m0,w0⟩,a1⟩:=h2;subst e;refine wpAny_newObj_type (wpAny_newFunctionEnv B.nocell (by intro y hy;simp at hy) (λJ1 J2 JM=>?_) B.kind);dsimp only at J2 JM ⊢;generalize hG:s2.heap.push { cls:=.type "list",dict:=none,data:=.seq ([]:List Value).toArray }=G at J2 JM ⊢;have hC:G.objs.size=s2.heap.objs.size+1:=by rw[←hG,Heap.size_push]
 have M_:s2.heap.objs.size≠G.objs.size:=by rw[hC];exact ZS (Nat.lt_succ_self _)
 have Ln:s2.heap.objs.size<=G.objs.size:=by rw[hC];exact Nat.le_succ _
 have f:∀b,b<s2.heap.objs.size->b≠G.objs.size/\b≠s2.heap.objs.size:=λb hb=>⟨by rw[hC];exact ZS (Nat.lt_succ_of_lt hb),ZS hb⟩
 have t:∀b o,s2.heap.get? b=some o->J1.get? b=some o:=λb o e=>JM.extBut b o (f b (Ye e)).1 (Yd _ (hG▸Yd _ e))
 have KA:J1.get? s2.heap.objs.size=some (LCg.lst []):=JM.extBut _ _ M_ (Yd _ (hG▸Yg _ rfl));have KQ:∀b∈fp,b<s2.heap.objs.size:=λb hb=>let⟨o,e,_⟩:=T.obj 0 _ Ld b hb;Ye e
 have PV:L s2.heap.objs.size=none:=a.hok.fresh (YE _);have QG:L G.objs.size=none:=a.hok.fresh Ln;have Lo:∀x c,X.env.cells.lookup x=some c->c<s2.heap.objs.size:=λx c e=>let⟨v,z⟩:=a.cell x c e;z.lt
 have Mq:∀p∈X.pn++a_,p.1<s2.heap.objs.size:=λp hp=>Ye (a.pin p hp).1
 -- the block's context
 generalize hX:cZ X scope own N2 G.objs.size s2 L fp (X.pn++a_)=j;have Lm:j.Ok:=by
  subst hX;refine⟨a.ok.mod,B.kind,a.ok.glob,a.ok.blt,Ln,λx y c e1 e2=>a.ok.inj x y c (gF E e1) (gF E e2),λx hx=>?_,λx c hf=>?_,a.ok.hd,a.ok.frames,.inl rfl,λb hb=>?_,a.bs,
   ZU a.ok.bsz a.sz,λb o e hb=>?_,λb hb hz=>?_,a.stack,a.stkFree⟩
  ·have Z:(relabel scope X.env).names.lookup x=some .cell\/(relabel scope X.env).names.lookup x=some .free:=hx
   unfold relabel at Z;dsimp only at Z;rw[dG] at Z;have hm:∃k,scope.names.lookup x=some k:=by
    cases q:scope.names.lookup x with
    |none=>rw[q] at Z;rcases Z with z | z<;>cases z
    |some k=>exact⟨k,rfl⟩
   obtain⟨k,hk⟩:=hm;have n_:=PySem.mem_of_lookup hk;have QH:k=.free:=by
    rw[hk] at Z;cases k with
    |free=>rfl
    |cell=>exact absurd rfl (B.nocell _ n_)
    |_=>rcases Z with z | z<;>cases z
   subst QH;obtain⟨c,hc⟩:=E _ n_ rfl;exact⟨c,At E n_ hc⟩
  ·cases hf
  ·obtain⟨_,f1,ff,fx,fc,PX⟩:=P b hb
   exact⟨(f b (KQ b hb)).1,λx c e=>fc x c (gF E e)⟩
  ·obtain⟨_,_,_,fx,_,_⟩:=P b hb
   rcases fx with z | z
   ·exact a.ok.noex b o e z
   ·exact absurd (ZQ (Ye e) (ZU a.ok.bsz z)) (ZR _)
  ·obtain⟨_,f1,ff,_⟩:=P b hb
   rcases ZY.mp (a.stkSub b hz) with z | z
   ·exact f1 z
   ·exact ff z
 have I0:ac j [(s2.heap.objs.size,LCg.lst [])] (σ++List.replicate own.length none) L { s2 with heap:=J1,toks:=s2.toks+([]:List (Str×Value)).length }:=by
  subst hX;refine⟨Lm,rfl,a.bare,Un.kept t,⟨_,J2,λi x v e1 e2 e3=>?_⟩,λx c e=>?_,QG,λx c e=>a.freeC x c (gF E e),λp hp=>?_,a.hok.kept t,?_⟩
  ·have e1:(N2++own)[i]?=some x:=e1
   have Na:i<σ.length:=by
    by_cases Na:i<σ.length
    ·exact Na
    ·rw[ZH 'c',List.getElem?_replicate] at e2
     split at e2<;>cases e2
   rw[ZE Na] at e2;have i_:N2.length=σ.length:=B.len.trans a.len.symm;rw[ZE 'c'] at e1;have PY:i<X.N.length:=by rw[←a.len];exact Na
   have hz:(x,X.N[i])∈N2.zip X.N:=by
    refine YR (i:=i) ?_;rw[List.getElem?_zip_eq_some];exact⟨e1,ZD PY⟩
   obtain⟨v1,v2⟩:=B.vis _ hz;have Lp:vd (relabel scope X.env) x:=e3;have Ol:scope.names.lookup x=some .free:=by
    unfold vd relabel at Lp;dsimp only at Lp;rw[dG] at Lp;cases q:scope.names.lookup x with
    |none=>rw[q] at Lp;rcases Lp with z | z | z<;>cases z
    |some k=>
     rw[q] at Lp;cases k with
     |free=>rfl
     |cell=>exact absurd rfl (B.nocell _ (PySem.mem_of_lookup q))
     |«local»=>exact absurd q v2
     |_=>rcases Lp with z | z | z<;>cases z
   have n_:=PySem.mem_of_lookup Ol;have ex:x=X.N[i]:=v1 Ol;have QI:X.N[i]?=some x:=by rw[ex];exact ZD PY
   have PZ:=B.free _ n_ rfl;obtain⟨m,hn,hl⟩:=a.loc;obtain⟨u,ru,lk⟩:=hl i x v QI e2 (.inr PZ);refine⟨u,ru,?_⟩;rcases lk with⟨k,_⟩ | ⟨k,c,ec,z⟩
   ·have k':X.env.scope.names.lookup x=some .local:=k
    rcases PZ with q | q<;>(have q':X.env.scope.names.lookup x=_:=q;rw[k'] at q';cases q')
   ·refine .inr ⟨?_,c,At E n_ ec,?_⟩
    ·show(relabel scope X.env).names.lookup x=some .cell\/(relabel scope X.env).names.lookup x=some .free
     unfold relabel;dsimp only;rw[dG,Ol];show some (if _ then NameKind.cell else NameKind.free)=_\/some (if _ then NameKind.cell else NameKind.free)=_;split
     ·exact .inl rfl
     ·exact .inr rfl
    ·obtain⟨o,eo,d⟩:=z
     exact⟨o,t _ _ eo,d⟩
  ·obtain⟨v,o,eo,d⟩:=a.cell x c (gF E e)
   exact⟨v,o,t _ _ eo,d⟩
  ·have hp:p∈(X.pn++a_)++[(s2.heap.objs.size,LCg.lst [])]:=hp
   rcases YA.mp hp with hp | hp
   ·obtain⟨e,n,nl,nf,d⟩:=a.pin p hp
    refine⟨t _ _ e,n,(f _ (Ye e)).1,λhz=>?_,d⟩;rcases ZY.mp (a.stkSub p.1 hz) with z | z
    ·exact nl z
    ·exact nf z
   ·have e:p=(s2.heap.objs.size,LCg.lst []):=by simpa using hp
    subst e;refine⟨KA,PV,M_,λhz=>?_,λv z=>by cases z⟩;rcases ZY.mp (a.stkSub _ hz) with z | z
    ·exact absurd a.lt (by rw[←z];exact ZR _)
    ·exact a.nofs (YE _) z
  ·show(σ++List.replicate own.length none).length=(N2++own).length
   rw[ZJ,ZJ,List.length_replicate,B.len,a.len]
 have JW:∀{H':Hp}{us:Zd},(∀b∈fp,H' b=none)->∀b∈fp,lG j [(s2.heap.objs.size,LCg.lst us)] H' b:=λ{H' us} hn b hb=>by
  subst hX;obtain⟨_,f1,ff,fx,fc,PX⟩:=P b hb;refine⟨hn b hb,(f b (KQ b hb)).1,λhz=>?_,.inl hb,λx c e=>fc x c (gF E e),λp hp z=>?_⟩
  ·rcases ZY.mp (a.stkSub b hz) with z | z
   ·exact f1 z
   ·exact ff z
  ·have hp:p∈(X.pn++a_)++[(s2.heap.objs.size,LCg.lst us)]:=hp
   rcases YA.mp hp with hp | hp
   ·exact PX p hp z
   ·have e:p=(s2.heap.objs.size,LCg.lst us):=by simpa using hp
    subst e;exact(f b (KQ b hb)).2 z.symm
 have eP:j.prog=X.prog:=by subst hX;rfl
 have eW:j.w=X.w:=by subst hX;rfl
 have eK:j.K=X.K:=by subst hX;rfl
 have eA:j.A=X.A:=by subst hX;rfl
 have eE:j.env=compEnvC scope (na scope X.env) G.objs.size X.env:=by subst hX;rfl
 have eX:j.xe=λ_ _=>False:=by subst hX;rfl
 have eC:j.calm=true:=by subst hX;exact hc
 have eS:j.s₀=s2:=by subst hX;rfl
 have eH:j.H₀=L:=by subst hX;rfl
 have eF:j.fs=kC X.stack:=by subst hX;rfl
 have QJ:j.ex=fp:=by subst hX;rfl
 have eN:j.pn=X.pn++a_:=by subst hX;rfl
 have LL:=hg G.objs.size s2 L fp (X.pn++a_);have Lq:=ht G.objs.size s2 L fp (X.pn++a_);have P0:=he G.objs.size s2 L fp (X.pn++a_);rw[hX] at LL Lq P0;have S:∀J0:Shared,J0={ s2 with heap:=J1,toks:=s2.toks+([]:List (Str×Value)).length } ->
   codeAny 'b' X.A (.compLoop (.ListComp w_ [⟨tg,l,Y,0⟩] scope ap) 0 (.ref it) (.ref s2.heap.objs.size) (compEnvC scope (na scope X.env) G.objs.size X.env))
    (compPost 'b' X.A X.xe use QQ (.ref s2.heap.objs.size) G.objs.size) J0:=by
  rintro J0 rfl;refine oQ (λn F=>∃i ys us e_ H',ac j [(s2.heap.objs.size,LCg.lst us)] e_ H' F/\tn i F.heap/\(∀b∈fp,H' b=none)/\am ys us/\ys.length<=sizeLine/\W i n ys e_ H') ?_ m0
   ⟨0,[],[],_,L,I0,T.keep 0 _ _ Ld λb _ o e=>t b o e,λb hb=>(P b hb).1,.nil,YL _,w0⟩
  rintro n s3 ⟨i,ys,us,JP,O,I3,Le,LY,hv,hz,w3⟩;rcases a1 i n ys JP O w3 with⟨stop,qn⟩ | ⟨go,Ka,NN,P1,step⟩
  ·have dn:=T.done j eP eW eK eC i _ s3 JP O (λ_ _=>False) I3 (JW LY) Le stop
   rw[eA] at dn;refine aE dn λr s4 G_=>?_
   obtain⟨hr,I4⟩:=G_;subst hr;have U:=I4.pin (s2.heap.objs.size,LCg.lst us) (YF _ ZW);have Om:O s2.heap.objs.size=none:=U.2.1;have QK:O G.objs.size=none:=by have:=I4.free;rw[eE] at this;exact this
   have un:Un (kC X.stack) fp L O s2.heap s4.heap:=by have:=I4.base;rw[eF,QJ,eH,eS] at this;exact this
   have QL:ci X.prog X.w O s4.heap:=by have:=I4.hok;rw[eP,eW] at this;exact this
   have Oo:ci X.prog X.w (aM O s2.heap.objs.size (.lst ys)) s4.heap:=λb u e=>by
    by_cases hb:b=s2.heap.objs.size
    ·subst hb
     rw[aD] at e;cases e;exact⟨hz,us,us.length,hv,U.1⟩
    ·rw[aG hb] at e
     refine(QL b u e).stay (λc v _ q=>q) (λc q=>?_) λc xs q=>?_
     ·rw[aG (bt q Om)];exact q
     ·rw[aG (bt q Om)];exact q
   have QM:s4.os=s2.os:=by have:=I4.os;rw[eS] at this;exact this
   have I5:ac X a_ σ (aM O s2.heap.objs.size (.lst ys)) s4:=a.call' QM (un.track (YE _) PV) Oo I4.bare λb hb=>⟨(P b hb).2.2.2.1,(P b hb).2.1,(P b hb).2.2.2.2.1,(P b hb).2.2.2.2.2⟩
   obtain⟨m,hn,_⟩:=I4.loc;rw[eE] at hn;exact fin _ _ ys O s4 m qn Om I5 hn (a.fpOk Ln (by rw[aG (Ne.symm M_)];exact QK))
  ·have P2:=T.item j eP eW eK eC i _ s3 JP O (λ_ _=>False) I3 (JW LY) Le go
   rw[eA] at P2;refine aE P2 λr s4 JV=>?_
   obtain⟨u,hr,h4⟩:=JV;subst hr;refine aE h4 λ_ s5 KS=>?_
   obtain⟨x,H5,I5,r5,y5,Lf,NF⟩:=KS;have NG:=I5.pinned (JW NF) (T.obj _ _ Lf);have a5:=LL _ s5 JP H5 x u _ NG r5 (step x H5 y5);rw[eP,eW,eA,eE,eX] at a5;refine aE a5 λ_ s6 KB=>?_
   obtain⟨R,H6,I6,q6⟩:=KB;have a6:=Lq _ s6 R H6 _ I6 q6;rw[eP,eW,eA,eE,eX] at a6;refine aE a6 λok s7 Kg=>?_
   obtain⟨H7,I7,q7⟩:=Kg;have Kb:∀{e_:St}{H':Hp}{F:Shared}{Lr:Zd},ac j ([(s2.heap.objs.size,LCg.lst Lr)]++gB fp s5.heap) e_ H' F->tn (i+1) F.heap/\∀b∈fp,H' b=none:=λ{e_ H' F Lr} J'=>by
    refine⟨T.keep _ _ _ Lf λb hb o e=>(J'.pin (b,o) (YF _ (YF _ (ip hb e)))).1,λb hb=>?_⟩;obtain⟨o,e,d⟩:=T.obj _ _ Lf b hb;exact(J'.pin (b,o) (YF _ (YF _ (ip hb e)))).2.1
   cases ok with
   |false=>
    obtain⟨m',hm,w7⟩:=P1 _ _ _ (by simpa using q7);exact⟨m',hm,i+1,ys,us,R,H7,I7.unpinned,(Kb I7).1,(Kb I7).2,hv,hz,w7⟩
   |true=>
    have q7:te R H7 (λy H4=>NN (ys++[y]) R H4):=by simpa using q7
    have a7:=P0 _ s7 R H7 _ I7 q7;rw[eP,eW,eA,eE,eX] at a7;refine aE a7 λuy s8 Ls=>?_
    obtain⟨y,H8,I8,r8,q8⟩:=Ls;have U:=I8.pin (s2.heap.objs.size,LCg.lst us) (YF _ (List.mem_append_left _ ZW));have SS:us.length=ys.length:=hv.length.symm;refine append_at (hsz:=by rw[YG];omega) U.1 λh9 QN QO=>?_
    obtain⟨m',hm,w8⟩:=P1 _ _ _ q8;have QP:ac j (gB fp s5.heap) R H8 s8:=I8.pins_of λp hp=>I8.pin p (YF _ (YF _ hp))
    have I9:ac j (gB fp s5.heap) R H8 { s8 with heap:=h9 }:=QP.turned (t':=s8.toks) (it:=s2.heap.objs.size) (λb o hb e=>(QN.2 b hb).trans e) U.2.1 (by rw[eE];exact M_) (.inr (by rw[eS];exact YE _))
     (λx c e=>by
      rw[eE] at e;exact ZS (Lo x c (gF E e)))
     (λp hp=>by
      rw[eN] at hp;rcases YA.mp hp with z | z
      ·exact ZS (Mq p z)
      ·exact ZS (KQ _ (tR z).1))
    have Oq:ac j ([(s2.heap.objs.size,LCg.lst (us++[uy]))]++gB fp s5.heap) R H8 { s8 with heap:=h9 }:=I9.pins_of λp hp=>by
     rcases YA.mp hp with z | z
     ·have e:p=(s2.heap.objs.size,LCg.lst (us++[uy])):=by simpa using z
      subst e;exact⟨QO.trans (congrArg some (LCg.lst_snoc us uy)),U.2.1,U.2.2.1,U.2.2.2.1,λv z=>by cases z⟩
     ·exact I9.pin p (YF _ z)
    exact⟨m',hm,i+1,ys++[y],us++[uy],R,H8,Oq.unpinned,(Kb Oq).1,(Kb Oq).2,hv.append (.cons r8 .nil),by rw[ZJ,List.length_singleton];omega,w8⟩
 exact codeAny_compStart_list (S _ rfl) (T.self X.A 0 _ _ _ (T.keep 0 _ _ Ld λb _ o e=>t b o e) (S _ rfl))
def HX(k:Nat)(a:TI)(g:TG)(tc:TT)(te:TE):TE:=λσ H Q=>a σ H λJ b=>u4 J g tc te (λys H'=>∀p,H' p=none->Q (.ref p) (aM H' p (.lst ys))) (σ++List.replicate k none) b
theorem Ej{j tg a:Expr}{c:Zg}{scope JL:Scope}{N own N2:Zf}{f:Pos}{l:TI}{g:TG}{tc:TT}{te:TE}(n:er JL scope N own N2)(hc:X.calm=true)(hi:PI X tg a l)
  (p:∀C s H ex pn,PG (cZ X scope own N2 C s H ex pn) tg g) (ht:∀C s H ex pn,Au (cZ X scope own N2 C s H ex pn) c tc) (r:∀C s H ex pn,PE (cZ X scope own N2 C s H ex pn) j te)
  (t:X.env.scope=JL:=by rfl) (u:X.N=N:=by rfl) (y:∀x,foldedSetIterable a X.env x=pure x:=by intro _;rfl):
  PE X (.ListComp j [⟨tg,a,c,0⟩] scope f) (HX own.length l g tc te):=by
 intro a_ s σ H Q I h;rw[eval_ListComp];refine t9 (use:=none) n t u hc hi p ht r I h (λD C ys H' z m q A B hn d=>⟨m,hn,λh' E=>⟨.ref D,_,?_,rfl,q D A⟩⟩) y;exact B.turned (t':=z.toks) (λb o hb e=>(E.2 b hb).trans e) d.1 d.2.1 d.2.2.2.1 d.2.2.2.2.1 d.2.2.2.2.2
def HY(i k:Nat)(a:TI)(g:TG)(tc:TT)(te:TE):TS:=λD σ H=>a σ H λJ b=>u4 J g tc te (λys H'=>∀p,H' p=none->D.nx (σ.set i (some (.ref p))) (aM H' p (.lst ys))) (σ++List.replicate k none) b
theorem Ek{n tg c:Expr}{d:Zg}{scope JL:Scope}{N own N2:Zf}{f l r:Pos}{t:TI}{g:TG}{tc:TT}{te:TE}{i:Nat}{y:Str}(u:er JL scope N own N2)(hc:X.calm=true)
  (B:X.N.Nodup) (hy:X.N[i]?=some y) (hl:X.env.scope.names.lookup y=some .local)
  (hi:PI X tg c t)
  (E:∀C s H ex pn,PG (cZ X scope own N2 C s H ex pn) tg g) (ht:∀C s H ex pn,Au (cZ X scope own N2 C s H ex pn) d tc) (F:∀C s H ex pn,PE (cZ X scope own N2 C s H ex pn) n te)
  (G:swapsWith (.ListComp n [⟨tg,c,d,0⟩] scope f) (some (.Name y l)) r.line X.env=pure true:=by rfl)
  (J:X.env.scope=JL:=by rfl) (K:X.N=N:=by rfl) (L:∀x,foldedSetIterable c X.env x=pure x:=by intro _;rfl):
  PS X (.Assign [.Name y l] (.ListComp n [⟨tg,c,d,0⟩] scope f) r) (HY i own.length t g tc te):=by
 intro a_ s σ H D I h;rw[exec_Assign_Name_used _ _ _ _ G];refine Yb (Yk (Yb ?_));show wpAny _ X.A (do let _ ←comprehension (.ListComp n [⟨tg,c,d,0⟩] scope f) scope X.env _ (newList []) false (eval c X.env) (some (assign (.Name y l) X.env))) _ _ s;refine Yb (aE (t9 (use:=some (assign (.Name y l) X.env)) (QQ:=λ_ p=>SP X a_ D .next p) u J K hc hi E ht F I h (λD' C ys H' p m q O P hn j=>?_) L) (λ_ p hq=>Yc (Yc hq)));show wpAny _ X.A (assign (.Name y l) X.env (.ref D')) _ _ _;refine wpAny_assign_Name (tP P B hy (.inl hl) (show RelV (.ref D') (.ref D') from rfl) (λR S T=>?_) (.inr hl));obtain⟨a,U,ha⟩:=T;have V:C≠a:=by
  rcases ha with z | z
  ·rw[z];exact j.2.1
  ·exact(j.2.2.2.2.1 y a z).symm
 refine⟨m,hn.sameBut U V,λh' W=>⟨_,_,?_,q D' O⟩⟩;exact S.turned (t':=R.toks) (λb o hb e=>(W.2 b hb).trans e) j.1 j.2.1 j.2.2.2.1 j.2.2.2.2.1 j.2.2.2.2.2
end
def Do(x:Str):It:=⟨λi _=>i<x.cps.size,λi H v H'=>H'=H/\∃c,x.cps[i]?=some c/\v=.str ⟨#[c]⟩,λi _=>i=x.cps.size⟩
theorem Av{P:Zt}{w:World}{K:Za}{tg:Expr}(it:Addr)(x:Str)(t:Tok):Turn P w K tg (Do x) [it] it (λi h=>h.IsStrIter it "str_ascii_iterator" x t i) where
 mem:=by simp
 obj:=λi h st b hb=>by
  have e:b=it:=by simpa using hb
  subst e;obtain⟨o,e,c,d⟩:=st;exact⟨o,e,λv z=>by rw[d] at z;cases z⟩
 keep:=λi h h' st k=>let⟨o,e,r⟩:=st;⟨o,k it (by simp) o e,r⟩
 item:=by
  intro X f hw g hc i a_ s σ H E I a st j;subst f hw g;obtain⟨l,m,B,n,p,q⟩:=a it (by simp);have W:=Walks.strAscii (prog:=X.prog) (w:=X.w) (I.ok.hd hc) it x t;refine W.item i s _ _ j st λv h' tk hv A y=>?_
  obtain⟨c,u,D_,rfl⟩:=hv;have C:ac X a_ σ H { s with heap:=h',toks:=tk }:=I.turned (λb o hb e=>y b o (by simpa using hb) e) l m n p q;obtain⟨o,e,F,d⟩:=id A;exact⟨_,rfl,n6 (s:={ s with heap:=h',toks:=tk }) e F d 'a' ⟨.str ⟨#[c]⟩,H,C,⟨u,rfl⟩,⟨rfl,c,D_,rfl⟩,A,λb hb=>(a b hb).1⟩⟩
 done:=by
  intro X f hw g hc i a_ s σ H E I a st j;subst f hw g;obtain⟨l,m,B,n,p,q⟩:=a it (by simp);have W:=Walks.strAscii (prog:=X.prog) (w:=X.w) (I.ok.hd hc) it x t;have G:i=x.cps.size:=j;subst G;exact W.done s _ _ st λh' tk y=>⟨rfl,I.turned (λb o hb e=>y b o (by simpa using hb) e) l m n p q⟩
 self:=λ_ _ _ _ _ st h=>wpAny_pyIter_striter_ascii st h
theorem Aw{P:Zt}{w:World}{K:Za}{tg:Expr}(it:Addr)(x:Str)(t:Tok):Turn P w K tg (Do x) [it] it (λi h=>h.IsStrIter it "str_iterator" x t i) where
 mem:=by simp
 obj:=λi h st b hb=>by
  have e:b=it:=by simpa using hb
  subst e;obtain⟨o,e,c,d⟩:=st;exact⟨o,e,λv z=>by rw[d] at z;cases z⟩
 keep:=λi h h' st k=>let⟨o,e,r⟩:=st;⟨o,k it (by simp) o e,r⟩
 item:=by
  intro X f hw g hc i a_ s σ H E I a st j;subst f hw g;obtain⟨l,m,B,n,p,q⟩:=a it (by simp);have W:=Walks.strWide (prog:=X.prog) (w:=X.w) (I.ok.hd hc) it x t;refine W.item i s _ _ j st λv h' tk hv A y=>?_
  obtain⟨c,u,D_,rfl⟩:=hv;have C:ac X a_ σ H { s with heap:=h',toks:=tk }:=I.turned (λb o hb e=>y b o (by simpa using hb) e) l m n p q;obtain⟨o,e,F,d⟩:=id A;exact⟨_,rfl,n6 (s:={ s with heap:=h',toks:=tk }) e F d 'a' ⟨.str ⟨#[c]⟩,H,C,⟨u,rfl⟩,⟨rfl,c,D_,rfl⟩,A,λb hb=>(a b hb).1⟩⟩
 done:=by
  intro X f hw g hc i a_ s σ H E I a st j;subst f hw g;obtain⟨l,m,B,n,p,q⟩:=a it (by simp);have W:=Walks.strWide (prog:=X.prog) (w:=X.w) (I.ok.hd hc) it x t;have G:i=x.cps.size:=j;subst G;exact W.done s _ _ st λh' tk y=>⟨rfl,I.turned (λb o hb e=>y b o (by simpa using hb) e) l m n p q⟩
 self:=λ_ _ _ _ _ st h=>wpAny_pyIter_striter_wide st h
section
variable {X:Cx}
theorem Ax{bs:List Bool}{b_:Zd}(r:am (bs.map V.bl) b_){i:Nat}{v:Value}(h:b_[i]?=some v):v=.bool ((bs[i]?).getD false):=by
 have hl:=r.length;rw[ZF] at hl;have hi:i<bs.length:=by have:=(YB.mp h).1;omega
 obtain⟨u,hu,a⟩:=r.get (i:=i) (x:=V.bl bs[i]) (by rw[ZG,ZD hi];rfl);rw[h] at hu;cases hu;have a:v=Value.bool bs[i]:=a;rw[a,ZD hi];rfl
theorem range_all{bs:List Bool}{n:Nat}(hn:n=bs.length):((List.range n).all λi=>(bs[i]?).getD false)=bs.all id:=by
 subst hn;rw[Bool.eq_iff_iff,XE,XE];constructor
 ·intro h b hb
  obtain⟨i,hi,e⟩:=List.mem_iff_getElem.mp hb
  have:=h i (ZT.mpr hi)
  rw[ZD hi] at this;rw[←e];exact this
 ·intro h i hi
  have hi:=ZT.mp hi;rw[ZD hi];exact h _ (List.getElem_mem hi)
theorem B5(hc:X.calm=true):cJ X (.builtin "all") (λxs H Q=>∃p bs,xs=[.ref p]/\bw X.K H p (List.map V.bl bs)/\Q (.bl (bs.all id)) H):=by
 intro a_ s σ H xs us Q I r h;obtain⟨p,bs,rfl,hq,q⟩:=h;obtain⟨u,rfl,c⟩:=vals1 r;cases c;obtain⟨b_,a,pl,hz⟩:=I.list hq;have d:p<s.heap.objs.size:=by obtain⟨o,_,e,_⟩:=pl;exact Ye e
 refine call_all_walk (wpAny_pyIter_list pl.isList ⟨s.heap.objs.size,_,_,_,_,_,λi=>(bs[i]?).getD false,rfl,Walks.list (A:=X.A.in1) (I.ok.hd hc) s.heap.objs.size p (ZS d) b_.toArray,
  ⟨⟨_,Yg _ rfl,rfl,rfl⟩,pl.isList.push _⟩,λi v j l m hv f=>?_,λh' tk g=>?_⟩)
 ·have hv:b_[i]?=some v:=by simpa using hv
  rw[Ax a hv];exact wpAny_truthy_bool f
 ·have e:b_.toArray.size=bs.length:=by have:=a.length;rw[ZF] at this;simp;omega
  rw[range_all e];refine⟨.bl _,H,I.kept λb o e=>g b o ?_ (Yd _ e),rfl,q⟩;simp only[XG];exact ZS (Ye e)
theorem qZ{ys:Zf}:∀{us:Zd},am (ys.map V.str) us->StrsAre us ys:=by
 induction ys with
 |nil=>intro us r;cases r;exact .nil
 |cons y r c=>
  intro us h;cases h with
  |cons a b=>
   obtain⟨t,rfl⟩:=a;exact .cons y t (c b)
def rJoin(K:Za):V->List V->Hp->VK->Prop:=λx vs H Q=>∃a p ys,x=.str a/\vs=[.ref p]/\(bw K H p (ys.map V.str)\/bG K H p (ys.map V.str))/\(ys.map (·.length)).sum+ys.length*a.length<=16777216/\Q (.str (Str.join a ys)) H
theorem vw(a:Str)(ys:Zf):Txt.join a ys=Str.join a ys:=PySem.StrLaws.glued_eq_join a ys
theorem xY:Ai X "str.join" (rJoin X.K):=by
 intro a_ s σ H x xs v us Q I b rs h;obtain⟨c,p,ys,rfl,rfl,hq,hz,q⟩:=h;obtain⟨t,rfl⟩:=b;obtain⟨u,rfl,d⟩:=vals1 rs;cases d;rcases hq with hq | hq
 ·obtain⟨b_,a,pl,_⟩:=I.list hq
  exact join_list pl.isList (by simpa using qZ a) hz λt' k=>⟨.str _,H,I.tok _,⟨t',by rw[vw]⟩,q⟩
 ·obtain⟨b_,a,pl,_⟩:=I.tuple hq
  exact join_tuple pl (by simpa using qZ a) hz λt' k=>⟨.str _,H,I.tok _,⟨t',by rw[vw]⟩,q⟩
theorem mulOk_of{x:Str}{n:Int}(a:0<=n)(h:x.length*n.toNat<=1048576)(hn:n<=1048576):MulOk x n:=by
 refine⟨?_,λh1 b=>?_,λh1 b=>?_⟩
 ·rw[Bool.or_eq_false_iff]
  exact⟨ZO 'c',ZO 'c'⟩
 ·intro c
  have d:1<=n:=by omega
  have f:(2 ^ 63-1:Int) / n*n<=2 ^ 63-1:=Int.ediv_mul_le _ 'c';have g:(2 ^ 63-1:Int)<((2 ^ 63-1) / n+1)*n:=Int.lt_ediv_add_one_mul_self _ 'c';have j:((2 ^ 63-1:Int) / n+1)*n<=(x.length:Int)*n:=Int.mul_le_mul_of_nonneg_right 'c' 'c';have l:((x.length*n.toNat:Nat):Int)=(x.length:Int)*n:=by rw[Int.natCast_mul,Int.toNat_of_nonneg a]
  have m:((x.length*n.toNat:Nat):Int)<=1048576:=by omega
  omega
 ·show decide (x.length*n.toNat>sizeLine)=false
  rw[sizeLine_eq];exact ZO 'c'
theorem zj:ck X (binaryOp .Mult) (λx y H Q=>∃z n,x=.str z/\y=.int n/\0<=n/\n<=1048576/\z.length*n.toNat<=1048576/\Q (.str (Txt.mul z n)) H):=by
 intro a_ s σ H x y v u Q I a b h;obtain⟨z,n,rfl,rfl,c,hn,hz,q⟩:=h;obtain⟨t,rfl⟩:=a;obtain⟨t',rfl⟩:=b;exact SB.mul (mulOk_of c hz hn) λd k=>⟨.str _,H,I.tok _,⟨d,rfl⟩,q⟩
end
structure lJ (K:Za) (mg:Ze) (x:Str) (st:Stmt) (ps:Zf) (f:Addr) (fd:Zs):Prop where
 fn:qV K x x st f fd
 mgf:mg x=some (.ref f)
 b:Binds K fd ps []
theorem B6{K:Za}{h:Heap}{mg:Ze}{x:Str}{st:Stmt}{ps:Zf}{f:Addr}{oc:Value}{od an:Zm}{x_:Zn}{kV l_ pm i' ct:Value}(X:K.In h)(G:h.Ns mainGlobals mg)
  (a:PySem.W.nsIn K mainGlobals x=some (some (.ref f))) (l:K.lookup f=some ⟨oc,od,.func (PySem.W.fnOf x x (bU st) (aY st) (ax st) .none kV l_ pm an i' ct),x_⟩)
  (c:PySem.W.codeIn K i' x=true) (k:PySem.W.keepIn K (.ref f)=true)
  (hb:∀(kV l_ pm:Value) (an:Zm) (i' ct:Value) (us:Zd),us.length=ps.length->bindArgs (PySem.W.fnOf x x (bU st) (aY st) (ax st) .none kV l_ pm an i' ct) ⟨us,[]⟩=pure (ps.zip us)):
  lJ K mg x st ps f (PySem.W.fnOf x x (bU st) (aY st) (ax st) .none kV l_ pm an i' ct):=by
 have F:=vv (st:=st) l c k;exact⟨F,PySem.W.mg_of X G a,F.binds hb⟩
section
variable {X:Cx}{k:Nat}{f:Addr}{fd:Zs}{ps:Zf}{sp:Sp}{x:Str}{st:Stmt}{p pos:Pos}{e:Expr}{es:Zg}{t:TA}
theorem Gr(D:lJ X.K X.mg x st ps f fd)(F:dR X.prog X.w X.K X.mg X.base jw k f fd ps sp)(a:bQ k X.A)(ha:PA X (e::es) t)(c:Gl X x:=by rfl)(d:(x==("__debug__" : Str))=false:=by decide)
  (g:starEach (e::es) X.env=(false,eval e X.env)::starEach es X.env:=by rfl) (j:(backTo pos (starEach es X.env)).any (·.1)=false:=by rfl):PE X (.Call (.Name x p) (e::es) [] pos) (Dk sp [] E0 t):=
 D2 F a c D.mgf D.fn.kp D.b .nil Dn ha d g j
end
theorem Ay(K:Za){a b:String}{r:Bool}(h:(if(Value.type a==Value.type b)=true then some true else if PySem.W.kitMeta b=true then(fastBuiltinMro a).map (·.contains (.type b)) else none)=some r):
  PySem.W.kitOne K (.type a) (.type b)=some r:=h
def ar:Expr->Bool
 |.Starred _ _=>false
 |_=>true
theorem aX{e:Expr}{es:Zg}{env:Env}(h:ar e=true):starEach (e::es) env=(false,eval e env)::starEach es env:=by
 cases e<;>first | rfl | (exact absurd (show false=true from h) YH)
end L2
namespace XX
open PySem PySem.Spec PySem.W PyProof.Rows L2
abbrev Dp:List Value:=[.type "ValueError",.type "Exception",.type "BaseException",.type "object"]
def jx:List Value->Bool
 |.ref _::r=>jx r
 |l=>l==Dp
theorem q0{l:Zd}(h:jx l=true):l=Dp \/ ∃C r,l=.ref C::r/\jx r=true:=by
 unfold jx at h;split at h
 ·exact .inr ⟨_,_,rfl,h⟩
 ·exact .inl (beq_iff_eq.mp h)
theorem B7{T:String}(a:Dp.contains (.type T)=true):∀{l:Zd},jx l=true->l.contains (.type T)=true:=by
 intro l;induction l with
 |nil=>intro h;exact absurd h 'a'
 |cons c r b=>
  intro h;rcases q0 h with h | ⟨C,r',h,g⟩
  ·rw[h];exact a
  ·cases h;rw[List.contains_cons,b g,Bool.or_true]
theorem El{l:Zd}(h:jx l=true):l.isEmpty=false:=by
 rcases q0 h with h | ⟨C,r',h,g⟩<;>rw[h]<;>rfl
structure nc (K:Frag) (C:Addr):Prop where
 mro:(clsIn K C).any (λcd=>jx cd.mro&&cd.mro.contains (.ref C)&&cd.hasDict)=true
 sa:findIn K (.ref C) "__setattr__" = some (some (.builtin "object.__setattr__"))
section
variable {prog:Zt}{w:World}{A:Around}{E:Zb}{s:Shared}{K:Frag}{x C:Addr}{R:Result->Shared->Prop}
theorem nc.cd(c:nc K C):∃cd,clsIn K C=some cd/\jx cd.mro=true/\cd.mro.contains (.ref C)=true/\cd.hasDict=true:=by
 obtain⟨cd,h,g⟩:=any_some c.mro;simp only[YU] at g;exact⟨cd,h,g.1.1,g.1.2,g.2⟩
theorem nc.sub(c:nc K C)(X:K.In s.heap){T:String}(b:Dp.contains (.type T)=true){M:Model}:Looks M s.heap (isSubtype (.ref C) (.type T)) true:=by
 obtain⟨cd,hc,a,_,_⟩:=c.cd;exact looks_mroIn X (by unfold mroIn;rw[hc,XH,if_neg (by rw[El a];decide),B7 b a])
end
abbrev xC(C e dx:Addr):HO:=.ext λh=>∃a vs,h.get? e=some a/\a.cls=.ref C/\a.dict=some dx/\a.data=.fields vs
end XX
set_option maxHeartbeats 400000
namespace XX
open PySem PySem.Spec PySem.W PyProof.Rows L2
theorem Em:builtinKind "BaseException.__getattribute__" = some .slot:=by rfl'
theorem B8:splitId "BaseException.__getattribute__" = some ("BaseException","__getattribute__"):=by rfl'
structure pC (K:Frag) (C:Addr):Prop where
 c:nc K C
 ga:findIn K (.ref C) "__getattribute__" = some (some (.builtin "BaseException.__getattribute__"))
 gn:findIn K (.ref C) "__getattr__" = some none
section
variable {prog:Zt}{w:World}{A:Around}{E:Zb}{s:Shared}{K:Frag}{x C:Addr}{ox:Obj}{od:Option Obj}{name:Str}{expr fill:Bool}{Q:Zb}
theorem Je{tk:Tok}(X:K.In s.heap)(I:InstAt s.heap x ox C od)(c:pC K C)
  (h:wpAny 'f' A.in1 (Builtin.«object.__getattribute__» ⟨[.ref x,.str name tk],[]⟩) (λfin a=>match fin with | .done (.ret v)=>wpAny 'f' A (handedOut v) Q E a | _=>False) (λ_ _=>False) s):
  wpAny 'f' A (getAttrBy (.ref x) (.str name tk) fill expr) Q E s:=by
 have G:=PySem.F.attrBase_ValueError;have b:=G.ga.bind (.ref x);have sub:Looks 'f' s.heap (isInstance (.ref x) (.type "BaseException")) true:=I.type.andThen (c.c.sub X 'a');obtain⟨hp,g,d,t,os⟩:=s;have f:=I.type (M:=model prog w);have j:=looks_findIn (M:=model prog w) X c.ga;have L2:=looks_hook (M:=model prog w) (mc:=.ref C) X (r:=none) c.gn;have l:(Value.builtin "BaseException.__getattribute__" == Value.builtin "object.__getattribute__")=false:=by rfl'
 unfold getAttrBy;refine Yj (Yb (f.at (Yb (j.at ?_))));dsimp only;rw[l,Bool.and_false,if_neg 'a'];unfold getAttrByItsOwn;refine Yb (L2.at (Yb (wpAny_attempt (Yj ?_))));unfold callGetattribute;rw[if_neg (by cases expr<;>decide)];unfold boundAndCalled;rw[b];refine Yb (Yc ?_);show wpAny _ _ (call (.builtin "BaseException.__getattribute__") [.ref x,.str name tk]) _ _ _;refine wpAny_call (codeAny_call_builtin G.ga.plain F.entry_bexc_ga ?_);refine @check_slot 'f' _ _ ⟨hp,g,d,t,os⟩ "BaseException.__getattribute__" "BaseException" "__getattribute__" (.ref x) [.str name tk] [] _ Em B8 sub (F.args_bexc_ga _ _) ?_;refine wpAny_mono h (λfin a z=>?_) λ_ _ z=>z.elim
 rcases fin with(_ | _ | _ | _) | _<;>first | exact z | exact z.elim
theorem Jf{v:Value}(X:K.In s.heap)(I:InstAt s.heap x ox C od)(c:pC K C)(a:findObj K C od name=some (.value v))(b:handedIn v=true)(h:Q v { s with toks:=s.toks+1 }):
  wpAny 'f' A (getAttr (.ref x) name expr) Q E s:=by
 obtain⟨hp,g,d,t,os⟩:=s;have f:=I.type (M:=model prog w);have j:=looks_find (M:=model prog w) X I a;unfold getAttr;refine Yb (wpAny_mkText (Je X I c ?_));unfold Builtin.«object.__getattribute__»;refine Yb (Yc (Yb (Yc (Yb (f.at (Yb (j.at ?_)))))));refine Yc ?_;show wpAny _ _ (handedOut v) _ _ _;rw[handedOut_of b];exact Yc h
structure Jg (K:Frag) (C D:Addr) (b:Bool):Prop where
 g:pC K C
 ha:findIn K (.ref C) "__class__" = some (some (.builtin "object.__class__"))
 hn:specialIn K (.builtin "object.__class__") "__get__" = some (some (.builtin "getset_descriptor.__get__"))
 ht:takesIn K (.builtin "object.__class__")=some true
 ki:kitOne K (.ref C) (.ref D)=some b
end
section
variable {X:Cx}{a_:Zc}{σ:L2.St}{H:Hp}{s:Shared}{A:Around}{E:Zb}{a C dx:Addr}{fs:List (Str×V)}{f:Str}{v:V}{b:Bool}{Q:Zb}
theorem HZ(I:L2.ac X a_ σ H s)(e:H a=some (xC C a dx)){od:Obj}(l:H dx=some (.frz od (.xd fs))):∃(c:Obj) (mA:Ze),InstAt s.heap a c C (some od)/\(∀name,lookIn name od=some (mA name))/\∀g,dQ (fs.lookup g) (mA g):=by
 obtain⟨⟨c,vs,h1,m,n,o⟩,_⟩:=(show bg X.prog X.w H s.heap a (xC C a dx) from I.hok a _ e);obtain⟨d,mA,p,q⟩:=(show bg X.prog X.w H s.heap dx (.frz od (.xd fs)) from I.hok dx _ l);obtain⟨t,j,r⟩:=tT p;rw[d] at j;cases j;refine⟨c,mA,⟨h1,m,?_,?_⟩,r,q⟩
 ·unfold notCls;rw[o]
 ·rw[n];exact d
theorem En{b:Bool}{od:Obj}(I:L2.ac X a_ σ H s)(e:H a=some (xC C a dx))(m:H dx=some (.frz od (.xd fs)))(c:pC X.K C)(n:cB X.K C f)(l:fs.lookup f=some v)(h:∀u g,L2.ac X a_ σ H g->RelV v u->Q u g):
  wpAny 'b' A (getAttr (.ref a) f b) Q E s:=by
 obtain⟨o,mA,J,hl,r⟩:=HZ I e m;have d:=r f;rw[l] at d;cases q:mA f with
 |none=>rw[q] at d;exact d.elim
 |some u=>
  rw[q] at d;have j:RelV v u:=d;obtain⟨cd,hc,_,_,hd⟩:=c.c.cd;exact Jf I.kIn J c (findObj_own (by unfold hasDictIn;rw[hc];exact hd) n rfl (by rw[hl,q])) (tU j) (h u _ (I.tok _) j)
end
end XX
namespace DD
open PySem PySem.Spec PyProof.Rows L2
inductive D where
 |non | bl (b:Bool) | int (i:Int) | str (x:Str) | tup (ds:List D) | ref (a:Addr) | ty (n:String)
section
variable {α β:Type}{F G:α->β->Prop}
theorem Az:∀{l:List α}{m:List β},Paired F l m->l.length=m.length
 |_,_,.nil=>rfl
 |_,_,.cons _ t=>by simp[Az t]
theorem dU:∀{l:List α}{m:List β}{i:Nat}{a:α},Paired F l m->l[i]?=some a->∃b,m[i]?=some b/\F a b
 |_,_,_,_,.nil,e=>by simp at e
 |_,_,0,_,.cons r _,e=>by simp at e;subst e;exact⟨_,rfl,r⟩
 |_,_,i+1,a,.cons _ t,e=>by
  obtain⟨b,h1,c⟩:=dU (i:=i) (a:=a) t (by simpa using e);exact⟨b,by simpa using h1,c⟩
theorem cv:∀{l a:List α}{m m':List β},Paired F l m->Paired F a m'->Paired F (l++a) (m++m')
 |_,_,_,_,.nil,s=>s
 |_,_,_,_,.cons r t,s=>.cons r (cv t s)
theorem xZ:∀{l:List α}{m:List β}(n:Nat),Paired F l m->Paired F (l.take n) (m.take n)
 |_,_,0,_=>.nil
 |_,_,_+1,.nil=>.nil
 |_,_,n+1,.cons r t=>.cons r (xZ n t)
theorem x0:∀{l:List α}{m:List β}(n:Nat),Paired F l m->Paired F (l.drop n) (m.drop n)
 |_,_,0,r=>r
 |_,_,_+1,.nil=>.nil
 |_,_,n+1,.cons _ t=>x0 n t
theorem vx{a:α}{b:β}(r:F a b):∀{l:List α}{m:List β}(i:Nat),Paired F l m->Paired F (l.set i a) (m.set i b)
 |_,_,_,.nil=>.nil
 |_,_,0,.cons _ t=>.cons r t
 |_,_,i+1,.cons q t=>.cons q (vx r i t)
theorem AA(f:∀a b,F a b->G a b):∀{l:List α}{m:List β},Paired F l m->Paired G l m
 |_,_,.nil=>.nil
 |_,_,.cons r t=>.cons (f _ _ r) (AA f t)
theorem AB{l:List α}{m:List β}(h:Paired F l m):∀n,Paired F (List.replicate n l).flatten (List.replicate n m).flatten
 |0=>.nil
 |n+1=>by rw[YV,YV,YW,YW];exact cv h (AB h n)
theorem iS{a:α}{b:β}(r:F a b):∀n,Paired F (List.replicate n a) (List.replicate n b)
 |0=>.nil
 |n+1=>.cons r (iS r n)
end
section
variable (K:Za)(H:Hp)
mutual
noncomputable def RV:D->V->Prop
 |.non,v=>v=.non
 |.bl b,v=>v=.bl b
 |.int i,v=>v=.int i
 |.str x,v=>v=.str x
 |.ref a,v=>v=.ref a
 |.ty n,v=>v=.ty n
 |.tup ds,v=>∃a xs,v=.ref a/\bG K H a xs/\ag ds xs
noncomputable def ag:List D->List V->Prop
 |[],xs=>xs=[]
 |d::ds,xs=>∃v vs,xs=v::vs/\RV d v/\ag ds vs
end
end
section
variable {K:Za}{H H' P4:Hp}
theorem ag.p:∀{ds:List D}{xs:List V},ag K H ds xs->Paired (RV K H) ds xs
 |[],_,h=>by rw[ag] at h;subst h;exact .nil
 |d::ds,_,h=>by
  rw[ag] at h;obtain⟨v,vs,rfl,r,t⟩:=h;exact .cons r (ag.p t)
theorem ag.of:∀{ds:List D}{xs:List V},Paired (RV K H) ds xs->ag K H ds xs
 |_,_,.nil=>by rw[ag]
 |_,_,.cons r t=>by rw[ag];exact⟨_,_,rfl,r,ag.of t⟩
theorem ag.nil:ag K H [] []:=by rw[ag]
theorem ag.cons{d:D}{v:V}{ds:List D}{vs:List V}(r:RV K H d v)(t:ag K H ds vs):ag K H (d::ds) (v::vs):=by rw[ag];exact⟨_,_,rfl,r,t⟩
theorem ag.len{ds:List D}{xs:List V}(h:ag K H ds xs):ds.length=xs.length:=Az h.p
def Kp(H H':Hp):Prop:=(∀a xs,Rd H a (.tup xs)->Rd H' a (.tup xs))/\∀a u o,H a=some (.frz u o)->H' a=some (.frz u o)
theorem Kp.refl(H:Hp):Kp H H:=⟨λ_ _ h=>h,λ_ _ _ h=>h⟩
theorem Kp.trans(a:Kp H H')(b:Kp H' P4):Kp H P4:=⟨λc xs h=>b.1 c xs (a.1 c xs h),λc u o h=>b.2 c u o (a.2 c u o h)⟩
theorem Kp.new{p:Addr}{o:HO}(h:H p=none):Kp H (aM H p o):=⟨λa xs r=>by
 rcases r with r | ⟨u,r⟩
 ·exact .inl (by rw[aG (bt r h)];exact r)
 ·exact .inr ⟨u,by rw[aG (bt r h)];exact r⟩,λa u o r=>by rw[aG (bt r h)];exact r⟩
def Dq:HO->Prop
 |.tup _=>False
 |.frz _ _=>False
 |_=>True
theorem Kp.put{p:Addr}{o o':HO}(h:H p=some o)(n:Dq o):Kp H (aM H p o'):=⟨λa xs r=>by
 rcases r with r | ⟨u,r⟩
 ·have:a≠p:=λe=>by subst e;rw[h] at r;cases r;exact n
  exact .inl (by rw[aG this];exact r)
 ·have:a≠p:=λe=>by subst e;rw[h] at r;cases r;exact n
  exact .inr ⟨u,by rw[aG this];exact r⟩,λa u o r=>by
  have:a≠p:=λe=>by subst e;rw[h] at r;cases r;exact n
  rw[aG this];exact r⟩
theorem Kp.sq(t:Kp H H'){a:Addr}{xs:List V}(h:bG K H a xs):bG K H' a xs:=by
 rcases h with h | h
 ·exact .inl (t.1 a xs h)
 ·exact .inr h
mutual
theorem RV.mono(t:Kp H H'):∀(d:D){v:V},RV K H d v->RV K H' d v
 |.non,_,h=>by rw[RV] at h ⊢;exact h
 |.bl _,_,h=>by rw[RV] at h ⊢;exact h
 |.int _,_,h=>by rw[RV] at h ⊢;exact h
 |.str _,_,h=>by rw[RV] at h ⊢;exact h
 |.ref _,_,h=>by rw[RV] at h ⊢;exact h
 |.ty _,_,h=>by rw[RV] at h ⊢;exact h
 |.tup ds,_,h=>by
  rw[RV] at h ⊢;obtain⟨a,xs,e,s,r⟩:=h;exact⟨a,xs,e,t.sq s,ag.mono t ds r⟩
theorem ag.mono(t:Kp H H'):∀(ds:List D){xs:List V},ag K H ds xs->ag K H' ds xs
 |[],_,h=>by rw[ag] at h ⊢;exact h
 |d::ds,_,h=>by
  rw[ag] at h ⊢;obtain⟨v,vs,e,r,q⟩:=h;exact⟨v,vs,e,RV.mono t d r,ag.mono t ds q⟩
end
theorem RV.non_{v:V}:RV K H .non v↔v=.non:=by rw[RV]
theorem RV.bl_{v:V}{b:Bool}:RV K H (.bl b) v↔v=.bl b:=by rw[RV]
theorem RV.int_{v:V}{b:Int}:RV K H (.int b) v↔v=.int b:=by rw[RV]
theorem RV.str_{v:V}{b:Str}:RV K H (.str b) v↔v=.str b:=by rw[RV]
theorem RV.ref_{v:V}{b:Addr}:RV K H (.ref b) v↔v=.ref b:=by rw[RV]
theorem RV.ty_{v:V}{b:String}:RV K H (.ty b) v↔v=.ty b:=by rw[RV]
theorem RV.tup_{v:V}{ds:List D}:RV K H (.tup ds) v ↔ ∃a xs,v=.ref a/\bG K H a xs/\ag K H ds xs:=by rw[RV]
inductive MO where
 |lst (ds:List D) | rol (ds:List D) | dic (d_:List (Key×D)) | rod (d_:List (Key×D)) | ins (C:Addr) (fs:List (Str×D)) | exc (C:Addr) (f:Str) (d:D)
abbrev MH:=Addr->Option MO
def ad(M:MH)(a:Addr)(o:MO):MH:=λb=>if b=a then some o else M b
theorem ab{M:MH}{a:Addr}{o:MO}:ad M a o a=some o:=by unfold ad;rw[if_pos rfl]
theorem aZ{M:MH}{a b:Addr}{o:MO}(h:b≠a):ad M a o b=M b:=by unfold ad;rw[if_neg h]
def RO(K:Za)(H:Hp)(a:Addr):MO->Prop
 |.lst ds=>∃xs,H a=some (.lst xs)/\ag K H ds xs
 |.rol ds=>∃xs,Rd H a (.lst xs)/\ag K H ds xs
 |.dic c=>∃b:List (Key×V),H a=some (.dK b)/\b.map (·.1)=c.map (·.1)/\ag K H (c.map (·.2)) (b.map (·.2))
 |.rod c=>∃(u:Obj) (b:List (Key×V)),H a=some (.frz u (.dK b))/\b.map (·.1)=c.map (·.1)/\ag K H (c.map (·.2)) (b.map (·.2))
 |.exc C f d=>∃(dx:Addr) (od:Obj) (v:V),H a=some (XX.xC C a dx)/\H dx=some (.frz od (.xd [(f,v)]))/\RV K H d v
 |.ins C fs=>∃(dx:Addr) (g:List (Str×V)),H a=some (.ins C dx g)/\g.map (·.1)=fs.map (·.1)/\ag K H (fs.map (·.2)) (g.map (·.2))
def RM(K:Za)(M:MH)(H:Hp):Prop:=∀a o,M a=some o->RO K H a o
theorem RO.stay{a:Addr}{o:MO}(h:RO K H a o)(t:Kp H H')(e:H' a=H a):RO K H' a o:=by
 cases o with
 |lst ds=>obtain⟨xs,q,r⟩:=h;exact⟨xs,e.trans q,ag.mono t _ r⟩
 |rol ds=>
  obtain⟨xs,q,r⟩:=h;refine⟨xs,?_,ag.mono t _ r⟩;rcases q with q | ⟨u,q⟩
  ·exact .inl (e.trans q)
  ·exact .inr ⟨u,e.trans q⟩
 |dic c=>obtain⟨b,q,k,r⟩:=h;exact⟨b,e.trans q,k,ag.mono t _ r⟩
 |rod c=>obtain⟨u,b,q,k,r⟩:=h;exact⟨u,b,e.trans q,k,ag.mono t _ r⟩
 |exc C f d=>obtain⟨dx,od,v,q,k,r⟩:=h;exact⟨dx,od,v,e.trans q,t.2 _ _ _ k,RV.mono t _ r⟩
 |ins C fs=>obtain⟨dx,g,q,k,r⟩:=h;exact⟨dx,g,e.trans q,k,ag.mono t _ r⟩
theorem RO.some{a:Addr}{o:MO}(h:RO K H a o):H a≠none:=by
 cases o with
 |lst ds=>obtain⟨xs,q,_⟩:=h;rw[q];exact λz=>nomatch z
 |rol ds=>obtain⟨xs,q | ⟨u,q⟩,_⟩:=h<;>(rw[q];exact λz=>nomatch z)
 |dic b=>obtain⟨c,q,_⟩:=h;rw[q];exact λz=>nomatch z
 |rod b=>obtain⟨u,c,q,_⟩:=h;rw[q];exact λz=>nomatch z
 |exc C f d=>obtain⟨dx,od,v,q,_⟩:=h;rw[q];exact λz=>nomatch z
 |ins C fs=>obtain⟨dx,g,q,_⟩:=h;rw[q];exact λz=>nomatch z
theorem RM.fresh{M:MH}{p:Addr}(h:RM K M H)(e:H p=none):M p=none:=by
 cases q:M p with
 |none=>rfl
 |some o=>exact absurd e (h p o q).some
theorem RM.newH{M:MH}{p:Addr}{o:HO}(h:RM K M H)(e:H p=none):RM K M (aM H p o):=λa u q=>
 (h a u q).stay (Kp.new e) (aG (λz=>by subst z;exact(h a u q).some e))
theorem RM.new{M:MH}{p:Addr}{o:HO}{m:MO}(h:RM K M H)(e:H p=none)(r:RO K (aM H p o) p m):RM K (ad M p m) (aM H p o):=λa u q=>by
 by_cases z:a=p
 ·subst z;rw[ab] at q;cases q;exact r
 ·rw[aZ z] at q;exact(h a u q).stay (Kp.new e) (aG z)
theorem RM.put{M:MH}{p:Addr}{o o':HO}{m:MO}(h:RM K M H)(e:H p=some o)(n:Dq o)(r:RO K (aM H p o') p m):RM K (ad M p m) (aM H p o'):=λa u q=>by
 by_cases z:a=p
 ·subst z;rw[ab] at q;cases q;exact r
 ·rw[aZ z] at q;exact(h a u q).stay (Kp.put e n) (aG z)
abbrev DS:=List (Option D)
abbrev Zw:=List (Key×D)
abbrev Zv:=Option D
def RS(K:Za)(H:Hp)(σ:DS)(ρ:L2.St):Prop:=Paired (λ(od:Zv) (a:Option V)=>∀d,od=some d->∃v,a=some v/\RV K H d v) σ ρ
theorem RS.mono{σ:DS}{ρ:L2.St}(t:Kp H H')(h:RS K H σ ρ):RS K H' σ ρ:=AA (λod a r d e=>let⟨v,q,s⟩:=r d e;⟨v,q,RV.mono t d s⟩) h
theorem RS.get{σ:DS}{ρ:L2.St}{i:Nat}{d:D}(h:RS K H σ ρ)(e:σ[i]?=some (some d)):∃v,ρ[i]?=some (some v)/\RV K H d v:=by
 obtain⟨a,q,r⟩:=dU h e;obtain⟨v,rfl,s⟩:=r d rfl;exact⟨v,q,s⟩
theorem RS.set{σ:DS}{ρ:L2.St}{d:D}{v:V}(i:Nat)(h:RS K H σ ρ)(r:RV K H d v):RS K H (σ.set i (some d)) (ρ.set i (some v)):=vx (by intro d' e;cases e;exact⟨v,rfl,r⟩) i h
theorem RS.more{σ:DS}{ρ:L2.St}(n:Nat)(h:RS K H σ ρ):RS K H (σ++List.replicate n none) (ρ++List.replicate n none):=cv h (iS (λd e=>nomatch e) n)
end
abbrev DK:=D->MH->Prop
abbrev WE:=DS->MH->DK->Prop
abbrev WT:=DS->MH->(Bool->MH->Prop)->Prop
abbrev WA:=DS->MH->(List D->MH->Prop)->Prop
def lift(K:Za)(H:Hp)(Q:DK):VK:=λv H'=>Kp H H'/\∃d M',RV K H' d v/\RM K M' H'/\Q d M'
def u5(K:Za)(H:Hp)(Q:Bool->MH->Prop):Bool->Hp->Prop:=λb H'=>Kp H H'/\∃M',RM K M' H'/\Q b M'
def H9(K:Za)(H:Hp)(n:Nat)(Q:List D->MH->Prop):List V->Hp->Prop:=λvs H'=>Kp H H'/\∃ds M',ag K H' ds vs/\ds.length=n/\RM K M' H'/\Q ds M'
section
variable (X:Cx)
def tW(e:Expr):TE:=λρ H Q=>∀a_ s,ac X a_ ρ H s->wpAny 'b' X.A (eval e X.env) (EP X a_ ρ Q) X.xe s
def oY(e:Expr):TT:=λρ H Q=>∀a_ s,ac X a_ ρ H s->wpAny 'b' X.A (isTrue e X.env (eval e X.env)) (TP X a_ ρ Q) X.xe s
def iT(es:Zg):TA:=λρ H Q=>∀a a_ s,ac X a_ ρ H s->wpAny 'b' X.A (spliced (backTo a (starEach es X.env))) (AP X a_ ρ Q) X.xe s
def ya(st:Stmt):L2.TS:=λD ρ H=>∀a_ s,ac X a_ ρ H s->wpAny 'b' X.A (exec st X.env) (SP X a_ D) X.xe s
end
section
variable {X:Cx}{e a b c:Expr}{es:Zg}{ρ:L2.St}{H H':Hp}{pos:Pos}
theorem bD(e:Expr):PE X e (tW X e):=λa_ s _ _ _ I h=>h a_ s I
theorem ng(e:Expr):PT X e (oY X e):=λa_ s _ _ _ I h=>h a_ s I
theorem j9(es:Zg):PA X es (iT X es):=λpos a_ s _ _ _ I h=>h pos a_ s I
theorem bZ{t:TE}{Q:VK}(h:PE X e t)(q:t ρ H Q):tW X e ρ H Q:=λa_ s I=>h a_ s ρ H Q I q
theorem vy{t:TT}{Q:Bool->Hp->Prop}(h:PT X e t)(q:t ρ H Q):oY X e ρ H Q:=λa_ s I=>h a_ s ρ H Q I q
theorem AC{t:TA}{Q:List V->Hp->Prop}(h:PA X es t)(q:t ρ H Q):iT X es ρ H Q:=λpos a_ s I=>h pos a_ s ρ H Q I q
theorem aJ{Q d:VK}(h:tW X e ρ H Q)(f:∀v H',Q v H'->d v H'):tW X e ρ H d:=λa_ s I=>aE (h a_ s I) λ_ _ ⟨v,H',g,r,q⟩=>⟨v,H',g,r,f v H' q⟩
theorem fE{Q d:Bool->Hp->Prop}(h:oY X e ρ H Q)(f:∀v H',Q v H'->d v H'):oY X e ρ H d:=λa_ s I=>aE (h a_ s I) λ_ _ ⟨H',g,q⟩=>⟨H',g,f _ H' q⟩
theorem cR{Q d:List V->Hp->Prop}(h:iT X es ρ H Q)(f:∀v H',Q v H'->d v H'):iT X es ρ H d:=λpos a_ s I=>aE (h pos a_ s I) λ_ _ ⟨v,H',g,r,q⟩=>⟨v,H',g,r,f v H' q⟩
theorem cy{K:Za}{Q:DK}{v:V}{d:Hp}(k:Kp H H')(h:lift K H' Q v d):lift K H Q v d:=⟨k.trans h.1,h.2⟩
theorem vz{K:Za}{Q:Bool->MH->Prop}{v:Bool}{d:Hp}(k:Kp H H')(h:u5 K H' Q v d):u5 K H Q v d:=⟨k.trans h.1,h.2⟩
theorem ay{K:Za}{Q:DK}{v:V}{d:D}{M:MH}(r:RV K H d v)(m:RM K M H)(q:Q d M):lift K H Q v H:=⟨Kp.refl H,d,M,r,m,q⟩
def aL(X:Cx)(e:Expr)(t:WE):Prop:=∀σ M ρ H Q,RS X.K H σ ρ->RM X.K M H->t σ M Q->tW X e ρ H (lift X.K H Q)
def jy(X:Cx)(e:Expr)(t:WT):Prop:=∀σ M ρ H Q,RS X.K H σ ρ->RM X.K M H->t σ M Q->oY X e ρ H (u5 X.K H Q)
def et(X:Cx)(es:Zg)(t:WA):Prop:=∀σ M ρ H Q,RS X.K H σ ρ->RM X.K M H->t σ M Q->iT X es ρ H (H9 X.K H es.length Q)
def aN(b:Bool)(A B:Prop):Prop:=match b with
 |true=>A
 |false=>B
theorem bu{A B:Prop}:aN true A B=A:=rfl
theorem aq{A B:Prop}:aN false A B=B:=rfl
theorem pE{b:Bool}{A B:Prop}(h1:b=true->A)(d:b=false->B):aN b A B:=by
 cases b with
 |true=>exact h1 rfl
 |false=>exact d rfl
theorem kG{p:Prop}[Decidable p]{A B:Prop}(h1:p->A)(d:¬p->B):aN (decide p) A B:=pE (λe=>h1 (XI e)) (λe=>d (of_decide_eq_false e))
def gR(σ:DS)(i:Nat)(Q:D->Prop):Prop:=match σ[i]? with
 |some (some d)=>Q d
 |_=>False
theorem Ep{σ:DS}{i:Nat}{Q:D->Prop}(h:gR σ i Q):∃d,σ[i]?=some (some d)/\Q d:=by
 unfold gR at h;split at h
 ·exact⟨_,by assumption,h⟩
 ·exact Yh h
theorem Er{i:Nat}{x:Str}(f:X.N[i]?=some x)(hv:vd X.env.scope x)(hd:(x==("__debug__" : Str))=false)(g:(x==("__classdict__" : Str))=false):aL X (.Name x pos) (λσ M Q=>gR σ i λd=>Q d M):=by
 intro σ M ρ H Q rs j h;obtain⟨d,e,q⟩:=Ep h;obtain⟨v,e',r⟩:=rs.get e;exact bZ (FE f hv hd g) ⟨v,e',ay r j q⟩
theorem n9{d:D}{v:V}(h:PE X e (tC v))(r:∀H,RV X.K H d v):aL X e (λ_ M Q=>Q d M):=λ_ _ _ H _ _ f q=>bZ h (ay (r H) f q)
theorem Et{i:Int}{j:Nat}:aL X (.Constant (.int i) j pos) (λ_ M Q=>Q (.int i) M):=n9 FF λ_=>RV.int_.2 rfl
theorem Gs{i:Bool}{j:Nat}:aL X (.Constant (.bool i) j pos) (λ_ M Q=>Q (.bl i) M):=n9 Ht λ_=>RV.bl_.2 rfl
theorem Eu{i:Str}{j:Nat}:aL X (.Constant (.str i) j pos) (λ_ M Q=>Q (.str i) M):=n9 FH λ_=>RV.str_.2 rfl
theorem Ev{j:Nat}:aL X (.Constant .none j pos) (λ_ M Q=>Q .non M):=n9 FG λ_=>RV.non_.2 rfl
def nh(K:Za)(mg:Ze)(x:Str)(d:D):Prop:=∃v u,mg x=some u/\RelV v u/\∀H,RV K H d v
theorem B9{x:Str}{d:D}(f:Gl X x)(h:nh X.K X.mg x d)(hd:(x==("__debug__" : Str))=false):aL X (.Name x pos) (λ_ M Q=>Q d M):=by
 obtain⟨v,u,hm,r,g⟩:=h;exact n9 (DM f hm r hd) g
def oW(X:Cx)(f:Zk):R2:=λx y H Q=>∀a_ s ρ v u,ac X a_ ρ H s->RelV x v->RelV y u->wpAny 'b' X.A (f v u) (EP X a_ ρ Q) X.xe s
theorem Ca(f:Zk):ck X f (oW X f):=λa_ s σ _ _ _ v u _ I d g h=>h a_ s σ v u I d g
theorem dW{f:Zk}{r:R2}{x y:V}{Q:VK}(h:ck X f r)(q:r x y H Q):oW X f x y H Q:=λa_ s ρ v u I d g=>h a_ s ρ H x y v u Q I d g q
theorem s0{f:Zk}{x y:V}{Q d:VK}(h:oW X f x y H Q)(g:∀v H',Q v H'->d v H'):oW X f x y H d:=λa_ s ρ v u I j l=>aE (h a_ s ρ v u I j l) λ_ _ ⟨v,H',m,r,q⟩=>⟨v,H',m,r,g v H' q⟩
abbrev ni:=D->D->MH->DK->Prop
def gG(X:Cx)(f:Zk)(r:ni):Prop:=∀x y v u H M Q,RV X.K H x v->RV X.K H y u->RM X.K M H->r x y M Q->oW X f v u H (lift X.K H Q)
theorem two{g j:WE}{σ:DS}{M:MH}{R:D->D->MH->Prop}(ha:aL X a g)(hb:aL X b j)(rs:RS X.K H σ ρ)(n:RM X.K M H)(h:g σ M λx M1=>j σ M1 λy M2=>R x y M2):
  tW X a ρ H λv f=>tW X b ρ f λu d=>Kp H d/\∃x y M2,RV X.K d x v/\RV X.K d y u/\RM X.K M2 d/\R x y M2:=by
 refine aJ (ha σ M ρ H _ rs n h) ?_;rintro v f ⟨l,x,M1,o,p,h1⟩;refine aJ (hb σ M1 ρ f _ (rs.mono l) p h1) ?_;rintro u d ⟨m,y,M2,q,r,t⟩;exact⟨l.trans m,x,y,M2,RV.mono m x o,q,r,t⟩
def io(r:ni)(d f:WE):WE:=λσ M Q=>d σ M λx M1=>f σ M1 λy M2=>r x y M2 Q
theorem Ew{op:Operator}{r:ni}{d f:WE}(g:gG X (binaryOp op) r)(ha:aL X a d)(hb:aL X b f):aL X (.BinOp a op b pos) (io r d f):=by
 intro σ M ρ H Q rs j h;refine bZ (HD (Ca _) (bD a) (bD b)) ?_;show tW X a ρ H _;refine aJ (two ha hb rs j h) λv l q1=>?_
 show tW X b ρ l _;refine aJ q1 λu m n=>?_
 obtain⟨k,x,y,M2,o,p,t,q⟩:=n;exact s0 (g x y v u m M2 Q o p t q) λ_ _=>cy k
theorem Ex{op:CmpOp}{r:ni}{d f:WE}(g:gG X (compareOp op) r)(ha:aL X a d)(hb:aL X b f)(hm:behindInMarks op b=false):aL X (.Compare a [op] [b] pos) (io r d f):=by
 intro σ M ρ H Q rs j h;refine bZ (DV (Ca _) (bD a) (bD b) hm) ?_;show tW X a ρ H _;refine aJ (two ha hb rs j h) λv l q1=>?_
 show tW X b ρ l _;refine aJ q1 λu m n=>?_
 obtain⟨k,x,y,M2,o,p,t,q⟩:=n;exact s0 (g x y v u m M2 Q o p t q) λ_ _=>cy k
def gu(x:D)(Q:Bool->Prop):Prop:=match x with
 |.bl b=>Q b
 |_=>False
theorem lK{x:D}{Q:Bool->Prop}(h:gu x Q):∃b,x=.bl b/\Q b:=by
 cases x with
 |bl b=>exact⟨b,rfl,h⟩
 |_=>exact Yh h
def lL(t:WE):WT:=λσ M Q=>t σ M λx M1=>gu x λb=>Q b M1
theorem Ey{op:CmpOp}{r:ni}{g j:WE}(l:gG X (compareOp op) r)(ha:aL X a g)(hb:aL X b j)(hm:behindInMarks op b=false):jy X (.Compare a [op] [b] pos) (lL (io r g j)):=by
 intro σ M ρ H Q rs m h;refine vy (DW (Ca _) (bD a) (bD b) hm) ?_;show tW X a ρ H _;refine aJ (two ha hb rs m h) λv n q1=>?_
 show tW X b ρ n _;refine aJ q1 λu o p=>?_
 obtain⟨k,x,y,M2,t,A,B,q⟩:=p;refine s0 (l x y v u o M2 _ t A B q) λz J C=>?_
 obtain⟨E,d,F,G,I,f⟩:=C;obtain⟨c,rfl,f⟩:=lK f;exact⟨c,RV.bl_.1 G,k.trans E,F,I,f⟩
def pF(t u:WT):WT:=λσ M Q=>t σ M λc M1=>aN c (u σ M1 Q) (Q false M1)
def vA(t u:WT):WT:=λσ M Q=>t σ M λc M1=>aN c (Q true M1) (u σ M1 Q)
def pG(t:WT):WT:=λσ M Q=>t σ M λc M1=>Q (!c) M1
theorem Ez{t:WT}(h:jy X a t):jy X (.UnaryOp .Not a pos) (pG t):=by
 intro σ M ρ H Q rs d q;refine vy (FK (ng a)) ?_;show oY X a ρ H _;exact fE (h σ M ρ H _ rs d q) λc f q1=>q1
def q9(X:Cx)(e:Expr)(t:WT):Prop:=∀σ M ρ H Q,RS X.K H σ ρ->RM X.K M H->t σ M Q->∀d a_ s,ac X a_ ρ H s->wpAny 'b' X.A (isTrue e X.env d) (TP X a_ ρ (u5 X.K H Q)) X.xe s
theorem q9.pt{t:WT}(h:q9 X e t):jy X e t:=λσ M ρ H Q rs d q a_ s I=>h σ M ρ H Q rs d q _ a_ s I
def Dr(X:Cx)(e:Expr):TT:=λρ H Q=>∀d a_ s,ac X a_ ρ H s->wpAny 'b' X.A (isTrue e X.env d) (TP X a_ ρ Q) X.xe s
theorem Gu(e:Expr):PW X e (Dr X e):=λd a_ s _ _ _ I h=>h d a_ s I
theorem vB{Q g:Bool->Hp->Prop}(h:Dr X e ρ H Q)(f:∀v H',Q v H'->g v H'):Dr X e ρ H g:=λd a_ s I=>aE (h d a_ s I) λ_ _ ⟨H',j,q⟩=>⟨H',j,f _ H' q⟩
theorem rc{t:TT}{Q:Bool->Hp->Prop}(h:PW X e t)(q:t ρ H Q):Dr X e ρ H Q:=λd a_ s I=>h d a_ s ρ H Q I q
theorem Cb{t:WT}(h:jy X a t):q9 X (.BoolOp .And [a] pos) t:=λσ M ρ H Q rs d q=>rc (DO (ng a)) (h σ M ρ H Q rs d q)
theorem EA{t:WT}(h:jy X a t):q9 X (.BoolOp .Or [a] pos) t:=λσ M ρ H Q rs d q=>rc (FI (ng a)) (h σ M ρ H Q rs d q)
theorem yb{t u:WT}{rest:Zg}(h:jy X a t)(h':q9 X (.BoolOp .And (b::rest) pos) u):q9 X (.BoolOp .And (a::b::rest) pos) (pF t u):=by
 intro σ M ρ H Q rs g q;refine rc (FJ (ng a) (Gu _)) ?_;show oY X a ρ H _;refine fE (h σ M ρ H _ rs g q) λc j l=>?_
 obtain⟨d,M1,f,q1⟩:=l;cases c with
 |true=>exact vB (h' σ M1 ρ j Q (rs.mono d) f q1) λ_ _=>vz d
 |false=>exact⟨d,M1,f,q1⟩
theorem AD{t u:WT}{rest:Zg}(h:jy X a t)(h':q9 X (.BoolOp .Or (b::rest) pos) u):q9 X (.BoolOp .Or (a::b::rest) pos) (vA t u):=by
 intro σ M ρ H Q rs g q;refine rc (Hu (ng a) (Gu _)) ?_;show oY X a ρ H _;refine fE (h σ M ρ H _ rs g q) λc j l=>?_
 obtain⟨d,M1,f,q1⟩:=l;cases c with
 |false=>exact vB (h' σ M1 ρ j Q (rs.mono d) f q1) λ_ _=>vz d
 |true=>exact⟨d,M1,f,q1⟩
def lM(d f:WE):WE:=λσ M Q=>d σ M λx M1=>gu x λc=>aN c (f σ M1 Q) (Q (.bl false) M1)
def pH(d f:WE):WE:=λσ M Q=>d σ M λx M1=>gu x λc=>aN c (Q (.bl true) M1) (f σ M1 Q)
def lN(d:WE):WE:=λσ M Q=>d σ M λx M1=>gu x λc=>Q (.bl (!c)) M1
theorem yc{op:BoolOp}{t:WE}(h:aL X a t):aL X (.BoolOp op [a] pos) t:=λσ M ρ H Q rs d q=>bZ (FM (bD a)) (h σ M ρ H Q rs d q)
theorem yd{f g:WE}{rest:Zg}(h:aL X a f)(h':aL X (.BoolOp .And (b::rest) pos) g):aL X (.BoolOp .And (a::b::rest) pos) (lM f g):=by
 intro σ M ρ H Q rs l q;refine bZ (FN (bD a) (bD _)) ?_;show tW X a ρ H _;refine aJ (h σ M ρ H _ rs l q) λv m n=>?_
 obtain⟨d,x,M1,o,j,q1⟩:=n;obtain⟨c,rfl,q1⟩:=lK q1;refine⟨c,RV.bl_.1 o,?_⟩;cases c with
 |true=>exact aJ (h' σ M1 ρ m Q (rs.mono d) j q1) λ_ _=>cy d
 |false=>exact⟨d,.bl false,M1,RV.bl_.2 rfl,j,q1⟩
theorem AE{f g:WE}{rest:Zg}(h:aL X a f)(h':aL X (.BoolOp .Or (b::rest) pos) g):aL X (.BoolOp .Or (a::b::rest) pos) (pH f g):=by
 intro σ M ρ H Q rs l q;refine bZ (Hx (bD a) (bD _)) ?_;show tW X a ρ H _;refine aJ (h σ M ρ H _ rs l q) λv m n=>?_
 obtain⟨d,x,M1,o,j,q1⟩:=n;obtain⟨c,rfl,q1⟩:=lK q1;refine⟨c,RV.bl_.1 o,?_⟩;cases c with
 |false=>exact aJ (h' σ M1 ρ m Q (rs.mono d) j q1) λ_ _=>cy d
 |true=>exact⟨d,.bl true,M1,RV.bl_.2 rfl,j,q1⟩
theorem EB{d:WE}(h:aL X a d):aL X (.UnaryOp .Not a pos) (lN d):=by
 intro σ M ρ H Q rs f q;refine bZ (FO (bD a)) ?_;show tW X a ρ H _;refine aJ (h σ M ρ H _ rs f q) λv n g=>?_
 obtain⟨j,x,M1,l,m,q1⟩:=g;obtain⟨c,rfl,q1⟩:=lK q1;exact⟨c,RV.bl_.1 l,j,.bl (!c),M1,RV.bl_.2 rfl,m,q1⟩
def vC(t:WT)(d f:WE):WE:=λσ M Q=>t σ M λc M1=>aN c (d σ M1 Q) (f σ M1 Q)
theorem AF{t:WT}{f g:WE}(hc:jy X c t)(ha:aL X a f)(hb:aL X b g):aL X (.IfExp c a b pos) (vC t f g):=by
 intro σ M ρ H Q rs m q;refine bZ (BL (ng c) (bD a) (bD b)) ?_;show oY X c ρ H _;refine fE (hc σ M ρ H _ rs m q) λk j n=>?_
 obtain⟨d,M1,l,q1⟩:=n;cases k with
 |true=>exact aJ (ha σ M1 ρ j Q (rs.mono d) l q1) λ_ _=>cy d
 |false=>exact aJ (hb σ M1 ρ j Q (rs.mono d) l q1) λ_ _=>cy d
def aU:Option MO->Option (List D)
 |some (.lst ds)=>some ds
 |some (.rol ds)=>some ds
 |_=>none
def pI(x:D)(M:MH)(Q:Bool->Prop):Prop:=match x with
 |.non=>Q false
 |.bl b=>Q b
 |.int i=>Q (i != 0)
 |.str y=>y.length<=sizeLine/\Q ((y.length:Int) != 0)
 |.tup ds=>Q (!ds.isEmpty)
 |.ref a=>match M a with
  |some (.lst ds)=>Q (!ds.isEmpty)
  |some (.rol ds)=>Q (!ds.isEmpty)
  |some (.dic d)=>Q (!d.isEmpty)
  |_=>False
 |.ty _=>False
theorem oa{d f:Type}{l:List d}{m:List f}(h:l.length=m.length):l.isEmpty=m.isEmpty:=by
 cases l<;>cases m<;>simp_all
theorem EC{K:Za}{M:MH}{x:D}{v:V}{Q:Bool->Prop}(r:RV K H x v)(m:RM K M H)(h:pI x M Q):∃k,BQ K v H k/\Q k:=by
 cases x with
 |non=>cases RV.non_.1 r;exact⟨_,rfl,h⟩
 |bl b=>cases RV.bl_.1 r;exact⟨_,rfl,h⟩
 |int i=>cases RV.int_.1 r;exact⟨_,rfl,h⟩
 |str y=>cases RV.str_.1 r;exact⟨_,⟨h.1,rfl⟩,h.2⟩
 |ty n=>exact Yh h
 |tup ds=>
  obtain⟨a,xs,rfl,s,d⟩:=RV.tup_.1 r;exact⟨_,.inr (.inl ⟨xs,s,rfl⟩),by rw[←oa d.len];exact h⟩
 |ref a=>
  cases RV.ref_.1 r;have h:match M a with
   |some (.lst ds)=>Q (!ds.isEmpty)
   |some (.rol ds)=>Q (!ds.isEmpty)
   |some (.dic f)=>Q (!f.isEmpty)
   |_=>False:=h
  split at h
  ·rename_i ds e
   obtain⟨xs,q,d⟩:=m a _ e;exact⟨_,.inl ⟨xs,bw.of q,rfl⟩,by rw[←oa d.len];exact h⟩
  ·rename_i ds e
   obtain⟨xs,q,d⟩:=m a _ e;exact⟨_,.inl ⟨xs,.inl q,rfl⟩,by rw[←oa d.len];exact h⟩
  ·rename_i f e
   obtain⟨g,q,k,d⟩:=m a _ e;refine⟨_,.inr (.inr ⟨g,q,rfl⟩),?_⟩;have:g.length=f.length:=by have:=congrArg List.length k;simpa using this
   rw[oa this];exact h
  ·exact Yh h
def pJ(t:WE):WT:=λσ M Q=>t σ M λx M1=>pI x M1 λk=>Q k M1
theorem ED{t:WE}(h:aL X a t)(g:∀d,isTrue a X.env d=(do let v ←d;standAt a.pos;holding [v] (truthy v))):jy X a (pJ t):=by
 intro σ M ρ H Q rs j q;refine vy (BR (bD a) g) ?_;show tW X a ρ H _;refine aJ (h σ M ρ H _ rs j q) λv r l=>?_
 obtain⟨m,x,M1,n,f,q1⟩:=l;obtain⟨k,o,p⟩:=EC n f q1;exact⟨k,o,m,M1,f,p⟩
def lO:WA:=λ_ M Q=>Q [] M
def gv(t:WE)(u:WA):WA:=λσ M Q=>t σ M λx M1=>u σ M1 λxs M2=>Q (x::xs) M2
theorem EE:et X [] lO:=λσ M ρ H Q rs d q=>AC Ge ⟨Kp.refl H,[],M,ag.nil,rfl,d,q⟩
theorem Cc{t:WE}{u:WA}(h:aL X e t)(h':et X es u)(j:ar e=true):et X (e::es) (gv t u):=by
 intro σ M ρ H Q rs l q;refine AC (D1 (bD e) (j9 es) (aX j)) ?_;show tW X e ρ H _;refine aJ (h σ M ρ H _ rs l q) λv d m=>?_
 obtain⟨f,x,M1,n,o,q1⟩:=m;show iT X es ρ d _;refine cR (h' σ M1 ρ d _ (rs.mono f) o q1) λvs B p=>?_
 obtain⟨g,xs,M2,r,y,z,A⟩:=p;exact⟨f.trans g,x::xs,M2,ag.cons (RV.mono g x n) r,by simp[y],z,A⟩
def pK(t:WA):WE:=λσ M Q=>t σ M λxs M1=>Q (.tup xs) M1
def nj(t:WA):WE:=λσ M Q=>t σ M λxs M1=>∀p,M1 p=none->Q (.ref p) (ad M1 p (.lst xs))
theorem EF{t:WA}{k:Nat}(h:et X es t)(hz:es.length<=1000):aL X (.Tuple es k pos) (pK t):=by
 intro σ M ρ H Q rs j q;refine bZ (Gf (j9 es)) ?_;show iT X es ρ H _;refine cR (h σ M ρ H _ rs j q) λvs d l=>?_
 obtain⟨m,xs,M1,f,n,o,q1⟩:=l;refine⟨?_,λp hp=>?_⟩
 ·rw[←f.len,n];exact Nat.le_of_lt (t7 hz)
 ·have g:Kp d (aM d p (.tup vs)):=Kp.new hp
  exact⟨m.trans g,.tup xs,M1,RV.tup_.2 ⟨p,vs,rfl,bG.of aD,ag.mono g _ f⟩,o.newH hp,q1⟩
theorem EG{t:WA}(h:et X es t)(hz:es.length<=1000):aL X (.List es pos) (nj t):=by
 intro σ M ρ H Q rs l q;refine bZ (Gg (j9 es)) ?_;show iT X es ρ H _;refine cR (h σ M ρ H _ rs l q) λvs d n=>?_
 obtain⟨o,xs,M1,f,r,g,q1⟩:=n;refine⟨?_,λp hp=>?_⟩
 ·rw[←f.len,r];exact Nat.le_of_lt (t7 hz)
 ·have j:Kp d (aM d p (.lst vs)):=Kp.new hp
  exact⟨o.trans j,.ref p,_,RV.ref_.2 rfl,g.new (m:=.lst xs) hp ⟨vs,aD,ag.mono j _ f⟩,q1 p (g.fresh hp)⟩
abbrev aI:=List D->MH->DK->Prop
def eU(K:Za)(sp:aI):Sp:=λvs H Q _=>∃ds M f,ag K H ds vs/\RM K M H/\sp ds M f/\∀d M' v H',f d M'->Kp H H'->RV K H' d v->RM K M' H'->Q v H'
def bR(P:Zt)(w:World)(K:Za)(mg:Ze)(base:Heap)(k:Nat)(x:Str)(sp:aI):Prop:=
 ∃st ps f fd,lJ K mg x st ps f fd/\dR P w K mg base jw k f fd ps (eU K sp)
theorem eu{env:Env}{pos:Pos}:∀{es:Zg},es.all ar=true->(backTo pos (starEach es env)).any (·.1)=false
 |[],_=>rfl
 |e::es,h=>by
  rw[XJ,YU] at h;rw[aX h.1];show(false||(backTo pos (starEach es env)).any (·.1))=false;rw[eu h.2];rfl
def cE(sp:aI)(t:WA):WE:=λσ M Q=>t σ M λds M1=>sp ds M1 Q
theorem EH{k:Nat}{x:Str}{sp:aI}{t:WA}{p:Pos}(F:bR X.prog X.w X.K X.mg X.base k x sp)(g:bQ k X.A)(j:Gl X x)(l:(x==("__debug__" : Str))=false)(m:ar e=true)(n:es.all ar=true)(ha:et X (e::es) t):
  aL X (.Call (.Name x p) (e::es) [] pos) (cE sp t):=by
 obtain⟨st,ps,f,fd,o,G⟩:=F;intro σ M ρ H Q rs r q;refine bZ (Gr o G g (j9 (e::es)) j l (aX m) (eu n)) ?_;show iT X (e::es) ρ H _;refine cR (ha σ M ρ H _ rs r q) λvs L u=>?_
 obtain⟨y,xs,M1,z,N,B,q1⟩:=u;rw[ZA];exact⟨xs,M1,Q,z,B,q1,λd M' v H' C E I J=>⟨y.trans E,d,M',I,J,C⟩⟩
end
def rf(K:Za):Bool:=K.all λp=>match p.2.cls with
 |.type t=>!(t == "list")
 |_=>true
theorem ua{a:Addr}{o:Obj}:∀{K:Za},rf K=true->K.lookup a=some o->o.cls=.type "list"->False
 |[],_,h,_=>by cases h
 |(b,p)::K,hn,h,hc=>by
  unfold rf at hn;rw[XJ,YU] at hn;rw[XD] at h;split at h
  ·cases h
   have h1:=hn.1;simp only[hc] at h1;exact absurd h1 'a'
  ·exact ua (K:=K) hn.2 h hc
theorem vD{K:Za}{H:Hp}:∀(ns:Zi),ag K H (ns.map D.int) (ns.map V.int)
 |[]=>.nil
 |n::ns=>.cons (RV.int_.2 rfl) (vD ns)
def og(a:Addr)(ns:Zi):MH:=λb=>if b=a then some (.rol (ns.map D.int)) else none
def u6(n:Nat)(sp:aI):Prop:=∀a ns,ns.length<=n->sp [.ref a] (og a ns) λd _=>d=.bl true
theorem Gv{K:Za}{H:Hp}{a:Addr}{ns:Zi}{n:Nat}{sp:aI}(f:rf K=true)(g:u6 n sp)(hl:ns.length<=n)(c:bw K H a (ns.map V.int))(E:XK):eU K sp [.ref a] H (λv _=>v=.bl true) E:=by
 rcases c with c | ⟨o,b_,m,h1,h2,_⟩
 ·refine⟨[.ref a],og a ns,λd _=>d=.bl true,.cons (RV.ref_.2 rfl) .nil,λb o e=>?_,g a ns hl,λd M' v H' q _ r _=>?_⟩
  ·unfold og at e
   split at e
   ·rename_i hb
    subst hb;cases e;exact⟨_,c,vD ns⟩
   ·cases e
  ·subst q
   exact RV.bl_.1 r
 ·exact(ua f h1 h2).elim
mutual
noncomputable def gx(K:Za):D->Value->Bool
 |.non,u=>match u with
  |.none=>true
  |_=>false
 |.bl b,u=>match u with
  |.bool c=>decide (b=c)
  |_=>false
 |.int i,u=>match u with
  |.int j _=>decide (i=j)
  |_=>false
 |.str x,u=>match u with
  |.str y _=>decide (x=y)
  |_=>false
 |.ty n,u=>match u with
  |.type m=>decide (n=m)
  |_=>false
 |.ref a,u=>match u with
  |.ref b=>decide (a=b)
  |_=>false
 |.tup ds,u=>match u with
  |.ref a=>(match K.lookup a with
   |some ⟨.type t,_,.seq b_ _,_⟩=>decide (t = "tuple")&&decide (b_.size<=sizeLine)&&nn K ds b_.toList
   |_=>false)
  |_=>false
noncomputable def nn(K:Za):List D->List Value->Bool
 |[],us=>us.isEmpty
 |d::ds,us=>match us with
  |u::us=>gx K d u&&nn K ds us
  |[]=>false
end
mutual
theorem vE{K:Za}:∀(d:D){u:Value},gx K d u=true->∃v,RelV v u/\∀H,RV K H d v
 |.non,u,h=>by
  unfold gx at h;split at h
  ·exact⟨.non,rfl,λ_=>RV.non_.2 rfl⟩
  ·cases h
 |.bl b,u,h=>by
  unfold gx at h;split at h
  ·cases XI h;exact⟨.bl _,rfl,λ_=>RV.bl_.2 rfl⟩
  ·cases h
 |.int b,u,h=>by
  unfold gx at h;split at h
  ·cases XI h;exact⟨.int _,⟨_,rfl⟩,λ_=>RV.int_.2 rfl⟩
  ·cases h
 |.str b,u,h=>by
  unfold gx at h;split at h
  ·cases XI h;exact⟨.str _,⟨_,rfl⟩,λ_=>RV.str_.2 rfl⟩
  ·cases h
 |.ty b,u,h=>by
  unfold gx at h;split at h
  ·cases XI h;exact⟨.ty _,rfl,λ_=>RV.ty_.2 rfl⟩
  ·cases h
 |.ref a,u,h=>by
  unfold gx at h;split at h
  ·cases XI h;exact⟨.ref _,rfl,λ_=>RV.ref_.2 rfl⟩
  ·cases h
 |.tup ds,u,h=>by
  unfold gx at h;split at h
  ·rename_i a
   split at h
   ·rename_i t od b_ n sl e
    simp only[YU,XM] at h;obtain⟨⟨h1,h2⟩,h3⟩:=h;obtain⟨vs,r1,r2⟩:=ub ds h3;exact⟨.ref a,rfl,λH=>RV.tup_.2 ⟨a,vs,rfl,.inr ⟨_,b_,n,e,by rw[h1],rfl,h2,r1⟩,r2 H⟩⟩
   ·cases h
  ·cases h
theorem ub{K:Za}:∀(ds:List D){us:Zd},nn K ds us=true->∃vs,am vs us/\∀H,ag K H ds vs
 |[],us,h=>by
  unfold nn at h;cases us with
  |nil=>exact⟨[],.nil,λ_=>.nil⟩
  |cons u us=>cases h
 |d::ds,us,h=>by
  unfold nn at h;split at h
  ·rename_i u us
   rw[YU] at h;obtain⟨v,r1,r2⟩:=vE d h.1;obtain⟨vs,r3,r4⟩:=ub ds h.2;exact⟨v::vs,.cons r1 r3,λH=>.cons (r2 H) (r4 H)⟩
  ·cases h
end
def oh(K:Za):List Str->List D->Bool
 |[],_=>true
 |x::xs,ds=>(match PySem.W.nsIn K mainGlobals x with
  |some (some u)=>gx K (ds.headD .non) u
  |_=>false)&&oh K xs ds.tail
theorem rg{K:Za}{h:Heap}{mg:Ze}(X:K.In h)(G:h.Ns mainGlobals mg):∀{xs:Zf}{ds:List D},oh K xs ds=true->∀(j:Nat) x,xs[j]?=some x->nh K mg x (ds.getD j .non)
 |[],_,_,j,x,e=>by cases e
 |y::xs,ds,hk,j,x,e=>by
  unfold oh at hk;rw[YU] at hk;cases j with
  |zero=>
   have e:y=x:=by simpa using e
   subst e;have h1:=hk.1;split at h1
   ·rename_i u q
    obtain⟨v,a,b⟩:=vE _ h1;have:ds.getD 0 .non=ds.headD .non:=by cases ds<;>rfl
    rw[this];exact⟨v,u,PySem.W.mg_of X G q,a,b⟩
   ·cases h1
  |succ j=>
   have:=rg X G hk.2 j x (by simpa using e)
   have e2:ds.getD (j+1) .non=ds.tail.getD j .non:=by cases ds<;>simp
   rw[e2];exact this
def AG(K:Za)(xs:Zf):Bool:=xs.all λx=>match PySem.W.nsIn K mainGlobals x with
 |some none=>true
 |_=>false
theorem AH{K:Za}{h:Heap}{mg:Ze}(X:K.In h)(G:h.Ns mainGlobals mg){xs:Zf}(hk:AG K xs=true):∀x,xs.contains x=true->mg x=none:=by
 intro x hx
 have:=XE.1 hk x (by simpa using hx)
 split at this
 ·rename_i q
  exact PySem.W.mg_none_of X G q
 ·cases this
theorem Ia{l:PySem.W.OpenLaw}{n k:Nat}{q:Zt}{loose:Zf}{XP:(Str->Option Value)->Heap->Prop}{YP:World->Heap->Prop}{d:DefRec}{K:Params->PySem.W.Frag}{sp:aI}{x:Str}
  (hn:l.most=some n) (c:n<=sizeLine) (g:d.params.defaults=[]) (j:bQ k callerA) (m:u6 n sp)
  (o:∀(w:World) (h:Heap),YP w h->(K w.params).In h) (p:∀w:World,rf (K w.params)=true)
  (F:∀(w:World) (mg:Ze) (b:Addr) (h:Heap),(K w.params).In h->h.Ns mainGlobals mg->mg d.name=some (.ref b) ->
   ∃fd:FuncData,(∀(s:Shared) (u:Value),BindsTo s fd ⟨[u],[]⟩ [(x,u)]) /\
    ∀base:Heap,(K w.params).In base->base.Ns mainGlobals mg->dR l.prog w (K w.params) mg base jw k b fd [x] (eU (K w.params) sp)):
  PySem.W.WalkO q loose XP YP l.row.toRowW d [] (λf vs=>PySem.call f vs):=
 L2.Eg (n:=n) (k:=k) (x:=x) (CX:=λ_=>jw) (sp:=λw=>eU (K w.params) sp) hn c g j o F (λw _ a ns hl _ r=>Gv (p w) m hl r _) λ_ _ _ _ _ z=>z
section
variable {P:Zt}{w:World}{K:Za}{mg:Ze}{base:Heap}{k:Nat}
structure aO (K:Za) (x:Str) (st:Stmt) (f:Addr) (fd:Zs):Prop where
 ex:∃(oc:Value) (od an:Zm) (x_:Zn) (kV l_ pm i' ct:Value),PySem.W.nsIn K mainGlobals x=some (some (.ref f)) /\
  fd=PySem.W.fnOf x x (bU st) (aY st) (ax st) .none kV l_ pm an i' ct/\K.lookup f=some ⟨oc,od,.func fd,x_⟩/\PySem.W.codeIn K i' x=true/\PySem.W.keepIn K (.ref f)=true
theorem aO.mk'{x:Str}{st:Stmt}{f:Addr}{oc:Value}{od an:Zm}{x_:Zn}{kV l_ pm i' ct:Value}
  (a:PySem.W.nsIn K mainGlobals x=some (some (.ref f))) (l:K.lookup f=some ⟨oc,od,.func (PySem.W.fnOf x x (bU st) (aY st) (ax st) .none kV l_ pm an i' ct),x_⟩)
  (c:PySem.W.codeIn K i' x=true) (k:PySem.W.keepIn K (.ref f)=true):aO K x st f (PySem.W.fnOf x x (bU st) (aY st) (ax st) .none kV l_ pm an i' ct):=
 ⟨⟨oc,od,an,x_,kV,l_,pm,i',ct,a,rfl,l,c,k⟩⟩
theorem aO.def_{h:Heap}{x:Str}{st:Stmt}{ps:Zf}{f:Addr}{fd:Zs}(A:aO K x st f fd)(X:K.In h)(G:h.Ns mainGlobals mg)
  (hb:∀(kV l_ pm:Value) (an:Zm) (i' ct:Value) (us:Zd),us.length=ps.length->bindArgs (PySem.W.fnOf x x (bU st) (aY st) (ax st) .none kV l_ pm an i' ct) ⟨us,[]⟩=pure (ps.zip us)):
  lJ K mg x st ps f fd:=by
 obtain⟨oc,od,an,x_,kV,l_,pm,i',ct,a,rfl,l,c,k⟩:=A.ex;exact B6 X G a l c k hb
def Cd:Option (Option Value)->String->Bool
 |some (some (.builtin n)),s=>decide (n=s)
 |_,_=>false
def Ce:Option (Option Value)->Bool
 |some none=>true
 |_=>false
theorem EI{o:Option (Option Value)}{s:String}(h:Cd o s=true):o=some (some (.builtin s)):=by
 unfold Cd at h;split at h
 ·cases XI h;rfl
 ·cases h
theorem EJ{o:Option (Option Value)}(h:Ce o=true):o=some none:=by
 unfold Ce at h;split at h
 ·rfl
 ·cases h
def clsIn(K:Za)(C:Addr)(fs:Zf):Bool:=
 PySem.W.plainGet K C Str.empty&&PySem.W.hasDictIn K C&&PySem.W.plainOver K C&&Cd (PySem.W.findIn K (.ref C) "__setattr__") "object.__setattr__" && fs.all (λf=>Ce (PySem.W.findIn K (.ref C) f))
theorem AI{C:Addr}{fs:Zf}(h:clsIn K C fs=true):jv K C:=by
 unfold clsIn at h;simp only[YU] at h;exact⟨h.1.1.1.1,h.1.1.1.2,h.1.1.2,EI h.1.2⟩
theorem Cf{C:Addr}{fs:Zf}{f:Str}(h:clsIn K C fs=true)(a:f∈fs):cB K C f:=by
 unfold clsIn at h;simp only[YU] at h;exact EJ (XE.1 h.2 f a)
structure MethAt (K:Za) (C:Addr) (m h_:Str) (st:Stmt) (f:Addr) (fd:Zs):Prop where
 at_:PySem.W.findIn K (.ref C) m=some (some (.ref f))
 fn:PySem.W.isFn K (.ref f)=true
 fun_:qV K m h_ st f fd
theorem MethAt.mk'{C:Addr}{m h_:Str}{st:Stmt}{f:Addr}{oc:Value}{od an:Zm}{x_:Zn}{kV l_ pm i' ct:Value}
  (a:PySem.W.findIn K (.ref C) m=some (some (.ref f))) (l:K.lookup f=some ⟨oc,od,.func (PySem.W.fnOf m h_ (bU st) (aY st) (ax st) .none kV l_ pm an i' ct),x_⟩)
  (n:PySem.W.isFn K (.ref f)=true) (c:PySem.W.codeIn K i' h_=true) (k:PySem.W.keepIn K (.ref f)=true):MethAt K C m h_ st f (PySem.W.fnOf m h_ (bU st) (aY st) (ax st) .none kV l_ pm an i' ct):=
 ⟨a,n,vv l c k⟩
end
end DD
namespace K02
open PySem PySem.Spec PyProof.Rows L2 DD
def top(i:Nat):Stmt:=PySem.Challenge.pw_notring_k02_books_read_and_written.main.body.getD i (.Pass ⟨0,0,0,0⟩)
abbrev s9:List Str:=["all","bool","divmod","enumerate","int","isinstance","len","list","max","min","range","set","str","tuple","zip"]
abbrev om:List Str:=["SMALL_LETTERS","KEPT_WORDS","LONGEST_NAME","CAPITAL_LETTERS","MOST_RULES","MOST_SAID","MOST_THINGS","MOST_TERMS","MOST_CONDS","FIGURES","MOST_VARIABLES"]
abbrev zk:List D:=[(.str "abcdefghijklmnopqrstuvwxyz"),(.tup [(.str "things"),(.str "say"),(.str "rule"),(.str "if"),(.str "not"),(.str "many"),(.str "first")]),(.int 6),(.str "ABCDEFGHIJKLMNOPQRSTUVWXYZ"),(.int 30),(.int 60),(.int 6),(.int 3),(.int 6),(.tup [(.str "1"),(.str "2"),(.str "3"),(.str "4"),(.str "5"),(.str "6")]),(.int 4)]
abbrev np:Stmt:=top 8
abbrev gS:Stmt:=top 9
abbrev ka:Stmt:=top 19
abbrev iU:Stmt:=top 20
abbrev kb:Stmt:=top 21
abbrev gT:Stmt:=top 22
abbrev kc:Stmt:=top 23
abbrev ke:Stmt:=top 24
abbrev kf:Stmt:=top 25
abbrev iV:Stmt:=top 26
abbrev kg:Stmt:=top 27
abbrev kh:Stmt:=top 28
abbrev iX:Stmt:=top 29
abbrev kj:Stmt:=top 30
abbrev dk:Stmt:=top 31
abbrev iY:Stmt:=top 32
abbrev km:Stmt:=top 33
abbrev kn:Stmt:=top 34
abbrev lP:Stmt:=top 36
abbrev nq:Stmt:=top 37
abbrev nt:Stmt:=top 38
abbrev lQ:Stmt:=top 39
abbrev ko:Stmt:=top 40
abbrev lR:Stmt:=top 41
abbrev kr:Stmt:=top 42
abbrev lS:Stmt:=top 43
abbrev lT:Stmt:=top 44
abbrev lU:Stmt:=top 45
abbrev lV:Stmt:=top 46
abbrev eV:Stmt:=top 47
abbrev eY:Stmt:=top 48
abbrev eZ:Stmt:=top 49
abbrev gU:Stmt:=top 50
abbrev rh:Stmt:=top 51
abbrev kt:Stmt:=inClass (top 18) 0
def bC(K:Za)(x:Str)(st:Stmt):Prop:=∃f fd,aO K x st f fd
def Ds(K:Za)(C:Addr)(m q:Str)(st:Stmt):Prop:=∃f fd,MethAt K C m q st f fd
abbrev EK:List Str:=["things","said","rules"]
structure Gw (K:Za) (C:Addr):Prop where
 a_0:bC K "cond_text" kn
 a_1:bC K "rule_line" km
 a_2:bC K "write_book" iY
 a_3:bC K "_law_strict" eZ
 a_4:bC K "_law_is_book" gU
 a_5:bC K "is_variable" gS
 a_6:bC K "variables_fit" dk
 a_7:bC K "is_name" np
 a_8:bC K "read_atom" ke
 a_9:bC K "stands_in" kj
 a_10:bC K "read_first" iX
 a_11:bC K "read_many" kh
 a_12:bC K "read_cond" kg
 a_13:bC K "read_conds" iV
 a_14:bC K "read_rule" kf
 a_15:bC K "read_fact" kc
 a_16:bC K "take_line" kb
 a_17:bC K "read_things" gT
 a_18:bC K "read_lines" iU
 a_19:bC K "read_book" ka
 a_20:bC K "_law_cond_text" eV
 a_21:bC K "_law_rule_text" eY
 a_22:bC K "_law_take" lQ
 a_23:bC K "_law_atom" lS
 a_24:bC K "_law_cond" lT
 a_25:bC K "_law_rule" lU
 a_26:bC K "_law_said" lV
 a_27:bC K "_law_mix" nq
 a_28:bC K "_law_cell" lP
 a_29:bC K "_law_box" nt
 a_30:bC K "_law_kept" lR
 a_31:bC K "_law_names" ko
 a_32:bC K "_law_world" kr
 a_35:Ds K C "__init__" "Book.__init__" kt
def Dt(sp:aI):Prop:=∀{l:PySem.W.OpenLaw}{w:World}{K:Za}{h:Heap}{mg:Ze}{a C:Addr}(X:K.In h) (G:h.Ns mainGlobals mg) (d:mg "law" = some (.ref a))
 (gl:oh K om zk=true) (bl:AG K s9=true)
 (f:PySem.W.nsIn K mainGlobals "Book" = some (some (.ref C))) (KW:(clsIn K C EK&&PySem.W.makesIn K C&&PySem.W.keepIn K (.ref C))=true)
 {b:Addr}{c:Zs}(JR:aO K "law" rh b c)
 (hy:Gw K C),
 ∃fd:FuncData,(∀(s:Shared) (v:Value),BindsTo s fd ⟨[v],[]⟩ [("_law_script",v)])/\∀base:Heap,K.In base->base.Ns mainGlobals mg->dR l.prog w K mg base jw 10 a fd ["_law_script"] (eU K sp)
end K02
section
open PySem PySem.W PyProof.Rows L2 DD
set_option maxHeartbeats 0 in
def K02.opn:=λ(H:Hook) (said:PySem.Challenge.rw_notring_k02_books_read_and_written.row.wellSaid=true) hl hw hc=>holds_open (q:=K02.viewQ) (loose:=[]) (Xt:=λs=>xlAt K02.viewQ [] s&&recOk [] s) (XP:=XL K02.viewQ []) (Yf:=H.obs) (Ya:=H.val) (YP:=H.says) (N:=12100) hl H.of H.keeps
   (λs e=>xl_of s (Bool.and_eq_true_iff.mp e).1) XL.keeps (by rfl) (by rfl) (by rfl) (λs e=>recFacts_of (Bool.and_eq_true_iff.mp e).2) (by rfl) said (by rfl') ⟨rfl,rfl,rfl,rfl,rfl,by rfl'⟩ hw hc
set_option hygiene false in
local macro_rules
  | `(tactic| o_head $H:term) => `(tactic| refine K02.opn $H said ?hl ?hw ?hc)
set_option maxHeartbeats 0 in
theorem K02.over{sp:aI}(ok:u6 63 sp)(a:K02.Dt sp):PySem.Challenge.rw_notring_k02_books_read_and_written.Holds:=by
 w_on;refine holds_law K02.said λsaid=>?_;k_head
 (case hl=>exact TopT.Hr K02.seen1 K02.seen2 K02.seen3 K02.seen5 K02.seen6 (λw=>by kernel_rfl))
 (case hw=>w_witness2);k_fill;refine DD.Ia (l:=PySem.Challenge.rw_notring_k02_books_read_and_written) (n:=63) (k:=10) (x:="_law_script") rfl 'a' rfl ⟨rfl,by decide,by decide⟩ ok (λw h Y=>PySem.W.kIn_of Y) ?noL ?defs
 case noL=>intro w;kernel_rfl
 case defs=>
  intro w mg d h b G c;refine' a b G c ?gl ?bl ?KU ?KW (aO.mk' ?JR ?l_33 ?c_33 ?k_33) ⟨⟨_,_,aO.mk' ?a_0 ?l_0 ?c_0 ?k_0⟩,⟨_,_,aO.mk' ?a_1 ?l_1 ?c_1 ?k_1⟩,⟨_,_,aO.mk' ?a_2 ?l_2 ?c_2 ?k_2⟩,⟨_,_,aO.mk' ?a_3 ?l_3 ?c_3 ?k_3⟩,⟨_,_,aO.mk' ?a_4 ?l_4 ?c_4 ?k_4⟩,⟨_,_,aO.mk' ?a_5 ?l_5 ?c_5 ?k_5⟩,⟨_,_,aO.mk' ?a_6 ?l_6 ?c_6 ?k_6⟩,⟨_,_,aO.mk' ?a_7 ?l_7 ?c_7 ?k_7⟩,⟨_,_,aO.mk' ?a_8 ?l_8 ?c_8 ?k_8⟩,⟨_,_,aO.mk' ?a_9 ?l_9 ?c_9 ?k_9⟩,⟨_,_,aO.mk' ?a_10 ?l_10 ?c_10 ?k_10⟩,⟨_,_,aO.mk' ?a_11 ?l_11 ?c_11 ?k_11⟩,⟨_,_,aO.mk' ?a_12 ?l_12 ?c_12 ?k_12⟩,⟨_,_,aO.mk' ?a_13 ?l_13 ?c_13 ?k_13⟩,⟨_,_,aO.mk' ?a_14 ?l_14 ?c_14 ?k_14⟩,⟨_,_,aO.mk' ?a_15 ?l_15 ?c_15 ?k_15⟩,⟨_,_,aO.mk' ?a_16 ?l_16 ?c_16 ?k_16⟩,⟨_,_,aO.mk' ?a_17 ?l_17 ?c_17 ?k_17⟩,⟨_,_,aO.mk' ?a_18 ?l_18 ?c_18 ?k_18⟩,⟨_,_,aO.mk' ?a_19 ?l_19 ?c_19 ?k_19⟩,⟨_,_,aO.mk' ?a_20 ?l_20 ?c_20 ?k_20⟩,⟨_,_,aO.mk' ?a_21 ?l_21 ?c_21 ?k_21⟩,⟨_,_,aO.mk' ?a_22 ?l_22 ?c_22 ?k_22⟩,⟨_,_,aO.mk' ?a_23 ?l_23 ?c_23 ?k_23⟩,⟨_,_,aO.mk' ?a_24 ?l_24 ?c_24 ?k_24⟩,⟨_,_,aO.mk' ?a_25 ?l_25 ?c_25 ?k_25⟩,⟨_,_,aO.mk' ?a_26 ?l_26 ?c_26 ?k_26⟩,⟨_,_,aO.mk' ?a_27 ?l_27 ?c_27 ?k_27⟩,⟨_,_,aO.mk' ?a_28 ?l_28 ?c_28 ?k_28⟩,⟨_,_,aO.mk' ?a_29 ?l_29 ?c_29 ?k_29⟩,⟨_,_,aO.mk' ?a_30 ?l_30 ?c_30 ?k_30⟩,⟨_,_,aO.mk' ?a_31 ?l_31 ?c_31 ?k_31⟩,⟨_,_,aO.mk' ?a_32 ?l_32 ?c_32 ?k_32⟩,⟨_,_,MethAt.mk' ?a_35 ?l_35 ?n_35 ?c_35 ?Ov⟩⟩
  case KU | a_0 | l_0 | c_0 | k_0 | a_1 | l_1 | c_1 | k_1 | a_2 | l_2 | c_2 | k_2 | a_3 | l_3 | c_3 | k_3 | a_4 | l_4 | c_4 | k_4 | a_5 | l_5 | c_5 | k_5 | a_6 | l_6 | c_6 | k_6 | a_7 | l_7 | c_7 | k_7 | a_8 | l_8 | c_8 | k_8 | a_9 | l_9 | c_9 | k_9 | a_10 | l_10 | c_10 | k_10 | a_11 | l_11 | c_11 | k_11 | a_12 | l_12 | c_12 | k_12 | a_13 | l_13 | c_13 | k_13 | a_14 | l_14 | c_14 | k_14 | a_15 | l_15 | c_15 | k_15 | a_16 | l_16 | c_16 | k_16 | a_17 | l_17 | c_17 | k_17 | a_18 | l_18 | c_18 | k_18 | a_19 | l_19 | c_19 | k_19 | a_20 | l_20 | c_20 | k_20 | a_21 | l_21 | c_21 | k_21 | a_22 | l_22 | c_22 | k_22 | a_23 | l_23 | c_23 | k_23 | a_24 | l_24 | c_24 | k_24 | a_25 | l_25 | c_25 | k_25 | a_26 | l_26 | c_26 | k_26 | a_27 | l_27 | c_27 | k_27 | a_28 | l_28 | c_28 | k_28 | a_29 | l_29 | c_29 | k_29 | a_30 | l_30 | c_30 | k_30 | a_31 | l_31 | c_31 | k_31 | a_32 | l_32 | c_32 | k_32 | JR | l_33 | c_33 | k_33 | a_35 | l_35 | n_35 | c_35 | Ov=>k_is
  case gl | bl | KW=>kernel_rfl
end
namespace DD
open PySem PySem.Spec PyProof.Rows L2
theorem ye{P:Zt}{w:World}{k:Key}{u:Value}(h:(bA P w).is k u=true):RelV (kV k) u:=by
 rw[yQ] at h;rcases bP h with⟨i,t,rfl,rfl⟩ | ⟨x,t,rfl,rfl⟩
 ·exact⟨t,rfl⟩
 ·exact⟨t,rfl⟩
def Gx(a:Addr)(u:Obj)(b:List (Key×V)):It:=
 ⟨λi H=>H a=some (.frz u (.dK b))/\i<b.length,λi H x H'=>H'=H/\∃c,b[i]?=some c/\x=kV c.1,λi H=>H a=some (.frz u (.dK b))/\b.length<=i⟩
theorem kH{X:Cx}{a_:Zc}{σ:L2.St}{H:Hp}{s:Shared}{a:Addr}{u:Obj}{b:List (Key×V)}(I:ac X a_ σ H s)(h:H a=some (.frz u (.dK b))):
  (a==sysModules)=false/\b.length<=sizeLine/\∃vs es c,KV b vs/\u.data=.dict es c/\s.heap.DictAt (bA X.prog X.w) a vs c:=by
 obtain⟨h1,hz,hd,vs,f,o,es,c,d,r⟩:=(show bg X.prog X.w H s.heap a (.frz u (.dK b)) from I.hok a _ h);have e:o=u:=by rw[h1] at d;cases d;rfl
 subst e;exact⟨hd,hz,vs,es,c,f,r.2.1,o,es,d,r⟩
theorem AJ{P:Zt}{w:World}{K:Za}{tg:Expr}(a it:Addr){u:Obj}{j:List (Key×V)}{es:Array DictEntry}{l:Nat}(hu:u.data=.dict es l):
  Turn P w K tg (Gx a u j) [it] it (λi h=>h.IsKeyIter it a i j.length l) where
 mem:=by simp
 obj:=λi h st b hb=>by
  have e:b=it:=by simpa using hb
  subst e;obtain⟨o,e,c,d⟩:=st;exact⟨o,e,λv z=>by rw[d] at z;cases z⟩
 keep:=λi h h' st k=>st.at λo e=>k it (by simp) o e
 item:=by
  intro X n hw p hc i a_ s σ H E I m st q;subst n hw p;obtain⟨hq,hi⟩:=q;obtain⟨hd,hz,vs,L,r,f,g,hm⟩:=kH I hq;have t:r=l:=by rw[hu] at g;cases g;rfl
  subst t;obtain⟨⟨k,x⟩,hx,N⟩:=dU f (ZD hi);obtain⟨y,A,O,B,C,F⟩:=m it (by simp);rw[f.length] at st;refine wpAny_pyNext_dict_item st hm hx λG h' R J S=>?_
  have T:ac X a_ σ H { s with heap:=h' }:=I.turned (t':=s.toks) (λb o hb e=>(S.2 b hb).trans e) y A B C F;obtain⟨o,e,c,d⟩:=id J;rw[←f.length] at J;have U:j[i].1=k:=N.1;exact⟨G,rfl,n6 (s:={ s with heap:=h' }) e c d 'a' ⟨kV k,H,T,ye R,⟨rfl,j[i],ZD hi,by rw[U]⟩,J,λb hb=>(m b hb).1⟩⟩
 done:=by
  intro X n hw p hc i a_ s σ H E I m st q;subst n hw p;obtain⟨hq,hi⟩:=q;obtain⟨hd,hz,vs,L,r,f,g,hm⟩:=kH I hq;have t:r=l:=by rw[hu] at g;cases g;rfl
  subst t;obtain⟨y,A,O,B,C,F⟩:=m it (by simp);rw[f.length] at st;have hx:vs[i]?=none:=by rw[List.getElem?_eq_none_iff,←f.length];exact hi
  exact wpAny_pyNext_dict_end (I.ok.hd hc) st hm hx λh' W=>⟨rfl,I.turned (t':=s.toks) (λb o hb e=>W b o hb e) y A B C F⟩
 self:=λ_ _ _ _ _ st h=>wpAny_pyIter_keyiter st h
section
variable {X:Cx}{ρ:L2.St}{H:Hp}
theorem yf{a_:Zc}{s:Shared}{tg:Expr}{a:Addr}{u:Obj}{c:List (Key×V)}{R:It->Hp->Prop}(I:ac X a_ ρ H s)(hq:H a=some (.frz u (.dK c)))(q:R (Gx a u c) H):
  wpAny 'b' X.A (pyIter (.ref a)) (tQ X a_ ρ tg R) X.xe s:=by
 obtain⟨hd,hz,vs,es,f,d,hu,hm⟩:=kH I hq;refine wpAny_pyIter_dict hd hm ?_;refine⟨s.heap.objs.size,[s.heap.objs.size],_,_,H,rfl,I.kept (t':=s.toks) λb o e=>Yd _ e,AJ a _ hu,⟨_,Yg _ rfl,rfl,by rw[d.length];rfl⟩,λb hb=>?_,q⟩;have e:b=s.heap.objs.size:=by simpa using hb
 subst e;exact I.fpOk (YE _) (I.hok.fresh (YE _))
theorem freeze{a_:Zc}{s:Shared}{a:Addr}{c:List (Key×V)}(I:ac X a_ ρ H s)(hq:H a=some (.dK c)):∃u,ac X a_ ρ (aM H a (.frz u (.dK c))) s:=by
 obtain⟨hz,hd,vs,g,d⟩:=(show bg X.prog X.w H s.heap a (.dK c) from I.hok a _ hq);obtain⟨o,es,j,f,r⟩:=id d;refine⟨o,?_⟩
 have:=I.write (x:=a) (e:=a) (o:=.frz o (.dK c)) (h':=s.heap) (t':=s.toks) (by rw[hq];exact trivial) (.inl rfl) (λb u _ e=>e) ⟨_,f⟩ ⟨f,hz,hd,vs,g,d⟩
 exact this
end
structure dH where
 nx:DS->MH->Prop
 rt:DK
 bk:DS->MH->Prop:=λ_ _=>False
 ct:DS->MH->Prop:=λ_ _=>False
abbrev WS:=dH->DS->MH->Prop
def rj(K:Za)(H:Hp)(n:DS->MH->Prop):L2.St->Hp->Prop:=λb H'=>Kp H H'/\∃a M',RS K H' a b/\RM K M' H'/\n a M'
def u7(K:Za)(H:Hp)(D:dH):Ends:={ nx:=rj K H D.nx,rt:=lift K H D.rt,bk:=rj K H D.bk,ct:=rj K H D.ct }
structure zm (D D':Ends):Prop where
 nx:∀ρ H,D.nx ρ H->D'.nx ρ H
 rt:∀v H,D.rt v H->D'.rt v H
 bk:∀ρ H,D.bk ρ H->D'.bk ρ H
 ct:∀ρ H,D.ct ρ H->D'.ct ρ H
section
variable {X:Cx}{st:Stmt}{JT:Zr}{ρ:L2.St}{H H':Hp}{pos:Pos}{e:Expr}
theorem lW{K:Za}{n:DS->MH->Prop}{a:L2.St}{b:Hp}(k:Kp H H')(h:rj K H' n a b):rj K H n a b:=⟨k.trans h.1,h.2⟩
theorem pL{K:Za}{D:dH}(k:Kp H H'):zm (u7 K H' D) (u7 K H D):=⟨λ_ _=>lW k,λ_ _=>cy k,λ_ _=>lW k,λ_ _=>lW k⟩
theorem SP.imp{a_:Zc}{D D':Ends}{f:Flow}{g:Shared}(i:zm D D')(h:SP X a_ D f g):SP X a_ D' f g:=by
 cases f with
 |next=>obtain⟨a,b,c,d⟩:=h;exact⟨a,b,c,i.nx _ _ d⟩
 |brk=>obtain⟨a,b,c,d⟩:=h;exact⟨a,b,c,i.bk _ _ d⟩
 |cont=>obtain⟨a,b,c,d⟩:=h;exact⟨a,b,c,i.ct _ _ d⟩
 |ret u=>obtain⟨v,a,b,c,r,d⟩:=h;exact⟨v,a,b,c,r,i.rt _ _ d⟩
def pM(X:Cx)(JT:Zr):L2.TS:=λD ρ H=>∀a_ s,ac X a_ ρ H s->wpAny 'b' X.A (execs JT X.env) (SP X a_ D) X.xe s
theorem Jh(st:Stmt):PS X st (ya X st):=λa_ s _ _ _ I h=>h a_ s I
theorem on(JT:Zr):kE X JT (pM X JT):=λa_ s _ _ _ I h=>h a_ s I
theorem fg{t:L2.TS}{D:Ends}(h:PS X st t)(q:t D ρ H):ya X st D ρ H:=λa_ s I=>h a_ s ρ H D I q
theorem yg{t:L2.TS}{D:Ends}(h:kE X JT t)(q:t D ρ H):pM X JT D ρ H:=λa_ s I=>h a_ s ρ H D I q
theorem Cg{D D':Ends}(h:ya X st D ρ H)(i:zm D D'):ya X st D' ρ H:=λa_ s I=>aE (h a_ s I) λ_ _ q=>SP.imp i q
theorem eD{D D':Ends}(h:pM X JT D ρ H)(i:zm D D'):pM X JT D' ρ H:=λa_ s I=>aE (h a_ s I) λ_ _ q=>SP.imp i q
def mL(X:Cx)(st:Stmt)(t:WS):Prop:=∀σ M ρ H D,RS X.K H σ ρ->RM X.K M H->t D σ M->ya X st (u7 X.K H D) ρ H
def nu(X:Cx)(JT:Zr)(t:WS):Prop:=∀σ M ρ H D,RS X.K H σ ρ->RM X.K M H->t D σ M->pM X JT (u7 X.K H D) ρ H
def lX:WS:=λD σ M=>D.nx σ M
def iZ(t u:WS):WS:=λD σ M=>t { D with nx:=u D } σ M
theorem Ch:nu X [] lX:=λσ M ρ H D rs a q=>yg DP ⟨Kp.refl H,σ,M,rs,a,q⟩
theorem AK{t u:WS}(h:mL X st t)(h':nu X JT u):nu X (st::JT) (iZ t u):=by
 intro σ M ρ H D rs a q;refine yg (BM (Jh st) (on JT)) ?_;show ya X st _ ρ H;refine Cg (h σ M ρ H _ rs a q) ⟨λb H' c=>?_,λ_ _ z=>z,λ_ _ z=>z,λ_ _ z=>z⟩;obtain⟨k,d,M',f,g,j⟩:=c;exact eD (h' d M' b H' D f g j) (pL k)
def pN(t:WE):WS:=λD σ M=>t σ M D.rt
theorem EL{t:WE}(h:aL X e t):mL X (.Return (some e) pos) (pN t):=λσ M ρ H D rs a q=>fg (FP (bD e)) (h σ M ρ H _ rs a q)
theorem AL:mL X st 'e':=λ_ _ _ _ _ _ _ q=>Yh q
def dg:Expr->Bool
 |.ListComp _ _ _ _=>false
 |.SetComp _ _ _ _=>false
 |.DictComp _ _ _ _ _=>false
 |_=>true
theorem rn{t:Option Expr}{n:Nat}{env:Env}(h:dg e=true):swapsWith e t n env=pure false:=by
 cases e<;>first | rfl | (exact absurd (show false=true from h) YH)
def jA(t:WE):WS:=λD σ M=>t σ M λ_ M1=>D.nx σ M1
theorem Ci{t:WE}(h:aL X e t)(hc:dg e=true):mL X (.Expr e pos) (jA t):=by
 intro σ M ρ H D rs b q;refine fg (DQ (bD e) (rn hc)) ?_;show tW X e ρ H _;refine aJ (h σ M ρ H _ rs b q) λv f c=>?_
 obtain⟨a,x,M1,g,d,q1⟩:=c;exact⟨a,σ,M1,rs.mono a,d,q1⟩
def lY(i:Nat)(t:WE):WS:=λD σ M=>t σ M λx M1=>D.nx (σ.set i (some x)) M1
def pO(c:WT)(t u:WS):WS:=λD σ M=>c σ M λb M1=>aN b (t D σ M1) (u D σ M1)
theorem Gy{c:Expr}{a b:Zr}{tc:WT}{t u:WS}(hc:jy X c tc)(ha:nu X a t)(hb:nu X b u):mL X (.If c a b pos) (pO tc t u):=by
 intro σ M ρ H D rs j q;refine fg (HA (ng c) (on a) (on b)) ?_;show oY X c ρ H _;refine fE (hc σ M ρ H _ rs j q) λk f l=>?_
 obtain⟨d,M1,g,q1⟩:=l;cases k with
 |true=>exact eD (ha σ M1 ρ f D (rs.mono d) g q1) (pL d)
 |false=>exact eD (hb σ M1 ρ f D (rs.mono d) g q1) (pL d)
inductive cC where
 |nm (i:Nat) | tp (is:Zj)
def zn:List Nat->oS
 |[]=>FQ
 |i::is=>Di (u3 i) (zn is)
section
variable {prog:Zt}{w:World}{A:Around}{E:Zb}
theorem vF{it l:Addr}{b_:Zl}(ne:l≠it):∀(n i:Nat) (s:Shared) (Q:List Value->Shared->Prop),s.heap.IsListIter it l i->s.heap.IsList l b_->i+n<=b_.size ->
  (∀h',h'.IsListIter it l (i+n)->Heap.SameBut it s.heap h'->Q ((b_.toList.drop i).take n) { s with heap:=h' })->wpAny 'f' A (draw (.ref it) n) Q E s
 |0,i,s,Q,hi,_,_,q=>by
  rw[draw];exact Yc (by simpa using q s.heap hi (Heap.SameBut.refl ..))
 |n+1,i,s,Q,hi,hl,le,q=>by
  have lt:i<b_.size:=by omega
  rw[draw];refine Yb (wpAny_pyNext_list_item hi hl (x:=b_[i]) (by simp[lt]) λh1 a s1=>?_);refine Yb (Yj (vF ne n (i+1) _ _ a (hl.extBut s1.extBut ne) 'c' λb c s2=>Yc ?_));have e:b_.toList.drop i=b_[i]::b_.toList.drop (i+1):=by simp[List.drop_eq_getElem_cons,lt]
  have r:=q b (by rw[show i+(n+1)=i+1+n by omega];exact c) (s1.trans s2);rw[e,List.take_succ_cons] at r;exact r
theorem zo{s:Shared}{l:Addr}{b_:Zl}{ts:List (Bool×(Value->Sem Unit))}{Q:Zo}(a:A.handled=none)(hl:s.heap.IsList l b_)(hn:ts.length=b_.size)(c:ts.findIdx? (·.1)=none)
  (h:∀h',Heap.ExtBut s.heap.objs.size s.heap h'->wpAny 'f' A (assignInOrder (ts.map (·.2)) b_.toList) Q E { s with heap:=h' }):wpAny 'f' A (unpack (.ref l) ts) Q E s:=by
 have ne:l≠s.heap.objs.size:=by obtain⟨o,d,_⟩:=hl;exact ZS (Ye d)
 unfold unpack;rw[hn,c];refine Yb (Yj ?_);unfold unpackItems;refine Yb ?_;unfold notIterableAtAll;refine Yb (wpAny_specialOf hl.typeIs slot_list_iter.lookup (Yc ?_));simp only[XC,if_false];refine Yb (Yj (wpAny_pyIter_list hl ?_));refine Yb (Yj (vF ne b_.size 0 _ _ ⟨_,Yg _ rfl,rfl,rfl⟩ (hl.push _) 'c' λh1 f s1=>?_));have e:List.take b_.size (List.drop 0 b_.toList)=b_.toList:=by rw[List.drop_zero];exact List.take_of_length_le (by simp)
 rw[e,if_neg (by simp)];refine Yb (Yj (wpAny_pyNext_list_end a f ((hl.push _).extBut s1.extBut ne) (by simp) λg e2=>?_));simp only[Option.isSome_none,XC,if_false];exact Yc (h g λb o hb z=>e2 b o hb (s1.extBut b o hb (Yd _ z)))
end
def Gz(K:Za)(n:Nat)(t:oS):TG:=λv σ H Q=>∃a xs,v=.ref a/\(bG K H a xs\/bw K H a xs)/\xs.length=n/\t xs σ H Q
theorem GA{X:Cx}{pos:Pos}{es:Zg}{k:Nat}{t:oS}{n:Nat}(hc:X.calm=true)(h:xQ X es t)(hn:(assignEach es X.env).length=n)(c:(assignEach es X.env).findIdx? (·.1)=none):PG X (.Tuple es k pos) (Gz X.K n t):=by
 intro a_ s σ H v u Q I r hw;obtain⟨a,xs,e1,hq | hq,hl,hw⟩:=hw
 ·exact FR hc h hn c a_ s σ H v u Q I r ⟨a,xs,e1,hq,hl,hw⟩
 ·subst e1
  cases r;obtain⟨b_,d,ht,hz⟩:=I.list hq;rw[PyProof.Rows.assign_Tuple];refine Yb (Yk (zo (I.ok.hd hc) ht.isList (by simp[hn,←hl,d.length]) c λh' hx=>?_));have f:ac X a_ σ H { s with heap:=h' }:=I.kept (t':=s.toks) λb o e=>hx b o (ZS (Ye e)) e
  exact h a_ _ σ H xs _ Q f (by simpa using d) hw
def vG(K:Za):cC->TG
 |.nm i=>u3 i
 |.tp is=>Gz K is.length (zn is)
def setM:List Nat->List D->DS->DS
 |i::is,d::ds,σ=>setM is ds (σ.set i (some d))
 |_,_,σ=>σ
def fh:cC->D->DS->(DS->Prop)->Prop
 |.nm i,d,σ,Q=>Q (σ.set i (some d))
 |.tp is,.tup ds,σ,Q=>ds.length=is.length/\Q (setM is ds σ)
 |.tp _,_,_,_=>False
theorem tf{K:Za}:∀(is:Zj) (ds:List D) (vs:List V) (σ:DS) (ρ:L2.St) (H:Hp) (Q:L2.St->Hp->Prop),ag K H ds vs->RS K H σ ρ->ds.length=is.length ->
  (∀a,RS K H (setM is ds σ) a->Q a H)->zn is vs ρ H Q
 |[],[],vs,σ,ρ,H,Q,r,rs,_,q=>by rw[ag] at r;subst r;exact⟨rfl,q ρ rs⟩
 |i::is,d::ds,vs,σ,ρ,H,Q,r,rs,l,q=>by
  rw[ag] at r;obtain⟨v,b,rfl,c,f⟩:=r;exact⟨v,b,rfl,tf is ds b (σ.set i (some d)) (ρ.set i (some v)) H Q f (rs.set i c) (by simpa using l) q⟩
theorem vH{K:Za}{t:cC}{d:D}{v:V}{σ:DS}{ρ:L2.St}{H:Hp}{Q:L2.St->Hp->Prop}{c:DS->Prop}(r:RV K H d v)(rs:RS K H σ ρ)(h:fh t d σ c)(f:∀b g,RS K H g b->c g->Q b H):vG K t v ρ H Q:=by
 cases t with
 |nm i=>exact f _ _ (rs.set i r) h
 |tp is=>
  cases d with
  |tup ds=>
   obtain⟨a,xs,rfl,s,j⟩:=RV.tup_.1 r;exact⟨a,xs,rfl,.inl s,by rw[←j.len];exact h.1,tf is ds xs σ ρ H Q j rs h.1 λb l=>f b _ l h.2⟩
  |_=>exact Yh h
def Io(X:Cx)(tg:Expr)(t:cC):Prop:=PG X tg (vG X.K t)
theorem RM.list{K:Za}{H:Hp}{M:MH}{a:Addr}{ds:List D}(m:RM K M H)(h:aU (M a)=some ds):∃vs,bw K H a vs/\ag K H ds vs:=by
 cases e:M a with
 |none=>rw[e] at h;cases h
 |some o=>
  rw[e] at h;cases o with
  |lst xs=>cases h;obtain⟨vs,q,r⟩:=m a _ e;exact⟨vs,bw.of q,r⟩
  |rol xs=>cases h;obtain⟨vs,q,r⟩:=m a _ e;exact⟨vs,.inl q,r⟩
  |_=>cases h
def lZ(t:cC)(d:D)(M:MH)(σ:DS)(Q:DS->Prop):Prop:=match d with
 |.ref a=>match t with
  |.nm i=>Q (σ.set i (some (.ref a)))
  |.tp is=>match aU (M a) with
   |some ds=>ds.length=is.length/\Q (setM is ds σ)
   |none=>False
 |d=>fh t d σ Q
theorem EM{K:Za}{t:cC}{d:D}{v:V}{M:MH}{σ:DS}{ρ:L2.St}{H:Hp}{Q:L2.St->Hp->Prop}{c:DS->Prop}(r:RV K H d v)(rs:RS K H σ ρ)(m:RM K M H)(h:lZ t d M σ c)(f:∀b g,RS K H g b->c g->Q b H):vG K t v ρ H Q:=by
 cases d with
 |ref a=>
  cases t with
  |nm i=>exact f _ _ (rs.set i r) h
  |tp is=>
   have h:match aU (M a) with | some ds=>ds.length=is.length/\c (setM is ds σ) | none=>False:=h
   split at h
   ·rename_i ds e
    obtain⟨vs,sq,j⟩:=m.list e;cases RV.ref_.1 r;exact⟨a,vs,rfl,.inr sq,by rw[←j.len];exact h.1,tf is ds vs σ ρ H Q j rs h.1 λb l=>f b _ l h.2⟩
   ·exact Yh h
 |_=>exact vH r rs h f
def pP(t:WE)(g:cC):WS:=λD σ M=>t σ M λx M1=>lZ g x M1 σ λa=>D.nx a M1
theorem EN{tg:Expr}{t:WE}{g:cC}(h:aL X e t)(c:Io X tg g)(d:swapsWithSole [tg] e pos.line X.env=pure false)(hw:swappedStores [tg] e X.env=pure none)(h1:(assignEach [tg] X.env).map (·.2)=[assign tg X.env]):mL X (.Assign [tg] e pos) (pP t g):=by
 intro σ M ρ H D rs f q;refine fg (z0 (bD e) c d hw h1) ?_;show tW X e ρ H _;refine aJ (h σ M ρ H _ rs f q) λv p j=>?_
 obtain⟨a,x,M1,l,b,q1⟩:=j;exact EM l (rs.mono a) b q1 λr m n o=>⟨a,m,M1,n,b,o⟩
abbrev WI:=DS->MH->(List D->(MH->Prop)->MH->Prop)->Prop
def rp(K:Za)(J:It)(a:Hp)(xs:List D)(g:MH->Prop):Prop:=∀i H M,Kp a H->RM K M H->g M->(i<xs.length->J.go i H)/\(i=xs.length->J.stop i H)/\∀x H' d,xs[i]?=some d->J.yld i H x H'->Kp H H'/\RM K M H'/\RV K H' d x
def iW(X:Cx)(tg a:Expr):TI:=λρ H R=>∀a_ s,ac X a_ ρ H s->wpAny 'b' X.A (eval a X.env) (λv s1=>wpAny 'b' X.A (pyIter v) (tQ X a_ ρ tg R) X.xe s1) X.xe s
theorem Cj(tg a:Expr):PI X tg a (iW X tg a):=λa_ s _ _ _ I h=>h a_ s I
theorem Du{tg a:Expr}{t:TI}{R:It->Hp->Prop}(h:PI X tg a t)(q:t ρ H R):iW X tg a ρ H R:=λa_ s I=>h a_ s ρ H R I q
theorem tj{tg a:Expr}{R b:It->Hp->Prop}(h:iW X tg a ρ H R)(f:∀J H',R J H'->b J H'):iW X tg a ρ H b:=λa_ s I=>aE (h a_ s I) λ_ _ q=>aE q λ_ _ ⟨it,fp,tn,J,H',e,c,T,st,d,r⟩=>⟨it,fp,tn,J,H',e,c,T,st,d,f J H' r⟩
def Ji(K:Za)(H:Hp)(R:List D->(MH->Prop)->MH->Prop):It->Hp->Prop:=λJ H'=>Kp H H'/\∃xs g M',RM K M' H'/\g M'/\rp K J H' xs g/\xs.length<=sizeLine/\R xs g M'
def rq(X:Cx)(tg a:Expr)(t:WI):Prop:=∀σ M ρ H R,RS X.K H σ ρ->RM X.K M H->t σ M R->iW X tg a ρ H (Ji X.K H R)
def kD:Key->D
 |.inl i=>.int i
 |.inr x=>.str x
def keysOf(a:Zw):List D:=a.map λb=>kD b.1
theorem Dv{K:Za}{H:Hp}(k:Key):RV K H (kD k) (kV k):=by
 cases k with
 |inl i=>exact RV.int_.2 rfl
 |inr x=>exact RV.str_.2 rfl
theorem vI{K:Za}{a:Addr}{u:Obj}{b:Zw}{f:List (Key×V)}{j:Hp}(e:j a=some (.frz u (.dK f)))(hk:f.map (·.1)=b.map (·.1))(g:MH->Prop):rp K (Gx a u f) j (keysOf b) g:=by
 intro i H M k n _;have hl:f.length=b.length:=by have:=congrArg List.length hk;simpa using this
 have e':=k.2 a _ _ e;have hn:(keysOf b).length=b.length:=by unfold keysOf;rw[ZF]
 rw[hn];refine⟨λhi=>⟨e',by omega⟩,λhi=>⟨e',by omega⟩,λx H' d hd o=>?_⟩;obtain⟨e1,m,h1,r⟩:=o;subst e1 r;unfold keysOf at hd;rw[ZG] at hd;have c:(b[i]?).map (·.1)=some m.1:=by
  have:=congrArg (λl=>l[i]?) hk
  simp only[ZG,h1] at this;rw[←this];rfl
 cases q:b[i]? with
 |none=>rw[q] at c;cases c
 |some p=>
  rw[q] at c hd;cases hd;have c:p.1=m.1:=by simpa using c
  refine⟨Kp.refl _,n,?_⟩;show RV K _ (kD p.1) _;rw[c];exact Dv _
def nv(x:D)(M:MH)(R:List D->(MH->Prop)->MH->Prop):Prop:=match x with
 |.tup ds=>R ds (λ_=>True) M
 |.ref a=>match M a with
  |some (.lst ds)=>R ds (λM'=>M' a=some (.lst ds)) M
  |some (.rol ds)=>R ds (λM'=>M' a=some (.rol ds)) M
  |some (.dic b)=>R (keysOf b) (λM'=>M' a=some (.rod b)) (ad M a (.rod b))
  |some (.rod b)=>R (keysOf b) (λM'=>M' a=some (.rod b)) M
  |_=>False
 |.str z=>z.cps.size<=sizeLine/\R (z.cps.toList.map λc=>.str ⟨#[c]⟩) (λ_=>True) M
 |_=>False
theorem vJ{K:Za}{a:Addr}{ds:List D}{f:Hp}{g:MH->Prop}(j:∀H M,RM K M H->g M->∃vs,bw K H a vs/\ag K H ds vs):rp K (FV K a) f ds g:=by
 intro i H M _ c q;obtain⟨vs,sq,b⟩:=j H M c q;refine⟨λhi=>?_,λhi=>⟨vs,sq,by rw[←b.len];exact Nat.le_of_eq hi.symm⟩,λx H' d hd ⟨e,y⟩=>?_⟩
 ·have:i<vs.length:=by rw[←b.len];exact hi
  exact⟨vs,vs[i],sq,ZD this⟩
 ·subst e
  obtain⟨v,hv,r⟩:=dU b.p hd
  have:=y vs sq
  rw[hv] at this;cases this;exact⟨Kp.refl _,c,r⟩
theorem EO{K:Za}{a:Addr}{ds:List D}{vs:List V}{c:Hp}(sq:bG K c a vs)(b:ag K c ds vs):rp K (FW K a) c ds (λ_=>True):=by
 intro i H M k f _;have sq:=k.sq sq;have b:=ag.mono k _ b;refine⟨λhi=>?_,λhi=>⟨vs,sq,by rw[←b.len];exact Nat.le_of_eq hi.symm⟩,λx H' d hd ⟨e,y⟩=>?_⟩
 ·have:i<vs.length:=by rw[←b.len];exact hi
  exact⟨vs,vs[i],sq,ZD this⟩
 ·subst e
  obtain⟨v,hv,r⟩:=dU b.p hd
  have:=y vs sq
  rw[hv] at this;cases this;exact⟨Kp.refl _,f,r⟩
theorem EQ{K:Za}{z:Str}{a:Hp}:rp K (Do z) a (z.cps.toList.map λc=>.str ⟨#[c]⟩) (λ_=>True):=by
 intro i H M k b _;rw[ZF];refine⟨λhi=>?_,λhi=>?_,λx H' d hd ⟨e,c,hc,y⟩=>?_⟩
 ·show i<z.cps.size
  simpa using hi
 ·show i=z.cps.size
  simpa using hi
 ·subst e y
  rw[ZG] at hd;have:z.cps.toList[i]?=some c:=by simpa using hc
  rw[this] at hd;cases hd;exact⟨Kp.refl _,b,RV.str_.2 rfl⟩
def iq(t:WE):WI:=λσ M R=>t σ M λx M1=>nv x M1 R
theorem yh{a_:Zc}{s:Shared}{tg:Expr}{a:Addr}{xs:List V}{R:It->Hp->Prop}(I:ac X a_ ρ H s)(hq:bw X.K H a xs)(q:R (FV X.K a) H):wpAny 'b' X.A (pyIter (.ref a)) (tQ X a_ ρ tg R) X.xe s:=by
 obtain⟨b_,c,p,hz⟩:=I.list hq;refine wpAny_pyIter_list p.isList ?_;refine⟨s.heap.objs.size,[s.heap.objs.size],_,_,H,rfl,I.kept (t':=s.toks) λb o e=>Yd _ e,Aa a _,⟨_,Yg _ rfl,rfl,rfl⟩,λb hb=>?_,q⟩;have e:b=s.heap.objs.size:=by simpa using hb
 subst e;exact I.fpOk (YE _) (I.hok.fresh (YE _))
theorem GB{a_:Zc}{s:Shared}{tg:Expr}{a:Addr}{xs:List V}{R:It->Hp->Prop}(I:ac X a_ ρ H s)(hq:bG X.K H a xs)(q:R (FW X.K a) H):wpAny 'b' X.A (pyIter (.ref a)) (tQ X a_ ρ tg R) X.xe s:=by
 obtain⟨b_,c,p,hz⟩:=I.tuple hq;refine wpAny_pyIter_tuple (show s.heap.IsTuple a b_.toArray from p) ?_;refine⟨s.heap.objs.size,[s.heap.objs.size],_,_,H,rfl,I.kept (t':=s.toks) λb o e=>Yd _ e,yS a _,⟨_,Yg _ rfl,rfl,rfl⟩,λb hb=>?_,q⟩;have e:b=s.heap.objs.size:=by simpa using hb
 subst e;exact I.fpOk (YE _) (I.hok.fresh (YE _))
theorem GC{a_:Zc}{s:Shared}{tg:Expr}{z:Str}{t:Tok}{R:It->Hp->Prop}(I:ac X a_ ρ H s)(q:R (Do z) H):wpAny 'b' X.A (pyIter (.str z t)) (tQ X a_ ρ tg R) X.xe s:=by
 have fp:∀b∈[s.heap.objs.size],lG X a_ H b:=λb hb=>by
  have e:b=s.heap.objs.size:=by simpa using hb
  subst e;exact I.fpOk (YE _) (I.hok.fresh (YE _))
 cases ha:z.cps.all (· < 128)
 ·refine wpAny_pyIter_wide ha ?_
  exact⟨s.heap.objs.size,[s.heap.objs.size],_,_,H,rfl,I.kept (t':=s.toks) λb o e=>Yd _ e,Aw _ z t,⟨_,Yg _ rfl,rfl,rfl⟩,fp,q⟩
 ·refine wpAny_pyIter_ascii ha ?_
  exact⟨s.heap.objs.size,[s.heap.objs.size],_,_,H,rfl,I.kept (t':=s.toks) λb o e=>Yd _ e,Av _ z t,⟨_,Yg _ rfl,rfl,rfl⟩,fp,q⟩
theorem ER{l tg:Expr}{t:WE}(h:aL X l t):rq X tg l (iq t):=by
 intro σ M ρ H R rs F q a_ s I;refine aE (h σ M ρ H _ rs F q a_ s I) λu s1 G=>?_
 obtain⟨v,J,c,p,⟨j,d,M1,r,f,q1⟩⟩:=G;cases d with
 |tup ds=>
  obtain⟨a,xs,rfl,sq,g⟩:=RV.tup_.1 r;cases p;obtain⟨_,_,_,hz⟩:=c.tuple sq;exact GB c sq ⟨j,ds,_,M1,f,trivial,EO sq g,by rw[g.len];exact hz,q1⟩
 |ref a=>
  cases RV.ref_.1 r;cases p;have q1:match M1 a with
   |some (.lst ds)=>R ds (λM'=>M' a=some (.lst ds)) M1
   |some (.rol ds)=>R ds (λM'=>M' a=some (.rol ds)) M1
   |some (.dic b)=>R (keysOf b) (λM'=>M' a=some (.rod b)) (ad M1 a (.rod b))
   |some (.rod b)=>R (keysOf b) (λM'=>M' a=some (.rod b)) M1
   |_=>False:=q1
  split at q1
  ·rename_i ds e
   obtain⟨xs,e1,g⟩:=f a _ e;obtain⟨_,_,_,hz⟩:=c.list (bw.of e1);refine yh c (bw.of e1) ⟨j,ds,_,M1,f,e,vJ λH' M' y g'=>?_,by rw[g.len];exact hz,q1⟩;obtain⟨A,e',B⟩:=y a _ g';exact⟨A,bw.of e',B⟩
  ·rename_i ds e
   obtain⟨xs,e1,g⟩:=f a _ e;have e1:bw X.K J a xs:=.inl e1;obtain⟨_,_,_,hz⟩:=c.list e1;refine yh c e1 ⟨j,ds,_,M1,f,e,vJ λH' M' y g'=>?_,by rw[g.len];exact hz,q1⟩;obtain⟨A,e',B⟩:=y a _ g';exact⟨A,.inl e',B⟩
  ·rename_i b e
   obtain⟨n,e1,o,g⟩:=f a _ e;obtain⟨u,C⟩:=freeze c e1;have E:=Kp.put (o':=.frz u (.dK n)) e1 trivial;have L:=f.put (m:=.rod b) e1 trivial (o':=.frz u (.dK n)) ⟨u,n,aD,o,ag.mono E _ g⟩;refine yf C aD ⟨j.trans E,keysOf b,_,_,L,ab,vI aD o _,?_,q1⟩;obtain⟨_,hz,_⟩:=kH C aD;have hl:n.length=b.length:=by have:=congrArg List.length o;simpa using this
   unfold keysOf;rw[ZF];omega
  ·rename_i b e
   obtain⟨u,n,e1,o,g⟩:=f a _ e;refine yf c e1 ⟨j,keysOf b,_,M1,f,e,vI e1 o _,?_,q1⟩;obtain⟨_,hz,_⟩:=kH c e1;have hl:n.length=b.length:=by have:=congrArg List.length o;simpa using this
   unfold keysOf;rw[ZF];omega
  ·exact Yh q1
 |str z=>
  cases RV.str_.1 r;obtain⟨t,rfl⟩:=p;exact GC c ⟨j,_,_,M1,f,trivial,EQ,by rw[ZF];simpa using q1.1,q1.2⟩
 |_=>exact Yh q1
def cm(a b:Int):List D:=(List.range (b-a).toNat).map λ(i:Nat)=>.int (a+(i:Int))
theorem uc{K:Za}{a b:Int}{c:Hp}:rp K (z9 a (b-a).toNat) c (cm a b) (λ_=>True):=by
 intro i H M k f _;have hl:(cm a b).length=(b-a).toNat:=by unfold cm;rw[ZF,ZI]
 rw[hl];refine⟨λhi=>hi,λhi=>Nat.le_of_eq hi.symm,λx H' d hd g=>?_⟩;obtain⟨e,y⟩:=g;subst e y;have hi:i<(b-a).toNat:=by have:=(YB.mp hd).1;rw[hl] at this;exact this
 unfold cm at hd;rw[ZG,List.getElem?_range hi] at hd;cases hd;exact⟨Kp.refl _,f,RV.int_.2 rfl⟩
def l7(t:WA):WI:=λσ M R=>t σ M λds M1=>match ds with
 |[.int j]=>(-1000000<=j/\j<=1000000)/\R (cm 0 j) (λ_=>True) M1
 |_=>False
def l8(t:WA):WI:=λσ M R=>t σ M λds M1=>match ds with
 |[.int i,.int j]=>(-1000000<=i/\i<=1000000/\-1000000<=j/\j<=1000000)/\R (cm i j) (λ_=>True) M1
 |_=>False
theorem ud{a b:Int}(h1:-1000000<=a)(c:b<=1000000):(cm a b).length<=sizeLine:=by
 unfold cm;rw[ZF,ZI,sizeLine_eq];omega
theorem zp{a tg:Expr}{t:WA}{p:Pos}(c:Gl X "range")(hm:X.mg "range" = none)(ha:et X [a] t)(d:ar a=true):rq X tg (.Call (.Name "range" p) [a] [] pos) (l7 t):=by
 intro σ M ρ H R rs f q;refine Du (Ab c hm (j9 [a]) (by rw[aX d];rfl)) ?_;show iT X [a] ρ H _;refine cR (ha σ M ρ H _ rs f q) λvs g l=>?_
 obtain⟨m,ds,M1,b,u,n,q1⟩:=l;try dsimp only at q1
 split at q1
 ·rename_i j
  have b:=b.p;cases b with
  |cons r o=>
   cases o;cases RV.int_.1 r;refine⟨j,rfl,by omega,by omega,m,_,_,M1,n,trivial,?_,ud 'c' q1.1.2,q1.2⟩
   have:=@uc X.K 0 j g
   rw[Int.sub_zero] at this;exact this
 ·exact Yh q1
theorem zq{a b tg:Expr}{t:WA}{p:Pos}(g:Gl X "range")(hm:X.mg "range" = none)(ha:et X [a,b] t)(l:ar a=true)(f:ar b=true):rq X tg (.Call (.Name "range" p) [a,b] [] pos) (l8 t):=by
 intro σ M ρ H R rs m q;refine Du (Ac g hm (j9 [a,b]) (by rw[aX l,aX f];rfl) (by rw[aX f];rfl)) ?_;show iT X [a,b] ρ H _;refine cR (ha σ M ρ H _ rs m q) λvs z n=>?_
 obtain⟨o,ds,M1,c,A,u,q1⟩:=n;try dsimp only at q1
 split at q1
 ·rename_i i j
  have c:=c.p;cases c with
  |cons r d=>
   cases d with
   |cons y d=>
    cases d;cases RV.int_.1 r;cases RV.int_.1 y;exact⟨i,j,rfl,⟨by omega,by omega,by omega,by omega⟩,o,_,_,M1,u,trivial,uc,ud q1.1.1 q1.1.2.2.2,q1.2⟩
 ·exact Yh q1
def i3:Expr->Bool
 |.Set _ _ _=>false
 |_=>true
theorem zr{env:Env}(h:i3 e=true):∀x,foldedSetIterable e env x=pure x:=by
 intro x;cases e<;>first | rfl | (exact absurd (show false=true from h) YH)
def cF(g:MH->Prop)(t:cC)(a:WS)(E:dH):List D->DS->MH->Prop
 |[],σ,M=>E.nx σ M
 |x::xs,σ,M=>fh t x σ λc=>a { E with nx:=λb M2=>g M2/\cF g t a E xs b M2,ct:=λb M2=>g M2/\cF g t a E xs b M2,bk:=E.nx } c M
def pQ(t:WI)(g:cC)(a:WS):WS:=λE σ M=>t σ M λxs b M1=>cF b g a E xs σ M1
theorem ES{tg d:Expr}{body:Zr}{t:WI}{g:cC}{l:WS}(hp:PassesOwn 'b' X.A X.env X.xe)(hc:X.calm=true)(hi:rq X tg d t)(R:Io X tg g)(hb:nu X body l)(S:i3 d=true):
  mL X (.For tg d body [] pos) (pQ t g l):=by
 intro σ M ρ H E rs T q;refine fg (FX hp hc (Cj tg d) R (on body) (zr S)) ?_;show iW X tg d ρ H _;refine tj (hi σ M ρ H _ rs T q) λJ G U=>?_
 obtain⟨n,xs,o,M1,V,W,Y,hz,q1⟩:=U;refine⟨λi m I H'=>m=xs.length-i/\i<=xs.length/\Kp G H'/\∃p M',RS X.K H' p I/\RM X.K M' H'/\o M'/\cF o g l E (xs.drop i) p M',⟨xs.length,by simp,YL _,Kp.refl _,σ,M1,rs.mono n,V,W,q1⟩,?_⟩;rintro i m I H' ⟨rfl,Ow,k',p,M',L,N,g',u⟩;obtain⟨Z,j2,j3⟩:=Y i H' M' k' N g';by_cases z:i<xs.length
 ·rw[List.drop_eq_getElem_cons z] at u
  refine .inr ⟨Z z,λO f=>Kp G f/\∃P M2,RS X.K f P O/\RM X.K M2 f/\o M2/\cF o g l E (xs.drop (i+1)) P M2,λO f ⟨j,r⟩=>⟨xs.length-(i+1),by omega,rfl,z,j,r⟩,λx f y=>?_⟩;obtain⟨j,m2,r2⟩:=j3 x f xs[i] (ZD z) y;refine vH r2 (L.mono j) u λNb JP LM q3=>?_
  refine eD (hb JP M' Nb f _ LM m2 q3) ⟨λQW H4 Kn=>?_,λ_ _=>cy ((n.trans k').trans j),λ_ _=>lW ((n.trans k').trans j),λQW H4 ⟨B,C,F,a,b,c⟩=>⟨k'.trans (j.trans B),C,F,a,b,c.1,c.2⟩⟩;obtain⟨B,C,F,a,b,c⟩:=Kn;exact⟨k'.trans (j.trans B),C,F,a,b,c.1,c.2⟩
 ·have e:i=xs.length:=by omega
  subst e;rw[List.drop_length] at u;exact .inl ⟨j2 rfl,n.trans k',p,M',L,N,u⟩
def ba(g:MH->Prop)(t:cC)(c:WT)(e:WE)(F:List D->MH->Prop):List D->List D->DS->MH->Prop
 |[],acc,_,M=>F acc M
 |x::xs,acc,σ,M=>fh t x σ λa=>c a M λb M1=>aN b (e a M1 λy M2=>g M2/\ba g t c e F xs (acc++[y]) a M2) (g M1/\ba g t c e F xs acc a M1)
def iu(n:Nat)(t:WI)(g:cC)(c:WT)(e:WE):WE:=λσ M Q=>t σ M λxs a M1=>ba a g c e (λds M'=>∀p,M' p=none->Q (.ref p) (ad M' p (.lst ds))) xs [] (σ++List.replicate n none) M1
def zt(X:Cx)(a:Zg)(t:WT):Prop:=(a=[]/\t=λ_ M Q=>Q true M) \/ ∃c,a=[c]/\jy X c t
theorem vK{K:Za}{J:It}{f:Hp}{xs:List D}{j:MH->Prop}{g:cC}{c:WT}{e:WE}{tc:TT}{te:TE}{F:List D->MH->Prop}{Fin:List V->Hp->Prop}{σ:DS}{M1:MH}{ρ:L2.St}
  (Z:rp K J f xs j) (hz:xs.length<=sizeLine) (rs:RS K f σ ρ) (m1:RM K M1 f) (g1:j M1)
  (hc:∀σ M ρ H Q (o:Bool->Hp->Prop),RS K H σ ρ->RM K M H->c σ M Q->(∀b H',Kp H H'->∀M',RM K M' H'->Q b M'->o b H')->tc ρ H o)
  (he:∀σ M ρ H Q (o:VK),RS K H σ ρ->RM K M H->e σ M Q->(∀v H',Kp H H'->∀d M',RV K H' d v->RM K M' H'->Q d M'->o v H')->te ρ H o)
  (hF:∀ds vs H' M',Kp f H'->RM K M' H'->ag K H' ds vs->F ds M'->Fin vs H') (q:ba j g c e F xs [] σ M1):u4 J (vG K g) tc te Fin ρ f:=by
 refine⟨λi m ys I H'=>m=xs.length-i/\i<=xs.length/\Kp f H'/\∃C M' ds,RS K H' C I/\RM K M' H'/\j M'/\ag K H' ds ys/\ds.length<=i/\ba j g c e F (xs.drop i) ds C M',⟨xs.length,by simp,YL _,Kp.refl _,σ,M1,[],rs,m1,g1,ag.nil,YE _,q⟩,?_⟩;rintro i m ys I H' ⟨rfl,Ow,k',C,M',ds,Kj,L,g',t,hd,u⟩;obtain⟨j1,j2,j3⟩:=Z i H' M' k' L g';by_cases z:i<xs.length
 ·rw[List.drop_eq_getElem_cons z] at u
  refine .inr ⟨j1 z,by rw[←t.len];omega,λN O a=>Kp f a/\∃P M2 E,RS K a P O/\RM K M2 a/\j M2/\ag K a E N/\E.length<=i+1/\ba j g c e F (xs.drop (i+1)) E P M2,λN O a ⟨l,r⟩=>⟨xs.length-(i+1),by omega,rfl,z,l,r⟩,λx a y=>?_⟩;obtain⟨l,m2,r2⟩:=j3 x a xs[i] (ZD z) y;refine vH r2 (Kj.mono l) u λR A B q3=>?_
  refine hc A M' R a _ _ B m2 q3 λb H4 n S T G=>?_
  cases b with
  |true=>
   refine he A S R H4 _ _ (B.mono n) T G λv H5 U d M5 rv m5 W=>?_
   have Y:=l.trans (n.trans U);exact⟨k'.trans Y,A,M5,ds++[d],B.mono (n.trans U),m5,W.1,ag.of (cv (ag.mono Y _ t).p (.cons rv .nil)),by simp;omega,W.2⟩
  |false=>exact⟨k'.trans (l.trans n),A,S,ds,B.mono n,T,G.1,ag.mono (l.trans n) _ t,by omega,G.2⟩
 ·have e:i=xs.length:=by omega
  subst e;rw[List.drop_length] at u;exact .inl ⟨j2 rfl,hF ds ys H' M' k' L t u⟩
section
variable {w_ tg iter:Expr}{ifs:Zg}{scope JL:Scope}{own N2:Zf}
def bT(X:Cx)(scope:Scope)(own N2:Zf)(ifs:Zg):TT:=λρ H Q=>∀C s a ex pn a_ b,ac (cZ X scope own N2 C s a ex pn) a_ ρ H b ->
 wpAny 'b' X.A (forIn ifs true λc r=>if r=true then do let ok ←isTrue c (cZ X scope own N2 C s a ex pn).env (eval c (cZ X scope own N2 C s a ex pn).env);pure (ForInStep.yield ok) else pure (ForInStep.yield r)) (TP (cZ X scope own N2 C s a ex pn) a_ ρ Q) (cZ X scope own N2 C s a ex pn).xe b
def bE(X:Cx)(scope:Scope)(own N2:Zf)(e:Expr):TE:=λρ H Q=>∀C s a ex pn,tW (cZ X scope own N2 C s a ex pn) e ρ H Q
theorem oZ{c:WT}{te:WE}(hc:∀C s a ex pn,zt (cZ X scope own N2 C s a ex pn) ifs c)(n:∀C s a ex pn,aL (cZ X scope own N2 C s a ex pn) w_ te):
  (∀σ M ρ H Q (g:Bool->Hp->Prop),RS X.K H σ ρ->RM X.K M H->c σ M Q->(∀b H',Kp H H'->∀M',RM X.K M' H'->Q b M'->g b H')->bT X scope own N2 ifs ρ H g) /\
  (∀σ M ρ H Q (g:VK),RS X.K H σ ρ->RM X.K M H->te σ M Q->(∀v H',Kp H H'->∀d M',RV X.K H' d v->RM X.K M' H'->Q d M'->g v H')->bE X scope own N2 w_ ρ H g):=by
 refine⟨λσ M ρ H Q g rs j q f C s a ex pn a_ m I=>?_,λσ M ρ H Q g rs j q f C s a ex pn=>?_⟩
 ·rcases hc C s a ex pn with⟨e1,e2⟩ | ⟨c',e1,h⟩
  ·subst e1 e2
   exact Eh (X:=cZ X scope own N2 C s a ex pn) a_ m ρ H _ I (f true H (Kp.refl H) M j q)
  ·subst e1
   refine Ei (X:=cZ X scope own N2 C s a ex pn) (ng c') a_ m ρ H _ I ?_;refine fE (h σ M ρ H Q rs j q) λb H' o=>?_
   obtain⟨k,M',m',l⟩:=o;exact f b H' k M' m' l
 ·refine aJ (n C s a ex pn σ M ρ H Q rs j q) λv H' p=>?_
  obtain⟨k,d,M',r,m',l⟩:=p;exact f v H' k d M' r m' l
theorem Ck{t:WI}{g:cC}{c:WT}{te:WE}(l:er JL scope X.N own N2)(n:X.env.scope=JL)(o:X.calm=true)(hi:rq X tg iter t)(r:∀C s a ex pn,PG (cZ X scope own N2 C s a ex pn) tg (vG X.K g))
  (hc:∀C s a ex pn,zt (cZ X scope own N2 C s a ex pn) ifs c) (u:∀C s a ex pn,aL (cZ X scope own N2 C s a ex pn) w_ te) (y:i3 iter=true):aL X (.ListComp w_ [⟨tg,iter,ifs,0⟩] scope pos) (iu own.length t g c te):=by
 intro σ M ρ H Q rs z q;obtain⟨A,B⟩:=oZ hc u;refine bZ (Ej (te:=bE X scope own N2 w_) (tc:=bT X scope own N2 ifs) l o (Cj tg iter) r (λC s a ex pn a_ b E H' F I h=>h C s a ex pn a_ b I) (λC s a ex pn a_ b E H' F I h=>h C s a ex pn a_ b I) n rfl (zr y)) ?_;show iW X tg iter ρ H _;refine tj (hi σ M ρ H _ rs z q) λJ S G=>?_
 obtain⟨d,xs,T,M1,L,O,P,hz,q1⟩:=G;refine vK P hz ((rs.mono d).more own.length) L O A B ?_ q1;intro ds vs H' M' k' m' R f p hp;have j:Kp H' (aM H' p (.lst vs)):=Kp.new hp;exact⟨(d.trans k').trans j,.ref p,_,RV.ref_.2 rfl,m'.new (m:=.lst ds) hp ⟨vs,aD,ag.mono j _ R⟩,f p (m'.fresh hp)⟩
def l9(i n:Nat)(t:WI)(g:cC)(c:WT)(e:WE):WS:=λE σ M=>t σ M λxs a M1=>ba a g c e (λds M'=>∀p,M' p=none->E.nx (σ.set i (some (.ref p))) (ad M' p (.lst ds))) xs [] (σ++List.replicate n none) M1
theorem Cl{t:WI}{g:cC}{c:WT}{te:WE}{i:Nat}{y:Str}{l n:Pos}(o:er JL scope X.N own N2)(r:X.env.scope=JL)(u:X.calm=true)(z:X.N.Nodup)(hy:X.N[i]?=some y)(hl:X.env.scope.names.lookup y=some .local)(hi:rq X tg iter t)
  (A:∀C s a ex pn,PG (cZ X scope own N2 C s a ex pn) tg (vG X.K g))
  (hc:∀C s a ex pn,zt (cZ X scope own N2 C s a ex pn) ifs c) (B:∀C s a ex pn,aL (cZ X scope own N2 C s a ex pn) w_ te) (F:i3 iter=true)
  (G:swapsWith (.ListComp w_ [⟨tg,iter,ifs,0⟩] scope pos) (some (.Name y l)) n.line X.env=pure true):mL X (.Assign [.Name y l] (.ListComp w_ [⟨tg,iter,ifs,0⟩] scope pos) n) (l9 i own.length t g c te):=by
 intro σ M ρ H E rs L q;obtain⟨O,P⟩:=oZ hc B;refine fg (Ek (te:=bE X scope own N2 w_) (tc:=bT X scope own N2 ifs) (i:=i) o u z hy hl (Cj tg iter) A (λC s a ex pn a_ b R H' S I h=>h C s a ex pn a_ b I) (λC s a ex pn a_ b R H' S I h=>h C s a ex pn a_ b I) G r rfl (zr F)) ?_;show iW X tg iter ρ H _;refine tj (hi σ M ρ H _ rs L q) λJ Z T=>?_
 obtain⟨d,xs,gd,M1,U,V,W,hz,q1⟩:=T;refine vK W hz ((rs.mono d).more own.length) U V O P ?_ q1;intro ds vs H' M' k' m' Y f p hp;have j:Kp H' (aM H' p (.lst vs)):=Kp.new hp;exact⟨(d.trans k').trans j,_,_,(rs.mono ((d.trans k').trans j)).set i (RV.ref_.2 rfl),m'.new (m:=.lst ds) hp ⟨vs,aD,ag.mono j _ Y⟩,f p (m'.fresh hp)⟩
end
def aC(N:Zf)(ds:List D):DS:=ds.map some++List.replicate (N.length-ds.length) none
theorem vL{K:Za}{H:Hp}{N:Zf}{ds:List D}{vs:List V}(r:ag K H ds vs):RS K H (aC N ds) (L2.start N vs):=by
 unfold aC L2.start;rw[r.len];refine cv ?_ (iS (λd e=>nomatch e) _);have p:=r.p;clear r;induction p with
 |nil=>exact .nil
 |cons r _ a=>exact .cons (λd e=>by cases e;exact⟨_,rfl,r⟩) a
end
section
variable {P:Zt}{w:World}{K:Za}{mg:Ze}{base:Heap}
theorem Jy{x:Str}{st:Stmt}{ps N:Zf}{f:Addr}{fd:Zs}{k:Nat}{sp:aI}{t:WS}(b:lJ K mg x st ps f fd)(S:cI N ps (ax st))(len:∀ds M Q,sp ds M Q->ds.length=ps.length)
  (hb:∀i' A outer s H E,bQ k (A.deeper (envOfC x (ax st) s.heap.objs.size f i'))->nu (m7 jw P w K mg base N x (ax st) f i' A outer s H E).nox (aY st) t)
  (h:∀ds M Q,sp ds M Q->t { nx:=λ_ M'=>Q .non M',rt:=Q } (aC N ds) M):bR P w K mg base (k+1) x sp:=by
 refine⟨st,ps,f,fd,b,b.fn.ok S (λvs H Q E ⟨ds,M,a,r,_,s,_⟩=>by rw[←r.len];exact len ds M a s) λi' A outer s H vs Q E g ⟨ds,M,a,r,m,sq,c⟩=>⟨pM _ _,on _,?_⟩⟩;refine eD (hb i' A outer s H E g (aC N ds) M (L2.start N vs) H _ (vL r) m (h ds M a sq)) ⟨λn H' j=>?_,λv H' ⟨k',d,M',l,m',q⟩=>c _ _ _ _ q k' l m',λ_ _ ⟨_,_,_,_,_,q⟩=>q,λ_ _ ⟨_,_,_,_,_,q⟩=>q⟩;obtain⟨k',o,M',_,m',q⟩:=j;exact c _ _ _ _ q k' (RV.non_.2 rfl) m'
end
mutual
noncomputable def aW:D->Bool
 |.ref _=>false
 |.ty _=>false
 |.tup ds=>aT ds
 |_=>true
noncomputable def aT:List D->Bool
 |[]=>true
 |d::ds=>aW d&&aT ds
end
mutual
noncomputable def cD:D->Nat
 |.tup ds=>bh ds+1
 |_=>0
noncomputable def bh:List D->Nat
 |[]=>0
 |d::ds=>max (cD d) (bh ds)
end
mutual
noncomputable def aP:D->D->Bool
 |.non,.non=>true
 |.bl a,.bl b=>a==b
 |.bl a,.int b=>(if a then 1 else 0)==b
 |.int a,.bl b=>a==(if b then 1 else 0)
 |.int a,.int b=>a==b
 |.str a,.str b=>a==b
 |.tup as,.tup bs=>bF as bs
 |_,_=>false
noncomputable def bF:List D->List D->Bool
 |[],[]=>true
 |a::as,b::bs=>aP a b&&bF as bs
 |_,_=>false
end
mutual
theorem dw:∀d:D,aW d=true->aP d d=true
 |.non,_=>by rw[aP]
 |.bl b,_=>by rw[aP];simp
 |.int b,_=>by rw[aP];simp
 |.str b,_=>by rw[aP];simp
 |.ref _,h=>by rw[aW] at h;cases h
 |.ty _,h=>by rw[aW] at h;cases h
 |.tup ds,h=>by rw[aW] at h;rw[aP];exact ue ds h
theorem ue:∀ds:List D,aT ds=true->bF ds ds=true
 |[],_=>by rw[bF]
 |d::ds,h=>by
  rw[aT,YU] at h;rw[bF,dw d h.1,ue ds h.2];rfl
end
theorem i4:∀{as bs:List D},bF as bs=((List.range (min as.length bs.length)).all (λj=>aP ((as[j]?).getD .non) ((bs[j]?).getD .non))&&as.length==bs.length)
 |[],[]=>by rw[bF];rfl
 |[],b::bs=>by rw[bF]<;>simp
 |a::as,[]=>by rw[bF]<;>simp
 |a::as,b::bs=>by
  rw[bF,i4 (as:=as) (bs:=bs)];have e:min (a::as).length (b::bs).length=min as.length bs.length+1:=by simp only[YI];omega
  rw[e,List.range_succ_eq_map,XJ,List.all_map];simp only[List.getElem?_cons_zero,Option.getD_some,YI];rw[Bool.and_assoc];congr 1;congr 1;rw[Bool.eq_iff_iff];simp
theorem cr:∀{ds:List D}{i:Nat}{d:D},aT ds=true->ds[i]?=some d->aW d=true
 |d::ds,0,_,h,e=>by rw[aT,YU] at h;simp at e;subst e;exact h.1
 |d::ds,i+1,_,h,e=>by rw[aT,YU] at h;exact cr (ds:=ds) (i:=i) h.2 (by simpa using e)
theorem gH:∀{ds:List D}{i:Nat}{d:D},ds[i]?=some d->cD d<=bh ds
 |d::ds,0,_,e=>by rw[bh];simp at e;subst e;omega
 |d::ds,i+1,_,e=>by rw[bh];have:=gH (ds:=ds) (i:=i) (by simpa using e);omega
section
variable {X:Cx}{a_:Zc}{ρ:L2.St}{H:Hp}{s:Shared}
def iw:D->Bool
 |.non=>true
 |.bl _=>true
 |.int _=>true
 |.str _=>true
 |_=>false
def toV:D->V
 |.non=>.non
 |.bl b=>.bl b
 |.int i=>.int i
 |.str x=>.str x
 |_=>.non
theorem oo{K:Za}{d:D}{v:V}(f:iw d=true)(r:RV K H d v):v=toV d/\zh v=true:=by
 cases d with
 |non=>cases RV.non_.1 r;exact⟨rfl,rfl⟩
 |bl b=>cases RV.bl_.1 r;exact⟨rfl,rfl⟩
 |int b=>cases RV.int_.1 r;exact⟨rfl,rfl⟩
 |str b=>cases RV.str_.1 r;exact⟨rfl,rfl⟩
 |_=>exact absurd (show false=true from f) YH
theorem yi{d e:D}(f:iw d=true)(g:iw e=true):aP d e=Il (toV d) (toV e):=by
 cases d<;>cases e<;>first | exact absurd (show false=true from f) YH | exact absurd (show false=true from g) YH | (rw[aP]<;>first | rfl | (intros;contradiction) | skip)
mutual
theorem vM(I:ac X a_ ρ H s):∀(d e:D){v:V},aW d=true->aW e=true->RV X.K H d v->RV X.K H e v->d=e:=λd e v pd pe rd re=>by
 cases d with
 |non=>cases RV.non_.1 rd;cases e with
  |non=>rfl
  |tup ds=>obtain⟨a,xs,z,_⟩:=RV.tup_.1 re;cases z
  |_=>rw[RV] at re;cases re
 |bl b=>cases RV.bl_.1 rd;cases e with
  |bl b'=>cases RV.bl_.1 re;rfl
  |tup ds=>obtain⟨a,xs,z,_⟩:=RV.tup_.1 re;cases z
  |_=>rw[RV] at re;cases re
 |int b=>cases RV.int_.1 rd;cases e with
  |int b'=>cases RV.int_.1 re;rfl
  |tup ds=>obtain⟨a,xs,z,_⟩:=RV.tup_.1 re;cases z
  |_=>rw[RV] at re;cases re
 |str b=>cases RV.str_.1 rd;cases e with
  |str b'=>cases RV.str_.1 re;rfl
  |tup ds=>obtain⟨a,xs,z,_⟩:=RV.tup_.1 re;cases z
  |_=>rw[RV] at re;cases re
 |ref a=>rw[aW] at pd;cases pd
 |ty a=>rw[aW] at pd;cases pd
 |tup ds=>
  obtain⟨a,xs,rfl,sq,rr⟩:=RV.tup_.1 rd;cases e with
  |tup es=>
   obtain⟨a',I_,z,J5,u_⟩:=RV.tup_.1 re;cases z
   have:=I.tuple_inj sq J5
   subst this;rw[aW] at pd pe;rw[yj I ds es pd pe rr u_]
  |ref a=>rw[aW] at pe;cases pe
  |_=>rw[RV] at re;cases re
theorem yj(I:ac X a_ ρ H s):∀(ds es:List D){vs:List V},aT ds=true->aT es=true->ag X.K H ds vs->ag X.K H es vs->ds=es
 |[],[],_,_,_,_,_=>rfl
 |[],e::es,_,_,_,rd,re=>by have:=rd.len;have:=re.len;simp only[YI,YS] at *;omega
 |d::ds,[],_,_,_,rd,re=>by have:=rd.len;have:=re.len;simp only[YI,YS] at *;omega
 |d::ds,e::es,_,pd,pe,rd,re=>by
  rw[ag] at rd re;rw[aT,YU] at pd pe;obtain⟨v,vs,rfl,r1,r2⟩:=rd;obtain⟨v',JU,z,QX,QY⟩:=re;cases z;rw[vM I d e pd.1 pe.1 r1 QX,yj I ds es pd.2 pe.2 r2 QY]
end
theorem tm{A:Around}{ds:List D}{e:D}{v u:V}{g j:Value}(I:ac X a_ ρ H s)(hu:A.units<cLine)(f:iw e=true)(l:RV X.K H (.tup ds) v)(c:RV X.K H e u)(r:RelV v g)(d:RelV u j):
  SeqAt.EqAt A s g j false/\SeqAt.EqAt A s j g false:=by
 obtain⟨a,xs,rfl,sq,m⟩:=RV.tup_.1 l;obtain⟨b_,_,tp,_⟩:=I.tuple sq;cases r;have tp:s.heap.IsTuple a b_.toArray:=tp;cases e with
 |non=>cases RV.non_.1 c;cases d;exact⟨SeqAt.EqAt.tuple_none tp hu,SeqAt.EqAt.none_tuple tp hu⟩
 |bl b=>cases RV.bl_.1 c;cases d;exact⟨SeqAt.EqAt.tuple_bool b tp hu,SeqAt.EqAt.bool_tuple b tp hu⟩
 |int b=>cases RV.int_.1 c;obtain⟨t,rfl⟩:=d;exact⟨SeqAt.EqAt.tuple_int b t tp hu,SeqAt.EqAt.int_tuple b t tp hu⟩
 |str b=>cases RV.str_.1 c;obtain⟨t,rfl⟩:=d;exact⟨SeqAt.EqAt.tuple_str b t tp hu,SeqAt.EqAt.str_tuple b t tp hu⟩
 |_=>exact absurd (show false=true from f) YH
theorem nw{ds:List D}{e:D}(f:iw e=true):aP (.tup ds) e=false/\aP e (.tup ds)=false:=by
 cases e<;>first | exact absurd (show false=true from f) YH | (constructor<;>(rw[aP]<;>(intros;contradiction)))
theorem dJ{d:D}(h:aW d=true):iw d=true \/ ∃ds,d=.tup ds:=by
 cases d with
 |ref a=>rw[aW] at h;cases h
 |ty a=>rw[aW] at h;cases h
 |tup ds=>exact .inr ⟨ds,rfl⟩
 |_=>exact .inl rfl
theorem units_in1(A:Around):A.in1.units=A.units+1:=rfl
theorem fF{K:Za}{ds:List D}{vs:List V}{b_:Zd}(a:ag K H ds vs)(b:am vs b_){j:Nat}(h:j<b_.toArray.size):
  ∃d v,ds[j]?=some d/\RV K H d v/\RelV v b_.toArray[j]:=by
 have h1:j<b_.length:=by simpa using h
 have f:j<vs.length:=by rw[b.length];exact h1
 have c:j<ds.length:=by rw[a.len];exact f
 obtain⟨v,hv,r⟩:=dU a.p (ZD c);obtain⟨u,hu,g⟩:=b.get hv;have:b_.toArray[j]=u:=by
  have:=ZD h1
  rw[this] at hu;simpa using hu
 exact⟨ds[j],v,ZD c,r,by rw[this];exact g⟩
theorem vN(n:Nat):∀{s:Shared}{A:Around}(d e:D){v u:V}{t y:Value},ac X a_ ρ H s->cD d<=n->A.units+n<cLine->aW d=true->aW e=true->RV X.K H d v->RV X.K H e u->RelV v t->RelV u y->SeqAt.EqAt A s t y (aP d e):=by
 induction n with
 |zero=>
  intro s A d e v u t y I hd hu o p c l r m;rcases dJ o with f | ⟨ds,rfl⟩
  ·rcases dJ p with g | ⟨es,rfl⟩
   ·rw[yi f g]
    obtain⟨B,C⟩:=oo f c;obtain⟨E,F⟩:=oo g l;rw[←B,←E];exact Aj r m C F
   ·rw[(nw f).2];exact(tm I 'c' f l c m r).2
  ·rw[cD] at hd;omega
 |succ n P=>
  intro s A d e v u t y I hd hu o p c l r m;rcases dJ o with f | ⟨ds,rfl⟩
  ·rcases dJ p with g | ⟨es,rfl⟩
   ·rw[yi f g]
    obtain⟨B,C⟩:=oo f c;obtain⟨E,F⟩:=oo g l;rw[←B,←E];exact Aj r m C F
   ·rw[(nw f).2];exact(tm I 'c' f l c m r).2
  ·rcases dJ p with g | ⟨es,rfl⟩
   ·rw[(nw g).1];exact(tm I 'c' g c l r m).1
   ·by_cases z:v=u
    ·subst z
     have:=vM I _ _ o p c l
     cases this;rw[dw _ o];obtain⟨a,xs,rfl,_⟩:=RV.tup_.1 c;cases r;cases m;exact SeqAt.EqAt.same _
    ·obtain⟨a,xs,rfl,sq,J⟩:=RV.tup_.1 c
     obtain⟨b,ys,rfl,R,L⟩:=RV.tup_.1 l;cases r;cases m;have S:a≠b:=λq=>z (by rw[q])
     obtain⟨b_,N,tp,_⟩:=I.tuple sq;obtain⟨g_,O,T,_⟩:=I.tuple R;rw[cD] at hd;rw[aW] at o p;have G:=SeqAt.RcAt.tuples (A:=A) (e:=λj=>aP ((ds[j]?).getD .non) ((es[j]?).getD .non)) (show s.heap.IsTuple a b_.toArray from tp) (show s.heap.IsTuple b g_.toArray from T) 'c' (λj h1 U=>by
      obtain⟨d,v,e1,W,q1⟩:=fF J N h1;obtain⟨e,u,e2,Y,Z⟩:=fF L O U;rw[e1,e2]
      have:=gH e1
      exact P d e I 'c' (by rw[units_in1];omega) (cr o e1) (cr p e2) W Y q1 Z)
     have e:aP (.tup ds) (.tup es)=((List.range (min b_.toArray.size g_.toArray.size)).all (λj=>aP ((ds[j]?).getD .non) ((es[j]?).getD .non))&&b_.toArray.size==g_.toArray.size):=by
      have l1:b_.toArray.size=ds.length:=by rw[J.len,N.length];simp
      have l2:g_.toArray.size=es.length:=by rw[L.len,O.length];simp
      rw[aP,i4,l1,l2]
     rw[e];exact SeqAt.EqAt.of_refs S G
end
section
variable {X:Cx}{H:Hp}
def pR:D->D->MH->DK->Prop
 |.int i,.int j,M,Q=>Q (.int (i+j)) M
 |.str i,.str j,M,Q=>i.length+j.length<=sizeLine/\Q (.str (i++j)) M
 |.tup xs,.tup ys,M,Q=>(xs≠[]/\xs.length+ys.length<=sizeLine)/\Q (.tup (xs++ys)) M
 |.ref a,.ref b,M,Q=>match M a,M b with
  |some (.lst xs),some (.lst ys)=>xs.length+ys.length<=sizeLine/\∀p,M p=none->Q (.ref p) (ad M p (.lst (xs++ys)))
  |_,_=>False
 |_,_,_,_=>False
theorem ET:gG X (binaryOp .Add) pR:=by
 intro x y v u H M Q g l c h;cases x with
 |int i=>cases y with
  |int j=>cases RV.int_.1 g;cases RV.int_.1 l;exact dW F1 ⟨i,j,rfl,rfl,ay (RV.int_.2 rfl) c h⟩
  |_=>exact Yh h
 |str i=>cases y with
  |str j=>cases RV.str_.1 g;cases RV.str_.1 l;exact dW yZ ⟨i,j,rfl,rfl,h.1,ay (RV.str_.2 rfl) c h.2⟩
  |_=>exact Yh h
 |tup xs=>cases y with
  |tup ys=>
   obtain⟨a,vs,rfl,sq,d⟩:=RV.tup_.1 g;obtain⟨b,us,rfl,q,f⟩:=RV.tup_.1 l;obtain⟨⟨h1,r⟩,n⟩:=h;refine dW D9 ⟨a,b,vs,us,rfl,rfl,sq,q,λz=>h1 ?_,by rw[←d.len,←f.len];exact r,λz=>?_,λz p hp=>?_⟩
   ·have:=d.len;rw[z] at this;exact List.eq_nil_of_length_eq_zero this
   ·have:=f.len;rw[z] at this
    have:ys=[]:=List.eq_nil_of_length_eq_zero this
    subst this;rw[ZA] at n;exact ay g c n
   ·have k:=Kp.new (o:=.tup (vs++us)) hp
    exact⟨k,.tup (xs++ys),M,RV.tup_.2 ⟨p,_,rfl,bG.of aD,ag.of (cv (ag.mono k _ d).p (ag.mono k _ f).p)⟩,c.newH hp,n⟩
  |_=>exact Yh h
 |ref a=>cases y with
  |ref b=>
   cases RV.ref_.1 g;cases RV.ref_.1 l;have h:match M a,M b with
    |some (.lst xs),some (.lst ys)=>xs.length+ys.length<=sizeLine/\∀p,M p=none->Q (.ref p) (ad M p (.lst (xs++ys)))
    |_,_=>False:=h
   split at h
   ·rename_i xs ys e1 e2
    obtain⟨vs,q1,d⟩:=c a _ e1;obtain⟨us,t,f⟩:=c b _ e2;refine dW Gp ⟨a,b,vs,us,rfl,rfl,q1,t,by rw[←d.len,←f.len];exact h.1,λp hp=>?_⟩;have k:=Kp.new (o:=.lst (vs++us)) hp;exact⟨k,.ref p,_,RV.ref_.2 rfl,c.new (m:=.lst (xs++ys)) hp ⟨_,aD,ag.of (cv (ag.mono k _ d).p (ag.mono k _ f).p)⟩,h.2 p (c.fresh hp)⟩
   ·exact Yh h
  |_=>exact Yh h
 |_=>exact Yh h
def dI(C:Int->Int->Prop)(g:Int->Int->Int):D->D->MH->DK->Prop
 |.int i,.int j,M,Q=>C i j/\Q (.int (g i j)) M
 |_,_,_,_=>False
theorem rz{f:Zk}{C:Int->Int->Prop}{g:Int->Int->Int}(a:ck X f (rI C λi j=>.int (g i j))):gG X f (dI C g):=by
 intro x y v u H M Q b c d h;cases x with
 |int i=>cases y with
  |int j=>cases RV.int_.1 b;cases RV.int_.1 c;exact dW a ⟨i,j,rfl,rfl,h.1,ay (RV.int_.2 rfl) d h.2⟩
  |_=>exact Yh h
 |_=>exact Yh h
def o0(g:Int->Int->Int):D->D->MH->DK->Prop
 |.int i,.int j,M,Q=>Q (.int (g i j)) M
 |_,_,_,_=>False
theorem rA{f:Zk}{g:Int->Int->Int}(a:ck X f (kF λi j=>.int (g i j))):gG X f (o0 g):=by
 intro x y v u H M Q b c d h;cases x with
 |int i=>cases y with
  |int j=>cases RV.int_.1 b;cases RV.int_.1 c;exact dW a ⟨i,j,rfl,rfl,ay (RV.int_.2 rfl) d h⟩
  |_=>exact Yh h
 |_=>exact Yh h
def pS:D->D->MH->DK->Prop
 |.int i,.int j,M,Q=>yW i j/\Q (.int (i*j)) M
 |.str z,.int n,M,Q=>(0<=n/\n<=1048576/\z.length*n.toNat<=1048576)/\Q (.str (Txt.mul z n)) M
 |.ref a,.int k,M,Q=>match M a with
  |some (.lst xs)=>(-1000000<=k/\k<=1000000/\xs.length*k.toNat<=sizeLine)/\∀p,M p=none->Q (.ref p) (ad M p (.lst (List.replicate k.toNat xs).flatten))
  |_=>False
 |_,_,_,_=>False
theorem EU:gG X (binaryOp .Mult) pS:=by
 intro x y v u H M Q c d b h;cases x with
 |int i=>cases y with
  |int j=>cases RV.int_.1 c;cases RV.int_.1 d;exact dW F3 ⟨i,j,rfl,rfl,h.1,ay (RV.int_.2 rfl) b h.2⟩
  |_=>exact Yh h
 |str z=>cases y with
  |int n=>cases RV.str_.1 c;cases RV.int_.1 d;exact dW zj ⟨z,n,rfl,rfl,h.1.1,h.1.2.1,h.1.2.2,ay (RV.str_.2 rfl) b h.2⟩
  |_=>exact Yh h
 |ref a=>cases y with
  |int k=>
   cases RV.ref_.1 c;cases RV.int_.1 d;have h:match M a with
    |some (.lst xs)=>(-1000000<=k/\k<=1000000/\xs.length*k.toNat<=sizeLine)/\∀p,M p=none->Q (.ref p) (ad M p (.lst (List.replicate k.toNat xs).flatten))
    |_=>False:=h
   split at h
   ·rename_i xs e1
    obtain⟨vs,q1,f⟩:=b a _ e1;refine dW Gq ⟨a,k,vs,rfl,rfl,q1,by omega,by omega,by rw[←f.len];exact h.1.2.2,λp hp=>?_⟩;have g:=Kp.new (o:=.lst (List.replicate k.toNat vs).flatten) hp;exact⟨g,.ref p,_,RV.ref_.2 rfl,b.new (m:=.lst (List.replicate k.toNat xs).flatten) hp ⟨_,aD,ag.of (AB (ag.mono g _ f).p _)⟩,h.2 p (b.fresh hp)⟩
   ·exact Yh h
  |_=>exact Yh h
 |_=>exact Yh h
def pT:Operator->D->D->MH->DK->Prop
 |.Add=>pR
 |.Sub=>o0 λi j=>i-j
 |.Mult=>pS
 |.FloorDiv=>dI FZ λi j=>i / j
 |.Mod=>dI (λ_ j=>0<j) λi j=>i%j
 |.Pow=>dI yV λi j=>i ^ j.toNat
 |.LShift=>dI yV λi j=>i*2 ^ j.toNat
 |.RShift=>dI (λ_ j=>0<=j) λi j=>i / 2 ^ j.toNat
 |.BitAnd=>o0 Builtin.bitAnd
 |.BitOr=>o0 Builtin.bitOr
 |.BitXor=>o0 Builtin.bitXor
 |_=>λ_ _ _ _=>False
theorem EV(op:Operator):gG X (binaryOp op) (pT op):=by
 cases op with
 |Add=>exact ET
 |Sub=>exact rA F2
 |Mult=>exact EU
 |FloorDiv=>exact rz DT
 |Mod=>exact rz F4
 |Pow=>exact rz F5
 |LShift=>exact rz F6
 |RShift=>exact rz F7
 |BitAnd=>exact rA F8
 |BitOr=>exact rA HF
 |BitXor=>exact rA F9
 |_=>exact λ_ _ _ _ _ _ _ _ _ _ h=>Yh h
def rB(g:Int->Int->Bool):D->D->MH->DK->Prop
 |.int i,.int j,M,Q=>Q (.bl (g i j)) M
 |_,_,_,_=>False
theorem rC{f:Zk}{g:Int->Int->Bool}(a:ck X f (kF λi j=>.bl (g i j))):gG X f (rB g):=by
 intro x y v u H M Q b c d h;cases x with
 |int i=>cases y with
  |int j=>cases RV.int_.1 b;cases RV.int_.1 c;exact dW a ⟨i,j,rfl,rfl,ay (RV.bl_.2 rfl) d h⟩
  |_=>exact Yh h
 |_=>exact Yh h
def o6(x y:D)(M:MH)(Q:Bool->Prop):Prop:=match x,y with
 |.ref a,.ref b=>match aU (M a),aU (M b) with
  |some xs,some ys=>(aT xs=true/\aT ys=true/\bh xs<=30)/\Q (bF xs ys)
  |_,_=>False
 |.ref a,y=>match aU (M a) with
  |some _=>aW y=true/\Q false
  |none=>False
 |x,.ref b=>match aU (M b) with
  |some _=>aW x=true/\Q false
  |none=>False
 |x,y=>(aW x=true/\aW y=true/\cD x<=30)/\Q (aP x y)
theorem AM{A:Around}{s:Shared}{d e:D}{v u:V}{m n:Value}{K:Za}(f:iw d=true)(g:iw e=true)(l:RV K H d v)(c:RV K H e u)(r:RelV v m)(j:RelV u n):
  SeqAt.RcAt A s m n (aP d e)/\SeqAt.RcNeAt A s m n (!aP d e):=by
 cases d with
 |non=>
  cases RV.non_.1 l;cases r;cases e with
  |non=>cases RV.non_.1 c;cases j;rw[aP];exact⟨SeqAt.RcAt.none_none,SeqAt.RcNeAt.none_none⟩
  |bl b=>cases RV.bl_.1 c;cases j;rw[aP]<;>first | exact⟨SeqAt.RcAt.none_bool b,SeqAt.RcNeAt.none_bool b⟩ | (intros;contradiction)
  |int b=>cases RV.int_.1 c;obtain⟨t,rfl⟩:=j;rw[aP]<;>first | exact⟨SeqAt.RcAt.none_int b t,SeqAt.RcNeAt.none_int b t⟩ | (intros;contradiction)
  |str b=>cases RV.str_.1 c;obtain⟨t,rfl⟩:=j;rw[aP]<;>first | exact⟨SeqAt.RcAt.none_str b t,SeqAt.RcNeAt.none_str b t⟩ | (intros;contradiction)
  |_=>exact absurd (show false=true from g) YH
 |bl a=>
  cases RV.bl_.1 l;cases r;cases e with
  |non=>cases RV.non_.1 c;cases j;rw[aP]<;>first | exact⟨SeqAt.RcAt.bool_none a,SeqAt.RcNeAt.bool_none a⟩ | (intros;contradiction)
  |bl b=>cases RV.bl_.1 c;cases j;rw[aP];exact⟨SeqAt.RcAt.bool_bool a b,SeqAt.RcNeAt.bool_bool a b⟩
  |int b=>cases RV.int_.1 c;obtain⟨t,rfl⟩:=j;rw[aP];exact⟨SeqAt.RcAt.bool_int a b t,SeqAt.RcNeAt.bool_int a b t⟩
  |str b=>cases RV.str_.1 c;obtain⟨t,rfl⟩:=j;rw[aP]<;>first | exact⟨SeqAt.RcAt.bool_str a b t,SeqAt.RcNeAt.bool_str a b t⟩ | (intros;contradiction)
  |_=>exact absurd (show false=true from g) YH
 |int a=>
  cases RV.int_.1 l;obtain⟨t',rfl⟩:=r;cases e with
  |non=>cases RV.non_.1 c;cases j;rw[aP]<;>first | exact⟨SeqAt.RcAt.int_none a t',SeqAt.RcNeAt.int_none a t'⟩ | (intros;contradiction)
  |bl b=>cases RV.bl_.1 c;cases j;rw[aP];exact⟨SeqAt.RcAt.int_bool a t' b,SeqAt.RcNeAt.int_bool a t' b⟩
  |int b=>cases RV.int_.1 c;obtain⟨t,rfl⟩:=j;rw[aP];exact⟨SeqAt.RcAt.int_int a t' b t,SeqAt.RcNeAt.int_int a t' b t⟩
  |str b=>cases RV.str_.1 c;obtain⟨t,rfl⟩:=j;rw[aP]<;>first | exact⟨SeqAt.RcAt.int_str a t' b t,SeqAt.RcNeAt.int_str a t' b t⟩ | (intros;contradiction)
  |_=>exact absurd (show false=true from g) YH
 |str a=>
  cases RV.str_.1 l;obtain⟨t',rfl⟩:=r;cases e with
  |non=>cases RV.non_.1 c;cases j;rw[aP]<;>first | exact⟨SeqAt.RcAt.str_none a t',SeqAt.RcNeAt.str_none a t'⟩ | (intros;contradiction)
  |bl b=>cases RV.bl_.1 c;cases j;rw[aP]<;>first | exact⟨SeqAt.RcAt.str_bool a t' b,SeqAt.RcNeAt.str_bool a t' b⟩ | (intros;contradiction)
  |int b=>cases RV.int_.1 c;obtain⟨t,rfl⟩:=j;rw[aP]<;>first | exact⟨SeqAt.RcAt.str_int a t' b t,SeqAt.RcNeAt.str_int a t' b t⟩ | (intros;contradiction)
  |str b=>cases RV.str_.1 c;obtain⟨t,rfl⟩:=j;rw[aP];exact⟨SeqAt.RcAt.str_str a t' b t,SeqAt.RcNeAt.str_str a t' b t⟩
  |_=>exact absurd (show false=true from g) YH
 |_=>exact absurd (show false=true from f) YH
theorem tq{A:Around}{s:Shared}{a_:Zc}{ρ:L2.St}{a:Addr}{b_:Zl}{e:D}{u:V}{g:Value}(hu:A.units<cLine)(f:iw e=true)(tp:s.heap.IsTuple a b_\/s.heap.IsList a b_)(c:RV X.K H e u)(d:RelV u g):
  (SeqAt.RcAt A s (.ref a) g false/\SeqAt.RcNeAt A s (.ref a) g true)/\(SeqAt.RcAt A s g (.ref a) false/\SeqAt.RcNeAt A s g (.ref a) true):=by
 rcases tp with tp | tp
 ·cases e with
  |non=>cases RV.non_.1 c;cases d;exact⟨⟨SeqAt.RcAt.tuple_none tp hu,SeqAt.RcNeAt.tuple_none tp hu⟩,⟨SeqAt.RcAt.none_tuple tp hu,SeqAt.RcNeAt.none_tuple tp hu⟩⟩
  |bl b=>cases RV.bl_.1 c;cases d;exact⟨⟨SeqAt.RcAt.tuple_bool b tp hu,SeqAt.RcNeAt.tuple_bool b tp hu⟩,⟨SeqAt.RcAt.bool_tuple b tp hu,SeqAt.RcNeAt.bool_tuple b tp hu⟩⟩
  |int b=>cases RV.int_.1 c;obtain⟨t,rfl⟩:=d;exact⟨⟨SeqAt.RcAt.tuple_int b t tp hu,SeqAt.RcNeAt.tuple_int b t tp hu⟩,⟨SeqAt.RcAt.int_tuple b t tp hu,SeqAt.RcNeAt.int_tuple b t tp hu⟩⟩
  |str b=>cases RV.str_.1 c;obtain⟨t,rfl⟩:=d;exact⟨⟨SeqAt.RcAt.tuple_str b t tp hu,SeqAt.RcNeAt.tuple_str b t tp hu⟩,⟨SeqAt.RcAt.str_tuple b t tp hu,SeqAt.RcNeAt.str_tuple b t tp hu⟩⟩
  |_=>exact absurd (show false=true from f) YH
 ·cases e with
  |non=>cases RV.non_.1 c;cases d;exact⟨⟨SeqAt.RcAt.list_none tp hu,SeqAt.RcNeAt.list_none tp hu⟩,⟨SeqAt.RcAt.none_list tp hu,SeqAt.RcNeAt.none_list tp hu⟩⟩
  |bl b=>cases RV.bl_.1 c;cases d;exact⟨⟨SeqAt.RcAt.list_bool b tp hu,SeqAt.RcNeAt.list_bool b tp hu⟩,⟨SeqAt.RcAt.bool_list b tp hu,SeqAt.RcNeAt.bool_list b tp hu⟩⟩
  |int b=>cases RV.int_.1 c;obtain⟨t,rfl⟩:=d;exact⟨⟨SeqAt.RcAt.list_int b t tp hu,SeqAt.RcNeAt.list_int b t tp hu⟩,⟨SeqAt.RcAt.int_list b t tp hu,SeqAt.RcNeAt.int_list b t tp hu⟩⟩
  |str b=>cases RV.str_.1 c;obtain⟨t,rfl⟩:=d;exact⟨⟨SeqAt.RcAt.list_str b t tp hu,SeqAt.RcNeAt.list_str b t tp hu⟩,⟨SeqAt.RcAt.str_list b t tp hu,SeqAt.RcNeAt.str_list b t tp hu⟩⟩
  |_=>exact absurd (show false=true from f) YH
def yk(A:Around)(s:Shared)(v u:Value)(b:Bool):Prop:=SeqAt.RcAt A s v u b/\SeqAt.RcNeAt A s v u (!b)
theorem EW{A:Around}{s:Shared}{a_:Zc}{ρ:L2.St}{ds es:List D}{vs us:List V}{b_ g_:Zd}{a b:Addr}(I:ac X a_ ρ H s)(hd:bh ds<=30)(hu:A.units+40<cLine)(p:aT ds=true)(q:aT es=true)
  (c:ag X.K H ds vs) (f:ag X.K H es us) (g:am vs b_) (l:am us g_) (tp:s.heap.IsTuple a b_.toArray) (m:s.heap.IsTuple b g_.toArray):yk A s (.ref a) (.ref b) (bF ds es):=by
 have r:b_.toArray.size=ds.length:=by rw[c.len,g.length];simp
 have t:g_.toArray.size=es.length:=by rw[f.len,l.length];simp
 have n:∀j (h1:j<b_.toArray.size) (o:j<g_.toArray.size),SeqAt.EqAt A.in1 s b_.toArray[j] g_.toArray[j] (aP ((ds[j]?).getD .non) ((es[j]?).getD .non)):=λj h1 o=>by
  obtain⟨d,v,e1,y,q1⟩:=fF c g h1;obtain⟨e,u,e2,z,B⟩:=fF f l o;rw[e1,e2]
  have:=gH e1
  exact vN 30 d e I 'c' (by rw[units_in1];omega) (cr p e1) (cr q e2) y z q1 B
 have e:bF ds es=((List.range (min b_.toArray.size g_.toArray.size)).all (λj=>aP ((ds[j]?).getD .non) ((es[j]?).getD .non))&&b_.toArray.size==g_.toArray.size):=by rw[i4,r,t]
 rw[e];exact⟨SeqAt.RcAt.tuples tp m 'c' n,SeqAt.RcNeAt.tuples tp m 'c' n⟩
theorem Cm{A:Around}{s:Shared}{a_:Zc}{ρ:L2.St}{ds es:List D}{vs us:List V}{b_ g_:Zd}{a b:Addr}(I:ac X a_ ρ H s)(hd:bh ds<=30)(hu:A.units+40<cLine)(r:aT ds=true)(t:aT es=true)
  (f:ag X.K H ds vs) (g:ag X.K H es us) (l:am vs b_) (m:am us g_) (tp:s.heap.IsList a b_.toArray) (c:s.heap.IsList b g_.toArray):yk A s (.ref a) (.ref b) (bF ds es):=by
 have n:b_.toArray.size=ds.length:=by rw[f.len,l.length];simp
 have y:g_.toArray.size=es.length:=by rw[g.len,m.length];simp
 have o:∀j (h1:j<b_.toArray.size) (p:j<g_.toArray.size),SeqAt.EqAt A.in1 s b_.toArray[j] g_.toArray[j] (aP ((ds[j]?).getD .non) ((es[j]?).getD .non)):=λj h1 p=>by
  obtain⟨d,v,e1,z,q1⟩:=fF f l h1;obtain⟨e,u,e2,B,C⟩:=fF g m p;rw[e1,e2]
  have:=gH e1
  exact vN 30 d e I 'c' (by rw[units_in1];omega) (cr r e1) (cr t e2) z B q1 C
 by_cases hl:ds.length=es.length
 ·have e:bF ds es=(List.range b_.toArray.size).all (λj=>aP ((ds[j]?).getD .non) ((es[j]?).getD .non)):=by rw[i4,n,hl,Nat.min_self];simp
  rw[e];exact⟨SeqAt.RcAt.lists tp c 'c' 'c' o,SeqAt.RcNeAt.lists tp c 'c' 'c' o⟩
 ·have e:bF ds es=false:=by rw[i4];simp[hl]
  rw[e];have q:(b_.toArray.size != g_.toArray.size)=true:=by rw[n,y];simpa using hl
  exact⟨SeqAt.RcAt.lists_lengths tp c q 'c',SeqAt.RcNeAt.lists_lengths tp c q 'c'⟩
theorem GD{s:Shared}{a_:Zc}{ρ:L2.St}{M:MH}{x y:D}{v u:V}{E F:Value}{Q:Bool->Prop}(I:ac X a_ ρ H s)(hu:X.A.units+40<cLine)(n:RV X.K H x v)(c:RV X.K H y u)(m:RM X.K M H)(r:RelV v E)(d:RelV u F)(h:o6 x y M Q):
  ∃b,yk X.A s E F b/\Q b:=by
 have L:aW x=true->aW y=true->cD x<=30->Q (aP x y)->∃b,yk X.A s E F b/\Q b:=λG l hd q=>by
  rcases dJ G with f | ⟨ds,rfl⟩
  ·rcases dJ l with g | ⟨es,rfl⟩
   ·exact⟨_,AM f g n c r d,q⟩
   ·obtain⟨b,us,rfl,sq,o⟩:=RV.tup_.1 c
    obtain⟨b_,p,tp,_⟩:=I.tuple sq;cases d;rw[(nw f).2] at q;exact⟨false,(tq (X:=X) (a_:=a_) (ρ:=ρ) 'c' f (.inl (show s.heap.IsTuple b b_.toArray from tp)) n r).2,q⟩
  ·obtain⟨a,vs,rfl,sq,o⟩:=RV.tup_.1 n
   obtain⟨b_,p,tp,_⟩:=I.tuple sq;cases r;rcases dJ l with g | ⟨es,rfl⟩
   ·rw[(nw g).1] at q
    exact⟨false,(tq (X:=X) (a_:=a_) (ρ:=ρ) 'c' g (.inl (show s.heap.IsTuple a b_.toArray from tp)) c d).1,q⟩
   ·obtain⟨b,us,rfl,t,z⟩:=RV.tup_.1 c
    obtain⟨g_,B,j,_⟩:=I.tuple t;cases d;rw[aW] at G l;rw[cD] at hd;rw[aP] at q;exact⟨_,EW I 'c' hu G l o z p B (show s.heap.IsTuple a b_.toArray from tp) (show s.heap.IsTuple b g_.toArray from j),q⟩
 have J:∀{a:Addr}{w:V}{C:Value}{y:D}{xs:List D},aU (M a)=some xs->RV X.K H y w->RelV w C->aW y=true->(yk X.A s (.ref a) C false/\yk X.A s C (.ref a) false):=λ{a w C y xs} hl c d l=>by
  obtain⟨vs,sq,o⟩:=m.list hl;obtain⟨b_,p,tp,_⟩:=I.list sq;rcases dJ l with g | ⟨es,rfl⟩
  ·have:=tq (X:=X) (a_:=a_) (ρ:=ρ) (A:=X.A) 'c' g (.inr tp.isList) c d
   exact⟨this.1,this.2⟩
  ·obtain⟨b,us,rfl,t,z⟩:=RV.tup_.1 c
   obtain⟨g_,B,j,_⟩:=I.tuple t;cases d;have j:s.heap.IsTuple b g_.toArray:=j;exact⟨⟨SeqAt.RcAt.list_tuple tp.isList j 'c',SeqAt.RcNeAt.list_tuple tp.isList j 'c'⟩,⟨SeqAt.RcAt.tuple_list j tp.isList 'c',SeqAt.RcNeAt.tuple_list j tp.isList 'c'⟩⟩
 cases x with
 |ref a=>
  cases RV.ref_.1 n;cases r;cases y with
  |ref b=>
   cases RV.ref_.1 c;cases d;have h:match aU (M a),aU (M b) with
    |some xs,some ys=>(aT xs=true/\aT ys=true/\bh xs<=30)/\Q (bF xs ys)
    |_,_=>False:=h
   split at h
   ·rename_i xs ys e1 e2
    obtain⟨vs,sq,o⟩:=m.list e1;obtain⟨us,t,z⟩:=m.list e2;obtain⟨b_,p,tp,_⟩:=I.list sq;obtain⟨g_,B,j,_⟩:=I.list t;exact⟨_,Cm I h.1.2.2 hu h.1.1 h.1.2.1 o z p B tp.isList j.isList,h.2⟩
   ·exact Yh h
  |_=>
   simp only[o6] at h;split at h
   ·rename_i xs e1
    exact⟨false,(J e1 c d h.1).1,h.2⟩
   ·exact Yh h
 |_=>
  cases y with
  |ref b=>
   cases RV.ref_.1 c;cases d;simp only[o6] at h;split at h
   ·rename_i ys e1
    exact⟨false,(J e1 n r h.1).2,h.2⟩
   ·exact Yh h
  |_=>exact L h.1.1 h.1.2.1 h.1.2.2 h.2
def pU:D->D->MH->DK->Prop:=λx y M Q=>o6 x y M λb=>Q (.bl b) M
def pV:D->D->MH->DK->Prop:=λx y M Q=>o6 x y M λb=>Q (.bl (!b)) M
theorem GE(hu:X.A.units+40<cLine):gG X (compareOp .Eq) pU:=by
 intro x y v u H M Q c d a h a_ s ρ g j I r f;obtain⟨b,h1,q⟩:=GD I hu c d a r f h;exact h1.1 _ _ _ _ ⟨.bl b,H,I,rfl,ay (RV.bl_.2 rfl) a q⟩
theorem GF(hu:X.A.units+40<cLine):gG X (compareOp .NotEq) pV:=by
 intro x y v u H M Q c d a h a_ s ρ g j I r f;obtain⟨b,h1,q⟩:=GD I hu c d a r f h;exact h1.2 _ _ _ _ ⟨.bl (!b),H,I,rfl,ay (RV.bl_.2 rfl) a q⟩
end
section
variable {X:Cx}{H:Hp}{e a b c:Expr}{es:Zg}{pos:Pos}
noncomputable def rD(K:Za)(H:Hp)(ds:List D)(x:D)(y:Value):Bool:=@decide (∃d v,d∈ds/\RV K H d v/\RelV v y/\aP d x=true) (Classical.propDecidable _)
theorem uf{a_:Zc}{ρ:L2.St}{s:Shared}{ds:List D}{x d:D}{v:V}{y:Value}(I:ac X a_ ρ H s)(g:aT ds=true)(hd:d∈ds)(r:RV X.K H d v)(f:RelV v y):rD X.K H ds x y=aP d x:=by
 have pg:∀d∈ds,aW d=true:=λd h=>let⟨i,hi⟩:=XN h;cr g hi
 unfold rD;cases q:aP d x with
 |true=>exact @decide_eq_true _ (Classical.propDecidable _) ⟨d,v,hd,r,f,q⟩
 |false=>
  refine @decide_eq_false _ (Classical.propDecidable _) ?_;rintro⟨d',v',LS,r1,r2,q'⟩
  have:=L2.RelV.inj r2 f
  subst this
  have:=vM I d' d (pg d' LS) (pg d hd) r1 r
  subst this;rw[q] at q';cases q'
theorem ug{K:Za}{x:D}{f:Value->Bool}:∀{ds:List D}{vs:List V}{b_:Zd},ag K H ds vs->am vs b_->(∀d v u,d∈ds->RV K H d v->RelV v u->f u=aP d x)->b_.any f=ds.any λd=>aP d x
 |[],vs,b_,r,g,_=>by
  rw[ag] at r;subst r;cases g;rfl
 |d::ds,vs,b_,r,g,h=>by
  rw[ag] at r;obtain⟨v,p,rfl,j,l⟩:=r;cases g with
  |cons q1 m=>rw[YZ,YZ,h d v _ (ZW) j q1,ug l m λd' n o hd=>h d' n o (ZX _ hd)]
theorem uh{K:Za}:∀{ds:List D}{vs:List V}{b_:Zd}{y:Value},ag K H ds vs->am vs b_->y∈b_->∃d v,d∈ds/\RV K H d v/\RelV v y
 |[],vs,b_,y,r,f,hy=>by rw[ag] at r;subst r;cases f;cases hy
 |d::ds,vs,b_,y,r,f,hy=>by
  rw[ag] at r;obtain⟨v,o,rfl,g,j⟩:=r;cases f with
  |cons q1 l=>
   rcases ZY.mp hy with rfl | hy
   ·exact⟨d,v,ZW,g,q1⟩
   ·obtain⟨d',m,h1,n⟩:=uh j l hy
    exact⟨d',m,ZX _ h1,n⟩
def gV:D->Option Key
 |.int i=>some (.inl i)
 |.str x=>some (.inr x)
 |_=>none
theorem tt{K:Za}{d:D}{k:Key}{v:V}(h:gV d=some k)(r:RV K H d v):v=kV k:=by
 cases d with
 |int i=>cases h;exact RV.int_.1 r
 |str i=>cases h;exact RV.str_.1 r
 |_=>cases h
def dz(d:Zw)(k:Key):Option D:=(d.find? λf=>decide (f.1=k)).map (·.2)
theorem pX{k:Key}:∀{d:Zw}{f:List (Key×V)},f.map (·.1)=d.map (·.1)->(dS f k).isSome=(dz d k).isSome
 |[],[],_=>rfl
 |[],_::_,e=>by cases e
 |_::_,[],e=>by cases e
 |(j,l)::d,(g,m)::f,e=>by
  simp only[YK,List.cons.injEq] at e;obtain⟨e1,e2⟩:=e;subst e1;unfold dS dz;rw[YY,YY];by_cases q:g=k
  ·simp only[YT q,Option.map_some,Option.isSome_some]
  ·simp only[ZO q]
   exact pX e2
def Dw:Option MO->Option (List (Key×D))
 |some (.dic d)=>some d
 |some (.rod d)=>some d
 |_=>none
theorem RM.dict{K:Za}{H:Hp}{M:MH}{a:Addr}{f:Zw}(m:RM K M H)(h:Dw (M a)=some f):∃d:List (Key×V),Rd H a (.dK d)/\d.map (·.1)=f.map (·.1)/\ag K H (f.map (·.2)) (d.map (·.2)):=by
 cases e:M a with
 |none=>rw[e] at h;cases h
 |some o=>
  rw[e] at h;cases o with
  |dic xs=>cases h;obtain⟨d,q,r⟩:=m a _ e;exact⟨d,.inl q,r⟩
  |rod xs=>cases h;obtain⟨u,d,q,r⟩:=m a _ e;exact⟨d,.inr ⟨u,q⟩,r⟩
  |_=>cases h
def cp(x:D)(ds:List D):Bool:=ds.any λd=>aP d x
def rE{d:Type}(o:Option d)(Q:d->Prop):Prop:=match o with
 |some x=>Q x
 |none=>False
theorem vO{d:Type}{o:Option d}{Q:d->Prop}(h:rE o Q):∃x,o=some x/\Q x:=by
 cases o with
 |none=>exact Yh h
 |some x=>exact⟨x,rfl,h⟩
def ny(x y:D)(M:MH)(Q:Bool->Prop):Prop:=match y with
 |.tup ds=>(aW x=true/\aT ds=true/\bh ds<=30)/\Q (cp x ds)
 |.ref a=>match aU (M a) with
  |some ds=>(aW x=true/\aT ds=true/\bh ds<=30)/\Q (cp x ds)
  |none=>rE (Dw (M a)) λd=>rE (gV x) λk=>Q (dz d k).isSome
 |.str j=>match x with
  |.str i=>Q (!(Builtin.Str.occurrences j i 0 j.length 1).isEmpty)
  |_=>False
 |_=>False
theorem GG{s:Shared}{a_:Zc}{ρ:L2.St}{M:MH}{x y:D}{v u:V}{C G:Value}{Q:Bool->Prop}(I:ac X a_ ρ H s)(hu:X.A.units+40<cLine)(J:RV X.K H x v)(L:RV X.K H y u)(m:RM X.K M H)(r:RelV v C)(N:RelV u G)(h:ny x y M Q):
  ∃k,Q k/\(∀(f:Zb),(∀l,ac X a_ ρ H l->f (.bool k) l)->wpAny 'b' X.A (compareOp .In C G) f X.xe s)/\(∀(f:Zb),(∀l,ac X a_ ρ H l->f (.bool (!k)) l)->wpAny 'b' X.A (compareOp .NotIn C G) f X.xe s):=by
 have p:∀{ds:List D}{vs:List V}{b_:Zd},aW x=true->aT ds=true->bh ds<=30->ag X.K H ds vs->am vs b_ ->
   (∀y,y∈b_.toArray->SeqAt.EqAt X.A.in1 s y C (rD X.K H ds x y))/\b_.toArray.any (rD X.K H ds x)=cp x ds:=λ{ds vs b_} W O hd n o=>by
  refine⟨λy hy=>?_,?_⟩
  ·obtain⟨d,Y,h1,E,F⟩:=uh n o (by simpa using hy)
   rw[uf I O h1 E F];obtain⟨i,hi⟩:=XN h1
   have:=gH hi
   exact vN 30 d x I 'c' (by rw[units_in1];omega) (cr O hi) W E J F r
  ·rw[List.any_toArray]
   exact ug n o λd Y u h1 E F=>uf I O h1 E F
 cases y with
 |tup ds=>
  obtain⟨b,us,rfl,sq,n⟩:=RV.tup_.1 L;obtain⟨b_,o,tp,_⟩:=I.tuple sq;cases N;obtain⟨z,B⟩:=p h.1.1 h.1.2.1 h.1.2.2 n o;have tp:s.heap.IsTuple b b_.toArray:=tp;exact⟨_,h.2,λf q=>SeqAt.in_tupleAt _ tp z (by rw[B];exact q s I),λf q=>SeqAt.notIn_tupleAt _ tp z (by rw[B];exact q s I)⟩
 |ref b=>
  cases RV.ref_.1 L;cases N;have h:match aU (M b) with
   |some ds=>(aW x=true/\aT ds=true/\bh ds<=30)/\Q (cp x ds)
   |none=>rE (Dw (M b)) λS=>rE (gV x) λk=>Q (dz S k).isSome:=h
  split at h
  ·rename_i ds e1
   obtain⟨vs,sq,n⟩:=m.list e1;obtain⟨b_,o,tp,_⟩:=I.list sq;obtain⟨z,B⟩:=p h.1.1 h.1.2.1 h.1.2.2 n o;exact⟨_,h.2,λf q=>SeqAt.in_listAt _ tp.isList z (by rw[B];exact q s I),λf q=>SeqAt.notIn_listAt _ tp.isList z (by rw[B];exact q s I)⟩
  ·obtain⟨S,e1,h⟩:=vO h
   obtain⟨k,e2,h⟩:=vO h;obtain⟨T,Z,U,_⟩:=m.dict e1
   have:=tt e2 J
   subst this;have g:j8 H b (kV k) (dS T k):=.inl ⟨T,k,Z,rfl,rfl⟩;refine⟨_,h,λf q=>Jc 'c' I g r λl R=>?_,λf q=>Ed 'c' I g r λl R=>?_⟩
   ·rw[pX U];exact q l R
   ·rw[pX U];exact q l R
 |str j=>
  cases RV.str_.1 L;cases x with
  |str i=>
   cases RV.str_.1 J;obtain⟨t,rfl⟩:=r;obtain⟨t',rfl⟩:=N;exact⟨_,h,λf q=>P.in_str (q s I),λf q=>notIn_str (q s I)⟩
  |_=>exact Yh h
 |_=>exact Yh h
def pY:ni:=λx y M Q=>ny x y M λb=>Q (.bl b) M
def fG:ni:=λx y M Q=>ny x y M λb=>Q (.bl (!b)) M
theorem GH(hu:X.A.units+40<cLine):gG X (compareOp .In) pY:=by
 intro x y v u H M Q f g d h a_ s ρ m n I r j;obtain⟨b,q,h1,_⟩:=GG I hu f g d r j h;exact h1 _ λo l=>⟨.bl b,H,l,rfl,ay (RV.bl_.2 rfl) d q⟩
theorem AN(hu:X.A.units+40<cLine):gG X (compareOp .NotIn) fG:=by
 intro x y v u H M Q f g d h a_ s ρ m n I r j;obtain⟨b,q,_,h1⟩:=GG I hu f g d r j h;exact h1 _ λo l=>⟨.bl (!b),H,l,rfl,ay (RV.bl_.2 rfl) d q⟩
def jB:D->Bool
 |.non=>true
 |_=>false
def tu:D->Bool
 |.bl _=>true
 |_=>false
def o7:Bool->D->Bool
 |true,.bl a=>a
 |false,.bl a=>!a
 |_,_=>false
def vP(x y:D):Bool:=match y with
 |.non=>true
 |.bl _=>tu x
 |_=>false
def ma(x y:D):Bool:=match y with
 |.non=>jB x
 |.bl b=>o7 b x
 |_=>false
def pZ:ni:=λx y M Q=>vP x y=true/\Q (.bl (ma x y)) M
def fH:ni:=λx y M Q=>vP x y=true/\Q (.bl (!ma x y)) M
theorem p0{K:Za}{x:D}{v:V}(r:RV K H x v):decide (v=.non)=jB x:=by
 cases x with
 |non=>cases RV.non_.1 r;rfl
 |tup ds=>obtain⟨a,xs,rfl,_⟩:=RV.tup_.1 r;rfl
 |bl _=>cases RV.bl_.1 r;rfl
 |int _=>cases RV.int_.1 r;rfl
 |str _=>cases RV.str_.1 r;rfl
 |ref _=>cases RV.ref_.1 r;rfl
 |ty _=>cases RV.ty_.1 r;rfl
theorem GI(a b:Bool):(a==b)=o7 b (.bl a):=by cases a<;>cases b<;>rfl
theorem GJ:gG X (compareOp .Is) pZ:=by
 intro x y v u H M Q d f g h;obtain⟨h1,j⟩:=h;cases y with
 |non=>
  cases RV.non_.1 f;exact dW Gb ⟨rfl,by rw[p0 d];exact ay (RV.bl_.2 rfl) g j⟩
 |bl b=>
  cases x with
  |bl a=>
   cases RV.bl_.1 d;cases RV.bl_.1 f;intro a_ s ρ m n I r l;cases r;cases l;refine is_bool ?_;rw[GI];exact⟨.bl (o7 b (.bl a)),H,I,rfl,ay (RV.bl_.2 rfl) g j⟩
  |_=>cases h1
 |_=>cases h1
theorem AO:gG X (compareOp .IsNot) fH:=by
 intro x y v u H M Q d f g h;obtain⟨h1,j⟩:=h;cases y with
 |non=>
  cases RV.non_.1 f;exact dW DU ⟨rfl,by rw[p0 d];exact ay (RV.bl_.2 rfl) g j⟩
 |bl b=>
  cases x with
  |bl a=>
   cases RV.bl_.1 d;cases RV.bl_.1 f;intro a_ s ρ m n I r l;cases r;cases l;refine isnot_bool ?_;rw[show(a != b) = !o7 b (.bl a) by cases a<;>cases b<;>rfl];exact⟨.bl (!o7 b (.bl a)),H,I,rfl,ay (RV.bl_.2 rfl) g j⟩
  |_=>cases h1
 |_=>cases h1
def ul:D->D->MH->DK->Prop
 |.int i,.int j,M,Q=>Q (.bl (decide (i<j))) M
 |.tup [.int a,.int b],.tup [.int c,.int d],M,Q=>Q (.bl (decide (a<c\/a=c/\b<d))) M
 |_,_,_,_=>False
theorem Jj(a b c d:Int):HT.lexLt [a,b] [c,d]=decide (a<c\/a=c/\b<d):=by
 rw[HT.lH,HT.lH,HT.mI];split
 ·rename_i e
  subst e;split
  ·rename_i e
   subst e;simp
  ·simp
 ·rename_i e
  simp[e]
theorem Dx{K:Za}{H:Hp}{a b:Int}{vs:List V}{b_:Zd}(r:ag K H [.int a,.int b] vs)(v:am vs b_):IntsAre b_.toArray.toList [a,b]:=by
 rw[ag] at r;obtain⟨x,l,rfl,g,d⟩:=r;rw[ag] at d;obtain⟨y,m,rfl,j,f⟩:=d;rw[ag] at f;subst f;cases RV.int_.1 g;cases RV.int_.1 j;exact intsAre_of (ns:=[a,b]) v
theorem GK(hu:X.A.units+40<cLine):gG X (compareOp .Lt) ul:=by
 intro x y v u H M Q d f l h;unfold ul at h;split at h
 ·exact rC (g:=λi j=>decide (i<j)) HG _ _ v u H _ _ d f l h
 ·obtain⟨p,us,rfl,sq,m⟩:=RV.tup_.1 d
  obtain⟨q,ws,rfl,n,o⟩:=RV.tup_.1 f;intro a_ s ρ E F I r t;obtain⟨b_,z,tp,_⟩:=I.tuple sq;obtain⟨g_,B,C,_⟩:=I.tuple n;cases r;cases t;refine HT.zd tp C (Dx m z) (Dx o B) 'c' ?_;rw[Jj];exact⟨.bl _,H,I,rfl,ay (RV.bl_.2 rfl) l h⟩
 ·exact Yh h
def nz:CmpOp->ni
 |.Eq=>pU
 |.NotEq=>pV
 |.Lt=>ul
 |.LtE=>rB λi j=>decide (i<=j)
 |.Gt=>rB λi j=>decide (j<i)
 |.GtE=>rB λi j=>decide (j<=i)
 |.Is=>pZ
 |.IsNot=>fH
 |.In=>pY
 |.NotIn=>fG
theorem yl(hu:X.A.units+40<cLine)(op:CmpOp):gG X (compareOp op) (nz op):=by
 cases op with
 |Eq=>exact GE hu
 |NotEq=>exact GF hu
 |Lt=>exact GK hu
 |LtE=>exact rC HH
 |Gt=>exact rC HI
 |GtE=>exact rC HJ
 |Is=>exact GJ
 |IsNot=>exact AO
 |In=>exact GH hu
 |NotIn=>exact AN hu
def xW(X:Cx):R2:=λx y H Q=>∀f d a_ s ρ v u,ac X a_ ρ H s->RelV x v->RelV y u->subscripted d false v u=operate [v,u] (getItem v u)->wpAny 'b' X.A (subscriptTail f d v u) (EP X a_ ρ Q) X.xe s
theorem Jk:vn X (xW X):=λd f a_ s σ _ _ _ v u _ I g j h l=>h d f a_ s σ v u I g j l
theorem jC{r:R2}{x y:V}{Q:VK}(h:vn X r)(q:r x y H Q):xW X x y H Q:=λd f a_ s ρ v u I g j l=>h d f a_ s ρ H x y v u Q I g j q l
theorem EX{x y:V}{Q j:VK}(h:xW X x y H Q)(g:∀v H',Q v H'->j v H'):xW X x y H j:=λd f a_ s ρ v u I l m n=>aE (h d f a_ s ρ v u I l m n) λ_ _ ⟨v,H',o,r,q⟩=>⟨v,H',o,r,g v H' q⟩
theorem oq(hu:X.A.units+1<cLine):vn X (λx y H Q=>∃a v,x=.ref a/\j8 H a y (some v)/\Q v H):=by
 intro d f a_ s σ H x y v u Q I j l h m;obtain⟨a,z,rfl,g,q⟩:=h;cases j;exact tail_any (xH I g) PySem.F.slot_dict_getitem.lookup (Am hu I g l λp r n o=>⟨z,H,n,o,q⟩) m
theorem kI{K:Za}:∀{f:Zw}{g:List (Key×V)}{k:Key}{d:D},g.map (·.1)=f.map (·.1)->ag K H (f.map (·.2)) (g.map (·.2))->dz f k=some d->∃v,dS g k=some v/\RV K H d v
 |[],_,_,_,_,_,h=>by cases h
 |(k',d')::f,[],_,_,e,_,_=>by cases e
 |(k',d')::f,(j,l)::g,k,d,e,r,h=>by
  simp only[YK,List.cons.injEq] at e;obtain⟨e1,e2⟩:=e;subst e1;simp only[YK] at r;rw[ag] at r;obtain⟨v,vs,z,m,n⟩:=r;cases z;unfold dz at h;unfold dS;rw[YY] at h ⊢;by_cases q:j=k
  ·simp only[YT q,Option.map_some] at h ⊢
   cases h;exact⟨l,rfl,m⟩
  ·simp only[ZO q] at h ⊢
   exact kI e2 n h
def aH{d:Type}(o:Option d)(Q:d->Prop):Prop:=match o with
 |some x=>Q x
 |none=>False
theorem bd{d:Type}{o:Option d}{Q:d->Prop}(h:aH o Q):∃x,o=some x/\Q x:=by
 cases o with
 |none=>exact Yh h
 |some x=>exact⟨x,rfl,h⟩
def nA:ni:=λx y M Q=>match x,y with
 |.tup ds,.int i=>aH (bv ds i) λd=>Q d M
 |.str z,.int i=>z.length<=sizeLine/\aH (bv z.cps.toList i) λc=>Q (.str ⟨#[c]⟩) M
 |.ref a,.int i=>match M a with
  |some (.lst ds)=>aH (bv ds i) λd=>Q d M
  |some (.rol ds)=>aH (bv ds i) λd=>Q d M
  |some (.dic f)=>aH (dz f (.inl i)) λd=>Q d M
  |some (.rod f)=>aH (dz f (.inl i)) λd=>Q d M
  |_=>False
 |.ref a,.str k=>match M a with
  |some (.dic f)=>aH (dz f (.inr k)) λd=>Q d M
  |some (.rod f)=>aH (dz f (.inr k)) λd=>Q d M
  |_=>False
 |_,_=>False
theorem vQ{K:Za}{ds:List D}{vs:List V}{i:Int}{d:D}(f:ag K H ds vs)(h:bv ds i=some d):∃v,bv vs i=some v/\RV K H d v:=by
 unfold bv at h ⊢;rw[←f.len];cases q:iQ ds.length i with
 |none=>rw[q] at h;cases h
 |some j=>
  rw[q] at h;obtain⟨v,hv,r⟩:=dU f.p (show ds[j]?=some d from h);exact⟨v,hv,r⟩
theorem Jz(hu:X.A.units+40<cLine){x y:D}{v u:V}{M:MH}{Q:DK}(B:RV X.K H x v)(t:RV X.K H y u)(f:RM X.K M H)(h:nA x y M Q):xW X v u H (lift X.K H Q):=by
 cases x with
 |tup ds=>cases y with
  |int i=>
   obtain⟨d,e1,q⟩:=bd h;obtain⟨a,vs,rfl,sq,g⟩:=RV.tup_.1 B;cases RV.int_.1 t;obtain⟨j,e2,r⟩:=vQ g e1;exact jC Gk ⟨a,vs,i,j,rfl,rfl,sq,e2,ay r f q⟩
  |_=>exact Yh h
 |str z=>cases y with
  |int i=>
   obtain⟨h1,h⟩:=h;obtain⟨c,e1,q⟩:=bd h;cases RV.str_.1 B;cases RV.int_.1 t;exact jC Gm ⟨z,i,c,rfl,rfl,h1,e1,ay (RV.str_.2 rfl) f q⟩
  |_=>exact Yh h
 |ref a=>
  cases RV.ref_.1 B;cases y with
  |int i=>
   cases RV.int_.1 t;have h:match M a with
    |some (.lst ds)=>aH (bv ds i) λd=>Q d M
    |some (.rol ds)=>aH (bv ds i) λd=>Q d M
    |some (.dic l)=>aH (dz l (.inl i)) λd=>Q d M
    |some (.rod l)=>aH (dz l (.inl i)) λd=>Q d M
    |_=>False:=h
   split at h
   ·rename_i ds m
    obtain⟨d,e1,q⟩:=bd h;obtain⟨vs,e2,g⟩:=f a _ m;obtain⟨j,n,r⟩:=vQ g e1;exact jC xX ⟨a,vs,i,j,rfl,rfl,bw.of e2,n,ay r f q⟩
   ·rename_i ds m
    obtain⟨d,e1,q⟩:=bd h;obtain⟨vs,e2,g⟩:=f a _ m;obtain⟨j,n,r⟩:=vQ g e1;exact jC xX ⟨a,vs,i,j,rfl,rfl,.inl e2,n,ay r f q⟩
   ·rename_i l m
    obtain⟨d,e1,q⟩:=bd h;obtain⟨p,e2,n,g⟩:=f a _ m;obtain⟨j,o,r⟩:=kI n g e1;exact jC (oq 'c') ⟨a,j,rfl,by rw[←o];exact j8.k (k:=.inl i) e2,ay r f q⟩
   ·rename_i l m
    obtain⟨d,e1,q⟩:=bd h;obtain⟨C,p,e2,n,g⟩:=f a _ m;obtain⟨j,o,r⟩:=kI n g e1;exact jC (oq 'c') ⟨a,j,rfl,by rw[←o];exact .inl ⟨p,.inl i,.inr ⟨C,e2⟩,rfl,rfl⟩,ay r f q⟩
   ·exact Yh h
  |str k=>
   cases RV.str_.1 t;have h:match M a with
    |some (.dic l)=>aH (dz l (.inr k)) λd=>Q d M
    |some (.rod l)=>aH (dz l (.inr k)) λd=>Q d M
    |_=>False:=h
   split at h
   ·rename_i l m
    obtain⟨d,e1,q⟩:=bd h;obtain⟨p,e2,n,g⟩:=f a _ m;obtain⟨j,o,r⟩:=kI n g e1;exact jC (oq 'c') ⟨a,j,rfl,by rw[←o];exact j8.k (k:=.inr k) e2,ay r f q⟩
   ·rename_i l m
    obtain⟨d,e1,q⟩:=bd h;obtain⟨C,p,e2,n,g⟩:=f a _ m;obtain⟨j,o,r⟩:=kI n g e1;exact jC (oq 'c') ⟨a,j,rfl,by rw[←o];exact .inl ⟨p,.inr k,.inr ⟨C,e2⟩,rfl,rfl⟩,ay r f q⟩
   ·exact Yh h
  |_=>exact Yh h
 |_=>exact Yh h
def i6:Expr->Bool
 |.Slice _ _ _ _=>false
 |_=>true
theorem EY(h:i6 b=true):xV b:=by
 intro o i;cases b<;>first | rfl | (exact absurd (show false=true from h) YH)
theorem GL(hu:X.A.units+40<cLine){d f:WE}(ha:aL X a d)(hb:aL X b f)(g:i6 b=true):aL X (.Subscript a b pos) (io nA d f):=by
 intro σ M ρ H Q rs j h;refine bZ (HR Jk (bD a) (bD b) (EY g)) ?_;show tW X a ρ H _;refine aJ (two ha hb rs j h) λv l q1=>?_
 show tW X b ρ l _;refine aJ q1 λu r m=>?_
 obtain⟨k,x,y,M2,n,o,p,q⟩:=m;exact EX (Jz hu n o p q) λ_ _=>cy k
end
end DD
namespace HT
open PySem PySem.Spec PyProof.Rows L2
section
variable {prog:Zt}{w:World}{A:Around}{E:Zb}{s:Shared}
theorem oR{t sl:Addr}{a:Zl}{b c:Value}{lo hi:Zp}{Q:Zb}(ht:IsTup s.heap t a)(d:s.heap.IsSliceOf sl b c .none)(pl:IsPart b lo)(f:IsPart c hi)
  (hw:aS a.size 0 lo=0/\aS a.size a.size hi=a.size) (h:Q (.ref t) s):wpAny 'f' A (getItem (.ref t) (.ref sl)) Q E s:=by
 obtain⟨os,g,j,n⟩:=id d;have l:s.TypeIs (.ref sl) "slice":=⟨os,g,j⟩;unfold getItem;try with_reducible refine Yj ?_
 first | refine Yb (Yc ?_) | skip
 refine Yb (wpAny_sequenceKey ht.typeIs 'a' ?_);refine Yb (wpAny_callSpecial?_slot (name:=Str.ofString "__getitem__") ht.typeIs PyProof.Rows.slot_tuple_getitem
  (wpAny_call_entry PyProof.Rows.slot_tuple_getitem ht.typeIs entry_tuple_getitem ?_ (args_tuple_getitem _ _)))
 show wpAny _ _ (Builtin.Tuple.tupleItemsOf (.ref t) >>= _) _ _ s;refine Yb (tupleItemsOf_ ht ?_);refine Yb (wpAny_typeOf l ?_);rw[if_pos 'a'];refine Yb (iP d pl f ?_);show wpAny _ _ (if(((aS a.size 0 lo:Nat):Int)==0&&(1:Int)==1&&(aS a.size a.size hi-aS a.size 0 lo)==a.size)=true then _ else _) _ _ s;rw[if_pos (by rw[hw.1,hw.2];simp)];refine Yb (m:=Builtin.Tuple.tupleIsExact _) (Yb (wpAny_typeOf ht.typeIs (Yc ?_)));rw[if_pos 'a'];refine Yb (wpAny_rule ?_);exact Yc ⟨_,rfl,Yc h⟩
end
end HT
namespace DD
open PySem PySem.Spec PyProof.Rows L2
open PySem.Builtin PySem.Builtin.Str in
theorem EZ{prog:Zt}{w:World}{A:Around}{E:Zb}{s:Shared}{x:Str}{t:Tok}{Q:Zb}{y:Str}{u:Tok}(hy:(y.length==0)=false)
  (hq:∀l k,l.map (·.1)=Txt.split x y->Q (.ref s.heap.objs.size) { s with toks:=k,heap:=s.heap.push { cls:=.type "list",data:=.seq (strValues l).toArray } })
  (hsz:x.length<=sizeLine) (a:(partsBetween x (occurrences x y 0 x.length (x.length+1)) y.length).length<=sizeLine):
  wpAny 'f' A (call (.builtin "str.split") [.str x t,.str y u]) Q E s:=by
 cases h1:(decide (x.length<y.length)||decide (strKind x<strKind y))
 ·cases hf:(occurrences x y 0 x.length (x.length+1)).isEmpty
  ·refine call_meets F.slot_str_split (typeIs_str _ _ _) F.entry_str_split (F.args_str_split_2 _ _) (meets_str_split_sep x y t u h1 hy hf hsz a) ?_
   show wants Q E _ { s with toks:=_,heap:=s.heap.push { cls:=.type "list",data:=.seq (strsFrom s.toks (partsBetween x (occurrences x y 0 x.length (x.length+1)) y.length)).toArray } };rw[strsFrom_eq];exact hq (numbered s.toks _) _ ((numbered_texts _ _).trans ((if_neg (ne_true_of_eq_false h1)).trans (if_neg (ne_true_of_eq_false hf))).symm)
  ·exact call_meets F.slot_str_split (typeIs_str _ _ _) F.entry_str_split (F.args_str_split_2 _ _) (meets_str_split_not_found x y t u h1 hy hf)
    (hq [(x,t)] s.toks ((if_neg (ne_true_of_eq_false h1)).trans (if_pos hf)).symm)
 ·exact call_meets F.slot_str_split (typeIs_str _ _ _) F.entry_str_split (F.args_str_split_2 _ _) (meets_str_split_cannot_occur x y t u h1)
   (hq [(x,t)] s.toks (if_pos h1).symm)
section
variable {X:Cx}{H:Hp}{e a b c o:Expr}{es:Zg}{pos:Pos}
theorem GM:vm X (λx lo hi H Q=>∃z,x=.str z/\z.length<=sizeLine/\Q (.str (Txt.slice z lo hi)) H):=by
 intro a_ s σ H x v y A lo hi sl Q I p r pl m h;obtain⟨z,rfl,hz,q⟩:=h;obtain⟨t,rfl⟩:=p;obtain⟨d,h1,f,g⟩:=r;refine⟨"str",_,F.slot_str_getitem.lookup,typeIs_str _ _ _,?_⟩;cases pl with
 |none=>cases m with
  |none=>exact wpAny_getItem_str_slice (l:=none) (u:=none) (st:=none) ⟨d,h1,f,g⟩ rfl (post_val_or_str ⟨ZU (Txt.slice_le z _ _) hz,λt' k=>⟨.str _,H,I.tok _,⟨t',rfl⟩,q⟩⟩)
  |int j u=>exact wpAny_getItem_str_slice (l:=none) (u:=some (j,u)) (st:=none) ⟨d,h1,f,g⟩ rfl (post_val_or_str ⟨ZU (Txt.slice_le z _ _) hz,λt' k=>⟨.str _,H,I.tok _,⟨t',rfl⟩,q⟩⟩)
 |int i n=>cases m with
  |none=>exact wpAny_getItem_str_slice (l:=some (i,n)) (u:=none) (st:=none) ⟨d,h1,f,g⟩ rfl (post_val_or_str ⟨ZU (Txt.slice_le z _ _) hz,λt' k=>⟨.str _,H,I.tok _,⟨t',rfl⟩,q⟩⟩)
  |int j u=>exact wpAny_getItem_str_slice (l:=some (i,n)) (u:=some (j,u)) (st:=none) ⟨d,h1,f,g⟩ rfl (post_val_or_str ⟨ZU (Txt.slice_le z _ _) hz,λt' k=>⟨.str _,H,I.tok _,⟨t',rfl⟩,q⟩⟩)
def AQ(X:Cx):V->Option Int->Option Int->Hp->VK->Prop:=λx lo hi H Q=>∀a_ s ρ v d f sl,ac X a_ ρ H s->RelV x v->s.heap.IsSliceOf sl d f .none->IsPart d lo->IsPart f hi ->
 ∃T id,typeLookup (.type T) "__getitem__" = pure (some (.builtin id))/\s.TypeIs v T/\wpAny 'b' X.A (getItem v (.ref sl)) (EP X a_ ρ Q) X.xe s
theorem Jl:vm X (AQ X):=λa_ s σ _ _ v d f _ _ sl _ I g j pl l h=>h a_ s σ v d f sl I g j pl l
theorem rF{r:V->Option Int->Option Int->Hp->VK->Prop}{x:V}{lo hi:Zp}{Q:VK}(h:vm X r)(q:r x lo hi H Q):AQ X x lo hi H Q:=λa_ s ρ v d f sl I g j pl l=>h a_ s ρ H x v d f lo hi sl Q I g j pl l q
theorem Co{x:V}{lo hi:Zp}{Q d:VK}(h:AQ X x lo hi H Q)(g:∀v H',Q v H'->d v H'):AQ X x lo hi H d:=λa_ s ρ v f j sl I l m pl n=>
 let⟨T,id,h1,h2,h3⟩:=h a_ s ρ v f j sl I l m pl n;⟨T,id,h1,h2,aE h3 λ_ _ ⟨v,H',p,r,q⟩=>⟨v,H',p,r,g v H' q⟩⟩
def bW{d:Type}(xs:List d)(lo hi:Zp):List d:=(xs.drop (HT.aS xs.length 0 lo)).take (HT.aS xs.length xs.length hi-HT.aS xs.length 0 lo)
theorem AR{K:Za}{ds:List D}{vs:List V}(r:ag K H ds vs)(lo hi:Zp):ag K H (bW ds lo hi) (j6 vs lo hi):=by
 unfold bW j6;rw[←r.len];exact ag.of (xZ _ (x0 _ r.p))
def Jm(K:Za):V->Option Int->Option Int->Hp->VK->Prop:=λx lo hi H Q=>∃a xs,x=.ref a/\bG K H a xs/\(HT.aS xs.length 0 lo=0/\HT.aS xs.length xs.length hi=xs.length)/\Q (.ref a) H
theorem E1:vm X (Jm X.K):=by
 intro a_ s σ H x v l m lo hi sl Q I d f pl g h;obtain⟨a,xs,rfl,hx,hw,q⟩:=h;cases d;obtain⟨b_,r,ht,hz⟩:=I.tuple hx;have j:b_.toArray.size=xs.length:=by rw[YG];exact r.length.symm
 refine⟨"tuple",_,PyProof.Rows.slot_tuple_getitem.lookup,ht.typeIs,?_⟩;exact HT.oR ht f pl g (by rw[j];exact hw) ⟨.ref a,H,I,rfl,q⟩
def vR(x:D)(lo hi:Zp)(M:MH)(Q:DK):Prop:=match x with
 |.tup ds=>Q (.tup (bW ds lo hi)) M
 |.str z=>z.length<=sizeLine/\Q (.str (Txt.slice z lo hi)) M
 |.ref a=>aH (aU (M a)) λds=>∀p,M p=none->Q (.ref p) (ad M p (.lst (bW ds lo hi)))
 |_=>False
theorem JA{x:D}{v:V}{lo hi:Zp}{M:MH}{Q:DK}(g:RV X.K H x v)(d:RM X.K M H)(h:vR x lo hi M Q):AQ X v lo hi H (lift X.K H Q):=by
 cases x with
 |tup ds=>
  obtain⟨a,vs,rfl,sq,f⟩:=RV.tup_.1 g;by_cases hw:HT.aS ds.length 0 lo=0/\HT.aS ds.length ds.length hi=ds.length
  ·have h:Q (.tup (bW ds lo hi)) M:=h
   have e:bW ds lo hi=ds:=by unfold bW;rw[hw.1,hw.2];simp
   rw[e] at h;exact rF E1 ⟨a,vs,rfl,sq,by rw[←f.len];exact hw,ay g d h⟩
  refine rF Gj ⟨a,vs,rfl,sq,by rw[←f.len];exact hw,λp hp=>?_⟩;have k:=Kp.new (o:=.tup (j6 vs lo hi)) hp;exact⟨k,.tup (bW ds lo hi),M,RV.tup_.2 ⟨p,_,rfl,bG.of aD,ag.mono k _ (AR f lo hi)⟩,d.newH hp,h⟩
 |str z=>cases RV.str_.1 g;exact rF GM ⟨z,rfl,h.1,ay (RV.str_.2 rfl) d h.2⟩
 |ref a=>
  cases RV.ref_.1 g;obtain⟨ds,e1,q⟩:=bd h;obtain⟨vs,sq,f⟩:=d.list e1;refine rF Ea ⟨a,vs,rfl,sq,λp hp=>?_⟩;have k:=Kp.new (o:=.lst (j6 vs lo hi)) hp;exact⟨k,.ref p,_,RV.ref_.2 rfl,d.new (m:=.lst (bW ds lo hi)) hp ⟨_,aD,ag.mono k _ (AR f lo hi)⟩,q p (d.fresh hp)⟩
 |_=>exact Yh h
def intD(x:D)(Q:Int->Prop):Prop:=match x with
 |.int i=>Q i
 |_=>False
theorem tw{x:D}{Q:Int->Prop}(h:intD x Q):∃i,x=.int i/\Q i:=by
 cases x with
 |int i=>exact⟨i,rfl,h⟩
 |_=>exact Yh h
abbrev WO:=DS->MH->(Option Int->MH->Prop)->Prop
def ym(X:Cx)(e:Option Expr):TO:=λρ H Q=>∀a_ s,ac X a_ ρ H s->wpAny 'b' X.A (evalPart e X.env) (λu d=>∃o H',ac X a_ ρ H' d/\IsPart u o/\Q o H') X.xe s
theorem GN(e:Option Expr):PO X e (ym X e):=λa_ s _ _ _ I h=>h a_ s I
def AS(X:Cx)(e:Option Expr)(t:WO):Prop:=∀σ M ρ H Q,RS X.K H σ ρ->RM X.K M H->t σ M Q->ym X e ρ H λo H'=>Kp H H'/\∃M',RM X.K M' H'/\Q o M'
theorem Cp:AS X none (λ_ M Q=>Q none M):=λσ M ρ H Q rs d q a_ s I=>D7 a_ s ρ H _ I ⟨Kp.refl H,M,d,q⟩
theorem Cq{t:WE}(h:aL X e t):AS X (some e) (λσ M Q=>t σ M λx M1=>intD x λi=>Q (some i) M1):=λσ M ρ H Q rs d q a_ s I=>
 D8 (bD e) a_ s ρ H _ I (aJ (h σ M ρ H _ rs d q) λv l ⟨f,x,M1,g,j,q1⟩=>by
  obtain⟨i,rfl,q1⟩:=tw q1;exact⟨i,RV.int_.1 g,f,M1,j,q1⟩)
theorem vS{e:Option Expr}{ρ:L2.St}{Q d:Option Int->Hp->Prop}(h:ym X e ρ H Q)(f:∀o H',Q o H'->d o H'):ym X e ρ H d:=λa_ s I=>aE (h a_ s I) λ_ _ ⟨o,H',g,r,q⟩=>⟨o,H',g,r,f o H' q⟩
def vT(d:WE)(tl f:WO):WE:=λσ M Q=>d σ M λx M1=>tl σ M1 λl M2=>f σ M2 λu g=>vR x l u g Q
theorem GO{g:WE}{tl j:WO}{lo hi:Option Expr}{q:Pos}(ha:aL X a g)(hl:AS X lo tl)(r:AS X hi j):aL X (.Subscript a (.Slice lo hi none q) pos) (vT g tl j):=by
 intro σ M ρ H Q rs t h;refine bZ (B0 Jl (bD a) (GN lo) (GN hi)) ?_;show tW X a ρ H _;refine aJ (ha σ M ρ H _ rs t h) λv m y=>?_
 obtain⟨d,x,M1,z,A,q1⟩:=y;show ym X lo ρ m _;refine vS (hl σ M1 ρ m _ (rs.mono d) A q1) λl n B=>?_
 obtain⟨f,M2,C,E⟩:=B;show ym X hi ρ n _;refine vS (r σ M2 ρ n _ (rs.mono (d.trans f)) C E) λu J F=>?_
 obtain⟨p,K,G,I⟩:=F;exact Co (JA (RV.mono (f.trans p) x z) G I) λ_ _=>cy (d.trans (f.trans p))
def cW(X:Cx)(f:Value):List V->Hp->VK->Prop:=λvs H Q=>∀a_ s ρ us,ac X a_ ρ H s->am vs us->wpAny 'b' X.A (call f us) (EP X a_ ρ Q) X.xe s
theorem Ip(f:Value):cJ X f (cW X f):=λa_ s σ _ _ us _ I r h=>h a_ s σ us I r
theorem cG{f:Value}{r:List V->Hp->VK->Prop}{vs:List V}{Q:VK}(h:cJ X f r)(q:r vs H Q):cW X f vs H Q:=λa_ s ρ us I d=>h a_ s ρ H vs us Q I d q
theorem yn{f:Value}{vs:List V}{Q d:VK}(h:cW X f vs H Q)(g:∀v H',Q v H'->d v H'):cW X f vs H d:=λa_ s ρ us I j=>aE (h a_ s ρ us I j) λ_ _ ⟨v,H',l,r,q⟩=>⟨v,H',l,r,g v H' q⟩
def dl(X:Cx)(f:Value)(r:aI):Prop:=∀ds vs H M Q,ag X.K H ds vs->RM X.K M H->r ds M Q->cW X f vs H (lift X.K H Q)
theorem eG{x:Str}{id:String}{r:aI}{t:WA}{p:Pos}(hc:dl X (.builtin id) r)(d:Gl X x)(hm:X.mg x=none)(hv:bootBuiltins x=some (.builtin id))(hn:x ≠ "__name__")(f:(x==("__debug__" : Str))=false)(g:ar e=true)(j:es.all ar=true)
  (ha:et X (e::es) t):aL X (.Call (.Name x p) (e::es) [] pos) (cE r t):=by
 intro σ M ρ H Q rs l h;refine bZ (BV (Ip _) d hm hv (j9 (e::es)) hn f (aX g) (eu j)) ?_;show iT X (e::es) ρ H _;refine cR (ha σ M ρ H _ rs l h) λvs m n=>?_
 obtain⟨q,ds,M1,u,_,y,q1⟩:=n;exact yn (hc ds vs m M1 Q u y q1) λ_ _=>cy q
theorem iy{x:Str}{id:String}{r:aI}{t:WA}{p:Pos}(hc:dl X (.type id) r)(d:Gl X x)(hm:X.mg x=none)(hv:bootBuiltins x=some (.type id))(hn:x ≠ "__name__")(f:(x==("__debug__" : Str))=false)(g:ar e=true)(j:es.all ar=true)
  (ha:et X (e::es) t):aL X (.Call (.Name x p) (e::es) [] pos) (cE r t):=by
 intro σ M ρ H Q rs l h;refine bZ (Ah (Ip _) d hm hv (j9 (e::es)) hn f (aX g) (eu j)) ?_;show iT X (e::es) ρ H _;refine cR (ha σ M ρ H _ rs l h) λvs m n=>?_
 obtain⟨q,ds,M1,u,_,y,q1⟩:=n;exact yn (hc ds vs m M1 Q u y q1) λ_ _=>cy q
theorem c0{K:Za}{d:D}{vs:List V}(r:ag K H [d] vs):∃v,vs=[v]/\RV K H d v:=by
 rw[ag] at r;obtain⟨v,j,rfl,g,f⟩:=r;rw[ag] at f;subst f;exact⟨v,rfl,g⟩
theorem vU{K:Za}{d d':D}{vs:List V}(r:ag K H [d,d'] vs):∃v f,vs=[v,f]/\RV K H d v/\RV K H d' f:=by
 rw[ag] at r;obtain⟨v,m,rfl,g,j⟩:=r;obtain⟨f,rfl,l⟩:=c0 j;exact⟨v,f,rfl,g,l⟩
def nB:aI:=λds M Q=>match ds with
 |[.str z]=>z.length<=sizeLine/\Q (.int z.length) M
 |[.tup xs]=>Q (.int xs.length) M
 |[.ref a]=>match M a with
  |some (.lst xs)=>Q (.int xs.length) M
  |some (.rol xs)=>Q (.int xs.length) M
  |some (.dic d)=>Q (.int d.length) M
  |some (.rod d)=>Q (.int d.length) M
  |_=>False
 |_=>False
theorem AT:cJ X (.builtin "len") (λxs H Q=>∃a d,xs=[V.ref a]/\Rd H a (.dK d)/\Q (.int d.length) H):=by
 rintro a_ s σ H xs us Q I r ⟨a,d,rfl,ha,q⟩;obtain⟨u,rfl,f⟩:=vals1 r;cases f;exact Dm I ha λt j g=>⟨.int d.length,H,g,⟨t,rfl⟩,q⟩
theorem GP:dl X (.builtin "len") nB:=by
 intro ds vs H M Q r d h;unfold nB at h;split at h
 ·obtain⟨v,rfl,g⟩:=c0 r
  cases RV.str_.1 g;exact cG vp ⟨_,rfl,h.1,ay (RV.int_.2 rfl) d h.2⟩
 ·obtain⟨v,rfl,g⟩:=c0 r
  obtain⟨a,us,rfl,sq,f⟩:=RV.tup_.1 g;exact cG iR ⟨a,us,rfl,.inr sq,ay (RV.int_.2 (by rw[f.len])) d h⟩
 ·obtain⟨v,rfl,g⟩:=c0 r
  cases RV.ref_.1 g;split at h
  ·rename_i xs e1
   obtain⟨us,sq,f⟩:=d _ _ e1;exact cG iR ⟨_,us,rfl,.inl (bw.of sq),ay (RV.int_.2 (by rw[f.len])) d h⟩
  ·rename_i xs e1
   obtain⟨us,sq,f⟩:=d _ _ e1;exact cG iR ⟨_,us,rfl,.inl (.inl sq),ay (RV.int_.2 (by rw[f.len])) d h⟩
  ·rename_i m e1
   obtain⟨j,q1,l,f⟩:=d _ _ e1;exact cG As ⟨_,j,rfl,q1,ay (RV.int_.2 (by have:=congrArg List.length l;simp only[ZF] at this;rw[this])) d h⟩
  ·rename_i m e1
   obtain⟨n,j,q1,l,f⟩:=d _ _ e1;exact cG AT ⟨_,j,rfl,.inr ⟨n,q1⟩,ay (RV.int_.2 (by have:=congrArg List.length l;simp only[ZF] at this;rw[this])) d h⟩
  ·exact Yh h
 ·exact Yh h
def nC(x:D)(M:MH):Option String:=match x with
 |.non=>some "NoneType"
 |.bl _=>some "bool"
 |.int _=>some "int"
 |.str _=>some "str"
 |.tup _=>some "tuple"
 |.ref a=>match M a with
  |some (.lst _)=>some "list"
  |some (.dic _)=>some "dict"
  |_=>none
 |.ty _=>none
def AU(t T:String):Bool:=t==T||(t == "bool" && T == "int")
def kinds:List String:=["NoneType","bool","int","str","tuple","list","dict"]
theorem AV:∀t∈kinds,∀T∈kinds,T ≠ "NoneType"->(if(Value.type t==Value.type T)=true then some true else if PySem.W.kitMeta T=true then(fastBuiltinMro t).map (·.contains (.type T)) else none)=some (AU t T):=by rfl'
def vV:List D->Option (List String)
 |[]=>some []
 |.ty T::r=>(vV r).map (T :: ·)
 |_=>none
def zu(T:String):Bool:=kinds.contains T&&T != "NoneType"
def eI:aI:=λds M Q=>match ds with
 |[x,.ty T]=>(T∈kinds/\T ≠ "NoneType")/\aH (nC x M) λt=>Q (.bl (AU t T)) M
 |[x,.tup ts]=>aH (vV ts) λd=>d.all zu=true/\aH (nC x M) λt=>Q (.bl (d.any (AU t))) M
 |_=>False
theorem yo{K:Za}:∀{ts:List D}{d:List String}{vs:List V},vV ts=some d->ag K H ts vs->vs=d.map V.ty
 |[],d,vs,h,r=>by cases h;rw[ag] at r;subst r;rfl
 |.ty T::ts,d,vs,h,r=>by
  rw[vV] at h;rw[ag] at r;obtain⟨v,j,rfl,f,g⟩:=r;cases q:vV ts with
  |none=>rw[q] at h;cases h
  |some l=>rw[q] at h;cases h;rw[yo q g,RV.ty_.1 f];rfl
 |.non::_,_,_,h,_=>by cases h
 |.bl _::_,_,_,h,_=>by cases h
 |.int _::_,_,_,h,_=>by cases h
 |.str _::_,_,_,h,_=>by cases h
 |.tup _::_,_,_,h,_=>by cases h
 |.ref _::_,_,_,h,_=>by cases h
theorem um{K:Za}{t:String}(ht:t∈kinds):∀{d:List String}{us:Zd},d.all zu=true->am (d.map V.ty) us->PySem.W.kitAny K (.type t) us=some (d.any (AU t))
 |[],_,_,r=>by cases r;rfl
 |T::d,_,h,r=>by
  cases r with
  |cons q1 f=>
   rw[XJ,YU] at h;cases q1;have g:=h.1;unfold zu at g;rw[YU] at g;have j:=Ay K (AV t ht T (by simpa using g.1) (by simpa using g.2));unfold PySem.W.kitAny;rw[j,YZ];cases AU t T with
   |true=>rfl
   |false=>exact um ht h.2 f
theorem vW{x:D}{M:MH}{t:String}(h:nC x M=some t):t∈kinds:=by
 cases x with
 |ref a=>
  have h:(match M a with
   |some (.lst _)=>some "list"
   |some (.dic _)=>some "dict"
   |_=>none)=some t:=h
  split at h<;>first | (cases h;decide) | cases h
 |ty _=>cases h
 |_=>cases h;decide
theorem Cr{s:Shared}{a_:Zc}{ρ:L2.St}{M:MH}{x:D}{v:V}{f c:Value}{t:String}{k:Bool}{Q:Zb}(I:ac X a_ ρ H s)(d:RV X.K H x v)(g:RM X.K M H)(r:RelV v f)(h:nC x M=some t)(e:PySem.W.kitOne X.K (.type t) c=some k)
  (hq:∀tk,Q (.bool k) { s with toks:=tk }):wpAny 'b' X.A (call (.builtin "isinstance") [f,c]) Q X.xe s:=by
 cases x with
 |non=>cases h;cases RV.non_.1 d;exact ej I r .non e hq
 |bl b=>cases h;cases RV.bl_.1 d;exact ej I r (.bl b) e hq
 |int b=>cases h;cases RV.int_.1 d;exact ej I r (.int b) e hq
 |str b=>cases h;cases RV.str_.1 d;exact ej I r (.str b) e hq
 |ty b=>cases h
 |tup ds=>
  cases h;obtain⟨a,xs,rfl,sq,j⟩:=RV.tup_.1 d;obtain⟨_,_,tp,_⟩:=I.tuple sq;cases r;obtain⟨o,h1,l,_⟩:=tp;exact PySem.W.kia_one PySem.W.kitx_tuple I.kIn ⟨o,h1,l⟩ e (λz=>nomatch z) hq
 |ref a=>
  cases RV.ref_.1 d;have h:(match M a with
   |some (.lst _)=>some "list"
   |some (.dic _)=>some "dict"
   |_=>none)=some t:=h
  split at h
  ·rename_i e1;cases h
   obtain⟨us,sq,j⟩:=g _ _ e1;exact ej I r (.lst sq) e hq
  ·rename_i e1;cases h
   obtain⟨us,sq,_⟩:=g _ _ e1;exact ej I r (.dK sq) e hq
  ·cases h
theorem Cs{s:Shared}{a_:Zc}{ρ:L2.St}{M:MH}{x:D}{v:V}{j:Value}{t:String}{k:Bool}{tp:Addr}{us:Zd}{Q:Zb}(I:ac X a_ ρ H s)(d:RV X.K H x v)(l:RM X.K M H)(r:RelV v j)(h:nC x M=some t)
  (ht:IsTup s.heap tp us.toArray) (e:PySem.W.kitAny X.K (.type t) us=some k) (hq:∀tk,Q (.bool k) { s with toks:=tk }):wpAny 'b' X.A (call (.builtin "isinstance") [j,.ref tp]) Q X.xe s:=by
 obtain⟨⟨oc,od,m,x_⟩,h1,p,n,q⟩:=ht;obtain rfl:oc=.type "tuple":=p;obtain rfl:m=.seq us.toArray n:=q;cases x with
 |non=>cases h;cases RV.non_.1 d;cases r;exact PySem.W.kia_tup PySem.W.kitx_none I.kIn True.intro h1 e (λz=>nomatch z) hq
 |bl b=>cases h;cases RV.bl_.1 d;cases r;exact PySem.W.kia_tup PySem.W.kitx_bool I.kIn True.intro h1 e (λz=>nomatch z) hq
 |int b=>cases h;cases RV.int_.1 d;obtain⟨_,rfl⟩:=r;exact PySem.W.kia_tup PySem.W.kitx_int I.kIn True.intro h1 e (λz=>nomatch z) hq
 |str b=>cases h;cases RV.str_.1 d;obtain⟨_,rfl⟩:=r;exact PySem.W.kia_tup PySem.W.kitx_str I.kIn True.intro h1 e (λz=>nomatch z) hq
 |ty b=>cases h
 |tup ds=>
  cases h;obtain⟨a,xs,rfl,sq,u⟩:=RV.tup_.1 d;obtain⟨_,_,⟨o,f,g,_⟩,_⟩:=I.tuple sq;cases r;exact PySem.W.kia_tup PySem.W.kitx_tuple I.kIn ⟨o,f,g⟩ h1 e (λz=>nomatch z) hq
 |ref a=>
  cases RV.ref_.1 d;cases r;have h:(match M a with
   |some (.lst _)=>some "list"
   |some (.dic _)=>some "dict"
   |_=>none)=some t:=h
  split at h
  ·rename_i e1;cases h
   obtain⟨y,sq,u⟩:=l _ _ e1;obtain⟨_,_,_,_,_,f⟩:=I.lstM sq;exact PySem.W.kia_tup PySem.W.kitx_list I.kIn ⟨_,f,rfl⟩ h1 e (λz=>nomatch z) hq
  ·rename_i e1;cases h
   obtain⟨y,sq,_⟩:=l _ _ e1;obtain⟨_,_,_,_,o,es,B,f,g,_⟩:=zi I.hok sq;exact PySem.W.kia_tup PySem.W.kitx_dict I.kIn ⟨o,f,g.1⟩ h1 e (λz=>nomatch z) hq
  ·cases h
theorem AW:dl X (.builtin "isinstance") eI:=by
 intro ds vs H M Q r d h;unfold eI at h;split at h
 ·rename_i x T
  obtain⟨v,n,rfl,f,g⟩:=vU r;cases RV.ty_.1 g;obtain⟨t,e1,q⟩:=bd h.2;intro a_ s ρ us I j;obtain⟨u,p,rfl,q1,l⟩:=j.two;cases l;exact Cr I f d q1 e1 (Ay X.K (AV t (vW e1) T h.1.1 h.1.2)) λtk=>⟨.bl _,H,I.tok tk,rfl,ay (RV.bl_.2 rfl) d q⟩
 ·rename_i x ts
  obtain⟨v,n,rfl,f,g⟩:=vU r;obtain⟨A,y,h⟩:=bd h;obtain⟨t,e1,q⟩:=bd h.2;obtain⟨tp,xs,rfl,sq,z⟩:=RV.tup_.1 g;intro a_ s ρ us I j;obtain⟨u,p,rfl,q1,l⟩:=j.two;cases l;obtain⟨b_,m,ht,_⟩:=I.tuple sq;rw[yo y z] at m;exact Cs I f d q1 e1 ht (um (vW e1) h.1 m) λtk=>⟨.bl _,H,I.tok tk,rfl,ay (RV.bl_.2 rfl) d q⟩
 ·exact Yh h
def md:List D->Option (List Bool)
 |[]=>some []
 |.bl b::r=>(md r).map (b :: ·)
 |_=>none
theorem yp{K:Za}:∀{ds:List D}{bs:List Bool}{vs:List V},md ds=some bs->ag K H ds vs->vs=bs.map V.bl
 |[],bs,vs,h,r=>by rw[ag] at r;subst r;cases h;rfl
 |.bl b::ds,bs,vs,h,r=>by
  rw[ag] at r;obtain⟨v,g,rfl,d,f⟩:=r;cases RV.bl_.1 d;unfold md at h;cases q:md ds with
  |none=>rw[q] at h;cases h
  |some j=>rw[q] at h;cases h;rw[yp q f];rfl
def nD(f:List Bool->Bool):aI:=λds M Q=>match ds with
 |[.ref a]=>match M a with
  |some (.lst xs)=>aH (md xs) λbs=>Q (.bl (f bs)) M
  |_=>False
 |_=>False
theorem GQ(hc:X.calm=true):dl X (.builtin "all") (nD λbs=>bs.all id):=by
 intro ds vs H M Q r d h;unfold nD at h;split at h
 ·obtain⟨v,rfl,f⟩:=c0 r
  cases RV.ref_.1 f;split at h
  ·rename_i xs e1
   obtain⟨bs,e2,q⟩:=bd h;obtain⟨us,sq,g⟩:=d _ _ e1
   have:=yp e2 g
   subst this;exact cG (B5 hc) ⟨_,bs,rfl,bw.of sq,ay (RV.bl_.2 rfl) d q⟩
  ·exact Yh h
 ·exact Yh h
def nE(f:Int->Int->Int):aI:=λds M Q=>match ds with
 |[.int i,.int j]=>Q (.int (f i j)) M
 |_=>False
theorem GR(hc:X.calm=true):dl X (.builtin "max") (nE λi j=>if j>i then j else i):=by
 intro ds vs H M Q r d h;unfold nE at h;split at h
 ·obtain⟨v,l,rfl,f,g⟩:=vU r
  cases RV.int_.1 f;cases RV.int_.1 g;exact cG (Ae hc) ⟨_,_,rfl,ay (RV.int_.2 rfl) d h⟩
 ·exact Yh h
theorem GS(hc:X.calm=true):dl X (.builtin "min") (nE λi j=>if j<i then j else i):=by
 intro ds vs H M Q r d h;unfold nE at h;split at h
 ·obtain⟨v,l,rfl,f,g⟩:=vU r
  cases RV.int_.1 f;cases RV.int_.1 g;exact cG (Af hc) ⟨_,_,rfl,ay (RV.int_.2 rfl) d h⟩
 ·exact Yh h
theorem vX:cJ X (.builtin "divmod") (λxs H Q=>∃i j,xs=[.int i,.int j]/\(0<j/\j<18446744073709551616)/\∀p,H p=none->Q (.ref p) (aM H p (.tup [.int (i / j),.int (i%j)]))):=by
 intro a_ s σ H xs us Q I r h;obtain⟨i,j,rfl,⟨h1,f⟩,q⟩:=h;obtain⟨u,g,rfl,⟨t,rfl⟩,⟨t',rfl⟩⟩:=vals2 r;have d:j.natAbs.log2<9000:=Nat.lt_trans ((Nat.log2_lt 'c').2 (by omega:j.natAbs<2 ^ 64)) 'a';refine divmod_int 'c' ?_ (.inl (PyProof.noPylong_of_log2 d));rw[Int.fdiv_eq_ediv_of_nonneg i 'c',Int.fmod_eq_emod_of_nonneg i 'c'];refine⟨.ref s.heap.objs.size,_,?_,rfl,q _ (I.hok.fresh (YE _))⟩;refine I.laid (λb o e=>Yd _ e) (YE _) ⟨by simp only[YI,YS];rw[sizeLine_eq];decide,[.int (i / j) s.toks,.int (i%j) (s.toks+1)],.cons ⟨_,rfl⟩ (.cons ⟨_,rfl⟩ .nil),?_⟩;exact⟨_,Yg s.heap rfl,rfl,0,rfl⟩
def eJ:aI:=λds M Q=>match ds with
 |[.int i,.int j]=>(0<j/\j<18446744073709551616)/\Q (.tup [.int (i / j),.int (i%j)]) M
 |_=>False
theorem AX:dl X (.builtin "divmod") eJ:=by
 intro ds vs H M Q r d h;unfold eJ at h;split at h
 ·obtain⟨v,j,rfl,f,g⟩:=vU r
  cases RV.int_.1 f;cases RV.int_.1 g;refine cG vX ⟨_,_,rfl,h.1,λp hp=>?_⟩;exact⟨Kp.new hp,_,M,RV.tup_.2 ⟨p,_,rfl,bG.of aD,.cons (RV.int_.2 rfl) (.cons (RV.int_.2 rfl) .nil)⟩,d.newH hp,h.2⟩
 ·exact Yh h
def nF:aI:=λds M Q=>match ds with
 |[.int i]=>Q (.int i) M
 |[.bl k]=>Q (.int (if k then 1 else 0)) M
 |_=>False
theorem GT:dl X (.type "int") nF:=by
 intro ds vs H M Q r f h;unfold nF at h;split at h
 ·obtain⟨v,rfl,d⟩:=c0 r
  cases RV.int_.1 d;exact cG tS (.inl ⟨_,rfl,ay (RV.int_.2 rfl) f h⟩)
 ·obtain⟨v,rfl,d⟩:=c0 r
  cases RV.bl_.1 d;exact cG tS (.inr ⟨_,rfl,ay (RV.int_.2 rfl) f h⟩)
 ·exact Yh h
def gI:aI:=λds M Q=>match ds with
 |[.tup xs]=>Q (.tup xs) M
 |[.ref a]=>aH (aU (M a)) λxs=>Q (.tup xs) M
 |_=>False
theorem Ct:dl X (.type "tuple") gI:=by
 intro ds vs H M Q r f h;unfold gI at h;split at h
 ·obtain⟨v,rfl,d⟩:=c0 r
  obtain⟨a,us,rfl,sq,g⟩:=RV.tup_.1 d;exact cG mJ ⟨a,us,rfl,.inr ⟨sq,ay d f h⟩⟩
 ·obtain⟨v,rfl,d⟩:=c0 r
  cases RV.ref_.1 d;obtain⟨xs,e1,q⟩:=bd h;obtain⟨us,sq,g⟩:=f.list e1;refine cG mJ ⟨_,us,rfl,.inl ⟨sq,λp hp=>?_⟩⟩;have k:=Kp.new (o:=.tup us) hp;exact⟨k,.tup xs,M,RV.tup_.2 ⟨p,_,rfl,bG.of aD,ag.mono k _ g⟩,f.newH hp,q⟩
 ·exact Yh h
def iA:aI:=λds M Q=>match ds with
 |[.tup xs]=>∀p,M p=none->Q (.ref p) (ad M p (.lst xs))
 |[.ref a]=>aH (aU (M a)) λxs=>∀p,M p=none->Q (.ref p) (ad M p (.lst xs))
 |_=>False
theorem yq:dl X (.type "list") iA:=by
 intro ds vs H M Q r d h;unfold iA at h;split at h
 ·rename_i xs
  obtain⟨v,rfl,f⟩:=c0 r;obtain⟨a,us,rfl,sq,g⟩:=RV.tup_.1 f;refine cG m8 ⟨a,us,rfl,.inr sq,λp hp=>?_⟩;have k:=Kp.new (o:=.lst us) hp;exact⟨k,.ref p,_,RV.ref_.2 rfl,d.new (m:=.lst xs) hp ⟨us,aD,ag.mono k _ g⟩,h p (d.fresh hp)⟩
 ·obtain⟨v,rfl,f⟩:=c0 r
  cases RV.ref_.1 f;obtain⟨xs,e1,q⟩:=bd h;obtain⟨us,sq,g⟩:=d.list e1;refine cG m8 ⟨_,us,rfl,.inl sq,λp hp=>?_⟩;have k:=Kp.new (o:=.lst us) hp;exact⟨k,.ref p,_,RV.ref_.2 rfl,d.new (m:=.lst xs) hp ⟨us,aD,ag.mono k _ g⟩,q p (d.fresh hp)⟩
 ·exact Yh h
def nG:aI:=λds M Q=>match ds with
 |[.int i]=>i.natAbs.log2<1920/\Q (.str (toString i)) M
 |[.str z]=>Q (.str z) M
 |_=>False
theorem vY:cJ X (.type "str") (λxs H Q=>∃z,xs=[.str z]/\Q (.str z) H):=by
 intro a_ s σ H xs us Q I r h;obtain⟨z,rfl,q⟩:=h;obtain⟨u,rfl,d⟩:=r.one;obtain⟨t,rfl⟩:=d;exact P.str_of_str ⟨.str z,H,I,⟨t,rfl⟩,q⟩
theorem GU:dl X (.type "str") nG:=by
 intro ds vs H M Q r f h;unfold nG at h;split at h
 ·obtain⟨v,rfl,d⟩:=c0 r
  cases RV.int_.1 d;exact cG vi ⟨_,rfl,h.1,ay (RV.str_.2 rfl) f h.2⟩
 ·obtain⟨v,rfl,d⟩:=c0 r
  cases RV.str_.1 d;exact cG vY ⟨_,rfl,ay (RV.str_.2 rfl) f h⟩
 ·exact Yh h
inductive Bi where
 |len | isinst | all | max | min | divmod | tuple | str
 deriving DecidableEq
def vZ:Bi->aI
 |.len=>nB
 |.isinst=>eI
 |.all=>nD λbs=>bs.all id
 |.max=>nE λi j=>if j>i then j else i
 |.min=>nE λi j=>if j<i then j else i
 |.divmod=>eJ
 |.tuple=>gI
 |.str=>nG
def rG:Bi->Str
 |.len=>"len"
 |.isinst=>"isinstance"
 |.all=>"all"
 |.max=>"max"
 |.min=>"min"
 |.divmod=>"divmod"
 |.tuple=>"tuple"
 |.str=>"str"
theorem GV(b:Bi)(hc:X.calm=true){t:WA}{p:Pos}(d:Gl X (rG b))(hm:X.mg (rG b)=none)(f:ar e=true)(g:es.all ar=true)(ha:et X (e::es) t):aL X (.Call (.Name (rG b) p) (e::es) [] pos) (cE (vZ b) t):=by
 cases b with
 |len=>exact eG GP d hm PySem.boot_len 'a' 'a' f g ha
 |isinst=>exact eG AW d hm PyProof.Rows.boot_isinstance 'a' 'a' f g ha
 |all=>exact eG (GQ hc) d hm (by rfl') 'a' 'a' f g ha
 |max=>exact eG (GR hc) d hm PyProof.Rows.boot_max 'a' 'a' f g ha
 |min=>exact eG (GS hc) d hm PyProof.Rows.boot_min 'a' 'a' f g ha
 |divmod=>exact eG AX d hm PyProof.Rows.boot_divmod 'a' 'a' f g ha
 |tuple=>exact iy Ct d hm (by rfl') 'a' 'a' f g ha
 |str=>exact iy GU d hm (by rfl') 'a' 'a' f g ha
end
section
variable {X:Cx}{H:Hp}{e a b c o:Expr}{es:Zg}{pos:Pos}
def fI:Expr->Bool
 |.Call (.Name _ _) [] _ _=>false
 |_=>true
theorem yr{env:Env}{f:Str}{w:Sem Value}(h:fI o=true):attributeBase o f env w=w:=by
 cases o with
 |Call g xs=>cases g with
  |Name=>cases xs with
   |nil=>exact absurd (show false=true from h) YH
   |cons=>rfl
  |_=>rfl
 |_=>rfl
theorem v0{env:Env}{p:Pos}:∀{es:Zg},es.all ar=true->(backTo p (starEach es env)).all (λx=>!x.1)=true
 |[],_=>rfl
 |e::es,h=>by
  rw[XJ,YU] at h;rw[aX h.1];show(true&&(backTo p (starEach es env)).all (λx=>!x.1))=true;rw[v0 h.2];rfl
def mW(X:Cx)(id:String):V->List V->Hp->VK->Prop:=λx xs H Q=>∀a_ s ρ v us,ac X a_ ρ H s->RelV x v->am xs us->wpAny 'b' X.A (call (.builtin id) (v::us)) (EP X a_ ρ Q) X.xe s
theorem JB(id:String):Ai X id (mW X id):=λa_ s σ _ _ _ v us _ I r d h=>h a_ s σ v us I r d
theorem rH{id:String}{r:V->List V->Hp->VK->Prop}{x:V}{xs:List V}{Q:VK}(h:Ai X id r)(q:r x xs H Q):mW X id x xs H Q:=λa_ s ρ v us I d f=>h a_ s ρ H x xs v us Q I d f q
theorem E2{id:String}{x:V}{xs:List V}{Q d:VK}(h:mW X id x xs H Q)(g:∀v H',Q v H'->d v H'):mW X id x xs H d:=λa_ s ρ v us I f j=>aE (h a_ s ρ v us I f j) λ_ _ ⟨v,H',l,r,q⟩=>⟨v,H',l,r,g v H' q⟩
abbrev o8:=D->List D->MH->DK->Prop
def AY(X:Cx)(id:String)(r:o8):Prop:=∀x ds v vs H M Q,RV X.K H x v->ag X.K H ds vs->RM X.K M H->r x ds M Q->mW X id v vs H (lift X.K H Q)
inductive Rc where
 |str | lst | dic | int
def me:Rc->D->MH->Prop
 |.str,.str _,_=>True
 |.int,.int _,_=>True
 |.lst,.ref a,M=>(aU (M a)).isSome=true
 |.dic,.ref a,M=>match M a with
  |some (.dic _)=>True
  |_=>False
 |_,_,_=>False
def GW:Rc->String
 |.str=>"str"
 |.lst=>"list"
 |.dic=>"dict"
 |.int=>"int"
theorem E3{K:Za}{M:MH}{c:Rc}{x:D}{v:V}(r:RV K H x v)(m:RM K M H)(h:me c x M):Gn K (GW c) v H:=by
 cases c with
 |int=>cases x with
  |int z=>cases RV.int_.1 r;rfl
  |_=>exact Yh h
 |str=>cases x with
  |str z=>cases RV.str_.1 r;rfl
  |_=>exact Yh h
 |lst=>cases x with
  |ref a=>
   cases RV.ref_.1 r;obtain⟨ds,e⟩:=Option.isSome_iff_exists.mp h;obtain⟨vs,sq,_⟩:=m.list e;exact .inl ⟨rfl,vs,sq⟩
  |_=>exact Yh h
 |dic=>cases x with
  |ref a=>
   cases RV.ref_.1 r;have h:match M a with
    |some (.dic _)=>True
    |_=>False:=h
   split at h
   ·rename_i e
    obtain⟨d,q,_⟩:=m a _ e;exact .inr (.inr (.inl ⟨rfl,.inl ⟨d,q⟩⟩))
   ·exact Yh h
  |_=>exact Yh h
def rJ(c:Rc)(r:o8)(d:WE)(t:WA):WE:=λσ M Q=>d σ M λx M1=>me c x M1/\t σ M1 λds M2=>r x ds M2 Q
theorem rK{c:Rc}{name:Str}{id:String}{r:o8}{d:WE}{t:WA}{v_:Pos}(q:PlainAttrs (GW c))(slot:Slot (GW c) name id)(u:typeOf (.builtin id)=pure (.type "method_descriptor"))(hm:AY X id r)(y:aL X o d)(ha:et X (e::es) t)
  (hb:fI o=true) (f:ar e=true) (g:es.all ar=true) (hl:es.length<20) (z:(v_.endLine==pos.line)=true):aL X (.Call (.Attribute o name v_) (e::es) [] pos) (rJ c r d t):=by
 intro σ M ρ H Q rs A h;refine bZ (HU q slot u (JB id) (bD o) (j9 (e::es)) (yr hb) ?_ z (aX f) (eu g)) ?_
 ·rw[v0 (es:=e::es) (by rw[XJ,f,g];rfl)]
  show(true&&true&&decide ((e::es).length+0+0<30))=true;rw[Bool.and_self,Bool.true_and];exact YT (by rw[YI];omega)
 ·show tW X o ρ H _
  refine aJ (y σ M ρ H _ rs A h) λv j B=>?_
  obtain⟨l,x,M1,m,n,q1⟩:=B;refine⟨E3 m n q1.1,?_⟩;show iT X (e::es) ρ j _;refine cR (ha σ M1 ρ j _ (rs.mono l) n q1.2) λvs C E=>?_
  obtain⟨p,ds,M2,F,_,G,I⟩:=E;exact E2 (hm x ds v vs C M2 Q (RV.mono p x m) F G I) λ_ _=>cy (l.trans p)
def eL:o8:=λx ds M Q=>match x,ds with
 |.ref a,[d]=>match M a with
  |some (.lst xs)=>xs.length<sizeLine/\Q .non (ad M a (.lst (xs++[d])))
  |_=>False
 |_,_=>False
theorem AZ:AY X "list.append" eL:=by
 intro x ds v vs H M Q l r f h;unfold eL at h;split at h
 ·rename_i a d
  obtain⟨g,rfl,n⟩:=c0 r;cases RV.ref_.1 l;split at h
  ·rename_i xs e1
   obtain⟨us,sq,j⟩:=f _ _ e1;have k:=Kp.put (o':=.lst (us++[g])) sq trivial;exact rH Ak ⟨a,us,g,rfl,rfl,sq,by rw[←j.len];exact h.1,k,.non,_,RV.non_.2 rfl,f.put (m:=.lst (xs++[d])) sq trivial ⟨_,aD,ag.of (cv (ag.mono k _ j).p (.cons (RV.mono k _ n) .nil))⟩,h.2⟩
  ·exact Yh h
 ·exact Yh h
def eM:o8:=λx ds M Q=>match x,ds with
 |.ref a,[.ref b]=>match M a,M b with
  |some (.lst xs),some (.lst ys)=>xs.length+ys.length<=sizeLine/\Q .non (ad M a (.lst (xs++ys)))
  |_,_=>False
 |_,_=>False
theorem A0:AY X "list.extend" eM:=by
 intro x ds v vs H M Q l r d h;unfold eM at h;split at h
 ·rename_i a b
  obtain⟨t,rfl,n⟩:=c0 r;cases RV.ref_.1 l;cases RV.ref_.1 n;split at h
  ·rename_i xs ys e1 e2
   obtain⟨us,sq,f⟩:=d _ _ e1;obtain⟨g,q,j⟩:=d _ _ e2;have k:=Kp.put (o':=.lst (us++g)) sq trivial;exact rH Al ⟨a,b,us,g,rfl,rfl,sq,q,by rw[←f.len,←j.len];exact h.1,k,.non,_,RV.non_.2 rfl,d.put (m:=.lst (xs++ys)) sq trivial ⟨_,aD,ag.of (cv (ag.mono k _ f).p (ag.mono k _ j).p)⟩,h.2⟩
  ·exact Yh h
 ·exact Yh h
def dm:List D->Option (List Str)
 |[]=>some []
 |.str z::r=>(dm r).map (z :: ·)
 |_=>none
theorem qa{K:Za}:∀{ds:List D}{d:Zf}{vs:List V},dm ds=some d->ag K H ds vs->vs=d.map V.str
 |[],d,vs,h,r=>by rw[ag] at r;subst r;cases h;rfl
 |.str b::ds,d,vs,h,r=>by
  rw[ag] at r;obtain⟨v,j,rfl,f,g⟩:=r;cases RV.str_.1 f;unfold dm at h;cases q:dm ds with
  |none=>rw[q] at h;cases h
  |some l=>rw[q] at h;cases h;rw[qa q g];rfl
def mf(d:Str)(ds:List D)(Q:D->Prop):Prop:=aH (dm ds) λf=>(f.map (·.length)).sum+f.length*d.length<=16777216/\Q (.str (Str.join d f))
def jD:o8:=λx ds M Q=>match x,ds with
 |.str f,[.ref a]=>aH (aU (M a)) λxs=>mf f xs λd=>Q d M
 |.str f,[.tup xs]=>mf f xs λd=>Q d M
 |_,_=>False
theorem E4:AY X "str.join" jD:=by
 intro x ds v vs H M Q n r f h;unfold jD at h;split at h
 ·rename_i d a
  obtain⟨p,rfl,g⟩:=c0 r;cases RV.str_.1 n;cases RV.ref_.1 g;obtain⟨xs,e1,h⟩:=bd h;obtain⟨j,e2,h1,l⟩:=bd h;obtain⟨us,sq,m⟩:=f.list e1
  have:=qa e2 m
  subst this;exact rH xY ⟨d,a,j,rfl,rfl,.inl sq,h1,ay (RV.str_.2 rfl) f l⟩
 ·rename_i d xs
  obtain⟨p,rfl,g⟩:=c0 r;cases RV.str_.1 n;obtain⟨a,us,rfl,sq,m⟩:=RV.tup_.1 g;obtain⟨j,e2,h1,l⟩:=bd h
  have:=qa e2 m
  subst this;exact rH xY ⟨d,a,j,rfl,rfl,.inr sq,h1,ay (RV.str_.2 rfl) f l⟩
 ·exact Yh h
theorem Cu:Ai X "str.split" (λx vs H Q=>∃z y,x=.str z/\vs=[.str y]/\(y.length==0)=false/\z.length<=1000000 /\
  ∀p,H p=none->Q (.ref p) (aM H p (.lst ((Txt.split z y).map V.str)))):=by
 intro a_ s σ H x xs v us Q I d rs h;obtain⟨z,y,rfl,rfl,hy,hz,q⟩:=h;obtain⟨t,rfl⟩:=d;obtain⟨u,rfl,f⟩:=rs.one;obtain⟨t',rfl⟩:=f;have h1:=PySem.StrLaws.occ_length_le z y 0 z.length (z.length+1);have j:=split_le z y;refine EZ hy (λl k hl=>?_) (by rw[sizeLine_eq];omega) (by rw[len_partsBetween,sizeLine_eq];omega);refine⟨.ref s.heap.objs.size,_,I.laid (t':=k) (o:=.lst ((Txt.split z y).map V.str)) (λb m q=>Yd _ q) (YE _) ?_,rfl,q _ (I.hok.fresh (YE _))⟩;refine⟨by rw[ZF,sizeLine_eq];omega,strValues l,0,?_,Yg _ rfl⟩;rw[←hl];clear hl;induction l with
 |nil=>exact .nil
 |cons p l g=>exact .cons ⟨p.2,rfl⟩ g
def gJ:o8:=λx ds M Q=>match x,ds with
 |.str z,[.str y]=>((y.length==0)=false/\z.length<=1000000)/\∀p,M p=none->Q (.ref p) (ad M p (.lst ((Txt.split z y).map .str)))
 |_,_=>False
theorem yt{K:Za}:∀d:List Str,ag K H (d.map .str) (d.map V.str)
 |[]=>.nil
 |_::r=>.cons (RV.str_.2 rfl) (yt r)
theorem Cv:AY X "str.split" gJ:=by
 intro x ds v vs H M Q f r d h;unfold gJ at h;split at h
 ·rename_i z y
  obtain⟨j,rfl,g⟩:=c0 r;cases RV.str_.1 f;cases RV.str_.1 g;refine rH Cu ⟨z,y,rfl,rfl,h.1.1,h.1.2,λp hp=>?_⟩;exact⟨Kp.new hp,.ref p,_,RV.ref_.2 rfl,d.new (m:=.lst ((Txt.split z y).map .str)) hp ⟨_,aD,yt _⟩,h.2 p (d.fresh hp)⟩
 ·exact Yh h
def v8:o8:=λx ds M Q=>match x,ds with
 |.ref a,[.int i]=>match M a with
  |some (.lst xs)=>(0<=i/\i<1000000)/\aH xs[i.toNat]? λd=>Q d (ad M a (.lst (xs.eraseIdx i.toNat)))
  |_=>False
 |.ref a,[]=>match M a with
  |some (.lst xs)=>aH xs[xs.length-1]? λd=>Q d (ad M a (.lst xs.dropLast))
  |_=>False
 |_,_=>False
def nH:o8:=λx ds M Q=>match x,ds with
 |.ref a,[y]=>aH (aU (M a)) λxs=>(aW y=true/\aT xs=true/\bh xs<=30)/\aH (xs.findIdx? λd=>aP d y) λ(j:Nat)=>Q (.int (j:Int)) M
 |_,_=>False
inductive Mt where
 |append | extend | join | split
 deriving DecidableEq
def A1:Mt->Str
 |.append=>"append"
 |.extend=>"extend"
 |.join=>"join"
 |.split=>"split"
def qb:Mt->Rc
 |.append=>.lst
 |.extend=>.lst
 |.join=>.str
 |.split=>.str
def v9:Mt->o8
 |.append=>eL
 |.extend=>eM
 |.join=>jD
 |.split=>gJ
theorem E5(hu:X.A.units+40<cLine)(m:Mt){l:WE}{t:WA}{v_:Pos}(d:aL X o l)(ha:et X (e::es) t)(hb:fI o=true)(f:ar e=true)(g:es.all ar=true)(hl:es.length<20)(j:(v_.endLine==pos.line)=true):
  aL X (.Call (.Attribute o (A1 m) v_) (e::es) [] pos) (rJ (qb m) (v9 m) l t):=by
 cases m with
 |append=>exact rK (c:=.lst) PySem.F.plainAttrs_list PySem.F.slot_list_append PySem.F.type_list_append AZ d ha hb f g hl j
 |extend=>exact rK (c:=.lst) PySem.F.plainAttrs_list PySem.F.slot_list_extend PySem.F.type_list_extend A0 d ha hb f g hl j
 |join=>exact rK (c:=.str) PySem.F.plainAttrs_str PySem.F.slot_str_join PySem.F.type_str_join E4 d ha hb f g hl j
 |split=>exact rK (c:=.str) PySem.F.plainAttrs_str PySem.F.slot_str_split PySem.F.type_str_split Cv d ha hb f g hl j
end
section
variable {X:Cx}{H:Hp}{e a b c o i v:Expr}{es:Zg}{pos:Pos}
def qc(t:WE):WE:=λσ M Q=>t σ M λx M1=>intD x λi=>Q (.int (-i)) M1
theorem E6{t:WE}(h:aL X a t):aL X (.UnaryOp .USub a pos) (qc t):=by
 intro σ M ρ H Q rs d q;refine bZ (HE Ga (bD a)) ?_;show tW X a ρ H _;refine aJ (h σ M ρ H _ rs d q) λv m f=>?_
 obtain⟨g,x,M1,j,l,q1⟩:=f;obtain⟨i,rfl,q1⟩:=tw q1;exact⟨i,RV.int_.1 j,g,.int (-i),M1,RV.int_.2 rfl,l,q1⟩
def putD(g:Zw)(k:Key)(d:D):List (Key×D):=if(g.any λf=>decide (f.1=k))=true then g.map (λf=>if f.1=k then(f.1,d) else f) else g++[(k,d)]
theorem Cw{g j:Type}{l:List (Key×g)}{m:List (Key×j)}(e:m.map (·.1)=l.map (·.1))(k:Key):(m.any λd=>decide (d.1=k))=l.any λd=>decide (d.1=k):=by
 have f:∀{n:Type}(l:List (Key×n)),(l.any λd=>decide (d.1=k))=(l.map (·.1)).any λq=>decide (q=k):=λl=>by rw[List.any_map];rfl
 rw[f,f,e]
theorem map_put{K:Za}{k:Key}{d:D}{v:V}(r:RV K H d v):∀{l:Zw}{m:List (Key×V)},m.map (·.1)=l.map (·.1)->ag K H (l.map (·.2)) (m.map (·.2)) ->
  ((m.map λf=>if f.1=k then(f.1,v) else f).map (·.1)=(l.map λf=>if f.1=k then(f.1,d) else f).map (·.1))/\ag K H ((l.map λf=>if f.1=k then(f.1,d) else f).map (·.2)) ((m.map λf=>if f.1=k then(f.1,v) else f).map (·.2))
 |[],[],_,_=>⟨rfl,.nil⟩
 |[],_::_,e,_=>by cases e
 |_::_,[],e,_=>by cases e
 |(u,y)::l,(n,A)::m,e,g=>by
  simp only[YK,List.cons.injEq] at e;obtain⟨e1,e2⟩:=e;subst e1;simp only[YK] at g;rw[ag] at g;obtain⟨B,C,z,p,t⟩:=g;cases z;obtain⟨q1,j⟩:=map_put r (k:=k) e2 t;by_cases q:n=k
  ·simp only[YK,if_pos q]
   exact⟨by rw[q1],.cons r j⟩
  ·simp only[YK,if_neg q]
   exact⟨by rw[q1],.cons p j⟩
theorem A2{K:Za}{k:Key}{d:D}{v:V}{l:Zw}{m:List (Key×V)}(r:RV K H d v)(e:m.map (·.1)=l.map (·.1))(f:ag K H (l.map (·.2)) (m.map (·.2))):(putK m k v).map (·.1)=(putD l k d).map (·.1)/\ag K H ((putD l k d).map (·.2)) ((putK m k v).map (·.2)):=by
 unfold putK putD;rw[Cw e k];split
 ·exact map_put r e f
 ·refine⟨by rw[ZK,ZK,e];rfl,?_⟩
  rw[ZK,ZK];exact ag.of (cv f.p (.cons r .nil))
def qe(o i d:D)(M:MH)(Q:MH->Prop):Prop:=match o with
 |.ref a=>match M a with
  |some (.lst xs)=>intD i λk=>aH (iQ xs.length k) λj=>Q (ad M a (.lst (xs.set j d)))
  |some (.dic f)=>aH (gV i) λk=>f.length<sizeLine/\Q (ad M a (.dic (putD f k d)))
  |_=>False
 |_=>False
def pW(X:Cx):yR:=λo i v H Q=>∀a_ s ρ d f u,ac X a_ ρ H s->RelV o d->RelV i f->RelV v u->wpAny 'b' X.A (setItem d f u) (λ_ g=>∃H',ac X a_ ρ H' g/\Q H') X.xe s
theorem JC:BN X (pW X):=λa_ s σ _ _ _ _ d f u _ I g j l h=>h a_ s σ d f u I g j l
theorem E7{o i v:V}{Q d:Hp->Prop}(h:pW X o i v H Q)(g:∀H',Q H'->d H'):pW X o i v H d:=λa_ s ρ f j u I l m n=>aE (h a_ s ρ f j u I l m n) λ_ _ ⟨H',p,q⟩=>⟨H',p,g H' q⟩
theorem Jn(hu:X.A.units+40<cLine){x y d:D}{o i v:V}{M:MH}{Q:MH->Prop}(L:RV X.K H x o)(C:RV X.K H y i)(E:RV X.K H d v)(g:RM X.K M H)(h:qe x y d M Q):pW X o i v H λH'=>Kp H H'/\∃M',RM X.K M' H'/\Q M':=by
 cases x with
 |ref a=>
  cases RV.ref_.1 L;have h:match M a with
   |some (.lst xs)=>intD y λk=>aH (iQ xs.length k) λj=>Q (ad M a (.lst (xs.set j d)))
   |some (.dic l)=>aH (gV y) λk=>l.length<sizeLine/\Q (ad M a (.dic (putD l k d)))
   |_=>False:=h
  split at h
  ·rename_i xs e1
   obtain⟨k,rfl,h⟩:=tw h;obtain⟨j,e2,q⟩:=bd h;cases RV.int_.1 C;obtain⟨us,sq,n⟩:=g _ _ e1;have f:=Kp.put (o':=.lst (us.set j v)) sq trivial;intro a_ s ρ F G u I r t z;exact set_list a_ s ρ H _ _ _ F G u _ I r t z ⟨a,us,k,j,rfl,rfl,sq,by rw[←n.len];exact e2,f,_,g.put (m:=.lst (xs.set j d)) sq trivial ⟨_,aD,ag.of (vx (RV.mono f _ E) j (ag.mono f _ n).p)⟩,q⟩
  ·rename_i l e1
   obtain⟨k,e2,hl,q⟩:=bd h
   have:=tt e2 C
   subst this;obtain⟨B,sq,J,n⟩:=g _ _ e1;have f:=Kp.put (o':=.dK (putK B k v)) sq trivial;obtain⟨N,O⟩:=A2 (k:=k) (RV.mono f _ E) J (ag.mono f _ n);have P:B.length<sizeLine:=by have:=congrArg List.length J;simp only[ZF] at this;omega
   intro a_ s ρ F G u I r t z;cases r;exact Ao 'c' I (.inl ⟨B,k,sq,rfl,P,rfl⟩) t z λS R=>⟨_,R,f,_,g.put (m:=.dic (putD l k d)) sq trivial ⟨_,aD,N,O⟩,q⟩
  ·exact Yh h
 |_=>exact Yh h
theorem Jo{tg:Expr}{n:Nat}{env:Env}(h:dg v=true):swapsWithSole [tg] v n env=pure false:=rn h
def i7(f g j:WE):WS:=λE σ M=>f σ M λd M1=>g σ M1 λx M2=>j σ M2 λy l=>qe x y d l λm=>E.nx σ m
theorem A3{l m n:WE}{p:Pos}(hu:X.A.units+40<cLine)(hv:aL X v l)(B:aL X o m)(hi:aL X i n)(hc:dg v=true)(C:i6 i=true):mL X (.Assign [.Subscript o i p] v pos) (i7 l m n):=by
 intro σ M ρ H E rs F h;refine fg (z0 (bD v) (FS (bD o) (bD i) JC (by intro w;cases i<;>first | rfl | exact absurd (show false=true from C) YH)) (Jo hc) (by cases v<;>rfl) rfl) ?_;show tW X v ρ H _;refine aJ (hv σ M ρ H _ rs F h) λu q G=>?_
 obtain⟨f,d,M1,I,J,q1⟩:=G;show tW X o ρ q _;refine aJ (B σ M1 ρ q _ (rs.mono f) J q1) λZ r K=>?_
 obtain⟨g,x,M2,L,N,O⟩:=K;show tW X i ρ r _;refine aJ (hi σ M2 ρ r _ (rs.mono (f.trans g)) N O) λz H3 P=>?_
 obtain⟨j,y,M3,R,S,T⟩:=P;refine E7 (Jn hu (RV.mono j x L) R (RV.mono (g.trans j) d I) S T) λH4 U=>?_
 obtain⟨t,V,W,Y⟩:=U;exact⟨f.trans (g.trans (j.trans t)),σ,V,rs.mono (f.trans (g.trans (j.trans t))),W,Y⟩
abbrev WP:=DS->MH->(List (D×D)->MH->Prop)->Prop
def wPs:List (WE×WE)->WP
 |[],_,M,Q=>Q [] M
 |(tk,d)::r,σ,M,Q=>tk σ M λx M1=>d σ M1 λy M2=>wPs r σ M2 λps f=>Q ((x,y)::ps) f
inductive yu (X:Cx):List (Option Expr)->List Expr->List (WE×WE)->Prop where
 |nil:yu X [] [] []
 |cons {k v:Expr}{ks:List (Option Expr)}{vs:Zg}{tk tv:WE}{r:List (WE×WE)}:aL X k tk->aL X v tv->yu X ks vs r->yu X (some k::ks) (v::vs) ((tk,tv)::r)
def rL:List (D×D)->Option (List (Key×D))
 |[]=>some []
 |(k,d)::r=>(gV k).bind λq=>(rL r).map ((q,d) :: ·)
def rM(f:Zw)(more:Zw):List (Key×D):=more.foldl (λacc d=>putD acc d.1 d.2) f
theorem uq{K:Za}(pos:Pos):∀{ks:List (Option Expr)}{vs:Zg}{ts:List (WE×WE)},yu X ks vs ts->∃d,Ap X pos ks vs d/\ks.all (·.isSome)=true/\ks.length=vs.length/\∀σ M ρ H (Q:List (D×D)->MH->Prop) (g:List (V×V)->Hp->Prop),RS X.K H σ ρ->RM X.K M H->wPs ts σ M Q ->
   (∀ps H' ds M',Kp H H'->RM X.K M' H'->ag X.K H' (ds.map (·.1)) (ps.map (·.1))->ag X.K H' (ds.map (·.2)) (ps.map (·.2))->ds.length=ks.length->Q ds M'->g ps H')->qS d ρ H g
 |_,_,_,.nil=>⟨[],Ee,rfl,rfl,λσ M ρ H Q g rs j h f=>f [] H [] M (Kp.refl H) j .nil .nil rfl h⟩
 |_,_,_,.cons (k:=k) (v:=v) hk hv q=>by
  obtain⟨d,h1,r,t,u⟩:=uq (K:=K) pos q;refine⟨(tW X k,tW X v)::d,B2 (bD k) (bD v) h1,by rw[XJ,r];rfl,by simp[t],λσ M ρ H Q g rs j h f=>?_⟩;show tW X k ρ H _;refine aJ (hk σ M ρ H _ rs j h) λx p z=>?_
  obtain⟨l,dx,M1,A,B,q1⟩:=z;show tW X v ρ p _;refine aJ (hv σ M1 ρ p _ (rs.mono l) B q1) λy C E=>?_
  obtain⟨m,F,M2,G,I,J⟩:=E;refine u σ M2 ρ C _ _ (rs.mono (l.trans m)) I J λps T ds L n N O P R S=>?_
  exact f _ _ ((dx,F)::ds) L (l.trans (m.trans n)) N (.cons (RV.mono (m.trans n) _ A) O) (.cons (RV.mono n _ G) P) (by simp[R]) S
theorem wb{K:Za}:∀{ds:List (D×D)}{f:Zw}{ps:List (V×V)},rL ds=some f->ag K H (ds.map (·.1)) (ps.map (·.1))->ag K H (ds.map (·.2)) (ps.map (·.2)) ->
  ∃g:List (Key×V),ps=g.map (λm=>(kV m.1,m.2))/\g.map (·.1)=f.map (·.1)/\ag K H (f.map (·.2)) (g.map (·.2))
 |[],f,[],h,_,_=>by cases h;exact⟨[],rfl,rfl,.nil⟩
 |[],_,_::_,_,r,_=>by have:=r.len;simp at this
 |_::_,_,[],_,r,_=>by have:=r.len;simp at this
 |(k,d)::ds,f,(x,y)::ps,h,j,l=>by
  unfold rL at h;cases q1:gV k with
  |none=>rw[q1] at h;cases h
  |some n=>
   cases q2:rL ds with
   |none=>rw[q1,q2] at h;cases h
   |some C=>
    rw[q1,q2] at h;cases h;simp only[YK] at j l;rw[ag] at j l;obtain⟨_,_,p,q,t⟩:=j;obtain⟨_,_,u,z,A⟩:=l;cases p;cases u;obtain⟨g,e1,e2,B⟩:=wb q2 t A
    have:=tt q1 q
    subst this;exact⟨(n,y)::g,by rw[e1];rfl,by simp only[YK,e2],.cons z B⟩
theorem wc{K:Za}:∀{more:Zw}{d:List (Key×V)}{l:Zw}{m:List (Key×V)},d.map (·.1)=more.map (·.1)->ag K H (more.map (·.2)) (d.map (·.2))->m.map (·.1)=l.map (·.1)->ag K H (l.map (·.2)) (m.map (·.2)) ->
  (gC m d).map (·.1)=(rM l more).map (·.1)/\ag K H ((rM l more).map (·.2)) ((gC m d).map (·.2))
 |[],[],_,_,_,_,e,r=>⟨e,r⟩
 |[],_::_,_,_,e,_,_,_=>by cases e
 |_::_,[],_,_,e,_,_,_=>by cases e
 |(A,n)::more,(f,p)::d,l,m,j,g,e,r=>by
  simp only[YK,List.cons.injEq] at j;obtain⟨e1,e2⟩:=j;subst e1;simp only[YK] at g;rw[ag] at g;obtain⟨_,_,z,q,t⟩:=g;cases z;obtain⟨u,y⟩:=A2 (k:=f) q e r
  have:=wc (l:=putD l f n) (m:=putK m f p) e2 t u y
  exact this
def mh(ts:List (WE×WE)):WE:=λσ M Q=>∀p,M p=none->wPs ts σ (ad M p (.dic [])) λds M2=>match M2 p with
 |some (.dic [])=>aH (rL ds) λd=>Q (.ref p) (ad M2 p (.dic (rM [] d)))
 |_=>False
theorem Cy{ks:List (Option Expr)}{vs:Zg}{ts:List (WE×WE)}(h:yu X ks vs ts)(y:ks≠[])(z:ks.length<=15):aL X (.Dict ks vs pos) (mh ts):=by
 intro σ M ρ H Q rs f q;obtain⟨T,h1,A,B,C⟩:=uq (K:=X.K) pos h;refine bZ (Ef h1 A B y z) ?_;intro p hp;have g:=Kp.new (o:=.dK []) hp;refine C σ _ ρ _ _ _ (rs.mono g) (f.new (m:=.dic []) hp ⟨[],aD,rfl,.nil⟩) (q p (f.fresh hp)) λps U ds M2 E j n F V d=>?_
 split at d
 ·rename_i e1
  obtain⟨G,e2,I⟩:=bd d;obtain⟨J,sq,L,W⟩:=j _ _ e1;have:J=[]:=by simpa using L
  subst this;obtain⟨r,t,N,O⟩:=wb e2 n F;have u:=Kp.put (o':=.dK (gC [] r)) sq trivial;obtain⟨P,R⟩:=wc (l:=[]) (m:=[]) N (ag.mono u _ O) rfl .nil;refine⟨sq,r,t,?_,g.trans (E.trans u),.ref p,_,RV.ref_.2 rfl,j.put (m:=.dic (rM [] G)) sq trivial ⟨_,aD,P,R⟩,I⟩;have S:=n.len;rw[ZF,ZF,t,ZF] at S;omega
 ·exact Yh d
end
abbrev rN:=Addr->Str->Prop
theorem o9{K:Za}{H:Hp}{f:Str}:∀{fs:List (Str×D)}{a:List (Str×V)},a.map (·.1)=fs.map (·.1)->ag K H (fs.map (·.2)) (a.map (·.2)) ->
  (fs.lookup f=none->a.lookup f=none)/\∀d,fs.lookup f=some d->∃v,a.lookup f=some v/\RV K H d v
 |[],[],_,_=>⟨λ_=>rfl,λ_ h=>nomatch h⟩
 |[],_::_,e,_=>by cases e
 |_::_,[],e,_=>by cases e
 |(m,n)::fs,(b,c)::a,e,r=>by
  simp only[YK,List.cons.injEq] at e;obtain⟨e1,e2⟩:=e;subst e1;simp only[YK] at r;rw[ag] at r;obtain⟨v,vs,z,g,j⟩:=r;cases z;obtain⟨h1,l⟩:=o9 (f:=f) e2 j;cases q:f==b with
  |true=>simp only[XD,q];exact⟨(λz=>nomatch z),λd z=>by cases z;exact⟨c,rfl,g⟩⟩
  |false=>simp only[XD,q];exact⟨h1,l⟩
def ot(f:Str)(v:D):List (Str×D)->List (Str×D)
 |[]=>[(f,v)]
 |(g,x)::r=>if g=f then(g,v)::r else(g,x)::ot f v r
theorem yv{K:Za}{H:Hp}{f:Str}{d:D}{v:V}(b:RV K H d v):∀{fs:List (Str×D)}{a:List (Str×V)},a.map (·.1)=fs.map (·.1)->ag K H (fs.map (·.2)) (a.map (·.2)) ->
  (cX f v a).map (·.1)=(ot f d fs).map (·.1)/\ag K H ((ot f d fs).map (·.2)) ((cX f v a).map (·.2))
 |[],[],_,_=>⟨rfl,.cons b .nil⟩
 |[],_::_,e,_=>by cases e
 |_::_,[],e,_=>by cases e
 |(m,n)::fs,(g,o)::a,e,r=>by
  simp only[YK,List.cons.injEq] at e;obtain⟨e1,e2⟩:=e;subst e1;simp only[YK] at r;rw[ag] at r;obtain⟨p,vs,z,j,c⟩:=r;cases z;obtain⟨h1,l⟩:=yv (f:=f) b e2 c;unfold cX ot;by_cases q:g=f
  ·rw[if_pos q,if_pos q];exact⟨by simp only[YK,e2],.cons b c⟩
  ·rw[if_neg q,if_neg q];exact⟨by simp only[YK,h1],.cons j l⟩
section
variable {X:Cx}{H:Hp}{e a b c o i v:Expr}{es:Zg}{pos:Pos}
def qf(O P:rN)(x:D)(f:Str)(M:MH)(Q:D->Prop):Prop:=match x with
 |.ref a=>match M a with
  |some (.ins C fs)=>O C f/\aH (fs.lookup f) Q
  |some (.exc C g d)=>(P C f/\g=f)/\Q d
  |_=>False
 |_=>False
def qg(O P:rN)(f:Str)(t:WE):WE:=λσ M Q=>t σ M λx M1=>qf O P x f M1 λd=>Q d M1
theorem E8{O P:rN}{f:Str}{t:WE}(y:∀C f,O C f->jv X.K C/\cB X.K C f)(z:∀C f,P C f->XX.pC X.K C/\cB X.K C f)(h:aL X o t)(hb:fI o=true):aL X (.Attribute o f pos) (qg O P f t):=by
 intro σ M ρ H Q rs L q a_ s I;refine DZ (yr hb) (aE (h σ M ρ H _ rs L q a_ s I) λu s1 N=>?_);obtain⟨v,A,B,E,F,x,M1,G,j,q1⟩:=N;unfold qf at q1;try dsimp only at q1
 split at q1
 ·rename_i a
  split at q1
  ·rename_i C fs e1
   obtain⟨d,e2,l⟩:=bd q1.2;cases RV.ref_.1 G;obtain rfl:u=Value.ref a:=E;obtain⟨dx,U,sq,R,m⟩:=j _ _ e1;obtain⟨n,S,T⟩:=(o9 R m).2 d e2;exact y7 B sq (y C f q1.1).1 (y C f q1.1).2 S λu s2 p r=>⟨n,A,p,r,F,d,M1,T,j,l⟩
  ·rename_i C g d e1
   obtain⟨⟨J,rfl⟩,l⟩:=q1;cases RV.ref_.1 G;obtain rfl:u=Value.ref a:=E;obtain⟨dx,od,n,sq,sd,m⟩:=j _ _ e1;exact XX.En B sq sd (z C _ J).1 (z C _ J).2 (by rw[XD,XB]) λu s2 p r=>⟨n,A,p,r,F,d,M1,m,j,l⟩
  ·exact Yh q1
 ·exact Yh q1
def mi(O:rN)(x:D)(f:Str)(d:D)(M:MH)(Q:MH->Prop):Prop:=match x with
 |.ref a=>match M a with
  |some (.ins C fs)=>(O C f/\fs.length<1000)/\Q (ad M a (.ins C (ot f d fs)))
  |_=>False
 |_=>False
def mj(O:rN)(f:Str)(g j:WE):WS:=λE σ M=>j σ M λd M1=>g σ M1 λx M2=>mi O x f d M2 λl=>E.nx σ l
theorem Cz{O:rN}{f:Str}{t y:WE}{p:Pos}(z:∀C f,O C f->jv X.K C/\cB X.K C f)(G:aL X o t)(hv:aL X v y):mL X (.Assign [.Attribute o f p] v pos) (mj O f t y):=by
 intro σ M ρ H E rs I q;refine fg (Gd (bD o) (bD v) (by cases v<;>rfl)) ?_;show tW X v ρ H _;refine aJ (hv σ M ρ H _ rs I q) λu A J=>?_
 obtain⟨l,d,M1,L,N,q1⟩:=J;show tW X o ρ A _;refine aJ (G σ M1 ρ A _ (rs.mono l) N q1) λV W P=>?_
 obtain⟨n,x,M2,R,B,g⟩:=P;unfold mi at g;dsimp only at g;split at g
 ·rename_i a
  split at g
  ·rename_i C fs e1
   cases RV.ref_.1 R;obtain⟨dx,r,sq,F,S⟩:=B _ _ e1;have j:=Kp.put (o':=.ins C dx (cX f u r)) sq trivial;obtain⟨T,U⟩:=yv (f:=f) (RV.mono (n.trans j) d L) F (ag.mono j _ S);have hl:r.length<1000:=by have:=congrArg List.length F;simp only[ZF] at this;omega
   exact⟨a,C,dx,r,rfl,sq,(z C f g.1.1).1,(z C f g.1.1).2,hl,l.trans (n.trans j),σ,_,rs.mono (l.trans (n.trans j)),B.put (m:=.ins C (ot f d fs)) sq trivial ⟨dx,_,aD,T,U⟩,g.2⟩
  ·exact Yh g
 ·exact Yh g
def kJ(C:Addr)(sp:aI):aI:=λds M Q=>∀x,M x=none->sp (.ref x::ds) (ad M x (.ins C [])) λd M2=>jB d=true/\Q (.ref x) M2
def Iq(P:Zt)(w:World)(K:Za)(mg:Ze)(base:Heap)(k:Nat)(x:Str)(sp:aI):Prop:=
 ∃C f fd ps d,Mk K C f/\mg x=some (.ref C)/\Binds K fd ps []/\dR P w K mg base jw k f fd ps (eU K d)/\sp=kJ C d
theorem CA{k:Nat}{x:Str}{sp:aI}{t:WA}{p:Pos}(F:Iq X.prog X.w X.K X.mg X.base k x sp)(u:bQ (k+1) X.A)(y:Gl X x)(B:(x==("__debug__" : Str))=false)(E:ar e=true)(G:es.all ar=true)(ha:et X (e::es) t):
  aL X (.Call (.Name x p) (e::es) [] pos) (cE sp t):=by
 obtain⟨C,f,fd,ps,Y,M0,hm,hb,I,rfl⟩:=F;intro σ M ρ H Q rs J q;refine bZ (D3 M0 I u y hm hb .nil Dn (j9 (e::es)) B (aX E) (eu G)) ?_;show iT X (e::es) ρ H _;refine cR (ha σ M ρ H _ rs J q) λvs L N=>?_
 obtain⟨O,ds,M1,P,Z,g,q1⟩:=N;intro z dx hz j R;have S:=Kp.new (o:=.own z) j;have l:(aM L dx (.own z)) z=none:=by rw[aG R.symm];exact hz
 have T:=Kp.new (o:=.ins C dx []) l;have n:=S.trans T;rw[ZA];refine⟨.ref z::ds,ad M1 z (.ins C []),_,.cons (RV.ref_.2 rfl) (ag.mono n _ P),(g.newH j).new (m:=.ins C []) l ⟨dx,[],aD,rfl,.nil⟩,q1 z (g.fresh hz),λd M' v H' r U V W=>⟨?_,O.trans (n.trans U),.ref z,M',RV.ref_.2 rfl,W,r.2⟩⟩
 have:=p0 V
 rw[r.1] at this;exact XI this
abbrev GX:=Addr->Str->Option aI
def Dy(P:Zt)(w:World)(K:Za)(mg:Ze)(base:Heap)(k:Nat)(C:Addr)(m:Str)(sp:aI):Prop:=
 ∃f fd ps,jv K C/\IP K C m f/\Binds K fd ps []/\dR P w K mg base jw k f fd ps (eU K sp)
def Ib(X:Cx)(T:GX):Prop:=∀C m sp,T C m=some sp->∃k,Dy X.prog X.w X.K X.mg X.base k C m sp/\bQ k X.A
def ou(x:D)(m:Str)(M:MH)(Q:Addr->Prop):Prop:=match x with
 |.ref a=>match M a with
  |some (.ins C fs)=>fs.lookup m=none/\Q C
  |_=>False
 |_=>False
def rO(T:GX)(m:Str)(d:WE)(t:WA):WE:=λσ M Q=>d σ M λx M1=>ou x m M1 λC=>aH (T C m) λsp=>t σ M1 λds M2=>sp (x::ds) M2 Q
end
end DD
namespace DD
open PySem PyProof.Rows L2
section
variable {K:Type}[DecidableEq K]
def fi(l:List K)(k:K):List K:=if k∈l then l else l++[k]
def aB(ks:List K):List K:=ks.foldl fi []
theorem rP(ks:List K)(k:K):aB (ks++[k])=fi (aB ks) k:=by unfold aB;rw[List.foldl_append];rfl
theorem wd(l:List K)(k:K):(fi l k).length=if decide (k∈l) then l.length else l.length+1:=by
 unfold fi;by_cases h:k∈l
 ·rw[if_pos h,if_pos (YT h)]
 ·rw[if_neg h,if_neg (by simpa using h)];simp
theorem CC(l:List K)(k j:K):decide (j∈fi l k)=(decide (j∈l)||decide (j=k)):=by
 unfold fi;by_cases h:k∈l
 ·rw[if_pos h]
  by_cases e:j=k
  ·subst e;simp[h]
  ·simp[e]
 ·rw[if_neg h];simp
theorem mM:∀(ks l:List K),(ks.foldl fi l).length<=l.length+ks.length
 |[],l=>by simp
 |k::ks,l=>by
  have h1:=mM ks (fi l k);have a:(fi l k).length<=l.length+1:=by rw[wd];split<;>omega
  simp only[List.foldl_cons,YI];omega
theorem qh(ks:List K):(aB ks).length<=ks.length:=by have:=mM ks [];simpa [aB] using this
end
section
variable {prog:Zt}{w:World}{A:Around}{R:Result->Shared->Prop}{K:Type}[DecidableEq K]{knd:KeyKind prog w K}
theorem we{h:Heap}{a:Addr}{S S':K->Bool}{n n':Nat}(q:h.SetOf knd a S n)(e:∀k,S k=S' k)(b:n=n'):h.SetOf knd a S' n':=by
 obtain rfl:S=S':=funext e;subst b;exact q
theorem rQ{h h':Heap}{a:Addr}{S:K->Bool}{n:Nat}(q:h.SetOf knd a S n)(k:∀o,h.get? a=some o->h'.get? a=some o):h'.SetOf knd a S n:=by
 obtain⟨o,es,b,t,y,r⟩:=q;exact⟨o,es,b,t,k o y,r⟩
theorem CD{I:Addr}{fp a:Zh}{G:Array GenState->Array GenState->Prop}{n:Nat}{P:Nat->Value->Prop}{St:Nat->Shared->Prop}(W:WalksS prog w A.in1 I fp a G n P St){B:Addr}(g:B∉fp){ks:List K}
  (hn:ks.length=n) (hv:∀i v,P i v->∀k,ks[i]?=some k->knd.is k v=true/\v.scannable=true) (hb:n+1<scanBound):
  ∀(j i:Nat) (t:Shared),n-i=j->i<=n->St i t->t.heap.SetOf knd B (λk=>decide (k∈aB (ks.take i))) (aB (ks.take i)).length ->
   (∀t',Moved (B::a) G t t'->t'.heap.SetOf knd B (λk=>decide (k∈aB ks)) (aB ks).length->R (.ok (.ret .none)) t') ->
   codeAny 'f' A (.builtin "set.update.loop" ⟨[.ref B,.ref I],[]⟩) R t:=by
 have hw:B∉a:=λh=>g (W.sub _ h)
 have up:∀b∈a,b∈B::a:=λb y=>.tail _ y
 intro j;induction j with
 |zero=>
  intro i t e hi st q f;obtain rfl:i=n:=by omega
  refine codeAny_builtin F.entry_set_update_loop ?_;rw[Around.under_plainId F.plain_set_update_loop _];refine Yb (show wpAny _ A.in1 (pyNext (.ref I)) _ _ t from W.done t _ _ st λt' c=>?_);refine show wpAny _ A.in1 (ret Value.none) _ _ t' from Yc (f t' (c.mono up) ?_);rw[List.take_of_length_le (Nat.le_of_eq hn)] at q;exact rQ q λo y=>c.heap B _ hw y
 |succ j m=>
  intro i t e hi st q f;have lt:i<n:=by omega
  refine codeAny_builtin F.entry_set_update_loop ?_;rw[Around.under_plainId F.plain_set_update_loop _];refine Yb (show wpAny _ A.in1 (pyNext (.ref I)) _ _ t from W.item i t _ _ lt st λv t' p r c=>?_);obtain⟨k,hk⟩:∃k,ks[i]?=some k:=⟨_,ZD 'c'⟩;obtain⟨is,sc⟩:=hv i v p k hk;have u:=rQ (h':=t'.heap) q λo y=>c.heap B _ hw y
  refine Yb (show wpAny _ A.in1 (holding [v] (setAdd B v)) _ _ t' from Yj ?_);unfold setAdd;refine Yj (Yb (knd.pyHash is ?_));have d:(aB (ks.take i)).length+1<scanBound:=by have:=qh (ks.take i);rw[YQ] at this;omega
  have tk:ks.take (i+1)=ks.take i++[k]:=by rw[List.take_add_one,hk];rfl
  refine wpAny_setAddHashed_of (knd:=knd) (s:={ t' with toks:=t'.toks+1 }) is sc u d λh' l C=>?_
  have E:=we (S':=λk'=>decide (k'∈aB (ks.take (i+1)))) (n':=(aB (ks.take (i+1))).length) C (λk'=>by rw[tk,rP,CC]) (by rw[tk,rP,wd]);refine Yc ⟨plainId_quiet F.plain_set_update_loop _,m (i+1) _ 'c' lt (W.frame _ t' _ _ r (Nat.le_succ _) λb y o e=>?_) E λJ L N=>?_⟩
  ·rw[l.2 b (λz:b=B=>g (z▸y))];exact e
  ·refine f J (Moved.trans W.gtrans ((c.mono up).then_heap (Nat.le_succ _) λb o y e=>?_) L) N
   rw[l.2 b (λz:b=B=>y (z▸ZW))];exact e
end
end DD
set_option maxHeartbeats 8000000
namespace DD
open PySem PyProof.Rows L2
section
variable {prog:Zt}{w:World}{A:Around}{Z:Zb}{s:Shared}{K:Type}[DecidableEq K]{knd:KeyKind prog w K}
def dA(led:Bool):Obj:={ cls:=.type "set",dict:=none,data:=.set #[] 0 (.fresh 0 0 led) }
theorem ur{T I:String}{l:Addr}{a:Zl}{ks:List K}{Q:Zb}{od:Zm}{m:Nat}{x_:Zn}(G:A.handled=none)(p:s.heap.get? l=some { cls:=.type T,dict:=od,data:=.seq a m,slots:=x_ })(s1:isSubtype (.type T) (.type "set")=pure false)(s2:isSubtype (.type T) (.type "frozenset")=pure false)(s3:(Value.type T==Value.type "dict")=false)
  (L:∀{A:Around} {E:Zb} {t:Shared} {Q:Zb},t.heap.get? l=some { cls:=.type T,dict:=od,data:=.seq a m,slots:=x_ }->Q (.ref t.heap.objs.size) { t with heap:=t.heap.push { cls:=.type I,data:=.fields #[.ref l,.int 0 0] } }->wpAny 'f' A (pyIter (.ref l)) Q E t)
  (N:∀J,l≠J->∃St:Nat->Heap->Prop,(∀{A:Around},A.handled=none->Walks prog w A J [J,l] [J] a.size (λi v=>a[i]?=some v) St)/\∀h:Heap,h.get? J=some { cls:=.type I,data:=.fields #[.ref l,.int 0 0] }->h.get? l=some { cls:=.type T,dict:=od,data:=.seq a m,slots:=x_ }->St 0 h)
  (hn:ks.length=a.size)
  (hv:∀(i:Nat) (v:Value),a[i]?=some v->∀k,ks[i]?=some k->knd.is k v=true/\v.scannable=true) (hb:a.size+1<scanBound)
  (q:∀(h':Heap) (tk:Nat),h'.SetOf knd s.heap.objs.size (λk=>decide (k∈aB ks)) (aB ks).length ->
   (∀b o,b<s.heap.objs.size->s.heap.get? b=some o->h'.get? b=some o)->Q (.ref s.heap.objs.size) { s with heap:=h',toks:=tk }):
  wpAny 'f' A (call (.type "set") [.ref l]) Q Z s:=by
 obtain⟨c,tl,OD⟩:=F.called_set.mro;have K7:=F.called_set.made;have OE:=F.called_set.sub;have n1:=F.called_set.notType;have n2:=F.called_set.canCreate;have n3:=F.typeCall_set_1 (.ref l);refine wpAny_call (codeAny_of_tree (show wpAny _ _ (callAny (.type "set") _) _ _ _ from Yc ⟨Code.quiet_builtin _ (by rfl'),codeAny_builtin F.entry_type_call ?_⟩));rw[Around.under_plain (weight_type_call_type "set" [.ref l] []) rfl];repeat (any_goals (first | assumption | wp_step))
 refine codeAny_mono (code_set_new_1 (.ref l) (E:=Z) (Q₁:=λo t=>∃led:Bool,o=.ref s.heap.objs.size/\t={ s with heap:=s.heap.push (dA led) }) λled=>⟨led,rfl,rfl⟩) λr t f=>?_
 cases r with
 |error e=>exact f
 |ok O=>
  cases O with
  |ret o=>
   obtain⟨led,rfl,rfl⟩:=f;have u:(s.heap.push (dA led)).get? s.heap.objs.size=some (dA led):=Yg _ rfl;have ty:Shared.TypeIs { s with heap:=s.heap.push (dA led) } (.ref s.heap.objs.size) "set":=⟨_,u,rfl⟩;have l1:=F.called_set.init.lookup;have l2:=F.called_set.init.bind (.ref s.heap.objs.size);repeat (any_goals (first | assumption | wp_step))
   refine codeAny_mono (codeAny_call_builtin (R:=wants (λr z=>r=.none/\∃h' tk,z={ s with heap:=h',toks:=tk }/\h'.SetOf knd s.heap.objs.size (λk=>decide (k∈aB ks)) (aB ks).length /\
     (∀b o,b<s.heap.objs.size->s.heap.get? b=some o->h'.get? b=some o)) Z) F.called_set.init.plain F.entry_set_init (check_set_init_1 ty ?_)) λP z g=>?_
   ·have B:(s.heap.push (dA led)).get? l=some { cls:=.type T,dict:=od,data:=.seq a m,slots:=x_ }:=Yd _ p
    unfold Builtin.«set.__init__» noKeywords Builtin.Frozenset.updateFrom;generalize hPI:pyIter=PI;wp_walk;subst hPI;refine L B (Yb (wpAny_runValue ?_));have j:(s.heap.push (dA led)).objs.size=s.heap.objs.size+1:=Heap.size_push ..;have C:l<s.heap.objs.size:=Ye p;have S:l≠(s.heap.push (dA led)).objs.size:=by rw[j];exact ZS (Nat.lt_succ_of_lt C)
    have U:s.heap.objs.size∉[(s.heap.push (dA led)).objs.size,l]:=by
     rw[j];intro y;rcases ZY.1 y with y | y
     ·exact absurd y (ZS (Nat.lt_succ_self _))
     ·exact absurd (XG.1 y) (Nat.ne_of_gt C)
    obtain⟨St,W,V⟩:=N _ S;refine CD ((W (by simp[G])).toS) (knd:=knd) (ks:=ks) U hn hv hb (a.size-0) 0 _ 'c' (YL _) (V _ (Yg _ rfl) (Yd _ B)) ?_ ?_
    ·have:=(setObjOf_fresh (knd:=knd) led).setOf (Yd ({ cls:=.type I,data:=.fields #[.ref l,.int 0 0] }:Obj) u) (by unfold scanBound;omega)
     exact we this (λk=>by simp[aB]) (by simp[aB])
    ·intro t' d n
     obtain⟨h',g',d',Y,NR⟩:=t';obtain rfl:g'=s.gens:=d.gens;obtain rfl:d'=s.drawn:=d.drawn;obtain rfl:NR=s.os:=d.os;refine Yc (show wpAny _ _ (ret Value.none) _ _ _ from Yc ⟨rfl,h',Y,rfl,n,λb o lt e=>d.heap b o ?_ (Yd _ (Yd _ e))⟩);rw[j];intro y;rcases ZY.1 y with y | y
     ·exact ZS lt y
     ·exact ZS (Nat.lt_succ_of_lt lt) (XG.1 y)
   ·cases P with
    |error e=>exact g
    |ok OF=>
     cases OF with
     |ret r=>
      obtain⟨rfl,h',tk,rfl,n,k'⟩:=g;repeat (any_goals (first | assumption | wp_step))
      exact q _ _ n k'
     |_=>exact g.elim
  |_=>exact f.elim
theorem ut{l:Addr}{c:Zl}{ks:List K}{Q:Zb}(d:A.handled=none)(hl:s.heap.IsList l c)(hn:ks.length=c.size)
  (hv:∀(i:Nat) (v:Value),c[i]?=some v->∀k,ks[i]?=some k->knd.is k v=true/\v.scannable=true) (hb:c.size+1<scanBound)
  (q:∀(h':Heap) (tk:Nat),h'.SetOf knd s.heap.objs.size (λk=>decide (k∈aB ks)) (aB ks).length ->
   (∀b o,b<s.heap.objs.size->s.heap.get? b=some o->h'.get? b=some o)->Q (.ref s.heap.objs.size) { s with heap:=h',toks:=tk }):
  wpAny 'f' A (call (.type "set") [.ref l]) Q Z s:=by
 obtain⟨⟨oc,od,f,x_⟩,j,n,m,p⟩:=hl;obtain rfl:oc=.type "list":=n;obtain rfl:f=.seq c m:=p;exact ur (I:="list_iterator") d j F.sub_list_set F.sub_list_frozenset 'a' (λg=>wpAny_pyIter_list ⟨_,g,rfl,_,rfl⟩) (λJ r=>⟨_,λh=>Walks.list h J l r c,λh' a b=>⟨⟨_,a,rfl,rfl⟩,⟨_,b,rfl,_,rfl⟩⟩⟩) hn hv hb q
theorem zv{l:Addr}{c:Zl}{ks:List K}{Q:Zb}(d:A.handled=none)(hl:s.heap.IsTuple l c)(hn:ks.length=c.size)
  (hv:∀(i:Nat) (v:Value),c[i]?=some v->∀k,ks[i]?=some k->knd.is k v=true/\v.scannable=true) (hb:c.size+1<scanBound)
  (q:∀(h':Heap) (tk:Nat),h'.SetOf knd s.heap.objs.size (λk=>decide (k∈aB ks)) (aB ks).length ->
   (∀b o,b<s.heap.objs.size->s.heap.get? b=some o->h'.get? b=some o)->Q (.ref s.heap.objs.size) { s with heap:=h',toks:=tk }):
  wpAny 'f' A (call (.type "set") [.ref l]) Q Z s:=by
 obtain⟨⟨oc,od,f,x_⟩,j,n,m,p⟩:=hl;obtain rfl:oc=.type "tuple":=n;obtain rfl:f=.seq c m:=p;exact ur (I:="tuple_iterator") d j F.sub_tuple_set F.sub_tuple_frozenset 'a' (λg=>wpAny_pyIter_tuple ⟨_,g,rfl,_,rfl⟩) (λJ r=>⟨_,λh=>Walks.tuple h J l r c,λh' a b=>⟨⟨_,a,rfl,rfl⟩,⟨_,b,rfl,_,rfl⟩⟩⟩) hn hv hb q
end
end DD
namespace DD
open PySem PySem.Spec PyProof.Rows L2
def dX:List D->Option (List Str)
 |[]=>some []
 |.str x::r=>(dX r).map (x :: ·)
 |_=>none
def ow:List D->Option (List Int)
 |[]=>some []
 |.int x::r=>(ow r).map (x :: ·)
 |_=>none
theorem qi{K:Za}{H:Hp}:∀{ds:List D}{ks:Zf}{vs:List V},dX ds=some ks->ag K H ds vs->vs=ks.map V.str
 |[],ks,vs,h,r=>by
  rw[dX] at h;cases h;rw[ag] at r;subst r;rfl
 |.str x::ds,ks,vs,h,r=>by
  rw[dX] at h;rw[ag] at r;obtain⟨v,c,rfl,a,b⟩:=r;cases q:dX ds with
  |none=>rw[q] at h;cases h
  |some d=>
   rw[q] at h;cases h;rw[qi q b,RV.str_.1 a];rfl
 |.non::_,_,_,h,_=>by cases h
 |.bl _::_,_,_,h,_=>by cases h
 |.int _::_,_,_,h,_=>by cases h
 |.tup _::_,_,_,h,_=>by cases h
 |.ref _::_,_,_,h,_=>by cases h
 |.ty _::_,_,_,h,_=>by cases h
theorem wf{K:Za}{H:Hp}:∀{ds:List D}{ks:Zi}{vs:List V},ow ds=some ks->ag K H ds vs->vs=ks.map V.int
 |[],ks,vs,h,r=>by
  rw[ow] at h;cases h;rw[ag] at r;subst r;rfl
 |.int x::ds,ks,vs,h,r=>by
  rw[ow] at h;rw[ag] at r;obtain⟨v,c,rfl,a,b⟩:=r;cases q:ow ds with
  |none=>rw[q] at h;cases h
  |some d=>
   rw[q] at h;cases h;rw[wf q b,RV.int_.1 a];rfl
 |.non::_,_,_,h,_=>by cases h
 |.bl _::_,_,_,h,_=>by cases h
 |.str _::_,_,_,h,_=>by cases h
 |.tup _::_,_,_,h,_=>by cases h
 |.ref _::_,_,_,h,_=>by cases h
 |.ty _::_,_,_,h,_=>by cases h
def iB(xs:List D)(Q:Int->Prop):Prop:=xs.length<4000/\match dX xs with
 |some ks=>Q ((aB ks).length:Nat)
 |none=>match ow xs with
  |some ks=>Q ((aB ks).length:Nat)
  |none=>False
def i8(d:D)(M:MH)(Q:List D->Prop):Prop:=match d with
 |.ref a=>match M a with
  |some (.lst xs)=>Q xs
  |some (.rol xs)=>Q xs
  |_=>False
 |_=>False
def CF(d:D)(M:MH)(Q:List D->Prop):Prop:=match d with
 |.tup xs=>Q xs
 |d=>i8 d M Q
def fJ(t:WE):WE:=λσ M Q=>t σ M λd M1=>CF d M1 λxs=>iB xs λn=>Q (.int n) M1
section
variable {X:Cx}{H:Hp}{pos:Pos}
theorem yw{K:Za}{d:D}{M:MH}{Q:List D->Prop}{v:V}(q:i8 d M Q)(c:RV K H d v)(f:RM K M H):∃a xs vs,v=.ref a/\bw K H a vs/\ag K H xs vs/\Q xs:=by
 unfold i8 at q;split at q
 ·rename_i a
  split at q
  ·rename_i xs e
   obtain⟨ys,e1,b⟩:=f a _ e;exact⟨a,xs,ys,RV.ref_.1 c,bw.of e1,b,q⟩
  ·rename_i xs e
   obtain⟨ys,e1,b⟩:=f a _ e;exact⟨a,xs,ys,RV.ref_.1 c,.inl e1,b,q⟩
  ·exact Yh q
 ·exact Yh q
theorem A4{a_:Zc}{ρ:L2.St}{s:Shared}{a:Addr}{xs:List D}{vs:List V}{Q:Int->Prop}{Z:Zb}{R:Zb}(hc:X.calm=true)(I:ac X a_ ρ H s)(hq:bw X.K H a vs\/bG X.K H a vs)(d:ag X.K H xs vs)(q:iB xs Q)
  (g:∀n tk h' m,Q n->ac X a_ ρ H { s with heap:=h',toks:=m }->R (.int n tk) { s with heap:=h',toks:=m }):
  wpAny 'b' X.A (call (.type "set") [.ref a]) (λu s1=>wpAny 'b' X.A (call (.builtin "len") [u]) R Z s1) Z s:=by
 have ht:∃b_,am vs b_/\(s.heap.IsList a b_.toArray\/s.heap.IsTuple a b_.toArray):=by
  rcases hq with hq | hq
  ·obtain⟨b_,c,p,_⟩:=I.list hq
   exact⟨b_,c,.inl p.isList⟩
  ·obtain⟨b_,c,p,_⟩:=I.tuple hq
   exact⟨b_,c,.inr p⟩
 obtain⟨b_,c,p⟩:=ht;have P:xs.length=b_.length:=by rw[d.len,c.length]
 have r:∀{K:Type}[DecidableEq K] {knd:KeyKind X.prog X.w K}{ks:List K}{f:Zb},ks.length=b_.toArray.size->(∀(i:Nat) (v:Value),b_.toArray[i]?=some v->∀k,ks[i]?=some k->knd.is k v=true/\v.scannable=true)->b_.toArray.size+1<scanBound ->
   (∀(h':Heap) (tk:Nat),h'.SetOf knd s.heap.objs.size (λk=>decide (k∈aB ks)) (aB ks).length->(∀b o,b<s.heap.objs.size->s.heap.get? b=some o->h'.get? b=some o)->f (.ref s.heap.objs.size) { s with heap:=h',toks:=tk }) ->
   wpAny 'b' X.A (call (.type "set") [.ref a]) f Z s:=by
  intro K _ knd ks f y z B C;rcases p with p | p
  ·exact ut (I.ok.hd hc) p y z B C
  ·exact zv (I.ok.hd hc) p y z B C
 unfold iB at q;obtain⟨hl,q⟩:=q;have fin:∀{K:Type}[DecidableEq K] {knd:KeyKind X.prog X.w K}{ks:List K}(h':Heap) (tk:Nat),h'.SetOf knd s.heap.objs.size (λk=>decide (k∈aB ks)) (aB ks).length->Q ((aB ks).length:Nat) ->
   (∀b o,b<s.heap.objs.size->s.heap.get? b=some o->h'.get? b=some o)->wpAny 'b' X.A (call (.builtin "len") [.ref s.heap.objs.size]) R Z { s with heap:=h',toks:=tk }:=by
  intro K _ knd ks h' tk st E kp;obtain⟨o,es,S,t,F,G,J,_,_,L,N,O⟩:=st;rw[←O] at E;refine call_len_set (s:={ s with heap:=h',toks:=tk }) F G J N (by unfold scanBound at L;omega) ?_;exact g _ _ h' (tk+1+1) E (I.kept (t':=tk+1+1) λb o e=>kp b o (Ye e) e)
 split at q
 ·rename_i ks e
  obtain rfl:=qi e d;have j:ks.length=b_.length:=by have:=c.length;simpa using this
  refine r (knd:=strKind X.prog X.w) (ks:=ks) (by simpa using j) (λi v hv k hk=>?_) (by unfold scanBound;simp;omega) λh' tk st kp=>fin h' tk st q kp
  obtain⟨u,h1,l⟩:=c.get (i:=i) (x:=.str k) (by simp[hk]);have:v=u:=by simp at hv;rw[hv] at h1;cases h1;rfl
  subst this;obtain⟨t,rfl⟩:∃t,v=Value.str k t:=l;exact⟨strKind_is _ _ _ _,rfl⟩
 ·split at q
  ·rename_i ks e
   obtain rfl:=wf e d;have j:ks.length=b_.length:=by have:=c.length;simpa using this
   refine r (knd:=intKind X.prog X.w) (ks:=ks) (by simpa using j) (λi v hv k hk=>?_) (by unfold scanBound;simp;omega) λh' tk st kp=>fin h' tk st q kp
   obtain⟨u,h1,l⟩:=c.get (i:=i) (x:=.int k) (by simp[hk]);have:v=u:=by simp at hv;rw[hv] at h1;cases h1;rfl
   subst this;obtain⟨t,rfl⟩:∃t,v=Value.int k t:=l;exact⟨intKind_is _ _ _ _,rfl⟩
  ·exact Yh q
theorem zw{l:Expr}{t:WE}{p o r:Pos}(hc:X.calm=true)(z:Gl X "len")(hm:X.mg "len" = none)(A:Gl X "set")(B:X.mg "set" = none)(h:aL X l t)(g:ar l=true):aL X (.Call (.Name "len" p) [.Call (.Name "set" o) [l] [] r] [] pos) (fJ t):=by
 intro σ M ρ H Q rs C q a_ s I;refine Call_ (dc I z hm PySem.boot_len (callWith_builtin1 (args_cons (Call_ (dc I A B (by rfl':bootBuiltins "set" = some (.type "set")) (PyProof.Rows.callWith_type1 (args_cons (aE (h σ M ρ H _ rs C q a_ s I) λu s1 E=>?_) (aX g)) (aX g) rfl))))));obtain⟨v,c,F,G,⟨J,d,M1,j,m,q1⟩⟩:=E;have L:∃a xs vs,v=.ref a/\(bw X.K c a vs\/bG X.K c a vs)/\ag X.K c xs vs/\iB xs λn=>Q (.int n) M1:=by
  unfold CF at q1;dsimp only at q1;split at q1
  ·obtain⟨a,vs,rfl,sq,b⟩:=RV.tup_.1 j
   exact⟨a,_,vs,rfl,.inr sq,b,q1⟩
  ·obtain⟨a,xs,vs,rfl,sq,b,f⟩:=yw q1 j m
   exact⟨a,xs,vs,rfl,.inl sq,b,f⟩
 obtain⟨a,xs,vs,rfl,sq,b,f⟩:=L;cases G;refine args_nil ?_
 have:=A4 (X:=X) (R:=λw t=>EP X a_ ρ (lift X.K H Q) w t) (Z:=X.xe) hc F sq b f λn tk h' P N O=>⟨.int n,c,O,⟨_,rfl⟩,J,.int n,M1,RV.int_.2 rfl,m,N⟩
 exact wpAny_mono this (λu t y=>args_nil y) λ_ _ y=>y
end
end DD
namespace SD
open PySem PySem.Spec PyProof.Rows
theorem rR{b:Type}:∀{l:List b}{i:Nat}(h:i<l.length),(l[i]::l.eraseIdx i).Perm l
 |a::l,0,_=>.refl _
 |a::l,i+1,h=>(List.Perm.swap _ _ _).trans ((rR (l:=l) (i:=i) (by simpa using h)).cons a)
theorem yx{b:Type}(next:Nat->Nat):∀(n k:Nat) (left:List b) (a:Array b),left.length=n->(pickOrder.go next n k left a).toList.Perm (a.toList++left)
 |0,k,left,a,h=>by
  have:left=[]:=List.length_eq_zero_iff.1 h
  subst this;rw[ZA];exact .refl _
 |n+1,k,left,a,h=>by
  have hp:next k%left.length<left.length:=Nat.mod_lt _ 'c'
  unfold pickOrder.go;rw[ZD hp];dsimp only;refine(yx next n (k+1) _ _ (by rw[List.length_eraseIdx,if_pos hp];omega)).trans ?_;rw[Array.toList_push,ZB];refine List.Perm.append_left _ ?_;exact rR hp
theorem A5{a:Type}(next:Nat->Nat)(xs:Array a):(pickOrder next xs).toList.Perm xs.toList:=by
 exact yx next xs.size 0 xs.toList #[] (by simp)
section
variable {prog:Zt}{w:World}{A:Around}{E:Zb}{s:Shared}{K:Type}[DecidableEq K]{knd:KeyKind prog w K}
theorem sub_set_set:isSubtype (.type "set") (.type "set")=pure true:=by rw[isSubtype_type];kernel_rfl
theorem kK{a:Addr}{Q:Bool->Shared->Prop}(b:s.TypeIs (.ref a) "set")(h:Q true s):wpAny 'f' A (Builtin.Frozenset.isAnySet (.ref a)) Q E s:=by
 unfold Builtin.Frozenset.isAnySet;refine Yb (wpAny_isInstance b sub_set_set ?_);exact Yc h
theorem wg{a:Addr}{Q:Zb}(b:s.TypeIs (.ref a) "set")(h:Q (.type "set") s):wpAny 'f' A (Builtin.Frozenset.baseOf a) Q E s:=by
 unfold Builtin.Frozenset.baseOf;refine Yb (wpAny_isInstance b sub_set_set ?_);exact Yc h
theorem fK{a:Addr}{S:K->Bool}{n:Nat}{Q:Nat->Shared->Prop}(b:s.heap.SetOf knd a S n)(h:Q n s):wpAny 'f' A (Builtin.Frozenset.sizeOf a) Q E s:=by
 obtain⟨o,es,g,t,c,d,hd,j,l,hb,f,hn⟩:=b;unfold Builtin.Frozenset.sizeOf;exact Yb (wpAny_setEntries_of c hd f (Yc (by rw[hn];exact h)))
theorem zx(l:Zh){Q:Bool->Shared->Prop}(hl:∀a∈l,∃(S:K->Bool) (n:Nat),s.heap.SetOf knd a S n)(h:Q true s):wpAny 'f' A (setsQuiet l) Q E s:=by
 unfold setsQuiet;refine Yb (wpAny_forIn_list _ (λf b d=>d=s/\b.1=none/\∀a∈f,a∈l) _ ?_ ?_ l _ ⟨rfl,rfl,λ_ z=>z⟩)
 ·rintro a rest b d ⟨rfl,hb,hm⟩
  obtain⟨S,n,o,es,y,t,j,m,hd,p,B,C,q,hn⟩:=hl a (hm a (.head _));refine Yb (wpAny_setEntries_of j hd q ?_);refine Yb (PySem.MeetsSeq2.wpAny_forIn_array _ (λf b s2=>s2=d/\b.1=none/\∀e∈f,e∈es.toList) _ ?_ ?_ es _ ⟨rfl,rfl,λ_ z=>z⟩)
  ·rintro⟨hh,x⟩ rest2 r s2 ⟨rfl,g,Lw⟩
   have sc:x.scannable=true:=(p _ (Lw _ (.head _))).2;dsimp only;cases x<;>first
    |exact Yc ⟨rfl,rfl,λe u=>Lw e (.tail _ u)⟩
    |cases sc
  ·rintro r s2 ⟨rfl,g,_⟩
   dsimp only;rw[g];exact Yc ⟨rfl,rfl,λc hc=>hm c (.tail _ hc)⟩
 ·rintro b d ⟨rfl,hb,_⟩
  dsimp only;rw[hb];exact Yc h
theorem CG{a f:Addr}{d:Zh}{y:K->Bool}{z:Nat}{o:Obj}{es:Array (Int×Value)}{J:Nat}{t:SetTable}{Q:Array (Int×Value)->Shared->Prop}(B:s.heap.get? a=some o)(hd:o.data=.set es J t)(C:t.fits es.size=true)
  (hl:∀b∈a::d,∃(S:K->Bool) (n:Nat),s.heap.SetOf knd b S n) (F:s.heap.SetOf knd f y z)
  (h:∀g h',g.toList.Perm es.toList->Heap.SameBut f s.heap h'->h'.SetOf knd f y z->Q g { s with heap:=h' }):wpAny 'f' A (setWalkUnseen a d (some f)) Q E s:=by
 have keep:∀g:Array (Int×Value),g.toList.Perm es.toList->Q g s:=λg p=>by
  have:=h g s.heap p (Heap.SameBut.refl f s.heap) F
  cases s;exact this
 unfold setWalkUnseen;refine Yb (wpAny_setState_of B hd C ?_);dsimp only;unfold setsByText;refine Yb (Yb (wpAny_askSetting (Yc ?_)));split
 ·rename_i c
  unfold setWalk setsByText;refine Yb (wpAny_setState_of B hd C ?_);dsimp only;refine Yb (Yb (wpAny_askSetting (Yc ?_)));split
  ·refine Yb (wpAny_askSetting (Yc (keep _ (A5 _ _))))
  ·rename_i L
   have c':(t.led=true/\t.plain=true)\/es.size<=1:=by
    simp only[Bool.or_eq_true,YU,XM] at c;rcases c with(c | c) | c
    ·exact absurd c L
    ·exact .inl c
    ·exact .inr c
   split
   ·rename_i N
    have m:(!t.plain&&decide (es.size>1))=true:=N;rw[YU,XO,XM] at m;rcases c' with c' | c'
    ·rw[c'.2] at m;cases m.1
    ·omega
   ·refine Yb (?_:wpAny 'f' A (if(!t.led&&decide (es.size>1))=true then unsupported "set:maker-not-led" else pure ()) _ E s)
    rw[if_neg (by
     rw[YU,XO,XM];rintro⟨q1,q2⟩;rcases c' with c' | c'
     ·rw[c'.1] at q1;cases q1
     ·omega)]
    exact Yc (Yc (keep es (.refl _)))
 ·refine Yb (zx (knd:=knd) _ hl ?_)
  simp only[Bool.not_true,XC,if_false];refine Yb (wpAny_rule ?_);obtain⟨T,U,V,l,r,j,u,O,P,G,I,R⟩:=F;refine Yb (wpAny_setState_of r u I ?_);dsimp only;split
  ·refine Yb (wpAny_storeSet_of r u ?_ (fits_of_scanBound G))
   obtain⟨_,q⟩:=SetOf_store (knd:=knd) (t':={ l with led:=l.led&&t.led,plain:=l.plain&&t.plain }) r j u O P G (by cases l;exact I);rw[R] at q;exact Yc (h es _ (.refl _) (Heap.SameBut.update _ _ _) q)
  ·exact Yc (keep es (.refl _))
end
section
variable {prog:Zt}{w:World}{A:Around}{E:Zb}{s:Shared}{K:Type}[DecidableEq K]{knd:KeyKind prog w K}
def Ks(knd:KeyKind prog w K):List K->List (Int×Value)->Prop
 |[],[]=>True
 |k::ks,e::es=>(knd.is k e.2=true/\e.1=knd.hash k/\e.2.scannable=true)/\Ks knd ks es
 |_,_=>False
theorem yy:∀{es:List (Int×Value)},ElemsOf knd es->∃ks,Ks knd ks es
 |[],_=>⟨[],trivial⟩
 |e::es,h=>by
  obtain⟨ks,hk⟩:=yy h.tail;obtain⟨⟨k,h1,a⟩,b⟩:=h.head;exact⟨k::ks,⟨h1,a,b⟩,hk⟩
theorem Ks.len:∀{ks:List K}{es:List (Int×Value)},Ks knd ks es->ks.length=es.length
 |[],[],_=>rfl
 |_::_,_::_,h=>by rw[YI,YI,Ks.len h.2]
 |[],_::_,h=>h.elim
 |_::_,[],h=>h.elim
theorem Ks.mem:∀{ks:List K}{es:List (Int×Value)},Ks knd ks es->∀k,k∈ks ↔ ∃e∈es,knd.is k e.2=true
 |[],[],_,k=>by simp
 |j::ks,e::es,h,k=>by
  have a:=Ks.mem h.2 k;rw[ZY,a];constructor
  ·rintro(rfl | ⟨e',h1,h2⟩)
   ·exact⟨e,.head _,h.1.1⟩
   ·exact⟨e',.tail _ h1,h2⟩
  ·rintro⟨e',h1,h2⟩
   rcases ZY.1 h1 with rfl | h1
   ·exact .inl (knd.inj _ _ _ h2 h.1.1)
   ·exact .inr ⟨e',h1,h2⟩
 |[],_::_,h,_=>h.elim
 |_::_,[],h,_=>h.elim
theorem pc:∀{us ks:List K},us.Nodup->(∀k∈us,k∈ks)->ks.length<=us.length->us.Perm ks
 |[],ks,_,_,h=>by
  have:ks=[]:=List.length_eq_zero_iff.1 (Nat.le_zero.1 h)
  subst this;exact .refl _
 |u::us,ks,hn,a,hl=>by
  rw[YM] at hn;have hu:u∈ks:=a u (.head _);have p:ks.Perm (u::ks.erase u):=List.perm_cons_erase hu;refine(List.Perm.cons u (pc hn.2 (λk hk=>?_) ?_)).trans p.symm
  ·have:k∈u::ks.erase u:=p.mem_iff.1 (a k (.tail _ hk))
   rcases ZY.1 this with rfl | q
   ·exact absurd hk hn.1
   ·exact q
  ·have:=p.length_eq
   simp only[YI] at this hl;omega
def keep(vs:List K)(us:List K):List K:=us.filter λk=>!decide (k∈vs)
theorem uT{id:String}{a b:Addr}{us vs:List K}{Q:Zb}(hu:us.Nodup)(N:s.heap.SetOf knd a (λk=>decide (k∈us)) us.length)(C:s.heap.SetOf knd b (λk=>decide (k∈vs)) vs.length)
  (hv:us.length / 4<=vs.length) (hsz:us.length+1<scanBound)
  (h:∀h' c,(∀d obj,s.heap.get? d=some obj->h'.get? d=some obj)->h'.SetOf knd c (λk=>decide (k∈keep vs us)) (keep vs us).length->Q (.ref c) { s with heap:=h' }):
  wpAny 'f' A (Builtin.Frozenset.difference id a (.ref b)) Q E s:=by
 have tA:=N.typeIs;have tB:=C.typeIs;unfold Builtin.Frozenset.difference;refine Yb (kK tB ?_);simp only[Bool.not_true,XC,if_false,YD,if_true];refine Yb (Yc ?_);refine Yb (fK C ?_);refine Yb (fK N ?_);rw[if_neg (Nat.not_lt.2 hv)];refine Yb (wg tA ?_);refine Yb (wpAny_newSet_of (knd:=knd) λled Z=>?_);refine Yb (Yc ?_);have up:∀d obj,s.heap.get? d=some obj->(s.heap.push { cls:=.type "set",dict:=none,data:=.set #[] 0 (.fresh 0 0 led) }).get? d=some obj:=λd obj e=>Yd _ e
 have Nd:∀{d:Addr} {S:K->Bool} {n:Nat},s.heap.SetOf knd d S n->(s.heap.push { cls:=.type "set",dict:=none,data:=.set #[] 0 (.fresh 0 0 led) }).SetOf knd d S n:=λ⟨o,es,F,t,m,r⟩=>⟨o,es,F,t,up _ _ m,r⟩
 obtain⟨o,es,F,t,m,O,hd,J6,n_,hb,G,hn⟩:=N;refine Yb (wpAny_setEpoch_of (up _ _ m) hd G ?_);have OH:=Nd ⟨o,es,F,t,m,O,hd,J6,n_,hb,G,hn⟩;have Ki:=Nd C;generalize hp:s.heap.push { cls:=.type "set",dict:=none,data:=.set #[] 0 (.fresh 0 0 led) }=P at *;have fresh:∀d obj,s.heap.get? d=some obj->d≠s.heap.objs.size:=λd obj e=>ZS (Ye e)
 refine Yb (Yj (Yb (CG (knd:=knd) (f:=s.heap.objs.size) (s:={ s with heap:=P }) (up _ _ m) hd G ?_ Z λB_ h1 R sb T=>?_)))
 ·intro c hc
  simp only[ZY,List.not_mem_nil,or_false] at hc;rcases hc with rfl | rfl | rfl
  ·exact⟨_,_,OH⟩
  ·exact⟨_,_,Ki⟩
  ·exact⟨_,_,Z⟩
 obtain⟨ks,U⟩:=yy (J6.perm R);have I:us.Perm ks:=pc hu (λk hk=>(U.mem k).2 (by
  obtain⟨e,h1,V⟩:=(n_ k).1 (YT hk);exact⟨e,R.mem_iff.2 h1,V⟩)) (by rw[U.len,R.length_eq,YC,hn];exact YE _)
 have nk:ks.Nodup:=I.nodup_iff.1 hu;refine Yb (PySem.MeetsSeq2.wpAny_forIn_array _ (λrest _ W=>∃g l h',W={ s with heap:=h' }/\g++l=ks/\Ks knd l rest/\(∀d obj,d≠s.heap.objs.size->P.get? d=some obj->h'.get? d=some obj)/\h'.SetOf knd s.heap.objs.size (λk=>decide (k∈keep vs g)) (keep vs g).length) _ ?_ ?_ B_ _ ⟨[],ks,h1,rfl,rfl,U,λd obj p e=>(sb.2 d p).trans e,T⟩)
 ·rintro⟨hh,x⟩ rest bb W ⟨g,l,h',rfl,e1,u,y,J⟩
  cases l with
  |nil=>exact u.elim
  |cons k l=>
   obtain⟨⟨k1,Y,k3⟩,u⟩:=u;have Y:hh=knd.hash k:=Y;subst Y;have OJ:h'.SetOf knd b (λk=>decide (k∈vs)) vs.length:=by
    obtain⟨o2,P9,P_,t2,Kf,r2⟩:=Ki;refine⟨o2,P9,P_,t2,y _ _ ?_ Kf,r2⟩;obtain⟨o3,_,_,_,Q8,_⟩:=C;exact fresh _ _ Q8
   have nd:k∉g:=by
    rw[←e1] at nk
    have:=(List.nodup_append.1 nk).2.2
    exact λq=>this k q k (.head _) rfl
   have sE:∀B,(∀d obj,d≠s.heap.objs.size->h'.get? d=some obj->B.get? d=some obj)->B.SetOf knd s.heap.objs.size (λj=>decide (j∈keep vs (g++[k]))) (keep vs (g++[k])).length ->
     wpAny 'f' A (Builtin.Frozenset.unchanged id a F) (λ(_:Unit) s2=>∃g l h',s2={ s with heap:=h' }/\g++l=ks/\Ks knd l rest/\(∀d obj,d≠s.heap.objs.size->P.get? d=some obj->h'.get? d=some obj)/\h'.SetOf knd s.heap.objs.size (λk=>decide (k∈keep vs g)) (keep vs g).length) E { s with heap:=B }:=by
    intro B Qa L;unfold Builtin.Frozenset.unchanged;refine Yb (wpAny_setEpoch_of (Qa _ _ (fresh _ _ m) (y _ _ (fresh _ _ m) (up _ _ m))) hd G ?_);rw[if_neg (by simp)];exact Yc ⟨g++[k],l,B,rfl,by rw[ZB];exact e1,u,λd obj p e=>Qa d obj p (y d obj p e),L⟩
   refine Yb (Yj (Yb (wpAny_setFind_of (s:={ s with heap:=h' }) k1 k3 OJ λr T=>Yb (Yc ?_))));rw[T];have kp:keep vs (g++[k])=keep vs g++(if k∈vs then[] else[k]):=by
    unfold keep;rw[List.filter_append];congr 1;by_cases q:k∈vs<;>simp[q]
   by_cases q:k∈vs
   ·rw[show decide (k∈vs)=true from YT q]
    simp only[Bool.not_true,XC,if_false];refine Yc (Yb (wpAny_mono (sE h' (λd obj _ e=>e) ?_) (λ_ s2 z=>?_) λ_ _ z=>z))
    ·rw[kp,if_pos q,ZA];exact J
    ·exact Yc z
   ·rw[show decide (k∈vs)=false from ZO q]
    simp only[Bool.not_false,if_true];have Q9:(keep vs g).length+1<scanBound:=by
     have l1:(keep vs g).length<=g.length:=XQ _ _;have l2:g.length<=ks.length:=by rw[←e1,ZJ];omega
     have:=I.length_eq
     omega
    have Q_:decide (k∈keep vs g)=false:=ZO λz=>nd (List.mem_filter.1 z).1
    refine Yb (wpAny_setAddHashed_of (knd:=knd) (s:={ s with heap:=h' }) k1 k3 J Q9 λV Ra L=>?_);rw[if_neg (by rw[Q_];nofun)] at L;refine Yc (Yb (wpAny_mono (sE V (λd obj p e=>(Ra.2 d p).trans e) (SetOf_congr L (λj=>?_) ?_)) (λ_ s2 z=>?_) λ_ _ z=>z))
    ·rw[kp,if_neg q]
     rw[Bool.eq_iff_iff];simp
    ·rw[kp,if_neg q];simp
    ·exact Yc z
 ·rintro bb W ⟨g,l,h',rfl,e1,u,y,J⟩
  cases l with
  |cons=>exact u.elim
  |nil=>
   rw[ZA] at e1;subst e1;refine Yc (Yc (h h' s.heap.objs.size (λd obj e=>y d obj (fresh _ _ e) (up _ _ e)) (SetOf_congr J (λk=>?_) ?_)))
   ·rw[Bool.eq_iff_iff,decide_eq_true_iff,decide_eq_true_iff]
    exact((I.filter _).mem_iff).symm
   ·exact((I.filter _).length_eq).symm
end
end SD
namespace SD
open PySem PySem.Spec PyProof.Rows SetTable
theorem yz{mask:Nat}{a:Array (Option Nat)}:∀(fuel i p r:Nat),layClean.free mask a fuel i p=some r->a.getD r (some 0)=none
 |0,_,_,_,h=>by cases h
 |fuel+1,i,p,r,h=>by
  unfold layClean.free at h;split at h
  ·rename_i k hk
   cases h
   have:=List.find?_some hk
   exact Option.isNone_iff_eq_none.1 this
  ·exact yz fuel _ _ r h
theorem uu{mask:Nat}{a:Array (Option Nat)}{fuel i p:Nat}(h:layClean.free mask a (fuel+1) i p=none):a.getD i (some 0)≠none/\layClean.free mask a fuel (leap mask i p).1 (leap mask i p).2=none:=by
 unfold layClean.free at h;split at h
 ·cases h
 ·rename_i hk
  refine⟨λe=>?_,h⟩
  have:=List.find?_eq_none.1 hk 0 (ZT.2 (by unfold runEnd;split<;>omega))
  simp[e] at this
def rS(m i:Nat):Nat->Nat
 |0=>i
 |k+1=>rS m ((i*5+1)%(m+1)) k
theorem wj{mask:Nat}{a:Array (Option Nat)}:∀(fuel i:Nat),layClean.free mask a fuel i 0=none->∀k,k<fuel->a.getD (rS mask i k) (some 0)≠none
 |0,_,_,k,hk=>by omega
 |fuel+1,i,h,k,hk=>by
  obtain⟨h1,b⟩:=uu h;cases k with
  |zero=>exact h1
  |succ k=>exact wj fuel _ (by simpa [leap] using b) k 'c'
theorem uv{mask:Nat}{a:Array (Option Nat)}(hm:∀i,i<=mask->∀j,j<=mask->∃k,k<mask+1/\rS mask i k=j){j:Nat}(c:j<=mask)(hn:a.getD j (some 0)=none):∀(q fuel i p:Nat),i<=mask->p<32 ^ q->q+mask+1<=fuel->layClean.free mask a fuel i p≠none
 |0,fuel,i,p,hi,hp,d,h=>by
  have:p=0:=by simpa using hp
  subst this;obtain⟨k,h1,b⟩:=hm i hi j c;exact wj fuel i h k 'c' (by rw[b];exact hn)
 |q+1,0,i,p,hi,hp,d,h=>by omega
 |q+1,fuel+1,i,p,hi,hp,d,h=>by
  obtain⟨_,b⟩:=uu h;exact uv hm c hn q fuel _ _ (Nat.le_of_lt_succ (Nat.mod_lt _ 'c')) (by
   show p / 32<32 ^ q;rw[Nat.pow_succ] at hp;exact Nat.div_lt_of_lt_mul (by rw[Nat.mul_comm];exact hp)) 'c' b
theorem Jp:∀i,i<=7->∀j,j<=7->∃k,k<7+1/\rS 7 i k=j:=by
 intro i hi j a;have:∀i:Fin 8,∀j:Fin 8,∃k:Fin 8,rS 7 i k=j:=by decide
 obtain⟨k,h⟩:=this ⟨i,by omega⟩ ⟨j,by omega⟩;exact⟨k,k.2,h⟩
theorem Dz:∀i,i<=15->∀j,j<=15->∃k,k<15+1/\rS 15 i k=j:=by
 intro i hi j a;have:∀i:Fin 16,∀j:Fin 16,∃k:Fin 16,rS 15 i k=j:=by rfl'
 obtain⟨k,h⟩:=this ⟨i,by omega⟩ ⟨j,by omega⟩;exact⟨k,k.2,h⟩
theorem E9(h:Int):bits h<32 ^ 13:=by
 unfold bits;have h1:h%(2 ^ 64:Int)<2 ^ 64:=Int.emod_lt_of_pos _ 'a';have a:0<=h%(2 ^ 64:Int):=Int.emod_nonneg _ 'a';have b:((h%(2 ^ 64:Int)).toNat:Int)<2 ^ 64:=by rw[Int.toNat_of_nonneg a];exact h1
 have c:(h%(2 ^ 64:Int)).toNat<2 ^ 64:=by exact_mod_cast b
 exact ZQ c 'a'
theorem wk{t:Nat}:∀(l:List (Option Nat)) (r:Nat),l[r]?=some none->((l.set r (some t)).filterMap id).Perm (t::l.filterMap id)
 |[],r,h=>by simp at h
 |x::l,0,h=>by
  have:x=none:=by simpa using h
  subst this;simp
 |x::l,r+1,h=>by
  have a:=wk (t:=t) l r (by simpa using h);rw[List.set_cons_succ];cases x with
  |none=>simpa using a
  |some y=>
   show(y::(l.set r (some t)).filterMap id).Perm (t::y::l.filterMap id);exact(a.cons y).trans (List.Perm.swap _ _ _)
theorem A6{l:List (Option Nat)}{t:Nat}(hp:(l.filterMap id).length=t)(hl:t<l.length):∃j,j<l.length/\l[j]?=some none:=by
 refine Classical.byContradiction λhn=>?_
 have all:∀x∈l,x≠none:=λx hx e=>by
  obtain⟨j,a,e2⟩:=List.getElem_of_mem hx;exact hn ⟨j,a,by rw[ZD a,e2,e]⟩
 have:(l.filterMap id).length=l.length:=by
  clear hp hl hn;induction l with
  |nil=>rfl
  |cons x l b=>
   cases x with
   |none=>exact absurd rfl (all none (.head _))
   |some y=>
    show(y::l.filterMap id).length=_;rw[YI,YI,b λz hz=>all z (.tail _ hz)]
 omega
theorem A7 {mask:Nat} (hm:∀ i,i<=mask->∀ j,j<=mask->∃ k,k < mask + 1/\rS mask i k = j):∀ (b:Zi) (a:Array (Option Nat)) (t:Nat),a.size = mask + 1->(a.toList.filterMap id).Perm (List.range t)->t + b.length<=mask ->
    ∃ c:Array (Option Nat),b.foldl (λacc h=>do
      let (a,k) ← acc
      let j ← layClean.free mask a (turns mask) (bits h % (mask + 1)) (bits h)
      pure (a.setIfInBounds j (some k),k + 1)) (some (a,t)) = some (c,t + b.length)/\c.size = mask + 1/\(c.toList.filterMap id).Perm (List.range (t + b.length))
  | [],a,t,h1,f,_=>⟨a,rfl,h1,f⟩
  | h :: b,a,t,h1,f,g=>by
    rw [YI] at g
    obtain ⟨j,m,n⟩:=A6 (l:=a.toList) (t:=t) (by rw [f.length_eq,ZI]) (by rw [YC]; omega)
    rw [YC] at m
    have o:a.getD j (some 0) = none:=by
      rw [XR,← XS,n]; rfl
    cases q:layClean.free mask a (turns mask) (bits h % (mask + 1)) (bits h) with
    | none=>exact absurd q (uv hm 'c' o 13 _ _ _ (Nat.le_of_lt_succ (Nat.mod_lt _ 'c')) (E9 h) (by unfold turns; omega))
    | some r=>
      have d:=yz _ _ _ _ q
      have p:a.toList[r]? = some none:=by
        rw [XR,← XS] at d
        cases q2:a.toList[r]? with
        | none=>rw [q2] at d; cases d
        | some x=>rw [q2] at d; rw [show x = none from d]
      obtain ⟨c,e1,e2,u⟩:=A7 hm b (a.setIfInBounds r (some t)) (t + 1) (by rw [Array.size_setIfInBounds]; exact h1) (by
        rw [Array.toList_setIfInBounds]
        refine (wk _ _ p).trans ?_
        rw [List.range_succ]
        refine (f.cons t).trans ?_
        exact (List.perm_append_singleton t (List.range t)).symm) 'c'
      refine ⟨c,?_,e2,by rw [YI,show t + (b.length + 1) = t + 1 + b.length by omega]; exact u⟩
      rw [List.foldl_cons,YI,show t + (b.length + 1) = t + 1 + b.length by omega,← e1]
      show List.foldl _ (Option.bind (some (a,t)) λx=>Option.bind (layClean.free mask x.1 (turns mask) (bits h % (mask + 1)) (bits h)) λj=>some (x.1.setIfInBounds j (some x.2),x.2 + 1)) b = _
      rw [XH,q,XH]
theorem tx{mask finger moves:Nat}{led plain:Bool}(hm:∀i,i<=mask->∀j,j<=mask->∃k,k<mask+1/\rS mask i k=j)(c:Array Int)(hl:c.size<=mask):∃t' order,laid mask finger moves led plain c=some (t',order)/\order.toList.Perm (List.range c.size)/\t'.dummies = #[]/\t'.place.size=c.size/\t'.mask=mask:=by
 obtain⟨a,e1,e2,d⟩:=A7 hm c.toList (Array.replicate (mask+1) none) 0 (by simp) (by
  have:(Array.replicate (mask+1) (none:Option Nat)).toList.filterMap id=[]:=by
   rw[Array.toList_replicate];exact List.filterMap_eq_nil_iff.2 λx hx=>by rw[(List.mem_replicate.1 hx).2];rfl
  rw[this];exact .refl _) (by simpa using hl)
 rw[Nat.zero_add,YC] at e1 d;have n:layClean mask c=some a:=by
  unfold layClean;rw[←Array.foldl_toList]
  have:=e1
  exact(congrArg (Option.map (·.1)) e1)
 have b:((List.range (mask+1)).filterMap λj=>(a.getD j none).map ((j,·):Nat->Nat×Nat)).map (·.2)=a.toList.filterMap id:=by
  rw[List.map_filterMap];have:∀(l:List (Option Nat)) (f:Nat->Option Nat),(∀j,j<l.length->f j=l[j]?.getD none)->(List.range l.length).filterMap f=l.filterMap id:=by
   intro l;induction l with
   |nil=>intro f _;rfl
   |cons x l o=>
    intro f g;rw[YI,List.range_succ_eq_map,ZV,List.filterMap_map];have p:f 0=x:=g 0 (by simp);have r:=o (f∘Nat.succ) (λj m=>by have:=g (j+1) (by simpa using m);simpa using this);rw[r,p];cases x<;>rfl
  rw[←this a.toList _ (λj m=>?_),YC,e2]
  ·cases q:a.getD j none with
   |none=>rw[XR,←XS] at q;rw[q];rfl
   |some y=>rw[XR,←XS] at q;rw[q];rfl
 refine⟨{ mask,place:=(((List.range (mask+1)).filterMap λj=>(a.getD j none).map ((j,·):Nat->Nat×Nat)).map (·.1)).toArray,dummies:=#[],finger,led,moves,plain },(((List.range (mask+1)).filterMap λj=>(a.getD j none).map ((j,·):Nat->Nat×Nat)).map (·.2)).toArray,?_,?_,rfl,?_,rfl⟩
 ·unfold laid
  rw[n];rfl
 ·show List.Perm (List.map _ _) _
  rw[b];exact d
 ·have:=congrArg List.length b
  rw[ZF,d.length_eq,ZI] at this;show((List.map _ _).toArray).size=_;rw[YG,ZF];exact this
end SD
namespace SD
open PySem PySem.Spec PyProof.Rows
theorem CH{a:Type}{es:Array a}:∀{l:Zj},l.Perm (List.range es.size)->(l.filterMap (es[·]?)).Perm es.toList:=by
 intro l p;refine(p.filterMap _).trans ?_;have:∀(m:List a) (f:Nat->Option a),(∀j,j<m.length->f j=m[j]?)->(List.range m.length).filterMap f=m:=by
  intro m;induction m with
  |nil=>intro f _;rfl
  |cons x m c=>
   intro f b;rw[YI,List.range_succ_eq_map,ZV,List.filterMap_map,b 0 (by simp),c (f∘Nat.succ) (λj d=>by have:=b (j+1) (by simpa using d);simpa using this)];rfl
 rw[←YC,this es.toList _ (λj _=>by rw[XS])]
section
variable {prog:Zt}{w:World}{A:Around}{E:Zb}{s:Shared}{K:Type}[DecidableEq K]{knd:KeyKind prog w K}
theorem nI{a:Addr}{o:Obj}{es b:Array (Int×Value)}{d:Nat}{t t':SetTable}{S:K->Bool}{Q:Zo}(f:s.heap.get? a=some o)(c:o.ExactSet)(hd:o.data=.set es d t)(g:ElemsOf knd b.toList)(j:∀k,S k=true ↔ ∃e∈b.toList,knd.is k e.2=true)(hb:b.size<scanBound)(l:t'.fits b.size=true)
  (h:∀h',Heap.SameBut a s.heap h'->h'.get? a=some { o with data:=.set b (d+1) t' }->h'.SetOf knd a S b.size->Q () { s with heap:=h' }):wpAny 'f' A (storeSet a b t') Q E s:=by
 refine wpAny_storeSet_of f hd ?_ (fits_of_scanBound hb);obtain⟨q1,m⟩:=SetOf_store (knd:=knd) f c hd g j hb l;exact h _ (Heap.SameBut.update _ _ _) q1 m
theorem jE{n:Nat}(h1:5<=n)(a:n<=7):SetTable.sizeAbove ((0+n)*2)=16:=by
 have:n=5\/n=6\/n=7:=by omega
 rcases this with rfl | rfl | rfl<;>rfl'
theorem wm:¬(16>sizeLine):=by rw[sizeLine_eq];decide
theorem DA {es:Array (Int × Value)} {laid:Option (SetTable × Array Nat)} {t:SetTable} {order:Array Nat} {Q:Array (Int × Value) × SetTable->Shared->Prop} (hl:laid = some (t,order)) (hz:(order.filterMap (es[·]?)).size = es.size) (h:Q (order.filterMap (es[·]?),t) s) :
    wpAny 'f' A (do
      let some (t,order):=laid | unsupported "internal:set-table-without-room"
      let a:=order.filterMap (es[·]?)
      if a.size != es.size then unsupported "internal:set-table-lost-an-element"
      pure (a,t)) Q E s:=by
  subst hl
  dsimp only
  rw [if_neg (by rw [hz]; simp)]
  exact Yc h
theorem CI(knd:KeyKind prog w K){r:Addr}{led:Bool}{n:Nat}{Q:Zo}(b:s.heap.get? r=some { cls:=.type "set",dict:=none,data:=.set #[] 0 (.fresh 0 0 led) })(hn:n<=7)
  (h:∀h1 c u a,(∀d,d≠r->h1.get? d=s.heap.get? d)->h1.get? r=some c->c.ExactSet->c.data=.set #[] u a->a.place = #[]->a.dummies = #[]->a.mask=7\/a.mask=15->Q () { s with heap:=h1 }):wpAny 'f' A (setRoomFor r n) Q E s:=by
 have y:s={ s with heap:=s.heap }:=by cases s;rfl
 have g:({ cls:=.type "set",dict:=none,data:=.set #[] 0 (.fresh 0 0 led) }:Obj).ExactSet:=⟨rfl,rfl,rfl⟩;unfold setRoomFor;refine Yb (wpAny_setState_of b rfl (by rfl) ?_);dsimp only;by_cases j:5<=n
 ·have f:(SetTable.fresh 0 0 led).roomFor n=some ((0+n)*2):=by
   unfold SetTable.roomFor SetTable.fill SetTable.fresh;rw[if_pos (by simp;omega)];rfl
  rw[f];dsimp only;unfold setRelay;refine Yb (wpAny_setState_of b rfl (by rfl) ?_);dsimp only;rw[jE j hn,if_neg wm];obtain⟨t',order,e1,e2,l,z,m⟩:=tx (mask:=15) (finger:=(SetTable.fresh 0 0 led).finger) (moves:=(SetTable.fresh 0 0 led).movedTo 15) (led:=(SetTable.fresh 0 0 led).led) (plain:=(SetTable.fresh 0 0 led).plain) Dz #[] 'a';have o:order = #[]:=by
   have:order.toList=[]:=by simpa using e2
   exact Array.toList_eq_nil_iff.1 this
  refine Yb (DA (laid:=(SetTable.fresh 0 0 led).relaid ((#[]:Array (Int×Value)).map (·.1)) ((0+n)*2)) (t:=t') (order:=order) ?_ ?_ ?_)
  ·unfold SetTable.relaid
   rw[jE j hn];simpa using e1
  ·rw[o];rfl
  ·rw[o]
   dsimp only;have p:t'.place = #[]:=Array.eq_empty_of_size_eq_zero z;refine nI (knd:=knd) (S:=λ_=>false) b g rfl (λe B=>by simp at B) (λk=>by simp) 'a' (by unfold SetTable.fits SetTable.fill;rw[p,l,m];rfl) λh' C q _=>?_
   exact h h' _ _ t' (λd hd=>C.2 d hd) q ⟨rfl,rfl,rfl⟩ rfl p l (.inr m)
 ·have f:(SetTable.fresh 0 0 led).roomFor n=none:=by
   unfold SetTable.roomFor SetTable.fill SetTable.fresh;rw[if_neg (by simp;omega)]
  rw[f];dsimp only;refine Yc ?_;rw[y];exact h s.heap _ _ _ (λ_ _=>rfl) b g rfl rfl rfl (.inl rfl)
theorem A8{r a:Addr}{led:Bool}{S:K->Bool}{n:Nat}{Q:Zo}(B:s.heap.get? r=some { cls:=.type "set",dict:=none,data:=.set #[] 0 (.fresh 0 0 led) })(O:r≠a)(P:s.heap.SetOf knd a S n)(hn:n<=7)
  (h:∀h',(∀d,d≠r->h'.get? d=s.heap.get? d)->(∃o es C t,h'.get? r=some o/\o.ExactSet/\o.data=.set es C t/\ElemsOf knd es.toList/\(∀k,S k=true ↔ ∃e∈es.toList,knd.is k e.2=true)/\es.size<scanBound/\t.fits es.size=true/\es.size=n/\t.dummies = #[])->Q () { s with heap:=h' }):
  wpAny 'f' A (setMerge r a) Q E s:=by
 obtain⟨o,es,C,t,R,T,hd,g,j,hb,m,hsz⟩:=P;have U:({ cls:=.type "set",dict:=none,data:=.set #[] 0 (.fresh 0 0 led) }:Obj).ExactSet:=⟨rfl,rfl,rfl⟩;have V:s={ s with heap:=s.heap }:=by cases s;rfl
 unfold setMerge;rw[if_neg (by rw[beq_iff_eq];exact O)];refine Yb (wpAny_setState_of R hd m ?_);dsimp only;split
 ·rename_i e
  have e:es = #[]:=by simpa using e
  subst e;refine Yc ?_;rw[V];exact h s.heap (λ_ _=>rfl) ⟨_,#[],0,_,B,U,rfl,λe W=>by simp at W,j,by decide,by rfl,hsz,rfl⟩
 ·refine Yb (CI knd B 'c' λh1 o1 Nh b F p l u G I q1=>?_)
  have Y:b.fits (#[]:Array (Int×Value)).size=true:=by
   unfold SetTable.fits SetTable.fill;rw[G,I];rfl
  refine Yb (wpAny_setState_of (s:={ s with heap:=h1 }) p u Y ?_);dsimp only;have Z:b.fill=0:=by unfold SetTable.fill;rw[G,I];rfl
  have PN:b.road t=(if(b.mask==t.mask&&t.dummies.isEmpty)=true then SetTable.Road.slotForSlot else .clean):=by
   unfold SetTable.road;rw[Z];rfl
  rw[PN];by_cases hc:(b.mask==t.mask&&t.dummies.isEmpty)=true
  ·rw[if_pos hc]
   dsimp only;rw[YU] at hc;have OM:t.dummies = #[]:=by simpa using hc.2
   refine nI (knd:=knd) (S:=S) (s:={ s with heap:=h1 }) p l u g j hb (by cases t;exact m) λh' y q _=>?_
   exact h h' (λd hd=>(y.2 d hd).trans (F d hd)) ⟨_,es,_,_,q,l,rfl,g,j,hb,by cases t;exact m,hsz,OM⟩
  ·rw[if_neg hc]
   dsimp only;have Mh:∃t' order,SetTable.laid b.mask b.finger b.moves (b.led&&t.led) (b.plain&&t.plain) (es.map (·.1))=some (t',order)/\order.toList.Perm (List.range (es.map (·.1)).size)/\t'.dummies = #[]/\t'.place.size=(es.map (·.1)).size/\t'.mask=b.mask:=by
    rcases q1 with q1 | q1
    ·rw[q1];exact tx Jp _ (by rw[Array.size_map];omega)
    ·rw[q1];exact tx Dz _ (by rw[Array.size_map];omega)
   obtain⟨t',order,e1,e2,J,L,e5⟩:=Mh;rw[Array.size_map] at e2 L;have c:(order.filterMap (es[·]?)).toList.Perm es.toList:=by
    rw[Array.toList_filterMap];exact CH e2
   have f:(order.filterMap (es[·]?)).size=es.size:=by rw[←YC,c.length_eq,YC]
   refine Yb (DA (laid:=SetTable.laid b.mask b.finger b.moves (b.led&&t.led) (b.plain&&t.plain) (es.map (·.1))) e1 f ?_);dsimp only;have ff:t'.fits (order.filterMap (es[·]?)).size=true:=by
    unfold SetTable.fits SetTable.fill;rw[J,L,f,e5];rcases q1 with q1 | q1<;>rw[q1]<;>simp<;>omega
   have N:∀k,S k=true ↔ ∃e∈(order.filterMap (es[·]?)).toList,knd.is k e.2=true:=λk=>(j k).trans ⟨λ⟨e,h1,z⟩=>⟨e,c.mem_iff.2 h1,z⟩,λ⟨e,h1,z⟩=>⟨e,c.mem_iff.1 h1,z⟩⟩
   refine nI (knd:=knd) (S:=S) (s:={ s with heap:=h1 }) p l u (g.perm c) N (by rw[f];exact hb) ff λh' y q _=>?_
   exact h h' (λd hd=>(y.2 d hd).trans (F d hd)) ⟨_,_,_,_,q,l,rfl,g.perm c,N,by rw[f];exact hb,ff,by rw[f];exact hsz,J⟩
theorem zy{a:Addr}{b:Zh}{S:K->Bool}{Q:Array (Int×Value)->Shared->Prop}(f:s.heap.SetOf knd a S 0)(h:Q #[] s):wpAny 'f' A (setWalkUnseen a b none) Q E s:=by
 obtain⟨o,es,m,t,c,g,hd,n,p,hb,d,hsz⟩:=f;have:es = #[]:=Array.eq_empty_of_size_eq_zero hsz
 subst this;unfold setWalkUnseen setsByText;refine Yb (wpAny_setState_of c hd d ?_);dsimp only;refine Yb (Yb (wpAny_askSetting (Yc ?_)));rw[if_pos (by simp)];unfold setWalk setsByText;refine Yb (wpAny_setState_of c hd d ?_);dsimp only;refine Yb (Yb (wpAny_askSetting (Yc ?_)));split
 ·exact Yb (wpAny_askSetting (Yc h))
 ·split
  ·rename_i j
   have l:(!t.plain&&decide ((#[]:Array (Int×Value)).size>1))=true:=j;simp at l
  ·refine Yb (?_:wpAny 'f' A (if(!t.led&&decide ((#[]:Array (Int×Value)).size>1))=true then unsupported "set:maker-not-led" else pure ()) _ E s)
   rw[if_neg (by simp)];exact Yc (Yc h)
theorem tz{id:String}{a b:Addr}{us:List K}{Q:Zb}(hu:us.Nodup)(j:s.heap.SetOf knd a (λk=>decide (k∈us)) us.length)(l:s.heap.SetOf knd b (λk=>decide (k∈([]:List K))) 0)(hl:us.length<=7)
  (h:∀h' c,(∀d obj,s.heap.get? d=some obj->h'.get? d=some obj)->h'.SetOf knd c (λk=>decide (k∈us)) us.length->Q (.ref c) { s with heap:=h' }) (F:us.length / 4>0):
  wpAny 'f' A (Builtin.Frozenset.difference id a (.ref b)) Q E s:=by
 have G:=j.typeIs;have tB:=l.typeIs;unfold Builtin.Frozenset.difference;refine Yb (kK tB ?_);simp only[Bool.not_true,XC,if_false,YD,if_true];refine Yb (Yc ?_);refine Yb (fK l ?_);refine Yb (fK j ?_);rw[if_pos F];refine Yb (wpAny_rule ?_);unfold Builtin.Frozenset.copyOf;refine Yb (Yb (wg G (Yb (wpAny_newSet_of (knd:=knd) λled hN=>?_))));refine Yb (Yc ?_);have up:∀d obj,s.heap.get? d=some obj->(s.heap.push { cls:=.type "set",dict:=none,data:=.set #[] 0 (.fresh 0 0 led) }).get? d=some obj:=λd obj e=>Yd _ e
 have I:∀{d:Addr} {S:K->Bool} {n:Nat},s.heap.SetOf knd d S n->(s.heap.push { cls:=.type "set",dict:=none,data:=.set #[] 0 (.fresh 0 0 led) }).SetOf knd d S n:=λ⟨o,es,g,t,f,r⟩=>⟨o,es,g,t,up _ _ f,r⟩
 have fresh:∀{d:Addr}{S:K->Bool}{n:Nat},s.heap.SetOf knd d S n->s.heap.objs.size≠d:=λ⟨o,es,g,t,f,r⟩ e=>absurd (Ye f) (by rw[e];exact ZR _)
 have q:∀d obj,s.heap.get? d=some obj->d≠s.heap.objs.size:=λd obj e=>ZS (Ye e)
 refine Yb (A8 (knd:=knd) (led:=led) (s:={ s with heap:=s.heap.push { cls:=.type "set",dict:=none,data:=.set #[] 0 (.fresh 0 0 led) } }) (Yg _ rfl) (fresh j) (I j) hl λh' same J=>?_);refine Yc ?_;refine Yb (Yc ?_);refine Yb (Yj ?_);have m:h'.SetOf knd b (λk=>decide (k∈([]:List K))) 0:=by
  obtain⟨o,es,g,t,f,r⟩:=l;exact⟨o,es,g,t,(same _ (q _ _ f)).trans (up _ _ f),r⟩
 obtain⟨o,es,g,t,f,p,hd,L,N,hb,u,hsz,O⟩:=J;have y:h'.SetOf knd s.heap.objs.size (λk=>decide (k∈us)) us.length:=⟨o,es,g,t,f,p,hd,L,N,hb,u,hsz⟩;unfold Builtin.Frozenset.differenceUpdate;rw[if_neg (by
  rw[beq_iff_eq];exact λe=>fresh l (Value.ref.inj e).symm)]
 refine Yb (kK (s:={ s with heap:=h' }) m.typeIs ?_);simp only[if_true];refine Yb (Yc ?_);refine Yb (fK (s:={ s with heap:=h' }) m ?_);refine Yb (fK (s:={ s with heap:=h' }) y ?_);rw[if_neg (by simp)];obtain⟨P,R,T,U,z,V,B,W,Y,Z,C,OP⟩:=m;refine Yb (wpAny_setEpoch_of (s:={ s with heap:=h' }) z B C ?_);refine Yb (Yj (Yb (zy (knd:=knd) (s:={ s with heap:=h' }) ⟨P,R,T,U,z,V,B,W,Y,Z,C,OP⟩ ?_)));rw[←Array.forIn_toList];refine Yb (Yc (Yc ?_));unfold setTidy;refine Yb (wpAny_setState_of (s:={ s with heap:=h' }) f hd u ?_);dsimp only;rw[if_neg (by unfold SetTable.tooManyDummies;rw[O];simp)];exact Yc (Yc (h h' s.heap.objs.size (λd obj e=>(same d (q _ _ e)).trans (up _ _ e)) y))
end
end SD
namespace DD
open PySem PySem.Spec PyProof.Rows L2
def uw(d:D)(M:MH)(Q:List Str->Prop):Prop:=i8 d M λxs=>match dX xs with
 |some ks=>ks.length<1000/\Q ks
 |none=>False
def fL(t u:WE):WE:=λσ M Q=>t σ M λd M1=>uw d M1 λks=>u σ M1 λe M2=>uw e M2 λa=>((aB ks).length / 4<=(aB a).length\/aB a=[]/\(aB ks).length<=7)/\Q (.int ((SD.keep (aB a) (aB ks)).length:Nat)) M2
theorem uU:entryFor table "set.__sub__" = some Builtin.«frozenset.__sub__»:=entryFor_alias (id':="frozenset.__sub__") (by kernel_rfl) rfl (by rfl') (by kernel_rfl)
theorem qj{K:Type}[DecidableEq K](l:List K):(aB l).Nodup:=by
 have:∀(l acc:List K),acc.Nodup->(l.foldl fi acc).Nodup:=by
  intro l;induction l with
  |nil=>intro acc h;exact h
  |cons a l b=>
   intro acc h;refine b _ ?_;unfold fi;split
   ·exact h
   ·rename_i q
    rw[List.nodup_append];exact⟨h,(by simp),λx hx y hy e=>by rw[XG] at hy;subst hy;subst e;exact q hx⟩
 exact this l [] List.nodup_nil
section
variable {prog:Zt}{w:World}{A:Around}{E:Zb}{s:Shared}{K:Type}[DecidableEq K]{knd:KeyKind prog w K}
theorem CJ {a b:Addr} {us vs:List K} {Q:Zb} (hu:us.Nodup) (f:s.heap.SetOf knd a (λk=>decide (k ∈ us)) us.length) (g:s.heap.SetOf knd b (λk=>decide (k ∈ vs)) vs.length)
  (hv:us.length / 4<=vs.length \/ vs = []/\us.length<=7) (hsz:us.length + 1 < scanBound)
  (h:∀ h' c,(∀ d obj,s.heap.get? d = some obj->h'.get? d = some obj)->h'.SetOf knd c (λk=>decide (k ∈ SD.keep vs us)) (SD.keep vs us).length->Q (.ref c) { s with heap:=h' }) :
  wpAny 'f' A (binaryOp .Sub (.ref a) (.ref b)) Q E s:=by
 refine wpAny_binaryOp_same f.typeIs g.typeIs F.fills_set_sub F.slot_set_sub (wpAny_call_entry F.slot_set_sub f.typeIs uU ?_ (F.args_set_sub_2 _ _))
 show wpAny 'f' A.in1 (do
  let (self,other) ← Builtin.Frozenset.slot1 "__sub__" ⟨[.ref a,.ref b],[]⟩
  let (l,r):=if false = true then (other,self) else (self,other)
  if !(← Builtin.Frozenset.isAnySet l <&&> Builtin.Frozenset.isAnySet r) then rule s!"frozenset.{"__sub__"}.declined"; return ← ret .notImplemented
  ret (← Builtin.Frozenset.difference s!"frozenset.{"__sub__"}" (← Builtin.Frozenset.addrOf l) r)) _ E s
 refine Yb (Yc ?_)
 dsimp only
 simp only [XC,if_false]
 refine Yb (Yb (SD.kK f.typeIs (SD.kK g.typeIs ?_)))
 simp only [Bool.not_true,XC,if_false]
 refine Yb (Yc ?_)
 refine Yb ?_
 by_cases j:us.length / 4<=vs.length
 ·exact SD.uT hu f g j hsz λh' c k m=>Yc ⟨_,rfl,nofun,h h' c k m⟩
 ·rcases hv with hv | ⟨rfl,hv⟩
  ·exact absurd hv j
  ·refine SD.tz hu f g hv (λh' c k m=>Yc ⟨_,rfl,nofun,h h' c k ?_⟩) (by simpa using j)
   have e:SD.keep ([]:List K) us = us:=by
    unfold SD.keep
    exact List.filter_eq_self.2 λx _=>by simp
   rw [e]; exact m
end
section
variable {X:Cx}{H:Hp}{pos:Pos}
theorem A9{K:Za}{d:D}{M:MH}{Q:List Str->Prop}{v:V}(q:uw d M Q)(c:RV K H d v)(f:RM K M H):∃a xs vs ks,v=.ref a/\bw K H a vs/\ag K H xs vs/\dX xs=some ks/\ks.length<1000/\Q ks:=by
 obtain⟨a,xs,vs,rfl,sq,g,b⟩:=yw q c f;split at b
 ·rename_i ks e
  exact⟨a,xs,vs,ks,rfl,sq,g,e,b.1,b.2⟩
 ·exact b.elim
theorem rT{a_:Zc}{ρ:L2.St}{s:Shared}{a:Addr}{xs:List D}{vs:List V}{ks:Zf}{Z:Zb}{R:Zb}(hc:X.calm=true)(I:ac X a_ ρ H s)(hq:bw X.K H a vs)(d:ag X.K H xs vs)(e:dX xs=some ks)(hl:ks.length<1000)
  (g:∀h' tk,h'.SetOf (strKind X.prog X.w) s.heap.objs.size (λk=>decide (k∈aB ks)) (aB ks).length->(∀b o,s.heap.get? b=some o->h'.get? b=some o)->R (.ref s.heap.objs.size) { s with heap:=h',toks:=tk }):
  wpAny 'b' X.A (call (.type "set") [.ref a]) R Z s:=by
 obtain⟨b_,c,p,_⟩:=I.list hq;obtain rfl:=qi e d;have f:ks.length=b_.length:=by have:=c.length;simpa using this
 refine ut (knd:=strKind X.prog X.w) (ks:=ks) (I.ok.hd hc) p.isList (by simpa using f) (λi v hv k hk=>?_) (by unfold scanBound;simp;omega) λh' tk st kp=>g h' tk st λb o e=>kp b o (Ye e) e
 obtain⟨u,h1,j⟩:=c.get (i:=i) (x:=.str k) (by simp[hk]);have:v=u:=by simp at hv;rw[hv] at h1;cases h1;rfl
 subst this;obtain⟨t,rfl⟩:∃t,v=Value.str k t:=j;exact⟨strKind_is _ _ _ _,rfl⟩
theorem zA{l r:Expr}{t u:WE}{p V W Y Z OR:Pos}(hc:X.calm=true)(hg:Gl X "len")(hm:X.mg "len" = none)(A:Gl X "set")(B:X.mg "set" = none)(h:aL X l t)(hu:aL X r u)(C:ar l=true)(E:ar r=true):
  aL X (.Call (.Name "len" p) [.BinOp (.Call (.Name "set" V) [l] [] Y) .Sub (.Call (.Name "set" W) [r] [] Z) OR] [] pos) (fL t u):=by
 intro σ M ρ H Q rs rm q a_ s I;refine Call_ (dc I hg hm PySem.boot_len (callWith_builtin1 (args_cons (wpAny_BinOp (Call_ (dc I A B (by rfl':bootBuiltins "set" = some (.type "set")) (PyProof.Rows.callWith_type1 (args_cons (aE (h σ M ρ H _ rs rm q a_ s I) λv1 s1 G_=>?_) (aX C)) (aX C) rfl)))))));obtain⟨v,j,f,rv,⟨F,d,M1,r1,G,q1⟩⟩:=G_;obtain⟨a,xs,vs,ks,rfl,sq,rr,e1,l1,q2⟩:=A9 q1 r1 G;cases rv;refine args_nil ?_;refine rT hc f sq rr e1 l1 λh1 J Rh Ri=>?_
 -- the first set stays while the second list is reckoned
 have K:=f.kept (t':=J) Ri;obtain⟨g,Rj,Nh,t1,y1,y2,L,y4⟩:=Rh;have m:=f.fpOk (H':=j) (YE _) (f.hok.fresh (YE _));have N:ac X ((s1.heap.objs.size,g)::a_) ρ j { s1 with heap:=h1,toks:=J }:=K.pins_of λz hz=>by
  rcases ZY.1 hz with rfl | hz
  ·exact⟨y1,m.1,m.2.1,m.2.2.1,λw e=>by rw[L] at e;cases e⟩
  ·exact K.pin z (YF _ hz)
 refine Call_ (dc N A B (by rfl':bootBuiltins "set" = some (.type "set")) (PyProof.Rows.callWith_type1 (args_cons (aE (hu σ M1 ρ j _ (rs.mono F) G q2 _ _ N) λv2 s2 JV=>?_) (aX E)) (aX E) rfl));obtain⟨v',O,n,JJ,⟨k2,d',M2,r2,P,q3⟩⟩:=JV;obtain⟨b,ys,Rk,js,rfl,Rl,Rm,e2,l2,q4,q5⟩:=A9 q3 r2 P;cases JJ;refine args_nil ?_;refine rT hc n Rl Rm e2 l2 λR y Ld S=>?_
 have pa:=(n.pin (s1.heap.objs.size,g) (YF _ (.head _))).1;have OT:R.SetOf (strKind X.prog X.w) s1.heap.objs.size (λk=>decide (k∈aB ks)) (aB ks).length:=⟨g,Rj,Nh,t1,S _ _ pa,y2,L,y4⟩;have lu:(aB ks).length<=ks.length:=qh ks;refine CJ (s:={ s2 with heap:=R,toks:=y }) (qj ks) OT Ld q4 (by unfold scanBound;omega) λT c Rn Le=>?_
 refine args_nil ?_;obtain⟨o,es,ep,t3,z1,z2,z3,_,_,z4,z5,z6⟩:=Le;refine call_len_set (s:={ s2 with heap:=T,toks:=y }) z1 z2 z3 z5 (by unfold scanBound at z4;omega) ?_;refine⟨.int ((SD.keep (aB js) (aB ks)).length:Nat),O,?_,⟨_,by rw[z6]⟩,F.trans k2,_,M2,RV.int_.2 rfl,P,q5⟩;have U:ac X ((s1.heap.objs.size,g)::a_) ρ O _:=n.kept (h':=T) (t':=y+1+1) λb o e=>Rn b o (S b o e)
 exact U.pins_of λz hz=>U.pin z (YF _ (.tail _ hz))
end
section
variable {prog:Zt}{w:World}{A:Around}{E:Zb}{s:Shared}
theorem nJ{it t:Addr}{i:Nat}{c:Zl}{x:Value}{Q:Zb}(b:s.heap.IsTupleIter it t i)(ht:s.heap.IsTuple t c)(hx:c[i]?=some x)
  (d:∀h',h'.IsTupleIter it t (i+1)->Heap.SameBut it s.heap h'->Q x { s with heap:=h' }):wpAny 'f' A (Builtin.SmallTypes.nextOf (.ref it)) Q E s:=by
 obtain⟨o,a,hc,hd⟩:=id b;obtain⟨j,f,_,nl,g⟩:=ht;unfold Builtin.SmallTypes.nextOf;refine Yb (wpAny_callSpecial?_slot (name:=Str.ofString "__next__") b.typeIs F.slot_tuple_iterator_next (wpAny_call_entry F.slot_tuple_iterator_next b.typeIs F.entry_tuple_iterator_next ?_ (F.args_tuple_iterator_next_1 _)));show wpAny _ _ (field (.ref it) 0 >>= _) _ _ s;refine Yb (wpAny_field a hd (x:=.ref t) rfl ?_);show wpAny _ _ (if(Value.ref t==Value.none)=true then _ else _) _ _ s;rw[if_neg (show ¬((Value.ref t==Value.none)=true) from YH)];show wpAny _ _ (field (.ref it) 1 >>= _) _ _ s;refine Yb (wpAny_field a hd (x:=.int i 0) rfl ?_);show wpAny _ _ (seqItems? (.ref t) >>= _) _ _ s;refine Yb (wpAny_seqItems f g ?_);simp only[Int.toNat_natCast,hx];refine Yb (wpAny_setField a hd (by simp) (Yc ⟨x,rfl,Yc (d _ ⟨_,Heap.get?_update_self _ a (Obj.isFreed_of_fields (Obj.data_mapFields hd _)),(Obj.cls_mapFields ..).trans hc,?_⟩ (Heap.SameBut.update ..))⟩));rw[Obj.data_mapFields hd];simp[rawInt]
theorem qk{it t:Addr}{i:Nat}{d:Zl}{Q:Zb}(f:A.handled=none)(b:s.heap.IsTupleIter it t i)(ht:s.heap.IsTuple t d)(hx:d[i]?=none)
  (g:∀h' e,Heap.ExtBut it s.heap h'->(∃o,h'.get? e=some o/\o.cls=.type "StopIteration")->E (.ref e) { s with heap:=h' }):wpAny 'f' A (Builtin.SmallTypes.nextOf (.ref it)) Q E s:=by
 obtain⟨o,c,hc,hd⟩:=id b;obtain⟨n,j,_,nl,l⟩:=ht;unfold Builtin.SmallTypes.nextOf;refine Yb (wpAny_callSpecial?_slot (name:=Str.ofString "__next__") b.typeIs F.slot_tuple_iterator_next (wpAny_call_entry F.slot_tuple_iterator_next b.typeIs F.entry_tuple_iterator_next ?_ (F.args_tuple_iterator_next_1 _)));show wpAny _ _ (field (.ref it) 0 >>= _) _ _ s;refine Yb (wpAny_field c hd (x:=.ref t) rfl ?_);show wpAny _ _ (if(Value.ref t==Value.none)=true then _ else _) _ _ s;rw[if_neg (show ¬((Value.ref t==Value.none)=true) from YH)];show wpAny _ _ (field (.ref it) 1 >>= _) _ _ s;refine Yb (wpAny_field c hd (x:=.int i 0) rfl ?_);show wpAny _ _ (seqItems? (.ref t) >>= _) _ _ s;refine Yb (wpAny_seqItems j l ?_);simp only[Int.toNat_natCast,hx];refine Yb (wpAny_rule (Yb (wpAny_setField c hd (by simp) ?_)));show wpAny _ _ (newExc (.type "StopIteration") [] >>= _) _ _ _;refine Yb ?_;simp only[newExc,newTuple];refine Yb (wpAny_newObj_type ?_ (by size_fits));refine Yb (m:=firstArgMember _ _) (wpAny_of_eq (a:=Value.none) (by first | rfl | (simp only[firstArgMember];rfl)) (wpAny_newObj_type ?_ (by size_fits)));simp only[raiseNew];refine Yb (wpAny_handled ?_);first | rw[show A.in1.handled=none from f] | rw[f]
 refine Yb (Yc (wpAny_throw (g _ _ (((Heap.SameBut.update ..).extBut.push _).push _) ⟨_,Yg _ rfl,rfl⟩)))
end
section
variable {X:Cx}{a_:Zc}{σ:L2.St}{H:Hp}{s:Shared}{h':Heap}
theorem DB{fs ch:Zh}{h:Heap}(k:∀b o,b∉ch->h.get? b=some o->h'.get? b=some o):Un fs ch H H h h' where
 keep:=λb o e _ _ hc=>k b o hc e
 slot:=λb o e _ _ hc=>⟨o.slots,k b o hc e⟩
 free:=λ_ _ _ n _=>n
 there:=λb o e hc=>⟨o,k b o hc e⟩
 tups:=λ_ _ e=>e
 frzs:=λ_ _ _ e=>e
 tbls:=λb ps e=>⟨#[],by rw[e];simp⟩
theorem Ba{P:Zt}{w:World}{ch:Zh}{h:Heap}(ok:ci P w H h)(k:∀b o,b∉ch->h.get? b=some o->h'.get? b=some o)(hn:∀b∈ch,H b=none):ci P w H h':=λb u e=>by
 have a:∀c v,H c=some v->c∉ch:=λc v d z=>by rw[hn c z] at d;cases d
 refine(ok b u e).stay (λc v hc q=>k c v ?_ q) (λ_ q=>q) λ_ _ q=>q
 rcases hc with z | z
 ·rw[z];exact a b u e
 ·exact a c _ z
theorem ac.turnedT{ch:Zh}{T:Addr}{xs:List V}{b_:Zd}{tk:Nat}(I:ac X a_ σ H s)(k:∀b o,b∉ch->s.heap.get? b=some o->h'.get? b=some o)(hn:∀b∈ch,H b=none)
  (f:∀b∈ch,(b∈X.ex\/X.s₀.heap.objs.size<=b)/\b≠X.env.locals/\(∀x c,X.env.cells.lookup x=some c->c≠b)/\∀p∈X.pn++a_,p.1≠b) (d:s.heap.objs.size<=T) (r:am xs b_) (hz:xs.length<=sizeLine) (ht:IsTup h' T b_.toArray):
  ac X a_ σ (aM H T (.tup xs)) { s with heap:=h',toks:=tk }:=by
 have a:H T=none:=I.hok.fresh d;have g:=Ba I.hok k hn;refine I.call (g':=s.gens) (d':=s.drawn) (t':=tk) (Un.track (DB k) d a) (λb u e=>?_) I.bare f;by_cases hb:b=T
 ·subst hb
  rw[aD] at e;cases e;exact⟨hz,b_,r,ht⟩
 ·rw[aG hb] at e
  refine(g b u e).stay (λc v _ q=>q) (λc q=>?_) λc ys q=>?_
  ·rw[aG (bt q a)];exact q
  ·rw[aG (bt q a)];exact q
end
def fj:Int->List D->List D
 |_,[]=>[]
 |n,d::r=>.tup [.int n,d]::fj (n+1) r
theorem jF:∀(n:Int) (ds:List D),(fj n ds).length=ds.length
 |_,[]=>rfl
 |n,d::r=>by rw[fj,YI,YI,jF]
theorem uA:∀{n:Int}{ds:List D}{i:Nat}{x:D},(fj n ds)[i]?=some x->∃d,ds[i]?=some d/\x=.tup [.int (n+i),d]
 |_,[],_,_,h=>by cases h
 |n,d::r,0,x,h=>by
  rw[fj] at h;simp at h;exact⟨d,rfl,by rw[←h];simp⟩
 |n,d::r,i+1,x,h=>by
  rw[fj] at h;obtain⟨d',h1,a⟩:=uA (n:=n+1) (ds:=r) (i:=i) (x:=x) (by simpa using h);refine⟨d',by simpa using h1,?_⟩;rw[a];congr 2;congr 1;omega
section
variable {prog:Zt}{w:World}{A:Around}{E:Zb}{s:Shared}
structure yA (z u o i j a b:Addr):Prop where
 uz:u≠z
 oz:o≠z
 iz:i≠z
 jz:j≠z
 uo:u≠o
 ui:u≠i
 uj:u≠j
 oi:o≠i
 oj:o≠j
 ij:i≠j
 az:a≠z
 ao:a≠o
 ai:a≠i
 aj:a≠j
 bz:b≠z
 bo:b≠o
 bi:b≠i
 bj:b≠j
theorem JD(n a b:Nat)(c:a<n)(d:b<n):yA (n+4) (n+2) (n+3) n (n+1) a b:=by
 constructor<;>(intro y;have f:@Eq Nat _ _:=y;omega)
def wo(z u o i j a b:Addr)(xs ys:Zl)(f:Value)(k:Nat)(h:Heap):Prop:=
 IsZip h z u o f/\IsPair h u (.ref i) (.ref j)/\(∃p q,IsPair h o p q)/\h.IsTupleIter i a k/\h.IsTupleIter j b k/\h.IsTuple a xs/\h.IsTuple b ys
theorem Bb{z u o i j a b:Addr}{k:Nat}{xs ys:Zl}{x y:Value}{Q:Zb}(D:yA z u o i j a b)(st:wo z u o i j a b xs ys .none k s.heap)(hx:xs[k]?=some x)(hy:ys[k]?=some y)
  (hQ:∀h',wo z u o i j a b xs ys (rawInt s.heap.objs.size) (k+1) h'->IsPair h' s.heap.objs.size x y->(∀c q,c≠z->c≠o->c≠i->c≠j->s.heap.get? c=some q->h'.get? c=some q)->Q (.ref s.heap.objs.size) { s with heap:=h' }):
  wpAny 'f' A (Builtin.«zip.__next__» ⟨[.ref z],[]⟩) (λfin t=>∃v,fin=.done (.ret v)/\Q v t) E s:=by
 obtain⟨hz,hu,⟨p,q,ho⟩,hi,hj,ha,hb⟩:=st;show wpAny _ _ (field (.ref z) 2 >>= λ_=>_) _ _ s;refine Yb (wpAny_field hz rfl (x:=.bool false) rfl (Yb (wpAny_field hz rfl (x:=.ref u) rfl (Yb (wpAny_seqItems hu rfl (Yb ?_))))));unfold Builtin.SmallTypes.ownedTupleIsFree;refine Yb (wpAny_field hz rfl (x:=.none) rfl (Yc ?_));simp only[if_true];refine Yb (wpAny_rule (Yb (wpAny_field hz rfl (x:=.ref o) rfl (Yb (wpAny_setField_rec hz (by simp) λh1 U f=>Yb ?_)))));have U:IsZip h1 z u o .ellipsis:=U;have f:Heap.SameBut z s.heap h1:=f;simp only[List.zipIdx_cons,List.zipIdx_nil,XA,List.forIn_nil];refine Yb (Yb (wpAny_onRaise (show wpAny _ _ (Builtin.SmallTypes.nextOf (.ref i) >>= λ_=>_) _ _ { s with heap:=h1 } from Yb (nJ (hi.extBut f.extBut D.iz) (ha.extBut f.extBut D.az) hx λJ i2 g=>Yc ?_))));have g:Heap.SameBut i h1 J:=g;have Z:IsPair J o p q:=g.extBut _ _ D.oi (f.extBut _ _ D.oz ho);refine Yb (wpAny_seqItems (s:={ s with heap:=J }) Z rfl (Yb (wpAny_updateSeq_pair (s:={ s with heap:=J }) Z λm V l=>Yb (wpAny_letGo (Yc ?_)))));have V:IsPair m o x q:=V;have l:Heap.SameBut o J m:=l;have j3:m.IsTupleIter j b k:=((hj.extBut f.extBut D.jz).extBut g.extBut D.ij.symm).extBut l.extBut D.oj.symm;have y3:m.IsTuple b ys:=((hb.extBut f.extBut D.bz).extBut g.extBut D.bi).extBut l.extBut D.bo;refine Yb (Yb (wpAny_onRaise (show wpAny _ _ (Builtin.SmallTypes.nextOf (.ref j) >>= λ_=>_) _ _ { s with heap:=m } from Yb (nJ (s:={ s with heap:=m }) j3 y3 hy λK j4 B=>Yc ?_))));have B:Heap.SameBut j m K:=B;have o4:IsPair K o x q:=B.extBut _ _ D.oj V;refine Yb (wpAny_seqItems (s:={ s with heap:=K }) o4 rfl (Yb (wpAny_updateSeq_pair (s:={ s with heap:=K }) o4 λd O C=>Yb (wpAny_letGo (Yc (Yc ?_))))));have O:IsPair d o x y:=O;have C:Heap.SameBut o K d:=C;refine Yb (wpAny_seqItems (s:={ s with heap:=d }) O rfl (Yb (wpAny_newTuple ?_)));have sz:d.objs.size=s.heap.objs.size:=by rw[C.1,B.1,l.1,g.1,f.1]
 have kp:∀c r,c≠z->c≠o->c≠i->c≠j->s.heap.get? c=some r->d.get? c=some r:=λc r G I L N e=>C.extBut _ _ I (B.extBut _ _ N (l.extBut _ _ I (g.extBut _ _ L (f.extBut _ _ G e))))
 have z5:IsZip d z u o .ellipsis:=C.extBut _ _ D.oz.symm (B.extBut _ _ D.jz.symm (l.extBut _ _ D.oz.symm (g.extBut _ _ D.iz.symm U)));have i5:d.IsTupleIter i a (k+1):=((i2.extBut l.extBut D.oi.symm).extBut B.extBut D.ij).extBut C.extBut D.oi.symm;have j5:d.IsTupleIter j b (k+1):=j4.extBut C.extBut D.oj.symm;have zl:z<d.objs.size:=Ye z5;show wpAny _ _ (Builtin.SmallTypes.ownedTupleHandOut (.ref z) (.ref d.objs.size) >>= λ_=>_) _ _ { s with heap:=d.push { cls:=.type "tuple",data:=.seq #[x,y] } };refine Yb ?_;unfold Builtin.SmallTypes.ownedTupleHandOut;have z6:IsZip (d.push { cls:=.type "tuple",data:=.seq #[x,y] }) z u o .ellipsis:=Yd _ z5;refine Yb (wpAny_setField_rec (s:={ s with heap:=d.push { cls:=.type "tuple",data:=.seq #[x,y] } }) z6 (by simp) λP W R=>?_);have W:IsZip P z u o (rawInt d.objs.size):=W;have R:Heap.SameBut z (d.push { cls:=.type "tuple",data:=.seq #[x,y] }) P:=R;refine wpAny_setField_rec (s:={ s with heap:=P }) W (by simp) λF S T=>?_
 have S:IsZip F z u o (rawInt d.objs.size):=S;have T:Heap.SameBut z P F:=T;have up:∀c r,c≠z->d.get? c=some r->F.get? c=some r:=λc r n e=>T.extBut _ _ n (R.extBut _ _ n (Yd _ e))
 have t8:IsPair F d.objs.size x y:=T.extBut _ _ (Nat.ne_of_gt zl) (R.extBut _ _ (Nat.ne_of_gt zl) (Yg _ rfl));rw[sz] at S t8;refine Yc ⟨_,rfl,?_⟩;show Q (.ref d.objs.size) _;rw[sz];have Y:∀c r,c≠z->c≠o->c≠i->c≠j->s.heap.get? c=some r->F.get? c=some r:=λc r G I L N e=>up c r G (kp c r G I L N e)
 have tup:∀{c vs},s.heap.IsTuple c vs->c≠z->c≠o->c≠i->c≠j->F.IsTuple c vs:=λe G I L N=>by
  obtain⟨r,e1,e2⟩:=e;exact⟨r,Y _ _ G I L N e1,e2⟩
 refine hQ F ⟨S,Y _ _ D.uz D.uo D.ui D.uj hu,⟨x,y,up _ _ D.oz O⟩,i5.at λr e=>up _ r D.iz e,j5.at λr e=>up _ r D.jz e,tup ha D.az D.ao D.ai D.aj,tup hb D.bz D.bo D.bi D.bj⟩ t8 Y
theorem Bc{z u o i j a b:Addr}{k:Nat}{xs ys:Zl}{Q:Fin->Shared->Prop}(C:A.handled=none)(D:yA z u o i j a b)(st:wo z u o i j a b xs ys .none k s.heap)(hx:xs[k]?=none)
  (F:∀h' e,(∀c q,c≠z->c≠o->c≠i->c≠j->s.heap.get? c=some q->h'.get? c=some q)->(∃q,h'.get? e=some q/\q.cls=.type "StopIteration")->E (.ref e) { s with heap:=h' }):
  wpAny 'f' A (Builtin.«zip.__next__» ⟨[.ref z],[]⟩) Q E s:=by
 obtain⟨hz,hu,⟨p,q,L⟩,hi,N,ha,hb⟩:=st;show wpAny _ _ (field (.ref z) 2 >>= λ_=>_) _ _ s;refine Yb (wpAny_field hz rfl (x:=.bool false) rfl (Yb (wpAny_field hz rfl (x:=.ref u) rfl (Yb (wpAny_seqItems hu rfl (Yb ?_))))));unfold Builtin.SmallTypes.ownedTupleIsFree;refine Yb (wpAny_field hz rfl (x:=.none) rfl (Yc ?_));simp only[if_true];refine Yb (wpAny_rule (Yb (wpAny_field hz rfl (x:=.ref o) rfl (Yb (wpAny_setField_rec hz (by simp) λh1 m d=>Yb ?_)))));have m:IsZip h1 z u o .ellipsis:=m;have d:Heap.SameBut z s.heap h1:=d;simp only[List.zipIdx_cons,List.zipIdx_nil,XA,List.forIn_nil];refine Yb (Yb (wpAny_onRaise (show wpAny _ _ (Builtin.SmallTypes.nextOf (.ref i) >>= λ_=>_) _ _ { s with heap:=h1 } from Yb (qk C (hi.extBut d.extBut D.iz) (ha.extBut d.extBut D.az) hx λf e g G=>?_))));obtain⟨I,e1,e2⟩:=G;have g:Heap.ExtBut i h1 f:=g;have n:IsZip f z u o .ellipsis:=g _ _ D.iz.symm m;have J:e≠z:=λy=>by subst y;rw[n] at e1;cases e1;simp at e2
 refine wpAny_setField_rec (s:={ s with heap:=f }) n (by simp) λt _ l=>?_
 have l:Heap.SameBut z f t:=l;exact F t e (λc r B _ K _ y=>l.extBut _ _ B (g _ _ K (d.extBut _ _ B y))) ⟨I,l.extBut _ _ J e1,e2⟩
theorem Bd{z u o i j a b:Addr}{k:Nat}{xs ys:Zl}{x y:Value}{Q:Option Value->Shared->Prop}(D:yA z u o i j a b)(st:wo z u o i j a b xs ys .none k s.heap)(hx:xs[k]?=some x)(hy:ys[k]?=some y)
  (d:∀h',wo z u o i j a b xs ys (rawInt s.heap.objs.size) (k+1) h'->IsPair h' s.heap.objs.size x y->(∀c q,c≠z->c≠o->c≠i->c≠j->s.heap.get? c=some q->h'.get? c=some q)->Q (some (.ref s.heap.objs.size)) { s with heap:=h' }):
  wpAny 'f' A (pyNext (.ref z)) Q E s:=by
 have ty:s.TypeIs (.ref z) "zip":=⟨_,st.1,rfl⟩;unfold pyNext;refine Yb (wpAny_attempt (wpAny_callSpecial?_slot (name:=Str.ofString "__next__") ty F.slot_zip_next (wpAny_call_entry F.slot_zip_next ty F.entry_zip_next ?_ (F.args_zip_next_1 _))));exact Bb D st hx hy λh' f g l=>Yc (d h' f g l)
theorem CK{z u o i j a b:Addr}{k:Nat}{xs ys:Zl}{Q:Option Value->Shared->Prop}(d:A.handled=none)(D:yA z u o i j a b)(st:wo z u o i j a b xs ys .none k s.heap)(hx:xs[k]?=none)
  (f:∀h',(∀c q,c≠z->c≠o->c≠i->c≠j->s.heap.get? c=some q->h'.get? c=some q)->Q none { s with heap:=h' }):wpAny 'f' A (pyNext (.ref z)) Q E s:=by
 have ty:s.TypeIs (.ref z) "zip":=⟨_,st.1,rfl⟩;unfold pyNext;refine Yb (wpAny_attempt (wpAny_callSpecial?_slot (name:=Str.ofString "__next__") ty F.slot_zip_next (wpAny_call_entry F.slot_zip_next ty F.entry_zip_next ?_ (F.args_zip_next_1 _))));refine Bc d D st hx λh' e g l=>?_
 obtain⟨q,e1,e2⟩:=l;exact Yb (wpAny_isInstance (T:="StopIteration") (b:=true) ⟨q,e1,e2⟩ isSubtype_stop (Yc (f _ g)))
def jG(h:Heap)(a b:Addr):Heap:=((((h.push { cls:=.type "tuple_iterator",data:=.fields #[.ref a,.int 0 0] }).push { cls:=.type "tuple_iterator",data:=.fields #[.ref b,.int 0 0] }).push { cls:=.type "tuple",data:=.seq #[.ref h.objs.size,.ref (h.objs.size+1)] }).push { cls:=.type "tuple",data:=.seq #[.none,.none] }).push { cls:=.type "zip",data:=.fields #[.none,.bool false,.bool false,.ref (h.objs.size+2),.ref (h.objs.size+3)] }
theorem CL(a b:Addr)(xs ys:Zl):Meets (Builtin.«zip.__new__» ⟨[.type "zip",.ref a,.ref b],[]⟩) (λ_ R t=>t.heap.IsTuple a xs/\t.heap.IsTuple b ys/\R (.ok (.ret (.ref (t.heap.objs.size+4)))) { t with heap:=jG t.heap a b }):=by
 refine .of_wp λpr f j R t h=>?_
 obtain⟨hp,g,d,tk,os⟩:=t;obtain⟨ha,hb,h⟩:=h;have l:=sub_zip;have h1:Heap.IsTuple (Shared.heap ⟨hp,g,d,tk,os⟩) a xs:=ha;have c:Heap.IsTuple (Shared.heap ⟨hp.push { cls:=.type "tuple_iterator",data:=.fields #[.ref a,.int 0 0] },g,d,tk,os⟩) b ys:=Heap.IsTuple.push hb _;wp_walk using wpAny_pyIter_tuple h1,wpAny_pyIter_tuple c;refine⟨_,rfl,?_⟩;simp only[Heap.size_push];exact h
theorem Be{a b:Addr}{xs ys:Zl}{Q:Zb}(ha:s.heap.IsTuple a xs)(hb:s.heap.IsTuple b ys)
  (h:∀h',wo (s.heap.objs.size+4) (s.heap.objs.size+2) (s.heap.objs.size+3) s.heap.objs.size (s.heap.objs.size+1) a b xs ys .none 0 h'->(∀c q,s.heap.get? c=some q->h'.get? c=some q)->Q (.ref (s.heap.objs.size+4)) { s with heap:=h' }):
  wpAny 'f' A (call (.type "zip") [.ref a,.ref b]) Q E s:=by
 refine callType_new F.called_zip 'a' (F.typeCall_zip_2 _ _) (F.newCall_zip_2 _ _) (λobj=>F.args_object_init_3 obj _ _) F.entry_zip_new (CL a b xs ys) ⟨ha,hb,?_⟩;have kp:∀c q,s.heap.get? c=some q->(jG s.heap a b).get? c=some q:=λc q e=>Yd _ (Yd _ (Yd _ (Yd _ (Yd _ e))))
 have g:(jG s.heap a b).get? s.heap.objs.size=some { cls:=.type "tuple_iterator",data:=.fields #[.ref a,.int 0 0] }:=Yd _ (Yd _ (Yd _ (Yd _ (Yg _ rfl))));have at_:∀(h:Heap) (n:Nat) (q:Obj),h.objs.size=n->q.isFreed=false->(h.push q).get? n=some q:=λh n q e f=>by rw[←e];exact Yg _ f
 have j:(jG s.heap a b).get? (s.heap.objs.size+1)=some { cls:=.type "tuple_iterator",data:=.fields #[.ref b,.int 0 0] }:=Yd _ (Yd _ (Yd _ (at_ _ _ _ (by simp only[Heap.size_push]) rfl)));have l:(jG s.heap a b).get? (s.heap.objs.size+2)=some { cls:=.type "tuple",data:=.seq #[.ref s.heap.objs.size,.ref (s.heap.objs.size+1)] }:=Yd _ (Yd _ (at_ _ _ _ (by simp only[Heap.size_push]) rfl));have m:(jG s.heap a b).get? (s.heap.objs.size+3)=some { cls:=.type "tuple",data:=.seq #[.none,.none] }:=Yd _ (at_ _ _ _ (by simp only[Heap.size_push]) rfl);have d:(jG s.heap a b).get? (s.heap.objs.size+4)=some { cls:=.type "zip",data:=.fields #[.none,.bool false,.bool false,.ref (s.heap.objs.size+2),.ref (s.heap.objs.size+3)] }:=at_ _ _ _ (by simp only[Heap.size_push]) rfl;have up:∀{c vs},s.heap.IsTuple c vs->(jG s.heap a b).IsTuple c vs:=λe=>by
  obtain⟨r,e1,e2⟩:=e;exact⟨r,kp _ _ e1,e2⟩
 exact⟨⟨_,d,rfl⟩,h _ ⟨d,l,⟨_,_,m⟩,⟨_,g,rfl,rfl⟩,⟨_,j,rfl,rfl⟩,up ha,up hb⟩ kp⟩
end
section
variable {X:Cx}{a_:Zc}{σ:L2.St}{H:Hp}{s:Shared}{h':Heap}
theorem ac.turnedC{ch:Zh}{tk:Nat}(I:ac X a_ σ H s)(k:∀b o,b∉ch->s.heap.get? b=some o->h'.get? b=some o)(hn:∀b∈ch,H b=none)
  (a:∀b∈ch,(b∈X.ex\/X.s₀.heap.objs.size<=b)/\b≠X.env.locals/\(∀x c,X.env.cells.lookup x=some c->c≠b)/\∀p∈X.pn++a_,p.1≠b):ac X a_ σ H { s with heap:=h',toks:=tk }:=
 I.call (g':=s.gens) (d':=s.drawn) (t':=tk) (DB k) (Ba I.hok k hn) I.bare a
end
def Ir(K:Za)(a b:Addr):It:=
 ⟨λi H=>∃xs ys x y,bG K H a xs/\bG K H b ys/\xs[i]?=some x/\ys[i]?=some y,λi H x H'=>∃u v p,(∀xs,bG K H a xs->xs[i]?=some u)/\(∀ys,bG K H b ys->ys[i]?=some v)/\H p=none/\H'=aM H p (.tup [u,v])/\x=.ref p,λi H=>∃xs ys,bG K H a xs/\bG K H b ys/\xs.length=i⟩
theorem Bf{P:Zt}{w:World}{K:Za}{n:Zg}{V:Nat}{tp:Pos}(z u o i j a b:Addr)(D:yA z u o i j a b):Turn P w K (.Tuple n V tp) (Ir K a b) [z,u,o,i,j] z (λk h=>IsZip h z u o .none/\IsPair h u (.ref i) (.ref j)/\(∃p q,IsPair h o p q)/\h.IsTupleIter i a k/\h.IsTupleIter j b k) where
 mem:=by simp
 obj:=λk h st c hc=>by
  obtain⟨hz,hu,⟨p,q,f⟩,⟨N,e1,c1,W⟩,⟨O,e2,c2,Y⟩⟩:=st;have D_:c=z\/c=u\/c=o\/c=i\/c=j:=by simpa using hc
  rcases D_ with rfl | rfl | rfl | rfl | rfl
  ·exact⟨_,hz,λv y=>by cases y⟩
  ·exact⟨_,hu,λv y=>by cases y⟩
  ·exact⟨_,f,λv y=>by cases y⟩
  ·exact⟨N,e1,λv y=>by rw[W] at y;cases y⟩
  ·exact⟨O,e2,λv y=>by rw[Y] at y;cases y⟩
 keep:=λk h h' st kp=>by
  obtain⟨hz,hu,⟨p,q,f⟩,hi,m⟩:=st;exact⟨kp z (by simp) _ hz,kp u (by simp) _ hu,⟨p,q,kp o (by simp) _ f⟩,hi.at λr x=>kp i (by simp) r x,m.at λr x=>kp j (by simp) r x⟩
 item:=by
  intro X A hw B hc k a_ s σ H E I d st C;subst A hw B;obtain⟨xs,ys,x,y,ha,hb,hx,hy⟩:=C;obtain⟨Z,F,G,za⟩:=I.tuple ha;obtain⟨ib,R,J,zb⟩:=I.tuple hb;obtain⟨S,Rp,Rq⟩:=F.get hx;obtain⟨T,Rr,Rt⟩:=R.get hy;obtain⟨hz,hu,f,hi,m⟩:=st;have t:=d z (by simp);refine Bd D ⟨hz,hu,f,hi,m,G,J⟩ (x:=S) (y:=T) (by simpa using Rp) (by simpa using Rr) λh' r_ hT hk=>⟨_,rfl,?_⟩
  have OX:H s.heap.objs.size=none:=I.hok.fresh (YE _);have I1:ac X a_ σ (aM H s.heap.objs.size (.tup [x,y])) { s with heap:=h',toks:=s.toks }:=ac.turnedT (ch:=[z,u,o,i,j]) (b_:=[S,T]) I
   (λc r hc q=>hk c r (λz=>hc (by simp[z])) (λz=>hc (by simp[z])) (λz=>hc (by simp[z])) (λz=>hc (by simp[z])) q)
   (λc hc=>(d c hc).1) (λc hc=>⟨(d c hc).2.2.2.1,(d c hc).2.1,(d c hc).2.2.2.2.1,(d c hc).2.2.2.2.2⟩) (YE _) (.cons Rq (.cons Rt .nil)) (by show 2<=sizeLine;decide) ⟨_,hT,rfl,_,rfl⟩
  have g:∀c∈[z,u,o,i,j],c≠s.heap.objs.size:=λc hc y=>by
   have lt:∀{c:Addr}{r:Obj},s.heap.get? c=some r->c≠s.heap.objs.size:=λe=>ZS (Ye e)
   have D_:c=z\/c=u\/c=o\/c=i\/c=j:=by simpa using hc
   obtain⟨p,q,f⟩:=f;obtain⟨N,e1,_⟩:=hi;obtain⟨O,e2,_⟩:=m;rcases D_ with rfl | rfl | rfl | rfl | rfl
   ·exact lt hz y
   ·exact lt hu y
   ·exact lt f y
   ·exact lt e1 y
   ·exact lt e2 y
  obtain⟨z1,u1,L,i1,j1,_,_⟩:=r_;refine wpAny_letOwnedTupleGo_zip (s:={ s with heap:=h' }) z1 λU z2 l=>?_
  have l:Heap.SameBut z h' U:=l;have I2:=L2.ac.turned (h':=U) (t':=s.toks) (it:=z) I1 (λc r hc q=>(l.2 c hc).trans q) (by rw[aG (g z (by simp))];exact t.1) t.2.1 t.2.2.2.1 t.2.2.2.2.1 t.2.2.2.2.2;obtain⟨p,q,L⟩:=L;refine⟨.ref s.heap.objs.size,_,I2,rfl,⟨x,y,s.heap.objs.size,λvs hv=>by rw[I.tuple_inj hv ha];exact hx,λvs hv=>by rw[I.tuple_inj hv hb];exact hy,OX,rfl,rfl⟩,⟨z2,(l.2 u D.uz).trans u1,⟨p,q,(l.2 o D.oz).trans L⟩,i1.at λr e=>(l.2 i D.iz).trans e,j1.at λr e=>(l.2 j D.jz).trans e⟩,λc hc=>?_⟩;rw[aG (g c hc)];exact(d c hc).1
 done:=by
  intro X A hw B hc k a_ s σ H E I d st C;subst A hw B;obtain⟨xs,ys,ha,hb,hx⟩:=C;obtain⟨Z,F,G,za⟩:=I.tuple ha;obtain⟨ib,R,J,zb⟩:=I.tuple hb;obtain⟨hz,hu,f,hi,m⟩:=st;have hl:=F.length;refine CK (I.ok.hd hc) D ⟨hz,hu,f,hi,m,G,J⟩ (by simp;omega) λh' hk=>⟨rfl,?_⟩
  exact ac.turnedC (ch:=[z,u,o,i,j]) (tk:=s.toks) I (λc r hc q=>hk c r (λz=>hc (by simp[z])) (λz=>hc (by simp[z])) (λz=>hc (by simp[z])) (λz=>hc (by simp[z])) q)
   (λc hc=>(d c hc).1) (λc hc=>⟨(d c hc).2.2.2.1,(d c hc).2.1,(d c hc).2.2.2.2.1,(d c hc).2.2.2.2.2⟩)
 self:=λ_ _ _ _ _ st h=>wpAny_pyIter_zip st.1 h
def gW:List D->List D->List D
 |x::xs,y::ys=>.tup [x,y]::gW xs ys
 |_,_=>[]
theorem ql:∀{xs ys:List D},xs.length=ys.length->(gW xs ys).length=xs.length
 |[],_,_=>rfl
 |_::_,[],h=>by cases h
 |x::xs,y::ys,h=>by rw[gW,YI,YI,ql (by simpa using h)]
theorem wp:∀{xs ys:List D}{i:Nat}{x:D},(gW xs ys)[i]?=some x->∃d e,xs[i]?=some d/\ys[i]?=some e/\x=.tup [d,e]
 |[],_,_,_,h=>by rw[gW] at h;cases h;intros;contradiction
 |_::_,[],_,_,h=>by rw[gW] at h;cases h;intros;contradiction
 |a::xs,b::ys,0,x,h=>by
  rw[gW] at h;cases h;exact⟨a,b,rfl,rfl,rfl⟩
 |a::xs,b::ys,i+1,x,h=>by
  rw[gW] at h;exact wp (xs:=xs) (ys:=ys) (i:=i) (by simpa using h)
theorem CM{K:Za}{a b:Addr}{ds es:List D}{vs us:List V}{c:Hp}(sa:bG K c a vs)(g:ag K c ds vs)(f:bG K c b us)(j:ag K c es us)(hl:ds.length=es.length):rp K (Ir K a b) c (gW ds es) (λ_=>True):=by
 intro i H M k l _;have sa:=k.sq sa;have g:=ag.mono k _ g;have f:=k.sq f;have j:=ag.mono k _ j;rw[ql hl];have z:=g.len;have A:=j.len;refine⟨λhi=>⟨vs,us,vs[i]' 'c',us[i]' 'c',sa,f,ZD _,ZD _⟩,λhi=>⟨vs,us,sa,f,by omega⟩,λx H' d hd ⟨v,u,p,hv,hu,hp,e,y⟩=>?_⟩;subst e y;obtain⟨B,C,h1,m,rfl⟩:=wp hd;obtain⟨E,n,q⟩:=dU g.p h1;obtain⟨F,r,t⟩:=dU j.p m;have e1:=hv vs sa;have e2:=hu us f;rw[n] at e1;rw[r] at e2;cases e1;cases e2;have k:=Kp.new (o:=.tup [v,u]) hp;exact⟨k,l.newH hp,RV.tup_.2 ⟨p,_,rfl,bG.of aD,.cons (RV.mono k _ q) (.cons (RV.mono k _ t) .nil)⟩⟩
def GY(t:WA):WI:=λσ M R=>t σ M λds M1=>match ds with
 |[.tup xs,.tup ys]=>xs.length=ys.length/\R (gW xs ys) (λ_=>True) M1
 |_=>False
section
variable {X:Cx}{H:Hp}{pos:Pos}
theorem Fa{l r:Expr}{t:WA}{p:Pos}{d:Zg}{C:Nat}{tp:Pos}(E:Gl X "zip")(hm:X.mg "zip" = none)(h:et X [l,r] t)(F:ar l=true)(G:ar r=true):rq X (.Tuple d C tp) (.Call (.Name "zip" p) [l,r] [] pos) (GY t):=by
 intro σ M ρ H R rs J q a_ s I;refine Call_ (dc I E hm (by rfl':bootBuiltins "zip" = some (.type "zip")) (PyProof.Rows.callWith_type1 (aE (h σ M ρ H _ rs J q pos a_ s I) λus s1 K=>?_) (aX F) (by rw[aX G];rfl)));obtain⟨vs,j,f,g,⟨L,ds,M1,m,l1,N,q1⟩⟩:=K;try dsimp only at q1
 split at q1
 ·rename_i xs ys
  rw[ag] at m;obtain⟨v,JU,rfl,O,n⟩:=m;rw[ag] at n;obtain⟨v2,Rk,rfl,P,o⟩:=n;rw[ag] at o;subst o;obtain⟨a,S0,rfl,sa,u⟩:=RV.tup_.1 O;obtain⟨b,S1,rfl,y,S⟩:=RV.tup_.1 P;cases g with
  |cons T g=>
  cases g with
  |cons U g=>
  cases g;cases T;cases U;obtain⟨ia,fa,z,V⟩:=f.tuple sa;obtain⟨ib,fb,A,zb⟩:=f.tuple y;have W:a<s1.heap.objs.size:=by obtain⟨_,e,_⟩:=z;exact Ye e
  have Y:b<s1.heap.objs.size:=by obtain⟨_,e,_⟩:=A;exact Ye e
  refine Be z A λh' st hk=>?_
  obtain⟨hz,hu,Z,hi,hj,_,_⟩:=st;refine wpAny_pyIter_zip (s:={ s1 with heap:=h' }) hz ?_;have I2:ac X a_ ρ j { s1 with heap:=h' }:=f.kept (t':=s1.toks) hk;have D:=JD s1.heap.objs.size a b W Y;refine⟨s1.heap.objs.size+4,[s1.heap.objs.size+4,s1.heap.objs.size+2,s1.heap.objs.size+3,s1.heap.objs.size,s1.heap.objs.size+1],_,_,j,rfl,I2,Bf _ _ _ _ _ a b D,⟨hz,hu,Z,hi,hj⟩,λc hc=>?_,⟨L,_,_,M1,N,trivial,CM sa u y S q1.1,by rw[ql q1.1,u.len];exact V,q1.2⟩⟩;have B:s1.heap.objs.size<=c:=by
   have D_:c=s1.heap.objs.size+4\/c=s1.heap.objs.size+2\/c=s1.heap.objs.size+3\/c=s1.heap.objs.size\/c=s1.heap.objs.size+1:=by simpa using hc
   rcases D_ with rfl | rfl | rfl | rfl | rfl
   ·exact Nat.le_add_right _ _
   ·exact Nat.le_add_right _ _
   ·exact Nat.le_add_right _ _
   ·exact YE _
   ·exact Nat.le_add_right _ _
  exact f.fpOk B (f.hok.fresh B)
 ·exact Yh q1
end
end DD
namespace DD
open PySem L2
theorem zB:typeLookup (.type "str") "__int__" = pure none:=by rw[typeLookup_type,builtinLookup_eq_fast];kernel_rfl
theorem wq:typeLookup (.type "str") "__index__" = pure none:=by rw[typeLookup_type,builtinLookup_eq_fast];kernel_rfl
theorem wt:typeLookup (.type "str") "__trunc__" = pure none:=by rw[typeLookup_type,builtinLookup_eq_fast];kernel_rfl
theorem Ic{a:Type}{b:Model}{A:Around}{Z:Zb}{s:Shared}{m m':Sem a}{Q:a->Shared->Prop}(e:m=m')(h:wpAny b A m' Q Z s):wpAny b A m Q Z s:=e▸h
def iC(x:Str):Option Int:=([("1",1),("2",2),("3",3),("4",4),("5",5),("6",6)]:List (Str×Int)).lookup x
theorem CN{x:Str}{n:Int}(h:iC x=some n)(t:Tok):Meets (Builtin.«int.__new__» ⟨[.type "int",.str x t],[]⟩) (Made.int n).spec:=
 Meets.of_wp λprog w A R s a=>by
  obtain⟨hp,g,d,tk,os⟩:=s;have b:=F.conv_sub_int;have c:=F.madeHere_int;have f:(⟨hp,g,d,tk,os⟩:Shared).TypeIs (.str x t) "str":=rfl;have j:=zB;have l:=wq;have m:=wt;repeat (any_goals (first | assumption | wp_step))
  unfold iC at h;simp only[XD] at h;iterate 6
   split at h
   ·rename_i e
    have hn:=Yi h;obtain rfl:=eq_of_beq e;rw[if_pos (by rfl')];refine Yb (Yc ?_);dsimp only;refine Ic (m':=mkInt n) (by subst hn;kernel_rfl) (wpAny_mkInt ?_);exact Yc ⟨_,rfl,a⟩
  cases h
def u8:aI:=λds M Q=>match ds with
 |[.str x]=>aH (iC x) λn=>Q (.int n) M
 |ds=>nF ds M Q
theorem CO{prog:Zt}{w:World}{A:Around}{Z:Zb}{s:Shared}{x:Str}{n:Int}{t:Tok}{Q:Zb}(h:iC x=some n)(q:Q (.int n s.toks) { s with toks:=s.toks+1 }):
  wpAny 'f' A (call (.type "int") [.str x t]) Q Z s:=by
 exact call_int_1 (CN h t) (show(Made.int n).post _ s from⟨rfl,q⟩)
theorem Fb{X:Cx}:dl X (.type "int") u8:=by
 intro ds vs H M Q r a h;unfold u8 at h;split at h
 ·rename_i x
  obtain⟨n,e,q⟩:=bd h;obtain⟨v,rfl,b⟩:=c0 r;cases RV.str_.1 b;intro a_ s ρ us I c;obtain⟨u,rfl,t,rfl⟩:=vals1 c;exact CO e ⟨.int n,H,I.tok _,⟨_,rfl⟩,ay (RV.int_.2 rfl) a q⟩
 ·exact GT _ _ _ _ _ r a h
end DD
namespace DD
open PySem PySem.Spec PyProof.Rows L2
section
variable {X:Cx}{H:Hp}{pos:Pos}{e:Expr}{es:Zg}
inductive Bj where
 |int
 deriving DecidableEq
def wu:Bj->aI
 |.int=>u8
def rV:Bj->Str
 |.int=>"int"
theorem GZ(b:Bj)(hc:X.calm=true){t:WA}{p:Pos}(a:Gl X (rV b))(hm:X.mg (rV b)=none)(c:ar e=true)(d:es.all ar=true)(ha:et X (e::es) t):aL X (.Call (.Name (rV b) p) (e::es) [] pos) (cE (wu b) t):=by
 cases b with
 |int=>exact iy Fb a hm (by rfl') 'a' 'a' c d ha
end
theorem yB{K:Za}{H:Hp}{a:Type}{f:a->D}{g:a->V}(h:∀x,RV K H (f x) (g x)):∀(l:List a),ag K H (l.map f) (l.map g)
 |[]=>.nil
 |x::l=>.cons (h x) (yB h l)
def wv(ds:List D)(Q:List D->Prop):Prop:=match ds with
 |[.int j]=>(-1000000<j/\j<1000000)/\Q (cm 0 j)
 |[.int i,.int j]=>(-1000000<i/\i<1000000/\-1000000<j/\j<1000000)/\Q (cm i j)
 |_=>False
section
variable {X:Cx}{H:Hp}{pos:Pos}{e:Expr}{es:Zg}
structure Ie (K:Za) (C D:Addr) (b:Bool):Prop where
 cl:jv K C
 ha:PySem.W.findIn K (.ref C) "__class__" = some (some (.builtin "object.__class__"))
 hn:PySem.W.specialIn K (.builtin "object.__class__") "__get__" = some (some (.builtin "getset_descriptor.__get__"))
 ht:PySem.W.takesIn K (.builtin "object.__class__")=some true
 hm:PySem.W.mroIn K C (.type "object")=some true
 ki:PySem.W.kitOne K (.ref C) (.ref D)=some b
def Bg(K:Za)(C D:Addr)(b:Bool):Prop:=Ie K C D b\/XX.Jg K C D b
abbrev JE:=Addr->Addr->Option Bool
end
section
variable {prog:Zt}{w:World}{A:Around}{E:Zb}{s:Shared}{κ:Type}[DecidableEq κ]{knd:KeyKind prog w κ}
abbrev Ig(knd:KeyKind prog w κ)(a:List (κ×Value)):Nat->Value->Prop:=λi v=>∃k x,a[i]?=some (k,x)/\knd.is k v=true
end
section
variable {prog:Zt}{w:World}{A:Around}{E:Zb}{s:Shared}{κ:Type}[DecidableEq κ]{knd:KeyKind prog w κ}
theorem list_dict{Q:Zb}{d:Addr}{a:List (κ×Value)}{c:Nat}(f:A.handled=none)(hd:(d==sysModules)=false)(hm:s.heap.DictAt knd d a c)(hl:a.length<=2 ^ 24)
  (g:∀h' tk acc c',(∀b o,s.heap.get? b=some o->h'.get? b=some o)->h'.get? s.heap.objs.size=some { cls:=.type "list",dict:=none,data:=.seq acc c',slots:=#[] }->ItemsOf (Ig knd a) acc a.length ->
   Q (.ref s.heap.objs.size) { s with heap:=h',toks:=tk }):wpAny 'f' A (call (.type "list") [.ref d]) Q E s:=
 PySem.W.kdl_call (PySem.W.kdl_dict hd) f hm (by rw[sizeLine_eq];exact hl) g
end
section
variable {X:Cx}{H:Hp}
def ww:aI:=λds M Q=>match ds with
 |[.ref a]=>match Dw (M a) with
  |some b=>∀p,M p=none->Q (.ref p) (ad M p (.lst (keysOf b)))
  |none=>iA ds M Q
 |ds=>iA ds M Q
theorem uB{P:Zt}{w:World}:∀{xs:List (Key×Value)}{us:Zd},us.length=xs.length->(∀(i:Nat) (v:Value) (k:Key) (x:Value),us[i]?=some v->xs[i]?=some (k,x)->(bA P w).is k v=true)->am (xs.map λp=>kV p.1) us
 |[],[],_,_=>.nil
 |[],_::_,h,_=>by cases h
 |_::_,[],h,_=>by cases h
 |(k,x)::xs,u::us,h,g=>.cons (ye (g 0 u k x rfl rfl)) (uB (by simpa using h) λi v k x a b=>g (i+1) v k x (by simpa using a) (by simpa using b))
theorem CP(hc:X.calm=true):dl X (.type "list") ww:=by
 intro ds vs H M Q r d h;unfold ww at h;split at h
 ·rename_i a
  split at h
  ·rename_i g e1
   obtain⟨v,rfl,t⟩:=c0 r;cases RV.ref_.1 t;obtain⟨c,y,z,_⟩:=d.dict e1;intro a_ s ρ ws I A;obtain⟨u,rfl,B⟩:=vals1 A;cases B;obtain⟨hz,hd,xs,n,C⟩:=lI I.hok y;obtain⟨R,hm⟩:=C.dictAt;have E:xs.length=c.length:=n.length.symm;by_cases q:xs.length<=2 ^ 24
   ·refine list_dict (I.ok.hd hc) hd hm q λh' tk acc c' hk F j=>?_
    obtain⟨G,j⟩:=j;have hv:am (xs.map λp=>kV p.1) acc.toList:=uB (P:=X.prog) (w:=X.w) (by rw[←G];simp) λi v k x a b=>by
     obtain⟨k',S,hx,hi⟩:=j i v (by rw[←XS];exact a);rw[b] at hx;cases hx;exact hi
    have J:(xs.map λp=>kV p.1)=c.map λp=>kV p.1:=by
     have:=n.keys
     have f:(c.map (·.1)).map kV=(xs.map (·.1)).map kV:=by rw[this]
     rw[ZL,ZL] at f;exact f.symm
    rw[J] at hv;have l:H s.heap.objs.size=none:=I.hok.fresh (YE _);have L:=Kp.new (o:=.lst (c.map λp=>kV p.1)) l;have N:ag X.K (aM H s.heap.objs.size (.lst (c.map λp=>kV p.1))) (keysOf g) (c.map λp=>kV p.1):=by
     have f:keysOf g=(c.map (·.1)).map kD:=by unfold keysOf;rw[z,ZL];rfl
     have O:(c.map λp=>kV p.1)=(c.map (·.1)).map kV:=by rw[ZL];rfl
     rw[f,O];exact yB (λk=>Dv k) _
    exact⟨.ref s.heap.objs.size,_,I.laid (t':=tk) hk (YE _) (show bg X.prog X.w _ h' _ (.lst (c.map λp=>kV p.1)) from⟨by rw[ZF];exact hz,acc.toList,c',hv,by simpa using F⟩),rfl,L,.ref _,_,RV.ref_.2 rfl,d.new (m:=.lst (keysOf g)) l ⟨_,aD,N⟩,h _ (d.fresh l)⟩
   ·exact absurd (by rw[E];rw[sizeLine_eq] at hz;omega) q
  ·exact yq _ vs H M Q r d h
 ·exact yq _ vs H M Q r d h
end
section
variable {X:Cx}{H:Hp}{pos:Pos}{e:Expr}{es:Zg}
inductive Bk where
 |list
 deriving DecidableEq
def G0:Bk->aI
 |.list=>ww
def rW:Bk->Str
 |.list=>"list"
theorem G1(b:Bk)(hc:X.calm=true){t:WA}{p:Pos}(a:Gl X (rW b))(hm:X.mg (rW b)=none)(c:ar e=true)(d:es.all ar=true)(ha:et X (e::es) t):aL X (.Call (.Name (rW b) p) (e::es) [] pos) (cE (G0 b) t):=by
 cases b with
 |list=>exact iy (CP hc) a hm (by rfl') 'a' 'a' c d ha
end
end DD
namespace DD
open PySem PySem.Spec PyProof.Rows L2
open AutoSeq1 (wpAny_loadPart')
section
variable {prog:Zt}{w:World}{A:Around}{Z:Zb}{s:Shared}
theorem Fc{T b:String}{self a:Value}{k:Str×Value}(hl:typeLookup (.type T) "__init__" = pure (some (.builtin "object.__init__")))
  (hm:Bind.madeBy (.type T)=pure (some b)) (hd:(some b != some "object.__new__")=true):
  Meets (Builtin.«object.__init__» ⟨[self,a],[k]⟩) (λ_ R t=>t.TypeIs self T/\R (.ok (.ret .none)) t):=by
 refine .of_wp λpr c d R t ht=>?_
 obtain⟨f,q⟩:=ht;repeat (any_goals (first | assumption | wp_step))
 exact⟨_,rfl,q⟩
theorem G2(a v:Value):checkTypeCall "enumerate" ⟨[a],[("start",v)]⟩=pure ():=by kernel_rfl
theorem G3(a v:Value):checkBuiltinCall "enumerate.__new__" ⟨[.type "enumerate",a],[("start",v)]⟩=pure ():=by kernel_rfl
theorem G4(o a v:Value):argsOk "object.__init__" ⟨[o,a],[("start",v)]⟩:=by
 unfold argsOk;rw[signature?_of (id:="object.__init__") (n:=("__init__".toList).reverse) (o:=("object".toList).reverse) (by kernel_rfl) F.owner_object];kernel_rfl
set_option maxHeartbeats 8000000 in
theorem wx{T d:String}{l:Builtin}{a v:Value}{S:PySem.Spec}{Q:Zb}(b:TypeCalled T d "object.__init__")(hd:(some d != some "object.__new__")=true)
  (ct:checkTypeCall T ⟨[a],[("start",v)]⟩=pure ()) (cn:checkBuiltinCall d ⟨[.type T,a],[("start",v)]⟩=pure ())
  (p:entryFor table d=some l) (g:Meets (l ⟨[.type T,a],[("start",v)]⟩) S)
  (h:S A.in1 (wants (λo t=>t.TypeIs o T/\Q o t) Z) s):wpAny 'f' A (call (.type T) [a] [("start",v)]) Q Z s:=by
 obtain⟨c,tl,E⟩:=b.mro;have u:=b.made;have G:=b.sub;have I:=b.notType;have J:=b.canCreate;refine wpAny_call (codeAny_of_tree (show wpAny _ _ (callAny (.type T) _) _ _ _ from Yc ⟨Code.quiet_builtin _ (by rfl'),codeAny_builtin F.entry_type_call ?_⟩));rw[Around.under_plain (weight_type_call_type T [a] [("start",v)]) (units_type_call_type T [a] [("start",v)])];repeat (any_goals (first | assumption | wp_step))
 refine codeAny_mono (codeAny_call_builtin b.plain p (wpAny_of_eq cn (g prog w A.in1 _ s h))) λr t f=>?_
 cases r with
 |error e=>exact f
 |ok y=>
  cases y with
  |ret o=>
   obtain⟨m,q⟩:=f;have z:=b.init.lookup;have K:=b.init.bind o;repeat (any_goals (first | assumption | wp_step))
   refine codeAny_mono (codeAny_call_builtin b.init.plain F.entry_object_init (b.init.check _ _ _ _ _ _ _ _ m (G4 o a v) (Fc z u hd prog w A.in1 (wants (λr n=>r=Value.none/\Q o n) Z) t ⟨m,rfl,q⟩))) λB n j=>?_
   cases B with
   |error e=>exact j
   |ok C=>
    cases C with
    |ret r=>
     obtain⟨rfl,hq⟩:=j;repeat (any_goals (first | assumption | wp_step))
    |_=>exact j.elim
  |_=>exact f.elim
theorem Fd(l:Addr)(a:Zl)(m:Nat)(dct:Zm)(sl:Zn)(n:Int)(tok:Tok)(f:Builtin.SmallTypes.fitsIndex n=true):
  Meets (Builtin.«enumerate.__new__» ⟨[.type "enumerate",.ref l],[("start",.int n tok)]⟩) (λ_ R t=>t.heap.get? l=some { cls:=.type "list",dict:=dct,data:=.seq a m,slots:=sl } /\
   R (.ok (.ret (.ref (t.heap.push { cls:=.type "list_iterator",data:=.fields #[.ref l,.int 0 0] }).objs.size)))
    { t with heap:=(t.heap.push { cls:=.type "list_iterator",data:=.fields #[.ref l,.int 0 0] }).push { cls:=.type "enumerate",data:=.fields #[.none,.bool false,.ref t.heap.objs.size,rawInt n,.none,.none] } }):=
 .of_wp λpr j o R t h=>by
  obtain⟨hp,g,d,tk,os⟩:=t;obtain⟨hl,h⟩:=h;have p:=sub_enumerate;have c:Heap.IsList (Shared.heap ⟨hp,g,d,tk,os⟩) l a:=⟨_,hl,rfl,m,rfl⟩;wp_walk using wpAny_loadPart' hl;refine wpAny_stack_any λst=>?_
  refine wpAny_mono (Q:=λ(_:Bool) t=>t=⟨hp,g,d,tk,os⟩) (Yc rfl) (λb t ht=>?_) (λ_ _ x=>x);subst ht;cases b<;>(wp_walk using wpAny_loadPart' hl,wpAny_pyIter_list c;exact⟨_,rfl,h⟩)
theorem zC{l:Addr}{d:Zl}{n:Int}{tok:Tok}{Q:Zb}(j:s.heap.IsList l d)(p:Builtin.SmallTypes.fitsIndex n=true)
  (q:∀h',IsEnum h' (s.heap.objs.size+1) s.heap.objs.size n .none->h'.IsListIter s.heap.objs.size l 0 ->
   (∀b o,s.heap.get? b=some o->h'.get? b=some o)->Q (.ref (s.heap.objs.size+1)) { s with heap:=h' }):
  wpAny 'f' A (call (.type "enumerate") [.ref l] [("start",.int n tok)]) Q Z s:=by
 obtain⟨⟨cl,dct,r,sl⟩,hl,e1,m,e2⟩:=j;obtain rfl:cl=.type "list":=e1;obtain rfl:r=.seq d m:=e2;refine wx F.called_enumerate 'a' (G2 _ _) (G3 _ _) F.entry_enumerate_new (Fd l d m dct sl n tok p) ⟨hl,?_⟩;generalize eo:({ cls:=.type "list_iterator",data:=.fields #[.ref l,.int 0 0] }:Obj)=a;generalize ep:({ cls:=.type "enumerate",data:=.fields #[.none,.bool false,.ref s.heap.objs.size,rawInt n,.none,.none] }:Obj)=c;have g:(s.heap.push a).objs.size=s.heap.objs.size+1:=Heap.size_push ..;have t:(s.heap.push a).get? s.heap.objs.size=some a:=Yg _ (by rw[←eo];rfl);have f:((s.heap.push a).push c).get? (s.heap.objs.size+1)=some c:=by
  have:=Yg (s.heap.push a) (o:=c) (by rw[←ep];rfl)
  rwa [g] at this
 show _/\_;rw[g];exact⟨⟨c,f,by rw[←ep]⟩,q _ (by rw[←ep] at f ⊢;exact f) ⟨a,Yd _ t,by rw[←eo],by rw[←eo];rfl⟩ λb o y=>Yd _ (Yd _ y)⟩
theorem Ih{e it l:Addr}{c:Int}{i:Nat}{V:Zl}{x a:Value}{Q:Zb}(L:IsEnum s.heap e it c a)(JK:s.heap.IsListIter it l i)(hl:s.heap.IsList l V)(hx:V[i]?=some x)(C:e≠it)
  (q:∀h',IsEnumOut h' e it (c+1) x s.heap.objs.size->h'.IsListIter it l (i+1)->h'.get? s.heap.objs.size=some { cls:=.type "tuple",data:=.seq #[.int c s.toks,x] } ->
   (∀b o,b≠e->b≠it->s.heap.get? b=some o->h'.get? b=some o)->Q (.ref s.heap.objs.size) { s with heap:=h',toks:=s.toks+1 }):
  wpAny 'f' A (Builtin.«enumerate.__next__» ⟨[.ref e],[]⟩) (λfin t=>∃v,fin=.done (.ret v)/\Q v t) Z s:=by
 obtain⟨hp,g,d,tk,os⟩:=s;show wpAny _ _ (field (.ref e) 2 >>= _) _ _ _;refine Yb (wpAny_field L rfl (x:=.ref it) rfl (Yb (wpAny_nextOf_list_item JK hl hx λj W m=>?_)));have m:Heap.SameBut it hp j:=m;have e1:IsEnum j e it c a:=by rw[IsEnum,m.2 e C];exact L
 refine Yb (wpAny_field (s:=⟨j,g,d,tk,os⟩) e1 rfl (x:=rawInt c) rfl ?_);refine Yb (wpAny_field (s:=⟨j,g,d,tk,os⟩) e1 rfl (x:=.none) rfl ?_);refine Yb (show wpAny _ _ (mkInt c) _ _ ⟨j,g,d,tk,os⟩ from wpAny_mkInt ?_);refine Yb (show wpAny _ _ (setField (.ref e) 3 (rawInt (c+1))) _ _ ⟨j,g,d,tk+1,os⟩ from wpAny_setField_rec e1 (by simp) λE e2 p=>?_);have p:Heap.SameBut e j E:=p;have e2:IsEnum E e it (c+1) a:=e2;refine Yb (show wpAny _ _ (setField (.ref e) 4 .none) _ _ ⟨E,g,d,tk+1,os⟩ from wpAny_setField_rec e2 (by simp) λf F u=>?_);have u:Heap.SameBut e E f:=u;have F:IsEnum f e it (c+1) a:=F;have sz:f.objs.size=hp.objs.size:=by rw[u.1,p.1,m.1]
 refine Yb (show wpAny _ _ (newTuple [.int c tk,x]) _ _ ⟨f,g,d,tk+1,os⟩ from wpAny_newTuple ?_);have G:IsEnum (f.push { cls:=.type "tuple",data:=.seq #[.int c tk,x] }) e it (c+1) a:=Yd _ F;have Y:(f.push { cls:=.type "tuple",data:=.seq #[.int c tk,x] }).get? hp.objs.size=some { cls:=.type "tuple",data:=.seq #[.int c tk,x] }:=by rw[←sz];exact Yg _ rfl
 have k4:∀b o,b≠e->b≠it->hp.get? b=some o->(f.push { cls:=.type "tuple",data:=.seq #[.int c tk,x] }).get? b=some o:=
  λb o z N y=>Yd _ (u.extBut b o z (p.extBut b o z (m.extBut b o N y)))
 have j4:(f.push { cls:=.type "tuple",data:=.seq #[.int c tk,x] }).IsListIter it l (i+1):=by
  obtain⟨o,y,r⟩:=(W.extBut p.extBut C.symm).extBut u.extBut C.symm;exact⟨o,Yd _ y,r⟩
 have ne:hp.objs.size≠e:=Nat.ne_of_gt (Ye L);show wpAny _ _ (Builtin.SmallTypes.ownedTupleIsFree (.ref e) >>= _) _ _ ⟨_,g,d,tk+1,os⟩;rw[sz];generalize f.push { cls:=.type "tuple",data:=.seq #[.int c tk,x] }=B at G Y k4 j4;clear u p m F e2 e1 W sz;unfold Builtin.SmallTypes.ownedTupleIsFree;refine Yb (Yb (wpAny_field (s:=⟨B,g,d,tk+1,os⟩) G rfl (x:=.none) rfl (Yc ?_)));simp only[if_true];refine Yb (wpAny_rule (Yb (wpAny_field (s:=⟨B,g,d,tk+1,os⟩) G rfl (x:=a) rfl ?_)));refine Yb (wpAny_setField_rec (s:=⟨B,g,d,tk+1,os⟩) G (by simp) λI O P=>?_);have P:Heap.SameBut e B I:=P;have O:IsEnum I e it (c+1) x:=O;refine Yb ?_;unfold Builtin.SmallTypes.ownedTupleHandOut;refine Yb (wpAny_setField_rec (s:=⟨I,g,d,tk+1,os⟩) O (by simp) λJ R S=>?_);have S:Heap.SameBut e I J:=S;have R:IsEnumOut J e it (c+1) x hp.objs.size:=R;refine wpAny_setField_rec (s:=⟨J,g,d,tk+1,os⟩) R (by simp) λK T U=>?_
 have U:Heap.SameBut e J K:=U;have T:IsEnumOut K e it (c+1) x hp.objs.size:=T;have go:∀b o,b≠e->B.get? b=some o->K.get? b=some o:=λb o n y=>U.extBut b o n (S.extBut b o n (P.extBut b o n y))
 exact Yb (wpAny_letGo (Yc ⟨_,rfl,q K T (j4.at λo y=>go it o C.symm y) (go _ _ ne Y) λb o z N y=>go b o z (k4 b o z N y)⟩))
theorem zD{e it l:Addr}{c:Int}{i:Nat}{d:Zl}{x a:Value}{Q:Option Value->Shared->Prop}(f:IsEnum s.heap e it c a)(g:s.heap.IsListIter it l i)(hl:s.heap.IsList l d)(hx:d[i]?=some x)(j:e≠it)
  (q:∀h',IsEnumOut h' e it (c+1) x s.heap.objs.size->h'.IsListIter it l (i+1)->h'.get? s.heap.objs.size=some { cls:=.type "tuple",data:=.seq #[.int c s.toks,x] } ->
   (∀b o,b≠e->b≠it->s.heap.get? b=some o->h'.get? b=some o)->Q (some (.ref s.heap.objs.size)) { s with heap:=h',toks:=s.toks+1 }):
  wpAny 'f' A (pyNext (.ref e)) Q Z s:=by
 have ty:s.TypeIs (.ref e) "enumerate":=⟨_,f,rfl⟩;unfold pyNext;refine Yb (wpAny_attempt (wpAny_callSpecial?_slot (name:=Str.ofString "__next__") ty F.slot_enumerate_next (wpAny_call_entry F.slot_enumerate_next ty F.entry_enumerate_next ?_ (F.args_enumerate_next_1 _))));exact Ih f g hl hx j λh' m n p r=>Yc (q h' m n p r)
theorem Bh{e it l:Addr}{c:Int}{i:Nat}{d:Zl}{a:Value}{Q:Option Value->Shared->Prop}(g:A.handled=none)(f:IsEnum s.heap e it c a)(j:s.heap.IsListIter it l i)(hl:s.heap.IsList l d)(hx:d[i]?=none)
  (q:∀h',Heap.ExtBut it s.heap h'->Q none { s with heap:=h' }):wpAny 'f' A (pyNext (.ref e)) Q Z s:=by
 have ty:s.TypeIs (.ref e) "enumerate":=⟨_,f,rfl⟩;unfold pyNext;refine Yb (wpAny_attempt (wpAny_callSpecial?_slot (name:=Str.ofString "__next__") ty F.slot_enumerate_next (wpAny_call_entry F.slot_enumerate_next ty F.entry_enumerate_next ?_ (F.args_enumerate_next_1 _))));show wpAny _ _ (field (.ref e) 2 >>= λ_=>_) _ _ _;refine Yb (wpAny_field f rfl (x:=.ref it) rfl ?_);refine Yb (wpAny_nextOf_list_end g j hl hx λh' y m ⟨o,n,p⟩=>?_);exact Yb (wpAny_isInstance (T:="StopIteration") (b:=true) ⟨o,n,p⟩ isSubtype_stop (Yc (q _ m)))
end
def CQ(K:Za)(a:Addr)(n:Int):It:=
 ⟨λi H=>∃xs x,bw K H a xs/\xs[i]?=some x,λi H x H'=>∃v p,(∀xs,bw K H a xs->xs[i]?=some v)/\H p=none/\H'=aM H p (.tup [.int (n+i),v])/\x=.ref p,λi H=>∃xs,bw K H a xs/\xs.length<=i⟩
theorem zE{P:Zt}{w:World}{K:Za}{m:Zg}{J:Nat}{tp:Pos}(a e it:Addr)(n:Int)(F:e≠it):Turn P w K (.Tuple m J tp) (CQ K a n) [e,it] e (λi h=>(∃f,IsEnum h e it (n+i) f)/\h.IsListIter it a i) where
 mem:=by simp
 obj:=λi h st b hb=>by
  obtain⟨⟨f,g⟩,⟨o,L,c,d⟩⟩:=st;have t:b=e\/b=it:=by simpa using hb
  rcases t with rfl | rfl
  ·exact⟨_,g,λv z=>by cases z⟩
  ·exact⟨o,L,λv z=>by rw[d] at z;cases z⟩
 keep:=λi h h' st k=>by
  obtain⟨⟨f,g⟩,l⟩:=st;exact⟨⟨f,k e (by simp) _ g⟩,l.at λo x=>k it (by simp) o x⟩
 item:=by
  intro X y hw A hc i a_ s σ H E I j st B;subst y hw A;obtain⟨xs,x,hq,hx⟩:=B;obtain⟨b_,C,p,hz⟩:=I.list hq;obtain⟨u,hu,N⟩:=C.get hx;obtain⟨⟨f,g⟩,l⟩:=st;have r:=j e (by simp);refine zD g l p.isList (x:=u) (by simpa using hu) F λh' O R S hk=>⟨_,rfl,?_⟩
  have T:H s.heap.objs.size=none:=I.hok.fresh (YE _);have U:ac X a_ σ (aM H s.heap.objs.size (.tup [.int (n+i),x])) { s with heap:=h',toks:=s.toks+1 }:=ac.turnedT (ch:=[e,it]) (b_:=[.int (n+i) s.toks,u]) I
   (λb o hb q=>hk b o (λz=>hb (by simp[z])) (λz=>hb (by simp[z])) q)
   (λb hb=>(j b hb).1) (λb hb=>⟨(j b hb).2.2.2.1,(j b hb).2.1,(j b hb).2.2.2.2.1,(j b hb).2.2.2.2.2⟩) (YE _) (.cons ⟨_,rfl⟩ (.cons N .nil)) (by show 2<=sizeLine;decide) ⟨_,S,rfl,_,rfl⟩
  have neT:∀b∈[e,it],b≠s.heap.objs.size:=λb hb z=>by
   have t:b=e\/b=it:=by simpa using hb
   rcases t with rfl | rfl
   ·exact absurd (Ye g) (by rw[z];exact ZR _)
   ·obtain⟨_,V,_⟩:=l;exact absurd (Ye V) (by rw[z];exact ZR _)
  refine wpAny_letOwnedTupleGo_enum (s:={ s with heap:=h',toks:=s.toks+1 }) O λW Y G=>?_
  have Z:=L2.ac.turned (h':=W) (t':=s.toks+1) (it:=e) U (λb o hb q=>(G.2 b hb).trans q) (by rw[aG (neT e (by simp))];exact r.1) r.2.1 r.2.2.2.1 r.2.2.2.2.1 r.2.2.2.2.2;refine⟨.ref s.heap.objs.size,_,Z,rfl,⟨x,s.heap.objs.size,λys hy=>by rw[I.list_inj hy hq];exact hx,T,rfl,rfl⟩,⟨⟨u,by simpa [Int.add_assoc] using Y⟩,R.at λo q=>(G.2 it F.symm).trans q⟩,λb hb=>?_⟩;rw[aG (neT b hb)];exact(j b hb).1
 done:=by
  intro X y hw A hc i a_ s σ H E I j st B;subst y hw A;obtain⟨xs,hq,hx⟩:=B;obtain⟨b_,C,p,hz⟩:=I.list hq;obtain⟨⟨f,g⟩,l⟩:=st;obtain⟨f0,f1,f2,f3,f4,f5⟩:=j it (by simp);have hl:=C.length;exact Bh (I.ok.hd hc) g l p.isList (by simp;omega) λh' eb=>⟨rfl,I.turned (t':=s.toks) (λb o hb q=>eb b o hb q) f0 f1 f3 f4 f5⟩
 self:=λ_ _ _ _ _ st h=>by
  obtain⟨⟨f,g⟩,_⟩:=st;exact wpAny_pyIter_enum g h
theorem uC{K:Za}{a:Addr}{n:Int}{ds:List D}{f:Hp}{g:MH->Prop}(j:∀H M,RM K M H->g M->∃vs,bw K H a vs/\ag K H ds vs):rp K (CQ K a n) f (fj n ds) g:=by
 intro i H M _ c q;obtain⟨vs,sq,b⟩:=j H M c q;rw[jF];refine⟨λhi=>?_,λhi=>⟨vs,sq,by rw[←b.len];exact Nat.le_of_eq hi.symm⟩,λx H' d hd ⟨v,p,hv,hp,e,y⟩=>?_⟩
 ·have:i<vs.length:=by rw[←b.len];exact hi
  exact⟨vs,vs[i],sq,ZD this⟩
 ·subst e y
  obtain⟨d',h1,rfl⟩:=uA hd;obtain⟨m,l,r⟩:=dU b.p h1
  have:=hv vs sq
  rw[l] at this;cases this;have k:=Kp.new (o:=.tup [.int (n+i),v]) hp;refine⟨k,c.newH hp,RV.tup_.2 ⟨p,_,rfl,bG.of aD,.cons (RV.int_.2 rfl) (.cons (RV.mono k _ r) .nil)⟩⟩
def i9(t:WA)(tk:WE):WI:=λσ M R=>t σ M λds M1=>tk σ M1 λd M2=>match ds,d with
 |[.ref a],.int n=>match M2 a with
  |some (.lst xs)=>Builtin.SmallTypes.fitsIndex n=true/\R (fj n xs) (λM'=>M' a=some (.lst xs)) M2
  |some (.rol xs)=>Builtin.SmallTypes.fitsIndex n=true/\R (fj n xs) (λM'=>M' a=some (.rol xs)) M2
  |_=>False
 |_,_=>False
section
variable {X:Cx}{H:Hp}{pos:Pos}
theorem wy{a_:Zc}{ρ:L2.St}{s:Shared}{c:Zg}{f:Nat}{tp:Pos}{a:Addr}{n:Int}{tok:Tok}{xs:List V}{R:It->Hp->Prop}(I:ac X a_ ρ H s)(g:Builtin.SmallTypes.fitsIndex n=true)(hq:bw X.K H a xs)(q:R (CQ X.K a n) H):
  wpAny 'b' X.A (call (.type "enumerate") [.ref a] [("start",.int n tok)]) (λv s1=>wpAny 'b' X.A (pyIter v) (tQ X a_ ρ (.Tuple c f tp) R) X.xe s1) X.xe s:=by
 obtain⟨b_,o,p,hz⟩:=I.list hq;refine zC p.isList g λh' d j hk=>?_
 refine wpAny_pyIter_enum d ?_;have l:ac X a_ ρ H { s with heap:=h' }:=I.kept (t':=s.toks) hk;refine⟨s.heap.objs.size+1,[s.heap.objs.size+1,s.heap.objs.size],_,_,H,rfl,l,zE a _ _ n (Nat.succ_ne_self _),⟨⟨.none,by simpa using d⟩,j⟩,λb hb=>?_,q⟩;have m:b=s.heap.objs.size+1\/b=s.heap.objs.size:=by simpa using hb
 rcases m with rfl | rfl
 ·exact I.fpOk (Nat.le_succ _) (I.hok.fresh (Nat.le_succ _))
 ·exact I.fpOk (YE _) (I.hok.fresh (YE _))
theorem wz{a:Model}{A:Around}{Z:Zb}{s:Shared}{env:Env}{T:String}{e v:Expr}{k:Str}{kp:Pos}{Q:Zb}
  (h:wpAny a A (spliced (backTo pos (starEach [e] env))) (λvs t=>wpAny a A (eval v env) (λu b=>wpAny a A (call (.type T) vs [(k,u)]) Q Z b) Z t) Z s)
  (c:starEach [e] env=[(false,eval e env)]):
  wpAny a A (callWith pos (.type T) [] (backTo pos (starEach [e] env)) (backToKw pos (keywordEach [⟨some k,v,kp⟩] env))) Q Z s:=by
 rw[c] at h ⊢;unfold callWith;refine Yb (Yj (evalArgs_kwB rfl (wpAny_mono h (λvs t h1=>kws_cons (wpAny_mono h1 (λu b d=>kws_nil ?_) λ_ _ y=>y)) λ_ _ y=>y)));refine Yb (Yk (Yb (Yc (Yb ?_))));exact wpAny_mono d (λr g f=>Yb (Yj (wpAny_point (Yc f)))) λ_ _ y=>y
theorem Bl{l v:Expr}{t:WA}{tk:WE}{p kp:Pos}{c:Zg}{C:Nat}{tp:Pos}(E:Gl X "enumerate")(hm:X.mg "enumerate" = none)(h:et X [l] t)(hv:aL X v tk)(F:ar l=true):rq X (.Tuple c C tp) (.Call (.Name "enumerate" p) [l] [⟨some "start",v,kp⟩] pos) (i9 t tk):=by
 intro σ M ρ H R rs G q a_ s I;refine wpAny_Call_Name_kw (dc I E hm (by rfl':bootBuiltins "enumerate" = some (.type "enumerate")) (wz (aE (h σ M ρ H _ rs G q pos a_ s I) λus s1 ⟨vs,J,L,N,⟨m,ds,M1,f,Y,O,q1⟩⟩=>?_) (aX F)));refine aE (hv σ M1 ρ J _ (rs.mono m) O q1 a_ s1 L) λP s2 ⟨Z,S,g,T,⟨o,d,M2,U,j,b⟩⟩=>?_
 dsimp only at b;split at b
 ·rename_i a n _
  replace f:=ag.mono o _ f;rw[ag] at f;obtain⟨v1,JU,rfl,V,B⟩:=f;rw[ag] at B;subst B;cases RV.ref_.1 V;obtain⟨u,rfl,W⟩:=N.one;cases W;cases RV.int_.1 U;obtain⟨tok,rfl⟩:∃tok,P=Value.int n tok:=T;split at b
  ·rename_i xs e
   obtain⟨ys,e1,r⟩:=j a _ e;obtain⟨_,_,_,hz⟩:=g.list (bw.of e1);refine wy g b.1 (bw.of e1) ⟨m.trans o,_,_,M2,j,e,uC λH' M' y g'=>?_,by rw[jF,r.len];exact hz,b.2⟩;obtain⟨z,e',A⟩:=y a _ g';exact⟨z,bw.of e',A⟩
  ·rename_i xs e
   obtain⟨ys,e1,r⟩:=j a _ e;have e1:bw X.K S a ys:=.inl e1;obtain⟨_,_,_,hz⟩:=g.list e1;refine wy g b.1 e1 ⟨m.trans o,_,_,M2,j,e,uC λH' M' y g'=>?_,by rw[jF,r.len];exact hz,b.2⟩;obtain⟨z,e',A⟩:=y a _ g';exact⟨z,.inl e',A⟩
  ·exact Yh b
 ·exact Yh b
end
end DD
namespace DD
open PySem PySem.Spec PyProof.Rows L2
set_option genInjectivity false
set_option genSizeOf false
set_option genCtorIdx false
mutual
inductive E where
 |var (i:Nat) | int (i:Int) | str (x:Str) | bl (b:Bool) | non | glob (j:Nat) | ty (T:String)
 |bin (o:Operator) (a b:E) | cmp (o:CmpOp) (a b:E)
 |and (a b:E) | or (a b:E) | not (a:E) | ite (c:T) (a b:E)
 |fn (j:Nat) (es:Es) | bi (b:Bi) (es:Es) | mt (m:Mt) (o:E) (es:Es)
 |ix (a b:E) | sl (a:E) (lo hi:Eo) | lst (es:Es) | tup (es:Es) | comp (n:Nat) (e:E) (t:cC) (i:I) (c:To)
 |neg (a:E) | dct (ps:Ps) | fld (o:E) (f:Str) | lenSet (a:E) | lenDif (a b:E) | bj (b:Bj) (es:Es) | bk (b:Bk) (es:Es)
inductive Ps where
 |nil | cons (k v:E) (r:Ps)
inductive Es where
 |nil | cons (e:E) (es:Es)
inductive Eo where
 |no | yes (e:E)
inductive To where
 |no | yes (t:T)
inductive T where
 |val (e:E) | cmp (o:CmpOp) (a b:E) | and (t u:T) | or (t u:T) | not (t:T)
inductive I where
 |seq (e:E) | rg1 (es:Es) | rg2 (es:Es) | enumS (es:Es) (k:E) | zip (es:Es)
end
mutual
inductive S where
 |set (i:Nat) (e:E) | setC (i n:Nat) (e:E) (t:cC) (it:I) (c:To) | asg (g:cC) (e:E) | expr (e:E) | ret (e:E)
 |ite (t:T) (a b:Ss) | for (g:cC) (it:I) (b:Ss) | never
 |putIx (o i e:E) | setF (o:E) (f:Str) (e:E)
inductive Ss where
 |nil | cons (s:S) (r:Ss)
end
set_option genInjectivity true
set_option genSizeOf true
set_option genCtorIdx true
structure Cn where
 F:List aI
 G:List D
 O:rN
 T:GX
 I:JE:=λ_ _=>none
 P:rN:=λ_ _=>False
section
variable (c:Cn)
mutual
noncomputable def wE:E->WE
 |.var i=>λσ M Q=>gR σ i λd=>Q d M
 |.int i=>λ_ M Q=>Q (.int i) M
 |.str i=>λ_ M Q=>Q (.str i) M
 |.bl i=>λ_ M Q=>Q (.bl i) M
 |.non=>λ_ M Q=>Q .non M
 |.glob j=>λ_ M Q=>Q (c.G.getD j .non) M
 |.ty n=>λ_ M Q=>Q (.ty n) M
 |.bin o a b=>io (pT o) (wE a) (wE b)
 |.cmp o a b=>io (nz o) (wE a) (wE b)
 |.and a b=>lM (wE a) (wE b)
 |.or a b=>pH (wE a) (wE b)
 |.not a=>lN (wE a)
 |.ite t a b=>vC (wT t) (wE a) (wE b)
 |.fn j es=>cE (c.F.getD j λ_ _ _=>False) (wEs es)
 |.bi b es=>cE (vZ b) (wEs es)
 |.lenSet a=>fJ (wE a)
 |.lenDif a b=>fL (wE a) (wE b)
 |.bj b es=>cE (wu b) (wEs es)
 |.bk b es=>cE (G0 b) (wEs es)
 |.mt m o es=>rJ (qb m) (v9 m) (wE o) (wEs es)
 |.ix a b=>io nA (wE a) (wE b)
 |.sl a lo hi=>vT (wE a) (wEo lo) (wEo hi)
 |.lst es=>nj (wEs es)
 |.tup es=>pK (wEs es)
 |.comp n e t i d=>iu n (wI i) t (pf d) (wE e)
 |.neg a=>qc (wE a)
 |.dct ps=>mh (wP ps)
 |.fld o f=>qg c.O c.P f (wE o)
noncomputable def wP:Ps->List (WE×WE)
 |.nil=>[]
 |.cons k v r=>(wE k,wE v)::wP r
noncomputable def wEs:Es->WA
 |.nil=>lO
 |.cons e es=>gv (wE e) (wEs es)
noncomputable def wEo:Eo->WO
 |.no=>λ_ M Q=>Q none M
 |.yes e=>λσ M Q=>wE e σ M λx M1=>intD x λi=>Q (some i) M1
noncomputable def pf:To->WT
 |.no=>λ_ M Q=>Q true M
 |.yes t=>wT t
noncomputable def wT:T->WT
 |.val e=>pJ (wE e)
 |.cmp o a b=>lL (io (nz o) (wE a) (wE b))
 |.and t u=>pF (wT t) (wT u)
 |.or t u=>vA (wT t) (wT u)
 |.not t=>pG (wT t)
noncomputable def wI:I->WI
 |.seq e=>iq (wE e)
 |.rg1 es=>l7 (wEs es)
 |.rg2 es=>l8 (wEs es)
 |.enumS es k=>i9 (wEs es) (wE k)
 |.zip es=>GY (wEs es)
end
mutual
noncomputable def wS:S->WS
 |.set i e=>lY i (wE c e)
 |.setC i n e t it d=>l9 i n (wI c it) t (pf c d) (wE c e)
 |.asg g e=>pP (wE c e) g
 |.expr e=>jA (wE c e)
 |.ret e=>pN (wE c e)
 |.ite t a b=>pO (wT c t) (wSs a) (wSs b)
 |.for g it b=>pQ (wI c it) g (wSs b)
 |.never=>λ_ _ _=>False
 |.putIx o i e=>i7 (wE c e) (wE c o) (wE c i)
 |.setF o f e=>mj c.O f (wE c o) (wE c e)
noncomputable def wSs:Ss->WS
 |.nil=>lX
 |.cons s r=>iZ (wS s) (wSs r)
end
end
structure cH where
 N:List Str
 sc:Scope
 all:Bool
 glob:List Str
 blt:List Str
 fns:List Str
def zF:Option NameKind->Bool
 |some .local=>true
 |some .cell=>true
 |some .free=>true
 |_=>false
def zG:Option NameKind->Bool
 |some .local=>true
 |some .cell=>true
 |_=>false
def Bm(Γ:cH)(i:Nat)(x:Str):Bool:=decide (Γ.N[i]?=some x)&&zF (Γ.sc.names.lookup x) && !(x==("__debug__" : Str)) && !(x==("__classdict__" : Str))
def nK(Γ:cH)(i:Nat)(x:Str):Bool:=decide (Γ.N[i]?=some x)&&zG (Γ.sc.names.lookup x)&&(Γ.all||decide (Γ.sc.names.lookup x=some .local))
def cT(Γ:cH)(x:Str):Bool:=decide (Γ.sc.names.lookup x=some .globalImplicit) && !(x==("__debug__" : Str))
def rX:List String:=["bool","int","str","tuple","list","dict"]
def ownOf(sc:Scope):List Str:=sc.names.filterMap λp=>if p.2=.local/\p.1≠(".0" : Str) then some p.1 else none
def tD(Γ:cH)(sc:Scope):List Str:=Γ.N.map λy=>if sc.names.lookup y=some .local then "" else y
def yC(Γ:cH):Bool:=Γ.blt.contains ("raise" : Str)
def kL(Γ:cH)(sc:Scope):Bool:=!yC Γ&&decide (sc.kind=.function)&&sc.names.all (λy=>decide (y.2≠.cell))&&sc.names.all (λy=>decide (y.2=.local->sc.names.lookup y.1=some .local)) &&
 sc.names.all (λy=>decide (y.2=.free->(Γ.sc.names.lookup y.1=some .cell\/Γ.sc.names.lookup y.1=some .free)))&&((tD Γ sc).zip Γ.N).all (λp=>decide ((sc.names.lookup p.1=some .free->p.1=p.2)/\sc.names.lookup p.1≠some .local))&&decide ((tD Γ sc++ownOf sc).Nodup)
def CS(sc JL:Scope):Scope:={ sc with names:=sc.names.map λ(p:Str×NameKind)=>if(p.2==NameKind.free&&JL.kind==.function&&JL.names.lookup p.1==some .cell)=true then(p.1,NameKind.cell) else(p.1,p.2) }
def inComp(Γ:cH)(sc:Scope):cH:={ Γ with N:=tD Γ sc++ownOf sc,sc:=CS sc Γ.sc,all:=false }
def rY(Γ:cH):List Nat->List Expr->Bool
 |[],[]=>true
 |i::is,.Name x _::es=>nK Γ i x&&rY Γ is es
 |_,_=>false
def oy(Γ:cH):cC->Expr->Bool
 |.nm i,.Name x _=>nK Γ i x
 |.tp is,.Tuple es _ _=>rY Γ is es
 |_,_=>false
def Bo:Expr->Bool
 |.UnaryOp .Not _ _=>false
 |.BoolOp _ _ _=>false
 |.IfExp _ _ _ _=>false
 |.Compare _ _ _ _=>false
 |_=>true
def dq:Expr->Option (Str×List Expr×List Keyword)
 |.Call f es ks _=>match f with
  |.Name x _=>some (x,es,ks)
  |_=>none
 |_=>none
def wA(e:Expr):Option (Str×Str×List Expr):=match dq e with
 |some (x,[c],[])=>match dq c with
  |some (y,es,[])=>some (x,y,es)
  |_=>none
 |_=>none
def isTup:Expr->Bool
 |.Tuple _ _ _=>true
 |_=>false
theorem Iu{b:Type}{a:b}{P:Prop}(h:none=some a):P:=by cases h
theorem ff{P:Prop}(h:false=true):P:=by cases h
theorem bX{e:Expr}{x:Str}{es:Zg}{ks:List Keyword}(h:dq e=some (x,es,ks)):∃p q,e=.Call (.Name x p) es ks q:=by
 cases e with
 |Call f es ks q=>
  cases f with
  |Name x p=>cases h;exact⟨p,q,rfl⟩
  |_=>exact Iu h
 |_=>exact Iu h
theorem Bp{e:Expr}{x y:Str}{es:Zg}(h:wA e=some (x,y,es)):∃p q a b,e=.Call (.Name x p) [.Call (.Name y a) es [] b] [] q:=by
 unfold wA at h;split at h
 ·rename_i h1
  split at h
  ·rename_i c
   cases h;obtain⟨p,q,rfl⟩:=bX h1;obtain⟨a,b,rfl⟩:=bX c;exact⟨p,q,a,b,rfl⟩
  ·cases h
 ·cases h
theorem wB{e:Expr}(h:isTup e=true):∃es k p,e=.Tuple es k p:=by
 cases e with
 |Tuple es k p=>exact⟨es,k,p,rfl⟩
 |_=>exact ff h
def CT:Expr->Option (Expr×Expr)
 |.BinOp l .Sub r _=>some (l,r)
 |_=>none
theorem Fe{e l r:Expr}(h:CT e=some (l,r)):∃p,e=.BinOp l .Sub r p:=by
 unfold CT at h;split at h
 ·cases h;exact⟨_,rfl⟩
 ·cases h
def CU(e:Expr):Option (Str×Str×Str×Expr×Expr):=match dq e with
 |some (x,[c],[])=>match CT c with
  |some (l,r)=>match dq l,dq r with
   |some (y,[a],[]),some (z,[b],[])=>some (x,y,z,a,b)
   |_,_=>none
  |none=>none
 |_=>none
theorem Ff{e a b:Expr}{x y z:Str}(h:CU e=some (x,y,z,a,b)):∃p q c q1 d f g,e=.Call (.Name x p) [.BinOp (.Call (.Name y c) [a] [] q1) .Sub (.Call (.Name z d) [b] [] f) g] [] q:=by
 unfold CU at h;split at h
 ·rename_i h1
  split at h
  ·rename_i j
   split at h
   ·rename_i l m
    cases h;obtain⟨p,q,rfl⟩:=bX h1;obtain⟨g,rfl⟩:=Fe j;obtain⟨c,q1,rfl⟩:=bX l;obtain⟨d,f,rfl⟩:=bX m;exact⟨p,q,c,q1,d,f,g,rfl⟩
   ·cases h
  ·cases h
 ·cases h
mutual
noncomputable def aA:cH->E->Expr->Bool
 |Γ,.var i,e=>match e with
  |.Name x _=>Bm Γ i x
  |_=>false
 |_,.int i,e=>match e with
  |.Constant (.int j) _ _=>decide (i=j)
  |_=>false
 |_,.str i,e=>match e with
  |.Constant (.str j) _ _=>decide (i=j)
  |_=>false
 |_,.bl i,e=>match e with
  |.Constant (.bool j) _ _=>decide (i=j)
  |_=>false
 |_,.non,e=>match e with
  |.Constant .none _ _=>true
  |_=>false
 |Γ,.glob j,e=>match e with
  |.Name x _=>cT Γ x&&decide (Γ.glob[j]?=some x)
  |_=>false
 |Γ,.ty n,e=>match e with
  |.Name x _=>cT Γ x&&Γ.blt.contains x&&decide (x=Str.ofString n)&&rX.contains n
  |_=>false
 |Γ,.bin o a b,e=>match e with
  |.BinOp l op r _=>decide (o=op)&&aA Γ a l&&aA Γ b r
  |_=>false
 |Γ,.cmp o a b,e=>match e with
  |.Compare l [op] [r] _=>decide (o=op)&&aA Γ a l&&aA Γ b r && !(behindInMarks op r)
  |_=>false
 |Γ,.and a b,e=>match e with
  |.BoolOp .And [l,r] _=>aA Γ a l&&aA Γ b r
  |.BoolOp .And (l::r::q::rest) pos=>aA Γ a l&&aA Γ b (.BoolOp .And (r::q::rest) pos)
  |_=>false
 |Γ,.or a b,e=>match e with
  |.BoolOp .Or [l,r] _=>aA Γ a l&&aA Γ b r
  |.BoolOp .Or (l::r::q::rest) pos=>aA Γ a l&&aA Γ b (.BoolOp .Or (r::q::rest) pos)
  |_=>false
 |Γ,.not a,e=>match e with
  |.UnaryOp .Not l _=>aA Γ a l
  |_=>false
 |Γ,.ite c a b,e=>match e with
  |.IfExp t l r _=>dj Γ c t&&aA Γ a l&&aA Γ b r
  |_=>false
 |Γ,.fn j es,e=>match dq e with
  |some (x,a::as,[])=>cT Γ x&&decide (Γ.fns[j]?=some x)&&ar a&&as.all ar&&c6 Γ es (a::as)
  |_=>false
 |Γ,.bi b es,e=>match dq e with
  |some (x,a::as,[])=>cT Γ x&&Γ.blt.contains x&&decide (x=rG b)&&ar a&&as.all ar&&c6 Γ es (a::as)
  |_=>false
 |Γ,.bj b es,e=>match dq e with
  |some (x,a::as,[])=>cT Γ x&&Γ.blt.contains x&&decide (x=rV b)&&ar a&&as.all ar&&c6 Γ es (a::as)
  |_=>false
 |Γ,.bk b es,e=>match dq e with
  |some (x,a::as,[])=>cT Γ x&&Γ.blt.contains x&&decide (x=rW b)&&ar a&&as.all ar&&c6 Γ es (a::as)
  |_=>false
 |Γ,.lenDif a b,e=>match CU e with
  |some (x,y,z,l,r)=>cT Γ x&&Γ.blt.contains x&&decide (x=("len" : Str))&&cT Γ y&&Γ.blt.contains y&&decide (y=("set" : Str))&&decide (z=("set" : Str))&&ar l&&ar r&&aA Γ a l&&aA Γ b r
  |none=>false
 |Γ,.lenSet a,e=>match wA e with
  |some (x,y,[l])=>cT Γ x&&Γ.blt.contains x&&decide (x=("len" : Str))&&cT Γ y&&Γ.blt.contains y&&decide (y=("set" : Str))&&ar l&&aA Γ a l
  |_=>false
 |Γ,.mt m o es,e=>match e with
  |.Call (.Attribute l x v_) (a::as) [] pos=>decide (x=A1 m)&&aA Γ o l&&fI l&&ar a&&as.all ar&&decide (as.length<20)&&(v_.endLine==pos.line)&&c6 Γ es (a::as)
  |_=>false
 |Γ,.ix a b,e=>match e with
  |.Subscript l r _=>aA Γ a l&&aA Γ b r&&i6 r
  |_=>false
 |Γ,.sl a lo hi,e=>match e with
  |.Subscript l (.Slice x y none _) _=>aA Γ a l&&rZ Γ lo x&&rZ Γ hi y
  |_=>false
 |Γ,.lst es,e=>match e with
  |.List as _=>c6 Γ es as&&decide (as.length<=1000)
  |_=>false
 |Γ,.tup es,e=>match e with
  |.Tuple as _ _=>c6 Γ es as&&decide (as.length<=1000)
  |_=>false
 |Γ,.comp n e t i c,ex=>match ex with
  |.ListComp w_ [⟨tg,it,ifs,ia⟩] sc _=>kL Γ sc&&decide (n=(ownOf sc).length)&&decide (ia=0)&&ml Γ i tg it&&i3 it&&oy (inComp Γ sc) t tg&&r6 (inComp Γ sc) c ifs&&aA (inComp Γ sc) e w_
  |_=>false
 |Γ,.neg a,e=>match e with
  |.UnaryOp .USub l _=>aA Γ a l
  |_=>false
 |Γ,.dct ps,e=>match e with
  |.Dict (k::ks) vs _=>wC Γ ps (k::ks) vs&&decide ((k::ks).length<=15)
  |_=>false
 |Γ,.fld o f,e=>match e with
  |.Attribute l x _=>aA Γ o l&&decide (x=f)&&fI l
  |_=>false
noncomputable def wC:cH->Ps->List (Option Expr)->List Expr->Bool
 |_,.nil,ks,vs=>match ks,vs with
  |[],[]=>true
  |_,_=>false
 |Γ,.cons k v r,ks,vs=>match ks,vs with
  |some x::ks,y::vs=>aA Γ k x&&aA Γ v y&&wC Γ r ks vs
  |_,_=>false
noncomputable def c6:cH->Es->List Expr->Bool
 |_,.nil,as=>match as with
  |[]=>true
  |_=>false
 |Γ,.cons e es,as=>match as with
  |a::as=>aA Γ e a&&ar a&&c6 Γ es as
  |_=>false
noncomputable def rZ:cH->Eo->Option Expr->Bool
 |_,.no,a=>match a with
  |none=>true
  |_=>false
 |Γ,.yes e,a=>match a with
  |some a=>aA Γ e a
  |_=>false
noncomputable def r6:cH->To->List Expr->Bool
 |_,.no,as=>match as with
  |[]=>true
  |_=>false
 |Γ,.yes t,as=>match as with
  |[a]=>dj Γ t a
  |_=>false
noncomputable def dj:cH->T->Expr->Bool
 |Γ,.val e,ex=>aA Γ e ex&&Bo ex
 |Γ,.cmp o a b,e=>match e with
  |.Compare l [op] [r] _=>decide (o=op)&&aA Γ a l&&aA Γ b r && !(behindInMarks op r)
  |_=>false
 |Γ,.and a b,e=>match e with
  |.BoolOp .And [l,r] _=>dj Γ a l&&dj Γ b r
  |.BoolOp .And (l::r::q::rest) pos=>dj Γ a l&&dj Γ b (.BoolOp .And (r::q::rest) pos)
  |_=>false
 |Γ,.or a b,e=>match e with
  |.BoolOp .Or [l,r] _=>dj Γ a l&&dj Γ b r
  |.BoolOp .Or (l::r::q::rest) pos=>dj Γ a l&&dj Γ b (.BoolOp .Or (r::q::rest) pos)
  |_=>false
 |Γ,.not a,e=>match e with
  |.UnaryOp .Not l _=>dj Γ a l
  |_=>false
noncomputable def ml:cH->I->Expr->Expr->Bool
 |Γ,.seq e,_,ex=>aA Γ e ex
 |Γ,.enumS es k,tg,e=>match isTup tg,dq e with
  |true,some (x,[a],[⟨some y,b,_⟩])=>cT Γ x&&Γ.blt.contains x&&decide (x=("enumerate" : Str))&&ar a&&c6 Γ es [a]&&decide (y=("start" : Str))&&aA Γ k b
  |_,_=>false
 |Γ,.zip es,tg,e=>match isTup tg,dq e with
  |true,some (x,[a,b],[])=>cT Γ x&&Γ.blt.contains x&&decide (x=("zip" : Str))&&ar a&&ar b&&c6 Γ es [a,b]
  |_,_=>false
 |Γ,.rg1 es,_,e=>match dq e with
  |some (x,[a],[])=>cT Γ x&&Γ.blt.contains x&&decide (x=("range" : Str))&&ar a&&c6 Γ es [a]
  |_=>false
 |Γ,.rg2 es,_,e=>match dq e with
  |some (x,[a,b],[])=>cT Γ x&&Γ.blt.contains x&&decide (x=("range" : Str))&&ar a&&ar b&&c6 Γ es [a,b]
  |_=>false
end
def yD:Expr->Bool
 |.Tuple _ _ _=>false
 |_=>true
mutual
noncomputable def ja:cH->S->Stmt->Bool
 |Γ,.set i e,st=>match st with
  |.Assign [.Name x _] v _=>nK Γ i x&&(dg v||decide (Γ.sc.names.lookup x=some .cell))&&aA Γ e v
  |_=>false
 |Γ,.setC i n e t j c,st=>match st with
  |.Assign [.Name y py] (.ListComp w_ [⟨tg,it,ifs,ia⟩] sc pos) Kh=>decide (Γ.N[i]?=some y)&&decide (Γ.sc.names.lookup y=some .local)&&(py.line==pos.line) && !(sc.names.any λ(p:Str×NameKind)=>p.1==y&&(p.2==.local || p.2==.cell)) &&
   kL Γ sc&&decide (n=(ownOf sc).length)&&decide (ia=0)&&ml Γ j tg it&&i3 it&&oy (inComp Γ sc) t tg&&r6 (inComp Γ sc) c ifs&&aA (inComp Γ sc) e w_
  |_=>false
 |Γ,.asg g e,st=>match st with
  |.Assign [.Tuple es k p] v _=>oy Γ g (.Tuple es k p)&&dg v&&yD v&&aA Γ e v
  |_=>false
 |Γ,.expr e,st=>match st with
  |.Expr v _=>dg v&&aA Γ e v
  |_=>false
 |Γ,.ret e,st=>match st with
  |.Return (some v) _=>aA Γ e v
  |_=>false
 |Γ,.ite t a b,st=>match st with
  |.If c x y _=>dj Γ t c&&c7 Γ a x&&c7 Γ b y
  |_=>false
 |Γ,.for g j b,st=>match st with
  |.For tg it body [] _=>oy Γ g tg&&ml Γ j tg it&&i3 it&&c7 Γ b body
  |_=>false
 |_,.never,_=>true
 |Γ,.putIx o i e,st=>match st with
  |.Assign [.Subscript l r _] v _=>aA Γ o l&&aA Γ i r&&aA Γ e v&&dg v&&i6 r
  |_=>false
 |Γ,.setF o f e,st=>match st with
  |.Assign [.Attribute l x _] v _=>aA Γ o l&&decide (x=f)&&aA Γ e v
  |_=>false
noncomputable def c7:cH->Ss->List Stmt->Bool
 |_,.nil,l=>match l with
  |[]=>true
  |_=>false
 |Γ,.cons s r,l=>match l with
  |st::JT=>ja Γ s st&&c7 Γ r JT
  |_=>false
end
end DD
namespace DD
open PySem PySem.Spec PyProof.Rows L2
def gy(P:Zt)(w:World)(K:Za)(mg:Ze)(base:Heap)(k:Nat)(x:Str)(sp:aI):Prop:=bR P w K mg base k x sp \/ ∃k',k=k'+1/\Iq P w K mg base k' x sp
def Jq(X:Cx)(x:Str)(sp:aI):Prop:=∀(e:Expr) (es:Zg) (t:WA) (p a:Pos),Gl X x->(x==("__debug__" : Str))=false->ar e=true->es.all ar=true->et X (e::es) t->aL X (.Call (.Name x p) (e::es) [] a) (cE sp t)
structure eO (Γ:cH) (c:Cn) (X:Cx):Prop where
 N:X.N=Γ.N
 sc:X.env.scope=Γ.sc
 kind:Γ.sc.kind=.function
 nd:Γ.N.Nodup
 calm:X.calm=true
 fn:Γ.all=true->∀x,X.fn x=true
 own:PassesOwn 'b' X.A X.env X.xe
 glob:∀(j:Nat) x,Γ.glob[j]?=some x->nh X.K X.mg x (c.G.getD j .non)
 blt:∀x,Γ.blt.contains x=true->X.mg x=none
 fns:∀(j:Nat) x,Γ.fns[j]?=some x->(∃k,gy X.prog X.w X.K X.mg X.base k x (c.F.getD j λ_ _ _=>False)/\bQ k X.A)\/(yC Γ=true/\Jq X x (c.F.getD j λ_ _ _=>False))
 flds:∀C f,c.O C f->jv X.K C/\cB X.K C f
 mts:Ib X c.T
 isi:∀C d b,c.I C d=some b->Bg X.K C d b
 xfl:∀C f,c.P C f->XX.pC X.K C/\cB X.K C f
 hu:X.A.units+40<cLine
section
variable {Γ:cH}{X:Cx}{e:Expr}{pos:Pos}{cn:Cn}
theorem G5(sc:Scope)(env:Env):relabel sc env=CS sc env.scope:=rfl
theorem eO.comp{sc:Scope}{C:Addr}{s:Shared}{H:Hp}{ex:Zh}{pn:Zc}(g:eO Γ cn X)(h:kL Γ sc=true):eO (inComp Γ sc) cn (cZ X sc (ownOf sc) (tD Γ sc) C s H ex pn):=by
 unfold kL at h;simp only[YU,XM] at h;obtain⟨⟨⟨⟨⟨⟨a,h1⟩,c⟩,d⟩,f⟩,l⟩,b⟩:=h;refine⟨rfl,?_,h1,b,g.calm,(λz=>nomatch z),PassesOwn.never,g.glob,g.blt,(λj x e=>(g.fns j x e).elim .inl λz=>absurd z.1 (by rw[XO] at a;rw[a];decide)),g.flds,g.mts,g.isi,g.xfl,g.hu⟩;show relabel sc X.env=CS sc Γ.sc;rw[G5,g.sc]
theorem eO.cscope{sc:Scope}(g:eO Γ cn X)(h:kL Γ sc=true):er Γ.sc sc X.N (ownOf sc) (tD Γ sc):=by
 unfold kL at h;simp only[YU,XM] at h;obtain⟨⟨⟨⟨⟨⟨_,h1⟩,a⟩,b⟩,c⟩,d⟩,f⟩:=h;rw[XE] at a b c d;refine⟨h1,λy hy=>XI (a y hy),λy hy=>XI (b y hy),λy hy=>XI (c y hy),?_,λp hp=>?_⟩
 ·rw[g.N];unfold tD;rw[ZF]
 ·rw[g.N] at hp;exact XI (d p hp)
theorem CV{sc:Scope}{x:Str}(h:zF (sc.names.lookup x)=true):vd sc x:=by
 unfold zF at h;unfold vd;split at h
 ·exact .inl (by assumption)
 ·exact .inr (.inl (by assumption))
 ·exact .inr (.inr (by assumption))
 ·exact ff h
theorem CW{sc:Scope}{x:Str}(h:zG (sc.names.lookup x)=true):L2.Loc sc x:=by
 unfold zG at h;unfold L2.Loc;split at h
 ·exact .inl (by assumption)
 ·exact .inr (by assumption)
 ·exact ff h
theorem zH{i:Nat}{x:Str}(g:eO Γ cn X)(h:nK Γ i x=true):X.N.Nodup/\X.N[i]?=some x/\L2.Loc X.env.scope x/\(X.fn x=true\/X.env.scope.names.lookup x=some .local):=by
 unfold nK at h;simp only[YU,Bool.or_eq_true,XM] at h;obtain⟨⟨h1,a⟩,b⟩:=h;rw[g.N,g.sc];exact⟨g.nd,h1,CW a,b.imp (λz=>g.fn z x) id⟩
theorem fm{x:Str}(g:eO Γ cn X)(h:cT Γ x=true):Gl X x/\(x==("__debug__" : Str))=false:=by
 unfold cT at h;simp only[YU,XM,XO] at h;refine⟨?_,h.2⟩;show X.env.scope.names.lookup x=_;rw[g.sc];exact h.1
theorem DC(g:eO Γ cn X):∀{is:Zj}{es:Zg},rY Γ is es=true->xQ X es (zn is)/\(assignEach es X.env).length=is.length/\(assignEach es X.env).findIdx? (·.1)=none
 |[],[],_=>⟨DR,rfl,rfl⟩
 |i::is,.Name x p::es,h=>by
  unfold rY at h;rw[YU] at h;obtain⟨h1,f,j⟩:=DC g h.2;obtain⟨a,b,c,d⟩:=zH g h.1;refine⟨BO (xR a b c d) h1 rfl,?_,?_⟩
  ·show(assignEach es X.env).length+1=is.length+1;rw[f]
  ·show List.findIdx? (·.1) ((false,assign (.Name x p) X.env)::assignEach es X.env)=none
   rw[List.findIdx?_cons];simp[j]
 |[],_::_,h=>ff h
 |_::_,[],h=>ff h
 |_::_,.BoolOp .. :: _,h=>ff h
 |_::_,.NamedExpr .. :: _,h=>ff h
 |_::_,.BinOp .. :: _,h=>ff h
 |_::_,.UnaryOp .. :: _,h=>ff h
 |_::_,.Lambda .. :: _,h=>ff h
 |_::_,.IfExp .. :: _,h=>ff h
 |_::_,.Dict .. :: _,h=>ff h
 |_::_,.Set .. :: _,h=>ff h
 |_::_,.ListComp .. :: _,h=>ff h
 |_::_,.SetComp .. :: _,h=>ff h
 |_::_,.DictComp .. :: _,h=>ff h
 |_::_,.GeneratorExp .. :: _,h=>ff h
 |_::_,.Await .. :: _,h=>ff h
 |_::_,.Yield .. :: _,h=>ff h
 |_::_,.YieldFrom .. :: _,h=>ff h
 |_::_,.Compare .. :: _,h=>ff h
 |_::_,.Call .. :: _,h=>ff h
 |_::_,.FormattedValue .. :: _,h=>ff h
 |_::_,.JoinedStr .. :: _,h=>ff h
 |_::_,.Constant .. :: _,h=>ff h
 |_::_,.Attribute .. :: _,h=>ff h
 |_::_,.Subscript .. :: _,h=>ff h
 |_::_,.Starred .. :: _,h=>ff h
 |_::_,.List .. :: _,h=>ff h
 |_::_,.Tuple .. :: _,h=>ff h
 |_::_,.Slice .. :: _,h=>ff h
theorem zI{t:cC}{tg:Expr}(g:eO Γ cn X)(h:oy Γ t tg=true):PG X tg (vG X.K t):=by
 unfold oy at h;split at h
 ·obtain⟨a,b,c,d⟩:=zH g h
  exact xR a b c d
 ·obtain⟨h1,f,j⟩:=DC g h
  exact GA g.calm h1 f j
 ·exact ff h
theorem Bq{env:Env}(h:Bo e=true):∀b,isTrue e env b=(do let v ←b;standAt e.pos;holding [v] (truthy v)):=by
 intro w;cases e with
 |UnaryOp op a p=>cases op<;>first | rfl | exact absurd (show false=true from h) YH
 |BoolOp _ _ _=>exact absurd (show false=true from h) YH
 |IfExp _ _ _ _=>exact absurd (show false=true from h) YH
 |Compare _ _ _ _=>exact absurd (show false=true from h) YH
 |_=>rfl
theorem Fg:∀n∈rX,bootBuiltins (Str.ofString n)=some (.type n):=by rfl'
theorem Fh:∀n∈rX,Str.ofString n≠("__name__" : Str):=by rfl'
theorem r9{t:WT}(h:jy X e t)(hp:(∃vs p,e=.BoolOp .And vs p) \/ ∃vs p,e=.BoolOp .Or vs p):q9 X e t:=by
 rcases hp with⟨vs,p,rfl⟩ | ⟨vs,p,rfl⟩
 ·intro σ M ρ H Q rs b q a a_ s I
  exact h σ M ρ H Q rs b q a_ s I
 ·intro σ M ρ H Q rs b q a a_ s I
  exact h σ M ρ H Q rs b q a_ s I
mutual
theorem sE:∀(ir:E){Γ:cH}{cn:Cn}{X:Cx}{e:Expr},eO Γ cn X->aA Γ ir e=true->aL X e (wE cn ir)
 |.var i,Γ,cn,X,e,g,h=>by
  unfold aA at h;split at h
  ·unfold Bm at h
   simp only[YU,XM,XO] at h;rw[wE];exact Er (by rw[g.N];exact h.1.1.1) (by rw[g.sc];exact CV h.1.1.2) h.1.2 h.2
  ·exact ff h
 |.int i,Γ,cn,X,e,g,h=>by
  unfold aA at h;split at h
  ·cases XI h;rw[wE];exact Et
  ·exact ff h
 |.str i,Γ,cn,X,e,g,h=>by
  unfold aA at h;split at h
  ·cases XI h;rw[wE];exact Eu
  ·exact ff h
 |.bl i,Γ,cn,X,e,g,h=>by
  unfold aA at h;split at h
  ·cases XI h;rw[wE];exact Gs
  ·exact ff h
 |.non,Γ,cn,X,e,g,h=>by
  unfold aA at h;split at h
  ·rw[wE];exact Ev
  ·exact ff h
 |.glob j,Γ,cn,X,e,g,h=>by
  unfold aA at h;split at h
  ·rw[YU] at h
   obtain⟨h1,h2⟩:=fm g h.1;rw[wE];exact B9 h1 (g.glob j _ (XI h.2)) h2
  ·exact ff h
 |.ty n,Γ,cn,X,e,g,h=>by
  unfold aA at h;split at h
  ·simp only[YU,XM] at h
   obtain⟨⟨⟨h1,h2⟩,rfl⟩,h4⟩:=h;obtain⟨h5,h6⟩:=fm g h1;have h4:n∈rX:=by simpa using h4
   rw[wE];exact n9 (DN (v:=.ty n) h5 (g.blt _ h2) (Fg n h4) rfl (Fh n h4) h6) λ_=>RV.ty_.2 rfl
  ·exact ff h
 |.bin o a b,Γ,cn,X,e,g,h=>by
  unfold aA at h;split at h
  ·simp only[YU,XM] at h
   obtain⟨⟨rfl,h2⟩,h3⟩:=h;rw[wE];exact Ew (EV o) (sE a g h2) (sE b g h3)
  ·exact ff h
 |.cmp o a b,Γ,cn,X,e,g,h=>by
  unfold aA at h;split at h
  ·simp only[YU,XM,XO] at h
   obtain⟨⟨⟨rfl,h2⟩,h3⟩,h4⟩:=h;rw[wE];exact Ex (yl g.hu o) (sE a g h2) (sE b g h3) h4
  ·exact ff h
 |.and a b,Γ,cn,X,e,g,h=>by
  unfold aA at h;split at h
  ·rw[YU] at h
   rw[wE];exact yd (sE a g h.1) (yc (sE b g h.2))
  ·rw[YU] at h
   rw[wE];exact yd (sE a g h.1) (sE b g h.2)
  ·exact ff h
 |.or a b,Γ,cn,X,e,g,h=>by
  unfold aA at h;split at h
  ·rw[YU] at h
   rw[wE];exact AE (sE a g h.1) (yc (sE b g h.2))
  ·rw[YU] at h
   rw[wE];exact AE (sE a g h.1) (sE b g h.2)
  ·exact ff h
 |.not a,Γ,cn,X,e,g,h=>by
  unfold aA at h;split at h
  ·rw[wE];exact EB (sE a g h)
  ·exact ff h
 |.ite c a b,Γ,cn,X,e,g,h=>by
  unfold aA at h;split at h
  ·simp only[YU] at h
   rw[wE];exact AF (sT c g h.1.1) (sE a g h.1.2) (sE b g h.2)
  ·exact ff h
 |.fn j es,Γ,cn,X,e,g,h=>by
  unfold aA at h;split at h
  ·rename_i q_
   obtain⟨_,_,rfl⟩:=bX q_;simp only[YU,XM] at h;obtain⟨⟨⟨⟨h1,h2⟩,h3⟩,h4⟩,h5⟩:=h;obtain⟨h6,h7⟩:=fm g h1;rw[wE];have z:=g.fns j _ h2;refine z.elim ?_ λy=>y.2 _ _ _ _ _ h6 h7 h3 h4 (jH es g h5)
   rintro⟨k,Fj,hr⟩;rcases Fj with Fj | ⟨k',rfl,Fj⟩
   ·exact EH Fj hr h6 h7 h3 h4 (jH es g h5)
   ·exact CA Fj hr h6 h7 h3 h4 (jH es g h5)
  ·exact ff h
 |.bi b es,Γ,cn,X,e,g,h=>by
  unfold aA at h;split at h
  ·rename_i q_
   obtain⟨_,_,rfl⟩:=bX q_;simp only[YU,XM] at h;obtain⟨⟨⟨⟨⟨h1,h2⟩,rfl⟩,h3⟩,h4⟩,h5⟩:=h;obtain⟨h6,h7⟩:=fm g h1;rw[wE];exact GV b g.calm h6 (g.blt _ h2) h3 h4 (jH es g h5)
  ·exact ff h
 |.bj b es,Γ,cn,X,e,g,h=>by
  unfold aA at h;split at h
  ·rename_i q_
   obtain⟨_,_,rfl⟩:=bX q_;simp only[YU,XM] at h;obtain⟨⟨⟨⟨⟨h1,h2⟩,rfl⟩,h3⟩,h4⟩,h5⟩:=h;obtain⟨h6,h7⟩:=fm g h1;rw[wE];exact GZ b g.calm h6 (g.blt _ h2) h3 h4 (jH es g h5)
  ·exact ff h
 |.bk b es,Γ,cn,X,e,g,h=>by
  unfold aA at h;split at h
  ·rename_i q_
   obtain⟨_,_,rfl⟩:=bX q_;simp only[YU,XM] at h;obtain⟨⟨⟨⟨⟨h1,h2⟩,rfl⟩,h3⟩,h4⟩,h5⟩:=h;obtain⟨h6,h7⟩:=fm g h1;rw[wE];exact G1 b g.calm h6 (g.blt _ h2) h3 h4 (jH es g h5)
  ·exact ff h
 |.lenDif a b,Γ,cn,X,e,g,h=>by
  unfold aA at h;split at h
  ·rename_i q_
   obtain⟨_,_,_,_,_,_,_,rfl⟩:=Ff q_;simp only[YU,XM] at h;obtain⟨⟨⟨⟨⟨⟨⟨⟨⟨⟨h1,h2⟩,rfl⟩,h3⟩,h4⟩,rfl⟩,rfl⟩,h5⟩,h6⟩,h7⟩,h8⟩:=h;rw[wE];exact zA g.calm (fm g h1).1 (g.blt _ h2) (fm g h3).1 (g.blt _ h4) (sE a g h7) (sE b g h8) h5 h6
  ·exact ff h
 |.lenSet a,Γ,cn,X,e,g,h=>by
  unfold aA at h;split at h
  ·rename_i q_
   obtain⟨_,_,_,_,rfl⟩:=Bp q_;simp only[YU,XM] at h;obtain⟨⟨⟨⟨⟨⟨⟨h1,h2⟩,rfl⟩,h3⟩,h4⟩,rfl⟩,h5⟩,h6⟩:=h;rw[wE];exact zw g.calm (fm g h1).1 (g.blt _ h2) (fm g h3).1 (g.blt _ h4) (sE a g h6) h5
  ·exact ff h
 |.mt m o es,Γ,cn,X,e,g,h=>by
  unfold aA at h;split at h
  ·simp only[YU,XM] at h
   obtain⟨⟨⟨⟨⟨⟨⟨rfl,h1⟩,h2⟩,h3⟩,h4⟩,h5⟩,h6⟩,h7⟩:=h;rw[wE];exact E5 g.hu m (sE o g h1) (jH es g h7) h2 h3 h4 h5 h6
  ·exact ff h
 |.ix a b,Γ,cn,X,e,g,h=>by
  unfold aA at h;split at h
  ·simp only[YU] at h
   rw[wE];exact GL g.hu (sE a g h.1.1) (sE b g h.1.2) h.2
  ·exact ff h
 |.sl a lo hi,Γ,cn,X,e,g,h=>by
  unfold aA at h;split at h
  ·simp only[YU] at h
   rw[wE];exact GO (sE a g h.1.1) (Iv lo g h.1.2) (Iv hi g h.2)
  ·exact ff h
 |.lst es,Γ,cn,X,e,g,h=>by
  unfold aA at h;split at h
  ·simp only[YU,XM] at h
   rw[wE];exact EG (jH es g h.1) h.2
  ·exact ff h
 |.tup es,Γ,cn,X,e,g,h=>by
  unfold aA at h;split at h
  ·simp only[YU,XM] at h
   rw[wE];exact EF (jH es g h.1) h.2
  ·exact ff h
 |.comp n el t i c,Γ,cn,X,e,g,h=>by
  unfold aA at h;split at h
  ·simp only[YU,XM] at h
   obtain⟨⟨⟨⟨⟨⟨⟨h1,rfl⟩,rfl⟩,h2⟩,h3⟩,h4⟩,h5⟩,h6⟩:=h;rw[wE];exact Ck (g.cscope h1) g.sc g.calm (sI i g h2) (λC s H0 ex pn=>zI (g.comp h1) h4) (λC s H0 ex pn=>Iw c (Γ:=inComp Γ _) (g.comp h1) h5) (λC s H0 ex pn=>sE el (Γ:=inComp Γ _) (g.comp h1) h6) h3
  ·exact ff h
 |.neg a,Γ,cn,X,e,g,h=>by
  unfold aA at h;split at h
  ·rw[wE];exact E6 (sE a g h)
  ·exact ff h
 |.dct ps,Γ,cn,X,e,g,h=>by
  unfold aA at h;split at h
  ·simp only[YU,XM] at h
   rw[wE];exact Cy (sP ps g h.1) (by simp) h.2
  ·exact ff h
 |.fld o f,Γ,cn,X,e,g,h=>by
  unfold aA at h;split at h
  ·simp only[YU,XM] at h
   obtain⟨⟨h1,rfl⟩,h3⟩:=h;rw[wE];exact E8 g.flds g.xfl (sE o g h1) h3
  ·exact ff h
theorem sP:∀(ir:Ps){Γ:cH}{cn:Cn}{X:Cx}{ks:List (Option Expr)}{vs:Zg},eO Γ cn X->wC Γ ir ks vs=true->yu X ks vs (wP cn ir)
 |.nil,Γ,cn,X,ks,vs,g,h=>by
  unfold wC at h;split at h
  ·rw[wP];exact .nil
  ·exact ff h
 |.cons k v r,Γ,cn,X,ks,vs,g,h=>by
  unfold wC at h;split at h
  ·simp only[YU] at h
   rw[wP];exact .cons (sE k g h.1.1) (sE v g h.1.2) (sP r g h.2)
  ·exact ff h
theorem jH:∀(ir:Es){Γ:cH}{cn:Cn}{X:Cx}{es:Zg},eO Γ cn X->c6 Γ ir es=true->et X es (wEs cn ir)
 |.nil,Γ,cn,X,es,g,h=>by
  unfold c6 at h;split at h
  ·rw[wEs];exact EE
  ·exact ff h
 |.cons e r,Γ,cn,X,es,g,h=>by
  unfold c6 at h;split at h
  ·simp only[YU] at h
   rw[wEs];exact Cc (sE e g h.1.1) (jH r g h.2) h.1.2
  ·exact ff h
theorem Iv:∀(ir:Eo){Γ:cH}{cn:Cn}{X:Cx}{e:Option Expr},eO Γ cn X->rZ Γ ir e=true->AS X e (wEo cn ir)
 |.no,Γ,cn,X,e,g,h=>by
  unfold rZ at h;split at h
  ·rw[wEo];exact Cp
  ·exact ff h
 |.yes a,Γ,cn,X,e,g,h=>by
  unfold rZ at h;split at h
  ·rw[wEo];exact Cq (sE a g h)
  ·exact ff h
theorem Iw:∀(ir:To){Γ:cH}{cn:Cn}{X:Cx}{e:Zg},eO Γ cn X->r6 Γ ir e=true->zt X e (pf cn ir)
 |.no,Γ,cn,X,e,g,h=>by
  unfold r6 at h;split at h
  ·rw[pf];exact .inl ⟨rfl,rfl⟩
  ·exact ff h
 |.yes a,Γ,cn,X,e,g,h=>by
  unfold r6 at h;split at h
  ·rw[pf];exact .inr ⟨_,rfl,sT a g h⟩
  ·exact ff h
theorem sT:∀(ir:T){Γ:cH}{cn:Cn}{X:Cx}{e:Expr},eO Γ cn X->dj Γ ir e=true->jy X e (wT cn ir)
 |.val a,Γ,cn,X,e,g,h=>by
  unfold dj at h;rw[YU] at h;rw[wT];exact ED (sE a g h.1) (Bq h.2)
 |.cmp o a b,Γ,cn,X,e,g,h=>by
  unfold dj at h;split at h
  ·simp only[YU,XM,XO] at h
   obtain⟨⟨⟨rfl,h2⟩,h3⟩,h4⟩:=h;rw[wT];exact Ey (yl g.hu o) (sE a g h2) (sE b g h3) h4
  ·exact ff h
 |.and a b,Γ,cn,X,e,g,h=>by
  unfold dj at h;split at h
  ·rw[YU] at h
   rw[wT];exact(yb (sT a g h.1) (Cb (sT b g h.2))).pt
  ·rw[YU] at h
   rw[wT];exact(yb (sT a g h.1) (r9 (sT b g h.2) (.inl ⟨_,_,rfl⟩))).pt
  ·exact ff h
 |.or a b,Γ,cn,X,e,g,h=>by
  unfold dj at h;split at h
  ·rw[YU] at h
   rw[wT];exact(AD (sT a g h.1) (EA (sT b g h.2))).pt
  ·rw[YU] at h
   rw[wT];exact(AD (sT a g h.1) (r9 (sT b g h.2) (.inr ⟨_,_,rfl⟩))).pt
  ·exact ff h
 |.not a,Γ,cn,X,e,g,h=>by
  unfold dj at h;split at h
  ·rw[wT];exact Ez (sT a g h)
  ·exact ff h
theorem sI:∀(ir:I){Γ:cH}{cn:Cn}{X:Cx}{tg e:Expr},eO Γ cn X->ml Γ ir tg e=true->rq X tg e (wI cn ir)
 |.seq a,Γ,cn,X,tg,e,g,h=>by
  unfold ml at h;rw[wI];exact ER (sE a g h)
 |.enumS es k,Γ,cn,X,tg,e,g,h=>by
  unfold ml at h;split at h
  ·rename_i t_ q_
   obtain⟨_,_,_,rfl⟩:=wB t_;obtain⟨_,_,rfl⟩:=bX q_;simp only[YU,XM] at h;obtain⟨⟨⟨⟨⟨⟨h1,h2⟩,rfl⟩,h3⟩,h4⟩,rfl⟩,h5⟩:=h;rw[wI];exact Bl (fm g h1).1 (g.blt _ h2) (jH es g h4) (sE k g h5) h3
  ·exact ff h
 |.zip es,Γ,cn,X,tg,e,g,h=>by
  unfold ml at h;split at h
  ·rename_i t_ q_
   obtain⟨_,_,_,rfl⟩:=wB t_;obtain⟨_,_,rfl⟩:=bX q_;simp only[YU,XM] at h;obtain⟨⟨⟨⟨⟨h1,h2⟩,rfl⟩,h3⟩,Ly⟩,h4⟩:=h;rw[wI];exact Fa (fm g h1).1 (g.blt _ h2) (jH es g h4) h3 Ly
  ·exact ff h
 |.rg1 es,Γ,cn,X,tg,e,g,h=>by
  unfold ml at h;split at h
  ·rename_i q_
   obtain⟨_,_,rfl⟩:=bX q_;simp only[YU,XM] at h;obtain⟨⟨⟨⟨h1,h2⟩,rfl⟩,h3⟩,h4⟩:=h;rw[wI];exact zp (fm g h1).1 (g.blt _ h2) (jH es g h4) h3
  ·exact ff h
 |.rg2 es,Γ,cn,X,tg,e,g,h=>by
  unfold ml at h;split at h
  ·rename_i q_
   obtain⟨_,_,rfl⟩:=bX q_;simp only[YU,XM] at h;obtain⟨⟨⟨⟨⟨h1,h2⟩,rfl⟩,h3⟩,Ly⟩,h4⟩:=h;rw[wI];exact zq (fm g h1).1 (g.blt _ h2) (jH es g h4) h3 Ly
  ·exact ff h
end
theorem zJ{y:Str}{a sp pos:Pos}{b:Expr}{c:List Comprehension}{sc:Scope}(g:eO Γ cn X)(h1:Γ.sc.names.lookup y=some .local)(d:(a.line==pos.line)=true)(f:(sc.names.any λ(p:Str×NameKind)=>p.1==y&&(p.2==.local || p.2==.cell))=false):
  swapsWith (.ListComp b c sc pos) (some (.Name y a)) sp.line X.env=pure true:=by
 show pure (X.env.blockKind==.function&&X.env.kindOf y==some .local && a.line==pos.line && !(sc.names.any λ(p:Str×NameKind)=>p.1==y&&(p.2==.local || p.2==.cell)))=(pure true:Sem Bool);have e1:X.env.blockKind=.function:=by
  unfold Env.blockKind;rw[g.sc,g.kind];rfl
 have e2:X.env.kindOf y=some .local:=by show X.env.scope.names.lookup y=_;rw[g.sc];exact h1
 rw[e1,e2,d,f];rfl
theorem zK{y:Str}{f:Pos}{n:Nat}(g:eO Γ cn X)(h1:Γ.sc.names.lookup y=some .cell)(v:Expr):swapsWith v (some (.Name y f)) n X.env=pure false:=by
 have e2:X.env.kindOf y=some .cell:=by show X.env.scope.names.lookup y=_;rw[g.sc];exact h1
 have j:(some NameKind.cell==some NameKind.local)=false:=rfl;have a:∀(b c d:Bool),(b&&X.env.kindOf y==some .local && c&&d)=false:=λb c d=>by rw[e2,j,Bool.and_false,YD,YD]
 cases v<;>first | rfl | exact congrArg pure (a _ _ _)
theorem CY{t:WE}{i:Nat}{x:Str}{pos a:Pos}{e:Expr}(c:X.N.Nodup)(hi:X.N[i]?=some x)(hx:Loc X.env.scope x)(f:X.fn x=true\/X.env.scope.names.lookup x=some .local)(hc:swapsWith e (some (.Name x a)) pos.line X.env=pure false)(h:aL X e t):
  mL X (.Assign [.Name x a] e pos) (lY i t):=by
 intro σ M ρ H D rs g q;refine fg (FU c hi hx (bD e) hc f) ?_;show tW X e ρ H _;refine aJ (h σ M ρ H _ rs g q) λv m z=>?_
 obtain⟨b,d,M1,j,l,q1⟩:=z;exact⟨b,σ.set i (some d),M1,(rs.mono b).set i j,l,q1⟩
theorem Br{tg v:Expr}{n:Nat}{env:Env}(h:dg v=true):swapsWithSole [tg] v n env=pure false:=rn h
theorem CZ{es:Zg}{k:Nat}{p:Pos}{v:Expr}{n:Nat}{env:Env}(h:dg v=true)(h':yD v=true):swapsWithSole [.Tuple es k p] v n env=pure false/\swappedStores [.Tuple es k p] v env=pure none:=by
 refine⟨Br h,?_⟩;cases v<;>first | rfl | exact ff h'
mutual
theorem sS:∀(ir:S){Γ:cH}{cn:Cn}{X:Cx}{st:Stmt},eO Γ cn X->ja Γ ir st=true->mL X st (wS cn ir)
 |.set i e,Γ,cn,X,st,g,h=>by
  unfold ja at h;split at h
  ·simp only[YU] at h
   obtain⟨a,b,c,d⟩:=zH g h.1.1;rw[wS];refine CY a b c d ?_ (sE e g h.2);rcases Bool.or_eq_true_iff.1 h.1.2 with z | z
   ·exact rn z
   ·exact zK g (XI z) _
  ·exact ff h
 |.setC i n e t j c,Γ,cn,X,st,g,h=>by
  unfold ja at h;split at h
  ·simp only[YU,XM,XO] at h
   obtain⟨⟨⟨⟨⟨⟨⟨⟨⟨⟨⟨a1,a2⟩,a3⟩,a4⟩,h1⟩,rfl⟩,rfl⟩,h2⟩,h3⟩,h4⟩,h5⟩,h6⟩:=h;rw[wS];exact Cl (g.cscope h1) g.sc g.calm (by rw[g.N];exact g.nd) (by rw[g.N];exact a1) (by rw[g.sc];exact a2) (sI j g h2) (λC s H0 ex pn=>zI (g.comp h1) h4)
    (λC s H0 ex pn=>Iw c (Γ:=inComp Γ _) (g.comp h1) h5) (λC s H0 ex pn=>sE e (Γ:=inComp Γ _) (g.comp h1) h6) h3 (zJ g a2 a3 a4)
  ·exact ff h
 |.asg t e,Γ,cn,X,st,g,h=>by
  unfold ja at h;split at h
  ·simp only[YU] at h
   obtain⟨⟨⟨h1,h2⟩,h3⟩,h4⟩:=h;obtain⟨q1,q2⟩:=CZ h2 h3;rw[wS];exact EN (sE e g h4) (zI g h1) q1 q2 rfl
  ·exact ff h
 |.expr e,Γ,cn,X,st,g,h=>by
  unfold ja at h;split at h
  ·simp only[YU] at h
   rw[wS];exact Ci (sE e g h.2) h.1
  ·exact ff h
 |.ret e,Γ,cn,X,st,g,h=>by
  unfold ja at h;split at h
  ·rw[wS];exact EL (sE e g h)
  ·exact ff h
 |.ite t a b,Γ,cn,X,st,g,h=>by
  unfold ja at h;split at h
  ·simp only[YU] at h
   rw[wS];exact Gy (sT t g h.1.1) (yE a g h.1.2) (yE b g h.2)
  ·exact ff h
 |.for t j b,Γ,cn,X,st,g,h=>by
  unfold ja at h;split at h
  ·simp only[YU] at h
   rw[wS];exact ES g.own g.calm (sI j g h.1.1.2) (zI g h.1.1.1) (yE b g h.2) h.1.2
  ·exact ff h
 |.never,Γ,cn,X,st,g,h=>by rw[wS];exact AL
 |.putIx o i e,Γ,cn,X,st,g,h=>by
  unfold ja at h;split at h
  ·simp only[YU] at h
   rw[wS];exact A3 g.hu (sE e g h.1.1.2) (sE o g h.1.1.1.1) (sE i g h.1.1.1.2) h.1.2 h.2
  ·exact ff h
 |.setF o f e,Γ,cn,X,st,g,h=>by
  unfold ja at h;split at h
  ·simp only[YU,XM] at h
   obtain⟨⟨h1,rfl⟩,h3⟩:=h;rw[wS];exact Cz g.flds (sE o g h1) (sE e g h3)
  ·exact ff h
theorem yE:∀(ir:Ss){Γ:cH}{cn:Cn}{X:Cx}{st:Zr},eO Γ cn X->c7 Γ ir st=true->nu X st (wSs cn ir)
 |.nil,Γ,cn,X,st,g,h=>by
  unfold c7 at h;split at h
  ·rw[wSs];exact Ch
  ·exact ff h
 |.cons s r,Γ,cn,X,st,g,h=>by
  unfold c7 at h;split at h
  ·simp only[YU] at h
   rw[wSs];exact AK (sS s g h.1) (yE r g h.2)
  ·exact ff h
end
end
section
variable {P:Zt}{w:World}{K:Za}{mg:Ze}{base:Heap}
structure Names (P:Zt) (w:World) (K:Za) (mg:Ze) (base:Heap) (k:Nat) (glob:Zf) (blt:Zf) (fns:Zf) (cn:Cn):Prop where
 glob:∀(j:Nat) x,glob[j]?=some x->nh K mg x (cn.G.getD j .non)
 blt:∀x,blt.contains x=true->mg x=none
 fns:∀(j:Nat) x,fns[j]?=some x->∃k',k'<=k/\gy P w K mg base k' x (cn.F.getD j λ_ _ _=>False)
 flds:∀C f,cn.O C f->jv K C/\cB K C f
 mts:∀C m sp,cn.T C m=some sp->∃k',k'<=k/\Dy P w K mg base k' C m sp
 isi:∀C d b,cn.I C d=some b->Bg K C d b
 xfl:∀C f,cn.P C f->XX.pC K C/\cB K C f
theorem wD{x:Str}{st:Stmt}{ps N:Zf}{f:Addr}{fd:Zs}{k:Nat}{sp:aI}{a:Ss}{glob:Zf}{blt:Zf}{fns:Zf}{cn:Cn}(c:lJ K mg x st ps f fd)(S:cI N ps (ax st))(nm:Names P w K mg base k glob blt fns cn)
  (hc:c7 ⟨N,ax st,true,glob,blt,fns⟩ a (aY st)=true) (len:∀ds M Q,sp ds M Q->ds.length=ps.length)
  (h:∀ds M Q,sp ds M Q->wSs cn a { nx:=λ_ M'=>Q .non M',rt:=Q } (aC N ds) M):bR P w K mg base (k+1) x sp:=by
 refine Jy c S len (λi' A outer s H E b=>?_) h;exact yE a (Γ:=⟨N,ax st,true,glob,blt,fns⟩) ⟨rfl,rfl,S.kind,S.nd,rfl,λ_ _=>rfl,PassesOwn.never,nm.glob,nm.blt,(λj x e=>let⟨k',h1,h2⟩:=nm.fns j x e;.inl ⟨k',h2,b.mono h1⟩),nm.flds,λC m sp e=>let⟨k',h1,h2⟩:=nm.mts C m sp e;⟨k',h2,b.mono h1⟩,nm.isi,nm.xfl,Nat.lt_of_le_of_lt (Nat.add_le_add_left (by decide:40<=64) _) b.units⟩ hc
theorem Bs{x h_:Str}{st:Stmt}{ps N:Zf}{f:Addr}{fd:Zs}{k:Nat}{sp:aI}{a:Ss}{glob:Zf}{blt:Zf}{fns:Zf}{cn:Cn}(l:qV K x h_ st f fd)(S:cI N ps (ax st))(nm:Names P w K mg base k glob blt fns cn)
  (hc:c7 ⟨N,ax st,true,glob,blt,fns⟩ a (aY st)=true) (len:∀ds M Q,sp ds M Q->ds.length=ps.length)
  (h:∀ds M Q,sp ds M Q->wSs cn a { nx:=λ_ M'=>Q .non M',rt:=Q } (aC N ds) M):dR P w K mg base jw (k+1) f fd ps (eU K sp):=by
 refine l.ok S (λvs H Q E ⟨ds,M,b,r,_,s,_⟩=>by rw[←r.len];exact len ds M b s) λi' A outer s H vs Q E c ⟨ds,M,b,r,m,sq,g⟩=>⟨pM _ _,on _,?_⟩
 have hb:=yE a (Γ:=⟨N,ax st,true,glob,blt,fns⟩) (X:=(m7 jw P w K mg base N h_ (ax st) f i' A outer s H E).nox) ⟨rfl,rfl,S.kind,S.nd,rfl,λ_ _=>rfl,PassesOwn.never,nm.glob,nm.blt,(λj x e=>let⟨k',h1,h2⟩:=nm.fns j x e;.inl ⟨k',h2,c.mono h1⟩),nm.flds,λC m sp e=>let⟨k',h1,h2⟩:=nm.mts C m sp e;⟨k',h2,c.mono h1⟩,nm.isi,nm.xfl,Nat.lt_of_le_of_lt (Nat.add_le_add_left (by decide:40<=64) _) c.units⟩ hc;refine eD (hb (aC N ds) M (L2.start N vs) H _ (vL r) m (h ds M b sq)) ⟨λp H' n=>?_,λv H' ⟨k',d,M',o,m',q⟩=>g _ _ _ _ q k' o m',λ_ _ ⟨_,_,_,_,_,q⟩=>q,λ_ _ ⟨_,_,_,_,_,q⟩=>q⟩;obtain⟨k',t,M',_,m',q⟩:=n;exact g _ _ _ _ q k' (RV.non_.2 rfl) m'
end
section
variable {P:Zt}{w:World}{K:Za}{mg:Ze}{base:Heap}{k:Nat}
theorem aF{F:List aI}:∀(j:Nat) (x:Str),([]:List Str)[j]?=some x->∃k',k'<=k/\gy P w K mg base k' x (F.getD j λ_ _ _=>False):=λj x e=>by simp at e
theorem al{y:Str}{ys:Zf}{sp:aI}{F:List aI}{a:Nat}(h1:a<=k)(h:gy P w K mg base a y sp)(t:∀(j:Nat) (x:Str),ys[j]?=some x->∃k',k'<=k/\gy P w K mg base k' x (F.getD j λ_ _ _=>False)):
  ∀(j:Nat) (x:Str),(y::ys)[j]?=some x->∃k',k'<=k/\gy P w K mg base k' x ((sp::F).getD j λ_ _ _=>False):=λj x e=>by
 cases j with
 |zero=>
  have:y=x:=by simpa using e
  subst this;exact⟨a,h1,h⟩
 |succ j=>exact t j x (by simpa using e)
theorem G6{x:Str}{C:Addr}{h_:Str}{st:Stmt}{ps N:Zf}{f:Addr}{fd:Zs}{sp:aI}{a:Ss}{glob:Zf}{blt:Zf}{fns:Zf}{cn:Cn}(hx:mg x=some (.ref C))(hm:PySem.W.makesIn K C=true)(hk:PySem.W.keepIn K (.ref C)=true)(A:MethAt K C "__init__" h_ st f fd)
  (S:cI N ps (ax st)) (nm:Names P w K mg base k glob blt fns cn)
  (hb:∀(kV l_ pm:Value) (an:Zm) (i' ct:Value) (us:Zd),us.length=ps.length->bindArgs (PySem.W.fnOf "__init__" h_ (bU st) (aY st) (ax st) .none kV l_ pm an i' ct) ⟨us,[]⟩=pure (ps.zip us))
  (hc:c7 ⟨N,ax st,true,glob,blt,fns⟩ a (aY st)=true) (len:∀ds M Q,sp ds M Q->ds.length=ps.length)
  (h:∀ds M Q,sp ds M Q->wSs cn a { nx:=λ_ M'=>Q .non M',rt:=Q } (aC N ds) M):gy P w K mg base (k+2) x (kJ C sp):=
 .inr ⟨k+1,rfl,C,f,fd,ps,sp,⟨hm,A.at_,A.fn,hk⟩,hx,A.fun_.binds hb,Bs A.fun_ S nm hc len h,rfl⟩
end
theorem aO.fun_{K:Za}{x:Str}{st:Stmt}{f:Addr}{fd:Zs}(A:aO K x st f fd):qV K x x st f fd:=by
 obtain⟨oc,od,an,x_,kV,l_,pm,i',ct,a,rfl,l,c,k⟩:=A.ex;exact vv l c k
end DD
open PySem L2 DD
local macro_rules
  | `(#v[]) => `(.nil)
  | `(#v[$x]) => `(.cons $x .nil)
  | `(#v[$x, $xs,*]) => `(.cons $x #v[$xs,*])
local macro_rules
  | `(~~~$x) => `(some (DD.D.int ($x : Int)))
local macro_rules
  | `(↑$x) => `(some (DD.D.ref $x))
local macro_rules
  | `(⇑$x) => `(DD.D.int ($x : Int))
local macro_rules
  | `(tactic| simp! only [$ts,*]) => `(tactic| simp only [wSs, wS, wE, wEs, wEo, pf, wT, wI, wP, iZ, lX, pO, lL, pJ, io, pF, vA, pG, lM, pH, lN, vC, pN, lY, pP, lZ, jA, cE, rJ, vT, nj, pK, lO, gv, qc, pQ, iq, l7, l8, iu, l9, i7, qg, mj, rO, mh, wPs, gR, gu, pI, intD, aH, fh, setM, pT, nz, rB, ul, dI, o0, pS, pR, vZ, nB, eI, nD, nE, eJ, nF, gI, iA, nG, v9, qb, me, eL, eM, jD, gJ, mf, nA, vR, qe, pU, pV, pZ, fH, pY, fG, ny, o6, jB, vP, ma, tu, o7, nv, qf, mi, ou, gV, fJ, fL, uw, i8, iB, i9, wu, wv, v8, nH, bu, aq, List.getElem?_cons_zero, List.getElem?_cons_succ, $ts,*])
namespace SH
open PySem L2 DD
abbrev fin(Q:DK):dH:={ nx:=λ_ M'=>Q .non M',rt:=Q }
def af(M M':MH):Prop:=∀a o,M a=some o->M' a=some o
theorem af.refl(M:MH):af M M:=λ_ _ h=>h
theorem af.trans{M M' d:MH}(a:af M M')(b:af M' d):af M d:=λc o h=>b c o (a c o h)
theorem af.new{M:MH}{p:Addr}{o:MO}(h:M p=none):af M (ad M p o):=λa u e=>by
 rw[aZ (λz=>by subst z;rw[h] at e;cases e)];exact e
def se(ns:Zi)(k:Nat):Int:=if k<ns.length then(ns[k]?).getD 0 else 7919*(k:Int)+13
def sf(c k:Int):Int:=(c%2147483647*48271+7919*k+1)%2147483647
def sg(c k:Int):Int:=sf c k*sf c k%2147483629
def C0(c k:Int):Int:=sg c k*(sg c k+13)%2147483647
def foldZ(c:Int):Nat->Int
 |0=>0
 |n+1=>foldZ c n*2147483647+C0 c n
def nL(ns:Zi)(k:Nat):Int:=if se ns 0%2=0 then se ns k else foldZ (se ns k) 6
def si:aI:=λds M Q=>∃(a:Addr) (ns:Zi) (k:Nat),ds=[.ref a,⇑k]/\M a=some (.rol (ns.map .int))/\Q (.int (se ns k)) M
def u9:aI:=λds M Q=>∃(c k:Int),ds=[.int c,.int k]/\Q (.int (C0 c k)) M
def oA:aI:=λds M Q=>∃(a:Addr) (ns:Zi) (k:Nat),ds=[.ref a,⇑k]/\M a=some (.rol (ns.map .int))/\∀p,M p=none->Q (.ref p) (ad M p (.lst [.int (nL ns k)]))
def kM:aI:=λds M Q=>∃(p:Addr) (b m:Int),ds=[.ref p,.int m]/\M p=some (.lst [.int b])/\(0<m/\m<18446744073709551616)/\Q (.int (b%m)) (ad M p (.lst [.int (b / m)]))
def tE:Ss:=#v[.ite (.cmp .Lt (.var 1) (.bi .len #v[.var 0])) #v[.ret (.ix (.var 0) (.var 1))] .nil,.ret (.bin .Add (.bin .Mult (.int 7919) (.var 1)) (.int 13))]
def wF:Ss:=#v[.set 2 (.bin .Mod (.bin .Add (.bin .Add (.bin .Mult (.bin .Mod (.var 0) (.int 2147483647)) (.int 48271)) (.bin .Mult (.int 7919) (.var 1))) (.int 1)) (.int 2147483647)),.set 2 (.bin .Mod (.bin .Mult (.var 2) (.var 2)) (.int 2147483629)),.ret (.bin .Mod (.bin .Mult (.var 2) (.bin .Add (.var 2) (.int 13))) (.int 2147483647))]
def wG:Ss:=#v[.set 2 (.fn 1 #v[.var 0,.var 1]),.ite (.cmp .Eq (.bin .Mod (.fn 1 #v[.var 0,.int 0]) (.int 2)) (.int 0)) #v[.ret (.lst #v[.var 2])] .nil,.set 3 (.int 0),.for (.nm 4) (.rg1 #v[.int 6]) #v[.set 3 (.bin .Add (.bin .Mult (.var 3) (.int 2147483647)) (.fn 0 #v[.var 2,.var 4]))],.ret (.lst #v[.var 3])]
def oB:Ss:=#v[.asg (.tp [2,3]) (.bi .divmod #v[.ix (.var 0) (.int 0),.var 1]),.putIx (.var 0) (.int 0) (.var 2),.ret (.var 3)]
section
variable {cn:Cn}
theorem Fi{ds:List D}{M:MH}{Q:DK}(h:si ds M Q):wSs cn tE (fin Q) (aC ["",""] ds) M:=by
 obtain⟨a,ns,k,rfl,b,q⟩:=h;show wSs cn tE (fin Q) [↑a,~~~k] M;unfold tE;simp! only[b,ZF];unfold se at q;refine kG (λc=>?_) (λc=>?_)
 ·have hk:k<ns.length:=by omega
  rw[cY (by rw[ZG,ZD hk];rfl)];rw[if_pos hk,ZD hk] at q;exact q
 ·have hk:¬k<ns.length:=by omega
  rw[if_neg hk] at q;exact⟨.inl ⟨by decide,by decide⟩,q⟩
theorem Fk(c k:Int):0<=sf c k/\sf c k<2147483647:=⟨Int.emod_nonneg _ 'a',Int.emod_lt_of_pos _ 'a'⟩
theorem Fl(c k:Int):0<=sg c k/\sg c k<2147483629:=⟨Int.emod_nonneg _ 'a',Int.emod_lt_of_pos _ 'a'⟩
theorem G7{ds:List D}{M:MH}{Q:DK}(h:u9 ds M Q):wSs cn wF (fin Q) (aC ["","",""] ds) M:=by
 obtain⟨c,k,rfl,q⟩:=h;show wSs cn wF (fin Q) [some (.int c),some (.int k),none] M;unfold wF;simp! only[List.set];have a:0<=c%2147483647/\c%2147483647<2147483647:=⟨Int.emod_nonneg _ 'a',Int.emod_lt_of_pos _ 'a'⟩;have b:=Fk c k;have d:=Fl c k;unfold C0 at q;unfold sg sf at *;exact⟨by decide,.inl ⟨by omega,by omega⟩,.inl ⟨by decide,by decide⟩,by decide,.inl ⟨by omega,by omega⟩,by decide,.inl ⟨by omega,by omega⟩,by decide,q⟩
theorem G8{ds:List D}{M:MH}{Q:DK}(d:cn.F=[u9,si])(h:oA ds M Q):wSs cn wG (fin Q) (aC ["","","","",""] ds) M:=by
 obtain⟨a,ns,k,rfl,c,q⟩:=h;show wSs cn wG (fin Q) [↑a,~~~k,none,none,none] M;unfold wG;simp! only[d,List.getD_cons_zero,List.getD_cons_succ,List.set];refine⟨a,ns,k,rfl,c,a,ns,0,rfl,c,by decide,?_⟩;simp only[aW,cD,aP];refine⟨⟨trivial,trivial,by decide⟩,?_⟩;unfold nL at q;refine pE (λb=>?_) (λb=>?_)
 ·rw[if_pos (by simpa using b)] at q
  exact q
 ·rw[if_neg (by simpa using b)] at q
  refine⟨⟨by decide,by decide⟩,?_⟩;have e:cm 0 6=[.int 0,.int 1,.int 2,.int 3,.int 4,.int 5]:=rfl;rw[e];simp only[cF,wSs,wS,wE,wEs,wEo,pf,wT,wI,wP,iZ,lX,pO,lL,pJ,io,pF,vA,pG,lM,pH,lN,vC,pN,lY,pP,lZ,jA,cE,rJ,vT,nj,pK,lO,gv,qc,pQ,iq,l7,l8,iu,l9,i7,qg,mj,rO,mh,wPs,gR,gu,pI,intD,aH,fh,setM,pT,nz,rB,ul,dI,o0,pS,pR,vZ,nB,eI,nD,nE,eJ,nF,gI,iA,nG,v9,qb,me,eL,eM,jD,gJ,mf,nA,vR,qe,pU,pV,pZ,fH,pY,fG,ny,o6,jB,vP,ma,tu,o7,nv,qf,mi,ou,gV,fJ,fL,uw,i8,iB,i9,wu,wv,v8,nH,bu,aq,List.getElem?_cons_zero,List.getElem?_cons_succ,List.set];refine⟨.inr ⟨by decide,by decide⟩,_,_,rfl,trivial,.inr ⟨by decide,by decide⟩,_,_,rfl,trivial,.inr ⟨by decide,by decide⟩,_,_,rfl,trivial,.inr ⟨by decide,by decide⟩,_,_,rfl,trivial,.inr ⟨by decide,by decide⟩,_,_,rfl,trivial,.inr ⟨by decide,by decide⟩,_,_,rfl,trivial,?_⟩;exact q
theorem Fm{ds:List D}{M:MH}{Q:DK}(h:kM ds M Q):wSs cn oB (fin Q) (aC ["","","",""] ds) M:=by
 obtain⟨p,b,m,rfl,a,hm,q⟩:=h;show wSs cn oB (fin Q) [↑p,some (.int m),none,none] M;unfold oB;have e:bv [D.int b] 0=some (D.int b):=rfl;have e2:iQ ([D.int b]:List D).length 0=some 0:=rfl;simp! only[List.set,a,e,e2];exact⟨hm,rfl,q⟩
end
end SH
namespace SB
open PySem L2 DD
open SH
def bB:Str:="abcdefghijklmnopqrstuvwxyz"
def fo:Str:="ABCDEFGHIJKLMNOPQRSTUVWXYZ"
def b9:List Str:=["things","say","rule","if","not","many","first"]
def mn(y x:Str):Bool:=!(Builtin.Str.occurrences y x 0 y.length 1).isEmpty
def bJ(x:Str):Bool:=!decide ((x.length:Int)<1) && !decide (6<(x.length:Int)) && !cp (.str x) (b9.map .str)&&x.cps.toList.all λc=>mn bB ⟨#[c]⟩
def aV(x:Str):Bool:=aP (.int x.length) (.int 1)&&mn fo x
def kN:aI:=λds M Q=>∃x:Str,ds=[.str x]/\x.length<=sizeLine/\∀M',af M M'->Q (.bl (bJ x)) M'
def jI:aI:=λds M Q=>∃x:Str,ds=[.str x]/\x.length<=sizeLine/\Q (.bl (aV x)) M
theorem mo{g:MH->Prop}{t:cC}{c:WT}{e:WE}{F:List D->MH->Prop}{f:D->D}{ok:DS->Prop}{M:MH}:∀{xs:List D}(acc:List D) (σ:DS),ok σ ->
  (∀x∈xs,∀σ acc rest,ok σ->(∀a,ok a->ba g t c e F rest (acc++[f x]) a M)->ba g t c e F (x::rest) acc σ M)->F (acc++xs.map f) M->ba g t c e F xs acc σ M
 |[],acc,σ,_,_,q=>by
  rw[List.map_nil,ZA] at q;exact q
 |x::xs,acc,σ,h,st,q=>st x ZW σ acc xs h λa h'=>mo (acc++[f x]) a h' (λy hy=>st y (.tail _ hy)) (by simpa using q)
theorem fM{b:Type}(f:b->Bool):∀(l:List b),md (l.map λc=>D.bl (f c))=some (l.map f)
 |[]=>rfl
 |a::l=>by rw[YK,md,fM f l];rfl
def mq:Ss:=#v[.ite (.not (.val (.bi .isinst #v[.var 0,.ty "str"]))) #v[.ret (.bl false)] .nil,.ite (.or (.cmp .Lt (.bi .len #v[.var 0]) (.int 1)) (.cmp .Gt (.bi .len #v[.var 0]) (.glob 2))) #v[.ret (.bl false)] .nil,.ite (.cmp .In (.var 0) (.glob 1)) #v[.ret (.bl false)] .nil,.ret (.bi .all #v[.comp 1 (.cmp .In (.var 1) (.glob 0)) (.nm 1) (.seq (.var 0)) .no])]
def fN:Ss:=#v[.ite (.not (.val (.bi .isinst #v[.var 0,.ty "str"]))) #v[.ret (.bl false)] .nil,.ret (.and (.cmp .Eq (.bi .len #v[.var 0]) (.int 1)) (.cmp .In (.var 0) (.glob 3)))]
section
variable {cn:Cn}
theorem tF{ds:List D}{M:MH}{Q:DK}(a:cn.G.getD 3 .non=.str fo)(h:jI ds M Q):wSs cn fN (fin Q) (aC [""] ds) M:=by
 obtain⟨x,rfl,hz,q⟩:=h;show wSs cn fN (fin Q) [some (.str x)] M;unfold fN;simp! only[a];refine⟨by decide,?_⟩;show aN false _ _;refine⟨hz,⟨rfl,rfl,(by decide:(0:Nat)<=30)⟩,?_⟩;unfold aV at q;cases e:aP (D.int x.length) (D.int 1) with
 |true=>rw[e,Bool.true_and] at q;exact q
 |false=>rw[e,YD] at q;exact q
theorem zL{ds:List D}{M:MH}{Q:DK}(a:cn.G.getD 0 .non=.str bB)(b:cn.G.getD 1 .non=.tup (b9.map .str))(g:cn.G.getD 2 .non=.int 6)(h:kN ds M Q):wSs cn mq (fin Q) (aC [""] ds) M:=by
 obtain⟨x,rfl,hz,q⟩:=h;show wSs cn mq (fin Q) [some (.str x)] M;unfold mq;simp! only[a,b,g];refine⟨by decide,?_⟩;show aN false _ _;refine⟨hz,?_⟩;unfold bJ at q;cases e1:decide ((x.length:Int)<1) with
 |true=>simp only[e1,Bool.not_true,YD] at q;exact q M (af.refl M)
 |false=>
  refine⟨hz,?_⟩;cases e2:decide (6<(x.length:Int)) with
  |true=>simp only[e2,Bool.not_true,YD,Bool.and_false] at q;exact q M (af.refl M)
  |false=>
   refine⟨⟨rfl,rfl,by decide⟩,?_⟩;cases e3:cp (.str x) (b9.map .str) with
   |true=>simp only[e3,Bool.not_true,YD,Bool.and_false] at q;exact q M (af.refl M)
   |false=>
    refine⟨hz,?_⟩;refine mo (f:=λd=>match d with | .str y=>.bl (mn bB y) | d=>d) (ok:=λσ=>∃v,σ=[some (.str x),v]) [] _ ⟨none,rfl⟩ ?_ ?_
    ·intro d hd σ acc rest ⟨v,hv⟩ k
     subst hv;obtain⟨c,_,rfl⟩:=XU.1 hd;exact⟨trivial,k _ ⟨_,rfl⟩⟩
    ·intro p hp
     rw[ab];simp only[YX,ZL];have:(List.map ((λd=>match d with | D.str y=>D.bl (mn bB y) | d=>d)∘λc=>D.str ⟨#[c]⟩) x.cps.toList)=x.cps.toList.map λc=>D.bl (mn bB ⟨#[c]⟩):=rfl
     rw[this,fM];simp only[e1,e2,e3,Bool.not_false,Bool.true_and] at q;have j:=q _ (af.new (o:=.lst (x.cps.toList.map λc=>D.bl (mn bB ⟨#[c]⟩))) hp);simpa [List.all_map] using j
end
theorem qm{g:MH->Prop}{t:cC}{c:WT}{e:WE}{F:List D->MH->Prop}{f:D->D}{ok:DS->Prop}{M0:MH}:∀{xs:List D}(acc:List D) (σ:DS) (M:MH),ok σ->af M0 M ->
  (∀x∈xs,∀σ acc rest M,ok σ->af M0 M->(∀a M',ok a->af M0 M'->ba g t c e F rest (acc++[f x]) a M')->ba g t c e F (x::rest) acc σ M)->(∀M',af M0 M'->F (acc++xs.map f) M')->ba g t c e F xs acc σ M
 |[],acc,σ,M,_,b,_,q=>by
  rw[List.map_nil,ZA] at q;exact q M b
 |x::xs,acc,σ,M,h,b,st,q=>st x ZW σ acc xs M h b λa M' h' d=>qm (acc++[f x]) a M' h' d (λy hy=>st y (.tail _ hy)) (by simpa using q)
theorem qo{a:Type}(x:a)(xs:List a):bW (x::xs) (some 1) none=xs:=by
 unfold bW HT.aS;simp
theorem uD{a:Type}(x:a)(xs:List a):bv (x::xs) 0=some x:=cY (j:=0) rfl
def aa(ws:Zf):List D:=ws.map .str
def Short(ws:Zf):Prop:=ws.length<4000/\∀x∈ws,x.length<=sizeLine
def kO:List Str->D
 |[]=>.non
 |w::r=>cond (!aP (.str w) (.str "things")) .non (cond (decide ((r.length:Int)<1)) .non (cond (decide (6<(r.length:Int))) .non (cond (!(r.map bJ).all id) .non (cond (decide (((aB r).length:Int)<r.length)) .non (.tup (aa r))))))
theorem iD:∀(r:Zf),dX (aa r)=some r
 |[]=>rfl
 |x::r=>by
  show Option.map _ (dX (aa r))=_;rw[iD r];rfl
def mr:aI:=λds M Q=>∃(a:Addr) (w:Str) (r:Zf),ds=[.ref a]/\M a=some (.lst (aa (w::r)))/\Short (w::r)/\∀M',af M M'->Q (kO (w::r)) M'
def d5:Ss:=#v[.ret (.bi .tuple #v[.var 1])]
def d6:Ss:=.cons (.ite (.cmp .Lt (.lenSet (.var 1)) (.bi .len #v[.var 1])) #v[.ret .non] .nil) d5
def d7:Ss:=.cons (.ite (.not (.val (.bi .all #v[.comp 1 (.fn 0 #v[.var 2]) (.nm 2) (.seq (.var 1)) .no]))) #v[.ret .non] .nil) d6
def jb:Ss:=.cons (.ite (.or (.cmp .NotEq (.ix (.var 0) (.int 0)) (.str "things")) (.or (.cmp .Lt (.bi .len #v[.var 1]) (.int 1)) (.cmp .Gt (.bi .len #v[.var 1]) (.glob 6)))) #v[.ret .non] .nil) d7
def fO:Ss:=.cons (.set 1 (.sl (.var 0) (.yes (.int 1)) .no)) jb
section
variable {cn:Cn}
theorem tG{ds:List D}{M:MH}{Q:DK}(n:cn.G.getD 6 .non=.int 6)(t:cn.F.getD 0 'e'=kN)(h:mr ds M Q):wSs cn fO (fin Q) (aC ["",""] ds) M:=by
 obtain⟨a,w,r,rfl,l,m,q⟩:=h;show wSs cn fO (fin Q) [↑a,none] M;unfold fO;simp! only[List.set,l,aU];intro p hp;have e1:=af.new (o:=MO.lst (bW (aa (w::r)) (some 1) none)) hp;have hc:bW (aa (w::r)) (some 1) none=aa r:=qo _ _;rw[hc] at e1 ⊢;have ha:=e1 a _ l;have g:ad M p (MO.lst (aa r)) p=some (.lst (aa r)):=ab;have u:bv (aa (w::r)) 0=some (.str w):=uD _ _;generalize ad M p (MO.lst (aa r))=M1 at *;unfold jb;simp! only[List.set,ha,g,n,aU,u];rw[1];have j:(aa r).length=r.length:=by simp[aa]
 rw[j];unfold kO at q;dsimp only at q;cases b1:!aP (D.str w) (D.str "things") with
 |true=>rw[b1] at q;exact q M1 e1
 |false=>
  cases b2:decide ((r.length:Int)<1) with
  |true=>rw[b1,b2] at q;exact q M1 e1
  |false=>
   cases b3:decide (6<(r.length:Int)) with
   |true=>rw[b1,b2,b3] at q;exact q M1 e1
   |false=>
    rw[b1,b2,b3] at q;show wSs cn d7 (fin Q) [some (D.ref a),some (D.ref p)] M1;unfold d7;simp! only[List.set,ha,g,aU,t];refine qm (f:=λd=>match d with | .str y=>.bl (bJ y) | d=>d) (M0:=M1) (ok:=λσ=>∃v,σ=[↑a,↑p,v]) [] _ M1 ⟨none,rfl⟩ (af.refl _) ?_ ?_
    ·intro d hd σ acc rest M2 ⟨v,hv⟩ e2 k
     subst hv;obtain⟨y,hy,rfl⟩:=XU.1 hd;exact⟨y,rfl,m.2 y (.tail _ hy),λc b=>⟨(e2.trans b) p _ g,k _ _ ⟨_,rfl⟩ (e2.trans b)⟩⟩
    ·intro M2 e2 z A
     have b:=e2.trans (af.new (o:=MO.lst ([]++(aa r).map λd=>match d with | .str y=>.bl (bJ y) | d=>d)) A);have hb:([]++(aa r).map λd=>match d with | D.str y=>D.bl (bJ y) | d=>d)=r.map λy=>D.bl (bJ y):=by
      simp[aa]
     rw[hb] at b ⊢;rw[ab];dsimp only;rw[fM];have hq:=b p _ g;generalize ad M2 z (MO.lst (r.map λy=>D.bl (bJ y)))=c at *;dsimp only;cases b4:!(r.map bJ).all id with
     |true=>rw[b4] at q;exact q c (e1.trans b)
     |false=>
      rw[b4] at q;show wSs cn d6 (fin Q) [some (D.ref a),some (D.ref p)] c;unfold d6;simp! only[List.set,hq,aU,iD,j];unfold CF i8;dsimp only;rw[hq];show(aa r).length<4000/\match dX (aa r) with | some ks=>_ | none=>_
      rw[iD,j];refine⟨by have:=m.1;simp at this;omega,?_⟩;dsimp only;cases b5:decide (((aB r).length:Int)<r.length) with
      |true=>rw[b5] at q;exact q c (e1.trans b)
      |false=>
       rw[b5] at q;show wSs cn d5 (fin Q) [some (D.ref a),some (D.ref p)] c;unfold d5;simp! only[List.set,hq,aU];exact q c (e1.trans b)
end
def fP:Ss:=#v[.ret (.var 2)]
def fQ:Ss:=.cons (.ite (.or (.cmp .Is (.var 2) .non) (.not (.val (.bi .all #v[.comp 1 (.cmp .In (.var 3) (.var 1)) (.nm 3) (.seq (.sl (.var 2) (.yes (.int 1)) .no)) .no])))) #v[.ret .non] .nil) fP
def jc:Ss:=.cons (.set 2 (.fn 0 #v[.var 0,.var 1])) fQ
def fR:Ss:=#v[.ret (.bi .tuple #v[.var 0])]
def fS:Ss:=.cons (.ite (.not (.val (.bi .all #v[.comp 1 (.or (.cmp .In (.var 2) (.var 1)) (.fn 0 #v[.var 2])) (.nm 2) (.seq (.sl (.var 0) (.yes (.int 1)) .no)) .no]))) #v[.ret .non] .nil) fR
def jd:Ss:=.cons (.ite (.or (.cmp .Lt (.bi .len #v[.var 0]) (.int 1)) (.or (.cmp .Gt (.bi .len #v[.var 0]) (.bin .Add (.int 1) (.glob 7))) (.not (.val (.fn 1 #v[.ix (.var 0) (.int 0)]))))) #v[.ret .non] .nil) fS
def de(ts:Zf)(y:Str):Bool:=cp (.str y) (aa ts)||aV y
def sj(ts:Zf):List Str->D
 |[]=>.non
 |w::r=>cond (decide (4<((w::r).length:Int))) .non (cond (!bJ w) .non (cond (!(r.map (de ts)).all id) .non (.tup (aa (w::r)))))
def df:aI:=λds M Q=>∃(a:Addr) (ws ts:Zf),ds=[.ref a,.tup (aa ts)]/\M a=some (.lst (aa ws))/\Short ws/\∀M',af M M'->Q (sj ts ws) M'
theorem bK:∀(ts:Zf),aT (aa ts)=true
 |[]=>rfl
 |x::r=>by
  show(aW (.str x)&&aT (aa r))=true;rw[bK r];rfl
theorem dB:∀(ts:Zf),bh (aa ts)<=30
 |[]=>by decide
 |x::r=>by
  have:=dB r
  show bh (.str x::aa r)<=30;rw[bh];have a:cD (.str x)=0:=rfl;omega
section
variable {cn:Cn}
theorem wH{ds:List D}{M:MH}{Q:DK}(n:cn.G.getD 7 .non=.int 3)(l:cn.F.getD 0 'e'=jI)(t:cn.F.getD 1 'e'=kN)(h:df ds M Q):wSs cn jd (fin Q) (aC ["",""] ds) M:=by
 obtain⟨a,ws,ts,rfl,b,m,q⟩:=h;show wSs cn jd (fin Q) [↑a,some (.tup (aa ts))] M;unfold jd;simp! only[List.set,b,aU,n,l,t];cases ws with
 |nil=>exact q M (af.refl M)
 |cons w r=>
  have hl:(aa (w::r)).length=(w::r).length:=by simp[aa]
  have h1:decide (((w::r).length:Int)<1)=false:=ZO (by simp only[YI];omega);rw[hl,h1];unfold sj at q;dsimp only at q;show aN (decide (4<((w::r).length:Int))) _ _;cases b1:decide (4<((w::r).length:Int)) with
  |true=>rw[b1] at q;exact q M (af.refl M)
  |false=>
   rw[b1] at q;have u:bv (aa (w::r)) 0=some (.str w):=uD _ _;rw[u];refine⟨w,rfl,m.2 w ZW,λM1 e1=>?_⟩;have ha:=e1 a _ b;show aN (!bJ w) _ _;cases b2:!bJ w with
   |true=>rw[b2] at q;exact q M1 e1
   |false=>
    rw[b2] at q;show wSs cn fS (fin Q) [some (D.ref a),some (D.tup (aa ts))] M1;unfold fS;simp! only[List.set,ha,aU,l];intro p hp;have hc:bW (aa (w::r)) (some 1) none=aa r:=qo _ _;rw[hc];have e2:=e1.trans (af.new (o:=MO.lst (aa r)) hp);have ha:=e2 a _ b;have g:ad M1 p (MO.lst (aa r)) p=some (.lst (aa r)):=ab;generalize ad M1 p (MO.lst (aa r))=M2 at *;rw[g];dsimp only;refine mo (f:=λd=>match d with | .str y=>.bl (de ts y) | d=>d) (ok:=λσ=>∃v,σ=[↑a,some (.tup (aa ts)),v]) [] _ ⟨none,rfl⟩ ?_ ?_
    ·intro d hd σ acc rest ⟨v,hv⟩ k
     subst hv;obtain⟨y,hy,rfl⟩:=XU.1 hd;refine⟨⟨rfl,bK ts,dB ts⟩,?_⟩;have hk:=k _ ⟨some (.str y),rfl⟩;dsimp only at hk;unfold de at hk;show aN (cp (.str y) (aa ts)) _ _;cases b5:cp (.str y) (aa ts) with
     |true=>rw[b5] at hk;exact⟨g,hk⟩
     |false=>
      rw[b5] at hk;exact⟨y,rfl,m.2 y (.tail _ hy),⟨g,hk⟩⟩
    ·intro z A
     have c:=e2.trans (af.new (o:=MO.lst ([]++(aa r).map λd=>match d with | .str y=>.bl (de ts y) | d=>d)) A);have hb:([]++(aa r).map λd=>match d with | D.str y=>D.bl (de ts y) | d=>d)=r.map λy=>D.bl (de ts y):=by
      simp[aa]
     rw[hb] at c ⊢;rw[ab];dsimp only;rw[fM];have ha:=c a _ b;generalize ad M2 z (MO.lst (r.map λy=>D.bl (de ts y)))=j at *;dsimp only;cases b4:!(r.map (de ts)).all id with
     |true=>rw[b4] at q;exact q j c
     |false=>
      rw[b4] at q;show wSs cn fR (fin Q) [some (D.ref a),some (D.tup (aa ts))] j;unfold fR;simp! only[List.set,ha,aU];exact q j c
end
def bm(ts:Zf):List Str->Bool
 |[]=>false
 |w::r=>!decide (4<((w::r).length:Int))&&bJ w&&(r.map (de ts)).all id
theorem je(ts ws:Zf):sj ts ws=cond (bm ts ws) (.tup (aa ws)) .non:=by
 cases ws with
 |nil=>rfl
 |cons w r=>
  unfold sj bm;dsimp only;cases decide (4<((w::r).length:Int))<;>cases bJ w<;>cases(r.map (de ts)).all id<;>rfl
def cw(ts:Zf)(y:Str):Bool:=cp (.str y) (aa ts)
def va(ts ws:Zf):D:=cond (bm ts ws) (cond (!(ws.tail.map (cw ts)).all id) .non (.tup (aa ws))) .non
def sm:aI:=λds M Q=>∃(a:Addr) (ws ts:Zf),ds=[.ref a,.tup (aa ts)]/\M a=some (.lst (aa ws))/\Short ws/\∀M',af M M'->Q (va ts ws) M'
section
variable {cn:Cn}
theorem wJ{ds:List D}{M:MH}{Q:DK}(j:cn.F.getD 0 'e'=df)(h:sm ds M Q):wSs cn jc (fin Q) (aC ["","",""] ds) M:=by
 obtain⟨a,ws,ts,rfl,g,l,q⟩:=h;show wSs cn jc (fin Q) [↑a,some (.tup (aa ts)),none] M;unfold jc;simp! only[List.set,g,aU,j];refine⟨a,ws,ts,rfl,g,l,λM1 e1=>?_⟩;rw[je];unfold va at q;cases b1:bm ts ws with
 |false=>
  rw[b1] at q;unfold fQ;simp! only[List.set,aU];exact⟨trivial,q M1 e1⟩
 |true=>
  rw[b1] at q;dsimp only[cond] at q ⊢;cases ws with
  |nil=>cases b1
  |cons w r=>
   unfold fQ;simp! only[List.set,aU];have hc:bW (aa (w::r)) (some 1) none=aa r:=qo _ _;rw[hc];refine⟨trivial,?_⟩;refine mo (f:=λd=>match d with | .str y=>.bl (cw ts y) | d=>d) (ok:=λσ=>∃v,σ=[↑a,some (.tup (aa ts)),some (.tup (aa (w::r))),v]) [] _ ⟨none,rfl⟩ ?_ ?_
   ·intro d hd σ acc rest ⟨v,hv⟩ k
    subst hv;obtain⟨y,hy,rfl⟩:=XU.1 hd;exact⟨⟨rfl,bK ts,dB ts⟩,trivial,k _ ⟨some (.str y),rfl⟩⟩
   ·intro m n
    have b:=e1.trans (af.new (o:=MO.lst ([]++(aa r).map λd=>match d with | .str y=>.bl (cw ts y) | d=>d)) n);have hb:([]++(aa r).map λd=>match d with | D.str y=>D.bl (cw ts y) | d=>d)=r.map λy=>D.bl (cw ts y):=by
     simp[aa]
    rw[hb] at b ⊢;rw[ab];dsimp only;rw[fM];generalize ad M1 m (MO.lst (r.map λy=>D.bl (cw ts y)))=c at *;dsimp only;have q:∀M',af M M'->Q (cond (!(r.map (cw ts)).all id) .non (.tup (aa (w::r)))) M':=q;cases b4:!(r.map (cw ts)).all id with
    |true=>rw[b4] at q;exact q c b
    |false=>
     rw[b4] at q;show wSs cn fP (fin Q) [some (D.ref a),some (D.tup (aa ts)),some (.tup (aa (w::r)))] c;unfold fP;simp! only[List.set,aU];exact q c b
end
def fT:Ss:=#v[.ret (.tup #v[.str "many",.bj .int #v[.ix (.var 0) (.int 1)],.ix (.var 0) (.int 2),.var 2])]
def kP:Ss:=.cons (.ite (.or (.cmp .Is (.var 2) .non) (.or (.cmp .NotIn (.ix (.var 0) (.int 1)) (.glob 9)) (.not (.val (.fn 0 #v[.ix (.var 0) (.int 2),.var 2]))))) #v[.ret .non] .nil) fT
def jf:Ss:=.cons (.set 2 (.fn 1 #v[.sl (.var 0) (.yes (.int 3)) .no,.var 1])) kP
def fq:Ss:=#v[.ret (.tup #v[.str "first",.ix (.var 0) (.int 1),.var 2])]
def jJ:Ss:=.cons (.ite (.or (.cmp .Is (.var 2) .non) (.not (.val (.fn 0 #v[.ix (.var 0) (.int 1),.var 2])))) #v[.ret .non] .nil) fq
def gX:Ss:=.cons (.set 2 (.fn 1 #v[.sl (.var 0) (.yes (.int 2)) .no,.var 1])) jJ
def jg:Ss:=#v[.ret (.and (.fn 0 #v[.var 0]) (.cmp .In (.var 0) (.sl (.var 1) (.yes (.int 1)) .no)))]
theorem zM{a:Type}(xs:List a)(k:Nat):bW xs (some (k:Int)) none=xs.drop k:=by
 unfold bW;rw[HT.D5,HT.BY];by_cases h:k<=xs.length
 ·rw[Nat.min_eq_left h,List.take_of_length_le (by simp)]
 ·rw[Nat.min_eq_right 'c',List.drop_eq_nil_of_le 'c',List.drop_eq_nil_of_le 'c',List.take_nil]
theorem jK(ws:Zf)(k:Nat):(aa ws).drop k=aa (ws.drop k):=by simp[aa]
theorem Short.drop{ws:Zf}(h:Short ws)(k:Nat):Short (ws.drop k):=⟨by have:=h.1;simp;omega,λx hx=>h.2 x (List.mem_of_mem_drop hx)⟩
def bH(v:Str)(a:Zf):Bool:=aV v&&cp (.str v) (aa a.tail)
def fU:aI:=λds M Q=>∃(v:Str) (w:Str) (r:Zf),ds=[.str v,.tup (aa (w::r))]/\v.length<=sizeLine/\Q (.bl (bH v (w::r))) M
def wK(ts:Zf)(ws:Zf):D:=match ws with
 |f::v::a=>cond (bm ts a) (cond (!bH v a) .non (.tup [.str "first",.str v,.tup (aa a)])) .non
 |_=>.non
def oC:aI:=λds M Q=>∃(a:Addr) (ws ts:Zf),ds=[.ref a,.tup (aa ts)]/\M a=some (.lst (aa ws))/\Short ws/\∀M',af M M'->Q (wK ts ws) M'
section
variable {cn:Cn}
theorem wL{ds:List D}{M:MH}{Q:DK}(a:cn.F.getD 0 'e'=jI)(h:fU ds M Q):wSs cn jg (fin Q) (aC ["",""] ds) M:=by
 obtain⟨v,w,r,rfl,hv,q⟩:=h;show wSs cn jg (fin Q) [some (.str v),some (.tup (aa (w::r)))] M;unfold jg;simp! only[List.set,a];refine⟨v,rfl,hv,?_⟩;unfold bH at q;show aN (aV v) _ _;cases b1:aV v with
 |false=>rw[b1] at q;exact q
 |true=>
  rw[b1] at q;have hc:bW (aa (w::r)) (some 1) none=aa r:=qo _ _;show _/\_;rw[hc];exact⟨⟨rfl,bK r,dB r⟩,q⟩
theorem uV{ds:List D}{M:MH}{Q:DK}(d:cn.F.getD 0 'e'=fU)(g:cn.F.getD 1 'e'=df)(h:oC ds M Q):wSs cn gX (fin Q) (aC ["","",""] ds) M:=by
 obtain⟨a,ws,ts,rfl,l,b,q⟩:=h;show wSs cn gX (fin Q) [↑a,some (.tup (aa ts)),none] M;unfold gX;simp! only[List.set,l,aU,d,g];intro p hp;have hc:bW (aa ws) (some 2) none=aa (ws.drop 2):=(zM _ 2).trans (jK ws 2);rw[hc];have e1:=af.new (o:=MO.lst (aa (ws.drop 2))) hp;have ha:=e1 a _ l;refine⟨p,ws.drop 2,ts,rfl,ab,b.drop 2,λM1 e2=>?_⟩;have ha:=e2 a _ ha;rw[je];unfold jJ;simp! only[List.set,ha,aU,d,g];refine⟨trivial,?_⟩;match ws,b,q with
 |[],b,q=>exact q M1 (e1.trans e2)
 |[_],b,q=>exact q M1 (e1.trans e2)
 |f::v::c,b,q=>
  unfold wK at q;dsimp only[List.drop] at q ⊢;cases b1:bm ts c with
  |false=>rw[b1] at q;exact q M1 (e1.trans e2)
  |true=>
   rw[b1] at q;have h1:bv (aa (f::v::c)) 1=some (.str v):=cY (j:=1) rfl;show aN false _ _;cases c with
   |nil=>cases b1
   |cons w r=>
    rw[h1];refine⟨v,w,r,rfl,b.2 v (by simp),?_⟩;show aN (!bH v (w::r)) _ _;cases b2:!bH v (w::r) with
    |true=>rw[b2] at q;exact q M1 (e1.trans e2)
    |false=>
     rw[b2] at q;show wSs cn fq (fin Q) _ M1;unfold fq;simp! only[List.set,ha,aU,h1];exact q M1 (e1.trans e2)
end
def jh:List Str:=["1","2","3","4","5","6"]
def wM(ts:Zf)(ws:Zf):D:=match ws with
 |m::n::v::a=>cond (bm ts a) (cond (!cp (.str n) (aa jh)) .non (cond (!bH v a) .non (.tup [.str "many",.int ((iC n).getD 0),.str v,.tup (aa a)]))) .non
 |_=>.non
theorem G9{n:Str}(h:cp (.str n) (aa jh)=true):∃k,iC n=some k:=by
 unfold cp aa jh at h;simp only[List.map,YZ,List.any_nil,Bool.or_false,Bool.or_eq_true] at h;rcases h with h | h | h | h | h | h<;>(obtain rfl:=eq_of_beq (show(_==n)=true from h))<;>exact⟨_,rfl⟩
def sn:aI:=λds M Q=>∃(a:Addr) (ws ts:Zf),ds=[.ref a,.tup (aa ts)]/\M a=some (.lst (aa ws))/\Short ws/\∀M',af M M'->Q (wM ts ws) M'
section
variable {cn:Cn}
theorem wN{ds:List D}{M:MH}{Q:DK}(t:cn.G.getD 9 .non=.tup (aa jh))(d:cn.F.getD 0 'e'=fU)(f:cn.F.getD 1 'e'=df)(h:sn ds M Q):wSs cn jf (fin Q) (aC ["","",""] ds) M:=by
 obtain⟨a,ws,ts,rfl,g,b,q⟩:=h;show wSs cn jf (fin Q) [↑a,some (.tup (aa ts)),none] M;unfold jf;simp! only[List.set,g,aU,d,f];intro p hp;have hc:bW (aa ws) (some 3) none=aa (ws.drop 3):=(zM _ 3).trans (jK ws 3);rw[hc];have e1:=af.new (o:=MO.lst (aa (ws.drop 3))) hp;have ha:=e1 a _ g;refine⟨p,ws.drop 3,ts,rfl,ab,b.drop 3,λM1 e2=>?_⟩;have ha:=e2 a _ ha;rw[je];unfold kP;simp! only[List.set,ha,aU,d,f,t];refine⟨trivial,?_⟩;match ws,b,q with
 |[],b,q=>exact q M1 (e1.trans e2)
 |[_],b,q=>exact q M1 (e1.trans e2)
 |[_,_],b,q=>exact q M1 (e1.trans e2)
 |m::n::v::c,b,q=>
  unfold wM at q;dsimp only[List.drop] at q ⊢;cases b1:bm ts c with
  |false=>rw[b1] at q;exact q M1 (e1.trans e2)
  |true=>
   rw[b1] at q;have h1:bv (aa (m::n::v::c)) 1=some (.str n):=cY (j:=1) rfl;have l:bv (aa (m::n::v::c)) 2=some (.str v):=cY (j:=2) rfl;show aN false _ _;cases c with
   |nil=>cases b1
   |cons w r=>
    rw[h1];refine⟨⟨rfl,bK _,dB _⟩,?_⟩;cases b3:!cp (.str n) (aa jh) with
    |true=>rw[b3] at q;exact q M1 (e1.trans e2)
    |false=>
     rw[b3] at q;rw[l,aq];refine⟨v,w,r,rfl,b.2 v (by simp),?_⟩;show aN (!bH v (w::r)) _ _;cases b2:!bH v (w::r) with
     |true=>rw[b2] at q;exact q M1 (e1.trans e2)
     |false=>
      rw[b2] at q;obtain⟨k,hk⟩:=G9 (n:=n) (by simpa using b3);rw[hk] at q;show wSs cn fT (fin Q) _ M1;unfold fT;simp! only[List.set,ha,aU,h1,l,u8,hk];exact q M1 (e1.trans e2)
end
end SB
namespace SB
open PySem PySem.Builtin PySem.Builtin.Str PySem.StrLaws
theorem ph{x y:Str}(hy:(y.length==0)=false):Txt.split x y=partsBetween x (occurrences x y 0 x.length (x.length+1)) y.length:=by
 have h:=PySem.W.m_split x y hy;have h':some (PySem.W.WData.list ((partsBetween x (occurrences x y 0 x.length (x.length+1)) y.length).map .str))=some (.list ((Txt.split x y).map .str)):=by
  rw[←h];show _=(if(y.length==0)=true then Option.none else some _);rw[if_neg (by rw[hy];nofun)];rfl
 have e:=PySem.W.WData.list.inj (Yi h');exact((List.map_inj_right (λa b q=>PySem.W.WData.str.inj q)).1 e).symm
theorem mw(s sub:Str)(hi b:Nat):∀(l:Zj) (st:Array Nat×Nat),(∀i∈l,st.2<=i->i+sub.length<=hi->subAt s sub i=false)->(forIn (m:=Id) l st (occBody s sub hi b)).run=st
 |[],_,_=>rfl
 |a::l,st,h=>by
  rw[XA];unfold occBody;have hn:¬(((st.fst.size<b/\st.snd<=a)/\a+sub.length<=hi)/\subAt s sub a=true):=λc=>by rw[h a (.head _) c.1.1.2 c.1.2] at c;cases c.2
  rw[if_neg hn];exact mw s sub hi b l st λi d=>h i (.tail _ d)
theorem oE(s sub:Str)(hi b:Nat):∀(l m:Zj) (st:Array Nat×Nat),(forIn (m:=Id) (l++m) st (occBody s sub hi b)).run=(forIn (m:=Id) m ((forIn (m:=Id) l st (occBody s sub hi b)).run) (occBody s sub hi b)).run
 |[],_,_=>rfl
 |a::l,m,st=>by
  rw[XV,XA,XA];unfold occBody;split
  ·exact oE s sub hi b l m _
  ·exact oE s sub hi b l m _
def bq(w:Nat):Nat->List Nat->List Nat
 |_,[]=>[]
 |_,[_]=>[]
 |o,n::m::r=>(o+n)::bq w (o+n+w) (m::r)
theorem wO(s sub:Str)(j:0<sub.length):∀(ns:Zj) (o:Nat) (st:Array Nat×Nat),st.2=o->st.1.size+ns.length<=s.length+2->ns≠[]->(ns.sum+(ns.length-1)*sub.length+o=s.length) ->
  (∀c∈bq sub.length o ns,subAt s sub c=true) ->
  (∀i,o<=i->i+sub.length<=s.length->i∉bq sub.length o ns->(∀c∈bq sub.length o ns,i<c\/c+sub.length<=i)->subAt s sub i=false) ->
  (forIn (m:=Id) (List.range' o (s.length+1-o)) st (occBody s sub s.length (s.length+1))).run.1.toList=st.1.toList++bq sub.length o ns
 |[],_,_,_,_,h,_,_,_=>absurd rfl h
 |[n],o,st,e,_,_,hn,_,f=>by
  rw[mw]
  ·exact(ZA _).symm
  ·intro i hi h1 d
   exact f i (by rw[List.mem_range'_1] at hi;omega) d (by simp[bq]) (by simp[bq])
 |n::m::r,o,st,e,hsz,_,hn,g,f=>by
  have p:o+n+sub.length<=s.length:=by
   simp only[List.sum_cons,YI,Nat.add_sub_cancel] at hn;have:(r.length+1)*sub.length=r.length*sub.length+sub.length:=by rw[Nat.add_mul,Nat.one_mul]
   omega
  have e1:List.range' o (s.length+1-o)=List.range' o n++(o+n)::List.range' (o+n+1) (s.length+1-(o+n+1)):=by
   rw[show s.length+1-o=n+((s.length+1-(o+n+1))+1) by omega,←List.range'_append_1,List.range'_succ]
  have first:∀c∈bq sub.length (o+n+sub.length) (m::r),o+n+sub.length<=c:=by
   have gen:∀(l:Zj) (q:Nat),∀c∈bq sub.length q l,q<=c:=by
    intro l;induction l with
    |nil=>intro q c hc;simp[bq] at hc
    |cons a l t=>
     intro q c hc;cases l with
     |nil=>simp[bq] at hc
     |cons b l=>
      rw[bq,ZY] at hc;rcases hc with rfl | hc
      ·omega
      ·have:=t _ c hc;omega
   exact gen _ _
  have u:subAt s sub (o+n)=true:=g _ (by rw[bq];exact .head _);rw[e1,oE];have y:=mw s sub s.length (s.length+1) (List.range' o n) st (λi hi h1 d=>f i (by rw[List.mem_range'_1] at hi;omega) d (λhc=>by
   rw[List.mem_range'_1] at hi;rw[bq,ZY] at hc;rcases hc with rfl | hc
   ·omega
   ·have:=first _ hc;omega) (λc hc=>by
   rw[List.mem_range'_1] at hi;rw[bq,ZY] at hc;rcases hc with rfl | hc
   ·left;omega
   ·left;have:=first _ hc;omega))
  rw[y,XA];unfold occBody;rw[if_pos ⟨⟨⟨by simp only[YI] at hsz;omega,by omega⟩,p⟩,u⟩];show(forIn (m:=Id) (List.range' (o+n+1) (s.length+1-(o+n+1))) (st.1.push (o+n),o+n+sub.length) (occBody s sub s.length (s.length+1))).run.1.toList=_
  -- up to the end of what was found nothing is free
  have e2:List.range' (o+n+1) (s.length+1-(o+n+1))=List.range' (o+n+1) (sub.length-1)++List.range' (o+n+sub.length) (s.length+1-(o+n+sub.length)):=by
   rw[show s.length+1-(o+n+1)=(sub.length-1)+(s.length+1-(o+n+sub.length)) by omega,←List.range'_append_1,show o+n+1+(sub.length-1)=o+n+sub.length by omega]
  rw[e2,oE];rw[mw s sub s.length (s.length+1) (List.range' (o+n+1) (sub.length-1)) (st.1.push (o+n),o+n+sub.length) (λi hi h1 d=>by rw[List.mem_range'_1] at hi;have h1:o+n+sub.length<=i:=h1;omega)];rw[wO s sub j (m::r) (o+n+sub.length) (st.1.push (o+n),o+n+sub.length) rfl (by simp only[YI,Array.size_push] at hsz ⊢;omega) (by simp) (by
   simp only[List.sum_cons,YI,Nat.add_sub_cancel] at hn ⊢;have:(r.length+1)*sub.length=r.length*sub.length+sub.length:=by rw[Nat.add_mul,Nat.one_mul]
   omega) (λc hc=>g c (by rw[bq];exact .tail _ hc)) (λi h1 d z A=>f i 'c' d (λhc=>by
    rw[bq,ZY] at hc;rcases hc with rfl | hc
    ·omega
    ·exact z hc) (λc hc=>by
    rw[bq,ZY] at hc;rcases hc with rfl | hc
    ·right;omega
    ·exact A c hc))]
  show(st.1.push (o+n)).toList++_=_;rw[Array.toList_push,ZB];rfl
theorem tH{x y:Str}{i:Nat}:subAt x y i=((x.cps.toList.drop i).take y.length==y.cps.toList):=subAt_eq x y i
theorem a9(x:Str):x.cps.toList.length=x.length:=by simp[Str.length]
theorem bS(y a b:Str)(r:Zf):Str.join y (a::b::r)=a++y++Str.join y (b::r):=rfl
theorem len_app(a b:Str):(a++b).length=a.length+b.length:=by simp[Str.length,Str.cps_append]
theorem bM(a b:Str):(a++b).cps.toList=a.cps.toList++b.cps.toList:=by simp[Str.cps_append]
theorem qp(y:Str):∀(a:Str) (l:Zf),(Str.join y (a::l)).length=((a::l).map (·.length)).sum+l.length*y.length
 |a,[]=>by show a.length=_;simp
 |a,b::l=>by
  rw[bS,len_app,len_app,qp y b l];simp only[YK,List.sum_cons,YI,Nat.add_mul];omega
theorem wQ(x y:Str):∀(ps:Zf) (pre:Zj),ps≠[]->x.cps.toList=pre++(Str.join y ps).cps.toList->partsFrom x y.length pre.length (bq y.length pre.length (ps.map (·.length)))=ps/\∀c∈bq y.length pre.length (ps.map (·.length)),subAt x y c=true
 |[],_,h,_=>absurd rfl h
 |[p],pre,_,e=>by
  refine⟨?_,λc hc=>by simp[bq] at hc⟩;show[strSub x pre.length x.length]=[p];congr 1;apply Str.ext';apply XY.mp;rw[strSub_toList,e,←a9 x,e,List.drop_left];show List.take _ p.cps.toList=_;rw[ZJ,Nat.add_sub_cancel_left];exact List.take_length
 |p::q::r,pre,_,e=>by
  rw[bS,bM,bM] at e;have e':x.cps.toList=(pre++p.cps.toList++y.cps.toList)++(Str.join y (q::r)).cps.toList:=by rw[e];simp only[ZB]
  have hl:(pre++p.cps.toList++y.cps.toList).length=pre.length+p.length+y.length:=by simp only[ZJ,a9]
  obtain⟨a,b⟩:=wQ x y (q::r) (pre++p.cps.toList++y.cps.toList) (by simp) e';rw[hl] at a b;simp only[YK] at a b ⊢;rw[bq];refine⟨?_,λc hc=>?_⟩
  ·show strSub x pre.length (pre.length+p.length)::partsFrom x y.length (pre.length+p.length+y.length) _=_
   rw[a];congr 1;apply Str.ext';apply XY.mp;rw[strSub_toList,e,ZB,List.drop_left,Nat.add_sub_cancel_left,←a9 p];exact List.take_left
  ·rw[ZY] at hc
   rcases hc with rfl | hc
   ·rw[tH,e,show pre++(p.cps.toList++y.cps.toList++(Str.join y (q::r)).cps.toList)=(pre++p.cps.toList)++(y.cps.toList++(Str.join y (q::r)).cps.toList) by simp only[ZB],show pre.length+p.length=(pre++p.cps.toList).length by rw[ZJ,a9],List.drop_left,←a9 y,List.take_left]
    exact XB _
   ·exact b c hc
theorem my{y:Str}(hy:0<y.length){ps:Zf}(b:ps≠[])(d:∀i,subAt (Str.join y ps) y i=true->i+y.length<=(Str.join y ps).length->i∈bq y.length 0 (ps.map (·.length)) \/ ∃c∈bq y.length 0 (ps.map (·.length)),c<=i/\i<c+y.length):
  Txt.split (Str.join y ps) y=ps:=by
 obtain⟨f,g⟩:=wQ (Str.join y ps) y ps [] b rfl;rw[ph (by rw[ZP];omega),partsBetween_eq,occ_eq];have hl:(ps.map (·.length)).sum+((ps.map (·.length)).length-1)*y.length+0=(Str.join y ps).length:=by
  cases ps with
  |nil=>exact absurd rfl b
  |cons a l=>rw[qp,ZF,YI,Nat.add_sub_cancel];rfl
 have hc:=wO (Str.join y ps) y hy (ps.map (·.length)) 0 (#[],0) rfl (by
  have:(ps.length-1)*1<=(ps.length-1)*y.length:=Nat.mul_le_mul_left _ hy
  simp only[ZF] at hl ⊢;simp only[YG,YS];omega) (by simpa using b) hl g (λi _ j m n=>by
   cases q:subAt (Str.join y ps) y i with
   |false=>rfl
   |true=>
    rcases d i q j with h | ⟨c,hc,h5,h6⟩
    ·exact absurd h m
    ·rcases n c hc with h | h<;>omega)
 rw[show(Str.join y ps).length+1-0=(Str.join y ps).length+1 from rfl] at hc ⊢;rw[hc];exact f
theorem yF{x y:Str}{c:Nat}{t:Zj}(hy:y.cps.toList=c::t)(ht:c∉t):∀(ps:Zf) (pre:Zj),ps≠[]->(∀p∈ps,c∉p.cps.toList)->x.cps.toList=pre++(Str.join y ps).cps.toList->∀i,pre.length<=i->x.cps.toList[i]?=some c->i∈bq y.length pre.length (ps.map (·.length))
 |[],_,h,_,_,_,_,_=>absurd rfl h
 |[p],pre,_,hp,e,i,hi,q=>by
  rw[e,ZH hi] at q;exact absurd (YR q) (hp p (.head _))
 |p::a::r,pre,_,hp,e,i,hi,q=>by
  rw[bS,bM,bM] at e;have e':x.cps.toList=(pre++p.cps.toList++y.cps.toList)++(Str.join y (a::r)).cps.toList:=by rw[e];simp only[ZB]
  have hl:(pre++p.cps.toList++y.cps.toList).length=pre.length+p.length+y.length:=by simp only[ZJ,a9]
  have b:=yF hy ht (a::r) (pre++p.cps.toList++y.cps.toList) (by simp) (λz hz=>hp z (.tail _ hz)) e' i;rw[hl] at b;simp only[YK] at b ⊢;rw[bq,ZY];have f:y.length=t.length+1:=by rw[←a9,hy,YI]
  by_cases h1:i<pre.length+p.length
  ·rw[e',ZB,ZB,ZH hi,ZE (by rw[a9];omega)] at q
   exact absurd (YR q) (hp p (.head _))
  ·by_cases d:i=pre.length+p.length
   ·exact .inl d
   ·by_cases g:i<pre.length+p.length+y.length
    ·rw[e',ZB,show pre++p.cps.toList++(y.cps.toList++(Str.join y (a::r)).cps.toList)=(pre++p.cps.toList)++(y.cps.toList++(Str.join y (a::r)).cps.toList) from rfl,ZH (by rw[ZJ,a9];omega),ZE (by rw[ZJ,a9,a9];omega),hy] at q
     rw[show i-(pre++p.cps.toList).length=(i-(pre++p.cps.toList).length-1)+1 by rw[ZJ,a9];omega,List.getElem?_cons_succ] at q;exact absurd (YR q) ht
    ·exact .inr (b 'c' q)
theorem zN{x y:Str}{c:Nat}{t:Zj}(hy:y.cps.toList=c::t){i:Nat}(h:subAt x y i=true):x.cps.toList[i]?=some c:=by
 rw[tH] at h;have h:=eq_of_beq h;rw[hy] at h;have e:((x.cps.toList.drop i).take y.length)[0]?=some c:=by rw[h];rfl
 have hl:y.length=t.length+1:=by rw[←a9,hy,YI]
 rw[List.getElem?_take,if_pos 'c',List.getElem?_drop] at e;exact e
theorem qr{y:Str}{c:Nat}{t:Zj}(hy:y.cps.toList=c::t)(ht:c∉t){ps:Zf}(a:ps≠[])(hp:∀p∈ps,c∉p.cps.toList):Txt.split (Str.join y ps) y=ps:=
 my (by rw[←a9,hy,YI];omega) a λi h _=>.inl (yF hy ht ps [] a hp rfl i (YL _) (zN hy h))
def ca(c:Nat):List Nat->List (List Nat)
 |[]=>[[]]
 |a::r=>if a=c then[]::ca c r else(a::(ca c r).headD [])::(ca c r).tail
theorem yG(c:Nat):∀l,ca c l≠[]
 |[]=>by simp[ca]
 |a::r=>by unfold ca;split<;>simp
theorem mz(c:Nat)(v:Zj):∀u:List Nat,ca c (u++c::v)=ca c u++ca c v
 |[]=>by simp[ca]
 |a::u=>by
  rw[XV,ca,mz c v u];by_cases h:a=c
  ·rw[if_pos h,ca,if_pos h];rfl
  ·rw[if_neg h,ca,if_neg h]
   cases q:ca c u with
   |nil=>exact absurd q (yG c u)
   |cons w ws=>rfl
theorem mB{c:Nat}:∀{u:Zj},c∉u->ca c u=[u]
 |[],_=>rfl
 |a::u,h=>by
  rw[ca,if_neg (λe=>h (by rw[e];exact .head _)),mB (λq=>h (.tail _ q))];rfl
theorem nM(c:Nat):∀(ws:Zf),ws≠[]->(∀p∈ws,c∉p.cps.toList)->ca c (Str.join ⟨#[c]⟩ ws).cps.toList=ws.map (·.cps.toList)
 |[],h,_=>absurd rfl h
 |[p],_,hp=>mB (hp p (.head _))
 |p::q::r,_,hp=>by
  rw[bS,bM,bM,ZB];show ca c (p.cps.toList++c::(Str.join ⟨#[c]⟩ (q::r)).cps.toList)=_;rw[mz,nM c (q::r) (by simp) (λz hz=>hp z (.tail _ hz)),mB (hp p (.head _))];rfl
theorem su(c:Nat):∀l:List Nat,l.length+1=((ca c l).map (·.length)).sum+(ca c l).length
 |[]=>rfl
 |a::r=>by
  have b:=su c r;rw[ca];split
  ·simp only[YK,List.sum_cons,YI,YS] at b ⊢;omega
  ·cases q:ca c r with
   |nil=>exact absurd q (yG c r)
   |cons w ws=>
    rw[q] at b;simp only[List.headD_cons,List.tail_cons,YK,List.sum_cons,YI] at b ⊢;omega
theorem uE{f:Type}{x:f}:∀{u v d c:List f},u++x::v=d++x::c->x∉d->x∉c->u=d
 |[],v,[],c,_,_,_=>rfl
 |[],v,b::d,c,e,h,_=>by
  rw[YX,XV] at e;exact absurd (List.cons.inj e).1 (λq=>h (by rw[q];exact .head _))
 |a::u,v,[],c,e,_,h=>by
  rw[YX,XV] at e;exact absurd (show x∈c by rw[←(List.cons.inj e).2];simp) h
 |a::u,v,b::d,c,e,h,h'=>by
  rw[XV,XV] at e;obtain⟨e1,e2⟩:=List.cons.inj e;rw[e1,uE e2 (λq=>h (.tail _ q)) h']
theorem wR{x:Str}{y:Str}{w:Zj}{c i:Nat}(hy:y.cps.toList=c::(w++[c]))(hw:c∉w)(h:subAt x y i=true)(hi:i+y.length<=x.length):∃u v,ca c x.cps.toList=u++w::v/\(u.map (·.length)).sum+u.length=i+1:=by
 rw[tH] at h;have h:=eq_of_beq h;have e:x.cps.toList=x.cps.toList.take i++(c::(w++c::x.cps.toList.drop (i+y.length))):=by
  have e1:x.cps.toList=x.cps.toList.take i++x.cps.toList.drop i:=(List.take_append_drop i _).symm;have e2:x.cps.toList.drop i=(x.cps.toList.drop i).take y.length++(x.cps.toList.drop i).drop y.length:=(List.take_append_drop y.length _).symm;rw[h,hy,List.drop_drop] at e2;have b:x.cps.toList.drop i=c::(w++c::x.cps.toList.drop (i+y.length)):=by rw[e2];simp
  rw[←b];exact e1
 refine⟨ca c (x.cps.toList.take i),ca c (x.cps.toList.drop (i+y.length)),?_,?_⟩
 ·have a:=congrArg (ca c) e
  rw[mz,mz,mB hw] at a;exact a
 ·rw[←su,YQ,a9];omega
theorem sw{y:Str}{w:Zj}{c:Nat}(hy:y.cps.toList=c::(w++[c]))(hw:c∉w){ws:Zf}(a:ws≠[])(hp:∀p∈ws,c∉p.cps.toList)(hn:∀p∈ws,p.cps.toList≠w):Txt.split (Str.join ⟨#[c]⟩ ws) y=[Str.join ⟨#[c]⟩ ws]:=by
 have:=my (y:=y) (ps:=[Str.join ⟨#[c]⟩ ws]) (by rw[←a9,hy,YI];omega) (by simp) (λi h hi=>by
  obtain⟨u,v,e,_⟩:=wR hy hw (x:=Str.join ⟨#[c]⟩ ws) h hi;rw[nM c ws a hp] at e;have:w∈ws.map (·.cps.toList):=by rw[e];simp
  obtain⟨p,b,d⟩:=XU.1 this;exact absurd d (hn p b))
 exact this
theorem mC(y:Str):∀(a b:Zf),a≠[]->b≠[]->Str.join y (a++b)=Str.join y a++y++Str.join y b
 |[],_,h,_=>absurd rfl h
 |[p],b,_,hb=>by
  cases b with
  |nil=>exact absurd rfl hb
  |cons q r=>rfl
 |p::q::r,b,_,hb=>by
  have c:=mC y (q::r) b (by simp) hb;show p++y++Str.join y (q::r++b)=p++y++Str.join y (q::r)++y++Str.join y b;rw[c];apply Str.ext';simp only[Str.cps_append,ZZ]
theorem Bt{y:Str}{w:Str}{c:Nat}(hy:y.cps.toList=c::(w.cps.toList++[c]))(hw:c∉w.cps.toList){ws vs:Zf}(f:ws≠[])(g:vs≠[])(hp:∀p∈ws,c∉p.cps.toList)(j:∀p∈vs,c∉p.cps.toList)(hn:w∉ws)(l:w∉vs):
  Txt.split (Str.join ⟨#[c]⟩ ws++y++Str.join ⟨#[c]⟩ vs) y=[Str.join ⟨#[c]⟩ ws,Str.join ⟨#[c]⟩ vs]:=by
 have all:Str.join y [Str.join ⟨#[c]⟩ ws,Str.join ⟨#[c]⟩ vs]=Str.join ⟨#[c]⟩ (ws++w::vs):=by
  rw[mC _ ws (w::vs) f (by simp)];cases vs with
  |nil=>exact absurd rfl g
  |cons q r=>
   rw[bS _ w q r];show Str.join ⟨#[c]⟩ ws++y++Str.join ⟨#[c]⟩ (q::r)=_;have:y=⟨#[c]⟩++(w++⟨#[c]⟩):=by
    apply Str.ext';apply XY.mp;rw[bM,bM,hy];rfl
   rw[this];apply Str.ext';simp only[Str.cps_append,ZZ]
 have inj:∀{a b:Str},a.cps.toList=b.cps.toList->a=b:=λh=>Str.ext' (XY.mp h)
 have:=my (y:=y) (ps:=[Str.join ⟨#[c]⟩ ws,Str.join ⟨#[c]⟩ vs]) (by rw[←a9,hy,YI];omega) (by simp) (λi h hi=>by
  rw[all] at h hi;obtain⟨u,v,e,hl⟩:=wR hy hw (x:=Str.join ⟨#[c]⟩ (ws++w::vs)) h hi;rw[nM c (ws++w::vs) (by simp) (λp h=>by
   rw[YA,ZY] at h;rcases h with h | rfl | h
   ·exact hp p h
   ·exact hw
   ·exact j p h),ZK,YK] at e
  have q:=uE e.symm (λh=>by obtain⟨p,h1,d⟩:=XU.1 h;exact hn (by rw[←inj d];exact h1)) (λh=>by obtain⟨p,h1,d⟩:=XU.1 h;exact l (by rw[←inj d];exact h1));subst q;left;show i∈[0+(Str.join ⟨#[c]⟩ ws).length];cases ws with
  |nil=>exact absurd rfl f
  |cons a r=>
   rw[XG,qp];simp only[YK,ZL,List.sum_cons,YI,ZF,a9] at hl ⊢;have m:List.map ((λx=>List.length x)∘λx:Str=>x.cps.toList) r=List.map (λx=>x.length) r:=ZM λz _=>a9 z
   rw[m] at hl;have one:(⟨#[c]⟩:Str).length=1:=rfl;rw[one];omega)
 exact this
end SB
namespace SB
open PySem L2 DD
open SH
def fV:Ss:=#v[.ret (.tup #v[.ite (.val (.var 2)) (.str "not") (.str "aye"),.var 3])]
def fW:Ss:=.cons (.ite (.cmp .Is (.var 3) .non) #v[.ret .non] .nil) fV
def kQ:Ss:=.cons (.set 3 (.fn 0 #v[.ite (.val (.var 2)) (.sl (.var 0) (.yes (.int 1)) .no) (.var 0),.var 1])) fW
def fX:Ss:=.cons (.set 2 (.cmp .Eq (.ix (.var 0) (.int 0)) (.str "not"))) kQ
def fY:Ss:=.cons (.ite (.cmp .Eq (.ix (.var 0) (.int 0)) (.str "first")) #v[.ret (.fn 1 #v[.var 0,.var 1])] .nil) fX
def ji:Ss:=.cons (.ite (.cmp .Eq (.ix (.var 0) (.int 0)) (.str "many")) #v[.ret (.fn 2 #v[.var 0,.var 1])] .nil) fY
inductive CB
 |aye (a:Zf) | nots (a:Zf) | many (n:Int) (v:Str) (a:Zf) | first (v:Str) (a:Zf)
def CB.atom:CB->List Str
 |.aye a=>a
 |.nots a=>a
 |.many _ _ a=>a
 |.first _ a=>a
def CB.d:CB->D
 |.aye a=>.tup [.str "aye",.tup (aa a)]
 |.nots a=>.tup [.str "not",.tup (aa a)]
 |.many n v a=>.tup [.str "many",.int n,.str v,.tup (aa a)]
 |.first v a=>.tup [.str "first",.str v,.tup (aa a)]
def c8:Option CB->D
 |none=>.non
 |some c=>c.d
def bV(x y:Str):Bool:=aP (.str x) (.str y)
theorem iJ{x y:Str}:bV x y=true↔x=y:=by
 show(x==y)=true↔_;exact beq_iff_eq
def wU(ts:Zf):List Str->Option CB
 |_::v::a=>cond (bm ts a&&bH v a) (some (.first v a)) none
 |_=>none
def zO(ts:Zf):List Str->Option CB
 |_::n::v::a=>cond (bm ts a&&cp (.str n) (aa jh)&&bH v a) (some (.many ((iC n).getD 0) v a)) none
 |_=>none
def c9(ts ws:Zf):Option CB:=match ws with
 |[]=>none
 |w::r=>cond (bV w "many") (zO ts ws) (cond (bV w "first") (wU ts ws) (cond (bV w "not") (cond (bm ts r) (some (.nots r)) none) (cond (bm ts ws) (some (.aye ws)) none)))
theorem Bu(ts ws:Zf):wK ts ws=c8 (wU ts ws):=by
 match ws with
 |[]=>rfl
 |[_]=>rfl
 |f::v::a=>
  show cond (bm ts a) (cond (!bH v a) _ _) _=c8 (cond (bm ts a&&bH v a) _ _);cases bm ts a<;>cases bH v a<;>rfl
theorem Bv(ts ws:Zf):wM ts ws=c8 (zO ts ws):=by
 match ws with
 |[]=>rfl
 |[_]=>rfl
 |[_,_]=>rfl
 |f::n::v::a=>
  show cond (bm ts a) (cond (!cp (.str n) (aa jh)) _ (cond (!bH v a) _ _)) _=c8 (cond (bm ts a&&cp (.str n) (aa jh)&&bH v a) _ _);cases bm ts a<;>cases cp (.str n) (aa jh)<;>cases bH v a<;>rfl
def sx:aI:=λds M Q=>∃(a:Addr) (w:Str) (r ts:Zf),ds=[.ref a,.tup (aa ts)]/\M a=some (.lst (aa (w::r)))/\Short (w::r)/\∀M',af M M'->Q (c8 (c9 ts (w::r))) M'
section
variable {cn:Cn}
theorem wV{ds:List D}{M:MH}{Q:DK}(l:cn.F.getD 0 'e'=df)(m:cn.F.getD 1 'e'=oC)(n:cn.F.getD 2 'e'=sn)(h:sx ds M Q):wSs cn ji (fin Q) (aC ["","","",""] ds) M:=by
 obtain⟨a,w,r,ts,rfl,c,d,q⟩:=h;show wSs cn ji (fin Q) [↑a,some (.tup (aa ts)),none,none] M;unfold ji;have f:bv (aa (w::r)) 0=some (.str w):=uD _ _;simp! only[List.set,c,aU,n,f];rw[1];unfold c9 at q;dsimp only at q;show aN (bV w "many") _ _;cases b1:bV w "many" with
 |true=>
  rw[b1] at q;exact⟨a,w::r,ts,rfl,c,d,λM1 e1=>by rw[Bv];exact q M1 e1⟩
 |false=>
  rw[b1] at q;show wSs cn fY (fin Q) [↑a,some (.tup (aa ts)),none,none] M;unfold fY;simp! only[List.set,c,aU,m,f];rw[1];show aN (bV w "first") _ _;cases b2:bV w "first" with
  |true=>
   rw[b2] at q;exact⟨a,w::r,ts,rfl,c,d,λM1 e1=>by rw[Bu];exact q M1 e1⟩
  |false=>
   rw[b2] at q;show wSs cn fX (fin Q) [↑a,some (.tup (aa ts)),none,none] M;unfold fX;simp! only[List.set,c,aU,f];rw[1];unfold kQ;simp! only[List.set,c,aU,l];have b:∀(ws:Zf) (M1:MH),af M M1->(∀M',af M M'->Q (c8 (cond (bm ts ws) (some (cond (bV w "not") (.nots ws) (.aye ws))) none)) M')->wSs cn fW (fin Q) [↑a,some (.tup (aa ts)),some (.bl (bV w "not")),some (sj ts ws)] M1:=by
    intro ws M1 e1 q;rw[je];unfold fW;simp! only[List.set];refine⟨trivial,?_⟩;cases b4:bm ts ws with
    |false=>rw[b4] at q;exact q M1 e1
    |true=>
     rw[b4] at q;show wSs cn fV (fin Q) [↑a,some (.tup (aa ts)),some (.bl (bV w "not")),some (.tup (aa ws))] M1;unfold fV;simp! only[List.set];show aN (bV w "not") _ _;cases b5:bV w "not" with
     |true=>rw[b5] at q;exact q M1 e1
     |false=>rw[b5] at q;exact q M1 e1
   show aN (bV w "not") _ _;cases b3:bV w "not" with
   |true=>
    rw[b3] at q b;have g:aP (D.str w) (D.str (Str.ofString "not"))=true:=b3;rw[g,bu];intro p hp;have hc:bW (aa (w::r)) (some 1) none=aa r:=qo _ _;rw[hc];have e1:=af.new (o:=MO.lst (aa r)) hp;refine⟨p,r,ts,rfl,ab,d.drop 1,λM1 e2=>b r M1 (e1.trans e2) λM' j=>?_⟩
    have:=q M' j
    dsimp only[cond] at this ⊢;exact this
   |false=>
    rw[b3] at q b;have g:aP (D.str w) (D.str (Str.ofString "not"))=false:=b3;rw[g,aq];exact⟨a,w::r,ts,rfl,c,d,λM1 e2=>b (w::r) M1 e2 λM' j=>q M' j⟩
end
theorem jj{z y:Str}(hy:1<=y.length):∃w r,Txt.split z y=w::r:=by
 rw[ph (by rw[ZP];omega),PySem.StrLaws.partsBetween_eq];exact PySem.StrLaws.partsFrom_ne _ _ _ _
theorem yH{x:Str}:∀{l:Zf},x∈l->x.length<=(l.map (·.length)).sum
 |a::l,h=>by
  rw[YK,List.sum_cons];rcases ZY.1 h with rfl | h
  ·omega
  ·have:=yH h;omega
theorem mD{z y x:Str}(hy:1<=y.length)(h:x∈Txt.split z y):x.length<=z.length:=by
 have h1:=PyProof.Rows.split_weight z y hy;have a:=yH h;obtain⟨w,r,e⟩:=jj (z:=z) hy;have b:1<=(Txt.split z y).length:=by rw[e,YI];omega
 omega
theorem gz{z y:Str}(hy:1<=y.length)(hz:z.length<=3000):Short (Txt.split z y):=by
 have h1:=PyProof.Rows.split_weight z y hy;refine⟨by omega,λx hx=>?_⟩
 have:=mD hy hx
 rw[sizeLine_eq];omega
def c3(ts:Zf)(z:Str):List (Option CB):=(Txt.split z ", ").map λp=>c9 ts (Txt.split p " ")
def dh:List (Option CB)->Option (List CB)
 |[]=>some []
 |none::_=>none
 |some c::r=>(dh r).map (c :: ·)
def kR(ts:Zf)(z:Str):Option (List CB):=cond (decide (6<((c3 ts z).length:Int))) none (dh (c3 ts z))
def DE:Option (List CB)->D
 |none=>.non
 |some a=>.tup (a.map CB.d)
def oF:aI:=λds M Q=>∃(z:Str) (ts:Zf),ds=[.str z,.tup (aa ts)]/\z.length<=3000/\∀M',af M M'->Q (DE (kR ts z)) M'
def jL:Ss:=#v[.ret (.bi .tuple #v[.var 2])]
def jM:Ss:=.cons (.ite (.or (.cmp .In .non (.var 2)) (.cmp .Gt (.bi .len #v[.var 2]) (.glob 8))) #v[.ret .non] .nil) jL
def gY:Ss:=.cons (.setC 2 1 (.fn 0 #v[.mt .split (.var 3) #v[.str " "],.var 1]) (.nm 3) (.seq (.mt .split (.var 0) #v[.str ", "])) .no) jM
theorem CB.pure(c:CB):aW c.d=true:=by
 cases c<;>simp[CB.d,aW,aT,bK]
theorem eQ:∀(ts:Zf),bh (aa ts)<=1
 |[]=>by decide
 |x::r=>by
  have:=eQ r
  show bh (.str x::aa r)<=1;rw[bh];have a:cD (.str x)=0:=rfl;omega
theorem CB.dep(c:CB):cD c.d<=5:=by
 cases c with
 |aye a=>have:=eQ a;simp[CB.d,cD,bh];omega
 |nots a=>have:=eQ a;simp[CB.d,cD,bh];omega
 |many n v a=>have:=eQ a;simp[CB.d,cD,bh];omega
 |first v a=>have:=eQ a;simp[CB.d,cD,bh];omega
theorem nN:∀(l:List (Option CB)),aT (l.map c8)=true
 |[]=>rfl
 |none::r=>by rw[YK];show(aW .non&&_)=true;rw[nN r];rfl
 |some c::r=>by rw[YK];show(aW c.d&&_)=true;rw[nN r,c.pure];rfl
theorem qt:∀(l:List (Option CB)),bh (l.map c8)<=6
 |[]=>by decide
 |none::r=>by
  have:=qt r
  rw[YK,bh];have a:cD (c8 none)=0:=rfl;omega
 |some c::r=>by
  have:=qt r
  have:=c.dep
  rw[YK,bh];have a:cD (c8 (some c))=cD c.d:=rfl;omega
theorem CB.ne_non(c:CB):aP c.d .non=false:=by cases c<;>rfl
theorem Bw:∀(l:List (Option CB)),cp .non (l.map c8)=(dh l).isNone
 |[]=>rfl
 |none::r=>rfl
 |some c::r=>by
  have a:=Bw r;unfold cp at a ⊢;rw[YK,YZ,a];show(aP c.d .non||_)=((dh r).map (c :: ·)).isNone;rw[c.ne_non,Bool.false_or,Option.isNone_map]
theorem all_map:∀{l:List (Option CB)}{a:List CB},dh l=some a->l.map c8=a.map CB.d
 |[],a,h=>by cases h;rfl
 |none::r,a,h=>by cases h
 |some c::r,a,h=>by
  rw[dh] at h;cases q:dh r with
  |none=>rw[q] at h;cases h
  |some b=>
   rw[q] at h;cases h;rw[YK,YK,all_map q];rfl
section
variable {cn:Cn}
theorem uW{ds:List D}{M:MH}{Q:DK}(t:cn.G.getD 8 .non=.int 6)(u:cn.F.getD 0 'e'=sx)(h:oF ds M Q):wSs cn gY (fin Q) (aC ["","",""] ds) M:=by
 obtain⟨z,ts,rfl,hz,q⟩:=h;show wSs cn gY (fin Q) [some (.str z),some (.tup (aa ts)),none] M;unfold gY;simp! only[List.set,u];refine⟨trivial,⟨rfl,by omega⟩,λp hp=>?_⟩;have e1:=af.new (o:=MO.lst (aa (Txt.split z ", "))) hp;have l:ad M p (MO.lst (aa (Txt.split z ", "))) p=some (.lst (aa (Txt.split z ", "))):=ab;rw[show List.map D.str (Txt.split z (Str.ofString ", "))=aa (Txt.split z ", ") from rfl];generalize ad M p (MO.lst (aa (Txt.split z ", ")))=M1 at *;rw[l];dsimp only;refine qm (f:=λd=>match d with | .str y=>c8 (c9 ts (Txt.split y " ")) | d=>d) (M0:=M1) (ok:=λσ=>∃v,σ=[some (.str z),some (.tup (aa ts)),none,v]) [] _ M1 ⟨none,rfl⟩ (af.refl _) ?_ ?_
 ·intro d hd σ acc rest M2 ⟨v,hv⟩ e2 k
  subst hv;obtain⟨y,hy,rfl⟩:=XU.1 hd;have B:=mD 'a' hy;refine⟨trivial,⟨rfl,by omega⟩,λa g=>?_⟩;obtain⟨w,r,e⟩:=jj (z:=y) (y:=" ") 'a';have hw:Short (w::r):=by rw[←e];exact gz 'a' 'c'
  have b:=af.new (o:=MO.lst (aa (Txt.split y " "))) g;refine⟨a,w,r,ts,rfl,by rw[←e];exact ab,hw,λc A=>?_⟩;have m:=(e2.trans b).trans A;rw[←e];exact⟨m p _ l,k _ c ⟨_,rfl⟩ m⟩
 ·intro M2 e2 a g
  have hb:([]++(aa (Txt.split z ", ")).map λd=>match d with | D.str y=>c8 (c9 ts (Txt.split y " ")) | d=>d)=(c3 ts z).map c8:=by
   simp[aa,c3]
  rw[hb];have b:=e1.trans (e2.trans (af.new (o:=MO.lst ((c3 ts z).map c8)) g));have j:ad M2 a (MO.lst ((c3 ts z).map c8)) a=some (.lst ((c3 ts z).map c8)):=ab;generalize ad M2 a (MO.lst ((c3 ts z).map c8))=c at *;unfold jM;simp! only[List.set,j,t];show _/\_;refine⟨⟨rfl,nN _,ZU (qt _) 'a'⟩,?_⟩;rw[Bw,ZF];unfold kR at q;cases b1:dh (c3 ts z) with
  |none=>
   rw[b1] at q;have n:=q c b;rw[Option.isNone_none,bu];cases b2:decide (6<((c3 ts z).length:Int))<;>(rw[b2] at n;exact n)
  |some C=>
   rw[b1] at q;rw[Option.isNone_some,aq];cases b2:decide (6<((c3 ts z).length:Int)) with
   |true=>rw[b2] at q;exact q c b
   |false=>
    rw[b2] at q;rw[aq];unfold jL;rw[all_map b1] at j;simp! only[List.set,j];exact q c b
end
def cK:Ss:=#v[.ret (.cmp .LtE (.lenDif (.var 5) (.var 3)) (.glob 10))]
def cL:Ss:=#v[.expr (.mt .extend (.var 5) #v[.comp 1 (.var 7) (.nm 7) (.seq (.sl (.var 6) (.yes (.int 1)) .no)) (.yes (.val (.fn 0 #v[.var 7])))])]
def gK:Ss:=.cons (.for (.nm 6) (.seq (.var 2)) cL) cK
def cb:Ss:=.cons (.set 5 (.lst .nil)) gK
def cM:Ss:=#v[.ite (.cmp .Gt (.bi .len #v[.comp 1 (.var 7) (.nm 7) (.seq (.var 2)) (.yes (.cmp .In (.var 4) (.sl (.var 7) (.yes (.int 1)) .no)))]) (.int 1)) #v[.ret (.bl false)] .nil]
def gL:Ss:=.cons (.for (.nm 4) (.seq (.var 3)) cM) cb
def gM:Ss:=.cons (.setC 3 1 (.ix (.var 7) (.int 2)) (.nm 7) (.seq (.var 1)) (.yes (.cmp .Eq (.ix (.var 7) (.int 0)) (.str "many")))) gL
def da:Ss:=.cons (.set 2 (.bin .Add (.lst #v[.var 0]) (.comp 1 (.ix (.var 7) (.neg (.int 1))) (.nm 7) (.seq (.var 1)) .no))) gM
def CB.counted:CB->Option Str
 |.many _ v _=>some v
 |_=>none
def aK(hd:Zf)(a:List CB):List (List Str):=hd::a.map CB.atom
def a0(a:List CB):List Str:=a.filterMap CB.counted
def cq(as:List (List Str)):List Str:=as.flatMap λa=>a.tail.filter aV
def qu(hd:Zf)(b:List CB):Bool:=((a0 b).all λv=>!decide (1<(((aK hd b).filter λa=>cw a.tail v).length:Int)))&&decide (((SD.keep (aB (a0 b)) (aB (cq (aK hd b)))).length:Int)<=4)
def wW(hd:Zf)(b:List CB):Prop:=b.length<=6/\(∀a∈aK hd b,a.length<=4/\∀x∈a,x.length<=sizeLine)/\((aB (cq (aK hd b))).length / 4<=(aB (a0 b)).length\/aB (a0 b)=[]/\(aB (cq (aK hd b))).length<=7)
def ak(a:Zf):D:=.tup (aa a)
def sy:aI:=λds M Q=>∃(hd:Zf) (a:List CB),ds=[ak hd,.tup (a.map CB.d)]/\wW hd a/\∀M',af M M'->Q (.bl (qu hd a)) M'
theorem CB.last(c:CB):∃xs,c.d=.tup xs/\bv xs (-1)=some (ak c.atom):=by
 cases c<;>exact⟨_,rfl,rfl⟩
theorem CB.kind(c:CB):∃xs k,c.d=.tup xs/\bv xs 0=some (.str k)/\(bV k "many" = true->∃v,bv xs 2=some (.str v)/\c.counted=some v)/\(bV k "many" = false->c.counted=none):=by
 cases c with
 |aye a=>exact⟨_, "aye",rfl,rfl,(λh=>absurd h 'a'),λ_=>rfl⟩
 |nots a=>exact⟨_, "not",rfl,rfl,(λh=>absurd h 'a'),λ_=>rfl⟩
 |many n v a=>exact⟨_, "many",rfl,rfl,(λ_=>⟨v,rfl,rfl⟩),(λh=>absurd h 'a')⟩
 |first v a=>exact⟨_, "first",rfl,rfl,(λh=>absurd h 'a'),λ_=>rfl⟩
theorem jN{b c:Type}(P:b->Bool)(f:b->c):∀l:List b,(l.filterMap λa=>cond (P a) (some (f a)) none)=(l.filter P).map f
 |[]=>rfl
 |a::l=>by
  rw[ZV,List.filter_cons,jN P f l];cases P a<;>rfl
theorem af.over{B M:MH}{p:Addr}{o:MO}(h:af B M)(hp:B p=none):af B (ad M p o):=λa x e=>by
 rw[aZ (λz=>by rw[z] at e;rw[hp] at e;cases e)];exact h a x e
theorem iK{b:Type}{g:MH->Prop}{t:cC}{c:WT}{e:WE}{F:List D->MH->Prop}{em:b->D}{f:b->Option D}{ok:DS->Prop}{M:MH}:∀{xs:List b}(acc:List D) (σ:DS),ok σ ->
  (∀x∈xs,∀σ acc rest,ok σ->(∀a,ok a->ba g t c e F rest (acc++(f x).toList) a M)->ba g t c e F (em x::rest) acc σ M)->F (acc++xs.filterMap f) M->ba g t c e F (xs.map em) acc σ M
 |[],acc,σ,_,_,q=>by
  rw[List.filterMap_nil,ZA] at q;exact q
 |x::xs,acc,σ,h,st,q=>st x ZW σ acc _ h λa h'=>iK (acc++(f x).toList) a h' (λy hy=>st y (.tail _ hy)) (by
  have:(x::xs).filterMap f=(f x).toList++xs.filterMap f:=by cases q2:f x<;>simp[q2]
  rw[this] at q;rw[ZB];exact q)
section
variable {cn:Cn}
theorem qv{ds:List D}{M:MH}{Q:DK}(Ry:cn.G.getD 10 .non=.int 4)(f0:cn.F.getD 0 'e'=jI)(h:sy ds M Q):wSs cn da (fin Q) (aC ["","","","","","",""] ds) M:=by
 obtain⟨hd,g,rfl,⟨h6,ha,hv⟩,q⟩:=h;show wSs cn da (fin Q) [some (ak hd),some (.tup (g.map CB.d)),none,none,none,none,none] M;unfold da;simp! only[List.set];intro p hp;have e1:=af.new (o:=MO.lst [ak hd]) hp;have C_:ad M p (MO.lst [ak hd]) p=some (.lst [ak hd]):=ab;generalize ad M p (MO.lst [ak hd])=M1 at *;refine iK (em:=CB.d) (f:=λc=>some (ak c.atom)) (ok:=λσ=>∃v,σ=[some (ak hd),some (.tup (g.map CB.d)),none,none,none,none,none,v]) [] _ ⟨none,rfl⟩ ?_ ?_
 ·intro c hc σ acc rest ⟨v,hv⟩ k
  subst hv;obtain⟨xs,e,hl⟩:=c.last;rw[e];simp! only[ba,fh,List.set];show aH (bv xs (-1)) _;rw[hl];exact⟨trivial,k _ ⟨_,rfl⟩⟩
 intro S T;have e2:=e1.trans (af.new (o:=MO.lst ([]++g.filterMap λc=>some (ak c.atom))) T);have Lz:ad M1 S (MO.lst ([]++g.filterMap λc=>some (ak c.atom))) p=some (.lst [ak hd]):=af.new (o:=MO.lst ([]++g.filterMap λc=>some (ak c.atom))) T p _ C_;rw[Lz,ab];generalize ad M1 S (MO.lst ([]++g.filterMap λc=>some (ak c.atom)))=M2 at *;dsimp only;have Rz:[ak hd]++([]++g.filterMap λc=>some (ak c.atom))=(aK hd g).map ak:=by
  simp[aK]
 refine⟨by simp;rw[sizeLine_eq];omega,λj JO=>?_⟩;rw[Rz];have e3:=e2.trans (af.new (o:=MO.lst ((aK hd g).map ak)) JO);have h3:ad M2 j (MO.lst ((aK hd g).map ak)) j=some (.lst ((aK hd g).map ak)):=ab;generalize ad M2 j (MO.lst ((aK hd g).map ak))=U at *;unfold gM;simp! only[List.set];refine iK (em:=CB.d) (f:=λc=>c.counted.map D.str) (ok:=λσ=>∃v,σ=[some (ak hd),some (.tup (g.map CB.d)),↑j,none,none,none,none,v]) [] _ ⟨none,rfl⟩ ?_ ?_
 ·intro c hc σ acc rest ⟨v,hv⟩ k
  subst hv;obtain⟨xs,V,e,h0,hy,hn⟩:=c.kind;rw[e];simp! only[ba,fh,List.set];show aH (bv xs 0) _;rw[h0];rw[1];show aN (bV V "many") _ _;cases b:bV V "many" with
  |true=>
   obtain⟨y,h2,D_⟩:=hy b;rw[D_] at k;rw[bu];show aH (bv xs 2) _;rw[h2];exact⟨trivial,k _ ⟨_,rfl⟩⟩
  |false=>
   rw[hn b] at k;have k':=k _ ⟨some (.tup xs),rfl⟩;rw[Option.map_none,Option.toList_none,ZA] at k';exact⟨trivial,k'⟩
 intro n W;have RA:[]++(g.filterMap λc=>c.counted.map D.str)=aa (a0 g):=by
  rw[YX];unfold a0 aa;rw[List.map_filterMap]
 rw[RA];have Y:=e3.trans (af.new (o:=MO.lst (aa (a0 g))) W);have K:=af.new (o:=MO.lst (aa (a0 g))) W j _ h3;have L:ad U n (MO.lst (aa (a0 g))) n=some (.lst (aa (a0 g))):=ab;generalize ad U n (MO.lst (aa (a0 g)))=C at *;unfold gL;simp! only[List.set,L];have Z:∀a:List Str,bW (aa a) (some 1) none=aa a.tail:=λa=>by
  rw[show(some 1:Zp)=some ((1:Nat):Int) from rfl,zM,jK,List.drop_one]
 have MF:∀(l:Zf) (v:Zv) (M':MH),af C M'->((l.all λv=>!decide (1<(((aK hd g).filter λa=>cw a.tail v).length:Int)))=true->∀m,af C m->∀y,wSs cn cb (fin Q) [some (ak hd),some (.tup (g.map CB.d)),↑j,↑n,y,none,none] m) ->
   ((l.all λv=>!decide (1<(((aK hd g).filter λa=>cw a.tail v).length:Int)))=false->∀m,af C m->Q (.bl false) m) ->
   cF (λM'=>M' n=some (MO.lst (aa (a0 g)))) (.nm 4) (wSs cn cM) { nx:=wSs cn cb (fin Q),rt:=Q } (aa l) [some (ak hd),some (.tup (g.map CB.d)),↑j,↑n,v,none,none] M':=by
  intro l;induction l with
  |nil=>intro v M' e hy hn;exact hy rfl M' e v
  |cons x l A=>
   intro v M' e hy hn;rw[XJ] at hy hn;show wSs cn cM { ({ nx:=wSs cn cb (fin Q),rt:=Q }:dH) with nx:=λJN M2=>M2 n=some (MO.lst (aa (a0 g)))/\cF _ _ _ _ (aa l) JN M2,ct:=_,bk:=_ } [some (ak hd),some (.tup (g.map CB.d)),↑j,↑n,some (.str x),none,none] M';have N:=e _ _ K;unfold cM;simp! only[List.set,N];refine iK (em:=ak) (f:=λa=>cond (cw a.tail x) (some (ak a)) none) (ok:=λσ=>∃v,σ=[some (ak hd),some (.tup (g.map CB.d)),↑j,↑n,some (.str x),none,none,v]) [] _ ⟨none,rfl⟩ ?_ ?_
   ·intro a S4 σ acc rest ⟨v,hv⟩ k
    subst hv;show _/\_;rw[Z];refine⟨⟨rfl,bK _,dB _⟩,?_⟩;show aN (cw a.tail x) _ _;cases b:cw a.tail x with
    |true=>rw[b] at k;exact⟨N,k _ ⟨_,rfl⟩⟩
    |false=>
     rw[b] at k;have k':=k _ ⟨some (ak a),rfl⟩;rw[cond_false,Option.toList_none,ZA] at k';exact⟨N,k'⟩
   intro p5 KM;have hf:[]++((aK hd g).filterMap λa=>cond (cw a.tail x) (some (ak a)) none)=((aK hd g).filter λa=>cw a.tail x).map ak:=jN _ _ _;rw[hf];have u:=e.trans (af.new (o:=MO.lst (((aK hd g).filter λa=>cw a.tail x).map ak)) KM);rw[ab];generalize ad M' p5 (MO.lst (((aK hd g).filter λa=>cw a.tail x).map ak))=r at *;dsimp only;rw[ZF];show aN (decide (1<(((aK hd g).filter λa=>cw a.tail x).length:Int))) _ _;cases b:decide (1<(((aK hd g).filter λa=>cw a.tail x).length:Int)) with
   |true=>
    rw[b] at hn;exact hn rfl r u
   |false=>
    rw[b,Bool.not_false,Bool.true_and] at hy hn;exact⟨u _ _ L,A (some (.str x)) r u hy hn⟩
 unfold qu at q;refine MF (a0 g) none C (af.refl _) (λKz r u y=>?_) (λKJ r u=>by
  have:=q r (Y.trans u)
  rw[KJ,YD] at this;exact this)
 rw[Kz,Bool.true_and] at q;unfold cb;simp! only[List.set];intro t LC;have MG:=af.new (o:=MO.lst []) LC;have e6:=u.trans MG;have RC:ad r t (MO.lst []) t=some (.lst []):=ab;generalize ad r t (MO.lst [])=M6 at *;unfold gK;have RD:=e6 _ _ K;simp! only[List.set,RD];have MI:∀(E:dH) (a vs:Zf) (M':MH),a.length<=4->(∀x∈a,x.length<=sizeLine)->vs.length<=96->af r M'->M' t=some (.lst (aa vs)) ->
   (∀m,af r m->m t=some (.lst (aa (vs++a.tail.filter aV)))->E.nx [some (ak hd),some (.tup (g.map CB.d)),↑j,↑n,y,↑t,some (ak a)] m) ->
   wSs cn cL E [some (ak hd),some (.tup (g.map CB.d)),↑j,↑n,y,↑t,some (ak a)] M':=by
  intro E a vs M' la lx O e z B;unfold cL;simp! only[List.set,f0,ak,Z];refine⟨by rw[z];rfl,?_⟩;refine iK (em:=D.str) (f:=λx=>cond (aV x) (some (D.str x)) none) (ok:=λσ=>∃w,σ=[some (.tup (aa hd)),some (.tup (g.map CB.d)),↑j,↑n,y,↑t,some (.tup (aa a)),w]) [] _ ⟨none,rfl⟩ ?_ ?_
  ·intro x hx σ acc rest ⟨w,hw⟩ k
   subst hw;refine⟨x,rfl,lx x (List.mem_of_mem_tail hx),?_⟩;show aN (aV x) _ _;cases b:aV x with
   |true=>rw[b] at k;exact⟨trivial,k _ ⟨_,rfl⟩⟩
   |false=>
    rw[b] at k;have k':=k _ ⟨some (.str x),rfl⟩;rw[cond_false,Option.toList_none,ZA] at k';exact⟨trivial,k'⟩
  intro P Ni;rw[YX,jN];have I:=e.trans (af.new (o:=MO.lst ((a.tail.filter aV).map D.str)) Ni);have RE:=af.new (o:=MO.lst ((a.tail.filter aV).map D.str)) Ni _ _ z;have RF:ad M' P (MO.lst ((a.tail.filter aV).map D.str)) P=some (.lst ((a.tail.filter aV).map D.str)):=ab;generalize ad M' P (MO.lst ((a.tail.filter aV).map D.str))=M7 at *;rw[RE,RF];dsimp only;have R:((a.tail.filter aV).map D.str).length<=4:=by
   rw[ZF];have q1:=XQ aV a.tail;rw[List.length_tail] at q1;omega
  have RG:aa vs++(a.tail.filter aV).map D.str=aa (vs++a.tail.filter aV):=by simp[aa]
  refine⟨by rw[sizeLine_eq];simp[aa] at R O ⊢;omega,?_⟩;rw[RG];exact B _ (af.over I LC) ab
 have MJ:∀(l:List (List Str)) (vs:Zf) (v:Zv) (M':MH),(∀a∈l,a.length<=4/\∀x∈a,x.length<=sizeLine)->vs.length+4*l.length<=96->af r M'->M' t=some (.lst (aa vs)) ->
   (∀m J,af r m->m t=some (.lst (aa (vs++cq l)))->wSs cn cK (fin Q) [some (ak hd),some (.tup (g.map CB.d)),↑j,↑n,y,↑t,J] m) ->
   cF (λM'=>M' j=some (MO.lst ((aK hd g).map ak))) (.nm 6) (wSs cn cL) { nx:=wSs cn cK (fin Q),rt:=Q } (l.map ak) [some (ak hd),some (.tup (g.map CB.d)),↑j,↑n,y,↑t,v] M':=by
  intro l;induction l with
  |nil=>
   intro vs v M' _ _ e z B;exact B M' v e (by rw[show cq []=[] from rfl,ZA];exact z)
  |cons a l A=>
   intro vs v M' hl O e z B;refine MI _ a vs M' (hl a (.head _)).1 (hl a (.head _)).2 'c' e z λM8 e8 g8=>⟨e8 _ _ (u _ _ K),?_⟩
   have R:(a.tail.filter aV).length<=4:=by
    have q1:=XQ aV a.tail
    have:=(hl a (.head _)).1
    rw[List.length_tail] at q1;omega
   exact A (vs++a.tail.filter aV) _ M8 (λb hb=>hl b (.tail _ hb)) (by rw[ZJ];simp only[YI] at O;omega) e8 g8 λm J e9 g9=>B m J e9 (by rw[show cq (a::l)=a.tail.filter aV++cq l from rfl,←ZB];exact g9)
 have RH:af r M6:=MG;refine MJ (aK hd g) [] none M6 ha (by unfold aK;simp;omega) RH RC λM7 J I g7=>?_
 have RI:=I _ _ (u _ _ L);unfold cK;rw[YX] at g7;simp! only[List.set,g7,RI,i8,iD,Ry];have R:(cq (aK hd g)).length<=4*(aK hd g).length:=by
  have:∀l:List (List Str),(∀a∈l,a.length<=4)->(cq l).length<=4*l.length:=by
   intro l;induction l with
   |nil=>intro _;exact YE _
   |cons a l A=>
    intro hl;have q1:=XQ aV a.tail;have q2:=hl a (.head _);have q3:=A λb hb=>hl b (.tail _ hb)
    rw[List.length_tail] at q1;rw[show cq (a::l)=a.tail.filter aV++cq l from rfl,ZJ,YI];omega
  exact this _ λa h=>(ha a h).1
 have l2:(aK hd g).length=g.length+1:=by simp[aK]
 have l3:(a0 g).length<=g.length:=List.length_filterMap_le _ _;exact⟨by omega,by omega,hv,q M7 ((Y.trans u).trans I)⟩
end
def fZ:Ss:=#v[.ret (.tup #v[.var 3,.var 4])]
def f9:Ss:=.cons (.ite (.or (.cmp .Is (.var 3) .non) (.or (.cmp .Is (.var 4) .non) (.not (.val (.fn 0 #v[.var 3,.var 4]))))) #v[.ret .non] .nil) fZ
def kS:Ss:=.cons (.set 4 (.ite (.cmp .Eq (.bi .len #v[.var 2]) (.int 2)) (.fn 1 #v[.ix (.var 2) (.int 1),.var 1]) (.tup .nil))) f9
def kT:Ss:=.cons (.set 3 (.fn 2 #v[.sl (.mt .split (.ix (.var 2) (.int 0)) #v[.str " "]) (.yes (.int 1)) .no,.var 1])) kS
def kU:Ss:=.cons (.ite (.cmp .Gt (.bi .len #v[.var 2]) (.int 2)) #v[.ret .non] .nil) kT
def jk:Ss:=.cons (.set 2 (.mt .split (.var 0) #v[.str " if "])) kU
abbrev RB:=List Str×List CB
def iE(ts:Zf)(h:Str):Option (List Str):=cond (bm ts (Txt.split h " ").tail) (some (Txt.split h " ").tail) none
def gN(ts:Zf):List Str->Option RB
 |[h]=>(iE ts h).map λhd=>(hd,[])
 |[h,b]=>(iE ts h).bind λhd=>(kR ts b).map λa=>(hd,a)
 |_=>none
def zP(r:RB):Option RB:=cond (qu r.1 r.2) (some r) none
def mE(ts:Zf)(line:Str):Option RB:=(gN ts (Txt.split line " if ")).bind zP
def bn(r:RB):D:=.tup [ak r.1,.tup (r.2.map CB.d)]
def Ha:Option RB->D
 |none=>.non
 |some r=>bn r
def eR(ts:Zf)(line:Str):Prop:=line.length<=3000/\∀r,gN ts (Txt.split line " if ")=some r->wW r.1 r.2
def sA:aI:=λds M Q=>∃(z:Str) (ts:Zf),ds=[.str z,.tup (aa ts)]/\eR ts z/\∀M',af M M'->Q (Ha (mE ts z)) M'
section
variable {cn:Cn}
theorem wX{ds:List D}{M:MH}{Q:DK}(N:cn.F.getD 0 'e'=sy)(O:cn.F.getD 1 'e'=oF)(P:cn.F.getD 2 'e'=df)(h:sA ds M Q):wSs cn jk (fin Q) (aC ["","","","",""] ds) M:=by
 obtain⟨z,ts,rfl,⟨hz,n⟩,q⟩:=h;show wSs cn jk (fin Q) [some (.str z),some (.tup (aa ts)),none,none,none] M;unfold jk;simp! only[List.set];refine⟨trivial,⟨rfl,by omega⟩,λp hp=>?_⟩;rw[show List.map D.str (Txt.split z (Str.ofString " if "))=aa (Txt.split z " if ") from rfl];have e1:=af.new (o:=MO.lst (aa (Txt.split z " if "))) hp;have r:ad M p (MO.lst (aa (Txt.split z " if "))) p=some (.lst (aa (Txt.split z " if "))):=ab;generalize ad M p (MO.lst (aa (Txt.split z " if ")))=M1 at *;obtain⟨a,f,t⟩:=jj (z:=z) (y:=" if ") 'a';have R:a.length<=3000:=ZU (mD (z:=z) (y:=" if ") 'a' (by rw[t];exact .head _)) hz;unfold mE at q;rw[t] at r q n;unfold kU;simp! only[List.set,r];rw[show(aa (a::f)).length=f.length+1 by simp[aa]];show aN (decide (2<((f.length+1:Nat):Int))) _ _;by_cases b:2<f.length+1
 ·rw[show decide (2<((f.length+1:Nat):Int))=true from YT 'c']
  have:gN ts (a::f)=none:=by
   match f,b with
   |_::_::_,_=>rfl
  rw[this] at q;exact q M1 e1
 ·rw[show decide (2<((f.length+1:Nat):Int))=false from ZO 'c',aq]
  unfold kT;have C:bv (aa (a::f)) 0=some (.str a):=uD _ _;simp! only[List.set,r,aU,C,P];refine⟨trivial,⟨rfl,by omega⟩,λS E=>?_⟩;rw[show List.map D.str (Txt.split a (Str.ofString " "))=aa (Txt.split a " ") from rfl];have e2:=e1.trans (af.new (o:=MO.lst (aa (Txt.split a " "))) E);have hq:=af.new (o:=MO.lst (aa (Txt.split a " "))) E _ _ r;rw[ab];generalize ad M1 S (MO.lst (aa (Txt.split a " ")))=M2 at *;dsimp only;intro T G;have hc:bW (aa (Txt.split a " ")) (some 1) none=aa (Txt.split a " ").tail:=by
   rw[show(some 1:Zp)=some ((1:Nat):Int) from rfl,zM,jK,List.drop_one]
  rw[hc];have U:Short (Txt.split a " "):=gz 'a' R;have V:=e2.trans (af.new (o:=MO.lst (aa (Txt.split a " ").tail)) G);have I:=af.new (o:=MO.lst (aa (Txt.split a " ").tail)) G _ _ hq;refine⟨T,(Txt.split a " ").tail,ts,rfl,ab,by rw[←List.drop_one];exact U.drop 1,λW J=>?_⟩;have K:=J _ _ I;have L:=V.trans J;rw[je]
  -- what is left,by what came of the conds
  have c:∀(co:Option (List CB)) (g:MH),af M g->gN ts (a::f)=(iE ts a).bind (λhd=>co.map λl=>(hd,l))->wSs cn f9 (fin Q) [some (.str z),some (.tup (aa ts)),↑p,some (cond (bm ts (Txt.split a " ").tail) (.tup (aa (Txt.split a " ").tail)) .non),some (DE co)] g:=by
   intro co g u Y;rw[Y] at q n;unfold iE at q n;unfold f9;simp! only[List.set,N];refine⟨trivial,?_⟩;cases b1:bm ts (Txt.split a " ").tail with
   |false=>rw[b1] at q;exact q g u
   |true=>
    rw[b1] at q n;cases co with
    |none=>exact⟨trivial,q g u⟩
    |some l=>
     refine⟨trivial,?_⟩;show aN false _ (sy [ak (Txt.split a " ").tail,.tup (l.map CB.d)] g _);rw[aq];refine⟨_,l,rfl,n _ rfl,λB Z=>?_⟩;have m:=q B (u.trans Z);have m:Q (Ha (zP ((Txt.split a " ").tail,l))) B:=m;unfold zP at m;dsimp only at m;show aN (!qu (Txt.split a " ").tail l) _ _;cases b2:qu (Txt.split a " ").tail l with
     |false=>rw[b2] at m;exact m
     |true=>
      rw[b2] at m;show wSs cn fZ (fin Q) [some (.str z),some (.tup (aa ts)),↑p,some (ak (Txt.split a " ").tail),some (.tup (l.map CB.d))] B;unfold fZ;simp! only[List.set];exact m
  unfold kS;simp! only[List.set,K,aU,O];match f,b,t,r,hq,I,K,c,C,q,n with
  |[],_,_,_,_,_,_,c,_,_,_=>
   rw[1];show aN false _ _;exact c (some []) W L (by show Option.map (λhd=>(hd,[])) (iE ts a)=_;cases iE ts a<;>rfl)
  |[A],_,t,_,_,_,_,c,_,_,_=>
   rw[1];show aN true _ _;have RJ:bv (aa [a,A]) 1=some (.str A):=cY (j:=1) rfl;rw[bu,RJ];refine⟨A,ts,rfl,ZU (mD (z:=z) (y:=" if ") 'a' (by rw[t];exact .tail _ (.head _))) hz,λg u=>?_⟩;exact c (kR ts A) g (L.trans u) rfl
  |_::_::_,b,_,_,_,_,_,_,_,_,_=>exact absurd (by simp only[YI];omega) b
end
def gc:Ss:=#v[.ret (.bl false)]
def kW:Ss:=#v[.ret (.bl true)]
def ge:Ss:=.cons (.expr (.mt .append (.var 3) #v[.var 6])) kW
def kX:Ss:=.cons (.ite (.or (.cmp .Is (.var 6) .non) (.cmp .Eq (.bi .len #v[.var 3]) (.glob 4))) #v[.ret (.bl false)] .nil) ge
def dL:Ss:=.cons (.ite (.cmp .Eq (.ix (.var 4) (.int 0)) (.str "rule")) (.cons (.set 6 (.fn 0 #v[.var 0,.var 1])) kX) .nil) gc
def kY:Ss:=#v[.ret (.bl true)]
def gf:Ss:=.cons (.expr (.mt .append (.var 2) #v[.var 5])) kY
def kZ:Ss:=.cons (.ite (.or (.cmp .Is (.var 5) .non) (.or (.cmp .In (.var 5) (.var 2)) (.cmp .Eq (.bi .len #v[.var 2]) (.glob 5)))) #v[.ret (.bl false)] .nil) gf
def k6:Ss:=.cons (.ite (.cmp .Eq (.ix (.var 4) (.int 0)) (.str "say")) (.cons (.set 5 (.fn 1 #v[.sl (.var 4) (.yes (.int 1)) .no,.var 1])) kZ) .nil) dL
def jl:Ss:=.cons (.set 4 (.mt .split (.var 0) #v[.str " "])) k6
structure bf (B:MH) (ps pr:Addr) (sd:List (List Str)) (rs:List RB) (M:MH):Prop where
 ext:af B M
 bs:B ps=none
 br:B pr=none
 ne:ps≠pr
 s:M ps=some (.lst (sd.map ak))
 r:M pr=some (.lst (rs.map bn))
def mF(ts ws:Zf):Bool:=bm ts ws&&(ws.tail.map (cw ts)).all id
theorem C1(ts ws:Zf):va ts ws=cond (mF ts ws) (ak ws) .non:=by
 unfold va mF;cases bm ts ws<;>cases(ws.tail.map (cw ts)).all id<;>rfl
def cU(n:Nat)(k:Int):Bool:=aP (.int (n:Nat)) (.int k)
def zQ(ts r:Zf)(sd:List (List Str)):Option (List (List Str)):=cond (mF ts r && !cp (ak r) (sd.map ak) && !cU sd.length 60) (some (sd++[r])) none
def dM(ts:Zf)(z:Str)(st:List (List Str)×List RB):Option (List (List Str)×List RB):=match Txt.split z " " with
 |[]=>none
 |w::r=>cond (bV w "say") ((zQ ts r st.1).map λsd=>(sd,st.2)) (cond (bV w "rule") ((mE ts z).bind λa=>cond (cU st.2.length 30) none (some (st.1,st.2++[a]))) none)
def kM:aI:=λds M Q=>∃(z:Str) (ts:Zf) (B:MH) (ps pr:Addr) (sd:List (List Str)) (rs:List RB),ds=[.str z,.tup (aa ts),.ref ps,.ref pr]/\z.length<=3000/\bf B ps pr sd rs M/\(sd.length<100/\rs.length<100)/\eR ts z /\
 match dM ts z (sd,rs) with
 |none=>∀M',bf B ps pr sd rs M'->Q (.bl false) M'
 |some st=>∀M',bf B ps pr st.1 st.2 M'->Q (.bl true) M'
theorem bf.up{B M M':MH}{ps pr:Addr}{sd:List (List Str)}{rs:List RB}(h:bf B ps pr sd rs M)(e:af M M'):bf B ps pr sd rs M':=⟨h.ext.trans e,h.bs,h.br,h.ne,e _ _ h.s,e _ _ h.r⟩
theorem bf.say{B M:MH}{ps pr:Addr}{sd:List (List Str)}{rs:List RB}(h:bf B ps pr sd rs M)(a:Zf):bf B ps pr (sd++[a]) rs (ad M ps (.lst (sd.map ak++[ak a]))):=
 ⟨af.over h.ext h.bs,h.bs,h.br,h.ne,by rw[ab,ZK];rfl,by rw[aZ h.ne.symm];exact h.r⟩
theorem bf.rule{B M:MH}{ps pr:Addr}{sd:List (List Str)}{rs:List RB}(h:bf B ps pr sd rs M)(a:RB):bf B ps pr sd (rs++[a]) (ad M pr (.lst (rs.map bn++[bn a]))):=
 ⟨af.over h.ext h.br,h.bs,h.br,h.ne,by rw[aZ h.ne];exact h.s,by rw[ab,ZK];rfl⟩
theorem nP:∀(l:List (List Str)),aT (l.map ak)=true
 |[]=>rfl
 |a::l=>by rw[YK,aT,nP l];show(aT (aa a)&&true)=true;rw[bK];rfl
theorem qw:∀(l:List (List Str)),bh (l.map ak)<=30
 |[]=>by decide
 |a::l=>by
  have h1:=qw l;have b:=eQ a;rw[YK,bh];have c:cD (ak a)=bh (aa a)+1:=by show cD (.tup (aa a))=_;rw[cD]
  omega
section
variable {cn:Cn}
theorem wY{ds:List D}{M:MH}{Q:DK}(n:cn.G.getD 4 .non=.int 30)(t:cn.G.getD 5 .non=.int 60)(u:cn.F.getD 0 'e'=sA)(A:cn.F.getD 1 'e'=sm)(h:kM ds M Q):wSs cn jl (fin Q) (aC ["","","","","","",""] ds) M:=by
 obtain⟨z,ts,B,ps,pr,sd,rs,rfl,hz,L,⟨ls,lr⟩,C,q⟩:=h;show wSs cn jl (fin Q) [some (.str z),some (.tup (aa ts)),↑ps,↑pr,none,none,none] M;unfold jl;simp! only[List.set];refine⟨trivial,⟨rfl,by omega⟩,λp hp=>?_⟩;rw[show List.map D.str (Txt.split z (Str.ofString " "))=aa (Txt.split z " ") from rfl];have d:=L.up (af.new (o:=MO.lst (aa (Txt.split z " "))) hp);have f:ad M p (MO.lst (aa (Txt.split z " "))) p=some (.lst (aa (Txt.split z " "))):=ab;generalize ad M p (MO.lst (aa (Txt.split z " ")))=M1 at *;obtain⟨w,r,E⟩:=jj (z:=z) (y:=" ") 'a';have l:Short (Txt.split z " "):=gz 'a' hz;unfold dM at q;rw[E] at f q l;dsimp only at q;have m:bv (aa (w::r)) 0=some (.str w):=uD _ _;unfold k6;simp! only[List.set,f,aU,m,A];rw[1];show aN (bV w "say") _ _;cases b1:bV w "say" with
 |true=>
  rw[b1] at q;rw[bu];intro I J;have hc:bW (aa (w::r)) (some 1) none=aa r:=qo _ _;rw[hc];have L2:=d.up (af.new (o:=MO.lst (aa r)) J);refine⟨I,r,ts,rfl,ab,l.drop 1,λb g=>?_⟩;have a:=L2.up g;rw[C1];unfold zQ at q;unfold kZ;simp! only[List.set,a.s,aU,t];refine⟨trivial,?_⟩;cases b2:mF ts r with
  |false=>rw[b2] at q;exact q b a
  |true=>
   rw[b2] at q;show aN false _ _;rw[aq];refine⟨⟨bK r,nP sd,qw sd⟩,?_⟩;rw[ZF];show aN (cp (ak r) (List.map ak sd)) _ _;cases b3:cp (ak r) (sd.map ak) with
   |true=>rw[b3] at q;exact q b a
   |false=>
    rw[b3] at q;rw[aq];rw[1];show aN (cU sd.length 60) _ _;cases b4:cU sd.length 60 with
    |true=>rw[b4] at q;exact q b a
    |false=>
     rw[b4] at q;rw[aq];show wSs cn gf { nx:=wSs cn dL (fin Q),rt:=Q } [some (.str z),some (.tup (aa ts)),↑ps,↑pr,↑p,some (ak r),none] b;unfold gf kY;simp! only[List.set,a.s];refine⟨rfl,by rw[sizeLine_eq];simp;omega,?_⟩;exact q _ (a.say r)
 |false=>
  rw[b1] at q;rw[aq];show wSs cn dL (fin Q) [some (.str z),some (.tup (aa ts)),↑ps,↑pr,↑p,none,none] M1;unfold dL;simp! only[List.set,f,aU,m,u];rw[1];show aN (bV w "rule") _ _;cases b2:bV w "rule" with
  |false=>
   rw[b2] at q;rw[aq];unfold gc;simp! only[];exact q M1 d
  |true=>
   rw[b2] at q;rw[bu];refine⟨z,ts,rfl,C,λb g=>?_⟩;have a:=d.up g;unfold kX;simp! only[List.set,a.r,aU,n];refine⟨trivial,?_⟩;cases b3:mE ts z with
   |none=>rw[b3] at q;exact q b a
   |some j=>
    rw[b3] at q;show aN false _ _;rw[aq];rw[ZF];rw[1];show aN (cU rs.length 30) _ _;have c:match(cond (cU rs.length 30) none (some (sd,rs++[j])):Option (List (List Str)×List RB)) with | none=>∀M',bf B ps pr sd rs M'->Q (.bl false) M' | some st=>∀M',bf B ps pr st.1 st.2 M'->Q (.bl true) M':=q
    cases b4:cU rs.length 30 with
    |true=>rw[b4] at c;exact c b a
    |false=>
     rw[b4] at c;rw[aq];show wSs cn ge { nx:=wSs cn gc (fin Q),rt:=Q } [some (.str z),some (.tup (aa ts)),↑ps,↑pr,↑p,none,some (bn j)] b;unfold ge kW;simp! only[List.set,a.r];refine⟨rfl,by rw[sizeLine_eq];simp;omega,?_⟩;exact c _ (a.rule j)
end
def jO:List Str:=["things","said","rules"]
def fu(ts:Zf)(sd:List (List Str))(rs:List RB):List (Str×D):=[("things",ak ts),("said",.tup (sd.map ak)),("rules",.tup (rs.map bn))]
def k7:Ss:=#v[.setF (.var 0) "rules" (.var 3)]
def k8:Ss:=.cons (.setF (.var 0) "said" (.var 2)) k7
def jm:Ss:=.cons (.setF (.var 0) "things" (.var 1)) k8
def iF(C:Addr):aI:=λds M Q=>∃(a:Addr) (ts:Zf) (sd:List (List Str)) (rs:List RB),ds=[.ref a,ak ts,.tup (sd.map ak),.tup (rs.map bn)]/\M a=some (.ins C [])/\∀M',(∀b,b≠a->M' b=M b)->M' a=some (.ins C (fu ts sd rs))->Q .non M'
section
variable {cn:Cn}{C:Addr}
theorem wZ{ds:List D}{M:MH}{Q:DK}(c:∀f∈jO,cn.O C f)(h:iF C ds M Q):wSs cn jm (fin Q) (aC ["","","",""] ds) M:=by
 obtain⟨a,ts,sd,rs,rfl,d,q⟩:=h;show wSs cn jm (fin Q) [↑a,some (ak ts),some (.tup (sd.map ak)),some (.tup (rs.map bn))] M;unfold jm k8 k7;simp! only[d];refine⟨⟨c _ 'a',by decide⟩,?_⟩;rw[ab];refine⟨⟨c _ 'a',(by decide:1<1000)⟩,?_⟩;rw[ab];refine⟨⟨c _ 'a',(by decide:2<1000)⟩,?_⟩;exact q _ (λb hb=>by rw[aZ hb,aZ hb,aZ hb]) ab
end
theorem bf.more{B M:MH}{ps pr p:Addr}{o:MO}{sd:List (List Str)}{rs:List RB}(h:bf B ps pr sd rs M)(hp:M p=none):bf (ad B p o) ps pr sd rs (ad M p o):=by
 have b:ps≠p:=λz=>by have:=h.s;rw[z,hp] at this;cases this
 have c:pr≠p:=λz=>by have:=h.r;rw[z,hp] at this;cases this
 refine⟨λa x e=>?_,by rw[aZ b];exact h.bs,by rw[aZ c];exact h.br,h.ne,by rw[aZ b];exact h.s,by rw[aZ c];exact h.r⟩;by_cases q:a=p
 ·subst q
  rw[ab] at e ⊢;exact e
 ·rw[aZ q] at e ⊢;exact h.ext a x e
def dN(ts:Zf):List Str->List (List Str)×List RB->Option (List (List Str)×List RB)
 |[],st=>some st
 |z::a,st=>(dM ts z st).bind (dN ts a)
def w4(ts:Zf)(a:Str)(ls:Zf):Prop:=a.length<=3000/\ls.length<4000/\(∀z∈ls,eR ts z)/\kO (Txt.split a " ")=ak ts
def oG(C:Addr):aI:=λds M Q=>∃(a:Addr) (c:Str) (ls ts:Zf) (sd:List (List Str)) (rs:List RB),ds=[.ref a]/\M a=some (.lst (aa (c::ls)))/\w4 ts c ls/\dN ts ls ([],[])=some (sd,rs) /\
 ∀M' b,af M M'->M b=none->M' b=some (.ins C (fu ts sd rs))->Q (.ref b) M'
def du:Ss:=#v[.ret (.fn 0 #v[.var 1,.bi .tuple #v[.var 2],.bi .tuple #v[.var 3]])]
def cN:Ss:=#v[.ite (.not (.val (.fn 1 #v[.var 5,.var 1,.var 2,.var 3]))) #v[.never] .nil]
def jP:Ss:=.cons (.for (.tp [4,5]) (.enumS #v[.sl (.var 0) (.yes (.int 1)) .no] (.int 2)) cN) du
def jQ:Ss:=.cons (.set 3 (.lst .nil)) jP
def jR:Ss:=.cons (.set 2 (.lst .nil)) jQ
def jS:Ss:=.cons (.ite (.cmp .Is (.var 1) .non) #v[.never] .nil) jR
def gZ:Ss:=.cons (.set 1 (.fn 2 #v[.mt .split (.ix (.var 0) (.int 0)) #v[.str " "]])) jS
theorem By{ts:Zf}{z:Str}{st a:List (List Str)×List RB}(h:dM ts z st=some a)(h1:st.1.length<=60)(b:st.2.length<=30):a.1.length<=60/\a.2.length<=30:=by
 unfold dM at h;split at h
 ·cases h
 ·rename_i w r _
  cases b1:bV w "say" with
  |true=>
   rw[b1,cond_true] at h;unfold zQ at h;cases b2:(mF ts r && !cp (ak r) (st.1.map ak) && !cU st.1.length 60) with
   |false=>rw[b2] at h;cases h
   |true=>
    rw[b2] at h;cases h;rw[YU,XO] at b2;have:st.1.length≠60:=λe=>by
     have:=b2.2
     unfold cU at this;rw[e] at this;cases this
    exact⟨by simp;omega,b⟩
  |false=>
   rw[b1,cond_false] at h;cases b2:bV w "rule" with
   |false=>rw[b2] at h;cases h
   |true=>
    rw[b2,cond_true] at h;cases b3:mE ts z with
    |none=>rw[b3] at h;cases h
    |some c=>
     rw[b3] at h;have h:cond (cU st.2.length 30) none (some (st.1,st.2++[c]))=some a:=h;cases b4:cU st.2.length 30 with
     |true=>rw[b4] at h;cases h
     |false=>
      rw[b4] at h;cases h;have:st.2.length≠30:=λe=>by
       unfold cU at b4;rw[e] at b4;cases b4
      exact⟨h1,by simp;omega⟩
section
variable {cn:Cn}{C:Addr}
theorem uX{ds:List D}{M:MH}{Q:DK}(Z:cn.F.getD 0 'e'=kJ C (iF C))(f1:cn.F.getD 1 'e'=kM)(f2:cn.F.getD 2 'e'=mr)(h:oG C ds M Q):wSs cn gZ (fin Q) (aC ["","","","","",""] ds) M:=by
 obtain⟨a,c,ls,ts,sd,rs,rfl,P,⟨RK,S5,RL,R⟩,MX,q⟩:=h;show wSs cn gZ (fin Q) [↑a,none,none,none,none,none] M;unfold gZ;have LD:bv (aa (c::ls)) 0=some (.str c):=uD _ _;simp! only[List.set,P,aU,LD,f2];refine⟨trivial,⟨rfl,by omega⟩,λp hp=>?_⟩;rw[show List.map D.str (Txt.split c (Str.ofString " "))=aa (Txt.split c " ") from rfl];have e1:=af.new (o:=MO.lst (aa (Txt.split c " "))) hp;have S:ad M p (MO.lst (aa (Txt.split c " "))) p=some (.lst (aa (Txt.split c " "))):=ab;generalize ad M p (MO.lst (aa (Txt.split c " ")))=M1 at *;obtain⟨w,r,eh⟩:=jj (z:=c) (y:=" ") 'a';have T:Short (Txt.split c " "):=gz 'a' RK;rw[eh] at S T R;refine⟨p,w,r,rfl,S,T,λM2 e2=>?_⟩;rw[R];unfold jS;simp! only[List.set];refine⟨trivial,?_⟩;show aN false _ _;rw[aq];unfold jR;simp! only[List.set];intro ps I;have U:=(e1.trans e2).trans (af.new (o:=MO.lst []) I);have J:ad M2 ps (MO.lst []) ps=some (.lst []):=ab;have RN:M ps=none:=by
  cases z:M ps with
  |none=>rfl
  |some o=>rw[(e1.trans e2) _ _ z] at I;cases I
 generalize ad M2 ps (MO.lst [])=V at *;unfold jQ;simp! only[List.set];intro pr j;have K:=U.trans (af.new (o:=MO.lst []) j);have RP:ad V pr (MO.lst []) pr=some (.lst []):=ab;have O5:=af.new (o:=MO.lst []) j _ _ J;have RQ:M pr=none:=by
  cases z:M pr with
  |none=>rfl
  |some o=>rw[U _ _ z] at j;cases j
 have RR:ps≠pr:=λz=>by rw[z,j] at J;cases J
 generalize ad V pr (MO.lst [])=L at *;have L4:bf M ps pr [] [] L:=⟨K,RN,RQ,RR,O5,RP⟩;have RT:=K _ _ P;unfold jP;simp! only[List.set,RT,aU];intro d N;have hc:bW (aa (c::ls)) (some 1) none=aa ls:=qo _ _;rw[hc,ab];have RU:M d=none:=by
  cases z:M d with
  |none=>rfl
  |some o=>rw[K _ _ z] at N;cases N
 have L5:bf (ad M d (.lst (aa ls))) ps pr [] [] (ad L d (.lst (aa ls))):=L4.more N;have g5:ad M d (.lst (aa ls)) d=some (.lst (aa ls)):=ab;have W:=af.new (o:=MO.lst (aa ls)) RU;generalize ad L d (MO.lst (aa ls))=M5 at *;have MK:∀b,(ad M d (.lst (aa ls)):MH) b=none->M b=none:=λb hb=>by
  cases z:M b with
  |none=>rfl
  |some o=>rw[W _ _ z] at hb;cases hb
 generalize (ad M d (.lst (aa ls)):MH)=B at *;dsimp only;refine⟨by decide,?_⟩;have body:∀(E:dH) (i:Int) (z:Str) (st g:List (List Str)×List RB) (M':MH),eR ts z->dM ts z st=some g->st.1.length<=60->st.2.length<=30->bf B ps pr st.1 st.2 M'->(∀f,bf B ps pr g.1 g.2 f->E.nx [↑a,some (ak ts),↑ps,↑pr,some (.int i),some (.str z)] f) ->
   wSs cn cN E [↑a,some (ak ts),↑ps,↑pr,some (.int i),some (.str z)] M':=by
  intro E i z st g M' hz ht h1 O m k;unfold cN;simp! only[List.set,f1];refine⟨z,ts,B,ps,pr,st.1,st.2,rfl,hz.1,m,⟨by omega,by omega⟩,hz,?_⟩;rw[show((st.1,st.2):List (List Str)×List RB)=st from rfl,ht];exact λf t=>k f t
 have n:∀(l:Zf) (i:Int) (st:List (List Str)×List RB) (u A:Zv) (M':MH),(∀z∈l,eR ts z)->dN ts l st=some (sd,rs)->st.1.length<=60->st.2.length<=30->bf B ps pr st.1 st.2 M' ->
   (∀f v Y,bf B ps pr sd rs f->wSs cn du (fin Q) [↑a,some (ak ts),↑ps,↑pr,v,Y] f) ->
   cF (λM'=>M' d=some (MO.lst (aa ls))) (.tp [4,5]) (wSs cn cN) { nx:=wSs cn du (fin Q),rt:=Q } (fj i (aa l)) [↑a,some (ak ts),↑ps,↑pr,u,A] M':=by
  intro l;induction l with
  |nil=>
   intro i st u A M' _ ht _ _ m k;cases ht;exact k M' u A m
  |cons z l ih=>
   intro i st u A M' hl ht h1 O m k;rw[dN] at ht;cases b:dM ts z st with
   |none=>rw[b] at ht;cases ht
   |some g=>
    rw[b] at ht;obtain⟨h3,h4⟩:=By b h1 O;show cF _ _ _ _ (.tup [.int i,.str z]::fj (i+1) (aa l)) _ _;rw[cF];refine⟨rfl,?_⟩;show wSs cn cN _ [↑a,some (ak ts),↑ps,↑pr,some (.int i),some (.str z)] M';refine body _ i z st g M' (hl z (.head _)) b h1 O m λf t=>?_
    exact⟨t.ext _ _ g5,ih (i+1) g _ _ f (λy hy=>hl y (.tail _ hy)) ht h3 h4 t k⟩
 refine n ls 2 ([],[]) none none M5 RL MX 'a' 'a' L5 λM6 v Y G=>?_
 unfold du;simp! only[List.set,G.s,G.r,Z];intro b hb;refine⟨b,ts,sd,rs,rfl,ab,λM7 same gb=>⟨rfl,?_⟩⟩;refine q M7 b (λx o e=>?_) (MK b ?_) gb
 ·have:=G.ext _ _ (W _ _ e)
  have hx:x≠b:=λz=>by rw[z,hb] at this;cases this
  rw[same x hx,aZ hx];exact this
 ·cases z:B b with
  |none=>rfl
  |some o=>rw[G.ext _ _ z] at hb;cases hb
end
def k9:Ss:=#v[.ret (.fn 0 #v[.mt .split (.var 0) #v[.str "\n"]])]
def jn:Ss:=.cons (.ite (.not (.val (.bi .isinst #v[.var 0,.ty "str"]))) #v[.never] .nil) k9
def sB(z:Str)(ts:Zf)(sd:List (List Str))(rs:List RB):Prop:=∃a ls,z.length<=1000000/\Txt.split z "\n" = a::ls/\w4 ts a ls/\dN ts ls ([],[])=some (sd,rs)
def lc(C:Addr):aI:=λds M Q=>∃(z:Str) (ts:Zf) (sd:List (List Str)) (rs:List RB),ds=[.str z]/\sB z ts sd rs/\∀M' b,af M M'->M b=none->M' b=some (.ins C (fu ts sd rs))->Q (.ref b) M'
section
variable {cn:Cn}{C:Addr}
theorem w5{ds:List D}{M:MH}{Q:DK}(c:cn.F.getD 0 'e'=oG C)(h:lc C ds M Q):wSs cn jn (fin Q) (aC [""] ds) M:=by
 obtain⟨z,ts,sd,rs,rfl,⟨a,ls,hz,d,hp,ht⟩,q⟩:=h;show wSs cn jn (fin Q) [some (.str z)] M;unfold jn k9;simp! only[List.set,c];refine⟨by decide,?_⟩;show aN false _ _;rw[aq];refine⟨trivial,⟨rfl,hz⟩,λp f=>?_⟩;rw[show List.map D.str (Txt.split z (Str.ofString "\n"))=aa (Txt.split z "\n") from rfl,d];have e1:=af.new (o:=MO.lst (aa (a::ls))) f;refine⟨p,a,ls,ts,sd,rs,rfl,ab,hp,ht,λM' b e2 hb g=>q M' b (e1.trans e2) ?_ g⟩;cases y:M b with
 |none=>rfl
 |some o=>rw[e1 _ _ y] at hb;cases hb
end
def cu(n:Int):Str:=toString n
def CB.words:CB->List Str
 |.aye a=>a
 |.nots a=>"not" :: a
 |.many n v a=>"many" :: cu n::v::a
 |.first v a=>"first" :: v::a
def Ii(y:Str)(l:Zf):Str:=Str.join y l
def CB.text(c:CB):Str:=Ii " " c.words
def gh:Ss:=#v[.ret (.mt .join (.str " ") #v[.bin .Add (.var 1) (.bk .list #v[.ix (.var 0) (.neg (.int 1))])])]
def jo:Ss:=.cons (.set 1 (.ite (.cmp .Eq (.ix (.var 0) (.int 0)) (.str "aye")) (.lst .nil) (.comp 1 (.bi .str #v[.var 2]) (.nm 2) (.seq (.sl (.var 0) .no (.yes (.neg (.int 1))))) .no))) gh
theorem bx:∀(r:Zf),dm (aa r)=some r
 |[]=>rfl
 |x::r=>by
  show Option.map _ (dm (aa r))=_;rw[bx r];rfl
theorem c4{y:Str}{l:Zf}{n k:Nat}(h1:l.length<=n)(a:∀x∈l,x.length<=k)(b:n*k+n*y.length<=16777216):(l.map (·.length)).sum+l.length*y.length<=16777216:=by
 have c:=PySem.StrLaws.sumLen_le l a;have d:l.length*k<=n*k:=Nat.mul_le_mul_right _ h1;have f:l.length*y.length<=n*y.length:=Nat.mul_le_mul_right _ h1;omega
def CB.fine(c:CB):Prop:=c.words.length<=20/\(∀x∈c.words,x.length<=20)/\match c with
 |.many n _ _=>n.natAbs.log2<1920
 |_=>True
def cO:aI:=λds M Q=>∃c:CB,ds=[c.d]/\c.fine/\∀M',af M M'->Q (.str c.text) M'
section
variable {cn:Cn}{C:Addr}
theorem w6{ds:List D}{M:MH}{Q:DK}(h:cO ds M Q):wSs cn jo (fin Q) (aC ["",""] ds) M:=by
 obtain⟨c,rfl,⟨h1,t,u⟩,q⟩:=h;show wSs cn jo (fin Q) [some c.d,none] M;unfold jo;have f:∀(p:Addr) (b a:Zf) (M1:MH),c.atom=a->b++a=c.words->af M M1->M1 p=some (.lst (aa b))->wSs cn gh (fin Q) [some c.d,↑p] M1:=by
  intro p b a M1 y l e1 g;obtain⟨xs,ex,hl⟩:=c.last;rw[ex];unfold gh;simp! only[List.set];rw[hl];refine⟨trivial,?_⟩;show G0 .list [ak c.atom] M1 _;rw[y];show ∀j,M1 j=none->_;intro j z;have e2:=af.new (o:=MO.lst (aa a)) z;have A:=e2 _ _ g;have B:ad M1 j (MO.lst (aa a)) j=some (.lst (aa a)):=ab;generalize ad M1 j (MO.lst (aa a))=M2 at *;show(match M2 p,M2 j with | some (.lst xs),some (.lst ys)=>_ | _,_=>False);rw[A,B];have F:(aa b).length+(aa a).length<=20:=by rw[←l] at h1;simpa [aa] using h1
  refine⟨by rw[sizeLine_eq];omega,λm E=>?_⟩;have r:=af.new (o:=MO.lst (aa b++aa a)) E;show aH (aU (ad M2 m (MO.lst (aa b++aa a)) m)) _;rw[ab];rw[show aa b++aa a=aa c.words by rw[←l];simp[aa]] at r ⊢;show aH (dm (aa c.words)) _;rw[bx];refine⟨c4 h1 t 'a',?_⟩;exact q _ ((e1.trans e2).trans r)
 cases c with
 |aye a=>
  simp! only[CB.d,List.set];rw[1];show aN true _ _;rw[bu];intro p hp;exact f p [] a _ rfl rfl (af.new hp) ab
 |nots a=>
  simp! only[CB.d,List.set];rw[1];show aN false _ _;rw[aq];show ba _ _ _ _ _ [.str "not"] [] _ M;refine⟨trivial,λp hp=>?_⟩;exact f p ["not"] a _ rfl rfl (af.new hp) ab
 |many n v a=>
  simp! only[CB.d,List.set];rw[1];show aN false _ _;rw[aq];show ba _ _ _ _ _ [.str "many",.int n,.str v] [] _ M;refine⟨trivial,u,trivial,trivial,λp hp=>?_⟩;exact f p ["many",cu n,v] a _ rfl rfl (af.new hp) ab
 |first v a=>
  simp! only[CB.d,List.set];rw[1];show aN false _ _;rw[aq];show ba _ _ _ _ _ [.str "first",.str v] [] _ M;refine⟨trivial,trivial,λp hp=>?_⟩;exact f p ["first",v] a _ rfl rfl (af.new hp) ab
end
theorem sub_len{b:Type}[DecidableEq b]:∀{l t:List b},l.Nodup->(∀x∈l,x∈t)->l.length<=t.length
 |[],_,_,_=>YL _
 |a::l,t,nd,h=>by
  rw[YM] at nd;have ha:=h a (.head _)
  have:=sub_len (l:=l) (t:=t.erase a) nd.2 λx hx=>(List.mem_erase_of_ne (λ(e:x=a)=>nd.1 (by rw[←e];exact hx))).2 (h x (.tail _ hx))
  rw[List.length_erase_of_mem ha] at this
  have:=List.length_pos_of_mem ha
  rw[YI];omega
theorem dC{b:Type}[DecidableEq b](l:List b)(x:b):x∈aB l↔x∈l:=by
 have c:∀(l acc:List b),x∈l.foldl fi acc↔x∈acc\/x∈l:=by
  intro l;induction l with
  |nil=>intro acc;simp
  |cons a l d=>
   intro acc;rw[List.foldl_cons,d];have:x∈fi acc a↔x∈acc\/x=a:=by
    unfold fi;split
    ·rename_i h
     exact⟨.inl,λz=>z.elim id λe=>by rw[e];exact h⟩
    ·simp
   rw[this,ZY,or_assoc]
 have:=c l []
 simpa [aB] using this
theorem zR{a:Type}[DecidableEq a]{l:List a}(h:l.Nodup):(aB l).length=l.length:=by
 have h1:=qh l;have b:=sub_len h λx hx=>(dC l x).2 hx
 omega
theorem iL{ts:Zf}{y:Str}:cw ts y=true↔y∈ts:=by
 unfold cw cp aa;rw[List.any_map,List.any_eq_true];constructor
 ·rintro⟨x,hx,e⟩
  have:x=y:=iJ.1 e
  exact this▸hx
 ·exact λh=>⟨y,h,iJ.2 rfl⟩
def dY(x:Str):Prop:=(1<=x.length/\x.length<=6)/\(∀c∈x.cps.toList,c∈bB.cps.toList)/\x∉b9
def nQ(x:Str):Prop:=∃c∈fo.cps.toList,x=⟨#[c]⟩
theorem C2:∀c∈bB.cps.toList,mn bB ⟨#[c]⟩=true:=by rfl'
theorem xJ:∀c∈bB.cps.toList,aV ⟨#[c]⟩=false:=by rfl'
theorem qx:∀c∈bB.cps.toList,97<=c:=by rfl'
theorem C3:∀c∈fo.cps.toList,aV ⟨#[c]⟩=true:=by rfl'
theorem Fn:∀c∈fo.cps.toList,65<=c:=by rfl'
theorem dY.is{x:Str}(h:dY x):bJ x=true:=by
 unfold bJ;have h1:decide ((x.length:Int)<1)=false:=ZO (by have:=h.1.1;omega);have a:decide (6<(x.length:Int))=false:=ZO (by have:=h.1.2;omega);have b:cp (.str x) (b9.map .str)=false:=by
  cases q:cp (.str x) (b9.map .str) with
  |false=>rfl
  |true=>exact absurd (iL (ts:=b9).1 q) h.2.2
 rw[h1,a,b];simp only[Bool.not_false,Bool.true_and,XE];exact λc hc=>C2 c (h.2.1 c hc)
theorem nQ.is{x:Str}(h:nQ x):aV x=true:=by
 obtain⟨c,hc,rfl⟩:=h;exact C3 c hc
theorem one_sign{x:Str}(h:x.length=1):∃c,x=⟨#[c]⟩:=by
 obtain⟨⟨l⟩⟩:=x;match l,h with
 |[c],_=>exact⟨c,rfl⟩
theorem dY.novar{x:Str}(h:dY x):aV x=false:=by
 by_cases e:x.length=1
 ·obtain⟨c,rfl⟩:=one_sign e
  exact xJ c (h.2.1 c (by simp))
 ·unfold aV
  rw[aP];have:(((x.length:Nat):Int)==1)=false:=by rw[ZP];omega
  rw[this];rfl
structure iG (x:Str):Prop where
 len:x.length<=6
 sp:32∉x.cps.toList
 nl:10∉x.cps.toList
 co:44∉x.cps.toList
 nif:x ≠ "if"
theorem dY.word{x:Str}(h:dY x):iG x:=⟨h.1.2,λq=>by have:=qx _ (h.2.1 _ q);omega,λq=>by have:=qx _ (h.2.1 _ q);omega,λq=>by have:=qx _ (h.2.1 _ q);omega,λq=>h.2.2 (by rw[q];decide)⟩
theorem nQ.word{x:Str}(h:nQ x):iG x:=by
 obtain⟨c,hc,rfl⟩:=h
 have:=Fn c hc
 have a:∀d,d<65->d∉(⟨#[c]⟩:Str).cps.toList:=λd hd q=>by
  have:d=c:=by simpa using q
  omega
 exact⟨by show 1<=6;omega,a _ 'a',a _ 'a',a _ 'a',λq=>by have:=congrArg Str.length q;revert this;show ¬(1=2);omega⟩
theorem nQ.ne{x:Str}(h:nQ x):x ≠ "":=λq=>by
 obtain⟨c,hc,rfl⟩:=h
 have:=congrArg Str.length q
 revert this;show ¬(1=0);omega
structure av (ts ws ss:Zf):Prop where
 tn:∀x∈ts,dY x
 wn:∀x∈ws,dY x
 sv:∀x∈ss,nQ x
 tl:1<=ts.length/\ts.length<=6
 wl:1<=ws.length/\ws.length<=4
 sl:ss.length=10
 td:ts.Nodup
 sd:ss.Nodup
def cc(ts ws ss:Zf)(m:Str)(a:Zf):Prop:=∃w r,a=w::r/\w∈ws/\r.length<=3/\(∀x∈r,x∈ts\/x∈ss.take 4\/(m ≠ ""/\x=m))/\(m ≠ ""->m∈r)
def cP(ts ws ss:Zf)(k:Nat):CB->Prop
 |.aye a=>cc ts ws ss "" a
 |.nots a=>cc ts ws ss "" a
 |.many n v a=>(1<=n/\n<=6)/\ss[4+k]?=some v/\cc ts ws ss v a
 |.first v a=>v∈ss.take 4/\cc ts ws ss v a
def bI(ts ws ss:Zf)(r:RB):Prop:=cc ts ws ss "" r.1/\r.2.length<=6/\∀k c,r.2[k]?=some c->cP ts ws ss k c
def cQ(ts ws:Zf)(a:Zf):Prop:=∃w r,a=w::r/\w∈ws/\r.length<=3/\∀x∈r,x∈ts
section
variable {ts ws ss:Zf}{m:Str}{a:Zf}
theorem cc.b(W:av ts ws ss)(hm:m = "" \/ m∈ss)(h:cc ts ws ss m a):bm ts a=true:=by
 obtain⟨w,r,rfl,hw,hl,c,_⟩:=h;unfold bm;dsimp only;rw[(W.wn w hw).is,show decide (4<((w::r).length:Int))=false from ZO (by simp only[YI];omega)];simp only[Bool.not_false,Bool.true_and,List.all_map,XE];intro x hx;show de ts x=true;unfold de;rcases c x hx with h | h | ⟨h1,h2⟩
 ·rw[show cp (.str x) (aa ts)=true from iL.2 h];rfl
 ·rw[(W.sv x (XZ h)).is,Bool.or_true]
 ·rw[h2,(W.sv m (hm.resolve_left h1)).is,Bool.or_true]
theorem cc.word(W:av ts ws ss)(hm:m = "" \/ m∈ss)(h:cc ts ws ss m a):∀x∈a,iG x:=by
 obtain⟨w,r,rfl,hw,hl,b,_⟩:=h;intro x hx;rcases ZY.1 hx with rfl | hx
 ·exact(W.wn x hw).word
 ·rcases b x hx with h | h | ⟨h1,h2⟩
  ·exact(W.tn x h).word
  ·exact(W.sv x (XZ h)).word
  ·rw[h2];exact(W.sv m (hm.resolve_left h1)).word
theorem cc.len(h:cc ts ws ss m a):1<=a.length/\a.length<=4:=by
 obtain⟨w,r,rfl,hw,hl,b,_⟩:=h;simp only[YI];omega
theorem cc.var(W:av ts ws ss)(h:cc ts ws ss m a){x:Str}(hx:x∈a.tail)(hv:aV x=true):x∈ss.take 4\/(m ≠ ""/\x=m):=by
 obtain⟨w,r,rfl,hw,hl,b,_⟩:=h;rcases b x hx with h | h
 ·have:=(W.tn x h).novar;rw[hv] at this;cases this
 ·exact h
theorem cQ.atom(h:cQ ts ws a):cc ts ws ss "" a:=by
 obtain⟨w,r,rfl,hw,hl,b⟩:=h;exact⟨w,r,rfl,hw,hl,λx hx=>.inl (b x hx),λz=>absurd rfl z⟩
def CB.must:CB->Str
 |.many _ v _=>v
 |.first v _=>v
 |_=>""
variable {k:Nat}{c:CB}
theorem cP.must(h:cP ts ws ss k c):cc ts ws ss c.must c.atom/\(c.must = "" \/ c.must∈ss):=by
 cases c with
 |aye a=>exact⟨h,.inl rfl⟩
 |nots a=>exact⟨h,.inl rfl⟩
 |many n v a=>exact⟨h.2.2,.inr (YR h.2.1)⟩
 |first v a=>exact⟨h.2,.inr (XZ h.1)⟩
theorem Bz:∀x∈b9,x ≠ "if"->x.length<=6/\32∉x.cps.toList/\10∉x.cps.toList/\44∉x.cps.toList:=by rfl'
theorem oH{x:Str}(h:x∈b9)(f:x ≠ "if"):iG x:=by
 obtain⟨a,b,c,d⟩:=Bz x h f;exact⟨a,b,c,d,f⟩
theorem six{n:Int}{P:Int->Prop}(h:1<=n/\n<=6)(h1:P 1)(b:P 2)(d:P 3)(f:P 4)(g:P 5)(j:P 6):P n:=by
 have:n=1\/n=2\/n=3\/n=4\/n=5\/n=6:=by omega
 rcases this with rfl | rfl | rfl | rfl | rfl | rfl<;>assumption
theorem BA{n:Int}(h:1<=n/\n<=6):iG (cu n):=by
 have:((cu n).length<=6/\32∉(cu n).cps.toList/\10∉(cu n).cps.toList/\44∉(cu n).cps.toList)/\cu n ≠ "if":=six (P:=λn=>((cu n).length<=6/\32∉(cu n).cps.toList/\10∉(cu n).cps.toList/\44∉(cu n).cps.toList)/\cu n ≠ "if") h (by rfl') (by rfl') (by rfl') (by rfl') (by rfl') (by rfl')
 exact⟨this.1.1,this.1.2.1,this.1.2.2.1,this.1.2.2.2,this.2⟩
theorem w9{n:Int}(h:1<=n/\n<=6):cp (.str (cu n)) (aa jh)=true/\iC (cu n)=some n:=
 six (P:=λn=>cp (.str (cu n)) (aa jh)=true/\iC (cu n)=some n) h (by rfl') (by rfl') (by rfl') (by rfl') (by rfl') (by rfl')
theorem cP.word (W:av ts ws ss) (h:cP ts ws ss k c):∀ x ∈ c.words,iG x:=by
  have ha:=h.must.1.word W h.must.2
  cases c with
  | aye a=>exact ha
  | nots a=>
    intro x hx
    rcases ZY.1 hx with rfl | hx
    · exact oH 'a' 'a'
    · exact ha x hx
  | many n v a=>
    intro x hx
    rcases ZY.1 hx with rfl | hx
    · exact oH 'a' 'a'
    rcases ZY.1 hx with rfl | hx
    · exact BA h.1
    rcases ZY.1 hx with rfl | hx
    · exact (W.sv x (YR h.2.1)).word
    · exact ha x hx
  | first v a=>
    intro x hx
    rcases ZY.1 hx with rfl | hx
    · exact oH 'a' 'a'
    rcases ZY.1 hx with rfl | hx
    · exact (W.sv x (XZ h.1)).word
    · exact ha x hx
theorem cP.len(h:cP ts ws ss k c):1<=c.words.length/\c.words.length<=7:=by
 have ha:=h.must.1.len;cases c<;>(simp only[CB.words,CB.atom,YI] at *;omega)
theorem cP.fine(W:av ts ws ss)(h:cP ts ws ss k c):c.fine:=by
 have h1:=h.len;refine⟨by omega,λx hx=>by have:=(h.word W x hx).len;omega,?_⟩;cases c with
 |many n v a=>exact six (P:=λn=>n.natAbs.log2<1920) h.1 'a' 'a' 'a' 'a' 'a' 'a'
 |_=>trivial
theorem uF(W:av ts ws ss)(hm:m∈ss)(h:cc ts ws ss m a):bH m a=true:=by
 obtain⟨w,r,rfl,hw,hl,d,b⟩:=h;unfold bH;rw[(W.sv m hm).is,Bool.true_and];exact iL.2 (b (W.sv m hm).ne)
theorem xa{x y:Str}(h:x≠y):bV x y=false:=by
 cases q:bV x y with
 |false=>rfl
 |true=>exact absurd (iJ.1 q) h
theorem cP.read(W:av ts ws ss)(h:cP ts ws ss k c):c9 ts c.words=some c:=by
 have hb:=h.must.1.b W h.must.2;cases c with
 |aye a=>
  obtain⟨w,r,rfl,hw,hl,f,_⟩:=h;have d:=(W.wn w hw).2.2;show c9 ts (w::r)=_;unfold c9;dsimp only;rw[xa (λz=>d (by rw[z];decide)),xa (λz=>d (by rw[z];decide)),xa (λz=>d (by rw[z];decide)),show bm ts (w::r)=true from hb];rfl
 |nots a=>
  show c9 ts ("not" :: a)=_;unfold c9;dsimp only;rw[show bV "not" "many" = false by decide,show bV "not" "first" = false by decide,show bV "not" "not" = true by decide,show bm ts a=true from hb];rfl
 |many n v a=>
  show c9 ts ("many" :: cu n::v::a)=_;unfold c9;dsimp only;rw[show bV "many" "many" = true by decide,cond_true];unfold zO;dsimp only;rw[show bm ts a=true from hb,(w9 h.1).1,(w9 h.1).2,uF W (YR h.2.1) h.2.2];rfl
 |first v a=>
  show c9 ts ("first" :: v::a)=_;unfold c9;dsimp only;rw[show bV "first" "many" = false by decide,show bV "first" "first" = true by decide,cond_true,cond_false];unfold wU;dsimp only;rw[show bm ts a=true from hb,uF W (XZ h.1) h.2];rfl
end
theorem zS:(" " : Str)=⟨#[32]⟩:=by rfl'
def c5:List Str->List Str
 |[]=>[]
 |[x]=>[x ++ ","]
 |x::y::r=>x::c5 (y::r)
theorem nR:∀{l:Zf},l≠[]->c5 l≠[]
 |[],h=>absurd rfl h
 |[x],_=>by rw[c5];simp
 |x::y::r,_=>by rw[c5];simp
theorem sC:∀l:List Str,(c5 l).length=l.length
 |[]=>rfl
 |[x]=>rfl
 |x::y::r=>by rw[c5,YI,sC (y::r),YI,YI,YI]
theorem sD:∀{l:Zf}{x:Str},x∈c5 l->∃y∈l,x=y\/x=y ++ ","
 |[x],z,h=>⟨x,.head _,.inr (by simpa [c5] using h)⟩
 |x::y::r,z,h=>by
  rw[c5,ZY] at h;rcases h with rfl | h
  ·exact⟨z,.head _,.inl rfl⟩
  ·obtain⟨w,hw,e⟩:=sD h
   exact⟨w,.tail _ hw,e⟩
theorem jT{y a:Str}{l:Zf}(h:l≠[]):Str.join y (a::l)=a++y++Str.join y l:=by
 cases l with
 |nil=>exact absurd rfl h
 |cons b r=>rfl
theorem pi(y:Str):∀{l:Zf},l≠[]->Str.join y (c5 l)=Str.join y l ++ ","
 |[],h=>absurd rfl h
 |[x],_=>rfl
 |x::z::r,_=>by
  rw[c5,jT (l:=c5 (z::r)) (nR (by simp)),pi y (l:=z::r) (by simp),bS y x z r];apply Str.ext';simp only[Str.cps_append,ZZ]
def dD:List (List Str)->List Str
 |[]=>[]
 |[w]=>w
 |w::v::r=>c5 w++dD (v::r)
theorem tI:∀{l:List (List Str)},(∀w∈l,w≠[])->l≠[]->dD l≠[]
 |[],_,h=>absurd rfl h
 |[w],h,_=>h w (.head _)
 |w::v::r,h,_=>by
  rw[dD]
  have:=nR (h w (.head _))
  simp[this]
theorem xb:∀{l:List (List Str)}{x:Str},x∈dD l->∃w∈l,∃y∈w,x=y\/x=y ++ ","
 |[w],z,h=>⟨w,.head _,z,h,.inl rfl⟩
 |w::v::r,z,h=>by
  rw[dD,YA] at h;rcases h with h | h
  ·obtain⟨y,hy,e⟩:=sD h
   exact⟨w,.head _,y,hy,e⟩
  ·obtain⟨u,hu,y,hy,e⟩:=xb h
   exact⟨u,.tail _ hu,y,hy,e⟩
theorem xc{n:Nat}:∀{l:List (List Str)},(∀w∈l,w.length<=n)->(dD l).length<=n*l.length
 |[],_=>YL _
 |[w],h=>by have:=h w (.head _);simpa [dD] using this
 |w::v::r,h=>by
  have h1:=xc (l:=v::r) λx hx=>h x (.tail _ hx)
  have a:=h w (.head _);rw[dD,ZJ,sC,YI,Nat.mul_succ];omega
theorem xf:∀{l:List (List Str)},(∀w∈l,w≠[])->l≠[]->Str.join ", " (l.map (Str.join " "))=Str.join " " (dD l)
 |[],_,h=>absurd rfl h
 |[w],_,_=>rfl
 |w::v::r,h,_=>by
  have a:=xf (l:=v::r) (λx hx=>h x (.tail _ hx)) (by simp);have hw:=h w (.head _);rw[dD,mC _ _ _ (nR hw) (tI (λx hx=>h x (.tail _ hx)) (by simp)),pi _ hw,←a,YK,jT (by simp)];rw[show(", " : Str) = "," ++ " " by rfl'];apply Str.ext';simp only[Str.cps_append,ZZ]
theorem di{n:Nat}:∀{l:Zf},(∀x∈l,x.length<=n)->(Str.join " " l).length<=(n+1)*l.length
 |[],_=>YL _
 |[x],h=>by have:=h x (.head _);show x.length<=(n+1)*1;omega
 |x::y::r,h=>by
  have h1:=di (l:=y::r) λz hz=>h z (.tail _ hz)
  have a:=h x (.head _);rw[bS,len_app,len_app,YI,Nat.mul_succ];have:(" " : Str).length=1:=by rfl'
  omega
theorem mem_join{y:Str}{c:Nat}:∀{l:Zf},c∈(Str.join y l).cps.toList->c∈y.cps.toList \/ ∃w∈l,c∈w.cps.toList
 |[],h=>by cases h
 |[x],h=>.inr ⟨x,.head _,h⟩
 |x::z::r,h=>by
  rw[bS,bM,bM,YA,YA] at h;rcases h with(h | h) | h
  ·exact .inr ⟨x,.head _,h⟩
  ·exact .inl h
  ·rcases mem_join h with h | ⟨w,hw,h⟩
   ·exact .inl h
   ·exact .inr ⟨w,.tail _ hw,h⟩
def gO(r:RB):List Str:=match r.2 with
 |[]=>"rule" :: r.1
 |_::_=>(("rule" : Str)::r.1)++("if" : Str)::dD (r.2.map CB.words)
def a8(r:RB):Str:=match r.2 with
 |[]=>Str.join " " ("rule" :: r.1)
 |_::_=>Str.join " " ("rule" :: r.1) ++ " if " ++ Str.join ", " (r.2.map CB.text)
def bc(a:Zf):Str:=Str.join " " ("say" :: a)
def au(ts:Zf):Str:=Str.join " " ("things" :: ts)
section
variable {ts ws ss:Zf}{r:RB}{a:Zf}
theorem qy(R:bI ts ws ss r):∀w∈r.2.map CB.words,w≠[]:=λw hw=>by
 obtain⟨c,hc,rfl⟩:=XU.1 hw;obtain⟨k,hk⟩:=XN hc
 have:=(R.2.2 k c hk).len
 intro z;rw[z] at this;simp at this
theorem sF(R:bI ts ws ss r)(h:r.2≠[]):Str.join ", " (r.2.map CB.text)=Str.join " " (dD (r.2.map CB.words)):=by
 rw[←xf (qy R) (by simpa using h),ZL];rfl
theorem qz(R:bI ts ws ss r):a8 r=Str.join " " (gO r):=by
 unfold a8 gO;cases e:r.2 with
 |nil=>rfl
 |cons c b=>
  dsimp only;rw[←e,sF R (by rw[e];simp),mC _ (("rule" : Str)::r.1) (("if" : Str)::dD (r.2.map CB.words)) (by simp) (by simp),jT (a:="if") (tI (qy R) (by rw[e];simp):dD (r.2.map CB.words)≠[]),show(" if " : Str) = " " ++ ("if" ++ " ") by rfl'];apply Str.ext';simp only[Str.cps_append,ZZ]
theorem xg (W:av ts ws ss) (R:bI ts ws ss r):∀ x ∈ dD (r.2.map CB.words),x.length<=7/\32 ∉ x.cps.toList/\10 ∉ x.cps.toList/\x ≠ "if":=λx hx=>by
  obtain ⟨w,hw,y,hy,e⟩:=xb hx
  obtain ⟨c,hc,rfl⟩:=XU.1 hw
  obtain ⟨k,hk⟩:=XN hc
  have q:=(R.2.2 k c hk).word W y hy
  have b:(",": Str).cps.toList = [44]:=by rfl'
  rcases e with rfl | rfl
  · exact ⟨by have:=q.len; omega,q.sp,q.nl,q.nif⟩
  · refine ⟨by rw [len_app]; have:=q.len; have:(",": Str).length = 1:=by rfl'
               omega,λz=>?_,λz=>?_,λz=>?_⟩
    · rw [bM,b,YA] at z
      rcases z with z | z
      · exact q.sp z
      · simp at z
    · rw [bM,b,YA] at z
      rcases z with z | z
      · exact q.nl z
      · simp at z
    · have:44 ∈ (y ++ "," : Str).cps.toList:=by rw [bM,b]; simp
      rw [z] at this
      revert this; rfl'
theorem yI(W:av ts ws ss)(R:bI ts ws ss r):∀x∈("rule" : Str)::r.1,iG x:=λx hx=>by
 rcases ZY.1 hx with rfl | hx
 ·exact oH 'a' 'a'
 ·exact R.1.word W (.inl rfl) x hx
theorem nS (W:av ts ws ss) (R:bI ts ws ss r):(∀ x ∈ gO r,x.length<=7/\32 ∉ x.cps.toList/\10 ∉ x.cps.toList)/\(gO r).length<=48:=by
  have h1:=yI W R
  have b:=xg W R
  have f:=R.1.len
  have d:(dD (r.2.map CB.words)).length<=7 * (r.2.map CB.words).length:=xc λw hw=>by
    obtain ⟨c,hc,rfl⟩:=XU.1 hw
    obtain ⟨k,hk⟩:=XN hc
    exact (R.2.2 k c hk).len.2
  rw [ZF] at d
  have g:=R.2.1
  unfold gO
  cases e:r.2 with
  | nil=>exact ⟨λx hx=>⟨by have:=(h1 x hx).len; omega,(h1 x hx).sp,(h1 x hx).nl⟩,by simp only [YI]; omega⟩
  | cons c j=>
    dsimp only
    rw [← e]
    refine ⟨λx hx=>?_,by simp only [YI,ZJ]; omega⟩
    rcases YA.1 hx with hx | hx
    · exact ⟨by have:=(h1 x hx).len; omega,(h1 x hx).sp,(h1 x hx).nl⟩
    rcases ZY.1 hx with rfl | hx
    · rfl'
    · exact ⟨(b x hx).1,(b x hx).2.1,(b x hx).2.2.1⟩
theorem gi{l:Zf}(h:l≠[])(hn:∀x∈l,32∉x.cps.toList):Txt.split (Str.join " " l) " " = l:=qr (c:=32) (t:=[]) (by rfl') (by simp) h hn
theorem tJ(W:av ts ws ss){k:Nat}{c:CB}(h:cP ts ws ss k c):Txt.split c.text " " = c.words:=gi (λz=>by have:=h.len;rw[z] at this;simp at this) λx hx=>(h.word W x hx).sp
theorem BB(W:av ts ws ss)(R:bI ts ws ss r)(h:r.2≠[]):kR ts (Str.join ", " (r.2.map CB.text))=some r.2:=by
 have e1:Txt.split (Str.join ", " (r.2.map CB.text)) ", " = r.2.map CB.text:=qr (c:=44) (t:=[32]) (by rfl') 'a' (by simpa using h) λp hp=>by
  obtain⟨c,hc,rfl⟩:=XU.1 hp;obtain⟨k,hk⟩:=XN hc;intro z;rcases mem_join z with z | ⟨w,hw,z⟩
  ·revert z;rfl'
  ·exact((R.2.2 k c hk).word W w hw).co z
 have e2:c3 ts (Str.join ", " (r.2.map CB.text))=r.2.map some:=by
  unfold c3;rw[e1,ZL];refine ZM λc hc=>?_
  obtain⟨k,hk⟩:=XN hc;show c9 ts (Txt.split c.text " ")=some c;rw[tJ W (R.2.2 k c hk),(R.2.2 k c hk).read W]
 have b:∀l:List CB,dh (l.map some)=some l:=by
  intro l;induction l with
  |nil=>rfl
  |cons c l d=>rw[YK,dh,d];rfl
 unfold kR;rw[e2,b,ZF,show decide (6<(r.2.length:Int))=false from ZO (by have:=R.2.1;omega)];rfl
theorem uG(W:av ts ws ss)(R:bI ts ws ss r):gN ts (Txt.split (a8 r) " if ")=some r:=by
 have d:=yI W R;have hd:iE ts (Str.join " " ("rule" :: r.1))=some r.1:=by
  unfold iE;rw[gi (l:=("rule" : Str)::r.1) (by simp) λx hx=>(d x hx).sp,List.tail_cons,R.1.b W (.inl rfl)];rfl
 unfold a8;cases e:r.2 with
 |nil=>
  dsimp only
  have:=sw (y:=" if ") (w:=("if" : Str).cps.toList) (c:=32) (ws:="rule" :: r.1) (by rfl') (by rfl') (by simp) (λx hx=>(d x hx).sp) (λx hx z=>(d x hx).nif (Str.ext' (XY.mp z)))
  rw[←zS] at this;rw[this,gN,hd,Option.map_some,←e]
 |cons c f=>
  dsimp only;rw[←e];have ne:r.2≠[]:=by rw[e];simp
  have:=Bt (y:=" if ") (w:="if") (c:=32) (ws:="rule" :: r.1) (vs:=dD (r.2.map CB.words)) (by rfl') (by rfl') (by simp) (tI (qy R) (by simpa using ne)) (λx hx=>(d x hx).sp) (λx hx=>(xg W R x hx).2.1) (λz=>(d _ z).nif rfl) (λz=>(xg W R _ z).2.2.2 rfl)
  rw[←zS,←sF R ne] at this;rw[this,gN,hd,BB W R ne];rfl
end
theorem xh{c:Type}{P:c->Bool}:∀{l:List c}{n:Nat},(∀i a,l[i]?=some a->P a=true->i=n)->(l.filter P).length<=1
 |[],_,_=>YL _
 |a::l,n,h=>by
  cases q:P a with
  |false=>
   rw[List.filter_cons_of_neg (by rw[q];simp)];exact xh (n:=n-1) λi b hb hp=>by have:=h (i+1) b (by simpa using hb) hp;omega
  |true=>
   have d:=h 0 a rfl q;have:l.filter P=[]:=by
    rw[List.filter_eq_nil_iff];intro b hb hp;obtain⟨i,hi⟩:=XN hb
    have:=h (i+1) b (by simpa using hi) hp
    omega
   rw[List.filter_cons_of_pos q,this];exact YE _
section
variable {ts ws ss:Zf}{r:RB}{a:Zf}
theorem xi{l:Zf}(nd:l.Nodup){i j:Nat}{x:Str}(h1:l[i]?=some x)(b:l[j]?=some x):i=j:=by
 have hi:i<l.length:=by
  rw[YB] at h1;exact h1.1
 exact(List.getElem?_inj hi nd).1 (h1.trans b.symm)
theorem zT(W:av ts ws ss){k:Nat}{v:Str}(h:ss[4+k]?=some v):v∉ss.take 4:=λq=>by
 obtain⟨i,hi⟩:=XN q;rw[List.getElem?_take] at hi;split at hi
 ·have:=xi W.sd hi h
  omega
 ·cases hi
theorem CB.counted_eq{c:CB}{v:Str}(h:c.counted=some v):∃n a,c=.many n v a:=by
 cases c with
 |many n u a=>cases h;exact⟨n,a,rfl⟩
 |_=>cases h
theorem tK(W:av ts ws ss)(R:bI ts ws ss r){x:Str}(h:x∈cq (aK r.1 r.2)):x∈ss.take 4\/x∈a0 r.2:=by
 unfold cq at h;obtain⟨a,ha,hx⟩:=List.mem_flatMap.1 h;rw[List.mem_filter] at hx;unfold aK at ha;rcases ZY.1 ha with rfl | ha
 ·rcases R.1.var W hx.1 hx.2 with q | q
  ·exact .inl q
  ·exact absurd rfl q.1
 ·obtain⟨c,hc,rfl⟩:=XU.1 ha
  obtain⟨k,hk⟩:=XN hc;have C:=R.2.2 k c hk;rcases C.must.1.var W hx.1 hx.2 with q | ⟨q1,q2⟩
  ·exact .inl q
  ·cases c with
   |aye a=>exact absurd rfl q1
   |nots a=>exact absurd rfl q1
   |many n v a=>exact .inr (List.mem_filterMap.2 ⟨_,hc,by rw[q2];rfl⟩)
   |first v a=>exact .inl (by rw[q2];exact C.1)
theorem zU(W:av ts ws ss):(ss.take 4).length=4:=by rw[YQ,W.sl];rfl
theorem yJ(W:av ts ws ss)(R:bI ts ws ss r):wW r.1 r.2:=by
 have b:(ss.take 4).length=4:=zU W;refine⟨R.2.1,λa ha=>?_,?_⟩
 ·unfold aK at ha
  rcases ZY.1 ha with rfl | ha
  ·exact⟨R.1.len.2,λx hx=>by have:=(R.1.word W (.inl rfl) x hx).len;rw[sizeLine_eq];omega⟩
  ·obtain⟨c,hc,rfl⟩:=XU.1 ha
   obtain⟨k,hk⟩:=XN hc;have C:=(R.2.2 k c hk).must;exact⟨C.1.len.2,λx hx=>by have:=(C.1.word W C.2 x hx).len;rw[sizeLine_eq];omega⟩
 ·have nd:=qj (cq (aK r.1 r.2))
  by_cases e:a0 r.2=[]
  ·refine .inr ⟨by rw[e];rfl,?_⟩
   have:=sub_len nd (t:=ss.take 4) λx hx=>by
    rcases tK W R ((dC _ _).1 hx) with q | q
    ·exact q
    ·rw[e] at q;cases q
   omega
  ·refine .inl ?_
   have h1:=sub_len nd (t:=ss.take 4++aB (a0 r.2)) λx hx=>by
    rw[YA];rcases tK W R ((dC _ _).1 hx) with q | q
    ·exact .inl q
    ·exact .inr ((dC _ _).2 q)
   rw[ZJ,b] at h1;have d:1<=(aB (a0 r.2)).length:=by
    obtain⟨v,l,e2⟩:=List.exists_cons_of_ne_nil e;exact List.length_pos_of_mem ((dC _ v).2 (by rw[e2];exact .head _))
   omega
theorem Ij(W:av ts ws ss)(R:bI ts ws ss r):qu r.1 r.2=true:=by
 unfold qu;rw[YU,XE,XM];constructor
 ·intro v hv
  obtain⟨c,hc,o⟩:=List.mem_filterMap.1 hv;obtain⟨k,hk⟩:=XN hc;obtain⟨n,a,rfl⟩:=CB.counted_eq o;have C:=R.2.2 k _ hk;have f:=zT W C.2.1;have m:aV v=true:=(W.sv v (YR C.2.1)).is
  have:=xh (P:=λa=>cw a.tail v) (l:=aK r.1 r.2) (n:=k+1) λi b hb hp=>by
   have hp:=iL.1 hp;unfold aK at hb;cases i with
   |zero=>
    cases hb;rcases R.1.var W hp m with q | q
    ·exact absurd q f
    ·exact absurd rfl q.1
   |succ i=>
    rw[List.getElem?_cons_succ,ZG] at hb;cases e:r.2[i]? with
    |none=>rw[e] at hb;cases hb
    |some c'=>
     rw[e] at hb;cases hb;have g:=R.2.2 i c' e;rcases g.must.1.var W hp m with q | ⟨q1,d⟩
     ·exact absurd q f
     ·cases c' with
      |aye a=>exact absurd rfl q1
      |nots a=>exact absurd rfl q1
      |many n' j a'=>
       have d:v=j:=d;have h1:=g.2.1;rw[←d] at h1
       have:=xi W.sd h1 C.2.1
       omega
      |first j a'=>
       have d:v=j:=d;exact absurd (d▸g.1) f
  rw[XO,decide_eq_false_iff_not];omega
 ·have nd:=qj (cq (aK r.1 r.2))
  have:=sub_len (l:=SD.keep (aB (a0 r.2)) (aB (cq (aK r.1 r.2)))) (t:=ss.take 4) (List.Pairwise.filter _ nd) λx hx=>by
   unfold SD.keep at hx;rw[List.mem_filter,XO,decide_eq_false_iff_not] at hx;rcases tK W R ((dC _ _).1 hx.1) with q | q
   ·exact q
   ·exact absurd ((dC _ _).2 q) hx.2
  rw[zU W] at this;omega
theorem C4(W:av ts ws ss)(R:bI ts ws ss r):mE ts (a8 r)=some r:=by
 unfold mE;rw[uG W R,XH,zP,Ij W R];rfl
theorem pj(W:av ts ws ss)(R:bI ts ws ss r):(a8 r).length<=400:=by
 obtain⟨h1,b⟩:=nS W R;rw[qz R]
 have:=di (n:=7) (l:=gO r) λx hx=>(h1 x hx).1
 omega
theorem C5(W:av ts ws ss)(R:bI ts ws ss r):eR ts (a8 r):=by
 have:=pj W R
 refine⟨by omega,λb h=>?_⟩;rw[uG W R] at h;cases h;exact yJ W R
theorem sG(W:av ts ws ss)(S:cQ ts ws a):∀x∈("say" : Str)::a,iG x:=λx hx=>by
 rcases ZY.1 hx with rfl | hx
 ·exact oH 'a' 'a'
 ·exact(S.atom (ss:=ss)).word W (.inl rfl) x hx
theorem sH(W:av ts ws ss)(S:cQ ts ws a):(bc a).length<=400:=by
 have:=di (n:=7) (l:=("say" : Str)::a) λx hx=>by have:=(sG W S x hx).len;omega
 have l:=(S.atom (ss:=ss)).len;rw[YI] at this;unfold bc;omega
theorem Fo(W:av ts ws ss)(S:cQ ts ws a):eR ts (bc a):=by
 have d:=sG W S;have h1:=sH W S;refine⟨by omega,λf h=>?_⟩;have e:=sw (y:=" if ") (w:=("if" : Str).cps.toList) (c:=32) (ws:=("say" : Str)::a) (by rfl') (by rfl') (by simp) (λx hx=>(d x hx).sp) (λx hx z=>(d x hx).nif (Str.ext' (XY.mp z)));rw[←zS] at e;unfold bc at h;rw[e,gN] at h;unfold iE at h;rw[gi (l:=("say" : Str)::a) (by simp) (λx hx=>(d x hx).sp),List.tail_cons] at h;cases b:bm ts a with
 |false=>rw[b] at h;cases h
 |true=>
  rw[b] at h;cases h;exact yJ W (r:=(a,[])) ⟨S.atom,YL _,λk c hk=>by cases hk⟩
theorem cQ.fact(W:av ts ws ss)(S:cQ ts ws a):mF ts a=true:=by
 unfold mF;rw[(S.atom (ss:=ss)).b W (.inl rfl),Bool.true_and];obtain⟨w,r,rfl,hw,hl,c⟩:=S;rw[List.tail_cons,List.all_map,XE];exact λx hx=>iL.2 (c x hx)
theorem yK:∀{a b:Zf},bF (aa a) (aa b)=true->a=b
 |[],[],_=>rfl
 |[],_::_,h=>by rw[show aa []=[] from rfl,show ∀x (l:Zf),aa (x::l)=.str x::aa l from λ_ _=>rfl,bF] at h<;>first | cases h | simp
 |_::_,[],h=>by rw[show aa []=[] from rfl,show ∀x (l:Zf),aa (x::l)=.str x::aa l from λ_ _=>rfl,bF] at h<;>first | cases h | simp
 |x::a,y::b,h=>by
  rw[show ∀x (l:Zf),aa (x::l)=.str x::aa l from λ_ _=>rfl,show ∀x (l:Zf),aa (x::l)=.str x::aa l from λ_ _=>rfl,bF,YU] at h;rw[show x=y from iJ.1 h.1,yK h.2]
theorem yL{sd:List (List Str)}:cp (ak a) (sd.map ak)=decide (a∈sd):=by
 unfold cp;rw[List.any_map,Bool.eq_iff_iff,List.any_eq_true,XM];constructor
 ·rintro⟨b,hb,e⟩
  have e:aP (.tup (aa b)) (.tup (aa a))=true:=e;rw[aP] at e;exact yK e▸hb
 ·intro h
  refine⟨a,h,?_⟩;show aP (ak a) (ak a)=true;exact dw _ (by show aT (aa a)=true;exact bK a)
end
inductive Item
 |say (a:Zf) | rule (r:RB)
def Item.text:Item->Str
 |.say a=>bc a
 |.rule r=>a8 r
def Item.ok(ts ws ss:Zf):Item->Prop
 |.say a=>cQ ts ws a
 |.rule r=>bI ts ws ss r
def ah:List Item->List (List Str)
 |[]=>[]
 |.say a::l=>a::ah l
 |.rule _::l=>ah l
def ae:List Item->List RB
 |[]=>[]
 |.say _::l=>ae l
 |.rule r::l=>r::ae l
section
variable {ts ws ss:Zf}
theorem xj{n:Nat}{k:Nat}(h:n≠k):cU n (k:Int)=false:=by
 unfold cU;rw[aP,ZP];omega
theorem take_all(W:av ts ws ss):∀{b_:List Item}{st:List (List Str)×List RB},(∀i∈b_,i.ok ts ws ss)->(st.1++ah b_).Nodup->(st.1++ah b_).length<=60->(st.2++ae b_).length<=30 ->
  dN ts (b_.map Item.text) st=some (st.1++ah b_,st.2++ae b_)
 |[],st,_,_,_,_=>by simp[ah,ae,dN]
 |.say a::b_,st,ok,nd,d,f=>by
  have S:cQ ts ws a:=ok _ (.head _);have g:=sG W S;have e1:Txt.split (bc a) " " = ("say" : Str)::a:=gi (by simp) λx hx=>(g x hx).sp
  have h1:a∉st.1:=λz=>by
   rw[ah,List.nodup_append] at nd;exact nd.2.2 a z a (.head _) rfl
  have tk:dM ts (bc a) st=some (st.1++[a],st.2):=by
   unfold dM;rw[e1];dsimp only;rw[show bV "say" "say" = true by decide,cond_true];unfold zQ;rw[S.fact W,yL,ZO h1,show cU st.1.length 60=false from xj (k:=60) (by
    simp only[ah,ZJ,YI] at d;omega)]
   rfl
  rw[YK,dN];show(dM ts (bc a) st).bind _=_;rw[tk,XH,take_all W (b_:=b_) (st:=(st.1++[a],st.2)) (λi hi=>ok i (.tail _ hi)) (by simpa [ah] using nd) (by simpa [ah] using d) f];simp[ah,ae]
 |.rule r::b_,st,ok,nd,d,f=>by
  have R:bI ts ws ss r:=ok _ (.head _);obtain⟨b,e1⟩:∃b,Txt.split (a8 r) " " = ("rule" : Str)::b:=by
   rw[qz R];have j:∃b,gO r=("rule" : Str)::b:=by
    unfold gO;cases e:r.2 with
    |nil=>exact⟨_,rfl⟩
    |cons c l=>exact⟨_,rfl⟩
   obtain⟨b,e⟩:=j;exact⟨b,by rw[gi (by rw[e];simp) λx hx=>((nS W R).1 x hx).2.1,e]⟩
  have tk:dM ts (a8 r) st=some (st.1,st.2++[r]):=by
   unfold dM;rw[e1];dsimp only;rw[show bV "rule" "say" = false by decide,show bV "rule" "rule" = true by decide,cond_true,cond_false,C4 W R,XH,show cU st.2.length 30=false from xj (k:=30) (by
    simp only[ae,ZJ,YI] at f;omega)]
   rfl
  rw[YK,dN];show(dM ts (a8 r) st).bind _=_;rw[tk,XH,take_all W (b_:=b_) (st:=(st.1,st.2++[r])) (λi hi=>ok i (.tail _ hi)) nd d (by simpa [ae] using f)];simp[ah,ae]
theorem Item.short(W:av ts ws ss){i:Item}(h:i.ok ts ws ss):i.text.length<=400:=by
 cases i with
 |say a=>exact sH W h
 |rule r=>exact pj W h
theorem Item.pre(W:av ts ws ss){i:Item}(h:i.ok ts ws ss):eR ts i.text:=by
 cases i with
 |say a=>exact Fo W h
 |rule r=>exact C5 W h
theorem Item.nl(W:av ts ws ss){i:Item}(h:i.ok ts ws ss):10∉i.text.cps.toList:=by
 have s1:10∉(" " : Str).cps.toList:=by rfl'
 cases i with
 |say a=>
  intro z;rcases mem_join z with z | ⟨w,hw,z⟩
  ·exact s1 z
  ·exact(sG W h w hw).nl z
 |rule r=>
  intro z;have z:10∈(a8 r).cps.toList:=z;rw[qz h] at z;rcases mem_join z with z | ⟨w,hw,z⟩
  ·exact s1 z
  ·exact((nS W h).1 w hw).2.2 z
theorem nT(W:av ts ws ss):∀x∈("things" : Str)::ts,iG x:=λx hx=>by
 rcases ZY.1 hx with rfl | hx
 ·exact oH 'a' 'a'
 ·exact(W.tn x hx).word
theorem hJ(W:av ts ws ss):(au ts).length<=400:=by
 have:=di (n:=7) (l:=("things" : Str)::ts) λx hx=>by have:=(nT W x hx).len;omega
 have l:=W.tl;rw[YI] at this;unfold au;omega
theorem xK(W:av ts ws ss):kO (Txt.split (au ts) " ")=ak ts:=by
 have e:Txt.split (au ts) " " = ("things" : Str)::ts:=gi (by simp) λx hx=>(nT W x hx).sp
 rw[e];unfold kO;dsimp only;have l:=W.tl;rw[show aP (D.str "things") (.str "things")=true from by decide,show decide ((ts.length:Int)<1)=false from ZO 'c',show decide (6<(ts.length:Int))=false from ZO 'c',zR W.td,show decide ((ts.length:Int)<ts.length)=false from ZO 'c'];have:(ts.map bJ).all id=true:=by
  rw[List.all_map,XE];exact λx hx=>(W.tn x hx).is
 rw[this];rfl
def sJ(ts:Zf)(b_:List Item):Str:=Str.join "\n" (au ts::b_.map Item.text)
theorem xk{n:Nat}{y:Str}(hy:y.length=1):∀{l:Zf},(∀x∈l,x.length<=n)->(Str.join y l).length<=(n+1)*l.length
 |[],_=>YL _
 |[x],h=>by have:=h x (.head _);show x.length<=(n+1)*1;omega
 |x::z::r,h=>by
  have h1:=xk hy (l:=z::r) λz hz=>h z (.tail _ hz)
  have a:=h x (.head _);rw[bS,len_app,len_app,YI,Nat.mul_succ];omega
theorem pv(W:av ts ws ss){b_:List Item}(ok:∀i∈b_,i.ok ts ws ss):∀x∈au ts::b_.map Item.text,x.length<=400:=λx hx=>by
 rcases ZY.1 hx with rfl | hx
 ·exact hJ W
 ·obtain⟨i,hi,rfl⟩:=XU.1 hx
  exact Item.short W (ok i hi)
theorem tL(W:av ts ws ss){b_:List Item}(ok:∀i∈b_,i.ok ts ws ss)(nd:(ah b_).Nodup)(l:b_.length<=90)(a:(ah b_).length<=60)(b:(ae b_).length<=30):sB (sJ ts b_) ts (ah b_) (ae b_):=by
 refine⟨au ts,b_.map Item.text,?_,?_,⟨ZU (hJ W) 'a',by rw[ZF];omega,λz hz=>?_,xK W⟩,?_⟩
 ·have:=xk (n:=400) (y:="\n") (by rfl') (pv W ok)
  rw[YI,ZF] at this;unfold sJ;omega
 ·refine qr (c:=10) (t:=[]) (by rfl') (by simp) (by simp) λp hp=>?_
  rcases ZY.1 hp with rfl | hp
  ·intro z
   rcases mem_join z with z | ⟨w,hw,z⟩
   ·revert z;rfl'
   ·exact(nT W w hw).nl z
  ·obtain⟨i,hi,rfl⟩:=XU.1 hp
   exact Item.nl W (ok i hi)
 ·obtain⟨i,hi,rfl⟩:=XU.1 hz
  exact Item.pre W (ok i hi)
 ·have:=take_all W (b_:=b_) (st:=([],[])) ok (by simpa using nd) (by simpa using a) (by simpa using b)
  simpa using this
end
theorem eT{d:Type}{g:MH->Prop}{t:cC}{c:WT}{e:WE}{F:List D->MH->Prop}{em f:d->D}{ok:DS->Prop}{M0:MH}:∀{xs:List d}(acc:List D) (σ:DS) (M:MH),ok σ->af M0 M ->
  (∀x∈xs,∀σ acc rest M,ok σ->af M0 M->(∀a M',ok a->af M0 M'->ba g t c e F rest (acc++[f x]) a M')->ba g t c e F (em x::rest) acc σ M)->(∀M',af M0 M'->F (acc++xs.map f) M')->ba g t c e F (xs.map em) acc σ M
 |[],acc,σ,M,_,b,_,q=>by
  rw[List.map_nil,ZA] at q;exact q M b
 |x::xs,acc,σ,M,h,b,st,q=>st x ZW σ acc _ M h b λa M' h' j=>eT (acc++[f x]) a M' h' j (λy hy=>st y (.tail _ hy)) (by simpa using q)
theorem mG{n:Nat}{y:Str}:∀{l:Zf},(∀x∈l,x.length<=n)->(Str.join y l).length<=(n+y.length)*l.length
 |[],_=>YL _
 |[x],h=>by have:=h x (.head _);show x.length<=(n+y.length)*1;omega
 |x::z::r,h=>by
  have h1:=mG (y:=y) (l:=z::r) λz hz=>h z (.tail _ hz)
  have a:=h x (.head _);rw[bS,len_app,len_app,YI,Nat.mul_succ];omega
def ld:Ss:=#v[.ret (.bin .Add (.bin .Add (.var 2) (.str " if ")) (.mt .join (.str ", ") #v[.comp 1 (.fn 0 #v[.var 3]) (.nm 3) (.seq (.var 1)) .no]))]
def lf:Ss:=.cons (.ite (.cmp .Eq (.bi .len #v[.var 1]) (.int 0)) #v[.ret (.var 2)] .nil) ld
def jp:Ss:=.cons (.set 2 (.bin .Add (.str "rule ") (.mt .join (.str " ") #v[.var 0]))) lf
structure d8 (r:RB):Prop where
 ne:r.1≠[]
 hl:r.1.length<=20
 hx:∀x∈r.1,x.length<=20
 cl:r.2.length<=20
 cf:∀c∈r.2,c.fine
theorem CB.text_le{c:CB}(h:c.fine):c.text.length<=420:=by
 have:=di (n:=20) h.2.1
 have:=h.1
 have e:(Str.join " " c.words).length<=420:=by omega
 exact e
theorem jU{y:Str}{l:Zf}(h:l≠[]):(y ++ " ")++Str.join " " l=Str.join " " (y::l):=(jT (y:=" ") (a:=y) h).symm
def iH:aI:=λds M Q=>∃r:RB,ds=[ak r.1,.tup (r.2.map CB.d)]/\d8 r/\∀M',af M M'->Q (.str (a8 r)) M'
section
variable {cn:Cn}{C:Addr}
theorem xl{ds:List D}{M:MH}{Q:DK}(j:cn.F.getD 0 'e'=cO)(h:iH ds M Q):wSs cn jp (fin Q) (aC ["","",""] ds) M:=by
 obtain⟨⟨hd,a⟩,rfl,F,q⟩:=h;have l:=F.hl;have m:=di (n:=20) F.hx;dsimp only at l m;show wSs cn jp (fin Q) [some (ak hd),some (.tup (a.map CB.d)),none] M;unfold jp;simp! only[List.set,ak,bx];refine⟨trivial,c4 F.hl F.hx 'a',by rw[sizeLine_eq];show 5+_<=_;omega,?_⟩;have b:("rule " : Str)++Str.join " " hd=Str.join " " ("rule" :: hd):=by
  rw[←jU F.ne];rfl
 rw[show Str.ofString "rule " ++ Str.join (Str.ofString " ") hd=Str.join " " ("rule" :: hd) from b];have t:(Str.join " " (("rule" : Str)::hd)).length<=441:=by
  rw[←b,len_app];show 5+_<=_;omega
 unfold lf;simp! only[List.set];rw[1];cases a with
 |nil=>exact q M (af.refl M)
 |cons c a=>
  show aN false _ _;rw[aq];unfold ld;simp! only[List.set,j];refine⟨by rw[sizeLine_eq];show _+4<=_;omega,trivial,?_⟩;show ba _ _ _ _ _ ((c::a).map CB.d) [] _ M;refine eT (em:=CB.d) (f:=λc=>.str c.text) (M0:=M) (ok:=λσ=>∃v,σ=[some (.tup (aa hd)),some (.tup ((c::a).map CB.d)),some (.str (Str.join " " ("rule" :: hd))),v]) [] _ M ⟨none,rfl⟩ (af.refl _) ?_ ?_
  ·intro x hx σ acc rest M1 ⟨v,hv⟩ e1 k
   subst hv;exact⟨x,rfl,F.cf x hx,λM2 e2=>⟨trivial,k _ M2 ⟨_,rfl⟩ (e1.trans e2)⟩⟩
  ·intro M1 e1 p hp
   rw[YX,show(c::a).map (λc=>D.str c.text)=aa ((c::a).map CB.text) by simp[aa]];have e2:=e1.trans (af.new (o:=MO.lst (aa ((c::a).map CB.text))) hp);rw[ab];show aH (dm (aa ((c::a).map CB.text))) _;rw[bx];have hc:∀x∈(c::a).map CB.text,x.length<=420:=λx hx=>by
    obtain⟨c',h',rfl⟩:=XU.1 hx;exact CB.text_le (F.cf c' h')
   have hl:((c::a).map CB.text).length<=20:=by rw[ZF];exact F.cl
   have r:=mG (y:=", ") hc;have g:(Str.join ", " ((c::a).map CB.text)).length<=8440:=by
    have:(", " : Str).length=2:=by rfl'
    rw[this] at r;omega
   refine⟨c4 hl hc 'a',?_,q _ e2⟩;rw[sizeLine_eq,len_app];show _+4+_<=_;have g:(Str.join (Str.ofString ", ") (List.map CB.text (c::a))).length<=8440:=g;omega
end
def jV:Ss:=#v[.ret (.mt .join (.str "\n") #v[.var 1])]
def jW:Ss:=.cons (.expr (.mt .extend (.var 1) #v[.comp 1 (.fn 0 #v[.ix (.var 2) (.int 0),.ix (.var 2) (.int 1)]) (.nm 2) (.seq (.fld (.var 0) "rules")) .no])) jV
def fv:Ss:=.cons (.expr (.mt .extend (.var 1) #v[.comp 1 (.bin .Add (.str "say ") (.mt .join (.str " ") #v[.var 2])) (.nm 2) (.seq (.fld (.var 0) "said")) .no])) jW
def hU:Ss:=.cons (.set 1 (.lst #v[.bin .Add (.str "things ") (.mt .join (.str " ") #v[.fld (.var 0) "things"])])) fv
def fw(a:Zf):Prop:=a≠[]/\a.length<=20/\∀x∈a,x.length<=20
def aQ(ts:Zf)(sd:List (List Str))(rs:List RB):List Str:=[au ts]++sd.map bc++rs.map a8
structure qA (ts:Zf) (sd:List (List Str)) (rs:List RB):Prop where
 t:fw ts
 s:∀a∈sd,fw a
 r:∀x∈rs,d8 x
 ls:sd.length<=100
 lr:rs.length<=100
def iM(C:Addr):aI:=λds M Q=>∃(b:Addr) (ts:Zf) (sd:List (List Str)) (rs:List RB),ds=[.ref b]/\M b=some (.ins C (fu ts sd rs))/\qA ts sd rs/\∀M',af M M'->Q (.str (Str.join "\n" (aQ ts sd rs))) M'
theorem fw.one{y:Str}{a:Zf}(h:fw a)(hy:y.length<=20):(Str.join " " (y::a)).length<=441:=by
 have:=di (n:=20) (l:=y::a) λx hx=>by
  rcases ZY.1 hx with rfl | hx
  ·exact hy
  ·exact h.2.2 x hx
 have:=h.2.1
 rw[YI] at *;omega
theorem d8.le{r:RB}(F:d8 r):(a8 r).length<=10000:=by
 have f:=fw.one (y:="rule") (a:=r.1) ⟨F.ne,F.hl,F.hx⟩ (by rfl');unfold a8;cases e:r.2 with
 |nil=>dsimp only;omega
 |cons c g=>
  dsimp only;rw[←e,len_app,len_app];have b:=mG (y:=", ") (l:=r.2.map CB.text) (n:=420) λx hx=>by
   obtain⟨c',h',rfl⟩:=XU.1 hx;exact CB.text_le (F.cf c' h')
  have d:(", " : Str).length=2:=by rfl'
  have j:(" if " : Str).length=4:=by rfl'
  rw[d,ZF] at b
  have:=F.cl
  omega
section
variable {cn:Cn}{C:Addr}
theorem uY{ds:List D}{M:MH}{Q:DK}(j:∀f∈jO,cn.O C f)(P:cn.F.getD 0 'e'=iH)(h:iM C ds M Q):wSs cn hU (fin Q) (aC ["",""] ds) M:=by
 obtain⟨b,ts,sd,rs,rfl,c,F,q⟩:=h;show wSs cn hU (fin Q) [↑b,none] M;have R:List.lookup ("things" : Str) (fu ts sd rs)=some (D.tup (aa ts)):=rfl;have T:List.lookup ("said" : Str) (fu ts sd rs)=some (D.tup (sd.map ak)):=rfl;have U:List.lookup ("rules" : Str) (fu ts sd rs)=some (D.tup (rs.map bn)):=rfl;have lt:=F.t.2.1;unfold hU;simp! only[List.set,c,R,bx];have l2:=di (n:=20) F.t.2.2;refine⟨trivial,j _ (by rfl'),c4 F.t.2.1 F.t.2.2 'a',by rw[sizeLine_eq];show 7+_<=_;omega,?_⟩;intro p hp;have V:("things " : Str)++Str.join " " ts=au ts:=by
  unfold au;rw[←jU F.t.1];rfl
 rw[show Str.ofString "things " ++ Str.join (Str.ofString " ") ts=au ts from V];have n0:b≠p:=λz=>by rw[z,hp] at c;cases c
 have E:af M (ad M p (.lst (aa [au ts]))):=af.new hp;have G:ad M p (.lst (aa [au ts])) p=some (.lst (aa [au ts])):=ab;show wSs cn fv (fin Q) [↑b,↑p] (ad M p (.lst (aa [au ts])));generalize ad M p (.lst (aa [au ts]))=M1 at *;have W:=E _ _ c;unfold fv;simp! only[List.set,W,T];refine⟨by rw[G];rfl,j _ (by rfl'),?_⟩;refine eT (em:=ak) (f:=λa=>.str (bc a)) (M0:=M1) (ok:=λσ=>∃v,σ=[↑b,↑p,v]) [] _ M1 ⟨none,rfl⟩ (af.refl _) ?_ ?_
 ·intro a ha σ acc rest M2 ⟨v,hv⟩ e2 k
  subst hv;have S:=F.s a ha;have l3:=di (n:=20) S.2.2;have l4:=S.2.1;show _/\aH (dm (aa a)) _;rw[bx];refine⟨trivial,c4 S.2.1 S.2.2 'a',by rw[sizeLine_eq];show 4+_<=_;omega,trivial,?_⟩;have Y:("say " : Str)++Str.join " " a=bc a:=by
   unfold bc;rw[←jU S.1];rfl
  rw[show Str.ofString "say " ++ Str.join (Str.ofString " ") a=bc a from Y];exact k _ M2 ⟨_,rfl⟩ e2
 intro M2 e2 l Z;rw[YX,show sd.map (λa=>D.str (bc a))=aa (sd.map bc) by simp[aa]];have I:=af.new (o:=MO.lst (aa (sd.map bc))) Z;have RX:=I _ _ (e2 _ _ G);have RY:ad M2 l (.lst (aa (sd.map bc))) l=some (.lst (aa (sd.map bc))):=ab;have x3:=E.trans (e2.trans I);generalize ad M2 l (.lst (aa (sd.map bc)))=m at *;rw[RX,RY];dsimp only;have ls:=F.ls;have lr:=F.lr;refine⟨by rw[sizeLine_eq];simp[aa];omega,?_⟩;rw[show aa [au ts]++aa (sd.map bc)=aa ([au ts]++sd.map bc) by simp[aa]];have J:af M (ad m p (.lst (aa ([au ts]++sd.map bc)))):=af.over x3 hp;have K:ad m p (.lst (aa ([au ts]++sd.map bc))) p=some (.lst (aa ([au ts]++sd.map bc))):=ab;generalize ad m p (.lst (aa ([au ts]++sd.map bc)))=L at *;have b4:=J _ _ c;unfold jW;simp! only[List.set,b4,U,P];refine⟨by rw[K];rfl,j _ (by rfl'),?_⟩;refine eT (em:=bn) (f:=λr=>.str (a8 r)) (M0:=L) (ok:=λσ=>∃v,σ=[↑b,↑p,v]) [] _ L ⟨none,rfl⟩ (af.refl _) ?_ ?_
 ·intro r u σ acc rest A ⟨v,hv⟩ g k
  subst hv;exact⟨r,rfl,F.r r u,λd e6=>⟨trivial,k _ d ⟨_,rfl⟩ (g.trans e6)⟩⟩
 intro A g B KM;rw[YX,show rs.map (λr=>D.str (a8 r))=aa (rs.map a8) by simp[aa]];have N:=af.new (o:=MO.lst (aa (rs.map a8))) KM;have RZ:=N _ _ (g _ _ K);have R0:ad A B (.lst (aa (rs.map a8))) B=some (.lst (aa (rs.map a8))):=ab;have x6:=J.trans (g.trans N);generalize ad A B (.lst (aa (rs.map a8)))=d at *;rw[RZ,R0];dsimp only;refine⟨by rw[sizeLine_eq];simp[aa];omega,?_⟩;rw[show aa ([au ts]++sd.map bc)++aa (rs.map a8)=aa (aQ ts sd rs) by simp[aa,aQ]];have x7:af M (ad d p (.lst (aa (aQ ts sd rs)))):=af.over x6 hp;have p7:ad d p (.lst (aa (aQ ts sd rs))) p=some (.lst (aa (aQ ts sd rs))):=ab;generalize ad d p (.lst (aa (aQ ts sd rs)))=M7 at *;unfold jV;simp! only[List.set,p7,aU,bx];refine⟨trivial,c4 (n:=201) (k:=10000) ?_ ?_ 'a',q M7 x7⟩
 ·simp only[aQ,ZJ,ZF,YI,YS];omega
 ·intro x hx
  unfold aQ at hx;rcases YA.1 hx with hx | hx
  ·rcases YA.1 hx with hx | hx
   ·rw[XG] at hx
    subst hx
    have:=F.t.one (y:="things") (by rfl')
    unfold au;omega
   ·obtain⟨a,ha,rfl⟩:=XU.1 hx
    have:=(F.s a ha).one (y:="say") (by rfl')
    unfold bc;omega
  ·obtain⟨r,u,rfl⟩:=XU.1 hx
   exact(F.r r u).le
end
theorem Jr(m:Nat):cm 0 (m:Int)=(List.range m).map λ(i:Nat)=>D.int (i:Int):=by
 unfold cm;rw[show((m:Int)-0).toNat=m by omega];exact ZM λi _=>by rw[Int.zero_add]
theorem xm{g:MH->Prop}{t:cC}{c:WT}{e:WE}{F:List D->MH->Prop}{ok:DS->Prop}{P:Nat->List D->MH->Prop}{n:Nat}
  (st:∀i,i<n->∀σ acc rest M,ok σ->P i acc M->(∀a M' y,ok a->P (i+1) (acc++[y]) M'->ba g t c e F rest (acc++[y]) a M')->ba g t c e F (⇑i::rest) acc σ M) (q:∀acc M,P n acc M->F acc M):
  ∀(j i:Nat) (acc:List D) (σ:DS) (M:MH),i+j=n->ok σ->P i acc M->ba g t c e F ((List.range' i j).map λ(i:Nat)=>D.int (i:Int)) acc σ M
 |0,i,acc,σ,M,b,h,hp=>by
  have:i=n:=by omega
  subst this;exact q acc M hp
 |j+1,i,acc,σ,M,b,h,hp=>by
  rw[List.range'_succ,YK];exact st i 'c' σ acc _ M h hp λa M' y h' d=>xm st q j (i+1) (acc++[y]) a M' 'c' h' d
theorem lg{g:MH->Prop}{t:cC}{c:WT}{e:WE}{F:List D->MH->Prop}{ok:DS->Prop}(P:Nat->List D->MH->Prop){n:Nat}{σ:DS}{M:MH}(h:ok σ)(hp:P 0 [] M)
  (st:∀i,i<n->∀σ acc rest M,ok σ->P i acc M->(∀a M' y,ok a->P (i+1) (acc++[y]) M'->ba g t c e F rest (acc++[y]) a M')->ba g t c e F (⇑i::rest) acc σ M) (q:∀acc M,P n acc M->F acc M):
  ba g t c e F (cm 0 (n:Int)) [] σ M:=by
 rw[Jr,List.range_eq_range'];exact xm st q n 0 [] σ M 'c' h hp
theorem xn{g:MH->Prop}{t:cC}{c:WS}{E:dH}{P:Nat->DS->MH->Prop}{n:Nat}{b:Int}
  (st:∀i,i<n->∀σ rest M,P i σ M->(∀a M',P (i+1) a M'->cF g t c E rest a M')->cF g t c E (.int (b+(i:Int))::rest) σ M) (q:∀σ M,P n σ M->E.nx σ M):
  ∀(j i:Nat) (σ:DS) (M:MH),i+j=n->P i σ M->cF g t c E ((List.range' i j).map λ(i:Nat)=>D.int (b+(i:Int))) σ M
 |0,i,σ,M,d,hp=>by
  have:i=n:=by omega
  subst this;exact q σ M hp
 |j+1,i,σ,M,d,hp=>by
  rw[List.range'_succ,YK];exact st i 'c' σ _ M hp λa M' f=>xn st q j (i+1) a M' 'c' f
theorem tM{g:MH->Prop}{t:cC}{c:WS}{E:dH}(P:Nat->DS->MH->Prop){a b:Int}{σ:DS}{M:MH}(hp:P 0 σ M)
  (st:∀i,i<(b-a).toNat->∀σ rest M,P i σ M->(∀d M',P (i+1) d M'->cF g t c E rest d M')->cF g t c E (.int (a+(i:Int))::rest) σ M) (q:∀σ M,P (b-a).toNat σ M->E.nx σ M):
  cF g t c E (cm a b) σ M:=by
 unfold cm;rw[List.range_eq_range'];exact xn st q _ 0 σ M 'c' hp
structure Bx (B:MH) (p:Addr) (M:MH):Prop where
 ext:af B M
 no:B p=none
 at_:∃b:Int,M p=some (.lst [.int b])
theorem Bx.make{M:MH}{p:Addr}{b:Int}(h:M p=none):Bx M p (ad M p (.lst [.int b])):=⟨af.new h,h,_,ab⟩
theorem Bx.take{B M:MH}{p:Addr}(h:Bx B p M)(b:Int):Bx B p (ad M p (.lst [.int b])):=⟨af.over h.ext h.no,h.no,_,ab⟩
theorem Bx.up{B M M':MH}{p:Addr}(h:Bx B p M)(e:af M M'):Bx B p M':=⟨h.ext.trans e,h.no,let⟨b,q⟩:=h.at_;⟨b,e _ _ q⟩⟩
theorem Bx.new{B M:MH}{p q:Addr}{o:MO}(h:Bx B p M)(e:M q=none):Bx B p (ad M q o):=h.up (af.new e)
theorem Bx.ne{B M:MH}{p q:Addr}(h:Bx B p M)(e:M q=none):q≠p:=λz=>by
 obtain⟨b,hb⟩:=h.at_;rw[z,hb] at e;cases e
theorem Bx.put{B M:MH}{p q:Addr}{o:MO}(h:Bx B p M)(e:B q=none)(n:q≠p):Bx B p (ad M q o):=⟨af.over h.ext e,h.no,let⟨b,z⟩:=h.at_;⟨b,by rw[aZ n.symm];exact z⟩⟩
theorem Bx.base{B M:MH}{p q:Addr}(h:Bx B p M)(e:M q=none):B q=none:=by
 cases z:B q with
 |none=>rfl
 |some o=>rw[h.ext _ _ z] at e;cases e
def cV:aI:=λds M Q=>∃(B:MH) (p:Addr) (m:Nat),ds=[.ref p,⇑m]/\Bx B p M/\(0<m/\m<1000)/\∀(v:Nat) (M':MH),v<m->Bx B p M'->(∀a,a≠p->M' a=M a)->Q (⇑v) M'
theorem Hb{cn:Cn}{ds:List D}{M:MH}{Q:DK}(h:cV ds M Q):wSs cn oB (fin Q) (aC ["","","",""] ds) M:=by
 obtain⟨B,p,m,rfl,hb,hm,q⟩:=h;obtain⟨b,e⟩:=hb.at_;refine Fm ⟨p,b,m,rfl,e,⟨by omega,by omega⟩,?_⟩;have c:0<=b%(m:Int):=Int.emod_nonneg _ 'c';have h1:b%(m:Int)<m:=Int.emod_lt_of_pos _ 'c'
 have:=q (b%(m:Int)).toNat _ 'c' (hb.take (b / (m:Int))) λa ha=>aZ ha
 rw[Int.toNat_of_nonneg c] at this;exact this
def qB(x:Str):Prop:=(1<=x.length/\x.length<=6)/\∀c∈x.cps.toList,c∈bB.cps.toList
theorem xo:∀n,n<26->bB.cps.toList[n]?=some (97+n):=by rfl'
theorem yM:∀n,n<26->fo.cps.toList[n]?=some (65+n):=by rfl'
theorem nU{n:Nat}(h:n<26):97+n∈bB.cps.toList:=YR (xo n h)
def qC(s k:Nat):Str:=Txt.mul ⟨#[97+(s+7*(k / 6))%26]⟩ ((1+(k+s)%6:Nat):Int)
theorem BC(s k:Nat):(qC s k).cps.toList=List.replicate (1+(k+s)%6) (97+(s+7*(k / 6))%26):=by
 unfold qC;rw[PyProof.Rows.mul_one_list];rfl
theorem qD(s k:Nat):(qC s k).length=1+(k+s)%6:=by rw[←a9,BC,List.length_replicate]
theorem C6(s k:Nat):qB (qC s k):=by
 refine⟨by rw[qD];omega,λc hc=>?_⟩;rw[BC] at hc;rw[List.eq_of_mem_replicate hc];exact nU (Nat.mod_lt _ 'a')
theorem jX{c d:Type}{f:c->d}:∀{l:List c},l.Nodup->(∀a∈l,∀b∈l,f a=f b->a=b)->(l.map f).Nodup
 |[],_,_=>List.nodup_nil
 |a::l,nd,h=>by
  rw[YM] at nd;rw[YK,YM];refine⟨λz=>?_,jX nd.2 λx hx y hy=>h x (.tail _ hx) y (.tail _ hy)⟩;obtain⟨b,hb,e⟩:=XU.1 z;exact nd.1 (h b (.tail _ hb) a (.head _) e▸hb)
theorem Fp(s:Nat){m:Nat}(h:m<=6):((List.range m).map (qC s)).Nodup:=jX List.nodup_range λa ha b hb e=>by
 rw[ZT] at ha hb
 have:=congrArg Str.length e
 rw[qD,qD] at this;omega
def putN(base:Str)(at_ s k:Nat):Str:=Txt.slice base none (some (at_:Int))++⟨#[97+(s+5*k)%26]⟩++Txt.slice base (some ((at_:Int)+1)) none
theorem sK{base:Str}{at_:Nat}(h:at_<base.length)(s k:Nat):(putN base at_ s k).cps.toList=base.cps.toList.take at_++(97+(s+5*k)%26)::base.cps.toList.drop (at_+1):=by
 unfold putN;rw[beq_iff_eq.mp (PyProof.Rows.slice_closes_toL (x:=base) (j:=(at_:Int)) 'c' 'c'),PyProof.Rows.slice_from_eq (b:=base.length) 'c' 'c' rfl];rw[bM,bM];have e1:((at_:Int)-0).toNat=at_:=by omega
 have e2:((at_:Int)+1).toNat=at_+1:=by omega
 have a:((base.length:Int)-((at_:Int)+1)).toNat=base.length-(at_+1):=by omega
 rw[e1,e2,a,List.take_of_length_le (l:=List.drop (at_+1) base.cps.toList) (by rw[List.length_drop,a9];omega)];simp
theorem xp{base:Str}{at_:Nat}(h:at_<base.length)(hb:qB base)(s k:Nat):qB (putN base at_ s k):=by
 have e:=sK h s k;refine⟨?_,λc hc=>?_⟩
 ·have:(putN base at_ s k).length=base.length:=by
   rw[←a9,e,ZJ,YI,YQ,List.length_drop,a9];omega
  rw[this];exact hb.1
 ·rw[e,YA,ZY] at hc
  rcases hc with hc | rfl | hc
  ·exact hb.2 c (XZ hc)
  ·exact nU (Nat.mod_lt _ 'a')
  ·exact hb.2 c (List.mem_of_mem_drop hc)
theorem Fq{base:Str}{at_:Nat}(h:at_<base.length)(s:Nat){m:Nat}(hm:m<=6):((List.range m).map (putN base at_ s)).Nodup:=jX List.nodup_range λa ha b hb e=>by
 rw[ZT] at ha hb;have:(putN base at_ s a).cps.toList[at_]?=(putN base at_ s b).cps.toList[at_]?:=by rw[e]
 have c:(base.cps.toList.take at_).length=at_:=by rw[YQ,a9];omega
 rw[sK h,sK h,ZH 'c',ZH 'c',c,Nat.sub_self] at this
 have:=Yi this
 omega
def oI:aI:=λds M Q=>∃(B:MH) (p:Addr) (m:Nat),ds=[.ref p,⇑m]/\Bx B p M/\(1<=m/\m<=6)/\∀(ns:Zf) (r:Addr) (M':MH),ns.length=m->ns.Nodup->(∀x∈ns,qB x)->Bx B p M'->M' r=some (.lst (aa ns))->Q (.ref r) M'
def gj:Ss:=#v[.ret (.comp 1 (.bin .Add (.bin .Add (.sl (.var 7) .no (.yes (.var 6))) (.ix (.var 2) (.bin .Mod (.bin .Add (.var 4) (.bin .Mult (.int 5) (.var 8))) (.int 26)))) (.sl (.var 7) (.yes (.bin .Add (.var 6) (.int 1))) .no)) (.nm 8) (.rg1 #v[.var 1]) .no)]
def lh:Ss:=.cons (.set 7 (.mt .join (.str "") #v[.comp 1 (.ix (.var 2) (.fn 0 #v[.var 0,.int 26])) (.nm 8) (.rg1 #v[.var 5]) .no])) gj
def gk:Ss:=.cons (.set 6 (.fn 0 #v[.var 0,.var 5])) lh
def li:Ss:=.cons (.set 5 (.bin .Add (.int 1) (.fn 0 #v[.var 0,.int 6]))) gk
def gm:Ss:=.cons (.ite (.cmp .Eq (.var 3) (.int 0)) #v[.ret (.comp 1 (.bin .Mult (.ix (.var 2) (.bin .Mod (.bin .Add (.var 4) (.bin .Mult (.int 7) (.bin .FloorDiv (.var 8) (.int 6)))) (.int 26))) (.bin .Add (.int 1) (.bin .Mod (.bin .Add (.var 8) (.var 4)) (.int 6)))) (.nm 8) (.rg1 #v[.var 1]) .no)] .nil) li
def lj:Ss:=.cons (.set 4 (.fn 0 #v[.var 0,.int 26])) gm
def lm:Ss:=.cons (.set 3 (.fn 0 #v[.var 0,.int 3])) lj
def jq:Ss:=.cons (.set 2 (.str "abcdefghijklmnopqrstuvwxyz")) lm
theorem qE{n:Nat}{i:Int}(e:i=(n:Int))(h:n<26):bv bB.cps.toList i=some (97+n):=by subst e;exact cY (xo n h)
theorem Fr{n:Nat}{i:Int}(e:i=(n:Int))(h:n<26):bv fo.cps.toList i=some (65+n):=by subst e;exact cY (yM n h)
theorem nV:bB.length<=sizeLine:=by rw[sizeLine_eq];show 26<=_;omega
theorem C7:fo.length<=sizeLine:=by rw[sizeLine_eq];show 26<=_;omega
theorem uH:∀l:List Nat,(Str.join "" (l.map λc=>(⟨#[c]⟩:Str))).cps.toList=l
 |[]=>rfl
 |[c]=>rfl
 |c::d::l=>by
  have:=uH (d::l)
  rw[YK] at this ⊢;rw[YK,bS,bM,bM,this];rfl
section
variable {cn:Cn}{ds:List D}{M:MH}{Q:DK}
theorem C8(b:cn.F.getD 0 'e'=cV)(h:oI ds M Q):wSs cn jq (fin Q) (aC ["","","","","","","",""] ds) M:=by
 obtain⟨B,p,m,rfl,hb,hm,q⟩:=h;show wSs cn jq (fin Q) [↑p,~~~m,none,none,none,none,none,none] M;unfold jq lm;simp! only[List.set,b];refine⟨B,p,3,rfl,hb,by decide,λa M1 _ C _=>?_⟩;unfold lj;simp! only[List.set,b];refine⟨B,p,26,rfl,C,by decide,λs M2 N u _=>?_⟩;show wSs cn gm (fin Q) [↑p,~~~m,some (.str bB),~~~a,~~~s,none,none,none] M2;unfold gm;simp! only[List.set];refine⟨⟨rfl,rfl,YL _⟩,pE (λ_=>?_) λ_=>?_⟩
 ·refine⟨⟨by omega,by omega⟩,?_⟩
  refine lg (λi acc M'=>acc=aa ((List.range i).map (qC s))/\M'=M2) (ok:=λσ=>∃v,σ=[↑p,~~~m,some (.str bB),~~~a,~~~s,none,none,none,v]) ⟨none,rfl⟩ ⟨rfl,rfl⟩ ?_ ?_
  ·rw[0];refine⟨⟨by decide,by decide⟩,.inl ⟨by decide,by decide⟩,by decide,nV,?_⟩;have hx:=qE (n:=(s+7*(i / 6))%26) (i:=((s:Int)+7*((i:Int) / 6))%26) 'c' (Nat.mod_lt _ 'a');rw[hx];have hn:(1:Int)+((i:Int)+(s:Int))%6=((1+(i+s)%6:Nat):Int):=by omega
   refine⟨by decide,?_⟩;rw[hn];refine⟨⟨by omega,by omega,?_⟩,trivial,k _ _ _ ⟨_,rfl⟩ ⟨?_,rfl⟩⟩
   ·show 1*_<=_;omega
   ·rw[e1,List.range_succ,ZK];simp[aa,qC]
  ·intro acc M' ⟨e1,e2⟩ r f
   subst e1 e2;exact q _ r _ (by simp) (Fp s hm.2) (λx hx=>by obtain⟨k,_,rfl⟩:=XU.1 hx;exact C6 s k) (u.new f) ab
 ·unfold li
  simp! only[List.set,b];refine⟨B,p,6,rfl,u,by decide,λz E hz G _=>?_⟩;show wSs cn gk (fin Q) [↑p,~~~m,some (.str bB),~~~a,~~~s,some (.int ((1:Int)+(z:Int))),none,none] E;unfold gk;rw[show(1:Int)+(z:Int)=((1+z:Nat):Int) by omega];simp! only[List.set,b];refine⟨B,p,1+z,rfl,G,by omega,λt O ht I _=>?_⟩;unfold lh;simp! only[List.set,b];refine⟨trivial,⟨by omega,by omega⟩,?_⟩;refine lg (λi acc M'=>∃l:List Nat,l.length=i/\(∀c∈l,c∈bB.cps.toList)/\acc=aa (l.map λc=>(⟨#[c]⟩:Str))/\Bx B p M') (ok:=λσ=>∃v,σ=[↑p,~~~m,some (.str bB),~~~a,~~~s,some (.int ((1+z:Nat):Int)),~~~t,none,v]) ⟨none,rfl⟩ ⟨[],rfl,(λc hc=>nomatch hc),rfl,I⟩ ?_ ?_
  ·intro i hi σ acc rest M' ⟨v,hv⟩ ⟨l,hl,hc,e1,J⟩ k
   subst hv;refine⟨B,p,26,rfl,J,by decide,λd j hd o _=>?_⟩;refine⟨nV,?_⟩;rw[qE rfl hd];refine⟨trivial,k _ _ _ ⟨_,rfl⟩ ⟨l++[97+d],by simp[hl],λc D_=>?_,?_,o⟩⟩
   ·rcases YA.1 D_ with D_ | D_
    ·exact hc c D_
    ·rw[XG.1 D_];exact nU hd
   ·rw[e1];simp[aa]
  ·intro acc j ⟨l,hl,hc,e1,o⟩ r f
   subst e1;rw[ab];show aH (dm (aa (l.map λc=>(⟨#[c]⟩:Str)))) _;rw[bx];have e:(Str.join "" (l.map λc=>(⟨#[c]⟩:Str))).cps.toList=l:=uH l;have le:(Str.join "" (l.map λc=>(⟨#[c]⟩:Str))).length=1+z:=by rw[←a9,e,hl]
   refine⟨c4 (n:=6) (k:=1) (by rw[ZF,hl];omega) (λx hx=>by obtain⟨c,_,rfl⟩:=XU.1 hx;exact YE 1) 'a',?_⟩;have y:qB (Str.join "" (l.map λc=>(⟨#[c]⟩:Str))):=⟨by rw[le];omega,by rw[e];exact hc⟩;show wSs cn gj (fin Q) [↑p,~~~m,some (.str bB),~~~a,~~~s,some (.int ((1+z:Nat):Int)),~~~t,some (.str (Str.join "" (l.map λc=>(⟨#[c]⟩:Str))))] _;have K:Bx B p (ad j r (.lst (aa (l.map λc=>(⟨#[c]⟩:Str))))):=o.new f;generalize ad j r (.lst (aa (l.map λc=>(⟨#[c]⟩:Str))))=L at *;generalize Str.join "" (l.map λc=>(⟨#[c]⟩:Str))=base at *;unfold gj;simp! only[List.set];refine⟨⟨by omega,by omega⟩,?_⟩;have g:t<base.length:=by omega
   refine lg (λi acc M'=>acc=aa ((List.range i).map (putN base t s))/\M'=L) (ok:=λσ=>∃v,σ=[↑p,~~~m,some (.str bB),~~~a,~~~s,some (.int ((1+z:Nat):Int)),~~~t,some (.str base),v]) ⟨none,rfl⟩ ⟨rfl,rfl⟩ ?_ ?_
   ·rw[0];have bl:base.length<=sizeLine:=by rw[sizeLine_eq];omega
    refine⟨bl,.inl ⟨by decide,by decide⟩,by decide,nV,?_⟩;have hx:=qE (n:=(s+5*i)%26) (i:=((s:Int)+5*(i:Int))%26) 'c' (Nat.mod_lt _ 'a');rw[hx];have P:=sK g s i;have A:=(xp g y s i).1.2;unfold putN at A;rw[len_app,len_app] at A;refine⟨by rw[sizeLine_eq];omega,bl,by rw[sizeLine_eq,len_app];omega,trivial,k _ _ _ ⟨_,rfl⟩ ⟨?_,rfl⟩⟩;rw[e1,List.range_succ,ZK];simp[aa,putN]
   ·intro acc M' ⟨e1,e2⟩ r f
    subst e1 e2;exact q _ r _ (by simp) (Fq g s hm.2) (λx hx=>by obtain⟨k,_,rfl⟩:=XU.1 hx;exact xp g y s k) (K.new f) ab
end
def hV:Ss:=#v[.ret (.comp 1 (.var 2) (.nm 2) (.seq (.var 0)) (.yes (.cmp .NotIn (.var 2) (.var 1))))]
def ku:Ss:=.cons (.set 1 (.lst #v[.str "things",.str "say",.str "rule",.str "if",.str "not",.str "many",.str "first"])) hV
def ce(ns:Zf):List Str:=ns.filter λx=>!cw b9 x
def sL:aI:=λds M Q=>∃(r:Addr) (ns:Zf),ds=[.ref r]/\M r=some (.lst (aa ns))/\∀(q:Addr) (M':MH),af M M'->M q=none->M' q=some (.lst (aa (ce ns)))->Q (.ref q) M'
section
variable {cn:Cn}{ds:List D}{M:MH}{Q:DK}
theorem Fs(h:sL ds M Q):wSs cn ku (fin Q) (aC ["",""] ds) M:=by
 obtain⟨r,ns,rfl,g,q⟩:=h;show wSs cn ku (fin Q) [↑r,none] M;unfold ku;simp! only[List.set];intro p hp;show wSs cn hV (fin Q) [↑r,↑p] (ad M p (.lst (aa b9)));have e1:=af.new (o:=MO.lst (aa b9)) hp;have j:ad M p (.lst (aa b9)) p=some (.lst (aa b9)):=ab;have a:=e1 _ _ g;generalize ad M p (.lst (aa b9))=M1 at *;unfold hV;simp! only[List.set,a];refine iK (em:=D.str) (f:=λx=>cond (!cw b9 x) (some (D.str x)) none) (ok:=λσ=>∃v,σ=[↑r,↑p,v]) [] _ ⟨none,rfl⟩ ?_ ?_
 ·intro x hx σ acc rest ⟨v,hv⟩ k
  subst hv;show match aU (M1 p) with | some ds=>_ | none=>_
  rw[j];refine⟨⟨rfl,bK _,dB _⟩,?_⟩;show aN (!cw b9 x) _ _;cases b:!cw b9 x with
  |true=>rw[b] at k;exact⟨a,k _ ⟨_,rfl⟩⟩
  |false=>
   rw[b] at k;have k':=k _ ⟨some (.str x),rfl⟩;rw[cond_false,Option.toList_none,ZA] at k';exact⟨a,k'⟩
 intro d c;rw[YX,jN];refine q d _ (e1.trans (af.new c)) ?_ ab;cases z:M d with
 |none=>rfl
 |some o=>rw[e1 _ _ z] at c;cases c
end
structure cz (pw:Addr) (ts ws ss:Zf) (M:MH):Prop where
 at_:∃pt pq pz,M pw=some (.dic [(.inr "things",.ref pt),(.inr "words",.ref pq),(.inr "signs",.ref pz)])/\M pt=some (.lst (aa ts))/\M pq=some (.lst (aa ws))/\M pz=some (.lst (aa ss))
theorem cz.up{pw:Addr}{ts ws ss:Zf}{M M':MH}(h:cz pw ts ws ss M)(e:af M M'):cz pw ts ws ss M':=by
 obtain⟨pt,pq,pz,a,b,c,d⟩:=h;exact⟨pt,pq,pz,e _ _ a,e _ _ b,e _ _ c,e _ _ d⟩
def oJ:aI:=λds M Q=>∃(a:Addr) (ns:Zi),ds=[.ref a]/\M a=some (.rol (ns.map .int))/\∀(pw:Addr) (ts ws ss:Zf) (M':MH),af M M'->cz pw ts ws ss M'->av ts ws ss->Q (.ref pw) M'
def ln:Ss:=#v[.ret (.dct (.cons (.str "things") (.bin .Add (.var 2) (.bin .Mult (.lst #v[.str "a"]) (.bj .int #v[.cmp .Eq (.var 2) (.lst .nil)]))) (.cons (.str "words") (.bin .Add (.var 4) (.bin .Mult (.lst #v[.str "a"]) (.bj .int #v[.cmp .Eq (.var 4) (.lst .nil)]))) (.cons (.str "signs") (.var 7) .nil))))]
def gp:Ss:=.cons (.setC 7 1 (.ix (.var 6) (.bin .Mod (.bin .Add (.var 5) (.bin .Mult (.int 3) (.var 8))) (.int 26))) (.nm 8) (.rg1 #v[.int 10]) .no) ln
def lq:Ss:=.cons (.set 6 (.str "ABCDEFGHIJKLMNOPQRSTUVWXYZ")) gp
def lz:Ss:=.cons (.set 5 (.fn 0 #v[.var 3,.int 26])) lq
def lA:Ss:=.cons (.set 4 (.fn 1 #v[.fn 2 #v[.var 3,.int 4]])) lz
def lB:Ss:=.cons (.set 3 (.fn 3 #v[.var 0,.int 2])) lA
def lC:Ss:=.cons (.set 2 (.fn 1 #v[.fn 2 #v[.var 1,.bin .Add (.int 1) (.fn 0 #v[.var 1,.int 6])]])) lB
def jr:Ss:=.cons (.set 1 (.fn 3 #v[.var 0,.int 1])) lC
def mN(l:Zf):List Str:=l++(List.replicate (if bF (aa l) [] then 1 else 0:Int).toNat [("a" : Str)]).flatten
theorem nW(l:Zf):(l=[]/\mN l=[("a" : Str)])\/(l≠[]/\mN l=l):=by
 cases l with
 |nil=>exact .inl ⟨rfl,rfl⟩
 |cons x l=>
  refine .inr ⟨by simp,?_⟩;unfold mN;rw[show bF (aa (x::l)) []=false by rw[show aa (x::l)=.str x::aa l from rfl,bF]<;>simp];simp
theorem aName:dY "a":=⟨by rfl',by rfl',by rfl'⟩
theorem BD{ns:Zf}(h:∀x∈ns,qB x):∀x∈ce ns,dY x:=λx hx=>by
 unfold ce at hx;rw[List.mem_filter,XO] at hx;refine⟨(h x hx.1).1,(h x hx.1).2,λz=>?_⟩;rw[iL.2 z] at hx;cases hx.2
theorem xq{ns:Zf}(h:∀x∈ns,qB x):∀x∈mN (ce ns),dY x:=λx hx=>by
 rcases nW (ce ns) with⟨_,e⟩ | ⟨_,e⟩
 ·rw[e,XG] at hx;rw[hx];exact aName
 ·rw[e] at hx;exact BD h x hx
theorem yN{ns:Zf}{n:Nat}(h:ns.length<=n)(h1:1<=n):1<=(mN (ce ns)).length/\(mN (ce ns)).length<=n:=by
 rcases nW (ce ns) with⟨_,e⟩ | ⟨a,e⟩
 ·rw[e];simp;exact h1
 ·rw[e]
  refine⟨List.length_pos_iff.2 a,?_⟩
  have:=XQ (λx=>!cw b9 x) ns
  unfold ce;omega
theorem Hc{ns:Zf}(h:ns.Nodup):(mN (ce ns)).Nodup:=by
 rcases nW (ce ns) with⟨_,e⟩ | ⟨_,e⟩
 ·rw[e];simp
 ·rw[e];exact List.Pairwise.filter _ h
def fA(s k:Nat):Str:=⟨#[65+(s+3*k)%26]⟩
theorem xr(s:Nat):((List.range 10).map (fA s)).Nodup/\∀x∈(List.range 10).map (fA s),nQ x:=by
 refine⟨jX List.nodup_range λa ha b hb e=>?_,λx hx=>?_⟩
 ·rw[ZT] at ha hb
  have:(fA s a).cps.toList=(fA s b).cps.toList:=by rw[e]
  have:[65+(s+3*a)%26]=[65+(s+3*b)%26]:=this
  have:=(List.cons.inj this).1
  omega
 ·obtain⟨k,_,rfl⟩:=XU.1 hx
  exact⟨_,YR (yM _ (Nat.mod_lt _ 'a')),rfl⟩
theorem none_of{M M':MH}{p:Addr}(e:af M M')(h:M' p=none):M p=none:=by
 cases z:M p with
 |none=>rfl
 |some o=>rw[e _ _ z] at h;cases h
theorem C9(n:Nat):(List.replicate n [D.str "a"]).flatten=aa (List.replicate n [("a" : Str)]).flatten:=by
 unfold aa;rw[List.map_flatten,List.map_replicate];rfl
section
variable {cn:Cn}{ds:List D}{M:MH}{Q:DK}
theorem Hd{j:Nat}{σ:DS}{q:Addr}{l:Zf}{M:MH}{Q:DK}(t:σ[j]?=some (↑q))(hq:M q=some (.lst (aa l)))(hl:l.length<=100)(k:∀r M',af M M'->M r=none->M' r=some (.lst (aa (mN l)))->Q (.ref r) M'):
  wE cn (.bin .Add (.var j) (.bin .Mult (.lst (.cons (.str "a") .nil)) (.bj .int (.cons (.cmp .Eq (.var j) (.lst .nil)) .nil)))) σ M Q:=by
 simp! only[t];intro p hp;have e1:=af.new (o:=MO.lst [D.str "a"]) hp;have u:=e1 _ _ hq;have y:ad M p (MO.lst [D.str (Str.ofString "a")]) p=some (.lst [D.str "a"]):=ab;have z:af M (ad M p (MO.lst [D.str (Str.ofString "a")])):=e1;have A:ad M p (MO.lst [D.str (Str.ofString "a")]) q=some (.lst (aa l)):=u;generalize ad M p (MO.lst [D.str (Str.ofString "a")])=M1 at *;intro b B;have e2:=af.new (o:=MO.lst []) B;have d:=e2 _ _ A;have C:=e2 _ _ y;have E:ad M1 b (MO.lst []) b=some (.lst []):=ab;have F:=z.trans e2;generalize ad M1 b (MO.lst [])=M2 at *;show match aU (M2 q),aU (M2 b) with | some xs,some ys=>_ | _,_=>_
 rw[d,E];refine⟨⟨bK l,rfl,dB l⟩,?_⟩;show match M2 p with | some (.lst xs)=>_ | _=>_
 rw[C];have hb:0<=(if bF (aa l) [] then 1 else 0:Int)/\(if bF (aa l) [] then 1 else 0:Int)<=1:=by split<;>omega
 refine⟨⟨by omega,by omega,by rw[sizeLine_eq];show 1*_<=_;omega⟩,λc G=>?_⟩;rw[C9];have f:=af.new (o:=MO.lst (aa (List.replicate (if bF (aa l) [] then 1 else 0:Int).toNat [("a" : Str)]).flatten)) G;have I:=f _ _ d;have J:ad M2 c (MO.lst (aa (List.replicate (if bF (aa l) [] then 1 else 0:Int).toNat [("a" : Str)]).flatten)) c=some (MO.lst (aa (List.replicate (if bF (aa l) [] then 1 else 0:Int).toNat [("a" : Str)]).flatten)):=ab;have g:=F.trans f;generalize ad M2 c (MO.lst (aa (List.replicate (if bF (aa l) [] then 1 else 0:Int).toNat [("a" : Str)]).flatten))=m at *;show match m q,m c with | some (.lst xs),some (.lst ys)=>_ | _,_=>_
 rw[I,J];refine⟨?_,λK n=>?_⟩
 ·rw[sizeLine_eq]
  have:(aa (List.replicate (if bF (aa l) [] then 1 else 0:Int).toNat [("a" : Str)]).flatten).length<=1:=by
   simp[aa];omega
  have:(aa l).length=l.length:=by simp[aa]
  omega
 ·have:aa l++aa (List.replicate (if bF (aa l) [] then 1 else 0:Int).toNat [("a" : Str)]).flatten=aa (mN l):=by unfold mN;simp[aa]
  rw[this];exact k K _ (g.trans (af.new n)) (none_of g n) ab
theorem Da(P:cn.F.getD 0 'e'=cV)(R:cn.F.getD 1 'e'=sL)(S:cn.F.getD 2 'e'=oI)(T:cn.F.getD 3 'e'=oA)(h:oJ ds M Q):wSs cn jr (fin Q) (aC ["","","","","","","",""] ds) M:=by
 obtain⟨a,ns,rfl,U,q⟩:=h;show wSs cn jr (fin Q) [↑a,none,none,none,none,none,none,none] M;unfold jr;simp! only[List.set,T];refine⟨a,ns,1,rfl,U,λf Lz=>?_⟩;have b1:=Bx.make (b:=nL ns 1) Lz;generalize ad M f (.lst [.int (nL ns 1)])=M1 at *;unfold lC;simp! only[List.set,P,R,S];refine⟨M,f,6,rfl,b1,by decide,λv M2 hv b2 _=>?_⟩;refine⟨M,f,1+v,by rw[show(1:Int)+(v:Int)=((1+v:Nat):Int) by omega],b2,by omega,λA l M3 l1 R7 m b3 h3=>?_⟩;refine⟨l,A,rfl,h3,λq1 G e4 _ p=>?_⟩;have V:=b3.ext.trans e4;unfold lB;simp! only[List.set,T];refine⟨a,ns,2,rfl,V _ _ U,λc k_=>?_⟩;have b5:=Bx.make (b:=nL ns 2) k_;generalize ad G c (.lst [.int (nL ns 2)])=M5 at *;unfold lA;simp! only[List.set,R,S];refine⟨G,c,4,rfl,b5,by decide,λB r M6 l2 S6 O_ W h6=>?_⟩;refine⟨r,B,rfl,h6,λt M7 e7 R8 u=>?_⟩;have b7:=W.up e7;have R9:t≠c:=W.ne R8;unfold lz;simp! only[List.set,P];refine⟨G,c,26,rfl,b7,by decide,λs y hs Y same=>?_⟩;have R_:y t=some (.lst (aa (ce B))):=by rw[same _ R9];exact u
 have O9:y q1=some (.lst (aa (ce A))):=Y.ext _ _ p;have x8:af M y:=V.trans Y.ext;unfold lq;simp! only[List.set];show wSs cn gp (fin Q) [↑a,↑f,↑q1,↑c,↑t,~~~s,some (.str fo),none] y;unfold gp;simp! only[List.set];refine⟨⟨by decide,by decide⟩,?_⟩;refine lg (n:=10) (λi acc M'=>acc=aa ((List.range i).map (fA s))/\M'=y) (ok:=λσ=>∃v,σ=[↑a,↑f,↑q1,↑c,↑t,~~~s,some (.str fo),none,v]) ⟨none,rfl⟩ ⟨rfl,rfl⟩ ?_ ?_
 ·rw[0];refine⟨.inl ⟨by decide,by decide⟩,by decide,C7,?_⟩;have hx:=Fr (n:=(s+3*i)%26) (i:=((s:Int)+3*(i:Int))%26) 'c' (Nat.mod_lt _ 'a');rw[hx];refine⟨trivial,k _ _ _ ⟨_,rfl⟩ ⟨?_,rfl⟩⟩;rw[e1,List.range_succ,ZK];simp[aa,fA]
 intro acc M' ⟨e1,e2⟩ d Ni;subst e1 e2;have I:=af.new (o:=MO.lst (aa ((List.range 10).map (fA s)))) Ni;have J:ad M' d (.lst (aa ((List.range 10).map (fA s)))) d=some (.lst (aa ((List.range 10).map (fA s)))):=ab;have p:=I _ _ O9;have u:=I _ _ R_;have Z:=x8.trans I;generalize ad M' d (.lst (aa ((List.range 10).map (fA s))))=K at *;unfold ln;rw[wSs,iZ];show wE cn (.dct _) [↑a,↑f,↑q1,↑c,↑t,~~~s,some (.str fo),↑d] K _;rw[wE];intro pw Qm;have C:=af.new (o:=MO.dic []) Qm;have E:ad K pw (.dic []) pw=some (.dic []):=ab;have Sa:=Z.trans C;have p:=C _ _ p;have u:=C _ _ u;have J:=C _ _ J;generalize ad K pw (.dic [])=Sb at *;show wE cn _ _ Sb _;refine Hd (j:=2) rfl p (by have:=XQ (λx=>!cw b9 x) A;unfold ce;omega) λl Sd z1 _ k1=>?_
 show wE cn _ _ Sd _;refine Hd (j:=4) rfl (z1 _ _ u) (by have:=XQ (λx=>!cw b9 x) B;unfold ce;omega) λr Qn z2 _ L=>?_
 have g:=z1.trans z2;show match Qn pw with | some (.dic [])=>_ | _=>_
 rw[g _ _ E];show Q (.ref pw) (ad Qn pw (.dic [(.inr "things",.ref l),(.inr "words",.ref r),(.inr "signs",.ref d)]));have Pa:M pw=none:=none_of Z Qm;have N:=z2 _ _ k1;have O:=g _ _ J;have w1:l≠pw:=λz=>by rw[z,g _ _ E] at N;cases N
 have w2:r≠pw:=λz=>by rw[z,g _ _ E] at L;cases L
 have w3:d≠pw:=λz=>by rw[z,g _ _ E] at O;cases O
 refine q pw (mN (ce A)) (mN (ce B)) ((List.range 10).map (fA s)) _ (af.over (Sa.trans g) Pa) ⟨l,r,d,ab,?_,?_,?_⟩ ⟨xq m,xq O_,(xr s).2,yN 'c' 'a',yN 'c' 'a',by simp,Hc R7,(xr s).1⟩
 ·rw[aZ w1];exact N
 ·rw[aZ w2];exact L
 ·rw[aZ w3];exact O
end
def dZ:Ss:=#v[.ret (.bi .tuple #v[.bin .Add (.lst #v[.var 3]) (.var 5)])]
def hZ:Ss:=.cons (.ite (.cmp .NotEq (.var 2) (.str "")) #v[.putIx (.var 5) (.fn 0 #v[.var 0,.var 4]) (.var 2)] .nil) dZ
def mO:Ss:=#v[.expr (.mt .append (.var 5) #v[.ix (.bin .Add (.ix (.var 1) (.str "things")) (.sl (.ix (.var 1) (.str "signs")) .no (.yes (.int 4)))) (.var 7)])]
def d0:Ss:=.cons (.set 7 (.fn 0 #v[.var 0,.bin .Add (.bi .len #v[.ix (.var 1) (.str "things")]) (.int 4)])) mO
def mP:Ss:=.cons (.for (.nm 6) (.rg1 #v[.var 4]) d0) hZ
def ic:Ss:=.cons (.set 5 (.lst .nil)) mP
def mQ:Ss:=.cons (.ite (.cmp .NotEq (.var 2) (.str "")) #v[.set 4 (.bi .max #v[.var 4,.int 1])] .nil) ic
def ie:Ss:=.cons (.set 4 (.fn 0 #v[.var 0,.int 4])) mQ
def kx:Ss:=.cons (.set 3 (.ix (.ix (.var 1) (.str "words")) (.fn 0 #v[.var 0,.bi .len #v[.ix (.var 1) (.str "words")]]))) ie
def sM(pt pq pz:Addr):List (Key×D):=[(.inr "things",.ref pt),(.inr "words",.ref pq),(.inr "signs",.ref pz)]
theorem xt{pt pq pz:Addr}:dz (sM pt pq pz) (.inr "things")=↑pt:=rfl
theorem Ix{pt pq pz:Addr}:dz (sM pt pq pz) (.inr "words")=↑pq:=rfl
theorem He{pt pq pz:Addr}:dz (sM pt pq pz) (.inr "signs")=↑pz:=rfl
theorem cz.get{pw:Addr}{ts ws ss:Zf}{M:MH}(h:cz pw ts ws ss M):∃pt pq pz,M pw=some (.dic (sM pt pq pz))/\M pt=some (.lst (aa ts))/\M pq=some (.lst (aa ws))/\M pz=some (.lst (aa ss)):=h.at_
theorem oK{l:Zf}{v:Nat}(h:v<l.length):∃x,x∈l/\bv (aa l) (v:Int)=some (.str x):=⟨l[v],List.getElem_mem h,cY (by unfold aa;rw[ZG,ZD h];rfl)⟩
theorem Hf{a:Type}(xs:List a){k:Nat}(h:k<=xs.length):bW xs none (some (k:Int))=xs.take k:=by
 have h1:HT.aS xs.length xs.length (some (k:Int))=k:=by
  unfold HT.aS;dsimp only;rw[if_neg 'c'];omega
 unfold bW;rw[h1,show HT.aS xs.length 0 none=0 from rfl,List.drop_zero,Nat.sub_zero]
theorem Hg{M:MH}{a:Addr}{l:Zf}{v:Int}{x:Str}{Q:DK}(b:M a=some (.lst (aa l)))(e:bv (aa l) v=some (.str x))(q:Q (.str x) M):nA (.ref a) (.int v) M Q:=by
 unfold nA;dsimp only;rw[b];show aH (bv (aa l) v) _;rw[e];exact q
def iN:aI:=λds M Q=>∃(B:MH) (p pw:Addr) (ts ws ss:Zf) (m:Str),ds=[.ref p,.ref pw,.str m]/\cz pw ts ws ss B/\av ts ws ss/\Bx B p M/\∀a M',cc ts ws ss m a->Bx B p M'->Q (ak a) M'
theorem aR(l:Zf):(aa l).length=l.length:=by simp[aa]
section
variable {cn:Cn}{ds:List D}{M:MH}{Q:DK}
theorem Ft(A:cn.F.getD 0 'e'=cV)(h:iN ds M Q):wSs cn kx (fin Q) (aC ["","","","","","","",""] ds) M:=by
 obtain⟨B,p,pw,ts,ws,ss,m,rfl,wa,W,hb,q⟩:=h;obtain⟨pt,pq,pz,hw,ht,hq,hz⟩:=wa.get;show wSs cn kx (fin Q) [↑p,↑pw,some (.str m),none,none,none,none,none] M;unfold kx;simp! only[List.set,A,hb.ext _ _ hw,hb.ext _ _ hq,Ix];have wl:=W.wl;have tl:=W.tl;refine⟨B,p,ws.length,by rw[aR],hb,by omega,λv M1 hv P _=>?_⟩;obtain⟨w,Pb,ew⟩:=oK hv;refine Hg (P.ext _ _ hq) ew ?_;show wSs cn ie (fin Q) [↑p,↑pw,some (.str m),some (.str w),none,none,none,none] M1;unfold ie;simp! only[List.set,A];refine⟨B,p,4,rfl,P,by decide,λf M2 hn I _=>?_⟩;have rest:∀n:Nat,n<=3->(m ≠ ""->1<=n)->wSs cn ic (fin Q) [↑p,↑pw,some (.str m),some (.str w),~~~n,none,none,none] M2:=by
  intro n hn Se;unfold ic;simp! only[List.set];intro r J;have b3:=I.new (o:=.lst []) J;have C:r≠p:=I.ne J;have br:=I.base J;have g0:ad M2 r (.lst []) r=some (.lst (aa [])):=ab;generalize ad M2 r (.lst [])=M3 at *;unfold mP;simp! only[List.set];refine⟨⟨by omega,by omega⟩,?_⟩;refine tM (λi σ M'=>∃(xs:Zf) (g b:Zv),xs.length=i/\(∀x∈xs,x∈ts\/x∈ss.take 4)/\σ=[↑p,↑pw,some (.str m),some (.str w),~~~n,↑r,g,b]/\Bx B p M'/\M' r=some (.lst (aa xs))) ⟨[],none,none,rfl,(λx hx=>nomatch hx),rfl,b3,g0⟩ ?_ ?_
  ·rintro i hi σ rest M' ⟨xs,g,b,hl,hx,rfl,b',g'⟩ k
   have hi:i<n:=by omega
   have body:∀(E:dH) (j:Int),(∀u K a,u.length=i+1->(∀x∈u,x∈ts\/x∈ss.take 4)->Bx B p a->a r=some (.lst (aa u))->E.nx [↑p,↑pw,some (.str m),some (.str w),~~~n,↑r,some (.int j),K] a) ->
     wSs cn d0 E [↑p,↑pw,some (.str m),some (.str w),~~~n,↑r,some (.int j),b] M':=by
    intro E j kk;unfold d0;simp! only[List.set,A,b'.ext _ _ hw,b'.ext _ _ ht,xt];refine⟨B,p,ts.length+4,by rw[aR];rfl,b',by omega,λt c R d same=>?_⟩;have G:c r=some (.lst (aa xs)):=by rw[same _ C];exact g'
    unfold mO;simp! only[List.set,d.ext _ _ hw,d.ext _ _ ht,d.ext _ _ hz,xt,He,aU];refine⟨by rw[G];rfl,λL S=>?_⟩;have e4:bW (aa ss) none (some 4)=aa (ss.take 4):=by
     rw[show(some 4:Zp)=some ((4:Nat):Int) from rfl,Hf _ (by rw[aR,W.sl];decide)];simp[aa]
    rw[e4];have T:=d.new (o:=.lst (aa (ss.take 4))) S;have g5:=af.new (o:=MO.lst (aa (ss.take 4))) S _ _ G;have h5:ad c L (.lst (aa (ss.take 4))) L=some (.lst (aa (ss.take 4))):=ab;generalize ad c L (.lst (aa (ss.take 4)))=U at *;rw[T.ext _ _ ht,h5];dsimp only;have t4:=zU W;refine⟨by rw[sizeLine_eq,aR,aR];omega,λN V=>?_⟩;rw[show aa ts++aa (ss.take 4)=aa (ts++ss.take 4) by simp[aa]];have b6:=T.new (o:=.lst (aa (ts++ss.take 4))) V;have g6:=af.new (o:=MO.lst (aa (ts++ss.take 4))) V _ _ g5;have h6:ad U N (.lst (aa (ts++ss.take 4))) N=some (.lst (aa (ts++ss.take 4))):=ab;generalize ad U N (.lst (aa (ts++ss.take 4)))=Y at *;obtain⟨x,Pc,ex⟩:=oK (l:=ts++ss.take 4) (v:=t) (by rw[ZJ,t4];exact R);rw[h6];show aH (bv (aa (ts++ss.take 4)) (t:Int)) _;rw[ex];show match Y r with | some (.lst xs)=>_ | _=>_
    rw[g6];refine⟨by rw[sizeLine_eq,aR];omega,?_⟩;have g7:ad Y r (.lst (aa xs++[.str x])) r=some (.lst (aa (xs++[x]))):=by rw[ab];simp[aa]
    refine kk (xs++[x]) _ _ (by simp[hl]) (λy hy=>?_) (b6.put br C) g7;rcases YA.1 hy with hy | hy
    ·exact hx y hy
    ·rw[XG.1 hy];exact YA.1 Pc
   show wSs cn d0 _ [↑p,↑pw,some (.str m),some (.str w),~~~n,↑r,some (.int (0+(i:Int))),b] M';exact body _ _ λu K a a1 a2 a3 a4=>⟨trivial,k _ _ ⟨u,_,K,a1,a2,rfl,a3,a4⟩⟩
  ·rintro σ M' ⟨xs,g,b,hl,hx,rfl,b',g'⟩
   have hl:xs.length=n:=by omega
   show wSs cn hZ (fin Q) [↑p,↑pw,some (.str m),some (.str w),~~~n,↑r,g,b] M';have last:∀(ys:Zf) (a:MH),ys.length=n->(∀x∈ys,x∈ts\/x∈ss.take 4\/(m ≠ ""/\x=m))->(m ≠ ""->m∈ys)->Bx B p a->a r=some (.lst (aa ys))->wSs cn dZ (fin Q) [↑p,↑pw,some (.str m),some (.str w),~~~n,↑r,g,b] a:=by
    intro ys a l1 hy Sg bb gg;unfold dZ;simp! only[List.set];intro O Z;have b8:=bb.new (o:=.lst [D.str w]) Z;have g8:=af.new (o:=MO.lst [D.str w]) Z _ _ gg;have h8:ad a O (.lst [D.str w]) O=some (.lst (aa [w])):=ab;generalize ad a O (.lst [D.str w])=M8 at *;rw[h8,g8];refine⟨by rw[sizeLine_eq,aR,aR];show 1+_<=_;omega,λp9 Si=>?_⟩;show aH (aU (ad M8 p9 (.lst (aa [w]++aa ys)) p9)) _;rw[ab];exact q (w::ys) _ ⟨w,ys,rfl,Pb,by omega,hy,Sg⟩ (b8.new Si)
   unfold hZ;simp! only[List.set,A];refine⟨⟨rfl,rfl,YL _⟩,pE (λhm=>?_) λhm=>?_⟩
   ·have hm:m ≠ "":=λz=>by rw[z] at hm;revert hm;decide
    have n1:=Se hm;refine⟨B,p,n,rfl,b',by omega,λt c R d same=>?_⟩;have G:c r=some (.lst (aa xs)):=by rw[same _ C];exact g'
    show match c r with | some (.lst xs)=>_ | some (.dic d_)=>_ | _=>_
    rw[G];show aH (iQ (aa xs).length (t:Int)) _;have:iQ (aa xs).length (t:Int)=some t:=by
     unfold iQ;rw[aR,if_pos 'c',if_pos 'c'];rfl
    rw[this];have e5:(aa xs).set t (.str m)=aa (xs.set t m):=by unfold aa;rw[List.map_set]
    show wSs cn dZ (fin Q) _ (ad c r (.lst ((aa xs).set t (.str m))));rw[e5];refine last (xs.set t m) _ (by rw[List.length_set];exact hl) (λx KR=>?_) (λ_=>List.mem_set 'c' m) (d.put br C) ab;rcases List.mem_or_eq_of_mem_set KR with h | h
    ·exact(hx x h).imp id .inl
    ·exact .inr (.inr ⟨hm,h⟩)
   ·have hm:m = "":=by
     rw[Bool.not_eq_false'] at hm;exact iJ.1 hm
    exact last xs M' hl (λx h=>(hx x h).imp id .inl) (λz=>absurd hm z) b' g'
 unfold mQ;simp! only[List.set];refine⟨⟨rfl,rfl,YL _⟩,pE (λhm=>?_) λhm=>?_⟩
 ·have e:(if(1:Int)>(f:Int) then(1:Int) else(f:Int))=((max f 1:Nat):Int):=by split<;>omega
  rw[e];exact rest (max f 1) 'c' λ_=>by omega
 ·have hm:m = "":=by
   rw[Bool.not_eq_false'] at hm;exact iJ.1 hm
  exact rest f 'c' λz=>absurd hm z
end
def ig:Ss:=#v[.ret (.tup #v[.str "first",.var 5,.fn 0 #v[.var 0,.var 1,.var 5]])]
def ii:Ss:=.cons (.set 5 (.ix (.ix (.var 1) (.str "signs")) (.fn 1 #v[.var 0,.int 4]))) ig
def ik:Ss:=#v[.ret (.tup #v[.str "many",.var 4,.ix (.ix (.var 1) (.str "signs")) (.bin .Add (.int 4) (.var 2)),.fn 0 #v[.var 0,.var 1,.ix (.ix (.var 1) (.str "signs")) (.bin .Add (.int 4) (.var 2))]])]
def mR:Ss:=.cons (.ite (.cmp .Eq (.var 3) (.int 4)) (.cons (.set 4 (.bin .Add (.int 1) (.fn 1 #v[.var 0,.int 6]))) ik) .nil) ii
def mS:Ss:=.cons (.ite (.cmp .Lt (.var 3) (.int 4)) #v[.ret (.tup #v[.str "not",.fn 0 #v[.var 0,.var 1,.str ""]])] .nil) mR
def mT:Ss:=.cons (.ite (.cmp .Lt (.var 3) (.int 2)) #v[.ret (.tup #v[.str "aye",.fn 0 #v[.var 0,.var 1,.str ""]])] .nil) mS
def ky:Ss:=.cons (.set 3 (.fn 1 #v[.var 0,.int 6])) mT
def oM:aI:=λds M Q=>∃(B:MH) (p pw:Addr) (ts ws ss:Zf) (k:Nat),ds=[.ref p,.ref pw,⇑k]/\cz pw ts ws ss B/\av ts ws ss/\Bx B p M/\k<6/\∀c M',cP ts ws ss k c->Bx B p M'->Q c.d M'
section
variable {cn:Cn}{ds:List D}{M:MH}{Q:DK}
theorem Fu (g:cn.F.getD 0 'e' = iN) (j:cn.F.getD 1 'e' = cV) (h:oM ds M Q):wSs cn ky (fin Q) (aC ["","","","","",""] ds) M:=by
  obtain ⟨B,p,pw,ts,ws,ss,k,rfl,c,W,hb,hk,q⟩:=h
  obtain ⟨pt,pq,pz,hw,ht,hq,hz⟩:=c.get
  have sl:=W.sl
  show wSs cn ky (fin Q) [↑p,↑pw,~~~k,none,none,none] M
  unfold ky
  simp! only [List.set,j]
  refine ⟨B,p,6,rfl,hb,by decide,λd M1 o f _=>?_⟩
  unfold mT
  simp! only [List.set,g]
  refine kG (λ_=>?_) λ_=>?_
  · exact ⟨B,p,pw,ts,ws,ss, "",rfl,c,W,f,λa M' ha b'=>q (.aye a) M' ha b'⟩
  unfold mS
  simp! only [List.set,g]
  refine kG (λ_=>?_) λ_=>?_
  · exact ⟨B,p,pw,ts,ws,ss, "",rfl,c,W,f,λa M' ha b'=>q (.nots a) M' ha b'⟩
  unfold mR
  simp! only [List.set,j]
  refine ⟨⟨rfl,rfl,YL _⟩,pE (λ_=>?_) λ_=>?_⟩
  · refine ⟨B,p,6,rfl,f,by decide,λn M2 hn b _=>?_⟩
    show wSs cn ik { nx:=wSs cn ii (fin Q),rt:=Q } [↑p,↑pw,~~~k,~~~d,some (.int (1 + (n:Int))),none] M2
    unfold ik
    have hv:4 + k < ss.length:=by omega
    have l:bv (aa ss) (4 + (k:Int)) = some (.str ss[4 + k]):=by
      rw [show (4:Int) + (k:Int) = ((4 + k:Nat):Int) by omega]
      exact cY (by unfold aa; rw [ZG,ZD hv]; rfl)
    simp! only [List.set,g,b.ext _ _ hw,b.ext _ _ hz,He,l]
    exact ⟨B,p,pw,ts,ws,ss,ss[4 + k],rfl,c,W,b,λa M' ha b'=>q (.many (1 + (n:Int)) ss[4 + k] a) M' ⟨by omega,ZD hv,ha⟩ b'⟩
  · unfold ii
    simp! only [List.set,j,f.ext _ _ hw,He]
    refine ⟨B,p,4,rfl,f,by decide,λv M2 hv b _=>?_⟩
    have m:v < ss.length:=by omega
    have l:bv (aa ss) (v:Int) = some (.str ss[v]):=cY (by unfold aa; rw [ZG,ZD m]; rfl)
    refine Hg (b.ext _ _ hz) l ?_
    show wSs cn ig (fin Q) [↑p,↑pw,~~~k,~~~d,none,some (.str ss[v])] M2
    unfold ig
    simp! only [List.set,g]
    refine ⟨B,p,pw,ts,ws,ss,ss[v],rfl,c,W,b,λa M' ha b'=>q (.first ss[v] a) M' ⟨?_,ha⟩ b'⟩
    exact YR (i:=v) (by rw [List.getElem?_take,if_pos hv]; exact ZD m)
end
def mU:Ss:=#v[.ret (.tup #v[.var 2,.bi .tuple #v[.comp 1 (.fn 0 #v[.var 0,.var 1,.var 3]) (.nm 3) (.rg1 #v[.fn 1 #v[.var 0,.int 7]]) .no]])]
def kz:Ss:=.cons (.set 2 (.fn 2 #v[.var 0,.var 1,.str ""])) mU
def oN:aI:=λds M Q=>∃(B:MH) (p pw:Addr) (ts ws ss:Zf),ds=[.ref p,.ref pw]/\cz pw ts ws ss B/\av ts ws ss/\Bx B p M/\∀r M',bI ts ws ss r->Bx B p M'->Q (bn r) M'
def im:Ss:=#v[.ret (.bi .tuple #v[.var 2])]
def d3:Ss:=#v[.expr (.mt .append (.var 2) #v[.ix (.ix (.var 1) (.str "things")) (.fn 0 #v[.var 0,.bi .len #v[.ix (.var 1) (.str "things")]])])]
def mV:Ss:=.cons (.for (.nm 3) (.rg1 #v[.fn 0 #v[.var 0,.int 4]]) d3) im
def kA:Ss:=.cons (.set 2 (.lst #v[.ix (.ix (.var 1) (.str "words")) (.fn 0 #v[.var 0,.bi .len #v[.ix (.var 1) (.str "words")]])])) mV
def oO:aI:=λds M Q=>∃(B:MH) (p pw:Addr) (ts ws ss:Zf),ds=[.ref p,.ref pw]/\cz pw ts ws ss B/\av ts ws ss/\Bx B p M/\∀a M',cQ ts ws a->Bx B p M'->Q (ak a) M'
section
variable {cn:Cn}{ds:List D}{M:MH}{Q:DK}
theorem Fv(g:cn.F.getD 0 'e'=oM)(l:cn.F.getD 1 'e'=cV)(m:cn.F.getD 2 'e'=iN)(h:oN ds M Q):wSs cn kz (fin Q) (aC ["","",""] ds) M:=by
 obtain⟨B,p,pw,ts,ws,ss,rfl,f,W,hb,q⟩:=h;show wSs cn kz (fin Q) [↑p,↑pw,none] M;unfold kz;simp! only[List.set,m];refine⟨B,p,pw,ts,ws,ss, "",rfl,f,W,hb,λhd M1 o t=>?_⟩;unfold mU;simp! only[List.set,g,l];refine⟨B,p,7,rfl,t,by decide,λn M2 hn u _=>?_⟩;refine⟨⟨by omega,by omega⟩,?_⟩;refine lg (λi acc M'=>∃a:List CB,a.length=i/\(∀k c,a[k]?=some c->cP ts ws ss k c)/\acc=a.map CB.d/\Bx B p M') (ok:=λσ=>∃v,σ=[↑p,↑pw,some (ak hd),v]) ⟨none,rfl⟩ ⟨[],rfl,(λk c hc=>by cases hc),rfl,u⟩ ?_ ?_
 ·intro i hi σ acc rest M' ⟨v,hv⟩ ⟨a,hl,hc,e1,b'⟩ k
  subst hv;refine⟨B,p,pw,ts,ws,ss,i,rfl,f,W,b',by omega,λc y A b=>⟨trivial,k _ _ _ ⟨_,rfl⟩ ⟨a++[c],by simp[hl],λj d hd=>?_,by rw[e1];simp,b⟩⟩⟩;by_cases C:j<a.length
  ·rw[ZE C] at hd
   exact hc j d hd
  ·rw[ZH 'c'] at hd
   have:j-a.length=0:=by
    cases z:j-a.length with
    |zero=>rfl
    |succ n=>rw[z] at hd;cases hd
   rw[this] at hd;cases hd;have:j=i:=by omega
   rw[this];exact A
 ·intro acc y ⟨a,hl,hc,e1,b⟩ r E
  subst e1;rw[ab];exact q (hd,a) _ ⟨o,by show a.length<=6;omega,hc⟩ (b.new E)
theorem Fw(f:cn.F.getD 0 'e'=cV)(h:oO ds M Q):wSs cn kA (fin Q) (aC ["","","",""] ds) M:=by
 obtain⟨B,p,pw,ts,ws,ss,rfl,z,W,hb,q⟩:=h;obtain⟨pt,pq,pz,hw,ht,hq,hz⟩:=z.get;have wl:=W.wl;have tl:=W.tl;show wSs cn kA (fin Q) [↑p,↑pw,none,none] M;unfold kA;simp! only[List.set,f,hb.ext _ _ hw,hb.ext _ _ hq,Ix];refine⟨B,p,ws.length,by rw[aR],hb,by omega,λv M1 hv b _=>?_⟩;obtain⟨w,A,C⟩:=oK hv;dsimp only;rw[b.ext _ _ hq];show aH (bv (aa ws) (v:Int)) _;rw[C];intro r g;have G:=b.new (o:=.lst [D.str w]) g;have l:r≠p:=b.ne g;have br:=b.base g;have I:ad M1 r (.lst [D.str w]) r=some (.lst (aa [w])):=ab;generalize ad M1 r (.lst [D.str w])=M2 at *;unfold mV;simp! only[List.set,f];refine⟨B,p,4,rfl,G,by decide,λn J hn K L=>?_⟩;refine⟨⟨by omega,by omega⟩,?_⟩;have N:J r=some (.lst (aa [w])):=by rw[L _ l];exact I
 refine tM (λi σ M'=>∃(xs:Zf) (c:Zv),xs.length=i/\(∀x∈xs,x∈ts)/\σ=[↑p,↑pw,↑r,c]/\Bx B p M'/\M' r=some (.lst (aa (w::xs)))) ⟨[],none,rfl,(λx hx=>nomatch hx),rfl,K,N⟩ ?_ ?_
 ·rintro i hi σ rest M' ⟨xs,c,hl,hx,rfl,b',g'⟩ k
  have body:∀(E:dH) (j:Int),(∀a d,a.length=i+1->(∀x∈a,x∈ts)->Bx B p d->d r=some (.lst (aa (w::a)))->E.nx [↑p,↑pw,↑r,some (.int j)] d) ->
    wSs cn d3 E [↑p,↑pw,↑r,some (.int j)] M':=by
   intro E j O;unfold d3;simp! only[List.set,f,b'.ext _ _ hw,b'.ext _ _ ht,xt];refine⟨by rw[g'];rfl,B,p,ts.length,by rw[aR],b',by omega,λt m P u same=>?_⟩;have R:m r=some (.lst (aa (w::xs))):=by rw[same _ l];exact g'
   obtain⟨x,S,ex⟩:=oK P;dsimp only;rw[u.ext _ _ ht];show aH (bv (aa ts) (t:Int)) _;rw[ex];show match m r with | some (.lst xs)=>_ | _=>_
   rw[R];refine⟨by rw[sizeLine_eq,aR];simp only[YI];omega,?_⟩;have T:ad m r (.lst (aa (w::xs)++[.str x])) r=some (.lst (aa (w::(xs++[x])))):=by rw[ab];simp[aa]
   refine O (xs++[x]) _ (by simp[hl]) (λy hy=>?_) (u.put br l) T;rcases YA.1 hy with hy | hy
   ·exact hx y hy
   ·rw[XG.1 hy];exact S
  show wSs cn d3 _ [↑p,↑pw,↑r,some (.int (0+(i:Int)))] M';exact body _ _ λa d U V Y Z=>⟨trivial,k _ _ ⟨a,_,U,V,rfl,Y,Z⟩⟩
 ·rintro σ M' ⟨xs,c,hl,hx,rfl,b',g'⟩
  show wSs cn im (fin Q) [↑p,↑pw,↑r,c] M';unfold im;simp! only[List.set,g',aU];exact q (w::xs) M' ⟨w,xs,rfl,A,by omega,hx⟩ b'
end
def dE:Ss:=#v[.ret (.mt .join (.str " ") #v[.var 1])]
def bN:Ss:=.cons (.ite (.cmp .Eq (.ix (.var 0) (.int 0)) (.str "first")) #v[.set 1 (.bin .Add (.lst #v[.str "first",.ix (.var 0) (.int 1)]) (.var 1))] .nil) dE
def bO:Ss:=.cons (.ite (.cmp .Eq (.ix (.var 0) (.int 0)) (.str "many")) #v[.set 1 (.bin .Add (.lst #v[.str "many",.bi .str #v[.ix (.var 0) (.int 1)],.ix (.var 0) (.int 2)]) (.var 1))] .nil) bN
def cg:Ss:=.cons (.ite (.cmp .Eq (.ix (.var 0) (.int 0)) (.str "not")) #v[.set 1 (.bin .Add (.lst #v[.str "not"]) (.var 1))] .nil) bO
def d9:Ss:=.cons (.set 1 (.bk .list #v[.ix (.var 0) (.neg (.int 1))])) cg
def CB.kindS:CB->Str
 |.aye _=>"aye"
 |.nots _=>"not"
 |.many _ _ _=>"many"
 |.first _ _=>"first"
def CB.aheadW:CB->List Str
 |.aye _=>[]
 |.nots _=>["not"]
 |.many n v _=>["many",cu n,v]
 |.first v _=>["first",v]
theorem CB.ahead_words(c:CB):c.aheadW++c.atom=c.words:=by cases c<;>rfl
theorem CB.kd(c:CB):∃xs,c.d=.tup xs/\bv xs 0=some (.str c.kindS)/\bv xs (-1)=some (ak c.atom):=by cases c<;>exact⟨_,rfl,rfl,rfl⟩
section
variable {cn:Cn}{ds:List D}{M:MH}{Q:DK}
theorem qF(h:cO ds M Q):wSs cn d9 (fin Q) (aC ["",""] ds) M:=by
 obtain⟨c,rfl,⟨h1,A,B⟩,q⟩:=h;show wSs cn d9 (fin Q) [some c.d,none] M;obtain⟨xs,ex,E,C⟩:=c.kd;have y:c.aheadW.length+c.atom.length<=20:=by rw[←ZJ,c.ahead_words];exact h1
 have last:∀(p:Addr) (M1:MH),af M M1->M1 p=some (.lst (aa c.words))->wSs cn dE (fin Q) [some c.d,↑p] M1:=by
  intro p M1 e1 g;unfold dE;simp! only[List.set,g,aU,bx];exact⟨trivial,c4 h1 A 'a',q M1 e1⟩
 unfold d9;rw[ex];simp! only[List.set,C];show ∀p,M p=none->_;intro p hp;have e1:=af.new (o:=MO.lst (aa c.atom)) hp;have g:ad M p (.lst (aa c.atom)) p=some (.lst (aa c.atom)):=ab;rw[←ex];generalize ad M p (.lst (aa c.atom))=M1 at *;have F:∀z,z<20->z<=sizeLine:=λz hz=>by rw[sizeLine_eq];omega
 cases c with
 |aye a=>
  have g:M1 p=some (.lst (aa a)):=g;unfold cg;simp! only[CB.d,List.set];rw[1];show aN false _ _;rw[aq];unfold bO;simp! only[List.set];rw[1];show aN false _ _;rw[aq];unfold bN;simp! only[List.set];rw[1];show aN false _ _;rw[aq];exact last p M1 e1 g
 |nots a=>
  unfold cg;simp! only[CB.d,List.set];rw[1];show aN true _ _;rw[bu];intro b l;have e2:=af.new (o:=MO.lst [.str "not"]) l;have m:ad M1 b (.lst [.str "not"]) b=some (.lst (aa ["not"])):=ab;have g:=e2 p (.lst (aa a)) g;show match ad M1 b (.lst [.str "not"]) b,ad M1 b (.lst [.str "not"]) p with | some (.lst xs),some (.lst ys)=>_ | _,_=>_
  generalize ad M1 b (.lst [.str "not"])=M2 at *;rw[m,g];refine⟨by rw[sizeLine_eq,aR,aR];exact ZU y 'a',λf r=>?_⟩;have t:=af.new (o:=MO.lst (aa ["not"]++aa a)) r;have u:ad M2 f (.lst (aa ["not"]++aa a)) f=some (.lst (aa ([("not" : Str)]++a))):=by rw[ab];simp[aa]
  generalize ad M2 f (.lst (aa ["not"]++aa a))=j at *;show wSs cn bO (fin Q) [some (CB.nots a).d,↑f] j;unfold bO;simp! only[CB.d,List.set];rw[1];show aN false _ _;rw[aq];unfold bN;simp! only[List.set];rw[1];show aN false _ _;rw[aq];exact last f j (e1.trans (e2.trans t)) u
 |many n v a=>
  unfold cg;simp! only[CB.d,List.set];rw[1];show aN false _ _;rw[aq];unfold bO;simp! only[List.set];rw[1];show aN true _ _;rw[bu];refine⟨B,λb l=>?_⟩;have e2:=af.new (o:=MO.lst [.str "many",.str (Str.ofString (toString n)),.str v]) l;have m:ad M1 b (.lst [.str "many",.str (Str.ofString (toString n)),.str v]) b=some (.lst (aa ["many",cu n,v])):=ab;have g:=e2 p (.lst (aa a)) g;show match ad M1 b (.lst [.str "many",.str (Str.ofString (toString n)),.str v]) b,ad M1 b (.lst [.str "many",.str (Str.ofString (toString n)),.str v]) p with | some (.lst xs),some (.lst ys)=>_ | _,_=>_
  generalize ad M1 b (.lst [.str "many",.str (Str.ofString (toString n)),.str v])=M2 at *;rw[m,g];refine⟨by rw[sizeLine_eq,aR,aR];exact ZU y 'a',λf r=>?_⟩;have t:=af.new (o:=MO.lst (aa ["many",cu n,v]++aa a)) r;have u:ad M2 f (.lst (aa ["many",cu n,v]++aa a)) f=some (.lst (aa ([("many" : Str),cu n,v]++a))):=by rw[ab];simp[aa]
  generalize ad M2 f (.lst (aa ["many",cu n,v]++aa a))=j at *;show wSs cn bN (fin Q) [some (CB.many n v a).d,↑f] j;unfold bN;simp! only[CB.d,List.set];rw[1];show aN false _ _;rw[aq];exact last f j (e1.trans (e2.trans t)) u
 |first v a=>
  unfold cg;simp! only[CB.d,List.set];rw[1];show aN false _ _;rw[aq];unfold bO;simp! only[List.set];rw[1];show aN false _ _;rw[aq];unfold bN;simp! only[List.set];rw[1];show aN true _ _;rw[bu];intro b l;have e2:=af.new (o:=MO.lst [.str "first",.str v]) l;have m:ad M1 b (.lst [.str "first",.str v]) b=some (.lst (aa ["first",v])):=ab;have g:=e2 p (.lst (aa a)) g;show match ad M1 b (.lst [.str "first",.str v]) b,ad M1 b (.lst [.str "first",.str v]) p with | some (.lst xs),some (.lst ys)=>_ | _,_=>_
  generalize ad M1 b (.lst [.str "first",.str v])=M2 at *;rw[m,g];refine⟨by rw[sizeLine_eq,aR,aR];exact ZU y 'a',λf r=>?_⟩;have t:=af.new (o:=MO.lst (aa ["first",v]++aa a)) r;have u:ad M2 f (.lst (aa ["first",v]++aa a)) f=some (.lst (aa ([("first" : Str),v]++a))):=by rw[ab];simp[aa]
  generalize ad M2 f (.lst (aa ["first",v]++aa a))=j at *;exact last f j (e1.trans (e2.trans t)) u
end
def gP:Ss:=#v[.ret (.bin .Add (.bin .Add (.var 1) (.str " if ")) (.mt .join (.str ", ") #v[.comp 1 (.fn 0 #v[.var 2]) (.nm 2) (.seq (.ix (.var 0) (.int 1))) .no]))]
def dF:Ss:=.cons (.ite (.cmp .Eq (.ix (.var 0) (.int 1)) (.tup .nil)) #v[.ret (.var 1)] .nil) gP
def ef:Ss:=.cons (.set 1 (.mt .join (.str " ") #v[.bin .Add (.lst #v[.str "rule"]) (.bk .list #v[.ix (.var 0) (.int 0)])])) dF
def dO:aI:=λds M Q=>∃r:RB,ds=[bn r]/\d8 r/\∀M',af M M'->Q (.str (a8 r)) M'
theorem sN:∀(l:List CB),aT (l.map CB.d)=true
 |[]=>rfl
 |c::r=>by rw[YK,aT,c.pure,sN r];rfl
theorem uI:∀(l:List CB),bh (l.map CB.d)<=5
 |[]=>by decide
 |c::r=>by
  have:=uI r
  have:=c.dep
  rw[YK,bh];omega
section
variable {cn:Cn}{ds:List D}{M:MH}{Q:DK}
theorem join_one{x:Str}{a:Zf}{e:E}{σ:DS}{M:MH}{Q:DK}(d:∀M' Z,Z (ak a) M'->wE cn e σ M' Z)(hl:a.length<=20)(hx:∀y∈x::a,y.length<=20)(q:∀M',af M M'->Q (.str (Str.join " " (x::a))) M'):
  wE cn (.mt .join (.str " ") (.cons (.bin .Add (.lst (.cons (.str x) .nil)) (.bk .list (.cons e .nil))) .nil)) σ M Q:=by
 simp! only[];refine⟨trivial,λp hp=>?_⟩;have e1:=af.new (o:=MO.lst [.str x]) hp;have f:ad M p (.lst [.str x]) p=some (.lst [.str x]):=ab;generalize ad M p (.lst [.str x])=M1 at *;refine d M1 _ ?_;show ∀b,M1 b=none->_;intro b g;have e2:=af.new (o:=MO.lst (aa a)) g;have j:=e2 _ _ f;have l:ad M1 b (.lst (aa a)) b=some (.lst (aa a)):=ab;generalize ad M1 b (.lst (aa a))=M2 at *;show match M2 p,M2 b with | some (.lst xs),some (.lst ys)=>_ | _,_=>_
 rw[j,l];refine⟨by rw[sizeLine_eq,aR];show 1+_<=_;omega,λc m=>?_⟩;show aH (aU (ad M2 c (.lst ([.str x]++aa a)) c)) _;rw[ab];show aH (dm (aa (x::a))) _;rw[bx];exact⟨c4 (n:=21) (k:=20) (by simp only[YI];omega) hx 'a',q _ ((e1.trans e2).trans (af.new m))⟩
theorem xu(l:cn.F.getD 0 'e'=cO)(h:dO ds M Q):wSs cn ef (fin Q) (aC ["",""] ds) M:=by
 obtain⟨⟨hd,b⟩,rfl,F,q⟩:=h;show wSs cn ef (fin Q) [some (bn (hd,b)),none] M;unfold ef;rw[wSs,iZ,wS,lY];refine join_one (x:="rule") (a:=hd) (λM' Z z=>?_) F.hl (λy hy=>?_) λM1 e1=>?_
 ·simp! only[bn]
  exact z
 ·rcases ZY.1 hy with rfl | hy
  ·rfl'
  ·exact F.hx y hy
 have r:(Str.join " " (("rule" : Str)::hd)).length<=441:=fw.one (y:="rule") (a:=hd) ⟨F.ne,F.hl,F.hx⟩ (by rfl');show wSs cn dF (fin Q) [some (bn (hd,b)),some (.str (Str.join " " ("rule" :: hd)))] M1;unfold dF;have j:bv [ak hd,.tup (b.map CB.d)] 1=some (.tup (b.map CB.d)):=rfl;simp! only[List.set,bn,j];refine⟨⟨by rw[aW];exact sN b,rfl,by rw[cD];have:=uI b;omega⟩,?_⟩;cases b with
 |nil=>exact q M1 e1
 |cons c b=>
  have:aP (.tup ((c::b).map CB.d)) (.tup [])=false:=by rw[aP,YK,bF]<;>simp
  rw[this,aq];unfold gP;simp! only[List.set,l,j];refine⟨by rw[sizeLine_eq];show _+4<=_;omega,trivial,?_⟩;refine eT (em:=CB.d) (f:=λc=>.str c.text) (M0:=M1) (ok:=λσ=>∃v,σ=[some (.tup [ak hd,.tup ((c::b).map CB.d)]),some (.str (Str.join " " ("rule" :: hd))),v]) [] _ M1 ⟨none,rfl⟩ (af.refl _) ?_ ?_
  ·intro x hx σ acc rest M2 ⟨v,hv⟩ e2 k
   subst hv;exact⟨x,rfl,F.cf x hx,λm g=>⟨trivial,k _ m ⟨_,rfl⟩ (e2.trans g)⟩⟩
  ·intro M2 e2 p hp
   rw[YX,show(c::b).map (λc=>D.str c.text)=aa ((c::b).map CB.text) by simp[aa]];have g:=(e1.trans e2).trans (af.new (o:=MO.lst (aa ((c::b).map CB.text))) hp);rw[ab];show aH (dm (aa ((c::b).map CB.text))) _;rw[bx];have hc:∀x∈(c::b).map CB.text,x.length<=420:=λx hx=>by
    obtain⟨c',h',rfl⟩:=XU.1 hx;exact CB.text_le (F.cf c' h')
   have hl:((c::b).map CB.text).length<=20:=by rw[ZF];exact F.cl
   have n:=mG (y:=", ") hc;have t:(Str.join (Str.ofString ", ") (List.map CB.text (c::b))).length<=8440:=by
    have:(", " : Str).length=2:=by rfl'
    rw[this] at n;omega
   refine⟨c4 hl hc 'a',?_,q _ g⟩;rw[sizeLine_eq,len_app];show _+4+_<=_;omega
end
def dv:Ss:=#v[.ret (.and (.cmp .Eq (.bi .isinst #v[.var 0,.ty "bool"]) (.bi .isinst #v[.var 1,.ty "bool"])) (.cmp .Eq (.var 0) (.var 1)))]
def fB:Ss:=#v[.ret (.bi .all #v[.comp 2 (.fn 0 #v[.var 2,.var 3]) (.tp [2,3]) (.zip #v[.var 0,.var 1]) .no])]
def cj:Ss:=.cons (.ite (.val (.bi .isinst #v[.var 1,.ty "tuple"])) (.cons (.ite (.or (.not (.val (.bi .isinst #v[.var 0,.ty "tuple"]))) (.cmp .NotEq (.bi .len #v[.var 0]) (.bi .len #v[.var 1]))) #v[.ret (.bl false)] .nil) fB) .nil) dv
def vb(x:D):Prop:=(∃i,x=.int i) \/ ∃z,x=.str z
def dP:Nat->D->Prop
 |0,x=>vb x
 |d+1,x=>vb x \/ ∃xs,x=.tup xs/\xs.length<=100/\∀y∈xs,dP d y
def eg(d:Nat):aI:=λds M Q=>∃x:D,ds=[x,x]/\dP d x/\∀M',af M M'->Q (.bl true) M'
theorem xv:∀l:List D,gW l l=l.map λx=>.tup [x,x]
 |[]=>rfl
 |x::l=>by rw[gW,xv l];rfl
section
variable {cn:Cn}{ds:List D}{M:MH}{Q:DK}
theorem lD{x:D}(h:vb x)(q:∀M',af M M'->Q (.bl true) M'):wSs cn cj (fin Q) [some x,some x] M:=by
 unfold cj;rcases h with⟨i,rfl⟩ | ⟨z,rfl⟩
 ·simp! only[nC]
  refine⟨by decide,?_⟩;show aN false _ _;rw[aq];unfold dv;simp! only[nC];refine⟨by decide,by decide,⟨rfl,rfl,YL _⟩,?_⟩;show aN true _ _;rw[bu];rw[1];rw[dw _ rfl];exact q M (af.refl M)
 ·simp! only[nC]
  refine⟨by decide,?_⟩;show aN false _ _;rw[aq];unfold dv;simp! only[nC];refine⟨by decide,by decide,⟨rfl,rfl,YL _⟩,?_⟩;show aN true _ _;rw[bu];rw[1];rw[dw _ rfl];exact q M (af.refl M)
theorem xL(h:eg 0 ds M Q):wSs cn cj (fin Q) (aC ["",""] ds) M:=by
 obtain⟨x,rfl,hx,q⟩:=h;exact lD hx q
theorem xM {d:Nat} (a:cn.F.getD 0 'e' = eg d) (h:eg (d + 1) ds M Q):wSs cn cj (fin Q) (aC ["",""] ds) M:=by
  obtain ⟨x,rfl,hx | ⟨xs,rfl,hl,hx⟩,q⟩:=h
  · exact lD hx q
  show wSs cn cj (fin Q) [some (.tup xs),some (.tup xs)] M
  unfold cj
  simp! only [nC]
  refine ⟨by decide,?_⟩
  show aN true _ _
  rw [bu]
  refine ⟨by decide,?_⟩
  show aN false _ _
  rw [aq]
  refine ⟨⟨rfl,rfl,YL _⟩,?_⟩
  rw [dw (.int (xs.length:Int)) rfl]
  show wSs cn fB { nx:=wSs cn dv (fin Q),rt:=Q } [some (.tup xs),some (.tup xs)] M
  unfold fB
  simp! only [a]
  refine ⟨rfl,?_⟩
  rw [xv]
  refine eT (em:=λx=>.tup [x,x]) (f:=λ_=>.bl true) (M0:=M) (ok:=λσ=>∃ v w,σ = [some (.tup xs),some (.tup xs),v,w]) [] _ M ⟨none,none,rfl⟩ (af.refl _) ?_ ?_
  · intro y hy σ acc rest M2 ⟨v,w,hv⟩ e2 k
    subst hv
    exact ⟨rfl,y,rfl,hx y hy,λb c=>⟨trivial,k _ b ⟨_,_,rfl⟩ (e2.trans c)⟩⟩
  · intro M2 e2 p hp
    rw [YX,ab]
    have:md (xs.map λ_=>D.bl true) = some (xs.map λ_=>true):=fM (λ_=>true) xs
    show aH (md (xs.map λ_=>D.bl true)) _
    rw [this]
    have g:(xs.map λ_=>true).all id = true:=by simp
    show Q (.bl ((xs.map λ_=>true).all id)) _
    rw [g]
    exact q _ (e2.trans (af.new hp))
end
def ei:Ss:=#v[.ret (.fn 0 #v[.fld (.var 0) "rules",.bi .tuple #v[.var 3]])]
def gq:Ss:=.cons (.ite (.or (.not (.val (.fn 0 #v[.fld (.var 0) "things",.bi .tuple #v[.var 1]]))) (.not (.val (.fn 0 #v[.fld (.var 0) "said",.bi .tuple #v[.var 2]])))) #v[.ret (.bl false)] .nil) ei
theorem kB{x:D}(h:vb x):∀d,dP d x
 |0=>h
 |_+1=>.inl h
theorem gA{a:Zf}(h:a.length<=100)(d:Nat):dP (d+1) (ak a):=.inr ⟨_,rfl,by rw[aR];exact h,λy hy=>by
 obtain⟨z,_,rfl⟩:=XU.1 hy;exact kB (.inr ⟨z,rfl⟩) d⟩
theorem xN {c:CB} (h:c.atom.length<=100) (d:Nat):dP (d + 2) c.d:=by
  have ha:=gA h d
  have b:∀ z:Str,dP (d + 1) (.str z):=λz=>kB (.inr ⟨z,rfl⟩) _
  have hi:∀ n:Int,dP (d + 1) (.int n):=λz=>kB (.inl ⟨z,rfl⟩) _
  cases c with
  | aye a=>exact .inr ⟨_,rfl,by simp,λy hy=>by
      rcases ZY.1 hy with rfl | hy
      · exact b _
      rw [XG.1 hy]; exact ha⟩
  | nots a=>exact .inr ⟨_,rfl,by simp,λy hy=>by
      rcases ZY.1 hy with rfl | hy
      · exact b _
      rw [XG.1 hy]; exact ha⟩
  | many n v a=>exact .inr ⟨_,rfl,by simp,λy hy=>by
      rcases ZY.1 hy with rfl | hy
      · exact b _
      rcases ZY.1 hy with rfl | hy
      · exact hi _
      rcases ZY.1 hy with rfl | hy
      · exact b _
      rw [XG.1 hy]; exact ha⟩
  | first v a=>exact .inr ⟨_,rfl,by simp,λy hy=>by
      rcases ZY.1 hy with rfl | hy
      · exact b _
      rcases ZY.1 hy with rfl | hy
      · exact b _
      rw [XG.1 hy]; exact ha⟩
theorem xw {rs:List RB} (hl:rs.length<=100) (F:∀ r ∈ rs,d8 r):dP 5 (.tup (rs.map bn)):=.inr ⟨_,rfl,by rw [ZF]; exact hl,λy hy=>by
  obtain ⟨r,a,rfl⟩:=XU.1 hy
  have R:=F r a
  refine .inr ⟨_,rfl,by simp,λy hy=>?_⟩
  rcases ZY.1 hy with rfl | hy
  · exact gA (ZU R.hl 'a') _
  rw [XG.1 hy]
  refine .inr ⟨_,rfl,by rw [ZF]; exact ZU R.cl 'a',λy hy=>?_⟩
  obtain ⟨c,hc,rfl⟩:=XU.1 hy
  refine xN ?_ 0
  have h1:=(R.cf c hc).1
  rw [← c.ahead_words,ZJ] at h1
  omega⟩
theorem xO{sd:List (List Str)}(hl:sd.length<=100)(F:∀a∈sd,fw a):dP 5 (.tup (sd.map ak)):=.inr ⟨_,rfl,by rw[ZF];exact hl,λy hy=>by
 obtain⟨a,ha,rfl⟩:=XU.1 hy;exact gA (ZU (F a ha).2.1 'a') _⟩
def gr(C:Addr):aI:=λds M Q=>∃(b pt ps pr:Addr) (ts:Zf) (sd:List (List Str)) (rs:List RB),ds=[.ref b,.ref pt,.ref ps,.ref pr]/\M b=some (.ins C (fu ts sd rs))/\(M pt=some (.lst (aa ts))/\M ps=some (.lst (sd.map ak))/\M pr=some (.lst (rs.map bn)))/\qA ts sd rs/\∀M',af M M'->Q (.bl true) M'
section
variable {cn:Cn}{C:Addr}{ds:List D}{M:MH}{Q:DK}
theorem BE(ts:Zf)(sd:List (List Str))(rs:List RB):List.lookup ("things" : Str) (fu ts sd rs)=some (ak ts):=rfl
theorem yO(ts:Zf)(sd:List (List Str))(rs:List RB):List.lookup ("said" : Str) (fu ts sd rs)=some (.tup (sd.map ak)):=rfl
theorem xx(ts:Zf)(sd:List (List Str))(rs:List RB):List.lookup ("rules" : Str) (fu ts sd rs)=some (.tup (rs.map bn)):=rfl
theorem zV(a:∀f∈jO,cn.O C f)(c:cn.F.getD 0 'e'=eg 5)(h:gr C ds M Q):wSs cn gq (fin Q) (aC ["","","",""] ds) M:=by
 obtain⟨b,pt,ps,pr,ts,sd,rs,rfl,d,⟨ht,j,l⟩,F,q⟩:=h;show wSs cn gq (fin Q) [↑b,↑pt,↑ps,↑pr] M;have m:=a "things" (by rfl');have n:=a "said" (by rfl');have o:=a "rules" (by rfl');unfold gq;simp! only[List.set,d,BE,c,ht,aU];refine⟨m,ak ts,rfl,gA (ZU F.t.2.1 'a') 4,λM1 e1=>?_⟩;have g:=e1 _ _ d;have p:=e1 _ _ j;show aN false _ _;rw[aq];simp only[g,yO,p,aU];refine⟨n,.tup (sd.map ak),rfl,xO F.ls F.s,λM2 e2=>?_⟩;show wSs cn ei (fin Q) [↑b,↑pt,↑ps,↑pr] M2;have u:=e2 _ _ g;have y:=e2 _ _ (e1 _ _ l);unfold ei;simp! only[List.set,u,xx,c,y,aU];exact⟨o,.tup (rs.map bn),rfl,xw F.lr F.r,λz A=>q z ((e1.trans e2).trans A)⟩
end
structure LA (B:MH) (ps pr pl:Addr) (sd:List (List Str)) (rs:List RB) (ls:Zf) (M:MH):Prop where
 ext:af B M
 s:M ps=some (.lst (sd.map ak))
 r:M pr=some (.lst (rs.map bn))
 l:M pl=some (.lst (aa ls))
structure Apart (B:MH) (ps pr pl:Addr):Prop where
 s:B ps=none
 r:B pr=none
 l:B pl=none
 sr:ps≠pr
 sl:ps≠pl
 rl:pr≠pl
section
variable {B M:MH}{ps pr pl:Addr}{sd:List (List Str)}{rs:List RB}{ls:Zf}
theorem LA.up{M':MH}(h:LA B ps pr pl sd rs ls M)(e:af M M'):LA B ps pr pl sd rs ls M':=⟨h.ext.trans e,e _ _ h.s,e _ _ h.r,e _ _ h.l⟩
theorem LA.say(h:LA B ps pr pl sd rs ls M)(A:Apart B ps pr pl)(a:Zf):LA B ps pr pl (sd++[a]) rs ls (ad M ps (.lst (sd.map ak++[ak a]))):=
 ⟨af.over h.ext A.s,by rw[ab];simp,by rw[aZ A.sr.symm];exact h.r,by rw[aZ A.sl.symm];exact h.l⟩
theorem LA.rule(h:LA B ps pr pl sd rs ls M)(A:Apart B ps pr pl)(a:RB):LA B ps pr pl sd (rs++[a]) ls (ad M pr (.lst (rs.map bn++[bn a]))):=
 ⟨af.over h.ext A.r,by rw[aZ A.sr];exact h.s,by rw[ab];simp,by rw[aZ A.rl.symm];exact h.l⟩
theorem LA.line(h:LA B ps pr pl sd rs ls M)(A:Apart B ps pr pl)(x:Str):LA B ps pr pl sd rs (ls++[x]) (ad M pl (.lst (aa ls++[.str x]))):=
 ⟨af.over h.ext A.l,by rw[aZ A.sl];exact h.s,by rw[aZ A.rl];exact h.r,by rw[ab];simp[aa]⟩
end
theorem db:∀(l m:List Item),ah (l++m)=ah l++ah m
 |[],_=>rfl
 |.say a::l,m=>by rw[XV,ah,ah,db l m];rfl
 |.rule r::l,m=>by rw[XV,ah,ah,db l m]
theorem cS:∀(l m:List Item),ae (l++m)=ae l++ae m
 |[],_=>rfl
 |.say a::l,m=>by rw[XV,ae,ae,cS l m]
 |.rule r::l,m=>by rw[XV,ae,ae,cS l m];rfl
theorem gt:∀l:List Item,(ah l).length<=l.length
 |[]=>YE _
 |.say a::l=>by have:=gt l;rw[ah,YI,YI];omega
 |.rule r::l=>by have:=gt l;rw[ah,YI];omega
theorem mH:∀{l:List Item}{a:Zf},a∈ah l->Item.say a∈l
 |.say b::l,a,h=>by
  rw[ah] at h;rcases ZY.1 h with rfl | h
  ·exact .head _
  ·exact .tail _ (mH h)
 |.rule r::l,a,h=>by rw[ah] at h;exact .tail _ (mH h)
theorem jY:∀{l:List Item}{a:RB},a∈ae l->Item.rule a∈l
 |.rule b::l,a,h=>by
  rw[ae] at h;rcases ZY.1 h with rfl | h
  ·exact .head _
  ·exact .tail _ (jY h)
 |.say r::l,a,h=>by rw[ae] at h;exact .tail _ (jY h)
section
variable {ts ws ss:Zf}
theorem av.shortT(W:av ts ws ss):fw ts:=⟨λz=>by have:=W.tl;rw[z] at this;simp at this,by have:=W.tl;omega,λx hx=>by have:=(W.tn x hx).1;omega⟩
theorem cQ.short(W:av ts ws ss){a:Zf}(h:cQ ts ws a):fw a:=by
 have l:=(h.atom (ss:=ss)).len;exact⟨λz=>by rw[z] at l;simp at l,by omega,λx hx=>by have:=((h.atom (ss:=ss)).word W (.inl rfl) x hx).len;omega⟩
theorem bI.fine(W:av ts ws ss){r:RB}(h:bI ts ws ss r):d8 r:=by
 have l:=h.1.len;have a:=h.2.1;refine⟨λz=>by rw[z] at l;simp at l,by omega,λx hx=>by have:=(h.1.word W (.inl rfl) x hx).len;omega,by omega,λc hc=>?_⟩;obtain⟨k,hk⟩:=XN hc;exact(h.2.2 k c hk).fine W
theorem uJ(W:av ts ws ss){b_:List Item}(ok:∀i∈b_,i.ok ts ws ss)(l:b_.length<=60)(c:(ae b_).length<=30):qA ts (ah b_) (ae b_):=
 ⟨W.shortT,λa ha=>cQ.short W (ok _ (mH ha)),λr b=>bI.fine W (ok _ (jY b)),by have:=gt b_;omega,by omega⟩
def iI(sd:List (List Str))(rs:List RB):List Item:=sd.map .say++rs.map .rule
theorem nX(sd:List (List Str))(rs:List RB):ah (iI sd rs)=sd:=by
 have h1:∀l:List (List Str),ah (l.map .say)=l:=by
  intro l;induction l with
  |nil=>rfl
  |cons a l b=>rw[YK,ah,b]
 have c:∀l:List RB,ah (l.map .rule)=[]:=by
  intro l;induction l with
  |nil=>rfl
  |cons a l b=>rw[YK,ah,b]
 unfold iI;rw[db,h1,c,ZA]
theorem sO(sd:List (List Str))(rs:List RB):ae (iI sd rs)=rs:=by
 have h1:∀l:List (List Str),ae (l.map .say)=[]:=by
  intro l;induction l with
  |nil=>rfl
  |cons a l b=>rw[YK,ae,b]
 have c:∀l:List RB,ae (l.map .rule)=l:=by
  intro l;induction l with
  |nil=>rfl
  |cons a l b=>rw[YK,ae,b]
 unfold iI;rw[cS,h1,c,YX]
theorem BF(ts:Zf)(sd:List (List Str))(rs:List RB):sJ ts (iI sd rs)=Str.join "\n" (aQ ts sd rs):=by
 unfold sJ iI aQ;rw[ZK,ZL,ZL];rfl
theorem Fx(W:av ts ws ss){b_:List Item}(ok:∀i∈b_,i.ok ts ws ss)(nd:(ah b_).Nodup)(l:b_.length<=60)(b:(ae b_).length<=30):sB (Str.join "\n" (aQ ts (ah b_) (ae b_))) ts (ah b_) (ae b_):=by
 have hl:=gt b_
 have:=tL W (b_:=iI (ah b_) (ae b_)) (λi hi=>by
  unfold iI at hi;rcases YA.1 hi with hi | hi
  ·obtain⟨a,ha,rfl⟩:=XU.1 hi
   exact ok _ (mH ha)
  ·obtain⟨a,ha,rfl⟩:=XU.1 hi
   exact ok _ (jY ha)) (by rw[nX];exact nd) (by unfold iI;rw[ZJ,ZF,ZF];omega) (by rw[nX];omega) (by rw[sO];exact b)
 rw[BF,nX,sO] at this;exact this
theorem Db(W:av ts ws ss):sB "things b\nsay b b" ["b"] [["b","b"]] []:=by
 have a:dY "b":=⟨by rfl',by rfl',by rfl'⟩;have c:av ["b"] ["b"] ss:=⟨λx hx=>by rw[XG.1 hx];exact a,λx hx=>by rw[XG.1 hx];exact a,W.sv,by decide,by decide,W.sl,by simp,W.sd⟩
 have:=tL c (b_:=[.say ["b","b"]]) (λi hi=>by
  rw[XG.1 hi];exact⟨"b",["b"],rfl,.head _,by decide,λx hx=>hx⟩) (by simp[ah]) 'a' 'a' 'a'
 have e:sJ ["b"] [.say ["b","b"]] = "things b\nsay b b":=by rfl'
 rw[e] at this;exact this
end
def vc:aI:=λds M Q=>∃(a:Addr) (ns:Zi),ds=[.ref a]/\M a=some (.rol (ns.map .int))/\ns.length<=63/\∀M',Q (.bl true) M'
def qG:Ss:=#v[.ret (.and (.cmp .Eq (.fn 0 #v[.var 11]) (.var 10)) (.fn 1 #v[.var 9,.ix (.var 1) (.str "things"),.var 2,.var 3]))]
def xy:Ss:=.cons (.ite (.or (.cmp .NotEq (.fld (.var 12) "said") (.tup #v[.tup #v[.str "b",.str "b"]])) (.or (.cmp .NotEq (.fld (.var 12) "rules") (.tup .nil)) (.not (.val (.fn 1 #v[.var 11,.ix (.var 1) (.str "things"),.var 2,.var 3]))))) #v[.ret (.bl false)] .nil) qG
def xz:Ss:=.cons (.set 12 (.fn 2 #v[.str "things b\nsay b b"])) xy
def qH:Ss:=.cons (.set 11 (.fn 2 #v[.var 10])) xz
def xA:Ss:=.cons (.ite (.or (.not (.val (.bi .isinst #v[.var 10,.ty "str"]))) (.cmp .NotEq (.var 10) (.mt .join (.str "\n") #v[.var 8]))) #v[.ret (.bl false)] .nil) qH
def xB:Ss:=.cons (.set 10 (.fn 0 #v[.var 9])) xA
def xD:Ss:=.cons (.ite (.not (.val (.fn 1 #v[.var 9,.ix (.var 1) (.str "things"),.var 2,.var 3]))) #v[.ret (.bl false)] .nil) xB
def qI:Ss:=.cons (.set 9 (.fn 2 #v[.mt .join (.str "\n") #v[.var 4]])) xD
def qJ:Ss:=.cons (.set 8 (.bin .Add (.bin .Add (.lst #v[.ix (.var 4) (.int 0)]) (.comp 1 (.mt .join (.str " ") #v[.bin .Add (.lst #v[.str "say"]) (.bk .list #v[.var 13])]) (.nm 13) (.seq (.var 2)) .no)) (.comp 1 (.fn 3 #v[.var 13]) (.nm 13) (.seq (.var 3)) .no))) qI
def xE:Ss:=#v[.expr (.mt .append (.var 4) #v[.fn 3 #v[.ix (.var 3) (.neg (.int 1))]])]
def uK:Ss:=#v[.expr (.mt .append (.var 4) #v[.mt .join (.str " ") #v[.bin .Add (.lst #v[.str "say"]) (.bk .list #v[.var 7])]])]
def nY:Ss:=#v[.ite (.cmp .NotIn (.var 7) (.var 2)) (.cons (.expr (.mt .append (.var 2) #v[.var 7])) uK) .nil]
def uL:Ss:=#v[.ite (.and (.cmp .Gt (.fn 4 #v[.var 6,.int 3]) (.int 0)) (.cmp .Lt (.bi .len #v[.var 3]) (.int 30))) (.cons (.expr (.mt .append (.var 3) #v[.fn 5 #v[.var 6,.var 1]])) xE) (.cons (.set 7 (.fn 6 #v[.var 6,.var 1])) nY)]
def jZ:Ss:=.cons (.set 6 (.fn 7 #v[.var 0,.var 5])) uL
def uM:Ss:=.cons (.for (.nm 5) (.rg2 #v[.int 3,.bi .max #v[.int 4,.bi .min #v[.bi .len #v[.var 0],.int 60]]]) jZ) qJ
def uN:Ss:=.cons (.set 4 (.lst #v[.bin .Add (.str "things ") (.mt .join (.str " ") #v[.ix (.var 1) (.str "things")])])) uM
def uO:Ss:=.cons (.set 3 (.lst .nil)) uN
def uP:Ss:=.cons (.set 2 (.lst .nil)) uO
def sQ:Ss:=.cons (.set 1 (.fn 8 #v[.var 0])) uP
section
variable {cn:Cn}{C:Addr}{ds:List D}{M:MH}{Q:DK}
theorem Dc{a pw ps pr pl:Addr}{ts ws ss:Zf}{b_:List Item}{B M:MH}{o p t:Zv}{c:Addr}(J:∀f∈jO,cn.O C f)(K:cn.F.getD 0 'e'=iM C)(u:cn.F.getD 1 'e'=gr C)(z:cn.F.getD 2 'e'=lc C)
  (V:cz pw ts ws ss B) (W:av ts ws ss) (L:LA B ps pr pl (ah b_) (ae b_) (au ts::b_.map Item.text) M) (ok:∀i∈b_,i.ok ts ws ss) (nd:(ah b_).Nodup) (hl:b_.length<=60) (d:(ae b_).length<=30) (Y:M c=some (.lst (aa (aQ ts (ah b_) (ae b_))))) (q:∀M',Q (.bl true) M'):
  wSs cn qI (fin Q) [↑a,↑pw,↑ps,↑pr,↑pl,o,p,t,↑c,none,none,none,none] M:=by
 obtain⟨pt,pq,pz,hw,ht,hq,hz⟩:=V.get;have F:=uJ W ok hl d;have Z:=J "said" (by rfl');have o3:=J "rules" (by rfl');have sl:=gt b_;unfold qI;simp! only[List.set,L.l,aU,bx,z];refine⟨trivial,c4 (n:=61) (k:=400) (by rw[YI,ZF];omega) (pv W ok) 'a',?_⟩;refine⟨_,ts,ah b_,ae b_,rfl,tL W ok nd 'c' 'c' d,λM1 b e1 _ N=>?_⟩;have g:=L.up e1;have Sn:=e1 _ _ Y;unfold xD;simp! only[List.set,u,g.ext _ _ hw,xt];refine⟨b,pt,ps,pr,ts,ah b_,ae b_,rfl,N,⟨g.ext _ _ ht,g.s,g.r⟩,F,λM2 e2=>?_⟩;have L2:=g.up e2;have P:=e2 _ _ N;have So:=e2 _ _ Sn;show aN false _ _;rw[aq];unfold xB;simp! only[List.set,K];refine⟨b,ts,ah b_,ae b_,rfl,P,F,λR A=>?_⟩;have L3:=L2.up A;have g3:=A _ _ P;have Sq:=A _ _ So;have bk:=Fx W ok nd hl d;have hj:((aQ ts (ah b_) (ae b_)).map (·.length)).sum+(aQ ts (ah b_) (ae b_)).length*("\n" : Str).length<=16777216:=c4 (n:=201) (k:=10000) (by simp only[aQ,ZJ,ZF,YI,YS];omega) (λx hx=>by
  unfold aQ at hx;rcases YA.1 hx with hx | hx
  ·rcases YA.1 hx with hx | hx
   ·rw[XG] at hx
    subst hx
    have:=hJ W
    omega
   ·obtain⟨a,ha,rfl⟩:=XU.1 hx
    have:=(F.s a ha).one (y:="say") (by rfl')
    unfold bc;omega
  ·obtain⟨r,d,rfl⟩:=XU.1 hx
   exact(F.r r d).le) 'a'
 unfold xA;simp! only[List.set,nC];refine⟨by decide,?_⟩;show aN false _ _;rw[aq];refine⟨trivial,?_⟩;show aH (aU (R c)) _;rw[Sq];show aH (dm (aa (aQ ts (ah b_) (ae b_)))) _;rw[bx];refine⟨hj,⟨rfl,rfl,YL _⟩,?_⟩;rw[show aP (D.str (Str.join (Str.ofString "\n") (aQ ts (ah b_) (ae b_)))) (D.str (Str.join (Str.ofString "\n") (aQ ts (ah b_) (ae b_))))=true from dw _ rfl];show wSs cn qH (fin Q) [↑a,↑pw,↑ps,↑pr,↑pl,o,p,t,↑c,↑b,some (.str (Str.join "\n" (aQ ts (ah b_) (ae b_)))),none,none] R;unfold qH;simp! only[List.set,z];refine⟨_,ts,ah b_,ae b_,rfl,bk,λM4 E S _ g4=>?_⟩;have L4:=L3.up S;have Sr:=S _ _ g3;unfold xz;simp! only[List.set,z];refine⟨_,["b"],[["b","b"]],[],rfl,Db W,λM5 b5 G _ g5=>?_⟩;have j:=L4.up G;have T:=G _ _ g4;have Su:=G _ _ Sr;unfold xy;simp! only[List.set,g5,yO,xx,u,j.ext _ _ hw,xt];refine⟨Z,⟨by rfl',by rfl',by rfl'⟩,?_⟩;rw[show aP (D.tup ([[("b" : Str), "b"]].map ak)) (D.tup [D.tup [D.str (Str.ofString "b"),D.str (Str.ofString "b")]])=true by rfl'];show aN false _ _;rw[aq];refine⟨o3,⟨rfl,rfl,by decide⟩,?_⟩;show aN false _ _;rw[aq];refine⟨E,pt,ps,pr,ts,ah b_,ae b_,rfl,T,⟨j.ext _ _ ht,j.s,j.r⟩,F,λM6 I=>?_⟩;have L6:=j.up I;have Sv:=I _ _ T;have Sw:=I _ _ Su;show wSs cn qG (fin Q) [↑a,↑pw,↑ps,↑pr,↑pl,o,p,t,↑c,↑b,some (.str (Str.join "\n" (aQ ts (ah b_) (ae b_)))),↑E,↑b5] M6;unfold qG;simp! only[List.set,K,u];refine⟨E,ts,ah b_,ae b_,rfl,Sv,F,λM7 U=>?_⟩;have m:=L6.up U;have Sx:=U _ _ Sw;rw[1];rw[show aP (D.str (Str.join (Str.ofString "\n") (aQ ts (ah b_) (ae b_)))) (D.str (Str.join (Str.ofString "\n") (aQ ts (ah b_) (ae b_))))=true from dw _ rfl];rw[bu];show match M7 pw with | some (.dic d_)=>_ | some (.rod d_)=>_ | _=>_
 rw[m.ext _ _ hw];dsimp only;rw[xt];exact⟨b,pt,ps,pr,ts,ah b_,ae b_,rfl,Sx,⟨m.ext _ _ ht,m.s,m.r⟩,F,λM8 _=>q M8⟩
end
section
variable {cn:Cn}{C:Addr}{ds:List D}{M:MH}{Q:DK}
theorem Dd{a pw ps pr pl:Addr}{ts ws ss:Zf}{b_:List Item}{B M:MH}{b c d:Zv}(hO:∀f∈jO,cn.O C f)(f0:cn.F.getD 0 'e'=iM C)(f1:cn.F.getD 1 'e'=gr C)(f2:cn.F.getD 2 'e'=lc C)(f3:cn.F.getD 3 'e'=dO)
  (wa:cz pw ts ws ss B) (W:av ts ws ss) (L:LA B ps pr pl (ah b_) (ae b_) (au ts::b_.map Item.text) M) (ok:∀i∈b_,i.ok ts ws ss) (nd:(ah b_).Nodup) (hl:b_.length<=60) (P:(ae b_).length<=30) (q:∀M',Q (.bl true) M'):
  wSs cn qJ (fin Q) [↑a,↑pw,↑ps,↑pr,↑pl,b,c,d,none,none,none,none,none] M:=by
 have F:=uJ W ok hl P;have sl:=gt b_;unfold qJ;have R:bv (aa (au ts::b_.map Item.text)) 0=some (.str (au ts)):=uD _ _;rw[wSs,iZ,wS,lY];have G:∀(M:MH) (Z:DK),LA B ps pr pl (ah b_) (ae b_) (au ts::b_.map Item.text) M->(∀p M',LA B ps pr pl (ah b_) (ae b_) (au ts::b_.map Item.text) M'->M' p=some (.lst (aa ([au ts]++(ah b_).map bc)))->Z (.ref p) M') ->
   wE cn (.bin .Add (.lst (.cons (.ix (.var 4) (.int 0)) .nil)) (.comp 1 (.mt .join (.str " ") (.cons (.bin .Add (.lst (.cons (.str "say") .nil)) (.bk .list (.cons (.var 13) .nil))) .nil)) (.nm 13) (.seq (.var 2)) .no)) [↑a,↑pw,↑ps,↑pr,↑pl,b,c,d,none,none,none,none,none] M Z:=by
  intro M Z L k;have R:bv (aa (au ts::b_.map Item.text)) 0=some (.str (au ts)):=uD _ _;rw[wE,io];simp only[wE,nj,wEs,gv,lO,io,nA,gR,List.getElem?_cons_zero,List.getElem?_cons_succ,L.l,R,aH];intro n Lz;have I:=L.up (af.new (o:=MO.lst [.str (au ts)]) Lz);have g1:ad M n (.lst [.str (au ts)]) n=some (.lst (aa [au ts])):=ab;generalize ad M n (.lst [.str (au ts)])=M1 at *;show wE cn (.comp 1 (.mt .join (.str " ") (.cons (.bin .Add (.lst (.cons (.str "say") .nil)) (.bk .list (.cons (.var 13) .nil))) .nil)) (.nm 13) (.seq (.var 2)) .no) [↑a,↑pw,↑ps,↑pr,↑pl,b,c,d,none,none,none,none,none] M1 _;rw[wE,iu,wI,iq,wE];simp only[gR,List.getElem?_cons_zero,List.getElem?_cons_succ,nv,I.s];refine eT (em:=ak) (f:=λa=>.str (bc a)) (M0:=M1) (ok:=λσ=>∃v,σ=[↑a,↑pw,↑ps,↑pr,↑pl,b,c,d,none,none,none,none,none,v]) [] _ M1 ⟨none,rfl⟩ (af.refl _) ?_ ?_
  ·intro x hx σ acc rest M2 ⟨v,hv⟩ e2 J
   subst hv;have S:=F.s x hx;show wE cn _ [↑a,↑pw,↑ps,↑pr,↑pl,b,c,d,none,none,none,none,none,some (ak x)] M2 _;refine join_one (x:="say") (a:=x) (λM' Z z=>?_) S.2.1 (λy hy=>?_) λg T=>?_
   ·rw[wE];exact z
   ·rcases ZY.1 hy with rfl | hy
    ·rfl'
    ·exact S.2.2 y hy
   ·exact⟨(I.up (e2.trans T)).s,J _ g ⟨_,rfl⟩ (e2.trans T)⟩
  ·intro M2 e2 t U
   rw[YX,show(ah b_).map (λa=>D.str (bc a))=aa ((ah b_).map bc) by simp[aa]];have L2:=I.up e2;have j:=L2.up (af.new (o:=MO.lst (aa ((ah b_).map bc))) U);have g2:=af.new (o:=MO.lst (aa ((ah b_).map bc))) U _ _ (e2 _ _ g1);have K:ad M2 t (.lst (aa ((ah b_).map bc))) t=some (.lst (aa ((ah b_).map bc))):=ab;generalize ad M2 t (.lst (aa ((ah b_).map bc)))=g at *;show match g n,g t with | some (.lst xs),some (.lst ys)=>_ | _,_=>_
   rw[g2,K];refine⟨by rw[sizeLine_eq,aR,aR,ZF];show 1+_<=_;omega,λN JO=>?_⟩;rw[show aa [au ts]++aa ((ah b_).map bc)=aa ([au ts]++(ah b_).map bc) by simp[aa]];exact k N _ (j.up (af.new JO)) ab
 rw[wE,io];refine G M _ L λN g j K=>?_
 rw[wE,iu,wI,iq,wE];simp only[gR,List.getElem?_cons_zero,List.getElem?_cons_succ,nv,j.r];refine eT (em:=bn) (f:=λr=>.str (a8 r)) (M0:=g) (ok:=λσ=>∃v,σ=[↑a,↑pw,↑ps,↑pr,↑pl,b,c,d,none,none,none,none,none,v]) [] _ g ⟨none,rfl⟩ (af.refl _) ?_ ?_
 ·intro x hx σ acc rest u ⟨v,hv⟩ m J
  subst hv;have run:∀(M:MH) (Z:DK),dO [bn x] M Z->wE cn (.fn 3 (.cons (.var 13) .nil)) [↑a,↑pw,↑ps,↑pr,↑pl,b,c,d,none,none,none,none,none,some (bn x)] M Z:=by
   intro M Z z;rw[wE,f3,cE,wEs,gv,wE];exact z
  exact run u _ ⟨x,rfl,F.r x hx,λA V=>⟨(j.up (m.trans V)).r,J _ A ⟨_,rfl⟩ (m.trans V)⟩⟩
 ·intro u m E Y
  rw[YX,show(ae b_).map (λa=>D.str (a8 a))=aa ((ae b_).map a8) by simp[aa]];have L4:=j.up m;have L5:=L4.up (af.new (o:=MO.lst (aa ((ae b_).map a8))) Y);have g4:=af.new (o:=MO.lst (aa ((ae b_).map a8))) Y _ _ (m _ _ K);have g5:ad u E (.lst (aa ((ae b_).map a8))) E=some (.lst (aa ((ae b_).map a8))):=ab;generalize ad u E (.lst (aa ((ae b_).map a8)))=A at *;show match A N,A E with | some (.lst xs),some (.lst ys)=>_ | _,_=>_
  rw[g4,g5];refine⟨by rw[sizeLine_eq,aR,aR,ZF,ZJ,ZF];show 1+_+_<=_;omega,λp6 LC=>?_⟩;rw[show aa ([au ts]++(ah b_).map bc)++aa ((ae b_).map a8)=aa (aQ ts (ah b_) (ae b_)) by simp[aa,aQ]];exact Dc hO f0 f1 f2 wa W (L5.up (af.new LC)) ok nd hl P ab q
theorem Hh(hO:∀f∈jO,cn.O C f)(f0:cn.F.getD 0 'e'=iM C)(f1:cn.F.getD 1 'e'=gr C)(f2:cn.F.getD 2 'e'=lc C)(f3:cn.F.getD 3 'e'=dO)(f4:cn.F.getD 4 'e'=cV)(f5:cn.F.getD 5 'e'=oN)(f6:cn.F.getD 6 'e'=oO)(f7:cn.F.getD 7 'e'=oA)(f8:cn.F.getD 8 'e'=oJ)(h:vc ds M Q):
  wSs cn sQ (fin Q) (aC ["","","","","","","","","","","","",""] ds) M:=by
 obtain⟨a,ns,rfl,hM,hn,q⟩:=h;show wSs cn sQ (fin Q) [↑a,none,none,none,none,none,none,none,none,none,none,none,none] M;unfold sQ;simp! only[List.set,f8];refine⟨a,ns,rfl,hM,λpw ts ws ss B eB T W=>?_⟩;obtain⟨pt,pq,pz,hw,ht,hq,hz⟩:=T.get;have hB:=eB _ _ hM;unfold uP;simp! only[List.set];intro ps LO;have x1:=af.new (o:=MO.lst []) LO;have U:ad B ps (.lst []) ps=some (.lst []):=ab;generalize ad B ps (.lst [])=M1 at *;unfold uO;simp! only[List.set];intro pr V;have n1:ps≠pr:=λz=>by rw[z,V] at U;cases U
 have Sy:=none_of x1 V;have x2:=af.new (o:=MO.lst []) V;have Y:=x2 _ _ U;have g2:ad M1 pr (.lst []) pr=some (.lst []):=ab;have K:=x1.trans x2;generalize ad M1 pr (.lst [])=M2 at *;unfold uN;have lt:=W.shortT;have l2:=di (n:=20) lt.2.2;have l3:=lt.2.1;simp! only[List.set,K _ _ hw,xt,K _ _ ht,aU,bx];refine⟨trivial,c4 lt.2.1 lt.2.2 'a',by rw[sizeLine_eq];show 7+_<=_;omega,λpl N=>?_⟩;have e0:("things " : Str)++Str.join " " ts=au ts:=by
  unfold au;rw[←jU lt.1];rfl
 rw[show Str.ofString "things " ++ Str.join (Str.ofString " ") ts=au ts from e0];have n2:ps≠pl:=λz=>by rw[z,N] at Y;cases Y
 have n3:pr≠pl:=λz=>by rw[z,N] at g2;cases g2
 have A:Apart B ps pr pl:=⟨LO,Sy,none_of K N,n1,n2,n3⟩;have x3:=af.new (o:=MO.lst [.str (au ts)]) N;have L0:LA B ps pr pl (ah []) (ae []) (au ts::([]:List Item).map Item.text) (ad M2 pl (.lst [.str (au ts)])):=⟨K.trans x3,x3 _ _ Y,x3 _ _ g2,ab⟩;generalize ad M2 pl (.lst [.str (au ts)])=M3 at *;unfold uM;simp! only[List.set,L0.ext _ _ hB,ZF];have Sz:(if(if(60:Int)<(ns.length:Int) then(60:Int) else(ns.length:Int))>4 then(if(60:Int)<(ns.length:Int) then(60:Int) else(ns.length:Int)) else 4)<=60:=by split<;>split<;>omega
 have SA:4<=(if(if(60:Int)<(ns.length:Int) then(60:Int) else(ns.length:Int))>4 then(if(60:Int)<(ns.length:Int) then(60:Int) else(ns.length:Int)) else 4):=by split<;>omega
 generalize (if(if(60:Int)<(ns.length:Int) then(60:Int) else(ns.length:Int))>4 then(if(60:Int)<(ns.length:Int) then(60:Int) else(ns.length:Int)) else 4)=mx at *;refine⟨⟨by omega,by omega⟩,?_⟩;refine tM (λi σ M'=>∃(b_:List Item) (v5 G c:Zv),b_.length<=i/\(∀t∈b_,t.ok ts ws ss)/\(ah b_).Nodup/\(ae b_).length<=30/\σ=[↑a,↑pw,↑ps,↑pr,↑pl,v5,G,c,none,none,none,none,none]/\LA B ps pr pl (ah b_) (ae b_) (au ts::b_.map Item.text) M')
  ⟨[],none,none,none,YE _,(λx hx=>nomatch hx),List.nodup_nil,YL _,rfl,L0⟩ ?_ ?_
 ·rintro i hi σ rest M' ⟨b_,v5,G,c,hl,ok,nd,P,rfl,L⟩ k
  have sl:=gt b_;have body:∀(E:dH) (j:Nat),(∀(g_:List Item) (Pe LF:Zv) (j_:MH),g_.length<=i+1->(∀t∈g_,t.ok ts ws ss)->(ah g_).Nodup->(ae g_).length<=30->LA B ps pr pl (ah g_) (ae g_) (au ts::g_.map Item.text) j_->E.nx [↑a,↑pw,↑ps,↑pr,↑pl,~~~j,Pe,LF,none,none,none,none,none] j_) ->
    wSs cn jZ E [↑a,↑pw,↑ps,↑pr,↑pl,~~~j,G,c,none,none,none,none,none] M':=by
   intro E j kk;unfold jZ;simp! only[List.set,f7];refine⟨a,ns,j,rfl,L.ext _ _ hB,λp hp=>?_⟩;have b1:=Bx.make (b:=nL ns j) hp;generalize ad M' p (.lst [.int (nL ns j)])=M4 at *;have Qr:cz pw ts ws ss M':=T.up L.ext;have say:∀d,Bx M' p d->wSs cn (.cons (.set 7 (.fn 6 (.cons (.var 6) (.cons (.var 1) .nil)))) nY) E [↑a,↑pw,↑ps,↑pr,↑pl,~~~j,↑p,c,none,none,none,none,none] d:=by
    intro d g;simp! only[List.set,f6];refine⟨M',p,pw,ts,ws,ss,rfl,Qr,W,g,λx I S b6=>?_⟩;have m:=L.up b6.ext;unfold nY;simp! only[List.set];show match aU (I ps) with | some ds=>_ | none=>_
    rw[m.s];refine⟨⟨bK x,nP _,qw _⟩,?_⟩;rw[yL];refine pE (λhx=>?_) λhx=>?_
    ·have hx:x∉ah b_:=by simpa using hx
     refine⟨rfl,by rw[sizeLine_eq,ZF];omega,?_⟩;have u:=m.say A x;generalize ad I ps (.lst ((ah b_).map ak++[ak x]))=M7 at *;unfold uK;rw[wSs,iZ,wS,jA,wE,rJ,wE];refine⟨by show(aU (M7 pl)).isSome=true;rw[u.l];rfl,?_⟩;rw[wEs,gv];have Sh:=cQ.short W S;refine join_one (x:="say") (a:=x) (λM' Z z=>?_) Sh.2.1 (λy hy=>?_) λM8 e8=>?_
     ·rw[wE];exact z
     ·rcases ZY.1 hy with rfl | hy
      ·rfl'
      ·exact Sh.2.2 y hy
     have J:=u.up e8;rw[wEs,lO];show match M8 pl with | some (.lst xs)=>_ | _=>_
     rw[J.l];refine⟨by rw[sizeLine_eq,aR,YI,ZF];omega,?_⟩;have L9:=J.line A (bc x);rw[wSs];refine kk (b_++[.say x]) _ _ _ (by simp;omega) (λt ht=>?_) ?_ ?_ ?_
     ·rcases YA.1 ht with ht | ht
      ·exact ok t ht
      ·rw[XG.1 ht];exact S
     ·rw[db]
      show(ah b_++[x]).Nodup;rw[List.nodup_append];exact⟨nd,by simp,λy hy z hz e=>hx (by rw[XG] at hz;rw[←hz,←e];exact hy)⟩
     ·rw[cS]
      show(ae b_++[]).length<=30;rw[ZA];exact P
     ·rw[db,cS,ZK]
      show LA B ps pr pl (ah b_++[x]) (ae b_++[]) (au ts::(b_.map Item.text++[bc x])) _;rw[ZA];exact L9
    ·exact kk b_ _ _ _ 'c' ok nd P m
   unfold uL;simp! only[List.set,f4];refine⟨M',p,3,rfl,b1,by decide,λv d hv g _=>?_⟩;show aN (decide ((0:Int)<(v:Int))) _ _;refine kG (λ_=>?_) λ_=>?_
   ·have L5:=L.up g.ext
    simp! only[List.set,L5.r,ZF];refine kG (λS7=>?_) λ_=>?_
    ·rw[f5]
     refine⟨rfl,M',p,pw,ts,ws,ss,rfl,Qr,W,g,λr I R b6=>?_⟩;have m:=L.up b6.ext;show match I pr with | some (.lst xs)=>_ | _=>_
     rw[m.r];refine⟨by rw[sizeLine_eq,ZF];omega,?_⟩;have u:=m.rule A r;generalize ad I pr (.lst ((ae b_).map bn++[bn r]))=M7 at *;unfold xE;have il:bv ((ae b_++[r]).map bn) (-1)=some (bn r):=by
      have i_:((ae b_++[r]).map bn).length=(ae b_).length+1:=by simp
      unfold bv iQ;rw[i_,if_neg 'a',if_pos 'c'];show((ae b_++[r]).map bn)[((-1:Int)+(((ae b_).length+1:Nat):Int)).toNat]?=_;rw[show((-1:Int)+(((ae b_).length+1:Nat):Int)).toNat=(ae b_).length by omega,ZK,ZH (by simp),ZF,Nat.sub_self];rfl
     simp! only[List.set,f3,u.r,il];refine⟨by show(aU (M7 pl)).isSome=true;rw[u.l];rfl,r,rfl,bI.fine W R,λM8 e8=>?_⟩;have J:=u.up e8;show match M8 pl with | some (.lst xs)=>_ | _=>_
     rw[J.l];refine⟨by rw[sizeLine_eq,aR,YI,ZF];omega,?_⟩;have L9:=J.line A (a8 r);refine kk (b_++[.rule r]) _ _ _ (by simp;omega) (λt ht=>?_) ?_ ?_ ?_
     ·rcases YA.1 ht with ht | ht
      ·exact ok t ht
      ·rw[XG.1 ht];exact R
     ·rw[db]
      show(ah b_++[]).Nodup;rw[ZA];exact nd
     ·rw[cS]
      show(ae b_++[r]).length<=30;rw[ZJ];show(ae b_).length+1<=30;omega
     ·rw[db,cS,ZK]
      show LA B ps pr pl (ah b_++[]) (ae b_++[r]) (au ts::(b_.map Item.text++[a8 r])) _;rw[ZA];exact L9
    ·exact say d g
   ·exact say d g
  show wSs cn jZ _ [↑a,↑pw,↑ps,↑pr,↑pl,some (.int (3+(i:Int))),G,c,none,none,none,none,none] M';rw[show(3:Int)+(i:Int)=((3+i:Nat):Int) by omega];exact body _ _ λg_ Pe LF j_ a1 a2 a3 a4 a5=>⟨trivial,k _ _ ⟨g_,_,Pe,LF,a1,a2,a3,a4,rfl,a5⟩⟩
 ·rintro σ M' ⟨b_,v5,G,c,hl,ok,nd,P,rfl,L⟩
  exact Dd hO f0 f1 f2 f3 T W L ok nd 'c' P q
end
end SB
namespace K02
open PySem L2 DD
abbrev j0:List Str:=["head","conds","atoms","counted","variable","variables","atom"]
abbrev jt:List Str:=["head","conds"]
theorem qK:cI j0 jt (ax dk):=⟨rfl,rfl,rfl,by rfl',rfl,by rfl',by rfl'⟩
abbrev qL:List Str:=["is_variable"]
theorem qM:c7 ⟨j0,ax dk,true,om,s9,qL⟩ SB.da (aY dk)=true:=by rfl'
abbrev nZ:List Str:=["_law_found","_law_due"]
abbrev d4:List Str:=["_law_found","_law_due"]
theorem mX:cI nZ d4 (ax eZ):=⟨rfl,rfl,rfl,by rfl',rfl,by rfl',by rfl'⟩
abbrev uZ:List Str:=["_law_strict"]
theorem mY:c7 ⟨nZ,ax eZ,true,om,s9,uZ⟩ SB.cj (aY eZ)=true:=by rfl'
abbrev DF:List Str:=["_law_script","_law_world_here","_law_said_here","_law_rules","_law_lines","_law_k","_law_box_here","_law_atom_here","_law_due","_law_book","_law_text","_law_other","_law_plain"]
abbrev Hi:List Str:=["_law_script"]
theorem Hj:cI DF Hi (ax rh):=⟨rfl,rfl,rfl,by rfl',rfl,by rfl',by rfl'⟩
abbrev Hk:List Str:=["write_book","_law_is_book","read_book","_law_rule_text","_law_take","_law_rule","_law_said","_law_box","_law_world"]
theorem Hl:c7 ⟨DF,ax rh,true,om,s9,Hk⟩ SB.sQ (aY rh)=true:=by rfl'
end K02
namespace K02
open PySem PySem.Spec PyProof.Rows L2 DD
theorem JF{P:List Value->Prop}(h:P []):∀us:List Value,us.length=0->P us
 |[],_=>h
theorem Hm{P:List Value->Prop}(h:∀a,P [a]):∀us:List Value,us.length=1->P us
 |a::t,hl=>JF (P:=λt=>P (a::t)) (h a) t (Nat.succ.inj hl)
 |[],hl=>nomatch hl
theorem Iy{P:List Value->Prop}(h:∀a b,P [a,b]):∀us:List Value,us.length=2->P us
 |a::t,hl=>Hm (P:=λt=>P (a::t)) (h a) t (Nat.succ.inj hl)
 |[],hl=>nomatch hl
theorem Iz{P:List Value->Prop}(h:∀a b c,P [a,b,c]):∀us:List Value,us.length=3->P us
 |a::t,hl=>Iy (P:=λt=>P (a::t)) (h a) t (Nat.succ.inj hl)
 |[],hl=>nomatch hl
theorem IA{P:List Value->Prop}(h:∀a b c d,P [a,b,c,d]):∀us:List Value,us.length=4->P us
 |a::t,hl=>Iz (P:=λt=>P (a::t)) (h a) t (Nat.succ.inj hl)
 |[],hl=>nomatch hl
theorem IB{P:List Value->Prop}(h:∀a b c d e,P [a,b,c,d,e]):∀us:List Value,us.length=5->P us
 |a::t,hl=>IA (P:=λt=>P (a::t)) (h a) t (Nat.succ.inj hl)
 |[],hl=>nomatch hl
theorem JG{P:List Value->Prop}(h:∀a b c d e f,P [a,b,c,d,e,f]):∀us:List Value,us.length=6->P us
 |a::t,hl=>IB (P:=λt=>P (a::t)) (h a) t (Nat.succ.inj hl)
 |[],hl=>nomatch hl
local macro_rules
 | `(tactic| ac_rfl) => `(tactic| exact ⟨rfl, rfl, rfl, by rfl', rfl, by rfl', by rfl'⟩)
abbrev nO(st:Stmt):List Str:=((ax st).names.filter λp=>p.2==.local || p.2==.cell).map (·.1)
local macro_rules
 | `(tactic| ac_nf) => `(tactic| first | exact λ_ _ _ _ _ _ => Hm λ_ => rfl | exact λ_ _ _ _ _ _ => Iy λ_ _ => rfl | exact λ_ _ _ _ _ _ => Iz λ_ _ _ => rfl | exact λ_ _ _ _ _ _ => IA λ_ _ _ _ => rfl | exact λ_ _ _ _ _ _ => IB λ_ _ _ _ _ => rfl | exact λ_ _ _ _ _ _ => JG λ_ _ _ _ _ _ => rfl)
local macro_rules
 | `(tactic| bv_omega) => `(tactic| (intro ds M Q h; first | (obtain ⟨_, e, _⟩ := h; subst e; rfl) | (obtain ⟨_, _, e, _⟩ := h; subst e; rfl) | (obtain ⟨_, _, _, e, _⟩ := h; subst e; rfl) | (obtain ⟨_, _, _, _, e, _⟩ := h; subst e; rfl) | (obtain ⟨_, _, _, _, _, e, _⟩ := h; subst e; rfl) | (obtain ⟨_, _, _, _, _, _, e, _⟩ := h; subst e; rfl) | (obtain ⟨_, _, _, _, _, _, _, e, _⟩ := h; subst e; rfl) | (obtain ⟨_, _, _, _, _, _, _, _, e, _⟩ := h; subst e; rfl) | (obtain ⟨_, _, _, _, _, _, _, _, _, e, _⟩ := h; subst e; rfl) | (obtain ⟨_, _, _, _, _, _, _, _, _, _, e, _⟩ := h; subst e; rfl) | (obtain ⟨_, _, _, _, _, _, _, _, _, _, _, e, _⟩ := h; subst e; rfl) | (obtain ⟨_, _, _, _, _, _, _, _, _, _, _, _, e, _⟩ := h; subst e; rfl) | (obtain ⟨_, _, _, _, _, _, _, _, _, _, _, _, _, e, _⟩ := h; subst e; rfl) | (obtain ⟨_, _, _, _, _, _, _, _, _, _, _, _, _, _, e, _⟩ := h; subst e; rfl)))
def BG(C:Addr):rN:=λQ f=>Q=C/\f∈SB.jO
section
variable {P:Zt}{w:World}{K:Za}{mg:Ze}{base:Heap}{C:Addr}{k:Nat}
theorem BH{x:Str}{st:Stmt}{ps:Zf}{f:Addr}{fd:Zs}(a:lJ K mg x st ps f fd):bR P w K mg base k x 'e':=
 ⟨st,ps,f,fd,a,⟨λ_ _ _ _ ⟨_,_,_,_,_,z,_⟩=>z.elim,λ_ _ _ _ _ _ _ _ _ _ _ _ _ ⟨_,_,_,_,_,z,_⟩=>z.elim⟩⟩
theorem cx{h:Heap}{x:Str}{st:Stmt}{N:Zf}{sp:aI}{a:Ss}{glob blt fns:Zf}{cn:Cn}(A:bC K x st){ps:Zf}(X:K.In h)(G:h.Ns mainGlobals mg)
  (hb:∀(kV l_ pm:Value) (an:Zm) (i' ct:Value) (us:Zd),us.length=ps.length->bindArgs (PySem.W.fnOf x x (bU st) (aY st) (ax st) .none kV l_ pm an i' ct) ⟨us,[]⟩=pure (ps.zip us))
  (S:cI N ps (ax st)) (nm:Names P w K mg base k glob blt fns cn) (hc:c7 ⟨N,ax st,true,glob,blt,fns⟩ a (aY st)=true) (len:∀ds M Q,sp ds M Q->ds.length=ps.length)
  (h':∀ds M Q,sp ds M Q->wSs cn a { nx:=λ_ M'=>Q .non M',rt:=Q } (aC N ds) M):bR P w K mg base (k+1) x sp:=by
 obtain⟨_,_,A⟩:=A;exact wD (A.def_ X G hb) S nm hc len h'
theorem JH{x:Str}{C:Addr}{h_:Str}{st:Stmt}{ps N:Zf}{sp:aI}{a:Ss}{glob blt fns:Zf}{cn:Cn}(hx:mg x=some (.ref C))(hm:PySem.W.makesIn K C=true)(hk:PySem.W.keepIn K (.ref C)=true)(A:Ds K C "__init__" h_ st)
  (S:cI N ps (ax st)) (nm:Names P w K mg base k glob blt fns cn)
  (hb:∀(kV l_ pm:Value) (an:Zm) (i' ct:Value) (us:Zd),us.length=ps.length->bindArgs (PySem.W.fnOf "__init__" h_ (bU st) (aY st) (ax st) .none kV l_ pm an i' ct) ⟨us,[]⟩=pure (ps.zip us))
  (hc:c7 ⟨N,ax st,true,glob,blt,fns⟩ a (aY st)=true) (len:∀ds M Q,sp ds M Q->ds.length=ps.length)
  (h:∀ds M Q,sp ds M Q->wSs cn a { nx:=λ_ M'=>Q .non M',rt:=Q } (aC N ds) M):gy P w K mg base (k+2) x (kJ C sp):=by
 obtain⟨_,_,A⟩:=A;exact G6 hx hm hk A S nm hb hc len h
structure fD (K:Za) (mg:Ze) (C:Addr):Prop where
 gl:∀(j:Nat) x,om[j]?=some x->nh K mg x (zk.getD j .non)
 bl:∀x,s9.contains x=true->mg x=none
 c_Book:clsIn K C SB.jO=true
theorem fD.f_Book(E:fD K mg C):∀Q f,BG C Q f->jv K Q/\cB K Q f:=by
 rintro Q f ⟨rfl,a⟩;exact⟨AI E.c_Book,Cf E.c_Book a⟩
abbrev JI(P:Zt)(w:World)(K:Za)(mg:Ze)(base:Heap)(k:Nat)(fns:Zf)(F:List aI):Prop:=∀(j:Nat) (x:Str),fns[j]?=some x->∃k',k'<=k/\gy P w K mg base k' x (F.getD j λ_ _ _=>False)
theorem bY{fns:Zf}{F:List aI}(E:fD K mg C)(a:JI P w K mg base k fns F):
 Names P w K mg base k om s9 fns ⟨F,zk,BG C,λ_ _=>none,λ_ _=>none,λ_ _=>False⟩:=⟨E.gl,E.bl,a,E.f_Book,(λ_ _ _ z=>nomatch z),(λ_ _ _ z=>nomatch z),(λ_ _ z=>z.elim)⟩
theorem Hn(E:fD K mg C)
  {hp:Heap}
  (X:K.In hp)
  (G:hp.Ns mainGlobals mg)
  {j:Addr}{l:Zs}(JR:aO K "law" rh j l)
  (q:mg "Book" = some (.ref C)) (r:PySem.W.makesIn K C=true) (t:PySem.W.keepIn K (.ref C)=true)
  (hy:Gw K C):
  dR P w K mg base jw 10 j l ["_law_script"] (eU K SB.vc):=by
 obtain⟨_,_,a_3⟩:=hy.a_3;have u:bR P w K mg base 1 "cond_text" (SB.cO):=cx hy.a_0 (N:=nO kn) (ps:=(nO kn).take 1) X G (by ac_nf) (by ac_rfl) (bY (F:=[]) (k:=0) E (aF (F:=[]))) (by rfl') (by bv_omega) (λds M Q h=>SB.w6 h);have y:bR P w K mg base 2 "rule_line" (SB.iH):=cx hy.a_1 (N:=nO km) (ps:=(nO km).take 2) X G (by ac_nf) (by ac_rfl) (bY (F:=[SB.cO]) (k:=1) E (al 'a' (.inl u) (aF (F:=[])))) (by rfl') (by bv_omega) (λds M Q h=>SB.xl rfl h);have z:bR P w K mg base 3 "write_book" (SB.iM C):=cx hy.a_2 (N:=nO iY) (ps:=(nO iY).take 1) X G (by ac_nf) (by ac_rfl) (bY (F:=[SB.iH]) (k:=2) E (al 'a' (.inl y) (aF (F:=[])))) (by rfl') (by bv_omega) (λds M Q h=>SB.uY (λf a=>⟨rfl,a⟩) rfl h);have A:∀d,bR P w K mg base (1+d) "_law_strict" (SB.eg d):=by
  intro d;induction d with
  |zero=>exact wD (k:=0) (a_3.def_ (ps:=d4) X G (by ac_nf)) mX (bY (F:=['e']) (k:=0) E (al 'c' (.inl (BH (k:=0) (a_3.def_ (ps:=d4) X G (by ac_nf)))) (aF (F:=[])))) mY (by bv_omega) (λds M Q h=>SB.xL h)
  |succ d B=>exact wD (k:=1+d) (a_3.def_ (ps:=d4) X G (by ac_nf)) mX (bY (F:=[SB.eg d]) (k:=1+d) E (al (YE _) (.inl B) (aF (F:=[])))) mY (by bv_omega) (λds M Q h=>SB.xM rfl h)
 have I:bR P w K mg base 7 "_law_is_book" (SB.gr C):=cx hy.a_4 (N:=nO gU) (ps:=(nO gU).take 4) X G (by ac_nf) (by ac_rfl) (bY (F:=[SB.eg 5]) (k:=6) E (al 'a' (.inl (A 5)) (aF (F:=[])))) (by rfl') (by bv_omega) (λds M Q h=>SB.zV (λf a=>⟨rfl,a⟩) rfl h);have J:gy P w K mg base 2 "Book" (kJ C (SB.iF C)):=JH (N:=nO kt) (ps:=(nO kt).take 4) q r t hy.a_35 (by ac_rfl) (bY (F:=[]) (k:=0) E (aF (F:=[]))) (by ac_nf) (by rfl') (by bv_omega) (λds M Q h=>SB.wZ (λf a=>⟨rfl,a⟩) h);have g:bR P w K mg base 1 "is_variable" (SB.jI):=cx hy.a_5 (N:=nO gS) (ps:=(nO gS).take 1) X G (by ac_nf) (by ac_rfl) (bY (F:=[]) (k:=0) E (aF (F:=[]))) (by rfl') (by bv_omega) (λds M Q h=>SB.tF rfl h);have L:bR P w K mg base 2 "variables_fit" (SB.sy):=cx hy.a_6 (ps:=jt) X G (by ac_nf) qK (bY (F:=[SB.jI]) (k:=1) E (al 'a' (.inl g) (aF (F:=[])))) qM (by bv_omega) (λds M Q h=>SB.qv rfl rfl h);have m:bR P w K mg base 1 "is_name" (SB.kN):=cx hy.a_7 (N:=nO np) (ps:=(nO np).take 1) X G (by ac_nf) (by ac_rfl) (bY (F:=[]) (k:=0) E (aF (F:=[]))) (by rfl') (by bv_omega) (λds M Q h=>SB.zL rfl rfl rfl h);have c:bR P w K mg base 2 "read_atom" (SB.df):=cx hy.a_8 (N:=nO ke) (ps:=(nO ke).take 2) X G (by ac_nf) (by ac_rfl) (bY (F:=[SB.jI,SB.kN]) (k:=1) E (al 'a' (.inl g) (al 'a' (.inl m) (aF (F:=[]))))) (by rfl') (by bv_omega) (λds M Q h=>SB.wH rfl rfl rfl h);have n:bR P w K mg base 2 "stands_in" (SB.fU):=cx hy.a_9 (N:=nO kj) (ps:=(nO kj).take 2) X G (by ac_nf) (by ac_rfl) (bY (F:=[SB.jI]) (k:=1) E (al 'a' (.inl g) (aF (F:=[])))) (by rfl') (by bv_omega) (λds M Q h=>SB.wL rfl h);have O:bR P w K mg base 3 "read_first" (SB.oC):=cx hy.a_10 (N:=nO iX) (ps:=(nO iX).take 2) X G (by ac_nf) (by ac_rfl) (bY (F:=[SB.fU,SB.df]) (k:=2) E (al 'a' (.inl n) (al 'a' (.inl c) (aF (F:=[]))))) (by rfl') (by bv_omega) (λds M Q h=>SB.uV rfl rfl h);have R:bR P w K mg base 3 "read_many" (SB.sn):=cx hy.a_11 (N:=nO kh) (ps:=(nO kh).take 2) X G (by ac_nf) (by ac_rfl) (bY (F:=[SB.fU,SB.df]) (k:=2) E (al 'a' (.inl n) (al 'a' (.inl c) (aF (F:=[]))))) (by rfl') (by bv_omega) (λds M Q h=>SB.wN rfl rfl rfl h);have S:bR P w K mg base 4 "read_cond" (SB.sx):=cx hy.a_12 (N:=nO kg) (ps:=(nO kg).take 2) X G (by ac_nf) (by ac_rfl) (bY (F:=[SB.df,SB.oC,SB.sn]) (k:=3) E (al 'a' (.inl c) (al 'a' (.inl O) (al 'a' (.inl R) (aF (F:=[])))))) (by rfl') (by bv_omega) (λds M Q h=>SB.wV rfl rfl rfl h);have T:bR P w K mg base 5 "read_conds" (SB.oF):=cx hy.a_13 (N:=nO iV) (ps:=(nO iV).take 2) X G (by ac_nf) (by ac_rfl) (bY (F:=[SB.sx]) (k:=4) E (al 'a' (.inl S) (aF (F:=[])))) (by rfl') (by bv_omega) (λds M Q h=>SB.uW rfl rfl h);have U:bR P w K mg base 6 "read_rule" (SB.sA):=cx hy.a_14 (N:=nO kf) (ps:=(nO kf).take 2) X G (by ac_nf) (by ac_rfl) (bY (F:=[SB.sy,SB.oF,SB.df]) (k:=5) E (al 'a' (.inl L) (al 'a' (.inl T) (al 'a' (.inl c) (aF (F:=[])))))) (by rfl') (by bv_omega) (λds M Q h=>SB.wX rfl rfl rfl h);have V:bR P w K mg base 3 "read_fact" (SB.sm):=cx hy.a_15 (N:=nO kc) (ps:=(nO kc).take 2) X G (by ac_nf) (by ac_rfl) (bY (F:=[SB.df]) (k:=2) E (al 'a' (.inl c) (aF (F:=[])))) (by rfl') (by bv_omega) (λds M Q h=>SB.wJ rfl h);have Y:bR P w K mg base 7 "take_line" (SB.kM):=cx hy.a_16 (N:=nO kb) (ps:=(nO kb).take 4) X G (by ac_nf) (by ac_rfl) (bY (F:=[SB.sA,SB.sm]) (k:=6) E (al 'a' (.inl U) (al 'a' (.inl V) (aF (F:=[]))))) (by rfl') (by bv_omega) (λds M Q h=>SB.wY rfl rfl rfl rfl h);have Z:bR P w K mg base 2 "read_things" (SB.mr):=cx hy.a_17 (N:=nO gT) (ps:=(nO gT).take 1) X G (by ac_nf) (by ac_rfl) (bY (F:=[SB.kN]) (k:=1) E (al 'a' (.inl m) (aF (F:=[])))) (by rfl') (by bv_omega) (λds M Q h=>SB.tG rfl rfl h);have Pq:bR P w K mg base 8 "read_lines" (SB.oG C):=cx hy.a_18 (N:=nO iU) (ps:=(nO iU).take 1) X G (by ac_nf) (by ac_rfl) (bY (F:=[kJ C (SB.iF C),SB.kM,SB.mr]) (k:=7) E (al 'a' J (al 'a' (.inl Y) (al 'a' (.inl Z) (aF (F:=[])))))) (by rfl') (by bv_omega) (λds M Q h=>SB.uX rfl rfl rfl h);have Pr:bR P w K mg base 9 "read_book" (SB.lc C):=cx hy.a_19 (N:=nO ka) (ps:=(nO ka).take 1) X G (by ac_nf) (by ac_rfl) (bY (F:=[SB.oG C]) (k:=8) E (al 'a' (.inl Pq) (aF (F:=[])))) (by rfl') (by bv_omega) (λds M Q h=>SB.w5 rfl h);have Pt:bR P w K mg base 1 "_law_cond_text" (SB.cO):=cx hy.a_20 (N:=nO eV) (ps:=(nO eV).take 1) X G (by ac_nf) (by ac_rfl) (bY (F:=[]) (k:=0) E (aF (F:=[]))) (by rfl') (by bv_omega) (λds M Q h=>SB.qF h);have Pu:bR P w K mg base 2 "_law_rule_text" (SB.dO):=cx hy.a_21 (N:=nO eY) (ps:=(nO eY).take 1) X G (by ac_nf) (by ac_rfl) (bY (F:=[SB.cO]) (k:=1) E (al 'a' (.inl Pt) (aF (F:=[])))) (by rfl') (by bv_omega) (λds M Q h=>SB.xu rfl h);have b:bR P w K mg base 1 "_law_take" (SB.cV):=cx hy.a_22 (N:=nO lQ) (ps:=(nO lQ).take 2) X G (by ac_nf) (by ac_rfl) (bY (F:=[]) (k:=0) E (aF (F:=[]))) (by rfl') (by bv_omega) (λds M Q h=>SB.Hb h);have o:bR P w K mg base 2 "_law_atom" (SB.iN):=cx hy.a_23 (N:=nO lS) (ps:=(nO lS).take 3) X G (by ac_nf) (by ac_rfl) (bY (F:=[SB.cV]) (k:=1) E (al 'a' (.inl b) (aF (F:=[])))) (by rfl') (by bv_omega) (λds M Q h=>SB.Ft rfl h);have Pw:bR P w K mg base 3 "_law_cond" (SB.oM):=cx hy.a_24 (N:=nO lT) (ps:=(nO lT).take 3) X G (by ac_nf) (by ac_rfl) (bY (F:=[SB.iN,SB.cV]) (k:=2) E (al 'a' (.inl o) (al 'a' (.inl b) (aF (F:=[]))))) (by rfl') (by bv_omega) (λds M Q h=>SB.Fu rfl rfl h);have Px:bR P w K mg base 4 "_law_rule" (SB.oN):=cx hy.a_25 (N:=nO lU) (ps:=(nO lU).take 2) X G (by ac_nf) (by ac_rfl) (bY (F:=[SB.oM,SB.cV,SB.iN]) (k:=3) E (al 'a' (.inl Pw) (al 'a' (.inl b) (al 'a' (.inl o) (aF (F:=[])))))) (by rfl') (by bv_omega) (λds M Q h=>SB.Fv rfl rfl rfl h);have Py:bR P w K mg base 2 "_law_said" (SB.oO):=cx hy.a_26 (N:=nO lV) (ps:=(nO lV).take 2) X G (by ac_nf) (by ac_rfl) (bY (F:=[SB.cV]) (k:=1) E (al 'a' (.inl b) (aF (F:=[])))) (by rfl') (by bv_omega) (λds M Q h=>SB.Fw rfl h);have Pz:bR P w K mg base 1 "_law_mix" (SH.u9):=cx hy.a_27 (N:=nO nq) (ps:=(nO nq).take 2) X G (by ac_nf) (by ac_rfl) (bY (F:=[]) (k:=0) E (aF (F:=[]))) (by rfl') (by bv_omega) (λds M Q h=>SH.G7 h);have PB:bR P w K mg base 1 "_law_cell" (SH.si):=cx hy.a_28 (N:=nO lP) (ps:=(nO lP).take 2) X G (by ac_nf) (by ac_rfl) (bY (F:=[]) (k:=0) E (aF (F:=[]))) (by rfl') (by bv_omega) (λds M Q h=>SH.Fi h);have p:bR P w K mg base 2 "_law_box" (SH.oA):=cx hy.a_29 (N:=nO nt) (ps:=(nO nt).take 2) X G (by ac_nf) (by ac_rfl) (bY (F:=[SH.u9,SH.si]) (k:=1) E (al 'a' (.inl Pz) (al 'a' (.inl PB) (aF (F:=[]))))) (by rfl') (by bv_omega) (λds M Q h=>SH.G8 rfl h);have PC:bR P w K mg base 1 "_law_kept" (SB.sL):=cx hy.a_30 (N:=nO lR) (ps:=(nO lR).take 1) X G (by ac_nf) (by ac_rfl) (bY (F:=[]) (k:=0) E (aF (F:=[]))) (by rfl') (by bv_omega) (λds M Q h=>SB.Fs h);have PD:bR P w K mg base 2 "_law_names" (SB.oI):=cx hy.a_31 (N:=nO ko) (ps:=(nO ko).take 2) X G (by ac_nf) (by ac_rfl) (bY (F:=[SB.cV]) (k:=1) E (al 'a' (.inl b) (aF (F:=[])))) (by rfl') (by bv_omega) (λds M Q h=>SB.C8 rfl h);have PF:bR P w K mg base 3 "_law_world" (SB.oJ):=cx hy.a_32 (N:=nO kr) (ps:=(nO kr).take 1) X G (by ac_nf) (by ac_rfl) (bY (F:=[SB.cV,SB.sL,SB.oI,SH.oA]) (k:=2) E (al 'a' (.inl b) (al 'a' (.inl PC) (al 'a' (.inl PD) (al 'a' (.inl p) (aF (F:=[]))))))) (by rfl') (by bv_omega) (λds M Q h=>SB.Da rfl rfl rfl rfl h);exact Bs (JR.fun_) Hj (bY (F:=[SB.iM C,SB.gr C,SB.lc C,SB.dO,SB.cV,SB.oN,SB.oO,SH.oA,SB.oJ]) (k:=9) E (al 'a' (.inl z) (al 'a' (.inl I) (al 'a' (.inl Pr) (al 'a' (.inl Pu) (al 'a' (.inl b) (al 'a' (.inl Px) (al 'a' (.inl Py) (al 'a' (.inl p) (al 'a' (.inl PF) (aF (F:=[])))))))))))) Hl (by bv_omega) (λds M Q h=>SB.Hh (λf a=>⟨rfl,a⟩) rfl rfl rfl rfl rfl rfl rfl rfl rfl h)
end
theorem Ho:u6 63 SB.vc:=λa ns hl=>⟨a,ns,rfl,by unfold og;rw[if_pos rfl],hl,λ_=>rfl⟩
theorem Hq:Dt SB.vc:=by
 intro l w K h mg n C X G f gl bl g KW o d JR hy;have b:=KW;simp only[YU] at b;have E:fD K mg C:=⟨rg X G gl,AH X G bl,b.1.1⟩;have j:∀(s:Shared) (v:Value),BindsTo s d ⟨[v],[]⟩ [("_law_script",v)]:=by
  obtain⟨oc,od,an,x_,kV,l_,pm,i',ct,a,rfl,l,c,k⟩:=JR.ex;exact λs v=>.of_eq rfl
 have m:=JR.def_ (ps:=["_law_script"]) X G λ_ _ _ _ _ _=>Hm λ_=>rfl
 have e:=f.symm.trans m.mgf;cases e;exact⟨d,j,λbase _ _=>Hn (C:=C) E X G JR (PySem.W.mg_of X G g) b.1.2 b.2 hy⟩
end K02
theorem PySem.Challenge.cw_notring_k02_books_read_and_written_holds : PySem.Challenge.rw_notring_k02_books_read_and_written.Holds := by
  exact K02.over K02.Ho K02.Hq
#print axioms PySem.Challenge.cw_notring_k02_books_read_and_written_holds
