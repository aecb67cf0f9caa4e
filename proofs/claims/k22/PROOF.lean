import PyProof.Rows.All
import Wide.All
import KE.KDictOf
import KE.KFromBytes
import KE.LcTurns
import KE.KIsAll
import KE.KItem
import Wide.FinOn
import KE.KNestM
import PySem.Challenge.RW_notring_k22_whole_rings_shown
import Lean
import PyProof.EqAt
import PyProof.EqKinds
import PyProof.TupleCall
import PyProof.DictIter
import PyProof.DictWalks
import PyProof.NeKinds
import PyProof.FactsAll.tuple_2
import PyProof.FactsAll.tuple_3
import PyProof.TupleKey
import PyProof.DictRoadsH
import PyProof.FactsAll.bool_1
import PyProof.Rows.TupDisplay
import PyProof.EnumMake
import PyProof.EnumIter
import PyProof.EnumFor
import PyProof.EnumStmt
import PyProof.Draws
import PyProof.TupleIter
import PyProof.WalksMore
import PyProof.ZipIter
import PyProof.Rows.SetFrom
import PyProof.SetRoads
import PyProof.SumAnyB
import PyProof.Conv_int
import PyProof.Conv_int_bool
import PyProof.ListRange
import KE.KDictList
import PyProof.DictTruth
import PyProof.Rows.SortWalk
import PyProof.Rows.SortRuns
import PyProof.Rows.SortShell
import KE.KSortTup
import KE.KRevIter
import PyProof.FactsAll.bool_2
import PyProof.Rows.CallKwBuiltin
import PyProof.DefCall
import KE.BitLaws
set_option compiler.extract_closed false
set_option Elab.async false
set_option maxRecDepth 100000
set_option maxHeartbeats 4000000
local macro_rules
 |`(tactic|omega)=>`(tactic|first|assumption|lia|omega (splitDisjunctions:=true))
set_option hygiene false
local macro_rules
 |`('a')=>`((by omega))
 |`('b')=>`((model X.prog X.w))
 |`('c')=>`((by decide))
 |`('d')=>`((openSeen K22.viewQ [] (importedModules PySem.Challenge.pw_notring_k22_whole_rings_shown.main.body) (λs=>xlAt K22.viewQ [] s&&recOk [] s) true (TopT.ck s)))
local macro_rules
 |`('e')=>`((model prog w))
 |`('f')=>`((λ_ _ _=>False))
local macro_rules
 |`(tactic|rw[0])=>`(tactic|(show tW X v ρ H _;refine aH (hv σ M ρ H _ rs rm h) λu H1 MF=>?_;obtain⟨k1,d,M1,r1,m1,q1⟩:=MF;show tW X o ρ H1 _;refine aH (ho σ M1 ρ H1 _ (rs.mono k1) m1 q1) λw' H2 MG=>?_;obtain⟨k2,x,M2,r2,m2,q2⟩:=MG;show tW X i ρ H2 _;refine aH (hi σ M2 ρ H2 _ (rs.mono (k1.trans k2)) m2 q2) λz H3 Ml=>?_;obtain⟨k3,y,M3,r3,m3,q3⟩:=Ml))
 |`(tactic|rw[1])=>`(tactic|(unfold ax at h;split at h))
set_option bootstrap.genMatcherCode false
set_option genSizeOfSpec false
local macro_rules
 |`(command|def $i:declId $s:optDeclSig $v:declVal)=>`(command|noncomputable def $i:declId $s:optDeclSig $v:declVal)
 |`(command|abbrev $i:declId $s:optDeclSig $v:declVal)=>`(command|noncomputable abbrev $i:declId $s:optDeclSig $v:declVal)
def Yb:=@PySem.wpAny_bind
def Yc:=@PySem.wpAny_pure
def Yd:=@PySem.Heap.get?_push_of_some
def Ye:=@PySem.Heap.lt_size
def Yg:=@PySem.Heap.get?_push_size
def Yh:=@False.elim
def Yi:=@Option.some.inj
def Yj:=@PySem.wpAny_holding
def Yk:=@PySem.wpAny_standAt
abbrev Za:=PySem.W.Frag
abbrev Zb:=PySem.Value->PySem.Shared->Prop
abbrev Zc:=List (PySem.Addr×PySem.Obj)
abbrev Zd:=List PySem.Value
abbrev Ze:=PySem.Str->Option PySem.Value
abbrev Zf:=List PySem.Str
abbrev Zg:=List PySem.Expr
abbrev Zh:=List PySem.Addr
abbrev Zi:=List Int
abbrev Zj:=List Nat
abbrev Zk:=PySem.Value->PySem.Value->PySem.Sem PySem.Value
abbrev Zl:=Array PySem.Value
abbrev Zm:=Option PySem.Addr
abbrev Zn:=Array (Option PySem.Value)
abbrev Zo:=Unit->PySem.Shared->Prop
abbrev Zp:=Option Int
abbrev Zq:=List (PySem.Str×PySem.Addr)
abbrev Zr:=List (Bool×Int)
abbrev Zs:=List (List PySem.Addr)
abbrev Zt:=List PySem.Stmt
abbrev Zu:=PySem.FuncData
abbrev Zv:=PySem.Program
abbrev Zw:=Option PySem.Value
local macro_rules
  | `(tactic| rfl') => `(tactic| decide +kernel)
def XA:=@Array.getElem?_toList
def XB:=@List.find?_cons
def XC:=@List.any_cons
def XD:=@beq_self_eq_true
def XE:=@Option.getD_some
def XF:=@Bool.false_eq_true
def XG:=@List.lookup_cons
def XH:=@Option.map_some
def XI:=@List.all_eq_true
def XJ:=@List.any_eq_true
def XM:=@List.mem_singleton
def XN:=@of_decide_eq_true
def XO:=@List.all_cons
def XQ:=@decide_eq_true_eq
def XR:=@List.getElem?_eq_none_iff
def XS:=@List.eq_nil_of_length_eq_zero
def XT:=@List.getElem?_of_mem
def XV:=@Array.getElem?_eq_getElem
def XW:=@List.nodup_nil
def XX:=@List.mem_map
def XY:=@List.nodup_append
def XZ:=@List.pairwise_map
def YA:=@List.mem_append
def YB:=@List.mem_append_left
def YC:=@List.getElem?_eq_some_iff
def YD:=@Array.length_toList
def YE:=@Bool.false_ne_true
def YF:=@Nat.le_refl
def YG:=@List.mem_append_right
def YH:=@List.size_toArray
def YI{α}{a:α}{l}:(a::l).length=l.length+1:=rfl
def YK{α β}{f:α→β}{a l}:(a::l).map f=f a::l.map f:=rfl
def YL:=@Nat.zero_le
def YM:=@Nat.le_succ
def YN:=@List.nodup_cons
def YR:=@List.length_take
def YS:=@List.mem_of_getElem?
def YT{α}:([]:List α).length=0:=rfl
def YU:=@decide_eq_true
def YV:=@Int.toNat_natCast
def YW:=@List.length_drop
def YX:=@Bool.and_eq_true
def YY{α β}{f:α→β}:[].map f=[]:=rfl
def YZ:=@List.length_singleton
def ZA:=@List.append_nil
def ZB:=@List.append_assoc
def ZD:=@List.getElem?_eq_getElem
def ZE:=@List.getElem?_append_left
def ZF:=@List.length_map
def ZG:=@List.getElem?_map
def ZH:=@List.getElem?_append_right
def ZI:=@List.getElem?_eq_none
def ZJ:=@List.length_range
def ZK:=@List.length_append
def ZL:=@List.map_append
def ZM:=@List.map_map
def ZN:=@List.map_congr_left
def ZP:=@decide_eq_false
def ZQ:=@beq_eq_false_iff_ne
def ZR:=@Nat.lt_of_lt_of_le
def ZS:=@Nat.lt_irrefl
def ZT:=@Nat.ne_of_lt
def ZU:=@List.mem_filter
def ZV:=@List.mem_range
def ZW:=@Nat.le_trans
def ZX:=@List.mem_cons_self
def ZY:=@List.mem_cons_of_mem
def ZZ:=@List.mem_cons
namespace TopT
open PySem PySem.W PyProof.Rows
variable {m N:Nat}{q:Zv}
def jD:List Obj->Nat->BT->Option (BT×Nat)
 |[],n,T=>some (T,n)
 |o::r,n,T=>match((T.ins n o).get n).isSome with
  |true=>jD r (n+1) (T.ins n o)
  |false=>none
theorem sH(a:Life):∀{os:List Obj}{n n':Nat}{T b:BT},jD os n T=some (b,n')->absHeap b n' a=⟨((absHeap T n a).objs.toList++os).toArray,a⟩
 |[],n,n',T,b,h=>by
  cases h;rw[ZA];rfl
 |o::r,n,n',T,b,h=>by
  unfold jD at h;cases g:((T.ins n o).get n).isSome with
  |false=>rw[g] at h;cases h
  |true=>
   rw[g] at h;have c:=sH a (os:=r) h;rw[c,absHeap_ins g];show Heap.mk (((absHeap T n a).objs.push o).toList++r).toArray a=_;rw[Array.toList_push,ZB];rfl
def nG(b:String->Option Builtin)(p:Zv)(w:World)(c:Nat)(a:Zw):Nat->SharedT->Thread->Option SharedT
 |0,_,_=>none
 |n+1,s,t=>match through t with
  |true=>some s
  |false=>match stepOk c a t with
   |false=>none
   |true=>match stepT (denote b) p w s t with
    |some (f,t')=>nG b p w c a n f t'
    |none=>none
theorem sJ{b:String->Option Builtin}{p:Zv}{w:World}{c:Nat}{a:Zw}:∀{n:Nat}{s f:SharedT}{t:Thread},nG b p w c a n s t=some f->topRun b p w c a n s.abs t=some f.abs
 |0,_,_,_,h=>by cases h
 |n+1,s,f,t,h=>by
  unfold nG at h;unfold topRun;cases ht:through t with
  |true=>rw[ht] at h;cases h;rfl
  |false=>
   rw[ht] at h;cases hk:stepOk c a t with
   |false=>rw[hk] at h;cases h
   |true=>
    rw[hk] at h;cases hs:stepT (denote b) p w s t with
    |none=>rw[hs] at h;cases h
    |some x=>
     obtain⟨s2,g⟩:=x;rw[hs] at h
     have:=stepT_spec hs
     simp only[this];exact sJ h
def yi(s:SharedT)(a:Addr):Option Obj:=match Nat.blt a s.n with
 |true=>alive ((s.tree.get a).getD default)
 |false=>none
def Fk(s:SharedT)(a:Addr):s.abs.heap.get? a=yi s a:=by
 show(absHeap s.tree s.n s.life).get? a=_;unfold yi Heap.get?;rw[absHeap_at];cases e:Nat.blt a s.n with
 |true=>
  have lt:a<s.n:=Nat.le_of_ble_eq_true e;rw[if_pos lt];obtain⟨c,d,b,sl⟩:=(s.tree.get a).getD default;cases b<;>rfl
 |false=>
  have f:¬a<s.n:=λh=>by
   have:Nat.blt a s.n=true:=Nat.ble_eq_true_of_le h
   rw[this] at e;cases e
  rw[if_neg f]
def EC:BT->BT
 |.nil=>.nil
 |.node _ l _=>l
def ED:BT->BT
 |.nil=>.nil
 |.node _ _ r=>r
def rt:BT->Obj
 |.nil=>default
 |.node v _ _=>v
def pZ(ts:List BT)(m i:Nat):Obj:=(((ts[i%m]?).getD .nil).get (i / m)).getD default
def lv:Nat->List BT->Nat->Nat->List Obj
 |0,ts,m,n=>(List.range n).map (pZ ts m)
 |k+1,ts,m,n=>match Nat.ble n m with
  |true=>(ts.take n).map rt
  |false=>ts.map rt++lv k (ts.map EC++ts.map ED) (m+m) (n-m)
def G7(t:BT):(t.get 0).getD default=rt t:=by cases t<;>rfl
theorem Fl(t:BT)(j:Nat):t.get (2*j+1)=(EC t).get j:=by
 cases t with
 |nil=>rfl
 |node v l r=>rw[BT.get_node,if_neg 'a',if_pos 'a',show(2*j+1) / 2=j by omega];rfl
theorem BK(t:BT)(j:Nat):t.get (2*j+2)=(ED t).get j:=by
 cases t with
 |nil=>rfl
 |node v l r=>rw[BT.get_node,if_neg 'a',if_neg 'a',show(2*j+2) / 2-1=j by omega];rfl
theorem p9{ts:List BT}(k:Nat)(a:N<m):pZ ts m (m*k+N)=((ts[N]?.getD .nil).get k).getD default:=by
 unfold pZ;rw[Nat.mul_add_mod,Nat.mod_eq_of_lt a,Nat.mul_add_div 'a',Nat.div_eq_of_lt a,Nat.add_zero]
theorem G9{ts:List BT}(h:ts.length=m)(hm:0<m)(i:Nat):pZ ts m (m+i)=pZ (ts.map EC++ts.map ED) (m+m) i:=by
 have a:i%m<m:=Nat.mod_lt _ hm;have d:=Nat.div_add_mod i m;generalize i%m=r at *;generalize i / m=k at *;subst d;obtain⟨t,e0⟩:∃t,ts[r]?=some t:=⟨_,ZD (h▸a)⟩;rw[show m+(m*k+r)=m*(k+1)+r by rw[Nat.mul_add];omega,p9 _ a,e0];rcases Nat.mod_two_eq_zero_or_one k with e | e
 .obtain⟨j,rfl⟩:∃j,k=2*j:=⟨k / 2,by omega⟩
  rw[show m*(2*j)+r=(m+m)*j+r by rw[←Nat.mul_assoc,Nat.mul_two],p9 _ 'a',ZE (by rw[ZF];omega),ZG,e0];exact congrArg (·.getD default) (Fl _ j)
 .obtain⟨j,rfl⟩:∃j,k=2*j+1:=⟨k / 2,by omega⟩
  rw[show m*(2*j+1)+r=(m+m)*j+(m+r) by rw[Nat.mul_add,←Nat.mul_assoc,Nat.mul_two];omega,p9 _ 'a',ZH (by rw[ZF];omega),ZF,h,Nat.add_sub_cancel_left,ZG,e0];exact congrArg (·.getD default) (BK _ j)
theorem EE:∀(k:Nat){ts:List BT}{m:Nat}(n:Nat),ts.length=m->0<m->lv k ts m n=(List.range n).map (pZ ts m)
 |0,_,_,_,_,_=>rfl
 |k+1,ts,m,n,h,hm=>by
  have hd:∀j,j<m->pZ ts m j=rt (ts[j]?.getD .nil):=λj a=>by
   rw[show j=m*0+j by omega,p9 _ a,G7];simp
  show(match Nat.ble n m with | true=>_ | false=>_)=_;cases e:Nat.ble n m with
  |true=>
   have hn:n<=m:=Nat.le_of_ble_eq_true e;apply List.ext_getElem?;intro j;show((ts.take n).map rt)[j]?=_;rw[ZG,ZG,List.getElem?_take];by_cases a:j<n
   .rw[if_pos a,List.getElem?_range a,ZD 'a']
    show some (rt ts[j])=some (pZ ts m j);rw[hd j 'a',ZD 'a'];rfl
   .rw[if_neg a,ZI (by rw[ZJ];omega)];rfl
  |false=>
   have hn:m<n:=Nat.lt_of_not_le λq=>by rw[Nat.ble_eq_true_of_le q] at e;cases e
   show ts.map rt++lv k (ts.map EC++ts.map ED) (m+m) (n-m)=_;rw[EE k (n-m) (by rw[ZK,ZF,ZF,h]) 'a',show n=m+(n-m) by omega,List.range_add,ZL,ZM];congr 1
   .apply List.ext_getElem?
    intro j;rw[ZG,ZG];by_cases a:j<m
    .rw[List.getElem?_range a,ZD 'a']
     show some (rt ts[j])=some (pZ ts m j);rw[hd j a,ZD 'a'];rfl
    .rw[ZI 'a',ZI (by rw[ZJ];omega)];rfl
   .rw[show m+(n-m)-m=n-m by omega]
    exact ZN λi _=>(G9 h hm i).symm
def list_eq(t:BT)(n:Nat):t.list n=lv 20 [t] 1 n:=by
 rw[EE (ts:=[t]) (m:=1) 20 n rfl 'c'];unfold BT.list;apply ZN;intro i _;show _=(((([t]:List BT)[i%1]?).getD .nil).get (i / 1)).getD default;rw[Nat.mod_one,Nat.div_one];rfl
def ck(s:SharedT):Shared:=⟨⟨(lv 20 [s.tree] 1 s.n).toArray,s.life⟩,s.gens,s.drawn,s.toks,s.os⟩
def wW(s:SharedT):s.abs=ck s:=by
 unfold SharedT.abs absHeap ck;rw[list_eq]
def runC{a:Type}(p:Zv)(w:World)(N:Nat)(C:Shared->SharedT->a):Option a:=(fencedOpening treeTable p w N).bind λs₀=>match s₀.heap.isNs mainGlobals&&s₀.gens.size==0 with
 |true=>match jD s₀.heap.objs.toList 0 .nil with
  |some (T,n)=>(nG treeTable p w s₀.heap.objs.size (s₀.heap.nsMap mainGlobals "__annotations__") N ⟨T,n,s₀.heap.life,s₀.gens,s₀.drawn,s₀.toks,s₀.os⟩ (topStub p)).map (C s₀)
  |none=>none
 |false=>none
def BL{a:Type}{w:World}(C:Shared->SharedT->a):runC q w N C=(runC q w N Prod.mk).map λx=>C x.1 x.2:=by
 unfold runC;cases fencedOpening treeTable q w N with
 |none=>rfl
 |some s₀=>
  show(match s₀.heap.isNs mainGlobals&&s₀.gens.size==0 with | true=>_ | false=>_)=Option.map _ (match s₀.heap.isNs mainGlobals&&s₀.gens.size==0 with | true=>_ | false=>_);cases s₀.heap.isNs mainGlobals&&s₀.gens.size==0 with
  |false=>rfl
  |true=>
   show(match jD s₀.heap.objs.toList 0 .nil with | some (T,n)=>_ | none=>_)=Option.map _ (match jD s₀.heap.objs.toList 0 .nil with | some (T,n)=>_ | none=>_);cases jD s₀.heap.objs.toList 0 .nil with
   |none=>rfl
   |some x=>
    obtain⟨T,n⟩:=x;show Option.map (C s₀) _=Option.map _ (Option.map (Prod.mk s₀) _);rw[Option.map_map];rfl
def tY(p:Zv)(s₀ s:Shared):Bool:=staticsOk (importedModules p.main.body) s₀.heap s.heap&&namesBound p s.heap&&gensDone s&&laidKept s₀.heap s.heap
def Fm{w:World}{s₀:Shared}{s:SharedT}(h:runC q w N Prod.mk=some (s₀,s))(k:tY q s₀ (ck s)=true):openEnds treeTable q w N=some (ck s):=by
 unfold runC at h;obtain⟨b,c,h⟩:=Option.bind_eq_some_iff.mp h;cases g:(b.heap.isNs mainGlobals&&b.gens.size==0) with
 |false=>rw[g] at h;cases h
 |true=>
  rw[g] at h;cases e:jD b.heap.objs.toList 0 .nil with
  |none=>rw[e] at h;cases h
  |some x=>
   obtain⟨T,n⟩:=x;rw[e] at h;obtain⟨j,h1,f⟩:=Option.map_eq_some_iff.mp h;cases f;have a:(⟨T,n,s₀.heap.life,s₀.gens,s₀.drawn,s₀.toks,s₀.os⟩:SharedT).abs=s₀:=by
    show Shared.mk (absHeap T n s₀.heap.life) _ _ _ _=_;rw[sH s₀.heap.life e];rfl
   have r:=sJ h1;rw[a,wW] at r;unfold openEnds topFrom;rw[c];show(match s₀.heap.isNs mainGlobals&&s₀.gens.size==0 with | true=>_ | false=>_)=_;rw[g];show(topRun treeTable q w s₀.heap.objs.size (s₀.heap.nsMap mainGlobals "__annotations__") N s₀ (topStub q)).bind _=_;rw[r];show(match tY q s₀ (ck s) with | true=>some (ck s) | false=>none)=_;rw[k]
def JQ{p:Zv}{loose:Zf}{Xt:Shared->Bool}{b:Bool}{K:Params->Frag}{as:Zh}{e:∀P,as=(K P).map (·.1)}
  (h1:∀w,runC p w N (λs₀ s=>(tY p s₀ (ck s),(openSeen q loose (importedModules p.main.body) Xt b (ck s)).1,(openSeen q loose (importedModules p.main.body) Xt b (ck s)).2.1))=some (true,expectedOf q,bltViewBooted))
  (c:∀w,runC p w N (λ_ s=>(openSeen q loose (importedModules p.main.body) Xt b (ck s)).2.2.1)=some true)
  (f:∀w,runC p w N (λ_ s=>((openSeen q loose (importedModules p.main.body) Xt b (ck s)).2.2.2.1,(openSeen q loose (importedModules p.main.body) Xt b (ck s)).2.2.2.2.1))=some (true,pinGoodD (drecsOf q)))
  (g:∀w,runC p w N (λ_ s=>(openSeen q loose (importedModules p.main.body) Xt b (ck s)).2.2.2.2.2.1)=some (plainGoodE q (looseW q loose)))
  (j:∀w,runC p w N (λ_ s=>(openSeen q loose (importedModules p.main.body) Xt b (ck s)).2.2.2.2.2.2)=some (plainGoodD q loose,wideGood q,clsGoodW q loose))
  (k:∀w:World,runC p w N (λ_ s=>as.map (yi s))=some ((K w.params).map (λp=>some p.2))):LeftO p q loose Xt (Hook.obs (kHook K as e)) (Hook.val (kHook K as e)) N b:=λw=>by
 have h1:=h1 w;have c:=c w;have f:=f w;have k:=k w;have g:=g w;have j:=j w;rw[BL] at h1 c f k g j;obtain⟨⟨s₀,s⟩,n,r⟩:=Option.map_eq_some_iff.mp h1;rw[n] at c f k g j;obtain⟨t,l⟩:=Prod.mk.inj r;obtain⟨l,A⟩:=Prod.mk.inj l;obtain⟨B,C⟩:=Prod.mk.inj (Yi f);rw[Fm n t];have E:as.map (ck s).heap.get?=as.map (yi s):=ZN λa _=>by rw[←wW];exact Fk s a
 exact congrArg some (Prod.ext (Prod.ext l (Prod.ext A (Prod.ext (Yi c) (Prod.ext B (Prod.ext C (Prod.ext (Yi g) (Yi j))))))) (E.trans (Yi k)))
end TopT
section
open PySem PySem.W PyProof.Rows
def K22.viewQ:Program:=PySem.W.view PySem.Challenge.pw_notring_k22_whole_rings_shown [0,2,3,4,5,6,8,9,10,11,12,13,14,15,17,18,19,20,21,22,24,25,27,28,29,30,31,32,33,34,35,36,37,38,39,41,42,43,44,45,46,47,48,49,50,51,52,53,54]
set_option maxHeartbeats 0 in
theorem K22.said:PySem.Challenge.rw_notring_k22_whole_rings_shown.wellSaid=true:=by kernel_rfl
set_option maxHeartbeats 0 in
theorem K22.seen1:∀w:World,TopT.runC PySem.Challenge.pw_notring_k22_whole_rings_shown w 13100 (λs₀ s=>(TopT.tY PySem.Challenge.pw_notring_k22_whole_rings_shown s₀ (TopT.ck s),'d'.1,'d'.2.1))=some (true,expectedOf K22.viewQ,bltViewBooted):=by
 intro w;kernel_rfl
set_option maxHeartbeats 0 in
theorem K22.seen2:∀w:World,TopT.runC PySem.Challenge.pw_notring_k22_whole_rings_shown w 13100 (λ_ s=>'d'.2.2.1)=some true:=by
 intro w;kernel_rfl
set_option maxHeartbeats 0 in
theorem K22.seen3:∀w:World,TopT.runC PySem.Challenge.pw_notring_k22_whole_rings_shown w 13100 (λ_ s=>('d'.2.2.2.1,'d'.2.2.2.2.1))=some (true,pinGoodD (drecsOf K22.viewQ)):=by
 intro w;kernel_rfl
set_option maxHeartbeats 0 in
theorem K22.seen5:∀w:World,TopT.runC PySem.Challenge.pw_notring_k22_whole_rings_shown w 13100 (λ_ s=>'d'.2.2.2.2.2.1)=some (plainGoodE K22.viewQ (looseW K22.viewQ [])):=by
 intro w;kernel_rfl
set_option maxHeartbeats 0 in
theorem K22.seen6:∀w:World,TopT.runC PySem.Challenge.pw_notring_k22_whole_rings_shown w 13100 (λ_ s=>'d'.2.2.2.2.2.2)=some (plainGoodD K22.viewQ [],wideGood K22.viewQ,clsGoodW K22.viewQ []):=by
 intro w;kernel_rfl
end
-- CHANGE: your row's module here,as the last of these b_
set_option linter.all false
namespace L2
open PySem PySem.Spec PyProof.Rows
variable {it b C:Addr}{H H':Hp}{s s1:Shared}{i' x:Str}{i j:Nat}{tg iter:Expr}{u r_ cd ct dV pm v_:Value}{a_ Oj:Zc}{Q:Zb}{σ:St}{y v:V}{us d_:Zd}{K:Za}{base:Heap}{A:Around}{pos' pos:Pos}{P:Zv}{w:World}{ob:Obj}{body st:Zt}{fp:Zh}{N ps:Zf}{mg:Ze}{ti to:TE}{o:HO}{vs xs:List V}{f:Zk}{M:Model}{tb:TS}{g:TG}{r:R2}{lo hi:Int}{k' expr:Bool}{scope:Scope}{CX:oM}{t:oI}{es:Zg}{tc:TT}{X:Cx}{an:Zm}
abbrev Key:=Sum Int Str
def kY:Key->Value->Bool
 |.inl k,v=>Value.isInt k v
 |.inr x,v=>Value.isStrOf x v
def KP(w:World):Key->Int
 |.inl k=>hashInt k
 |.inr x=>hashStr w x
theorem bJ:∀{k:Key}{v:Value},kY k v=true->(∃i t,k=Sum.inl i/\v=Value.int i t)\/(∃x t,k=Sum.inr x/\v=Value.str x t)
 |.inl i,v,h=>by
  obtain⟨t,e⟩:=Value.isInt_shape (k:=i) (v:=v) h;exact .inl ⟨i,t,rfl,e⟩
 |.inr x,v,h=>by
  obtain⟨t,e⟩:=Value.isStrOf_shape (x:=x) (v:=v) h;exact .inr ⟨x,t,rfl,e⟩
def z0(i:Int)(t:Tok):kY (.inl i) (.int i t)=true:=by simp[kY,Value.isInt]
def z5(x:Str)(t:Tok):kY (.inr x) (.str x t)=true:=by simp[kY,Value.isStrOf]
def Ha(a b:Int):decide ((Sum.inl a:Key)=Sum.inl b)=(a==b):=by
 by_cases e:a=b
 .subst e;simp
 .have h:¬(Sum.inl a:Key)=Sum.inl b:=λq=>e (Sum.inl.inj q)
  rw[ZP h];exact(ZQ.mpr e).symm
def Hb(a b:Str):decide ((Sum.inr a:Key)=Sum.inr b)=decide (a=b):=by
 by_cases e:a=b
 .subst e;simp
 .have h:¬(Sum.inr a:Key)=Sum.inr b:=λq=>e (Sum.inr.inj q)
  rw[ZP h,ZP e]
def Hc(a:Int)(b:Str):decide ((Sum.inl a:Key)=Sum.inr b)=false:=ZP (λq=>nomatch q)
def Hd(a:Str)(b:Int):decide ((Sum.inr a:Key)=Sum.inl b)=false:=ZP (λq=>nomatch q)
def bt(prog:Zv)(w:World):PySem.KeyKind prog w Key where
 is:=kY
 hash:=KP w
 inj:=λv a b ha hb=>by
  rcases bJ ha with⟨i,t,rfl,rfl⟩ | ⟨x,t,rfl,rfl⟩
  .rcases bJ hb with⟨j,u,rfl,e⟩ | ⟨y,u,rfl,e⟩
   .injection e with e1 _;rw[e1]
   .exact nomatch e
  .rcases bJ hb with⟨j,u,rfl,e⟩ | ⟨y,u,rfl,e⟩
   .exact nomatch e
   .injection e with e1 _;rw[e1]
 byValue:=λk v h=>by
  rcases bJ h with⟨i,t,rfl,rfl⟩ | ⟨x,t,rfl,rfl⟩<;>rfl
 pyHash:=λhv h=>by
  rcases bJ hv with⟨i,t,rfl,rfl⟩ | ⟨x,t,rfl,rfl⟩
  .exact wpAny_pyHash_int h
  .exact wpAny_pyHash_str h
 eqBool:=λhu hv h=>by
  rcases bJ hu with⟨i,t,rfl,rfl⟩ | ⟨x,t,rfl,rfl⟩
  .rcases bJ hv with⟨j,u,rfl,rfl⟩ | ⟨y,u,rfl,rfl⟩
   .rw[Ha] at h;exact wpAny_eqBool_int h
   .rw[Hc] at h;exact SeqAt.EqAt.int_str i t y u _ _ _ _ h
  .rcases bJ hv with⟨j,u,rfl,rfl⟩ | ⟨y,u,rfl,rfl⟩
   .rw[Hd] at h;exact SeqAt.EqAt.str_int x t j u _ _ _ _ h
   .rw[Hb] at h;exact wpAny_eqBool_str h
 «strs»:=λk x t v h=>by
  rcases bJ h with⟨i,u,rfl,e⟩ | ⟨y,u,rfl,e⟩
  .exact nomatch e
  .injection e with e1 _
   subst e1;cases v<;>rfl
def yj(prog:Zv)(w:World)(k:Key)(v:Value):(bt prog w).is k v=kY k v:=rfl
def wx(prog:Zv)(w:World)(i:Int)(t:Tok):(bt prog w).is (.inl i) (.int i t)=true:=z0 i t
def wy(prog:Zv)(w:World)(x:Str)(t:Tok):(bt prog w).is (.inr x) (.str x t)=true:=z5 x t
inductive V where
 |non | bl (b:Bool) | int (i:Int) | str (x:Str) | byt (b:Array UInt8) | flt (b:UInt64) | ref (a:Addr) | ty (n:String)
 deriving DecidableEq
def RelV:V->Value->Prop
 |.non,u=>u=Value.none
 |.bl b,u=>u=Value.bool b
 |.int i,u=>∃t,u=Value.int i t
 |.str x,u=>∃t,u=Value.str x t
 |.byt b,u=>∃t,u=Value.bytes b t
 |.flt b,u=>∃t,u=Value.float b t
 |.ref a,u=>u=Value.ref a
 |.ty n,u=>u=Value.type n
abbrev ak:List V->List Value->Prop:=Paired RelV
theorem ak.length{xs:List V}{us:Zd}(r:ak xs us):xs.length=us.length:=Paired.length r
theorem ak.get:∀{xs:List V}{us:Zd}{i:Nat}{x:V},ak xs us->xs[i]?=some x->∃u,us[i]?=some u/\RelV x u
 |_,_,_,_,.nil,e=>by simp at e
 |_,_,0,_,.cons r _,e=>by simp at e;subst e;exact⟨_,rfl,r⟩
 |_,_,i+1,x,.cons _ t,e=>by
  obtain⟨u,h1,a⟩:=ak.get (i:=i) (x:=x) t (by simpa using e);exact⟨u,by simpa using h1,a⟩
theorem ak.set{x:V}{u:Value}(r:RelV x u):∀{xs:List V}{us:Zd}(i:Nat),ak xs us->ak (xs.set i x) (us.set i u)
 |_,_,_,.nil=>.nil
 |_,_,0,.cons _ t=>.cons r t
 |_,_,i+1,.cons q t=>.cons q (ak.set r i t)
theorem ak.append(h:ak xs us)(s:ak vs d_):ak (xs++vs) (us++d_):=by
 induction h with
 |nil=>exact s
 |cons r _ a=>exact .cons r a
theorem ak.take:∀{xs:List V}{us:Zd}(n:Nat),ak xs us->ak (xs.take n) (us.take n)
 |_,_,0,_=>.nil
 |_,_,_+1,.nil=>.nil
 |_,_,n+1,.cons r t=>.cons r (ak.take n t)
theorem ak.drop:∀{xs:List V}{us:Zd}(n:Nat),ak xs us->ak (xs.drop n) (us.drop n)
 |_,_,0,r=>r
 |_,_,_+1,.nil=>.nil
 |_,_,n+1,.cons _ t=>ak.drop n t
def eL:Option V->Option Value->Prop
 |some v,some u=>RelV v u
 |none,none=>True
 |_,_=>False
def KV{a:Type}:List (a×V)->List (a×Value)->Prop:=Paired λ(p:a×V) (q:a×Value)=>p.1=q.1/\RelV p.2 q.2
def kV:Key->V
 |.inl i=>.int i
 |.inr x=>.str x
inductive HO where
  /-- a list -/
  | lst (xs:List V)
  /-- a tuple (never changes) -/
  | tup (xs:List V)
  /-- a dict whose keys are ints and texts; one whose keys are tuples of ints and texts (the empty one is both) -/
  | dK (kvs:List (Key × V)) | dT (kvs:List (List Key × V))
  /-- a set of ints: d_ members,d_ size -/
  | set (S:Int->Bool) (n:Nat)
  /-- an instance of the class at C,d_ dict at dx,d_ attributes -/
  | ins (C dx:Addr) (fs:List (Str × V))
  /-- the dict of the instance at x -/
  | own (x:Addr)
  /-- the dict of an exception -/
  | xd (fs:List (Str × V))
  /-- a bound method,f of x -/
  | met (f x:Addr)
  /-- a range object lo,lo + 1,.. below hi -/
  | rng (lo hi:Int)
  /-- a thing that is known to the object (the script; a dict while a loop walks it): read,never written while it is so -/
  | frz (o:Obj) (u:HO)
  /-- a code object's table -/
  | tbl (ps:Zl)
  /-- any other thing,by what is true of d_ one object (a def of TX own: SetO a S n:=HO.ext λh=>..) -/
  | ext (φ:Heap->Prop)
abbrev Hp:=Addr->Option HO
def upd(H:Hp)(a:Addr)(o:HO):Hp:=λb=>if b=a then some o else H b
def aA:upd H b o b=some o:=by unfold upd;rw[if_pos rfl]
def aM(h:b≠C):upd H C o b=H b:=by unfold upd;rw[if_neg h]
def JR{u:HO}(h:H C=some o)(h':H b=some u)(d:o≠u):C≠b:=by
 intro e;subst e;rw[h] at h';exact d (Yi h')
def bc(h:H C=some o)(h':H b=none):C≠b:=by
 intro e;subst e;rw[h] at h';cases h'
def j7(h:Heap)(a:Addr)(d_:Zl):Prop:=∃o,h.get? a=some o/\o.cls=.type "tuple"/\∃n,o.data=.seq d_ n/\o.dict=none
theorem j7.new(h:Heap)(d_:Zl):j7 (h.push { cls:=.type "tuple",data:=.seq d_ }) h.objs.size d_:=⟨_,Yg _ rfl,rfl,_,rfl,rfl⟩
theorem j7.tup{h:Heap}{a:Addr}{d_:Zl}(x:j7 h a d_):IsTup h a d_:=let⟨o,e,c,n,d,_⟩:=x;⟨o,e,c,n,d⟩
section
variable (P:Zv)(w:World)
def aT(H:Hp)(h:Heap)(a:Addr):HO->Prop
 |.lst xs=>xs.length<=sizeLine/\∃(d_:Zd) (n:Nat),ak xs d_/\h.get? a=some { cls:=.type "list",data:=.seq d_.toArray n }
 |.tup xs=>xs.length<=sizeLine/\∃d_:List Value,ak xs d_/\j7 h a d_.toArray
 |.dK kvs=>kvs.length<=sizeLine/\(a==sysModules)=false/\∃vs,KV kvs vs/\h.DictOf (bt P w) a vs
 |.dT kvs=>kvs.length<=sizeLine/\(a==sysModules)=false/\∃xs:List (List Key×Addr×Value),
   Paired (λ(p:List Key×V) (q:List Key×Addr×Value)=>p.1=q.1/\H q.2.1=some (.tup (p.1.map kV))/\RelV p.2 q.2.2) kvs xs /\
   ∃o es l,h.get? a=some o/\o.ExactDict/\o.data=.dict es l/\es.toList=xs.map (entryOfKey (tupleKind (bt P w)))/\(xs.map (·.1)).Nodup
 |.set S n=>h.SetOf (intKind P w) a S n
 |.ins C dx fs=>H dx=some (.own a)/\fs.length<=1000/\dx≠a/\h.get? a=some (PySem.W.instObj C dx) /\
   ∃mA,h.Ns1 dx mA/\(∀f,eL (fs.lookup f) (mA f))/\PySem.Within mA (fs.map (·.1))
 |.own _=>∃o,h.get? a=some o
 |.xd fs=>∃mA,h.Ns1 a mA/\∀f,eL (fs.lookup f) (mA f)
 |.rng lo hi=>∃t u v,h.get? a=some { cls:=.type "range",data:=.fields #[.int lo t,.int hi u,.int 1 v] }
 |.frz o u=>h.get? a=some o/\aT H h a u
 |.tbl ps=>h.get? a=some { cls:=.none,data:=.fields ps }
 |.met f x=>h.get? a=some (PySem.W.methodObj (.ref f) (.ref x))
 |.ext c=>c h/\(∃o,h.get? a=some o)/\∀h1 k:Heap,c h1->(∀o,h1.get? a=some o->k.get? a=some o)->c k
def ca(H:Hp)(h:Heap):Prop:=∀a o,H a=some o->aT P w H h a o
end
section
variable {P:Zv}{w:World}{H H':Hp}{h h':Heap}{a:Addr}{o:HO}
theorem aT.lt(x:aT P w H h a o):a<h.objs.size:=by
 cases o with
 |lst xs=>obtain⟨_,_,_,_,e⟩:=x;exact Ye e
 |tup xs=>obtain⟨_,_,_,p⟩:=x;exact p.tup.lt
 |dK kvs=>obtain⟨_,_,_,_,o,_,_,e,_⟩:=x;exact Ye e
 |dT kvs=>obtain⟨_,_,_,_,o,_,_,e,_⟩:=x;exact Ye e
 |set S n=>obtain⟨o,_,_,_,e,_⟩:=x;exact Ye e
 |ins C dx fs=>obtain⟨_,_,_,e,_⟩:=x;exact Ye e
 |own y=>obtain⟨_,e⟩:=x;exact Ye e
 |xd fs=>obtain⟨_,⟨_,_,_,e,_⟩,_⟩:=x;exact Ye e
 |rng lo hi=>obtain⟨_,_,_,e⟩:=x;exact Ye e
 |frz ob u=>obtain⟨e,_⟩:=x;exact Ye e
 |tbl ps=>exact Ye (show h.get? a=some _ from x)
 |met f y=>exact Ye (show h.get? a=some _ from x)
 |ext c=>obtain⟨_,⟨_,e⟩,_⟩:=x;exact Ye e
theorem Paired.mapP{c k:Type}{F G:c->k->Prop}{l:List c}{m:List k}(h:Paired F l m)(f:∀a b,F a b->G a b):Paired G l m:=by
 induction h with
 |nil=>exact .nil
 |cons r _ n=>exact .cons (f _ _ r) n
theorem aT.stay(x:aT P w H h a o)(k:∀b u,(b=a\/H b=some (.own a))->h.get? b=some u->h'.get? b=some u)
  (ho:∀b,H b=some (.own a)->H' b=some (.own a)) (ht:∀b xs,H b=some (.tup xs)->H' b=some (.tup xs)):aT P w H' h' a o:=by
 induction o with
 |lst xs=>obtain⟨z,d_,n,r,e⟩:=x;exact⟨z,d_,n,r,k _ _ (.inl rfl) e⟩
 |tup xs=>obtain⟨z,d_,r,ob,e,c⟩:=x;exact⟨z,d_,r,ob,k _ _ (.inl rfl) e,c⟩
 |dK kvs=>obtain⟨z,y,vs,r,ob,es,l,e,c⟩:=x;exact⟨z,y,vs,r,ob,es,l,k _ _ (.inl rfl) e,c⟩
 |dT kvs=>
  obtain⟨z,y,xs,r,ob,es,l,e,c⟩:=x;exact⟨z,y,xs,Paired.mapP r λp q z=>⟨z.1,ht _ _ z.2.1,z.2.2⟩,ob,es,l,k _ _ (.inl rfl) e,c⟩
 |set S n=>obtain⟨ob,es,l,t,e,c⟩:=x;exact⟨ob,es,l,t,k _ _ (.inl rfl) e,c⟩
 |ins C dx fs=>
  obtain⟨d,z,ne,e,mA,⟨od,es,l,m,c⟩,r⟩:=x;exact⟨ho _ d,z,ne,k _ _ (.inl rfl) e,mA,⟨od,es,l,k _ _ (.inr d) m,c⟩,r⟩
 |own y=>obtain⟨ob,e⟩:=x;exact⟨ob,k _ _ (.inl rfl) e⟩
 |xd fs=>obtain⟨mA,⟨od,es,l,e,c⟩,r⟩:=x;exact⟨mA,⟨od,es,l,k _ _ (.inl rfl) e,c⟩,r⟩
 |rng lo hi=>obtain⟨t,u,v,e⟩:=x;exact⟨t,u,v,k _ _ (.inl rfl) e⟩
 |frz ob u B=>obtain⟨e,q⟩:=x;exact⟨k _ _ (.inl rfl) e,B q⟩
 |tbl ps=>
  have e:h.get? a=some { cls:=.none,data:=.fields ps }:=x;show h'.get? a=some { cls:=.none,data:=.fields ps };exact k a _ (.inl rfl) e
 |met f y=>
  have e:h.get? a=some (PySem.W.methodObj (.ref f) (.ref y)):=x;show h'.get? a=some (PySem.W.methodObj (.ref f) (.ref y));exact k a _ (.inl rfl) e
 |ext E=>obtain⟨p,⟨o,e⟩,st⟩:=x;exact⟨st _ _ p λo q=>k _ _ (.inl rfl) q,⟨o,k _ _ (.inl rfl) e⟩,st⟩
theorem ca.lt(x:ca P w H h)(e:H a=some o):a<h.objs.size:=(x a o e).lt
theorem ca.fresh(x:ca P w H h)(e:h.objs.size<=a):H a=none:=by
 cases q:H a with
 |none=>rfl
 |some u=>exact absurd (ZR (x.lt q) e) (ZS _)
theorem ca.kept(x:ca P w H h)(k:∀b u,h.get? b=some u->h'.get? b=some u):ca P w H h':=λa o e=>
 (x a o e).stay (λb u _ q=>k b u q) (λ_ q=>q) λ_ _ q=>q
theorem ca.laid(x:ca P w H h)(k:∀b u,h.get? b=some u->h'.get? b=some u)(hp:h.objs.size<=a)(new:aT P w (upd H a o) h' a o):ca P w (upd H a o) h':=λb u e=>by
 have hn:=x.fresh hp;by_cases hb:b=a
 .subst hb;rw[aA] at e;cases e;exact new
 .rw[aM hb] at e
  exact(x b u e).stay (λc v _ q=>k c v q) (λc q=>by rw[aM (bc q hn)];exact q) λc xs q=>by rw[aM (bc q hn)];exact q
end
def Rd(H:Hp)(a:Addr)(u:HO):Prop:=H a=some u \/ ∃o,H a=some (.frz o u)
theorem Rd.ok{h:Heap}(r:Rd H b o)(x:ca P w H h):aT P w H h b o:=by
 rcases r with r | ⟨u,r⟩
 .exact x b o r
 .obtain⟨_,q⟩:=x b _ r
  exact q
def uh:Option HO->Prop
 |some (.lst _)=>True
 |some (.dK _)=>True
 |some (.dT _)=>True
 |some (.set _ _)=>True
 |some (.ins _ _ _)=>True
 |some (.ext _)=>True
 |_=>False
section
variable {P:Zv}{w:World}{H:Hp}{h h':Heap}{x e:Addr}{o':HO}
theorem ca.write(ok:ca P w H h)(mu:uh (H x))(l:e=x\/H e=some (.own x))(k:∀b u,b≠e->h.get? b=some u->h'.get? b=some u)(p:∃u,h'.get? e=some u)
  (new:aT P w (upd H x o') h' x o'):ca P w (upd H x o') h':=λb u q=>by
 have m:∀c y,H c=some (.own y)->c≠x:=λc y r z=>by subst z;rw[r] at mu;exact mu
 have B:∀c xs,H c=some (.tup xs)->c≠x:=λc xs r z=>by subst z;rw[r] at mu;exact mu
 by_cases hb:b=x
 .subst hb;rw[aA] at q;cases q;exact new
 .rw[aM hb] at q
  by_cases a:b=e
  .have n:H b=some (.own x):=by
    rcases l with z | z
    .exact absurd (a.trans z) hb
    .rw[a];exact z
   rw[q] at n;cases n;obtain⟨v,hv⟩:=p;exact⟨v,by rw[a];exact hv⟩
  .refine(ok b u q).stay (λc v hc r=>k c v ?_ r) (λc r=>by rw[aM (m c b r)];exact r) λc xs r=>by rw[aM (B c xs r)];exact r
   rcases hc with rfl | hc
   .exact a
   .rintro rfl
    rcases l with z | z
    .exact m c b hc z
    .rw[hc] at z;cases z;exact hb rfl
end
structure Un (fs ex:Zh) (H H':Hp) (h h':Heap):Prop where
 keep:∀b o,h.get? b=some o->H b=none->b∉fs->b∉ex->h'.get? b=some o
 slot:∀b o,h.get? b=some o->H b=none->b∈fs->b∉ex->∃sl,h'.get? b=some { o with slots:=sl }
 free:∀b o,h.get? b=some o->H b=none->b∉ex->H' b=none
 there:∀b o,h.get? b=some o->b∉ex->∃o',h'.get? b=some o'
 tups:∀b xs,H b=some (.tup xs)->H' b=some (.tup xs)
 frzs:∀b o u,H b=some (.frz o u)->H' b=some (.frz o u)
 tbls:∀b ps,H b=some (.tbl ps)->∃more,H' b=some (.tbl (ps++more))
section
variable {fs Oi ex Xe:Zh}{H H1 H2:Hp}{h h1 h2 h':Heap}{a x e:Addr}{o:HO}
theorem Un.any(u:Un fs ex H H1 h h1)(q:h.get? b=some ob)(n:H b=none)(hx:b∉ex):∃sl,h1.get? b=some { ob with slots:=sl }:=by
 by_cases hb:b∈fs
 .exact u.slot b ob q n hb hx
 .exact⟨ob.slots,u.keep b ob q n hb hx⟩
theorem Un.kept(k:∀b u,h.get? b=some u->h'.get? b=some u):Un fs ex H H h h':=
 ⟨λb ob q _ _ _=>k b ob q,λb ob q _ _ _=>⟨ob.slots,k b ob q⟩,λ_ _ _ n _=>n,λb ob q _=>⟨ob,k b ob q⟩,λ_ _ q=>q,λ_ _ _ q=>q,λ_ ps q=>⟨#[],by rw[q];simp⟩⟩
theorem Un.refl:Un fs ex H H h h:=Un.kept λ_ _ q=>q
theorem Un.laid(k:∀b u,h.get? b=some u->h'.get? b=some u)(hp:h.objs.size<=a)(hn:H a=none):Un fs ex H (upd H a o) h h' where
 keep:=λb u q _ _ _=>k b u q
 slot:=λb u q _ _ _=>⟨u.slots,k b u q⟩
 free:=λb u q n _=>by rw[aM (ZT (ZR (Ye q) hp))];exact n
 there:=λb u q _=>⟨u,k b u q⟩
 tups:=λb xs q=>by rw[aM (bc q hn)];exact q
 frzs:=λb u xs q=>by rw[aM (bc q hn)];exact q
 tbls:=λb ps q=>⟨#[],by rw[aM (bc q hn),q];simp⟩
theorem Un.write(mu:uh (H x))(l:e=x\/H e=some (.own x))(k:∀b u,b≠e->h.get? b=some u->h'.get? b=some u)(m:∃u,h'.get? e=some u):Un fs ex H (upd H x o) h h':=by
 have hx:∀b,H b=none->b≠x:=λb n z=>by subst z;rw[n] at mu;exact mu
 have hb:∀b,H b=none->b≠e:=λb n z=>by
  subst z;rcases l with r | r
  .exact hx b n r
  .rw[n] at r;cases r
 have hm:∀b u,H b=some u->¬uh (some u)->b≠x:=λb u q nm z=>by subst z;rw[q] at mu;exact nm mu
 refine⟨λb u q n _ _=>k b u (hb b n) q,λb u q n _ _=>⟨u.slots,k b u (hb b n) q⟩,λb u q n _=>by rw[aM (hx b n)];exact n,λb u q _=>?_,
  λb xs q=>by rw[aM (hm b _ q λz=>z)];exact q,λb u xs q=>by rw[aM (hm b _ q λz=>z)];exact q,λb ps q=>⟨#[],by rw[aM (hm b _ q λz=>z),q];simp⟩⟩
 by_cases c:b=e
 .subst c;exact m
 .exact⟨u,k b u c q⟩
end
def EF(h:Heap)(H:Hp):List Addr:=(List.range h.objs.size).filter λa=>(H a).isSome
def kZ(h:Heap)(H:Hp):Heap:=PySem.W.hideAll h (EF h H)
def z6(h:Heap)(H:Hp):(kZ h H).objs.size=h.objs.size:=PySem.W.hideAll_size _ _
def BM{h:Heap}(e:h.get? b=some ob)(n:H b=none):(kZ h H).get? b=some ob:=
 PySem.W.hideAll_get _ e λhm=>by
  have q:(H b).isSome=true:=(ZU.mp hm).2;rw[n] at q;simp at q
def Fn{h:Heap}{o:Obj}(e:(kZ h H).get? b=some o):h.get? b=some o/\H b=none:=by
 have e':h.get? b=some o:=PySem.W.of_hideAll (EF h H) e;refine⟨e',?_⟩;cases q:H b with
 |none=>rfl
 |some x=>
  have hm:b∈EF h H:=ZU.mpr ⟨ZV.mpr (Ye e'),by simp[q]⟩;have z:(kZ h H).get? b=none:=PySem.W.hideAll_none (EF h H) hm;rw[z] at e;cases e
def Fo(g h:Heap)(L:Addr):List (Addr×Obj):=(List.range h.objs.size).filterMap λa=>if a=L\/(g.get? a).isSome=true then none else(h.get? a).map λo=>(a,o)
def rest(g h:Heap)(L d:Addr):List (Addr×Obj):=(Fo g h L).filter λp=>decide (p.1≠d)
structure Mod (K:Za) (mg:Ze) (base:Heap):Prop where
 kin:K.In base
 glob:base.Ns mainGlobals mg
 blt:∃mb,base.Ns builtinsNs mb/\∀x:Str,x ≠ "__name__"->mb x=bootBuiltins x
 nolimit:base.NoLimit
structure Cx where
 prog:Program
 w:World
 K:PySem.W.Frag
 mg:Str->Option Value
 base:Heap
 A:Around
 N:List Str
 s₀:Shared
 H₀:Hp
 env:Env
 outer:List Env
 stack:List Env
 ex:List Addr
 fn:Str->Bool
 calm:Bool
 pn:List (Addr×Obj)
 xe:Value->Shared->Prop
def ko(l:List Env):List Addr:=l.filterMap (·.frame)
abbrev Cx.fs(X:Cx):List Addr:=ko X.outer
def ui(sc:Scope)(x:Str):Prop:=sc.names.lookup x=some .local \/ sc.names.lookup x=some .cell\/sc.names.lookup x=some .free
def Loc(sc:Scope)(x:Str):Prop:=sc.names.lookup x=some .local \/ sc.names.lookup x=some .cell
def Look(env:Env)(h:Heap)(m:Ze)(x:Str)(u:Value):Prop:=
 (env.kindOf x=some .local/\m x=some u)\/((env.kindOf x=some .cell\/env.kindOf x=some .free)/\∃c,env.cells.lookup x=some c/\h.IsCell c (some u))
structure Cx.Ok (X:Cx):Prop where
 mod:Mod X.K X.mg X.base
 kind:X.env.scope.kind=.function
 glob:X.env.globals=mainGlobals
 blt:X.env.builtins=builtinsNs
 above:X.s₀.heap.objs.size<=X.env.locals
 inj:∀x y c,X.env.cells.lookup x=some c->X.env.cells.lookup y=some c->x=y
 has:∀x,(X.env.kindOf x=some .cell\/X.env.kindOf x=some .free)->∃c,X.env.cells.lookup x=some c
 cab:∀x c,X.fn x=true->X.env.cells.lookup x=some c->X.s₀.heap.objs.size<=c
 hd:X.calm=true->X.A.handled=none
 frames:X.A.frames=some X.stack
 stk:X.stack=X.outer\/(X.stack=X.env::X.outer/\X.env.frame=some X.env.locals)
 exf:∀b∈X.ex,b≠X.env.locals/\∀x c,X.env.cells.lookup x=some c->c≠b
 bs:∀b o,X.base.get? b=some o->X.s₀.heap.get? b=some o/\X.H₀ b=none
 bsz:X.base.objs.size<=X.s₀.heap.objs.size
 noex:∀b o,X.base.get? b=some o->b∉X.ex
 exfs:∀b∈X.ex,b∉X.fs
 funs:X.s₀.heap.FunFrames X.base X.outer
 frf:∀b∈X.fs,X.H₀ b=none
structure ad (X:Cx) (a_:Zc) (σ:List (Option V)) (H:Hp) (s:Shared):Prop where
 ok:X.Ok
 os:s.os=X.s₀.os
 bare:AllBare s.gens
 base:Un X.fs X.ex X.H₀ H X.s₀.heap s.heap
 loc:∃m,s.heap.Ns X.env.locals m/\∀(i:Nat) (x:Str) (v:V),X.N[i]?=some x->σ[i]?=some (some v)->ui X.env.scope x->∃u,RelV v u/\Look X.env s.heap m x u
 cell:∀x c,X.env.cells.lookup x=some c->∃v,s.heap.IsCell c v
 free:H X.env.locals=none
 freeC:∀x c,X.env.cells.lookup x=some c->H c=none
 pin:∀p∈X.pn++a_,s.heap.get? p.1=some p.2/\H p.1=none/\p.1≠X.env.locals/\p.1∉X.fs/\∀v,p.2.data≠.cell v
 hok:ca X.prog X.w H s.heap
 len:σ.length=X.N.length
section
variable {X:Cx}{a_:Zc}{σ:List (Option V)}{H H':Hp}{s:Shared}{h':Heap}
theorem Cx.Ok.nofr(ok:X.Ok)(e:X.base.get? b=some ob):b∉X.fs:=λhb=>by
 have:=(ok.funs.mem hb).1
 rw[e] at this;cases this
theorem ad.bs(I:ad X a_ σ H s):∀b o,X.base.get? b=some o->s.heap.get? b=some o/\H b=none:=λb o e=>
 ⟨I.base.keep b o (I.ok.bs b o e).1 (I.ok.bs b o e).2 (I.ok.nofr e) (I.ok.noex b o e),I.base.free b o (I.ok.bs b o e).1 (I.ok.bs b o e).2 (I.ok.noex b o e)⟩
theorem ad.bk(I:ad X a_ σ H s):∀b o,X.base.get? b=some o->s.heap.get? b=some o:=λb o e=>(I.bs b o e).1
theorem ad.mod(I:ad X a_ σ H s):Mod X.K X.mg X.base:=I.ok.mod
theorem ad.kIn(I:ad X a_ σ H s):X.K.In s.heap:=I.ok.mod.kin.keeps I.bk
theorem ad.lt(I:ad X a_ σ H s):X.env.locals<s.heap.objs.size:=let⟨_,hn,_⟩:=I.loc;hn.lt
theorem ad.sz(I:ad X a_ σ H s):X.s₀.heap.objs.size<=s.heap.objs.size:=ZW I.ok.above (Nat.le_of_lt I.lt)
theorem ad.nofs(I:ad X a_ σ H s)(h:s.heap.objs.size<=b):b∉X.fs:=λhb=>by
 obtain⟨_,o,ho,_⟩:=I.ok.funs.mem hb;exact absurd (ZR (Ye ho) (ZW I.sz h)) (ZS _)
theorem ad.cne(I:ad X a_ σ H s):∀x c,X.env.cells.lookup x=some c->c≠X.env.locals:=λx c e z=>by
 obtain⟨v,o,ho,hd⟩:=I.cell x c e;obtain⟨m,⟨o',es,l,a,k,_⟩,_⟩:=I.loc;rw[z,a] at ho;cases ho;rw[k] at hd;cases hd
theorem ad.funs(I:ad X a_ σ H s):s.heap.FunFrames X.base X.outer:=by
 have all:∀(l:List Env),(∀b∈ko l,b∈X.fs)->X.s₀.heap.FunFrames X.base l->s.heap.FunFrames X.base l:=by
  intro l;induction l with
  |nil=>intro _ _;trivial
  |cons env r k=>
   intro hs hl;obtain⟨hk,⟨L,o,a,hn,ho,hd⟩,m⟩:=hl;have c:L∈X.fs:=hs L (by unfold ko;rw[List.filterMap_cons,a];exact ZX);obtain⟨sl,e⟩:=I.base.slot L o ho (I.ok.frf L c) c λz=>I.ok.exfs L z c
   exact⟨hk,⟨L,_,a,hn,e,hd⟩,k (λb hb=>hs b (by unfold ko;rw[List.filterMap_cons,a];exact ZY _ hb)) m⟩
 exact all X.outer (λ_ hb=>hb) I.ok.funs
theorem ad.stack(I:ad X a_ σ H s):s.heap.FunFrames X.base X.stack:=by
 rcases I.ok.stk with e | ⟨e,hf⟩
 .rw[e];exact I.funs
 .rw[e]
  obtain⟨m,hn,_⟩:=I.loc;refine .cons (by rw[I.ok.kind];decide) hf hn ?_ I.funs;exact Heap.get?_none_of_le (ZW I.ok.bsz I.ok.above)
theorem ad.stkSub(I:ad X a_ σ H s):∀b∈ko X.stack,b∈X.env.locals::X.fs:=λb hb=>by
 rcases I.ok.stk with e | ⟨e,hf⟩
 .rw[e] at hb;exact ZY _ hb
 .rw[e] at hb
  unfold ko at hb;rw[List.filterMap_cons,hf] at hb;exact hb
theorem ad.stkFree(I:ad X a_ σ H s):∀b∈ko X.stack,H b=none:=λb hb=>by
 rcases ZZ.mp (I.stkSub b hb) with e | hb
 .rw[e];exact I.free
 .obtain⟨_,o,ho,_⟩:=I.ok.funs.mem hb
  exact I.base.free b o ho (I.ok.frf b hb) λz=>I.ok.exfs b z hb
theorem ad.step{g':Array GenState}{t':Nat}{d':Drawn}{ch:Zh}(I:ad X a_ σ H s)
  (E:∀b∈ch,(b∈X.ex\/X.s₀.heap.objs.size<=b)/\b≠X.env.locals/\(∀x c,X.env.cells.lookup x=some c->c≠b)/\∀p∈X.pn++a_,p.1≠b)
  (keep:∀b o,b≠X.env.locals->b∉X.fs->b∉ch->s.heap.get? b=some o->H b=none->h'.get? b=some o)
  (slot:∀b o,b≠X.env.locals->b∈X.fs->b∉ch->s.heap.get? b=some o->H b=none->∃sl,h'.get? b=some { o with slots:=sl }) (free:∀b o,b∉ch->s.heap.get? b=some o->H b=none->H' b=none)
  (there:∀b o,b∉ch->s.heap.get? b=some o->∃o',h'.get? b=some o')
  (tups:∀b xs,H b=some (.tup xs)->H' b=some (.tup xs)) (frzs:∀b o u,H b=some (.frz o u)->H' b=some (.frz o u)) (tbls:∀b ps,H b=some (.tbl ps)->∃more,H' b=some (.tbl (ps++more)))
  (ns:∀m,s.heap.Ns X.env.locals m->h'.Ns X.env.locals m) (hok:ca X.prog X.w H' h') (R:AllBare g'):
  ad X a_ σ H' { s with heap:=h',gens:=g',drawn:=d',toks:=t' }:=by
 have L:∀b o,X.s₀.heap.get? b=some o->b≠X.env.locals:=λb o e=>ZT (ZR (Ye e) I.ok.above)
 have J:∀b o,X.s₀.heap.get? b=some o->b∉X.ex->b∉ch:=λb o e hx hb=>by
  rcases(E b hb).1 with z | z
  .exact hx z
  .exact absurd (ZR (Ye e) z) (ZS _)
 have a:∀x c,X.env.cells.lookup x=some c->∀v,s.heap.IsCell c v->h'.IsCell c v:=λx c e v ⟨o,ho,hd⟩=>by
  have F:c∉ch:=λz=>(E c z).2.2.1 x c e rfl
  by_cases hc:c∈X.fs
  .obtain⟨sl,q⟩:=slot c o (I.cne x c e) hc F ho (I.freeC x c e)
   exact⟨_,q,hd⟩
  .exact⟨o,keep c o (I.cne x c e) hc F ho (I.freeC x c e),hd⟩
 refine⟨I.ok,I.os,R,⟨λb o e n hb hx=>?_,λb o e n hb hx=>?_,λb o e n hx=>?_,λb o e hx=>?_,λb xs e=>tups b xs (I.base.tups b xs e),λb o xs e=>frzs b o xs (I.base.frzs b o xs e),λb ps e=>?_⟩,?_,λx c e=>?_,?_,λx c e=>?_,λp hp=>?_,hok,I.len⟩
 .exact keep b o (L b o e) hb (J b o e hx) (I.base.keep b o e n hb hx) (I.base.free b o e n hx)
 .obtain⟨sl,B⟩:=I.base.slot b o e n hb hx
  obtain⟨S,G⟩:=slot b _ (L b o e) hb (J b o e hx) B (I.base.free b o e n hx);exact⟨S,G⟩
 .obtain⟨o',B⟩:=I.base.there b o e hx
  exact free b o' (J b o e hx) B (I.base.free b o e n hx)
 .obtain⟨o',B⟩:=I.base.there b o e hx
  exact there b o' (J b o e hx) B
 .obtain⟨m1,B⟩:=I.base.tbls b ps e
  obtain⟨m2,G⟩:=tbls b _ B;exact⟨m1++m2,by rw[G,Array.append_assoc]⟩
 .obtain⟨m,hn,hl⟩:=I.loc
  refine⟨m,ns m hn,λi x v B G T=>?_⟩;obtain⟨u,r,l⟩:=hl i x v B G T;refine⟨u,r,?_⟩;rcases l with l | ⟨k,c,e,z⟩
  .exact .inl l
  .exact .inr ⟨k,c,e,a x c e _ z⟩
 .obtain⟨v,z⟩:=I.cell x c e
  exact⟨v,a x c e v z⟩
 .obtain⟨m,⟨o,_,_,ho,_⟩,_⟩:=I.loc
  exact free _ o (λz=>(E _ z).2.1 rfl) ho I.free
 .obtain⟨v,o,ho,hd⟩:=I.cell x c e
  exact free c o (λz=>(E c z).2.2.1 x c e rfl) ho (I.freeC x c e)
 .obtain⟨e,n,ne,O,d⟩:=I.pin p hp
  have F:p.1∉ch:=λz=>(E p.1 z).2.2.2 p hp rfl
  exact⟨keep p.1 p.2 ne O F e n,free p.1 p.2 F e n,ne,O,d⟩
theorem ad.un{t':Nat}(I:ad X a_ σ H s)(u:Un X.fs [] H H' s.heap h')(hok:ca X.prog X.w H' h'):ad X a_ σ H' { s with heap:=h',toks:=t' }:=by
 obtain⟨m,⟨o,es,B,ho,r⟩,_⟩:=id I.loc;obtain⟨sl,c⟩:=u.any ho I.free (by simp);exact I.step (g':=s.gens) (d':=s.drawn) (ch:=[]) (λ_ z=>nomatch z) (λb o _ hb _ e n=>u.keep b o e n hb (by simp)) (λb o _ hb _ e n=>u.slot b o e n hb (by simp)) (λb o _ e n=>u.free b o e n (by simp)) (λb o _ e=>u.there b o e (by simp)) u.tups u.frzs u.tbls (λm' hm=>by
  obtain⟨o',k,l,a,p⟩:=hm;rw[ho] at a;cases a;exact⟨_,k,l,c,p⟩) hok I.bare
theorem ad.call{g':Array GenState}{t':Nat}{d':Drawn}{ch:Zh}(I:ad X a_ σ H s)(u:Un (ko X.stack) ch H H' s.heap h')(hok:ca X.prog X.w H' h')(B:AllBare g')
  (k:∀b∈ch,(b∈X.ex\/X.s₀.heap.objs.size<=b)/\b≠X.env.locals/\(∀x c,X.env.cells.lookup x=some c->c≠b)/\∀p∈X.pn++a_,p.1≠b):
  ad X a_ σ H' { s with heap:=h',gens:=g',drawn:=d',toks:=t' }:=by
 obtain⟨m,⟨o,es,J,ho,r⟩,_⟩:=id I.loc;obtain⟨sl,a⟩:=u.any ho I.free λz=>(k _ z).2.1 rfl
 exact I.step (ch:=ch) k (λb o a hb hc e n=>u.keep b o e n (λz=>(ZZ.mp (I.stkSub b z)).elim a hb) hc) (λb o _ _ hc e n=>u.any e n hc) (λb o hc e n=>u.free b o e n hc) (λb o hc e=>u.there b o e hc) u.tups u.frzs u.tbls (λm' hm=>by
  obtain⟨o',E,F,l,G⟩:=hm;rw[ho] at l;cases l;exact⟨_,E,F,a,G⟩) hok B
theorem ad.turned{t':Nat}(I:ad X a_ σ H s)(k:∀b o,b≠it->s.heap.get? b=some o->h'.get? b=some o)(hn:H it=none)(a:it≠X.env.locals)
  (h1:it∈X.ex\/X.s₀.heap.objs.size<=it) (B:∀x c,X.env.cells.lookup x=some c->c≠it) (E:∀p∈X.pn++a_,p.1≠it):ad X a_ σ H { s with heap:=h',toks:=t' }:=by
 have l:∀b u,H b=some u->b≠it:=λb u e z=>by rw[z,hn] at e;cases e
 refine I.step (g':=s.gens) (d':=s.drawn) (ch:=[it]) (λb hb=>?_) (λb o _ _ hc e _=>k b o (λz=>hc (by simp[z])) e) (λb o _ _ hc e _=>⟨o.slots,k b o (λz=>hc (by simp[z])) e⟩) (λ_ _ _ _ n=>n)
  (λb o hc e=>⟨o,k b o (λz=>hc (by simp[z])) e⟩) (λ_ _ e=>e) (λ_ _ _ e=>e) (λb ps e=>⟨#[],by rw[e];simp⟩) (λm hm=>?_) (λb u e=>?_) I.bare
 .have e:b=it:=by simpa using hb
  subst e;exact⟨h1,a,B,E⟩
 .obtain⟨o,es,F,ho,r⟩:=hm
  exact⟨o,es,F,k _ o (Ne.symm a) ho,r⟩
 .refine(I.hok b u e).stay (λc v hc q=>k c v ?_ q) (λ_ q=>q) λ_ _ q=>q
  rcases hc with z | z
  .rw[z];exact l b u e
  .exact l c _ z
theorem ad.tok(I:ad X a_ σ H s)(t:Nat):ad X a_ σ H { s with toks:=t }:=I.un (h':=s.heap) (t':=t) Un.refl I.hok
theorem ad.kept{t':Nat}(I:ad X a_ σ H s)(k:∀b u,s.heap.get? b=some u->h'.get? b=some u):ad X a_ σ H { s with heap:=h',toks:=t' }:=I.un (Un.kept k) (I.hok.kept k)
theorem ad.laid{a:Addr}{o:HO}{t':Nat}(I:ad X a_ σ H s)(k:∀b u,s.heap.get? b=some u->h'.get? b=some u)(hp:s.heap.objs.size<=a)(new:aT X.prog X.w (upd H a o) h' a o):
  ad X a_ σ (upd H a o) { s with heap:=h',toks:=t' }:=I.un (Un.laid k hp (I.hok.fresh hp)) (I.hok.laid k hp new)
theorem ad.write{x e:Addr}{o:HO}{t':Nat}(I:ad X a_ σ H s)(mu:uh (H x))(a:e=x\/H e=some (.own x))(k:∀b u,b≠e->s.heap.get? b=some u->h'.get? b=some u)(c:∃u,h'.get? e=some u)
  (new:aT X.prog X.w (upd H x o) h' x o):ad X a_ σ (upd H x o) { s with heap:=h',toks:=t' }:=I.un (Un.write mu a k c) (I.hok.write mu a k c new)
theorem ad.pins_of(I:ad X a_ σ H s)(h:∀p∈Oj,s.heap.get? p.1=some p.2/\H p.1=none/\p.1≠X.env.locals/\p.1∉X.fs/\∀v,p.2.data≠.cell v):ad X Oj σ H s:=
 ⟨I.ok,I.os,I.bare,I.base,I.loc,I.cell,I.free,I.freeC,λp hp=>(YA.mp hp).elim (λz=>I.pin p (YB _ z)) (h p),I.hok,I.len⟩
def uj(c:N.Nodup)(a:N[i]?=some x)(b:N[j]?=some x):i=j:=by
 obtain⟨h1,k⟩:=YC.mp a;obtain⟨m,l⟩:=YC.mp b;exact(List.getElem_inj c).mp (k.trans l.symm)
def sK{E:Zo}(I:ad X a_ σ H s)(W:X.N.Nodup)(hi:X.N[i]?=some x)(hx:Loc X.env.scope x)(r:RelV v u)
  (h:∀J,ad X a_ (σ.set i (some v)) H J->(∃a,Heap.SameBut a s.heap J.heap/\(a=X.env.locals\/X.env.cells.lookup x=some a))->E () J) (hf:X.fn x=true\/X.env.scope.names.lookup x=some .local:=by first | exact .inl rfl | exact .inr rfl | assumption):wpAny M A (storeName X.env x u) E Q s:=by
 obtain⟨m,hn,hl⟩:=id I.loc;have Q8:(X.env.scope.kind==.class||(X.env.scope.kind==.module&&X.env.locals != X.env.globals))=false:=by rw[I.ok.kind];rfl
 have Y:i<σ.length:=by rw[I.len];exact(YC.mp hi).1
 have cne:=I.cne;have l:∀{a:Addr}{h':Heap},(∃o,s.heap.get? a=some o/\H a=none)->Heap.SameBut a s.heap h'->ca X.prog X.w H h':=λ{a h'} ha hs b ob e=>by
  obtain⟨_,_,Z⟩:=ha;refine(I.hok b ob e).stay (λc w' hc q=>(hs.2 c ?_).trans q) (λ_ q=>q) λ_ _ q=>q
  rintro rfl;rcases hc with rfl | hc
  .rw[Z] at e;cases e
  .rw[Z] at hc;cases hc
 rcases hx with hk | hk
 .refine wpAny_storeName_local hk hn (λh' U2 hs=>?_) Q8
  obtain⟨oL,_,_,U3,_⟩:=id hn;refine h _ ⟨I.ok,I.os,I.bare,⟨λb o e n hb hx=>?_,λb o e n hb hx=>?_,I.base.free,λb o e hx=>?_,I.base.tups,I.base.frzs,I.base.tbls⟩,⟨_,U2,λj y L B F O=>?_⟩,λy c e=>?_,I.free,I.freeC,λp hp=>?_,l ⟨oL,U3,I.free⟩ hs,by simpa using I.len⟩ ⟨_,hs,.inl rfl⟩
  .exact(hs.2 b (ZT (ZR (Ye e) I.ok.above))).trans (I.base.keep b o e n hb hx)
  .obtain⟨sl,B⟩:=I.base.slot b o e n hb hx
   exact⟨sl,(hs.2 b (ZT (ZR (Ye e) I.ok.above))).trans B⟩
  .obtain⟨o',B⟩:=I.base.there b o e hx
   exact⟨o',(hs.2 b (ZT (ZR (Ye e) I.ok.above))).trans B⟩
  .by_cases G:j=i
   .subst G
    rw[hi] at B;cases B;rw[List.getElem?_set_self Y] at F;cases F;exact⟨u,r,.inl ⟨hk,by simp⟩⟩
   .rw[List.getElem?_set_ne (Ne.symm G)] at F
    obtain⟨R,S,q⟩:=hl j y L B F O;refine⟨R,S,?_⟩;rcases q with⟨k,e⟩ | ⟨k,c,e,z⟩
    .refine .inl ⟨k,?_⟩
     have:y≠x:=λe=>G (uj W B (e▸hi))
     simp[this,e]
    .exact .inr ⟨k,c,e,z.sameBut hs (cne y c e)⟩
  .obtain⟨w',z⟩:=I.cell y c e
   exact⟨w',z.sameBut hs (cne y c e)⟩
  .obtain⟨e,n,ne,T,d⟩:=I.pin p hp
   exact⟨(hs.2 p.1 ne).trans e,n,ne,T,d⟩
 .have U:X.fn x=true:=by
   rcases hf with z | z
   .exact z
   .rw[z] at hk;cases hk
  obtain⟨c,hc⟩:=I.ok.has x (.inl hk);obtain⟨w',z⟩:=I.cell x c hc;refine wpAny_storeName_cell I.ok.kind hk hc z (λh' Nb hs=>?_);obtain⟨oc,TZ,Q_⟩:=id z;refine h { s with heap:=h' } ⟨I.ok,I.os,I.bare,⟨λb o e n hb hx=>?_,λb o e n hb hx=>?_,I.base.free,λb o e hx=>?_,I.base.tups,I.base.frzs,I.base.tbls⟩,⟨m,hn.sameBut hs (Ne.symm (cne x c hc)),λj y L B F O=>?_⟩,λy c' e=>?_,I.free,I.freeC,λp hp=>?_,l ⟨oc,TZ,I.freeC x c hc⟩ hs,by simpa using I.len⟩ ⟨c,hs,.inr hc⟩
  .exact(hs.2 b (ZT (ZR (Ye e) (I.ok.cab x c U hc)))).trans (I.base.keep b o e n hb hx)
  .obtain⟨sl,B⟩:=I.base.slot b o e n hb hx
   exact⟨sl,(hs.2 b (ZT (ZR (Ye e) (I.ok.cab x c U hc)))).trans B⟩
  .obtain⟨o',B⟩:=I.base.there b o e hx
   exact⟨o',(hs.2 b (ZT (ZR (Ye e) (I.ok.cab x c U hc)))).trans B⟩
  .by_cases G:j=i
   .subst G
    rw[hi] at B;cases B;rw[List.getElem?_set_self Y] at F;cases F;exact⟨u,r,.inr ⟨.inl hk,c,hc,Nb⟩⟩
   .rw[List.getElem?_set_ne (Ne.symm G)] at F
    obtain⟨R,S,q⟩:=hl j y L B F O;refine⟨R,S,?_⟩;rcases q with q | ⟨k,c',e,z'⟩
    .exact .inl q
    .refine .inr ⟨k,c',e,z'.sameBut hs ?_⟩
     rintro rfl;exact G (uj W B (I.ok.inj _ _ _ e hc▸hi))
  .by_cases T1:c'=c
   .subst T1;exact⟨_,Nb⟩
   .obtain⟨w2,z2⟩:=I.cell y c' e
    exact⟨w2,z2.sameBut hs T1⟩
  .obtain⟨e,n,ne,T,d⟩:=I.pin p hp
   refine⟨(hs.2 p.1 ?_).trans e,n,ne,T,d⟩;intro q;rw[q,TZ] at e;have q':oc=p.2:=Yi e;exact d w' (by rw[←q'];exact Q_)
def uk{E:Zo}(I:ad X a_ σ H s)(c:X.N.Nodup)(hi:X.N[i]?=some x)(hx:Loc X.env.scope x)(r:RelV v u)
  (h:∀a,ad X a_ (σ.set i (some v)) H a->E () a) (k:X.fn x=true\/X.env.scope.names.lookup x=some .local:=by first | exact .inl rfl | exact .inr rfl | assumption):wpAny M A (storeName X.env x u) E Q s:=
 sK I c hi hx r (λa l _=>h a l) k
theorem ad.call'(I:ad X a_ σ H s)(ho:s1.os=s.os)(u:Un (ko X.stack) fp H H' s.heap s1.heap)(hok:ca X.prog X.w H' s1.heap)(a:AllBare s1.gens)
  (k:∀b∈fp,(b∈X.ex\/X.s₀.heap.objs.size<=b)/\b≠X.env.locals/\(∀x c,X.env.cells.lookup x=some c->c≠b)/\∀p∈X.pn++a_,p.1≠b):ad X a_ σ H' s1:=by
 obtain⟨h',g',d',t',o'⟩:=s1;have e:o'=s.os:=ho;subst e;exact I.call (g':=g') (t':=t') (d':=d') u hok a k
end
abbrev XK:=Value->Option Addr->Hp->Prop
abbrev St:=List (Option V)
abbrev VK:=V->Hp->Prop
abbrev TE:=St->Hp->VK->Prop
abbrev TT:=St->Hp->(Bool->Hp->Prop)->Prop
abbrev TA:=St->Hp->(List V->Hp->Prop)->Prop
structure Ends where
 nx:St->Hp->Prop
 rt:VK
 bk:St->Hp->Prop:=λ_ _=>False
 ct:St->Hp->Prop:=λ_ _=>False
abbrev TS:=Ends->St->Hp->Prop
def EP(X:Cx)(a_:Zc)(σ:St)(Q:VK)(u:Value)(a:Shared):Prop:=∃v H',ad X a_ σ H' a/\RelV v u/\Q v H'
def TP(X:Cx)(a_:Zc)(σ:St)(Q:Bool->Hp->Prop)(b:Bool)(a:Shared):Prop:=∃H',ad X a_ σ H' a/\Q b H'
def AP(X:Cx)(a_:Zc)(σ:St)(Q:List V->Hp->Prop)(us:Zd)(a:Shared):Prop:=∃vs H',ad X a_ σ H' a/\ak vs us/\Q vs H'
def SP(X:Cx)(a_:Zc)(D:Ends)(f:Flow)(c:Shared):Prop:=
 match f with
 |.next=>∃a H',ad X a_ a H' c/\D.nx a H'
 |.brk=>∃a H',ad X a_ a H' c/\D.bk a H'
 |.cont=>∃a H',ad X a_ a H' c/\D.ct a H'
 |.ret u=>∃v a H',ad X a_ a H' c/\RelV v u/\D.rt v H'
def PE(X:Cx)(e:Expr)(t:TE):Prop:=
 ∀(a_:Zc) (s:Shared) (σ:St) (H:Hp) (Q:VK),ad X a_ σ H s->t σ H Q->wpAny 'b' X.A (eval e X.env) (EP X a_ σ Q) X.xe s
def PT(X:Cx)(e:Expr)(t:TT):Prop:=
 ∀(a_:Zc) (s:Shared) (σ:St) (H:Hp) (Q:Bool->Hp->Prop),ad X a_ σ H s->t σ H Q->wpAny 'b' X.A (isTrue e X.env (eval e X.env)) (TP X a_ σ Q) X.xe s
def PW(X:Cx)(e:Expr)(t:TT):Prop:=
 ∀(a:Sem Value) (a_:Zc) (s:Shared) (σ:St) (H:Hp) (Q:Bool->Hp->Prop),ad X a_ σ H s->t σ H Q->wpAny 'b' X.A (isTrue e X.env a) (TP X a_ σ Q) X.xe s
def PA(X:Cx)(es:Zg)(t:TA):Prop:=
 ∀(pos:Pos) (a_:Zc) (s:Shared) (σ:St) (H:Hp) (Q:List V->Hp->Prop),ad X a_ σ H s->t σ H Q->wpAny 'b' X.A (spliced (backTo pos (starEach es X.env))) (AP X a_ σ Q) X.xe s
def PS(X:Cx)(st:Stmt)(t:TS):Prop:=
 ∀(a_:Zc) (s:Shared) (σ:St) (H:Hp) (D:Ends),ad X a_ σ H s->t D σ H->wpAny 'b' X.A (exec st X.env) (SP X a_ D) X.xe s
def jE(X:Cx)(st:Zt)(t:TS):Prop:=
 ∀(a_:Zc) (s:Shared) (σ:St) (H:Hp) (D:Ends),ad X a_ σ H s->t D σ H->wpAny 'b' X.A (execs st X.env) (SP X a_ D) X.xe s
def aL{c:Type}{t:Sem c}{E k:c->Shared->Prop}(h:wpAny M A t E Q s)(l:∀a s,E a s->k a s):wpAny M A t k Q s:=wpAny_mono h l λ_ _ x=>x
section
variable {X:Cx}
def bin{b:Expr}(ha:PE X tg ti)(hb:PE X b to){R:V->V->Hp->Prop}(I:ad X a_ σ H s)(h:ti σ H λx H1=>to σ H1 λy H2=>R x y H2)
  {a:Type}{Q:a->Shared->Prop}{f:Value->Value->Sem a}
  (c:∀v u s2 x y H2,ad X a_ σ H2 s2->RelV x v->RelV y u->R x y H2->wpAny 'b' X.A (f v u) Q X.xe s2):
  wpAny 'b' X.A (eval tg X.env) (λv k=>wpAny 'b' X.A (eval b X.env) (λu l=>wpAny 'b' X.A (f v u) Q X.xe l) X.xe k) X.xe s:=by
 refine aL (ha a_ s σ H _ I h) λv s1 m=>?_
 obtain⟨x,H1,n,r1,q1⟩:=m;refine aL (hb a_ s1 σ H1 _ n q1) λu s2 p=>?_
 obtain⟨y,H2,B,r2,q2⟩:=p;exact c v u s2 x y H2 B r1 r2 q2
def KQ(i:Nat):TE:=λσ H Q=>∃v,σ[i]?=some (some v)/\Q v H
def tC(v:V):TE:=λ_ H Q=>Q v H
def He(k:X.N[i]?=some x)(hv:ui X.env.scope x)(hd:(x==("__debug__" : Str))=false:=by decide)(n:(x==("__classdict__" : Str))=false:=by decide):PE X (.Name x pos) (KQ i):=by
 intro a_ s σ H Q I h;obtain⟨v,e,h⟩:=h;obtain⟨m,hn,hl⟩:=I.loc;obtain⟨u,r,l⟩:=hl i x v k e hv;have fin:EP X a_ σ Q u s:=⟨v,H,I,r,h⟩;rcases l with⟨hk,hm⟩ | ⟨hk,c,hc,a⟩
 .exact wpAny_Name (wpAny_loadName_local I.ok.kind hk hn hm fin) hd
 .rcases hk with hk | hk
  .exact wpAny_Name (wpAny_loadName_cell I.ok.kind hk hc a fin) hd
  .exact wpAny_Name (wpAny_loadName_free I.ok.kind hk hc a fin n) hd
def Hf{i j pos}:PE X (.Constant (.int i) j pos) (tC (.int i)):=λ_ _ _ H _ I h=>wpAny_Constant_int ⟨.int i,H,I.tok _,⟨_,rfl⟩,h⟩
def JS{b j pos}:PE X (.Constant (.bool b) j pos) (tC (.bl b)):=λ_ _ _ H _ I h=>Constant_bool ⟨.bl b,H,I,rfl,h⟩
def Hg{j pos}:PE X (.Constant .none j pos) (tC .non):=λ_ _ _ H _ I h=>Constant_none ⟨.non,H,I,rfl,h⟩
def Hh{x j pos}:PE X (.Constant (.str x) j pos) (tC (.str x)):=λ_ _ _ H _ I h=>Calls.Constant_str ⟨.str x,H,I.tok _,⟨_,rfl⟩,h⟩
def Gl(X:Cx)(x:Str):Prop:=X.env.kindOf x=some .globalImplicit
def rV{E:Zb}(I:ad X a_ σ H s)(a:Gl X x)(hm:X.mg x=some u)(h:Q u s)
  (hd:(x==("__debug__" : Str))=false:=by decide):wpAny 'b' X.A (eval (.Name x pos) X.env) Q E s:=
 Calls.Name_function_global I.ok.kind a (Calls.loadGlobal_global (by rw[I.ok.glob];exact I.mod.glob.keeps I.bk) hm h) hd
def cE{E:Zb}(I:ad X a_ σ H s)(a:Gl X x)(hm:X.mg x=none)(hv:bootBuiltins x=some u)(h:Q u s)
  (hn:x ≠ "__name__":=by decide) (hd:(x==("__debug__" : Str))=false:=by decide):wpAny 'b' X.A (eval (.Name x pos) X.env) Q E s:=by
 obtain⟨mb,h1,c⟩:=I.mod.blt;exact Calls.Name_function_global I.ok.kind a (Calls.loadGlobal_builtin (by rw[I.ok.glob];exact I.mod.glob.keeps I.bk) hm (by rw[I.ok.blt];exact h1.keeps I.bk) ((c x hn).trans hv) h) hd
def Fp(a:Gl X x)(hm:X.mg x=some u)(r:RelV v u)(hd:(x==("__debug__" : Str))=false:=by decide):PE X (.Name x pos) (tC v):=
 λ_ _ _ H _ I h=>rV I a hm ⟨v,H,I,r,h⟩ hd
def Fq(a:Gl X x)(hm:X.mg x=none)(hv:bootBuiltins x=some u)(r:RelV v u)(hn:x ≠ "__name__":=by decide)(hd:(x==("__debug__" : Str))=false:=by decide):PE X (.Name x pos) (tC v):=
 λ_ _ _ H _ I h=>cE I a hm hv ⟨v,H,I,r,h⟩ hn hd
variable {a b:Expr}{ta tb:TE}{pos:Pos}
variable {tA QN:TT}{rest:Zg}
def KR(t u:TT):TT:=λσ H Q=>t σ H λc H1=>if c=true then u σ H1 Q else Q false H1
def LA(t u:TT):TT:=λσ H Q=>t σ H λc H1=>if c=true then Q true H1 else u σ H1 Q
def KS(t:TT):TT:=λσ H Q=>t σ H λc H1=>Q (!c) H1
def Fr(ha:PT X a tA):PW X (.BoolOp .And [a] pos) tA:=by
 intro k a_ s σ H Q I h;refine isTrue_and (aL (ha a_ s σ H Q I h) λc s1 e=>?_);cases c with
 |true=>exact isTrue_and_nil e
 |false=>exact e
def Hi(ha:PT X a tA):PW X (.BoolOp .Or [a] pos) tA:=by
 intro k a_ s σ H Q I h;refine isTrue_or (aL (ha a_ s σ H Q I h) λc s1 e=>?_);cases c with
 |false=>exact isTrue_or_nil e
 |true=>exact e
def Hj(ha:PT X a tA)(hb:PW X (.BoolOp .And (b::rest) pos) QN):PW X (.BoolOp .And (a::b::rest) pos) (KR tA QN):=by
 intro l a_ s σ H Q I h;refine isTrue_and (aL (ha a_ s σ H _ I h) λc s1 m=>?_);obtain⟨H1,k,q1⟩:=m;cases c with
 |true=>exact hb l a_ s1 σ H1 Q k q1
 |false=>exact⟨H1,k,q1⟩
def JT(ha:PT X a tA)(hb:PW X (.BoolOp .Or (b::rest) pos) QN):PW X (.BoolOp .Or (a::b::rest) pos) (LA tA QN):=by
 intro l a_ s σ H Q I h;refine isTrue_or (aL (ha a_ s σ H _ I h) λc s1 m=>?_);obtain⟨H1,k,q1⟩:=m;cases c with
 |true=>exact⟨H1,k,q1⟩
 |false=>exact hb l a_ s1 σ H1 Q k q1
def Hk(ha:PT X a tA):PT X (.UnaryOp .Not a pos) (KS tA):=by
 intro a_ s σ H Q I h;exact isTrue_not (ha a_ s σ H (λc H1=>Q (!c) H1) I h)
def JU(ta tb:TE):TE:=λσ H Q=>ta σ H λx H1=>∃c,x=.bl c/\if c=true then tb σ H1 Q else Q (.bl false) H1
def KU(ta tb:TE):TE:=λσ H Q=>ta σ H λx H1=>∃c,x=.bl c/\if c=true then Q (.bl true) H1 else tb σ H1 Q
def JV(ta:TE):TE:=λσ H Q=>ta σ H λx H1=>∃c,x=.bl c/\Q (.bl (!c)) H1
def Hl{op}(h:PE X a ti):PE X (.BoolOp op [a] pos) ti:=λa_ s σ H Q I hw=>BoolOp_one (h a_ s σ H Q I hw)
def Hm(ha:PE X a ta)(hb:PE X (.BoolOp .And (b::rest) pos) tb):PE X (.BoolOp .And (a::b::rest) pos) (JU ta tb):=by
 intro a_ s σ H Q I h;refine BoolOp_and (aL (ha a_ s σ H _ I h) λv s1 l=>?_);obtain⟨x,H1,k,r1,q1⟩:=l;obtain⟨c,rfl,q1⟩:=q1;cases r1;refine wpAny_truthy_bool ?_;cases c with
 |true=>exact hb a_ s1 σ H1 Q k q1
 |false=>exact⟨.bl false,H1,k,rfl,q1⟩
def JW(ha:PE X a ta)(hb:PE X (.BoolOp .Or (b::rest) pos) tb):PE X (.BoolOp .Or (a::b::rest) pos) (KU ta tb):=by
 intro a_ s σ H Q I h;refine BoolOp_or (aL (ha a_ s σ H _ I h) λv s1 l=>?_);obtain⟨x,H1,k,r1,q1⟩:=l;obtain⟨c,rfl,q1⟩:=q1;cases r1;refine wpAny_truthy_bool ?_;cases c with
 |false=>exact hb a_ s1 σ H1 Q k q1
 |true=>exact⟨.bl true,H1,k,rfl,q1⟩
def Hn(ha:PE X a ta):PE X (.UnaryOp .Not a pos) (JV ta):=by
 intro a_ s σ H Q I h;refine UnaryOp_ (aL (ha a_ s σ H _ I h) λv s1 k=>?_);obtain⟨x,H1,l,r1,q1⟩:=k;obtain⟨c,rfl,q1⟩:=q1;cases r1;exact not_of (wpAny_truthy_bool ⟨.bl (!c),H1,l,rfl,q1⟩)
def LB(t:TT)(ta tb:TE):TE:=λσ H Q=>t σ H λc H1=>if c=true then ta σ H1 Q else tb σ H1 Q
def BN(hc:PT X tg tA)(ha:PE X a ta)(hb:PE X b tb):PE X (.IfExp tg a b pos) (LB tA ta tb):=by
 intro a_ s σ H Q I h;refine wpAny_IfExp (aL (hc a_ s σ H _ I h) λd s1 k=>?_);obtain⟨H1,c,q1⟩:=k;cases d with
 |true=>exact ha a_ s1 σ H1 Q c q1
 |false=>exact hb a_ s1 σ H1 Q c q1
end
def aX(K:Za)(H:Hp)(a:Addr)(xs:List V):Prop:=
 Rd H a (.lst xs) \/
  ∃(o:Obj) (d_:Zl) (n:Nat),K.lookup a=some o/\o.cls=.type "list"/\o.dict=none/\o.data=.seq d_ n/\d_.size<=sizeLine/\ak xs d_.toList
def bf(K:Za)(H:Hp)(a:Addr)(xs:List V):Prop:=
 Rd H a (.tup xs) \/
  ∃(o:Obj) (d_:Zl) (n:Nat),K.lookup a=some o/\o.cls=.type "tuple"/\(o.data=.seq d_ n/\o.dict=none)/\d_.size<=sizeLine/\ak xs d_.toList
def KW:Value->Option V
 |.none=>some .non
 |.bool b=>some (.bl b)
 |.int i _=>some (.int i)
 |.str x _=>some (.str x)
 |.bytes b _=>some (.byt b)
 |.float b _=>some (.flt b)
 |.ref a=>some (.ref a)
 |.type n=>some (.ty n)
 |_=>none
theorem RelV.abs(r:RelV y u):KW u=some y:=by
 cases y with
 |non=>cases r;rfl
 |bl _=>cases r;rfl
 |int _=>obtain⟨t,rfl⟩:=r;rfl
 |str _=>obtain⟨t,rfl⟩:=r;rfl
 |byt _=>obtain⟨t,rfl⟩:=r;rfl
 |flt _=>obtain⟨t,rfl⟩:=r;rfl
 |ref _=>cases r;rfl
 |ty _=>cases r;rfl
theorem RelV.inj{x y:V}{u:Value}(r:RelV x u)(q:RelV y u):x=y:=Yi (r.abs.symm.trans q.abs)
theorem ak.inj{xs ys:List V}{us:Zd}(h:ak xs us)(h':ak ys us):xs=ys:=by
 induction h generalizing ys with
 |nil=>cases h';rfl
 |cons r t a=>cases h' with
  |cons c t'=>rw[r.inj c,a t']
section
variable {X:Cx}{a_:Zc}{σ:St}{H:Hp}{s:Shared}{a:Addr}{xs ys:List V}
theorem aX.of(h:H a=some (.lst xs)):aX K H a xs:=.inl (.inl h)
theorem bf.of(h:H a=some (.tup xs)):bf K H a xs:=.inl (.inl h)
theorem ad.list(I:ad X a_ σ H s)(h:aX X.K H a xs):∃d_:List Value,ak xs d_/\PlainL s.heap a d_.toArray/\xs.length<=sizeLine:=by
 rcases h with h | ⟨o,d_,n,hk,hc,hd,hs,hz,r⟩
 .obtain⟨z,d_,n,r,e⟩:=h.ok I.hok
  exact⟨d_,r,⟨_,n,e,rfl,rfl,rfl⟩,z⟩
 .refine⟨d_.toList,r,⟨o,n,I.kIn a o hk,hc,hd,by simpa using hs⟩,?_⟩
  have e:=r.length;simp only[YD] at e;omega
theorem ad.tupD(I:ad X a_ σ H s)(h:bf X.K H a xs):∃d_:List Value,ak xs d_/\j7 s.heap a d_.toArray/\xs.length<=sizeLine:=by
 rcases h with h | ⟨o,d_,n,hk,hc,⟨hs,hd⟩,hz,r⟩
 .obtain⟨z,d_,r,p⟩:=h.ok I.hok
  exact⟨d_,r,p,z⟩
 .refine⟨d_.toList,r,⟨o,I.kIn a o hk,hc,n,by simpa using hs,hd⟩,?_⟩
  have e:=r.length;simp only[YD] at e;omega
theorem ad.tuple(I:ad X a_ σ H s)(h:bf X.K H a xs):∃d_:List Value,ak xs d_/\IsTup s.heap a d_.toArray/\xs.length<=sizeLine:=let⟨d_,r,t,z⟩:=I.tupD h;⟨d_,r,t.tup,z⟩
theorem ad.list_inj(I:ad X a_ σ H s)(h:aX X.K H a xs)(h':aX X.K H a ys):xs=ys:=by
 obtain⟨d_,r,⟨o,n,e,_,_,d⟩,_⟩:=I.list h;obtain⟨m_,c,⟨o',n',e',_,_,d'⟩,_⟩:=I.list h';rw[e] at e';cases e';rw[d] at d';injection d' with d1 _
 have:d_=m_:=by simpa using congrArg Array.toList d1
 subst this;exact r.inj c
theorem ad.tuple_inj(I:ad X a_ σ H s)(h:bf X.K H a xs)(h':bf X.K H a ys):xs=ys:=by
 obtain⟨d_,r,⟨o,e,_,n,d⟩,_⟩:=I.tuple h;obtain⟨m_,c,⟨o',e',_,n',d'⟩,_⟩:=I.tuple h';rw[e] at e';cases e';rw[d] at d';injection d' with d1 _
 have:d_=m_:=by simpa using congrArg Array.toList d1
 subst this;exact r.inj c
end
abbrev Cx.wish(X:Cx)(E:Zb):Cx:={ X with xe:=E }
abbrev Cx.nox(X:Cx):Cx:=X.wish λ_ _=>False
theorem Cx.Ok.wish{X:Cx}(ok:X.Ok)(E:Zb):(X.wish E).Ok:=
 ⟨ok.mod,ok.kind,ok.glob,ok.blt,ok.above,ok.inj,ok.has,ok.cab,ok.hd,ok.frames,ok.stk,ok.exf,ok.bs,ok.bsz,ok.noex,ok.exfs,ok.funs,ok.frf⟩
theorem Cx.Ok.unwish(ok:(X.wish Q).Ok):X.Ok:=
 ⟨ok.mod,ok.kind,ok.glob,ok.blt,ok.above,ok.inj,ok.has,ok.cab,ok.hd,ok.frames,ok.stk,ok.exf,ok.bs,ok.bsz,ok.noex,ok.exfs,ok.funs,ok.frf⟩
section
variable {X:Cx}{a_:Zc}{σ:St}{H:Hp}{s:Shared}{E:Zb}
theorem ad.wish(I:ad X a_ σ H s)(E:Zb):ad (X.wish E) a_ σ H s:=⟨I.ok.wish E,I.os,I.bare,I.base,I.loc,I.cell,I.free,I.freeC,I.pin,I.hok,I.len⟩
theorem ad.unwish(I:ad (X.wish E) a_ σ H s):ad X a_ σ H s:=⟨I.ok.unwish,I.os,I.bare,I.base,I.loc,I.cell,I.free,I.freeC,I.pin,I.hok,I.len⟩
theorem SP.unwish{D:Ends}{f:Flow}{c:Shared}(h:SP (X.wish E) a_ D f c):SP X a_ D f c:=by
 cases f with
 |next=>obtain⟨a,H',I,q⟩:=h;exact⟨a,H',I.unwish,q⟩
 |brk=>obtain⟨a,H',I,q⟩:=h;exact⟨a,H',I.unwish,q⟩
 |cont=>obtain⟨a,H',I,q⟩:=h;exact⟨a,H',I.unwish,q⟩
 |ret u=>obtain⟨v,a,H',I,r,q⟩:=h;exact⟨v,a,H',I.unwish,r,q⟩
theorem jE.nox(h:jE X.nox st tb):jE X st tb:=λa_ s σ H D I hw=>
 wpAny_mono (h a_ s σ H D (I.wish _) hw) (λ_ _ q=>q.unwish) λ_ _ z=>Yh z
end
section
variable {X:Cx}{st:Stmt}{rest:Zt}{t u:TS}{e:Expr}{te:TE}{pos:Pos}
def EG:TS:=λD σ H=>D.nx σ H
def KY(t u:TS):TS:=λD σ H=>t { D with nx:=u D } σ H
def Fs:jE X [] EG:=λ_ _ σ H _ I h=>wpAny_execs_nil ⟨σ,H,I,h⟩
def BO(h1:PS X st t)(a:jE X rest u):jE X (st::rest) (KY t u):=by
 intro a_ s σ H D I h;refine wpAny_execs_cons (aL (h1 a_ s σ H { D with nx:=u D } I h) λf s1 q=>?_);cases f with
 |next=>
  obtain⟨c,H',k,q⟩:=q;exact a a_ s1 c H' D k q
 |ret v=>exact q
 |brk=>exact q
 |cont=>exact q
def Ft:PS X (.Pass pos) EG:=λ_ _ σ H _ I h=>wpAny_Pass ⟨σ,H,I,h⟩
theorem ad.quiet(I:ad X a_ σ H s):interactive X.env=false:=by simp[interactive,I.ok.kind]
def JX(te:TE):TS:=λD σ H=>te σ H λ_ H1=>D.nx σ H1
def Fu(a:PE X e te)(hs:swapsWith e none pos.line X.env=pure false:=by rfl):PS X (.Expr e pos) (JX te):=by
 intro a_ s σ H D I h;refine wpAny_Expr_any (aL (a a_ s σ H _ I h) λv s1 c=>?_) I.quiet hs;obtain⟨x,H1,k,r1,q1⟩:=c;exact⟨σ,H1,k,q1⟩
def KZ(te:TE):TS:=λD σ H=>te σ H D.rt
def Ho(a:PE X e te):PS X (.Return (some e) pos) (KZ te):=by
 intro a_ s σ H D I h;refine wpAny_Return_some (aL (a a_ s σ H _ I h) λv s1 c=>?_);obtain⟨x,H1,k,r1,q1⟩:=c;exact⟨x,σ,H1,k,r1,q1⟩
def K0(c:TT)(t u:TS):TS:=λD σ H=>c σ H λb H1=>if b=true then t D σ H1 else u D σ H1
def JY{a b:Zt}(hc:PT X e tc)(ha:jE X a t)(hb:jE X b u):PS X (.If e a b pos) (K0 tc t u):=by
 intro a_ s σ H D I h;refine wpAny_If (aL (hc a_ s σ H _ I h) λd s1 k=>?_);obtain⟨H1,c,q1⟩:=k;cases d with
 |true=>exact ha a_ s1 σ H1 D c q1
 |false=>exact hb a_ s1 σ H1 D c q1
end
abbrev TG:=V->St->Hp->(St->Hp->Prop)->Prop
abbrev oI:=List V->St->Hp->(St->Hp->Prop)->Prop
def PG(X:Cx)(a:Expr)(t:TG):Prop:=
 ∀(a_:Zc) (s:Shared) (σ:St) (H:Hp) (v:V) (u:Value) (Q:St->Hp->Prop),ad X a_ σ H s->RelV v u->t v σ H Q ->
  wpAny 'b' X.A (assign a X.env u) (λ_ k=>∃c H',ad X a_ c H' k/\Q c H') X.xe s
def wX(X:Cx)(ts:Zg)(t:oI):Prop:=
 ∀(a_:Zc) (s:Shared) (σ:St) (H:Hp) (vs:List V) (us:Zd) (Q:St->Hp->Prop),ad X a_ σ H s->ak vs us->t vs σ H Q ->
  wpAny 'b' X.A (assignInOrder ((assignEach ts X.env).map (·.2)) us) (λ_ c=>∃a H',ad X a_ a H' c/\Q a H') X.xe s
abbrev yk:=V->V->V->Hp->(Hp->Prop)->Prop
def BP(X:Cx)(t:yk):Prop:=
 ∀(a_:Zc) (s:Shared) (σ:St) (H:Hp) (o i v:V) (a c u:Value) (Q:Hp->Prop),ad X a_ σ H s->RelV o a->RelV i c->RelV v u->t o i v H Q ->
  wpAny 'b' X.A (setItem a c u) (λ_ k=>∃H',ad X a_ σ H' k/\Q H') X.xe s
section
variable {X:Cx}{pos:Pos}
def tZ(i:Nat):TG:=λv σ H Q=>Q (σ.set i (some v)) H
def wY(a:X.N.Nodup)(hi:X.N[i]?=some x)(hx:Loc X.env.scope x)(c:X.fn x=true\/X.env.scope.names.lookup x=some .local:=by first | exact .inl rfl | exact .inr rfl | assumption):PG X (.Name x pos) (tZ i):=by
 intro a_ s σ H v u Q I r h;exact wpAny_assign_Name (uk I a hi hx r (λl k=>⟨_,H,k,h⟩) c)
def Hq:oI:=λvs σ H Q=>vs=[]/\Q σ H
def EH(t:TG)(u:oI):oI:=λvs σ H Q=>∃v r,vs=v::r/\t v σ H λa H'=>u r a H' Q
def Fv:wX X [] Hq:=by
 intro a_ s σ H vs us Q I r h;obtain⟨e,h⟩:=h;subst e;cases r;exact assignInOrder_nil ⟨σ,H,I,h⟩
def BQ{e:Expr}{u:oI}(h1:PG X e g)(a:wX X es u)
  (hs:(assignEach (e::es) X.env).map (·.2)=assign e X.env::(assignEach es X.env).map (·.2):=by rfl):wX X (e::es) (EH g u):=by
 intro a_ s σ H vs us Q I r h;obtain⟨v,p,c,h⟩:=h;subst c;cases r with
 |cons r k=>
  rw[hs];refine assignInOrder_cons (aL (h1 a_ s σ H _ _ _ I r h) λ_ s1 l=>?_);obtain⟨m,H1,n,q1⟩:=l;exact a a_ s1 m H1 _ _ Q n k q1
def K1(K:Za)(n:Nat)(t:oI):TG:=λv σ H Q=>∃a xs,v=.ref a/\bf K H a xs/\xs.length=n/\t xs σ H Q
def Hr(hc:X.calm=true)(h:wX X es t)
  (hn:(assignEach es X.env).length=i:=by rfl) (k:(assignEach es X.env).findIdx? (·.1)=none:=by rfl):PG X (.Tuple es j pos) (K1 X.K i t):=by
 intro a_ s σ H v u Q I r hw;obtain⟨a,xs,l,hq,hl,hw⟩:=hw;subst l;cases r;obtain⟨d_,c,ht,hz⟩:=I.tuple hq;refine assign_Tuple_tuple (I.ok.hd hc) ht (by simp[hn,←hl,c.length]) k λh' hx=>?_
 have m:ad X a_ σ H { s with heap:=h' }:=I.kept (t':=s.toks) λb o e=>hx b o (ZT (Ye e)) e
 exact h a_ _ σ H xs _ Q m (by simpa using c) hw
def K3(to ti:TE)(t:yk):TG:=λv σ H Q=>to σ H λo H1=>ti σ H1 λi H2=>t o i v H2 λH3=>Q σ H3
def ul {o i:Expr}  {t:yk} (ho:PE X o to) (hi:PE X i ti) (hs:BP X t)
    (ha:∀ v,assign (.Subscript o i pos) X.env v = (do
      let a ← holding [v] (eval o X.env)
      let c ← holding [v,a] (eval i X.env)
      standAt pos
      holding [v,a,c] (setItem a c v)
      release [v,a,c] []):=by intro _; rfl):PG X (.Subscript o i pos) (K3 to ti t):=by
  intro a_ s σ H v u Q I r h
  rw [ha]
  refine Yb (Yj (aL (ho a_ s σ H _ I h) λa s1 k=>?_))
  obtain ⟨x,H1,l,r1,q1⟩:=k
  refine Yb (Yj (aL (hi a_ s1 σ H1 _ l q1) λc s2 m=>?_))
  obtain ⟨y,H2,n,r2,q2⟩:=m
  refine Yb (Yk (Yb (Yj (aL (hs a_ s2 σ H2 x y v a c u _ n r1 r2 r q2) λ_ E p=>?_))))
  obtain ⟨H3,B,q3⟩:=p
  exact wpAny_release ⟨σ,H3,B,q3⟩
def Hs(te:TE)(g:TG):TS:=λD σ H=>te σ H λx H1=>g x σ H1 D.nx
def um{e:Expr}(a:PE X e ti)(c:PG X tg g)(hs:swapsWithSole [tg] e pos.line X.env=pure false:=by rfl)(hw:swappedStores [tg] e X.env=pure none:=by rfl)
  (h1:(assignEach [tg] X.env).map (·.2)=[assign tg X.env]:=by rfl):PS X (.Assign [tg] e pos) (Hs ti g):=by
 intro a_ s σ H D I h;refine wpAny_Assign_stores (aL (a a_ s σ H _ I h) λv s1 k=>?_) hs hw;obtain⟨x,H1,l,r1,q1⟩:=k;rw[h1];exact aL (c a_ s1 σ H1 x v _ l r1 q1) λ_ s2 q=>q
def Ht{e:Expr}(a:X.N.Nodup)(hi:X.N[i]?=some x)(hx:Loc X.env.scope x)(c:PE X e ti)(hs:swapsWith e (some (.Name x pos')) pos.line X.env=pure false:=by rfl)(k:X.fn x=true\/X.env.scope.names.lookup x=some .local:=by first | exact .inl rfl | exact .inr rfl | assumption):
  PS X (.Assign [.Name x pos'] e pos) (Hs ti (tZ i)):=by
 intro a_ s σ H D I h;refine wpAny_Assign_Name (aL (c a_ s σ H _ I h) λv s1 l=>?_) hs;obtain⟨y,H1,m,r1,q1⟩:=l;exact uk m a hi hx r1 (λs2 n=>⟨_,H1,n,q1⟩) k
end
section
variable {X:Cx}{pos:Pos}
def Hu(c:TT)(tb:TS):TS:=λD σ H=>∃W:Nat->St->Hp->Prop,(∃m,W m σ H)/\∀m σ H,W m σ H ->
 c σ H λb H1=>if b=true then ∃N:St->Hp->Prop,(∀a H',N a H'->∃m',m'<m/\W m' a H')/\tb { D with nx:=N,ct:=N,bk:=D.nx } σ H1 else D.nx σ H1
def BR(hp:PassesOwn 'b' X.A X.env X.xe)(hc:PT X tg tc)(hb:jE X body tb):PS X (.While tg body [] pos) (Hu tc tb):=by
 intro a_ s σ H D I h;obtain⟨W,⟨G,J⟩,a⟩:=h;refine wpAny_While (codeAny_whileLoop (λn L=>∃B H',ad X a_ B H' L/\W n B H') ?_ G ⟨σ,H,I,J⟩);rintro n s1 ⟨k,H1,O,R⟩;refine wpAny_passesOwn hp (aL (hc a_ s1 k H1 _ O (a n k H1 R)) λb s2 S=>?_);obtain⟨H2,E,q2⟩:=S;cases b with
 |true=>
  obtain⟨N,F,q2⟩:=q2;rw[if_pos rfl];refine wpAny_passesOwn hp (aL (hb a_ s2 k H2 _ E q2) λf T q3=>?_);cases f with
  |next=>
   obtain⟨c,H3,l,m⟩:=q3;obtain⟨m',hm,p⟩:=F c H3 m;exact⟨m',hm,c,H3,l,p⟩
  |cont=>
   obtain⟨c,H3,l,m⟩:=q3;obtain⟨m',hm,p⟩:=F c H3 m;exact⟨m',hm,c,H3,l,p⟩
  |brk=>exact q3
  |ret v=>exact q3
 |false=>
  rw[if_neg YE];exact wpAny_execs_nil ⟨k,H2,E,q2⟩
end
structure It where
 go:Nat->Hp->Prop
 yld:Nat->Hp->V->Hp->Prop
 stop:Nat->Hp->Prop
def mr(X:Cx)(a_:Zc)(H:Hp)(b:Addr):Prop:=
 H b=none/\b≠X.env.locals/\b∉X.fs/\(b∈X.ex\/X.s₀.heap.objs.size<=b)/\(∀x c,X.env.cells.lookup x=some c->c≠b)/\∀p∈X.pn++a_,p.1≠b
theorem ad.fpOk(I:ad X a_ σ H s)(hb:s.heap.objs.size<=b)(hn:H' b=none):mr X a_ H' b:=by
 refine⟨hn,Nat.ne_of_gt (ZR I.lt hb),I.nofs hb,.inr (ZW I.sz hb),λx c e z=>?_,λp hp z=>?_⟩
 .obtain⟨v,q⟩:=I.cell x c e
  exact absurd (ZR q.lt (by rw[z];exact hb)) (ZS _)
 .exact absurd (ZR (Ye (I.pin p hp).1) (by rw[z];exact hb)) (ZS _)
structure Turn (P:Zv) (w:World) (K:Za) (tg:Expr) (J:It) (fp:Zh) (it:Addr) (tn:Nat->Heap->Prop):Prop where
 mem:it∈fp
 obj:∀i h,tn i h->∀b∈fp,∃o,h.get? b=some o/\∀v,o.data≠.cell v
 keep:∀i h h',tn i h->(∀b∈fp,∀o,h.get? b=some o->h'.get? b=some o)->tn i h'
 item:∀(X:Cx),X.prog=P->X.w=w->X.K=K->X.calm=true->∀(i:Nat) (a_:Zc) (s:Shared) (σ:St) (H:Hp) (E:Zb),ad X a_ σ H s->(∀b∈fp,mr X a_ H b)->tn i s.heap->J.go i H ->
  wpAny (model P w) X.A (pyNext (.ref it)) (λr s1=>∃u,r=some u /\
   wpAny (model P w) X.A (letOwnedTupleGo tg (.ref it) u) (λ_ s2=>∃x H',ad X a_ σ H' s2/\RelV x u/\J.yld i H x H'/\tn (i+1) s2.heap/\∀b∈fp,H' b=none) E s1) E s
 done:∀(X:Cx),X.prog=P->X.w=w->X.K=K->X.calm=true->∀(i:Nat) (a_:Zc) (s:Shared) (σ:St) (H:Hp) (E:Zb),ad X a_ σ H s->(∀b∈fp,mr X a_ H b)->tn i s.heap->J.stop i H ->
  wpAny (model P w) X.A (pyNext (.ref it)) (λr s1=>r=none/\ad X a_ σ H s1) E s
 self:∀(A:Around) (i:Nat) (s:Shared) (Q:Zb) (E:Zb),tn i s.heap->Q (.ref it) s->wpAny (model P w) A (pyIter (.ref it)) Q E s
abbrev TI:=St->Hp->(It->Hp->Prop)->Prop
def sL(X:Cx)(a_:Zc)(σ:St)(tg:Expr)(R:It->Hp->Prop)(a:Value)(s2:Shared):Prop:=
 ∃(it:Addr) (fp:Zh) (tn:Nat->Heap->Prop) (J:It) (H':Hp),a=.ref it/\ad X a_ σ H' s2/\Turn X.prog X.w X.K tg J fp it tn/\tn 0 s2.heap/\(∀b∈fp,mr X a_ H' b)/\R J H'
def PI(X:Cx)(tg iter:Expr)(a:TI):Prop:=
 ∀(a_:Zc) (s:Shared) (σ:St) (H:Hp) (R:It->Hp->Prop),ad X a_ σ H s->a σ H R ->
  wpAny 'b' X.A (eval iter X.env) (λv s1=>wpAny 'b' X.A (pyIter v) (sL X a_ σ tg R) X.xe s1) X.xe s
def t0        {o:Obj} {n:String} {vs:Zl} {E:Zo} (ho:s.heap.get? it = some o) (hc:o.cls = .type n) (hd:o.data = .fields vs)
    (hn:["enumerate","zip","dict_itemiterator","dict_reverseitemiterator","odict_iterator","itertools.zip_longest","itertools.pairwise"].contains n = false) (a:E () s):wpAny M A (letOwnedTupleGo tg (.ref it) u) E Q s:=by
  unfold letOwnedTupleGo
  cases tg <;> first
    | exact Yc a
    | (cases u <;> first
        | exact Yc a
        | (refine Yb (wpAny_load ho ?_)
           rw [hc,hd]
           show wpAny M A (if (["enumerate","zip","dict_itemiterator","dict_reverseitemiterator","odict_iterator","itertools.zip_longest","itertools.pairwise"].contains n && vs[0]? == some (rawInt _)) = true then _ else _) E Q s
           rw [if_neg (by intro h; rw [hn,Bool.false_and] at h; cases h)]
           exact Yc a))
def Hv(K:Za)(a:Addr):It:=
 ⟨λi H=>∃xs x,aX K H a xs/\xs[i]?=some x,λi H x H'=>H'=H/\∀xs,aX K H a xs->xs[i]?=some x,λi H=>∃xs,aX K H a xs/\xs.length<=i⟩
def Hw(K:Za)(a:Addr):It:=
 ⟨λi H=>∃xs x,bf K H a xs/\xs[i]?=some x,λi H x H'=>H'=H/\∀xs,bf K H a xs->xs[i]?=some x,λi H=>∃xs,bf K H a xs/\xs.length<=i⟩
def EI(lo:Int)(n:Nat):It:=⟨λi _=>i<n,λi H x H'=>H'=H/\x=.int (lo+i),λi _=>n<=i⟩
theorem z7(a it:Addr):Turn P w K tg (Hv K a) [it] it (λi h=>h.IsListIter it a i) where
 mem:=by simp
 obj:=λi h st b hb=>by
  have e:b=it:=by simpa using hb
  subst e;obtain⟨o,e,c,d⟩:=st;exact⟨o,e,λv z=>by rw[d] at z;cases z⟩
 keep:=λi h h' st k=>st.at λo e=>k it (by simp) o e
 item:=by
  intro X m hw n hc i a_ s σ H E I l st B;subst m hw n;obtain⟨xs,x,hq,hx⟩:=B;obtain⟨d_,F,p,hz⟩:=I.list hq;obtain⟨u,hu,R⟩:=F.get hx;obtain⟨f0,G,S,J,L,O⟩:=l it (by simp);refine wpAny_pyNext_list_item st p.isList (x:=u) (by simpa using hu) λh' j_ T=>?_
  have U:ad X a_ σ H { s with heap:=h' }:=I.turned (t':=s.toks) (λb o hb e=>(T.2 b hb).trans e) f0 G J L O;obtain⟨o,e,c,d⟩:=id j_;exact⟨u,rfl,t0 (s:={ s with heap:=h' }) e c d 'c' ⟨x,H,U,R,⟨rfl,λys hy=>by rw[I.list_inj hy hq];exact hx⟩,j_,λb hb=>(l b hb).1⟩⟩
 done:=by
  intro X m hw n hc i a_ s σ H E I l st B;subst m hw n;obtain⟨xs,hq,hx⟩:=B;obtain⟨d_,F,p,hz⟩:=I.list hq;obtain⟨f0,G,S,J,L,O⟩:=l it (by simp);have hl:=F.length;exact wpAny_pyNext_list_end (I.ok.hd hc) st p.isList (by simp;omega) λh' W=>⟨rfl,I.turned (t':=s.toks) (λb o hb e=>W b o hb e) f0 G J L O⟩
 self:=λ_ _ _ _ _ st h=>wpAny_pyIter_listiter st h
theorem yl(a it:Addr):Turn P w K tg (Hw K a) [it] it (λi h=>h.IsTupleIter it a i) where
 mem:=by simp
 obj:=λi h st b hb=>by
  have e:b=it:=by simpa using hb
  subst e;obtain⟨o,e,c,d⟩:=st;exact⟨o,e,λv z=>by rw[d] at z;cases z⟩
 keep:=λi h h' st k=>st.at λo e=>k it (by simp) o e
 item:=by
  intro X m hw n hc i a_ s σ H E I l st B;subst m hw n;obtain⟨xs,x,hq,hx⟩:=B;obtain⟨d_,F,p,hz⟩:=I.tuple hq;obtain⟨u,hu,R⟩:=F.get hx;obtain⟨f0,G,S,J,L,O⟩:=l it (by simp);refine wpAny_pyNext_tuple_item st (show s.heap.IsTuple a d_.toArray from p) (x:=u) (by simpa using hu) λh' j_ T=>?_
  have U:ad X a_ σ H { s with heap:=h' }:=I.turned (t':=s.toks) (λb o hb e=>(T.2 b hb).trans e) f0 G J L O;obtain⟨o,e,c,d⟩:=id j_;exact⟨u,rfl,t0 (s:={ s with heap:=h' }) e c d 'c' ⟨x,H,U,R,⟨rfl,λys hy=>by rw[I.tuple_inj hy hq];exact hx⟩,j_,λb hb=>(l b hb).1⟩⟩
 done:=by
  intro X m hw n hc i a_ s σ H E I l st B;subst m hw n;obtain⟨xs,hq,hx⟩:=B;obtain⟨d_,F,p,hz⟩:=I.tuple hq;obtain⟨f0,G,S,J,L,O⟩:=l it (by simp);have hl:=F.length;exact wpAny_pyNext_tuple_end (I.ok.hd hc) st (show s.heap.IsTuple a d_.toArray from p) (by simp;omega) λh' W=>⟨rfl,I.turned (t':=s.toks) (λb o hb e=>W b o hb e) f0 G J L O⟩
 self:=λ_ _ _ _ _ st h=>wpAny_pyIter_tupleiter st h
theorem ym(it:Addr)(lo:Int)(n:Nat):Turn P w K tg (EI lo n) [it] it (λi h=>IsRangeIter h it (lo+(i:Nat)*1) ((n:Int)-(i:Nat)) 1) where
 mem:=by simp
 obj:=λi h st b hb=>by
  have e:b=it:=by simpa using hb
  subst e;exact⟨_,st,λv z=>by
   have z':Data.fields _=Data.cell v:=z;cases z'⟩
 keep:=λi h h' st k=>k it (by simp) _ st
 item:=by
  intro X c hw l hc i a_ s σ H E I a st m;subst c hw l;obtain⟨f0,p,J,B,F,G⟩:=a it (by simp);have W:=Walks.range (prog:=X.prog) (w:=X.w) (I.ok.hd hc) it lo 1 n;refine W.item i s _ _ m st λv h' tk hv j_ kk=>?_
  obtain⟨t,rfl⟩:=hv;have L:ad X a_ σ H { s with heap:=h',toks:=tk }:=I.turned (λb o hb e=>kk b o (by simpa using hb) e) f0 p B F G;refine⟨_,rfl,t0 (s:={ s with heap:=h',toks:=tk }) (n:="range_iterator") j_ rfl rfl 'c' ⟨.int (lo+i),H,L,⟨t,?_⟩,⟨rfl,rfl⟩,j_,λb hb=>(a b hb).1⟩⟩;rw[Int.mul_one]
 done:=by
  intro X c hw l hc i a_ s σ H E I a st m;subst c hw l;obtain⟨f0,p,J,B,F,G⟩:=a it (by simp);exact wpAny_pyNext_range_end (I.ok.hd hc) st (by have:n<=i:=m;omega) λh' O=>⟨rfl,I.turned (t':=s.toks) (λb o hb e=>O b o hb e) f0 p B F G⟩
 self:=λ_ _ _ _ _ st h=>wpAny_pyIter_rangeiter st h
section
variable {X:Cx}{tg:Expr}
theorem BS{R:It->Hp->Prop}{t u v:Tok}(I:ad X a_ σ H s)(h1:-(2 ^ 62)<=lo)(c:lo<2 ^ 62)(k:-(2 ^ 62)<=hi)(l:hi<2 ^ 62)
  (q:R (EI lo (hi-lo).toNat) H):wpAny 'b' X.A (pyIter (.ref s.heap.objs.size)) (sL X a_ σ tg R) Q { s with heap:=s.heap.push { cls:=.type "range",data:=.fields #[.int lo t,.int hi u,.int 1 v] },toks:=i }:=by
 refine wpAny_pyIter_range (IsRange.new ..) (small_one h1 c k l) ?_;have a:ad X a_ σ H { s with heap:=s.heap.push { cls:=.type "range",data:=.fields #[.int lo t,.int hi u,.int 1 v] },toks:=i }:=I.kept λb o e=>Yd _ e
 refine⟨(s.heap.push { cls:=.type "range",data:=.fields #[.int lo t,.int hi u,.int 1 v] }).objs.size,[(s.heap.push { cls:=.type "range",data:=.fields #[.int lo t,.int hi u,.int 1 v] }).objs.size],_,_,H,rfl,
  a.kept (t':=i) λb o e=>Yd _ e,ym _ lo (hi-lo).toNat,?_,λb hb=>?_,q⟩
 .have m:lo+((0:Nat):Int)*1=lo:=by simp
  have n:(((hi-lo).toNat:Nat):Int)-((0:Nat):Int)=Builtin.Range.rangeSize lo hi 1:=by rw[rangeSize_one];split<;>omega
  show IsRangeIter _ _ (lo+((0:Nat):Int)*1) ((((hi-lo).toNat:Nat):Int)-((0:Nat):Int)) 1;rw[m,n];exact Yg _ rfl
 .have e:b=(s.heap.push { cls:=.type "range",data:=.fields #[.int lo t,.int hi u,.int 1 v] }).objs.size:=by simpa using hb
  subst e;exact a.fpOk (YF _) (a.hok.fresh (YF _))
def JZ(a:TA):TI:=λσ H R=>a σ H λvs H1=>∃j:Int,vs=[.int j]/\-(2 ^ 62)<=j/\j<2 ^ 62/\R (EI 0 j.toNat) H1
theorem z8{a:Expr}{c:TA}{p:Pos}(k:Gl X "range")(hm:X.mg "range" = none)(ha:PA X [a] c)(hs:starEach [a] X.env=[(false,eval a X.env)]:=by rfl):PI X tg (.Call (.Name "range" p) [a] [] pos) (JZ c):=by
 intro a_ s σ H R I h;refine Call_ (cE I k hm boot_range (PyProof.Rows.callWith_type1 (aL (ha pos a_ s σ H _ I h) λus s1 l=>?_) hs rfl));obtain⟨vs,H1,m,r1,q1⟩:=l;obtain⟨j,e,q1,q2,q⟩:=q1;subst e;cases r1 with
 |cons r n=>
  cases n;obtain⟨t,rfl⟩:=r;exact call_range_1 (BS m 'a' 'a' q1 q2 (by simpa using q))
def K4(c:TI)(g:TG)(tb:TS):TS:=λD σ H=>c σ H λJ H1=>∃W:Nat->Nat->St->Hp->Prop,(∃m,W 0 m σ H1)/\∀i m σ H,W i m σ H ->
 (J.stop i H/\D.nx σ H)\/(J.go i H/\∃N:St->Hp->Prop,(∀a H',N a H'->∃m',m'<m/\W (i+1) m' a H')/\∀x H',J.yld i H x H'->g x σ H' λk H2=>tb { D with nx:=N,ct:=N,bk:=D.nx } k H2)
def ic(fp:Zh)(h:Heap):List (Addr×Obj):=fp.filterMap λb=>(h.get? b).map λo=>(b,o)
def iR{h:Heap}(hb:b∈fp)(e:h.get? b=some ob):(b,ob)∈ic fp h:=List.mem_filterMap.mpr ⟨b,hb,by rw[e];rfl⟩
def sM{h:Heap}{p:Addr×Obj}(hp:p∈ic fp h):p.1∈fp/\h.get? p.1=some p.2:=by
 obtain⟨b,hb,e⟩:=List.mem_filterMap.mp hp;cases q:h.get? b with
 |none=>rw[q] at e;cases e
 |some o=>
  rw[q] at e;have e':(b,o)=p:=Yi e;subst e';exact⟨hb,q⟩
theorem ad.pinned(I:ad X a_ σ H s)(a:∀b∈fp,mr X a_ H b)(ho:∀b∈fp,∃o,s.heap.get? b=some o/\∀v,o.data≠.cell v):ad X (a_++ic fp s.heap) σ H s:=
 I.pins_of λp hp=>(YA.mp hp).elim (λz=>I.pin p (YG _ z)) λz=>by
  obtain⟨hb,e⟩:=sM z;obtain⟨f0,c,k,_⟩:=a p.1 hb;obtain⟨o,e',d⟩:=ho p.1 hb;rw[e] at e';cases e';exact⟨e,f0,c,k,d⟩
theorem ad.unpinned(I:ad X (a_++Oj) σ H s):ad X a_ σ H s:=I.pins_of λp hp=>I.pin p (YG _ (YB _ hp))
def Hx{R:TI}(hp:PassesOwn 'b' X.A X.env X.xe)(hc:X.calm=true)(hi:PI X tg iter R)(hg:PG X tg g)(hb:jE X body tb)
  (hs:∀x,foldedSetIterable iter X.env x=pure x:=by intro _;rfl):PS X (.For tg iter body [] pos) (K4 R g tb):=by
 intro a_ s σ H D I h;refine wpAny_For (aL (hi a_ s σ H _ I h) λv s1 h1=>aL h1 λRi s2 h2=>?_) hs;obtain⟨it,fp,tn,J,H2,e,I2,T,MR,S,W,⟨m0,w0⟩,l⟩:=h2;subst e
 -- what stays true of the iterator's objects through the loop
 have F:∀{H':Hp},(∀b∈fp,H' b=none)->∀b∈fp,mr X a_ H' b:=λhn b hb=>⟨hn b hb,(S b hb).2⟩
 refine codeAny_forLoop_any (λn U=>∃i p H',ad X a_ p H' U/\tn i U.heap/\(∀b∈fp,H' b=none)/\W i n p H') ?_ m0 ⟨0,σ,H2,I2,MR,λb hb=>(S b hb).1,w0⟩;rintro n Y ⟨i,B,H3,Z,Pc,PD,w3⟩;rcases l i n B H3 w3 with⟨stop,qn⟩ | ⟨go,N,hN,step⟩
 .refine wpAny_passesOwn hp (aL (T.done X rfl rfl rfl hc i a_ Y B H3 X.xe Z (F PD) Pc stop) λr s4 Rk=>?_)
  obtain⟨G,I4⟩:=Rk;subst G;exact wpAny_execs_nil ⟨B,H3,I4,qn⟩
 .refine wpAny_passesOwn hp (aL (T.item X rfl rfl rfl hc i a_ Y B H3 X.xe Z (F PD) Pc go) λr s4 Rl=>?_)
  obtain⟨u,G,h4⟩:=Rl;subst G;refine wpAny_passesOwn hp (aL h4 λ_ s5 Rm=>?_);obtain⟨x,H5,I5,r5,y5,L,Rn⟩:=Rm;have Ro:=I5.pinned (F Rn) (T.obj _ _ L);refine wpAny_passesOwn hp (aL (hg _ s5 B H5 x u _ Ro r5 (step x H5 y5)) λ_ s6 Rp=>?_);obtain⟨Nw,H6,I6,q6⟩:=Rp;refine wpAny_passesOwn hp (aL (hb _ s6 Nw H6 _ I6 q6) λf O k=>?_);have again:∀{a:St}{H7:Hp},ad X (a_++ic fp s5.heap) a H7 O->N a H7->∃m,m<n/\∃i p H',ad X a_ p H' O/\tn i O.heap/\(∀b∈fp,H' b=none)/\W i m p H':=λ{a H7} c E=>by
   obtain⟨m',hm,w7⟩:=hN a H7 E;refine⟨m',hm,i+1,a,H7,c.unpinned,T.keep _ _ _ L λb hb o e=>(c.pin (b,o) (YG _ (YG _ (iR hb e)))).1,λb hb=>?_,w7⟩;obtain⟨o,e,d⟩:=T.obj _ _ L b hb;exact(c.pin (b,o) (YG _ (YG _ (iR hb e)))).2.1
  cases f with
  |next=>obtain⟨a,H7,c,E⟩:=k;exact again c E
  |cont=>obtain⟨a,H7,c,E⟩:=k;exact again c E
  |brk=>obtain⟨a,H7,c,k⟩:=k;exact⟨a,H7,c.unpinned,k⟩
  |ret v=>obtain⟨x7,a,H7,c,r7,k⟩:=k;exact⟨x7,a,H7,c.unpinned,r7,k⟩
end
abbrev R2:=V->V->Hp->VK->Prop
def cA(X:Cx)(f:Zk)(r:R2):Prop:=
 ∀(a_:Zc) (s:Shared) (σ:St) (H:Hp) (x y:V) (v u:Value) (Q:VK),ad X a_ σ H s->RelV x v->RelV y u->r x y H Q ->
  wpAny 'b' X.A (f v u) (EP X a_ σ Q) X.xe s
def EJ(X:Cx)(f:Value->Sem Value)(r:V->Hp->VK->Prop):Prop:=
 ∀(a_:Zc) (s:Shared) (σ:St) (H:Hp) (x:V) (v:Value) (Q:VK),ad X a_ σ H s->RelV x v->r x H Q ->
  wpAny 'b' X.A (f v) (EP X a_ σ Q) X.xe s
def dA(X:Cx)(f:Value)(r:List V->Hp->VK->Prop):Prop:=
 ∀(a_:Zc) (s:Shared) (σ:St) (H:Hp) (xs:List V) (us:Zd) (Q:VK),ad X a_ σ H s->ak xs us->r xs H Q ->
  wpAny 'b' X.A (call f us) (EP X a_ σ Q) X.xe s
def K5(X:Cx)(r:V->Hp->(Bool->Hp->Prop)->Prop):Prop:=
 ∀(a_:Zc) (s:Shared) (σ:St) (H:Hp) (x:V) (v:Value) (Q:Bool->Hp->Prop),ad X a_ σ H s->RelV x v->r x H Q ->
  wpAny 'b' X.A (truthy v) (TP X a_ σ Q) X.xe s
def EK(r:R2)(a tb:TE):TE:=λσ H Q=>a σ H λx H1=>tb σ H1 λy H2=>r x y H2 Q
def LC(r:V->Hp->VK->Prop)(a:TE):TE:=λσ H Q=>a σ H λx H1=>r x H1 Q
def rI(C:Int->Int->Prop)(g:Int->Int->V):R2:=λx y H Q=>∃i j,x=.int i/\y=.int j/\C i j/\Q (g i j) H
def kr(g:Int->Int->V):R2:=λx y H Q=>∃i j,x=.int i/\y=.int j/\Q (g i j) H
def rU(g:Int->V):V->Hp->VK->Prop:=λx H Q=>∃i,x=.int i/\Q (g i) H
section
variable {X:Cx}{a b c:Expr}{ta tb tc:TE}{pos:Pos}
def BU(ha:PE X a ta)(hb:PE X b tb){R:V->V->Hp->Prop}(I:ad X a_ σ H s)
  (h:ta σ H λx H1=>tb σ H1 λy H2=>R x y H2)
  (k:∀v u s2 x y H2,ad X a_ σ H2 s2->RelV x v->RelV y u->R x y H2->wpAny 'b' X.A (f v u) Q X.xe s2):
  wpAny 'b' X.A (eval a X.env) (λv l=>wpAny 'b' X.A (eval b X.env) (λu m=>wpAny 'b' X.A (f v u) Q X.xe m) X.xe l) X.xe s:=by
 refine aL (ha a_ s σ H _ I h) λv s1 n=>?_
 obtain⟨x,H1,p,r1,q1⟩:=n;refine aL (hb a_ s1 σ H1 _ p q1) λu s2 B=>?_
 obtain⟨y,H2,E,r2,q2⟩:=B;exact k v u s2 x y H2 E r1 r2 q2
def J0{op:Operator}(ho:cA X (binaryOp op) r)(ha:PE X a ta)(hb:PE X b tb):PE X (.BinOp a op b pos) (EK r ta tb):=by
 intro a_ s σ H Q I h;exact wpAny_BinOp (BU ha hb I h λv u s2 x y H2 k l m q=>ho a_ s2 σ H2 x y v u Q k l m q)
def EL{op:UnaryOp}{r:V->Hp->VK->Prop}(ho:EJ X (unaryOp op) r)(ha:PE X a ta):PE X (.UnaryOp op a pos) (LC r ta):=by
 intro a_ s σ H Q I h;refine UnaryOp_ (aL (ha a_ s σ H _ I h) λv s1 k=>?_);obtain⟨x,H1,l,r1,q1⟩:=k;exact ho a_ s1 σ H1 x v Q l r1 q1
def wZ{C:Int->Int->Prop}{g:Int->Int->Int}
  (rule:∀(i j:Int) (t u:Tok) (s:Shared) (Q:Zb) (E:Zb),C i j->Q (.int (g i j) s.toks) { s with toks:=s.toks+1 }->wpAny 'b' X.A (f (.int i t) (.int j u)) Q E s):
  cA X f (rI C λi j=>.int (g i j)):=by
 intro a_ s σ H x y v u Q I k l h;obtain⟨i,j,rfl,rfl,hc,q⟩:=h;obtain⟨t,rfl⟩:=k;obtain⟨t',rfl⟩:=l;exact rule i j t t' s _ _ hc ⟨.int (g i j),H,I.tok _,⟨_,rfl⟩,q⟩
def uo{g:Int->Int->Int}
  (rule:∀(i j:Int) (t u:Tok) (s:Shared) (Q:Zb) (E:Zb),Q (.int (g i j) s.toks) { s with toks:=s.toks+1 }->wpAny 'b' X.A (f (.int i t) (.int j u)) Q E s):
  cA X f (kr λi j=>.int (g i j)):=by
 intro a_ s σ H x y v u Q I k l h;obtain⟨i,j,rfl,rfl,q⟩:=h;obtain⟨t,rfl⟩:=k;obtain⟨t',rfl⟩:=l;exact rule i j t t' s _ _ ⟨.int (g i j),H,I.tok _,⟨_,rfl⟩,q⟩
def yn{g:Int->Int->Bool}
  (rule:∀(i j:Int) (t u:Tok) (s:Shared) (Q:Zb) (E:Zb),Q (.bool (g i j)) s->wpAny 'b' X.A (f (.int i t) (.int j u)) Q E s):
  cA X f (kr λi j=>.bl (g i j)):=by
 intro a_ s σ H x y v u Q I k l h;obtain⟨i,j,rfl,rfl,q⟩:=h;obtain⟨t,rfl⟩:=k;obtain⟨t',rfl⟩:=l;exact rule i j t t' s _ _ ⟨.bl (g i j),H,I,rfl,q⟩
def Hy(i j:Int):Prop:=0<j/\j<1073741824
def yo(i j:Int):Prop:=0<=j/\j<=1000000/\i.natAbs<2 ^ 64
def uq(i j:Int):Prop:=(-(2 ^ 64)<i/\i<2 ^ 64)\/(-(2 ^ 64)<j/\j<2 ^ 64)
theorem uq.ok(h:uq lo hi):IntMulOk lo hi:=by
 rcases h with⟨h1,k⟩ | ⟨h1,k⟩
 .exact .of_left (intBits_le_64 h1 k)
 .exact .of_right (intBits_le_64 h1 k)
def yp(k:Nat):(0:Int)<=2 ^ k:=by
 rw[two_pow_cast];exact Int.natCast_nonneg _
def Hz:cA X (binaryOp .Add) (kr λi j=>.int (i+j)):=uo λ_ _ _ _ _ _ _ q=>add_int q
def HA:cA X (binaryOp .Sub) (kr λi j=>.int (i-j)):=uo λ_ _ _ _ _ _ _ q=>sub_int q
def HB:cA X (binaryOp .Mult) (rI uq λi j=>.int (i*j)):=wZ λ_ _ _ _ _ _ _ hc q=>mul_int q hc.ok
theorem Fx:cA X (binaryOp .FloorDiv) (rI Hy λi j=>.int (i / j)):=wZ λi j _ _ _ _ _ hc q=>by
 have h1:(0:Int)<j:=hc.1;have k:j<1073741824:=hc.2;exact floordiv_int 'a' (by rw[Int.fdiv_eq_ediv_of_nonneg i 'a'];exact q) (.inl (PyProof.noPylong_small 'a'))
theorem HC:cA X (binaryOp .Mod) (rI (λ_ j=>0<j) λi j=>.int (i%j)):=wZ λi j _ _ _ _ _ hc q=>by
 have h1:(0:Int)<j:=hc;exact mod_int' 'a' (by rw[Int.fmod_eq_emod_of_nonneg i 'a'];exact q)
def HD:cA X (binaryOp .Pow) (rI yo λi j=>.int (i ^ j.toNat)):=wZ λ_ _ _ _ _ _ _ hc q=>pow_int_small hc.1 hc.2.1 hc.2.2 q
def HE:cA X (binaryOp .LShift) (rI yo λi j=>.int (i*2 ^ j.toNat)):=wZ λ_ _ _ _ _ _ _ hc q=>lshift_int_small hc.1 hc.2.1 hc.2.2 q
def HF:cA X (binaryOp .RShift) (rI (λ_ j=>0<=j) λi j=>.int (i / 2 ^ j.toNat)):=wZ λi j _ _ _ _ _ hc q=>
 rshift_int hc (by rw[Int.fdiv_eq_ediv_of_nonneg i (yp _)];exact q)
def HG:cA X (binaryOp .BitAnd) (kr λi j=>.int (Builtin.bitAnd i j)):=uo λ_ _ _ _ _ _ _ q=>and_int q
def J1:cA X (binaryOp .BitOr) (kr λi j=>.int (Builtin.bitOr i j)):=uo λ_ _ _ _ _ _ _ q=>or_int q
def HH:cA X (binaryOp .BitXor) (kr λi j=>.int (Builtin.bitXor i j)):=uo λ_ _ _ _ _ _ _ q=>xor_int q
def Kx{f:Value->Sem Value}{g:Int->Int}
  (rule:∀(i:Int) (t:Tok) (s:Shared) (Q:Zb) (E:Zb),Q (.int (g i) s.toks) { s with toks:=s.toks+1 }->wpAny 'b' X.A (f (.int i t)) Q E s):
  EJ X f (rU λi=>.int (g i)):=by
 intro a_ s σ H x v Q I k h;obtain⟨i,rfl,q⟩:=h;obtain⟨t,rfl⟩:=k;exact rule i t s _ _ ⟨.int (g i),H,I.tok _,⟨_,rfl⟩,q⟩
def HI:EJ X (unaryOp .USub) (rU λi=>.int (-i)):=Kx λ_ _ _ _ _ q=>neg_int q
def HJ:EJ X (unaryOp .Invert) (rU λi=>.int (Builtin.bitNot i)):=Kx λ_ _ _ _ _ q=>invert_int q
end
section
variable {X:Cx}{a b c:Expr}{ta tb tc:TE}{pos:Pos}
def z9{Q:VK}{k:Bool}(I:ad X a_ σ H s)(q:Q (.bl k) H)(e:k=k'):EP X a_ σ Q (.bool k') s:=by
 subst e;exact⟨.bl k,H,I,rfl,q⟩
def J2:cA X (compareOp .Lt) (kr λi j=>.bl (decide (i<j))):=yn λ_ _ _ _ _ _ _ q=>lt_int q
def J3:cA X (compareOp .LtE) (kr λi j=>.bl (decide (i<=j))):=yn λ_ _ _ _ _ _ _ q=>le_int q
def J4:cA X (compareOp .Gt) (kr λi j=>.bl (decide (j<i))):=yn λ_ _ _ _ _ _ _ q=>gt_int q
def J5:cA X (compareOp .GtE) (kr λi j=>.bl (decide (j<=i))):=yn λ_ _ _ _ _ _ _ q=>ge_int q
def HK:cA X (compareOp .Is) (λx y H Q=>y=.non/\Q (.bl (decide (x=.non))) H):=by
 intro a_ s σ H x y v u Q I k l h;obtain⟨rfl,q⟩:=h;cases l;refine is_none_gen (z9 I q ?_);cases x<;>first
  |(cases k;rfl)
  |(obtain⟨t,rfl⟩:=k;rfl)
def Fy:cA X (compareOp .IsNot) (λx y H Q=>y=.non/\Q (.bl (!decide (x=.non))) H):=by
 intro a_ s σ H x y v u Q I k l h;obtain⟨rfl,q⟩:=h;cases l;refine isnot_none_gen (z9 I q ?_);cases x<;>first
  |(cases k;rfl)
  |(obtain⟨t,rfl⟩:=k;rfl)
def Fz{op:CmpOp}(ho:cA X (compareOp op) r)(ha:PE X a ta)(hb:PE X b tb)(hm:behindInMarks op b=false):PE X (.Compare a [op] [b] pos) (EK r ta tb):=by
 intro a_ s σ H Q I h;exact wpAny_Compare1 (BU ha hb I h λv u s2 x y H2 k l m q=>ho a_ s2 σ H2 x y v u Q k l m q) hm
def J6(t:TE):TT:=λσ H Q=>t σ H λx H'=>∃k,x=.bl k/\Q k H'
def FA{op:CmpOp}(ho:cA X (compareOp op) r)(ha:PE X a ta)(hb:PE X b tb)(hm:behindInMarks op b=false):PT X (.Compare a [op] [b] pos) (J6 (EK r ta tb)):=by
 intro a_ s σ H Q I h;refine wpAny_isTrue_Compare1 (aL (ha a_ s σ H _ I h) λv s1 ⟨x,H1,l,r1,q1⟩=>aL (hb a_ s1 σ H1 _ l q1) λu s2 ⟨y,H2,m,r2,q2⟩=>
  aL (ho a_ s2 σ H2 x y v u _ m r1 r2 q2) λc p ⟨z,H3,n,r3,k,e,q3⟩=>?_) hm
 subst e;cases r3;exact wpAny_truthy_bool ⟨H3,n,q3⟩
def BV(K:Za)(x:V)(H:Hp)(k:Bool):Prop:=
 match x with
 |.non=>k=false
 |.bl b=>k=b
 |.int i=>k=(i != 0)
 |.str y=>y.length<=sizeLine/\k=((y.length:Int) != 0)
 |.byt y=>y.size<=sizeLine/\k=((y.size:Int) != 0)
 |.ref p=>(∃xs,aX K H p xs/\k = !xs.isEmpty)\/(∃xs,bf K H p xs/\k = !xs.isEmpty) \/ ∃kvs,H p=some (.dK kvs)/\k = !kvs.isEmpty
 |_=>False
def yq{k:Type}{kvs:List (k×V)}{vs:List (k×Value)}(r:KV kvs vs):(!vs.isEmpty) = !kvs.isEmpty:=by
 cases r<;>rfl
def qb(r:ak xs d_):(!d_.toArray.isEmpty) = !xs.isEmpty:=by
 cases r<;>simp
def kt:(sizeLine:Nat)<2 ^ 63:=by rw[sizeLine_eq];decide
theorem HL:K5 X (λx H Q=>∃k,BV X.K x H k/\Q k H):=by
 intro a_ s σ H x v Q I l h;obtain⟨k,e,q⟩:=h;have hl:=kt;have hs:sizeLine=16777216:=sizeLine_eq;cases x with
 |non=>
  cases l;have e':k=false:=e;subst e';exact truthy_none ⟨H,I,q⟩
 |bl b=>
  cases l;have e':k=b:=e;subst e';exact wpAny_truthy_bool ⟨H,I,q⟩
 |int i=>
  obtain⟨t,rfl⟩:=l;have e':k=(i != 0):=e;subst e';exact PySem.P.truthy_int ⟨H,I,q⟩
 |str y=>
  obtain⟨t,rfl⟩:=l;obtain⟨hy,e'⟩:y.length<=sizeLine/\k=((y.length:Int) != 0):=e;subst e';exact PySem.P.truthy_str 'a' ⟨H,I.tok _,q⟩
 |byt y=>
  obtain⟨t,rfl⟩:=l;obtain⟨hy,e'⟩:y.size<=sizeLine/\k=((y.size:Int) != 0):=e;subst e';exact PySem.W.truthy_bytes 'a' ⟨H,I.tok _,q⟩
 |ref p=>
  cases l;have e':(∃xs,aX X.K H p xs/\k = !xs.isEmpty)\/(∃xs,bf X.K H p xs/\k = !xs.isEmpty) \/ ∃kvs,H p=some (.dK kvs)/\k = !kvs.isEmpty:=e;rcases e' with⟨xs,hx,e'⟩ | ⟨xs,hx,e'⟩ | ⟨kvs,hx,e'⟩
  .subst e'
   obtain⟨d_,r,n,hz⟩:=I.list hx;have B:=r.length;exact wpAny_truthy_list n.isList (by simp only[YH];omega) ⟨H,I.tok _,by rw[qb r];exact q⟩
  .subst e'
   obtain⟨d_,r,n,hz⟩:=I.tuple hx;have B:=r.length;exact truthy_tuple n (by simp only[YH];omega) ⟨H,I.tok _,by rw[qb r];exact q⟩
  .subst e'
   obtain⟨hz,hS,vs,r,m⟩:kvs.length<=sizeLine/\(p==sysModules)=false/\∃vs,KV kvs vs/\s.heap.DictOf (bt X.prog X.w) p vs:=I.hok p _ hx;have B:kvs.length=vs.length:=Paired.length r;exact wpAny_truthy_dict hS m 'a' ⟨H,I.tok _,by rw[yq r];exact q⟩
 |_=>exact(show False from e).elim
def BW(ha:PE X a ta)(m:∀l,isTrue a X.env l=(do let v ←l;standAt a.pos;holding [v] (truthy v))):
  PT X a (λσ H Q=>ta σ H λx H'=>∃k,BV X.K x H' k/\Q k H'):=by
 intro a_ s σ H Q I h;refine isTrue_plain (aL (ha a_ s σ H _ I h) λv s1 n=>?_) (m _);obtain⟨x,H1,p,r1,q1⟩:=n;exact HL a_ s1 σ H1 x v Q p r1 q1
def vals1(r:ak [y] us):∃u,us=[u]/\RelV y u:=by
 cases r with
 |cons r1 r2=>cases r2;exact⟨_,rfl,r1⟩
def vals2(r:ak [v,y] us):∃u w',us=[u,w']/\RelV v u/\RelV y w':=by
 cases r with
 |cons r1 r2=>
  cases r2 with
  |cons r3 k=>cases k;exact⟨_,_,rfl,r1,r3⟩
def Aa(hc:X.calm=true):dA X (.builtin "min") (λxs H Q=>∃i j,xs=[.int i,.int j]/\Q (.int (if j<i then j else i)) H):=by
 intro a_ s σ H xs us Q I r h;obtain⟨i,j,rfl,q⟩:=h;obtain⟨u,w',rfl,⟨t,rfl⟩,⟨t',rfl⟩⟩:=vals2 r;refine min_two_ints (I.ok.hd hc) λh' tk k=>⟨_,H,I.kept k,?_,q⟩
 by_cases l:j<i
 .rw[if_pos l,if_pos l];exact⟨_,rfl⟩
 .rw[if_neg l,if_neg l];exact⟨_,rfl⟩
def sN:dA X (.type "int") (λxs H Q=>(∃i,xs=[.int i]/\Q (.int i) H) \/ ∃k,xs=[.bl k]/\Q (.int (if k then 1 else 0)) H):=by
 intro a_ s σ H xs us Q I r h;rcases h with⟨i,rfl,q⟩ | ⟨k,rfl,q⟩
 .obtain⟨u,rfl,t,rfl⟩:=vals1 r
  exact call_int_int ⟨.int i,H,I,⟨_,rfl⟩,q⟩
 .obtain⟨u,rfl,r1⟩:=vals1 r
  cases r1;exact call_int_bool ⟨.int (if k then 1 else 0),H,I.tok _,⟨_,rfl⟩,q⟩
end
structure ph (h:Heap) (x dx C:Addr) (mA:Ze):Prop where
 obj:h.get? x=some (PySem.W.instObj C dx)
 ns:h.Ns1 dx mA
 ne:dx≠x
def Ab{h:Heap}(n:h.Ns1 b mg):∃od,h.get? b=some od/\∀name,PySem.W.lookIn name od=some (mg name):=by
 obtain⟨o,es,k,ho,hd,hk,_,hm⟩:=n;refine⟨o,ho,λname=>?_⟩;have e:=hm name;unfold nsFind findBy at e;rw[←Array.find?_toList] at e;unfold PySem.W.lookIn;rw[hd];dsimp only;split
 .rename_i y q
  rw[q] at e;exact congrArg some e
 .rename_i q
  rw[q] at e;have a:es.toList.any (·.refKey)=false:=by
   rw[List.any_eq_false];intro y hy;obtain⟨z,t,c⟩:=hk y (Array.mem_toList_iff.mp hy);simp[DictEntry.refKey,c]
  have a':¬es.toList.any (·.refKey)=true:=by rw[a];exact YE
  rw[if_neg a'];exact congrArg some e
theorem ph.look{h:Heap}(I:ph h b it C mg):∃od,PySem.W.InstAt h b (PySem.W.instObj C it) C (some od)/\∀name,PySem.W.lookIn name od=some (mg name):=
 let⟨od,ho,hl⟩:=Ab I.ns;⟨od,⟨I.obj,rfl,rfl,ho⟩,hl⟩
section
variable {prog:Zv}{w:World}{A:Around}{E:Zb}{s:Shared}{K:Za}{x dx C f:Addr}{mA:Ze}{name:Str}{v:Value}
def FB(X:K.In s.heap)(I:ph s.heap x dx C mA)(a:PySem.W.plainGet K C name=true)(c:PySem.W.hasDictIn K C=true)
  (ha:PySem.W.findIn K (.ref C) name=some none) (hv:mA name=some v) (k:PySem.W.handedIn v=true) (h:Q v { s with toks:=s.toks+1 }):
  wpAny 'e' A (getAttr (.ref x) name expr) Q E s:=by
 obtain⟨od,J,hl⟩:=I.look;exact PySem.W.get_value X J (PySem.W.plainGet_of a).1 (PySem.W.findObj_own c ha rfl (by rw[hl,hv])) k h
def BX{c:Sem Bool}{Q:Value×List Value->Shared->Prop}(X:K.In s.heap)(I:ph s.heap x dx C mA)(a:PySem.W.plainGet K C name=true)
  (k:PySem.W.findIn K (.ref C) name=some (some (.ref f))) (ht:PySem.W.isFn K (.ref f)=true) (hv:mA name=none) (h:Q (.ref f,[.ref x]) s):
  wpAny 'e' A (getMethod (.ref x) name c) Q E s:=by
 obtain⟨od,J,hl⟩:=I.look;exact PySem.W.method_fn X J (PySem.W.plainGet_of a).1 (PySem.W.plainGet_of a).2 k (beq_iff_eq.mp ht) (by show(PySem.W.lookIn name od).map (·.isSome)=some false;rw[hl,hv];rfl) h
theorem FC{Q:Zo}(X:K.In s.heap)(I:ph s.heap x dx C mA)
  (hs:PySem.W.findIn K (.ref C) "__setattr__" = some (some (.builtin "object.__setattr__"))) (hp:PySem.W.plainOver K C=true) (ht:PySem.W.takerIn K C name=some none) (l:PySem.W.hasDictIn K C=true)
  (hw:PySem.Within mA N) (hsz:N.length<=sizeLine)
  (h:∀h',ph h' x dx C (λy=>if y=name then some v else mA y)->Heap.SameBut dx s.heap h'->Q () { s with heap:=h',toks:=s.toks+2 }):
  wpAny 'e' A (setAttr (.ref x) name v) Q E s:=by
 obtain⟨od,J,hl⟩:=I.look;refine PySem.W.set_plain X J hs (PySem.W.osa_open (s:={ s with toks:=s.toks+1 }) (r:=none) X J hp ht λb=>?_);obtain⟨cd,hc,m⟩:=PySem.W.any_some l;have hx:s.heap.get? x=some ⟨.ref C,some dx,.plain,#[]⟩:=I.obj;refine Yb (Yc (Yb (Yb (wpAny_loadPart hx (Yb (PySem.W.Looks.here (s:={ s with toks:=s.toks+1 }) (PySem.W.looks_clsIn X hc) ?_))))));rw[m];refine Yc (a:=some dx) (Yb (Yc (Yb ?_)));refine wpAny_nsSet1 (s:={ s with toks:=s.toks+1 }) I.ns λh' c k=>?_
 obtain⟨F,G,L,n,p,B⟩:=c.count (PySem.Within.cons name v hw);refine Yb (wpAny_lookBehind n (by rw[p];exact pastItsLine_dict (ZW B (by rw[YI];omega))) ?_);exact Yc (h _ ⟨(k.2 _ (Ne.symm I.ne)).trans I.obj,c,I.ne⟩ k)
def BY{R:Result->Shared->Prop}{a:List (Str×Value)}(X:K.In s.heap)(hm:PySem.W.makesIn K C=true)
  (hi:PySem.W.findIn K (.ref C) "__init__" = some (some (.ref f))) (c:PySem.W.typeIn K (.ref f)=some (.type "function"))
  (h:codeAny 'e' (A.under (.builtin "type.__call__" ⟨.ref C::us,a⟩)) (.call (.ref f) ⟨.ref (s.heap.objs.size+1)::us,a⟩) (PySem.W.InitBack (s.heap.objs.size+1) R)
   { s with heap:=(s.heap.push PySem.W.emptyDict).push (PySem.W.instObj C s.heap.objs.size) }):
  codeAny 'e' A (.call (.ref C) ⟨us,a⟩) R s:=by
 obtain⟨k,g,d,t,os⟩:=s;exact PySem.W.make_core (PySem.W.makes_of X hm) (PySem.W.looks_findIn X hi) (λself=>PySem.W.bind_fn X self c) (.inl rfl) h
end
def cV(f:Str)(v:V):List (Str×V)->List (Str×V)
 |[]=>[(f,v)]
 |(g,x)::r=>if g=f then(g,v)::r else(g,x)::cV f v r
theorem oJ(f g:Str)(v:V):∀fs:List (Str×V),(cV f v fs).lookup g=if g=f then some v else fs.lookup g
 |[]=>by
  show List.lookup g [(f,v)]=_;by_cases h:g=f
  .have hb:(g==f)=true:=beq_iff_eq.mpr h
   simp only[List.lookup,hb,if_pos h]
  .have hb:(g==f)=false:=ZQ.mpr h
   simp only[List.lookup,hb,if_neg h]
 |(k,x)::r=>by
  have a:=oJ f g v r;rw[show cV f v ((k,x)::r)=(if k=f then(k,v)::r else(k,x)::cV f v r) from rfl];by_cases hk:k=f
  .rw[if_pos hk]
   by_cases h:g=k
   .have hb:(g==k)=true:=beq_iff_eq.mpr h
    simp only[List.lookup,hb,if_pos (h.trans hk)]
   .have hb:(g==k)=false:=ZQ.mpr h
    simp only[List.lookup,hb,if_neg (λe:g=f=>h (e.trans hk.symm))]
  .rw[if_neg hk]
   by_cases h:g=k
   .have hb:(g==k)=true:=beq_iff_eq.mpr h
    simp only[List.lookup,hb,if_neg (λe:g=f=>hk (h.symm.trans e))]
   .have hb:(g==k)=false:=ZQ.mpr h
    simp only[List.lookup,hb];exact a
theorem mw(f:Str)(v:V):∀fs:List (Str×V),f∈(cV f v fs).map (·.1)/\∀g,g∈fs.map (·.1)->g∈(cV f v fs).map (·.1)
 |[]=>⟨by simp[cV],λg h=>by simp at h⟩
 |(k,x)::r=>by
  obtain⟨a,c⟩:=mw f v r;rw[show cV f v ((k,x)::r)=(if k=f then(k,v)::r else(k,x)::cV f v r) from rfl];by_cases hk:k=f
  .rw[if_pos hk]
   subst hk;exact⟨by simp,λg h=>by simpa using h⟩
  .rw[if_neg hk]
   refine⟨?_,λg h=>?_⟩
   .rw[YK]
    exact ZY _ a
   .rw[YK] at h ⊢
    rcases ZZ.mp h with e | e
    .exact ZZ.mpr (.inl e)
    .exact ZY _ (c g e)
theorem oK(f:Str)(v:V):∀fs:List (Str×V),(cV f v fs).length<=fs.length+1
 |[]=>by simp[cV]
 |(k,x)::r=>by
  have a:=oK f v r;rw[show cV f v ((k,x)::r)=(if k=f then(k,v)::r else(k,x)::cV f v r) from rfl];by_cases hk:k=f
  .rw[if_pos hk,YI,YI];omega
  .rw[if_neg hk,YI,YI];omega
theorem eL.some_of{o:Zw}(r:eL (some v) o):∃u,o=some u/\RelV v u:=by
 cases o with
 |none=>exact(show False from r).elim
 |some u=>exact⟨u,rfl,r⟩
theorem eL.none_of{o:Zw}(r:eL none o):o=none:=by
 cases o with
 |none=>rfl
 |some u=>exact(show False from r).elim
def Ac(r:RelV v u):PySem.W.handedIn u=true:=by
 cases v with
 |non=>cases(show u=Value.none from r);rfl
 |bl b=>cases(show u=Value.bool b from r);rfl
 |int i=>obtain⟨t,e⟩:=(show ∃t,u=Value.int i t from r);cases e;rfl
 |str x=>obtain⟨t,e⟩:=(show ∃t,u=Value.str x t from r);cases e;rfl
 |byt b=>obtain⟨t,e⟩:=(show ∃t,u=Value.bytes b t from r);cases e;rfl
 |flt b=>obtain⟨t,e⟩:=(show ∃t,u=Value.float b t from r);cases e;rfl
 |ref a=>cases(show u=Value.ref a from r);rfl
 |ty n=>cases(show u=Value.type n from r);rfl
section
variable {P:Zv}{w:World}{H H':Hp}{h h':Heap}{a C dx:Addr}{fs Oi:List (Str×V)}
def nH(hok:ca P w H h)(e:H a=some (.ins C dx fs)):∃mA,ph h a dx C mA/\(∀f,eL (fs.lookup f) (mA f))/\PySem.Within mA (fs.map (·.1))/\fs.length<=1000/\H dx=some (.own a):=by
 obtain⟨d,z,ne,ob,mA,n,r,q⟩:=(show aT P w H h a (.ins C dx fs) from hok a _ e);exact⟨mA,⟨ob,n,ne⟩,r,q,z,d⟩
end
structure fS (K:Za) (C:Addr):Prop where
 pg:PySem.W.plainGet K C Str.empty=true
 hd:PySem.W.hasDictIn K C=true
 po:PySem.W.plainOver K C=true
 sa:PySem.W.findIn K (.ref C) "__setattr__" = some (some (.builtin "object.__setattr__"))
theorem fS.get{K:Za}{C:Addr}(c:fS K C)(f:Str):PySem.W.plainGet K C f=true:=c.pg
def cX(K:Za)(C:Addr)(f:Str):Prop:=PySem.W.findIn K (.ref C) f=some none
theorem cX.taker(n:cX K C x):PySem.W.takerIn K C x=some none:=by
 unfold PySem.W.takerIn;rw[show PySem.W.findIn K (.ref C) x=some none from n];rfl
structure BZ (K:Za) (C:Addr) (m:Str) (f:Addr):Prop where
 at_:PySem.W.findIn K (.ref C) m=some (some (.ref f))
 fn:PySem.W.isFn K (.ref f)=true
 kp:PySem.W.keepIn K (.ref f)=true
section
variable {X:Cx}{a_:Zc}{σ:St}{H:Hp}{s:Shared}{a C dx:Addr}{fs:List (Str×V)}{f:Str}{v:V}{A:Around}{E:Zb}
def yr(I:ad X a_ σ H s)(e:H a=some (.ins C dx fs))(c:fS X.K C)(n:cX X.K C f)(l:fs.lookup f=some v)
  (h:∀u k,ad X a_ σ H k->RelV v u->Q u k):wpAny 'b' A (getAttr (.ref a) f k') Q E s:=by
 obtain⟨mA,O,r,_,_,_⟩:=nH I.hok e;obtain⟨u,hu,m⟩:=eL.some_of (v:=v) (o:=mA f) (by rw[←l];exact r f);exact FB I.kIn O (c.get f) c.hd n hu (Ac m) (h u _ (I.tok _) m)
def qc{m:Sem Bool}{Q:Value×List Value->Shared->Prop}(I:ad X a_ σ H s)(e:H a=some (.ins C dx fs))(c:fS X.K C)(k:BZ X.K C f b)(l:fs.lookup f=none)
  (h:Q (.ref b,[.ref a]) s):wpAny 'b' A (getMethod (.ref a) f m) Q E s:=by
 obtain⟨mA,O,r,_,_,_⟩:=nH I.hok e;have hn:mA f=none:=eL.none_of (by rw[←l];exact r f);exact BX I.kIn O (c.get f) k.at_ k.fn hn h
theorem yt{Q:Zo}(I:ad X a_ σ H s)(e:H a=some (.ins C dx fs))(c:fS X.K C)(n:cX X.K C f)(hl:fs.length<1000)(p:RelV y u)
  (h:∀l,ad X a_ σ (upd H a (.ins C dx (cV f y fs))) l->Q () l):wpAny 'b' A (setAttr (.ref a) f u) Q E s:=by
 obtain⟨mA,O,r,m,_,ho⟩:=nH I.hok e;have hz:(fs.map (·.1)).length<=sizeLine:=by rw[ZF,sizeLine_eq];omega
 refine FC I.kIn O c.sa c.po n.taker c.hd m hz λh' k B=>h _ ?_
 have hd:∃o,h'.get? dx=some o:=let⟨o,_,_,e',_⟩:=k.ns;⟨o,e'⟩;refine I.write (x:=a) (e:=dx) (by rw[e];exact True.intro) (.inr ho) (λb q hb z=>(B.2 b hb).trans z) hd ?_;refine⟨by rw[aM O.ne];exact ho,?_,O.ne,k.obj,_,k.ns,λg=>?_,λg F=>?_⟩
 .have:=oK f y fs;omega
 .show eL ((cV f y fs).lookup g) (if g=f then some u else mA g)
  rw[oJ];by_cases q:g=f
  .rw[if_pos q,if_pos q];exact p
  .rw[if_neg q,if_neg q];exact r g
 .by_cases q:g=f
  .rw[q];exact(mw f y fs).1
  .refine(mw f y fs).2 g (m g λz=>F ?_)
   show(if g=f then some u else mA g)=none;rw[if_neg q];exact z
theorem ad.made(I:ad X a_ σ H s):ad X a_ σ (upd (upd H s.heap.objs.size (.own (s.heap.objs.size+1))) (s.heap.objs.size+1) (.ins C s.heap.objs.size []))
  { s with heap:=(s.heap.push PySem.W.emptyDict).push (PySem.W.instObj C s.heap.objs.size) }:=by
 have c:(s.heap.push PySem.W.emptyDict).get? s.heap.objs.size=some PySem.W.emptyDict:=Yg s.heap rfl;have k:((s.heap.push PySem.W.emptyDict).push (PySem.W.instObj C s.heap.objs.size)).get? (s.heap.objs.size+1)=some (PySem.W.instObj C s.heap.objs.size):=by
  have:=Yg (s.heap.push PySem.W.emptyDict) (o:=PySem.W.instObj C s.heap.objs.size) rfl
  rwa [Heap.size_push] at this
 have l:(s.heap.push PySem.W.emptyDict).Ns s.heap.objs.size (λ_=>none):=⟨PySem.W.emptyDict,#[],_,c,rfl,(λe m=>absurd m (by simp)),λ_=>rfl⟩;have n:=I.laid (a:=s.heap.objs.size) (o:=.own (s.heap.objs.size+1)) (h':=s.heap.push PySem.W.emptyDict) (t':=s.toks) (λb u q=>Yd _ q) (YF _) ⟨_,c⟩;refine n.laid (a:=s.heap.objs.size+1) (o:=.ins C s.heap.objs.size []) (t':=s.toks) (λb u q=>Yd _ q) (Nat.le_of_eq (Heap.size_push _ _)) ?_;have ne:s.heap.objs.size≠s.heap.objs.size+1:=ZT (Nat.lt_succ_self _);refine⟨by rw[aM ne,aA],YL _,ne,k,λ_=>none,(Heap.Ns1.of_empty l).at λo q=>Yd _ q,λ_=>True.intro,λy hy=>absurd rfl hy⟩
def FD{env:Env}{e:Expr}(hb:attributeBase e f env (eval e env)=eval e env)
  (h:wpAny (model P w) A (eval e env) (λo c=>wpAny (model P w) A (getAttr o f true) Q E c) E s):wpAny (model P w) A (eval (.Attribute e f pos) env) Q E s:=
 Attribute_any_ h (by rw[arm_eval_Attribute,hb])
end
def K6(K:Za)(c:TE)(f:Str):TE:=λσ H Q=>c σ H λx H1=>∃a C dx fs v,x=.ref a/\H1 a=some (.ins C dx fs)/\fS K C/\cX K C f/\fs.lookup f=some v/\Q v H1
def K7(K:Za)(c k:TE)(f:Str):TS:=λD σ H=>k σ H λy H1=>c σ H1 λx H2=>∃a C dx fs,x=.ref a/\H2 a=some (.ins C dx fs)/\fS K C/\cX K C f/\fs.length<1000 /\
 D.nx σ (upd H2 a (.ins C dx (cV f y fs)))
section
variable {X:Cx}{o e value:Expr}{f:Str}{pos pos' U7:Pos}{ta tv:TE}
def HM(k:PE X e ta)(hb:attributeBase e f X.env (eval e X.env)=eval e X.env):PE X (.Attribute e f pos) (K6 X.K ta f):=by
 intro a_ s σ H Q I h;refine FD hb (aL (k a_ s σ H _ I h) λu s1 m=>?_);obtain⟨x,H1,p,B,a,C,dx,fs,v,ex,E,c,n,l,q⟩:=m;subst ex;obtain rfl:u=Value.ref a:=B;exact yr p E c n l λJ s2 F G=>⟨v,H1,F,G,q⟩
def HN(ha:PE X o ta)(hv:PE X value tv)(hs:swapsWith value (some (.Attribute o f pos')) pos.line X.env=pure false):PS X (.Assign [.Attribute o f pos'] value pos) (K7 X.K ta tv f):=by
 intro a_ s σ H D I h;refine plainObj_wpAny_Assign_Attribute (aL (hv a_ s σ H _ I h) λu s1 k=>?_) hs;obtain⟨y,H1,m,p,q⟩:=k;refine aL (ha a_ s1 σ H1 _ m q) λB s2 E=>?_
 obtain⟨x,H2,F,G,a,C,dx,fs,ex,J,c,n,l,q2⟩:=E;subst ex;obtain rfl:B=Value.ref a:=G;exact yt F J c n l p λO L=>⟨σ,_,L,q2⟩
end
section
variable {X:Cx}{a_:Zc}{σ:St}{H:Hp}{s:Shared}{A:Around}{E:Zb}{Q:Zb}{c:Value}{b:Bool}
inductive iC (K:Za) (H:Hp):V->Value->Prop where
 |non:iC K H .non (.type "NoneType")
 |bl (x:Bool):iC K H (.bl x) (.type "bool")
 |int (i:Int):iC K H (.int i) (.type "int")
 |str (x:Str):iC K H (.str x) (.type "str")
 |flt (x:UInt64):iC K H (.flt x) (.type "float")
 |lst {a:Addr}{xs:List V}(e:H a=some (.lst xs)):iC K H (.ref a) (.type "list")
 |frz {a:Addr}{o:Obj}{xs:List V}(e:H a=some (.frz o (.lst xs))):iC K H (.ref a) (.type "list")
 |tup {a:Addr}{xs:List V}(e:H a=some (.tup xs)):iC K H (.ref a) (.type "tuple")
 |dK {a:Addr}{kvs:List (Key×V)}(e:H a=some (.dK kvs)):iC K H (.ref a) (.type "dict")
 |dT {a:Addr}{kvs:List (List Key×V)}(e:H a=some (.dT kvs)):iC K H (.ref a) (.type "dict")
 |ins {a C dx:Addr}{fs:List (Str×V)}(e:H a=some (.ins C dx fs)) (cl:fS K C) (ha:PySem.W.findIn K (.ref C) "__class__" = some (some (.builtin "object.__class__")))
   (hn:PySem.W.specialIn K (.builtin "object.__class__") "__get__" = some (some (.builtin "getset_descriptor.__get__"))) (T2:PySem.W.takesIn K (.builtin "object.__class__")=some true)
   (hm:PySem.W.mroIn K C (.type "object")=some true):iC K H (.ref a) (.ref C)
def fT{t:Value}(I:ad X a_ σ H s)(k:RelV y u)(ty:iC X.K H y t)(e:PySem.W.kitOne X.K t c=some b)(h:∀tk,Q (.bool b) { s with toks:=tk }):
  wpAny 'b' A (call (.builtin "isinstance") [u,c]) Q E s:=by
 cases ty with
 |non=>cases(show u=Value.none from k);exact PySem.W.kia_one PySem.W.kitx_none I.kIn True.intro e (λz=>nomatch z) h
 |bl x=>cases(show u=Value.bool x from k);exact PySem.W.kia_one PySem.W.kitx_bool I.kIn True.intro e (λz=>nomatch z) h
 |int i=>obtain⟨t,q⟩:=(show ∃t,u=Value.int i t from k);cases q;exact PySem.W.kia_one PySem.W.kitx_int I.kIn True.intro e (λz=>nomatch z) h
 |str x=>obtain⟨t,q⟩:=(show ∃t,u=Value.str x t from k);cases q;exact PySem.W.kia_one PySem.W.kitx_str I.kIn True.intro e (λz=>nomatch z) h
 |flt x=>obtain⟨t,q⟩:=(show ∃t,u=Value.float x t from k);cases q;exact PySem.W.kia_one PySem.W.kitx_float I.kIn True.intro e (λz=>nomatch z) h
 |@lst a xs l=>
  cases(show u=Value.ref a from k);obtain⟨_,_,n,_,h1⟩:=(show aT X.prog X.w H s.heap a (.lst xs) from I.hok a _ l);exact PySem.W.kia_one PySem.W.kitx_list I.kIn ⟨_,h1,rfl⟩ e (λz=>nomatch z) h
 |@frz a ob xs l=>
  cases(show u=Value.ref a from k);obtain⟨_,_,_,n,_,h1⟩:=(show aT X.prog X.w H s.heap a (.frz ob (.lst xs)) from I.hok a _ l);exact PySem.W.kia_one PySem.W.kitx_list I.kIn ⟨_,h1,rfl⟩ e (λz=>nomatch z) h
 |@tup a xs l=>
  cases(show u=Value.ref a from k);obtain⟨_,_,_,p⟩:=(show aT X.prog X.w H s.heap a (.tup xs) from I.hok a _ l);obtain⟨o,h1,m,_⟩:=p;exact PySem.W.kia_one PySem.W.kitx_tuple I.kIn ⟨o,h1,m⟩ e (λz=>nomatch z) h
 |@dK a kvs l=>
  cases(show u=Value.ref a from k);obtain⟨_,_,vs,_,p⟩:=(show aT X.prog X.w H s.heap a (.dK kvs) from I.hok a _ l);obtain⟨o,es,B,h1,m,_⟩:=p;exact PySem.W.kia_one PySem.W.kitx_dict I.kIn ⟨o,h1,m.1⟩ e (λz=>nomatch z) h
 |@dT a kvs l=>
  cases(show u=Value.ref a from k);obtain⟨_,_,xs,_,o,es,B,h1,m,_⟩:=(show aT X.prog X.w H s.heap a (.dT kvs) from I.hok a _ l);exact PySem.W.kia_one PySem.W.kitx_dict I.kIn ⟨o,h1,m.1⟩ e (λz=>nomatch z) h
 |@ins a C dx fs l cl ha hn F hm=>
  cases(show u=Value.ref a from k);obtain⟨mA,O,_⟩:=nH I.hok l;obtain⟨od,J,_⟩:=O.look;exact PySem.W.kia_one (PySem.W.kitx_own (cl.get _) cl.hd ha hn F hm) I.kIn J e (λz=>nomatch z) h
end
structure bK (k:Nat) (A:Around):Prop where
 hd:A.handled=none
 dp:A.depth+3*k+5<recursionLimit
 un:A.units+16*k+200<cLine
theorem bK.mono(r:bK i A)(h:j<=i):bK j A:=⟨r.hd,by have:=r.dp;omega,by have:=r.un;omega⟩
theorem bK.deeper{k:Nat}{A:Around}(r:bK (k+1) A)(env:Env):bK k (A.deeper env):=
 ⟨r.hd,by have:=r.dp;show A.depth+1+3*k+5<_;omega,by have:=r.un;show A.units+3+16*k+200<_;omega⟩
def yu{a:List (Str×Value)}:(A.under (.builtin "type.__call__" ⟨.ref C::us,a⟩)).depth=A.depth+1:=by
 first | rfl | simp[Around.under,Code.weight,Code.isCreation,Code.isGuard,Code.isCaller,Code.frames,Code.isFrame,guardIds]
def yv{a:List (Str×Value)}:(A.under (.builtin "type.__call__" ⟨.ref C::us,a⟩)).units=A.units+1:=by
 first | rfl | simp[Around.under,Code.cUnits,Code.frames,Code.isFrame]
theorem bK.make(r:bK (i+1) A)(C:Addr)(us:Zd)(a:List (Str×Value)):bK i (A.under (.builtin "type.__call__" ⟨.ref C::us,a⟩)):=
 ⟨r.hd,by have:=r.dp;rw[yu];omega,by have:=r.un;rw[yv];omega⟩
theorem bK.depth{k:Nat}{A:Around}(r:bK k A):A.depth<recursionLimit:=by have:=r.dp;omega
theorem bK.units{k:Nat}{A:Around}(r:bK k A):A.units+64<cLine:=by have:=r.un;omega
def K8:TA:=λ_ H Q=>Q [] H
def J7(a:TE)(c:TA):TA:=λσ H Q=>a σ H λx H1=>c σ H1 λxs H2=>Q (x::xs) H2
section
variable {X:Cx}{e:Expr}{es:Zg}{te:TE}{t:TA}{pos:Pos}
def HP:PA X [] K8:=λ_ _ _ _ H Q I h=>Calls.spliced_nil ⟨[],H,I,.nil,h⟩
def FE(ha:PE X e te)(a:PA X es t)(hs:starEach (e::es) X.env=(false,eval e X.env)::starEach es X.env:=by rfl):PA X (e::es) (J7 te t):=by
 intro pos a_ s σ H Q I h;rw[hs];show wpAny _ _ (spliced ((false,eval e X.env)::backTo pos (starEach es X.env))) _ _ s;refine Calls.spliced_cons (aL (ha a_ s σ H _ I h) λu s1 c=>?_);obtain⟨x,H1,k,r1,q1⟩:=c;refine aL (a pos a_ s1 σ H1 _ k q1) λus s2 l=>?_
 obtain⟨xs,H2,m,r2,q2⟩:=l;exact⟨x::xs,H2,m,.cons r1 r2,q2⟩
def K9(t:TA):TE:=λσ H Q=>t σ H λxs H1=>xs.length<=sizeLine/\∀p,H1 p=none->Q (.ref p) (upd H1 p (.tup xs))
def La(t:TA):TE:=λσ H Q=>t σ H λxs H1=>xs.length<=sizeLine/\∀p,H1 p=none->Q (.ref p) (upd H1 p (.lst xs))
def HQ{x1}(h:PA X es t):PE X (.Tuple es x1 pos) (K9 t):=by
 intro a_ s σ H Q I hq;refine wpAny_Tuple_spliced (aL (h pos a_ s σ H _ I hq) λus s1 ⟨xs,H1,a,r,z,q⟩=>⟨by rw[←r.length];exact z,?_⟩);have c:H1 s1.heap.objs.size=none:=a.hok.fresh (YF _);refine⟨.ref s1.heap.objs.size,upd H1 s1.heap.objs.size (.tup xs),a.laid (t':=s1.toks) (λb u e=>Yd _ e) (YF _) ?_,rfl,q _ c⟩;exact⟨z,us,r,⟨_,Yg _ rfl,rfl,_,rfl,rfl⟩⟩
def HR(h:PA X es t):PE X (.List es pos) (La t):=by
 intro a_ s σ H Q I hq;refine wpAny_List_spliced (aL (h pos a_ s σ H _ I hq) λus s1 ⟨xs,H1,a,r,z,q⟩=>⟨by rw[←r.length];exact z,?_⟩);have c:H1 s1.heap.objs.size=none:=a.hok.fresh (YF _);refine⟨.ref s1.heap.objs.size,upd H1 s1.heap.objs.size (.lst xs),a.laid (t':=s1.toks) (λb u e=>Yd _ e) (YF _) ?_,rfl,q _ c⟩;exact⟨z,us,0,r,Yg _ rfl⟩
end
abbrev Sp:=List V->Hp->VK->XK->Prop
abbrev oM:=List Env->Hp->Shared->XK->Value->Shared->Prop
structure dv (P:Zv) (w:World) (K:Za) (mg:Ze) (base:Heap) (A:Around) (outer:List Env) (s:Shared) (H:Hp):Prop where
 frames:A.frames=some outer
 mod:Mod K mg base
 bs:∀b o,base.get? b=some o->s.heap.get? b=some o/\H b=none
 bsz:base.objs.size<=s.heap.objs.size
 funs:s.heap.FunFrames base outer
 frf:∀b∈ko outer,H b=none
 hok:ca P w H s.heap
 bare:AllBare s.gens
def CE(outer:List Env)(P:Zv)(w:World)(H:Hp)(s:Shared)(Q:VK)(u:Value)(a:Shared):Prop:=
 ∃v H',a.os=s.os/\AllBare a.gens/\Un (ko outer) [] H H' s.heap a.heap/\ca P w H' a.heap/\RelV v u/\Q v H'
def CR(CX:oM)(outer:List Env)(P:Zv)(w:World)(H:Hp)(s:Shared)(Q:VK)(E:XK)(r:Result)(a:Shared):Prop:=
 match r with
 |.ok (.ret u)=>CE outer P w H s Q u a
 |.ok _=>False
 |.error e=>CX outer H s E e a
structure eM (P:Zv) (w:World) (K:Za) (mg:Ze) (base:Heap) (CX:oM) (k:Nat) (f:Addr) (fd:Zu) (ps:Zf) (sp:Sp):Prop where
 len:∀vs H Q E,sp vs H Q E->vs.length=ps.length
 run:∀(A:Around) (outer:List Env) (s:Shared) (H:Hp) (args:Args) (us:Zd) (vs:List V) (Q:VK) (E:XK),bK k A->dv P w K mg base A outer s H->BindsTo s fd args (ps.zip us)->ak vs us->sp vs H Q E ->
  codeAny (model P w) A (.call (.ref f) args) (CR CX outer P w H s Q E) s
theorem dv.make{outer:List Env}(e:dv P w K mg base A outer s H)(C:Addr)(us:Zd)(a:List (Str×Value)):
  dv P w K mg base (A.under (.builtin "type.__call__" ⟨.ref C::us,a⟩)) outer s H:=⟨by first | exact e.frames | (simpa [Around.under,Code.envs,Code.isFrame,pushEnvs] using e.frames),e.mod,e.bs,e.bsz,e.funs,e.frf,e.hok,e.bare⟩
section
variable {X:Cx}{a_:Zc}{σ:St}{H:Hp}{s s':Shared}
theorem ad.env0(I:ad X a_ σ H s):dv X.prog X.w X.K X.mg X.base X.A X.stack s H:=
 ⟨I.ok.frames,I.ok.mod,I.bs,ZW I.ok.bsz I.sz,I.stack,I.stkFree,I.hok,I.bare⟩
theorem ad.after{Q:VK}(I:ad X a_ σ H s)(h:CE X.stack X.prog X.w H s Q u s'):EP X a_ σ Q u s':=by
 obtain⟨v,H',os,bare,un,hok,r,q⟩:=h;obtain⟨a,g,d,t,c⟩:=s';obtain rfl:c=s.os:=os;exact⟨v,H',I.call (h':=a) (g':=g) (d':=d) (t':=t) (ch:=[]) un hok bare (λb z=>absurd z (by simp)),r,q⟩
end
def EM(sp:Sp)(a:List V)(E:XK)(t:TA):TE:=λσ H Q=>t σ H λvs H1=>sp (vs++a) H1 Q E
def J8(C:Addr)(sp:Sp)(a:List V)(E:XK)(t:TA):TE:=λσ H Q=>t σ H λvs H1=>∀x dx,H1 x=none->H1 dx=none->dx≠x ->
 sp (.ref x::(vs++a)) (upd (upd H1 dx (.own x)) x (.ins C dx [])) (λv H2=>v=.non/\Q (.ref x) H2) E
def Binds(K:Za)(fd:Zu)(ps:Zf)(ds:Zd):Prop:=
 ∀(s:Shared) (us:Zd),K.In s.heap->(us++ds).length=ps.length->BindsTo s fd ⟨us,[]⟩ (ps.zip (us++ds))
theorem Binds.all{fd:Zu}(h:∀us:List Value,us.length=ps.length->bindArgs fd ⟨us,[]⟩=pure (ps.zip us)):Binds K fd ps []:=λs us _ hl=>by
 rw[ZA] at hl ⊢;exact .of_eq (h us hl)
def mx(CX:oM)(X:Cx)(E:XK):Prop:=∀(a_:Zc) (σ:St) (H:Hp) (s:Shared) (e:Value) (a:Shared),ad X a_ σ H s->CX X.stack H s E e a->X.xe e a
section
variable {X:Cx}{CX:oM}{k:Nat}{f C:Addr}{fd:Zu}{ps:Zf}{sp:Sp}{Mz:List V}{ds:Zd}{E:XK}{x m:Str}{p pos n_:Pos}{e o:Expr}{es:Zg}{ta:TE}{t:TA}
def ur{Q:VK}(F:eM X.prog X.w X.K X.mg X.base CX k f fd ps sp)(a:bK k X.A)(hb:Binds X.K fd ps ds)(hd:ak Mz ds)(hx:mx CX X E)
  (I:ad X a_ σ H s) (r:ak vs us) (h:sp (vs++Mz) H Q E):wpAny 'b' X.A (call (.ref f) us) (EP X a_ σ Q) X.xe s:=by
 have r2:ak (vs++Mz) (us++ds):=r.append hd;have hl:(us++ds).length=ps.length:=by rw[←r2.length];exact F.len _ _ _ _ h
 refine wpAny_call (codeAny_mono (F.run X.A X.stack s H ⟨us,[]⟩ (us++ds) (vs++Mz) Q E a I.env0 (hb s us I.kIn hl) r2 h) λr c hq=>?_);cases r with
 |error e=>exact hx a_ σ H s e c I hq
 |ok fl=>
  cases fl with
  |ret u=>exact I.after hq
  |next=>exact Yh hq
  |brk=>exact Yh hq
  |cont=>exact Yh hq
def FF(F:eM X.prog X.w X.K X.mg X.base CX k f fd ps sp)(c:bK k X.A)(l:Gl X x)(hm:X.mg x=some (.ref f))(hk:PySem.W.keepIn X.K (.ref f)=true)(hb:Binds X.K fd ps ds)(hd:ak Mz ds)(hx:mx CX X E)
  (ha:PA X (e::es) t) (n:(x==("__debug__" : Str))=false:=by decide) (B:starEach (e::es) X.env=(false,eval e X.env)::starEach es X.env:=by rfl) (G:(backTo pos (starEach es X.env)).any (·.1)=false:=by rfl):
  PE X (.Call (.Name x p) (e::es) [] pos) (EM sp Mz E t):=by
 intro a_ s σ H Q I h;refine wpAny_Call_Name_kw (rV I l hm ?_ n);refine PySem.W.callWith_K (h₀:=X.base) I.ok.mod.kin hk (aL (ha pos a_ s σ H _ I h) λus s1 J=>?_) B G;obtain⟨vs,H1,a,r,q⟩:=J;refine⟨a.kIn,?_⟩;exact ur F c hb hd hx a r q
structure Mk (K:Za) (C f:Addr):Prop where
 makes:PySem.W.makesIn K C=true
 init:PySem.W.findIn K (.ref C) "__init__" = some (some (.ref f))
 fn:PySem.W.isFn K (.ref f)=true
 kp:PySem.W.keepIn K (.ref C)=true
def B0{Q:VK}(M:Mk X.K C f)(F:eM X.prog X.w X.K X.mg X.base CX k f fd ps sp)(l:bK (k+1) X.A)(hb:Binds X.K fd ps ds)(hd:ak Mz ds)
  (hx:mx CX X E) (I:ad X a_ σ H s) (r:ak vs us)
  (h:∀x dx,H x=none->H dx=none->dx≠x->sp (.ref x::(vs++Mz)) (upd (upd H dx (.own x)) x (.ins C dx [])) (λv H2=>v=.non/\Q (.ref x) H2) E):
  wpAny 'b' X.A (call (.ref C) us) (EP X a_ σ Q) X.xe s:=by
 have hq:=h (s.heap.objs.size+1) s.heap.objs.size (I.hok.fresh (YM _)) (I.hok.fresh (YF _)) (ZT (Nat.lt_succ_self _));have c:=ad.made (C:=C) I;have r2:ak (V.ref (s.heap.objs.size+1)::(vs++Mz)) (Value.ref (s.heap.objs.size+1)::(us++ds)):=.cons rfl (r.append hd);have hl:(Value.ref (s.heap.objs.size+1)::us++ds).length=ps.length:=by
  have e:=r2.length;rw[F.len _ _ _ _ hq] at e;exact e.symm
 refine wpAny_call (BY (f:=f) I.kIn M.makes M.init (beq_iff_eq.mp M.fn) (codeAny_mono (F.run _ X.stack _ _ ⟨Value.ref (s.heap.objs.size+1)::us,[]⟩ (Value.ref (s.heap.objs.size+1)::(us++ds)) _ _ E (l.make C us [])
  (c.env0.make C us []) (hb _ (Value.ref (s.heap.objs.size+1)::us) c.kIn hl) r2 hq) λr n a=>?_))
 cases r with
 |error e=>exact hx a_ σ _ _ e n c a
 |ok fl=>
  cases fl with
  |ret u=>
   obtain⟨v,H',B,G,J,q3⟩:=c.after a;subst J;exact⟨G,⟨V.ref (s.heap.objs.size+1),H',B,rfl,q3⟩⟩
  |next=>exact Yh a
  |brk=>exact Yh a
  |cont=>exact Yh a
def FG(M:Mk X.K C f)(F:eM X.prog X.w X.K X.mg X.base CX k f fd ps sp)(c:bK (k+1) X.A)(l:Gl X x)(hm:X.mg x=some (.ref C))(hb:Binds X.K fd ps ds)(hd:ak Mz ds)(hx:mx CX X E)
  (ha:PA X (e::es) t) (n:(x==("__debug__" : Str))=false:=by decide) (B:starEach (e::es) X.env=(false,eval e X.env)::starEach es X.env:=by rfl) (G:(backTo pos (starEach es X.env)).any (·.1)=false:=by rfl):
  PE X (.Call (.Name x p) (e::es) [] pos) (J8 C sp Mz E t):=by
 intro a_ s σ H Q I h;refine wpAny_Call_Name_kw (rV I l hm ?_ n);refine PySem.W.callWith_K (h₀:=X.base) I.ok.mod.kin M.kp (aL (ha pos a_ s σ H _ I h) λus s1 J=>?_) B G;obtain⟨vs,H1,a,r,q⟩:=J;refine⟨a.kIn,?_⟩;exact B0 M F c hb hd hx a r q
end
structure bX (N P:Zf) (sc:Scope):Prop where
 kind:sc.kind=.function
 co:sc.isCoroutine=false
 gen:sc.isGenerator=false
 nd:N.Nodup
 pre:N.take P.length=P
 par:∀x∈P,sc.names.lookup x=some .local \/ sc.names.lookup x=some .cell
 nofree:∀y∈sc.names,y.2≠.free
theorem sO{kindOf:Str->Option NameKind}{x:Str}:∀{binds:List (Str×Value)}{m:Ze},(∀v,(x,v)∉binds)->bindL kindOf binds m x=m x
 |[],_,_=>rfl
 |(n,v)::r,m,h=>by
  unfold bindL;rw[sO λw hw=>h w (ZY _ hw)];split
  .have:x≠n:=by rintro rfl;exact h v ZX
   simp[this]
  .rfl
theorem sQ{kindOf:Str->Option NameKind}{x:Str}:∀{binds:List (Str×Value)}{m:Ze},(∀v,(x,v)∉binds)->bindC kindOf binds m x=m x
 |[],_,_=>rfl
 |(n,v)::r,m,h=>by
  unfold bindC;rw[sQ λw hw=>h w (ZY _ hw)];split
  .rfl
  .have:x≠n:=by rintro rfl;exact h v ZX
   simp[this]
theorem sR{kindOf:Str->Option NameKind}{x:Str}{v:Value}:∀{P:Zf}{vs:Zd}{i:Nat}{m:Ze},P.Nodup->P[i]?=some x->vs[i]?=some v->kindOf x=some .local ->
  bindL kindOf (P.zip vs) m x=some v
 |[],_,_,_,_,h,_,_=>by simp at h
 |_::_,[],_,_,_,_,h,_=>by simp at h
 |p::P,w::vs,0,m,nd,h1,a,hk=>by
  simp at h1 a;subst h1;subst a;show bindL kindOf ((p,w)::P.zip vs) m p=_;unfold bindL;rw[sO λv hv=>(YN.mp nd).1 (List.of_mem_zip hv).1,if_pos hk];simp
 |p::P,w::vs,i+1,m,nd,h1,a,hk=>by
  show bindL kindOf ((p,w)::P.zip vs) m x=_;unfold bindL;exact sR (i:=i) (YN.mp nd).2 (by simpa using h1) (by simpa using a) hk
theorem sU{kindOf:Str->Option NameKind}{x:Str}{v:Value}:∀{P:Zf}{vs:Zd}{i:Nat}{m:Ze},P.Nodup->P[i]?=some x->vs[i]?=some v->kindOf x≠some .local ->
  bindC kindOf (P.zip vs) m x=some v
 |[],_,_,_,_,h,_,_=>by simp at h
 |_::_,[],_,_,_,_,h,_=>by simp at h
 |p::P,w::vs,0,m,nd,h1,a,hk=>by
  simp at h1 a;subst h1;subst a;show bindC kindOf ((p,w)::P.zip vs) m p=_;unfold bindC;rw[sQ λv hv=>(YN.mp nd).1 (List.of_mem_zip hv).1,if_neg hk];simp
 |p::P,w::vs,i+1,m,nd,h1,a,hk=>by
  show bindC kindOf ((p,w)::P.zip vs) m x=_;unfold bindC;exact sU (i:=i) (YN.mp nd).2 (by simpa using h1) (by simpa using a) hk
def start(N:Zf)(vs:List V):St:=vs.map some++List.replicate (N.length-vs.length) none
def my(CX:oM)(P:Zv)(w:World)(K:Za)(mg:Ze)(base:Heap)(N:Zf)(i':Str)(scope:Scope)(f:Addr)(cd:Value)(A:Around)(outer:List Env)(s:Shared)(H:Hp)(E:XK):Cx where
 prog:=P
 w:=w
 K:=K
 mg:=mg
 base:=base
 A:=A.deeper (envOfC i' scope s.heap.objs.size f cd)
 N:=N
 s₀:=s
 H₀:=H
 env:=envOfC i' scope s.heap.objs.size f cd
 outer:=outer
 stack:=envOfC i' scope s.heap.objs.size f cd::outer
 ex:=[]
 calm:=true
 fn:=λ_=>true
 pn:=[]
 xe:=λe c=>wpAny (model P w) (A.deeper (envOfC i' scope s.heap.objs.size f cd)) (leaving (envOfC i' scope s.heap.objs.size f cd) e) (λ_ a=>CX outer H s E e a) (λe' a=>CX outer H s E e' a) c
def ut{sc:Scope}{n:Nat}(h:sc.names.lookup x=some .cell):∃c,(cellsFrom n sc.names []).lookup x=some c:=by
 have q:=PySem.W.cellsFrom_some sc.names n [] (.inl h);exact Option.isSome_iff_exists.mp q
theorem Ad{outer:List Env}{E:XK}
  (S:bX N ps scope) (hd:A.handled=none) (m:dv P w K mg base A outer s H) (hl:vs.length=ps.length) (r:ak vs us)
  (x:InCallC s s.heap.objs.size (bindL (envOfC i' scope s.heap.objs.size b cd).kindOf (ps.zip us) λ_=>none) (cellsFrom (s.heap.objs.size+1) scope.names []) (bindC (envOfC i' scope s.heap.objs.size b cd).kindOf (ps.zip us) λ_=>none) s1):
  ad (my CX P w K mg base N i' scope b cd A outer s H E) [] (start N vs) H s1:=by
 have I:ps.length<=N.length:=by have:=congrArg List.length S.pre;rw[YR] at this;omega
 obtain⟨h1,tk,rfl,hk⟩:=x.done;have B:∀f:Addr,f∉(my CX P w K mg base N i' scope b cd A outer s H E).ex:=λf z=>absurd (show f∈([]:List Addr) from z) (by simp)
 refine⟨⟨m.mod,S.kind,rfl,rfl,YF _,λy z c h1 l=>?_,λy hy=>?_,λy c _ h=>?_,λ_=>hd,Around.frames_deeper m.frames,.inr ⟨rfl,rfl⟩,λf z=>absurd z (B f),m.bs,m.bsz,λf _ _=>B f,λf z=>absurd z (B f),m.funs,m.frf⟩,
  rfl,m.bare,Un.kept hk,⟨_,x.toInCall.ns,λi y v h1 l J=>?_⟩,λy c h=>⟨_,x.cell y c h⟩,m.hok.fresh (YF _),λy c h=>?_,λp hp=>absurd (show p∈([]:List (Addr×Obj)) from hp) (by simp),m.hok.kept hk,?_⟩
 .exact name_of_addr x.apart (PySem.mem_of_lookup h1) (PySem.mem_of_lookup l)
 .have hy:scope.names.lookup y=some .cell\/scope.names.lookup y=some .free:=hy
  rcases hy with hy | hy
  .exact ut hy
  .exact absurd rfl (S.nofree _ (PySem.mem_of_lookup hy))
 .exact Nat.le_of_lt (x.above y c (PySem.mem_of_lookup h))
 .have hi:i<vs.length:=by
   unfold start at l;by_cases hi:i<vs.length
   .exact hi
   .rw[ZH (by simpa using hi)] at l
    rw[List.getElem?_replicate] at l;split at l<;>cases l
  have ha:vs[i]?=some v:=by
   unfold start at l;rw[ZE (by simpa using hi),ZG] at l;cases e:vs[i]? with
   |none=>rw[e] at l;cases l
   |some a=>rw[e] at l;cases l;rfl
  obtain⟨u,hu,G⟩:=r.get ha;have hp:ps[i]?=some y:=by
   rw[←S.pre,List.getElem?_take_of_lt 'a'];exact h1
  have F:ps.Nodup:=by rw[←S.pre];exact S.nd.sublist (List.take_sublist _ _)
  refine⟨u,G,?_⟩;rcases S.par y (YS hp) with k | k
  .exact .inl ⟨k,sR F hp hu k⟩
  .obtain⟨c,e⟩:=ut (n:=s.heap.objs.size+1) k
   refine .inr ⟨.inl k,c,e,?_⟩;have q:=x.cell y c e;rw[sU F hp hu (by show scope.names.lookup y≠_;rw[k];decide)] at q;exact q
 .exact m.hok.fresh (Nat.le_of_lt (x.above y c (PySem.mem_of_lookup h)))
 .unfold start
  show _=N.length;rw[ZK,ZF,List.length_replicate];omega
def J9{a:Arguments}{oc:Value}{od:Zm}
  {J_:Zn}{sp:Sp}(L:K.lookup b=some ⟨oc,od,.func (PySem.W.fnOf x i' a body scope dV cd v_ pm an r_ ct),J_⟩) (O:PySem.W.codeIn K r_ i'=true) (S:bX N ps scope)
  (len:∀vs H Q E,sp vs H Q E->vs.length=ps.length)
  (R:∀(A:Around) (outer:List Env) (s:Shared) (H:Hp) (vs:List V) (Q:VK) (E:XK),bK i (A.deeper (envOfC i' scope s.heap.objs.size b r_))->sp vs H Q E ->
   ∃t,jE (my CX P w K mg base N i' scope b r_ A outer s H E) body t/\t { nx:=λ_ H'=>Q .non H',rt:=Q } (start N vs) H):
  eM P w K mg base CX (i+1) b (PySem.W.fnOf x i' a body scope dV cd v_ pm an r_ ct) ps sp:=by
 refine⟨len,λA outer s H args us vs Q E l c hb r F=>?_⟩;have hl:=len _ _ _ _ F;have G:K.In s.heap:=c.mod.kin.keeps λkV o e=>(c.bs kV o e).1
 have m:s.heap.NoLimit:=c.mod.nolimit.keeps λkV o e=>(c.bs kV o e).1
 have T:∀y∈ps.zip us,scope.names.lookup y.1=some .local \/ (scope.names.lookup y.1=some .cell/\((cellsFrom (s.heap.objs.size+1) scope.names []).lookup y.1).isSome=true):=λ⟨n,v⟩ hy=>by
  rcases S.par n (List.of_mem_zip hy).1 with q | q
  .exact .inl q
  .exact .inr ⟨q,PySem.W.cellsFrom_some _ _ _ (.inl q)⟩
 refine codeAny_call_function l.depth (G _ _ L) rfl S.co S.gen rfl (PySem.W.codeRec_of G O) (hb _ _ _ _ ?_);refine wpAny_newFunctionEnv_cells S.kind T λenv U s1 name=>?_
 subst U;refine⟨m.keeps name.toInCall.keep,codeAny_func ?_⟩;obtain⟨t,ht,hq⟩:=R A outer s H vs Q E (l.deeper _) F;have I:ad (my CX P w K mg base N i' scope b r_ A outer s H E) [] (start N vs) H s1:=Ad S l.hd c hl r name;refine wpAny_mono (ht [] s1 (start N vs) H _ I hq) (λfl p hs=>?_) λe p hs=>hs
 have fin:∀{k:St}{H':Hp}{v:V}{u:Value},ad (my CX P w K mg base N i' scope b r_ A outer s H E) [] k H' p->RelV v u->Q v H'->CE outer P w H s Q u p:=
  λ{k H' v u} J B q=>⟨v,H',J.os,J.bare,J.base,J.hok,B,q⟩
 cases fl with
 |ret u=>
  obtain⟨v,k,H',J,B,q⟩:=hs;exact fin J B q
 |next=>
  obtain⟨k,H',J,q⟩:=hs;exact fin (v:=V.non) (u:=Value.none) J rfl q
 |brk=>
  obtain⟨_,_,_,q⟩:=hs;exact Yh q
 |cont=>
  obtain⟨_,_,_,q⟩:=hs;exact Yh q
section
variable {X:Cx}{x:Str}{p pos:Pos}{e:Expr}{es:Zg}{t:TA}{id T:String}{r:List V->Hp->VK->Prop}
def Ky(r:List V->Hp->VK->Prop)(t:TA):TE:=λσ H Q=>t σ H λvs H1=>r vs H1 Q
def B8(hc:dA X (.builtin id) r)(a:Gl X x)(hm:X.mg x=none)(hv:bootBuiltins x=some (.builtin id))(ha:PA X (e::es) t)(hn:x ≠ "__name__":=by decide)(c:(x==("__debug__" : Str))=false:=by decide)
  (k:starEach (e::es) X.env=(false,eval e X.env)::starEach es X.env:=by rfl) (l:(backTo pos (starEach es X.env)).any (·.1)=false:=by rfl):PE X (.Call (.Name x p) (e::es) [] pos) (Ky r t):=by
 intro a_ s σ H Q I h;refine wpAny_Call_Name_kw (cE I a hm hv ?_ hn c);refine PyProof.Rows.callWith_builtin1 (aL (ha pos a_ s σ H _ I h) λus s1 m=>?_) k l;obtain⟨vs,H1,n,r1,q1⟩:=m;exact hc a_ s1 σ H1 vs us Q n r1 q1
def Ae(hc:dA X (.type T) r)(a:Gl X x)(hm:X.mg x=none)(hv:bootBuiltins x=some (.type T))(ha:PA X (e::es) t)(hn:x ≠ "__name__":=by decide)(c:(x==("__debug__" : Str))=false:=by decide)
  (k:starEach (e::es) X.env=(false,eval e X.env)::starEach es X.env:=by rfl) (l:(backTo pos (starEach es X.env)).any (·.1)=false:=by rfl):PE X (.Call (.Name x p) (e::es) [] pos) (Ky r t):=by
 intro a_ s σ H Q I h;refine wpAny_Call_Name_kw (cE I a hm hv ?_ hn c);refine PyProof.Rows.callWith_type1 (aL (ha pos a_ s σ H _ I h) λus s1 m=>?_) k l;obtain⟨vs,H1,n,r1,q1⟩:=m;exact hc a_ s1 σ H1 vs us Q n r1 q1
end
end L2
namespace HT
open PySem PyProof.Rows
variable {t b:Addr}{lo hi:Zp}{Q:Zb}{vl vu:Value}{c_ y_:Zl}{ms:Zi}{ws:Zd}
def lexLt:List Int->List Int->Bool
 |[],[]=>false
 |[],_::_=>true
 |_::_,[]=>false
 |x::xs,y::ys=>if x=y then lexLt xs ys else decide (x<y)
def k6(x y:Int)(xs ys:Zi):lexLt (x::xs) (y::ys)=if x=y then lexLt xs ys else decide (x<y):=rfl
def lL:lexLt [] []=false:=rfl
def rW(y:Int)(ys:Zi):lexLt [] (y::ys)=true:=rfl
def rX(x:Int)(xs:Zi):lexLt (x::xs) []=false:=rfl
def B9(A:Around)(s:Shared)(a:Int)(t:Tok)(c:Int)(u:Tok):∃e,SeqAt.EqAt A s (.int a t) (.int c u) e/\(e=true↔a=c):=
 ⟨(a==c),SeqAt.EqAt.int_int a t c u,by simp⟩
def Ca(A:Around)(s:Shared)(a:Int)(t:Tok)(c:Int)(u:Tok)(prog:Zv)(w:World)(E:Zb)(Q:Zb)(h:Q (.bool (decide (a<c))) s):
  wpAny 'e' A (richCompare .Lt (.int a t) (.int c u)) Q E s:=
 (PyProof.Rows.lt_int h:wpAny 'e' A (compareOp .Lt (.int a t) (.int c u)) Q E s)
section
open PySem.SeqAt
open PySem.AutoSeq1 (wpAny_loadPart')
open PySem.MeetsSeq PySem.MeetsSeq2 PySem.MeetsSeq3
theorem tN(l b:Addr)(c_ y_:Zl)(n r:Nat)(B C:Zm)(sl E:Zn)(ns ms:Zi)(hi:IntsAre c_.toList ns)(m:IntsAre y_.toList ms):
  Meets (Builtin.«tuple.__lt__» ⟨[.ref l,.ref b],[]⟩)
   (λ_ R s=>s.heap.get? l=some { cls:=.type "tuple",dict:=B,data:=.seq c_ n,slots:=sl }/\s.heap.get? b=some { cls:=.type "tuple",dict:=C,data:=.seq y_ r,slots:=E } /\
    R (.ok (.ret (.bool (lexLt ns ms)))) s):=
 .of_wp λprog w A R s h=>by
  obtain⟨hp,g,d,tk,os⟩:=s;obtain⟨hl,hb,h⟩:=h;have K:=AutoSeq1.sub_tuple_tuple;have L:c_.size=ns.length:=by rw[←hi.length];simp
  have O:y_.size=ms.length:=by rw[←m.length];simp
  wp_walk using wpAny_loadPart' hl,wpAny_loadPart' hb,wpAny_forIn_list _ (λrest b k=>b.1=none/\k=⟨hp,g,d,tk,os⟩/\∃(vs ws:Zd) (f j:Zi),rest=vs.zip ws /\
   IntsAre vs f/\IntsAre ws j/\f.length+y_.size=j.length+c_.size/\R (.ok (.ret (.bool (lexLt f j)))) ⟨hp,g,d,tk,os⟩) _
  case turn=>
   rintro⟨y,x⟩ rest b k ⟨MA,rfl,vs,ws,f,j,hz,hvi,hwi,f_,hR⟩;cases hvi with
   |nil=>rw[List.zip_nil_left] at hz;cases hz
   |cons a t F=>
    cases hwi with
    |nil=>rw[List.zip_nil_right] at hz;cases hz
    |cons c u G=>
     rw[List.zip_cons_cons] at hz;injection hz with hyx hrest
     injection hyx with hy hx
     subst hy hx;rw[k6] at hR;simp only[YI] at f_;obtain⟨e,I,p⟩:=B9 A.in1 ⟨hp,g,d,tk,os⟩ a t c u;refine Yb (I prog w _ _ ?_);cases e with
     |true=>
      rw[if_pos (p.mp rfl)] at hR;wp_walk;exact⟨rfl,rfl,_,_,_,_,hrest,F,G,by omega,hR⟩
     |false=>
      rw[if_neg (λq=>absurd (p.mpr q) YE)] at hR;have J:=Ca A.in1 ⟨hp,g,d,tk,os⟩ a t c u prog w;wp_walk using J;exact⟨_,rfl,by simpa using hR⟩
  case fin=>
   rintro⟨b1,b2⟩ k ⟨MA,rfl,vs,ws,f,j,hz,hvi,hwi,f_,hR⟩;simp only at MA;subst MA;have hv:lexLt f j=decide (c_.size<y_.size):=by
    cases hvi with
    |nil=>
     cases hwi with
     |nil=>
      simp only[YT] at f_;rw[lL];exact(ZP 'a').symm
     |cons c u hw=>
      simp only[YT,YI] at f_;rw[rW];exact(YU 'a').symm
    |cons a t hv=>
     cases hwi with
     |nil=>
      simp only[YT,YI] at f_;rw[rX];exact(ZP 'a').symm
     |cons c u hw=>
      rw[List.zip_cons_cons] at hz;cases hz
   rw[hv] at hR;wp_walk;exact⟨_,rfl,by simpa [Builtin.Tuple.tupleCompareSizes] using hR⟩
  case h=>
   exact⟨rfl,rfl,c_.toList,y_.toList,ns,ms,rfl,hi,m,by omega,h⟩
end
section
variable {prog:Zv}{w:World}{A:Around}{E:Zb}{s:Shared}
def yw{ns:Zi}(hl:IsTup s.heap t c_)(hb:IsTup s.heap b y_)(hi:IntsAre c_.toList ns)(g:IntsAre y_.toList ms)
  (hu:A.units<cLine) (h:Q (.bool (lexLt ns ms)) s):wpAny 'e' A (compareOp .Lt (.ref t) (.ref b)) Q E s:=by
 obtain⟨⟨cls,j,data,sl⟩,ho,hc,n,hd⟩:=id hl;obtain⟨⟨p,k,data2,l⟩,a,c,m,f⟩:=id hb;simp only at hc hd c f;subst hc hd c f;exact richCompare_meets_room (op:=.Lt) ⟨_,ho,rfl⟩ ⟨_,a,rfl⟩ PySem.F.slot_tuple_lt PySem.F.entry_tuple_lt (PySem.F.args_tuple_lt_2 _ _) (tN t b c_ y_ n m j k sl l ns ms hi g)
  ⟨ho,a,show Value.bool (lexLt ns ms)≠Value.notImplemented/\Q (.bool (lexLt ns ms)) s from⟨(λx=>nomatch x),h⟩⟩ hu
def FH{vs:Zd}(ht:IsTup s.heap t vs.toArray)(hb:IsTup s.heap b ws.toArray)(hv:vs≠[])
  (h1:ws=[]->Q (.ref t) s) (m:ws≠[]->Q (.ref s.heap.objs.size) { s with heap:=s.heap.push { cls:=.type "tuple",data:=.seq (vs++ws).toArray } })
  (hsz:vs.length+ws.length<=sizeLine):wpAny 'e' A (binaryOp .Add (.ref t) (.ref b)) Q E s:=by
 obtain⟨⟨cls,c,data,sl⟩,ho,hc,n,hd⟩:=id ht;obtain⟨⟨p,f,data2,g⟩,a,j,k,l⟩:=id hb;simp only at hc hd j l;subst hc hd j l;have e:vs.toArray++ws.toArray=(vs++ws).toArray:=by simp
 by_cases hw:ws=[]
 .exact concat_meets ⟨_,ho,rfl⟩ ⟨_,a,rfl⟩ noFill_tuple_add seq_tuple_add PySem.F.slot_tuple_add PySem.F.entry_tuple_add (PySem.F.args_tuple_add_2 _ _)
   (tuple_addW1 t b vs.toArray ws.toArray n k c f sl g (by simpa using hv) (by simp[hw])) ⟨ho,a,h1 hw⟩
 .refine concat_meets ⟨_,ho,rfl⟩ ⟨_,a,rfl⟩ noFill_tuple_add seq_tuple_add PySem.F.slot_tuple_add PySem.F.entry_tuple_add (PySem.F.args_tuple_add_2 _ _)
   (tuple_addW2 t b vs.toArray ws.toArray n k c f sl g (by simpa using hv) (by simpa using hw) (by rw[YH,YH];exact hsz)) ⟨ho,a,?_⟩
  rw[e];exact m hw
def aR(n d:Nat):Option Int->Nat
 |none=>d
 |some v=>if v<0 then(v+(n:Int)).toNat else min v.toNat n
def Cb(n d:Nat):aR n d none=d:=rfl
theorem rY(n d k:Nat):aR n d (some (k:Int))=min k n:=by
 show(if(k:Int)<0 then((k:Int)+(n:Int)).toNat else min (k:Int).toNat n)=min k n;rw[if_neg 'a',YV]
theorem HS(n d:Nat)(hd:d<=n)(o:Zp):aR n d o<=n:=by
 cases o with
 |none=>exact hd
 |some v=>
  show(if v<0 then(v+(n:Int)).toNat else min v.toNat n)<=n;by_cases hv:v<0
  .rw[if_pos hv];omega
  .rw[if_neg hv];exact Nat.min_le_right _ _
theorem w4(v:Int)(n d:Nat):(if v<0 then max (v+(n:Int)) 0 else min v (n:Int))=((aR n d (some v):Nat):Int):=by
 show(if v<0 then max (v+(n:Int)) 0 else min v (n:Int))=(((if v<0 then(v+(n:Int)).toNat else min v.toNat n):Nat):Int);by_cases hv:v<0
 .simp only[if_pos hv];omega
 .simp only[if_neg hv];omega
theorem yx(lo hi:Zp)(n:Nat):Builtin.Slice.sliceAdjust lo hi 1 (n:Int)=(((aR n 0 lo:Nat):Int),((aR n n hi:Nat):Int)):=by
 have h1:¬((1:Int)<0):=by omega
 unfold Builtin.Slice.sliceAdjust;simp only[h1,if_false];refine Prod.ext ?_ ?_
 .cases lo with
  |none=>rfl
  |some v=>exact w4 v n 0
 .cases hi with
  |none=>rfl
  |some v=>exact w4 v n n
theorem yy(i j:Nat):Builtin.Slice.slicePlaces (i:Int) (j:Int) 1=j-i:=by
 unfold Builtin.Slice.slicePlaces;have h1:(1:Int)>0:=by omega
 simp only[h1,if_true,Int.ediv_one];split<;>omega
def qe{Q:Option Int->Shared->Prop}(p:IsPart vl lo)(h:Q lo s):wpAny 'e' A (Builtin.Slice.slicePartIndex vl) Q E s:=by
 cases p with
 |none=>exact slicePart_none h
 |int i t=>exact slicePart_int h
def i8{n:Nat}{Q:Int×Int×Nat->Shared->Prop}(hs:s.heap.IsSliceOf t vl vu .none)(f:IsPart vl lo)(g:IsPart vu hi)
  (h:Q (((aR n 0 lo:Nat):Int),1,aR n n hi-aR n 0 lo) s):wpAny 'e' A (Builtin.Slice.sliceApplied (.ref t) (pure (n:Int))) Q E s:=by
 obtain⟨os,a,j,c⟩:=id hs;unfold Builtin.Slice.sliceApplied Builtin.Slice.sliceFields;refine Yb (Yb (wpAny_field a c (x:=vl) rfl (Yb (wpAny_field a c (x:=vu) rfl (Yb (wpAny_field a c (x:=.none) rfl (Yc ?_)))))));refine Yb (slicePart_none ?_);show wpAny _ _ (if((1:Int)==0)=true then _ else _) _ _ s;rw[if_neg 'c'];refine Yb (qe f (Yb (qe g (Yb (Yc ?_)))));show wpAny _ _ (match Builtin.Slice.sliceAdjust lo hi 1 (n:Int) with | (lo,hi)=>pure (lo,(1:Int),Builtin.Slice.slicePlaces lo hi 1)) _ _ s;rw[yx lo hi n];show wpAny _ _ (pure (((aR n 0 lo:Nat):Int),(1:Int),Builtin.Slice.slicePlaces ((aR n 0 lo:Nat):Int) ((aR n n hi:Nat):Int) 1)) _ _ s;rw[yy];exact Yc h
theorem Cc(xs:Zl)(i k:Nat):((List.range k).filterMap λ(m:Nat)=>xs[((i:Int)+(m:Int)*1).toNat]?).toArray=((xs.toList.drop i).take k).toArray:=by
 have e:(λ(m:Nat)=>xs[((i:Int)+(m:Int)*1).toNat]?)=λm=>xs[i+m]?:=by
  funext m;have:((i:Int)+(m:Int)*1).toNat=i+m:=by omega
  rw[this]
 rw[e]
 have:=pick_run xs i k
 rw[List.filterMap_map] at this;have a:((λx=>xs[x]?)∘λx=>i+x)=λm=>xs[i+m]?:=rfl
 rw[a] at this;rw[this]
theorem oE(ht:IsTup s.heap t c_)(hs:s.heap.IsSliceOf b vl vu .none)(c:IsPart vl lo)(f:IsPart vu hi)
  (hw:¬(aR c_.size 0 lo=0/\aR c_.size c_.size hi=c_.size))
  (h:Q (.ref s.heap.objs.size) { s with heap:=s.heap.push { cls:=.type "tuple",data:=.seq ((c_.toList.drop (aR c_.size 0 lo)).take (aR c_.size c_.size hi-aR c_.size 0 lo)).toArray } })
  (hsz:c_.size<=sizeLine):wpAny 'e' A (getItem (.ref t) (.ref b)) Q E s:=by
 have a:sizeOk (.seq ((c_.toList.drop (aR c_.size 0 lo)).take (aR c_.size c_.size hi-aR c_.size 0 lo)).toArray):=by
  show((c_.toList.drop (aR c_.size 0 lo)).take (aR c_.size c_.size hi-aR c_.size 0 lo)).toArray.size<=sizeLine;rw[YH,YR,YW,YD];omega
 have n:aR c_.size c_.size hi<=c_.size:=HS _ _ (YF _) hi;obtain⟨os,g,j,p⟩:=id hs;have k:s.TypeIs (.ref b) "slice":=⟨os,g,j⟩;unfold getItem;try with_reducible refine Yj ?_
 first | refine Yb (Yc ?_) | skip
 refine Yb (wpAny_sequenceKey ht.typeIs 'c' ?_);refine Yb (wpAny_callSpecial?_slot (name:=Str.ofString "__getitem__") ht.typeIs PyProof.Rows.slot_tuple_getitem
  (wpAny_call_entry PyProof.Rows.slot_tuple_getitem ht.typeIs entry_tuple_getitem ?_ (args_tuple_getitem _ _)))
 show wpAny _ _ (Builtin.Tuple.tupleItemsOf (.ref t) >>= _) _ _ s;refine Yb (tupleItemsOf_ ht ?_);refine Yb (wpAny_typeOf k ?_);rw[if_pos 'c'];refine Yb (i8 hs c f ?_);have l:¬((((aR c_.size 0 lo:Nat):Int)==0&&(1:Int)==1&&(aR c_.size c_.size hi-aR c_.size 0 lo)==c_.size)=true):=by
  intro q;rw[YX,YX] at q;have q1:((aR c_.size 0 lo:Nat):Int)=0:=eq_of_beq q.1.1;have q2:aR c_.size c_.size hi-aR c_.size 0 lo=c_.size:=eq_of_beq q.2;exact hw ⟨by omega,by omega⟩
 show wpAny _ _ (if(((aR c_.size 0 lo:Nat):Int)==0&&(1:Int)==1&&(aR c_.size c_.size hi-aR c_.size 0 lo)==c_.size)=true then _ else _) _ _ s;rw[if_neg l,Cc];first
  |exact Yb (m:=Builtin.Tuple.tupleExact _) (wpAny_newObj_type (Yc ⟨_,rfl,Yc h⟩) a)
  |exact Yb (m:=Builtin.Tuple.tupleExact _) (wpAny_newObj_type (Yb (Yc (Yc ⟨_,rfl,Yc h⟩))) a)
  |exact Yb (Yb (m:=Builtin.Tuple.tupleExact _) (wpAny_newObj_type (Yc (Yc ⟨_,rfl,Yc h⟩)) a))
  |exact Yb (Yb (m:=Builtin.Tuple.tupleExact _) (wpAny_newObj_type (Yc ⟨_,rfl,Yc h⟩) a))
end
end HT
namespace L2
open PySem PySem.Spec PyProof.Rows
variable {H' H:Hp}{x y:V}{n j:Nat}{u v:Value}{d_ m_:Zd}{Q:Zb}{s:Shared}{P:Zv}{a_:Zc}{σ:St}{b:Addr}{kvs:List (List Key×V)}{w:World}{ob:HO}{xs:List V}{i:Int}{h':Heap}
abbrev TO:=St->Hp->(Option Int->Hp->Prop)->Prop
def PO(X:Cx)(e:Option Expr)(t:TO):Prop:=
 ∀(a_:Zc) (s:Shared) (σ:St) (H:Hp) (Q:Option Int->Hp->Prop),ad X a_ σ H s->t σ H Q ->
  wpAny 'b' X.A (evalPart e X.env) (λu a=>∃o H',ad X a_ σ H' a/\IsPart u o/\Q o H') X.xe s
def FI:TO:=λ_ H Q=>Q none H
def Ka(t:TE):TO:=λσ H Q=>t σ H λx H1=>∃i,x=.int i/\Q (some i) H1
def intsAre_of{ns:Zi}:∀{us:Zd},ak (ns.map V.int) us->IntsAre us ns:=by
 induction ns with
 |nil=>intro us r;rw[YY] at r;cases r;exact .nil
 |cons n ns a=>
  intro us r;rw[YK] at r;cases r with
  |cons r1 r2=>
   obtain⟨t,e⟩:=r1;subst e;exact .cons n t (a r2)
section
variable {X:Cx}{e:Expr}{te:TE}{lo hi:Option Expr}{tl th:TO}{pos p2:Pos}
def FJ:PO X none FI:=by
 intro a_ s σ H Q I h;rw[evalPart_none];exact Yc ⟨none,H,I,.none,h⟩
def FK(h:PE X e te):PO X (some e) (Ka te):=by
 intro a_ s σ H Q I hw;rw[evalPart_some];refine aL (h a_ s σ H _ I hw) λu s1 a=>?_
 obtain⟨x,H1,c,r1,q1⟩:=a;obtain⟨i,rfl,q⟩:=q1;obtain⟨t,rfl⟩:=r1;exact⟨some i,H1,c,.int i t,q⟩
def w9(X:Cx)(r:V->Option Int->Option Int->Hp->VK->Prop):Prop:=
 ∀(a_:Zc) (s:Shared) (σ:St) (H:Hp) (x:V) (v a c:Value) (lo hi:Zp) (sl:Addr) (Q:VK),ad X a_ σ H s->RelV x v->s.heap.IsSliceOf sl a c .none->IsPart a lo->IsPart c hi->r x lo hi H Q ->
  ∃T id,typeLookup (.type T) "__getitem__" = pure (some (.builtin id))/\s.TypeIs v T/\wpAny 'b' X.A (getItem v (.ref sl)) (EP X a_ σ Q) X.xe s
def LD(r:V->Option Int->Option Int->Hp->VK->Prop)(te:TE)(tl th:TO):TE:=λσ H Q=>te σ H λx H1=>tl σ H1 λl H2=>th σ H2 λu H3=>r x l u H3 Q
def Cd{r:V->Option Int->Option Int->Hp->VK->Prop}(g:w9 X r)(k:PE X e te)(hl:PO X lo tl)(hu:PO X hi th):PE X (.Subscript e (.Slice lo hi none p2) pos) (LD r te tl th):=by
 intro a_ s σ H Q I h;refine Subscript_ (aL (k a_ s σ H _ I h) λv s1 m=>?_);obtain⟨x,H1,p,r1,q1⟩:=m;refine wpAny_Slice (aL (hl a_ s1 σ H1 _ p q1) λc s2 t=>?_);obtain⟨l,H2,B,C,q2⟩:=t;refine aL (hu a_ s2 σ H2 _ B q2) λf a E=>?_
 obtain⟨u,H3,F,G,q3⟩:=E;rw[evalPart_none];refine Yc ?_;have J:ad X a_ σ H3 { a with heap:=a.heap.push { cls:=.type "slice",data:=.fields #[c,f,.none] } }:=F.kept (t':=a.toks) λb ob q=>Yd _ q
 obtain⟨T,id,K,ht,L⟩:=g a_ { a with heap:=a.heap.push { cls:=.type "slice",data:=.fields #[c,f,.none] } } σ H3 x v c f l u a.heap.objs.size Q J r1 (Heap.IsSliceOf.new ..) C G q3;show wpAny 'b' X.A (subscriptTail e (.Slice lo hi none p2) v (.ref a.heap.objs.size)) (EP X a_ σ Q) X.xe { a with heap:=a.heap.push { cls:=.type "slice",data:=.fields #[c,f,.none] } };exact tail_any (ops:=[.ref a.heap.objs.size,v]) ht K L (by with_unfolding_all rfl)
def j8(xs:List V)(lo hi:Zp):List V:=(xs.drop (HT.aR xs.length 0 lo)).take (HT.aR xs.length xs.length hi-HT.aR xs.length 0 lo)
theorem oN(xs:List V)(lo hi:Zp):(j8 xs lo hi).length<=xs.length:=by
 unfold j8;rw[YR,YW];omega
def Lb(K:Za):V->Option Int->Option Int->Hp->VK->Prop:=λx lo hi H Q=>∃a xs,x=.ref a/\bf K H a xs /\
 ¬(HT.aR xs.length 0 lo=0/\HT.aR xs.length xs.length hi=xs.length)/\∀p,H p=none->Q (.ref p) (upd H p (.tup (j8 xs lo hi)))
def HU:w9 X (Lb X.K):=by
 intro a_ s σ H x v l m lo hi sl Q I f hs g k h;obtain⟨a,xs,rfl,hx,hw,q⟩:=h;cases f;obtain⟨d_,r,ht,hz⟩:=I.tuple hx;have c:d_.toArray.size=xs.length:=by rw[YH];exact r.length.symm
 refine⟨"tuple",_,PyProof.Rows.slot_tuple_getitem.lookup,ht.typeIs,?_⟩;refine HT.oE ht hs g k (by rw[c];exact hw) ?_ (by rw[c];exact hz);rw[c];refine⟨.ref s.heap.objs.size,_,I.laid (t':=s.toks) (o:=.tup (j8 xs lo hi)) (λb ob q=>Yd _ q) (YF _) ?_,rfl,q _ (I.hok.fresh (YF _))⟩;exact⟨ZW (oN xs lo hi) hz,_,(r.drop (HT.aR xs.length 0 lo)).take (HT.aR xs.length xs.length hi-HT.aR xs.length 0 lo),j7.new _ _⟩
def Kb(K:Za):R2:=λx y H Q=>∃a b xs ys,x=.ref a/\y=.ref b/\bf K H a xs/\bf K H b ys/\xs≠[]/\xs.length+ys.length<=sizeLine /\
 (ys=[]->Q (.ref a) H)/\(ys≠[]->∀p,H p=none->Q (.ref p) (upd H p (.tup (xs++ys))))
theorem ak.nil_iff(r:ak xs d_):d_=[]↔xs=[]:=by
 cases r with
 |nil=>simp
 |cons _ _=>simp
def FM:cA X (binaryOp .Add) (Kb X.K):=by
 intro a_ s σ H x y v u Q I c f h;obtain⟨a,b,xs,ys,rfl,rfl,ha,hb,hx,hz,q1,q2⟩:=h;cases c;cases f;obtain⟨d_,r1,p1,_⟩:=I.tuple ha;obtain⟨g,r2,p2,_⟩:=I.tuple hb;refine HT.FH p1 p2 (λz=>hx (r1.nil_iff.mp z)) (λz=>⟨.ref a,H,I,rfl,q1 (r2.nil_iff.mp z)⟩) (λz=>?_) (by rw[←r1.length,←r2.length];exact hz);refine⟨.ref s.heap.objs.size,_,I.laid (t':=s.toks) (o:=.tup (xs++ys)) (λb ob q=>Yd _ q) (YF _) ?_,rfl,q2 (λw=>z (r2.nil_iff.mpr w)) _ (I.hok.fresh (YF _))⟩;exact⟨by rw[ZK];exact hz,_,r1.append r2,j7.new _ _⟩
end
def ku(n:Nat)(i:Int):Option Nat:=if 0<=i then(if i<n then some i.toNat else none) else if -(n:Int)<=i then some (i+n).toNat else none
def bY{a:Type}(xs:List a)(i:Int):Option a:=(ku xs.length i).bind λj=>xs[j]?
theorem xa(h:ku n i=some j):seqIndex? i n=some j/\j<n/\-(n:Int)<=i/\i<n:=by
 unfold ku at h;by_cases a:0<=i
 .rw[if_pos a] at h
  by_cases h1:i<n
  .rw[if_pos h1] at h
   have e:i.toNat=j:=Yi h;exact⟨by rw[seqIndex_of a h1,e],by omega,by omega,h1⟩
  .rw[if_neg h1] at h;cases h
 .rw[if_neg a] at h
  by_cases h1:-(n:Int)<=i
  .rw[if_pos h1] at h
   have e:(i+n).toNat=j:=Yi h;exact⟨by rw[seqIndex_neg 'a' h1,e],by omega,h1,by omega⟩
  .rw[if_neg h1] at h;cases h
def xb{a:Type}{xs:List a}{v:a}(h:bY xs i=some v):∃j,seqIndex? i xs.length=some j/\xs[j]?=some v/\j<xs.length/\-(xs.length:Int)<=i/\i<xs.length:=by
 unfold bY at h;cases e:ku xs.length i with
 |none=>rw[e] at h;cases h
 |some j=>
  rw[e] at h;obtain⟨h1,c,f,g⟩:=xa e;exact⟨j,h1,h,c,f,g⟩
theorem bQ{a:Type}{xs:List a}{v:a}(h:xs[j]?=some v):bY xs (j:Int)=some v:=by
 have c:j<xs.length:=(YC.mp h).1;have e:ku xs.length (j:Int)=some j:=by
  unfold ku;rw[if_pos 'a',if_pos 'a'];simp
 unfold bY;rw[e];exact h
def xc(b:Expr):Prop:=∀o i,subscripted b false o i=operate [o,i] (getItem o i)
def xf(X:Cx)(r:R2):Prop:=
 ∀(c a:Expr) (a_:Zc) (s:Shared) (σ:St) (H:Hp) (x y:V) (v u:Value) (Q:VK),ad X a_ σ H s->RelV x v->RelV y u->r x y H Q ->
  subscripted a false v u=operate [v,u] (getItem v u)->wpAny 'b' X.A (subscriptTail c a v u) (EP X a_ σ Q) X.xe s
def Af(X:Cx)(id:String)(r:V->List V->Hp->VK->Prop):Prop:=
 ∀(a_:Zc) (s:Shared) (σ:St) (H:Hp) (x:V) (xs:List V) (v:Value) (us:Zd) (Q:VK),ad X a_ σ H s->RelV x v->ak xs us->r x xs H Q ->
  wpAny 'b' X.A (call (.builtin id) (v::us)) (EP X a_ σ Q) X.xe s
section
variable {X:Cx}{a b:Expr}{ta tb:TE}{pos:Pos}
def EN{r:R2}(c:xf X r)(ha:PE X a ta)(hb:PE X b tb)(hs:xc b):PE X (.Subscript a b pos) (EK r ta tb):=by
 intro a_ s σ H Q I h;exact Subscript_ (BU ha hb I h λv u s2 x y H2 f g k q=>c a b a_ s2 σ H2 x y v u Q f g k q (hs _ _))
def Lc(K:Za):R2:=λx y H Q=>∃p xs i v,x=.ref p/\y=.int i/\aX K H p xs/\bY xs i=some v/\Q v H
def Ld(K:Za):R2:=λx y H Q=>∃p xs i v,x=.ref p/\y=.int i/\bf K H p xs/\bY xs i=some v/\Q v H
theorem xg:xf X (Lc X.K):=by
 intro c f a_ s σ H x y v u Q I A B h hs;obtain⟨p,xs,i,z,rfl,rfl,hq,C,q⟩:=h;cases A;obtain⟨t,rfl⟩:=B;obtain⟨d_,r,g,hz⟩:=I.list hq;obtain⟨j,h1,E,O,F,G⟩:=xb C;obtain⟨w,l,J⟩:=r.get E;have hl:=r.length;have hn:=kt;have fin:EP X a_ σ Q w s:=⟨z,H,I,J,q⟩;by_cases m:0<=i
 .have k:i.toNat=j:=by
   rw[seqIndex_of m G] at h1;exact Yi h1
  exact item_listR g.isList m 'a' (by rw[k];simpa using l) fin hs
 .have k:(i+(d_.toArray.size:Int)).toNat=j:=by
   rw[seqIndex_neg 'a' F] at h1;rw[YH,←hl];exact Yi h1
  exact subscriptTail_builtinR (x:=w) g.isList.typeIs slot_list_getitem.lookup
   (wpAny_getItem_list_neg (Q:=λr L=>r=w/\EP X a_ σ Q r L) g.isList 'a' (by rw[YH]<;>omega) 'a' (by rw[k];simpa using l) ⟨rfl,fin⟩) hs
theorem HV:xf X (Ld X.K):=by
 intro c f a_ s σ H x y v u Q I k l h hs;obtain⟨p,xs,i,z,rfl,rfl,hq,m,q⟩:=h;cases k;obtain⟨t,rfl⟩:=l;obtain⟨d_,r,g,hz⟩:=I.tuple hq;obtain⟨j,h1,A,F,G,J⟩:=xb m;obtain⟨w,B,C⟩:=r.get A;have hl:=r.length;have hn:=kt;have fin:EP X a_ σ Q w s:=⟨z,H,I,C,q⟩;exact subscriptTail_builtinR (x:=w) g.typeIs slot_tuple_getitem.lookup
  (getItem_tuple (j:=j) (Q:=λr E=>r=w/\EP X a_ σ Q r E) g 'a' 'a' (by rw[YH,←hl];exact h1) (by simpa using B) ⟨rfl,fin⟩) hs
def yz(d_:Zd)(n j:Nat)(u:Value):Obj.mapSeq (·.setIfInBounds j u) { cls:=.type "list",data:=.seq d_.toArray n }={ cls:=.type "list",data:=.seq (d_.set j u).toArray n }:=by
 simp[Obj.mapSeq]
theorem ad.lst{a_:Zc}{σ:St}{H:Hp}{s:Shared}{p:Addr}{xs:List V}(I:ad X a_ σ H s)(h:H p=some (.lst xs)):
  ∃(d_:Zd) (n:Nat),ak xs d_/\s.heap.get? p=some { cls:=.type "list",data:=.seq d_.toArray n }/\xs.length<=sizeLine:=by
 obtain⟨z,d_,n,r,e⟩:=I.hok p _ h;exact⟨d_,n,r,e,z⟩
theorem ad.lstUpd{p:Addr}{ys:List V}{f:Obj->Obj}(I:ad X a_ σ H s)(h:H p=some (.lst xs))
  (ho:s.heap.get? p=some { cls:=.type "list",data:=.seq d_.toArray n }) (c:f { cls:=.type "list",data:=.seq d_.toArray n }={ cls:=.type "list",data:=.seq m_.toArray j }) (r:ak ys m_) (hz:ys.length<=sizeLine) (t:Nat):
  ad X a_ σ (upd H p (.lst ys)) { s with heap:=s.heap.update p f,toks:=t }:=by
 have e:(s.heap.update p f).get? p=some { cls:=.type "list",data:=.seq m_.toArray j }:=by
  rw[Heap.get?_update_self f ho (by rw[c]<;>rfl),c]
 refine I.write (x:=p) (e:=p) (by rw[h];trivial) (.inl rfl) (λb u hb q=>(Heap.get?_update_other _ _ (Ne.symm hb)).trans q) ⟨_,e⟩ ?_;exact⟨hz,m_,j,r,e⟩
def Kc:V->V->V->Hp->(Hp->Prop)->Prop:=λo i v H Q=>∃p xs k j,o=.ref p/\i=.int k/\H p=some (.lst xs)/\ku xs.length k=some j/\Q (upd H p (.lst (xs.set j v)))
theorem set_list:BP X Kc:=by
 intro a_ s σ H o i v E F u Q I m A B h;obtain⟨p,xs,k,j,rfl,rfl,hp,C,q⟩:=h;cases m;obtain⟨t,rfl⟩:=A;obtain⟨d_,n,r,ho,hz⟩:=I.lst hp;obtain⟨h1,G,c,f⟩:=xa C;have hl:=r.length;have hn:=kt;have g:ad X a_ σ (upd H p (.lst (xs.set j v))) { s with heap:=s.heap.update p (Obj.mapSeq (·.setIfInBounds j u)) }:=
  I.lstUpd hp ho (yz d_ n j u) (r.set B j) (by rw[List.length_set];exact hz) s.toks
 by_cases l:0<=k
 .have hk:k.toNat=j:=by
   rw[seqIndex_of l f] at h1;exact Yi h1
  exact PySem.W.ki_setAt ho l 'a' (by rw[YH,←hl];exact f) (by rw[hk];exact⟨_,g,q⟩)
 .have hk:(k+(d_.toArray.size:Int)).toNat=j:=by
   rw[seqIndex_neg 'a' c] at h1;rw[YH,←hl];exact Yi h1
  exact PySem.W.ki_setBack ho 'a' (by rw[YH,←hl];exact c) 'a' (by rw[hk];exact⟨_,g,q⟩)
theorem uu(lo hi:Zp)(n:Nat):(sliceBounds lo hi none n).1=((HT.aR n 0 lo:Nat):Int)/\(sliceBounds lo hi none n).2.1=((HT.aR n n hi:Nat):Int)/\(sliceBounds lo hi none n).2.2=1:=by
 refine⟨?_,?_,rfl⟩
 .cases lo with
  |none=>simp[sliceBounds,HT.aR]
  |some i=>
   simp only[sliceBounds,HT.aR,Option.getD_none,show(1:Int)>0 by decide,if_true];by_cases h:i<0
   .simp only[h,if_true]<;>omega
   .simp only[h,if_false]<;>omega
 .cases hi with
  |none=>simp[sliceBounds,HT.aR]
  |some i=>
   simp only[sliceBounds,HT.aR,Option.getD_none,show(1:Int)>0 by decide,if_true];by_cases h:i<0
   .simp only[h,if_true]<;>omega
   .simp only[h,if_false]<;>omega
def tO(d_:Zd)(lo hi:Zp):slicePick d_.toArray lo hi none=((d_.drop (HT.aR d_.length 0 lo)).take (HT.aR d_.length d_.length hi-HT.aR d_.length 0 lo)).toArray:=by
 obtain⟨h1,c,f⟩:=uu lo hi d_.toArray.size;unfold slicePick;rw[h1,c,f];simp only[sliceRange_one,pick_run,YH]<;>rfl
def Le(K:Za):V->Option Int->Option Int->Hp->VK->Prop:=λx lo hi H Q=>∃a xs,x=.ref a/\aX K H a xs/\∀p,H p=none->Q (.ref p) (upd H p (.lst (j8 xs lo hi)))
theorem FN:w9 X (Le X.K):=by
 intro a_ s σ H x v l m lo hi sl Q I c hs f g h;obtain⟨a,xs,rfl,hx,q⟩:=h;cases c;obtain⟨d_,r,ht,hz⟩:=I.list hx;have k:=r.length;refine⟨"list",_,slot_list_getitem.lookup,ht.isList.typeIs,?_⟩;refine wpAny_getItem_list_slice ht.isList hs f g .none (by simp) ?_ (by rw[YH]<;>omega);rw[tO,←k];refine⟨.ref s.heap.objs.size,_,I.laid (t':=s.toks) (o:=.lst (j8 xs lo hi)) (λb ob q=>Yd _ q) (YF _) ?_,rfl,q _ (I.hok.fresh (YF _))⟩;exact⟨ZW (oN xs lo hi) hz,_,0,(r.drop (HT.aR xs.length 0 lo)).take (HT.aR xs.length xs.length hi-HT.aR xs.length 0 lo),Yg _ rfl⟩
def yA:V->Bool
 |.non=>true
 |.bl _=>true
 |.int _=>true
 |.str _=>true
 |_=>false
def Kz:V->V->Bool
 |.non,.non=>true
 |.bl a,.bl b=>a==b
 |.bl a,.int b=>(if a then 1 else 0)==b
 |.int a,.bl b=>a==(if b then 1 else 0)
 |.int a,.int b=>a==b
 |.str a,.str b=>a==b
 |_,_=>false
def Ag{A:Around}(f:RelV y u)(c:RelV x v)(k:yA y=true)(g:yA x=true):SeqAt.EqAt A s u v (Kz y x):=by
 cases y with
 |non=>
  cases f;cases x with
  |non=>cases c;exact SeqAt.EqAt.same _
  |bl b=>cases c;exact SeqAt.EqAt.none_bool b
  |int b=>obtain⟨t,rfl⟩:=c;exact SeqAt.EqAt.none_int b t
  |str b=>obtain⟨t,rfl⟩:=c;exact SeqAt.EqAt.none_str b t
  |_=>exact absurd (show false=true from g) YE
 |bl a=>
  cases f;cases x with
  |non=>cases c;exact SeqAt.EqAt.bool_none a
  |bl b=>cases c;exact SeqAt.EqAt.bool_bool a b
  |int b=>obtain⟨t,rfl⟩:=c;exact SeqAt.EqAt.bool_int a b t
  |str b=>obtain⟨t,rfl⟩:=c;exact SeqAt.EqAt.bool_str a b t
  |_=>exact absurd (show false=true from g) YE
 |int a=>
  obtain⟨t',rfl⟩:=f;cases x with
  |non=>cases c;exact SeqAt.EqAt.int_none a t'
  |bl b=>cases c;exact SeqAt.EqAt.int_bool a t' b
  |int b=>obtain⟨t,rfl⟩:=c;exact SeqAt.EqAt.int_int a t' b t
  |str b=>obtain⟨t,rfl⟩:=c;exact SeqAt.EqAt.int_str a t' b t
  |_=>exact absurd (show false=true from g) YE
 |str a=>
  obtain⟨t',rfl⟩:=f;cases x with
  |non=>cases c;exact SeqAt.EqAt.str_none a t'
  |bl b=>cases c;exact SeqAt.EqAt.str_bool a t' b
  |int b=>obtain⟨t,rfl⟩:=c;exact SeqAt.EqAt.str_int a t' b t
  |str b=>obtain⟨t,rfl⟩:=c;exact SeqAt.EqAt.str_str a t' b t
  |_=>exact absurd (show false=true from g) YE
 |_=>exact absurd (show false=true from k) YE
theorem i9:dA X (.builtin "len") (λxs H Q=>∃p ys,xs=[.ref p]/\(aX X.K H p ys\/bf X.K H p ys)/\Q (.int ys.length) H):=by
 intro a_ s σ H xs us Q I r h;obtain⟨p,ys,rfl,hq,q⟩:=h;obtain⟨u,rfl,k⟩:=vals1 r;cases k;have hn:=kt;rcases hq with hq | hq
 .obtain⟨d_,c,f,hz⟩:=I.list hq
  have g:=c.length;exact Calls.call_len_list f.isList (by simp only[YH]<;>omega) ⟨.int ys.length,H,I.tok _,⟨s.toks+1,by rw[YH,g]⟩,q⟩
 .obtain⟨d_,c,f,hz⟩:=I.tuple hq
  have g:=c.length;exact len_tuple f (by simp only[YH]<;>omega) ⟨.int ys.length,H,I.tok _,⟨s.toks+1,by rw[YH,g]⟩,q⟩
theorem uv:dA X (.builtin "len") (λxs H Q=>∃z,xs=[.str z]/\z.length<=sizeLine/\Q (.int z.length) H):=by
 intro a_ s σ H xs us Q I r h;obtain⟨z,rfl,hz,q⟩:=h;obtain⟨u,rfl,t,rfl⟩:=vals1 r;have hn:=kt;exact len_str 'a' ⟨.int z.length,H,I.tok _,⟨_,rfl⟩,q⟩
theorem mz:dA X (.type "list") (λxs H Q=>∃p ys,xs=[.ref p]/\(aX X.K H p ys\/bf X.K H p ys)/\∀l,H l=none->Q (.ref l) (upd H l (.lst ys))):=by
 intro a_ s σ H xs us Q I r h;obtain⟨p,ys,rfl,hq,q⟩:=h;obtain⟨u,rfl,g⟩:=vals1 r;cases g;have fin:∀(d_:Zd),ak ys d_->ys.length<=sizeLine->∀(h':Heap) (c':Nat),(∀b o',s.heap.get? b=some o'->h'.get? b=some o') ->
   h'.get? s.heap.objs.size=some { cls:=.type "list",dict:=none,data:=.seq d_.toArray c',slots:=#[] }->EP X a_ σ Q (.ref s.heap.objs.size) { s with heap:=h' }:=λd_ c hz h' c' kp e=>
  ⟨.ref s.heap.objs.size,_,I.laid (t':=s.toks) kp (YF _) (show aT X.prog X.w _ h' _ (.lst ys) from⟨hz,d_,c',c,e⟩),rfl,q _ (I.hok.fresh (YF _))⟩
 rcases hq with hq | hq
 .obtain⟨d_,c,f,hz⟩:=I.list hq
  have k:=c.length;obtain⟨o,ho,hc,n,hd⟩:=f.isList;exact call_list_seq p (.inl rfl) ho hc hd (λh' c' kp e=>fin d_ c hz h' c' kp e) (by simp only[YH]<;>omega)
 .obtain⟨d_,c,f,hz⟩:=I.tuple hq
  have k:=c.length;obtain⟨o,ho,hc,n,hd⟩:=f;exact call_list_seq p (.inr rfl) ho hc hd (λh' c' kp e=>fin d_ c hz h' c' kp e) (by simp only[YH]<;>omega)
theorem lM:dA X (.type "tuple") (λxs H Q=>∃p ys,xs=[.ref p]/\((aX X.K H p ys/\∀l,H l=none->Q (.ref l) (upd H l (.tup ys)))\/(bf X.K H p ys/\Q (.ref p) H))):=by
 intro a_ s σ H xs us Q I r h;obtain⟨p,ys,rfl,h⟩:=h;obtain⟨u,rfl,k⟩:=vals1 r;cases k;rcases h with⟨hq,q⟩ | ⟨hq,q⟩
 .obtain⟨d_,c,f,hz⟩:=I.list hq
  have t:=c.length;refine call_tuple_list f.isList (λh' kp=>?_) (by simp only[YH]<;>omega);have g:ad X a_ σ H { s with heap:=h' }:=I.kept (t':=s.toks) kp;have m:ad X a_ σ (upd H h'.objs.size (.tup ys)) { s with heap:=h'.push { cls:=.type "tuple",data:=.seq d_.toArray } }:=
   g.laid (t':=s.toks) (λb o e=>Yd _ e) (YF _) (show aT X.prog X.w _ _ _ (.tup ys) from⟨hz,d_,c,j7.new _ _⟩)
  exact⟨.ref h'.objs.size,_,m,rfl,q _ (g.hok.fresh (YF _))⟩
 .obtain⟨d_,c,f,hz⟩:=I.tuple hq
  exact call_tuple_same f ⟨.ref p,H,I,rfl,q⟩
def EO(K:Za)(T:String)(x:V)(H:Hp):Prop:=match x with
 |.str _=>T = "str"
 |.int _=>T = "int"
 |.ref p=>(T = "list"/\∃xs,aX K H p xs)\/(T = "tuple"/\∃xs,bf K H p xs) \/
   (T = "dict"/\((∃kvs,H p=some (.dK kvs)) \/ ∃kvs,H p=some (.dT kvs)))\/(T = "set"/\∃S n,H p=some (.set S n))
 |_=>False
def Ah{T:String}(I:ad X a_ σ H s)(r:RelV x v)(ty:EO X.K T x H):
  s.TypeIs v T/\∀a,v=.ref a->∃ob,s.heap.get? a=some ob/\ob.dict=none:=by
 cases x with
 |str z=>
  obtain⟨t,rfl⟩:=r;cases(show T = "str" from ty);exact⟨typeIs_str s z t,λ_ e=>nomatch e⟩
 |int i=>
  obtain⟨t,rfl⟩:=r;cases(show T = "int" from ty);exact⟨typeIs_int s i t,λ_ e=>nomatch e⟩
 |ref p=>
  cases r;rcases ty with⟨rfl,xs,hq⟩ | ⟨rfl,xs,hq⟩ | ⟨rfl,hk⟩ | ⟨rfl,S,n,hk⟩
  .obtain⟨d_,_,g,_⟩:=I.list hq
   refine⟨g.isList.typeIs,λa e=>?_⟩;cases e;obtain⟨o,n,e,c,hd,_⟩:=g;exact⟨o,e,hd⟩
  .obtain⟨d_,_,⟨o,e,c,n,_,hd⟩,_⟩:=I.tupD hq
   refine⟨⟨o,e,c⟩,λa f=>?_⟩;cases f;exact⟨o,e,hd⟩
  .have z:∃o,s.heap.get? p=some o/\o.ExactDict:=by
    rcases hk with⟨kvs,hk⟩ | ⟨kvs,hk⟩
    .obtain⟨_,_,_,_,o,_,_,e,ex,_⟩:=I.hok p _ hk
     exact⟨o,e,ex⟩
    .obtain⟨_,_,_,_,o,_,_,e,ex,_⟩:=I.hok p _ hk
     exact⟨o,e,ex⟩
   obtain⟨o,e,ex⟩:=z;refine⟨⟨o,e,ex.1⟩,λa f=>?_⟩;cases f;exact⟨o,e,ex.2.1⟩
  .obtain⟨o,_,_,_,e,ex,_⟩:=I.hok p _ hk
   refine⟨⟨o,e,ex.1⟩,λa f=>?_⟩;cases f;exact⟨o,e,ex.2.1⟩
 |_=>exact Yh ty
def Lf(K:Za)(T:String)(r:V->List V->Hp->VK->Prop)(c:TE):TE:=λσ H Q=>c σ H λx H1=>EO K T x H1/\r x [] H1 Q
def LE(K:Za)(T:String)(r:V->List V->Hp->VK->Prop)(c:TE)(t:TA):TE:=λσ H Q=>c σ H λx H1=>EO K T x H1/\t σ H1 λxs H2=>r x xs H2 Q
variable {o e:Expr}{es:Zg}{to:TE}{t:TA}{name:Str}{n_ A_:Pos}{T id:String}{r:V->List V->Hp->VK->Prop}
def HW(f:PlainAttrs T)(slot:Slot T name id)(g:typeOf (.builtin id)=pure (.type "method_descriptor"))(hm:Af X id r)(ho:PE X o to)
  (k:attributeBase o name X.env (eval o X.env)=eval o X.env:=by rfl) (l:(n_.endLine==A_.line)=true:=by rfl):PE X (.Call (.Attribute o name n_) [] [] A_) (Lf X.K T r to):=by
 intro a_ s σ H Q I h;refine wpAny_Call_method0_late k l (aL (ho a_ s σ H _ I h) λv s1 m=>?_);obtain⟨x,H1,c,r1,ty,q1⟩:=m;obtain⟨h1,p⟩:=Ah c r1 ty;exact⟨T,id,f,slot,g,h1,p,Calls.callWith_builtin rfl (PySem.evalArgs_none (hm a_ s1 σ H1 x [] v [] Q c r1 .nil q1))⟩
def Kd(g:PlainAttrs T)(slot:Slot T name id)(k:typeOf (.builtin id)=pure (.type "method_descriptor"))(hm:Af X id r)(ho:PE X o to)(ha:PA X (e::es) t)
  (l:attributeBase o name X.env (eval o X.env)=eval o X.env:=by rfl)
  (m:((backTo A_ (starEach (e::es) X.env)).all (λx=>!x.1)&&(backToKw A_ (keywordEach [] X.env)).all (λx=>x.1.isSome)
   && decide ((e::es).length+([]:List Keyword).length+(if([]:List Keyword).isEmpty then 0 else 1)<30))=true:=by rfl)
  (p:(n_.endLine==A_.line)=true:=by rfl) (hs:starEach (e::es) X.env=(false,eval e X.env)::starEach es X.env:=by rfl) (A:(backTo A_ (starEach es X.env)).any (·.1)=false:=by rfl):
  PE X (.Call (.Attribute o name n_) (e::es) [] A_) (LE X.K T r to t):=by
 intro a_ s σ H Q I h;refine wpAny_Call_method_late l m p rfl (aL (ho a_ s σ H _ I h) λv s1 B=>?_);obtain⟨x,H1,c,r1,ty,q1⟩:=B;obtain⟨h1,C⟩:=Ah c r1 ty;refine⟨T,id,g,slot,k,h1,C,?_⟩;have f:=ha A_ a_ s1 σ H1 _ c q1;rw[hs] at f ⊢;refine Calls.callWith_builtin (by show(false||(backTo A_ (starEach es X.env)).any (·.1))=false;rw[A]<;>rfl) (Calls.evalArgs_plain ?_);refine aL f λus s2 E=>?_
 obtain⟨vs,H2,F,r2,q2⟩:=E;exact hm a_ s2 σ H2 x vs v us Q F r1 r2 q2
end
def EQ(X:Cx)(id:String)(r:V->List V->Hp->VK->Prop):Prop:=
 ∀(a_:Zc) (s:Shared) (σ:St) (H:Hp) (x:V) (xs:List V) (v:Value) (us:Zd) (Q:VK),ad X a_ σ H s->RelV x v->ak xs us->r x xs H Q ->
  wpAny 'b' X.A (call (.builtin id) (v::us)) (EP X a_ σ Q) X.xe s
theorem ak.one(h:ak [x] d_):∃u,d_=[u]/\RelV x u:=by
 cases h with
 |cons r t=>cases t;exact⟨_,rfl,r⟩
theorem ak.two(h:ak [x,y] d_):∃u v,d_=[u,v]/\RelV x u/\RelV y v:=by
 cases h with
 |cons r t=>
  obtain⟨v,rfl,q⟩:=ak.one t;exact⟨_,v,rfl,r,q⟩
theorem ak.zero:∀{us:Zd},ak [] us->us=[]
 |_,.nil=>rfl
theorem ak.dropLast{xs:List V}{us:Zd}(h:ak xs us):ak xs.dropLast us.dropLast:=by
 induction h with
 |nil=>exact .nil
 |cons r t a=>
  cases t with
  |nil=>exact .nil
  |cons q t'=>exact .cons r a
theorem ak.eraseIdx:∀{xs:List V}{us:Zd}(i:Nat),ak xs us->ak (xs.eraseIdx i) (us.eraseIdx i)
 |_,_,_,.nil=>.nil
 |_,_,0,.cons _ t=>t
 |_,_,i+1,.cons r t=>.cons r (ak.eraseIdx i t)
theorem yB{c:Type}(l:List c):l.eraseIdx (l.length-1)=l.dropLast:=by
 induction l with
 |nil=>rfl
 |cons a r f=>
  cases r with
  |nil=>rfl
  |cons b r=>
   have e:(a::b::r).length-1=((b::r).length-1)+1:=by
    have h1:(a::b::r).length=r.length+2:=rfl;have g:(b::r).length=r.length+1:=rfl;omega
   rw[e,List.eraseIdx_cons_succ,f];all_goals rfl
theorem sV{a:Type}:∀(l:List a) (i:Nat),(l.eraseIdx i).length<=l.length
 |[],_=>YF _
 |_::_,0=>YM _
 |_::r,i+1=>Nat.succ_le_succ (sV r i)
section
variable {X:Cx}{a_:Zc}{σ:St}{H:Hp}{s:Shared}{l b:Addr}{xs ys zs:List V}
theorem ad.lset{f:Array Value->Array Value}(I:ad X a_ σ H s)(a:H l=some (.lst xs))
  (e:s.heap.get? l=some { cls:=.type "list",data:=.seq d_.toArray n }) (c:f d_.toArray=m_.toArray) (hv:ak ys m_) (hz:ys.length<=sizeLine):
  ad X a_ σ (upd H l (.lst ys)) { s with heap:=s.heap.update l (Obj.mapSeq f),toks:=j }:=by
 have q:=PySem.IsL.update e f;rw[c] at q;refine I.write (x:=l) (e:=l) (by rw[a];exact trivial) (.inl rfl) (λb' u hb hu=>(Heap.get?_update_other s.heap (Obj.mapSeq f) (Ne.symm hb)).trans hu) ⟨_,q⟩ ?_;exact⟨hz,m_,_,hv,q⟩
theorem ad.lnew{t':Nat}(I:ad X a_ σ H s)(hv:ak ys d_)(hz:ys.length<=sizeLine):
  ad X a_ σ (upd H s.heap.objs.size (.lst ys)) { s with heap:=s.heap.push { cls:=.type "list",data:=.seq d_.toArray },toks:=t' }:=
 I.laid (λ_ _ q=>Yd _ q) (YF _) ⟨hz,d_,0,hv,Yg _ rfl⟩
theorem ad.fresh(I:ad X a_ σ H s):H s.heap.objs.size=none:=I.hok.fresh (YF _)
theorem ad.lstM(I:ad X a_ σ H s)(a:H l=some (.lst xs)):xs.length<=sizeLine/\∃(d_:Zd) (n:Nat),ak xs d_/\xs.length=d_.length/\s.heap.get? l=some { cls:=.type "list",data:=.seq d_.toArray n }:=by
 obtain⟨z,d_,n,r,e⟩:=I.hok l _ a;exact⟨z,d_,n,r,r.length,e⟩
theorem Ce(h:n<=sizeLine):Builtin.List.listTooLong n=false:=by
 unfold Builtin.List.listTooLong;exact ZP 'a'
end
section
variable {X:Cx}
def FO:V->List V->Hp->VK->Prop:=λx vs H Q=>∃l xs y,x=.ref l/\vs=[y]/\H l=some (.lst xs)/\xs.length<sizeLine/\Q .non (upd H l (.lst (xs++[y])))
theorem Ai:EQ X "list.append" FO:=by
 intro a_ s σ H x vs v us Q I c f h;obtain⟨l,xs,y,rfl,rfl,a,hz,q⟩:=h;cases c;obtain⟨u,rfl,g⟩:=f.one;obtain⟨z,d_,n,r,hl,e⟩:=I.lstM a;refine call_meets F.slot_list_append ⟨_,e,rfl⟩ F.entry_list_append (F.args_list_append_2 _ _) (PySem.list_append l d_.toArray n u (by rw[YH];omega)) ⟨e,?_⟩;refine⟨.non,_,I.lset (m_:=d_++[u]) a e (by simp) (r.append (.cons g .nil)) ?_,rfl,q⟩;rw[ZK,YZ];omega
def FP:V->List V->Hp->VK->Prop:=λx vs H Q=>∃l b xs a,x=.ref l/\vs=[.ref b]/\H l=some (.lst xs)/\H b=some (.lst a)/\xs.length+a.length<=sizeLine/\Q .non (upd H l (.lst (xs++a)))
theorem Aj:EQ X "list.extend" FP:=by
 intro a_ s σ H x vs v us Q I f g h;obtain⟨l,b,xs,B,rfl,rfl,c,k,hz,q⟩:=h;cases f;obtain⟨u,rfl,m⟩:=g.one;cases m;obtain⟨z,d_,n,r,hl,e⟩:=I.lstM c;obtain⟨C,a,p,r2,E,t⟩:=I.lstM k;have hsz:d_.toArray.size+a.toArray.size<=sizeLine:=by rw[YH,YH];omega
 have A:¬(!d_.toArray.isEmpty&&Builtin.List.listTooLong (d_.toArray.size+a.toArray.size))=true:=by
  rw[Ce hsz,Bool.and_false];exact YE
 refine call_meets F.slot_list_extend ⟨_,e,rfl⟩ F.entry_list_extend (F.args_list_extend_2 _ _)
  (AutoSeq1.list_extend_list_list_0 l d_.toArray n b a.toArray p A (by rw[YH];omega) 'a') ⟨e,t,?_⟩
 refine⟨.non,_,I.lset (m_:=d_++a) c e (by simp) (r.append r2) ?_,rfl,q⟩;rw[ZK];omega
def Lg:V->List V->Hp->VK->Prop:=λx vs H Q=>∃l xs y,x=.ref l/\vs=[]/\H l=some (.lst xs)/\xs[xs.length-1]?=some y/\Q y (upd H l (.lst xs.dropLast))
theorem HX:EQ X "list.pop" Lg:=by
 intro a_ s σ H x vs v us Q I c f h;obtain⟨l,xs,y,rfl,rfl,a,hy,q⟩:=h;cases c;have g:=f.zero;subst g;obtain⟨z,d_,n,r,hl,e⟩:=I.lstM a;obtain⟨u,hu,k⟩:=r.get hy;have m:d_.toArray[d_.toArray.size-1]?=some u:=by
  show d_.toArray[d_.length-1]?=some u;rw[←XA,←hl];exact hu
 refine call_meets F.slot_list_pop ⟨_,e,rfl⟩ F.entry_list_pop (F.args_list_pop_1 _) (MeetsSeq.list_pop_last l d_.toArray n u m (by rw[YH];omega)) ⟨e,?_⟩;refine⟨y,_,I.lset (m_:=d_.dropLast) a e ?_ r.dropLast ?_,k,q⟩
 .show d_.toArray.eraseIdxIfInBounds (d_.toArray.size-1)=d_.dropLast.toArray
  rw[YH,List.eraseIdxIfInBounds_toArray,yB]
 .rw[List.length_dropLast]
  omega
def HY:V->List V->Hp->VK->Prop:=λx vs H Q=>∃l xs i k y,x=.ref l/\vs=[.int i]/\H l=some (.lst xs)/\-(2 ^ 63)<=i/\i<2 ^ 63/\seqIndex? i xs.length=some k/\xs[k]?=some y/\Q y (upd H l (.lst (xs.eraseIdx k)))
theorem Cf:EQ X "list.pop" HY:=by
 intro a_ s σ H x vs v us Q I c f h;obtain⟨l,xs,i,k,y,rfl,rfl,a,h1,g,hk,hy,q⟩:=h;cases c;obtain⟨u,rfl,m⟩:=f.one;obtain⟨t,rfl⟩:=m;obtain⟨z,d_,n,r,hl,e⟩:=I.lstM a;obtain⟨w,hw,p⟩:=r.get hy;refine call_meets F.slot_list_pop ⟨_,e,rfl⟩ F.entry_list_pop (F.args_list_pop_2 _ _)
  (MeetsSeq.list_pop_at l d_.toArray n i t k w (fitsIndex_both h1 g) (by rw[YH,←hl];exact hk) (by rw[←XA];exact hw) (by rw[YH];omega)) ⟨e,?_⟩
 refine⟨y,_,I.lset (m_:=d_.eraseIdx k) a e ?_ (r.eraseIdx k) ?_,p,q⟩
 .show d_.toArray.eraseIdxIfInBounds k=(d_.eraseIdx k).toArray
  rw[List.eraseIdxIfInBounds_toArray]
 .have:=sV xs k
  omega
def Lh:R2:=λx y H Q=>∃l b xs a,x=.ref l/\y=.ref b/\H l=some (.lst xs)/\H b=some (.lst a)/\xs.length+a.length<=sizeLine/\∀p,H p=none->Q (.ref p) (upd H p (.lst (xs++a)))
theorem HZ:cA X (binaryOp .Add) Lh:=by
 intro a_ s σ H x y v u Q I c f h;obtain⟨l,b,xs,t,rfl,rfl,g,k,hz,q⟩:=h;cases c;cases f;obtain⟨z,d_,n,r,hl,e⟩:=I.lstM g;obtain⟨A,a,B,r2,C,m⟩:=I.lstM k;refine PySem.P.add_list e m ?_ (by rw[YH,YH];omega);have p:d_.toArray++a.toArray=(d_++a).toArray:=by simp
 rw[p];exact⟨.ref _,_,I.lnew (t':=s.toks) (r.append r2) (by rw[ZK];omega),rfl,q _ I.fresh⟩
end
section
variable {prog:Zv}{w:World}{A:Around}{E:Zb}{s:Shared}
end
section
variable {κ:Type}[DecidableEq κ]
def eO(kvs:List (κ×V))(k:κ):Option V:=(kvs.find? λkv=>decide (kv.1=k)).map (·.2)
def putK(kvs:List (κ×V))(k:κ)(v:V):List (κ×V):=
 if(kvs.any λkv=>decide (kv.1=k))=true then kvs.map (λkv=>if kv.1=k then(kv.1,v) else kv) else kvs++[(k,v)]
def pj{p:κ×V}{r:List (κ×V)}{k:κ}(e:p.1=k):eO (p::r) k=some p.2:=by simp[eO,XB,e]
def pk{p:κ×V}{r:List (κ×V)}{k:κ}(e:¬p.1=k):eO (p::r) k=eO r k:=by simp[eO,XB,e]
theorem uw(k:κ):∀kvs:List (κ×V),(kvs.any λkv=>decide (kv.1=k))=(eO kvs k).isSome
 |[]=>rfl
 |p::r=>by
  rw[XC];by_cases e:p.1=k
  .simp only[pj e,YU e,Bool.true_or,Option.isSome_some]
  .rw[pk e,ZP e,Bool.false_or];exact uw k r
theorem oO(kvs:List (κ×V))(k:κ)(v:V):(putK kvs k v).length<=kvs.length+1:=by
 unfold putK;split
 .rw[ZF];omega
 .rw[ZK,YI,YT];omega
theorem eL.isSome_eq{o:Option V}{u:Zw}(r:eL o u):o.isSome=u.isSome:=by
 cases o with
 |none=>cases u with
  |none=>rfl
  |some _=>exact(show False from r).elim
 |some _=>cases u with
  |none=>exact(show False from r).elim
  |some _=>rfl
theorem KV.val{kvs:List (κ×V)}{vs:List (κ×Value)}(r:KV kvs vs)(k:κ):eL (eO kvs k) (valueAt vs k):=by
 unfold KV at r;induction r with
 |nil=>exact True.intro
 |@cons p q ps a h t c=>
  obtain⟨h1,f⟩:=h;by_cases e:p.1=k
  .have e':q.1=k:=h1.symm.trans e
   have b:valueAt (q::a) k=some q.2:=by simp[valueAt,XB,e']
   rw[pj e,b];exact f
  .have e':¬q.1=k:=λz=>e (h1.trans z)
   have b:valueAt (q::a) k=valueAt a k:=by simp[valueAt,XB,e']
   rw[pk e,b];exact c
theorem KV.any{kvs:List (κ×V)}{vs:List (κ×Value)}(r:KV kvs vs)(k:κ):(kvs.any λkv=>decide (kv.1=k))=vs.any λkv=>decide (kv.1=k):=by
 unfold KV at r;induction r with
 |nil=>rfl
 |cons h t a=>rw[XC,XC,a,h.1]
theorem KV.repl{kvs:List (κ×V)}{vs:List (κ×Value)}(r:KV kvs vs)(k:κ)(a:RelV y u):
  KV (kvs.map λkv=>if kv.1=k then(kv.1,y) else kv) (vs.map λkv=>if kv.1=k then(kv.1,u) else kv):=by
 unfold KV at r ⊢;induction r with
 |nil=>exact .nil
 |@cons p q ps g h t c=>
  rw[YK,YK];refine .cons ?_ c;obtain⟨h1,f⟩:=h;by_cases e:p.1=k
  .rw[if_pos e,if_pos (h1.symm.trans e)];exact⟨h1,a⟩
  .rw[if_neg e,if_neg (λz=>e (h1.trans z))];exact⟨h1,f⟩
theorem KV.put{kvs:List (κ×V)}{vs:List (κ×Value)}(r:KV kvs vs)(k:κ)(a:RelV y u):KV (putK kvs k y) (stored vs k u):=by
 unfold putK stored;rw[r.any k];by_cases e:(vs.any λkv=>decide (kv.1=k))=true
 .rw[if_pos e,if_pos e];exact r.repl k a
 .rw[if_neg e,if_neg e];exact Paired.snoc r ⟨rfl,a⟩
theorem KV.keys{kvs:List (κ×V)}{vs:List (κ×Value)}(r:KV kvs vs):kvs.map (·.1)=vs.map (·.1):=by
 unfold KV at r;induction r with
 |nil=>rfl
 |cons h t a=>rw[YK,YK,a,h.1]
theorem KV.length{kvs:List (κ×V)}{vs:List (κ×Value)}(r:KV kvs vs):kvs.length=vs.length:=Paired.length r
end
def qf{k:Key}(r:RelV (kV k) u):(bt P w).is k u=true:=by
 cases k with
 |inl i=>obtain⟨t,e⟩:=(show ∃t,u=Value.int i t from r);subst e;exact wx P w i t
 |inr x=>obtain⟨t,e⟩:=(show ∃t,u=Value.str x t from r);subst e;exact wy P w x t
theorem sW{P:Zv}{w:World}:∀{ks:List Key}{us:Zd},ak (ks.map kV) us->ItemsAre (bt P w) ks us
 |[],_,r=>by rw[YY] at r;cases r;exact .nil
 |k::ks,_,r=>by
  rw[YK] at r;cases r with
  |cons h t=>exact .cons (qf h) (sW t)
abbrev KT(H:Hp):List (List Key×V)->List (List Key×Addr×Value)->Prop:=Paired λp q=>p.1=q.1/\H q.2.1=some (.tup (p.1.map kV))/\RelV p.2 q.2.2
theorem KT.val{xs:List (List Key×Addr×Value)}(r:KT H kvs xs)(k:List Key):eL (eO kvs k) ((atKey xs k).map (·.2)):=by
 induction r with
 |nil=>exact True.intro
 |@cons p q ps a h t c=>
  obtain⟨h1,_,f⟩:=h;by_cases e:p.1=k
  .have e':q.1=k:=h1.symm.trans e
   have b:atKey (q::a) k=some q.2:=by simp[atKey,XB,e']
   rw[pj e,b];exact f
  .have e':¬q.1=k:=λz=>e (h1.trans z)
   have b:atKey (q::a) k=atKey a k:=by simp[atKey,XB,e']
   rw[pk e,b];exact c
theorem KT.repl{xs:List (List Key×Addr×Value)}(r:KT H kvs xs)(k:List Key)(c:RelV y u):
  KT H (kvs.map λkv=>if kv.1=k then(kv.1,y) else kv) (xs.map (putAt k u)):=by
 induction r with
 |nil=>exact .nil
 |@cons p q ps l h t f=>
  rw[YK,YK];refine .cons ?_ f;obtain⟨h1,a,g⟩:=h;unfold putAt;by_cases e:p.1=k
  .rw[if_pos e,if_pos (h1.symm.trans e)];exact⟨h1,a,c⟩
  .rw[if_neg e,if_neg (λz=>e (h1.trans z))];exact⟨h1,a,g⟩
theorem KT.put{xs:List (List Key×Addr×Value)}(r:KT H kvs xs)(k:List Key)(hb:H b=some (.tup (k.map kV)))(a:RelV y u):
  KT H (putK kvs k y) (storedH xs k b u):=by
 have e:(kvs.any λkv=>decide (kv.1=k))=(atKey xs k).isSome:=by
  rw[uw,(r.val k).isSome_eq,Option.isSome_map]
 unfold putK storedH;rw[e];by_cases q:(atKey xs k).isSome=true
 .rw[if_pos q,if_pos q];exact r.repl k a
 .rw[if_neg q,if_neg q];exact Paired.snoc r ⟨rfl,hb,a⟩
theorem KT.keeps{xs:List (List Key×Addr×Value)}(r:KT H kvs xs)(ht:∀b ys,H b=some (.tup ys)->H' b=some (.tup ys)):KT H' kvs xs:=
 Paired.mapP r λ_ _ z=>⟨z.1,ht _ _ z.2.1,z.2.2⟩
section
variable {P:Zv}{w:World}{H:Hp}{h:Heap}{a:Addr}
def ER(ok:ca P w H h)(e:Rd H a ob):aT P w H h a ob:=e.ok ok
def jF{kvs:List (Key×V)}(ok:ca P w H h)(e:Rd H a (.dK kvs)):kvs.length<=sizeLine/\(a==sysModules)=false/\∃vs,KV kvs vs/\h.DictOf (bt P w) a vs:=
 show aT P w H h a (.dK kvs) from ER ok e
def t3{kvs:List (Key×V)}(ok:ca P w H h)(e:H a=some (.dK kvs)):kvs.length<=sizeLine/\(a==sysModules)=false/\∃vs,KV kvs vs/\h.DictOf (bt P w) a vs:=jF ok (.inl e)
def mC{ks:List Key}(ok:ca P w H h)(e:H a=some (.tup (ks.map kV))):(tupleKind (bt P w)).is h ks a:=by
 obtain⟨_,d_,r,o,h1,c,n,f⟩:=(show aT P w H h a (.tup (ks.map kV)) from ok a _ e);exact⟨o,d_.toArray,n,h1,c,f.1,by simpa using sW r⟩
def qg(ok:ca P w H h)(e:Rd H a (.dT kvs)):kvs.length<=sizeLine/\(a==sysModules)=false /\
  ∃xs,KT H kvs xs/\h.DictOfH (tupleKind (bt P w)) a xs:=by
 obtain⟨z,y,xs,r,o,es,c,h1,f,g,k,A⟩:=(show aT P w H h a (.dT kvs) from ER ok e);refine⟨z,y,xs,r,o,es,c,h1,f,g,k,λx hx=>?_,A⟩;have all:∀{l:List (List Key×V)}{m:List (List Key×Addr×Value)},KT H l m->∀x∈m,(tupleKind (bt P w)).is h x.1 x.2.1:=by
  intro l m q;induction q with
  |nil=>intro x hx;exact nomatch hx
  |@cons p q ps C hq t B=>
   intro x hx;rcases ZZ.mp hx with e | hx
   .subst e
    exact mC ok (by rw[←hq.1];exact hq.2.1)
   .exact B x hx
 exact all r x hx
def Ke(ok:ca P w H h)(e:H a=some (.dT kvs)):kvs.length<=sizeLine/\(a==sysModules)=false /\
  ∃xs,KT H kvs xs/\h.DictOfH (tupleKind (bt P w)) a xs:=qg ok (.inl e)
end
def k7(H:Hp)(a:Addr)(y:V)(r:Option V):Prop:=
 (∃kvs k,Rd H a (.dK kvs)/\y=kV k/\r=eO kvs k) \/ ∃kvs k b,Rd H a (.dT kvs)/\y=.ref b/\H b=some (.tup (k.map kV))/\r=eO kvs k
def Li(H:Hp)(a:Addr)(y v:V)(H':Hp):Prop:=
 (∃kvs k,H a=some (.dK kvs)/\y=kV k/\kvs.length<sizeLine/\H'=upd H a (.dK (putK kvs k v))) \/
 ∃kvs k b,H a=some (.dT kvs)/\y=.ref b/\H b=some (.tup (k.map kV))/\kvs.length<sizeLine/\H'=upd H a (.dT (putK kvs k v))
theorem k7.k{H:Hp}{a:Addr}{kvs:List (Key×V)}{k:Key}(e:H a=some (.dK kvs)):k7 H a (kV k) (eO kvs k):=.inl ⟨kvs,k,.inl e,rfl,rfl⟩
section
variable {X:Cx}{a_:Zc}{σ:St}{H:Hp}{s:Shared}{a:Addr}{y v:V}{u r:Value}{o:Option V}{A:Around}{E:Zb}
theorem ad.big(I:ad X a_ σ H s):sysModules<s.heap.objs.size:=by
 have h:mainGlobals<s.heap.objs.size:=(I.mod.glob.keeps I.bk).lt;exact Nat.lt_trans 'c' h
def Ak(hu:A.units+1<cLine)(I:ad X a_ σ H s)(g:k7 H a y (some v))(B:RelV y u)(h:∀w' C,ad X a_ σ H C->RelV v w'->Q w' C):
  wpAny 'b' A (getItem (.ref a) u) Q E s:=by
 rcases g with⟨kvs,k,e,c,l⟩ | ⟨kvs,k,b,e,c,F,l⟩
 .subst c
  obtain⟨z,hd,vs,f,m⟩:=jF I.hok e;obtain⟨w',hw,t⟩:=eL.some_of (v:=v) (o:=valueAt vs k) (by rw[l];exact f.val k);exact wpAny_getItem_of (qf B) m.mapOf hw (h w' _ (I.tok _) t)
 .subst c
  cases(show u=Value.ref b from B);obtain⟨z,hd,xs,f,m⟩:=qg I.hok e;obtain⟨w',hw,t⟩:=eL.some_of (v:=v) (o:=(atKey xs k).map (·.2)) (by rw[l];exact f.val k);obtain⟨p,hp,G⟩:=Option.map_eq_some_iff.mp hw;refine wpAny_getItem_heap (tupleKind_room_in1 hu) (mC I.hok F) m hp ?_;rw[G];exact h w' _ (I.tok _) t
def Lj(hu:A.units+1<cLine)(I:ad X a_ σ H s)(g:k7 H a y o)(p:RelV y u)(h:∀t,ad X a_ σ H t->Q (.bool o.isSome) t):
  wpAny 'b' A (compareOp .In u (.ref a)) Q E s:=by
 rcases g with⟨kvs,k,e,c,l⟩ | ⟨kvs,k,b,e,c,B,l⟩
 .subst c
  obtain⟨z,hd,vs,f,m⟩:=jF I.hok e;refine wpAny_in_of (qf p) hd m.mapOf ?_;rw[←(f.val k).isSome_eq,←l];exact h _ (I.tok _)
 .subst c
  cases(show u=Value.ref b from p);obtain⟨z,hd,xs,f,m⟩:=qg I.hok e;refine wpAny_in_heap (tupleKind_room_in1 hu) (mC I.hok B) hd m ?_;have q:=(f.val k).isSome_eq;rw[Option.isSome_map] at q;rw[←q,←l];exact h _ (I.tok _)
def FQ(hu:A.units+1<cLine)(I:ad X a_ σ H s)(g:k7 H a y o)(p:RelV y u)(h:∀t,ad X a_ σ H t->Q (.bool (!o.isSome)) t):
  wpAny 'b' A (compareOp .NotIn u (.ref a)) Q E s:=by
 rcases g with⟨kvs,k,e,c,l⟩ | ⟨kvs,k,b,e,c,B,l⟩
 .subst c
  obtain⟨z,hd,vs,f,m⟩:=jF I.hok e;refine wpAny_notIn_of (qf p) hd m.mapOf ?_;rw[←(f.val k).isSome_eq,←l];exact h _ (I.tok _)
 .subst c
  cases(show u=Value.ref b from p);obtain⟨z,hd,xs,f,m⟩:=qg I.hok e;refine wpAny_notIn_heap (tupleKind_room_in1 hu) (mC I.hok B) hd m ?_;have q:=(f.val k).isSome_eq;rw[Option.isSome_map] at q;rw[←q,←l];exact h _ (I.tok _)
def nI{t':Nat}(I:ad X a_ σ H s)(mu:uh (H a))(hs:Heap.SameBut a s.heap h')(c:∃q,h'.get? a=some q)(new:aT X.prog X.w (upd H a ob) h' a ob):
  ad X a_ σ (upd H a ob) { s with heap:=h',toks:=t' }:=
 I.write (x:=a) (e:=a) mu (.inl rfl) (λb q hb z=>(hs.2 b hb).trans z) c new
def H9{kvs:List (Key×V)}{vs:List (Key×Value)}(z:kvs.length<=sizeLine)(hd:(a==sysModules)=false)(c:KV kvs vs)(f:h'.DictOf (bt P w) a vs):
  aT P w H' h' a (.dK kvs):=⟨z,hd,vs,c,f⟩
theorem Al{Q:Zo}(hu:A.units+1<cLine)(I:ad X a_ σ H s)(g:Li H a y v H')(C:RelV y u)(F:RelV v r)(h:∀G,ad X a_ σ H' G->Q () G):
  wpAny 'b' A (setItem (.ref a) u r) Q E s:=by
 rcases g with⟨kvs,k,e,p,l,t⟩ | ⟨kvs,k,b,e,p,J,l,t⟩
 .subst p t
  obtain⟨z,hd,vs,f,B⟩:=t3 I.hok e;have hz:vs.length<=sizeLine:=by rw[←f.length];exact z
  have hl:(putK kvs k v).length<=sizeLine:=by have:=oO kvs k v;omega
  refine wpAny_setItem_pairs (hsz:=hz) (qf C) B λh' m hs=>h _ ?_
  have L:∃q,h'.get? a=some q:=let⟨q,_,_,hq,_⟩:=m;⟨q,hq⟩;exact nI I (by rw[e];exact True.intro) hs L (H9 hl hd (f.put k F) m)
 .subst p t
  cases(show u=Value.ref b from C);obtain⟨z,hd,xs,f,B⟩:=Ke I.hok e;have hz:xs.length<=sizeLine:=by rw[←Paired.length f];exact z
  have hl:(putK kvs k v).length<=sizeLine:=by have:=oO kvs k v;omega
  refine wpAny_setItem_heap (hsz:=hz) (tupleKind_room_in1 hu) (mC I.hok J) B λh' m hs=>h _ ?_
  obtain⟨q,es,O,hq,R,S,T,_,U⟩:=m;refine nI I (by rw[e];exact True.intro) hs ⟨q,hq⟩ ⟨hl,hd,_,(f.put k J F).keeps λc ys K=>?_,q,es,O,hq,R,S,T,U⟩;rw[aM (JR K e (λz=>nomatch z))];exact K
end
section
variable {X:Cx}{a_:Zc}{σ:St}{H:Hp}{s:Shared}{a:Addr}{kvs:List (Key×V)}{k:Key}{u:Value}{A:Around}{E:Zb}
theorem ES(I:ad X a_ σ H s)(e:Rd H a (.dK kvs))(h:∀t c,ad X a_ σ H c->Q (.int kvs.length t) c):wpAny 'b' A (call (.builtin "len") [.ref a]) Q E s:=by
 obtain⟨z,hd,vs,f,g⟩:=jF I.hok e;refine call_len_dict hd g (by rw[←f.length];rw[sizeLine_eq] at z;omega) ?_;rw[←f.length];exact h _ _ (I.tok _)
end
def wz{X:Cx}{o:Option V}(I:ad X a_ σ H s)(g:k7 H b y o):s.TypeIs (.ref b) "dict":=by
 rcases g with⟨kvs,k,e,_,_⟩ | ⟨kvs,k,a,e,_,_,_⟩
 .obtain⟨_,_,vs,_,c⟩:=jF I.hok e
  exact c.typeIs
 .obtain⟨_,_,xs,_,c⟩:=qg I.hok e
  exact c.typeIs
def uz(h:Heap)(hb:sysModules<h.objs.size):aT P w H (h.push { cls:=.type "dict",data:=.dict #[] }) h.objs.size (.dK []):=
 ⟨YL _,ZQ.mpr (Ne.symm (ZT hb)),[],.nil,Heap.DictOf.new h⟩
def Ia:TE:=λ_ H Q=>∀p,H p=none->Q (.ref p) (upd H p (.dK []))
section
variable {X:Cx}{pos:Pos}
def Cg:PE X (.Dict [] [] pos) Ia:=λa_ s σ H Q I h=>
 wpAny_Dict_empty ⟨.ref s.heap.objs.size,_,I.laid (a:=s.heap.objs.size) (o:=.dK []) (t':=s.toks) (λ_ _ q=>Yd _ q) (YF _) (uz s.heap I.big),rfl,h _ (I.hok.fresh (YF _))⟩
end
structure M1 (X:Cx) (o:Expr) (m:Str) (n_:Pos) (e:Expr) (A_:Pos):Prop where
 base:attributeBase o m X.env (eval o X.env)=eval o X.env
 few:((backTo A_ (starEach [e] X.env)).all (λx=>!x.1)&&(backToKw A_ (keywordEach [] X.env)).all (λx=>x.1.isSome)
  && decide (([e]:List Expr).length+([]:List Keyword).length+(if([]:List Keyword).isEmpty then 0 else 1)<30))=true
 line:(n_.endLine==A_.line)=true
 trees:backTo A_ (starEach [e] X.env)=[(false,eval e X.env)]
structure M2 (X:Cx) (o:Expr) (m:Str) (n_:Pos) (e f:Expr) (A_:Pos):Prop where
 base:attributeBase o m X.env (eval o X.env)=eval o X.env
 few:((backTo A_ (starEach [e,f] X.env)).all (λx=>!x.1)&&(backToKw A_ (keywordEach [] X.env)).all (λx=>x.1.isSome)
  && decide (([e,f]:List Expr).length+([]:List Keyword).length+(if([]:List Keyword).isEmpty then 0 else 1)<30))=true
 line:(n_.endLine==A_.line)=true
 trees:backTo A_ (starEach [e,f] X.env)=[(false,eval e X.env),(false,eval f X.env)]
end L2
namespace Att
open PySem PySem.W PySem.Calls PyProof.Rows
variable {n:Nat}{h:Heap}
def qh{P:Params}:∀(ns:Zi) (vs:Zd),WellAll P h vs (ns.map WData.int)->IntsAre vs ns:=by
 intro ns;induction ns with
 |nil=>
  intro vs w;rw[YY] at w;cases w;exact .nil
 |cons n ns c=>
  intro vs w;rw[YK] at w;cases w with
  |cons a b=>
   cases a;exact .cons _ _ (c _ b)
theorem Am{l:OpenLaw}(hn:l.most=some n){P:Params}{args:List WData}{b:Zd}
  (g:l.row.toRowW.claim.pre args=true) (j:WellAll P h b args):
  ∃a vs ns,b=[Value.ref a]/\args=[WData.list (ns.map WData.int)]/\h.get? a=some { cls:=.type "list",data:=.seq vs.toArray }/\IntsAre vs ns/\ns.length<=n:=by
 have k:WShape.hasAll [] args [.list .int]=true:=(pre_splitW g).1;have hc:l.pre.holds [] { args:=args }=true:=(pre_splitW g).2;obtain⟨d,r,rfl,h1,m⟩:=hasAllW_cons k;obtain rfl:=hasAllW_nil m;obtain⟨xs,rfl,p⟩:=hasW_list h1;obtain⟨ns,rfl⟩:=items_int p;have t:ns.length<=n:=by
  unfold OpenLaw.pre at hc;have c:(WTm.not (.lt (.lit (.int (n:Int))) (.len (.arg 0)))).holds [] { args:=[.list (ns.map .int)] }=true:=by
   have c:=(holds_andW hc).1;rw[hn] at c;exact c
  have f:=condW_of c (w_not (w_lt w_lit (w_len_list (w_arg rfl))));rw[ZF] at f;refine Nat.le_of_not_lt λq=>?_
  have A:(n:Int)<((ns.length:Nat):Int):=by omega
  first
   |(rw[YU A] at f;exact absurd f 'c')
   |(simp at f;omega)
 cases j with
 |cons B C=>
  cases C;cases B with
  |list ho E=>exact⟨_,_,ns,rfl,rfl,ho,qh ns _ E,t⟩
def An(l:OpenLaw)(args:List WData):l.row.toRowW.claim.post args (.bool true) args=true:=
 postW_of (r:=l.row.toRowW) (X:=(true==true))
  (show WShape.has [] (.bool true) .bool=true by first | rfl | decide | simp[WShape.has,WShape.arms,WShape.armsAll])
  (show(WTm.eq .res (.lit (.bool true))).value [] { args:=args,res:=some (.bool true),after:=args }=some (.bool (true==true)) from w_eq_bool (w_res rfl) w_lit) rfl
def wA{l:OpenLaw}{q:Zv}{loose:Zf}{XP:(Str->Option Value)->Heap->Prop}{YP:World->Heap->Prop}{d:DefRec}
  (hn:l.most=some n) (t:d.params.defaults=[])
  (call:∀(w:World) (s₀ b:Shared) (mg mb:Ze) (g:Addr) (o:Obj) (pm j v_:Value) (a:Addr) (vs:Zd) (ns:Zi),
   Ground q loose [] XP w s₀ mg mb b.heap->YP w b.heap ->
   b.heap.get? g=some o->o.data=.func (docDef d.name d.params d.body d.scope pm j v_)->b.heap.CodeRec j d.name->mg d.name=some (.ref g) ->
   b.heap.get? a=some { cls:=.type "list",data:=.seq vs.toArray }->IntsAre vs ns->ns.length<=n->b.gens = #[] ->
   codeAny (model l.prog w) callerA (.call (.ref g) ⟨[.ref a],[]⟩) (λr k=>r=.ok (.ret (.bool true))/\OldK b.heap k.heap/\k.os=b.os/\AllBare k.gens) b):
  WalkO q loose XP YP l.row.toRowW d [] (λf vs=>PySem.call f vs):=by
 intro w s₀ b mg mb G Y g o pm j v_ A kV ho hd B m C E args p as F R S I T;obtain rfl:A=.none:=Dflts.none m t;obtain rfl:kV=.none:=Dflts.noKw m;obtain⟨a,vs,ns,rfl,rfl,J,c,K⟩:=Am hn F I;refine enter_call (codeAny_mono (call w s₀ b mg mb g o pm j v_ a vs ns G Y ho (fd_plain hd) B C J c K E) λr k hq=>?_);obtain⟨rfl,L,O,P⟩:=hq;exact⟨.inl ⟨.bool true,.bool true,[],rfl,λ_=>rfl,.bool true,An l _,λ_=>⟨List.Pairwise.nil,λ_ hm=>(nomatch hm)⟩⟩,L,O,P⟩
section
variable {prog:Zv}{w:World}{A:Around}{E:Zb}{s:Shared}{K:Frag}
end
end Att
namespace L2
open PySem PySem.Spec PyProof.Rows
variable {y i':Str}{n i:Nat}{a c:Addr}{own N ps:Zf}{scope Mh:Scope}{iter E_ tg:Expr}{ifs:Zg}{env:Env}{tc:TT}{r_ ct pm v_ it oc:Value}{py pos Ng:Pos}{st:Stmt}{fd:Zu}{wi:TI}{g:TG}{te:TE}{X:Cx}{an od:Zm}{P:Zv}{J_:Zn}{mb mg:Ze}{vs:Zd}{K:Za}{sp:Sp}{ex:Zh}{b:String}{H':Hp}{h h':Heap}
theorem sX:∀{vs:Zd}{ns:Zi},IntsAre vs ns->ak (ns.map V.int) vs
 |_,_,.nil=>.nil
 |_,_,.cons n t h=>.cons ⟨t,rfl⟩ (sX h)
def Ch(H:Hp):Prop:=∀b,H b=none \/ ∃o xs,H b=some (.frz o (.lst xs))
def Ci{w:World}{CX:oM}{f:Shared}{ns:Zi}
  (A:K.In f.heap) (B:f.heap.Ns mainGlobals mg) (hb:f.heap.Ns builtinsNs mb) (O:∀y:Str,y ≠ "__name__"->mb y=bootBuiltins y) (R:f.heap.NoLimit) (S:f.gens = #[])
  (ha:f.heap.get? a=some { cls:=.type "list",data:=.seq vs.toArray }) (hi:IntsAre vs ns) (hl:ns.length<=sizeLine) (T:bK n callerA)
  (F:∀base:Heap,K.In base->base.Ns mainGlobals mg->eM P w K mg base CX n c fd [y] sp) (U:∀(s:Shared) (u:Value),BindsTo s fd ⟨[u],[]⟩ [(y,u)])
  (W:∀H:Hp,Ch H->aX K H a (ns.map V.int)->sp [.ref a] H (λv _=>v=.bl true) λ_ _ _=>False)
  (Y:∀H e j,CX [] H f 'f' e j->False):
  codeAny (model P w) callerA (.call (.ref c) ⟨[.ref a],[]⟩) (λr j=>r=.ok (.ret (.bool true))/\OldK f.heap j.heap/\j.os=f.os/\AllBare j.gens) f:=by
 have C:=sX hi;have Z:=hi.length
 -- from an abstract heap in which nothing but the script may be tracked
 have l:∀H:Hp,Ch H->aX K H a (ns.map V.int)->ca P w H f.heap->(∀b,H b≠none->b=a)->(H a≠none->K.lookup a=none) ->
   codeAny (model P w) callerA (.call (.ref c) ⟨[.ref a],[]⟩) (λr j=>r=.ok (.ret (.bool true))/\OldK f.heap j.heap/\j.os=f.os/\AllBare j.gens) f:=by
  intro H E hS hok G hK;have I:∀{b:Addr}{o:Obj},f.heap.get? b=some o->H b=none->(kZ f.heap H).get? b=some o:=λe k=>BM e k
  have PJ:∀{b:Addr}{o:Obj}{es:Array DictEntry}{p:Nat},f.heap.get? b=some o->o.data=.dict es p->H b=none:=λ{b o es p} e d=>by
   cases q:H b with
   |none=>rfl
   |some u=>
    have e':b=a:=G b (by rw[q];simp);subst e';rw[ha] at e;cases e;have d':Data.seq vs.toArray _=Data.dict es p:=d;cases d'
  have t:∀{b:Addr}{m:Ze},f.heap.Ns b m->(kZ f.heap H).Ns b m:=λ{b m} ⟨o,es,p,e,d,r⟩=>⟨o,es,p,I e (PJ e d),d,r⟩
  have J:K.In (kZ f.heap H):=λb o e=>I (A b o e) (by
   cases q:H b with
   |none=>rfl
   |some u=>
    have e':b=a:=G b (by rw[q];simp);subst e';rw[hK (by rw[q];simp)] at e;cases e)
  have hM:Mod K mg (kZ f.heap H):=⟨J,t B,⟨mb,t hb,O⟩,let⟨mc,h1,h2⟩:=R;⟨mc,t h1,h2⟩⟩;have e0:dv P w K mg (kZ f.heap H) callerA [] f H:=⟨rfl,hM,λb o e=>Fn e,Nat.le_of_eq (z6 _ _),trivial,λb hb=>absurd (show b∈([]:List Addr) from hb) (by simp),hok,.of_eq S⟩;refine codeAny_mono ((F _ J (t B)).run callerA [] f H ⟨[.ref a],[]⟩ [.ref a] [.ref a] _ _ T e0 (U f (.ref a)) (.cons rfl .nil) (W H E hS)) λr j h=>?_
  cases r with
  |error e=>exact(Y H e j h).elim
  |ok fl=>
   cases fl with
   |next=>exact Yh h
   |brk=>exact Yh h
   |cont=>exact Yh h
   |ret u=>
    obtain⟨v,H',os,bare,un,OO,r',q⟩:=h;have q':v=.bl true:=q;subst q';obtain rfl:u=Value.bool true:=r';refine⟨rfl,OldK.of_keep λb o e=>?_,os,bare⟩;cases q:H b with
    |none=>exact un.keep b o e q (by intro z;exact absurd (show b∈([]:List Addr) from z) (by simp)) (by simp)
    |some u=>
     rcases E b with z | ⟨ob,xs,z⟩
     .rw[q] at z;cases z
     .have z2:=un.frzs b ob _ z
      obtain⟨L,_⟩:=hok b _ z;obtain⟨e2,_⟩:=OO b _ z2;rw[e] at L;cases L;exact e2
 cases hk:K.lookup a with
 |some o=>
  -- the script is one of the module's own objects
  have e:=A a o hk;rw[ha] at e;cases e;refine l (λ_=>none) (λ_=>.inl rfl) (.inr ⟨_,vs.toArray,_,hk,rfl,rfl,rfl,by rw[YH,Z];exact hl,by simpa using C⟩) (λb u z=>by have z':(none:Option HO)=some u:=z;cases z') (λb z=>absurd rfl z) λz=>absurd rfl z
 |none=>
  refine l (λb=>if b=a then some (.frz { cls:=.type "list",data:=.seq vs.toArray } (.lst (ns.map V.int))) else none) (λb=>?_) (.inl (.inr ⟨{ cls:=.type "list",data:=.seq vs.toArray },if_pos rfl⟩)) (λb u z=>?_) (λb z=>?_) λ_=>hk
  .by_cases hb:b=a
   .exact .inr ⟨_,_,if_pos hb⟩
   .exact .inl (if_neg hb)
  .by_cases hb:b=a
   .have z':=(if_pos hb).symm.trans z
    cases z';subst hb;exact⟨ha,by rw[ZF];exact hl,vs,_,C,ha⟩
   .have z':=(if_neg hb).symm.trans z
    cases z'
  .by_cases hb:b=a
   .exact hb
   .exact absurd (if_neg hb) z
def FR{l:PySem.W.OpenLaw}{k:Nat}{XP:(Str->Option Value)->Heap->Prop}{YP:World->Heap->Prop}{d:DefRec}{K:Params->PySem.W.Frag}{CX:World->oM}{sp:World->Sp}{x:Str}
  (hn:l.most=some n) (A:n<=sizeLine) (B:d.params.defaults=[]) (C:bK k callerA)
  (E:∀(w:World) (h:Heap),YP w h->(K w.params).In h)
  (F:∀(w:World) (mg:Ze) (m:Addr) (h:Heap),(K w.params).In h->h.Ns mainGlobals mg->mg d.name=some (.ref m) ->
   ∃fd:FuncData,(∀(s:Shared) (u:Value),BindsTo s fd ⟨[u],[]⟩ [(x,u)]) /\
    ∀base:Heap,(K w.params).In base->base.Ns mainGlobals mg->eM l.prog w (K w.params) mg base (CX w) k m fd [x] (sp w))
  (I:∀(w:World) (H:Hp) (a:Addr) (ns:Zi),ns.length<=n->Ch H->aX (K w.params) H a (ns.map V.int)->sp w [.ref a] H (λv _=>v=.bl true) λ_ _ _=>False)
  (J:∀(w:World) (H:Hp) (s:Shared) (e:Value) (p:Shared),CX w [] H s 'f' e p->False):
  PySem.W.WalkO P N XP YP l.row.toRowW d [] (λf vs=>PySem.call f vs):=by
 refine Att.wA hn B λw s₀ L mg mb m o pm cd v_ a vs ns G Y ho hd Nn O R j r S=>?_
 have t:=E w _ Y;obtain⟨fd,hb,U⟩:=F w mg m _ t G.T.g O;exact Ci t G.T.g G.T.b G.T.builtins G.T.nolimit S R j (ZW r A) C U hb (λH Z hS=>I w H a ns r Z hS) λH e p=>J w H L e p
def inClass(s:Stmt)(j:Nat):Stmt:=match s with
 |.ClassDef _ _ _ body _ _ _ _ _ _ _=>body.getD j (.Pass ⟨0,0,0,0⟩)
 |_=>.Pass ⟨0,0,0,0⟩
def bp(s:Stmt):Arguments:=match s with
 |.FunctionDef _ a _ _ _ _ _ _ _ _=>a
 |_=>{ posonlyargs:=[],args:=[],vararg:=none,kwonlyargs:=[],kw_defaults:=[],kwarg:=none,defaults:=[] }
def aO(s:Stmt):List Stmt:=match s with
 |.FunctionDef _ _ b _ _ _ _ _ _ _=>b
 |_=>[]
def ai(s:Stmt):Scope:=match s with
 |.FunctionDef _ _ _ _ _ _ sc _ _ _=>sc
 |_=>{ kind:=.function,names:=[],isGenerator:=false,isCoroutine:=false }
abbrev jG:oM:=λ_ _ _ _ _ _=>False
abbrev E0:XK:=λ_ _ _=>False
def t4:mx jG X E0:=λ_ _ _ _ _ _ _ h=>h.elim
structure qi (K:Za) (x i':Str) (st:Stmt) (f:Addr) (fd:Zu):Prop where
 ex:∃(oc:Value) (od:Zm) (kV v_ pm:Value) (an:Zm) (r_ ct:Value) (J_:Zn),
  fd=PySem.W.fnOf x i' (bp st) (aO st) (ai st) .none kV v_ pm an r_ ct/\K.lookup f=some ⟨oc,od,.func fd,J_⟩/\PySem.W.codeIn K r_ i'=true
 kp:PySem.W.keepIn K (.ref f)=true
section
variable {P:Zv}{w:World}{K:Za}{mg:Ze}{base:Heap}
theorem qi.ok(F:qi K y i' st a fd)(S:bX N ps (ai st))(len:∀vs H Q E,sp vs H Q E->vs.length=ps.length)
  (f:∀(r_:Value) (A:Around) (outer:List Env) (s:Shared) (H:Hp) (vs:List V) (Q:VK) (E:XK),bK n (A.deeper (envOfC i' (ai st) s.heap.objs.size a r_))->sp vs H Q E ->
   ∃t,jE (my jG P w K mg base N i' (ai st) a r_ A outer s H E).nox (aO st) t/\t { nx:=λ_ H'=>Q .non H',rt:=Q } (start N vs) H):eM P w K mg base jG (n+1) a fd ps sp:=by
 obtain⟨oc,od,kV,v_,pm,an,r_,ct,J_,rfl,j,k⟩:=F.ex;refine J9 j k S len λA outer s H vs Q E l m=>?_
 obtain⟨t,h,q⟩:=f r_ A outer s H vs Q E l m;exact⟨t,h.nox,q⟩
theorem qi.binds(F:qi K y i' st a fd)
  (h:∀(kV v_ pm:Value) (an:Zm) (r_ ct:Value) (us:Zd),us.length=ps.length->bindArgs (PySem.W.fnOf y i' (bp st) (aO st) (ai st) .none kV v_ pm an r_ ct) ⟨us,[]⟩=pure (ps.zip us)):Binds K fd ps []:=by
 obtain⟨oc,od,kV,v_,pm,an,r_,ct,J_,rfl,f,j⟩:=F.ex;exact .all (h kV v_ pm an r_ ct)
def uA(l:K.lookup a=some ⟨oc,od,.func (PySem.W.fnOf y i' (bp st) (aO st) (ai st) .none it v_ pm an r_ ct),J_⟩)
  (c:PySem.W.codeIn K r_ i'=true) (k:PySem.W.keepIn K (.ref a)=true):qi K y i' st a (PySem.W.fnOf y i' (bp st) (aO st) (ai st) .none it v_ pm an r_ ct):=⟨⟨oc,od,it,v_,pm,an,r_,ct,J_,rfl,l,c⟩,k⟩
end
def sY(h:n<=1000):n<sizeLine:=Nat.lt_of_le_of_lt h 'c'
section
variable {X:Cx}
def Ao:dA X (.builtin "len") (λxs H Q=>∃a kvs,xs=[V.ref a]/\H a=some (.dK kvs)/\Q (.int kvs.length) H):=by
 intro a_ s σ H xs us Q I r h;obtain⟨a,kvs,rfl,ha,q⟩:=h;obtain⟨u,rfl,f⟩:=vals1 r;cases f;exact ES I (.inl ha) λt k j=>⟨.int kvs.length,H,j,⟨t,rfl⟩,q⟩
end
def ie(cells:Zq):List (Str×NameKind)->List (Str×Addr)->List (Str×Addr)
 |[],e_=>e_
 |(n,k)::r,e_=>ie cells r (if k==.free then(n,(cells.lookup n).getD 0)::e_ else e_)
def mD(scope:Scope)(env:Env):List (Str×Addr):=ie env.cells scope.names []
def tP(h:∀x∈scope.names,x.2=.free->∃c,env.cells.lookup x.1=some c):closureFor scope env=pure (mD scope env):=by
 have j:∀(l:List (Str×NameKind)) (e_:Zq),(∀x∈l,x.2=.free->∃c,env.cells.lookup x.1=some c) ->
   (forIn l e_ λ(x:Str×NameKind) (m:Zq)=>
    (if x.2==.free then(do let c ←cellOf env x.1;pure (ForInStep.yield ((x.1,c)::m))) else pure (ForInStep.yield m):Sem (ForInStep (List (Str×Addr)))))=pure (ie env.cells l e_):=by
  intro l;induction l with
  |nil=>intro e_ _;rfl
  |cons x r t=>
   intro e_ hx;obtain⟨n,k⟩:=x;have f:=t (if k==.free then(n,(env.cells.lookup n).getD 0)::e_ else e_) λy hy=>hx y (ZY _ hy)
   rw[List.forIn_cons];by_cases hk:k=.free
   .subst hk
    obtain⟨c,hc⟩:=hx (n,.free) ZX rfl;have e:cellOf env n=pure c:=by unfold cellOf;rw[hc]
    have p:env.cells.lookup n=some c:=hc;simp only[XD,if_true,p,XE] at f;simp only[XD,if_true,e,pure_bind];rw[f];simp only[ie,XD,if_true,p,XE]
   .have hb:(k==NameKind.free)=false:=by simpa using hk
    simp only[hb,XF,if_false] at f;simp only[hb,XF,if_false,pure_bind];rw[f];simp only[ie,hb,XF,if_false]
 have:=j scope.names [] h
 unfold closureFor mD;simp only[bind_pure];exact this
theorem qj{cells:Zq}:∀{l:List (Str×NameKind)}{e_:Zq}{p:Str×Addr},p∈ie cells l e_->p∈e_\/((p.1,NameKind.free)∈l/\p.2=(cells.lookup p.1).getD 0)
 |[],_,_,h=>.inl h
 |(n,k)::r,e_,p,h=>by
  rcases qj (l:=r) h with q | ⟨q1,q2⟩
  .by_cases hk:k=.free
   .subst hk
    simp only[XD,if_true] at q;rcases ZZ.mp q with e | q
    .subst e;exact .inr ⟨ZX,rfl⟩
    .exact .inl q
   .have hb:(k==NameKind.free)=false:=by simpa using hk
    simp only[hb,XF,if_false] at q;exact .inl q
  .exact .inr ⟨ZY _ q1,q2⟩
theorem qk{cells:Zq}:∀{l:List (Str×NameKind)}{e_:Zq}{p:Str×Addr},p∈e_->p∈ie cells l e_
 |[],_,_,h=>h
 |(n,k)::r,e_,p,h=>by
  refine qk (l:=r) ?_;split
  .exact ZY _ h
  .exact h
theorem ql{cells:Zq}:∀{l:List (Str×NameKind)}{e_:Zq}{n:Str},(n,NameKind.free)∈l->∃c,(n,c)∈ie cells l e_
 |(m,k)::r,e_,n,h=>by
  rcases ZZ.mp h with e | h
  .cases e
   exact⟨_,qk (l:=r) (by simp only[XD,if_true];exact ZX)⟩
  .exact ql (l:=r) h
theorem ig{f:Type}:∀{l:List (Str×f)}{n:Str}{c:f},(n,c)∈l->∃d,l.lookup n=some d
 |(m,d)::r,n,c,h=>by
  rcases ZZ.mp h with e | h
  .cases e;exact⟨d,by simp[XG]⟩
  .cases hb:n==m with
   |true=>exact⟨d,by simp[XG,hb]⟩
   |false=>
    obtain⟨d',e⟩:=ig (l:=r) h;exact⟨d',by simp[XG,hb,e]⟩
def ii(h:∀x∈scope.names,x.2=.free->∃c,env.cells.lookup x.1=some c)(e:(mD scope env).lookup y=some c):env.cells.lookup y=some c:=by
 have m:=PySem.mem_of_lookup e;rcases qj m with z | ⟨z1,z2⟩
 .cases z
 .obtain⟨c',k⟩:=h _ z1 rfl
  have f:env.cells.lookup y=some c':=k;have j:c=(env.cells.lookup y).getD 0:=z2;rw[f] at j;rw[f,j];rfl
def Ap(h:∀x∈scope.names,x.2=.free->∃c,env.cells.lookup x.1=some c)(hy:(y,NameKind.free)∈scope.names)(e:env.cells.lookup y=some c):
  (mD scope env).lookup y=some c:=by
 obtain⟨c',m⟩:=ql (cells:=env.cells) (e_:=[]) hy;obtain⟨d,q⟩:=ig m;have f:(mD scope env).lookup y=some d:=q
 have:=ii h f
 rw[e] at this;rw[f,←this]
theorem d8{env:Env}:∀{names:List (Str×NameKind)}{x:Str},
  (names.map λ(n,k)=>if(k==NameKind.free&&env.scope.kind==.function&&env.kindOf n==some .cell) then(n,NameKind.cell) else(n,k)).lookup x =
   (names.lookup x).map λk=>if(k==NameKind.free&&env.scope.kind==.function&&env.kindOf x==some .cell) then NameKind.cell else k
 |[],_=>rfl
 |(n,k)::r,x=>by
  have f:=@d8 env r x;show List.lookup x ((if(k==NameKind.free&&env.scope.kind==.function&&env.kindOf n==some .cell)=true then(n,NameKind.cell) else(n,k))::_)=_;cases hx:x==n with
  |true=>
   have e:x=n:=by simpa using hx
   subst e;by_cases hc:(k==NameKind.free&&env.scope.kind==.function&&env.kindOf x==some .cell)=true
   .rw[if_pos hc];simp only[XG,XD,XH];rw[if_pos hc]
   .rw[if_neg hc];simp only[XG,XD,XH];rw[if_neg hc]
  |false=>
   by_cases hc:(k==NameKind.free&&env.scope.kind==.function&&env.kindOf n==some .cell)=true
   .rw[if_pos hc];simp only[XG,hx];exact f
   .rw[if_neg hc];simp only[XG,hx];exact f
structure fU (Mh scope:Scope) (N own N2:Zf):Prop where
 kind:scope.kind=.function
 nocell:∀y∈scope.names,y.2≠.cell
 names:∀y∈scope.names,y.2=.local->scope.names.lookup y.1=some .local
 free:∀y∈scope.names,y.2=.free->(Mh.names.lookup y.1=some .cell\/Mh.names.lookup y.1=some .free)
 len:N2.length=N.length
 vis:∀p∈N2.zip N,(scope.names.lookup p.1=some .free->p.1=p.2)/\scope.names.lookup p.1≠some .local
def cY(X:Cx)(scope:Scope)(own N2:Zf)(C:Addr)(s:Shared)(H:Hp)(ex:Zh)(pn:Zc):Cx where
 prog:=X.prog
 w:=X.w
 K:=X.K
 mg:=X.mg
 base:=X.base
 A:=X.A
 N:=N2++own
 s₀:=s
 H₀:=H
 env:=compEnvC scope (mD scope X.env) C X.env
 outer:=X.stack
 stack:=X.stack
 ex:=ex
 calm:=X.calm
 fn:=λ_=>false
 pn:=pn
 xe:=λ_ _=>False
theorem Un.track{fs:Zh}{H:Hp}{o:HO}(u:Un fs ex H H' h h')(hp:h.objs.size<=a)(hn:H a=none):Un fs ex H (upd H' a o) h h' where
 keep:=u.keep
 slot:=u.slot
 free:=λb ob q n hx=>by rw[aM (ZT (ZR (Ye q) hp))];exact u.free b ob q n hx
 there:=u.there
 tups:=λb xs q=>by rw[aM (bc q hn)];exact u.tups b xs q
 frzs:=λb ob xs q=>by rw[aM (bc q hn)];exact u.frzs b ob xs q
 tbls:=λb ps q=>by rw[aM (bc q hn)];exact u.tbls b ps q
def Aq(X:Cx)(ifs:Zg)(t:TT):Prop:=
 ∀(a_:Zc) (s:Shared) (σ:St) (H:Hp) (Q:Bool->Hp->Prop),ad X a_ σ H s->t σ H Q ->
  wpAny 'b' X.A (forIn ifs true λc r=>if r=true then do let ok ←isTrue c X.env (eval c X.env);pure (ForInStep.yield ok) else pure (ForInStep.yield r)) (TP X a_ σ Q) X.xe s
def Lk:TT:=λ_ H Q=>Q true H
def FS:Aq X [] Lk:=λ_ _ _ H _ I h=>wpAny_tests_nil ⟨H,I,h⟩
def FT(h:PT X E_ tc):Aq X [E_] tc:=λa_ s σ H Q I q=>wpAny_tests_one (h a_ s σ H Q I q)
def t5(J:It)(g:TG)(tc:TT)(te:TE)(Fin:List V->Hp->Prop)(σ0:St)(H1:Hp):Prop:=
 ∃W:Nat->Nat->List V->St->Hp->Prop,(∃m,W 0 m [] σ0 H1)/\∀i m ys σ H,W i m ys σ H ->
  (J.stop i H/\Fin ys H)\/(J.go i H/\ys.length<sizeLine/\∃N:List V->St->Hp->Prop,(∀j k H',N j k H'->∃m',m'<m/\W (i+1) m' j k H') /\
   ∀x H',J.yld i H x H'->g x σ H' λf H2=>tc f H2 λb H3=>if b=true then te f H3 (λy l=>N (ys++[y]) f l) else N ys f H3)
section
variable {prog:Zv}{w:World}{A:Around}{R:Result->Shared->Prop}{s:Shared}
def oF(I:Nat->Shared->Prop)
  (f:∀n s,I n s->wpAny 'e' A (pyNext it) (λr j=>match r with
   |none=>R (.ok .next) j
   |some v=>wpAny 'e' A (letOwnedTupleGo tg it v) (λ_ l=>wpAny 'e' A (assign tg env v) (λ_ p=>
     wpAny 'e' A (forIn ifs true λc r=>if r=true then do let ok ←isTrue c env (eval c env);pure (ForInStep.yield ok) else pure (ForInStep.yield r)) (λok k=>
      if ok=true then wpAny 'e' A (eval E_ env) (λx t=>
       wpAny 'e' A (call (.builtin "list.append") [r_,x]) (λ_ B=>∃m,m<n/\I m B) (λ_ _=>False) t) (λ_ _=>False) k
      else ∃m,m<n/\I m k) (λ_ _=>False) p) (λ_ _=>False) l) (λ_ _=>False) j) (λ_ _=>False) s)
  (n:Nat) (h:I n s):
  codeAny 'e' A (.compLoop (.ListComp E_ [⟨tg,iter,ifs,0⟩] scope pos) 0 it r_ env) R s:=by
 refine codeAny_loop rfl I (λn s F=>?_) n h;show wpAny _ A ((compTurn (.ListComp E_ [⟨tg,iter,ifs,0⟩] scope pos) 0 it r_ env).onRaise (λx=>do noteFrame x env;theTreesLotGoes x)) _ _ s;refine wpAny_noted (wpAny_noRaise ?_);rw[compTurn_list];refine Yb (Yk (Yb (wpAny_mono (f n s F) (λr j C=>?_) λ_ _ h'=>h')));cases r with
 |none=>exact Yc C
 |some v=>
  refine Yb (wpAny_mono C (λ_ l G=>?_) λ_ _ h'=>h');refine Yb (wpAny_mono G (λ_ p J=>Yb (wpAny_mono J (λok k E=>?_) λ_ _ h'=>h')) λ_ _ h'=>h');cases ok with
  |false=>exact Yc ⟨rfl,E⟩
  |true=>
   exact Yb (Yb (wpAny_mono E (λx t L=>Yb (wpAny_mono L (λ_ B O=>Yc (Yc ⟨rfl,O⟩)) λ_ _ h'=>h')) λ_ _ h'=>h'))
end
section
variable {X:Cx}{a_:Zc}{σ:St}{H:Hp}{s:Shared}
theorem sZ{use:Option (Value->Sem Unit)}{QQ:Zb}{Fin:List V->Hp->Prop}
  (B:fU Mh scope N own ps) (ho:X.env.scope=Mh) (hN:X.N=N) (hc:X.calm=true) (hi:PI X tg iter wi)
  (hg:∀C s H ex pn,PG (cY X scope own ps C s H ex pn) tg g) (ht:∀C s H ex pn,Aq (cY X scope own ps C s H ex pn) ifs tc) (he:∀C s H ex pn,PE (cY X scope own ps C s H ex pn) E_ te)
  (I:ad X a_ σ H s) (h:wi σ H λJ H1=>t5 J g tc te Fin (σ++List.replicate own.length none) H1)
  (fin:∀(D C:Addr) (ys:List V) (H':Hp) (F:Shared) (m:Ze),Fin ys H'->H' D=none->ad X a_ σ (upd H' D (.lst ys)) F->F.heap.Ns C m->mr X a_ (upd H' D (.lst ys)) C ->
   compPost 'b' X.A X.xe use QQ (.ref D) C (.ok .next) F)
  (hs:∀x,foldedSetIterable iter X.env x=pure x):
  wpAny 'b' X.A (comprehension (.ListComp E_ [⟨tg,iter,ifs,0⟩] scope pos) scope X.env py (newList []) false (eval iter X.env) use) QQ X.xe s:=by
 subst ho hN;have E:∀x∈scope.names,x.2=.free->∃c,X.env.cells.lookup x.1=some c:=λx hx hf=>I.ok.has x.1 (B.free x hx hf)
 refine wpAny_comprehension_free (use:=use) rfl hs (tP E) B.kind B.names (aL (hi a_ s σ H _ I h) λv s1 h1=>aL h1 λRi s2 h2=>?_);obtain⟨it,fp,tn,J,H2,e,f,T,MR,L,W,⟨m0,w0⟩,ac⟩:=h2;subst e;refine wpAny_newObj_type (wpAny_newFunctionEnv B.nocell (by intro y hy;simp at hy) (λMi ME Mj=>?_) B.kind);dsimp only at ME Mj ⊢;generalize hG:s2.heap.push { cls:=.type "list",dict:=none,data:=.seq ([]:List Value).toArray }=G at ME Mj ⊢;have hC:G.objs.size=s2.heap.objs.size+1:=by rw[←hG,Heap.size_push]
 have QS:s2.heap.objs.size≠G.objs.size:=by rw[hC];exact ZT (Nat.lt_succ_self _)
 have OP:s2.heap.objs.size<=G.objs.size:=by rw[hC];exact YM _
 have j:∀b,b<s2.heap.objs.size->b≠G.objs.size/\b≠s2.heap.objs.size:=λb hb=>⟨by rw[hC];exact ZT (Nat.lt_succ_of_lt hb),ZT hb⟩
 have t:∀b o,s2.heap.get? b=some o->Mi.get? b=some o:=λb o e=>Mj.extBut b o (j b (Ye e)).1 (Yd _ (hG▸Yd _ e))
 have p_:Mi.get? s2.heap.objs.size=some (LCg.lst []):=Mj.extBut _ _ QS (Yd _ (hG▸Yg _ rfl));have NS:∀b∈fp,b<s2.heap.objs.size:=λb hb=>let⟨o,e,_⟩:=T.obj 0 _ MR b hb;Ye e
 have T6:H2 s2.heap.objs.size=none:=f.hok.fresh (YF _);have Vb:H2 G.objs.size=none:=f.hok.fresh OP;have OQ:∀x c,X.env.cells.lookup x=some c->c<s2.heap.objs.size:=λx c e=>let⟨v,z⟩:=f.cell x c e;z.lt
 have P5:∀p∈X.pn++a_,p.1<s2.heap.objs.size:=λp hp=>Ye (f.pin p hp).1
 -- the block's context
 generalize hX:cY X scope own ps G.objs.size s2 H2 fp (X.pn++a_)=l;have OO:l.Ok:=by
  subst hX;refine⟨f.ok.mod,B.kind,f.ok.glob,f.ok.blt,OP,λx y c e1 S=>f.ok.inj x y c (ii E e1) (ii E S),λx hx=>?_,λx c hf=>?_,f.ok.hd,f.ok.frames,.inl rfl,λb hb=>?_,f.bs,
   ZW f.ok.bsz f.sz,λb o e hb=>?_,λb hb hz=>?_,f.stack,f.stkFree⟩
  .have U:(relabel scope X.env).names.lookup x=some .cell\/(relabel scope X.env).names.lookup x=some .free:=hx
   unfold relabel at U;dsimp only at U;rw[d8] at U;have hm:∃k,scope.names.lookup x=some k:=by
    cases q:scope.names.lookup x with
    |none=>rw[q] at U;rcases U with z | z<;>cases z
    |some k=>exact⟨k,rfl⟩
   obtain⟨k,hk⟩:=hm;have LZ:=PySem.mem_of_lookup hk;have Vc:k=.free:=by
    rw[hk] at U;cases k with
    |free=>rfl
    |cell=>exact absurd rfl (B.nocell _ LZ)
    |_=>rcases U with z | z<;>cases z
   subst Vc;obtain⟨c,hc⟩:=E _ LZ rfl;exact⟨c,Ap E LZ hc⟩
  .cases hf
  .obtain⟨_,f1,ff,fx,fc,T7⟩:=L b hb
   exact⟨(j b (NS b hb)).1,λx c e=>fc x c (ii E e)⟩
  .obtain⟨_,_,_,fx,_,_⟩:=L b hb
   rcases fx with z | z
   .exact f.ok.noex b o e z
   .exact absurd (ZR (Ye e) (ZW f.ok.bsz z)) (ZS _)
  .obtain⟨_,f1,ff,_⟩:=L b hb
   rcases ZZ.mp (f.stkSub b hz) with z | z
   .exact f1 z
   .exact ff z
 have I0:ad l [(s2.heap.objs.size,LCg.lst [])] (σ++List.replicate own.length none) H2 { s2 with heap:=Mi,toks:=s2.toks+([]:List (Str×Value)).length }:=by
  subst hX;refine⟨OO,rfl,f.bare,Un.kept t,⟨_,ME,λi x v e1 S e3=>?_⟩,λx c e=>?_,Vb,λx c e=>f.freeC x c (ii E e),λp hp=>?_,f.hok.kept t,?_⟩
  .have e1:(ps++own)[i]?=some x:=e1
   have Ph:i<σ.length:=by
    by_cases Ph:i<σ.length
    .exact Ph
    .rw[ZH 'a',List.getElem?_replicate] at S
     split at S<;>cases S
   rw[ZE Ph] at S;have f_:ps.length=σ.length:=B.len.trans f.len.symm;rw[ZE 'a'] at e1;have T8:i<X.N.length:=by rw[←f.len];exact Ph
   have hz:(x,X.N[i])∈ps.zip X.N:=by
    refine YS (i:=i) ?_;rw[List.getElem?_zip_eq_some];exact⟨e1,ZD T8⟩
   obtain⟨v1,v2⟩:=B.vis _ hz;have Y:ui (relabel scope X.env) x:=e3;have R7:scope.names.lookup x=some .free:=by
    unfold ui relabel at Y;dsimp only at Y;rw[d8] at Y;cases q:scope.names.lookup x with
    |none=>rw[q] at Y;rcases Y with z | z | z<;>cases z
    |some k=>
     rw[q] at Y;cases k with
     |free=>rfl
     |cell=>exact absurd rfl (B.nocell _ (PySem.mem_of_lookup q))
     |«local»=>exact absurd q v2
     |_=>rcases Y with z | z | z<;>cases z
   have LZ:=PySem.mem_of_lookup R7;have ex:x=X.N[i]:=v1 R7;have Vd:X.N[i]?=some x:=by rw[ex];exact ZD T8
   have T9:=B.free _ LZ rfl;obtain⟨m,hn,hl⟩:=f.loc;obtain⟨u,ru,lk⟩:=hl i x v Vd S (.inr T9);refine⟨u,ru,?_⟩;rcases lk with⟨k,_⟩ | ⟨k,c,ec,z⟩
   .have k':X.env.scope.names.lookup x=some .local:=k
    rcases T9 with q | q<;>(have q':X.env.scope.names.lookup x=_:=q;rw[k'] at q';cases q')
   .refine .inr ⟨?_,c,Ap E LZ ec,?_⟩
    .show(relabel scope X.env).names.lookup x=some .cell\/(relabel scope X.env).names.lookup x=some .free
     unfold relabel;dsimp only;rw[d8,R7];show some (if _ then NameKind.cell else NameKind.free)=_\/some (if _ then NameKind.cell else NameKind.free)=_;split
     .exact .inl rfl
     .exact .inr rfl
    .obtain⟨o,eo,d⟩:=z
     exact⟨o,t _ _ eo,d⟩
  .obtain⟨v,o,eo,d⟩:=f.cell x c (ii E e)
   exact⟨v,o,t _ _ eo,d⟩
  .have hp:p∈(X.pn++a_)++[(s2.heap.objs.size,LCg.lst [])]:=hp
   rcases YA.mp hp with hp | hp
   .obtain⟨e,n,nl,nf,d⟩:=f.pin p hp
    refine⟨t _ _ e,n,(j _ (Ye e)).1,λhz=>?_,d⟩;rcases ZZ.mp (f.stkSub p.1 hz) with z | z
    .exact nl z
    .exact nf z
   .have e:p=(s2.heap.objs.size,LCg.lst []):=by simpa using hp
    subst e;refine⟨p_,T6,QS,λhz=>?_,λv z=>by cases z⟩;rcases ZZ.mp (f.stkSub _ hz) with z | z
    .exact absurd f.lt (by rw[←z];exact ZS _)
    .exact f.nofs (YF _) z
  .show(σ++List.replicate own.length none).length=(ps++own).length
   rw[ZK,ZK,List.length_replicate,B.len,f.len]
 have My:∀{H':Hp}{us:Zd},(∀b∈fp,H' b=none)->∀b∈fp,mr l [(s2.heap.objs.size,LCg.lst us)] H' b:=λ{H' us} hn b hb=>by
  subst hX;obtain⟨_,f1,ff,fx,fc,T7⟩:=L b hb;refine⟨hn b hb,(j b (NS b hb)).1,λhz=>?_,.inl hb,λx c e=>fc x c (ii E e),λp hp z=>?_⟩
  .rcases ZZ.mp (f.stkSub b hz) with z | z
   .exact f1 z
   .exact ff z
  .have hp:p∈(X.pn++a_)++[(s2.heap.objs.size,LCg.lst us)]:=hp
   rcases YA.mp hp with hp | hp
   .exact T7 p hp z
   .have e:p=(s2.heap.objs.size,LCg.lst us):=by simpa using hp
    subst e;exact(j b (NS b hb)).2 z.symm
 have eP:l.prog=X.prog:=by subst hX;rfl
 have eW:l.w=X.w:=by subst hX;rfl
 have eK:l.K=X.K:=by subst hX;rfl
 have eA:l.A=X.A:=by subst hX;rfl
 have Z:l.env=compEnvC scope (mD scope X.env) G.objs.size X.env:=by subst hX;rfl
 have eX:l.xe=λ_ _=>False:=by subst hX;rfl
 have eC:l.calm=true:=by subst hX;exact hc
 have eS:l.s₀=s2:=by subst hX;rfl
 have eH:l.H₀=H2:=by subst hX;rfl
 have eF:l.fs=ko X.stack:=by subst hX;rfl
 have Ve:l.ex=fp:=by subst hX;rfl
 have eN:l.pn=X.pn++a_:=by subst hX;rfl
 have T_:=hg G.objs.size s2 H2 fp (X.pn++a_);have QT:=ht G.objs.size s2 H2 fp (X.pn++a_);have Ua:=he G.objs.size s2 H2 fp (X.pn++a_);rw[hX] at T_ QT Ua;have R:∀MD:Shared,MD={ s2 with heap:=Mi,toks:=s2.toks+([]:List (Str×Value)).length } ->
   codeAny 'b' X.A (.compLoop (.ListComp E_ [⟨tg,iter,ifs,0⟩] scope pos) 0 (.ref it) (.ref s2.heap.objs.size) (compEnvC scope (mD scope X.env) G.objs.size X.env))
    (compPost 'b' X.A X.xe use QQ (.ref s2.heap.objs.size) G.objs.size) MD:=by
  rintro MD rfl;refine oF (λn F=>∃i ys us h_ H',ad l [(s2.heap.objs.size,LCg.lst us)] h_ H' F/\tn i F.heap/\(∀b∈fp,H' b=none)/\ak ys us/\ys.length<=sizeLine/\W i n ys h_ H') ?_ m0
   ⟨0,[],[],_,H2,I0,T.keep 0 _ _ MR λb _ o e=>t b o e,λb hb=>(L b hb).1,.nil,YL _,w0⟩
  rintro n s3 ⟨i,ys,us,L6,H3,I3,Pc,PD,hv,hz,w3⟩;rcases ac i n ys L6 H3 w3 with⟨stop,qn⟩ | ⟨go,F_,NN,Ub,step⟩
  .have dn:=T.done l eP eW eK eC i _ s3 L6 H3 (λ_ _=>False) I3 (My PD) Pc stop
   rw[eA] at dn;refine aL dn λr s4 K'=>?_
   obtain⟨hr,I4⟩:=K';subst hr;have pD:=I4.pin (s2.heap.objs.size,LCg.lst us) (YG _ ZX);have R8:H3 s2.heap.objs.size=none:=pD.2.1;have Vf:H3 G.objs.size=none:=by have:=I4.free;rw[Z] at this;exact this
   have un:Un (ko X.stack) fp H2 H3 s2.heap s4.heap:=by have:=I4.base;rw[eF,Ve,eH,eS] at this;exact this
   have Vg:ca X.prog X.w H3 s4.heap:=by have:=I4.hok;rw[eP,eW] at this;exact this
   have R9:ca X.prog X.w (upd H3 s2.heap.objs.size (.lst ys)) s4.heap:=λb u e=>by
    by_cases hb:b=s2.heap.objs.size
    .subst hb
     rw[aA] at e;cases e;exact⟨hz,us,us.length,hv,pD.1⟩
    .rw[aM hb] at e
     refine(Vg b u e).stay (λc v _ q=>q) (λc q=>?_) λc xs q=>?_
     .rw[aM (bc q R8)];exact q
     .rw[aM (bc q R8)];exact q
   have Vh:s4.os=s2.os:=by have:=I4.os;rw[eS] at this;exact this
   have I5:ad X a_ σ (upd H3 s2.heap.objs.size (.lst ys)) s4:=f.call' Vh (un.track (YF _) T6) R9 I4.bare λb hb=>⟨(L b hb).2.2.2.1,(L b hb).2.1,(L b hb).2.2.2.2.1,(L b hb).2.2.2.2.2⟩
   obtain⟨m,hn,_⟩:=I4.loc;rw[Z] at hn;exact fin _ _ ys H3 s4 m qn R8 I5 hn (f.fpOk OP (by rw[aM (Ne.symm QS)];exact Vf))
  .have Uc:=T.item l eP eW eK eC i _ s3 L6 H3 (λ_ _=>False) I3 (My PD) Pc go
   rw[eA] at Uc;refine aL Uc λr s4 Mg=>?_
   obtain⟨u,hr,h4⟩:=Mg;subst hr;refine aL h4 λ_ s5 MF=>?_
   obtain⟨x,H5,I5,r5,y5,OF,Rn⟩:=MF;have Ro:=I5.pinned (My Rn) (T.obj _ _ OF);have a5:=T_ _ s5 L6 H5 x u _ Ro r5 (step x H5 y5);rw[eP,eW,eA,Z,eX] at a5;refine aL a5 λ_ s6 MG=>?_
   obtain⟨O,H6,I6,q6⟩:=MG;have a6:=QT _ s6 O H6 _ I6 q6;rw[eP,eW,eA,Z,eX] at a6;refine aL a6 λok s7 Ml=>?_
   obtain⟨H7,I7,q7⟩:=Ml;have MV:∀{h_:St}{H':Hp}{F:Shared}{Ot:Zd},ad l ([(s2.heap.objs.size,LCg.lst Ot)]++ic fp s5.heap) h_ H' F->tn (i+1) F.heap/\∀b∈fp,H' b=none:=λ{h_ H' F Ot} J'=>by
    refine⟨T.keep _ _ _ OF λb hb o e=>(J'.pin (b,o) (YG _ (YG _ (iR hb e)))).1,λb hb=>?_⟩;obtain⟨o,e,d⟩:=T.obj _ _ OF b hb;exact(J'.pin (b,o) (YG _ (YG _ (iR hb e)))).2.1
   cases ok with
   |false=>
    obtain⟨m',hm,w7⟩:=Ub _ _ _ (by simpa using q7);exact⟨m',hm,i+1,ys,us,O,H7,I7.unpinned,(MV I7).1,(MV I7).2,hv,hz,w7⟩
   |true=>
    have q7:te O H7 (λy H4=>NN (ys++[y]) O H4):=by simpa using q7
    have a7:=Ua _ s7 O H7 _ I7 q7;rw[eP,eW,eA,Z,eX] at a7;refine aL a7 λuy s8 Nf=>?_
    obtain⟨y,H8,I8,r8,q8⟩:=Nf;have pD:=I8.pin (s2.heap.objs.size,LCg.lst us) (YG _ (YB _ ZX));have Xj:us.length=ys.length:=hv.length.symm;refine append_at (hsz:=by rw[YH];omega) pD.1 λh9 Vi Vj=>?_
    obtain⟨m',hm,w8⟩:=Ub _ _ _ q8;have Vk:ad l (ic fp s5.heap) O H8 s8:=I8.pins_of λp hp=>I8.pin p (YG _ (YG _ hp))
    have I9:ad l (ic fp s5.heap) O H8 { s8 with heap:=h9 }:=Vk.turned (t':=s8.toks) (it:=s2.heap.objs.size) (λb o hb e=>(Vi.2 b hb).trans e) pD.2.1 (by rw[Z];exact QS) (.inr (by rw[eS];exact YF _))
     (λx c e=>by
      rw[Z] at e;exact ZT (OQ x c (ii E e)))
     (λp hp=>by
      rw[eN] at hp;rcases YA.mp hp with z | z
      .exact ZT (P5 p z)
      .exact ZT (NS _ (sM z).1))
    have R_:ad l ([(s2.heap.objs.size,LCg.lst (us++[uy]))]++ic fp s5.heap) O H8 { s8 with heap:=h9 }:=I9.pins_of λp hp=>by
     rcases YA.mp hp with z | z
     .have e:p=(s2.heap.objs.size,LCg.lst (us++[uy])):=by simpa using z
      subst e;exact⟨Vj.trans (congrArg some (LCg.lst_snoc us uy)),pD.2.1,pD.2.2.1,pD.2.2.2.1,λv z=>by cases z⟩
     .exact I9.pin p (YG _ z)
    exact⟨m',hm,i+1,ys++[y],us++[uy],O,H8,R_.unpinned,(MV R_).1,(MV R_).2,hv.append (.cons r8 .nil),by rw[ZK,YZ];omega,w8⟩
 exact codeAny_compStart_list (R _ rfl) (T.self X.A 0 _ _ _ (T.keep 0 _ _ MR λb _ o e=>t b o e) (R _ rfl))
def Kf(k:Nat)(wi:TI)(g:TG)(tc:TT)(te:TE):TE:=λσ H Q=>wi σ H λJ H1=>t5 J g tc te (λys H'=>∀p,H' p=none->Q (.ref p) (upd H' p (.lst ys))) (σ++List.replicate k none) H1
def FU(j:fU Mh scope N own ps)(hc:X.calm=true)(hi:PI X tg iter wi)
  (k:∀C s H ex pn,PG (cY X scope own ps C s H ex pn) tg g) (ht:∀C s H ex pn,Aq (cY X scope own ps C s H ex pn) ifs tc) (l:∀C s H ex pn,PE (cY X scope own ps C s H ex pn) E_ te)
  (ho:X.env.scope=Mh:=by rfl) (p:X.N=N:=by rfl) (hs:∀x,foldedSetIterable iter X.env x=pure x:=by intro _;rfl):
  PE X (.ListComp E_ [⟨tg,iter,ifs,0⟩] scope pos) (Kf own.length wi g tc te):=by
 intro a_ s σ H Q I h;rw[eval_ListComp];refine sZ (use:=none) j ho p hc hi k ht l I h (λD C ys H' r m q t A hn f=>⟨m,hn,λh' B=>⟨.ref D,_,?_,rfl,q D t⟩⟩) hs;exact A.turned (t':=r.toks) (λb o hb e=>(B.2 b hb).trans e) f.1 f.2.1 f.2.2.2.1 f.2.2.2.2.1 f.2.2.2.2.2
def Kg(i k:Nat)(wi:TI)(g:TG)(tc:TT)(te:TE):TS:=λD σ H=>wi σ H λJ H1=>t5 J g tc te (λys H'=>∀p,H' p=none->D.nx (σ.set i (some (.ref p))) (upd H' p (.lst ys))) (σ++List.replicate k none) H1
def FV(k:fU Mh scope N own ps)(hc:X.calm=true)
  (l:X.N.Nodup) (hy:X.N[i]?=some y) (hl:X.env.scope.names.lookup y=some .local)
  (hi:PI X tg iter wi)
  (p:∀C s H ex pn,PG (cY X scope own ps C s H ex pn) tg g) (ht:∀C s H ex pn,Aq (cY X scope own ps C s H ex pn) ifs tc) (r:∀C s H ex pn,PE (cY X scope own ps C s H ex pn) E_ te)
  (t:swapsWith (.ListComp E_ [⟨tg,iter,ifs,0⟩] scope pos) (some (.Name y py)) Ng.line X.env=pure true:=by rfl)
  (ho:X.env.scope=Mh:=by rfl) (B:X.N=N:=by rfl) (hs:∀x,foldedSetIterable iter X.env x=pure x:=by intro _;rfl):
  PS X (.Assign [.Name y py] (.ListComp E_ [⟨tg,iter,ifs,0⟩] scope pos) Ng) (Kg i own.length wi g tc te):=by
 intro a_ s σ H D I h;rw[exec_Assign_Name_used _ _ _ _ t];refine Yb (Yk (Yb ?_));show wpAny _ X.A (do let _ ←comprehension (.ListComp E_ [⟨tg,iter,ifs,0⟩] scope pos) scope X.env _ (newList []) false (eval iter X.env) (some (assign (.Name y py) X.env))) _ _ s;refine Yb (aL (sZ (use:=some (assign (.Name y py) X.env)) (QQ:=λ_ j=>SP X a_ D .next j) k ho B hc hi p ht r I h (λD' C ys H' j m q E F hn f=>?_) hs) (λ_ j hq=>Yc (Yc hq)));show wpAny _ X.A (assign (.Name y py) X.env (.ref D')) _ _ _;refine wpAny_assign_Name (sK F l hy (.inl hl) (show RelV (.ref D') (.ref D') from rfl) (λG J L=>?_) (.inr hl));obtain⟨a,O,ha⟩:=L;have R:C≠a:=by
  rcases ha with z | z
  .rw[z];exact f.2.1
  .exact(f.2.2.2.2.1 y a z).symm
 refine⟨m,hn.sameBut O R,λh' S=>⟨_,_,?_,q D' E⟩⟩;exact J.turned (t':=G.toks) (λb o hb e=>(S.2 b hb).trans e) f.1 f.2.1 f.2.2.2.1 f.2.2.2.2.1 f.2.2.2.2.2
end
section
variable {X:Cx}
theorem s0{bs:List Bool}(r:ak (bs.map V.bl) vs){v:Value}(h:vs[i]?=some v):v=.bool ((bs[i]?).getD false):=by
 have hl:=r.length;rw[ZF] at hl;have hi:i<bs.length:=by have:=(YC.mp h).1;omega
 obtain⟨u,hu,f⟩:=r.get (i:=i) (x:=V.bl bs[i]) (by rw[ZG,ZD hi];rfl);rw[h] at hu;cases hu;have f:v=Value.bool bs[i]:=f;rw[f,ZD hi];rfl
def range_all{bs:List Bool}(hn:n=bs.length):((List.range n).all λi=>(bs[i]?).getD false)=bs.all id:=by
 subst hn;rw[Bool.eq_iff_iff,XI,XI];constructor
 .intro h b hb
  obtain⟨i,hi,e⟩:=List.mem_iff_getElem.mp hb
  have:=h i (ZV.mpr hi)
  rw[ZD hi] at this;rw[←e];exact this
 .intro h i hi
  have hi:=ZV.mp hi;rw[ZD hi];exact h _ (List.getElem_mem hi)
def range_any{bs:List Bool}(hn:n=bs.length):((List.range n).any λi=>(bs[i]?).getD false)=bs.any id:=by
 subst hn;rw[Bool.eq_iff_iff,XJ,XJ];constructor
 .rintro⟨i,hi,h⟩
  have hi:=ZV.mp hi;rw[ZD hi] at h;exact⟨_,List.getElem_mem hi,h⟩
 .rintro⟨b,hb,h⟩
  obtain⟨i,hi,e⟩:=List.mem_iff_getElem.mp hb;refine⟨i,ZV.mpr hi,?_⟩;rw[ZD hi,e];exact h
theorem Cj(hc:X.calm=true):dA X (.builtin "all") (λxs H Q=>∃p bs,xs=[.ref p]/\aX X.K H p (List.map V.bl bs)/\Q (.bl (bs.all id)) H):=by
 intro a_ s σ H xs us Q I r h;obtain⟨p,bs,rfl,hq,q⟩:=h;obtain⟨u,rfl,k⟩:=vals1 r;cases k;obtain⟨d_,j,f,hz⟩:=I.list hq;have l:p<s.heap.objs.size:=by obtain⟨o,_,e,_⟩:=f;exact Ye e
 refine call_all_walk (wpAny_pyIter_list f.isList ⟨s.heap.objs.size,_,_,_,_,_,λi=>(bs[i]?).getD false,rfl,Walks.list (A:=X.A.in1) (I.ok.hd hc) s.heap.objs.size p (ZT l) d_.toArray,
  ⟨⟨_,Yg _ rfl,rfl,rfl⟩,f.isList.push _⟩,λi v t B C hv m=>?_,λh' tk kk=>?_⟩)
 .have hv:d_[i]?=some v:=by simpa using hv
  rw[s0 j hv];exact wpAny_truthy_bool m
 .have e:d_.toArray.size=bs.length:=by have:=j.length;rw[ZF] at this;simp;omega
  rw[range_all e];refine⟨.bl _,H,I.kept λb o e=>kk b o ?_ (Yd _ e),rfl,q⟩;simp only[XM];exact ZT (Ye e)
theorem Ck(hc:X.calm=true):dA X (.builtin "any") (λxs H Q=>∃p bs,xs=[.ref p]/\aX X.K H p (List.map V.bl bs)/\Q (.bl (bs.any id)) H):=by
 intro a_ s σ H xs us Q I r h;obtain⟨p,bs,rfl,hq,q⟩:=h;obtain⟨u,rfl,k⟩:=vals1 r;cases k;obtain⟨d_,j,f,hz⟩:=I.list hq;have l:p<s.heap.objs.size:=by obtain⟨o,_,e,_⟩:=f;exact Ye e
 refine call_any_walk (wpAny_pyIter_list f.isList ⟨s.heap.objs.size,_,_,_,_,_,λi=>(bs[i]?).getD false,rfl,Walks.list (A:=X.A.in1) (I.ok.hd hc) s.heap.objs.size p (ZT l) d_.toArray,
  ⟨⟨_,Yg _ rfl,rfl,rfl⟩,f.isList.push _⟩,λi v t B C hv m=>?_,λh' tk kk=>?_⟩)
 .have hv:d_[i]?=some v:=by simpa using hv
  rw[s0 j hv];exact wpAny_truthy_bool m
 .have e:d_.toArray.size=bs.length:=by have:=j.length;rw[ZF] at this;simp;omega
  rw[range_any e];refine⟨.bl _,H,I.kept λb o e=>kk b o ?_ (Yd _ e),rfl,q⟩;simp only[XM];exact ZT (Ye e)
end
structure nJ (K:Za) (mg:Ze) (x:Str) (st:Stmt) (ps:Zf) (f:Addr) (fd:Zu):Prop where
 fn:qi K x x st f fd
 mgf:mg x=some (.ref f)
 b:Binds K fd ps []
def Cm(X:K.In h)(G:h.Ns mainGlobals mg)
  (kV:PySem.W.nsIn K mainGlobals y=some (some (.ref a))) (l:K.lookup a=some ⟨oc,od,.func (PySem.W.fnOf y y (bp st) (aO st) (ai st) .none it v_ pm an r_ ct),J_⟩)
  (c:PySem.W.codeIn K r_ y=true) (k:PySem.W.keepIn K (.ref a)=true)
  (hb:∀(it v_ pm:Value) (an:Zm) (r_ ct:Value) (us:Zd),us.length=ps.length->bindArgs (PySem.W.fnOf y y (bp st) (aO st) (ai st) .none it v_ pm an r_ ct) ⟨us,[]⟩=pure (ps.zip us)):
  nJ K mg y st ps a (PySem.W.fnOf y y (bp st) (aO st) (ai st) .none it v_ pm an r_ ct):=by
 have F:=uA (st:=st) l c k;exact⟨F,PySem.W.mg_of X G kV,F.binds hb⟩
section
variable {X:Cx}{k:Nat}{f:Addr}{fd:Zu}{ps:Zf}{sp:Sp}{x:Str}{st:Stmt}{p pos:Pos}{e:Expr}{es:Zg}{t:TA}
def Ib(D:nJ X.K X.mg x st ps f fd)(F:eM X.prog X.w X.K X.mg X.base jG k f fd ps sp)(j:bK k X.A)(ha:PA X (e::es) t)(l:Gl X x:=by rfl)(m:(x==("__debug__" : Str))=false:=by decide)
  (r:starEach (e::es) X.env=(false,eval e X.env)::starEach es X.env:=by rfl) (B:(backTo pos (starEach es X.env)).any (·.1)=false:=by rfl):PE X (.Call (.Name x p) (e::es) [] pos) (EM sp [] E0 t):=
 FF F j l D.mgf D.fn.kp D.b .nil t4 ha m r B
end
def Ar(K:Za){a:String}{r:Bool}(h:(if(Value.type a==Value.type b)=true then some true else if PySem.W.kitMeta b=true then(fastBuiltinMro a).map (·.contains (.type b)) else none)=some r):
  PySem.W.kitOne K (.type a) (.type b)=some r:=h
def aj:Expr->Bool
 |.Starred _ _=>false
 |_=>true
def aY{e:Expr}(h:aj e=true):starEach (e::ifs) env=(false,eval e env)::starEach ifs env:=by
 cases e<;>first | rfl | (exact absurd (show false=true from h) YE)
end L2
namespace DD
open PySem PySem.Spec PyProof.Rows L2
variable {f C:Addr}{v y:V}{ta tb:WE}{x m:Str}{n j:Nat}{t:WT}{M:MH}{K:Za}{d:D}{ps:Zf}{A B:Prop}{u:WA}{Q Q':VK}{o:MO}{st:Stmt}{i:Bool}{r:kx}{sp:aK}{H2:Hp}{o':HO}{an od:Zm}{r_ ct pm v_ oc:Value}{fd:Zu}{J_:Zn}{σ:DS}{b:Int}{h:Heap}
inductive D where
 |non | bl (b:Bool) | int (i:Int) | str (x:Str) | tup (ds:List D) | ref (a:Addr) | ty (n:String)
section
variable {α β:Type}{F G:α->β->Prop}
theorem ik:∀{l:List α}{m:List β},Paired F l m->l.length=m.length
 |_,_,.nil=>rfl
 |_,_,.cons _ t=>by simp[ik t]
theorem cF:∀{l:List α}{m:List β}{i:Nat}{a:α},Paired F l m->l[i]?=some a->∃b,m[i]?=some b/\F a b
 |_,_,_,_,.nil,e=>by simp at e
 |_,_,0,_,.cons r _,e=>by simp at e;subst e;exact⟨_,rfl,r⟩
 |_,_,i+1,a,.cons _ t,e=>by
  obtain⟨b,h1,c⟩:=cF (i:=i) (a:=a) t (by simpa using e);exact⟨b,by simpa using h1,c⟩
theorem ba:∀{l a:List α}{m m':List β},Paired F l m->Paired F a m'->Paired F (l++a) (m++m')
 |_,_,_,_,.nil,s=>s
 |_,_,_,_,.cons r t,s=>.cons r (ba t s)
theorem rZ:∀{l:List α}{m:List β}(n:Nat),Paired F l m->Paired F (l.take n) (m.take n)
 |_,_,0,_=>.nil
 |_,_,_+1,.nil=>.nil
 |_,_,n+1,.cons r t=>.cons r (rZ n t)
theorem xh:∀{l:List α}{m:List β}(n:Nat),Paired F l m->Paired F (l.drop n) (m.drop n)
 |_,_,0,r=>r
 |_,_,_+1,.nil=>.nil
 |_,_,n+1,.cons _ t=>xh n t
theorem uB{a:α}{b:β}(r:F a b):∀{l:List α}{m:List β}(i:Nat),Paired F l m->Paired F (l.set i a) (m.set i b)
 |_,_,_,.nil=>.nil
 |_,_,0,.cons _ t=>.cons r t
 |_,_,i+1,.cons q t=>.cons q (uB r i t)
theorem fD(f:∀a b,F a b->G a b):∀{l:List α}{m:List β},Paired F l m->Paired G l m
 |_,_,.nil=>.nil
 |_,_,.cons r t=>.cons (f _ _ r) (fD f t)
def qm{l:List α}{m:List β}(h:Paired F l m):Paired F l.reverse m.reverse:=by
 induction h with
 |nil=>exact .nil
 |cons r _ a=>rw[List.reverse_cons,List.reverse_cons];exact ba a (.cons r .nil)
theorem ja{a:α}{b:β}(r:F a b):∀n,Paired F (List.replicate n a) (List.replicate n b)
 |0=>.nil
 |n+1=>.cons r (ja r n)
end
section
variable (K:Za)(H:Hp)
mutual
noncomputable def RV:D->V->Prop
 |.non,v=>v=.non
 |.bl b,v=>v=.bl b
 |.int i,v=>v=.int i
 |.str x,v=>v=.str x
 |.ref a,v=>v=.ref a
 |.ty n,v=>v=.ty n
 |.tup ds,v=>∃a xs,v=.ref a/\bf K H a xs/\af ds xs
noncomputable def af:List D->List V->Prop
 |[],xs=>xs=[]
 |d::ds,xs=>∃v vs,xs=v::vs/\RV d v/\af ds vs
end
end
section
variable {K:Za}{H H' Ud:Hp}
theorem af.p:∀{ds:List D}{xs:List V},af K H ds xs->Paired (RV K H) ds xs
 |[],_,h=>by rw[af] at h;subst h;exact .nil
 |d::ds,_,h=>by
  rw[af] at h;obtain⟨v,vs,rfl,r,t⟩:=h;exact .cons r (af.p t)
theorem af.of:∀{ds:List D}{xs:List V},Paired (RV K H) ds xs->af K H ds xs
 |_,_,.nil=>by rw[af]
 |_,_,.cons r t=>by rw[af];exact⟨_,_,rfl,r,af.of t⟩
theorem af.nil:af K H [] []:=by rw[af]
theorem af.cons{d:D}{v:V}{ds:List D}{vs:List V}(r:RV K H d v)(t:af K H ds vs):af K H (d::ds) (v::vs):=by rw[af];exact⟨_,_,rfl,r,t⟩
theorem af.len{ds:List D}{xs:List V}(h:af K H ds xs):ds.length=xs.length:=ik h.p
def Kp(H H':Hp):Prop:=(∀a xs,Rd H a (.tup xs)->Rd H' a (.tup xs))/\∀a u o,H a=some (.frz u o)->H' a=some (.frz u o)
theorem Kp.refl(H:Hp):Kp H H:=⟨λ_ _ h=>h,λ_ _ _ h=>h⟩
theorem Kp.trans(a:Kp H H')(b:Kp H' Ud):Kp H Ud:=⟨λc xs h=>b.1 c xs (a.1 c xs h),λc u o h=>b.2 c u o (a.2 c u o h)⟩
theorem Kp.new{o:HO}(h:H f=none):Kp H (upd H f o):=⟨λa xs r=>by
 rcases r with r | ⟨u,r⟩
 .exact .inl (by rw[aM (bc r h)];exact r)
 .exact .inr ⟨u,by rw[aM (bc r h)];exact r⟩,λa u o r=>by rw[aM (bc r h)];exact r⟩
def yC:HO->Prop
 |.tup _=>False
 |.frz _ _=>False
 |_=>True
theorem Kp.put{o:HO}(h:H C=some o)(n:yC o):Kp H (upd H C o'):=⟨λa xs r=>by
 rcases r with r | ⟨u,r⟩
 .have:a≠C:=λe=>by subst e;rw[h] at r;cases r;exact n
  exact .inl (by rw[aM this];exact r)
 .have:a≠C:=λe=>by subst e;rw[h] at r;cases r;exact n
  exact .inr ⟨u,by rw[aM this];exact r⟩,λa u o r=>by
  have:a≠C:=λe=>by subst e;rw[h] at r;cases r;exact n
  rw[aM this];exact r⟩
theorem Kp.sq(t:Kp H H'){xs:List V}(h:bf K H C xs):bf K H' C xs:=by
 rcases h with h | h
 .exact .inl (t.1 C xs h)
 .exact .inr h
mutual
theorem RV.mono(t:Kp H H'):∀(d:D){v:V},RV K H d v->RV K H' d v
 |.non,_,h=>by rw[RV] at h ⊢;exact h
 |.bl _,_,h=>by rw[RV] at h ⊢;exact h
 |.int _,_,h=>by rw[RV] at h ⊢;exact h
 |.str _,_,h=>by rw[RV] at h ⊢;exact h
 |.ref _,_,h=>by rw[RV] at h ⊢;exact h
 |.ty _,_,h=>by rw[RV] at h ⊢;exact h
 |.tup ds,_,h=>by
  rw[RV] at h ⊢;obtain⟨a,xs,e,s,r⟩:=h;exact⟨a,xs,e,t.sq s,af.mono t ds r⟩
theorem af.mono(t:Kp H H'):∀(ds:List D){xs:List V},af K H ds xs->af K H' ds xs
 |[],_,h=>by rw[af] at h ⊢;exact h
 |d::ds,_,h=>by
  rw[af] at h ⊢;obtain⟨v,vs,e,r,q⟩:=h;exact⟨v,vs,e,RV.mono t d r,af.mono t ds q⟩
end
theorem RV.non_:RV K H .non v↔v=.non:=by rw[RV]
theorem RV.bl_:RV K H (.bl i) v↔v=.bl i:=by rw[RV]
theorem RV.int_:RV K H (.int b) v↔v=.int b:=by rw[RV]
theorem RV.str_:RV K H (.str x) v↔v=.str x:=by rw[RV]
theorem RV.ref_:RV K H (.ref f) v↔v=.ref f:=by rw[RV]
theorem RV.ty_{b:String}:RV K H (.ty b) v↔v=.ty b:=by rw[RV]
theorem RV.tup_{ds:List D}:RV K H (.tup ds) v ↔ ∃a xs,v=.ref a/\bf K H a xs/\af K H ds xs:=by rw[RV]
def b2i(b:Bool):Int:=if b=true then 1 else 0
def Ic(x:List Int×Addr×Value):DictEntry:=⟨reduceHash (Builtin.Tuple.tupleHashOf (x.1.map hashInt)),.ref x.2.1,x.2.2⟩
def gI(a:Addr)(xs:List (List Int×Addr×Value)):HO:=.ext λh=>∃o es c,h.get? a=some o/\o.ExactDict/\o.data=.dict es c/\es.toList=xs.map Ic
def jb(K:Za)(H:Hp)(k:Int×Bool)(x:List Int×Addr×Value):Prop:=x.1=[k.1,b2i k.2]/\bf K H x.2.1 [.int k.1,.bl k.2]/\x.2.2=.bool true
def j9(K:Za)(H:Hp)(d:D)(u:Value):Prop:=(d=.non/\u=.none) \/ ∃b,u=.ref b/\RV K H d (.ref b)
def uC(K:Za)(H:Hp)(k:(Int×Int)×D)(x:List Int×Addr×Value):Prop:=x.1=[k.1.1,k.1.2]/\bf K H x.2.1 [.int k.1.1,.int k.1.2]/\j9 K H k.2 x.2.2
theorem j9.mono{d:D}{u:Value}(t:Kp H H')(h:j9 K H d u):j9 K H' d u:=h.elim .inl λ⟨b,e,r⟩=>.inr ⟨b,e,RV.mono t _ r⟩
inductive MO where
 |lst (ds:List D) | rol (ds:List D) | dic (kvs:List (Key×D)) | rod (kvs:List (Key×D)) | ins (C:Addr) (fs:List (Str×D)) | prs (ks:List (Int×Bool)) | cam (kvs:List ((Int×Int)×D))
abbrev MH:=Addr->Option MO
def ab(M:MH)(a:Addr)(o:MO):MH:=λb=>if b=a then some o else M b
def aa{a:Addr}:ab M a o a=some o:=by unfold ab;rw[if_pos rfl]
def aJ(h:f≠C):ab M C o f=M f:=by unfold ab;rw[if_neg h]
def RO(K:Za)(H:Hp)(a:Addr):MO->Prop
 |.lst ds=>∃xs,H a=some (.lst xs)/\af K H ds xs
 |.rol ds=>∃xs,Rd H a (.lst xs)/\af K H ds xs
 |.dic kvs=>∃c:List (Key×V),H a=some (.dK c)/\c.map (·.1)=kvs.map (·.1)/\af K H (kvs.map (·.2)) (c.map (·.2))
 |.rod kvs=>∃(u:Obj) (c:List (Key×V)),H a=some (.frz u (.dK c))/\c.map (·.1)=kvs.map (·.1)/\af K H (kvs.map (·.2)) (c.map (·.2))
 |.ins C fs=>∃(dx:Addr) (g:List (Str×V)),H a=some (.ins C dx g)/\g.map (·.1)=fs.map (·.1)/\af K H (fs.map (·.2)) (g.map (·.2))
 |.prs ks=>∃xs,H a=some (gI a xs)/\Paired (jb K H) ks xs/\ks.Nodup/\ks.length<=sizeLine/\(a==sysModules)=false
 |.cam kvs=>∃xs,H a=some (gI a xs)/\Paired (uC K H) kvs xs/\(kvs.map (·.1)).Nodup/\kvs.length<=sizeLine/\(a==sysModules)=false
def RM(K:Za)(M:MH)(H:Hp):Prop:=∀a o,M a=some o->RO K H a o
theorem RO.stay(h:RO K H f o)(t:Kp H H')(e:H' f=H f):RO K H' f o:=by
 cases o with
 |lst ds=>obtain⟨xs,q,r⟩:=h;exact⟨xs,e.trans q,af.mono t _ r⟩
 |rol ds=>
  obtain⟨xs,q,r⟩:=h;refine⟨xs,?_,af.mono t _ r⟩;rcases q with q | ⟨u,q⟩
  .exact .inl (e.trans q)
  .exact .inr ⟨u,e.trans q⟩
 |dic kvs=>obtain⟨a,q,k,r⟩:=h;exact⟨a,e.trans q,k,af.mono t _ r⟩
 |rod kvs=>obtain⟨u,a,q,k,r⟩:=h;exact⟨u,a,e.trans q,k,af.mono t _ r⟩
 |ins C fs=>obtain⟨dx,c,q,k,r⟩:=h;exact⟨dx,c,e.trans q,k,af.mono t _ r⟩
 |cam kvs=>obtain⟨xs,q,r,n⟩:=h;exact⟨xs,e.trans q,fD (λk x z=>⟨z.1,t.sq z.2.1,j9.mono t z.2.2⟩) r,n⟩
 |prs ks=>obtain⟨xs,q,r,n⟩:=h;exact⟨xs,e.trans q,fD (λk x z=>⟨z.1,t.sq z.2.1,z.2.2⟩) r,n⟩
theorem RO.some{a:Addr}(h:RO K H a o):H a≠none:=by
 cases o with
 |lst ds=>obtain⟨xs,q,_⟩:=h;rw[q];exact λz=>nomatch z
 |rol ds=>obtain⟨xs,q | ⟨u,q⟩,_⟩:=h<;>(rw[q];exact λz=>nomatch z)
 |dic kvs=>obtain⟨c,q,_⟩:=h;rw[q];exact λz=>nomatch z
 |rod kvs=>obtain⟨u,c,q,_⟩:=h;rw[q];exact λz=>nomatch z
 |ins C fs=>obtain⟨dx,g,q,_⟩:=h;rw[q];exact λz=>nomatch z
 |cam kvs=>obtain⟨xs,q,_⟩:=h;rw[q];exact λz=>nomatch z
 |prs ks=>obtain⟨xs,q,_⟩:=h;rw[q];exact λz=>nomatch z
theorem RM.fresh(h:RM K M H)(e:H f=none):M f=none:=by
 cases q:M f with
 |none=>rfl
 |some o=>exact absurd e (h f o q).some
theorem RM.newH(h:RM K M H)(e:H f=none):RM K M (upd H f o'):=λa u q=>
 (h a u q).stay (Kp.new e) (aM (λz=>by subst z;exact(h a u q).some e))
theorem RM.new{M:MH}{p:Addr}{o:HO}{m:MO}(h:RM K M H)(e:H p=none)(r:RO K (upd H p o) p m):RM K (ab M p m) (upd H p o):=λa u q=>by
 by_cases z:a=p
 .subst z;rw[aa] at q;cases q;exact r
 .rw[aJ z] at q;exact(h a u q).stay (Kp.new e) (aM z)
theorem RM.put{M:MH}{p:Addr}{o o':HO}{m:MO}(h:RM K M H)(e:H p=some o)(n:yC o)(r:RO K (upd H p o') p m):RM K (ab M p m) (upd H p o'):=λa u q=>by
 by_cases z:a=p
 .subst z;rw[aa] at q;cases q;exact r
 .rw[aJ z] at q;exact(h a u q).stay (Kp.put e n) (aM z)
abbrev DS:=List (Option D)
abbrev Zz:=List (Key×D)
abbrev Zy:=Option D
def RS(K:Za)(H:Hp)(σ:DS)(ρ:L2.St):Prop:=Paired (λ(od:Zy) (a:Option V)=>∀d,od=some d->∃v,a=some v/\RV K H d v) σ ρ
theorem RS.mono{σ:DS}{ρ:L2.St}(t:Kp H H')(h:RS K H σ ρ):RS K H' σ ρ:=fD (λod a r d e=>let⟨v,q,s⟩:=r d e;⟨v,q,RV.mono t d s⟩) h
theorem RS.get{σ:DS}{ρ:L2.St}{i:Nat}{d:D}(h:RS K H σ ρ)(e:σ[i]?=some (some d)):∃v,ρ[i]?=some (some v)/\RV K H d v:=by
 obtain⟨a,q,r⟩:=cF h e;obtain⟨v,rfl,s⟩:=r d rfl;exact⟨v,q,s⟩
theorem RS.set{σ:DS}{ρ:L2.St}{d:D}{v:V}(i:Nat)(h:RS K H σ ρ)(r:RV K H d v):RS K H (σ.set i (some d)) (ρ.set i (some v)):=uB (by intro d' e;cases e;exact⟨v,rfl,r⟩) i h
theorem RS.more{σ:DS}{ρ:L2.St}(n:Nat)(h:RS K H σ ρ):RS K H (σ++List.replicate n none) (ρ++List.replicate n none):=ba h (ja (λd e=>nomatch e) n)
end
abbrev DK:=D->MH->Prop
abbrev WE:=DS->MH->DK->Prop
abbrev WT:=DS->MH->(Bool->MH->Prop)->Prop
abbrev WA:=DS->MH->(List D->MH->Prop)->Prop
def lift(K:Za)(H:Hp)(Q:DK):VK:=λv H'=>Kp H H'/\∃d M',RV K H' d v/\RM K M' H'/\Q d M'
def t6(K:Za)(H:Hp)(Q:Bool->MH->Prop):Bool->Hp->Prop:=λb H'=>Kp H H'/\∃M',RM K M' H'/\Q b M'
def Kh(K:Za)(H:Hp)(n:Nat)(Q:List D->MH->Prop):List V->Hp->Prop:=λvs H'=>Kp H H'/\∃ds M',af K H' ds vs/\ds.length=n/\RM K M' H'/\Q ds M'
section
variable (X:Cx)
def tW(e:Expr):TE:=λρ H Q=>∀a_ s,ad X a_ ρ H s->wpAny 'b' X.A (eval e X.env) (EP X a_ ρ Q) X.xe s
def oP(e:Expr):TT:=λρ H Q=>∀a_ s,ad X a_ ρ H s->wpAny 'b' X.A (isTrue e X.env (eval e X.env)) (TP X a_ ρ Q) X.xe s
def jH(es:Zg):TA:=λρ H Q=>∀a a_ s,ad X a_ ρ H s->wpAny 'b' X.A (spliced (backTo a (starEach es X.env))) (AP X a_ ρ Q) X.xe s
def xi(st:Stmt):L2.TS:=λD ρ H=>∀a_ s,ad X a_ ρ H s->wpAny 'b' X.A (exec st X.env) (SP X a_ D) X.xe s
end
section
variable {X:Cx}{e a b c:Expr}{es:Zg}{ρ:L2.St}{H H':Hp}{pos:Pos}
def a0(e:Expr):PE X e (tW X e):=λa_ s _ _ _ I h=>h a_ s I
def k8(e:Expr):PT X e (oP X e):=λa_ s _ _ _ I h=>h a_ s I
def k9(es:Zg):PA X es (jH X es):=λpos a_ s _ _ _ I h=>h pos a_ s I
def bw{t:TE}(h:PE X e t)(q:t ρ H Q):tW X e ρ H Q:=λa_ s I=>h a_ s ρ H Q I q
def uD{t:TT}{Q:Bool->Hp->Prop}(h:PT X e t)(q:t ρ H Q):oP X e ρ H Q:=λa_ s I=>h a_ s ρ H Q I q
def As{t:TA}{Q:List V->Hp->Prop}(h:PA X es t)(q:t ρ H Q):jH X es ρ H Q:=λpos a_ s I=>h pos a_ s ρ H Q I q
def aH(h:tW X e ρ H Q)(f:∀v H',Q v H'->Q' v H'):tW X e ρ H Q':=λa_ s I=>aL (h a_ s I) λ_ _ ⟨v,H',g,r,q⟩=>⟨v,H',g,r,f v H' q⟩
def fK{Q Q':Bool->Hp->Prop}(h:oP X e ρ H Q)(f:∀v H',Q v H'->Q' v H'):oP X e ρ H Q':=λa_ s I=>aL (h a_ s I) λ_ _ ⟨H',g,q⟩=>⟨H',g,f _ H' q⟩
def da{Q Q':List V->Hp->Prop}(h:jH X es ρ H Q)(f:∀v H',Q v H'->Q' v H'):jH X es ρ H Q':=λpos a_ s I=>aL (h pos a_ s I) λ_ _ ⟨v,H',g,r,q⟩=>⟨v,H',g,r,f v H' q⟩
def bR{Q:DK}(k:Kp H H')(h:lift K H' Q v H2):lift K H Q v H2:=⟨k.trans h.1,h.2⟩
def uE{Q:Bool->MH->Prop}(k:Kp H H')(h:t6 K H' Q i H2):t6 K H Q i H2:=⟨k.trans h.1,h.2⟩
def aG{Q:DK}(r:RV K H d v)(m:RM K M H)(q:Q d M):lift K H Q v H:=⟨Kp.refl H,d,M,r,m,q⟩
def aI(X:Cx)(e:Expr)(t:WE):Prop:=∀σ M ρ H Q,RS X.K H σ ρ->RM X.K M H->t σ M Q->tW X e ρ H (lift X.K H Q)
def jc(X:Cx)(e:Expr)(t:WT):Prop:=∀σ M ρ H Q,RS X.K H σ ρ->RM X.K M H->t σ M Q->oP X e ρ H (t6 X.K H Q)
def eG(X:Cx)(es:Zg)(t:WA):Prop:=∀σ M ρ H Q,RS X.K H σ ρ->RM X.K M H->t σ M Q->jH X es ρ H (Kh X.K H es.length Q)
def eI(b:Bool)(A B:Prop):Prop:=match b with
 |true=>A
 |false=>B
def a8:eI true A B=A:=rfl
def aB:eI false A B=B:=rfl
def yD(h1:i=true->A)(g:i=false->B):eI i A B:=by
 cases i with
 |true=>exact h1 rfl
 |false=>exact g rfl
def r0{p:Prop}[Decidable p](h1:p->A)(g:¬p->B):eI (decide p) A B:=yD (λe=>h1 (XN e)) (λe=>g (of_decide_eq_false e))
def lc(σ:DS)(i:Nat)(Q:D->Prop):Prop:=match σ[i]? with
 |some (some d)=>Q d
 |_=>False
def FW{Q:D->Prop}(h:lc σ n Q):∃d,σ[n]?=some (some d)/\Q d:=by
 unfold lc at h;split at h
 .exact⟨_,by assumption,h⟩
 .exact Yh h
def FX(g:X.N[n]?=some x)(hv:ui X.env.scope x)(hd:(x==("__debug__" : Str))=false)(k:(x==("__classdict__" : Str))=false):aI X (.Name x pos) (λσ M Q=>lc σ n λd=>Q d M):=by
 intro σ M ρ H Q rs rm h;obtain⟨d,e,q⟩:=FW h;obtain⟨v,e',r⟩:=rs.get e;exact bw (He g hv hd k) ⟨v,e',aG r rm q⟩
def nK(h:PE X e (tC v))(r:∀H,RV X.K H d v):aI X e (λ_ M Q=>Q d M):=λ_ _ _ H _ _ rm q=>bw h (aG (r H) rm q)
def FY{i:Int}:aI X (.Constant (.int i) j pos) (λ_ M Q=>Q (.int i) M):=nK Hf λ_=>RV.int_.2 rfl
def Id:aI X (.Constant (.bool i) j pos) (λ_ M Q=>Q (.bl i) M):=nK JS λ_=>RV.bl_.2 rfl
def FZ:aI X (.Constant (.str x) j pos) (λ_ M Q=>Q (.str x) M):=nK Hh λ_=>RV.str_.2 rfl
def F1:aI X (.Constant .none j pos) (λ_ M Q=>Q .non M):=nK Hg λ_=>RV.non_.2 rfl
def mE(K:Za)(mg:Ze)(x:Str)(d:D):Prop:=∃v u,mg x=some u/\RelV v u/\∀H,RV K H d v
def Co(g:Gl X x)(h:mE X.K X.mg x d)(hd:(x==("__debug__" : Str))=false):aI X (.Name x pos) (λ_ M Q=>Q d M):=by
 obtain⟨v,u,hm,r,k⟩:=h;exact nK (Fp g hm r hd) k
def oW(X:Cx)(f:Zk):R2:=λx y H Q=>∀a_ s ρ v u,ad X a_ ρ H s->RelV x v->RelV y u->wpAny 'b' X.A (f v u) (EP X a_ ρ Q) X.xe s
def Cp(f:Zk):cA X f (oW X f):=λa_ s σ _ _ _ v u _ I g k h=>h a_ s σ v u I g k
def iS{f:Zk}{r:R2}(h:cA X f r)(q:r v y H Q):oW X f v y H Q:=λa_ s ρ x u I g k=>h a_ s ρ H v y x u Q I g k q
def r9{f:Zk}(h:oW X f v y H Q)(g:∀x H',Q x H'->Q' x H'):oW X f v y H Q':=λa_ s ρ x u I k l=>aL (h a_ s ρ x u I k l) λ_ _ ⟨x,H',p,r,q⟩=>⟨x,H',p,r,g x H' q⟩
abbrev kx:=D->D->MH->DK->Prop
def gB(X:Cx)(f:Zk)(r:kx):Prop:=∀x y v u H M Q,RV X.K H x v->RV X.K H y u->RM X.K M H->r x y M Q->oW X f v u H (lift X.K H Q)
def two{R:D->D->MH->Prop}(ha:aI X a ta)(hb:aI X b tb)(rs:RS X.K H σ ρ)(rm:RM X.K M H)(h:ta σ M λx M1=>tb σ M1 λy M2=>R x y M2):
  tW X a ρ H λv H1=>tW X b ρ H1 λu H2=>Kp H H2/\∃x y M2,RV X.K H2 x v/\RV X.K H2 y u/\RM X.K M2 H2/\R x y M2:=by
 refine aH (ha σ M ρ H _ rs rm h) ?_;rintro v H1 ⟨k1,x,M1,r1,m1,h1⟩;refine aH (hb σ M1 ρ H1 _ (rs.mono k1) m1 h1) ?_;rintro u H2 ⟨k2,y,M2,r2,m2,g⟩;exact⟨k1.trans k2,x,y,M2,RV.mono k2 x r1,r2,m2,g⟩
def jI(r:kx)(ta tb:WE):WE:=λσ M Q=>ta σ M λx M1=>tb σ M1 λy M2=>r x y M2 Q
def F2{op:Operator}(ho:gB X (binaryOp op) r)(ha:aI X a ta)(hb:aI X b tb):aI X (.BinOp a op b pos) (jI r ta tb):=by
 intro σ M ρ H Q rs rm h;refine bw (J0 (Cp _) (a0 a) (a0 b)) ?_;show tW X a ρ H _;refine aH (two ha hb rs rm h) λv H1 q1=>?_
 show tW X b ρ H1 _;refine aH q1 λu H2 g=>?_
 obtain⟨k,x,y,M2,r1,r2,m2,q⟩:=g;exact r9 (ho x y v u H2 M2 Q r1 r2 m2 q) λ_ _=>bR k
def F3{op:CmpOp}(ho:gB X (compareOp op) r)(ha:aI X a ta)(hb:aI X b tb)(hm:behindInMarks op b=false):aI X (.Compare a [op] [b] pos) (jI r ta tb):=by
 intro σ M ρ H Q rs rm h;refine bw (Fz (Cp _) (a0 a) (a0 b) hm) ?_;show tW X a ρ H _;refine aH (two ha hb rs rm h) λv H1 q1=>?_
 show tW X b ρ H1 _;refine aH q1 λu H2 g=>?_
 obtain⟨k,x,y,M2,r1,r2,m2,q⟩:=g;exact r9 (ho x y v u H2 M2 Q r1 r2 m2 q) λ_ _=>bR k
def nL(x:D)(Q:Bool->Prop):Prop:=match x with
 |.bl b=>Q b
 |_=>False
def ld{Q:Bool->Prop}(h:nL d Q):∃b,d=.bl b/\Q b:=by
 cases d with
 |bl b=>exact⟨b,rfl,h⟩
 |_=>exact Yh h
def nM(t:WE):WT:=λσ M Q=>t σ M λx M1=>nL x λb=>Q b M1
def xj{op:CmpOp}(ho:gB X (compareOp op) r)(ha:aI X a ta)(hb:aI X b tb)(hm:behindInMarks op b=false):jc X (.Compare a [op] [b] pos) (nM (jI r ta tb)):=by
 intro σ M ρ H Q rs rm h;refine uD (FA (Cp _) (a0 a) (a0 b) hm) ?_;show tW X a ρ H _;refine aH (two ha hb rs rm h) λv H1 q1=>?_
 show tW X b ρ H1 _;refine aH q1 λu H2 MF=>?_
 obtain⟨k,x,y,M2,r1,r2,m2,q⟩:=MF;refine r9 (ho x y v u H2 M2 _ r1 r2 m2 q) λz H3 MG=>?_
 obtain⟨k3,d,M3,r3,m3,q3⟩:=MG;obtain⟨c,rfl,q3⟩:=ld q3;exact⟨c,RV.bl_.1 r3,k.trans k3,M3,m3,q3⟩
def Cq(t u:WT):WT:=λσ M Q=>t σ M λc M1=>eI c (u σ M1 Q) (Q false M1)
def Ie(t u:WT):WT:=λσ M Q=>t σ M λc M1=>eI c (Q true M1) (u σ M1 Q)
def Cr(t:WT):WT:=λσ M Q=>t σ M λc M1=>Q (!c) M1
def F4(h:jc X a t):jc X (.UnaryOp .Not a pos) (Cr t):=by
 intro σ M ρ H Q rs rm q;refine uD (Hk (k8 a)) ?_;show oP X a ρ H _;exact fK (h σ M ρ H _ rs rm q) λc H1 q1=>q1
def qo(X:Cx)(e:Expr)(t:WT):Prop:=∀σ M ρ H Q,RS X.K H σ ρ->RM X.K M H->t σ M Q->∀g a_ s,ad X a_ ρ H s->wpAny 'b' X.A (isTrue e X.env g) (TP X a_ ρ (t6 X.K H Q)) X.xe s
theorem qo.pt(h:qo X e t):jc X e t:=λσ M ρ H Q rs rm q a_ s I=>h σ M ρ H Q rs rm q _ a_ s I
def ET(X:Cx)(e:Expr):TT:=λρ H Q=>∀g a_ s,ad X a_ ρ H s->wpAny 'b' X.A (isTrue e X.env g) (TP X a_ ρ Q) X.xe s
def Ig(e:Expr):PW X e (ET X e):=λg a_ s _ _ _ I h=>h g a_ s I
def uF{Q Q':Bool->Hp->Prop}(h:ET X e ρ H Q)(f:∀v H',Q v H'->Q' v H'):ET X e ρ H Q':=λg a_ s I=>aL (h g a_ s I) λ_ _ ⟨H',k,q⟩=>⟨H',k,f _ H' q⟩
def qp{t:TT}{Q:Bool->Hp->Prop}(h:PW X e t)(q:t ρ H Q):ET X e ρ H Q:=λg a_ s I=>h g a_ s ρ H Q I q
def Cs(h:jc X a t):qo X (.BoolOp .And [a] pos) t:=λσ M ρ H Q rs rm q=>qp (Fr (k8 a)) (h σ M ρ H Q rs rm q)
def F5(h:jc X a t):qo X (.BoolOp .Or [a] pos) t:=λσ M ρ H Q rs rm q=>qp (Hi (k8 a)) (h σ M ρ H Q rs rm q)
def xk{u:WT}(h:jc X a t)(h':qo X (.BoolOp .And (b::es) pos) u):qo X (.BoolOp .And (a::b::es) pos) (Cq t u):=by
 intro σ M ρ H Q rs rm q;refine qp (Hj (k8 a) (Ig _)) ?_;show oP X a ρ H _;refine fK (h σ M ρ H _ rs rm q) λc H1 Ml=>?_
 obtain⟨k1,M1,m1,q1⟩:=Ml;cases c with
 |true=>exact uF (h' σ M1 ρ H1 Q (rs.mono k1) m1 q1) λ_ _=>uE k1
 |false=>exact⟨k1,M1,m1,q1⟩
def At{u:WT}(h:jc X a t)(h':qo X (.BoolOp .Or (b::es) pos) u):qo X (.BoolOp .Or (a::b::es) pos) (Ie t u):=by
 intro σ M ρ H Q rs rm q;refine qp (JT (k8 a) (Ig _)) ?_;show oP X a ρ H _;refine fK (h σ M ρ H _ rs rm q) λc H1 g=>?_
 obtain⟨k1,M1,m1,q1⟩:=g;cases c with
 |false=>exact uF (h' σ M1 ρ H1 Q (rs.mono k1) m1 q1) λ_ _=>uE k1
 |true=>exact⟨k1,M1,m1,q1⟩
def yE(ta tb:WE):WE:=λσ M Q=>ta σ M λx M1=>nL x λc=>eI c (tb σ M1 Q) (Q (.bl false) M1)
def Ct(ta tb:WE):WE:=λσ M Q=>ta σ M λx M1=>nL x λc=>eI c (Q (.bl true) M1) (tb σ M1 Q)
def yF(ta:WE):WE:=λσ M Q=>ta σ M λx M1=>nL x λc=>Q (.bl (!c)) M1
def xm{op:BoolOp}(h:aI X a ta):aI X (.BoolOp op [a] pos) ta:=λσ M ρ H Q rs rm q=>bw (Hl (a0 a)) (h σ M ρ H Q rs rm q)
def xn(h:aI X a ta)(h':aI X (.BoolOp .And (b::es) pos) tb):aI X (.BoolOp .And (a::b::es) pos) (yE ta tb):=by
 intro σ M ρ H Q rs rm q;refine bw (Hm (a0 a) (a0 _)) ?_;show tW X a ρ H _;refine aH (h σ M ρ H _ rs rm q) λv H1 g=>?_
 obtain⟨k1,x,M1,r1,m1,q1⟩:=g;obtain⟨c,rfl,q1⟩:=ld q1;refine⟨c,RV.bl_.1 r1,?_⟩;cases c with
 |true=>exact aH (h' σ M1 ρ H1 Q (rs.mono k1) m1 q1) λ_ _=>bR k1
 |false=>exact⟨k1,.bl false,M1,RV.bl_.2 rfl,m1,q1⟩
def Au(h:aI X a ta)(h':aI X (.BoolOp .Or (b::es) pos) tb):aI X (.BoolOp .Or (a::b::es) pos) (Ct ta tb):=by
 intro σ M ρ H Q rs rm q;refine bw (JW (a0 a) (a0 _)) ?_;show tW X a ρ H _;refine aH (h σ M ρ H _ rs rm q) λv H1 g=>?_
 obtain⟨k1,x,M1,r1,m1,q1⟩:=g;obtain⟨c,rfl,q1⟩:=ld q1;refine⟨c,RV.bl_.1 r1,?_⟩;cases c with
 |false=>exact aH (h' σ M1 ρ H1 Q (rs.mono k1) m1 q1) λ_ _=>bR k1
 |true=>exact⟨k1,.bl true,M1,RV.bl_.2 rfl,m1,q1⟩
def F6(h:aI X a ta):aI X (.UnaryOp .Not a pos) (yF ta):=by
 intro σ M ρ H Q rs rm q;refine bw (Hn (a0 a)) ?_;show tW X a ρ H _;refine aH (h σ M ρ H _ rs rm q) λv H1 g=>?_
 obtain⟨k1,x,M1,r1,m1,q1⟩:=g;obtain⟨c,rfl,q1⟩:=ld q1;exact⟨c,RV.bl_.1 r1,k1,.bl (!c),M1,RV.bl_.2 rfl,m1,q1⟩
def Ih(t:WT)(ta tb:WE):WE:=λσ M Q=>t σ M λc M1=>eI c (ta σ M1 Q) (tb σ M1 Q)
def Av(hc:jc X c t)(ha:aI X a ta)(hb:aI X b tb):aI X (.IfExp c a b pos) (Ih t ta tb):=by
 intro σ M ρ H Q rs rm q;refine bw (BN (k8 c) (a0 a) (a0 b)) ?_;show oP X c ρ H _;refine fK (hc σ M ρ H _ rs rm q) λk H1 g=>?_
 obtain⟨k1,M1,m1,q1⟩:=g;cases k with
 |true=>exact aH (ha σ M1 ρ H1 Q (rs.mono k1) m1 q1) λ_ _=>bR k1
 |false=>exact aH (hb σ M1 ρ H1 Q (rs.mono k1) m1 q1) λ_ _=>bR k1
def bM:Option MO->Option (List D)
 |some (.lst ds)=>some ds
 |some (.rol ds)=>some ds
 |_=>none
def Cu(x:D)(M:MH)(Q:Bool->Prop):Prop:=match x with
 |.non=>Q false
 |.bl b=>Q b
 |.int i=>Q (i != 0)
 |.str y=>y.length<=sizeLine/\Q ((y.length:Int) != 0)
 |.tup ds=>Q (!ds.isEmpty)
 |.ref a=>match M a with
  |some (.lst ds)=>Q (!ds.isEmpty)
  |some (.rol ds)=>Q (!ds.isEmpty)
  |some (.dic kvs)=>Q (!kvs.isEmpty)
  |_=>False
 |.ty _=>False
theorem nN{g k:Type}{l:List g}{m:List k}(h:l.length=m.length):l.isEmpty=m.isEmpty:=by
 cases l<;>cases m<;>simp_all
def F7{Q:Bool->Prop}(r:RV K H d v)(m:RM K M H)(h:Cu d M Q):∃k,BV K v H k/\Q k:=by
 cases d with
 |non=>cases RV.non_.1 r;exact⟨_,rfl,h⟩
 |bl b=>cases RV.bl_.1 r;exact⟨_,rfl,h⟩
 |int i=>cases RV.int_.1 r;exact⟨_,rfl,h⟩
 |str y=>cases RV.str_.1 r;exact⟨_,⟨h.1,rfl⟩,h.2⟩
 |ty n=>exact Yh h
 |tup ds=>
  obtain⟨a,xs,rfl,s,g⟩:=RV.tup_.1 r;exact⟨_,.inr (.inl ⟨xs,s,rfl⟩),by rw[←nN g.len];exact h⟩
 |ref a=>
  cases RV.ref_.1 r;have h:match M a with
   |some (.lst ds)=>Q (!ds.isEmpty)
   |some (.rol ds)=>Q (!ds.isEmpty)
   |some (.dic kvs)=>Q (!kvs.isEmpty)
   |_=>False:=h
  split at h
  .rename_i ds e
   obtain⟨xs,q,g⟩:=m a _ e;exact⟨_,.inl ⟨xs,aX.of q,rfl⟩,by rw[←nN g.len];exact h⟩
  .rename_i ds e
   obtain⟨xs,q,g⟩:=m a _ e;exact⟨_,.inl ⟨xs,.inl q,rfl⟩,by rw[←nN g.len];exact h⟩
  .rename_i kvs e
   obtain⟨l,q,k,g⟩:=m a _ e;refine⟨_,.inr (.inr ⟨l,q,rfl⟩),?_⟩;have:l.length=kvs.length:=by have:=congrArg List.length k;simpa using this
   rw[nN this];exact h
  .exact Yh h
def Cv(t:WE):WT:=λσ M Q=>t σ M λx M1=>Cu x M1 λk=>Q k M1
def F8(h:aI X a ta)(l:∀g,isTrue a X.env g=(do let v ←g;standAt a.pos;holding [v] (truthy v))):jc X a (Cv ta):=by
 intro σ M ρ H Q rs rm q;refine uD (BW (a0 a) l) ?_;show tW X a ρ H _;refine aH (h σ M ρ H _ rs rm q) λv H1 p=>?_
 obtain⟨k1,x,M1,r1,m1,q1⟩:=p;obtain⟨k,E,q2⟩:=F7 r1 m1 q1;exact⟨k,E,k1,M1,m1,q2⟩
def mF:WA:=λ_ M Q=>Q [] M
def yG(t:WE)(u:WA):WA:=λσ M Q=>t σ M λx M1=>u σ M1 λxs M2=>Q (x::xs) M2
def F9:eG X [] mF:=λσ M ρ H Q rs rm q=>As HP ⟨Kp.refl H,[],M,af.nil,rfl,rm,q⟩
def Cw(h:aI X e ta)(h':eG X es u)(hs:aj e=true):eG X (e::es) (yG ta u):=by
 intro σ M ρ H Q rs rm q;refine As (FE (a0 e) (k9 es) (aY hs)) ?_;show tW X e ρ H _;refine aH (h σ M ρ H _ rs rm q) λv H1 g=>?_
 obtain⟨k1,x,M1,r1,m1,q1⟩:=g;show jH X es ρ H1 _;refine da (h' σ M1 ρ H1 _ (rs.mono k1) m1 q1) λvs H2 k=>?_
 obtain⟨k2,xs,M2,r2,l,m2,q2⟩:=k;exact⟨k1.trans k2,x::xs,M2,af.cons (RV.mono k2 x r1) r2,by simp[l],m2,q2⟩
def Cy(t:WA):WE:=λσ M Q=>t σ M λxs M1=>Q (.tup xs) M1
def Cz(t:WA):WE:=λσ M Q=>t σ M λxs M1=>∀p,M1 p=none->Q (.ref p) (ab M1 p (.lst xs))
def Ga(h:eG X es u)(hz:es.length<=1000):aI X (.Tuple es n pos) (Cy u):=by
 intro σ M ρ H Q rs rm q;refine bw (HQ (k9 es)) ?_;show jH X es ρ H _;refine da (h σ M ρ H _ rs rm q) λvs H1 g=>?_
 obtain⟨k1,xs,M1,r1,k,m1,q1⟩:=g;refine⟨?_,λp hp=>?_⟩
 .rw[←r1.len,k];exact Nat.le_of_lt (sY hz)
 .have k2:Kp H1 (upd H1 p (.tup vs)):=Kp.new hp
  exact⟨k1.trans k2,.tup xs,M1,RV.tup_.2 ⟨p,vs,rfl,bf.of aA,af.mono k2 _ r1⟩,m1.newH hp,q1⟩
def Gb(h:eG X es u)(hz:es.length<=1000):aI X (.List es pos) (Cz u):=by
 intro σ M ρ H Q rs rm q;refine bw (HR (k9 es)) ?_;show jH X es ρ H _;refine da (h σ M ρ H _ rs rm q) λvs H1 g=>?_
 obtain⟨k1,xs,M1,r1,k,m1,q1⟩:=g;refine⟨?_,λp hp=>?_⟩
 .rw[←r1.len,k];exact Nat.le_of_lt (sY hz)
 .have k2:Kp H1 (upd H1 p (.lst vs)):=Kp.new hp
  exact⟨k1.trans k2,.ref p,_,RV.ref_.2 rfl,m1.new (m:=.lst xs) hp ⟨vs,aA,af.mono k2 _ r1⟩,q1 p (m1.fresh hp)⟩
abbrev aK:=List D->MH->DK->Prop
def ga(K:Za)(sp:aK):Sp:=λvs H Q _=>∃ds M g,af K H ds vs/\RM K M H/\sp ds M g/\∀d M' v H',g d M'->Kp H H'->RV K H' d v->RM K M' H'->Q v H'
def bG(P:Zv)(w:World)(K:Za)(mg:Ze)(base:Heap)(k:Nat)(x:Str)(sp:aK):Prop:=
 ∃st ps f fd,nJ K mg x st ps f fd/\eM P w K mg base jG k f fd ps (ga K sp)
theorem c8{env:Env}{pos:Pos}:∀{es:Zg},es.all aj=true->(backTo pos (starEach es env)).any (·.1)=false
 |[],_=>rfl
 |e::es,h=>by
  rw[XO,YX] at h;rw[aY h.1];show(false||(backTo pos (starEach es env)).any (·.1))=false;rw[c8 h.2];rfl
def fG(sp:aK)(t:WA):WE:=λσ M Q=>t σ M λds M1=>sp ds M1 Q
def Gc{p:Pos}(F:bG X.prog X.w X.K X.mg X.base n x sp)(g:bK n X.A)(k:Gl X x)(l:(x==("__debug__" : Str))=false)(hs:aj e=true)(E:es.all aj=true)(ha:eG X (e::es) u):
  aI X (.Call (.Name x p) (e::es) [] pos) (fG sp u):=by
 obtain⟨st,ps,f,fd,I,G⟩:=F;intro σ M ρ H Q rs rm q;refine bw (Ib I G g (k9 (e::es)) k l (aY hs) (c8 E)) ?_;show jH X (e::es) ρ H _;refine da (ha σ M ρ H _ rs rm q) λvs H1 J=>?_
 obtain⟨k1,xs,M1,r1,R,m1,q1⟩:=J;rw[ZA];exact⟨xs,M1,Q,r1,m1,q1,λd M' v H' L kk O P=>⟨k1.trans kk,d,M',O,P,L⟩⟩
end
def qr(K:Za):Bool:=K.all λp=>match p.2.cls with
 |.type t=>!(t == "list")
 |_=>true
theorem s9{a:Addr}{o:Obj}:∀{K:Za},qr K=true->K.lookup a=some o->o.cls=.type "list"->False
 |[],_,h,_=>by cases h
 |(b,p)::K,hn,h,hc=>by
  unfold qr at hn;rw[XO,YX] at hn;rw[XG] at h;split at h
  .cases h
   have h1:=hn.1;simp only[hc] at h1;exact absurd h1 'c'
  .exact s9 (K:=K) hn.2 h hc
theorem uG{K:Za}{H:Hp}:∀(ns:Zi),af K H (ns.map D.int) (ns.map V.int)
 |[]=>.nil
 |n::ns=>.cons (RV.int_.2 rfl) (uG ns)
def nP(a:Addr)(ns:Zi):MH:=λb=>if b=a then some (.rol (ns.map D.int)) else none
def t7(n:Nat)(sp:aK):Prop:=∀a ns,ns.length<=n->sp [.ref a] (nP a ns) λd _=>d=.bl true
def Ii{ns:Zi}(c:qr K=true)(hs:t7 n sp)(hl:ns.length<=n)(a:aX K H2 f (ns.map V.int))(E:XK):ga K sp [.ref f] H2 (λv _=>v=.bl true) E:=by
 rcases a with a | ⟨o,d_,m,h1,h2,_⟩
 .refine⟨[.ref f],nP f ns,λd _=>d=.bl true,.cons (RV.ref_.2 rfl) .nil,λb o e=>?_,hs f ns hl,λd M' v H' q _ r _=>?_⟩
  .unfold nP at e
   split at e
   .rename_i hb
    subst hb;cases e;exact⟨_,a,uG ns⟩
   .cases e
  .subst q
   exact RV.bl_.1 r
 .exact(s9 c h1 h2).elim
mutual
noncomputable def gW(K:Za):D->Value->Bool
 |.non,u=>match u with
  |.none=>true
  |_=>false
 |.bl b,u=>match u with
  |.bool c=>decide (b=c)
  |_=>false
 |.int i,u=>match u with
  |.int j _=>decide (i=j)
  |_=>false
 |.str x,u=>match u with
  |.str y _=>decide (x=y)
  |_=>false
 |.ty n,u=>match u with
  |.type m=>decide (n=m)
  |_=>false
 |.ref a,u=>match u with
  |.ref b=>decide (a=b)
  |_=>false
 |.tup ds,u=>match u with
  |.ref a=>(match K.lookup a with
   |some ⟨.type t,none,.seq d_ _,_⟩=>decide (t = "tuple")&&decide (d_.size<=sizeLine)&&mG K ds d_.toList
   |_=>false)
  |_=>false
noncomputable def mG(K:Za):List D->List Value->Bool
 |[],us=>us.isEmpty
 |d::ds,us=>match us with
  |u::us=>gW K d u&&mG K ds us
  |[]=>false
end
mutual
theorem uH{K:Za}:∀(d:D){u:Value},gW K d u=true->∃v,RelV v u/\∀H,RV K H d v
 |.non,u,h=>by
  unfold gW at h;split at h
  .exact⟨.non,rfl,λ_=>RV.non_.2 rfl⟩
  .cases h
 |.bl b,u,h=>by
  unfold gW at h;split at h
  .cases XN h;exact⟨.bl _,rfl,λ_=>RV.bl_.2 rfl⟩
  .cases h
 |.int b,u,h=>by
  unfold gW at h;split at h
  .cases XN h;exact⟨.int _,⟨_,rfl⟩,λ_=>RV.int_.2 rfl⟩
  .cases h
 |.str b,u,h=>by
  unfold gW at h;split at h
  .cases XN h;exact⟨.str _,⟨_,rfl⟩,λ_=>RV.str_.2 rfl⟩
  .cases h
 |.ty b,u,h=>by
  unfold gW at h;split at h
  .cases XN h;exact⟨.ty _,rfl,λ_=>RV.ty_.2 rfl⟩
  .cases h
 |.ref a,u,h=>by
  unfold gW at h;split at h
  .cases XN h;exact⟨.ref _,rfl,λ_=>RV.ref_.2 rfl⟩
  .cases h
 |.tup ds,u,h=>by
  unfold gW at h;split at h
  .rename_i a
   split at h
   .rename_i t d_ n sl e
    simp only[YX,XQ] at h;obtain⟨⟨h1,h2⟩,h3⟩:=h;obtain⟨vs,r1,r2⟩:=td ds h3;exact⟨.ref a,rfl,λH=>RV.tup_.2 ⟨a,vs,rfl,.inr ⟨_,d_,n,e,by rw[h1],⟨rfl,rfl⟩,h2,r1⟩,r2 H⟩⟩
   .cases h
  .cases h
theorem td{K:Za}:∀(ds:List D){us:Zd},mG K ds us=true->∃vs,ak vs us/\∀H,af K H ds vs
 |[],us,h=>by
  unfold mG at h;cases us with
  |nil=>exact⟨[],.nil,λ_=>.nil⟩
  |cons u us=>cases h
 |d::ds,us,h=>by
  unfold mG at h;split at h
  .rename_i u us
   rw[YX] at h;obtain⟨v,r1,r2⟩:=uH d h.1;obtain⟨vs,r3,r4⟩:=td ds h.2;exact⟨v::vs,.cons r1 r3,λH=>.cons (r2 H) (r4 H)⟩
  .cases h
end
def nQ(K:Za):List Str->List D->Bool
 |[],_=>true
 |x::xs,ds=>(match PySem.W.nsIn K mainGlobals x with
  |some (some u)=>gW K (ds.headD .non) u
  |_=>false)&&nQ K xs ds.tail
theorem qt{K:Za}{h:Heap}{mg:Ze}(X:K.In h)(G:h.Ns mainGlobals mg):∀{xs:Zf}{ds:List D},nQ K xs ds=true->∀(j:Nat) x,xs[j]?=some x->mE K mg x (ds.getD j .non)
 |[],_,_,j,x,e=>by cases e
 |y::xs,ds,hk,j,x,e=>by
  unfold nQ at hk;rw[YX] at hk;cases j with
  |zero=>
   have e:y=x:=by simpa using e
   subst e;have h1:=hk.1;split at h1
   .rename_i u q
    obtain⟨v,r1,r2⟩:=uH _ h1;have:ds.getD 0 .non=ds.headD .non:=by cases ds<;>rfl
    rw[this];exact⟨v,u,PySem.W.mg_of X G q,r1,r2⟩
   .cases h1
  |succ j=>
   have:=qt X G hk.2 j x (by simpa using e)
   have a:ds.getD (j+1) .non=ds.tail.getD j .non:=by cases ds<;>simp
   rw[a];exact this
def Aw(K:Za)(xs:Zf):Bool:=xs.all λx=>match PySem.W.nsIn K mainGlobals x with
 |some none=>true
 |_=>false
def Ax{mg:Ze}(X:K.In h)(G:h.Ns mainGlobals mg)(hk:Aw K ps=true):∀x,ps.contains x=true->mg x=none:=by
 intro x hx
 have:=XI.1 hk x (by simpa using hx)
 split at this
 .rename_i q
  exact PySem.W.mg_none_of X G q
 .cases this
def Ki{l:PySem.W.OpenLaw}{k:Nat}{q:Zv}{XP:(Str->Option Value)->Heap->Prop}{YP:World->Heap->Prop}{d:DefRec}{K:Params->PySem.W.Frag}
  (hn:l.most=some n) (g:n<=sizeLine) (p:d.params.defaults=[]) (E:bK k callerA) (hs:t7 n sp)
  (G:∀(w:World) (h:Heap),YP w h->(K w.params).In h) (I:∀w:World,qr (K w.params)=true)
  (F:∀(w:World) (mg:Ze) (c:Addr) (h:Heap),(K w.params).In h->h.Ns mainGlobals mg->mg d.name=some (.ref c) ->
   ∃fd:FuncData,(∀(s:Shared) (u:Value),BindsTo s fd ⟨[u],[]⟩ [(x,u)]) /\
    ∀base:Heap,(K w.params).In base->base.Ns mainGlobals mg->eM l.prog w (K w.params) mg base jG k c fd [x] (ga (K w.params) sp)):
  PySem.W.WalkO q ps XP YP l.row.toRowW d [] (λf vs=>PySem.call f vs):=
 L2.FR (n:=n) (k:=k) (x:=x) (CX:=λ_=>jG) (sp:=λw=>ga (K w.params) sp) hn g p E G F (λw _ a ns hl _ J=>Ii (I w) hs hl J _) λ_ _ _ _ _ z=>z
section
variable {P:Zv}{w:World}{K:Za}{mg:Ze}{base:Heap}{k:Nat}
structure gb (K:Za) (x:Str) (st:Stmt) (f:Addr) (fd:Zu):Prop where
 ex:∃(oc:Value) (od an:Zm) (J_:Zn) (kV v_ pm r_ ct:Value),PySem.W.nsIn K mainGlobals x=some (some (.ref f)) /\
  fd=PySem.W.fnOf x x (bp st) (aO st) (ai st) .none kV v_ pm an r_ ct/\K.lookup f=some ⟨oc,od,.func fd,J_⟩/\PySem.W.codeIn K r_ x=true/\PySem.W.keepIn K (.ref f)=true
theorem gb.mk'{kV:Value}
  (a:PySem.W.nsIn K mainGlobals x=some (some (.ref f))) (l:K.lookup f=some ⟨oc,od,.func (PySem.W.fnOf x x (bp st) (aO st) (ai st) .none kV v_ pm an r_ ct),J_⟩)
  (c:PySem.W.codeIn K r_ x=true) (k:PySem.W.keepIn K (.ref f)=true):gb K x st f (PySem.W.fnOf x x (bp st) (aO st) (ai st) .none kV v_ pm an r_ ct):=
 ⟨⟨oc,od,an,J_,kV,v_,pm,r_,ct,a,rfl,l,c,k⟩⟩
theorem gb.def_(A:gb K x st f fd)(X:K.In h)(G:h.Ns mainGlobals mg)
  (hb:∀(kV v_ pm:Value) (an:Zm) (r_ ct:Value) (us:Zd),us.length=ps.length->bindArgs (PySem.W.fnOf x x (bp st) (aO st) (ai st) .none kV v_ pm an r_ ct) ⟨us,[]⟩=pure (ps.zip us)):
  nJ K mg x st ps f fd:=by
 obtain⟨oc,od,an,J_,kV,v_,pm,r_,ct,a,rfl,l,c,k⟩:=A.ex;exact Cm X G a l c k hb
def CB:Option (Option Value)->String->Bool
 |some (some (.builtin n)),s=>decide (n=s)
 |_,_=>false
def CC:Option (Option Value)->Bool
 |some none=>true
 |_=>false
def Gd{o:Option (Option Value)}{s:String}(h:CB o s=true):o=some (some (.builtin s)):=by
 unfold CB at h;split at h
 .cases XN h;rfl
 .cases h
def Ge{o:Option (Option Value)}(h:CC o=true):o=some none:=by
 unfold CC at h;split at h
 .rfl
 .cases h
def clsIn(K:Za)(C:Addr)(fs:Zf):Bool:=
 PySem.W.plainGet K C Str.empty&&PySem.W.hasDictIn K C&&PySem.W.plainOver K C&&CB (PySem.W.findIn K (.ref C) "__setattr__") "object.__setattr__" && fs.all (λf=>CC (PySem.W.findIn K (.ref C) f))
def c9(h:clsIn K C ps=true):fS K C:=by
 unfold clsIn at h;simp only[YX] at h;exact⟨h.1.1.1.1,h.1.1.1.2,h.1.1.2,Gd h.1.2⟩
def uI(h:clsIn K C ps=true)(a:x∈ps):cX K C x:=by
 unfold clsIn at h;simp only[YX] at h;exact Ge (XI.1 h.2 x a)
structure MethAt (K:Za) (C:Addr) (m i':Str) (st:Stmt) (f:Addr) (fd:Zu):Prop where
 at_:PySem.W.findIn K (.ref C) m=some (some (.ref f))
 fn:PySem.W.isFn K (.ref f)=true
 fun_:qi K m i' st f fd
theorem MethAt.mk'{kV:Value}
  (a:PySem.W.findIn K (.ref C) m=some (some (.ref f))) (l:K.lookup f=some ⟨oc,od,.func (PySem.W.fnOf m x (bp st) (aO st) (ai st) .none kV v_ pm an r_ ct),J_⟩)
  (n:PySem.W.isFn K (.ref f)=true) (c:PySem.W.codeIn K r_ x=true) (k:PySem.W.keepIn K (.ref f)=true):MethAt K C m x st f (PySem.W.fnOf m x (bp st) (aO st) (ai st) .none kV v_ pm an r_ ct):=
 ⟨a,n,uA l c k⟩
theorem MethAt.meth(A:MethAt K C m x st f fd):BZ K C m f:=⟨A.at_,A.fn,A.fun_.kp⟩
end
end DD
namespace K22
open PySem PySem.Spec PyProof.Rows L2 DD
def top(i:Nat):Stmt:=PySem.Challenge.pw_notring_k22_whole_rings_shown.main.body.getD i (.Pass ⟨0,0,0,0⟩)
abbrev iD:List Str:=["all","any","bool","enumerate","int","isinstance","len","list","min","range","reversed","set","sorted","tuple","zip"]
abbrev fH:List Str:=["MOST_CONDS","HIGHEST_NUMBER","MOST_LISTED","MOST_FACTS","MOST_ROWS"]
abbrev nR:List D:=[(.int 6),(.int 6),(.int 6),(.int 120),(.int 400)]
abbrev gJ:Stmt:=top 35
abbrev qu:Stmt:=top 54
abbrev oQ:Stmt:=inClass (top 18) 0
abbrev oR:Stmt:=inClass (top 19) 0
abbrev oS:Stmt:=inClass (top 20) 0
abbrev oT:Stmt:=inClass (top 21) 0
abbrev mH:Stmt:=inClass (top 32) 0
def bo(K:Za)(x:Str)(st:Stmt):Prop:=∃f fd,gb K x st f fd
def dB(K:Za)(C:Addr)(m q:Str)(st:Stmt):Prop:=∃f fd,MethAt K C m q st f fd
abbrev yH:List Str:=["fact","number","facts","at"]
abbrev Ij:List Str:=["many","heads","conds","headed","leanings","helped"]
structure Ik (K:Za) (cH cL cS cD S:Addr):Prop where
 a_0:bo K "set_of" (top 5)
 a_1:bo K "is_ready" (top 11)
 a_2:bo K "has_fact" (top 4)
 a_3:bo K "members" (top 6)
 a_4:bo K "parts_by_least" (top 10)
 a_5:bo K "reached_sets" (top 9)
 a_6:bo K "parts_of" (top 8)
 a_7:bo K "odd_walk" (top 15)
 a_8:bo K "sides_reached" (top 14)
 a_9:bo K "inner_leanings" (top 13)
 a_10:bo K "ring_of" (top 12)
 a_11:bo K "_law_whole" (top 49)
 a_12:bo K "_law_walks" (top 52)
 a_13:bo K "_law_keeps" (top 51)
 a_14:bo K "_law_shown" (top 53)
 a_15:bo K "_law_leanings" (top 47)
 a_16:bo K "_law_leaned" (top 48)
 a_17:bo K "rows_by_help" (top 35)
 a_18:bo K "row_leanings" (top 33)
 a_19:bo K "rows_by_head" (top 34)
 a_20:bo K "made_cond" (top 22)
 a_21:bo K "is_whole" (top 2)
 a_22:bo K "is_below" (top 3)
 a_23:bo K "is_listing" (top 39)
 a_24:bo K "is_number" (top 38)
 a_25:bo K "is_cond" (top 37)
 a_26:bo K "is_row" (top 36)
 a_27:bo K "_law_two" (top 50)
 a_28:bo K "_law_mixed" (top 42)
 a_29:bo K "_law_draw" (top 43)
 a_30:bo K "_law_facts" (top 44)
 a_31:bo K "_law_cond" (top 45)
 a_32:bo K "_law_row" (top 46)
 a_33:bo K "_law_cell_at" (top 41)
 a_53:dB K cH "__init__" "Have.__init__" (inClass (top 18) 0)
 a_54:dB K cH "leaning" "Have.leaning" (inClass (top 18) 4)
 a_55:dB K cL "__init__" "Lack.__init__" (inClass (top 19) 0)
 a_56:dB K cL "leaning" "Lack.leaning" (inClass (top 19) 4)
 a_57:dB K cS "__init__" "Some.__init__" (inClass (top 20) 0)
 a_58:dB K cS "leaning" "Some.leaning" (inClass (top 20) 4)
 a_59:dB K cD "__init__" "Lead.__init__" (inClass (top 21) 0)
 a_60:dB K cD "leaning" "Lead.leaning" (inClass (top 21) 4)
 a_61:dB K S "__init__" "Sheet.__init__" (inClass (top 32) 0)
 a_62:dB K S "how_many" "Sheet.how_many" (inClass (top 32) 1)
 a_Sheet_leaned:dB K S "leaned" "Sheet.leaned" (inClass (top 32) 8)
def EU(sp:aK):Prop:=∀{l:PySem.W.OpenLaw}{w:World}{K:Za}{h:Heap}{mg:Ze}{a cH cL cS cD S:Addr}(X:K.In h) (G:h.Ns mainGlobals mg) (f:mg "law" = some (.ref a))
 (g:(decide (cH≠cL)&&decide (cH≠cS)&&decide (cH≠cD)&&decide (cL≠cS)&&decide (cL≠cD)&&decide (cS≠cD))=true) (gl:nQ K fH nR=true) (bl:Aw K iD=true)
 (j:PySem.W.nsIn K mainGlobals "Have" = some (some (.ref cH))) (NW:(clsIn K cH yH&&PySem.W.makesIn K cH&&PySem.W.keepIn K (.ref cH))=true)
 (NX:PySem.W.nsIn K mainGlobals "Lack" = some (some (.ref cL))) (NY:(clsIn K cL yH&&PySem.W.makesIn K cL&&PySem.W.keepIn K (.ref cL))=true)
 (NZ:PySem.W.nsIn K mainGlobals "Some" = some (some (.ref cS))) (N0:(clsIn K cS yH&&PySem.W.makesIn K cS&&PySem.W.keepIn K (.ref cS))=true)
 (N1:PySem.W.nsIn K mainGlobals "Lead" = some (some (.ref cD))) (N4:(clsIn K cD yH&&PySem.W.makesIn K cD&&PySem.W.keepIn K (.ref cD))=true)
 (N5:PySem.W.nsIn K mainGlobals "Sheet" = some (some (.ref S))) (N6:(clsIn K S Ij&&PySem.W.makesIn K S&&PySem.W.keepIn K (.ref S))=true)
 {b:Addr}{c:Zu}(Mr:gb K "law" qu b c)
 (hy:Ik K cH cL cS cD S),
 ∃fd:FuncData,(∀(s:Shared) (v:Value),BindsTo s fd ⟨[v],[]⟩ [("_law_script",v)])/\∀base:Heap,K.In base->base.Ns mainGlobals mg->eM l.prog w K mg base jG 8 a fd ["_law_script"] (ga K sp)
end K22
section
open PySem PySem.W PyProof.Rows L2 DD
local macro_rules
  | `(tactic| o_head $H:term) => `(tactic| refine holds_open (q := K22.viewQ) (loose := []) (Xt := λs => xlAt K22.viewQ [] s && recOk [] s) (XP := XL K22.viewQ []) (Yf := Hook.obs $H) (Ya := Hook.val $H) (YP := Hook.says $H) (N := 13100) ?$(Lean.mkIdent `hl) (Hook.of $H) (Hook.keeps $H)
      (λs e=>xl_of s (Bool.and_eq_true_iff.mp e).1) XL.keeps (by rfl) (by rfl) (by rfl) (λs e=>recFacts_of (Bool.and_eq_true_iff.mp e).2) (by rfl) (by first | assumption | rfl') (by rfl') ⟨rfl,rfl,rfl,rfl,rfl,by rfl'⟩ ?$(Lean.mkIdent `hw) ?$(Lean.mkIdent `hc))
set_option maxHeartbeats 0 in
theorem K22.over{sp:aK}(ok:t7 63 sp)(b:K22.EU sp):PySem.Challenge.rw_notring_k22_whole_rings_shown.Holds:=by
 w_on;refine holds_law K22.said λsaid=>?_;k_head
 (case hl=>exact TopT.JQ K22.seen1 K22.seen2 K22.seen3 K22.seen5 K22.seen6 (λw=>by kernel_rfl))
 (case hw=>w_witness2);k_fill;refine DD.Ki (l:=PySem.Challenge.rw_notring_k22_whole_rings_shown) (n:=63) (k:=8) (x:="_law_script") rfl 'c' rfl ⟨rfl,by decide,by decide⟩ ok (λw h Y=>PySem.W.kIn_of Y) ?noL ?defs
 case noL=>intro w;kernel_rfl
 case defs=>
  intro w mg j h f G g;refine' b f G g ?ap ?gl ?bl ?NV ?NW ?NX ?NY ?NZ ?N0 ?N1 ?N4 ?N5 ?N6 (gb.mk' ?Mr ?l_34 ?c_34 ?Sb) ?hy
  case NV | NX | NZ | N1 | N5 | Mr | l_34 | c_34 | Sb=>k_is
  case hy=>
   constructor<;>first
    |(refine'⟨_,_,gb.mk' ?a ?l ?c ?k⟩;case a | l | c | k=>k_is)
    |(refine'⟨_,_,MethAt.mk' ?a ?l ?n ?c ?k⟩;case a | l | n | c | k=>k_is)
  case ap | gl | bl | NW | NY | N0 | N4 | N6=>kernel_rfl
end
namespace DD
open PySem PySem.Spec PyProof.Rows L2
variable {K:Za}{d x:D}{a l:Addr}{v u:V}{s:Shared}{H0:Hp}{ds xs:List D}{a_:Zc}{tg iter:Expr}{ρ:L2.St}{vs us:List V}{te ta:WE}{u' v':Value}{M:MH}{j ep:Nat}{g:dk}{c:WT}{D':Ends}{A:Around}{d_ m_:Zd}{t tb:WS}{f:Zk}{i b:Int}{Ng py:Pos}{R R':It->Hp->Prop}{l_:List (Key×V)}{kvs:Zz}{P:Zv}{body:Zt}{N ps:Zf}{Q Q':VK}{σ:DS}{X:Cx}{y:Str}{env:Env}
def sd{w:World}{k:Key}(h:(bt P w).is k u'=true):RelV (kV k) u':=by
 rw[yj] at h;rcases bJ h with⟨i,t,rfl,rfl⟩ | ⟨x,t,rfl,rfl⟩
 .exact⟨t,rfl⟩
 .exact⟨t,rfl⟩
def Il(a:Addr)(u:Obj)(l_:List (Key×V)):It:=
 ⟨λi H=>H a=some (.frz u (.dK l_))/\i<l_.length,λi H x H'=>H'=H/\∃kv,l_[i]?=some kv/\x=kV kv.1,λi H=>H a=some (.frz u (.dK l_))/\l_.length<=i⟩
def ky{H:Hp}{u:Obj}(I:ad X a_ ρ H s)(h:H a=some (.frz u (.dK l_))):
  (a==sysModules)=false/\l_.length<=sizeLine/\∃vs es ep,KV l_ vs/\u.data=.dict es ep/\s.heap.DictAt (bt X.prog X.w) a vs ep:=by
 obtain⟨h1,hz,hd,vs,k,o,es,ep,ho,r⟩:=(show aT X.prog X.w H s.heap a (.frz u (.dK l_)) from I.hok a _ h);have e:o=u:=by rw[h1] at ho;cases ho;rfl
 subst e;exact⟨hd,hz,vs,es,ep,k,r.2.1,o,es,ho,r⟩
def Ay{w:World}(a it:Addr){u:Obj}{es:Array DictEntry}(hu:u.data=.dict es ep):
  Turn P w K tg (Il a u l_) [it] it (λi h=>h.IsKeyIter it a i l_.length ep) where
 mem:=by simp
 obj:=λi h st b hb=>by
  have e:b=it:=by simpa using hb
  subst e;obtain⟨o,e,c,d⟩:=st;exact⟨o,e,λv z=>by rw[d] at z;cases z⟩
 keep:=λi h h' st k=>st.at λo e=>k it (by simp) o e
 item:=by
  intro X r hw B hc i a_ s σ H E I p st C;subst r hw B;obtain⟨hq,hi⟩:=C;obtain⟨hd,hz,vs,U,F,m,n,hm⟩:=ky I hq;have G:F=ep:=by rw[hu] at n;cases n;rfl
  subst G;obtain⟨⟨k,x⟩,hx,W⟩:=cF m (ZD hi);obtain⟨f0,J,Y,L,O,S⟩:=p it (by simp);rw[m.length] at st;refine wpAny_pyNext_dict_item st hm hx λT h' Z j_ sb=>?_
  have I1:ad X a_ σ H { s with heap:=h' }:=I.turned (t':=s.toks) (λb o hb e=>(sb.2 b hb).trans e) f0 J L O S;obtain⟨o,e,c,d⟩:=id j_;rw[←m.length] at j_;have Vo:l_[i].1=k:=W.1;exact⟨T,rfl,t0 (s:={ s with heap:=h' }) e c d 'c' ⟨kV k,H,I1,sd Z,⟨rfl,l_[i],ZD hi,by rw[Vo]⟩,j_,λb hb=>(p b hb).1⟩⟩
 done:=by
  intro X r hw B hc i a_ s σ H E I p st C;subst r hw B;obtain⟨hq,hi⟩:=C;obtain⟨hd,hz,vs,U,F,m,n,hm⟩:=ky I hq;have G:F=ep:=by rw[hu] at n;cases n;rfl
  subst G;obtain⟨f0,J,Y,L,O,S⟩:=p it (by simp);rw[m.length] at st;have hx:vs[i]?=none:=by rw[XR,←m.length];exact hi
  exact wpAny_pyNext_dict_end (I.ok.hd hc) st hm hx λh' eb=>⟨rfl,I.turned (t':=s.toks) (λb o hb e=>eb b o hb e) f0 J L O S⟩
 self:=λ_ _ _ _ _ st h=>wpAny_pyIter_keyiter st h
section
variable {X:Cx}{ρ:L2.St}{H:Hp}
def xo{u:Obj}(I:ad X a_ ρ H s)(hq:H a=some (.frz u (.dK l_)))(q:R (Il a u l_) H):
  wpAny 'b' X.A (pyIter (.ref a)) (sL X a_ ρ tg R) X.xe s:=by
 obtain⟨hd,hz,vs,es,ep,k,hu,hm⟩:=ky I hq;refine wpAny_pyIter_dict hd hm ?_;refine⟨s.heap.objs.size,[s.heap.objs.size],_,_,H,rfl,I.kept (t':=s.toks) λb o e=>Yd _ e,Ay a _ hu,⟨_,Yg _ rfl,rfl,by rw[k.length];rfl⟩,λb hb=>?_,q⟩;have e:b=s.heap.objs.size:=by simpa using hb
 subst e;exact I.fpOk (YF _) (I.hok.fresh (YF _))
def freeze(I:ad X a_ ρ H s)(hq:H a=some (.dK l_)):∃u,ad X a_ ρ (upd H a (.frz u (.dK l_))) s:=by
 obtain⟨hz,hd,vs,m,k⟩:=(show aT X.prog X.w H s.heap a (.dK l_) from I.hok a _ hq);obtain⟨o,es,ep,ho,r⟩:=id k;refine⟨o,?_⟩
 have:=I.write (x:=a) (e:=a) (o:=.frz o (.dK l_)) (h':=s.heap) (t':=s.toks) (by rw[hq];exact trivial) (.inl rfl) (λb u _ e=>e) ⟨_,ho⟩ ⟨ho,hz,hd,vs,m,k⟩
 exact this
end
structure cG where
 nx:DS->MH->Prop
 rt:DK
 bk:DS->MH->Prop:=λ_ _=>False
 ct:DS->MH->Prop:=λ_ _=>False
abbrev WS:=cG->DS->MH->Prop
def qw(K:Za)(H:Hp)(n:DS->MH->Prop):L2.St->Hp->Prop:=λm H'=>Kp H H'/\∃k M',RS K H' k m/\RM K M' H'/\n k M'
def t8(K:Za)(H:Hp)(D:cG):Ends:={ nx:=qw K H D.nx,rt:=lift K H D.rt,bk:=qw K H D.bk,ct:=qw K H D.ct }
structure yI (D D':Ends):Prop where
 nx:∀ρ H,D.nx ρ H->D'.nx ρ H
 rt:∀v H,D.rt v H->D'.rt v H
 bk:∀ρ H,D.bk ρ H->D'.bk ρ H
 ct:∀ρ H,D.ct ρ H->D'.ct ρ H
section
variable {X:Cx}{st:Stmt}{Mv:Zt}{ρ:L2.St}{H H':Hp}{pos:Pos}{e:Expr}
def jd{n:DS->MH->Prop}(k:Kp H H')(h:qw K H' n ρ H0):qw K H n ρ H0:=⟨k.trans h.1,h.2⟩
def pv{D:cG}(k:Kp H H'):yI (t8 K H' D) (t8 K H D):=⟨λ_ _=>jd k,λ_ _=>bR k,λ_ _=>jd k,λ_ _=>jd k⟩
theorem SP.imp{D:Ends}{f:Flow}(i:yI D D')(h:SP X a_ D f s):SP X a_ D' f s:=by
 cases f with
 |next=>obtain⟨a,b,c,d⟩:=h;exact⟨a,b,c,i.nx _ _ d⟩
 |brk=>obtain⟨a,b,c,d⟩:=h;exact⟨a,b,c,i.bk _ _ d⟩
 |cont=>obtain⟨a,b,c,d⟩:=h;exact⟨a,b,c,i.ct _ _ d⟩
 |ret u=>obtain⟨v,a,b,c,r,d⟩:=h;exact⟨v,a,b,c,r,i.rt _ _ d⟩
def pA(X:Cx)(Mv:Zt):L2.TS:=λD ρ H=>∀a_ s,ad X a_ ρ H s->wpAny 'b' X.A (execs Mv X.env) (SP X a_ D) X.xe s
def Ll(st:Stmt):PS X st (xi X st):=λa_ s _ _ _ I h=>h a_ s I
def lf(Mv:Zt):jE X Mv (pA X Mv):=λa_ s _ _ _ I h=>h a_ s I
def dj{t:L2.TS}{D:Ends}(h:PS X st t)(q:t D ρ H):xi X st D ρ H:=λa_ s I=>h a_ s ρ H D I q
def xp{t:L2.TS}{D:Ends}(h:jE X Mv t)(q:t D ρ H):pA X Mv D ρ H:=λa_ s I=>h a_ s ρ H D I q
def CD{D:Ends}(h:xi X st D ρ H)(i:yI D D'):xi X st D' ρ H:=λa_ s I=>aL (h a_ s I) λ_ _ q=>SP.imp i q
def dL{D:Ends}(h:pA X Mv D ρ H)(i:yI D D'):pA X Mv D' ρ H:=λa_ s I=>aL (h a_ s I) λ_ _ q=>SP.imp i q
def je(X:Cx)(st:Stmt)(t:WS):Prop:=∀σ M ρ H D,RS X.K H σ ρ->RM X.K M H->t D σ M->xi X st (t8 X.K H D) ρ H
def lg(X:Cx)(Mv:Zt)(t:WS):Prop:=∀σ M ρ H D,RS X.K H σ ρ->RM X.K M H->t D σ M->pA X Mv (t8 X.K H D) ρ H
def qx:WS:=λD σ M=>D.nx σ M
def CF(t u:WS):WS:=λD σ M=>t { D with nx:=u D } σ M
def CG:lg X [] qx:=λσ M ρ H D rs rm q=>xp Fs ⟨Kp.refl H,σ,M,rs,rm,q⟩
def Az(h:je X st t)(h':lg X Mv tb):lg X (st::Mv) (CF t tb):=by
 intro σ M ρ H D rs rm q;refine xp (BO (Ll st) (lf Mv)) ?_;show xi X st _ ρ H;refine CD (h σ M ρ H _ rs rm q) ⟨λm H' n=>?_,λ_ _ z=>z,λ_ _ z=>z,λ_ _ z=>z⟩;obtain⟨k,p,M',r,B,C⟩:=n;exact dL (h' p M' m H' D r B C) (pv k)
def CH(t:WE):WS:=λD σ M=>t σ M D.rt
def Gf(h:aI X e te):je X (.Return (some e) pos) (CH te):=λσ M ρ H D rs rm q=>dj (Ho (a0 e)) (h σ M ρ H _ rs rm q)
def CI:je X (.Pass pos) qx:=λσ M ρ H D rs rm q=>dj Ft ⟨Kp.refl H,σ,M,rs,rm,q⟩
def AA:je X st 'f':=λ_ _ _ _ _ _ _ q=>Yh q
def d9:Expr->Bool
 |.ListComp _ _ _ _=>false
 |.SetComp _ _ _ _=>false
 |.DictComp _ _ _ _ _=>false
 |_=>true
def uJ{t:Option Expr}(h:d9 e=true):swapsWith e t j env=pure false:=by
 cases e<;>first | rfl | (exact absurd (show false=true from h) YE)
def yJ(t:WE):WS:=λD σ M=>t σ M λ_ M1=>D.nx σ M1
def CJ(h:aI X e te)(hc:d9 e=true):je X (.Expr e pos) (yJ te):=by
 intro σ M ρ H D rs rm q;refine dj (Fu (a0 e) (uJ hc)) ?_;show tW X e ρ H _;refine aH (h σ M ρ H _ rs rm q) λv H1 k=>?_
 obtain⟨k1,x,M1,r1,m1,q1⟩:=k;exact⟨k1,σ,M1,rs.mono k1,m1,q1⟩
def CK(i:Nat)(t:WE):WS:=λD σ M=>t σ M λx M1=>D.nx (σ.set i (some x)) M1
def CL(c:WT)(t u:WS):WS:=λD σ M=>c σ M λb M1=>eI b (t D σ M1) (u D σ M1)
def Im{a b:Zt}{tc:WT}(hc:jc X e tc)(ha:lg X a t)(hb:lg X b tb):je X (.If e a b pos) (CL tc t tb):=by
 intro σ M ρ H D rs rm q;refine dj (JY (k8 e) (lf a) (lf b)) ?_;show oP X e ρ H _;refine fK (hc σ M ρ H _ rs rm q) λk H1 MG=>?_
 obtain⟨k1,M1,m1,q1⟩:=MG;cases k with
 |true=>exact dL (ha σ M1 ρ H1 D (rs.mono k1) m1 q1) (pv k1)
 |false=>exact dL (hb σ M1 ρ H1 D (rs.mono k1) m1 q1) (pv k1)
inductive dk where
 |nm (i:Nat) | tp (is:Zj)
def yK:List Nat->oI
 |[]=>Hq
 |i::is=>EH (tZ i) (yK is)
section
variable {prog:Zv}{w:World}{A:Around}{E:Zb}
theorem uK{it l:Addr}{d_:Zl}(ne:l≠it):∀(n i:Nat) (s:Shared) (Q:List Value->Shared->Prop),s.heap.IsListIter it l i->s.heap.IsList l d_->i+n<=d_.size ->
  (∀h',h'.IsListIter it l (i+n)->Heap.SameBut it s.heap h'->Q ((d_.toList.drop i).take n) { s with heap:=h' })->wpAny 'e' A (draw (.ref it) n) Q E s
 |0,i,s,Q,hi,_,_,q=>by
  rw[draw];exact Yc (by simpa using q s.heap hi (Heap.SameBut.refl ..))
 |n+1,i,s,Q,hi,hl,le,q=>by
  have lt:i<d_.size:=by omega
  rw[draw];refine Yb (wpAny_pyNext_list_item hi hl (x:=d_[i]) (by simp[lt]) λh1 k s1=>?_);refine Yb (Yj (uK ne n (i+1) _ _ k (hl.extBut s1.extBut ne) 'a' λm p s2=>Yc ?_));have e:d_.toList.drop i=d_[i]::d_.toList.drop (i+1):=by simp[List.drop_eq_getElem_cons,lt]
  have r:=q m (by rw[show i+(n+1)=i+1+n by omega];exact p) (s1.trans s2);rw[e,List.take_succ_cons] at r;exact r
theorem yL{d_:Zl}{ts:List (Bool×(Value->Sem Unit))}{Q:Zo}(k:A.handled=none)(hl:s.heap.IsList l d_)(hn:ts.length=d_.size)(hs:ts.findIdx? (·.1)=none)
  (h:∀h',Heap.ExtBut s.heap.objs.size s.heap h'->wpAny 'e' A (assignInOrder (ts.map (·.2)) d_.toList) Q E { s with heap:=h' }):wpAny 'e' A (unpack (.ref l) ts) Q E s:=by
 have ne:l≠s.heap.objs.size:=by obtain⟨o,ho,_⟩:=hl;exact ZT (Ye ho)
 unfold unpack;rw[hn,hs];refine Yb (Yj ?_);unfold unpackItems;refine Yb ?_;unfold notIterableAtAll;refine Yb (wpAny_specialOf hl.typeIs slot_list_iter.lookup (Yc ?_));simp only[XF,if_false];refine Yb (Yj (wpAny_pyIter_list hl ?_));refine Yb (Yj (uK ne d_.size 0 _ _ ⟨_,Yg _ rfl,rfl,rfl⟩ (hl.push _) 'a' λh1 m s1=>?_));have e:List.take d_.size (List.drop 0 d_.toList)=d_.toList:=by rw[List.drop_zero];exact List.take_of_length_le (by simp)
 rw[e,if_neg (by simp)];refine Yb (Yj (wpAny_pyNext_list_end k m ((hl.push _).extBut s1.extBut ne) (by simp) λn p=>?_));simp only[Option.isSome_none,XF,if_false];exact Yc (h n λb o hb z=>p b o hb (s1.extBut b o hb (Yd _ z)))
end
def Io(K:Za)(n:Nat)(t:oI):TG:=λv σ H Q=>∃a xs,v=.ref a/\(bf K H a xs\/aX K H a xs)/\xs.length=n/\t xs σ H Q
def Ip{es:Zg}{t:oI}(hc:X.calm=true)(h:wX X es t)(hn:(assignEach es X.env).length=j)(k:(assignEach es X.env).findIdx? (·.1)=none):PG X (.Tuple es ep pos) (Io X.K j t):=by
 intro a_ s σ H v u Q I r hw;obtain⟨a,xs,m,hq | hq,hl,hw⟩:=hw
 .exact Hr hc h hn k a_ s σ H v u Q I r ⟨a,xs,m,hq,hl,hw⟩
 .subst m
  cases r;obtain⟨d_,n,ht,hz⟩:=I.list hq;rw[PyProof.Rows.assign_Tuple];refine Yb (Yk (yL (I.ok.hd hc) ht.isList (by simp[hn,←hl,n.length]) k λh' hx=>?_));have p:ad X a_ σ H { s with heap:=h' }:=I.kept (t':=s.toks) λb o e=>hx b o (ZT (Ye e)) e
  exact h a_ _ σ H xs _ Q p (by simpa using n) hw
def xq(K:Za):dk->TG
 |.nm i=>tZ i
 |.tp is=>Io K is.length (yK is)
def setM:List Nat->List D->DS->DS
 |i::is,d::ds,σ=>setM is ds (σ.set i (some d))
 |_,_,σ=>σ
def nS:dk->D->DS->(DS->Prop)->Prop
 |.nm i,d,σ,Q=>Q (σ.set i (some d))
 |.tp is,.tup ds,σ,Q=>ds.length=is.length/\Q (setM is ds σ)
 |.tp _,_,_,_=>False
theorem xr{K:Za}:∀(is:Zj) (ds:List D) (vs:List V) (σ:DS) (ρ:L2.St) (H:Hp) (Q:L2.St->Hp->Prop),af K H ds vs->RS K H σ ρ->ds.length=is.length ->
  (∀k,RS K H (setM is ds σ) k->Q k H)->yK is vs ρ H Q
 |[],[],vs,σ,ρ,H,Q,r,rs,_,q=>by rw[af] at r;subst r;exact⟨rfl,q ρ rs⟩
 |i::is,d::ds,vs,σ,ρ,H,Q,r,rs,l,q=>by
  rw[af] at r;obtain⟨v,m,rfl,n,p⟩:=r;exact⟨v,m,rfl,xr is ds m (σ.set i (some d)) (ρ.set i (some v)) H Q p (rs.set i n) (by simpa using l) q⟩
def AB{Q:L2.St->Hp->Prop}{Q':DS->Prop}(r:RV K H d v)(rs:RS K H σ ρ)(h:nS g d σ Q')(f:∀k m,RS K H m k->Q' m->Q k H):xq K g v ρ H Q:=by
 cases g with
 |nm i=>exact f _ _ (rs.set i r) h
 |tp is=>
  cases d with
  |tup ds=>
   obtain⟨a,xs,rfl,s,n⟩:=RV.tup_.1 r;exact⟨a,xs,rfl,.inl s,by rw[←n.len];exact h.1,xr is ds xs σ ρ H Q n rs h.1 λk p=>f k _ p h.2⟩
  |_=>exact Yh h
def LF(X:Cx)(tg:Expr)(t:dk):Prop:=PG X tg (xq X.K t)
theorem RM.list(m:RM K M H)(h:bM (M a)=some ds):∃vs,aX K H a vs/\af K H ds vs:=by
 cases e:M a with
 |none=>rw[e] at h;cases h
 |some o=>
  rw[e] at h;cases o with
  |lst xs=>cases h;obtain⟨vs,q,r⟩:=m a _ e;exact⟨vs,aX.of q,r⟩
  |rol xs=>cases h;obtain⟨vs,q,r⟩:=m a _ e;exact⟨vs,.inl q,r⟩
  |_=>cases h
def Kj(t:dk)(d:D)(M:MH)(σ:DS)(Q:DS->Prop):Prop:=match d with
 |.ref a=>match t with
  |.nm i=>Q (σ.set i (some (.ref a)))
  |.tp is=>match bM (M a) with
   |some ds=>ds.length=is.length/\Q (setM is ds σ)
   |none=>False
 |d=>nS t d σ Q
abbrev WI:=DS->MH->(List D->(MH->Prop)->MH->Prop)->Prop
def qy(K:Za)(J:It)(H0:Hp)(xs:List D)(g:MH->Prop):Prop:=∀i H M,Kp H0 H->RM K M H->g M->(i<xs.length->J.go i H)/\(i=xs.length->J.stop i H)/\∀x H' d,xs[i]?=some d->J.yld i H x H'->Kp H H'/\RM K M H'/\RV K H' d x
def iW(X:Cx)(tg iter:Expr):TI:=λρ H R=>∀a_ s,ad X a_ ρ H s->wpAny 'b' X.A (eval iter X.env) (λv s1=>wpAny 'b' X.A (pyIter v) (sL X a_ ρ tg R) X.xe s1) X.xe s
def CM(tg iter:Expr):PI X tg iter (iW X tg iter):=λa_ s _ _ _ I h=>h a_ s I
def Kk{t:TI}(h:PI X tg iter t)(q:t ρ H R):iW X tg iter ρ H R:=λa_ s I=>h a_ s ρ H R I q
def se(h:iW X tg iter ρ H R)(f:∀J H',R J H'->R' J H'):iW X tg iter ρ H R':=λa_ s I=>aL (h a_ s I) λ_ _ q=>aL q λ_ _ ⟨it,fp,tn,J,H',e,k,T,st,m,r⟩=>⟨it,fp,tn,J,H',e,k,T,st,m,f J H' r⟩
def Lm(K:Za)(H:Hp)(R:List D->(MH->Prop)->MH->Prop):It->Hp->Prop:=λJ H'=>Kp H H'/\∃xs g M',RM K M' H'/\g M'/\qy K J H' xs g/\xs.length<=sizeLine/\R xs g M'
def tf(X:Cx)(tg iter:Expr)(t:WI):Prop:=∀σ M ρ H R,RS X.K H σ ρ->RM X.K M H->t σ M R->iW X tg iter ρ H (Lm X.K H R)
def kD:Key->D
 |.inl i=>.int i
 |.inr x=>.str x
def keysOf(kvs:Zz):List D:=kvs.map λkv=>kD kv.1
def EV(k:Key):RV K H (kD k) (kV k):=by
 cases k with
 |inl i=>exact RV.int_.2 rfl
 |inr x=>exact RV.str_.2 rfl
theorem uL{u:Obj}(e:H0 a=some (.frz u (.dK l_)))(hk:l_.map (·.1)=kvs.map (·.1))(g:MH->Prop):qy K (Il a u l_) H0 (keysOf kvs) g:=by
 intro i H M k rm _;have hl:l_.length=kvs.length:=by have:=congrArg List.length hk;simpa using this
 have e':=k.2 a _ _ e;have hn:(keysOf kvs).length=kvs.length:=by unfold keysOf;rw[ZF]
 rw[hn];refine⟨λhi=>⟨e',by omega⟩,λhi=>⟨e',by omega⟩,λx H' d hd n=>?_⟩;obtain⟨r,kv,h1,B⟩:=n;subst r B;unfold keysOf at hd;rw[ZG] at hd;have m:(kvs[i]?).map (·.1)=some kv.1:=by
  have:=congrArg (λl=>l[i]?) hk
  simp only[ZG,h1] at this;rw[←this];rfl
 cases q:kvs[i]? with
 |none=>rw[q] at m;cases m
 |some p=>
  rw[q] at m hd;cases hd;have m:p.1=kv.1:=by simpa using m
  refine⟨Kp.refl _,rm,?_⟩;show RV K _ (kD p.1) _;rw[m];exact EV _
def Iq(x:D)(M:MH)(R:List D->(MH->Prop)->MH->Prop):Prop:=match x with
 |.tup ds=>R ds (λ_=>True) M
 |.ref a=>match M a with
  |some (.lst ds)=>R ds (λM'=>M' a=some (.lst ds)) M
  |some (.rol ds)=>R ds (λM'=>M' a=some (.rol ds)) M
  |some (.dic kvs)=>R (keysOf kvs) (λM'=>M' a=some (.rod kvs)) (ab M a (.rod kvs))
  |some (.rod kvs)=>R (keysOf kvs) (λM'=>M' a=some (.rod kvs)) M
  |_=>False
 |_=>False
def uM{g:MH->Prop}(m:∀H M,RM K M H->g M->∃vs,aX K H a vs/\af K H ds vs):qy K (Hv K a) H0 ds g:=by
 intro i H M _ rm q;obtain⟨vs,sq,k⟩:=m H M rm q;refine⟨λhi=>?_,λhi=>⟨vs,sq,by rw[←k.len];exact Nat.le_of_eq hi.symm⟩,λx H' d hd ⟨e,y⟩=>?_⟩
 .have:i<vs.length:=by rw[←k.len];exact hi
  exact⟨vs,vs[i],sq,ZD this⟩
 .subst e
  obtain⟨v,hv,r⟩:=cF k.p hd
  have:=y vs sq
  rw[hv] at this;cases this;exact⟨Kp.refl _,rm,r⟩
def Gg(sq:bf K H0 a vs)(m:af K H0 ds vs):qy K (Hw K a) H0 ds (λ_=>True):=by
 intro i H M k rm _;have sq:=k.sq sq;have m:=af.mono k _ m;refine⟨λhi=>?_,λhi=>⟨vs,sq,by rw[←m.len];exact Nat.le_of_eq hi.symm⟩,λx H' d hd ⟨e,y⟩=>?_⟩
 .have:i<vs.length:=by rw[←m.len];exact hi
  exact⟨vs,vs[i],sq,ZD this⟩
 .subst e
  obtain⟨v,hv,r⟩:=cF m.p hd
  have:=y vs sq
  rw[hv] at this;cases this;exact⟨Kp.refl _,rm,r⟩
def yM(t:WE):WI:=λσ M R=>t σ M λx M1=>Iq x M1 R
def xt(I:ad X a_ ρ H s)(hq:aX X.K H a vs)(q:R (Hv X.K a) H):wpAny 'b' X.A (pyIter (.ref a)) (sL X a_ ρ tg R) X.xe s:=by
 obtain⟨d_,k,p,hz⟩:=I.list hq;refine wpAny_pyIter_list p.isList ?_;refine⟨s.heap.objs.size,[s.heap.objs.size],_,_,H,rfl,I.kept (t':=s.toks) λb o e=>Yd _ e,z7 a _,⟨_,Yg _ rfl,rfl,rfl⟩,λb hb=>?_,q⟩;have e:b=s.heap.objs.size:=by simpa using hb
 subst e;exact I.fpOk (YF _) (I.hok.fresh (YF _))
def Ir(I:ad X a_ ρ H s)(hq:bf X.K H a vs)(q:R (Hw X.K a) H):wpAny 'b' X.A (pyIter (.ref a)) (sL X a_ ρ tg R) X.xe s:=by
 obtain⟨d_,k,p,hz⟩:=I.tuple hq;refine wpAny_pyIter_tuple (show s.heap.IsTuple a d_.toArray from p) ?_;refine⟨s.heap.objs.size,[s.heap.objs.size],_,_,H,rfl,I.kept (t':=s.toks) λb o e=>Yd _ e,yl a _,⟨_,Yg _ rfl,rfl,rfl⟩,λb hb=>?_,q⟩;have e:b=s.heap.objs.size:=by simpa using hb
 subst e;exact I.fpOk (YF _) (I.hok.fresh (YF _))
theorem Gh{l:Expr}(h:aI X l te):tf X tg l (yM te):=by
 intro σ M ρ H R rs rm q a_ s I;refine aL (h σ M ρ H _ rs rm q a_ s I) λu s1 J=>?_
 obtain⟨v,H1,n,r1,⟨k1,d,M1,F,m1,q1⟩⟩:=J;cases d with
 |tup ds=>
  obtain⟨a,xs,rfl,sq,p⟩:=RV.tup_.1 F;cases r1;obtain⟨_,_,_,hz⟩:=n.tuple sq;exact Ir n sq ⟨k1,ds,_,M1,m1,trivial,Gg sq p,by rw[p.len];exact hz,q1⟩
 |ref a=>
  cases RV.ref_.1 F;cases r1;have q1:match M1 a with
   |some (.lst ds)=>R ds (λM'=>M' a=some (.lst ds)) M1
   |some (.rol ds)=>R ds (λM'=>M' a=some (.rol ds)) M1
   |some (.dic kvs)=>R (keysOf kvs) (λM'=>M' a=some (.rod kvs)) (ab M1 a (.rod kvs))
   |some (.rod kvs)=>R (keysOf kvs) (λM'=>M' a=some (.rod kvs)) M1
   |_=>False:=q1
  split at q1
  .rename_i ds e
   obtain⟨xs,k,p⟩:=m1 a _ e;obtain⟨_,_,_,hz⟩:=n.list (aX.of k);refine xt n (aX.of k) ⟨k1,ds,_,M1,m1,e,uM λH' M' B g'=>?_,by rw[p.len];exact hz,q1⟩;obtain⟨C,e',E⟩:=B a _ g';exact⟨C,aX.of e',E⟩
  .rename_i ds e
   obtain⟨xs,k,p⟩:=m1 a _ e;have k:aX X.K H1 a xs:=.inl k;obtain⟨_,_,_,hz⟩:=n.list k;refine xt n k ⟨k1,ds,_,M1,m1,e,uM λH' M' B g'=>?_,by rw[p.len];exact hz,q1⟩;obtain⟨C,e',E⟩:=B a _ g';exact⟨C,.inl e',E⟩
  .rename_i kvs e
   obtain⟨l_,k,r,p⟩:=m1 a _ e;obtain⟨u,G⟩:=freeze n k;have k2:=Kp.put (o':=.frz u (.dK l_)) k trivial;have m2:=m1.put (m:=.rod kvs) k trivial (o':=.frz u (.dK l_)) ⟨u,l_,aA,r,af.mono k2 _ p⟩;refine xo G aA ⟨k1.trans k2,keysOf kvs,_,_,m2,aa,uL aA r _,?_,q1⟩;obtain⟨_,hz,_⟩:=ky G aA;have hl:l_.length=kvs.length:=by have:=congrArg List.length r;simpa using this
   unfold keysOf;rw[ZF];omega
  .rename_i kvs e
   obtain⟨u,l_,k,r,p⟩:=m1 a _ e;refine xo n k ⟨k1,keysOf kvs,_,M1,m1,e,uL k r _,?_,q1⟩;obtain⟨_,hz,_⟩:=ky n k;have hl:l_.length=kvs.length:=by have:=congrArg List.length r;simpa using this
   unfold keysOf;rw[ZF];omega
  .exact Yh q1
 |_=>exact Yh q1
def bv(a b:Int):List D:=(List.range (b-a).toNat).map λ(i:Nat)=>.int (a+(i:Int))
def AC{K:Za}{a b:Int}{H0:Hp}:qy K (EI a (b-a).toNat) H0 (bv a b) (λ_=>True):=by
 intro i H M k rm _;have hl:(bv a b).length=(b-a).toNat:=by unfold bv;rw[ZF,ZJ]
 rw[hl];refine⟨λhi=>hi,λhi=>Nat.le_of_eq hi.symm,λx H' d hd m=>?_⟩;obtain⟨e,y⟩:=m;subst e y;have hi:i<(b-a).toNat:=by have:=(YC.mp hd).1;rw[hl] at this;exact this
 unfold bv at hd;rw[ZG,List.getElem?_range hi] at hd;cases hd;exact⟨Kp.refl _,rm,RV.int_.2 rfl⟩
def yN(t:WA):WI:=λσ M R=>t σ M λds M1=>match ds with
 |[.int j]=>(-1000000<=j/\j<=1000000)/\R (bv 0 j) (λ_=>True) M1
 |_=>False
theorem AD(h1:-1000000<=i)(k:b<=1000000):(bv i b).length<=sizeLine:=by
 unfold bv;rw[ZF,ZJ,sizeLine_eq];omega
theorem yO{t:WA}(k:Gl X "range")(hm:X.mg "range" = none)(ha:eG X [e] t)(hs:aj e=true):tf X tg (.Call (.Name "range" Ng) [e] [] pos) (yN t):=by
 intro σ M ρ H R rs rm q;refine Kk (z8 k hm (k9 [e]) (by rw[aY hs];rfl)) ?_;show jH X [e] ρ H _;refine da (ha σ M ρ H _ rs rm q) λvs H1 m=>?_
 obtain⟨k1,ds,M1,r1,B,m1,q1⟩:=m;try dsimp only at q1
 split at q1
 .rename_i j
  have r1:=r1.p;cases r1 with
  |cons r n=>
   cases n;cases RV.int_.1 r;refine⟨j,rfl,by omega,by omega,k1,_,_,M1,m1,trivial,?_,AD 'a' q1.1.2,q1.2⟩
   have:=@AC X.K 0 j H1
   rw[Int.sub_zero] at this;exact this
 .exact Yh q1
def jf:Expr->Bool
 |.Set _ _ _=>false
 |_=>true
def yP(h:jf e=true):∀x,foldedSetIterable e env x=pure x:=by
 intro x;cases e<;>first | rfl | (exact absurd (show false=true from h) YE)
def aC(g:MH->Prop)(t:dk)(tb:WS)(E:cG):List D->DS->MH->Prop
 |[],σ,M=>E.nx σ M
 |x::xs,σ,M=>nS t x σ λm=>tb { E with nx:=λk M2=>g M2/\aC g t tb E xs k M2,ct:=λk M2=>g M2/\aC g t tb E xs k M2,bk:=E.nx } m M
def CN(t:WI)(g:dk)(tb:WS):WS:=λE σ M=>t σ M λxs k M1=>aC k g tb E xs σ M1
theorem Gi{t:WI}(hp:PassesOwn 'b' X.A X.env X.xe)(hc:X.calm=true)(hi:tf X tg iter t)(U:LF X tg g)(hb:lg X body tb)(hs:jf iter=true):
  je X (.For tg iter body [] pos) (CN t g tb):=by
 intro σ M ρ H E rs rm q;refine dj (Hx hp hc (CM tg iter) U (lf body) (yP hs)) ?_;show iW X tg iter ρ H _;refine se (hi σ M ρ H _ rs rm q) λJ H1 W=>?_
 obtain⟨k1,xs,k,M1,m1,Y,Z,hz,q1⟩:=W;refine⟨λi m I H'=>m=xs.length-i/\i<=xs.length/\Kp H1 H'/\∃n M',RS X.K H' n I/\RM X.K M' H'/\k M'/\aC k g tb E (xs.drop i) n M',⟨xs.length,by simp,YL _,Kp.refl _,σ,M1,rs.mono k1,m1,Y,q1⟩,?_⟩;rintro i m I H' ⟨rfl,OT,k',n,M',L,O,g',p⟩;obtain⟨j1,j2,j3⟩:=Z i H' M' k' O g';by_cases B:i<xs.length
 .rw[List.drop_eq_getElem_cons B] at p
  refine .inr ⟨j1 B,λS H2=>Kp H1 H2/\∃T M2,RS X.K H2 T S/\RM X.K M2 H2/\k M2/\aC k g tb E (xs.drop (i+1)) T M2,λS H2 ⟨k2,r⟩=>⟨xs.length-(i+1),by omega,rfl,B,k2,r⟩,λx H2 y=>?_⟩;obtain⟨k2,m2,r2⟩:=j3 x H2 xs[i] (ZD B) y;refine AB r2 (L.mono k2) p λQU L6 Pj q3=>?_
  refine dL (hb L6 M' QU H2 _ Pj m2 q3) ⟨λSd H4 Nq=>?_,λ_ _=>bR ((k1.trans k').trans k2),λ_ _=>jd ((k1.trans k').trans k2),λSd H4 ⟨C,F,G,a,b,c⟩=>⟨k'.trans (k2.trans C),F,G,a,b,c.1,c.2⟩⟩;obtain⟨C,F,G,a,b,c⟩:=Nq;exact⟨k'.trans (k2.trans C),F,G,a,b,c.1,c.2⟩
 .have e:i=xs.length:=by omega
  subst e;rw[List.drop_length] at p;exact .inl ⟨j2 rfl,k1.trans k',n,M',L,O,p⟩
def aq(g:MH->Prop)(t:dk)(c:WT)(e:WE)(F:List D->MH->Prop):List D->List D->DS->MH->Prop
 |[],e_,_,M=>F e_ M
 |x::xs,e_,σ,M=>nS t x σ λk=>c k M λb M1=>eI b (e k M1 λy M2=>g M2/\aq g t c e F xs (e_++[y]) k M2) (g M1/\aq g t c e F xs e_ k M1)
def yQ(n:Nat)(t:WI)(g:dk)(c:WT)(e:WE):WE:=λσ M Q=>t σ M λxs k M1=>aq k g c e (λds M'=>∀p,M' p=none->Q (.ref p) (ab M' p (.lst ds))) xs [] (σ++List.replicate n none) M1
def yR(X:Cx)(k:Zg)(t:WT):Prop:=(k=[]/\t=λ_ M Q=>Q true M) \/ ∃c,k=[c]/\jc X c t
theorem uN{J:It}{k:MH->Prop}{e:WE}{tc:TT}{te:TE}{F:List D->MH->Prop}{Fin:List V->Hp->Prop}
  (OS:qy K J H0 xs k) (hz:xs.length<=sizeLine) (rs:RS K H0 σ ρ) (m1:RM K M H0) (g1:k M)
  (hc:∀σ M1 ρ H Q (Q':Bool->Hp->Prop),RS K H σ ρ->RM K M1 H->c σ M1 Q->(∀b H',Kp H H'->∀M',RM K M' H'->Q b M'->Q' b H')->tc ρ H Q')
  (he:∀σ M1 ρ H Q (Q':VK),RS K H σ ρ->RM K M1 H->e σ M1 Q->(∀v H',Kp H H'->∀d M',RV K H' d v->RM K M' H'->Q d M'->Q' v H')->te ρ H Q')
  (hF:∀ds vs H' M',Kp H0 H'->RM K M' H'->af K H' ds vs->F ds M'->Fin vs H') (q:aq k g c e F xs [] σ M):t5 J (xq K g) tc te Fin ρ H0:=by
 refine⟨λi m ys T H'=>m=xs.length-i/\i<=xs.length/\Kp H0 H'/\∃L M' ds,RS K H' L T/\RM K M' H'/\k M'/\af K H' ds ys/\ds.length<=i/\aq k g c e F (xs.drop i) ds L M',⟨xs.length,by simp,YL _,Kp.refl _,σ,M,[],rs,m1,g1,af.nil,YF _,q⟩,?_⟩;rintro i m ys T H' ⟨rfl,OT,k',L,M',ds,Mc,U,g',B,hd,C⟩;obtain⟨j1,j2,j3⟩:=OS i H' M' k' U g';by_cases E:i<xs.length
 .rw[List.drop_eq_getElem_cons E] at C
  refine .inr ⟨j1 E,by rw[←B.len];omega,λW Y H2=>Kp H0 H2/\∃Z M2 O,RS K H2 Z Y/\RM K M2 H2/\k M2/\af K H2 O W/\O.length<=i+1/\aq k g c e F (xs.drop (i+1)) O Z M2,λW Y H2 ⟨k2,r⟩=>⟨xs.length-(i+1),by omega,rfl,E,k2,r⟩,λx H2 y=>?_⟩;obtain⟨k2,m2,r2⟩:=j3 x H2 xs[i] (ZD E) y;refine AB r2 (Mc.mono k2) C λQU G I q3=>?_
  refine hc G M' QU H2 _ _ I m2 q3 λb H4 n M4 m4 S=>?_
  cases b with
  |true=>
   refine he G M4 QU H4 _ _ (I.mono n) m4 S λv H5 k5 d M5 rv m5 q5=>?_
   have kk:=k2.trans (n.trans k5);exact⟨k'.trans kk,G,M5,ds++[d],I.mono (n.trans k5),m5,q5.1,af.of (ba (af.mono kk _ B).p (.cons rv .nil)),by simp;omega,q5.2⟩
  |false=>exact⟨k'.trans (k2.trans n),G,M4,ds,I.mono n,m4,S.1,af.mono (k2.trans n) _ B,by omega,S.2⟩
 .have e:i=xs.length:=by omega
  subst e;rw[List.drop_length] at C;exact .inl ⟨j2 rfl,hF ds ys H' M' k' U B C⟩
section
variable {E_ tg iter:Expr}{ifs:Zg}{scope Mh:Scope}{own N2:Zf}
def bT(X:Cx)(scope:Scope)(own N2:Zf)(ifs:Zg):TT:=λρ H Q=>∀C s H0 ex pn a_ k,ad (cY X scope own N2 C s H0 ex pn) a_ ρ H k ->
 wpAny 'b' X.A (forIn ifs true λc r=>if r=true then do let ok ←isTrue c (cY X scope own N2 C s H0 ex pn).env (eval c (cY X scope own N2 C s H0 ex pn).env);pure (ForInStep.yield ok) else pure (ForInStep.yield r)) (TP (cY X scope own N2 C s H0 ex pn) a_ ρ Q) (cY X scope own N2 C s H0 ex pn).xe k
def bE(X:Cx)(scope:Scope)(own N2:Zf)(e:Expr):TE:=λρ H Q=>∀C s H0 ex pn,tW (cY X scope own N2 C s H0 ex pn) e ρ H Q
def oU(hc:∀C s H0 ex pn,yR (cY X scope own N2 C s H0 ex pn) ifs c)(B:∀C s H0 ex pn,aI (cY X scope own N2 C s H0 ex pn) E_ te):
  (∀σ M ρ H Q (Q':Bool->Hp->Prop),RS X.K H σ ρ->RM X.K M H->c σ M Q->(∀b H',Kp H H'->∀M',RM X.K M' H'->Q b M'->Q' b H')->bT X scope own N2 ifs ρ H Q') /\
  (∀σ M ρ H Q (Q':VK),RS X.K H σ ρ->RM X.K M H->te σ M Q->(∀v H',Kp H H'->∀d M',RV X.K H' d v->RM X.K M' H'->Q d M'->Q' v H')->bE X scope own N2 E_ ρ H Q'):=by
 refine⟨λσ M ρ H Q Q' rs rm q f C s H0 ex pn a_ p I=>?_,λσ M ρ H Q Q' rs rm q f C s H0 ex pn=>?_⟩
 .rcases hc C s H0 ex pn with⟨m,E⟩ | ⟨c',m,h⟩
  .subst m E
   exact FS (X:=cY X scope own N2 C s H0 ex pn) a_ p ρ H _ I (f true H (Kp.refl H) M rm q)
  .subst m
   refine FT (X:=cY X scope own N2 C s H0 ex pn) (k8 c') a_ p ρ H _ I ?_;refine fK (h σ M ρ H Q rs rm q) λb H' F=>?_
   obtain⟨k,M',m',n⟩:=F;exact f b H' k M' m' n
 .refine aH (B C s H0 ex pn σ M ρ H Q rs rm q) λv H' G=>?_
  obtain⟨k,d,M',r,m',n⟩:=G;exact f v H' k d M' r m' n
def CO{t:WI}(n:fU Mh scope X.N own N2)(ho:X.env.scope=Mh)(r:X.calm=true)(hi:tf X tg iter t)(B:∀C s H0 ex pn,PG (cY X scope own N2 C s H0 ex pn) tg (xq X.K g))
  (hc:∀C s H0 ex pn,yR (cY X scope own N2 C s H0 ex pn) ifs c) (E:∀C s H0 ex pn,aI (cY X scope own N2 C s H0 ex pn) E_ te) (hs:jf iter=true):aI X (.ListComp E_ [⟨tg,iter,ifs,0⟩] scope pos) (yQ own.length t g c te):=by
 intro σ M ρ H Q rs rm q;obtain⟨F,G⟩:=oU hc E;refine bw (FU (te:=bE X scope own N2 E_) (tc:=bT X scope own N2 ifs) n r (CM tg iter) B (λC s H0 ex pn a_ k L H' Q' I h=>h C s H0 ex pn a_ k I) (λC s H0 ex pn a_ k L H' Q' I h=>h C s H0 ex pn a_ k I) ho rfl (yP hs)) ?_;show iW X tg iter ρ H _;refine se (hi σ M ρ H _ rs rm q) λJ H1 O=>?_
 obtain⟨k1,xs,W,M1,m1,S,T,hz,q1⟩:=O;refine uN T hz ((rs.mono k1).more own.length) m1 S F G ?_ q1;intro ds vs H' M' k' m' U f p hp;have k2:Kp H' (upd H' p (.lst vs)):=Kp.new hp;exact⟨(k1.trans k').trans k2,.ref p,_,RV.ref_.2 rfl,m'.new (m:=.lst ds) hp ⟨vs,aA,af.mono k2 _ U⟩,f p (m'.fresh hp)⟩
def yS(i n:Nat)(t:WI)(g:dk)(c:WT)(e:WE):WS:=λE σ M=>t σ M λxs k M1=>aq k g c e (λds M'=>∀p,M' p=none->E.nx (σ.set i (some (.ref p))) (ab M' p (.lst ds))) xs [] (σ++List.replicate n none) M1
def CP{t:WI}{i:Nat}(n:fU Mh scope X.N own N2)(ho:X.env.scope=Mh)(r:X.calm=true)(B:X.N.Nodup)(hy:X.N[i]?=some y)(hl:X.env.scope.names.lookup y=some .local)(hi:tf X tg iter t)
  (F:∀C s H0 ex pn,PG (cY X scope own N2 C s H0 ex pn) tg (xq X.K g))
  (hc:∀C s H0 ex pn,yR (cY X scope own N2 C s H0 ex pn) ifs c) (G:∀C s H0 ex pn,aI (cY X scope own N2 C s H0 ex pn) E_ te) (hs:jf iter=true)
  (L:swapsWith (.ListComp E_ [⟨tg,iter,ifs,0⟩] scope pos) (some (.Name y py)) Ng.line X.env=pure true):je X (.Assign [.Name y py] (.ListComp E_ [⟨tg,iter,ifs,0⟩] scope pos) Ng) (yS i own.length t g c te):=by
 intro σ M ρ H E rs rm q;obtain⟨O,S⟩:=oU hc G;refine dj (FV (te:=bE X scope own N2 E_) (tc:=bT X scope own N2 ifs) (i:=i) n r B hy hl (CM tg iter) F (λC s H0 ex pn a_ k T H' Q' I h=>h C s H0 ex pn a_ k I) (λC s H0 ex pn a_ k T H' Q' I h=>h C s H0 ex pn a_ k I) L ho rfl (yP hs)) ?_;show iW X tg iter ρ H _;refine se (hi σ M ρ H _ rs rm q) λJ H1 U=>?_
 obtain⟨k1,xs,gd,M1,m1,W,Y,hz,q1⟩:=U;refine uN Y hz ((rs.mono k1).more own.length) m1 W O S ?_ q1;intro ds vs H' M' k' m' Z f p hp;have k2:Kp H' (upd H' p (.lst vs)):=Kp.new hp;exact⟨(k1.trans k').trans k2,_,_,(rs.mono ((k1.trans k').trans k2)).set i (RV.ref_.2 rfl),m'.new (m:=.lst ds) hp ⟨vs,aA,af.mono k2 _ Z⟩,f p (m'.fresh hp)⟩
end
def az(N:Zf)(ds:List D):DS:=ds.map some++List.replicate (N.length-ds.length) none
def uO(r:af K H ds vs):RS K H (az N ds) (L2.start N vs):=by
 unfold az L2.start;rw[r.len];refine ba ?_ (ja (λd e=>nomatch e) _);have p:=r.p;clear r;induction p with
 |nil=>exact .nil
 |cons r _ k=>exact .cons (λd e=>by cases e;exact⟨_,rfl,r⟩) k
end
section
variable {P:Zv}{w:World}{K:Za}{mg:Ze}{base:Heap}
def LG{st:Stmt}{fd:Zu}{sp:aK}(n:nJ K mg y st ps a fd)(S:bX N ps (ai st))(len:∀ds M Q,sp ds M Q->ds.length=ps.length)
  (hb:∀r_ A outer s H E,bK j (A.deeper (envOfC y (ai st) s.heap.objs.size a r_))->lg (my jG P w K mg base N y (ai st) a r_ A outer s H E).nox (aO st) t)
  (h:∀ds M Q,sp ds M Q->t { nx:=λ_ M'=>Q .non M',rt:=Q } (az N ds) M):bG P w K mg base (j+1) y sp:=by
 refine⟨st,ps,a,fd,n,n.fn.ok S (λvs H Q E ⟨ds,M,k,r,_,s,_⟩=>by rw[←r.len];exact len ds M k s) λr_ A outer s H vs Q E p ⟨ds,M,k,r,m,sq,f0⟩=>⟨pA _ _,lf _,?_⟩⟩;refine dL (hb r_ A outer s H E p (az N ds) M (L2.start N vs) H _ (uO r) m (h ds M k sq)) ⟨λF H' B=>?_,λv H' ⟨k',d,M',C,m',q⟩=>f0 _ _ _ _ q k' C m',λ_ _ ⟨_,_,_,_,_,q⟩=>q,λ_ _ ⟨_,_,_,_,_,q⟩=>q⟩;obtain⟨k',G,M',_,m',q⟩:=B;exact f0 _ _ _ _ q k' (RV.non_.2 rfl) m'
end
mutual
noncomputable def aP:D->Bool
 |.ref _=>false
 |.ty _=>false
 |.tup ds=>aN ds
 |_=>true
noncomputable def aN:List D->Bool
 |[]=>true
 |d::ds=>aP d&&aN ds
end
mutual
noncomputable def db:D->Nat
 |.tup ds=>bm ds+1
 |_=>0
noncomputable def bm:List D->Nat
 |[]=>0
 |d::ds=>max (db d) (bm ds)
end
mutual
noncomputable def aU:D->D->Bool
 |.non,.non=>true
 |.bl a,.bl b=>a==b
 |.bl a,.int b=>(if a then 1 else 0)==b
 |.int a,.bl b=>a==(if b then 1 else 0)
 |.int a,.int b=>a==b
 |.str a,.str b=>a==b
 |.tup as,.tup bs=>ce as bs
 |_,_=>false
noncomputable def ce:List D->List D->Bool
 |[],[]=>true
 |a::as,b::bs=>aU a b&&ce as bs
 |_,_=>false
end
mutual
theorem jg:∀d:D,aP d=true->aU d d=true
 |.non,_=>by rw[aU]
 |.bl b,_=>by rw[aU];simp
 |.int b,_=>by rw[aU];simp
 |.str b,_=>by rw[aU];simp
 |.ref _,h=>by rw[aP] at h;cases h
 |.ty _,h=>by rw[aP] at h;cases h
 |.tup ds,h=>by rw[aP] at h;rw[aU];exact mI ds h
theorem mI:∀ds:List D,aN ds=true->ce ds ds=true
 |[],_=>by rw[ce]
 |d::ds,h=>by
  rw[aN,YX] at h;rw[ce,jg d h.1,mI ds h.2];rfl
end
theorem jh:∀{as bs:List D},ce as bs=((List.range (min as.length bs.length)).all (λj=>aU ((as[j]?).getD .non) ((bs[j]?).getD .non))&&as.length==bs.length)
 |[],[]=>by rw[ce];rfl
 |[],b::bs=>by rw[ce]<;>simp
 |a::as,[]=>by rw[ce]<;>simp
 |a::as,b::bs=>by
  rw[ce,jh (as:=as) (bs:=bs)];have e:min (a::as).length (b::bs).length=min as.length bs.length+1:=by simp only[YI];omega
  rw[e,List.range_succ_eq_map,XO,List.all_map];simp only[List.getElem?_cons_zero,XE,YI];rw[Bool.and_assoc];congr 1;congr 1;rw[Bool.eq_iff_iff];simp
theorem bZ:∀{ds:List D}{i:Nat}{d:D},aN ds=true->ds[i]?=some d->aP d=true
 |d::ds,0,_,h,e=>by rw[aN,YX] at h;simp at e;subst e;exact h.1
 |d::ds,i+1,_,h,e=>by rw[aN,YX] at h;exact bZ (ds:=ds) (i:=i) h.2 (by simpa using e)
theorem fV:∀{ds:List D}{i:Nat}{d:D},ds[i]?=some d->db d<=bm ds
 |d::ds,0,_,e=>by rw[bm];simp at e;subst e;omega
 |d::ds,i+1,_,e=>by rw[bm];have:=fV (ds:=ds) (i:=i) (by simpa using e);omega
section
variable {X:Cx}{a_:Zc}{ρ:L2.St}{H:Hp}{s:Shared}
def iT:D->Bool
 |.non=>true
 |.bl _=>true
 |.int _=>true
 |.str _=>true
 |_=>false
def toV:D->V
 |.non=>.non
 |.bl b=>.bl b
 |.int i=>.int i
 |.str x=>.str x
 |_=>.non
def nT(f:iT d=true)(r:RV K H d v):v=toV d/\yA v=true:=by
 cases d with
 |non=>cases RV.non_.1 r;exact⟨rfl,rfl⟩
 |bl b=>cases RV.bl_.1 r;exact⟨rfl,rfl⟩
 |int b=>cases RV.int_.1 r;exact⟨rfl,rfl⟩
 |str b=>cases RV.str_.1 r;exact⟨rfl,rfl⟩
 |_=>exact absurd (show false=true from f) YE
def xu(f:iT d=true)(g:iT x=true):aU d x=Kz (toV d) (toV x):=by
 cases d<;>cases x<;>first | exact absurd (show false=true from f) YE | exact absurd (show false=true from g) YE | (rw[aU]<;>first | rfl | (intros;contradiction) | skip)
mutual
theorem uP(I:ad X a_ ρ H s):∀(d e:D){v:V},aP d=true->aP e=true->RV X.K H d v->RV X.K H e v->d=e:=λd e v pd pe rd re=>by
 cases d with
 |non=>cases RV.non_.1 rd;cases e with
  |non=>rfl
  |tup ds=>obtain⟨a,xs,z,_⟩:=RV.tup_.1 re;cases z
  |_=>rw[RV] at re;cases re
 |bl b=>cases RV.bl_.1 rd;cases e with
  |bl b'=>cases RV.bl_.1 re;rfl
  |tup ds=>obtain⟨a,xs,z,_⟩:=RV.tup_.1 re;cases z
  |_=>rw[RV] at re;cases re
 |int b=>cases RV.int_.1 rd;cases e with
  |int b'=>cases RV.int_.1 re;rfl
  |tup ds=>obtain⟨a,xs,z,_⟩:=RV.tup_.1 re;cases z
  |_=>rw[RV] at re;cases re
 |str b=>cases RV.str_.1 rd;cases e with
  |str b'=>cases RV.str_.1 re;rfl
  |tup ds=>obtain⟨a,xs,z,_⟩:=RV.tup_.1 re;cases z
  |_=>rw[RV] at re;cases re
 |ref a=>rw[aP] at pd;cases pd
 |ty a=>rw[aP] at pd;cases pd
 |tup ds=>
  obtain⟨a,xs,rfl,sq,rr⟩:=RV.tup_.1 rd;cases e with
  |tup es=>
   obtain⟨a',Ou,z,MJ,C_⟩:=RV.tup_.1 re;cases z
   have:=I.tuple_inj sq MJ
   subst this;rw[aP] at pd pe;rw[xv I ds es pd pe rr C_]
  |ref a=>rw[aP] at pe;cases pe
  |_=>rw[RV] at re;cases re
theorem xv(I:ad X a_ ρ H s):∀(ds es:List D){vs:List V},aN ds=true->aN es=true->af X.K H ds vs->af X.K H es vs->ds=es
 |[],[],_,_,_,_,_=>rfl
 |[],e::es,_,_,_,rd,re=>by have:=rd.len;have:=re.len;simp only[YI,YT] at *;omega
 |d::ds,[],_,_,_,rd,re=>by have:=rd.len;have:=re.len;simp only[YI,YT] at *;omega
 |d::ds,e::es,_,pd,pe,rd,re=>by
  rw[af] at rd re;rw[aN,YX] at pd pe;obtain⟨v,vs,rfl,r1,r2⟩:=rd;obtain⟨v',Mw,z,Vp,Vq⟩:=re;cases z;rw[uP I d e pd.1 pe.1 r1 Vp,xv I ds es pd.2 pe.2 r2 Vq]
end
def sf(I:ad X a_ ρ H s)(hu:A.units<cLine)(f:iT d=true)(n:RV X.K H (.tup ds) v)(k:RV X.K H d u)(r:RelV v v')(m:RelV u u'):
  SeqAt.EqAt A s v' u' false/\SeqAt.EqAt A s u' v' false:=by
 obtain⟨a,xs,rfl,sq,p⟩:=RV.tup_.1 n;obtain⟨d_,_,tp,_⟩:=I.tuple sq;cases r;have tp:s.heap.IsTuple a d_.toArray:=tp;cases d with
 |non=>cases RV.non_.1 k;cases m;exact⟨SeqAt.EqAt.tuple_none tp hu,SeqAt.EqAt.none_tuple tp hu⟩
 |bl b=>cases RV.bl_.1 k;cases m;exact⟨SeqAt.EqAt.tuple_bool b tp hu,SeqAt.EqAt.bool_tuple b tp hu⟩
 |int b=>cases RV.int_.1 k;obtain⟨t,rfl⟩:=m;exact⟨SeqAt.EqAt.tuple_int b t tp hu,SeqAt.EqAt.int_tuple b t tp hu⟩
 |str b=>cases RV.str_.1 k;obtain⟨t,rfl⟩:=m;exact⟨SeqAt.EqAt.tuple_str b t tp hu,SeqAt.EqAt.str_tuple b t tp hu⟩
 |_=>exact absurd (show false=true from f) YE
def mJ(f:iT d=true):aU (.tup ds) d=false/\aU d (.tup ds)=false:=by
 cases d<;>first | exact absurd (show false=true from f) YE | (constructor<;>(rw[aU]<;>(intros;contradiction)))
def eg(h:aP d=true):iT d=true \/ ∃ds,d=.tup ds:=by
 cases d with
 |ref a=>rw[aP] at h;cases h
 |ty a=>rw[aP] at h;cases h
 |tup ds=>exact .inr ⟨ds,rfl⟩
 |_=>exact .inl rfl
def units_in1(A:Around):A.in1.units=A.units+1:=rfl
def fL(k:af K H ds vs)(m:ak vs d_)(h:j<d_.toArray.size):
  ∃d v,ds[j]?=some d/\RV K H d v/\RelV v d_.toArray[j]:=by
 have h1:j<d_.length:=by simpa using h
 have B:j<vs.length:=by rw[m.length];exact h1
 have n:j<ds.length:=by rw[k.len];exact B
 obtain⟨v,hv,r⟩:=cF k.p (ZD n);obtain⟨u,hu,C⟩:=m.get hv;have:d_.toArray[j]=u:=by
  have:=ZD h1
  rw[this] at hu;simpa using hu
 exact⟨ds[j],v,ZD n,r,by rw[this];exact C⟩
theorem qz(n:Nat):∀{s:Shared}{A:Around}(d e:D){v u:V}{v' u':Value},ad X a_ ρ H s->db d<=n->A.units+n<cLine->aP d=true->aP e=true->RV X.K H d v->RV X.K H e u->RelV v v'->RelV u u'->SeqAt.EqAt A s v' u' (aU d e):=by
 induction n with
 |zero=>
  intro s A d e v u v' u' I hd hu B C k m r p;rcases eg B with f | ⟨ds,rfl⟩
  .rcases eg C with g | ⟨es,rfl⟩
   .rw[xu f g]
    obtain⟨E,F⟩:=nT f k;obtain⟨G,J⟩:=nT g m;rw[←E,←G];exact Ag r p F J
   .rw[(mJ f).2];exact(sf I 'a' f m k p r).2
  .rw[db] at hd;omega
 |succ n Z=>
  intro s A d e v u v' u' I hd hu B C k m r p;rcases eg B with f | ⟨ds,rfl⟩
  .rcases eg C with g | ⟨es,rfl⟩
   .rw[xu f g]
    obtain⟨E,F⟩:=nT f k;obtain⟨G,J⟩:=nT g m;rw[←E,←G];exact Ag r p F J
   .rw[(mJ f).2];exact(sf I 'a' f m k p r).2
  .rcases eg C with g | ⟨es,rfl⟩
   .rw[(mJ g).1];exact(sf I 'a' g k m r p).1
   .by_cases z:v=u
    .subst z
     have:=uP I _ _ B C k m
     cases this;rw[jg _ B];obtain⟨a,xs,rfl,_⟩:=RV.tup_.1 k;cases r;cases p;exact SeqAt.EqAt.same _
    .obtain⟨a,xs,rfl,sq,S⟩:=RV.tup_.1 k
     obtain⟨b,ys,rfl,MJ,T⟩:=RV.tup_.1 m;cases r;cases p;have Vr:a≠b:=λq=>z (by rw[q])
     obtain⟨d_,U,tp,_⟩:=I.tuple sq;obtain⟨m_,W,L_,_⟩:=I.tuple MJ;rw[db] at hd;rw[aP] at B C;have L:=SeqAt.RcAt.tuples (A:=A) (e:=λj=>aU ((ds[j]?).getD .non) ((es[j]?).getD .non)) (show s.heap.IsTuple a d_.toArray from tp) (show s.heap.IsTuple b m_.toArray from L_) 'a' (λj h1 h2=>by
      obtain⟨d,v,O,r1,q1⟩:=fL S U h1;obtain⟨e,u,Y,r2,q2⟩:=fL T W h2;rw[O,Y]
      have:=fV O
      exact Z d e I 'a' (by rw[units_in1];omega) (bZ B O) (bZ C Y) r1 r2 q1 q2)
     have e:aU (.tup ds) (.tup es)=((List.range (min d_.toArray.size m_.toArray.size)).all (λj=>aU ((ds[j]?).getD .non) ((es[j]?).getD .non))&&d_.toArray.size==m_.toArray.size):=by
      have l1:d_.toArray.size=ds.length:=by rw[S.len,U.length];simp
      have l2:m_.toArray.size=es.length:=by rw[T.len,W.length];simp
      rw[aU,jh,l1,l2]
     rw[e];exact SeqAt.EqAt.of_refs Vr L
end
section
variable {X:Cx}{H:Hp}
def CQ:D->D->MH->DK->Prop
 |.int i,.int j,M,Q=>Q (.int (i+j)) M
 |.tup xs,.tup ys,M,Q=>(xs≠[]/\xs.length+ys.length<=sizeLine)/\Q (.tup (xs++ys)) M
 |.ref a,.ref b,M,Q=>match M a,M b with
  |some (.lst xs),some (.lst ys)=>xs.length+ys.length<=sizeLine/\∀p,M p=none->Q (.ref p) (ab M p (.lst (xs++ys)))
  |_,_=>False
 |_,_,_,_=>False
def Gj:gB X (binaryOp .Add) CQ:=by
 intro x y v u H M Q B C rm h;cases x with
 |int i=>cases y with
  |int j=>cases RV.int_.1 B;cases RV.int_.1 C;exact iS Hz ⟨i,j,rfl,rfl,aG (RV.int_.2 rfl) rm h⟩
  |_=>exact Yh h
 |tup xs=>cases y with
  |tup ys=>
   obtain⟨a,vs,rfl,sq,n⟩:=RV.tup_.1 B;obtain⟨b,us,rfl,F,r⟩:=RV.tup_.1 C;obtain⟨⟨h1,G⟩,E⟩:=h;refine iS FM ⟨a,b,vs,us,rfl,rfl,sq,F,λz=>h1 ?_,by rw[←n.len,←r.len];exact G,λz=>?_,λz p hp=>?_⟩
   .have:=n.len;rw[z] at this;exact XS this
   .have:=r.len;rw[z] at this
    have:ys=[]:=XS this
    subst this;rw[ZA] at E;exact aG B rm E
   .have k:=Kp.new (o:=.tup (vs++us)) hp
    exact⟨k,.tup (xs++ys),M,RV.tup_.2 ⟨p,_,rfl,bf.of aA,af.of (ba (af.mono k _ n).p (af.mono k _ r).p)⟩,rm.newH hp,E⟩
  |_=>exact Yh h
 |ref a=>cases y with
  |ref b=>
   cases RV.ref_.1 B;cases RV.ref_.1 C;have h:match M a,M b with
    |some (.lst xs),some (.lst ys)=>xs.length+ys.length<=sizeLine/\∀p,M p=none->Q (.ref p) (ab M p (.lst (xs++ys)))
    |_,_=>False:=h
   split at h
   .rename_i xs ys I J
    obtain⟨vs,q1,n⟩:=rm a _ I;obtain⟨us,q2,r⟩:=rm b _ J;refine iS HZ ⟨a,b,vs,us,rfl,rfl,q1,q2,by rw[←n.len,←r.len];exact h.1,λp hp=>?_⟩;have k:=Kp.new (o:=.lst (vs++us)) hp;exact⟨k,.ref p,_,RV.ref_.2 rfl,rm.new (m:=.lst (xs++ys)) hp ⟨_,aA,af.of (ba (af.mono k _ n).p (af.mono k _ r).p)⟩,h.2 p (rm.fresh hp)⟩
   .exact Yh h
  |_=>exact Yh h
 |_=>exact Yh h
def dI(C:Int->Int->Prop)(g:Int->Int->Int):D->D->MH->DK->Prop
 |.int i,.int j,M,Q=>C i j/\Q (.int (g i j)) M
 |_,_,_,_=>False
def qA{C:Int->Int->Prop}{g:Int->Int->Int}(k:cA X f (rI C λi j=>.int (g i j))):gB X f (dI C g):=by
 intro x y v u H M Q m n rm h;cases x with
 |int i=>cases y with
  |int j=>cases RV.int_.1 m;cases RV.int_.1 n;exact iS k ⟨i,j,rfl,rfl,h.1,aG (RV.int_.2 rfl) rm h.2⟩
  |_=>exact Yh h
 |_=>exact Yh h
def xw(g:Int->Int->Int):D->D->MH->DK->Prop
 |.int i,.int j,M,Q=>Q (.int (g i j)) M
 |_,_,_,_=>False
def qB{g:Int->Int->Int}(k:cA X f (kr λi j=>.int (g i j))):gB X f (xw g):=by
 intro x y v u H M Q m n rm h;cases x with
 |int i=>cases y with
  |int j=>cases RV.int_.1 m;cases RV.int_.1 n;exact iS k ⟨i,j,rfl,rfl,aG (RV.int_.2 rfl) rm h⟩
  |_=>exact Yh h
 |_=>exact Yh h
def CS:D->D->MH->DK->Prop
 |.int i,.int j,M,Q=>uq i j/\Q (.int (i*j)) M
 |_,_,_,_=>False
def Gk:gB X (binaryOp .Mult) CS:=by
 intro x y v u H M Q k m rm h;cases x with
 |int i=>cases y with
  |int j=>cases RV.int_.1 k;cases RV.int_.1 m;exact iS HB ⟨i,j,rfl,rfl,h.1,aG (RV.int_.2 rfl) rm h.2⟩
  |_=>exact Yh h
 |_=>exact Yh h
def CU:Operator->D->D->MH->DK->Prop
 |.Add=>CQ
 |.Sub=>xw λi j=>i-j
 |.Mult=>CS
 |.FloorDiv=>dI Hy λi j=>i / j
 |.Mod=>dI (λ_ j=>0<j) λi j=>i%j
 |.Pow=>dI yo λi j=>i ^ j.toNat
 |.LShift=>dI yo λi j=>i*2 ^ j.toNat
 |.RShift=>dI (λ_ j=>0<=j) λi j=>i / 2 ^ j.toNat
 |.BitAnd=>xw Builtin.bitAnd
 |.BitOr=>xw Builtin.bitOr
 |.BitXor=>xw Builtin.bitXor
 |_=>λ_ _ _ _=>False
def Gm(op:Operator):gB X (binaryOp op) (CU op):=by
 cases op with
 |Add=>exact Gj
 |Sub=>exact qB HA
 |Mult=>exact Gk
 |FloorDiv=>exact qA Fx
 |Mod=>exact qA HC
 |Pow=>exact qA HD
 |LShift=>exact qA HE
 |RShift=>exact qA HF
 |BitAnd=>exact qB HG
 |BitOr=>exact qB J1
 |BitXor=>exact qB HH
 |_=>exact λ_ _ _ _ _ _ _ _ _ _ h=>Yh h
def AE(g:Int->Int->Bool):D->D->MH->DK->Prop
 |.int i,.int j,M,Q=>Q (.bl (g i j)) M
 |_,_,_,_=>False
def qC{g:Int->Int->Bool}(k:cA X f (kr λi j=>.bl (g i j))):gB X f (AE g):=by
 intro x y v u H M Q m n rm h;cases x with
 |int i=>cases y with
  |int j=>cases RV.int_.1 m;cases RV.int_.1 n;exact iS k ⟨i,j,rfl,rfl,aG (RV.bl_.2 rfl) rm h⟩
  |_=>exact Yh h
 |_=>exact Yh h
def xx(x y:D)(M:MH)(Q:Bool->Prop):Prop:=match x,y with
 |.ref a,.ref b=>match bM (M a),bM (M b) with
  |some xs,some ys=>(aN xs=true/\aN ys=true/\bm xs<=30)/\Q (ce xs ys)
  |_,_=>False
 |.ref a,y=>match bM (M a) with
  |some _=>aP y=true/\Q false
  |none=>False
 |x,.ref b=>match bM (M b) with
  |some _=>aP x=true/\Q false
  |none=>False
 |x,y=>(aP x=true/\aP y=true/\db x<=30)/\Q (aU x y)
def AF(f:iT d=true)(g:iT x=true)(n:RV K H d v)(k:RV K H x u)(r:RelV v v')(m:RelV u u'):
  SeqAt.RcAt A s v' u' (aU d x)/\SeqAt.RcNeAt A s v' u' (!aU d x):=by
 cases d with
 |non=>
  cases RV.non_.1 n;cases r;cases x with
  |non=>cases RV.non_.1 k;cases m;rw[aU];exact⟨SeqAt.RcAt.none_none,SeqAt.RcNeAt.none_none⟩
  |bl b=>cases RV.bl_.1 k;cases m;rw[aU]<;>first | exact⟨SeqAt.RcAt.none_bool b,SeqAt.RcNeAt.none_bool b⟩ | (intros;contradiction)
  |int b=>cases RV.int_.1 k;obtain⟨t,rfl⟩:=m;rw[aU]<;>first | exact⟨SeqAt.RcAt.none_int b t,SeqAt.RcNeAt.none_int b t⟩ | (intros;contradiction)
  |str b=>cases RV.str_.1 k;obtain⟨t,rfl⟩:=m;rw[aU]<;>first | exact⟨SeqAt.RcAt.none_str b t,SeqAt.RcNeAt.none_str b t⟩ | (intros;contradiction)
  |_=>exact absurd (show false=true from g) YE
 |bl a=>
  cases RV.bl_.1 n;cases r;cases x with
  |non=>cases RV.non_.1 k;cases m;rw[aU]<;>first | exact⟨SeqAt.RcAt.bool_none a,SeqAt.RcNeAt.bool_none a⟩ | (intros;contradiction)
  |bl b=>cases RV.bl_.1 k;cases m;rw[aU];exact⟨SeqAt.RcAt.bool_bool a b,SeqAt.RcNeAt.bool_bool a b⟩
  |int b=>cases RV.int_.1 k;obtain⟨t,rfl⟩:=m;rw[aU];exact⟨SeqAt.RcAt.bool_int a b t,SeqAt.RcNeAt.bool_int a b t⟩
  |str b=>cases RV.str_.1 k;obtain⟨t,rfl⟩:=m;rw[aU]<;>first | exact⟨SeqAt.RcAt.bool_str a b t,SeqAt.RcNeAt.bool_str a b t⟩ | (intros;contradiction)
  |_=>exact absurd (show false=true from g) YE
 |int a=>
  cases RV.int_.1 n;obtain⟨t',rfl⟩:=r;cases x with
  |non=>cases RV.non_.1 k;cases m;rw[aU]<;>first | exact⟨SeqAt.RcAt.int_none a t',SeqAt.RcNeAt.int_none a t'⟩ | (intros;contradiction)
  |bl b=>cases RV.bl_.1 k;cases m;rw[aU];exact⟨SeqAt.RcAt.int_bool a t' b,SeqAt.RcNeAt.int_bool a t' b⟩
  |int b=>cases RV.int_.1 k;obtain⟨t,rfl⟩:=m;rw[aU];exact⟨SeqAt.RcAt.int_int a t' b t,SeqAt.RcNeAt.int_int a t' b t⟩
  |str b=>cases RV.str_.1 k;obtain⟨t,rfl⟩:=m;rw[aU]<;>first | exact⟨SeqAt.RcAt.int_str a t' b t,SeqAt.RcNeAt.int_str a t' b t⟩ | (intros;contradiction)
  |_=>exact absurd (show false=true from g) YE
 |str a=>
  cases RV.str_.1 n;obtain⟨t',rfl⟩:=r;cases x with
  |non=>cases RV.non_.1 k;cases m;rw[aU]<;>first | exact⟨SeqAt.RcAt.str_none a t',SeqAt.RcNeAt.str_none a t'⟩ | (intros;contradiction)
  |bl b=>cases RV.bl_.1 k;cases m;rw[aU]<;>first | exact⟨SeqAt.RcAt.str_bool a t' b,SeqAt.RcNeAt.str_bool a t' b⟩ | (intros;contradiction)
  |int b=>cases RV.int_.1 k;obtain⟨t,rfl⟩:=m;rw[aU]<;>first | exact⟨SeqAt.RcAt.str_int a t' b t,SeqAt.RcNeAt.str_int a t' b t⟩ | (intros;contradiction)
  |str b=>cases RV.str_.1 k;obtain⟨t,rfl⟩:=m;rw[aU];exact⟨SeqAt.RcAt.str_str a t' b t,SeqAt.RcNeAt.str_str a t' b t⟩
  |_=>exact absurd (show false=true from g) YE
 |_=>exact absurd (show false=true from f) YE
def sg{a_:Zc}{ρ:L2.St}{d_:Zl}(hu:A.units<cLine)(f:iT d=true)(tp:s.heap.IsTuple a d_\/s.heap.IsList a d_)(k:RV X.K H d u)(m:RelV u u'):
  (SeqAt.RcAt A s (.ref a) u' false/\SeqAt.RcNeAt A s (.ref a) u' true)/\(SeqAt.RcAt A s u' (.ref a) false/\SeqAt.RcNeAt A s u' (.ref a) true):=by
 rcases tp with tp | tp
 .cases d with
  |non=>cases RV.non_.1 k;cases m;exact⟨⟨SeqAt.RcAt.tuple_none tp hu,SeqAt.RcNeAt.tuple_none tp hu⟩,⟨SeqAt.RcAt.none_tuple tp hu,SeqAt.RcNeAt.none_tuple tp hu⟩⟩
  |bl b=>cases RV.bl_.1 k;cases m;exact⟨⟨SeqAt.RcAt.tuple_bool b tp hu,SeqAt.RcNeAt.tuple_bool b tp hu⟩,⟨SeqAt.RcAt.bool_tuple b tp hu,SeqAt.RcNeAt.bool_tuple b tp hu⟩⟩
  |int b=>cases RV.int_.1 k;obtain⟨t,rfl⟩:=m;exact⟨⟨SeqAt.RcAt.tuple_int b t tp hu,SeqAt.RcNeAt.tuple_int b t tp hu⟩,⟨SeqAt.RcAt.int_tuple b t tp hu,SeqAt.RcNeAt.int_tuple b t tp hu⟩⟩
  |str b=>cases RV.str_.1 k;obtain⟨t,rfl⟩:=m;exact⟨⟨SeqAt.RcAt.tuple_str b t tp hu,SeqAt.RcNeAt.tuple_str b t tp hu⟩,⟨SeqAt.RcAt.str_tuple b t tp hu,SeqAt.RcNeAt.str_tuple b t tp hu⟩⟩
  |_=>exact absurd (show false=true from f) YE
 .cases d with
  |non=>cases RV.non_.1 k;cases m;exact⟨⟨SeqAt.RcAt.list_none tp hu,SeqAt.RcNeAt.list_none tp hu⟩,⟨SeqAt.RcAt.none_list tp hu,SeqAt.RcNeAt.none_list tp hu⟩⟩
  |bl b=>cases RV.bl_.1 k;cases m;exact⟨⟨SeqAt.RcAt.list_bool b tp hu,SeqAt.RcNeAt.list_bool b tp hu⟩,⟨SeqAt.RcAt.bool_list b tp hu,SeqAt.RcNeAt.bool_list b tp hu⟩⟩
  |int b=>cases RV.int_.1 k;obtain⟨t,rfl⟩:=m;exact⟨⟨SeqAt.RcAt.list_int b t tp hu,SeqAt.RcNeAt.list_int b t tp hu⟩,⟨SeqAt.RcAt.int_list b t tp hu,SeqAt.RcNeAt.int_list b t tp hu⟩⟩
  |str b=>cases RV.str_.1 k;obtain⟨t,rfl⟩:=m;exact⟨⟨SeqAt.RcAt.list_str b t tp hu,SeqAt.RcNeAt.list_str b t tp hu⟩,⟨SeqAt.RcAt.str_list b t tp hu,SeqAt.RcNeAt.str_list b t tp hu⟩⟩
  |_=>exact absurd (show false=true from f) YE
def xy(A:Around)(s:Shared)(v u:Value)(b:Bool):Prop:=SeqAt.RcAt A s v u b/\SeqAt.RcNeAt A s v u (!b)
theorem Gn(I:ad X a_ ρ H s)(hd:bm ds<=30)(hu:A.units+40<cLine)(G:aN ds=true)(J:aN xs=true)
  (m:af X.K H ds vs) (n:af X.K H xs us) (p:ak vs d_) (r:ak us m_) (tp:s.heap.IsTuple a d_.toArray) (B:s.heap.IsTuple l m_.toArray):xy A s (.ref a) (.ref l) (ce ds xs):=by
 have L:d_.toArray.size=ds.length:=by rw[m.len,p.length];simp
 have O:m_.toArray.size=xs.length:=by rw[n.len,r.length];simp
 have C:∀j (h1:j<d_.toArray.size) (E:j<m_.toArray.size),SeqAt.EqAt A.in1 s d_.toArray[j] m_.toArray[j] (aU ((ds[j]?).getD .non) ((xs[j]?).getD .non)):=λj h1 E=>by
  obtain⟨d,v,k,r1,q1⟩:=fL m p h1;obtain⟨e,u,F,r2,q2⟩:=fL n r E;rw[k,F]
  have:=fV k
  exact qz 30 d e I 'a' (by rw[units_in1];omega) (bZ G k) (bZ J F) r1 r2 q1 q2
 have e:ce ds xs=((List.range (min d_.toArray.size m_.toArray.size)).all (λj=>aU ((ds[j]?).getD .non) ((xs[j]?).getD .non))&&d_.toArray.size==m_.toArray.size):=by rw[jh,L,O]
 rw[e];exact⟨SeqAt.RcAt.tuples tp B 'a' C,SeqAt.RcNeAt.tuples tp B 'a' C⟩
theorem CV(I:ad X a_ ρ H s)(hd:bm ds<=30)(hu:A.units+40<cLine)(L:aN ds=true)(O:aN xs=true)
  (n:af X.K H ds vs) (p:af X.K H xs us) (r:ak vs d_) (B:ak us m_) (tp:s.heap.IsList a d_.toArray) (k:s.heap.IsList l m_.toArray):xy A s (.ref a) (.ref l) (ce ds xs):=by
 have C:d_.toArray.size=ds.length:=by rw[n.len,r.length];simp
 have S:m_.toArray.size=xs.length:=by rw[p.len,B.length];simp
 have E:∀j (h1:j<d_.toArray.size) (F:j<m_.toArray.size),SeqAt.EqAt A.in1 s d_.toArray[j] m_.toArray[j] (aU ((ds[j]?).getD .non) ((xs[j]?).getD .non)):=λj h1 F=>by
  obtain⟨d,v,m,r1,q1⟩:=fL n r h1;obtain⟨e,u,G,r2,q2⟩:=fL p B F;rw[m,G]
  have:=fV m
  exact qz 30 d e I 'a' (by rw[units_in1];omega) (bZ L m) (bZ O G) r1 r2 q1 q2
 by_cases hl:ds.length=xs.length
 .have e:ce ds xs=(List.range d_.toArray.size).all (λj=>aU ((ds[j]?).getD .non) ((xs[j]?).getD .non)):=by rw[jh,C,hl,Nat.min_self];simp
  rw[e];exact⟨SeqAt.RcAt.lists tp k 'a' 'a' E,SeqAt.RcNeAt.lists tp k 'a' 'a' E⟩
 .have e:ce ds xs=false:=by rw[jh];simp[hl]
  rw[e];have J:(d_.toArray.size != m_.toArray.size)=true:=by rw[C,S];simpa using hl
  exact⟨SeqAt.RcAt.lists_lengths tp k J 'a',SeqAt.RcNeAt.lists_lengths tp k J 'a'⟩
theorem Iu{Q:Bool->Prop}(I:ad X a_ ρ H s)(hu:X.A.units+40<cLine)(B:RV X.K H x v)(k:RV X.K H d u)(m:RM X.K M H)(r:RelV v v')(n:RelV u u')(h:xx x d M Q):
  ∃b,xy X.A s v' u' b/\Q b:=by
 have T:aP x=true->aP d=true->db x<=30->Q (aU x d)->∃b,xy X.A s v' u' b/\Q b:=λO py hd q=>by
  rcases eg O with f | ⟨ds,rfl⟩
  .rcases eg py with g | ⟨es,rfl⟩
   .exact⟨_,AF f g B k r n,q⟩
   .obtain⟨b,us,rfl,sq,C⟩:=RV.tup_.1 k
    obtain⟨d_,E,tp,_⟩:=I.tuple sq;cases n;rw[(mJ f).2] at q;exact⟨false,(sg (X:=X) (a_:=a_) (ρ:=ρ) 'a' f (.inl (show s.heap.IsTuple b d_.toArray from tp)) B r).2,q⟩
  .obtain⟨a,vs,rfl,sq,C⟩:=RV.tup_.1 B
   obtain⟨d_,E,tp,_⟩:=I.tuple sq;cases r;rcases eg py with g | ⟨es,rfl⟩
   .rw[(mJ g).1] at q
    exact⟨false,(sg (X:=X) (a_:=a_) (ρ:=ρ) 'a' g (.inl (show s.heap.IsTuple a d_.toArray from tp)) k n).1,q⟩
   .obtain⟨b,us,rfl,F,J⟩:=RV.tup_.1 k
    obtain⟨m_,L,p,_⟩:=I.tuple F;cases n;rw[aP] at O py;rw[db] at hd;rw[aU] at q;exact⟨_,Gn I 'a' hu O py C J E L (show s.heap.IsTuple a d_.toArray from tp) (show s.heap.IsTuple b m_.toArray from p),q⟩
 have S:∀{a:Addr}{w:V}{w':Value}{d:D}{xs:List D},bM (M a)=some xs->RV X.K H d w->RelV w w'->aP d=true->(xy X.A s (.ref a) w' false/\xy X.A s w' (.ref a) false):=λ{a w w' d xs} hl k n py=>by
  obtain⟨vs,sq,C⟩:=m.list hl;obtain⟨d_,E,tp,_⟩:=I.list sq;rcases eg py with g | ⟨es,rfl⟩
  .have:=sg (X:=X) (a_:=a_) (ρ:=ρ) (A:=X.A) 'a' g (.inr tp.isList) k n
   exact⟨this.1,this.2⟩
  .obtain⟨b,us,rfl,F,J⟩:=RV.tup_.1 k
   obtain⟨m_,L,p,_⟩:=I.tuple F;cases n;have p:s.heap.IsTuple b m_.toArray:=p;exact⟨⟨SeqAt.RcAt.list_tuple tp.isList p 'a',SeqAt.RcNeAt.list_tuple tp.isList p 'a'⟩,⟨SeqAt.RcAt.tuple_list p tp.isList 'a',SeqAt.RcNeAt.tuple_list p tp.isList 'a'⟩⟩
 cases x with
 |ref a=>
  cases RV.ref_.1 B;cases r;cases d with
  |ref b=>
   cases RV.ref_.1 k;cases n;have h:match bM (M a),bM (M b) with
    |some xs,some ys=>(aN xs=true/\aN ys=true/\bm xs<=30)/\Q (ce xs ys)
    |_,_=>False:=h
   split at h
   .rename_i xs ys G U
    obtain⟨vs,sq,C⟩:=m.list G;obtain⟨us,F,J⟩:=m.list U;obtain⟨d_,E,tp,_⟩:=I.list sq;obtain⟨m_,L,p,_⟩:=I.list F;exact⟨_,CV I h.1.2.2 hu h.1.1 h.1.2.1 C J E L tp.isList p.isList,h.2⟩
   .exact Yh h
  |_=>
   simp only[xx] at h;split at h
   .rename_i xs G
    exact⟨false,(S G k n h.1).1,h.2⟩
   .exact Yh h
 |_=>
  cases d with
  |ref b=>
   cases RV.ref_.1 k;cases n;simp only[xx] at h;split at h
   .rename_i ys G
    exact⟨false,(S G B r h.1).2,h.2⟩
   .exact Yh h
  |_=>exact T h.1.1 h.1.2.1 h.1.2.2 h.2
def CW:D->D->MH->DK->Prop:=λx y M Q=>xx x y M λb=>Q (.bl b) M
def CY:D->D->MH->DK->Prop:=λx y M Q=>xx x y M λb=>Q (.bl (!b)) M
def Iv(hu:X.A.units+40<cLine):gB X (compareOp .Eq) CW:=by
 intro x y v u H M Q k m rm h a_ s ρ v' u' I r n;obtain⟨b,h1,q⟩:=Iu I hu k m rm r n h;exact h1.1 _ _ _ _ ⟨.bl b,H,I,rfl,aG (RV.bl_.2 rfl) rm q⟩
def Iw(hu:X.A.units+40<cLine):gB X (compareOp .NotEq) CY:=by
 intro x y v u H M Q k m rm h a_ s ρ v' u' I r n;obtain⟨b,h1,q⟩:=Iu I hu k m rm r n h;exact h1.2 _ _ _ _ ⟨.bl (!b),H,I,rfl,aG (RV.bl_.2 rfl) rm q⟩
end
section
variable {X:Cx}{H:Hp}{e a b c:Expr}{es:Zg}{pos:Pos}
noncomputable def kz(K:Za)(H:Hp)(ds:List D)(x:D)(y:Value):Bool:=@decide (∃d v,d∈ds/\RV K H d v/\RelV v y/\aU d x=true) (Classical.propDecidable _)
def jJ(I:ad X a_ ρ H s)(m:aN ds=true)(hd:d∈ds)(r:RV X.K H d v)(k:RelV v v'):kz X.K H ds x v'=aU d x:=by
 have pg:∀d∈ds,aP d=true:=λd h=>let⟨i,hi⟩:=XT h;bZ m hi
 unfold kz;cases q:aU d x with
 |true=>exact @decide_eq_true _ (Classical.propDecidable _) ⟨d,v,hd,r,k,q⟩
 |false=>
  refine @decide_eq_false _ (Classical.propDecidable _) ?_;rintro⟨d',y,Na,r1,r2,q'⟩
  have:=L2.RelV.inj r2 k
  subst this
  have:=uP I d' d (pg d' Na) (pg d hd) r1 r
  subst this;rw[q] at q';cases q'
theorem tj{K:Za}{x:D}{f:Value->Bool}:∀{ds:List D}{vs:List V}{d_:Zd},af K H ds vs->ak vs d_->(∀d v u,d∈ds->RV K H d v->RelV v u->f u=aU d x)->d_.any f=ds.any λd=>aU d x
 |[],vs,d_,r,k,_=>by
  rw[af] at r;subst r;cases k;rfl
 |d::ds,vs,d_,r,k,h=>by
  rw[af] at r;obtain⟨v,m,rfl,r1,r2⟩:=r;cases k with
  |cons q1 q2=>rw[XC,XC,h d v _ (ZX) r1 q1,tj r2 q2 λd' v' u' hd=>h d' v' u' (ZY _ hd)]
theorem mK{K:Za}:∀{ds:List D}{vs:List V}{d_:Zd}{y:Value},af K H ds vs->ak vs d_->y∈d_->∃d v,d∈ds/\RV K H d v/\RelV v y
 |[],vs,d_,y,r,k,hy=>by rw[af] at r;subst r;cases k;cases hy
 |d::ds,vs,d_,y,r,k,hy=>by
  rw[af] at r;obtain⟨v,n,rfl,r1,r2⟩:=r;cases k with
  |cons q1 q2=>
   rcases ZZ.mp hy with rfl | hy
   .exact⟨d,v,ZX,r1,q1⟩
   .obtain⟨d',v',h1,m⟩:=mK r2 q2 hy
    exact⟨d',v',ZY _ h1,m⟩
def pB:D->Option Key
 |.int i=>some (.inl i)
 |.str x=>some (.inr x)
 |_=>none
def xz{k:Key}(h:pB d=some k)(r:RV K H d v):v=kV k:=by
 cases d with
 |int i=>cases h;exact RV.int_.1 r
 |str i=>cases h;exact RV.str_.1 r
 |_=>cases h
def cp(kvs:Zz)(k:Key):Option D:=(kvs.find? λkv=>decide (kv.1=k)).map (·.2)
theorem pC{k:Key}:∀{kvs:Zz}{l_:List (Key×V)},l_.map (·.1)=kvs.map (·.1)->(eO l_ k).isSome=(cp kvs k).isSome
 |[],[],_=>rfl
 |[],_::_,e=>by cases e
 |_::_,[],e=>by cases e
 |(k1,p)::kvs,(k2,r)::l_,e=>by
  simp only[YK,List.cons.injEq] at e;obtain⟨m,n⟩:=e;subst m;unfold eO cp;rw[XB,XB];by_cases q:k2=k
  .simp only[YU q,XH,Option.isSome_some]
  .simp only[ZP q]
   exact pC n
def qD:Option MO->Option (List (Key×D))
 |some (.dic kvs)=>some kvs
 |some (.rod kvs)=>some kvs
 |_=>none
theorem RM.dict(m:RM K M H)(h:qD (M l)=some kvs):∃l_:List (Key×V),Rd H l (.dK l_)/\l_.map (·.1)=kvs.map (·.1)/\af K H (kvs.map (·.2)) (l_.map (·.2)):=by
 cases e:M l with
 |none=>rw[e] at h;cases h
 |some o=>
  rw[e] at h;cases o with
  |dic xs=>cases h;obtain⟨l_,q,r⟩:=m l _ e;exact⟨l_,.inl q,r⟩
  |rod xs=>cases h;obtain⟨u,l_,q,r⟩:=m l _ e;exact⟨l_,.inr ⟨u,q⟩,r⟩
  |_=>cases h
def gC(x:D)(ds:List D):Bool:=ds.any λd=>aU d x
def qE{k:Type}(o:Option k)(Q:k->Prop):Prop:=match o with
 |some x=>Q x
 |none=>False
def uQ{k:Type}{o:Option k}{Q:k->Prop}(h:qE o Q):∃x,o=some x/\Q x:=by
 cases o with
 |none=>exact Yh h
 |some x=>exact⟨x,rfl,h⟩
def yT(x y:D)(M:MH)(Q:Bool->Prop):Prop:=match y with
 |.tup ds=>(aP x=true/\aN ds=true/\bm ds<=30)/\Q (gC x ds)
 |.ref a=>match bM (M a) with
  |some ds=>(aP x=true/\aN ds=true/\bm ds<=30)/\Q (gC x ds)
  |none=>qE (qD (M a)) λkvs=>qE (pB x) λk=>Q (cp kvs k).isSome
 |.str j=>match x with
  |.str i=>Q (!(Builtin.Str.occurrences j i 0 j.length 1).isEmpty)
  |_=>False
 |_=>False
theorem Ix{Q:Bool->Prop}(I:ad X a_ ρ H s)(hu:X.A.units+40<cLine)(G:RV X.K H x v)(J:RV X.K H d u)(m:RM X.K M H)(r:RelV v v')(L:RelV u u')(h:yT x d M Q):
  ∃k,Q k/\(∀(Q':Zb),(∀n,ad X a_ ρ H n->Q' (.bool k) n)->wpAny 'b' X.A (compareOp .In v' u') Q' X.xe s)/\(∀(Q':Zb),(∀n,ad X a_ ρ H n->Q' (.bool (!k)) n)->wpAny 'b' X.A (compareOp .NotIn v' u') Q' X.xe s):=by
 have C:∀{ds:List D}{vs:List V}{d_:Zd},aP x=true->aN ds=true->bm ds<=30->af X.K H ds vs->ak vs d_ ->
   (∀d,d∈d_.toArray->SeqAt.EqAt X.A.in1 s d v' (kz X.K H ds x d))/\d_.toArray.any (kz X.K H ds x)=gC x ds:=λ{ds vs d_} W O hd p B=>by
  refine⟨λd hy=>?_,?_⟩
  .obtain⟨y,w',h1,E,F⟩:=mK p B (by simpa using hy)
   rw[jJ I O h1 E F];obtain⟨i,hi⟩:=XT h1
   have:=fV hi
   exact qz 30 y x I 'a' (by rw[units_in1];omega) (bZ O hi) W E G F r
  .rw[List.any_toArray]
   exact tj p B λy w' u h1 E F=>jJ I O h1 E F
 cases d with
 |tup ds=>
  obtain⟨b,us,rfl,sq,p⟩:=RV.tup_.1 J;obtain⟨d_,B,tp,_⟩:=I.tuple sq;cases L;obtain⟨k1,k2⟩:=C h.1.1 h.1.2.1 h.1.2.2 p B;have tp:s.heap.IsTuple b d_.toArray:=tp;exact⟨_,h.2,λQ' q=>SeqAt.in_tupleAt _ tp k1 (by rw[k2];exact q s I),λQ' q=>SeqAt.notIn_tupleAt _ tp k1 (by rw[k2];exact q s I)⟩
 |ref b=>
  cases RV.ref_.1 J;cases L;have h:match bM (M b) with
   |some ds=>(aP x=true/\aN ds=true/\bm ds<=30)/\Q (gC x ds)
   |none=>qE (qD (M b)) λkvs=>qE (pB x) λk=>Q (cp kvs k).isSome:=h
  split at h
  .rename_i ds S
   obtain⟨vs,sq,p⟩:=m.list S;obtain⟨d_,B,tp,_⟩:=I.list sq;obtain⟨k1,k2⟩:=C h.1.1 h.1.2.1 h.1.2.2 p B;exact⟨_,h.2,λQ' q=>SeqAt.in_listAt _ tp.isList k1 (by rw[k2];exact q s I),λQ' q=>SeqAt.notIn_listAt _ tp.isList k1 (by rw[k2];exact q s I)⟩
  .obtain⟨kvs,S,h⟩:=uQ h
   obtain⟨k,Y,h⟩:=uQ h;obtain⟨l_,Z,U,_⟩:=m.dict S
   have:=xz Y G
   subst this;have g:k7 H b (kV k) (eO l_ k):=.inl ⟨l_,k,Z,rfl,rfl⟩;refine⟨_,h,λQ' q=>Lj 'a' I g r λn T=>?_,λQ' q=>FQ 'a' I g r λn T=>?_⟩
   .rw[pC U];exact q n T
   .rw[pC U];exact q n T
 |str j=>
  cases RV.str_.1 J;cases x with
  |str i=>
   cases RV.str_.1 G;obtain⟨t,rfl⟩:=r;obtain⟨t',rfl⟩:=L;exact⟨_,h,λQ' q=>P.in_str (q s I),λQ' q=>notIn_str (q s I)⟩
  |_=>exact Yh h
 |_=>exact Yh h
def uR:kx:=λx y M Q=>yT x y M λb=>Q (.bl b) M
def sj:kx:=λx y M Q=>yT x y M λb=>Q (.bl (!b)) M
def Iy(hu:X.A.units+40<cLine):gB X (compareOp .In) uR:=by
 intro x y v u H M Q k m rm h a_ s ρ v' u' I r n;obtain⟨b,q,h1,_⟩:=Ix I hu k m rm r n h;exact h1 _ λB p=>⟨.bl b,H,p,rfl,aG (RV.bl_.2 rfl) rm q⟩
def AG(hu:X.A.units+40<cLine):gB X (compareOp .NotIn) sj:=by
 intro x y v u H M Q k m rm h a_ s ρ v' u' I r n;obtain⟨b,q,_,h1⟩:=Ix I hu k m rm r n h;exact h1 _ λB p=>⟨.bl (!b),H,p,rfl,aG (RV.bl_.2 rfl) rm q⟩
def lh:D->Bool
 |.non=>true
 |_=>false
def Iz:D->Bool
 |.bl _=>true
 |_=>false
def xA:Bool->D->Bool
 |true,.bl a=>a
 |false,.bl a=>!a
 |_,_=>false
def IA(x y:D):Bool:=match y with
 |.non=>true
 |.bl _=>Iz x
 |_=>false
def yU(x y:D):Bool:=match y with
 |.non=>lh x
 |.bl b=>xA b x
 |_=>false
def CZ:kx:=λx y M Q=>IA x y=true/\Q (.bl (yU x y)) M
def sk:kx:=λx y M Q=>IA x y=true/\Q (.bl (!yU x y)) M
def pE(r:RV K H x v):decide (v=.non)=lh x:=by
 cases x with
 |non=>cases RV.non_.1 r;rfl
 |tup ds=>obtain⟨a,xs,rfl,_⟩:=RV.tup_.1 r;rfl
 |bl _=>cases RV.bl_.1 r;rfl
 |int _=>cases RV.int_.1 r;rfl
 |str _=>cases RV.str_.1 r;rfl
 |ref _=>cases RV.ref_.1 r;rfl
 |ty _=>cases RV.ty_.1 r;rfl
def IB(a b:Bool):(a==b)=xA b (.bl a):=by cases a<;>cases b<;>rfl
def IC:gB X (compareOp .Is) CZ:=by
 intro x y v u H M Q k m rm h;obtain⟨h1,n⟩:=h;cases y with
 |non=>
  cases RV.non_.1 m;exact iS HK ⟨rfl,by rw[pE k];exact aG (RV.bl_.2 rfl) rm n⟩
 |bl b=>
  cases x with
  |bl a=>
   cases RV.bl_.1 k;cases RV.bl_.1 m;intro a_ s ρ v' u' I r p;cases r;cases p;refine is_bool ?_;rw[IB];exact⟨.bl (xA b (.bl a)),H,I,rfl,aG (RV.bl_.2 rfl) rm n⟩
  |_=>cases h1
 |_=>cases h1
def AH:gB X (compareOp .IsNot) sk:=by
 intro x y v u H M Q k m rm h;obtain⟨h1,n⟩:=h;cases y with
 |non=>
  cases RV.non_.1 m;exact iS Fy ⟨rfl,by rw[pE k];exact aG (RV.bl_.2 rfl) rm n⟩
 |bl b=>
  cases x with
  |bl a=>
   cases RV.bl_.1 k;cases RV.bl_.1 m;intro a_ s ρ v' u' I r p;cases r;cases p;refine isnot_bool ?_;rw[show(a != b) = !xA b (.bl a) by cases a<;>cases b<;>rfl];exact⟨.bl (!xA b (.bl a)),H,I,rfl,aG (RV.bl_.2 rfl) rm n⟩
  |_=>cases h1
 |_=>cases h1
def EW:D->D->MH->DK->Prop
 |.int i,.int j,M,Q=>Q (.bl (decide (i<j))) M
 |.tup [.int a,.int b],.tup [.int c,.int d],M,Q=>Q (.bl (decide (a<c\/a=c/\b<d))) M
 |_,_,_,_=>False
def Lo(a b c d:Int):HT.lexLt [a,b] [c,d]=decide (a<c\/a=c/\b<d):=by
 rw[HT.k6,HT.k6,HT.lL];split
 .rename_i e
  subst e;split
  .rename_i e
   subst e;simp
  .simp
 .rename_i e
  simp[e]
def EX{b:Int}(r:af K H [.int i,.int b] vs)(v:ak vs d_):IntsAre d_.toArray.toList [i,b]:=by
 rw[af] at r;obtain⟨x,m,rfl,r1,r2⟩:=r;rw[af] at r2;obtain⟨y,n,rfl,r3,k⟩:=r2;rw[af] at k;subst k;cases RV.int_.1 r1;cases RV.int_.1 r3;exact intsAre_of (ns:=[i,b]) v
theorem ID(hu:X.A.units+40<cLine):gB X (compareOp .Lt) EW:=by
 intro x y v u H M Q k m rm h;unfold EW at h;split at h
 .exact qC (g:=λi j=>decide (i<j)) J2 _ _ v u H _ _ k m rm h
 .obtain⟨p,us,rfl,sq,n⟩:=RV.tup_.1 k
  obtain⟨q,L,rfl,B,C⟩:=RV.tup_.1 m;intro a_ s ρ v' u' I r E;obtain⟨d_,F,tp,_⟩:=I.tuple sq;obtain⟨m_,G,J,_⟩:=I.tuple B;cases r;cases E;refine HT.yw tp J (EX n F) (EX C G) 'a' ?_;rw[Lo];exact⟨.bl _,H,I,rfl,aG (RV.bl_.2 rfl) rm h⟩
 .exact Yh h
def yV:CmpOp->kx
 |.Eq=>CW
 |.NotEq=>CY
 |.Lt=>EW
 |.LtE=>AE λi j=>decide (i<=j)
 |.Gt=>AE λi j=>decide (j<i)
 |.GtE=>AE λi j=>decide (j<=i)
 |.Is=>CZ
 |.IsNot=>sk
 |.In=>uR
 |.NotIn=>sj
def xB(hu:X.A.units+40<cLine)(op:CmpOp):gB X (compareOp op) (yV op):=by
 cases op with
 |Eq=>exact Iv hu
 |NotEq=>exact Iw hu
 |Lt=>exact ID hu
 |LtE=>exact qC J3
 |Gt=>exact qC J4
 |GtE=>exact qC J5
 |Is=>exact IC
 |IsNot=>exact AH
 |In=>exact Iy hu
 |NotIn=>exact AG hu
def xW(X:Cx):R2:=λx y H Q=>∀m k a_ s ρ v u,ad X a_ ρ H s->RelV x v->RelV y u->subscripted k false v u=operate [v,u] (getItem v u)->wpAny 'b' X.A (subscriptTail m k v u) (EP X a_ ρ Q) X.xe s
def IE:xf X (xW X):=λk m a_ s σ _ _ _ v u _ I n p h hs=>h k m a_ s σ v u I n p hs
def qF{r:R2}(h:xf X r)(q:r v u H Q):xW X v u H Q:=λk m a_ s ρ y x I n p hs=>h k m a_ s ρ H v u y x Q I n p q hs
def xC(h:xW X v u H Q)(g:∀y H',Q y H'->Q' y H'):xW X v u H Q':=λk m a_ s ρ y x I n p hs=>aL (h k m a_ s ρ y x I n p hs) λ_ _ ⟨y,H',B,r,q⟩=>⟨y,H',B,r,g y H' q⟩
def xD(hu:X.A.units+1<cLine):xf X (λx y H Q=>∃a v,x=.ref a/\k7 H a y (some v)/\Q v H):=by
 intro k m a_ s σ H x y v u Q I n p h hs;obtain⟨a,z,rfl,g,q⟩:=h;cases n;exact tail_any (wz I g) PySem.F.slot_dict_getitem.lookup (Ak hu I g p λw' C r B=>⟨z,H,r,B,q⟩) hs
theorem sm{K:Za}:∀{kvs:Zz}{l_:List (Key×V)}{k:Key}{d:D},l_.map (·.1)=kvs.map (·.1)->af K H (kvs.map (·.2)) (l_.map (·.2))->cp kvs k=some d->∃v,eO l_ k=some v/\RV K H d v
 |[],_,_,_,_,_,h=>by cases h
 |(k',d')::kvs,[],_,_,e,_,_=>by cases e
 |(k',d')::kvs,(k2,m)::l_,k,d,e,r,h=>by
  simp only[YK,List.cons.injEq] at e;obtain⟨n,p⟩:=e;subst n;simp only[YK] at r;rw[af] at r;obtain⟨v,vs,z,r1,r2⟩:=r;cases z;unfold cp at h;unfold eO;rw[XB] at h ⊢;by_cases q:k2=k
  .simp only[YU q,XH] at h ⊢
   cases h;exact⟨m,rfl,r1⟩
  .simp only[ZP q] at h ⊢
   exact sm p r2 h
def bn{k:Type}(o:Option k)(Q:k->Prop):Prop:=match o with
 |some x=>Q x
 |none=>False
def aS{k:Type}{o:Option k}{Q:k->Prop}(h:bn o Q):∃x,o=some x/\Q x:=by
 cases o with
 |none=>exact Yh h
 |some x=>exact⟨x,rfl,h⟩
def EY:kx:=λx y M Q=>match x,y with
 |.tup ds,.int i=>bn (bY ds i) λd=>Q d M
 |.ref a,.int i=>match M a with
  |some (.lst ds)=>bn (bY ds i) λd=>Q d M
  |some (.rol ds)=>bn (bY ds i) λd=>Q d M
  |some (.dic kvs)=>bn (cp kvs (.inl i)) λd=>Q d M
  |some (.rod kvs)=>bn (cp kvs (.inl i)) λd=>Q d M
  |_=>False
 |_,_=>False
def uS(k:af K H ds vs)(h:bY ds i=some d):∃v,bY vs i=some v/\RV K H d v:=by
 unfold bY at h ⊢;rw[←k.len];cases q:ku ds.length i with
 |none=>rw[q] at h;cases h
 |some j=>
  rw[q] at h;obtain⟨v,hv,r⟩:=cF k.p (show ds[j]?=some d from h);exact⟨v,hv,r⟩
theorem LH(hu:X.A.units+40<cLine){Q:DK}(F:RV X.K H x v)(G:RV X.K H d u)(rm:RM X.K M H)(h:EY x d M Q):xW X v u H (lift X.K H Q):=by
 cases x with
 |tup ds=>cases d with
  |int i=>
   obtain⟨y,m,q⟩:=aS h;obtain⟨a,vs,rfl,sq,n⟩:=RV.tup_.1 F;cases RV.int_.1 G;obtain⟨w',p,r⟩:=uS n m;exact qF HV ⟨a,vs,i,w',rfl,rfl,sq,p,aG r rm q⟩
  |_=>exact Yh h
 |ref a=>
  cases RV.ref_.1 F;cases d with
  |int i=>
   cases RV.int_.1 G;have h:match M a with
    |some (.lst ds)=>bn (bY ds i) λy=>Q y M
    |some (.rol ds)=>bn (bY ds i) λy=>Q y M
    |some (.dic kvs)=>bn (cp kvs (.inl i)) λy=>Q y M
    |some (.rod kvs)=>bn (cp kvs (.inl i)) λy=>Q y M
    |_=>False:=h
   split at h
   .rename_i ds B
    obtain⟨y,m,q⟩:=aS h;obtain⟨vs,p,n⟩:=rm a _ B;obtain⟨w',C,r⟩:=uS n m;exact qF xg ⟨a,vs,i,w',rfl,rfl,aX.of p,C,aG r rm q⟩
   .rename_i ds B
    obtain⟨y,m,q⟩:=aS h;obtain⟨vs,p,n⟩:=rm a _ B;obtain⟨w',C,r⟩:=uS n m;exact qF xg ⟨a,vs,i,w',rfl,rfl,.inl p,C,aG r rm q⟩
   .rename_i kvs B
    obtain⟨y,m,q⟩:=aS h;obtain⟨l_,p,C,n⟩:=rm a _ B;obtain⟨w',E,r⟩:=sm C n m;exact qF (xD 'a') ⟨a,w',rfl,by rw[←E];exact k7.k (k:=.inl i) p,aG r rm q⟩
   .rename_i kvs B
    obtain⟨y,m,q⟩:=aS h;obtain⟨I,l_,p,C,n⟩:=rm a _ B;obtain⟨w',E,r⟩:=sm C n m;exact qF (xD 'a') ⟨a,w',rfl,by rw[←E];exact .inl ⟨l_,.inl i,.inr ⟨I,p⟩,rfl,rfl⟩,aG r rm q⟩
   .exact Yh h
  |_=>exact Yh h
 |_=>exact Yh h
def cq:Expr->Bool
 |.Slice _ _ _ _=>false
 |_=>true
def xE(h:cq b=true):xc b:=by
 intro o i;cases b<;>first | rfl | (exact absurd (show false=true from h) YE)
def IF(hu:X.A.units+40<cLine)(ha:aI X a ta)(hb:aI X b te)(hs:cq b=true):aI X (.Subscript a b pos) (jI EY ta te):=by
 intro σ M ρ H Q rs rm h;refine bw (EN IE (a0 a) (a0 b) (xE hs)) ?_;show tW X a ρ H _;refine aH (two ha hb rs rm h) λv H1 q1=>?_
 show tW X b ρ H1 _;refine aH q1 λu H2 Ml=>?_
 obtain⟨k,x,y,M2,r1,r2,m2,q⟩:=Ml;exact xC (LH hu r1 r2 m2 q) λ_ _=>bR k
end
end DD
namespace HT
open PySem PySem.Spec PyProof.Rows L2
variable {lo:Zp}{vl:Value}{t:Addr}
section
variable {prog:Zv}{w:World}{A:Around}{E:Zb}{s:Shared}
def oG{sl:Addr}{c_:Zl}{a:Value}{hi:Zp}{Q:Zb}(ht:IsTup s.heap t c_)(hs:s.heap.IsSliceOf sl vl a .none)(b:IsPart vl lo)(c:IsPart a hi)
  (hw:aR c_.size 0 lo=0/\aR c_.size c_.size hi=c_.size) (h:Q (.ref t) s):wpAny 'e' A (getItem (.ref t) (.ref sl)) Q E s:=by
 obtain⟨os,f,g,k⟩:=id hs;have j:s.TypeIs (.ref sl) "slice":=⟨os,f,g⟩;unfold getItem;try with_reducible refine Yj ?_
 first | refine Yb (Yc ?_) | skip
 refine Yb (wpAny_sequenceKey ht.typeIs 'c' ?_);refine Yb (wpAny_callSpecial?_slot (name:=Str.ofString "__getitem__") ht.typeIs PyProof.Rows.slot_tuple_getitem
  (wpAny_call_entry PyProof.Rows.slot_tuple_getitem ht.typeIs entry_tuple_getitem ?_ (args_tuple_getitem _ _)))
 show wpAny _ _ (Builtin.Tuple.tupleItemsOf (.ref t) >>= _) _ _ s;refine Yb (tupleItemsOf_ ht ?_);refine Yb (wpAny_typeOf j ?_);rw[if_pos 'c'];refine Yb (i8 hs b c ?_);show wpAny _ _ (if(((aR c_.size 0 lo:Nat):Int)==0&&(1:Int)==1&&(aR c_.size c_.size hi-aR c_.size 0 lo)==c_.size)=true then _ else _) _ _ s;rw[if_pos (by rw[hw.1,hw.2];simp)];refine Yb (m:=Builtin.Tuple.tupleIsExact _) (Yb (wpAny_typeOf ht.typeIs (Yc ?_)));rw[if_pos 'c'];refine Yb (wpAny_rule ?_);exact Yc ⟨_,rfl,Yc h⟩
end
end HT
namespace DD
open PySem PySem.Spec PyProof.Rows L2
variable {n_ tp:Pos}{K:Za}{x v i:V}{to tv ti:WE}{t it:Addr}{y d d':D}{tk:Nat}{f:Str}{vs:List V}{M:MH}{u v' iv:Value}{elts:Zg}{Q:Zb}{P:Zv}{Q':VK}{b:Bool}{w:World}{g:MH->Prop}{ρ:L2.St}{s:Shared}{ch:Zh}{a_:Zc}{hi lo:Zp}{env:Env}{ds es:List D}{r:aK}{c_:Zl}{c:Rc}{H0:Hp}{h:Heap}{l tg:Expr}{O:qN}{d_:Zd}{th:WO}{e:Option Expr}
section
variable {X:Cx}{H:Hp}{e a b c o:Expr}{es:Zg}{pos:Pos}
def AI(X:Cx):V->Option Int->Option Int->Hp->VK->Prop:=λx lo hi H Q=>∀a_ s ρ v j k sl,ad X a_ ρ H s->RelV x v->s.heap.IsSliceOf sl j k .none->IsPart j lo->IsPart k hi ->
 ∃T id,typeLookup (.type T) "__getitem__" = pure (some (.builtin id))/\s.TypeIs v T/\wpAny 'b' X.A (getItem v (.ref sl)) (EP X a_ ρ Q) X.xe s
def Lp:w9 X (AI X):=λa_ s σ _ _ v j k _ _ sl _ I m hs n p h=>h a_ s σ v j k sl I m hs n p
def uT{r:V->Option Int->Option Int->Hp->VK->Prop}{Q:VK}(h:w9 X r)(q:r x lo hi H Q):AI X x lo hi H Q:=λa_ s ρ v j k sl I m hs n p=>h a_ s ρ H x v j k lo hi sl Q I m hs n p q
def C0{Q:VK}(h:AI X x lo hi H Q)(g:∀v H',Q v H'->Q' v H'):AI X x lo hi H Q':=λa_ s ρ v j k sl I m hs n p=>
 let⟨T,id,h1,h2,h3⟩:=h a_ s ρ v j k sl I m hs n p;⟨T,id,h1,h2,aL h3 λ_ _ ⟨v,H',A,r,q⟩=>⟨v,H',A,r,g v H' q⟩⟩
def cC{j:Type}(xs:List j)(lo hi:Zp):List j:=(xs.drop (HT.aR xs.length 0 lo)).take (HT.aR xs.length xs.length hi-HT.aR xs.length 0 lo)
def AJ(r:af K H ds vs)(lo hi:Zp):af K H (cC ds lo hi) (j8 vs lo hi):=by
 unfold cC j8;rw[←r.len];exact af.of (rZ _ (xh _ r.p))
def Lq(K:Za):V->Option Int->Option Int->Hp->VK->Prop:=λx lo hi H Q=>∃a xs,x=.ref a/\bf K H a xs/\(HT.aR xs.length 0 lo=0/\HT.aR xs.length xs.length hi=xs.length)/\Q (.ref a) H
def Go:w9 X (Lq X.K):=by
 intro a_ s σ H x v p A lo hi sl Q I j hs k m h;obtain⟨a,xs,rfl,hx,hw,q⟩:=h;cases j;obtain⟨d_,r,ht,hz⟩:=I.tuple hx;have n:d_.toArray.size=xs.length:=by rw[YH];exact r.length.symm
 refine⟨"tuple",_,PyProof.Rows.slot_tuple_getitem.lookup,ht.typeIs,?_⟩;exact HT.oG ht hs k m (by rw[n];exact hw) ⟨.ref a,H,I,rfl,q⟩
def IG(x:D)(lo hi:Zp)(M:MH)(Q:DK):Prop:=match x with
 |.tup ds=>Q (.tup (cC ds lo hi)) M
 |.ref a=>bn (bM (M a)) λds=>∀p,M p=none->Q (.ref p) (ab M p (.lst (cC ds lo hi)))
 |_=>False
def LI{Q:DK}(n:RV X.K H y v)(rm:RM X.K M H)(h:IG y lo hi M Q):AI X v lo hi H (lift X.K H Q):=by
 cases y with
 |tup ds=>
  obtain⟨a,vs,rfl,sq,j⟩:=RV.tup_.1 n;by_cases hw:HT.aR ds.length 0 lo=0/\HT.aR ds.length ds.length hi=ds.length
  .have h:Q (.tup (cC ds lo hi)) M:=h
   have e:cC ds lo hi=ds:=by unfold cC;rw[hw.1,hw.2];simp
   rw[e] at h;exact uT Go ⟨a,vs,rfl,sq,by rw[←j.len];exact hw,aG n rm h⟩
  refine uT HU ⟨a,vs,rfl,sq,by rw[←j.len];exact hw,λp hp=>?_⟩;have k:=Kp.new (o:=.tup (j8 vs lo hi)) hp;exact⟨k,.tup (cC ds lo hi),M,RV.tup_.2 ⟨p,_,rfl,bf.of aA,af.mono k _ (AJ j lo hi)⟩,rm.newH hp,h⟩
 |ref a=>
  cases RV.ref_.1 n;obtain⟨ds,A,q⟩:=aS h;obtain⟨vs,sq,j⟩:=rm.list A;refine uT FN ⟨a,vs,rfl,sq,λp hp=>?_⟩;have k:=Kp.new (o:=.lst (j8 vs lo hi)) hp;exact⟨k,.ref p,_,RV.ref_.2 rfl,rm.new (m:=.lst (cC ds lo hi)) hp ⟨_,aA,af.mono k _ (AJ j lo hi)⟩,q p (rm.fresh hp)⟩
 |_=>exact Yh h
def intD(x:D)(Q:Int->Prop):Prop:=match x with
 |.int i=>Q i
 |_=>False
def nU{Q:Int->Prop}(h:intD y Q):∃i,y=.int i/\Q i:=by
 cases y with
 |int i=>exact⟨i,rfl,h⟩
 |_=>exact Yh h
abbrev WO:=DS->MH->(Option Int->MH->Prop)->Prop
def xF(X:Cx)(e:Option Expr):TO:=λρ H Q=>∀a_ s,ad X a_ ρ H s->wpAny 'b' X.A (evalPart e X.env) (λu j=>∃o H',ad X a_ ρ H' j/\IsPart u o/\Q o H') X.xe s
def IH(e:Option Expr):PO X e (xF X e):=λa_ s _ _ _ I h=>h a_ s I
def AK(X:Cx)(e:Option Expr)(t:WO):Prop:=∀σ M ρ H Q,RS X.K H σ ρ->RM X.K M H->t σ M Q->xF X e ρ H λo H'=>Kp H H'/\∃M',RM X.K M' H'/\Q o M'
def C1:AK X none (λ_ M Q=>Q none M):=λσ M ρ H Q rs rm q a_ s I=>FJ a_ s ρ H _ I ⟨Kp.refl H,M,rm,q⟩
def C2(h:aI X e to):AK X (some e) (λσ M Q=>to σ M λx M1=>intD x λi=>Q (some i) M1):=λσ M ρ H Q rs rm q a_ s I=>
 FK (a0 e) a_ s ρ H _ I (aH (h σ M ρ H _ rs rm q) λv H1 ⟨k1,x,M1,r1,m1,q1⟩=>by
  obtain⟨i,rfl,q1⟩:=nU q1;exact⟨i,RV.int_.1 r1,k1,M1,m1,q1⟩)
def uU{e:Option Expr}{Q Q':Option Int->Hp->Prop}(h:xF X e ρ H Q)(f:∀o H',Q o H'->Q' o H'):xF X e ρ H Q':=λa_ s I=>aL (h a_ s I) λ_ _ ⟨o,H',j,r,q⟩=>⟨o,H',j,r,f o H' q⟩
def II(j:WE)(k th:WO):WE:=λσ M Q=>j σ M λx M1=>k σ M1 λl M2=>th σ M2 λu M3=>IG x l u M3 Q
def IJ{j:WO}{lo hi:Option Expr}(ha:aI X a to)(hl:AK X lo j)(k:AK X hi th):aI X (.Subscript a (.Slice lo hi none n_) pos) (II to j th):=by
 intro σ M ρ H Q rs rm h;refine bw (Cd Lp (a0 a) (IH lo) (IH hi)) ?_;show tW X a ρ H _;refine aH (ha σ M ρ H _ rs rm h) λv H1 m=>?_
 obtain⟨k1,x,M1,r1,m1,q1⟩:=m;show xF X lo ρ H1 _;refine uU (hl σ M1 ρ H1 _ (rs.mono k1) m1 q1) λl H2 n=>?_
 obtain⟨k2,M2,m2,q2⟩:=n;show xF X hi ρ H2 _;refine uU (k σ M2 ρ H2 _ (rs.mono (k1.trans k2)) m2 q2) λu H3 MF=>?_
 obtain⟨k3,M3,m3,q3⟩:=MF;exact C0 (LI (RV.mono (k2.trans k3) x r1) m3 q3) λ_ _=>bR (k1.trans (k2.trans k3))
def cW(X:Cx)(f:Value):List V->Hp->VK->Prop:=λvs H Q=>∀a_ s ρ us,ad X a_ ρ H s->ak vs us->wpAny 'b' X.A (call f us) (EP X a_ ρ Q) X.xe s
def KA(f:Value):dA X f (cW X f):=λa_ s σ _ _ us _ I r h=>h a_ s σ us I r
def dc{r:List V->Hp->VK->Prop}{Q:VK}(h:dA X u r)(q:r vs H Q):cW X u vs H Q:=λa_ s ρ us I j=>h a_ s ρ H vs us Q I j q
def xG{Q:VK}(h:cW X u vs H Q)(g:∀v H',Q v H'->Q' v H'):cW X u vs H Q':=λa_ s ρ us I j=>aL (h a_ s ρ us I j) λ_ _ ⟨v,H',k,r,q⟩=>⟨v,H',k,r,g v H' q⟩
def de(X:Cx)(f:Value)(r:aK):Prop:=∀ds vs H M Q,af X.K H ds vs->RM X.K M H->r ds M Q->cW X f vs H (lift X.K H Q)
def fW{id:String}{t:WA}(hc:de X (.builtin id) r)(j:Gl X f)(hm:X.mg f=none)(hv:bootBuiltins f=some (.builtin id))(hn:f ≠ "__name__")(k:(f==("__debug__" : Str))=false)(hs:aj e=true)(m:es.all aj=true)
  (ha:eG X (e::es) t):aI X (.Call (.Name f n_) (e::es) [] pos) (fG r t):=by
 intro σ M ρ H Q rs rm h;refine bw (B8 (KA _) j hm hv (k9 (e::es)) hn k (aY hs) (c8 m)) ?_;show jH X (e::es) ρ H _;refine da (ha σ M ρ H _ rs rm h) λvs H1 MG=>?_
 obtain⟨k1,ds,M1,r1,_,m1,q1⟩:=MG;exact xG (hc ds vs H1 M1 Q r1 m1 q1) λ_ _=>bR k1
def iU{id:String}{t:WA}(hc:de X (.type id) r)(j:Gl X f)(hm:X.mg f=none)(hv:bootBuiltins f=some (.type id))(hn:f ≠ "__name__")(k:(f==("__debug__" : Str))=false)(hs:aj e=true)(m:es.all aj=true)
  (ha:eG X (e::es) t):aI X (.Call (.Name f n_) (e::es) [] pos) (fG r t):=by
 intro σ M ρ H Q rs rm h;refine bw (Ae (KA _) j hm hv (k9 (e::es)) hn k (aY hs) (c8 m)) ?_;show jH X (e::es) ρ H _;refine da (ha σ M ρ H _ rs rm h) λvs H1 Ml=>?_
 obtain⟨k1,ds,M1,r1,_,m1,q1⟩:=Ml;exact xG (hc ds vs H1 M1 Q r1 m1 q1) λ_ _=>bR k1
def cr(r:af K H [d] vs):∃v,vs=[v]/\RV K H d v:=by
 rw[af] at r;obtain⟨v,j,rfl,r1,r2⟩:=r;rw[af] at r2;subst r2;exact⟨v,rfl,r1⟩
def uV(r:af K H [d,d'] vs):∃v v',vs=[v,v']/\RV K H d v/\RV K H d' v':=by
 rw[af] at r;obtain⟨v,j,rfl,r1,r2⟩:=r;obtain⟨v',rfl,r3⟩:=cr r2;exact⟨v,v',rfl,r1,r3⟩
def yW:aK:=λds M Q=>match ds with
 |[.str z]=>z.length<=sizeLine/\Q (.int z.length) M
 |[.tup xs]=>Q (.int xs.length) M
 |[.ref a]=>match M a with
  |some (.lst xs)=>Q (.int xs.length) M
  |some (.rol xs)=>Q (.int xs.length) M
  |some (.dic kvs)=>Q (.int kvs.length) M
  |some (.rod kvs)=>Q (.int kvs.length) M
  |_=>False
 |_=>False
def AL:dA X (.builtin "len") (λxs H Q=>∃a kvs,xs=[V.ref a]/\Rd H a (.dK kvs)/\Q (.int kvs.length) H):=by
 rintro a_ s σ H xs us Q I r ⟨a,kvs,rfl,ha,q⟩;obtain⟨u,rfl,j⟩:=vals1 r;cases j;exact ES I ha λt m k=>⟨.int kvs.length,H,k,⟨t,rfl⟩,q⟩
def IK:de X (.builtin "len") yW:=by
 intro ds vs H M Q r rm h;unfold yW at h;split at h
 .obtain⟨v,rfl,r1⟩:=cr r
  cases RV.str_.1 r1;exact dc uv ⟨_,rfl,h.1,aG (RV.int_.2 rfl) rm h.2⟩
 .obtain⟨v,rfl,r1⟩:=cr r
  obtain⟨a,us,rfl,sq,j⟩:=RV.tup_.1 r1;exact dc i9 ⟨a,us,rfl,.inr sq,aG (RV.int_.2 (by rw[j.len])) rm h⟩
 .obtain⟨v,rfl,r1⟩:=cr r
  cases RV.ref_.1 r1;split at h
  .rename_i xs k
   obtain⟨us,sq,j⟩:=rm _ _ k;exact dc i9 ⟨_,us,rfl,.inl (aX.of sq),aG (RV.int_.2 (by rw[j.len])) rm h⟩
  .rename_i xs k
   obtain⟨us,sq,j⟩:=rm _ _ k;exact dc i9 ⟨_,us,rfl,.inl (.inl sq),aG (RV.int_.2 (by rw[j.len])) rm h⟩
  .rename_i kvs k
   obtain⟨m,q1,q2,j⟩:=rm _ _ k;exact dc Ao ⟨_,m,rfl,q1,aG (RV.int_.2 (by have:=congrArg List.length q2;simp only[ZF] at this;rw[this])) rm h⟩
  .rename_i kvs k
   obtain⟨n,m,q1,q2,j⟩:=rm _ _ k;exact dc AL ⟨_,m,rfl,.inr ⟨n,q1⟩,aG (RV.int_.2 (by have:=congrArg List.length q2;simp only[ZF] at this;rw[this])) rm h⟩
  .exact Yh h
 .exact Yh h
def fE(x:D)(M:MH):Option String:=match x with
 |.non=>some "NoneType"
 |.bl _=>some "bool"
 |.int _=>some "int"
 |.str _=>some "str"
 |.tup _=>some "tuple"
 |.ref a=>match M a with
  |some (.lst _)=>some "list"
  |some (.dic _)=>some "dict"
  |_=>none
 |.ty _=>none
def kA(t T:String):Bool:=t==T||(t == "bool" && T == "int")
def kinds:List String:=["NoneType","bool","int","str","tuple","list","dict"]
def AM:∀t∈kinds,∀T∈kinds,T ≠ "NoneType"->(if(Value.type t==Value.type T)=true then some true else if PySem.W.kitMeta T=true then(fastBuiltinMro t).map (·.contains (.type T)) else none)=some (kA t T):=by rfl'
def uW:List D->Option (List String)
 |[]=>some []
 |.ty T::r=>(uW r).map (T :: ·)
 |_=>none
def yX(T:String):Bool:=kinds.contains T&&T != "NoneType"
def nV:aK:=λds M Q=>match ds with
 |[x,.ty T]=>(T∈kinds/\T ≠ "NoneType")/\bn (fE x M) λt=>Q (.bl (kA t T)) M
 |[x,.tup ts]=>bn (uW ts) λj=>j.all yX=true/\bn (fE x M) λt=>Q (.bl (j.any (kA t))) M
 |_=>False
theorem xH{K:Za}:∀{ts:List D}{j:List String}{vs:List V},uW ts=some j->af K H ts vs->vs=j.map V.ty
 |[],j,vs,h,r=>by cases h;rw[af] at r;subst r;rfl
 |.ty T::ts,j,vs,h,r=>by
  rw[uW] at h;rw[af] at r;obtain⟨v,k,rfl,r1,r2⟩:=r;cases q:uW ts with
  |none=>rw[q] at h;cases h
  |some m=>rw[q] at h;cases h;rw[xH q r2,RV.ty_.1 r1];rfl
 |.non::_,_,_,h,_=>by cases h
 |.bl _::_,_,_,h,_=>by cases h
 |.int _::_,_,_,h,_=>by cases h
 |.str _::_,_,_,h,_=>by cases h
 |.tup _::_,_,_,h,_=>by cases h
 |.ref _::_,_,_,h,_=>by cases h
theorem tm{K:Za}{t:String}(ht:t∈kinds):∀{j:List String}{us:Zd},j.all yX=true->ak (j.map V.ty) us->PySem.W.kitAny K (.type t) us=some (j.any (kA t))
 |[],_,_,r=>by cases r;rfl
 |T::j,_,h,r=>by
  cases r with
  |cons q1 q2=>
   rw[XO,YX] at h;cases q1;have g:=h.1;unfold yX at g;rw[YX] at g;have k1:=Ar K (AM t ht T (by simpa using g.1) (by simpa using g.2));unfold PySem.W.kitAny;rw[k1,XC];cases kA t T with
   |true=>rfl
   |false=>exact tm ht h.2 q2
def uX{t:String}(h:fE y M=some t):t∈kinds:=by
 cases y with
 |ref a=>
  have h:(match M a with
   |some (.lst _)=>some "list"
   |some (.dic _)=>some "dict"
   |_=>none)=some t:=h
  split at h<;>first | (cases h;decide) | cases h
 |ty _=>cases h
 |_=>cases h;decide
def C3{t:String}{k:Bool}(I:ad X a_ ρ H s)(j:RV X.K H y v)(rm:RM X.K M H)(r:RelV v v')(h:fE y M=some t)(e:PySem.W.kitOne X.K (.type t) u=some k)
  (hq:∀tk,Q (.bool k) { s with toks:=tk }):wpAny 'b' X.A (call (.builtin "isinstance") [v',u]) Q X.xe s:=by
 cases y with
 |non=>cases h;cases RV.non_.1 j;exact fT I r .non e hq
 |bl b=>cases h;cases RV.bl_.1 j;exact fT I r (.bl b) e hq
 |int b=>cases h;cases RV.int_.1 j;exact fT I r (.int b) e hq
 |str b=>cases h;cases RV.str_.1 j;exact fT I r (.str b) e hq
 |ty b=>cases h
 |tup ds=>
  cases h;obtain⟨a,xs,rfl,sq,n⟩:=RV.tup_.1 j;obtain⟨_,_,tp,_⟩:=I.tuple sq;cases r;obtain⟨o,h1,p,_⟩:=tp;exact PySem.W.kia_one PySem.W.kitx_tuple I.kIn ⟨o,h1,p⟩ e (λz=>nomatch z) hq
 |ref a=>
  cases RV.ref_.1 j;have h:(match M a with
   |some (.lst _)=>some "list"
   |some (.dic _)=>some "dict"
   |_=>none)=some t:=h
  split at h
  .rename_i m;cases h
   obtain⟨us,sq,n⟩:=rm _ _ m;exact fT I r (.lst sq) e hq
  .rename_i m;cases h
   obtain⟨us,sq,_⟩:=rm _ _ m;exact fT I r (.dK sq) e hq
  .cases h
def C4{t:String}{k:Bool}(I:ad X a_ ρ H s)(j:RV X.K H y v)(rm:RM X.K M H)(r:RelV v v')(h:fE y M=some t)
  (ht:IsTup s.heap it d_.toArray) (e:PySem.W.kitAny X.K (.type t) d_=some k) (hq:∀tk,Q (.bool k) { s with toks:=tk }):wpAny 'b' X.A (call (.builtin "isinstance") [v',.ref it]) Q X.xe s:=by
 obtain⟨⟨oc,od,C,J_⟩,h1,E,n,F⟩:=ht;obtain rfl:oc=.type "tuple":=E;obtain rfl:C=.seq d_.toArray n:=F;cases y with
 |non=>cases h;cases RV.non_.1 j;cases r;exact PySem.W.kia_tup PySem.W.kitx_none I.kIn True.intro h1 e (λz=>nomatch z) hq
 |bl b=>cases h;cases RV.bl_.1 j;cases r;exact PySem.W.kia_tup PySem.W.kitx_bool I.kIn True.intro h1 e (λz=>nomatch z) hq
 |int b=>cases h;cases RV.int_.1 j;obtain⟨_,rfl⟩:=r;exact PySem.W.kia_tup PySem.W.kitx_int I.kIn True.intro h1 e (λz=>nomatch z) hq
 |str b=>cases h;cases RV.str_.1 j;obtain⟨_,rfl⟩:=r;exact PySem.W.kia_tup PySem.W.kitx_str I.kIn True.intro h1 e (λz=>nomatch z) hq
 |ty b=>cases h
 |tup ds=>
  cases h;obtain⟨a,xs,rfl,sq,G⟩:=RV.tup_.1 j;obtain⟨_,_,⟨o,m,p,_⟩,_⟩:=I.tuple sq;cases r;exact PySem.W.kia_tup PySem.W.kitx_tuple I.kIn ⟨o,m,p⟩ h1 e (λz=>nomatch z) hq
 |ref a=>
  cases RV.ref_.1 j;cases r;have h:(match M a with
   |some (.lst _)=>some "list"
   |some (.dic _)=>some "dict"
   |_=>none)=some t:=h
  split at h
  .rename_i B;cases h
   obtain⟨J,sq,G⟩:=rm _ _ B;obtain⟨_,_,_,_,_,m⟩:=I.lstM sq;exact PySem.W.kia_tup PySem.W.kitx_list I.kIn ⟨_,m,rfl⟩ h1 e (λz=>nomatch z) hq
  .rename_i B;cases h
   obtain⟨J,sq,_⟩:=rm _ _ B;obtain⟨_,_,_,_,o,es,L,m,p,_⟩:=t3 I.hok sq;exact PySem.W.kia_tup PySem.W.kitx_dict I.kIn ⟨o,m,p.1⟩ h1 e (λz=>nomatch z) hq
  .cases h
def AN:de X (.builtin "isinstance") nV:=by
 intro ds vs H M Q r rm h;unfold nV at h;split at h
 .rename_i x T
  obtain⟨v,w',rfl,r1,r2⟩:=uV r;cases RV.ty_.1 r2;obtain⟨t,j,q⟩:=aS h.2;intro a_ s ρ us I k;obtain⟨u,n,rfl,q1,q2⟩:=k.two;cases q2;exact C3 I r1 rm q1 j (Ar X.K (AM t (uX j) T h.1.1 h.1.2)) λtk=>⟨.bl _,H,I.tok tk,rfl,aG (RV.bl_.2 rfl) rm q⟩
 .rename_i x ts
  obtain⟨v,w',rfl,r1,r2⟩:=uV r;obtain⟨B,p,h⟩:=aS h;obtain⟨t,j,q⟩:=aS h.2;obtain⟨tp,xs,rfl,sq,A⟩:=RV.tup_.1 r2;intro a_ s ρ us I k;obtain⟨u,n,rfl,q1,q2⟩:=k.two;cases q2;obtain⟨d_,m,ht,_⟩:=I.tuple sq;rw[xH p A] at m;exact C4 I r1 rm q1 j ht (tm (uX j) h.1 m) λtk=>⟨.bl _,H,I.tok tk,rfl,aG (RV.bl_.2 rfl) rm q⟩
 .exact Yh h
def ji:List D->Option (List Bool)
 |[]=>some []
 |.bl b::r=>(ji r).map (b :: ·)
 |_=>none
theorem sn{K:Za}:∀{ds:List D}{bs:List Bool}{vs:List V},ji ds=some bs->af K H ds vs->vs=bs.map V.bl
 |[],bs,vs,h,r=>by rw[af] at r;subst r;cases h;rfl
 |.bl b::ds,bs,vs,h,r=>by
  rw[af] at r;obtain⟨v,j,rfl,r1,r2⟩:=r;cases RV.bl_.1 r1;unfold ji at h;cases q:ji ds with
  |none=>rw[q] at h;cases h
  |some k=>rw[q] at h;cases h;rw[sn q r2];rfl
def mL(f:List Bool->Bool):aK:=λds M Q=>match ds with
 |[.ref a]=>match M a with
  |some (.lst xs)=>bn (ji xs) λbs=>Q (.bl (f bs)) M
  |_=>False
 |_=>False
def IL(hc:X.calm=true):de X (.builtin "all") (mL λbs=>bs.all id):=by
 intro ds vs H M Q r rm h;unfold mL at h;split at h
 .obtain⟨v,rfl,r1⟩:=cr r
  cases RV.ref_.1 r1;split at h
  .rename_i xs j
   obtain⟨bs,k,q⟩:=aS h;obtain⟨us,sq,m⟩:=rm _ _ j
   have:=sn k m
   subst this;exact dc (Cj hc) ⟨_,bs,rfl,aX.of sq,aG (RV.bl_.2 rfl) rm q⟩
  .exact Yh h
 .exact Yh h
def IM(hc:X.calm=true):de X (.builtin "any") (mL λbs=>bs.any id):=by
 intro ds vs H M Q r rm h;unfold mL at h;split at h
 .obtain⟨v,rfl,r1⟩:=cr r
  cases RV.ref_.1 r1;split at h
  .rename_i xs j
   obtain⟨bs,k,q⟩:=aS h;obtain⟨us,sq,m⟩:=rm _ _ j
   have:=sn k m
   subst this;exact dc (Ck hc) ⟨_,bs,rfl,aX.of sq,aG (RV.bl_.2 rfl) rm q⟩
  .exact Yh h
 .exact Yh h
def EZ(f:Int->Int->Int):aK:=λds M Q=>match ds with
 |[.int i,.int j]=>Q (.int (f i j)) M
 |_=>False
def IN(hc:X.calm=true):de X (.builtin "min") (EZ λi j=>if j<i then j else i):=by
 intro ds vs H M Q r rm h;unfold EZ at h;split at h
 .obtain⟨v,v',rfl,r1,r2⟩:=uV r
  cases RV.int_.1 r1;cases RV.int_.1 r2;exact dc (Aa hc) ⟨_,_,rfl,aG (RV.int_.2 rfl) rm h⟩
 .exact Yh h
def uY:aK:=λds M Q=>match ds with
 |[.int i]=>Q (.int i) M
 |[.bl k]=>Q (.int (if k then 1 else 0)) M
 |_=>False
def IO:de X (.type "int") uY:=by
 intro ds vs H M Q r rm h;unfold uY at h;split at h
 .obtain⟨v,rfl,r1⟩:=cr r
  cases RV.int_.1 r1;exact dc sN (.inl ⟨_,rfl,aG (RV.int_.2 rfl) rm h⟩)
 .obtain⟨v,rfl,r1⟩:=cr r
  cases RV.bl_.1 r1;exact dc sN (.inr ⟨_,rfl,aG (RV.int_.2 rfl) rm h⟩)
 .exact Yh h
def qG:aK:=λds M Q=>match ds with
 |[.tup xs]=>Q (.tup xs) M
 |[.ref a]=>bn (bM (M a)) λxs=>Q (.tup xs) M
 |_=>False
def C5:de X (.type "tuple") qG:=by
 intro ds vs H M Q r rm h;unfold qG at h;split at h
 .obtain⟨v,rfl,r1⟩:=cr r
  obtain⟨a,us,rfl,sq,j⟩:=RV.tup_.1 r1;exact dc lM ⟨a,us,rfl,.inr ⟨sq,aG r1 rm h⟩⟩
 .obtain⟨v,rfl,r1⟩:=cr r
  cases RV.ref_.1 r1;obtain⟨xs,m,q⟩:=aS h;obtain⟨us,sq,j⟩:=rm.list m;refine dc lM ⟨_,us,rfl,.inl ⟨sq,λp hp=>?_⟩⟩;have k:=Kp.new (o:=.tup us) hp;exact⟨k,.tup xs,M,RV.tup_.2 ⟨p,_,rfl,bf.of aA,af.mono k _ j⟩,rm.newH hp,q⟩
 .exact Yh h
def nW:aK:=λds M Q=>match ds with
 |[.tup xs]=>∀p,M p=none->Q (.ref p) (ab M p (.lst xs))
 |[.ref a]=>bn (bM (M a)) λxs=>∀p,M p=none->Q (.ref p) (ab M p (.lst xs))
 |_=>False
def xI:de X (.type "list") nW:=by
 intro ds vs H M Q r rm h;unfold nW at h;split at h
 .rename_i xs
  obtain⟨v,rfl,r1⟩:=cr r;obtain⟨a,us,rfl,sq,j⟩:=RV.tup_.1 r1;refine dc mz ⟨a,us,rfl,.inr sq,λp hp=>?_⟩;have k:=Kp.new (o:=.lst us) hp;exact⟨k,.ref p,_,RV.ref_.2 rfl,rm.new (m:=.lst xs) hp ⟨us,aA,af.mono k _ j⟩,h p (rm.fresh hp)⟩
 .obtain⟨v,rfl,r1⟩:=cr r
  cases RV.ref_.1 r1;obtain⟨xs,n,q⟩:=aS h;obtain⟨us,sq,j⟩:=rm.list n;refine dc mz ⟨_,us,rfl,.inl sq,λp hp=>?_⟩;have k:=Kp.new (o:=.lst us) hp;exact⟨k,.ref p,_,RV.ref_.2 rfl,rm.new (m:=.lst xs) hp ⟨us,aA,af.mono k _ j⟩,q p (rm.fresh hp)⟩
 .exact Yh h
inductive Bi where
 |len | isinst | all | any | min | tuple
 deriving DecidableEq
def IP:Bi->aK
 |.len=>yW
 |.isinst=>nV
 |.all=>mL λbs=>bs.all id
 |.any=>mL λbs=>bs.any id
 |.min=>EZ λi j=>if j<i then j else i
 |.tuple=>qG
def qH:Bi->Str
 |.len=>"len"
 |.isinst=>"isinstance"
 |.all=>"all"
 |.any=>"any"
 |.min=>"min"
 |.tuple=>"tuple"
def IQ(b:Bi)(hc:X.calm=true){t:WA}(j:Gl X (qH b))(hm:X.mg (qH b)=none)(hs:aj e=true)(k:es.all aj=true)(ha:eG X (e::es) t):aI X (.Call (.Name (qH b) n_) (e::es) [] pos) (fG (IP b) t):=by
 cases b with
 |len=>exact fW IK j hm PySem.boot_len 'c' 'c' hs k ha
 |isinst=>exact fW AN j hm PyProof.Rows.boot_isinstance 'c' 'c' hs k ha
 |all=>exact fW (IL hc) j hm (by rfl') 'c' 'c' hs k ha
 |any=>exact fW (IM hc) j hm (by rfl') 'c' 'c' hs k ha
 |min=>exact fW (IN hc) j hm PyProof.Rows.boot_min 'c' 'c' hs k ha
 |tuple=>exact iU C5 j hm (by rfl') 'c' 'c' hs k ha
end
section
variable {X:Cx}{H:Hp}{e a b c o:Expr}{es:Zg}{pos:Pos}
def bN:Expr->Bool
 |.Call (.Name _ _) [] [] _=>false
 |_=>true
def nX{w:Sem Value}(h:bN o=true):attributeBase o f env w=w:=by
 unfold attributeBase;split
 .exact absurd (show false=true from h) YE
 .rfl
theorem pF{env:Env}{p:Pos}:∀{es:Zg},es.all aj=true->(backTo p (starEach es env)).all (λx=>!x.1)=true
 |[],_=>rfl
 |e::es,h=>by
  rw[XO,YX] at h;rw[aY h.1];show(true&&(backTo p (starEach es env)).all (λx=>!x.1))=true;rw[pF h.2];rfl
def mW(X:Cx)(id:String):V->List V->Hp->VK->Prop:=λx xs H Q=>∀a_ s ρ v us,ad X a_ ρ H s->RelV x v->ak xs us->wpAny 'b' X.A (call (.builtin id) (v::us)) (EP X a_ ρ Q) X.xe s
def KB(id:String):Af X id (mW X id):=λa_ s σ _ _ _ v us _ I r j h=>h a_ s σ v us I r j
def qI{id:String}{r:V->List V->Hp->VK->Prop}{Q:VK}(h:Af X id r)(q:r x vs H Q):mW X id x vs H Q:=λa_ s ρ v us I j k=>h a_ s ρ H x vs v us Q I j k q
def xJ{id:String}{Q:VK}(h:mW X id x vs H Q)(g:∀v H',Q v H'->Q' v H'):mW X id x vs H Q':=λa_ s ρ v us I j k=>aL (h a_ s ρ v us I j k) λ_ _ ⟨v,H',m,r,q⟩=>⟨v,H',m,r,g v H' q⟩
abbrev oV:=D->List D->MH->DK->Prop
def uZ(X:Cx)(id:String)(r:oV):Prop:=∀x ds v vs H M Q,RV X.K H x v->af X.K H ds vs->RM X.K M H->r x ds M Q->mW X id v vs H (lift X.K H Q)
inductive Rc where
 |str | lst | dic | int | tup
def yY:Rc->D->MH->Prop
 |.str,.str _,_=>True
 |.int,.int _,_=>True
 |.tup,.tup _,_=>True
 |.lst,.ref a,M=>(bM (M a)).isSome=true
 |.dic,.ref a,M=>match M a with
  |some (.dic _)=>True
  |_=>False
 |_,_,_=>False
def AO:Rc->String
 |.str=>"str"
 |.lst=>"list"
 |.dic=>"dict"
 |.int=>"int"
 |.tup=>"tuple"
def xK{c:Rc}(r:RV K H y v)(m:RM K M H)(h:yY c y M):EO K (AO c) v H:=by
 cases c with
 |tup=>cases y with
  |tup ds=>obtain⟨a,xs,rfl,sq,_⟩:=RV.tup_.1 r;exact .inr (.inl ⟨rfl,xs,sq⟩)
  |_=>exact Yh h
 |int=>cases y with
  |int z=>cases RV.int_.1 r;rfl
  |_=>exact Yh h
 |str=>cases y with
  |str z=>cases RV.str_.1 r;rfl
  |_=>exact Yh h
 |lst=>cases y with
  |ref a=>
   cases RV.ref_.1 r;obtain⟨ds,e⟩:=Option.isSome_iff_exists.mp h;obtain⟨vs,sq,_⟩:=m.list e;exact .inl ⟨rfl,vs,sq⟩
  |_=>exact Yh h
 |dic=>cases y with
  |ref a=>
   cases RV.ref_.1 r;have h:match M a with
    |some (.dic _)=>True
    |_=>False:=h
   split at h
   .rename_i e
    obtain⟨j,q,_⟩:=m a _ e;exact .inr (.inr (.inl ⟨rfl,.inl ⟨j,q⟩⟩))
   .exact Yh h
  |_=>exact Yh h
def u4(c:Rc)(r:oV)(to:WE)(t:WA):WE:=λσ M Q=>to σ M λx M1=>yY c x M1/\t σ M1 λds M2=>r x ds M2 Q
theorem mM{c:Rc}{id:String}{r:oV}{t:WA}(k:PlainAttrs (AO c))(slot:Slot (AO c) f id)(m:typeOf (.builtin id)=pure (.type "method_descriptor"))(hm:uZ X id r)(ho:aI X o to)(ha:eG X (e::es) t)
  (hb:bN o=true) (hs:aj e=true) (j:es.all aj=true) (hl:es.length<20) (n:(n_.endLine==pos.line)=true):aI X (.Call (.Attribute o f n_) (e::es) [] pos) (u4 c r to t):=by
 intro σ M ρ H Q rs rm h;refine bw (Kd k slot m (KB id) (a0 o) (k9 (e::es)) (nX hb) ?_ n (aY hs) (c8 j)) ?_
 .rw[pF (es:=e::es) (by rw[XO,hs,j];rfl)]
  show(true&&true&&decide ((e::es).length+0+0<30))=true;rw[Bool.and_self,Bool.true_and];exact YU (by rw[YI];omega)
 .show tW X o ρ H _
  refine aH (ho σ M ρ H _ rs rm h) λv H1 p=>?_
  obtain⟨k1,x,M1,r1,m1,q1⟩:=p;refine⟨xK r1 m1 q1.1,?_⟩;show jH X (e::es) ρ H1 _;refine da (ha σ M1 ρ H1 _ (rs.mono k1) m1 q1.2) λvs H2 A=>?_
  obtain⟨k2,ds,M2,r2,_,m2,q2⟩:=A;exact xJ (hm x ds v vs H2 M2 Q (RV.mono k2 x r1) r2 m2 q2) λ_ _=>bR (k1.trans k2)
def kB{c:Rc}{id:String}{r:oV}(j:PlainAttrs (AO c))(slot:Slot (AO c) f id)(k:typeOf (.builtin id)=pure (.type "method_descriptor"))(hm:uZ X id r)(ho:aI X o to)
  (hb:bN o=true) (m:(n_.endLine==pos.line)=true):aI X (.Call (.Attribute o f n_) [] [] pos) (u4 c r to mF):=by
 intro σ M ρ H Q rs rm h;refine bw (HW j slot k (KB id) (a0 o) (nX hb) m) ?_;show tW X o ρ H _;refine aH (ho σ M ρ H _ rs rm h) λv H1 MF=>?_
 obtain⟨k1,x,M1,r1,m1,q1⟩:=MF;refine⟨xK r1 m1 q1.1,?_⟩;exact xJ (hm x [] v [] H1 M1 Q r1 af.nil m1 q1.2) λ_ _=>bR k1
def nY:oV:=λx ds M Q=>match x,ds with
 |.ref a,[d]=>match M a with
  |some (.lst xs)=>xs.length<sizeLine/\Q .non (ab M a (.lst (xs++[d])))
  |_=>False
 |_,_=>False
def tq:uZ X "list.append" nY:=by
 intro x ds v vs H M Q n r rm h;unfold nY at h;split at h
 .rename_i a d
  obtain⟨w',rfl,r1⟩:=cr r;cases RV.ref_.1 n;split at h
  .rename_i xs A
   obtain⟨us,sq,j⟩:=rm _ _ A;have k:=Kp.put (o':=.lst (us++[w'])) sq trivial;exact qI Ai ⟨a,us,w',rfl,rfl,sq,by rw[←j.len];exact h.1,k,.non,_,RV.non_.2 rfl,rm.put (m:=.lst (xs++[d])) sq trivial ⟨_,aA,af.of (ba (af.mono k _ j).p (.cons (RV.mono k _ r1) .nil))⟩,h.2⟩
  .exact Yh h
 .exact Yh h
def nZ:oV:=λx ds M Q=>match x,ds with
 |.ref a,[.ref b]=>match M a,M b with
  |some (.lst xs),some (.lst ys)=>xs.length+ys.length<=sizeLine/\Q .non (ab M a (.lst (xs++ys)))
  |_,_=>False
 |_,_=>False
def tu:uZ X "list.extend" nZ:=by
 intro x ds v vs H M Q B r rm h;unfold nZ at h;split at h
 .rename_i a b
  obtain⟨w',rfl,r1⟩:=cr r;cases RV.ref_.1 B;cases RV.ref_.1 r1;split at h
  .rename_i xs ys C E
   obtain⟨us,sq,j⟩:=rm _ _ C;obtain⟨n,F,A⟩:=rm _ _ E;have k:=Kp.put (o':=.lst (us++n)) sq trivial;exact qI Aj ⟨a,b,us,n,rfl,rfl,sq,F,by rw[←j.len,←A.len];exact h.1,k,.non,_,RV.non_.2 rfl,rm.put (m:=.lst (xs++ys)) sq trivial ⟨_,aA,af.of (ba (af.mono k _ j).p (af.mono k _ A).p)⟩,h.2⟩
  .exact Yh h
 .exact Yh h
theorem u5{j k:Type}{F:j->k->Prop}:∀{l:List j}{m:List k}(i:Nat),Paired F l m->Paired F (l.eraseIdx i) (m.eraseIdx i)
 |_,_,_,.nil=>.nil
 |_,_,0,.cons _ t=>t
 |_,_,i+1,.cons q t=>.cons q (u5 i t)
def wB{j k:Type}{F:j->k->Prop}{l:List j}{m:List k}(h:Paired F l m):Paired F l.dropLast m.dropLast:=by
 rw[List.dropLast_eq_take,List.dropLast_eq_take,←ik h];exact rZ _ h
def yZ:oV:=λx ds M Q=>match x,ds with
 |.ref a,[.int i]=>match M a with
  |some (.lst xs)=>(0<=i/\i<1000000)/\bn xs[i.toNat]? λd=>Q d (ab M a (.lst (xs.eraseIdx i.toNat)))
  |_=>False
 |.ref a,[]=>match M a with
  |some (.lst xs)=>bn xs[xs.length-1]? λd=>Q d (ab M a (.lst xs.dropLast))
  |_=>False
 |_,_=>False
theorem AQ:uZ X "list.pop" yZ:=by
 intro x ds v vs H M Q E r rm h;unfold yZ at h;split at h
 .rename_i a i
  obtain⟨w',rfl,r1⟩:=cr r;cases RV.ref_.1 E;cases RV.int_.1 r1;split at h
  .rename_i xs A
   obtain⟨us,sq,j⟩:=rm _ _ A;obtain⟨d,B,q⟩:=aS h.2;obtain⟨u,n,C⟩:=cF j.p B;have k:=Kp.put (o':=.lst (us.eraseIdx i.toNat)) sq trivial;have I:i.toNat<us.length:=(YC.1 n).1;have F:seqIndex? i us.length=some i.toNat:=by
    unfold seqIndex?;have h1:¬i<0:=by omega
    have G:i<(us.length:Int):=by omega
    simp[h1,h.1.1,G]
   exact qI Cf ⟨a,us,i,i.toNat,u,rfl,rfl,sq,by omega,by omega,F,n,k,d,_,RV.mono k _ C,rm.put (m:=.lst (xs.eraseIdx i.toNat)) sq trivial ⟨_,aA,af.of (u5 _ (af.mono k _ j).p)⟩,q⟩
  .exact Yh h
 .rename_i a
  obtain rfl:vs=[]:=by rw[af] at r;exact r
  cases RV.ref_.1 E;split at h
  .rename_i xs A
   obtain⟨us,sq,j⟩:=rm _ _ A;obtain⟨d,B,q⟩:=aS h;obtain⟨u,n,C⟩:=cF j.p B;have k:=Kp.put (o':=.lst us.dropLast) sq trivial;exact qI HX ⟨a,us,u,rfl,rfl,sq,by rw[←j.len];exact n,k,d,_,RV.mono k _ C,rm.put (m:=.lst xs.dropLast) sq trivial ⟨_,aA,af.of (wB (af.mono k _ j).p)⟩,q⟩
  .exact Yh h
 .exact Yh h
def eh(i:Int):Nat:=Builtin.Int.intBits i
def t9:oV:=λx ds M Q=>match x,ds with
 |.int i,[]=>Q (.int (eh i)) M
 |_,_=>False
def Gp:Af X "int.bit_length" (λx xs H Q=>∃i,x=.int i/\xs=[]/\Q (.int (eh i)) H):=by
 rintro a_ s σ H x xs v us Q I j k ⟨i,rfl,rfl,q⟩;obtain⟨t,rfl⟩:=j;have m:=k.zero;subst m;exact call_int_bit_length ⟨.int (eh i),H,I.tok _,⟨_,rfl⟩,q⟩
def xL:uZ X "int.bit_length" t9:=by
 intro x ds v vs H M Q j r rm h;unfold t9 at h;split at h
 .rename_i i
  obtain rfl:vs=[]:=by rw[af] at r;exact r
  cases RV.int_.1 j;exact qI Gp ⟨i,rfl,rfl,aG (RV.int_.2 rfl) rm h⟩
 .exact Yh h
def qJ:oV:=λx ds M Q=>match x,ds with
 |.tup xs,[y]=>(aP y=true/\aN xs=true/\bm xs<=30)/\bn (xs.findIdx? λd=>aU d y) λ(j:Nat)=>Q (.int (j:Int)) M
 |_,_=>False
theorem tQ(l:Addr)(c_:Zl)(n:Nat)(C:Zm)(sl:Zn)(x:Value)(e:Value->Bool)(j:Nat)(I:j<c_.size)
  (E:e c_[j]=true) (F:∀m (hm:m<c_.size),m<j->e c_[m]=false):
  Meets (Builtin.«tuple.index» ⟨[.ref l,x],[]⟩)
   (λA R s=>s.heap.get? l=some { cls:=.type "tuple",dict:=C,data:=.seq c_ n,slots:=sl }/\(∀y,y∈c_->SeqAt.EqAt A.in1 s y x (e y))/\R (.ok (.ret (.int j s.toks))) { s with toks:=s.toks+1 }):=
 .of_wp λprog w A R s h=>by
  obtain⟨hp,g,d,tk,os⟩:=s;obtain⟨hl,G,h⟩:=h;wp_walk using AutoSeq1.wpAny_loadPart' hl;show wpAny 'e' A.in1 (forIn [:min c_.size c_.size] ((none,()):Option PySem.Fin×Unit) λ(i:Nat) _=>match c_[i]? with
   |some y=>do if ←eqBool y x then pure (ForInStep.done (some (←retInt (i:Int)),())) else pure (ForInStep.yield (none,()))
   |_=>pure (ForInStep.yield (none,()))) _ _ _
  rw[Std.Legacy.Range.forIn_eq_forIn_range'];refine wpAny_forIn_list _ (λrest b B=>b=(none,())/\B=⟨hp,g,d,tk,os⟩/\∃i,i<=j/\rest=List.range' i (c_.size-i)) _ ?_ ?_ _ _ ⟨rfl,rfl,0,YL _,?_⟩
  .rintro k rest b B ⟨rfl,rfl,i,h1,p⟩
   rw[show c_.size-i=(c_.size-(i+1))+1 by omega,List.range'_succ,List.cons.injEq] at p;obtain⟨rfl,rfl⟩:=p;rw[XV (show k<c_.size by omega)];dsimp only;refine Yb (G _ (Array.getElem_mem _) prog w _ _ ?_);by_cases c:k=j
   .subst c
    rw[E];wp_walk;exact⟨_,rfl,h⟩
   .rw[F k 'a' 'a']
    exact Yc ⟨rfl,rfl,k+1,by omega,rfl⟩
  .rintro b B ⟨_,_,i,h1,p⟩
   have:=congrArg List.length p
   rw[List.length_range'] at this;simp only[YT] at this;omega
  .show List.range' 0 ((min c_.size c_.size-0+1-1) / 1) 1=_
   rw[Nat.min_self,Nat.div_one];rfl
theorem u6(hu:X.A.units+40<cLine):uZ X "tuple.index" qJ:=by
 intro x ds v vs H M Q R r rm h;unfold qJ at h;split at h
 .rename_i xs y
  obtain⟨w',rfl,r1⟩:=cr r;obtain⟨a,us,rfl,sq,k⟩:=RV.tup_.1 R;obtain⟨⟨S,p,hd⟩,h⟩:=h;obtain⟨j,T,q⟩:=aS h;intro a_ s ρ v' Ot I U W;cases U;obtain⟨Y,rfl,Z⟩:=vals1 W;obtain⟨d_,B,tl,hz⟩:=I.tuple sq;obtain⟨⟨cls,dd,data,sl⟩,ho,hc,n,E⟩:=id tl;simp only at hc E;subst hc E;obtain⟨C,hp,PN⟩:=List.findIdx?_eq_some_iff_getElem.1 T;have G:d_.length=xs.length:=by rw[k.len,B.length]
  have item:∀m (hm:m<d_.toArray.size) (hx:m<xs.length),kz X.K H xs y d_.toArray[m]=aU xs[m] y:=by
   intro m hm hx;obtain⟨d,w,e,r2,r3⟩:=fL k B hm;have:d=xs[m]:=by rw[ZD hx] at e;exact(Yi e).symm
   subst this;exact jJ I p (List.getElem_mem hx) r2 r3
  refine call_meets PySem.F.slot_tuple_index ⟨_,ho,rfl⟩ PySem.F.entry_tuple_index (PySem.F.args_tuple_index_2 _ _) (tQ a d_.toArray n dd sl Y (kz X.K H xs y) j (by simpa [G] using C) ?_ ?_) ⟨ho,λu hu=>?_,?_⟩
  .rw[item j (by simpa [G] using C) C];exact hp
  .intro m hm F_
   rw[item m hm 'a']
   have:=PN m F_
   simpa using this
  .obtain⟨d,w,h1,J,L⟩:=mK k B (by simpa using hu)
   rw[jJ I p h1 J L];obtain⟨i,hi⟩:=XT h1
   have:=fV hi
   exact qz 30 d y I 'a' (by rw[units_in1];omega) (bZ p hi) S J r1 L Z
  .exact⟨.int (j:Int),H,I.tok _,⟨_,rfl⟩,aG (RV.int_.2 rfl) rm q⟩
 .exact Yh h
inductive Mt where
 |append | extend | pop | bits | index
 deriving DecidableEq
def qK:Mt->Str
 |.append=>"append"
 |.extend=>"extend"
 |.pop=>"pop"
 |.bits=>"bit_length"
 |.index=>"index"
def u7:Mt->Rc
 |.append=>.lst
 |.extend=>.lst
 |.pop=>.lst
 |.bits=>.int
 |.index=>.tup
def AR:Mt->oV
 |.append=>nY
 |.extend=>nZ
 |.pop=>yZ
 |.bits=>t9
 |.index=>qJ
def Gq(hu:X.A.units+40<cLine)(m:Mt){t:WA}(ho:aI X o to)(ha:eG X (e::es) t)(hb:bN o=true)(hs:aj e=true)(j:es.all aj=true)(hl:es.length<20)(k:(n_.endLine==pos.line)=true):
  aI X (.Call (.Attribute o (qK m) n_) (e::es) [] pos) (u4 (u7 m) (AR m) to t):=by
 cases m with
 |append=>exact mM (c:=.lst) PySem.F.plainAttrs_list PySem.F.slot_list_append PySem.F.type_list_append tq ho ha hb hs j hl k
 |extend=>exact mM (c:=.lst) PySem.F.plainAttrs_list PySem.F.slot_list_extend PySem.F.type_list_extend tu ho ha hb hs j hl k
 |pop=>exact mM (c:=.lst) PySem.F.plainAttrs_list PySem.F.slot_list_pop PySem.F.type_list_pop AQ ho ha hb hs j hl k
 |bits=>exact mM (c:=.int) PySem.F.plainAttrs_int PySem.F.slot_int_bit_length PySem.F.type_int_bit_length xL ho ha hb hs j hl k
 |index=>exact mM (c:=.tup) PySem.F.plainAttrs_tuple PySem.F.slot_tuple_index PySem.F.type_tuple_index (u6 hu) ho ha hb hs j hl k
def C7(hu:X.A.units+40<cLine)(m:Mt)(ho:aI X o to)(hb:bN o=true)(j:(n_.endLine==pos.line)=true):
  aI X (.Call (.Attribute o (qK m) n_) [] [] pos) (u4 (u7 m) (AR m) to mF):=by
 cases m with
 |append=>exact kB (c:=.lst) PySem.F.plainAttrs_list PySem.F.slot_list_append PySem.F.type_list_append tq ho hb j
 |extend=>exact kB (c:=.lst) PySem.F.plainAttrs_list PySem.F.slot_list_extend PySem.F.type_list_extend tu ho hb j
 |pop=>exact kB (c:=.lst) PySem.F.plainAttrs_list PySem.F.slot_list_pop PySem.F.type_list_pop AQ ho hb j
 |bits=>exact kB (c:=.int) PySem.F.plainAttrs_int PySem.F.slot_int_bit_length PySem.F.type_int_bit_length xL ho hb j
 |index=>exact kB (c:=.tup) PySem.F.plainAttrs_tuple PySem.F.slot_tuple_index PySem.F.type_tuple_index (u6 hu) ho hb j
end
section
variable {X:Cx}{H:Hp}{e a b c o i v:Expr}{es:Zg}{pos:Pos}
def C9(t:WE):WE:=λσ M Q=>t σ M λx M1=>intD x λi=>Q (.int (-i)) M1
def Gr(h:aI X a to):aI X (.UnaryOp .USub a pos) (C9 to):=by
 intro σ M ρ H Q rs rm q;refine bw (EL HI (a0 a)) ?_;show tW X a ρ H _;refine aH (h σ M ρ H _ rs rm q) λv H1 j=>?_
 obtain⟨k1,x,M1,r1,m1,q1⟩:=j;obtain⟨i,rfl,q1⟩:=nU q1;exact⟨i,RV.int_.1 r1,k1,.int (-i),M1,RV.int_.2 rfl,m1,q1⟩
def y7(t:WE):WE:=λσ M Q=>t σ M λx M1=>intD x λi=>Q (.int (-i-1)) M1
theorem bitNot_eq(i:Int):Builtin.bitNot i = -i-1:=by unfold Builtin.bitNot;omega
def Gs(h:aI X a to):aI X (.UnaryOp .Invert a pos) (y7 to):=by
 intro σ M ρ H Q rs rm q;refine bw (EL HJ (a0 a)) ?_;show tW X a ρ H _;refine aH (h σ M ρ H _ rs rm q) λv H1 j=>?_
 obtain⟨k1,x,M1,r1,m1,q1⟩:=j;obtain⟨i,rfl,q1⟩:=nU q1;exact⟨i,RV.int_.1 r1,k1,.int (-i-1),M1,RV.int_.2 (congrArg V.int (bitNot_eq i)),m1,q1⟩
def putD(kvs:Zz)(k:Key)(d:D):List (Key×D):=if(kvs.any λkv=>decide (kv.1=k))=true then kvs.map (λkv=>if kv.1=k then(kv.1,d) else kv) else kvs++[(k,d)]
def Da{j n:Type}{l:List (Key×j)}{m:List (Key×n)}(e:m.map (·.1)=l.map (·.1))(k:Key):(m.any λkv=>decide (kv.1=k))=l.any λkv=>decide (kv.1=k):=by
 have f:∀{p:Type}(l:List (Key×p)),(l.any λkv=>decide (kv.1=k))=(l.map (·.1)).any λq=>decide (q=k):=λl=>by rw[List.any_map];rfl
 rw[f,f,e]
theorem map_put{K:Za}{k:Key}{d:D}{v:V}(r:RV K H d v):∀{l:Zz}{m:List (Key×V)},m.map (·.1)=l.map (·.1)->af K H (l.map (·.2)) (m.map (·.2)) ->
  ((m.map λkv=>if kv.1=k then(kv.1,v) else kv).map (·.1)=(l.map λkv=>if kv.1=k then(kv.1,d) else kv).map (·.1))/\af K H ((l.map λkv=>if kv.1=k then(kv.1,d) else kv).map (·.2)) ((m.map λkv=>if kv.1=k then(kv.1,v) else kv).map (·.2))
 |[],[],_,_=>⟨rfl,.nil⟩
 |[],_::_,e,_=>by cases e
 |_::_,[],e,_=>by cases e
 |(k1,A)::l,(k2,B)::m,e,j=>by
  simp only[YK,List.cons.injEq] at e;obtain⟨n,p⟩:=e;subst n;simp only[YK] at j;rw[af] at j;obtain⟨v',C,z,r1,r2⟩:=j;cases z;obtain⟨q1,q2⟩:=map_put r (k:=k) p r2;by_cases q:k2=k
  .simp only[YK,if_pos q]
   exact⟨by rw[q1],.cons r q2⟩
  .simp only[YK,if_neg q]
   exact⟨by rw[q1],.cons r1 q2⟩
def IR{k:Key}{l:Zz}{m:List (Key×V)}(r:RV K H d x)(e:m.map (·.1)=l.map (·.1))(j:af K H (l.map (·.2)) (m.map (·.2))):(putK m k x).map (·.1)=(putD l k d).map (·.1)/\af K H ((putD l k d).map (·.2)) ((putK m k x).map (·.2)):=by
 unfold putK putD;rw[Da e k];split
 .exact map_put r e j
 .refine⟨by rw[ZL,ZL,e];rfl,?_⟩
  rw[ZL,ZL];exact af.of (ba j.p (.cons r .nil))
def Db(o i d:D)(M:MH)(Q:MH->Prop):Prop:=match o with
 |.ref a=>match M a with
  |some (.lst xs)=>intD i λk=>bn (ku xs.length k) λj=>Q (ab M a (.lst (xs.set j d)))
  |some (.dic kvs)=>bn (pB i) λk=>kvs.length<sizeLine/\Q (ab M a (.dic (putD kvs k d)))
  |_=>False
 |_=>False
def pW(X:Cx):yk:=λo i v H Q=>∀a_ s ρ j iv u,ad X a_ ρ H s->RelV o j->RelV i iv->RelV v u->wpAny 'b' X.A (setItem j iv u) (λ_ k=>∃H',ad X a_ ρ H' k/\Q H') X.xe s
def IS:BP X (pW X):=λa_ s σ _ _ _ _ j iv u _ I r1 r2 r3 h=>h a_ s σ j iv u I r1 r2 r3
def sr{i v:V}{Q Q':Hp->Prop}(h:pW X x i v H Q)(g:∀H',Q H'->Q' H'):pW X x i v H Q':=λa_ s ρ j iv u I r1 r2 r3=>aL (h a_ s ρ j iv u I r1 r2 r3) λ_ _ ⟨H',k,q⟩=>⟨H',k,g H' q⟩
theorem Lr(hu:X.A.units+40<cLine){Q:D}{o i:V}(R:RV X.K H Q o)(F:RV X.K H y i)(G:RV X.K H d x)(rm:RM X.K M H)(h:Db Q y d M g):pW X o i x H λH'=>Kp H H'/\∃M',RM X.K M' H'/\g M':=by
 cases Q with
 |ref a=>
  cases RV.ref_.1 R;have h:match M a with
   |some (.lst xs)=>intD y λk=>bn (ku xs.length k) λj=>g (ab M a (.lst (xs.set j d)))
   |some (.dic kvs)=>bn (pB y) λk=>kvs.length<sizeLine/\g (ab M a (.dic (putD kvs k d)))
   |_=>False:=h
  split at h
  .rename_i xs B
   obtain⟨k,rfl,h⟩:=nU h;obtain⟨j,C,q⟩:=aS h;cases RV.int_.1 F;obtain⟨us,sq,n⟩:=rm _ _ B;have kk:=Kp.put (o':=.lst (us.set j x)) sq trivial;intro a_ s ρ J iv u I r1 r2 r3;exact set_list a_ s ρ H _ _ _ J iv u _ I r1 r2 r3 ⟨a,us,k,j,rfl,rfl,sq,by rw[←n.len];exact C,kk,_,rm.put (m:=.lst (xs.set j d)) sq trivial ⟨_,aA,af.of (uB (RV.mono kk _ G) j (af.mono kk _ n).p)⟩,q⟩
  .rename_i kvs B
   obtain⟨k,C,hl,q⟩:=aS h
   have:=xz C F
   subst this;obtain⟨E,sq,L,n⟩:=rm _ _ B;have kk:=Kp.put (o':=.dK (putK E k x)) sq trivial;obtain⟨p1,p2⟩:=IR (k:=k) (RV.mono kk _ G) L (af.mono kk _ n);have S:E.length<sizeLine:=by have:=congrArg List.length L;simp only[ZF] at this;omega
   intro a_ s ρ J iv u I r1 r2 r3;cases r1;exact Al 'a' I (.inl ⟨E,k,sq,rfl,S,rfl⟩) r2 r3 λU T=>⟨_,T,kk,_,rm.put (m:=.dic (putD kvs k d)) sq trivial ⟨_,aA,p1,p2⟩,q⟩
  .exact Yh h
 |_=>exact Yh h
def IT(h:d9 v=true):swapsWithSole [tg] v tk env=pure false:=uJ h
def u8(tv to ti:WE):WS:=λE σ M=>tv σ M λd M1=>to σ M1 λx M2=>ti σ M2 λy M3=>Db x y d M3 λj=>E.nx σ j
def AS(hu:X.A.units+40<cLine)(hv:aI X v tv)(ho:aI X o to)(hi:aI X i ti)(hs:cq i=true):je X (.Assign [.Subscript o i n_] v pos) (u8 tv to ti):=by
 intro σ M ρ H E rs rm h;refine dj (um (a0 v) (ul (a0 o) (a0 i) IS (by intro w;cases i<;>first | rfl | exact absurd (show false=true from hs) YE)) (by cases v<;>rfl) (by cases v<;>rfl) rfl) ?_;rw[0];refine sr (Lr hu (RV.mono k3 x r2) r3 (RV.mono (k2.trans k3) d r1) m3 q3) λB k=>?_
 obtain⟨j,m,n,p⟩:=k;exact⟨k1.trans (k2.trans (k3.trans j)),σ,m,rs.mono (k1.trans (k2.trans (k3.trans j))),n,p⟩
abbrev WP:=DS->MH->(List (D×D)->MH->Prop)->Prop
def wPs:List (WE×WE)->WP
 |[],_,M,Q=>Q [] M
 |(tk,tv)::r,σ,M,Q=>tk σ M λx M1=>tv σ M1 λy M2=>wPs r σ M2 λps M3=>Q ((x,y)::ps) M3
inductive E1 (X:Cx):List (Option Expr)->List Expr->List (WE×WE)->Prop where
 |nil:E1 X [] [] []
 |cons {k v:Expr}{ks:List (Option Expr)}{vs:Zg}{tk tv:WE}{r:List (WE×WE)}:aI X k tk->aI X v tv->E1 X ks vs r->E1 X (some k::ks) (v::vs) ((tk,tv)::r)
def E2:List (D×D)->Option (List (Key×D))
 |[]=>some []
 |(k,d)::r=>(pB k).bind λq=>(E2 r).map ((q,d) :: ·)
def IU(kvs:Zz)(more:Zz):List (Key×D):=more.foldl (λe_ kv=>putD e_ kv.1 kv.2) kvs
def Kl(ts:List (WE×WE)):WE:=λσ M Q=>∀p,M p=none->wPs ts σ (ab M p (.dic [])) λds M2=>match M2 p with
 |some (.dic [])=>bn (E2 ds) λkvs=>Q (.ref p) (ab M2 p (.dic (IU [] kvs)))
 |_=>False
def Dc:aI X (.Dict [] [] pos) (λ_ M Q=>∀p,M p=none->Q (.ref p) (ab M p (.dic []))):=by
 intro σ M ρ H Q rs rm q;refine bw Cg ?_;intro p hp;exact⟨Kp.new hp,.ref p,_,RV.ref_.2 rfl,rm.new (m:=.dic []) hp ⟨[],aA,rfl,.nil⟩,q p (rm.fresh hp)⟩
end
def IV(k:Int):Value->Bool
 |.int i _=>decide (i=k)
 |.bool b=>decide (b2i b=k)
 |_=>false
def ge{k:Int}(h:IV k u=true):(∃t,u=.int k t) \/ ∃b,u=.bool b/\b2i b=k:=by
 cases u with
 |int i t=>exact .inl ⟨t,by rw[show i=k from XN h]⟩
 |bool b=>exact .inr ⟨b,rfl,XN h⟩
 |_=>cases h
def wC{A:Around}{prog:Int->Shared->Prop}(h:prog (hashInt (b2i b)) { s with toks:=s.toks+1 }):
  wpAny (model P w) A (PySem.pyHash (.bool b)) prog Q s:=by
 have a:s.TypeIs (.bool b) "bool":=rfl;have j:=rawHash_range (b2i b);unfold PySem.pyHash;have hv:[Value.bool b].any Value.onHeap=false:=rfl;refine Yb ?_;rw[cRoomFor,if_neg (by rw[hv];exact YE)];refine Yc ?_;refine Yb (wpAny_specialOf a F.slot_bool_hash.lookup ?_);show wpAny _ _ (if(some (Value.builtin "int.__hash__")==some Value.none)=true then _ else _) prog Q s;rw[if_neg (by rw[beq_builtin_none];exact YE)];refine Yb (wpAny_specialOf a F.slot_bool_hash.lookup ?_);show wpAny _ _ (callSpecialIfBoundUnlessNone? (.bool b) "__hash__" _ >>= _) prog Q s;refine Yb (wpAny_callSpecialIfBoundUnlessNone?_slot a F.slot_bool_hash
  (wpAny_call_entry F.slot_bool_hash a entry_int_hash
   (show wpAny _ _ (do ret (←mkInt (rawHash (b2i b)))) _ _ s from wpAny_ret_mkInt ?_) (args_int_hash _)))
 show wpAny _ _ (if(decide (-(2:Int) ^ 63<=rawHash (b2i b))&&decide (rawHash (b2i b)<2 ^ 63))=true then _ else _) prog Q _;rw[if_pos (by rw[YU j.1,YU j.2];rfl)];exact Yc h
def dM(prog:Zv)(w:World):PySem.KeyKind prog w Int where
 is:=IV
 hash:=hashInt
 inj:=λv a b ha hb=>by
  cases v with
  |int i t=>exact(XN ha).symm.trans (XN hb)
  |bool c=>exact(XN ha).symm.trans (XN hb)
  |_=>cases ha
 byValue:=λk v h=>by
  rcases ge h with⟨t,rfl⟩ | ⟨b,rfl,_⟩<;>rfl
 pyHash:=λhv h=>by
  rcases ge hv with⟨t,rfl⟩ | ⟨b,rfl,rfl⟩
  .exact wpAny_pyHash_int h
  .exact wC h
 eqBool:=λ{A E s a b u v Q} hu hv h=>by
  rcases ge hu with⟨t,rfl⟩ | ⟨x,rfl,rfl⟩
  .rcases ge hv with⟨t',rfl⟩ | ⟨y,rfl,rfl⟩
   .exact wpAny_eqBool_int h
   .exact SeqAt.EqAt.int_bool a t y _ _ _ _ h
  .rcases ge hv with⟨t',rfl⟩ | ⟨y,rfl,rfl⟩
   .exact SeqAt.EqAt.bool_int x b t' _ _ _ _ h
   .refine SeqAt.EqAt.bool_bool x y _ _ _ _ ?_
    rw[show(x==y)=decide (b2i x=b2i y) by cases x<;>cases y<;>rfl];exact h
 «strs»:=λk x t v h=>by cases h
def u9{j a:Type}{F:j->a->Prop}{l:List j}{m:List a}(h:Paired F l m){y:a}(hy:y∈m):∃x∈l,F x y:=by
 induction h with
 |nil=>cases hy
 |cons q _ k=>
  rcases ZZ.1 hy with rfl | hy
  .exact⟨_,ZX,q⟩
  .obtain⟨x,h1,n⟩:=k hy
   exact⟨x,ZY _ h1,n⟩
section
variable {X:Cx}{H:Hp}{a_:Zc}{σ:L2.St}{s:Shared}
def va{x:Int}{y:Bool}(I:ad X a_ σ H s)(sq:bf X.K H t [.int x,.bl y]):(tupleKind (dM X.prog X.w)).is s.heap [x,b2i y] t:=by
 obtain⟨d_,a,ht,_⟩:=I.tuple sq;obtain⟨o,h1,j,n,k⟩:=ht;refine⟨o,d_.toArray,n,h1,j,k,?_⟩;cases a with
 |cons r1 m=>cases m with
  |cons r2 p=>cases p with
   |nil=>
    obtain⟨b,rfl⟩:=r1;cases r2;exact .cons (YU rfl) (.cons (YU rfl) .nil)
def IW{ks:List (Int×Bool)}{xs:List (List Int×Addr×Value)}(I:ad X a_ σ H s)(e:H t=some (gI t xs))(r:Paired (jb X.K H) ks xs)(nd:ks.Nodup):
  s.heap.DictOfH (tupleKind (dM X.prog X.w)) t xs:=by
 obtain⟨⟨o,es,n,h1,j,p,A⟩,_⟩:=(show aT X.prog X.w H s.heap t (gI t xs) from I.hok t _ e);have all:∀{ks:List (Int×Bool)}{xs:List (List Int×Addr×Value)},Paired (jb X.K H) ks xs->∀x∈xs,(tupleKind (dM X.prog X.w)).is s.heap x.1 x.2.1:=by
  intro ks xs r;induction r with
  |nil=>intro x hx;cases hx
  |cons q _ m=>
   intro x hx;rcases ZZ.1 hx with rfl | hx
   .rw[q.1];exact va I q.2.1
   .exact m x hx
 have B:∀{ks:List (Int×Bool)}{xs:List (List Int×Addr×Value)},Paired (jb X.K H) ks xs->ks.Nodup->(xs.map (·.1)).Nodup:=by
  intro ks xs r;induction r with
  |nil=>intro _;exact XW
  |@cons k x ks xs q a m=>
   intro nd;rw[YN] at nd;rw[YK,YN];refine⟨λhm=>nd.1 ?_,m nd.2⟩;obtain⟨J,C,e'⟩:=XX.1 hm;obtain⟨k',E,F⟩:=u9 a C;have:[k'.1,b2i k'.2]=[k.1,b2i k.2]:=by rw[←F.1,←q.1,e']
   simp only[List.cons.injEq,and_true] at this;have G:k'.2=k.2:=by
    have:=this.2
    cases h1:k'.2<;>cases j:k.2<;>first | rfl | (rw[h1,j] at this;exact absurd this 'c')
   rw[show k=k' from Prod.ext this.1.symm G.symm];exact E
 exact⟨o,es,n,h1,j,p,by rw[A];rfl,all r,B r nd⟩
def putP(ks:List (Int×Bool))(k:Int×Bool):List (Int×Bool):=if k∈ks then ks else ks++[k]
def lj{ks:List (Int×Bool)}(k:Int×Bool)(h:ks.Nodup):(putP ks k).Nodup:=by
 unfold putP;split
 .exact h
 .rename_i hk
  rw[XY];refine⟨h,by simp,λa ha b hb=>?_⟩;rw[XM.1 hb];exact λz=>hk (z▸ha)
theorem Dd(ks:List (Int×Bool))(k:Int×Bool):(putP ks k).length<=ks.length+1:=by
 unfold putP;split
 .omega
 .simp
def De{ks:List (Int×Bool)}{xs:List (List Int×Addr×Value)}(r:Paired (jb K H) ks xs)(k:Int×Bool):(atKey xs [k.1,b2i k.2]).isSome=decide (k∈ks):=by
 induction r with
 |nil=>rfl
 |@cons k' x ks xs q t a=>
  unfold atKey at a ⊢;rw[XB];by_cases e:k=k'
  .subst e
   rw[show decide (x.1=[k.1,b2i k.2])=true from YU q.1];simp
  .have j:x.1≠[k.1,b2i k.2]:=λz=>e (by
    rw[q.1] at z;simp only[List.cons.injEq,and_true] at z;refine Prod.ext z.1.symm ?_
    have:=z.2
    cases h1:k'.2<;>cases h2:k.2<;>first | rfl | (rw[h1,h2] at this;exact absurd this 'c'))
   rw[show decide (x.1=[k.1,b2i k.2])=false from ZP j];simp only[ZZ,e,false_or];exact a
def AT{ks:List (Int×Bool)}{xs:List (List Int×Addr×Value)}(r:Paired (jb K H) ks xs)(k:Int×Bool)(sq:bf K H t [.int k.1,.bl k.2]):
  Paired (jb K H) (putP ks k) (storedH xs [k.1,b2i k.2] t (.bool true)):=by
 unfold putP storedH;rw[De r k];by_cases h:k∈ks
 .rw[if_pos h,if_pos (YU h)]
  have same:∀{ks:List (Int×Bool)}{xs:List (List Int×Addr×Value)},Paired (jb K H) ks xs->xs.map (putAt [k.1,b2i k.2] (.bool true))=xs:=by
   intro ks xs r;induction r with
   |nil=>rfl
   |@cons k' x ks xs q b a=>
    rw[YK,a];congr 1;unfold putAt;split
    .obtain⟨m,n,j⟩:=x
     have:j=.bool true:=q.2.2
     rw[this]
    .rfl
  rw[same r];exact r
 .rw[if_neg h,if_neg (by rw[ZP h];exact YE)]
  exact ba r (.cons ⟨rfl,sq,rfl⟩ .nil)
def qL(o i d:D)(M:MH)(Q:MH->Prop):Prop:=match o,i,d with
 |.ref a,.tup [.int x,.bl y],.bl true=>match M a with
  |some (.dic [])=>Q (ab M a (.prs [(x,y)]))
  |some (.prs ks)=>ks.length<sizeLine/\Q (ab M a (.prs (putP ks (x,y))))
  |_=>False
 |_,_,_=>False
def tw{E:Addr}{x:Int}{xs:List (List Int×Addr×Value)}{A:Around}{y:Zo}(hu:A.units+1<cLine)(I:ad X a_ σ H s)(mu:uh (H t))(n:s.heap.DictOfH (tupleKind (dM X.prog X.w)) t xs)(hz:xs.length<=sizeLine)
  (sq:bf X.K H E [.int x,.bl b]) (h:∀j,ad X a_ σ (upd H t (gI t (storedH xs [x,b2i b] E (.bool true)))) j->y () j):wpAny 'b' A (setItem (.ref t) (.ref E) (.bool true)) y Q s:=by
 refine wpAny_setItem_heap (hsz:=hz) (tupleKind_room_in1 hu) (va I sq) n λh' p hs=>h _ ?_
 obtain⟨q,es,a,hq,m,B,C,_,J⟩:=p;refine nI I mu hs ⟨q,hq⟩ ⟨⟨q,es,a,hq,m,B,by rw[C];rfl⟩,⟨q,hq⟩,λh1 m z k=>?_⟩;obtain⟨o,es,a,F,G⟩:=z;exact⟨o,es,a,k o F,G⟩
end
section
variable {X:Cx}{H:Hp}{e a b c o i v:Expr}{es:Zg}{pos:Pos}
def qM{vs:List (Key×Value)}(e:vs=[])(d:h.DictOf (bt P w) t vs):h.DictOfH (tupleKind (dM P w)) t []:=by
 subst e;obtain⟨o,es,k,h1,m,n,_,j,_⟩:=d;have e:es.toList=[]:=by
  cases h:es.toList with
  |nil=>rfl
  |cons _ _=>rw[h] at j;exact nomatch j
 exact⟨o,es,k,h1,m,n,e,λx hx=>(nomatch hx),XW⟩
def Gu{v:Int}{y:Bool}(r:RV K H (.tup [.int v,.bl y]) x):∃b,x=.ref b/\bf K H b [.int v,.bl y]:=by
 obtain⟨b,xs,rfl,sq,j⟩:=RV.tup_.1 r;rw[af] at j;obtain⟨k,m,rfl,r1,j⟩:=j;rw[af] at j;obtain⟨n,p,rfl,r2,j⟩:=j;rw[af] at j;subst j;cases RV.int_.1 r1;cases RV.bl_.1 r2;exact⟨b,rfl,sq⟩
theorem Km(hu:X.A.units+40<cLine){Q:D}{i v:V}(C:RV X.K H Q x)(E:RV X.K H y i)(F:RV X.K H d v)(rm:RM X.K M H)(h:qL Q y d M g):pW X x i v H λH'=>Kp H H'/\∃M',RM X.K M' H'/\g M':=by
 unfold qL at h;split at h
 .rename_i a Q y
  cases RV.ref_.1 C;obtain⟨b,rfl,sq⟩:=Gu E;cases RV.bl_.1 F;split at h
  .rename_i n
   obtain⟨B,j,G,_⟩:=rm _ _ n;have hk:B=[]:=by cases B with
    |nil=>rfl
    |cons _ _=>cases G
   subst hk;intro a_ s ρ J iv u I r1 r2 r3;cases r1;cases r2;cases r3;obtain⟨z,hd,vs,L,R⟩:=t3 I.hok j;have hv:vs=[]:=by have:=L.length;exact XS this.symm
   have kk:=Kp.put (o':=gI a (storedH [] [Q,b2i y] b (.bool true))) j trivial;refine tw 'a' I (by rw[j];exact True.intro) (qM hv R) (YL _) sq λS p=>⟨_,p,kk,_,rm.put (m:=.prs [(Q,y)]) j trivial ⟨_,aA,?_,by simp,by show 1<=sizeLine;decide,hd⟩,h⟩
   exact .cons ⟨rfl,kk.sq sq,rfl⟩ .nil
  .rename_i ks n
   obtain⟨xs,j,r,nd,hz,hd⟩:=rm _ _ n;obtain⟨hl,q⟩:=h;intro a_ s ρ J iv u I r1 r2 r3;cases r1;cases r2;cases r3;have kk:=Kp.put (o':=gI a (storedH xs [Q,b2i y] b (.bool true))) j trivial;have T:=ik r;refine tw 'a' I (by rw[j];exact True.intro) (IW I j r nd) 'a' sq λS p=>⟨_,p,kk,_,rm.put (m:=.prs (putP ks (Q,y))) j trivial ⟨_,aA,?_,lj _ nd,?_,hd⟩,q⟩
   .exact AT (k:=(Q,y)) (fD (λk Q z=>⟨z.1,kk.sq z.2.1,z.2.2⟩) r) (kk.sq sq)
   .have:=Dd ks (Q,y);omega
  .exact Yh h
 .exact Yh h
def y8(tv to ti:WE):WS:=λE σ M=>tv σ M λd M1=>to σ M1 λx M2=>ti σ M2 λy M3=>qL x y d M3 λj=>E.nx σ j
def Df(hu:X.A.units+40<cLine)(hv:aI X v tv)(ho:aI X o to)(hi:aI X i ti)(hc:d9 v=true)(hs:cq i=true):je X (.Assign [.Subscript o i n_] v pos) (y8 tv to ti):=by
 intro σ M ρ H E rs rm h;refine dj (um (a0 v) (ul (a0 o) (a0 i) IS (by intro w;cases i<;>first | rfl | exact absurd (show false=true from hs) YE)) (IT hc) (by cases v<;>rfl) rfl) ?_;rw[0];refine sr (Km hu (RV.mono k3 x r2) r3 (RV.mono (k2.trans k3) d r1) m3 q3) λB k=>?_
 obtain⟨j,m,n,p⟩:=k;exact⟨k1.trans (k2.trans (k3.trans j)),σ,m,rs.mono (k1.trans (k2.trans (k3.trans j))),n,p⟩
end
def fM(kvs:List ((Int×Int)×D))(k:Int×Int):Option D:=(kvs.find? λx=>decide (x.1=k)).map (·.2)
def IX:D->Bool
 |.non=>true
 |.tup _=>true
 |_=>false
section
variable {X:Cx}{H:Hp}{a_:Zc}{σ:L2.St}{s:Shared}
def Gv(c:IX d=true)(r:RV K H d v)(q:RelV v u):j9 K H d u:=by
 cases d with
 |non=>cases RV.non_.1 r;cases q;exact .inl ⟨rfl,rfl⟩
 |tup ds=>
  obtain⟨b,xs,rfl,sq,a⟩:=RV.tup_.1 r;cases q;exact .inr ⟨b,rfl,r⟩
 |_=>cases c
def Gw(h:j9 K H d u):∃v,RV K H d v/\RelV v u:=by
 rcases h with⟨rfl,rfl⟩ | ⟨b,rfl,r⟩
 .exact⟨.non,RV.non_.2 rfl,rfl⟩
 .exact⟨.ref b,r,rfl⟩
def gK{x y:Int}(I:ad X a_ σ H s)(sq:bf X.K H t [.int x,.int y]):(tupleKind (dM X.prog X.w)).is s.heap [x,y] t:=by
 obtain⟨d_,a,ht,_⟩:=I.tuple sq;obtain⟨o,h1,j,n,k⟩:=ht;refine⟨o,d_.toArray,n,h1,j,k,?_⟩;cases a with
 |cons r1 m=>cases m with
  |cons r2 p=>cases p with
   |nil=>
    obtain⟨b,rfl⟩:=r1;obtain⟨t',rfl⟩:=r2;exact .cons (YU rfl) (.cons (YU rfl) .nil)
def Dg{kvs:List ((Int×Int)×D)}{xs:List (List Int×Addr×Value)}(r:Paired (uC K H) kvs xs):xs.map (·.1)=kvs.map λk=>[k.1.1,k.1.2]:=by
 induction r with
 |nil=>rfl
 |cons q _ a=>rw[YK,YK,a,q.1]
def mN{kvs:List ((Int×Int)×D)}{xs:List (List Int×Addr×Value)}(I:ad X a_ σ H s)(e:H t=some (gI t xs))(r:Paired (uC X.K H) kvs xs)(nd:(kvs.map (·.1)).Nodup):
  s.heap.DictOfH (tupleKind (dM X.prog X.w)) t xs:=by
 obtain⟨⟨o,es,a,h1,j,m,n⟩,_⟩:=(show aT X.prog X.w H s.heap t (gI t xs) from I.hok t _ e);refine⟨o,es,a,h1,j,m,by rw[n];rfl,λx hx=>?_,?_⟩
 .obtain⟨k,_,q⟩:=u9 r hx
  rw[q.1];exact gK I q.2.1
 .rw[Dg r,List.Nodup,XZ]
  rw[List.Nodup,XZ] at nd;refine nd.imp λh z=>h ?_
  simp only[List.cons.injEq,and_true] at z;exact Prod.ext z.1 z.2
def mO{kvs:List ((Int×Int)×D)}{xs:List (List Int×Addr×Value)}(r:Paired (uC K H) kvs xs)(k:Int×Int):
  (fM kvs k=none/\atKey xs [k.1,k.2]=none) \/ ∃d p,fM kvs k=some d/\atKey xs [k.1,k.2]=some p/\j9 K H d p.2:=by
 induction r with
 |nil=>exact .inl ⟨rfl,rfl⟩
 |@cons k' x ks xs q t a=>
  unfold atKey fM at a ⊢;rw[XB,XB];by_cases e:k'.1=k
  .subst e
   rw[show decide (x.1=[k'.1.1,k'.1.2])=true from YU q.1,YU rfl];exact .inr ⟨_,_,rfl,rfl,q.2.2⟩
  .have j:x.1≠[k.1,k.2]:=λz=>e (by
    rw[q.1] at z;simp only[List.cons.injEq,and_true] at z;exact Prod.ext z.1 z.2)
   rw[show decide (x.1=[k.1,k.2])=false from ZP j,ZP e];exact a
def ss{x y:Int}(r:RV K H (.tup [.int x,.int y]) v):∃b,v=.ref b/\bf K H b [.int x,.int y]:=by
 obtain⟨b,xs,rfl,sq,a⟩:=RV.tup_.1 r;obtain⟨j,k,rfl,q1,q2⟩:=uV a;cases RV.int_.1 q1;cases RV.int_.1 q2;exact⟨b,rfl,sq⟩
def n9(o i d:D)(M:MH)(Q:MH->Prop):Prop:=match o,i with
 |.ref a,.tup [.int x,.int y]=>IX d=true/\match M a with
  |some (.dic [])=>Q (ab M a (.cam [((x,y),d)]))
  |some (.cam kvs)=>(fM kvs (x,y)=none/\kvs.length<sizeLine)/\Q (ab M a (.cam (kvs++[((x,y),d)])))
  |_=>False
 |_,_=>False
def xM{j:D}(I:ad X a_ σ H s)(S:RV X.K H j x)(T:RV X.K H y i)(U:RV X.K H d v)(r1:RelV x v')(r2:RelV i iv)(r3:RelV v u)(rm:RM X.K M H)(h:n9 j y d M g):
  ∃(a b:Addr) (k:Zi) (xs:List (List Int×Addr×Value)),v'=.ref a/\iv=.ref b/\(tupleKind (dM X.prog X.w)).is s.heap k b/\s.heap.DictOfH (tupleKind (dM X.prog X.w)) a xs/\xs.length<=sizeLine /\
   ∀h' t',h'.DictOfH (tupleKind (dM X.prog X.w)) a (storedH xs k b u)->Heap.SameBut a s.heap h'->∃H',ad X a_ σ H' { s with heap:=h',toks:=t' }/\Kp H H'/\∃M',RM X.K M' H'/\g M':=by
 unfold n9 at h;split at h
 .rename_i a j y
  obtain⟨hc,h⟩:=h;cases RV.ref_.1 S;cases r1;obtain⟨b,rfl,sq⟩:=ss T;cases r2;have W:=Gv hc U r3;have put:∀{C:HO}{kvs:List ((Int×Int)×D)}{xs:List (List Int×Addr×Value)},H a=some C->yC C->uh (H a)->Paired (uC X.K H) kvs xs->(kvs.map (·.1)).Nodup->fM kvs (j,y)=none->kvs.length<sizeLine->(a==sysModules)=false->g (ab M a (.cam (kvs++[((j,y),d)]))) ->
    ∀h' t',h'.DictOfH (tupleKind (dM X.prog X.w)) a (storedH xs [j,y] b u)->Heap.SameBut a s.heap h'->∃H',ad X a_ σ H' { s with heap:=h',toks:=t' }/\Kp H H'/\∃M',RM X.K M' H'/\g M':=by
   intro C kvs xs n G mu r nd B hl hd q h' t' Y hs;have Z:atKey xs [j,y]=none:=by
    rcases mO r (j,y) with z | ⟨_,_,z,_⟩
    .exact z.2
    .rw[B] at z;cases z
   have kk:=Kp.put (o':=gI a (storedH xs [j,y] b u)) n G;obtain⟨E,es,F,hq,J,h3,h4,_,h5⟩:=Y;refine⟨_,nI (t':=t') (ob:=gI a (storedH xs [j,y] b u)) I mu hs ⟨E,hq⟩ ⟨⟨E,es,F,hq,J,h3,by rw[h4];rfl⟩,⟨E,hq⟩,λh1 J z k=>?_⟩,kk,_,rm.put (m:=.cam (kvs++[((j,y),d)])) n G ⟨_,aA,?_,?_,?_,hd⟩,q⟩
   .obtain⟨x,es,F,A,e2⟩:=z
    exact⟨x,es,F,k x A,e2⟩
   .rw[storedH_new Z] at kk ⊢
    exact ba (fD (λk j z=>⟨z.1,kk.sq z.2.1,j9.mono kk z.2.2⟩) r) (.cons ⟨rfl,kk.sq sq,j9.mono kk W⟩ .nil)
   .rw[ZL,XY]
    refine⟨nd,by simp,λp hp p' L e=>?_⟩;rw[YK,YY,XM] at L;subst L e;obtain⟨z,hz,ez⟩:=XX.1 hp;unfold fM at B;rw[Option.map_eq_none_iff,List.find?_eq_none] at B;exact B z hz (YU ez)
   .rw[ZK]
    exact hl
  split at h
  .rename_i A
   obtain⟨R,n,ek,_⟩:=rm _ _ A;have hk:R=[]:=by cases R with
    |nil=>rfl
    |cons _ _=>cases ek
   subst hk;obtain⟨z,hd,vs,x_,dd⟩:=t3 I.hok n;have hv:vs=[]:=by have:=x_.length;exact XS this.symm
   exact⟨a,b,[j,y],[],rfl,rfl,gK I sq,qM hv dd,YL _,put (kvs:=[]) n trivial (by rw[n];exact True.intro) .nil XW rfl 'c' hd h⟩
  .rename_i kvs A
   obtain⟨xs,n,r,nd,hz,hd⟩:=rm _ _ A;exact⟨a,b,[j,y],xs,rfl,rfl,gK I sq,mN I n r nd,by rw[←ik r];exact hz,put n trivial (by rw[n];exact True.intro) r nd h.1.1 h.1.2 hd h.2⟩
  .exact Yh h
 .exact Yh h
end
section
variable {X:Cx}{H:Hp}{e a b c o i v k:Expr}{es:Zg}{pos:Pos}
theorem Kn(hu:X.A.units+40<cLine){o i v:V}(j:RV X.K H d' o)(m:RV X.K H y i)(n:RV X.K H d v)(rm:RM X.K M H)(h:n9 d' y d M g):pW X o i v H λH'=>Kp H H'/\∃M',RM X.K M' H'/\g M':=by
 intro a_ s ρ F iv u I r1 r2 r3;obtain⟨a,b,k,xs,rfl,rfl,h1,p,B,C⟩:=xM I j m n r1 r2 r3 rm h;exact wpAny_setItem_heap (hsz:=B) (tupleKind_room_in1 'a') h1 p λh' E hs=>C h' _ E hs
def y9(tv to ti:WE):WS:=λE σ M=>tv σ M λd M1=>to σ M1 λx M2=>ti σ M2 λy M3=>n9 x y d M3 λj=>E.nx σ j
def Dh(hu:X.A.units+40<cLine)(hv:aI X v tv)(ho:aI X o to)(hi:aI X i ti)(hc:d9 v=true)(hs:cq i=true):je X (.Assign [.Subscript o i n_] v pos) (y9 tv to ti):=by
 intro σ M ρ H E rs rm h;refine dj (um (a0 v) (ul (a0 o) (a0 i) IS (by intro w;cases i<;>first | rfl | exact absurd (show false=true from hs) YE)) (IT hc) (by cases v<;>rfl) rfl) ?_;rw[0];refine sr (Kn hu (RV.mono k3 x r2) r3 (RV.mono (k2.trans k3) d r1) m3 q3) λC m=>?_
 obtain⟨j,n,p,B⟩:=m;exact⟨k1.trans (k2.trans (k3.trans j)),σ,n,rs.mono (k1.trans (k2.trans (k3.trans j))),p,B⟩
def Di(tk tv:WE):WE:=λσ M Q=>∀p,M p=none->tk σ (ab M p (.dic [])) λx M1=>tv σ M1 λy M2=>n9 (.ref p) x y M2 λM3=>Q (.ref p) M3
theorem Gx(hu:X.A.units+40<cLine)(hk:aI X k to)(hv:aI X v tv):aI X (.Dict [some k] [v] pos) (Di to tv):=by
 intro σ M ρ H Q rs rm h a_ s I;have hn:=I.hok.fresh (YF s.heap.objs.size);have n:=I.laid (a:=s.heap.objs.size) (o:=.dK []) (h':=s.heap.push { cls:=.type "dict",data:=.dict #[] }) (t':=s.toks) (λ_ _ q=>Yd _ q) (YF _) (uz s.heap I.big);have j:=Kp.new (o:=.dK []) hn;have p:=rm.new (m:=.dic []) hn ⟨[],aA,rfl,.nil⟩;refine wpAny_Dict_any rfl rfl (by simp) (by simp) (pairTrees_cons_walk (aL (hk σ _ ρ _ _ (rs.mono j) p (h _ (rm.fresh hn)) a_ _ n) λZ s1 B=>?_));obtain⟨v1,H1,C,q1,k1,x,M1,r1,m1,E⟩:=B;refine aL (hv σ M1 ρ H1 _ ((rs.mono j).mono k1) m1 E a_ _ C) λu2 s2 F=>?_
 obtain⟨v2,H2,G,q2,k2,y,M2,r2,m2,J⟩:=F;refine pairTrees_nil_walk ?_;obtain⟨a,b,k,xs,L,rfl,h1,R,S,T⟩:=xM G (RV.ref_.2 rfl:RV X.K H2 (.ref s.heap.objs.size) (.ref s.heap.objs.size)) (RV.mono k2 _ r1) r2 rfl q1 q2 m2 J;cases L;unfold storeAll;rw[List.forIn_cons];refine Yb (Yb (wpAny_dictSet_heap (hsz:=S) (show X.A.units<cLine by omega) h1 R λh' U hs=>Yc ?_));show wpAny _ _ (forIn [] _ _) _ _ _;rw[List.forIn_nil];obtain⟨H3,W,k3,M3,m3,Y⟩:=T h' _ U hs;exact Yc ⟨.ref _,H3,W,rfl,j.trans (k1.trans (k2.trans k3)),.ref _,M3,RV.ref_.2 rfl,m3,Y⟩
def vb:kx:=λx y M Q=>match x,y with
 |.ref a,.tup [.int i,.int j]=>match M a with
  |some (.cam kvs)=>bn (fM kvs (i,j)) λd=>Q d M
  |_=>False
 |_,_=>False
theorem Ls(hu:X.A.units+40<cLine){v u:V}{Q:DK}(E:RV X.K H d v)(F:RV X.K H y u)(rm:RM X.K M H)(h:vb d y M Q):xW X v u H (lift X.K H Q):=by
 unfold vb at h;split at h
 .rename_i a d y
  split at h
  .rename_i kvs G
   obtain⟨x,j,q⟩:=aS h;obtain⟨xs,B,r,nd,hz,hd⟩:=rm _ _ G;cases RV.ref_.1 E;obtain⟨b,rfl,sq⟩:=ss F;intro m n a_ s ρ v u I r1 r2 hs;cases r1;cases r2;obtain⟨d',p,C,J,L⟩:=(mO r (d,y)).resolve_left λz=>by rw[z.1] at j;cases j
   rw[j] at C;cases C;obtain⟨w',R,S⟩:=Gw L;refine tail_any (ops:=[.ref a,.ref b]) (mN I B r nd).typeIs slot_dict_getitem.lookup ?_ hs;exact wpAny_getItem_heap (tupleKind_room_in1 'a') (gK I sq) (mN I B r nd) J ⟨w',H,I.tok _,S,aG R rm q⟩
  .exact Yh h
 .exact Yh h
def Gy(hu:X.A.units+40<cLine)(ha:aI X a to)(hb:aI X b tv)(hs:cq b=true):aI X (.Subscript a b pos) (jI vb to tv):=by
 intro σ M ρ H Q rs rm h;refine bw (EN IE (a0 a) (a0 b) (xE hs)) ?_;show tW X a ρ H _;refine aH (two ha hb rs rm h) λv H1 q1=>?_
 show tW X b ρ H1 _;refine aH q1 λu H2 Ml=>?_
 obtain⟨k,x,y,M2,r1,r2,m2,q⟩:=Ml;exact xC (Ls hu r1 r2 m2 q) λ_ _=>bR k
def zc(n:Bool):kx:=λx y M Q=>match y,x with
 |.ref a,.tup [.int i,.int j]=>match M a with
  |some (.cam kvs)=>Q (.bl (n != (fM kvs (i,j)).isSome)) M
  |_=>False
 |_,_=>False
theorem Gz(n:Bool)(hu:X.A.units+40<cLine):gB X (compareOp (bif n then .NotIn else .In)) (zc n):=by
 intro x y v u H M Q B C rm h a_ s ρ v' F I r1 r2;unfold zc at h;split at h
 .rename_i a x y
  split at h
  .rename_i kvs E
   obtain⟨xs,j,r,nd,hz,hd⟩:=rm _ _ E;cases RV.ref_.1 C;obtain⟨b,rfl,sq⟩:=ss B;cases r1;cases r2;have e:(fM kvs (x,y)).isSome=(atKey xs [x,y]).isSome:=by
    rcases mO r (x,y) with⟨m,p⟩ | ⟨_,_,m,p,_⟩<;>rw[m,p]<;>rfl
   rw[e] at h;cases n with
   |true=>exact wpAny_notIn_heap (tupleKind_room_in1 'a') (gK I sq) hd (mN I j r nd) ⟨.bl _,H,I.tok _,rfl,aG (RV.bl_.2 rfl) rm (by rw[Bool.true_bne] at h;exact h)⟩
   |false=>exact wpAny_in_heap (tupleKind_room_in1 'a') (gK I sq) hd (mN I j r nd) ⟨.bl _,H,I.tok _,rfl,aG (RV.bl_.2 rfl) rm (by rw[Bool.false_bne] at h;exact h)⟩
  .exact Yh h
 .exact Yh h
end
abbrev qN:=Addr->Str->Prop
theorem gX{K:Za}{H:Hp}{f:Str}:∀{fs:List (Str×D)}{a:List (Str×V)},a.map (·.1)=fs.map (·.1)->af K H (fs.map (·.2)) (a.map (·.2)) ->
  (fs.lookup f=none->a.lookup f=none)/\∀d,fs.lookup f=some d->∃v,a.lookup f=some v/\RV K H d v
 |[],[],_,_=>⟨λ_=>rfl,λ_ h=>nomatch h⟩
 |[],_::_,e,_=>by cases e
 |_::_,[],e,_=>by cases e
 |(k1,p)::fs,(k2,j)::a,e,r=>by
  simp only[YK,List.cons.injEq] at e;obtain⟨k,m⟩:=e;subst k;simp only[YK] at r;rw[af] at r;obtain⟨v,vs,z,r1,r2⟩:=r;cases z;obtain⟨h1,n⟩:=gX (f:=f) m r2;cases q:f==k2 with
  |true=>simp only[XG,q];exact⟨(λz=>nomatch z),λd z=>by cases z;exact⟨j,rfl,r1⟩⟩
  |false=>simp only[XG,q];exact⟨h1,n⟩
def fI(f:Str)(v:D):List (Str×D)->List (Str×D)
 |[]=>[(f,v)]
 |(g,x)::r=>if g=f then(g,v)::r else(g,x)::fI f v r
theorem xN{K:Za}{H:Hp}{f:Str}{d:D}{v:V}(j:RV K H d v):∀{fs:List (Str×D)}{a:List (Str×V)},a.map (·.1)=fs.map (·.1)->af K H (fs.map (·.2)) (a.map (·.2)) ->
  (cV f v a).map (·.1)=(fI f d fs).map (·.1)/\af K H ((fI f d fs).map (·.2)) ((cV f v a).map (·.2))
 |[],[],_,_=>⟨rfl,.cons j .nil⟩
 |[],_::_,e,_=>by cases e
 |_::_,[],e,_=>by cases e
 |(k1,p)::fs,(k2,A)::a,e,r=>by
  simp only[YK,List.cons.injEq] at e;obtain⟨m,k⟩:=e;subst m;simp only[YK] at r;rw[af] at r;obtain⟨w',vs,z,r1,r2⟩:=r;cases z;obtain⟨h1,n⟩:=xN (f:=f) j k r2;unfold cV fI;by_cases q:k2=f
  .rw[if_pos q,if_pos q];exact⟨by simp only[YK,k],.cons j r2⟩
  .rw[if_neg q,if_neg q];exact⟨by simp only[YK,h1],.cons r1 n⟩
section
variable {X:Cx}{H:Hp}{e a b c o i v:Expr}{es:Zg}{pos:Pos}
def Dj(O:qN)(x:D)(f:Str)(M:MH)(Q:D->Prop):Prop:=match x with
 |.ref a=>match M a with
  |some (.ins C fs)=>O C f/\bn (fs.lookup f) Q
  |_=>False
 |_=>False
def Dk(O:qN)(f:Str)(t:WE):WE:=λσ M Q=>t σ M λx M1=>Dj O x f M1 λd=>Q d M1
def GA(j:∀C f,O C f->fS X.K C/\cX X.K C f)(h:aI X o to)(hb:bN o=true):aI X (.Attribute o f pos) (Dk O f to):=by
 intro σ M ρ H Q rs rm q;refine bw (HM (a0 o) (nX hb)) ?_;show tW X o ρ H _;refine aH (h σ M ρ H _ rs rm q) λv H1 k=>?_
 obtain⟨k1,x,M1,r1,m1,q1⟩:=k;unfold Dj at q1;try dsimp only at q1
 split at q1
 .rename_i a
  split at q1
  .rename_i C fs m
   obtain⟨d,n,q2⟩:=aS q1.2;cases RV.ref_.1 r1;obtain⟨dx,p,sq,A,B⟩:=m1 _ _ m;obtain⟨E,F,r3⟩:=(gX A B).2 d n;exact⟨a,C,dx,p,E,rfl,sq,(j C f q1.1).1,(j C f q1.1).2,F,k1,d,M1,r3,m1,q2⟩
  .exact Yh q1
 .exact Yh q1
def zd(O:qN)(x:D)(f:Str)(d:D)(M:MH)(Q:MH->Prop):Prop:=match x with
 |.ref a=>match M a with
  |some (.ins C fs)=>(O C f/\fs.length<1000)/\Q (ab M a (.ins C (fI f d fs)))
  |_=>False
 |_=>False
def ze(O:qN)(f:Str)(to tv:WE):WS:=λE σ M=>tv σ M λd M1=>to σ M1 λx M2=>zd O x f d M2 λM3=>E.nx σ M3
theorem Dl(k:∀C f,O C f->fS X.K C/\cX X.K C f)(ho:aI X o to)(hv:aI X v tv):je X (.Assign [.Attribute o f n_] v pos) (ze O f to tv):=by
 intro σ M ρ H E rs rm q;refine dj (HN (a0 o) (a0 v) (by cases v<;>rfl)) ?_;show tW X v ρ H _;refine aH (hv σ M ρ H _ rs rm q) λu H1 p=>?_
 obtain⟨k1,d,M1,r1,m1,q1⟩:=p;show tW X o ρ H1 _;refine aH (ho σ M1 ρ H1 _ (rs.mono k1) m1 q1) λw' H2 MF=>?_
 obtain⟨k2,x,M2,r2,m2,q2⟩:=MF;unfold zd at q2;dsimp only at q2;split at q2
 .rename_i a
  split at q2
  .rename_i C fs A
   cases RV.ref_.1 r2;obtain⟨dx,j,sq,n,B⟩:=m2 _ _ A;have kk:=Kp.put (o':=.ins C dx (cV f u j)) sq trivial;obtain⟨p1,p2⟩:=xN (f:=f) (RV.mono (k2.trans kk) d r1) n (af.mono kk _ B);have hl:j.length<1000:=by have:=congrArg List.length n;simp only[ZF] at this;omega
   exact⟨a,C,dx,j,rfl,sq,(k C f q2.1.1).1,(k C f q2.1.1).2,hl,k1.trans (k2.trans kk),σ,_,rs.mono (k1.trans (k2.trans kk)),m2.put (m:=.ins C (fI f d fs)) sq trivial ⟨dx,_,aA,p1,p2⟩,q2.2⟩
  .exact Yh q2
 .exact Yh q2
def bW(C:Addr)(sp:aK):aK:=λds M Q=>∀x,M x=none->sp (.ref x::ds) (ab M x (.ins C [])) λd M2=>lh d=true/\Q (.ref x) M2
def KC(P:Zv)(w:World)(K:Za)(mg:Ze)(base:Heap)(k:Nat)(x:Str)(sp:aK):Prop:=
 ∃C f fd ps j,Mk K C f/\mg x=some (.ref C)/\Binds K fd ps []/\eM P w K mg base jG k f fd ps (ga K j)/\sp=bW C j
def Dm{t:WA}(F:KC X.prog X.w X.K X.mg X.base tk f r)(B:bK (tk+1) X.A)(E:Gl X f)(G:(f==("__debug__" : Str))=false)(hs:aj e=true)(I:es.all aj=true)(ha:eG X (e::es) t):
  aI X (.Call (.Name f n_) (e::es) [] pos) (fG r t):=by
 obtain⟨C,p,fd,ps,Y,M0,hm,hb,J,rfl⟩:=F;intro σ M ρ H Q rs rm q;refine bw (FG M0 J B E hm hb .nil t4 (k9 (e::es)) G (aY hs) (c8 I)) ?_;show jH X (e::es) ρ H _;refine da (ha σ M ρ H _ rs rm q) λvs H1 MG=>?_
 obtain⟨k1,ds,M1,r1,Z,m1,q1⟩:=MG;intro z dx hz j L;have R:=Kp.new (o:=.own z) j;have k:(upd H1 dx (.own z)) z=none:=by rw[aM L.symm];exact hz
 have S:=Kp.new (o:=.ins C dx []) k;have kk:=R.trans S;rw[ZA];refine⟨.ref z::ds,ab M1 z (.ins C []),_,.cons (RV.ref_.2 rfl) (af.mono kk _ r1),(m1.newH j).new (m:=.ins C []) k ⟨dx,[],aA,rfl,.nil⟩,q1 z (m1.fresh hz),λd M' v H' n T U W=>⟨?_,k1.trans (kk.trans T),.ref z,M',RV.ref_.2 rfl,W,n.2⟩⟩
 have:=pE U
 rw[n.1] at this;exact XN this
abbrev tx:=Addr->Str->Option aK
def cI(P:Zv)(w:World)(K:Za)(mg:Ze)(base:Heap)(k:Nat)(C:Addr)(m:Str)(sp:aK):Prop:=
 ∃f fd ps,fS K C/\BZ K C m f/\Binds K fd ps []/\eM P w K mg base jG k f fd ps (ga K sp)
def zf(X:Cx)(T:tx):Prop:=∀C m sp,T C m=some sp->∃k,cI X.prog X.w X.K X.mg X.base k C m sp/\bK k X.A
def ua(x:D)(m:Str)(M:MH)(Q:Addr->Prop):Prop:=match x with
 |.ref a=>match M a with
  |some (.ins C fs)=>fs.lookup m=none/\Q C
  |_=>False
 |_=>False
def qO(T:tx)(m:Str)(to:WE)(t:WA):WE:=λσ M Q=>to σ M λx M1=>ua x m M1 λC=>bn (T C m) λsp=>t σ M1 λds M2=>sp (x::ds) M2 Q
theorem IY(h:es.all aj=true)(hl:es.length<20):methodCallForm (es.length+([]:List Keyword).length) (backTo n_ (starEach es env)) (backToKw n_ (keywordEach [] env))=true:=by
 unfold methodCallForm;rw[pF h];show(true&&true&&decide (es.length+0+0<30))=true;rw[Bool.and_self,Bool.true_and];exact YU 'a'
def E3    (hb:bN o = true) (h:es.all aj = true) (hl:es.length < 20) (k:(n_.endLine == pos.line) = true):eval (.Call (.Attribute o f n_) es [] pos) env = (do
   let j ← eval o env
   standAt n_.atName
   let (m,first) ← holding [j] (getMethod j f (do return (← importBound o env).getD true))
   callWith pos m first (backTo pos (starEach es env)) (backToKw pos (keywordEach [] env))):=by
 rw [arm_eval_Call,nX hb]
 unfold methodCall calleeOf methodCallPos
 rw [IY h hl]
 simp [k]
theorem Do{T:tx}{t:WA}(B:zf X T)(ho:aI X o to)(ha:eG X (e::es) t)(hb:bN o=true)(hs:aj e=true)(n:es.all aj=true)(hl:es.length<19)(E:(n_.endLine==pos.line)=true):
  aI X (.Call (.Attribute o f n_) (e::es) [] pos) (qO T f to t):=by
 intro σ M ρ H Q rs rm h a_ s I;have G:(e::es).all aj=true:=by rw[XO,hs,n];rfl
 refine PySem.W.methodCall_KW (aL (ho σ M ρ H _ rs rm h a_ s I) λu s1 Ml=>?_) (E3 hb G (by rw[YI];omega) E);obtain⟨v,H1,p,j,⟨k1,x,M1,r1,m1,q1⟩⟩:=Ml;unfold ua at q1;dsimp only at q1;split at q1
 .rename_i a
  split at q1
  .rename_i C fs J
   obtain⟨hn,q1⟩:=q1;obtain⟨sp,L,q1⟩:=aS q1;cases RV.ref_.1 r1;obtain rfl:u=Value.ref a:=j;obtain⟨dx,gs,sq,R,S⟩:=m1 _ _ J;obtain⟨k,⟨m,fd,ps,c,hm,U,F⟩,Y⟩:=B C f sp L
   .refine qc p sq c hm ((gX R S).1 hn) ?_
    refine PySem.W.callWith_K (first:=[.ref a]) (h₀:=X.base) I.ok.mod.kin hm.kp (aL (ha σ M1 ρ H1 _ (rs.mono k1) m1 q1 pos a_ s1 p) λus s2 Z=>?_) (aY hs) (c8 n);obtain⟨vs,H2,A,r,⟨k2,ds,M2,r2,l2,m2,q2⟩⟩:=Z;refine⟨A.kIn,?_⟩;refine ur (us:=.ref a::us) (vs:=.ref a::vs) F Y U .nil t4 A (.cons rfl r) ?_;rw[ZA];exact⟨.ref a::ds,M2,Q,.cons (RV.ref_.2 rfl) r2,m2,q2,λd M' v H' qd kq j mm=>⟨k1.trans (k2.trans kq),d,M',j,mm,qd⟩⟩
  .exact Yh q1
 .exact Yh q1
def AU{T:tx}(p:zf X T)(ho:aI X o to)(hb:bN o=true)(A:(n_.endLine==pos.line)=true):
  aI X (.Call (.Attribute o f n_) [] [] pos) (qO T f to mF):=by
 intro σ M ρ H Q rs rm h a_ s I;refine PySem.W.methodCall_KW (aL (ho σ M ρ H _ rs rm h a_ s I) λu s1 B=>?_) (E3 hb rfl 'c' A);obtain⟨v,H1,j,n,⟨k1,x,M1,r1,m1,q1⟩⟩:=B;unfold ua at q1;dsimp only at q1;split at q1
 .rename_i a
  split at q1
  .rename_i C fs E
   obtain⟨hn,q1⟩:=q1;obtain⟨sp,G,q1⟩:=aS q1;cases RV.ref_.1 r1;obtain rfl:u=Value.ref a:=n;obtain⟨dx,gs,sq,J,L⟩:=m1 _ _ E;obtain⟨k,⟨m,fd,ps,c,hm,R,F⟩,S⟩:=p C f sp G;refine qc j sq c hm ((gX J L).1 hn) ?_;refine PySem.W.callWith_K0 (first:=[.ref a]) j.kIn hm.kp (ur (us:=[.ref a]) (vs:=[.ref a]) F S R .nil t4 j (.cons rfl .nil) ?_);exact⟨[.ref a],M1,Q,.cons (RV.ref_.2 rfl) .nil,m1,q1,λd M' v H' U Y n Z=>⟨k1.trans Y,d,M',n,Z,U⟩⟩
  .exact Yh q1
 .exact Yh q1
end
section
variable {prog:Zv}{w:World}{A:Around}{E:Zb}{s:Shared}
def vc{i:Nat}{x:Value}(a:s.heap.IsTupleIter it t i)(ht:s.heap.IsTuple t c_)(hx:c_[i]?=some x)
  (j:∀h',h'.IsTupleIter it t (i+1)->Heap.SameBut it s.heap h'->Q x { s with heap:=h' }):wpAny 'e' A (Builtin.SmallTypes.nextOf (.ref it)) Q E s:=by
 obtain⟨o,ho,hc,hd⟩:=id a;obtain⟨n,k,_,p,m⟩:=ht;unfold Builtin.SmallTypes.nextOf;refine Yb (wpAny_callSpecial?_slot (name:=Str.ofString "__next__") a.typeIs F.slot_tuple_iterator_next (wpAny_call_entry F.slot_tuple_iterator_next a.typeIs F.entry_tuple_iterator_next ?_ (F.args_tuple_iterator_next_1 _)));show wpAny _ _ (field (.ref it) 0 >>= _) _ _ s;refine Yb (wpAny_field ho hd (x:=.ref t) rfl ?_);show wpAny _ _ (if(Value.ref t==Value.none)=true then _ else _) _ _ s;rw[if_neg (show ¬((Value.ref t==Value.none)=true) from YE)];show wpAny _ _ (field (.ref it) 1 >>= _) _ _ s;refine Yb (wpAny_field ho hd (x:=.int i 0) rfl ?_);show wpAny _ _ (seqItems? (.ref t) >>= _) _ _ s;refine Yb (wpAny_seqItems k m ?_);simp only[YV,hx];refine Yb (wpAny_setField ho hd (by simp) (Yc ⟨x,rfl,Yc (j _ ⟨_,Heap.get?_update_self _ ho (Obj.isFreed_of_fields (Obj.data_mapFields hd _)),(Obj.cls_mapFields ..).trans hc,?_⟩ (Heap.SameBut.update ..))⟩));rw[Obj.data_mapFields hd];simp[rawInt]
def pG{i:Nat}(k:A.handled=none)(j:s.heap.IsTupleIter it t i)(ht:s.heap.IsTuple t c_)(hx:c_[i]?=none)
  (n:∀h' e,Heap.ExtBut it s.heap h'->(∃o,h'.get? e=some o/\o.cls=.type "StopIteration")->E (.ref e) { s with heap:=h' }):wpAny 'e' A (Builtin.SmallTypes.nextOf (.ref it)) Q E s:=by
 obtain⟨o,ho,hc,hd⟩:=id j;obtain⟨C,p,_,G,B⟩:=ht;unfold Builtin.SmallTypes.nextOf;refine Yb (wpAny_callSpecial?_slot (name:=Str.ofString "__next__") j.typeIs F.slot_tuple_iterator_next (wpAny_call_entry F.slot_tuple_iterator_next j.typeIs F.entry_tuple_iterator_next ?_ (F.args_tuple_iterator_next_1 _)));show wpAny _ _ (field (.ref it) 0 >>= _) _ _ s;refine Yb (wpAny_field ho hd (x:=.ref t) rfl ?_);show wpAny _ _ (if(Value.ref t==Value.none)=true then _ else _) _ _ s;rw[if_neg (show ¬((Value.ref t==Value.none)=true) from YE)];show wpAny _ _ (field (.ref it) 1 >>= _) _ _ s;refine Yb (wpAny_field ho hd (x:=.int i 0) rfl ?_);show wpAny _ _ (seqItems? (.ref t) >>= _) _ _ s;refine Yb (wpAny_seqItems p B ?_);simp only[YV,hx];refine Yb (wpAny_rule (Yb (wpAny_setField ho hd (by simp) ?_)));show wpAny _ _ (newExc (.type "StopIteration") [] >>= _) _ _ _;refine Yb ?_;simp only[newExc,newTuple];refine Yb (wpAny_newObj_type ?_ (by size_fits));refine Yb (m:=firstArgMember _ _) (wpAny_of_eq (a:=Value.none) (by first | rfl | (simp only[firstArgMember];rfl)) (wpAny_newObj_type ?_ (by size_fits)));simp only[raiseNew];refine Yb (wpAny_handled ?_);first | rw[show A.in1.handled=none from k] | rw[k]
 refine Yb (Yc (wpAny_throw (n _ _ (((Heap.SameBut.update ..).extBut.push _).push _) ⟨_,Yg _ rfl,rfl⟩)))
def oX(j:A.handled=none)(it t:Addr)(k:t≠it)(c_:Zl):Draws prog w A it [it,t] c_.size (λi v=>c_[i]?=some v) (λi h=>h.IsTupleIter it t i/\h.IsTuple t c_) where
 live:=λ_ _ st=>let⟨o,ho,_⟩:=st.1;⟨o,ho⟩
 frame:=λ_ _ _ st hk=>⟨st.1.at λo e=>hk it (by simp) o e,let⟨o,ho,r⟩:=st.2;⟨o,hk t (by simp) o ho,r⟩⟩
 item:=λi s Q E hi st m=>vc st.1 st.2 (x:=c_[i]) (by simp[hi]) λh' n a=>m _ h' s.toks (by simp[hi]) ⟨n,st.2.extBut a.extBut k⟩ a
 done:=λs Q E st p=>pG j st.1 st.2 (by simp) p
def AV(l:Addr)(c_:Zl)(n:Nat)(j:Zm)(sl:Zn):
  Meets (Builtin.«enumerate.__new__» ⟨[.type "enumerate",.ref l],[]⟩) (λ_ R s=>s.heap.get? l=some { cls:=.type "tuple",dict:=j,data:=.seq c_ n,slots:=sl } /\
   R (.ok (.ret (.ref (s.heap.push { cls:=.type "tuple_iterator",data:=.fields #[.ref l,.int 0 0] }).objs.size)))
    { s with heap:=(s.heap.push { cls:=.type "tuple_iterator",data:=.fields #[.ref l,.int 0 0] }).push { cls:=.type "enumerate",data:=.fields #[.none,.bool false,.ref s.heap.objs.size,rawInt 0,.none,.none] } }):=by
 refine .of_wp λprog w A R s h=>?_
 obtain⟨hp,g,d,tk,os⟩:=s;obtain⟨hl,h⟩:=h;have k:=sub_enumerate;have a:Heap.IsTuple (Shared.heap ⟨hp,g,d,tk,os⟩) l c_:=⟨_,hl,rfl,n,rfl⟩;wp_walk using AutoSeq1.wpAny_loadPart' hl;refine wpAny_stack_any λst=>Yc ?_
 split
 .rename_i c _ _ _ _ _
  cases(c==Value.type "enumerate")<;>(wp_walk using AutoSeq1.wpAny_loadPart' hl,wpAny_pyIter_tuple a;exact⟨_,rfl,h⟩)
 .wp_walk using AutoSeq1.wpAny_loadPart' hl,wpAny_pyIter_tuple a
  exact⟨_,rfl,h⟩
def zg(j:s.heap.IsTuple t c_)
  (h:∀h',IsEnum h' (s.heap.objs.size+1) s.heap.objs.size 0 .none->h'.IsTupleIter s.heap.objs.size t 0->(∀b o,s.heap.get? b=some o->h'.get? b=some o)->Q (.ref (s.heap.objs.size+1)) { s with heap:=h' }):
  wpAny 'e' A (call (.type "enumerate") [.ref t]) Q E s:=by
 obtain⟨⟨c,k,m,sl⟩,hl,hc,n,hd⟩:=j;obtain rfl:c=.type "tuple":=hc;obtain rfl:m=.seq c_ n:=hd;refine callType_new F.called_enumerate 'c' (F.typeCall_enumerate_1 _) (F.newCall_enumerate_1 _) (λobj=>F.args_object_init_2 obj _) F.entry_enumerate_new (AV t c_ n k sl) ⟨hl,?_⟩;have hz:(s.heap.push { cls:=.type "tuple_iterator",data:=.fields #[.ref t,.int 0 0] }).objs.size=s.heap.objs.size+1:=Heap.size_push ..;show _/\_;rw[hz];have a:=Yg (s.heap.push { cls:=.type "tuple_iterator",data:=.fields #[.ref t,.int 0 0] }) (o:={ cls:=.type "enumerate",data:=.fields #[.none,.bool false,.ref s.heap.objs.size,rawInt 0,.none,.none] }) rfl;rw[hz] at a;exact⟨⟨_,a,rfl⟩,h _ a ⟨_,Yd _ (Yg _ rfl),rfl,rfl⟩ λb o x=>Yd _ (Yd _ x)⟩
end
section
variable {X:Cx}{a_:Zc}{σ:L2.St}{H:Hp}{s:Shared}{h':Heap}
def E4{fs:Zh}(k:∀b o,b∉ch->h.get? b=some o->h'.get? b=some o):Un fs ch H H h h' where
 keep:=λb o e _ _ hc=>k b o hc e
 slot:=λb o e _ _ hc=>⟨o.slots,k b o hc e⟩
 free:=λ_ _ _ n _=>n
 there:=λb o e hc=>⟨o,k b o hc e⟩
 tups:=λ_ _ e=>e
 frzs:=λ_ _ _ e=>e
 tbls:=λb ps e=>⟨#[],by rw[e];simp⟩
def AW(ok:ca P w H h)(k:∀b o,b∉ch->h.get? b=some o->h'.get? b=some o)(hn:∀b∈ch,H b=none):ca P w H h':=λb u e=>by
 have a:∀c v,H c=some v->c∉ch:=λc v j z=>by rw[hn c z] at j;cases j
 refine(ok b u e).stay (λc v hc q=>k c v ?_ q) (λ_ q=>q) λ_ _ q=>q
 rcases hc with z | z
 .rw[z];exact a b u e
 .exact a c _ z
theorem ad.turnedT(I:ad X a_ σ H s)(k:∀b o,b∉ch->s.heap.get? b=some o->h'.get? b=some o)(hn:∀b∈ch,H b=none)
  (m:∀b∈ch,(b∈X.ex\/X.s₀.heap.objs.size<=b)/\b≠X.env.locals/\(∀x c,X.env.cells.lookup x=some c->c≠b)/\∀p∈X.pn++a_,p.1≠b) (j:s.heap.objs.size<=t) (r:ak vs d_) (hz:vs.length<=sizeLine) (ht:j7 h' t d_.toArray):
  ad X a_ σ (upd H t (.tup vs)) { s with heap:=h',toks:=tk }:=by
 have a:H t=none:=I.hok.fresh j;have n:=AW I.hok k hn;refine I.call (g':=s.gens) (d':=s.drawn) (t':=tk) (Un.track (E4 k) j a) (λb u e=>?_) I.bare m;by_cases hb:b=t
 .subst hb
  rw[aA] at e;cases e;exact⟨hz,d_,r,ht⟩
 .rw[aM hb] at e
  refine(n b u e).stay (λc v _ q=>q) (λc q=>?_) λc ys q=>?_
  .rw[aM (bc q a)];exact q
  .rw[aM (bc q a)];exact q
end
def IZ(K:Za)(a:Addr):It:=
 ⟨λi H=>∃xs x,aX K H a xs/\xs[i]?=some x,λi H x H'=>∃v p,(∀xs,aX K H a xs->xs[i]?=some v)/\H p=none/\H'=upd H p (.tup [.int (i:Int),v])/\x=.ref p,λi H=>∃xs,aX K H a xs/\xs.length<=i⟩
theorem AX(a e it:Addr)(R:e≠it):Turn P w K (.Tuple elts tk tp) (IZ K a) [e,it] e (λi h=>(∃j,IsEnum h e it i j)/\h.IsListIter it a i) where
 mem:=by simp
 obj:=λi h st b hb=>by
  obtain⟨⟨j,m⟩,⟨o,T,c,d⟩⟩:=st;have C:b=e\/b=it:=by simpa using hb
  rcases C with rfl | rfl
  .exact⟨_,m,λv z=>by cases z⟩
  .exact⟨o,T,λv z=>by rw[d] at z;cases z⟩
 keep:=λi h h' st k=>by
  obtain⟨⟨j,m⟩,A⟩:=st;exact⟨⟨j,k e (by simp) _ m⟩,A.at λo x=>k it (by simp) o x⟩
 item:=by
  intro X F hw G hc i a_ s σ H E I n st J;subst F hw G;obtain⟨xs,x,hq,hx⟩:=J;obtain⟨d_,L,p,hz⟩:=I.list hq;obtain⟨u,hu,U⟩:=L.get hx;obtain⟨⟨j,m⟩,A⟩:=st;have B:=n e (by simp);have fi:=n it (by simp);refine wpAny_pyNext_enum_item m A p.isList (x:=u) (by simpa using hu) R λh' ho W Y hsz hk=>⟨_,rfl,?_⟩
  have Z:H s.heap.objs.size=none:=I.hok.fresh (YF _);have I1:ad X a_ σ (upd H s.heap.objs.size (.tup [.int (i:Int),x])) { s with heap:=h',toks:=s.toks+1 }:=ad.turnedT (ch:=[e,it]) (d_:=[.int (i:Int) s.toks,u]) I
   (λb o hb q=>hk b o (λz=>hb (by simp[z])) (λz=>hb (by simp[z])) q)
   (λb hb=>(n b hb).1) (λb hb=>⟨(n b hb).2.2.2.1,(n b hb).2.1,(n b hb).2.2.2.2.1,(n b hb).2.2.2.2.2⟩) (YF _) (.cons ⟨_,rfl⟩ (.cons U .nil)) (by show 2<=sizeLine;decide) ⟨_,Y,rfl,_,rfl,rfl⟩
  have neT:∀b∈[e,it],b≠s.heap.objs.size:=λb hb z=>by
   have C:b=e\/b=it:=by simpa using hb
   rcases C with rfl | rfl
   .exact absurd (Ye m) (by rw[z];exact ZS _)
   .obtain⟨_,x1,_⟩:=A;exact absurd (Ye x1) (by rw[z];exact ZS _)
  refine wpAny_letOwnedTupleGo_enum (s:={ s with heap:=h',toks:=s.toks+1 }) ho λPm OV S=>?_
  have I2:=L2.ad.turned (h':=Pm) (t':=s.toks+1) (it:=e) I1 (λb o hb q=>(S.2 b hb).trans q) (by rw[aM (neT e (by simp))];exact B.1) B.2.1 B.2.2.2.1 B.2.2.2.2.1 B.2.2.2.2.2;refine⟨.ref s.heap.objs.size,_,I2,rfl,⟨x,s.heap.objs.size,λys hy=>by rw[I.list_inj hy hq];exact hx,Z,rfl,rfl⟩,⟨⟨u,by simpa using OV⟩,W.at λo q=>(S.2 it R.symm).trans q⟩,λb hb=>?_⟩;rw[aM (neT b hb)];exact(n b hb).1
 done:=by
  intro X F hw G hc i a_ s σ H E I n st J;subst F hw G;obtain⟨xs,hq,hx⟩:=J;obtain⟨d_,L,p,hz⟩:=I.list hq;obtain⟨⟨j,m⟩,A⟩:=st;obtain⟨f0,f1,f2,f3,f4,f5⟩:=n it (by simp);have hl:=L.length;exact wpAny_pyNext_enum_end (I.ok.hd hc) m A p.isList (by simp;omega) λh' eb=>⟨rfl,I.turned (t':=s.toks) (λb o hb q=>eb b o hb q) f0 f1 f3 f4 f5⟩
 self:=λ_ _ _ _ _ st h=>by
  obtain⟨⟨j,m⟩,_⟩:=st;exact wpAny_pyIter_enum m h
def Dp(K:Za)(a:Addr):It:=
 ⟨λi H=>∃xs x,bf K H a xs/\xs[i]?=some x,λi H x H'=>∃v p,(∀xs,bf K H a xs->xs[i]?=some v)/\H p=none/\H'=upd H p (.tup [.int (i:Int),v])/\x=.ref p,λi H=>∃xs,bf K H a xs/\xs.length=i⟩
def zh(a e it:Addr)(G:e≠it):Turn P w K (.Tuple elts tk tp) (Dp K a) [e,it] e (λi h=>(∃j,IsEnum h e it i j)/\h.IsTupleIter it a i) where
 mem:=by simp
 obj:=λi h st b hb=>by
  obtain⟨⟨j,m⟩,⟨o,eo,c,d⟩⟩:=st;have J:b=e\/b=it:=by simpa using hb
  rcases J with rfl | rfl
  .exact⟨_,m,λv z=>by cases z⟩
  .exact⟨o,eo,λv z=>by rw[d] at z;cases z⟩
 keep:=λi h h' st k=>by
  obtain⟨⟨j,m⟩,A⟩:=st;exact⟨⟨j,k e (by simp) _ m⟩,A.at λo x=>k it (by simp) o x⟩
 item:=by
  intro X L hw R hc i a_ s σ H E I n st S;subst L hw R;obtain⟨xs,x,hq,hx⟩:=S;obtain⟨d_,T,p,hz⟩:=I.tuple hq;obtain⟨u,hu,ru⟩:=T.get hx;obtain⟨⟨j,m⟩,A⟩:=st;have p:s.heap.IsTuple a d_.toArray:=p;have F:=n e (by simp);have fi:=n it (by simp);have U:a≠it:=λz=>by
   obtain⟨Z,B,C,_⟩:=p;obtain⟨o2,W,Y,_⟩:=A;rw[z,W] at B;cases B;rw[Y] at C;exact absurd C 'c'
  have VC:e≠a:=λz=>by
   obtain⟨Z,B,C,_⟩:=p;rw[←z,m] at B;cases B;exact absurd (show Value.type "enumerate" = Value.type "tuple" from C) 'c'
  have hi:i<d_.toArray.size:=by have:=(YC.1 hu).1;simpa using this
  refine wpAny_pyNext_enum_itemD (oX (by simp[I.ok.hd hc]) it a U d_.toArray) m ⟨A,p⟩ hi G (by simp;exact⟨G,VC⟩) λy h' kk hy ho j_ hT hsz hk=>⟨_,rfl,?_⟩
  have VD:y=u:=by
   have h1:d_[i]?=some y:=by simpa using hy
   rw[hu] at h1;cases h1;rfl
  subst VD;have Pl:H s.heap.objs.size=none:=I.hok.fresh (YF _);have I1:ad X a_ σ (upd H s.heap.objs.size (.tup [.int (i:Int),x])) { s with heap:=h',toks:=kk+1 }:=ad.turnedT (ch:=[e,it]) (d_:=[.int (i:Int) kk,y]) I
   (λb o hb q=>hk b o (λz=>hb (by simp[z])) (λz=>hb (by simp[z])) q)
   (λb hb=>(n b hb).1) (λb hb=>⟨(n b hb).2.2.2.1,(n b hb).2.1,(n b hb).2.2.2.2.1,(n b hb).2.2.2.2.2⟩) (YF _) (.cons ⟨_,rfl⟩ (.cons ru .nil)) (by show 2<=sizeLine;decide) ⟨_,hT,rfl,_,rfl,rfl⟩
  have neT:∀b∈[e,it],b≠s.heap.objs.size:=λb hb z=>by
   have J:b=e\/b=it:=by simpa using hb
   rcases J with rfl | rfl
   .exact absurd (Ye m) (by rw[z];exact ZS _)
   .obtain⟨_,x1,_⟩:=A;exact absurd (Ye x1) (by rw[z];exact ZS _)
  refine wpAny_letOwnedTupleGo_enum (s:={ s with heap:=h',toks:=kk+1 }) ho λPm OV L1=>?_
  have I2:=L2.ad.turned (h':=Pm) (t':=kk+1) (it:=e) I1 (λb o hb q=>(L1.2 b hb).trans q) (by rw[aM (neT e (by simp))];exact F.1) F.2.1 F.2.2.2.1 F.2.2.2.2.1 F.2.2.2.2.2;refine⟨.ref s.heap.objs.size,_,I2,rfl,⟨x,s.heap.objs.size,λys hy=>by rw[I.tuple_inj hy hq];exact hx,Pl,rfl,rfl⟩,⟨⟨y,by simpa using OV⟩,j_.1.at λo q=>(L1.2 it G.symm).trans q⟩,λb hb=>?_⟩;rw[aM (neT b hb)];exact(n b hb).1
 done:=by
  intro X L hw R hc i a_ s σ H E I n st S;subst L hw R;obtain⟨xs,hq,hx⟩:=S;obtain⟨d_,T,p,hz⟩:=I.tuple hq;have p:s.heap.IsTuple a d_.toArray:=p;obtain⟨⟨j,m⟩,A⟩:=st;obtain⟨f0,f1,f2,f3,f4,f5⟩:=n it (by simp);have U:a≠it:=λz=>by
   obtain⟨Z,B,C,_⟩:=p;obtain⟨o2,W,Y,_⟩:=A;rw[z,W] at B;cases B;rw[Y] at C;exact absurd C 'c'
  have hn:i=d_.toArray.size:=by rw[←hx,T.length];simp
  subst hn;exact wpAny_pyNext_enum_endD (oX (by simp[I.ok.hd hc]) it a U d_.toArray) m ⟨A,p⟩ λh' eb=>⟨rfl,I.turned (t':=s.toks) (λb o hb q=>eb b o hb q) f0 f1 f3 f4 f5⟩
 self:=λ_ _ _ _ _ st h=>by
  obtain⟨⟨j,m⟩,_⟩:=st;exact wpAny_pyIter_enum m h
def bx:Int->List D->List D
 |_,[]=>[]
 |n,d::r=>.tup [.int n,d]::bx (n+1) r
theorem dN:∀(n:Int) (ds:List D),(bx n ds).length=ds.length
 |_,[]=>rfl
 |n,d::r=>by rw[bx,YI,YI,dN]
theorem il:∀{n:Int}{ds:List D}{i:Nat}{x:D},(bx n ds)[i]?=some x->∃d,ds[i]?=some d/\x=.tup [.int (n+i),d]
 |_,[],_,_,h=>by cases h
 |n,d::r,0,x,h=>by
  rw[bx] at h;simp at h;exact⟨d,rfl,by rw[←h];simp⟩
 |n,d::r,i+1,x,h=>by
  rw[bx] at h;obtain⟨d',h1,a⟩:=il (n:=n+1) (ds:=r) (i:=i) (x:=x) (by simpa using h);refine⟨d',by simpa using h1,?_⟩;rw[a];congr 2;congr 1;omega
def vd(j:∀H M,RM K M H->g M->∃vs,aX K H t vs/\af K H ds vs):qy K (IZ K t) H0 (bx 0 ds) g:=by
 intro i H M _ rm q;obtain⟨vs,sq,a⟩:=j H M rm q;rw[dN];refine⟨λhi=>?_,λhi=>⟨vs,sq,by rw[←a.len];exact Nat.le_of_eq hi.symm⟩,λx H' d hd ⟨v,p,hv,hp,e,y⟩=>?_⟩
 .have:i<vs.length:=by rw[←a.len];exact hi
  exact⟨vs,vs[i],sq,ZD this⟩
 .subst e y
  obtain⟨d',h1,rfl⟩:=il hd;obtain⟨v',m,r⟩:=cF a.p h1
  have:=hv vs sq
  rw[m] at this;cases this;have k:=Kp.new (o:=.tup [.int (i:Int),v]) hp;refine⟨k,rm.newH hp,RV.tup_.2 ⟨p,_,rfl,bf.of aA,.cons (RV.int_.2 (by rw[Int.zero_add])) (.cons (RV.mono k _ r) .nil)⟩⟩
def AY(sq:bf K H0 t vs)(a:af K H0 ds vs):qy K (Dp K t) H0 (bx 0 ds) (λ_=>True):=by
 intro i H M k rm _;have sq:=k.sq sq;have a:=af.mono k _ a;rw[dN];refine⟨λhi=>?_,λhi=>⟨vs,sq,by rw[←a.len];exact hi.symm⟩,λx H' d hd ⟨v,p,hv,hp,e,y⟩=>?_⟩
 .have:i<vs.length:=by rw[←a.len];exact hi
  exact⟨vs,vs[i],sq,ZD this⟩
 .subst e y
  obtain⟨d',h1,rfl⟩:=il hd;obtain⟨v',j,r⟩:=cF a.p h1
  have:=hv vs sq
  rw[j] at this;cases this;have k:=Kp.new (o:=.tup [.int (i:Int),v]) hp;refine⟨k,rm.newH hp,RV.tup_.2 ⟨p,_,rfl,bf.of aA,.cons (RV.int_.2 (by rw[Int.zero_add])) (.cons (RV.mono k _ r) .nil)⟩⟩
def zi(t:WA):WI:=λσ M R=>t σ M λds M1=>match ds with
 |[.tup xs]=>R (bx 0 xs) (λ_=>True) M1
 |[.ref a]=>match M1 a with
  |some (.lst xs)=>R (bx 0 xs) (λM'=>M' a=some (.lst xs)) M1
  |some (.rol xs)=>R (bx 0 xs) (λM'=>M' a=some (.rol xs)) M1
  |_=>False
 |_=>False
section
variable {X:Cx}{H:Hp}{pos:Pos}
def xO{R:It->Hp->Prop}(I:ad X a_ ρ H s)(hq:aX X.K H t vs)(q:R (IZ X.K t) H):
  wpAny 'b' X.A (call (.type "enumerate") [.ref t]) (λv s1=>wpAny 'b' X.A (pyIter v) (sL X a_ ρ (.Tuple elts tk tp) R) X.xe s1) X.xe s:=by
 obtain⟨d_,n,p,hz⟩:=I.list hq;refine call_enumerate_list p.isList λh' a j hsz hk=>?_
 refine wpAny_pyIter_enum a ?_;have k:ad X a_ ρ H { s with heap:=h' }:=I.kept (t':=s.toks) hk;refine⟨s.heap.objs.size+1,[s.heap.objs.size+1,s.heap.objs.size],_,_,H,rfl,k,AX t _ _ (Nat.succ_ne_self _),⟨⟨.none,a⟩,j⟩,λb hb=>?_,q⟩;have m:b=s.heap.objs.size+1\/b=s.heap.objs.size:=by simpa using hb
 rcases m with rfl | rfl
 .exact I.fpOk (YM _) (I.hok.fresh (YM _))
 .exact I.fpOk (YF _) (I.hok.fresh (YF _))
def Dq{R:It->Hp->Prop}(I:ad X a_ ρ H s)(hq:bf X.K H t vs)(q:R (Dp X.K t) H):
  wpAny 'b' X.A (call (.type "enumerate") [.ref t]) (λv s1=>wpAny 'b' X.A (pyIter v) (sL X a_ ρ (.Tuple elts tk tp) R) X.xe s1) X.xe s:=by
 obtain⟨d_,n,p,hz⟩:=I.tuple hq;refine zg (show s.heap.IsTuple t d_.toArray from p) λh' a j hk=>?_
 refine wpAny_pyIter_enum a ?_;have k:ad X a_ ρ H { s with heap:=h' }:=I.kept (t':=s.toks) hk;refine⟨s.heap.objs.size+1,[s.heap.objs.size+1,s.heap.objs.size],_,_,H,rfl,k,zh t _ _ (Nat.succ_ne_self _),⟨⟨.none,a⟩,j⟩,λb hb=>?_,q⟩;have m:b=s.heap.objs.size+1\/b=s.heap.objs.size:=by simpa using hb
 rcases m with rfl | rfl
 .exact I.fpOk (YM _) (I.hok.fresh (YM _))
 .exact I.fpOk (YF _) (I.hok.fresh (YF _))
def Dr{t:WA}(E:Gl X "enumerate")(hm:X.mg "enumerate" = none)(h:eG X [l] t)(hs:aj l=true):tf X (.Tuple elts tk tp) (.Call (.Name "enumerate" n_) [l] [] pos) (zi t):=by
 intro σ M ρ H R rs rm q a_ s I;refine Call_ (cE I E hm (by rfl':bootBuiltins "enumerate" = some (.type "enumerate")) (PyProof.Rows.callWith_type1 (aL (h σ M ρ H _ rs rm q pos a_ s I) λus s1 F=>?_) (aY hs) rfl));obtain⟨vs,H1,k,C,⟨k1,ds,M1,r1,J,m1,q1⟩⟩:=F;try dsimp only at q1
 split at q1
 .rename_i L
  rw[af] at r1;obtain⟨v,G,rfl,r2,r3⟩:=r1;rw[af] at r3;subst r3;obtain⟨a,xs,rfl,sq,m⟩:=RV.tup_.1 r2;obtain⟨u,rfl,n⟩:=C.one;cases n;obtain⟨_,_,_,hz⟩:=k.tuple sq;exact Dq k sq ⟨k1,_,_,M1,m1,trivial,AY sq m,by rw[dN,m.len];exact hz,q1⟩
 .rename_i a
  rw[af] at r1;obtain⟨v,G,rfl,r2,r3⟩:=r1;rw[af] at r3;subst r3;cases RV.ref_.1 r2;obtain⟨u,rfl,n⟩:=C.one;cases n;split at q1
  .rename_i xs e
   obtain⟨ys,j,m⟩:=m1 a _ e;obtain⟨_,_,_,hz⟩:=k.list (aX.of j);refine xO k (aX.of j) ⟨k1,_,_,M1,m1,e,vd λH' M' p g'=>?_,by rw[dN,m.len];exact hz,q1⟩;obtain⟨A,e',B⟩:=p a _ g';exact⟨A,aX.of e',B⟩
  .rename_i xs e
   obtain⟨ys,j,m⟩:=m1 a _ e;have j:aX X.K H1 a ys:=.inl j;obtain⟨_,_,_,hz⟩:=k.list j;refine xO k j ⟨k1,_,_,M1,m1,e,vd λH' M' p g'=>?_,by rw[dN,m.len];exact hz,q1⟩;obtain⟨A,e',B⟩:=p a _ g';exact⟨A,.inl e',B⟩
  .exact Yh q1
 .exact Yh q1
end
theorem LJ(n a b:Nat)(j:a<n)(k:b<n):ZipApart (n+4) (n+2) (n+3) n (n+1) a b:=by
 constructor<;>(intro y;have m:@Eq Nat _ _:=y;omega)
section
variable {X:Cx}{a_:Zc}{σ:L2.St}{H:Hp}{s:Shared}{h':Heap}
theorem ad.turnedC(I:ad X a_ σ H s)(k:∀b o,b∉ch->s.heap.get? b=some o->h'.get? b=some o)(hn:∀b∈ch,H b=none)
  (a:∀b∈ch,(b∈X.ex\/X.s₀.heap.objs.size<=b)/\b≠X.env.locals/\(∀x c,X.env.cells.lookup x=some c->c≠b)/\∀p∈X.pn++a_,p.1≠b):ad X a_ σ H { s with heap:=h',toks:=tk }:=
 I.call (g':=s.gens) (d':=s.drawn) (t':=tk) (E4 k) (AW I.hok k hn) I.bare a
end
def KD(K:Za)(a b:Addr):It:=
 ⟨λi H=>∃xs ys x y,aX K H a xs/\aX K H b ys/\xs[i]?=some x/\ys[i]?=some y,λi H x H'=>∃u v p,(∀xs,aX K H a xs->xs[i]?=some u)/\(∀ys,aX K H b ys->ys[i]?=some v)/\H p=none/\H'=upd H p (.tup [u,v])/\x=.ref p,λi H=>∃xs ys,aX K H a xs/\aX K H b ys/\ys.length=i⟩
theorem AZ{kk:Nat}(z u o i j a b:Addr)(D:ZipApart z u o i j a b):Turn P w K (.Tuple elts kk tp) (KD K a b) [z,u,o,i,j] z (λk h=>IsZip h z u o .none/\IsPair h u (.ref i) (.ref j)/\(∃p q,IsPair h o p q)/\h.IsListIter i a k/\h.IsListIter j b k) where
 mem:=by simp
 obj:=λk h st c hc=>by
  obtain⟨hz,hu,⟨p,q,ho⟩,⟨r1,C,c1,d1⟩,⟨r2,F,c2,d2⟩⟩:=st;have G:c=z\/c=u\/c=o\/c=i\/c=j:=by simpa using hc
  rcases G with rfl | rfl | rfl | rfl | rfl
  .exact⟨_,hz,λv y=>by cases y⟩
  .exact⟨_,hu,λv y=>by cases y⟩
  .exact⟨_,ho,λv y=>by cases y⟩
  .exact⟨r1,C,λv y=>by rw[d1] at y;cases y⟩
  .exact⟨r2,F,λv y=>by rw[d2] at y;cases y⟩
 keep:=λk h h' st kp=>by
  obtain⟨hz,hu,⟨p,q,ho⟩,hi,A⟩:=st;exact⟨kp z (by simp) _ hz,kp u (by simp) _ hu,⟨p,q,kp o (by simp) _ ho⟩,hi.at λr x=>kp i (by simp) r x,A.at λr x=>kp j (by simp) r x⟩
 item:=by
  intro X J hw L hc k a_ s σ H E I m st R;subst J hw L;obtain⟨xs,ys,x,y,ha,hb,hx,hy⟩:=R;obtain⟨ia,Y,S,za⟩:=I.list ha;obtain⟨ib,T,U,zb⟩:=I.list hb;obtain⟨Z,VE,VF⟩:=Y.get hx;obtain⟨uy,VG,VH⟩:=T.get hy;obtain⟨hz,hu,ho,hi,A⟩:=st;have B:=m z (by simp);obtain⟨p0,q0,W⟩:=id ho;refine wpAny_pyNext_zip_item D hz hu W hi A S.isList U.isList (x:=Z) (y:=uy) (by simpa using VE) (by simpa using VG) λh' z1 o1 i1 j1 hT _ hk=>⟨_,rfl,?_⟩
  have u1:=hk u _ D.TIz D.TITO D.TIi1 D.TIi2 hu;have Pl:H s.heap.objs.size=none:=I.hok.fresh (YF _);have I1:ad X a_ σ (upd H s.heap.objs.size (.tup [x,y])) { s with heap:=h',toks:=s.toks }:=ad.turnedT (ch:=[z,u,o,i,j]) (d_:=[Z,uy]) I
   (λc r hc q=>hk c r (λz=>hc (by simp[z])) (λz=>hc (by simp[z])) (λz=>hc (by simp[z])) (λz=>hc (by simp[z])) q)
   (λc hc=>(m c hc).1) (λc hc=>⟨(m c hc).2.2.2.1,(m c hc).2.1,(m c hc).2.2.2.2.1,(m c hc).2.2.2.2.2⟩) (YF _) (.cons VF (.cons VH .nil)) (by show 2<=sizeLine;decide) ⟨_,hT,rfl,_,rfl,rfl⟩
  have live:∀c∈[z,u,o,i,j],c≠s.heap.objs.size:=λc hc y=>by
   have lt:∀{c:Addr}{r:Obj},s.heap.get? c=some r->c≠s.heap.objs.size:=λe=>ZT (Ye e)
   have G:c=z\/c=u\/c=o\/c=i\/c=j:=by simpa using hc
   obtain⟨p,q,ho⟩:=ho;obtain⟨r1,C,_⟩:=hi;obtain⟨r2,F,_⟩:=A;rcases G with rfl | rfl | rfl | rfl | rfl
   .exact lt hz y
   .exact lt hu y
   .exact lt ho y
   .exact lt C y
   .exact lt F y
  refine wpAny_letOwnedTupleGo_zip (s:={ s with heap:=h' }) z1 λPm z2 n=>?_
  have n:Heap.SameBut z h' Pm:=n;have I2:=L2.ad.turned (h':=Pm) (t':=s.toks) (it:=z) I1 (λc r hc q=>(n.2 c hc).trans q) (by rw[aM (live z (by simp))];exact B.1) B.2.1 B.2.2.2.1 B.2.2.2.2.1 B.2.2.2.2.2;refine⟨.ref s.heap.objs.size,_,I2,rfl,⟨x,y,s.heap.objs.size,λvs hv=>by rw[I.list_inj hv ha];exact hx,λvs hv=>by rw[I.list_inj hv hb];exact hy,Pl,rfl,rfl⟩,⟨z2,(n.2 u D.TIz).trans u1,⟨_,_,(n.2 o D.TOz).trans o1⟩,i1.at λr e=>(n.2 i D.i1z).trans e,j1.at λr e=>(n.2 j D.i2z).trans e⟩,λc hc=>?_⟩;rw[aM (live c hc)];exact(m c hc).1
 done:=by
  intro X J hw L hc k a_ s σ H E I m st R;subst J hw L;obtain⟨xs,ys,ha,hb,hx⟩:=R;obtain⟨ia,Y,S,za⟩:=I.list ha;obtain⟨ib,T,U,zb⟩:=I.list hb;obtain⟨hz,hu,ho,hi,A⟩:=st;have hl:=T.length;obtain⟨p0,q0,W⟩:=id ho;refine wpAny_pyNext_zip_end (I.ok.hd hc) D hz hu W hi A S.isList U.isList (.inr (by simp;omega)) λh' hk=>⟨rfl,?_⟩
  exact ad.turnedC (ch:=[z,u,o,i,j]) (tk:=s.toks) I (λc r hc q=>hk c r (λz=>hc (by simp[z])) (λz=>hc (by simp[z])) (λz=>hc (by simp[z])) (λz=>hc (by simp[z])) q)
   (λc hc=>(m c hc).1) (λc hc=>⟨(m c hc).2.2.2.1,(m c hc).2.1,(m c hc).2.2.2.2.1,(m c hc).2.2.2.2.2⟩)
 self:=λ_ _ _ _ _ st h=>wpAny_pyIter_zip st.1 h
def iE:List D->List D->List D
 |x::xs,y::ys=>.tup [x,y]::iE xs ys
 |_,_=>[]
theorem pH:∀{xs ys:List D},ys.length<=xs.length->(iE xs ys).length=ys.length
 |[],[],_=>rfl
 |[],_::_,h=>absurd h (by simp)
 |_::_,[],h=>rfl
 |x::xs,y::ys,h=>by rw[iE,YI,YI,pH (by simpa using h)]
theorem ve:∀{xs ys:List D}{i:Nat}{x:D},(iE xs ys)[i]?=some x->∃d e,xs[i]?=some d/\ys[i]?=some e/\x=.tup [d,e]
 |[],_,_,_,h=>by rw[iE] at h;cases h;intros;contradiction
 |_::_,[],_,_,h=>by rw[iE] at h;cases h;intros;contradiction
 |a::xs,b::ys,0,x,h=>by
  rw[iE] at h;cases h;exact⟨a,b,rfl,rfl,rfl⟩
 |a::xs,b::ys,i+1,x,h=>by
  rw[iE] at h;exact ve (xs:=xs) (ys:=ys) (i:=i) (by simpa using h)
theorem Ds(B:∀H M,RM K M H->g M->∃vs us,aX K H t vs/\af K H ds vs/\aX K H it us/\af K H es us)(hl:es.length<=ds.length):qy K (KD K t it) H0 (iE ds es) g:=by
 intro i H M k rm q;obtain⟨vs,us,sa,j,a,m⟩:=B H M rm q;rw[pH hl];have G:=j.len;have I:=m.len;refine⟨λhi=>⟨vs,us,vs[i]' 'a',us[i]' 'a',sa,a,ZD _,ZD _⟩,λhi=>⟨vs,us,sa,a,by omega⟩,λx H' d hd ⟨v,u,p,hv,hu,hp,e,y⟩=>?_⟩;subst e y;obtain⟨J,L,h1,C,rfl⟩:=ve hd;obtain⟨R,E,r1⟩:=cF j.p h1;obtain⟨S,F,r2⟩:=cF m.p C;have n:=hv vs sa;have A:=hu us a;rw[E] at n;rw[F] at A;cases n;cases A;have k:=Kp.new (o:=.tup [v,u]) hp;exact⟨k,rm.newH hp,RV.tup_.2 ⟨p,_,rfl,bf.of aA,.cons (RV.mono k _ r1) (.cons (RV.mono k _ r2) .nil)⟩⟩
def Dt(t:WA):WI:=λσ M R=>t σ M λds M1=>match ds with
 |[.ref a,.ref b]=>match bM (M1 a),bM (M1 b) with
  |some xs,some ys=>ys.length<=xs.length/\R (iE xs ys) (λM'=>bM (M' a)=some xs/\bM (M' b)=some ys) M1
  |_,_=>False
 |_=>False
section
variable {X:Cx}{H:Hp}{pos:Pos}
def GB{r:Expr}{t:WA}(G:Gl X "zip")(hm:X.mg "zip" = none)(h:eG X [l,r] t)(hs:aj l=true)(J:aj r=true):tf X (.Tuple elts tk tp) (.Call (.Name "zip" n_) [l,r] [] pos) (Dt t):=by
 intro σ M ρ H R rs rm q a_ s I;refine Call_ (cE I G hm (by rfl':bootBuiltins "zip" = some (.type "zip")) (PyProof.Rows.callWith_type1 (aL (h σ M ρ H _ rs rm q pos a_ s I) λus s1 L=>?_) (aY hs) (by rw[aY J];rfl)));obtain⟨vs,H1,j,k,⟨k1,ds,M1,r1,l1,m1,q1⟩⟩:=L;try dsimp only at q1
 split at q1
 .rename_i a b
  try dsimp only at q1
  split at q1
  .rename_i xs ys m n
   rw[af] at r1;obtain⟨v,Mw,rfl,r2,r3⟩:=r1;rw[af] at r3;obtain⟨v2,p,rfl,S,A⟩:=r3;rw[af] at A;subst A;cases RV.ref_.1 r2;cases RV.ref_.1 S;obtain⟨Xn,sa,ra⟩:=m1.list m;obtain⟨Xo,T,U⟩:=m1.list n;cases k with
   |cons W k=>
   cases k with
   |cons Y k=>
   cases k;cases W;cases Y;obtain⟨ia,fa,B,za⟩:=j.list sa;obtain⟨ib,fb,C,Z⟩:=j.list T;have la:a<s1.heap.objs.size:=by obtain⟨_,e,_⟩:=B.isList;exact Ye e
   have lb:b<s1.heap.objs.size:=by obtain⟨_,e,_⟩:=C.isList;exact Ye e
   refine call_zip_2 B.isList C.isList λh' hz hu ho hi hj _ hk=>?_
   refine wpAny_pyIter_zip (s:={ s1 with heap:=h' }) hz ?_;have I2:ad X a_ ρ H1 { s1 with heap:=h' }:=j.kept (t':=s1.toks) hk;have D:=LJ s1.heap.objs.size a b la lb;refine⟨s1.heap.objs.size+4,[s1.heap.objs.size+4,s1.heap.objs.size+2,s1.heap.objs.size+3,s1.heap.objs.size,s1.heap.objs.size+1],_,_,H1,rfl,I2,AZ _ _ _ _ _ a b D,⟨hz,hu,⟨_,_,ho⟩,hi,hj⟩,λc hc=>?_,⟨k1,_,_,M1,m1,⟨m,n⟩,Ds (λH' M' E g'=>?_) q1.1,by rw[pH q1.1,U.len];exact Z,q1.2⟩⟩;rotate_left
   .obtain⟨p,z1,z2⟩:=E.list g'.1
    obtain⟨Fh,z3,z4⟩:=E.list g'.2;exact⟨p,Fh,z1,z2,z3,z4⟩
   have F:s1.heap.objs.size<=c:=by
    have Nb:c=s1.heap.objs.size+4\/c=s1.heap.objs.size+2\/c=s1.heap.objs.size+3\/c=s1.heap.objs.size\/c=s1.heap.objs.size+1:=by simpa using hc
    rcases Nb with rfl | rfl | rfl | rfl | rfl
    .exact Nat.le_add_right _ _
    .exact Nat.le_add_right _ _
    .exact Nat.le_add_right _ _
    .exact YF _
    .exact Nat.le_add_right _ _
   exact j.fpOk F (j.hok.fresh F)
  .exact Yh q1
 .exact Yh q1
end
end DD
namespace DD
open PySem PyProof.Rows L2
variable {n n':Nat}{B a:Addr}{fp:Zh}{h h':Heap}
section
variable {K:Type}[DecidableEq K]
def jj(l:List K)(k:K):List K:=if k∈l then l else l++[k]
def bd(ks:List K):List K:=ks.foldl jj []
def qP(ks:List K)(k:K):bd (ks++[k])=jj (bd ks) k:=by unfold bd;rw[List.foldl_append];rfl
def vf(l:List K)(k:K):(jj l k).length=if decide (k∈l) then l.length else l.length+1:=by
 unfold jj;by_cases h:k∈l
 .rw[if_pos h,if_pos (YU h)]
 .rw[if_neg h,if_neg (by simpa using h)];simp
def Du(l:List K)(k j:K):decide (j∈jj l k)=(decide (j∈l)||decide (j=k)):=by
 unfold jj;by_cases h:k∈l
 .rw[if_pos h]
  by_cases e:j=k
  .subst e;simp[h]
  .simp[e]
 .rw[if_neg h];simp
theorem lN:∀(ks l:List K),(ks.foldl jj l).length<=l.length+ks.length
 |[],l=>by simp
 |k::ks,l=>by
  have h1:=lN ks (jj l k);have b:(jj l k).length<=l.length+1:=by rw[vf];split<;>omega
  simp only[List.foldl_cons,YI];omega
def Dv(ks:List K):(bd ks).length<=ks.length:=by have:=lN ks [];simpa [bd] using this
end
section
variable {prog:Zv}{w:World}{A:Around}{R:Result->Shared->Prop}{K:Type}[DecidableEq K]{knd:KeyKind prog w K}
def vg{S S':K->Bool}(q:h.SetOf knd a S n)(e:∀k,S k=S' k)(b:n=n'):h.SetOf knd a S' n':=by
 obtain rfl:S=S':=funext e;subst b;exact q
def qQ{S:K->Bool}(q:h.SetOf knd a S n)(k:∀o,h.get? a=some o->h'.get? a=some o):h'.SetOf knd a S n:=by
 obtain⟨o,es,b,t,y,r⟩:=q;exact⟨o,es,b,t,k o y,r⟩
theorem Dw{wr:Zh}{G:Array GenState->Array GenState->Prop}{P:Nat->Value->Prop}{St:Nat->Shared->Prop}(W:WalksS prog w A.in1 a fp wr G n P St)(l:B∉fp){ks:List K}
  (hn:ks.length=n) (hv:∀i v,P i v->∀k,ks[i]?=some k->knd.is k v=true/\v.scannable=true) (hb:n+1<scanBound):
  ∀(j i:Nat) (t:Shared),n-i=j->i<=n->St i t->t.heap.SetOf knd B (λk=>decide (k∈bd (ks.take i))) (bd (ks.take i)).length ->
   (∀t',Moved (B::wr) G t t'->t'.heap.SetOf knd B (λk=>decide (k∈bd ks)) (bd ks).length->R (.ok (.ret .none)) t') ->
   codeAny 'e' A (.builtin "set.update.loop" ⟨[.ref B,.ref a],[]⟩) R t:=by
 have hw:B∉wr:=λh=>l (W.sub _ h)
 have up:∀b∈wr,b∈B::wr:=λb y=>.tail _ y
 intro j;induction j with
 |zero=>
  intro i t e hi st q g;obtain rfl:i=n:=by omega
  refine codeAny_builtin F.entry_set_update_loop ?_;rw[Around.under_plainId F.plain_set_update_loop _];refine Yb (show wpAny _ A.in1 (pyNext (.ref a)) _ _ t from W.done t _ _ st λt' c=>?_);refine show wpAny _ A.in1 (ret Value.none) _ _ t' from Yc (g t' (c.mono up) ?_);rw[List.take_of_length_le (Nat.le_of_eq hn)] at q;exact qQ q λo y=>c.heap B _ hw y
 |succ j r=>
  intro i t e hi st q g;have lt:i<n:=by omega
  refine codeAny_builtin F.entry_set_update_loop ?_;rw[Around.under_plainId F.plain_set_update_loop _];refine Yb (show wpAny _ A.in1 (pyNext (.ref a)) _ _ t from W.item i t _ _ lt st λv t' p j_ c=>?_);obtain⟨k,hk⟩:∃k,ks[i]?=some k:=⟨_,ZD 'a'⟩;obtain⟨is,sc⟩:=hv i v p k hk;have C:=qQ (h':=t'.heap) q λo y=>c.heap B _ hw y
  refine Yb (show wpAny _ A.in1 (holding [v] (setAdd B v)) _ _ t' from Yj ?_);unfold setAdd;refine Yj (Yb (knd.pyHash is ?_));have f:(bd (ks.take i)).length+1<scanBound:=by have:=Dv (ks.take i);rw[YR] at this;omega
  have tk:ks.take (i+1)=ks.take i++[k]:=by rw[List.take_add_one,hk];rfl
  refine wpAny_setAddHashed_of (knd:=knd) (s:={ t' with toks:=t'.toks+1 }) is sc C f λh' m q2=>?_
  have q3:=vg (S':=λk'=>decide (k'∈bd (ks.take (i+1)))) (n':=(bd (ks.take (i+1))).length) q2 (λk'=>by rw[tk,qP,Du]) (by rw[tk,qP,vf]);refine Yc ⟨plainId_quiet F.plain_set_update_loop _,r (i+1) _ 'a' lt (W.frame _ t' _ _ j_ (YM _) λb y o e=>?_) q3 λE I J=>?_⟩
  .rw[m.2 b (λz:b=B=>l (z▸y))];exact e
  .refine g E (Moved.trans W.gtrans ((c.mono up).then_heap (YM _) λb o y e=>?_) I) J
   rw[m.2 b (λz:b=B=>y (z▸ZX))];exact e
end
end DD
set_option maxHeartbeats 8000000
namespace DD
open PySem PyProof.Rows L2
variable {c_:Zl}{Q:Zb}{l:Addr}
section
variable {prog:Zv}{w:World}{A:Around}{Z:Zb}{s:Shared}{K:Type}[DecidableEq K]{knd:KeyKind prog w K}
def dO(led:Bool):Obj:={ cls:=.type "set",dict:=none,data:=.set #[] 0 (.fresh 0 0 led) }
theorem tz{T I:String}{ks:List K}{od:Zm}{m:Nat}{J_:Zn}(O:A.handled=none)(p:s.heap.get? l=some { cls:=.type T,dict:=od,data:=.seq c_ m,slots:=J_ })(s1:isSubtype (.type T) (.type "set")=pure false)(s2:isSubtype (.type T) (.type "frozenset")=pure false)(s3:(Value.type T==Value.type "dict")=false)
  (P:∀{A:Around} {E:Zb} {t:Shared} {Q:Zb},t.heap.get? l=some { cls:=.type T,dict:=od,data:=.seq c_ m,slots:=J_ }->Q (.ref t.heap.objs.size) { t with heap:=t.heap.push { cls:=.type I,data:=.fields #[.ref l,.int 0 0] } }->wpAny 'e' A (pyIter (.ref l)) Q E t)
  (S:∀J,l≠J->∃St:Nat->Heap->Prop,(∀{A:Around},A.handled=none->Walks prog w A J [J,l] [J] c_.size (λi v=>c_[i]?=some v) St)/\∀h:Heap,h.get? J=some { cls:=.type I,data:=.fields #[.ref l,.int 0 0] }->h.get? l=some { cls:=.type T,dict:=od,data:=.seq c_ m,slots:=J_ }->St 0 h)
  (hn:ks.length=c_.size)
  (hv:∀(i:Nat) (v:Value),c_[i]?=some v->∀k,ks[i]?=some k->knd.is k v=true/\v.scannable=true) (hb:c_.size+1<scanBound)
  (q:∀(h':Heap) (tk:Nat),h'.SetOf knd s.heap.objs.size (λk=>decide (k∈bd ks)) (bd ks).length ->
   (∀b o,b<s.heap.objs.size->s.heap.get? b=some o->h'.get? b=some o)->Q (.ref s.heap.objs.size) { s with heap:=h',toks:=tk }):
  wpAny 'e' A (call (.type "set") [.ref l]) Q Z s:=by
 obtain⟨c,tl,VL⟩:=F.called_set.mro;have Uj:=F.called_set.made;have Sk:=F.called_set.sub;have n1:=F.called_set.notType;have n2:=F.called_set.canCreate;have n3:=F.typeCall_set_1 (.ref l);refine wpAny_call (codeAny_of_tree (show wpAny _ _ (callAny (.type "set") _) _ _ _ from Yc ⟨Code.quiet_builtin _ (by rfl'),codeAny_builtin F.entry_type_call ?_⟩));rw[Around.under_plain (weight_type_call_type "set" [.ref l] []) rfl];repeat (any_goals (first | assumption | wp_step))
 refine codeAny_mono (code_set_new_1 (.ref l) (E:=Z) (Q₁:=λo t=>∃led:Bool,o=.ref s.heap.objs.size/\t={ s with heap:=s.heap.push (dO led) }) λled=>⟨led,rfl,rfl⟩) λr t f=>?_
 cases r with
 |error e=>exact f
 |ok fl=>
  cases fl with
  |ret o=>
   obtain⟨led,rfl,rfl⟩:=f;have B:(s.heap.push (dO led)).get? s.heap.objs.size=some (dO led):=Yg _ rfl;have ty:Shared.TypeIs { s with heap:=s.heap.push (dO led) } (.ref s.heap.objs.size) "set":=⟨_,B,rfl⟩;have l1:=F.called_set.init.lookup;have l2:=F.called_set.init.bind (.ref s.heap.objs.size);repeat (any_goals (first | assumption | wp_step))
   refine codeAny_mono (codeAny_call_builtin (R:=wants (λr C=>r=.none/\∃h' tk,C={ s with heap:=h',toks:=tk }/\h'.SetOf knd s.heap.objs.size (λk=>decide (k∈bd ks)) (bd ks).length /\
     (∀b o,b<s.heap.objs.size->s.heap.get? b=some o->h'.get? b=some o)) Z) F.called_set.init.plain F.entry_set_init (check_set_init_1 ty ?_)) λr2 C g=>?_
   .have G:(s.heap.push (dO led)).get? l=some { cls:=.type T,dict:=od,data:=.seq c_ m,slots:=J_ }:=Yd _ p
    unfold Builtin.«set.__init__» noKeywords Builtin.Frozenset.updateFrom;generalize hPI:pyIter=PI;wp_walk;subst hPI;refine P G (Yb (wpAny_runValue ?_));have j:(s.heap.push (dO led)).objs.size=s.heap.objs.size+1:=Heap.size_push ..;have L:l<s.heap.objs.size:=Ye p;have U:l≠(s.heap.push (dO led)).objs.size:=by rw[j];exact ZT (Nat.lt_succ_of_lt L)
    have V:s.heap.objs.size∉[(s.heap.push (dO led)).objs.size,l]:=by
     rw[j];intro y;rcases ZZ.1 y with y | y
     .exact absurd y (ZT (Nat.lt_succ_self _))
     .exact absurd (XM.1 y) (Nat.ne_of_gt L)
    obtain⟨St,W,Y⟩:=S _ U;refine Dw ((W (by simp[O])).toS) (knd:=knd) (ks:=ks) V hn hv hb (c_.size-0) 0 _ 'a' (YL _) (Y _ (Yg _ rfl) (Yd _ G)) ?_ ?_
    .have:=(setObjOf_fresh (knd:=knd) led).setOf (Yd ({ cls:=.type I,data:=.fields #[.ref l,.int 0 0] }:Obj) B) (by unfold scanBound;omega)
     exact vg this (λk=>by simp[bd]) (by simp[bd])
    .intro t' a n
     obtain⟨h',g',d',OW,RA⟩:=t';obtain rfl:g'=s.gens:=a.gens;obtain rfl:d'=s.drawn:=a.drawn;obtain rfl:RA=s.os:=a.os;refine Yc (show wpAny _ _ (ret Value.none) _ _ _ from Yc ⟨rfl,h',OW,rfl,n,λb o lt e=>a.heap b o ?_ (Yd _ (Yd _ e))⟩);rw[j];intro y;rcases ZZ.1 y with y | y
     .exact ZT lt y
     .exact ZT (Nat.lt_succ_of_lt lt) (XM.1 y)
   .cases r2 with
    |error e=>exact g
    |ok VM=>
     cases VM with
     |ret r=>
      obtain⟨rfl,h',tk,rfl,n,k'⟩:=g;repeat (any_goals (first | assumption | wp_step))
      exact q _ _ n k'
     |_=>exact g.elim
  |_=>exact f.elim
def A0{ks:List K}(c:A.handled=none)(hl:s.heap.IsList l c_)(hn:ks.length=c_.size)
  (hv:∀(i:Nat) (v:Value),c_[i]?=some v->∀k,ks[i]?=some k->knd.is k v=true/\v.scannable=true) (hb:c_.size+1<scanBound)
  (q:∀(h':Heap) (tk:Nat),h'.SetOf knd s.heap.objs.size (λk=>decide (k∈bd ks)) (bd ks).length ->
   (∀b o,b<s.heap.objs.size->s.heap.get? b=some o->h'.get? b=some o)->Q (.ref s.heap.objs.size) { s with heap:=h',toks:=tk }):
  wpAny 'e' A (call (.type "set") [.ref l]) Q Z s:=by
 obtain⟨⟨oc,od,f,J_⟩,j,n,m,p⟩:=hl;obtain rfl:oc=.type "list":=n;obtain rfl:f=.seq c_ m:=p;exact tz (I:="list_iterator") c j F.sub_list_set F.sub_list_frozenset 'c' (λg=>wpAny_pyIter_list ⟨_,g,rfl,_,rfl⟩) (λJ r=>⟨_,λh=>Walks.list h J l r c_,λh' a b=>⟨⟨_,a,rfl,rfl⟩,⟨_,b,rfl,_,rfl⟩⟩⟩) hn hv hb q
def zj{ks:List K}(c:A.handled=none)(hl:s.heap.IsTuple l c_)(hn:ks.length=c_.size)
  (hv:∀(i:Nat) (v:Value),c_[i]?=some v->∀k,ks[i]?=some k->knd.is k v=true/\v.scannable=true) (hb:c_.size+1<scanBound)
  (q:∀(h':Heap) (tk:Nat),h'.SetOf knd s.heap.objs.size (λk=>decide (k∈bd ks)) (bd ks).length ->
   (∀b o,b<s.heap.objs.size->s.heap.get? b=some o->h'.get? b=some o)->Q (.ref s.heap.objs.size) { s with heap:=h',toks:=tk }):
  wpAny 'e' A (call (.type "set") [.ref l]) Q Z s:=by
 obtain⟨⟨oc,od,f,J_⟩,j,n,m,p⟩:=hl;obtain rfl:oc=.type "tuple":=n;obtain rfl:f=.seq c_ m:=p;exact tz (I:="tuple_iterator") c j F.sub_tuple_set F.sub_tuple_frozenset 'c' (λg=>wpAny_pyIter_tuple ⟨_,g,rfl,_,rfl⟩) (λJ r=>⟨_,λh=>Walks.tuple h J l r c_,λh' a b=>⟨⟨_,a,rfl,rfl⟩,⟨_,b,rfl,_,rfl⟩⟩⟩) hn hv hb q
end
end DD
namespace DD
open PySem PySem.Spec PyProof.Rows L2
variable {Z:Zb}{ML p2:Pos}
def lm:List D->Option (List Str)
 |[]=>some []
 |.str x::r=>(lm r).map (x :: ·)
 |_=>none
def gY:List D->Option (List Int)
 |[]=>some []
 |.int x::r=>(gY r).map (x :: ·)
 |_=>none
theorem vh{K:Za}{H:Hp}:∀{ds:List D}{ks:Zf}{vs:List V},lm ds=some ks->af K H ds vs->vs=ks.map V.str
 |[],ks,vs,h,r=>by
  rw[lm] at h;cases h;rw[af] at r;subst r;rfl
 |.str x::ds,ks,vs,h,r=>by
  rw[lm] at h;rw[af] at r;obtain⟨v,a,rfl,r1,r2⟩:=r;cases q:lm ds with
  |none=>rw[q] at h;cases h
  |some b=>
   rw[q] at h;cases h;rw[vh q r2,RV.str_.1 r1];rfl
 |.non::_,_,_,h,_=>by cases h
 |.bl _::_,_,_,h,_=>by cases h
 |.int _::_,_,_,h,_=>by cases h
 |.tup _::_,_,_,h,_=>by cases h
 |.ref _::_,_,_,h,_=>by cases h
 |.ty _::_,_,_,h,_=>by cases h
theorem pI{K:Za}{H:Hp}:∀{ds:List D}{ks:Zi}{vs:List V},gY ds=some ks->af K H ds vs->vs=ks.map V.int
 |[],ks,vs,h,r=>by
  rw[gY] at h;cases h;rw[af] at r;subst r;rfl
 |.int x::ds,ks,vs,h,r=>by
  rw[gY] at h;rw[af] at r;obtain⟨v,a,rfl,r1,r2⟩:=r;cases q:gY ds with
  |none=>rw[q] at h;cases h
  |some b=>
   rw[q] at h;cases h;rw[pI q r2,RV.int_.1 r1];rfl
 |.non::_,_,_,h,_=>by cases h
 |.bl _::_,_,_,h,_=>by cases h
 |.str _::_,_,_,h,_=>by cases h
 |.tup _::_,_,_,h,_=>by cases h
 |.ref _::_,_,_,h,_=>by cases h
 |.ty _::_,_,_,h,_=>by cases h
def oa(xs:List D)(Q:Int->Prop):Prop:=xs.length<4000/\match lm xs with
 |some ks=>Q ((bd ks).length:Nat)
 |none=>match gY xs with
  |some ks=>Q ((bd ks).length:Nat)
  |none=>False
def zk(d:D)(M:MH)(Q:List D->Prop):Prop:=match d with
 |.ref a=>match M a with
  |some (.lst xs)=>Q xs
  |some (.rol xs)=>Q xs
  |_=>False
 |_=>False
def Dx(d:D)(M:MH)(Q:List D->Prop):Prop:=match d with
 |.tup xs=>Q xs
 |d=>zk d M Q
def su(t:WE):WE:=λσ M Q=>t σ M λd M1=>Dx d M1 λxs=>oa xs λn=>Q (.int n) M1
section
variable {X:Cx}{H:Hp}{pos:Pos}
def GC{K:Za}{d:D}{M:MH}{Q:List D->Prop}{v:V}(q:zk d M Q)(f:RV K H d v)(rm:RM K M H):∃a xs vs,v=.ref a/\aX K H a vs/\af K H xs vs/\Q xs:=by
 unfold zk at q;split at q
 .rename_i a
  split at q
  .rename_i xs e
   obtain⟨ys,b,c⟩:=rm a _ e;exact⟨a,xs,ys,RV.ref_.1 f,aX.of b,c,q⟩
  .rename_i xs e
   obtain⟨ys,b,c⟩:=rm a _ e;exact⟨a,xs,ys,RV.ref_.1 f,.inl b,c,q⟩
  .exact Yh q
 .exact Yh q
theorem A1{a_:Zc}{ρ:L2.St}{s:Shared}{a:Addr}{xs:List D}{vs:List V}{Q:Int->Prop}{R:Zb}(hc:X.calm=true)(I:ad X a_ ρ H s)(hq:aX X.K H a vs\/bf X.K H a vs)(f:af X.K H xs vs)(q:oa xs Q)
  (g:∀n tk h' r,Q n->ad X a_ ρ H { s with heap:=h',toks:=r }->R (.int n tk) { s with heap:=h',toks:=r }):
  wpAny 'b' X.A (call (.type "set") [.ref a]) (λu s1=>wpAny 'b' X.A (call (.builtin "len") [u]) R Z s1) Z s:=by
 have ht:∃d_,ak vs d_/\(s.heap.IsList a d_.toArray\/s.heap.IsTuple a d_.toArray):=by
  rcases hq with hq | hq
  .obtain⟨d_,c,p,_⟩:=I.list hq
   exact⟨d_,c,.inl p.isList⟩
  .obtain⟨d_,c,p,_⟩:=I.tuple hq
   exact⟨d_,c,.inr p⟩
 obtain⟨d_,c,p⟩:=ht;have W:xs.length=d_.length:=by rw[f.len,c.length]
 have B:∀{K:Type}[DecidableEq K] {knd:KeyKind X.prog X.w K}{ks:List K}{j:Zb},ks.length=d_.toArray.size->(∀(i:Nat) (v:Value),d_.toArray[i]?=some v->∀k,ks[i]?=some k->knd.is k v=true/\v.scannable=true)->d_.toArray.size+1<scanBound ->
   (∀(h':Heap) (tk:Nat),h'.SetOf knd s.heap.objs.size (λk=>decide (k∈bd ks)) (bd ks).length->(∀b o,b<s.heap.objs.size->s.heap.get? b=some o->h'.get? b=some o)->j (.ref s.heap.objs.size) { s with heap:=h',toks:=tk }) ->
   wpAny 'b' X.A (call (.type "set") [.ref a]) j Z s:=by
  intro K _ knd ks j C E F G;rcases p with p | p
  .exact A0 (I.ok.hd hc) p C E F G
  .exact zj (I.ok.hd hc) p C E F G
 unfold oa at q;obtain⟨hl,q⟩:=q;have fin:∀{K:Type}[DecidableEq K] {knd:KeyKind X.prog X.w K}{ks:List K}(h':Heap) (tk:Nat),h'.SetOf knd s.heap.objs.size (λk=>decide (k∈bd ks)) (bd ks).length->Q ((bd ks).length:Nat) ->
   (∀b o,b<s.heap.objs.size->s.heap.get? b=some o->h'.get? b=some o)->wpAny 'b' X.A (call (.builtin "len") [.ref s.heap.objs.size]) R Z { s with heap:=h',toks:=tk }:=by
  intro K _ knd ks h' tk st J kp;obtain⟨o,es,Y,t,L,O,P,_,_,S,T,U⟩:=st;rw[←U] at J;refine call_len_set (s:={ s with heap:=h',toks:=tk }) L O P T (by unfold scanBound at S;omega) ?_;exact g _ _ h' (tk+1+1) J (I.kept (t':=tk+1+1) λb o e=>kp b o (Ye e) e)
 split at q
 .rename_i ks e
  obtain rfl:=vh e f;have l:ks.length=d_.length:=by have:=c.length;simpa using this
  refine B (knd:=strKind X.prog X.w) (ks:=ks) (by simpa using l) (λi v hv k hk=>?_) (by unfold scanBound;simp;omega) λh' tk st kp=>fin h' tk st q kp
  obtain⟨u,h1,m⟩:=c.get (i:=i) (x:=.str k) (by simp[hk]);have:v=u:=by simp at hv;rw[hv] at h1;cases h1;rfl
  subst this;obtain⟨t,rfl⟩:∃t,v=Value.str k t:=m;exact⟨strKind_is _ _ _ _,rfl⟩
 .split at q
  .rename_i ks e
   obtain rfl:=pI e f;have l:ks.length=d_.length:=by have:=c.length;simpa using this
   refine B (knd:=intKind X.prog X.w) (ks:=ks) (by simpa using l) (λi v hv k hk=>?_) (by unfold scanBound;simp;omega) λh' tk st kp=>fin h' tk st q kp
   obtain⟨u,h1,m⟩:=c.get (i:=i) (x:=.int k) (by simp[hk]);have:v=u:=by simp at hv;rw[hv] at h1;cases h1;rfl
   subst this;obtain⟨t,rfl⟩:∃t,v=Value.int k t:=m;exact⟨intKind_is _ _ _ _,rfl⟩
  .exact Yh q
def zl{l:Expr}{t:WE}{p:Pos}(hc:X.calm=true)(c:Gl X "len")(hm:X.mg "len" = none)(f:Gl X "set")(g:X.mg "set" = none)(h:aI X l t)(hs:aj l=true):aI X (.Call (.Name "len" p) [.Call (.Name "set" p2) [l] [] ML] [] pos) (su t):=by
 intro σ M ρ H Q rs rm q a_ s I;refine Call_ (cE I c hm PySem.boot_len (callWith_builtin1 (args_cons (Call_ (cE I f g (by rfl':bootBuiltins "set" = some (.type "set")) (PyProof.Rows.callWith_type1 (args_cons (aL (h σ M ρ H _ rs rm q a_ s I) λu s1 j=>?_) (aY hs)) (aY hs) rfl))))));obtain⟨v,H1,k,m,⟨k1,d,M1,r1,m1,q1⟩⟩:=j;have r:∃a xs vs,v=.ref a/\(aX X.K H1 a vs\/bf X.K H1 a vs)/\af X.K H1 xs vs/\oa xs λn=>Q (.int n) M1:=by
  unfold Dx at q1;dsimp only at q1;split at q1
  .obtain⟨a,vs,rfl,sq,b⟩:=RV.tup_.1 r1
   exact⟨a,_,vs,rfl,.inr sq,b,q1⟩
  .obtain⟨a,xs,vs,rfl,sq,b,q2⟩:=GC q1 r1 m1
   exact⟨a,xs,vs,rfl,.inl sq,b,q2⟩
 obtain⟨a,xs,vs,rfl,sq,b,q2⟩:=r;cases m;refine args_nil ?_
 have:=A1 (X:=X) (R:=λw t=>EP X a_ ρ (lift X.K H Q) w t) (Z:=X.xe) hc k sq b q2 λn tk h' C A B=>⟨.int n,H1,B,⟨_,rfl⟩,k1,.int n,M1,RV.int_.2 rfl,m1,A⟩
 exact wpAny_mono this (λu t y=>args_nil y) λ_ _ y=>y
end
end DD
namespace DD
open PySem L2
variable {Z Q:Zb}{x:Str}{n:Int}
def zm:typeLookup (.type "str") "__int__" = pure none:=by rw[typeLookup_type,builtinLookup_eq_fast];kernel_rfl
def vi:typeLookup (.type "str") "__index__" = pure none:=by rw[typeLookup_type,builtinLookup_eq_fast];kernel_rfl
def vj:typeLookup (.type "str") "__trunc__" = pure none:=by rw[typeLookup_type,builtinLookup_eq_fast];kernel_rfl
def Ko{a:Type}{b:Model}{A:Around}{s:Shared}{m m':Sem a}{Q:a->Shared->Prop}(e:m=m')(h:wpAny b A m' Q Z s):wpAny b A m Q Z s:=e▸h
def ub(x:Str):Option Int:=([("1",1),("2",2),("3",3),("4",4),("5",5),("6",6)]:List (Str×Int)).lookup x
def Dy(h:ub x=some n)(t:Tok):Meets (Builtin.«int.__new__» ⟨[.type "int",.str x t],[]⟩) (Made.int n).spec:=
 Meets.of_wp λprog w A R s hs=>by
  obtain⟨hp,g,d,tk,os⟩:=s;have a:=F.conv_sub_int;have b:=F.madeHere_int;have c:(⟨hp,g,d,tk,os⟩:Shared).TypeIs (.str x t) "str":=rfl;have f:=zm;have j:=vi;have k:=vj;repeat (any_goals (first | assumption | wp_step))
  unfold ub at h;simp only[XG] at h;iterate 6
   split at h
   .rename_i e
    have hn:=Yi h;obtain rfl:=eq_of_beq e;rw[if_pos (by rfl')];refine Yb (Yc ?_);dsimp only;refine Ko (m':=mkInt n) (by subst hn;kernel_rfl) (wpAny_mkInt ?_);exact Yc ⟨_,rfl,hs⟩
  cases h
def uc:aK:=λds M Q=>match ds with
 |[.str x]=>bn (ub x) λn=>Q (.int n) M
 |ds=>uY ds M Q
def Dz{prog:Zv}{w:World}{A:Around}{s:Shared}{t:Tok}(h:ub x=some n)(q:Q (.int n s.toks) { s with toks:=s.toks+1 }):
  wpAny 'e' A (call (.type "int") [.str x t]) Q Z s:=by
 exact call_int_1 (Dy h t) (show(Made.int n).post _ s from⟨rfl,q⟩)
def GD{X:Cx}:de X (.type "int") uc:=by
 intro ds vs H M Q r rm h;unfold uc at h;split at h
 .rename_i x
  obtain⟨n,e,q⟩:=aS h;obtain⟨v,rfl,r1⟩:=cr r;cases RV.str_.1 r1;intro a_ s ρ us I a;obtain⟨u,rfl,t,rfl⟩:=vals1 a;exact Dz e ⟨.int n,H,I.tok _,⟨_,rfl⟩,aG (RV.int_.2 rfl) rm q⟩
 .exact IO _ _ _ _ _ r rm h
end DD
namespace DD
open PySem PySem.Spec PyProof.Rows L2
variable {tk ep:Nat}{a:Addr}{h' h:Heap}{Q:Zb}{t:WA}{ML p2:Pos}{ms ns:Zi}{a_:Zc}{K:Za}{M:MH}{H0:Hp}{u v:Tok}{lo:Int}{b:Expr}
section
variable {X:Cx}{H:Hp}{pos:Pos}{e:Expr}{es:Zg}
inductive Bj where
 |int
 deriving DecidableEq
def Ja:Bj->aK
 |.int=>uc
def qR:Bj->Str
 |.int=>"int"
def Jb(b:Bj)(hc:X.calm=true)(c:Gl X (qR b))(hm:X.mg (qR b)=none)(hs:aj e=true)(f:es.all aj=true)(ha:eG X (e::es) t):aI X (.Call (.Name (qR b) ML) (e::es) [] pos) (fG (Ja b) t):=by
 cases b with
 |int=>exact iU GD c hm (by rfl') 'c' 'c' hs f ha
end
def dP(a:Int)(n:Nat):List V:=(List.range n).map λ(i:Nat)=>.int (a+(i:Int))
def zn(a:Int)(n:Nat):(dP a n).length=n:=by unfold dP;rw[ZF,ZJ]
theorem oe{K:Za}{H:Hp}{c:Type}{f:c->D}{g:c->V}(h:∀x,RV K H (f x) (g x)):∀(l:List c),af K H (l.map f) (l.map g)
 |[]=>.nil
 |x::l=>.cons (h x) (oe h l)
def DA(a b:Int):af K H0 (bv a b) (dP a (b-a).toNat):=oe (λ_=>RV.int_.2 rfl) _
theorem qS:∀(d_:Zd) (a:Int),(∀(j:Nat) v,d_[j]?=some v->∃t,v=Value.int (a+j*1) t)->ak (dP a d_.length) d_
 |[],_,_=>.nil
 |u::d_,a,h=>by
  have e:dP a (u::d_).length=.int a::dP (a+1) d_.length:=by
   unfold dP;rw[YI,List.range_succ_eq_map,YK,ZM];congr 1
   .simp
   .refine ZN λi _=>?_
    show V.int (a+((i+1:Nat):Int))=V.int (a+1+(i:Int));congr 1;omega
  rw[e];refine .cons ?_ (qS d_ (a+1) λj v e=>?_)
  .obtain⟨t,e⟩:=h 0 u rfl
   exact⟨t,by rw[e];simp⟩
  .obtain⟨t,c⟩:=h (j+1) v (by simpa using e)
   refine⟨t,?_⟩;rw[c];congr 1;omega
def zo(ds:List D)(Q:List D->Prop):Prop:=match ds with
 |[.int j]=>(-1000000<j/\j<1000000)/\Q (bv 0 j)
 |[.int i,.int j]=>(-1000000<i/\i<1000000/\-1000000<j/\j<1000000)/\Q (bv i j)
 |_=>False
def zp(t:WA):WE:=λσ M Q=>t σ M λds M1=>zo ds λxs=>∀p,M1 p=none->Q (.ref p) (ab M1 p (.lst xs))
section
variable {X:Cx}{H:Hp}{pos:Pos}{e:Expr}{es:Zg}
theorem A2{ρ:L2.St}{s:Shared}{hi:Int}{t:Tok}{Q:DK}(hc:X.calm=true)(I:ad X a_ ρ H s)(l:Kp H0 H)(rm:RM X.K M H)(h1:-1000000<lo)(C:lo<1000000)(E:-1000000<hi)(F:hi<1000000)
  (q:∀p,M p=none->Q (.ref p) (ab M p (.lst (bv lo hi)))):
  wpAny 'b' X.A (call (.type "list") [.ref s.heap.objs.size]) (EP X a_ ρ (lift X.K H0 Q)) X.xe { s with heap:=s.heap.push { cls:=.type "range",data:=.fields #[.int lo t,.int hi u,.int 1 v] },toks:=tk }:=by
 have g:ad X a_ ρ H { s with heap:=s.heap.push { cls:=.type "range",data:=.fields #[.int lo t,.int hi u,.int 1 v] },toks:=tk }:=I.kept λb o e=>Yd _ e
 refine call_list_range (s:={ s with heap:=s.heap.push { cls:=.type "range",data:=.fields #[.int lo t,.int hi u,.int 1 v] },toks:=tk }) (n:=(hi-lo).toNat) (I.ok.hd hc) (IsRange.new ..) (small_one 'a' 'a' 'a' 'a')
  (by rw[rangeSize_one];split<;>omega) 'a' λh' r e_ c' hk B c=>?_
 obtain⟨hs,c⟩:=c;have hl:e_.toList.length=(hi-lo).toNat:=by rw[←hs];simp
 have hv:ak (dP lo (hi-lo).toNat) e_.toList:=by
  rw[←hl];refine qS e_.toList lo λj w e=>?_
  exact c j w (by rw[←XA];exact e)
 have f:H (s.heap.push { cls:=.type "range",data:=.fields #[.int lo t,.int hi u,.int 1 v] }).objs.size=none:=g.hok.fresh (YF _);have k:=Kp.new (o:=.lst (dP lo (hi-lo).toNat)) f;have hz:(dP lo (hi-lo).toNat).length<=sizeLine:=by
  rw[zn];have:(2000000:Nat)<=sizeLine:=by decide
  omega
 exact⟨.ref _,_,g.laid (t':=r) hk (YF _) (show aT X.prog X.w _ h' _ (.lst (dP lo (hi-lo).toNat)) from⟨hz,e_.toList,c',hv,by simpa using B⟩),rfl,l.trans k,.ref _,_,RV.ref_.2 rfl,rm.new (m:=.lst (bv lo hi)) f ⟨_,aA,DA _ _⟩,q _ (rm.fresh f)⟩
def DB{p:Pos}(hc:X.calm=true)(c:Gl X "list")(hm:X.mg "list" = none)(f:Gl X "range")(g:X.mg "range" = none)(ha:eG X [b] t)(hs:aj b=true):
  aI X (.Call (.Name "list" p) [.Call (.Name "range" p2) [b] [] ML] [] pos) (zp t):=by
 intro σ M ρ H Q rs rm q a_ s I;refine Call_ (cE I c hm (by rfl':bootBuiltins "list" = some (.type "list")) (PyProof.Rows.callWith_type1 (args_cons (Call_ (cE I f g boot_range (PyProof.Rows.callWith_type1 (aL (ha σ M ρ H _ rs rm q _ a_ s I) λus s1 k=>?_) (aY hs) rfl)))) rfl rfl));obtain⟨vs,H1,l,r1,⟨k1,ds,M1,r2,m,m1,q1⟩⟩:=k;unfold zo at q1;dsimp only at q1;split at q1
 .obtain⟨v,rfl,r3⟩:=cr r2
  cases RV.int_.1 r3;obtain⟨u,rfl,n⟩:=vals1 r1;obtain⟨t,rfl⟩:=n;obtain⟨⟨r,A⟩,q1⟩:=q1;refine call_range_1 (args_nil ?_);exact A2 hc l k1 m1 'c' 'c' r A q1
 .rename_i i j
  exact absurd m (by simp)
 .exact Yh q1
def DC{p:Pos}(hc:X.calm=true)(c:Gl X "list")(hm:X.mg "list" = none)(f:Gl X "range")(g:X.mg "range" = none)(ha:eG X [e,b] t)(hs:aj e=true)(j:aj b=true):
  aI X (.Call (.Name "list" p) [.Call (.Name "range" p2) [e,b] [] ML] [] pos) (zp t):=by
 intro σ M ρ H Q rs rm q a_ s I;refine Call_ (cE I c hm (by rfl':bootBuiltins "list" = some (.type "list")) (PyProof.Rows.callWith_type1 (args_cons (Call_ (cE I f g boot_range (PyProof.Rows.callWith_type1 (aL (ha σ M ρ H _ rs rm q _ a_ s I) λus s1 k=>?_) (aY hs) (c8 (by rw[XO,j];rfl)))))) rfl rfl));obtain⟨vs,H1,l,r1,⟨k1,ds,M1,r2,m,m1,q1⟩⟩:=k;unfold zo at q1;dsimp only at q1;split at q1
 .exact absurd m (by simp)
 .obtain⟨v,w',rfl,r3,n⟩:=uV r2
  cases RV.int_.1 r3;cases RV.int_.1 n;obtain⟨u,G,rfl,r,A⟩:=r1.two;obtain⟨t,rfl⟩:=r;obtain⟨t',rfl⟩:=A;obtain⟨⟨B,C,E,F⟩,q1⟩:=q1;refine call_range_2 (args_nil ?_);exact A2 hc l k1 m1 B C E F q1
 .exact Yh q1
structure E5 (K:Za) (C D:Addr) (b:Bool):Prop where
 cl:fS K C
 ha:PySem.W.findIn K (.ref C) "__class__" = some (some (.builtin "object.__class__"))
 hn:PySem.W.specialIn K (.builtin "object.__class__") "__get__" = some (some (.builtin "getset_descriptor.__get__"))
 ht:PySem.W.takesIn K (.builtin "object.__class__")=some true
 hm:PySem.W.mroIn K C (.type "object")=some true
 ki:PySem.W.kitOne K (.ref C) (.ref D)=some b
abbrev LL:=Addr->Addr->Option Bool
end
section
variable {prog:Zv}{w:World}{A:Around}{E:Zb}{s:Shared}{κ:Type}[DecidableEq κ]{knd:KeyKind prog w κ}
abbrev ud(knd:KeyKind prog w κ)(kvs:List (κ×Value)):Nat->Value->Prop:=λi v=>∃k x,kvs[i]?=some (k,x)/\knd.is k v=true
def wD{R:Result->Shared->Prop}{kvs:List (κ×Value)}(m:A.handled=none)(hd:(a==sysModules)=false)(hm:s.heap.DictAt knd a kvs ep)(hl:kvs.length<=2 ^ 24)(S:Addr)(res:Value)(g:Nat)
  (j:s.heap.get? S=some { cls:=.type "list",data:=.seq #[] g })
  (n:∀h' tk e_ c',(∀b o,b≠S->s.heap.get? b=some o->h'.get? b=some o)->h'.get? S=some { cls:=.type "list",dict:=none,data:=.seq e_ c',slots:=#[] }->ItemsOf (ud knd kvs) e_ kvs.length->R (.ok (.ret res)) { s with heap:=h',toks:=tk }):
  wpAny 'e' A.in1 (Builtin.List.listExtendWith (.ref S) (.ref a) res)
   (λfin c=>match fin with
    |.done f=>R (.ok f) c
    |.again c'=>c'.quiet=true/\codeAny 'e' A c' R c) (λe c=>R (.error e) c) s:=by
 have k:S≠a:=λz=>by
  subst z;obtain⟨o,l,p⟩:=hm.dictOf.typeIs (s:=s);rw[j] at l;cases l;simp at p
 exact PySem.W.kdl_extend (PySem.W.kdl_dict hd) m hm S k k res g j n (by rw[sizeLine_eq];exact hl)
end
section
variable {prog:Zv}{w:World}{A:Around}{E:Zb}{s:Shared}{κ:Type}[DecidableEq κ]{knd:KeyKind prog w κ}
def list_dict{kvs:List (κ×Value)}(c:A.handled=none)(hd:(a==sysModules)=false)(hm:s.heap.DictAt knd a kvs ep)(hl:kvs.length<=2 ^ 24)
  (f:∀h' tk e_ c',(∀b o,s.heap.get? b=some o->h'.get? b=some o)->h'.get? s.heap.objs.size=some { cls:=.type "list",dict:=none,data:=.seq e_ c',slots:=#[] }->ItemsOf (ud knd kvs) e_ kvs.length ->
   Q (.ref s.heap.objs.size) { s with heap:=h',toks:=tk }):wpAny 'e' A (call (.type "list") [.ref a]) Q E s:=
 PySem.W.kdl_call (PySem.W.kdl_dict hd) c hm (by rw[sizeLine_eq];exact hl) f
def vk{Q:List Value->Shared->Prop}{kvs:List (κ×Value)}(g:A.handled=none)(hd:(a==sysModules)=false)(hm:s.heap.DictAt knd a kvs ep)(hl:kvs.length<=2 ^ 24)
  (j:∀h' tk e_,(∀b o,s.heap.get? b=some o->h'.get? b=some o)->s.heap.objs.size<h'.objs.size->ItemsOf (ud knd kvs) e_ kvs.length->Q e_.toList { s with heap:=h',toks:=tk }):wpAny 'e' A (collect (.ref a)) Q E s:=by
 have go:∀R:Result->Shared->Prop,(∀h' tk e_ c',(∀b o,s.heap.get? b=some o->h'.get? b=some o)->h'.get? s.heap.objs.size=some { cls:=.type "list",dict:=none,data:=.seq e_ c',slots:=#[] }->ItemsOf (ud knd kvs) e_ kvs.length ->
   R (.ok (.ret (.ref s.heap.objs.size))) { s with heap:=h',toks:=tk })->codeAny 'e' A (.builtin "list.__iadd__" ⟨[.ref s.heap.objs.size,.ref a],[]⟩) R { s with heap:=s.heap.push (seqObj "list" #[] 0) }:=by
  intro R k;refine codeAny_builtin entry_list_iadd' ?_;show wpAny _ _ (Builtin.List.listExtendWith (.ref s.heap.objs.size) (.ref a) (.ref s.heap.objs.size)) _ _ { s with heap:=s.heap.push (seqObj "list" #[] 0) };rw[Around.under_plainId (id:="list.__iadd__") (by rfl')];refine wD (A:=A) (R:=R) (s:={ s with heap:=s.heap.push (seqObj "list" #[] 0) }) g hd (hm.push _) hl s.heap.objs.size _ 0 (Yg _ rfl) ?_;intro h' tk e_ c' hk c f;exact k h' tk e_ c' (λb o e=>hk b o (ZT (Ye e)) (Yd _ e)) c f
 unfold collect;refine Yb (wpAny_runValue (codeAny_builtin entry_proto_collect' ?_));show wpAny _ _ (do again (.builtin "list.__iadd__" ⟨[←newList [],.ref a],[]⟩)) _ _ s;refine Yb (wpAny_newList (Yc ⟨Code.quiet_builtin _ (by rfl'),go _ λh' tk e_ c' hk c f=>?_⟩));refine Yb (wpAny_load c ?_);exact Yc (j h' tk e_ hk (Ye c) f)
theorem xP:∀{vs:Zd}{ms:Zi},vs.length=ms.length->(∀(i:Nat) (v:Value) (n:Int),vs[i]?=some v->ms[i]?=some n->∃t,v=Value.int n t)->IntsAre vs ms
 |[],[],_,_=>.nil
 |[],_::_,h,_=>by cases h
 |_::_,[],h,_=>by cases h
 |v::vs,n::ms,h,g=>by
  obtain⟨t,rfl⟩:=g 0 v n rfl rfl;exact .cons n t (xP (by simpa using h) λi v m a b=>g (i+1) v m (by simpa using a) (by simpa using b))
def zq {it:Value} {vs:Zd}     (g:IntsAre vs ns) (j:vs.length < 64)
  (h:∀ (out:Zl) (c:Zi),IntsAre out.toList c->c.Perm ns->c.Pairwise (·<=·)->Q (.ref h'.objs.size) { s with heap:=sortedHeap (h'.push (seqObj "list" vs.toArray 0)) h'.objs.size vs out,toks:=tk }) :
  wpAny 'e' A.in1 (do
   let l ← newList vs
   let _ ← holding [l] (call (.builtin "list.sort") [l] [])
   ret l) (λfin k=>∃ v,fin = Fin.done (.ret v)/\Q v k) E { s with heap:=h',toks:=tk }:=by
 refine Yb (wpAny_newList ?_)
 have f:(h'.push (seqObj "list" vs.toArray 0)).get? h'.objs.size = some (seqObj "list" vs.toArray 0):=Yg _ rfl
 show wpAny _ _ _ _ _ { s with heap:=h'.push (seqObj "list" vs.toArray 0),toks:=tk }
 refine Yb (Yj (wpAny_call_entry slot_list_sort ⟨_,f,rfl⟩ entry_list_sort (list_sort_tree f g j λout c m n p=>⟨_,rfl,?_⟩) (args_list_sort _)))
 exact Yc ⟨_,rfl,h out c m n p⟩
end
def intKeys:List (Key×D)->Option (List Int)
 |[]=>some []
 |(.inl i,_)::r=>(intKeys r).map (i :: ·)
 |_=>none
theorem oY:∀{kvs:Zz}{ns:Zi},intKeys kvs=some ns->kvs.map (·.1)=ns.map Sum.inl
 |[],ns,h=>by cases h;rfl
 |(.inl i,d)::r,ns,h=>by
  rw[intKeys] at h;cases q:intKeys r with
  |none=>rw[q] at h;cases h
  |some ms=>rw[q] at h;cases h;rw[YK,YK,oY q]
 |(.inr x,d)::r,ns,h=>by cases h
def og(ns:Zi)(M:MH)(Q:DK):Prop:=ns.length<64/\∀(p:Addr) (ms:Zi),M p=none->ms.Perm ns->ms.Pairwise (·<=·)->Q (.ref p) (ab M p (.lst (ms.map .int)))
def xQ:aK:=λds M Q=>match ds with
 |[.ref a]=>match bM (M a) with
  |some xs=>bn (gY xs) λns=>og ns M Q
  |none=>bn (qD (M a)) λkvs=>bn (intKeys kvs) λns=>og ns M Q
 |_=>False
theorem mP:∀{us:Zd}{ms:Zi},IntsAre us ms->ak (ms.map V.int) us
 |_,_,.nil=>.nil
 |_,_,.cons n t r=>.cons ⟨t,rfl⟩ (mP r)
theorem mQ:∀{ms:Zi}{us:Zd},ak (ms.map V.int) us->IntsAre us ms
 |[],_,h=>by cases h;exact .nil
 |n::ms,_,h=>by
  cases h with
  |cons r t=>
   obtain⟨tk,rfl⟩:=r;exact .cons n tk (mQ t)
section
variable {X:Cx}{H:Hp}
theorem vm{ρ:L2.St}{s:Shared}{Q:DK}{out:Zl}(I:ad X a_ ρ H s)(rm:RM X.K M H)(q:og ns M Q)(k:∀b o,s.heap.get? b=some o->h'.get? b=some o)(hp:s.heap.objs.size<=a)
  (ho:h'.get? a=some (seqObj "list" out ep)) (g:IntsAre out.toList ms) (f:ms.Perm ns) (j:ms.Pairwise (·<=·)):EP X a_ ρ (lift X.K H Q) (.ref a) { s with heap:=h',toks:=tk }:=by
 have c:H a=none:=I.hok.fresh hp;have kk:=Kp.new (o:=.lst (ms.map V.int)) c;have hz:(ms.map V.int).length<=sizeLine:=by
  rw[ZF,f.length_eq];have:(64:Nat)<=sizeLine:=by decide
  have:=q.1
  omega
 exact⟨.ref a,_,I.laid (t':=tk) k hp (show aT X.prog X.w _ h' a (.lst (ms.map V.int)) from⟨hz,out.toList,ep,mP g,by simpa [seqObj] using ho⟩),rfl,kk,.ref a,_,RV.ref_.2 rfl,rm.new (m:=.lst (ms.map .int)) c ⟨_,aA,oe (λ_=>RV.int_.2 rfl) ms⟩,q.2 a ms (rm.fresh c) f j⟩
theorem A3(hc:X.calm=true):de X (.builtin "sorted") xQ:=by
 intro ds vs H M Q r rm h;unfold xQ at h;split at h
 .obtain⟨v,rfl,r1⟩:=cr r
  cases RV.ref_.1 r1;split at h
  .rename_i xs c
   obtain⟨ns,f,q⟩:=aS h;obtain⟨us,sq,G⟩:=rm.list c;obtain rfl:=pI f G;intro a_ s ρ J I g;obtain⟨u,rfl,j⟩:=vals1 g;cases j;obtain⟨d_,F,L,hz⟩:=I.list sq;have hl:d_.length=ns.length:=by have:=F.length;simpa using this.symm
   refine sorted_ints (vs:=d_) L.isList (mQ F) (by have:=q.1;omega) λout ms p B C=>?_
   obtain⟨e,ho⟩:=sortedAll_at s.heap d_ out;exact vm (tk:=s.toks) I rm q (λb o e=>sortedAll_old e) (YM _) ho p B C
  .obtain⟨kvs,c,h⟩:=aS h
   obtain⟨ns,f,q⟩:=aS h;obtain⟨Y,O,P,_⟩:=rm.dict c;intro a_ s ρ J I g;obtain⟨u,rfl,j⟩:=vals1 g;cases j;obtain⟨hz,hd,xs,R,S⟩:=jF I.hok O;obtain⟨ep,hm⟩:=S.dictAt;have hk:xs.map (·.1)=ns.map Sum.inl:=by rw[←R.keys,P,oY f]
   have hl:xs.length=ns.length:=by have:=congrArg List.length hk;simpa using this
   refine Calls.call_function_entry kind_sorted plain_sorted entry_sorted (args_sorted1 _) ?_;unfold Builtin.«sorted»;refine Yb (m:=checkCount "sorted" 1 1 _) (Yc ?_);refine Yb (vk (A:=X.A.in1) (I.ok.hd hc) hd hm (by have:=q.1;omega) λh' tk e_ T hsz E=>?_);obtain⟨hs,E⟩:=E;have U:e_.toList.length=ns.length:=by rw[←hl,←hs];simp
   have V:IntsAre e_.toList ns:=xP U λi v n hv hn=>by
    obtain⟨k,x,hx,hi⟩:=E i v (by rw[←XA];exact hv);have W:k=Sum.inl n:=by
     have:=congrArg (λl=>l[i]?) hk
     simp only[ZG,hx,hn,XH] at this;cases this;rfl
    subst W;exact sd hi
   refine zq (s:=s) (A:=X.A) (it:=.none) V (by have:=q.1;omega) λout ms p B C=>?_
   obtain⟨e,ho⟩:=sortedHeap_at (h:=h'.push (seqObj "list" e_.toList.toArray 0)) (a:=h'.objs.size) (vs:=e_.toList) (n:=0) (out:=out) (Yg _ rfl);refine vm I rm q (λb o e=>?_) (Nat.le_of_lt hsz) ho p B C;have h1:=T b o e;have hb:b<h'.objs.size:=Ye h1;rw[sortedHeap_old (ZT hb) (by rw[Heap.size_push];exact Nat.lt_succ_of_lt hb)];exact Yd _ h1
 .exact Yh h
def kC:aK:=λds M Q=>match ds with
 |[.ref a]=>match qD (M a) with
  |some kvs=>∀p,M p=none->Q (.ref p) (ab M p (.lst (keysOf kvs)))
  |none=>nW ds M Q
 |ds=>nW ds M Q
theorem tB{P:Zv}{w:World}:∀{xs:List (Key×Value)}{us:Zd},us.length=xs.length->(∀(i:Nat) (v:Value) (k:Key) (x:Value),us[i]?=some v->xs[i]?=some (k,x)->(bt P w).is k v=true)->ak (xs.map λp=>kV p.1) us
 |[],[],_,_=>.nil
 |[],_::_,h,_=>by cases h
 |_::_,[],h,_=>by cases h
 |(k,x)::xs,u::us,h,g=>.cons (sd (g 0 u k x rfl rfl)) (tB (by simpa using h) λi v k x a b=>g (i+1) v k x (by simpa using a) (by simpa using b))
theorem vn(hc:X.calm=true):de X (.type "list") kC:=by
 intro ds vs H M Q r rm h;unfold kC at h;split at h
 .rename_i a
  split at h
  .rename_i kvs A
   obtain⟨v,rfl,r1⟩:=cr r;cases RV.ref_.1 r1;obtain⟨c,B,C,_⟩:=rm.dict A;intro a_ s ρ T I E;obtain⟨u,rfl,F⟩:=vals1 E;cases F;obtain⟨hz,hd,xs,l,G⟩:=jF I.hok B;obtain⟨ep,hm⟩:=G.dictAt;have J:xs.length=c.length:=l.length.symm;by_cases n:xs.length<=2 ^ 24
   .refine list_dict (I.ok.hd hc) hd hm n λh' tk e_ c' hk L g=>?_
    obtain⟨hs,g⟩:=g;have hv:ak (xs.map λp=>kV p.1) e_.toList:=tB (P:=X.prog) (w:=X.w) (by rw[←hs];simp) λi v k x a b=>by
     obtain⟨k',U,hx,hi⟩:=g i v (by rw[←XA];exact a);rw[b] at hx;cases hx;exact hi
    have O:(xs.map λp=>kV p.1)=c.map λp=>kV p.1:=by
     have:=l.keys
     have f:(c.map (·.1)).map kV=(xs.map (·.1)).map kV:=by rw[this]
     rw[ZM,ZM] at f;exact f.symm
    rw[O] at hv;have j:H s.heap.objs.size=none:=I.hok.fresh (YF _);have kk:=Kp.new (o:=.lst (c.map λp=>kV p.1)) j;have R:af X.K (upd H s.heap.objs.size (.lst (c.map λp=>kV p.1))) (keysOf kvs) (c.map λp=>kV p.1):=by
     have f:keysOf kvs=(c.map (·.1)).map kD:=by unfold keysOf;rw[C,ZM];rfl
     have S:(c.map λp=>kV p.1)=(c.map (·.1)).map kV:=by rw[ZM];rfl
     rw[f,S];exact oe (λk=>EV k) _
    exact⟨.ref s.heap.objs.size,_,I.laid (t':=tk) hk (YF _) (show aT X.prog X.w _ h' _ (.lst (c.map λp=>kV p.1)) from⟨by rw[ZF];exact hz,e_.toList,c',hv,by simpa using L⟩),rfl,kk,.ref _,_,RV.ref_.2 rfl,rm.new (m:=.lst (keysOf kvs)) j ⟨_,aA,R⟩,h _ (rm.fresh j)⟩
   .exact absurd (by rw[J];rw[sizeLine_eq] at hz;omega) n
  .exact xI _ vs H M Q r rm h
 .exact xI _ vs H M Q r rm h
end
def bS(h:Heap)(d:Addr)(es:Array DictEntry)(ep:Nat):Prop:=∃o,h.get? d=some o/\o.ExactDict/\o.data=.dict es ep
section
variable {prog:Zv}{w:World}{A:Around}{E:Zb}{s:Shared}{d it:Addr}{es:Array DictEntry}{ep i:Nat}
theorem bS.at'(x:bS h d es ep)(k:∀o,h.get? d=some o->h'.get? d=some o):bS h' d es ep:=let⟨o,e,r⟩:=x;⟨o,k o e,r⟩
theorem bS.lt(x:bS h d es ep):d<h.objs.size:=let⟨_,e,_⟩:=x;Ye e
theorem bS.typeIs(x:bS s.heap d es ep):s.TypeIs (.ref d) "dict":=let⟨o,e,c,_⟩:=x;⟨o,e,c.1⟩
def A4(lo:(d==sysModules)=false)(x:bS s.heap d es ep)
  (q:Q (.ref s.heap.objs.size) { s with heap:=s.heap.push { cls:=.type "dict_keyiterator",data:=.fields #[.ref d,.int 0 0,.int es.size 0,.int ep 0] } }):wpAny 'e' A (pyIter (.ref d)) Q E s:=by
 obtain⟨o,c,g,f⟩:=id x;have ty:=x.typeIs;refine wpAny_pyIter_slot ty F.slot_dict_iter (wpAny_call_entry F.slot_dict_iter ty F.entry_dict_iter ?_ (F.args_dict_iter_1 _));unfold Builtin.«dict.__iter__»;refine Yb ?_;unfold Builtin.Dict.dictSlotNone;refine Yb (wpAny_notOrdered_dict ty (show wpAny _ _ (pure (Value.ref d)) _ _ s from Yc ?_));show wpAny _ _ (Builtin.Dict.showsAll d >>= _) _ _ s;unfold Builtin.Dict.showsAll;rw[lo];refine Yb (Yc (Yb (wpAny_dictEntries c f (Yb (wpAny_dictEpoch c f ?_)))));refine Yb (wpAny_newObj_type (Yc ⟨_,rfl, "dict_keyiterator",_,⟨_,Yg _ rfl,rfl⟩,F.slot_dict_keyiterator_next.lookup,?_⟩));simpa [rawInt] using q
theorem DE{Q:Option Value->Shared->Prop}(c:s.heap.IsKeyIter it d i es.size ep)(x:bS s.heap d es ep)(hi:i<es.size)
  (q:∀h',h'.IsKeyIter it d (i+1) es.size ep->Heap.SameBut it s.heap h'->Q (some es[i].key) { s with heap:=h' }):wpAny 'e' A (pyNext (.ref it)) Q E s:=by
 obtain⟨u,g,n,f⟩:=id c;obtain⟨o,l,B,m⟩:=id x;have nm:∀{Q:String->Shared->Prop}{A:Around}{E:Zb},Q "dict_keyiterator" s->wpAny 'e' A (typeNameOfWhole (.ref it)) Q E s:=λh=>wpAny_typeNameOfWhole_keyiter c.typeIs h
 unfold pyNext;refine Yb (wpAny_attempt (wpAny_callSpecial?_slot (name:=Str.ofString "__next__") c.typeIs F.slot_dict_keyiterator_next (wpAny_call_entry F.slot_dict_keyiterator_next c.typeIs F.entry_dict_keyiterator_next ?_ (F.args_dict_keyiterator_next_1 _))));refine Yb (Yc (Yb (Yb (Yb (nm (Yc (Yb (wpAny_fieldsOf g f ?_))))))));simp only[show Builtin.Dict_items.ownsTuple "dict_keyiterator" = false by decide,XF,if_false];show wpAny _ _ (if(Value.ref d==Value.none)=true then _ else _) _ _ s;rw[if_neg (by exact YE)];refine Yb (Yc (Yb (wpAny_dictEntries l m ?_)));rw[if_neg (by simp)];refine Yb (Yc (Yb (wpAny_dictEpoch l m ?_)));rw[if_neg (by simp)];refine Yc ?_;have p:es[i]?=some es[i]:=XV hi;simp only[show ¬((i:Int)<0) by omega,if_false,YV,p];refine Yb (Yb (nm (Yc (Yb (wpAny_isOneOf_keyiter c.typeIs ?_)))));show wpAny _ _ (setField (.ref it) 1 (rawInt ((i:Int)+1)) >>= _) _ _ s;refine Yb (wpAny_setField g f (by simp) ?_);have j:(s.heap.update it (Obj.mapFields (·.setIfInBounds 1 (rawInt ((i:Int)+1))))).IsKeyIter it d (i+1) es.size ep:=
  ⟨_,Heap.get?_update_self _ g (Obj.isFreed_of_fields (Obj.data_mapFields f _)),(Obj.cls_mapFields ..).trans n,by rw[Obj.data_mapFields f];simp[rawInt]⟩
 generalize hh:s.heap.update it (Obj.mapFields (·.setIfInBounds 1 (rawInt ((i:Int)+1))))=k at j ⊢;have r:Heap.SameBut it s.heap k:=by rw[←hh];exact Heap.SameBut.update ..
 refine Yb (Yj (Yb (wpAny_isOneOf_keyiter (s:={ s with heap:=k }) j.typeIs ?_)));exact Yc (Yc ⟨_,rfl,Yc (q k j r)⟩)
theorem next_end{Q:Option Value->Shared->Prop}(l:A.handled=none)(c:s.heap.IsKeyIter it d es.size es.size ep)(x:bS s.heap d es ep)
  (q:∀h',Heap.ExtBut it s.heap h'->Q none { s with heap:=h' }):wpAny 'e' A (pyNext (.ref it)) Q E s:=by
 obtain⟨u,f,n,g⟩:=id c;obtain⟨o,j,p,k⟩:=id x;have nm:∀{Q:String->Shared->Prop}{A:Around}{E:Zb},Q "dict_keyiterator" s->wpAny 'e' A (typeNameOfWhole (.ref it)) Q E s:=λh=>wpAny_typeNameOfWhole_keyiter c.typeIs h
 unfold pyNext;refine Yb (wpAny_attempt (wpAny_callSpecial?_slot (name:=Str.ofString "__next__") c.typeIs F.slot_dict_keyiterator_next (wpAny_call_entry F.slot_dict_keyiterator_next c.typeIs F.entry_dict_keyiterator_next ?_ (F.args_dict_keyiterator_next_1 _))));refine Yb (Yc (Yb (Yb (Yb (nm (Yc (Yb (wpAny_fieldsOf f g ?_))))))));simp only[show Builtin.Dict_items.ownsTuple "dict_keyiterator" = false by decide,XF,if_false];show wpAny _ _ (if(Value.ref d==Value.none)=true then _ else _) _ _ s;rw[if_neg (by exact YE)];refine Yb (Yc (Yb (wpAny_dictEntries j k ?_)));rw[if_neg (by simp)];refine Yb (Yc (Yb (wpAny_dictEpoch j k ?_)));rw[if_neg (by simp)];refine Yc ?_;simp only[show ¬((es.size:Int)<0) by omega,if_false,YV,Array.getElem?_eq_none (YF es.size)];refine Yb (Yb (nm (Yc ?_)));show wpAny _ _ (setField (.ref it) 0 .none >>= _) _ _ s;refine Yb (wpAny_setField f g (by simp) ?_);show wpAny _ _ (newExc (.type "StopIteration") [] >>= _) _ _ _;simp only[newExc,newTuple];refine Yb (Yb (wpAny_newObj_type ?_ (by size_fits)));refine Yb (m:=firstArgMember _ _) (wpAny_of_eq (a:=Value.none) (by first | rfl | (simp only[firstArgMember];rfl)) (wpAny_newObj_type ?_ (by size_fits)));simp only[raiseNew];refine Yb (wpAny_handled ?_);rw[show A.in1.handled=none from l];refine Yb (Yc (wpAny_throw ?_));refine Yb (wpAny_isInstance (T:="StopIteration") (b:=true) ⟨_,Yg _ rfl,rfl⟩ isSubtype_stop ?_);exact Yc (q _ (((Heap.SameBut.update ..).extBut.push _).push _))
def zr(f:A.handled=none)(I:Addr)(j:d≠I)(es:Array DictEntry)(ep:Nat):
  Walks prog w A I [I,d] [I] es.size (λi v=>∃e,es[i]?=some e/\v=e.key) (λi h=>h.IsKeyIter I d i es.size ep/\bS h d es ep) where
 sub:=λb hb=>by simp at hb;simp[hb]
 frame:=λ_ _ _ st k=>⟨st.1.at λo e=>k I (by simp) o e,st.2.at' λo e=>k d (by simp) o e⟩
 item:=λi s Q E hi st g=>DE st.1 st.2 hi λh' l c=>
  g _ h' s.toks ⟨es[i],XV hi,rfl⟩ ⟨l,st.2.at' λo e=>c.extBut d o j e⟩ λb o hb e=>c.extBut b o (λz=>hb (by simp[z])) e
 done:=λs Q E st g=>next_end f st.1 st.2 λh' m=>g h' s.toks λb o hb e=>m b o (λz=>hb (by simp[z])) e
 self:=λ_ _ _ _ st g=>wpAny_pyIter_keyiter st.1 g
def vo(lo:(d==sysModules)=false):PySem.W.KdlSrc prog w "dict" d d es.size (λi v=>∃e,es[i]?=some e/\v=e.key) (λh=>bS h d es ep) where
 type:=λs x=>bS.typeIs x
 there:=λ_ x=>⟨x.lt,x.lt⟩
 keep:=λ_ _ x k=>x.at' λo e=>k d (.inl rfl) o e
 notList:=by decide
 notTuple:=by decide
 hint:=λ_ _ s _ x g=>PySem.W.kdl_hint_dict (bS.typeIs (s:=s) x) g
 iter:=λ_ _ c x=>⟨_,_,(λ_ _ g=>A4 lo x g),zr c _ (ZT x.lt) es ep,⟨⟨_,Yg _ rfl,rfl,rfl⟩,x.at' λo e=>Yd _ e⟩⟩
end
def pD(k:Int×Bool):D:=.tup [.int k.1,.bl k.2]
def mR:aK:=λds M Q=>match ds with
 |[.ref a]=>match M a with
  |some (.dic [])=>∀p,M p=none->Q (.ref p) (ab M p (.lst []))
  |some (.prs ks)=>∀p,M p=none->Q (.ref p) (ab M p (.lst (ks.map pD)))
  |_=>False
 |_=>False
section
variable {X:Cx}{H:Hp}{a_:Zc}{σ:L2.St}{s:Shared}
def vp{xs:List (List Int×Addr×Value)}(I:ad X a_ σ H s)(e:H a=some (gI a xs)):∃es ep,bS s.heap a es ep/\es.toList=xs.map Ic:=by
 obtain⟨⟨o,es,ep,h1,c,f,g⟩,_⟩:=(show aT X.prog X.w H s.heap a (gI a xs) from I.hok a _ e);exact⟨es,ep,⟨o,h1,c,f⟩,g⟩
theorem vq{K:Za}:∀{ks:List (Int×Bool)}{xs:List (List Int×Addr×Value)}{us:Zd},Paired (jb K H) ks xs->us.length=xs.length ->
  (∀(i:Nat) (v:Value) (x:List Int×Addr×Value),us[i]?=some v->xs[i]?=some x->v=.ref x.2.1)->ak (xs.map λx=>V.ref x.2.1) us
 |_,_,[],.nil,_,_=>.nil
 |_,_,_::_,.nil,h,_=>by cases h
 |_,_,[],.cons _ _,h,_=>by cases h
 |_,_,u::us,.cons (b:=x) _ t,h,g=>.cons (g 0 u x rfl rfl) (vq t (by simpa using h) λi v x a b=>g (i+1) v x (by simpa using a) (by simpa using b))
def GE{ks:List (Int×Bool)}{xs:List (List Int×Addr×Value)}(r:Paired (jb K H) ks xs):af K H (ks.map pD) (xs.map λx=>V.ref x.2.1):=by
 induction r with
 |nil=>exact .nil
 |@cons k x ks xs q _ c=>
  refine .cons (RV.tup_.2 ⟨x.2.1,_,rfl,q.2.1,?_⟩) c;exact .cons (RV.int_.2 rfl) (.cons (RV.bl_.2 rfl) .nil)
theorem DF(hc:X.calm=true):de X (.type "list") mR:=by
 intro ds vs H M Q r rm h;unfold mR at h;split at h
 .rename_i a
  split at h
  .rename_i c
   refine vn hc [.ref a] vs H M Q r rm ?_;show(match qD (M a) with | some kvs=>∀p,M p=none->Q (.ref p) (ab M p (.lst (keysOf kvs))) | none=>nW [.ref a] M Q);rw[c];exact h
  .rename_i ks c
   obtain⟨v,rfl,r1⟩:=cr r;cases RV.ref_.1 r1;obtain⟨xs,n,f,nd,hz,hd⟩:=rm _ _ c;intro a_ s ρ J I A;obtain⟨u,rfl,B⟩:=vals1 A;cases B;obtain⟨es,ep,C,k⟩:=vp I n;have hsz:es.size=xs.length:=by rw[←YD,k,ZF]
   have hl:=ik f;refine PySem.W.kdl_call (vo hd) (I.ok.hd hc) C 'a' λh' tk e_ c' hk E g=>?_
   obtain⟨hs,g⟩:=g;have hv:ak (xs.map λx=>V.ref x.2.1) e_.toList:=vq f (by rw[YD,hs,hsz]) λi v x a b=>by
    obtain⟨e,l,F⟩:=g i v (by rw[←XA];exact a);rw[←XA,k,ZG,b] at l;cases l;exact F
   have j:H s.heap.objs.size=none:=I.hok.fresh (YF _);have kk:=Kp.new (o:=.lst (xs.map λx=>V.ref x.2.1)) j;have G:=af.mono kk _ (GE f);exact⟨.ref s.heap.objs.size,_,I.laid (t':=tk) hk (YF _) (show aT X.prog X.w _ h' _ (.lst (xs.map λx=>V.ref x.2.1)) from⟨by rw[ZF];omega,e_.toList,c',hv,by simpa using E⟩),rfl,kk,.ref _,_,RV.ref_.2 rfl,rm.new (m:=.lst (ks.map pD)) j ⟨_,aA,G⟩,h _ (rm.fresh j)⟩
  .exact Yh h
 .exact Yh h
end
end DD
namespace TS
open PySem PyProof.Rows
variable {n i_ i:Nat}{xs ys:Array Keyed}{st:SortSt}{x:Keyed}{a:Addr}
section
variable {prog:Zv}{w:World}{A:Around}{E:Zb}{s:Shared}{kd:SortKind}{R:Keyed->Int}{g_:Array Keyed}
def oZ(prog:Zv)(w:World)(A:Around)(s:Shared)(kd:SortKind)(R:Keyed->Int)(g_:Array Keyed):Prop:=
 ∀x y,x∈g_.toList->y∈g_.toList->∀(Q:Bool->Shared->Prop) (E:Zb),Q (decide (R x<R y)) s->wpAny 'e' A (keyLt' kd x.1 y.1) Q E s
def Kq{y:Keyed}{Q:Option Bool->SortSt->Prop}(b:oZ prog w A s kd R g_)(hk:kindOf st=kd)(hx:x∈g_.toList)(hy:y∈g_.toList)(h:Q (some (decide (R x<R y))) st):wpS 'e' A E s (lt' x y) Q st:=by
 rw[lt'_eq];refine wpS_bind (wpS_get ?_);rw[hk];refine wpS_bind (wpS_lift (wpAny_attempt (b x y hx hy _ _ ?_)));exact⟨rfl,wpS_pure h⟩
def xR{Q:Keyed->SortSt->Prop}(h:xs[i]?=some x)(hq:Q x st):wpS 'e' A E s (elem' xs i) Q st:=by
 rw[elem'_eq,h];exact wpS_pure hq
end
structure SG (st j_:SortSt):Prop where
 kind:kindOf j_=kindOf st
 arr:arrOf j_=arrOf st
 pend:pendingOf j_=pendingOf st
 fail:failedOf j_=failedOf st
abbrev S7:Type:=Option (Array Keyed)×Array Keyed×Nat×Nat×Nat×Nat×Nat
structure MC (R:Keyed->Int) (g_ a b:Array Keyed):Prop where
 sA:a.toList.Pairwise λx y=>R x<=R y
 sB:b.toList.Pairwise λx y=>R x<=R y
 mA:∀x∈a.toList,x∈g_.toList
 mB:∀x∈b.toList,x∈g_.toList
 nA:0<a.size
 nB:0<b.size
abbrev H5:Type:=Option (Array Keyed)×Nat×Nat×Array Keyed×Nat
abbrev H6:Type:=Option (Array Keyed)×Nat×Nat×Array Keyed×Nat×Nat
abbrev H7:Type:=Option (Array Keyed)×Nat×Nat×Array Keyed×Nat×Nat×Nat
def wr(base:Nat)(r:List Keyed)(b:Nat)(xs:Array Keyed):Array Keyed:=(r.zipIdx b).foldl (λa (p,j)=>a.setIfInBounds (base+j) p) xs
def vt(R:Keyed->Int)(xs:Array Keyed)(lo hi:Nat):Prop:=∀i j x y,lo<=i->i<=j->j<hi->xs[i]?=some x->xs[j]?=some y->R x<=R y
structure SB (kd:SortKind) (g_:Array Keyed) (st:SortSt):Prop where
 perm:(arrOf st).Perm g_
 kind:kindOf st=kd
 fail:failedOf st=none
section
variable {prog:Zv}{w:World}{A:Around}{E:Zb}{s:Shared}{kd:SortKind}{R:Keyed->Int}{g_:Array Keyed}{st:SortSt}
theorem SB.size(h:SB kd g_ st):(arrOf st).size=g_.size:=h.perm.size_eq
theorem SB.at(h:SB kd g_ st)(hi:i<g_.size):∃x,(arrOf st)[i]?=some x/\x∈g_.toList:=by
 have b:i<(arrOf st).size:=by rw[h.size];exact hi
 exact⟨_,getElem?_pos _ i b,(Array.perm_iff_toList_perm.mp h.perm).mem_iff.mp (by simp)⟩
end
def kk(R:Keyed->Int)(xs:Array Keyed)(i:Nat):Int:=match xs[i]? with
 |some p=>R p
 |none=>0
abbrev N2:Type:=Option (Option Nat)×Nat
abbrev N3:Type:=Option (Option Nat)×Nat×Nat
def asc(lo a i_:Nat):StateT SortSt Sem N2:=forIn [a:i_] ((none,a):N2) λ_ c=>do
 match ←ltAt' (lo+c.2) (lo+c.2-1) with
 |some b=>if b=true then pure (.done (none,c.2)) else pure (.yield (none,c.2+1))
 |_=>pure (.done (some none,c.2))
def E6 (lo n i_:Nat):StateT SortSt Sem (Option Nat):=do
  reverseSlice' lo (lo + n)
  let c ← asc lo n i_
  match c.1 with
  | some r=>pure r
  | none=>pure (some c.2)
def DG (lo n i_:Nat):StateT SortSt Sem N3:=forIn [n:i_] ((none,n,0):N3) λ_ c=>do
  match ← ltAt' (lo + c.2.1) (lo + c.2.1 - 1) with
  | some b=>
    if b = true then
      if c.2.2 > 0 then do
        reverseSlice' (lo + c.2.1 - (c.2.2 + 1)) (lo + c.2.1)
        pure (.yield (none,c.2.1 + 1,0))
      else pure (.yield (none,c.2.1 + 1,0))
    else do
      match ← ltAt' (lo + c.2.1 - 1) (lo + c.2.1) with
      | some b=>if b = true then pure (.done (none,c.2.1,c.2.2)) else pure (.yield (none,c.2.1 + 1,c.2.2 + 1))
      | _=>pure (.done (some none,c.2.1,c.2.2))
  | _=>pure (.done (some none,c.2.1,c.2.2))
def E7 (lo n i_:Nat):StateT SortSt Sem (Option Nat):=do
  liftM (rule "list.sort.descending-run")
  let c ← DG lo (n + 1) i_
  match c.1 with
  | some r=>pure r
  | none=>
    if c.2.2 > 0 then do
      reverseSlice' (lo + c.2.1 - (c.2.2 + 1)) (lo + c.2.1)
      E6 lo c.2.1 i_
    else E6 lo c.2.1 i_
def vw (lo i_:Nat):countRun' lo i_ = (do
  let c ← asc lo 1 i_
  match c.1 with
  | some r=>pure r
  | none=>
    if (c.2 == i_) = true then pure (some c.2)
    else if c.2 > 1 then do
      match ← ltAt' lo (lo + c.2 - 1) with
      | some b=>if b = true then pure (some c.2) else do
          reverseSlice' lo (lo + c.2)
          E7 lo c.2 i_
      | _=>pure none
    else E7 lo c.2 i_):=by kernel_rfl
structure gf (kd:SortKind) (g_:Array Keyed) (s_:SortSt) (lo hi:Nat) (st:SortSt):Prop extends SB kd g_ st where
 pend:pendingOf st=pendingOf s_
 out:∀k,k<lo\/hi<=k->(arrOf st)[k]?=(arrOf s_)[k]?
section
variable {prog:Zv}{w:World}{A:Around}{E:Zb}{s:Shared}{kd:SortKind}{R:Keyed->Int}{g_:Array Keyed}{st s_:SortSt}{lo hi:Nat}
theorem gf.set(h:gf kd g_ s_ lo hi st)(hp:xs.Perm (arrOf st))(ho:∀k,k<lo\/hi<=k->xs[k]?=(arrOf st)[k]?):gf kd g_ s_ lo hi (setArr st xs):=
 ⟨⟨hp.trans h.perm,h.kind,h.fail⟩,h.pend,λk hk=>(ho k hk).trans (h.out k hk)⟩
theorem gf.rev(h:gf kd g_ s_ lo hi st){j:Nat}(h1:lo<=i)(b:j<=hi)(c:hi<=g_.size):gf kd g_ s_ lo hi (setArr st (mirror (arrOf st) i j ((j-i) / 2))):=
 h.set (mirror_perm _ _ _ _) λk hk=>by rw[getElem?_mirror_all (by rw[h.toSB.size];omega),if_neg 'a']
def qT{Q:Unit->SortSt->Prop}(h:Q () (setArr st (mirror (arrOf st) i n ((n-i) / 2)))):wpS 'e' A E s (reverseSlice' i n) Q st:=by
 rw[reverseSlice'_eq];exact wpS_modify h
def wp_at(g:oZ prog w A s kd R g_)(b:SB kd g_ st){Q:Option Bool->SortSt->Prop}(hi:i<g_.size)(j:n<g_.size)(h:Q (some (decide (kk R (arrOf st) i<kk R (arrOf st) n))) st):wpS 'e' A E s (ltAt' i n) Q st:=by
 obtain⟨x,c,k⟩:=b.at hi;obtain⟨y,f,l⟩:=b.at j;unfold kk at h;rw[c,f] at h;rw[ltAt'_eq];exact wpS_bind (wpS_get (wpS_bind (xR c (wpS_bind (xR f (Kq g b.kind k l h))))))
def qU(h:xs[i]?=ys[n]?):kk R xs i=kk R ys n:=by unfold kk;rw[h]
def vx(b:n<=xs.size)(k:Nat):kk R (mirror xs i n ((n-i) / 2)) k=if i<=k/\k<n then kk R xs (i+n-1-k) else kk R xs k:=by
 have e:=getElem?_mirror_all (i:=i) b k;by_cases c:i<=k/\k<n
 .rw[if_pos c] at e ⊢;exact qU e
 .rw[if_neg c] at e ⊢;exact qU e
theorem iZ(c:n<=xs.size)(b:∀k,i<=k->k<n->kk R xs k=kk R xs (n-1))(k:Nat):kk R (mirror xs i n ((n-i) / 2)) k=kk R xs k:=by
 rw[vx c];split
 .rw[b _ 'a' 'a',b k 'a' 'a']
 .rfl
def Up(R:Keyed->Int)(xs:Array Keyed)(lo n:Nat):Prop:=∀i j,i<=j->j<n->kk R xs (lo+i)<=kk R xs (lo+j)
def Dn(R:Keyed->Int)(xs:Array Keyed)(lo n:Nat):Prop:=∀i j,i<=j->j<n->kk R xs (lo+j)<=kk R xs (lo+i)
theorem Up.srt(h:Up R xs lo n):vt R xs lo (lo+n):=λi j x y h1 b c hx hy=>by
 have:=h (i-lo) (j-lo) 'a' 'a'
 rw[show lo+(i-lo)=i by omega,show lo+(j-lo)=j by omega] at this;unfold kk at this;rw[hx,hy] at this;exact this
theorem Up.more{xs:Array Keyed}{n:Nat}(h:Up R xs lo n)(h1:n=0\/kk R xs (lo+n-1)<=kk R xs (lo+n)):Up R xs lo (n+1):=by
 intro i j b g;by_cases c:j<n
 .exact h i j b c
 .obtain rfl:j=n:=by omega
  by_cases f:i=j
  .subst f;exact Int.le_refl _
  .have:=h i (j-1) 'a' 'a'
   rw[show lo+(j-1)=lo+j-1 by omega] at this;exact Int.le_trans this (h1.resolve_left 'a')
theorem Dn.more{xs:Array Keyed}{n:Nat}(h:Dn R xs lo n)(h1:n=0\/kk R xs (lo+n)<=kk R xs (lo+n-1)):Dn R xs lo (n+1):=by
 intro i j b g;by_cases c:j<n
 .exact h i j b c
 .obtain rfl:j=n:=by omega
  by_cases f:i=j
  .subst f;exact Int.le_refl _
  .have:=h i (j-1) 'a' 'a'
   rw[show lo+(j-1)=lo+j-1 by omega] at this;exact Int.le_trans (h1.resolve_left 'a') this
theorem A8(f:oZ prog w A s kd R g_)(g:SB kd g_ st){Q:N2->SortSt->Prop}(hn:lo+i_<=g_.size)(ha:1<=n)(j:n<=i_)(hs:Up R (arrOf st) lo n)
  (h:∀a,n<=a->a<=i_->Up R (arrOf st) lo a->(a=i_\/kk R (arrOf st) (lo+a)<kk R (arrOf st) (lo+a-1))->Q (none,a) st):wpS 'e' A E s (asc lo n i_) Q st:=by
 unfold asc;refine wpS_forRange (I:=λx c j_=>j_=st/\c=(none,x)/\Up R (arrOf st) lo x) ?step ?fin ⟨rfl,rfl,hs⟩
 case fin=>
  rintro c j_ ⟨rfl,rfl,b⟩;rw[show max n i_=i_ by omega] at b ⊢;exact h i_ j (YF _) b (.inl rfl)
 case step=>
  rintro x c j_ k l ⟨rfl,rfl,b⟩;dsimp only;refine wpS_bind (wp_at f g 'a' 'a' ?_);by_cases c:kk R (arrOf j_) (lo+x)<kk R (arrOf j_) (lo+x-1)
  .rw[YU c]
   exact wpS_pure (h x k 'a' b (.inr c))
  .rw[ZP c]
   exact wpS_pure ⟨rfl,rfl,b.more (.inr (Int.not_lt.1 c))⟩
theorem Ba(f:oZ prog w A s kd R g_){Q:Option Nat->SortSt->Prop}(b:gf kd g_ s_ lo (lo+i_) st)(hn:lo+i_<=g_.size)(h1:1<=n)(g:n<=i_)(hs:Dn R (arrOf st) lo n)
  (h:∀m j_,gf kd g_ s_ lo (lo+i_) j_->1<=m->m<=i_->Up R (arrOf j_) lo m->Q (some m) j_):wpS 'e' A E s (E6 lo n i_) Q st:=by
 unfold E6;have hz:lo+n<=(arrOf st).size:=by rw[b.toSB.size];omega
 have c:=b.rev (i:=lo) (j:=lo+n) (YF _) 'a' hn;refine wpS_bind (qT (wpS_bind (A8 f c.toSB hn h1 g ?_ λm p k l _=>wpS_pure (h m _ c 'a' k l))));intro i j r t;show kk R (mirror (arrOf st) lo (lo+n) ((lo+n-lo) / 2)) _<=kk R (mirror (arrOf st) lo (lo+n) ((lo+n-lo) / 2)) _;rw[vx hz,vx hz,if_pos 'a',if_pos 'a']
 have:=hs (n-1-j) (n-1-i) 'a' 'a'
 rw[show lo+(n-1-j)=lo+(lo+n)-1-(lo+j) by omega,show lo+(n-1-i)=lo+(lo+n)-1-(lo+i) by omega] at this;exact this
theorem GF(r:oZ prog w A s kd R g_){Q:N3->SortSt->Prop}(C:gf kd g_ s_ lo (lo+i_) st)(hn:lo+i_<=g_.size)(h1:1<=n)(F:n<=i_)(hs:Dn R (arrOf st) lo n)
  (h:∀m b j_,gf kd g_ s_ lo (lo+i_) j_->n<=m->m<=i_->Dn R (arrOf j_) lo m->b+1<=m->(∀k,lo+m-(b+1)<=k->k<lo+m->kk R (arrOf j_) k=kk R (arrOf j_) (lo+m-1))->Q (none,m,b) j_):wpS 'e' A E s (DG lo n i_) Q st:=by
 unfold DG;refine wpS_forRange (I:=λx c j_=>∃b,c=(none,x,b)/\gf kd g_ s_ lo (lo+i_) j_/\Dn R (arrOf j_) lo x/\b+1<=x/\(∀k,lo+x-(b+1)<=k->k<lo+x->kk R (arrOf j_) k=kk R (arrOf j_) (lo+x-1))) ?step ?fin ⟨0,rfl,C,hs,by omega,λk h1 p=>by congr 1;omega⟩
 case fin=>
  rintro c j_ ⟨b,rfl,f,l,hq,g⟩;rw[show max n i_=i_ by omega] at l hq g ⊢;exact h i_ b j_ f F (YF _) l hq g
 case step=>
  rintro x c j_ G O ⟨b,rfl,f,l,hq,g⟩;dsimp only;have hz:lo+x<=(arrOf j_).size:=by rw[f.toSB.size];omega
  refine wpS_bind (wp_at r f.toSB 'a' 'a' ?_);by_cases c:kk R (arrOf j_) (lo+x)<kk R (arrOf j_) (lo+x-1)
  .rw[YU c]
   dsimp only;rw[if_pos rfl];have go:=l.more (.inr (Int.le_of_lt c));by_cases t:b>0
   .rw[if_pos t]
    refine wpS_bind (qT (wpS_pure ⟨0,rfl,f.rev 'a' 'a' hn,λi j J K=>?_,by omega,λk h1 p=>by congr 1;omega⟩));show kk R (mirror (arrOf j_) _ _ _) _<=kk R (mirror (arrOf j_) _ _ _) _;rw[iZ hz g,iZ hz g];exact go i j J K
   .rw[if_neg t]
    exact wpS_pure ⟨0,rfl,f,go,by omega,λk h1 p=>by congr 1;omega⟩
  .rw[ZP c]
   dsimp only;rw[if_neg 'c'];refine wpS_bind (wp_at r f.toSB 'a' 'a' ?_);by_cases B:kk R (arrOf j_) (lo+x-1)<kk R (arrOf j_) (lo+x)
   .rw[YU B]
    exact wpS_pure (h x b j_ f G 'a' l hq g)
   .rw[ZP B]
    have hx:kk R (arrOf j_) (lo+x)=kk R (arrOf j_) (lo+x-1):=by omega
    refine wpS_pure ⟨b+1,rfl,f,l.more (.inr 'a'),by omega,λk h1 p=>?_⟩;rw[show lo+(x+1)-1=lo+x by omega];by_cases L:k=lo+x
    .rw[L]
    .rw[hx];exact g k 'a' 'a'
theorem Bb(b:oZ prog w A s kd R g_){Q:Option Nat->SortSt->Prop}(p:gf kd g_ s_ lo (lo+i_) st)(hn:lo+i_<=g_.size)(r:n+1<=i_)(hs:Dn R (arrOf st) lo (n+1))
  (h:∀m j_,gf kd g_ s_ lo (lo+i_) j_->1<=m->m<=i_->Up R (arrOf j_) lo m->Q (some m) j_):wpS 'e' A E s (E7 lo n i_) Q st:=by
 unfold E7;refine wpS_bind (wpS_lift (wpAny_rule ⟨rfl,?_⟩));refine wpS_bind (GF b p hn 'a' r hs λm t j_ c F f g hq k=>?_);dsimp only;have hz:lo+m<=(arrOf j_).size:=by rw[c.toSB.size];omega
 by_cases l:t>0
 .rw[if_pos l]
  refine wpS_bind (qT (Ba b (c.rev 'a' 'a' hn) hn 'a' f (λi j B C=>?_) h));show kk R (mirror (arrOf j_) _ _ _) _<=kk R (mirror (arrOf j_) _ _ _) _;rw[iZ hz k,iZ hz k];exact g i j B C
 .rw[if_neg l]
  exact Ba b c hn 'a' f g h
theorem wF(b:oZ prog w A s kd R g_){Q:Option Nat->SortSt->Prop}(f:SB kd g_ st)(hn:lo+i_<=g_.size)(h1:1<=i_)
  (h:∀m j_,gf kd g_ st lo (lo+i_) j_->1<=m->m<=i_->Up R (arrOf j_) lo m->Q (some m) j_):wpS 'e' A E s (countRun' lo i_) Q st:=by
 have g:gf kd g_ st lo (lo+i_) st:=⟨f,rfl,λ_ _=>rfl⟩;rw[vw];refine wpS_bind (A8 b f hn (YF 1) h1 (λi j l p=>by cases(show i=j by omega);exact Int.le_refl _) λn C F r L=>?_);dsimp only;by_cases B:n=i_
 .rw[if_pos (beq_iff_eq.2 B)]
  exact wpS_pure (h n st g C F r)
 .rw[if_neg (λz=>B (beq_iff_eq.1 z))]
  have G:=L.resolve_left B;have hz:lo+n<=(arrOf st).size:=by rw[f.size];omega
  by_cases I:n>1
  .rw[if_pos I]
   refine wpS_bind (wp_at b f 'a' 'a' ?_);by_cases c:kk R (arrOf st) lo<kk R (arrOf st) (lo+n-1)
   .rw[YU c]
    exact wpS_pure (h n st g C F r)
   .rw[ZP c]
    dsimp only;rw[if_neg 'c'];have t:∀k,lo<=k->k<lo+n->kk R (arrOf st) k=kk R (arrOf st) (lo+n-1):=by
     intro k k1 k2;have J:=r 0 (k-lo) 'a' 'a';have K:=r (k-lo) (n-1) 'a' 'a';rw[show lo+(k-lo)=k by omega] at J K;rw[show lo+(n-1)=lo+n-1 by omega] at K;rw[Nat.add_zero] at J;omega
    refine wpS_bind (qT (Bb b (g.rev 'a' 'a' hn) hn 'a' ?_ h));have O:Dn R (arrOf st) lo (n+1):=by
     refine Dn.more (λi j l p=>?_) (.inr (Int.le_of_lt G));rw[t (lo+i) 'a' 'a',t (lo+j) 'a' 'a'];exact Int.le_refl _
    intro i j l p;show kk R (mirror (arrOf st) _ _ _) _<=kk R (mirror (arrOf st) _ _ _) _;rw[iZ hz t,iZ hz t];exact O i j l p
  .rw[if_neg I]
   obtain rfl:n=1:=by omega
   refine Bb b g hn 'a' (Dn.more (λi j l p=>?_) (.inr (Int.le_of_lt G))) h;obtain rfl:i=j:=by omega
   exact Int.le_refl _
def Bc(hs:n<xs.size)(hd:i<=n)(k:Nat):kk R (bubble xs n i) k=if k=n-i then kk R xs n else if n-i<k/\k<=n then kk R xs (k-1) else kk R xs k:=by
 have e:=getElem?_bubble hs i hd k;by_cases b:k=n-i
 .rw[if_pos b] at e ⊢;exact qU e
 .rw[if_neg b] at e ⊢
  by_cases c:n-i<k/\k<=n
  .rw[if_pos c] at e ⊢;exact qU e
  .rw[if_neg c] at e ⊢;exact qU e
theorem tR (L:oZ prog w A s kd R g_) {ok:Nat} {Q:Bool->SortSt->Prop} (O:gf kd g_ s_ lo (lo + i_) st) (S:n<=i_) (hn:lo + i_<=g_.size) (hok:ok<=n) (hs:Up R (arrOf st) lo ok)
    (h:∀ j_,gf kd g_ s_ lo (lo + i_) j_->Up R (arrOf j_) lo n->Q true j_):wpS 'e' A E s (binarySort' lo n ok) Q st:=by
  rw [binarySort'_eq]
  refine wpS_bind (wpS_mono (wpS_forRange (I:=λk c j_=>c = (none,())/\gf kd g_ s_ lo (lo + i_) j_/\Up R (arrOf j_) lo (min k n))
    (Q:=λc j_=>c = (none,())/\gf kd g_ s_ lo (lo + i_) j_/\Up R (arrOf j_) lo n) ?step ?fin ?init) ?post)
  case post=>
    rintro c j_ ⟨rfl,g,f⟩
    exact wpS_pure (h j_ g f)
  case init=>
    refine ⟨rfl,O,λi j F P=>?_⟩
    by_cases c:ok = 0
    . obtain rfl:i = j:=by omega
      exact Int.le_refl _
    . exact hs i j F 'a'
  case fin=>
    rintro c j_ ⟨hc,g,f⟩
    refine ⟨hc,g,?_⟩
    rwa [show min (max (max ok 1) n) n = n by omega] at f
  case step=>
    rintro k c j_ T U ⟨rfl,g,f⟩
    rw [show min k n = k by omega] at f
    refine wpS_bind (wpS_mono (wpS_forRange (I:=λx c b=>b = j_/\∃ l r,c = (none,l,r)/\l<=r/\r<=k/\r - l<=k - x/\(∀ i,i < l->kk R (arrOf j_) (lo + i)<=kk R (arrOf j_) (lo + k))/\(∀ i,r<=i->i < k->kk R (arrOf j_) (lo + k) < kk R (arrOf j_) (lo + i)))
      (Q:=λc b=>b = j_/\∃ l r,c = (none,l,r)/\l<=k/\(∀ i,i < l->kk R (arrOf j_) (lo + i)<=kk R (arrOf j_) (lo + k))/\(∀ i,l<=i->i < k->kk R (arrOf j_) (lo + k) < kk R (arrOf j_) (lo + i))) ?istep ?ifin ?iinit) ?ipost)
    case iinit=>exact ⟨rfl,0,k,rfl,by omega,by omega,by omega,λi hi=>by omega,λi h1 G=>by omega⟩
    case ifin=>
      rintro c b ⟨rfl,l,r,rfl,J,p,t,B,C⟩
      obtain rfl:l = r:=by omega
      exact ⟨rfl,l,l,rfl,p,B,C⟩
    case istep=>
      rintro x c b _ V ⟨rfl,l,r,rfl,J,p,t,B,C⟩
      dsimp only
      by_cases K:l >= r
      . rw [if_pos K]
        obtain rfl:l = r:=by omega
        exact wpS_pure ⟨rfl,l,l,rfl,p,B,C⟩
      . rw [if_neg K]
        refine wpS_bind (wp_at L g.toSB 'a' 'a' ?_)
        by_cases c:kk R (arrOf b) (lo + k) < kk R (arrOf b) (lo + (l + r) / 2)
        . rw [YU c]
          exact wpS_pure ⟨rfl,l,(l + r) / 2,rfl,by omega,by omega,by omega,B,λi h1 G=>Int.lt_of_lt_of_le c (f _ _ h1 G)⟩
        . rw [ZP c]
          exact wpS_pure ⟨rfl,(l + r) / 2 + 1,r,rfl,by omega,by omega,by omega,λi h1=>Int.le_trans (f i ((l + r) / 2) 'a' 'a') (Int.not_lt.mp c),C⟩
    case ipost=>
      rintro c b ⟨rfl,l,r,rfl,J,p,t⟩
      show wpS _ _ _ _ (do moveDown' (lo + k) (lo + l); pure (ForInStep.yield (none,()))) _ _
      rw [moveDown'_eq]
      have hz:lo + k < (arrOf b).size:=by rw [g.toSB.size]; omega
      refine wpS_bind (wpS_modify (wpS_pure ⟨rfl,g.set (bubble_perm _ _ _) λm hm=>?_,?_⟩))
      . rw [getElem?_bubble hz _ 'a',if_neg 'a',if_neg 'a']
      . rw [show min (k + 1) n = k + 1 by omega]
        intro i j F P
        show kk R (bubble (arrOf b) (lo + k) (lo + k - (lo + l))) (lo + i)<=kk R (bubble (arrOf b) (lo + k) (lo + k - (lo + l))) (lo + j)
        rw [Bc hz 'a',Bc hz 'a',show lo + k - (lo + k - (lo + l)) = lo + l by omega]
        repeat' split
        all_goals first
          | (exfalso; omega)
          | exact Int.le_refl _
          | exact p _ 'a'
          | (rw [show lo + j - 1 = lo + (j - 1) by omega]; exact Int.le_of_lt (t _ 'a' 'a'))
          | exact Int.le_of_lt (t _ 'a' 'a')
          | (rw [show lo + i - 1 = lo + (i - 1) by omega,show lo + j - 1 = lo + (j - 1) by omega]; exact f _ _ 'a' 'a')
          | (rw [show lo + j - 1 = lo + (j - 1) by omega]; exact f _ _ 'a' 'a')
          | exact f _ _ 'a' 'a'
end
section
variable {prog:Zv}{w:World}{A:Around}{E:Zb}{s:Shared}
theorem DH  {P:Fin->Shared->Prop}   (g:s.heap.get? a = some (seqObj "list" #[] n)) (c:failedOf st = none) (hz:(arrOf st).size<=4000) (h:P (.done (.ret .none)) { s with heap:=s.heap.update a (Obj.mapSeq λ_=>(arrOf st).map (·.2)) }) :
    wpAny 'e' A (do
      let b:=(← seqEpoch a) != n
      Builtin.List.listUpdate (.ref a) λ_=>(arrOf st).map (·.2)
      if let some n:=failedOf st then rule "list.sort.comparison-raised"; throw n
      if b then rule "list.sort.modified"; raiseError "ValueError" "list modified during sort"
      ret .none) P E s:=by
  refine Yb (seqEpoch_at g rfl (Yb (listUpdate_at g rfl ?_ (hsz2:=by rw [Array.size_map,sizeLine_eq]; omega))))
  rw [c,bne_self_eq_false]
  exact Yc h
end
abbrev U1:Type:=Option Unit×Unit
abbrev UN:Type:=Option Unit×Nat
def rM (c:Nat):StateT SortSt Sem (ForInStep U1):=do
  let s ← get
  match (if (pendingOf s).size > 1 then (pendingOf s)[(pendingOf s).size - 2]? else none) with
  | some (_,_,f)=>
    if f<=c then pure (.done (none,()))
    else do
      let b ← mergeAt' ((pendingOf s).size - 2)
      if (!b) = true then pure (.done (some (),())) else pure (.yield (none,()))
  | _=>pure (.done (none,()))
def rL(lo n:Nat):StateT SortSt Sem (ForInStep UN):=do
 modify λs=>setPending s ((pendingOf s).push (lo,n,0))
 pure (.yield (none,lo+n))
def rP (size lo n:Nat):StateT SortSt Sem (ForInStep UN):=do
  let s ← get
  match (pendingOf s).back? with
  | some (s1,b,_)=>do
    let c ← forIn [0:size] ((none,()):U1) λ_ _=>rM (power' size (2 * s1 + b) (2 * s1 + b + b + n) size)
    match c.1 with
    | some r=>pure (.done (some r,lo))
    | none=>do
      modify λs=>setPending s ((pendingOf s).modify ((pendingOf s).size - 1) λ(st,len,_)=>(st,len,power' size (2 * s1 + b) (2 * s1 + b + b + n) size))
      rL lo n
  | _=>rL lo n
def rB (size f lo:Nat):StateT SortSt Sem (ForInStep UN):=
  if lo >= size then pure (.done (none,lo))
  else do
    match ← countRun' lo (size - lo) with
    | some c=>
      if c < f then do
        liftM (rule "list.sort.binary-insertion")
        let b ← binarySort' lo (min (size - lo) f) c
        if (!b) = true then pure (.done (some (),lo)) else rP size lo (min (size - lo) f)
      else rP size lo c
    | _=>pure (.done (some (),lo))
def rF:StateT SortSt Sem (ForInStep U1):=do
  let s ← get
  if (pendingOf s).size<=1 then pure (.done (none,()))
  else do
    let b ← mergeAt' (if (if (pendingOf s).size - 2 > 0 then (pendingOf s)[(pendingOf s).size - 2 - 1]?.map (·.2.1) else none).any (· < ((pendingOf s)[(pendingOf s).size - 2 + 1]?.elim 0 (·.2.1))) = true then (pendingOf s).size - 2 - 1 else (pendingOf s).size - 2)
    if (!b) = true then pure (.done (some (),())) else pure (.yield (none,()))
def vy:sortRuns' = (do
  let s ← get
  let c ← forIn [0:(arrOf s).size] ((none,0):UN) λ_ c=>rB (arrOf s).size (minRun' (arrOf s).size (arrOf s).size 0) c.2
  match c.1 with
  | some r=>pure r
  | none=>do
    let c ← forIn [0:(arrOf s).size] ((none,()):U1) λ_ _=>rF
    match c.1 with
    | some r=>pure r
    | none=>pure ()):=by kernel_rfl
def zt:∀n,n<64->minRun' n n 0=n:=by rfl'
section
variable {prog:Zv}{w:World}{A:Around}{E:Zb}{s:Shared}{kd:SortKind}{R:Keyed->Int}{g_:Array Keyed}{st:SortSt}
def Bd{Q:ForInStep UN->SortSt->Prop}(hp:pendingOf st = #[])(h:Q (.yield (none,i+n)) (setPending st #[(i,n,0)])):wpS 'e' A E s (rP i_ i n) Q st:=by
 unfold rP;refine wpS_bind (wpS_get ?_);rw[hp];refine wpS_bind (wpS_modify (wpS_pure ?_));rw[hp];exact h
theorem vz(p:oZ prog w A s kd R g_)(l:SB kd g_ st)(hp:pendingOf st = #[])(t:g_.size<64){Q:Unit->SortSt->Prop}(h:∀j_,(arrOf j_).Perm g_->failedOf j_=none->vt R (arrOf j_) 0 g_.size->Q () j_):wpS 'e' A E s sortRuns' Q st:=by
 rw[vy];refine wpS_bind (wpS_get ?_);rw[l.size,zt _ t];refine wpS_bind (wpS_mono (wpS_forRange (I:=λx c j_=>(x=0/\c=(none,0)/\j_=st)\/(c=(none,g_.size)/\SB kd g_ j_/\(pendingOf j_).size<=1/\vt R (arrOf j_) 0 g_.size)) (Q:=λc j_=>c.1=none/\SB kd g_ j_/\(pendingOf j_).size<=1/\vt R (arrOf j_) 0 g_.size) ?step ?fin (.inl ⟨rfl,rfl,rfl⟩)) ?post)
 case fin=>
  rintro c j_ (⟨h1,rfl,rfl⟩ | ⟨rfl,z⟩)
  .exact⟨rfl,l,by rw[hp];decide,λi j x y _ a b=>by omega⟩
  .exact⟨rfl,z⟩
 case step=>
  rintro x c j_ _ hx z;unfold rB;rcases z with⟨rfl,rfl,rfl⟩ | ⟨rfl,z⟩
  .rw[if_neg 'a']
   refine wpS_bind (wF p l 'a' 'a' λm f g m1 m2 up=>?_);dsimp only;by_cases y:m<g_.size
   .rw[if_pos y]
    refine wpS_bind (wpS_lift (wpAny_rule ⟨rfl,?_⟩));refine wpS_bind (tR p g 'a' 'a' 'a' up λG k B=>?_);rw[show min (g_.size-0) g_.size=g_.size by omega] at *;have q:=B.srt;rw[Nat.zero_add] at q;exact Bd (k.pend.trans hp) (.inr ⟨by rw[Nat.zero_add],⟨k.perm,k.kind,k.fail⟩,YF _,q⟩)
   .rw[if_neg y]
    obtain rfl:m=g_.size:=by omega
    have q:=up.srt;rw[Nat.zero_add] at q;exact Bd (g.pend.trans hp) (.inr ⟨by rw[Nat.zero_add],⟨g.perm,g.kind,g.fail⟩,YF _,q⟩)
  .rw[if_pos (YF _)]
   exact wpS_pure ⟨rfl,z⟩
 case post=>
  rintro c j_ ⟨e,r,C,F⟩;rw[e];dsimp only;refine wpS_bind (wpS_mono (wpS_forRange (I:=λ_ c f=>c=(none,())/\f=j_) (Q:=λc f=>c=(none,())/\f=j_) ?f (λ_ _ z=>z) ⟨rfl,rfl⟩) ?po2)
  case f=>
   rintro x c f _ _ ⟨rfl,rfl⟩;unfold rF;refine wpS_bind (wpS_get ?_);rw[if_pos C];exact wpS_pure ⟨rfl,rfl⟩
  case po2=>
   rintro c f ⟨rfl,rfl⟩;exact wpS_pure (h _ r.perm r.fail F)
end
section
variable {prog:Zv}{w:World}{A:Around}{E:Zb}{s:Shared}
def E8(a:Addr)(h h':Heap):Prop:=∀b o,b≠a->h.get? b=some o->h'.get? b=some o
theorem vA{R:Keyed->Int}{kd:SortKind}{vs:Zd}{P:Fin->Shared->Prop}(g:s.heap.get? a=some (seqObj "list" vs.toArray n))(t:∀h',E8 a s.heap h'->oZ prog w A { s with heap:=h' } kd R (pairsOf vs))
  (hk:2<=vs.length->∀h',E8 a s.heap h'->∀Q:SortKind->Shared->Prop,Q kd { s with heap:=h' }->wpAny 'e' A (keyKind' vs.toArray) Q E { s with heap:=h' }) (hz:vs.length<=63)
  (h:∀xs:Array Keyed,xs.Perm (pairsOf vs)->vt R xs 0 (pairsOf vs).size->P (.done (.ret .none)) { s with heap:=sortedHeap s.heap a vs (xs.map (·.2)) }):wpAny 'e' A (Builtin.«list.sort» ⟨[.ref a],[]⟩) P E s:=by
 have z:vs.toArray.size=vs.length:=by simp
 have G:=pairsOf_size vs;rw[list_sort_plain];refine Yb (listItems_at g rfl (Yb (listUpdate_at g rfl ?_ (hsz:=by rw[z,sizeLine_eq];omega))));have k:=get?_update_seq g (λ_=>#[]);generalize (if(#[]:Array Value).size==vs.toArray.size then n else n+1)=e at k;refine Yb (seqEpoch_at k rfl (Yb (wpAny_newTuple (Yb (wpAny_newList (Yj ?_))))));have B:(((s.heap.update a (Obj.mapSeq λ_=>#[])).push (seqObj "tuple" vs.toArray 0)).push (seqObj "list" #[] 0)).get? a=some (seqObj "list" #[] e):=Yd _ (Yd _ k);have l:E8 a s.heap (((s.heap.update a (Obj.mapSeq λ_=>#[])).push (seqObj "tuple" vs.toArray 0)).push (seqObj "list" #[] 0)):=λb o hb C=>Yd _ (Yd _ ((Heap.get?_update_other _ _ (Ne.symm hb)).trans C))
 have fin:=λ(st:SortSt) (p:(arrOf st).Perm (pairsOf vs)) (f:failedOf st=none) (q:vt R (arrOf st) 0 (pairsOf vs).size)=>DH (prog:=prog) (w:=w) (A:=A) (E:=E) (s:={ s with heap:=((s.heap.update a (Obj.mapSeq λ_=>#[])).push (seqObj "tuple" vs.toArray 0)).push (seqObj "list" #[] 0) }) B f (by rw[p.size_eq];omega) (h _ p q)
 by_cases c:vs.toArray.size<2
 .rw[if_pos c,if_pos c]
  refine Yb (Yc ?_);dsimp only;rw[StateT.run_pure];refine Yb (Yc (fin _ (Array.Perm.refl _) rfl λi j x y _ I J h1 m=>?_));obtain rfl:i=j:=by omega
  rw[h1] at m;cases m;exact Int.le_refl _
 .rw[if_neg c,if_neg c]
  refine Yb (hk 'a' _ l _ (Yb (wpAny_mono (vz (t _ l) ⟨Array.Perm.refl _,rfl,rfl⟩ rfl 'a' (Q:=λ_ st=>(arrOf st).Perm (pairsOf vs)/\failedOf st=none/\vt R (arrOf st) 0 (pairsOf vs).size) λst p f q=>⟨p,f,q⟩) ?_ λ_ _ e=>e)));intro r K F;obtain⟨rfl,p,f,q⟩:=F;exact fin r.2 p f q
def GG{c f:Type}{F:c->f->Prop}{m m':List f}(h:m'.Perm m):∀{l:List c},Paired F l m->∃b,b.Perm l/\Paired F b m':=by
 induction h with
 |nil=>intro l hl;cases hl;exact⟨[],.refl _,.nil⟩
 |cons x h g=>
  intro l hl;cases hl with
  |cons r t=>
   obtain⟨b,p,q⟩:=g t;exact⟨_::b,p.cons _,.cons r q⟩
 |swap x y k=>
  intro l hl;cases hl with
  |cons r t=>cases t with
   |cons j t=>exact⟨_,.swap _ _ _,.cons j (.cons r t)⟩
 |trans h1 I B C=>
  intro l hl;obtain⟨J,p1,q1⟩:=C hl;obtain⟨G,p2,q2⟩:=B q1;exact⟨G,p2.trans p1,q2⟩
theorem vB{f c:Type}{F:f->c->Prop}:∀{l:List f}{m:List c}{b:c},Paired F l m->b∈m->∃a∈l,F a b
 |_,_,_,.nil,h=>nomatch h
 |_,_,_,.cons r t,h=>by
  rcases ZZ.mp h with rfl | h
  .exact⟨_,ZX,r⟩
  .obtain⟨a,h1,g⟩:=vB t h
   exact⟨a,.tail _ h1,g⟩
theorem sv{c f:Type}{F:c->f->Prop}:∀{l:List c}{m:List f}{i:Nat}{a:c},Paired F l m->l[i]?=some a->∃b,m[i]?=some b/\F a b
 |_,_,_,_,.nil,e=>by simp at e
 |_,_,0,_,.cons r _,e=>by simp at e;subst e;exact⟨_,rfl,r⟩
 |_,_,i+1,a,.cons _ t,e=>by
  obtain⟨b,h1,g⟩:=sv (i:=i) (a:=a) t (by simpa using e);exact⟨b,by simpa using h1,g⟩
def pairsOf_toList(vs:Zd):(pairsOf vs).toList=vs.map λv=>(v,v):=by
 unfold pairsOf;rw[Array.toList_zip];show vs.zip vs=_;induction vs with
 |nil=>rfl
 |cons v vs b=>simp[b]
end
end TS
namespace DD
open PySem PySem.Spec PyProof.Rows L2
section
variable {X:Cx}{H:Hp}
theorem xS{c f:Type}:∀{l:List c}{m:List f},l.length=m.length->(l.zip m).map (·.1)=l
 |[],[],_=>rfl
 |[],_::_,h=>by cases h
 |_::_,[],h=>by cases h
 |a::l,b::m,h=>by rw[List.zip_cons_cons,YK,xS (by simpa using h)]
end
end DD
namespace DD
open PySem PySem.Spec PyProof.Rows L2 PySem.MeetsSeq PySem.SeqAt
def DI(a b:Bool):Gives (Builtin.«int.__lt__» ⟨[.bool a,.bool b],[]⟩) (.val (.bool (decide (b2i a<b2i b)))):=
 .of_wp λM A E s Q h=>by obtain⟨hp,g,d,tk,os⟩:=s;wp_walk;exact⟨_,rfl,h⟩
end DD
namespace TS
open PySem PyProof.Rows
variable {Q:Zb}{v:Value}{q:Int×Bool}{a:Bool}
section
variable {prog:Zv}{w:World}{A:Around}{E:Zb}{s:Shared}
def gZ(h:Heap)(p:Int×Bool)(v:Value):Prop:=∃a t,v=.ref a/\h.IsTuple a #[.int p.1 t,.bool p.2]
def cZ(p:Int×Bool):Int:=p.1*2+DD.b2i p.2
def Lu:Value->Int
 |.bool b=>DD.b2i b
 |_=>0
def Jc(h:Heap)(v:Value):Int:=match v with
 |.ref a=>match h.get? a with
  |some o=>match o.data with
   |.seq xs _=>numOf (xs[0]?.getD .none)*2+Lu (xs[1]?.getD .none)
   |_=>0
  |none=>0
 |_=>0
def lq{h:Heap}(r:gZ h q v):Jc h v=cZ q:=by
 obtain⟨a,t,rfl,o,ho,_,n,hd⟩:=r;unfold Jc;simp only[ho,hd];rfl
def lt_bool{b:Bool}(h:Q (.bool (decide (DD.b2i a<DD.b2i b))) s):wpAny 'e' A (compareOp .Lt (.bool a) (.bool b)) Q E s:=
 compareOp_gives (op:=.Lt) (T:="bool") rfl rfl F.slot_bool_lt F.entry_int_lt (F.args_int_lt_2 _ _) (DD.DI a b) (λx=>nomatch x) h
def xT(b:Bool):0<=DD.b2i b/\DD.b2i b<2:=by cases b<;>decide
theorem GH{p:Int×Bool}{y:Value}{Q:Bool->Shared->Prop}(hp:gZ s.heap p v)(hq:gZ s.heap q y)(k:Q (decide (cZ p<cZ q)) s):wpAny 'e' A (keyLt' (tuples' true) v y) Q E s:=by
 obtain⟨a,t,rfl,o,ho,_,n,hd⟩:=hp;obtain⟨b,t',rfl,o',f,_,n',g⟩:=hq;obtain⟨p1,p2⟩:=p;obtain⟨q1,q2⟩:=q;have j:=xT p2;have l:=xT q2;unfold cZ at *;dsimp only at *;refine PySem.W.kat_lt ho hd f g (PySem.W.kat_cons (wpAny_eqBool_int ?_));by_cases e:p1=q1
 .subst e
  rw[XD];refine PySem.W.kat_yes (PySem.W.kat_cons (SeqAt.EqAt.bool_bool p2 q2 _ _ _ _ ?_));by_cases c:p2=q2
  .subst c
   rw[XD];refine PySem.W.kat_yes (PySem.W.kat_nil ?_);rw[show decide (p1*2+DD.b2i p2<p1*2+DD.b2i p2)=false by simp] at k;exact k
  .rw[show(p2==q2)=false by simpa using c]
   refine PySem.W.kat_no (PySem.W.kat_one _ _ (lt_bool (show Q (decide (DD.b2i p2<DD.b2i q2)) s from ?_)));rw[show decide (p1*2+DD.b2i p2<p1*2+DD.b2i q2)=decide (DD.b2i p2<DD.b2i q2) by rw[decide_eq_decide];omega] at k;exact k
 .rw[show(p1==q1)=false by simpa using e]
  refine PySem.W.kat_no ?_;show wpAny _ _ (oneLt' true _ _) _ _ _;refine oneLt_int ?_;rw[show decide (p1*2+DD.b2i p2<q1*2+DD.b2i q2)=decide (p1<q1) by rw[decide_eq_decide];omega] at k;exact k
theorem tD{h:Heap}:∀{ps:List (Int×Bool)}{vs:Zd},Paired (gZ h) ps vs->∃fs,PySem.W.KatTups h vs fs/\fs.length=vs.length/\∀v∈fs,∃i t,v=Value.int i t
 |_,_,.nil=>⟨[],.nil,rfl,λ_ z=>nomatch z⟩
 |_,_,.cons r t=>by
  obtain⟨fs,h1,b,c⟩:=tD t;obtain⟨a,t,rfl,o,ho,hc,n,hd⟩:=r;refine⟨_::fs,PySem.W.KatTups.cons ho hc hd rfl h1,by simp[b],λv hv=>?_⟩;rcases ZZ.mp hv with rfl | hv
  .exact⟨_,_,rfl⟩
  .exact c v hv
theorem tS{F:Type}{G:F->Value->Prop}{f:F->Int×Bool}{l:List F}{a:Addr}{vs:Zd}{n:Nat}{P:Fin->Shared->Prop}(g:s.heap.get? a=some (seqObj "list" vs.toArray n))(B:∀x v,G x v->gZ s.heap (f x) v)(O:∀x v t,G x v->v=.ref t->t≠a)(hl:Paired G l vs)(hz:vs.length<=63)
  (h:∀(out:Zl) (c:List F),Paired G c out.toList->c.Perm l->c.Pairwise (λx y=>cZ (f x)<=cZ (f y))->P (.done (.ret .none)) { s with heap:=sortedHeap s.heap a vs out }):wpAny 'e' A (Builtin.«list.sort» ⟨[.ref a],[]⟩) P E s:=by
 have at':∀h',E8 a s.heap h'->∀x v,G x v->gZ h' (f x) v:=λh' hb x v r=>by
  obtain⟨b,t,rfl,o,ho,q⟩:=B x v r;exact⟨b,t,rfl,o,hb b o (O x _ b r rfl) ho,q⟩
 have C:∀k∈(pairsOf vs).toList,k.1=k.2/\k.1∈vs:=λk hk=>by
  rw[pairsOf_toList,XX] at hk;obtain⟨v,hv,rfl⟩:=hk;exact⟨rfl,hv⟩
 refine vA (R:=λk=>Jc s.heap k.1) (kd:=tuples' true) g (λh' hb x y hx hy Q E q=>?_) (λm h' hb Q q=>?_) hz λxs p q=>?_
 .obtain⟨a1,Qb,r1⟩:=vB hl (C x hx).2
  obtain⟨a2,Sr,r2⟩:=vB hl (C y hy).2;refine GH (at' h' hb _ _ r1) (at' h' hb _ _ r2) ?_;have S:=lq (B _ _ r1);have U:=lq (B _ _ r2);rw[←S,←U];exact q
 .have V:Paired (gZ h') (l.map f) vs:=by
   clear g hz m C h;induction hl with
   |nil=>exact .nil
   |cons r t Y=>exact .cons (at' h' hb _ _ r) Y
  obtain⟨fs,k1,k2,k3⟩:=tD V;refine PySem.W.kat_kind (T:=.type "int") k1 'a' (λv hv=>?_) 'c' ?_
  .obtain⟨i,t,rfl⟩:=k3 v hv
   exact .now
  .exact q
 .have hp:(xs.map (·.2)).toList.Perm vs:=by
   have:=(Array.perm_iff_toList_perm.mp p).map (·.2)
   rw[pairsOf_toList,ZM] at this;rw[Array.toList_map];refine this.trans (List.Perm.of_eq ?_);exact List.map_id' vs
  obtain⟨c,h1,m⟩:=GG hp hl;refine h _ c m h1 ?_;rw[List.pairwise_iff_getElem];intro i j hi Z Mn;have hsz:c.length=xs.size:=by
   have:=Paired.length m
   simpa using this
  obtain⟨v,hv,rv⟩:=sv m (ZD hi);obtain⟨v',J,Me⟩:=sv m (ZD Z);have K:xs[i]?=some (xs[i]' 'a'):=XV 'a';have L:xs[j]?=some (xs[j]' 'a'):=XV 'a';have m1:=(C _ ((Array.perm_iff_toList_perm.mp p).mem_iff.mp (by simpa using(Array.getElem_mem (xs:=xs) (i:=i) 'a')))).1;have m2:=(C _ ((Array.perm_iff_toList_perm.mp p).mem_iff.mp (by simpa using(Array.getElem_mem (xs:=xs) (i:=j) 'a')))).1;have I:=q i j _ _ (YL _) (Nat.le_of_lt Mn) (by rw[←p.size_eq];omega) K L;rw[Array.toList_map,ZG,XA,K] at hv;rw[Array.toList_map,ZG,XA,L] at J;cases hv;cases J;dsimp only at I;rw[m1,m2,lq (B _ _ rv),lq (B _ _ Me)] at I;exact I
end
end TS
namespace DD
open PySem PySem.Spec PyProof.Rows L2
variable {c_:Zl}{vs:Zd}{Q:Zb}{t:WA}{ML p2:Pos}
section
variable {prog:Zv}{w:World}{A:Around}{E:Zb}{s:Shared}
def zu {c:Type} {G:c->Value->Prop} {f:c->Int × Bool} {l:List c}  {h':Heap} {tk:Nat}  (g:∀ x v,G x v->TS.gZ h' (f x) v) (hl:Paired G l vs) (hz:vs.length<=63)
  (h:∀ (out:Zl) (b:List c),Paired G b out.toList->b.Perm l->b.Pairwise (λx y=>TS.cZ (f x)<=TS.cZ (f y))->Q (.ref h'.objs.size) { s with heap:=sortedHeap (h'.push (seqObj "list" vs.toArray 0)) h'.objs.size vs out,toks:=tk }) :
  wpAny 'e' A.in1 (do
   let l ← newList vs
   let _ ← holding [l] (call (.builtin "list.sort") [l] [])
   ret l) (λfin k=>∃ v,fin = Fin.done (.ret v)/\Q v k) E { s with heap:=h',toks:=tk }:=by
 refine Yb (wpAny_newList ?_)
 have j:(h'.push (seqObj "list" vs.toArray 0)).get? h'.objs.size = some (seqObj "list" vs.toArray 0):=Yg _ rfl
 show wpAny _ _ _ _ _ { s with heap:=h'.push (seqObj "list" vs.toArray 0),toks:=tk }
 refine Yb (Yj (wpAny_call_entry slot_list_sort ⟨_,j,rfl⟩ entry_list_sort (TS.tS (G:=G) (f:=f) j (λx v r=>?_) (λx v t r e=>?_) hl hz λout b m n p=>⟨_,rfl,?_⟩) (args_list_sort _)))
 .obtain ⟨a,t,rfl,o,ho,q⟩:=g x v r
  exact ⟨a,t,rfl,o,Yd _ ho,q⟩
 .obtain ⟨a,t',rfl,o,ho,q⟩:=g x v r
  cases e
  exact ZT (Ye ho)
 .exact Yc ⟨_,rfl,h out b m n p⟩
end
section
variable {prog:Zv}{w:World}{A:Around}{E:Zb}{s:Shared}{d:Addr}{es:Array DictEntry}{ep:Nat}
def vC{Q:List Value->Shared->Prop}(f:A.handled=none)(hd:(d==sysModules)=false)(x:bS s.heap d es ep)(hl:es.size<=sizeLine)
  (g:∀h' tk e_,(∀b o,s.heap.get? b=some o->h'.get? b=some o)->s.heap.objs.size<h'.objs.size->ItemsOf (λi v=>∃e,es[i]?=some e/\v=e.key) e_ es.size->Q e_.toList { s with heap:=h',toks:=tk }):wpAny 'e' A (collect (.ref d)) Q E s:=by
 have go:∀R:Result->Shared->Prop,(∀h' tk e_ c',(∀b o,s.heap.get? b=some o->h'.get? b=some o)->h'.get? s.heap.objs.size=some { cls:=.type "list",dict:=none,data:=.seq e_ c',slots:=#[] }->ItemsOf (λi v=>∃e,es[i]?=some e/\v=e.key) e_ es.size ->
   R (.ok (.ret (.ref s.heap.objs.size))) { s with heap:=h',toks:=tk })->codeAny 'e' A (.builtin "list.__iadd__" ⟨[.ref s.heap.objs.size,.ref d],[]⟩) R { s with heap:=s.heap.push (seqObj "list" #[] 0) }:=by
  intro R j;refine codeAny_builtin entry_list_iadd' ?_;show wpAny _ _ (Builtin.List.listExtendWith (.ref s.heap.objs.size) (.ref d) (.ref s.heap.objs.size)) _ _ { s with heap:=s.heap.push (seqObj "list" #[] 0) };rw[Around.under_plainId (id:="list.__iadd__") (by rfl')];have ne:s.heap.objs.size≠d:=Nat.ne_of_gt x.lt;refine PySem.W.kdl_extend (A:=A) (R:=R) (s:={ s with heap:=s.heap.push (seqObj "list" #[] 0) }) (vo hd) f (x.at' λo e=>Yd _ e) s.heap.objs.size ne ne _ 0 (Yg _ rfl) ?_ hl;intro h' tk e_ c' hk a c;exact j h' tk e_ c' (λb o e=>hk b o (ZT (Ye e)) (Yd _ e)) a c
 unfold collect;refine Yb (wpAny_runValue (codeAny_builtin entry_proto_collect' ?_));show wpAny _ _ (do again (.builtin "list.__iadd__" ⟨[←newList [],.ref d],[]⟩)) _ _ s;refine Yb (wpAny_newList (Yc ⟨Code.quiet_builtin _ (by rfl'),go _ λh' tk e_ c' hk a c=>?_⟩));refine Yb (wpAny_load a ?_);exact Yc (g h' tk e_ hk (Ye a) c)
end
def jk:aK:=λds M Q=>match ds with
 |[.ref a]=>match M a with
  |some (.dic [])=>∀p,M p=none->Q (.ref p) (ab M p (.lst []))
  |some (.prs ks)=>ks.length<=63/\∀(p:Addr) (b:List (Int×Bool)),M p=none->b.Perm ks->b.Pairwise (λx y=>TS.cZ x<=TS.cZ y)->Q (.ref p) (ab M p (.lst (b.map pD)))
  |_=>False
 |_=>False
section
variable {X:Cx}{H:Hp}{a_:Zc}{σ:L2.St}{s:Shared}
theorem vD(I:ad X a_ σ H s):∀{ks:List (Int×Bool)}{xs:List (List Int×Addr×Value)}{us:Zd},Paired (jb X.K H) ks xs->us=xs.map (λx=>Value.ref x.2.1) ->
  Paired (λ(k:(Int×Bool)×Addr) (v:Value)=>v=.ref k.2/\bf X.K H k.2 [.int k.1.1,.bl k.1.2]/\TS.gZ s.heap k.1 v) (ks.zip (xs.map (·.2.1))) us
 |_,_,_,.nil,e=>by subst e;exact .nil
 |_,_,_,.cons (b:=x) q t,e=>by
  subst e;refine .cons ⟨rfl,q.2.1,?_⟩ (vD I t rfl);obtain⟨ys,h1,a,_⟩:=I.tuple q.2.1;obtain⟨j,l,rfl,c,f⟩:=h1.two;obtain⟨g,rfl⟩:=c;cases f;exact⟨_,g,rfl,a⟩
theorem zv(hc:X.calm=true):de X (.builtin "sorted") jk:=by
 intro ds vs H M Q r rm h;unfold jk at h;split at h
 .rename_i a
  split at h
  .rename_i B
   refine A3 hc [.ref a] vs H M Q r rm ?_;show(match bM (M a) with
    |some xs=>bn (gY xs) λns=>og ns M Q
    |none=>bn (qD (M a)) λkvs=>bn (intKeys kvs) λns=>og ns M Q)
   rw[B];refine(⟨by decide,λp ms hp hm _=>?_⟩:og [] M Q);rw[List.Perm.eq_nil hm];exact h p hp
  .rename_i ks B
   obtain⟨v,rfl,r1⟩:=cr r;cases RV.ref_.1 r1;obtain⟨xs,T,O,nd,hz,hd⟩:=rm _ _ B;obtain⟨Xq,q⟩:=h;intro a_ s ρ ws I U;obtain⟨u,rfl,W⟩:=vals1 U;cases W;obtain⟨es,ep,Y,P⟩:=vp I T;have hsz:es.size=xs.length:=by rw[←YD,P,ZF]
   have hl:=ik O;refine Calls.call_function_entry kind_sorted plain_sorted entry_sorted (args_sorted1 _) ?_;unfold Builtin.«sorted»;refine Yb (m:=checkCount "sorted" 1 1 _) (Yc ?_);refine Yb (vC (A:=X.A.in1) (I.ok.hd hc) hd Y 'a' λh' tk e_ R F_ C=>?_);obtain⟨hs,C⟩:=C;have hu:e_.toList=xs.map (λx=>Value.ref x.2.1):=by
    refine List.ext_getElem? λi=>?_
    cases e2:e_.toList[i]? with
    |none=>
     rw[XR,YD] at e2;rw[ZI];rw[ZF];omega
    |some v=>
     obtain⟨en,g,Z⟩:=C i v (by rw[←XA];exact e2);rw[←XA,P,ZG] at g;rw[ZG];cases e5:xs[i]? with
     |none=>rw[e5] at g;cases g
     |some x=>rw[e5] at g;cases g;rw[Z];rfl
   have S:=vD I O hu;refine zu (s:=s) (A:=X.A) (f:=(·.1)) (tk:=tk) (h':=h') (G:=λ(k:(Int×Bool)×Addr) (v:Value)=>v=.ref k.2/\bf X.K H k.2 [.int k.1.1,.bl k.1.2]/\TS.gZ s.heap k.1 v) (λx v r=>?_) S (by rw[YD,hs];omega) λout c j l E=>?_
   .obtain⟨_,_,b,t,rfl,o,ho,q⟩:=r
    exact⟨b,t,rfl,o,R _ _ ho,q⟩
   .generalize PF:e_.toList=d_ at *
    obtain⟨e,ho⟩:=sortedHeap_at (h:=h'.push (seqObj "list" d_.toArray 0)) (a:=h'.objs.size) (vs:=d_) (n:=0) (out:=out) (Yg _ rfl);have k:∀b o,s.heap.get? b=some o->(sortedHeap (h'.push (seqObj "list" d_.toArray 0)) h'.objs.size d_ out).get? b=some o:=λb o e=>by
     have h1:=R b o e;have hb:b<h'.objs.size:=Ye h1;rw[sortedHeap_old (ZT hb) (by rw[Heap.size_push];exact Nat.lt_succ_of_lt hb)];exact Yd _ h1
    have F:H h'.objs.size=none:=I.hok.fresh 'a';have kk:=Kp.new (o:=.lst (c.map λx=>V.ref x.2)) F;have J:c.length=d_.length:=by rw[l.length_eq];exact Paired.length S
    have hv:ak (c.map λx=>V.ref x.2) out.toList:=by
     clear ho l E J kk;generalize out.toList=o' at j;induction j with
     |nil=>exact .nil
     |cons r t L=>exact .cons r.1 L
    have hr:af X.K H ((c.map (·.1)).map pD) (c.map λx=>V.ref x.2):=by
     clear ho l E J kk hv;generalize out.toList=o' at j;induction j with
     |nil=>exact .nil
     |@cons x _ _ _ r t L=>exact .cons (RV.tup_.2 ⟨x.2,_,rfl,r.2.1,.cons (RV.int_.2 rfl) (.cons (RV.bl_.2 rfl) .nil)⟩) L
    have Ph:d_.length=xs.length:=by rw[hu,ZF]
    refine⟨.ref h'.objs.size,_,I.laid (t':=tk) k 'a' (show aT X.prog X.w _ _ h'.objs.size (.lst (c.map λx=>V.ref x.2)) from⟨by rw[ZF,J];omega,out.toList,e,hv,by simpa [seqObj] using ho⟩),rfl,kk,.ref _,_,RV.ref_.2 rfl,rm.new (m:=.lst ((c.map (·.1)).map pD)) F ⟨_,aA,af.mono kk _ hr⟩,q _ _ (rm.fresh F) ?_ ?_⟩
    .have:=l.map (·.1)
     rwa [xS (by rw[ZF];exact hl)] at this
    .rw[XZ]
     exact E
  .exact Yh h
 .exact Yh h
end
section
variable {X:Cx}{H:Hp}{pos:Pos}{e:Expr}{es:Zg}
inductive Bk where
 |list | sortedB | listP
 deriving DecidableEq
def tE:Bk->aK
 |.list=>kC
 |.sortedB=>jk
 |.listP=>mR
def qV:Bk->Str
 |.list=>"list"
 |.sortedB=>"sorted"
 |.listP=>"list"
def Jd(b:Bk)(hc:X.calm=true)(a:Gl X (qV b))(hm:X.mg (qV b)=none)(hs:aj e=true)(c:es.all aj=true)(ha:eG X (e::es) t):aI X (.Call (.Name (qV b) ML) (e::es) [] pos) (fG (tE b) t):=by
 cases b with
 |sortedB=>exact fW (zv hc) a hm (by rfl') 'c' 'c' hs c ha
 |listP=>exact iU (DF hc) a hm (by rfl') 'c' 'c' hs c ha
 |list=>exact iU (vn hc) a hm (by rfl') 'c' 'c' hs c ha
end
def Be:typeLookup (.type "list_reverseiterator") "__len__" = pure none:=by rw[typeLookup_type,builtinLookup_eq_fast];kernel_rfl
def DJ:typeLookup (.type "list_reverseiterator") "__length_hint__" = pure (some (.builtin "list_reverseiterator.__length_hint__")):=by rw[typeLookup_type,builtinLookup_eq_fast];kernel_rfl
section
variable {prog:Zv}{w:World}{A:Around}{E:Zb}{s:Shared}{R:Result->Shared->Prop}
variable {I:Addr}{fp wr:Zh}{G:Array GenState->Array GenState->Prop}{n:Nat}{P:Nat->Value->Prop}{St:Nat->Shared->Prop}
def zw(W:WalksS prog w A.in1 I fp wr G n P St)(g:∀i s,St i s->s.TypeIs (.ref I) "list_reverseiterator")(S:Addr)(res:Value)(m:Nat)(c:St 0 s)(l:S∉fp)(p:I∈fp)
  (r:s.heap.get? S=some { cls:=.type "list",data:=.seq #[] m })
  (B:∀a j c',Moved (S::wr) G s a->a.heap.get? S=some { cls:=.type "list",dict:=none,data:=.seq j c',slots:=#[] }->ItemsOf P j n->R (.ok (.ret res)) a) (hn:n<=sizeLine):
  wpAny 'e' A.in1 (Builtin.List.listExtendWith (.ref S) (.ref I) res)
   (λfin a=>match fin with | .done f=>R (.ok f) a | .again c'=>c'.quiet=true/\codeAny 'e' A c' R a) (λe a=>R (.error e) a) s:=by
 have C:S≠I:=λe=>l (e▸p)
 have h1:Builtin.List.listSameRef (.ref S) (.ref I)=false:=by simp[Builtin.List.listSameRef,C]
 unfold Builtin.List.listExtendWith;refine Yb (wpAny_typeOf (g 0 _ c) ?_);rw[if_neg (by rw[h1];decide)];refine Yb (W.self 0 _ _ _ c ?_);refine Yb (Yj ?_);unfold Builtin.List.listLengthHint;refine Yb (wpAny_specialOf (g 0 _ c) Be ?_);show wpAny _ A.in1 (specialOf (Value.ref I) (Str.ofString "__length_hint__") >>= _) _ _ _;refine Yb (wpAny_specialOf (g 0 _ c) DJ ?_);generalize hid:("list_reverseiterator.__length_hint__" : String)=k;wp_delta;rw[show splitId k=some ("list_reverseiterator","__length_hint__") from by subst hid;rfl'];subst hid;refine Yb (wpAny_isInstance (b:=true) (g 0 _ c) (by rw[isSubtype_type];kernel_rfl) ?_);refine Yc ?_;rw[if_neg 'c'];exact Yc ⟨plainId_quiet F.plain_extend_loop _,codeAny_extend_loopS W hn _ l _ n 0 _ _ _ rfl (YL _) c r (ItemsOf.nil P) λa j c' hm J K=>B a j c' hm J K⟩
theorem tT{l:Addr}(k:A.handled=none)(c:s.heap.IsRevIter I l ((c_.size:Int)-1))(hl:s.heap.IsList l c_)(m:l≠I)(hn:c_.size<=sizeLine)
  (p:∀h' tk e_ c',(∀b o,b≠I->s.heap.get? b=some o->h'.get? b=some o)->h'.get? s.heap.objs.size=some { cls:=.type "list",dict:=none,data:=.seq e_ c',slots:=#[] }->ItemsOf (λi v=>c_[c_.size-1-i]?=some v) e_ c_.size->Q (.ref s.heap.objs.size) { s with heap:=h',toks:=tk }):
  wpAny 'e' A (call (.type "list") [.ref I]) Q E s:=by
 obtain⟨U,r,_⟩:=id c;obtain⟨V,B,_⟩:=id hl;have Y:=Ye r;have Z:=Ye B;refine callType_codes (Q₁:=λobj g=>obj=.ref s.heap.objs.size/\g={ s with heap:=s.heap.push { cls:=.type "list",data:=.seq #[] } }) F.called_list (F.typeCall_list_1 _) F.entry_list_init (code_list_new _ ⟨rfl,rfl⟩) λobj g C=>?_
 obtain⟨rfl,rfl⟩:=C;have a:(s.heap.push { cls:=.type "list",data:=.seq #[] }).get? s.heap.objs.size=some { cls:=.type "list",data:=.seq #[] }:=Yg _ rfl;refine⟨⟨_,a,rfl⟩,F.args_list_init_2 _ _,?_⟩;show wpAny _ _ (do let f ←Builtin.List.listItems (.ref s.heap.objs.size);Builtin.List.listUpdate (.ref s.heap.objs.size) (λ_=>#[]);letGo f.toList.reverse;Builtin.List.listExtendWith (.ref s.heap.objs.size) (.ref I) .none) _ _ _;refine Yb ?_;unfold Builtin.List.listItems;refine Yb (wpAny_seqItems a rfl (Yc ?_));show wpAny _ _ (updateSeq s.heap.objs.size (λ_=>#[]) >>= λ_=>letGo (#[]:Array Value).toList.reverse >>= λ_=>Builtin.List.listExtendWith (.ref s.heap.objs.size) (.ref I) .none) _ _ _;refine Yb (wpAny_updateSeq a rfl ?_);have p1:=Heap.get?_update_self (Obj.mapSeq (λ_=>(#[]:Array Value))) a rfl;have keep:∀b o,s.heap.get? b=some o->((s.heap.push { cls:=.type "list",data:=.seq #[] }).update s.heap.objs.size (Obj.mapSeq (λ_=>(#[]:Array Value)))).get? b=some o:=λb o e=>
  (Heap.get?_update_other _ _ (Ne.symm (ZT (Ye e)))).trans (Yd _ e)
 refine Yb (wpAny_letGo ?_);have W:=(Walks.listRev (prog:=prog) (w:=w) (A:=A.in1.in1) k I l m c_).toS;have J:(0:Nat)<=c_.size/\((s.heap.push { cls:=.type "list",data:=.seq #[] }).update s.heap.objs.size (Obj.mapSeq (λ_=>(#[]:Array Value)))).IsRevIter I l ((c_.size:Int)-1-((0:Nat):Int))/\((s.heap.push { cls:=.type "list",data:=.seq #[] }).update s.heap.objs.size (Obj.mapSeq (λ_=>(#[]:Array Value)))).IsList l c_:=by
  refine⟨YL _,?_,hl.at λo e=>keep l o e⟩;have e:(c_.size:Int)-1-((0:Nat):Int)=(c_.size:Int)-1:=by omega
  rw[e];exact c.at λo e=>keep I o e
 refine zw (A:=A.in1) (s:={ s with heap:=(s.heap.push { cls:=.type "list",data:=.seq #[] }).update s.heap.objs.size (Obj.mapSeq (λ_=>(#[]:Array Value))) }) W (λi s st=>st.2.1.typeIs) s.heap.objs.size .none _ J (λhm=>?_) ZX p1 (λj e_ c' hm K L=>?_) hn
 .obtain⟨o1,h1,_⟩:=c
  obtain⟨o2,O,_⟩:=hl;have S:I<s.heap.objs.size:=Ye h1;have T:l<s.heap.objs.size:=Ye O;rcases ZZ.mp hm with e | hm
  .exact ZT S e.symm
  .exact ZT T (XM.mp hm).symm
 .rw[Moved.eq_with hm]
  refine⟨rfl,p j.heap j.toks e_ c' (λb o hb e=>hm.heap b o (λLZ=>?_) (keep b o e)) K L⟩;rcases ZZ.mp LZ with e' | LZ
  .exact absurd (Ye e) (by rw[e'];exact ZS _)
  .exact hb (XM.mp LZ)
end
def DL:∀{vs:List V}{us:Zd},ak vs us->ak vs.reverse us.reverse:=λh=>qm h
theorem Bf(h:ItemsOf (λi v=>vs.toArray[vs.toArray.size-1-i]?=some v) c_ vs.toArray.size):c_.toList=vs.reverse:=by
 obtain⟨h1,a⟩:=h;have e:vs.toArray.size=vs.length:=by simp
 refine List.ext_getElem? λi=>?_
 by_cases hi:i<vs.length
 .have hx:c_[i]?=some (c_[i]' 'a'):=XV 'a'
  have b:=a i _ hx;rw[XA,List.getElem?_reverse hi,hx,←b,e,List.getElem?_toArray]
 .rw[ZI (by simp;omega),ZI (by simp;omega)]
def zx(t:WA):WE:=λσ M Q=>t σ M λds M1=>match ds with
 |[.ref a]=>bn (bM (M1 a)) λxs=>∀p,M1 p=none->Q (.ref p) (ab M1 p (.lst xs.reverse))
 |_=>False
section
variable {X:Cx}{H:Hp}{pos:Pos}
theorem DM{a:Expr}{p:Pos}(hc:X.calm=true)(A:Gl X "list")(hm:X.mg "list" = none)(B:Gl X "reversed")(C:X.mg "reversed" = none)(ha:eG X [a] t)(hs:aj a=true):
  aI X (.Call (.Name "list" p) [.Call (.Name "reversed" p2) [a] [] ML] [] pos) (zx t):=by
 intro σ M ρ H Q rs rm q a_ s I;refine Call_ (cE I A hm (by rfl':bootBuiltins "list" = some (.type "list")) (PyProof.Rows.callWith_type1 (args_cons (Call_ (cE I B C boot_reversed (PyProof.Rows.callWith_type1 (aL (ha σ M ρ H _ rs rm q _ a_ s I) λus s1 E=>?_) (aY hs) rfl)))) rfl rfl));obtain⟨vs,H1,c,r1,⟨k1,ds,M1,r2,O,m1,q1⟩⟩:=E;split at q1
 .rename_i l
  obtain⟨v,rfl,r3⟩:=cr r2;cases RV.ref_.1 r3;obtain⟨u,rfl,F⟩:=vals1 r1;cases F;obtain⟨xs,G,q⟩:=aS q1;obtain⟨f,sq,J⟩:=m1.list G;obtain⟨d_,r,g,hz⟩:=c.list sq;have K:l<s1.heap.objs.size:=by obtain⟨o,ho,_⟩:=g.isList;exact Ye ho
  have P:d_.length=f.length:=r.length.symm;refine call_reversed_list g.isList (args_nil ?_);have keep:∀b o,s1.heap.get? b=some o->(s1.heap.push (revObj l ((d_.toArray.size:Int)-1))).get? b=some o:=λb o e=>Yd _ e
  refine tT (s:={ s1 with heap:=s1.heap.push (revObj l ((d_.toArray.size:Int)-1)) }) (c_:=d_.toArray) (c.ok.hd hc) ⟨_,Yg _ rfl,rfl,rfl⟩ (g.isList.at λo e=>keep l o e) (ZT K) (by simp;omega) λh' tk e_ c' hk L j=>?_
  have j:=Bf j;have k2:∀b o,s1.heap.get? b=some o->h'.get? b=some o:=λb o e=>hk b o (ZT (Ye e)) (keep b o e)
  have n:H1 (s1.heap.push (revObj l ((d_.toArray.size:Int)-1))).objs.size=none:=c.hok.fresh (by rw[Heap.size_push];omega);have k:=Kp.new (o:=.lst f.reverse) n;exact⟨.ref _,_,c.laid (t':=tk) k2 (by rw[Heap.size_push];omega) (show aT X.prog X.w _ h' _ (.lst f.reverse) from⟨by simpa using hz,e_.toList,c',by rw[j];exact DL r,by simpa using L⟩),rfl,k1.trans k,.ref _,_,RV.ref_.2 rfl,m1.new (m:=.lst xs.reverse) n ⟨_,aA,af.mono k _ (af.of (qm J.p))⟩,q _ (m1.fresh n)⟩
 .exact Yh q1
end
end DD
namespace DD
open PySem PySem.Spec PyProof.Rows L2
set_option genInjectivity false
set_option genSizeOf false
set_option genCtorIdx false
variable {e:Expr}{es:Zg}{x y:Str}{P:Prop}
mutual
inductive E where
 |var (i:Nat) | int (i:Int) | str (x:Str) | bl (b:Bool) | non | glob (j:Nat) | ty (T:String)
 |bin (o:Operator) (a b:E) | cmp (o:CmpOp) (a b:E)
 |and (a b:E) | or (a b:E) | not (a:E) | ite (c:T) (a b:E)
 |fn (j:Nat) (es:Es) | bi (b:Bi) (es:Es) | mt (m:Mt) (o:E) (es:Es) | mt0 (m:Mt) (o:E)
 |ix (a b:E) | ixC (a b:E) | camL (a b:E) | sl (a:E) (lo hi:Eo) | lst (es:Es) | tup (es:Es) | comp (n:Nat) (e:E) (t:dk) (i:I) (c:To)
 |neg (a:E) | dnew | fld (o:E) (f:Str) | mu (m:Str) (o:E) (es:Es) | mu0 (m:Str) (o:E) | lenSet (a:E) | bj (b:Bj) (es:Es) | lrg (es:Es) | lrev (es:Es) | inv (a:E) | bk (b:Bk) (es:Es)
inductive Ps where
 |nil | cons (k v:E) (r:Ps)
inductive Es where
 |nil | cons (e:E) (es:Es)
inductive Eo where
 |no | yes (e:E)
inductive To where
 |no | yes (t:T)
inductive T where
 |val (e:E) | inC (n:Bool) (a b:E) | cmp (o:CmpOp) (a b:E) | and (t u:T) | or (t u:T) | not (t:T)
inductive I where
 |seq (e:E) | rg1 (es:Es) | enum (es:Es) | zip (es:Es)
end
mutual
inductive S where
 |set (i:Nat) (e:E) | setC (i n:Nat) (e:E) (t:dk) (it:I) (c:To) | expr (e:E) | ret (e:E)
 |ite (t:T) (a b:Ss) | for (g:dk) (it:I) (b:Ss) | pass | never
 |putIx (o i e:E) | putP (o i e:E) | putC (o i e:E) | setF (o:E) (f:Str) (e:E) | while (t:T) (b:Ss)
inductive Ss where
 |nil | cons (s:S) (r:Ss)
end
set_option genInjectivity true
set_option genSizeOf true
set_option genCtorIdx true
structure Cn where
 F:List aK
 G:List D
 O:qN
 T:tx
 I:LL:=λ_ _=>none
def mS(c:WT)(f:WS):WS:=λE σ M=>∃W:Nat->DS->MH->Prop,(∃m,W m σ M)/\∀m σ M,W m σ M ->
 c σ M λb M1=>eI b (∃N:DS->MH->Prop,(∀a M',N a M'->∃m',m'<m/\W m' a M')/\f { E with nx:=N,ct:=N,bk:=E.nx } σ M1) (E.nx σ M1)
section
variable (c:Cn)
mutual
noncomputable def wE:E->WE
 |.var i=>λσ M Q=>lc σ i λd=>Q d M
 |.int i=>λ_ M Q=>Q (.int i) M
 |.str i=>λ_ M Q=>Q (.str i) M
 |.bl i=>λ_ M Q=>Q (.bl i) M
 |.non=>λ_ M Q=>Q .non M
 |.glob j=>λ_ M Q=>Q (c.G.getD j .non) M
 |.ty n=>λ_ M Q=>Q (.ty n) M
 |.bin o a b=>jI (CU o) (wE a) (wE b)
 |.cmp o a b=>jI (yV o) (wE a) (wE b)
 |.and a b=>yE (wE a) (wE b)
 |.or a b=>Ct (wE a) (wE b)
 |.not a=>yF (wE a)
 |.ite t a b=>Ih (wT t) (wE a) (wE b)
 |.fn j es=>fG (c.F.getD j λ_ _ _=>False) (wEs es)
 |.bi b es=>fG (IP b) (wEs es)
 |.lenSet a=>su (wE a)
 |.bj b es=>fG (Ja b) (wEs es)
 |.bk b es=>fG (tE b) (wEs es)
 |.lrg es=>zp (wEs es)
 |.lrev es=>zx (wEs es)
 |.mt m o es=>u4 (u7 m) (AR m) (wE o) (wEs es)
 |.mt0 m o=>u4 (u7 m) (AR m) (wE o) mF
 |.ix a b=>jI EY (wE a) (wE b)
 |.ixC a b=>jI vb (wE a) (wE b)
 |.camL a b=>Di (wE a) (wE b)
 |.sl a lo hi=>II (wE a) (wEo lo) (wEo hi)
 |.lst es=>Cz (wEs es)
 |.tup es=>Cy (wEs es)
 |.comp n e t i d=>yQ n (wI i) t (kE d) (wE e)
 |.neg a=>C9 (wE a)
 |.inv a=>y7 (wE a)
 |.dnew=>λ_ M Q=>∀p,M p=none->Q (.ref p) (ab M p (.dic []))
 |.fld o f=>Dk c.O f (wE o)
 |.mu m o es=>qO c.T m (wE o) (wEs es)
 |.mu0 m o=>qO c.T m (wE o) mF
noncomputable def wP:Ps->List (WE×WE)
 |.nil=>[]
 |.cons k v r=>(wE k,wE v)::wP r
noncomputable def wEs:Es->WA
 |.nil=>mF
 |.cons e es=>yG (wE e) (wEs es)
noncomputable def wEo:Eo->WO
 |.no=>λ_ M Q=>Q none M
 |.yes e=>λσ M Q=>wE e σ M λx M1=>intD x λi=>Q (some i) M1
noncomputable def kE:To->WT
 |.no=>λ_ M Q=>Q true M
 |.yes t=>wT t
noncomputable def wT:T->WT
 |.val e=>Cv (wE e)
 |.cmp o a b=>nM (jI (yV o) (wE a) (wE b))
 |.inC n a b=>nM (jI (zc n) (wE a) (wE b))
 |.and t u=>Cq (wT t) (wT u)
 |.or t u=>Ie (wT t) (wT u)
 |.not t=>Cr (wT t)
noncomputable def wI:I->WI
 |.seq e=>yM (wE e)
 |.rg1 es=>yN (wEs es)
 |.enum es=>zi (wEs es)
 |.zip es=>Dt (wEs es)
end
mutual
noncomputable def wS:S->WS
 |.set i e=>CK i (wE c e)
 |.setC i n e t it d=>yS i n (wI c it) t (kE c d) (wE c e)
 |.expr e=>yJ (wE c e)
 |.ret e=>CH (wE c e)
 |.ite t a b=>CL (wT c t) (wSs a) (wSs b)
 |.for g it b=>CN (wI c it) g (wSs b)
 |.pass=>qx
 |.never=>λ_ _ _=>False
 |.putIx o i e=>u8 (wE c e) (wE c o) (wE c i)
 |.putP o i e=>y8 (wE c e) (wE c o) (wE c i)
 |.putC o i e=>y9 (wE c e) (wE c o) (wE c i)
 |.setF o f e=>ze c.O f (wE c o) (wE c e)
 |.while t b=>mS (wT c t) (wSs b)
noncomputable def wSs:Ss->WS
 |.nil=>qx
 |.cons s r=>CF (wS s) (wSs r)
end
end
structure cJ where
 N:List Str
 sc:Scope
 all:Bool
 glob:List Str
 blt:List Str
 fns:List Str
def zy:Option NameKind->Bool
 |some .local=>true
 |some .cell=>true
 |some .free=>true
 |_=>false
def zz:Option NameKind->Bool
 |some .local=>true
 |some .cell=>true
 |_=>false
def Bg(Γ:cJ)(i:Nat)(x:Str):Bool:=decide (Γ.N[i]?=some x)&&zy (Γ.sc.names.lookup x) && !(x==("__debug__" : Str)) && !(x==("__classdict__" : Str))
def mT(Γ:cJ)(i:Nat)(x:Str):Bool:=decide (Γ.N[i]?=some x)&&zz (Γ.sc.names.lookup x)&&(Γ.all||decide (Γ.sc.names.lookup x=some .local))
def cf(Γ:cJ)(x:Str):Bool:=decide (Γ.sc.names.lookup x=some .globalImplicit) && !(x==("__debug__" : Str))
def qW:List String:=["bool","int","str","tuple","list","dict"]
def ownOf(sc:Scope):List Str:=sc.names.filterMap λp=>if p.2=.local/\p.1≠(".0" : Str) then some p.1 else none
def sw(Γ:cJ)(sc:Scope):List Str:=Γ.N.map λy=>if sc.names.lookup y=some .local then "" else y
def kF(Γ:cJ)(sc:Scope):Bool:=decide (sc.kind=.function)&&sc.names.all (λy=>decide (y.2≠.cell))&&sc.names.all (λy=>decide (y.2=.local->sc.names.lookup y.1=some .local)) &&
 sc.names.all (λy=>decide (y.2=.free->(Γ.sc.names.lookup y.1=some .cell\/Γ.sc.names.lookup y.1=some .free)))&&((sw Γ sc).zip Γ.N).all (λp=>decide ((sc.names.lookup p.1=some .free->p.1=p.2)/\sc.names.lookup p.1≠some .local))&&decide ((sw Γ sc++ownOf sc).Nodup)
def DN(sc Mh:Scope):Scope:={ sc with names:=sc.names.map λ(p:Str×NameKind)=>if(p.2==NameKind.free&&Mh.kind==.function&&Mh.names.lookup p.1==some .cell)=true then(p.1,NameKind.cell) else(p.1,p.2) }
def inComp(Γ:cJ)(sc:Scope):cJ:={ Γ with N:=sw Γ sc++ownOf sc,sc:=DN sc Γ.sc,all:=false }
def qX(Γ:cJ):List Nat->List Expr->Bool
 |[],[]=>true
 |i::is,.Name x _::es=>mT Γ i x&&qX Γ is es
 |_,_=>false
def qY(Γ:cJ):dk->Expr->Bool
 |.nm i,.Name x _=>mT Γ i x
 |.tp is,.Tuple es _ _=>qX Γ is es
 |_,_=>false
def Bh:Expr->Bool
 |.UnaryOp .Not _ _=>false
 |.BoolOp _ _ _=>false
 |.IfExp _ _ _ _=>false
 |.Compare _ _ _ _=>false
 |_=>true
def hJ:Expr->Option (Str×List Expr×List Keyword)
 |.Call f es ks _=>match f with
  |.Name x _=>some (x,es,ks)
  |_=>none
 |_=>none
def mU(e:Expr):Option (Str×Str×List Expr):=match hJ e with
 |some (x,[c],[])=>match hJ c with
  |some (y,es,[])=>some (x,y,es)
  |_=>none
 |_=>none
def isTup:Expr->Bool
 |.Tuple _ _ _=>true
 |_=>false
def KF{b:Type}{a:b}(h:none=some a):P:=by cases h
def ff(h:false=true):P:=by cases h
def df{ks:List Keyword}(h:hJ e=some (x,es,ks)):∃p q,e=.Call (.Name x p) es ks q:=by
 cases e with
 |Call f es ks q=>
  cases f with
  |Name x p=>cases h;exact⟨p,q,rfl⟩
  |_=>exact KF h
 |_=>exact KF h
def jK(h:mU e=some (x,y,es)):∃p q a b,e=.Call (.Name x p) [.Call (.Name y a) es [] b] [] q:=by
 unfold mU at h;split at h
 .rename_i h1
  split at h
  .rename_i c
   cases h;obtain⟨p,q,rfl⟩:=df h1;obtain⟨a,b,rfl⟩:=df c;exact⟨p,q,a,b,rfl⟩
  .cases h
 .cases h
def vE(h:isTup e=true):∃es k p,e=.Tuple es k p:=by
 cases e with
 |Tuple es k p=>exact⟨es,k,p,rfl⟩
 |_=>exact ff h
mutual
noncomputable def ax:cJ->E->Expr->Bool
 |Γ,.var i,e=>match e with
  |.Name x _=>Bg Γ i x
  |_=>false
 |_,.int i,e=>match e with
  |.Constant (.int j) _ _=>decide (i=j)
  |_=>false
 |_,.str i,e=>match e with
  |.Constant (.str j) _ _=>decide (i=j)
  |_=>false
 |_,.bl i,e=>match e with
  |.Constant (.bool j) _ _=>decide (i=j)
  |_=>false
 |_,.non,e=>match e with
  |.Constant .none _ _=>true
  |_=>false
 |Γ,.glob j,e=>match e with
  |.Name x _=>cf Γ x&&decide (Γ.glob[j]?=some x)
  |_=>false
 |Γ,.ty n,e=>match e with
  |.Name x _=>cf Γ x&&Γ.blt.contains x&&decide (x=Str.ofString n)&&qW.contains n
  |_=>false
 |Γ,.bin o a b,e=>match e with
  |.BinOp l op r _=>decide (o=op)&&ax Γ a l&&ax Γ b r
  |_=>false
 |Γ,.cmp o a b,e=>match e with
  |.Compare l [op] [r] _=>decide (o=op)&&ax Γ a l&&ax Γ b r && !(behindInMarks op r)
  |_=>false
 |Γ,.and a b,e=>match e with
  |.BoolOp .And [l,r] _=>ax Γ a l&&ax Γ b r
  |.BoolOp .And (l::r::q::rest) pos=>ax Γ a l&&ax Γ b (.BoolOp .And (r::q::rest) pos)
  |_=>false
 |Γ,.or a b,e=>match e with
  |.BoolOp .Or [l,r] _=>ax Γ a l&&ax Γ b r
  |.BoolOp .Or (l::r::q::rest) pos=>ax Γ a l&&ax Γ b (.BoolOp .Or (r::q::rest) pos)
  |_=>false
 |Γ,.not a,e=>match e with
  |.UnaryOp .Not l _=>ax Γ a l
  |_=>false
 |Γ,.ite c a b,e=>match e with
  |.IfExp t l r _=>c0 Γ c t&&ax Γ a l&&ax Γ b r
  |_=>false
 |Γ,.fn j es,e=>match hJ e with
  |some (x,a::as,[])=>cf Γ x&&decide (Γ.fns[j]?=some x)&&aj a&&as.all aj&&cy Γ es (a::as)
  |_=>false
 |Γ,.bi b es,e=>match hJ e with
  |some (x,a::as,[])=>cf Γ x&&Γ.blt.contains x&&decide (x=qH b)&&aj a&&as.all aj&&cy Γ es (a::as)
  |_=>false
 |Γ,.bj b es,e=>match hJ e with
  |some (x,a::as,[])=>cf Γ x&&Γ.blt.contains x&&decide (x=qR b)&&aj a&&as.all aj&&cy Γ es (a::as)
  |_=>false
 |Γ,.bk b es,e=>match hJ e with
  |some (x,a::as,[])=>cf Γ x&&Γ.blt.contains x&&decide (x=qV b)&&aj a&&as.all aj&&cy Γ es (a::as)
  |_=>false
 |Γ,.lenSet a,e=>match mU e with
  |some (x,y,[l])=>cf Γ x&&Γ.blt.contains x&&decide (x=("len" : Str))&&cf Γ y&&Γ.blt.contains y&&decide (y=("set" : Str))&&aj l&&ax Γ a l
  |_=>false
 |Γ,.lrev es,e=>match mU e with
  |some (x,y,[l])=>cf Γ x&&Γ.blt.contains x&&decide (x=("list" : Str))&&cf Γ y&&Γ.blt.contains y&&decide (y=("reversed" : Str))&&aj l&&cy Γ es [l]
  |_=>false
 |Γ,.lrg es,e=>match mU e with
  |some (x,y,[l])=>cf Γ x&&Γ.blt.contains x&&decide (x=("list" : Str))&&cf Γ y&&Γ.blt.contains y&&decide (y=("range" : Str))&&aj l&&cy Γ es [l]
  |some (x,y,[l,r])=>cf Γ x&&Γ.blt.contains x&&decide (x=("list" : Str))&&cf Γ y&&Γ.blt.contains y&&decide (y=("range" : Str))&&aj l&&aj r&&cy Γ es [l,r]
  |_=>false
 |Γ,.mt m o es,e=>match e with
  |.Call (.Attribute l x n_) (a::as) [] pos=>decide (x=qK m)&&ax Γ o l&&bN l&&aj a&&as.all aj&&decide (as.length<20)&&(n_.endLine==pos.line)&&cy Γ es (a::as)
  |_=>false
 |Γ,.mt0 m o,e=>match e with
  |.Call (.Attribute l x n_) [] [] pos=>decide (x=qK m)&&ax Γ o l&&bN l&&(n_.endLine==pos.line)
  |_=>false
 |Γ,.ixC a b,e=>match e with
  |.Subscript l r _=>ax Γ a l&&ax Γ b r&&cq r
  |_=>false
 |Γ,.camL a b,e=>match e with
  |.Dict [some l] [r] _=>ax Γ a l&&ax Γ b r
  |_=>false
 |Γ,.ix a b,e=>match e with
  |.Subscript l r _=>ax Γ a l&&ax Γ b r&&cq r
  |_=>false
 |Γ,.sl a lo hi,e=>match e with
  |.Subscript l (.Slice x y none _) _=>ax Γ a l&&qZ Γ lo x&&qZ Γ hi y
  |_=>false
 |Γ,.lst es,e=>match e with
  |.List as _=>cy Γ es as&&decide (as.length<=1000)
  |_=>false
 |Γ,.tup es,e=>match e with
  |.Tuple as _ _=>cy Γ es as&&decide (as.length<=1000)
  |_=>false
 |Γ,.comp n e t i c,ex=>match ex with
  |.ListComp E_ [⟨tg,it,ifs,ia⟩] sc _=>kF Γ sc&&decide (n=(ownOf sc).length)&&decide (ia=0)&&mV Γ i tg it&&jf it&&qY (inComp Γ sc) t tg&&q9 (inComp Γ sc) c ifs&&ax (inComp Γ sc) e E_
  |_=>false
 |Γ,.neg a,e=>match e with
  |.UnaryOp .USub l _=>ax Γ a l
  |_=>false
 |Γ,.inv a,e=>match e with
  |.UnaryOp .Invert l _=>ax Γ a l
  |_=>false
 |_,.dnew,e=>match e with
  |.Dict [] [] _=>true
  |_=>false
 |Γ,.fld o f,e=>match e with
  |.Attribute l x _=>ax Γ o l&&decide (x=f)&&bN l
  |_=>false
 |Γ,.mu m o es,e=>match e with
  |.Call (.Attribute l x n_) (a::as) [] pos=>decide (x=m)&&ax Γ o l&&bN l&&aj a&&as.all aj&&decide (as.length<19)&&(n_.endLine==pos.line)&&cy Γ es (a::as)
  |_=>false
 |Γ,.mu0 m o,e=>match e with
  |.Call (.Attribute l x n_) [] [] pos=>decide (x=m)&&ax Γ o l&&bN l&&(n_.endLine==pos.line)
  |_=>false
noncomputable def zA:cJ->Ps->List (Option Expr)->List Expr->Bool
 |_,.nil,ks,vs=>match ks,vs with
  |[],[]=>true
  |_,_=>false
 |Γ,.cons k v r,ks,vs=>match ks,vs with
  |some x::ks,y::vs=>ax Γ k x&&ax Γ v y&&zA Γ r ks vs
  |_,_=>false
noncomputable def cy:cJ->Es->List Expr->Bool
 |_,.nil,as=>match as with
  |[]=>true
  |_=>false
 |Γ,.cons e es,as=>match as with
  |a::as=>ax Γ e a&&aj a&&cy Γ es as
  |_=>false
noncomputable def qZ:cJ->Eo->Option Expr->Bool
 |_,.no,a=>match a with
  |none=>true
  |_=>false
 |Γ,.yes e,a=>match a with
  |some a=>ax Γ e a
  |_=>false
noncomputable def q9:cJ->To->List Expr->Bool
 |_,.no,as=>match as with
  |[]=>true
  |_=>false
 |Γ,.yes t,as=>match as with
  |[a]=>c0 Γ t a
  |_=>false
noncomputable def c0:cJ->T->Expr->Bool
 |Γ,.inC n a b,e=>match e with
  |.Compare l [o] [r] _=>ax Γ a l&&ax Γ b r && !(behindInMarks o r)&&decide (o=bif n then .NotIn else .In)
  |_=>false
 |Γ,.val e,ex=>ax Γ e ex&&Bh ex
 |Γ,.cmp o a b,e=>match e with
  |.Compare l [op] [r] _=>decide (o=op)&&ax Γ a l&&ax Γ b r && !(behindInMarks op r)
  |_=>false
 |Γ,.and a b,e=>match e with
  |.BoolOp .And [l,r] _=>c0 Γ a l&&c0 Γ b r
  |.BoolOp .And (l::r::q::rest) pos=>c0 Γ a l&&c0 Γ b (.BoolOp .And (r::q::rest) pos)
  |_=>false
 |Γ,.or a b,e=>match e with
  |.BoolOp .Or [l,r] _=>c0 Γ a l&&c0 Γ b r
  |.BoolOp .Or (l::r::q::rest) pos=>c0 Γ a l&&c0 Γ b (.BoolOp .Or (r::q::rest) pos)
  |_=>false
 |Γ,.not a,e=>match e with
  |.UnaryOp .Not l _=>c0 Γ a l
  |_=>false
noncomputable def mV:cJ->I->Expr->Expr->Bool
 |Γ,.seq e,_,ex=>ax Γ e ex
 |Γ,.enum es,tg,e=>match isTup tg,hJ e with
  |true,some (x,[a],[])=>cf Γ x&&Γ.blt.contains x&&decide (x=("enumerate" : Str))&&aj a&&cy Γ es [a]
  |_,_=>false
 |Γ,.zip es,tg,e=>match isTup tg,hJ e with
  |true,some (x,[a,b],[])=>cf Γ x&&Γ.blt.contains x&&decide (x=("zip" : Str))&&aj a&&aj b&&cy Γ es [a,b]
  |_,_=>false
 |Γ,.rg1 es,_,e=>match hJ e with
  |some (x,[a],[])=>cf Γ x&&Γ.blt.contains x&&decide (x=("range" : Str))&&aj a&&cy Γ es [a]
  |_=>false
end
mutual
noncomputable def gg:cJ->S->Stmt->Bool
 |Γ,.set i e,st=>match st with
  |.Assign [.Name x _] v _=>mT Γ i x&&(d9 v||decide (Γ.sc.names.lookup x=some .cell))&&ax Γ e v
  |_=>false
 |Γ,.setC i n e t j c,st=>match st with
  |.Assign [.Name y py] (.ListComp E_ [⟨tg,it,ifs,ia⟩] sc pos) Ng=>decide (Γ.N[i]?=some y)&&decide (Γ.sc.names.lookup y=some .local)&&(py.line==pos.line) && !(sc.names.any λ(p:Str×NameKind)=>p.1==y&&(p.2==.local || p.2==.cell)) &&
   kF Γ sc&&decide (n=(ownOf sc).length)&&decide (ia=0)&&mV Γ j tg it&&jf it&&qY (inComp Γ sc) t tg&&q9 (inComp Γ sc) c ifs&&ax (inComp Γ sc) e E_
  |_=>false
 |Γ,.expr e,st=>match st with
  |.Expr v _=>d9 v&&ax Γ e v
  |_=>false
 |Γ,.ret e,st=>match st with
  |.Return (some v) _=>ax Γ e v
  |_=>false
 |Γ,.ite t a b,st=>match st with
  |.If c x y _=>c0 Γ t c&&cg Γ a x&&cg Γ b y
  |_=>false
 |Γ,.for g j b,st=>match st with
  |.For tg it body [] _=>qY Γ g tg&&mV Γ j tg it&&jf it&&cg Γ b body
  |_=>false
 |_,.pass,st=>match st with
  |.Pass _=>true
  |_=>false
 |_,.never,_=>true
 |Γ,.putIx o i e,st=>match st with
  |.Assign [.Subscript l r _] v _=>ax Γ o l&&ax Γ i r&&ax Γ e v&&cq r
  |_=>false
 |Γ,.putP o i e,st=>match st with
  |.Assign [.Subscript l r _] v _=>ax Γ o l&&ax Γ i r&&ax Γ e v&&d9 v&&cq r
  |_=>false
 |Γ,.putC o i e,st=>match st with
  |.Assign [.Subscript l r _] v _=>ax Γ o l&&ax Γ i r&&ax Γ e v&&d9 v&&cq r
  |_=>false
 |Γ,.setF o f e,st=>match st with
  |.Assign [.Attribute l x _] v _=>ax Γ o l&&decide (x=f)&&ax Γ e v
  |_=>false
 |Γ,.while t b,st=>match st with
  |.While c body [] _=>c0 Γ t c&&cg Γ b body
  |_=>false
noncomputable def cg:cJ->Ss->List Stmt->Bool
 |_,.nil,l=>match l with
  |[]=>true
  |_=>false
 |Γ,.cons s r,l=>match l with
  |st::Mv=>gg Γ s st&&cg Γ r Mv
  |_=>false
end
end DD
namespace DD
open PySem PySem.Spec PyProof.Rows L2
variable {x y:Str}{i:Nat}{f C:Addr}{sp:aK}{fd:Zu}{N ps blt fns glob:Zf}{st:Stmt}{sc:Scope}{ir:Ss}{cn:Cn}{c:Expr}{py pos' pos:Pos}{t:WT}
def dC(P:Zv)(w:World)(K:Za)(mg:Ze)(base:Heap)(k:Nat)(x:Str)(sp:aK):Prop:=bG P w K mg base k x sp \/ ∃k',k=k'+1/\KC P w K mg base k' x sp
structure fX (Γ:cJ) (c:Cn) (X:Cx):Prop where
 N:X.N=Γ.N
 sc:X.env.scope=Γ.sc
 kind:Γ.sc.kind=.function
 nd:Γ.N.Nodup
 calm:X.calm=true
 fn:Γ.all=true->∀x,X.fn x=true
 own:PassesOwn 'b' X.A X.env X.xe
 glob:∀(j:Nat) x,Γ.glob[j]?=some x->mE X.K X.mg x (c.G.getD j .non)
 blt:∀x,Γ.blt.contains x=true->X.mg x=none
 fns:∀(j:Nat) x,Γ.fns[j]?=some x->∃k,dC X.prog X.w X.K X.mg X.base k x (c.F.getD j λ_ _ _=>False)/\bK k X.A
 flds:∀C f,c.O C f->fS X.K C/\cX X.K C f
 mts:zf X c.T
 isi:∀C d b,c.I C d=some b->E5 X.K C d b
 hu:X.A.units+40<cLine
section
variable {Γ:cJ}{X:Cx}{e:Expr}{pos:Pos}{cn:Cn}
def Je(sc:Scope)(env:Env):relabel sc env=DN sc env.scope:=rfl
theorem fX.comp{s:Shared}{H:Hp}{ex:Zh}{pn:Zc}(g:fX Γ cn X)(h:kF Γ sc=true):fX (inComp Γ sc) cn (cY X sc (ownOf sc) (sw Γ sc) C s H ex pn):=by
 unfold kF at h;simp only[YX,XQ] at h;obtain⟨⟨⟨⟨⟨h1,b⟩,j⟩,k⟩,l⟩,a⟩:=h;refine⟨rfl,?_,h1,a,g.calm,(λz=>nomatch z),PassesOwn.never,g.glob,g.blt,g.fns,g.flds,g.mts,g.isi,g.hu⟩;show relabel sc X.env=DN sc Γ.sc;rw[Je,g.sc]
theorem fX.cscope(g:fX Γ cn X)(h:kF Γ sc=true):fU Γ.sc sc X.N (ownOf sc) (sw Γ sc):=by
 unfold kF at h;simp only[YX,XQ] at h;obtain⟨⟨⟨⟨⟨h1,a⟩,b⟩,j⟩,k⟩,l⟩:=h;rw[XI] at a b j k;refine⟨h1,λy hy=>XN (a y hy),λy hy=>XN (b y hy),λy hy=>XN (j y hy),?_,λp hp=>?_⟩
 .rw[g.N];unfold sw;rw[ZF]
 .rw[g.N] at hp;exact XN (k p hp)
def DO(h:zy (sc.names.lookup x)=true):ui sc x:=by
 unfold zy at h;unfold ui;split at h
 .exact .inl (by assumption)
 .exact .inr (.inl (by assumption))
 .exact .inr (.inr (by assumption))
 .exact ff h
def DP(h:zz (sc.names.lookup x)=true):L2.Loc sc x:=by
 unfold zz at h;unfold L2.Loc;split at h
 .exact .inl (by assumption)
 .exact .inr (by assumption)
 .exact ff h
def zB(g:fX Γ cn X)(h:mT Γ i x=true):X.N.Nodup/\X.N[i]?=some x/\L2.Loc X.env.scope x/\(X.fn x=true\/X.env.scope.names.lookup x=some .local):=by
 unfold mT at h;simp only[YX,Bool.or_eq_true,XQ] at h;obtain⟨⟨h1,a⟩,b⟩:=h;rw[g.N,g.sc];exact⟨g.nd,h1,DP a,b.imp (λz=>g.fn z x) id⟩
def dQ(g:fX Γ cn X)(h:cf Γ x=true):Gl X x/\(x==("__debug__" : Str))=false:=by
 unfold cf at h;simp only[YX,XQ,Bool.not_eq_true'] at h;refine⟨?_,h.2⟩;show X.env.scope.names.lookup x=_;rw[g.sc];exact h.1
theorem E9(g:fX Γ cn X):∀{is:Zj}{es:Zg},qX Γ is es=true->wX X es (yK is)/\(assignEach es X.env).length=is.length/\(assignEach es X.env).findIdx? (·.1)=none
 |[],[],_=>⟨Fv,rfl,rfl⟩
 |i::is,.Name x p::es,h=>by
  unfold qX at h;rw[YX] at h;obtain⟨h1,j,k⟩:=E9 g h.2;obtain⟨a,b,c,d⟩:=zB g h.1;refine⟨BQ (wY a b c d) h1 rfl,?_,?_⟩
  .show(assignEach es X.env).length+1=is.length+1;rw[j]
  .show List.findIdx? (·.1) ((false,assign (.Name x p) X.env)::assignEach es X.env)=none
   rw[List.findIdx?_cons];simp[k]
 |[],_::_,h=>ff h
 |_::_,[],h=>ff h
 |_::_,.BoolOp .. :: _,h=>ff h
 |_::_,.NamedExpr .. :: _,h=>ff h
 |_::_,.BinOp .. :: _,h=>ff h
 |_::_,.UnaryOp .. :: _,h=>ff h
 |_::_,.Lambda .. :: _,h=>ff h
 |_::_,.IfExp .. :: _,h=>ff h
 |_::_,.Dict .. :: _,h=>ff h
 |_::_,.Set .. :: _,h=>ff h
 |_::_,.ListComp .. :: _,h=>ff h
 |_::_,.SetComp .. :: _,h=>ff h
 |_::_,.DictComp .. :: _,h=>ff h
 |_::_,.GeneratorExp .. :: _,h=>ff h
 |_::_,.Await .. :: _,h=>ff h
 |_::_,.Yield .. :: _,h=>ff h
 |_::_,.YieldFrom .. :: _,h=>ff h
 |_::_,.Compare .. :: _,h=>ff h
 |_::_,.Call .. :: _,h=>ff h
 |_::_,.FormattedValue .. :: _,h=>ff h
 |_::_,.JoinedStr .. :: _,h=>ff h
 |_::_,.Constant .. :: _,h=>ff h
 |_::_,.Attribute .. :: _,h=>ff h
 |_::_,.Subscript .. :: _,h=>ff h
 |_::_,.Starred .. :: _,h=>ff h
 |_::_,.List .. :: _,h=>ff h
 |_::_,.Tuple .. :: _,h=>ff h
 |_::_,.Slice .. :: _,h=>ff h
def DQ{t:dk}(g:fX Γ cn X)(h:qY Γ t e=true):PG X e (xq X.K t):=by
 unfold qY at h;split at h
 .obtain⟨a,b,c,d⟩:=zB g h
  exact wY a b c d
 .obtain⟨h1,j,k⟩:=E9 g h
  exact Ip g.calm h1 j k
 .exact ff h
def Bl{env:Env}(h:Bh e=true):∀b,isTrue e env b=(do let v ←b;standAt e.pos;holding [v] (truthy v)):=by
 intro w;cases e with
 |UnaryOp op a p=>cases op<;>first | rfl | exact absurd (show false=true from h) YE
 |BoolOp _ _ _=>exact absurd (show false=true from h) YE
 |IfExp _ _ _ _=>exact absurd (show false=true from h) YE
 |Compare _ _ _ _=>exact absurd (show false=true from h) YE
 |_=>rfl
def GI:∀n∈qW,bootBuiltins (Str.ofString n)=some (.type n):=by rfl'
def GJ:∀n∈qW,Str.ofString n≠("__name__" : Str):=by rfl'
def rc(h:jc X e t)(hp:(∃vs p,e=.BoolOp .And vs p) \/ ∃vs p,e=.BoolOp .Or vs p):qo X e t:=by
 rcases hp with⟨vs,p,rfl⟩ | ⟨vs,p,rfl⟩
 .intro σ M ρ H Q rs rm q a a_ s I
  exact h σ M ρ H Q rs rm q a_ s I
 .intro σ M ρ H Q rs rm q a a_ s I
  exact h σ M ρ H Q rs rm q a_ s I
mutual
theorem sE:∀(ir:E){Γ:cJ}{cn:Cn}{X:Cx}{e:Expr},fX Γ cn X->ax Γ ir e=true->aI X e (wE cn ir)
 |.var i,Γ,cn,X,e,g,h=>by
  rw[1]
  .unfold Bg at h
   simp only[YX,XQ,Bool.not_eq_true'] at h;rw[wE];exact FX (by rw[g.N];exact h.1.1.1) (by rw[g.sc];exact DO h.1.1.2) h.1.2 h.2
  .exact ff h
 |.int i,Γ,cn,X,e,g,h=>by
  rw[1]
  .cases XN h;rw[wE];exact FY
  .exact ff h
 |.str i,Γ,cn,X,e,g,h=>by
  rw[1]
  .cases XN h;rw[wE];exact FZ
  .exact ff h
 |.bl i,Γ,cn,X,e,g,h=>by
  rw[1]
  .cases XN h;rw[wE];exact Id
  .exact ff h
 |.non,Γ,cn,X,e,g,h=>by
  rw[1]
  .rw[wE];exact F1
  .exact ff h
 |.glob j,Γ,cn,X,e,g,h=>by
  rw[1]
  .rw[YX] at h
   obtain⟨h1,h2⟩:=dQ g h.1;rw[wE];exact Co h1 (g.glob j _ (XN h.2)) h2
  .exact ff h
 |.ty n,Γ,cn,X,e,g,h=>by
  rw[1]
  .simp only[YX,XQ] at h
   obtain⟨⟨⟨h1,h2⟩,rfl⟩,h4⟩:=h;obtain⟨h5,h6⟩:=dQ g h1;have h4:n∈qW:=by simpa using h4
   rw[wE];exact nK (Fq (v:=.ty n) h5 (g.blt _ h2) (GI n h4) rfl (GJ n h4) h6) λ_=>RV.ty_.2 rfl
  .exact ff h
 |.bin o a b,Γ,cn,X,e,g,h=>by
  rw[1]
  .simp only[YX,XQ] at h
   obtain⟨⟨rfl,h2⟩,h3⟩:=h;rw[wE];exact F2 (Gm o) (sE a g h2) (sE b g h3)
  .exact ff h
 |.cmp o a b,Γ,cn,X,e,g,h=>by
  rw[1]
  .simp only[YX,XQ,Bool.not_eq_true'] at h
   obtain⟨⟨⟨rfl,h2⟩,h3⟩,h4⟩:=h;rw[wE];exact F3 (xB g.hu o) (sE a g h2) (sE b g h3) h4
  .exact ff h
 |.and a b,Γ,cn,X,e,g,h=>by
  rw[1]
  .rw[YX] at h
   rw[wE];exact xn (sE a g h.1) (xm (sE b g h.2))
  .rw[YX] at h
   rw[wE];exact xn (sE a g h.1) (sE b g h.2)
  .exact ff h
 |.or a b,Γ,cn,X,e,g,h=>by
  rw[1]
  .rw[YX] at h
   rw[wE];exact Au (sE a g h.1) (xm (sE b g h.2))
  .rw[YX] at h
   rw[wE];exact Au (sE a g h.1) (sE b g h.2)
  .exact ff h
 |.not a,Γ,cn,X,e,g,h=>by
  rw[1]
  .rw[wE];exact F6 (sE a g h)
  .exact ff h
 |.ite c a b,Γ,cn,X,e,g,h=>by
  rw[1]
  .simp only[YX] at h
   rw[wE];exact Av (sT c g h.1.1) (sE a g h.1.2) (sE b g h.2)
  .exact ff h
 |.fn j es,Γ,cn,X,e,g,h=>by
  rw[1]
  .rename_i q_
   obtain⟨_,_,rfl⟩:=df q_;simp only[YX,XQ] at h;obtain⟨⟨⟨⟨h1,h2⟩,h3⟩,h4⟩,h5⟩:=h;obtain⟨h6,h7⟩:=dQ g h1;obtain⟨k,Fj,hr⟩:=g.fns j _ h2;rw[wE];rcases Fj with Fj | ⟨k',rfl,Fj⟩
   .exact Gc Fj hr h6 h7 h3 h4 (iK es g h5)
   .exact Dm Fj hr h6 h7 h3 h4 (iK es g h5)
  .exact ff h
 |.bi b es,Γ,cn,X,e,g,h=>by
  rw[1]
  .rename_i q_
   obtain⟨_,_,rfl⟩:=df q_;simp only[YX,XQ] at h;obtain⟨⟨⟨⟨⟨h1,h2⟩,rfl⟩,h3⟩,h4⟩,h5⟩:=h;obtain⟨h6,h7⟩:=dQ g h1;rw[wE];exact IQ b g.calm h6 (g.blt _ h2) h3 h4 (iK es g h5)
  .exact ff h
 |.bj b es,Γ,cn,X,e,g,h=>by
  rw[1]
  .rename_i q_
   obtain⟨_,_,rfl⟩:=df q_;simp only[YX,XQ] at h;obtain⟨⟨⟨⟨⟨h1,h2⟩,rfl⟩,h3⟩,h4⟩,h5⟩:=h;obtain⟨h6,h7⟩:=dQ g h1;rw[wE];exact Jb b g.calm h6 (g.blt _ h2) h3 h4 (iK es g h5)
  .exact ff h
 |.bk b es,Γ,cn,X,e,g,h=>by
  rw[1]
  .rename_i q_
   obtain⟨_,_,rfl⟩:=df q_;simp only[YX,XQ] at h;obtain⟨⟨⟨⟨⟨h1,h2⟩,rfl⟩,h3⟩,h4⟩,h5⟩:=h;obtain⟨h6,h7⟩:=dQ g h1;rw[wE];exact Jd b g.calm h6 (g.blt _ h2) h3 h4 (iK es g h5)
  .exact ff h
 |.lenSet a,Γ,cn,X,e,g,h=>by
  rw[1]
  .rename_i q_
   obtain⟨_,_,_,_,rfl⟩:=jK q_;simp only[YX,XQ] at h;obtain⟨⟨⟨⟨⟨⟨⟨h1,h2⟩,rfl⟩,h3⟩,h4⟩,rfl⟩,h5⟩,h6⟩:=h;rw[wE];exact zl g.calm (dQ g h1).1 (g.blt _ h2) (dQ g h3).1 (g.blt _ h4) (sE a g h6) h5
  .exact ff h
 |.lrev es,Γ,cn,X,e,g,h=>by
  rw[1]
  .rename_i q_
   obtain⟨_,_,_,_,rfl⟩:=jK q_;simp only[YX,XQ] at h;obtain⟨⟨⟨⟨⟨⟨⟨h1,h2⟩,rfl⟩,h3⟩,h4⟩,rfl⟩,h5⟩,h6⟩:=h;rw[wE];exact DM g.calm (dQ g h1).1 (g.blt _ h2) (dQ g h3).1 (g.blt _ h4) (iK es g h6) h5
  .cases h
 |.lrg es,Γ,cn,X,e,g,h=>by
  rw[1]
  .rename_i q_
   obtain⟨_,_,_,_,rfl⟩:=jK q_;simp only[YX,XQ] at h;obtain⟨⟨⟨⟨⟨⟨⟨h1,h2⟩,rfl⟩,h3⟩,h4⟩,rfl⟩,h5⟩,h6⟩:=h;rw[wE];exact DB g.calm (dQ g h1).1 (g.blt _ h2) (dQ g h3).1 (g.blt _ h4) (iK es g h6) h5
  .rename_i q_
   obtain⟨_,_,_,_,rfl⟩:=jK q_;simp only[YX,XQ] at h;obtain⟨⟨⟨⟨⟨⟨⟨⟨h1,h2⟩,rfl⟩,h3⟩,h4⟩,rfl⟩,h5⟩,V2⟩,h6⟩:=h;rw[wE];exact DC g.calm (dQ g h1).1 (g.blt _ h2) (dQ g h3).1 (g.blt _ h4) (iK es g h6) h5 V2
  .exact ff h
 |.mt m o es,Γ,cn,X,e,g,h=>by
  rw[1]
  .simp only[YX,XQ] at h
   obtain⟨⟨⟨⟨⟨⟨⟨rfl,h1⟩,h2⟩,h3⟩,h4⟩,h5⟩,h6⟩,h7⟩:=h;rw[wE];exact Gq g.hu m (sE o g h1) (iK es g h7) h2 h3 h4 h5 h6
  .exact ff h
 |.mt0 m o,Γ,cn,X,e,g,h=>by
  rw[1]
  .simp only[YX,XQ] at h
   obtain⟨⟨⟨rfl,h1⟩,h2⟩,h3⟩:=h;rw[wE];exact C7 g.hu m (sE o g h1) h2 h3
  .exact ff h
 |.ixC a b,Γ,cn,X,e,g,h=>by
  rw[1]
  .simp only[YX] at h
   rw[wE];exact Gy g.hu (sE a g h.1.1) (sE b g h.1.2) h.2
  .cases h
 |.camL a b,Γ,cn,X,e,g,h=>by
  rw[1]
  .simp only[YX] at h
   rw[wE];exact Gx g.hu (sE a g h.1) (sE b g h.2)
  .cases h
 |.ix a b,Γ,cn,X,e,g,h=>by
  rw[1]
  .simp only[YX] at h
   rw[wE];exact IF g.hu (sE a g h.1.1) (sE b g h.1.2) h.2
  .exact ff h
 |.sl a lo hi,Γ,cn,X,e,g,h=>by
  rw[1]
  .simp only[YX] at h
   rw[wE];exact IJ (sE a g h.1.1) (KG lo g h.1.2) (KG hi g h.2)
  .exact ff h
 |.lst es,Γ,cn,X,e,g,h=>by
  rw[1]
  .simp only[YX,XQ] at h
   rw[wE];exact Gb (iK es g h.1) h.2
  .exact ff h
 |.tup es,Γ,cn,X,e,g,h=>by
  rw[1]
  .simp only[YX,XQ] at h
   rw[wE];exact Ga (iK es g h.1) h.2
  .exact ff h
 |.comp n el t i c,Γ,cn,X,e,g,h=>by
  rw[1]
  .simp only[YX,XQ] at h
   obtain⟨⟨⟨⟨⟨⟨⟨h1,rfl⟩,rfl⟩,h2⟩,h3⟩,h4⟩,h5⟩,h6⟩:=h;rw[wE];exact CO (g.cscope h1) g.sc g.calm (sI i g h2) (λC s H0 ex pn=>DQ (g.comp h1) h4) (λC s H0 ex pn=>KH c (Γ:=inComp Γ _) (g.comp h1) h5) (λC s H0 ex pn=>sE el (Γ:=inComp Γ _) (g.comp h1) h6) h3
  .exact ff h
 |.neg a,Γ,cn,X,e,g,h=>by
  rw[1]
  .rw[wE];exact Gr (sE a g h)
  .exact ff h
 |.inv a,Γ,cn,X,e,g,h=>by
  rw[1]
  .rw[wE];exact Gs (sE a g h)
  .exact ff h
 |.dnew,Γ,cn,X,e,g,h=>by
  rw[1]
  .rw[wE];exact Dc
  .exact ff h
 |.fld o f,Γ,cn,X,e,g,h=>by
  rw[1]
  .simp only[YX,XQ] at h
   obtain⟨⟨h1,rfl⟩,h3⟩:=h;rw[wE];exact GA g.flds (sE o g h1) h3
  .exact ff h
 |.mu m o es,Γ,cn,X,e,g,h=>by
  rw[1]
  .simp only[YX,XQ] at h
   obtain⟨⟨⟨⟨⟨⟨⟨rfl,h1⟩,h2⟩,h3⟩,h4⟩,h5⟩,h6⟩,h7⟩:=h;rw[wE];exact Do g.mts (sE o g h1) (iK es g h7) h2 h3 h4 h5 h6
  .exact ff h
 |.mu0 m o,Γ,cn,X,e,g,h=>by
  rw[1]
  .simp only[YX,XQ] at h
   obtain⟨⟨⟨rfl,h1⟩,h2⟩,h3⟩:=h;rw[wE];exact AU g.mts (sE o g h1) h2 h3
  .exact ff h
theorem sP:∀(ir:Ps){Γ:cJ}{cn:Cn}{X:Cx}{ks:List (Option Expr)}{vs:Zg},fX Γ cn X->zA Γ ir ks vs=true->E1 X ks vs (wP cn ir)
 |.nil,Γ,cn,X,ks,vs,g,h=>by
  unfold zA at h;split at h
  .rw[wP];exact .nil
  .exact ff h
 |.cons k v r,Γ,cn,X,ks,vs,g,h=>by
  unfold zA at h;split at h
  .simp only[YX] at h
   rw[wP];exact .cons (sE k g h.1.1) (sE v g h.1.2) (sP r g h.2)
  .exact ff h
theorem iK:∀(ir:Es){Γ:cJ}{cn:Cn}{X:Cx}{es:Zg},fX Γ cn X->cy Γ ir es=true->eG X es (wEs cn ir)
 |.nil,Γ,cn,X,es,g,h=>by
  unfold cy at h;split at h
  .rw[wEs];exact F9
  .exact ff h
 |.cons e r,Γ,cn,X,es,g,h=>by
  unfold cy at h;split at h
  .simp only[YX] at h
   rw[wEs];exact Cw (sE e g h.1.1) (iK r g h.2) h.1.2
  .exact ff h
theorem KG:∀(ir:Eo){Γ:cJ}{cn:Cn}{X:Cx}{e:Option Expr},fX Γ cn X->qZ Γ ir e=true->AK X e (wEo cn ir)
 |.no,Γ,cn,X,e,g,h=>by
  unfold qZ at h;split at h
  .rw[wEo];exact C1
  .exact ff h
 |.yes a,Γ,cn,X,e,g,h=>by
  unfold qZ at h;split at h
  .rw[wEo];exact C2 (sE a g h)
  .exact ff h
theorem KH:∀(ir:To){Γ:cJ}{cn:Cn}{X:Cx}{e:Zg},fX Γ cn X->q9 Γ ir e=true->yR X e (kE cn ir)
 |.no,Γ,cn,X,e,g,h=>by
  unfold q9 at h;split at h
  .rw[kE];exact .inl ⟨rfl,rfl⟩
  .exact ff h
 |.yes a,Γ,cn,X,e,g,h=>by
  unfold q9 at h;split at h
  .rw[kE];exact .inr ⟨_,rfl,sT a g h⟩
  .exact ff h
theorem sT:∀(ir:T){Γ:cJ}{cn:Cn}{X:Cx}{e:Expr},fX Γ cn X->c0 Γ ir e=true->jc X e (wT cn ir)
 |.val a,Γ,cn,X,e,g,h=>by
  unfold c0 at h;rw[YX] at h;rw[wT];exact F8 (sE a g h.1) (Bl h.2)
 |.inC n a b,Γ,cn,X,e,g,h=>by
  unfold c0 at h;split at h
  .simp only[YX,Bool.not_eq_true',XQ] at h
   obtain⟨h,rfl⟩:=h;rw[wT];exact xj (Gz n g.hu) (sE a g h.1.1) (sE b g h.1.2) h.2
  .exact ff h
 |.cmp o a b,Γ,cn,X,e,g,h=>by
  unfold c0 at h;split at h
  .simp only[YX,XQ,Bool.not_eq_true'] at h
   obtain⟨⟨⟨rfl,h2⟩,h3⟩,h4⟩:=h;rw[wT];exact xj (xB g.hu o) (sE a g h2) (sE b g h3) h4
  .exact ff h
 |.and a b,Γ,cn,X,e,g,h=>by
  unfold c0 at h;split at h
  .rw[YX] at h
   rw[wT];exact(xk (sT a g h.1) (Cs (sT b g h.2))).pt
  .rw[YX] at h
   rw[wT];exact(xk (sT a g h.1) (rc (sT b g h.2) (.inl ⟨_,_,rfl⟩))).pt
  .exact ff h
 |.or a b,Γ,cn,X,e,g,h=>by
  unfold c0 at h;split at h
  .rw[YX] at h
   rw[wT];exact(At (sT a g h.1) (F5 (sT b g h.2))).pt
  .rw[YX] at h
   rw[wT];exact(At (sT a g h.1) (rc (sT b g h.2) (.inr ⟨_,_,rfl⟩))).pt
  .exact ff h
 |.not a,Γ,cn,X,e,g,h=>by
  unfold c0 at h;split at h
  .rw[wT];exact F4 (sT a g h)
  .exact ff h
theorem sI:∀(ir:I){Γ:cJ}{cn:Cn}{X:Cx}{tg e:Expr},fX Γ cn X->mV Γ ir tg e=true->tf X tg e (wI cn ir)
 |.seq a,Γ,cn,X,tg,e,g,h=>by
  unfold mV at h;rw[wI];exact Gh (sE a g h)
 |.enum es,Γ,cn,X,tg,e,g,h=>by
  unfold mV at h;split at h
  .rename_i t_ q_
   obtain⟨_,_,_,rfl⟩:=vE t_;obtain⟨_,_,rfl⟩:=df q_;simp only[YX,XQ] at h;obtain⟨⟨⟨⟨h1,h2⟩,rfl⟩,h3⟩,h4⟩:=h;rw[wI];exact Dr (dQ g h1).1 (g.blt _ h2) (iK es g h4) h3
  .exact ff h
 |.zip es,Γ,cn,X,tg,e,g,h=>by
  unfold mV at h;split at h
  .rename_i t_ q_
   obtain⟨_,_,_,rfl⟩:=vE t_;obtain⟨_,_,rfl⟩:=df q_;simp only[YX,XQ] at h;obtain⟨⟨⟨⟨⟨h1,h2⟩,rfl⟩,h3⟩,V3⟩,h4⟩:=h;rw[wI];exact GB (dQ g h1).1 (g.blt _ h2) (iK es g h4) h3 V3
  .exact ff h
 |.rg1 es,Γ,cn,X,tg,e,g,h=>by
  unfold mV at h;split at h
  .rename_i q_
   obtain⟨_,_,rfl⟩:=df q_;simp only[YX,XQ] at h;obtain⟨⟨⟨⟨h1,h2⟩,rfl⟩,h3⟩,h4⟩:=h;rw[wI];exact yO (dQ g h1).1 (g.blt _ h2) (iK es g h4) h3
  .exact ff h
end
def zC{a:List Comprehension}(g:fX Γ cn X)(h1:Γ.sc.names.lookup y=some .local)(b:(py.line==pos.line)=true)(j:(sc.names.any λ(p:Str×NameKind)=>p.1==y&&(p.2==.local || p.2==.cell))=false):
  swapsWith (.ListComp c a sc pos) (some (.Name y py)) pos'.line X.env=pure true:=by
 show pure (X.env.blockKind==.function&&X.env.kindOf y==some .local && py.line==pos.line && !(sc.names.any λ(p:Str×NameKind)=>p.1==y&&(p.2==.local || p.2==.cell)))=(pure true:Sem Bool);have k:X.env.blockKind=.function:=by
  unfold Env.blockKind;rw[g.sc,g.kind];rfl
 have l:X.env.kindOf y=some .local:=by show X.env.scope.names.lookup y=_;rw[g.sc];exact h1
 rw[k,l,b,j];rfl
def zD(g:fX Γ cn X)(h1:Γ.sc.names.lookup y=some .cell)(v:Expr):swapsWith v (some (.Name y py)) i X.env=pure false:=by
 have j:X.env.kindOf y=some .cell:=by show X.env.scope.names.lookup y=_;rw[g.sc];exact h1
 have k:(some NameKind.cell==some NameKind.local)=false:=rfl;have a:∀(b c d:Bool),(b&&X.env.kindOf y==some .local && c&&d)=false:=λb c d=>by rw[j,k,Bool.and_false,Bool.false_and,Bool.false_and]
 cases v<;>first | rfl | exact congrArg pure (a _ _ _)
def DR{t:WE}(a:X.N.Nodup)(hi:X.N[i]?=some x)(hx:Loc X.env.scope x)(b:X.fn x=true\/X.env.scope.names.lookup x=some .local)(hc:swapsWith e (some (.Name x pos')) pos.line X.env=pure false)(h:aI X e t):
  je X (.Assign [.Name x pos'] e pos) (CK i t):=by
 intro σ M ρ H D rs rm q;refine dj (Ht a hi hx (a0 e) hc b) ?_;show tW X e ρ H _;refine aH (h σ M ρ H _ rs rm q) λv H1 z=>?_
 obtain⟨k1,d,M1,r1,m1,q1⟩:=z;exact⟨k1,σ.set i (some d),M1,(rs.mono k1).set i r1,m1,q1⟩
def Bm{body:Zt}{G:WS}(hp:PassesOwn 'b' X.A X.env X.xe)(hc:jc X c t)(hb:lg X body G):je X (.While c body [] pos) (mS t G):=by
 intro σ M ρ H E rs rm q;obtain⟨W,⟨J,L⟩,step⟩:=q;refine dj (BR hp (k8 c) (lf body)) ?_;refine⟨λm l H'=>Kp H H'/\∃g M',RS X.K H' g l/\RM X.K M' H'/\W m g M',⟨J,Kp.refl H,σ,M,rs,rm,L⟩,?_⟩;rintro m l H' ⟨k,g,M',p,O,w'⟩;refine fK (hc g M' l H' _ p O (step m g M' w')) λb H1 P=>?_
 obtain⟨k1,M1,m1,q1⟩:=P;cases b with
 |true=>
  obtain⟨N,R,q2⟩:=q1;refine⟨λI H2=>Kp H H2/\∃j M2,RS X.K H2 j I/\RM X.K M2 H2/\N j M2,λI H2 ⟨k2,j,M2,a,b,n⟩=>let⟨m',h1,h2⟩:=R j M2 n;⟨m',h1,k2,j,M2,a,b,h2⟩,?_⟩;refine dL (hb g M1 l H1 _ (p.mono k1) m1 q2) ⟨λS T U=>?_,λ_ _=>bR (k.trans k1),λ_ _=>jd (k.trans k1),λS T ⟨r,B,F,a,b,c⟩=>⟨(k.trans k1).trans r,B,F,a,b,c⟩⟩;obtain⟨r,B,F,a,b,c⟩:=U;exact⟨(k.trans k1).trans r,B,F,a,b,c⟩
 |false=>exact⟨k.trans k1,g,M1,p.mono k1,m1,q1⟩
mutual
theorem sS:∀(ir:S){Γ:cJ}{cn:Cn}{X:Cx}{st:Stmt},fX Γ cn X->gg Γ ir st=true->je X st (wS cn ir)
 |.set i e,Γ,cn,X,st,g,h=>by
  unfold gg at h;split at h
  .simp only[YX] at h
   obtain⟨a,b,c,d⟩:=zB g h.1.1;rw[wS];refine DR a b c d ?_ (sE e g h.2);rcases Bool.or_eq_true_iff.1 h.1.2 with z | z
   .exact uJ z
   .exact zD g (XN z) _
  .exact ff h
 |.setC i n e t j c,Γ,cn,X,st,g,h=>by
  unfold gg at h;split at h
  .simp only[YX,XQ,Bool.not_eq_true'] at h
   obtain⟨⟨⟨⟨⟨⟨⟨⟨⟨⟨⟨a1,a2⟩,a3⟩,a4⟩,h1⟩,rfl⟩,rfl⟩,h2⟩,h3⟩,h4⟩,h5⟩,h6⟩:=h;rw[wS];exact CP (g.cscope h1) g.sc g.calm (by rw[g.N];exact g.nd) (by rw[g.N];exact a1) (by rw[g.sc];exact a2) (sI j g h2) (λC s H0 ex pn=>DQ (g.comp h1) h4)
    (λC s H0 ex pn=>KH c (Γ:=inComp Γ _) (g.comp h1) h5) (λC s H0 ex pn=>sE e (Γ:=inComp Γ _) (g.comp h1) h6) h3 (zC g a2 a3 a4)
  .exact ff h
 |.expr e,Γ,cn,X,st,g,h=>by
  unfold gg at h;split at h
  .simp only[YX] at h
   rw[wS];exact CJ (sE e g h.2) h.1
  .exact ff h
 |.ret e,Γ,cn,X,st,g,h=>by
  unfold gg at h;split at h
  .rw[wS];exact Gf (sE e g h)
  .exact ff h
 |.ite t a b,Γ,cn,X,st,g,h=>by
  unfold gg at h;split at h
  .simp only[YX] at h
   rw[wS];exact Im (sT t g h.1.1) (vF a g h.1.2) (vF b g h.2)
  .exact ff h
 |.for t j b,Γ,cn,X,st,g,h=>by
  unfold gg at h;split at h
  .simp only[YX] at h
   rw[wS];exact Gi g.own g.calm (sI j g h.1.1.2) (DQ g h.1.1.1) (vF b g h.2) h.1.2
  .exact ff h
 |.pass,Γ,cn,X,st,g,h=>by
  unfold gg at h;split at h
  .rw[wS];exact CI
  .exact ff h
 |.never,Γ,cn,X,st,g,h=>by rw[wS];exact AA
 |.putIx o i e,Γ,cn,X,st,g,h=>by
  unfold gg at h;split at h
  .simp only[YX] at h
   rw[wS];exact AS g.hu (sE e g h.1.2) (sE o g h.1.1.1) (sE i g h.1.1.2) h.2
  .exact ff h
 |.putP o i e,Γ,cn,X,st,g,h=>by
  unfold gg at h;split at h
  .simp only[YX] at h
   rw[wS];exact Df g.hu (sE e g h.1.1.2) (sE o g h.1.1.1.1) (sE i g h.1.1.1.2) h.1.2 h.2
  .exact ff h
 |.putC o i e,Γ,cn,X,st,g,h=>by
  unfold gg at h;split at h
  .simp only[YX] at h
   rw[wS];exact Dh g.hu (sE e g h.1.1.2) (sE o g h.1.1.1.1) (sE i g h.1.1.1.2) h.1.2 h.2
  .exact ff h
 |.setF o f e,Γ,cn,X,st,g,h=>by
  unfold gg at h;split at h
  .simp only[YX,XQ] at h
   obtain⟨⟨h1,rfl⟩,h3⟩:=h;rw[wS];exact Dl g.flds (sE o g h1) (sE e g h3)
  .exact ff h
 |.while t b,Γ,cn,X,st,g,h=>by
  unfold gg at h;split at h
  .simp only[YX] at h
   rw[wS];exact Bm g.own (sT t g h.1) (vF b g h.2)
  .exact ff h
theorem vF:∀(ir:Ss){Γ:cJ}{cn:Cn}{X:Cx}{st:Zt},fX Γ cn X->cg Γ ir st=true->lg X st (wSs cn ir)
 |.nil,Γ,cn,X,st,g,h=>by
  unfold cg at h;split at h
  .rw[wSs];exact CG
  .exact ff h
 |.cons s r,Γ,cn,X,st,g,h=>by
  unfold cg at h;split at h
  .simp only[YX] at h
   rw[wSs];exact Az (sS s g h.1) (vF r g h.2)
  .exact ff h
end
end
section
variable {P:Zv}{w:World}{K:Za}{mg:Ze}{base:Heap}
structure Names (P:Zv) (w:World) (K:Za) (mg:Ze) (base:Heap) (k:Nat) (glob:Zf) (blt:Zf) (fns:Zf) (cn:Cn):Prop where
 glob:∀(j:Nat) x,glob[j]?=some x->mE K mg x (cn.G.getD j .non)
 blt:∀x,blt.contains x=true->mg x=none
 fns:∀(j:Nat) x,fns[j]?=some x->∃k',k'<=k/\dC P w K mg base k' x (cn.F.getD j λ_ _ _=>False)
 flds:∀C f,cn.O C f->fS K C/\cX K C f
 mts:∀C m sp,cn.T C m=some sp->∃k',k'<=k/\cI P w K mg base k' C m sp
 isi:∀C d b,cn.I C d=some b->E5 K C d b
def Jf(b:nJ K mg x st ps f fd)(S:bX N ps (ai st))(nm:Names P w K mg base i glob blt fns cn)
  (hc:cg ⟨N,ai st,true,glob,blt,fns⟩ ir (aO st)=true) (len:∀ds M Q,sp ds M Q->ds.length=ps.length)
  (h:∀ds M Q,sp ds M Q->wSs cn ir { nx:=λ_ M'=>Q .non M',rt:=Q } (az N ds) M):bG P w K mg base (i+1) x sp:=by
 refine LG b S len (λr_ A outer s H E a=>?_) h;exact vF ir (Γ:=⟨N,ai st,true,glob,blt,fns⟩) ⟨rfl,rfl,S.kind,S.nd,rfl,λ_ _=>rfl,PassesOwn.never,nm.glob,nm.blt,λj x e=>let⟨k',h1,h2⟩:=nm.fns j x e;⟨k',h2,a.mono h1⟩,nm.flds,λC m sp e=>let⟨k',h1,h2⟩:=nm.mts C m sp e;⟨k',h2,a.mono h1⟩,nm.isi,Nat.lt_of_le_of_lt (Nat.add_le_add_left (by decide:40<=64) _) a.units⟩ hc
def vG{k:Nat}(g:qi K x y st f fd)(S:bX N ps (ai st))(nm:Names P w K mg base k glob blt fns cn)
  (hc:cg ⟨N,ai st,true,glob,blt,fns⟩ ir (aO st)=true) (len:∀ds M Q,sp ds M Q->ds.length=ps.length)
  (h:∀ds M Q,sp ds M Q->wSs cn ir { nx:=λ_ M'=>Q .non M',rt:=Q } (az N ds) M):eM P w K mg base jG (k+1) f fd ps (ga K sp):=by
 refine g.ok S (λvs H Q E ⟨ds,M,a,r,_,s,_⟩=>by rw[←r.len];exact len ds M a s) λr_ A outer s H vs Q E b ⟨ds,M,a,r,m,sq,f0⟩=>⟨pA _ _,lf _,?_⟩
 have hb:=vF ir (Γ:=⟨N,ai st,true,glob,blt,fns⟩) (X:=(my jG P w K mg base N y (ai st) f r_ A outer s H E).nox) ⟨rfl,rfl,S.kind,S.nd,rfl,λ_ _=>rfl,PassesOwn.never,nm.glob,nm.blt,λj x e=>let⟨k',h1,h2⟩:=nm.fns j x e;⟨k',h2,b.mono h1⟩,nm.flds,λC m sp e=>let⟨k',h1,h2⟩:=nm.mts C m sp e;⟨k',h2,b.mono h1⟩,nm.isi,Nat.lt_of_le_of_lt (Nat.add_le_add_left (by decide:40<=64) _) b.units⟩ hc;refine dL (hb (az N ds) M (L2.start N vs) H _ (uO r) m (h ds M a sq)) ⟨λn H' Ml=>?_,λv H' ⟨k',d,M',l,m',q⟩=>f0 _ _ _ _ q k' l m',λ_ _ ⟨_,_,_,_,_,q⟩=>q,λ_ _ ⟨_,_,_,_,_,q⟩=>q⟩;obtain⟨k',p,M',_,m',q⟩:=Ml;exact f0 _ _ _ _ q k' (RV.non_.2 rfl) m'
end
section
variable {P:Zv}{w:World}{K:Za}{mg:Ze}{base:Heap}{k:Nat}
def aF{F:List aK}:∀(j:Nat) (x:Str),([]:List Str)[j]?=some x->∃k',k'<=k/\dC P w K mg base k' x (F.getD j λ_ _ _=>False):=λj x e=>by simp at e
def am{F:List aK}(h1:i<=k)(h:dC P w K mg base i y sp)(t:∀(j:Nat) (x:Str),N[j]?=some x->∃k',k'<=k/\dC P w K mg base k' x (F.getD j λ_ _ _=>False)):
  ∀(j:Nat) (x:Str),(y::N)[j]?=some x->∃k',k'<=k/\dC P w K mg base k' x ((sp::F).getD j λ_ _ _=>False):=λj x e=>by
 cases j with
 |zero=>
  have:y=x:=by simpa using e
  subst this;exact⟨i,h1,h⟩
 |succ j=>exact t j x (by simpa using e)
def DT(cl:fS K C)(A:MethAt K C x y st f fd)(S:bX N ps (ai st))(nm:Names P w K mg base k glob blt fns cn)
  (hb:∀(kV v_ pm:Value) (an:Zm) (r_ ct:Value) (us:Zd),us.length=ps.length->bindArgs (PySem.W.fnOf x y (bp st) (aO st) (ai st) .none kV v_ pm an r_ ct) ⟨us,[]⟩=pure (ps.zip us))
  (hc:cg ⟨N,ai st,true,glob,blt,fns⟩ ir (aO st)=true) (len:∀ds M Q,sp ds M Q->ds.length=ps.length)
  (h:∀ds M Q,sp ds M Q->wSs cn ir { nx:=λ_ M'=>Q .non M',rt:=Q } (az N ds) M):cI P w K mg base (k+1) C x sp:=
 ⟨f,fd,ps,cl,A.meth,A.fun_.binds hb,vG A.fun_ S nm hc len h⟩
def Jg(hx:mg x=some (.ref C))(hm:PySem.W.makesIn K C=true)(hk:PySem.W.keepIn K (.ref C)=true)(A:MethAt K C "__init__" y st f fd)
  (S:bX N ps (ai st)) (nm:Names P w K mg base k glob blt fns cn)
  (hb:∀(kV v_ pm:Value) (an:Zm) (r_ ct:Value) (us:Zd),us.length=ps.length->bindArgs (PySem.W.fnOf "__init__" y (bp st) (aO st) (ai st) .none kV v_ pm an r_ ct) ⟨us,[]⟩=pure (ps.zip us))
  (hc:cg ⟨N,ai st,true,glob,blt,fns⟩ ir (aO st)=true) (len:∀ds M Q,sp ds M Q->ds.length=ps.length)
  (h:∀ds M Q,sp ds M Q->wSs cn ir { nx:=λ_ M'=>Q .non M',rt:=Q } (az N ds) M):dC P w K mg base (k+2) x (bW C sp):=
 .inr ⟨k+1,rfl,C,f,fd,ps,sp,⟨hm,A.at_,A.fn,hk⟩,hx,A.fun_.binds hb,vG A.fun_ S nm hc len h,rfl⟩
end
theorem gb.fun_{K:Za}(A:gb K x st f fd):qi K x x st f fd:=by
 obtain⟨oc,od,an,J_,kV,v_,pm,r_,ct,a,rfl,l,c,k⟩:=A.ex;exact uA l c k
end DD
open PySem L2 DD
local macro_rules
  | `(#v[]) => `(.nil)
  | `(#v[$x]) => `(.cons $x .nil)
  | `(#v[$x, $xs,*]) => `(.cons $x #v[$xs,*])
local macro_rules
  | `(~~~$x) => `(some (DD.D.int ($x : Int)))
local macro_rules
  | `(↑$x) => `(some (DD.D.ref $x))
local macro_rules
  | `(⇑$x) => `(DD.D.int ($x : Int))
local macro_rules
  | `(tactic| simp! only [$ts,*]) => do let l←("wSs wS wE wEs wEo kE wT wI wP CF qx CL nM Cv jI Cq Ie Cr yE Ct yF Ih CH CK Kj yJ fG u4 II Cz Cy mF yG C9 CN yM yN zi yQ yS u8 y8 y9 Di vb n9 zc Dk ze qO Kl lc nL Cu intD bn nS setM CU yV AE EW dI xw CS CQ IP yW nV mL EZ uY qG nW AR u7 yY nY nZ EY IG Db CW CY CZ sk uR sj yT xx lh IA yU Iz xA Iq Dj zd ua pB su zk oa Ja zp zo yZ qJ a8 aB List.getElem?_cons_zero List.getElem?_cons_succ".splitOn " ").toArray.mapM λs=>`(Lean.Parser.Tactic.simpLemma|$(Lean.mkIdent s.toName):term);`(tactic|simp only[$l,*,$ts,*])
namespace SH
open PySem L2 DD
variable {M M' MX:MH}{o:MO}
abbrev fin(Q:DK):cG:={ nx:=λ_ M'=>Q .non M',rt:=Q }
def ae(M M':MH):Prop:=∀a o,M a=some o->M' a=some o
theorem ae.refl(M:MH):ae M M:=λ_ _ h=>h
theorem ae.trans(a:ae M M')(b:ae M' MX):ae M MX:=λc o h=>b c o (a c o h)
theorem ae.new{p:Addr}(h:M p=none):ae M (ab M p o):=λa u e=>by
 rw[aJ (λz=>by subst z;rw[h] at e;cases e)];exact e
theorem ae.then{p:Addr}(e:ae M M')(h:M' p=none):ae M (ab M' p o):=e.trans (ae.new h)
def ExtBut(p:Addr)(M M':MH):Prop:=∀a o,a≠p->M a=some o->M' a=some o
theorem bC{g:MH->Prop}{t:dk}{c:WT}{e:WE}{F:List D->MH->Prop}{f:D->D}{ok:DS->Prop}{M:MH}:∀{xs:List D}(e_:List D) (σ:DS),ok σ ->
  (∀x∈xs,∀σ e_ rest,ok σ->(∀a,ok a->aq g t c e F rest (e_++[f x]) a M)->aq g t c e F (x::rest) e_ σ M)->F (e_++xs.map f) M->aq g t c e F xs e_ σ M
 |[],e_,σ,_,_,q=>by
  rw[YY,ZA] at q;exact q
 |x::xs,e_,σ,h,st,q=>st x ZX σ e_ xs h λa h'=>bC (e_++[f x]) a h' (λy hy=>st y (.tail _ hy)) (by simpa using q)
theorem ci{g:MH->Prop}{t:dk}{c:WT}{e:WE}{F:List D->MH->Prop}{p:D->Bool}{ok:DS->Prop}{M:MH}:∀{xs:List D}(e_:List D) (σ:DS),ok σ ->
  (∀x∈xs,∀σ e_ rest,ok σ->(∀a,ok a->aq g t c e F rest (e_++cond (p x) [x] []) a M)->aq g t c e F (x::rest) e_ σ M)->F (e_++xs.filter p) M->aq g t c e F xs e_ σ M
 |[],e_,σ,_,_,q=>by
  rw[List.filter_nil,ZA] at q;exact q
 |x::xs,e_,σ,h,st,q=>st x ZX σ e_ xs h λa h'=>ci (e_++cond (p x) [x] []) a h' (λy hy=>st y (.tail _ hy)) (by
  rw[List.filter_cons] at q;cases e:p x with
  |true=>rw[e] at q;simpa using q
  |false=>rw[e] at q;simpa using q)
def bg{a:Type}(x:a)(xs:List a):bY (x::xs) 0=some x:=bQ (j:=0) rfl
def bH{a:Type}(x y:a)(xs:List a):bY (x::y::xs) 1=some y:=bQ (j:=1) rfl
def at2{a:Type}(x y z:a)(xs:List a):bY (x::y::z::xs) 2=some z:=bQ (j:=2) rfl
def ar(x:Str):aP (.str x)=true:=rfl
def au(x:Int):aP (.int x)=true:=rfl
def aD(x:Bool):aP (.bl x)=true:=rfl
def av(x:Str):db (.str x)=0:=rfl
def ao(x:Int):db (.int x)=0:=rfl
def aE(x:Bool):db (.bl x)=0:=rfl
def ah(x y:Int):aU (.int x) (.int y)=(x==y):=by rw[aU]
def aw(x y:Str):aU (.str x) (.str y)=(x==y):=by rw[aU]
def DU(h f:Int):Int:=h / 2 ^ f.toNat%2
def lr(h f:Int):Bool:=DU h f==1
def bu(fs:Zi):List D:=fs.map .int
def bits(h:Int)(fs:Zi):List D:=fs.map λf=>.int (DU h f)
theorem tF:∀(fs:Zi),aN (bu fs)=true
 |[]=>rfl
 |f::fs=>by
  show(aP (.int f)&&aN (bu fs))=true;rw[tF fs];rfl
theorem pJ:∀(fs:Zi),bm (bu fs)=0
 |[]=>rfl
 |f::fs=>by
  show bm (.int f::bu fs)=0;rw[bm,pJ fs];rfl
def xU{fs:Zi}{k:Nat}(h:k<fs.length):bY (bu fs) (k:Int)=some (.int (fs.getD k 0)):=by
 refine bQ ?_;unfold bu;rw[ZG,ZD h];simp[List.getD,ZD h]
def Jh{a:Type}(xs:List a)(k:Nat):cC xs none (some (k:Int))=xs.take k:=by
 unfold cC;rw[HT.rY,HT.Cb];simp
def xV(fs:Zi)(k:Nat):cC (bu fs) none (some (k:Int))=bu (fs.take k):=by rw[Jh];unfold bu;rw[List.map_take]
def pK(fs:Zi):(bu fs).length=fs.length:=by unfold bu;rw[ZF]
inductive CT where
 |hav (f:Int) | lck (f:Int) | som (n:Int) (fs:Zi) | led (fs:Zi) (k:Nat)
def CT.ok:CT->Prop
 |.hav f=>0<=f/\f<120
 |.lck f=>0<=f/\f<120
 |.som _ fs=>(0<fs.length/\fs.length<=6)/\∀f∈fs,0<=f/\f<120
 |.led fs k=>(k<fs.length/\fs.length<=6)/\∀f∈fs,0<=f/\f<120
def CT.told:CT->D
 |.hav f=>.tup [.str "have",.int f]
 |.lck f=>.tup [.str "lack",.int f]
 |.som n fs=>.tup [.str "some",.int n,.tup (bu fs)]
 |.led fs k=>.tup [.str "lead",.tup (bu fs),.int k]
def CT.flds:CT->List (Str×D)
 |.hav f=>[("fact",.int f)]
 |.lck f=>[("fact",.int f)]
 |.som n fs=>[("number",.int n),("facts",.tup (bu fs))]
 |.led fs k=>[("facts",.tup (bu fs)),("at",.int k)]
def CT.kind:CT->Nat
 |.hav _=>0
 |.lck _=>1
 |.som _ _=>2
 |.led _ _=>3
def bF(b:Bool)(f:Int):D:=.tup [.int f,.bl b]
def CT.leans:CT->List D
 |.hav f=>[bF false f]
 |.lck f=>[bF true f]
 |.som _ fs=>fs.map (bF false)
 |.led fs k=>(fs.take k).map (bF true)++[bF false (fs.getD k 0)]
structure CA where
 h:Addr
 l:Addr
 s:Addr
 d:Addr
def CA.at(c:CA):Nat->Addr
 |0=>c.h
 |1=>c.l
 |2=>c.s
 |_=>c.d
def CT.obj(c:CA)(t:CT):MO:=.ins (c.at t.kind) t.flds
theorem CT.kind_lt(t:CT):t.kind<4:=by
 cases t with
 |hav _=>exact(by decide:(0:Nat)<4)
 |lck _=>exact(by decide:(1:Nat)<4)
 |som _ _=>exact(by decide:(2:Nat)<4)
 |led _ _=>exact(by decide:(3:Nat)<4)
def jL:aK:=λds M Q=>∃h f:Int,ds=[.int h,.int f]/\0<=f/\Q (.bl (lr h f)) M
def bV(c:CA)(k:Nat):aK:=λds M Q=>∃(a:Addr) (t:CT),t.kind=k/\t.ok/\ds=[.ref a]/\M a=some (t.obj c)/\∀p M',M p=none->ae M M'->M' p=some (.lst t.leans)->Q (.ref p) M'
def b0(c:CA)(k:Nat):aK:=λds M Q=>∃(a:Addr) (t:CT),t.kind=k/\ds=.ref a::t.flds.map (·.2)/\M a=some (.ins (c.at k) [])/\∀M',(∀b,b≠a->M' b=M b)->M' a=some (t.obj c)->Q .non M'
def kindAt(c:CA)(a:Addr):Option Nat:=if a=c.h then some 0 else if a=c.l then some 1 else if a=c.s then some 2 else if a=c.d then some 3 else none
def CA.apart(c:CA):Prop:=∀k,k<4->kindAt c (c.at k)=some k
def fN:List Str:=["fact","number","facts","at"]
def gL(c:CA):qN:=λa f=>∃k,k<4/\a=c.at k/\f∈fN
def c4(c:CA){k:Nat}{f:Str}(hk:k<4)(h:f∈fN):gL c (c.at k) f:=⟨k,hk,rfl,h⟩
def ka:Ss:=#v[.ret (.cmp .Eq (.bin .BitAnd (.bin .RShift (.var 0) (.var 1)) (.int 1)) (.int 1))]
section
variable {cn:Cn}
def wG{ds:List D}{Q:DK}(h:jL ds M Q):wSs cn ka (fin Q) (az ["",""] ds) M:=by
 obtain⟨x,f,rfl,a,q⟩:=h;show wSs cn ka (fin Q) [some (.int x),some (.int f)] M;unfold ka;simp! only[];refine⟨a,⟨rfl,rfl,(by decide:(0:Nat)<=30)⟩,?_⟩;rw[PyProof.Rows.bitAnd_m1];exact q
end
end SH
local macro_rules
  | `(tactic| simp_all! only [$ts,*]) => do let l←("SH.ar SH.au SH.aD SH.av SH.ao SH.aE SH.ah SH.aw YL and_self true_and and_true".splitOn " ").toArray.mapM λs=>`(Lean.Parser.Tactic.simpLemma|$(Lean.mkIdent s.toName):term);`(tactic|simp! only[$l,*,$ts,*])
namespace SH
open PySem L2 DD
variable {M' M MX:MH}{a b r:Addr}{f h n:Nat}{o:MO}{ps:Zh}{m:Int}{K_:List D}{b_:Zx}{t:CT}{L:Nat->MO}
def xX(x:D):List.lookup ("fact" : Str) [("fact",x)]=some x:=rfl
def DV(x y:D):List.lookup ("facts" : Str) [("number",x),("facts",y)]=some y:=rfl
def tG(x y:D):List.lookup ("facts" : Str) [("facts",x),("at",y)]=some x:=rfl
def Fa(x y:D):List.lookup ("at" : Str) [("facts",x),("at",y)]=some y:=rfl
def oj:("fact" : Str)∈fN:=by rfl'
def Bn:("number" : Str)∈fN:=by rfl'
def jl:("facts" : Str)∈fN:=by rfl'
def zE:("at" : Str)∈fN:=by rfl'
def c5:Ss:=#v[.setF (.var 0) "fact" (.var 1)]
def gh:Ss:=#v[.ret (.lst #v[.tup #v[.fld (.var 0) "fact",.bl false]])]
def gk:Ss:=#v[.ret (.lst #v[.tup #v[.fld (.var 0) "fact",.bl true]])]
def kG:Ss:=#v[.setF (.var 0) "facts" (.var 2)]
def jm:Ss:=.cons (.setF (.var 0) "number" (.var 1)) kG
def gm:Ss:=#v[.ret (.comp 1 (.tup #v[.var 1,.bl false]) (.nm 1) (.seq (.fld (.var 0) "facts")) .no)]
def kH:Ss:=#v[.setF (.var 0) "at" (.var 2)]
def jn:Ss:=.cons (.setF (.var 0) "facts" (.var 1)) kH
def gn:Ss:=#v[.ret (.bin .Add (.comp 1 (.tup #v[.var 1,.bl true]) (.nm 1) (.seq (.sl (.fld (.var 0) "facts") .no (.yes (.fld (.var 0) "at")))) .no) (.lst #v[.tup #v[.ix (.fld (.var 0) "facts") (.fld (.var 0) "at"),.bl false]]))]
section
variable {cn:Cn}{c:CA}{ds:List D}{M:MH}{Q:DK}
def vH(g:cn.O=gL c)(h:b0 c 0 ds M Q):wSs cn c5 (fin Q) (az ["",""] ds) M:=by
 obtain⟨a,t,hk,rfl,j,q⟩:=h;cases t with
 |hav f=>
  show wSs cn c5 (fin Q) [↑a,some (.int f)] M;unfold c5;simp! only[j,g];exact⟨⟨c4 c 'c' oj,by decide⟩,q _ (λb hb=>aJ hb) aa⟩
 |lck f=>cases hk
 |som n fs=>cases hk
 |led fs k=>cases hk
def vI(g:cn.O=gL c)(h:b0 c 1 ds M Q):wSs cn c5 (fin Q) (az ["",""] ds) M:=by
 obtain⟨a,t,hk,rfl,j,q⟩:=h;cases t with
 |lck f=>
  show wSs cn c5 (fin Q) [↑a,some (.int f)] M;unfold c5;simp! only[j,g];exact⟨⟨c4 c 'c' oj,by decide⟩,q _ (λb hb=>aJ hb) aa⟩
 |hav f=>cases hk
 |som n fs=>cases hk
 |led fs k=>cases hk
def vJ(g:cn.O=gL c)(h:b0 c 2 ds M Q):wSs cn jm (fin Q) (az ["","",""] ds) M:=by
 obtain⟨a,t,hk,rfl,j,q⟩:=h;cases t with
 |som n fs=>
  show wSs cn jm (fin Q) [↑a,some (.int n),some (.tup (bu fs))] M;unfold jm;simp! only[j,g];refine⟨⟨c4 c 'c' Bn,by decide⟩,?_⟩;unfold kG;simp! only[aa,g];exact⟨⟨c4 c 'c' jl,(show(1:Nat)<1000 by decide)⟩,q _ (λb hb=>by rw[aJ hb,aJ hb]) aa⟩
 |hav f=>cases hk
 |lck f=>cases hk
 |led fs k=>cases hk
def vK(g:cn.O=gL c)(h:b0 c 3 ds M Q):wSs cn jn (fin Q) (az ["","",""] ds) M:=by
 obtain⟨a,t,hk,rfl,j,q⟩:=h;cases t with
 |led fs k=>
  show wSs cn jn (fin Q) [↑a,some (.tup (bu fs)),some (.int k)] M;unfold jn;simp! only[j,g];refine⟨⟨c4 c 'c' jl,by decide⟩,?_⟩;unfold kH;simp! only[aa,g];exact⟨⟨c4 c 'c' zE,(show(1:Nat)<1000 by decide)⟩,q _ (λb hb=>by rw[aJ hb,aJ hb]) aa⟩
 |hav f=>cases hk
 |lck f=>cases hk
 |som n fs=>cases hk
def rf(j:cn.O=gL c)(h:bV c 0 ds M Q):wSs cn gh (fin Q) (az [""] ds) M:=by
 obtain⟨a,t,hk,ho,rfl,g,q⟩:=h;cases t with
 |hav f=>
  have g:M a=some (.ins (c.at 0) [("fact",.int f)]):=g;show wSs cn gh (fin Q) [↑a] M;unfold gh;simp! only[g,j,xX];exact⟨c4 c 'c' oj,λp hp=>q p _ hp (ae.new hp) aa⟩
 |lck f=>cases hk
 |som n fs=>cases hk
 |led fs k=>cases hk
def rg(j:cn.O=gL c)(h:bV c 1 ds M Q):wSs cn gk (fin Q) (az [""] ds) M:=by
 obtain⟨a,t,hk,ho,rfl,g,q⟩:=h;cases t with
 |lck f=>
  have g:M a=some (.ins (c.at 1) [("fact",.int f)]):=g;show wSs cn gk (fin Q) [↑a] M;unfold gk;simp! only[g,j,xX];exact⟨c4 c 'c' oj,λp hp=>q p _ hp (ae.new hp) aa⟩
 |hav f=>cases hk
 |som n fs=>cases hk
 |led fs k=>cases hk
def rh(b:Bool):D->D
 |.int f=>bF b f
 |d=>d
def pL(b:Bool)(fs:Zi):(bu fs).map (rh b)=fs.map (bF b):=by
 unfold bu;rw[ZM];rfl
def rj(j:cn.O=gL c)(h:bV c 2 ds M Q):wSs cn gm (fin Q) (az [""] ds) M:=by
 obtain⟨a,t,hk,ho,rfl,g,q⟩:=h;cases t with
 |som n fs=>
  have g:M a=some (.ins (c.at 2) [("number",.int n),("facts",.tup (bu fs))]):=g;show wSs cn gm (fin Q) [↑a] M;unfold gm;simp! only[g,j,DV];refine⟨c4 c 'c' jl,?_⟩;refine bC (f:=rh false) (ok:=λσ=>∃v,σ=[↑a,v]) [] _ ⟨none,rfl⟩ ?_ ?_
  .intro d hd σ e_ rest ⟨v,hv⟩ k
   subst hv;obtain⟨f,l,rfl⟩:=XX.1 hd;exact⟨trivial,k _ ⟨_,rfl⟩⟩
  .intro p hp
   rw[List.nil_append,pL];exact q p _ hp (ae.new hp) aa
 |hav f=>cases hk
 |lck f=>cases hk
 |led fs k=>cases hk
theorem rk(B:cn.O=gL c)(h:bV c 3 ds M Q):wSs cn gn (fin Q) (az [""] ds) M:=by
 obtain⟨a,t,hk,ho,rfl,g,q⟩:=h;cases t with
 |led fs k=>
  have g:M a=some (.ins (c.at 3) [("facts",.tup (bu fs)),("at",.int k)]):=g;show wSs cn gn (fin Q) [↑a] M;unfold gn;simp! only[g,B,tG,Fa,xV];refine⟨c4 c 'c' jl,c4 c 'c' zE,?_⟩;refine bC (f:=rh true) (ok:=λσ=>∃v,σ=[↑a,v]) [] _ ⟨none,rfl⟩ ?_ ?_
  .intro d hd σ e_ rest ⟨v,hv⟩ k
   subst hv;obtain⟨f,I,rfl⟩:=XX.1 hd;exact⟨trivial,k _ ⟨_,rfl⟩⟩
  .intro p hp
   rw[List.nil_append,pL];have j:=ae.new (o:=MO.lst ((fs.take k).map (bF true))) hp;have h1:=j a _ g;have C:ab M p (MO.lst ((fs.take k).map (bF true))) p=some (.lst ((fs.take k).map (bF true))):=aa;generalize ab M p (MO.lst ((fs.take k).map (bF true)))=M1 at *;simp only[h1,tG,Fa,xU ho.1.1];refine⟨c4 c 'c' jl,c4 c 'c' zE,λp2 E=>?_⟩;have l:=ae.new (o:=MO.lst [D.tup [D.int (fs.getD k 0),D.bl false]]) E;have F:=l p _ C;have G:ab M1 p2 (MO.lst [D.tup [D.int (fs.getD k 0),D.bl false]]) p2=some (.lst [D.tup [D.int (fs.getD k 0),D.bl false]]):=aa;generalize ab M1 p2 (MO.lst [D.tup [D.int (fs.getD k 0),D.bl false]])=M2 at *;simp only[F,G];refine⟨?_,λp3 A=>q p3 _ ?_ ((j.trans l).then A) aa⟩
   .have:((fs.take k).map (bF true)).length<=6:=by rw[ZF];exact ZW (List.length_take_le' _ _) ho.1.2
    have J:(7:Nat)<=sizeLine:=by decide
    simp only[YI,YT];omega
   .cases e:M p3 with
    |none=>rfl
    |some o=>have:=(j.trans l) p3 o e;rw[A] at this;cases this
 |hav f=>cases hk
 |lck f=>cases hk
 |som n fs=>cases hk
end
theorem ae.free(e:ae M M')(h:M' a=none):M a=none:=by
 cases q:M a with
 |none=>rfl
 |some o=>have:=e a o q;rw[h] at this;cases this
theorem ae.put(e:ae M M')(h:M a=none):ae M (ab M' a o):=λp u q=>by
 have:p≠a:=λz=>by subst z;rw[h] at q;cases q
 rw[aJ this];exact e p u q
def rl(hx:M a=none)(h:∀b,b≠a->M' b=ab M a o b):ae M M':=λb u e=>by
 have:b≠a:=λz=>by subst z;rw[hx] at e;cases e
 rw[h b this,aJ this];exact e
def rn(h:M a=some o)(hp:M b=none):a≠b:=λz=>by subst z;rw[hp] at h;cases h
theorem ExtBut.refl(p:Addr)(M:MH):ExtBut p M M:=λ_ _ _ h=>h
theorem ExtBut.trans{p:Addr}(a:ExtBut p M M')(b:ExtBut p M' MX):ExtBut p M MX:=λc o n h=>b c o n (a c o n h)
theorem ae.but(p:ae M M'):ExtBut a M M':=λc o _ h=>p c o h
theorem ExtBut.upd(p:Addr)(M:MH)(o:MO):ExtBut p M (ab M p o):=λc u n h=>by rw[aJ n];exact h
theorem ExtBut.ext(a:ae M M')(M2:ExtBut b M' MX)(h:M b=none):ae M MX:=λc o q=>M2 c o (rn q h) (a c o q)
theorem pM{g:MH->Prop}{t:dk}{k:WS}{E:cG}{P:DS->MH->Prop}:∀{xs:List D}(σ:DS) (M:MH),P σ M ->
  (∀x∈xs,∀σ M (N:DS->MH->Prop),P σ M->(∀c M',P c M'->N c M')->nS t x σ λc=>k { E with nx:=λj M2=>g M2/\N j M2,ct:=λj M2=>g M2/\N j M2,bk:=E.nx } c M) ->
  (∀σ M,P σ M->E.nx σ M)->aC g t k E xs σ M
 |[],σ,M,h,_,q=>q σ M h
 |x::xs,σ,M,h,st,q=>st x ZX σ M (λj M2=>aC g t k E xs j M2) h λc M' h'=>pM c M' h' (λy hy=>st y (.tail _ hy)) q
def Fb:(("have" : Str) == "have")=true:=XD _
def DW:(("some" : Str) == "some")=true:=XD _
def zF:(("lack" : Str) == "lack")=true:=XD _
def Lv:(("lead" : Str) == "lead")=true:=XD _
def zG:(("lack" : Str) == "have")=false:=by rfl'
def zH:(("some" : Str) == "have")=false:=by rfl'
def zI:(("some" : Str) == "lack")=false:=by rfl'
def zJ:(("lead" : Str) == "have")=false:=by rfl'
def zK:(("lead" : Str) == "lack")=false:=by rfl'
def DX:(("lead" : Str) == "some")=false:=by rfl'
def rp(c:CA):aK:=λds M Q=>∃t:CT,ds=[t.told]/\∀p M',M p=none->ae M M'->M' p=some (t.obj c)->Q (.ref p) M'
def lO:Ss:=#v[.ret (.fn 0 #v[.ix (.var 0) (.int 1),.ix (.var 0) (.int 2)])]
def iF:Ss:=.cons (.ite (.cmp .Eq (.ix (.var 0) (.int 0)) (.str "some")) #v[.ret (.fn 1 #v[.ix (.var 0) (.int 1),.ix (.var 0) (.int 2)])] .nil) lO
def fJ:Ss:=.cons (.ite (.cmp .Eq (.ix (.var 0) (.int 0)) (.str "lack")) #v[.ret (.fn 2 #v[.ix (.var 0) (.int 1)])] .nil) iF
def dm:Ss:=.cons (.ite (.cmp .Eq (.ix (.var 0) (.int 0)) (.str "have")) #v[.ret (.fn 3 #v[.ix (.var 0) (.int 1)])] .nil) fJ
section
variable {cn:Cn}{c:CA}{ds:List D}{M:MH}{Q:DK}
theorem GK(g:cn.F=[bW (c.at 3) (b0 c 3),bW (c.at 2) (b0 c 2),bW (c.at 1) (b0 c 1),bW (c.at 0) (b0 c 0)])(h:rp c ds M Q):wSs cn dm (fin Q) (az [""] ds) M:=by
 obtain⟨t,rfl,q⟩:=h;show wSs cn dm (fin Q) [some t.told] M;cases t with
 |hav f=>
  unfold dm;simp_all! only[CT.told,bg,bH,at2,g,List.getD_cons_zero,List.getD_cons_succ,Fb];exact λx hx=>⟨x,.hav f,rfl,rfl,aa,λM' h1 j=>⟨rfl,q x M' hx (rl hx h1) j⟩⟩
 |lck f=>
  unfold dm;simp_all! only[CT.told,bg,bH,at2,g,List.getD_cons_zero,List.getD_cons_succ,zG];unfold fJ;simp_all! only[CT.told,bg,bH,at2,g,List.getD_cons_zero,List.getD_cons_succ,zF];exact λx hx=>⟨x,.lck f,rfl,rfl,aa,λM' h1 j=>⟨rfl,q x M' hx (rl hx h1) j⟩⟩
 |som n fs=>
  unfold dm;simp_all! only[CT.told,bg,bH,at2,g,List.getD_cons_zero,List.getD_cons_succ,zH];unfold fJ;simp_all! only[CT.told,bg,bH,at2,g,List.getD_cons_zero,List.getD_cons_succ,zI];unfold iF;simp_all! only[CT.told,bg,bH,at2,g,List.getD_cons_zero,List.getD_cons_succ,DW];exact λx hx=>⟨x,.som n fs,rfl,rfl,aa,λM' h1 j=>⟨rfl,q x M' hx (rl hx h1) j⟩⟩
 |led fs k=>
  unfold dm;simp_all! only[CT.told,bg,bH,at2,g,List.getD_cons_zero,List.getD_cons_succ,zJ];unfold fJ;simp_all! only[CT.told,bg,bH,at2,g,List.getD_cons_zero,List.getD_cons_succ,zK];unfold iF;simp_all! only[CT.told,bg,bH,at2,g,List.getD_cons_zero,List.getD_cons_succ,DX];unfold lO;simp_all! only[CT.told,bg,bH,at2,g,List.getD_cons_zero,List.getD_cons_succ];exact λx hx=>⟨x,.led fs k,rfl,rfl,aa,λM' h1 j=>⟨rfl,q x M' hx (rl hx h1) j⟩⟩
end
theorem lu(n k:Nat):lr (n:Int) (k:Int)=n.testBit k:=by
 unfold lr DU;rw[Nat.testBit_eq_decide_div_mod_eq,YV];have e:(n:Int) / 2 ^ k%2=((n / 2 ^ k%2:Nat):Int):=by simp
 rw[e];by_cases h:n / 2 ^ k%2=1
 .simp[h]
 .have c:n / 2 ^ k%2=0:=by omega
  simp[c]
def cu(a b:Nat):Nat:=a ^^^ (a&&&b)
def iV(a b k:Nat):(cu a b).testBit k=(a.testBit k && !b.testBit k):=by
 unfold cu;rw[Nat.testBit_xor,Nat.testBit_and];cases a.testBit k<;>cases b.testBit k<;>rfl
theorem zL(a b:Nat):cu a b+(a&&&b)=a:=by
 have h:=PyProof.Rows.nat_or_add_and (cu a b) (a&&&b);have h1:cu a b|||(a&&&b)=a:=by
  refine Nat.eq_of_testBit_eq λk=>?_
  rw[Nat.testBit_or,iV,Nat.testBit_and];cases a.testBit k<;>cases b.testBit k<;>rfl
 have c:cu a b&&&(a&&&b)=0:=by
  refine Nat.eq_of_testBit_eq λk=>?_
  rw[Nat.testBit_and,iV,Nat.testBit_and,Nat.zero_testBit];cases a.testBit k<;>cases b.testBit k<;>rfl
 omega
theorem kI(a b:Nat):Builtin.bitOr (a:Int) (b:Int)=((a|||b:Nat):Int):=by
 rw[PyProof.Rows.bitOr_and,PyProof.Rows.bitAnd_pp 'a' 'a',YV,YV]
 have:=PyProof.Rows.nat_or_add_and a b
 omega
theorem GL(a b:Nat):Builtin.bitAnd (a:Int) (b:Int)=((a&&&b:Nat):Int):=by
 rw[PyProof.Rows.bitAnd_pp 'a' 'a',YV,YV]
theorem zM(a b:Nat):Builtin.bitAnd (a:Int) (-(b:Int)-1)=((cu a b:Nat):Int):=by
 rw[←bitNot_eq,PyProof.Rows.bitAnd_not,GL]
 have:=zL a b
 omega
def nats(fs:Zj):List D:=fs.map λ(f:Nat)=>D.int (f:Int)
def cw(fs:Zj):Nat:=fs.foldl (λa f=>a|||2 ^ f) 0
def cM(fs:Zj)(k:Nat):(cw fs).testBit k=decide (k∈fs):=by
 have c:∀(fs:Zj) (a:Nat),(fs.foldl (λa f=>a|||2 ^ f) a).testBit k=(a.testBit k||decide (k∈fs)):=by
  intro fs;induction fs with
  |nil=>intro a;simp
  |cons f fs g=>
   intro a;rw[List.foldl_cons,g,Nat.testBit_or,Nat.testBit_two_pow];by_cases e:f=k
   .subst e;simp
   .have:k≠f:=λz=>e z.symm
    simp[e,this]
 unfold cw;rw[c];simp
def mX(n:Nat):List Nat:=(List.range (eh (n:Int))).filter λf=>n.testBit f
theorem vL(n f:Nat):f∈mX n↔n.testBit f=true:=by
 unfold mX;rw[ZU,ZV];refine⟨λh=>h.2,λh=>⟨?_,h⟩⟩;unfold eh Builtin.Int.intBits;have hn:n≠0:=λz=>by subst z;simp at h
 have hb:((n:Int)==0)=false:=by rw[ZQ];omega
 rw[hb];simp only[XF,if_false,Int.natAbs_natCast];have h1:=Nat.ge_two_pow_of_testBit h;have c:=(Nat.le_log2 hn).2 h1;omega
theorem DY(h:n<2 ^ f):eh (n:Int)<=f:=by
 unfold eh Builtin.Int.intBits;by_cases hn:n=0
 .subst hn;simp
 .have hb:((n:Int)==0)=false:=by rw[ZQ];omega
  rw[hb];simp only[XF,if_false,Int.natAbs_natCast]
  have:=(Nat.log2_lt hn).2 h
  omega
def Meets(d:D)(M:MH)(fs:Zj)(M':MH):Prop:=(d=.tup (nats fs)/\M'=M) \/ ∃a,d=.ref a/\((M a=some (.lst (nats fs))/\M'=M) \/ ∃kvs,keysOf kvs=nats fs/\((M a=some (.dic kvs)/\M'=ab M a (.rod kvs))\/(M a=some (.rod kvs)/\M'=M)))
def i5:aK:=λds M Q=>∃i:Int,ds=[.int i]/\Q (.bl true) M
def dq:aK:=λds M Q=>∃i m:Int,ds=[.int i,.int m]/\Q (.bl (decide (0<=i)&&decide (i<m))) M
def fY:aK:=λds M Q=>∃(d:D) (fs:Zj) (M':MH),ds=[d]/\Meets d M fs M'/\(∀f∈fs,f<=1000)/\Q (.int (cw fs:Nat)) M'
def jM:aK:=λds M Q=>∃n:Nat,ds=[⇑n]/\n<2 ^ 1000/\∀p M',M p=none->ae M M'->M' p=some (.lst (nats (mX n)))->Q (.ref p) M'
def kb:Ss:=#v[.ret (.and (.bi .isinst #v[.var 0,.ty "int"]) (.not (.bi .isinst #v[.var 0,.ty "bool"])))]
def kc:Ss:=#v[.ret (.and (.fn 0 #v[.var 0]) (.and (.cmp .GtE (.var 0) (.int 0)) (.cmp .Lt (.var 0) (.var 1))))]
def hU:Ss:=#v[.ret (.var 1)]
def fF:Ss:=#v[.set 1 (.bin .BitOr (.var 1) (.bin .LShift (.int 1) (.var 2)))]
def o0:Ss:=.cons (.for (.nm 2) (.seq (.var 0)) fF) hU
def mY:Ss:=.cons (.set 1 (.int 0)) o0
def lw:Ss:=#v[.ret (.comp 1 (.var 1) (.nm 1) (.rg1 #v[.mt0 .bits (.var 0)]) (.yes (.val (.fn 0 #v[.var 0,.var 1]))))]
section
variable {cn:Cn}{ds:List D}{M:MH}{Q:DK}
def wH(h:i5 ds M Q):wSs cn kb (fin Q) (az [""] ds) M:=by
 obtain⟨i,rfl,q⟩:=h;show wSs cn kb (fin Q) [some (.int i)] M;unfold kb;simp! only[fE];refine⟨by decide,?_⟩;show eI true _ _;refine⟨by decide,?_⟩;exact q
def wJ(f0:cn.F.getD 0 'f'=i5)(h:dq ds M Q):wSs cn kc (fin Q) (az ["",""] ds) M:=by
 obtain⟨i,m,rfl,q⟩:=h;show wSs cn kc (fin Q) [some (.int i),some (.int m)] M;unfold kc;simp! only[f0];refine⟨i,rfl,?_⟩;show eI (decide (0<=i)) _ _;cases b:decide (0<=i) with
 |true=>rw[b,Bool.true_and] at q;exact q
 |false=>rw[b,Bool.false_and] at q;exact q
theorem zN(f0:cn.F.getD 0 'f'=jL)(h:jM ds M Q):wSs cn lw (fin Q) (az [""] ds) M:=by
 obtain⟨n,rfl,hn,q⟩:=h;show wSs cn lw (fin Q) [~~~n] M;unfold lw;simp! only[f0,t9,List.cons_append,List.nil_append,List.replicate];have hb:=DY hn;refine⟨trivial,⟨by omega,by omega⟩,?_⟩;refine ci (p:=λd=>match d with | .int f=>lr (n:Int) f | _=>false) (ok:=λσ=>∃v,σ=[~~~n,v]) [] _ ⟨none,rfl⟩ ?_ ?_
 .intro d hd σ e_ rest ⟨v,hv⟩ k
  subst hv;unfold bv at hd;obtain⟨i,hi,rfl⟩:=XX.1 hd;refine⟨n,0+(i:Int),rfl,by omega,?_⟩;have k1:=k _ ⟨some (.int (0+(i:Int))),rfl⟩;show eI (lr (n:Int) (0+(i:Int))) _ _;dsimp only at k1;cases hb:lr (n:Int) (0+(i:Int)) with
  |true=>rw[hb] at k1;exact⟨trivial,k1⟩
  |false=>rw[hb] at k1;exact⟨trivial,by simpa using k1⟩
 .intro p hp
  have e:([]++(bv 0 (eh (n:Int))).filter (λ(d:D)=>match d with | .int f=>lr (n:Int) f | _=>false))=nats (mX n):=by
   unfold bv nats mX;rw[List.nil_append,List.filter_map];have h1:((eh (n:Int):Int)-0).toNat=eh (n:Int):=by omega
   rw[h1];have c:(List.range (eh (n:Int))).filter ((λ(d:D)=>match d with | .int f=>lr (n:Int) f | _=>false)∘λ(i:Nat)=>D.int (0+(i:Int)))=(List.range (eh (n:Int))).filter λf=>n.testBit f:=by
    refine List.filter_congr λi _=>?_
    show lr (n:Int) (0+(i:Int))=_;rw[Int.zero_add,lu]
   rw[c];refine ZN λi _=>?_
   rw[Int.zero_add]
  rw[e];exact q p _ hp (ae.new hp) aa
theorem Bo(h:fY ds M Q):wSs cn mY (fin Q) (az ["","",""] ds) M:=by
 obtain⟨d,fs,M',rfl,hm,hb,q⟩:=h;show wSs cn mY (fin Q) [some d,none,none] M;unfold mY;simp! only[List.set];unfold o0;simp! only[List.set];have go:∀(g:MH->Prop),g M'->aC g (.nm 2) (wSs cn fF) { nx:=wSs cn hU (fin Q),rt:=Q } (nats fs) [some d,some (.int 0),none] M':=by
  intro g j;have c:∀(fs:Zj) (a:Nat) (v:Zy),(∀f∈fs,f<=1000)->Q (.int (fs.foldl (λa f=>a|||2 ^ f) a:Nat)) M'->aC g (.nm 2) (wSs cn fF) { nx:=wSs cn hU (fin Q),rt:=Q } (nats fs) [some d,~~~a,v] M':=by
   intro fs;induction fs with
   |nil=>
    intro a v _ q;rw[show nats []=[] from rfl,aC];unfold hU;simp! only[];exact q
   |cons f fs k=>
    intro a v hb q;show aC g (.nm 2) (wSs cn fF) _ (⇑f::nats fs) _ M';rw[aC];unfold fF;simp! only[List.set];have l:=hb f (.head _);refine⟨⟨by omega (splitDisjunctions:=true),by omega (splitDisjunctions:=true),by decide⟩,j,?_⟩;have e:Builtin.bitOr (a:Int) (1*2 ^ (f:Int).toNat)=((a|||2 ^ f:Nat):Int):=by
     rw[←kI];simp
    rw[e];exact k (a|||2 ^ f) _ (λx hx=>hb x (.tail _ hx)) q
  exact c fs 0 none hb q
 rcases hm with⟨rfl,rfl⟩ | ⟨a,rfl,hm⟩
 .exact go _ trivial
 .rcases hm with⟨h1,rfl⟩ | ⟨kvs,hk,⟨h1,rfl⟩ | ⟨h1,rfl⟩⟩
  .simp only[h1]
   exact go _ h1
  .simp only[h1,hk]
   exact go _ aa
  .simp only[h1,hk]
   exact go _ h1
end
def CT.fit(m:Int):CT->Prop
 |.hav f=>0<=f/\f<m
 |.lck f=>0<=f/\f<m
 |.som n fs=>(1<=n/\n<=6)/\(0<fs.length/\fs.length<=6)/\fs.Nodup/\∀f∈fs,0<=f/\f<m
 |.led fs k=>(k<fs.length/\fs.length<=6)/\fs.Nodup/\∀f∈fs,0<=f/\f<m
theorem CT.fit_ok(hm:m<=120):∀{t:CT},t.fit m->t.ok
 |.hav f,h=>⟨h.1,Int.lt_of_lt_of_le h.2 hm⟩
 |.lck f,h=>⟨h.1,Int.lt_of_lt_of_le h.2 hm⟩
 |.som n fs,h=>⟨h.2.1,λf c=>⟨(h.2.2.2 f c).1,Int.lt_of_lt_of_le (h.2.2.2 f c).2 hm⟩⟩
 |.led fs k,h=>⟨h.1,λf c=>⟨(h.2.2 f c).1,Int.lt_of_lt_of_le (h.2.2 f c).2 hm⟩⟩
def lx:aK:=λds M Q=>∃n:Int,ds=[.int n]/\(1<=n/\n<=6)/\Q (.bl true) M
def jN:aK:=λds M Q=>∃(fs:Zi) (m:Int),ds=[.tup (bu fs),.int m]/\(0<fs.length/\fs.length<=6)/\fs.Nodup/\(∀f∈fs,0<=f/\f<m)/\∀M',ae M M'->Q (.bl true) M'
def ly:aK:=λds M Q=>∃(t:CT) (m:Int),ds=[t.told,.int m]/\t.fit m/\∀M',ae M M'->Q (.bl true) M'
def om:aK:=λds M Q=>∃(h m:Int) (p:Addr) (ts:List CT),ds=[.tup [.int h,.ref p],.int m]/\M p=some (.lst (ts.map CT.told))/\(0<=h/\h<m)/\ts.length<=6/\(∀t∈ts,t.fit m)/\∀M',ae M M'->Q (.bl true) M'
def jo(j:Nat):Ss:=#v[.ret (.and (.fn 0 #v[.var 0]) (.and (.cmp .GtE (.var 0) (.int 1)) (.cmp .LtE (.var 0) (.glob j))))]
def jO:Ss:=#v[.ret (.and (.bi .all #v[.comp 1 (.fn 0 #v[.var 2,.var 1]) (.nm 2) (.seq (.var 0)) .no]) (.cmp .Eq (.lenSet (.var 0)) (.bi .len #v[.var 0])))]
def iG(j:Nat):Ss:=.cons (.ite (.or (.not (.val (.bi .isinst #v[.var 0,.ty "tuple"]))) (.or (.cmp .Lt (.bi .len #v[.var 0]) (.int 1)) (.cmp .Gt (.bi .len #v[.var 0]) (.glob j)))) #v[.ret (.bl false)] .nil) jO
def mZ:Ss:=#v[.ret (.and (.cmp .Eq (.ix (.var 0) (.int 0)) (.str "lead")) (.and (.fn 0 #v[.ix (.var 0) (.int 1),.var 1]) (.fn 1 #v[.ix (.var 0) (.int 2),.bi .len #v[.ix (.var 0) (.int 1)]])))]
def jp:Ss:=.cons (.ite (.cmp .Eq (.ix (.var 0) (.int 0)) (.str "some")) #v[.ret (.and (.fn 2 #v[.ix (.var 0) (.int 1)]) (.fn 0 #v[.ix (.var 0) (.int 2),.var 1]))] .nil) mZ
def jq:Ss:=.cons (.ite (.cmp .NotEq (.bi .len #v[.var 0]) (.int 3)) #v[.ret (.bl false)] .nil) jp
def dR:Ss:=.cons (.ite (.or (.cmp .Eq (.ix (.var 0) (.int 0)) (.str "have")) (.cmp .Eq (.ix (.var 0) (.int 0)) (.str "lack"))) #v[.ret (.and (.cmp .Eq (.bi .len #v[.var 0]) (.int 2)) (.fn 1 #v[.ix (.var 0) (.int 1),.var 1]))] .nil) jq
def ei:Ss:=.cons (.ite (.or (.not (.val (.bi .isinst #v[.var 0,.ty "tuple"]))) (.cmp .Lt (.bi .len #v[.var 0]) (.int 2))) #v[.ret (.bl false)] .nil) dR
def o4:Ss:=#v[.ret (.bi .all #v[.comp 1 (.fn 0 #v[.var 3,.var 1]) (.nm 3) (.seq (.var 2)) .no])]
def o5(j:Nat):Ss:=.cons (.ite (.or (.not (.val (.bi .isinst #v[.var 2,.ty "list"]))) (.cmp .Gt (.bi .len #v[.var 2]) (.glob j))) #v[.ret (.bl false)] .nil) o4
def ke(j:Nat):Ss:=.cons (.set 2 (.ix (.var 0) (.int 1))) (o5 j)
def m6(j:Nat):Ss:=.cons (.ite (.or (.not (.val (.bi .isinst #v[.var 0,.ty "tuple"]))) (.or (.cmp .NotEq (.bi .len #v[.var 0]) (.int 2)) (.not (.val (.fn 1 #v[.ix (.var 0) (.int 0),.var 1]))))) #v[.ret (.bl false)] .nil) (ke j)
theorem vM{g:MH->Prop}{t:dk}{c:WT}{e:WE}{F:List D->MH->Prop}{f:D->D}{ok:DS->Prop}{M0:MH}:∀{xs:List D}(e_:List D) (σ:DS) (M:MH),ok σ->ae M0 M ->
  (∀x∈xs,∀σ e_ rest M,ok σ->ae M0 M->(∀j M',ok j->ae M0 M'->aq g t c e F rest (e_++[f x]) j M')->aq g t c e F (x::rest) e_ σ M)->(∀M',ae M0 M'->F (e_++xs.map f) M')->aq g t c e F xs e_ σ M
 |[],e_,σ,M,_,k,_,q=>by
  rw[YY,ZA] at q;exact q M k
 |x::xs,e_,σ,M,h,k,st,q=>st x ZX σ e_ xs M h k λj M' h' l=>vM (e_++[f x]) j M' h' l (λy hy=>st y (.tail _ hy)) (by simpa using q)
def jr(t:String):kA t t=true:=by unfold kA;simp
theorem pN:∀(l:List D),ji (l.map λ_=>D.bl true)=some (l.map λ_=>true)
 |[]=>rfl
 |a::l=>by rw[YK,ji,pN l];rfl
def vN{c:Type}(l:List c):(l.map λ_=>true).all id=true:=by simp
def Bp{fs:Zi}:lm (bu (m::fs))=none:=rfl
theorem tH:∀(fs:Zi),gY (bu fs)=some fs
 |[]=>rfl
 |f::fs=>by
  show Option.map _ (gY (bu fs))=_;rw[tH fs];rfl
theorem vO{c:Type}[DecidableEq c]:∀(ks l:List c),(l++ks).Nodup->ks.foldl jj l=l++ks
 |[],l,_=>by simp
 |k::ks,l,h=>by
  have hk:k∉l:=λz=>by
   have:=(XY.1 h).2.2 k z k (.head _)
   exact this rfl
  rw[List.foldl_cons,jj,if_neg hk,vO ks (l++[k]) (by simpa using h)];simp
def wK{c:Type}[DecidableEq c](l:List c)(h:l.Nodup):(bd l).length=l.length:=by
 unfold bd;rw[vO l [] (by simpa using h)];simp
section
variable {cn:Cn}{ds:List D}{M:MH}{Q:DK}{j:Nat}
def vP(f0:cn.F.getD 0 'f'=i5)(c:cn.G.getD j .non=.int 6)(h:lx ds M Q):wSs cn (jo j) (fin Q) (az [""] ds) M:=by
 obtain⟨n,rfl,hn,q⟩:=h;show wSs cn (jo j) (fin Q) [some (.int n)] M;unfold jo;simp! only[f0,c];refine⟨n,rfl,?_⟩;have g:decide ((1:Int)<=n)=true:=YU hn.1;have k:decide (n<=(6:Int))=true:=YU hn.2;simp only[g,k,a8];exact q
theorem tU(f0:cn.F.getD 0 'f'=dq)(l:cn.G.getD j .non=.int 6)(h:jN ds M Q):wSs cn (iG j) (fin Q) (az ["",""] ds) M:=by
 obtain⟨fs,m,rfl,hl,A,c,q⟩:=h;show wSs cn (iG j) (fin Q) [some (.tup (bu fs)),some (.int m)] M;unfold iG;simp! only[l,fE,pK];refine⟨by decide,?_⟩;show eI false _ _;have B:decide ((fs.length:Int)<1)=false:=ZP 'a';have C:decide ((6:Int)<(fs.length:Int))=false:=ZP 'a';simp only[B,C,aB];unfold jO;simp! only[f0,List.cons_append,List.nil_append,List.replicate];refine bC (f:=λ_=>.bl true) (ok:=λσ=>∃v,σ=[some (.tup (bu fs)),some (.int m),v]) [] _ ⟨none,rfl⟩ ?_ ?_
 .intro d hd σ e_ rest ⟨v,hv⟩ k
  subst hv;obtain⟨f,g,rfl⟩:=XX.1 hd;refine⟨f,m,rfl,?_⟩;have h1:decide (0<=f)=true:=YU (c f g).1;have E:decide (f<m)=true:=YU (c f g).2;rw[h1,E];exact⟨trivial,k _ ⟨_,rfl⟩⟩
 .intro p hp
  rw[List.nil_append,aa];dsimp only;rw[pN];dsimp only;rw[vN];simp only[a8,Dx];have I:=ae.new (o:=MO.lst ((bu fs).map λ_=>D.bl true)) hp;generalize ab M p (MO.lst ((bu fs).map λ_=>D.bl true))=M1 at *;cases fs with
  |nil=>exact absurd hl.1 (by simp)
  |cons f fs=>
   simp only[oa,Bp,tH,pK];refine⟨by have:=hl.2;omega,⟨rfl,rfl,(by decide:(0:Nat)<=30)⟩,?_⟩;rw[wK _ A,ah,XD];exact q M1 I
theorem zO(f0:cn.F.getD 0 'f'=jN)(p:cn.F.getD 1 'f'=dq)(C:cn.F.getD 2 'f'=lx)(h:ly ds M Q):wSs cn ei (fin Q) (az ["",""] ds) M:=by
 obtain⟨t,m,rfl,ho,q⟩:=h;show wSs cn ei (fin Q) [some t.told,some (.int m)] M;have g:decide (((1+1:Nat):Int)<2)=false:=by decide
 have l:decide (((1+1+1:Nat):Int)<2)=false:=by decide
 have A:(((1+1:Nat):Int)==2)=true:=by decide
 have B:(((1+1+1:Nat):Int)==3)=true:=by decide
 cases t with
 |hav f=>
  unfold ei;simp_all! only[CT.told,fE,YI,YT,Nat.zero_add];refine⟨by decide,?_⟩;simp only[jr,Bool.not_true,aB,g,l];unfold dR;simp_all! only[CT.told,bg,bH,at2,Fb,YI,YT,Nat.zero_add,p];simp only[a8,A];refine⟨f,m,rfl,?_⟩;have h1:decide (0<=f)=true:=YU ho.1;have c:decide (f<m)=true:=YU ho.2;rw[h1,c];exact q M (ae.refl M)
 |lck f=>
  unfold ei;simp_all! only[CT.told,fE,YI,YT,Nat.zero_add];refine⟨by decide,?_⟩;simp only[jr,Bool.not_true,aB,g,l];unfold dR;simp_all! only[CT.told,bg,bH,at2,zG,zF,YI,YT,Nat.zero_add,p];simp only[a8,A];refine⟨f,m,rfl,?_⟩;have h1:decide (0<=f)=true:=YU ho.1;have c:decide (f<m)=true:=YU ho.2;rw[h1,c];exact q M (ae.refl M)
 |som n fs=>
  unfold ei;simp_all! only[CT.told,fE,YI,YT,Nat.zero_add];refine⟨by decide,?_⟩;simp only[jr,Bool.not_true,aB,g,l];unfold dR;simp_all! only[CT.told,bg,bH,at2,zH,zI];unfold jq;simp_all! only[CT.told,bg,bH,at2,YI,YT,Nat.zero_add];simp only[Bool.not_true,aB,B];unfold jp;simp_all! only[CT.told,bg,bH,at2,DW,f0,C];refine⟨n,rfl,ho.1,?_⟩;show eI true _ _;exact⟨fs,m,rfl,ho.2.1,ho.2.2.1,ho.2.2.2,q⟩
 |led fs k=>
  unfold ei;simp_all! only[CT.told,fE,YI,YT,Nat.zero_add];refine⟨by decide,?_⟩;simp only[jr,Bool.not_true,aB,g,l];unfold dR;simp_all! only[CT.told,bg,bH,at2,zJ,zK];unfold jq;simp_all! only[CT.told,bg,bH,at2,YI,YT,Nat.zero_add];simp only[Bool.not_true,aB,B];unfold jp;simp_all! only[CT.told,bg,bH,at2,DX];unfold mZ;simp_all! only[CT.told,bg,bH,at2,Lv,f0,p,pK];refine⟨fs,m,rfl,⟨by have:=ho.1.1;omega,ho.1.2⟩,ho.2.1,ho.2.2,λM1 E=>?_⟩;show eI true _ _;refine⟨k,(fs.length:Int),rfl,?_⟩;have h1:decide (0<=(k:Int))=true:=YU 'a';have c:decide ((k:Int)<(fs.length:Int))=true:=YU (by have:=ho.1.1;omega);rw[h1,c];exact q M1 E
theorem Bq(f0:cn.F.getD 0 'f'=ly)(B:cn.F.getD 1 'f'=dq)(C:cn.G.getD j .non=.int 6)(h:om ds M Q):wSs cn (m6 j) (fin Q) (az ["","",""] ds) M:=by
 obtain⟨hd,m,p,ts,rfl,g,l,hl,E,q⟩:=h;show wSs cn (m6 j) (fin Q) [some (.tup [.int hd,.ref p]),some (.int m),none] M;unfold m6;simp_all! only[List.set,fE,bg,bH,YI,YT,Nat.zero_add,B];refine⟨by decide,?_⟩;show eI false _ _;show eI false _ _;refine⟨hd,m,rfl,?_⟩;have h1:decide (0<=hd)=true:=YU l.1;have I:decide (hd<m)=true:=YU l.2;rw[h1,I];show wSs cn (ke j) (fin Q) _ M;unfold ke;simp_all! only[List.set,bg,bH];unfold o5;simp_all! only[List.set,fE,g,C,ZF];refine⟨by decide,?_⟩;show eI false _ _;have J:decide ((6:Int)<(ts.length:Int))=false:=ZP 'a';simp only[J,aB];unfold o4;simp_all! only[List.set,g,f0,List.cons_append,List.nil_append,List.replicate];refine vM (f:=λ_=>.bl true) (M0:=M) (ok:=λσ=>∃v,σ=[some (.tup [.int hd,.ref p]),some (.int m),↑p,v]) [] _ M ⟨none,rfl⟩ (ae.refl M) ?_ ?_
 .intro d K σ e_ rest M1 ⟨v,hv⟩ c k
  subst hv;obtain⟨t,O,rfl⟩:=XX.1 K;exact⟨t,m,rfl,E t O,λM2 A=>⟨(c.trans A) p _ g,k _ M2 ⟨_,rfl⟩ (c.trans A)⟩⟩
 .intro M1 c p2 P
  rw[List.nil_append,aa];dsimp only;rw[pN];dsimp only;rw[vN];exact q _ (c.then P)
end
def ag(rs:Zh):List D:=rs.map D.ref
def dr(c:CA)(M:MH)(rs:Zh)(ts:List CT):Prop:=Paired (λr (t:CT)=>M r=some (t.obj c)) rs ts
theorem dr.ext{c:CA}{ts:List CT}(e:ae M M')(h:dr c M ps ts):dr c M' ps ts:=fD (λr t q=>e r _ q) h
def dl(c:CA):aK:=λds M Q=>∃(rs:Zh) (ts:List CT),ds=[.tup (ag rs)]/\dr c M rs ts/\(∀t∈ts,t.ok)/\ts.length<=6/\∀p M',M p=none->ae M M'->M' p=some (.lst (ts.flatMap CT.leans))->Q (.ref p) M'
def eQ:Ss:=#v[.ret (.var 1)]
def eU:Ss:=#v[.expr (.mt .extend (.var 1) #v[.mu0 "leaning" (.var 2)])]
def iL:Ss:=.cons (.for (.nm 2) (.seq (.var 0)) eU) eQ
def gp:Ss:=.cons (.set 1 (.lst .nil)) iL
def wL(t:CT):t.flds.lookup ("leaning" : Str)=none:=by cases t<;>rfl
theorem Br(h:t.ok):t.leans.length<=7:=by
 cases t with
 |hav f=>exact(by decide:(1:Nat)<=7)
 |lck f=>exact(by decide:(1:Nat)<=7)
 |som n fs=>
  show(fs.map (bF false)).length<=7;rw[ZF];have:=h.1.2;omega
 |led fs k=>
  show((fs.take k).map (bF true)++[bF false (fs.getD k 0)]).length<=7;rw[ZK,ZF,YR]
  have:=h.1.2
  simp only[YI,YT];omega
section
variable {cn:Cn}{c:CA}{ds:List D}{M:MH}{Q:DK}
theorem rq(E:∀t:CT,cn.T (c.at t.kind) "leaning" = some (bV c t.kind))(h:dl c ds M Q):wSs cn gp (fin Q) (az ["","",""] ds) M:=by
 obtain⟨g,F,rfl,hc,ho,hl,q⟩:=h;show wSs cn gp (fin Q) [some (.tup (ag g)),none,none] M;unfold gp;simp! only[List.set];intro p hp;unfold iL;simp! only[List.set];have j:∀(rs:Zh) (ts:List CT) (v:Zy) (M1:MH) (e_:List D),ae M M1->M1 p=some (.lst e_)->e_.length+7*ts.length<=42->dr c M rs ts->(∀t∈ts,t.ok)->(∀M',ae M M'->M' p=some (.lst (e_++ts.flatMap CT.leans))->Q (.ref p) M') ->
   aC (λ_=>True) (.nm 2) (wSs cn eU) { nx:=wSs cn eQ (fin Q),rt:=Q } (ag rs) [some (.tup (ag g)),↑p,v] M1:=by
  intro rs ts v M1 e_ k l hl hc;induction hc generalizing v M1 e_ with
  |nil=>
   intro _ q;rw[show ag []=[] from rfl,aC];unfold eQ;simp! only[];exact q M1 k (by simpa using l)
  |@cons r t rs ts G _ I=>
   intro ho q;rw[show ag (r::rs)=.ref r::ag rs from rfl,aC];have A:M1 r=some (.ins (c.at t.kind) t.flds):=k r _ G;have B:=ho t (.head _);have R:=Br B;unfold eU;simp! only[List.set,A,l,E,wL];refine⟨rfl,trivial,r,t,rfl,B,rfl,A,λp2 M2 S C J=>?_⟩;have K:=C p _ l;simp only[K,J];rw[YI] at hl;have U:(42:Nat)<=sizeLine:=by decide
   refine⟨by omega,trivial,?_⟩;have O:M p=none:=hp;have P:ae M (ab M2 p (.lst (e_++t.leans))):=(k.trans C).put O;refine I _ _ (e_++t.leans) P aa (by rw[ZK];omega) (λt' h'=>ho t' (.tail _ h')) λM' e' g'=>q M' e' ?_
   rw[List.flatMap_cons,←ZB];exact g'
 exact j g F none _ [] (ae.new hp) aa (by simp;omega) hc ho λM' e' g'=>q p M' hp e' (by simpa using g')
end
def bz(M:MH)(ps:Zh)(L:Nat->MO):Prop:=∀f r,ps[f]?=some r->M r=some (L f)
theorem bz.ext(e:ae M M')(h:bz M ps L):bz M' ps L:=λf r q=>e r _ (h f r q)
def Bs{c:Type}{ps:List c}{a:c}(nd:ps.Nodup)(h1:ps[f]?=some a)(g:ps[h]?=some a):f=h:=
 (List.getElem?_inj (YC.mp h1).1 nd).1 (h1.trans g.symm)
theorem bz.put{c:Nat->MO}(nd:ps.Nodup)(g:ps[h]?=some r)(s:bz M ps L)(k:c h=o)(l:∀f,f≠h->c f=L f):bz (ab M r o) ps c:=λf j q=>by
 by_cases e:f=h
 .subst e
  rw[g] at q;cases q;rw[aa,k]
 .have:j≠r:=λz=>by subst z;exact e (Bs nd q g)
  rw[aJ this,l f e];exact s f j q
def i6(h:ps[f]?=some r):bY (ag ps) (f:Int)=↑r:=bQ (by unfold ag;rw[ZG,h];rfl)
theorem lz(m:Nat):(bv 0 (m:Int)).length=m:=by unfold bv;rw[ZF,ZJ];omega
def jt(fs:Zj):(nats fs).length=fs.length:=by unfold nats;rw[ZF]
theorem iX{i:Nat}{c:WT}{e:WE}{o:MO}{F:List D->MH->Prop}(M0:MH)(hc:∀σ M Q,Q true M->c σ M Q)(k:∀σ M Q,(∀p,M p=none->Q (.ref p) (ab M p o))->e σ M Q):∀(xs:List D) (ps:Zh) (σ:DS) (M:MH),ae M0 M->ps.Nodup->(∀p∈ps,M0 p=none/\M p=some o) ->
  (∀g M',ae M0 M'->g.Nodup->g.length=ps.length+xs.length->(∀p∈g,M0 p=none/\M' p=some o)->F (ag g) M')->aq (λ_=>True) (.nm i) c e F xs (ag ps) σ M
 |[],ps,σ,M,j,nd,hp,q=>q ps M j nd rfl hp
 |x::xs,ps,σ,M,j,nd,hp,q=>by
  rw[aq];show c _ M _;refine hc _ _ _ ?_;rw[a8];refine k _ _ _ λp hn=>⟨trivial,?_⟩
  have:ag ps++[D.ref p]=ag (ps++[p]):=by unfold ag;rw[ZL];rfl
  rw[this];refine iX M0 hc k xs (ps++[p]) _ _ (j.then hn) ?_ ?_ ?_
  .rw[XY]
   refine⟨nd,by simp,λa ha b hb z=>?_⟩;have hb:b=p:=by simpa using hb
   subst hb;subst z
   have:=(hp a ha).2
   rw[hn] at this;cases this
  .intro a ha
   rw[YA] at ha;rcases ha with ha | ha
   .exact⟨(hp a ha).1,(ae.new hn) a _ (hp a ha).2⟩
   .have ha:a=p:=by simpa using ha
    subst ha;exact⟨j.free hn,aa⟩
  .intro g M' a b d f
   refine q g M' a b ?_ f;rw[d,ZK,YI,YI,YT];omega
def em(hs:Zj)(k f:Nat):List Nat:=(List.range k).filter λr=>decide (hs[r]?=some f)
def lA{hs:Zj}(k:Nat)(e:hs[f]?=some h):em hs (f+1) k=em hs f k++(if k=h then[f] else[]):=by
 unfold em;rw[List.range_succ,List.filter_append];congr 1;by_cases q:k=h
 .subst q;simp[e]
 .have:h≠k:=λz=>q z.symm
  simp[e,q,this]
def DZ(hs:Zj)(k f:Nat):(em hs k f).length<=k:=by
 have:=List.length_filter_le (λr=>decide (hs[r]?=some f)) (List.range k)
 rw[ZJ] at this;exact this
def gr:aK:=λds M Q=>∃(m:Nat) (hs:Zj),ds=[⇑m,.tup (nats hs)]/\m<=1000/\hs.length<=1000/\(∀h∈hs,h<m) /\
 ∀p ps M',M p=none->ae M M'->M' p=some (.lst (ag ps))->ps.length=m->bz M' ps (λf=>.lst (nats (em hs hs.length f)))->Q (.ref p) M'
def eV:Ss:=#v[.ret (.var 2)]
def eY:Ss:=#v[.expr (.mt .append (.ix (.var 2) (.var 4)) #v[.var 3])]
def iM:Ss:=.cons (.for (.tp [3,4]) (.enum #v[.var 1]) eY) eV
def gt:Ss:=.cons (.setC 2 1 (.lst .nil) (.nm 5) (.rg1 #v[.var 0]) .no) iM
def cP:Ss:=#v[.ret (.comp 1 (.bk .list #v[.var 7]) (.nm 7) (.seq (.var 2)) .no)]
def eZ:Ss:=#v[.ite (.not (.val (.var 6))) #v[.putIx (.ix (.var 2) (.var 5)) (.var 3) (.bl true)] .nil]
def fh:Ss:=#v[.for (.tp [5,6]) (.seq (.var 4)) eZ]
def iN:Ss:=.cons (.for (.tp [3,4]) (.enum #v[.var 1]) fh) cP
def dD:Ss:=.cons (.setC 2 1 .dnew (.nm 7) (.rg1 #v[.var 0]) .no) iN
def CT.leanP:CT->List (Bool×Int)
 |.hav f=>[(false,f)]
 |.lck f=>[(true,f)]
 |.som _ fs=>fs.map λf=>(false,f)
 |.led fs k=>(fs.take k).map (λf=>(true,f))++[(false,fs.getD k 0)]
def pairD(x:Bool×Int):D:=bF x.1 x.2
def pO(t:CT):t.leans=t.leanP.map pairD:=by
 cases t with
 |hav f=>rfl
 |lck f=>rfl
 |som n fs=>show fs.map (bF false)=(fs.map λf=>(false,f)).map pairD;rw[ZM];rfl
 |led fs k=>show(fs.take k).map (bF true)++[bF false (fs.getD k 0)]=((fs.take k).map (λf=>(true,f))++[(false,fs.getD k 0)]).map pairD;rw[ZL,ZM];rfl
def zP(ts:List CT):ts.flatMap CT.leans=(ts.flatMap CT.leanP).map pairD:=by
 rw[List.map_flatMap];congr 1
 funext t;exact pO t
def getD_mem{fs:Zi}(h:f<fs.length):fs.getD f 0∈fs:=by
 have:fs.getD f 0=fs[f]:=by simp[List.getD,ZD h]
 rw[this];exact List.getElem_mem h
def fZ(h:t.fit m):∀x∈t.leanP,0<=x.2/\x.2<m:=by
 cases t with
 |hav f=>
  intro x hx;have:x=(false,f):=by simpa [CT.leanP] using hx
  subst this;exact h
 |lck f=>
  intro x hx;have:x=(true,f):=by simpa [CT.leanP] using hx
  subst this;exact h
 |som n fs=>
  intro x hx;obtain⟨f,c,rfl⟩:=XX.1 hx;exact h.2.2.2 f c
 |led fs k=>
  intro x hx;rcases YA.1 hx with hx | hx
  .obtain⟨f,c,rfl⟩:=XX.1 hx
   exact h.2.2 f (List.mem_of_mem_take c)
  .have:x=(false,fs.getD k 0):=by simpa using hx
   subst this;exact h.2.2 _ (getD_mem h.1.1)
def bD(l:Zr)(f:Nat):Bool:=decide ((false,(f:Int))∈l)
def dE(ls:List (List (Bool×Int)))(k f:Nat):List Nat:=(List.range k).filter λr=>bD (ls.getD r []) f
def zQ{ls:List (List (Bool×Int))}{l:Zr}(k:Nat)(e:ls[f]?=some l):dE ls (f+1) k=dE ls f k++(if bD l k=true then[f] else[]):=by
 unfold dE;rw[List.range_succ,List.filter_append];congr 1;have c:ls.getD f []=l:=by rw[List.getD_eq_getElem?_getD,e];rfl
 rw[List.filter_cons,c,List.filter_nil]
def D1{ls:List (List (Bool×Int))}(r:n∈dE ls h f):n<h:=ZV.1 (ZU.1 r).1
def D2(ls:List (List (Bool×Int)))(k f:Nat):(dE ls k f).length<=k:=by
 have:=List.length_filter_le (λr=>bD (ls.getD r []) f) (List.range k)
 rw[ZJ] at this;exact this
def fj(rs:Zj):List (Key×D):=rs.map λ(r:Nat)=>(.inl (r:Int),.bl true)
def Bt(rs:Zj):keysOf (fj rs)=nats rs:=by unfold keysOf fj nats;rw[ZM];rfl
theorem D4(rs:Zj)(r:Nat):((fj rs).any λkv=>decide (kv.1=(.inl (r:Int):Key)))=decide (r∈rs):=by
 induction rs with
 |nil=>simp[fj]
 |cons a rs c=>
  have:fj (a::rs)=(.inl (a:Int),.bl true)::fj rs:=rfl
  rw[this,XC,c];by_cases e:a=r
  .subst e;simp
  .have h1:r≠a:=λz=>e z.symm
   have g:¬((a:Int)=(r:Int)):=by omega
   simp[h1,g]
def D7(rs:Zj)(r:Nat):putD (fj rs) (.inl (r:Int)) (.bl true)=fj (if r∈rs then rs else rs++[r]):=by
 unfold putD;rw[D4];by_cases e:r∈rs
 .rw[if_pos (YU e),if_pos e]
  unfold fj;rw[ZM];refine ZN λa _=>?_
  show(if(Sum.inl (a:Int):Key)=.inl (r:Int) then _ else _)=_;split<;>rfl
 .rw[if_neg (by simpa using e),if_neg e]
  unfold fj;rw[ZL];rfl
def gu:aK:=λds M Q=>∃(m:Nat) (c:Addr) (rs:Zh) (ls:List (List (Bool×Int))),ds=[⇑m,.ref c]/\M c=some (.lst (ag rs))/\rs.length=ls.length/\(∀(k:Nat) (r:Addr) (l:Zr),rs[k]?=some r->ls[k]?=some l->M r=some (.lst (l.map pairD)))/\m<=1000/\ls.length<=1000/\(∀l∈ls,∀x∈l,0<=x.2/\x.2<(m:Int)) /\
 ∀p ps M',M p=none->ae M M'->M' p=some (.lst (ag ps))->ps.length=m->bz M' ps (λf=>.lst (nats (dE ls ls.length f)))->Q (.ref p) M'
section
variable {cn:Cn}{ds:List D}{M:MH}{Q:DK}
theorem rz(h:gr ds M Q):wSs cn gt (fin Q) (az ["","","","",""] ds) M:=by
 obtain⟨m,hs,rfl,hm,hl,F,q⟩:=h;show wSs cn gt (fin Q) [~~~m,some (.tup (nats hs)),none,none,none] M;unfold gt;simp! only[List.cons_append,List.nil_append,List.replicate];refine⟨⟨by omega,by omega⟩,?_⟩;refine iX (o:=.lst []) M (λ_ _ _ h=>h) (λ_ _ _ h=>h) (bv 0 (m:Int)) [] _ M (ae.refl M) .nil (λp hp=>nomatch hp) ?_;intro ps M1 G nd I l p hp;rw[lz,YT,Nat.zero_add] at I;have K:M p=none:=G.free hp;have O:∀r∈ps,r≠p:=λr c=>rn (l r c).2 hp
 have P:ae M (ab M1 p (.lst (ag ps))):=G.then hp;have R:ab M1 p (MO.lst (ag ps)) p=some (.lst (ag ps)):=aa;have s2:bz (ab M1 p (MO.lst (ag ps))) ps (λf=>.lst (nats (em hs 0 f))):=λf r c=>(ae.new hp) r _ (l r (YS c)).2
 generalize ab M1 p (MO.lst (ag ps))=M2 at *;unfold iM;simp! only[List.set];have A:∀(rest:Zj) (k:Nat) (B C:Zy) (M3:MH),hs.drop k=rest->k<=hs.length->ae M M3->M3 p=some (.lst (ag ps))->bz M3 ps (λf=>.lst (nats (em hs k f))) ->
   aC (λ_=>True) (.tp [3,4]) (wSs cn eY) { nx:=wSs cn eV (fin Q),rt:=Q } (bx (k:Int) (nats rest)) [~~~m,some (.tup (nats hs)),↑p,B,C] M3:=by
  intro rest;induction rest with
  |nil=>
   intro k B C M3 hd S E g j;rw[show nats []=[] from rfl,bx,aC];unfold eV;simp! only[];have hk:hs.length<=k:=by
    have:=congrArg List.length hd
    rw[YW,YT] at this;omega
   obtain rfl:k=hs.length:=by omega
   exact q p ps M3 K E g I j
  |cons h rest T=>
   intro k B C M3 hd S E g j;have hk:hs[k]?=some h:=by
    have:=congrArg (·[0]?) hd
    simpa using this
   have U:hs.drop (k+1)=rest:=by
    have:=congrArg (List.drop 1) hd
    rw[List.drop_drop] at this;simpa using this
   have LZ:h∈hs:=YS hk;have V:k<hs.length:=(YC.mp hk).1;obtain⟨r,c⟩:∃r,ps[h]?=some r:=⟨ps[h]'(by have:=F h LZ;omega),ZD (by have:=F h LZ;omega)⟩;have J:=YS c;rw[show nats (h::rest)=⇑h::nats rest from rfl,bx,aC];unfold eY;simp! only[List.set,g,i6 c,j h r c,jt];have hsz:(1000:Nat)<sizeLine:=by decide
   have Y:=DZ hs k h;refine⟨rfl,rfl,by omega,trivial,?_⟩;rw[show((k:Int)+1)=((k+1:Nat):Int) by simp];refine T (k+1) _ _ _ U V (E.put (l r J).1) ?_ ?_
   .rw[aJ (O r J).symm];exact g
   .refine bz.put nd c j ?_ ?_
    .show MO.lst _=_
     rw[lA h hk,if_pos rfl];unfold nats;rw[ZL];rfl
    .intro f W
     show MO.lst _=_;rw[lA f hk,if_neg W,ZA]
 exact A hs 0 none none M2 rfl (YL _) P R s2
def gv(ls:List (List (Bool×Int)))(k:Nat)(dn:Zr)(f:Nat):MO:=.dic (fj (dE ls k f++(if bD dn f=true then[k] else[])))
def wM(dn:Zr)(g:Int)(f:Nat):bD (dn++[(true,g)]) f=bD dn f:=by
 unfold bD;congr 1;simp
def wN(dn:Zr)(f:Nat):bD (dn++[(false,(f:Int))]) f=true:=by
 unfold bD;simp
theorem vQ(dn:Zr)(g:f≠h):bD (dn++[(false,(h:Int))]) f=bD dn f:=by
 unfold bD;congr 1;have:¬(f:Int)=(h:Int):=by omega
 simp[this]
def Bu(ls:List (List (Bool×Int)))(k:Nat)(dn:Zr)(g:Nat):MO.dic (putD (fj (dE ls k g++(if bD dn g=true then[k] else[]))) (.inl (k:Int)) (.bl true))=gv ls k (dn++[(false,(g:Int))]) g:=by
 unfold gv;rw[D7,wN,if_pos rfl];have hk:k∉dE ls k g:=λz=>absurd (D1 z) (ZS _)
 by_cases e:bD dn g=true
 .rw[if_pos e,if_pos (by simp)]
 .rw[if_neg e,ZA,if_neg hk]
theorem rA(h:gu ds M Q):wSs cn dD (fin Q) (az ["","","","","","",""] ds) M:=by
 obtain⟨m,G,rs,ls,rfl,I_,Ow,Sx,hm,hl,hf,q⟩:=h;show wSs cn dD (fin Q) [~~~m,↑G,none,none,none,none,none] M;unfold dD;simp! only[List.cons_append,List.nil_append,List.replicate];refine⟨⟨by omega,by omega⟩,?_⟩;refine iX (o:=.dic []) M (λ_ _ _ h=>h) (λ_ _ _ h=>h) (bv 0 (m:Int)) [] _ M (ae.refl M) .nil (λp hp=>nomatch hp) ?_;intro ps M1 e1 nd f_ Mp p hp;rw[lz,YT,Nat.zero_add] at f_;have Nh:M p=none:=e1.free hp;have B_:∀r∈ps,r≠p:=λr I=>rn (Mp r I).2 hp
 have e2:ae M (ab M1 p (.lst (ag ps))):=e1.then hp;have g2:ab M1 p (MO.lst (ag ps)) p=some (.lst (ag ps)):=aa;have s2:bz (ab M1 p (MO.lst (ag ps))) ps (gv ls 0 []):=λf r I=>(ae.new hp) r _ (Mp r (YS I)).2
 generalize ab M1 p (MO.lst (ag ps))=M2 at *;unfold iN;simp! only[List.set,e2 G _ I_];have Y:∀(K O j A:Zy) (M3:MH),ae M M3->M3 p=some (.lst (ag ps))->bz M3 ps (gv ls ls.length [])->wSs cn cP (fin Q) [~~~m,↑G,↑p,K,O,j,A] M3:=by
  intro K O j A M3 P U Z;unfold cP;simp! only[U,List.cons_append,List.nil_append,List.replicate,tE,kC];have ac:∀(rest:Zh) (k:Nat) (C:Zh) (v:Zy) (c:MH),ps.drop k=rest->k<=ps.length->C.length=k->ae M3 c->bz c C (λf=>.lst (nats (dE ls ls.length f))) ->
    aq (λM'=>M' p=some (.lst (ag ps))) (.nm 7) (kE cn .no) (wE cn (.bk .list (.cons (.var 7) .nil))) (λds M'=>∀p,M' p=none->Q (.ref p) (ab M' p (.lst ds))) (ag rest) (ag C) [~~~m,↑G,↑p,K,O,j,A,v] c:=by
   intro rest;induction rest with
   |nil=>
    intro k C v c hd OZ hq B J;rw[show ag []=[] from rfl,aq];intro p2 R;have hk:ps.length<=k:=by
     have:=congrArg List.length hd
     rw[YW,YT] at this;omega
    exact q p2 C _ ((P.trans B).free R) ((P.trans B).then R) aa 'a' (J.ext (ae.new R))
   |cons r rest ih=>
    intro k C v c hd OZ hq B J;have hk:ps[k]?=some r:=by
     have:=congrArg (·[0]?) hd
     simpa using this
    have MB:ps.drop (k+1)=rest:=by
     have:=congrArg (List.drop 1) hd
     rw[List.drop_drop] at this;simpa using this
    have O0:k<ps.length:=(YC.mp hk).1;have Sy:c r=some (.dic (fj (dE ls ls.length k))):=by
     rw[B r _ (Z k r hk)];unfold gv;rw[if_neg (by unfold bD;simp),ZA]
    rw[show ag (r::rest)=.ref r::ag rest from rfl,aq];simp! only[List.set,tE,kC,Sy,qD,Bt];intro p2 R;refine⟨(B.trans (ae.new R)) p _ U,?_⟩;have:ag C++[D.ref p2]=ag (C++[p2]):=by unfold ag;rw[ZL];rfl
    rw[this];refine ih (k+1) (C++[p2]) _ _ MB O0 (by rw[ZK,hq];rfl) (B.then R) λf S F=>?_
    by_cases Sz:f<C.length
    .rw[ZE Sz] at F
     exact(ae.new R) S _ (J f S F)
    .rw[ZH 'a'] at F
     have hz:f-C.length=0:=by
      have:=(YC.mp F).1
      simp only[YI,YT] at this;omega
     rw[hz] at F;have:p2=S:=by simpa using F
     subst this;obtain rfl:f=k:=by omega
     exact aa
  exact ac ps 0 [] none M3 rfl (YL _) rfl (ae.refl M3) (λf r I=>by simp at I)
 have outer:∀(rest:Zh) (k:Nat) (K O j A:Zy) (M3:MH),rs.drop k=rest->k<=rs.length->ae M M3->M3 p=some (.lst (ag ps))->bz M3 ps (gv ls k []) ->
   aC (λM'=>M' G=some (.lst (ag rs))) (.tp [3,4]) (wSs cn fh) { nx:=wSs cn cP (fin Q),rt:=Q } (bx (k:Int) (ag rest)) [~~~m,↑G,↑p,K,O,j,A] M3:=by
  intro rest;induction rest with
  |nil=>
   intro k K O j A M3 hd OZ P U Z;rw[show ag []=[] from rfl,bx,aC];have hk:rs.length<=k:=by
    have:=congrArg List.length hd
    rw[YW,YT] at this;omega
   obtain rfl:k=ls.length:=by omega
   exact Y K O j A M3 P U Z
  |cons r rest ih=>
   intro k K O j A M3 hd OZ P U Z;have hk:rs[k]?=some r:=by
    have:=congrArg (·[0]?) hd
    simpa using this
   have MB:rs.drop (k+1)=rest:=by
    have:=congrArg (List.drop 1) hd
    rw[List.drop_drop] at this;simpa using this
   have O0:k<rs.length:=(YC.mp hk).1;obtain⟨l,hlk⟩:∃l,ls[k]?=some l:=⟨ls[k]' 'a',ZD 'a'⟩;have I:=Sx k r l hk hlk;have Ut:=hf l (YS hlk);rw[show ag (r::rest)=.ref r::ag rest from rfl,bx,aC];unfold fh;simp! only[List.set,P r _ I];refine⟨rfl,?_⟩;have T:∀(V dn:Zr) (j A:Zy) (c:MH),l=dn++V->ae M c->c p=some (.lst (ag ps))->bz c ps (gv ls k dn)->∀(N:DS->MH->Prop),
     (∀w5 w6 W,ae M W->W p=some (.lst (ag ps))->bz W ps (gv ls k l)->N [~~~m,↑G,↑p,~~~k,↑r,w5,w6] W) ->
     ∀E:cG,E.nx=N ->
     aC (λM'=>M' r=some (.lst (l.map pairD))) (.tp [5,6]) (wSs cn eZ) E (V.map pairD) [~~~m,↑G,↑p,~~~k,↑r,j,A] c:=by
    intro V;induction V with
    |nil=>
     intro dn j A c Qc B g4 J N hN E hE;rw[ZA] at Qc;subst Qc;rw[YY,aC,hE];exact hN j A c B g4 J
    |cons x V QX=>
     intro dn j A c Qc B g4 J N hN E hE;obtain⟨b,gi⟩:=x;have hx:=Ut (b,gi) (by rw[Qc];simp);obtain⟨g,rfl⟩:∃g:Nat,gi=(g:Int):=⟨gi.toNat,by have:=hx.1;simp only at this;omega⟩;have V7:g<ps.length:=by have:=hx.2;simp only at this;omega
     obtain⟨z,hz⟩:∃z,ps[g]?=some z:=⟨ps[g],ZD V7⟩;have Uu:=YS hz;have Qd:l=(dn++[(b,(g:Int))])++V:=by rw[Qc];simp
     rw[YK,show pairD (b,(g:Int))=.tup [⇑g,.bl b] from rfl,aC];unfold eZ;cases b with
     |true=>
      simp! only[List.set,Bool.not_true];refine⟨rfl,B r _ I,QX _ _ _ c Qd B g4 (λf S F=>?_) N hN E hE⟩;rw[J f S F];unfold gv;rw[wM]
     |false=>
      have V8:c z=some (.dic (fj (dE ls k g++(if bD dn g=true then[k] else[])))):=J g z hz;simp! only[List.set,Bool.not_false,g4,i6 hz,V8];have hsz:(2000:Nat)<sizeLine:=by decide
      have QW:=D2 ls k g;refine⟨rfl,?_,?_⟩
      .unfold fj
       rw[ZF,ZK];have:(if bD dn g=true then[k] else[]).length<=1:=by split<;>simp
       omega
      have e5:=B.put (o:=.dic (putD (fj (dE ls k g++(if bD dn g=true then[k] else[]))) (.inl (k:Int)) (.bl true))) (Mp z Uu).1;refine⟨e5 r _ I,QX _ _ _ _ Qd e5 ?_ (bz.put nd hz J ?_ ?_) N hN E hE⟩
      .rw[aJ (B_ z Uu).symm];exact g4
      .exact(Bu ls k dn g).symm
      .intro f V9
       unfold gv;rw[vQ dn V9]
   refine T l [] j A M3 rfl P U Z _ ?_ _ rfl;intro w5 w6 W e5 g5 s5;refine⟨e5 G _ I_,?_⟩;rw[show((k:Int)+1)=((k+1:Nat):Int) by simp];refine ih (k+1) _ _ _ _ W MB O0 e5 g5 λf S F=>?_
   rw[s5 f S F];unfold gv;rw[zQ f hlk,if_neg (show ¬bD [] f=true by unfold bD;simp),ZA]
 exact outer rs 0 none none none none M2 rfl (YL _) e2 g2 s2
end
abbrev Row:=Nat×List CT
abbrev Zx:=List Row
structure cx (m:Nat) (b_:Zx):Prop where
 most:m<=30
 few:b_.length<=63
 fit:∀x∈b_,x.1<m/\x.2.length<=6/\∀t∈x.2,t.fit (m:Int)
def cQ(x:Row):List (Bool×Int):=x.2.flatMap CT.leanP
def aQ(b_:Zx):List Nat:=b_.map (·.1)
def aW(u_:Zs):List D:=u_.map λrs=>.tup (ag rs)
def hid(a:Addr)(M:MH):MH:=λb=>if b=a then none else M b
def i7(a:Addr)(M:MH)(o:MO):hid a (ab M a o)=hid a M:=by
 funext b;unfold hid ab;split<;>rfl
def vR(h:b≠a):hid a M b=M b:=if_neg h
def bU(e:ae M M'):ae (hid a M) (hid a M'):=λb o q=>by
 unfold hid at q ⊢;split at q
 .cases q
 .rename_i n
  rw[if_neg n];exact e b o q
def ju(a:Addr)(M:MH):ae (hid a M) M:=λb o q=>by
 unfold hid at q;split at q
 .cases q
 .exact q
def f8{fs:List (Str×D)}(ha:M a=some (.ins r fs))(hb:M b=some (.lst K_)):hid a M b=some (.lst K_):=by
 rw[vR]
 .exact hb
 .intro z;subst z;rw[ha] at hb;cases hb
def GM{fs:List (Str×D)}(ha:M a=some (.ins r fs))(hb:M b=none)(h:M' b=some o):hid a M' b=some o:=by
 rw[vR]
 .exact h
 .intro z;subst z;rw[ha] at hb;cases hb
def bq(M:MH)(K_:List D)(b_:Zx):Prop:=Paired (λd (x:Row)=>∃q,d=.tup [⇑x.1,.ref q]/\M q=some (.lst (x.2.map CT.told))) K_ b_
theorem bq.ext(e:ae M M')(h:bq M K_ b_):bq M' K_ b_:=fD (λ_ _ ⟨q,a,b⟩=>⟨q,a,e q _ b⟩) h
theorem bq.hid{a S:Addr}{M:MH}{fs:List (Str×D)}{K_:List D}{b_:Zx}(ha:M a=some (.ins S fs))(h:bq M K_ b_):bq (SH.hid a M) K_ b_:=fD (λ_ _ ⟨q,a,b⟩=>⟨q,a,f8 ha b⟩) h
def fO(c:CA)(M:MH)(u_:Zs)(b_:Zx):Prop:=Paired (λrs (x:Row)=>dr c M rs x.2) u_ b_
theorem fO.ext{c:CA}{M M':MH}{u_:Zs}{b_:Zx}(e:ae M M')(h:fO c M u_ b_):fO c M' u_ b_:=fD (λ_ _ q=>dr.ext e q) h
def rC(m:Nat)(b_:Zx)(u_:Zs)(p1 p2 p3:Addr):List (Str×D):=[("many",⇑m),("heads",.tup (nats (aQ b_))),("conds",.tup (aW u_)),("headed",.ref p1),("leanings",.ref p2),("helped",.ref p3)]
def on(M:MH)(ps:Zh)(b_:Zx):Prop:=ps.length=b_.length/\∀(k:Nat) (r:Addr) (x:Row),ps[k]?=some r->b_[k]?=some x->M r=some (.lst ((cQ x).map pairD))
structure c7 (c:CA) (S:Addr) (M:MH) (a:Addr) (m:Nat) (b_:Zx):Prop where
 ok:cx m b_
 ex:∃(u_:Zs) (p1 p2 p3:Addr) (Mu Mm NH:Zh),M a=some (.ins S (rC m b_ u_ p1 p2 p3))/\fO c M u_ b_ /\
  (M p1=some (.lst (ag Mu))/\Mu.length=m/\bz M Mu (λf=>.lst (nats (em (aQ b_) b_.length f)))) /\
  (M p2=some (.lst (ag Mm))/\on M Mm b_) /\
  (M p3=some (.lst (ag NH))/\NH.length=m/\bz M NH (λf=>.lst (nats (dE (b_.map cQ) b_.length f))))
theorem c7.ext{c:CA}{S:Addr}{M M':MH}{a:Addr}{m:Nat}{b_:Zx}(e:ae M M')(h:c7 c S M a m b_):c7 c S M' a m b_:=by
 obtain⟨ok,u_,p1,p2,p3,Mu,Mm,NH,h1,j,⟨l,p,A⟩,⟨B,g⟩,C,E,F⟩:=h;exact⟨ok,u_,p1,p2,p3,Mu,Mm,NH,e _ _ h1,j.ext e,⟨e _ _ l,p,A.ext e⟩,⟨e _ _ B,g.1,λk r x q1 q2=>e _ _ (g.2 k r x q1 q2)⟩,e _ _ C,E,F.ext e⟩
def m7:List Str:=["many","heads","conds","headed","leanings","helped"]
def hV(c:CA)(S:Addr):aK:=λds M Q=>∃(a:Addr) (m:Nat) (g:Addr) (K_:List D) (b_:Zx),ds=[.ref a,⇑m,.ref g]/\M a=some (.ins S [])/\M g=some (.lst K_)/\bq M K_ b_/\cx m b_ /\
 ∀M',ExtBut a M M'->c7 c S M' a m b_->Q .non M'
def im(c:CA)(S:Addr):aK:=λds M Q=>∃(a:Addr) (m:Nat) (b_:Zx),ds=[.ref a]/\c7 c S M a m b_/\Q (⇑m) M
def fm:Ss:=#v[.ret (.fld (.var 0) "many")]
section
variable {m:Nat}{b_:Zx}{u_:Zs}{p1 p2 p3:Addr}
def GN:(rC m b_ u_ p1 p2 p3).lookup ("many" : Str)= ~~~m:=rfl
def Bv:(rC m b_ u_ p1 p2 p3).lookup ("headed" : Str)=↑p1:=rfl
end
section
variable {cn:Cn}{c:CA}{S:Addr}{ds:List D}{M:MH}{Q:DK}
def wO(g:∀f∈m7,cn.O S f)(h:im c S ds M Q):wSs cn fm (fin Q) (az [""] ds) M:=by
 obtain⟨a,m,b_,rfl,⟨ok,u_,p1,p2,p3,Mu,Mm,NH,h1,-⟩,q⟩:=h;show wSs cn fm (fin Q) [↑a] M;unfold fm;simp! only[h1,GN];exact⟨g _ (by rfl'),q⟩
end
def jP:Ss:=#v[.setF (.var 0) "helped" (.fn 0 #v[.var 1,.fld (.var 0) "leanings"])]
def jQ:Ss:=.cons (.setF (.var 0) "leanings" (.comp 1 (.fn 1 #v[.var 5]) (.nm 5) (.seq (.fld (.var 0) "conds")) .no)) jP
def jR:Ss:=.cons (.setF (.var 0) "headed" (.fn 2 #v[.var 1,.fld (.var 0) "heads"])) jQ
def jS:Ss:=.cons (.setF (.var 0) "conds" (.bi .tuple #v[.comp 1 (.bi .tuple #v[.comp 1 (.fn 3 #v[.var 6]) (.nm 6) (.seq (.ix (.var 5) (.int 1))) .no]) (.nm 5) (.seq (.var 2)) .no])) jR
def jT:Ss:=.cons (.setF (.var 0) "heads" (.bi .tuple #v[.comp 1 (.ix (.var 5) (.int 0)) (.nm 5) (.seq (.var 2)) .no])) jS
def dF:Ss:=.cons (.setF (.var 0) "many" (.var 1)) jT
def dG:Ss:=#v[.ite (.not (.val (.fn 4 #v[.var 4,.var 1]))) #v[.never] .nil]
def jU:Ss:=.cons (.for (.tp [3,4]) (.enum #v[.var 2]) dG) dF
def iH(j l:Nat):Ss:=.cons (.ite (.or (.not (.val (.fn 5 #v[.var 1,.bin .Add (.glob j) (.int 1)]))) (.or (.not (.val (.bi .isinst #v[.var 2,.ty "list"]))) (.cmp .Gt (.bi .len #v[.var 2]) (.glob l)))) #v[.never] .nil) jU
abbrev xY(x:D):List (Str×D):=[("many",x)]
abbrev vS(x y:D):List (Str×D):=[("many",x),("heads",y)]
abbrev vT(x y z:D):List (Str×D):=[("many",x),("heads",y),("conds",z)]
abbrev vU(x y z u:D):List (Str×D):=[("many",x),("heads",y),("conds",z),("headed",u)]
abbrev vV(x y z u v:D):List (Str×D):=[("many",x),("heads",y),("conds",z),("headed",u),("leanings",v)]
abbrev Ji(x y z u v w:D):List (Str×D):=[("many",x),("heads",y),("conds",z),("headed",u),("leanings",v),("helped",w)]
def LM(x:D):fI ("many" : Str) x []=xY x:=rfl
def LN(x y:D):fI ("heads" : Str) y (xY x)=vS x y:=rfl
def LO(x y z:D):fI ("conds" : Str) z (vS x y)=vT x y z:=rfl
def LP(x y z u:D):fI ("headed" : Str) u (vT x y z)=vU x y z u:=rfl
def LQ(x y z u v:D):fI ("leanings" : Str) v (vU x y z u)=vV x y z u v:=rfl
def LR(x y z u v w:D):fI ("helped" : Str) w (vV x y z u v)=Ji x y z u v w:=rfl
def LS(x y z:D):List.lookup ("heads" : Str) (vT x y z)=some y:=rfl
def LT(x y z u:D):List.lookup ("conds" : Str) (vU x y z u)=some z:=rfl
def LU(x y z u v:D):List.lookup ("leanings" : Str) (vV x y z u v)=some v:=rfl
def D8(h:bq M K_ b_):([]++K_.map λd=>match d with | .tup (h::_)=>h | _=>.non)=nats (aQ b_):=by
 rw[List.nil_append];induction h with
 |nil=>rfl
 |@cons d x ds rs hd _ c=>
  obtain⟨q1,rfl,-⟩:=hd;rw[YK,c];rfl
section
variable {cn:Cn}{c:CA}{S:Addr}
theorem tI{g:MH->Prop}{tc:WT}{te:WE}{F:List D->MH->Prop}{a:Addr}{fs:List (Str×D)}{σ0:DS}{i:Nat}{M0:MH}(hc:∀σ M Q,Q true M->tc σ M Q)(j:∀M,ae M0 M->g M)
  (k:∀(t:CT) (M:MH) (Q:DK),(∀p M',M p=none->ae M M'->M' p=some (t.obj c)->Q (.ref p) M')->te (σ0.set i (some (CT.told t))) M Q) (l:∀v w:Option D,(σ0.set i v).set i w=σ0.set i w) (A:M0 a=some (.ins S fs)):
  ∀(ts:List CT) (dn:List CT) (rs:Zh) (v:Zy) (M:MH),ae M0 M->dr c (hid a M) rs dn->(∀B M',ae M0 M'->dr c (hid a M') B (dn++ts)->F (ag B) M')->aq g (.nm i) tc te F (ts.map CT.told) (ag rs) (σ0.set i v) M
 |[],dn,rs,v,M,e,h,q=>by
  rw[ZA] at q;exact q rs M e h
 |t::ts,dn,rs,v,M,e,h,q=>by
  rw[YK,aq];show tc _ M _;refine hc _ _ _ ?_;rw[a8,l];refine k t M _ λp M' hp e' C=>⟨j _ (e.trans e'),?_⟩
  have:ag rs++[D.ref p]=ag (rs++[p]):=by unfold ag;rw[ZL];rfl
  rw[this];refine tI hc j k l A ts (dn++[t]) (rs++[p]) _ M' (e.trans e') ?_ (by simpa using q);exact ba (h.ext (bU e')) (.cons (GM (e a _ A) hp C) .nil)
variable {ds:List D}{M:MH}{Q:DK}{j l:Nat}
theorem tV(hO:∀f∈m7,cn.O S f)(f0:cn.F.getD 0 'f'=gu)(f1:cn.F.getD 1 'f'=dl c)(f2:cn.F.getD 2 'f'=gr)(f3:cn.F.getD 3 'f'=rp c)(f4:cn.F.getD 4 'f'=om)(f5:cn.F.getD 5 'f'=dq)
  (gj:cn.G.getD j .non=.int 120) (gl:cn.G.getD l .non=.int 400) (h:hV c S ds M Q):wSs cn (iH j l) (fin Q) (az ["","","","",""] ds) M:=by
 obtain⟨a,m,R,K_,b_,rfl,ha,NM,hR,ok,q⟩:=h;show wSs cn (iH j l) (fin Q) [↑a,~~~m,↑R,none,none] M;have Xv:=ok.most;have Xw:=ok.few;have Ow:K_.length=b_.length:=ik hR;unfold iH;simp_all! only[List.set,fE,NM,f5,gj,gl];refine⟨(m:Int),120+1,rfl,?_⟩;have h1:decide (0<=(m:Int))=true:=YU 'a';have h2:decide ((m:Int)<120+1)=true:=YU 'a';simp only[h1,h2,Bool.and_self,Bool.not_true,aB,a8];refine⟨by decide,?_⟩;simp only[NM,jr,Bool.not_true,aB];have b2:decide ((400:Int)<(K_.length:Int))=false:=ZP 'a';simp only[b2,aB];unfold jU;simp_all! only[List.set,NM];have rest:∀(I J:Zy) (M1:MH),ae M M1->wSs cn dF (fin Q) [↑a,~~~m,↑R,I,J] M1:=by
  intro I J M1 V;have Qb:=V _ _ ha;have R1:bq (hid a M1) K_ b_:=(hR.ext V).hid Qb;have N':hid a M1 R=some (.lst K_):=f8 Qb (V _ _ NM);have x1:ae (hid a M) (hid a M1):=bU V;unfold dF;simp_all! only[List.set,Qb,LM];refine⟨⟨hO _ (by rfl'),by decide⟩,?_⟩;have Sr:ab M1 a (MO.ins S (xY (⇑m))) a=some (.ins S (xY (⇑m))):=aa;have A:=i7 a M1 (MO.ins S (xY (⇑m)));generalize ab M1 a (MO.ins S (xY (⇑m)))=M2 at *;rw[←A] at R1 N' x1;clear A Qb V;clear M1;have O2:=ju a M2 _ _ N'
  -- NI
  unfold jT;simp_all! only[List.set,List.cons_append,List.nil_append,List.replicate,O2];refine bC (f:=λd=>match d with | .tup (h::_)=>h | _=>.non) (ok:=λσ=>∃v,σ=[↑a,~~~m,↑R,I,J,v]) [] _ ⟨none,rfl⟩ ?_ ?_
  .intro d hd σ e_ O1 ⟨v,hv⟩ k
   subst hv;obtain⟨i,hi⟩:=XT hd;obtain⟨x,-,q1,rfl,-⟩:=cF R1 hi;rw[aq];simp_all! only[List.set,bg];exact⟨O2,k _ ⟨_,rfl⟩⟩
  intro p hp;have NI:=D8 R1;rw[NI];have e3:=ae.new (o:=MO.lst (nats (aQ b_))) hp;have g3:ab M2 p (MO.lst (nats (aQ b_))) p=some (.lst (nats (aQ b_))):=aa;generalize ab M2 p (MO.lst (nats (aQ b_)))=M3 at *;have Uv:=e3 _ _ Sr;simp only[g3,bM,Uv,LN];refine⟨⟨hO _ (by rfl'),(by decide:(1:Nat)<1000)⟩,?_⟩;have x3:ae (hid a M) (hid a M3):=x1.trans (bU e3);have R3:=R1.ext (bU (a:=a) e3);have O3:=bU (a:=a) e3 _ _ N';clear R1 N' x1 Sr e3 g3 O2 hp NI;clear M2;have SA:ab M3 a (MO.ins S (vS (⇑m) (.tup (nats (aQ b_))))) a=some (.ins S (vS (⇑m) (.tup (nats (aQ b_))))):=aa;have A:=i7 a M3 (MO.ins S (vS (⇑m) (.tup (nats (aQ b_)))));generalize ab M3 a (MO.ins S (vS (⇑m) (.tup (nats (aQ b_)))))=M4 at *;rw[←A] at R3 O3 x3;clear A Uv;clear M3;have O4:=ju a M4 _ _ O3
  -- NJ
  unfold jS;simp_all! only[List.set,List.cons_append,List.nil_append,List.replicate,O4];have hm:∀(x:Row) (q1:Addr) (g:MH) (K:DK),g a=some (.ins S (vS (⇑m) (.tup (nats (aQ b_)))))->g q1=some (.lst (x.2.map CT.told))->(∀rs B,ae g B->dr c (hid a B) rs x.2->K (.tup (ag rs)) B) ->
    wE cn (.bi .tuple (.cons (.comp 1 (.fn 3 (.cons (.var 6) .nil)) (.nm 6) (.seq (.ix (.var 5) (.int 1))) .no) .nil)) [↑a,~~~m,↑R,I,J,some (.tup [⇑x.1,.ref q1])] g K:=by
   intro x q1 g K V_ Ni k;simp_all! only[List.set,List.cons_append,List.nil_append,List.replicate,bH,Ni,f3];refine tI (c:=c) (S:=S) (a:=a) (M0:=g) (i:=6) (σ0:=[↑a,~~~m,↑R,I,J,some (.tup [⇑x.1,.ref q1]),none]) (λ_ _ _ h=>h) (λB U=>U _ _ Ni) ?_ (λ_ _=>rfl) V_ x.2 [] [] none g (ae.refl g) .nil ?_
   .intro t B K2 k2
    exact⟨t,rfl,k2⟩
   .intro rs B U SD p hp
    rw[aa];exact k rs _ (U.then hp) (SD.ext (bU (ae.new hp)))
  have NJ:∀(F:List D->MH->Prop) (xs:List D) (P dn:Zx) (u_:Zs) (v:Zy) (g:MH),bq (hid a M4) xs P->ae M4 g->fO c (hid a g) u_ dn->(∀Qf B,ae M4 B->fO c (hid a B) Qf (dn++P)->F (aW Qf) B) ->
    aq (λM'=>M' R=some (.lst K_)) (.nm 5) (kE cn .no) (wE cn (.bi .tuple (.cons (.comp 1 (.fn 3 (.cons (.var 6) .nil)) (.nm 6) (.seq (.ix (.var 5) (.int 1))) .no) .nil))) F xs (aW u_) [↑a,~~~m,↑R,I,J,v] g:=by
   intro F xs P dn u_ v g hp;induction hp generalizing dn u_ v g with
   |nil=>
    intro Z h5 k;rw[aq];rw[ZA] at k;exact k u_ g Z h5
   |@cons d x xs P hd _ ih=>
    intro Z h5 k;obtain⟨q1,rfl,Ni⟩:=hd;rw[aq];refine hm x q1 g _ (Z _ _ SA) (Z _ _ (ju a M4 _ _ Ni)) λrs B U SD=>⟨(Z.trans U) _ _ O4,?_⟩
    have:aW u_++[D.tup (ag rs)]=aW (u_++[rs]):=by unfold aW;rw[ZL];rfl
    rw[this];refine ih (dn++[x]) (u_++[rs]) _ B (Z.trans U) (ba (h5.ext (bU U)) (.cons SD .nil)) (by simpa using k)
  refine NJ _ K_ b_ [] [] none M4 R3 (ae.refl M4) .nil ?_;clear NJ hm;intro u_ g Z SE p hp;rw[List.nil_append] at SE;have U:=ae.new (o:=MO.lst (aW u_)) hp;have g6:ab g p (MO.lst (aW u_)) p=some (.lst (aW u_)):=aa;generalize ab g p (MO.lst (aW u_))=B at *;have Uw:=(Z.trans U) _ _ SA;simp only[g6,bM,Uw,LO];refine⟨⟨hO _ (by rfl'),(by decide:(2:Nat)<1000)⟩,?_⟩;have x6:ae (hid a M) (hid a B):=x3.trans (bU (Z.trans U));have C6:=SE.ext (bU (a:=a) U);clear R3 O3 x3 SA Z SE hp U g6 O4;clear M4 g;have SF:ab B a (MO.ins S (vT (⇑m) (.tup (nats (aQ b_))) (.tup (aW u_)))) a=some (.ins S (vT (⇑m) (.tup (nats (aQ b_))) (.tup (aW u_)))):=aa;have A:=i7 a B (MO.ins S (vT (⇑m) (.tup (nats (aQ b_))) (.tup (aW u_))));generalize ab B a (MO.ins S (vT (⇑m) (.tup (nats (aQ b_))) (.tup (aW u_))))=M7 at *;rw[←A] at C6 x6;clear A Uw;clear B
  -- headed
  unfold jR;simp_all! only[List.set,SF,LS,f2];have V':(aQ b_).length=b_.length:=by unfold aQ;rw[ZF]
  refine⟨hO _ (by rfl'),m,aQ b_,rfl,by omega,by omega,?_,?_⟩
  .intro h A
   obtain⟨x,hx,rfl⟩:=XX.1 A;exact(ok.fit x hx).1
  intro p1 Mu M8 OY e8 g8 l8 s8;rw[V'] at s8;have QY:=e8 _ _ SF;simp only[QY,LP];refine⟨⟨hO _ (by rfl'),(by decide:(3:Nat)<1000)⟩,?_⟩;have x8:ae (hid a M) (hid a M8):=x6.trans (bU e8);have C8:=C6.ext (bU (a:=a) e8);have G8:hid a M8 p1=some (.lst (ag Mu)):=f8 QY g8;have S8:bz (hid a M8) Mu (λf=>.lst (nats (em (aQ b_) b_.length f))):=λf r C=>f8 QY (s8 f r C)
  clear C6 x6 SF OY e8 g8 s8;clear M7;have SI:ab M8 a (MO.ins S (vU (⇑m) (.tup (nats (aQ b_))) (.tup (aW u_)) (.ref p1))) a=some (.ins S (vU (⇑m) (.tup (nats (aQ b_))) (.tup (aW u_)) (.ref p1))):=aa;have A:=i7 a M8 (MO.ins S (vU (⇑m) (.tup (nats (aQ b_))) (.tup (aW u_)) (.ref p1)));generalize ab M8 a (MO.ins S (vU (⇑m) (.tup (nats (aQ b_))) (.tup (aW u_)) (.ref p1)))=M9 at *;rw[←A] at C8 x8 G8 S8;clear A QY;clear M8
  -- leanings
  unfold jQ;simp_all! only[List.set,List.cons_append,List.nil_append,List.replicate,SI,LT];refine⟨hO _ (by rfl'),?_⟩;have ac:∀(F:List D->MH->Prop) (cs:Zs) (P dn:Zx) (ps:Zh) (v:Zy) (W:MH),fO c (hid a M9) cs P->(∀x∈P,x.1<m/\x.2.length<=6/\∀t∈x.2,t.fit (m:Int))->ae M9 W->on W ps dn->(∀N9 T,ae M9 T->on T N9 (dn++P)->F (ag N9) T) ->
    aq (λ_=>True) (.nm 5) (kE cn .no) (wE cn (.fn 1 (.cons (.var 5) .nil))) F (aW cs) (ag ps) [↑a,~~~m,↑R,I,J,v] W:=by
   intro F cs P dn ps v W hp;induction hp generalizing dn ps v W with
   |nil=>
    intro _ Y N_ k;rw[show aW []=[] from rfl,aq];rw[ZA] at k;exact k ps W Y N_
   |@cons rs x cs P hd _ ih=>
    intro hf Y N_ k;obtain⟨SJ,Qg,Qh⟩:=hf x (.head _);rw[show aW (rs::cs)=.tup (ag rs)::aW cs from rfl,aq];have go:dl c [.tup (ag rs)] W (λy M2=>True/\aq (λ_=>True) (.nm 5) (kE cn .no) (wE cn (.fn 1 (.cons (.var 5) .nil))) F (aW cs) (ag ps++[y]) [↑a,~~~m,↑R,I,J,some (.tup (ag rs))] M2):=by
     refine⟨rs,x.2,rfl,(hd.ext (ju a M9)).ext Y,λt ht=>CT.fit_ok 'a' (Qh t ht),Qg,λp T hp NO QZ=>⟨trivial,?_⟩⟩;have:ag ps++[D.ref p]=ag (ps++[p]):=by unfold ag;rw[ZL];rfl
     rw[this];refine ih (dn++[x]) (ps++[p]) _ T (λy hy=>hf y (.tail _ hy)) (Y.trans NO) ⟨by rw[ZK,ZK,N_.1];rfl,λk r y C hy=>?_⟩ (by simpa using k);by_cases hk:k<ps.length
     .rw[ZE hk] at C
      rw[ZE (by rw[←N_.1];exact hk)] at hy;exact NO _ _ (N_.2 k r y C hy)
     .rw[ZH 'a'] at C
      rw[ZH (by rw[←N_.1];omega),←N_.1] at hy;have hz:k-ps.length=0:=by
       have:=(YC.mp C).1
       simp only[YI,YT] at this;omega
      rw[hz,List.getElem?_cons_zero] at C hy;cases C;cases hy;rw[QZ,zP];rfl
    rw[←f1] at go;exact go
  refine ac _ u_ b_ [] [] none M9 C8 ok.fit (ae.refl M9) ⟨rfl,λk r x C=>by simp at C⟩ ?_;clear ac;intro Mm W Y Pp p2 C';rw[List.nil_append] at Pp;have NO:=ae.new (o:=MO.lst (ag Mm)) C';have QZ:ab W p2 (MO.lst (ag Mm)) p2=some (.lst (ag Mm)):=aa;generalize ab W p2 (MO.lst (ag Mm))=T at *;have Oa:=(Y.trans NO) _ _ SI;simp only[Oa,LQ];refine⟨⟨hO _ (by rfl'),(by decide:(4:Nat)<1000)⟩,?_⟩;have Ux:ae (hid a M) (hid a T):=x8.trans (bU (Y.trans NO));have Uy:=C8.ext (bU (a:=a) (Y.trans NO));have Uz:=bU (a:=a) (Y.trans NO) _ _ G8;have UA:=S8.ext (bU (a:=a) (Y.trans NO));have SK:hid a T p2=some (.lst (ag Mm)):=f8 Oa QZ;have Qi:on (hid a T) Mm b_:=⟨Pp.1,λk r x C hx=>f8 Oa (NO _ _ (Pp.2 k r x C hx))⟩;clear C8 x8 SI C' Y Pp NO QZ G8 S8;clear M9 W;have Qj:ab T a (MO.ins S (vV (⇑m) (.tup (nats (aQ b_))) (.tup (aW u_)) (.ref p1) (.ref p2))) a=some (.ins S (vV (⇑m) (.tup (nats (aQ b_))) (.tup (aW u_)) (.ref p1) (.ref p2))):=aa;have A:=i7 a T (MO.ins S (vV (⇑m) (.tup (nats (aQ b_))) (.tup (aW u_)) (.ref p1) (.ref p2)));generalize ab T a (MO.ins S (vV (⇑m) (.tup (nats (aQ b_))) (.tup (aW u_)) (.ref p1) (.ref p2)))=Q1 at *;rw[←A] at Uy Ux Uz UA SK Qi;clear A Oa;clear T
  -- helped
  unfold jP;simp_all! only[List.set,Qj,LU,f0];refine⟨hO _ (by rfl'),m,p2,Mm,b_.map cQ,rfl,ju a Q1 _ _ SK,by rw[ZF];exact Qi.1,?_,by omega,by rw[ZF];omega,?_,?_⟩
  .intro k r l C hl
   rw[ZG] at hl;obtain⟨x,hx,rfl⟩:=Option.map_eq_some_iff.1 hl;exact ju a Q1 _ _ (Qi.2 k r x C hx)
  .intro l hl x hx
   obtain⟨y,hy,rfl⟩:=XX.1 hl;obtain⟨t,ht,Wa⟩:=List.mem_flatMap.1 hx;exact fZ ((ok.fit y hy).2.2 t ht) x Wa
  intro p3 NH UB NL UC Wb Wc UD;rw[ZF] at UD;have O5:=UC _ _ Qj;simp only[O5,LR];refine⟨⟨hO _ (by rfl'),(by decide:(5:Nat)<1000)⟩,?_⟩;have A:=i7 a UB (MO.ins S (Ji (⇑m) (.tup (nats (aQ b_))) (.tup (aW u_)) (.ref p1) (.ref p2) (.ref p3)));have he:=bU (a:=a) UC;have hl:=ju a (ab UB a (MO.ins S (Ji (⇑m) (.tup (nats (aQ b_))) (.tup (aW u_)) (.ref p1) (.ref p2) (.ref p3))));rw[A] at hl;have ee:=he.trans hl;refine q _ ?_ ⟨ok,u_,p1,p2,p3,Mu,Mm,NH,aa,Uy.ext ee,⟨ee _ _ Uz,l8,UA.ext ee⟩,⟨ee _ _ SK,Qi.1,λk r x C hx=>ee _ _ (Qi.2 k r x C hx)⟩,hl _ _ (f8 O5 Wb),Wc,λf r C=>hl _ _ (f8 O5 (UD f r C))⟩;intro b o hb Wd;refine ee b o (Ux b o ?_);rw[vR hb];exact Wd
 have step:∀(E:cG) (v0 v2:Zy) (I J:Zy) (M1:MH) (x:Row) (q1:Addr),(x.1<m/\x.2.length<=6/\∀t∈x.2,t.fit (m:Int))->M1 q1=some (.lst (x.2.map CT.told))->(∀M2,ae M1 M2->E.nx [v0,~~~m,v2,I,some (.tup [⇑x.1,.ref q1])] M2) ->
   wSs cn dG E [v0,~~~m,v2,I,some (.tup [⇑x.1,.ref q1])] M1:=by
  intro E v0 v2 I J M1 x q1 ⟨SJ,Qg,Qh⟩ hq k;unfold dG;simp_all! only[List.set,f4];exact⟨(x.1:Int),(m:Int),q1,x.2,rfl,hq,⟨by omega,by omega⟩,Qg,Qh,λM2 e2=>k M2 e2⟩
 have al:∀(xs:List D) (P:Zx) (k:Int) (I J:Zy) (M1:MH),bq M xs P->(∀x∈P,x.1<m/\x.2.length<=6/\∀t∈x.2,t.fit (m:Int))->ae M M1 ->
   aC (λM'=>M' R=some (.lst K_)) (.tp [3,4]) (wSs cn dG) { nx:=wSs cn dF (fin Q),rt:=Q } (bx k xs) [↑a,~~~m,↑R,I,J] M1:=by
  intro xs P k I J M1 hp;induction hp generalizing k I J M1 with
  |nil=>
   intro _ V;rw[bx,aC];exact rest I J M1 V
  |@cons d x xs P hd _ ih=>
   intro hf V;obtain⟨q1,rfl,Ni⟩:=hd;obtain⟨SJ,Qg,Qh⟩:=hf x (.head _);rw[bx,aC];refine⟨rfl,step _ _ _ _ none M1 x q1 ⟨SJ,Qg,Qh⟩ (V _ _ Ni) λM2 e2=>?_⟩;exact⟨(V.trans e2) R _ NM,ih _ _ _ M2 (λy hy=>hf y (.tail _ hy)) (V.trans e2)⟩
 exact al K_ b_ 0 none none M hR ok.fit (ae.refl M)
end
end SH
namespace SG
open PySem L2 DD
variable {f:Nat}
section
variable {E:Nat->Nat->Prop}{f g h j k m:Nat}
inductive b8 (E:Nat->Nat->Prop):Nat->Nat->Prop where
 |refl (f:Nat):b8 E f f
 |step {f g h:Nat}:E f g->b8 E g h->b8 E f h
theorem b8.trans(a:b8 E f g)(b:b8 E g h):b8 E f h:=by
 induction a with
 |refl f=>exact b
 |step e _ c=>exact .step e (c b)
theorem b8.one(e:E f g):b8 E f g:=.step e (.refl g)
theorem b8.lt(b:∀f g,E f g->g<m)(a:b8 E f g)(c:f<m):g<m:=by
 induction a with
 |refl f=>exact c
 |step e _ l=>exact l (b _ _ e)
def Wr(E:Nat->Nat->Prop):Nat->Nat->Nat->Prop
 |0,f,g=>f=g\/E f g
 |k+1,f,g=>Wr E k f g\/(Wr E k f k/\Wr E k k g)
theorem Wr.up(a:Wr E 0 f g):∀k,Wr E k f g
 |0=>a
 |k+1=>.inl (Wr.up a k)
theorem Wr.mid:∀(k:Nat){f g j:Nat},j<k->Wr E k f j->Wr E k j g->Wr E k f g
 |0,_,_,_,h,_,_=>absurd h (Nat.not_lt_zero _)
 |k+1,f,g,j,h,a,b=>by
  rcases Nat.lt_succ_iff_lt_or_eq.1 h with h | rfl
  .rcases a with a | ⟨a1,a2⟩
   .rcases b with b | ⟨b1,b2⟩
    .exact .inl (Wr.mid k h a b)
    .exact .inr ⟨Wr.mid k h a b1,b2⟩
   .rcases b with b | ⟨b1,b2⟩
    .exact .inr ⟨a1,Wr.mid k h a2 b⟩
    .exact .inr ⟨a1,b2⟩
  .have a':Wr E j f j:=by rcases a with a | a;exact a;exact a.1
   have b':Wr E j j g:=by rcases b with b | b;exact b;exact b.2
   exact .inr ⟨a',b'⟩
theorem Wr.rch:∀(k:Nat){f g:Nat},Wr E k f g->b8 E f g
 |0,f,g,a=>by
  rcases a with rfl | e
  .exact .refl f
  .exact .one e
 |k+1,f,g,a=>by
  rcases a with a | ⟨a,b⟩
  .exact Wr.rch k a
  .exact(Wr.rch k a).trans (Wr.rch k b)
theorem b8.wr(b:∀f g,E f g->g<m)(a:b8 E f g):Wr E m f g:=by
 induction a with
 |refl f=>exact Wr.up (.inl rfl) m
 |step e _ c=>exact Wr.mid m (b _ _ e) (Wr.up (.inr e) m) c
def Jj(a:∀f g,E f g->g<m):Wr E m f g↔b8 E f g:=⟨Wr.rch m,b8.wr a⟩
end
def vW(rs:Zj)(k:Nat):List Nat:=rs.map λx=>if x.testBit k=true then x|||rs.getD k 0 else x
def a9(ls:Zj):Nat->List Nat
 |0=>ls.mapIdx λf x=>x|||1<<<f
 |k+1=>vW (a9 ls k) k
def dS(ls:Zj)(f g:Nat):Prop:=(ls.getD f 0).testBit g=true
theorem fP(ls:Zj):∀k,(a9 ls k).length=ls.length
 |0=>by simp[a9]
 |k+1=>by rw[a9,vW,ZF,fP ls k]
theorem vX(ls:Zj):∀(k:Nat),k<=ls.length->∀(f g:Nat),f<ls.length->(((a9 ls k).getD f 0).testBit g=true↔Wr (dS ls) k f g)
 |0,_,f,g,a=>by
  have e:(a9 ls 0).getD f 0=ls.getD f 0|||1<<<f:=by
   simp[a9,List.getD_eq_getElem?_getD,ZD a]
  rw[e,Nat.testBit_or,Bool.or_eq_true,Nat.one_shiftLeft,Nat.testBit_two_pow];show _↔f=g\/(ls.getD f 0).testBit g=true;simp only[XQ];exact Or.comm
 |k+1,hk,f,g,a=>by
  have b:=λf g a=>vX ls k 'a' f g a
  have e:(a9 ls (k+1)).getD f 0=if((a9 ls k).getD f 0).testBit k=true then(a9 ls k).getD f 0|||(a9 ls k).getD k 0 else(a9 ls k).getD f 0:=by
   have hl:f<(a9 ls k).length:=by rw[fP];exact a
   simp only[a9,vW,List.getD_eq_getElem?_getD,ZG,ZD hl,XH,XE]
  rw[e];show _↔Wr (dS ls) k f g\/(Wr (dS ls) k f k/\Wr (dS ls) k k g);rw[←b f g a,←b f k a,←b k g 'a'];split
  .rename_i hb
   rw[Nat.testBit_or,Bool.or_eq_true];exact⟨λh=>h.imp id λz=>⟨hb,z⟩,λh=>h.imp id λz=>z.2⟩
  .rename_i hb
   exact⟨.inl,λh=>h.elim id λz=>absurd z.1 hb⟩
def Bw{ls:Zj}(a:∀f g,dS ls f g->g<ls.length){g:Nat}(b:f<ls.length):((a9 ls ls.length).getD f 0).testBit g=true↔b8 (dS ls) f g:=by
 rw[vX ls ls.length (YF _) f g b,Jj a]
end SG
namespace SH
open PySem L2 DD
def Sub(a b:Nat):Prop:=∀f,a.testBit f=true->b.testBit f=true
theorem rD:∀{l m:Zj},l.Pairwise (· < ·)->m.Pairwise (· < ·)->(∀x,x∈l↔x∈m)->l=m
 |[],[],_,_,_=>rfl
 |[],b::m,_,_,h=>absurd ((h b).2 (.head _)) (by simp)
 |a::l,[],_,_,h=>absurd ((h a).1 (.head _)) (by simp)
 |a::l,b::m,hl,hm,h=>by
  rw[List.pairwise_cons] at hl hm;have e:a=b:=by
   rcases ZZ.1 ((h a).1 (.head _)) with e | e
   .exact e
   .rcases ZZ.1 ((h b).2 (.head _)) with e' | e'
    .exact e'.symm
    .have:=hl.1 b e';have:=hm.1 a e;omega
  subst e;rw[rD hl.2 hm.2 λx=>?_];constructor
  .intro hx
   rcases ZZ.1 ((h x).1 (.tail _ hx)) with e | e
   .subst e;exact absurd (hl.1 x hx) (ZS _)
   .exact e
  .intro hx
   rcases ZZ.1 ((h x).2 (.tail _ hx)) with e | e
   .subst e;exact absurd (hm.1 x hx) (ZS _)
   .exact e
theorem vY:∀{n:Nat}{l:Zj},l.Nodup->(∀x∈l,x<n)->l.length<=n
 |0,[],_,_=>YF _
 |0,a::l,_,h=>absurd (h a (.head _)) (Nat.not_lt_zero _)
 |n+1,l,hd,h=>by
  have h1:=vY (n:=n) (l:=l.filter λx=>decide (x≠n)) (List.Pairwise.filter _ hd) (λx hx=>by
   have b:=ZU.1 hx
   have:=h x b.1
   have:x≠n:=XN b.2
   omega)
  have b:∀{l:Zj},l.Nodup->l.length<=(l.filter λx=>decide (x≠n)).length+1:=by
   intro l hd;induction l with
   |nil=>simp
   |cons a l c=>
    rw[YN] at hd;rw[List.filter_cons];by_cases e:a=n
    .subst e
     rw[if_neg (by simp),YI];have:l.filter (λx=>decide (x≠a))=l:=List.filter_eq_self.2 λx hx=>YU λz=>hd.1 (z▸hx)
     rw[this];exact YF _
    .rw[if_pos (by simpa using e),YI,YI]
     have:=c hd.2
     omega
  have:=b hd
  omega
end SH
namespace SG
open PySem L2 DD SH
variable {f placed g:Nat}
section
variable {S:Nat->Nat->Bool}{m:Nat}
structure Eqv (S:Nat->Nat->Bool) (m:Nat):Prop where
 refl:∀f,f<m->S f f=true
 symm:∀f g,f<m->g<m->S f g=true->S g f=true
 trans:∀f g h,f<m->g<m->h<m->S f g=true->S g h=true->S f h=true
def cls(S:Nat->Nat->Bool)(m f:Nat):List Nat:=(List.range m).filter (S f)
def fQ(S:Nat->Nat->Bool)(f:Nat):Bool:=!(List.range f).any λx=>S x f
def bB(S:Nat->Nat->Bool)(m k:Nat):List (List Nat):=((List.range k).filter (fQ S)).map (cls S m)
def cj:g∈cls S m f↔g<m/\S f g=true:=by unfold cls;rw[ZU,ZV]
def pP:fQ S f=true ↔ ∀x,x<f->S x f=false:=by
 unfold fQ;rw[Bool.not_eq_true',List.any_eq_false];constructor
 .intro h x hx
  have:=h x (ZV.2 hx)
  cases e:S x f
  .rfl
  .exact absurd e this
 .intro h x hx e
  rw[h x (ZV.1 hx)] at e;cases e
theorem D9(q:Eqv S m)(b:f<m):(cls S m f).head?=some f↔fQ S f=true:=by
 rw[pP];have srt:(cls S m f).Pairwise (· < ·):=List.Pairwise.filter _ List.pairwise_lt_range;have hm:f∈cls S m f:=cj.2 ⟨b,q.refl f b⟩;constructor
 .intro h x hx
  cases e:S x f with
  |false=>rfl
  |true=>
   have h1:x∈cls S m f:=cj.2 ⟨by omega,q.symm x f 'a' b e⟩;cases hc:cls S m f with
   |nil=>rw[hc] at hm;cases hm
   |cons a l=>
    rw[hc] at h h1 srt;cases h;rcases ZZ.1 h1 with rfl | h1
    .omega
    .have:=(List.pairwise_cons.1 srt).1 x h1
     omega
 .intro h
  cases hc:cls S m f with
  |nil=>rw[hc] at hm;cases hm
  |cons a l=>
   rw[hc] at hm srt;rcases ZZ.1 hm with rfl | hm
   .rfl
   .have h1:=(List.pairwise_cons.1 srt).1 f hm
    have c:a∈cls S m f:=by rw[hc];exact ZX
    obtain⟨j,k⟩:=cj.1 c
    have:=h a h1
    rw[q.symm f a b j k] at this;cases this
theorem lB(q:Eqv S m):∀(f:Nat),f<m->∃x,x<=f/\S x f=true/\fQ S x=true:=by
 intro f;induction f using Nat.strongRecOn with
 |ind f b=>
  intro a;by_cases h:fQ S f=true
  .exact⟨f,YF _,q.refl f a,h⟩
  .rw[pP] at h
   simp only[Classical.not_forall] at h;obtain⟨x,hx,e⟩:=h;have e:S x f=true:=by cases z:S x f;exact absurd z e;rfl
   obtain⟨y,h1,c,j⟩:=b x hx 'a';exact⟨y,by omega,q.trans y x f 'a' 'a' a c e,j⟩
def lP(S:Nat->Nat->Bool)(m k placed:Nat):Prop:=∀o,o<m->(placed.testBit o=true ↔ ∃x,x<k/\S x o=true)
theorem lP.free(q:Eqv S m)(hk:f<m)(h:lP S m f placed):placed.testBit f = !fQ S f:=by
 cases e:fQ S f with
 |true=>
  rw[pP] at e;cases z:placed.testBit f with
  |false=>rfl
  |true=>
   obtain⟨x,hx,hs⟩:=(h f hk).1 z;rw[e x hx] at hs;cases hs
 |false=>
  refine(h f hk).2 ?_;obtain⟨x,h1,a,b⟩:=lB q f hk;refine⟨x,?_,a⟩;rcases Nat.lt_or_eq_of_le h1 with h | rfl
  .exact h
  .rw[b] at e;cases e
theorem lP.skip(q:Eqv S m)(hk:f<m)(h:lP S m f placed)(a:fQ S f=false):lP S m (f+1) placed:=by
 intro o ho;rw[h o ho];constructor
 .rintro⟨x,hx,hs⟩;exact⟨x,by omega,hs⟩
 .rintro⟨x,hx,hs⟩
  by_cases e:x=f
  .subst e
   obtain⟨y,h1,b,c⟩:=lB q x hk;refine⟨y,?_,q.trans y x o 'a' hk ho b hs⟩;rcases Nat.lt_or_eq_of_le h1 with h | rfl
   .exact h
   .rw[c] at a;cases a
  .exact⟨x,by omega,hs⟩
theorem lP.take{k:Nat}(h:lP S m k placed)(hm:∀o,o<m->(f.testBit o=true↔S k o=true)):lP S m (k+1) (placed|||f):=by
 intro o ho;rw[Nat.testBit_or,Bool.or_eq_true,h o ho,hm o ho];constructor
 .rintro(⟨x,hx,hs⟩ | hs)
  .exact⟨x,by omega,hs⟩
  .exact⟨k,by omega,hs⟩
 .rintro⟨x,hx,hs⟩
  by_cases e:x=k
  .subst e;exact .inr hs
  .exact .inl ⟨x,by omega,hs⟩
def Ea(h:fQ S f=false):bB S m (f+1)=bB S m f:=by
 unfold bB;rw[List.range_succ,List.filter_append,ZL,List.filter_cons,h];simp
def Eb(h:fQ S f=true):bB S m (f+1)=bB S m f++[cls S m f]:=by
 unfold bB;rw[List.range_succ,List.filter_append,ZL,List.filter_cons,h];simp
end
def Kr(h:Sub f g):f<=g:=by
 have e:f&&&g=f:=by
  refine Nat.eq_of_testBit_eq λk=>?_
  rw[Nat.testBit_and];cases z:f.testBit k with
  |false=>rfl
  |true=>rw[h k z];rfl
 rw[←e];exact Nat.and_le_right
section
variable {ls rs:Zj}
structure Walk (ls rs:Zj):Prop where
 len:rs.length=ls.length
 low:∀f g,dS ls f g->g<ls.length
 ok:∀f g,f<ls.length->((rs.getD f 0).testBit g=true↔b8 (dS ls) f g)
def aV(rs:Zj)(f g:Nat):Bool:=(rs.getD f 0).testBit g&&(rs.getD g 0).testBit f
theorem Walk.sam_iff(w:Walk ls rs)(a:f<ls.length)(b:g<ls.length):aV rs f g=true↔b8 (dS ls) f g/\b8 (dS ls) g f:=by
 unfold aV;rw[YX,w.ok f g a,w.ok g f b]
theorem Walk.eqv(w:Walk ls rs):Eqv (aV rs) ls.length where
 refl:=λf c=>(w.sam_iff c c).2 ⟨.refl f,.refl f⟩
 symm:=λf g c j h=>(w.sam_iff j c).2 ((w.sam_iff c j).1 h).symm
 trans:=λf g h c j k a b=>by
  obtain⟨l,m⟩:=(w.sam_iff c j).1 a;obtain⟨n,p⟩:=(w.sam_iff j k).1 b;exact(w.sam_iff c k).2 ⟨l.trans n,p.trans m⟩
def Bx(ls:Zj)(p:Zj)(dn:Nat):Prop:=∀x∈p,∀g,dS ls x g->g∈p\/dn.testBit g=true
theorem Walk.ready(w:Walk ls rs)(dn:Nat):∀(n f:Nat),f<ls.length->dn.testBit f=false->rs.getD f 0=n->∃f',f'<ls.length/\dn.testBit f'=false/\Bx ls (cls (aV rs) ls.length f') dn:=by
 intro n;induction n using Nat.strongRecOn with
 |ind n j=>
  intro f a hd e;by_cases h:Bx ls (cls (aV rs) ls.length f) dn
  .exact⟨f,a,hd,h⟩
  .unfold Bx at h
   simp only[Classical.not_forall,not_or] at h;obtain⟨x,hx,g,b,h1,k⟩:=h;have gl:=w.low _ _ b;obtain⟨l,hs⟩:=cj.1 hx;obtain⟨r1,r2⟩:=(w.sam_iff a l).1 hs;have c:b8 (dS ls) f g:=r1.trans (.one b);have m:¬b8 (dS ls) g f:=λz=>h1 (cj.2 ⟨gl,(w.sam_iff a gl).2 ⟨c,z⟩⟩)
   have p:Sub (rs.getD g 0) (rs.getD f 0):=λo ho=>(w.ok f o a).2 (c.trans ((w.ok g o gl).1 ho))
   have ne:rs.getD g 0≠rs.getD f 0:=λz=>m ((w.ok g f gl).1 (by rw[z];exact(w.ok f f a).2 (.refl f)))
   have lt:rs.getD g 0<n:=by
    have:=Kr p
    rw[←e];exact Nat.lt_of_le_of_ne this ne
   exact j _ lt g gl (by cases z:dn.testBit g;rfl;exact absurd z k) rfl
end
end SG
namespace SH
open PySem L2 DD
end SH
namespace SG
open PySem L2 DD SH
variable {dn f:Nat}
section
variable {S:Nat->Nat->Bool}{m:Nat}
def pQ(q:Eqv S m){g:Nat}(a:f<m)(b:g<m)(h:S f g=true):cls S m f=cls S m g:=by
 unfold cls;refine List.filter_congr λo ho=>?_
 have ho:=ZV.1 ho;have h':=q.symm f g a b h;cases e:S f o with
 |true=>exact(q.trans g f o b a ho h' e).symm
 |false=>
  cases e2:S g o with
  |false=>rfl
  |true=>rw[q.trans f g o a b ho h e2] at e;cases e
def gM(q:Eqv S m){p:Zj}:p∈bB S m m ↔ ∃f,f<m/\fQ S f=true/\p=cls S m f:=by
 unfold bB;rw[XX];constructor
 .rintro⟨f,hf,rfl⟩
  obtain⟨h1,a⟩:=ZU.1 hf;exact⟨f,ZV.1 h1,a,rfl⟩
 .rintro⟨f,h1,a,rfl⟩
  exact⟨f,ZU.2 ⟨ZV.2 h1,a⟩,rfl⟩
theorem Jk(q:Eqv S m)(a:f<m):cls S m f∈bB S m m:=by
 obtain⟨x,h1,b,c⟩:=lB q f a;exact(gM q).2 ⟨x,by omega,c,(pQ q 'a' a b).symm⟩
def dU(q:Eqv S m)(b:f<m)(h:fQ S f=true):∃l,cls S m f=f::l:=by
 have:=(D9 q b).2 h
 cases e:cls S m f with
 |nil=>rw[e] at this;cases this
 |cons a l=>rw[e] at this;cases this;exact⟨l,rfl⟩
end
section
variable {ls rs:Zj}
def kf(ls:Zj)(p:Zj)(dn:Nat):Bool:=p.all λx=>decide (cu (ls.getD x 0) (dn|||cw p)=0)
def may(ls:Zj)(dn:Nat)(p:Zj):Bool:=!dn.testBit (p.headD 0)&&kf ls p dn
def o6{b:Nat}:cu f b=0 ↔ ∀g,f.testBit g=true->b.testBit g=true:=by
 constructor
 .intro h g a
  have:=iV f b g
  rw[h,Nat.zero_testBit,a,Bool.true_and] at this;cases e:b.testBit g
  .rw[e] at this;cases this
  .rfl
 .intro h
  refine Nat.eq_of_testBit_eq λg=>?_
  rw[iV,Nat.zero_testBit];cases e:f.testBit g
  .rfl
  .rw[h g e];rfl
def Ec:kf ls rs dn=true↔Bx ls rs dn:=by
 unfold kf Bx;rw[XI];constructor
 .intro h x hx g a
  have:=o6.1 (XN (h x hx)) g a
  rw[Nat.testBit_or,Bool.or_eq_true,cM] at this;rcases this with z | z
  .exact .inr z
  .exact .inl (XN z)
 .intro h x hx
  refine YU (o6.2 λg a=>?_);rw[Nat.testBit_or,Bool.or_eq_true,cM];rcases h x hx g a with z | z
  .exact .inr (YU z)
  .exact .inl z
def tJ(ls:Zj)(ps:List (List Nat)):Nat->Nat->List (List Nat)
 |0,_=>[]
 |n+1,dn=>match ps.find? (may ls dn) with
  |none=>[]
  |some p=>p::tJ ls ps n (dn|||cw p)
def Dn(rs:Zj)(m dn:Nat):Prop:=∀f g,f<m->g<m->aV rs f g=true->dn.testBit f=dn.testBit g
theorem Dn.zero:Dn rs f 0:=λm g _ _ _=>by rw[Nat.zero_testBit,Nat.zero_testBit]
theorem Walk.next(w:Walk ls rs)(hd:Dn rs ls.length dn)(g:f<ls.length)(h:dn.testBit f=false):∃p,(bB (aV rs) ls.length ls.length).find? (may ls dn)=some p:=by
 obtain⟨f',h1,j,k⟩:=w.ready dn _ f g h rfl;have q:=w.eqv;obtain⟨x,n,b,m⟩:=lB q f' h1;have a:x<ls.length:=by omega
 obtain⟨l,e⟩:=dU q a m;have c:=pQ q a h1 b;cases z:(bB (aV rs) ls.length ls.length).find? (may ls dn) with
 |some p=>exact⟨p,rfl⟩
 |none=>
  rw[List.find?_eq_none] at z;refine absurd ?_ (z _ (Jk q a));unfold may;rw[YX,Ec,c];refine⟨?_,k⟩;rw[←c,e];show(!dn.testBit x)=true;rw[hd x f' a h1 b,j];rfl
theorem Dn.next(w:Walk ls rs)(hd:Dn rs ls.length dn){p:Zj}(hp:p∈bB (aV rs) ls.length ls.length):Dn rs ls.length (dn|||cw p):=by
 intro f g a b h;have q:=w.eqv;obtain⟨x,c,_,rfl⟩:=(gM q).1 hp;rw[Nat.testBit_or,Nat.testBit_or,cM,cM,hd f g a b h];congr 1;rw[decide_eq_decide,cj,cj];exact⟨λz=>⟨b,q.trans x f g c a b z.2 h⟩,λz=>⟨a,q.trans x g f c b a z.2 (q.symm f g a b h)⟩⟩
end
section
variable {ls rs:Zj}
def nd(dn:Nat)(p:Zj):Bool:=!dn.testBit (p.headD 0)
theorem kg{c:Type}(a b:c->Bool):∀l:List c,((l.filter a).filter b).head?=l.find? λx=>a x&&b x
 |[]=>rfl
 |x::l=>by
  rw[List.filter_cons,XB];cases ha:a x with
  |false=>simp only[Bool.false_and,if_false];exact kg a b l
  |true=>
   simp only[Bool.true_and,if_true,List.filter_cons];cases hb:b x with
   |false=>simp only[if_false];exact kg a b l
   |true=>rfl
def By{S:Nat->Nat->Bool}(q:Eqv S f):(bB S f f).Nodup:=by
 unfold bB;have h:((List.range f).filter (fQ S)).Nodup:=List.Pairwise.filter _ List.nodup_range;rw[List.Nodup,XZ];refine List.Pairwise.imp_of_mem ?_ h;intro a b ha hb c e;obtain⟨g,j⟩:=ZU.1 ha;obtain⟨k,m⟩:=ZU.1 hb;obtain⟨l,n⟩:=dU q (ZV.1 g) j;obtain⟨r,p⟩:=dU q (ZV.1 k) m;rw[n,p] at e;cases e;exact c rfl
theorem Ed(w:Walk ls rs){n:Nat}(hd:Dn rs ls.length dn)(hn:((bB (aV rs) ls.length ls.length).filter (nd dn)).length=n+1):
  ∃p,(bB (aV rs) ls.length ls.length).find? (may ls dn)=some p/\p∈bB (aV rs) ls.length ls.length/\nd dn p=true/\(((bB (aV rs) ls.length ls.length).filter (nd dn)).filter λp=>kf ls p dn).head?=some p /\
   ((bB (aV rs) ls.length ls.length).filter (nd dn)).filter (λx=>decide (x≠p))=(bB (aV rs) ls.length ls.length).filter (nd (dn|||cw p)) /\
   ((bB (aV rs) ls.length ls.length).filter (nd (dn|||cw p))).length=n/\Dn rs ls.length (dn|||cw p):=by
 have q:=w.eqv;have hx:∃x,x∈(bB (aV rs) ls.length ls.length).filter (nd dn):=by
  cases e:(bB (aV rs) ls.length ls.length).filter (nd dn) with
  |nil=>rw[e] at hn;cases hn
  |cons a l=>exact⟨a,ZX⟩
 obtain⟨x,hx⟩:=hx;obtain⟨h1,c⟩:=ZU.1 hx;obtain⟨f,k,B,rfl⟩:=(gM q).1 h1;obtain⟨l,e⟩:=dU q k B;rw[e] at c;have c:dn.testBit f=false:=by cases z:dn.testBit f;rfl;exact absurd c (by unfold nd;rw[List.headD_cons,z];exact YE)
 obtain⟨p,hp⟩:=w.next hd k c;have pm:=List.mem_of_find?_eq_some hp;have m:=List.find?_some hp;have pn:nd dn p=true:=by unfold may at m;exact(YX _ _▸m).1
 have same:∀y∈bB (aV rs) ls.length ls.length,nd (dn|||cw p) y=(nd dn y&&decide (y≠p)):=by
  intro y hy;obtain⟨a,r,C,rfl⟩:=(gM q).1 pm;obtain⟨b,bl,E,rfl⟩:=(gM q).1 hy;obtain⟨I,J⟩:=dU q r C;obtain⟨K,t⟩:=dU q bl E;unfold nd;rw[t,List.headD_cons,Nat.testBit_or,cM,←t];have:decide (b∈cls (aV rs) ls.length a) = !decide (cls (aV rs) ls.length b≠cls (aV rs) ls.length a):=by
   by_cases h:b∈cls (aV rs) ls.length a
   .have hs:=(cj.1 h).2
    rw[YU h,pQ q r bl hs];simp
   .rw[ZP h]
    have:cls (aV rs) ls.length b≠cls (aV rs) ls.length a:=λz=>h (by rw[←z];exact cj.2 ⟨bl,q.refl b bl⟩)
    simp[this]
  rw[this];cases dn.testBit b<;>simp
 have A:((bB (aV rs) ls.length ls.length).filter (nd dn)).filter (λx=>decide (x≠p))=(bB (aV rs) ls.length ls.length).filter (nd (dn|||cw p)):=by
  rw[List.filter_filter];refine List.filter_congr λy hy=>?_
  rw[same y hy,Bool.and_comm]
 refine⟨p,hp,pm,pn,?_,A,?_,hd.next w pm⟩
 .rw[kg];exact hp
 .rw[←A]
  have F:((bB (aV rs) ls.length ls.length).filter (nd dn)).Nodup:=List.Pairwise.filter _ (By q);have pin:p∈(bB (aV rs) ls.length ls.length).filter (nd dn):=ZU.2 ⟨pm,pn⟩;have g:∀{l:List (List Nat)},l.Nodup->p∈l->(l.filter λx=>decide (x≠p)).length+1=l.length:=by
   intro l;induction l with
   |nil=>intro _ h;cases h
   |cons a l G=>
    intro j hm;rw[YN] at j;rw[List.filter_cons];by_cases e:a=p
    .subst e
     have:l.filter (λx=>decide (x≠a))=l:=List.filter_eq_self.2 λx hx=>YU λz=>j.1 (z▸hx)
     rw[show decide (a≠a)=false by simp,if_neg YE,this,YI]
    .have hm:p∈l:=by rcases ZZ.1 hm with z | z;exact absurd z.symm e;exact z
     have:=G j.2 hm
     simp[e];simpa using this
  have:=g F pin
  omega
end
section
variable {ls rs ws:Zj}
def part(rs:Zj)(f:Nat):List Nat:=(mX (rs.getD f 0)).filter λo=>(rs.getD o 0).testBit f
def Ee(w:Walk ls rs)(a:f<ls.length):part rs f=cls (aV rs) ls.length f:=by
 unfold part cls mX;have low:∀o,(rs.getD f 0).testBit o=true->o<ls.length:=λo ho=>b8.lt w.low ((w.ok f o a).1 ho) a
 refine rD (List.Pairwise.filter _ (List.Pairwise.filter _ List.pairwise_lt_range)) (List.Pairwise.filter _ List.pairwise_lt_range) λo=>?_
 rw[ZU,show o∈(List.range (eh ((rs.getD f 0:Nat):Int))).filter (λo=>(rs.getD f 0).testBit o)↔(rs.getD f 0).testBit o=true from vL _ _,ZU,ZV];unfold aV;rw[YX];exact⟨λz=>⟨low o z.1,z⟩,λz=>z.2⟩
end
end SG
namespace SG
open PySem L2 DD
variable {n:Nat}{w:Option P2}
abbrev P2:Type:=Nat×Bool
abbrev dW:Type:=List (P2×Option P2)
theorem Bz{b:Type}[DecidableEq b]:∀{l t:List b},l.Nodup->(∀x∈l,x∈t)->l.length<=t.length
 |[],_,_,_=>YL _
 |a::l,t,nd,h=>by
  rw[YN] at nd;have ha:=h a (.head _)
  have:=Bz (l:=l) (t:=t.erase a) nd.2 λx hx=>(List.mem_erase_of_ne (λ(e:x=a)=>nd.1 (by rw[←e];exact hx))).2 (h x (.tail _ hx))
  rw[List.length_erase_of_mem ha] at this
  have:=List.length_pos_of_mem ha
  rw[YI];omega
section
variable {L:Nat->List P2}{p:Zj}{f0:Nat}{c:dW}{x z o:P2}
def cB(x z:P2):P2:=(z.1,x.2 != z.2)
def has(c:dW)(o:P2):Bool:=c.any λy=>decide (y.1=o)
def dg(x:P2)(c:dW)(z:P2):dW:=if has c (cB x z)=true then c else c++[(cB x z,some x)]
def Ef(L:Nat->List P2)(c:dW)(x:P2):dW:=(L x.1).foldl (dg x) c
def runN(L:Nat->List P2)(f0:Nat):Nat->dW
 |0=>[((f0,false),none)]
 |n+1=>match(runN L f0 n)[n]? with
  |some e=>Ef L (runN L f0 n) e.1
  |none=>runN L f0 n
def et:has c o=true ↔ ∃y,(o,y)∈c:=by
 unfold has;rw[XJ];constructor
 .rintro⟨e,he,q⟩
  exact⟨e.2,by rw[←XN q];exact he⟩
 .rintro⟨y,hy⟩
  exact⟨_,hy,YU rfl⟩
structure Tr (L:Nat->List P2) (p:Zj) (f0:Nat) (c:dW):Prop where
 nod:(c.map (·.1)).Nodup
 fst:c[0]?=some ((f0,false),none)
 par:∀k o y,c[k]?=some (o,y)->k≠0->∃j x w z,j<k/\y=some x/\c[j]?=some (x,w)/\z∈L x.1/\o=cB x z
 inp:∀e∈c,e.1.1∈p
theorem Tr.start(h:f0∈p):Tr L p f0 [((f0,false),none)] where
 nod:=by simp
 fst:=rfl
 par:=λk o y e hk=>by
  cases k with
  |zero=>exact absurd rfl hk
  |succ k=>rw[List.getElem?_cons_succ] at e;cases e
 inp:=λe a=>by rw[XM.1 a];exact h
theorem Tr.len(h:Tr L p f0 c):c.length<=2*p.length:=by
 have:=Bz (t:=p.flatMap λf=>[(f,false),(f,true)]) h.nod λx hx=>by
  obtain⟨e,g,rfl⟩:=XX.1 hx;rw[List.mem_flatMap];refine⟨e.1.1,h.inp e g,?_⟩;obtain⟨⟨f,b⟩,_⟩:=e;cases b<;>simp
 have e:∀q:List Nat,(q.flatMap λf=>[(f,false),(f,true)]).length=2*q.length:=by
  intro q;induction q with
  |nil=>rfl
  |cons a q j=>rw[List.flatMap_cons,ZK,j,YI];simp only[YI,YT];omega
 rw[ZF,e] at this;exact this
theorem Tr.bin(h:Tr L p f0 c)(g:c[n]?=some (x,w))(hz:z∈L x.1)(hp:z.1∈p):Tr L p f0 (dg x c z):=by
 unfold dg;split
 .exact h
 .rename_i hn
  have j:n<c.length:=(YC.1 g).1;refine⟨?_,?_,λk o y e hk=>?_,λe f=>?_⟩
  .rw[ZL,XY]
   refine⟨h.nod,by simp,λa ha b hb e=>?_⟩;rw[YK,YY,XM] at hb;subst hb e;obtain⟨e,f,q⟩:=XX.1 ha;have q:e.1=cB x z:=q;exact hn (et.2 ⟨e.2,by rw[←q];exact f⟩)
  .rw[ZE 'a']
   exact h.fst
  .by_cases hl:k<c.length
   .rw[ZE hl] at e
    obtain⟨l,m,w',z',r,t,A,B⟩:=h.par k o y e hk;exact⟨l,m,w',z',r,t,by rw[ZE 'a'];exact A,B⟩
   .rw[ZH 'a'] at e
    by_cases C:k-c.length=0
    .rw[C] at e
     cases e;exact⟨n,x,w,z,by omega,rfl,by rw[ZE j];exact g,hz,rfl⟩
    .rw[show k-c.length=(k-c.length-1)+1 by omega,List.getElem?_cons_succ] at e
     cases e
  .rcases YA.1 f with z | z
   .exact h.inp e z
   .rw[XM.1 z]
    exact hp
def sx{e:P2×Option P2}(h:c[n]?=some e):(dg x c z)[n]?=some e:=by
 unfold dg;split
 .exact h
 .rw[ZE (YC.1 h).1];exact h
def GO:has (dg x c z) (cB x z)=true:=by
 unfold dg;split
 .assumption
 .exact et.2 ⟨_,YG _ (.head _)⟩
def vZ(l:List P2):∀{c:dW}{j:Nat}{w:Option P2},Tr L p f0 c->c[j]?=some (x,w)->(∀z∈l,z∈L x.1/\z.1∈p) ->
  Tr L p f0 (l.foldl (dg x) c)/\(∀(k:Nat) (e:P2×Option P2),c[k]?=some e->(l.foldl (dg x) c)[k]?=some e)/\∀z∈l,has (l.foldl (dg x) c) (cB x z)=true:=by
 induction l with
 |nil=>intro c j w h _ _;exact⟨h,λk e q=>q,λz hz=>nomatch hz⟩
 |cons z l f=>
  intro c j w h a hl;have h1:=hl z (.head _);obtain⟨g,b,m⟩:=f (h.bin a h1.1 h1.2) (sx a) λy hy=>hl y (.tail _ hy)
  refine⟨g,λk e q=>b k e (sx q),λy hy=>?_⟩;rcases ZZ.1 hy with rfl | hy
  .obtain⟨v,hv⟩:=et.1 (GO (x:=x) (c:=c) (z:=y))
   obtain⟨k,hk⟩:=XT hv;exact et.2 ⟨v,YS (b k _ hk)⟩
  .exact m y hy
def Cl(L:Nat->List P2)(n:Nat)(c:dW):Prop:=∀j x w,j<n->c[j]?=some (x,w)->∀z∈L x.1,has c (cB x z)=true
theorem rE(A:f0∈p)(B:∀f,∀z∈L f,z.1∈p):∀n,Tr L p f0 (runN L f0 n)/\Cl L n (runN L f0 n)
 |0=>⟨Tr.start A,λ_ _ _ h=>absurd h (Nat.not_lt_zero _)⟩
 |n+1=>by
  obtain⟨t,cl⟩:=rE A B n;rw[runN];split
  .rename_i e a
   obtain⟨x,w⟩:=e;obtain⟨C,b,E⟩:=vZ (L x.1) t a λz hz=>⟨hz,B _ z hz⟩
   refine⟨C,λj y v F hy z hz=>?_⟩;by_cases hl:j<n
   .have g:j<(runN L f0 n).length:=by have:=(YC.1 a).1;omega
    have l:=b j _ (ZD g);have m:(Ef L (runN L f0 n) x)[j]?=some (y,v):=hy;have r:(runN L f0 n)[j]'g=(y,v):=Yi (l.symm.trans m);obtain⟨u,hu⟩:=et.1 (cl j y v hl (by rw[ZD g,r]) z hz);obtain⟨k,hk⟩:=XT hu;exact et.2 ⟨u,YS (b k _ hk)⟩
   .obtain rfl:j=n:=by omega
    have l:=b j _ a;have m:(Ef L (runN L f0 j) x)[j]?=some (y,v):=hy;have r:=Yi (l.symm.trans m);cases r;exact E z hz
  .rename_i hn
   have hl:=XR.1 hn;exact⟨t,λj x w F hx=>cl j x w (by have:=(YC.1 hx).1;omega) hx⟩
theorem wa{n:Nat}(h:(runN L f0 n).length<=n):∀k,runN L f0 (n+k)=runN L f0 n
 |0=>rfl
 |k+1=>by
  rw[←Nat.add_assoc,runN];have e:=wa h k;rw[show(runN L f0 (n+k))[n+k]?=none by rw[e,XR];omega];exact e
def br(L:Nat->List P2)(p:Zj)(f0:Nat):dW:=runN L f0 (2*p.length)
theorem GP(h:(runN L f0 n).length<=n)(hn:n<=2*p.length):runN L f0 n=br L p f0:=by
 unfold br;rw[show 2*p.length=n+(2*p.length-n) by omega,wa h]
theorem rG(b:f0∈p)(g:∀f,∀z∈L f,z.1∈p):Tr L p f0 (br L p f0)/\∀x,has (br L p f0) x=true->∀z∈L x.1,has (br L p f0) (cB x z)=true:=by
 obtain⟨t,cl⟩:=rE b g (2*p.length);refine⟨t,λx hx z hz=>?_⟩;obtain⟨w,hw⟩:=et.1 hx;obtain⟨j,a⟩:=XT hw
 have:=(YC.1 a).1
 have:=t.len
 exact cl j x w (by unfold br at *;omega) a z hz
inductive Up (c:dW):P2->List P2->Prop where
 |root {x:P2}:(x,none)∈c->Up c x [x]
 |more {x y:P2}{l:List P2}:(x,some y)∈c->Up c y l->Up c x (x::l)
theorem Tr.up(h:Tr L p f0 c):∀(n k:Nat) (x:P2) (w:Option P2),k<n->c[k]?=some (x,w)->∃l,Up c x l/\l.length<=k+1
 |0,_,_,_,hk,_=>absurd hk (Nat.not_lt_zero _)
 |n+1,k,x,w,hk,e=>by
  by_cases a:k=0
  .subst a
   rw[h.fst] at e;cases e;exact⟨_,.root (YS h.fst),YF _⟩
  .obtain⟨j,y,v,z,f,rfl,b,_⟩:=h.par k x w e a
   obtain⟨l,hl,hz⟩:=Tr.up h n j y v 'a' b;exact⟨_,.more (YS e) hl,by rw[YI];omega⟩
theorem Tr.up_of(h:Tr L p f0 c)(hx:has c x=true):∃l,Up c x l/\l.length<=2*p.length:=by
 obtain⟨w,hw⟩:=et.1 hx;obtain⟨k,hk⟩:=XT hw;obtain⟨l,h1,a⟩:=h.up (k+1) k x w (Nat.lt_succ_self _) hk
 have:=(YC.1 hk).1
 have:=h.len
 exact⟨l,h1,by omega⟩
def Fw(L:Nat->List P2)(a b:P2):Prop:=(b.1,a.2 != b.2)∈L a.1
def GQ(h:(c.map (·.1)).Nodup){v:Option P2}(h1:(x,v)∈c)(f:(x,w)∈c):v=w:=by
 induction c with
 |nil=>cases h1
 |cons e c g=>
  rw[YK,YN] at h;rcases ZZ.1 h1 with a | a<;>rcases ZZ.1 f with b | b
  .rw[←a] at b;cases b;rfl
  .exact absurd (XX.2 ⟨_,b,by rw[←a]⟩) h.1
  .exact absurd (XX.2 ⟨_,a,by rw[←b]⟩) h.1
  .exact g h.2 a b
theorem Tr.step(h:Tr L p f0 c){y:P2}(hx:(x,some y)∈c):Fw L y x:=by
 obtain⟨k,hk⟩:=XT hx;by_cases a:k=0
 .subst a;rw[h.fst] at hk;cases hk
 .obtain⟨j,g,v,z,l,b,m,f,rfl⟩:=h.par k x _ hk a
  cases b;unfold Fw cB;have:(y.2 != (y.2 != z.2))=z.2:=by cases y.2<;>cases z.2<;>rfl
  rw[this];exact f
theorem Tr.root(h:Tr L p f0 c)(hx:(x,none)∈c):x=(f0,false):=by
 obtain⟨k,hk⟩:=XT hx;by_cases a:k=0
 .subst a;rw[h.fst] at hk;cases hk;rfl
 .obtain⟨j,f,v,z,g,b,_⟩:=h.par k x _ hk a
  cases b
theorem Up.head{l:List P2}(h:Up c x l):l.head?=some x:=by cases h<;>rfl
theorem Tr.way(h:Tr L p f0 c){l:List P2}(u:Up c x l):l.getLast?=some (f0,false)/\(∀y∈l,y.1∈p)/\∀i a b,l[i]?=some a->l[i+1]?=some b->Fw L b a:=by
 induction u with
 |root hx=>
  refine⟨by rw[h.root hx];rfl,λy hy=>?_,λi a b _ e=>?_⟩
  .rw[XM.1 hy];exact h.inp _ hx
  .rw[List.getElem?_cons_succ] at e;cases e
 |@more x y l hx u j=>
  obtain⟨k,m,r⟩:=j;refine⟨?_,λz hz=>?_,λi a b g f=>?_⟩
  .rw[List.getLast?_cons,k];rfl
  .rcases ZZ.1 hz with rfl | hz
   .exact h.inp _ hx
   .exact m z hz
  .cases i with
   |zero=>
    cases g;rw[List.getElem?_cons_succ,←List.head?_eq_getElem?,u.head] at f;cases f;exact h.step hx
   |succ i=>exact r i a b g f
def GR(E:f0∈p)(B:∀f,∀z∈L f,z.1∈p)(F:∀f∈p,b8 (λa b=>∃k,(b,k)∈L a) f0 f/\b8 (λa b=>∃k,(b,k)∈L a) f f0)(hn:has (br L p f0) (f0,true)=false):
  ∀f∈p,∀z∈L f,has (br L p f0) (z.1,true)=(has (br L p f0) (f,true) != z.2):=by
 obtain⟨t,cl⟩:=rG E B;have go:∀{a b:Nat},b8 (λa b=>∃k,(b,k)∈L a) a b->∃s:Bool,∀q,has (br L p f0) (a,q)=true->has (br L p f0) (b,q != s)=true:=by
  intro a b r;induction r with
  |refl f=>exact⟨false,λq h=>by rw[Bool.bne_false];exact h⟩
  |step e _ G=>
   obtain⟨k,hk⟩:=e;obtain⟨s,hs⟩:=G;refine⟨k != s,λq h=>?_⟩
   have:=hs _ (cl (_,q) h _ hk)
   rw[show(q != (k != s))=((q != k) != s) by cases q<;>cases k<;>cases s<;>rfl];exact this
 have first:has (br L p f0) (f0,false)=true:=et.2 ⟨_,YS t.fst⟩
 have j:∀f∈p,has (br L p f0) (f,false) = !has (br L p f0) (f,true):=by
  intro f A;obtain⟨r1,r2⟩:=F f A;obtain⟨s,hs⟩:=go r1;obtain⟨u,hu⟩:=go r2;have h1:=hs false first
  cases e1:has (br L p f0) (f,false)<;>cases e2:has (br L p f0) (f,true)
  .cases s
   .have h1:has (br L p f0) (f,false)=true:=h1
    rw[e1] at h1;cases h1
   .have h1:has (br L p f0) (f,true)=true:=h1
    rw[e2] at h1;cases h1
  .rfl
  .rfl
  .have l:=hu false e1
   have m:=hu true e2;cases u
   .have m:has (br L p f0) (f0,true)=true:=m
    rw[hn] at m;cases m
   .have l:has (br L p f0) (f0,true)=true:=l
    rw[hn] at l;cases l
 intro f A z hz;have I:=B f z hz;have J:=j f A;have C:=j z.1 I;have K:=cl (f,false);have O:=cl (f,true);obtain⟨g,k⟩:=z;cases e1:has (br L p f0) (f,true)
 .have:=K (by rw[J,e1];rfl) _ hz
  cases k
  .have:has (br L p f0) (g,false)=true:=this
   rw[C] at this;cases e2:has (br L p f0) (g,true)
   .rfl
   .rw[e2] at this;cases this
  .exact this
 .have:=O e1 _ hz
  cases k
  .exact this
  .have:has (br L p f0) (g,false)=true:=this
   rw[C] at this;cases e2:has (br L p f0) (g,true)
   .rfl
   .rw[e2] at this;cases this
end
end SG
namespace SG
open PySem L2 DD
open SH
section
variable {cn:Cn}{ds:List D}{M:MH}{Q:DK}
def lQ:Ss:=#v[.ret (.bi .all #v[.comp 1 (.cmp .Eq (.bin .BitAnd (.ix (.var 1) (.var 4)) (.inv (.var 3))) (.int 0)) (.nm 4) (.seq (.var 0)) .no])]
def kh:Ss:=.cons (.set 3 (.bin .BitOr (.var 2) (.fn 0 #v[.var 0]))) lQ
def jV:aK:=λds M Q=>∃(p ls:Zj) (a:Addr) (dn:Nat),ds=[.tup (nats p),.ref a,⇑dn]/\M a=some (.lst (nats ls))/\(∀x∈p,x<ls.length)/\ls.length<=120/\∀M',ae M M'->Q (.bl (kf ls p dn)) M'
def zR{l:Zj}{f:Nat}(h:f<l.length):bY (nats l) (f:Int)=some (.int ((l.getD f 0:Nat):Int)):=bQ (by
 unfold nats;rw[ZG,ZD h,List.getD_eq_getElem?_getD,ZD h];rfl)
def Jl(ls:Zj)(k:Nat):D->D
 |.int x=>.bl (decide (cu (ls.getD x.toNat 0) k=0))
 |_=>.non
theorem xZ(ls:Zj)(k:Nat):∀p:List Nat,ji ((nats p).map (Jl ls k))=some (p.map λx=>decide (cu (ls.getD x 0) k=0))
 |[]=>rfl
 |x::p=>by
  have a:=xZ ls k p;unfold nats at a ⊢;rw[YK,YK,show Jl ls k (⇑x)=.bl (decide (cu (ls.getD x 0) k=0)) from rfl,ji,a];rfl
theorem wQ(f0:cn.F.getD 0 'f'=fY)(h:jV ds M Q):wSs cn kh (fin Q) (az ["","","",""] ds) M:=by
 obtain⟨p,ls,a,dn,rfl,ha,hp,hl,q⟩:=h;show wSs cn kh (fin Q) [some (.tup (nats p)),↑a,~~~dn,none] M;unfold kh;simp! only[List.set,f0];refine⟨_,p,M,rfl,.inl ⟨rfl,rfl⟩,λf b=>by have:=hp f b;omega,?_⟩;simp! only[kI];unfold lQ;simp! only[y7,List.cons_append,List.nil_append,List.replicate];refine bC (f:=Jl ls (dn|||cw p)) (ok:=λσ=>∃v,σ=[some (.tup (nats p)),↑a,~~~dn,some (.int ((dn|||cw p:Nat):Int)),v]) [] _ ⟨none,rfl⟩ ?_ ?_
 .intro d hd σ e_ rest ⟨v,hv⟩ k
  subst hv;obtain⟨x,hx,rfl⟩:=XX.1 hd;have k1:=k _ ⟨~~~x,rfl⟩;rw[aq];simp! only[y7,List.set,ha,zR (hp x hx),zM];refine⟨⟨rfl,rfl,YL _⟩,trivial,?_⟩;rw[ah,show(((cu (ls.getD x 0) (dn|||cw p):Nat):Int)==0)=decide (cu (ls.getD x 0) (dn|||cw p)=0) by
   by_cases h:cu (ls.getD x 0) (dn|||cw p)=0
   .rw[h];rfl
   .rw[ZP h];exact beq_false_of_ne 'a']
  exact k1
 .intro g c
  rw[List.nil_append,aa];simp only[xZ];rw[List.all_map];exact q _ (ae.new c)
end
end SG
namespace SH
open PySem L2 DD
variable {rs:Zj}{i x:Nat}{M':MH}{m:Int}{r:Addr}
def cellAt(ns:Zi)(k:Nat):Int:=(ns[k]?).getD 0
def lC:aK:=λds M Q=>∃(a:Addr) (ns:Zi) (k:Nat),ds=[.ref a,⇑k]/\M a=some (.rol (ns.map .int))/\Q (.int (cellAt ns k)) M
theorem ExtBut.put{p:Addr}{o:MO}{M:MH}(h:ExtBut p M M')(b:M r=none):ExtBut p M (ab M' r o):=λa u n q=>by
 have:a≠r:=λz=>by subst z;rw[b] at q;cases q
 rw[aJ this];exact h a u n q
def jv:Ss:=#v[.ret (.int 0)]
def gN:Ss:=.cons (.ite (.cmp .Lt (.var 1) (.bi .len #v[.var 0])) #v[.ret (.ix (.var 0) (.var 1))] .nil) jv
theorem pR{y:Int}(h:0<m):0<=y%m/\y%m<m:=⟨Int.emod_nonneg _ 'a',Int.emod_lt_of_pos _ h⟩
def zS(x y:D):bY [x,y] 0=some x:=bg x [y]
def zT(x y:D):bY [x,y] 1=some y:=bH x y []
def Fc(x y:D):ku ([x,y]:List D).length 0=some 0:=rfl
section
variable {cn:Cn}{ds:List D}{M:MH}{Q:DK}
theorem zU(h:lC ds M Q):wSs cn gN (fin Q) (az ["",""] ds) M:=by
 obtain⟨a,ns,k,rfl,b,q⟩:=h;show wSs cn gN (fin Q) [↑a,~~~k] M;unfold gN;simp! only[b,ZF];unfold cellAt at q;refine r0 (λc=>?_) (λc=>?_)
 .have hk:k<ns.length:=by omega
  rw[bQ (by rw[ZG,ZD hk];rfl)];rw[ZD hk] at q;exact q
 .have hk:ns.length<=k:=by omega
  rw[ZI hk] at q;unfold jv;simp! only[];exact q
end
theorem du(m:Nat):bv 0 (m:Int)=nats (List.range m):=by
 unfold bv nats;rw[show((m:Int)-0).toNat=m by omega];refine ZN λi _=>?_
 rw[Int.zero_add]
def io(fs:Zj):nats fs=bu (fs.map λ(f:Nat)=>(f:Int)):=by unfold nats bu;rw[ZM];rfl
def zV(ls:Zj)(i:Nat):(nats ls).eraseIdx i=nats (ls.eraseIdx i):=by
 unfold nats;induction ls generalizing i with
 |nil=>rfl
 |cons a r b=>
  cases i with
  |zero=>rfl
  |succ i=>rw[YK,List.eraseIdx_cons_succ,List.eraseIdx_cons_succ,YK,b]
theorem rH{b:Type}:∀{l:List b}{i:Nat}{x:b},l[i]?=some x->(x::l.eraseIdx i).Perm l
 |[],_,_,h=>by simp at h
 |a::l,0,x,h=>by
  rw[List.getElem?_cons_zero] at h;cases h;exact List.Perm.refl _
 |a::l,i+1,x,h=>by
  rw[List.getElem?_cons_succ] at h;rw[List.eraseIdx_cons_succ];exact(List.Perm.swap _ _ _).trans ((rH h).cons a)
theorem wR(h:rs.Nodup):(rs.map λ(f:Nat)=>(f:Int)).Nodup:=by
 unfold List.Nodup;rw[XZ];exact List.Pairwise.imp (λh z=>h 'a') h
structure Drawn (m:Nat) (rs fs:Zj):Prop where
 nd:(fs++rs).Nodup
 lt:∀f∈fs++rs,f<m
 len:fs.length+rs.length=m
theorem Drawn.pop{m:Nat}{fs:Zj}(h:Drawn m rs fs)(hx:rs[i]?=some x):Drawn m (rs.eraseIdx i) (fs++[x]):=by
 have hp:(fs++[x]++rs.eraseIdx i).Perm (fs++rs):=by
  rw[ZB];exact List.Perm.append_left _ (rH hx)
 have hl:=hp.length_eq;refine⟨hp.nodup_iff.2 h.nd,λf a=>h.lt f (hp.mem_iff.1 a),?_⟩
 have:=h.len
 simp only[ZK] at hl ⊢;omega
end SH
namespace SG
open PySem L2 DD
open SH
variable {a p2 p1:Addr}{M:MH}{x:Int×Bool}{m:Nat}
section
variable {cn:Cn}{ds:List D}{M:MH}{Q:DK}
def fq:Ss:=#v[.ret (.var 1)]
def cR:Ss:=#v[.set 1 (.comp 1 (.ite (.val (.fn 0 #v[.var 3,.var 2])) (.bin .BitOr (.var 3) (.ix (.var 1) (.var 2))) (.var 3)) (.nm 3) (.seq (.var 1)) .no)]
def iO:Ss:=.cons (.for (.nm 2) (.rg1 #v[.bi .len #v[.var 1]]) cR) fq
def gw:Ss:=.cons (.set 1 (.comp 2 (.bin .BitOr (.var 4) (.bin .LShift (.int 1) (.var 3))) (.tp [3,4]) (.enum #v[.var 0]) .no)) iO
def jW:aK:=λds M Q=>∃(a:Addr) (ls:Zj),ds=[.ref a]/\M a=some (.lst (nats ls))/\ls.length<=120/\∀p M',M p=none->ae M M'->M' p=some (.lst (nats (a9 ls ls.length)))->Q (.ref p) M'
def Fd:D->D
 |.tup [.int i,.int x]=>.int (Builtin.bitOr x (1*2 ^ i.toNat))
 |_=>.non
def GS(i x:Nat):Fd (.tup [.int ((0:Int)+(i:Int)),⇑x])=.int ((x|||2 ^ i:Nat):Int):=by
 show D.int (Builtin.bitOr (x:Int) (1*2 ^ ((0:Int)+(i:Int)).toNat))=_;rw[←kI];simp
def GT(ls:Zj):(bx 0 (nats ls)).map Fd=nats (a9 ls 0):=by
 refine List.ext_getElem? λi=>?_
 rw[ZG];cases e:(bx 0 (nats ls))[i]? with
 |none=>
  rw[XR,dN] at e;rw[ZI]
  .rfl
  .unfold nats at e ⊢
   rw[ZF,fP];simpa using e
 |some x=>
  obtain⟨d,h1,rfl⟩:=il e;unfold nats at h1;rw[ZG] at h1;cases e2:ls[i]? with
  |none=>rw[e2] at h1;cases h1
  |some y=>
   rw[e2] at h1;cases h1;show some (Fd _)=_;rw[GS];unfold nats a9;rw[ZG,List.getElem?_mapIdx,e2,Nat.one_shiftLeft];rfl
def Jm(rs:Zj)(k:Nat):D->D
 |.int x=>.int ((if(x.toNat).testBit k=true then x.toNat|||rs.getD k 0 else x.toNat:Nat):Int)
 |_=>.non
def GU(rs:Zj)(k:Nat):(nats rs).map (Jm rs k)=nats (vW rs k):=by
 unfold nats vW;rw[ZM,ZM];rfl
theorem rJ (f0:cn.F.getD 0 'f' = jL) (h:jW ds M Q):wSs cn gw (fin Q) (az ["","",""] ds) M:=by
  obtain ⟨a,ls,rfl,ha,hl,q⟩:=h
  show wSs cn gw (fin Q) [↑a,none,none] M
  unfold gw
  simp! only [List.cons_append,List.nil_append,List.replicate,ha]
  refine bC (f:=Fd) (ok:=λσ=>∃ v w,σ = [↑a,none,none,v,w]) [] _ ⟨none,none,rfl⟩ ?_ ?_
  . intro d hd σ e_ rest ⟨v,w,hv⟩ k
    subst hv
    obtain ⟨i,hi⟩:=XT hd
    obtain ⟨d',h1,rfl⟩:=il hi
    unfold nats at h1
    rw [ZG] at h1
    cases e2:ls[i]? with
    | none=>rw [e2] at h1; cases h1
    | some y=>
      rw [e2] at h1
      cases h1
      have R:i < ls.length:=(YC.1 e2).1
      have k1:=k _ ⟨some (.int ((0:Int) + (i:Int))),~~~y,rfl⟩
      rw [aq]
      simp! only [List.set]
      exact ⟨rfl,⟨by omega (splitDisjunctions:=true),by omega (splitDisjunctions:=true),by decide⟩,ha,k1⟩
  rw [List.nil_append,GT]
  intro p hp
  have C:ae M (ab M p (.lst (nats (a9 ls 0)))):=ae.new hp
  have A:ab M p (MO.lst (nats (a9 ls 0))) p = some (.lst (nats (a9 ls 0))):=aa
  generalize ab M p (MO.lst (nats (a9 ls 0))) = M1 at *
  unfold iO
  simp! only [List.set,A]
  have G:(nats (a9 ls 0)).length = ls.length:=by unfold nats; rw [ZF,fP]
  rw [G,du]
  have body:∀ (E:cG) (k:Nat) (p:Addr) (v:Zy) (b:MH),k < ls.length->M p = none->ae M b->b p = some (.lst (nats (a9 ls k)))->(∀ c r l,M c = none->ae M l->l c = some (.lst (nats (a9 ls (k + 1))))->E.nx [↑a,↑c,r] l)->wSs cn cR E [↑a,↑p,~~~k] b:=by
    intro E k p v b hk hp j g kk
    unfold cR
    simp! only [List.cons_append,List.nil_append,List.replicate,g,f0]
    have I:k < (a9 ls k).length:=by rw [fP]; exact hk
    refine bC (f:=Jm (a9 ls k) k) (ok:=λσ=>∃ v,σ = [↑a,↑p,~~~k,v]) [] _ ⟨none,rfl⟩ ?_ ?_
    . intro d hd σ e_ rest ⟨v,hv⟩ J
      subst hv
      obtain ⟨y,hy,rfl⟩:=XX.1 hd
      have k1:=J _ ⟨~~~y,rfl⟩
      have e:Jm (a9 ls k) k (⇑y) = .int ((if y.testBit k = true then y ||| (a9 ls k).getD k 0 else y:Nat):Int):=rfl
      rw [e] at k1
      rw [aq]
      simp! only [List.set]
      refine ⟨_,_,rfl,by omega,?_⟩
      rw [lu]
      cases hb:y.testBit k with
      | true=>
        rw [hb,if_pos rfl] at k1
        simp! only [g,zR I,kI]
        exact ⟨trivial,k1⟩
      | false=>
        rw [hb,if_neg YE] at k1
        simp! only []
        exact ⟨g,k1⟩
    . rw [List.nil_append,GU]
      intro c B
      have K:M c = none:=j.free B
      exact kk c _ _ K (j.then B) aa
  have t:∀ (n k:Nat),k + n = ls.length->∀ (p:Addr) (v:Zy) (b:MH),M p = none->ae M b->b p = some (.lst (nats (a9 ls k))) ->
      aC (λ_=>True) (.nm 2) (wSs cn cR) { nx:=wSs cn fq (fin Q),rt:=Q } (nats (List.range' k n)) [↑a,↑p,v] b:=by
    intro n
    induction n with
    | zero=>
      intro k hk p v b hp j g
      rw [show nats (List.range' k 0) = [] from rfl,aC]
      unfold fq
      simp! only []
      have:k = ls.length:=by omega
      subst this
      exact q p b hp j g
    | succ n L=>
      intro k hk p v b hp j g
      rw [show nats (List.range' k (n + 1)) = ⇑k :: nats (List.range' (k + 1) n) from rfl,aC]
      exact body _ k p v b 'a' hp j g λc r l h1 O P=>⟨trivial,L (k + 1) 'a' c r l h1 O P⟩
  refine ⟨by have:(2000:Nat) < sizeLine:=by decide
             omega,?_⟩
  rw [List.range_eq_range']
  exact t ls.length 0 'a' p none M1 hp C A
end
section
variable {cn:Cn}{ds:List D}{M:MH}{Q:DK}
def dw:Ss:=#v[.ret (.var 1)]
def gD:Ss:=#v[.set 2 (.bin .BitOr (.var 2) (.fn 1 #v[.var 5]))]
def gE:Ss:=.cons (.expr (.mt .append (.var 1) #v[.var 5])) gD
def cz:Ss:=#v[.ite (.not (.val (.fn 0 #v[.var 2,.var 3]))) (.cons (.set 5 (.bi .tuple #v[.comp 1 (.var 6) (.nm 6) (.seq (.fn 2 #v[.var 4])) (.yes (.val (.fn 0 #v[.ix (.var 0) (.var 6),.var 3])))])) gE) .nil]
def gF:Ss:=.cons (.for (.tp [3,4]) (.enum #v[.var 0]) cz) dw
def gG:Ss:=.cons (.set 2 (.int 0)) gF
def fu:Ss:=.cons (.set 1 (.lst .nil)) gG
def ay(p:Zj):D:=.tup (nats p)
def x4(S:Nat->Nat->Bool)(m k:Nat):(bB S m k).length<=k:=by
 unfold bB;rw[ZF];exact ZW (List.length_filter_le _ _) (by rw[ZJ];exact YF _)
def Jn(rs:Zj)(k:Nat):D->Bool
 |.int o=>(rs.getD o.toNat 0).testBit k
 |_=>false
def jX:aK:=λds M Q=>∃(a:Addr) (ls rs:Zj),ds=[.ref a]/\M a=some (.lst (nats rs))/\Walk ls rs/\ls.length<=120/\∀p M',M p=none->ae M M'->M' p=some (.lst ((bB (aV rs) ls.length ls.length).map ay))->Q (.ref p) M'
theorem oH(f0:cn.F.getD 0 'f'=jL)(W:cn.F.getD 1 'f'=fY)(Y:cn.F.getD 2 'f'=jM)(h:jX ds M Q):wSs cn fu (fin Q) (az ["","","","","",""] ds) M:=by
 obtain⟨a,ls,rs,rfl,ha,w,hl,q⟩:=h;show wSs cn fu (fin Q) [↑a,none,none,none,none,none] M;have O:=w.eqv;have hsz:(2000:Nat)<sizeLine:=by decide
 unfold fu;simp! only[List.set];intro b C;have R:ae M (ab M b (.lst [])):=ae.new C;have Z:ab M b (MO.lst []) b=some (.lst ((bB (aV rs) ls.length 0).map ay)):=aa;generalize ab M b (MO.lst [])=M1 at *;unfold gG;simp! only[List.set];unfold gF;simp! only[List.set,R _ _ ha];have body:∀(E:cG) (k placed x:Nat) (g:Zy) (c:MH),k<ls.length->rs[k]?=some x->ae M c->c b=some (.lst ((bB (aV rs) ls.length k).map ay))->lP (aV rs) ls.length k placed ->
   (∀A G j,ae M j->j b=some (.lst ((bB (aV rs) ls.length (k+1)).map ay))->lP (aV rs) ls.length (k+1) A->E.nx [↑a,↑b,~~~A,~~~k,~~~x,G] j) ->
   wSs cn cz E [↑a,↑b,~~~placed,~~~k,~~~x,g] c:=by
  intro E k placed x g c hk hx n r P kk;unfold cz;simp! only[List.set,f0,Y,List.cons_append,List.nil_append,List.replicate];refine⟨_,_,rfl,by omega,?_⟩;rw[lu,P.free O hk];cases hf:fQ (aV rs) k with
  |false=>
   simp! only[Bool.not_false,Bool.not_true]
   have:=kk placed g c n (by rw[Ea hf];exact r) (P.skip O hk hf)
   exact this
  |true=>
   simp! only[Bool.not_false,Bool.not_true];have S:rs.getD k 0=x:=by rw[List.getD_eq_getElem?_getD,hx];rfl
   have t:∀o,x.testBit o=true->o<ls.length:=λo ho=>b8.lt w.low ((w.ok k o hk).1 (by rw[S];exact ho)) hk
   have xl:x<2 ^ ls.length:=Nat.lt_pow_two_of_testBit x λi hi=>by
    cases z:x.testBit i with
    |false=>rfl
    |true=>have:=t i z;omega
   refine⟨x,rfl,ZR xl (Nat.pow_le_pow_right 'c' 'a'),λp2 j C' T I=>?_⟩;have Oy:=n.trans T;simp! only[I];refine ci (p:=Jn rs k) (ok:=λσ=>∃v,σ=[↑a,↑b,~~~placed,~~~k,~~~x,g,v]) [] _ ⟨none,rfl⟩ ?_ ?_
   .intro d hd σ e_ rest ⟨v,hv⟩ k0
    subst hv;obtain⟨o,ho,rfl⟩:=XX.1 hd;have ol:o<rs.length:=by rw[w.len];exact t o ((vL _ _).1 ho)
    have k1:=k0 _ ⟨~~~o,rfl⟩;rw[show Jn rs k (⇑o)=(rs.getD o 0).testBit k from rfl] at k1;rw[aq];simp! only[List.set,Oy _ _ ha,zR ol];refine⟨_,_,rfl,by omega,?_⟩;rw[lu];cases hb:(rs.getD o 0).testBit k with
    |true=>
     rw[hb] at k1;simp! only[];exact⟨I,k1⟩
    |false=>
     rw[hb] at k1;simp! only[];rw[show e_++cond false [D.int (o:Int)] []=e_ from ZA e_] at k1;exact⟨I,k1⟩
   .have ep:(nats (mX x)).filter (Jn rs k)=nats (cls (aV rs) ls.length k):=by
     rw[←Ee w hk,part,S];unfold nats;rw[List.filter_map];rfl
    rw[List.nil_append,ep];intro p3 NL;have U:ae c (ab j p3 (.lst (nats (cls (aV rs) ls.length k)))):=T.then NL;rw[aa];generalize ab j p3 (MO.lst (nats (cls (aV rs) ls.length k)))=B at *;have g7:=U _ _ r;have n7:ae M B:=n.trans U;simp! only[bM];unfold gE;simp! only[List.set,g7];have Wj:=x4 (aV rs) ls.length k;refine⟨rfl,by rw[ZF];omega,?_⟩;have e8:ae M (ab B b (.lst ((bB (aV rs) ls.length k).map ay++[.tup (nats (cls (aV rs) ls.length k))]))):=n7.put C;have g8:ab B b (MO.lst ((bB (aV rs) ls.length k).map ay++[.tup (nats (cls (aV rs) ls.length k))])) b=some (.lst ((bB (aV rs) ls.length (k+1)).map ay)):=by
     rw[aa,Eb hf,ZL];rfl
    generalize ab B b (MO.lst ((bB (aV rs) ls.length k).map ay++[.tup (nats (cls (aV rs) ls.length k))]))=V at *;unfold gD;simp! only[List.set,W];refine⟨_,cls (aV rs) ls.length k,V,rfl,.inl ⟨rfl,rfl⟩,λf SM=>by have:=(cj.1 SM).1;omega,?_⟩;simp! only[kI];refine kk (placed|||cw (cls (aV rs) ls.length k)) _ V e8 g8 (P.take λo ho=>?_);rw[cM,decide_eq_true_iff,cj];exact⟨λz=>z.2,λz=>⟨ho,z⟩⟩
 have J:∀(rest:Zj) (k:Nat),rs.drop k=rest->k+rest.length=ls.length->∀(placed:Nat) (K L g:Zy) (c:MH),ae M c->c b=some (.lst ((bB (aV rs) ls.length k).map ay))->lP (aV rs) ls.length k placed ->
   aC (λM'=>M' a=some (.lst (nats rs))) (.tp [3,4]) (wSs cn cz) { nx:=wSs cn dw (fin Q),rt:=Q } (bx (k:Int) (nats rest)) [↑a,↑b,~~~placed,K,L,g] c:=by
  intro rest;induction rest with
  |nil=>
   intro k _ hk placed K L g c n r P;rw[show nats []=[] from rfl,bx,aC];unfold dw;simp! only[];have:k=ls.length:=by simpa using hk
   subst this;exact q b c C n r
  |cons x rest ih=>
   intro k hd hk placed K L g c n r P;rw[YI] at hk;rw[show nats (x::rest)=⇑x::nats rest from rfl,bx,aC];refine⟨rfl,?_⟩;have hx:rs[k]?=some x:=by
    have:=congrArg (λl=>l[0]?) hd
    simpa using this
   have MB:rs.drop (k+1)=rest:=by
    have:=congrArg List.tail hd
    simpa using this
   refine body _ k placed x g c 'a' hx n r P λA G j h1 h2 h3=>⟨h1 _ _ ha,?_⟩
   exact ih (k+1) MB 'a' A _ _ G j h1 h2 h3
 have P0:lP (aV rs) ls.length 0 0:=λo ho=>by
  rw[Nat.zero_testBit];exact⟨λz=>(nomatch z),λ⟨x,hx,_⟩=>absurd hx (Nat.not_lt_zero x)⟩
 exact J rs 0 rfl (by rw[w.len];omega) 0 none none none M1 R Z P0
end
def eJ:List (Int×Bool)->MO
 |[]=>.dic []
 |k::ks=>.prs (k::ks)
def BA(ks:List (Int×Bool))(k:Int×Bool):∃k' b,putP ks k=k'::b:=by
 unfold putP;split
 .rename_i h
  cases ks with
  |nil=>cases h
  |cons a l=>exact⟨a,l,rfl⟩
 .cases ks with
  |nil=>exact⟨k,[],rfl⟩
  |cons a l=>exact⟨a,l++[k],rfl⟩
def x5{x:Int}{y:Bool}{Q:MH->Prop}{ks:List (Int×Bool)}(h:M a=some (eJ ks))(hl:ks.length<sizeLine)(q:Q (ab M a (eJ (putP ks (x,y))))):qL (.ref a) (.tup [.int x,.bl y]) (.bl true) M Q:=by
 unfold qL;obtain⟨k',c,e⟩:=BA ks (x,y);rw[e] at q;cases ks with
 |nil=>
  have b:putP [] (x,y)=[(x,y)]:=by unfold putP;simp
  rw[b] at e;cases e;simp only[h,eJ];exact q
 |cons k ks=>
  simp only[h,eJ];rw[e];exact⟨hl,q⟩
def Eg{Q:DK}{ks:List (Int×Bool)}(h:M a=some (eJ ks))(hl:ks.length<=63)(q:∀(p:Addr) (b:List (Int×Bool)),M p=none->b.Perm ks->b.Pairwise (λx y=>TS.cZ x<=TS.cZ y)->Q (.ref p) (ab M p (.lst (b.map pD)))):jk [.ref a] M Q:=by
 unfold jk;cases ks with
 |nil=>
  simp only[h,eJ];intro p hp;exact q p [] hp (.refl _) .nil
 |cons k ks=>
  simp only[h,eJ];exact⟨hl,q⟩
def o7(b_:Zx)(l:Zj):List (Int×Bool):=l.flatMap λr=>((b_[r]?.map cQ).getD []).map λz=>(z.2,z.1)
def bA(b_:Zx)(f:Nat):List (Int×Bool):=(o7 b_ (em (aQ b_) b_.length f)).foldl putP []
def wb{ks:List (Int×Bool)}{k:Int×Bool}:x∈putP ks k↔x∈ks\/x=k:=by
 unfold putP;split
 .rename_i h
  exact⟨.inl,λz=>z.elim id λe=>e▸h⟩
 .rw[YA,XM]
theorem gO:∀(l ks:List (Int×Bool)),ks.Nodup->(l.foldl putP ks).Nodup/\∀x,x∈l.foldl putP ks↔x∈ks\/x∈l
 |[],ks,h=>⟨h,λx=>⟨.inl,λz=>z.elim id λz=>nomatch z⟩⟩
 |k::l,ks,h=>by
  obtain⟨h1,b⟩:=gO l (putP ks k) (lj k h);refine⟨h1,λx=>?_⟩;rw[List.foldl_cons,b x,wb,ZZ,or_assoc]
theorem jY{ks:List (Int×Bool)}(h:ks.Nodup)(b:∀k∈ks,0<=k.1/\k.1<(m:Int)):ks.length<=2*m:=by
 have inj:∀x∈ks,∀y∈ks,x.1.toNat*2+(b2i x.2).toNat=y.1.toNat*2+(b2i y.2).toNat->x=y:=by
  intro x hx y hy e;obtain⟨j,c⟩:=x;obtain⟨l,f⟩:=y;have hx:=b _ hx;have hy:=b _ hy;dsimp only at *;have g:j=l/\c=f:=by
   cases c<;>cases f<;>simp[b2i] at e ⊢ <;> omega
  rw[g.1,g.2]
 have nd:(ks.map λk=>k.1.toNat*2+(b2i k.2).toNat).Nodup:=by
  rw[List.Nodup,XZ];refine List.Pairwise.imp_of_mem ?_ h;intro x y hx hy ne e;exact ne (inj x hx y hy e)
 have:=vY (n:=2*m) nd λz hz=>by
  obtain⟨k,hk,rfl⟩:=XX.1 hz
  have:=b k hk
  have p:(b2i k.2).toNat<=1:=by cases k.2<;>decide
  omega
 rwa [ZF] at this
section
variable {cn:Cn}{c:CA}{S:Addr}{ds:List D}{M:MH}{Q:DK}
def cT:Ss:=#v[.ret (.bk .sortedB #v[.var 2])]
def fv:Ss:=#v[.putP (.var 2) (.var 4) (.bl true)]
def fw:Ss:=#v[.for (.nm 4) (.seq (.ix (.fld (.var 0) "leanings") (.var 3))) fv]
def iP:Ss:=.cons (.for (.nm 3) (.seq (.ix (.fld (.var 0) "headed") (.var 1))) fw) cT
def gx:Ss:=.cons (.set 2 .dnew) iP
def gP(c:CA)(S:Addr):aK:=λds M Q=>∃(a:Addr) (m:Nat) (b_:Zx) (f:Nat),ds=[.ref a,⇑f]/\c7 c S M a m b_/\f<m/\∀p M' (b:List (Int×Bool)),M p=none->ae M M'->b.Perm (bA b_ f)->b.Pairwise (λx y=>TS.cZ x<=TS.cZ y)->M' p=some (.lst (b.map pD))->Q (.ref p) M'
def GV{b_:Zx}{u_:Zs}:(rC m b_ u_ p1 p2 a).lookup ("leanings" : Str)=↑p2:=rfl
theorem BB(V:∀f∈m7,cn.O S f)(h:gP c S ds M Q):wSs cn gx (fin Q) (az ["","","","",""] ds) M:=by
 obtain⟨a,m,b_,f,rfl,⟨ok,u_,p1,p2,p3,Mu,Mm,NH,h1,-,⟨h3,h4,W⟩,⟨h6,Y⟩,-⟩,hf,q⟩:=h;show wSs cn gx (fin Q) [↑a,~~~f,none,none,none] M;have hz:Mu[f]?=some (Mu[f]' 'a'):=ZD 'a';have hsz:(4000:Nat)<sizeLine:=by decide
 unfold gx;simp! only[List.set];intro d hd;have K:ae M (ab M d (MO.dic [])):=ae.new hd;have g1:ab M d (MO.dic []) d=some (eJ []):=aa;generalize ab M d (MO.dic [])=M1 at *;unfold iP;simp! only[List.set,K _ _ h1,Bv,K _ _ h3,i6 hz,K _ _ (W f _ hz)];refine⟨V _ (by rfl'),?_⟩;have Ql:M Mu[f]=some (.lst (nats (em (aQ b_) b_.length f))):=W f _ hz;have few:∀{ks:List (Int×Bool)},ks.Nodup->(∀k∈ks,0<=k.1/\k.1<(m:Int))->ks.length<=60:=λnd b=>by
  have:=jY nd b
  have:=ok.most
  omega
 have C:∀(g:MH->Prop) (E:cG) (r:Nat),(∀M',ae M M'->g M')->∀(l:Zr) (ks:List (Int×Bool)) (v:Zy) (j:MH),ae M j->j d=some (eJ ks)->ks.Nodup->(∀k∈ks,0<=k.1/\k.1<(m:Int))->(∀z∈l,0<=z.2/\z.2<(m:Int)) ->
   (∀Z n,ae M n->n d=some (eJ ((l.map λz=>(z.2,z.1)).foldl putP ks))->E.nx [↑a,~~~f,↑d,~~~r,Z] n) ->
   aC g (.nm 4) (wSs cn fv) E (l.map pairD) [↑a,~~~f,↑d,~~~r,v] j:=by
  intro g E r hg l;induction l with
  |nil=>
   intro ks v j A F nd b _ kk;rw[YY,aC];exact kk v j A F
  |cons z l P=>
   intro ks v j A F nd b bl kk;rw[YK,aC];unfold fv;simp! only[List.set];have hk:=few nd b;refine x5 (x:=z.2) (y:=z.1) F 'a' ?_;have B:ae M (ab j d (eJ (putP ks (z.2,z.1)))):=A.put hd;refine⟨hg _ B,P (putP ks (z.2,z.1)) _ _ B aa (lj _ nd) (λk hk=>?_) (λy hy=>bl y (.tail _ hy)) kk⟩;rcases wb.1 hk with z' | rfl
   .exact b k z'
   .exact bl z (.head _)
 have fit:∀(r:Nat) (x:Row),b_[r]?=some x->∀z∈cQ x,0<=z.2/\z.2<(m:Int):=λr x hx z hz=>by
  unfold cQ at hz;obtain⟨t,ht,Wk⟩:=List.mem_flatMap.1 hz;exact fZ ((ok.fit x (YS hx)).2.2 t ht) z Wk
 have outer:∀(l:Zj) (ks:List (Int×Bool)) (I J:Zy) (j:MH),(∀r∈l,r<b_.length)->ae M j->j d=some (eJ ks)->ks.Nodup->(∀k∈ks,0<=k.1/\k.1<(m:Int)) ->
   (∀R T n,ae M n->n d=some (eJ ((o7 b_ l).foldl putP ks))->((o7 b_ l).foldl putP ks).length<=60->wSs cn cT (fin Q) [↑a,~~~f,↑d,R,T] n) ->
   aC (λM'=>M' Mu[f]=some (MO.lst (nats (em (aQ b_) b_.length f)))) (.nm 3) (wSs cn fw) { nx:=wSs cn cT (fin Q),rt:=Q } (nats l) [↑a,~~~f,↑d,I,J] j:=by
  intro l;induction l with
  |nil=>
   intro ks I J j _ A F nd b kk;rw[show nats []=[] from rfl,aC];exact kk I J j A F (few nd b)
  |cons r l P=>
   intro ks I J j L A F nd b kk;have G:=L r (.head _);have hx:b_[r]?=some (b_[r]'G):=ZD G;have hp:Mm[r]?=some (Mm[r]'(by rw[Y.1];exact G)):=ZD _;have hq:=Y.2 r _ _ hp hx;rw[show nats (r::l)=⇑r::nats l from rfl,aC];unfold fw;simp! only[List.set,A _ _ h1,GV,A _ _ h6,i6 hp,A _ _ hq];refine⟨V _ (by rfl'),?_⟩;refine C _ _ r (λM' e'=>e' _ _ hq) (cQ (b_[r]'G)) ks _ j A F nd b (fit r _ hx) λZ n B U=>⟨B _ _ Ql,?_⟩
   obtain⟨n1,n2⟩:=gO ((cQ (b_[r]'G)).map λz=>(z.2,z.1)) ks nd;refine P _ _ _ n (λx hx=>L x (.tail _ hx)) B U n1 (λk hk=>?_) λR T M7 e7 g7 Wl=>?_
   .rcases(n2 k).1 hk with z | z
    .exact b k z
    .obtain⟨y,hy,rfl⟩:=XX.1 z
     exact fit r _ hx y hy
   .have ef:o7 b_ (r::l)=((cQ (b_[r]'G)).map λz=>(z.2,z.1))++o7 b_ l:=by
     unfold o7;rw[List.flatMap_cons,hx];rfl
    refine kk R T M7 e7 ?_ ?_
    .rw[ef,List.foldl_append];exact g7
    .rw[ef,List.foldl_append];exact Wl
 refine outer _ [] none none M1 (λr L=>?_) K g1 XW (λk hk=>nomatch hk) λI J n B U hl=>?_
 .exact ZV.1 (ZU.1 L).1
 .unfold cT
  simp! only[tE];refine Eg U 'a' λp ms hp h8 h9=>?_
  exact q p _ ms (B.free hp) (B.then hp) h8 h9 aa
end
end SG
namespace SH
open PySem L2 DD
variable {hi:Zp}
theorem GW{c:Type}(xs:List c)(a b:Nat):(cC xs (some (a:Int)) (some (b:Int))).length<=b:=by
 unfold cC;rw[HT.rY,HT.rY,YR];omega
def GX{a:Type}{xs:List a}{lo:Zp}{x:a}(h:x∈cC xs lo hi):x∈xs:=List.mem_of_mem_drop (List.mem_of_mem_take h)
def rK(ns:Zj):aN (nats ns)=true:=by rw[io];exact tF _
def zW(ns:Zj):bm (nats ns)<=30:=by rw[io,pJ];decide
end SH
namespace SG
open PySem L2 DD
open SH
variable {m:Nat}{b_:Zx}
section
variable {cn:Cn}{c:CA}{S:Addr}{ds:List D}{M:MH}{Q:DK}
def lR:Ss:=#v[.ret (.var 3)]
def lS:Ss:=#v[.setC 2 1 (.var 6) (.nm 6) (.seq (.var 2)) (.yes (.cmp .NotEq (.var 6) (.var 5)))]
def lT:Ss:=.cons (.set 4 (.bin .BitOr (.var 4) (.fn 0 #v[.var 5]))) lS
def lU:Ss:=.cons (.expr (.mt .append (.var 3) #v[.var 5])) lT
def lV:Ss:=.cons (.set 5 (.ix (.comp 1 (.var 6) (.nm 6) (.seq (.var 2)) (.yes (.val (.fn 1 #v[.var 6,.var 1,.var 4])))) (.int 0))) lU
def lW:Ss:=.cons (.while (.cmp .Gt (.bi .len #v[.var 2]) (.int 0)) lV) lR
def lX:Ss:=.cons (.set 4 (.int 0)) lW
def lY:Ss:=.cons (.set 3 (.lst .nil)) lX
def lZ:Ss:=.cons (.set 2 (.fn 2 #v[.fn 3 #v[.var 1]])) lY
def kj:Ss:=.cons (.set 1 (.comp 1 (.fn 0 #v[.comp 1 (.ix (.var 7) (.int 0)) (.nm 7) (.seq (.mu "leaned" (.var 0) #v[.var 6])) .no]) (.nm 6) (.rg1 #v[.mu0 "how_many" (.var 0)]) .no)) lZ
def m8(b_:Zx)(f:Nat):Nat:=cw ((bA b_ f).map λk=>k.1.toNat)
def bh(b_:Zx)(m:Nat):List Nat:=(List.range m).map (m8 b_)
def m9(b_:Zx)(m:Nat):List (List Nat):=tJ (bh b_ m) (bB (aV (a9 (bh b_ m) m)) m m) (bB (aV (a9 (bh b_ m) m)) m m).length 0
def oo(c:CA)(S:Addr):aK:=λds M Q=>∃(a:Addr) (m:Nat) (b_:Zx),ds=[.ref a]/\c7 c S M a m b_/\∀p M',M p=none->ae M M'->M' p=some (.lst ((m9 b_ m).map ay))->Q (.ref p) M'
def dh(ok:cx m b_)(f:Nat):∀k∈bA b_ f,0<=k.1/\k.1<(m:Int):=by
 intro k hk;unfold bA at hk;rcases((gO _ [] XW).2 k).1 hk with z | z
 .cases z
 .unfold o7 at z
  obtain⟨r,_,hz⟩:=List.mem_flatMap.1 z;obtain⟨y,hy,rfl⟩:=XX.1 hz;cases e:b_[r]? with
  |none=>rw[e] at hy;cases hy
  |some x=>
   rw[e] at hy;have hy:y∈cQ x:=hy;unfold cQ at hy;obtain⟨t,ht,a⟩:=List.mem_flatMap.1 hy;exact fZ ((ok.fit x (YS e)).2.2 t ht) y a
theorem wc(ok:cx m b_):∀f g,dS (bh b_ m) f g->g<(bh b_ m).length:=by
 intro f g h;unfold dS at h;have hl:(bh b_ m).length=m:=by unfold bh;rw[ZF,ZJ]
 rw[hl];cases e:(bh b_ m)[f]? with
 |none=>rw[List.getD_eq_getElem?_getD,e] at h;exact absurd h (by rw[Option.getD_none,Nat.zero_testBit];exact YE)
 |some x=>
  rw[List.getD_eq_getElem?_getD,e,XE] at h;unfold bh at e;rw[ZG] at e;cases e2:(List.range m)[f]? with
  |none=>rw[e2] at e;cases e
  |some f'=>
   rw[e2] at e;cases e;unfold m8 at h;rw[cM] at h;obtain⟨k,hk,rfl⟩:=XX.1 (XN h)
   have:=dh ok f' k hk
   omega
theorem x9:∀x p:List Nat,ce (nats x) (nats p)=decide (x=p)
 |[],[]=>rfl
 |[],_::_=>rfl
 |_::_,[]=>rfl
 |a::x,b::p=>by
  have f:=x9 x p;show ce (⇑a::nats x) (⇑b::nats p)=_;rw[ce,ah,f];by_cases h:a=b
  .subst h;simp
  .rw[beq_false_of_ne 'a'];simp[h]
def oq(x p:Zj):aU (ay x) (ay p)=decide (x=p):=by
 unfold ay;rw[aU,x9]
def tK(x:Zj):aP (ay x)=true:=by unfold ay;rw[aP];exact rK x
def Eh(x:Zj):db (ay x)<=30:=by
 unfold ay;rw[db,io,pJ];decide
def Fe(p:Zj)(d:D):Bool:=!aU d (ay p)
def Jo:D->D
 |.tup [x,_]=>x
 |_=>.non
def GY{a:List (Int×Bool)}(h:∀y∈a,0<=y.1/\y.1<(m:Int)):(a.map pD).map Jo=nats (a.map λy=>y.1.toNat):=by
 unfold nats;rw[ZM,ZM];refine ZN λy hy=>?_
 show D.int y.1=D.int ((y.1.toNat:Nat):Int);rw[Int.toNat_of_nonneg (h y hy).1]
theorem wU(f0:cn.F.getD 0 'f'=fY)(f1:cn.F.getD 1 'f'=jV)(f2:cn.F.getD 2 'f'=jX)(f3:cn.F.getD 3 'f'=jW)
  (hT:cn.T S "how_many" = some (im c S)) (hL:cn.T S "leaned" = some (gP c S)) (h:oo c S ds M Q):wSs cn kj (fin Q) (az ["","","","","",""] ds) M:=by
 obtain⟨a,m,b_,rfl,A,q⟩:=h;show wSs cn kj (fin Q) [↑a,none,none,none,none,none] M;have hsz:(4000:Nat)<sizeLine:=by decide
 obtain⟨ok,u_,p1,p2,p3,Mu,Mm,NH,h1,-⟩:=A.ext (ae.refl M);have hm:=ok.most;unfold kj;simp! only[List.set,h1,hT,List.cons_append,List.nil_append,List.replicate];refine⟨rfl,a,m,b_,rfl,A,⟨by omega,by omega⟩,?_⟩;rw[du];have SR:∀f,f<m->∀k∈bA b_ f,0<=k.1/\k.1<(m:Int):=λf hf k hk=>dh ok f k hk
 have run:∀(k:Nat) (j:MH) (Z:DK),k<m->ae M j->(∀G,ae j G->Z (.int ((m8 b_ k:Nat):Int)) G) ->
   wE cn (.fn 0 (.cons (.comp 1 (.ix (.var 7) (.int 0)) (.nm 7) (.seq (.mu "leaned" (.var 0) (.cons (.var 6) .nil))) .no) .nil)) [↑a,none,none,none,none,none,~~~k] j Z:=by
  intro k j Z hk r hZ;have A5:=A.ext r;simp! only[List.set,r _ _ h1,hL,f0,List.cons_append,List.nil_append,List.replicate];refine⟨rfl,a,m,b_,k,rfl,A5,by omega,λp B V hp E h8 h9 Y=>?_⟩;simp! only[Y];refine bC (f:=Jo) (ok:=λσ=>∃v,σ=[↑a,none,none,none,none,none,~~~k,v]) [] _ ⟨none,rfl⟩ ?_ ?_
  .intro d hd σ e_ rest ⟨v,hv⟩ k0
   subst hv;obtain⟨y,hy,rfl⟩:=XX.1 hd;have k1:=k0 _ ⟨some (pD y),rfl⟩;rw[aq];simp! only[List.set,pD,bg];exact⟨Y,k1⟩
  .have UI:∀y∈V,0<=y.1/\y.1<(m:Int):=λy hy=>SR k 'a' y (h8.mem_iff.1 hy)
   rw[List.nil_append,GY UI];intro P Mx;have J:ae j (ab B P (.lst (nats (V.map λy=>y.1.toNat)))):=E.then Mx;have g7:ab B P (MO.lst (nats (V.map λy=>y.1.toNat))) P=some (.lst (nats (V.map λy=>y.1.toNat))):=aa;generalize ab B P (MO.lst (nats (V.map λy=>y.1.toNat)))=G at *;refine⟨_,_,G,rfl,.inr ⟨P,rfl,.inl ⟨g7,rfl⟩⟩,λf hf=>?_,?_⟩
   .obtain⟨y,hy,rfl⟩:=XX.1 hf
    have:=UI y hy
    omega
   .have es:cw (V.map λy=>y.1.toNat)=m8 b_ k:=by
     refine Nat.eq_of_testBit_eq λi=>?_
     unfold m8;rw[cM,cM,decide_eq_decide];exact(h8.map _).mem_iff
    rw[es];exact hZ G J
 have step:∀(g:MH->Prop) (F:List D->MH->Prop),(∀M',g M')->(∀j,ae M j->F (nats (bh b_ m)) j)->∀(n k:Nat),k+n=m->∀(v:Zy) (j:MH),ae M j ->
   aq g (.nm 6) (λx M Q=>Q true M) (wE cn (.fn 0 (.cons (.comp 1 (.ix (.var 7) (.int 0)) (.nm 7) (.seq (.mu "leaned" (.var 0) (.cons (.var 6) .nil))) .no) .nil))) F (nats (List.range' k n)) (nats ((List.range k).map (m8 b_))) [↑a,none,none,none,none,none,v] j:=by
  intro g F hg K n;induction n with
  |zero=>
   intro k hk v j r;rw[show nats (List.range' k 0)=[] from rfl,aq];have:k=m:=by omega
   subst this;exact K j r
  |succ n ih=>
   intro k hk v j r;rw[show nats (List.range' k (n+1))=⇑k::nats (List.range' (k+1) n) from rfl,aq];show wE cn (.fn 0 (.cons (.comp 1 (.ix (.var 7) (.int 0)) (.nm 7) (.seq (.mu "leaned" (.var 0) (.cons (.var 6) .nil))) .no) .nil)) [↑a,none,none,none,none,none,~~~k] j λy M2=>g M2/\aq g (.nm 6) (λx M Q=>Q true M) _ F (nats (List.range' (k+1) n)) (nats ((List.range k).map (m8 b_))++[y]) [↑a,none,none,none,none,none,~~~k] M2
   refine run k j _ 'a' r λG J=>⟨hg _,?_⟩
   rw[show nats ((List.range k).map (m8 b_))++[.int ((m8 b_ k:Nat):Int)]=nats ((List.range (k+1)).map (m8 b_)) by rw[List.range_succ,ZL];unfold nats;rw[ZL];rfl];exact ih (k+1) 'a' _ G (r.trans J)
 rw[List.range_eq_range'];refine step _ _ (λ_=>trivial) (λj r=>?_) m 0 'a' none M (ae.refl M);intro C I_;have L:(bh b_ m).length=m:=by unfold bh;rw[ZF,ZJ]
 have Nh:M C=none:=r.free I_;have E:ae M (ab j C (.lst (nats (bh b_ m)))):=r.then I_;have Y:ab j C (MO.lst (nats (bh b_ m))) C=some (.lst (nats (bh b_ m))):=aa;generalize ab j C (MO.lst (nats (bh b_ m)))=B at *;have W:Walk (bh b_ m) (a9 (bh b_ m) m):=by
  have low:∀f g,dS (bh b_ m) f g->g<(bh b_ m).length:=wc ok;refine⟨by rw[fP],low,λf g hf=>?_⟩
  have:=Bw low (f:=f) (g:=g) hf
  rw[L] at this;exact this
 have Wn:=L;unfold lZ;simp! only[List.set,f2,f3];refine⟨C,_,rfl,Y,by omega,λpr G Nm J g7=>?_⟩;rw[L] at g7;refine⟨pr,_,_,rfl,g7,W,by omega,λI M8 Ob U g8=>?_⟩;rw[L] at g8;have UJ:=E.trans (J.trans U);have SS:=(J.trans U) _ _ Y;have Xx:M I=none:=(E.trans J).free Ob;clear r I_ J U Y g7 Nm Ob run step;generalize Mp:bB (aV (a9 (bh b_ m) m)) m m=ps at *;unfold lY;simp! only[List.set];intro t NG;have ne:I≠t:=λz=>by rw[z,NG] at g8;cases g8
 have UK:C≠t:=λz=>by rw[z,NG] at SS;cases SS
 have UL:M t=none:=UJ.free NG;have e9:=UJ.then NG (o:=.lst []);have g9:ab M8 t (MO.lst []) t=some (.lst ([].map ay)):=aa;have Wo:ab M8 t (MO.lst []) I=some (.lst (ps.map ay)):=by rw[aJ ne];exact g8
 have Wq:ab M8 t (MO.lst []) C=some (.lst (nats (bh b_ m))):=by rw[aJ UK];exact SS
 generalize ab M8 t (MO.lst [])=M9 at *;unfold lX;simp! only[List.set];unfold lW;show mS _ _ _ _ _;refine⟨λn σ M'=>∃(dn:Nat) (I:Addr) (out:List (List Nat)) (v5:Zy),σ=[↑a,↑C,↑I,↑t,~~~dn,v5]/\ae M M'/\I≠t/\M' I=some (.lst ((ps.filter (nd dn)).map ay))/\M' t=some (.lst (out.map ay))/\M' C=some (.lst (nats (bh b_ m))) /\
  (ps.filter (nd dn)).length=n/\Dn (a9 (bh b_ m) m) m dn/\out++tJ (bh b_ m) ps n dn=tJ (bh b_ m) ps ps.length 0/\out.length+n=ps.length,?_,?_⟩
 .have ef:ps.filter (nd 0)=ps:=List.filter_eq_self.2 λp _=>by unfold nd;rw[Nat.zero_testBit];rfl
  exact⟨ps.length,0,I,[],none,rfl,e9,ne,by rw[ef];exact Wo,g9,Wq,by rw[ef],Dn.zero,rfl,by simp⟩
 rintro n σ M' ⟨dn,I,out,v5,rfl,e1,Ws,h2,h3,h4,hn,hd,hs,ho⟩;have SU:=x4 (aV (a9 (bh b_ m) m)) m m;rw[Mp] at SU;have ac:∀K:Bool->MH->Prop,K (decide (0<n)) M'->wT cn (.cmp .Gt (.bi .len (.cons (.var 2) .nil)) (.int 0)) [↑a,↑C,↑I,↑t,~~~dn,v5] M' K:=by
  intro K hK;simp! only[h2];rw[ZF,hn];rw[show decide ((0:Int)<((n:Nat):Int))=decide (0<n) by rw[decide_eq_decide];omega];exact hK
 refine ac _ ?_;cases n with
 |zero=>
  rw[show decide (0<0)=false from rfl,aB];dsimp only;unfold lR;simp! only[];refine q t M' UL e1 ?_;rw[h3];have:out=m9 b_ m:=by
   unfold m9;rw[Mp,←hs];simp[tJ]
  rw[this]
 |succ n=>
  rw[show decide (0<n+1)=true from YU 'a',a8];have st:=Ed W (dn:=dn) (n:=n) (by rw[L];exact hd) (by rw[L,Mp];exact hn);simp only[L,Mp] at st;obtain⟨p,s1,s2,s3,s4,s5,s6,s7⟩:=st;have R:∀y∈ps,∀x∈y,x<m:=λy hy x hx=>by
   rw[←Mp] at hy;have qv:=W.eqv;rw[L] at qv;obtain⟨f,_,_,rfl⟩:=(gM qv).1 hy;exact(cj.1 hx).1
  refine⟨λh_ MX=>∃k',k'<n+1/\_,λh_ MX h=>h,?_⟩;have SV:∀(x:Zj) (j:MH) (Z:Bool->MH->Prop),j C=some (.lst (nats (bh b_ m)))->(∀y∈x,y<m)->(∀B,ae j B->Z (kf (bh b_ m) x dn) B) ->
    kE cn (.yes (.val (.fn 1 (.cons (.var 6) (.cons (.var 1) (.cons (.var 4) .nil)))))) [↑a,↑C,↑I,↑t,~~~dn,v5,some (ay x)] j Z:=by
   intro x j Z g5 hx hZ;simp! only[f1];refine⟨x,_,C,dn,rfl,g5,λy hy=>by rw[L];exact hx y hy,by omega,λB E=>?_⟩;exact hZ B E
  have SW:∀(g:MH->Prop) (F:List D->MH->Prop),(∀j,ae M' j->g j)->∀(l:List (List Nat)),(∀y∈l,∀x∈y,x<m)->∀(e_:List D) (v:Zy) (j:MH),ae M' j->(∀B,ae M' B->F (e_++(l.filter λy=>kf (bh b_ m) y dn).map ay) B) ->
    aq g (.nm 6) (kE cn (.yes (.val (.fn 1 (.cons (.var 6) (.cons (.var 1) (.cons (.var 4) .nil))))))) (wE cn (.var 6)) F (l.map ay) e_ [↑a,↑C,↑I,↑t,~~~dn,v5,v] j:=by
   intro g F hg l;induction l with
   |nil=>
    intro _ e_ v j r K;rw[YY,aq]
    have:=K j r
    rw[List.filter_nil,YY,ZA] at this;exact this
   |cons y l ih=>
    intro hy e_ v j r K;rw[YK,aq];refine SV y j _ (r _ _ h4) (hy y (.head _)) λB E=>?_
    cases hb:kf (bh b_ m) y dn with
    |true=>
     rw[a8];refine⟨hg _ (r.trans E),ih (λz hz=>hy z (.tail _ hz)) (e_++[ay y]) _ B (r.trans E) λG J=>?_⟩
     have:=K G J
     rw[List.filter_cons,hb] at this;simpa using this
    |false=>
     rw[aB];refine⟨hg _ (r.trans E),ih (λz hz=>hy z (.tail _ hz)) e_ _ B (r.trans E) λG J=>?_⟩
     have:=K G J
     rw[List.filter_cons,hb] at this;simpa using this
  unfold lV;simp! only[List.set,List.cons_append,List.nil_append,List.replicate,h2];refine SW _ _ (λj r=>r _ _ h2) (ps.filter (nd dn)) (λy hy=>R y (ZU.1 hy).1) [] none M' (ae.refl _) λj r=>?_
  obtain⟨rest,er⟩:∃rest,(ps.filter (nd dn)).filter (λy=>kf (bh b_ m) y dn)=p::rest:=by
   cases er:(ps.filter (nd dn)).filter (λy=>kf (bh b_ m) y dn) with
   |nil=>rw[er] at s4;cases s4
   |cons b l=>rw[er] at s4;cases s4;exact⟨l,rfl⟩
  rw[List.nil_append,er,YK];intro pc Oz;rw[aa];have E:ae M' (ab j pc (.lst (ay p::rest.map ay))):=r.then Oz;generalize ab j pc (MO.lst (ay p::rest.map ay))=B at *;simp only[bg];unfold lU;simp! only[List.set,E _ _ h3];refine⟨rfl,by rw[ZF];omega,?_⟩;have b1:ae M (ab B t (.lst (out.map ay++[ay p]))):=(e1.trans E).put UL;have b2:ab B t (MO.lst (out.map ay++[ay p])) t=some (.lst ((out++[p]).map ay)):=by rw[aa,ZL];rfl
  have b3:ab B t (MO.lst (out.map ay++[ay p])) I=some (.lst ((ps.filter (nd dn)).map ay)):=by rw[aJ Ws];exact E _ _ h2
  have b4:ab B t (MO.lst (out.map ay++[ay p])) C=some (.lst (nats (bh b_ m))):=by rw[aJ UK];exact E _ _ h4
  generalize ab B t (MO.lst (out.map ay++[ay p]))=G at *;unfold lT;simp! only[List.set,f0];refine⟨_,p,G,rfl,.inl ⟨rfl,rfl⟩,λx hx=>by have:=R p s2 x hx;omega,?_⟩;simp! only[kI];unfold lS;simp! only[List.set,List.cons_append,List.nil_append,List.replicate,b3];refine ci (p:=Fe p) (ok:=λσ=>∃v,σ=[↑a,↑C,↑I,↑t,some (.int ((dn|||cw p:Nat):Int)),some (ay p),v]) [] _ ⟨none,rfl⟩ ?_ ?_
  .intro d Na σ e_ OA ⟨v,hv⟩ k0
   subst hv;obtain⟨y,hy,rfl⟩:=XX.1 Na;have k1:=k0 _ ⟨some (ay y),rfl⟩;rw[show Fe p (ay y) = !decide (y=p) by unfold Fe;rw[oq]] at k1;rw[aq];simp! only[List.set,oq];refine⟨⟨tK y,tK p,Eh y⟩,?_⟩;rw[oq];by_cases O:y=p
   .rw[YU O] at k1 ⊢
    rw[show e_++cond (!true) [ay y] []=e_ from ZA e_] at k1;simp only[Bool.not_true,aB];exact⟨b3,k1⟩
   .rw[ZP O] at k1 ⊢
    simp only[Bool.not_false,a8];exact⟨b3,k1⟩
  .have en:((ps.filter (nd dn)).map ay).filter (Fe p)=(ps.filter (nd (dn|||cw p))).map ay:=by
    rw[←s5,List.filter_map];congr 1;refine List.filter_congr λy _=>?_
    show(!aU (ay y) (ay p))=_;rw[oq];by_cases O:y=p<;>simp[O]
   rw[List.nil_append,en];intro P Mx;have np:P≠t:=λz=>by rw[z,b2] at Mx;cases Mx
   have U:=ae.new Mx (o:=.lst ((ps.filter (nd (dn|||cw p))).map ay));refine⟨n,by omega,dn|||cw p,P,out++[p],_,rfl,b1.trans U,np,aa,U _ _ b2,U _ _ b4,s6,s7,?_,by rw[ZK];simp;omega⟩;rw[←hs,tJ,s1];simp
end
end SG
namespace SH
open PySem L2 DD
inductive LY where
 |told
 |tru (turn step row:Nat)
 |fls (turn:Nat)
 |opn (step row:Nat)
def dX(kv:Key×D)(kvs:Zz)(k:Key):cp (kv::kvs) k=if kv.1=k then some kv.2 else cp kvs k:=by
 unfold cp;rw[XB];by_cases h:kv.1=k
 .rw[if_pos h,YU h];rfl
 .rw[if_neg h,ZP h]
theorem wd(k k':Key)(d:D):∀kvs:List (Key×D),cp (kvs.map λkv=>if kv.1=k then(kv.1,d) else kv) k'=if k'=k then(cp kvs k).map (λ_=>d) else cp kvs k'
 |[]=>by split<;>rfl
 |kv::kvs=>by
  rw[YK,dX,wd k k' d kvs,dX,dX];by_cases h1:kv.1=k
  .by_cases a:k'=k
   .subst a;simp[h1]
   .have b:k≠k':=λz=>a z.symm
    simp[h1,a,b]
  .by_cases a:k'=k
   .subst a;simp[h1]
   .simp[h1,a]
theorem we{k:Key}:∀{kvs:Zz},(kvs.any λkv=>decide (kv.1=k))=true->∃d,cp kvs k=some d
 |[],h=>by cases h
 |kv::kvs,h=>by
  rw[dX];by_cases h1:kv.1=k
  .rw[if_pos h1];exact⟨_,rfl⟩
  .rw[if_neg h1]
   rw[XC,ZP h1,Bool.false_or] at h;exact we h
theorem o8(k:Key)(x:Key×D):∀kvs:List (Key×D),(kvs.any λkv=>decide (kv.1=x.1))=false->cp (kvs++[x]) k=if k=x.1 then some x.2 else cp kvs k
 |[],_=>by
  rw[List.nil_append,dX];by_cases h:k=x.1
  .rw[if_pos h,if_pos h.symm]
  .rw[if_neg h,if_neg λz=>h z.symm]
 |kv::kvs,h=>by
  rw[XC,Bool.or_eq_false_iff,decide_eq_false_iff_not] at h;rw[List.cons_append,dX,o8 k x kvs h.2,dX];by_cases h1:kv.1=k
  .rw[if_pos h1,if_pos h1,if_neg λz=>h.1 (h1.trans z)]
  .rw[if_neg h1,if_neg h1]
def Ei(kvs:Zz)(k k':Key)(d:D):cp (putD kvs k d) k'=if k'=k then some d else cp kvs k':=by
 unfold putD;by_cases h:(kvs.any λkv=>decide (kv.1=k))=true
 .rw[if_pos h,wd]
  obtain⟨z,hz⟩:=we h;rw[hz];rfl
 .rw[if_neg h]
  exact o8 k' (k,d) kvs (Bool.eq_false_iff.2 h)
theorem Ej(kvs:Zz)(k:Key)(d:D):(putD kvs k d).length<=kvs.length+1:=by
 unfold putD;split
 .rw[ZF];omega
 .rw[ZK];exact YF _
end SH
namespace SG
open PySem L2 DD
open SH
variable {f i:Nat}{x a:P2}{b_:Zx}{b:Bool}{y:Int×Bool}{cm:dW}{C A:Prop}
section
variable {cn:Cn}{c:CA}{S:Addr}{ds:List D}{M:MH}{Q:DK}
def dy:Ss:=#v[.ret (.var 2)]
def dz:Ss:=#v[.putIx (.var 2) (.var 3) (.comp 1 (.var 4) (.nm 4) (.seq (.mu "leaned" (.var 0) #v[.var 3])) (.yes (.cmp .In (.ix (.var 4) (.int 0)) (.var 1))))]
def gH:Ss:=.cons (.for (.nm 3) (.seq (.var 1)) dz) dy
def fA:Ss:=.cons (.set 2 .dnew) gH
def ip:Ss:=#v[.ret (.var 2)]
def dY:Ss:=#v[.expr (.mt .append (.var 3) #v[.var 8])]
def iq:Ss:=#v[.ite (.inC true (.var 8) (.var 2)) (.cons (.putC (.var 2) (.var 8) (.var 5)) dY) .nil]
def dZ:Ss:=.cons (.set 8 (.tup #v[.var 6,.ite (.val (.var 7)) (.bin .Sub (.int 1) (.ix (.var 5) (.int 1))) (.ix (.var 5) (.int 1))])) iq
def iu:Ss:=#v[.for (.tp [6,7]) (.seq (.ix (.var 0) (.ix (.var 5) (.int 0)))) dZ]
def iw:Ss:=.cons (.set 4 (.bin .Add (.var 4) (.int 1))) iu
def iy:Ss:=.cons (.set 5 (.ix (.var 3) (.var 4))) iw
def iz:Ss:=.cons (.while (.cmp .Lt (.var 4) (.bi .len #v[.var 3])) iy) ip
def iA:Ss:=.cons (.set 4 (.int 0)) iz
def iB:Ss:=.cons (.set 3 (.lst #v[.tup #v[.var 1,.int 0]])) iA
def fR:Ss:=.cons (.set 2 (.camL (.tup #v[.var 1,.int 0]) .non)) iB
theorem Jp{x:Int×Bool}(h:TS.cZ x=TS.cZ y):x=y:=by
 obtain⟨a,b⟩:=x;obtain⟨a',b'⟩:=y;unfold TS.cZ b2i at h;cases b<;>cases b'<;>simp at h ⊢ <;> omega
theorem ya:∀{l g:List (Int×Bool)},l.Perm g->l.Pairwise (λx y=>TS.cZ x<=TS.cZ y)->g.Pairwise (λx y=>TS.cZ x<=TS.cZ y)->l=g
 |[],g,h,_,_=>(List.Perm.eq_nil h.symm).symm
 |a::l,[],h,_,_=>absurd (List.Perm.eq_nil h) (by simp)
 |a::l,b::g,h,s,j=>by
  rw[List.pairwise_cons] at s j;have e:a=b:=by
   rcases ZZ.1 (h.mem_iff.1 (ZX (a:=a) (l:=l))) with z | z
   .exact z
   .rcases ZZ.1 (h.mem_iff.2 (ZX (a:=b) (l:=g))) with y | y
    .exact y.symm
    .exact Jp (Int.le_antisymm (s.1 b y) (j.1 a z))
  subst e;rw[ya (List.perm_cons a |>.1 h) s.2 j.2]
def pS(b_:Zx)(f:Nat):List (Int×Bool):=(bA b_ f).mergeSort λx y=>decide (TS.cZ x<=TS.cZ y)
theorem Jq{g:List (Int×Bool)}(h:g.Perm (bA b_ f))(s:g.Pairwise λx y=>TS.cZ x<=TS.cZ y):g=pS b_ f:=by
 refine ya (h.trans (List.mergeSort_perm _ _).symm) s ?_
 have:=List.pairwise_mergeSort (le:=λx y=>decide (TS.cZ x<=TS.cZ y)) (λa b c h1 j=>by simp only[XQ] at *;omega) (λa b=>by simp only[Bool.or_eq_true,XQ];omega) (bA b_ f)
 exact this.imp λh=>XN h
def sy:y∈pS b_ f↔y∈bA b_ f:=(List.mergeSort_perm _ _).mem_iff
def LK(b_:Zx)(p:Zj)(f:Nat):List (Int×Bool):=(pS b_ f).filter λk=>decide (k.1.toNat∈p)
def toN(G:Nat->List (Int×Bool))(f:Nat):List P2:=(G f).map λk=>(k.1.toNat,k.2)
def wf(M:MH)(d:Addr)(p:Zj)(G:Nat->List (Int×Bool)):Prop:=∃kvs,M d=some (.dic kvs)/\∀f∈p,∃a,cp kvs (.inl (f:Int))=↑a/\M a=some (.lst ((G f).map pD))
theorem wf.ext{M':MH}{p:Zj}{G:Nat->List (Int×Bool)}(h:wf M S p G)(e:ae M M'):wf M' S p G:=
 let⟨kvs,h1,h2⟩:=h;⟨kvs,e _ _ h1,λf g=>let⟨a,a1,a2⟩:=h2 f g;⟨a,a1,e _ _ a2⟩⟩
def ou(c:CA)(S:Addr):aK:=λds M Q=>∃(a:Addr) (m:Nat) (b_:Zx) (p:Zj),ds=[.ref a,ay p]/\c7 c S M a m b_/\(∀x∈p,x<m)/\p.length<=1000/\∀d M',M d=none->ae M M'->wf M' d p (LK b_ p)->Q (.ref d) M'
def Jr(p:Zj)(d:D):Bool:=gC (Jo d) (nats p)
theorem yb{i:Int}(h:0<=i)(p:Zj):gC (.int i) (nats p)=decide (i.toNat∈p):=by
 unfold gC;induction p with
 |nil=>rfl
 |cons a p g=>
  rw[show nats (a::p)=⇑a::nats p from rfl,XC,g,ah];by_cases e:(a:Int)=i
  .subst e;simp
  .rw[beq_false_of_ne e]
   have:i.toNat≠a:=by omega
   simp[this]
theorem Ek(L:cn.T S "leaned" = some (gP c S))(h:ou c S ds M Q):wSs cn fA (fin Q) (az ["","","",""] ds) M:=by
 obtain⟨a,m,b_,p,rfl,A,hp,hl,q⟩:=h;show wSs cn fA (fin Q) [↑a,some (ay p),none,none] M;have hsz:(4000:Nat)<sizeLine:=by decide
 obtain⟨ok,u_,p1,p2,p3,Mu,Mm,NH,h1,-⟩:=A.ext (ae.refl M);unfold fA;simp! only[List.set];intro d hd;have O:ae M (ab M d (MO.dic [])):=ae.new hd;have P:ab M d (MO.dic []) d=some (.dic []):=aa;generalize ab M d (MO.dic [])=M1 at *;have step:∀(l done:Zj) (kvs:Zz) (v:Zy) (j:MH),(∀x∈l,x<m)->ae M j->j d=some (.dic kvs)->kvs.length+l.length<=1000->(∀f∈done,∃b,cp kvs (.inl (f:Int))=↑b/\j b=some (.lst ((LK b_ p f).map pD))) ->
   (∀f∈p,f∈done\/f∈l)->aC (λ_=>True) (.nm 3) (wSs cn dz) { nx:=wSs cn dy (fin Q),rt:=Q } (nats l) [↑a,some (ay p),↑d,v] j:=by
  intro l;induction l with
  |nil=>
   intro done kvs v j _ k n _ hk B;rw[show nats []=[] from rfl,aC];unfold dy;simp! only[];exact q d j hd k ⟨kvs,n,λf g=>hk f ((B f g).resolve_right λz=>nomatch z)⟩
  |cons x l R=>
   intro done kvs v j hx k n U hk B;rw[show nats (x::l)=⇑x::nats l from rfl,aC];unfold dz;have V:=A.ext k;simp! only[List.set,k _ _ h1,L,List.cons_append,List.nil_append,List.replicate];refine⟨rfl,a,m,b_,x,rfl,V,hx x (.head _),λpl r ms I_ E W Y t=>?_⟩;rw[Jq W Y] at t;simp! only[t];have fit:∀y∈pS b_ x,0<=y.1/\y.1<(m:Int):=λy hy=>dh ok x y (sy.1 hy)
   refine ci (p:=Jr p) (ok:=λσ=>∃v,σ=[↑a,some (ay p),↑d,~~~x,v]) [] _ ⟨none,rfl⟩ ?_ ?_
   .intro d' Z σ e_ rest ⟨v,hv⟩ k0
    subst hv;obtain⟨y,hy,rfl⟩:=XX.1 Z;have k1:=k0 _ ⟨some (pD y),rfl⟩;rw[aq];simp! only[List.set,pD,bg,ay];refine⟨⟨rfl,rK p,zW p⟩,?_⟩;have e:Jr p (pD y)=gC (.int y.1) (nats p):=rfl;rw[e] at k1;cases hb:gC (.int y.1) (nats p) with
    |true=>rw[hb] at k1;simp only[a8];exact⟨t,k1⟩
    |false=>
     rw[hb] at k1;rw[show e_++cond false [pD y] []=e_ from ZA e_] at k1;simp only[aB];exact⟨t,k1⟩
   .have ef:((pS b_ x).map pD).filter (Jr p)=(LK b_ p x).map pD:=by
     unfold LK;rw[List.filter_map];congr 1;refine List.filter_congr λy hy=>?_
     exact yb (fit y hy).1 p
    rw[List.nil_append,ef];intro b hb;have Xy:=E;have F:=E _ _ n;have J:d≠b:=λz=>by rw[z,hb] at F;cases F
    have K:ae j (ab r b (.lst ((LK b_ p x).map pD))):=E.then hb;have g7:ab r b (MO.lst ((LK b_ p x).map pD)) b=some (.lst ((LK b_ p x).map pD)):=aa;have Wt:ab r b (MO.lst ((LK b_ p x).map pD)) d=some (.dic kvs):=by rw[aJ J];exact F
    generalize ab r b (MO.lst ((LK b_ p x).map pD))=M7 at *;simp! only[List.set,Wt];rw[YI] at U;refine⟨by omega,trivial,?_⟩;refine R (done++[x]) _ _ _ (λy hy=>hx y (.tail _ hy)) ((k.trans K).put hd) aa (by have:=Ej kvs (.inl (x:Int)) (.ref b);omega) (λf g=>?_) λf g=>?_
    .rw[Ei]
     by_cases G:f=x
     .subst G
      rw[if_pos rfl];exact⟨b,rfl,by rw[aJ (Ne.symm J)];exact g7⟩
     .rw[if_neg (by intro z;exact G (by injection z with z;omega))]
      have SM:f∈done:=by
       rcases YA.1 g with z | z
       .exact z
       .exact absurd (XM.1 z) G
      obtain⟨b',b1,I⟩:=hk f SM;have nb:b'≠d:=λz=>by rw[z,n] at I;cases I
      exact⟨b',b1,by rw[aJ nb];exact K _ _ I⟩
    .rcases B f g with z | z
     .exact .inl (YB _ z)
     .rcases ZZ.1 z with rfl | z
      .exact .inl (YG _ (.head _))
      .exact .inr z
 unfold gH;simp! only[List.set,ay];exact step p [] [] none M1 hp O P (by simpa using hl) (λf g=>nomatch g) λf g=>.inr g
end
section
variable {cn:Cn}{ds:List D}{M:MH}{Q:DK}
def nD(x:P2):D:=.tup [⇑x.1,.int (b2i x.2)]
def Js:Option P2->D
 |none=>.non
 |some y=>nD y
def cN(c:dW):List ((Int×Int)×D):=c.map λe=>(((e.1.1:Int),b2i e.1.2),Js e.2)
def gQ(c:dW):List D:=c.map λe=>nD e.1
def GZ{a:Bool}(h:b2i a=b2i b):a=b:=by cases a<;>cases b<;>first | rfl | exact absurd h 'c'
theorem wg(c:dW)(o:P2):fM (cN c) ((o.1:Int),b2i o.2)=(c.find? λe=>decide (e.1=o)).map λe=>Js e.2:=by
 unfold fM cN;rw[List.find?_map,Option.map_map];congr 2
 funext e;show decide (((e.1.1:Int),b2i e.1.2)=((o.1:Int),b2i o.2))=decide (e.1=o);rw[decide_eq_decide];constructor
 .intro h
  injection h with h1 h2
  exact Prod.ext 'a' (GZ h2)
 .rintro rfl;rfl
def sC(c:dW)(o:P2):(fM (cN c) ((o.1:Int),b2i o.2)).isSome=has c o:=by
 rw[wg,Option.isSome_map,Bool.eq_iff_iff,List.find?_isSome];unfold has;rw[XJ]
def yc{c:dW}{w:Option P2}(nod:(c.map (·.1)).Nodup)(h:(x,w)∈c):fM (cN c) ((x.1:Int),b2i x.2)=some (Js w):=by
 rw[wg];cases e:c.find? λe=>decide (e.1=x) with
 |none=>exact absurd (YU rfl) (List.find?_eq_none.1 e _ h)
 |some y=>
  have h1:=List.find?_some e;have g:=List.mem_of_find?_eq_some e;obtain⟨j,k⟩:=y;have h1:j=x:=XN h1;subst h1;rw[GQ nod g h];rfl
def ow:aK:=λds M Q=>∃(d:Addr) (p:Zj) (G:Nat->List (Int×Bool)) (f0:Nat),ds=[.ref d,⇑f0]/\wf M d p G/\f0∈p/\(∀f,∀k∈G f,0<=k.1/\k.1.toNat∈p)/\p.length<=1000 /\
 ∀c M',M c=none->ae M M'->M' c=some (.cam (cN (br (toN G) p f0)))->Q (.ref c) M'
def Jt{B:Prop}(h1:b=true->A=C)(c:b=false->B=C)(q:C):eI b A B:=by
 cases b with
 |true=>rw[a8,h1 rfl];exact q
 |false=>rw[aB,c rfl];exact q
def Ks(h:0<=y.1)(hb:y.2=true):D.tup [.int y.1,.int (1-b2i x.2)]=nD (cB x (y.1.toNat,y.2)):=by
 unfold nD cB;rw[Int.toNat_of_nonneg h,hb];cases x.2<;>rfl
def Kt(h:0<=y.1)(hb:y.2=false):D.tup [.int y.1,.int (b2i x.2)]=nD (cB x (y.1.toNat,y.2)):=by
 unfold nD cB;rw[Int.toNat_of_nonneg h,hb];cases x.2<;>rfl
theorem El (h:ow ds M Q):wSs cn fR (fin Q) (az ["","","","","","","","",""] ds) M:=by
  obtain ⟨d,p,G,f0,rfl,I,h0,hG,hp,q⟩:=h
  show wSs cn fR (fin Q) [↑d,~~~f0,none,none,none,none,none,none,none] M
  have hsz:(4000:Nat) < sizeLine:=by decide
  have hL:∀ f,∀ z ∈ toN G f,z.1 ∈ p:=λf z hz=>by
    obtain ⟨k,hk,rfl⟩:=XX.1 hz
    exact (hG f k hk).2
  have low:∀ {c:dW},Tr (toN G) p f0 c->c.length<=2000:=λt=>by have:=t.len; omega
  unfold fR
  simp! only [List.set]
  intro m W
  rw [aa]
  refine ⟨rfl,?_⟩
  have e1:ae M (ab (ab M m (.dic [])) m (.cam [(((f0:Int),0),.non)])):=(ae.new W).put W
  have g1:ab (ab M m (.dic [])) m (MO.cam [(((f0:Int),0),.non)]) m = some (.cam (cN (runN (toN G) f0 0))):=aa
  generalize ab (ab M m (.dic [])) m (MO.cam [(((f0:Int),0),.non)]) = M1 at *
  unfold iB
  simp! only [List.set]
  intro J SZ
  have S0:m ≠ J:=λz=>by rw [z,SZ] at g1; cases g1
  have nq:M J = none:=e1.free SZ
  have e2:=e1.then SZ (o:=.lst [.tup [⇑f0,.int 0]])
  have g2:ab M1 J (MO.lst [.tup [⇑f0,.int 0]]) J = some (.lst (gQ (runN (toN G) f0 0))):=aa
  have Wu:ab M1 J (MO.lst [.tup [⇑f0,.int 0]]) m = some (.cam (cN (runN (toN G) f0 0))):=by rw [aJ S0]; exact g1
  generalize ab M1 J (MO.lst [.tup [⇑f0,.int 0]]) = M2 at *
  unfold iA
  simp! only [List.set]
  have A':∀ (g:MH->Prop) (E:cG) (x:P2) (j:Nat) (w:Option P2) (v4:Zy),(∀ M',ae M M'->g M')->∀ (l:List (Int × Bool)) (cm:dW) (r B F:Zy) (L:MH),(∀ k ∈ l,k ∈ G x.1)->Tr (toN G) p f0 cm->cm[j]? = some (x,w)->ae M L->L m = some (.cam (cN cm))->L J = some (.lst (gQ cm)) ->
      (∀ r B F O,ae M O->O m = some (.cam (cN ((l.map λk=>(k.1.toNat,k.2)).foldl (dg x) cm)))->O J = some (.lst (gQ ((l.map λk=>(k.1.toNat,k.2)).foldl (dg x) cm)))->E.nx [↑d,~~~f0,↑m,↑J,v4,some (nD x),r,B,F] O) ->
      aC g (.tp [6,7]) (wSs cn dZ) E (l.map pD) [↑d,~~~f0,↑m,↑J,v4,some (nD x),r,B,F] L:=by
    intro g E x j w v4 hg l
    induction l with
    | nil=>
      intro cm r B F L _ _ _ T P R kk
      rw [YY,aC]
      exact kk r B F L T P R
    | cons k l ih=>
      intro cm r B F L hk t hj T P R kk
      have UO:=hk k (.head _)
      have S1:=hG x.1 k UO
      rw [YK,aC]
      refine ⟨rfl,?_⟩
      unfold dZ
      simp! only [List.set,setM,nD,bg,bH]
      refine Jt (λhb=>by rw [Ks S1.1 hb]) (λhb=>by rw [Kt S1.1 hb]) ?_
      have tb:=t.bin (z:=(k.1.toNat,k.2)) hj (XX.2 ⟨k,UO,rfl⟩) S1.2
      have nx:=ih (dg x cm (k.1.toNat,k.2))
      have lo:=low t
      unfold iq
      simp! only [List.set,setM,nD,P]
      rw [sC cm (cB x (k.1.toNat,k.2))]
      cases hb:has cm (cB x (k.1.toNat,k.2)) with
      | true=>
        have U:dg x cm (k.1.toNat,k.2) = cm:=by unfold dg; rw [if_pos hb]
        rw [U] at nx tb
        simp only [Bool.true_bne,Bool.not_true,aB]
        refine ⟨hg _ T,nx _ _ _ _ (λy hy=>hk y (.tail _ hy)) t hj T P R λr B F O S a b=>?_⟩
        have:=kk r B F O S
        rw [YK,List.foldl_cons,U] at this
        exact this a b
      | false=>
        have U:dg x cm (k.1.toNat,k.2) = cm ++ [(cB x (k.1.toNat,k.2),some x)]:=by unfold dg; rw [if_neg (by rw [hb]; exact YE)]
        have hn:fM (cN cm) (((cB x (k.1.toNat,k.2)).1:Int),b2i (cB x (k.1.toNat,k.2)).2) = none:=by
          have:=sC cm (cB x (k.1.toNat,k.2))
          rw [hb] at this
          exact Option.isSome_eq_false_iff.1 this |> Option.isNone_iff_eq_none.1
        simp only [Bool.true_bne,Bool.not_false,a8,P]
        refine ⟨rfl,⟨hn,by unfold cN; rw [ZF]; omega⟩,?_⟩
        have S:ae M (ab L m (.cam (cN cm ++ [((((cB x (k.1.toNat,k.2)).1:Int),b2i (cB x (k.1.toNat,k.2)).2),nD x)]))):=T.put W
        have Y:ab L m (MO.cam (cN cm ++ [((((cB x (k.1.toNat,k.2)).1:Int),b2i (cB x (k.1.toNat,k.2)).2),nD x)])) m = some (.cam (cN (dg x cm (k.1.toNat,k.2)))):=by
          rw [aa,U]
          unfold cN
          rw [ZL]
          rfl
        have Z:ab L m (MO.cam (cN cm ++ [((((cB x (k.1.toNat,k.2)).1:Int),b2i (cB x (k.1.toNat,k.2)).2),nD x)])) J = some (.lst (gQ cm)):=by rw [aJ (Ne.symm S0)]; exact R
        show wSs cn dY _ _ (ab L m (MO.cam (cN cm ++ [((((cB x (k.1.toNat,k.2)).1:Int),b2i (cB x (k.1.toNat,k.2)).2),nD x)])))
        generalize ab L m (MO.cam (cN cm ++ [((((cB x (k.1.toNat,k.2)).1:Int),b2i (cB x (k.1.toNat,k.2)).2),nD x)])) = O at *
        unfold dY
        simp! only [List.set,Z]
        refine ⟨rfl,by unfold gQ; rw [ZF]; omega,?_⟩
        have e7:=S.put nq (o:=.lst (gQ cm ++ [nD (cB x (k.1.toNat,k.2))]))
        refine ⟨hg _ e7,nx _ _ _ _ (λy hy=>hk y (.tail _ hy)) tb (sx hj) e7 ?_ ?_ λr B F O S a b=>?_⟩
        . rw [aJ S0]; exact Y
        . rw [aa,U]
          unfold gQ
          rw [ZL]
          rfl
        . have:=kk r B F O S
          rw [YK,List.foldl_cons] at this
          exact this a b
  unfold iz
  show mS _ _ _ _ _
  refine ⟨λn σ M'=>∃ (i:Nat) (v5 r B F:Zy),σ = [↑d,~~~f0,↑m,↑J,~~~i,v5,r,B,F]/\ae M M'/\M' m = some (.cam (cN (runN (toN G) f0 i)))/\M' J = some (.lst (gQ (runN (toN G) f0 i)))/\i<=(runN (toN G) f0 i).length/\n + i = 2 * p.length,?_,?_⟩
  . exact ⟨2 * p.length,0,none,none,none,none,rfl,e2,Wu,g2,YL _,by omega⟩
  rintro n σ M' ⟨i,v5,r,B,F,rfl,e3,P,R,hi,hn⟩
  obtain ⟨t,cl⟩:=rE h0 hL i
  have lo:=low t
  have V:∀ K:Bool->MH->Prop,K (decide (i < (runN (toN G) f0 i).length)) M'->wT cn (.cmp .Lt (.var 4) (.bi .len (.cons (.var 3) .nil))) [↑d,~~~f0,↑m,↑J,~~~i,v5,r,B,F] M' K:=by
    intro K hK
    simp! only [R]
    rw [show (gQ (runN (toN G) f0 i)).length = (runN (toN G) f0 i).length by unfold gQ; rw [ZF],show decide (((i:Nat):Int) < (((runN (toN G) f0 i).length:Nat):Int)) = decide (i < (runN (toN G) f0 i).length) by rw [decide_eq_decide]; omega]
    exact hK
  refine V _ ?_
  by_cases F_:i < (runN (toN G) f0 i).length
  . rw [YU F_,a8]
    refine ⟨λh_ MX=>∃ k',k' < n/\_,λh_ MX h=>h,?_⟩
    obtain ⟨⟨x,w⟩,hx⟩:∃ e,(runN (toN G) f0 i)[i]? = some e:=⟨_,ZD F_⟩
    have Um:(gQ (runN (toN G) f0 i))[i]? = some (nD x):=by unfold gQ; rw [ZG,hx]; rfl
    have Wv:bY (gQ (runN (toN G) f0 i)) (i:Int) = some (nD x):=bQ Um
    unfold iy
    simp! only [List.set,R,Wv]
    unfold iw
    simp! only [List.set]
    have UP:x.1 ∈ p:=t.inp _ (YS hx)
    obtain ⟨kvs,i1,i2⟩:=I.ext e3
    obtain ⟨al,i3,i4⟩:=i2 x.1 UP
    obtain ⟨Ww,j1,j2⟩:=I
    obtain ⟨Wx,j3,j4⟩:=j2 x.1 UP
    have Wy:Wx = al:=by
      have:=e3 _ _ j1
      rw [i1] at this
      cases this
      rw [j3] at i3
      cases i3
      rfl
    subst Wy
    unfold iu
    simp! only [List.set,nD,bg,i1,i3,i4]
    refine A' _ _ x i w _ (λM' e'=>e' _ _ j4) (G x.1) (runN (toN G) f0 i) _ _ _ M' (λk hk=>hk) t hx e3 P R λr B F O S Y Z=>?_
    have er:((G x.1).map λk=>(k.1.toNat,k.2)).foldl (dg x) (runN (toN G) f0 i) = runN (toN G) f0 (i + 1):=by
      rw [runN,hx]
      rfl
    rw [er] at Y Z
    have t1:=(rE h0 hL (i + 1)).1
    have f_:i + 1<=(runN (toN G) f0 (i + 1)).length:=by
      rw [← er]
      have:=(vZ (toN G x.1) t hx λz hz=>⟨hz,hL _ z hz⟩).2.1 i _ hx
      exact (YC.1 this).1
    have:=t.len
    exact ⟨n - 1,by omega,i + 1,_,_,_,_,rfl,S,Y,Z,f_,by omega⟩
  . rw [ZP F_,aB]
    dsimp only
    unfold ip
    simp! only []
    refine q m M' W e3 ?_
    have:=t.len
    rw [P,GP (p:=p) 'a' 'a']
end
section
variable {cn:Cn}{ds:List D}{M:MH}{Q:DK}
def l0:Ss:=#v[.ret (.tup #v[.str "odd",.var 5,.var 6])]
def l4:Ss:=.cons (.set 6 (.bi .tuple #v[.comp 2 (.cmp .NotEq (.ix (.var 7) (.int 1)) (.ix (.var 8) (.int 1))) (.tp [7,8]) (.zip #v[.var 4,.sl (.var 4) (.yes (.int 1)) .no]) .no])) l0
def l5:Ss:=.cons (.set 5 (.bi .tuple #v[.comp 1 (.ix (.var 7) (.int 0)) (.nm 7) (.seq (.var 4)) .no])) l4
def l6:Ss:=.cons (.set 4 (.lrev #v[.var 2])) l5
def l7:Ss:=#v[.set 3 (.ixC (.var 0) (.var 3))]
def l9:Ss:=.cons (.expr (.mt .append (.var 2) #v[.var 3])) l7
def ma:Ss:=.cons (.while (.cmp .IsNot (.var 3) .non) l9) l6
def md:Ss:=.cons (.set 3 (.tup #v[.var 1,.int 1])) ma
def kl:Ss:=.cons (.set 2 (.lst .nil)) md
def prs:List P2->List (P2×P2)
 |a::b::l=>(a,b)::prs (b::l)
 |_=>[]
def aZ(l:List P2):List Bool:=(prs l).map λx=>x.1.2 != x.2.2
def Em(l:List P2):D:=.tup [.str "odd",.tup (l.map λx=>⇑x.1),.tup ((aZ l).map .bl)]
def ue:aK:=λds M Q=>∃(c:Addr) (f0:Nat) (cm:dW) (l:List P2),ds=[.ref c,⇑f0]/\M c=some (.cam (cN cm))/\(cm.map (·.1)).Nodup/\Up cm (f0,true) l/\l.length<=2000/\∀M',ae M M'->Q (Em l.reverse) M'
theorem sD:∀(a:P2) (l:List P2),iE ((a::l).map nD) (l.map nD)=(prs (a::l)).map λx=>.tup [nD x.1,nD x.2]
 |a,[]=>rfl
 |a,b::l=>by rw[YK,YK,iE,←YK,sD b l];rfl
def G0{c:Type}(a:c)(l:List c):cC (a::l) (some 1) none=l:=by
 unfold cC HT.aR;simp
def KI:D->D
 |.tup [x,_]=>x
 |_=>.non
def neN:D->D
 |.tup [.tup [_,.int x],.tup [_,.int y]]=>.bl (!(x==y))
 |_=>.non
def Ju(a b:Bool):(!(b2i a==b2i b))=(a != b):=by cases a<;>cases b<;>rfl
theorem Up.ne{l:List P2}(h:Up cm x l):l≠[]:=by cases h<;>simp
theorem Jv (h:ue ds M Q):wSs cn kl (fin Q) (az ["","","","","","",""] ds) M:=by
  obtain ⟨p,f0,cm,l,rfl,Z,nod,u,hl,q⟩:=h
  show wSs cn kl (fin Q) [↑p,~~~f0,none,none,none,none,none] M
  have hsz:(4000:Nat) < sizeLine:=by decide
  unfold kl
  simp! only [List.set]
  intro j O
  have e1:ae M (ab M j (.lst [])):=ae.new O
  have g1:ab M j (MO.lst []) j = some (.lst (([]:List P2).map nD)):=aa
  generalize ab M j (MO.lst []) = M1 at *
  unfold md
  simp! only [List.set]
  unfold ma
  show mS _ _ _ _ _
  refine ⟨λn σ M'=>∃ (done:List P2) (w:D),σ = [↑p,~~~f0,↑j,some w,none,none,none]/\ae M M'/\M' j = some (.lst (done.map nD))/\((w = .non/\done = l/\n = 0) \/ ∃ x r,w = nD x/\Up cm x r/\done ++ r = l/\n = r.length),?_,?_⟩
  . exact ⟨l.length,[],_,rfl,e1,g1,.inr ⟨(f0,true),l,rfl,u,rfl,rfl⟩⟩
  rintro n σ M' ⟨done,w,rfl,P,R,hw⟩
  have t:∀ K:Bool->MH->Prop,K (!lh w) M'->wT cn (.cmp .IsNot (.var 3) .non) [↑p,~~~f0,↑j,some w,none,none,none] M' K:=by
    intro K hK
    simp! only []
    exact ⟨trivial,hK⟩
  refine t _ ?_
  rcases hw with ⟨rfl,rfl,rfl⟩ | ⟨x,r,rfl,ux,I,hn⟩
  . rw [show (!lh .non) = false from rfl,aB]
    dsimp only
    unfold l6
    simp! only [zx,List.set,R,bM]
    intro k NM
    rw [← List.map_reverse]
    have B_:done.reverse ≠ []:=by rw [Ne,List.reverse_eq_nil_iff]; exact u.ne
    have Xz:done.reverse.length<=2000:=by rw [List.length_reverse]; exact hl
    generalize done.reverse = f at *
    have B:=P.then NM (o:=.lst (f.map nD))
    have m:ab M' k (MO.lst (f.map nD)) k = some (.lst (f.map nD)):=aa
    generalize ab M' k (MO.lst (f.map nD)) = M3 at *
    unfold l5
    simp! only [List.set,List.cons_append,List.nil_append,List.replicate,m]
    refine bC (f:=KI) (ok:=λσ=>∃ v,σ = [↑p,~~~f0,↑j,some .non,↑k,none,none,v]) [] _ ⟨none,rfl⟩ ?_ ?_
    . intro d hd σ e_ rest ⟨v,hv⟩ J
      subst hv
      obtain ⟨y,hy,rfl⟩:=XX.1 hd
      have k1:=J _ ⟨some (nD y),rfl⟩
      rw [aq]
      simp! only [List.set,nD,bg]
      exact ⟨m,k1⟩
    rw [List.nil_append,show (f.map nD).map KI = f.map λx=>⇑x.1 by rw [ZM]; rfl]
    intro E S
    have e4:=B.then S (o:=.lst (f.map λx=>⇑x.1))
    have g4:ab M3 E (MO.lst (f.map λx=>⇑x.1)) E = some (.lst (f.map λx=>⇑x.1)):=aa
    have n4:k ≠ E:=λz=>by rw [z,S] at m; cases m
    have G:ab M3 E (MO.lst (f.map λx=>⇑x.1)) k = some (.lst (f.map nD)):=by rw [aJ n4]; exact m
    generalize ab M3 E (MO.lst (f.map λx=>⇑x.1)) = M4 at *
    simp! only [g4,bM]
    obtain ⟨g,c,rfl⟩:∃ g c,f = g :: c:=by
      cases f with
      | nil=>exact absurd rfl B_
      | cons g c=>exact ⟨g,c,rfl⟩
    unfold l4
    simp! only [Dt,List.set,List.cons_append,List.nil_append,List.replicate,G,bM]
    rw [show cC ((g :: c).map nD) (some 1) none = c.map nD from G0 _ _]
    intro F T
    have e5:=e4.then T (o:=.lst (c.map nD))
    have U:ab M4 F (MO.lst (c.map nD)) F = some (.lst (c.map nD)):=aa
    have n5:k ≠ F:=λz=>by rw [z,T] at G; cases G
    have V:ab M4 F (MO.lst (c.map nD)) k = some (.lst ((g :: c).map nD)):=by rw [aJ n5]; exact G
    generalize ab M4 F (MO.lst (c.map nD)) = M5 at *
    simp only [V,U,bM]
    refine ⟨by rw [ZF,ZF,YI]; omega,?_⟩
    refine bC (f:=neN) (ok:=λσ=>∃ v W,σ = [↑p,~~~f0,↑j,some .non,↑k,some (.tup ((g :: c).map λx=>⇑x.1)),none,v,W]) [] _ ⟨none,none,rfl⟩ ?_ ?_
    . intro d hd σ e_ rest ⟨v,W,hv⟩ J
      subst hv
      rw [sD] at hd
      obtain ⟨⟨y,y'⟩,hy,rfl⟩:=XX.1 hd
      have k1:=J _ ⟨some (nD y),some (nD y'),rfl⟩
      rw [aq]
      refine ⟨rfl,?_⟩
      simp! only [ar,au,aD,av,ao,aE,ah,aw,YL,and_self,true_and,and_true,List.set,setM,nD,bH]
      refine ⟨⟨by rw [V],by rw [U]⟩,k1⟩
    rw [List.nil_append,sD,show ((prs (g :: c)).map λx=>D.tup [nD x.1,nD x.2]).map neN = (aZ (g :: c)).map .bl by
      unfold aZ
      rw [ZM,ZM]
      refine ZN λy _=>?_
      show D.bl (!(b2i y.1.2 == b2i y.2.2)) = D.bl (y.1.2 != y.2.2)
      rw [Ju]]
    intro L Q4
    have e6:=e5.then Q4 (o:=.lst ((aZ (g :: c)).map .bl))
    have g6:ab M5 L (MO.lst ((aZ (g :: c)).map .bl)) L = some (.lst ((aZ (g :: c)).map .bl)):=aa
    generalize ab M5 L (MO.lst ((aZ (g :: c)).map .bl)) = M6 at *
    simp! only [g6,bM]
    unfold l0
    simp! only [List.set]
    exact q M6 e6
  . rw [show (!lh (nD x)) = true from rfl,a8]
    refine ⟨λh_ MX=>∃ k',k' < n/\_,λh_ MX h=>h,?_⟩
    have QV:done.length + r.length = l.length:=by rw [← I,ZK]
    unfold l9
    simp! only [List.set,R]
    refine ⟨rfl,by rw [ZF]; omega,?_⟩
    have B:=P.put O (o:=.lst (done.map nD ++ [nD x]))
    have m:ab M' j (MO.lst (done.map nD ++ [nD x])) j = some (.lst ((done ++ [x]).map nD)):=by rw [aa,ZL]; rfl
    generalize ab M' j (MO.lst (done.map nD ++ [nD x])) = M3 at *
    unfold l7
    simp! only [List.set,nD,B _ _ Z]
    cases ux with
    | root hx=>
      rw [yc nod hx]
      exact ⟨0,by rw [hn]; exact Nat.succ_pos _,_,_,rfl,B,m,.inl ⟨rfl,I,rfl⟩⟩
    | @more _ y Y hx uy=>
      rw [yc nod hx]
      exact ⟨Y.length,by rw [hn,YI]; omega,_,_,rfl,B,m,.inr ⟨y,Y,rfl,uy,by rw [← I]; simp,rfl⟩⟩
end
section
variable {cn:Cn}{c:CA}{S:Addr}{ds:List D}{M:MH}{Q:DK}
def nc:Ss:=#v[.ret (.tup #v[.str "even",.bi .tuple #v[.comp 1 (.ite (.inC false (.tup #v[.var 6,.int 1]) (.var 5)) (.int 1) (.int 0)) (.nm 6) (.seq (.var 1)) .no]])]
def ng:Ss:=.cons (.ite (.inC false (.tup #v[.ix (.var 1) (.int 0),.int 1]) (.var 5)) #v[.ret (.fn 0 #v[.var 5,.ix (.var 1) (.int 0)])] .nil) nc
def nh:Ss:=.cons (.set 5 (.fn 1 #v[.var 2,.ix (.var 1) (.int 0)])) ng
def ni:Ss:=.cons (.ite (.not (.val (.bi .any #v[.var 3]))) #v[.ret (.tup #v[.str "ayes"])] .nil) nh
def gy:Ss:=.cons (.ite (.cmp .Eq (.bi .len #v[.var 3]) (.int 0)) #v[.ret (.tup #v[.str "plain"])] .nil) ni
def jw:Ss:=#v[.expr (.mt .extend (.var 3) #v[.comp 2 (.var 7) (.tp [6,7]) (.seq (.ix (.var 2) (.var 4))) .no])]
def nj:Ss:=.cons (.for (.nm 4) (.seq (.var 1)) jw) gy
def nk:Ss:=.cons (.set 3 (.lst .nil)) nj
def lD:Ss:=.cons (.set 2 (.fn 2 #v[.var 0,.var 1])) nk
def bO(G:Nat->List (Int×Bool))(p:Zj):List Bool:=p.flatMap λf=>(G f).map (·.2)
def Ff(cm:dW)(p:Zj):D:=.tup [.str "even",.tup (p.map λf=>.int (b2i (has cm (f,true))))]
def nn(G:Nat->List (Int×Bool))(p:Zj)(r:D):Prop:=
 (bO G p=[]/\r=.tup [.str "plain"])\/(bO G p≠[]/\true∉bO G p/\r=.tup [.str "ayes"]) \/
 (true∈bO G p/\∃f0 t,p=f0::t/\((has (br (toN G) p f0) (f0,true)=true/\∃l,Up (br (toN G) p f0) (f0,true) l/\l.length<=2*p.length/\r=Em l.reverse)\/(has (br (toN G) p f0) (f0,true)=false/\r=Ff (br (toN G) p f0) p)))
def nr(c:CA)(S:Addr):aK:=λds M Q=>∃(a:Addr) (m:Nat) (b_:Zx) (p:Zj) (r:D),ds=[.ref a,ay p]/\c7 c S M a m b_/\(∀x∈p,x<m)/\p.length<=30/\nn (LK b_ p) p r/\∀M',ae M M'->Q r M'
theorem BC:∀l:List Bool,ji (l.map .bl)=some l
 |[]=>rfl
 |b::l=>by rw[YK,ji,BC l];rfl
def KJ:D->D
 |.tup [_,x]=>x
 |_=>.non
def Jw(cm:dW):D->D
 |.int i=>.int (b2i (has cm (i.toNat,true)))
 |_=>.non
theorem Jx{m:Nat}(ok:cx m b_)(p:Zj)(f:Nat):(LK b_ p f).length<=60:=by
 have h1:(LK b_ p f).length<=(pS b_ f).length:=List.length_filter_le _ _;have g:(pS b_ f).length=(bA b_ f).length:=(List.mergeSort_perm _ _).length_eq;have j:=jY (m:=m) (ks:=bA b_ f) (by unfold bA;exact(gO _ [] XW).1) (dh ok f)
 have:=ok.most
 omega
theorem G1(f0:cn.F.getD 0 'f'=ue)(f1:cn.F.getD 1 'f'=ow)(f2:cn.F.getD 2 'f'=ou c S)(h:nr c S ds M Q):wSs cn lD (fin Q) (az ["","","","","",""] ds) M:=by
 obtain⟨a,m,b_,p,r,rfl,A,hp,hl,R,q⟩:=h;show wSs cn lD (fin Q) [↑a,some (ay p),none,none,none,none] M;have hsz:(4000:Nat)<sizeLine:=by decide
 have ok:=A.ok;have gl:=Jx ok p;have fit:∀f,∀k∈LK b_ p f,0<=k.1/\k.1.toNat∈p:=λf k hk=>by
  unfold LK at hk;obtain⟨h1,U⟩:=ZU.1 hk;exact⟨(dh ok f k (sy.1 h1)).1,XN U⟩
 unfold lD;simp! only[List.set,f2];refine⟨a,m,b_,p,rfl,A,hp,by omega,λd M1 hd e1 I1=>?_⟩;generalize LK b_ p=G at *;unfold nk;simp! only[List.set];intro j I_;have e2:=ae.new I_ (o:=.lst []);have g2:ab M1 j (MO.lst []) j=some (.lst (([]:List Bool).map .bl)):=aa;generalize ab M1 j (MO.lst [])=M2 at *;have I:∀(v:Zy) (B:MH),ae M1 B->B j=some (.lst ((bO G p).map .bl))->wSs cn gy (fin Q) [↑a,some (ay p),↑d,↑j,v,none] B:=by
  intro v B K O;unfold gy;simp! only[List.set,O,ah,ZF];refine⟨⟨rfl,rfl,YL _⟩,?_⟩;have P:=e1.trans K;rcases R with⟨z,rfl⟩ | R
  .rw[z]
   exact q B P
  .have B_:bO G p≠[]:=by
    rcases R with z | z
    .exact z.1
    .exact λy=>by rw[y] at z;exact nomatch z.1
   have V:((((bO G p).length:Nat):Int)==0)=false:=by
    have:=List.length_pos_iff.2 B_
    exact beq_false_of_ne 'a'
   rw[V,aB];unfold ni;simp! only[List.set,O,mL,BC];rcases R with⟨_,z,rfl⟩ | ⟨z,g,t,rfl,R⟩
   .have:(bO G p).any id=false:=by
     rw[Bool.eq_false_iff];intro y;obtain⟨b,h1,U⟩:=XJ.1 y;exact z (by rw[show b=true from U] at h1;exact h1)
    rw[this];exact q B P
   .have:(bO G (g::t)).any id=true:=XJ.2 ⟨true,z,rfl⟩
    rw[this];simp only[Bool.not_true,aB];unfold nh;simp! only[List.set,f1,ay];rw[show nats (g::t)=⇑g::nats t from rfl];simp only[bg];refine⟨d,g::t,G,g,rfl,I1.ext K,.head _,fit,by omega,λpc M7 Oz e7 W=>?_⟩;have hv:∀x:Nat,(fM (cN (br (toN G) (g::t) g)) ((x:Int),(1:Int))).isSome=has (br (toN G) (g::t) g) (x,true):=λx=>sC _ (x,true)
    have nod:=(rG (L:=toN G) (p:=g::t) (f0:=g) (.head _) λf z hz=>by
     obtain⟨k,hk,rfl⟩:=XX.1 hz;exact(fit f k hk).2).1.nod
    generalize br (toN G) (g::t) g=cm at *;unfold ng;simp! only[List.set,bg,W,hv,f0];rcases R with⟨Y,l,u,UT,rfl⟩ | ⟨Y,rfl⟩
    .rw[Y]
     simp only[Bool.false_bne,a8];exact⟨pc,g,cm,l,rfl,W,nod,u,by omega,λZ e8=>q Z (P.trans (e7.trans e8))⟩
    .rw[Y]
     simp only[Bool.false_bne,aB];unfold nc;simp! only[List.set,List.cons_append,List.nil_append,List.replicate];rw[show D.int (g:Int)::nats t=nats (g::t) from rfl];refine bC (f:=Jw cm) (ok:=λσ=>∃w,σ=[↑a,some (.tup (nats (g::t))),↑d,↑j,v,↑pc,w]) [] _ ⟨none,rfl⟩ ?_ ?_
     .intro y hy σ e_ rest ⟨w,hw⟩ k0
      subst hw;obtain⟨f,hf,rfl⟩:=XX.1 hy;have k1:=k0 _ ⟨~~~f,rfl⟩;rw[aq];simp! only[List.set,W,hv];have k2:Jw cm (⇑f)=.int (b2i (has cm (f,true))):=by show D.int (b2i (has cm (((f:Nat):Int).toNat,true)))=_;rw[YV]
      rw[k2] at k1;cases hb:has cm (f,true) with
      |true=>rw[hb] at k1;exact⟨trivial,k1⟩
      |false=>rw[hb] at k1;exact⟨trivial,k1⟩
     .rw[List.nil_append,show(nats (g::t)).map (Jw cm)=(g::t).map λf=>.int (b2i (has cm (f,true))) by
       unfold nats;rw[ZM];rfl]
      intro p8 Ob;have e8:=ae.new Ob (o:=.lst ((g::t).map λf=>.int (b2i (has cm (f,true)))));have g8:ab M7 p8 (MO.lst ((g::t).map λf=>.int (b2i (has cm (f,true))))) p8=some (.lst ((g::t).map λf=>.int (b2i (has cm (f,true))))):=aa;generalize ab M7 p8 (MO.lst ((g::t).map λf=>.int (b2i (has cm (f,true)))))=Z at *;simp! only[g8,bM];exact q Z (P.trans (e7.trans e8))
 have step:∀(l:Zj) (e_:List Bool) (v:Zy) (n:MH),(∀x∈l,x∈p)->ae M1 n->n j=some (.lst (e_.map .bl))->e_.length+60*l.length<=1800->e_++bO G l=bO G p ->
   aC (λ_=>True) (.nm 4) (wSs cn jw) { nx:=wSs cn gy (fin Q),rt:=Q } (nats l) [↑a,some (ay p),↑d,↑j,v,none] n:=by
  intro l;induction l with
  |nil=>
   intro e_ v n _ T E _ p_;rw[show nats []=[] from rfl,aC];refine I v n T ?_;rw[E,←p_];unfold bO;rw[List.flatMap_nil,ZA]
  |cons x l ih=>
   intro e_ v n hx T E V p_;rw[show nats (x::l)=⇑x::nats l from rfl,aC];obtain⟨kvs,i1,i2⟩:=I1.ext T;obtain⟨b,i3,i4⟩:=i2 x (hx x (.head _));unfold jw;simp! only[List.set,List.cons_append,List.nil_append,List.replicate,E,i1,i3,i4];refine⟨rfl,?_⟩;refine bC (f:=KJ) (ok:=λσ=>∃v v',σ=[↑a,some (ay p),↑d,↑j,~~~x,none,v,v']) [] _ ⟨none,none,rfl⟩ ?_ ?_
   .intro y hy σ ac rest ⟨v,v',hv⟩ k0
    subst hv;obtain⟨k,hk,rfl⟩:=XX.1 hy;have k1:=k0 _ ⟨some (.int k.1),some (.bl k.2),rfl⟩;rw[aq];refine⟨rfl,?_⟩;simp! only[List.set,setM];exact⟨i4,k1⟩
   .rw[List.nil_append,show((G x).map pD).map KJ=((G x).map (·.2)).map .bl by rw[ZM,ZM];rfl]
    intro J Q4;have n6:j≠J:=λz=>by rw[z,Q4] at E;cases E
    have K:=T.then Q4 (o:=.lst (((G x).map (·.2)).map .bl));have O:ab n J (MO.lst (((G x).map (·.2)).map .bl)) J=some (.lst (((G x).map (·.2)).map .bl)):=aa;have Wz:ab n J (MO.lst (((G x).map (·.2)).map .bl)) j=some (.lst (e_.map .bl)):=by rw[aJ n6];exact E
    generalize ab n J (MO.lst (((G x).map (·.2)).map .bl))=B at *;simp! only[O,Wz];have hg:=gl x;rw[YI] at V;refine⟨by simp only[ZF];omega,trivial,?_⟩;refine ih (e_++(G x).map (·.2)) _ _ (λy hy=>hx y (.tail _ hy)) (K.put I_) ?_ (by rw[ZK,ZF];omega) ?_
    .rw[aa,ZL]
    .rw[←p_]
     unfold bO;rw[List.flatMap_cons,ZB]
 unfold nj;simp! only[List.set,ay];exact step p [] none M2 (λx hx=>hx) e2 g2 (by simp only[YT];omega) rfl
end
def jx:Ss:=#v[.ret (.and (.bi .isinst #v[.var 0,.ty "int"]) (.not (.bi .isinst #v[.var 0,.ty "bool"])))]
def lE:Ss:=#v[.ret (.tup #v[.ix (.var 0) (.int 0),.sl (.comp 1 (.var 1) (.nm 1) (.seq (.ix (.var 0) (.int 1))) (.yes (.or (.cmp .Eq (.ix (.var 1) (.int 0)) (.str "have")) (.cmp .Eq (.ix (.var 1) (.int 0)) (.str "lack"))))) .no (.yes (.int 2))])]
def kJ:Ss:=#v[.ret (.bl true)]
def kK:Ss:=#v[.ite (.cmp .NotEq (.bin .BitXor (.ix (.var 0) (.mt .index (.var 1) #v[.var 3])) (.bj .int #v[.var 5])) (.ix (.var 0) (.mt .index (.var 1) #v[.var 4]))) #v[.ret (.bl false)] .nil]
def gR:Ss:=.cons (.for (.tp [3,4,5]) (.seq (.var 2)) kK) kJ
def gS:Ss:=.cons (.ite (.or (.cmp .Gt (.bi .len #v[.comp 1 (.var 6) (.nm 6) (.seq (.var 0)) (.yes (.not (.val (.fn 0 #v[.var 6]))))]) (.int 0)) (.cmp .NotEq (.ix (.var 0) (.int 0)) (.int 0))) #v[.ret (.bl false)] .nil) gR
def jy:Ss:=.cons (.ite (.or (.not (.val (.bi .isinst #v[.var 0,.ty "tuple"]))) (.or (.cmp .NotEq (.bi .len #v[.var 0]) (.bi .len #v[.var 1])) (.cmp .NotEq (.comp 1 (.var 6) (.nm 6) (.seq (.var 0)) (.yes (.cmp .NotIn (.var 6) (.lst #v[.int 0,.int 1])))) (.lst .nil)))) #v[.ret (.bl false)] .nil) gS
def gT:aK:=λds M Q=>∃i:Int,ds=[.int i]/\Q (.bl true) M
def BD:CT->Bool
 |.hav _=>true
 |.lck _=>true
 |_=>false
def BE:D->Bool
 |.tup (.str x::_)=>x == "have" || x == "lack"
 |_=>false
def yd(t:CT):BE t.told=BD t:=by
 cases t with
 |hav f=>show(("have" : Str) == "have" || ("have" : Str) == "lack")=true;rfl'
 |lck f=>show(("lack" : Str) == "have" || ("lack" : Str) == "lack")=true;rfl'
 |som n fs=>show(("some" : Str) == "have" || ("some" : Str) == "lack")=false;rfl'
 |led fs k=>show(("lead" : Str) == "have" || ("lead" : Str) == "lack")=false;rfl'
def nu(r:Row):Row:=(r.1,(r.2.filter BD).take 2)
def uf:aK:=λds M Q=>∃(r:Row) (q:Addr),ds=[.tup [⇑r.1,.ref q]]/\M q=some (.lst (r.2.map CT.told))/\∀p M',ae M M'->M' p=some (.lst ((nu r).2.map CT.told))->Q (.tup [⇑r.1,.ref p]) M'
def b9(x:Nat×Nat×Bool):D:=.tup [⇑x.1,.int (x.2.1:Int),.bl x.2.2]
section
variable {cn:Cn}{ds:List D}{M:MH}{Q:DK}
def En(h:gT ds M Q):wSs cn jx (fin Q) (az [""] ds) M:=by
 obtain⟨i,rfl,q⟩:=h;show wSs cn jx (fin Q) [some (.int i)] M;unfold jx;simp! only[fE];refine⟨by decide,?_⟩;rw[show kA "int" "int" = true by decide];simp! only[fE];refine⟨by decide,?_⟩;rw[show kA "int" "bool" = false by decide];exact q
theorem Jy(h:uf ds M Q):wSs cn lE (fin Q) (az [""] ds) M:=by
 obtain⟨r,q1,rfl,hq,q⟩:=h;show wSs cn lE (fin Q) [some (.tup [⇑r.1,.ref q1])] M;unfold lE;simp! only[bg,bH,hq,List.cons_append,List.nil_append,List.replicate];refine ci (p:=BE) (ok:=λσ=>∃v,σ=[some (.tup [⇑r.1,.ref q1]),v]) [] _ ⟨none,rfl⟩ ?_ ?_
 .intro d hd σ e_ rest ⟨v,hv⟩ g
  subst hv;obtain⟨t,ht,rfl⟩:=XX.1 hd;have k1:=g _ ⟨some t.told,rfl⟩;rw[yd] at k1;rw[aq];cases t with
  |hav f=>
   simp_all! only[CT.told,List.set,bg,Fb];exact⟨hq,k1⟩
  |lck f=>
   simp_all! only[CT.told,List.set,bg,zG,zF];exact⟨hq,k1⟩
  |som n fs=>
   simp_all! only[CT.told,List.set,bg,zH,zI];rw[show(cond (BD (CT.som n fs)) [CT.told (CT.som n fs)] []:List D)=[] from rfl,ZA] at k1;exact⟨hq,k1⟩
  |led fs k=>
   simp_all! only[CT.told,List.set,bg,zJ,zK];rw[show(cond (BD (CT.led fs k)) [CT.told (CT.led fs k)] []:List D)=[] from rfl,ZA] at k1;exact⟨hq,k1⟩
 .intro p hp
  have c:=ae.new (o:=MO.lst ([]++(r.2.map CT.told).filter BE)) hp;simp! only[aa,bM,List.nil_append];intro p2 j;have l:cC ((r.2.map CT.told).filter BE) none (some (2:Int))=(nu r).2.map CT.told:=by
   have:=Jh ((r.2.map CT.told).filter BE) 2
   rw[show((2:Nat):Int)=2 from rfl] at this;rw[this,List.filter_map,←List.map_take];unfold nu;congr 3
   funext t;exact yd t
  rw[l];refine q p2 _ ?_ aa;rw[List.nil_append] at c;exact c.then j
theorem nw{g:MH->Prop}{t:dk}{c:WT}{e:WE}{F:List D->MH->Prop}{ok:DS->Prop}{P:MH->Prop}{e_:List D}:∀{xs:List D}(σ:DS) (M:MH),ok σ->P M ->
  (∀x∈xs,∀σ M rest,ok σ->P M->(∀j M',ok j->P M'->aq g t c e F rest e_ j M')->aq g t c e F (x::rest) e_ σ M)->(∀M,P M->F e_ M)->aq g t c e F xs e_ σ M
 |[],σ,M,_,k,_,q=>by rw[aq];exact q M k
 |x::xs,σ,M,h,k,st,q=>st x ZX σ M xs h k λj M' h' l=>nw j M' h' l (λy hy=>st y (.tail _ hy)) q
theorem wj{p:Zj}(h:f∈p):∃j,(nats p).findIdx? (λd=>aU d (⇑f))=some j/\p[j]?=some f:=by
 induction p with
 |nil=>cases h
 |cons a p c=>
  rw[show nats (a::p)=⇑a::nats p from rfl,List.findIdx?_cons,ah];by_cases e:a=f
  .subst e
   exact⟨0,by simp,rfl⟩
  .obtain⟨j,h1,g⟩:=c ((ZZ.1 h).resolve_left λz=>e z.symm)
   refine⟨j+1,?_,g⟩;rw[beq_false_of_ne 'a',h1];rfl
def cK(s:Nat->Bool)(p:Zj):List D:=p.map λf=>.int (b2i (s f))
def ox:aK:=λds M Q=>∃(s:Nat->Bool) (p:Zj) (c:Addr) (g:List (Nat×Nat×Bool)) (j:Nat) (t:Zj),ds=[.tup (cK s p),ay p,.ref c]/\M c=some (.lst (g.map b9))/\p=j::t/\s j=false /\
 (∀x∈g,x.1∈p/\x.2.1∈p/\s x.2.1=(s x.1 != x.2.2))/\∀M',ae M M'->Q (.bl true) M'
def Ku(a b:Bool):Builtin.bitXor (b2i a) (if b=true then 1 else 0)=b2i (a != b):=by cases a<;>cases b<;>rfl'
theorem Ep(f0:cn.F.getD 0 'f'=gT)(h:ox ds M Q):wSs cn jy (fin Q) (az ["","","","","",""] ds) M:=by
 obtain⟨s,p,r,A',S,t,rfl,T,V,W,Y,q⟩:=h;show wSs cn jy (fin Q) [some (.tup (cK s p)),some (ay p),↑r,none,none,none] M;have len:(cK s p).length=(nats p).length:=by unfold cK nats;rw[ZF,ZF]
 have one:∀(v:D),v∈cK s p->∃b,v=.int (b2i b):=λv hv=>by
  obtain⟨f,_,rfl⟩:=XX.1 hv;exact⟨_,rfl⟩
 have main:∀(j:MH),ae M j->wSs cn gR (fin Q) [some (.tup (cK s p)),some (ay p),↑r,none,none,none] j:=by
  intro j B;unfold gR;simp! only[List.set,B _ _ T];refine pM (P:=λσ M'=>M'=j/\∃K L O,σ=[some (.tup (cK s p)),some (ay p),↑r,K,L,O]) _ j ⟨rfl,none,none,none,rfl⟩ ?_ ?_
  .rintro x hx σ c N ⟨rfl,K,L,O,rfl⟩ kk
   obtain⟨⟨f,o,k⟩,hk,rfl⟩:=XX.1 hx;obtain⟨h1,Z,h3⟩:=Y _ hk;obtain⟨j1,a1,b1⟩:=wj h1;obtain⟨j2,a2,b2⟩:=wj Z;have c1:bY (cK s p) (j1:Int)=some (.int (b2i (s f))):=bQ (by unfold cK;rw[ZG,b1];rfl);have c2:bY (cK s p) (j2:Int)=some (.int (b2i (s o))):=bQ (by unfold cK;rw[ZG,b2];rfl);refine⟨rfl,?_⟩;unfold kK;simp_all! only[List.set,setM,b9,ay,a1,a2,c1,c2,uc,uY,Ku];have e3:(b2i (s f != k)==b2i (s o))=true:=by rw[show s o=(s f != k) from h3];exact XD _
   refine⟨⟨rK p,zW p⟩,⟨rK p,zW p⟩,?_⟩;rw[e3];exact⟨B _ _ T,kk _ _ ⟨rfl,_,_,_,rfl⟩⟩
  .rintro σ c ⟨rfl,K,L,O,rfl⟩
   unfold kJ;simp! only[];exact q c B
 have l:∀(j:MH),ae M j->wSs cn gS (fin Q) [some (.tup (cK s p)),some (ay p),↑r,none,none,none] j:=by
  intro j B;unfold gS;simp! only[List.set,List.cons_append,List.nil_append,List.replicate,f0];refine nw (ok:=λσ=>∃v,σ=[some (.tup (cK s p)),some (ay p),↑r,none,none,none,v]) (P:=ae M) _ j ⟨none,rfl⟩ B ?_ ?_
  .rintro x hx σ c rest ⟨v,rfl⟩ m R
   obtain⟨b,rfl⟩:=one x hx;rw[aq];simp! only[List.set];refine⟨_,rfl,?_⟩;exact⟨trivial,R _ c ⟨_,rfl⟩ m⟩
  .intro c m g E
   have G:=m.then E (o:=.lst []);have I:ab c g (MO.lst []) g=some (.lst []):=aa;generalize ab c g (MO.lst [])=n at *;have e0:bY (cK s p) 0=some (.int 0):=by
    subst V;rw[show cK s (S::t)=.int (b2i (s S))::cK s t from rfl,bg,W];rfl
   simp_all! only[I,e0];exact main n G
 unfold jy;simp_all! only[List.set,List.cons_append,List.nil_append,List.replicate,fE,ay,len];refine⟨by decide,?_⟩;rw[show kA "tuple" "tuple" = true by decide,XD];simp! only[Bool.not_true,aB];refine nw (ok:=λσ=>∃v,σ=[some (.tup (cK s p)),some (.tup (nats p)),↑r,none,none,none,v]) (P:=ae M) _ M ⟨none,rfl⟩ (ae.refl M) ?_ ?_
 .rintro x hx σ c rest ⟨v,rfl⟩ m R
  obtain⟨b,rfl⟩:=one x hx;rw[aq];simp! only[List.set];intro g E;have G:=m.then E (o:=.lst [.int 0,.int 1]);have r7:bM (ab c g (MO.lst [.int 0,.int 1]) g)=some [.int 0,.int 1]:=by rw[aa];rfl
  generalize ab c g (MO.lst [.int 0,.int 1])=n at *;rw[r7];dsimp only;refine⟨⟨rfl,rfl,by show(0:Nat)<=30;decide⟩,?_⟩;rw[show gC (.int (b2i b)) [.int 0,.int 1]=true by cases b<;>rfl'];exact⟨trivial,R _ n ⟨_,rfl⟩ G⟩
 .intro c m g E
  have G:=m.then E (o:=.lst []);have I:ab c g (MO.lst []) g=some (.lst []):=aa;generalize ab c g (MO.lst [])=n at *;intro J U;have n8:g≠J:=λz=>by rw[z,U] at I;cases I
  have e8:=G.then U (o:=.lst []);have g8:ab n J (MO.lst []) J=some (.lst []):=aa;have WH:ab n J (MO.lst []) g=some (.lst []):=by rw[aJ n8];exact I
  generalize ab n J (MO.lst [])=M8 at *;simp! only[g8,WH,bM];refine⟨⟨rfl,rfl,YL _⟩,?_⟩;rw[show ce [] []=true from rfl];exact l M8 e8
end
def kL:Ss:=#v[.ret (.cmp .Eq (.bin .Mod (.bi .len #v[.comp 1 (.var 5) (.nm 5) (.seq (.var 1)) (.yes (.val (.var 5)))]) (.int 2)) (.int 1))]
def gU:Ss:=#v[.ite (.or (.not (.val (.bi .isinst #v[.ix (.var 1) (.var 4),.ty "bool"]))) (.or (.not (.val (.fn 0 #v[.ix (.var 0) (.var 4)]))) (.cmp .NotIn (.tup #v[.ix (.var 0) (.var 4),.ix (.var 0) (.bin .Add (.var 4) (.int 1)),.ix (.var 1) (.var 4)]) (.var 3)))) #v[.ret (.bl false)] .nil]
def kM:Ss:=.cons (.for (.nm 4) (.rg1 #v[.bi .len #v[.var 1]]) gU) kL
def kN:Ss:=.cons (.ite (.or (.cmp .Gt (.bi .len #v[.var 1]) (.bin .Mult (.int 2) (.bi .len #v[.var 2]))) (.cmp .NotEq (.ix (.var 0) (.int 0)) (.ix (.var 0) (.neg (.int 1))))) #v[.ret (.bl false)] .nil) kM
def jz:Ss:=.cons (.ite (.or (.not (.val (.bi .isinst #v[.var 0,.ty "tuple"]))) (.or (.not (.val (.bi .isinst #v[.var 1,.ty "tuple"]))) (.or (.cmp .NotEq (.bi .len #v[.var 0]) (.bin .Add (.bi .len #v[.var 1]) (.int 1))) (.cmp .Eq (.var 1) (.tup .nil))))) #v[.ret (.bl false)] .nil) kN
def kO:Ss:=#v[.ret (.and (.cmp .Eq (.ix (.var 0) (.int 0)) (.str "odd")) (.and (.cmp .Eq (.bi .len #v[.var 0]) (.int 3)) (.fn 0 #v[.ix (.var 0) (.int 1),.ix (.var 0) (.int 2),.var 1,.var 2])))]
def gV:Ss:=.cons (.ite (.and (.cmp .Eq (.ix (.var 0) (.int 0)) (.str "even")) (.cmp .Eq (.bi .len #v[.var 0]) (.int 2))) #v[.ret (.fn 1 #v[.ix (.var 0) (.int 1),.var 1,.var 2])] .nil) kO
def kP:Ss:=.cons (.ite (.cmp .Eq (.bi .len #v[.comp 1 (.var 3) (.nm 3) (.seq (.var 2)) (.yes (.val (.ix (.var 3) (.int 2))))]) (.int 0)) #v[.ret (.cmp .Eq (.var 0) (.tup #v[.str "ayes"]))] .nil) gV
def kQ:Ss:=.cons (.ite (.cmp .Eq (.var 2) (.lst .nil)) #v[.ret (.cmp .Eq (.var 0) (.tup #v[.str "plain"]))] .nil) kP
def jA:Ss:=.cons (.ite (.or (.not (.val (.bi .isinst #v[.var 0,.ty "tuple"]))) (.cmp .Eq (.bi .len #v[.var 0]) (.int 0))) #v[.ret (.bl false)] .nil) kQ
theorem ye:∀(l:List P2) (i:Nat),(prs l)[i]?=match l[i]?,l[i+1]? with
  |some a,some b=>some (a,b)
  |_,_=>none
 |[],i=>by rw[prs];simp;intros;contradiction
 |[a],i=>by
  rw[prs]
  .cases i<;>simp
  .intro _ _ _ h;cases h
 |a::b::l,0=>rfl
 |a::b::l,i+1=>by rw[prs,List.getElem?_cons_succ,ye (b::l) i];rfl
theorem yf:∀l:List P2,(prs l).length=l.length-1
 |[]=>rfl
 |[a]=>rfl
 |a::b::l=>by rw[prs,YI,yf (b::l)];simp
def Er{l:List P2}(h1:l[i]?=some a)(c:l[i+1]?=some x):(aZ l)[i]?=some (a.2 != x.2):=by
 unfold aZ;rw[ZG,ye,h1,c];rfl
theorem wk:∀(l:List P2) (a z:P2),(a::l).getLast?=some z->((aZ (a::l)).filter id).length%2=if(a.2 != z.2)=true then 1 else 0
 |[],a,z,h=>by
  have e:a=z:=Yi h;subst e;rw[bne_self_eq_false];rfl
 |b::l,a,z,h=>by
  have c:=wk l b z (by rw[List.getLast?_cons_cons] at h;exact h);show(((a.2 != b.2)::aZ (b::l)).filter id).length%2=_;rw[List.filter_cons];show(if(a.2 != b.2)=true then _ else _:List Bool).length%2=_;cases e1:a.2<;>cases e2:b.2<;>cases e3:z.2<;>rw[e2,e3] at c<;>simp at c ⊢ <;> omega
theorem G2{c:Type}{xs:List c}{x:c}(h:xs.getLast?=some x):bY xs (-1)=some x:=by
 have hl:0<xs.length:=by cases xs with
  |nil=>cases h
  |cons _ _=>exact Nat.succ_pos _
 rw[List.getLast?_eq_getElem?] at h;unfold bY ku;rw[if_neg 'a',if_pos 'a'];show xs[((-1:Int)+(xs.length:Int)).toNat]?=_;rw[show((-1:Int)+(xs.length:Int)).toNat=xs.length-1 by omega];exact h
theorem sF:∀l:List (Nat×Nat×Bool),aN (l.map b9)=true/\bm (l.map b9)<=1
 |[]=>⟨rfl,YL _⟩
 |x::l=>by
  obtain⟨h1,c⟩:=sF l;rw[YK,aN,bm,h1];exact⟨rfl,Nat.max_le.2 ⟨by show(1:Nat)<=1;exact YF _,c⟩⟩
def Kv{x:Nat×Nat×Bool}{l:List (Nat×Nat×Bool)}(h:x∈l):gC (b9 x) (l.map b9)=true:=by
 unfold gC;rw[XJ];exact⟨b9 x,XX.2 ⟨x,h,rfl⟩,jg _ rfl⟩
def oy:aK:=λds M Q=>∃(l:List P2) (p:Zj) (c:Addr) (g:List (Nat×Nat×Bool)) (x z:P2),ds=[.tup (l.map λx:P2=>⇑x.1),.tup ((aZ l).map .bl),ay p,.ref c]/\M c=some (.lst (g.map b9))/\2<=l.length/\l.length<=2*p.length/\p.length<=1000 /\
 l.head?=some x/\l.getLast?=some z/\x.1=z.1/\(x.2 != z.2)=true/\(∀i a b,l[i]?=some a->l[i+1]?=some b->(a.1,b.1,a.2 != b.2)∈g)/\∀M',ae M M'->Q (.bl true) M'
def Jz:D->Bool
 |.bl b=>b
 |_=>false
section
variable {cn:Cn}{ds:List D}{M:MH}{Q:DK}
theorem Et(f0:cn.F.getD 0 'f'=gT)(h:oy ds M Q):wSs cn jz (fin Q) (az ["","","","",""] ds) M:=by
 obtain⟨l,p,g,r,x,z,rfl,J,h2,h3,hp,hx,hz,K,L,hs,q⟩:=h;show wSs cn jz (fin Q) [some (.tup (l.map λx:P2=>⇑x.1)),some (.tup ((aZ l).map .bl)),some (ay p),↑g,none] M;have c:(aZ l).length=l.length-1:=by unfold aZ;rw[ZF,yf]
 have O:l[0]?=some x:=by rw[←List.head?_eq_getElem?];exact hx
 have cm:uq 2 (p.length:Int):=.inl ⟨by decide,by decide⟩;have R:(nats p).length=p.length:=by unfold nats;rw[ZF]
 have S:bY (l.map λx:P2=>D.int (x.1:Int)) 0= ~~~x.1:=bQ (j:=0) (by rw[ZG,O];rfl);have T:bY (l.map λx:P2=>D.int (x.1:Int)) (-1)= ~~~x.1:=G2 (by rw[List.getLast?_map,hz,K,XH]);unfold jz;simp_all! only[List.set,fE,ZF,c];refine⟨by decide,?_⟩;rw[show kA "tuple" "tuple" = true by decide];simp_all! only[fE,ZF,c];rw[show(((l.length:Nat):Int)==((l.length-1:Nat):Int)+1)=true from by rw[beq_iff_eq];omega];simp only[Bool.not_true,aB];have t:aN ((aZ l).map .bl)=true/\bm ((aZ l).map .bl)=0:=by
  generalize aZ l=bs;induction bs with
  |nil=>exact⟨rfl,rfl⟩
  |cons b bs B=>rw[YK,aN,bm,B.1,B.2];exact⟨rfl,rfl⟩
 refine⟨by decide,⟨t.1,by rw[t.2];decide⟩,?_⟩;have ne:ce ((aZ l).map .bl) []=false:=by
  cases e:aZ l with
  |nil=>rw[e] at c;simp only[YT] at c;omega
  |cons b bs=>rfl
 rw[ne,aB];unfold kN;simp_all! only[List.set,ay,ZF,c,R,S,T];rw[show decide ((2:Int)*((p.length:Nat):Int)<((l.length-1:Nat):Int))=false from ZP 'a',XD];simp only[Bool.not_true,aB];refine⟨cm,?_⟩;unfold kM;simp! only[List.set,ZF,c];refine⟨⟨by omega,by omega⟩,?_⟩;rw[du];obtain⟨U,WK⟩:=sF r;refine pM (P:=λσ M'=>M'=M/\∃k,σ=[some (.tup (l.map λx:P2=>⇑x.1)),some (.tup ((aZ l).map .bl)),some (.tup (nats p)),↑g,k]) _ M ⟨rfl,none,rfl⟩ ?_ ?_
 .rintro y hy σ m N ⟨rfl,k,rfl⟩ kk
  obtain⟨i,hi,rfl⟩:=XX.1 hy;rw[ZV] at hi;obtain⟨a,ha⟩:∃a,l[i]?=some a:=⟨_,ZD 'a'⟩;obtain⟨b,hb⟩:∃b,l[i+1]?=some b:=⟨_,ZD 'a'⟩;have E:bY (l.map λx:P2=>D.int (x.1:Int)) (i:Int)= ~~~a.1:=bQ (by rw[ZG,ha];rfl);have G:bY (l.map λx:P2=>D.int (x.1:Int)) ((i:Int)+1)= ~~~b.1:=by
   rw[show((i:Int)+1)=((i+1:Nat):Int) by omega];exact bQ (by rw[ZG,hb];rfl)
  have I:bY ((aZ l).map D.bl) (i:Int)=some (.bl (a.2 != b.2)):=bQ (by rw[ZG,Er ha hb];rfl);show wSs cn gU _ [some (.tup (l.map λx:P2=>⇑x.1)),some (.tup ((aZ l).map .bl)),some (.tup (nats p)),↑g,~~~i] m;unfold gU;simp! only[List.set,E,G,I,f0,fE];refine⟨by decide,?_⟩;rw[show kA "bool" "bool" = true by decide];simp! only[Bool.not_true,aB];refine⟨_,rfl,?_⟩;simp! only[Bool.not_true,aB,E,G,I,J,bM];refine⟨⟨rfl,U,by omega⟩,?_⟩;rw[show gC (.tup [⇑a.1,⇑b.1,.bl (a.2 != b.2)]) (r.map b9)=true from Kv (hs i a b ha hb)];exact⟨trivial,kk _ _ ⟨rfl,_,rfl⟩⟩
 .rintro σ m ⟨rfl,k,rfl⟩
  unfold kL;simp! only[List.set,List.cons_append,List.nil_append,List.replicate];refine ci (p:=Jz) (ok:=λσ=>∃v,σ=[some (.tup (l.map λx:P2=>⇑x.1)),some (.tup ((aZ l).map .bl)),some (.tup (nats p)),↑g,k,v]) [] _ ⟨none,rfl⟩ ?_ ?_
  .intro d hd σ e_ rest ⟨v,hv⟩ V
   subst hv;obtain⟨b,hb,rfl⟩:=XX.1 hd;have k1:=V _ ⟨some (.bl b),rfl⟩;rw[aq];simp! only[List.set];cases b with
   |true=>exact⟨trivial,k1⟩
   |false=>
    rw[show e_++cond (Jz (.bl false)) [D.bl false] []=e_ from ZA e_] at k1;exact⟨trivial,k1⟩
  .rw[List.nil_append,show((aZ l).map D.bl).filter Jz=((aZ l).filter id).map .bl by rw[List.filter_map];rfl]
   intro n W;have Y:=ae.new W (o:=.lst (((aZ l).filter id).map .bl));have Z:ab m n (MO.lst (((aZ l).filter id).map .bl)) n=some (.lst (((aZ l).filter id).map .bl)):=aa;generalize ab m n (MO.lst (((aZ l).filter id).map .bl))=M7 at *;have od:((aZ l).filter id).length%2=1:=by
    cases l with
    |nil=>cases hx
    |cons y l=>
     cases hx;rw[wk l x z hz,if_pos L]
   simp_all! only[Z,ZF];refine⟨by decide,?_⟩;rw[show((((((aZ l).filter id).length:Nat):Int)%2==1)=true) from by rw[beq_iff_eq];omega];exact q M7 Y
end
def Lw:(("even" : Str) == "even")=true:=XD _
def Lx:(("odd" : Str) == "even")=false:=by rfl'
def Ly:(("odd" : Str) == "odd")=true:=XD _
def zX(G:Nat->List (Int×Bool))(p:Zj)(c:List (Nat×Nat×Bool)):Prop:=∀x:Nat×Nat×Bool,x∈c↔x.1∈p/\((x.2.1:Int),x.2.2)∈G x.1
def JA(G:Nat->List (Int×Bool))(p:Zj):Prop:=∀f0 t,p=f0::t->∀f∈p,b8 (λa b=>∃k,(b,k)∈toN G a) f0 f/\b8 (λa b=>∃k,(b,k)∈toN G a) f f0
def oz:aK:=λds M Q=>∃(G:Nat->List (Int×Bool)) (p:Zj) (r:D) (c:Addr) (g:List (Nat×Nat×Bool)),ds=[r,ay p,.ref c]/\M c=some (.lst (g.map b9))/\nn G p r/\(∀f,∀k∈G f,0<=k.1/\k.1.toNat∈p)/\zX G p g/\JA G p/\p.length<=1000/\∀M',ae M M'->Q (.bl true) M'
def JB:D->Bool
 |.tup [_,_,.bl b]=>b
 |_=>false
def lF{G:Nat->List (Int×Bool)}{p:Zj}{c:List (Nat×Nat×Bool)}(g:∀f,∀k∈G f,0<=k.1/\k.1.toNat∈p)(h:zX G p c)(b:Bool):b∈bO G p ↔ ∃x∈c,x.2.2=b:=by
 unfold bO;rw[List.mem_flatMap];constructor
 .rintro⟨f,hf,hb⟩
  obtain⟨k,hk,rfl⟩:=XX.1 hb;refine⟨(f,k.1.toNat,k.2),(h _).2 ⟨hf,?_⟩,rfl⟩;rw[Int.toNat_of_nonneg (g f k hk).1];exact hk
 .rintro⟨x,hx,rfl⟩
  obtain⟨h1,j⟩:=(h x).1 hx;exact⟨x.1,h1,XX.2 ⟨_,j,rfl⟩⟩
def JC{G:Nat->List (Int×Bool)}{p:Zj}(c:∀f,∀k∈G f,0<=k.1/\k.1.toNat∈p):(i,b)∈toN G f↔((i:Int),b)∈G f:=by
 constructor
 .intro h
  obtain⟨k,hk,e⟩:=XX.1 h;injection e with e1 e2
  have:=(c f k hk).1
  rw[←e1,←e2,Int.toNat_of_nonneg this];exact hk
 .intro h
  exact XX.2 ⟨_,h,by rw[YV]⟩
section
variable {cn:Cn}{ds:List D}{M:MH}{Q:DK}
theorem Eu(f0:cn.F.getD 0 'f'=oy)(f1:cn.F.getD 1 'f'=ox)(h:oz ds M Q):wSs cn jA (fin Q) (az ["","",""] ds) M:=by
 obtain⟨G,p,r,E,g,rfl,V,R,n,B,hC,hp,q⟩:=h;show wSs cn jA (fin Q) [some r,some (ay p),↑E] M;obtain⟨S2,WK⟩:=sF g;have P:∀f,∀z∈toN G f,z.1∈p:=λf z hz=>by
  obtain⟨k,hk,rfl⟩:=XX.1 hz;exact(n f k hk).2
 obtain⟨nm,rest,rfl⟩:∃nm rest,r=.tup (.str nm::rest):=by
  rcases R with⟨_,rfl⟩ | ⟨_,_,rfl⟩ | ⟨_,_,_,_,⟨_,_,_,_,rfl⟩ | ⟨_,rfl⟩⟩
  .exact⟨_,_,rfl⟩
  .exact⟨_,_,rfl⟩
  .exact⟨_,_,rfl⟩
  .exact⟨_,_,rfl⟩
 unfold jA;simp_all! only[List.set,fE];refine⟨by decide,?_⟩;rw[show kA "tuple" "tuple" = true by decide,show(((D.str nm::rest).length:Int)==0)=false from beq_false_of_ne (by rw[YI];omega)];simp only[Bool.not_true,aB];unfold kQ;simp! only[List.set];intro p1 OY;have S:=ae.new OY (o:=.lst []);have g1:ab M p1 (MO.lst []) p1=some (.lst []):=aa;generalize ab M p1 (MO.lst [])=M1 at *;have I:=S _ _ V;simp only[I,g1,bM];refine⟨⟨S2,rfl,by omega⟩,?_⟩;rcases R with⟨z,e⟩ | R
 .have:g=[]:=by
   cases g with
   |nil=>rfl
   |cons x g=>
    have:=(lF n B x.2.2).2 ⟨x,.head _,rfl⟩
    rw[z] at this;cases this
  subst this;cases e;rw[show ce (List.map b9 []) []=true from rfl,a8];refine⟨⟨rfl,rfl,by show(1:Nat)<=30;decide⟩,?_⟩;rw[show aU (.tup [.str "plain"]) (.tup [.str "plain"])=true from jg _ rfl];exact q M1 S
 have ne:g≠[]:=by
  rintro rfl;have:bO G p≠[]:=by
   rcases R with z | z
   .exact z.1
   .exact λy=>by rw[y] at z;exact nomatch z.1
  cases hk:bO G p with
  |nil=>exact this hk
  |cons b l=>
   obtain⟨x,hx,_⟩:=(lF n B b).1 (by rw[hk];exact .head _);cases hx
 rw[show ce (g.map b9) []=false by
  cases g with
  |nil=>exact absurd rfl ne
  |cons x l=>rfl,aB]
 unfold kP;simp! only[List.set,List.cons_append,List.nil_append,List.replicate,I];refine ci (p:=JB) (ok:=λσ=>∃v,σ=[some (.tup (.str nm::rest)),some (ay p),↑E,v]) [] _ ⟨none,rfl⟩ ?_ ?_
 .intro d hd σ e_ OA ⟨v,hv⟩ k0
  subst hv;obtain⟨x,hx,rfl⟩:=XX.1 hd;have k1:=k0 _ ⟨some (b9 x),rfl⟩;have T:bY [D.int (x.1:Int),.int (x.2.1:Int),.bl x.2.2] 2=some (.bl x.2.2):=bQ (j:=2) rfl;have run:∀Z:Bool->MH->Prop,Z x.2.2 M1->kE cn (.yes (.val (.ix (.var 3) (.int 2)))) [some (.tup (.str nm::rest)),some (ay p),↑E,some (b9 x)] M1 Z:=by
   intro Z hZ;simp! only[b9,T];exact hZ
  rw[aq];refine run _ ?_;rw[show JB (b9 x)=x.2.2 from rfl] at k1;cases hb:x.2.2 with
  |true=>rw[hb] at k1;rw[a8];exact⟨I,k1⟩
  |false=>
   rw[hb] at k1;rw[show e_++cond false [b9 x] []=e_ from ZA e_] at k1;rw[aB];exact⟨I,k1⟩
 rw[List.nil_append,show(g.map b9).filter JB=(g.filter λx=>x.2.2).map b9 by rw[List.filter_map];rfl];intro p2 C';have J:=S.then C' (o:=.lst ((g.filter λx=>x.2.2).map b9));have g2:ab M1 p2 (MO.lst ((g.filter λx=>x.2.2).map b9)) p2=some (.lst ((g.filter λx=>x.2.2).map b9)):=aa;generalize ab M1 p2 (MO.lst ((g.filter λx=>x.2.2).map b9))=M2 at *;simp_all! only[g2,ZF];rcases R with⟨_,z,e⟩ | ⟨z,m,t,rfl,R⟩
 .rw[show g.filter (λx=>x.2.2)=[] from List.filter_eq_nil_iff.2 λx hx hb=>z ((lF n B true).2 ⟨x,hx,hb⟩)]
  cases e;refine⟨⟨rfl,rfl,by show(1:Nat)<=30;decide⟩,?_⟩;rw[show aU (.tup [.str "ayes"]) (.tup [.str "ayes"])=true from jg _ rfl];exact q M2 J
 .have:((((g.filter λx=>x.2.2).length:Nat):Int)==0)=false:=by
   obtain⟨x,hx,hb⟩:=(lF n B true).1 z
   have:=List.length_pos_of_mem ((ZU (p:=λx:Nat×Nat×Bool=>x.2.2)).2 ⟨hx,hb⟩)
   exact beq_false_of_ne 'a'
  rw[this,aB];have hc:=rG (L:=toN G) (p:=m::t) (f0:=m) (.head _) P;have W:=J _ _ V;rcases R with⟨U,l,u,UT,e⟩ | ⟨U,e⟩
  .unfold Em at e
   cases e;unfold gV;simp_all! only[List.set,bg,Lx];unfold kO;simp_all! only[List.set,bg,bH,Ly,f0];obtain⟨K,w2,w3⟩:=hc.1.way u;have O:=u.head;have T:∀a b c:D,bY [a,b,c] 2=some c:=λa b c=>bQ (j:=2) rfl
   rw[T];refine⟨l.reverse,m::t,E,g,(m,false),(m,true),rfl,W,?_,by rw[List.length_reverse];exact UT,hp,by rw[List.head?_reverse];exact K,by rw[List.getLast?_reverse];exact O,rfl,rfl,λi a b ha hb=>?_,λM' e'=>q M' (J.trans e')⟩
   .rw[List.length_reverse]
    match l,O,K with
    |[y],O,K=>cases O;cases K
    |_::_::_,_,_=>simp
   .have li:i+1<l.length:=by have:=(YC.1 hb).1;rwa [List.length_reverse] at this
    rw[List.getElem?_reverse 'a'] at ha;rw[List.getElem?_reverse li] at hb;have WL:=w3 (l.length-1-(i+1)) b a hb (by rw[show l.length-1-(i+1)+1=l.length-1-i by omega];exact ha);refine(B _).2 ⟨w2 a (YS ha),?_⟩;exact(JC n).1 WL
  .unfold Ff at e
   cases e;unfold gV;simp_all! only[List.set,bg,bH,Lw,f1];have ev:=GR (.head _) P (hC m t rfl) U;refine⟨λf=>has (br (toN G) (m::t) m) (f,true),m::t,E,g,m,t,rfl,W,rfl,U,λx hx=>?_,λM' e'=>q M' (J.trans e')⟩;obtain⟨h1,h2⟩:=(B x).1 hx;have Y:=(JC n).2 h2;exact⟨h1,P _ _ Y,ev x.1 h1 _ Y⟩
end
section
variable {cn:Cn}{ds:List D}{M:MH}{Q:DK}
def zY(M:MH)(L m:Nat)(b_:Zx):Prop:=∃rs:List Addr,M L=some (.lst (ag rs))/\rs.length=m/\bz M rs λf=>.lst ((bA b_ f).map pD)
theorem zY.ext{M M':MH}{L m:Nat}{b_:Zx}(e:ae M M')(h:zY M L m b_):zY M' L m b_:=let⟨rs,h1,h2,h3⟩:=h;⟨rs,e _ _ h1,h2,h3.ext e⟩
end
section
variable {cn:Cn}{ds:List D}{M:MH}{Q:DK}
def kR:Ss:=#v[.ret (.bin .Mod (.bin .Mult (.var 2) (.var 2)) (.int 2147483587))]
def kS:Ss:=.cons (.set 2 (.bin .Add (.bin .Mod (.bin .Mult (.bin .Mod (.bin .Mult (.var 2) (.var 2)) (.int 2147483629)) (.int 69621)) (.int 2147483579)) (.var 1))) kR
def jB:Ss:=.cons (.set 2 (.bin .Mod (.bin .Add (.bin .Add (.bin .Mult (.bin .Mod (.var 0) (.int 2147483647)) (.int 48271)) (.bin .Mult (.int 7919) (.var 1))) (.int 1)) (.int 2147483647))) kS
def oA:aK:=λds M Q=>∃b d:Int,ds=[.int b,.int d]/\0<=d/\d<1000000/\∀z:Int,Q (.int z) M
theorem Ev(h:oA ds M Q):wSs cn jB (fin Q) (az ["","",""] ds) M:=by
 obtain⟨b,d,rfl,c,h1,q⟩:=h;show wSs cn jB (fin Q) [some (.int b),some (.int d),none] M;unfold jB;simp! only[List.set];refine⟨by decide,.inr ⟨by decide,by decide⟩,.inl ⟨by decide,by decide⟩,by decide,?_⟩;have g:=pR (y:=b%2147483647*48271+7919*d+1) (m:=2147483647) 'c';generalize (b%2147483647*48271+7919*d+1)%2147483647=y at *;unfold kS;simp! only[List.set];refine⟨.inl ⟨by omega,by omega⟩,by decide,.inr ⟨by decide,by decide⟩,by decide,?_⟩;have j:=pR (y:=y*y%2147483629*69621) (m:=2147483579) 'c';generalize y*y%2147483629*69621%2147483579=z at *;unfold kR;simp! only[];exact⟨.inl ⟨by omega,by omega⟩,by decide,q _⟩
def iI:Ss:=#v[.ret (.bin .Mod (.fn 0 #v[.ix (.var 0) (.int 0),.ix (.var 0) (.int 1)]) (.var 1))]
def me:Ss:=.cons (.putIx (.var 0) (.int 1) (.bin .Add (.ix (.var 0) (.int 1)) (.int 1))) iI
def mf:Ss:=#v[.ret (.var 2)]
def mh:Ss:=.cons (.putIx (.var 0) (.int 0) (.bin .FloorDiv (.ix (.var 0) (.int 0)) (.var 1))) mf
def km:Ss:=.cons (.ite (.cmp .Eq (.ix (.var 0) (.int 1)) (.int 0)) (.cons (.set 2 (.bin .Mod (.ix (.var 0) (.int 0)) (.var 1))) mh) .nil) me
def f9:aK:=λds M Q=>∃(p:Addr) (b d:Int) (n:Nat),ds=[.ref p,⇑n]/\M p=some (.lst [.int b,.int d])/\0<=d/\d<100000/\0<n/\n<=1000000/\∀(v:Nat) (b' d':Int),v<n->d<=d'->d'<=d+1->Q (⇑v) (ab M p (.lst [.int b',.int d']))
theorem Ew(f0:cn.F.getD 0 'f'=oA)(h:f9 ds M Q):wSs cn km (fin Q) (az ["","",""] ds) M:=by
 obtain⟨p,b,d,n,rfl,c,k,h1,hn,l,q⟩:=h;show wSs cn km (fin Q) [↑p,~~~n,none] M;have done:∀(z b' d':Int),d<=d'->d'<=d+1->Q (.int (z%(n:Int))) (ab M p (.lst [.int b',.int d'])):=by
  intro z b' d' g j;have h1:=pR (y:=z) (m:=(n:Int)) 'a'
  have:=q (z%(n:Int)).toNat b' d' 'a' g j
  rwa [Int.toNat_of_nonneg h1.1] at this
 unfold km;simp_all! only[List.set,c,zS,zT];refine yD (λ_=>?_) (λ_=>?_)
 .refine⟨by omega,?_⟩
  unfold mh;simp! only[List.set,c,zS,zT,Fc];refine⟨⟨by omega (splitDisjunctions:=true),by omega (splitDisjunctions:=true)⟩,?_⟩;unfold mf;simp! only[List.set];exact done _ _ _ (Int.le_refl _) 'a'
 .unfold me
  simp! only[List.set,c,zS,zT,Fc];rw[show ku [D.int b,D.int d].length 1=some 1 from rfl];show wSs cn iI (fin Q) [↑p,~~~n,none] (ab M p (.lst [.int b,.int (d+1)]));unfold iI;simp! only[List.set,aa,zS,zT,f0];refine⟨b,d+1,rfl,by omega,by omega,λz=>?_⟩;simp! only[];exact⟨by omega,done _ _ _ 'a' (Int.le_refl _)⟩
end
section
variable {cn:Cn}{ds:List D}{M:MH}{Q:DK}
def iQ:Ss:=#v[.ret (.bin .Add (.comp 1 (.tup #v[.var 1,.bl true]) (.nm 1) (.seq (.sl (.ix (.var 0) (.int 1)) .no (.yes (.ix (.var 0) (.int 2))))) .no) (.lst #v[.tup #v[.ix (.ix (.var 0) (.int 1)) (.ix (.var 0) (.int 2)),.bl false]]))]
def fB:Ss:=.cons (.ite (.cmp .Eq (.ix (.var 0) (.int 0)) (.str "some")) #v[.ret (.comp 1 (.tup #v[.var 1,.bl false]) (.nm 1) (.seq (.ix (.var 0) (.int 2))) .no)] .nil) iQ
def cU:Ss:=.cons (.ite (.cmp .Eq (.ix (.var 0) (.int 0)) (.str "lack")) #v[.ret (.lst #v[.tup #v[.ix (.var 0) (.int 1),.bl true]])] .nil) fB
def cb:Ss:=.cons (.ite (.cmp .Eq (.ix (.var 0) (.int 0)) (.str "have")) #v[.ret (.lst #v[.tup #v[.ix (.var 0) (.int 1),.bl false]])] .nil) cU
def iY:aK:=λds M Q=>∃t:CT,ds=[t.told]/\t.ok/\∀p M',M p=none->ae M M'->M' p=some (.lst t.leans)->Q (.ref p) M'
theorem wV(h:iY ds M Q):wSs cn cb (fin Q) (az [""] ds) M:=by
 obtain⟨t,rfl,ho,q⟩:=h;show wSs cn cb (fin Q) [some t.told] M;cases t with
 |hav f=>
  unfold cb;simp_all! only[CT.told,bg,bH,at2,Fb];exact λp hp=>q p _ hp (ae.new hp) aa
 |lck f=>
  unfold cb;simp_all! only[CT.told,bg,bH,at2,zG];unfold cU;simp_all! only[CT.told,bg,bH,at2,zF];exact λp hp=>q p _ hp (ae.new hp) aa
 |som n fs=>
  unfold cb;simp_all! only[CT.told,bg,bH,at2,zH];unfold cU;simp_all! only[CT.told,bg,bH,at2,zI];unfold fB;simp_all! only[CT.told,bg,bH,at2,DW,List.cons_append,List.nil_append,List.replicate];refine bC (f:=λd=>.tup [d,.bl false]) (ok:=λσ=>∃v,σ=[some (.tup [.str "some",.int n,.tup (bu fs)]),v]) [] _ ⟨none,rfl⟩ ?_ ?_
  .intro d hd σ e_ rest ⟨v,hv⟩ k
   subst hv;exact⟨trivial,k _ ⟨some d,rfl⟩⟩
  .intro p hp
   rw[List.nil_append];refine q p _ hp (ae.new hp) ?_;rw[aa];unfold bu;rw[ZM];rfl
 |led fs k=>
  unfold cb;simp_all! only[CT.told,bg,bH,at2,zJ];unfold cU;simp_all! only[CT.told,bg,bH,at2,zK];unfold fB;simp_all! only[CT.told,bg,bH,at2,DX];unfold iQ;simp_all! only[CT.told,bg,bH,at2,List.cons_append,List.nil_append,List.replicate,xV];refine bC (f:=rh true) (ok:=λσ=>∃v,σ=[some (.tup [.str "lead",.tup (bu fs),⇑k]),v]) [] _ ⟨none,rfl⟩ ?_ ?_
  .intro d hd σ e_ rest ⟨v,hv⟩ l
   subst hv;obtain⟨f,E,rfl⟩:=XX.1 hd;exact⟨trivial,l _ ⟨_,rfl⟩⟩
  .intro p hp
   rw[List.nil_append,pL];have g:=ae.new (o:=MO.lst ((fs.take k).map (bF true))) hp;have m:ab M p (MO.lst ((fs.take k).map (bF true))) p=some (.lst ((fs.take k).map (bF true))):=aa;generalize ab M p (MO.lst ((fs.take k).map (bF true)))=M1 at *;simp only[xU ho.1.1];intro p2 r;have c:=ae.new (o:=MO.lst [D.tup [D.int (fs.getD k 0),D.bl false]]) r;rw[aa,c _ _ m];refine⟨?_,λp3 j=>?_⟩
   .have:(4000:Nat)<sizeLine:=by decide
    have:=ho.1.2
    simp only[ZF,YR,YZ];omega
   .have B:=ae.new (o:=MO.lst ((fs.take k).map (bF true)++[D.tup [D.int (fs.getD k 0),D.bl false]])) j
    exact q p3 _ ((g.trans c).free j) (g.trans (c.trans B)) aa
end
end SG
namespace SQ
open PySem L2 DD
open SH
end SQ
namespace SG
open PySem L2 DD
open SH
open SQ
variable {M' MX M:MH}{b d:Int}
section
variable {cn:Cn}{ds:List D}{M:MH}{Q:DK}
def eB:Ss:=#v[.ret (.bi .tuple #v[.var 3])]
def eD:Ss:=#v[.expr (.mt .append (.var 3) #v[.mt .pop (.var 2) #v[.fn 0 #v[.var 0,.bi .len #v[.var 2]]]])]
def kT:Ss:=.cons (.for (.nm 4) (.rg1 #v[.bin .Add (.int 1) (.fn 0 #v[.var 0,.bi .min #v[.int 6,.var 1]])]) eD) eB
def kU:Ss:=.cons (.set 3 (.lst .nil)) kT
def jC:Ss:=.cons (.set 2 (.lrg #v[.var 1])) kU
structure bP (p:Addr) (M M':MH) (b d:Int):Prop where
 but:ExtBut p M M'
 at_:M' p=some (.lst [.int b,.int d])
theorem bP.draw{p:Addr}(h:bP p M M' b d)(b' d':Int):bP p M (ab M' p (.lst [.int b',.int d'])) b' d':=⟨h.but.trans (ExtBut.upd _ _ _),aa⟩
theorem bP.ext{p:Addr}(h:bP p M M' b d)(e:ae M' MX):bP p M MX b d:=⟨h.but.trans e.but,e _ _ h.at_⟩
theorem bP.put{p r:Addr}{b d:Int}{o:MO}{M M':MH}(h:bP p M M' b d)(a:M r=none)(hp:M p≠none):bP p M (ab M' r o) b d:=⟨h.but.put a,by
 rw[aJ (λz=>hp (by rw[z];exact a))];exact h.at_⟩
theorem bP.none{p r:Addr}{b d:Int}{M M':MH}(h:bP p M M' b d)(a:M' r=none):M r=none:=by
 cases e:M r with
 |none=>rfl
 |some o=>
  by_cases z:r=p
  .rw[z,h.at_] at a;cases a
  .have:=h.but r o z e
   rw[a] at this;cases this
def lG:aK:=λds M Q=>∃(p:Addr) (b d:Int) (m:Nat),ds=[.ref p,⇑m]/\M p=some (.lst [.int b,.int d])/\0<=d/\d<50000/\(0<m/\m<=120)/\∀(fs:Zj) M' b' d',fs.Nodup->(∀f∈fs,f<m)->(0<fs.length/\fs.length<=6)->d<=d'->d'<=d+10->bP p M M' b' d'->Q (.tup (nats fs)) M'
theorem BF(f0:cn.F.getD 0 'f'=f9)(h:lG ds M Q):wSs cn jC (fin Q) (az ["","","","",""] ds) M:=by
 obtain⟨p,b,d,m,rfl,hM,O7,S3,hm,q⟩:=h;show wSs cn jC (fin Q) [↑p,~~~m,none,none,none] M;have S:M p≠none:=by rw[hM];simp
 have B1:bP p M M b d:=⟨ExtBut.refl _ _,hM⟩;unfold jC;simp! only[List.set];refine⟨⟨by omega (splitDisjunctions:=true),by omega (splitDisjunctions:=true)⟩,λc NM=>?_⟩;rw[du];have Qn:=NM;have V:bP p M (ab M c (.lst (nats (List.range m)))) b d:=B1.ext (ae.new NM);have T:ab M c (MO.lst (nats (List.range m))) c=some (.lst (nats (List.range m))):=aa;generalize ab M c (MO.lst (nats (List.range m)))=M2 at *;unfold kU;simp! only[List.set];intro g J;have Qp:M g=none:=V.none J;have W:bP p M (ab M2 g (.lst [])) b d:=V.ext (ae.new J);have g3:ab M2 g (MO.lst []) g=some (.lst (nats [])):=aa;have r3:ab M2 g (MO.lst []) c=some (.lst (nats (List.range m))):=(ae.new J) _ _ T;have B_:g≠c:=λz=>by subst z;rw[J] at T;cases T
 have NG:p≠c:=λz=>by subst z;exact S Qn
 have Qq:p≠g:=λz=>by subst z;exact S Qp
 generalize ab M2 g (MO.lst [])=M3 at *;clear B1 V T J;clear M2;have D3:Drawn m (List.range m) []:=⟨List.nodup_range,λf Y=>by simpa using Y,by simp⟩;unfold kT;simp! only[List.set,f0];refine⟨p,b,d,min 6 m,?_,W.at_,O7,by omega,by omega,by omega,λw K L hw Z Mb=>?_⟩
 .congr 3
  split<;>omega
 have B4:=W.draw K L;have g4:ab M3 p (MO.lst [.int K,.int L]) g=some (.lst (nats [])):=by rw[aJ Qq.symm];exact g3
 have r4:ab M3 p (MO.lst [.int K,.int L]) c=some (.lst (nats (List.range m))):=by rw[aJ NG.symm];exact r3
 generalize ab M3 p (MO.lst [.int K,.int L])=M4 at *;clear W g3 r3;clear M3;refine⟨⟨by omega,by omega⟩,?_⟩;rw[show(1:Int)+(w:Int)=((w+1:Nat):Int) by omega,du];have XU:w+1<=m/\w+1<=6:=by omega
 have O:∀(fs rs:Zj) (n:Zy) (k j:Int) (a:MH),fs.length=w+1->Drawn m rs fs->d<=j->j<=d+1+fs.length->bP p M a k j->a g=some (.lst (nats fs))->wSs cn eB (fin Q) [↑p,~~~m,↑c,↑g,n] a:=by
  intro fs rs n k j a Ut t G P B C;unfold eB;simp! only[List.set,C,bM];exact q fs a k j (XY.1 t.nd).1 (λf Y=>t.lt f (YA.2 (.inl Y))) ⟨by omega,by omega⟩ G 'a' B
 have body:∀(E:cG) (fs rs:Zj) (n:Zy) (k j:Int) (a:MH),Drawn m rs fs->0<rs.length->fs.length<=6->d<=j->j<=d+1+fs.length->bP p M a k j->a g=some (.lst (nats fs))->a c=some (.lst (nats rs)) ->
   (∀I U A l r,Drawn m U I->I.length=fs.length+1->d<=l->l<=d+1+I.length->bP p M r A l->r g=some (.lst (nats I))->r c=some (.lst (nats U))->E.nx [↑p,~~~m,↑c,↑g,n] r) ->
   wSs cn eD E [↑p,~~~m,↑c,↑g,n] a:=by
  intro E fs rs n k j a t Sx X0 G P B C R kk;have Pl:=t.len;unfold eD;simp! only[List.set,f0,C,R,jt];refine⟨rfl,rfl,p,k,j,rs.length,rfl,B.at_,by omega,by omega,Sx,by omega,λi A l hi WM WN=>?_⟩;have B6:=B.draw A l;have g6:ab a p (MO.lst [.int A,.int l]) g=some (.lst (nats fs)):=by rw[aJ Qq.symm];exact C
  have r6:ab a p (MO.lst [.int A,.int l]) c=some (.lst (nats rs)):=by rw[aJ NG.symm];exact R
  generalize ab a p (MO.lst [.int A,.int l])=r at *;have hx:rs[i]?=some rs[i]:=ZD hi;generalize rs[i]=x at hx;have Sq:(nats rs)[(i:Int).toNat]?= ~~~x:=by unfold nats;rw[YV,ZG,hx];rfl
  simp only[r6,Sq];refine⟨⟨by omega (splitDisjunctions:=true),by omega (splitDisjunctions:=true)⟩,?_⟩;rw[YV,zV];have B7:bP p M (ab r c (.lst (nats (rs.eraseIdx i)))) A l:=B6.put Qn S;have g7:ab r c (MO.lst (nats (rs.eraseIdx i))) g=some (.lst (nats fs)):=by rw[aJ B_];exact g6
  have r7:ab r c (MO.lst (nats (rs.eraseIdx i))) c=some (.lst (nats (rs.eraseIdx i))):=aa;generalize ab r c (MO.lst (nats (rs.eraseIdx i)))=M7 at *;simp only[g7,jt];have hsz:(2000:Nat)<sizeLine:=by decide
  refine⟨by omega,?_⟩;rw[show nats fs++[D.int (x:Int)]=nats (fs++[x]) by unfold nats;rw[ZL];rfl];exact kk (fs++[x]) (rs.eraseIdx i) A l _ (t.pop hx) (by rw[ZK];rfl) 'a' (by rw[ZK,YZ];omega) (B7.put Qp S) aa (by rw[aJ B_.symm];exact r7)
 have ac:∀(xs:Zj) (fs rs:Zj) (n:Zy) (k j:Int) (a:MH),fs.length+xs.length=w+1->Drawn m rs fs->d<=j->j<=d+1+fs.length->bP p M a k j->a g=some (.lst (nats fs))->a c=some (.lst (nats rs)) ->
   aC (λ_=>True) (.nm 4) (wSs cn eD) { nx:=wSs cn eB (fin Q),rt:=Q } (nats xs) [↑p,~~~m,↑c,↑g,n] a:=by
  intro xs;induction xs with
  |nil=>
   intro fs rs n k j a hl t G P B C R;rw[show nats []=[] from rfl,aC];exact O fs rs n k j a (by simpa using hl) t G P B C
  |cons x xs ih=>
   intro fs rs n k j a hl t G P B C R;rw[YI] at hl
   have:=t.len
   rw[show nats (x::xs)=⇑x::nats xs from rfl,aC];refine body _ fs rs _ k j a t 'a' 'a' G P B C R ?_;intro I U A l r D6 h6 Z Mb B6 g6 r6;exact⟨trivial,ih I U _ A l r 'a' D6 Z Mb B6 g6 r6⟩
 exact ac (List.range (w+1)) [] (List.range m) none K L M4 (by simp) D3 Z (by simp;omega) B4 g4 r4
end
section
variable {cn:Cn}{ds:List D}{M:MH}{Q:DK}
def mi:Ss:=#v[.ret (.tup #v[.str "lead",.var 3,.fn 0 #v[.var 0,.bi .len #v[.var 3]]])]
def mj:Ss:=.cons (.ite (.cmp .Eq (.var 2) (.int 4)) #v[.ret (.tup #v[.str "some",.bin .Add (.int 1) (.fn 0 #v[.var 0,.int 6]),.var 3])] .nil) mi
def ml:Ss:=.cons (.set 3 (.fn 1 #v[.var 0,.var 1])) mj
def mn:Ss:=.cons (.ite (.cmp .Lt (.var 2) (.int 4)) #v[.ret (.tup #v[.str "lack",.fn 0 #v[.var 0,.var 1]])] .nil) ml
def mo:Ss:=.cons (.ite (.cmp .Lt (.var 2) (.int 2)) #v[.ret (.tup #v[.str "have",.fn 0 #v[.var 0,.var 1]])] .nil) mn
def kn:Ss:=.cons (.set 2 (.fn 0 #v[.var 0,.int 6])) mo
def oB:aK:=λds M Q=>∃(p:Addr) (b d:Int) (m:Nat),ds=[.ref p,⇑m]/\M p=some (.lst [.int b,.int d])/\0<=d/\d<40000/\(0<m/\m<=120)/\∀(t:CT) M' b' d',t.fit (m:Int)->d<=d'->d'<=d+12->bP p M M' b' d'->Q t.told M'
theorem Ex(f0:cn.F.getD 0 'f'=f9)(I:cn.F.getD 1 'f'=lG)(h:oB ds M Q):wSs cn kn (fin Q) (az ["","","",""] ds) M:=by
 obtain⟨p,b,d,m,rfl,J,K,T,hm,q⟩:=h;show wSs cn kn (fin Q) [↑p,~~~m,none,none] M;unfold kn;simp! only[List.set,f0];refine⟨p,b,d,6,rfl,J,K,by omega,by decide,by decide,λv c j hv U V=>?_⟩;have k:bP p M (ab M p (.lst [.int c,.int j])) c j:=⟨ExtBut.upd _ _ _,aa⟩;generalize ab M p (MO.lst [.int c,.int j])=M1 at *;unfold mo;simp! only[List.set,f0];refine r0 (λ_=>?_) (λ_=>?_)
 .refine⟨p,c,j,m,rfl,k.at_,by omega,by omega,hm.1,by omega,λw l r hw E G=>?_⟩
  exact q (.hav (w:Int)) _ l r ⟨by omega,by omega⟩ 'a' 'a' (k.draw l r)
 unfold mn;simp! only[List.set,f0];refine r0 (λ_=>?_) (λ_=>?_)
 .refine⟨p,c,j,m,rfl,k.at_,by omega,by omega,hm.1,by omega,λw l r hw E G=>?_⟩
  exact q (.lck (w:Int)) _ l r ⟨by omega,by omega⟩ 'a' 'a' (k.draw l r)
 unfold ml;simp! only[List.set,I];refine⟨p,c,j,m,rfl,k.at_,by omega,by omega,hm,λfs M2 B C L lt hl E G a=>?_⟩;have a:bP p M M2 B C:=⟨k.but.trans a.but,a.at_⟩;have fit:∀f∈fs.map (λ(f:Nat)=>(f:Int)),0<=f/\f<(m:Int):=by
  intro f O;obtain⟨g,P,rfl⟩:=XX.1 O
  have:=lt g P
  omega
 have nd:(fs.map λ(f:Nat)=>(f:Int)).Nodup:=wR L;have W:(fs.map λ(f:Nat)=>(f:Int)).length=fs.length:=ZF _;unfold mj;simp! only[List.set,f0,jt];refine⟨⟨rfl,rfl,(by decide:(0:Nat)<=30)⟩,?_⟩;refine yD (λ_=>?_) (λ_=>?_)
 .refine⟨p,B,C,6,rfl,a.at_,by omega,by omega,by decide,by decide,λn t A hn R S=>?_⟩
  rw[io];exact q (.som (1+(n:Int)) _) _ t A ⟨⟨by omega,by omega⟩,⟨by omega,by omega⟩,nd,fit⟩ 'a' 'a' (a.draw t A)
 .unfold mi
  simp! only[List.set,f0,jt];refine⟨p,B,C,fs.length,rfl,a.at_,by omega,by omega,by omega,by omega,λn t A hn R S=>?_⟩;rw[io];exact q (.led _ n) _ t A ⟨⟨by omega,by omega⟩,nd,fit⟩ 'a' 'a' (a.draw t A)
end
section
variable {cn:Cn}{ds:List D}{M:MH}{Q:DK}
def ny:Ss:=#v[.ret (.tup #v[.var 2,.comp 1 (.fn 0 #v[.var 0,.var 1]) (.nm 3) (.rg1 #v[.fn 1 #v[.var 0,.ix (.lst #v[.int 3,.int 7]) (.fn 1 #v[.var 0,.int 2])]]) .no])]
def lH:Ss:=.cons (.set 2 (.fn 1 #v[.var 0,.var 1])) ny
def rN:aK:=λds M Q=>∃(p:Addr) (b d:Int) (m:Nat),ds=[.ref p,⇑m]/\M p=some (.lst [.int b,.int d])/\0<=d/\d<30000/\(0<m/\m<=120)/\∀(f:Nat) (ts:List CT) a M' b' d',f<m->ts.length<=6->(∀t∈ts,t.fit (m:Int))->M a=none->bP p M M' b' d'->M' a=some (.lst (ts.map CT.told))->Q (.tup [⇑f,.ref a]) M'
theorem G3(f0:cn.F.getD 0 'f'=oB)(T:cn.F.getD 1 'f'=f9)(h:rN ds M Q):wSs cn lH (fin Q) (az ["","",""] ds) M:=by
 obtain⟨p,b,d,m,rfl,U,O7,S3,hm,q⟩:=h;show wSs cn lH (fin Q) [↑p,~~~m,none] M;have Nh:M p≠none:=by rw[U];simp
 unfold lH;simp! only[List.set,T];refine⟨p,b,d,m,rfl,U,O7,by omega,hm.1,by omega,λf B C hf x1 x2=>?_⟩;have V:bP p M (ab M p (.lst [.int B,.int C])) B C:=⟨ExtBut.upd _ _ _,aa⟩;generalize ab M p (MO.lst [.int B,.int C])=M1 at *;have run:∀(k:D) (c:MH) (j a:Int) (Z:DK),0<=a->a<40000->bP p M c j a->(∀(t:CT) E O A,t.fit (m:Int)->a<=A->A<=a+12->bP p c E O A->Z t.told E) ->
   wE cn (.fn 0 (.cons (.var 0) (.cons (.var 1) .nil))) [↑p,~~~m,~~~f,some k] c Z:=by
  intro k c j a Z G P l hZ;simp! only[f0];exact⟨p,j,a,m,rfl,l.at_,G,P,hm,hZ⟩
 have step:∀(g:MH->Prop) (F:List D->MH->Prop),(∀M',g M')->∀(I:Nat),(∀(ts:List CT) (c:MH) (j a:Int),ts.length=I->(∀t∈ts,t.fit (m:Int))->bP p M c j a->F (ts.map CT.told) c)->∀(xs:Zj) (ts:List CT) (v:Zy) (c:MH) (j a:Int),ts.length+xs.length=I->I<=6->(∀t∈ts,t.fit (m:Int))->bP p M c j a->0<=a->a<=30003+12*ts.length ->
   aq g (.nm 3) (λx M Q=>Q true M) (wE cn (.fn 0 (.cons (.var 0) (.cons (.var 1) .nil)))) F (nats xs) (ts.map CT.told) [↑p,~~~m,~~~f,v] c:=by
  intro g F hg I K xs;induction xs with
  |nil=>
   intro ts v c j a hn W ht l G P;rw[show nats []=[] from rfl,aq];exact K ts c j a (by simpa using hn) ht l
  |cons x xs ih=>
   intro ts v c j a hn W ht l G P;rw[YI] at hn;rw[show nats (x::xs)=⇑x::nats xs from rfl,aq];show wE cn (.fn 0 (.cons (.var 0) (.cons (.var 1) .nil))) [↑p,~~~m,~~~f,~~~x] c λy M2=>g M2/\aq g (.nm 3) (λx M Q=>Q true M) _ F (nats xs) (ts.map CT.told++[y]) [↑p,~~~m,~~~f,~~~x] M2
   refine run _ c j a _ G 'a' l λt E O A ft y1 y2 Y=>⟨hg _,?_⟩
   rw[show ts.map CT.told++[t.told]=(ts++[t]).map CT.told by rw[ZL];rfl];refine ih (ts++[t]) _ E O A (by rw[ZK,YZ];omega) W (λt' QT=>?_) ⟨l.but.trans Y.but,Y.at_⟩ 'a' (by rw[ZK,YZ];omega);rcases YA.1 QT with z | z
   .exact ht t' z
   .rw[XM.1 z];exact ft
 unfold ny;simp! only[List.set,List.cons_append,List.nil_append,List.replicate,T];intro r I_;have WR:M r=none:=V.none I_;have WU:p≠r:=λz=>Nh (by rw[z];exact WR)
 have B2:=V.ext (ae.new I_ (o:=.lst [.int 3,.int 7]));have g2:ab M1 r (MO.lst [.int 3,.int 7]) r=some (.lst [.int 3,.int 7]):=aa;generalize ab M1 r (MO.lst [.int 3,.int 7])=M2 at *;refine⟨p,B,C,2,rfl,B2.at_,by omega,by omega,by decide,by decide,λv J L hv y1 y2=>?_⟩;have B3:=B2.draw J L;have g3:ab M2 p (MO.lst [.int J,.int L]) r=some (.lst [.int 3,.int 7]):=by rw[aJ (Ne.symm WU)];exact g2
 generalize ab M2 p (MO.lst [.int J,.int L])=M3 at *;have vv:v=0\/v=1:=by omega
 obtain⟨n,hn,en⟩:∃n:Nat,(n=3\/n=7)/\bY [D.int 3,D.int 7] (v:Int)= ~~~n:=by
  rcases vv with rfl | rfl
  .exact⟨3,.inl rfl,bg _ _⟩
  .exact⟨7,.inr rfl,bH _ _ _⟩
 simp only[g3,en];refine⟨p,J,L,n,rfl,B3.at_,by omega,by omega,by omega,by omega,λk R S hk z1 z2=>?_⟩;have B4:=B3.draw R S;generalize ab M3 p (MO.lst [.int R,.int S])=M4 at *;refine⟨⟨by omega,by omega⟩,?_⟩;rw[du];refine step _ _ (λ_=>trivial) k (λts c j a hl ht l p' Mx=>?_) (List.range k) [] none M4 R S (by simp) 'a' (λt z=>nomatch z) B4 'a' (by simp;omega);exact q f ts p' _ j a hf 'a' ht (l.none Mx) (l.ext (ae.new Mx)) aa
end
end SG
namespace SG
open PySem L2 DD
open SH
variable {b_:Zx}{m:Nat}
def dH:Ss:=#v[.ret (.comp 1 (.bk .listP #v[.var 7]) (.nm 7) (.seq (.var 2)) .no)]
def gz:Ss:=#v[.putP (.ix (.var 2) (.var 3)) (.var 6) (.bl true)]
def dJ:Ss:=#v[.for (.nm 6) (.seq (.fn 0 #v[.var 5])) gz]
def gA:Ss:=#v[.for (.nm 5) (.seq (.var 4)) dJ]
def jZ:Ss:=.cons (.for (.tp [3,4]) (.seq (.var 0)) gA) dH
def iJ:Ss:=.cons (.setC 2 1 .dnew (.nm 7) (.rg1 #v[.var 1]) .no) jZ
def rO(z:Bool×Int):Int×Bool:=(z.2,z.1)
def di(L:Nat->List (Int×Bool))(h:Nat)(ks:List (Int×Bool))(f:Nat):List (Int×Bool):=if f=h then L f++ks else L f
def wl(L:Nat->List (Int×Bool))(h:Nat)(a b:List (Int×Bool)):di (di L h a) h b=di L h (a++b):=by
 funext f;unfold di;split
 .rw[ZB]
 .rfl
def wm(L:Nat->List (Int×Bool))(h:Nat):di L h []=L:=by
 funext f;unfold di;split
 .rw[ZA]
 .rfl
def kW(M:MH)(ps:Zh)(L:Nat->List (Int×Bool)):Prop:=bz M ps λf=>eJ ((L f).foldl putP [])
theorem kW.put{M:MH}{ps:Zh}{L:Nat->List (Int×Bool)}{h:Nat}{r:Addr}{k:Int×Bool}(nd:ps.Nodup)(a:ps[h]?=some r)(s:kW M ps L):kW (ab M r (eJ (putP ((L h).foldl putP []) k))) ps (di L h [k]):=by
 refine bz.put nd a s ?_ λf b=>?_
 .unfold di
  rw[if_pos rfl,List.foldl_append];rfl
 .unfold di
  rw[if_neg b]
def mq(rs:Zx)(f:Nat):List (Int×Bool):=rs.flatMap λx=>if f=x.1 then(cQ x).map rO else[]
def wn(rs:Zx)(x:Row):mq (rs++[x])=di (mq rs) x.1 ((cQ x).map rO):=by
 funext f;unfold mq di;rw[List.flatMap_append];show _++((if f=x.1 then(cQ x).map rO else[])++[])=_;rw[ZA];split
 .rfl
 .rw[ZA]
theorem wo(b_:Zx)(f:Nat):∀k,k<=b_.length->o7 b_ (em (aQ b_) k f)=mq (b_.take k) f
 |0,_=>rfl
 |k+1,hk=>by
  have hx:b_[k]?=some (b_[k]'hk):=ZD hk;have b:(aQ b_)[k]?=some (b_[k]'hk).1:=by unfold aQ;rw[ZG,hx];rfl
  rw[lA f b,List.take_add_one,hx];show _=mq (b_.take k++[b_[k]'hk]) f;rw[wn];unfold o7;rw[List.flatMap_append];have a:=wo b_ f k 'a';unfold o7 at a;rw[a];unfold di;split
  .show _++(((b_[k]?.map cQ).getD []).map _++[])=_
   rw[ZA,hx];rfl
  .show _++[]=_
   rw[ZA]
def Ey(b_:Zx)(f:Nat):bA b_ f=(mq b_ f).foldl putP []:=by
 unfold bA;rw[wo b_ f _ (YF _),List.take_length]
def Ez{a:Addr}{M:MH}{Q:DK}{ks:List (Int×Bool)}(h:M a=some (eJ ks))(q:∀p:Addr,M p=none->Q (.ref p) (ab M p (.lst (ks.map pD)))):mR [.ref a] M Q:=by
 unfold mR;cases ks with
 |nil=>simp only[h,eJ];exact q
 |cons k ks=>simp only[h,eJ];exact q
section
variable {cn:Cn}{ds:List D}{M:MH}{Q:DK}
def j0:aK:=λds M Q=>∃(R m:Nat) (a:List D) (b_:Zx),ds=[.ref R,⇑m]/\M R=some (.lst a)/\bq M a b_/\cx m b_/\∀L M',M L=none->ae M M'->zY M' L m b_->Q (.ref L) M'
theorem zZ(f0:cn.F.getD 0 'f'=iY)(h:j0 ds M Q):wSs cn iJ (fin Q) (az ["","","","","","",""] ds) M:=by
 obtain⟨R,m,K_,b_,rfl,hR,hA,ok,q⟩:=h;show wSs cn iJ (fin Q) [↑R,~~~m,none,none,none,none,none] M;have hm:=ok.most;have hsz:(4000:Nat)<sizeLine:=by decide
 unfold iJ;simp! only[List.cons_append,List.nil_append,List.replicate];refine⟨⟨by omega,by omega⟩,?_⟩;refine iX (o:=.dic []) M (λ_ _ _ h=>h) (λ_ _ _ h=>h) (bv 0 (m:Int)) [] _ M (ae.refl M) .nil (λp hp=>nomatch hp) ?_;intro ps M1 e1 nd f_ Mp p hp;rw[lz,YT,Nat.zero_add] at f_;have Nh:M p=none:=e1.free hp;have B_:∀r∈ps,r≠p:=λr c=>rn (Mp r c).2 hp
 have e2:ae M (ab M1 p (.lst (ag ps))):=e1.then hp;have g2:ab M1 p (MO.lst (ag ps)) p=some (.lst (ag ps)):=aa;have s2:kW (ab M1 p (MO.lst (ag ps))) ps (mq []):=λf r c=>(ae.new hp) r _ (Mp r (YS c)).2
 have fresh:∀r∈ps,M r=none:=λr c=>(Mp r c).1
 generalize ab M1 p (MO.lst (ag ps))=M2 at *;clear Mp hp e1;have ac:∀(O P A n:Zy) (M3:MH),ae M M3->M3 p=some (.lst (ag ps))->kW M3 ps (mq b_)->wSs cn dH (fin Q) [↑R,~~~m,↑p,O,P,A,n] M3:=by
  intro O P A n M3 e3 g3 s3;unfold dH;simp! only[g3,List.cons_append,List.nil_append,List.replicate,tE];have run:∀(r:Addr) (ks:List (Int×Bool)) (C:MH) (Z:DK),C r=some (eJ ks)->(∀p2,C p2=none->Z (.ref p2) (ab C p2 (.lst (ks.map pD))))->wE cn (.bk .listP (.cons (.var 7) .nil)) [↑R,~~~m,↑p,O,P,A,n,↑r] C Z:=by
   intro r ks C Z c hZ;simp! only[tE];exact Ez c hZ
  have al:∀(rest:Zh) (k:Nat) (K:Zh) (v:Zy) (C:MH),ps.drop k=rest->k<=ps.length->K.length=k->ae M3 C->bz C K (λf=>.lst ((bA b_ f).map pD)) ->
    aq (λM'=>M' p=some (.lst (ag ps))) (.nm 7) (λ_ M Q=>Q true M) (wE cn (.bk .listP (.cons (.var 7) .nil))) (λds M'=>∀p,M' p=none->Q (.ref p) (ab M' p (.lst ds))) (ag rest) (ag K) [↑R,~~~m,↑p,O,P,A,n,v] C:=by
   intro rest;induction rest with
   |nil=>
    intro k K v C hd OZ hq W s4;rw[show ag []=[] from rfl,aq];intro p2 T;have hk:ps.length<=k:=by
     have:=congrArg List.length hd
     rw[YW,YT] at this;omega
    exact q p2 _ ((e3.trans W).free T) ((e3.trans W).then T) ⟨K,aa,by omega,s4.ext (ae.new T)⟩
   |cons r rest U=>
    intro k K v C hd OZ hq W s4;have hk:ps[k]?=some r:=by
     have:=congrArg (·[0]?) hd
     simpa using this
    have MB:ps.drop (k+1)=rest:=by
     have:=congrArg (List.drop 1) hd
     rw[List.drop_drop] at this;simpa using this
    have O0:k<ps.length:=(YC.mp hk).1;have Sy:C r=some (eJ (bA b_ k)):=by
     rw[W r _ (s3 k r hk),Ey]
    rw[show ag (r::rest)=.ref r::ag rest from rfl,aq];show wE cn (.bk .listP (.cons (.var 7) .nil)) [↑R,~~~m,↑p,O,P,A,n,↑r] C λy M2=>M2 p=some (MO.lst (ag ps))/\aq (λM'=>M' p=some (.lst (ag ps))) (.nm 7) (λ_ M Q=>Q true M) (wE cn (.bk .listP (.cons (.var 7) .nil))) (λds M'=>∀p,M' p=none->Q (.ref p) (ab M' p (.lst ds))) (ag rest) (ag K++[y]) [↑R,~~~m,↑p,O,P,A,n,↑r] M2
    refine run r _ C _ Sy λp2 T=>?_
    refine⟨(W.trans (ae.new T)) p _ g3,?_⟩;have:ag K++[D.ref p2]=ag (K++[p2]):=by unfold ag;rw[ZL];rfl
    rw[this];refine U (k+1) (K++[p2]) _ _ MB O0 (by rw[ZK,hq];rfl) (W.then T) λf r' Y=>?_
    by_cases Sz:f<K.length
    .rw[ZE Sz] at Y
     exact(ae.new T) r' _ (s4 f r' Y)
    .rw[ZH 'a'] at Y
     have hz:f-K.length=0:=by
      have:=(YC.mp Y).1
      simp only[YI,YT] at this;omega
     rw[hz] at Y;have:p2=r':=by simpa using Y
     subst this;obtain rfl:f=k:=by omega
     exact aa
  exact al ps 0 [] none M3 rfl (YL _) rfl (ae.refl M3) (λf r c=>by simp at c)
 have few:∀{L:Nat->List (Int×Bool)}(f:Nat),(∀f,∀k∈L f,0<=k.1/\k.1<(m:Int))->((L f).foldl putP []).length<=60:=λ{L} f b=>by
  obtain⟨n1,n2⟩:=gO (L f) [] XW
  have:=jY n1 λk hk=>b f k (((n2 k).1 hk).elim (λz=>nomatch z) id)
  omega
 have V:∀(w:Addr) (o:MO) (E:cG) (h:Nat) (J:Addr) (tt:D),h<m->w∉ps->∀(l:Zr) (L:Nat->List (Int×Bool)) (v:Zy) (a:MH),a w=some o->ae M a->a p=some (.lst (ag ps))->kW a ps L->(∀f,∀k∈L f,0<=k.1/\k.1<(m:Int))->(∀z∈l,0<=z.2/\z.2<(m:Int)) ->
   (∀v' j,ae M j->j p=some (.lst (ag ps))->kW j ps (di L h (l.map rO))->E.nx [↑R,~~~m,↑p,~~~h,↑J,some tt,v'] j) ->
   aC (λM'=>M' w=some o) (.nm 6) (wSs cn gz) E (l.map pairD) [↑R,~~~m,↑p,~~~h,↑J,some tt,v] a:=by
  intro w o E h J tt hh hw l;induction l with
  |nil=>
   intro L v a w5 G I B b _ kk;rw[YY,aC];exact kk v a G I (by rw[YY,wm];exact B)
  |cons z l U=>
   intro L v a w5 G I B b bl kk;obtain⟨r,c⟩:∃r,ps[h]?=some r:=⟨ps[h]' 'a',ZD 'a'⟩;have Po:=YS c;rw[YK,aC];unfold gz;simp! only[List.set,I,i6 c];have hk:=few h b;refine x5 (x:=z.2) (y:=z.1) (B h r c) 'a' ?_;have S:ae M (ab a r (eJ (putP ((L h).foldl putP []) (z.2,z.1)))):=G.put (fresh r Po);have w6:ab a r (eJ (putP ((L h).foldl putP []) (z.2,z.1))) w=some o:=by rw[aJ (λe=>hw (by rw[e];exact Po))];exact w5
   refine⟨w6,U (di L h [rO z]) _ _ w6 S (by rw[aJ (B_ r Po).symm];exact I) (kW.put nd c B) (λf k hk=>?_) (λy hy=>bl y (.tail _ hy)) λv' j e7 g7 s7=>kk v' j e7 g7 ?_⟩
   .unfold di at hk
    split at hk
    .rcases YA.1 hk with z' | z'
     .exact b f k z'
     .rw[XM.1 z'];exact bl z (.head _)
    .exact b f k hk
   .rw[wl] at s7
    exact s7
 have S5:∀{L:Nat->List (Int×Bool)}{h:Nat}{l:Zr},(∀f,∀k∈L f,0<=k.1/\k.1<(m:Int))->(∀z∈l,0<=z.2/\z.2<(m:Int))->∀f,∀k∈di L h (l.map rO) f,0<=k.1/\k.1<(m:Int):=by
  intro L h l b bl f k hk;unfold di at hk;split at hk
  .rcases YA.1 hk with z' | z'
   .exact b f k z'
   .obtain⟨y,hy,rfl⟩:=XX.1 z'
    exact bl y hy
  .exact b f k hk
 have body:∀(E:cG) (h:Nat) (J:Addr) (t:CT) (L:Nat->List (Int×Bool)) (n:Zy) (a:MH),h<m->t.fit (m:Int)->ae M a->a p=some (.lst (ag ps))->kW a ps L->(∀f,∀k∈L f,0<=k.1/\k.1<(m:Int)) ->
   (∀v' j,ae M j->j p=some (.lst (ag ps))->kW j ps (di L h (t.leanP.map rO))->E.nx [↑R,~~~m,↑p,~~~h,↑J,some t.told,v'] j) ->
   wSs cn dJ E [↑R,~~~m,↑p,~~~h,↑J,some t.told,n] a:=by
  intro E h J t L n a hh Qs G I B b kk;have bl:=fZ Qs;unfold dJ;simp! only[List.set,f0];refine⟨t,rfl,CT.fit_ok 'a' Qs,λw j hw S g6=>?_⟩;simp only[g6,pO];have Oy:=G.trans S;have WV:w∉ps:=λz=>by
   obtain⟨f,hf⟩:=XT z
   have:=B f w hf
   rw[hw] at this;cases this
  exact V w _ _ h J _ hh WV t.leanP L _ j (by rw[g6,pO]) Oy (S _ _ I) (B.ext S) b bl kk
 have mid:∀(g:MH->Prop) (E:cG) (h:Nat) (J:Addr),h<m->(∀M',ae M M'->g M')->∀(ts:List CT) (L:Nat->List (Int×Bool)) (A n:Zy) (a:MH),(∀t∈ts,t.fit (m:Int))->ae M a->a p=some (.lst (ag ps))->kW a ps L->(∀f,∀k∈L f,0<=k.1/\k.1<(m:Int)) ->
   (∀Ox Q5 j,ae M j->j p=some (.lst (ag ps))->kW j ps (di L h ((ts.flatMap CT.leanP).map rO))->E.nx [↑R,~~~m,↑p,~~~h,↑J,Ox,Q5] j) ->
   aC g (.nm 5) (wSs cn dJ) E (ts.map CT.told) [↑R,~~~m,↑p,~~~h,↑J,A,n] a:=by
  intro g E h J hh hg ts;induction ts with
  |nil=>
   intro L A n a _ G I B b kk;rw[YY,aC];exact kk A n a G I (by rw[show([].flatMap CT.leanP).map rO=[] from rfl,wm];exact B)
  |cons t ts U=>
   intro L A n a ht G I B b kk;have Qs:=ht t (.head _);rw[YK,aC];refine body _ h J t L _ a hh Qs G I B b λv' M7 e7 g7 s7=>⟨hg _ e7,?_⟩
   refine U _ _ _ M7 (λt' h'=>ht t' (.tail _ h')) e7 g7 s7 (S5 b (fZ Qs)) λOx Q5 M8 e8 g8 s8=>kk Ox Q5 M8 e8 g8 ?_
   rw[wl,←ZL] at s8;exact s8
 have outer:∀(xs:List D) (F' dn:Zx) (O P A n:Zy) (a:MH),bq M xs F'->b_=dn++F'->ae M a->a p=some (.lst (ag ps))->kW a ps (mq dn) ->
   aC (λM'=>M' R=some (.lst K_)) (.tp [3,4]) (wSs cn gA) { nx:=wSs cn dH (fin Q),rt:=Q } xs [↑R,~~~m,↑p,O,P,A,n] a:=by
  intro xs F' dn O P A n a hx;induction hx generalizing dn O P A n a with
  |nil=>
   intro c G I B;rw[aC];rw[ZA] at c;subst c;exact ac O P A n a G I B
  |@cons d x xs F' hd _ U=>
   intro c G I B;obtain⟨q1,rfl,Ni⟩:=hd;have hx:=ok.fit x (by rw[c];simp);rw[aC];unfold gA;simp! only[List.set,G _ _ Ni];refine⟨rfl,?_⟩;have bb:∀f,∀k∈mq dn f,0<=k.1/\k.1<(m:Int):=λf k hk=>by
    unfold mq at hk;obtain⟨y,hy,hk⟩:=List.mem_flatMap.1 hk;split at hk
    .obtain⟨u,hu,rfl⟩:=XX.1 hk
     unfold cQ at hu;obtain⟨t,ht,hu⟩:=List.mem_flatMap.1 hu;exact fZ ((ok.fit y (by rw[c];exact YB _ hy)).2.2 t ht) u hu
    .cases hk
   refine mid _ _ x.1 q1 hx.1 (λM' e'=>e' _ _ Ni) x.2 (mq dn) _ _ a hx.2.2 G I B bb λOx Q5 j S g6 s6=>⟨S _ _ hR,?_⟩
   refine U (dn++[x]) _ _ _ _ j (by rw[c];simp) S g6 ?_;rw[wn];exact s6
 unfold jZ;simp! only[List.set,e2 _ _ hR];exact outer K_ b_ [] none none none none M2 hA rfl e2 g2 s2
end
theorem yg{ls:Zj}{ps:List (List Nat)}:∀(n dn:Nat){p:Zj},p∈tJ ls ps n dn->p∈ps
 |0,_,_,h=>nomatch h
 |n+1,dn,p,h=>by
  rw[tJ] at h;cases e:ps.find? (may ls dn) with
  |none=>rw[e] at h;cases h
  |some q=>
   rw[e] at h;rcases ZZ.1 h with rfl | h
   .exact List.mem_of_find?_eq_some e
   .exact yg n _ h
def G4(ok:cx m b_):Walk (bh b_ m) (a9 (bh b_ m) m):=by
 have a:(bh b_ m).length=m:=by unfold bh;rw[ZF,ZJ]
 have low:∀f g,dS (bh b_ m) f g->g<(bh b_ m).length:=wc ok;refine⟨by rw[fP],low,λf g b=>?_⟩
 have:=Bw low (f:=f) (g:=g) b
 rw[a] at this;exact this
def wp{p:Zj}{k:Int×Bool}:k∈LK b_ p m↔k∈bA b_ m/\k.1.toNat∈p:=by
 unfold LK;rw[ZU,sy,decide_eq_true_iff]
def BG(ok:cx m b_)(p:Zj):∀f,∀k∈LK b_ p f,0<=k.1/\k.1.toNat∈p:=λf k hk=>by
 obtain⟨h1,a⟩:=wp.1 hk;exact⟨(dh ok f k h1).1,a⟩
def G5(ok:cx m b_){p:Zj}(h:p∈m9 b_ m):p≠[]/\p.length<=m/\(∀x∈p,x<m)/\JA (LK b_ p) p:=by
 have w:=G4 ok;have A:(bh b_ m).length=m:=by unfold bh;rw[ZF,ZJ]
 have B:=w.eqv;have C:∀{f g:Nat},f<m->g<m->(aV (a9 (bh b_ m) m) f g=true↔b8 (dS (bh b_ m)) f g/\b8 (dS (bh b_ m)) g f):=λj n=>w.sam_iff (by rw[A];exact j) (by rw[A];exact n)
 have low:=w.low;rw[A] at B low;obtain⟨f,j,ff,rfl⟩:=(gM B).1 (yg _ _ h);obtain⟨l,E⟩:=dU B j ff;have mem:∀x,x∈cls (aV (a9 (bh b_ m) m)) m f↔x<m/\b8 (dS (bh b_ m)) f x/\b8 (dS (bh b_ m)) x f:=λx=>by
  rw[cj];constructor
  .rintro⟨a,b⟩;exact⟨a,(C j a).1 b⟩
  .rintro⟨a,b⟩;exact⟨a,(C j a).2 b⟩
 refine⟨by rw[E];exact List.cons_ne_nil _ _,?_,λx hx=>((mem x).1 hx).1,λf0 t e=>?_⟩
 .unfold cls
  refine ZW (List.length_filter_le _ _) ?_;rw[ZJ];exact YF _
 .have G:f0=f:=by
   rw[E] at e;cases e;rfl
  subst G;generalize cls (aV (a9 (bh b_ m) m)) m f0=p at *;have go:∀{a b:Nat},b8 (dS (bh b_ m)) a b->a∈p->b∈p->b8 (λa b=>∃k,(b,k)∈toN (LK b_ p) a) a b:=by
   intro a b r;induction r with
   |refl _=>intro _ _;exact .refl _
   |@step a g b c I J=>
    intro ha hb;obtain⟨K,L,S⟩:=(mem a).1 ha;obtain⟨T,U,O⟩:=(mem b).1 hb;have n:g∈p:=(mem g).2 ⟨low _ _ c,L.trans (.one c),I.trans O⟩;refine .step ?_ (J n hb);unfold dS bh at c;rw[List.getD_eq_getElem?_getD,ZG,List.getElem?_range K,XH,XE] at c;unfold m8 at c;rw[cM] at c;obtain⟨k,hk,rfl⟩:=XX.1 (XN c);exact⟨k.2,XX.2 ⟨k,wp.2 ⟨hk,n⟩,rfl⟩⟩
  intro x hx;obtain⟨V,P,R⟩:=(mem x).1 hx;have F:f0∈p:=(mem f0).2 ⟨j,.refl _,.refl _⟩;exact⟨go P F hx,go R hx F⟩
def G6 {G:Nat->List (Int × Bool)} {p:Zj} (hp:p ≠ []) (b:∀ f,∀ k ∈ G f,0<=k.1/\k.1.toNat ∈ p):∃ r,nn G p r:=by
  unfold nn
  by_cases h1:bO G p = []
  . exact ⟨_,.inl ⟨h1,rfl⟩⟩
  by_cases a:true ∈ bO G p
  . cases p with
    | nil=>exact absurd rfl hp
    | cons f0 t=>
      have hc:=rG (L:=toN G) (p:=f0 :: t) (f0:=f0) (.head _) λf z hz=>by
        obtain ⟨k,hk,rfl⟩:=XX.1 hz
        exact (b f k hk).2
      cases hb:has (br (toN G) (f0 :: t) f0) (f0,true) with
      | true=>
        obtain ⟨l,u,hl⟩:=hc.1.up_of hb
        exact ⟨_,.inr (.inr ⟨a,f0,t,rfl,.inl ⟨hb,l,u,hl,rfl⟩⟩)⟩
      | false=>exact ⟨_,.inr (.inr ⟨a,f0,t,rfl,.inr ⟨hb,rfl⟩⟩)⟩
  . exact ⟨_,.inr (.inl ⟨h1,a,rfl⟩)⟩
theorem j5{a:Type}(g:a->D)(h:∀x,aP (g x)=true/\db (g x)=0):∀l:List a,aN (l.map g)=true/\bm (l.map g)=0
 |[]=>⟨rfl,rfl⟩
 |x::l=>by
  obtain⟨h1,b⟩:=j5 g h l;rw[YK,aN,bm,(h x).1,(h x).2,h1,b];exact⟨rfl,rfl⟩
def BH{G:Nat->List (Int×Bool)}{p:Zj}{r:D}(h:nn G p r):∃xs,r=.tup xs/\aN xs=true/\bm xs<=1:=by
 rcases h with⟨_,rfl⟩ | ⟨_,_,rfl⟩ | ⟨_,_,_,_,⟨_,l,_,_,rfl⟩ | ⟨_,rfl⟩⟩
 .exact⟨_,rfl,rfl,YL _⟩
 .exact⟨_,rfl,rfl,YL _⟩
 .obtain⟨a,b⟩:=j5 (λx:P2=>D.int (x.1:Int)) (λ_=>⟨rfl,rfl⟩) l.reverse
  obtain⟨c,g⟩:=j5 D.bl (λ_=>⟨rfl,rfl⟩) (aZ l.reverse);refine⟨_,rfl,?_,?_⟩
  .rw[aN,aN,aN,aP,aP,a,c];rfl
  .rw[bm,bm,bm,db,db,b,g];exact YF _
 .obtain⟨a,b⟩:=j5 (λf:Nat=>D.int (b2i (has _ (f,true)))) (λ_=>⟨rfl,rfl⟩) p
  refine⟨_,rfl,?_,?_⟩
  .rw[aN,aN,aP,a];rfl
  .rw[bm,bm,db,b];exact YF _
def cO(b_:Zx)(p:Zj)(f:Nat):List (Nat×Nat×Bool):=((bA b_ f).filter λk=>decide (k.1.toNat∈p)).map λk=>(f,k.1.toNat,k.2)
def JD(ok:cx m b_)(p:Zj):zX (LK b_ p) p (p.flatMap (cO b_ p)):=by
 intro x;rw[List.mem_flatMap,wp];unfold cO;constructor
 .rintro⟨f,hf,hx⟩
  obtain⟨k,hk,rfl⟩:=XX.1 hx;obtain⟨h1,a⟩:=ZU.1 hk;refine⟨hf,?_,?_⟩
  .show(((k.1.toNat:Nat):Int),k.2)∈bA b_ f
   rw[Int.toNat_of_nonneg (dh ok f k h1).1];exact h1
  .show(((k.1.toNat:Nat):Int)).toNat∈p
   rw[YV];exact XN a
 .rintro⟨h1,a,h3⟩
  refine⟨x.1,h1,XX.2 ⟨_,ZU.2 ⟨a,YU h3⟩,?_⟩⟩;show(x.1,((x.2.1:Int)).toNat,x.2.2)=x;rw[YV]
theorem EA(ok:cx m b_)(p:Zj)(f:Nat):(cO b_ p f).length<=60:=by
 unfold cO;rw[ZF];have h1:=List.length_filter_le (λk:Int×Bool=>decide (k.1.toNat∈p)) (bA b_ f);have a:=jY (m:=m) (ks:=bA b_ f) (by unfold bA;exact(gO _ [] XW).1) (dh ok f)
 have:=ok.most
 omega
theorem yh{g:MH->Prop}{t:dk}{c:WT}{e:WE}{F:List D->MH->Prop}{f:D->List D}{ok:DS->Prop}{M:MH}:∀{xs:List D}(e_:List D) (σ:DS),ok σ ->
  (∀x∈xs,∀σ e_ rest,ok σ->(∀a,ok a->aq g t c e F rest (e_++f x) a M)->aq g t c e F (x::rest) e_ σ M)->F (e_++xs.flatMap f) M->aq g t c e F xs e_ σ M
 |[],e_,σ,_,_,q=>by
  rw[List.flatMap_nil,ZA] at q;exact q
 |x::xs,e_,σ,h,st,q=>st x ZX σ e_ xs h λa h'=>yh (e_++f x) a h' (λy hy=>st y (.tail _ hy)) (by rw[List.flatMap_cons,←ZB] at q;exact q)
def pT:Ss:=#v[.ret (.bl true)]
def wq:Ss:=#v[.ite (.or (.cmp .NotEq (.fn 1 #v[.var 5,.var 8]) (.var 11)) (.cmp .NotEq (.fn 1 #v[.var 6,.var 8]) (.var 11))) #v[.ret (.bl false)] .nil]
def wt:Ss:=.cons (.ite (.not (.val (.fn 2 #v[.var 11,.var 8,.var 9]))) #v[.ret (.bl false)] .nil) wq
def lI:Ss:=.cons (.set 11 (.fn 1 #v[.var 5,.var 8])) wt
def pU:Ss:=#v[.set 9 (.bin .Add (.var 9) (.comp 2 (.tup #v[.var 10,.var 12,.var 13]) (.tp [12,13]) (.seq (.ix (.var 7) (.var 10))) (.yes (.cmp .In (.var 12) (.var 8)))))]
def wu:Ss:=.cons (.for (.nm 10) (.seq (.var 8)) pU) lI
def lJ:Ss:=.cons (.set 9 (.lst .nil)) wu
def wv:Ss:=.cons (.for (.nm 8) (.seq (.fn 0 #v[.var 5])) lJ) pT
def pV:Ss:=.cons (.set 7 (.fn 3 #v[.var 4,.var 2])) wv
def pX:Ss:=.cons (.set 6 (.fn 4 #v[.var 2,.comp 2 (.tup #v[.var 12,.bk .list #v[.var 13]]) (.tp [12,13]) (.seq (.var 4)) .no])) pV
def nz:Ss:=.cons (.set 5 (.fn 4 #v[.var 2,.comp 2 (.tup #v[.var 12,.bk .list #v[.var 13]]) (.tp [12,13]) (.seq (.var 4)) .no])) pX
def tL:Ss:=.cons (.ite (.cmp .Eq (.bin .Mod (.bin .FloorDiv (.var 1) (.int 2)) (.int 3)) (.int 0)) #v[.setC 4 1 (.fn 5 #v[.var 12]) (.nm 12) (.seq (.var 4)) .no] .nil) nz
def nC:Ss:=.cons (.setC 4 1 (.fn 6 #v[.lst #v[.var 12,.var 3],.var 2]) (.nm 12) (.seq (.sl (.var 0) (.yes (.int 2)) (.yes (.int 63)))) .no) tL
def nE:Ss:=.cons (.set 3 (.bin .Sub (.int 1) (.bin .Mod (.fn 7 #v[.var 0,.int 1]) (.int 2)))) nC
def tM:Ss:=.cons (.set 2 (.bin .Add (.int 1) (.bin .Mod (.bin .FloorDiv (.var 1) (.int 6)) (.ix (.lst #v[.int 8,.int 24]) (.bin .Mod (.var 1) (.int 2)))))) nE
def rQ:Ss:=.cons (.set 1 (.fn 7 #v[.var 0,.int 0])) tM
def ug:aK:=λds M Q=>∃(a:Addr) (ns:Zi),ds=[.ref a]/\M a=some (.rol (ns.map .int))/\ns.length<=63/\∀M',Q (.bl true) M'
def JE(p:Zj)(f:Nat):D->List D
 |.tup [.int i,.bl b]=>cond (gC (.int i) (nats p)) [.tup [⇑f,.int i,.bl b]] []
 |_=>[]
def JF(ok:cx m b_)(p:Zj)(f:Nat):((bA b_ f).map pD).flatMap (JE p f)=(cO b_ p f).map b9:=by
 unfold cO;rw[ZM];have fit:=dh ok f;generalize bA b_ f=l at *;induction l with
 |nil=>rfl
 |cons k l b=>
  have a:=(fit k (.head _)).1;rw[YK,List.flatMap_cons,b λy hy=>fit y (.tail _ hy),List.filter_cons];show cond (gC (.int k.1) (nats p)) [D.tup [⇑f,.int k.1,.bl k.2]] []++_=_;rw[yb a];by_cases hk:k.1.toNat∈p
  .rw[YU hk,if_pos rfl,YK]
   show D.tup [⇑f,.int k.1,.bl k.2]::_=D.tup [⇑f,.int ((k.1.toNat:Nat):Int),.bl k.2]::_;rw[Int.toNat_of_nonneg a];rfl
  .rw[ZP hk,if_neg YE]
   rfl
section
variable {cn:Cn}{ds:List D}{M:MH}{Q:DK}{c:CA}{S:Addr}
theorem JG(f0:cn.F.getD 0 'f'=oo c S)(f1:cn.F.getD 1 'f'=nr c S)(f2:cn.F.getD 2 'f'=oz)(f3:cn.F.getD 3 'f'=j0)(f4:cn.F.getD 4 'f'=bW S (hV c S))(f5:cn.F.getD 5 'f'=uf)
  (f6:cn.F.getD 6 'f'=rN) (f7:cn.F.getD 7 'f'=lC) (h:ug ds M Q):wSs cn rQ (fin Q) (az ["","","","","","","","","","","",""] ds) M:=by
 obtain⟨a,ns,rfl,hM,RX,q⟩:=h;show wSs cn rQ (fin Q) [↑a,none,none,none,none,none,none,none,none,none,none,none] M;unfold rQ;simp! only[List.set,f7];refine⟨a,ns,0,rfl,hM,?_⟩;generalize cellAt ns 0=first
 -- how al facts
 have al:∀K:DK,(∀(m:Nat) M1,1<=m->m<=24->ae M M1->K (⇑m) M1)->wE cn (.bin .Add (.int 1) (.bin .Mod (.bin .FloorDiv (.var 1) (.int 6)) (.ix (.lst (.cons (.int 8) (.cons (.int 24) .nil))) (.bin .Mod (.var 1) (.int 2))))) [↑a,some (.int first),none,none,none,none,none,none,none,none,none,none] M K:=by
  intro K hK;simp! only[];refine⟨⟨by decide,by decide⟩,λp hp=>?_⟩;have e1:=ae.new hp (o:=.lst [.int 8,.int 24]);rw[aa];generalize ab M p (MO.lst [.int 8,.int 24])=M1 at *;have Qt:∀n:Int,0<n->n<=24->∀z:Int,0<=z->z<n->K (.int (1+z)) M1:=λn _ h2 z h3 h4=>by
   have:=hK (1+z).toNat M1 'a' 'a' e1
   rwa [Int.toNat_of_nonneg 'a'] at this
  refine⟨by decide,?_⟩;have h3:=pR (y:=first) (m:=2) 'c';have cs:first%2=0\/first%2=1:=by omega
  rcases cs with z | z<;>rw[z]
  .simp! only[bg]
   have b:=pR (y:=first / 6) (m:=8) 'c';exact⟨by decide,Qt 8 'c' 'c' _ b.1 b.2⟩
  .simp! only[bH]
   have b:=pR (y:=first / 6) (m:=24) 'c';exact⟨by decide,Qt 24 'c' 'c' _ b.1 b.2⟩
 unfold tM;show wE cn _ _ M _;refine al _ λm M1 VT NC e1=>?_
 clear al;have O6:=e1 _ _ hM;show wSs cn nE (fin Q) [↑a,some (.int first),~~~m,none,none,none,none,none,none,none,none,none] M1;unfold nE;simp! only[List.set,f7];refine⟨a,ns,1,rfl,O6,by decide,?_⟩;obtain⟨d,O7,S3,ed⟩:∃d:Int,0<=d/\d<=1/\1-cellAt ns 1%2=d:=by
  have:=pR (y:=cellAt ns 1) (m:=2) 'c'
  exact⟨_,by omega,by omega,rfl⟩
 show wSs cn nC (fin Q) [↑a,some (.int first),~~~m,some (.int (1-cellAt ns 1%2)),none,none,none,none,none,none,none,none] M1;rw[ed];clear ed
 -- the b_,and all J them
 have rest:∀(R:Nat) (e_:List D) (b_:Zx) (g:MH),ae M1 g->g R=some (.lst e_)->bq g e_ b_->cx m b_->wSs cn nz (fin Q) [↑a,some (.int first),~~~m,some (.int d),↑R,none,none,none,none,none,none,none] g:=by
  intro R e_ b_ g S6 O A6 ok
  -- a MY of these b_
  have MY:∀(j:MH) (v5:Zy) (Z:DK),ae g j->(∀sh M9,ae j M9->c7 c S M9 sh m b_->Z (.ref sh) M9) ->
    wE cn (.fn 4 (.cons (.var 2) (.cons (.comp 2 (.tup (.cons (.var 12) (.cons (.bk .list (.cons (.var 13) .nil)) .nil))) (.tp [12,13]) (.seq (.var 4)) .no) .nil))) [↑a,some (.int first),~~~m,some (.int d),↑R,v5,none,none,none,none,none,none] j Z:=by
   intro j v5 Z G hZ;have A7:=A6.ext G;have g7:=G _ _ O;have ap:∀(F:List D->MH->Prop) (xs:List D) (F' dn:Zx) (W:List D) (v2 v3:Zy) (A:MH),bq j xs F'->ae j A->bq A W dn->(∀G' P,ae j P->bq P G' (dn++F')->F G' P) ->
     aq (λM'=>M' R=some (.lst e_)) (.tp [12,13]) (λx M Q=>Q true M) (wE cn (.tup (.cons (.var 12) (.cons (.bk .list (.cons (.var 13) .nil)) .nil)))) F xs W [↑a,some (.int first),~~~m,some (.int d),↑R,v5,none,none,none,none,none,none,v2,v3] A:=by
    intro F xs F' dn e_ v2 v3 A hx;induction hx generalizing dn e_ v2 v3 A with
    |nil=>
     intro T h5 k;rw[aq];rw[ZA] at k;exact k e_ A T h5
    |@cons d x xs F' hd _ ih=>
     intro T h5 k;obtain⟨q1,rfl,Ni⟩:=hd;have WW:=T _ _ Ni;rw[aq];simp! only[List.set,tE,kC,WW,qD,bM];refine⟨rfl,λr U=>?_⟩;have V:=T.then (o:=MO.lst (x.2.map CT.told)) U;refine⟨V _ _ g7,ih (dn++[x]) _ _ _ _ V ?_ ?_⟩
     .exact ba (bq.ext (ae.new U) h5) (.cons ⟨r,rfl,aa⟩ .nil)
     .intro G' g e h
      rw[ZB] at h;exact k G' g e h
   simp! only[List.set,List.cons_append,List.nil_append,List.replicate,g7,f4];refine ap _ e_ b_ [] [] none none j A7 (ae.refl j) .nil ?_;intro Nk P Y hA r U;rw[List.nil_append] at hA;have e9:=Y.then (o:=MO.lst Nk) U;have g9:ab P r (MO.lst Nk) r=some (.lst Nk):=aa;have A9:=hA.ext (ae.new (o:=MO.lst Nk) U);generalize ab P r (MO.lst Nk)=M9 at *;intro sh QP;have es:ae M9 (ab M9 sh (.ins S [])):=ae.new QP;refine⟨sh,m,r,Nk,b_,rfl,aa,es _ _ g9,A9.ext es,ok,λMf WX Q6=>?_⟩;exact⟨rfl,hZ sh Mf (e9.trans (ExtBut.ext es WX QP)) Q6⟩
  unfold nz;show wE cn _ _ g _;refine MY g none _ (ae.refl _) λsh j G S7=>?_
  show wSs cn pX (fin Q) [↑a,some (.int first),~~~m,some (.int d),↑R,↑sh,none,none,none,none,none,none] j;unfold pX;show wE cn _ _ j _;refine MY j _ _ G λot P Y O8=>?_
  clear MY;have Qu:=G.trans Y;show wSs cn pV (fin Q) [↑a,some (.int first),~~~m,some (.int d),↑R,↑sh,↑ot,none,none,none,none,none] P;unfold pV;simp! only[List.set,f3];refine⟨R,m,e_,b_,rfl,Qu _ _ O,A6.ext Qu,ok,λLn M9 X1 e9 L9=>?_⟩;have S9:=S7.ext (Y.trans e9);have O9:=O8.ext e9;unfold wv;simp! only[List.set,f0];refine⟨sh,m,b_,rfl,S9,λfo Mf X2 MP UX=>?_⟩;have Q6:=S9.ext MP;have WY:=O9.ext MP;have Pp:=L9.ext MP;simp only[UX]
  -- a part
  have body:∀(E:cG) (p:Zj) (v9 B C:Zy) (A:MH),p∈m9 b_ m->ae Mf A->(∀v9 B C g,ae Mf g->E.nx [↑a,some (.int first),~~~m,some (.int d),↑R,↑sh,↑ot,↑Ln,some (ay p),v9,B,C] g) ->
    wSs cn lJ E [↑a,some (.int first),~~~m,some (.int d),↑R,↑sh,↑ot,↑Ln,some (ay p),v9,B,C] A:=by
   intro E p v9 B C A hp T kk;obtain⟨p0,p1,p2,p3⟩:=G5 ok hp;have hsz:(4000:Nat)<sizeLine:=by decide
   have WZ:=EA ok p;obtain⟨r,U⟩:=G6 p0 (BG ok p);obtain⟨xs,W0,px,dx⟩:=BH U;have ring:∀(w:Addr) (g:MH) (Z:DK),c7 c S g w m b_->(∀j,ae g j->Z r j)->nr c S [.ref w,ay p] g Z:=λw g Z hw hZ=>⟨w,m,b_,p,r,rfl,hw,p2,by omega,U,hZ⟩
   -- J the walk over d_ facts
   have J:∀(I:Addr) (B:Zy) (g:MH),ae Mf g->g I=some (.lst ((p.flatMap (cO b_ p)).map b9)) ->
     wSs cn lI E [↑a,some (.int first),~~~m,some (.int d),↑R,↑sh,↑ot,↑Ln,some (ay p),↑I,B,C] g:=by
    intro I B g V O;unfold lI;simp! only[List.set,f1];refine ring sh g _ (Q6.ext V) λj G=>?_
    have W2:=V.trans G;unfold wt;simp! only[List.set,f2];refine⟨LK b_ p,p,r,I,_,rfl,G _ _ O,U,BG ok p,JD ok p,p3,by omega,λP Y=>?_⟩;have Qu:=W2.trans Y;simp only[Bool.not_true,aB];unfold wq;simp! only[List.set,f1];refine ring sh P _ (Q6.ext Qu) λM9 e9=>?_
    subst W0;have ee:aU (.tup xs) (.tup xs)=true:=by rw[aU,mI _ px]
    have UY:=Qu.trans e9;refine⟨⟨by rw[aP];exact px,by rw[aP];exact px,by rw[db];omega⟩,?_⟩;rw[ee];simp only[Bool.not_true,aB];refine ring ot M9 _ (WY.ext UY) λQ1 W3=>?_
    refine⟨⟨by rw[aP];exact px,by rw[aP];exact px,by rw[db];omega⟩,?_⟩;rw[ee];simp only[Bool.not_true,aB];exact kk _ _ _ Q1 (UY.trans W3)
   have step:∀(l dn:Zj) (I:Addr) (B:Zy) (g:MH),p=dn++l->60*dn.length<=60*p.length->ae Mf g->g I=some (.lst ((dn.flatMap (cO b_ p)).map b9))->(dn.flatMap (cO b_ p)).length<=60*dn.length ->
     aC (λ_=>True) (.nm 10) (wSs cn pU) { E with nx:=wSs cn lI E } (nats l) [↑a,some (.int first),~~~m,some (.int d),↑R,↑sh,↑ot,↑Ln,some (ay p),↑I,B,C] g:=by
    intro l;induction l with
    |nil=>
     intro dn I B g hd _ V O _;rw[show nats []=[] from rfl,aC];rw[ZA] at hd;subst hd;exact J I B g V O
    |cons f l ih=>
     intro dn I B g hd hn V O hl;rw[show nats (f::l)=⇑f::nats l from rfl,aC];have hf:f∈p:=by rw[hd];exact YG _ (.head _)
     have Pn:=p2 f hf;obtain⟨rs,l1,l2,l3⟩:=Pp.ext V;have hz:rs[f]?=some (rs[f]' 'a'):=ZD 'a';have Ql:=l3 f _ hz;have Wj:dn.length+1<=p.length:=by rw[hd,ZK,YI];omega
     unfold pU;simp! only[List.set,List.cons_append,List.nil_append,List.replicate,l1,i6 hz,Ql];refine yh (f:=JE p f) (ok:=λσ=>∃v v',σ=[↑a,some (.int first),~~~m,some (.int d),↑R,↑sh,↑ot,↑Ln,some (ay p),↑I,~~~f,C,v,v']) [] _ ⟨none,none,rfl⟩ ?_ ?_
     .intro y hy σ W OA ⟨v,v',hv⟩ k0
      subst hv;obtain⟨k,hk,rfl⟩:=XX.1 hy;have k1:=k0 _ ⟨some (.int k.1),some (.bl k.2),rfl⟩;rw[show JE p f (pD k)=cond (gC (.int k.1) (nats p)) [.tup [⇑f,.int k.1,.bl k.2]] [] from rfl] at k1;have run:∀Z:Bool->MH->Prop,Z (gC (.int k.1) (nats p)) g->nM (jI uR (λσ M Q=>lc σ 12 λd=>Q d M) λσ M Q=>lc σ 8 λd=>Q d M) [↑a,some (.int first),~~~m,some (.int d),↑R,↑sh,↑ot,↑Ln,some (ay p),↑I,~~~f,C,some (.int k.1),some (.bl k.2)] g Z:=by
       intro Z hZ;simp! only[ay];exact⟨⟨rfl,rK p,zW p⟩,hZ⟩
      rw[aq];refine⟨rfl,?_⟩;show nM (jI uR (λσ M Q=>lc σ 12 λd=>Q d M) λσ M Q=>lc σ 8 λd=>Q d M) [↑a,some (.int first),~~~m,some (.int d),↑R,↑sh,↑ot,↑Ln,some (ay p),↑I,~~~f,C,some (.int k.1),some (.bl k.2)] g _;refine run _ ?_;cases hb:gC (.int k.1) (nats p) with
      |true=>rw[hb] at k1;rw[a8];exact⟨Ql,k1⟩
      |false=>
       rw[hb] at k1;rw[show W++cond false [D.tup [⇑f,.int k.1,.bl k.2]] []=W from ZA W] at k1;rw[aB];exact⟨Ql,k1⟩
     .rw[List.nil_append,JF ok p f]
      intro p7 Nm;have n7:I≠p7:=λz=>by rw[z,Nm] at O;cases O
      have G:=V.then Nm (o:=.lst ((cO b_ p f).map b9));have g7:ab g p7 (MO.lst ((cO b_ p f).map b9)) p7=some (.lst ((cO b_ p f).map b9)):=aa;have W4:ab g p7 (MO.lst ((cO b_ p f).map b9)) I=some (.lst ((dn.flatMap (cO b_ p)).map b9)):=by rw[aJ n7];exact O
      generalize ab g p7 (MO.lst ((cO b_ p f).map b9))=j at *;simp! only[g7,W4];have X3:=WZ f;refine⟨by rw[ZF,ZF];omega,λp8 Ob=>⟨trivial,?_⟩⟩;have Y:=G.then Ob (o:=.lst ((dn.flatMap (cO b_ p)).map b9++(cO b_ p f).map b9));have ef:(dn++[f]).flatMap (cO b_ p)=dn.flatMap (cO b_ p)++cO b_ p f:=by rw[List.flatMap_append,List.flatMap_cons,List.flatMap_nil,ZA]
      refine ih (dn++[f]) p8 _ _ (by rw[hd];simp) (by rw[ZK,YZ];omega) Y ?_ ?_
      .rw[aa,ef,ZL]
      .rw[ef,ZK,ZK,YZ];omega
   unfold lJ;simp! only[List.set];intro I W5;have V:=T.then W5 (o:=.lst []);have O:ab A I (MO.lst []) I=some (.lst ((([]:List Nat).flatMap (cO b_ p)).map b9)):=aa;generalize ab A I (MO.lst [])=g at *;unfold wu;simp! only[List.set,ay];exact step p [] I _ g rfl (YL _) V O (YF _)
  have all:∀(l:List (List Nat)) (v8 v9 B C:Zy) (A:MH),(∀p∈l,p∈m9 b_ m)->ae Mf A ->
    aC (λM'=>M' fo=some (.lst ((m9 b_ m).map ay))) (.nm 8) (wSs cn lJ) { nx:=wSs cn pT (fin Q),rt:=Q } (l.map ay) [↑a,some (.int first),~~~m,some (.int d),↑R,↑sh,↑ot,↑Ln,v8,v9,B,C] A:=by
   intro l;induction l with
   |nil=>
    intro v8 v9 B C A _ T;rw[YY,aC];unfold pT;simp! only[];exact q A
   |cons p l ih=>
    intro v8 v9 B C A hl T;rw[YK,aC];exact body _ p v9 B C A (hl p (.head _)) T λv9 B C g V=>⟨V _ _ UX,ih _ v9 B C g (λy hy=>hl y (.tail _ hy)) V⟩
  exact all (m9 b_ m) none none none none Mf (λp hp=>hp) (ae.refl _)
 have run:∀(x:Int) (A:MH) (Z:DK),(∀(r:Row) pc j,r.1<m->r.2.length<=6->(∀t∈r.2,t.fit (m:Int))->ae A j->j pc=some (.lst (r.2.map CT.told))->Z (.tup [⇑r.1,.ref pc]) j) ->
   wE cn (.fn 6 (.cons (.lst (.cons (.var 12) (.cons (.var 3) .nil))) (.cons (.var 2) .nil))) [↑a,some (.int first),~~~m,some (.int d),none,none,none,none,none,none,none,none,some (.int x)] A Z:=by
  intro x A Z hZ;simp! only[f6];intro pb Qm;have eb:ae A (ab A pb (.lst [.int x,.int d])):=ae.new Qm;refine⟨pb,x,d,m,rfl,aa,O7,by omega,⟨by omega,by omega⟩,λf ts pc j b7 d7 hf hl ht Oz B7 g7=>?_⟩;exact hZ (f,ts) pc j hf hl ht (ExtBut.ext eb B7.but Qm) g7
 unfold nC;simp! only[List.set,List.cons_append,List.nil_append,List.replicate,O6,bM];intro L hL;have W6:(cC (ns.map D.int) (some (2:Int)) (some (63:Int))).length<=63:=GW _ 2 63;have OJ:∀d∈cC (ns.map D.int) (some (2:Int)) (some (63:Int)),∃c,d=D.int c:=λd hd=>by
  obtain⟨c,-,rfl⟩:=XX.1 (GX hd);exact⟨c,rfl⟩
 generalize cC (ns.map D.int) (some (2:Int)) (some (63:Int))=cells at *;have e2:ae M1 (ab M1 L (.lst cells)):=ae.new hL;have g2:ab M1 L (MO.lst cells) L=some (.lst cells):=aa;generalize ab M1 L (MO.lst cells)=M2 at *;simp only[g2];have step:∀(F:List D->MH->Prop),(∀(e_:List D) (b_:Zx) (A:MH),ae M2 A->bq A e_ b_->cx m b_->F e_ A)->∀(xs e_:List D) (rs:Zx) (v:Zy) (A:MH),(∀d∈xs,∃c,d=D.int c)->rs.length+xs.length<=63->ae M2 A->bq A e_ rs->(∀x∈rs,x.1<m/\x.2.length<=6/\∀t∈x.2,t.fit (m:Int)) ->
   aq (λM'=>M' L=some (.lst cells)) (.nm 12) (λx M Q=>Q true M) (wE cn (.fn 6 (.cons (.lst (.cons (.var 12) (.cons (.var 3) .nil))) (.cons (.var 2) .nil)))) F xs e_ [↑a,some (.int first),~~~m,some (.int d),none,none,none,none,none,none,none,none,v] A:=by
  intro F K xs;induction xs with
  |nil=>
   intro e_ rs v A _ hl T A5 hf;rw[aq];exact K e_ rs A T A5 ⟨by omega,by rw[YT] at hl;omega,hf⟩
  |cons y xs ih=>
   intro e_ rs v A hx hl T A5 hf;obtain⟨z,rfl⟩:=hx y (.head _);rw[YI] at hl;rw[aq];show wE cn _ [↑a,some (.int first),~~~m,some (.int d),none,none,none,none,none,none,none,none,some (.int z)] A _;refine run z A _ λr pc j r1 r2 r3 G g7=>⟨(T.trans G) _ _ g2,?_⟩
   refine ih (e_++[_]) (rs++[r]) _ j (λd hd=>hx d (.tail _ hd)) (by rw[ZK,YZ];omega) (T.trans G) (ba (A5.ext G) (.cons ⟨pc,rfl,g7⟩ .nil)) λx hx=>?_
   rcases YA.1 hx with z | z
   .exact hf x z
   .rw[XM.1 z];exact⟨r1,r2,r3⟩
 refine step _ (λe_ b_ A T A5 ok=>?_) cells [] [] none M2 OJ (by simpa using W6) (ae.refl _) .nil (λx hx=>nomatch hx);clear step run;intro R hR;have eR:ae A (ab A R (.lst e_)):=ae.new hR;have A6:=A5.ext eR;have O:ab A R (MO.lst e_) R=some (.lst e_):=aa;generalize ab A R (MO.lst e_)=g at *;have S6:ae M1 g:=e2.trans (T.trans eR)
 -- the b_ made shorter
 have S_:∀(r:Row) (q1:Addr) (j:MH) (Z:DK),j q1=some (.lst (r.2.map CT.told))->(∀p P,ae j P->P p=some (.lst ((nu r).2.map CT.told))->Z (.tup [⇑r.1,.ref p]) P)->wE cn (.fn 5 (.cons (.var 12) .nil)) [↑a,some (.int first),~~~m,some (.int d),↑R,none,none,none,none,none,none,none,some (.tup [⇑r.1,.ref q1])] j Z:=by
  intro r q1 j Z h7 hZ;simp! only[f5];exact⟨r,q1,rfl,h7,hZ⟩
 have Ta:∀(F:List D->MH->Prop),(∀(G':List D) (j:MH),ae g j->bq j G' (b_.map nu)->F G' j)->∀(xs:List D) (F' dn:Zx) (W:List D) (v:Zy) (j:MH),bq g xs F'->b_=dn++F'->ae g j->bq j W (dn.map nu) ->
   aq (λM'=>M' R=some (.lst e_)) (.nm 12) (λx M Q=>Q true M) (wE cn (.fn 5 (.cons (.var 12) .nil))) F xs W [↑a,some (.int first),~~~m,some (.int d),↑R,none,none,none,none,none,none,none,v] j:=by
  intro F K xs F' dn W v j hx;induction hx generalizing dn W v j with
  |nil=>
   intro U G A7;rw[aq];rw[ZA] at U;rw[←U] at A7;exact K W j G A7
  |@cons x r xs F' hd _ ih=>
   intro U G A7;obtain⟨q1,rfl,Ni⟩:=hd;rw[aq];show wE cn (.fn 5 (.cons (.var 12) .nil)) [↑a,some (.int first),~~~m,some (.int d),↑R,none,none,none,none,none,none,none,some (.tup [⇑r.1,.ref q1])] j λy M2=>M2 R=some (.lst e_)/\aq (λM'=>M' R=some (.lst e_)) (.nm 12) (λx M Q=>Q true M) (wE cn (.fn 5 (.cons (.var 12) .nil))) F xs (W++[y]) [↑a,some (.int first),~~~m,some (.int d),↑R,none,none,none,none,none,none,none,some (.tup [⇑r.1,.ref q1])] M2
   refine S_ r q1 j _ (G _ _ Ni) λp P Y g8=>⟨(G.trans Y) _ _ O,?_⟩
   refine ih (dn++[r]) _ _ P (by rw[U];simp) (G.trans Y) ?_;rw[ZL];exact ba (A7.ext Y) (.cons ⟨p,rfl,g8⟩ .nil)
 have W7:cx m (b_.map nu):=by
  refine⟨ok.most,by rw[ZF];exact ok.few,λx hx=>?_⟩;obtain⟨r,U,rfl⟩:=XX.1 hx;obtain⟨o1,o2,o3⟩:=ok.fit r U;refine⟨o1,?_,λt ht=>o3 t (ZU.1 (List.mem_of_mem_take ht)).1⟩;show((r.2.filter BD).take 2).length<=6;rw[YR];omega
 unfold tL;simp! only[List.set,List.cons_append,List.nil_append,List.replicate,O];refine⟨⟨by decide,by decide⟩,by decide,⟨rfl,rfl,by rw[ao];exact YL _⟩,?_⟩;refine yD (λ_=>?_) (λ_=>?_)
 .refine Ta _ (λG' j G A7 R2 UZ=>?_) e_ b_ [] [] none g A6 rfl (ae.refl _) .nil
  exact rest R2 G' (b_.map nu) _ (S6.trans (G.then UZ)) aa (A7.ext (ae.new UZ)) W7
 .exact rest R e_ b_ g S6 O A6 ok
end
end SG
namespace K22
open PySem L2 DD
abbrev kX:List Str:=["many","leanings","found","row","row_leaned","fact","lack"]
abbrev j6:List Str:=["many","leanings"]
def rR:bX kX j6 (ai gJ):=⟨rfl,rfl,rfl,by rfl',rfl,by rfl',by rfl'⟩
abbrev rS:List Str:=[]
def rT:cg ⟨kX,ai gJ,true,fH,iD,rS⟩ SH.dD (aO gJ)=true:=by rfl'
abbrev Fg:List Str:=["_law_script","_law_first","_law_many","_law_mode","_law_rows","_law_sheet","_law_other","_law_leaned_here","_law_part","_law_inner","_law_fact","_law_found"]
abbrev JH:List Str:=["_law_script"]
def JI:bX Fg JH (ai qu):=⟨rfl,rfl,rfl,by rfl',rfl,by rfl',by rfl'⟩
abbrev JJ:List Str:=["parts_of","ring_of","_law_shown","_law_leaned","Sheet","_law_two","_law_row","_law_cell_at"]
def JK:cg ⟨Fg,ai qu,true,fH,iD,JJ⟩ SG.rQ (aO qu)=true:=by rfl'
end K22
namespace K22
open PySem PySem.Spec PyProof.Rows L2 DD
variable {fns ps N blt glob:Zf}{sp:aK}{ir:Ss}{cn:Cn}{x i':Str}{st:Stmt}{C a b d:Addr}{P:List Value->Prop}{h:Heap}{j:Nat}
theorem LV(h:P []):∀us:List Value,us.length=0->P us
 |[],_=>h
theorem JL(h:∀a,P [a]):∀us:List Value,us.length=1->P us
 |a::t,hl=>LV (P:=λt=>P (a::t)) (h a) t (Nat.succ.inj hl)
 |[],hl=>nomatch hl
theorem Fh(h:∀a b,P [a,b]):∀us:List Value,us.length=2->P us
 |a::t,hl=>JL (P:=λt=>P (a::t)) (h a) t (Nat.succ.inj hl)
 |[],hl=>nomatch hl
theorem KK(h:∀a b c,P [a,b,c]):∀us:List Value,us.length=3->P us
 |a::t,hl=>Fh (P:=λt=>P (a::t)) (h a) t (Nat.succ.inj hl)
 |[],hl=>nomatch hl
theorem KL(h:∀a b c d,P [a,b,c,d]):∀us:List Value,us.length=4->P us
 |a::t,hl=>KK (P:=λt=>P (a::t)) (h a) t (Nat.succ.inj hl)
 |[],hl=>nomatch hl
theorem KM(h:∀a b c d e,P [a,b,c,d,e]):∀us:List Value,us.length=5->P us
 |a::t,hl=>KL (P:=λt=>P (a::t)) (h a) t (Nat.succ.inj hl)
 |[],hl=>nomatch hl
theorem LW(h:∀a b c d e f,P [a,b,c,d,e,f]):∀us:List Value,us.length=6->P us
 |a::t,hl=>KM (P:=λt=>P (a::t)) (h a) t (Nat.succ.inj hl)
 |[],hl=>nomatch hl
local macro_rules
 | `(tactic| ac_rfl) => `(tactic| exact ⟨rfl, rfl, rfl, by rfl', rfl, by rfl', by rfl'⟩)
abbrev nO(st:Stmt):List Str:=((ai st).names.filter λp=>p.2==.local || p.2==.cell).map (·.1)
local macro_rules
 | `(tactic| ac_nf) => `(tactic| first | exact λ_ _ _ _ _ _ => JL λ_ => rfl | exact λ_ _ _ _ _ _ => Fh λ_ _ => rfl | exact λ_ _ _ _ _ _ => KK λ_ _ _ => rfl | exact λ_ _ _ _ _ _ => KL λ_ _ _ _ => rfl | exact λ_ _ _ _ _ _ => KM λ_ _ _ _ _ => rfl | exact λ_ _ _ _ _ _ => LW λ_ _ _ _ _ _ => rfl)
local macro_rules
 | `(tactic| bv_omega) => `(tactic|(intro ds M Q h;repeat first|(obtain⟨e,_⟩:=h;subst e;rfl)|obtain⟨_,h⟩:=h))
def sG(c:SH.CA):tx:=λa m=>(SH.kindAt c a).bind λk=>if m = "leaning" then some (SH.bV c k) else none
def nF(c:SH.CA)(S:Addr):tx:=λa m=>if a=S then(if m = "how_many" then some (SH.im c S) else if m = "leaned" then some (SG.gP c S) else none) else none
def BI(S:Addr):qN:=λC f=>C=S/\f∈SH.m7
section
variable {P:Zv}{w:World}{K:Za}{mg:Ze}{base:Heap}{c:SH.CA}{S:Addr}{k:Nat}
def ww(h:c.apart)(t:SH.CT):sG c (c.at t.kind) "leaning" = some (SH.bV c t.kind):=by
 unfold sG;rw[h _ t.kind_lt];rfl
def tX:nF c S S "how_many" = some (SH.im c S):=by unfold nF;rw[if_pos rfl];kernel_rfl
def o9:nF c S S "leaned" = some (SG.gP c S):=by unfold nF;rw[if_pos rfl];kernel_rfl
def KN(A:bo K x st)(X:K.In h)(G:h.Ns mainGlobals mg)
  (hb:∀(kV v_ pm:Value) (an:Zm) (r_ ct:Value) (us:Zd),us.length=ps.length->bindArgs (PySem.W.fnOf x x (bp st) (aO st) (ai st) .none kV v_ pm an r_ ct) ⟨us,[]⟩=pure (ps.zip us))
  (S:bX N ps (ai st)) (nm:Names P w K mg base k glob blt fns cn) (hc:cg ⟨N,ai st,true,glob,blt,fns⟩ ir (aO st)=true) (len:∀ds M Q,sp ds M Q->ds.length=ps.length)
  (h':∀ds M Q,sp ds M Q->wSs cn ir { nx:=λ_ M'=>Q .non M',rt:=Q } (az N ds) M):bG P w K mg base (k+1) x sp:=by
 obtain⟨_,_,A⟩:=A;exact Jf (A.def_ X G hb) S nm hc len h'
def Kw(cl:fS K C)(A:dB K C x i' st)(S:bX N ps (ai st))(nm:Names P w K mg base k glob blt fns cn)
  (hb:∀(kV v_ pm:Value) (an:Zm) (r_ ct:Value) (us:Zd),us.length=ps.length->bindArgs (PySem.W.fnOf x i' (bp st) (aO st) (ai st) .none kV v_ pm an r_ ct) ⟨us,[]⟩=pure (ps.zip us))
  (hc:cg ⟨N,ai st,true,glob,blt,fns⟩ ir (aO st)=true) (len:∀ds M Q,sp ds M Q->ds.length=ps.length)
  (h:∀ds M Q,sp ds M Q->wSs cn ir { nx:=λ_ M'=>Q .non M',rt:=Q } (az N ds) M):cI P w K mg base (k+1) C x sp:=by
 obtain⟨_,_,A⟩:=A;exact DT cl A S nm hb hc len h
def BJ(hx:mg x=some (.ref C))(hm:PySem.W.makesIn K C=true)(hk:PySem.W.keepIn K (.ref C)=true)(A:dB K C "__init__" i' st)
  (S:bX N ps (ai st)) (nm:Names P w K mg base k glob blt fns cn)
  (hb:∀(kV v_ pm:Value) (an:Zm) (r_ ct:Value) (us:Zd),us.length=ps.length->bindArgs (PySem.W.fnOf "__init__" i' (bp st) (aO st) (ai st) .none kV v_ pm an r_ ct) ⟨us,[]⟩=pure (ps.zip us))
  (hc:cg ⟨N,ai st,true,glob,blt,fns⟩ ir (aO st)=true) (len:∀ds M Q,sp ds M Q->ds.length=ps.length)
  (h:∀ds M Q,sp ds M Q->wSs cn ir { nx:=λ_ M'=>Q .non M',rt:=Q } (az N ds) M):dC P w K mg base (k+2) x (bW C sp):=by
 obtain⟨_,_,A⟩:=A;exact Jg hx hm hk A S nm hb hc len h
theorem cc(n:Nat)(A:bo K x st)(X:K.In h)(G:h.Ns mainGlobals mg)(nm:Names P w K mg base k fH iD fns cn)(h':∀ds M Q,sp ds M Q->wSs cn ir { nx:=λ_ M'=>Q .non M',rt:=Q } (az (nO st) ds) M)
 (hb:∀(kV v_ pm:Value) (an:Zm) (r_ ct:Value) (us:Zd),us.length=((nO st).take n).length->bindArgs (PySem.W.fnOf x x (bp st) (aO st) (ai st) .none kV v_ pm an r_ ct) ⟨us,[]⟩=pure (((nO st).take n).zip us):=by ac_nf)
 (S:bX (nO st) ((nO st).take n) (ai st):=by ac_rfl) (hc:cg ⟨nO st,ai st,true,fH,iD,fns⟩ ir (aO st)=true:=by rfl') (len:∀ds M Q,sp ds M Q->ds.length=((nO st).take n).length:=by bv_omega):bG P w K mg base (k+1) x sp:=KN A X G hb S nm hc len h'
theorem oC(n:Nat)(cl:fS K C)(A:dB K C x i' st)(nm:Names P w K mg base k fH iD fns cn)(h:∀ds M Q,sp ds M Q->wSs cn ir { nx:=λ_ M'=>Q .non M',rt:=Q } (az (nO st) ds) M)
 (hb:∀(kV v_ pm:Value) (an:Zm) (r_ ct:Value) (us:Zd),us.length=((nO st).take n).length->bindArgs (PySem.W.fnOf x i' (bp st) (aO st) (ai st) .none kV v_ pm an r_ ct) ⟨us,[]⟩=pure (((nO st).take n).zip us):=by ac_nf)
 (S:bX (nO st) ((nO st).take n) (ai st):=by ac_rfl) (hc:cg ⟨nO st,ai st,true,fH,iD,fns⟩ ir (aO st)=true:=by rfl') (len:∀ds M Q,sp ds M Q->ds.length=((nO st).take n).length:=by bv_omega):cI P w K mg base (k+1) C x sp:=Kw cl A S nm hb hc len h
structure dv (K:Za) (mg:Ze) (c:SH.CA) (S:Addr):Prop where
 gl:∀(j:Nat) x,fH[j]?=some x->mE K mg x (nR.getD j .non)
 bl:∀x,iD.contains x=true->mg x=none
 cl:∀i,i<4->clsIn K (c.at i) SH.fN=true
 sh:clsIn K S SH.m7=true
theorem dv.fl(E:dv K mg c S):∀C f,SH.gL c C f->fS K C/\cX K C f:=by
 rintro C f ⟨i,hi,rfl,g⟩;exact⟨c9 (E.cl i hi),uI (E.cl i hi) g⟩
theorem dv.fs(E:dv K mg c S):∀C f,BI S C f->fS K C/\cX K C f:=by
 rintro C f ⟨rfl,g⟩;exact⟨c9 E.sh,uI E.sh g⟩
abbrev Fi(P:Zv)(w:World)(K:Za)(mg:Ze)(base:Heap)(k:Nat)(fns:Zf)(F:List aK):Prop:=∀(j:Nat) (x:Str),fns[j]?=some x->∃k',k'<=k/\dC P w K mg base k' x (F.getD j λ_ _ _=>False)
def bI{F:List aK}(E:dv K mg c S)(f:Fi P w K mg base k fns F):
 Names P w K mg base k fH iD fns ⟨F,nR,SH.gL c,λ_ _=>none,λ_ _=>none⟩:=⟨E.gl,E.bl,f,E.fl,(λ_ _ _ z=>nomatch z),(λ_ _ _ z=>nomatch z)⟩
def JM{F:List aK}(E:dv K mg c S)(f:Fi P w K mg base k fns F):
 Names P w K mg base k fH iD fns ⟨F,nR,BI S,λ_ _=>none,λ_ _=>none⟩:=⟨E.gl,E.bl,f,E.fs,(λ_ _ _ z=>nomatch z),(λ_ _ _ z=>nomatch z)⟩
def LX{F:List aK}(E:dv K mg c S)(mt:∀C m sp,sG c C m=some sp->∃k',k'<=k/\cI P w K mg base k' C m sp)(f:Fi P w K mg base k fns F):
 Names P w K mg base k fH iD fns ⟨F,nR,SH.gL c,sG c,λ_ _=>none⟩:=⟨E.gl,E.bl,f,E.fl,mt,(λ_ _ _ z=>nomatch z)⟩
def KO{F:List aK}(E:dv K mg c S)(mt:∀C m sp,nF c S C m=some sp->∃k',k'<=k/\cI P w K mg base k' C m sp)(f:Fi P w K mg base k fns F):
 Names P w K mg base k fH iD fns ⟨F,nR,SH.gL c,nF c S,λ_ _=>none⟩:=⟨E.gl,E.bl,f,E.fl,mt,(λ_ _ _ z=>nomatch z)⟩
def pY{T:tx}(h:j<=k)(mt:∀C m sp,T C m=some sp->∃k',k'<=j/\cI P w K mg base k' C m sp):∀C m sp,T C m=some sp->∃k',k'<=k/\cI P w K mg base k' C m sp:=λC m sp e=>let⟨k',h1,h2⟩:=mt C m sp e;⟨k',ZW h1 h,h2⟩
def lK(i:Nat){n:Nat}(h:∀t:SH.CT,t.kind=i->t.flds.length+1=n)(hp:ps.length=n):∀ds M Q,SH.b0 c i ds M Q->ds.length=ps.length:=by
 rintro ds M Q ⟨a,t,hk,rfl,_⟩;rw[YI,ZF,h t hk,hp]
theorem JN(E:dv K mg c S)
  (R:c.apart)
  {hp:Heap}
  (X:K.In hp)
  (G:hp.Ns mainGlobals mg)
  {I:Zu}(Mr:gb K "law" qu a I)
  (T:mg "Have" = some (.ref (c.at 0))) (U:PySem.W.makesIn K (c.at 0)=true) (V:PySem.W.keepIn K (.ref (c.at 0))=true)
  (Y:mg "Lack" = some (.ref (c.at 1))) (Z:PySem.W.makesIn K (c.at 1)=true) (QA:PySem.W.keepIn K (.ref (c.at 1))=true)
  (QB:mg "Some" = some (.ref (c.at 2))) (QC:PySem.W.makesIn K (c.at 2)=true) (QD:PySem.W.keepIn K (.ref (c.at 2))=true)
  (QE:mg "Lead" = some (.ref (c.at 3))) (QF:PySem.W.makesIn K (c.at 3)=true) (QG:PySem.W.keepIn K (.ref (c.at 3))=true)
  (QH:mg "Sheet" = some (.ref S)) (QI:PySem.W.makesIn K S=true) (QJ:PySem.W.keepIn K (.ref S)=true)
  (hy:Ik K (c.at 0) (c.at 1) (c.at 2) (c.at 3) S):
  eM P w K mg base jG 8 a I ["_law_script"] (ga K SG.ug):=by
 have Tb:dC P w K mg base 2 "Have" (bW (c.at 0) (SH.b0 c 0)):=BJ (N:=nO oQ) (ps:=(nO oQ).take 2) T U V hy.a_53 (by ac_rfl) (bI (F:=[]) (k:=0) E (aF (F:=[]))) (by ac_nf) (by rfl') (lK 0 (n:=2) (λt ht=>by cases t<;>first | rfl | cases ht) rfl) (λds M Q h=>SH.vH rfl h);have Tc:cI P w K mg base 1 (c.at 0) "leaning" (SH.bV c 0):=oC 1 (c9 (E.cl 0 'c')) hy.a_54 (bI (F:=[]) (k:=0) E (aF (F:=[]))) λ_ _ _ h=>SH.rf rfl h
 have Td:dC P w K mg base 2 "Lack" (bW (c.at 1) (SH.b0 c 1)):=BJ (N:=nO oR) (ps:=(nO oR).take 2) Y Z QA hy.a_55 (by ac_rfl) (bI (F:=[]) (k:=0) E (aF (F:=[]))) (by ac_nf) (by rfl') (lK 1 (n:=2) (λt ht=>by cases t<;>first | rfl | cases ht) rfl) (λds M Q h=>SH.vI rfl h);have Te:cI P w K mg base 1 (c.at 1) "leaning" (SH.bV c 1):=oC 1 (c9 (E.cl 1 'c')) hy.a_56 (bI (F:=[]) (k:=0) E (aF (F:=[]))) λ_ _ _ h=>SH.rg rfl h
 have Tf:dC P w K mg base 2 "Some" (bW (c.at 2) (SH.b0 c 2)):=BJ (N:=nO oS) (ps:=(nO oS).take 3) QB QC QD hy.a_57 (by ac_rfl) (bI (F:=[]) (k:=0) E (aF (F:=[]))) (by ac_nf) (by rfl') (lK 2 (n:=3) (λt ht=>by cases t<;>first | rfl | cases ht) rfl) (λds M Q h=>SH.vJ rfl h);have Tg:cI P w K mg base 1 (c.at 2) "leaning" (SH.bV c 2):=oC 1 (c9 (E.cl 2 'c')) hy.a_58 (bI (F:=[]) (k:=0) E (aF (F:=[]))) λ_ _ _ h=>SH.rj rfl h
 have Th:dC P w K mg base 2 "Lead" (bW (c.at 3) (SH.b0 c 3)):=BJ (N:=nO oT) (ps:=(nO oT).take 3) QE QF QG hy.a_59 (by ac_rfl) (bI (F:=[]) (k:=0) E (aF (F:=[]))) (by ac_nf) (by rfl') (lK 3 (n:=3) (λt ht=>by cases t<;>first | rfl | cases ht) rfl) (λds M Q h=>SH.vK rfl h);have Ti:cI P w K mg base 1 (c.at 3) "leaning" (SH.bV c 3):=oC 1 (c9 (E.cl 3 'c')) hy.a_60 (bI (F:=[]) (k:=0) E (aF (F:=[]))) λ_ _ _ h=>SH.rk rfl h
 have Tj:cI P w K mg base 1 S "how_many" (SH.im c S):=oC 1 (c9 E.sh) hy.a_62 (JM (F:=[]) (k:=0) E (aF (F:=[]))) λ_ _ _ h=>SH.wO (λf g=>⟨rfl,g⟩) h
 have L8:cI P w K mg base 1 S "leaned" (SG.gP c S):=oC 2 (c9 E.sh) hy.a_Sheet_leaned (JM (F:=[]) (k:=0) E (aF (F:=[]))) λ_ _ _ h=>SG.BB (λf g=>⟨rfl,g⟩) h
 have MC:∀C m sp,sG c C m=some sp->∃k',k'<=1/\cI P w K mg base k' C m sp:=by
  intro C m sp e;unfold sG at e;have at_:∀i,SH.kindAt c C=some i->C=c.at i/\i<4:=by
   intro i hi;unfold SH.kindAt at hi;split at hi
   .cases hi;exact⟨by assumption,by decide⟩
   .split at hi
    .cases hi;exact⟨by assumption,by decide⟩
    .split at hi
     .cases hi;exact⟨by assumption,by decide⟩
     .split at hi
      .cases hi;exact⟨by assumption,by decide⟩
      .cases hi
  cases q:SH.kindAt c C with
  |none=>rw[q] at e;cases e
  |some i=>
   rw[q] at e;obtain⟨rfl,hi⟩:=at_ i q;have e:(if m = "leaning" then some (SH.bV c i) else none)=some sp:=e;have i4:i=0\/i=1\/i=2\/i=3:=by omega
   split at e
   .rename_i hm
    subst hm;cases e;rcases i4 with rfl | rfl | rfl | rfl
    .exact⟨_,by decide,Tc⟩
    .exact⟨_,by decide,Te⟩
    .exact⟨_,by decide,Tg⟩
    .exact⟨_,by decide,Ti⟩
   .cases e
 have J:∀C m sp,nF c S C m=some sp->∃k',k'<=1/\cI P w K mg base k' C m sp:=by
  intro C m sp e;unfold nF at e;split at e
  .rename_i hC
   subst hC;split at e
   .rename_i hm;subst hm;cases e;exact⟨_,by decide,Tj⟩
   .split at e
    .rename_i hm;subst hm;cases e;exact⟨_,by decide,L8⟩
    .cases e
  .cases e
 have r:bG P w K mg base 1 "set_of" (SH.fY):=cc 1 hy.a_0 X G (bI (F:=[]) (k:=0) E (aF (F:=[]))) λ_ _ _ h=>SH.Bo h
 have W8:bG P w K mg base 2 "is_ready" (SG.jV):=cc 3 hy.a_1 X G (bI (F:=[SH.fY]) (k:=1) E (am 'c' (.inl r) (aF (F:=[])))) λ_ _ _ h=>SG.wQ rfl h
 have A:bG P w K mg base 1 "has_fact" (SH.jL):=cc 2 hy.a_2 X G (bI (F:=[]) (k:=0) E (aF (F:=[]))) λ_ _ _ h=>SH.wG h
 have W9:bG P w K mg base 2 "members" (SH.jM):=cc 1 hy.a_3 X G (bI (F:=[SH.jL]) (k:=1) E (am 'c' (.inl A) (aF (F:=[])))) λ_ _ _ h=>SH.zN rfl h
 have W_:bG P w K mg base 3 "parts_by_least" (SG.jX):=cc 1 hy.a_4 X G (bI (F:=[SH.jL,SH.fY,SH.jM]) (k:=2) E (am 'c' (.inl A) (am 'c' (.inl r) (am 'c' (.inl W9) (aF (F:=[])))))) λ_ _ _ h=>SG.oH rfl rfl rfl h
 have W':bG P w K mg base 2 "reached_sets" (SG.jW):=cc 1 hy.a_5 X G (bI (F:=[SH.jL]) (k:=1) E (am 'c' (.inl A) (aF (F:=[])))) λ_ _ _ h=>SG.rJ rfl h
 have Xa:bG P w K mg base 4 "parts_of" (SG.oo c S):=cc 1 hy.a_6 X G (KO (F:=[SH.fY,SG.jV,SG.jX,SG.jW]) (k:=3) E (pY 'c' J) (am 'c' (.inl r) (am 'c' (.inl W8) (am 'c' (.inl W_) (am 'c' (.inl W') (aF (F:=[]))))))) λ_ _ _ h=>SG.wU rfl rfl rfl rfl tX o9 h
 have Xb:bG P w K mg base 1 "odd_walk" (SG.ue):=cc 2 hy.a_7 X G (bI (F:=[]) (k:=0) E (aF (F:=[]))) λ_ _ _ h=>SG.Jv h
 have Xc:bG P w K mg base 1 "sides_reached" (SG.ow):=cc 2 hy.a_8 X G (bI (F:=[]) (k:=0) E (aF (F:=[]))) λ_ _ _ h=>SG.El h
 have Xd:bG P w K mg base 2 "inner_leanings" (SG.ou c S):=cc 2 hy.a_9 X G (KO (F:=[]) (k:=1) E (pY 'c' J) (aF (F:=[]))) λ_ _ _ h=>SG.Ek o9 h
 have Tp:bG P w K mg base 3 "ring_of" (SG.nr c S):=cc 2 hy.a_10 X G (bI (F:=[SG.ue,SG.ow,SG.ou c S]) (k:=2) E (am 'c' (.inl Xb) (am 'c' (.inl Xc) (am 'c' (.inl Xd) (aF (F:=[])))))) λ_ _ _ h=>SG.G1 rfl rfl rfl h
 have L:bG P w K mg base 1 "_law_whole" (SG.gT):=cc 1 hy.a_11 X G (bI (F:=[]) (k:=0) E (aF (F:=[]))) λ_ _ _ h=>SG.En h
 have Tq:bG P w K mg base 2 "_law_walks" (SG.oy):=cc 4 hy.a_12 X G (bI (F:=[SG.gT]) (k:=1) E (am 'c' (.inl L) (aF (F:=[])))) λ_ _ _ h=>SG.Et rfl h
 have Tt:bG P w K mg base 2 "_law_keeps" (SG.ox):=cc 3 hy.a_13 X G (bI (F:=[SG.gT]) (k:=1) E (am 'c' (.inl L) (aF (F:=[])))) λ_ _ _ h=>SG.Ep rfl h
 have Tu:bG P w K mg base 3 "_law_shown" (SG.oz):=cc 3 hy.a_14 X G (bI (F:=[SG.oy,SG.ox]) (k:=2) E (am 'c' (.inl Tq) (am 'c' (.inl Tt) (aF (F:=[]))))) λ_ _ _ h=>SG.Eu rfl rfl h
 have Tv:bG P w K mg base 1 "_law_leanings" (SG.iY):=cc 1 hy.a_15 X G (bI (F:=[]) (k:=0) E (aF (F:=[]))) λ_ _ _ h=>SG.wV h
 have Tw:bG P w K mg base 2 "_law_leaned" (SG.j0):=cc 2 hy.a_16 X G (bI (F:=[SG.iY]) (k:=1) E (am 'c' (.inl Tv) (aF (F:=[])))) λ_ _ _ h=>SG.zZ rfl h
 have Tx:bG P w K mg base 1 "rows_by_help" (SH.gu):=KN hy.a_17 (ps:=j6) X G (by ac_nf) rR (bI (F:=[]) (k:=0) E (aF (F:=[]))) rT (by bv_omega) (λds M Q h=>SH.rA h);have Tz:bG P w K mg base 2 "row_leanings" (SH.dl c):=cc 1 hy.a_18 X G (LX (F:=[]) (k:=1) E (pY 'c' MC) (aF (F:=[]))) λ_ _ _ h=>SH.rq (ww R) h
 have TB:bG P w K mg base 1 "rows_by_head" (SH.gr):=cc 2 hy.a_19 X G (bI (F:=[]) (k:=0) E (aF (F:=[]))) λ_ _ _ h=>SH.rz h
 have TC:bG P w K mg base 3 "made_cond" (SH.rp c):=cc 1 hy.a_20 X G (bI (F:=[bW (c.at 3) (SH.b0 c 3),bW (c.at 2) (SH.b0 c 2),bW (c.at 1) (SH.b0 c 1),bW (c.at 0) (SH.b0 c 0)]) (k:=2) E (am 'c' Th (am 'c' Tf (am 'c' Td (am 'c' Tb (aF (F:=[]))))))) λ_ _ _ h=>SH.GK (c:=c) rfl h
 have O:bG P w K mg base 1 "is_whole" (SH.i5):=cc 1 hy.a_21 X G (bI (F:=[]) (k:=0) E (aF (F:=[]))) λ_ _ _ h=>SH.wH h
 have p:bG P w K mg base 2 "is_below" (SH.dq):=cc 2 hy.a_22 X G (bI (F:=[SH.i5]) (k:=1) E (am 'c' (.inl O) (aF (F:=[])))) λ_ _ _ h=>SH.wJ rfl h
 have TF:bG P w K mg base 3 "is_listing" (SH.jN):=cc 2 hy.a_23 X G (bI (F:=[SH.dq]) (k:=2) E (am 'c' (.inl p) (aF (F:=[])))) λ_ _ _ h=>SH.tU (j:=2) rfl rfl h
 have TH:bG P w K mg base 2 "is_number" (SH.lx):=cc 1 hy.a_24 X G (bI (F:=[SH.i5]) (k:=1) E (am 'c' (.inl O) (aF (F:=[])))) λ_ _ _ h=>SH.vP (j:=1) rfl rfl h
 have TJ:bG P w K mg base 4 "is_cond" (SH.ly):=cc 2 hy.a_25 X G (bI (F:=[SH.jN,SH.dq,SH.lx]) (k:=3) E (am 'c' (.inl TF) (am 'c' (.inl p) (am 'c' (.inl TH) (aF (F:=[])))))) λ_ _ _ h=>SH.zO rfl rfl rfl h
 have TK:bG P w K mg base 5 "is_row" (SH.om):=cc 2 hy.a_26 X G (bI (F:=[SH.ly,SH.dq]) (k:=4) E (am 'c' (.inl TJ) (am 'c' (.inl p) (aF (F:=[]))))) λ_ _ _ h=>SH.Bq (j:=0) rfl rfl rfl h
 have TL:dC P w K mg base 7 "Sheet" (bW S (SH.hV c S)):=BJ (N:=nO mH) (ps:=(nO mH).take 3) QH QI QJ hy.a_61 (by ac_rfl) (JM (F:=[SH.gu,SH.dl c,SH.gr,SH.rp c,SH.om,SH.dq]) (k:=5) E (am 'c' (.inl Tx) (am 'c' (.inl Tz) (am 'c' (.inl TB) (am 'c' (.inl TC) (am 'c' (.inl TK) (am 'c' (.inl p) (aF (F:=[]))))))))) (by ac_nf) (by rfl') (by bv_omega) (λds M Q h=>SH.tV (j:=3) (l:=4) (λf g=>⟨rfl,g⟩) rfl rfl rfl rfl rfl rfl rfl rfl h);have TM:bG P w K mg base 1 "_law_two" (SG.uf):=cc 1 hy.a_27 X G (bI (F:=[]) (k:=0) E (aF (F:=[]))) λ_ _ _ h=>SG.Jy h
 have TN:bG P w K mg base 1 "_law_mixed" (SG.oA):=cc 2 hy.a_28 X G (bI (F:=[]) (k:=0) E (aF (F:=[]))) λ_ _ _ h=>SG.Ev h
 have B:bG P w K mg base 2 "_law_draw" (SG.f9):=cc 2 hy.a_29 X G (bI (F:=[SG.oA]) (k:=1) E (am 'c' (.inl TN) (aF (F:=[])))) λ_ _ _ h=>SG.Ew rfl h
 have TQ:bG P w K mg base 3 "_law_facts" (SG.lG):=cc 2 hy.a_30 X G (bI (F:=[SG.f9]) (k:=2) E (am 'c' (.inl B) (aF (F:=[])))) λ_ _ _ h=>SG.BF rfl h
 have TR:bG P w K mg base 4 "_law_cond" (SG.oB):=cc 2 hy.a_31 X G (bI (F:=[SG.f9,SG.lG]) (k:=3) E (am 'c' (.inl B) (am 'c' (.inl TQ) (aF (F:=[]))))) λ_ _ _ h=>SG.Ex rfl rfl h
 have TU:bG P w K mg base 5 "_law_row" (SG.rN):=cc 2 hy.a_32 X G (bI (F:=[SG.oB,SG.f9]) (k:=4) E (am 'c' (.inl TR) (am 'c' (.inl B) (aF (F:=[]))))) λ_ _ _ h=>SG.G3 rfl rfl h
 have TV:bG P w K mg base 1 "_law_cell_at" (SH.lC):=cc 2 hy.a_33 X G (bI (F:=[]) (k:=0) E (aF (F:=[]))) λ_ _ _ h=>SH.zU h
 exact vG (Mr.fun_) JI (bI (F:=[SG.oo c S,SG.nr c S,SG.oz,SG.j0,bW S (SH.hV c S),SG.uf,SG.rN,SH.lC]) (k:=7) E (am 'c' (.inl Xa) (am 'c' (.inl Tp) (am 'c' (.inl Tu) (am 'c' (.inl Tw) (am 'c' TL (am 'c' (.inl TM) (am 'c' (.inl TU) (am 'c' (.inl TV) (aF (F:=[]))))))))))) JK (by bv_omega) (λds M Q h=>SG.JG rfl rfl rfl rfl rfl rfl rfl rfl h)
end
theorem EB(h:(decide (a≠b)&&decide (a≠d)&&decide (a≠C)&&decide (b≠d)&&decide (b≠C)&&decide (d≠C))=true):SH.CA.apart ⟨a,b,d,C⟩:=by
 simp only[YX,XQ] at h;obtain⟨⟨⟨⟨⟨h1,c⟩,f⟩,g⟩,l⟩,m⟩:=h;intro k hk;have n:k=0\/k=1\/k=2\/k=3:=by omega
 rcases n with rfl | rfl | rfl | rfl
 .show(if a=a then some 0 else if a=b then some 1 else if a=d then some 2 else if a=C then some 3 else none)=some 0
  rw[if_pos rfl]
 .show(if b=a then some 0 else if b=b then some 1 else if b=d then some 2 else if b=C then some 3 else none)=some 1
  rw[if_neg (λz=>h1 z.symm),if_pos rfl]
 .show(if d=a then some 0 else if d=b then some 1 else if d=d then some 2 else if d=C then some 3 else none)=some 2
  rw[if_neg (λz=>c z.symm),if_neg (λz=>g z.symm),if_pos rfl]
 .show(if C=a then some 0 else if C=b then some 1 else if C=d then some 2 else if C=C then some 3 else none)=some 3
  rw[if_neg (λz=>f z.symm),if_neg (λz=>l z.symm),if_neg (λz=>m z.symm),if_pos rfl]
theorem Lz{p:Nat->Prop}(f:p 0)(h1:p 1)(g:p 2)(k:p 3):∀i,i<4->p i:=by
 intro i hi;have c:i=0\/i=1\/i=2\/i=3:=by omega
 rcases c with rfl | rfl | rfl | rfl<;>assumption
def JO:t7 63 SG.ug:=λa ns hl=>⟨a,ns,rfl,by unfold nP;rw[if_pos rfl],hl,λ_=>rfl⟩
def JP:EU SG.ug:=by
 intro l w K h mg J cH cL cS cD S X G t A gl bl B NW NX NY NZ N0 N1 N4 N5 N6 L r Mr hy;have f:=NW;simp only[YX] at f;have g:=NY;simp only[YX] at g;have m:=N0;simp only[YX] at m;have n:=N4;simp only[YX] at n;have p:=N6;simp only[YX] at p;have E:dv K mg ⟨cH,cL,cS,cD⟩ S:=⟨qt X G gl,Ax X G bl,Lz f.1.1 g.1.1 m.1.1 n.1.1,p.1.1⟩;have F:∀(s:Shared) (v:Value),BindsTo s r ⟨[v],[]⟩ [("_law_script",v)]:=by
  obtain⟨oc,od,an,J_,kV,v_,pm,r_,ct,a,rfl,l,c,k⟩:=Mr.ex;exact λs v=>.of_eq rfl
 have I:=Mr.def_ (ps:=["_law_script"]) X G λ_ _ _ _ _ _=>JL λ_=>rfl
 have e:=t.symm.trans I.mgf;cases e;exact⟨r,F,λbase _ _=>JN (c:=⟨cH,cL,cS,cD⟩) (S:=S) E (EB A) X G Mr (PySem.W.mg_of X G B) f.1.2 f.2 (PySem.W.mg_of X G NX) g.1.2 g.2 (PySem.W.mg_of X G NZ) m.1.2 m.2 (PySem.W.mg_of X G N1) n.1.2 n.2 (PySem.W.mg_of X G N5) p.1.2 p.2 hy⟩
end K22
open PySem PySem.W PyProof.Rows L2 DD
theorem PySem.Challenge.cw_notring_k22_whole_rings_shown_holds : PySem.Challenge.rw_notring_k22_whole_rings_shown.Holds := by
  exact K22.over K22.JO K22.JP
#print axioms PySem.Challenge.cw_notring_k22_whole_rings_shown_holds
