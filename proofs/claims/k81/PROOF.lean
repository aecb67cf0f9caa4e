import PyProof.Rows.All
import Wide.All
import KE.KDictOf
import KE.KFromBytes
import KE.LcTurns
import KE.KIsAll
import KE.KItem
import Wide.FinOn
import KE.KNestM
import PySem.Challenge.RW_notring_k81_whole_answers_kept
import Lean
import PyProof.EqAt
import PyProof.EqKinds
import PyProof.TupleCall
import PyProof.DictIter
import PyProof.DictWalks
import PyProof.NeKinds
import PyProof.EnumMake
import PyProof.EnumIter
import PyProof.EnumFor
import PyProof.EnumStmt
import PyProof.Draws
import PyProof.TupleIter
import PyProof.WalksMore
import PyProof.ZipIter
import PyProof.Rows.SetFrom
import PyProof.SetRoads
import PyProof.SumAnyB
import PyProof.Conv_int
import PyProof.Conv_int_bool
import PyProof.ListRange
import KE.KDictList
import PyProof.DictTruth
import PyProof.Rows.SortWalk
import PyProof.Rows.SortRuns
import PyProof.Rows.SortShell
import KE.KSortTup
import KE.KRevIter
import PyProof.TupleKey
import PyProof.DictRoadsH
import PyProof.FactsAll.bool_1
import PyProof.FactsAll.bool_2
import PyProof.Rows.CallKwBuiltin
import PyProof.DefCall
import KE.BitLaws
set_option compiler.extract_closed false
set_option Elab.async false
set_option maxRecDepth 100000
set_option maxHeartbeats 4000000
local macro_rules
 |`(tactic|omega)=>`(tactic|first|assumption|lia|omega (splitDisjunctions:=true))
set_option hygiene false
local macro_rules
 |`('a')=>`((by omega))
 |`('b')=>`((by decide))
 |`('c')=>`((model X.prog X.w))
 |`('d')=>`((λ_ _ _=>False))
local macro_rules
 |`('e')=>`((openSeen K81.viewQ [] (importedModules PySem.Challenge.pw_notring_k81_whole_answers_kept.main.body) (λs=>xlAt K81.viewQ [] s&&recOk [] s) true (TopT.db s)))
 |`('f')=>`((model prog w))
 |`('g')=>`((ak (F:=[])))
local macro_rules
 |`(tactic|rw[0])=>`(tactic|(refine Yb (wpAny_attempt (wpAny_callSpecial?_slot (name:=Str.ofString "__next__") G_.typeIs F.slot_dict_keyiterator_next (wpAny_call_entry F.slot_dict_keyiterator_next G_.typeIs F.entry_dict_keyiterator_next ?_ (F.args_dict_keyiterator_next_1 _))));refine Yb (Yc (Yb (Yb (Yb (nm (Yc (Yb (wpAny_fieldsOf u1 u3 ?_))))))));(simp only[show Builtin.Dict_items.ownsTuple "dict_keyiterator" = false by decide,XM,if_false]);show wpAny _ _ (if(Value.ref d==Value.none)=true then _ else _) _ _ s;(rw[if_neg (by exact YF)]);refine Yb (Yc (Yb (wpAny_dictEntries e1 e3 ?_)));(rw[if_neg (by simp)]);refine Yb (Yc (Yb (wpAny_dictEpoch e1 e3 ?_)));rw[if_neg (by simp)]))
set_option bootstrap.genMatcherCode false
set_option genSizeOfSpec false
local macro_rules
 |`(command|def $i:declId $s:optDeclSig $v:declVal)=>`(command|noncomputable def $i:declId $s:optDeclSig $v:declVal)
 |`(command|abbrev $i:declId $s:optDeclSig $v:declVal)=>`(command|noncomputable abbrev $i:declId $s:optDeclSig $v:declVal)
def Yb:=@PySem.wpAny_bind
def Yc:=@PySem.wpAny_pure
def Yd:=@PySem.Heap.get?_push_of_some
def Ye:=@PySem.Heap.lt_size
def Yg:=@PySem.Heap.get?_push_size
def Yh:=@False.elim
def Yi:=@Option.some.inj
def Yj:=@PySem.wpAny_holding
def Yk:=@PySem.wpAny_standAt
abbrev Za:=PySem.W.Frag
abbrev Zb:=PySem.Value->PySem.Shared->Prop
abbrev Zc:=List (PySem.Addr×PySem.Obj)
abbrev Zd:=List PySem.Value
abbrev Ze:=PySem.Str->Option PySem.Value
abbrev Zf:=List PySem.Str
abbrev Zg:=List PySem.Expr
abbrev Zh:=List PySem.Addr
abbrev Zi:=List Int
abbrev Zj:=List Nat
abbrev Zk:=PySem.Value->PySem.Value->PySem.Sem PySem.Value
abbrev Zl:=Array PySem.Value
abbrev Zm:=Option PySem.Addr
abbrev Zn:=Array (Option PySem.Value)
abbrev Zo:=Unit->PySem.Shared->Prop
abbrev Zp:=List (Nat×Nat)
abbrev Zq:=Option Int
abbrev Zr:=List (PySem.Str×PySem.Addr)
abbrev Zs:=List (Bool×Int)
abbrev Zt:=List (List PySem.Addr)
abbrev Zu:=List PySem.Stmt
abbrev Zv:=PySem.FuncData
abbrev Zw:=PySem.Program
abbrev Zx:=Option PySem.Value
local macro_rules
  | `(tactic| rfl') => `(tactic| decide +kernel)
def XA{α β}{f:α→β}:[].map f=[]:=rfl
def XB:=@List.length_singleton
def XC:=@Bool.and_false
def XD:=@Array.getElem?_toList
def XE:=@List.find?_cons
def XF:=@List.any_cons
def XG:=@Bool.false_or
def XH:=@Nat.lt_of_le_of_lt
def XI:=@beq_self_eq_true
def XJ:=@Option.getD_some
def XM:=@Bool.false_eq_true
def XN:=@List.lookup_cons
def XO:=@List.all_eq_true
def XQ:=@List.mem_singleton
def XR:=@of_decide_eq_true
def XS:=@List.all_cons
def XT:=@decide_eq_true_eq
def XU:=@Bool.and_true
def XV(b):(true&&b)=b:=rfl
def XW:=@List.getElem?_of_mem
def XX:=@Array.perm_iff_toList_perm
def XY:=@Int.le_refl
def XZ:=@Nat.zero_add
def YA:=@List.mem_cons_of_mem
def YB:=@List.mem_cons
def YC:=@List.mem_append
def YD:=@List.getElem?_eq_some_iff
def YE:=@Array.length_toList
def YF:=@Bool.false_ne_true
def YG:=@Nat.le_refl
def YH:=@List.mem_append_right
def YI:=@List.size_toArray
def YJ{α}{a:α}{l}:(a::l).length=l.length+1:=rfl
def YL{α β}{f:α→β}{a l}:(a::l).map f=f a::l.map f:=rfl
def YM:=@Nat.lt_succ_self
def YN:=@Nat.zero_le
def YO:=@Nat.le_succ
def YQ:=@List.nodup_cons
def YT:=@List.length_take
def YU:=@List.mem_of_getElem?
def YV{α}:([]:List α).length=0:=rfl
def YW:=@decide_eq_true
def YX:=@Int.toNat_natCast
def YY:=@List.length_drop
def YZ:=@Bool.and_eq_true
def ZA:=@List.append_nil
def ZB:=@List.append_assoc
def ZD:=@List.getElem?_eq_getElem
def ZE:=@List.getElem?_append_left
def ZF:=@List.length_map
def ZG:=@List.getElem?_map
def ZH:=@List.getElem?_append_right
def ZI:=@List.getElem?_eq_none
def ZJ:=@List.length_range
def ZK:=@List.length_append
def ZL:=@List.map_append
def ZM:=@List.map_map
def ZN:=@List.map_congr_left
def ZO:=@Option.map_eq_some_iff
def ZQ:=@decide_eq_false
def ZR:=@beq_eq_false_iff_ne
def ZS:=@Nat.lt_of_lt_of_le
def ZT:=@Nat.lt_irrefl
def ZU:=@Nat.ne_of_lt
def ZV:=@List.mem_filter
def ZW:=@List.mem_range
def ZX:=@Nat.le_trans
def ZY:=@List.filterMap_cons
def ZZ:=@List.mem_cons_self
namespace TopT
open PySem PySem.W PyProof.Rows
variable {m N:Nat}{q:Zw}
def lQ:List Obj->Nat->BT->Option (BT×Nat)
 |[],n,T=>some (T,n)
 |o::r,n,T=>match((T.ins n o).get n).isSome with
  |true=>lQ r (n+1) (T.ins n o)
  |false=>none
theorem vN(a:Life):∀{os:List Obj}{n n':Nat}{T b:BT},lQ os n T=some (b,n')->absHeap b n' a=⟨((absHeap T n a).objs.toList++os).toArray,a⟩
 |[],n,n',T,b,h=>by
  cases h;rw[ZA];rfl
 |o::r,n,n',T,b,h=>by
  unfold lQ at h;cases g:((T.ins n o).get n).isSome with
  |false=>rw[g] at h;cases h
  |true=>
   rw[g] at h;have c:=vN a (os:=r) h;rw[c,absHeap_ins g];show Heap.mk (((absHeap T n a).objs.push o).toList++r).toArray a=_;rw[Array.toList_push,ZB];rfl
def qH(b:String->Option Builtin)(p:Zw)(w:World)(c:Nat)(a:Zx):Nat->SharedT->Thread->Option SharedT
 |0,_,_=>none
 |n+1,s,t=>match through t with
  |true=>some s
  |false=>match stepOk c a t with
   |false=>none
   |true=>match stepT (denote b) p w s t with
    |some (f,t')=>qH b p w c a n f t'
    |none=>none
theorem vO{b:String->Option Builtin}{p:Zw}{w:World}{c:Nat}{a:Zx}:∀{n:Nat}{s f:SharedT}{t:Thread},qH b p w c a n s t=some f->topRun b p w c a n s.abs t=some f.abs
 |0,_,_,_,h=>by cases h
 |n+1,s,f,t,h=>by
  unfold qH at h;unfold topRun;cases ht:through t with
  |true=>rw[ht] at h;cases h;rfl
  |false=>
   rw[ht] at h;cases hk:stepOk c a t with
   |false=>rw[hk] at h;cases h
   |true=>
    rw[hk] at h;cases hs:stepT (denote b) p w s t with
    |none=>rw[hs] at h;cases h
    |some x=>
     obtain⟨s2,g⟩:=x;rw[hs] at h
     have:=stepT_spec hs
     simp only[this];exact vO h
def BS(s:SharedT)(a:Addr):Option Obj:=match Nat.blt a s.n with
 |true=>alive ((s.tree.get a).getD default)
 |false=>none
def Jl(s:SharedT)(a:Addr):s.abs.heap.get? a=BS s a:=by
 show(absHeap s.tree s.n s.life).get? a=_;unfold BS Heap.get?;rw[absHeap_at];cases e:Nat.blt a s.n with
 |true=>
  have lt:a<s.n:=Nat.le_of_ble_eq_true e;rw[if_pos lt];obtain⟨c,d,b,sl⟩:=(s.tree.get a).getD default;cases b<;>rfl
 |false=>
  have f:¬a<s.n:=λh=>by
   have:Nat.blt a s.n=true:=Nat.ble_eq_true_of_le h
   rw[this] at e;cases e
  rw[if_neg f]
def Ix:BT->BT
 |.nil=>.nil
 |.node _ l _=>l
def Iy:BT->BT
 |.nil=>.nil
 |.node _ _ r=>r
def rt:BT->Obj
 |.nil=>default
 |.node v _ _=>v
def tw(ts:List BT)(m i:Nat):Obj:=(((ts[i%m]?).getD .nil).get (i / m)).getD default
def lv:Nat->List BT->Nat->Nat->List Obj
 |0,ts,m,n=>(List.range n).map (tw ts m)
 |k+1,ts,m,n=>match Nat.ble n m with
  |true=>(ts.take n).map rt
  |false=>ts.map rt++lv k (ts.map Ix++ts.map Iy) (m+m) (n-m)
def Lu(t:BT):(t.get 0).getD default=rt t:=by cases t<;>rfl
theorem Jm(t:BT)(j:Nat):t.get (2*j+1)=(Ix t).get j:=by
 cases t with
 |nil=>rfl
 |node v l r=>rw[BT.get_node,if_neg 'a',if_pos 'a',show(2*j+1) / 2=j by omega];rfl
theorem FO(t:BT)(j:Nat):t.get (2*j+2)=(Iy t).get j:=by
 cases t with
 |nil=>rfl
 |node v l r=>rw[BT.get_node,if_neg 'a',if_neg 'a',show(2*j+2) / 2-1=j by omega];rfl
theorem tx{ts:List BT}(k:Nat)(hr:N<m):tw ts m (m*k+N)=((ts[N]?.getD .nil).get k).getD default:=by
 unfold tw;rw[Nat.mul_add_mod,Nat.mod_eq_of_lt hr,Nat.mul_add_div 'a',Nat.div_eq_of_lt hr,Nat.add_zero]
theorem Lv{ts:List BT}(h:ts.length=m)(hm:0<m)(i:Nat):tw ts m (m+i)=tw (ts.map Ix++ts.map Iy) (m+m) i:=by
 have hr:i%m<m:=Nat.mod_lt _ hm;have d:=Nat.div_add_mod i m;generalize i%m=r at *;generalize i / m=k at *;subst d;obtain⟨t,e0⟩:∃t,ts[r]?=some t:=⟨_,ZD (h▸hr)⟩;rw[show m+(m*k+r)=m*(k+1)+r by rw[Nat.mul_add];omega,tx _ hr,e0];rcases Nat.mod_two_eq_zero_or_one k with e | e
 .obtain⟨j,rfl⟩:∃j,k=2*j:=⟨k / 2,by omega⟩
  rw[show m*(2*j)+r=(m+m)*j+r by rw[←Nat.mul_assoc,Nat.mul_two],tx _ 'a',ZE (by rw[ZF];omega),ZG,e0];exact congrArg (·.getD default) (Jm _ j)
 .obtain⟨j,rfl⟩:∃j,k=2*j+1:=⟨k / 2,by omega⟩
  rw[show m*(2*j+1)+r=(m+m)*j+(m+r) by rw[Nat.mul_add,←Nat.mul_assoc,Nat.mul_two];omega,tx _ 'a',ZH (by rw[ZF];omega),ZF,h,Nat.add_sub_cancel_left,ZG,e0];exact congrArg (·.getD default) (FO _ j)
theorem Iz:∀(k:Nat){ts:List BT}{m:Nat}(n:Nat),ts.length=m->0<m->lv k ts m n=(List.range n).map (tw ts m)
 |0,_,_,_,_,_=>rfl
 |k+1,ts,m,n,h,hm=>by
  have hd:∀j,j<m->tw ts m j=rt (ts[j]?.getD .nil):=λj a=>by
   rw[show j=m*0+j by omega,tx _ a,Lu];simp
  show(match Nat.ble n m with | true=>_ | false=>_)=_;cases e:Nat.ble n m with
  |true=>
   have hn:n<=m:=Nat.le_of_ble_eq_true e;apply List.ext_getElem?;intro j;show((ts.take n).map rt)[j]?=_;rw[ZG,ZG,List.getElem?_take];by_cases a:j<n
   .rw[if_pos a,List.getElem?_range a,ZD 'a']
    show some (rt ts[j])=some (tw ts m j);rw[hd j 'a',ZD 'a'];rfl
   .rw[if_neg a,ZI (by rw[ZJ];omega)];rfl
  |false=>
   have hn:m<n:=Nat.lt_of_not_le λq=>by rw[Nat.ble_eq_true_of_le q] at e;cases e
   show ts.map rt++lv k (ts.map Ix++ts.map Iy) (m+m) (n-m)=_;rw[Iz k (n-m) (by rw[ZK,ZF,ZF,h]) 'a',show n=m+(n-m) by omega,List.range_add,ZL,ZM];congr 1
   .apply List.ext_getElem?
    intro j;rw[ZG,ZG];by_cases a:j<m
    .rw[List.getElem?_range a,ZD 'a']
     show some (rt ts[j])=some (tw ts m j);rw[hd j a,ZD 'a'];rfl
    .rw[ZI 'a',ZI (by rw[ZJ];omega)];rfl
   .rw[show m+(n-m)-m=n-m by omega]
    exact ZN λi _=>(Lv h hm i).symm
def list_eq(t:BT)(n:Nat):t.list n=lv 20 [t] 1 n:=by
 rw[Iz (ts:=[t]) (m:=1) 20 n rfl 'b'];unfold BT.list;apply ZN;intro i _;show _=(((([t]:List BT)[i%1]?).getD .nil).get (i / 1)).getD default;rw[Nat.mod_one,Nat.div_one];rfl
def db(s:SharedT):Shared:=⟨⟨(lv 20 [s.tree] 1 s.n).toArray,s.life⟩,s.gens,s.drawn,s.toks,s.os⟩
def Ay(s:SharedT):s.abs=db s:=by
 unfold SharedT.abs absHeap db;rw[list_eq]
def runC{a:Type}(p:Zw)(w:World)(N:Nat)(C:Shared->SharedT->a):Option a:=(fencedOpening treeTable p w N).bind λs₀=>match s₀.heap.isNs mainGlobals&&s₀.gens.size==0 with
 |true=>match lQ s₀.heap.objs.toList 0 .nil with
  |some (T,n)=>(qH treeTable p w s₀.heap.objs.size (s₀.heap.nsMap mainGlobals "__annotations__") N ⟨T,n,s₀.heap.life,s₀.gens,s₀.drawn,s₀.toks,s₀.os⟩ (topStub p)).map (C s₀)
  |none=>none
 |false=>none
def FP{a:Type}{w:World}(C:Shared->SharedT->a):runC q w N C=(runC q w N Prod.mk).map λx=>C x.1 x.2:=by
 unfold runC;cases fencedOpening treeTable q w N with
 |none=>rfl
 |some s₀=>
  show(match s₀.heap.isNs mainGlobals&&s₀.gens.size==0 with | true=>_ | false=>_)=Option.map _ (match s₀.heap.isNs mainGlobals&&s₀.gens.size==0 with | true=>_ | false=>_);cases s₀.heap.isNs mainGlobals&&s₀.gens.size==0 with
  |false=>rfl
  |true=>
   show(match lQ s₀.heap.objs.toList 0 .nil with | some (T,n)=>_ | none=>_)=Option.map _ (match lQ s₀.heap.objs.toList 0 .nil with | some (T,n)=>_ | none=>_);cases lQ s₀.heap.objs.toList 0 .nil with
   |none=>rfl
   |some x=>
    obtain⟨T,n⟩:=x;show Option.map (C s₀) _=Option.map _ (Option.map (Prod.mk s₀) _);rw[Option.map_map];rfl
def xo(p:Zw)(s₀ s:Shared):Bool:=staticsOk (importedModules p.main.body) s₀.heap s.heap&&namesBound p s.heap&&gensDone s&&laidKept s₀.heap s.heap
def Jn{w:World}{s₀:Shared}{s:SharedT}(h:runC q w N Prod.mk=some (s₀,s))(k:xo q s₀ (db s)=true):openEnds treeTable q w N=some (db s):=by
 unfold runC at h;obtain⟨b,c,h⟩:=Option.bind_eq_some_iff.mp h;cases g:(b.heap.isNs mainGlobals&&b.gens.size==0) with
 |false=>rw[g] at h;cases h
 |true=>
  rw[g] at h;cases e:lQ b.heap.objs.toList 0 .nil with
  |none=>rw[e] at h;cases h
  |some x=>
   obtain⟨T,n⟩:=x;rw[e] at h;obtain⟨j,h1,f⟩:=ZO.mp h;cases f;have a:(⟨T,n,s₀.heap.life,s₀.gens,s₀.drawn,s₀.toks,s₀.os⟩:SharedT).abs=s₀:=by
    show Shared.mk (absHeap T n s₀.heap.life) _ _ _ _=_;rw[vN s₀.heap.life e];rfl
   have r:=vO h1;rw[a,Ay] at r;unfold openEnds topFrom;rw[c];show(match s₀.heap.isNs mainGlobals&&s₀.gens.size==0 with | true=>_ | false=>_)=_;rw[g];show(topRun treeTable q w s₀.heap.objs.size (s₀.heap.nsMap mainGlobals "__annotations__") N s₀ (topStub q)).bind _=_;rw[r];show(match xo q s₀ (db s) with | true=>some (db s) | false=>none)=_;rw[k]
def NR{p:Zw}{loose:Zf}{Xt:Shared->Bool}{b:Bool}{K:Params->Frag}{as:Zh}{e:∀P,as=(K P).map (·.1)}
  (h1:∀w,runC p w N (λs₀ s=>(xo p s₀ (db s),(openSeen q loose (importedModules p.main.body) Xt b (db s)).1,(openSeen q loose (importedModules p.main.body) Xt b (db s)).2.1))=some (true,expectedOf q,bltViewBooted))
  (c:∀w,runC p w N (λ_ s=>(openSeen q loose (importedModules p.main.body) Xt b (db s)).2.2.1)=some true)
  (f:∀w,runC p w N (λ_ s=>((openSeen q loose (importedModules p.main.body) Xt b (db s)).2.2.2.1,(openSeen q loose (importedModules p.main.body) Xt b (db s)).2.2.2.2.1))=some (true,pinGoodD (drecsOf q)))
  (g:∀w,runC p w N (λ_ s=>(openSeen q loose (importedModules p.main.body) Xt b (db s)).2.2.2.2.2.1)=some (plainGoodE q (looseW q loose)))
  (j:∀w,runC p w N (λ_ s=>(openSeen q loose (importedModules p.main.body) Xt b (db s)).2.2.2.2.2.2)=some (plainGoodD q loose,wideGood q,clsGoodW q loose))
  (k:∀w:World,runC p w N (λ_ s=>as.map (BS s))=some ((K w.params).map (λp=>some p.2))):LeftO p q loose Xt (Hook.obs (kHook K as e)) (Hook.val (kHook K as e)) N b:=λw=>by
 have h1:=h1 w;have c:=c w;have f:=f w;have k:=k w;have g:=g w;have j:=j w;rw[FP] at h1 c f k g j;obtain⟨⟨s₀,s⟩,hr,n⟩:=ZO.mp h1;rw[hr] at c f k g j;obtain⟨o,l⟩:=Prod.mk.inj n;obtain⟨l,r⟩:=Prod.mk.inj l;obtain⟨t,u⟩:=Prod.mk.inj (Yi f);rw[Jn hr o];have e3:as.map (db s).heap.get?=as.map (BS s):=ZN λa _=>by rw[←Ay];exact Jl s a
 exact congrArg some (Prod.ext (Prod.ext l (Prod.ext r (Prod.ext (Yi c) (Prod.ext t (Prod.ext u (Prod.ext (Yi g) (Yi j))))))) (e3.trans (Yi k)))
end TopT
section
open PySem PySem.W PyProof.Rows
def K81.viewQ:Program:=PySem.W.view PySem.Challenge.pw_notring_k81_whole_answers_kept [0,2,3,4,5,6,8,9,10,11,13,14,15,16,18,19,20,21,22,23,24,25,27,28,29,30,31,33,34,35,37,38,40,41,42,43,44,45,46,47,48,49,50,51,52,54,55,56,57,58,59,60,61,62,63,64,65,66,67]
set_option maxHeartbeats 0 in
theorem K81.said:PySem.Challenge.rw_notring_k81_whole_answers_kept.wellSaid=true:=by kernel_rfl
set_option maxHeartbeats 0 in
theorem K81.seen1:∀w:World,TopT.runC PySem.Challenge.pw_notring_k81_whole_answers_kept w 13100 (λs₀ s=>(TopT.xo PySem.Challenge.pw_notring_k81_whole_answers_kept s₀ (TopT.db s),'e'.1,'e'.2.1))=some (true,expectedOf K81.viewQ,bltViewBooted):=by
 intro w;kernel_rfl
set_option maxHeartbeats 0 in
theorem K81.seen2:∀w:World,TopT.runC PySem.Challenge.pw_notring_k81_whole_answers_kept w 13100 (λ_ s=>'e'.2.2.1)=some true:=by
 intro w;kernel_rfl
set_option maxHeartbeats 0 in
theorem K81.seen3:∀w:World,TopT.runC PySem.Challenge.pw_notring_k81_whole_answers_kept w 13100 (λ_ s=>('e'.2.2.2.1,'e'.2.2.2.2.1))=some (true,pinGoodD (drecsOf K81.viewQ)):=by
 intro w;kernel_rfl
set_option maxHeartbeats 0 in
theorem K81.seen5:∀w:World,TopT.runC PySem.Challenge.pw_notring_k81_whole_answers_kept w 13100 (λ_ s=>'e'.2.2.2.2.2.1)=some (plainGoodE K81.viewQ (looseW K81.viewQ [])):=by
 intro w;kernel_rfl
set_option maxHeartbeats 0 in
theorem K81.seen6:∀w:World,TopT.runC PySem.Challenge.pw_notring_k81_whole_answers_kept w 13100 (λ_ s=>'e'.2.2.2.2.2.2)=some (plainGoodD K81.viewQ [],wideGood K81.viewQ,clsGoodW K81.viewQ []):=by
 intro w;kernel_rfl
end
-- CHANGE: your row's module here,as the last of these a_
set_option linter.all false
namespace L2
open PySem PySem.Spec PyProof.Rows
variable {it b C:Addr}{H H':Hp}{s s1:Shared}{i_ m:Str}{i t':Nat}{tg iter:Expr}{u p_ cd ct dV pm v_:Value}{b_ SJ:Zc}{Q:Zb}{σ:St}{y v:V}{us d_:Zd}{K:Za}{pos' pos:Pos}{base:Heap}{A:Around}{P:Zw}{w:World}{ch:Zh}{ob:Obj}{body st:Zu}{N ps:Zf}{mg:Ze}{ti to:TE}{o:HO}{vs xs:List V}{f:Zk}{M:Model}{tb:TS}{g:TG}{r:R2}{lo hi:Int}{k' expr:Bool}{scope:Scope}{CX:rS}{t:rO}{es:Zg}{tc:TT}{ta:TA}{X:Cx}{an:Zm}
abbrev Key:=Sum Int Str
def nR:Key->Value->Bool
 |.inl k,v=>Value.isInt k v
 |.inr x,v=>Value.isStrOf x v
def OO(w:World):Key->Int
 |.inl k=>hashInt k
 |.inr x=>hashStr w x
theorem cq:∀{k:Key}{v:Value},nR k v=true->(∃i t,k=Sum.inl i/\v=Value.int i t)\/(∃x t,k=Sum.inr x/\v=Value.str x t)
 |.inl i,v,h=>by
  obtain⟨t,e⟩:=Value.isInt_shape (k:=i) (v:=v) h;exact .inl ⟨i,t,rfl,e⟩
 |.inr x,v,h=>by
  obtain⟨t,e⟩:=Value.isStrOf_shape (x:=x) (v:=v) h;exact .inr ⟨x,t,rfl,e⟩
def DJ(i:Int)(t:Tok):nR (.inl i) (.int i t)=true:=by simp[nR,Value.isInt]
def DL(x:Str)(t:Tok):nR (.inr x) (.str x t)=true:=by simp[nR,Value.isStrOf]
def Lw(a b:Int):decide ((Sum.inl a:Key)=Sum.inl b)=(a==b):=by
 by_cases e:a=b
 .subst e;simp
 .have h:¬(Sum.inl a:Key)=Sum.inl b:=λq=>e (Sum.inl.inj q)
  rw[ZQ h];exact(ZR.mpr e).symm
def Lx(a b:Str):decide ((Sum.inr a:Key)=Sum.inr b)=decide (a=b):=by
 by_cases e:a=b
 .subst e;simp
 .have h:¬(Sum.inr a:Key)=Sum.inr b:=λq=>e (Sum.inr.inj q)
  rw[ZQ h,ZQ e]
def Ly(a:Int)(b:Str):decide ((Sum.inl a:Key)=Sum.inr b)=false:=ZQ (λq=>nomatch q)
def Lz(a:Str)(b:Int):decide ((Sum.inr a:Key)=Sum.inl b)=false:=ZQ (λq=>nomatch q)
def bY(prog:Zw)(w:World):PySem.KeyKind prog w Key where
 is:=nR
 hash:=OO w
 inj:=λv a b ha hb=>by
  rcases cq ha with⟨i,t,rfl,rfl⟩ | ⟨x,t,rfl,rfl⟩
  .rcases cq hb with⟨j,u,rfl,e⟩ | ⟨y,u,rfl,e⟩
   .injection e with e1 _;rw[e1]
   .exact nomatch e
  .rcases cq hb with⟨j,u,rfl,e⟩ | ⟨y,u,rfl,e⟩
   .exact nomatch e
   .injection e with e1 _;rw[e1]
 byValue:=λk v h=>by
  rcases cq h with⟨i,t,rfl,rfl⟩ | ⟨x,t,rfl,rfl⟩<;>rfl
 pyHash:=λhv h=>by
  rcases cq hv with⟨i,t,rfl,rfl⟩ | ⟨x,t,rfl,rfl⟩
  .exact wpAny_pyHash_int h
  .exact wpAny_pyHash_str h
 eqBool:=λhu hv h=>by
  rcases cq hu with⟨i,t,rfl,rfl⟩ | ⟨x,t,rfl,rfl⟩
  .rcases cq hv with⟨j,u,rfl,rfl⟩ | ⟨y,u,rfl,rfl⟩
   .rw[Lw] at h;exact wpAny_eqBool_int h
   .rw[Ly] at h;exact SeqAt.EqAt.int_str i t y u _ _ _ _ h
  .rcases cq hv with⟨j,u,rfl,rfl⟩ | ⟨y,u,rfl,rfl⟩
   .rw[Lz] at h;exact SeqAt.EqAt.str_int x t j u _ _ _ _ h
   .rw[Lx] at h;exact wpAny_eqBool_str h
 «strs»:=λk x t v h=>by
  rcases cq h with⟨i,u,rfl,e⟩ | ⟨y,u,rfl,e⟩
  .exact nomatch e
  .injection e with e1 _
   subst e1;cases v<;>rfl
def BU(prog:Zw)(w:World)(k:Key)(v:Value):(bY prog w).is k v=nR k v:=rfl
def zU(prog:Zw)(w:World)(i:Int)(t:Tok):(bY prog w).is (.inl i) (.int i t)=true:=DJ i t
def zV(prog:Zw)(w:World)(x:Str)(t:Tok):(bY prog w).is (.inr x) (.str x t)=true:=DL x t
inductive V where
 |non | bl (b:Bool) | int (i:Int) | str (x:Str) | byt (b:Array UInt8) | flt (b:UInt64) | ref (a:Addr) | ty (n:String)
 deriving DecidableEq
def RelV:V->Value->Prop
 |.non,u=>u=Value.none
 |.bl b,u=>u=Value.bool b
 |.int i,u=>∃t,u=Value.int i t
 |.str x,u=>∃t,u=Value.str x t
 |.byt b,u=>∃t,u=Value.bytes b t
 |.flt b,u=>∃t,u=Value.float b t
 |.ref a,u=>u=Value.ref a
 |.ty n,u=>u=Value.type n
abbrev aq:List V->List Value->Prop:=Paired RelV
theorem aq.length{xs:List V}{us:Zd}(r:aq xs us):xs.length=us.length:=Paired.length r
theorem aq.get:∀{xs:List V}{us:Zd}{i:Nat}{x:V},aq xs us->xs[i]?=some x->∃u,us[i]?=some u/\RelV x u
 |_,_,_,_,.nil,e=>by simp at e
 |_,_,0,_,.cons r _,e=>by simp at e;subst e;exact⟨_,rfl,r⟩
 |_,_,i+1,x,.cons _ t,e=>by
  obtain⟨u,h1,a⟩:=aq.get (i:=i) (x:=x) t (by simpa using e);exact⟨u,by simpa using h1,a⟩
theorem aq.set{x:V}{u:Value}(r:RelV x u):∀{xs:List V}{us:Zd}(i:Nat),aq xs us->aq (xs.set i x) (us.set i u)
 |_,_,_,.nil=>.nil
 |_,_,0,.cons _ t=>.cons r t
 |_,_,i+1,.cons q t=>.cons q (aq.set r i t)
theorem aq.append(h:aq xs us)(s:aq vs d_):aq (xs++vs) (us++d_):=by
 induction h with
 |nil=>exact s
 |cons r _ a=>exact .cons r a
theorem aq.take:∀{xs:List V}{us:Zd}(n:Nat),aq xs us->aq (xs.take n) (us.take n)
 |_,_,0,_=>.nil
 |_,_,_+1,.nil=>.nil
 |_,_,n+1,.cons r t=>.cons r (aq.take n t)
theorem aq.drop:∀{xs:List V}{us:Zd}(n:Nat),aq xs us->aq (xs.drop n) (us.drop n)
 |_,_,0,r=>r
 |_,_,_+1,.nil=>.nil
 |_,_,n+1,.cons _ t=>aq.drop n t
def fY:Option V->Option Value->Prop
 |some v,some u=>RelV v u
 |none,none=>True
 |_,_=>False
def KV{a:Type}:List (a×V)->List (a×Value)->Prop:=Paired λ(p:a×V) (q:a×Value)=>p.1=q.1/\RelV p.2 q.2
def kV:Key->V
 |.inl i=>.int i
 |.inr x=>.str x
inductive HO where
  /-- a list -/
  | lst (xs:List V)
  /-- a tuple (never changes) -/
  | tup (xs:List V)
  /-- a dict whose keys are ints and texts; one whose keys are tuples of ints and texts (the empty one is both) -/
  | dK (f_:List (Key × V)) | dT (f_:List (List Key × V))
  /-- a set of ints: d_ members,d_ size -/
  | set (S:Int->Bool) (n:Nat)
  /-- an instance of the class at C,d_ dict at dx,d_ attributes -/
  | ins (C dx:Addr) (fs:List (Str × V))
  /-- the dict of the instance at x -/
  | own (x:Addr)
  /-- the dict of an exception -/
  | xd (fs:List (Str × V))
  /-- a bound method,f of x -/
  | met (f x:Addr)
  /-- a range object lo,lo + 1,.. below hi -/
  | rng (lo hi:Int)
  /-- a thing that is known to the object (the script; a dict while a loop walks it): read,never written while it is so -/
  | frz (o:Obj) (u:HO)
  /-- a code object's table -/
  | tbl (ps:Zl)
  /-- any other thing,by what is true of d_ one object (a def of one's own: SetO a S n:=HO.ext λh=>..) -/
  | ext (φ:Heap->Prop)
abbrev Hp:=Addr->Option HO
def upd(H:Hp)(a:Addr)(o:HO):Hp:=λb=>if b=a then some o else H b
def aI:upd H b o b=some o:=by unfold upd;rw[if_pos rfl]
def aT(h:b≠C):upd H C o b=H b:=by unfold upd;rw[if_neg h]
def NS{u:HO}(h:H C=some o)(h':H b=some u)(d:o≠u):C≠b:=by
 intro e;subst e;rw[h] at h';exact d (Yi h')
def bD(h:H C=some o)(h':H b=none):C≠b:=by
 intro e;subst e;rw[h] at h';cases h'
section
variable (P:Zw)(w:World)
def bn(H:Hp)(h:Heap)(a:Addr):HO->Prop
 |.lst xs=>xs.length<=sizeLine/\∃(d_:Zd) (n:Nat),aq xs d_/\h.get? a=some { cls:=.type "list",data:=.seq d_.toArray n }
 |.tup xs=>xs.length<=sizeLine/\∃d_:List Value,aq xs d_/\IsTup h a d_.toArray
 |.dK c=>c.length<=sizeLine/\(a==sysModules)=false/\∃vs,KV c vs/\h.DictOf (bY P w) a vs
 |.dT c=>c.length<=sizeLine/\(a==sysModules)=false/\∃xs:List (List Key×Addr×Value),
   Paired (λ(p:List Key×V) (q:List Key×Addr×Value)=>p.1=q.1/\H q.2.1=some (.tup (p.1.map kV))/\RelV p.2 q.2.2) c xs /\
   ∃o es l,h.get? a=some o/\o.ExactDict/\o.data=.dict es l/\es.toList=xs.map (entryOfKey (tupleKind (bY P w)))/\(xs.map (·.1)).Nodup
 |.set S n=>h.SetOf (intKind P w) a S n
 |.ins C dx fs=>H dx=some (.own a)/\fs.length<=1000/\dx≠a/\h.get? a=some (PySem.W.instObj C dx) /\
   ∃mA,h.Ns1 dx mA/\(∀f,fY (fs.lookup f) (mA f))/\PySem.Within mA (fs.map (·.1))
 |.own _=>∃o,h.get? a=some o
 |.xd fs=>∃mA,h.Ns1 a mA/\∀f,fY (fs.lookup f) (mA f)
 |.rng lo hi=>∃t u v,h.get? a=some { cls:=.type "range",data:=.fields #[.int lo t,.int hi u,.int 1 v] }
 |.frz o u=>h.get? a=some o/\bn H h a u
 |.tbl ps=>h.get? a=some { cls:=.none,data:=.fields ps }
 |.met f x=>h.get? a=some (PySem.W.methodObj (.ref f) (.ref x))
 |.ext j=>j h/\(∃o,h.get? a=some o)/\∀h1 k:Heap,j h1->(∀o,h1.get? a=some o->k.get? a=some o)->j k
def c0(H:Hp)(h:Heap):Prop:=∀a o,H a=some o->bn P w H h a o
end
section
variable {P:Zw}{w:World}{H H':Hp}{h h':Heap}{a:Addr}{o:HO}
theorem bn.lt(x:bn P w H h a o):a<h.objs.size:=by
 cases o with
 |lst xs=>obtain⟨_,_,_,_,e⟩:=x;exact Ye e
 |tup xs=>obtain⟨_,_,_,p⟩:=x;exact p.lt
 |dK c=>obtain⟨_,_,_,_,o,_,_,e,_⟩:=x;exact Ye e
 |dT c=>obtain⟨_,_,_,_,o,_,_,e,_⟩:=x;exact Ye e
 |set S n=>obtain⟨o,_,_,_,e,_⟩:=x;exact Ye e
 |ins C dx fs=>obtain⟨_,_,_,e,_⟩:=x;exact Ye e
 |own y=>obtain⟨_,e⟩:=x;exact Ye e
 |xd fs=>obtain⟨_,⟨_,_,_,e,_⟩,_⟩:=x;exact Ye e
 |rng lo hi=>obtain⟨_,_,_,e⟩:=x;exact Ye e
 |frz ob u=>obtain⟨e,_⟩:=x;exact Ye e
 |tbl ps=>exact Ye (show h.get? a=some _ from x)
 |met f y=>exact Ye (show h.get? a=some _ from x)
 |ext j=>obtain⟨_,⟨_,e⟩,_⟩:=x;exact Ye e
theorem Paired.mapP{c j:Type}{F G:c->j->Prop}{l₁:List c}{k:List j}(h:Paired F l₁ k)(f:∀a b,F a b->G a b):Paired G l₁ k:=by
 induction h with
 |nil=>exact .nil
 |cons r _ l=>exact .cons (f _ _ r) l
theorem bn.stay(x:bn P w H h a o)(k:∀b u,(b=a\/H b=some (.own a))->h.get? b=some u->h'.get? b=some u)
  (l:∀b,H b=some (.own a)->H' b=some (.own a)) (ht:∀b xs,H b=some (.tup xs)->H' b=some (.tup xs)):bn P w H' h' a o:=by
 induction o with
 |lst xs=>obtain⟨z,d_,n,r,e⟩:=x;exact⟨z,d_,n,r,k _ _ (.inl rfl) e⟩
 |tup xs=>obtain⟨z,d_,r,ob,e,c⟩:=x;exact⟨z,d_,r,ob,k _ _ (.inl rfl) e,c⟩
 |dK B=>obtain⟨z,y,vs,r,ob,es,j,e,c⟩:=x;exact⟨z,y,vs,r,ob,es,j,k _ _ (.inl rfl) e,c⟩
 |dT B=>
  obtain⟨z,y,xs,r,ob,es,j,e,c⟩:=x;exact⟨z,y,xs,Paired.mapP r λp q z=>⟨z.1,ht _ _ z.2.1,z.2.2⟩,ob,es,j,k _ _ (.inl rfl) e,c⟩
 |set S n=>obtain⟨ob,es,j,t,e,c⟩:=x;exact⟨ob,es,j,t,k _ _ (.inl rfl) e,c⟩
 |ins C dx fs=>
  obtain⟨d,z,ne,e,mA,⟨od,es,j,E,c⟩,r⟩:=x;exact⟨l _ d,z,ne,k _ _ (.inl rfl) e,mA,⟨od,es,j,k _ _ (.inr d) E,c⟩,r⟩
 |own y=>obtain⟨ob,e⟩:=x;exact⟨ob,k _ _ (.inl rfl) e⟩
 |xd fs=>obtain⟨mA,⟨od,es,j,e,c⟩,r⟩:=x;exact⟨mA,⟨od,es,j,k _ _ (.inl rfl) e,c⟩,r⟩
 |rng lo hi=>obtain⟨t,u,v,e⟩:=x;exact⟨t,u,v,k _ _ (.inl rfl) e⟩
 |frz ob u G=>obtain⟨e,q⟩:=x;exact⟨k _ _ (.inl rfl) e,G q⟩
 |tbl ps=>
  have e:h.get? a=some { cls:=.none,data:=.fields ps }:=x;show h'.get? a=some { cls:=.none,data:=.fields ps };exact k a _ (.inl rfl) e
 |met f y=>
  have e:h.get? a=some (PySem.W.methodObj (.ref f) (.ref y)):=x;show h'.get? a=some (PySem.W.methodObj (.ref f) (.ref y));exact k a _ (.inl rfl) e
 |ext I=>obtain⟨p,⟨o,e⟩,st⟩:=x;exact⟨st _ _ p λo q=>k _ _ (.inl rfl) q,⟨o,k _ _ (.inl rfl) e⟩,st⟩
theorem c0.lt(x:c0 P w H h)(e:H a=some o):a<h.objs.size:=(x a o e).lt
theorem c0.fresh(x:c0 P w H h)(e:h.objs.size<=a):H a=none:=by
 cases q:H a with
 |none=>rfl
 |some u=>exact absurd (ZS (x.lt q) e) (ZT _)
theorem c0.kept(x:c0 P w H h)(k:∀b u,h.get? b=some u->h'.get? b=some u):c0 P w H h':=λa o e=>
 (x a o e).stay (λb u _ q=>k b u q) (λ_ q=>q) λ_ _ q=>q
theorem c0.laid(x:c0 P w H h)(k:∀b u,h.get? b=some u->h'.get? b=some u)(hp:h.objs.size<=a)(new:bn P w (upd H a o) h' a o):c0 P w (upd H a o) h':=λb u e=>by
 have hn:=x.fresh hp;by_cases hb:b=a
 .subst hb;rw[aI] at e;cases e;exact new
 .rw[aT hb] at e
  exact(x b u e).stay (λc v _ q=>k c v q) (λc q=>by rw[aT (bD q hn)];exact q) λc xs q=>by rw[aT (bD q hn)];exact q
end
def Rd(H:Hp)(a:Addr)(u:HO):Prop:=H a=some u \/ ∃o,H a=some (.frz o u)
theorem Rd.ok{h:Heap}{a:Addr}(r:Rd H a o)(x:c0 P w H h):bn P w H h a o:=by
 rcases r with r | ⟨u,r⟩
 .exact x a o r
 .obtain⟨_,q⟩:=x a _ r
  exact q
def Az:Option HO->Prop
 |some (.lst _)=>True
 |some (.dK _)=>True
 |some (.dT _)=>True
 |some (.set _ _)=>True
 |some (.ins _ _ _)=>True
 |some (.ext _)=>True
 |_=>False
section
variable {P:Zw}{w:World}{H:Hp}{h h':Heap}{x e:Addr}{o':HO}
theorem c0.write(ok:c0 P w H h)(mu:Az (H x))(j:e=x\/H e=some (.own x))(k:∀b u,b≠e->h.get? b=some u->h'.get? b=some u)(p:∃u,h'.get? e=some u)
  (new:bn P w (upd H x o') h' x o'):c0 P w (upd H x o') h':=λb u q=>by
 have l:∀c y,H c=some (.own y)->c≠x:=λc y r z=>by subst z;rw[r] at mu;exact mu
 have B:∀c xs,H c=some (.tup xs)->c≠x:=λc xs r z=>by subst z;rw[r] at mu;exact mu
 by_cases hb:b=x
 .subst hb;rw[aI] at q;cases q;exact new
 .rw[aT hb] at q
  by_cases a:b=e
  .have n:H b=some (.own x):=by
    rcases j with z | z
    .exact absurd (a.trans z) hb
    .rw[a];exact z
   rw[q] at n;cases n;obtain⟨v,hv⟩:=p;exact⟨v,by rw[a];exact hv⟩
  .refine(ok b u q).stay (λc v hc r=>k c v ?_ r) (λc r=>by rw[aT (l c b r)];exact r) λc xs r=>by rw[aT (B c xs r)];exact r
   rcases hc with rfl | hc
   .exact a
   .rintro rfl
    rcases j with z | z
    .exact l c b hc z
    .rw[hc] at z;cases z;exact hb rfl
end
structure Un (fs ex:Zh) (H H':Hp) (h h':Heap):Prop where
 keep:∀b o,h.get? b=some o->H b=none->b∉fs->b∉ex->h'.get? b=some o
 slot:∀b o,h.get? b=some o->H b=none->b∈fs->b∉ex->∃sl,h'.get? b=some { o with slots:=sl }
 free:∀b o,h.get? b=some o->H b=none->b∉ex->H' b=none
 there:∀b o,h.get? b=some o->b∉ex->∃o',h'.get? b=some o'
 tups:∀b xs,H b=some (.tup xs)->H' b=some (.tup xs)
 frzs:∀b o u,H b=some (.frz o u)->H' b=some (.frz o u)
 tbls:∀b ps,H b=some (.tbl ps)->∃more,H' b=some (.tbl (ps++more))
section
variable {fs SI ex ex':Zh}{H H1 H2:Hp}{h h1 h2 h':Heap}{a x e:Addr}{o:HO}
theorem Un.any(u:Un fs ex H H1 h h1)(q:h.get? b=some ob)(n:H b=none)(hx:b∉ex):∃sl,h1.get? b=some { ob with slots:=sl }:=by
 by_cases hb:b∈fs
 .exact u.slot b ob q n hb hx
 .exact⟨ob.slots,u.keep b ob q n hb hx⟩
theorem Un.kept(k:∀b u,h.get? b=some u->h'.get? b=some u):Un fs ex H H h h':=
 ⟨λb ob q _ _ _=>k b ob q,λb ob q _ _ _=>⟨ob.slots,k b ob q⟩,λ_ _ _ n _=>n,λb ob q _=>⟨ob,k b ob q⟩,λ_ _ q=>q,λ_ _ _ q=>q,λ_ ps q=>⟨#[],by rw[q];simp⟩⟩
theorem Un.refl:Un fs ex H H h h:=Un.kept λ_ _ q=>q
theorem Un.laid(k:∀b u,h.get? b=some u->h'.get? b=some u)(hp:h.objs.size<=a)(hn:H a=none):Un fs ex H (upd H a o) h h' where
 keep:=λb u q _ _ _=>k b u q
 slot:=λb u q _ _ _=>⟨u.slots,k b u q⟩
 free:=λb u q n _=>by rw[aT (ZU (ZS (Ye q) hp))];exact n
 there:=λb u q _=>⟨u,k b u q⟩
 tups:=λb xs q=>by rw[aT (bD q hn)];exact q
 frzs:=λb u xs q=>by rw[aT (bD q hn)];exact q
 tbls:=λb ps q=>⟨#[],by rw[aT (bD q hn),q];simp⟩
theorem Un.write(mu:Az (H x))(j:e=x\/H e=some (.own x))(k:∀b u,b≠e->h.get? b=some u->h'.get? b=some u)(l:∃u,h'.get? e=some u):Un fs ex H (upd H x o) h h':=by
 have hx:∀b,H b=none->b≠x:=λb n z=>by subst z;rw[n] at mu;exact mu
 have hb:∀b,H b=none->b≠e:=λb n z=>by
  subst z;rcases j with r | r
  .exact hx b n r
  .rw[n] at r;cases r
 have hm:∀b u,H b=some u->¬Az (some u)->b≠x:=λb u q nm z=>by subst z;rw[q] at mu;exact nm mu
 refine⟨λb u q n _ _=>k b u (hb b n) q,λb u q n _ _=>⟨u.slots,k b u (hb b n) q⟩,λb u q n _=>by rw[aT (hx b n)];exact n,λb u q _=>?_,
  λb xs q=>by rw[aT (hm b _ q λz=>z)];exact q,λb u xs q=>by rw[aT (hm b _ q λz=>z)];exact q,λb ps q=>⟨#[],by rw[aT (hm b _ q λz=>z),q];simp⟩⟩
 by_cases c:b=e
 .subst c;exact l
 .exact⟨u,k b u c q⟩
end
def IA(h:Heap)(H:Hp):List Addr:=(List.range h.objs.size).filter λa=>(H a).isSome
def nS(h:Heap)(H:Hp):Heap:=PySem.W.hideAll h (IA h H)
def DM(h:Heap)(H:Hp):(nS h H).objs.size=h.objs.size:=PySem.W.hideAll_size _ _
def FQ{h:Heap}(e:h.get? b=some ob)(n:H b=none):(nS h H).get? b=some ob:=
 PySem.W.hideAll_get _ e λhm=>by
  have q:(H b).isSome=true:=(ZV.mp hm).2;rw[n] at q;simp at q
def Jo{h:Heap}{o:Obj}(e:(nS h H).get? b=some o):h.get? b=some o/\H b=none:=by
 have e':h.get? b=some o:=PySem.W.of_hideAll (IA h H) e;refine⟨e',?_⟩;cases q:H b with
 |none=>rfl
 |some x=>
  have hm:b∈IA h H:=ZV.mpr ⟨ZW.mpr (Ye e'),by simp[q]⟩;have z:(nS h H).get? b=none:=PySem.W.hideAll_none (IA h H) hm;rw[z] at e;cases e
def Jp(g h:Heap)(L:Addr):List (Addr×Obj):=(List.range h.objs.size).filterMap λa=>if a=L\/(g.get? a).isSome=true then none else(h.get? a).map λo=>(a,o)
def rest(g h:Heap)(L d:Addr):List (Addr×Obj):=(Jp g h L).filter λp=>decide (p.1≠d)
structure Mod (K:Za) (mg:Ze) (base:Heap):Prop where
 kin:K.In base
 glob:base.Ns mainGlobals mg
 blt:∃mb,base.Ns builtinsNs mb/\∀x:Str,x ≠ "__name__"->mb x=bootBuiltins x
 nolimit:base.NoLimit
structure Cx where
 prog:Program
 w:World
 K:PySem.W.Frag
 mg:Str->Option Value
 base:Heap
 A:Around
 N:List Str
 s₀:Shared
 H₀:Hp
 env:Env
 outer:List Env
 stack:List Env
 ex:List Addr
 fn:Str->Bool
 calm:Bool
 pn:List (Addr×Obj)
 xe:Value->Shared->Prop
def nc(l:List Env):List Addr:=l.filterMap (·.frame)
abbrev Cx.fs(X:Cx):List Addr:=nc X.outer
def xH(sc:Scope)(x:Str):Prop:=sc.names.lookup x=some .local \/ sc.names.lookup x=some .cell\/sc.names.lookup x=some .free
def Loc(sc:Scope)(x:Str):Prop:=sc.names.lookup x=some .local \/ sc.names.lookup x=some .cell
def Look(env:Env)(h:Heap)(m:Ze)(x:Str)(u:Value):Prop:=
 (env.kindOf x=some .local/\m x=some u)\/((env.kindOf x=some .cell\/env.kindOf x=some .free)/\∃c,env.cells.lookup x=some c/\h.IsCell c (some u))
structure Cx.Ok (X:Cx):Prop where
 mod:Mod X.K X.mg X.base
 kind:X.env.scope.kind=.function
 glob:X.env.globals=mainGlobals
 blt:X.env.builtins=builtinsNs
 above:X.s₀.heap.objs.size<=X.env.locals
 inj:∀x y c,X.env.cells.lookup x=some c->X.env.cells.lookup y=some c->x=y
 has:∀x,(X.env.kindOf x=some .cell\/X.env.kindOf x=some .free)->∃c,X.env.cells.lookup x=some c
 cab:∀x c,X.fn x=true->X.env.cells.lookup x=some c->X.s₀.heap.objs.size<=c
 hd:X.calm=true->X.A.handled=none
 frames:X.A.frames=some X.stack
 stk:X.stack=X.outer\/(X.stack=X.env::X.outer/\X.env.frame=some X.env.locals)
 exf:∀b∈X.ex,b≠X.env.locals/\∀x c,X.env.cells.lookup x=some c->c≠b
 bs:∀b o,X.base.get? b=some o->X.s₀.heap.get? b=some o/\X.H₀ b=none
 bsz:X.base.objs.size<=X.s₀.heap.objs.size
 noex:∀b o,X.base.get? b=some o->b∉X.ex
 exfs:∀b∈X.ex,b∉X.fs
 funs:X.s₀.heap.FunFrames X.base X.outer
 frf:∀b∈X.fs,X.H₀ b=none
structure af (X:Cx) (b_:Zc) (σ:List (Option V)) (H:Hp) (s:Shared):Prop where
 ok:X.Ok
 os:s.os=X.s₀.os
 bare:AllBare s.gens
 base:Un X.fs X.ex X.H₀ H X.s₀.heap s.heap
 loc:∃m,s.heap.Ns X.env.locals m/\∀(i:Nat) (x:Str) (v:V),X.N[i]?=some x->σ[i]?=some (some v)->xH X.env.scope x->∃u,RelV v u/\Look X.env s.heap m x u
 cell:∀x c,X.env.cells.lookup x=some c->∃v,s.heap.IsCell c v
 free:H X.env.locals=none
 freeC:∀x c,X.env.cells.lookup x=some c->H c=none
 pin:∀p∈X.pn++b_,s.heap.get? p.1=some p.2/\H p.1=none/\p.1≠X.env.locals/\p.1∉X.fs/\∀v,p.2.data≠.cell v
 hok:c0 X.prog X.w H s.heap
 len:σ.length=X.N.length
section
variable {X:Cx}{b_:Zc}{σ:List (Option V)}{H H':Hp}{s:Shared}{h':Heap}
theorem Cx.Ok.nofr(ok:X.Ok)(e:X.base.get? b=some ob):b∉X.fs:=λhb=>by
 have:=(ok.funs.mem hb).1
 rw[e] at this;cases this
theorem af.bs(I:af X b_ σ H s):∀b o,X.base.get? b=some o->s.heap.get? b=some o/\H b=none:=λb o e=>
 ⟨I.base.keep b o (I.ok.bs b o e).1 (I.ok.bs b o e).2 (I.ok.nofr e) (I.ok.noex b o e),I.base.free b o (I.ok.bs b o e).1 (I.ok.bs b o e).2 (I.ok.noex b o e)⟩
theorem af.bk(I:af X b_ σ H s):∀b o,X.base.get? b=some o->s.heap.get? b=some o:=λb o e=>(I.bs b o e).1
theorem af.mod(I:af X b_ σ H s):Mod X.K X.mg X.base:=I.ok.mod
theorem af.kIn(I:af X b_ σ H s):X.K.In s.heap:=I.ok.mod.kin.keeps I.bk
theorem af.lt(I:af X b_ σ H s):X.env.locals<s.heap.objs.size:=let⟨_,hn,_⟩:=I.loc;hn.lt
theorem af.sz(I:af X b_ σ H s):X.s₀.heap.objs.size<=s.heap.objs.size:=ZX I.ok.above (Nat.le_of_lt I.lt)
theorem af.nofs(I:af X b_ σ H s)(h:s.heap.objs.size<=b):b∉X.fs:=λhb=>by
 obtain⟨_,o,a,_⟩:=I.ok.funs.mem hb;exact absurd (ZS (Ye a) (ZX I.sz h)) (ZT _)
theorem af.cne(I:af X b_ σ H s):∀x c,X.env.cells.lookup x=some c->c≠X.env.locals:=λx c e z=>by
 obtain⟨v,o,a,hd⟩:=I.cell x c e;obtain⟨m,⟨o',es,l,j,k,_⟩,_⟩:=I.loc;rw[z,j] at a;cases a;rw[k] at hd;cases hd
theorem af.funs(I:af X b_ σ H s):s.heap.FunFrames X.base X.outer:=by
 have all:∀(l:List Env),(∀b∈nc l,b∈X.fs)->X.s₀.heap.FunFrames X.base l->s.heap.FunFrames X.base l:=by
  intro l;induction l with
  |nil=>intro _ _;trivial
  |cons env r c=>
   intro hs hl;obtain⟨hk,⟨L,o,hf,hn,j,hd⟩,hr⟩:=hl;have a:L∈X.fs:=hs L (by unfold nc;rw[ZY,hf];exact ZZ);obtain⟨sl,e⟩:=I.base.slot L o j (I.ok.frf L a) a λz=>I.ok.exfs L z a
   exact⟨hk,⟨L,_,hf,hn,e,hd⟩,c (λb hb=>hs b (by unfold nc;rw[ZY,hf];exact YA _ hb)) hr⟩
 exact all X.outer (λ_ hb=>hb) I.ok.funs
theorem af.stack(I:af X b_ σ H s):s.heap.FunFrames X.base X.stack:=by
 rcases I.ok.stk with e | ⟨e,hf⟩
 .rw[e];exact I.funs
 .rw[e]
  obtain⟨m,hn,_⟩:=I.loc;refine .cons (by rw[I.ok.kind];decide) hf hn ?_ I.funs;exact Heap.get?_none_of_le (ZX I.ok.bsz I.ok.above)
theorem af.stkSub(I:af X b_ σ H s):∀b∈nc X.stack,b∈X.env.locals::X.fs:=λb hb=>by
 rcases I.ok.stk with e | ⟨e,hf⟩
 .rw[e] at hb;exact YA _ hb
 .rw[e] at hb
  unfold nc at hb;rw[ZY,hf] at hb;exact hb
theorem af.stkFree(I:af X b_ σ H s):∀b∈nc X.stack,H b=none:=λb hb=>by
 rcases YB.mp (I.stkSub b hb) with e | hb
 .rw[e];exact I.free
 .obtain⟨_,o,a,_⟩:=I.ok.funs.mem hb
  exact I.base.free b o a (I.ok.frf b hb) λz=>I.ok.exfs b z hb
theorem af.step{g':Array GenState}{d':Drawn}(I:af X b_ σ H s)
  (B:∀b∈ch,(b∈X.ex\/X.s₀.heap.objs.size<=b)/\b≠X.env.locals/\(∀x c,X.env.cells.lookup x=some c->c≠b)/\∀p∈X.pn++b_,p.1≠b)
  (keep:∀b o,b≠X.env.locals->b∉X.fs->b∉ch->s.heap.get? b=some o->H b=none->h'.get? b=some o)
  (slot:∀b o,b≠X.env.locals->b∈X.fs->b∉ch->s.heap.get? b=some o->H b=none->∃sl,h'.get? b=some { o with slots:=sl }) (free:∀b o,b∉ch->s.heap.get? b=some o->H b=none->H' b=none)
  (there:∀b o,b∉ch->s.heap.get? b=some o->∃o',h'.get? b=some o')
  (tups:∀b xs,H b=some (.tup xs)->H' b=some (.tup xs)) (frzs:∀b o u,H b=some (.frz o u)->H' b=some (.frz o u)) (tbls:∀b ps,H b=some (.tbl ps)->∃more,H' b=some (.tbl (ps++more)))
  (ns:∀m,s.heap.Ns X.env.locals m->h'.Ns X.env.locals m) (hok:c0 X.prog X.w H' h') (hg:AllBare g'):
  af X b_ σ H' { s with heap:=h',gens:=g',drawn:=d',toks:=t' }:=by
 have E:∀b o,X.s₀.heap.get? b=some o->b≠X.env.locals:=λb o e=>ZU (ZS (Ye e) I.ok.above)
 have L:∀b o,X.s₀.heap.get? b=some o->b∉X.ex->b∉ch:=λb o e hx hb=>by
  rcases(B b hb).1 with z | z
  .exact hx z
  .exact absurd (ZS (Ye e) z) (ZT _)
 have a:∀x c,X.env.cells.lookup x=some c->∀v,s.heap.IsCell c v->h'.IsCell c v:=λx c e v ⟨o,j,hd⟩=>by
  have G:c∉ch:=λz=>(B c z).2.2.1 x c e rfl
  by_cases hc:c∈X.fs
  .obtain⟨sl,q⟩:=slot c o (I.cne x c e) hc G j (I.freeC x c e)
   exact⟨_,q,hd⟩
  .exact⟨o,keep c o (I.cne x c e) hc G j (I.freeC x c e),hd⟩
 refine⟨I.ok,I.os,hg,⟨λb o e n hb hx=>?_,λb o e n hb hx=>?_,λb o e n hx=>?_,λb o e hx=>?_,λb xs e=>tups b xs (I.base.tups b xs e),λb o xs e=>frzs b o xs (I.base.frzs b o xs e),λb ps e=>?_⟩,?_,λx c e=>?_,?_,λx c e=>?_,λp hp=>?_,hok,I.len⟩
 .exact keep b o (E b o e) hb (L b o e hx) (I.base.keep b o e n hb hx) (I.base.free b o e n hx)
 .obtain⟨sl,e1⟩:=I.base.slot b o e n hb hx
  obtain⟨O,J⟩:=slot b _ (E b o e) hb (L b o e hx) e1 (I.base.free b o e n hx);exact⟨O,J⟩
 .obtain⟨o',e1⟩:=I.base.there b o e hx
  exact free b o' (L b o e hx) e1 (I.base.free b o e n hx)
 .obtain⟨o',e1⟩:=I.base.there b o e hx
  exact there b o' (L b o e hx) e1
 .obtain⟨S,e1⟩:=I.base.tbls b ps e
  obtain⟨T,J⟩:=tbls b _ e1;exact⟨S++T,by rw[J,Array.append_assoc]⟩
 .obtain⟨m,hn,hl⟩:=I.loc
  refine⟨m,ns m hn,λi x v e1 J e3=>?_⟩;obtain⟨u,r,l⟩:=hl i x v e1 J e3;refine⟨u,r,?_⟩;rcases l with l | ⟨k,c,e,z⟩
  .exact .inl l
  .exact .inr ⟨k,c,e,a x c e _ z⟩
 .obtain⟨v,z⟩:=I.cell x c e
  exact⟨v,a x c e v z⟩
 .obtain⟨m,⟨o,_,_,j,_⟩,_⟩:=I.loc
  exact free _ o (λz=>(B _ z).2.1 rfl) j I.free
 .obtain⟨v,o,j,hd⟩:=I.cell x c e
  exact free c o (λz=>(B c z).2.2.1 x c e rfl) j (I.freeC x c e)
 .obtain⟨e,n,ne,R,d⟩:=I.pin p hp
  have G:p.1∉ch:=λz=>(B p.1 z).2.2.2 p hp rfl
  exact⟨keep p.1 p.2 ne R G e n,free p.1 p.2 G e n,ne,R,d⟩
theorem af.un(I:af X b_ σ H s)(u:Un X.fs [] H H' s.heap h')(hok:c0 X.prog X.w H' h'):af X b_ σ H' { s with heap:=h',toks:=t' }:=by
 obtain⟨m,⟨o,es,B,a,r⟩,_⟩:=id I.loc;obtain⟨sl,j⟩:=u.any a I.free (by simp);exact I.step (g':=s.gens) (d':=s.drawn) (ch:=[]) (λ_ z=>nomatch z) (λb o _ hb _ e n=>u.keep b o e n hb (by simp)) (λb o _ hb _ e n=>u.slot b o e n hb (by simp)) (λb o _ e n=>u.free b o e n (by simp)) (λb o _ e=>u.there b o e (by simp)) u.tups u.frzs u.tbls (λE hm=>by
  obtain⟨o',k,l,c,p⟩:=hm;rw[a] at c;cases c;exact⟨_,k,l,j,p⟩) hok I.bare
theorem af.call{g':Array GenState}{d':Drawn}(I:af X b_ σ H s)(u:Un (nc X.stack) ch H H' s.heap h')(hok:c0 X.prog X.w H' h')(hg:AllBare g')
  (j:∀b∈ch,(b∈X.ex\/X.s₀.heap.objs.size<=b)/\b≠X.env.locals/\(∀x c,X.env.cells.lookup x=some c->c≠b)/\∀p∈X.pn++b_,p.1≠b):
  af X b_ σ H' { s with heap:=h',gens:=g',drawn:=d',toks:=t' }:=by
 obtain⟨m,⟨o,es,J,k,r⟩,_⟩:=id I.loc;obtain⟨sl,a⟩:=u.any k I.free λz=>(j _ z).2.1 rfl
 exact I.step (ch:=ch) j (λb o a hb hc e n=>u.keep b o e n (λz=>(YB.mp (I.stkSub b z)).elim a hb) hc) (λb o _ _ hc e n=>u.any e n hc) (λb o hc e n=>u.free b o e n hc) (λb o hc e=>u.there b o e hc) u.tups u.frzs u.tbls (λL hm=>by
  obtain⟨o',B,E,l,G⟩:=hm;rw[k] at l;cases l;exact⟨_,B,E,a,G⟩) hok hg
theorem af.turned(I:af X b_ σ H s)(k:∀b o,b≠it->s.heap.get? b=some o->h'.get? b=some o)(hn:H it=none)(a:it≠X.env.locals)
  (h1:it∈X.ex\/X.s₀.heap.objs.size<=it) (l:∀x c,X.env.cells.lookup x=some c->c≠it) (B:∀p∈X.pn++b_,p.1≠it):af X b_ σ H { s with heap:=h',toks:=t' }:=by
 have j:∀b u,H b=some u->b≠it:=λb u e z=>by rw[z,hn] at e;cases e
 refine I.step (g':=s.gens) (d':=s.drawn) (ch:=[it]) (λb hb=>?_) (λb o _ _ hc e _=>k b o (λz=>hc (by simp[z])) e) (λb o _ _ hc e _=>⟨o.slots,k b o (λz=>hc (by simp[z])) e⟩) (λ_ _ _ _ n=>n)
  (λb o hc e=>⟨o,k b o (λz=>hc (by simp[z])) e⟩) (λ_ _ e=>e) (λ_ _ _ e=>e) (λb ps e=>⟨#[],by rw[e];simp⟩) (λm hm=>?_) (λb u e=>?_) I.bare
 .have e:b=it:=by simpa using hb
  subst e;exact⟨h1,a,l,B⟩
 .obtain⟨o,es,E,G,r⟩:=hm
  exact⟨o,es,E,k _ o (Ne.symm a) G,r⟩
 .refine(I.hok b u e).stay (λc v hc q=>k c v ?_ q) (λ_ q=>q) λ_ _ q=>q
  rcases hc with z | z
  .rw[z];exact j b u e
  .exact j c _ z
theorem af.tok(I:af X b_ σ H s)(t:Nat):af X b_ σ H { s with toks:=t }:=I.un (h':=s.heap) (t':=t) Un.refl I.hok
theorem af.kept{t':Nat}(I:af X b_ σ H s)(k:∀b u,s.heap.get? b=some u->h'.get? b=some u):af X b_ σ H { s with heap:=h',toks:=t' }:=I.un (Un.kept k) (I.hok.kept k)
theorem af.laid{a:Addr}{o:HO}{t':Nat}(I:af X b_ σ H s)(k:∀b u,s.heap.get? b=some u->h'.get? b=some u)(hp:s.heap.objs.size<=a)(new:bn X.prog X.w (upd H a o) h' a o):
  af X b_ σ (upd H a o) { s with heap:=h',toks:=t' }:=I.un (Un.laid k hp (I.hok.fresh hp)) (I.hok.laid k hp new)
theorem af.write{x e:Addr}{o:HO}{t':Nat}(I:af X b_ σ H s)(mu:Az (H x))(a:e=x\/H e=some (.own x))(k:∀b u,b≠e->s.heap.get? b=some u->h'.get? b=some u)(c:∃u,h'.get? e=some u)
  (new:bn X.prog X.w (upd H x o) h' x o):af X b_ σ (upd H x o) { s with heap:=h',toks:=t' }:=I.un (Un.write mu a k c) (I.hok.write mu a k c new)
theorem af.pins_of(I:af X b_ σ H s)(h:∀p∈SJ,s.heap.get? p.1=some p.2/\H p.1=none/\p.1≠X.env.locals/\p.1∉X.fs/\∀v,p.2.data≠.cell v):af X SJ σ H s:=
 ⟨I.ok,I.os,I.bare,I.base,I.loc,I.cell,I.free,I.freeC,λp hp=>(YC.mp hp).elim (λz=>I.pin p (List.mem_append_left _ z)) (h p),I.hok,I.len⟩
def xI(c:N.Nodup)(a:N[i]?=some m)(b:N[t']?=some m):i=t':=by
 obtain⟨h1,e1⟩:=YD.mp a;obtain⟨k,j⟩:=YD.mp b;exact(List.getElem_inj c).mp (e1.trans j.symm)
def vP{x:Zo}(I:af X b_ σ H s)(hN:X.N.Nodup)(hi:X.N[i]?=some m)(hx:Loc X.env.scope m)(r:RelV v u)
  (h:∀R,af X b_ (σ.set i (some v)) H R->(∃a,Heap.SameBut a s.heap R.heap/\(a=X.env.locals\/X.env.cells.lookup m=some a))->x () R) (hf:X.fn m=true\/X.env.scope.names.lookup m=some .local:=by first | exact .inl rfl | exact .inr rfl | assumption):wpAny M A (storeName X.env m u) x Q s:=by
 obtain⟨E,hn,hl⟩:=id I.loc;have V0:(X.env.scope.kind==.class||(X.env.scope.kind==.module&&X.env.locals != X.env.globals))=false:=by rw[I.ok.kind];rfl
 have Ul:i<σ.length:=by rw[I.len];exact(YD.mp hi).1
 have cne:=I.cne;have l:∀{a:Addr}{h':Heap},(∃o,s.heap.get? a=some o/\H a=none)->Heap.SameBut a s.heap h'->c0 X.prog X.w H h':=λ{a h'} ha hs b ob e=>by
  obtain⟨_,_,A'⟩:=ha;refine(I.hok b ob e).stay (λc O hc q=>(hs.2 c ?_).trans q) (λ_ q=>q) λ_ _ q=>q
  rintro rfl;rcases hc with rfl | hc
  .rw[A'] at e;cases e
  .rw[A'] at hc;cases hc
 rcases hx with hk | hk
 .refine wpAny_storeName_local hk hn (λh' S hs=>?_) V0
  obtain⟨oL,_,_,T,_⟩:=id hn;refine h _ ⟨I.ok,I.os,I.bare,⟨λb o e n hb hx=>?_,λb o e n hb hx=>?_,I.base.free,λb o e hx=>?_,I.base.tups,I.base.frzs,I.base.tbls⟩,⟨_,S,λj y U e1 B e3=>?_⟩,λy c e=>?_,I.free,I.freeC,λp hp=>?_,l ⟨oL,T,I.free⟩ hs,by simpa using I.len⟩ ⟨_,hs,.inl rfl⟩
  .exact(hs.2 b (ZU (ZS (Ye e) I.ok.above))).trans (I.base.keep b o e n hb hx)
  .obtain⟨sl,e1⟩:=I.base.slot b o e n hb hx
   exact⟨sl,(hs.2 b (ZU (ZS (Ye e) I.ok.above))).trans e1⟩
  .obtain⟨o',e1⟩:=I.base.there b o e hx
   exact⟨o',(hs.2 b (ZU (ZS (Ye e) I.ok.above))).trans e1⟩
  .by_cases G:j=i
   .subst G
    rw[hi] at e1;cases e1;rw[List.getElem?_set_self Ul] at B;cases B;exact⟨u,r,.inl ⟨hk,by simp⟩⟩
   .rw[List.getElem?_set_ne (Ne.symm G)] at B
    obtain⟨u',W,q⟩:=hl j y U e1 B e3;refine⟨u',W,?_⟩;rcases q with⟨k,e⟩ | ⟨k,c,e,z⟩
    .refine .inl ⟨k,?_⟩
     have:y≠m:=λe=>G (xI hN e1 (e▸hi))
     simp[this,e]
    .exact .inr ⟨k,c,e,z.sameBut hs (cne y c e)⟩
  .obtain⟨O,z⟩:=I.cell y c e
   exact⟨O,z.sameBut hs (cne y c e)⟩
  .obtain⟨e,n,ne,Y,d⟩:=I.pin p hp
   exact⟨(hs.2 p.1 ne).trans e,n,ne,Y,d⟩
 .have Z:X.fn m=true:=by
   rcases hf with z | z
   .exact z
   .rw[z] at hk;cases hk
  obtain⟨c,hc⟩:=I.ok.has m (.inl hk);obtain⟨O,z⟩:=I.cell m c hc;refine wpAny_storeName_cell I.ok.kind hk hc z (λh' SY hs=>?_);obtain⟨oc,J,V2⟩:=id z;refine h { s with heap:=h' } ⟨I.ok,I.os,I.bare,⟨λb o e n hb hx=>?_,λb o e n hb hx=>?_,I.base.free,λb o e hx=>?_,I.base.tups,I.base.frzs,I.base.tbls⟩,⟨E,hn.sameBut hs (Ne.symm (cne m c hc)),λj y U e1 B e3=>?_⟩,λy c' e=>?_,I.free,I.freeC,λp hp=>?_,l ⟨oc,J,I.freeC m c hc⟩ hs,by simpa using I.len⟩ ⟨c,hs,.inr hc⟩
  .exact(hs.2 b (ZU (ZS (Ye e) (I.ok.cab m c Z hc)))).trans (I.base.keep b o e n hb hx)
  .obtain⟨sl,e1⟩:=I.base.slot b o e n hb hx
   exact⟨sl,(hs.2 b (ZU (ZS (Ye e) (I.ok.cab m c Z hc)))).trans e1⟩
  .obtain⟨o',e1⟩:=I.base.there b o e hx
   exact⟨o',(hs.2 b (ZU (ZS (Ye e) (I.ok.cab m c Z hc)))).trans e1⟩
  .by_cases G:j=i
   .subst G
    rw[hi] at e1;cases e1;rw[List.getElem?_set_self Ul] at B;cases B;exact⟨u,r,.inr ⟨.inl hk,c,hc,SY⟩⟩
   .rw[List.getElem?_set_ne (Ne.symm G)] at B
    obtain⟨u',W,q⟩:=hl j y U e1 B e3;refine⟨u',W,?_⟩;rcases q with q | ⟨k,c',e,z'⟩
    .exact .inl q
    .refine .inr ⟨k,c',e,z'.sameBut hs ?_⟩
     rintro rfl;exact G (xI hN e1 (I.ok.inj _ _ _ e hc▸hi))
  .by_cases L:c'=c
   .subst L;exact⟨_,SY⟩
   .obtain⟨w2,z2⟩:=I.cell y c' e
    exact⟨w2,z2.sameBut hs L⟩
  .obtain⟨e,n,ne,Y,d⟩:=I.pin p hp
   refine⟨(hs.2 p.1 ?_).trans e,n,ne,Y,d⟩;intro q;rw[q,J] at e;have q':oc=p.2:=Yi e;exact d O (by rw[←q'];exact V2)
def xJ{E:Zo}(I:af X b_ σ H s)(c:X.N.Nodup)(hi:X.N[i]?=some m)(hx:Loc X.env.scope m)(r:RelV v u)
  (h:∀a,af X b_ (σ.set i (some v)) H a->E () a) (hf:X.fn m=true\/X.env.scope.names.lookup m=some .local:=by first | exact .inl rfl | exact .inr rfl | assumption):wpAny M A (storeName X.env m u) E Q s:=
 vP I c hi hx r (λa j _=>h a j) hf
theorem af.call'(I:af X b_ σ H s)(a:s1.os=s.os)(u:Un (nc X.stack) ch H H' s.heap s1.heap)(hok:c0 X.prog X.w H' s1.heap)(hg:AllBare s1.gens)
  (j:∀b∈ch,(b∈X.ex\/X.s₀.heap.objs.size<=b)/\b≠X.env.locals/\(∀x c,X.env.cells.lookup x=some c->c≠b)/\∀p∈X.pn++b_,p.1≠b):af X b_ σ H' s1:=by
 obtain⟨h',g',d',t',o'⟩:=s1;have e:o'=s.os:=a;subst e;exact I.call (g':=g') (t':=t') (d':=d') u hok hg j
end
abbrev XK:=Value->Option Addr->Hp->Prop
abbrev St:=List (Option V)
abbrev VK:=V->Hp->Prop
abbrev TE:=St->Hp->VK->Prop
abbrev TT:=St->Hp->(Bool->Hp->Prop)->Prop
abbrev TA:=St->Hp->(List V->Hp->Prop)->Prop
structure Ends where
 nx:St->Hp->Prop
 rt:VK
 bk:St->Hp->Prop:=λ_ _=>False
 ct:St->Hp->Prop:=λ_ _=>False
abbrev TS:=Ends->St->Hp->Prop
def EP(X:Cx)(b_:Zc)(σ:St)(Q:VK)(u:Value)(a:Shared):Prop:=∃v H',af X b_ σ H' a/\RelV v u/\Q v H'
def TP(X:Cx)(b_:Zc)(σ:St)(Q:Bool->Hp->Prop)(b:Bool)(a:Shared):Prop:=∃H',af X b_ σ H' a/\Q b H'
def AP(X:Cx)(b_:Zc)(σ:St)(Q:List V->Hp->Prop)(us:Zd)(a:Shared):Prop:=∃vs H',af X b_ σ H' a/\aq vs us/\Q vs H'
def SP(X:Cx)(b_:Zc)(D:Ends)(f:Flow)(c:Shared):Prop:=
 match f with
 |.next=>∃a H',af X b_ a H' c/\D.nx a H'
 |.brk=>∃a H',af X b_ a H' c/\D.bk a H'
 |.cont=>∃a H',af X b_ a H' c/\D.ct a H'
 |.ret u=>∃v a H',af X b_ a H' c/\RelV v u/\D.rt v H'
def PE(X:Cx)(e:Expr)(t:TE):Prop:=
 ∀(b_:Zc) (s:Shared) (σ:St) (H:Hp) (Q:VK),af X b_ σ H s->t σ H Q->wpAny 'c' X.A (eval e X.env) (EP X b_ σ Q) X.xe s
def PT(X:Cx)(e:Expr)(t:TT):Prop:=
 ∀(b_:Zc) (s:Shared) (σ:St) (H:Hp) (Q:Bool->Hp->Prop),af X b_ σ H s->t σ H Q->wpAny 'c' X.A (isTrue e X.env (eval e X.env)) (TP X b_ σ Q) X.xe s
def PW(X:Cx)(e:Expr)(t:TT):Prop:=
 ∀(a:Sem Value) (b_:Zc) (s:Shared) (σ:St) (H:Hp) (Q:Bool->Hp->Prop),af X b_ σ H s->t σ H Q->wpAny 'c' X.A (isTrue e X.env a) (TP X b_ σ Q) X.xe s
def PA(X:Cx)(es:Zg)(t:TA):Prop:=
 ∀(pos:Pos) (b_:Zc) (s:Shared) (σ:St) (H:Hp) (Q:List V->Hp->Prop),af X b_ σ H s->t σ H Q->wpAny 'c' X.A (spliced (backTo pos (starEach es X.env))) (AP X b_ σ Q) X.xe s
def PS(X:Cx)(st:Stmt)(t:TS):Prop:=
 ∀(b_:Zc) (s:Shared) (σ:St) (H:Hp) (D:Ends),af X b_ σ H s->t D σ H->wpAny 'c' X.A (exec st X.env) (SP X b_ D) X.xe s
def kN(X:Cx)(st:Zu)(t:TS):Prop:=
 ∀(b_:Zc) (s:Shared) (σ:St) (H:Hp) (D:Ends),af X b_ σ H s->t D σ H->wpAny 'c' X.A (execs st X.env) (SP X b_ D) X.xe s
def aK{c:Type}{t:Sem c}{E j:c->Shared->Prop}(h:wpAny M A t E Q s)(k:∀a s,E a s->j a s):wpAny M A t j Q s:=wpAny_mono h k λ_ _ x=>x
section
variable {X:Cx}
def bin{b:Expr}(ha:PE X tg ti)(hb:PE X b to){R:V->V->Hp->Prop}(I:af X b_ σ H s)(h:ti σ H λx c=>to σ c λy a=>R x y a)
  {j:Type}{Q:j->Shared->Prop}{f:Value->Value->Sem j}
  (hf:∀v u s2 x y a,af X b_ σ a s2->RelV x v->RelV y u->R x y a->wpAny 'c' X.A (f v u) Q X.xe s2):
  wpAny 'c' X.A (eval tg X.env) (λv k=>wpAny 'c' X.A (eval b X.env) (λu l=>wpAny 'c' X.A (f v u) Q X.xe l) X.xe k) X.xe s:=by
 refine aK (ha b_ s σ H _ I h) λv s1 n=>?_
 obtain⟨x,c,p,z,B⟩:=n;refine aK (hb b_ s1 σ c _ p B) λu s2 E=>?_
 obtain⟨y,a,G,J,L⟩:=E;exact hf v u s2 x y a G z J L
def OP(i:Nat):TE:=λσ H Q=>∃v,σ[i]?=some (some v)/\Q v H
def tC(v:V):TE:=λ_ H Q=>Q v H
def LA(j:X.N[i]?=some m)(hv:xH X.env.scope m)(hd:(m==("__debug__" : Str))=false:=by decide)(k:(m==("__classdict__" : Str))=false:=by decide):PE X (.Name m pos) (OP i):=by
 intro b_ s σ H Q I h;obtain⟨v,e,h⟩:=h;obtain⟨x,hn,hl⟩:=I.loc;obtain⟨u,r,l⟩:=hl i m v j e hv;have fin:EP X b_ σ Q u s:=⟨v,H,I,r,h⟩;rcases l with⟨hk,hm⟩ | ⟨hk,c,hc,a⟩
 .exact wpAny_Name (wpAny_loadName_local I.ok.kind hk hn hm fin) hd
 .rcases hk with hk | hk
  .exact wpAny_Name (wpAny_loadName_cell I.ok.kind hk hc a fin) hd
  .exact wpAny_Name (wpAny_loadName_free I.ok.kind hk hc a fin k) hd
def DN{i j pos}:PE X (.Constant (.int i) j pos) (tC (.int i)):=λ_ _ _ H _ I h=>wpAny_Constant_int ⟨.int i,H,I.tok _,⟨_,rfl⟩,h⟩
def NT{b j pos}:PE X (.Constant (.bool b) j pos) (tC (.bl b)):=λ_ _ _ H _ I h=>Constant_bool ⟨.bl b,H,I,rfl,h⟩
def LB{j pos}:PE X (.Constant .none j pos) (tC .non):=λ_ _ _ H _ I h=>Constant_none ⟨.non,H,I,rfl,h⟩
def LC{x j pos}:PE X (.Constant (.str x) j pos) (tC (.str x)):=λ_ _ _ H _ I h=>Calls.Constant_str ⟨.str x,H,I.tok _,⟨_,rfl⟩,h⟩
def Gl(X:Cx)(x:Str):Prop:=X.env.kindOf x=some .globalImplicit
def u5{E:Zb}(I:af X b_ σ H s)(hg:Gl X m)(hm:X.mg m=some u)(h:Q u s)
  (hd:(m==("__debug__" : Str))=false:=by decide):wpAny 'c' X.A (eval (.Name m pos) X.env) Q E s:=
 Calls.Name_function_global I.ok.kind hg (Calls.loadGlobal_global (by rw[I.ok.glob];exact I.mod.glob.keeps I.bk) hm h) hd
def eG{E:Zb}(I:af X b_ σ H s)(hg:Gl X m)(hm:X.mg m=none)(hv:bootBuiltins m=some u)(h:Q u s)
  (hn:m ≠ "__name__":=by decide) (hd:(m==("__debug__" : Str))=false:=by decide):wpAny 'c' X.A (eval (.Name m pos) X.env) Q E s:=by
 obtain⟨mb,h1,a⟩:=I.mod.blt;exact Calls.Name_function_global I.ok.kind hg (Calls.loadGlobal_builtin (by rw[I.ok.glob];exact I.mod.glob.keeps I.bk) hm (by rw[I.ok.blt];exact h1.keeps I.bk) ((a m hn).trans hv) h) hd
def Jq(hg:Gl X m)(hm:X.mg m=some u)(r:RelV v u)(hd:(m==("__debug__" : Str))=false:=by decide):PE X (.Name m pos) (tC v):=
 λ_ _ _ H _ I h=>u5 I hg hm ⟨v,H,I,r,h⟩ hd
def Jr(hg:Gl X m)(hm:X.mg m=none)(hv:bootBuiltins m=some u)(r:RelV v u)(hn:m ≠ "__name__":=by decide)(hd:(m==("__debug__" : Str))=false:=by decide):PE X (.Name m pos) (tC v):=
 λ_ _ _ H _ I h=>eG I hg hm hv ⟨v,H,I,r,h⟩ hn hd
variable {a b:Expr}{ta tb:TE}{pos:Pos}
variable {tA VF:TT}{rest:Zg}
def OQ(t u:TT):TT:=λσ H Q=>t σ H λc j=>if c=true then u σ j Q else Q false j
def Pt(t u:TT):TT:=λσ H Q=>t σ H λc j=>if c=true then Q true j else u σ j Q
def OR(t:TT):TT:=λσ H Q=>t σ H λc j=>Q (!c) j
def Js(ha:PT X a tA):PW X (.BoolOp .And [a] pos) tA:=by
 intro j b_ s σ H Q I h;refine isTrue_and (aK (ha b_ s σ H Q I h) λc s1 e=>?_);cases c with
 |true=>exact isTrue_and_nil e
 |false=>exact e
def LD(ha:PT X a tA):PW X (.BoolOp .Or [a] pos) tA:=by
 intro j b_ s σ H Q I h;refine isTrue_or (aK (ha b_ s σ H Q I h) λc s1 e=>?_);cases c with
 |false=>exact isTrue_or_nil e
 |true=>exact e
def LE(ha:PT X a tA)(hb:PW X (.BoolOp .And (b::rest) pos) VF):PW X (.BoolOp .And (a::b::rest) pos) (OQ tA VF):=by
 intro n b_ s σ H Q I h;refine isTrue_and (aK (ha b_ s σ H _ I h) λc s1 p=>?_);obtain⟨j,k,l⟩:=p;cases c with
 |true=>exact hb n b_ s1 σ j Q k l
 |false=>exact⟨j,k,l⟩
def NU(ha:PT X a tA)(hb:PW X (.BoolOp .Or (b::rest) pos) VF):PW X (.BoolOp .Or (a::b::rest) pos) (Pt tA VF):=by
 intro n b_ s σ H Q I h;refine isTrue_or (aK (ha b_ s σ H _ I h) λc s1 p=>?_);obtain⟨j,k,l⟩:=p;cases c with
 |true=>exact⟨j,k,l⟩
 |false=>exact hb n b_ s1 σ j Q k l
def LF(ha:PT X a tA):PT X (.UnaryOp .Not a pos) (OR tA):=by
 intro b_ s σ H Q I h;exact isTrue_not (ha b_ s σ H (λc j=>Q (!c) j) I h)
def NV(ta tb:TE):TE:=λσ H Q=>ta σ H λx j=>∃c,x=.bl c/\if c=true then tb σ j Q else Q (.bl false) j
def OS(ta tb:TE):TE:=λσ H Q=>ta σ H λx j=>∃c,x=.bl c/\if c=true then Q (.bl true) j else tb σ j Q
def NW(ta:TE):TE:=λσ H Q=>ta σ H λx j=>∃c,x=.bl c/\Q (.bl (!c)) j
def LG{op}(h:PE X a ti):PE X (.BoolOp op [a] pos) ti:=λb_ s σ H Q I hw=>BoolOp_one (h b_ s σ H Q I hw)
def LH(ha:PE X a ta)(hb:PE X (.BoolOp .And (b::rest) pos) tb):PE X (.BoolOp .And (a::b::rest) pos) (NV ta tb):=by
 intro b_ s σ H Q I h;refine BoolOp_and (aK (ha b_ s σ H _ I h) λv s1 n=>?_);obtain⟨x,k,l,p,j⟩:=n;obtain⟨c,rfl,j⟩:=j;cases p;refine wpAny_truthy_bool ?_;cases c with
 |true=>exact hb b_ s1 σ k Q l j
 |false=>exact⟨.bl false,k,l,rfl,j⟩
def NX(ha:PE X a ta)(hb:PE X (.BoolOp .Or (b::rest) pos) tb):PE X (.BoolOp .Or (a::b::rest) pos) (OS ta tb):=by
 intro b_ s σ H Q I h;refine BoolOp_or (aK (ha b_ s σ H _ I h) λv s1 n=>?_);obtain⟨x,k,l,p,j⟩:=n;obtain⟨c,rfl,j⟩:=j;cases p;refine wpAny_truthy_bool ?_;cases c with
 |false=>exact hb b_ s1 σ k Q l j
 |true=>exact⟨.bl true,k,l,rfl,j⟩
def LI(ha:PE X a ta):PE X (.UnaryOp .Not a pos) (NW ta):=by
 intro b_ s σ H Q I h;refine UnaryOp_ (aK (ha b_ s σ H _ I h) λv s1 k=>?_);obtain⟨x,l,n,p,j⟩:=k;obtain⟨c,rfl,j⟩:=j;cases p;exact not_of (wpAny_truthy_bool ⟨.bl (!c),l,n,rfl,j⟩)
def Pu(t:TT)(ta tb:TE):TE:=λσ H Q=>t σ H λc j=>if c=true then ta σ j Q else tb σ j Q
def FR(hc:PT X tg tA)(ha:PE X a ta)(hb:PE X b tb):PE X (.IfExp tg a b pos) (Pu tA ta tb):=by
 intro b_ s σ H Q I h;refine wpAny_IfExp (aK (hc b_ s σ H _ I h) λd s1 l=>?_);obtain⟨c,j,k⟩:=l;cases d with
 |true=>exact ha b_ s1 σ c Q j k
 |false=>exact hb b_ s1 σ c Q j k
end
def bQ(K:Za)(H:Hp)(a:Addr)(xs:List V):Prop:=
 Rd H a (.lst xs) \/
  ∃(o:Obj) (d_:Zl) (n:Nat),K.lookup a=some o/\o.cls=.type "list"/\o.dict=none/\o.data=.seq d_ n/\d_.size<=sizeLine/\aq xs d_.toList
def bX(K:Za)(H:Hp)(a:Addr)(xs:List V):Prop:=
 Rd H a (.tup xs) \/
  ∃(o:Obj) (d_:Zl) (n:Nat),K.lookup a=some o/\o.cls=.type "tuple"/\o.data=.seq d_ n/\d_.size<=sizeLine/\aq xs d_.toList
def OT:Value->Option V
 |.none=>some .non
 |.bool b=>some (.bl b)
 |.int i _=>some (.int i)
 |.str x _=>some (.str x)
 |.bytes b _=>some (.byt b)
 |.float b _=>some (.flt b)
 |.ref a=>some (.ref a)
 |.type n=>some (.ty n)
 |_=>none
theorem RelV.abs(r:RelV y u):OT u=some y:=by
 cases y with
 |non=>cases r;rfl
 |bl _=>cases r;rfl
 |int _=>obtain⟨t,rfl⟩:=r;rfl
 |str _=>obtain⟨t,rfl⟩:=r;rfl
 |byt _=>obtain⟨t,rfl⟩:=r;rfl
 |flt _=>obtain⟨t,rfl⟩:=r;rfl
 |ref _=>cases r;rfl
 |ty _=>cases r;rfl
theorem RelV.inj{x y:V}{u:Value}(r:RelV x u)(q:RelV y u):x=y:=Yi (r.abs.symm.trans q.abs)
theorem aq.inj{xs a:List V}{us:Zd}(h:aq xs us)(h':aq a us):xs=a:=by
 induction h generalizing a with
 |nil=>cases h';rfl
 |cons r t c=>cases h' with
  |cons j t'=>rw[r.inj j,c t']
section
variable {X:Cx}{b_:Zc}{σ:St}{H:Hp}{s:Shared}{a:Addr}{xs ys:List V}
theorem bQ.of(h:H a=some (.lst xs)):bQ K H a xs:=.inl (.inl h)
theorem bX.of(h:H a=some (.tup xs)):bX K H a xs:=.inl (.inl h)
theorem af.list(I:af X b_ σ H s)(h:bQ X.K H a xs):∃d_:List Value,aq xs d_/\PlainL s.heap a d_.toArray/\xs.length<=sizeLine:=by
 rcases h with h | ⟨o,d_,n,hk,hc,hd,hs,hz,r⟩
 .obtain⟨z,d_,n,r,e⟩:=h.ok I.hok
  exact⟨d_,r,⟨_,n,e,rfl,rfl,rfl⟩,z⟩
 .refine⟨d_.toList,r,⟨o,n,I.kIn a o hk,hc,hd,by simpa using hs⟩,?_⟩
  have e:=r.length;simp only[YE] at e;omega
theorem af.tuple(I:af X b_ σ H s)(h:bX X.K H a xs):∃d_:List Value,aq xs d_/\IsTup s.heap a d_.toArray/\xs.length<=sizeLine:=by
 rcases h with h | ⟨o,d_,n,hk,hc,hs,hz,r⟩
 .obtain⟨z,d_,r,p⟩:=h.ok I.hok
  exact⟨d_,r,p,z⟩
 .refine⟨d_.toList,r,⟨o,I.kIn a o hk,hc,n,by simpa using hs⟩,?_⟩
  have e:=r.length;simp only[YE] at e;omega
theorem af.list_inj(I:af X b_ σ H s)(h:bQ X.K H a xs)(h':bQ X.K H a ys):xs=ys:=by
 obtain⟨d_,r,⟨o,n,e,_,_,d⟩,_⟩:=I.list h;obtain⟨o_,c,⟨o',n',e',_,_,d'⟩,_⟩:=I.list h';rw[e] at e';cases e';rw[d] at d';injection d' with d1 _
 have:d_=o_:=by simpa using congrArg Array.toList d1
 subst this;exact r.inj c
theorem af.tuple_inj(I:af X b_ σ H s)(h:bX X.K H a xs)(h':bX X.K H a ys):xs=ys:=by
 obtain⟨d_,r,⟨o,e,_,n,d⟩,_⟩:=I.tuple h;obtain⟨o_,c,⟨o',e',_,n',d'⟩,_⟩:=I.tuple h';rw[e] at e';cases e';rw[d] at d';injection d' with d1 _
 have:d_=o_:=by simpa using congrArg Array.toList d1
 subst this;exact r.inj c
end
abbrev Cx.wish(X:Cx)(E:Zb):Cx:={ X with xe:=E }
abbrev Cx.nox(X:Cx):Cx:=X.wish λ_ _=>False
theorem Cx.Ok.wish{X:Cx}(ok:X.Ok)(E:Zb):(X.wish E).Ok:=
 ⟨ok.mod,ok.kind,ok.glob,ok.blt,ok.above,ok.inj,ok.has,ok.cab,ok.hd,ok.frames,ok.stk,ok.exf,ok.bs,ok.bsz,ok.noex,ok.exfs,ok.funs,ok.frf⟩
theorem Cx.Ok.unwish(ok:(X.wish Q).Ok):X.Ok:=
 ⟨ok.mod,ok.kind,ok.glob,ok.blt,ok.above,ok.inj,ok.has,ok.cab,ok.hd,ok.frames,ok.stk,ok.exf,ok.bs,ok.bsz,ok.noex,ok.exfs,ok.funs,ok.frf⟩
section
variable {X:Cx}{b_:Zc}{σ:St}{H:Hp}{s:Shared}{E:Zb}
theorem af.wish(I:af X b_ σ H s)(E:Zb):af (X.wish E) b_ σ H s:=⟨I.ok.wish E,I.os,I.bare,I.base,I.loc,I.cell,I.free,I.freeC,I.pin,I.hok,I.len⟩
theorem af.unwish(I:af (X.wish E) b_ σ H s):af X b_ σ H s:=⟨I.ok.unwish,I.os,I.bare,I.base,I.loc,I.cell,I.free,I.freeC,I.pin,I.hok,I.len⟩
theorem SP.unwish{D:Ends}{f:Flow}{c:Shared}(h:SP (X.wish E) b_ D f c):SP X b_ D f c:=by
 cases f with
 |next=>obtain⟨a,H',I,q⟩:=h;exact⟨a,H',I.unwish,q⟩
 |brk=>obtain⟨a,H',I,q⟩:=h;exact⟨a,H',I.unwish,q⟩
 |cont=>obtain⟨a,H',I,q⟩:=h;exact⟨a,H',I.unwish,q⟩
 |ret u=>obtain⟨v,a,H',I,r,q⟩:=h;exact⟨v,a,H',I.unwish,r,q⟩
theorem kN.nox(h:kN X.nox st tb):kN X st tb:=λb_ s σ H D I hw=>
 wpAny_mono (h b_ s σ H D (I.wish _) hw) (λ_ _ q=>q.unwish) λ_ _ z=>Yh z
end
section
variable {X:Cx}{st:Stmt}{rest:Zu}{t u:TS}{e:Expr}{te:TE}{pos:Pos}
def IB:TS:=λD σ H=>D.nx σ H
def OU(t u:TS):TS:=λD σ H=>t { D with nx:=u D } σ H
def Jt:kN X [] IB:=λ_ _ σ H _ I h=>wpAny_execs_nil ⟨σ,H,I,h⟩
def FS(h1:PS X st t)(a:kN X rest u):kN X (st::rest) (OU t u):=by
 intro b_ s σ H D I h;refine wpAny_execs_cons (aK (h1 b_ s σ H { D with nx:=u D } I h) λf s1 q=>?_);cases f with
 |next=>
  obtain⟨c,H',j,q⟩:=q;exact a b_ s1 c H' D j q
 |ret v=>exact q
 |brk=>exact q
 |cont=>exact q
def Ju:PS X (.Pass pos) IB:=λ_ _ σ H _ I h=>wpAny_Pass ⟨σ,H,I,h⟩
theorem af.quiet(I:af X b_ σ H s):interactive X.env=false:=by simp[interactive,I.ok.kind]
def NY(te:TE):TS:=λD σ H=>te σ H λ_ a=>D.nx σ a
def Jv(a:PE X e te)(hs:swapsWith e none pos.line X.env=pure false:=by rfl):PS X (.Expr e pos) (NY te):=by
 intro b_ s σ H D I h;refine wpAny_Expr_any (aK (a b_ s σ H _ I h) λv s1 c=>?_) I.quiet hs;obtain⟨x,j,k,n,l⟩:=c;exact⟨σ,j,k,l⟩
def OV(te:TE):TS:=λD σ H=>te σ H D.rt
def LJ(a:PE X e te):PS X (.Return (some e) pos) (OV te):=by
 intro b_ s σ H D I h;refine wpAny_Return_some (aK (a b_ s σ H _ I h) λv s1 c=>?_);obtain⟨x,j,k,l,n⟩:=c;exact⟨x,σ,j,k,l,n⟩
def OW(c:TT)(t u:TS):TS:=λD σ H=>c σ H λb a=>if b=true then t D σ a else u D σ a
def NZ{a b:Zu}(hc:PT X e tc)(ha:kN X a t)(hb:kN X b u):PS X (.If e a b pos) (OW tc t u):=by
 intro b_ s σ H D I h;refine wpAny_If (aK (hc b_ s σ H _ I h) λd s1 l=>?_);obtain⟨c,j,k⟩:=l;cases d with
 |true=>exact ha b_ s1 σ c D j k
 |false=>exact hb b_ s1 σ c D j k
end
abbrev TG:=V->St->Hp->(St->Hp->Prop)->Prop
abbrev rO:=List V->St->Hp->(St->Hp->Prop)->Prop
def PG(X:Cx)(a:Expr)(t:TG):Prop:=
 ∀(b_:Zc) (s:Shared) (σ:St) (H:Hp) (v:V) (u:Value) (Q:St->Hp->Prop),af X b_ σ H s->RelV v u->t v σ H Q ->
  wpAny 'c' X.A (assign a X.env u) (λ_ j=>∃c H',af X b_ c H' j/\Q c H') X.xe s
def AA(X:Cx)(ts:Zg)(t:rO):Prop:=
 ∀(b_:Zc) (s:Shared) (σ:St) (H:Hp) (vs:List V) (us:Zd) (Q:St->Hp->Prop),af X b_ σ H s->aq vs us->t vs σ H Q ->
  wpAny 'c' X.A (assignInOrder ((assignEach ts X.env).map (·.2)) us) (λ_ c=>∃a H',af X b_ a H' c/\Q a H') X.xe s
abbrev BV:=V->V->V->Hp->(Hp->Prop)->Prop
def FT(X:Cx)(t:BV):Prop:=
 ∀(b_:Zc) (s:Shared) (σ:St) (H:Hp) (o i v:V) (a c u:Value) (Q:Hp->Prop),af X b_ σ H s->RelV o a->RelV i c->RelV v u->t o i v H Q ->
  wpAny 'c' X.A (setItem a c u) (λ_ j=>∃H',af X b_ σ H' j/\Q H') X.xe s
section
variable {X:Cx}{pos:Pos}
def xp(i:Nat):TG:=λv σ H Q=>Q (σ.set i (some v)) H
def AB(a:X.N.Nodup)(hi:X.N[i]?=some m)(hx:Loc X.env.scope m)(hf:X.fn m=true\/X.env.scope.names.lookup m=some .local:=by first | exact .inl rfl | exact .inr rfl | assumption):PG X (.Name m pos) (xp i):=by
 intro b_ s σ H v u Q I r h;exact wpAny_assign_Name (xJ I a hi hx r (λj c=>⟨_,H,c,h⟩) hf)
def LK:rO:=λvs σ H Q=>vs=[]/\Q σ H
def IC(t:TG)(u:rO):rO:=λvs σ H Q=>∃v r,vs=v::r/\t v σ H λa H'=>u r a H' Q
def Jw:AA X [] LK:=by
 intro b_ s σ H vs us Q I r h;obtain⟨e,h⟩:=h;subst e;cases r;exact assignInOrder_nil ⟨σ,H,I,h⟩
def FU{e:Expr}{u:rO}(h1:PG X e g)(a:AA X es u)
  (hs:(assignEach (e::es) X.env).map (·.2)=assign e X.env::(assignEach es X.env).map (·.2):=by rfl):AA X (e::es) (IC g u):=by
 intro b_ s σ H vs us Q I r h;obtain⟨v,z,e1,h⟩:=h;subst e1;cases r with
 |cons r c=>
  rw[hs];refine assignInOrder_cons (aK (h1 b_ s σ H _ _ _ I r h) λ_ s1 j=>?_);obtain⟨k,l,n,p⟩:=j;exact a b_ s1 k l _ _ Q n c p
def OX(K:Za)(n:Nat)(t:rO):TG:=λv σ H Q=>∃a xs,v=.ref a/\bX K H a xs/\xs.length=n/\t xs σ H Q
def LL{k:Nat}(hc:X.calm=true)(h:AA X es t)
  (hn:(assignEach es X.env).length=i:=by rfl) (j:(assignEach es X.env).findIdx? (·.1)=none:=by rfl):PG X (.Tuple es k pos) (OX X.K i t):=by
 intro b_ s σ H v u Q I r hw;obtain⟨a,xs,e1,hq,hl,hw⟩:=hw;subst e1;cases r;obtain⟨d_,c,ht,n⟩:=I.tuple hq;refine assign_Tuple_tuple (I.ok.hd hc) ht (by simp[hn,←hl,c.length]) j λh' hx=>?_
 have l:af X b_ σ H { s with heap:=h' }:=I.kept (t':=s.toks) λb o e=>hx b o (ZU (Ye e)) e
 exact h b_ _ σ H xs _ Q l (by simpa using c) hw
def OY(to ti:TE)(t:BV):TG:=λv σ H Q=>to σ H λo a=>ti σ a λi c=>t o i v c λj=>Q σ j
def DO {o i:Expr}  {t:BV} (j:PE X o to) (hi:PE X i ti) (hs:FT X t)
    (ha:∀ v,assign (.Subscript o i pos) X.env v = (do
      let a ← holding [v] (eval o X.env)
      let c ← holding [v,a] (eval i X.env)
      standAt pos
      holding [v,a,c] (setItem a c v)
      release [v,a,c] []):=by intro _; rfl):PG X (.Subscript o i pos) (OY to ti t):=by
  intro b_ s σ H v u Q I r h
  rw [ha]
  refine Yb (Yj (aK (j b_ s σ H _ I h) λa s1 k=>?_))
  obtain ⟨x,l,n,p,z⟩:=k
  refine Yb (Yj (aK (hi b_ s1 σ l _ n z) λc s2 B=>?_))
  obtain ⟨y,E,G,J,L⟩:=B
  refine Yb (Yk (Yb (Yj (aK (hs b_ s2 σ E x y v a c u _ G p J r L) λ_ U O=>?_))))
  obtain ⟨R,S,T⟩:=O
  exact wpAny_release ⟨σ,R,S,T⟩
def LM(te:TE)(g:TG):TS:=λD σ H=>te σ H λx a=>g x σ a D.nx
def xK{e:Expr}(a:PE X e ti)(hg:PG X tg g)(hs:swapsWithSole [tg] e pos.line X.env=pure false:=by rfl)(hw:swappedStores [tg] e X.env=pure none:=by rfl)
  (h1:(assignEach [tg] X.env).map (·.2)=[assign tg X.env]:=by rfl):PS X (.Assign [tg] e pos) (LM ti g):=by
 intro b_ s σ H D I h;refine wpAny_Assign_stores (aK (a b_ s σ H _ I h) λv s1 c=>?_) hs hw;obtain⟨x,j,k,l,n⟩:=c;rw[h1];exact aK (hg b_ s1 σ j x v _ k l n) λ_ s2 q=>q
def LN{e:Expr}(a:X.N.Nodup)(hi:X.N[i]?=some m)(hx:Loc X.env.scope m)(c:PE X e ti)(hs:swapsWith e (some (.Name m pos')) pos.line X.env=pure false:=by rfl)(hf:X.fn m=true\/X.env.scope.names.lookup m=some .local:=by first | exact .inl rfl | exact .inr rfl | assumption):
  PS X (.Assign [.Name m pos'] e pos) (LM ti (xp i)):=by
 intro b_ s σ H D I h;refine wpAny_Assign_Name (aK (c b_ s σ H _ I h) λv s1 j=>?_) hs;obtain⟨y,k,l,n,p⟩:=j;exact xJ l a hi hx n (λs2 z=>⟨_,k,z,p⟩) hf
end
section
variable {X:Cx}{pos:Pos}
def LO(c:TT)(tb:TS):TS:=λD σ H=>∃W:Nat->St->Hp->Prop,(∃m,W m σ H)/\∀m σ H,W m σ H ->
 c σ H λb a=>if b=true then ∃N:St->Hp->Prop,(∀j H',N j H'->∃k,k<m/\W k j H')/\tb { D with nx:=N,ct:=N,bk:=D.nx } σ a else D.nx σ a
def FV(hp:PassesOwn 'c' X.A X.env X.xe)(hc:PT X tg tc)(hb:kN X body tb):PS X (.While tg body [] pos) (LO tc tb):=by
 intro b_ s σ H D I h;obtain⟨W,⟨T,U⟩,a⟩:=h;refine wpAny_While (codeAny_whileLoop (λn Y=>∃J H',af X b_ J H' Y/\W n J H') ?_ T ⟨σ,H,I,U⟩);rintro n s1 ⟨k,L,Z,w1⟩;refine wpAny_passesOwn hp (aK (hc b_ s1 k L _ Z (a n k L w1)) λb s2 V7=>?_);obtain⟨O,R,l⟩:=V7;cases b with
 |true=>
  obtain⟨N,S,l⟩:=l;rw[if_pos rfl];refine wpAny_passesOwn hp (aK (hb b_ s2 k O _ R l) λf s3 p=>?_);cases f with
  |next=>
   obtain⟨c,j,z,B⟩:=p;obtain⟨E,hm,G⟩:=S c j B;exact⟨E,hm,c,j,z,G⟩
  |cont=>
   obtain⟨c,j,z,B⟩:=p;obtain⟨E,hm,G⟩:=S c j B;exact⟨E,hm,c,j,z,G⟩
  |brk=>exact p
  |ret v=>exact p
 |false=>
  rw[if_neg YF];exact wpAny_execs_nil ⟨k,O,R,l⟩
end
structure It where
 go:Nat->Hp->Prop
 yld:Nat->Hp->V->Hp->Prop
 stop:Nat->Hp->Prop
def pN(X:Cx)(b_:Zc)(H:Hp)(b:Addr):Prop:=
 H b=none/\b≠X.env.locals/\b∉X.fs/\(b∈X.ex\/X.s₀.heap.objs.size<=b)/\(∀x c,X.env.cells.lookup x=some c->c≠b)/\∀p∈X.pn++b_,p.1≠b
theorem af.fpOk(I:af X b_ σ H s)(hb:s.heap.objs.size<=b)(hn:H' b=none):pN X b_ H' b:=by
 refine⟨hn,Nat.ne_of_gt (ZS I.lt hb),I.nofs hb,.inr (ZX I.sz hb),λx c e z=>?_,λp hp z=>?_⟩
 .obtain⟨v,q⟩:=I.cell x c e
  exact absurd (ZS q.lt (by rw[z];exact hb)) (ZT _)
 .exact absurd (ZS (Ye (I.pin p hp).1) (by rw[z];exact hb)) (ZT _)
structure Turn (P:Zw) (w:World) (K:Za) (tg:Expr) (J:It) (fp:Zh) (it:Addr) (tn:Nat->Heap->Prop):Prop where
 mem:it∈fp
 obj:∀i h,tn i h->∀b∈fp,∃o,h.get? b=some o/\∀v,o.data≠.cell v
 keep:∀i h h',tn i h->(∀b∈fp,∀o,h.get? b=some o->h'.get? b=some o)->tn i h'
 item:∀(X:Cx),X.prog=P->X.w=w->X.K=K->X.calm=true->∀(i:Nat) (b_:Zc) (s:Shared) (σ:St) (H:Hp) (E:Zb),af X b_ σ H s->(∀b∈fp,pN X b_ H b)->tn i s.heap->J.go i H ->
  wpAny (model P w) X.A (pyNext (.ref it)) (λr s1=>∃u,r=some u /\
   wpAny (model P w) X.A (letOwnedTupleGo tg (.ref it) u) (λ_ s2=>∃x H',af X b_ σ H' s2/\RelV x u/\J.yld i H x H'/\tn (i+1) s2.heap/\∀b∈fp,H' b=none) E s1) E s
 done:∀(X:Cx),X.prog=P->X.w=w->X.K=K->X.calm=true->∀(i:Nat) (b_:Zc) (s:Shared) (σ:St) (H:Hp) (E:Zb),af X b_ σ H s->(∀b∈fp,pN X b_ H b)->tn i s.heap->J.stop i H ->
  wpAny (model P w) X.A (pyNext (.ref it)) (λr s1=>r=none/\af X b_ σ H s1) E s
 self:∀(A:Around) (i:Nat) (s:Shared) (Q:Zb) (E:Zb),tn i s.heap->Q (.ref it) s->wpAny (model P w) A (pyIter (.ref it)) Q E s
abbrev TI:=St->Hp->(It->Hp->Prop)->Prop
def vQ(X:Cx)(b_:Zc)(σ:St)(tg:Expr)(R:It->Hp->Prop)(a:Value)(s2:Shared):Prop:=
 ∃(it:Addr) (fp:Zh) (tn:Nat->Heap->Prop) (J:It) (H':Hp),a=.ref it/\af X b_ σ H' s2/\Turn X.prog X.w X.K tg J fp it tn/\tn 0 s2.heap/\(∀b∈fp,pN X b_ H' b)/\R J H'
def PI(X:Cx)(tg iter:Expr)(a:TI):Prop:=
 ∀(b_:Zc) (s:Shared) (σ:St) (H:Hp) (R:It->Hp->Prop),af X b_ σ H s->a σ H R ->
  wpAny 'c' X.A (eval iter X.env) (λv s1=>wpAny 'c' X.A (pyIter v) (vQ X b_ σ tg R) X.xe s1) X.xe s
def xq        {o:Obj} {n:String} {vs:Zl} {E:Zo} (c:s.heap.get? it = some o) (hc:o.cls = .type n) (hd:o.data = .fields vs)
    (hn:["enumerate","zip","dict_itemiterator","dict_reverseitemiterator","odict_iterator","itertools.zip_longest","itertools.pairwise"].contains n = false) (a:E () s):wpAny M A (letOwnedTupleGo tg (.ref it) u) E Q s:=by
  unfold letOwnedTupleGo
  cases tg <;> first
    | exact Yc a
    | (cases u <;> first
        | exact Yc a
        | (refine Yb (wpAny_load c ?_)
           rw [hc,hd]
           show wpAny M A (if (["enumerate","zip","dict_itemiterator","dict_reverseitemiterator","odict_iterator","itertools.zip_longest","itertools.pairwise"].contains n && vs[0]? == some (rawInt _)) = true then _ else _) E Q s
           rw [if_neg (by intro h; rw [hn,Bool.false_and] at h; cases h)]
           exact Yc a))
def LP(K:Za)(a:Addr):It:=
 ⟨λi H=>∃xs x,bQ K H a xs/\xs[i]?=some x,λi H x H'=>H'=H/\∀xs,bQ K H a xs->xs[i]?=some x,λi H=>∃xs,bQ K H a xs/\xs.length<=i⟩
def LQ(K:Za)(a:Addr):It:=
 ⟨λi H=>∃xs x,bX K H a xs/\xs[i]?=some x,λi H x H'=>H'=H/\∀xs,bX K H a xs->xs[i]?=some x,λi H=>∃xs,bX K H a xs/\xs.length<=i⟩
def DP(lo:Int)(n:Nat):It:=⟨λi _=>i<n,λi H x H'=>H'=H/\x=.int (lo+i),λi _=>n<=i⟩
theorem DQ(a it:Addr):Turn P w K tg (LP K a) [it] it (λi h=>h.IsListIter it a i) where
 mem:=by simp
 obj:=λi h st b hb=>by
  have e:b=it:=by simpa using hb
  subst e;obtain⟨o,e,c,d⟩:=st;exact⟨o,e,λv z=>by rw[d] at z;cases z⟩
 keep:=λi h h' st k=>st.at λo e=>k it (by simp) o e
 item:=by
  intro X j hw l hc i b_ s σ H E I hf st hg;subst j hw l;obtain⟨xs,x,hq,hx⟩:=hg;obtain⟨d_,n,p,R⟩:=I.list hq;obtain⟨u,hu,S⟩:=n.get hx;obtain⟨B,G,T,J,L,O⟩:=hf it (by simp);refine wpAny_pyNext_list_item st p.isList (x:=u) (by simpa using hu) λh' l_ U=>?_
  have W:af X b_ σ H { s with heap:=h' }:=I.turned (t':=s.toks) (λb o hb e=>(U.2 b hb).trans e) B G J L O;obtain⟨o,e,c,d⟩:=id l_;exact⟨u,rfl,xq (s:={ s with heap:=h' }) e c d 'b' ⟨x,H,W,S,⟨rfl,λZ hy=>by rw[I.list_inj hy hq];exact hx⟩,l_,λb hb=>(hf b hb).1⟩⟩
 done:=by
  intro X j hw l hc i b_ s σ H E I hf st hg;subst j hw l;obtain⟨xs,hq,hx⟩:=hg;obtain⟨d_,n,p,R⟩:=I.list hq;obtain⟨B,G,T,J,L,O⟩:=hf it (by simp);have hl:=n.length;exact wpAny_pyNext_list_end (I.ok.hd hc) st p.isList (by simp;omega) λh' Y=>⟨rfl,I.turned (t':=s.toks) (λb o hb e=>Y b o hb e) B G J L O⟩
 self:=λ_ _ _ _ _ st h=>wpAny_pyIter_listiter st h
theorem BW(a it:Addr):Turn P w K tg (LQ K a) [it] it (λi h=>h.IsTupleIter it a i) where
 mem:=by simp
 obj:=λi h st b hb=>by
  have e:b=it:=by simpa using hb
  subst e;obtain⟨o,e,c,d⟩:=st;exact⟨o,e,λv z=>by rw[d] at z;cases z⟩
 keep:=λi h h' st k=>st.at λo e=>k it (by simp) o e
 item:=by
  intro X j hw l hc i b_ s σ H E I hf st hg;subst j hw l;obtain⟨xs,x,hq,hx⟩:=hg;obtain⟨d_,n,p,R⟩:=I.tuple hq;obtain⟨u,hu,S⟩:=n.get hx;obtain⟨B,G,T,J,L,O⟩:=hf it (by simp);refine wpAny_pyNext_tuple_item st (show s.heap.IsTuple a d_.toArray from p) (x:=u) (by simpa using hu) λh' l_ U=>?_
  have W:af X b_ σ H { s with heap:=h' }:=I.turned (t':=s.toks) (λb o hb e=>(U.2 b hb).trans e) B G J L O;obtain⟨o,e,c,d⟩:=id l_;exact⟨u,rfl,xq (s:={ s with heap:=h' }) e c d 'b' ⟨x,H,W,S,⟨rfl,λZ hy=>by rw[I.tuple_inj hy hq];exact hx⟩,l_,λb hb=>(hf b hb).1⟩⟩
 done:=by
  intro X j hw l hc i b_ s σ H E I hf st hg;subst j hw l;obtain⟨xs,hq,hx⟩:=hg;obtain⟨d_,n,p,R⟩:=I.tuple hq;obtain⟨B,G,T,J,L,O⟩:=hf it (by simp);have hl:=n.length;exact wpAny_pyNext_tuple_end (I.ok.hd hc) st (show s.heap.IsTuple a d_.toArray from p) (by simp;omega) λh' Y=>⟨rfl,I.turned (t':=s.toks) (λb o hb e=>Y b o hb e) B G J L O⟩
 self:=λ_ _ _ _ _ st h=>wpAny_pyIter_tupleiter st h
theorem BX(it:Addr)(lo:Int)(n:Nat):Turn P w K tg (DP lo n) [it] it (λi h=>IsRangeIter h it (lo+(i:Nat)*1) ((n:Int)-(i:Nat)) 1) where
 mem:=by simp
 obj:=λi h st b hb=>by
  have e:b=it:=by simpa using hb
  subst e;exact⟨_,st,λv z=>by
   have J:Data.fields _=Data.cell v:=z;cases J⟩
 keep:=λi h h' st k=>k it (by simp) _ st
 item:=by
  intro X a hw c hc i b_ s σ H E I hf st hg;subst a hw c;obtain⟨j,l,L,p,B,G⟩:=hf it (by simp);have W:=Walks.range (prog:=X.prog) (w:=X.w) (I.ok.hd hc) it lo 1 n;refine W.item i s _ _ hg st λv h' tk hv l_ kk=>?_
  obtain⟨t,rfl⟩:=hv;have O:af X b_ σ H { s with heap:=h',toks:=tk }:=I.turned (λb o hb e=>kk b o (by simpa using hb) e) j l p B G;refine⟨_,rfl,xq (s:={ s with heap:=h',toks:=tk }) (n:="range_iterator") l_ rfl rfl 'b' ⟨.int (lo+i),H,O,⟨t,?_⟩,⟨rfl,rfl⟩,l_,λb hb=>(hf b hb).1⟩⟩;rw[Int.mul_one]
 done:=by
  intro X a hw c hc i b_ s σ H E I hf st hg;subst a hw c;obtain⟨j,l,L,p,B,G⟩:=hf it (by simp);exact wpAny_pyNext_range_end (I.ok.hd hc) st (by have:n<=i:=hg;omega) λh' R=>⟨rfl,I.turned (t':=s.toks) (λb o hb e=>R b o hb e) j l p B G⟩
 self:=λ_ _ _ _ _ st h=>wpAny_pyIter_rangeiter st h
section
variable {X:Cx}{tg:Expr}
theorem xL{R:It->Hp->Prop}{t u v:Tok}(I:af X b_ σ H s)(h1:-(2 ^ 62)<=lo)(c:lo<2 ^ 62)(j:-(2 ^ 62)<=hi)(k:hi<2 ^ 62)
  (q:R (DP lo (hi-lo).toNat) H):wpAny 'c' X.A (pyIter (.ref s.heap.objs.size)) (vQ X b_ σ tg R) Q { s with heap:=s.heap.push { cls:=.type "range",data:=.fields #[.int lo t,.int hi u,.int 1 v] },toks:=i }:=by
 refine wpAny_pyIter_range (IsRange.new ..) (small_one h1 c j k) ?_;have a:af X b_ σ H { s with heap:=s.heap.push { cls:=.type "range",data:=.fields #[.int lo t,.int hi u,.int 1 v] },toks:=i }:=I.kept λb o e=>Yd _ e
 refine⟨(s.heap.push { cls:=.type "range",data:=.fields #[.int lo t,.int hi u,.int 1 v] }).objs.size,[(s.heap.push { cls:=.type "range",data:=.fields #[.int lo t,.int hi u,.int 1 v] }).objs.size],_,_,H,rfl,
  a.kept (t':=i) λb o e=>Yd _ e,BX _ lo (hi-lo).toNat,?_,λb hb=>?_,q⟩
 .have e1:lo+((0:Nat):Int)*1=lo:=by simp
  have l:(((hi-lo).toNat:Nat):Int)-((0:Nat):Int)=Builtin.Range.rangeSize lo hi 1:=by rw[rangeSize_one];split<;>omega
  show IsRangeIter _ _ (lo+((0:Nat):Int)*1) ((((hi-lo).toNat:Nat):Int)-((0:Nat):Int)) 1;rw[e1,l];exact Yg _ rfl
 .have e:b=(s.heap.push { cls:=.type "range",data:=.fields #[.int lo t,.int hi u,.int 1 v] }).objs.size:=by simpa using hb
  subst e;exact a.fpOk (YG _) (a.hok.fresh (YG _))
def N0(ta:TA):TI:=λσ H R=>ta σ H λvs a=>∃j:Int,vs=[.int j]/\-(2 ^ 62)<=j/\j<2 ^ 62/\R (DP 0 j.toNat) a
def N1(ta:TA):TI:=λσ H R=>ta σ H λvs a=>∃i j:Int,vs=[.int i,.int j]/\(-(2 ^ 62)<=i/\i<2 ^ 62/\-(2 ^ 62)<=j/\j<2 ^ 62)/\R (DP i (j-i).toNat) a
theorem DR{a:Expr}{p:Pos}(hg:Gl X "range")(hm:X.mg "range" = none)(ha:PA X [a] ta)(hs:starEach [a] X.env=[(false,eval a X.env)]:=by rfl):PI X tg (.Call (.Name "range" p) [a] [] pos) (N0 ta):=by
 intro b_ s σ H R I h;refine Call_ (eG I hg hm boot_range (PyProof.Rows.callWith_type1 (aK (ha pos b_ s σ H _ I h) λus s1 k=>?_) hs rfl));obtain⟨vs,E,l,n,c⟩:=k;obtain⟨j,e,c,z,q⟩:=c;subst e;cases n with
 |cons r B=>
  cases B;obtain⟨t,rfl⟩:=r;exact call_range_1 (xL l 'a' 'a' c z (by simpa using q))
def DT{a b:Expr}{p:Pos}(hg:Gl X "range")(hm:X.mg "range" = none)(ha:PA X [a,b] ta)(hs:starEach [a,b] X.env=[(false,eval a X.env),(false,eval b X.env)]:=by rfl)(l:starEach [b] X.env=[(false,eval b X.env)]:=by rfl):
  PI X tg (.Call (.Name "range" p) [a,b] [] pos) (N1 ta):=by
 intro b_ s σ H R I h;refine Call_ (eG I hg hm boot_range (PyProof.Rows.callWith_type1 (aK (ha pos b_ s σ H _ I h) λus s1 n=>?_) (by rw[hs,l]) (by rw[l];rfl)));obtain⟨vs,O,z,B,c⟩:=n;obtain⟨i,j,e,⟨c,E,G,J⟩,q⟩:=c;subst e;cases B with
 |cons r k=>
  cases k with
  |cons L k=>
   cases k;obtain⟨t,rfl⟩:=r;obtain⟨t',rfl⟩:=L;exact call_range_2 (xL z c E G J q)
def OZ(j:TI)(g:TG)(tb:TS):TS:=λD σ H=>j σ H λJ k=>∃W:Nat->Nat->St->Hp->Prop,(∃m,W 0 m σ k)/\∀i m σ H,W i m σ H ->
 (J.stop i H/\D.nx σ H)\/(J.go i H/\∃N:St->Hp->Prop,(∀a H',N a H'->∃c,c<m/\W (i+1) c a H')/\∀x H',J.yld i H x H'->g x σ H' λl n=>tb { D with nx:=N,ct:=N,bk:=D.nx } l n)
def jy(fp:Zh)(h:Heap):List (Addr×Obj):=fp.filterMap λb=>(h.get? b).map λo=>(b,o)
def km{h:Heap}(hb:b∈ch)(e:h.get? b=some ob):(b,ob)∈jy ch h:=List.mem_filterMap.mpr ⟨b,hb,by rw[e];rfl⟩
def vR{h:Heap}{p:Addr×Obj}(hp:p∈jy ch h):p.1∈ch/\h.get? p.1=some p.2:=by
 obtain⟨b,hb,e⟩:=List.mem_filterMap.mp hp;cases q:h.get? b with
 |none=>rw[q] at e;cases e
 |some o=>
  rw[q] at e;have e':(b,o)=p:=Yi e;subst e';exact⟨hb,q⟩
theorem af.pinned(I:af X b_ σ H s)(hf:∀b∈ch,pN X b_ H b)(a:∀b∈ch,∃o,s.heap.get? b=some o/\∀v,o.data≠.cell v):af X (b_++jy ch s.heap) σ H s:=
 I.pins_of λp hp=>(YC.mp hp).elim (λz=>I.pin p (YH _ z)) λz=>by
  obtain⟨hb,e⟩:=vR z;obtain⟨c,j,k,_⟩:=hf p.1 hb;obtain⟨o,e',d⟩:=a p.1 hb;rw[e] at e';cases e';exact⟨e,c,j,k,d⟩
theorem af.unpinned(I:af X (b_++SJ) σ H s):af X b_ σ H s:=I.pins_of λp hp=>I.pin p (YH _ (List.mem_append_left _ hp))
def LR{O:TI}(hp:PassesOwn 'c' X.A X.env X.xe)(hc:X.calm=true)(hi:PI X tg iter O)(hg:PG X tg g)(hb:kN X body tb)
  (hs:∀x,foldedSetIterable iter X.env x=pure x:=by intro _;rfl):PS X (.For tg iter body [] pos) (OZ O g tb):=by
 intro b_ s σ H D I h;refine wpAny_For (aK (hi b_ s σ H _ I h) λv s1 h1=>aK h1 λV8 s2 h2=>?_) hs;obtain⟨it,fp,tn,J,H2,e,I2,T,Q3,R,W,⟨m0,w0⟩,k⟩:=h2;subst e
 -- what stays true of the iterator's objects through the loop
 have E:∀{H':Hp},(∀b∈fp,H' b=none)->∀b∈fp,pN X b_ H' b:=λhn b hb=>⟨hn b hb,(R b hb).2⟩
 refine codeAny_forLoop_any (λn S=>∃i l H',af X b_ l H' S/\tn i S.heap/\(∀b∈fp,H' b=none)/\W i n l H') ?_ m0 ⟨0,σ,H2,I2,Q3,λb hb=>(R b hb).1,w0⟩;rintro n U ⟨i,p,B,Y,Z,Uq,w3⟩;rcases k i n p B w3 with⟨stop,qn⟩ | ⟨go,N,hN,step⟩
 .refine wpAny_passesOwn hp (aK (T.done X rfl rfl rfl hc i b_ U p B X.xe Y (E Uq) Z stop) λr s4 V'=>?_)
  obtain⟨hr,I4⟩:=V';subst hr;exact wpAny_execs_nil ⟨p,B,I4,qn⟩
 .refine wpAny_passesOwn hp (aK (T.item X rfl rfl rfl hc i b_ U p B X.xe Y (E Uq) Z go) λr s4 Wc=>?_)
  obtain⟨u,hr,h4⟩:=Wc;subst hr;refine wpAny_passesOwn hp (aK h4 λ_ s5 Wd=>?_);obtain⟨x,H5,I5,r5,y5,G,We⟩:=Wd;have Wf:=I5.pinned (E We) (T.obj _ _ G);refine wpAny_passesOwn hp (aK (hg _ s5 p H5 x u _ Wf r5 (step x H5 y5)) λ_ s6 Wg=>?_);obtain⟨RH,H6,I6,q6⟩:=Wg;refine wpAny_passesOwn hp (aK (hb _ s6 RH H6 _ I6 q6) λf L j=>?_);have again:∀{a:St}{H7:Hp},af X (b_++jy fp s5.heap) a H7 L->N a H7->∃m,m<n/\∃i l H',af X b_ l H' L/\tn i L.heap/\(∀b∈fp,H' b=none)/\W i m l H':=λ{a H7} c z=>by
   obtain⟨m',hm,w7⟩:=hN a H7 z;refine⟨m',hm,i+1,a,H7,c.unpinned,T.keep _ _ _ G λb hb o e=>(c.pin (b,o) (YH _ (YH _ (km hb e)))).1,λb hb=>?_,w7⟩;obtain⟨o,e,d⟩:=T.obj _ _ G b hb;exact(c.pin (b,o) (YH _ (YH _ (km hb e)))).2.1
  cases f with
  |next=>obtain⟨a,H7,c,z⟩:=j;exact again c z
  |cont=>obtain⟨a,H7,c,z⟩:=j;exact again c z
  |brk=>obtain⟨a,H7,c,j⟩:=j;exact⟨a,H7,c.unpinned,j⟩
  |ret v=>obtain⟨x7,a,H7,c,r7,j⟩:=j;exact⟨x7,a,H7,c.unpinned,r7,j⟩
end
abbrev R2:=V->V->Hp->VK->Prop
def di(X:Cx)(f:Zk)(r:R2):Prop:=
 ∀(b_:Zc) (s:Shared) (σ:St) (H:Hp) (x y:V) (v u:Value) (Q:VK),af X b_ σ H s->RelV x v->RelV y u->r x y H Q ->
  wpAny 'c' X.A (f v u) (EP X b_ σ Q) X.xe s
def ID(X:Cx)(f:Value->Sem Value)(r:V->Hp->VK->Prop):Prop:=
 ∀(b_:Zc) (s:Shared) (σ:St) (H:Hp) (x:V) (v:Value) (Q:VK),af X b_ σ H s->RelV x v->r x H Q ->
  wpAny 'c' X.A (f v) (EP X b_ σ Q) X.xe s
def gv(X:Cx)(f:Value)(r:List V->Hp->VK->Prop):Prop:=
 ∀(b_:Zc) (s:Shared) (σ:St) (H:Hp) (xs:List V) (us:Zd) (Q:VK),af X b_ σ H s->aq xs us->r xs H Q ->
  wpAny 'c' X.A (call f us) (EP X b_ σ Q) X.xe s
def O0(X:Cx)(r:V->Hp->(Bool->Hp->Prop)->Prop):Prop:=
 ∀(b_:Zc) (s:Shared) (σ:St) (H:Hp) (x:V) (v:Value) (Q:Bool->Hp->Prop),af X b_ σ H s->RelV x v->r x H Q ->
  wpAny 'c' X.A (truthy v) (TP X b_ σ Q) X.xe s
def IE(r:R2)(ta tb:TE):TE:=λσ H Q=>ta σ H λx a=>tb σ a λy c=>r x y c Q
def Pv(r:V->Hp->VK->Prop)(ta:TE):TE:=λσ H Q=>ta σ H λx a=>r x a Q
def rI(C:Int->Int->Prop)(g:Int->Int->V):R2:=λx y H Q=>∃i j,x=.int i/\y=.int j/\C i j/\Q (g i j) H
def ng(g:Int->Int->V):R2:=λx y H Q=>∃i j,x=.int i/\y=.int j/\Q (g i j) H
def rU(g:Int->V):V->Hp->VK->Prop:=λx H Q=>∃i,x=.int i/\Q (g i) H
section
variable {X:Cx}{a b c:Expr}{ta tb tc:TE}{pos:Pos}
def FW(ha:PE X a ta)(hb:PE X b tb){R:V->V->Hp->Prop}(I:af X b_ σ H s)
  (h:ta σ H λx k=>tb σ k λy j=>R x y j)
  (hf:∀v u s2 x y j,af X b_ σ j s2->RelV x v->RelV y u->R x y j->wpAny 'c' X.A (f v u) Q X.xe s2):
  wpAny 'c' X.A (eval a X.env) (λv l=>wpAny 'c' X.A (eval b X.env) (λu n=>wpAny 'c' X.A (f v u) Q X.xe n) X.xe l) X.xe s:=by
 refine aK (ha b_ s σ H _ I h) λv s1 p=>?_
 obtain⟨x,k,z,B,E⟩:=p;refine aK (hb b_ s1 σ k _ z E) λu s2 G=>?_
 obtain⟨y,j,J,L,O⟩:=G;exact hf v u s2 x y j J B L O
def N4{op:Operator}(j:di X (binaryOp op) r)(ha:PE X a ta)(hb:PE X b tb):PE X (.BinOp a op b pos) (IE r ta tb):=by
 intro b_ s σ H Q I h;exact wpAny_BinOp (FW ha hb I h λv u s2 x y k l n p q=>j b_ s2 σ k x y v u Q l n p q)
def IF{op:UnaryOp}{r:V->Hp->VK->Prop}(j:ID X (unaryOp op) r)(ha:PE X a ta):PE X (.UnaryOp op a pos) (Pv r ta):=by
 intro b_ s σ H Q I h;refine UnaryOp_ (aK (ha b_ s σ H _ I h) λv s1 k=>?_);obtain⟨x,l,n,p,z⟩:=k;exact j b_ s1 σ l x v Q n p z
def AC{C:Int->Int->Prop}{g:Int->Int->Int}
  (rule:∀(i j:Int) (t u:Tok) (s:Shared) (Q:Zb) (E:Zb),C i j->Q (.int (g i j) s.toks) { s with toks:=s.toks+1 }->wpAny 'c' X.A (f (.int i t) (.int j u)) Q E s):
  di X f (rI C λi j=>.int (g i j)):=by
 intro b_ s σ H x y v u Q I k l h;obtain⟨i,j,rfl,rfl,hc,q⟩:=h;obtain⟨t,rfl⟩:=k;obtain⟨t',rfl⟩:=l;exact rule i j t t' s _ _ hc ⟨.int (g i j),H,I.tok _,⟨_,rfl⟩,q⟩
def xM{g:Int->Int->Int}
  (rule:∀(i j:Int) (t u:Tok) (s:Shared) (Q:Zb) (E:Zb),Q (.int (g i j) s.toks) { s with toks:=s.toks+1 }->wpAny 'c' X.A (f (.int i t) (.int j u)) Q E s):
  di X f (ng λi j=>.int (g i j)):=by
 intro b_ s σ H x y v u Q I k l h;obtain⟨i,j,rfl,rfl,q⟩:=h;obtain⟨t,rfl⟩:=k;obtain⟨t',rfl⟩:=l;exact rule i j t t' s _ _ ⟨.int (g i j),H,I.tok _,⟨_,rfl⟩,q⟩
def BY{g:Int->Int->Bool}
  (rule:∀(i j:Int) (t u:Tok) (s:Shared) (Q:Zb) (E:Zb),Q (.bool (g i j)) s->wpAny 'c' X.A (f (.int i t) (.int j u)) Q E s):
  di X f (ng λi j=>.bl (g i j)):=by
 intro b_ s σ H x y v u Q I k l h;obtain⟨i,j,rfl,rfl,q⟩:=h;obtain⟨t,rfl⟩:=k;obtain⟨t',rfl⟩:=l;exact rule i j t t' s _ _ ⟨.bl (g i j),H,I,rfl,q⟩
def LS(i j:Int):Prop:=0<j/\j<1073741824
def BZ(i j:Int):Prop:=0<=j/\j<=1000000/\i.natAbs<2 ^ 64
def B0(i j:Int):Prop:=(-(2 ^ 64)<i/\i<2 ^ 64)\/(-(2 ^ 64)<j/\j<2 ^ 64)
theorem B0.ok(h:B0 lo hi):IntMulOk lo hi:=by
 rcases h with⟨h1,j⟩ | ⟨h1,j⟩
 .exact .of_left (intBits_le_64 h1 j)
 .exact .of_right (intBits_le_64 h1 j)
def B8(k:Nat):(0:Int)<=2 ^ k:=by
 rw[two_pow_cast];exact Int.natCast_nonneg _
def LT:di X (binaryOp .Add) (ng λi j=>.int (i+j)):=xM λ_ _ _ _ _ _ _ q=>add_int q
def LU:di X (binaryOp .Sub) (ng λi j=>.int (i-j)):=xM λ_ _ _ _ _ _ _ q=>sub_int q
def LV:di X (binaryOp .Mult) (rI B0 λi j=>.int (i*j)):=AC λ_ _ _ _ _ _ _ hc q=>mul_int q hc.ok
theorem Jx:di X (binaryOp .FloorDiv) (rI LS λi j=>.int (i / j)):=AC λi j _ _ _ _ _ hc q=>by
 have h1:(0:Int)<j:=hc.1;have k:j<1073741824:=hc.2;exact floordiv_int 'a' (by rw[Int.fdiv_eq_ediv_of_nonneg i 'a'];exact q) (.inl (PyProof.noPylong_small 'a'))
theorem LW:di X (binaryOp .Mod) (rI (λ_ j=>0<j) λi j=>.int (i%j)):=AC λi j _ _ _ _ _ hc q=>by
 have h1:(0:Int)<j:=hc;exact mod_int' 'a' (by rw[Int.fmod_eq_emod_of_nonneg i 'a'];exact q)
def LX:di X (binaryOp .Pow) (rI BZ λi j=>.int (i ^ j.toNat)):=AC λ_ _ _ _ _ _ _ hc q=>pow_int_small hc.1 hc.2.1 hc.2.2 q
def LY:di X (binaryOp .LShift) (rI BZ λi j=>.int (i*2 ^ j.toNat)):=AC λ_ _ _ _ _ _ _ hc q=>lshift_int_small hc.1 hc.2.1 hc.2.2 q
def LZ:di X (binaryOp .RShift) (rI (λ_ j=>0<=j) λi j=>.int (i / 2 ^ j.toNat)):=AC λi j _ _ _ _ _ hc q=>
 rshift_int hc (by rw[Int.fdiv_eq_ediv_of_nonneg i (B8 _)];exact q)
def L0:di X (binaryOp .BitAnd) (ng λi j=>.int (Builtin.bitAnd i j)):=xM λ_ _ _ _ _ _ _ q=>and_int q
def N5:di X (binaryOp .BitOr) (ng λi j=>.int (Builtin.bitOr i j)):=xM λ_ _ _ _ _ _ _ q=>or_int q
def L3:di X (binaryOp .BitXor) (ng λi j=>.int (Builtin.bitXor i j)):=xM λ_ _ _ _ _ _ _ q=>xor_int q
def Oy{f:Value->Sem Value}{g:Int->Int}
  (rule:∀(i:Int) (t:Tok) (s:Shared) (Q:Zb) (E:Zb),Q (.int (g i) s.toks) { s with toks:=s.toks+1 }->wpAny 'c' X.A (f (.int i t)) Q E s):
  ID X f (rU λi=>.int (g i)):=by
 intro b_ s σ H x v Q I j h;obtain⟨i,rfl,q⟩:=h;obtain⟨t,rfl⟩:=j;exact rule i t s _ _ ⟨.int (g i),H,I.tok _,⟨_,rfl⟩,q⟩
def L4:ID X (unaryOp .USub) (rU λi=>.int (-i)):=Oy λ_ _ _ _ _ q=>neg_int q
def L5:ID X (unaryOp .Invert) (rU λi=>.int (Builtin.bitNot i)):=Oy λ_ _ _ _ _ q=>invert_int q
end
section
variable {X:Cx}{a b c:Expr}{ta tb tc:TE}{pos:Pos}
def DU{Q:VK}{k:Bool}(I:af X b_ σ H s)(q:Q (.bl k) H)(e:k=k'):EP X b_ σ Q (.bool k') s:=by
 subst e;exact⟨.bl k,H,I,rfl,q⟩
def N6:di X (compareOp .Lt) (ng λi j=>.bl (decide (i<j))):=BY λ_ _ _ _ _ _ _ q=>lt_int q
def N7:di X (compareOp .LtE) (ng λi j=>.bl (decide (i<=j))):=BY λ_ _ _ _ _ _ _ q=>le_int q
def N8:di X (compareOp .Gt) (ng λi j=>.bl (decide (j<i))):=BY λ_ _ _ _ _ _ _ q=>gt_int q
def N9:di X (compareOp .GtE) (ng λi j=>.bl (decide (j<=i))):=BY λ_ _ _ _ _ _ _ q=>ge_int q
def L6:di X (compareOp .Is) (λx y H Q=>y=.non/\Q (.bl (decide (x=.non))) H):=by
 intro b_ s σ H x y v u Q I j k h;obtain⟨rfl,q⟩:=h;cases k;refine is_none_gen (DU I q ?_);cases x<;>first
  |(cases j;rfl)
  |(obtain⟨t,rfl⟩:=j;rfl)
def Jy:di X (compareOp .IsNot) (λx y H Q=>y=.non/\Q (.bl (!decide (x=.non))) H):=by
 intro b_ s σ H x y v u Q I j k h;obtain⟨rfl,q⟩:=h;cases k;refine isnot_none_gen (DU I q ?_);cases x<;>first
  |(cases j;rfl)
  |(obtain⟨t,rfl⟩:=j;rfl)
def Jz{op:CmpOp}(j:di X (compareOp op) r)(ha:PE X a ta)(hb:PE X b tb)(hm:behindInMarks op b=false):PE X (.Compare a [op] [b] pos) (IE r ta tb):=by
 intro b_ s σ H Q I h;exact wpAny_Compare1 (FW ha hb I h λv u s2 x y k l n p q=>j b_ s2 σ k x y v u Q l n p q) hm
def Oa(t:TE):TT:=λσ H Q=>t σ H λx H'=>∃k,x=.bl k/\Q k H'
def JA{op:CmpOp}(j:di X (compareOp op) r)(ha:PE X a ta)(hb:PE X b tb)(hm:behindInMarks op b=false):PT X (.Compare a [op] [b] pos) (Oa (IE r ta tb)):=by
 intro b_ s σ H Q I h;refine wpAny_isTrue_Compare1 (aK (ha b_ s σ H _ I h) λv s1 ⟨x,l,n,p,B⟩=>aK (hb b_ s1 σ l _ n B) λu s2 ⟨y,E,G,J,L⟩=>
  aK (j b_ s2 σ E x y v u _ G p J L) λc U ⟨z,O,R,S,k,e,T⟩=>?_) hm
 subst e;cases S;exact wpAny_truthy_bool ⟨O,R,T⟩
def FX(K:Za)(x:V)(H:Hp)(k:Bool):Prop:=
 match x with
 |.non=>k=false
 |.bl b=>k=b
 |.int i=>k=(i != 0)
 |.str y=>y.length<=sizeLine/\k=((y.length:Int) != 0)
 |.byt y=>y.size<=sizeLine/\k=((y.size:Int) != 0)
 |.ref p=>(∃xs,bQ K H p xs/\k = !xs.isEmpty)\/(∃xs,bX K H p xs/\k = !xs.isEmpty) \/ ∃j,H p=some (.dK j)/\k = !j.isEmpty
 |_=>False
def B9{j:Type}{k:List (j×V)}{vs:List (j×Value)}(r:KV k vs):(!vs.isEmpty) = !k.isEmpty:=by
 cases r<;>rfl
def tz(r:aq xs d_):(!d_.toArray.isEmpty) = !xs.isEmpty:=by
 cases r<;>simp
def nh:(sizeLine:Nat)<2 ^ 63:=by rw[sizeLine_eq];decide
theorem L7:O0 X (λx H Q=>∃k,FX X.K x H k/\Q k H):=by
 intro b_ s σ H x v Q I j h;obtain⟨k,e,q⟩:=h;have hl:=nh;have hs:sizeLine=16777216:=sizeLine_eq;cases x with
 |non=>
  cases j;have e':k=false:=e;subst e';exact truthy_none ⟨H,I,q⟩
 |bl b=>
  cases j;have e':k=b:=e;subst e';exact wpAny_truthy_bool ⟨H,I,q⟩
 |int i=>
  obtain⟨t,rfl⟩:=j;have e':k=(i != 0):=e;subst e';exact PySem.P.truthy_int ⟨H,I,q⟩
 |str y=>
  obtain⟨t,rfl⟩:=j;obtain⟨hy,e'⟩:y.length<=sizeLine/\k=((y.length:Int) != 0):=e;subst e';exact PySem.P.truthy_str 'a' ⟨H,I.tok _,q⟩
 |byt y=>
  obtain⟨t,rfl⟩:=j;obtain⟨hy,e'⟩:y.size<=sizeLine/\k=((y.size:Int) != 0):=e;subst e';exact PySem.W.truthy_bytes 'a' ⟨H,I.tok _,q⟩
 |ref p=>
  cases j;have e':(∃xs,bQ X.K H p xs/\k = !xs.isEmpty)\/(∃xs,bX X.K H p xs/\k = !xs.isEmpty) \/ ∃l,H p=some (.dK l)/\k = !l.isEmpty:=e;rcases e' with⟨xs,hx,e'⟩ | ⟨xs,hx,e'⟩ | ⟨l,hx,e'⟩
  .subst e'
   obtain⟨d_,r,n,z⟩:=I.list hx;have B:=r.length;exact wpAny_truthy_list n.isList (by simp only[YI];omega) ⟨H,I.tok _,by rw[tz r];exact q⟩
  .subst e'
   obtain⟨d_,r,n,z⟩:=I.tuple hx;have B:=r.length;exact truthy_tuple n (by simp only[YI];omega) ⟨H,I.tok _,by rw[tz r];exact q⟩
  .subst e'
   obtain⟨z,hS,vs,r,m⟩:l.length<=sizeLine/\(p==sysModules)=false/\∃vs,KV l vs/\s.heap.DictOf (bY X.prog X.w) p vs:=I.hok p _ hx;have B:l.length=vs.length:=Paired.length r;exact wpAny_truthy_dict hS m 'a' ⟨H,I.tok _,by rw[B9 r];exact q⟩
 |_=>exact(show False from e).elim
def FY(ha:PE X a ta)(l:∀j,isTrue a X.env j=(do let v ←j;standAt a.pos;holding [v] (truthy v))):
  PT X a (λσ H Q=>ta σ H λx H'=>∃k,FX X.K x H' k/\Q k H'):=by
 intro b_ s σ H Q I h;refine isTrue_plain (aK (ha b_ s σ H _ I h) λv s1 n=>?_) (l _);obtain⟨x,p,z,B,E⟩:=n;exact L7 b_ s1 σ p x v Q z B E
def vals1(r:aq [y] us):∃u,us=[u]/\RelV y u:=by
 cases r with
 |cons j k=>cases k;exact⟨_,rfl,j⟩
def vals2(r:aq [v,y] us):∃u j,us=[u,j]/\RelV v u/\RelV y j:=by
 cases r with
 |cons k l=>
  cases l with
  |cons n p=>cases p;exact⟨_,_,rfl,k,n⟩
def DV(hc:X.calm=true):gv X (.builtin "min") (λxs H Q=>∃i j,xs=[.int i,.int j]/\Q (.int (if j<i then j else i)) H):=by
 intro b_ s σ H xs us Q I r h;obtain⟨i,j,rfl,q⟩:=h;obtain⟨u,n,rfl,⟨t,rfl⟩,⟨t',rfl⟩⟩:=vals2 r;refine min_two_ints (I.ok.hd hc) λh' tk k=>⟨_,H,I.kept k,?_,q⟩
 by_cases l:j<i
 .rw[if_pos l,if_pos l];exact⟨_,rfl⟩
 .rw[if_neg l,if_neg l];exact⟨_,rfl⟩
end
structure sC (h:Heap) (x dx C:Addr) (mA:Ze):Prop where
 obj:h.get? x=some (PySem.W.instObj C dx)
 ns:h.Ns1 dx mA
 ne:dx≠x
def DW{h:Heap}(n:h.Ns1 b mg):∃od,h.get? b=some od/\∀name,PySem.W.lookIn name od=some (mg name):=by
 obtain⟨o,es,k,c,hd,hk,_,hm⟩:=n;refine⟨o,c,λname=>?_⟩;have e:=hm name;unfold nsFind findBy at e;rw[←Array.find?_toList] at e;unfold PySem.W.lookIn;rw[hd];dsimp only;split
 .rename_i y q
  rw[q] at e;exact congrArg some e
 .rename_i q
  rw[q] at e;have a:es.toList.any (·.refKey)=false:=by
   rw[List.any_eq_false];intro y hy;obtain⟨z,t,j⟩:=hk y (Array.mem_toList_iff.mp hy);simp[DictEntry.refKey,j]
  have a':¬es.toList.any (·.refKey)=true:=by rw[a];exact YF
  rw[if_neg a'];exact congrArg some e
theorem sC.look{h:Heap}(I:sC h b it C mg):∃od,PySem.W.InstAt h b (PySem.W.instObj C it) C (some od)/\∀name,PySem.W.lookIn name od=some (mg name):=
 let⟨od,ho,hl⟩:=DW I.ns;⟨od,⟨I.obj,rfl,rfl,ho⟩,hl⟩
section
variable {prog:Zw}{w:World}{A:Around}{E:Zb}{s:Shared}{K:Za}{x dx C f:Addr}{mA:Ze}{name:Str}{v:Value}
def JB(X:K.In s.heap)(I:sC s.heap x dx C mA)(hg:PySem.W.plainGet K C name=true)(a:PySem.W.hasDictIn K C=true)
  (ha:PySem.W.findIn K (.ref C) name=some none) (hv:mA name=some v) (c:PySem.W.handedIn v=true) (h:Q v { s with toks:=s.toks+1 }):
  wpAny 'f' A (getAttr (.ref x) name expr) Q E s:=by
 obtain⟨od,J,hl⟩:=I.look;exact PySem.W.get_value X J (PySem.W.plainGet_of hg).1 (PySem.W.findObj_own a ha rfl (by rw[hl,hv])) c h
def FZ{a:Sem Bool}{Q:Value×List Value->Shared->Prop}(X:K.In s.heap)(I:sC s.heap x dx C mA)(hg:PySem.W.plainGet K C name=true)
  (hf:PySem.W.findIn K (.ref C) name=some (some (.ref f))) (ht:PySem.W.isFn K (.ref f)=true) (hv:mA name=none) (h:Q (.ref f,[.ref x]) s):
  wpAny 'f' A (getMethod (.ref x) name a) Q E s:=by
 obtain⟨od,J,hl⟩:=I.look;exact PySem.W.method_fn X J (PySem.W.plainGet_of hg).1 (PySem.W.plainGet_of hg).2 hf (beq_iff_eq.mp ht) (by show(PySem.W.lookIn name od).map (·.isSome)=some false;rw[hl,hv];rfl) h
theorem JC{Q:Zo}(X:K.In s.heap)(I:sC s.heap x dx C mA)
  (hs:PySem.W.findIn K (.ref C) "__setattr__" = some (some (.builtin "object.__setattr__"))) (hp:PySem.W.plainOver K C=true) (ht:PySem.W.takerIn K C name=some none) (p:PySem.W.hasDictIn K C=true)
  (hw:PySem.Within mA N) (hsz:N.length<=sizeLine)
  (h:∀h',sC h' x dx C (λy=>if y=name then some v else mA y)->Heap.SameBut dx s.heap h'->Q () { s with heap:=h',toks:=s.toks+2 }):
  wpAny 'f' A (setAttr (.ref x) name v) Q E s:=by
 obtain⟨od,J,hl⟩:=I.look;refine PySem.W.set_plain X J hs (PySem.W.osa_open (s:={ s with toks:=s.toks+1 }) (r:=none) X J hp ht λb=>?_);obtain⟨cd,hc,z⟩:=PySem.W.any_some p;have hx:s.heap.get? x=some ⟨.ref C,some dx,.plain,#[]⟩:=I.obj;refine Yb (Yc (Yb (Yb (wpAny_loadPart hx (Yb (PySem.W.Looks.here (s:={ s with toks:=s.toks+1 }) (PySem.W.looks_clsIn X hc) ?_))))));rw[z];refine Yc (a:=some dx) (Yb (Yc (Yb ?_)));refine wpAny_nsSet1 (s:={ s with toks:=s.toks+1 }) I.ns λh' l n=>?_
 obtain⟨L,B,G,c,j,k⟩:=l.count (PySem.Within.cons name v hw);refine Yb (wpAny_lookBehind c (by rw[j];exact pastItsLine_dict (ZX k (by rw[YJ];omega))) ?_);exact Yc (h _ ⟨(n.2 _ (Ne.symm I.ne)).trans I.obj,l,I.ne⟩ n)
def F1{R:Result->Shared->Prop}{a:List (Str×Value)}(X:K.In s.heap)(hm:PySem.W.makesIn K C=true)
  (hi:PySem.W.findIn K (.ref C) "__init__" = some (some (.ref f))) (hf:PySem.W.typeIn K (.ref f)=some (.type "function"))
  (h:codeAny 'f' (A.under (.builtin "type.__call__" ⟨.ref C::us,a⟩)) (.call (.ref f) ⟨.ref (s.heap.objs.size+1)::us,a⟩) (PySem.W.InitBack (s.heap.objs.size+1) R)
   { s with heap:=(s.heap.push PySem.W.emptyDict).push (PySem.W.instObj C s.heap.objs.size) }):
  codeAny 'f' A (.call (.ref C) ⟨us,a⟩) R s:=by
 obtain⟨c,g,d,t,os⟩:=s;exact PySem.W.make_core (PySem.W.makes_of X hm) (PySem.W.looks_findIn X hi) (λself=>PySem.W.bind_fn X self hf) (.inl rfl) h
end
def dN(f:Str)(v:V):List (Str×V)->List (Str×V)
 |[]=>[(f,v)]
 |(g,x)::r=>if g=f then(g,v)::r else(g,x)::dN f v r
theorem rQ(f g:Str)(v:V):∀fs:List (Str×V),(dN f v fs).lookup g=if g=f then some v else fs.lookup g
 |[]=>by
  show List.lookup g [(f,v)]=_;by_cases h:g=f
  .have hb:(g==f)=true:=beq_iff_eq.mpr h
   simp only[List.lookup,hb,if_pos h]
  .have hb:(g==f)=false:=ZR.mpr h
   simp only[List.lookup,hb,if_neg h]
 |(k,x)::r=>by
  have a:=rQ f g v r;rw[show dN f v ((k,x)::r)=(if k=f then(k,v)::r else(k,x)::dN f v r) from rfl];by_cases hk:k=f
  .rw[if_pos hk]
   by_cases h:g=k
   .have hb:(g==k)=true:=beq_iff_eq.mpr h
    simp only[List.lookup,hb,if_pos (h.trans hk)]
   .have hb:(g==k)=false:=ZR.mpr h
    simp only[List.lookup,hb,if_neg (λe:g=f=>h (e.trans hk.symm))]
  .rw[if_neg hk]
   by_cases h:g=k
   .have hb:(g==k)=true:=beq_iff_eq.mpr h
    simp only[List.lookup,hb,if_neg (λe:g=f=>hk (h.symm.trans e))]
   .have hb:(g==k)=false:=ZR.mpr h
    simp only[List.lookup,hb];exact a
theorem pO(f:Str)(v:V):∀fs:List (Str×V),f∈(dN f v fs).map (·.1)/\∀g,g∈fs.map (·.1)->g∈(dN f v fs).map (·.1)
 |[]=>⟨by simp[dN],λg h=>by simp at h⟩
 |(k,x)::r=>by
  obtain⟨a,c⟩:=pO f v r;rw[show dN f v ((k,x)::r)=(if k=f then(k,v)::r else(k,x)::dN f v r) from rfl];by_cases hk:k=f
  .rw[if_pos hk]
   subst hk;exact⟨by simp,λg h=>by simpa using h⟩
  .rw[if_neg hk]
   refine⟨?_,λg h=>?_⟩
   .rw[YL]
    exact YA _ a
   .rw[YL] at h ⊢
    rcases YB.mp h with e | e
    .exact YB.mpr (.inl e)
    .exact YA _ (c g e)
theorem rR(f:Str)(v:V):∀fs:List (Str×V),(dN f v fs).length<=fs.length+1
 |[]=>by simp[dN]
 |(k,x)::r=>by
  have a:=rR f v r;rw[show dN f v ((k,x)::r)=(if k=f then(k,v)::r else(k,x)::dN f v r) from rfl];by_cases hk:k=f
  .rw[if_pos hk,YJ,YJ];omega
  .rw[if_neg hk,YJ,YJ];omega
theorem fY.some_of{o:Zx}(r:fY (some v) o):∃u,o=some u/\RelV v u:=by
 cases o with
 |none=>exact(show False from r).elim
 |some u=>exact⟨u,rfl,r⟩
theorem fY.none_of{o:Zx}(r:fY none o):o=none:=by
 cases o with
 |none=>rfl
 |some u=>exact(show False from r).elim
def DX(r:RelV v u):PySem.W.handedIn u=true:=by
 cases v with
 |non=>cases(show u=Value.none from r);rfl
 |bl b=>cases(show u=Value.bool b from r);rfl
 |int i=>obtain⟨t,e⟩:=(show ∃t,u=Value.int i t from r);cases e;rfl
 |str x=>obtain⟨t,e⟩:=(show ∃t,u=Value.str x t from r);cases e;rfl
 |byt b=>obtain⟨t,e⟩:=(show ∃t,u=Value.bytes b t from r);cases e;rfl
 |flt b=>obtain⟨t,e⟩:=(show ∃t,u=Value.float b t from r);cases e;rfl
 |ref a=>cases(show u=Value.ref a from r);rfl
 |ty n=>cases(show u=Value.type n from r);rfl
section
variable {P:Zw}{w:World}{H H':Hp}{h h':Heap}{a C dx:Addr}{fs SI:List (Str×V)}
def qI(hok:c0 P w H h)(e:H a=some (.ins C dx fs)):∃mA,sC h a dx C mA/\(∀f,fY (fs.lookup f) (mA f))/\PySem.Within mA (fs.map (·.1))/\fs.length<=1000/\H dx=some (.own a):=by
 obtain⟨d,z,ne,ob,mA,n,r,q⟩:=(show bn P w H h a (.ins C dx fs) from hok a _ e);exact⟨mA,⟨ob,n,ne⟩,r,q,z,d⟩
end
structure fV (K:Za) (C:Addr):Prop where
 pg:PySem.W.plainGet K C Str.empty=true
 hd:PySem.W.hasDictIn K C=true
 po:PySem.W.plainOver K C=true
 sa:PySem.W.findIn K (.ref C) "__setattr__" = some (some (.builtin "object.__setattr__"))
theorem fV.get{K:Za}{C:Addr}(c:fV K C)(f:Str):PySem.W.plainGet K C f=true:=c.pg
def dc(K:Za)(C:Addr)(f:Str):Prop:=PySem.W.findIn K (.ref C) f=some none
theorem dc.taker(n:dc K C m):PySem.W.takerIn K C m=some none:=by
 unfold PySem.W.takerIn;rw[show PySem.W.findIn K (.ref C) m=some none from n];rfl
structure F2 (K:Za) (C:Addr) (m:Str) (f:Addr):Prop where
 at_:PySem.W.findIn K (.ref C) m=some (some (.ref f))
 fn:PySem.W.isFn K (.ref f)=true
 kp:PySem.W.keepIn K (.ref f)=true
section
variable {X:Cx}{b_:Zc}{σ:St}{H:Hp}{s:Shared}{a C dx:Addr}{fs:List (Str×V)}{f:Str}{v:V}{A:Around}{E:Zb}
def Ca(I:af X b_ σ H s)(e:H a=some (.ins C dx fs))(c:fV X.K C)(n:dc X.K C f)(l:fs.lookup f=some v)
  (h:∀u j,af X b_ σ H j->RelV v u->Q u j):wpAny 'c' A (getAttr (.ref a) f k') Q E s:=by
 obtain⟨mA,O,r,_,_,_⟩:=qI I.hok e;obtain⟨u,hu,k⟩:=fY.some_of (v:=v) (o:=mA f) (by rw[←l];exact r f);exact JB I.kIn O (c.get f) c.hd n hu (DX k) (h u _ (I.tok _) k)
def tB{j:Sem Bool}{Q:Value×List Value->Shared->Prop}(I:af X b_ σ H s)(e:H a=some (.ins C dx fs))(c:fV X.K C)(k:F2 X.K C m b)(l:fs.lookup m=none)
  (h:Q (.ref b,[.ref a]) s):wpAny 'c' A (getMethod (.ref a) m j) Q E s:=by
 obtain⟨mA,O,r,_,_,_⟩:=qI I.hok e;have hn:mA m=none:=fY.none_of (by rw[←l];exact r m);exact FZ I.kIn O (c.get m) k.at_ k.fn hn h
theorem Cb{Q:Zo}(I:af X b_ σ H s)(e:H a=some (.ins C dx fs))(c:fV X.K C)(n:dc X.K C f)(hl:fs.length<1000)(B:RelV y u)
  (h:∀k,af X b_ σ (upd H a (.ins C dx (dN f y fs))) k->Q () k):wpAny 'c' A (setAttr (.ref a) f u) Q E s:=by
 obtain⟨mA,O,r,l,_,p⟩:=qI I.hok e;have G:(fs.map (·.1)).length<=sizeLine:=by rw[ZF,sizeLine_eq];omega
 refine JC I.kIn O c.sa c.po n.taker c.hd l G λh' j J=>h _ ?_
 have hd:∃o,h'.get? dx=some o:=let⟨o,_,_,e',_⟩:=j.ns;⟨o,e'⟩;refine I.write (x:=a) (e:=dx) (by rw[e];exact True.intro) (.inr p) (λb q hb z=>(J.2 b hb).trans z) hd ?_;refine⟨by rw[aT O.ne];exact p,?_,O.ne,j.obj,_,j.ns,λg=>?_,λg hg=>?_⟩
 .have:=rR f y fs;omega
 .show fY ((dN f y fs).lookup g) (if g=f then some u else mA g)
  rw[rQ];by_cases q:g=f
  .rw[if_pos q,if_pos q];exact B
  .rw[if_neg q,if_neg q];exact r g
 .by_cases q:g=f
  .rw[q];exact(pO f y fs).1
  .refine(pO f y fs).2 g (l g λz=>hg ?_)
   show(if g=f then some u else mA g)=none;rw[if_neg q];exact z
theorem af.made(I:af X b_ σ H s):af X b_ σ (upd (upd H s.heap.objs.size (.own (s.heap.objs.size+1))) (s.heap.objs.size+1) (.ins C s.heap.objs.size []))
  { s with heap:=(s.heap.push PySem.W.emptyDict).push (PySem.W.instObj C s.heap.objs.size) }:=by
 have e1:(s.heap.push PySem.W.emptyDict).get? s.heap.objs.size=some PySem.W.emptyDict:=Yg s.heap rfl;have c:((s.heap.push PySem.W.emptyDict).push (PySem.W.instObj C s.heap.objs.size)).get? (s.heap.objs.size+1)=some (PySem.W.instObj C s.heap.objs.size):=by
  have:=Yg (s.heap.push PySem.W.emptyDict) (o:=PySem.W.instObj C s.heap.objs.size) rfl
  rwa [Heap.size_push] at this
 have e3:(s.heap.push PySem.W.emptyDict).Ns s.heap.objs.size (λ_=>none):=⟨PySem.W.emptyDict,#[],_,e1,rfl,(λe j=>absurd j (by simp)),λ_=>rfl⟩;have k:=I.laid (a:=s.heap.objs.size) (o:=.own (s.heap.objs.size+1)) (h':=s.heap.push PySem.W.emptyDict) (t':=s.toks) (λb u q=>Yd _ q) (YG _) ⟨_,e1⟩;refine k.laid (a:=s.heap.objs.size+1) (o:=.ins C s.heap.objs.size []) (t':=s.toks) (λb u q=>Yd _ q) (Nat.le_of_eq (Heap.size_push _ _)) ?_;have ne:s.heap.objs.size≠s.heap.objs.size+1:=ZU (YM _);refine⟨by rw[aT ne,aI],YN _,ne,c,λ_=>none,(Heap.Ns1.of_empty e3).at λo q=>Yd _ q,λ_=>True.intro,λy hy=>absurd rfl hy⟩
def JD{env:Env}{e:Expr}(hb:attributeBase e f env (eval e env)=eval e env)
  (h:wpAny (model P w) A (eval e env) (λo c=>wpAny (model P w) A (getAttr o f true) Q E c) E s):wpAny (model P w) A (eval (.Attribute e f pos) env) Q E s:=
 Attribute_any_ h (by rw[arm_eval_Attribute,hb])
end
def O1(K:Za)(ta:TE)(f:Str):TE:=λσ H Q=>ta σ H λx c=>∃a C dx fs v,x=.ref a/\c a=some (.ins C dx fs)/\fV K C/\dc K C f/\fs.lookup f=some v/\Q v c
def O2(K:Za)(ta j:TE)(f:Str):TS:=λD σ H=>j σ H λy k=>ta σ k λx c=>∃a C dx fs,x=.ref a/\c a=some (.ins C dx fs)/\fV K C/\dc K C f/\fs.length<1000 /\
 D.nx σ (upd c a (.ins C dx (dN f y fs)))
section
variable {X:Cx}{o e value:Expr}{f:Str}{pos pos' tpos:Pos}{ta tv:TE}
def L8(j:PE X e ta)(hb:attributeBase e f X.env (eval e X.env)=eval e X.env):PE X (.Attribute e f pos) (O1 X.K ta f):=by
 intro b_ s σ H Q I h;refine JD hb (aK (j b_ s σ H _ I h) λu s1 k=>?_);obtain⟨x,p,z,B,a,C,dx,fs,v,ex,E,c,n,l,q⟩:=k;subst ex;obtain rfl:u=Value.ref a:=B;exact Ca z E c n l λu' s2 G J=>⟨v,p,G,J,q⟩
def L9(ha:PE X o ta)(hv:PE X value tv)(hs:swapsWith value (some (.Attribute o f pos')) pos.line X.env=pure false):PS X (.Assign [.Attribute o f pos'] value pos) (O2 X.K ta tv f):=by
 intro b_ s σ H D I h;refine plainObj_wpAny_Assign_Attribute (aK (hv b_ s σ H _ I h) λu s1 j=>?_) hs;obtain⟨y,k,p,z,q⟩:=j;refine aK (ha b_ s1 σ k _ p q) λB s2 E=>?_
 obtain⟨x,S,G,J,a,C,dx,fs,ex,L,c,n,l,O⟩:=E;subst ex;obtain rfl:B=Value.ref a:=J;exact Cb G L c n l z λT R=>⟨σ,_,R,O⟩
end
section
variable {X:Cx}{b_:Zc}{σ:St}{H:Hp}{s:Shared}{A:Around}{E:Zb}{Q:Zb}{c:Value}{b:Bool}
inductive jN (K:Za) (H:Hp):V->Value->Prop where
 |non:jN K H .non (.type "NoneType")
 |bl (x:Bool):jN K H (.bl x) (.type "bool")
 |int (i:Int):jN K H (.int i) (.type "int")
 |str (x:Str):jN K H (.str x) (.type "str")
 |flt (x:UInt64):jN K H (.flt x) (.type "float")
 |lst {a:Addr}{xs:List V}(e:H a=some (.lst xs)):jN K H (.ref a) (.type "list")
 |frz {a:Addr}{o:Obj}{xs:List V}(e:H a=some (.frz o (.lst xs))):jN K H (.ref a) (.type "list")
 |tup {a:Addr}{xs:List V}(e:H a=some (.tup xs)):jN K H (.ref a) (.type "tuple")
 |dK {a:Addr}{f_:List (Key×V)}(e:H a=some (.dK f_)):jN K H (.ref a) (.type "dict")
 |dT {a:Addr}{f_:List (List Key×V)}(e:H a=some (.dT f_)):jN K H (.ref a) (.type "dict")
 |ins {a C dx:Addr}{fs:List (Str×V)}(e:H a=some (.ins C dx fs)) (cl:fV K C) (ha:PySem.W.findIn K (.ref C) "__class__" = some (some (.builtin "object.__class__")))
   (hn:PySem.W.specialIn K (.builtin "object.__class__") "__get__" = some (some (.builtin "getset_descriptor.__get__"))) (htk:PySem.W.takesIn K (.builtin "object.__class__")=some true)
   (hm:PySem.W.mroIn K C (.type "object")=some true):jN K H (.ref a) (.ref C)
def gS{t:Value}(I:af X b_ σ H s)(j:RelV y u)(ty:jN X.K H y t)(e:PySem.W.kitOne X.K t c=some b)(h:∀tk,Q (.bool b) { s with toks:=tk }):
  wpAny 'c' A (call (.builtin "isinstance") [u,c]) Q E s:=by
 cases ty with
 |non=>cases(show u=Value.none from j);exact PySem.W.kia_one PySem.W.kitx_none I.kIn True.intro e (λz=>nomatch z) h
 |bl x=>cases(show u=Value.bool x from j);exact PySem.W.kia_one PySem.W.kitx_bool I.kIn True.intro e (λz=>nomatch z) h
 |int i=>obtain⟨t,q⟩:=(show ∃t,u=Value.int i t from j);cases q;exact PySem.W.kia_one PySem.W.kitx_int I.kIn True.intro e (λz=>nomatch z) h
 |str x=>obtain⟨t,q⟩:=(show ∃t,u=Value.str x t from j);cases q;exact PySem.W.kia_one PySem.W.kitx_str I.kIn True.intro e (λz=>nomatch z) h
 |flt x=>obtain⟨t,q⟩:=(show ∃t,u=Value.float x t from j);cases q;exact PySem.W.kia_one PySem.W.kitx_float I.kIn True.intro e (λz=>nomatch z) h
 |@lst a xs k=>
  cases(show u=Value.ref a from j);obtain⟨_,_,n,_,h1⟩:=(show bn X.prog X.w H s.heap a (.lst xs) from I.hok a _ k);exact PySem.W.kia_one PySem.W.kitx_list I.kIn ⟨_,h1,rfl⟩ e (λz=>nomatch z) h
 |@frz a ob xs k=>
  cases(show u=Value.ref a from j);obtain⟨_,_,_,n,_,h1⟩:=(show bn X.prog X.w H s.heap a (.frz ob (.lst xs)) from I.hok a _ k);exact PySem.W.kia_one PySem.W.kitx_list I.kIn ⟨_,h1,rfl⟩ e (λz=>nomatch z) h
 |@tup a xs k=>
  cases(show u=Value.ref a from j);obtain⟨_,_,_,p⟩:=(show bn X.prog X.w H s.heap a (.tup xs) from I.hok a _ k);obtain⟨o,h1,l,_⟩:=p;exact PySem.W.kia_one PySem.W.kitx_tuple I.kIn ⟨o,h1,l⟩ e (λz=>nomatch z) h
 |@dK a B k=>
  cases(show u=Value.ref a from j);obtain⟨_,_,vs,_,p⟩:=(show bn X.prog X.w H s.heap a (.dK B) from I.hok a _ k);obtain⟨o,es,L,h1,l,_⟩:=p;exact PySem.W.kia_one PySem.W.kitx_dict I.kIn ⟨o,h1,l.1⟩ e (λz=>nomatch z) h
 |@dT a B k=>
  cases(show u=Value.ref a from j);obtain⟨_,_,xs,_,o,es,L,h1,l,_⟩:=(show bn X.prog X.w H s.heap a (.dT B) from I.hok a _ k);exact PySem.W.kia_one PySem.W.kitx_dict I.kIn ⟨o,h1,l.1⟩ e (λz=>nomatch z) h
 |@ins a C dx fs k cl ha hn G hm=>
  cases(show u=Value.ref a from j);obtain⟨mA,O,_⟩:=qI I.hok k;obtain⟨od,J,_⟩:=O.look;exact PySem.W.kia_one (PySem.W.kitx_own (cl.get _) cl.hd ha hn G hm) I.kIn J e (λz=>nomatch z) h
end
structure ck (k:Nat) (A:Around):Prop where
 hd:A.handled=none
 dp:A.depth+3*k+5<recursionLimit
 un:A.units+16*k+200<cLine
theorem ck.mono(r:ck t' A)(h:i<=t'):ck i A:=⟨r.hd,by have:=r.dp;omega,by have:=r.un;omega⟩
theorem ck.deeper{k:Nat}{A:Around}(r:ck (k+1) A)(env:Env):ck k (A.deeper env):=
 ⟨r.hd,by have:=r.dp;show A.depth+1+3*k+5<_;omega,by have:=r.un;show A.units+3+16*k+200<_;omega⟩
def Cc{a:List (Str×Value)}:(A.under (.builtin "type.__call__" ⟨.ref C::us,a⟩)).depth=A.depth+1:=by
 first | rfl | simp[Around.under,Code.weight,Code.isCreation,Code.isGuard,Code.isCaller,Code.frames,Code.isFrame,guardIds]
def Cd{a:List (Str×Value)}:(A.under (.builtin "type.__call__" ⟨.ref C::us,a⟩)).units=A.units+1:=by
 first | rfl | simp[Around.under,Code.cUnits,Code.frames,Code.isFrame]
theorem ck.make(r:ck (i+1) A)(C:Addr)(us:Zd)(a:List (Str×Value)):ck i (A.under (.builtin "type.__call__" ⟨.ref C::us,a⟩)):=
 ⟨r.hd,by have:=r.dp;rw[Cc];omega,by have:=r.un;rw[Cd];omega⟩
theorem ck.depth{k:Nat}{A:Around}(r:ck k A):A.depth<recursionLimit:=by have:=r.dp;omega
theorem ck.units{k:Nat}{A:Around}(r:ck k A):A.units+64<cLine:=by have:=r.un;omega
def O3:TA:=λ_ H Q=>Q [] H
def Ob(ta:TE)(a:TA):TA:=λσ H Q=>ta σ H λx c=>a σ c λxs j=>Q (x::xs) j
section
variable {X:Cx}{e:Expr}{es:Zg}{te:TE}{t:TA}{pos:Pos}
def Ma:PA X [] O3:=λ_ _ _ _ H Q I h=>Calls.spliced_nil ⟨[],H,I,.nil,h⟩
def JE(ha:PE X e te)(hr:PA X es t)(hs:starEach (e::es) X.env=(false,eval e X.env)::starEach es X.env:=by rfl):PA X (e::es) (Ob te t):=by
 intro pos b_ s σ H Q I h;rw[hs];show wpAny _ _ (spliced ((false,eval e X.env)::backTo pos (starEach es X.env))) _ _ s;refine Calls.spliced_cons (aK (ha b_ s σ H _ I h) λu s1 a=>?_);obtain⟨x,c,j,k,l⟩:=a;refine aK (hr pos b_ s1 σ c _ j l) λus s2 n=>?_
 obtain⟨xs,p,z,B,E⟩:=n;exact⟨x::xs,p,z,.cons k B,E⟩
def O4(t:TA):TE:=λσ H Q=>t σ H λxs a=>xs.length<=sizeLine/\∀p,a p=none->Q (.ref p) (upd a p (.tup xs))
def O5(t:TA):TE:=λσ H Q=>t σ H λxs a=>xs.length<=sizeLine/\∀p,a p=none->Q (.ref p) (upd a p (.lst xs))
def Mb{x1}(h:PA X es t):PE X (.Tuple es x1 pos) (O4 t):=by
 intro b_ s σ H Q I hq;refine wpAny_Tuple_spliced (aK (h pos b_ s σ H _ I hq) λus s1 ⟨xs,a,c,r,z,q⟩=>⟨by rw[←r.length];exact z,?_⟩);have hf:a s1.heap.objs.size=none:=c.hok.fresh (YG _);refine⟨.ref s1.heap.objs.size,upd a s1.heap.objs.size (.tup xs),c.laid (t':=s1.toks) (λb u e=>Yd _ e) (YG _) ?_,rfl,q _ hf⟩;exact⟨z,us,r,⟨_,Yg _ rfl,rfl,_,rfl⟩⟩
def Mc(h:PA X es t):PE X (.List es pos) (O5 t):=by
 intro b_ s σ H Q I hq;refine wpAny_List_spliced (aK (h pos b_ s σ H _ I hq) λus s1 ⟨xs,a,c,r,z,q⟩=>⟨by rw[←r.length];exact z,?_⟩);have hf:a s1.heap.objs.size=none:=c.hok.fresh (YG _);refine⟨.ref s1.heap.objs.size,upd a s1.heap.objs.size (.lst xs),c.laid (t':=s1.toks) (λb u e=>Yd _ e) (YG _) ?_,rfl,q _ hf⟩;exact⟨z,us,0,r,Yg _ rfl⟩
end
abbrev Sp:=List V->Hp->VK->XK->Prop
abbrev rS:=List Env->Hp->Shared->XK->Value->Shared->Prop
structure dB (P:Zw) (w:World) (K:Za) (mg:Ze) (base:Heap) (A:Around) (outer:List Env) (s:Shared) (H:Hp):Prop where
 frames:A.frames=some outer
 mod:Mod K mg base
 bs:∀b o,base.get? b=some o->s.heap.get? b=some o/\H b=none
 bsz:base.objs.size<=s.heap.objs.size
 funs:s.heap.FunFrames base outer
 frf:∀b∈nc outer,H b=none
 hok:c0 P w H s.heap
 bare:AllBare s.gens
def CE(outer:List Env)(P:Zw)(w:World)(H:Hp)(s:Shared)(Q:VK)(u:Value)(a:Shared):Prop:=
 ∃v H',a.os=s.os/\AllBare a.gens/\Un (nc outer) [] H H' s.heap a.heap/\c0 P w H' a.heap/\RelV v u/\Q v H'
def CR(CX:rS)(outer:List Env)(P:Zw)(w:World)(H:Hp)(s:Shared)(Q:VK)(E:XK)(r:Result)(a:Shared):Prop:=
 match r with
 |.ok (.ret u)=>CE outer P w H s Q u a
 |.ok _=>False
 |.error e=>CX outer H s E e a
structure fm (P:Zw) (w:World) (K:Za) (mg:Ze) (base:Heap) (CX:rS) (k:Nat) (f:Addr) (fd:Zv) (ps:Zf) (sp:Sp):Prop where
 len:∀vs H Q E,sp vs H Q E->vs.length=ps.length
 run:∀(A:Around) (outer:List Env) (s:Shared) (H:Hp) (args:Args) (us:Zd) (vs:List V) (Q:VK) (E:XK),ck k A->dB P w K mg base A outer s H->BindsTo s fd args (ps.zip us)->aq vs us->sp vs H Q E ->
  codeAny (model P w) A (.call (.ref f) args) (CR CX outer P w H s Q E) s
theorem dB.make{outer:List Env}(e:dB P w K mg base A outer s H)(C:Addr)(us:Zd)(a:List (Str×Value)):
  dB P w K mg base (A.under (.builtin "type.__call__" ⟨.ref C::us,a⟩)) outer s H:=⟨by first | exact e.frames | (simpa [Around.under,Code.envs,Code.isFrame,pushEnvs] using e.frames),e.mod,e.bs,e.bsz,e.funs,e.frf,e.hok,e.bare⟩
section
variable {X:Cx}{b_:Zc}{σ:St}{H:Hp}{s s':Shared}
theorem af.env0(I:af X b_ σ H s):dB X.prog X.w X.K X.mg X.base X.A X.stack s H:=
 ⟨I.ok.frames,I.ok.mod,I.bs,ZX I.ok.bsz I.sz,I.stack,I.stkFree,I.hok,I.bare⟩
theorem af.after{Q:VK}(I:af X b_ σ H s)(h:CE X.stack X.prog X.w H s Q u s'):EP X b_ σ Q u s':=by
 obtain⟨v,H',os,bare,un,hok,r,q⟩:=h;obtain⟨a,g,d,t,c⟩:=s';obtain rfl:c=s.os:=os;exact⟨v,H',I.call (h':=a) (g':=g) (d':=d) (t':=t) (ch:=[]) un hok bare (λb z=>absurd z (by simp)),r,q⟩
end
def IG(sp:Sp)(a:List V)(E:XK)(t:TA):TE:=λσ H Q=>t σ H λvs c=>sp (vs++a) c Q E
def Oc(C:Addr)(sp:Sp)(c:List V)(E:XK)(t:TA):TE:=λσ H Q=>t σ H λvs a=>∀x dx,a x=none->a dx=none->dx≠x ->
 sp (.ref x::(vs++c)) (upd (upd a dx (.own x)) x (.ins C dx [])) (λv j=>v=.non/\Q (.ref x) j) E
def Binds(K:Za)(fd:Zv)(ps:Zf)(ds:Zd):Prop:=
 ∀(s:Shared) (us:Zd),K.In s.heap->(us++ds).length=ps.length->BindsTo s fd ⟨us,[]⟩ (ps.zip (us++ds))
theorem Binds.all{fd:Zv}(h:∀us:List Value,us.length=ps.length->bindArgs fd ⟨us,[]⟩=pure (ps.zip us)):Binds K fd ps []:=λs us _ hl=>by
 rw[ZA] at hl ⊢;exact .of_eq (h us hl)
def pP(CX:rS)(X:Cx)(E:XK):Prop:=∀(b_:Zc) (σ:St) (H:Hp) (s:Shared) (e:Value) (a:Shared),af X b_ σ H s->CX X.stack H s E e a->X.xe e a
section
variable {X:Cx}{CX:rS}{k:Nat}{f C:Addr}{fd:Zv}{ps:Zf}{sp:Sp}{QL:List V}{ds:Zd}{E:XK}{x m:Str}{p pos r_:Pos}{e o:Expr}{es:Zg}{ta:TE}{t:TA}
def xN{Q:VK}(F:fm X.prog X.w X.K X.mg X.base CX k f fd ps sp)(hr:ck k X.A)(hb:Binds X.K fd ps ds)(hd:aq QL ds)(hx:pP CX X E)
  (I:af X b_ σ H s) (r:aq vs us) (h:sp (vs++QL) H Q E):wpAny 'c' X.A (call (.ref f) us) (EP X b_ σ Q) X.xe s:=by
 have a:aq (vs++QL) (us++ds):=r.append hd;have hl:(us++ds).length=ps.length:=by rw[←a.length];exact F.len _ _ _ _ h
 refine wpAny_call (codeAny_mono (F.run X.A X.stack s H ⟨us,[]⟩ (us++ds) (vs++QL) Q E hr I.env0 (hb s us I.kIn hl) a h) λr c hq=>?_);cases r with
 |error e=>exact hx b_ σ H s e c I hq
 |ok fl=>
  cases fl with
  |ret u=>exact I.after hq
  |next=>exact Yh hq
  |brk=>exact Yh hq
  |cont=>exact Yh hq
def JF(F:fm X.prog X.w X.K X.mg X.base CX k f fd ps sp)(hr:ck k X.A)(hg:Gl X x)(hm:X.mg x=some (.ref f))(hk:PySem.W.keepIn X.K (.ref f)=true)(hb:Binds X.K fd ps ds)(hd:aq QL ds)(hx:pP CX X E)
  (ha:PA X (e::es) t) (c:(x==("__debug__" : Str))=false:=by decide) (j:starEach (e::es) X.env=(false,eval e X.env)::starEach es X.env:=by rfl) (l:(backTo pos (starEach es X.env)).any (·.1)=false:=by rfl):
  PE X (.Call (.Name x p) (e::es) [] pos) (IG sp QL E t):=by
 intro b_ s σ H Q I h;refine wpAny_Call_Name_kw (u5 I hg hm ?_ c);refine PySem.W.callWith_K (h₀:=X.base) I.ok.mod.kin hk (aK (ha pos b_ s σ H _ I h) λus s1 n=>?_) j l;obtain⟨vs,z,a,r,q⟩:=n;refine⟨a.kIn,?_⟩;exact xN F hr hb hd hx a r q
structure Mk (K:Za) (C f:Addr):Prop where
 makes:PySem.W.makesIn K C=true
 init:PySem.W.findIn K (.ref C) "__init__" = some (some (.ref f))
 fn:PySem.W.isFn K (.ref f)=true
 kp:PySem.W.keepIn K (.ref C)=true
def F3{Q:VK}(M:Mk X.K C f)(F:fm X.prog X.w X.K X.mg X.base CX k f fd ps sp)(hr:ck (k+1) X.A)(hb:Binds X.K fd ps ds)(hd:aq QL ds)
  (hx:pP CX X E) (I:af X b_ σ H s) (r:aq vs us)
  (h:∀x dx,H x=none->H dx=none->dx≠x->sp (.ref x::(vs++QL)) (upd (upd H dx (.own x)) x (.ins C dx [])) (λv l=>v=.non/\Q (.ref x) l) E):
  wpAny 'c' X.A (call (.ref C) us) (EP X b_ σ Q) X.xe s:=by
 have hq:=h (s.heap.objs.size+1) s.heap.objs.size (I.hok.fresh (YO _)) (I.hok.fresh (YG _)) (ZU (YM _));have c:=af.made (C:=C) I;have j:aq (V.ref (s.heap.objs.size+1)::(vs++QL)) (Value.ref (s.heap.objs.size+1)::(us++ds)):=.cons rfl (r.append hd);have hl:(Value.ref (s.heap.objs.size+1)::us++ds).length=ps.length:=by
  have e:=j.length;rw[F.len _ _ _ _ hq] at e;exact e.symm
 refine wpAny_call (F1 (f:=f) I.kIn M.makes M.init (beq_iff_eq.mp M.fn) (codeAny_mono (F.run _ X.stack _ _ ⟨Value.ref (s.heap.objs.size+1)::us,[]⟩ (Value.ref (s.heap.objs.size+1)::(us++ds)) _ _ E (hr.make C us [])
  (c.env0.make C us []) (hb _ (Value.ref (s.heap.objs.size+1)::us) c.kIn hl) j hq) λr n a=>?_))
 cases r with
 |error e=>exact hx b_ σ _ _ e n c a
 |ok fl=>
  cases fl with
  |ret u=>
   obtain⟨v,H',z,B,G,J⟩:=c.after a;subst G;exact⟨B,⟨V.ref (s.heap.objs.size+1),H',z,rfl,J⟩⟩
  |next=>exact Yh a
  |brk=>exact Yh a
  |cont=>exact Yh a
def JG(M:Mk X.K C f)(F:fm X.prog X.w X.K X.mg X.base CX k f fd ps sp)(hr:ck (k+1) X.A)(hg:Gl X x)(hm:X.mg x=some (.ref C))(hb:Binds X.K fd ps ds)(hd:aq QL ds)(hx:pP CX X E)
  (ha:PA X (e::es) t) (c:(x==("__debug__" : Str))=false:=by decide) (j:starEach (e::es) X.env=(false,eval e X.env)::starEach es X.env:=by rfl) (l:(backTo pos (starEach es X.env)).any (·.1)=false:=by rfl):
  PE X (.Call (.Name x p) (e::es) [] pos) (Oc C sp QL E t):=by
 intro b_ s σ H Q I h;refine wpAny_Call_Name_kw (u5 I hg hm ?_ c);refine PySem.W.callWith_K (h₀:=X.base) I.ok.mod.kin M.kp (aK (ha pos b_ s σ H _ I h) λus s1 n=>?_) j l;obtain⟨vs,z,a,r,q⟩:=n;refine⟨a.kIn,?_⟩;exact F3 M F hr hb hd hx a r q
end
structure cg (N P:Zf) (sc:Scope):Prop where
 kind:sc.kind=.function
 co:sc.isCoroutine=false
 gen:sc.isGenerator=false
 nd:N.Nodup
 pre:N.take P.length=P
 par:∀x∈P,sc.names.lookup x=some .local \/ sc.names.lookup x=some .cell
 nofree:∀y∈sc.names,y.2≠.free
theorem vS{kindOf:Str->Option NameKind}{x:Str}:∀{binds:List (Str×Value)}{m:Ze},(∀v,(x,v)∉binds)->bindL kindOf binds m x=m x
 |[],_,_=>rfl
 |(n,v)::r,m,h=>by
  unfold bindL;rw[vS λw hw=>h w (YA _ hw)];split
  .have:x≠n:=by rintro rfl;exact h v ZZ
   simp[this]
  .rfl
theorem vT{kindOf:Str->Option NameKind}{x:Str}:∀{binds:List (Str×Value)}{m:Ze},(∀v,(x,v)∉binds)->bindC kindOf binds m x=m x
 |[],_,_=>rfl
 |(n,v)::r,m,h=>by
  unfold bindC;rw[vT λw hw=>h w (YA _ hw)];split
  .rfl
  .have:x≠n:=by rintro rfl;exact h v ZZ
   simp[this]
theorem vU{kindOf:Str->Option NameKind}{x:Str}{v:Value}:∀{P:Zf}{vs:Zd}{i:Nat}{m:Ze},P.Nodup->P[i]?=some x->vs[i]?=some v->kindOf x=some .local ->
  bindL kindOf (P.zip vs) m x=some v
 |[],_,_,_,_,h,_,_=>by simp at h
 |_::_,[],_,_,_,_,h,_=>by simp at h
 |p::P,w::vs,0,m,nd,h1,a,hk=>by
  simp at h1 a;subst h1;subst a;show bindL kindOf ((p,w)::P.zip vs) m p=_;unfold bindL;rw[vS λv hv=>(YQ.mp nd).1 (List.of_mem_zip hv).1,if_pos hk];simp
 |p::P,w::vs,i+1,m,nd,h1,a,hk=>by
  show bindL kindOf ((p,w)::P.zip vs) m x=_;unfold bindL;exact vU (i:=i) (YQ.mp nd).2 (by simpa using h1) (by simpa using a) hk
theorem vV{kindOf:Str->Option NameKind}{x:Str}{v:Value}:∀{P:Zf}{vs:Zd}{i:Nat}{m:Ze},P.Nodup->P[i]?=some x->vs[i]?=some v->kindOf x≠some .local ->
  bindC kindOf (P.zip vs) m x=some v
 |[],_,_,_,_,h,_,_=>by simp at h
 |_::_,[],_,_,_,_,h,_=>by simp at h
 |p::P,w::vs,0,m,nd,h1,a,hk=>by
  simp at h1 a;subst h1;subst a;show bindC kindOf ((p,w)::P.zip vs) m p=_;unfold bindC;rw[vT λv hv=>(YQ.mp nd).1 (List.of_mem_zip hv).1,if_neg hk];simp
 |p::P,w::vs,i+1,m,nd,h1,a,hk=>by
  show bindC kindOf ((p,w)::P.zip vs) m x=_;unfold bindC;exact vV (i:=i) (YQ.mp nd).2 (by simpa using h1) (by simpa using a) hk
def start(N:Zf)(vs:List V):St:=vs.map some++List.replicate (N.length-vs.length) none
def nT(CX:rS)(P:Zw)(w:World)(K:Za)(mg:Ze)(base:Heap)(N:Zf)(i_:Str)(scope:Scope)(f:Addr)(cd:Value)(A:Around)(outer:List Env)(s:Shared)(H:Hp)(E:XK):Cx where
 prog:=P
 w:=w
 K:=K
 mg:=mg
 base:=base
 A:=A.deeper (envOfC i_ scope s.heap.objs.size f cd)
 N:=N
 s₀:=s
 H₀:=H
 env:=envOfC i_ scope s.heap.objs.size f cd
 outer:=outer
 stack:=envOfC i_ scope s.heap.objs.size f cd::outer
 ex:=[]
 calm:=true
 fn:=λ_=>true
 pn:=[]
 xe:=λe c=>wpAny (model P w) (A.deeper (envOfC i_ scope s.heap.objs.size f cd)) (leaving (envOfC i_ scope s.heap.objs.size f cd) e) (λ_ a=>CX outer H s E e a) (λe' a=>CX outer H s E e' a) c
def xO{sc:Scope}{n:Nat}(h:sc.names.lookup m=some .cell):∃c,(cellsFrom n sc.names []).lookup m=some c:=by
 have q:=PySem.W.cellsFrom_some sc.names n [] (.inl h);exact Option.isSome_iff_exists.mp q
theorem DY{outer:List Env}{E:XK}
  (S:cg N ps scope) (hd:A.handled=none) (l:dB P w K mg base A outer s H) (hl:vs.length=ps.length) (r:aq vs us)
  (x:InCallC s s.heap.objs.size (bindL (envOfC i_ scope s.heap.objs.size b cd).kindOf (ps.zip us) λ_=>none) (cellsFrom (s.heap.objs.size+1) scope.names []) (bindC (envOfC i_ scope s.heap.objs.size b cd).kindOf (ps.zip us) λ_=>none) s1):
  af (nT CX P w K mg base N i_ scope b cd A outer s H E) [] (start N vs) H s1:=by
 have J:ps.length<=N.length:=by have:=congrArg List.length S.pre;rw[YT] at this;omega
 obtain⟨h1,tk,rfl,hk⟩:=x.done;have G:∀f:Addr,f∉(nT CX P w K mg base N i_ scope b cd A outer s H E).ex:=λf z=>absurd (show f∈([]:List Addr) from z) (by simp)
 refine⟨⟨l.mod,S.kind,rfl,rfl,YG _,λy z c h1 j=>?_,λy hy=>?_,λy c _ h=>?_,λ_=>hd,Around.frames_deeper l.frames,.inr ⟨rfl,rfl⟩,λf z=>absurd z (G f),l.bs,l.bsz,λf _ _=>G f,λf z=>absurd z (G f),l.funs,l.frf⟩,
  rfl,l.bare,Un.kept hk,⟨_,x.toInCall.ns,λi y v h1 j L=>?_⟩,λy c h=>⟨_,x.cell y c h⟩,l.hok.fresh (YG _),λy c h=>?_,λp hp=>absurd (show p∈([]:List (Addr×Obj)) from hp) (by simp),l.hok.kept hk,?_⟩
 .exact name_of_addr x.apart (PySem.mem_of_lookup h1) (PySem.mem_of_lookup j)
 .have hy:scope.names.lookup y=some .cell\/scope.names.lookup y=some .free:=hy
  rcases hy with hy | hy
  .exact xO hy
  .exact absurd rfl (S.nofree _ (PySem.mem_of_lookup hy))
 .exact Nat.le_of_lt (x.above y c (PySem.mem_of_lookup h))
 .have hi:i<vs.length:=by
   unfold start at j;by_cases hi:i<vs.length
   .exact hi
   .rw[ZH (by simpa using hi)] at j
    rw[List.getElem?_replicate] at j;split at j<;>cases j
  have ha:vs[i]?=some v:=by
   unfold start at j;rw[ZE (by simpa using hi),ZG] at j;cases e:vs[i]? with
   |none=>rw[e] at j;cases j
   |some a=>rw[e] at j;cases j;rfl
  obtain⟨u,hu,I⟩:=r.get ha;have hp:ps[i]?=some y:=by
   rw[←S.pre,List.getElem?_take_of_lt 'a'];exact h1
  have B:ps.Nodup:=by rw[←S.pre];exact S.nd.sublist (List.take_sublist _ _)
  refine⟨u,I,?_⟩;rcases S.par y (YU hp) with k | k
  .exact .inl ⟨k,vU B hp hu k⟩
  .obtain⟨c,e⟩:=xO (n:=s.heap.objs.size+1) k
   refine .inr ⟨.inl k,c,e,?_⟩;have q:=x.cell y c e;rw[vV B hp hu (by show scope.names.lookup y≠_;rw[k];decide)] at q;exact q
 .exact l.hok.fresh (Nat.le_of_lt (x.above y c (PySem.mem_of_lookup h)))
 .unfold start
  show _=N.length;rw[ZK,ZF,List.length_replicate];omega
def IH{a:Arguments}{oc:Value}{od:Zm}
  {E_:Zn}{sp:Sp}(G:K.lookup b=some ⟨oc,od,.func (PySem.W.fnOf m i_ a body scope dV cd v_ pm an p_ ct),E_⟩) (L:PySem.W.codeIn K p_ i_=true) (S:cg N ps scope)
  (len:∀vs H Q E,sp vs H Q E->vs.length=ps.length)
  (O:∀(A:Around) (outer:List Env) (s:Shared) (H:Hp) (vs:List V) (Q:VK) (E:XK),ck i (A.deeper (envOfC i_ scope s.heap.objs.size b p_))->sp vs H Q E ->
   ∃t,kN (nT CX P w K mg base N i_ scope b p_ A outer s H E) body t/\t { nx:=λ_ H'=>Q .non H',rt:=Q } (start N vs) H):
  fm P w K mg base CX (i+1) b (PySem.W.fnOf m i_ a body scope dV cd v_ pm an p_ ct) ps sp:=by
 refine⟨len,λA outer s H args us vs Q E hr c hb r z=>?_⟩;have hl:=len _ _ _ _ z;have B:K.In s.heap:=c.mod.kin.keeps λkV o e=>(c.bs kV o e).1
 have k:s.heap.NoLimit:=c.mod.nolimit.keeps λkV o e=>(c.bs kV o e).1
 have R:∀y∈ps.zip us,scope.names.lookup y.1=some .local \/ (scope.names.lookup y.1=some .cell/\((cellsFrom (s.heap.objs.size+1) scope.names []).lookup y.1).isSome=true):=λ⟨n,v⟩ hy=>by
  rcases S.par n (List.of_mem_zip hy).1 with q | q
  .exact .inl q
  .exact .inr ⟨q,PySem.W.cellsFrom_some _ _ _ (.inl q)⟩
 refine codeAny_call_function hr.depth (B _ _ G) rfl S.co S.gen rfl (PySem.W.codeRec_of B L) (hb _ _ _ _ ?_);refine wpAny_newFunctionEnv_cells S.kind R λenv T s1 x=>?_
 subst T;refine⟨k.keeps x.toInCall.keep,codeAny_func ?_⟩;obtain⟨t,ht,hq⟩:=O A outer s H vs Q E (hr.deeper _) z;have I:af (nT CX P w K mg base N i_ scope b p_ A outer s H E) [] (start N vs) H s1:=DY S hr.hd c hl r x;refine wpAny_mono (ht [] s1 (start N vs) H _ I hq) (λfl l hs=>?_) λe l hs=>hs
 have fin:∀{j:St}{H':Hp}{v:V}{u:Value},af (nT CX P w K mg base N i_ scope b p_ A outer s H E) [] j H' l->RelV v u->Q v H'->CE outer P w H s Q u l:=
  λ{j H' v u} J p q=>⟨v,H',J.os,J.bare,J.base,J.hok,p,q⟩
 cases fl with
 |ret u=>
  obtain⟨v,j,H',J,p,q⟩:=hs;exact fin J p q
 |next=>
  obtain⟨j,H',J,q⟩:=hs;exact fin (v:=V.non) (u:=Value.none) J rfl q
 |brk=>
  obtain⟨_,_,_,q⟩:=hs;exact Yh q
 |cont=>
  obtain⟨_,_,_,q⟩:=hs;exact Yh q
section
variable {X:Cx}{x:Str}{p pos:Pos}{e:Expr}{es:Zg}{t:TA}{id T:String}{r:List V->Hp->VK->Prop}
def Oz(r:List V->Hp->VK->Prop)(t:TA):TE:=λσ H Q=>t σ H λvs a=>r vs a Q
def F5(hc:gv X (.builtin id) r)(hg:Gl X x)(hm:X.mg x=none)(hv:bootBuiltins x=some (.builtin id))(ha:PA X (e::es) t)(hn:x ≠ "__name__":=by decide)(a:(x==("__debug__" : Str))=false:=by decide)
  (c:starEach (e::es) X.env=(false,eval e X.env)::starEach es X.env:=by rfl) (j:(backTo pos (starEach es X.env)).any (·.1)=false:=by rfl):PE X (.Call (.Name x p) (e::es) [] pos) (Oz r t):=by
 intro b_ s σ H Q I h;refine wpAny_Call_Name_kw (eG I hg hm hv ?_ hn a);refine PyProof.Rows.callWith_builtin1 (aK (ha pos b_ s σ H _ I h) λus s1 k=>?_) c j;obtain⟨vs,l,n,z,B⟩:=k;exact hc b_ s1 σ l vs us Q n z B
def DZ(hc:gv X (.type T) r)(hg:Gl X x)(hm:X.mg x=none)(hv:bootBuiltins x=some (.type T))(ha:PA X (e::es) t)(hn:x ≠ "__name__":=by decide)(a:(x==("__debug__" : Str))=false:=by decide)
  (c:starEach (e::es) X.env=(false,eval e X.env)::starEach es X.env:=by rfl) (j:(backTo pos (starEach es X.env)).any (·.1)=false:=by rfl):PE X (.Call (.Name x p) (e::es) [] pos) (Oz r t):=by
 intro b_ s σ H Q I h;refine wpAny_Call_Name_kw (eG I hg hm hv ?_ hn a);refine PyProof.Rows.callWith_type1 (aK (ha pos b_ s σ H _ I h) λus s1 k=>?_) c j;obtain⟨vs,l,n,z,B⟩:=k;exact hc b_ s1 σ l vs us Q n z B
end
end L2
namespace HT
open PySem PyProof.Rows
variable {t b:Addr}{lo hi:Zq}{Q:Zb}{vl vu:Value}{e_ B_:Zl}{ms:Zi}{ws:Zd}
def lexLt:List Int->List Int->Bool
 |[],[]=>false
 |[],_::_=>true
 |_::_,[]=>false
 |x::xs,y::a=>if x=y then lexLt xs a else decide (x<y)
def nU(x y:Int)(xs a:Zi):lexLt (x::xs) (y::a)=if x=y then lexLt xs a else decide (x<y):=rfl
def oU:lexLt [] []=false:=rfl
def u6(y:Int)(a:Zi):lexLt [] (y::a)=true:=rfl
def u7(x:Int)(xs:Zi):lexLt (x::xs) []=false:=rfl
def F8(A:Around)(s:Shared)(a:Int)(t:Tok)(c:Int)(u:Tok):∃e,SeqAt.EqAt A s (.int a t) (.int c u) e/\(e=true↔a=c):=
 ⟨(a==c),SeqAt.EqAt.int_int a t c u,by simp⟩
def F9(A:Around)(s:Shared)(a:Int)(t:Tok)(c:Int)(u:Tok)(prog:Zw)(w:World)(E:Zb)(Q:Zb)(h:Q (.bool (decide (a<c))) s):
  wpAny 'f' A (richCompare .Lt (.int a t) (.int c u)) Q E s:=
 (PyProof.Rows.lt_int h:wpAny 'f' A (compareOp .Lt (.int a t) (.int c u)) Q E s)
section
open PySem.SeqAt
open PySem.AutoSeq1 (wpAny_loadPart')
open PySem.MeetsSeq PySem.MeetsSeq2 PySem.MeetsSeq3
theorem wZ(l b:Addr)(e_ B_:Zl)(n r:Nat)(z B:Zm)(sl sl2:Zn)(ns ms:Zi)(hi:IntsAre e_.toList ns)(o:IntsAre B_.toList ms):
  Meets (Builtin.«tuple.__lt__» ⟨[.ref l,.ref b],[]⟩)
   (λ_ R s=>s.heap.get? l=some { cls:=.type "tuple",dict:=z,data:=.seq e_ n,slots:=sl }/\s.heap.get? b=some { cls:=.type "tuple",dict:=B,data:=.seq B_ r,slots:=sl2 } /\
    R (.ok (.ret (.bool (lexLt ns ms)))) s):=
 .of_wp λprog w A R s h=>by
  obtain⟨hp,g,d,tk,os⟩:=s;obtain⟨hl,hb,h⟩:=h;have I:=AutoSeq1.sub_tuple_tuple;have J:e_.size=ns.length:=by rw[←hi.length];simp
  have K:B_.size=ms.length:=by rw[←o.length];simp
  wp_walk using wpAny_loadPart' hl,wpAny_loadPart' hb,wpAny_forIn_list _ (λrest b k=>b.1=none/\k=⟨hp,g,d,tk,os⟩/\∃(vs ws:Zd) (f j:Zi),rest=vs.zip ws /\
   IntsAre vs f/\IntsAre ws j/\f.length+B_.size=j.length+e_.size/\R (.ok (.ret (.bool (lexLt f j)))) ⟨hp,g,d,tk,os⟩) _
  case turn=>
   rintro⟨y,x⟩ rest b k ⟨Qi,rfl,vs,ws,f,j,hz,hvi,hwi,j_,hR⟩;cases hvi with
   |nil=>rw[List.zip_nil_left] at hz;cases hz
   |cons a t C=>
    cases hwi with
    |nil=>rw[List.zip_nil_right] at hz;cases hz
    |cons c u E=>
     rw[List.zip_cons_cons] at hz;injection hz with hyx hrest
     injection hyx with hy hx
     subst hy hx;rw[nU] at hR;simp only[YJ] at j_;obtain⟨e,G,p⟩:=F8 A.in1 ⟨hp,g,d,tk,os⟩ a t c u;refine Yb (G prog w _ _ ?_);cases e with
     |true=>
      rw[if_pos (p.mp rfl)] at hR;wp_walk;exact⟨rfl,rfl,_,_,_,_,hrest,C,E,by omega,hR⟩
     |false=>
      rw[if_neg (λq=>absurd (p.mpr q) YF)] at hR;have m:=F9 A.in1 ⟨hp,g,d,tk,os⟩ a t c u prog w;wp_walk using m;exact⟨_,rfl,by simpa using hR⟩
  case fin=>
   rintro⟨b1,b2⟩ k ⟨Qi,rfl,vs,ws,f,j,hz,hvi,hwi,j_,hR⟩;simp only at Qi;subst Qi;have hv:lexLt f j=decide (e_.size<B_.size):=by
    cases hvi with
    |nil=>
     cases hwi with
     |nil=>
      simp only[YV] at j_;rw[oU];exact(ZQ 'a').symm
     |cons c u hw=>
      simp only[YV,YJ] at j_;rw[u6];exact(YW 'a').symm
    |cons a t hv=>
     cases hwi with
     |nil=>
      simp only[YV,YJ] at j_;rw[u7];exact(ZQ 'a').symm
     |cons c u hw=>
      rw[List.zip_cons_cons] at hz;cases hz
   rw[hv] at hR;wp_walk;exact⟨_,rfl,by simpa [Builtin.Tuple.tupleCompareSizes] using hR⟩
  case h=>
   exact⟨rfl,rfl,e_.toList,B_.toList,ns,ms,rfl,hi,o,by omega,h⟩
end
section
variable {prog:Zw}{w:World}{A:Around}{E:Zb}{s:Shared}
def Ce{ns:Zi}(hl:IsTup s.heap t e_)(hb:IsTup s.heap b B_)(hi:IntsAre e_.toList ns)(j:IntsAre B_.toList ms)
  (hu:A.units<cLine) (h:Q (.bool (lexLt ns ms)) s):wpAny 'f' A (compareOp .Lt (.ref t) (.ref b)) Q E s:=by
 obtain⟨⟨cls,k,data,sl⟩,a,hc,n,hd⟩:=id hl;obtain⟨⟨o,l,data2,sl2⟩,c,f,m,g⟩:=id hb;simp only at hc hd f g;subst hc hd f g;exact richCompare_meets_room (op:=.Lt) ⟨_,a,rfl⟩ ⟨_,c,rfl⟩ PySem.F.slot_tuple_lt PySem.F.entry_tuple_lt (PySem.F.args_tuple_lt_2 _ _) (wZ t b e_ B_ n m k l sl sl2 ns ms hi j)
  ⟨a,c,show Value.bool (lexLt ns ms)≠Value.notImplemented/\Q (.bool (lexLt ns ms)) s from⟨(λx=>nomatch x),h⟩⟩ hu
def JH{vs:Zd}(ht:IsTup s.heap t vs.toArray)(hb:IsTup s.heap b ws.toArray)(hv:vs≠[])
  (h1:ws=[]->Q (.ref t) s) (m:ws≠[]->Q (.ref s.heap.objs.size) { s with heap:=s.heap.push { cls:=.type "tuple",data:=.seq (vs++ws).toArray } })
  (hsz:vs.length+ws.length<=sizeLine):wpAny 'f' A (binaryOp .Add (.ref t) (.ref b)) Q E s:=by
 obtain⟨⟨cls,f,data,sl⟩,a,hc,n,hd⟩:=id ht;obtain⟨⟨o,g,data2,sl2⟩,c,j,k,l⟩:=id hb;simp only at hc hd j l;subst hc hd j l;have e:vs.toArray++ws.toArray=(vs++ws).toArray:=by simp
 by_cases hw:ws=[]
 .exact concat_meets ⟨_,a,rfl⟩ ⟨_,c,rfl⟩ noFill_tuple_add seq_tuple_add PySem.F.slot_tuple_add PySem.F.entry_tuple_add (PySem.F.args_tuple_add_2 _ _)
   (tuple_addW1 t b vs.toArray ws.toArray n k f g sl sl2 (by simpa using hv) (by simp[hw])) ⟨a,c,h1 hw⟩
 .refine concat_meets ⟨_,a,rfl⟩ ⟨_,c,rfl⟩ noFill_tuple_add seq_tuple_add PySem.F.slot_tuple_add PySem.F.entry_tuple_add (PySem.F.args_tuple_add_2 _ _)
   (tuple_addW2 t b vs.toArray ws.toArray n k f g sl sl2 (by simpa using hv) (by simpa using hw) (by rw[YI,YI];exact hsz)) ⟨a,c,?_⟩
  rw[e];exact m hw
def aV(n d:Nat):Option Int->Nat
 |none=>d
 |some v=>if v<0 then(v+(n:Int)).toNat else min v.toNat n
def Ga(n d:Nat):aV n d none=d:=rfl
theorem u8(n d k:Nat):aV n d (some (k:Int))=min k n:=by
 show(if(k:Int)<0 then((k:Int)+(n:Int)).toNat else min (k:Int).toNat n)=min k n;rw[if_neg 'a',YX]
theorem D1(n d:Nat)(hd:d<=n)(o:Zq):aV n d o<=n:=by
 cases o with
 |none=>exact hd
 |some v=>
  show(if v<0 then(v+(n:Int)).toNat else min v.toNat n)<=n;by_cases hv:v<0
  .rw[if_pos hv];omega
  .rw[if_neg hv];exact Nat.min_le_right _ _
theorem AD(v:Int)(n d:Nat):(if v<0 then max (v+(n:Int)) 0 else min v (n:Int))=((aV n d (some v):Nat):Int):=by
 show(if v<0 then max (v+(n:Int)) 0 else min v (n:Int))=(((if v<0 then(v+(n:Int)).toNat else min v.toNat n):Nat):Int);by_cases hv:v<0
 .simp only[if_pos hv];omega
 .simp only[if_neg hv];omega
theorem Cf(lo hi:Zq)(n:Nat):Builtin.Slice.sliceAdjust lo hi 1 (n:Int)=(((aV n 0 lo:Nat):Int),((aV n n hi:Nat):Int)):=by
 have h1:¬((1:Int)<0):=by omega
 unfold Builtin.Slice.sliceAdjust;simp only[h1,if_false];refine Prod.ext ?_ ?_
 .cases lo with
  |none=>rfl
  |some v=>exact AD v n 0
 .cases hi with
  |none=>rfl
  |some v=>exact AD v n n
theorem Cg(i j:Nat):Builtin.Slice.slicePlaces (i:Int) (j:Int) 1=j-i:=by
 unfold Builtin.Slice.slicePlaces;have h1:(1:Int)>0:=by omega
 simp only[h1,if_true,Int.ediv_one];split<;>omega
def tD{Q:Option Int->Shared->Prop}(p:IsPart vl lo)(h:Q lo s):wpAny 'f' A (Builtin.Slice.slicePartIndex vl) Q E s:=by
 cases p with
 |none=>exact slicePart_none h
 |int i t=>exact slicePart_int h
def kO{n:Nat}{Q:Int×Int×Nat->Shared->Prop}(hs:s.heap.IsSliceOf t vl vu .none)(f:IsPart vl lo)(g:IsPart vu hi)
  (h:Q (((aV n 0 lo:Nat):Int),1,aV n n hi-aV n 0 lo) s):wpAny 'f' A (Builtin.Slice.sliceApplied (.ref t) (pure (n:Int))) Q E s:=by
 obtain⟨os,a,j,c⟩:=id hs;unfold Builtin.Slice.sliceApplied Builtin.Slice.sliceFields;refine Yb (Yb (wpAny_field a c (x:=vl) rfl (Yb (wpAny_field a c (x:=vu) rfl (Yb (wpAny_field a c (x:=.none) rfl (Yc ?_)))))));refine Yb (slicePart_none ?_);show wpAny _ _ (if((1:Int)==0)=true then _ else _) _ _ s;rw[if_neg 'b'];refine Yb (tD f (Yb (tD g (Yb (Yc ?_)))));show wpAny _ _ (match Builtin.Slice.sliceAdjust lo hi 1 (n:Int) with | (lo,hi)=>pure (lo,(1:Int),Builtin.Slice.slicePlaces lo hi 1)) _ _ s;rw[Cf lo hi n];show wpAny _ _ (pure (((aV n 0 lo:Nat):Int),(1:Int),Builtin.Slice.slicePlaces ((aV n 0 lo:Nat):Int) ((aV n n hi:Nat):Int) 1)) _ _ s;rw[Cg];exact Yc h
theorem Gb(xs:Zl)(i k:Nat):((List.range k).filterMap λ(m:Nat)=>xs[((i:Int)+(m:Int)*1).toNat]?).toArray=((xs.toList.drop i).take k).toArray:=by
 have e:(λ(m:Nat)=>xs[((i:Int)+(m:Int)*1).toNat]?)=λm=>xs[i+m]?:=by
  funext m;have:((i:Int)+(m:Int)*1).toNat=i+m:=by omega
  rw[this]
 rw[e]
 have:=pick_run xs i k
 rw[List.filterMap_map] at this;have a:((λx=>xs[x]?)∘λx=>i+x)=λm=>xs[i+m]?:=rfl
 rw[a] at this;rw[this]
theorem rG(ht:IsTup s.heap t e_)(hs:s.heap.IsSliceOf b vl vu .none)(c:IsPart vl lo)(f:IsPart vu hi)
  (hw:¬(aV e_.size 0 lo=0/\aV e_.size e_.size hi=e_.size))
  (h:Q (.ref s.heap.objs.size) { s with heap:=s.heap.push { cls:=.type "tuple",data:=.seq ((e_.toList.drop (aV e_.size 0 lo)).take (aV e_.size e_.size hi-aV e_.size 0 lo)).toArray } })
  (hsz:e_.size<=sizeLine):wpAny 'f' A (getItem (.ref t) (.ref b)) Q E s:=by
 have a:sizeOk (.seq ((e_.toList.drop (aV e_.size 0 lo)).take (aV e_.size e_.size hi-aV e_.size 0 lo)).toArray):=by
  show((e_.toList.drop (aV e_.size 0 lo)).take (aV e_.size e_.size hi-aV e_.size 0 lo)).toArray.size<=sizeLine;rw[YI,YT,YY,YE];omega
 have n:aV e_.size e_.size hi<=e_.size:=D1 _ _ (YG _) hi;obtain⟨os,g,j,o⟩:=id hs;have k:s.TypeIs (.ref b) "slice":=⟨os,g,j⟩;unfold getItem;try with_reducible refine Yj ?_
 first | refine Yb (Yc ?_) | skip
 refine Yb (wpAny_sequenceKey ht.typeIs 'b' ?_);refine Yb (wpAny_callSpecial?_slot (name:=Str.ofString "__getitem__") ht.typeIs PyProof.Rows.slot_tuple_getitem
  (wpAny_call_entry PyProof.Rows.slot_tuple_getitem ht.typeIs entry_tuple_getitem ?_ (args_tuple_getitem _ _)))
 show wpAny _ _ (Builtin.Tuple.tupleItemsOf (.ref t) >>= _) _ _ s;refine Yb (tupleItemsOf_ ht ?_);refine Yb (wpAny_typeOf k ?_);rw[if_pos 'b'];refine Yb (kO hs c f ?_);have l:¬((((aV e_.size 0 lo:Nat):Int)==0&&(1:Int)==1&&(aV e_.size e_.size hi-aV e_.size 0 lo)==e_.size)=true):=by
  intro q;rw[YZ,YZ] at q;have p:((aV e_.size 0 lo:Nat):Int)=0:=eq_of_beq q.1.1;have r:aV e_.size e_.size hi-aV e_.size 0 lo=e_.size:=eq_of_beq q.2;exact hw ⟨by omega,by omega⟩
 show wpAny _ _ (if(((aV e_.size 0 lo:Nat):Int)==0&&(1:Int)==1&&(aV e_.size e_.size hi-aV e_.size 0 lo)==e_.size)=true then _ else _) _ _ s;rw[if_neg l,Gb];first
  |exact Yb (m:=Builtin.Tuple.tupleExact _) (wpAny_newObj_type (Yc ⟨_,rfl,Yc h⟩) a)
  |exact Yb (m:=Builtin.Tuple.tupleExact _) (wpAny_newObj_type (Yb (Yc (Yc ⟨_,rfl,Yc h⟩))) a)
  |exact Yb (Yb (m:=Builtin.Tuple.tupleExact _) (wpAny_newObj_type (Yc (Yc ⟨_,rfl,Yc h⟩)) a))
  |exact Yb (Yb (m:=Builtin.Tuple.tupleExact _) (wpAny_newObj_type (Yc ⟨_,rfl,Yc h⟩) a))
end
end HT
namespace L2
open PySem PySem.Spec PyProof.Rows
variable {H' H:Hp}{y:V}{n j:Nat}{u v:Value}{d_ o_:Zd}{Q:Zb}{s:Shared}{P:Zw}{b_:Zc}{σ:St}{b:Addr}{f_:List (List Key×V)}{w:World}{ob:HO}{xs:List V}{i:Int}{h':Heap}
abbrev TO:=St->Hp->(Option Int->Hp->Prop)->Prop
def PO(X:Cx)(e:Option Expr)(t:TO):Prop:=
 ∀(b_:Zc) (s:Shared) (σ:St) (H:Hp) (Q:Option Int->Hp->Prop),af X b_ σ H s->t σ H Q ->
  wpAny 'c' X.A (evalPart e X.env) (λu a=>∃o H',af X b_ σ H' a/\IsPart u o/\Q o H') X.xe s
def JI:TO:=λ_ H Q=>Q none H
def Od(t:TE):TO:=λσ H Q=>t σ H λx a=>∃i,x=.int i/\Q (some i) a
def intsAre_of{ns:Zi}:∀{us:Zd},aq (ns.map V.int) us->IntsAre us ns:=by
 induction ns with
 |nil=>intro us r;rw[XA] at r;cases r;exact .nil
 |cons n ns a=>
  intro us r;rw[YL] at r;cases r with
  |cons c f=>
   obtain⟨t,e⟩:=c;subst e;exact .cons n t (a f)
section
variable {X:Cx}{e:Expr}{te:TE}{lo hi:Option Expr}{tl th:TO}{pos p2:Pos}
def JJ:PO X none JI:=by
 intro b_ s σ H Q I h;rw[evalPart_none];exact Yc ⟨none,H,I,.none,h⟩
def AE(h:PE X e te):PO X (some e) (Od te):=by
 intro b_ s σ H Q I hw;rw[evalPart_some];refine aK (h b_ s σ H _ I hw) λu s1 a=>?_
 obtain⟨x,c,f,g,k⟩:=a;obtain⟨i,rfl,q⟩:=k;obtain⟨t,rfl⟩:=g;exact⟨some i,c,f,.int i t,q⟩
def AF(X:Cx)(r:V->Option Int->Option Int->Hp->VK->Prop):Prop:=
 ∀(b_:Zc) (s:Shared) (σ:St) (H:Hp) (x:V) (v a c:Value) (lo hi:Zq) (sl:Addr) (Q:VK),af X b_ σ H s->RelV x v->s.heap.IsSliceOf sl a c .none->IsPart a lo->IsPart c hi->r x lo hi H Q ->
  ∃T id,typeLookup (.type T) "__getitem__" = pure (some (.builtin id))/\s.TypeIs v T/\wpAny 'c' X.A (getItem v (.ref sl)) (EP X b_ σ Q) X.xe s
def Pw(r:V->Option Int->Option Int->Hp->VK->Prop)(te:TE)(tl th:TO):TE:=λσ H Q=>te σ H λx a=>tl σ a λl c=>th σ c λu f=>r x l u f Q
def Gc{r:V->Option Int->Option Int->Hp->VK->Prop}(hr:AF X r)(k:PE X e te)(hl:PO X lo tl)(hu:PO X hi th):PE X (.Subscript e (.Slice lo hi none p2) pos) (Pw r te tl th):=by
 intro b_ s σ H Q I h;refine Subscript_ (aK (k b_ s σ H _ I h) λv s1 m=>?_);obtain⟨x,o,p,t,z⟩:=m;refine wpAny_Slice (aK (hl b_ s1 σ o _ p z) λc s2 B=>?_);obtain⟨l,C,E,G,J⟩:=B;refine aK (hu b_ s2 σ C _ E J) λf a K=>?_
 obtain⟨u,g,L,O,R⟩:=K;rw[evalPart_none];refine Yc ?_;have S:af X b_ σ g { a with heap:=a.heap.push { cls:=.type "slice",data:=.fields #[c,f,.none] } }:=L.kept (t':=a.toks) λb ob q=>Yd _ q
 obtain⟨T,id,U,ht,hg⟩:=hr b_ { a with heap:=a.heap.push { cls:=.type "slice",data:=.fields #[c,f,.none] } } σ g x v c f l u a.heap.objs.size Q S t (Heap.IsSliceOf.new ..) G O R;show wpAny 'c' X.A (subscriptTail e (.Slice lo hi none p2) v (.ref a.heap.objs.size)) (EP X b_ σ Q) X.xe { a with heap:=a.heap.push { cls:=.type "slice",data:=.fields #[c,f,.none] } };exact tail_any (ops:=[.ref a.heap.objs.size,v]) ht U hg (by with_unfolding_all rfl)
def i5(xs:List V)(lo hi:Zq):List V:=(xs.drop (HT.aV xs.length 0 lo)).take (HT.aV xs.length xs.length hi-HT.aV xs.length 0 lo)
theorem mK(xs:List V)(lo hi:Zq):(i5 xs lo hi).length<=xs.length:=by
 unfold i5;rw[YT,YY];omega
def O6(K:Za):V->Option Int->Option Int->Hp->VK->Prop:=λx lo hi H Q=>∃a xs,x=.ref a/\bX K H a xs /\
 ¬(HT.aV xs.length 0 lo=0/\HT.aV xs.length xs.length hi=xs.length)/\∀p,H p=none->Q (.ref p) (upd H p (.tup (i5 xs lo hi)))
def Md:AF X (O6 X.K):=by
 intro b_ s σ H x v m p lo hi sl Q I g hs k l h;obtain⟨a,xs,rfl,hx,hw,q⟩:=h;cases g;obtain⟨d_,r,ht,f⟩:=I.tuple hx;have c:d_.toArray.size=xs.length:=by rw[YI];exact r.length.symm
 refine⟨"tuple",_,PyProof.Rows.slot_tuple_getitem.lookup,ht.typeIs,?_⟩;refine HT.rG ht hs k l (by rw[c];exact hw) ?_ (by rw[c];exact f);rw[c];refine⟨.ref s.heap.objs.size,_,I.laid (t':=s.toks) (o:=.tup (i5 xs lo hi)) (λb ob q=>Yd _ q) (YG _) ?_,rfl,q _ (I.hok.fresh (YG _))⟩;exact⟨ZX (mK xs lo hi) f,_,(r.drop (HT.aV xs.length 0 lo)).take (HT.aV xs.length xs.length hi-HT.aV xs.length 0 lo),IsTup.new _ _⟩
def Oe(K:Za):R2:=λx y H Q=>∃a b xs c,x=.ref a/\y=.ref b/\bX K H a xs/\bX K H b c/\xs≠[]/\xs.length+c.length<=sizeLine /\
 (c=[]->Q (.ref a) H)/\(c≠[]->∀p,H p=none->Q (.ref p) (upd H p (.tup (xs++c))))
theorem aq.nil_iff(r:aq xs d_):d_=[]↔xs=[]:=by
 cases r with
 |nil=>simp
 |cons _ _=>simp
def JK:di X (binaryOp .Add) (Oe X.K):=by
 intro b_ s σ H x y v u Q I k l h;obtain⟨a,b,xs,m,rfl,rfl,ha,hb,hx,g,p,r⟩:=h;cases k;cases l;obtain⟨d_,f,p1,_⟩:=I.tuple ha;obtain⟨t,c,p2,_⟩:=I.tuple hb;refine HT.JH p1 p2 (λz=>hx (f.nil_iff.mp z)) (λz=>⟨.ref a,H,I,rfl,p (c.nil_iff.mp z)⟩) (λz=>?_) (by rw[←f.length,←c.length];exact g);refine⟨.ref s.heap.objs.size,_,I.laid (t':=s.toks) (o:=.tup (xs++m)) (λb ob q=>Yd _ q) (YG _) ?_,rfl,r (λw=>z (c.nil_iff.mpr w)) _ (I.hok.fresh (YG _))⟩;exact⟨by rw[ZK];exact g,_,f.append c,IsTup.new _ _⟩
end
def lR(n:Nat)(i:Int):Option Nat:=if 0<=i then(if i<n then some i.toNat else none) else if -(n:Int)<=i then some (i+n).toNat else none
def de{a:Type}(xs:List a)(i:Int):Option a:=(lR xs.length i).bind λj=>xs[j]?
theorem AG(h:lR n i=some j):seqIndex? i n=some j/\j<n/\-(n:Int)<=i/\i<n:=by
 unfold lR at h;by_cases a:0<=i
 .rw[if_pos a] at h
  by_cases h1:i<n
  .rw[if_pos h1] at h
   have e:i.toNat=j:=Yi h;exact⟨by rw[seqIndex_of a h1,e],by omega,by omega,h1⟩
  .rw[if_neg h1] at h;cases h
 .rw[if_neg a] at h
  by_cases h1:-(n:Int)<=i
  .rw[if_pos h1] at h
   have e:(i+n).toNat=j:=Yi h;exact⟨by rw[seqIndex_neg 'a' h1,e],by omega,h1,by omega⟩
  .rw[if_neg h1] at h;cases h
def AH{a:Type}{xs:List a}{v:a}(h:de xs i=some v):∃j,seqIndex? i xs.length=some j/\xs[j]?=some v/\j<xs.length/\-(xs.length:Int)<=i/\i<xs.length:=by
 unfold de at h;cases e:lR xs.length i with
 |none=>rw[e] at h;cases h
 |some j=>
  rw[e] at h;obtain⟨h1,c,f,g⟩:=AG e;exact⟨j,h1,h,c,f,g⟩
theorem dO{a:Type}{xs:List a}{v:a}(h:xs[j]?=some v):de xs (j:Int)=some v:=by
 have c:j<xs.length:=(YD.mp h).1;have e:lR xs.length (j:Int)=some j:=by
  unfold lR;rw[if_pos 'a',if_pos 'a'];simp
 unfold de;rw[e];exact h
theorem Gd{a:Type}(xs:List a)(v:a):de (xs++[v]) (-1)=some v:=by
 have hl:(xs++[v]).length=xs.length+1:=by simp
 have e:lR (xs++[v]).length (-1)=some xs.length:=by
  unfold lR;rw[hl,if_neg 'b',if_pos 'a'];congr 1;omega
 unfold de;rw[e];show(xs++[v])[xs.length]?=some v;simp
def AI(b:Expr):Prop:=∀o i,subscripted b false o i=operate [o,i] (getItem o i)
def AJ(X:Cx)(r:R2):Prop:=
 ∀(c a:Expr) (b_:Zc) (s:Shared) (σ:St) (H:Hp) (x y:V) (v u:Value) (Q:VK),af X b_ σ H s->RelV x v->RelV y u->r x y H Q ->
  subscripted a false v u=operate [v,u] (getItem v u)->wpAny 'c' X.A (subscriptTail c a v u) (EP X b_ σ Q) X.xe s
def D2(X:Cx)(id:String)(r:V->List V->Hp->VK->Prop):Prop:=
 ∀(b_:Zc) (s:Shared) (σ:St) (H:Hp) (x:V) (xs:List V) (v:Value) (us:Zd) (Q:VK),af X b_ σ H s->RelV x v->aq xs us->r x xs H Q ->
  wpAny 'c' X.A (call (.builtin id) (v::us)) (EP X b_ σ Q) X.xe s
section
variable {X:Cx}{a b:Expr}{ta tb:TE}{pos:Pos}
def Of{r:R2}(hr:AJ X r)(ha:PE X a ta)(hb:PE X b tb)(hs:AI b):PE X (.Subscript a b pos) (IE r ta tb):=by
 intro b_ s σ H Q I h;exact Subscript_ (FW ha hb I h λv u s2 x y c f g k q=>hr a b b_ s2 σ c x y v u Q f g k q (hs _ _))
def O7(K:Za):R2:=λx y H Q=>∃p xs i v,x=.ref p/\y=.int i/\bQ K H p xs/\de xs i=some v/\Q v H
def O8(K:Za):R2:=λx y H Q=>∃p xs i v,x=.ref p/\y=.int i/\bX K H p xs/\de xs i=some v/\Q v H
theorem AK:AJ X (O7 X.K):=by
 intro c f b_ s σ H x y v u Q I o A h hs;obtain⟨p,xs,i,z,rfl,rfl,hq,B,q⟩:=h;cases o;obtain⟨t,rfl⟩:=A;obtain⟨d_,r,g,O⟩:=I.list hq;obtain⟨j,h1,C,R,E,G⟩:=AH B;obtain⟨w,l,J⟩:=r.get C;have hl:=r.length;have hn:=nh;have fin:EP X b_ σ Q w s:=⟨z,H,I,J,q⟩;by_cases m:0<=i
 .have k:i.toNat=j:=by
   rw[seqIndex_of m G] at h1;exact Yi h1
  exact item_listR g.isList m 'a' (by rw[k];simpa using l) fin hs
 .have k:(i+(d_.toArray.size:Int)).toNat=j:=by
   rw[seqIndex_neg 'a' E] at h1;rw[YI,←hl];exact Yi h1
  exact subscriptTail_builtinR (x:=w) g.isList.typeIs slot_list_getitem.lookup
   (wpAny_getItem_list_neg (Q:=λr L=>r=w/\EP X b_ σ Q r L) g.isList 'a' (by rw[YI]<;>omega) 'a' (by rw[k];simpa using l) ⟨rfl,fin⟩) hs
theorem Me:AJ X (O8 X.K):=by
 intro c f b_ s σ H x y v u Q I k l h hs;obtain⟨p,xs,i,z,rfl,rfl,hq,m,q⟩:=h;cases k;obtain⟨t,rfl⟩:=l;obtain⟨d_,r,g,E⟩:=I.tuple hq;obtain⟨j,h1,o,G,J,L⟩:=AH m;obtain⟨w,A,B⟩:=r.get o;have hl:=r.length;have hn:=nh;have fin:EP X b_ σ Q w s:=⟨z,H,I,B,q⟩;exact subscriptTail_builtinR (x:=w) g.typeIs slot_tuple_getitem.lookup
  (getItem_tuple (j:=j) (Q:=λr C=>r=w/\EP X b_ σ Q r C) g 'a' 'a' (by rw[YI,←hl];exact h1) (by simpa using A) ⟨rfl,fin⟩) hs
def Ch(d_:Zd)(n j:Nat)(u:Value):Obj.mapSeq (·.setIfInBounds j u) { cls:=.type "list",data:=.seq d_.toArray n }={ cls:=.type "list",data:=.seq (d_.set j u).toArray n }:=by
 simp[Obj.mapSeq]
theorem af.lst{b_:Zc}{σ:St}{H:Hp}{s:Shared}{p:Addr}{xs:List V}(I:af X b_ σ H s)(h:H p=some (.lst xs)):
  ∃(d_:Zd) (n:Nat),aq xs d_/\s.heap.get? p=some { cls:=.type "list",data:=.seq d_.toArray n }/\xs.length<=sizeLine:=by
 obtain⟨z,d_,n,r,e⟩:=I.hok p _ h;exact⟨d_,n,r,e,z⟩
theorem af.lstUpd{p:Addr}{c:List V}{f:Obj->Obj}(I:af X b_ σ H s)(h:H p=some (.lst xs))
  (g:s.heap.get? p=some { cls:=.type "list",data:=.seq d_.toArray n }) (hf:f { cls:=.type "list",data:=.seq d_.toArray n }={ cls:=.type "list",data:=.seq o_.toArray j }) (r:aq c o_) (k:c.length<=sizeLine) (t:Nat):
  af X b_ σ (upd H p (.lst c)) { s with heap:=s.heap.update p f,toks:=t }:=by
 have e:(s.heap.update p f).get? p=some { cls:=.type "list",data:=.seq o_.toArray j }:=by
  rw[Heap.get?_update_self f g (by rw[hf]<;>rfl),hf]
 refine I.write (x:=p) (e:=p) (by rw[h];trivial) (.inl rfl) (λb u hb q=>(Heap.get?_update_other _ _ (Ne.symm hb)).trans q) ⟨_,e⟩ ?_;exact⟨k,o_,j,r,e⟩
def Og:V->V->V->Hp->(Hp->Prop)->Prop:=λo i v H Q=>∃p xs k j,o=.ref p/\i=.int k/\H p=some (.lst xs)/\lR xs.length k=some j/\Q (upd H p (.lst (xs.set j v)))
theorem set_list:FT X Og:=by
 intro b_ s σ H o i v G J u Q I z A B h;obtain⟨p,xs,k,j,rfl,rfl,hp,C,q⟩:=h;cases z;obtain⟨t,rfl⟩:=A;obtain⟨d_,n,r,c,E⟩:=I.lst hp;obtain⟨h1,K,f,g⟩:=AG C;have hl:=r.length;have hn:=nh;have l:af X b_ σ (upd H p (.lst (xs.set j v))) { s with heap:=s.heap.update p (Obj.mapSeq (·.setIfInBounds j u)) }:=
  I.lstUpd hp c (Ch d_ n j u) (r.set B j) (by rw[List.length_set];exact E) s.toks
 by_cases m:0<=k
 .have hk:k.toNat=j:=by
   rw[seqIndex_of m g] at h1;exact Yi h1
  exact PySem.W.ki_setAt c m 'a' (by rw[YI,←hl];exact g) (by rw[hk];exact⟨_,l,q⟩)
 .have hk:(k+(d_.toArray.size:Int)).toNat=j:=by
   rw[seqIndex_neg 'a' f] at h1;rw[YI,←hl];exact Yi h1
  exact PySem.W.ki_setBack c 'a' (by rw[YI,←hl];exact f) 'a' (by rw[hk];exact⟨_,l,q⟩)
theorem xP(lo hi:Zq)(n:Nat):(sliceBounds lo hi none n).1=((HT.aV n 0 lo:Nat):Int)/\(sliceBounds lo hi none n).2.1=((HT.aV n n hi:Nat):Int)/\(sliceBounds lo hi none n).2.2=1:=by
 refine⟨?_,?_,rfl⟩
 .cases lo with
  |none=>simp[sliceBounds,HT.aV]
  |some i=>
   simp only[sliceBounds,HT.aV,Option.getD_none,show(1:Int)>0 by decide,if_true];by_cases h:i<0
   .simp only[h,if_true]<;>omega
   .simp only[h,if_false]<;>omega
 .cases hi with
  |none=>simp[sliceBounds,HT.aV]
  |some i=>
   simp only[sliceBounds,HT.aV,Option.getD_none,show(1:Int)>0 by decide,if_true];by_cases h:i<0
   .simp only[h,if_true]<;>omega
   .simp only[h,if_false]<;>omega
def w4(d_:Zd)(lo hi:Zq):slicePick d_.toArray lo hi none=((d_.drop (HT.aV d_.length 0 lo)).take (HT.aV d_.length d_.length hi-HT.aV d_.length 0 lo)).toArray:=by
 obtain⟨h1,c,f⟩:=xP lo hi d_.toArray.size;unfold slicePick;rw[h1,c,f];simp only[sliceRange_one,pick_run,YI]<;>rfl
def O9(K:Za):V->Option Int->Option Int->Hp->VK->Prop:=λx lo hi H Q=>∃a xs,x=.ref a/\bQ K H a xs/\∀p,H p=none->Q (.ref p) (upd H p (.lst (i5 xs lo hi)))
theorem JL:AF X (O9 X.K):=by
 intro b_ s σ H x v m p lo hi sl Q I c hs f g h;obtain⟨a,xs,rfl,hx,q⟩:=h;cases c;obtain⟨d_,r,ht,k⟩:=I.list hx;have l:=r.length;refine⟨"list",_,slot_list_getitem.lookup,ht.isList.typeIs,?_⟩;refine wpAny_getItem_list_slice ht.isList hs f g .none (by simp) ?_ (by rw[YI]<;>omega);rw[w4,←l];refine⟨.ref s.heap.objs.size,_,I.laid (t':=s.toks) (o:=.lst (i5 xs lo hi)) (λb ob q=>Yd _ q) (YG _) ?_,rfl,q _ (I.hok.fresh (YG _))⟩;exact⟨ZX (mK xs lo hi) k,_,0,(r.drop (HT.aV xs.length 0 lo)).take (HT.aV xs.length xs.length hi-HT.aV xs.length 0 lo),Yg _ rfl⟩
def Ci:V->Bool
 |.non=>true
 |.bl _=>true
 |.int _=>true
 |.str _=>true
 |_=>false
def OA:V->V->Bool
 |.non,.non=>true
 |.bl a,.bl b=>a==b
 |.bl a,.int b=>(if a then 1 else 0)==b
 |.int a,.bl b=>a==(if b then 1 else 0)
 |.int a,.int b=>a==b
 |.str a,.str b=>a==b
 |_,_=>false
def D4{A:Around}{x:V}(f:RelV y u)(c:RelV x v)(k:Ci y=true)(g:Ci x=true):SeqAt.EqAt A s u v (OA y x):=by
 cases y with
 |non=>
  cases f;cases x with
  |non=>cases c;exact SeqAt.EqAt.same _
  |bl b=>cases c;exact SeqAt.EqAt.none_bool b
  |int b=>obtain⟨t,rfl⟩:=c;exact SeqAt.EqAt.none_int b t
  |str b=>obtain⟨t,rfl⟩:=c;exact SeqAt.EqAt.none_str b t
  |_=>exact absurd (show false=true from g) YF
 |bl a=>
  cases f;cases x with
  |non=>cases c;exact SeqAt.EqAt.bool_none a
  |bl b=>cases c;exact SeqAt.EqAt.bool_bool a b
  |int b=>obtain⟨t,rfl⟩:=c;exact SeqAt.EqAt.bool_int a b t
  |str b=>obtain⟨t,rfl⟩:=c;exact SeqAt.EqAt.bool_str a b t
  |_=>exact absurd (show false=true from g) YF
 |int a=>
  obtain⟨t',rfl⟩:=f;cases x with
  |non=>cases c;exact SeqAt.EqAt.int_none a t'
  |bl b=>cases c;exact SeqAt.EqAt.int_bool a t' b
  |int b=>obtain⟨t,rfl⟩:=c;exact SeqAt.EqAt.int_int a t' b t
  |str b=>obtain⟨t,rfl⟩:=c;exact SeqAt.EqAt.int_str a t' b t
  |_=>exact absurd (show false=true from g) YF
 |str a=>
  obtain⟨t',rfl⟩:=f;cases x with
  |non=>cases c;exact SeqAt.EqAt.str_none a t'
  |bl b=>cases c;exact SeqAt.EqAt.str_bool a t' b
  |int b=>obtain⟨t,rfl⟩:=c;exact SeqAt.EqAt.str_int a t' b t
  |str b=>obtain⟨t,rfl⟩:=c;exact SeqAt.EqAt.str_str a t' b t
  |_=>exact absurd (show false=true from g) YF
 |_=>exact absurd (show false=true from k) YF
theorem kP:gv X (.builtin "len") (λxs H Q=>∃p c,xs=[.ref p]/\(bQ X.K H p c\/bX X.K H p c)/\Q (.int c.length) H):=by
 intro b_ s σ H xs us Q I r h;obtain⟨p,c,rfl,hq,q⟩:=h;obtain⟨u,rfl,l⟩:=vals1 r;cases l;have hn:=nh;rcases hq with hq | hq
 .obtain⟨d_,f,g,m⟩:=I.list hq
  have k:=f.length;exact Calls.call_len_list g.isList (by simp only[YI]<;>omega) ⟨.int c.length,H,I.tok _,⟨s.toks+1,by rw[YI,k]⟩,q⟩
 .obtain⟨d_,f,g,m⟩:=I.tuple hq
  have k:=f.length;exact len_tuple g (by simp only[YI]<;>omega) ⟨.int c.length,H,I.tok _,⟨s.toks+1,by rw[YI,k]⟩,q⟩
theorem xQ:gv X (.builtin "len") (λxs H Q=>∃z,xs=[.str z]/\z.length<=sizeLine/\Q (.int z.length) H):=by
 intro b_ s σ H xs us Q I r h;obtain⟨z,rfl,c,q⟩:=h;obtain⟨u,rfl,t,rfl⟩:=vals1 r;have hn:=nh;exact len_str 'a' ⟨.int z.length,H,I.tok _,⟨_,rfl⟩,q⟩
theorem pQ:gv X (.type "list") (λxs H Q=>∃p c,xs=[.ref p]/\(bQ X.K H p c\/bX X.K H p c)/\∀l,H l=none->Q (.ref l) (upd H l (.lst c))):=by
 intro b_ s σ H xs us Q I r h;obtain⟨p,c,rfl,hq,q⟩:=h;obtain⟨u,rfl,t⟩:=vals1 r;cases t;have fin:∀(d_:Zd),aq c d_->c.length<=sizeLine->∀(h':Heap) (c':Nat),(∀b o',s.heap.get? b=some o'->h'.get? b=some o') ->
   h'.get? s.heap.objs.size=some { cls:=.type "list",dict:=none,data:=.seq d_.toArray c',slots:=#[] }->EP X b_ σ Q (.ref s.heap.objs.size) { s with heap:=h' }:=λd_ f g h' c' kp e=>
  ⟨.ref s.heap.objs.size,_,I.laid (t':=s.toks) kp (YG _) (show bn X.prog X.w _ h' _ (.lst c) from⟨g,d_,c',f,e⟩),rfl,q _ (I.hok.fresh (YG _))⟩
 rcases hq with hq | hq
 .obtain⟨d_,f,k,g⟩:=I.list hq
  have z:=f.length;obtain⟨o,m,hc,n,hd⟩:=k.isList;exact call_list_seq p (.inl rfl) m hc hd (λh' c' kp e=>fin d_ f g h' c' kp e) (by simp only[YI]<;>omega)
 .obtain⟨d_,f,k,g⟩:=I.tuple hq
  have z:=f.length;obtain⟨o,m,hc,n,hd⟩:=k;exact call_list_seq p (.inr rfl) m hc hd (λh' c' kp e=>fin d_ f g h' c' kp e) (by simp only[YI]<;>omega)
theorem oV:gv X (.type "tuple") (λxs H Q=>∃p c,xs=[.ref p]/\((bQ X.K H p c/\∀l,H l=none->Q (.ref l) (upd H l (.tup c)))\/(bX X.K H p c/\Q (.ref p) H))):=by
 intro b_ s σ H xs us Q I r h;obtain⟨p,c,rfl,h⟩:=h;obtain⟨u,rfl,t⟩:=vals1 r;cases t;rcases h with⟨hq,q⟩ | ⟨hq,q⟩
 .obtain⟨d_,f,g,k⟩:=I.list hq
  have A:=f.length;refine call_tuple_list g.isList (λh' kp=>?_) (by simp only[YI]<;>omega);have m:af X b_ σ H { s with heap:=h' }:=I.kept (t':=s.toks) kp;have z:af X b_ σ (upd H h'.objs.size (.tup c)) { s with heap:=h'.push { cls:=.type "tuple",data:=.seq d_.toArray } }:=
   m.laid (t':=s.toks) (λb o e=>Yd _ e) (YG _) (show bn X.prog X.w _ _ _ (.tup c) from⟨k,d_,f,IsTup.new _ _⟩)
  exact⟨.ref h'.objs.size,_,z,rfl,q _ (m.hok.fresh (YG _))⟩
 .obtain⟨d_,f,g,k⟩:=I.tuple hq
  exact call_tuple_same g ⟨.ref p,H,I,rfl,q⟩
def II(K:Za)(T:String)(x:V)(H:Hp):Prop:=match x with
 |.str _=>T = "str"
 |.int _=>T = "int"
 |.ref p=>(T = "list"/\∃xs,bQ K H p xs)\/(T = "tuple"/\∃o,K.lookup p=some o/\o.cls=.type "tuple"/\o.dict=none) \/
   (T = "dict"/\((∃f_,H p=some (.dK f_)) \/ ∃f_,H p=some (.dT f_)))\/(T = "set"/\∃S n,H p=some (.set S n))
 |_=>False
def D7{T:String}(I:af X b_ σ H s)(r:RelV y v)(ty:II X.K T y H):
  s.TypeIs v T/\∀a,v=.ref a->∃ob,s.heap.get? a=some ob/\ob.dict=none:=by
 cases y with
 |str z=>
  obtain⟨t,rfl⟩:=r;cases(show T = "str" from ty);exact⟨typeIs_str s z t,λ_ e=>nomatch e⟩
 |int i=>
  obtain⟨t,rfl⟩:=r;cases(show T = "int" from ty);exact⟨typeIs_int s i t,λ_ e=>nomatch e⟩
 |ref p=>
  cases r;rcases ty with⟨rfl,xs,hq⟩ | ⟨rfl,o,hk,hc,hd⟩ | ⟨rfl,hk⟩ | ⟨rfl,S,n,hk⟩
  .obtain⟨d_,_,g,_⟩:=I.list hq
   refine⟨g.isList.typeIs,λa e=>?_⟩;cases e;obtain⟨o,n,e,c,hd,_⟩:=g;exact⟨o,e,hd⟩
  .refine⟨⟨o,I.kIn p o hk,hc⟩,λa e=>?_⟩
   cases e;exact⟨o,I.kIn _ o hk,hd⟩
  .have z:∃o,s.heap.get? p=some o/\o.ExactDict:=by
    rcases hk with⟨f_,hk⟩ | ⟨f_,hk⟩
    .obtain⟨_,_,_,_,o,_,_,e,ex,_⟩:=I.hok p _ hk
     exact⟨o,e,ex⟩
    .obtain⟨_,_,_,_,o,_,_,e,ex,_⟩:=I.hok p _ hk
     exact⟨o,e,ex⟩
   obtain⟨o,e,ex⟩:=z;refine⟨⟨o,e,ex.1⟩,λa f=>?_⟩;cases f;exact⟨o,e,ex.2.1⟩
  .obtain⟨o,_,_,_,e,ex,_⟩:=I.hok p _ hk
   refine⟨⟨o,e,ex.1⟩,λa f=>?_⟩;cases f;exact⟨o,e,ex.2.1⟩
 |_=>exact Yh ty
def Pa(K:Za)(T:String)(r:V->List V->Hp->VK->Prop)(f:TE):TE:=λσ H Q=>f σ H λx c=>II K T x c/\r x [] c Q
def Px(K:Za)(T:String)(r:V->List V->Hp->VK->Prop)(f:TE)(t:TA):TE:=λσ H Q=>f σ H λx c=>II K T x c/\t σ c λxs g=>r x xs g Q
variable {o e:Expr}{es:Zg}{to:TE}{t:TA}{name:Str}{r_ D_:Pos}{T id:String}{r:V->List V->Hp->VK->Prop}
def Mf(g:PlainAttrs T)(slot:Slot T name id)(k:typeOf (.builtin id)=pure (.type "method_descriptor"))(hm:D2 X id r)(l:PE X o to)
  (m:attributeBase o name X.env (eval o X.env)=eval o X.env:=by rfl) (p:(r_.endLine==D_.line)=true:=by rfl):PE X (.Call (.Attribute o name r_) [] [] D_) (Pa X.K T r to):=by
 intro b_ s σ H Q I h;refine wpAny_Call_method0_late m p (aK (l b_ s σ H _ I h) λv s1 z=>?_);obtain⟨x,A,c,f,ty,B⟩:=z;obtain⟨h1,C⟩:=D7 c f ty;exact⟨T,id,g,slot,k,h1,C,Calls.callWith_builtin rfl (PySem.evalArgs_none (hm b_ s1 σ A x [] v [] Q c f .nil B))⟩
def Oh(k:PlainAttrs T)(slot:Slot T name id)(l:typeOf (.builtin id)=pure (.type "method_descriptor"))(hm:D2 X id r)(m:PE X o to)(ha:PA X (e::es) t)
  (p:attributeBase o name X.env (eval o X.env)=eval o X.env:=by rfl)
  (z:((backTo D_ (starEach (e::es) X.env)).all (λx=>!x.1)&&(backToKw D_ (keywordEach [] X.env)).all (λx=>x.1.isSome)
   && decide ((e::es).length+([]:List Keyword).length+(if([]:List Keyword).isEmpty then 0 else 1)<30))=true:=by rfl)
  (A:(r_.endLine==D_.line)=true:=by rfl) (hs:starEach (e::es) X.env=(false,eval e X.env)::starEach es X.env:=by rfl) (B:(backTo D_ (starEach es X.env)).any (·.1)=false:=by rfl):
  PE X (.Call (.Attribute o name r_) (e::es) [] D_) (Px X.K T r to t):=by
 intro b_ s σ H Q I h;refine wpAny_Call_method_late p z A rfl (aK (m b_ s σ H _ I h) λv s1 C=>?_);obtain⟨x,E,c,f,ty,G⟩:=C;obtain⟨h1,J⟩:=D7 c f ty;refine⟨T,id,k,slot,l,h1,J,?_⟩;have g:=ha D_ b_ s1 σ E _ c G;rw[hs] at g ⊢;refine Calls.callWith_builtin (by show(false||(backTo D_ (starEach es X.env)).any (·.1))=false;rw[B]<;>rfl) (Calls.evalArgs_plain ?_);refine aK g λus s2 L=>?_
 obtain⟨vs,O,R,S,U⟩:=L;exact hm b_ s2 σ O x vs v us Q R f S U
end
def IJ(X:Cx)(id:String)(r:V->List V->Hp->VK->Prop):Prop:=
 ∀(b_:Zc) (s:Shared) (σ:St) (H:Hp) (x:V) (xs:List V) (v:Value) (us:Zd) (Q:VK),af X b_ σ H s->RelV x v->aq xs us->r x xs H Q ->
  wpAny 'c' X.A (call (.builtin id) (v::us)) (EP X b_ σ Q) X.xe s
theorem aq.one(h:aq [y] d_):∃u,d_=[u]/\RelV y u:=by
 cases h with
 |cons r t=>cases t;exact⟨_,rfl,r⟩
theorem aq.two{x:V}(h:aq [x,y] d_):∃u v,d_=[u,v]/\RelV x u/\RelV y v:=by
 cases h with
 |cons r t=>
  obtain⟨v,rfl,q⟩:=aq.one t;exact⟨_,v,rfl,r,q⟩
theorem aq.zero:∀{us:Zd},aq [] us->us=[]
 |_,.nil=>rfl
theorem aq.dropLast{xs:List V}{us:Zd}(h:aq xs us):aq xs.dropLast us.dropLast:=by
 induction h with
 |nil=>exact .nil
 |cons r t a=>
  cases t with
  |nil=>exact .nil
  |cons q t'=>exact .cons r a
theorem aq.eraseIdx:∀{xs:List V}{us:Zd}(i:Nat),aq xs us->aq (xs.eraseIdx i) (us.eraseIdx i)
 |_,_,_,.nil=>.nil
 |_,_,0,.cons _ t=>t
 |_,_,i+1,.cons r t=>.cons r (aq.eraseIdx i t)
theorem Cj{c:Type}(l:List c):l.eraseIdx (l.length-1)=l.dropLast:=by
 induction l with
 |nil=>rfl
 |cons a r f=>
  cases r with
  |nil=>rfl
  |cons b r=>
   have e:(a::b::r).length-1=((b::r).length-1)+1:=by
    have h1:(a::b::r).length=r.length+2:=rfl;have g:(b::r).length=r.length+1:=rfl;omega
   rw[e,List.eraseIdx_cons_succ,f];all_goals rfl
theorem vW{a:Type}:∀(l:List a) (i:Nat),(l.eraseIdx i).length<=l.length
 |[],_=>YG _
 |_::_,0=>YO _
 |_::r,i+1=>Nat.succ_le_succ (vW r i)
section
variable {X:Cx}{b_:Zc}{σ:St}{H:Hp}{s:Shared}{l b:Addr}{xs ys zs:List V}
theorem af.lset{f:Array Value->Array Value}(I:af X b_ σ H s)(a:H l=some (.lst xs))
  (e:s.heap.get? l=some { cls:=.type "list",data:=.seq d_.toArray n }) (hf:f d_.toArray=o_.toArray) (hv:aq ys o_) (c:ys.length<=sizeLine):
  af X b_ σ (upd H l (.lst ys)) { s with heap:=s.heap.update l (Obj.mapSeq f),toks:=j }:=by
 have q:=PySem.IsL.update e f;rw[hf] at q;refine I.write (x:=l) (e:=l) (by rw[a];exact trivial) (.inl rfl) (λb' u hb hu=>(Heap.get?_update_other s.heap (Obj.mapSeq f) (Ne.symm hb)).trans hu) ⟨_,q⟩ ?_;exact⟨c,o_,_,hv,q⟩
theorem af.lnew{t':Nat}(I:af X b_ σ H s)(hv:aq ys d_)(a:ys.length<=sizeLine):
  af X b_ σ (upd H s.heap.objs.size (.lst ys)) { s with heap:=s.heap.push { cls:=.type "list",data:=.seq d_.toArray },toks:=t' }:=
 I.laid (λ_ _ q=>Yd _ q) (YG _) ⟨a,d_,0,hv,Yg _ rfl⟩
theorem af.fresh(I:af X b_ σ H s):H s.heap.objs.size=none:=I.hok.fresh (YG _)
theorem af.lstM(I:af X b_ σ H s)(a:H l=some (.lst xs)):xs.length<=sizeLine/\∃(d_:Zd) (n:Nat),aq xs d_/\xs.length=d_.length/\s.heap.get? l=some { cls:=.type "list",data:=.seq d_.toArray n }:=by
 obtain⟨z,d_,n,r,e⟩:=I.hok l _ a;exact⟨z,d_,n,r,r.length,e⟩
theorem Ge(h:n<=sizeLine):Builtin.List.listTooLong n=false:=by
 unfold Builtin.List.listTooLong;exact ZQ 'a'
end
section
variable {X:Cx}
def JM:V->List V->Hp->VK->Prop:=λx vs H Q=>∃l xs y,x=.ref l/\vs=[y]/\H l=some (.lst xs)/\xs.length<sizeLine/\Q .non (upd H l (.lst (xs++[y])))
theorem D8:IJ X "list.append" JM:=by
 intro b_ s σ H x vs v us Q I c f h;obtain⟨l,xs,y,rfl,rfl,a,k,q⟩:=h;cases c;obtain⟨u,rfl,g⟩:=f.one;obtain⟨z,d_,n,r,hl,e⟩:=I.lstM a;refine call_meets F.slot_list_append ⟨_,e,rfl⟩ F.entry_list_append (F.args_list_append_2 _ _) (PySem.list_append l d_.toArray n u (by rw[YI];omega)) ⟨e,?_⟩;refine⟨.non,_,I.lset (o_:=d_++[u]) a e (by simp) (r.append (.cons g .nil)) ?_,rfl,q⟩;rw[ZK,XB];omega
def JN:V->List V->Hp->VK->Prop:=λx vs H Q=>∃l b xs a,x=.ref l/\vs=[.ref b]/\H l=some (.lst xs)/\H b=some (.lst a)/\xs.length+a.length<=sizeLine/\Q .non (upd H l (.lst (xs++a)))
theorem D9:IJ X "list.extend" JN:=by
 intro b_ s σ H x vs v us Q I f g h;obtain⟨l,b,xs,C,rfl,rfl,c,k,E,q⟩:=h;cases f;obtain⟨u,rfl,m⟩:=g.one;cases m;obtain⟨z,d_,n,r,hl,e⟩:=I.lstM c;obtain⟨G,a,o,p,t,A⟩:=I.lstM k;have hsz:d_.toArray.size+a.toArray.size<=sizeLine:=by rw[YI,YI];omega
 have B:¬(!d_.toArray.isEmpty&&Builtin.List.listTooLong (d_.toArray.size+a.toArray.size))=true:=by
  rw[Ge hsz,XC];exact YF
 refine call_meets F.slot_list_extend ⟨_,e,rfl⟩ F.entry_list_extend (F.args_list_extend_2 _ _)
  (AutoSeq1.list_extend_list_list_0 l d_.toArray n b a.toArray o B (by rw[YI];omega) 'a') ⟨e,A,?_⟩
 refine⟨.non,_,I.lset (o_:=d_++a) c e (by simp) (r.append p) ?_,rfl,q⟩;rw[ZK];omega
def Pb:V->List V->Hp->VK->Prop:=λx vs H Q=>∃l xs y,x=.ref l/\vs=[]/\H l=some (.lst xs)/\xs[xs.length-1]?=some y/\Q y (upd H l (.lst xs.dropLast))
theorem Mg:IJ X "list.pop" Pb:=by
 intro b_ s σ H x vs v us Q I f g h;obtain⟨l,xs,y,rfl,rfl,c,hy,q⟩:=h;cases f;have k:=g.zero;subst k;obtain⟨z,d_,n,r,hl,e⟩:=I.lstM c;obtain⟨u,hu,m⟩:=r.get hy;have a:d_.toArray[d_.toArray.size-1]?=some u:=by
  show d_.toArray[d_.length-1]?=some u;rw[←XD,←hl];exact hu
 refine call_meets F.slot_list_pop ⟨_,e,rfl⟩ F.entry_list_pop (F.args_list_pop_1 _) (MeetsSeq.list_pop_last l d_.toArray n u a (by rw[YI];omega)) ⟨e,?_⟩;refine⟨y,_,I.lset (o_:=d_.dropLast) c e ?_ r.dropLast ?_,m,q⟩
 .show d_.toArray.eraseIdxIfInBounds (d_.toArray.size-1)=d_.dropLast.toArray
  rw[YI,List.eraseIdxIfInBounds_toArray,Cj]
 .rw[List.length_dropLast]
  omega
def Mh:V->List V->Hp->VK->Prop:=λx vs H Q=>∃l xs i k y,x=.ref l/\vs=[.int i]/\H l=some (.lst xs)/\-(2 ^ 63)<=i/\i<2 ^ 63/\seqIndex? i xs.length=some k/\xs[k]?=some y/\Q y (upd H l (.lst (xs.eraseIdx k)))
theorem Gf:IJ X "list.pop" Mh:=by
 intro b_ s σ H x vs v us Q I c f h;obtain⟨l,xs,i,k,y,rfl,rfl,a,h1,g,hk,hy,q⟩:=h;cases c;obtain⟨u,rfl,m⟩:=f.one;obtain⟨t,rfl⟩:=m;obtain⟨z,d_,n,r,hl,e⟩:=I.lstM a;obtain⟨w,hw,o⟩:=r.get hy;refine call_meets F.slot_list_pop ⟨_,e,rfl⟩ F.entry_list_pop (F.args_list_pop_2 _ _)
  (MeetsSeq.list_pop_at l d_.toArray n i t k w (fitsIndex_both h1 g) (by rw[YI,←hl];exact hk) (by rw[←XD];exact hw) (by rw[YI];omega)) ⟨e,?_⟩
 refine⟨y,_,I.lset (o_:=d_.eraseIdx k) a e ?_ (r.eraseIdx k) ?_,o,q⟩
 .show d_.toArray.eraseIdxIfInBounds k=(d_.eraseIdx k).toArray
  rw[List.eraseIdxIfInBounds_toArray]
 .have:=vW xs k
  omega
def Pc:R2:=λx y H Q=>∃l b xs a,x=.ref l/\y=.ref b/\H l=some (.lst xs)/\H b=some (.lst a)/\xs.length+a.length<=sizeLine/\∀p,H p=none->Q (.ref p) (upd H p (.lst (xs++a)))
theorem Mi:di X (binaryOp .Add) Pc:=by
 intro b_ s σ H x y v u Q I c f h;obtain⟨l,b,xs,A,rfl,rfl,g,k,B,q⟩:=h;cases c;cases f;obtain⟨z,d_,n,r,hl,e⟩:=I.lstM g;obtain⟨C,a,E,m,o,p⟩:=I.lstM k;refine PySem.P.add_list e p ?_ (by rw[YI,YI];omega);have t:d_.toArray++a.toArray=(d_++a).toArray:=by simp
 rw[t];exact⟨.ref _,_,I.lnew (t':=s.toks) (r.append m) (by rw[ZK];omega),rfl,q _ I.fresh⟩
end
section
variable {prog:Zw}{w:World}{A:Around}{E:Zb}{s:Shared}
end
section
variable {κ:Type}[DecidableEq κ]
def fZ(f_:List (κ×V))(k:κ):Option V:=(f_.find? λkv=>decide (kv.1=k)).map (·.2)
def putK(f_:List (κ×V))(k:κ)(v:V):List (κ×V):=
 if(f_.any λkv=>decide (kv.1=k))=true then f_.map (λkv=>if kv.1=k then(kv.1,v) else kv) else f_++[(k,v)]
def sD{p:κ×V}{r:List (κ×V)}{k:κ}(e:p.1=k):fZ (p::r) k=some p.2:=by simp[fZ,XE,e]
def sF{p:κ×V}{r:List (κ×V)}{k:κ}(e:¬p.1=k):fZ (p::r) k=fZ r k:=by simp[fZ,XE,e]
theorem xR(k:κ):∀f_:List (κ×V),(f_.any λkv=>decide (kv.1=k))=(fZ f_ k).isSome
 |[]=>rfl
 |p::r=>by
  rw[XF];by_cases e:p.1=k
  .simp only[sD e,YW e,Bool.true_or,Option.isSome_some]
  .rw[sF e,ZQ e,XG];exact xR k r
theorem rT(f_:List (κ×V))(k:κ)(v:V):(putK f_ k v).length<=f_.length+1:=by
 unfold putK;split
 .rw[ZF];omega
 .rw[ZK,YJ,YV];omega
theorem fY.isSome_eq{o:Option V}{u:Zx}(r:fY o u):o.isSome=u.isSome:=by
 cases o with
 |none=>cases u with
  |none=>rfl
  |some _=>exact(show False from r).elim
 |some _=>cases u with
  |none=>exact(show False from r).elim
  |some _=>rfl
theorem KV.val{f_:List (κ×V)}{vs:List (κ×Value)}(r:KV f_ vs)(k:κ):fY (fZ f_ k) (valueAt vs k):=by
 unfold KV at r;induction r with
 |nil=>exact True.intro
 |@cons p q ps a h t c=>
  obtain⟨h1,f⟩:=h;by_cases e:p.1=k
  .have e':q.1=k:=h1.symm.trans e
   have b:valueAt (q::a) k=some q.2:=by simp[valueAt,XE,e']
   rw[sD e,b];exact f
  .have e':¬q.1=k:=λz=>e (h1.trans z)
   have b:valueAt (q::a) k=valueAt a k:=by simp[valueAt,XE,e']
   rw[sF e,b];exact c
theorem KV.any{f_:List (κ×V)}{vs:List (κ×Value)}(r:KV f_ vs)(k:κ):(f_.any λkv=>decide (kv.1=k))=vs.any λkv=>decide (kv.1=k):=by
 unfold KV at r;induction r with
 |nil=>rfl
 |cons h t a=>rw[XF,XF,a,h.1]
theorem KV.repl{f_:List (κ×V)}{vs:List (κ×Value)}(r:KV f_ vs)(k:κ)(a:RelV y u):
  KV (f_.map λkv=>if kv.1=k then(kv.1,y) else kv) (vs.map λkv=>if kv.1=k then(kv.1,u) else kv):=by
 unfold KV at r ⊢;induction r with
 |nil=>exact .nil
 |@cons p q ps g h t c=>
  rw[YL,YL];refine .cons ?_ c;obtain⟨h1,f⟩:=h;by_cases e:p.1=k
  .rw[if_pos e,if_pos (h1.symm.trans e)];exact⟨h1,a⟩
  .rw[if_neg e,if_neg (λz=>e (h1.trans z))];exact⟨h1,f⟩
theorem KV.put{f_:List (κ×V)}{vs:List (κ×Value)}(r:KV f_ vs)(k:κ)(a:RelV y u):KV (putK f_ k y) (stored vs k u):=by
 unfold putK stored;rw[r.any k];by_cases e:(vs.any λkv=>decide (kv.1=k))=true
 .rw[if_pos e,if_pos e];exact r.repl k a
 .rw[if_neg e,if_neg e];exact Paired.snoc r ⟨rfl,a⟩
theorem KV.keys{f_:List (κ×V)}{vs:List (κ×Value)}(r:KV f_ vs):f_.map (·.1)=vs.map (·.1):=by
 unfold KV at r;induction r with
 |nil=>rfl
 |cons h t a=>rw[YL,YL,a,h.1]
theorem KV.length{f_:List (κ×V)}{vs:List (κ×Value)}(r:KV f_ vs):f_.length=vs.length:=Paired.length r
end
def tE{k:Key}(r:RelV (kV k) u):(bY P w).is k u=true:=by
 cases k with
 |inl i=>obtain⟨t,e⟩:=(show ∃t,u=Value.int i t from r);subst e;exact zU P w i t
 |inr x=>obtain⟨t,e⟩:=(show ∃t,u=Value.str x t from r);subst e;exact zV P w x t
theorem vX{P:Zw}{w:World}:∀{ks:List Key}{us:Zd},aq (ks.map kV) us->ItemsAre (bY P w) ks us
 |[],_,r=>by rw[XA] at r;cases r;exact .nil
 |k::ks,_,r=>by
  rw[YL] at r;cases r with
  |cons h t=>exact .cons (tE h) (vX t)
abbrev KT(H:Hp):List (List Key×V)->List (List Key×Addr×Value)->Prop:=Paired λp q=>p.1=q.1/\H q.2.1=some (.tup (p.1.map kV))/\RelV p.2 q.2.2
theorem KT.val{xs:List (List Key×Addr×Value)}(r:KT H f_ xs)(k:List Key):fY (fZ f_ k) ((atKey xs k).map (·.2)):=by
 induction r with
 |nil=>exact True.intro
 |@cons p q ps a h t c=>
  obtain⟨h1,_,f⟩:=h;by_cases e:p.1=k
  .have e':q.1=k:=h1.symm.trans e
   have b:atKey (q::a) k=some q.2:=by simp[atKey,XE,e']
   rw[sD e,b];exact f
  .have e':¬q.1=k:=λz=>e (h1.trans z)
   have b:atKey (q::a) k=atKey a k:=by simp[atKey,XE,e']
   rw[sF e,b];exact c
theorem KT.repl{xs:List (List Key×Addr×Value)}(r:KT H f_ xs)(k:List Key)(c:RelV y u):
  KT H (f_.map λkv=>if kv.1=k then(kv.1,y) else kv) (xs.map (putAt k u)):=by
 induction r with
 |nil=>exact .nil
 |@cons p q ps l h t f=>
  rw[YL,YL];refine .cons ?_ f;obtain⟨h1,a,g⟩:=h;unfold putAt;by_cases e:p.1=k
  .rw[if_pos e,if_pos (h1.symm.trans e)];exact⟨h1,a,c⟩
  .rw[if_neg e,if_neg (λz=>e (h1.trans z))];exact⟨h1,a,g⟩
theorem KT.put{xs:List (List Key×Addr×Value)}(r:KT H f_ xs)(k:List Key)(hb:H b=some (.tup (k.map kV)))(a:RelV y u):
  KT H (putK f_ k y) (storedH xs k b u):=by
 have e:(f_.any λkv=>decide (kv.1=k))=(atKey xs k).isSome:=by
  rw[xR,(r.val k).isSome_eq,Option.isSome_map]
 unfold putK storedH;rw[e];by_cases q:(atKey xs k).isSome=true
 .rw[if_pos q,if_pos q];exact r.repl k a
 .rw[if_neg q,if_neg q];exact Paired.snoc r ⟨rfl,hb,a⟩
theorem KT.keeps{xs:List (List Key×Addr×Value)}(r:KT H f_ xs)(ht:∀b a,H b=some (.tup a)->H' b=some (.tup a)):KT H' f_ xs:=
 Paired.mapP r λ_ _ z=>⟨z.1,ht _ _ z.2.1,z.2.2⟩
section
variable {P:Zw}{w:World}{H:Hp}{h:Heap}{a:Addr}
def IK(ok:c0 P w H h)(e:Rd H a ob):bn P w H h a ob:=e.ok ok
def lS{f_:List (Key×V)}(ok:c0 P w H h)(e:Rd H a (.dK f_)):f_.length<=sizeLine/\(a==sysModules)=false/\∃vs,KV f_ vs/\h.DictOf (bY P w) a vs:=
 show bn P w H h a (.dK f_) from IK ok e
def Ck{f_:List (Key×V)}(ok:c0 P w H h)(e:H a=some (.dK f_)):f_.length<=sizeLine/\(a==sysModules)=false/\∃vs,KV f_ vs/\h.DictOf (bY P w) a vs:=lS ok (.inl e)
def pR{ks:List Key}(ok:c0 P w H h)(e:H a=some (.tup (ks.map kV))):(tupleKind (bY P w)).is h ks a:=by
 obtain⟨_,d_,r,o,h1,c,n,f⟩:=(show bn P w H h a (.tup (ks.map kV)) from ok a _ e);exact⟨o,d_.toArray,n,h1,c,f,by simpa using vX r⟩
def tF(ok:c0 P w H h)(e:Rd H a (.dT f_)):f_.length<=sizeLine/\(a==sysModules)=false /\
  ∃xs,KT H f_ xs/\h.DictOfH (tupleKind (bY P w)) a xs:=by
 obtain⟨z,y,xs,r,o,es,c,h1,f,g,k,A⟩:=(show bn P w H h a (.dT f_) from IK ok e);refine⟨z,y,xs,r,o,es,c,h1,f,g,k,λx hx=>?_,A⟩;have all:∀{l:List (List Key×V)}{m:List (List Key×Addr×Value)},KT H l m->∀x∈m,(tupleKind (bY P w)).is h x.1 x.2.1:=by
  intro l m q;induction q with
  |nil=>intro x hx;exact nomatch hx
  |@cons p q ps C hq t B=>
   intro x hx;rcases YB.mp hx with e | hx
   .subst e
    exact pR ok (by rw[←hq.1];exact hq.2.1)
   .exact B x hx
 exact all r x hx
def Oi(ok:c0 P w H h)(e:H a=some (.dT f_)):f_.length<=sizeLine/\(a==sysModules)=false /\
  ∃xs,KT H f_ xs/\h.DictOfH (tupleKind (bY P w)) a xs:=tF ok (.inl e)
end
def nV(H:Hp)(a:Addr)(y:V)(r:Option V):Prop:=
 (∃f_ k,Rd H a (.dK f_)/\y=kV k/\r=fZ f_ k) \/ ∃f_ k b,Rd H a (.dT f_)/\y=.ref b/\H b=some (.tup (k.map kV))/\r=fZ f_ k
def Pd(H:Hp)(a:Addr)(y v:V)(H':Hp):Prop:=
 (∃f_ k,H a=some (.dK f_)/\y=kV k/\f_.length<sizeLine/\H'=upd H a (.dK (putK f_ k v))) \/
 ∃f_ k b,H a=some (.dT f_)/\y=.ref b/\H b=some (.tup (k.map kV))/\f_.length<sizeLine/\H'=upd H a (.dT (putK f_ k v))
theorem nV.k{H:Hp}{a:Addr}{f_:List (Key×V)}{k:Key}(e:H a=some (.dK f_)):nV H a (kV k) (fZ f_ k):=.inl ⟨f_,k,.inl e,rfl,rfl⟩
section
variable {X:Cx}{b_:Zc}{σ:St}{H:Hp}{s:Shared}{a:Addr}{y v:V}{u r:Value}{o:Option V}{A:Around}{E:Zb}
theorem af.big(I:af X b_ σ H s):sysModules<s.heap.objs.size:=by
 have h:mainGlobals<s.heap.objs.size:=(I.mod.glob.keeps I.bk).lt;exact Nat.lt_trans 'b' h
def Ea(hu:A.units+1<cLine)(I:af X b_ σ H s)(g:nV H a y (some v))(C:RelV y u)(h:∀c G,af X b_ σ H G->RelV v c->Q c G):
  wpAny 'c' A (getItem (.ref a) u) Q E s:=by
 rcases g with⟨f_,k,e,f,l⟩ | ⟨f_,k,b,e,f,J,l⟩
 .subst f
  obtain⟨z,hd,vs,m,t⟩:=lS I.hok e;obtain⟨c,hw,B⟩:=fY.some_of (v:=v) (o:=valueAt vs k) (by rw[l];exact m.val k);exact wpAny_getItem_of (tE C) t.mapOf hw (h c _ (I.tok _) B)
 .subst f
  cases(show u=Value.ref b from C);obtain⟨z,hd,xs,m,t⟩:=tF I.hok e;obtain⟨c,hw,B⟩:=fY.some_of (v:=v) (o:=(atKey xs k).map (·.2)) (by rw[l];exact m.val k);obtain⟨p,hp,K⟩:=ZO.mp hw;refine wpAny_getItem_heap (tupleKind_room_in1 hu) (pR I.hok J) t hp ?_;rw[K];exact h c _ (I.tok _) B
def Pe(hu:A.units+1<cLine)(I:af X b_ σ H s)(g:nV H a y o)(p:RelV y u)(h:∀t,af X b_ σ H t->Q (.bool o.isSome) t):
  wpAny 'c' A (compareOp .In u (.ref a)) Q E s:=by
 rcases g with⟨f_,k,e,c,l⟩ | ⟨f_,k,b,e,c,B,l⟩
 .subst c
  obtain⟨z,hd,vs,f,m⟩:=lS I.hok e;refine wpAny_in_of (tE p) hd m.mapOf ?_;rw[←(f.val k).isSome_eq,←l];exact h _ (I.tok _)
 .subst c
  cases(show u=Value.ref b from p);obtain⟨z,hd,xs,f,m⟩:=tF I.hok e;refine wpAny_in_heap (tupleKind_room_in1 hu) (pR I.hok B) hd m ?_;have q:=(f.val k).isSome_eq;rw[Option.isSome_map] at q;rw[←q,←l];exact h _ (I.tok _)
def JO(hu:A.units+1<cLine)(I:af X b_ σ H s)(g:nV H a y o)(p:RelV y u)(h:∀t,af X b_ σ H t->Q (.bool (!o.isSome)) t):
  wpAny 'c' A (compareOp .NotIn u (.ref a)) Q E s:=by
 rcases g with⟨f_,k,e,c,l⟩ | ⟨f_,k,b,e,c,B,l⟩
 .subst c
  obtain⟨z,hd,vs,f,m⟩:=lS I.hok e;refine wpAny_notIn_of (tE p) hd m.mapOf ?_;rw[←(f.val k).isSome_eq,←l];exact h _ (I.tok _)
 .subst c
  cases(show u=Value.ref b from p);obtain⟨z,hd,xs,f,m⟩:=tF I.hok e;refine wpAny_notIn_heap (tupleKind_room_in1 hu) (pR I.hok B) hd m ?_;have q:=(f.val k).isSome_eq;rw[Option.isSome_map] at q;rw[←q,←l];exact h _ (I.tok _)
def u9(I:af X b_ σ H s)(mu:Az (H a))(hs:Heap.SameBut a s.heap h')(c:∃q,h'.get? a=some q)(new:bn X.prog X.w (upd H a ob) h' a ob):
  af X b_ σ (upd H a ob) { s with heap:=h',toks:=n }:=
 I.write (x:=a) (e:=a) mu (.inl rfl) (λb q hb z=>(hs.2 b hb).trans z) c new
def Mj{f_:List (Key×V)}{vs:List (Key×Value)}(z:f_.length<=sizeLine)(hd:(a==sysModules)=false)(c:KV f_ vs)(f:h'.DictOf (bY P w) a vs):
  bn P w H' h' a (.dK f_):=⟨z,hd,vs,c,f⟩
theorem Eb{Q:Zo}(hu:A.units+1<cLine)(I:af X b_ σ H s)(g:Pd H a y v H')(G:RelV y u)(J:RelV v r)(h:∀K,af X b_ σ H' K->Q () K):
  wpAny 'c' A (setItem (.ref a) u r) Q E s:=by
 rcases g with⟨f_,k,e,p,l,t⟩ | ⟨f_,k,b,e,p,L,l,t⟩
 .subst p t
  obtain⟨z,hd,vs,f,B⟩:=Ck I.hok e;have C:vs.length<=sizeLine:=by rw[←f.length];exact z
  have hl:(putK f_ k v).length<=sizeLine:=by have:=rT f_ k v;omega
  refine wpAny_setItem_pairs (hsz:=C) (tE G) B λh' m hs=>h _ ?_
  have R:∃q,h'.get? a=some q:=let⟨q,_,_,hq,_⟩:=m;⟨q,hq⟩;exact u9 I (by rw[e];exact True.intro) hs R (Mj hl hd (f.put k J) m)
 .subst p t
  cases(show u=Value.ref b from G);obtain⟨z,hd,xs,f,B⟩:=Oi I.hok e;have C:xs.length<=sizeLine:=by rw[←Paired.length f];exact z
  have hl:(putK f_ k v).length<=sizeLine:=by have:=rT f_ k v;omega
  refine wpAny_setItem_heap (hsz:=C) (tupleKind_room_in1 hu) (pR I.hok L) B λh' m hs=>h _ ?_
  obtain⟨q,es,S,hq,T,U,W,_,Y⟩:=m;refine u9 I (by rw[e];exact True.intro) hs ⟨q,hq⟩ ⟨hl,hd,_,(f.put k L J).keeps λc Z O=>?_,q,es,S,hq,T,U,W,Y⟩;rw[aT (NS O e (λz=>nomatch z))];exact O
end
section
variable {X:Cx}{b_:Zc}{σ:St}{H:Hp}{s:Shared}{a:Addr}{f_:List (Key×V)}{k:Key}{u:Value}{A:Around}{E:Zb}
theorem IL(I:af X b_ σ H s)(e:Rd H a (.dK f_))(h:∀t c,af X b_ σ H c->Q (.int f_.length t) c):wpAny 'c' A (call (.builtin "len") [.ref a]) Q E s:=by
 obtain⟨z,hd,vs,f,g⟩:=lS I.hok e;refine call_len_dict hd g (by rw[←f.length];rw[sizeLine_eq] at z;omega) ?_;rw[←f.length];exact h _ _ (I.tok _)
end
def zW{X:Cx}{o:Option V}(I:af X b_ σ H s)(g:nV H b y o):s.TypeIs (.ref b) "dict":=by
 rcases g with⟨f_,k,e,_,_⟩ | ⟨f_,k,a,e,_,_,_⟩
 .obtain⟨_,_,vs,_,c⟩:=lS I.hok e
  exact c.typeIs
 .obtain⟨_,_,xs,_,c⟩:=tF I.hok e
  exact c.typeIs
def Gg(h:Heap)(hb:sysModules<h.objs.size):bn P w H (h.push { cls:=.type "dict",data:=.dict #[] }) h.objs.size (.dK []):=
 ⟨YN _,ZR.mpr (Ne.symm (ZU hb)),[],.nil,Heap.DictOf.new h⟩
def Ml:TE:=λ_ H Q=>∀p,H p=none->Q (.ref p) (upd H p (.dK []))
section
variable {X:Cx}{pos:Pos}
def Gh:PE X (.Dict [] [] pos) Ml:=λb_ s σ H Q I h=>
 wpAny_Dict_empty ⟨.ref s.heap.objs.size,_,I.laid (a:=s.heap.objs.size) (o:=.dK []) (t':=s.toks) (λ_ _ q=>Yd _ q) (YG _) (Gg s.heap I.big),rfl,h _ (I.hok.fresh (YG _))⟩
end
structure M1 (X:Cx) (o:Expr) (m:Str) (r_:Pos) (e:Expr) (D_:Pos):Prop where
 base:attributeBase o m X.env (eval o X.env)=eval o X.env
 few:((backTo D_ (starEach [e] X.env)).all (λx=>!x.1)&&(backToKw D_ (keywordEach [] X.env)).all (λx=>x.1.isSome)
  && decide (([e]:List Expr).length+([]:List Keyword).length+(if([]:List Keyword).isEmpty then 0 else 1)<30))=true
 line:(r_.endLine==D_.line)=true
 trees:backTo D_ (starEach [e] X.env)=[(false,eval e X.env)]
structure M2 (X:Cx) (o:Expr) (m:Str) (r_:Pos) (e f:Expr) (D_:Pos):Prop where
 base:attributeBase o m X.env (eval o X.env)=eval o X.env
 few:((backTo D_ (starEach [e,f] X.env)).all (λx=>!x.1)&&(backToKw D_ (keywordEach [] X.env)).all (λx=>x.1.isSome)
  && decide (([e,f]:List Expr).length+([]:List Keyword).length+(if([]:List Keyword).isEmpty then 0 else 1)<30))=true
 line:(r_.endLine==D_.line)=true
 trees:backTo D_ (starEach [e,f] X.env)=[(false,eval e X.env),(false,eval f X.env)]
end L2
namespace Att
open PySem PySem.W PySem.Calls PyProof.Rows
variable {n:Nat}{h:Heap}
def tG{P:Params}:∀(ns:Zi) (vs:Zd),WellAll P h vs (ns.map WData.int)->IntsAre vs ns:=by
 intro ns;induction ns with
 |nil=>
  intro vs w;rw[XA] at w;cases w;exact .nil
 |cons n ns c=>
  intro vs w;rw[YL] at w;cases w with
  |cons a b=>
   cases a;exact .cons _ _ (c _ b)
theorem Ec{l:OpenLaw}(hn:l.most=some n){P:Params}{args:List WData}{b:Zd}
  (g:l.row.toRowW.claim.pre args=true) (j:WellAll P h b args):
  ∃a vs ns,b=[Value.ref a]/\args=[WData.list (ns.map WData.int)]/\h.get? a=some { cls:=.type "list",data:=.seq vs.toArray }/\IntsAre vs ns/\ns.length<=n:=by
 have k:WShape.hasAll [] args [.list .int]=true:=(pre_splitW g).1;have hc:l.pre.holds [] { args:=args }=true:=(pre_splitW g).2;obtain⟨d,r,rfl,h1,m⟩:=hasAllW_cons k;obtain rfl:=hasAllW_nil m;obtain⟨xs,rfl,o⟩:=hasW_list h1;obtain⟨ns,rfl⟩:=items_int o;have p:ns.length<=n:=by
  unfold OpenLaw.pre at hc;have c:(WTm.not (.lt (.lit (.int (n:Int))) (.len (.arg 0)))).holds [] { args:=[.list (ns.map .int)] }=true:=by
   have c:=(holds_andW hc).1;rw[hn] at c;exact c
  have f:=condW_of c (w_not (w_lt w_lit (w_len_list (w_arg rfl))));rw[ZF] at f;refine Nat.le_of_not_lt λq=>?_
  have t:(n:Int)<((ns.length:Nat):Int):=by omega
  first
   |(rw[YW t] at f;exact absurd f 'b')
   |(simp at f;omega)
 cases j with
 |cons u y=>
  cases y;cases u with
  |list z A=>exact⟨_,_,ns,rfl,rfl,z,tG ns _ A,p⟩
def Ed(l:OpenLaw)(args:List WData):l.row.toRowW.claim.post args (.bool true) args=true:=
 postW_of (r:=l.row.toRowW) (X:=(true==true))
  (show WShape.has [] (.bool true) .bool=true by first | rfl | decide | simp[WShape.has,WShape.arms,WShape.armsAll])
  (show(WTm.eq .res (.lit (.bool true))).value [] { args:=args,res:=some (.bool true),after:=args }=some (.bool (true==true)) from w_eq_bool (w_res rfl) w_lit) rfl
def zX{l:OpenLaw}{q:Zw}{loose:Zf}{XP:(Str->Option Value)->Heap->Prop}{YP:World->Heap->Prop}{d:DefRec}
  (hn:l.most=some n) (u:d.params.defaults=[])
  (call:∀(w:World) (s₀ b:Shared) (mg mb:Ze) (g:Addr) (o:Obj) (pm j v_:Value) (a:Addr) (vs:Zd) (ns:Zi),
   Ground q loose [] XP w s₀ mg mb b.heap->YP w b.heap ->
   b.heap.get? g=some o->o.data=.func (docDef d.name d.params d.body d.scope pm j v_)->b.heap.CodeRec j d.name->mg d.name=some (.ref g) ->
   b.heap.get? a=some { cls:=.type "list",data:=.seq vs.toArray }->IntsAre vs ns->ns.length<=n->b.gens = #[] ->
   codeAny (model l.prog w) callerA (.call (.ref g) ⟨[.ref a],[]⟩) (λr k=>r=.ok (.ret (.bool true))/\OldK b.heap k.heap/\k.os=b.os/\AllBare k.gens) b):
  WalkO q loose XP YP l.row.toRowW d [] (λf vs=>PySem.call f vs):=by
 intro w s₀ b mg mb G Y g o pm j v_ y kV z hd A m B hg args p as C t E I J;obtain rfl:y=.none:=Dflts.none m u;obtain rfl:kV=.none:=Dflts.noKw m;obtain⟨a,vs,ns,rfl,rfl,K,c,L⟩:=Ec hn C I;refine enter_call (codeAny_mono (call w s₀ b mg mb g o pm j v_ a vs ns G Y z (fd_plain hd) A B K c L hg) λr k hq=>?_);obtain⟨rfl,O,P,R⟩:=hq;exact⟨.inl ⟨.bool true,.bool true,[],rfl,λ_=>rfl,.bool true,Ed l _,λ_=>⟨List.Pairwise.nil,λ_ hm=>(nomatch hm)⟩⟩,O,P,R⟩
section
variable {prog:Zw}{w:World}{A:Around}{E:Zb}{s:Shared}{K:Frag}
end
end Att
namespace L2
open PySem PySem.Spec PyProof.Rows
variable {y i_:Str}{a c:Addr}{own N ps:Zf}{i n:Nat}{scope Qr:Scope}{iter L_ tg:Expr}{ifs:Zg}{env:Env}{tc:TT}{p_ ct pm v_ it oc:Value}{py pos Rb:Pos}{st:Stmt}{fd:Zv}{wi:TI}{g:TG}{te:TE}{X:Cx}{an od:Zm}{P:Zw}{E_:Zn}{mb mg:Ze}{vs:Zd}{K:Za}{sp:Sp}{ex:Zh}{b:String}{H':Hp}{h h':Heap}
theorem vY:∀{vs:Zd}{ns:Zi},IntsAre vs ns->aq (ns.map V.int) vs
 |_,_,.nil=>.nil
 |_,_,.cons n t h=>.cons ⟨t,rfl⟩ (vY h)
def Gi(H:Hp):Prop:=∀b,H b=none \/ ∃o xs,H b=some (.frz o (.lst xs))
def Gj{w:World}{CX:rS}{f:Shared}{ns:Zi}
  (C:K.In f.heap) (E:f.heap.Ns mainGlobals mg) (hb:f.heap.Ns builtinsNs mb) (B:∀y:Str,y ≠ "__name__"->mb y=bootBuiltins y) (O:f.heap.NoLimit) (hg:f.gens = #[])
  (ha:f.heap.get? a=some { cls:=.type "list",data:=.seq vs.toArray }) (hi:IntsAre vs ns) (hl:ns.length<=sizeLine) (hr:ck i callerA)
  (F:∀base:Heap,K.In base->base.Ns mainGlobals mg->fm P w K mg base CX i c fd [y] sp) (R:∀(s:Shared) (u:Value),BindsTo s fd ⟨[u],[]⟩ [(y,u)])
  (S:∀H:Hp,Gi H->bQ K H a (ns.map V.int)->sp [.ref a] H (λv _=>v=.bl true) λ_ _ _=>False)
  (T:∀H e j,CX [] H f 'd' e j->False):
  codeAny (model P w) callerA (.call (.ref c) ⟨[.ref a],[]⟩) (λr j=>r=.ok (.ret (.bool true))/\OldK f.heap j.heap/\j.os=f.os/\AllBare j.gens) f:=by
 have G:=vY hi;have U:=hi.length
 -- from an abstract heap in which nothing but the script may be tracked
 have k:∀H:Hp,Gi H->bQ K H a (ns.map V.int)->c0 P w H f.heap->(∀b,H b≠none->b=a)->(H a≠none->K.lookup a=none) ->
   codeAny (model P w) callerA (.call (.ref c) ⟨[.ref a],[]⟩) (λr j=>r=.ok (.ret (.bool true))/\OldK f.heap j.heap/\j.os=f.os/\AllBare j.gens) f:=by
  intro H I W hok J Y;have L:∀{b:Addr}{o:Obj},f.heap.get? b=some o->H b=none->(nS f.heap H).get? b=some o:=λe n=>FQ e n
  have Z:∀{b:Addr}{o:Obj}{es:Array DictEntry}{l:Nat},f.heap.get? b=some o->o.data=.dict es l->H b=none:=λ{b o es l} e d=>by
   cases q:H b with
   |none=>rfl
   |some u=>
    have e':b=a:=J b (by rw[q];simp);subst e';rw[ha] at e;cases e;have d':Data.seq vs.toArray _=Data.dict es l:=d;cases d'
  have A:∀{b:Addr}{m:Ze},f.heap.Ns b m->(nS f.heap H).Ns b m:=λ{b m} ⟨o,es,l,e,d,r⟩=>⟨o,es,l,L e (Z e d),d,r⟩
  have p:K.In (nS f.heap H):=λb o e=>L (C b o e) (by
   cases q:H b with
   |none=>rfl
   |some u=>
    have e':b=a:=J b (by rw[q];simp);subst e';rw[Y (by rw[q];simp)] at e;cases e)
  have hM:Mod K mg (nS f.heap H):=⟨p,A E,⟨mb,A hb,B⟩,let⟨mc,h1,h2⟩:=O;⟨mc,A h1,h2⟩⟩;have e0:dB P w K mg (nS f.heap H) callerA [] f H:=⟨rfl,hM,λb o e=>Jo e,Nat.le_of_eq (DM _ _),trivial,λb hb=>absurd (show b∈([]:List Addr) from hb) (by simp),hok,.of_eq hg⟩;refine codeAny_mono ((F _ p (A E)).run callerA [] f H ⟨[.ref a],[]⟩ [.ref a] [.ref a] _ _ hr e0 (R f (.ref a)) (.cons rfl .nil) (S H I W)) λr j h=>?_
  cases r with
  |error e=>exact(T H e j h).elim
  |ok fl=>
   cases fl with
   |next=>exact Yh h
   |brk=>exact Yh h
   |cont=>exact Yh h
   |ret u=>
    obtain⟨v,H',os,bare,un,Td,r',q⟩:=h;have q':v=.bl true:=q;subst q';obtain rfl:u=Value.bool true:=r';refine⟨rfl,OldK.of_keep λb o e=>?_,os,bare⟩;cases q:H b with
    |none=>exact un.keep b o e q (by intro z;exact absurd (show b∈([]:List Addr) from z) (by simp)) (by simp)
    |some u=>
     rcases I b with z | ⟨ob,xs,z⟩
     .rw[q] at z;cases z
     .have z2:=un.frzs b ob _ z
      obtain⟨e1,_⟩:=hok b _ z;obtain⟨e2,_⟩:=Td b _ z2;rw[e] at e1;cases e1;exact e2
 cases hk:K.lookup a with
 |some o=>
  -- the script is one of the module's own objects
  have e:=C a o hk;rw[ha] at e;cases e;refine k (λ_=>none) (λ_=>.inl rfl) (.inr ⟨_,vs.toArray,_,hk,rfl,rfl,rfl,by rw[YI,U];exact hl,by simpa using G⟩) (λb u z=>by have t:(none:Option HO)=some u:=z;cases t) (λb z=>absurd rfl z) λz=>absurd rfl z
 |none=>
  refine k (λb=>if b=a then some (.frz { cls:=.type "list",data:=.seq vs.toArray } (.lst (ns.map V.int))) else none) (λb=>?_) (.inl (.inr ⟨{ cls:=.type "list",data:=.seq vs.toArray },if_pos rfl⟩)) (λb u z=>?_) (λb z=>?_) λ_=>hk
  .by_cases hb:b=a
   .exact .inr ⟨_,_,if_pos hb⟩
   .exact .inl (if_neg hb)
  .by_cases hb:b=a
   .have t:=(if_pos hb).symm.trans z
    cases t;subst hb;exact⟨ha,by rw[ZF];exact hl,vs,_,G,ha⟩
   .have t:=(if_neg hb).symm.trans z
    cases t
  .by_cases hb:b=a
   .exact hb
   .exact absurd (if_neg hb) z
def JP{l:PySem.W.OpenLaw}{k:Nat}{XP:(Str->Option Value)->Heap->Prop}{YP:World->Heap->Prop}{d:DefRec}{K:Params->PySem.W.Frag}{CX:World->rS}{sp:World->Sp}{x:Str}
  (hn:l.most=some n) (z:n<=sizeLine) (A:d.params.defaults=[]) (hr:ck k callerA)
  (B:∀(w:World) (h:Heap),YP w h->(K w.params).In h)
  (F:∀(w:World) (mg:Ze) (m:Addr) (h:Heap),(K w.params).In h->h.Ns mainGlobals mg->mg d.name=some (.ref m) ->
   ∃fd:FuncData,(∀(s:Shared) (u:Value),BindsTo s fd ⟨[u],[]⟩ [(x,u)]) /\
    ∀base:Heap,(K w.params).In base->base.Ns mainGlobals mg->fm l.prog w (K w.params) mg base (CX w) k m fd [x] (sp w))
  (C:∀(w:World) (H:Hp) (a:Addr) (ns:Zi),ns.length<=n->Gi H->bQ (K w.params) H a (ns.map V.int)->sp w [.ref a] H (λv _=>v=.bl true) λ_ _ _=>False)
  (E:∀(w:World) (H:Hp) (s:Shared) (e:Value) (p:Shared),CX w [] H s 'd' e p->False):
  PySem.W.WalkO P N XP YP l.row.toRowW d [] (λf vs=>PySem.call f vs):=by
 refine Att.zX hn A λw s₀ I mg mb m o pm U v_ a vs ns G Y Z hd QJ J L j r hg=>?_
 have t:=B w _ Y;obtain⟨fd,hb,O⟩:=F w mg m _ t G.T.g J;exact Gj t G.T.g G.T.b G.T.builtins G.T.nolimit hg L j (ZX r z) hr O hb (λH R S=>C w H a ns r R S) λH e p=>E w H I e p
def inClass(s:Stmt)(j:Nat):Stmt:=match s with
 |.ClassDef _ _ _ body _ _ _ _ _ _ _=>body.getD j (.Pass ⟨0,0,0,0⟩)
 |_=>.Pass ⟨0,0,0,0⟩
def bq(s:Stmt):Arguments:=match s with
 |.FunctionDef _ a _ _ _ _ _ _ _ _=>a
 |_=>{ posonlyargs:=[],args:=[],vararg:=none,kwonlyargs:=[],kw_defaults:=[],kwarg:=none,defaults:=[] }
def aL(s:Stmt):List Stmt:=match s with
 |.FunctionDef _ _ b _ _ _ _ _ _ _=>b
 |_=>[]
def am(s:Stmt):Scope:=match s with
 |.FunctionDef _ _ _ _ _ _ sc _ _ _=>sc
 |_=>{ kind:=.function,names:=[],isGenerator:=false,isCoroutine:=false }
abbrev jZ:rS:=λ_ _ _ _ _ _=>False
abbrev E0:XK:=λ_ _ _=>False
def xt:pP jZ X E0:=λ_ _ _ _ _ _ _ h=>h.elim
structure ni (K:Za) (x i_:Str) (st:Stmt) (f:Addr) (fd:Zv):Prop where
 ex:∃(oc:Value) (od:Zm) (kV v_ pm:Value) (an:Zm) (p_ ct:Value) (E_:Zn),
  fd=PySem.W.fnOf x i_ (bq st) (aL st) (am st) .none kV v_ pm an p_ ct/\K.lookup f=some ⟨oc,od,.func fd,E_⟩/\PySem.W.codeIn K p_ i_=true
 kp:PySem.W.keepIn K (.ref f)=true
section
variable {P:Zw}{w:World}{K:Za}{mg:Ze}{base:Heap}
theorem ni.ok(F:ni K y i_ st c fd)(S:cg N ps (am st))(len:∀vs H Q E,sp vs H Q E->vs.length=ps.length)
  (f:∀(p_:Value) (A:Around) (outer:List Env) (s:Shared) (H:Hp) (vs:List V) (Q:VK) (E:XK),ck i (A.deeper (envOfC i_ (am st) s.heap.objs.size c p_))->sp vs H Q E ->
   ∃t,kN (nT jZ P w K mg base N i_ (am st) c p_ A outer s H E).nox (aL st) t/\t { nx:=λ_ H'=>Q .non H',rt:=Q } (start N vs) H):fm P w K mg base jZ (i+1) c fd ps sp:=by
 obtain⟨oc,od,kV,v_,pm,an,p_,ct,E_,rfl,j,k⟩:=F.ex;refine IH j k S len λA outer s H vs Q E hr l=>?_
 obtain⟨t,h,q⟩:=f p_ A outer s H vs Q E hr l;exact⟨t,h.nox,q⟩
theorem ni.binds(F:ni K y i_ st a fd)
  (h:∀(kV v_ pm:Value) (an:Zm) (p_ ct:Value) (us:Zd),us.length=ps.length->bindArgs (PySem.W.fnOf y i_ (bq st) (aL st) (am st) .none kV v_ pm an p_ ct) ⟨us,[]⟩=pure (ps.zip us)):Binds K fd ps []:=by
 obtain⟨oc,od,kV,v_,pm,an,p_,ct,E_,rfl,f,j⟩:=F.ex;exact .all (h kV v_ pm an p_ ct)
def xS(l:K.lookup a=some ⟨oc,od,.func (PySem.W.fnOf y i_ (bq st) (aL st) (am st) .none it v_ pm an p_ ct),E_⟩)
  (c:PySem.W.codeIn K p_ i_=true) (k:PySem.W.keepIn K (.ref a)=true):ni K y i_ st a (PySem.W.fnOf y i_ (bq st) (aL st) (am st) .none it v_ pm an p_ ct):=⟨⟨oc,od,it,v_,pm,an,p_,ct,E_,rfl,l,c⟩,k⟩
end
def vZ(h:n<=1000):n<sizeLine:=XH h 'b'
section
variable {X:Cx}
def Ee:gv X (.builtin "len") (λxs H Q=>∃a f,xs=[V.ref a]/\H a=some (.dK f)/\Q (.int f.length) H):=by
 intro b_ s σ H xs us Q I r h;obtain⟨a,f,rfl,ha,q⟩:=h;obtain⟨u,rfl,j⟩:=vals1 r;cases j;exact IL I (.inl ha) λt l k=>⟨.int f.length,H,k,⟨t,rfl⟩,q⟩
end
def jz(cells:Zr):List (Str×NameKind)->List (Str×Addr)->List (Str×Addr)
 |[],g_=>g_
 |(n,k)::r,g_=>jz cells r (if k==.free then(n,(cells.lookup n).getD 0)::g_ else g_)
def pS(scope:Scope)(env:Env):List (Str×Addr):=jz env.cells scope.names []
def xa(h:∀x∈scope.names,x.2=.free->∃c,env.cells.lookup x.1=some c):closureFor scope env=pure (pS scope env):=by
 have f:∀(l:List (Str×NameKind)) (g_:Zr),(∀x∈l,x.2=.free->∃c,env.cells.lookup x.1=some c) ->
   (forIn l g_ λ(x:Str×NameKind) (j:Zr)=>
    (if x.2==.free then(do let c ←cellOf env x.1;pure (ForInStep.yield ((x.1,c)::j))) else pure (ForInStep.yield j):Sem (ForInStep (List (Str×Addr)))))=pure (jz env.cells l g_):=by
  intro l;induction l with
  |nil=>intro g_ _;rfl
  |cons x r o=>
   intro g_ hx;obtain⟨n,k⟩:=x;have hr:=o (if k==.free then(n,(env.cells.lookup n).getD 0)::g_ else g_) λy hy=>hx y (YA _ hy)
   rw[List.forIn_cons];by_cases hk:k=.free
   .subst hk
    obtain⟨c,hc⟩:=hx (n,.free) ZZ rfl;have e:cellOf env n=pure c:=by unfold cellOf;rw[hc]
    have m:env.cells.lookup n=some c:=hc;simp only[XI,if_true,m,XJ] at hr;simp only[XI,if_true,e,pure_bind];rw[hr];simp only[jz,XI,if_true,m,XJ]
   .have hb:(k==NameKind.free)=false:=by simpa using hk
    simp only[hb,XM,if_false] at hr;simp only[hb,XM,if_false,pure_bind];rw[hr];simp only[jz,hb,XM,if_false]
 have:=f scope.names [] h
 unfold closureFor pS;simp only[bind_pure];exact this
theorem tH{cells:Zr}:∀{l:List (Str×NameKind)}{g_:Zr}{p:Str×Addr},p∈jz cells l g_->p∈g_\/((p.1,NameKind.free)∈l/\p.2=(cells.lookup p.1).getD 0)
 |[],_,_,h=>.inl h
 |(n,k)::r,g_,p,h=>by
  rcases tH (l:=r) h with q | ⟨q1,q2⟩
  .by_cases hk:k=.free
   .subst hk
    simp only[XI,if_true] at q;rcases YB.mp q with e | q
    .subst e;exact .inr ⟨ZZ,rfl⟩
    .exact .inl q
   .have hb:(k==NameKind.free)=false:=by simpa using hk
    simp only[hb,XM,if_false] at q;exact .inl q
  .exact .inr ⟨YA _ q1,q2⟩
theorem tI{cells:Zr}:∀{l:List (Str×NameKind)}{g_:Zr}{p:Str×Addr},p∈g_->p∈jz cells l g_
 |[],_,_,h=>h
 |(n,k)::r,g_,p,h=>by
  refine tI (l:=r) ?_;split
  .exact YA _ h
  .exact h
theorem tJ{cells:Zr}:∀{l:List (Str×NameKind)}{g_:Zr}{n:Str},(n,NameKind.free)∈l->∃c,(n,c)∈jz cells l g_
 |(m,k)::r,g_,n,h=>by
  rcases YB.mp h with e | h
  .cases e
   exact⟨_,tI (l:=r) (by simp only[XI,if_true];exact ZZ)⟩
  .exact tJ (l:=r) h
theorem jA{f:Type}:∀{l:List (Str×f)}{n:Str}{c:f},(n,c)∈l->∃d,l.lookup n=some d
 |(m,d)::r,n,c,h=>by
  rcases YB.mp h with e | h
  .cases e;exact⟨d,by simp[XN]⟩
  .cases hb:n==m with
   |true=>exact⟨d,by simp[XN,hb]⟩
   |false=>
    obtain⟨d',e⟩:=jA (l:=r) h;exact⟨d',by simp[XN,hb,e]⟩
def jB(h:∀x∈scope.names,x.2=.free->∃c,env.cells.lookup x.1=some c)(e:(pS scope env).lookup y=some c):env.cells.lookup y=some c:=by
 have m:=PySem.mem_of_lookup e;rcases tH m with z | ⟨z1,z2⟩
 .cases z
 .obtain⟨c',k⟩:=h _ z1 rfl
  have j:env.cells.lookup y=some c':=k;have f:c=(env.cells.lookup y).getD 0:=z2;rw[j] at f;rw[j,f];rfl
def Ef(h:∀x∈scope.names,x.2=.free->∃c,env.cells.lookup x.1=some c)(hy:(y,NameKind.free)∈scope.names)(e:env.cells.lookup y=some c):
  (pS scope env).lookup y=some c:=by
 obtain⟨c',m⟩:=tJ (cells:=env.cells) (g_:=[]) hy;obtain⟨d,q⟩:=jA m;have f:(pS scope env).lookup y=some d:=q
 have:=jB h f
 rw[e] at this;rw[f,←this]
theorem fJ{env:Env}:∀{names:List (Str×NameKind)}{x:Str},
  (names.map λ(n,k)=>if(k==NameKind.free&&env.scope.kind==.function&&env.kindOf n==some .cell) then(n,NameKind.cell) else(n,k)).lookup x =
   (names.lookup x).map λk=>if(k==NameKind.free&&env.scope.kind==.function&&env.kindOf x==some .cell) then NameKind.cell else k
 |[],_=>rfl
 |(n,k)::r,x=>by
  have f:=@fJ env r x;show List.lookup x ((if(k==NameKind.free&&env.scope.kind==.function&&env.kindOf n==some .cell)=true then(n,NameKind.cell) else(n,k))::_)=_;cases hx:x==n with
  |true=>
   have e:x=n:=by simpa using hx
   subst e;by_cases hc:(k==NameKind.free&&env.scope.kind==.function&&env.kindOf x==some .cell)=true
   .rw[if_pos hc];simp only[XN,XI,Option.map_some];rw[if_pos hc]
   .rw[if_neg hc];simp only[XN,XI,Option.map_some];rw[if_neg hc]
  |false=>
   by_cases hc:(k==NameKind.free&&env.scope.kind==.function&&env.kindOf n==some .cell)=true
   .rw[if_pos hc];simp only[XN,hx];exact f
   .rw[if_neg hc];simp only[XN,hx];exact f
structure gT (Qr scope:Scope) (N own N2:Zf):Prop where
 kind:scope.kind=.function
 nocell:∀y∈scope.names,y.2≠.cell
 names:∀y∈scope.names,y.2=.local->scope.names.lookup y.1=some .local
 free:∀y∈scope.names,y.2=.free->(Qr.names.lookup y.1=some .cell\/Qr.names.lookup y.1=some .free)
 len:N2.length=N.length
 vis:∀p∈N2.zip N,(scope.names.lookup p.1=some .free->p.1=p.2)/\scope.names.lookup p.1≠some .local
def dP(X:Cx)(scope:Scope)(own N2:Zf)(C:Addr)(s:Shared)(H:Hp)(ex:Zh)(pn:Zc):Cx where
 prog:=X.prog
 w:=X.w
 K:=X.K
 mg:=X.mg
 base:=X.base
 A:=X.A
 N:=N2++own
 s₀:=s
 H₀:=H
 env:=compEnvC scope (pS scope X.env) C X.env
 outer:=X.stack
 stack:=X.stack
 ex:=ex
 calm:=X.calm
 fn:=λ_=>false
 pn:=pn
 xe:=λ_ _=>False
theorem Un.track{fs:Zh}{H:Hp}{o:HO}(u:Un fs ex H H' h h')(hp:h.objs.size<=a)(hn:H a=none):Un fs ex H (upd H' a o) h h' where
 keep:=u.keep
 slot:=u.slot
 free:=λb f q n hx=>by rw[aT (ZU (ZS (Ye q) hp))];exact u.free b f q n hx
 there:=u.there
 tups:=λb xs q=>by rw[aT (bD q hn)];exact u.tups b xs q
 frzs:=λb f xs q=>by rw[aT (bD q hn)];exact u.frzs b f xs q
 tbls:=λb ps q=>by rw[aT (bD q hn)];exact u.tbls b ps q
def Eg(X:Cx)(ifs:Zg)(t:TT):Prop:=
 ∀(b_:Zc) (s:Shared) (σ:St) (H:Hp) (Q:Bool->Hp->Prop),af X b_ σ H s->t σ H Q ->
  wpAny 'c' X.A (forIn ifs true λc r=>if r=true then do let ok ←isTrue c X.env (eval c X.env);pure (ForInStep.yield ok) else pure (ForInStep.yield r)) (TP X b_ σ Q) X.xe s
def Pf:TT:=λ_ H Q=>Q true H
def JQ:Eg X [] Pf:=λ_ _ _ H _ I h=>wpAny_tests_nil ⟨H,I,h⟩
def JR(h:PT X L_ tc):Eg X [L_] tc:=λb_ s σ H Q I q=>wpAny_tests_one (h b_ s σ H Q I q)
def xu(J:It)(g:TG)(tc:TT)(te:TE)(Fin:List V->Hp->Prop)(σ0:St)(r:Hp):Prop:=
 ∃W:Nat->Nat->List V->St->Hp->Prop,(∃m,W 0 m [] σ0 r)/\∀i m f σ H,W i m f σ H ->
  (J.stop i H/\Fin f H)\/(J.go i H/\f.length<sizeLine/\∃N:List V->St->Hp->Prop,(∀k l H',N k l H'->∃o,o<m/\W (i+1) o k l H') /\
   ∀x H',J.yld i H x H'->g x σ H' λj t=>tc j t λb p=>if b=true then te j p (λy u=>N (f++[y]) j u) else N f j p)
section
variable {prog:Zw}{w:World}{A:Around}{R:Result->Shared->Prop}{s:Shared}
def rH(I:Nat->Shared->Prop)
  (f:∀n s,I n s->wpAny 'f' A (pyNext it) (λr j=>match r with
   |none=>R (.ok .next) j
   |some v=>wpAny 'f' A (letOwnedTupleGo tg it v) (λ_ l=>wpAny 'f' A (assign tg env v) (λ_ o=>
     wpAny 'f' A (forIn ifs true λc r=>if r=true then do let ok ←isTrue c env (eval c env);pure (ForInStep.yield ok) else pure (ForInStep.yield r)) (λok k=>
      if ok=true then wpAny 'f' A (eval L_ env) (λx p=>
       wpAny 'f' A (call (.builtin "list.append") [p_,x]) (λ_ t=>∃m,m<n/\I m t) (λ_ _=>False) p) (λ_ _=>False) k
      else ∃m,m<n/\I m k) (λ_ _=>False) o) (λ_ _=>False) l) (λ_ _=>False) j) (λ_ _=>False) s)
  (n:Nat) (h:I n s):
  codeAny 'f' A (.compLoop (.ListComp L_ [⟨tg,iter,ifs,0⟩] scope pos) 0 it p_ env) R s:=by
 refine codeAny_loop rfl I (λn s B=>?_) n h;show wpAny _ A ((compTurn (.ListComp L_ [⟨tg,iter,ifs,0⟩] scope pos) 0 it p_ env).onRaise (λx=>do noteFrame x env;theTreesLotGoes x)) _ _ s;refine wpAny_noted (wpAny_noRaise ?_);rw[compTurn_list];refine Yb (Yk (Yb (wpAny_mono (f n s B) (λr j u=>?_) λ_ _ h'=>h')));cases r with
 |none=>exact Yc u
 |some v=>
  refine Yb (wpAny_mono u (λ_ l C=>?_) λ_ _ h'=>h');refine Yb (wpAny_mono C (λ_ o E=>Yb (wpAny_mono E (λok k z=>?_) λ_ _ h'=>h')) λ_ _ h'=>h');cases ok with
  |false=>exact Yc ⟨rfl,z⟩
  |true=>
   exact Yb (Yb (wpAny_mono z (λx p G=>Yb (wpAny_mono G (λ_ t J=>Yc (Yc ⟨rfl,J⟩)) λ_ _ h'=>h')) λ_ _ h'=>h'))
end
section
variable {X:Cx}{b_:Zc}{σ:St}{H:Hp}{s:Shared}
theorem v8{use:Option (Value->Sem Unit)}{QQ:Zb}{Fin:List V->Hp->Prop}
  (E:gT Qr scope N own ps) (ho:X.env.scope=Qr) (hN:X.N=N) (hc:X.calm=true) (hi:PI X tg iter wi)
  (hg:∀C s H ex pn,PG (dP X scope own ps C s H ex pn) tg g) (ht:∀C s H ex pn,Eg (dP X scope own ps C s H ex pn) ifs tc) (he:∀C s H ex pn,PE (dP X scope own ps C s H ex pn) L_ te)
  (I:af X b_ σ H s) (h:wi σ H λJ H1=>xu J g tc te Fin (σ++List.replicate own.length none) H1)
  (fin:∀(D C:Addr) (t:List V) (H':Hp) (R:Shared) (m:Ze),Fin t H'->H' D=none->af X b_ σ (upd H' D (.lst t)) R->R.heap.Ns C m->pN X b_ (upd H' D (.lst t)) C ->
   compPost 'c' X.A X.xe use QQ (.ref D) C (.ok .next) R)
  (hs:∀x,foldedSetIterable iter X.env x=pure x):
  wpAny 'c' X.A (comprehension (.ListComp L_ [⟨tg,iter,ifs,0⟩] scope pos) scope X.env py (newList []) false (eval iter X.env) use) QQ X.xe s:=by
 subst ho hN;have O:∀x∈scope.names,x.2=.free->∃c,X.env.cells.lookup x.1=some c:=λx hx hf=>I.ok.has x.1 (E.free x hx hf)
 refine wpAny_comprehension_free (use:=use) rfl hs (xa O) E.kind E.names (aK (hi b_ s σ H _ I h) λv s1 h1=>aK h1 λV8 s2 h2=>?_);obtain⟨it,fp,tn,J,S,e,f,T,Q3,Y,W,⟨m0,w0⟩,ac⟩:=h2;subst e;refine wpAny_newObj_type (wpAny_newFunctionEnv E.nocell (by intro y hy;simp at hy) (λQN QO Qs=>?_) E.kind);dsimp only at QO Qs ⊢;generalize hG:s2.heap.push { cls:=.type "list",dict:=none,data:=.seq ([]:List Value).toArray }=G at QO Qs ⊢;have hC:G.objs.size=s2.heap.objs.size+1:=by rw[←hG,Heap.size_push]
 have VJ:s2.heap.objs.size≠G.objs.size:=by rw[hC];exact ZU (YM _)
 have Te:s2.heap.objs.size<=G.objs.size:=by rw[hC];exact YO _
 have j:∀b,b<s2.heap.objs.size->b≠G.objs.size/\b≠s2.heap.objs.size:=λb hb=>⟨by rw[hC];exact ZU (Nat.lt_succ_of_lt hb),ZU hb⟩
 have B:∀b o,s2.heap.get? b=some o->QN.get? b=some o:=λb o e=>Qs.extBut b o (j b (Ye e)).1 (Yd _ (hG▸Yd _ e))
 have A_:QN.get? s2.heap.objs.size=some (LCg.lst []):=Qs.extBut _ _ VJ (Yd _ (hG▸Yg _ rfl));have Sd:∀b∈fp,b<s2.heap.objs.size:=λb hb=>let⟨o,e,_⟩:=T.obj 0 _ Q3 b hb;Ye e
 have al:S s2.heap.objs.size=none:=f.hok.fresh (YG _);have bb:S G.objs.size=none:=f.hok.fresh Te;have Tf:∀x c,X.env.cells.lookup x=some c->c<s2.heap.objs.size:=λx c e=>let⟨v,z⟩:=f.cell x c e;z.lt
 have UI:∀p∈X.pn++b_,p.1<s2.heap.objs.size:=λp hp=>Ye (f.pin p hp).1
 -- the block's context
 generalize hX:dP X scope own ps G.objs.size s2 S fp (X.pn++b_)=l;have Td:l.Ok:=by
  subst hX;refine⟨f.ok.mod,E.kind,f.ok.glob,f.ok.blt,Te,λx y c e1 e2=>f.ok.inj x y c (jB O e1) (jB O e2),λx hx=>?_,λx c hf=>?_,f.ok.hd,f.ok.frames,.inl rfl,λb hb=>?_,f.bs,
   ZX f.ok.bsz f.sz,λb o e hb=>?_,λb hb L=>?_,f.stack,f.stkFree⟩
  .have Se:(relabel scope X.env).names.lookup x=some .cell\/(relabel scope X.env).names.lookup x=some .free:=hx
   unfold relabel at Se;dsimp only at Se;rw[fJ] at Se;have hm:∃k,scope.names.lookup x=some k:=by
    cases q:scope.names.lookup x with
    |none=>rw[q] at Se;rcases Se with z | z<;>cases z
    |some k=>exact⟨k,rfl⟩
   obtain⟨k,hk⟩:=hm;have Qt:=PySem.mem_of_lookup hk;have be:k=.free:=by
    rw[hk] at Se;cases k with
    |free=>rfl
    |cell=>exact absurd rfl (E.nocell _ Qt)
    |_=>rcases Se with z | z<;>cases z
   subst be;obtain⟨c,hc⟩:=O _ Qt rfl;exact⟨c,Ef O Qt hc⟩
  .cases hf
  .obtain⟨_,f1,ff,fx,fc,ap⟩:=Y b hb
   exact⟨(j b (Sd b hb)).1,λx c e=>fc x c (jB O e)⟩
  .obtain⟨_,_,_,fx,_,_⟩:=Y b hb
   rcases fx with z | z
   .exact f.ok.noex b o e z
   .exact absurd (ZS (Ye e) (ZX f.ok.bsz z)) (ZT _)
  .obtain⟨_,f1,ff,_⟩:=Y b hb
   rcases YB.mp (f.stkSub b L) with z | z
   .exact f1 z
   .exact ff z
 have I0:af l [(s2.heap.objs.size,LCg.lst [])] (σ++List.replicate own.length none) S { s2 with heap:=QN,toks:=s2.toks+([]:List (Str×Value)).length }:=by
  subst hX;refine⟨Td,rfl,f.bare,Un.kept B,⟨_,QO,λi x v e1 e2 e3=>?_⟩,λx c e=>?_,bb,λx c e=>f.freeC x c (jB O e),λp hp=>?_,f.hok.kept B,?_⟩
  .have e1:(ps++own)[i]?=some x:=e1
   have TY:i<σ.length:=by
    by_cases TY:i<σ.length
    .exact TY
    .rw[ZH 'a',List.getElem?_replicate] at e2
     split at e2<;>cases e2
   rw[ZE TY] at e2;have j_:ps.length=σ.length:=E.len.trans f.len.symm;rw[ZE 'a'] at e1;have a0:i<X.N.length:=by rw[←f.len];exact TY
   have L:(x,X.N[i])∈ps.zip X.N:=by
    refine YU (i:=i) ?_;rw[List.getElem?_zip_eq_some];exact⟨e1,ZD a0⟩
   obtain⟨v1,v2⟩:=E.vis _ L;have Tg:xH (relabel scope X.env) x:=e3;have W0:scope.names.lookup x=some .free:=by
    unfold xH relabel at Tg;dsimp only at Tg;rw[fJ] at Tg;cases q:scope.names.lookup x with
    |none=>rw[q] at Tg;rcases Tg with z | z | z<;>cases z
    |some k=>
     rw[q] at Tg;cases k with
     |free=>rfl
     |cell=>exact absurd rfl (E.nocell _ (PySem.mem_of_lookup q))
     |«local»=>exact absurd q v2
     |_=>rcases Tg with z | z | z<;>cases z
   have Qt:=PySem.mem_of_lookup W0;have ex:x=X.N[i]:=v1 W0;have bL:X.N[i]?=some x:=by rw[ex];exact ZD a0
   have a1:=E.free _ Qt rfl;obtain⟨m,hn,hl⟩:=f.loc;obtain⟨u,ru,lk⟩:=hl i x v bL e2 (.inr a1);refine⟨u,ru,?_⟩;rcases lk with⟨k,_⟩ | ⟨k,c,ec,z⟩
   .have k':X.env.scope.names.lookup x=some .local:=k
    rcases a1 with q | q<;>(have q':X.env.scope.names.lookup x=_:=q;rw[k'] at q';cases q')
   .refine .inr ⟨?_,c,Ef O Qt ec,?_⟩
    .show(relabel scope X.env).names.lookup x=some .cell\/(relabel scope X.env).names.lookup x=some .free
     unfold relabel;dsimp only;rw[fJ,W0];show some (if _ then NameKind.cell else NameKind.free)=_\/some (if _ then NameKind.cell else NameKind.free)=_;split
     .exact .inl rfl
     .exact .inr rfl
    .obtain⟨o,eo,d⟩:=z
     exact⟨o,B _ _ eo,d⟩
  .obtain⟨v,o,eo,d⟩:=f.cell x c (jB O e)
   exact⟨v,o,B _ _ eo,d⟩
  .have hp:p∈(X.pn++b_)++[(s2.heap.objs.size,LCg.lst [])]:=hp
   rcases YC.mp hp with hp | hp
   .obtain⟨e,n,nl,nf,d⟩:=f.pin p hp
    refine⟨B _ _ e,n,(j _ (Ye e)).1,λL=>?_,d⟩;rcases YB.mp (f.stkSub p.1 L) with z | z
    .exact nl z
    .exact nf z
   .have e:p=(s2.heap.objs.size,LCg.lst []):=by simpa using hp
    subst e;refine⟨A_,al,VJ,λL=>?_,λv z=>by cases z⟩;rcases YB.mp (f.stkSub _ L) with z | z
    .exact absurd f.lt (by rw[←z];exact ZT _)
    .exact f.nofs (YG _) z
  .show(σ++List.replicate own.length none).length=(ps++own).length
   rw[ZK,ZK,List.length_replicate,E.len,f.len]
 have QK:∀{H':Hp}{us:Zd},(∀b∈fp,H' b=none)->∀b∈fp,pN l [(s2.heap.objs.size,LCg.lst us)] H' b:=λ{H' us} hn b hb=>by
  subst hX;obtain⟨_,f1,ff,fx,fc,ap⟩:=Y b hb;refine⟨hn b hb,(j b (Sd b hb)).1,λL=>?_,.inl hb,λx c e=>fc x c (jB O e),λp hp z=>?_⟩
  .rcases YB.mp (f.stkSub b L) with z | z
   .exact f1 z
   .exact ff z
  .have hp:p∈(X.pn++b_)++[(s2.heap.objs.size,LCg.lst us)]:=hp
   rcases YC.mp hp with hp | hp
   .exact ap p hp z
   .have e:p=(s2.heap.objs.size,LCg.lst us):=by simpa using hp
    subst e;exact(j b (Sd b hb)).2 z.symm
 have eP:l.prog=X.prog:=by subst hX;rfl
 have eW:l.w=X.w:=by subst hX;rfl
 have eK:l.K=X.K:=by subst hX;rfl
 have eA:l.A=X.A:=by subst hX;rfl
 have eE:l.env=compEnvC scope (pS scope X.env) G.objs.size X.env:=by subst hX;rfl
 have eX:l.xe=λ_ _=>False:=by subst hX;rfl
 have eC:l.calm=true:=by subst hX;exact hc
 have eS:l.s₀=s2:=by subst hX;rfl
 have eH:l.H₀=S:=by subst hX;rfl
 have eF:l.fs=nc X.stack:=by subst hX;rfl
 have b1:l.ex=fp:=by subst hX;rfl
 have eN:l.pn=X.pn++b_:=by subst hX;rfl
 have a2:=hg G.objs.size s2 S fp (X.pn++b_);have VL:=ht G.objs.size s2 S fp (X.pn++b_);have a3:=he G.objs.size s2 S fp (X.pn++b_);rw[hX] at a2 VL a3;have aa:∀QM:Shared,QM={ s2 with heap:=QN,toks:=s2.toks+([]:List (Str×Value)).length } ->
   codeAny 'c' X.A (.compLoop (.ListComp L_ [⟨tg,iter,ifs,0⟩] scope pos) 0 (.ref it) (.ref s2.heap.objs.size) (compEnvC scope (pS scope X.env) G.objs.size X.env))
    (compPost 'c' X.A X.xe use QQ (.ref s2.heap.objs.size) G.objs.size) QM:=by
  rintro QM rfl;refine rH (λn R=>∃i t us j' H',af l [(s2.heap.objs.size,LCg.lst us)] j' H' R/\tn i R.heap/\(∀b∈fp,H' b=none)/\aq t us/\t.length<=sizeLine/\W i n t j' H') ?_ m0
   ⟨0,[],[],_,S,I0,T.keep 0 _ _ Q3 λb _ o e=>B b o e,λb hb=>(Y b hb).1,.nil,YN _,w0⟩
  rintro n s3 ⟨i,t,us,Qd,U,I3,TR,Uq,hv,L,w3⟩;rcases ac i n t Qd U w3 with⟨stop,qn⟩ | ⟨go,P8,NN,a4,step⟩
  .have dn:=T.done l eP eW eK eC i _ s3 Qd U (λ_ _=>False) I3 (QK Uq) TR stop
   rw[eA] at dn;refine aK dn λr s4 Qc=>?_
   obtain⟨hr,I4⟩:=Qc;subst hr;have pD:=I4.pin (s2.heap.objs.size,LCg.lst us) (YH _ ZZ);have W2:U s2.heap.objs.size=none:=pD.2.1;have b2:U G.objs.size=none:=by have:=I4.free;rw[eE] at this;exact this
   have un:Un (nc X.stack) fp S U s2.heap s4.heap:=by have:=I4.base;rw[eF,b1,eH,eS] at this;exact this
   have b3:c0 X.prog X.w U s4.heap:=by have:=I4.hok;rw[eP,eW] at this;exact this
   have W3:c0 X.prog X.w (upd U s2.heap.objs.size (.lst t)) s4.heap:=λb u e=>by
    by_cases hb:b=s2.heap.objs.size
    .subst hb
     rw[aI] at e;cases e;exact⟨L,us,us.length,hv,pD.1⟩
    .rw[aT hb] at e
     refine(b3 b u e).stay (λc v _ q=>q) (λc q=>?_) λc xs q=>?_
     .rw[aT (bD q W2)];exact q
     .rw[aT (bD q W2)];exact q
   have b4:s4.os=s2.os:=by have:=I4.os;rw[eS] at this;exact this
   have I5:af X b_ σ (upd U s2.heap.objs.size (.lst t)) s4:=f.call' b4 (un.track (YG _) al) W3 I4.bare λb hb=>⟨(Y b hb).2.2.2.1,(Y b hb).2.1,(Y b hb).2.2.2.2.1,(Y b hb).2.2.2.2.2⟩
   obtain⟨m,hn,_⟩:=I4.loc;rw[eE] at hn;exact fin _ _ t U s4 m qn W2 I5 hn (f.fpOk Te (by rw[aT (Ne.symm VJ)];exact b2))
  .have ba:=T.item l eP eW eK eC i _ s3 Qd U (λ_ _=>False) I3 (QK Uq) TR go
   rw[eA] at ba;refine aK ba λr s4 Qq=>?_
   obtain⟨u,hr,h4⟩:=Qq;subst hr;refine aK h4 λ_ s5 Q_=>?_
   obtain⟨x,H5,I5,r5,y5,S2,We⟩:=Q_;have Wf:=I5.pinned (QK We) (T.obj _ _ S2);have a5:=a2 _ s5 Qd H5 x u _ Wf r5 (step x H5 y5);rw[eP,eW,eA,eE,eX] at a5;refine aK a5 λ_ s6 Ra=>?_
   obtain⟨Z,H6,I6,q6⟩:=Ra;have a6:=VL _ s6 Z H6 _ I6 q6;rw[eP,eW,eA,eE,eX] at a6;refine aK a6 λok s7 QC=>?_
   obtain⟨H7,I7,q7⟩:=QC;have Q6:∀{j':St}{H':Hp}{R:Shared}{Th:Zd},af l ([(s2.heap.objs.size,LCg.lst Th)]++jy fp s5.heap) j' H' R->tn (i+1) R.heap/\∀b∈fp,H' b=none:=λ{j' H' R Th} J'=>by
    refine⟨T.keep _ _ _ S2 λb hb o e=>(J'.pin (b,o) (YH _ (YH _ (km hb e)))).1,λb hb=>?_⟩;obtain⟨o,e,d⟩:=T.obj _ _ S2 b hb;exact(J'.pin (b,o) (YH _ (YH _ (km hb e)))).2.1
   cases ok with
   |false=>
    obtain⟨m',hm,w7⟩:=a4 _ _ _ (by simpa using q7);exact⟨m',hm,i+1,t,us,Z,H7,I7.unpinned,(Q6 I7).1,(Q6 I7).2,hv,L,w7⟩
   |true=>
    have q7:te Z H7 (λy H4=>NN (t++[y]) Z H4):=by simpa using q7
    have a7:=a3 _ s7 Z H7 _ I7 q7;rw[eP,eW,eA,eE,eX] at a7;refine aK a7 λuy s8 RL=>?_
    obtain⟨y,H8,I8,r8,q8⟩:=RL;have pD:=I8.pin (s2.heap.objs.size,LCg.lst us) (YH _ (List.mem_append_left _ ZZ));have b9:us.length=t.length:=hv.length.symm;refine append_at (hsz:=by rw[YI];omega) pD.1 λh9 b5 b6=>?_
    obtain⟨m',hm,w8⟩:=a4 _ _ _ q8;have b7:af l (jy fp s5.heap) Z H8 s8:=I8.pins_of λp hp=>I8.pin p (YH _ (YH _ hp))
    have I9:af l (jy fp s5.heap) Z H8 { s8 with heap:=h9 }:=b7.turned (t':=s8.toks) (it:=s2.heap.objs.size) (λb o hb e=>(b5.2 b hb).trans e) pD.2.1 (by rw[eE];exact VJ) (.inr (by rw[eS];exact YG _))
     (λx c e=>by
      rw[eE] at e;exact ZU (Tf x c (jB O e)))
     (λp hp=>by
      rw[eN] at hp;rcases YC.mp hp with z | z
      .exact ZU (UI p z)
      .exact ZU (Sd _ (vR z).1))
    have W4:af l ([(s2.heap.objs.size,LCg.lst (us++[uy]))]++jy fp s5.heap) Z H8 { s8 with heap:=h9 }:=I9.pins_of λp hp=>by
     rcases YC.mp hp with z | z
     .have e:p=(s2.heap.objs.size,LCg.lst (us++[uy])):=by simpa using z
      subst e;exact⟨b6.trans (congrArg some (LCg.lst_snoc us uy)),pD.2.1,pD.2.2.1,pD.2.2.2.1,λv z=>by cases z⟩
     .exact I9.pin p (YH _ z)
    exact⟨m',hm,i+1,t++[y],us++[uy],Z,H8,W4.unpinned,(Q6 W4).1,(Q6 W4).2,hv.append (.cons r8 .nil),by rw[ZK,XB];omega,w8⟩
 exact codeAny_compStart_list (aa _ rfl) (T.self X.A 0 _ _ _ (T.keep 0 _ _ Q3 λb _ o e=>B b o e) (aa _ rfl))
def Oj(k:Nat)(wi:TI)(g:TG)(tc:TT)(te:TE):TE:=λσ H Q=>wi σ H λJ f=>xu J g tc te (λj H'=>∀p,H' p=none->Q (.ref p) (upd H' p (.lst j))) (σ++List.replicate k none) f
def JS(j:gT Qr scope N own ps)(hc:X.calm=true)(hi:PI X tg iter wi)
  (hg:∀C s H ex pn,PG (dP X scope own ps C s H ex pn) tg g) (ht:∀C s H ex pn,Eg (dP X scope own ps C s H ex pn) ifs tc) (k:∀C s H ex pn,PE (dP X scope own ps C s H ex pn) L_ te)
  (l:X.env.scope=Qr:=by rfl) (p:X.N=N:=by rfl) (hs:∀x,foldedSetIterable iter X.env x=pure x:=by intro _;rfl):
  PE X (.ListComp L_ [⟨tg,iter,ifs,0⟩] scope pos) (Oj own.length wi g tc te):=by
 intro b_ s σ H Q I h;rw[eval_ListComp];refine v8 (use:=none) j l p hc hi hg ht k I h (λD C A H' r m q t u hn f=>⟨m,hn,λh' z=>⟨.ref D,_,?_,rfl,q D t⟩⟩) hs;exact u.turned (t':=r.toks) (λb o hb e=>(z.2 b hb).trans e) f.1 f.2.1 f.2.2.2.1 f.2.2.2.2.1 f.2.2.2.2.2
def Ol(i k:Nat)(wi:TI)(g:TG)(tc:TT)(te:TE):TS:=λD σ H=>wi σ H λJ f=>xu J g tc te (λj H'=>∀p,H' p=none->D.nx (σ.set i (some (.ref p))) (upd H' p (.lst j))) (σ++List.replicate k none) f
def JT(r:gT Qr scope N own ps)(hc:X.calm=true)
  (t:X.N.Nodup) (hy:X.N[i]?=some y) (hl:X.env.scope.names.lookup y=some .local)
  (hi:PI X tg iter wi)
  (hg:∀C s H ex pn,PG (dP X scope own ps C s H ex pn) tg g) (ht:∀C s H ex pn,Eg (dP X scope own ps C s H ex pn) ifs tc) (u:∀C s H ex pn,PE (dP X scope own ps C s H ex pn) L_ te)
  (B:swapsWith (.ListComp L_ [⟨tg,iter,ifs,0⟩] scope pos) (some (.Name y py)) Rb.line X.env=pure true:=by rfl)
  (E:X.env.scope=Qr:=by rfl) (G:X.N=N:=by rfl) (hs:∀x,foldedSetIterable iter X.env x=pure x:=by intro _;rfl):
  PS X (.Assign [.Name y py] (.ListComp L_ [⟨tg,iter,ifs,0⟩] scope pos) Rb) (Ol i own.length wi g tc te):=by
 intro b_ s σ H D I h;rw[exec_Assign_Name_used _ _ _ _ B];refine Yb (Yk (Yb ?_));show wpAny _ X.A (do let _ ←comprehension (.ListComp L_ [⟨tg,iter,ifs,0⟩] scope pos) scope X.env _ (newList []) false (eval iter X.env) (some (assign (.Name y py) X.env))) _ _ s;refine Yb (aK (v8 (use:=some (assign (.Name y py) X.env)) (QQ:=λ_ j=>SP X b_ D .next j) r E G hc hi hg ht u I h (λD' C T H' j m q J L hn f=>?_) hs) (λ_ j hq=>Yc (Yc hq)));show wpAny _ X.A (assign (.Name y py) X.env (.ref D')) _ _ _;refine wpAny_assign_Name (vP L t hy (.inl hl) (show RelV (.ref D') (.ref D') from rfl) (λO k R=>?_) (.inr hl));obtain⟨a,S,ha⟩:=R;have l:C≠a:=by
  rcases ha with z | z
  .rw[z];exact f.2.1
  .exact(f.2.2.2.2.1 y a z).symm
 refine⟨m,hn.sameBut S l,λh' p=>⟨_,_,?_,q D' J⟩⟩;exact k.turned (t':=O.toks) (λb o hb e=>(p.2 b hb).trans e) f.1 f.2.1 f.2.2.2.1 f.2.2.2.2.1 f.2.2.2.2.2
end
section
variable {X:Cx}
theorem Eh{bs:List Bool}(r:aq (bs.map V.bl) vs){v:Value}(h:vs[i]?=some v):v=.bool ((bs[i]?).getD false):=by
 have hl:=r.length;rw[ZF] at hl;have hi:i<bs.length:=by have:=(YD.mp h).1;omega
 obtain⟨u,hu,f⟩:=r.get (i:=i) (x:=V.bl bs[i]) (by rw[ZG,ZD hi];rfl);rw[h] at hu;cases hu;have f:v=Value.bool bs[i]:=f;rw[f,ZD hi];rfl
def range_all{bs:List Bool}(hn:n=bs.length):((List.range n).all λi=>(bs[i]?).getD false)=bs.all id:=by
 subst hn;rw[Bool.eq_iff_iff,XO,XO];constructor
 .intro h b hb
  obtain⟨i,hi,e⟩:=List.mem_iff_getElem.mp hb
  have:=h i (ZW.mpr hi)
  rw[ZD hi] at this;rw[←e];exact this
 .intro h i hi
  have hi:=ZW.mp hi;rw[ZD hi];exact h _ (List.getElem_mem hi)
theorem Gk(hc:X.calm=true):gv X (.builtin "all") (λxs H Q=>∃p bs,xs=[.ref p]/\bQ X.K H p (List.map V.bl bs)/\Q (.bl (bs.all id)) H):=by
 intro b_ s σ H xs us Q I r h;obtain⟨p,bs,rfl,hq,q⟩:=h;obtain⟨u,rfl,k⟩:=vals1 r;cases k;obtain⟨d_,j,f,t⟩:=I.list hq;have l:p<s.heap.objs.size:=by obtain⟨o,_,e,_⟩:=f;exact Ye e
 refine call_all_walk (wpAny_pyIter_list f.isList ⟨s.heap.objs.size,_,_,_,_,_,λi=>(bs[i]?).getD false,rfl,Walks.list (A:=X.A.in1) (I.ok.hd hc) s.heap.objs.size p (ZU l) d_.toArray,
  ⟨⟨_,Yg _ rfl,rfl,rfl⟩,f.isList.push _⟩,λi v z B C hv m=>?_,λh' tk kk=>?_⟩)
 .have hv:d_[i]?=some v:=by simpa using hv
  rw[Eh j hv];exact wpAny_truthy_bool m
 .have e:d_.toArray.size=bs.length:=by have:=j.length;rw[ZF] at this;simp;omega
  rw[range_all e];refine⟨.bl _,H,I.kept λb o e=>kk b o ?_ (Yd _ e),rfl,q⟩;simp only[XQ];exact ZU (Ye e)
end
structure qJ (K:Za) (mg:Ze) (x:Str) (st:Stmt) (ps:Zf) (f:Addr) (fd:Zv):Prop where
 fn:ni K x x st f fd
 mgf:mg x=some (.ref f)
 b:Binds K fd ps []
def Gm(X:K.In h)(G:h.Ns mainGlobals mg)
  (kV:PySem.W.nsIn K mainGlobals y=some (some (.ref a))) (l:K.lookup a=some ⟨oc,od,.func (PySem.W.fnOf y y (bq st) (aL st) (am st) .none it v_ pm an p_ ct),E_⟩)
  (c:PySem.W.codeIn K p_ y=true) (k:PySem.W.keepIn K (.ref a)=true)
  (hb:∀(it v_ pm:Value) (an:Zm) (p_ ct:Value) (us:Zd),us.length=ps.length->bindArgs (PySem.W.fnOf y y (bq st) (aL st) (am st) .none it v_ pm an p_ ct) ⟨us,[]⟩=pure (ps.zip us)):
  qJ K mg y st ps a (PySem.W.fnOf y y (bq st) (aL st) (am st) .none it v_ pm an p_ ct):=by
 have F:=xS (st:=st) l c k;exact⟨F,PySem.W.mg_of X G kV,F.binds hb⟩
section
variable {X:Cx}{k:Nat}{f:Addr}{fd:Zv}{ps:Zf}{sp:Sp}{x:Str}{st:Stmt}{p pos:Pos}{e:Expr}{es:Zg}{t:TA}
def Mm(D:qJ X.K X.mg x st ps f fd)(F:fm X.prog X.w X.K X.mg X.base jZ k f fd ps sp)(hr:ck k X.A)(ha:PA X (e::es) t)(hg:Gl X x:=by rfl)(j:(x==("__debug__" : Str))=false:=by decide)
  (l:starEach (e::es) X.env=(false,eval e X.env)::starEach es X.env:=by rfl) (m:(backTo pos (starEach es X.env)).any (·.1)=false:=by rfl):PE X (.Call (.Name x p) (e::es) [] pos) (IG sp [] E0 t):=
 JF F hr hg D.mgf D.fn.kp D.b .nil xt ha j l m
end
def Ei(K:Za){a:String}{r:Bool}(h:(if(Value.type a==Value.type b)=true then some true else if PySem.W.kitMeta b=true then(fastBuiltinMro a).map (·.contains (.type b)) else none)=some r):
  PySem.W.kitOne K (.type a) (.type b)=some r:=h
def ay:Expr->Bool
 |.Starred _ _=>false
 |_=>true
def bt{e:Expr}(h:ay e=true):starEach (e::ifs) env=(false,eval e env)::starEach ifs env:=by
 cases e<;>first | rfl | (exact absurd (show false=true from h) YF)
end L2
namespace DD
open PySem PySem.Spec PyProof.Rows L2
variable {f C a:Addr}{v y:V}{m i_:Str}{ta tb:WE}{n j:Nat}{t:WT}{M:MH}{ps:Zf}{K:Za}{d:D}{A B:Prop}{st:Stmt}{u:WA}{Q Q':VK}{o:MO}{an od tod:Zm}{p_ ct pm v_ oc toc:Value}{i:Bool}{r:pV}{sp:az}{E_ tsl:Zn}{H2:Hp}{o':HO}{σ:DS}{b:Int}{fd:Zv}{h:Heap}
inductive D where
 |non | bl (b:Bool) | int (i:Int) | str (x:Str) | tup (ds:List D) | ref (a:Addr) | ty (n:String)
section
variable {α β:Type}{F G:α->β->Prop}
theorem nj:∀{l:List α}{m:List β},Paired F l m->l.length=m.length
 |_,_,.nil=>rfl
 |_,_,.cons _ t=>by simp[nj t]
theorem eI:∀{l:List α}{m:List β}{i:Nat}{a:α},Paired F l m->l[i]?=some a->∃b,m[i]?=some b/\F a b
 |_,_,_,_,.nil,e=>by simp at e
 |_,_,0,_,.cons r _,e=>by simp at e;subst e;exact⟨_,rfl,r⟩
 |_,_,i+1,a,.cons _ t,e=>by
  obtain⟨b,h1,c⟩:=eI (i:=i) (a:=a) t (by simpa using e);exact⟨b,by simpa using h1,c⟩
theorem bR:∀{l c:List α}{m g:List β},Paired F l m->Paired F c g->Paired F (l++c) (m++g)
 |_,_,_,_,.nil,s=>s
 |_,_,_,_,.cons r t,s=>.cons r (bR t s)
theorem va:∀{l:List α}{m:List β}(n:Nat),Paired F l m->Paired F (l.take n) (m.take n)
 |_,_,0,_=>.nil
 |_,_,_+1,.nil=>.nil
 |_,_,n+1,.cons r t=>.cons r (va n t)
theorem AL:∀{l:List α}{m:List β}(n:Nat),Paired F l m->Paired F (l.drop n) (m.drop n)
 |_,_,0,r=>r
 |_,_,_+1,.nil=>.nil
 |_,_,n+1,.cons _ t=>AL n t
theorem xT{a:α}{b:β}(r:F a b):∀{l:List α}{m:List β}(i:Nat),Paired F l m->Paired F (l.set i a) (m.set i b)
 |_,_,_,.nil=>.nil
 |_,_,0,.cons _ t=>.cons r t
 |_,_,i+1,.cons q t=>.cons q (xT r i t)
theorem jC(f:∀a b,F a b->G a b):∀{l:List α}{m:List β},Paired F l m->Paired G l m
 |_,_,.nil=>.nil
 |_,_,.cons r t=>.cons (f _ _ r) (jC f t)
theorem kQ{a:α}{b:β}(r:F a b):∀n,Paired F (List.replicate n a) (List.replicate n b)
 |0=>.nil
 |n+1=>.cons r (kQ r n)
end
section
variable (K:Za)(H:Hp)
mutual
noncomputable def RV:D->V->Prop
 |.non,v=>v=.non
 |.bl b,v=>v=.bl b
 |.int i,v=>v=.int i
 |.str x,v=>v=.str x
 |.ref a,v=>v=.ref a
 |.ty n,v=>v=.ty n
 |.tup ds,v=>∃a xs,v=.ref a/\bX K H a xs/\aj ds xs
noncomputable def aj:List D->List V->Prop
 |[],xs=>xs=[]
 |d::ds,xs=>∃v vs,xs=v::vs/\RV d v/\aj ds vs
end
end
section
variable {K:Za}{H H' H'':Hp}
theorem aj.p:∀{ds:List D}{xs:List V},aj K H ds xs->Paired (RV K H) ds xs
 |[],_,h=>by rw[aj] at h;subst h;exact .nil
 |d::ds,_,h=>by
  rw[aj] at h;obtain⟨v,vs,rfl,r,t⟩:=h;exact .cons r (aj.p t)
theorem aj.of:∀{ds:List D}{xs:List V},Paired (RV K H) ds xs->aj K H ds xs
 |_,_,.nil=>by rw[aj]
 |_,_,.cons r t=>by rw[aj];exact⟨_,_,rfl,r,aj.of t⟩
theorem aj.nil:aj K H [] []:=by rw[aj]
theorem aj.cons{d:D}{v:V}{ds:List D}{vs:List V}(r:RV K H d v)(t:aj K H ds vs):aj K H (d::ds) (v::vs):=by rw[aj];exact⟨_,_,rfl,r,t⟩
theorem aj.len{ds:List D}{xs:List V}(h:aj K H ds xs):ds.length=xs.length:=nj h.p
def Kp(H H':Hp):Prop:=(∀a xs,Rd H a (.tup xs)->Rd H' a (.tup xs))/\∀a u o,H a=some (.frz u o)->H' a=some (.frz u o)
theorem Kp.refl(H:Hp):Kp H H:=⟨λ_ _ h=>h,λ_ _ _ h=>h⟩
theorem Kp.trans(a:Kp H H')(b:Kp H' H''):Kp H H'':=⟨λc xs h=>b.1 c xs (a.1 c xs h),λc u o h=>b.2 c u o (a.2 c u o h)⟩
theorem Kp.new{o:HO}(h:H C=none):Kp H (upd H C o):=⟨λa xs r=>by
 rcases r with r | ⟨u,r⟩
 .exact .inl (by rw[aT (bD r h)];exact r)
 .exact .inr ⟨u,by rw[aT (bD r h)];exact r⟩,λa u o r=>by rw[aT (bD r h)];exact r⟩
def IM:HO->Prop
 |.tup _=>False
 |.frz _ _=>False
 |_=>True
theorem Kp.put{o:HO}(h:H C=some o)(n:IM o):Kp H (upd H C o'):=⟨λa xs r=>by
 rcases r with r | ⟨u,r⟩
 .have:a≠C:=λe=>by subst e;rw[h] at r;cases r;exact n
  exact .inl (by rw[aT this];exact r)
 .have:a≠C:=λe=>by subst e;rw[h] at r;cases r;exact n
  exact .inr ⟨u,by rw[aT this];exact r⟩,λa u o r=>by
  have:a≠C:=λe=>by subst e;rw[h] at r;cases r;exact n
  rw[aT this];exact r⟩
theorem Kp.sq(t:Kp H H'){xs:List V}(h:bX K H a xs):bX K H' a xs:=by
 rcases h with h | h
 .exact .inl (t.1 a xs h)
 .exact .inr h
mutual
theorem RV.mono(t:Kp H H'):∀(d:D){v:V},RV K H d v->RV K H' d v
 |.non,_,h=>by rw[RV] at h ⊢;exact h
 |.bl _,_,h=>by rw[RV] at h ⊢;exact h
 |.int _,_,h=>by rw[RV] at h ⊢;exact h
 |.str _,_,h=>by rw[RV] at h ⊢;exact h
 |.ref _,_,h=>by rw[RV] at h ⊢;exact h
 |.ty _,_,h=>by rw[RV] at h ⊢;exact h
 |.tup ds,_,h=>by
  rw[RV] at h ⊢;obtain⟨a,xs,e,s,r⟩:=h;exact⟨a,xs,e,t.sq s,aj.mono t ds r⟩
theorem aj.mono(t:Kp H H'):∀(ds:List D){xs:List V},aj K H ds xs->aj K H' ds xs
 |[],_,h=>by rw[aj] at h ⊢;exact h
 |d::ds,_,h=>by
  rw[aj] at h ⊢;obtain⟨v,vs,e,r,q⟩:=h;exact⟨v,vs,e,RV.mono t d r,aj.mono t ds q⟩
end
theorem RV.non_:RV K H .non v↔v=.non:=by rw[RV]
theorem RV.bl_:RV K H (.bl i) v↔v=.bl i:=by rw[RV]
theorem RV.int_:RV K H (.int b) v↔v=.int b:=by rw[RV]
theorem RV.str_:RV K H (.str m) v↔v=.str m:=by rw[RV]
theorem RV.ref_:RV K H (.ref f) v↔v=.ref f:=by rw[RV]
theorem RV.ty_{b:String}:RV K H (.ty b) v↔v=.ty b:=by rw[RV]
theorem RV.tup_{ds:List D}:RV K H (.tup ds) v ↔ ∃a xs,v=.ref a/\bX K H a xs/\aj K H ds xs:=by rw[RV]
def b2i(b:Bool):Int:=if b=true then 1 else 0
def Mn(x:List Int×Addr×Value):DictEntry:=⟨reduceHash (Builtin.Tuple.tupleHashOf (x.1.map hashInt)),.ref x.2.1,x.2.2⟩
def pT(a:Addr)(xs:List (List Int×Addr×Value)):HO:=.ext λh=>∃o es c,h.get? a=some o/\o.ExactDict/\o.data=.dict es c/\es.toList=xs.map Mn
def nW(K:Za)(H:Hp)(k:Int×Bool)(x:List Int×Addr×Value):Prop:=x.1=[k.1,b2i k.2]/\bX K H x.2.1 [.int k.1,.bl k.2]/\x.2.2=.bool true
inductive MO where
 |lst (ds:List D) | rol (ds:List D) | dic (f_:List (Key×D)) | rod (f_:List (Key×D)) | ins (C:Addr) (fs:List (Str×D)) | prs (ks:List (Int×Bool))
abbrev MH:=Addr->Option MO
def ae(M:MH)(a:Addr)(o:MO):MH:=λb=>if b=a then some o else M b
def ab:ae M a o a=some o:=by unfold ae;rw[if_pos rfl]
def aU(h:f≠a):ae M a o f=M f:=by unfold ae;rw[if_neg h]
def RO(K:Za)(H:Hp)(a:Addr):MO->Prop
 |.lst ds=>∃xs,H a=some (.lst xs)/\aj K H ds xs
 |.rol ds=>∃xs,Rd H a (.lst xs)/\aj K H ds xs
 |.dic g=>∃c:List (Key×V),H a=some (.dK c)/\c.map (·.1)=g.map (·.1)/\aj K H (g.map (·.2)) (c.map (·.2))
 |.rod g=>∃(u:Obj) (c:List (Key×V)),H a=some (.frz u (.dK c))/\c.map (·.1)=g.map (·.1)/\aj K H (g.map (·.2)) (c.map (·.2))
 |.ins C fs=>∃(dx:Addr) (k:List (Str×V)),H a=some (.ins C dx k)/\k.map (·.1)=fs.map (·.1)/\aj K H (fs.map (·.2)) (k.map (·.2))
 |.prs ks=>∃xs,H a=some (pT a xs)/\Paired (nW K H) ks xs/\ks.Nodup/\ks.length<=sizeLine/\(a==sysModules)=false
def RM(K:Za)(M:MH)(H:Hp):Prop:=∀a o,M a=some o->RO K H a o
theorem RO.stay(h:RO K H a o)(t:Kp H H')(e:H' a=H a):RO K H' a o:=by
 cases o with
 |lst ds=>obtain⟨xs,q,r⟩:=h;exact⟨xs,e.trans q,aj.mono t _ r⟩
 |rol ds=>
  obtain⟨xs,q,r⟩:=h;refine⟨xs,?_,aj.mono t _ r⟩;rcases q with q | ⟨u,q⟩
  .exact .inl (e.trans q)
  .exact .inr ⟨u,e.trans q⟩
 |dic g=>obtain⟨c,q,k,r⟩:=h;exact⟨c,e.trans q,k,aj.mono t _ r⟩
 |rod g=>obtain⟨u,c,q,k,r⟩:=h;exact⟨u,c,e.trans q,k,aj.mono t _ r⟩
 |ins C fs=>obtain⟨dx,l,q,k,r⟩:=h;exact⟨dx,l,e.trans q,k,aj.mono t _ r⟩
 |prs ks=>obtain⟨xs,q,r,n⟩:=h;exact⟨xs,e.trans q,jC (λk x z=>⟨z.1,t.sq z.2.1,z.2.2⟩) r,n⟩
theorem RO.some(h:RO K H a o):H a≠none:=by
 cases o with
 |lst ds=>obtain⟨xs,q,_⟩:=h;rw[q];exact λz=>nomatch z
 |rol ds=>obtain⟨xs,q | ⟨u,q⟩,_⟩:=h<;>(rw[q];exact λz=>nomatch z)
 |dic c=>obtain⟨g,q,_⟩:=h;rw[q];exact λz=>nomatch z
 |rod c=>obtain⟨u,g,q,_⟩:=h;rw[q];exact λz=>nomatch z
 |ins C fs=>obtain⟨dx,k,q,_⟩:=h;rw[q];exact λz=>nomatch z
 |prs ks=>obtain⟨xs,q,_⟩:=h;rw[q];exact λz=>nomatch z
theorem RM.fresh(h:RM K M H)(e:H f=none):M f=none:=by
 cases q:M f with
 |none=>rfl
 |some o=>exact absurd e (h f o q).some
theorem RM.newH(h:RM K M H)(e:H f=none):RM K M (upd H f o'):=λa u q=>
 (h a u q).stay (Kp.new e) (aT (λz=>by subst z;exact(h a u q).some e))
theorem RM.new{M:MH}{p:Addr}{o:HO}{m:MO}(h:RM K M H)(e:H p=none)(r:RO K (upd H p o) p m):RM K (ae M p m) (upd H p o):=λa u q=>by
 by_cases z:a=p
 .subst z;rw[ab] at q;cases q;exact r
 .rw[aU z] at q;exact(h a u q).stay (Kp.new e) (aT z)
theorem RM.put{M:MH}{p:Addr}{o o':HO}{m:MO}(h:RM K M H)(e:H p=some o)(n:IM o)(r:RO K (upd H p o') p m):RM K (ae M p m) (upd H p o'):=λa u q=>by
 by_cases z:a=p
 .subst z;rw[ab] at q;cases q;exact r
 .rw[aU z] at q;exact(h a u q).stay (Kp.put e n) (aT z)
abbrev DS:=List (Option D)
abbrev ZC:=List (Key×D)
abbrev Zz:=Option D
def RS(K:Za)(H:Hp)(σ:DS)(ρ:L2.St):Prop:=Paired (λ(od:Zz) (c:Option V)=>∀d,od=some d->∃v,c=some v/\RV K H d v) σ ρ
theorem RS.mono{σ:DS}{ρ:L2.St}(t:Kp H H')(h:RS K H σ ρ):RS K H' σ ρ:=jC (λod c r d e=>let⟨v,q,s⟩:=r d e;⟨v,q,RV.mono t d s⟩) h
theorem RS.get{σ:DS}{ρ:L2.St}{i:Nat}{d:D}(h:RS K H σ ρ)(e:σ[i]?=some (some d)):∃v,ρ[i]?=some (some v)/\RV K H d v:=by
 obtain⟨c,q,r⟩:=eI h e;obtain⟨v,rfl,s⟩:=r d rfl;exact⟨v,q,s⟩
theorem RS.set{σ:DS}{ρ:L2.St}{d:D}{v:V}(i:Nat)(h:RS K H σ ρ)(r:RV K H d v):RS K H (σ.set i (some d)) (ρ.set i (some v)):=xT (by intro d' e;cases e;exact⟨v,rfl,r⟩) i h
theorem RS.more{ρ:L2.St}(n:Nat)(h:RS K H σ ρ):RS K H (σ++List.replicate n none) (ρ++List.replicate n none):=bR h (kQ (λd e=>nomatch e) n)
end
abbrev DK:=D->MH->Prop
abbrev WE:=DS->MH->DK->Prop
abbrev WT:=DS->MH->(Bool->MH->Prop)->Prop
abbrev WA:=DS->MH->(List D->MH->Prop)->Prop
def lift(K:Za)(H:Hp)(Q:DK):VK:=λv H'=>Kp H H'/\∃d M',RV K H' d v/\RM K M' H'/\Q d M'
def xv(K:Za)(H:Hp)(Q:Bool->MH->Prop):Bool->Hp->Prop:=λb H'=>Kp H H'/\∃M',RM K M' H'/\Q b M'
def Om(K:Za)(H:Hp)(n:Nat)(Q:List D->MH->Prop):List V->Hp->Prop:=λvs H'=>Kp H H'/\∃ds M',aj K H' ds vs/\ds.length=n/\RM K M' H'/\Q ds M'
section
variable (X:Cx)
def tW(e:Expr):TE:=λρ H Q=>∀b_ s,af X b_ ρ H s->wpAny 'c' X.A (eval e X.env) (EP X b_ ρ Q) X.xe s
def rV(e:Expr):TT:=λρ H Q=>∀b_ s,af X b_ ρ H s->wpAny 'c' X.A (isTrue e X.env (eval e X.env)) (TP X b_ ρ Q) X.xe s
def kR(es:Zg):TA:=λρ H Q=>∀c b_ s,af X b_ ρ H s->wpAny 'c' X.A (spliced (backTo c (starEach es X.env))) (AP X b_ ρ Q) X.xe s
def AO(st:Stmt):L2.TS:=λD ρ H=>∀b_ s,af X b_ ρ H s->wpAny 'c' X.A (exec st X.env) (SP X b_ D) X.xe s
end
section
variable {X:Cx}{e a b c:Expr}{es:Zg}{ρ:L2.St}{H H':Hp}{pos:Pos}
def bJ(e:Expr):PE X e (tW X e):=λb_ s _ _ _ I h=>h b_ s I
def nX(e:Expr):PT X e (rV X e):=λb_ s _ _ _ I h=>h b_ s I
def mL(es:Zg):PA X es (kR X es):=λpos b_ s _ _ _ I h=>h pos b_ s I
def cc{t:TE}(h:PE X e t)(q:t ρ H Q):tW X e ρ H Q:=λb_ s I=>h b_ s ρ H Q I q
def xU{t:TT}{Q:Bool->Hp->Prop}(h:PT X e t)(q:t ρ H Q):rV X e ρ H Q:=λb_ s I=>h b_ s ρ H Q I q
def Ej{t:TA}{Q:List V->Hp->Prop}(h:PA X es t)(q:t ρ H Q):kR X es ρ H Q:=λpos b_ s I=>h pos b_ s ρ H Q I q
def aM(h:tW X e ρ H Q)(f:∀v H',Q v H'->Q' v H'):tW X e ρ H Q':=λb_ s I=>aK (h b_ s I) λ_ _ ⟨v,H',g,r,q⟩=>⟨v,H',g,r,f v H' q⟩
def gD{Q Q':Bool->Hp->Prop}(h:rV X e ρ H Q)(f:∀v H',Q v H'->Q' v H'):rV X e ρ H Q':=λb_ s I=>aK (h b_ s I) λ_ _ ⟨H',g,q⟩=>⟨H',g,f _ H' q⟩
def dC{Q Q':List V->Hp->Prop}(h:kR X es ρ H Q)(f:∀v H',Q v H'->Q' v H'):kR X es ρ H Q':=λpos b_ s I=>aK (h pos b_ s I) λ_ _ ⟨v,H',g,r,q⟩=>⟨v,H',g,r,f v H' q⟩
def cI{Q:DK}(k:Kp H H')(h:lift K H' Q v H2):lift K H Q v H2:=⟨k.trans h.1,h.2⟩
def xV{Q:Bool->MH->Prop}(k:Kp H H')(h:xv K H' Q i H2):xv K H Q i H2:=⟨k.trans h.1,h.2⟩
def aS{Q:DK}(r:RV K H d v)(m:RM K M H)(q:Q d M):lift K H Q v H:=⟨Kp.refl H,d,M,r,m,q⟩
def aN(X:Cx)(e:Expr)(t:WE):Prop:=∀σ M ρ H Q,RS X.K H σ ρ->RM X.K M H->t σ M Q->tW X e ρ H (lift X.K H Q)
def kS(X:Cx)(e:Expr)(t:WT):Prop:=∀σ M ρ H Q,RS X.K H σ ρ->RM X.K M H->t σ M Q->rV X e ρ H (xv X.K H Q)
def gU(X:Cx)(es:Zg)(t:WA):Prop:=∀σ M ρ H Q,RS X.K H σ ρ->RM X.K M H->t σ M Q->kR X es ρ H (Om X.K H es.length Q)
def dq(b:Bool)(A B:Prop):Prop:=match b with
 |true=>A
 |false=>B
def bh:dq true A B=A:=rfl
def aR:dq false A B=B:=rfl
def vb(h1:i=true->A)(g:i=false->B):dq i A B:=by
 cases i with
 |true=>exact h1 rfl
 |false=>exact g rfl
def vc{p:Prop}[Decidable p](h1:p->A)(g:¬p->B):dq (decide p) A B:=vb (λe=>h1 (XR e)) (λe=>g (of_decide_eq_false e))
def xX(σ:DS)(i:Nat)(Q:D->Prop):Prop:=match σ[i]? with
 |some (some d)=>Q d
 |_=>False
def JU{Q:D->Prop}(h:xX σ n Q):∃d,σ[n]?=some (some d)/\Q d:=by
 unfold xX at h;split at h
 .exact⟨_,by assumption,h⟩
 .exact Yh h
def JV(g:X.N[n]?=some m)(hv:xH X.env.scope m)(hd:(m==("__debug__" : Str))=false)(k:(m==("__classdict__" : Str))=false):aN X (.Name m pos) (λσ M Q=>xX σ n λd=>Q d M):=by
 intro σ M ρ H Q rs l h;obtain⟨d,e,q⟩:=JU h;obtain⟨v,e',r⟩:=rs.get e;exact cc (LA g hv hd k) ⟨v,e',aS r l q⟩
def qK(h:PE X e (tC v))(r:∀H,RV X.K H d v):aN X e (λ_ M Q=>Q d M):=λ_ _ _ H _ _ g q=>cc h (aS (r H) g q)
def JW{i:Int}:aN X (.Constant (.int i) j pos) (λ_ M Q=>Q (.int i) M):=qK DN λ_=>RV.int_.2 rfl
def Mo:aN X (.Constant (.bool i) j pos) (λ_ M Q=>Q (.bl i) M):=qK NT λ_=>RV.bl_.2 rfl
def JX:aN X (.Constant (.str m) j pos) (λ_ M Q=>Q (.str m) M):=qK LC λ_=>RV.str_.2 rfl
def JY:aN X (.Constant .none j pos) (λ_ M Q=>Q .non M):=qK LB λ_=>RV.non_.2 rfl
def pU(K:Za)(mg:Ze)(x:Str)(d:D):Prop:=∃v u,mg x=some u/\RelV v u/\∀H,RV K H d v
def Gn(hg:Gl X m)(h:pU X.K X.mg m d)(hd:(m==("__debug__" : Str))=false):aN X (.Name m pos) (λ_ M Q=>Q d M):=by
 obtain⟨v,u,hm,r,g⟩:=h;exact qK (Jq hg hm r hd) g
def oW(X:Cx)(f:Zk):R2:=λx y H Q=>∀b_ s ρ v u,af X b_ ρ H s->RelV x v->RelV y u->wpAny 'c' X.A (f v u) (EP X b_ ρ Q) X.xe s
def Go(f:Zk):di X f (oW X f):=λb_ s σ _ _ _ v u _ I g k h=>h b_ s σ v u I g k
def kn{f:Zk}{r:R2}(h:di X f r)(q:r v y H Q):oW X f v y H Q:=λb_ s ρ x u I g k=>h b_ s ρ H v y x u Q I g k q
def vd{f:Zk}(h:oW X f v y H Q)(g:∀x H',Q x H'->Q' x H'):oW X f v y H Q':=λb_ s ρ x u I k l=>aK (h b_ s ρ x u I k l) λ_ _ ⟨x,H',p,r,q⟩=>⟨x,H',p,r,g x H' q⟩
abbrev pV:=D->D->MH->DK->Prop
def iV(X:Cx)(f:Zk)(r:pV):Prop:=∀x y v u H M Q,RV X.K H x v->RV X.K H y u->RM X.K M H->r x y M Q->oW X f v u H (lift X.K H Q)
def two{R:D->D->MH->Prop}(ha:aN X a ta)(hb:aN X b tb)(rs:RS X.K H σ ρ)(p:RM X.K M H)(h:ta σ M λx M1=>tb σ M1 λy M2=>R x y M2):
  tW X a ρ H λv g=>tW X b ρ g λu H2=>Kp H H2/\∃x y M2,RV X.K H2 x v/\RV X.K H2 y u/\RM X.K M2 H2/\R x y M2:=by
 refine aM (ha σ M ρ H _ rs p h) ?_;rintro v g ⟨k,x,M1,z,E,h1⟩;refine aM (hb σ M1 ρ g _ (rs.mono k) E h1) ?_;rintro u H2 ⟨l,y,M2,G,I,J⟩;exact⟨k.trans l,x,y,M2,RV.mono l x z,G,I,J⟩
def rW(r:pV)(ta tb:WE):WE:=λσ M Q=>ta σ M λx M1=>tb σ M1 λy M2=>r x y M2 Q
def JZ{op:Operator}(g:iV X (binaryOp op) r)(ha:aN X a ta)(hb:aN X b tb):aN X (.BinOp a op b pos) (rW r ta tb):=by
 intro σ M ρ H Q rs l h;refine cc (N4 (Go _) (bJ a) (bJ b)) ?_;show tW X a ρ H _;refine aM (two ha hb rs l h) λv p z=>?_
 show tW X b ρ p _;refine aM z λu H2 E=>?_
 obtain⟨k,x,y,M2,G,I,J,q⟩:=E;exact vd (g x y v u H2 M2 Q G I J q) λ_ _=>cI k
def J0{op:CmpOp}(g:iV X (compareOp op) r)(ha:aN X a ta)(hb:aN X b tb)(hm:behindInMarks op b=false):aN X (.Compare a [op] [b] pos) (rW r ta tb):=by
 intro σ M ρ H Q rs l h;refine cc (Jz (Go _) (bJ a) (bJ b) hm) ?_;show tW X a ρ H _;refine aM (two ha hb rs l h) λv p z=>?_
 show tW X b ρ p _;refine aM z λu H2 E=>?_
 obtain⟨k,x,y,M2,G,I,J,q⟩:=E;exact vd (g x y v u H2 M2 Q G I J q) λ_ _=>cI k
def qL(x:D)(Q:Bool->Prop):Prop:=match x with
 |.bl b=>Q b
 |_=>False
def nY{Q:Bool->Prop}(h:qL d Q):∃b,d=.bl b/\Q b:=by
 cases d with
 |bl b=>exact⟨b,rfl,h⟩
 |_=>exact Yh h
def xw(t:WE):WT:=λσ M Q=>t σ M λx M1=>qL x λb=>Q b M1
def AQ{op:CmpOp}(l:iV X (compareOp op) r)(ha:aN X a ta)(hb:aN X b tb)(hm:behindInMarks op b=false):kS X (.Compare a [op] [b] pos) (xw (rW r ta tb)):=by
 intro σ M ρ H Q rs p h;refine xU (JA (Go _) (bJ a) (bJ b) hm) ?_;show tW X a ρ H _;refine aM (two ha hb rs p h) λv E G=>?_
 show tW X b ρ E _;refine aM G λu H2 I=>?_
 obtain⟨k,x,y,M2,J,L,O,q⟩:=I;refine vd (l x y v u H2 M2 _ J L O q) λz W P=>?_
 obtain⟨R,d,S,T,U,g⟩:=P;obtain⟨c,rfl,g⟩:=nY g;exact⟨c,RV.bl_.1 T,k.trans R,S,U,g⟩
def Gp(t u:WT):WT:=λσ M Q=>t σ M λc M1=>dq c (u σ M1 Q) (Q false M1)
def Mp(t u:WT):WT:=λσ M Q=>t σ M λc M1=>dq c (Q true M1) (u σ M1 Q)
def Gq(t:WT):WT:=λσ M Q=>t σ M λc M1=>Q (!c) M1
def J1(h:kS X a t):kS X (.UnaryOp .Not a pos) (Gq t):=by
 intro σ M ρ H Q rs g q;refine xU (LF (nX a)) ?_;show rV X a ρ H _;exact gD (h σ M ρ H _ rs g q) λc l k=>k
def tK(X:Cx)(e:Expr)(t:WT):Prop:=∀σ M ρ H Q,RS X.K H σ ρ->RM X.K M H->t σ M Q->∀g b_ s,af X b_ ρ H s->wpAny 'c' X.A (isTrue e X.env g) (TP X b_ ρ (xv X.K H Q)) X.xe s
theorem tK.pt(h:tK X e t):kS X e t:=λσ M ρ H Q rs g q b_ s I=>h σ M ρ H Q rs g q _ b_ s I
def IN(X:Cx)(e:Expr):TT:=λρ H Q=>∀g b_ s,af X b_ ρ H s->wpAny 'c' X.A (isTrue e X.env g) (TP X b_ ρ Q) X.xe s
def Mq(e:Expr):PW X e (IN X e):=λg b_ s _ _ _ I h=>h g b_ s I
def xY{Q Q':Bool->Hp->Prop}(h:IN X e ρ H Q)(f:∀v H',Q v H'->Q' v H'):IN X e ρ H Q':=λg b_ s I=>aK (h g b_ s I) λ_ _ ⟨H',k,q⟩=>⟨H',k,f _ H' q⟩
def tL{t:TT}{Q:Bool->Hp->Prop}(h:PW X e t)(q:t ρ H Q):IN X e ρ H Q:=λg b_ s I=>h g b_ s ρ H Q I q
def Gr(h:kS X a t):tK X (.BoolOp .And [a] pos) t:=λσ M ρ H Q rs g q=>tL (Js (nX a)) (h σ M ρ H Q rs g q)
def J2(h:kS X a t):tK X (.BoolOp .Or [a] pos) t:=λσ M ρ H Q rs g q=>tL (LD (nX a)) (h σ M ρ H Q rs g q)
def AR{u:WT}(h:kS X a t)(h':tK X (.BoolOp .And (b::es) pos) u):tK X (.BoolOp .And (a::b::es) pos) (Gp t u):=by
 intro σ M ρ H Q rs p q;refine tL (LE (nX a) (Mq _)) ?_;show rV X a ρ H _;refine gD (h σ M ρ H _ rs p q) λc z E=>?_
 obtain⟨g,M1,k,l⟩:=E;cases c with
 |true=>exact xY (h' σ M1 ρ z Q (rs.mono g) k l) λ_ _=>xV g
 |false=>exact⟨g,M1,k,l⟩
def Ek{u:WT}(h:kS X a t)(h':tK X (.BoolOp .Or (b::es) pos) u):tK X (.BoolOp .Or (a::b::es) pos) (Mp t u):=by
 intro σ M ρ H Q rs p q;refine tL (NU (nX a) (Mq _)) ?_;show rV X a ρ H _;refine gD (h σ M ρ H _ rs p q) λc z E=>?_
 obtain⟨g,M1,k,l⟩:=E;cases c with
 |false=>exact xY (h' σ M1 ρ z Q (rs.mono g) k l) λ_ _=>xV g
 |true=>exact⟨g,M1,k,l⟩
def Cl(ta tb:WE):WE:=λσ M Q=>ta σ M λx M1=>qL x λc=>dq c (tb σ M1 Q) (Q (.bl false) M1)
def Gs(ta tb:WE):WE:=λσ M Q=>ta σ M λx M1=>qL x λc=>dq c (Q (.bl true) M1) (tb σ M1 Q)
def Cm(ta:WE):WE:=λσ M Q=>ta σ M λx M1=>qL x λc=>Q (.bl (!c)) M1
def AS{op:BoolOp}(h:aN X a ta):aN X (.BoolOp op [a] pos) ta:=λσ M ρ H Q rs g q=>cc (LG (bJ a)) (h σ M ρ H Q rs g q)
def AT(h:aN X a ta)(h':aN X (.BoolOp .And (b::es) pos) tb):aN X (.BoolOp .And (a::b::es) pos) (Cl ta tb):=by
 intro σ M ρ H Q rs p q;refine cc (LH (bJ a) (bJ _)) ?_;show tW X a ρ H _;refine aM (h σ M ρ H _ rs p q) λv z E=>?_
 obtain⟨k,x,M1,G,l,g⟩:=E;obtain⟨c,rfl,g⟩:=nY g;refine⟨c,RV.bl_.1 G,?_⟩;cases c with
 |true=>exact aM (h' σ M1 ρ z Q (rs.mono k) l g) λ_ _=>cI k
 |false=>exact⟨k,.bl false,M1,RV.bl_.2 rfl,l,g⟩
def El(h:aN X a ta)(h':aN X (.BoolOp .Or (b::es) pos) tb):aN X (.BoolOp .Or (a::b::es) pos) (Gs ta tb):=by
 intro σ M ρ H Q rs p q;refine cc (NX (bJ a) (bJ _)) ?_;show tW X a ρ H _;refine aM (h σ M ρ H _ rs p q) λv z E=>?_
 obtain⟨k,x,M1,G,l,g⟩:=E;obtain⟨c,rfl,g⟩:=nY g;refine⟨c,RV.bl_.1 G,?_⟩;cases c with
 |false=>exact aM (h' σ M1 ρ z Q (rs.mono k) l g) λ_ _=>cI k
 |true=>exact⟨k,.bl true,M1,RV.bl_.2 rfl,l,g⟩
def J3(h:aN X a ta):aN X (.UnaryOp .Not a pos) (Cm ta):=by
 intro σ M ρ H Q rs k q;refine cc (LI (bJ a)) ?_;show tW X a ρ H _;refine aM (h σ M ρ H _ rs k q) λv G l=>?_
 obtain⟨p,x,M1,z,E,g⟩:=l;obtain⟨c,rfl,g⟩:=nY g;exact⟨c,RV.bl_.1 z,p,.bl (!c),M1,RV.bl_.2 rfl,E,g⟩
def Mr(t:WT)(ta tb:WE):WE:=λσ M Q=>t σ M λc M1=>dq c (ta σ M1 Q) (tb σ M1 Q)
def Em(hc:kS X c t)(ha:aN X a ta)(hb:aN X b tb):aN X (.IfExp c a b pos) (Mr t ta tb):=by
 intro σ M ρ H Q rs E q;refine cc (FR (nX c) (bJ a) (bJ b)) ?_;show rV X c ρ H _;refine gD (hc σ M ρ H _ rs E q) λk l G=>?_
 obtain⟨g,M1,p,z⟩:=G;cases k with
 |true=>exact aM (ha σ M1 ρ l Q (rs.mono g) p z) λ_ _=>cI g
 |false=>exact aM (hb σ M1 ρ l Q (rs.mono g) p z) λ_ _=>cI g
def cu:Option MO->Option (List D)
 |some (.lst ds)=>some ds
 |some (.rol ds)=>some ds
 |_=>none
def Gu(x:D)(M:MH)(Q:Bool->Prop):Prop:=match x with
 |.non=>Q false
 |.bl b=>Q b
 |.int i=>Q (i != 0)
 |.str y=>y.length<=sizeLine/\Q ((y.length:Int) != 0)
 |.tup ds=>Q (!ds.isEmpty)
 |.ref a=>match M a with
  |some (.lst ds)=>Q (!ds.isEmpty)
  |some (.rol ds)=>Q (!ds.isEmpty)
  |some (.dic g)=>Q (!g.isEmpty)
  |_=>False
 |.ty _=>False
theorem qM{g k:Type}{l:List g}{m:List k}(h:l.length=m.length):l.isEmpty=m.isEmpty:=by
 cases l<;>cases m<;>simp_all
def J4{Q:Bool->Prop}(r:RV K H d v)(m:RM K M H)(h:Gu d M Q):∃k,FX K v H k/\Q k:=by
 cases d with
 |non=>cases RV.non_.1 r;exact⟨_,rfl,h⟩
 |bl b=>cases RV.bl_.1 r;exact⟨_,rfl,h⟩
 |int i=>cases RV.int_.1 r;exact⟨_,rfl,h⟩
 |str y=>cases RV.str_.1 r;exact⟨_,⟨h.1,rfl⟩,h.2⟩
 |ty n=>exact Yh h
 |tup ds=>
  obtain⟨a,xs,rfl,s,g⟩:=RV.tup_.1 r;exact⟨_,.inr (.inl ⟨xs,s,rfl⟩),by rw[←qM g.len];exact h⟩
 |ref a=>
  cases RV.ref_.1 r;have h:match M a with
   |some (.lst ds)=>Q (!ds.isEmpty)
   |some (.rol ds)=>Q (!ds.isEmpty)
   |some (.dic l)=>Q (!l.isEmpty)
   |_=>False:=h
  split at h
  .rename_i ds e
   obtain⟨xs,q,g⟩:=m a _ e;exact⟨_,.inl ⟨xs,bQ.of q,rfl⟩,by rw[←qM g.len];exact h⟩
  .rename_i ds e
   obtain⟨xs,q,g⟩:=m a _ e;exact⟨_,.inl ⟨xs,.inl q,rfl⟩,by rw[←qM g.len];exact h⟩
  .rename_i l e
   obtain⟨p,q,k,g⟩:=m a _ e;refine⟨_,.inr (.inr ⟨p,q,rfl⟩),?_⟩;have:p.length=l.length:=by have:=congrArg List.length k;simpa using this
   rw[qM this];exact h
  .exact Yh h
def Gv(t:WE):WT:=λσ M Q=>t σ M λx M1=>Gu x M1 λk=>Q k M1
def J5(h:aN X a ta)(p:∀g,isTrue a X.env g=(do let v ←g;standAt a.pos;holding [v] (truthy v))):kS X a (Gv ta):=by
 intro σ M ρ H Q rs z q;refine xU (FY (bJ a) p) ?_;show tW X a ρ H _;refine aM (h σ M ρ H _ rs z q) λv P E=>?_
 obtain⟨G,x,M1,I,l,J⟩:=E;obtain⟨k,L,O⟩:=J4 I l J;exact⟨k,L,G,M1,l,O⟩
def pX:WA:=λ_ M Q=>Q [] M
def Co(t:WE)(u:WA):WA:=λσ M Q=>t σ M λx M1=>u σ M1 λxs M2=>Q (x::xs) M2
def J6:gU X [] pX:=λσ M ρ H Q rs g q=>Ej Ma ⟨Kp.refl H,[],M,aj.nil,rfl,g,q⟩
def Gw(h:aN X e ta)(h':gU X es u)(hs:ay e=true):gU X (e::es) (Co ta u):=by
 intro σ M ρ H Q rs p q;refine Ej (JE (bJ e) (mL es) (bt hs)) ?_;show tW X e ρ H _;refine aM (h σ M ρ H _ rs p q) λv g z=>?_
 obtain⟨k,x,M1,E,G,I⟩:=z;show kR X es ρ g _;refine dC (h' σ M1 ρ g _ (rs.mono k) G I) λvs H2 J=>?_
 obtain⟨l,xs,M2,L,O,P,R⟩:=J;exact⟨k.trans l,x::xs,M2,aj.cons (RV.mono l x E) L,by simp[O],P,R⟩
def Gx(t:WA):WE:=λσ M Q=>t σ M λxs M1=>Q (.tup xs) M1
def Gy(t:WA):WE:=λσ M Q=>t σ M λxs M1=>∀p,M1 p=none->Q (.ref p) (ae M1 p (.lst xs))
def J7(h:gU X es u)(z:es.length<=1000):aN X (.Tuple es n pos) (Gx u):=by
 intro σ M ρ H Q rs E q;refine cc (Mb (mL es)) ?_;show kR X es ρ H _;refine dC (h σ M ρ H _ rs E q) λvs g G=>?_
 obtain⟨I,xs,M1,k,J,L,O⟩:=G;refine⟨?_,λp hp=>?_⟩
 .rw[←k.len,J];exact Nat.le_of_lt (vZ z)
 .have l:Kp g (upd g p (.tup vs)):=Kp.new hp
  exact⟨I.trans l,.tup xs,M1,RV.tup_.2 ⟨p,vs,rfl,bX.of aI,aj.mono l _ k⟩,L.newH hp,O⟩
def J8(h:gU X es u)(E:es.length<=1000):aN X (.List es pos) (Gy u):=by
 intro σ M ρ H Q rs G q;refine cc (Mc (mL es)) ?_;show kR X es ρ H _;refine dC (h σ M ρ H _ rs G q) λvs g I=>?_
 obtain⟨J,xs,M1,k,L,l,O⟩:=I;refine⟨?_,λp hp=>?_⟩
 .rw[←k.len,L];exact Nat.le_of_lt (vZ E)
 .have z:Kp g (upd g p (.lst vs)):=Kp.new hp
  exact⟨J.trans z,.ref p,_,RV.ref_.2 rfl,l.new (m:=.lst xs) hp ⟨vs,aI,aj.mono z _ k⟩,O p (l.fresh hp)⟩
abbrev az:=List D->MH->DK->Prop
def ig(K:Za)(sp:az):Sp:=λvs H Q _=>∃ds M g,aj K H ds vs/\RM K M H/\sp ds M g/\∀d M' v H',g d M'->Kp H H'->RV K H' d v->RM K M' H'->Q v H'
def bS(P:Zw)(w:World)(K:Za)(mg:Ze)(base:Heap)(k:Nat)(x:Str)(sp:az):Prop:=
 ∃st ps f fd,qJ K mg x st ps f fd/\fm P w K mg base jZ k f fd ps (ig K sp)
theorem dY{env:Env}{pos:Pos}:∀{es:Zg},es.all ay=true->(backTo pos (starEach es env)).any (·.1)=false
 |[],_=>rfl
 |e::es,h=>by
  rw[XS,YZ] at h;rw[bt h.1];show(false||(backTo pos (starEach es env)).any (·.1))=false;rw[dY h.2];rfl
def jq(sp:az)(t:WA):WE:=λσ M Q=>t σ M λds M1=>sp ds M1 Q
def J9{p:Pos}(F:bS X.prog X.w X.K X.mg X.base n m sp)(hr:ck n X.A)(hg:Gl X m)(g:(m==("__debug__" : Str))=false)(hs:ay e=true)(k:es.all ay=true)(ha:gU X (e::es) u):
  aN X (.Call (.Name m p) (e::es) [] pos) (jq sp u):=by
 obtain⟨st,ps,f,fd,l,G⟩:=F;intro σ M ρ H Q rs z q;refine cc (Mm l G hr (mL (e::es)) hg g (bt hs) (dY k)) ?_;show kR X (e::es) ρ H _;refine dC (ha σ M ρ H _ rs z q) λvs T E=>?_
 obtain⟨I,xs,M1,J,U,L,O⟩:=E;rw[ZA];exact⟨xs,M1,Q,J,L,O,λd M' v H' P kk R S=>⟨I.trans kk,d,M',R,S,P⟩⟩
end
def tM(K:Za):Bool:=K.all λp=>match p.2.cls with
 |.type t=>!(t == "list")
 |_=>true
theorem wa{a:Addr}{o:Obj}:∀{K:Za},tM K=true->K.lookup a=some o->o.cls=.type "list"->False
 |[],_,h,_=>by cases h
 |(b,p)::K,hn,h,hc=>by
  unfold tM at hn;rw[XS,YZ] at hn;rw[XN] at h;split at h
  .cases h
   have h1:=hn.1;simp only[hc] at h1;exact absurd h1 'b'
  .exact wa (K:=K) hn.2 h hc
theorem xZ{K:Za}{H:Hp}:∀(ns:Zi),aj K H (ns.map D.int) (ns.map V.int)
 |[]=>.nil
 |n::ns=>.cons (RV.int_.2 rfl) (xZ ns)
def qN(a:Addr)(ns:Zi):MH:=λb=>if b=a then some (.rol (ns.map D.int)) else none
def xx(n:Nat)(sp:az):Prop:=∀a ns,ns.length<=n->sp [.ref a] (qN a ns) λd _=>d=.bl true
def Ms{ns:Zi}(g:tM K=true)(hs:xx n sp)(hl:ns.length<=n)(c:bQ K H2 a (ns.map V.int))(E:XK):ig K sp [.ref a] H2 (λv _=>v=.bl true) E:=by
 rcases c with c | ⟨o,d_,m,h1,h2,_⟩
 .refine⟨[.ref a],qN a ns,λd _=>d=.bl true,.cons (RV.ref_.2 rfl) .nil,λb o e=>?_,hs a ns hl,λd M' v H' q _ r _=>?_⟩
  .unfold qN at e
   split at e
   .rename_i hb
    subst hb;cases e;exact⟨_,c,xZ ns⟩
   .cases e
  .subst q
   exact RV.bl_.1 r
 .exact(wa g h1 h2).elim
mutual
noncomputable def jr(K:Za):D->Value->Bool
 |.non,u=>match u with
  |.none=>true
  |_=>false
 |.bl b,u=>match u with
  |.bool c=>decide (b=c)
  |_=>false
 |.int i,u=>match u with
  |.int j _=>decide (i=j)
  |_=>false
 |.str x,u=>match u with
  |.str y _=>decide (x=y)
  |_=>false
 |.ty n,u=>match u with
  |.type m=>decide (n=m)
  |_=>false
 |.ref a,u=>match u with
  |.ref b=>decide (a=b)
  |_=>false
 |.tup ds,u=>match u with
  |.ref a=>(match K.lookup a with
   |some ⟨.type t,_,.seq d_ _,_⟩=>decide (t = "tuple")&&decide (d_.size<=sizeLine)&&pY K ds d_.toList
   |_=>false)
  |_=>false
noncomputable def pY(K:Za):List D->List Value->Bool
 |[],us=>us.isEmpty
 |d::ds,us=>match us with
  |u::us=>jr K d u&&pY K ds us
  |[]=>false
end
mutual
theorem x0{K:Za}:∀(d:D){u:Value},jr K d u=true->∃v,RelV v u/\∀H,RV K H d v
 |.non,u,h=>by
  unfold jr at h;split at h
  .exact⟨.non,rfl,λ_=>RV.non_.2 rfl⟩
  .cases h
 |.bl b,u,h=>by
  unfold jr at h;split at h
  .cases XR h;exact⟨.bl _,rfl,λ_=>RV.bl_.2 rfl⟩
  .cases h
 |.int b,u,h=>by
  unfold jr at h;split at h
  .cases XR h;exact⟨.int _,⟨_,rfl⟩,λ_=>RV.int_.2 rfl⟩
  .cases h
 |.str b,u,h=>by
  unfold jr at h;split at h
  .cases XR h;exact⟨.str _,⟨_,rfl⟩,λ_=>RV.str_.2 rfl⟩
  .cases h
 |.ty b,u,h=>by
  unfold jr at h;split at h
  .cases XR h;exact⟨.ty _,rfl,λ_=>RV.ty_.2 rfl⟩
  .cases h
 |.ref a,u,h=>by
  unfold jr at h;split at h
  .cases XR h;exact⟨.ref _,rfl,λ_=>RV.ref_.2 rfl⟩
  .cases h
 |.tup ds,u,h=>by
  unfold jr at h;split at h
  .rename_i a
   split at h
   .rename_i t od d_ n sl e
    simp only[YZ,XT] at h;obtain⟨⟨h1,h2⟩,h3⟩:=h;obtain⟨vs,r1,r2⟩:=wb ds h3;exact⟨.ref a,rfl,λH=>RV.tup_.2 ⟨a,vs,rfl,.inr ⟨_,d_,n,e,by rw[h1],rfl,h2,r1⟩,r2 H⟩⟩
   .cases h
  .cases h
theorem wb{K:Za}:∀(ds:List D){us:Zd},pY K ds us=true->∃vs,aq vs us/\∀H,aj K H ds vs
 |[],us,h=>by
  unfold pY at h;cases us with
  |nil=>exact⟨[],.nil,λ_=>.nil⟩
  |cons u us=>cases h
 |d::ds,us,h=>by
  unfold pY at h;split at h
  .rename_i u us
   rw[YZ] at h;obtain⟨v,r1,r2⟩:=x0 d h.1;obtain⟨vs,r3,r4⟩:=wb ds h.2;exact⟨v::vs,.cons r1 r3,λH=>.cons (r2 H) (r4 H)⟩
  .cases h
end
def qO(K:Za):List Str->List D->Bool
 |[],_=>true
 |x::xs,ds=>(match PySem.W.nsIn K mainGlobals x with
  |some (some u)=>jr K (ds.headD .non) u
  |_=>false)&&qO K xs ds.tail
theorem tN{K:Za}{h:Heap}{mg:Ze}(X:K.In h)(G:h.Ns mainGlobals mg):∀{xs:Zf}{ds:List D},qO K xs ds=true->∀(j:Nat) x,xs[j]?=some x->pU K mg x (ds.getD j .non)
 |[],_,_,j,x,e=>by cases e
 |y::xs,ds,hk,j,x,e=>by
  unfold qO at hk;rw[YZ] at hk;cases j with
  |zero=>
   have e:y=x:=by simpa using e
   subst e;have h1:=hk.1;split at h1
   .rename_i u q
    obtain⟨v,c,g⟩:=x0 _ h1;have:ds.getD 0 .non=ds.headD .non:=by cases ds<;>rfl
    rw[this];exact⟨v,u,PySem.W.mg_of X G q,c,g⟩
   .cases h1
  |succ j=>
   have:=tN X G hk.2 j x (by simpa using e)
   have k:ds.getD (j+1) .non=ds.tail.getD j .non:=by cases ds<;>simp
   rw[k];exact this
def En(K:Za)(xs:Zf):Bool:=xs.all λx=>match PySem.W.nsIn K mainGlobals x with
 |some none=>true
 |_=>false
def Ep{mg:Ze}(X:K.In h)(G:h.Ns mainGlobals mg)(hk:En K ps=true):∀x,ps.contains x=true->mg x=none:=by
 intro x hx
 have:=XO.1 hk x (by simpa using hx)
 split at this
 .rename_i q
  exact PySem.W.mg_none_of X G q
 .cases this
def Oo{l:PySem.W.OpenLaw}{k:Nat}{q:Zw}{XP:(Str->Option Value)->Heap->Prop}{YP:World->Heap->Prop}{d:DefRec}{K:Params->PySem.W.Frag}{x:Str}
  (hn:l.most=some n) (g:n<=sizeLine) (p:d.params.defaults=[]) (hr:ck k callerA) (hs:xx n sp)
  (E:∀(w:World) (h:Heap),YP w h->(K w.params).In h) (G:∀w:World,tM (K w.params)=true)
  (F:∀(w:World) (mg:Ze) (c:Addr) (h:Heap),(K w.params).In h->h.Ns mainGlobals mg->mg d.name=some (.ref c) ->
   ∃fd:FuncData,(∀(s:Shared) (u:Value),BindsTo s fd ⟨[u],[]⟩ [(x,u)]) /\
    ∀base:Heap,(K w.params).In base->base.Ns mainGlobals mg->fm l.prog w (K w.params) mg base jZ k c fd [x] (ig (K w.params) sp)):
  PySem.W.WalkO q ps XP YP l.row.toRowW d [] (λf vs=>PySem.call f vs):=
 L2.JP (n:=n) (k:=k) (x:=x) (CX:=λ_=>jZ) (sp:=λw=>ig (K w.params) sp) hn g p hr E F (λw _ a ns hl _ I=>Ms (G w) hs hl I _) λ_ _ _ _ _ z=>z
section
variable {P:Zw}{w:World}{K:Za}{mg:Ze}{base:Heap}{k:Nat}
structure ii (K:Za) (x:Str) (st:Stmt) (f:Addr) (fd:Zv):Prop where
 ex:∃(oc:Value) (od an:Zm) (E_:Zn) (kV v_ pm p_ ct:Value),PySem.W.nsIn K mainGlobals x=some (some (.ref f)) /\
  fd=PySem.W.fnOf x x (bq st) (aL st) (am st) .none kV v_ pm an p_ ct/\K.lookup f=some ⟨oc,od,.func fd,E_⟩/\PySem.W.codeIn K p_ x=true/\PySem.W.keepIn K (.ref f)=true
theorem ii.mk'
  (a:PySem.W.nsIn K mainGlobals m=some (some (.ref f))) (l:K.lookup f=some ⟨oc,od,.func (PySem.W.fnOf m m (bq st) (aL st) (am st) .none toc v_ pm an p_ ct),E_⟩)
  (c:PySem.W.codeIn K p_ m=true) (k:PySem.W.keepIn K (.ref f)=true):ii K m st f (PySem.W.fnOf m m (bq st) (aL st) (am st) .none toc v_ pm an p_ ct):=
 ⟨⟨oc,od,an,E_,toc,v_,pm,p_,ct,a,rfl,l,c,k⟩⟩
theorem ii.def_(A:ii K m st f fd)(X:K.In h)(G:h.Ns mainGlobals mg)
  (hb:∀(kV v_ pm:Value) (an:Zm) (p_ ct:Value) (us:Zd),us.length=ps.length->bindArgs (PySem.W.fnOf m m (bq st) (aL st) (am st) .none kV v_ pm an p_ ct) ⟨us,[]⟩=pure (ps.zip us)):
  qJ K mg m st ps f fd:=by
 obtain⟨oc,od,an,E_,kV,v_,pm,p_,ct,a,rfl,l,c,k⟩:=A.ex;exact Gm X G a l c k hb
def Gz:Option (Option Value)->String->Bool
 |some (some (.builtin n)),s=>decide (n=s)
 |_,_=>false
def GA:Option (Option Value)->Bool
 |some none=>true
 |_=>false
def Ka{o:Option (Option Value)}{s:String}(h:Gz o s=true):o=some (some (.builtin s)):=by
 unfold Gz at h;split at h
 .cases XR h;rfl
 .cases h
def Kb{o:Option (Option Value)}(h:GA o=true):o=some none:=by
 unfold GA at h;split at h
 .rfl
 .cases h
def clsIn(K:Za)(C:Addr)(fs:Zf):Bool:=
 PySem.W.plainGet K C Str.empty&&PySem.W.hasDictIn K C&&PySem.W.plainOver K C&&Gz (PySem.W.findIn K (.ref C) "__setattr__") "object.__setattr__" && fs.all (λf=>GA (PySem.W.findIn K (.ref C) f))
def aW(h:clsIn K C ps=true):fV K C:=by
 unfold clsIn at h;simp only[YZ] at h;exact⟨h.1.1.1.1,h.1.1.1.2,h.1.1.2,Ka h.1.2⟩
def sG(h:clsIn K C ps=true)(hf:m∈ps):dc K C m:=by
 unfold clsIn at h;simp only[YZ] at h;exact Kb (XO.1 h.2 m hf)
structure MethAt (K:Za) (C:Addr) (m i_:Str) (st:Stmt) (f:Addr) (fd:Zv):Prop where
 at_:PySem.W.findIn K (.ref C) m=some (some (.ref f))
 fn:PySem.W.isFn K (.ref f)=true
 fun_:ni K m i_ st f fd
theorem MethAt.mk'
  (a:PySem.W.findIn K (.ref C) m=some (some (.ref f))) (l:K.lookup f=some ⟨oc,od,.func (PySem.W.fnOf m i_ (bq st) (aL st) (am st) .none toc v_ pm an p_ ct),E_⟩)
  (n:PySem.W.isFn K (.ref f)=true) (c:PySem.W.codeIn K p_ i_=true) (k:PySem.W.keepIn K (.ref f)=true):MethAt K C m i_ st f (PySem.W.fnOf m i_ (bq st) (aL st) (am st) .none toc v_ pm an p_ ct):=
 ⟨a,n,xS l c k⟩
theorem MethAt.meth(A:MethAt K C m i_ st f fd):F2 K C m f:=⟨A.at_,A.fn,A.fun_.kp⟩
def x4(K:Za)(x i_:Str)(st:Stmt)(f:Addr)(fd:Zv):Prop:=∃(oc:Value) (od:Zm) (c kV v_ pm:Value) (an:Zm) (p_ ct:Value) (E_:Zn),
 fd=PySem.W.fnOf x i_ (bq st) (aL st) (am st) c kV v_ pm an p_ ct/\K.lookup f=some ⟨oc,od,.func fd,E_⟩/\PySem.W.codeIn K p_ i_=true
def pZ(K:Za)(C:Addr)(m i_:Str)(st:Stmt)(ps:Zf)(n:Int):Prop:=∃(f:Addr) (fd:Zv) (t:Tok),PySem.W.findIn K (.ref C) m=some (some (.ref f))/\PySem.W.isFn K (.ref f)=true/\x4 K m i_ st f fd/\Binds K fd ps [.int n t]/\Binds K fd ps []
theorem pZ.mk'{T:Addr}{tk:Tok}{kV:Value}
  (hb:∀us:List Value,us.length+1=ps.length->∃k,bindArgs (PySem.W.fnOf m i_ (bq st) (aL st) (am st) (.ref T) kV v_ pm an p_ ct) ⟨us,[]⟩=seqItems? (.ref T) >>= k/\k (some #[.int b tk])=pure (ps.zip (us++[.int b tk])))
  (p:∀us:List Value,us.length=ps.length->∃k,bindArgs (PySem.W.fnOf m i_ (bq st) (aL st) (am st) (.ref T) kV v_ pm an p_ ct) ⟨us,[]⟩=seqItems? (.ref T) >>= k/\k (some #[.int b tk])=pure (ps.zip us))
  (a:PySem.W.findIn K (.ref C) m=some (some (.ref f))) (l:K.lookup f=some ⟨oc,od,.func (PySem.W.fnOf m i_ (bq st) (aL st) (am st) (.ref T) kV v_ pm an p_ ct),E_⟩)
  (t:K.lookup T=some ⟨toc,tod,.seq #[.int b tk] j,tsl⟩) (i:PySem.W.isFn K (.ref f)=true) (c:PySem.W.codeIn K p_ i_=true):pZ K C m i_ st ps b:=
 ⟨f,_,tk,a,i,⟨oc,od,.ref T,kV,v_,pm,an,p_,ct,E_,rfl,l,c⟩,λs us X hl=>by
  obtain⟨k,h1,g⟩:=hb us (by rw[←hl,ZK];rfl);exact BindsTo.of_defaults (T:=T) rfl (X _ _ t) rfl h1 g,λs us X hl=>by
  rw[ZA] at hl ⊢;obtain⟨k,h1,g⟩:=p us hl;exact BindsTo.of_defaults (T:=T) rfl (X _ _ t) rfl h1 g⟩
end
end DD
namespace K81
open PySem PySem.Spec PyProof.Rows L2 DD
def top(i:Nat):Stmt:=PySem.Challenge.pw_notring_k81_whole_answers_kept.main.body.getD i (.Pass ⟨0,0,0,0⟩)
abbrev i6:List Str:=["all","bool","enumerate","int","isinstance","len","list","min","range","set","sorted","tuple"]
abbrev fK:List Str:=["MOST_CONDS","HIGHEST_NUMBER","MOST_LISTED","MOST_FACTS","MOST_ROWS"]
abbrev nZ:List D:=[(.int 6),(.int 6),(.int 6),(.int 120),(.int 400)]
abbrev i7:Stmt:=top 48
abbrev tO:Stmt:=top 67
abbrev rX:Stmt:=inClass (top 19) 0
abbrev rY:Stmt:=inClass (top 20) 0
abbrev rZ:Stmt:=inClass (top 21) 0
abbrev sd:Stmt:=inClass (top 22) 0
abbrev oX:Stmt:=inClass (top 37) 0
abbrev qa:Stmt:=inClass (top 45) 0
def bp(K:Za)(x:Str)(st:Stmt):Prop:=∃f fd,ii K x st f fd
def bF(K:Za)(C:Addr)(m q:Str)(st:Stmt):Prop:=∃f fd,MethAt K C m q st f fd
abbrev Cp:List Str:=["fact","number","facts","at"]
abbrev Mu:List Str:=["many","heads","conds","headed","leanings","helped"]
abbrev Op:List Str:=["sheet","told","sure","unsure","parts","bases"]
structure Mv (K:Za) (cH cL cS cD S V:Addr):Prop where
 a_0:bp K "has_fact" (top 4)
 a_1:bp K "count_in" (top 23)
 a_2:bp K "_law_whole" (top 60)
 a_3:bp K "_law_size" (top 61)
 a_4:bp K "_law_holds" (top 62)
 a_5:bp K "_law_met" (top 63)
 a_6:bp K "_law_least" (top 64)
 a_7:bp K "_law_sorted" (top 65)
 a_8:bp K "set_of" (top 5)
 a_9:bp K "part_base" (top 38)
 a_10:bp K "is_ready" (top 16)
 a_11:bp K "members" (top 6)
 a_12:bp K "parts_by_least" (top 15)
 a_13:bp K "reached_sets" (top 14)
 a_14:bp K "parts_of" (top 13)
 a_15:bp K "all_carried" (top 25)
 a_16:bp K "carried_heads" (top 31)
 a_17:bp K "helped_rows" (top 30)
 a_18:bp K "all_rows" (top 29)
 a_19:bp K "ranked_among" (top 28)
 a_20:bp K "least_among" (top 27)
 a_21:bp K "next_pair" (top 35)
 a_22:bp K "to_and_fro" (top 34)
 a_23:bp K "is_whole" (top 2)
 a_24:bp K "is_below" (top 3)
 a_25:bp K "answer_in" (top 33)
 a_26:bp K "_law_fits" (top 66)
 a_27:bp K "rows_by_help" (top 48)
 a_28:bp K "row_leanings" (top 46)
 a_29:bp K "rows_by_head" (top 47)
 a_30:bp K "made_cond" (top 24)
 a_31:bp K "is_listing" (top 52)
 a_32:bp K "is_number" (top 51)
 a_33:bp K "is_cond" (top 50)
 a_34:bp K "is_row" (top 49)
 a_35:bp K "_law_cell_at" (top 54)
 a_36:bp K "_law_mixed" (top 55)
 a_37:bp K "_law_draw" (top 56)
 a_38:bp K "_law_facts" (top 57)
 a_39:bp K "_law_cond" (top 58)
 a_40:bp K "_law_row" (top 59)
 a_60:bF K cH "__init__" "Have.__init__" (inClass (top 19) 0)
 a_61:bF K cH "carried" "Have.carried" (inClass (top 19) 2)
 a_62:bF K cH "leaning" "Have.leaning" (inClass (top 19) 4)
 a_63:bF K cL "__init__" "Lack.__init__" (inClass (top 20) 0)
 a_64:bF K cL "carried" "Lack.carried" (inClass (top 20) 2)
 a_65:bF K cL "leaning" "Lack.leaning" (inClass (top 20) 4)
 a_66:bF K cS "__init__" "Some.__init__" (inClass (top 21) 0)
 a_67:bF K cS "carried" "Some.carried" (inClass (top 21) 2)
 a_68:bF K cS "leaning" "Some.leaning" (inClass (top 21) 4)
 a_69:bF K cD "__init__" "Lead.__init__" (inClass (top 22) 0)
 a_70:bF K cD "carried" "Lead.carried" (inClass (top 22) 2)
 a_71:bF K cD "leaning" "Lead.leaning" (inClass (top 22) 4)
 a_72:bF K S "__init__" "Sheet.__init__" (inClass (top 45) 0)
 a_73:bF K S "how_many" "Sheet.how_many" (inClass (top 45) 1)
 a_74:bF K S "rows_for" "Sheet.rows_for" (inClass (top 45) 4)
 a_75:bF K S "rows_helped" "Sheet.rows_helped" (inClass (top 45) 5)
 a_76:bF K S "head_of" "Sheet.head_of" (inClass (top 45) 6)
 a_77:bF K S "conds_of" "Sheet.conds_of" (inClass (top 45) 7)
 a_Sheet_leaned:bF K S "leaned" "Sheet.leaned" (inClass (top 45) 8)
 a_Keeper_init:pZ K V "__init__" "Keeper.__init__" (inClass (top 37) 0) ["self","sheet","told"] 0
 a_Keeper_work:bF K V "work" "Keeper.work" (inClass (top 37) 9)
 a_Keeper_work_behind:bF K V "work_behind" "Keeper.work_behind" (inClass (top 37) 8)
 a_Keeper_put:bF K V "put" "Keeper.put" (inClass (top 37) 1)
 a_Keeper_drop:bF K V "drop" "Keeper.drop" (inClass (top 37) 2)
 a_Keeper_answer_at:bF K V "answer_at" "Keeper.answer_at" (inClass (top 37) 3)
 a_Keeper_told_facts:bF K V "told_facts" "Keeper.told_facts" (inClass (top 37) 4)
 a_Keeper_parts_list:bF K V "parts_list" "Keeper.parts_list" (inClass (top 37) 7)
 a_Keeper_true_facts:bF K V "true_facts" "Keeper.true_facts" (inClass (top 37) 5)
 a_Keeper_open_facts:bF K V "open_facts" "Keeper.open_facts" (inClass (top 37) 6)
def IO(sp:az):Prop:=∀{l:PySem.W.OpenLaw}{w:World}{K:Za}{h:Heap}{mg:Ze}{a cH cL cS cD S V:Addr}(X:K.In h) (G:h.Ns mainGlobals mg) (b:mg "law" = some (.ref a))
 (g:(decide (cH≠cL)&&decide (cH≠cS)&&decide (cH≠cD)&&decide (cL≠cS)&&decide (cL≠cD)&&decide (cS≠cD))=true) (gl:qO K fK nZ=true) (bl:En K i6=true)
 (j:PySem.W.nsIn K mainGlobals "Have" = some (some (.ref cH))) (Sh:(clsIn K cH Cp&&PySem.W.makesIn K cH&&PySem.W.keepIn K (.ref cH))=true)
 (Si:PySem.W.nsIn K mainGlobals "Lack" = some (some (.ref cL))) (Sj:(clsIn K cL Cp&&PySem.W.makesIn K cL&&PySem.W.keepIn K (.ref cL))=true)
 (Sk:PySem.W.nsIn K mainGlobals "Some" = some (some (.ref cS))) (Sl:(clsIn K cS Cp&&PySem.W.makesIn K cS&&PySem.W.keepIn K (.ref cS))=true)
 (Sm:PySem.W.nsIn K mainGlobals "Lead" = some (some (.ref cD))) (Sn:(clsIn K cD Cp&&PySem.W.makesIn K cD&&PySem.W.keepIn K (.ref cD))=true)
 (So:PySem.W.nsIn K mainGlobals "Sheet" = some (some (.ref S))) (Sq:(clsIn K S Mu&&PySem.W.makesIn K S&&PySem.W.keepIn K (.ref S))=true)
 (O_:PySem.W.nsIn K mainGlobals "Keeper" = some (some (.ref V))) (P4:(clsIn K V Op&&PySem.W.makesIn K V&&PySem.W.keepIn K (.ref V))=true)
 {c:Addr}{f:Zv}(QD:ii K "law" tO c f)
 (hy:Mv K cH cL cS cD S V),
 ∃fd:FuncData,(∀(s:Shared) (v:Value),BindsTo s fd ⟨[v],[]⟩ [("_law_script",v)])/\∀base:Heap,K.In base->base.Ns mainGlobals mg->fm l.prog w K mg base jZ 14 a fd ["_law_script"] (ig K sp)
end K81
section
open PySem PySem.W PyProof.Rows L2 DD
local macro_rules
  | `(tactic| o_head $H:term) => `(tactic| refine holds_open (q := K81.viewQ) (loose := []) (Xt := λs => xlAt K81.viewQ [] s && recOk [] s) (XP := XL K81.viewQ []) (Yf := Hook.obs $H) (Ya := Hook.val $H) (YP := Hook.says $H) (N := 13100) ?$(Lean.mkIdent `hl) (Hook.of $H) (Hook.keeps $H)
      (λs e=>xl_of s (Bool.and_eq_true_iff.mp e).1) XL.keeps (by rfl) (by rfl) (by rfl) (λs e=>recFacts_of (Bool.and_eq_true_iff.mp e).2) (by rfl) (by first | assumption | rfl') (by rfl') ⟨rfl,rfl,rfl,rfl,rfl,by rfl'⟩ ?$(Lean.mkIdent `hw) ?$(Lean.mkIdent `hc))
set_option maxHeartbeats 0 in
theorem K81.over{sp:az}(ok:xx 63 sp)(f:K81.IO sp):PySem.Challenge.rw_notring_k81_whole_answers_kept.Holds:=by
 w_on;refine holds_law K81.said λsaid=>?_;k_head
 (case hl=>exact TopT.NR K81.seen1 K81.seen2 K81.seen3 K81.seen5 K81.seen6 (λw=>by kernel_rfl))
 (case hw=>w_witness2);k_fill;refine DD.Oo (l:=PySem.Challenge.rw_notring_k81_whole_answers_kept) (n:=63) (k:=14) (x:="_law_script") rfl 'b' rfl ⟨rfl,by decide,by decide⟩ ok (λw h Y=>PySem.W.kIn_of Y) ?noL ?defs
 case noL=>intro w;kernel_rfl
 case defs=>
  intro w mg m h g G j;refine' f g G j ?ap ?gl ?bl ?Sg ?Sh ?Si ?Sj ?Sk ?Sl ?Sm ?Sn ?So ?Sq ?O_ ?P4 (ii.mk' ?QD ?l_41 ?c_41 ?W7) ?hy
  case Sg | Si | Sk | Sm | So | O_ | QD | l_41 | c_41 | W7=>k_is
  case hy=>
   constructor<;>first
    |(refine'⟨_,_,ii.mk' ?a ?l ?c ?k⟩;case a | l | c | k=>k_is)
    |(refine'⟨_,_,MethAt.mk' ?a ?l ?n ?c ?k⟩;case a | l | n | c | k=>k_is)
    |(refine' pZ.mk' ?b ?d ?a ?l ?t ?i ?c;(case a | l | t | i | c=>k_is);(case b=>exact λus hl=>match us,hl with | [_,_],_=>⟨_,rfl,rfl⟩);(case d=>exact λus hl=>match us,hl with | [_,_,_],_=>⟨_,rfl,rfl⟩))
  case ap | gl | bl | Sh | Sj | Sl | Sn | Sq | P4=>kernel_rfl
end
namespace DD
open PySem PySem.Spec PyProof.Rows L2
variable {K:Za}{d y:D}{a l:Addr}{v u:V}{s:Shared}{H0:Hp}{tg iter:Expr}{ds xs:List D}{b_:Zc}{ρ:L2.St}{t te:WE}{vs us:List V}{g:dZ}{M:MH}{u' v':Value}{j ep:Nat}{c:WT}{D':Ends}{A:Around}{d_ o_:Zd}{tb:WS}{Rb py:Pos}{f:Zk}{σ:DS}{i b:Int}{R R':It->Hp->Prop}{n_:List (Key×V)}{P:Zw}{body:Zu}{N ps:Zf}{f_:ZC}{Q Q':VK}{X:Cx}{env:Env}
def ve{w:World}{k:Key}(h:(bY P w).is k u'=true):RelV (kV k) u':=by
 rw[BU] at h;rcases cq h with⟨i,t,rfl,rfl⟩ | ⟨x,t,rfl,rfl⟩
 .exact⟨t,rfl⟩
 .exact⟨t,rfl⟩
def Mw(a:Addr)(u:Obj)(n_:List (Key×V)):It:=
 ⟨λi H=>H a=some (.frz u (.dK n_))/\i<n_.length,λi H x H'=>H'=H/\∃kv,n_[i]?=some kv/\x=kV kv.1,λi H=>H a=some (.frz u (.dK n_))/\n_.length<=i⟩
def nk{H:Hp}{u:Obj}(I:af X b_ ρ H s)(h:H a=some (.frz u (.dK n_))):
  (a==sysModules)=false/\n_.length<=sizeLine/\∃vs es ep,KV n_ vs/\u.data=.dict es ep/\s.heap.DictAt (bY X.prog X.w) a vs ep:=by
 obtain⟨h1,m,hd,vs,n,o,es,ep,k,r⟩:=(show bn X.prog X.w H s.heap a (.frz u (.dK n_)) from I.hok a _ h);have e:o=u:=by rw[h1] at k;cases k;rfl
 subst e;exact⟨hd,m,vs,es,ep,n,r.2.1,o,es,k,r⟩
def Er{w:World}(a it:Addr){u:Obj}{es:Array DictEntry}(hu:u.data=.dict es ep):
  Turn P w K tg (Mw a u n_) [it] it (λi h=>h.IsKeyIter it a i n_.length ep) where
 mem:=by simp
 obj:=λi h st b hb=>by
  have e:b=it:=by simpa using hb
  subst e;obtain⟨o,e,c,d⟩:=st;exact⟨o,e,λv z=>by rw[d] at z;cases z⟩
 keep:=λi h h' st k=>st.at λo e=>k it (by simp) o e
 item:=by
  intro X p hw r hc i b_ s σ H E I hf st hg;subst p hw r;obtain⟨hq,hi⟩:=hg;obtain⟨hd,W,vs,Y,B,m,n,hm⟩:=nk I hq;have C:B=ep:=by rw[hu] at n;cases n;rfl
  subst C;obtain⟨⟨k,x⟩,hx,hr⟩:=eI m (ZD hi);obtain⟨G,J,Z,L,O,S⟩:=hf it (by simp);rw[m.length] at st;refine wpAny_pyNext_dict_item st hm hx λT h' S3 l_ sb=>?_
  have I1:af X b_ σ H { s with heap:=h' }:=I.turned (t':=s.toks) (λb o hb e=>(sb.2 b hb).trans e) G J L O S;obtain⟨o,e,c,d⟩:=id l_;rw[←m.length] at l_;have U:n_[i].1=k:=hr.1;exact⟨T,rfl,xq (s:={ s with heap:=h' }) e c d 'b' ⟨kV k,H,I1,ve S3,⟨rfl,n_[i],ZD hi,by rw[U]⟩,l_,λb hb=>(hf b hb).1⟩⟩
 done:=by
  intro X p hw r hc i b_ s σ H E I hf st hg;subst p hw r;obtain⟨hq,hi⟩:=hg;obtain⟨hd,W,vs,Y,B,m,n,hm⟩:=nk I hq;have C:B=ep:=by rw[hu] at n;cases n;rfl
  subst C;obtain⟨G,J,Z,L,O,S⟩:=hf it (by simp);rw[m.length] at st;have hx:vs[i]?=none:=by rw[List.getElem?_eq_none_iff,←m.length];exact hi
  exact wpAny_pyNext_dict_end (I.ok.hd hc) st hm hx λh' eb=>⟨rfl,I.turned (t':=s.toks) (λb o hb e=>eb b o hb e) G J L O S⟩
 self:=λ_ _ _ _ _ st h=>wpAny_pyIter_keyiter st h
section
variable {X:Cx}{ρ:L2.St}{H:Hp}
def AU{u:Obj}(I:af X b_ ρ H s)(hq:H a=some (.frz u (.dK n_)))(q:R (Mw a u n_) H):
  wpAny 'c' X.A (pyIter (.ref a)) (vQ X b_ ρ tg R) X.xe s:=by
 obtain⟨hd,m,vs,es,ep,k,hu,hm⟩:=nk I hq;refine wpAny_pyIter_dict hd hm ?_;refine⟨s.heap.objs.size,[s.heap.objs.size],_,_,H,rfl,I.kept (t':=s.toks) λb o e=>Yd _ e,Er a _ hu,⟨_,Yg _ rfl,rfl,by rw[k.length];rfl⟩,λb hb=>?_,q⟩;have e:b=s.heap.objs.size:=by simpa using hb
 subst e;exact I.fpOk (YG _) (I.hok.fresh (YG _))
def freeze(I:af X b_ ρ H s)(hq:H a=some (.dK n_)):∃u,af X b_ ρ (upd H a (.frz u (.dK n_))) s:=by
 obtain⟨n,hd,vs,p,k⟩:=(show bn X.prog X.w H s.heap a (.dK n_) from I.hok a _ hq);obtain⟨o,es,ep,m,r⟩:=id k;refine⟨o,?_⟩
 have:=I.write (x:=a) (e:=a) (o:=.frz o (.dK n_)) (h':=s.heap) (t':=s.toks) (by rw[hq];exact trivial) (.inl rfl) (λb u _ e=>e) ⟨_,m⟩ ⟨m,n,hd,vs,p,k⟩
 exact this
end
structure cP where
 nx:DS->MH->Prop
 rt:DK
 bk:DS->MH->Prop:=λ_ _=>False
 ct:DS->MH->Prop:=λ_ _=>False
abbrev WS:=cP->DS->MH->Prop
def tP(K:Za)(H:Hp)(n:DS->MH->Prop):L2.St->Hp->Prop:=λm H'=>Kp H H'/\∃k M',RS K H' k m/\RM K M' H'/\n k M'
def xy(K:Za)(H:Hp)(D:cP):Ends:={ nx:=tP K H D.nx,rt:=lift K H D.rt,bk:=tP K H D.bk,ct:=tP K H D.ct }
structure Cq (D D':Ends):Prop where
 nx:∀ρ H,D.nx ρ H->D'.nx ρ H
 rt:∀v H,D.rt v H->D'.rt v H
 bk:∀ρ H,D.bk ρ H->D'.bk ρ H
 ct:∀ρ H,D.ct ρ H->D'.ct ρ H
section
variable {X:Cx}{st:Stmt}{QH:Zu}{ρ:L2.St}{H H':Hp}{pos:Pos}{e:Expr}
def kT{n:DS->MH->Prop}(k:Kp H H')(h:tP K H' n ρ H0):tP K H n ρ H0:=⟨k.trans h.1,h.2⟩
def sH{D:cP}(k:Kp H H'):Cq (xy K H' D) (xy K H D):=⟨λ_ _=>kT k,λ_ _=>cI k,λ_ _=>kT k,λ_ _=>kT k⟩
theorem SP.imp{D:Ends}{f:Flow}(i:Cq D D')(h:SP X b_ D f s):SP X b_ D' f s:=by
 cases f with
 |next=>obtain⟨a,b,c,d⟩:=h;exact⟨a,b,c,i.nx _ _ d⟩
 |brk=>obtain⟨a,b,c,d⟩:=h;exact⟨a,b,c,i.bk _ _ d⟩
 |cont=>obtain⟨a,b,c,d⟩:=h;exact⟨a,b,c,i.ct _ _ d⟩
 |ret u=>obtain⟨v,a,b,c,r,d⟩:=h;exact⟨v,a,b,c,r,i.rt _ _ d⟩
def sJ(X:Cx)(QH:Zu):L2.TS:=λD ρ H=>∀b_ s,af X b_ ρ H s->wpAny 'c' X.A (execs QH X.env) (SP X b_ D) X.xe s
def Pg(st:Stmt):PS X st (AO X st):=λb_ s _ _ _ I h=>h b_ s I
def n5(QH:Zu):kN X QH (sJ X QH):=λb_ s _ _ _ I h=>h b_ s I
def eJ{t:L2.TS}{D:Ends}(h:PS X st t)(q:t D ρ H):AO X st D ρ H:=λb_ s I=>h b_ s ρ H D I q
def AV{t:L2.TS}{D:Ends}(h:kN X QH t)(q:t D ρ H):sJ X QH D ρ H:=λb_ s I=>h b_ s ρ H D I q
def GB{D:Ends}(h:AO X st D ρ H)(i:Cq D D'):AO X st D' ρ H:=λb_ s I=>aK (h b_ s I) λ_ _ q=>SP.imp i q
def fo{D:Ends}(h:sJ X QH D ρ H)(i:Cq D D'):sJ X QH D' ρ H:=λb_ s I=>aK (h b_ s I) λ_ _ q=>SP.imp i q
def kU(X:Cx)(st:Stmt)(t:WS):Prop:=∀σ M ρ H D,RS X.K H σ ρ->RM X.K M H->t D σ M->AO X st (xy X.K H D) ρ H
def n6(X:Cx)(QH:Zu)(t:WS):Prop:=∀σ M ρ H D,RS X.K H σ ρ->RM X.K M H->t D σ M->sJ X QH (xy X.K H D) ρ H
def qP:WS:=λD σ M=>D.nx σ M
def GC(t u:WS):WS:=λD σ M=>t { D with nx:=u D } σ M
def GD:n6 X [] qP:=λσ M ρ H D rs k q=>AV Jt ⟨Kp.refl H,σ,M,rs,k,q⟩
def Et{u:WS}(h:kU X st tb)(h':n6 X QH u):n6 X (st::QH) (GC tb u):=by
 intro σ M ρ H D rs m q;refine AV (FS (Pg st) (n5 QH)) ?_;show AO X st _ ρ H;refine GB (h σ M ρ H _ rs m q) ⟨λn H' o=>?_,λ_ _ z=>z,λ_ _ z=>z,λ_ _ z=>z⟩;obtain⟨k,p,M',r,B,C⟩:=o;exact fo (h' p M' n H' D r B C) (sH k)
def GE(t:WE):WS:=λD σ M=>t σ M D.rt
def Kc(h:aN X e t):kU X (.Return (some e) pos) (GE t):=λσ M ρ H D rs k q=>eJ (LJ (bJ e)) (h σ M ρ H _ rs k q)
def GF:kU X (.Pass pos) qP:=λσ M ρ H D rs k q=>eJ Ju ⟨Kp.refl H,σ,M,rs,k,q⟩
def Eu:kU X st 'd':=λ_ _ _ _ _ _ _ q=>Yh q
def dm:Expr->Bool
 |.ListComp _ _ _ _=>false
 |.SetComp _ _ _ _=>false
 |.DictComp _ _ _ _ _=>false
 |_=>true
def tQ{t:Option Expr}(h:dm e=true):swapsWith e t j env=pure false:=by
 cases e<;>first | rfl | (exact absurd (show false=true from h) YF)
def Cr(t:WE):WS:=λD σ M=>t σ M λ_ M1=>D.nx σ M1
def GG(h:aN X e t)(hc:dm e=true):kU X (.Expr e pos) (Cr t):=by
 intro σ M ρ H D rs m q;refine eJ (Jv (bJ e) (tQ hc)) ?_;show tW X e ρ H _;refine aM (h σ M ρ H _ rs m q) λv r n=>?_
 obtain⟨k,x,M1,z,o,p⟩:=n;exact⟨k,σ,M1,rs.mono k,o,p⟩
def GH(i:Nat)(t:WE):WS:=λD σ M=>t σ M λx M1=>D.nx (σ.set i (some x)) M1
def GI(c:WT)(t u:WS):WS:=λD σ M=>c σ M λb M1=>dq b (t D σ M1) (u D σ M1)
def Mx{a b:Zu}{tc:WT}{u:WS}(hc:kS X e tc)(ha:n6 X a tb)(hb:n6 X b u):kU X (.If e a b pos) (GI tc tb u):=by
 intro σ M ρ H D rs r q;refine eJ (NZ (nX e) (n5 a) (n5 b)) ?_;show rV X e ρ H _;refine gD (hc σ M ρ H _ rs r q) λk n z=>?_
 obtain⟨m,M1,o,p⟩:=z;cases k with
 |true=>exact fo (ha σ M1 ρ n D (rs.mono m) o p) (sH m)
 |false=>exact fo (hb σ M1 ρ n D (rs.mono m) o p) (sH m)
inductive dZ where
 |nm (i:Nat) | tp (is:Zj)
def Cs:List Nat->rO
 |[]=>LK
 |i::is=>IC (xp i) (Cs is)
section
variable {prog:Zw}{w:World}{A:Around}{E:Zb}
theorem x5{it l:Addr}{d_:Zl}(ne:l≠it):∀(n i:Nat) (s:Shared) (Q:List Value->Shared->Prop),s.heap.IsListIter it l i->s.heap.IsList l d_->i+n<=d_.size ->
  (∀h',h'.IsListIter it l (i+n)->Heap.SameBut it s.heap h'->Q ((d_.toList.drop i).take n) { s with heap:=h' })->wpAny 'f' A (draw (.ref it) n) Q E s
 |0,i,s,Q,hi,_,_,q=>by
  rw[draw];exact Yc (by simpa using q s.heap hi (Heap.SameBut.refl ..))
 |n+1,i,s,Q,hi,hl,le,q=>by
  have lt:i<d_.size:=by omega
  rw[draw];refine Yb (wpAny_pyNext_list_item hi hl (x:=d_[i]) (by simp[lt]) λh1 k s1=>?_);refine Yb (Yj (x5 ne n (i+1) _ _ k (hl.extBut s1.extBut ne) 'a' λm o s2=>Yc ?_));have e:d_.toList.drop i=d_[i]::d_.toList.drop (i+1):=by simp[List.drop_eq_getElem_cons,lt]
  have r:=q m (by rw[show i+(n+1)=i+1+n by omega];exact o) (s1.trans s2);rw[e,List.take_succ_cons] at r;exact r
theorem Ct{d_:Zl}{ts:List (Bool×(Value->Sem Unit))}{Q:Zo}(k:A.handled=none)(hl:s.heap.IsList l d_)(hn:ts.length=d_.size)(hs:ts.findIdx? (·.1)=none)
  (h:∀h',Heap.ExtBut s.heap.objs.size s.heap h'->wpAny 'f' A (assignInOrder (ts.map (·.2)) d_.toList) Q E { s with heap:=h' }):wpAny 'f' A (unpack (.ref l) ts) Q E s:=by
 have ne:l≠s.heap.objs.size:=by obtain⟨o,m,_⟩:=hl;exact ZU (Ye m)
 unfold unpack;rw[hn,hs];refine Yb (Yj ?_);unfold unpackItems;refine Yb ?_;unfold notIterableAtAll;refine Yb (wpAny_specialOf hl.typeIs slot_list_iter.lookup (Yc ?_));simp only[XM,if_false];refine Yb (Yj (wpAny_pyIter_list hl ?_));refine Yb (Yj (x5 ne d_.size 0 _ _ ⟨_,Yg _ rfl,rfl,rfl⟩ (hl.push _) 'a' λh1 n s1=>?_));have e:List.take d_.size (List.drop 0 d_.toList)=d_.toList:=by rw[List.drop_zero];exact List.take_of_length_le (by simp)
 rw[e,if_neg (by simp)];refine Yb (Yj (wpAny_pyNext_list_end k n ((hl.push _).extBut s1.extBut ne) (by simp) λp r=>?_));simp only[Option.isSome_none,XM,if_false];exact Yc (h p λb o hb z=>r b o hb (s1.extBut b o hb (Yd _ z)))
end
def My(K:Za)(n:Nat)(t:rO):TG:=λv σ H Q=>∃a xs,v=.ref a/\(bX K H a xs\/bQ K H a xs)/\xs.length=n/\t xs σ H Q
def Mz{es:Zg}{t:rO}(hc:X.calm=true)(h:AA X es t)(hn:(assignEach es X.env).length=j)(k:(assignEach es X.env).findIdx? (·.1)=none):PG X (.Tuple es ep pos) (My X.K j t):=by
 intro b_ s σ H v u Q I r hw;obtain⟨a,xs,e1,hq | hq,hl,hw⟩:=hw
 .exact LL hc h hn k b_ s σ H v u Q I r ⟨a,xs,e1,hq,hl,hw⟩
 .subst e1
  cases r;obtain⟨d_,m,ht,p⟩:=I.list hq;rw[PyProof.Rows.assign_Tuple];refine Yb (Yk (Ct (I.ok.hd hc) ht.isList (by simp[hn,←hl,m.length]) k λh' hx=>?_));have n:af X b_ σ H { s with heap:=h' }:=I.kept (t':=s.toks) λb o e=>hx b o (ZU (Ye e)) e
  exact h b_ _ σ H xs _ Q n (by simpa using m) hw
def x9(K:Za):dZ->TG
 |.nm i=>xp i
 |.tp is=>My K is.length (Cs is)
def setM:List Nat->List D->DS->DS
 |i::is,d::ds,σ=>setM is ds (σ.set i (some d))
 |_,_,σ=>σ
def tR:dZ->D->DS->(DS->Prop)->Prop
 |.nm i,d,σ,Q=>Q (σ.set i (some d))
 |.tp is,.tup ds,σ,Q=>ds.length=is.length/\Q (setM is ds σ)
 |.tp _,_,_,_=>False
theorem vf{K:Za}:∀(is:Zj) (ds:List D) (vs:List V) (σ:DS) (ρ:L2.St) (H:Hp) (Q:L2.St->Hp->Prop),aj K H ds vs->RS K H σ ρ->ds.length=is.length ->
  (∀k,RS K H (setM is ds σ) k->Q k H)->Cs is vs ρ H Q
 |[],[],vs,σ,ρ,H,Q,r,rs,_,q=>by rw[aj] at r;subst r;exact⟨rfl,q ρ rs⟩
 |i::is,d::ds,vs,σ,ρ,H,Q,r,rs,l,q=>by
  rw[aj] at r;obtain⟨v,m,rfl,n,o⟩:=r;exact⟨v,m,rfl,vf is ds m (σ.set i (some d)) (ρ.set i (some v)) H Q o (rs.set i n) (by simpa using l) q⟩
def ya{Q:L2.St->Hp->Prop}{Q':DS->Prop}(r:RV K H d v)(rs:RS K H σ ρ)(h:tR g d σ Q')(f:∀k m,RS K H m k->Q' m->Q k H):x9 K g v ρ H Q:=by
 cases g with
 |nm i=>exact f _ _ (rs.set i r) h
 |tp is=>
  cases d with
  |tup ds=>
   obtain⟨a,xs,rfl,s,n⟩:=RV.tup_.1 r;exact⟨a,xs,rfl,.inl s,by rw[←n.len];exact h.1,vf is ds xs σ ρ H Q n rs h.1 λk o=>f k _ o h.2⟩
  |_=>exact Yh h
def OB(X:Cx)(tg:Expr)(t:dZ):Prop:=PG X tg (x9 X.K t)
theorem RM.list(m:RM K M H)(h:cu (M a)=some ds):∃vs,bQ K H a vs/\aj K H ds vs:=by
 cases e:M a with
 |none=>rw[e] at h;cases h
 |some o=>
  rw[e] at h;cases o with
  |lst xs=>cases h;obtain⟨vs,q,r⟩:=m a _ e;exact⟨vs,bQ.of q,r⟩
  |rol xs=>cases h;obtain⟨vs,q,r⟩:=m a _ e;exact⟨vs,.inl q,r⟩
  |_=>cases h
def Cu(t:dZ)(d:D)(M:MH)(σ:DS)(Q:DS->Prop):Prop:=match d with
 |.ref a=>match t with
  |.nm i=>Q (σ.set i (some (.ref a)))
  |.tp is=>match cu (M a) with
   |some ds=>ds.length=is.length/\Q (setM is ds σ)
   |none=>False
 |d=>tR t d σ Q
def Kd{Q:L2.St->Hp->Prop}{Q':DS->Prop}(r:RV K H d v)(rs:RS K H σ ρ)(m:RM K M H)(h:Cu g d M σ Q')(f:∀k n,RS K H n k->Q' n->Q k H):x9 K g v ρ H Q:=by
 cases d with
 |ref a=>
  cases g with
  |nm i=>exact f _ _ (rs.set i r) h
  |tp is=>
   have h:match cu (M a) with | some ds=>ds.length=is.length/\Q' (setM is ds σ) | none=>False:=h
   split at h
   .rename_i ds e
    obtain⟨vs,sq,o⟩:=m.list e;cases RV.ref_.1 r;exact⟨a,vs,rfl,.inr sq,by rw[←o.len];exact h.1,vf is ds vs σ ρ H Q o rs h.1 λk p=>f k _ p h.2⟩
   .exact Yh h
 |_=>exact ya r rs h f
def GJ(t:WE)(g:dZ):WS:=λD σ M=>t σ M λx M1=>Cu g x M1 σ λk=>D.nx k M1
def Ke(h:aN X e t)(hg:OB X tg g)(hs:swapsWithSole [tg] e pos.line X.env=pure false)(hw:swappedStores [tg] e X.env=pure none)(h1:(assignEach [tg] X.env).map (·.2)=[assign tg X.env]):kU X (.Assign [tg] e pos) (GJ t g):=by
 intro σ M ρ H D rs n q;refine eJ (xK (bJ e) hg hs hw h1) ?_;show tW X e ρ H _;refine aM (h σ M ρ H _ rs n q) λv E o=>?_
 obtain⟨k,x,M1,p,m,r⟩:=o;exact Kd p (rs.mono k) m r λG z B C=>⟨k,z,M1,B,m,C⟩
abbrev WI:=DS->MH->(List D->(MH->Prop)->MH->Prop)->Prop
def wc(K:Za)(J:It)(H0:Hp)(xs:List D)(g:MH->Prop):Prop:=∀i H M,Kp H0 H->RM K M H->g M->(i<xs.length->J.go i H)/\(i=xs.length->J.stop i H)/\∀x H' d,xs[i]?=some d->J.yld i H x H'->Kp H H'/\RM K M H'/\RV K H' d x
def iW(X:Cx)(tg iter:Expr):TI:=λρ H R=>∀b_ s,af X b_ ρ H s->wpAny 'c' X.A (eval iter X.env) (λv s1=>wpAny 'c' X.A (pyIter v) (vQ X b_ ρ tg R) X.xe s1) X.xe s
def GK(tg iter:Expr):PI X tg iter (iW X tg iter):=λb_ s _ _ _ I h=>h b_ s I
def IP{t:TI}(h:PI X tg iter t)(q:t ρ H R):iW X tg iter ρ H R:=λb_ s I=>h b_ s ρ H R I q
def vg(h:iW X tg iter ρ H R)(f:∀J H',R J H'->R' J H'):iW X tg iter ρ H R':=λb_ s I=>aK (h b_ s I) λ_ _ q=>aK q λ_ _ ⟨it,fp,tn,J,H',e,k,T,st,fk,r⟩=>⟨it,fp,tn,J,H',e,k,T,st,fk,f J H' r⟩
def Ph(K:Za)(H:Hp)(R:List D->(MH->Prop)->MH->Prop):It->Hp->Prop:=λJ H'=>Kp H H'/\∃xs g M',RM K M' H'/\g M'/\wc K J H' xs g/\xs.length<=sizeLine/\R xs g M'
def wd(X:Cx)(tg iter:Expr)(t:WI):Prop:=∀σ M ρ H R,RS X.K H σ ρ->RM X.K M H->t σ M R->iW X tg iter ρ H (Ph X.K H R)
def kD:Key->D
 |.inl i=>.int i
 |.inr x=>.str x
def keysOf(f_:ZC):List D:=f_.map λkv=>kD kv.1
def IQ(k:Key):RV K H (kD k) (kV k):=by
 cases k with
 |inl i=>exact RV.int_.2 rfl
 |inr x=>exact RV.str_.2 rfl
theorem yb{u:Obj}(e:H0 a=some (.frz u (.dK n_)))(hk:n_.map (·.1)=f_.map (·.1))(g:MH->Prop):wc K (Mw a u n_) H0 (keysOf f_) g:=by
 intro i H M k n _;have hl:n_.length=f_.length:=by have:=congrArg List.length hk;simpa using this
 have e':=k.2 a _ _ e;have hn:(keysOf f_).length=f_.length:=by unfold keysOf;rw[ZF]
 rw[hn];refine⟨λhi=>⟨e',by omega⟩,λhi=>⟨e',by omega⟩,λx H' d hd o=>?_⟩;obtain⟨e1,kv,h1,r⟩:=o;subst e1 r;unfold keysOf at hd;rw[ZG] at hd;have m:(f_[i]?).map (·.1)=some kv.1:=by
  have:=congrArg (λl=>l[i]?) hk
  simp only[ZG,h1] at this;rw[←this];rfl
 cases q:f_[i]? with
 |none=>rw[q] at m;cases m
 |some p=>
  rw[q] at m hd;cases hd;have m:p.1=kv.1:=by simpa using m
  refine⟨Kp.refl _,n,?_⟩;show RV K _ (kD p.1) _;rw[m];exact IQ _
def MA(x:D)(M:MH)(R:List D->(MH->Prop)->MH->Prop):Prop:=match x with
 |.tup ds=>R ds (λ_=>True) M
 |.ref a=>match M a with
  |some (.lst ds)=>R ds (λM'=>M' a=some (.lst ds)) M
  |some (.rol ds)=>R ds (λM'=>M' a=some (.rol ds)) M
  |some (.dic f_)=>R (keysOf f_) (λM'=>M' a=some (.rod f_)) (ae M a (.rod f_))
  |some (.rod f_)=>R (keysOf f_) (λM'=>M' a=some (.rod f_)) M
  |_=>False
 |_=>False
def yc{g:MH->Prop}(hg:∀H M,RM K M H->g M->∃vs,bQ K H a vs/\aj K H ds vs):wc K (LP K a) H0 ds g:=by
 intro i H M _ m q;obtain⟨vs,sq,k⟩:=hg H M m q;refine⟨λhi=>?_,λhi=>⟨vs,sq,by rw[←k.len];exact Nat.le_of_eq hi.symm⟩,λx H' d hd ⟨e,y⟩=>?_⟩
 .have:i<vs.length:=by rw[←k.len];exact hi
  exact⟨vs,vs[i],sq,ZD this⟩
 .subst e
  obtain⟨v,hv,r⟩:=eI k.p hd
  have:=y vs sq
  rw[hv] at this;cases this;exact⟨Kp.refl _,m,r⟩
def Kf(sq:bX K H0 a vs)(m:aj K H0 ds vs):wc K (LQ K a) H0 ds (λ_=>True):=by
 intro i H M k n _;have sq:=k.sq sq;have m:=aj.mono k _ m;refine⟨λhi=>?_,λhi=>⟨vs,sq,by rw[←m.len];exact Nat.le_of_eq hi.symm⟩,λx H' d hd ⟨e,y⟩=>?_⟩
 .have:i<vs.length:=by rw[←m.len];exact hi
  exact⟨vs,vs[i],sq,ZD this⟩
 .subst e
  obtain⟨v,hv,r⟩:=eI m.p hd
  have:=y vs sq
  rw[hv] at this;cases this;exact⟨Kp.refl _,n,r⟩
def Cv(t:WE):WI:=λσ M R=>t σ M λx M1=>MA x M1 R
def AW(I:af X b_ ρ H s)(hq:bQ X.K H a vs)(q:R (LP X.K a) H):wpAny 'c' X.A (pyIter (.ref a)) (vQ X b_ ρ tg R) X.xe s:=by
 obtain⟨d_,k,p,m⟩:=I.list hq;refine wpAny_pyIter_list p.isList ?_;refine⟨s.heap.objs.size,[s.heap.objs.size],_,_,H,rfl,I.kept (t':=s.toks) λb o e=>Yd _ e,DQ a _,⟨_,Yg _ rfl,rfl,rfl⟩,λb hb=>?_,q⟩;have e:b=s.heap.objs.size:=by simpa using hb
 subst e;exact I.fpOk (YG _) (I.hok.fresh (YG _))
def MB(I:af X b_ ρ H s)(hq:bX X.K H a vs)(q:R (LQ X.K a) H):wpAny 'c' X.A (pyIter (.ref a)) (vQ X b_ ρ tg R) X.xe s:=by
 obtain⟨d_,k,p,m⟩:=I.tuple hq;refine wpAny_pyIter_tuple (show s.heap.IsTuple a d_.toArray from p) ?_;refine⟨s.heap.objs.size,[s.heap.objs.size],_,_,H,rfl,I.kept (t':=s.toks) λb o e=>Yd _ e,BW a _,⟨_,Yg _ rfl,rfl,rfl⟩,λb hb=>?_,q⟩;have e:b=s.heap.objs.size:=by simpa using hb
 subst e;exact I.fpOk (YG _) (I.hok.fresh (YG _))
theorem Kg{l:Expr}(h:aN X l t):wd X tg l (Cv t):=by
 intro σ M ρ H R rs T q b_ s I;refine aK (h σ M ρ H _ rs T q b_ s I) λu s1 U=>?_
 obtain⟨v,W,n,J,⟨B,d,M1,L,o,k⟩⟩:=U;cases d with
 |tup ds=>
  obtain⟨a,xs,rfl,sq,p⟩:=RV.tup_.1 L;cases J;obtain⟨_,_,_,r⟩:=n.tuple sq;exact MB n sq ⟨B,ds,_,M1,o,trivial,Kf sq p,by rw[p.len];exact r,k⟩
 |ref a=>
  cases RV.ref_.1 L;cases J;have k:match M1 a with
   |some (.lst ds)=>R ds (λM'=>M' a=some (.lst ds)) M1
   |some (.rol ds)=>R ds (λM'=>M' a=some (.rol ds)) M1
   |some (.dic f_)=>R (keysOf f_) (λM'=>M' a=some (.rod f_)) (ae M1 a (.rod f_))
   |some (.rod f_)=>R (keysOf f_) (λM'=>M' a=some (.rod f_)) M1
   |_=>False:=k
  split at k
  .rename_i ds e
   obtain⟨xs,e1,p⟩:=o a _ e;obtain⟨_,_,_,r⟩:=n.list (bQ.of e1);refine AW n (bQ.of e1) ⟨B,ds,_,M1,o,e,yc λH' M' C g'=>?_,by rw[p.len];exact r,k⟩;obtain⟨E,e',G⟩:=C a _ g';exact⟨E,bQ.of e',G⟩
  .rename_i ds e
   obtain⟨xs,e1,p⟩:=o a _ e;have e1:bQ X.K W a xs:=.inl e1;obtain⟨_,_,_,r⟩:=n.list e1;refine AW n e1 ⟨B,ds,_,M1,o,e,yc λH' M' C g'=>?_,by rw[p.len];exact r,k⟩;obtain⟨E,e',G⟩:=C a _ g';exact⟨E,.inl e',G⟩
  .rename_i f_ e
   obtain⟨n_,e1,z,p⟩:=o a _ e;obtain⟨u,O⟩:=freeze n e1;have S:=Kp.put (o':=.frz u (.dK n_)) e1 trivial;have Y:=o.put (m:=.rod f_) e1 trivial (o':=.frz u (.dK n_)) ⟨u,n_,aI,z,aj.mono S _ p⟩;refine AU O aI ⟨B.trans S,keysOf f_,_,_,Y,ab,yb aI z _,?_,k⟩;obtain⟨_,r,_⟩:=nk O aI;have hl:n_.length=f_.length:=by have:=congrArg List.length z;simpa using this
   unfold keysOf;rw[ZF];omega
  .rename_i f_ e
   obtain⟨u,n_,e1,z,p⟩:=o a _ e;refine AU n e1 ⟨B,keysOf f_,_,M1,o,e,yb e1 z _,?_,k⟩;obtain⟨_,r,_⟩:=nk n e1;have hl:n_.length=f_.length:=by have:=congrArg List.length z;simpa using this
   unfold keysOf;rw[ZF];omega
  .exact Yh k
 |_=>exact Yh k
def bM(a b:Int):List D:=(List.range (b-a).toNat).map λ(i:Nat)=>.int (a+(i:Int))
def we{K:Za}{a b:Int}{H0:Hp}:wc K (DP a (b-a).toNat) H0 (bM a b) (λ_=>True):=by
 intro i H M k m _;have hl:(bM a b).length=(b-a).toNat:=by unfold bM;rw[ZF,ZJ]
 rw[hl];refine⟨λhi=>hi,λhi=>Nat.le_of_eq hi.symm,λx H' d hd n=>?_⟩;obtain⟨e,y⟩:=n;subst e y;have hi:i<(b-a).toNat:=by have:=(YD.mp hd).1;rw[hl] at this;exact this
 unfold bM at hd;rw[ZG,List.getElem?_range hi] at hd;cases hd;exact⟨Kp.refl _,m,RV.int_.2 rfl⟩
def Cw(t:WA):WI:=λσ M R=>t σ M λds M1=>match ds with
 |[.int j]=>(-1000000<=j/\j<=1000000)/\R (bM 0 j) (λ_=>True) M1
 |_=>False
def Cy(t:WA):WI:=λσ M R=>t σ M λds M1=>match ds with
 |[.int i,.int j]=>(-1000000<=i/\i<=1000000/\-1000000<=j/\j<=1000000)/\R (bM i j) (λ_=>True) M1
 |_=>False
theorem wf(h1:-1000000<=i)(k:b<=1000000):(bM i b).length<=sizeLine:=by
 unfold bM;rw[ZF,ZJ,sizeLine_eq];omega
theorem Cz{t:WA}(hg:Gl X "range")(hm:X.mg "range" = none)(ha:gU X [e] t)(hs:ay e=true):wd X tg (.Call (.Name "range" Rb) [e] [] pos) (Cw t):=by
 intro σ M ρ H R rs n q;refine IP (DR hg hm (mL [e]) (by rw[bt hs];rfl)) ?_;show kR X [e] ρ H _;refine dC (ha σ M ρ H _ rs n q) λvs o z=>?_
 obtain⟨B,ds,M1,m,G,C,k⟩:=z;try dsimp only at k
 split at k
 .rename_i j
  have m:=m.p;cases m with
  |cons r E=>
   cases E;cases RV.int_.1 r;refine⟨j,rfl,by omega,by omega,B,_,_,M1,C,trivial,?_,wf 'a' k.1.2,k.2⟩
   have:=@we X.K 0 j o
   rw[Int.sub_zero] at this;exact this
 .exact Yh k
theorem CB{b:Expr}{t:WA}(hg:Gl X "range")(hm:X.mg "range" = none)(ha:gU X [e,b] t)(hs:ay e=true)(o:ay b=true):wd X tg (.Call (.Name "range" Rb) [e,b] [] pos) (Cy t):=by
 intro σ M ρ H R rs z q;refine IP (DT hg hm (mL [e,b]) (by rw[bt hs,bt o];rfl) (by rw[bt o];rfl)) ?_;show kR X [e,b] ρ H _;refine dC (ha σ M ρ H _ rs z q) λvs I B=>?_
 obtain⟨C,ds,M1,m,J,E,k⟩:=B;try dsimp only at k
 split at k
 .rename_i i j
  have m:=m.p;cases m with
  |cons r n=>
   cases n with
   |cons G n=>
    cases n;cases RV.int_.1 r;cases RV.int_.1 G;exact⟨i,j,rfl,⟨by omega,by omega,by omega,by omega⟩,C,_,_,M1,E,trivial,we,wf k.1.1 k.1.2.2.2,k.2⟩
 .exact Yh k
def kW:Expr->Bool
 |.Set _ _ _=>false
 |_=>true
def CC(h:kW e=true):∀x,foldedSetIterable e env x=pure x:=by
 intro x;cases e<;>first | rfl | (exact absurd (show false=true from h) YF)
def ar(g:MH->Prop)(t:dZ)(tb:WS)(E:cP):List D->DS->MH->Prop
 |[],σ,M=>E.nx σ M
 |x::xs,σ,M=>tR t x σ λm=>tb { E with nx:=λk M2=>g M2/\ar g t tb E xs k M2,ct:=λk M2=>g M2/\ar g t tb E xs k M2,bk:=E.nx } m M
def GL(t:WI)(g:dZ)(tb:WS):WS:=λE σ M=>t σ M λxs k M1=>ar k g tb E xs σ M1
theorem Kh{t:WI}(hp:PassesOwn 'c' X.A X.env X.xe)(hc:X.calm=true)(hi:wd X tg iter t)(hg:OB X tg g)(hb:n6 X body tb)(hs:kW iter=true):
  kU X (.For tg iter body [] pos) (GL t g tb):=by
 intro σ M ρ H E rs Z q;refine eJ (LR hp hc (GK tg iter) hg (n5 body) (CC hs)) ?_;show iW X tg iter ρ H _;refine vg (hi σ M ρ H _ rs Z q) λJ O Rz=>?_
 obtain⟨o,xs,p,M1,m1,g1,Ti,hz,q1⟩:=Rz;refine⟨λi m S H'=>m=xs.length-i/\i<=xs.length/\Kp O H'/\∃z M',RS X.K H' z S/\RM X.K M' H'/\p M'/\ar p g tb E (xs.drop i) z M',⟨xs.length,by simp,YN _,Kp.refl _,σ,M1,rs.mono o,m1,g1,q1⟩,?_⟩;rintro i m S H' ⟨rfl,Tj,k',z,M',T,U,g',B⟩;obtain⟨j1,j2,j3⟩:=Ti i H' M' k' U g';by_cases C:i<xs.length
 .rw[List.drop_eq_getElem_cons C] at B
  refine .inr ⟨j1 C,λW k=>Kp O k/\∃Y M2,RS X.K k Y W/\RM X.K M2 k/\p M2/\ar p g tb E (xs.drop (i+1)) Y M2,λW k ⟨n,r⟩=>⟨xs.length-(i+1),by omega,rfl,C,n,r⟩,λx k y=>?_⟩;obtain⟨n,m2,r2⟩:=j3 x k xs[i] (ZD C) y;refine ya r2 (T.mono n) B λVM Qd Rr q3=>?_
  refine fo (hb Qd M' VM k _ Rr m2 q3) ⟨λW9 H4 RA=>?_,λ_ _=>cI ((o.trans k').trans n),λ_ _=>kT ((o.trans k').trans n),λW9 H4 ⟨G,I,L,a,b,c⟩=>⟨k'.trans (n.trans G),I,L,a,b,c.1,c.2⟩⟩;obtain⟨G,I,L,a,b,c⟩:=RA;exact⟨k'.trans (n.trans G),I,L,a,b,c.1,c.2⟩
 .have e:i=xs.length:=by omega
  subst e;rw[List.drop_length] at B;exact .inl ⟨j2 rfl,o.trans k',z,M',T,U,B⟩
def aH(g:MH->Prop)(t:dZ)(c:WT)(e:WE)(F:List D->MH->Prop):List D->List D->DS->MH->Prop
 |[],g_,_,M=>F g_ M
 |x::xs,g_,σ,M=>tR t x σ λk=>c k M λb M1=>dq b (e k M1 λy M2=>g M2/\aH g t c e F xs (g_++[y]) k M2) (g M1/\aH g t c e F xs g_ k M1)
def CD(n:Nat)(t:WI)(g:dZ)(c:WT)(e:WE):WE:=λσ M Q=>t σ M λxs k M1=>aH k g c e (λds M'=>∀p,M' p=none->Q (.ref p) (ae M' p (.lst ds))) xs [] (σ++List.replicate n none) M1
def CF(X:Cx)(k:Zg)(t:WT):Prop:=(k=[]/\t=λ_ M Q=>Q true M) \/ ∃c,k=[c]/\kS X c t
theorem yd{J:It}{n:MH->Prop}{tc:TT}{te:TE}{F:List D->MH->Prop}{Fin:List V->Hp->Prop}
  (Ti:wc K J H0 xs n) (hz:xs.length<=sizeLine) (rs:RS K H0 σ ρ) (m1:RM K M H0) (g1:n M)
  (hc:∀σ M1 ρ H Q (Q':Bool->Hp->Prop),RS K H σ ρ->RM K M1 H->c σ M1 Q->(∀b H',Kp H H'->∀M',RM K M' H'->Q b M'->Q' b H')->tc ρ H Q')
  (he:∀σ M1 ρ H Q (Q':VK),RS K H σ ρ->RM K M1 H->t σ M1 Q->(∀v H',Kp H H'->∀d M',RV K H' d v->RM K M' H'->Q d M'->Q' v H')->te ρ H Q')
  (hF:∀ds vs H' M',Kp H0 H'->RM K M' H'->aj K H' ds vs->F ds M'->Fin vs H') (q:aH n g c t F xs [] σ M):xu J (x9 K g) tc te Fin ρ H0:=by
 refine⟨λi m L U H'=>m=xs.length-i/\i<=xs.length/\Kp H0 H'/\∃O M' ds,RS K H' O U/\RM K M' H'/\n M'/\aj K H' ds L/\ds.length<=i/\aH n g c t F (xs.drop i) ds O M',⟨xs.length,by simp,YN _,Kp.refl _,σ,M,[],rs,m1,g1,aj.nil,YG _,q⟩,?_⟩;rintro i m L U H' ⟨rfl,Tj,k',O,M',ds,P_,W,g',B,hd,C⟩;obtain⟨j1,j2,j3⟩:=Ti i H' M' k' W g';by_cases E:i<xs.length
 .rw[List.drop_eq_getElem_cons E] at C
  refine .inr ⟨j1 E,by rw[←B.len];omega,λY Z k=>Kp H0 k/\∃Qh M2 S,RS K k Qh Z/\RM K M2 k/\n M2/\aj K k S Y/\S.length<=i+1/\aH n g c t F (xs.drop (i+1)) S Qh M2,λY Z k ⟨o,r⟩=>⟨xs.length-(i+1),by omega,rfl,E,o,r⟩,λx k y=>?_⟩;obtain⟨o,m2,r2⟩:=j3 x k xs[i] (ZD E) y;refine ya r2 (P_.mono o) C λVM G I q3=>?_
  refine hc G M' VM k _ _ I m2 q3 λb H4 z M4 m4 T=>?_
  cases b with
  |true=>
   refine he G M4 VM H4 _ _ (I.mono z) m4 T λv H5 k5 d M5 rv m5 q5=>?_
   have kk:=o.trans (z.trans k5);exact⟨k'.trans kk,G,M5,ds++[d],I.mono (z.trans k5),m5,q5.1,aj.of (bR (aj.mono kk _ B).p (.cons rv .nil)),by simp;omega,q5.2⟩
  |false=>exact⟨k'.trans (o.trans z),G,M4,ds,I.mono z,m4,T.1,aj.mono (o.trans z) _ B,by omega,T.2⟩
 .have t:i=xs.length:=by omega
  subst t;rw[List.drop_length] at C;exact .inl ⟨j2 rfl,hF ds L H' M' k' W B C⟩
section
variable {L_ tg iter:Expr}{ifs:Zg}{scope Qr:Scope}{own N2:Zf}
def bT(X:Cx)(scope:Scope)(own N2:Zf)(ifs:Zg):TT:=λρ H Q=>∀C s H0 ex pn b_ k,af (dP X scope own N2 C s H0 ex pn) b_ ρ H k ->
 wpAny 'c' X.A (forIn ifs true λc r=>if r=true then do let ok ←isTrue c (dP X scope own N2 C s H0 ex pn).env (eval c (dP X scope own N2 C s H0 ex pn).env);pure (ForInStep.yield ok) else pure (ForInStep.yield r)) (TP (dP X scope own N2 C s H0 ex pn) b_ ρ Q) (dP X scope own N2 C s H0 ex pn).xe k
def bE(X:Cx)(scope:Scope)(own N2:Zf)(e:Expr):TE:=λρ H Q=>∀C s H0 ex pn,tW (dP X scope own N2 C s H0 ex pn) e ρ H Q
def se(hc:∀C s H0 ex pn,CF (dP X scope own N2 C s H0 ex pn) ifs c)(z:∀C s H0 ex pn,aN (dP X scope own N2 C s H0 ex pn) L_ te):
  (∀σ M ρ H Q (Q':Bool->Hp->Prop),RS X.K H σ ρ->RM X.K M H->c σ M Q->(∀b H',Kp H H'->∀M',RM X.K M' H'->Q b M'->Q' b H')->bT X scope own N2 ifs ρ H Q') /\
  (∀σ M ρ H Q (Q':VK),RS X.K H σ ρ->RM X.K M H->te σ M Q->(∀v H',Kp H H'->∀d M',RV X.K H' d v->RM X.K M' H'->Q d M'->Q' v H')->bE X scope own N2 L_ ρ H Q'):=by
 refine⟨λσ M ρ H Q Q' rs m q f C s H0 ex pn b_ p I=>?_,λσ M ρ H Q Q' rs m q f C s H0 ex pn=>?_⟩
 .rcases hc C s H0 ex pn with⟨e1,B⟩ | ⟨c',e1,h⟩
  .subst e1 B
   exact JQ (X:=dP X scope own N2 C s H0 ex pn) b_ p ρ H _ I (f true H (Kp.refl H) M m q)
  .subst e1
   refine JR (X:=dP X scope own N2 C s H0 ex pn) (nX c') b_ p ρ H _ I ?_;refine gD (h σ M ρ H Q rs m q) λb H' E=>?_
   obtain⟨k,M',n,o⟩:=E;exact f b H' k M' n o
 .refine aM (z C s H0 ex pn σ M ρ H Q rs m q) λv H' G=>?_
  obtain⟨k,d,M',r,n,o⟩:=G;exact f v H' k d M' r n o
def GM{t:WI}(z:gT Qr scope X.N own N2)(B:X.env.scope=Qr)(E:X.calm=true)(hi:wd X tg iter t)(hg:∀C s H0 ex pn,PG (dP X scope own N2 C s H0 ex pn) tg (x9 X.K g))
  (hc:∀C s H0 ex pn,CF (dP X scope own N2 C s H0 ex pn) ifs c) (G:∀C s H0 ex pn,aN (dP X scope own N2 C s H0 ex pn) L_ te) (hs:kW iter=true):aN X (.ListComp L_ [⟨tg,iter,ifs,0⟩] scope pos) (CD own.length t g c te):=by
 intro σ M ρ H Q rs L q;obtain⟨O,S⟩:=se hc G;refine cc (JS (te:=bE X scope own N2 L_) (tc:=bT X scope own N2 ifs) z E (GK tg iter) hg (λC s H0 ex pn b_ k T H' Q' I h=>h C s H0 ex pn b_ k I) (λC s H0 ex pn b_ k T H' Q' I h=>h C s H0 ex pn b_ k I) B rfl (CC hs)) ?_;show iW X tg iter ρ H _;refine vg (hi σ M ρ H _ rs L q) λJ H1 U=>?_
 obtain⟨n,xs,gd,M1,W,Y,Z,hz,q1⟩:=U;refine yd Z hz ((rs.mono n).more own.length) W Y O S ?_ q1;intro ds vs H' M' k' o rr f p hp;have r:Kp H' (upd H' p (.lst vs)):=Kp.new hp;exact⟨(n.trans k').trans r,.ref p,_,RV.ref_.2 rfl,o.new (m:=.lst ds) hp ⟨vs,aI,aj.mono r _ rr⟩,f p (o.fresh hp)⟩
def CG(i n:Nat)(t:WI)(g:dZ)(c:WT)(e:WE):WS:=λE σ M=>t σ M λxs k M1=>aH k g c e (λds M'=>∀p,M' p=none->E.nx (σ.set i (some (.ref p))) (ae M' p (.lst ds))) xs [] (σ++List.replicate n none) M1
def GN{t:WI}{i:Nat}{y:Str}(z:gT Qr scope X.N own N2)(B:X.env.scope=Qr)(G:X.calm=true)(L:X.N.Nodup)(hy:X.N[i]?=some y)(hl:X.env.scope.names.lookup y=some .local)(hi:wd X tg iter t)
  (hg:∀C s H0 ex pn,PG (dP X scope own N2 C s H0 ex pn) tg (x9 X.K g))
  (hc:∀C s H0 ex pn,CF (dP X scope own N2 C s H0 ex pn) ifs c) (O:∀C s H0 ex pn,aN (dP X scope own N2 C s H0 ex pn) L_ te) (hs:kW iter=true)
  (S:swapsWith (.ListComp L_ [⟨tg,iter,ifs,0⟩] scope pos) (some (.Name y py)) Rb.line X.env=pure true):kU X (.Assign [.Name y py] (.ListComp L_ [⟨tg,iter,ifs,0⟩] scope pos) Rb) (CG i own.length t g c te):=by
 intro σ M ρ H E rs T q;obtain⟨U,W⟩:=se hc O;refine eJ (JT (te:=bE X scope own N2 L_) (tc:=bT X scope own N2 ifs) (i:=i) z G L hy hl (GK tg iter) hg (λC s H0 ex pn b_ k Y H' Q' I h=>h C s H0 ex pn b_ k I) (λC s H0 ex pn b_ k Y H' Q' I h=>h C s H0 ex pn b_ k I) S B rfl (CC hs)) ?_;show iW X tg iter ρ H _;refine vg (hi σ M ρ H _ rs T q) λJ H1 Z=>?_
 obtain⟨n,xs,gd,M1,m1,g1,Ti,hz,q1⟩:=Z;refine yd Ti hz ((rs.mono n).more own.length) m1 g1 U W ?_ q1;intro ds vs H' M' k' r rr f p hp;have o:Kp H' (upd H' p (.lst vs)):=Kp.new hp;exact⟨(n.trans k').trans o,_,_,(rs.mono ((n.trans k').trans o)).set i (RV.ref_.2 rfl),r.new (m:=.lst ds) hp ⟨vs,aI,aj.mono o _ rr⟩,f p (r.fresh hp)⟩
end
def ai(N:Zf)(ds:List D):DS:=ds.map some++List.replicate (N.length-ds.length) none
def ye(r:aj K H ds vs):RS K H (ai N ds) (L2.start N vs):=by
 unfold ai L2.start;rw[r.len];refine bR ?_ (kQ (λd e=>nomatch e) _);have p:=r.p;clear r;induction p with
 |nil=>exact .nil
 |cons r _ k=>exact .cons (λd e=>by cases e;exact⟨_,rfl,r⟩) k
end
section
variable {P:Zw}{w:World}{K:Za}{mg:Ze}{base:Heap}
def Py{x:Str}{st:Stmt}{fd:Zv}{sp:az}(o:qJ K mg x st ps a fd)(S:cg N ps (am st))(len:∀ds M Q,sp ds M Q->ds.length=ps.length)
  (hb:∀p_ A outer s H E,ck j (A.deeper (envOfC x (am st) s.heap.objs.size a p_))->n6 (nT jZ P w K mg base N x (am st) a p_ A outer s H E).nox (aL st) tb)
  (h:∀ds M Q,sp ds M Q->tb { nx:=λ_ M'=>Q .non M',rt:=Q } (ai N ds) M):bS P w K mg base (j+1) x sp:=by
 refine⟨st,ps,a,fd,o,o.fn.ok S (λvs H Q E ⟨ds,M,k,r,_,s,_⟩=>by rw[←r.len];exact len ds M k s) λp_ A outer s H vs Q E hr ⟨ds,M,k,r,m,sq,p⟩=>⟨sJ _ _,n5 _,?_⟩⟩;refine fo (hb p_ A outer s H E hr (ai N ds) M (L2.start N vs) H _ (ye r) m (h ds M k sq)) ⟨λC H' z=>?_,λv H' ⟨k',d,M',B,n,q⟩=>p _ _ _ _ q k' B n,λ_ _ ⟨_,_,_,_,_,q⟩=>q,λ_ _ ⟨_,_,_,_,_,q⟩=>q⟩;obtain⟨k',G,M',_,n,q⟩:=z;exact p _ _ _ _ q k' (RV.non_.2 rfl) n
end
mutual
noncomputable def bc:D->Bool
 |.ref _=>false
 |.ty _=>false
 |.tup ds=>bo ds
 |_=>true
noncomputable def bo:List D->Bool
 |[]=>true
 |d::ds=>bc d&&bo ds
end
mutual
noncomputable def gE:D->Nat
 |.tup ds=>cU ds+1
 |_=>0
noncomputable def cU:List D->Nat
 |[]=>0
 |d::ds=>max (gE d) (cU ds)
end
mutual
noncomputable def bg:D->D->Bool
 |.non,.non=>true
 |.bl a,.bl b=>a==b
 |.bl a,.int b=>(if a then 1 else 0)==b
 |.int a,.bl b=>a==(if b then 1 else 0)
 |.int a,.int b=>a==b
 |.str a,.str b=>a==b
 |.tup as,.tup bs=>cY as bs
 |_,_=>false
noncomputable def cY:List D->List D->Bool
 |[],[]=>true
 |a::as,b::bs=>bg a b&&cY as bs
 |_,_=>false
end
mutual
theorem yf:∀d:D,bc d=true->bg d d=true
 |.non,_=>by rw[bg]
 |.bl b,_=>by rw[bg];simp
 |.int b,_=>by rw[bg];simp
 |.str b,_=>by rw[bg];simp
 |.ref _,h=>by rw[bc] at h;cases h
 |.ty _,h=>by rw[bc] at h;cases h
 |.tup ds,h=>by rw[bc] at h;rw[bg];exact lT ds h
theorem lT:∀ds:List D,bo ds=true->cY ds ds=true
 |[],_=>by rw[cY]
 |d::ds,h=>by
  rw[bo,YZ] at h;rw[cY,yf d h.1,lT ds h.2];rfl
end
theorem i8:∀{as bs:List D},cY as bs=((List.range (min as.length bs.length)).all (λj=>bg ((as[j]?).getD .non) ((bs[j]?).getD .non))&&as.length==bs.length)
 |[],[]=>by rw[cY];rfl
 |[],b::bs=>by rw[cY]<;>simp
 |a::as,[]=>by rw[cY]<;>simp
 |a::as,b::bs=>by
  rw[cY,i8 (as:=as) (bs:=bs)];have e:min (a::as).length (b::bs).length=min as.length bs.length+1:=by simp only[YJ];omega
  rw[e,List.range_succ_eq_map,XS,List.all_map];simp only[List.getElem?_cons_zero,XJ,YJ];rw[Bool.and_assoc];congr 1;congr 1;rw[Bool.eq_iff_iff];simp
theorem cv:∀{ds:List D}{i:Nat}{d:D},bo ds=true->ds[i]?=some d->bc d=true
 |d::ds,0,_,h,e=>by rw[bo,YZ] at h;simp at e;subst e;exact h.1
 |d::ds,i+1,_,h,e=>by rw[bo,YZ] at h;exact cv (ds:=ds) (i:=i) h.2 (by simpa using e)
theorem gV:∀{ds:List D}{i:Nat}{d:D},ds[i]?=some d->gE d<=cU ds
 |d::ds,0,_,e=>by rw[cU];simp at e;subst e;omega
 |d::ds,i+1,_,e=>by rw[cU];have:=gV (ds:=ds) (i:=i) (by simpa using e);omega
section
variable {X:Cx}{b_:Zc}{ρ:L2.St}{H:Hp}{s:Shared}
def ko:D->Bool
 |.non=>true
 |.bl _=>true
 |.int _=>true
 |.str _=>true
 |_=>false
def toV:D->V
 |.non=>.non
 |.bl b=>.bl b
 |.int i=>.int i
 |.str x=>.str x
 |_=>.non
def qQ(f:ko d=true)(r:RV K H d v):v=toV d/\Ci v=true:=by
 cases d with
 |non=>cases RV.non_.1 r;exact⟨rfl,rfl⟩
 |bl b=>cases RV.bl_.1 r;exact⟨rfl,rfl⟩
 |int b=>cases RV.int_.1 r;exact⟨rfl,rfl⟩
 |str b=>cases RV.str_.1 r;exact⟨rfl,rfl⟩
 |_=>exact absurd (show false=true from f) YF
def AX(f:ko d=true)(g:ko y=true):bg d y=OA (toV d) (toV y):=by
 cases d<;>cases y<;>first | exact absurd (show false=true from f) YF | exact absurd (show false=true from g) YF | (rw[bg]<;>first | rfl | (intros;contradiction) | skip)
mutual
theorem yg(I:af X b_ ρ H s):∀(d e:D){v:V},bc d=true->bc e=true->RV X.K H d v->RV X.K H e v->d=e:=λd e v pd pe rd re=>by
 cases d with
 |non=>cases RV.non_.1 rd;cases e with
  |non=>rfl
  |tup ds=>obtain⟨a,xs,z,_⟩:=RV.tup_.1 re;cases z
  |_=>rw[RV] at re;cases re
 |bl b=>cases RV.bl_.1 rd;cases e with
  |bl b'=>cases RV.bl_.1 re;rfl
  |tup ds=>obtain⟨a,xs,z,_⟩:=RV.tup_.1 re;cases z
  |_=>rw[RV] at re;cases re
 |int b=>cases RV.int_.1 rd;cases e with
  |int b'=>cases RV.int_.1 re;rfl
  |tup ds=>obtain⟨a,xs,z,_⟩:=RV.tup_.1 re;cases z
  |_=>rw[RV] at re;cases re
 |str b=>cases RV.str_.1 rd;cases e with
  |str b'=>cases RV.str_.1 re;rfl
  |tup ds=>obtain⟨a,xs,z,_⟩:=RV.tup_.1 re;cases z
  |_=>rw[RV] at re;cases re
 |ref a=>rw[bc] at pd;cases pd
 |ty a=>rw[bc] at pd;cases pd
 |tup ds=>
  obtain⟨a,xs,rfl,sq,rr⟩:=RV.tup_.1 rd;cases e with
  |tup es=>
   obtain⟨a',SO,z,QS,F'⟩:=RV.tup_.1 re;cases z
   have:=I.tuple_inj sq QS
   subst this;rw[bc] at pd pe;rw[AY I ds es pd pe rr F']
  |ref a=>rw[bc] at pe;cases pe
  |_=>rw[RV] at re;cases re
theorem AY(I:af X b_ ρ H s):∀(ds es:List D){vs:List V},bo ds=true->bo es=true->aj X.K H ds vs->aj X.K H es vs->ds=es
 |[],[],_,_,_,_,_=>rfl
 |[],e::es,_,_,_,rd,re=>by have:=rd.len;have:=re.len;simp only[YJ,YV] at *;omega
 |d::ds,[],_,_,_,rd,re=>by have:=rd.len;have:=re.len;simp only[YJ,YV] at *;omega
 |d::ds,e::es,_,pd,pe,rd,re=>by
  rw[aj] at rd re;rw[bo,YZ] at pd pe;obtain⟨v,vs,rfl,r1,r2⟩:=rd;obtain⟨v',QR,z,r1',r2'⟩:=re;cases z;rw[yg I d e pd.1 pe.1 r1 r1',AY I ds es pd.2 pe.2 r2 r2']
end
def vh(I:af X b_ ρ H s)(hu:A.units<cLine)(f:ko d=true)(n:RV X.K H (.tup ds) v)(k:RV X.K H d u)(r:RelV v v')(m:RelV u u'):
  SeqAt.EqAt A s v' u' false/\SeqAt.EqAt A s u' v' false:=by
 obtain⟨a,xs,rfl,sq,o⟩:=RV.tup_.1 n;obtain⟨d_,_,tp,_⟩:=I.tuple sq;cases r;have tp:s.heap.IsTuple a d_.toArray:=tp;cases d with
 |non=>cases RV.non_.1 k;cases m;exact⟨SeqAt.EqAt.tuple_none tp hu,SeqAt.EqAt.none_tuple tp hu⟩
 |bl b=>cases RV.bl_.1 k;cases m;exact⟨SeqAt.EqAt.tuple_bool b tp hu,SeqAt.EqAt.bool_tuple b tp hu⟩
 |int b=>cases RV.int_.1 k;obtain⟨t,rfl⟩:=m;exact⟨SeqAt.EqAt.tuple_int b t tp hu,SeqAt.EqAt.int_tuple b t tp hu⟩
 |str b=>cases RV.str_.1 k;obtain⟨t,rfl⟩:=m;exact⟨SeqAt.EqAt.tuple_str b t tp hu,SeqAt.EqAt.str_tuple b t tp hu⟩
 |_=>exact absurd (show false=true from f) YF
def qb(f:ko d=true):bg (.tup ds) d=false/\bg d (.tup ds)=false:=by
 cases d<;>first | exact absurd (show false=true from f) YF | (constructor<;>(rw[bg]<;>(intros;contradiction)))
def fL(h:bc d=true):ko d=true \/ ∃ds,d=.tup ds:=by
 cases d with
 |ref a=>rw[bc] at h;cases h
 |ty a=>rw[bc] at h;cases h
 |tup ds=>exact .inr ⟨ds,rfl⟩
 |_=>exact .inl rfl
def units_in1(A:Around):A.in1.units=A.units+1:=rfl
def fq(k:aj K H ds vs)(m:aq vs d_)(h:j<d_.toArray.size):
  ∃d v,ds[j]?=some d/\RV K H d v/\RelV v d_.toArray[j]:=by
 have h1:j<d_.length:=by simpa using h
 have o:j<vs.length:=by rw[m.length];exact h1
 have n:j<ds.length:=by rw[k.len];exact o
 obtain⟨v,hv,r⟩:=eI k.p (ZD n);obtain⟨u,hu,z⟩:=m.get hv;have:d_.toArray[j]=u:=by
  have:=ZD h1
  rw[this] at hu;simpa using hu
 exact⟨ds[j],v,ZD n,r,by rw[this];exact z⟩
theorem tS(n:Nat):∀{s:Shared}{A:Around}(d e:D){v u:V}{v' u':Value},af X b_ ρ H s->gE d<=n->A.units+n<cLine->bc d=true->bc e=true->RV X.K H d v->RV X.K H e u->RelV v v'->RelV u u'->SeqAt.EqAt A s v' u' (bg d e):=by
 induction n with
 |zero=>
  intro s A d e v u v' u' I hd hu p B k m r o;rcases fL p with f | ⟨ds,rfl⟩
  .rcases fL B with g | ⟨es,rfl⟩
   .rw[AX f g]
    obtain⟨C,E⟩:=qQ f k;obtain⟨G,J⟩:=qQ g m;rw[←C,←G];exact D4 r o E J
   .rw[(qb f).2];exact(vh I 'a' f m k o r).2
  .rw[gE] at hd;omega
 |succ n Z=>
  intro s A d e v u v' u' I hd hu p B k m r o;rcases fL p with f | ⟨ds,rfl⟩
  .rcases fL B with g | ⟨es,rfl⟩
   .rw[AX f g]
    obtain⟨C,E⟩:=qQ f k;obtain⟨G,J⟩:=qQ g m;rw[←C,←G];exact D4 r o E J
   .rw[(qb f).2];exact(vh I 'a' f m k o r).2
  .rcases fL B with g | ⟨es,rfl⟩
   .rw[(qb g).1];exact(vh I 'a' g k m r o).1
   .by_cases z:v=u
    .subst z
     have:=yg I _ _ p B k m
     cases this;rw[yf _ p];obtain⟨a,xs,rfl,_⟩:=RV.tup_.1 k;cases r;cases o;exact SeqAt.EqAt.same _
    .obtain⟨a,xs,rfl,sq,S⟩:=RV.tup_.1 k
     obtain⟨b,ys,rfl,QS,T⟩:=RV.tup_.1 m;cases r;cases o;have L:a≠b:=λq=>z (by rw[q])
     obtain⟨d_,U,tp,_⟩:=I.tuple sq;obtain⟨o_,W,Qj,_⟩:=I.tuple QS;rw[gE] at hd;rw[bc] at p B;have O:=SeqAt.RcAt.tuples (A:=A) (e:=λj=>bg ((ds[j]?).getD .non) ((es[j]?).getD .non)) (show s.heap.IsTuple a d_.toArray from tp) (show s.heap.IsTuple b o_.toArray from Qj) 'a' (λj h1 h2=>by
      obtain⟨d,v,e1,r1,q1⟩:=fq S U h1;obtain⟨e,u,Y,r2,q2⟩:=fq T W h2;rw[e1,Y]
      have:=gV e1
      exact Z d e I 'a' (by rw[units_in1];omega) (cv p e1) (cv B Y) r1 r2 q1 q2)
     have e:bg (.tup ds) (.tup es)=((List.range (min d_.toArray.size o_.toArray.size)).all (λj=>bg ((ds[j]?).getD .non) ((es[j]?).getD .non))&&d_.toArray.size==o_.toArray.size):=by
      have l1:d_.toArray.size=ds.length:=by rw[S.len,U.length];simp
      have l2:o_.toArray.size=es.length:=by rw[T.len,W.length];simp
      rw[bg,i8,l1,l2]
     rw[e];exact SeqAt.EqAt.of_refs L O
end
section
variable {X:Cx}{H:Hp}
def GO:D->D->MH->DK->Prop
 |.int i,.int j,M,Q=>Q (.int (i+j)) M
 |.tup xs,.tup k,M,Q=>(xs≠[]/\xs.length+k.length<=sizeLine)/\Q (.tup (xs++k)) M
 |.ref a,.ref b,M,Q=>match M a,M b with
  |some (.lst xs),some (.lst k)=>xs.length+k.length<=sizeLine/\∀p,M p=none->Q (.ref p) (ae M p (.lst (xs++k)))
  |_,_=>False
 |_,_,_,_=>False
def Ki:iV X (binaryOp .Add) GO:=by
 intro x y v u H M Q E G n h;cases x with
 |int i=>cases y with
  |int j=>cases RV.int_.1 E;cases RV.int_.1 G;exact kn LT ⟨i,j,rfl,rfl,aS (RV.int_.2 rfl) n h⟩
  |_=>exact Yh h
 |tup xs=>cases y with
  |tup r=>
   obtain⟨a,vs,rfl,sq,B⟩:=RV.tup_.1 E;obtain⟨b,us,rfl,J,C⟩:=RV.tup_.1 G;obtain⟨⟨h1,L⟩,I⟩:=h;refine kn JK ⟨a,b,vs,us,rfl,rfl,sq,J,λz=>h1 ?_,by rw[←B.len,←C.len];exact L,λz=>?_,λz p hp=>?_⟩
   .have:=B.len;rw[z] at this;exact List.eq_nil_of_length_eq_zero this
   .have:=C.len;rw[z] at this
    have:r=[]:=List.eq_nil_of_length_eq_zero this
    subst this;rw[ZA] at I;exact aS E n I
   .have k:=Kp.new (o:=.tup (vs++us)) hp
    exact⟨k,.tup (xs++r),M,RV.tup_.2 ⟨p,_,rfl,bX.of aI,aj.of (bR (aj.mono k _ B).p (aj.mono k _ C).p)⟩,n.newH hp,I⟩
  |_=>exact Yh h
 |ref a=>cases y with
  |ref b=>
   cases RV.ref_.1 E;cases RV.ref_.1 G;have h:match M a,M b with
    |some (.lst xs),some (.lst r)=>xs.length+r.length<=sizeLine/\∀p,M p=none->Q (.ref p) (ae M p (.lst (xs++r)))
    |_,_=>False:=h
   split at h
   .rename_i xs r e1 O
    obtain⟨vs,S,B⟩:=n a _ e1;obtain⟨us,T,C⟩:=n b _ O;refine kn Mi ⟨a,b,vs,us,rfl,rfl,S,T,by rw[←B.len,←C.len];exact h.1,λp hp=>?_⟩;have k:=Kp.new (o:=.lst (vs++us)) hp;exact⟨k,.ref p,_,RV.ref_.2 rfl,n.new (m:=.lst (xs++r)) hp ⟨_,aI,aj.of (bR (aj.mono k _ B).p (aj.mono k _ C).p)⟩,h.2 p (n.fresh hp)⟩
   .exact Yh h
  |_=>exact Yh h
 |_=>exact Yh h
def dI(C:Int->Int->Prop)(g:Int->Int->Int):D->D->MH->DK->Prop
 |.int i,.int j,M,Q=>C i j/\Q (.int (g i j)) M
 |_,_,_,_=>False
def tT{C:Int->Int->Prop}{g:Int->Int->Int}(k:di X f (rI C λi j=>.int (g i j))):iV X f (dI C g):=by
 intro x y v u H M Q m n o h;cases x with
 |int i=>cases y with
  |int j=>cases RV.int_.1 m;cases RV.int_.1 n;exact kn k ⟨i,j,rfl,rfl,h.1,aS (RV.int_.2 rfl) o h.2⟩
  |_=>exact Yh h
 |_=>exact Yh h
def AZ(g:Int->Int->Int):D->D->MH->DK->Prop
 |.int i,.int j,M,Q=>Q (.int (g i j)) M
 |_,_,_,_=>False
def tU{g:Int->Int->Int}(k:di X f (ng λi j=>.int (g i j))):iV X f (AZ g):=by
 intro x y v u H M Q m n o h;cases x with
 |int i=>cases y with
  |int j=>cases RV.int_.1 m;cases RV.int_.1 n;exact kn k ⟨i,j,rfl,rfl,aS (RV.int_.2 rfl) o h⟩
  |_=>exact Yh h
 |_=>exact Yh h
def GP:D->D->MH->DK->Prop
 |.int i,.int j,M,Q=>B0 i j/\Q (.int (i*j)) M
 |_,_,_,_=>False
def Kj:iV X (binaryOp .Mult) GP:=by
 intro x y v u H M Q k m n h;cases x with
 |int i=>cases y with
  |int j=>cases RV.int_.1 k;cases RV.int_.1 m;exact kn LV ⟨i,j,rfl,rfl,h.1,aS (RV.int_.2 rfl) n h.2⟩
  |_=>exact Yh h
 |_=>exact Yh h
def GQ:Operator->D->D->MH->DK->Prop
 |.Add=>GO
 |.Sub=>AZ λi j=>i-j
 |.Mult=>GP
 |.FloorDiv=>dI LS λi j=>i / j
 |.Mod=>dI (λ_ j=>0<j) λi j=>i%j
 |.Pow=>dI BZ λi j=>i ^ j.toNat
 |.LShift=>dI BZ λi j=>i*2 ^ j.toNat
 |.RShift=>dI (λ_ j=>0<=j) λi j=>i / 2 ^ j.toNat
 |.BitAnd=>AZ Builtin.bitAnd
 |.BitOr=>AZ Builtin.bitOr
 |.BitXor=>AZ Builtin.bitXor
 |_=>λ_ _ _ _=>False
def Kk(op:Operator):iV X (binaryOp op) (GQ op):=by
 cases op with
 |Add=>exact Ki
 |Sub=>exact tU LU
 |Mult=>exact Kj
 |FloorDiv=>exact tT Jx
 |Mod=>exact tT LW
 |Pow=>exact tT LX
 |LShift=>exact tT LY
 |RShift=>exact tT LZ
 |BitAnd=>exact tU L0
 |BitOr=>exact tU N5
 |BitXor=>exact tU L3
 |_=>exact λ_ _ _ _ _ _ _ _ _ _ h=>Yh h
def Ev(g:Int->Int->Bool):D->D->MH->DK->Prop
 |.int i,.int j,M,Q=>Q (.bl (g i j)) M
 |_,_,_,_=>False
def tV{g:Int->Int->Bool}(k:di X f (ng λi j=>.bl (g i j))):iV X f (Ev g):=by
 intro x y v u H M Q m n o h;cases x with
 |int i=>cases y with
  |int j=>cases RV.int_.1 m;cases RV.int_.1 n;exact kn k ⟨i,j,rfl,rfl,aS (RV.bl_.2 rfl) o h⟩
  |_=>exact Yh h
 |_=>exact Yh h
def A0(x y:D)(M:MH)(Q:Bool->Prop):Prop:=match x,y with
 |.ref a,.ref b=>match cu (M a),cu (M b) with
  |some xs,some k=>(bo xs=true/\bo k=true/\cU xs<=30)/\Q (cY xs k)
  |_,_=>False
 |.ref a,y=>match cu (M a) with
  |some _=>bc y=true/\Q false
  |none=>False
 |x,.ref b=>match cu (M b) with
  |some _=>bc x=true/\Q false
  |none=>False
 |x,y=>(bc x=true/\bc y=true/\gE x<=30)/\Q (bg x y)
def Ew(f:ko d=true)(g:ko y=true)(n:RV K H d v)(k:RV K H y u)(r:RelV v v')(m:RelV u u'):
  SeqAt.RcAt A s v' u' (bg d y)/\SeqAt.RcNeAt A s v' u' (!bg d y):=by
 cases d with
 |non=>
  cases RV.non_.1 n;cases r;cases y with
  |non=>cases RV.non_.1 k;cases m;rw[bg];exact⟨SeqAt.RcAt.none_none,SeqAt.RcNeAt.none_none⟩
  |bl b=>cases RV.bl_.1 k;cases m;rw[bg]<;>first | exact⟨SeqAt.RcAt.none_bool b,SeqAt.RcNeAt.none_bool b⟩ | (intros;contradiction)
  |int b=>cases RV.int_.1 k;obtain⟨t,rfl⟩:=m;rw[bg]<;>first | exact⟨SeqAt.RcAt.none_int b t,SeqAt.RcNeAt.none_int b t⟩ | (intros;contradiction)
  |str b=>cases RV.str_.1 k;obtain⟨t,rfl⟩:=m;rw[bg]<;>first | exact⟨SeqAt.RcAt.none_str b t,SeqAt.RcNeAt.none_str b t⟩ | (intros;contradiction)
  |_=>exact absurd (show false=true from g) YF
 |bl a=>
  cases RV.bl_.1 n;cases r;cases y with
  |non=>cases RV.non_.1 k;cases m;rw[bg]<;>first | exact⟨SeqAt.RcAt.bool_none a,SeqAt.RcNeAt.bool_none a⟩ | (intros;contradiction)
  |bl b=>cases RV.bl_.1 k;cases m;rw[bg];exact⟨SeqAt.RcAt.bool_bool a b,SeqAt.RcNeAt.bool_bool a b⟩
  |int b=>cases RV.int_.1 k;obtain⟨t,rfl⟩:=m;rw[bg];exact⟨SeqAt.RcAt.bool_int a b t,SeqAt.RcNeAt.bool_int a b t⟩
  |str b=>cases RV.str_.1 k;obtain⟨t,rfl⟩:=m;rw[bg]<;>first | exact⟨SeqAt.RcAt.bool_str a b t,SeqAt.RcNeAt.bool_str a b t⟩ | (intros;contradiction)
  |_=>exact absurd (show false=true from g) YF
 |int a=>
  cases RV.int_.1 n;obtain⟨t',rfl⟩:=r;cases y with
  |non=>cases RV.non_.1 k;cases m;rw[bg]<;>first | exact⟨SeqAt.RcAt.int_none a t',SeqAt.RcNeAt.int_none a t'⟩ | (intros;contradiction)
  |bl b=>cases RV.bl_.1 k;cases m;rw[bg];exact⟨SeqAt.RcAt.int_bool a t' b,SeqAt.RcNeAt.int_bool a t' b⟩
  |int b=>cases RV.int_.1 k;obtain⟨t,rfl⟩:=m;rw[bg];exact⟨SeqAt.RcAt.int_int a t' b t,SeqAt.RcNeAt.int_int a t' b t⟩
  |str b=>cases RV.str_.1 k;obtain⟨t,rfl⟩:=m;rw[bg]<;>first | exact⟨SeqAt.RcAt.int_str a t' b t,SeqAt.RcNeAt.int_str a t' b t⟩ | (intros;contradiction)
  |_=>exact absurd (show false=true from g) YF
 |str a=>
  cases RV.str_.1 n;obtain⟨t',rfl⟩:=r;cases y with
  |non=>cases RV.non_.1 k;cases m;rw[bg]<;>first | exact⟨SeqAt.RcAt.str_none a t',SeqAt.RcNeAt.str_none a t'⟩ | (intros;contradiction)
  |bl b=>cases RV.bl_.1 k;cases m;rw[bg]<;>first | exact⟨SeqAt.RcAt.str_bool a t' b,SeqAt.RcNeAt.str_bool a t' b⟩ | (intros;contradiction)
  |int b=>cases RV.int_.1 k;obtain⟨t,rfl⟩:=m;rw[bg]<;>first | exact⟨SeqAt.RcAt.str_int a t' b t,SeqAt.RcNeAt.str_int a t' b t⟩ | (intros;contradiction)
  |str b=>cases RV.str_.1 k;obtain⟨t,rfl⟩:=m;rw[bg];exact⟨SeqAt.RcAt.str_str a t' b t,SeqAt.RcNeAt.str_str a t' b t⟩
  |_=>exact absurd (show false=true from g) YF
 |_=>exact absurd (show false=true from f) YF
def vi{b_:Zc}{ρ:L2.St}{d_:Zl}(hu:A.units<cLine)(f:ko d=true)(tp:s.heap.IsTuple a d_\/s.heap.IsList a d_)(k:RV X.K H d u)(m:RelV u u'):
  (SeqAt.RcAt A s (.ref a) u' false/\SeqAt.RcNeAt A s (.ref a) u' true)/\(SeqAt.RcAt A s u' (.ref a) false/\SeqAt.RcNeAt A s u' (.ref a) true):=by
 rcases tp with tp | tp
 .cases d with
  |non=>cases RV.non_.1 k;cases m;exact⟨⟨SeqAt.RcAt.tuple_none tp hu,SeqAt.RcNeAt.tuple_none tp hu⟩,⟨SeqAt.RcAt.none_tuple tp hu,SeqAt.RcNeAt.none_tuple tp hu⟩⟩
  |bl b=>cases RV.bl_.1 k;cases m;exact⟨⟨SeqAt.RcAt.tuple_bool b tp hu,SeqAt.RcNeAt.tuple_bool b tp hu⟩,⟨SeqAt.RcAt.bool_tuple b tp hu,SeqAt.RcNeAt.bool_tuple b tp hu⟩⟩
  |int b=>cases RV.int_.1 k;obtain⟨t,rfl⟩:=m;exact⟨⟨SeqAt.RcAt.tuple_int b t tp hu,SeqAt.RcNeAt.tuple_int b t tp hu⟩,⟨SeqAt.RcAt.int_tuple b t tp hu,SeqAt.RcNeAt.int_tuple b t tp hu⟩⟩
  |str b=>cases RV.str_.1 k;obtain⟨t,rfl⟩:=m;exact⟨⟨SeqAt.RcAt.tuple_str b t tp hu,SeqAt.RcNeAt.tuple_str b t tp hu⟩,⟨SeqAt.RcAt.str_tuple b t tp hu,SeqAt.RcNeAt.str_tuple b t tp hu⟩⟩
  |_=>exact absurd (show false=true from f) YF
 .cases d with
  |non=>cases RV.non_.1 k;cases m;exact⟨⟨SeqAt.RcAt.list_none tp hu,SeqAt.RcNeAt.list_none tp hu⟩,⟨SeqAt.RcAt.none_list tp hu,SeqAt.RcNeAt.none_list tp hu⟩⟩
  |bl b=>cases RV.bl_.1 k;cases m;exact⟨⟨SeqAt.RcAt.list_bool b tp hu,SeqAt.RcNeAt.list_bool b tp hu⟩,⟨SeqAt.RcAt.bool_list b tp hu,SeqAt.RcNeAt.bool_list b tp hu⟩⟩
  |int b=>cases RV.int_.1 k;obtain⟨t,rfl⟩:=m;exact⟨⟨SeqAt.RcAt.list_int b t tp hu,SeqAt.RcNeAt.list_int b t tp hu⟩,⟨SeqAt.RcAt.int_list b t tp hu,SeqAt.RcNeAt.int_list b t tp hu⟩⟩
  |str b=>cases RV.str_.1 k;obtain⟨t,rfl⟩:=m;exact⟨⟨SeqAt.RcAt.list_str b t tp hu,SeqAt.RcNeAt.list_str b t tp hu⟩,⟨SeqAt.RcAt.str_list b t tp hu,SeqAt.RcNeAt.str_list b t tp hu⟩⟩
  |_=>exact absurd (show false=true from f) YF
def A1(A:Around)(s:Shared)(v u:Value)(b:Bool):Prop:=SeqAt.RcAt A s v u b/\SeqAt.RcNeAt A s v u (!b)
theorem Kl(I:af X b_ ρ H s)(hd:cU ds<=30)(hu:A.units+40<cLine)(C:bo ds=true)(E:bo xs=true)
  (k:aj X.K H ds vs) (m:aj X.K H xs us) (n:aq vs d_) (o:aq us o_) (tp:s.heap.IsTuple a d_.toArray) (p:s.heap.IsTuple l o_.toArray):A1 A s (.ref a) (.ref l) (cY ds xs):=by
 have G:d_.toArray.size=ds.length:=by rw[k.len,n.length];simp
 have J:o_.toArray.size=xs.length:=by rw[m.len,o.length];simp
 have r:∀j (h1:j<d_.toArray.size) (z:j<o_.toArray.size),SeqAt.EqAt A.in1 s d_.toArray[j] o_.toArray[j] (bg ((ds[j]?).getD .non) ((xs[j]?).getD .non)):=λj h1 z=>by
  obtain⟨d,v,e1,L,O⟩:=fq k n h1;obtain⟨e,u,B,S,T⟩:=fq m o z;rw[e1,B]
  have:=gV e1
  exact tS 30 d e I 'a' (by rw[units_in1];omega) (cv C e1) (cv E B) L S O T
 have e:cY ds xs=((List.range (min d_.toArray.size o_.toArray.size)).all (λj=>bg ((ds[j]?).getD .non) ((xs[j]?).getD .non))&&d_.toArray.size==o_.toArray.size):=by rw[i8,G,J]
 rw[e];exact⟨SeqAt.RcAt.tuples tp p 'a' r,SeqAt.RcNeAt.tuples tp p 'a' r⟩
theorem GR(I:af X b_ ρ H s)(hd:cU ds<=30)(hu:A.units+40<cLine)(G:bo ds=true)(J:bo xs=true)
  (m:aj X.K H ds vs) (n:aj X.K H xs us) (o:aq vs d_) (p:aq us o_) (tp:s.heap.IsList a d_.toArray) (k:s.heap.IsList l o_.toArray):A1 A s (.ref a) (.ref l) (cY ds xs):=by
 have r:d_.toArray.size=ds.length:=by rw[m.len,o.length];simp
 have L:o_.toArray.size=xs.length:=by rw[n.len,p.length];simp
 have z:∀j (h1:j<d_.toArray.size) (B:j<o_.toArray.size),SeqAt.EqAt A.in1 s d_.toArray[j] o_.toArray[j] (bg ((ds[j]?).getD .non) ((xs[j]?).getD .non)):=λj h1 B=>by
  obtain⟨d,v,e1,O,S⟩:=fq m o h1;obtain⟨e,u,C,T,U⟩:=fq n p B;rw[e1,C]
  have:=gV e1
  exact tS 30 d e I 'a' (by rw[units_in1];omega) (cv G e1) (cv J C) O T S U
 by_cases hl:ds.length=xs.length
 .have e:cY ds xs=(List.range d_.toArray.size).all (λj=>bg ((ds[j]?).getD .non) ((xs[j]?).getD .non)):=by rw[i8,r,hl,Nat.min_self];simp
  rw[e];exact⟨SeqAt.RcAt.lists tp k 'a' 'a' z,SeqAt.RcNeAt.lists tp k 'a' 'a' z⟩
 .have e:cY ds xs=false:=by rw[i8];simp[hl]
  rw[e];have E:(d_.toArray.size != o_.toArray.size)=true:=by rw[r,L];simpa using hl
  exact⟨SeqAt.RcAt.lists_lengths tp k E 'a',SeqAt.RcNeAt.lists_lengths tp k E 'a'⟩
theorem MD{Q:Bool->Prop}(I:af X b_ ρ H s)(hu:X.A.units+40<cLine)(p:RV X.K H d v)(k:RV X.K H y u)(m:RM X.K M H)(r:RelV v v')(n:RelV u u')(h:A0 d y M Q):
  ∃b,A1 X.A s v' u' b/\Q b:=by
 have T:bc d=true->bc y=true->gE d<=30->Q (bg d y)->∃b,A1 X.A s v' u' b/\Q b:=λO py hd q=>by
  rcases fL O with f | ⟨ds,rfl⟩
  .rcases fL py with g | ⟨es,rfl⟩
   .exact⟨_,Ew f g p k r n,q⟩
   .obtain⟨b,us,rfl,sq,z⟩:=RV.tup_.1 k
    obtain⟨d_,B,tp,_⟩:=I.tuple sq;cases n;rw[(qb f).2] at q;exact⟨false,(vi (X:=X) (b_:=b_) (ρ:=ρ) 'a' f (.inl (show s.heap.IsTuple b d_.toArray from tp)) p r).2,q⟩
  .obtain⟨a,vs,rfl,sq,z⟩:=RV.tup_.1 p
   obtain⟨d_,B,tp,_⟩:=I.tuple sq;cases r;rcases fL py with g | ⟨es,rfl⟩
   .rw[(qb g).1] at q
    exact⟨false,(vi (X:=X) (b_:=b_) (ρ:=ρ) 'a' g (.inl (show s.heap.IsTuple a d_.toArray from tp)) k n).1,q⟩
   .obtain⟨b,us,rfl,C,E⟩:=RV.tup_.1 k
    obtain⟨o_,G,o,_⟩:=I.tuple C;cases n;rw[bc] at O py;rw[gE] at hd;rw[bg] at q;exact⟨_,Kl I 'a' hu O py z E B G (show s.heap.IsTuple a d_.toArray from tp) (show s.heap.IsTuple b o_.toArray from o),q⟩
 have S:∀{a:Addr}{w:V}{J:Value}{y:D}{xs:List D},cu (M a)=some xs->RV X.K H y w->RelV w J->bc y=true->(A1 X.A s (.ref a) J false/\A1 X.A s J (.ref a) false):=λ{a w J y xs} hl k n py=>by
  obtain⟨vs,sq,z⟩:=m.list hl;obtain⟨d_,B,tp,_⟩:=I.list sq;rcases fL py with g | ⟨es,rfl⟩
  .have:=vi (X:=X) (b_:=b_) (ρ:=ρ) (A:=X.A) 'a' g (.inr tp.isList) k n
   exact⟨this.1,this.2⟩
  .obtain⟨b,us,rfl,C,E⟩:=RV.tup_.1 k
   obtain⟨o_,G,o,_⟩:=I.tuple C;cases n;have o:s.heap.IsTuple b o_.toArray:=o;exact⟨⟨SeqAt.RcAt.list_tuple tp.isList o 'a',SeqAt.RcNeAt.list_tuple tp.isList o 'a'⟩,⟨SeqAt.RcAt.tuple_list o tp.isList 'a',SeqAt.RcNeAt.tuple_list o tp.isList 'a'⟩⟩
 cases d with
 |ref a=>
  cases RV.ref_.1 p;cases r;cases y with
  |ref b=>
   cases RV.ref_.1 k;cases n;have h:match cu (M a),cu (M b) with
    |some xs,some L=>(bo xs=true/\bo L=true/\cU xs<=30)/\Q (cY xs L)
    |_,_=>False:=h
   split at h
   .rename_i xs L e1 U
    obtain⟨vs,sq,z⟩:=m.list e1;obtain⟨us,C,E⟩:=m.list U;obtain⟨d_,B,tp,_⟩:=I.list sq;obtain⟨o_,G,o,_⟩:=I.list C;exact⟨_,GR I h.1.2.2 hu h.1.1 h.1.2.1 z E B G tp.isList o.isList,h.2⟩
   .exact Yh h
  |_=>
   simp only[A0] at h;split at h
   .rename_i xs e1
    exact⟨false,(S e1 k n h.1).1,h.2⟩
   .exact Yh h
 |_=>
  cases y with
  |ref b=>
   cases RV.ref_.1 k;cases n;simp only[A0] at h;split at h
   .rename_i L e1
    exact⟨false,(S e1 p r h.1).2,h.2⟩
   .exact Yh h
  |_=>exact T h.1.1 h.1.2.1 h.1.2.2 h.2
def GS:D->D->MH->DK->Prop:=λx y M Q=>A0 x y M λb=>Q (.bl b) M
def GT:D->D->MH->DK->Prop:=λx y M Q=>A0 x y M λb=>Q (.bl (!b)) M
def ME(hu:X.A.units+40<cLine):iV X (compareOp .Eq) GS:=by
 intro x y v u H M Q m n k h b_ s ρ v' u' I r o;obtain⟨b,h1,q⟩:=MD I hu m n k r o h;exact h1.1 _ _ _ _ ⟨.bl b,H,I,rfl,aS (RV.bl_.2 rfl) k q⟩
def MF(hu:X.A.units+40<cLine):iV X (compareOp .NotEq) GT:=by
 intro x y v u H M Q m n k h b_ s ρ v' u' I r o;obtain⟨b,h1,q⟩:=MD I hu m n k r o h;exact h1.2 _ _ _ _ ⟨.bl (!b),H,I,rfl,aS (RV.bl_.2 rfl) k q⟩
end
section
variable {X:Cx}{H:Hp}
def MG:D->D->MH->DK->Prop:=λx y M Q=>∃a b n o k m,x=.ref a/\y=.ref b/\cu (M a)=some (.ref n::k)/\cu (M b)=some (.ref o::m)/\n≠o/\cu (M n)=some []/\cu (M o)=some [] /\
 (bo k=true/\bo m=true/\cU k<=30/\k.length=m.length)/\Q (.bl (!cY k m)) M
theorem Km(hu:X.A.units+40<cLine):iV X (compareOp .NotEq) MG:=by
 intro x y v u H M Q rx ry k h b_ s ρ v' u' I r r';obtain⟨a,b,a1,b1,C,E,rfl,rfl,e1,e2,ne,e3,e4,⟨p4,p5,p6,p7⟩,q⟩:=h;cases RV.ref_.1 rx;cases r;cases RV.ref_.1 ry;cases r';obtain⟨v1,L,m⟩:=k.list e1;obtain⟨v2,O,n⟩:=k.list e2;obtain⟨v3,S,T⟩:=k.list e3;obtain⟨v4,U,W⟩:=k.list e4;obtain⟨o,p,Y,_⟩:=I.list L;obtain⟨G,z,Z,_⟩:=I.list O;obtain⟨i3,aa,ac,_⟩:=I.list S;obtain⟨i4,al,ap,_⟩:=I.list U;have l1:o.toArray.size=C.length+1:=by have:=m.len;rw[YJ,p.length] at this;simp[this]
 have l2:G.toArray.size=E.length+1:=by have:=n.len;rw[YJ,z.length] at this;simp[this]
 have l3:i3.toArray.size=0:=by have:=T.len;rw[aa.length] at this;simp only[YV] at this;simp[←this]
 have l4:i4.toArray.size=0:=by have:=W.len;rw[al.length] at this;simp only[YV] at this;simp[←this]
 have k0:SeqAt.EqAt X.A.in1 s (.ref a1) (.ref b1) true:=by
  have:=SeqAt.RcAt.lists (A:=X.A.in1) (e:=λ_=>true) ac.isList ap.isList 'a' (by rw[units_in1];omega) λj h1=>by omega
  rw[l3] at this;exact SeqAt.EqAt.of_refs ne this
 have he:∀j (h1:j<o.toArray.size) (h2:j<G.toArray.size),SeqAt.EqAt X.A.in1 s o.toArray[j] G.toArray[j] (if j=0 then true else bg ((C[j-1]?).getD .non) ((E[j-1]?).getD .non)):=λj h1 h2=>by
  obtain⟨d,v,B,r1,q1⟩:=fq m p h1;obtain⟨e,u,J,r2,q2⟩:=fq n z h2;cases j with
  |zero=>
   cases B;cases J;cases RV.ref_.1 r1;cases RV.ref_.1 r2;generalize o.toArray[0]=y1 at *;generalize G.toArray[0]=y2 at *;cases q1;cases q2;exact k0
  |succ j=>
   rw[List.getElem?_cons_succ] at B J;rw[if_neg 'a',Nat.add_sub_cancel,B,J]
   have:=gV B
   exact tS 30 d e I 'a' (by rw[units_in1];omega) (cv p4 B) (cv p5 J) r1 r2 q1 q2
 have e:cY C E=(List.range o.toArray.size).all λj=>if j=0 then true else bg ((C[j-1]?).getD .non) ((E[j-1]?).getD .non):=by
  rw[l1,List.range_succ_eq_map,XS,List.all_map,i8,p7,Nat.min_self,XI,XU,if_pos rfl,XV];rfl
 rw[e] at q;exact SeqAt.RcNeAt.lists Y.isList Z.isList 'a' 'a' he _ _ _ _ ⟨.bl _,H,I,rfl,aS (RV.bl_.2 rfl) k q⟩
end
section
variable {X:Cx}{H:Hp}{e a b c:Expr}{es:Zg}{pos:Pos}
noncomputable def tX(K:Za)(H:Hp)(ds:List D)(x:D)(y:Value):Bool:=@decide (∃d v,d∈ds/\RV K H d v/\RelV v y/\bg d x=true) (Classical.propDecidable _)
def wg(I:af X b_ ρ H s)(m:bo ds=true)(hd:d∈ds)(r:RV X.K H d v)(k:RelV v v'):tX X.K H ds y v'=bg d y:=by
 have pg:∀d∈ds,bc d=true:=λd h=>let⟨i,hi⟩:=XW h;cv m hi
 unfold tX;cases q:bg d y with
 |true=>exact @decide_eq_true _ (Classical.propDecidable _) ⟨d,v,hd,r,k,q⟩
 |false=>
  refine @decide_eq_false _ (Classical.propDecidable _) ?_;rintro⟨d',x,Rx,r1,r2,q'⟩
  have:=L2.RelV.inj r2 k
  subst this
  have:=yg I d' d (pg d' Rx) (pg d hd) r1 r
  subst this;rw[q] at q';cases q'
theorem wj{K:Za}{x:D}{f:Value->Bool}:∀{ds:List D}{vs:List V}{d_:Zd},aj K H ds vs->aq vs d_->(∀d v u,d∈ds->RV K H d v->RelV v u->f u=bg d x)->d_.any f=ds.any λd=>bg d x
 |[],vs,d_,r,k,_=>by
  rw[aj] at r;subst r;cases k;rfl
 |d::ds,vs,d_,r,k,h=>by
  rw[aj] at r;obtain⟨v,z,rfl,m,n⟩:=r;cases k with
  |cons o p=>rw[XF,XF,h d v _ (ZZ) m o,wj n p λd' v' u' hd=>h d' v' u' (YA _ hd)]
theorem wk{K:Za}:∀{ds:List D}{vs:List V}{d_:Zd}{y:Value},aj K H ds vs->aq vs d_->y∈d_->∃d v,d∈ds/\RV K H d v/\RelV v y
 |[],vs,d_,y,r,k,hy=>by rw[aj] at r;subst r;cases k;cases hy
 |d::ds,vs,d_,y,r,k,hy=>by
  rw[aj] at r;obtain⟨v,B,rfl,m,n⟩:=r;cases k with
  |cons o p=>
   rcases YB.mp hy with rfl | hy
   .exact⟨d,v,ZZ,m,o⟩
   .obtain⟨d',v',h1,z⟩:=wk n p hy
    exact⟨d',v',YA _ h1,z⟩
def sK:D->Option Key
 |.int i=>some (.inl i)
 |.str x=>some (.inr x)
 |_=>none
def A2{k:Key}(h:sK d=some k)(r:RV K H d v):v=kV k:=by
 cases d with
 |int i=>cases h;exact RV.int_.1 r
 |str i=>cases h;exact RV.str_.1 r
 |_=>cases h
def ik(f_:ZC)(k:Key):Option D:=(f_.find? λkv=>decide (kv.1=k)).map (·.2)
theorem sL{k:Key}:∀{f_:ZC}{n_:List (Key×V)},n_.map (·.1)=f_.map (·.1)->(fZ n_ k).isSome=(ik f_ k).isSome
 |[],[],_=>rfl
 |[],_::_,e=>by cases e
 |_::_,[],e=>by cases e
 |(o,p)::f_,(m,r)::n_,e=>by
  simp only[YL,List.cons.injEq] at e;obtain⟨e1,n⟩:=e;subst e1;unfold fZ ik;rw[XE,XE];by_cases q:m=k
  .simp only[YW q,Option.map_some,Option.isSome_some]
  .simp only[ZQ q]
   exact sL n
def lU:Option MO->Option (List (Key×D))
 |some (.dic f_)=>some f_
 |some (.rod f_)=>some f_
 |_=>none
theorem RM.dict(m:RM K M H)(h:lU (M l)=some f_):∃n_:List (Key×V),Rd H l (.dK n_)/\n_.map (·.1)=f_.map (·.1)/\aj K H (f_.map (·.2)) (n_.map (·.2)):=by
 cases e:M l with
 |none=>rw[e] at h;cases h
 |some o=>
  rw[e] at h;cases o with
  |dic xs=>cases h;obtain⟨n_,q,r⟩:=m l _ e;exact⟨n_,.inl q,r⟩
  |rod xs=>cases h;obtain⟨u,n_,q,r⟩:=m l _ e;exact⟨n_,.inr ⟨u,q⟩,r⟩
  |_=>cases h
def kX(x:D)(ds:List D):Bool:=ds.any λd=>bg d x
def qR{k:Type}(o:Option k)(Q:k->Prop):Prop:=match o with
 |some x=>Q x
 |none=>False
def yh{k:Type}{o:Option k}{Q:k->Prop}(h:qR o Q):∃x,o=some x/\Q x:=by
 cases o with
 |none=>exact Yh h
 |some x=>exact⟨x,rfl,h⟩
def CH(x y:D)(M:MH)(Q:Bool->Prop):Prop:=match y with
 |.tup ds=>(bc x=true/\bo ds=true/\cU ds<=30)/\Q (kX x ds)
 |.ref a=>match cu (M a) with
  |some ds=>(bc x=true/\bo ds=true/\cU ds<=30)/\Q (kX x ds)
  |none=>qR (lU (M a)) λf_=>qR (sK x) λk=>Q (ik f_ k).isSome
 |.str j=>match x with
  |.str i=>Q (!(Builtin.Str.occurrences j i 0 j.length 1).isEmpty)
  |_=>False
 |_=>False
theorem MI{Q:Bool->Prop}(I:af X b_ ρ H s)(hu:X.A.units+40<cLine)(J:RV X.K H d v)(L:RV X.K H y u)(m:RM X.K M H)(r:RelV v v')(O:RelV u u')(h:CH d y M Q):
  ∃k,Q k/\(∀(Q':Zb),(∀n,af X b_ ρ H n->Q' (.bool k) n)->wpAny 'c' X.A (compareOp .In v' u') Q' X.xe s)/\(∀(Q':Zb),(∀n,af X b_ ρ H n->Q' (.bool (!k)) n)->wpAny 'c' X.A (compareOp .NotIn v' u') Q' X.xe s):=by
 have z:∀{ds:List D}{vs:List V}{d_:Zd},bc d=true->bo ds=true->cU ds<=30->aj X.K H ds vs->aq vs d_ ->
   (∀y,y∈d_.toArray->SeqAt.EqAt X.A.in1 s y v' (tX X.K H ds d y))/\d_.toArray.any (tX X.K H ds d)=kX d ds:=λ{ds vs d_} W S hd o p=>by
  refine⟨λy hy=>?_,?_⟩
  .obtain⟨x,Y,h1,E,G⟩:=wk o p (by simpa using hy)
   rw[wg I S h1 E G];obtain⟨i,hi⟩:=XW h1
   have:=gV hi
   exact tS 30 x d I 'a' (by rw[units_in1];omega) (cv S hi) W E J G r
  .rw[List.any_toArray]
   exact wj o p λx Y u h1 E G=>wg I S h1 E G
 cases y with
 |tup ds=>
  obtain⟨b,us,rfl,sq,o⟩:=RV.tup_.1 L;obtain⟨d_,p,tp,_⟩:=I.tuple sq;cases O;obtain⟨B,C⟩:=z h.1.1 h.1.2.1 h.1.2.2 o p;have tp:s.heap.IsTuple b d_.toArray:=tp;exact⟨_,h.2,λQ' q=>SeqAt.in_tupleAt _ tp B (by rw[C];exact q s I),λQ' q=>SeqAt.notIn_tupleAt _ tp B (by rw[C];exact q s I)⟩
 |ref b=>
  cases RV.ref_.1 L;cases O;have h:match cu (M b) with
   |some ds=>(bc d=true/\bo ds=true/\cU ds<=30)/\Q (kX d ds)
   |none=>qR (lU (M b)) λf_=>qR (sK d) λk=>Q (ik f_ k).isSome:=h
  split at h
  .rename_i ds e1
   obtain⟨vs,sq,o⟩:=m.list e1;obtain⟨d_,p,tp,_⟩:=I.list sq;obtain⟨B,C⟩:=z h.1.1 h.1.2.1 h.1.2.2 o p;exact⟨_,h.2,λQ' q=>SeqAt.in_listAt _ tp.isList B (by rw[C];exact q s I),λQ' q=>SeqAt.notIn_listAt _ tp.isList B (by rw[C];exact q s I)⟩
  .obtain⟨f_,e1,h⟩:=yh h
   obtain⟨k,Z,h⟩:=yh h;obtain⟨n_,e3,U,_⟩:=m.dict e1
   have:=A2 Z J
   subst this;have g:nV H b (kV k) (fZ n_ k):=.inl ⟨n_,k,e3,rfl,rfl⟩;refine⟨_,h,λQ' q=>Pe 'a' I g r λn T=>?_,λQ' q=>JO 'a' I g r λn T=>?_⟩
   .rw[sL U];exact q n T
   .rw[sL U];exact q n T
 |str j=>
  cases RV.str_.1 L;cases d with
  |str i=>
   cases RV.str_.1 J;obtain⟨t,rfl⟩:=r;obtain⟨t',rfl⟩:=O;exact⟨_,h,λQ' q=>P.in_str (q s I),λQ' q=>notIn_str (q s I)⟩
  |_=>exact Yh h
 |_=>exact Yh h
def GU:pV:=λx y M Q=>CH x y M λb=>Q (.bl b) M
def vj:pV:=λx y M Q=>CH x y M λb=>Q (.bl (!b)) M
def MJ(hu:X.A.units+40<cLine):iV X (compareOp .In) GU:=by
 intro x y v u H M Q m n k h b_ s ρ v' u' I r o;obtain⟨b,q,h1,_⟩:=MI I hu m n k r o h;exact h1 _ λz p=>⟨.bl b,H,p,rfl,aS (RV.bl_.2 rfl) k q⟩
def Ex(hu:X.A.units+40<cLine):iV X (compareOp .NotIn) vj:=by
 intro x y v u H M Q m n k h b_ s ρ v' u' I r o;obtain⟨b,q,_,h1⟩:=MI I hu m n k r o h;exact h1 _ λz p=>⟨.bl (!b),H,p,rfl,aS (RV.bl_.2 rfl) k q⟩
def xz:D->Bool
 |.non=>true
 |_=>false
def MK:D->Bool
 |.bl _=>true
 |_=>false
def A3:Bool->D->Bool
 |true,.bl a=>a
 |false,.bl a=>!a
 |_,_=>false
def ML(x y:D):Bool:=match y with
 |.non=>true
 |.bl _=>MK x
 |_=>false
def CI(x y:D):Bool:=match y with
 |.non=>xz x
 |.bl b=>A3 b x
 |_=>false
def GV:pV:=λx y M Q=>ML x y=true/\Q (.bl (CI x y)) M
def vk:pV:=λx y M Q=>ML x y=true/\Q (.bl (!CI x y)) M
def sM(r:RV K H d v):decide (v=.non)=xz d:=by
 cases d with
 |non=>cases RV.non_.1 r;rfl
 |tup ds=>obtain⟨a,xs,rfl,_⟩:=RV.tup_.1 r;rfl
 |bl _=>cases RV.bl_.1 r;rfl
 |int _=>cases RV.int_.1 r;rfl
 |str _=>cases RV.str_.1 r;rfl
 |ref _=>cases RV.ref_.1 r;rfl
 |ty _=>cases RV.ty_.1 r;rfl
def MM(a b:Bool):(a==b)=A3 b (.bl a):=by cases a<;>cases b<;>rfl
def MN:iV X (compareOp .Is) GV:=by
 intro x y v u H M Q k m n h;obtain⟨h1,o⟩:=h;cases y with
 |non=>
  cases RV.non_.1 m;exact kn L6 ⟨rfl,by rw[sM k];exact aS (RV.bl_.2 rfl) n o⟩
 |bl b=>
  cases x with
  |bl a=>
   cases RV.bl_.1 k;cases RV.bl_.1 m;intro b_ s ρ v' u' I r p;cases r;cases p;refine is_bool ?_;rw[MM];exact⟨.bl (A3 b (.bl a)),H,I,rfl,aS (RV.bl_.2 rfl) n o⟩
  |_=>cases h1
 |_=>cases h1
def Ey:iV X (compareOp .IsNot) vk:=by
 intro x y v u H M Q k m n h;obtain⟨h1,o⟩:=h;cases y with
 |non=>
  cases RV.non_.1 m;exact kn Jy ⟨rfl,by rw[sM k];exact aS (RV.bl_.2 rfl) n o⟩
 |bl b=>
  cases x with
  |bl a=>
   cases RV.bl_.1 k;cases RV.bl_.1 m;intro b_ s ρ v' u' I r p;cases r;cases p;refine isnot_bool ?_;rw[show(a != b) = !A3 b (.bl a) by cases a<;>cases b<;>rfl];exact⟨.bl (!A3 b (.bl a)),H,I,rfl,aS (RV.bl_.2 rfl) n o⟩
  |_=>cases h1
 |_=>cases h1
def IR:D->D->MH->DK->Prop
 |.int i,.int j,M,Q=>Q (.bl (decide (i<j))) M
 |.tup [.int a,.int b],.tup [.int c,.int d],M,Q=>Q (.bl (decide (a<c\/a=c/\b<d))) M
 |_,_,_,_=>False
def Pi(a b c d:Int):HT.lexLt [a,b] [c,d]=decide (a<c\/a=c/\b<d):=by
 rw[HT.nU,HT.nU,HT.oU];split
 .rename_i e
  subst e;split
  .rename_i e
   subst e;simp
  .simp
 .rename_i e
  simp[e]
def IS{b:Int}(r:aj K H [.int i,.int b] vs)(v:aq vs d_):IntsAre d_.toArray.toList [i,b]:=by
 rw[aj] at r;obtain⟨x,z,rfl,o,k⟩:=r;rw[aj] at k;obtain⟨y,m,rfl,p,n⟩:=k;rw[aj] at n;subst n;cases RV.int_.1 o;cases RV.int_.1 p;exact intsAre_of (ns:=[i,b]) v
theorem MP(hu:X.A.units+40<cLine):iV X (compareOp .Lt) IR:=by
 intro x y v u H M Q k m n h;unfold IR at h;split at h
 .exact tV (g:=λi j=>decide (i<j)) N6 _ _ v u H _ _ k m n h
 .obtain⟨p,us,rfl,sq,o⟩:=RV.tup_.1 k
  obtain⟨q,L,rfl,z,B⟩:=RV.tup_.1 m;intro b_ s ρ v' u' I r C;obtain⟨d_,E,tp,_⟩:=I.tuple sq;obtain⟨o_,G,J,_⟩:=I.tuple z;cases r;cases C;refine HT.Ce tp J (IS o E) (IS B G) 'a' ?_;rw[Pi];exact⟨.bl _,H,I,rfl,aS (RV.bl_.2 rfl) n h⟩
 .exact Yh h
def CJ:CmpOp->pV
 |.Eq=>GS
 |.NotEq=>GT
 |.Lt=>IR
 |.LtE=>Ev λi j=>decide (i<=j)
 |.Gt=>Ev λi j=>decide (j<i)
 |.GtE=>Ev λi j=>decide (j<=i)
 |.Is=>GV
 |.IsNot=>vk
 |.In=>GU
 |.NotIn=>vj
def A4(hu:X.A.units+40<cLine)(op:CmpOp):iV X (compareOp op) (CJ op):=by
 cases op with
 |Eq=>exact ME hu
 |NotEq=>exact MF hu
 |Lt=>exact MP hu
 |LtE=>exact tV N7
 |Gt=>exact tV N8
 |GtE=>exact tV N9
 |Is=>exact MN
 |IsNot=>exact Ey
 |In=>exact MJ hu
 |NotIn=>exact Ex hu
def xW(X:Cx):R2:=λx y H Q=>∀m k b_ s ρ v u,af X b_ ρ H s->RelV x v->RelV y u->subscripted k false v u=operate [v,u] (getItem v u)->wpAny 'c' X.A (subscriptTail m k v u) (EP X b_ ρ Q) X.xe s
def Pj:AJ X (xW X):=λk m b_ s σ _ _ _ v u _ I n o h hs=>h k m b_ s σ v u I n o hs
def tY{r:R2}(h:AJ X r)(q:r v u H Q):xW X v u H Q:=λk m b_ s ρ y x I n o hs=>h k m b_ s ρ H v u y x Q I n o q hs
def Kn(h:xW X v u H Q)(g:∀y H',Q y H'->Q' y H'):xW X v u H Q':=λk m b_ s ρ y x I n o hs=>aK (h k m b_ s ρ y x I n o hs) λ_ _ ⟨y,H',p,r,q⟩=>⟨y,H',p,r,g y H' q⟩
def A7(hu:X.A.units+1<cLine):AJ X (λx y H Q=>∃a v,x=.ref a/\nV H a y (some v)/\Q v H):=by
 intro k m b_ s σ H x y v u Q I n o h hs;obtain⟨a,z,rfl,g,q⟩:=h;cases n;exact tail_any (zW I g) PySem.F.slot_dict_getitem.lookup (Ea hu I g o λB C p r=>⟨z,H,p,r,q⟩) hs
theorem vm{K:Za}:∀{f_:ZC}{n_:List (Key×V)}{k:Key}{d:D},n_.map (·.1)=f_.map (·.1)->aj K H (f_.map (·.2)) (n_.map (·.2))->ik f_ k=some d->∃v,fZ n_ k=some v/\RV K H d v
 |[],_,_,_,_,_,h=>by cases h
 |(k',d')::f_,[],_,_,e,_,_=>by cases e
 |(k',d')::f_,(m,n)::n_,k,d,e,r,h=>by
  simp only[YL,List.cons.injEq] at e;obtain⟨e1,o⟩:=e;subst e1;simp only[YL] at r;rw[aj] at r;obtain⟨v,vs,z,p,B⟩:=r;cases z;unfold ik at h;unfold fZ;rw[XE] at h ⊢;by_cases q:m=k
  .simp only[YW q,Option.map_some] at h ⊢
   cases h;exact⟨n,rfl,p⟩
  .simp only[ZQ q] at h ⊢
   exact vm o B h
def bP{k:Type}(o:Option k)(Q:k->Prop):Prop:=match o with
 |some x=>Q x
 |none=>False
def bv{k:Type}{o:Option k}{Q:k->Prop}(h:bP o Q):∃x,o=some x/\Q x:=by
 cases o with
 |none=>exact Yh h
 |some x=>exact⟨x,rfl,h⟩
def IT:pV:=λx y M Q=>match x,y with
 |.tup ds,.int i=>bP (de ds i) λd=>Q d M
 |.ref a,.int i=>match M a with
  |some (.lst ds)=>bP (de ds i) λd=>Q d M
  |some (.rol ds)=>bP (de ds i) λd=>Q d M
  |some (.dic f_)=>bP (ik f_ (.inl i)) λd=>Q d M
  |some (.rod f_)=>bP (ik f_ (.inl i)) λd=>Q d M
  |_=>False
 |_,_=>False
def yi(k:aj K H ds vs)(h:de ds i=some d):∃v,de vs i=some v/\RV K H d v:=by
 unfold de at h ⊢;rw[←k.len];cases q:lR ds.length i with
 |none=>rw[q] at h;cases h
 |some j=>
  rw[q] at h;obtain⟨v,hv,r⟩:=eI k.p (show ds[j]?=some d from h);exact⟨v,hv,r⟩
theorem Pz(hu:X.A.units+40<cLine){Q:DK}(C:RV X.K H d v)(E:RV X.K H y u)(m:RM X.K M H)(h:IT d y M Q):xW X v u H (lift X.K H Q):=by
 cases d with
 |tup ds=>cases y with
  |int i=>
   obtain⟨x,e1,q⟩:=bv h;obtain⟨a,vs,rfl,sq,n⟩:=RV.tup_.1 C;cases RV.int_.1 E;obtain⟨o,p,r⟩:=yi n e1;exact tY Me ⟨a,vs,i,o,rfl,rfl,sq,p,aS r m q⟩
  |_=>exact Yh h
 |ref a=>
  cases RV.ref_.1 C;cases y with
  |int i=>
   cases RV.int_.1 E;have h:match M a with
    |some (.lst ds)=>bP (de ds i) λx=>Q x M
    |some (.rol ds)=>bP (de ds i) λx=>Q x M
    |some (.dic f_)=>bP (ik f_ (.inl i)) λx=>Q x M
    |some (.rod f_)=>bP (ik f_ (.inl i)) λx=>Q x M
    |_=>False:=h
   split at h
   .rename_i ds z
    obtain⟨x,e1,q⟩:=bv h;obtain⟨vs,p,n⟩:=m a _ z;obtain⟨o,e3,r⟩:=yi n e1;exact tY AK ⟨a,vs,i,o,rfl,rfl,bQ.of p,e3,aS r m q⟩
   .rename_i ds z
    obtain⟨x,e1,q⟩:=bv h;obtain⟨vs,p,n⟩:=m a _ z;obtain⟨o,e3,r⟩:=yi n e1;exact tY AK ⟨a,vs,i,o,rfl,rfl,.inl p,e3,aS r m q⟩
   .rename_i f_ z
    obtain⟨x,e1,q⟩:=bv h;obtain⟨n_,p,e3,n⟩:=m a _ z;obtain⟨o,B,r⟩:=vm e3 n e1;exact tY (A7 'a') ⟨a,o,rfl,by rw[←B];exact nV.k (k:=.inl i) p,aS r m q⟩
   .rename_i f_ z
    obtain⟨x,e1,q⟩:=bv h;obtain⟨u0,n_,p,e3,n⟩:=m a _ z;obtain⟨o,B,r⟩:=vm e3 n e1;exact tY (A7 'a') ⟨a,o,rfl,by rw[←B];exact .inl ⟨n_,.inl i,.inr ⟨u0,p⟩,rfl,rfl⟩,aS r m q⟩
   .exact Yh h
  |_=>exact Yh h
 |_=>exact Yh h
def gF:Expr->Bool
 |.Slice _ _ _ _=>false
 |_=>true
def Ko(h:gF b=true):AI b:=by
 intro o i;cases b<;>first | rfl | (exact absurd (show false=true from h) YF)
def MQ(hu:X.A.units+40<cLine)(ha:aN X a t)(hb:aN X b te)(hs:gF b=true):aN X (.Subscript a b pos) (rW IT t te):=by
 intro σ M ρ H Q rs m h;refine cc (Of Pj (bJ a) (bJ b) (Ko hs)) ?_;show tW X a ρ H _;refine aM (two ha hb rs m h) λv n o=>?_
 show tW X b ρ n _;refine aM o λu C p=>?_
 obtain⟨k,x,y,M2,r,z,B,q⟩:=p;exact Kn (Pz hu r z B q) λ_ _=>cI k
end
end DD
namespace HT
open PySem PySem.Spec PyProof.Rows L2
variable {lo:Zq}{vl:Value}{t:Addr}
section
variable {prog:Zw}{w:World}{A:Around}{E:Zb}{s:Shared}
def rJ{sl:Addr}{a:Zl}{b:Value}{hi:Zq}{Q:Zb}(ht:IsTup s.heap t a)(hs:s.heap.IsSliceOf sl vl b .none)(c:IsPart vl lo)(f:IsPart b hi)
  (hw:aV a.size 0 lo=0/\aV a.size a.size hi=a.size) (h:Q (.ref t) s):wpAny 'f' A (getItem (.ref t) (.ref sl)) Q E s:=by
 obtain⟨os,g,j,l⟩:=id hs;have k:s.TypeIs (.ref sl) "slice":=⟨os,g,j⟩;unfold getItem;try with_reducible refine Yj ?_
 first | refine Yb (Yc ?_) | skip
 refine Yb (wpAny_sequenceKey ht.typeIs 'b' ?_);refine Yb (wpAny_callSpecial?_slot (name:=Str.ofString "__getitem__") ht.typeIs PyProof.Rows.slot_tuple_getitem
  (wpAny_call_entry PyProof.Rows.slot_tuple_getitem ht.typeIs entry_tuple_getitem ?_ (args_tuple_getitem _ _)))
 show wpAny _ _ (Builtin.Tuple.tupleItemsOf (.ref t) >>= _) _ _ s;refine Yb (tupleItemsOf_ ht ?_);refine Yb (wpAny_typeOf k ?_);rw[if_pos 'b'];refine Yb (kO hs c f ?_);show wpAny _ _ (if(((aV a.size 0 lo:Nat):Int)==0&&(1:Int)==1&&(aV a.size a.size hi-aV a.size 0 lo)==a.size)=true then _ else _) _ _ s;rw[if_pos (by rw[hw.1,hw.2];simp)];refine Yb (m:=Builtin.Tuple.tupleIsExact _) (Yb (wpAny_typeOf ht.typeIs (Yc ?_)));rw[if_pos 'b'];refine Yb (wpAny_rule ?_);exact Yc ⟨_,rfl,Yc h⟩
end
end HT
namespace DD
open PySem PySem.Spec PyProof.Rows L2
variable {r_ tp:Pos}{to ta tv:WE}{j:Nat}{v i o:V}{f:Str}{d y d':D}{vs:List V}{K:Za}{t it:Addr}{Q Q':VK}{M:MH}{elts:Zg}{v':Value}{ρ:L2.St}{b_:Zc}{hi:Zq}{lo e:Option Expr}{env:Env}{s:Shared}{r:az}{P:Zw}{e_:Zl}{ch:Zh}{c:Rc}{th tl:WO}{w:World}{ds:List D}{O:qc}{d_:Zd}{H0:Hp}{h:Heap}{l:Expr}
section
variable {X:Cx}{H:Hp}{e a b c o:Expr}{es:Zg}{pos:Pos}
def Ez(X:Cx):V->Option Int->Option Int->Hp->VK->Prop:=λx lo hi H Q=>∀b_ s ρ v g k sl,af X b_ ρ H s->RelV x v->s.heap.IsSliceOf sl g k .none->IsPart g lo->IsPart k hi ->
 ∃T id,typeLookup (.type T) "__getitem__" = pure (some (.builtin id))/\s.TypeIs v T/\wpAny 'c' X.A (getItem v (.ref sl)) (EP X b_ ρ Q) X.xe s
def Pk:AF X (Ez X):=λb_ s σ _ _ v g k _ _ sl _ I m hs n p h=>h b_ s σ v g k sl I m hs n p
def yj{r:V->Option Int->Option Int->Hp->VK->Prop}{lo:Zq}(h:AF X r)(q:r v lo hi H Q):Ez X v lo hi H Q:=λb_ s ρ x g k sl I m hs n p=>h b_ s ρ H v x g k lo hi sl Q I m hs n p q
def GW{lo:Zq}(h:Ez X v lo hi H Q)(g:∀x H',Q x H'->Q' x H'):Ez X v lo hi H Q':=λb_ s ρ x k m sl I n hs p u=>
 let⟨T,id,h1,h2,h3⟩:=h b_ s ρ x k m sl I n hs p u;⟨T,id,h1,h2,aK h3 λ_ _ ⟨x,H',z,r,q⟩=>⟨x,H',z,r,g x H' q⟩⟩
def dQ{g:Type}(xs:List g)(lo hi:Zq):List g:=(xs.drop (HT.aV xs.length 0 lo)).take (HT.aV xs.length xs.length hi-HT.aV xs.length 0 lo)
def yk(r:aj K H ds vs)(lo hi:Zq):aj K H (dQ ds lo hi) (i5 vs lo hi):=by
 unfold dQ i5;rw[←r.len];exact aj.of (va _ (AL _ r.p))
def Pl(K:Za):V->Option Int->Option Int->Hp->VK->Prop:=λx lo hi H Q=>∃a xs,x=.ref a/\bX K H a xs/\(HT.aV xs.length 0 lo=0/\HT.aV xs.length xs.length hi=xs.length)/\Q (.ref a) H
def Kq:AF X (Pl X.K):=by
 intro b_ s σ H x v p u lo hi sl Q I g hs k m h;obtain⟨a,xs,rfl,hx,hw,q⟩:=h;cases g;obtain⟨d_,r,ht,z⟩:=I.tuple hx;have n:d_.toArray.size=xs.length:=by rw[YI];exact r.length.symm
 refine⟨"tuple",_,PyProof.Rows.slot_tuple_getitem.lookup,ht.typeIs,?_⟩;exact HT.rJ ht hs k m (by rw[n];exact hw) ⟨.ref a,H,I,rfl,q⟩
def MR(x:D)(lo hi:Zq)(M:MH)(Q:DK):Prop:=match x with
 |.tup ds=>Q (.tup (dQ ds lo hi)) M
 |.ref a=>bP (cu (M a)) λds=>∀p,M p=none->Q (.ref p) (ae M p (.lst (dQ ds lo hi)))
 |_=>False
def PB{lo:Zq}{Q:DK}(u:RV X.K H d v)(g:RM X.K M H)(h:MR d lo hi M Q):Ez X v lo hi H (lift X.K H Q):=by
 cases d with
 |tup ds=>
  obtain⟨a,vs,rfl,sq,n⟩:=RV.tup_.1 u;by_cases hw:HT.aV ds.length 0 lo=0/\HT.aV ds.length ds.length hi=ds.length
  .have h:Q (.tup (dQ ds lo hi)) M:=h
   have e:dQ ds lo hi=ds:=by unfold dQ;rw[hw.1,hw.2];simp
   rw[e] at h;exact yj Kq ⟨a,vs,rfl,sq,by rw[←n.len];exact hw,aS u g h⟩
  refine yj Md ⟨a,vs,rfl,sq,by rw[←n.len];exact hw,λp hp=>?_⟩;have k:=Kp.new (o:=.tup (i5 vs lo hi)) hp;exact⟨k,.tup (dQ ds lo hi),M,RV.tup_.2 ⟨p,_,rfl,bX.of aI,aj.mono k _ (yk n lo hi)⟩,g.newH hp,h⟩
 |ref a=>
  cases RV.ref_.1 u;obtain⟨ds,e1,q⟩:=bv h;obtain⟨vs,sq,n⟩:=g.list e1;refine yj JL ⟨a,vs,rfl,sq,λp hp=>?_⟩;have k:=Kp.new (o:=.lst (i5 vs lo hi)) hp;exact⟨k,.ref p,_,RV.ref_.2 rfl,g.new (m:=.lst (dQ ds lo hi)) hp ⟨_,aI,aj.mono k _ (yk n lo hi)⟩,q p (g.fresh hp)⟩
 |_=>exact Yh h
def intD(x:D)(Q:Int->Prop):Prop:=match x with
 |.int i=>Q i
 |_=>False
def qS{Q:Int->Prop}(h:intD d Q):∃i,d=.int i/\Q i:=by
 cases d with
 |int i=>exact⟨i,rfl,h⟩
 |_=>exact Yh h
abbrev WO:=DS->MH->(Option Int->MH->Prop)->Prop
def wl(X:Cx)(e:Option Expr):TO:=λρ H Q=>∀b_ s,af X b_ ρ H s->wpAny 'c' X.A (evalPart e X.env) (λu g=>∃o H',af X b_ ρ H' g/\IsPart u o/\Q o H') X.xe s
def CK(e:Option Expr):PO X e (wl X e):=λb_ s _ _ _ I h=>h b_ s I
def yl(X:Cx)(e:Option Expr)(t:WO):Prop:=∀σ M ρ H Q,RS X.K H σ ρ->RM X.K M H->t σ M Q->wl X e ρ H λo H'=>Kp H H'/\∃M',RM X.K M' H'/\Q o M'
def GX:yl X none (λ_ M Q=>Q none M):=λσ M ρ H Q rs g q b_ s I=>JJ b_ s ρ H _ I ⟨Kp.refl H,M,g,q⟩
def GY(h:aN X e to):yl X (some e) (λσ M Q=>to σ M λx M1=>intD x λi=>Q (some i) M1):=λσ M ρ H Q rs k q b_ s I=>
 AE (bJ e) b_ s ρ H _ I (aM (h σ M ρ H _ rs k q) λv u ⟨m,x,M1,n,p,g⟩=>by
  obtain⟨i,rfl,g⟩:=qS g;exact⟨i,RV.int_.1 n,m,M1,p,g⟩)
def n9{Q Q':Option Int->Hp->Prop}(h:wl X lo ρ H Q)(f:∀o H',Q o H'->Q' o H'):wl X lo ρ H Q':=λb_ s I=>aK (h b_ s I) λ_ _ ⟨o,H',g,r,q⟩=>⟨o,H',g,r,f o H' q⟩
def MT(ta:WE)(tl th:WO):WE:=λσ M Q=>ta σ M λx M1=>tl σ M1 λl M2=>th σ M2 λu g=>MR x l u g Q
def MU{hi:Option Expr}(ha:aN X a ta)(hl:yl X lo tl)(z:yl X hi th):aN X (.Subscript a (.Slice lo hi none r_) pos) (MT ta tl th):=by
 intro σ M ρ H Q rs A h;refine cc (Gc Pk (bJ a) (CK lo) (CK hi)) ?_;show tW X a ρ H _;refine aM (ha σ M ρ H _ rs A h) λv m B=>?_
 obtain⟨g,x,M1,C,E,G⟩:=B;show wl X lo ρ m _;refine n9 (hl σ M1 ρ m _ (rs.mono g) E G) λl n I=>?_
 obtain⟨k,M2,J,L⟩:=I;show wl X hi ρ n _;refine n9 (z σ M2 ρ n _ (rs.mono (g.trans k)) J L) λu U R=>?_
 obtain⟨p,W,S,T⟩:=R;exact GW (PB (RV.mono (k.trans p) x C) S T) λ_ _=>cI (g.trans (k.trans p))
def cW(X:Cx)(f:Value):List V->Hp->VK->Prop:=λvs H Q=>∀b_ s ρ us,af X b_ ρ H s->aq vs us->wpAny 'c' X.A (call f us) (EP X b_ ρ Q) X.xe s
def OC(f:Value):gv X f (cW X f):=λb_ s σ _ _ us _ I r h=>h b_ s σ us I r
def gw{r:List V->Hp->VK->Prop}(h:gv X v' r)(q:r vs H Q):cW X v' vs H Q:=λb_ s ρ us I g=>h b_ s ρ H vs us Q I g q
def Ba(h:cW X v' vs H Q)(g:∀v H',Q v H'->Q' v H'):cW X v' vs H Q':=λb_ s ρ us I k=>aK (h b_ s ρ us I k) λ_ _ ⟨v,H',m,r,q⟩=>⟨v,H',m,r,g v H' q⟩
def il(X:Cx)(f:Value)(r:az):Prop:=∀ds vs H M Q,aj X.K H ds vs->RM X.K M H->r ds M Q->cW X f vs H (lift X.K H Q)
def gW{id:String}{t:WA}(hc:il X (.builtin id) r)(hg:Gl X f)(hm:X.mg f=none)(hv:bootBuiltins f=some (.builtin id))(hn:f ≠ "__name__")(g:(f==("__debug__" : Str))=false)(hs:ay e=true)(k:es.all ay=true)
  (ha:gU X (e::es) t):aN X (.Call (.Name f r_) (e::es) [] pos) (jq r t):=by
 intro σ M ρ H Q rs m h;refine cc (F5 (OC _) hg hm hv (mL (e::es)) hn g (bt hs) (dY k)) ?_;show kR X (e::es) ρ H _;refine dC (ha σ M ρ H _ rs m h) λvs n p=>?_
 obtain⟨u,ds,M1,z,_,A,B⟩:=p;exact Ba (hc ds vs n M1 Q z A B) λ_ _=>cI u
def tZ{id:String}{t:WA}(hc:il X (.type id) r)(hg:Gl X f)(hm:X.mg f=none)(hv:bootBuiltins f=some (.type id))(hn:f ≠ "__name__")(g:(f==("__debug__" : Str))=false)(hs:ay e=true)(k:es.all ay=true)
  (ha:gU X (e::es) t):aN X (.Call (.Name f r_) (e::es) [] pos) (jq r t):=by
 intro σ M ρ H Q rs m h;refine cc (DZ (OC _) hg hm hv (mL (e::es)) hn g (bt hs) (dY k)) ?_;show kR X (e::es) ρ H _;refine dC (ha σ M ρ H _ rs m h) λvs n p=>?_
 obtain⟨u,ds,M1,z,_,A,B⟩:=p;exact Ba (hc ds vs n M1 Q z A B) λ_ _=>cI u
def f6(r:aj K H [d] vs):∃v,vs=[v]/\RV K H d v:=by
 rw[aj] at r;obtain⟨v,m,rfl,k,g⟩:=r;rw[aj] at g;subst g;exact⟨v,rfl,k⟩
def CL(r:aj K H [d,d'] vs):∃v v',vs=[v,v']/\RV K H d v/\RV K H d' v':=by
 rw[aj] at r;obtain⟨v,n,rfl,g,k⟩:=r;obtain⟨v',rfl,m⟩:=f6 k;exact⟨v,v',rfl,g,m⟩
def CM:az:=λds M Q=>match ds with
 |[.str z]=>z.length<=sizeLine/\Q (.int z.length) M
 |[.tup xs]=>Q (.int xs.length) M
 |[.ref a]=>match M a with
  |some (.lst xs)=>Q (.int xs.length) M
  |some (.rol xs)=>Q (.int xs.length) M
  |some (.dic g)=>Q (.int g.length) M
  |some (.rod g)=>Q (.int g.length) M
  |_=>False
 |_=>False
def EA:gv X (.builtin "len") (λxs H Q=>∃a g,xs=[V.ref a]/\Rd H a (.dK g)/\Q (.int g.length) H):=by
 rintro b_ s σ H xs us Q I r ⟨a,g,rfl,ha,q⟩;obtain⟨u,rfl,k⟩:=vals1 r;cases k;exact IL I ha λt n m=>⟨.int g.length,H,m,⟨t,rfl⟩,q⟩
def MV:il X (.builtin "len") CM:=by
 intro ds vs H M Q r g h;unfold CM at h;split at h
 .obtain⟨v,rfl,m⟩:=f6 r
  cases RV.str_.1 m;exact gw xQ ⟨_,rfl,h.1,aS (RV.int_.2 rfl) g h.2⟩
 .obtain⟨v,rfl,m⟩:=f6 r
  obtain⟨a,us,rfl,sq,k⟩:=RV.tup_.1 m;exact gw kP ⟨a,us,rfl,.inr sq,aS (RV.int_.2 (by rw[k.len])) g h⟩
 .obtain⟨v,rfl,m⟩:=f6 r
  cases RV.ref_.1 m;split at h
  .rename_i xs e1
   obtain⟨us,sq,k⟩:=g _ _ e1;exact gw kP ⟨_,us,rfl,.inl (bQ.of sq),aS (RV.int_.2 (by rw[k.len])) g h⟩
  .rename_i xs e1
   obtain⟨us,sq,k⟩:=g _ _ e1;exact gw kP ⟨_,us,rfl,.inl (.inl sq),aS (RV.int_.2 (by rw[k.len])) g h⟩
  .rename_i z e1
   obtain⟨n,p,u,k⟩:=g _ _ e1;exact gw Ee ⟨_,n,rfl,p,aS (RV.int_.2 (by have:=congrArg List.length u;simp only[ZF] at this;rw[this])) g h⟩
  .rename_i z e1
   obtain⟨u0,n,p,u,k⟩:=g _ _ e1;exact gw EA ⟨_,n,rfl,.inr ⟨u0,p⟩,aS (RV.int_.2 (by have:=congrArg List.length u;simp only[ZF] at this;rw[this])) g h⟩
  .exact Yh h
 .exact Yh h
def j0(x:D)(M:MH):Option String:=match x with
 |.non=>some "NoneType"
 |.bl _=>some "bool"
 |.int _=>some "int"
 |.str _=>some "str"
 |.tup _=>some "tuple"
 |.ref a=>match M a with
  |some (.lst _)=>some "list"
  |some (.dic _)=>some "dict"
  |_=>none
 |.ty _=>none
def t7(t T:String):Bool:=t==T||(t == "bool" && T == "int")
def kinds:List String:=["NoneType","bool","int","str","tuple","list","dict"]
def EB:∀t∈kinds,∀T∈kinds,T ≠ "NoneType"->(if(Value.type t==Value.type T)=true then some true else if PySem.W.kitMeta T=true then(fastBuiltinMro t).map (·.contains (.type T)) else none)=some (t7 t T):=by rfl'
def ym:List D->Option (List String)
 |[]=>some []
 |.ty T::r=>(ym r).map (T :: ·)
 |_=>none
def CN(T:String):Bool:=kinds.contains T&&T != "NoneType"
def qT:az:=λds M Q=>match ds with
 |[x,.ty T]=>(T∈kinds/\T ≠ "NoneType")/\bP (j0 x M) λt=>Q (.bl (t7 t T)) M
 |[x,.tup ts]=>bP (ym ts) λg=>g.all CN=true/\bP (j0 x M) λt=>Q (.bl (g.any (t7 t))) M
 |_=>False
theorem Bb{K:Za}:∀{ts:List D}{g:List String}{vs:List V},ym ts=some g->aj K H ts vs->vs=g.map V.ty
 |[],g,vs,h,r=>by cases h;rw[aj] at r;subst r;rfl
 |.ty T::ts,g,vs,h,r=>by
  rw[ym] at h;rw[aj] at r;obtain⟨v,n,rfl,k,m⟩:=r;cases q:ym ts with
  |none=>rw[q] at h;cases h
  |some p=>rw[q] at h;cases h;rw[Bb q m,RV.ty_.1 k];rfl
 |.non::_,_,_,h,_=>by cases h
 |.bl _::_,_,_,h,_=>by cases h
 |.int _::_,_,_,h,_=>by cases h
 |.str _::_,_,_,h,_=>by cases h
 |.tup _::_,_,_,h,_=>by cases h
 |.ref _::_,_,_,h,_=>by cases h
theorem wm{K:Za}{t:String}(ht:t∈kinds):∀{k:List String}{us:Zd},k.all CN=true->aq (k.map V.ty) us->PySem.W.kitAny K (.type t) us=some (k.any (t7 t))
 |[],_,_,r=>by cases r;rfl
 |T::k,_,h,r=>by
  cases r with
  |cons m n=>
   rw[XS,YZ] at h;cases m;have g:=h.1;unfold CN at g;rw[YZ] at g;have p:=Ei K (EB t ht T (by simpa using g.1) (by simpa using g.2));unfold PySem.W.kitAny;rw[p,XF];cases t7 t T with
   |true=>rfl
   |false=>exact wm ht h.2 n
def yn{t:String}(h:j0 d M=some t):t∈kinds:=by
 cases d with
 |ref a=>
  have h:(match M a with
   |some (.lst _)=>some "list"
   |some (.dic _)=>some "dict"
   |_=>none)=some t:=h
  split at h<;>first | (cases h;decide) | cases h
 |ty _=>cases h
 |_=>cases h;decide
def GZ{c:Value}{t:String}{k:Bool}{Q:Zb}(I:af X b_ ρ H s)(g:RV X.K H d v)(m:RM X.K M H)(r:RelV v v')(h:j0 d M=some t)(e:PySem.W.kitOne X.K (.type t) c=some k)
  (hq:∀tk,Q (.bool k) { s with toks:=tk }):wpAny 'c' X.A (call (.builtin "isinstance") [v',c]) Q X.xe s:=by
 cases d with
 |non=>cases h;cases RV.non_.1 g;exact gS I r .non e hq
 |bl b=>cases h;cases RV.bl_.1 g;exact gS I r (.bl b) e hq
 |int b=>cases h;cases RV.int_.1 g;exact gS I r (.int b) e hq
 |str b=>cases h;cases RV.str_.1 g;exact gS I r (.str b) e hq
 |ty b=>cases h
 |tup ds=>
  cases h;obtain⟨a,xs,rfl,sq,n⟩:=RV.tup_.1 g;obtain⟨_,_,tp,_⟩:=I.tuple sq;cases r;obtain⟨o,h1,p,_⟩:=tp;exact PySem.W.kia_one PySem.W.kitx_tuple I.kIn ⟨o,h1,p⟩ e (λz=>nomatch z) hq
 |ref a=>
  cases RV.ref_.1 g;have h:(match M a with
   |some (.lst _)=>some "list"
   |some (.dic _)=>some "dict"
   |_=>none)=some t:=h
  split at h
  .rename_i e1;cases h
   obtain⟨us,sq,n⟩:=m _ _ e1;exact gS I r (.lst sq) e hq
  .rename_i e1;cases h
   obtain⟨us,sq,_⟩:=m _ _ e1;exact gS I r (.dK sq) e hq
  .cases h
def G0{t:String}{k:Bool}{Q:Zb}(I:af X b_ ρ H s)(g:RV X.K H d v)(u:RM X.K M H)(r:RelV v v')(h:j0 d M=some t)
  (ht:IsTup s.heap it d_.toArray) (e:PySem.W.kitAny X.K (.type t) d_=some k) (hq:∀tk,Q (.bool k) { s with toks:=tk }):wpAny 'c' X.A (call (.builtin "isinstance") [v',.ref it]) Q X.xe s:=by
 obtain⟨⟨oc,od,B,E_⟩,h1,C,n,E⟩:=ht;obtain rfl:oc=.type "tuple":=C;obtain rfl:B=.seq d_.toArray n:=E;cases d with
 |non=>cases h;cases RV.non_.1 g;cases r;exact PySem.W.kia_tup PySem.W.kitx_none I.kIn True.intro h1 e (λz=>nomatch z) hq
 |bl b=>cases h;cases RV.bl_.1 g;cases r;exact PySem.W.kia_tup PySem.W.kitx_bool I.kIn True.intro h1 e (λz=>nomatch z) hq
 |int b=>cases h;cases RV.int_.1 g;obtain⟨_,rfl⟩:=r;exact PySem.W.kia_tup PySem.W.kitx_int I.kIn True.intro h1 e (λz=>nomatch z) hq
 |str b=>cases h;cases RV.str_.1 g;obtain⟨_,rfl⟩:=r;exact PySem.W.kia_tup PySem.W.kitx_str I.kIn True.intro h1 e (λz=>nomatch z) hq
 |ty b=>cases h
 |tup ds=>
  cases h;obtain⟨a,xs,rfl,sq,G⟩:=RV.tup_.1 g;obtain⟨_,_,⟨o,m,p,_⟩,_⟩:=I.tuple sq;cases r;exact PySem.W.kia_tup PySem.W.kitx_tuple I.kIn ⟨o,m,p⟩ h1 e (λz=>nomatch z) hq
 |ref a=>
  cases RV.ref_.1 g;cases r;have h:(match M a with
   |some (.lst _)=>some "list"
   |some (.dic _)=>some "dict"
   |_=>none)=some t:=h
  split at h
  .rename_i e1;cases h
   obtain⟨J,sq,G⟩:=u _ _ e1;obtain⟨_,_,_,_,_,m⟩:=I.lstM sq;exact PySem.W.kia_tup PySem.W.kitx_list I.kIn ⟨_,m,rfl⟩ h1 e (λz=>nomatch z) hq
  .rename_i e1;cases h
   obtain⟨J,sq,_⟩:=u _ _ e1;obtain⟨_,_,_,_,o,es,L,m,p,_⟩:=Ck I.hok sq;exact PySem.W.kia_tup PySem.W.kitx_dict I.kIn ⟨o,m,p.1⟩ h1 e (λz=>nomatch z) hq
  .cases h
def EC:il X (.builtin "isinstance") qT:=by
 intro ds vs H M Q r g h;unfold qT at h;split at h
 .rename_i x T
  obtain⟨v,B,rfl,k,m⟩:=CL r;cases RV.ty_.1 m;obtain⟨t,e1,q⟩:=bv h.2;intro b_ s ρ us I n;obtain⟨u,u',rfl,p,z⟩:=n.two;cases z;exact GZ I k g p e1 (Ei X.K (EB t (yn e1) T h.1.1 h.1.2)) λtk=>⟨.bl _,H,I.tok tk,rfl,aS (RV.bl_.2 rfl) g q⟩
 .rename_i x ts
  obtain⟨v,B,rfl,k,m⟩:=CL r;obtain⟨G,C,h⟩:=bv h;obtain⟨t,e1,q⟩:=bv h.2;obtain⟨tp,xs,rfl,sq,E⟩:=RV.tup_.1 m;intro b_ s ρ us I n;obtain⟨u,u',rfl,p,z⟩:=n.two;cases z;obtain⟨d_,A,ht,_⟩:=I.tuple sq;rw[Bb C E] at A;exact G0 I k g p e1 ht (wm (yn e1) h.1 A) λtk=>⟨.bl _,H,I.tok tk,rfl,aS (RV.bl_.2 rfl) g q⟩
 .exact Yh h
def oa:List D->Option (List Bool)
 |[]=>some []
 |.bl b::r=>(oa r).map (b :: ·)
 |_=>none
theorem Bc{K:Za}:∀{ds:List D}{bs:List Bool}{vs:List V},oa ds=some bs->aj K H ds vs->vs=bs.map V.bl
 |[],bs,vs,h,r=>by rw[aj] at r;subst r;cases h;rfl
 |.bl b::ds,bs,vs,h,r=>by
  rw[aj] at r;obtain⟨v,n,rfl,g,k⟩:=r;cases RV.bl_.1 g;unfold oa at h;cases q:oa ds with
  |none=>rw[q] at h;cases h
  |some m=>rw[q] at h;cases h;rw[Bc q k];rfl
def CO(f:List Bool->Bool):az:=λds M Q=>match ds with
 |[.ref a]=>match M a with
  |some (.lst xs)=>bP (oa xs) λbs=>Q (.bl (f bs)) M
  |_=>False
 |_=>False
def MW(hc:X.calm=true):il X (.builtin "all") (CO λbs=>bs.all id):=by
 intro ds vs H M Q r g h;unfold CO at h;split at h
 .obtain⟨v,rfl,k⟩:=f6 r
  cases RV.ref_.1 k;split at h
  .rename_i xs e1
   obtain⟨bs,m,q⟩:=bv h;obtain⟨us,sq,n⟩:=g _ _ e1
   have:=Bc m n
   subst this;exact gw (Gk hc) ⟨_,bs,rfl,bQ.of sq,aS (RV.bl_.2 rfl) g q⟩
  .exact Yh h
 .exact Yh h
def IU(f:Int->Int->Int):az:=λds M Q=>match ds with
 |[.int i,.int j]=>Q (.int (f i j)) M
 |_=>False
def MX(hc:X.calm=true):il X (.builtin "min") (IU λi j=>if j<i then j else i):=by
 intro ds vs H M Q r g h;unfold IU at h;split at h
 .obtain⟨v,v',rfl,k,m⟩:=CL r
  cases RV.int_.1 k;cases RV.int_.1 m;exact gw (DV hc) ⟨_,_,rfl,aS (RV.int_.2 rfl) g h⟩
 .exact Yh h
def t8:az:=λds M Q=>match ds with
 |[.tup xs]=>Q (.tup xs) M
 |[.ref a]=>bP (cu (M a)) λxs=>Q (.tup xs) M
 |_=>False
def G1:il X (.type "tuple") t8:=by
 intro ds vs H M Q r m h;unfold t8 at h;split at h
 .obtain⟨v,rfl,g⟩:=f6 r
  obtain⟨a,us,rfl,sq,n⟩:=RV.tup_.1 g;exact gw oV ⟨a,us,rfl,.inr ⟨sq,aS g m h⟩⟩
 .obtain⟨v,rfl,g⟩:=f6 r
  cases RV.ref_.1 g;obtain⟨xs,e1,q⟩:=bv h;obtain⟨us,sq,n⟩:=m.list e1;refine gw oV ⟨_,us,rfl,.inl ⟨sq,λp hp=>?_⟩⟩;have k:=Kp.new (o:=.tup us) hp;exact⟨k,.tup xs,M,RV.tup_.2 ⟨p,_,rfl,bX.of aI,aj.mono k _ n⟩,m.newH hp,q⟩
 .exact Yh h
def t9:az:=λds M Q=>match ds with
 |[.tup xs]=>∀p,M p=none->Q (.ref p) (ae M p (.lst xs))
 |[.ref a]=>bP (cu (M a)) λxs=>∀p,M p=none->Q (.ref p) (ae M p (.lst xs))
 |_=>False
def Bd:il X (.type "list") t9:=by
 intro ds vs H M Q r g h;unfold t9 at h;split at h
 .rename_i xs
  obtain⟨v,rfl,n⟩:=f6 r;obtain⟨a,us,rfl,sq,u⟩:=RV.tup_.1 n;refine gw pQ ⟨a,us,rfl,.inr sq,λp hp=>?_⟩;have k:=Kp.new (o:=.lst us) hp;exact⟨k,.ref p,_,RV.ref_.2 rfl,g.new (m:=.lst xs) hp ⟨us,aI,aj.mono k _ u⟩,h p (g.fresh hp)⟩
 .obtain⟨v,rfl,n⟩:=f6 r
  cases RV.ref_.1 n;obtain⟨xs,e1,q⟩:=bv h;obtain⟨us,sq,u⟩:=g.list e1;refine gw pQ ⟨_,us,rfl,.inl sq,λp hp=>?_⟩;have k:=Kp.new (o:=.lst us) hp;exact⟨k,.ref p,_,RV.ref_.2 rfl,g.new (m:=.lst xs) hp ⟨us,aI,aj.mono k _ u⟩,q p (g.fresh hp)⟩
 .exact Yh h
inductive Bi where
 |len | isinst | all | min | tuple
 deriving DecidableEq
def MY:Bi->az
 |.len=>CM
 |.isinst=>qT
 |.all=>CO λbs=>bs.all id
 |.min=>IU λi j=>if j<i then j else i
 |.tuple=>t8
def ua:Bi->Str
 |.len=>"len"
 |.isinst=>"isinstance"
 |.all=>"all"
 |.min=>"min"
 |.tuple=>"tuple"
def MZ(b:Bi)(hc:X.calm=true){t:WA}(hg:Gl X (ua b))(hm:X.mg (ua b)=none)(hs:ay e=true)(g:es.all ay=true)(ha:gU X (e::es) t):aN X (.Call (.Name (ua b) r_) (e::es) [] pos) (jq (MY b) t):=by
 cases b with
 |len=>exact gW MV hg hm PySem.boot_len 'b' 'b' hs g ha
 |isinst=>exact gW EC hg hm PyProof.Rows.boot_isinstance 'b' 'b' hs g ha
 |all=>exact gW (MW hc) hg hm (by rfl') 'b' 'b' hs g ha
 |min=>exact gW (MX hc) hg hm PyProof.Rows.boot_min 'b' 'b' hs g ha
 |tuple=>exact tZ G1 hg hm (by rfl') 'b' 'b' hs g ha
end
section
variable {X:Cx}{H:Hp}{e a b c o:Expr}{es:Zg}{pos:Pos}
def cw:Expr->Bool
 |.Call (.Name _ _) [] [] _=>false
 |_=>true
def qU{w:Sem Value}(h:cw o=true):attributeBase o f env w=w:=by
 unfold attributeBase;split
 .exact absurd (show false=true from h) YF
 .rfl
theorem sN{env:Env}{p:Pos}:∀{es:Zg},es.all ay=true->(backTo p (starEach es env)).all (λx=>!x.1)=true
 |[],_=>rfl
 |e::es,h=>by
  rw[XS,YZ] at h;rw[bt h.1];show(true&&(backTo p (starEach es env)).all (λx=>!x.1))=true;rw[sN h.2];rfl
def mW(X:Cx)(id:String):V->List V->Hp->VK->Prop:=λx xs H Q=>∀b_ s ρ v us,af X b_ ρ H s->RelV x v->aq xs us->wpAny 'c' X.A (call (.builtin id) (v::us)) (EP X b_ ρ Q) X.xe s
def OD(id:String):D2 X id (mW X id):=λb_ s σ _ _ _ v us _ I r g h=>h b_ s σ v us I r g
def ub{id:String}{r:V->List V->Hp->VK->Prop}(h:D2 X id r)(q:r v vs H Q):mW X id v vs H Q:=λb_ s ρ xs us I g k=>h b_ s ρ H v vs xs us Q I g k q
def Be{id:String}(h:mW X id v vs H Q)(g:∀xs H',Q xs H'->Q' xs H'):mW X id v vs H Q':=λb_ s ρ xs us I k m=>aK (h b_ s ρ xs us I k m) λ_ _ ⟨xs,H',n,r,q⟩=>⟨xs,H',n,r,g xs H' q⟩
abbrev sf:=D->List D->MH->DK->Prop
def Bf(X:Cx)(id:String)(r:sf):Prop:=∀x ds v vs H M Q,RV X.K H x v->aj X.K H ds vs->RM X.K M H->r x ds M Q->mW X id v vs H (lift X.K H Q)
inductive Rc where
 |str | lst | dic | int
def CP:Rc->D->MH->Prop
 |.str,.str _,_=>True
 |.int,.int _,_=>True
 |.lst,.ref a,M=>(cu (M a)).isSome=true
 |.dic,.ref a,M=>match M a with
  |some (.dic _)=>True
  |_=>False
 |_,_,_=>False
def ED:Rc->String
 |.str=>"str"
 |.lst=>"list"
 |.dic=>"dict"
 |.int=>"int"
def Bg{c:Rc}(r:RV K H d v)(m:RM K M H)(h:CP c d M):II K (ED c) v H:=by
 cases c with
 |int=>cases d with
  |int z=>cases RV.int_.1 r;rfl
  |_=>exact Yh h
 |str=>cases d with
  |str z=>cases RV.str_.1 r;rfl
  |_=>exact Yh h
 |lst=>cases d with
  |ref a=>
   cases RV.ref_.1 r;obtain⟨ds,e⟩:=Option.isSome_iff_exists.mp h;obtain⟨vs,sq,_⟩:=m.list e;exact .inl ⟨rfl,vs,sq⟩
  |_=>exact Yh h
 |dic=>cases d with
  |ref a=>
   cases RV.ref_.1 r;have h:match M a with
    |some (.dic _)=>True
    |_=>False:=h
   split at h
   .rename_i e
    obtain⟨g,q,_⟩:=m a _ e;exact .inr (.inr (.inl ⟨rfl,.inl ⟨g,q⟩⟩))
   .exact Yh h
  |_=>exact Yh h
def yo(c:Rc)(r:sf)(to:WE)(t:WA):WE:=λσ M Q=>to σ M λx M1=>CP c x M1/\t σ M1 λds M2=>r x ds M2 Q
theorem uc{c:Rc}{id:String}{r:sf}{t:WA}(A:PlainAttrs (ED c))(slot:Slot (ED c) f id)(B:typeOf (.builtin id)=pure (.type "method_descriptor"))(hm:Bf X id r)(C:aN X o to)(ha:gU X (e::es) t)
  (hb:cw o=true) (hs:ay e=true) (g:es.all ay=true) (hl:es.length<20) (E:(r_.endLine==pos.line)=true):aN X (.Call (.Attribute o f r_) (e::es) [] pos) (yo c r to t):=by
 intro σ M ρ H Q rs G h;refine cc (Oh A slot B (OD id) (bJ o) (mL (e::es)) (qU hb) ?_ E (bt hs) (dY g)) ?_
 .rw[sN (es:=e::es) (by rw[XS,hs,g];rfl)]
  show(true&&true&&decide ((e::es).length+0+0<30))=true;rw[Bool.and_self,XV];exact YW (by rw[YJ];omega)
 .show tW X o ρ H _
  refine aM (C σ M ρ H _ rs G h) λv k I=>?_
  obtain⟨m,x,M1,n,p,u⟩:=I;refine⟨Bg n p u.1,?_⟩;show kR X (e::es) ρ k _;refine dC (ha σ M1 ρ k _ (rs.mono m) p u.2) λvs J L=>?_
  obtain⟨z,ds,M2,R,_,S,T⟩:=L;exact Be (hm x ds v vs J M2 Q (RV.mono z x n) R S T) λ_ _=>cI (m.trans z)
def qV{c:Rc}{id:String}{r:sf}(n:PlainAttrs (ED c))(slot:Slot (ED c) f id)(p:typeOf (.builtin id)=pure (.type "method_descriptor"))(hm:Bf X id r)(u:aN X o to)
  (hb:cw o=true) (z:(r_.endLine==pos.line)=true):aN X (.Call (.Attribute o f r_) [] [] pos) (yo c r to pX):=by
 intro σ M ρ H Q rs A h;refine cc (Mf n slot p (OD id) (bJ o) (qU hb) z) ?_;show tW X o ρ H _;refine aM (u σ M ρ H _ rs A h) λv B C=>?_
 obtain⟨E,x,M1,g,k,m⟩:=C;refine⟨Bg g k m.1,?_⟩;exact Be (hm x [] v [] B M1 Q g aj.nil k m.2) λ_ _=>cI E
def qW:sf:=λx ds M Q=>match x,ds with
 |.ref a,[d]=>match M a with
  |some (.lst xs)=>xs.length<sizeLine/\Q .non (ae M a (.lst (xs++[d])))
  |_=>False
 |_,_=>False
def wn:Bf X "list.append" qW:=by
 intro x ds v vs H M Q z r g h;unfold qW at h;split at h
 .rename_i a d
  obtain⟨n,rfl,A⟩:=f6 r;cases RV.ref_.1 z;split at h
  .rename_i xs e1
   obtain⟨us,sq,u⟩:=g _ _ e1;have k:=Kp.put (o':=.lst (us++[n])) sq trivial;exact ub D8 ⟨a,us,n,rfl,rfl,sq,by rw[←u.len];exact h.1,k,.non,_,RV.non_.2 rfl,g.put (m:=.lst (xs++[d])) sq trivial ⟨_,aI,aj.of (bR (aj.mono k _ u).p (.cons (RV.mono k _ A) .nil))⟩,h.2⟩
  .exact Yh h
 .exact Yh h
def qX:sf:=λx ds M Q=>match x,ds with
 |.ref a,[.ref b]=>match M a,M b with
  |some (.lst xs),some (.lst g)=>xs.length+g.length<=sizeLine/\Q .non (ae M a (.lst (xs++g)))
  |_,_=>False
 |_,_=>False
def wo:Bf X "list.extend" qX:=by
 intro x ds v vs H M Q A r g h;unfold qX at h;split at h
 .rename_i a b
  obtain⟨I,rfl,B⟩:=f6 r;cases RV.ref_.1 A;cases RV.ref_.1 B;split at h
  .rename_i xs C e1 E
   obtain⟨us,sq,n⟩:=g _ _ e1;obtain⟨u,G,z⟩:=g _ _ E;have k:=Kp.put (o':=.lst (us++u)) sq trivial;exact ub D9 ⟨a,b,us,u,rfl,rfl,sq,G,by rw[←n.len,←z.len];exact h.1,k,.non,_,RV.non_.2 rfl,g.put (m:=.lst (xs++C)) sq trivial ⟨_,aI,aj.of (bR (aj.mono k _ n).p (aj.mono k _ z).p)⟩,h.2⟩
  .exact Yh h
 .exact Yh h
theorem yp{g k:Type}{F:g->k->Prop}:∀{l:List g}{m:List k}(i:Nat),Paired F l m->Paired F (l.eraseIdx i) (m.eraseIdx i)
 |_,_,_,.nil=>.nil
 |_,_,0,.cons _ t=>t
 |_,_,i+1,.cons q t=>.cons q (yp i t)
def zY{g k:Type}{F:g->k->Prop}{l:List g}{m:List k}(h:Paired F l m):Paired F l.dropLast m.dropLast:=by
 rw[List.dropLast_eq_take,List.dropLast_eq_take,←nj h];exact va _ h
def CQ:sf:=λx ds M Q=>match x,ds with
 |.ref a,[.int i]=>match M a with
  |some (.lst xs)=>(0<=i/\i<1000000)/\bP xs[i.toNat]? λd=>Q d (ae M a (.lst (xs.eraseIdx i.toNat)))
  |_=>False
 |.ref a,[]=>match M a with
  |some (.lst xs)=>bP xs[xs.length-1]? λd=>Q d (ae M a (.lst xs.dropLast))
  |_=>False
 |_,_=>False
theorem EE:Bf X "list.pop" CQ:=by
 intro x ds v vs H M Q E r n h;unfold CQ at h;split at h
 .rename_i a i
  obtain⟨J,rfl,G⟩:=f6 r;cases RV.ref_.1 E;cases RV.int_.1 G;split at h
  .rename_i xs e1
   obtain⟨us,sq,g⟩:=n _ _ e1;obtain⟨d,A,q⟩:=bv h.2;obtain⟨u,z,B⟩:=eI g.p A;have k:=Kp.put (o':=.lst (us.eraseIdx i.toNat)) sq trivial;have L:i.toNat<us.length:=(YD.1 z).1;have C:seqIndex? i us.length=some i.toNat:=by
    unfold seqIndex?;have h1:¬i<0:=by omega
    have I:i<(us.length:Int):=by omega
    simp[h1,h.1.1,I]
   exact ub Gf ⟨a,us,i,i.toNat,u,rfl,rfl,sq,by omega,by omega,C,z,k,d,_,RV.mono k _ B,n.put (m:=.lst (xs.eraseIdx i.toNat)) sq trivial ⟨_,aI,aj.of (yp _ (aj.mono k _ g).p)⟩,q⟩
  .exact Yh h
 .rename_i a
  obtain rfl:vs=[]:=by rw[aj] at r;exact r
  cases RV.ref_.1 E;split at h
  .rename_i xs e1
   obtain⟨us,sq,g⟩:=n _ _ e1;obtain⟨d,A,q⟩:=bv h;obtain⟨u,z,B⟩:=eI g.p A;have k:=Kp.put (o':=.lst us.dropLast) sq trivial;exact ub Mg ⟨a,us,u,rfl,rfl,sq,by rw[←g.len];exact z,k,d,_,RV.mono k _ B,n.put (m:=.lst xs.dropLast) sq trivial ⟨_,aI,aj.of (zY (aj.mono k _ g).p)⟩,q⟩
  .exact Yh h
 .exact Yh h
def fM(i:Int):Nat:=Builtin.Int.intBits i
def xA:sf:=λx ds M Q=>match x,ds with
 |.int i,[]=>Q (.int (fM i)) M
 |_,_=>False
def Kr:D2 X "int.bit_length" (λx xs H Q=>∃i,x=.int i/\xs=[]/\Q (.int (fM i)) H):=by
 rintro b_ s σ H x xs v us Q I g k ⟨i,rfl,rfl,q⟩;obtain⟨t,rfl⟩:=g;have m:=k.zero;subst m;exact call_int_bit_length ⟨.int (fM i),H,I.tok _,⟨_,rfl⟩,q⟩
def Bh:Bf X "int.bit_length" xA:=by
 intro x ds v vs H M Q g r k h;unfold xA at h;split at h
 .rename_i i
  obtain rfl:vs=[]:=by rw[aj] at r;exact r
  cases RV.int_.1 g;exact ub Kr ⟨i,rfl,rfl,aS (RV.int_.2 rfl) k h⟩
 .exact Yh h
def Na:sf:=λx ds M Q=>match x,ds with
 |.ref a,[y]=>bP (cu (M a)) λxs=>(bc y=true/\bo xs=true/\cU xs<=30)/\bP (xs.findIdx? λd=>bg d y) λ(j:Nat)=>Q (.int (j:Int)) M
 |_,_=>False
inductive Mt where
 |append | extend | pop | bits
 deriving DecidableEq
def ud:Mt->Str
 |.append=>"append"
 |.extend=>"extend"
 |.pop=>"pop"
 |.bits=>"bit_length"
def yq:Mt->Rc
 |.append=>.lst
 |.extend=>.lst
 |.pop=>.lst
 |.bits=>.int
def EF:Mt->sf
 |.append=>qW
 |.extend=>qX
 |.pop=>CQ
 |.bits=>xA
def Ks(hu:X.A.units+40<cLine)(m:Mt){t:WA}(g:aN X o to)(ha:gU X (e::es) t)(hb:cw o=true)(hs:ay e=true)(k:es.all ay=true)(hl:es.length<20)(n:(r_.endLine==pos.line)=true):
  aN X (.Call (.Attribute o (ud m) r_) (e::es) [] pos) (yo (yq m) (EF m) to t):=by
 cases m with
 |append=>exact uc (c:=.lst) PySem.F.plainAttrs_list PySem.F.slot_list_append PySem.F.type_list_append wn g ha hb hs k hl n
 |extend=>exact uc (c:=.lst) PySem.F.plainAttrs_list PySem.F.slot_list_extend PySem.F.type_list_extend wo g ha hb hs k hl n
 |pop=>exact uc (c:=.lst) PySem.F.plainAttrs_list PySem.F.slot_list_pop PySem.F.type_list_pop EE g ha hb hs k hl n
 |bits=>exact uc (c:=.int) PySem.F.plainAttrs_int PySem.F.slot_int_bit_length PySem.F.type_int_bit_length Bh g ha hb hs k hl n
def G2(hu:X.A.units+40<cLine)(m:Mt)(g:aN X o to)(hb:cw o=true)(k:(r_.endLine==pos.line)=true):
  aN X (.Call (.Attribute o (ud m) r_) [] [] pos) (yo (yq m) (EF m) to pX):=by
 cases m with
 |append=>exact qV (c:=.lst) PySem.F.plainAttrs_list PySem.F.slot_list_append PySem.F.type_list_append wn g hb k
 |extend=>exact qV (c:=.lst) PySem.F.plainAttrs_list PySem.F.slot_list_extend PySem.F.type_list_extend wo g hb k
 |pop=>exact qV (c:=.lst) PySem.F.plainAttrs_list PySem.F.slot_list_pop PySem.F.type_list_pop EE g hb k
 |bits=>exact qV (c:=.int) PySem.F.plainAttrs_int PySem.F.slot_int_bit_length PySem.F.type_int_bit_length Bh g hb k
end
section
variable {X:Cx}{H:Hp}{e a b c o i v:Expr}{es:Zg}{pos:Pos}
def G3(t:WE):WE:=λσ M Q=>t σ M λx M1=>intD x λi=>Q (.int (-i)) M1
def Kt(h:aN X a to):aN X (.UnaryOp .USub a pos) (G3 to):=by
 intro σ M ρ H Q rs k q;refine cc (IF L4 (bJ a)) ?_;show tW X a ρ H _;refine aM (h σ M ρ H _ rs k q) λv z m=>?_
 obtain⟨n,x,M1,p,u,g⟩:=m;obtain⟨i,rfl,g⟩:=qS g;exact⟨i,RV.int_.1 p,n,.int (-i),M1,RV.int_.2 rfl,u,g⟩
def jO(t:WE):WE:=λσ M Q=>t σ M λx M1=>intD x λi=>Q (.int (-i-1)) M1
theorem bitNot_eq(i:Int):Builtin.bitNot i = -i-1:=by unfold Builtin.bitNot;omega
def Ku(h:aN X a to):aN X (.UnaryOp .Invert a pos) (jO to):=by
 intro σ M ρ H Q rs k q;refine cc (IF L5 (bJ a)) ?_;show tW X a ρ H _;refine aM (h σ M ρ H _ rs k q) λv z m=>?_
 obtain⟨n,x,M1,p,u,g⟩:=m;obtain⟨i,rfl,g⟩:=qS g;exact⟨i,RV.int_.1 p,n,.int (-i-1),M1,RV.int_.2 (congrArg V.int (bitNot_eq i)),u,g⟩
def putD(g:ZC)(k:Key)(d:D):List (Key×D):=if(g.any λkv=>decide (kv.1=k))=true then g.map (λkv=>if kv.1=k then(kv.1,d) else kv) else g++[(k,d)]
def G4{g n:Type}{l:List (Key×g)}{m:List (Key×n)}(e:m.map (·.1)=l.map (·.1))(k:Key):(m.any λkv=>decide (kv.1=k))=l.any λkv=>decide (kv.1=k):=by
 have f:∀{p:Type}(l:List (Key×p)),(l.any λkv=>decide (kv.1=k))=(l.map (·.1)).any λq=>decide (q=k):=λl=>by rw[List.any_map];rfl
 rw[f,f,e]
theorem map_put{K:Za}{k:Key}{d:D}{v:V}(r:RV K H d v):∀{l:ZC}{m:List (Key×V)},m.map (·.1)=l.map (·.1)->aj K H (l.map (·.2)) (m.map (·.2)) ->
  ((m.map λkv=>if kv.1=k then(kv.1,v) else kv).map (·.1)=(l.map λkv=>if kv.1=k then(kv.1,d) else kv).map (·.1))/\aj K H ((l.map λkv=>if kv.1=k then(kv.1,d) else kv).map (·.2)) ((m.map λkv=>if kv.1=k then(kv.1,v) else kv).map (·.2))
 |[],[],_,_=>⟨rfl,.nil⟩
 |[],_::_,e,_=>by cases e
 |_::_,[],e,_=>by cases e
 |(E,G)::l,(u,I)::m,e,g=>by
  simp only[YL,List.cons.injEq] at e;obtain⟨e1,A⟩:=e;subst e1;simp only[YL] at g;rw[aj] at g;obtain⟨v',J,z,B,C⟩:=g;cases z;obtain⟨n,p⟩:=map_put r (k:=k) A C;by_cases q:u=k
  .simp only[YL,if_pos q]
   exact⟨by rw[n],.cons r p⟩
  .simp only[YL,if_neg q]
   exact⟨by rw[n],.cons B p⟩
def Nb{k:Key}{v:V}{l:ZC}{m:List (Key×V)}(r:RV K H d v)(e:m.map (·.1)=l.map (·.1))(g:aj K H (l.map (·.2)) (m.map (·.2))):(putK m k v).map (·.1)=(putD l k d).map (·.1)/\aj K H ((putD l k d).map (·.2)) ((putK m k v).map (·.2)):=by
 unfold putK putD;rw[G4 e k];split
 .exact map_put r e g
 .refine⟨by rw[ZL,ZL,e];rfl,?_⟩
  rw[ZL,ZL];exact aj.of (bR g.p (.cons r .nil))
def G5(o i d:D)(M:MH)(Q:MH->Prop):Prop:=match o with
 |.ref a=>match M a with
  |some (.lst xs)=>intD i λk=>bP (lR xs.length k) λj=>Q (ae M a (.lst (xs.set j d)))
  |some (.dic g)=>bP (sK i) λk=>g.length<sizeLine/\Q (ae M a (.dic (putD g k d)))
  |_=>False
 |_=>False
def pW(X:Cx):BV:=λo i v H Q=>∀b_ s ρ g k u,af X b_ ρ H s->RelV o g->RelV i k->RelV v u->wpAny 'c' X.A (setItem g k u) (λ_ m=>∃H',af X b_ ρ H' m/\Q H') X.xe s
def OE:FT X (pW X):=λb_ s σ _ _ _ _ g k u _ I m n p h=>h b_ s σ g k u I m n p
def Bl{o i v:V}{Q Q':Hp->Prop}(h:pW X o i v H Q)(g:∀H',Q H'->Q' H'):pW X o i v H Q':=λb_ s ρ k m u I n p z=>aK (h b_ s ρ k m u I n p z) λ_ _ ⟨H',A,q⟩=>⟨H',A,g H' q⟩
theorem Pm(hu:X.A.units+40<cLine){x:D}{o i v:V}{Q:MH->Prop}(W:RV X.K H x o)(L:RV X.K H y i)(R:RV X.K H d v)(g:RM X.K M H)(h:G5 x y d M Q):pW X o i v H λH'=>Kp H H'/\∃M',RM X.K M' H'/\Q M':=by
 cases x with
 |ref a=>
  cases RV.ref_.1 W;have h:match M a with
   |some (.lst xs)=>intD y λk=>bP (lR xs.length k) λj=>Q (ae M a (.lst (xs.set j d)))
   |some (.dic n)=>bP (sK y) λk=>n.length<sizeLine/\Q (ae M a (.dic (putD n k d)))
   |_=>False:=h
  split at h
  .rename_i xs e1
   obtain⟨k,rfl,h⟩:=qS h;obtain⟨j,B,q⟩:=bv h;cases RV.int_.1 L;obtain⟨us,sq,z⟩:=g _ _ e1;have kk:=Kp.put (o':=.lst (us.set j v)) sq trivial;intro b_ s ρ S T u I C E G;exact set_list b_ s ρ H _ _ _ S T u _ I C E G ⟨a,us,k,j,rfl,rfl,sq,by rw[←z.len];exact B,kk,_,g.put (m:=.lst (xs.set j d)) sq trivial ⟨_,aI,aj.of (xT (RV.mono kk _ R) j (aj.mono kk _ z).p)⟩,q⟩
  .rename_i n e1
   obtain⟨k,B,hl,q⟩:=bv h
   have:=A2 B L
   subst this;obtain⟨J,sq,U,z⟩:=g _ _ e1;have kk:=Kp.put (o':=.dK (putK J k v)) sq trivial;obtain⟨p1,p2⟩:=Nb (k:=k) (RV.mono kk _ R) U (aj.mono kk _ z);have Y:J.length<sizeLine:=by have:=congrArg List.length U;simp only[ZF] at this;omega
   intro b_ s ρ S T u I C E G;cases C;exact Eb 'a' I (.inl ⟨J,k,sq,rfl,Y,rfl⟩) E G λs' Z=>⟨_,Z,kk,_,g.put (m:=.dic (putD n k d)) sq trivial ⟨_,aI,p1,p2⟩,q⟩
  .exact Yh h
 |_=>exact Yh h
def Nc(h:dm v=true):swapsWithSole [c] v j env=pure false:=tQ h
def yt(tv to g:WE):WS:=λE σ M=>tv σ M λd M1=>to σ M1 λx M2=>g σ M2 λy k=>G5 x y d k λm=>E.nx σ m
def EG(hu:X.A.units+40<cLine)(hv:aN X v tv)(C:aN X o to)(hi:aN X i ta)(hc:dm v=true)(hs:gF i=true):kU X (.Assign [.Subscript o i r_] v pos) (yt tv to ta):=by
 intro σ M ρ H E rs G h;refine eJ (xK (bJ v) (DO (bJ o) (bJ i) OE (by intro w;cases i<;>first | rfl | exact absurd (show false=true from hs) YF)) (Nc hc) (by cases v<;>rfl) rfl) ?_;show tW X v ρ H _;refine aM (hv σ M ρ H _ rs G h) λu n I=>?_
 obtain⟨g,d,M1,J,L,R⟩:=I;show tW X o ρ n _;refine aM (C σ M1 ρ n _ (rs.mono g) L R) λw' p S=>?_
 obtain⟨k,x,M2,T,U,W⟩:=S;show tW X i ρ p _;refine aM (hi σ M2 ρ p _ (rs.mono (g.trans k)) U W) λz H3 Y=>?_
 obtain⟨m,y,M3,Z,m3,q3⟩:=Y;refine Bl (Pm hu (RV.mono m x T) Z (RV.mono (k.trans m) d J) m3 q3) λH4 RL=>?_
 obtain⟨B,M4,m4,q4⟩:=RL;exact⟨g.trans (k.trans (m.trans B)),σ,M4,rs.mono (g.trans (k.trans (m.trans B))),m4,q4⟩
abbrev WP:=DS->MH->(List (D×D)->MH->Prop)->Prop
def wPs:List (WE×WE)->WP
 |[],_,M,Q=>Q [] M
 |(tk,tv)::r,σ,M,Q=>tk σ M λx M1=>tv σ M1 λy M2=>wPs r σ M2 λps g=>Q ((x,y)::ps) g
inductive IV (X:Cx):List (Option Expr)->List Expr->List (WE×WE)->Prop where
 |nil:IV X [] [] []
 |cons {k v:Expr}{ks:List (Option Expr)}{vs:Zg}{tk tv:WE}{r:List (WE×WE)}:aN X k tk->aN X v tv->IV X ks vs r->IV X (some k::ks) (v::vs) ((tk,tv)::r)
def IW:List (D×D)->Option (List (Key×D))
 |[]=>some []
 |(k,d)::r=>(sK k).bind λq=>(IW r).map ((q,d) :: ·)
def Nd(g:ZC)(more:ZC):List (Key×D):=more.foldl (λg_ kv=>putD g_ kv.1 kv.2) g
def Oq(ts:List (WE×WE)):WE:=λσ M Q=>∀p,M p=none->wPs ts σ (ae M p (.dic [])) λds M2=>match M2 p with
 |some (.dic [])=>bP (IW ds) λg=>Q (.ref p) (ae M2 p (.dic (Nd [] g)))
 |_=>False
def G6:aN X (.Dict [] [] pos) (λ_ M Q=>∀p,M p=none->Q (.ref p) (ae M p (.dic []))):=by
 intro σ M ρ H Q rs g q;refine cc Gh ?_;intro p hp;exact⟨Kp.new hp,.ref p,_,RV.ref_.2 rfl,g.new (m:=.dic []) hp ⟨[],aI,rfl,.nil⟩,q p (g.fresh hp)⟩
end
abbrev qc:=Addr->Str->Prop
theorem jt{K:Za}{H:Hp}{f:Str}:∀{fs:List (Str×D)}{a:List (Str×V)},a.map (·.1)=fs.map (·.1)->aj K H (fs.map (·.2)) (a.map (·.2)) ->
  (fs.lookup f=none->a.lookup f=none)/\∀d,fs.lookup f=some d->∃v,a.lookup f=some v/\RV K H d v
 |[],[],_,_=>⟨λ_=>rfl,λ_ h=>nomatch h⟩
 |[],_::_,e,_=>by cases e
 |_::_,[],e,_=>by cases e
 |(u,A)::fs,(b,g)::a,e,r=>by
  simp only[YL,List.cons.injEq] at e;obtain⟨e1,k⟩:=e;subst e1;simp only[YL] at r;rw[aj] at r;obtain⟨v,vs,z,m,n⟩:=r;cases z;obtain⟨h1,p⟩:=jt (f:=f) k n;cases q:f==b with
  |true=>simp only[XN,q];exact⟨(λz=>nomatch z),λd z=>by cases z;exact⟨g,rfl,m⟩⟩
  |false=>simp only[XN,q];exact⟨h1,p⟩
def cV(f:Str)(v:D):List (Str×D)->List (Str×D)
 |[]=>[(f,v)]
 |(g,x)::r=>if g=f then(g,v)::r else(g,x)::cV f v r
theorem Bm{K:Za}{H:Hp}{f:Str}{d:D}{v:V}(b:RV K H d v):∀{fs:List (Str×D)}{a:List (Str×V)},a.map (·.1)=fs.map (·.1)->aj K H (fs.map (·.2)) (a.map (·.2)) ->
  (dN f v a).map (·.1)=(cV f d fs).map (·.1)/\aj K H ((cV f d fs).map (·.2)) ((dN f v a).map (·.2))
 |[],[],_,_=>⟨rfl,.cons b .nil⟩
 |[],_::_,e,_=>by cases e
 |_::_,[],e,_=>by cases e
 |(u,A)::fs,(m,B)::a,e,r=>by
  simp only[YL,List.cons.injEq] at e;obtain⟨e1,g⟩:=e;subst e1;simp only[YL] at r;rw[aj] at r;obtain⟨C,vs,z,n,k⟩:=r;cases z;obtain⟨h1,p⟩:=Bm (f:=f) b g k;unfold dN cV;by_cases q:m=f
  .rw[if_pos q,if_pos q];exact⟨by simp only[YL,g],.cons b k⟩
  .rw[if_neg q,if_neg q];exact⟨by simp only[YL,h1],.cons n p⟩
section
variable {X:Cx}{H:Hp}{e a b c o i v:Expr}{es:Zg}{pos:Pos}
def G7(O:qc)(x:D)(f:Str)(M:MH)(Q:D->Prop):Prop:=match x with
 |.ref a=>match M a with
  |some (.ins C fs)=>O C f/\bP (fs.lookup f) Q
  |_=>False
 |_=>False
def G9(O:qc)(f:Str)(t:WE):WE:=λσ M Q=>t σ M λx M1=>G7 O x f M1 λd=>Q d M1
def Kv(k:∀C f,O C f->fV X.K C/\dc X.K C f)(h:aN X o to)(hb:cw o=true):aN X (.Attribute o f pos) (G9 O f to):=by
 intro σ M ρ H Q rs n q;refine cc (L8 (bJ o) (qU hb)) ?_;show tW X o ρ H _;refine aM (h σ M ρ H _ rs n q) λv R p=>?_
 obtain⟨u,x,M1,z,m,g⟩:=p;unfold G7 at g;try dsimp only at g
 split at g
 .rename_i a
  split at g
  .rename_i C fs e1
   obtain⟨d,A,B⟩:=bv g.2;cases RV.ref_.1 z;obtain⟨dx,E,sq,G,I⟩:=m _ _ e1;obtain⟨J,e3,L⟩:=(jt G I).2 d A;exact⟨a,C,dx,E,J,rfl,sq,(k C f g.1).1,(k C f g.1).2,e3,u,d,M1,L,m,B⟩
  .exact Yh g
 .exact Yh g
def CS(O:qc)(x:D)(f:Str)(d:D)(M:MH)(Q:MH->Prop):Prop:=match x with
 |.ref a=>match M a with
  |some (.ins C fs)=>(O C f/\fs.length<1000)/\Q (ae M a (.ins C (cV f d fs)))
  |_=>False
 |_=>False
def CU(O:qc)(f:Str)(to tv:WE):WS:=λE σ M=>tv σ M λd M1=>to σ M1 λx M2=>CS O x f d M2 λg=>E.nx σ g
theorem Ha(z:∀C f,O C f->fV X.K C/\dc X.K C f)(I:aN X o to)(hv:aN X v tv):kU X (.Assign [.Attribute o f r_] v pos) (CU O f to tv):=by
 intro σ M ρ H E rs J q;refine eJ (L9 (bJ o) (bJ v) (by cases v<;>rfl)) ?_;show tW X v ρ H _;refine aM (hv σ M ρ H _ rs J q) λu A L=>?_
 obtain⟨k,d,M1,R,S,T⟩:=L;show tW X o ρ A _;refine aM (I σ M1 ρ A _ (rs.mono k) S T) λZ H2 U=>?_
 obtain⟨n,x,M2,W,B,g⟩:=U;unfold CS at g;dsimp only at g;split at g
 .rename_i a
  split at g
  .rename_i C fs e1
   cases RV.ref_.1 W;obtain⟨dx,p,sq,G,Y⟩:=B _ _ e1;have kk:=Kp.put (o':=.ins C dx (dN f u p)) sq trivial;obtain⟨p1,p2⟩:=Bm (f:=f) (RV.mono (n.trans kk) d R) G (aj.mono kk _ Y);have hl:p.length<1000:=by have:=congrArg List.length G;simp only[ZF] at this;omega
   exact⟨a,C,dx,p,rfl,sq,(z C f g.1.1).1,(z C f g.1.1).2,hl,k.trans (n.trans kk),σ,_,rs.mono (k.trans (n.trans kk)),B.put (m:=.ins C (cV f d fs)) sq trivial ⟨dx,_,aI,p1,p2⟩,g.2⟩
  .exact Yh g
 .exact Yh g
def bU(C:Addr)(sp:az):az:=λds M Q=>∀x,M x=none->sp (.ref x::ds) (ae M x (.ins C [])) λd M2=>xz d=true/\Q (.ref x) M2
def OF(P:Zw)(w:World)(K:Za)(mg:Ze)(base:Heap)(k:Nat)(x:Str)(sp:az):Prop:=
 ∃C f fd ps g,Mk K C f/\mg x=some (.ref C)/\fm P w K mg base jZ k f fd ps (ig K g)/\∀n:Nat,∃m p ds,Binds K fd ps ds/\aq p ds/\(∀H,aj K H m p)/\∀xs M Q,xs.length=n->sp xs M Q->bU C (λu=>g (u++m)) xs M Q
def Hb{t:WA}(F:OF X.prog X.w X.K X.mg X.base j f r)(hr:ck (j+1) X.A)(hg:Gl X f)(J:(f==("__debug__" : Str))=false)(hs:ay e=true)(L:es.all ay=true)(ha:gU X (e::es) t):
  aN X (.Call (.Name f r_) (e::es) [] pos) (jq r t):=by
 obtain⟨C,p,fd,ps,W',M0,hm,R,S⟩:=F;obtain⟨T,dv,U,hb,hd,hv,to⟩:=S (e::es).length;intro σ M ρ H Q rs W q;refine cc (JG M0 R hr hg hm hb hd xt (mL (e::es)) J (bt hs) (dY L)) ?_;show kR X (e::es) ρ H _;refine dC (ha σ M ρ H _ rs W q) λvs Y Z=>?_
 obtain⟨k1,ds,M1,r1,l1,E,n⟩:=Z;have n:=to ds M1 Q l1 n;intro z dx G g F_;have u:=Kp.new (o:=.own z) g;have k:(upd Y dx (.own z)) z=none:=by rw[aT F_.symm];exact G
 have B:=Kp.new (o:=.ins C dx []) k;have kk:=u.trans B;refine⟨.ref z::(ds++T),ae M1 z (.ins C []),_,.cons (RV.ref_.2 rfl) (.of (bR (aj.mono kk _ r1).p (hv _).p)),(E.newH g).new (m:=.ins C []) k ⟨dx,[],aI,rfl,.nil⟩,n z (E.fresh G),λd M' v H' I kq rv mm=>⟨?_,k1.trans (kk.trans kq),.ref z,M',RV.ref_.2 rfl,mm,I.2⟩⟩
 have:=sM rv
 rw[I.1] at this;exact XR this
abbrev kY:=Addr->Str->Option az
def a9(P:Zw)(w:World)(K:Za)(mg:Ze)(base:Heap)(k:Nat)(C:Addr)(m:Str)(sp:az):Prop:=
 ∃f fd ps,fV K C/\F2 K C m f/\Binds K fd ps []/\fm P w K mg base jZ k f fd ps (ig K sp)
def CV(X:Cx)(T:kY):Prop:=∀C m sp,T C m=some sp->∃k,a9 X.prog X.w X.K X.mg X.base k C m sp/\ck k X.A
def xB(x:D)(m:Str)(M:MH)(Q:Addr->Prop):Prop:=match x with
 |.ref a=>match M a with
  |some (.ins C fs)=>fs.lookup m=none/\Q C
  |_=>False
 |_=>False
def ue(T:kY)(m:Str)(to:WE)(t:WA):WE:=λσ M Q=>to σ M λx M1=>xB x m M1 λC=>bP (T C m) λsp=>t σ M1 λds M2=>sp (x::ds) M2 Q
theorem Nf(h:es.all ay=true)(hl:es.length<20):methodCallForm (es.length+([]:List Keyword).length) (backTo r_ (starEach es env)) (backToKw r_ (keywordEach [] env))=true:=by
 unfold methodCallForm;rw[sN h];show(true&&true&&decide (es.length+0+0<30))=true;rw[Bool.and_self,XV];exact YW 'a'
def IX    (hb:cw o = true) (h:es.all ay = true) (hl:es.length < 20) (k:(r_.endLine == pos.line) = true):eval (.Call (.Attribute o f r_) es [] pos) env = (do
   let g ← eval o env
   standAt r_.atName
   let (m,first) ← holding [g] (getMethod g f (do return (← importBound o env).getD true))
   callWith pos m first (backTo pos (starEach es env)) (backToKw pos (keywordEach [] env))):=by
 rw [arm_eval_Call,qU hb]
 unfold methodCall calleeOf methodCallPos
 rw [Nf h hl]
 simp [k]
theorem Hc{T:kY}{t:WA}(G:CV X T)(J:aN X o to)(ha:gU X (e::es) t)(hb:cw o=true)(hs:ay e=true)(p:es.all ay=true)(hl:es.length<19)(L:(r_.endLine==pos.line)=true):
  aN X (.Call (.Attribute o f r_) (e::es) [] pos) (ue T f to t):=by
 intro σ M ρ H Q rs R h b_ s I;have S:(e::es).all ay=true:=by rw[XS,hs,p];rfl
 refine PySem.W.methodCall_KW (aK (J σ M ρ H _ rs R h b_ s I) λu s1 U=>?_) (IX hb S (by rw[YJ];omega) L);obtain⟨v,Y,z,n,⟨A,x,M1,Z,B,g⟩⟩:=U;unfold xB at g;dsimp only at g;split at g
 .rename_i a
  split at g
  .rename_i C fs e1
   obtain⟨hn,g⟩:=g;obtain⟨sp,eT,g⟩:=bv g;cases RV.ref_.1 Z;obtain rfl:u=Value.ref a:=n;obtain⟨dx,gs,sq,ek,rr⟩:=B _ _ e1;obtain⟨k,⟨m,fd,ps,c,hm,Xa,F⟩,hr⟩:=G C f sp eT
   .refine tB z sq c hm ((jt ek rr).1 hn) ?_
    refine PySem.W.callWith_K (first:=[.ref a]) (h₀:=X.base) I.ok.mod.kin hm.kp (aK (ha σ M1 ρ Y _ (rs.mono A) B g pos b_ s1 z) λus s2 RL=>?_) (bt hs) (dY p);obtain⟨vs,H2,E,r,⟨k2,ds,M2,r2,l2,m2,q2⟩⟩:=RL;refine⟨E.kIn,?_⟩;refine xN (us:=.ref a::us) (vs:=.ref a::vs) F hr Xa .nil xt E (.cons rfl r) ?_;rw[ZA];exact⟨.ref a::ds,M2,Q,.cons (RV.ref_.2 rfl) r2,m2,q2,λd M' v H' qd kq n mm=>⟨A.trans (k2.trans kq),d,M',n,mm,qd⟩⟩
  .exact Yh g
 .exact Yh g
def EH{T:kY}(A:CV X T)(B:aN X o to)(hb:cw o=true)(E:(r_.endLine==pos.line)=true):
  aN X (.Call (.Attribute o f r_) [] [] pos) (ue T f to pX):=by
 intro σ M ρ H Q rs G h b_ s I;refine PySem.W.methodCall_KW (aK (B σ M ρ H _ rs G h b_ s I) λu s1 J=>?_) (IX hb rfl 'b' E);obtain⟨v,H1,n,p,⟨L,x,M1,R,z,g⟩⟩:=J;unfold xB at g;dsimp only at g;split at g
 .rename_i a
  split at g
  .rename_i C fs e1
   obtain⟨hn,g⟩:=g;obtain⟨sp,S,g⟩:=bv g;cases RV.ref_.1 R;obtain rfl:u=Value.ref a:=p;obtain⟨dx,gs,sq,U,Y⟩:=z _ _ e1;obtain⟨k,⟨m,fd,ps,c,hm,Z,F⟩,hr⟩:=A C f sp S;refine tB n sq c hm ((jt U Y).1 hn) ?_;refine PySem.W.callWith_K0 (first:=[.ref a]) n.kIn hm.kp (xN (us:=[.ref a]) (vs:=[.ref a]) F hr Z .nil xt n (.cons rfl .nil) ?_);exact⟨[.ref a],M1,Q,.cons (RV.ref_.2 rfl) .nil,z,g,λd M' v H' qd kq p mm=>⟨L.trans kq,d,M',p,mm,qd⟩⟩
  .exact Yh g
 .exact Yh g
end
section
variable {prog:Zw}{w:World}{A:Around}{E:Zb}{s:Shared}
def yu{x:Value}{Q:Zb}(G_:s.heap.IsTupleIter it t j)(ht:s.heap.IsTuple t e_)(hx:e_[j]?=some x)
  (b:∀h',h'.IsTupleIter it t (j+1)->Heap.SameBut it s.heap h'->Q x { s with heap:=h' }):wpAny 'f' A (Builtin.SmallTypes.nextOf (.ref it)) Q E s:=by
 obtain⟨o,a,hc,hd⟩:=id G_;obtain⟨m,g,_,n,k⟩:=ht;unfold Builtin.SmallTypes.nextOf;refine Yb (wpAny_callSpecial?_slot (name:=Str.ofString "__next__") G_.typeIs F.slot_tuple_iterator_next (wpAny_call_entry F.slot_tuple_iterator_next G_.typeIs F.entry_tuple_iterator_next ?_ (F.args_tuple_iterator_next_1 _)));show wpAny _ _ (field (.ref it) 0 >>= _) _ _ s;refine Yb (wpAny_field a hd (x:=.ref t) rfl ?_);show wpAny _ _ (if(Value.ref t==Value.none)=true then _ else _) _ _ s;rw[if_neg (show ¬((Value.ref t==Value.none)=true) from YF)];show wpAny _ _ (field (.ref it) 1 >>= _) _ _ s;refine Yb (wpAny_field a hd (x:=.int j 0) rfl ?_);show wpAny _ _ (seqItems? (.ref t) >>= _) _ _ s;refine Yb (wpAny_seqItems g k ?_);simp only[YX,hx];refine Yb (wpAny_setField a hd (by simp) (Yc ⟨x,rfl,Yc (b _ ⟨_,Heap.get?_update_self _ a (Obj.isFreed_of_fields (Obj.data_mapFields hd _)),(Obj.cls_mapFields ..).trans hc,?_⟩ (Heap.SameBut.update ..))⟩));rw[Obj.data_mapFields hd];simp[rawInt]
def sO{Q:Zb}(g:A.handled=none)(G_:s.heap.IsTupleIter it t j)(ht:s.heap.IsTuple t e_)(hx:e_[j]?=none)
  (k:∀h' e,Heap.ExtBut it s.heap h'->(∃o,h'.get? e=some o/\o.cls=.type "StopIteration")->E (.ref e) { s with heap:=h' }):wpAny 'f' A (Builtin.SmallTypes.nextOf (.ref it)) Q E s:=by
 obtain⟨o,b,hc,hd⟩:=id G_;obtain⟨u,n,_,z,p⟩:=ht;unfold Builtin.SmallTypes.nextOf;refine Yb (wpAny_callSpecial?_slot (name:=Str.ofString "__next__") G_.typeIs F.slot_tuple_iterator_next (wpAny_call_entry F.slot_tuple_iterator_next G_.typeIs F.entry_tuple_iterator_next ?_ (F.args_tuple_iterator_next_1 _)));show wpAny _ _ (field (.ref it) 0 >>= _) _ _ s;refine Yb (wpAny_field b hd (x:=.ref t) rfl ?_);show wpAny _ _ (if(Value.ref t==Value.none)=true then _ else _) _ _ s;rw[if_neg (show ¬((Value.ref t==Value.none)=true) from YF)];show wpAny _ _ (field (.ref it) 1 >>= _) _ _ s;refine Yb (wpAny_field b hd (x:=.int j 0) rfl ?_);show wpAny _ _ (seqItems? (.ref t) >>= _) _ _ s;refine Yb (wpAny_seqItems n p ?_);simp only[YX,hx];refine Yb (wpAny_rule (Yb (wpAny_setField b hd (by simp) ?_)));show wpAny _ _ (newExc (.type "StopIteration") [] >>= _) _ _ _;refine Yb ?_;simp only[newExc,newTuple];refine Yb (wpAny_newObj_type ?_ (by size_fits));refine Yb (m:=firstArgMember _ _) (wpAny_of_eq (a:=Value.none) (by first | rfl | (simp only[firstArgMember];rfl)) (wpAny_newObj_type ?_ (by size_fits)));simp only[raiseNew];refine Yb (wpAny_handled ?_);first | rw[show A.in1.handled=none from g] | rw[g]
 refine Yb (Yc (wpAny_throw (k _ _ (((Heap.SameBut.update ..).extBut.push _).push _) ⟨_,Yg _ rfl,rfl⟩)))
def sg(b:A.handled=none)(it t:Addr)(g:t≠it)(e_:Zl):Draws prog w A it [it,t] e_.size (λi v=>e_[i]?=some v) (λi h=>h.IsTupleIter it t i/\h.IsTuple t e_) where
 live:=λ_ _ st=>let⟨o,ho,_⟩:=st.1;⟨o,ho⟩
 frame:=λ_ _ _ st hk=>⟨st.1.at λo e=>hk it (by simp) o e,let⟨o,ho,r⟩:=st.2;⟨o,hk t (by simp) o ho,r⟩⟩
 item:=λi s Q E hi st k=>yu st.1 st.2 (x:=e_[i]) (by simp[hi]) λh' m a=>k _ h' s.toks (by simp[hi]) ⟨m,st.2.extBut a.extBut g⟩ a
 done:=λs Q E st n=>sO b st.1 st.2 (by simp) n
def EI(l:Addr)(e_:Zl)(n:Nat)(b:Zm)(sl:Zn):
  Meets (Builtin.«enumerate.__new__» ⟨[.type "enumerate",.ref l],[]⟩) (λ_ R s=>s.heap.get? l=some { cls:=.type "tuple",dict:=b,data:=.seq e_ n,slots:=sl } /\
   R (.ok (.ret (.ref (s.heap.push { cls:=.type "tuple_iterator",data:=.fields #[.ref l,.int 0 0] }).objs.size)))
    { s with heap:=(s.heap.push { cls:=.type "tuple_iterator",data:=.fields #[.ref l,.int 0 0] }).push { cls:=.type "enumerate",data:=.fields #[.none,.bool false,.ref s.heap.objs.size,rawInt 0,.none,.none] } }):=by
 refine .of_wp λprog w A R s h=>?_
 obtain⟨hp,g,d,tk,os⟩:=s;obtain⟨hl,h⟩:=h;have k:=sub_enumerate;have a:Heap.IsTuple (Shared.heap ⟨hp,g,d,tk,os⟩) l e_:=⟨_,hl,rfl,n,rfl⟩;wp_walk using AutoSeq1.wpAny_loadPart' hl;refine wpAny_stack_any λst=>Yc ?_
 split
 .rename_i c _ _ _ _ _
  cases(c==Value.type "enumerate")<;>(wp_walk using AutoSeq1.wpAny_loadPart' hl,wpAny_pyIter_tuple a;exact⟨_,rfl,h⟩)
 .wp_walk using AutoSeq1.wpAny_loadPart' hl,wpAny_pyIter_tuple a
  exact⟨_,rfl,h⟩
def CW{Q:Zb}(k:s.heap.IsTuple t e_)
  (h:∀h',IsEnum h' (s.heap.objs.size+1) s.heap.objs.size 0 .none->h'.IsTupleIter s.heap.objs.size t 0->(∀b o,s.heap.get? b=some o->h'.get? b=some o)->Q (.ref (s.heap.objs.size+1)) { s with heap:=h' }):
  wpAny 'f' A (call (.type "enumerate") [.ref t]) Q E s:=by
 obtain⟨⟨c,m,p,sl⟩,hl,hc,n,hd⟩:=k;obtain rfl:c=.type "tuple":=hc;obtain rfl:p=.seq e_ n:=hd;refine callType_new F.called_enumerate 'b' (F.typeCall_enumerate_1 _) (F.newCall_enumerate_1 _) (λobj=>F.args_object_init_2 obj _) F.entry_enumerate_new (EI t e_ n m sl) ⟨hl,?_⟩;have g:(s.heap.push { cls:=.type "tuple_iterator",data:=.fields #[.ref t,.int 0 0] }).objs.size=s.heap.objs.size+1:=Heap.size_push ..;show _/\_;rw[g];have a:=Yg (s.heap.push { cls:=.type "tuple_iterator",data:=.fields #[.ref t,.int 0 0] }) (o:={ cls:=.type "enumerate",data:=.fields #[.none,.bool false,.ref s.heap.objs.size,rawInt 0,.none,.none] }) rfl;rw[g] at a;exact⟨⟨_,a,rfl⟩,h _ a ⟨_,Yd _ (Yg _ rfl),rfl,rfl⟩ λb o x=>Yd _ (Yd _ x)⟩
end
section
variable {X:Cx}{b_:Zc}{σ:L2.St}{H:Hp}{s:Shared}{h':Heap}
def Os{fs:Zh}(k:∀b o,b∉ch->h.get? b=some o->h'.get? b=some o):Un fs ch H H h h' where
 keep:=λb o e _ _ hc=>k b o hc e
 slot:=λb o e _ _ hc=>⟨o.slots,k b o hc e⟩
 free:=λ_ _ _ n _=>n
 there:=λb o e hc=>⟨o,k b o hc e⟩
 tups:=λ_ _ e=>e
 frzs:=λ_ _ _ e=>e
 tbls:=λb ps e=>⟨#[],by rw[e];simp⟩
def Ng(ok:c0 P w H h)(k:∀b o,b∉ch->h.get? b=some o->h'.get? b=some o)(hn:∀b∈ch,H b=none):c0 P w H h':=λb u e=>by
 have a:∀c v,H c=some v->c∉ch:=λc v g z=>by rw[hn c z] at g;cases g
 refine(ok b u e).stay (λc v hc q=>k c v ?_ q) (λ_ q=>q) λ_ _ q=>q
 rcases hc with z | z
 .rw[z];exact a b u e
 .exact a c _ z
theorem af.turnedT(I:af X b_ σ H s)(k:∀b o,b∉ch->s.heap.get? b=some o->h'.get? b=some o)(hn:∀b∈ch,H b=none)
  (m:∀b∈ch,(b∈X.ex\/X.s₀.heap.objs.size<=b)/\b≠X.env.locals/\(∀x c,X.env.cells.lookup x=some c->c≠b)/\∀p∈X.pn++b_,p.1≠b) (g:s.heap.objs.size<=t) (r:aq vs d_) (n:vs.length<=sizeLine) (ht:IsTup h' t d_.toArray):
  af X b_ σ (upd H t (.tup vs)) { s with heap:=h',toks:=j }:=by
 have hf:H t=none:=I.hok.fresh g;have a:=Ng I.hok k hn;refine I.call (g':=s.gens) (d':=s.drawn) (t':=j) (Un.track (Os k) g hf) (λb u e=>?_) I.bare m;by_cases hb:b=t
 .subst hb
  rw[aI] at e;cases e;exact⟨n,d_,r,ht⟩
 .rw[aT hb] at e
  refine(a b u e).stay (λc v _ q=>q) (λc q=>?_) λc z q=>?_
  .rw[aT (bD q hf)];exact q
  .rw[aT (bD q hf)];exact q
end
def Nh(K:Za)(a:Addr):It:=
 ⟨λi H=>∃xs x,bQ K H a xs/\xs[i]?=some x,λi H x H'=>∃v p,(∀xs,bQ K H a xs->xs[i]?=some v)/\H p=none/\H'=upd H p (.tup [.int (i:Int),v])/\x=.ref p,λi H=>∃xs,bQ K H a xs/\xs.length<=i⟩
theorem EJ(a e it:Addr)(J:e≠it):Turn P w K (.Tuple elts j tp) (Nh K a) [e,it] e (λi h=>(∃g,IsEnum h e it i g)/\h.IsListIter it a i) where
 mem:=by simp
 obj:=λi h st b hb=>by
  obtain⟨⟨g,m⟩,⟨o,R,c,d⟩⟩:=st;have A:b=e\/b=it:=by simpa using hb
  rcases A with rfl | rfl
  .exact⟨_,m,λv z=>by cases z⟩
  .exact⟨o,R,λv z=>by rw[d] at z;cases z⟩
 keep:=λi h h' st k=>by
  obtain⟨⟨g,m⟩,G_⟩:=st;exact⟨⟨g,k e (by simp) _ m⟩,G_.at λo x=>k it (by simp) o x⟩
 item:=by
  intro X B hw C hc i b_ s σ H E I hf st hg;subst B hw C;obtain⟨xs,x,hq,hx⟩:=hg;obtain⟨d_,G,p,S⟩:=I.list hq;obtain⟨u,hu,T⟩:=G.get hx;obtain⟨⟨g,m⟩,G_⟩:=st;have n:=hf e (by simp);have fi:=hf it (by simp);refine wpAny_pyNext_enum_item m G_ p.isList (x:=u) (by simpa using hu) J λh' U W Y hsz hk=>⟨_,rfl,?_⟩
  have Z:H s.heap.objs.size=none:=I.hok.fresh (YG _);have I1:af X b_ σ (upd H s.heap.objs.size (.tup [.int (i:Int),x])) { s with heap:=h',toks:=s.toks+1 }:=af.turnedT (ch:=[e,it]) (d_:=[.int (i:Int) s.toks,u]) I
   (λb o hb q=>hk b o (λz=>hb (by simp[z])) (λz=>hb (by simp[z])) q)
   (λb hb=>(hf b hb).1) (λb hb=>⟨(hf b hb).2.2.2.1,(hf b hb).2.1,(hf b hb).2.2.2.2.1,(hf b hb).2.2.2.2.2⟩) (YG _) (.cons ⟨_,rfl⟩ (.cons T .nil)) (by show 2<=sizeLine;decide) ⟨_,Y,rfl,_,rfl⟩
  have neT:∀b∈[e,it],b≠s.heap.objs.size:=λb hb z=>by
   have A:b=e\/b=it:=by simpa using hb
   rcases A with rfl | rfl
   .exact absurd (Ye m) (by rw[z];exact ZT _)
   .obtain⟨_,x1,_⟩:=G_;exact absurd (Ye x1) (by rw[z];exact ZT _)
  refine wpAny_letOwnedTupleGo_enum (s:={ s with heap:=h',toks:=s.toks+1 }) U λXe Tn L=>?_
  have I2:=L2.af.turned (h':=Xe) (t':=s.toks+1) (it:=e) I1 (λb o hb q=>(L.2 b hb).trans q) (by rw[aT (neT e (by simp))];exact n.1) n.2.1 n.2.2.2.1 n.2.2.2.2.1 n.2.2.2.2.2;refine⟨.ref s.heap.objs.size,_,I2,rfl,⟨x,s.heap.objs.size,λys hy=>by rw[I.list_inj hy hq];exact hx,Z,rfl,rfl⟩,⟨⟨u,by simpa using Tn⟩,W.at λo q=>(L.2 it J.symm).trans q⟩,λb hb=>?_⟩;rw[aT (neT b hb)];exact(hf b hb).1
 done:=by
  intro X B hw C hc i b_ s σ H E I hf st hg;subst B hw C;obtain⟨xs,hq,hx⟩:=hg;obtain⟨d_,G,p,S⟩:=I.list hq;obtain⟨⟨g,m⟩,G_⟩:=st;obtain⟨f0,f1,f2,f3,f4,f5⟩:=hf it (by simp);have hl:=G.length;exact wpAny_pyNext_enum_end (I.ok.hd hc) m G_ p.isList (by simp;omega) λh' eb=>⟨rfl,I.turned (t':=s.toks) (λb o hb q=>eb b o hb q) f0 f1 f3 f4 f5⟩
 self:=λ_ _ _ _ _ st h=>by
  obtain⟨⟨g,m⟩,_⟩:=st;exact wpAny_pyIter_enum m h
def Hd(K:Za)(a:Addr):It:=
 ⟨λi H=>∃xs x,bX K H a xs/\xs[i]?=some x,λi H x H'=>∃v p,(∀xs,bX K H a xs->xs[i]?=some v)/\H p=none/\H'=upd H p (.tup [.int (i:Int),v])/\x=.ref p,λi H=>∃xs,bX K H a xs/\xs.length=i⟩
def CY(a e it:Addr)(C:e≠it):Turn P w K (.Tuple elts j tp) (Hd K a) [e,it] e (λi h=>(∃g,IsEnum h e it i g)/\h.IsTupleIter it a i) where
 mem:=by simp
 obj:=λi h st b hb=>by
  obtain⟨⟨g,m⟩,⟨o,eo,c,d⟩⟩:=st;have G:b=e\/b=it:=by simpa using hb
  rcases G with rfl | rfl
  .exact⟨_,m,λv z=>by cases z⟩
  .exact⟨o,eo,λv z=>by rw[d] at z;cases z⟩
 keep:=λi h h' st k=>by
  obtain⟨⟨g,m⟩,G_⟩:=st;exact⟨⟨g,k e (by simp) _ m⟩,G_.at λo x=>k it (by simp) o x⟩
 item:=by
  intro X J hw L hc i b_ s σ H E I hf st hg;subst J hw L;obtain⟨xs,x,hq,hx⟩:=hg;obtain⟨d_,R,p,hz⟩:=I.tuple hq;obtain⟨u,hu,ru⟩:=R.get hx;obtain⟨⟨g,m⟩,G_⟩:=st;have p:s.heap.IsTuple a d_.toArray:=p;have B:=hf e (by simp);have fi:=hf it (by simp);have S:a≠it:=λz=>by
   obtain⟨Z,n,A,_⟩:=p;obtain⟨o2,T,U,_⟩:=G_;rw[z,T] at n;cases n;rw[U] at A;exact absurd A 'b'
  have W:e≠a:=λz=>by
   obtain⟨Z,n,A,_⟩:=p;rw[←z,m] at n;cases n;exact absurd (show Value.type "enumerate" = Value.type "tuple" from A) 'b'
  have hi:i<d_.toArray.size:=by have:=(YD.1 hu).1;simpa using this
  refine wpAny_pyNext_enum_itemD (sg (by simp[I.ok.hd hc]) it a S d_.toArray) m ⟨G_,p⟩ hi C (by simp;exact⟨C,W⟩) λy h' tk hy ho l_ hT hsz hk=>⟨_,rfl,?_⟩
  have Y:y=u:=by
   have h1:d_[i]?=some y:=by simpa using hy
   rw[hu] at h1;cases h1;rfl
  subst Y;have Rt:H s.heap.objs.size=none:=I.hok.fresh (YG _);have I1:af X b_ σ (upd H s.heap.objs.size (.tup [.int (i:Int),x])) { s with heap:=h',toks:=tk+1 }:=af.turnedT (ch:=[e,it]) (d_:=[.int (i:Int) tk,y]) I
   (λb o hb q=>hk b o (λz=>hb (by simp[z])) (λz=>hb (by simp[z])) q)
   (λb hb=>(hf b hb).1) (λb hb=>⟨(hf b hb).2.2.2.1,(hf b hb).2.1,(hf b hb).2.2.2.2.1,(hf b hb).2.2.2.2.2⟩) (YG _) (.cons ⟨_,rfl⟩ (.cons ru .nil)) (by show 2<=sizeLine;decide) ⟨_,hT,rfl,_,rfl⟩
  have neT:∀b∈[e,it],b≠s.heap.objs.size:=λb hb z=>by
   have G:b=e\/b=it:=by simpa using hb
   rcases G with rfl | rfl
   .exact absurd (Ye m) (by rw[z];exact ZT _)
   .obtain⟨_,x1,_⟩:=G_;exact absurd (Ye x1) (by rw[z];exact ZT _)
  refine wpAny_letOwnedTupleGo_enum (s:={ s with heap:=h',toks:=tk+1 }) ho λXe Tn RQ=>?_
  have I2:=L2.af.turned (h':=Xe) (t':=tk+1) (it:=e) I1 (λb o hb q=>(RQ.2 b hb).trans q) (by rw[aT (neT e (by simp))];exact B.1) B.2.1 B.2.2.2.1 B.2.2.2.2.1 B.2.2.2.2.2;refine⟨.ref s.heap.objs.size,_,I2,rfl,⟨x,s.heap.objs.size,λys hy=>by rw[I.tuple_inj hy hq];exact hx,Rt,rfl,rfl⟩,⟨⟨y,by simpa using Tn⟩,l_.1.at λo q=>(RQ.2 it C.symm).trans q⟩,λb hb=>?_⟩;rw[aT (neT b hb)];exact(hf b hb).1
 done:=by
  intro X J hw L hc i b_ s σ H E I hf st hg;subst J hw L;obtain⟨xs,hq,hx⟩:=hg;obtain⟨d_,R,p,hz⟩:=I.tuple hq;have p:s.heap.IsTuple a d_.toArray:=p;obtain⟨⟨g,m⟩,G_⟩:=st;obtain⟨f0,f1,f2,f3,f4,f5⟩:=hf it (by simp);have S:a≠it:=λz=>by
   obtain⟨Z,n,A,_⟩:=p;obtain⟨o2,T,U,_⟩:=G_;rw[z,T] at n;cases n;rw[U] at A;exact absurd A 'b'
  have hn:i=d_.toArray.size:=by rw[←hx,R.length];simp
  subst hn;exact wpAny_pyNext_enum_endD (sg (by simp[I.ok.hd hc]) it a S d_.toArray) m ⟨G_,p⟩ λh' eb=>⟨rfl,I.turned (t':=s.toks) (λb o hb q=>eb b o hb q) f0 f1 f3 f4 f5⟩
 self:=λ_ _ _ _ _ st h=>by
  obtain⟨⟨g,m⟩,_⟩:=st;exact wpAny_pyIter_enum m h
def bN:Int->List D->List D
 |_,[]=>[]
 |n,d::r=>.tup [.int n,d]::bN (n+1) r
theorem fu:∀(n:Int) (ds:List D),(bN n ds).length=ds.length
 |_,[]=>rfl
 |n,d::r=>by rw[bN,YJ,YJ,fu]
theorem jD:∀{n:Int}{ds:List D}{i:Nat}{x:D},(bN n ds)[i]?=some x->∃d,ds[i]?=some d/\x=.tup [.int (n+i),d]
 |_,[],_,_,h=>by cases h
 |n,d::r,0,x,h=>by
  rw[bN] at h;simp at h;exact⟨d,rfl,by rw[←h];simp⟩
 |n,d::r,i+1,x,h=>by
  rw[bN] at h;obtain⟨d',h1,a⟩:=jD (n:=n+1) (ds:=r) (i:=i) (x:=x) (by simpa using h);refine⟨d',by simpa using h1,?_⟩;rw[a];congr 2;congr 1;omega
def yv{g:MH->Prop}(hg:∀H M,RM K M H->g M->∃vs,bQ K H t vs/\aj K H ds vs):wc K (Nh K t) H0 (bN 0 ds) g:=by
 intro i H M _ b q;obtain⟨vs,sq,a⟩:=hg H M b q;rw[fu];refine⟨λhi=>?_,λhi=>⟨vs,sq,by rw[←a.len];exact Nat.le_of_eq hi.symm⟩,λx H' d hd ⟨v,p,hv,hp,e,y⟩=>?_⟩
 .have:i<vs.length:=by rw[←a.len];exact hi
  exact⟨vs,vs[i],sq,ZD this⟩
 .subst e y
  obtain⟨d',h1,rfl⟩:=jD hd;obtain⟨v',m,r⟩:=eI a.p h1
  have:=hv vs sq
  rw[m] at this;cases this;have k:=Kp.new (o:=.tup [.int (i:Int),v]) hp;refine⟨k,b.newH hp,RV.tup_.2 ⟨p,_,rfl,bX.of aI,.cons (RV.int_.2 (by rw[Int.zero_add])) (.cons (RV.mono k _ r) .nil)⟩⟩
def EK(sq:bX K H0 t vs)(a:aj K H0 ds vs):wc K (Hd K t) H0 (bN 0 ds) (λ_=>True):=by
 intro i H M k b _;have sq:=k.sq sq;have a:=aj.mono k _ a;rw[fu];refine⟨λhi=>?_,λhi=>⟨vs,sq,by rw[←a.len];exact hi.symm⟩,λx H' d hd ⟨v,p,hv,hp,e,y⟩=>?_⟩
 .have:i<vs.length:=by rw[←a.len];exact hi
  exact⟨vs,vs[i],sq,ZD this⟩
 .subst e y
  obtain⟨d',h1,rfl⟩:=jD hd;obtain⟨v',g,r⟩:=eI a.p h1
  have:=hv vs sq
  rw[g] at this;cases this;have k:=Kp.new (o:=.tup [.int (i:Int),v]) hp;refine⟨k,b.newH hp,RV.tup_.2 ⟨p,_,rfl,bX.of aI,.cons (RV.int_.2 (by rw[Int.zero_add])) (.cons (RV.mono k _ r) .nil)⟩⟩
def CZ(t:WA):WI:=λσ M R=>t σ M λds M1=>match ds with
 |[.tup xs]=>R (bN 0 xs) (λ_=>True) M1
 |[.ref a]=>match M1 a with
  |some (.lst xs)=>R (bN 0 xs) (λM'=>M' a=some (.lst xs)) M1
  |some (.rol xs)=>R (bN 0 xs) (λM'=>M' a=some (.rol xs)) M1
  |_=>False
 |_=>False
section
variable {X:Cx}{H:Hp}{pos:Pos}
def Bn{R:It->Hp->Prop}(I:af X b_ ρ H s)(hq:bQ X.K H t vs)(q:R (Nh X.K t) H):
  wpAny 'c' X.A (call (.type "enumerate") [.ref t]) (λv s1=>wpAny 'c' X.A (pyIter v) (vQ X b_ ρ (.Tuple elts j tp) R) X.xe s1) X.xe s:=by
 obtain⟨d_,n,p,u⟩:=I.list hq;refine call_enumerate_list p.isList λh' a g hsz hk=>?_
 refine wpAny_pyIter_enum a ?_;have k:af X b_ ρ H { s with heap:=h' }:=I.kept (t':=s.toks) hk;refine⟨s.heap.objs.size+1,[s.heap.objs.size+1,s.heap.objs.size],_,_,H,rfl,k,EJ t _ _ (Nat.succ_ne_self _),⟨⟨.none,a⟩,g⟩,λb hb=>?_,q⟩;have m:b=s.heap.objs.size+1\/b=s.heap.objs.size:=by simpa using hb
 rcases m with rfl | rfl
 .exact I.fpOk (YO _) (I.hok.fresh (YO _))
 .exact I.fpOk (YG _) (I.hok.fresh (YG _))
def He{R:It->Hp->Prop}(I:af X b_ ρ H s)(hq:bX X.K H t vs)(q:R (Hd X.K t) H):
  wpAny 'c' X.A (call (.type "enumerate") [.ref t]) (λv s1=>wpAny 'c' X.A (pyIter v) (vQ X b_ ρ (.Tuple elts j tp) R) X.xe s1) X.xe s:=by
 obtain⟨d_,n,p,u⟩:=I.tuple hq;refine CW (show s.heap.IsTuple t d_.toArray from p) λh' a g hk=>?_
 refine wpAny_pyIter_enum a ?_;have k:af X b_ ρ H { s with heap:=h' }:=I.kept (t':=s.toks) hk;refine⟨s.heap.objs.size+1,[s.heap.objs.size+1,s.heap.objs.size],_,_,H,rfl,k,CY t _ _ (Nat.succ_ne_self _),⟨⟨.none,a⟩,g⟩,λb hb=>?_,q⟩;have m:b=s.heap.objs.size+1\/b=s.heap.objs.size:=by simpa using hb
 rcases m with rfl | rfl
 .exact I.fpOk (YO _) (I.hok.fresh (YO _))
 .exact I.fpOk (YG _) (I.hok.fresh (YG _))
def Hf{t:WA}(hg:Gl X "enumerate")(hm:X.mg "enumerate" = none)(h:gU X [l] t)(hs:ay l=true):wd X (.Tuple elts j tp) (.Call (.Name "enumerate" r_) [l] [] pos) (CZ t):=by
 intro σ M ρ H R rs T q b_ s I;refine Call_ (eG I hg hm (by rfl':bootBuiltins "enumerate" = some (.type "enumerate")) (PyProof.Rows.callWith_type1 (aK (h σ M ρ H _ rs T q pos b_ s I) λus s1 U=>?_) (bt hs) rfl));obtain⟨vs,W,g,L,⟨A,ds,M1,z,l1,m,b⟩⟩:=U;try dsimp only at b
 split at b
 .rename_i Y
  rw[aj] at z;obtain⟨v,Z,rfl,B,n⟩:=z;rw[aj] at n;subst n;obtain⟨a,xs,rfl,sq,k⟩:=RV.tup_.1 B;obtain⟨u,rfl,C⟩:=L.one;cases C;obtain⟨_,_,_,p⟩:=g.tuple sq;exact He g sq ⟨A,_,_,M1,m,trivial,EK sq k,by rw[fu,k.len];exact p,b⟩
 .rename_i a
  rw[aj] at z;obtain⟨v,Z,rfl,B,n⟩:=z;rw[aj] at n;subst n;cases RV.ref_.1 B;obtain⟨u,rfl,C⟩:=L.one;cases C;split at b
  .rename_i xs e
   obtain⟨S,e1,k⟩:=m a _ e;obtain⟨_,_,_,p⟩:=g.list (bQ.of e1);refine Bn g (bQ.of e1) ⟨A,_,_,M1,m,e,yv λH' M' E g'=>?_,by rw[fu,k.len];exact p,b⟩;obtain⟨G,e',J⟩:=E a _ g';exact⟨G,bQ.of e',J⟩
  .rename_i xs e
   obtain⟨S,e1,k⟩:=m a _ e;have e1:bQ X.K W a S:=.inl e1;obtain⟨_,_,_,p⟩:=g.list e1;refine Bn g e1 ⟨A,_,_,M1,m,e,yv λH' M' E g'=>?_,by rw[fu,k.len];exact p,b⟩;obtain⟨G,e',J⟩:=E a _ g';exact⟨G,.inl e',J⟩
  .exact Yh b
 .exact Yh b
end
def dr{b:Type}:List b->List b
 |[]=>[]
 |[a]=>[a]
 |[a,_]=>[a]
 |a::_::_::r=>a::dr r
theorem vn{g:Type}:∀(l:List g) (k:Nat),(dr l)[k]?=l[3*k]?
 |[],k=>by simp[dr]
 |[a],0=>rfl
 |[a],k+1=>by simp[dr]
 |[a,b],0=>rfl
 |[a,b],k+1=>by
  rw[dr,show 3*(k+1)=3*k+1+1+1 by omega];simp
 |a::b::c::r,0=>rfl
 |a::b::c::r,k+1=>by
  rw[dr,List.getElem?_cons_succ,vn r k,show 3*(k+1)=3*k+1+1+1 by omega,List.getElem?_cons_succ,List.getElem?_cons_succ,List.getElem?_cons_succ]
theorem qY{g:Type}:∀l:List g,(dr l).length=(l.length+2) / 3
 |[]=>by simp[dr]
 |[a]=>by simp[dr]
 |[a,b]=>by simp[dr]
 |a::b::c::r=>by
  rw[dr,YJ,qY r,YJ,YJ,YJ];omega
theorem EL{g:Type}(a:List g):(List.range ((a.length+2) / 3)).filterMap (λk=>a[3*k]?)=dr a:=by
 have b:∀n,n<=(a.length+2) / 3->(List.range n).filterMap (λk=>a[3*k]?)=(dr a).take n:=by
  intro n;induction n with
  |zero=>intro _;rfl
  |succ n m=>
   intro h;have hl:=qY a;rw[List.range_succ,List.filterMap_append,m 'a',List.take_add_one];congr 1;have:(dr a)[n]?=some ((dr a)[n]' 'a'):=ZD 'a'
   simp only[ZY,List.filterMap_nil,←vn,this,Option.toList]
 rw[b _ (YG _),←qY,List.take_length]
theorem yw{b k:Type}{f g:b->Option k}:∀{l:List b},(∀x∈l,f x=g x)->l.filterMap f=l.filterMap g
 |[],_=>rfl
 |a::l,h=>by
  rw[ZY,ZY,h a ZZ,yw λx hx=>h x (.tail _ hx)]
theorem EM(d_:Zd)(lo hi:Zq):slicePick d_.toArray lo hi (some 3)=(dr ((d_.drop (HT.aV d_.length 0 lo)).take (HT.aV d_.length d_.length hi-HT.aV d_.length 0 lo))).toArray:=by
 have g:(sliceBounds lo hi (some 3) d_.toArray.size).2.2=3:=rfl;have h1:(sliceBounds lo hi (some 3) d_.toArray.size).1=((HT.aV d_.length 0 lo:Nat):Int):=by
  cases lo with
  |none=>simp[sliceBounds,HT.aV]
  |some i=>
   simp only[sliceBounds,HT.aV,XJ,show(3:Int)>0 by decide,if_true,YI];by_cases h:i<0
   .simp only[h,if_true]<;>omega
   .simp only[h,if_false]<;>omega
 have m:(sliceBounds lo hi (some 3) d_.toArray.size).2.1=((HT.aV d_.length d_.length hi:Nat):Int):=by
  cases hi with
  |none=>simp[sliceBounds,HT.aV]
  |some i=>
   simp only[sliceBounds,HT.aV,XJ,show(3:Int)>0 by decide,if_true,YI];by_cases h:i<0
   .simp only[h,if_true]<;>omega
   .simp only[h,if_false]<;>omega
 have hb:HT.aV d_.length d_.length hi<=d_.length:=HT.D1 _ _ (YG _) hi;unfold slicePick;rw[h1,m,g];generalize HT.aV d_.length 0 lo=a at *;generalize HT.aV d_.length d_.length hi=b at *;rw[←EL];unfold sliceRange;have hc:(if(3:Int)>0 then(if(a:Int)<(b:Int) then((b:Int)-(a:Int)+3-1) / 3 else 0) else(if(a:Int)>(b:Int) then((a:Int)-(b:Int)-3-1) / (-3) else 0)).toNat=(((d_.drop a).take (b-a)).length+2) / 3:=by
  rw[if_pos 'b',YT,YY];by_cases h:a<b
  .rw[if_pos 'a'];omega
  .rw[if_neg 'a'];omega
 simp only[hc,List.filterMap_map];congr 1;refine yw λk hk=>?_
 rw[ZW,YT,YY] at hk;show d_.toArray[((a:Int)+3*(k:Int)).toNat]?=_;rw[show((a:Int)+3*(k:Int)).toNat=a+3*k by omega,List.getElem?_toArray,List.getElem?_take_of_lt 'a',List.getElem?_drop]
section
variable {X:Cx}{H:Hp}{e a b c o:Expr}{es:Zg}{pos:Pos}
theorem EN{g k:Type}{F:g->k->Prop}:∀{l:List g}{m:List k},Paired F l m->Paired F (dr l) (dr m)
 |_,_,.nil=>.nil
 |_,_,.cons h .nil=>.cons h .nil
 |_,_,.cons h (.cons _ .nil)=>.cons h .nil
 |_,_,.cons h (.cons _ (.cons _ t))=>.cons h (EN t)
theorem yx:∀{vs:List V}{us:Zd},aq vs us->aq (dr vs) (dr us)
 |_,_,.nil=>.nil
 |_,_,.cons h .nil=>.cons h .nil
 |_,_,.cons h (.cons _ .nil)=>.cons h .nil
 |_,_,.cons h (.cons _ (.cons _ t))=>.cons h (yx t)
theorem EO{g:Type}(l:List g):(dr l).length<=l.length:=by
 have:=qY l
 cases l with
 |nil=>exact YG _
 |cons _ _=>rw[YJ] at *;omega
def Pn(K:Za)(te:TE)(tl th:TO):TE:=λσ H Q=>te σ H λx k=>tl σ k λl m=>th σ m λu g=>∃a xs,x=.ref a/\bQ K g a xs/\∀p,g p=none->Q (.ref p) (upd g p (.lst (dr (i5 xs l u))))
theorem EQ{te:TE}{tl th:TO}{hi:Option Expr}(B:PE X e te)(hl:PO X lo tl)(hu:PO X hi th):PE X (.Subscript e (.Slice lo hi (some (.Constant (.int 3) j tp)) r_) pos) (Pn X.K te tl th):=by
 intro b_ s σ H Q I h;refine Subscript_ (aK (B b_ s σ H _ I h) λv s1 C=>?_);obtain⟨x,E,G,J,L⟩:=C;refine wpAny_Slice (aK (hl b_ s1 σ E _ G L) λm s2 R=>?_);obtain⟨l,S,T,U,W⟩:=R;refine aK (hu b_ s2 σ S _ T W) λn Y Z=>?_
 obtain⟨u,p,I3,pu,a,xs,rfl,hx,q3⟩:=Z;refine aK (AE DN b_ Y σ p (λo H'=>o=some 3/\H'=p) I3 ⟨3,rfl,rfl,rfl⟩) λz g z4=>?_
 obtain⟨o,H4,I4,pt,rfl,rfl⟩:=z4;have k:af X b_ σ H4 { g with heap:=g.heap.push { cls:=.type "slice",data:=.fields #[m,n,z] } }:=I4.kept (t':=g.toks) λb ob q=>Yd _ q
 cases J;obtain⟨d_,r,ht,hz⟩:=k.list hx;have j_:=r.length;show wpAny 'c' X.A (subscriptTail e (.Slice lo hi (some (.Constant (.int 3) j tp)) r_) (.ref a) (.ref g.heap.objs.size)) (EP X b_ σ Q) X.xe { g with heap:=g.heap.push { cls:=.type "slice",data:=.fields #[m,n,z] } };refine tail_any (ops:=[.ref a,.ref g.heap.objs.size]) ht.isList.typeIs slot_list_getitem.lookup ?_ (by with_unfolding_all rfl);refine wpAny_getItem_list_slice ht.isList (Heap.IsSliceOf.new ..) U pu pt (by simp) ?_ (by rw[YI];omega);rw[EM,←j_];have hq:=q3 _ (k.hok.fresh (YG _));refine⟨.ref _,_,k.laid (t':=g.toks) (o:=.lst (dr (i5 xs l u))) (λb ob q=>Yd _ q) (YG _) ?_,rfl,hq⟩;exact⟨ZX (EO _) (ZX (mK xs l u) hz),_,0,yx ((r.drop (HT.aV xs.length 0 l)).take (HT.aV xs.length xs.length u-HT.aV xs.length 0 l)),Yg _ rfl⟩
def Ni(x:D)(lo hi:Zq)(M:MH)(Q:DK):Prop:=match x with
 |.ref a=>bP (cu (M a)) λds=>∀p,M p=none->Q (.ref p) (ae M p (.lst (dr (dQ ds lo hi))))
 |_=>False
def Hg(ta:WE)(tl th:WO):WE:=λσ M Q=>ta σ M λx M1=>tl σ M1 λl M2=>th σ M2 λu g=>Ni x l u g Q
def Kw{hi:Option Expr}(ha:aN X a ta)(hl:yl X lo tl)(E:yl X hi th):aN X (.Subscript a (.Slice lo hi (some (.Constant (.int 3) j tp)) r_) pos) (Hg ta tl th):=by
 intro σ M ρ H Q rs G h;refine cc (EQ (bJ a) (CK lo) (CK hi)) ?_;show tW X a ρ H _;refine aM (ha σ M ρ H _ rs G h) λv z I=>?_
 obtain⟨g,x,M1,J,L,R⟩:=I;show wl X lo ρ z _;refine n9 (hl σ M1 ρ z _ (rs.mono g) L R) λl A S=>?_
 obtain⟨B,M2,T,U⟩:=S;show wl X hi ρ A _;refine n9 (E σ M2 ρ A _ (rs.mono (g.trans B)) T U) λu H3 W=>?_
 obtain⟨Y,M3,n,C⟩:=W;have kk:=g.trans (B.trans Y);cases x with
 |ref a=>
  cases RV.ref_.1 J;obtain⟨ds,e1,q⟩:=bv C;obtain⟨vs,sq,Z⟩:=n.list e1;refine⟨a,vs,rfl,sq,λp hp=>cI kk ?_⟩;have k:=Kp.new (o:=.lst (dr (i5 vs l u))) hp;exact⟨k,.ref p,_,RV.ref_.2 rfl,n.new (m:=.lst (dr (dQ ds l u))) hp ⟨_,aI,aj.mono k _ (aj.of (EN (yk Z l u).p))⟩,q p (n.fresh hp)⟩
 |_=>exact Yh C
end
end DD
namespace DD
open PySem PyProof.Rows L2
variable {n n':Nat}{B a:Addr}{fp:Zh}{h h':Heap}
section
variable {K:Type}[DecidableEq K]
def kZ(l:List K)(k:K):List K:=if k∈l then l else l++[k]
def bG(ks:List K):List K:=ks.foldl kZ []
def uf(ks:List K)(k:K):bG (ks++[k])=kZ (bG ks) k:=by unfold bG;rw[List.foldl_append];rfl
def yy(l:List K)(k:K):(kZ l k).length=if decide (k∈l) then l.length else l.length+1:=by
 unfold kZ;by_cases h:k∈l
 .rw[if_pos h,if_pos (YW h)]
 .rw[if_neg h,if_neg (by simpa using h)];simp
def Hh(l:List K)(k j:K):decide (j∈kZ l k)=(decide (j∈l)||decide (j=k)):=by
 unfold kZ;by_cases h:k∈l
 .rw[if_pos h]
  by_cases e:j=k
  .subst e;simp[h]
  .simp[e]
 .rw[if_neg h];simp
theorem oY:∀(ks l:List K),(ks.foldl kZ l).length<=l.length+ks.length
 |[],l=>by simp
 |k::ks,l=>by
  have h1:=oY ks (kZ l k);have b:(kZ l k).length<=l.length+1:=by rw[yy];split<;>omega
  simp only[List.foldl_cons,YJ];omega
def Hi(ks:List K):(bG ks).length<=ks.length:=by have:=oY ks [];simpa [bG] using this
end
section
variable {prog:Zw}{w:World}{A:Around}{R:Result->Shared->Prop}{K:Type}[DecidableEq K]{knd:KeyKind prog w K}
def yz{S S':K->Bool}(q:h.SetOf knd a S n)(e:∀k,S k=S' k)(b:n=n'):h.SetOf knd a S' n':=by
 obtain rfl:S=S':=funext e;subst b;exact q
def ug{S:K->Bool}(q:h.SetOf knd a S n)(k:∀o,h.get? a=some o->h'.get? a=some o):h'.SetOf knd a S n:=by
 obtain⟨o,es,b,t,y,r⟩:=q;exact⟨o,es,b,t,k o y,r⟩
theorem Hj{wr:Zh}{G:Array GenState->Array GenState->Prop}{P:Nat->Value->Prop}{St:Nat->Shared->Prop}(W:WalksS prog w A.in1 a fp wr G n P St)(m:B∉fp){ks:List K}
  (hn:ks.length=n) (hv:∀i v,P i v->∀k,ks[i]?=some k->knd.is k v=true/\v.scannable=true) (hb:n+1<scanBound):
  ∀(j i:Nat) (t:Shared),n-i=j->i<=n->St i t->t.heap.SetOf knd B (λk=>decide (k∈bG (ks.take i))) (bG (ks.take i)).length ->
   (∀t',Moved (B::wr) G t t'->t'.heap.SetOf knd B (λk=>decide (k∈bG ks)) (bG ks).length->R (.ok (.ret .none)) t') ->
   codeAny 'f' A (.builtin "set.update.loop" ⟨[.ref B,.ref a],[]⟩) R t:=by
 have hw:B∉wr:=λh=>m (W.sub _ h)
 have up:∀b∈wr,b∈B::wr:=λb y=>.tail _ y
 intro j;induction j with
 |zero=>
  intro i t e hi st q g;obtain rfl:i=n:=by omega
  refine codeAny_builtin F.entry_set_update_loop ?_;rw[Around.under_plainId F.plain_set_update_loop _];refine Yb (show wpAny _ A.in1 (pyNext (.ref a)) _ _ t from W.done t _ _ st λt' c=>?_);refine show wpAny _ A.in1 (ret Value.none) _ _ t' from Yc (g t' (c.mono up) ?_);rw[List.take_of_length_le (Nat.le_of_eq hn)] at q;exact ug q λo y=>c.heap B _ hw y
 |succ j u=>
  intro i t e hi st q g;have lt:i<n:=by omega
  refine codeAny_builtin F.entry_set_update_loop ?_;rw[Around.under_plainId F.plain_set_update_loop _];refine Yb (show wpAny _ A.in1 (pyNext (.ref a)) _ _ t from W.item i t _ _ lt st λv t' p l_ c=>?_);obtain⟨k,hk⟩:∃k,ks[i]?=some k:=⟨_,ZD 'a'⟩;obtain⟨is,sc⟩:=hv i v p k hk;have C:=ug (h':=t'.heap) q λo y=>c.heap B _ hw y
  refine Yb (show wpAny _ A.in1 (holding [v] (setAdd B v)) _ _ t' from Yj ?_);unfold setAdd;refine Yj (Yb (knd.pyHash is ?_));have f:(bG (ks.take i)).length+1<scanBound:=by have:=Hi (ks.take i);rw[YT] at this;omega
  have tk:ks.take (i+1)=ks.take i++[k]:=by rw[List.take_add_one,hk];rfl
  refine wpAny_setAddHashed_of (knd:=knd) (s:={ t' with toks:=t'.toks+1 }) is sc C f λh' r E=>?_
  have I:=yz (S':=λk'=>decide (k'∈bG (ks.take (i+1)))) (n':=(bG (ks.take (i+1))).length) E (λk'=>by rw[tk,uf,Hh]) (by rw[tk,uf,yy]);refine Yc ⟨plainId_quiet F.plain_set_update_loop _,u (i+1) _ 'a' lt (W.frame _ t' _ _ l_ (YO _) λb y o e=>?_) I λJ l L=>?_⟩
  .rw[r.2 b (λz:b=B=>m (z▸y))];exact e
  .refine g J (Moved.trans W.gtrans ((c.mono up).then_heap (YO _) λb o y e=>?_) l) L
   rw[r.2 b (λz:b=B=>y (z▸ZZ))];exact e
end
end DD
set_option maxHeartbeats 8000000
namespace DD
open PySem PyProof.Rows L2
variable {e_:Zl}{Q:Zb}{l:Addr}
section
variable {prog:Zw}{w:World}{A:Around}{Z:Zb}{s:Shared}{K:Type}[DecidableEq K]{knd:KeyKind prog w K}
def fv(led:Bool):Obj:={ cls:=.type "set",dict:=none,data:=.set #[] 0 (.fresh 0 0 led) }
theorem wp{T I:String}{ks:List K}{od:Zm}{m:Nat}{E_:Zn}(O:A.handled=none)(u:s.heap.get? l=some { cls:=.type T,dict:=od,data:=.seq e_ m,slots:=E_ })(s1:isSubtype (.type T) (.type "set")=pure false)(s2:isSubtype (.type T) (.type "frozenset")=pure false)(s3:(Value.type T==Value.type "dict")=false)
  (P:∀{A:Around} {E:Zb} {t:Shared} {Q:Zb},t.heap.get? l=some { cls:=.type T,dict:=od,data:=.seq e_ m,slots:=E_ }->Q (.ref t.heap.objs.size) { t with heap:=t.heap.push { cls:=.type I,data:=.fields #[.ref l,.int 0 0] } }->wpAny 'f' A (pyIter (.ref l)) Q E t)
  (S:∀J,l≠J->∃St:Nat->Heap->Prop,(∀{A:Around},A.handled=none->Walks prog w A J [J,l] [J] e_.size (λi v=>e_[i]?=some v) St)/\∀h:Heap,h.get? J=some { cls:=.type I,data:=.fields #[.ref l,.int 0 0] }->h.get? l=some { cls:=.type T,dict:=od,data:=.seq e_ m,slots:=E_ }->St 0 h)
  (hn:ks.length=e_.size)
  (hv:∀(i:Nat) (v:Value),e_[i]?=some v->∀k,ks[i]?=some k->knd.is k v=true/\v.scannable=true) (hb:e_.size+1<scanBound)
  (q:∀(h':Heap) (tk:Nat),h'.SetOf knd s.heap.objs.size (λk=>decide (k∈bG ks)) (bG ks).length ->
   (∀b o,b<s.heap.objs.size->s.heap.get? b=some o->h'.get? b=some o)->Q (.ref s.heap.objs.size) { s with heap:=h',toks:=tk }):
  wpAny 'f' A (call (.type "set") [.ref l]) Q Z s:=by
 obtain⟨c,tl,z⟩:=F.called_set.mro;have f:=F.called_set.made;have Xd:=F.called_set.sub;have n1:=F.called_set.notType;have n2:=F.called_set.canCreate;have n3:=F.typeCall_set_1 (.ref l);refine wpAny_call (codeAny_of_tree (show wpAny _ _ (callAny (.type "set") _) _ _ _ from Yc ⟨Code.quiet_builtin _ (by rfl'),codeAny_builtin F.entry_type_call ?_⟩));rw[Around.under_plain (weight_type_call_type "set" [.ref l] []) rfl];repeat (any_goals (first | assumption | wp_step))
 refine codeAny_mono (code_set_new_1 (.ref l) (E:=Z) (Q₁:=λo t=>∃led:Bool,o=.ref s.heap.objs.size/\t={ s with heap:=s.heap.push (fv led) }) λled=>⟨led,rfl,rfl⟩) λr t hr=>?_
 cases r with
 |error e=>exact hr
 |ok fl=>
  cases fl with
  |ret o=>
   obtain⟨led,rfl,rfl⟩:=hr;have B:(s.heap.push (fv led)).get? s.heap.objs.size=some (fv led):=Yg _ rfl;have ty:Shared.TypeIs { s with heap:=s.heap.push (fv led) } (.ref s.heap.objs.size) "set":=⟨_,B,rfl⟩;have l1:=F.called_set.init.lookup;have l2:=F.called_set.init.bind (.ref s.heap.objs.size);repeat (any_goals (first | assumption | wp_step))
   refine codeAny_mono (codeAny_call_builtin (R:=wants (λr C=>r=.none/\∃h' tk,C={ s with heap:=h',toks:=tk }/\h'.SetOf knd s.heap.objs.size (λk=>decide (k∈bG ks)) (bG ks).length /\
     (∀b o,b<s.heap.objs.size->s.heap.get? b=some o->h'.get? b=some o)) Z) F.called_set.init.plain F.entry_set_init (check_set_init_1 ty ?_)) λU C g=>?_
   .have G:(s.heap.push (fv led)).get? l=some { cls:=.type T,dict:=od,data:=.seq e_ m,slots:=E_ }:=Yd _ u
    unfold Builtin.«set.__init__» noKeywords Builtin.Frozenset.updateFrom;generalize hPI:pyIter=PI;wp_walk;subst hPI;refine P G (Yb (wpAny_runValue ?_));have j:(s.heap.push (fv led)).objs.size=s.heap.objs.size+1:=Heap.size_push ..;have L:l<s.heap.objs.size:=Ye u;have V:l≠(s.heap.push (fv led)).objs.size:=by rw[j];exact ZU (Nat.lt_succ_of_lt L)
    have Y:s.heap.objs.size∉[(s.heap.push (fv led)).objs.size,l]:=by
     rw[j];intro y;rcases YB.1 y with y | y
     .exact absurd y (ZU (YM _))
     .exact absurd (XQ.1 y) (Nat.ne_of_gt L)
    obtain⟨St,W,h0⟩:=S _ V;refine Hj ((W (by simp[O])).toS) (knd:=knd) (ks:=ks) Y hn hv hb (e_.size-0) 0 _ 'a' (YN _) (h0 _ (Yg _ rfl) (Yd _ G)) ?_ ?_
    .have:=(setObjOf_fresh (knd:=knd) led).setOf (Yd ({ cls:=.type I,data:=.fields #[.ref l,.int 0 0] }:Obj) B) (by unfold scanBound;omega)
     exact yz this (λk=>by simp[bG]) (by simp[bG])
    .intro t' a n
     obtain⟨h',g',d',Tp,Wt⟩:=t';obtain rfl:g'=s.gens:=a.gens;obtain rfl:d'=s.drawn:=a.drawn;obtain rfl:Wt=s.os:=a.os;refine Yc (show wpAny _ _ (ret Value.none) _ _ _ from Yc ⟨rfl,h',Tp,rfl,n,λb o lt e=>a.heap b o ?_ (Yd _ (Yd _ e))⟩);rw[j];intro y;rcases YB.1 y with y | y
     .exact ZU lt y
     .exact ZU (Nat.lt_succ_of_lt lt) (XQ.1 y)
   .cases U with
    |error e=>exact g
    |ok p=>
     cases p with
     |ret r=>
      obtain⟨rfl,h',tk,rfl,n,k'⟩:=g;repeat (any_goals (first | assumption | wp_step))
      exact q _ _ n k'
     |_=>exact g.elim
  |_=>exact hr.elim
def ER{ks:List K}(c:A.handled=none)(hl:s.heap.IsList l e_)(hn:ks.length=e_.size)
  (hv:∀(i:Nat) (v:Value),e_[i]?=some v->∀k,ks[i]?=some k->knd.is k v=true/\v.scannable=true) (hb:e_.size+1<scanBound)
  (q:∀(h':Heap) (tk:Nat),h'.SetOf knd s.heap.objs.size (λk=>decide (k∈bG ks)) (bG ks).length ->
   (∀b o,b<s.heap.objs.size->s.heap.get? b=some o->h'.get? b=some o)->Q (.ref s.heap.objs.size) { s with heap:=h',toks:=tk }):
  wpAny 'f' A (call (.type "set") [.ref l]) Q Z s:=by
 obtain⟨⟨oc,od,f,E_⟩,j,n,m,p⟩:=hl;obtain rfl:oc=.type "list":=n;obtain rfl:f=.seq e_ m:=p;exact wp (I:="list_iterator") c j F.sub_list_set F.sub_list_frozenset 'b' (λg=>wpAny_pyIter_list ⟨_,g,rfl,_,rfl⟩) (λJ r=>⟨_,λh=>Walks.list h J l r e_,λh' a b=>⟨⟨_,a,rfl,rfl⟩,⟨_,b,rfl,_,rfl⟩⟩⟩) hn hv hb q
def C0{ks:List K}(c:A.handled=none)(hl:s.heap.IsTuple l e_)(hn:ks.length=e_.size)
  (hv:∀(i:Nat) (v:Value),e_[i]?=some v->∀k,ks[i]?=some k->knd.is k v=true/\v.scannable=true) (hb:e_.size+1<scanBound)
  (q:∀(h':Heap) (tk:Nat),h'.SetOf knd s.heap.objs.size (λk=>decide (k∈bG ks)) (bG ks).length ->
   (∀b o,b<s.heap.objs.size->s.heap.get? b=some o->h'.get? b=some o)->Q (.ref s.heap.objs.size) { s with heap:=h',toks:=tk }):
  wpAny 'f' A (call (.type "set") [.ref l]) Q Z s:=by
 obtain⟨⟨oc,od,f,E_⟩,j,n,m,p⟩:=hl;obtain rfl:oc=.type "tuple":=n;obtain rfl:f=.seq e_ m:=p;exact wp (I:="tuple_iterator") c j F.sub_tuple_set F.sub_tuple_frozenset 'b' (λg=>wpAny_pyIter_tuple ⟨_,g,rfl,_,rfl⟩) (λJ r=>⟨_,λh=>Walks.tuple h J l r e_,λh' a b=>⟨⟨_,a,rfl,rfl⟩,⟨_,b,rfl,_,rfl⟩⟩⟩) hn hv hb q
end
end DD
namespace DD
open PySem PySem.Spec PyProof.Rows L2
variable {tk ep:Nat}{d:Addr}{RR p2:Pos}{b_:Zc}{Q Z:Zb}{M:MH}{a b:Expr}{ρ:L2.St}{s:Shared}{ms ns:Zi}{K:Za}{t:WA}{H0:Hp}{u v:Tok}{lo:Int}{h':Heap}
def oe:List D->Option (List Str)
 |[]=>some []
 |.str x::r=>(oe r).map (x :: ·)
 |_=>none
def im:List D->Option (List Int)
 |[]=>some []
 |.int x::r=>(im r).map (x :: ·)
 |_=>none
theorem yA{K:Za}{H:Hp}:∀{ds:List D}{ks:Zf}{vs:List V},oe ds=some ks->aj K H ds vs->vs=ks.map V.str
 |[],ks,vs,h,r=>by
  rw[oe] at h;cases h;rw[aj] at r;subst r;rfl
 |.str x::ds,ks,vs,h,r=>by
  rw[oe] at h;rw[aj] at r;obtain⟨v,g,rfl,c,f⟩:=r;cases q:oe ds with
  |none=>rw[q] at h;cases h
  |some j=>
   rw[q] at h;cases h;rw[yA q f,RV.str_.1 c];rfl
 |.non::_,_,_,h,_=>by cases h
 |.bl _::_,_,_,h,_=>by cases h
 |.int _::_,_,_,h,_=>by cases h
 |.tup _::_,_,_,h,_=>by cases h
 |.ref _::_,_,_,h,_=>by cases h
 |.ty _::_,_,_,h,_=>by cases h
theorem sQ{K:Za}{H:Hp}:∀{ds:List D}{ks:Zi}{vs:List V},im ds=some ks->aj K H ds vs->vs=ks.map V.int
 |[],ks,vs,h,r=>by
  rw[im] at h;cases h;rw[aj] at r;subst r;rfl
 |.int x::ds,ks,vs,h,r=>by
  rw[im] at h;rw[aj] at r;obtain⟨v,g,rfl,c,f⟩:=r;cases q:im ds with
  |none=>rw[q] at h;cases h
  |some j=>
   rw[q] at h;cases h;rw[sQ q f,RV.int_.1 c];rfl
 |.non::_,_,_,h,_=>by cases h
 |.bl _::_,_,_,h,_=>by cases h
 |.str _::_,_,_,h,_=>by cases h
 |.tup _::_,_,_,h,_=>by cases h
 |.ref _::_,_,_,h,_=>by cases h
 |.ty _::_,_,_,h,_=>by cases h
def qZ(xs:List D)(Q:Int->Prop):Prop:=xs.length<4000/\match oe xs with
 |some ks=>Q ((bG ks).length:Nat)
 |none=>match im xs with
  |some ks=>Q ((bG ks).length:Nat)
  |none=>False
def C1(d:D)(M:MH)(Q:List D->Prop):Prop:=match d with
 |.ref a=>match M a with
  |some (.lst xs)=>Q xs
  |some (.rol xs)=>Q xs
  |_=>False
 |_=>False
def Hk(d:D)(M:MH)(Q:List D->Prop):Prop:=match d with
 |.tup xs=>Q xs
 |d=>C1 d M Q
def vo(t:WE):WE:=λσ M Q=>t σ M λd M1=>Hk d M1 λxs=>qZ xs λn=>Q (.int n) M1
section
variable {X:Cx}{H:Hp}{pos:Pos}
def Kx{d:D}{Q:List D->Prop}{v:V}(q:C1 d M Q)(g:RV K H d v)(j:RM K M H):∃a xs vs,v=.ref a/\bQ K H a vs/\aj K H xs vs/\Q xs:=by
 unfold C1 at q;split at q
 .rename_i a
  split at q
  .rename_i xs e
   obtain⟨c,e1,f⟩:=j a _ e;exact⟨a,xs,c,RV.ref_.1 g,bQ.of e1,f,q⟩
  .rename_i xs e
   obtain⟨c,e1,f⟩:=j a _ e;exact⟨a,xs,c,RV.ref_.1 g,.inl e1,f,q⟩
  .exact Yh q
 .exact Yh q
theorem ES{xs:List D}{vs:List V}{Q:Int->Prop}{R:Zb}(hc:X.calm=true)(I:af X b_ ρ H s)(hq:bQ X.K H d vs\/bX X.K H d vs)(f:aj X.K H xs vs)(q:qZ xs Q)
  (g:∀n tk h' r,Q n->af X b_ ρ H { s with heap:=h',toks:=r }->R (.int n tk) { s with heap:=h',toks:=r }):
  wpAny 'c' X.A (call (.type "set") [.ref d]) (λu s1=>wpAny 'c' X.A (call (.builtin "len") [u]) R Z s1) Z s:=by
 have ht:∃d_,aq vs d_/\(s.heap.IsList d d_.toArray\/s.heap.IsTuple d d_.toArray):=by
  rcases hq with hq | hq
  .obtain⟨d_,c,p,_⟩:=I.list hq
   exact⟨d_,c,.inl p.isList⟩
  .obtain⟨d_,c,p,_⟩:=I.tuple hq
   exact⟨d_,c,.inr p⟩
 obtain⟨d_,c,p⟩:=ht;have U:xs.length=d_.length:=by rw[f.len,c.length]
 have y:∀{K:Type}[DecidableEq K] {knd:KeyKind X.prog X.w K}{ks:List K}{j:Zb},ks.length=d_.toArray.size->(∀(i:Nat) (v:Value),d_.toArray[i]?=some v->∀k,ks[i]?=some k->knd.is k v=true/\v.scannable=true)->d_.toArray.size+1<scanBound ->
   (∀(h':Heap) (tk:Nat),h'.SetOf knd s.heap.objs.size (λk=>decide (k∈bG ks)) (bG ks).length->(∀b o,b<s.heap.objs.size->s.heap.get? b=some o->h'.get? b=some o)->j (.ref s.heap.objs.size) { s with heap:=h',toks:=tk }) ->
   wpAny 'c' X.A (call (.type "set") [.ref d]) j Z s:=by
  intro K _ knd ks j z B C E;rcases p with p | p
  .exact ER (I.ok.hd hc) p z B C E
  .exact C0 (I.ok.hd hc) p z B C E
 unfold qZ at q;obtain⟨hl,q⟩:=q;have fin:∀{K:Type}[DecidableEq K] {knd:KeyKind X.prog X.w K}{ks:List K}(h':Heap) (tk:Nat),h'.SetOf knd s.heap.objs.size (λk=>decide (k∈bG ks)) (bG ks).length->Q ((bG ks).length:Nat) ->
   (∀b o,b<s.heap.objs.size->s.heap.get? b=some o->h'.get? b=some o)->wpAny 'c' X.A (call (.builtin "len") [.ref s.heap.objs.size]) R Z { s with heap:=h',toks:=tk }:=by
  intro K _ knd ks h' tk st G kp;obtain⟨o,es,ep,t,J,L,O,_,_,P,S,T⟩:=st;rw[←T] at G;refine call_len_set (s:={ s with heap:=h',toks:=tk }) J L O S (by unfold scanBound at P;omega) ?_;exact g _ _ h' (tk+1+1) G (I.kept (t':=tk+1+1) λb o e=>kp b o (Ye e) e)
 split at q
 .rename_i ks e
  obtain rfl:=yA e f;have l:ks.length=d_.length:=by have:=c.length;simpa using this
  refine y (knd:=strKind X.prog X.w) (ks:=ks) (by simpa using l) (λi v hv k hk=>?_) (by unfold scanBound;simp;omega) λh' tk st kp=>fin h' tk st q kp
  obtain⟨u,h1,m⟩:=c.get (i:=i) (x:=.str k) (by simp[hk]);have:v=u:=by simp at hv;rw[hv] at h1;cases h1;rfl
  subst this;obtain⟨t,rfl⟩:∃t,v=Value.str k t:=m;exact⟨strKind_is _ _ _ _,rfl⟩
 .split at q
  .rename_i ks e
   obtain rfl:=sQ e f;have l:ks.length=d_.length:=by have:=c.length;simpa using this
   refine y (knd:=intKind X.prog X.w) (ks:=ks) (by simpa using l) (λi v hv k hk=>?_) (by unfold scanBound;simp;omega) λh' tk st kp=>fin h' tk st q kp
   obtain⟨u,h1,m⟩:=c.get (i:=i) (x:=.int k) (by simp[hk]);have:v=u:=by simp at hv;rw[hv] at h1;cases h1;rfl
   subst this;obtain⟨t,rfl⟩:∃t,v=Value.int k t:=m;exact⟨intKind_is _ _ _ _,rfl⟩
  .exact Yh q
def C2{t:WE}{p:Pos}(hc:X.calm=true)(hg:Gl X "len")(hm:X.mg "len" = none)(r:Gl X "set")(z:X.mg "set" = none)(h:aN X a t)(hs:ay a=true):aN X (.Call (.Name "len" p) [.Call (.Name "set" p2) [a] [] RR] [] pos) (vo t):=by
 intro σ M ρ H Q rs A q b_ s I;refine Call_ (eG I hg hm PySem.boot_len (callWith_builtin1 (args_cons (Call_ (eG I r z (by rfl':bootBuiltins "set" = some (.type "set")) (PyProof.Rows.callWith_type1 (args_cons (aK (h σ M ρ H _ rs A q b_ s I) λu s1 B=>?_) (bt hs)) (bt hs) rfl))))));obtain⟨v,g,C,E,⟨G,d,M1,m,o,c⟩⟩:=B;have j:∃l xs vs,v=.ref l/\(bQ X.K g l vs\/bX X.K g l vs)/\aj X.K g xs vs/\qZ xs λn=>Q (.int n) M1:=by
  unfold Hk at c;dsimp only at c;split at c
  .obtain⟨l,vs,rfl,sq,f⟩:=RV.tup_.1 m
   exact⟨l,_,vs,rfl,.inr sq,f,c⟩
  .obtain⟨l,xs,vs,rfl,sq,f,k⟩:=Kx c m o
   exact⟨l,xs,vs,rfl,.inl sq,f,k⟩
 obtain⟨l,xs,vs,rfl,sq,f,k⟩:=j;cases E;refine args_nil ?_
 have:=ES (X:=X) (R:=λw t=>EP X b_ ρ (lift X.K H Q) w t) (Z:=X.xe) hc C sq f k λn tk h' O J L=>⟨.int n,g,L,⟨_,rfl⟩,G,.int n,M1,RV.int_.2 rfl,o,J⟩
 exact wpAny_mono this (λu t y=>args_nil y) λ_ _ y=>y
end
section
variable {X:Cx}{H:Hp}{pos:Pos}{e:Expr}{es:Zg}
inductive Bj where
 deriving DecidableEq
end
def fw(a:Int)(n:Nat):List V:=(List.range n).map λ(i:Nat)=>.int (a+(i:Int))
def C3(a:Int)(n:Nat):(fw a n).length=n:=by unfold fw;rw[ZF,ZJ]
theorem q0{K:Za}{H:Hp}{c:Type}{f:c->D}{g:c->V}(h:∀x,RV K H (f x) (g x)):∀(l:List c),aj K H (l.map f) (l.map g)
 |[]=>.nil
 |x::l=>.cons (h x) (q0 h l)
def Hl(a b:Int):aj K H0 (bM a b) (fw a (b-a).toNat):=q0 (λ_=>RV.int_.2 rfl) _
theorem uh:∀(d_:Zd) (a:Int),(∀(j:Nat) v,d_[j]?=some v->∃t,v=Value.int (a+j*1) t)->aq (fw a d_.length) d_
 |[],_,_=>.nil
 |u::d_,a,h=>by
  have e:fw a (u::d_).length=.int a::fw (a+1) d_.length:=by
   unfold fw;rw[YJ,List.range_succ_eq_map,YL,ZM];congr 1
   .simp
   .refine ZN λi _=>?_
    show V.int (a+((i+1:Nat):Int))=V.int (a+1+(i:Int));congr 1;omega
  rw[e];refine .cons ?_ (uh d_ (a+1) λj v e=>?_)
  .obtain⟨t,e⟩:=h 0 u rfl
   exact⟨t,by rw[e];simp⟩
  .obtain⟨t,c⟩:=h (j+1) v (by simpa using e)
   refine⟨t,?_⟩;rw[c];congr 1;omega
def C4(ds:List D)(Q:List D->Prop):Prop:=match ds with
 |[.int j]=>(-1000000<j/\j<1000000)/\Q (bM 0 j)
 |[.int i,.int j]=>(-1000000<i/\i<1000000/\-1000000<j/\j<1000000)/\Q (bM i j)
 |_=>False
def C5(t:WA):WE:=λσ M Q=>t σ M λds M1=>C4 ds λxs=>∀p,M1 p=none->Q (.ref p) (ae M1 p (.lst xs))
section
variable {X:Cx}{H:Hp}{pos:Pos}{e:Expr}{es:Zg}
theorem ET{hi:Int}{t:Tok}{Q:DK}(hc:X.calm=true)(I:af X b_ ρ H s)(l:Kp H0 H)(f:RM X.K M H)(h1:-1000000<lo)(B:lo<1000000)(C:-1000000<hi)(E:hi<1000000)
  (q:∀p,M p=none->Q (.ref p) (ae M p (.lst (bM lo hi)))):
  wpAny 'c' X.A (call (.type "list") [.ref s.heap.objs.size]) (EP X b_ ρ (lift X.K H0 Q)) X.xe { s with heap:=s.heap.push { cls:=.type "range",data:=.fields #[.int lo t,.int hi u,.int 1 v] },toks:=tk }:=by
 have g:af X b_ ρ H { s with heap:=s.heap.push { cls:=.type "range",data:=.fields #[.int lo t,.int hi u,.int 1 v] },toks:=tk }:=I.kept λb o e=>Yd _ e
 refine call_list_range (s:={ s with heap:=s.heap.push { cls:=.type "range",data:=.fields #[.int lo t,.int hi u,.int 1 v] },toks:=tk }) (n:=(hi-lo).toNat) (I.ok.hd hc) (IsRange.new ..) (small_one 'a' 'a' 'a' 'a')
  (by rw[rangeSize_one];split<;>omega) 'a' λh' r g_ c' hk y c=>?_
 obtain⟨hs,c⟩:=c;have hl:g_.toList.length=(hi-lo).toNat:=by rw[←hs];simp
 have hv:aq (fw lo (hi-lo).toNat) g_.toList:=by
  rw[←hl];refine uh g_.toList lo λj w e=>?_
  exact c j w (by rw[←XD];exact e)
 have hf:H (s.heap.push { cls:=.type "range",data:=.fields #[.int lo t,.int hi u,.int 1 v] }).objs.size=none:=g.hok.fresh (YG _);have k:=Kp.new (o:=.lst (fw lo (hi-lo).toNat)) hf;have z:(fw lo (hi-lo).toNat).length<=sizeLine:=by
  rw[C3];have:(2000000:Nat)<=sizeLine:=by decide
  omega
 exact⟨.ref _,_,g.laid (t':=r) hk (YG _) (show bn X.prog X.w _ h' _ (.lst (fw lo (hi-lo).toNat)) from⟨z,g_.toList,c',hv,by simpa using y⟩),rfl,l.trans k,.ref _,_,RV.ref_.2 rfl,f.new (m:=.lst (bM lo hi)) hf ⟨_,aI,Hl _ _⟩,q _ (f.fresh hf)⟩
def Hm{p:Pos}(hc:X.calm=true)(hg:Gl X "list")(hm:X.mg "list" = none)(f:Gl X "range")(g:X.mg "range" = none)(ha:gU X [a] t)(hs:ay a=true):
  aN X (.Call (.Name "list" p) [.Call (.Name "range" p2) [a] [] RR] [] pos) (C5 t):=by
 intro σ M ρ H Q rs k q b_ s I;refine Call_ (eG I hg hm (by rfl':bootBuiltins "list" = some (.type "list")) (PyProof.Rows.callWith_type1 (args_cons (Call_ (eG I f g boot_range (PyProof.Rows.callWith_type1 (aK (ha σ M ρ H _ rs k q _ b_ s I) λus s1 l=>?_) (bt hs) rfl)))) rfl rfl));obtain⟨vs,G,m,n,⟨o,ds,M1,r,y,z,c⟩⟩:=l;unfold C4 at c;dsimp only at c;split at c
 .obtain⟨v,rfl,A⟩:=f6 r
  cases RV.int_.1 A;obtain⟨u,rfl,B⟩:=vals1 n;obtain⟨t,rfl⟩:=B;obtain⟨⟨C,E⟩,c⟩:=c;refine call_range_1 (args_nil ?_);exact ET hc m o z 'b' 'b' C E c
 .rename_i i j
  exact absurd y (by simp)
 .exact Yh c
def Hn{p:Pos}(hc:X.calm=true)(hg:Gl X "list")(hm:X.mg "list" = none)(g:Gl X "range")(j:X.mg "range" = none)(ha:gU X [a,b] t)(hs:ay a=true)(k:ay b=true):
  aN X (.Call (.Name "list" p) [.Call (.Name "range" p2) [a,b] [] RR] [] pos) (C5 t):=by
 intro σ M ρ H Q rs l q b_ s I;refine Call_ (eG I hg hm (by rfl':bootBuiltins "list" = some (.type "list")) (PyProof.Rows.callWith_type1 (args_cons (Call_ (eG I g j boot_range (PyProof.Rows.callWith_type1 (aK (ha σ M ρ H _ rs l q _ b_ s I) λus s1 m=>?_) (bt hs) (dY (by rw[XS,k];rfl)))))) rfl rfl));obtain⟨vs,P,n,o,⟨r,ds,M1,y,z,A,c⟩⟩:=m;unfold C4 at c;dsimp only at c;split at c
 .exact absurd z (by simp)
 .obtain⟨v,R,rfl,B,C⟩:=CL y
  cases RV.int_.1 B;cases RV.int_.1 C;obtain⟨u,u',rfl,E,f⟩:=o.two;obtain⟨t,rfl⟩:=E;obtain⟨t',rfl⟩:=f;obtain⟨⟨G,J,L,O⟩,c⟩:=c;refine call_range_2 (args_nil ?_);exact ET hc n r A G J L O c
 .exact Yh c
structure IY (K:Za) (C D:Addr) (b:Bool):Prop where
 cl:fV K C
 ha:PySem.W.findIn K (.ref C) "__class__" = some (some (.builtin "object.__class__"))
 hn:PySem.W.specialIn K (.builtin "object.__class__") "__get__" = some (some (.builtin "getset_descriptor.__get__"))
 ht:PySem.W.takesIn K (.builtin "object.__class__")=some true
 hm:PySem.W.mroIn K C (.type "object")=some true
 ki:PySem.W.kitOne K (.ref C) (.ref D)=some b
abbrev PC:=Addr->Addr->Option Bool
end
section
variable {prog:Zw}{w:World}{A:Around}{E:Zb}{s:Shared}{κ:Type}[DecidableEq κ]{knd:KeyKind prog w κ}
abbrev xC(knd:KeyKind prog w κ)(c:List (κ×Value)):Nat->Value->Prop:=λi v=>∃k x,c[i]?=some (k,x)/\knd.is k v=true
def zZ{R:Result->Shared->Prop}{c:List (κ×Value)}(m:A.handled=none)(hd:(d==sysModules)=false)(hm:s.heap.DictAt knd d c ep)(hl:c.length<=2 ^ 24)(S:Addr)(res:Value)(j:Nat)
  (k:s.heap.get? S=some { cls:=.type "list",data:=.seq #[] j })
  (n:∀h' tk g_ c',(∀b o,b≠S->s.heap.get? b=some o->h'.get? b=some o)->h'.get? S=some { cls:=.type "list",dict:=none,data:=.seq g_ c',slots:=#[] }->ItemsOf (xC knd c) g_ c.length->R (.ok (.ret res)) { s with heap:=h',toks:=tk }):
  wpAny 'f' A.in1 (Builtin.List.listExtendWith (.ref S) (.ref d) res)
   (λfin g=>match fin with
    |.done f=>R (.ok f) g
    |.again c'=>c'.quiet=true/\codeAny 'f' A c' R g) (λe g=>R (.error e) g) s:=by
 have l:S≠d:=λz=>by
  subst z;obtain⟨o,e1,p⟩:=hm.dictOf.typeIs (s:=s);rw[k] at e1;cases e1;simp at p
 exact PySem.W.kdl_extend (PySem.W.kdl_dict hd) m hm S l l res j k n (by rw[sizeLine_eq];exact hl)
end
section
variable {prog:Zw}{w:World}{A:Around}{E:Zb}{s:Shared}{κ:Type}[DecidableEq κ]{knd:KeyKind prog w κ}
def list_dict{c:List (κ×Value)}(f:A.handled=none)(hd:(d==sysModules)=false)(hm:s.heap.DictAt knd d c ep)(hl:c.length<=2 ^ 24)
  (g:∀h' tk g_ c',(∀b o,s.heap.get? b=some o->h'.get? b=some o)->h'.get? s.heap.objs.size=some { cls:=.type "list",dict:=none,data:=.seq g_ c',slots:=#[] }->ItemsOf (xC knd c) g_ c.length ->
   Q (.ref s.heap.objs.size) { s with heap:=h',toks:=tk }):wpAny 'f' A (call (.type "list") [.ref d]) Q E s:=
 PySem.W.kdl_call (PySem.W.kdl_dict hd) f hm (by rw[sizeLine_eq];exact hl) g
def yB{Q:List Value->Shared->Prop}{c:List (κ×Value)}(j:A.handled=none)(hd:(d==sysModules)=false)(hm:s.heap.DictAt knd d c ep)(hl:c.length<=2 ^ 24)
  (k:∀h' tk g_,(∀b o,s.heap.get? b=some o->h'.get? b=some o)->s.heap.objs.size<h'.objs.size->ItemsOf (xC knd c) g_ c.length->Q g_.toList { s with heap:=h',toks:=tk }):wpAny 'f' A (collect (.ref d)) Q E s:=by
 have go:∀R:Result->Shared->Prop,(∀h' tk g_ c',(∀b o,s.heap.get? b=some o->h'.get? b=some o)->h'.get? s.heap.objs.size=some { cls:=.type "list",dict:=none,data:=.seq g_ c',slots:=#[] }->ItemsOf (xC knd c) g_ c.length ->
   R (.ok (.ret (.ref s.heap.objs.size))) { s with heap:=h',toks:=tk })->codeAny 'f' A (.builtin "list.__iadd__" ⟨[.ref s.heap.objs.size,.ref d],[]⟩) R { s with heap:=s.heap.push (seqObj "list" #[] 0) }:=by
  intro R l;refine codeAny_builtin entry_list_iadd' ?_;show wpAny _ _ (Builtin.List.listExtendWith (.ref s.heap.objs.size) (.ref d) (.ref s.heap.objs.size)) _ _ { s with heap:=s.heap.push (seqObj "list" #[] 0) };rw[Around.under_plainId (id:="list.__iadd__") (by rfl')];refine zZ (A:=A) (R:=R) (s:={ s with heap:=s.heap.push (seqObj "list" #[] 0) }) j hd (hm.push _) hl s.heap.objs.size _ 0 (Yg _ rfl) ?_;intro h' tk g_ c' hk f g;exact l h' tk g_ c' (λb o e=>hk b o (ZU (Ye e)) (Yd _ e)) f g
 unfold collect;refine Yb (wpAny_runValue (codeAny_builtin entry_proto_collect' ?_));show wpAny _ _ (do again (.builtin "list.__iadd__" ⟨[←newList [],.ref d],[]⟩)) _ _ s;refine Yb (wpAny_newList (Yc ⟨Code.quiet_builtin _ (by rfl'),go _ λh' tk g_ c' hk f g=>?_⟩));refine Yb (wpAny_load f ?_);exact Yc (k h' tk g_ hk (Ye f) g)
theorem Bo:∀{vs:Zd}{ms:Zi},vs.length=ms.length->(∀(i:Nat) (v:Value) (n:Int),vs[i]?=some v->ms[i]?=some n->∃t,v=Value.int n t)->IntsAre vs ms
 |[],[],_,_=>.nil
 |[],_::_,h,_=>by cases h
 |_::_,[],h,_=>by cases h
 |v::vs,n::ms,h,g=>by
  obtain⟨t,rfl⟩:=g 0 v n rfl rfl;exact .cons n t (Bo (by simpa using h) λi v m a b=>g (i+1) v m (by simpa using a) (by simpa using b))
def C7 {it:Value} {vs:Zd}     (g:IntsAre vs ns) (j:vs.length < 64)
  (h:∀ (out:Zl) (c:Zi),IntsAre out.toList c->c.Perm ns->c.Pairwise (·<=·)->Q (.ref h'.objs.size) { s with heap:=sortedHeap (h'.push (seqObj "list" vs.toArray 0)) h'.objs.size vs out,toks:=tk }) :
  wpAny 'f' A.in1 (do
   let l ← newList vs
   let _ ← holding [l] (call (.builtin "list.sort") [l] [])
   ret l) (λfin k=>∃ v,fin = Fin.done (.ret v)/\Q v k) E { s with heap:=h',toks:=tk }:=by
 refine Yb (wpAny_newList ?_)
 have f:(h'.push (seqObj "list" vs.toArray 0)).get? h'.objs.size = some (seqObj "list" vs.toArray 0):=Yg _ rfl
 show wpAny _ _ _ _ _ { s with heap:=h'.push (seqObj "list" vs.toArray 0),toks:=tk }
 refine Yb (Yj (wpAny_call_entry slot_list_sort ⟨_,f,rfl⟩ entry_list_sort (list_sort_tree f g j λout c m n o=>⟨_,rfl,?_⟩) (args_list_sort _)))
 exact Yc ⟨_,rfl,h out c m n o⟩
end
def intKeys:List (Key×D)->Option (List Int)
 |[]=>some []
 |(.inl i,_)::r=>(intKeys r).map (i :: ·)
 |_=>none
theorem si:∀{c:ZC}{ns:Zi},intKeys c=some ns->c.map (·.1)=ns.map Sum.inl
 |[],ns,h=>by cases h;rfl
 |(.inl i,d)::r,ns,h=>by
  rw[intKeys] at h;cases q:intKeys r with
  |none=>rw[q] at h;cases h
  |some ms=>rw[q] at h;cases h;rw[YL,YL,si q]
 |(.inr x,d)::r,ns,h=>by cases h
def kt(ns:Zi)(M:MH)(Q:DK):Prop:=ns.length<64/\∀(p:Addr) (ms:Zi),M p=none->ms.Perm ns->ms.Pairwise (·<=·)->Q (.ref p) (ae M p (.lst (ms.map .int)))
def kH:az:=λds M Q=>match ds with
 |[.ref a]=>match cu (M a) with
  |some xs=>bP (im xs) λns=>kt ns M Q
  |none=>bP (lU (M a)) λc=>bP (intKeys c) λns=>kt ns M Q
 |_=>False
theorem qe:∀{us:Zd}{ms:Zi},IntsAre us ms->aq (ms.map V.int) us
 |_,_,.nil=>.nil
 |_,_,.cons n t r=>.cons ⟨t,rfl⟩ (qe r)
theorem qf:∀{ms:Zi}{us:Zd},aq (ms.map V.int) us->IntsAre us ms
 |[],_,h=>by cases h;exact .nil
 |n::ms,_,h=>by
  cases h with
  |cons r t=>
   obtain⟨tk,rfl⟩:=r;exact .cons n tk (qf t)
section
variable {X:Cx}{H:Hp}
theorem yC{Q:DK}{out:Zl}(I:af X b_ ρ H s)(c:RM X.K M H)(q:kt ns M Q)(k:∀b o,s.heap.get? b=some o->h'.get? b=some o)(hp:s.heap.objs.size<=d)
  (g:h'.get? d=some (seqObj "list" out ep)) (j:IntsAre out.toList ms) (f:ms.Perm ns) (l:ms.Pairwise (·<=·)):EP X b_ ρ (lift X.K H Q) (.ref d) { s with heap:=h',toks:=tk }:=by
 have hf:H d=none:=I.hok.fresh hp;have kk:=Kp.new (o:=.lst (ms.map V.int)) hf;have n:(ms.map V.int).length<=sizeLine:=by
  rw[ZF,f.length_eq];have:(64:Nat)<=sizeLine:=by decide
  have:=q.1
  omega
 exact⟨.ref d,_,I.laid (t':=tk) k hp (show bn X.prog X.w _ h' d (.lst (ms.map V.int)) from⟨n,out.toList,ep,qe j,by simpa [seqObj] using g⟩),rfl,kk,.ref d,_,RV.ref_.2 rfl,c.new (m:=.lst (ms.map .int)) hf ⟨_,aI,q0 (λ_=>RV.int_.2 rfl) ms⟩,q.2 d ms (c.fresh hf) f l⟩
theorem wq(hc:X.calm=true):il X (.builtin "sorted") kH:=by
 intro ds vs H M Q r c h;unfold kH at h;split at h
 .obtain⟨v,rfl,L⟩:=f6 r
  cases RV.ref_.1 L;split at h
  .rename_i xs e1
   obtain⟨ns,f,q⟩:=bv h;obtain⟨us,sq,O⟩:=c.list e1;obtain rfl:=sQ f O;intro b_ s ρ P I g;obtain⟨u,rfl,j⟩:=vals1 g;cases j;obtain⟨d_,J,R,S⟩:=I.list sq;have hl:d_.length=ns.length:=by have:=J.length;simpa using this.symm
   refine sorted_ints (vs:=d_) R.isList (qf J) (by have:=q.1;omega) λout ms p y z=>?_
   obtain⟨e,B⟩:=sortedAll_at s.heap d_ out;exact yC (tk:=s.toks) I c q (λb o e=>sortedAll_old e) (YO _) B p y z
  .obtain⟨f_,e1,h⟩:=bv h
   obtain⟨ns,f,q⟩:=bv h;obtain⟨n_,e3,T,_⟩:=c.dict e1;intro b_ s ρ P I g;obtain⟨u,rfl,j⟩:=vals1 g;cases j;obtain⟨S,hd,xs,U,V⟩:=lS I.hok e3;obtain⟨ep,hm⟩:=V.dictAt;have hk:xs.map (·.1)=ns.map Sum.inl:=by rw[←U.keys,T,si f]
   have hl:xs.length=ns.length:=by have:=congrArg List.length hk;simpa using this
   refine Calls.call_function_entry kind_sorted plain_sorted entry_sorted (args_sorted1 _) ?_;unfold Builtin.«sorted»;refine Yb (m:=checkCount "sorted" 1 1 _) (Yc ?_);refine Yb (yB (A:=X.A.in1) (I.ok.hd hc) hd hm (by have:=q.1;omega) λh' tk g_ W hsz C=>?_);obtain⟨hs,C⟩:=C;have E:g_.toList.length=ns.length:=by rw[←hl,←hs];simp
   have Y:IntsAre g_.toList ns:=Bo E λi v n hv hn=>by
    obtain⟨k,x,hx,hi⟩:=C i v (by rw[←XD];exact hv);have G:k=Sum.inl n:=by
     have:=congrArg (λl=>l[i]?) hk
     simp only[ZG,hx,hn,Option.map_some] at this;cases this;rfl
    subst G;exact ve hi
   refine C7 (s:=s) (A:=X.A) (it:=.none) Y (by have:=q.1;omega) λout ms p y z=>?_
   obtain⟨e,B⟩:=sortedHeap_at (h:=h'.push (seqObj "list" g_.toList.toArray 0)) (a:=h'.objs.size) (vs:=g_.toList) (n:=0) (out:=out) (Yg _ rfl);refine yC I c q (λb o e=>?_) (Nat.le_of_lt hsz) B p y z;have h1:=W b o e;have hb:b<h'.objs.size:=Ye h1;rw[sortedHeap_old (ZU hb) (by rw[Heap.size_push];exact Nat.lt_succ_of_lt hb)];exact Yd _ h1
 .exact Yh h
def gr:az:=λds M Q=>match ds with
 |[.ref a]=>match lU (M a) with
  |some c=>∀p,M p=none->Q (.ref p) (ae M p (.lst (keysOf c)))
  |none=>t9 ds M Q
 |ds=>t9 ds M Q
theorem wt{P:Zw}{w:World}:∀{xs:List (Key×Value)}{us:Zd},us.length=xs.length->(∀(i:Nat) (v:Value) (k:Key) (x:Value),us[i]?=some v->xs[i]?=some (k,x)->(bY P w).is k v=true)->aq (xs.map λp=>kV p.1) us
 |[],[],_,_=>.nil
 |[],_::_,h,_=>by cases h
 |_::_,[],h,_=>by cases h
 |(k,x)::xs,u::us,h,g=>.cons (ve (g 0 u k x rfl rfl)) (wt (by simpa using h) λi v k x a b=>g (i+1) v k x (by simpa using a) (by simpa using b))
theorem Ho(hc:X.calm=true):il X (.type "list") gr:=by
 intro ds vs H M Q r f h;unfold gr at h;split at h
 .rename_i a
  split at h
  .rename_i j e1
   obtain⟨v,rfl,B⟩:=f6 r;cases RV.ref_.1 B;obtain⟨c,e3,C,_⟩:=f.dict e1;intro b_ s ρ T I E;obtain⟨u,rfl,G⟩:=vals1 E;cases G;obtain⟨y,hd,xs,z,J⟩:=lS I.hok e3;obtain⟨ep,hm⟩:=J.dictAt;have l:xs.length=c.length:=z.length.symm;by_cases A:xs.length<=2 ^ 24
   .refine list_dict (I.ok.hd hc) hd hm A λh' tk g_ c' hk L n=>?_
    obtain⟨hs,n⟩:=n;have hv:aq (xs.map λp=>kV p.1) g_.toList:=wt (P:=X.prog) (w:=X.w) (by rw[←hs];simp) λi v k x a b=>by
     obtain⟨k',U,hx,hi⟩:=n i v (by rw[←XD];exact a);rw[b] at hx;cases hx;exact hi
    have O:(xs.map λp=>kV p.1)=c.map λp=>kV p.1:=by
     have:=z.keys
     have g:(c.map (·.1)).map kV=(xs.map (·.1)).map kV:=by rw[this]
     rw[ZM,ZM] at g;exact g.symm
    rw[O] at hv;have hf:H s.heap.objs.size=none:=I.hok.fresh (YG _);have kk:=Kp.new (o:=.lst (c.map λp=>kV p.1)) hf;have R:aj X.K (upd H s.heap.objs.size (.lst (c.map λp=>kV p.1))) (keysOf j) (c.map λp=>kV p.1):=by
     have g:keysOf j=(c.map (·.1)).map kD:=by unfold keysOf;rw[C,ZM];rfl
     have S:(c.map λp=>kV p.1)=(c.map (·.1)).map kV:=by rw[ZM];rfl
     rw[g,S];exact q0 (λk=>IQ k) _
    exact⟨.ref s.heap.objs.size,_,I.laid (t':=tk) hk (YG _) (show bn X.prog X.w _ h' _ (.lst (c.map λp=>kV p.1)) from⟨by rw[ZF];exact y,g_.toList,c',hv,by simpa using L⟩),rfl,kk,.ref _,_,RV.ref_.2 rfl,f.new (m:=.lst (keysOf j)) hf ⟨_,aI,R⟩,h _ (f.fresh hf)⟩
   .exact absurd (by rw[l];rw[sizeLine_eq] at y;omega) A
  .exact Bd _ vs H M Q r f h
 .exact Bd _ vs H M Q r f h
end
end DD
namespace TS
open PySem PyProof.Rows
variable {n k_ i:Nat}{xs ys:Array Keyed}{st:SortSt}{y:Keyed}{a:Addr}
section
variable {prog:Zw}{w:World}{A:Around}{E:Zb}{s:Shared}{kd:SortKind}{R:Keyed->Int}{i':Array Keyed}
def sj(prog:Zw)(w:World)(A:Around)(s:Shared)(kd:SortKind)(R:Keyed->Int)(i':Array Keyed):Prop:=
 ∀x y,x∈i'.toList->y∈i'.toList->∀(Q:Bool->Shared->Prop) (E:Zb),Q (decide (R x<R y)) s->wpAny 'f' A (keyLt' kd x.1 y.1) Q E s
def Ot{x:Keyed}{Q:Option Bool->SortSt->Prop}(b:sj prog w A s kd R i')(hk:kindOf st=kd)(hx:x∈i'.toList)(hy:y∈i'.toList)(h:Q (some (decide (R x<R y))) st):wpS 'f' A E s (lt' x y) Q st:=by
 rw[lt'_eq];refine wpS_bind (wpS_get ?_);rw[hk];refine wpS_bind (wpS_lift (wpAny_attempt (b x y hx hy _ _ ?_)));exact⟨rfl,wpS_pure h⟩
def Bp{Q:Keyed->SortSt->Prop}(h:xs[i]?=some y)(hq:Q y st):wpS 'f' A E s (elem' xs i) Q st:=by
 rw[elem'_eq,h];exact wpS_pure hq
end
structure SG (st l_:SortSt):Prop where
 kind:kindOf l_=kindOf st
 arr:arrOf l_=arrOf st
 pend:pendingOf l_=pendingOf st
 fail:failedOf l_=failedOf st
structure MC (R:Keyed->Int) (i' a b:Array Keyed):Prop where
 sA:a.toList.Pairwise λx y=>R x<=R y
 sB:b.toList.Pairwise λx y=>R x<=R y
 mA:∀x∈a.toList,x∈i'.toList
 mB:∀x∈b.toList,x∈i'.toList
 nA:0<a.size
 nB:0<b.size
abbrev H5:Type:=Option (Array Keyed)×Nat×Nat×Array Keyed×Nat
abbrev H6:Type:=Option (Array Keyed)×Nat×Nat×Array Keyed×Nat×Nat
abbrev H7:Type:=Option (Array Keyed)×Nat×Nat×Array Keyed×Nat×Nat×Nat
def wr(base:Nat)(r:List Keyed)(b:Nat)(xs:Array Keyed):Array Keyed:=(r.zipIdx b).foldl (λa (p,j)=>a.setIfInBounds (base+j) p) xs
def yE(R:Keyed->Int)(xs:Array Keyed)(lo hi:Nat):Prop:=∀i j x y,lo<=i->i<=j->j<hi->xs[i]?=some x->xs[j]?=some y->R x<=R y
structure SB (kd:SortKind) (i':Array Keyed) (st:SortSt):Prop where
 perm:(arrOf st).Perm i'
 kind:kindOf st=kd
 fail:failedOf st=none
section
variable {prog:Zw}{w:World}{A:Around}{E:Zb}{s:Shared}{kd:SortKind}{R:Keyed->Int}{i':Array Keyed}{st:SortSt}
theorem SB.size(h:SB kd i' st):(arrOf st).size=i'.size:=h.perm.size_eq
theorem SB.at(h:SB kd i' st)(hi:i<i'.size):∃x,(arrOf st)[i]?=some x/\x∈i'.toList:=by
 have b:i<(arrOf st).size:=by rw[h.size];exact hi
 exact⟨_,getElem?_pos _ i b,(XX.mp h.perm).mem_iff.mp (by simp)⟩
end
def kk(R:Keyed->Int)(xs:Array Keyed)(i:Nat):Int:=match xs[i]? with
 |some p=>R p
 |none=>0
abbrev N2:Type:=Option (Option Nat)×Nat
abbrev N3:Type:=Option (Option Nat)×Nat×Nat
def asc(lo a k_:Nat):StateT SortSt Sem N2:=forIn [a:k_] ((none,a):N2) λ_ c=>do
 match ←ltAt' (lo+c.2) (lo+c.2-1) with
 |some b=>if b=true then pure (.done (none,c.2)) else pure (.yield (none,c.2+1))
 |_=>pure (.done (some none,c.2))
def IZ (lo n k_:Nat):StateT SortSt Sem (Option Nat):=do
  reverseSlice' lo (lo + n)
  let c ← asc lo n k_
  match c.1 with
  | some r=>pure r
  | none=>pure (some c.2)
def Hq (lo n k_:Nat):StateT SortSt Sem N3:=forIn [n:k_] ((none,n,0):N3) λ_ c=>do
  match ← ltAt' (lo + c.2.1) (lo + c.2.1 - 1) with
  | some b=>
    if b = true then
      if c.2.2 > 0 then do
        reverseSlice' (lo + c.2.1 - (c.2.2 + 1)) (lo + c.2.1)
        pure (.yield (none,c.2.1 + 1,0))
      else pure (.yield (none,c.2.1 + 1,0))
    else do
      match ← ltAt' (lo + c.2.1 - 1) (lo + c.2.1) with
      | some b=>if b = true then pure (.done (none,c.2.1,c.2.2)) else pure (.yield (none,c.2.1 + 1,c.2.2 + 1))
      | _=>pure (.done (some none,c.2.1,c.2.2))
  | _=>pure (.done (some none,c.2.1,c.2.2))
def Ja (lo n k_:Nat):StateT SortSt Sem (Option Nat):=do
  liftM (rule "list.sort.descending-run")
  let c ← Hq lo (n + 1) k_
  match c.1 with
  | some r=>pure r
  | none=>
    if c.2.2 > 0 then do
      reverseSlice' (lo + c.2.1 - (c.2.2 + 1)) (lo + c.2.1)
      IZ lo c.2.1 k_
    else IZ lo c.2.1 k_
def yF (lo k_:Nat):countRun' lo k_ = (do
  let c ← asc lo 1 k_
  match c.1 with
  | some r=>pure r
  | none=>
    if (c.2 == k_) = true then pure (some c.2)
    else if c.2 > 1 then do
      match ← ltAt' lo (lo + c.2 - 1) with
      | some b=>if b = true then pure (some c.2) else do
          reverseSlice' lo (lo + c.2)
          Ja lo c.2 k_
      | _=>pure none
    else Ja lo c.2 k_):=by kernel_rfl
structure io (kd:SortKind) (i':Array Keyed) (w_:SortSt) (lo hi:Nat) (st:SortSt):Prop extends SB kd i' st where
 pend:pendingOf st=pendingOf w_
 out:∀k,k<lo\/hi<=k->(arrOf st)[k]?=(arrOf w_)[k]?
section
variable {prog:Zw}{w:World}{A:Around}{E:Zb}{s:Shared}{kd:SortKind}{R:Keyed->Int}{i':Array Keyed}{st w_:SortSt}{lo hi:Nat}
theorem io.set(h:io kd i' w_ lo hi st)(hp:xs.Perm (arrOf st))(b:∀k,k<lo\/hi<=k->xs[k]?=(arrOf st)[k]?):io kd i' w_ lo hi (setArr st xs):=
 ⟨⟨hp.trans h.perm,h.kind,h.fail⟩,h.pend,λk hk=>(b k hk).trans (h.out k hk)⟩
theorem io.rev(h:io kd i' w_ lo hi st){j:Nat}(h1:lo<=i)(b:j<=hi)(c:hi<=i'.size):io kd i' w_ lo hi (setArr st (mirror (arrOf st) i j ((j-i) / 2))):=
 h.set (mirror_perm _ _ _ _) λk hk=>by rw[getElem?_mirror_all (by rw[h.toSB.size];omega),if_neg 'a']
def ui{Q:Unit->SortSt->Prop}(h:Q () (setArr st (mirror (arrOf st) i n ((n-i) / 2)))):wpS 'f' A E s (reverseSlice' i n) Q st:=by
 rw[reverseSlice'_eq];exact wpS_modify h
def wp_at(g:sj prog w A s kd R i')(b:SB kd i' st){Q:Option Bool->SortSt->Prop}(hi:i<i'.size)(j:n<i'.size)(h:Q (some (decide (kk R (arrOf st) i<kk R (arrOf st) n))) st):wpS 'f' A E s (ltAt' i n) Q st:=by
 obtain⟨x,c,k⟩:=b.at hi;obtain⟨y,f,l⟩:=b.at j;unfold kk at h;rw[c,f] at h;rw[ltAt'_eq];exact wpS_bind (wpS_get (wpS_bind (Bp c (wpS_bind (Bp f (Ot g b.kind k l h))))))
def uj(h:xs[i]?=ys[n]?):kk R xs i=kk R ys n:=by unfold kk;rw[h]
def yG(b:n<=xs.size)(k:Nat):kk R (mirror xs i n ((n-i) / 2)) k=if i<=k/\k<n then kk R xs (i+n-1-k) else kk R xs k:=by
 have e:=getElem?_mirror_all (i:=i) b k;by_cases c:i<=k/\k<n
 .rw[if_pos c] at e ⊢;exact uj e
 .rw[if_neg c] at e ⊢;exact uj e
theorem kI(c:n<=xs.size)(b:∀k,i<=k->k<n->kk R xs k=kk R xs (n-1))(k:Nat):kk R (mirror xs i n ((n-i) / 2)) k=kk R xs k:=by
 rw[yG c];split
 .rw[b _ 'a' 'a',b k 'a' 'a']
 .rfl
def Up(R:Keyed->Int)(xs:Array Keyed)(lo n:Nat):Prop:=∀i j,i<=j->j<n->kk R xs (lo+i)<=kk R xs (lo+j)
def Dn(R:Keyed->Int)(xs:Array Keyed)(lo n:Nat):Prop:=∀i j,i<=j->j<n->kk R xs (lo+j)<=kk R xs (lo+i)
theorem Up.srt(h:Up R xs lo n):yE R xs lo (lo+n):=λi j x y h1 b c hx hy=>by
 have:=h (i-lo) (j-lo) 'a' 'a'
 rw[show lo+(i-lo)=i by omega,show lo+(j-lo)=j by omega] at this;unfold kk at this;rw[hx,hy] at this;exact this
theorem Up.more(h:Up R xs lo n)(h1:n=0\/kk R xs (lo+n-1)<=kk R xs (lo+n)):Up R xs lo (n+1):=by
 intro i j b g;by_cases c:j<n
 .exact h i j b c
 .obtain rfl:j=n:=by omega
  by_cases f:i=j
  .subst f;exact XY _
  .have:=h i (j-1) 'a' 'a'
   rw[show lo+(j-1)=lo+j-1 by omega] at this;exact Int.le_trans this (h1.resolve_left 'a')
theorem Dn.more(h:Dn R xs lo n)(h1:n=0\/kk R xs (lo+n)<=kk R xs (lo+n-1)):Dn R xs lo (n+1):=by
 intro i j b g;by_cases c:j<n
 .exact h i j b c
 .obtain rfl:j=n:=by omega
  by_cases f:i=j
  .subst f;exact XY _
  .have:=h i (j-1) 'a' 'a'
   rw[show lo+(j-1)=lo+j-1 by omega] at this;exact Int.le_trans (h1.resolve_left 'a') this
theorem EU(g:sj prog w A s kd R i')(j:SB kd i' st){Q:N2->SortSt->Prop}(hn:lo+k_<=i'.size)(ha:1<=n)(f:n<=k_)(hs:Up R (arrOf st) lo n)
  (h:∀a,n<=a->a<=k_->Up R (arrOf st) lo a->(a=k_\/kk R (arrOf st) (lo+a)<kk R (arrOf st) (lo+a-1))->Q (none,a) st):wpS 'f' A E s (asc lo n k_) Q st:=by
 unfold asc;refine wpS_forRange (I:=λx c l_=>l_=st/\c=(none,x)/\Up R (arrOf st) lo x) ?step ?fin ⟨rfl,rfl,hs⟩
 case fin=>
  rintro c l_ ⟨rfl,rfl,b⟩;rw[show max n k_=k_ by omega] at b ⊢;exact h k_ f (YG _) b (.inl rfl)
 case step=>
  rintro x c l_ k l ⟨rfl,rfl,b⟩;dsimp only;refine wpS_bind (wp_at g j 'a' 'a' ?_);by_cases c:kk R (arrOf l_) (lo+x)<kk R (arrOf l_) (lo+x-1)
  .rw[YW c]
   exact wpS_pure (h x k 'a' b (.inr c))
  .rw[ZQ c]
   exact wpS_pure ⟨rfl,rfl,b.more (.inr (Int.not_lt.1 c))⟩
theorem EV(g:sj prog w A s kd R i'){Q:Option Nat->SortSt->Prop}(b:io kd i' w_ lo (lo+k_) st)(hn:lo+k_<=i'.size)(h1:1<=n)(k:n<=k_)(hs:Dn R (arrOf st) lo n)
  (h:∀m l_,io kd i' w_ lo (lo+k_) l_->1<=m->m<=k_->Up R (arrOf l_) lo m->Q (some m) l_):wpS 'f' A E s (IZ lo n k_) Q st:=by
 unfold IZ;have c:lo+n<=(arrOf st).size:=by rw[b.toSB.size];omega
 have f:=b.rev (i:=lo) (j:=lo+n) (YG _) 'a' hn;refine wpS_bind (ui (wpS_bind (EU g f.toSB hn h1 k ?_ λm p l o _=>wpS_pure (h m _ f 'a' l o))));intro i j r t;show kk R (mirror (arrOf st) lo (lo+n) ((lo+n-lo) / 2)) _<=kk R (mirror (arrOf st) lo (lo+n) ((lo+n-lo) / 2)) _;rw[yG c,yG c,if_pos 'a',if_pos 'a']
 have:=hs (n-1-j) (n-1-i) 'a' 'a'
 rw[show lo+(n-1-j)=lo+(lo+n)-1-(lo+j) by omega,show lo+(n-1-i)=lo+(lo+n)-1-(lo+i) by omega] at this;exact this
theorem Ky(p:sj prog w A s kd R i'){Q:N3->SortSt->Prop}(z:io kd i' w_ lo (lo+k_) st)(hn:lo+k_<=i'.size)(h1:1<=n)(B:n<=k_)(hs:Dn R (arrOf st) lo n)
  (h:∀m b l_,io kd i' w_ lo (lo+k_) l_->n<=m->m<=k_->Dn R (arrOf l_) lo m->b+1<=m->(∀k,lo+m-(b+1)<=k->k<lo+m->kk R (arrOf l_) k=kk R (arrOf l_) (lo+m-1))->Q (none,m,b) l_):wpS 'f' A E s (Hq lo n k_) Q st:=by
 unfold Hq;refine wpS_forRange (I:=λx c l_=>∃b,c=(none,x,b)/\io kd i' w_ lo (lo+k_) l_/\Dn R (arrOf l_) lo x/\b+1<=x/\(∀k,lo+x-(b+1)<=k->k<lo+x->kk R (arrOf l_) k=kk R (arrOf l_) (lo+x-1))) ?step ?fin ⟨0,rfl,z,hs,by omega,λk h1 o=>by congr 1;omega⟩
 case fin=>
  rintro c l_ ⟨b,rfl,f,l,hq,g⟩;rw[show max n k_=k_ by omega] at l hq g ⊢;exact h k_ b l_ f B (YG _) l hq g
 case step=>
  rintro x c l_ C L ⟨b,rfl,f,l,hq,g⟩;dsimp only;have r:lo+x<=(arrOf l_).size:=by rw[f.toSB.size];omega
  refine wpS_bind (wp_at p f.toSB 'a' 'a' ?_);by_cases c:kk R (arrOf l_) (lo+x)<kk R (arrOf l_) (lo+x-1)
  .rw[YW c]
   dsimp only;rw[if_pos rfl];have go:=l.more (.inr (Int.le_of_lt c));by_cases t:b>0
   .rw[if_pos t]
    refine wpS_bind (ui (wpS_pure ⟨0,rfl,f.rev 'a' 'a' hn,λi j G J=>?_,by omega,λk h1 o=>by congr 1;omega⟩));show kk R (mirror (arrOf l_) _ _ _) _<=kk R (mirror (arrOf l_) _ _ _) _;rw[kI r g,kI r g];exact go i j G J
   .rw[if_neg t]
    exact wpS_pure ⟨0,rfl,f,go,by omega,λk h1 o=>by congr 1;omega⟩
  .rw[ZQ c]
   dsimp only;rw[if_neg 'b'];refine wpS_bind (wp_at p f.toSB 'a' 'a' ?_);by_cases u:kk R (arrOf l_) (lo+x-1)<kk R (arrOf l_) (lo+x)
   .rw[YW u]
    exact wpS_pure (h x b l_ f C 'a' l hq g)
   .rw[ZQ u]
    have hx:kk R (arrOf l_) (lo+x)=kk R (arrOf l_) (lo+x-1):=by omega
    refine wpS_pure ⟨b+1,rfl,f,l.more (.inr 'a'),by omega,λk h1 o=>?_⟩;rw[show lo+(x+1)-1=lo+x by omega];by_cases K:k=lo+x
    .rw[K]
    .rw[hx];exact g k 'a' 'a'
theorem EW(b:sj prog w A s kd R i'){Q:Option Nat->SortSt->Prop}(p:io kd i' w_ lo (lo+k_) st)(hn:lo+k_<=i'.size)(r:n+1<=k_)(hs:Dn R (arrOf st) lo (n+1))
  (h:∀m l_,io kd i' w_ lo (lo+k_) l_->1<=m->m<=k_->Up R (arrOf l_) lo m->Q (some m) l_):wpS 'f' A E s (Ja lo n k_) Q st:=by
 unfold Ja;refine wpS_bind (wpS_lift (wpAny_rule ⟨rfl,?_⟩));refine wpS_bind (Ky b p hn 'a' r hs λm t l_ c B f g hq k=>?_);dsimp only;have l:lo+m<=(arrOf l_).size:=by rw[c.toSB.size];omega
 by_cases o:t>0
 .rw[if_pos o]
  refine wpS_bind (ui (EV b (c.rev 'a' 'a' hn) hn 'a' f (λi j u z=>?_) h));show kk R (mirror (arrOf l_) _ _ _) _<=kk R (mirror (arrOf l_) _ _ _) _;rw[kI l k,kI l k];exact g i j u z
 .rw[if_neg o]
  exact EV b c hn 'a' f g h
theorem z5(b:sj prog w A s kd R i'){Q:Option Nat->SortSt->Prop}(f:SB kd i' st)(hn:lo+k_<=i'.size)(h1:1<=k_)
  (h:∀m l_,io kd i' st lo (lo+k_) l_->1<=m->m<=k_->Up R (arrOf l_) lo m->Q (some m) l_):wpS 'f' A E s (countRun' lo k_) Q st:=by
 have g:io kd i' st lo (lo+k_) st:=⟨f,rfl,λ_ _=>rfl⟩;rw[yF];refine wpS_bind (EU b f hn (YG 1) h1 (λi j l o=>by cases(show i=j by omega);exact XY _) λn B C p t=>?_);dsimp only;by_cases u:n=k_
 .rw[if_pos (beq_iff_eq.2 u)]
  exact wpS_pure (h n st g B C p)
 .rw[if_neg (λz=>u (beq_iff_eq.1 z))]
  have G:=t.resolve_left u;have I:lo+n<=(arrOf st).size:=by rw[f.size];omega
  by_cases J:n>1
  .rw[if_pos J]
   refine wpS_bind (wp_at b f 'a' 'a' ?_);by_cases c:kk R (arrOf st) lo<kk R (arrOf st) (lo+n-1)
   .rw[YW c]
    exact wpS_pure (h n st g B C p)
   .rw[ZQ c]
    dsimp only;rw[if_neg 'b'];have r:∀k,lo<=k->k<lo+n->kk R (arrOf st) k=kk R (arrOf st) (lo+n-1):=by
     intro k P S;have K:=p 0 (k-lo) 'a' 'a';have L:=p (k-lo) (n-1) 'a' 'a';rw[show lo+(k-lo)=k by omega] at K L;rw[show lo+(n-1)=lo+n-1 by omega] at L;rw[Nat.add_zero] at K;omega
    refine wpS_bind (ui (EW b (g.rev 'a' 'a' hn) hn 'a' ?_ h));have O:Dn R (arrOf st) lo (n+1):=by
     refine Dn.more (λi j l o=>?_) (.inr (Int.le_of_lt G));rw[r (lo+i) 'a' 'a',r (lo+j) 'a' 'a'];exact XY _
    intro i j l o;show kk R (mirror (arrOf st) _ _ _) _<=kk R (mirror (arrOf st) _ _ _) _;rw[kI I r,kI I r];exact O i j l o
  .rw[if_neg J]
   obtain rfl:n=1:=by omega
   refine EW b g hn 'a' (Dn.more (λi j l o=>?_) (.inr (Int.le_of_lt G))) h;obtain rfl:i=j:=by omega
   exact XY _
def EX(hs:n<xs.size)(hd:i<=n)(k:Nat):kk R (bubble xs n i) k=if k=n-i then kk R xs n else if n-i<k/\k<=n then kk R xs (k-1) else kk R xs k:=by
 have e:=getElem?_bubble hs i hd k;by_cases b:k=n-i
 .rw[if_pos b] at e ⊢;exact uj e
 .rw[if_neg b] at e ⊢
  by_cases c:n-i<k/\k<=n
  .rw[if_pos c] at e ⊢;exact uj e
  .rw[if_neg c] at e ⊢;exact uj e
theorem xb (K:sj prog w A s kd R i') {ok:Nat} {Q:Bool->SortSt->Prop} (L:io kd i' w_ lo (lo + k_) st) (U:n<=k_) (hn:lo + k_<=i'.size) (hok:ok<=n) (hs:Up R (arrOf st) lo ok)
    (h:∀ l_,io kd i' w_ lo (lo + k_) l_->Up R (arrOf l_) lo n->Q true l_):wpS 'f' A E s (binarySort' lo n ok) Q st:=by
  rw [binarySort'_eq]
  refine wpS_bind (wpS_mono (wpS_forRange (I:=λk c l_=>c = (none,())/\io kd i' w_ lo (lo + k_) l_/\Up R (arrOf l_) lo (min k n))
    (Q:=λc l_=>c = (none,())/\io kd i' w_ lo (lo + k_) l_/\Up R (arrOf l_) lo n) ?step ?fin ?init) ?post)
  case post=>
    rintro c l_ ⟨rfl,g,f⟩
    exact wpS_pure (h l_ g f)
  case init=>
    refine ⟨rfl,L,λi j C O=>?_⟩
    by_cases c:ok = 0
    . obtain rfl:i = j:=by omega
      exact XY _
    . exact hs i j C 'a'
  case fin=>
    rintro c l_ ⟨hc,g,f⟩
    refine ⟨hc,g,?_⟩
    rwa [show min (max (max ok 1) n) n = n by omega] at f
  case step=>
    rintro k c l_ P S ⟨rfl,g,f⟩
    rw [show min k n = k by omega] at f
    refine wpS_bind (wpS_mono (wpS_forRange (I:=λx c b=>b = l_/\∃ l r,c = (none,l,r)/\l<=r/\r<=k/\r - l<=k - x/\(∀ i,i < l->kk R (arrOf l_) (lo + i)<=kk R (arrOf l_) (lo + k))/\(∀ i,r<=i->i < k->kk R (arrOf l_) (lo + k) < kk R (arrOf l_) (lo + i)))
      (Q:=λc b=>b = l_/\∃ l r,c = (none,l,r)/\l<=k/\(∀ i,i < l->kk R (arrOf l_) (lo + i)<=kk R (arrOf l_) (lo + k))/\(∀ i,l<=i->i < k->kk R (arrOf l_) (lo + k) < kk R (arrOf l_) (lo + i))) ?istep ?ifin ?iinit) ?ipost)
    case iinit=>exact ⟨rfl,0,k,rfl,by omega,by omega,by omega,λi hi=>by omega,λi h1 G=>by omega⟩
    case ifin=>
      rintro c b ⟨rfl,l,r,rfl,J,o,t,u,z⟩
      obtain rfl:l = r:=by omega
      exact ⟨rfl,l,l,rfl,o,u,z⟩
    case istep=>
      rintro x c b _ T ⟨rfl,l,r,rfl,J,o,t,u,z⟩
      dsimp only
      by_cases p:l >= r
      . rw [if_pos p]
        obtain rfl:l = r:=by omega
        exact wpS_pure ⟨rfl,l,l,rfl,o,u,z⟩
      . rw [if_neg p]
        refine wpS_bind (wp_at K g.toSB 'a' 'a' ?_)
        by_cases c:kk R (arrOf b) (lo + k) < kk R (arrOf b) (lo + (l + r) / 2)
        . rw [YW c]
          exact wpS_pure ⟨rfl,l,(l + r) / 2,rfl,by omega,by omega,by omega,u,λi h1 G=>Int.lt_of_lt_of_le c (f _ _ h1 G)⟩
        . rw [ZQ c]
          exact wpS_pure ⟨rfl,(l + r) / 2 + 1,r,rfl,by omega,by omega,by omega,λi h1=>Int.le_trans (f i ((l + r) / 2) 'a' 'a') (Int.not_lt.mp c),z⟩
    case ipost=>
      rintro c b ⟨rfl,l,r,rfl,J,o,t⟩
      show wpS _ _ _ _ (do moveDown' (lo + k) (lo + l); pure (ForInStep.yield (none,()))) _ _
      rw [moveDown'_eq]
      have B:lo + k < (arrOf b).size:=by rw [g.toSB.size]; omega
      refine wpS_bind (wpS_modify (wpS_pure ⟨rfl,g.set (bubble_perm _ _ _) λm hm=>?_,?_⟩))
      . rw [getElem?_bubble B _ 'a',if_neg 'a',if_neg 'a']
      . rw [show min (k + 1) n = k + 1 by omega]
        intro i j C O
        show kk R (bubble (arrOf b) (lo + k) (lo + k - (lo + l))) (lo + i)<=kk R (bubble (arrOf b) (lo + k) (lo + k - (lo + l))) (lo + j)
        rw [EX B 'a',EX B 'a',show lo + k - (lo + k - (lo + l)) = lo + l by omega]
        repeat' split
        all_goals first
          | (exfalso; omega)
          | exact XY _
          | exact o _ 'a'
          | (rw [show lo + j - 1 = lo + (j - 1) by omega]; exact Int.le_of_lt (t _ 'a' 'a'))
          | exact Int.le_of_lt (t _ 'a' 'a')
          | (rw [show lo + i - 1 = lo + (i - 1) by omega,show lo + j - 1 = lo + (j - 1) by omega]; exact f _ _ 'a' 'a')
          | (rw [show lo + j - 1 = lo + (j - 1) by omega]; exact f _ _ 'a' 'a')
          | exact f _ _ 'a' 'a'
end
section
variable {prog:Zw}{w:World}{A:Around}{E:Zb}{s:Shared}
theorem Hr  {P:Fin->Shared->Prop}   (g:s.heap.get? a = some (seqObj "list" #[] n)) (hf:failedOf st = none) (c:(arrOf st).size<=4000) (h:P (.done (.ret .none)) { s with heap:=s.heap.update a (Obj.mapSeq λ_=>(arrOf st).map (·.2)) }) :
    wpAny 'f' A (do
      let b:=(← seqEpoch a) != n
      Builtin.List.listUpdate (.ref a) λ_=>(arrOf st).map (·.2)
      if let some n:=failedOf st then rule "list.sort.comparison-raised"; throw n
      if b then rule "list.sort.modified"; raiseError "ValueError" "list modified during sort"
      ret .none) P E s:=by
  refine Yb (seqEpoch_at g rfl (Yb (listUpdate_at g rfl ?_ (hsz2:=by rw [Array.size_map,sizeLine_eq]; omega))))
  rw [hf,bne_self_eq_false]
  exact Yc h
end
abbrev U1:Type:=Option Unit×Unit
abbrev UN:Type:=Option Unit×Nat
def rM (c:Nat):StateT SortSt Sem (ForInStep U1):=do
  let s ← get
  match (if (pendingOf s).size > 1 then (pendingOf s)[(pendingOf s).size - 2]? else none) with
  | some (_,_,f)=>
    if f<=c then pure (.done (none,()))
    else do
      let b ← mergeAt' ((pendingOf s).size - 2)
      if (!b) = true then pure (.done (some (),())) else pure (.yield (none,()))
  | _=>pure (.done (none,()))
def rL(lo n:Nat):StateT SortSt Sem (ForInStep UN):=do
 modify λs=>setPending s ((pendingOf s).push (lo,n,0))
 pure (.yield (none,lo+n))
def rP (size lo n:Nat):StateT SortSt Sem (ForInStep UN):=do
  let s ← get
  match (pendingOf s).back? with
  | some (s1,b,_)=>do
    let c ← forIn [0:size] ((none,()):U1) λ_ _=>rM (power' size (2 * s1 + b) (2 * s1 + b + b + n) size)
    match c.1 with
    | some r=>pure (.done (some r,lo))
    | none=>do
      modify λs=>setPending s ((pendingOf s).modify ((pendingOf s).size - 1) λ(st,len,_)=>(st,len,power' size (2 * s1 + b) (2 * s1 + b + b + n) size))
      rL lo n
  | _=>rL lo n
def rB (size f lo:Nat):StateT SortSt Sem (ForInStep UN):=
  if lo >= size then pure (.done (none,lo))
  else do
    match ← countRun' lo (size - lo) with
    | some c=>
      if c < f then do
        liftM (rule "list.sort.binary-insertion")
        let b ← binarySort' lo (min (size - lo) f) c
        if (!b) = true then pure (.done (some (),lo)) else rP size lo (min (size - lo) f)
      else rP size lo c
    | _=>pure (.done (some (),lo))
def rF:StateT SortSt Sem (ForInStep U1):=do
  let s ← get
  if (pendingOf s).size<=1 then pure (.done (none,()))
  else do
    let b ← mergeAt' (if (if (pendingOf s).size - 2 > 0 then (pendingOf s)[(pendingOf s).size - 2 - 1]?.map (·.2.1) else none).any (· < ((pendingOf s)[(pendingOf s).size - 2 + 1]?.elim 0 (·.2.1))) = true then (pendingOf s).size - 2 - 1 else (pendingOf s).size - 2)
    if (!b) = true then pure (.done (some (),())) else pure (.yield (none,()))
def yH:sortRuns' = (do
  let s ← get
  let c ← forIn [0:(arrOf s).size] ((none,0):UN) λ_ c=>rB (arrOf s).size (minRun' (arrOf s).size (arrOf s).size 0) c.2
  match c.1 with
  | some r=>pure r
  | none=>do
    let c ← forIn [0:(arrOf s).size] ((none,()):U1) λ_ _=>rF
    match c.1 with
    | some r=>pure r
    | none=>pure ()):=by kernel_rfl
def C9:∀n,n<64->minRun' n n 0=n:=by rfl'
section
variable {prog:Zw}{w:World}{A:Around}{E:Zb}{s:Shared}{kd:SortKind}{R:Keyed->Int}{i':Array Keyed}{st:SortSt}
def EY{Q:ForInStep UN->SortSt->Prop}(hp:pendingOf st = #[])(h:Q (.yield (none,i+n)) (setPending st #[(i,n,0)])):wpS 'f' A E s (rP k_ i n) Q st:=by
 unfold rP;refine wpS_bind (wpS_get ?_);rw[hp];refine wpS_bind (wpS_modify (wpS_pure ?_));rw[hp];exact h
theorem yI(p:sj prog w A s kd R i')(l:SB kd i' st)(hp:pendingOf st = #[])(t:i'.size<64){Q:Unit->SortSt->Prop}(h:∀l_,(arrOf l_).Perm i'->failedOf l_=none->yE R (arrOf l_) 0 i'.size->Q () l_):wpS 'f' A E s sortRuns' Q st:=by
 rw[yH];refine wpS_bind (wpS_get ?_);rw[l.size,C9 _ t];refine wpS_bind (wpS_mono (wpS_forRange (I:=λx c l_=>(x=0/\c=(none,0)/\l_=st)\/(c=(none,i'.size)/\SB kd i' l_/\(pendingOf l_).size<=1/\yE R (arrOf l_) 0 i'.size)) (Q:=λc l_=>c.1=none/\SB kd i' l_/\(pendingOf l_).size<=1/\yE R (arrOf l_) 0 i'.size) ?step ?fin (.inl ⟨rfl,rfl,rfl⟩)) ?post)
 case fin=>
  rintro c l_ (⟨h1,rfl,rfl⟩ | ⟨rfl,z⟩)
  .exact⟨rfl,l,by rw[hp];decide,λi j x y _ a b=>by omega⟩
  .exact⟨rfl,z⟩
 case step=>
  rintro x c l_ _ hx z;unfold rB;rcases z with⟨rfl,rfl,rfl⟩ | ⟨rfl,z⟩
  .rw[if_neg 'a']
   refine wpS_bind (z5 p l 'a' 'a' λm f g C G up=>?_);dsimp only;by_cases y:m<i'.size
   .rw[if_pos y]
    refine wpS_bind (wpS_lift (wpAny_rule ⟨rfl,?_⟩));refine wpS_bind (xb p g 'a' 'a' 'a' up λJ k o=>?_);rw[show min (i'.size-0) i'.size=i'.size by omega] at *;have q:=o.srt;rw[XZ] at q;exact EY (k.pend.trans hp) (.inr ⟨by rw[XZ],⟨k.perm,k.kind,k.fail⟩,YG _,q⟩)
   .rw[if_neg y]
    obtain rfl:m=i'.size:=by omega
    have q:=up.srt;rw[XZ] at q;exact EY (g.pend.trans hp) (.inr ⟨by rw[XZ],⟨g.perm,g.kind,g.fail⟩,YG _,q⟩)
  .rw[if_pos (YG _)]
   exact wpS_pure ⟨rfl,z⟩
 case post=>
  rintro c l_ ⟨e,r,u,B⟩;rw[e];dsimp only;refine wpS_bind (wpS_mono (wpS_forRange (I:=λ_ c f=>c=(none,())/\f=l_) (Q:=λc f=>c=(none,())/\f=l_) ?f (λ_ _ z=>z) ⟨rfl,rfl⟩) ?po2)
  case f=>
   rintro x c f _ _ ⟨rfl,rfl⟩;unfold rF;refine wpS_bind (wpS_get ?_);rw[if_pos u];exact wpS_pure ⟨rfl,rfl⟩
  case po2=>
   rintro c f ⟨rfl,rfl⟩;exact wpS_pure (h _ r.perm r.fail B)
end
section
variable {prog:Zw}{w:World}{A:Around}{E:Zb}{s:Shared}
def Jb(a:Addr)(h h':Heap):Prop:=∀b o,b≠a->h.get? b=some o->h'.get? b=some o
theorem yJ{R:Keyed->Int}{kd:SortKind}{vs:Zd}{P:Fin->Shared->Prop}(g:s.heap.get? a=some (seqObj "list" vs.toArray n))(t:∀h',Jb a s.heap h'->sj prog w A { s with heap:=h' } kd R (pairsOf vs))
  (hk:2<=vs.length->∀h',Jb a s.heap h'->∀Q:SortKind->Shared->Prop,Q kd { s with heap:=h' }->wpAny 'f' A (keyKind' vs.toArray) Q E { s with heap:=h' }) (C:vs.length<=63)
  (h:∀xs:Array Keyed,xs.Perm (pairsOf vs)->yE R xs 0 (pairsOf vs).size->P (.done (.ret .none)) { s with heap:=sortedHeap s.heap a vs (xs.map (·.2)) }):wpAny 'f' A (Builtin.«list.sort» ⟨[.ref a],[]⟩) P E s:=by
 have z:vs.toArray.size=vs.length:=by simp
 have G:=pairsOf_size vs;rw[list_sort_plain];refine Yb (listItems_at g rfl (Yb (listUpdate_at g rfl ?_ (hsz:=by rw[z,sizeLine_eq];omega))));have k:=get?_update_seq g (λ_=>#[]);generalize (if(#[]:Array Value).size==vs.toArray.size then n else n+1)=e at k;refine Yb (seqEpoch_at k rfl (Yb (wpAny_newTuple (Yb (wpAny_newList (Yj ?_))))));have u:(((s.heap.update a (Obj.mapSeq λ_=>#[])).push (seqObj "tuple" vs.toArray 0)).push (seqObj "list" #[] 0)).get? a=some (seqObj "list" #[] e):=Yd _ (Yd _ k);have l:Jb a s.heap (((s.heap.update a (Obj.mapSeq λ_=>#[])).push (seqObj "tuple" vs.toArray 0)).push (seqObj "list" #[] 0)):=λb o hb B=>Yd _ (Yd _ ((Heap.get?_update_other _ _ (Ne.symm hb)).trans B))
 have fin:=λ(st:SortSt) (p:(arrOf st).Perm (pairsOf vs)) (f:failedOf st=none) (q:yE R (arrOf st) 0 (pairsOf vs).size)=>Hr (prog:=prog) (w:=w) (A:=A) (E:=E) (s:={ s with heap:=((s.heap.update a (Obj.mapSeq λ_=>#[])).push (seqObj "tuple" vs.toArray 0)).push (seqObj "list" #[] 0) }) u f (by rw[p.size_eq];omega) (h _ p q)
 by_cases c:vs.toArray.size<2
 .rw[if_pos c,if_pos c]
  refine Yb (Yc ?_);dsimp only;rw[StateT.run_pure];refine Yb (Yc (fin _ (Array.Perm.refl _) rfl λi j x y _ I J h1 m=>?_));obtain rfl:i=j:=by omega
  rw[h1] at m;cases m;exact XY _
 .rw[if_neg c,if_neg c]
  refine Yb (hk 'a' _ l _ (Yb (wpAny_mono (yI (t _ l) ⟨Array.Perm.refl _,rfl,rfl⟩ rfl 'a' (Q:=λ_ st=>(arrOf st).Perm (pairsOf vs)/\failedOf st=none/\yE R (arrOf st) 0 (pairsOf vs).size) λst p f q=>⟨p,f,q⟩) ?_ λ_ _ e=>e)));intro r K hr;obtain⟨rfl,p,f,q⟩:=hr;exact fin r.2 p f q
def Kz{f g:Type}{F:f->g->Prop}{m j:List g}(h:j.Perm m):∀{l:List f},Paired F l m->∃b,b.Perm l/\Paired F b j:=by
 induction h with
 |nil=>intro l hl;cases hl;exact⟨[],.refl _,.nil⟩
 |cons x h o=>
  intro l hl;cases hl with
  |cons r t=>
   obtain⟨b,p,q⟩:=o t;exact⟨_::b,p.cons _,.cons r q⟩
 |swap x y k=>
  intro l hl;cases hl with
  |cons r t=>cases t with
   |cons u t=>exact⟨_,.swap _ _ _,.cons u (.cons r t)⟩
 |trans h1 I c z=>
  intro l hl;obtain⟨J,p1,B⟩:=z hl;obtain⟨C,p2,G⟩:=c B;exact⟨C,p2.trans p1,G⟩
theorem yK{f c:Type}{F:f->c->Prop}:∀{l:List f}{m:List c}{b:c},Paired F l m->b∈m->∃a∈l,F a b
 |_,_,_,.nil,h=>nomatch h
 |_,_,_,.cons r t,h=>by
  rcases YB.mp h with rfl | h
  .exact⟨_,ZZ,r⟩
  .obtain⟨a,h1,g⟩:=yK t h
   exact⟨a,.tail _ h1,g⟩
theorem vp{c f:Type}{F:c->f->Prop}:∀{l:List c}{m:List f}{i:Nat}{a:c},Paired F l m->l[i]?=some a->∃b,m[i]?=some b/\F a b
 |_,_,_,_,.nil,e=>by simp at e
 |_,_,0,_,.cons r _,e=>by simp at e;subst e;exact⟨_,rfl,r⟩
 |_,_,i+1,a,.cons _ t,e=>by
  obtain⟨b,h1,g⟩:=vp (i:=i) (a:=a) t (by simpa using e);exact⟨b,by simpa using h1,g⟩
def pairsOf_toList(vs:Zd):(pairsOf vs).toList=vs.map λv=>(v,v):=by
 unfold pairsOf;rw[Array.toList_zip];show vs.zip vs=_;induction vs with
 |nil=>rfl
 |cons v vs b=>simp[b]
end
end TS
namespace DD
open PySem PySem.Spec PyProof.Rows L2
variable {a b:Addr}{y:Bool}{Q:Zb}{K:Za}{h h':Heap}{v o i:V}{P:Zw}{ti to:WE}{d:D}
section
variable {X:Cx}{H:Hp}
theorem Bq{c f:Type}:∀{l:List c}{m:List f},l.length=m.length->(l.zip m).map (·.1)=l
 |[],[],_=>rfl
 |[],_::_,h=>by cases h
 |_::_,[],h=>by cases h
 |a::l,b::m,h=>by rw[List.zip_cons_cons,YL,Bq (by simpa using h)]
end
def Nj(k:Int):Value->Bool
 |.int i _=>decide (i=k)
 |.bool b=>decide (b2i b=k)
 |_=>false
def ip{k:Int}{v:Value}(h:Nj k v=true):(∃t,v=.int k t) \/ ∃b,v=.bool b/\b2i b=k:=by
 cases v with
 |int i t=>exact .inl ⟨t,by rw[show i=k from XR h]⟩
 |bool b=>exact .inr ⟨b,rfl,XR h⟩
 |_=>cases h
def z7{w:World}{A:Around}{s:Shared}{prog:Int->Shared->Prop}(h:prog (hashInt (b2i y)) { s with toks:=s.toks+1 }):
  wpAny (model P w) A (PySem.pyHash (.bool y)) prog Q s:=by
 have c:s.TypeIs (.bool y) "bool":=rfl;have hr:=rawHash_range (b2i y);unfold PySem.pyHash;have hv:[Value.bool y].any Value.onHeap=false:=rfl;refine Yb ?_;rw[cRoomFor,if_neg (by rw[hv];exact YF)];refine Yc ?_;refine Yb (wpAny_specialOf c F.slot_bool_hash.lookup ?_);show wpAny _ _ (if(some (Value.builtin "int.__hash__")==some Value.none)=true then _ else _) prog Q s;rw[if_neg (by rw[beq_builtin_none];exact YF)];refine Yb (wpAny_specialOf c F.slot_bool_hash.lookup ?_);show wpAny _ _ (callSpecialIfBoundUnlessNone? (.bool y) "__hash__" _ >>= _) prog Q s;refine Yb (wpAny_callSpecialIfBoundUnlessNone?_slot c F.slot_bool_hash
  (wpAny_call_entry F.slot_bool_hash c entry_int_hash
   (show wpAny _ _ (do ret (←mkInt (rawHash (b2i y)))) _ _ s from wpAny_ret_mkInt ?_) (args_int_hash _)))
 show wpAny _ _ (if(decide (-(2:Int) ^ 63<=rawHash (b2i y))&&decide (rawHash (b2i y)<2 ^ 63))=true then _ else _) prog Q _;rw[if_pos (by rw[YW hr.1,YW hr.2];rfl)];exact Yc h
def qg(prog:Zw)(w:World):PySem.KeyKind prog w Int where
 is:=Nj
 hash:=hashInt
 inj:=λv a b ha hb=>by
  cases v with
  |int i t=>exact(XR ha).symm.trans (XR hb)
  |bool c=>exact(XR ha).symm.trans (XR hb)
  |_=>cases ha
 byValue:=λk v h=>by
  rcases ip h with⟨t,rfl⟩ | ⟨b,rfl,_⟩<;>rfl
 pyHash:=λhv h=>by
  rcases ip hv with⟨t,rfl⟩ | ⟨b,rfl,rfl⟩
  .exact wpAny_pyHash_int h
  .exact z7 h
 eqBool:=λ{A E s a b u v Q} hu hv h=>by
  rcases ip hu with⟨t,rfl⟩ | ⟨x,rfl,rfl⟩
  .rcases ip hv with⟨t',rfl⟩ | ⟨y,rfl,rfl⟩
   .exact wpAny_eqBool_int h
   .exact SeqAt.EqAt.int_bool a t y _ _ _ _ h
  .rcases ip hv with⟨t',rfl⟩ | ⟨y,rfl,rfl⟩
   .exact SeqAt.EqAt.bool_int x b t' _ _ _ _ h
   .refine SeqAt.EqAt.bool_bool x y _ _ _ _ ?_
    rw[show(x==y)=decide (b2i x=b2i y) by cases x<;>cases y<;>rfl];exact h
 «strs»:=λk x t v h=>by cases h
def Hs{f c:Type}{F:f->c->Prop}{l:List f}{m:List c}(h:Paired F l m){y:c}(hy:y∈m):∃x∈l,F x y:=by
 induction h with
 |nil=>cases hy
 |cons q _ g=>
  rcases YB.1 hy with rfl | hy
  .exact⟨_,ZZ,q⟩
  .obtain⟨x,h1,j⟩:=g hy
   exact⟨x,YA _ h1,j⟩
section
variable {X:Cx}{H:Hp}{b_:Zc}{σ:L2.St}{s:Shared}
def yL{x:Int}(I:af X b_ σ H s)(sq:bX X.K H b [.int x,.bl y]):(tupleKind (qg X.prog X.w)).is s.heap [x,b2i y] b:=by
 obtain⟨d_,c,ht,_⟩:=I.tuple sq;obtain⟨o,h1,f,n,g⟩:=ht;refine⟨o,d_.toArray,n,h1,f,g,?_⟩;cases c with
 |cons j k=>cases k with
  |cons l m=>cases m with
   |nil=>
    obtain⟨t,rfl⟩:=j;cases l;exact .cons (YW rfl) (.cons (YW rfl) .nil)
def Nk{ks:List (Int×Bool)}{xs:List (List Int×Addr×Value)}(I:af X b_ σ H s)(e:H a=some (pT a xs))(r:Paired (nW X.K H) ks xs)(nd:ks.Nodup):
  s.heap.DictOfH (tupleKind (qg X.prog X.w)) a xs:=by
 obtain⟨⟨o,es,l,h1,c,m,n⟩,_⟩:=(show bn X.prog X.w H s.heap a (pT a xs) from I.hok a _ e);have all:∀{ks:List (Int×Bool)}{xs:List (List Int×Addr×Value)},Paired (nW X.K H) ks xs->∀x∈xs,(tupleKind (qg X.prog X.w)).is s.heap x.1 x.2.1:=by
  intro ks xs r;induction r with
  |nil=>intro x hx;cases hx
  |cons q _ f=>
   intro x hx;rcases YB.1 hx with rfl | hx
   .rw[q.1];exact yL I q.2.1
   .exact f x hx
 have g:∀{ks:List (Int×Bool)}{xs:List (List Int×Addr×Value)},Paired (nW X.K H) ks xs->ks.Nodup->(xs.map (·.1)).Nodup:=by
  intro ks xs r;induction r with
  |nil=>intro _;exact List.nodup_nil
  |@cons k x ks xs q t f=>
   intro nd;rw[YQ] at nd;rw[YL,YQ];refine⟨λhm=>nd.1 ?_,f nd.2⟩;obtain⟨A,p,e'⟩:=List.mem_map.1 hm;obtain⟨k',j,u⟩:=Hs t p;have:[k'.1,b2i k'.2]=[k.1,b2i k.2]:=by rw[←u.1,←q.1,e']
   simp only[List.cons.injEq,and_true] at this;have z:k'.2=k.2:=by
    have:=this.2
    cases h1:k'.2<;>cases c:k.2<;>first | rfl | (rw[h1,c] at this;exact absurd this 'b')
   rw[show k=k' from Prod.ext this.1.symm z.symm];exact j
 exact⟨o,es,l,h1,c,m,by rw[n];rfl,all r,g r nd⟩
def putP(ks:List (Int×Bool))(k:Int×Bool):List (Int×Bool):=if k∈ks then ks else ks++[k]
def og{ks:List (Int×Bool)}(k:Int×Bool)(h:ks.Nodup):(putP ks k).Nodup:=by
 unfold putP;split
 .exact h
 .rename_i hk
  rw[List.nodup_append];refine⟨h,by simp,λa ha b hb=>?_⟩;rw[XQ.1 hb];exact λz=>hk (z▸ha)
theorem Ht(ks:List (Int×Bool))(k:Int×Bool):(putP ks k).length<=ks.length+1:=by
 unfold putP;split
 .omega
 .simp
def Hu{ks:List (Int×Bool)}{xs:List (List Int×Addr×Value)}(r:Paired (nW K H) ks xs)(k:Int×Bool):(atKey xs [k.1,b2i k.2]).isSome=decide (k∈ks):=by
 induction r with
 |nil=>rfl
 |@cons k' x ks xs q t c=>
  unfold atKey at c ⊢;rw[XE];by_cases e:k=k'
  .subst e
   rw[show decide (x.1=[k.1,b2i k.2])=true from YW q.1];simp
  .have f:x.1≠[k.1,b2i k.2]:=λz=>e (by
    rw[q.1] at z;simp only[List.cons.injEq,and_true] at z;refine Prod.ext z.1.symm ?_
    have:=z.2
    cases h1:k'.2<;>cases h2:k.2<;>first | rfl | (rw[h1,h2] at this;exact absurd this 'b'))
   rw[show decide (x.1=[k.1,b2i k.2])=false from ZQ f];simp only[YB,e,false_or];exact c
def EZ{ks:List (Int×Bool)}{xs:List (List Int×Addr×Value)}(r:Paired (nW K H) ks xs)(k:Int×Bool)(sq:bX K H b [.int k.1,.bl k.2]):
  Paired (nW K H) (putP ks k) (storedH xs [k.1,b2i k.2] b (.bool true)):=by
 unfold putP storedH;rw[Hu r k];by_cases h:k∈ks
 .rw[if_pos h,if_pos (YW h)]
  have same:∀{ks:List (Int×Bool)}{xs:List (List Int×Addr×Value)},Paired (nW K H) ks xs->xs.map (putAt [k.1,b2i k.2] (.bool true))=xs:=by
   intro ks xs r;induction r with
   |nil=>rfl
   |@cons k' x ks xs q t c=>
    rw[YL,c];congr 1;unfold putAt;split
    .obtain⟨g,j,f⟩:=x
     have:f=.bool true:=q.2.2
     rw[this]
    .rfl
  rw[same r];exact r
 .rw[if_neg h,if_neg (by rw[ZQ h];exact YF)]
  exact bR r (.cons ⟨rfl,sq,rfl⟩ .nil)
def uk(o i d:D)(M:MH)(Q:MH->Prop):Prop:=match o,i,d with
 |.ref a,.tup [.int x,.bl y],.bl true=>match M a with
  |some (.dic [])=>Q (ae M a (.prs [(x,y)]))
  |some (.prs ks)=>ks.length<sizeLine/\Q (ae M a (.prs (putP ks (x,y))))
  |_=>False
 |_,_,_=>False
def wu{x:Int}{xs:List (List Int×Addr×Value)}{A:Around}{E:Zo}(hu:A.units+1<cLine)(I:af X b_ σ H s)(mu:Az (H a))(j:s.heap.DictOfH (tupleKind (qg X.prog X.w)) a xs)(l:xs.length<=sizeLine)
  (sq:bX X.K H b [.int x,.bl y]) (h:∀f,af X b_ σ (upd H a (pT a (storedH xs [x,b2i y] b (.bool true)))) f->E () f):wpAny 'c' A (setItem (.ref a) (.ref b) (.bool true)) E Q s:=by
 refine wpAny_setItem_heap (hsz:=l) (tupleKind_room_in1 hu) (yL I sq) j λh' m hs=>h _ ?_
 obtain⟨q,es,c,hq,g,n,p,_,t⟩:=m;refine u9 I mu hs ⟨q,hq⟩ ⟨⟨q,es,c,hq,g,n,by rw[p];rfl⟩,⟨q,hq⟩,λh1 g z k=>?_⟩;obtain⟨o,es,c,e1,r⟩:=z;exact⟨o,es,c,k o e1,r⟩
end
section
variable {X:Cx}{H:Hp}{e a b c o i v:Expr}{es:Zg}{pos:Pos}
def Da{w:World}{a:Addr}{vs:List (Key×Value)}(e:vs=[])(d:h.DictOf (bY P w) a vs):h.DictOfH (tupleKind (qg P w)) a []:=by
 subst e;obtain⟨o,es,g,h1,j,k,_,f,_⟩:=d;have e:es.toList=[]:=by
  cases h:es.toList with
  |nil=>rfl
  |cons _ _=>rw[h] at f;exact nomatch f
 exact⟨o,es,g,h1,j,k,e,λx hx=>(nomatch hx),List.nodup_nil⟩
def KA{x:Int}{v:V}(r:RV K H (.tup [.int x,.bl y]) v):∃b,v=.ref b/\bX K H b [.int x,.bl y]:=by
 obtain⟨b,xs,rfl,sq,f⟩:=RV.tup_.1 r;rw[aj] at f;obtain⟨m,g,rfl,j,f⟩:=f;rw[aj] at f;obtain⟨n,k,rfl,l,f⟩:=f;rw[aj] at f;subst f;cases RV.int_.1 j;cases RV.bl_.1 l;exact⟨b,rfl,sq⟩
theorem Ou(hu:X.A.units+40<cLine){x y:D}{o i v:V}{M:MH}{Q:MH->Prop}(B:RV X.K H x o)(C:RV X.K H y i)(E:RV X.K H d v)(g:RM X.K M H)(h:uk x y d M Q):pW X o i v H λH'=>Kp H H'/\∃M',RM X.K M' H'/\Q M':=by
 unfold uk at h;split at h
 .rename_i a x y
  cases RV.ref_.1 B;obtain⟨b,rfl,sq⟩:=KA C;cases RV.bl_.1 E;split at h
  .rename_i e1
   obtain⟨t,f,G,_⟩:=g _ _ e1;have hk:t=[]:=by cases t with
    |nil=>rfl
    |cons _ _=>cases G
   subst hk;intro b_ s ρ J L u I j l n;cases j;cases l;cases n;obtain⟨z,hd,vs,O,R⟩:=Ck I.hok f;have hv:vs=[]:=by have:=O.length;exact List.eq_nil_of_length_eq_zero this.symm
   have kk:=Kp.put (o':=pT a (storedH [] [x,b2i y] b (.bool true))) f trivial;refine wu 'a' I (by rw[f];exact True.intro) (Da hv R) (YN _) sq λS p=>⟨_,p,kk,_,g.put (m:=.prs [(x,y)]) f trivial ⟨_,aI,?_,by simp,by show 1<=sizeLine;decide,hd⟩,h⟩
   exact .cons ⟨rfl,kk.sq sq,rfl⟩ .nil
  .rename_i ks e1
   obtain⟨xs,f,r,nd,T,hd⟩:=g _ _ e1;obtain⟨hl,q⟩:=h;intro b_ s ρ J L u I j l n;cases j;cases l;cases n;have kk:=Kp.put (o':=pT a (storedH xs [x,b2i y] b (.bool true))) f trivial;have U:=nj r;refine wu 'a' I (by rw[f];exact True.intro) (Nk I f r nd) 'a' sq λS p=>⟨_,p,kk,_,g.put (m:=.prs (putP ks (x,y))) f trivial ⟨_,aI,?_,og _ nd,?_,hd⟩,q⟩
   .exact EZ (k:=(x,y)) (jC (λk x z=>⟨z.1,kk.sq z.2.1,z.2.2⟩) r) (kk.sq sq)
   .have:=Ht ks (x,y);omega
  .exact Yh h
 .exact Yh h
def Db(f to ti:WE):WS:=λE σ M=>f σ M λd M1=>to σ M1 λx M2=>ti σ M2 λy g=>uk x y d g λj=>E.nx σ j
def Hv{k:WE}{p:Pos}(hu:X.A.units+40<cLine)(hv:aN X v k)(r:aN X o to)(hi:aN X i ti)(hc:dm v=true)(hs:gF i=true):kU X (.Assign [.Subscript o i p] v pos) (Db k to ti):=by
 intro σ M ρ H E rs t h;refine eJ (xK (bJ v) (DO (bJ o) (bJ i) OE (by intro w;cases i<;>first | rfl | exact absurd (show false=true from hs) YF)) (Nc hc) (by cases v<;>rfl) rfl) ?_;show tW X v ρ H _;refine aM (hv σ M ρ H _ rs t h) λu l B=>?_
 obtain⟨f,d,M1,C,G,I⟩:=B;show tW X o ρ l _;refine aM (r σ M1 ρ l _ (rs.mono f) G I) λw' m J=>?_
 obtain⟨g,x,M2,L,O,R⟩:=J;show tW X i ρ m _;refine aM (hi σ M2 ρ m _ (rs.mono (f.trans g)) O R) λz H3 S=>?_
 obtain⟨j,y,M3,T,U,W⟩:=S;refine Bl (Ou hu (RV.mono j x L) T (RV.mono (g.trans j) d C) U W) λH4 Y=>?_
 obtain⟨n,Z,m4,q4⟩:=Y;exact⟨f.trans (g.trans (j.trans n)),σ,Z,rs.mono (f.trans (g.trans (j.trans n))),m4,q4⟩
end
def cJ(h:Heap)(d:Addr)(es:Array DictEntry)(c:Nat):Prop:=∃o,h.get? d=some o/\o.ExactDict/\o.data=.dict es c
section
variable {prog:Zw}{w:World}{A:Around}{E:Zb}{s:Shared}{d it:Addr}{es:Array DictEntry}{ep i:Nat}
theorem cJ.at'(x:cJ h d es ep)(k:∀o,h.get? d=some o->h'.get? d=some o):cJ h' d es ep:=let⟨o,e,r⟩:=x;⟨o,k o e,r⟩
theorem cJ.lt(x:cJ h d es ep):d<h.objs.size:=let⟨_,e,_⟩:=x;Ye e
theorem cJ.typeIs(x:cJ s.heap d es ep):s.TypeIs (.ref d) "dict":=let⟨o,e,c,_⟩:=x;⟨o,e,c.1⟩
def E1(lo:(d==sysModules)=false)(x:cJ s.heap d es ep)
  (q:Q (.ref s.heap.objs.size) { s with heap:=s.heap.push { cls:=.type "dict_keyiterator",data:=.fields #[.ref d,.int 0 0,.int es.size 0,.int ep 0] } }):wpAny 'f' A (pyIter (.ref d)) Q E s:=by
 obtain⟨o,e1,c,e3⟩:=id x;have ty:=x.typeIs;refine wpAny_pyIter_slot ty F.slot_dict_iter (wpAny_call_entry F.slot_dict_iter ty F.entry_dict_iter ?_ (F.args_dict_iter_1 _));unfold Builtin.«dict.__iter__»;refine Yb ?_;unfold Builtin.Dict.dictSlotNone;refine Yb (wpAny_notOrdered_dict ty (show wpAny _ _ (pure (Value.ref d)) _ _ s from Yc ?_));show wpAny _ _ (Builtin.Dict.showsAll d >>= _) _ _ s;unfold Builtin.Dict.showsAll;rw[lo];refine Yb (Yc (Yb (wpAny_dictEntries e1 e3 (Yb (wpAny_dictEpoch e1 e3 ?_)))));refine Yb (wpAny_newObj_type (Yc ⟨_,rfl, "dict_keyiterator",_,⟨_,Yg _ rfl,rfl⟩,F.slot_dict_keyiterator_next.lookup,?_⟩));simpa [rawInt] using q
theorem Hw{Q:Option Value->Shared->Prop}(G_:s.heap.IsKeyIter it d i es.size ep)(x:cJ s.heap d es ep)(hi:i<es.size)
  (q:∀h',h'.IsKeyIter it d (i+1) es.size ep->Heap.SameBut it s.heap h'->Q (some es[i].key) { s with heap:=h' }):wpAny 'f' A (pyNext (.ref it)) Q E s:=by
 obtain⟨u,u1,g,u3⟩:=id G_;obtain⟨o,e1,k,e3⟩:=id x;have nm:∀{Q:String->Shared->Prop}{A:Around}{E:Zb},Q "dict_keyiterator" s->wpAny 'f' A (typeNameOfWhole (.ref it)) Q E s:=λh=>wpAny_typeNameOfWhole_keyiter G_.typeIs h
 unfold pyNext;rw[0];refine Yc ?_;have hg:es[i]?=some es[i]:=Array.getElem?_eq_getElem hi;simp only[show ¬((i:Int)<0) by omega,if_false,YX,hg];refine Yb (Yb (nm (Yc (Yb (wpAny_isOneOf_keyiter G_.typeIs ?_)))));show wpAny _ _ (setField (.ref it) 1 (rawInt ((i:Int)+1)) >>= _) _ _ s;refine Yb (wpAny_setField u1 u3 (by simp) ?_);have c:(s.heap.update it (Obj.mapFields (·.setIfInBounds 1 (rawInt ((i:Int)+1))))).IsKeyIter it d (i+1) es.size ep:=
  ⟨_,Heap.get?_update_self _ u1 (Obj.isFreed_of_fields (Obj.data_mapFields u3 _)),(Obj.cls_mapFields ..).trans g,by rw[Obj.data_mapFields u3];simp[rawInt]⟩
 generalize hh:s.heap.update it (Obj.mapFields (·.setIfInBounds 1 (rawInt ((i:Int)+1))))=f at c ⊢;have j:Heap.SameBut it s.heap f:=by rw[←hh];exact Heap.SameBut.update ..
 refine Yb (Yj (Yb (wpAny_isOneOf_keyiter (s:={ s with heap:=f }) c.typeIs ?_)));exact Yc (Yc ⟨_,rfl,Yc (q f c j)⟩)
theorem next_end{Q:Option Value->Shared->Prop}(c:A.handled=none)(G_:s.heap.IsKeyIter it d es.size es.size ep)(x:cJ s.heap d es ep)
  (q:∀h',Heap.ExtBut it s.heap h'->Q none { s with heap:=h' }):wpAny 'f' A (pyNext (.ref it)) Q E s:=by
 obtain⟨u,u1,f,u3⟩:=id G_;obtain⟨o,e1,g,e3⟩:=id x;have nm:∀{Q:String->Shared->Prop}{A:Around}{E:Zb},Q "dict_keyiterator" s->wpAny 'f' A (typeNameOfWhole (.ref it)) Q E s:=λh=>wpAny_typeNameOfWhole_keyiter G_.typeIs h
 unfold pyNext;rw[0];refine Yc ?_;simp only[show ¬((es.size:Int)<0) by omega,if_false,YX,Array.getElem?_eq_none (YG es.size)];refine Yb (Yb (nm (Yc ?_)));show wpAny _ _ (setField (.ref it) 0 .none >>= _) _ _ s;refine Yb (wpAny_setField u1 u3 (by simp) ?_);show wpAny _ _ (newExc (.type "StopIteration") [] >>= _) _ _ _;simp only[newExc,newTuple];refine Yb (Yb (wpAny_newObj_type ?_ (by size_fits)));refine Yb (m:=firstArgMember _ _) (wpAny_of_eq (a:=Value.none) (by first | rfl | (simp only[firstArgMember];rfl)) (wpAny_newObj_type ?_ (by size_fits)));simp only[raiseNew];refine Yb (wpAny_handled ?_);rw[show A.in1.handled=none from c];refine Yb (Yc (wpAny_throw ?_));refine Yb (wpAny_isInstance (T:="StopIteration") (b:=true) ⟨_,Yg _ rfl,rfl⟩ isSubtype_stop ?_);exact Yc (q _ (((Heap.SameBut.update ..).extBut.push _).push _))
def Dc(j:A.handled=none)(I:Addr)(l:d≠I)(es:Array DictEntry)(ep:Nat):
  Walks prog w A I [I,d] [I] es.size (λi v=>∃e,es[i]?=some e/\v=e.key) (λi h=>h.IsKeyIter I d i es.size ep/\cJ h d es ep) where
 sub:=λb hb=>by simp at hb;simp[hb]
 frame:=λ_ _ _ st k=>⟨st.1.at λo e=>k I (by simp) o e,st.2.at' λo e=>k d (by simp) o e⟩
 item:=λi s Q E hi st g=>Hw st.1 st.2 hi λh' c f=>
  g _ h' s.toks ⟨es[i],Array.getElem?_eq_getElem hi,rfl⟩ ⟨c,st.2.at' λo e=>f.extBut d o l e⟩ λb o hb e=>f.extBut b o (λz=>hb (by simp[z])) e
 done:=λs Q E st g=>next_end j st.1 st.2 λh' m=>g h' s.toks λb o hb e=>m b o (λz=>hb (by simp[z])) e
 self:=λ_ _ _ _ st g=>wpAny_pyIter_keyiter st.1 g
def Hx(lo:(d==sysModules)=false):PySem.W.KdlSrc prog w "dict" d d es.size (λi v=>∃e,es[i]?=some e/\v=e.key) (λh=>cJ h d es ep) where
 type:=λs x=>cJ.typeIs x
 there:=λ_ x=>⟨x.lt,x.lt⟩
 keep:=λ_ _ x k=>x.at' λo e=>k d (.inl rfl) o e
 notList:=by decide
 notTuple:=by decide
 hint:=λ_ _ s _ x g=>PySem.W.kdl_hint_dict (cJ.typeIs (s:=s) x) g
 iter:=λ_ _ c x=>⟨_,_,(λ_ _ g=>E1 lo x g),Dc c _ (ZU x.lt) es ep,⟨⟨_,Yg _ rfl,rfl,rfl⟩,x.at' λo e=>Yd _ e⟩⟩
end
def pD(k:Int×Bool):D:=.tup [.int k.1,.bl k.2]
section
variable {X:Cx}{H:Hp}{b_:Zc}{σ:L2.St}{s:Shared}
def Hy{xs:List (List Int×Addr×Value)}(I:af X b_ σ H s)(e:H a=some (pT a xs)):∃es c,cJ s.heap a es c/\es.toList=xs.map Mn:=by
 obtain⟨⟨o,es,c,h1,f,g,j⟩,_⟩:=(show bn X.prog X.w H s.heap a (pT a xs) from I.hok a _ e);exact⟨es,c,⟨o,h1,f,g⟩,j⟩
end
end DD
namespace DD
open PySem PySem.Spec PyProof.Rows L2 PySem.MeetsSeq PySem.SeqAt
def Hz(a b:Bool):Gives (Builtin.«int.__lt__» ⟨[.bool a,.bool b],[]⟩) (.val (.bool (decide (b2i a<b2i b)))):=
 .of_wp λM A E s Q h=>by obtain⟨hp,g,d,tk,os⟩:=s;wp_walk;exact⟨_,rfl,h⟩
end DD
namespace TS
open PySem PyProof.Rows
variable {Q:Zb}{v:Value}{q:Int×Bool}{a:Bool}
section
variable {prog:Zw}{w:World}{A:Around}{E:Zb}{s:Shared}
def ju(h:Heap)(p:Int×Bool)(v:Value):Prop:=∃a t,v=.ref a/\h.IsTuple a #[.int p.1 t,.bool p.2]
def lV(p:Int×Bool):Int:=p.1*2+DD.b2i p.2
def Po:Value->Int
 |.bool b=>DD.b2i b
 |_=>0
def Nl(h:Heap)(v:Value):Int:=match v with
 |.ref a=>match h.get? a with
  |some o=>match o.data with
   |.seq xs _=>numOf (xs[0]?.getD .none)*2+Po (xs[1]?.getD .none)
   |_=>0
  |none=>0
 |_=>0
def oh{h:Heap}(r:ju h q v):Nl h v=lV q:=by
 obtain⟨a,t,rfl,o,b,_,n,hd⟩:=r;unfold Nl;simp only[b,hd];rfl
def lt_bool{b:Bool}(h:Q (.bool (decide (DD.b2i a<DD.b2i b))) s):wpAny 'f' A (compareOp .Lt (.bool a) (.bool b)) Q E s:=
 compareOp_gives (op:=.Lt) (T:="bool") rfl rfl F.slot_bool_lt F.entry_int_lt (F.args_int_lt_2 _ _) (DD.Hz a b) (λx=>nomatch x) h
def Br(b:Bool):0<=DD.b2i b/\DD.b2i b<2:=by cases b<;>decide
theorem KC{p:Int×Bool}{y:Value}{Q:Bool->Shared->Prop}(hp:ju s.heap p v)(hq:ju s.heap q y)(k:Q (decide (lV p<lV q)) s):wpAny 'f' A (keyLt' (tuples' true) v y) Q E s:=by
 obtain⟨a,t,rfl,o,j,_,n,hd⟩:=hp;obtain⟨b,t',rfl,o',l,_,n',m⟩:=hq;obtain⟨p1,p2⟩:=p;obtain⟨f,c⟩:=q;have r:=Br p2;have u:=Br c;unfold lV at *;dsimp only at *;refine PySem.W.kat_lt j hd l m (PySem.W.kat_cons (wpAny_eqBool_int ?_));by_cases e:p1=f
 .subst e
  rw[XI];refine PySem.W.kat_yes (PySem.W.kat_cons (SeqAt.EqAt.bool_bool p2 c _ _ _ _ ?_));by_cases g:p2=c
  .subst g
   rw[XI];refine PySem.W.kat_yes (PySem.W.kat_nil ?_);rw[show decide (p1*2+DD.b2i p2<p1*2+DD.b2i p2)=false by simp] at k;exact k
  .rw[show(p2==c)=false by simpa using g]
   refine PySem.W.kat_no (PySem.W.kat_one _ _ (lt_bool (show Q (decide (DD.b2i p2<DD.b2i c)) s from ?_)));rw[show decide (p1*2+DD.b2i p2<p1*2+DD.b2i c)=decide (DD.b2i p2<DD.b2i c) by rw[decide_eq_decide];omega] at k;exact k
 .rw[show(p1==f)=false by simpa using e]
  refine PySem.W.kat_no ?_;show wpAny _ _ (oneLt' true _ _) _ _ _;refine oneLt_int ?_;rw[show decide (p1*2+DD.b2i p2<f*2+DD.b2i c)=decide (p1<f) by rw[decide_eq_decide];omega] at k;exact k
theorem wv{h:Heap}:∀{ps:List (Int×Bool)}{vs:Zd},Paired (ju h) ps vs->∃fs,PySem.W.KatTups h vs fs/\fs.length=vs.length/\∀v∈fs,∃i t,v=Value.int i t
 |_,_,.nil=>⟨[],.nil,rfl,λ_ z=>nomatch z⟩
 |_,_,.cons r t=>by
  obtain⟨fs,h1,b,c⟩:=wv t;obtain⟨a,t,rfl,o,f,hc,n,hd⟩:=r;refine⟨_::fs,PySem.W.KatTups.cons f hc hd rfl h1,by simp[b],λv hv=>?_⟩;rcases YB.mp hv with rfl | hv
  .exact⟨_,_,rfl⟩
  .exact c v hv
theorem xc{B:Type}{G:B->Value->Prop}{f:B->Int×Bool}{l:List B}{a:Addr}{vs:Zd}{n:Nat}{P:Fin->Shared->Prop}(g:s.heap.get? a=some (seqObj "list" vs.toArray n))(u:∀x v,G x v->ju s.heap (f x) v)(C:∀x v t,G x v->v=.ref t->t≠a)(hl:Paired G l vs)(K:vs.length<=63)
  (h:∀(out:Zl) (c:List B),Paired G c out.toList->c.Perm l->c.Pairwise (λx y=>lV (f x)<=lV (f y))->P (.done (.ret .none)) { s with heap:=sortedHeap s.heap a vs out }):wpAny 'f' A (Builtin.«list.sort» ⟨[.ref a],[]⟩) P E s:=by
 have at':∀h',Jb a s.heap h'->∀x v,G x v->ju h' (f x) v:=λh' hb x v r=>by
  obtain⟨b,t,rfl,o,Y,q⟩:=u x v r;exact⟨b,t,rfl,o,hb b o (C x _ b r rfl) Y,q⟩
 have z:∀k∈(pairsOf vs).toList,k.1=k.2/\k.1∈vs:=λk hk=>by
  rw[pairsOf_toList,List.mem_map] at hk;obtain⟨v,hv,rfl⟩:=hk;exact⟨rfl,hv⟩
 refine yJ (R:=λk=>Nl s.heap k.1) (kd:=tuples' true) g (λh' hb x y hx hy Q E q=>?_) (λm h' hb Q q=>?_) K λxs p q=>?_
 .obtain⟨a1,SS,L⟩:=yK hl (z x hx).2
  obtain⟨a2,US,O⟩:=yK hl (z y hy).2;refine KC (at' h' hb _ _ L) (at' h' hb _ _ O) ?_;have e1:=oh (u _ _ L);have Z:=oh (u _ _ O);rw[←e1,←Z];exact q
 .have I:Paired (ju h') (l.map f) vs:=by
   clear g K m z h;induction hl with
   |nil=>exact .nil
   |cons r t ih=>exact .cons (at' h' hb _ _ r) ih
  obtain⟨fs,k1,k2,k3⟩:=wv I;refine PySem.W.kat_kind (T:=.type "int") k1 'a' (λv hv=>?_) 'b' ?_
  .obtain⟨i,t,rfl⟩:=k3 v hv
   exact .now
  .exact q
 .have hp:(xs.map (·.2)).toList.Perm vs:=by
   have:=(XX.mp p).map (·.2)
   rw[pairsOf_toList,ZM] at this;rw[Array.toList_map];refine this.trans (List.Perm.of_eq ?_);exact List.map_id' vs
  obtain⟨c,h1,m⟩:=Kz hp hl;refine h _ c m h1 ?_;rw[List.pairwise_iff_getElem];intro i j hi hj Qx;have hsz:c.length=xs.size:=by
   have:=Paired.length m
   simpa using this
  obtain⟨v,hv,rv⟩:=vp m (ZD hi);obtain⟨v',S,Qo⟩:=vp m (ZD hj);have U:xs[i]?=some (xs[i]' 'a'):=Array.getElem?_eq_getElem 'a';have V:xs[j]?=some (xs[j]' 'a'):=Array.getElem?_eq_getElem 'a';have m1:=(z _ ((XX.mp p).mem_iff.mp (by simpa using(Array.getElem_mem (xs:=xs) (i:=i) 'a')))).1;have m2:=(z _ ((XX.mp p).mem_iff.mp (by simpa using(Array.getElem_mem (xs:=xs) (i:=j) 'a')))).1;have J:=q i j _ _ (YN _) (Nat.le_of_lt Qx) (by rw[←p.size_eq];omega) U V;rw[Array.toList_map,ZG,XD,U] at hv;rw[Array.toList_map,ZG,XD,V] at S;cases hv;cases S;dsimp only at J;rw[m1,m2,oh (u _ _ rv),oh (u _ _ Qo)] at J;exact J
end
end TS
namespace DD
open PySem PySem.Spec PyProof.Rows L2
section
variable {prog:Zw}{w:World}{A:Around}{E:Zb}{s:Shared}
def Dd {c:Type} {G:c->Value->Prop} {f:c->Int × Bool} {l:List c} {vs:Zd} {h':Heap} {tk:Nat} {Q:Zb} (j:∀ x v,G x v->TS.ju h' (f x) v) (hl:Paired G l vs) (m:vs.length<=63)
  (h:∀ (out:Zl) (b:List c),Paired G b out.toList->b.Perm l->b.Pairwise (λx y=>TS.lV (f x)<=TS.lV (f y))->Q (.ref h'.objs.size) { s with heap:=sortedHeap (h'.push (seqObj "list" vs.toArray 0)) h'.objs.size vs out,toks:=tk }) :
  wpAny 'f' A.in1 (do
   let l ← newList vs
   let _ ← holding [l] (call (.builtin "list.sort") [l] [])
   ret l) (λfin n=>∃ v,fin = Fin.done (.ret v)/\Q v n) E { s with heap:=h',toks:=tk }:=by
 refine Yb (wpAny_newList ?_)
 have k:(h'.push (seqObj "list" vs.toArray 0)).get? h'.objs.size = some (seqObj "list" vs.toArray 0):=Yg _ rfl
 show wpAny _ _ _ _ _ { s with heap:=h'.push (seqObj "list" vs.toArray 0),toks:=tk }
 refine Yb (Yj (wpAny_call_entry slot_list_sort ⟨_,k,rfl⟩ entry_list_sort (TS.xc (G:=G) (f:=f) k (λx v r=>?_) (λx v t r e=>?_) hl m λout b p u z=>⟨_,rfl,?_⟩) (args_list_sort _)))
 .obtain ⟨a,t,rfl,o,g,q⟩:=j x v r
  exact ⟨a,t,rfl,o,Yd _ g,q⟩
 .obtain ⟨a,t',rfl,o,g,q⟩:=j x v r
  cases e
  exact ZU (Ye g)
 .exact Yc ⟨_,rfl,h out b p u z⟩
end
section
variable {prog:Zw}{w:World}{A:Around}{E:Zb}{s:Shared}{d:Addr}{es:Array DictEntry}{ep:Nat}
def yM{Q:List Value->Shared->Prop}(f:A.handled=none)(hd:(d==sysModules)=false)(x:cJ s.heap d es ep)(hl:es.size<=sizeLine)
  (g:∀h' tk g_,(∀b o,s.heap.get? b=some o->h'.get? b=some o)->s.heap.objs.size<h'.objs.size->ItemsOf (λi v=>∃e,es[i]?=some e/\v=e.key) g_ es.size->Q g_.toList { s with heap:=h',toks:=tk }):wpAny 'f' A (collect (.ref d)) Q E s:=by
 have go:∀R:Result->Shared->Prop,(∀h' tk g_ c',(∀b o,s.heap.get? b=some o->h'.get? b=some o)->h'.get? s.heap.objs.size=some { cls:=.type "list",dict:=none,data:=.seq g_ c',slots:=#[] }->ItemsOf (λi v=>∃e,es[i]?=some e/\v=e.key) g_ es.size ->
   R (.ok (.ret (.ref s.heap.objs.size))) { s with heap:=h',toks:=tk })->codeAny 'f' A (.builtin "list.__iadd__" ⟨[.ref s.heap.objs.size,.ref d],[]⟩) R { s with heap:=s.heap.push (seqObj "list" #[] 0) }:=by
  intro R j;refine codeAny_builtin entry_list_iadd' ?_;show wpAny _ _ (Builtin.List.listExtendWith (.ref s.heap.objs.size) (.ref d) (.ref s.heap.objs.size)) _ _ { s with heap:=s.heap.push (seqObj "list" #[] 0) };rw[Around.under_plainId (id:="list.__iadd__") (by rfl')];have ne:s.heap.objs.size≠d:=Nat.ne_of_gt x.lt;refine PySem.W.kdl_extend (A:=A) (R:=R) (s:={ s with heap:=s.heap.push (seqObj "list" #[] 0) }) (Hx hd) f (x.at' λo e=>Yd _ e) s.heap.objs.size ne ne _ 0 (Yg _ rfl) ?_ hl;intro h' tk g_ c' hk a c;exact j h' tk g_ c' (λb o e=>hk b o (ZU (Ye e)) (Yd _ e)) a c
 unfold collect;refine Yb (wpAny_runValue (codeAny_builtin entry_proto_collect' ?_));show wpAny _ _ (do again (.builtin "list.__iadd__" ⟨[←newList [],.ref d],[]⟩)) _ _ s;refine Yb (wpAny_newList (Yc ⟨Code.quiet_builtin _ (by rfl'),go _ λh' tk g_ c' hk a c=>?_⟩));refine Yb (wpAny_load a ?_);exact Yc (g h' tk g_ hk (Ye a) c)
end
def k6:az:=λds M Q=>match ds with
 |[.ref a]=>match M a with
  |some (.dic [])=>∀p,M p=none->Q (.ref p) (ae M p (.lst []))
  |some (.prs ks)=>ks.length<=63/\∀(p:Addr) (b:List (Int×Bool)),M p=none->b.Perm ks->b.Pairwise (λx y=>TS.lV x<=TS.lV y)->Q (.ref p) (ae M p (.lst (b.map pD)))
  |_=>False
 |_=>False
section
variable {X:Cx}{H:Hp}{b_:Zc}{σ:L2.St}{s:Shared}
theorem yN(I:af X b_ σ H s):∀{ks:List (Int×Bool)}{xs:List (List Int×Addr×Value)}{us:Zd},Paired (nW X.K H) ks xs->us=xs.map (λx=>Value.ref x.2.1) ->
  Paired (λ(k:(Int×Bool)×Addr) (v:Value)=>v=.ref k.2/\bX X.K H k.2 [.int k.1.1,.bl k.1.2]/\TS.ju s.heap k.1 v) (ks.zip (xs.map (·.2.1))) us
 |_,_,_,.nil,e=>by subst e;exact .nil
 |_,_,_,.cons (b:=x) q t,e=>by
  subst e;refine .cons ⟨rfl,q.2.1,?_⟩ (yN I t rfl);obtain⟨j,h1,a,_⟩:=I.tuple q.2.1;obtain⟨l,m,rfl,c,f⟩:=h1.two;obtain⟨g,rfl⟩:=c;cases f;exact⟨_,g,rfl,a⟩
theorem De(hc:X.calm=true):il X (.builtin "sorted") k6:=by
 intro ds vs H M Q r j h;unfold k6 at h;split at h
 .rename_i a
  split at h
  .rename_i e1
   refine wq hc [.ref a] vs H M Q r j ?_;show(match cu (M a) with
    |some xs=>bP (im xs) λns=>kt ns M Q
    |none=>bP (lU (M a)) λR=>bP (intKeys R) λns=>kt ns M Q)
   rw[e1];refine(⟨by decide,λp ms hp hm _=>?_⟩:kt [] M Q);rw[List.Perm.eq_nil hm];exact h p hp
  .rename_i ks e1
   obtain⟨v,rfl,S⟩:=f6 r;cases RV.ref_.1 S;obtain⟨xs,T,J,nd,hz,hd⟩:=j _ _ e1;obtain⟨U,q⟩:=h;intro b_ s ρ ws I W;obtain⟨u,rfl,Y⟩:=vals1 W;cases Y;obtain⟨es,ep,Z,L⟩:=Hy I T;have hsz:es.size=xs.length:=by rw[←YE,L,ZF]
   have hl:=nj J;refine Calls.call_function_entry kind_sorted plain_sorted entry_sorted (args_sorted1 _) ?_;unfold Builtin.«sorted»;refine Yb (m:=checkCount "sorted" 1 1 _) (Yc ?_);refine Yb (yM (A:=X.A.in1) (I.ok.hd hc) hd Z 'a' λh' tk g_ O P8 z=>?_);obtain⟨hs,z⟩:=z;have hu:g_.toList=xs.map (λx=>Value.ref x.2.1):=by
    refine List.ext_getElem? λi=>?_
    cases e2:g_.toList[i]? with
    |none=>
     rw[List.getElem?_eq_none_iff,YE] at e2;rw[ZI];rw[ZF];omega
    |some v=>
     obtain⟨en,e3,e4⟩:=z i v (by rw[←XD];exact e2);rw[←XD,L,ZG] at e3;rw[ZG];cases e5:xs[i]? with
     |none=>rw[e5] at e3;cases e3
     |some x=>rw[e5] at e3;cases e3;rw[e4];rfl
   have P:=yN I J hu;refine Dd (s:=s) (A:=X.A) (f:=(·.1)) (tk:=tk) (h':=h') (G:=λ(k:(Int×Bool)×Addr) (v:Value)=>v=.ref k.2/\bX X.K H k.2 [.int k.1.1,.bl k.1.2]/\TS.ju s.heap k.1 v) (λx v r=>?_) P (by rw[YE,hs];omega) λout c l y B=>?_
   .obtain⟨_,_,b,t,rfl,o,g,q⟩:=r
    exact⟨b,t,rfl,o,O _ _ g,q⟩
   .generalize Ur:g_.toList=d_ at *
    obtain⟨e,g⟩:=sortedHeap_at (h:=h'.push (seqObj "list" d_.toArray 0)) (a:=h'.objs.size) (vs:=d_) (n:=0) (out:=out) (Yg _ rfl);have k:∀b o,s.heap.get? b=some o->(sortedHeap (h'.push (seqObj "list" d_.toArray 0)) h'.objs.size d_ out).get? b=some o:=λb o e=>by
     have h1:=O b o e;have hb:b<h'.objs.size:=Ye h1;rw[sortedHeap_old (ZU hb) (by rw[Heap.size_push];exact Nat.lt_succ_of_lt hb)];exact Yd _ h1
    have hf:H h'.objs.size=none:=I.hok.fresh 'a';have kk:=Kp.new (o:=.lst (c.map λx=>V.ref x.2)) hf;have C:c.length=d_.length:=by rw[y.length_eq];exact Paired.length P
    have hv:aq (c.map λx=>V.ref x.2) out.toList:=by
     clear g y B C kk;generalize out.toList=o' at l;induction l with
     |nil=>exact .nil
     |cons r t E=>exact .cons r.1 E
    have hr:aj X.K H ((c.map (·.1)).map pD) (c.map λx=>V.ref x.2):=by
     clear g y B C kk hv;generalize out.toList=o' at l;induction l with
     |nil=>exact .nil
     |@cons x _ _ _ r t E=>exact .cons (RV.tup_.2 ⟨x.2,_,rfl,r.2.1,.cons (RV.int_.2 rfl) (.cons (RV.bl_.2 rfl) .nil)⟩) E
    have TY:d_.length=xs.length:=by rw[hu,ZF]
    refine⟨.ref h'.objs.size,_,I.laid (t':=tk) k 'a' (show bn X.prog X.w _ _ h'.objs.size (.lst (c.map λx=>V.ref x.2)) from⟨by rw[ZF,C];omega,out.toList,e,hv,by simpa [seqObj] using g⟩),rfl,kk,.ref _,_,RV.ref_.2 rfl,j.new (m:=.lst ((c.map (·.1)).map pD)) hf ⟨_,aI,aj.mono kk _ hr⟩,q _ _ (j.fresh hf) ?_ ?_⟩
    .have:=y.map (·.1)
     rwa [Bq (by rw[ZF];exact hl)] at this
    .rw[List.pairwise_map]
     exact B
  .exact Yh h
 .exact Yh h
end
section
variable {X:Cx}{H:Hp}{pos:Pos}{e:Expr}{es:Zg}
inductive Bk where
 |sorted | list | sortedB
 deriving DecidableEq
def nn:Bk->az
 |.sorted=>kH
 |.list=>gr
 |.sortedB=>k6
def ul:Bk->Str
 |.sorted=>"sorted"
 |.list=>"list"
 |.sortedB=>"sorted"
def Nm(b:Bk)(hc:X.calm=true){t:WA}{p:Pos}(hg:Gl X (ul b))(hm:X.mg (ul b)=none)(hs:ay e=true)(a:es.all ay=true)(ha:gU X (e::es) t):aN X (.Call (.Name (ul b) p) (e::es) [] pos) (jq (nn b) t):=by
 cases b with
 |sorted=>exact gW (wq hc) hg hm (by rfl') 'b' 'b' hs a ha
 |sortedB=>exact gW (De hc) hg hm (by rfl') 'b' 'b' hs a ha
 |list=>exact tZ (Ho hc) hg hm (by rfl') 'b' 'b' hs a ha
end
end DD
namespace DD
open PySem PySem.Spec PyProof.Rows L2
set_option genInjectivity false
set_option genSizeOf false
set_option genCtorIdx false
variable {e:Expr}{es:Zg}{y:Str}{P:Prop}
mutual
inductive E where
 |var (i:Nat) | int (i:Int) | str (x:Str) | bl (b:Bool) | non | glob (j:Nat) | ty (T:String)
 |bin (o:Operator) (a b:E) | cmp (o:CmpOp) (a b:E)
 |and (a b:E) | or (a b:E) | not (a:E) | ite (c:T) (a b:E)
 |fn (j:Nat) (es:Es) | bi (b:Bi) (es:Es) | mt (m:Mt) (o:E) (es:Es) | mt0 (m:Mt) (o:E)
 |ix (a b:E) | sl (a:E) (lo hi:Eo) | sl2 (a:E) (lo hi:Eo) | lst (es:Es) | tup (es:Es) | comp (n:Nat) (e:E) (t:dZ) (i:I) (c:To)
 |neg (a:E) | dnew | fld (o:E) (f:Str) | mu (m:Str) (o:E) (es:Es) | mu0 (m:Str) (o:E) | lenSet (a:E) | lrg (es:Es) | inv (a:E) | bk (b:Bk) (es:Es)
inductive Ps where
 |nil | cons (k v:E) (r:Ps)
inductive Es where
 |nil | cons (e:E) (es:Es)
inductive Eo where
 |no | yes (e:E)
inductive To where
 |no | yes (t:T)
inductive T where
 |val (e:E) | ne2 (a b:E) | cmp (o:CmpOp) (a b:E) | and (t u:T) | or (t u:T) | not (t:T)
inductive I where
 |seq (e:E) | rg1 (es:Es) | rg2 (es:Es) | enum (es:Es)
end
mutual
inductive S where
 |set (i:Nat) (e:E) | setC (i n:Nat) (e:E) (t:dZ) (it:I) (c:To) | asg (g:dZ) (e:E) | expr (e:E) | ret (e:E)
 |ite (t:T) (a b:Ss) | for (g:dZ) (it:I) (b:Ss) | pass | never
 |putIx (o i e:E) | putP (o i e:E) | setF (o:E) (f:Str) (e:E) | while (t:T) (b:Ss)
inductive Ss where
 |nil | cons (s:S) (r:Ss)
end
set_option genInjectivity true
set_option genSizeOf true
set_option genCtorIdx true
structure Cn where
 F:List az
 G:List D
 O:qc
 T:kY
 I:PC:=λ_ _=>none
def k7(c:WT)(g:WS):WS:=λE σ M=>∃W:Nat->DS->MH->Prop,(∃m,W m σ M)/\∀m σ M,W m σ M ->
 c σ M λb M1=>dq b (∃N:DS->MH->Prop,(∀a M',N a M'->∃f,f<m/\W f a M')/\g { E with nx:=N,ct:=N,bk:=E.nx } σ M1) (E.nx σ M1)
section
variable (c:Cn)
mutual
noncomputable def wE:E->WE
 |.var i=>λσ M Q=>xX σ i λd=>Q d M
 |.int i=>λ_ M Q=>Q (.int i) M
 |.str i=>λ_ M Q=>Q (.str i) M
 |.bl i=>λ_ M Q=>Q (.bl i) M
 |.non=>λ_ M Q=>Q .non M
 |.glob j=>λ_ M Q=>Q (c.G.getD j .non) M
 |.ty n=>λ_ M Q=>Q (.ty n) M
 |.bin o a b=>rW (GQ o) (wE a) (wE b)
 |.cmp o a b=>rW (CJ o) (wE a) (wE b)
 |.and a b=>Cl (wE a) (wE b)
 |.or a b=>Gs (wE a) (wE b)
 |.not a=>Cm (wE a)
 |.ite t a b=>Mr (wT t) (wE a) (wE b)
 |.fn j es=>jq (c.F.getD j λ_ _ _=>False) (wEs es)
 |.bi b es=>jq (MY b) (wEs es)
 |.lenSet a=>vo (wE a)
 |.bk b es=>jq (nn b) (wEs es)
 |.lrg es=>C5 (wEs es)
 |.mt m o es=>yo (yq m) (EF m) (wE o) (wEs es)
 |.mt0 m o=>yo (yq m) (EF m) (wE o) pX
 |.ix a b=>rW IT (wE a) (wE b)
 |.sl a lo hi=>MT (wE a) (wEo lo) (wEo hi)
 |.sl2 a lo hi=>Hg (wE a) (wEo lo) (wEo hi)
 |.lst es=>Gy (wEs es)
 |.tup es=>Gx (wEs es)
 |.comp n e t i d=>CD n (wI i) t (oZ d) (wE e)
 |.neg a=>G3 (wE a)
 |.inv a=>jO (wE a)
 |.dnew=>λ_ M Q=>∀p,M p=none->Q (.ref p) (ae M p (.dic []))
 |.fld o f=>G9 c.O f (wE o)
 |.mu m o es=>ue c.T m (wE o) (wEs es)
 |.mu0 m o=>ue c.T m (wE o) pX
noncomputable def wP:Ps->List (WE×WE)
 |.nil=>[]
 |.cons k v r=>(wE k,wE v)::wP r
noncomputable def wEs:Es->WA
 |.nil=>pX
 |.cons e es=>Co (wE e) (wEs es)
noncomputable def wEo:Eo->WO
 |.no=>λ_ M Q=>Q none M
 |.yes e=>λσ M Q=>wE e σ M λx M1=>intD x λi=>Q (some i) M1
noncomputable def oZ:To->WT
 |.no=>λ_ M Q=>Q true M
 |.yes t=>wT t
noncomputable def wT:T->WT
 |.val e=>Gv (wE e)
 |.cmp o a b=>xw (rW (CJ o) (wE a) (wE b))
 |.ne2 a b=>xw (rW MG (wE a) (wE b))
 |.and t u=>Gp (wT t) (wT u)
 |.or t u=>Mp (wT t) (wT u)
 |.not t=>Gq (wT t)
noncomputable def wI:I->WI
 |.seq e=>Cv (wE e)
 |.rg1 es=>Cw (wEs es)
 |.rg2 es=>Cy (wEs es)
 |.enum es=>CZ (wEs es)
end
mutual
noncomputable def wS:S->WS
 |.set i e=>GH i (wE c e)
 |.setC i n e t it d=>CG i n (wI c it) t (oZ c d) (wE c e)
 |.asg g e=>GJ (wE c e) g
 |.expr e=>Cr (wE c e)
 |.ret e=>GE (wE c e)
 |.ite t a b=>GI (wT c t) (wSs a) (wSs b)
 |.for g it b=>GL (wI c it) g (wSs b)
 |.pass=>qP
 |.never=>λ_ _ _=>False
 |.putIx o i e=>yt (wE c e) (wE c o) (wE c i)
 |.putP o i e=>Db (wE c e) (wE c o) (wE c i)
 |.setF o f e=>CU c.O f (wE c o) (wE c e)
 |.while t b=>k7 (wT c t) (wSs b)
noncomputable def wSs:Ss->WS
 |.nil=>qP
 |.cons s r=>GC (wS s) (wSs r)
end
end
structure du where
 N:List Str
 sc:Scope
 all:Bool
 glob:List Str
 blt:List Str
 fns:List Str
def Df:Option NameKind->Bool
 |some .local=>true
 |some .cell=>true
 |some .free=>true
 |_=>false
def Dg:Option NameKind->Bool
 |some .local=>true
 |some .cell=>true
 |_=>false
def E2(Γ:du)(i:Nat)(x:Str):Bool:=decide (Γ.N[i]?=some x)&&Df (Γ.sc.names.lookup x) && !(x==("__debug__" : Str)) && !(x==("__classdict__" : Str))
def qh(Γ:du)(i:Nat)(x:Str):Bool:=decide (Γ.N[i]?=some x)&&Dg (Γ.sc.names.lookup x)&&(Γ.all||decide (Γ.sc.names.lookup x=some .local))
def dF(Γ:du)(x:Str):Bool:=decide (Γ.sc.names.lookup x=some .globalImplicit) && !(x==("__debug__" : Str))
def um:List String:=["bool","int","str","tuple","list","dict"]
def ownOf(sc:Scope):List Str:=sc.names.filterMap λp=>if p.2=.local/\p.1≠(".0" : Str) then some p.1 else none
def vq(Γ:du)(sc:Scope):List Str:=Γ.N.map λy=>if sc.names.lookup y=some .local then "" else y
def nq(Γ:du)(sc:Scope):Bool:=decide (sc.kind=.function)&&sc.names.all (λy=>decide (y.2≠.cell))&&sc.names.all (λy=>decide (y.2=.local->sc.names.lookup y.1=some .local)) &&
 sc.names.all (λy=>decide (y.2=.free->(Γ.sc.names.lookup y.1=some .cell\/Γ.sc.names.lookup y.1=some .free)))&&((vq Γ sc).zip Γ.N).all (λp=>decide ((sc.names.lookup p.1=some .free->p.1=p.2)/\sc.names.lookup p.1≠some .local))&&decide ((vq Γ sc++ownOf sc).Nodup)
def HA(sc Qr:Scope):Scope:={ sc with names:=sc.names.map λ(p:Str×NameKind)=>if(p.2==NameKind.free&&Qr.kind==.function&&Qr.names.lookup p.1==some .cell)=true then(p.1,NameKind.cell) else(p.1,p.2) }
def inComp(Γ:du)(sc:Scope):du:={ Γ with N:=vq Γ sc++ownOf sc,sc:=HA sc Γ.sc,all:=false }
def uo(Γ:du):List Nat->List Expr->Bool
 |[],[]=>true
 |i::is,.Name x _::es=>qh Γ i x&&uo Γ is es
 |_,_=>false
def q9(Γ:du):dZ->Expr->Bool
 |.nm i,.Name x _=>qh Γ i x
 |.tp is,.Tuple es _ _=>uo Γ is es
 |_,_=>false
def E3:Expr->Bool
 |.UnaryOp .Not _ _=>false
 |.BoolOp _ _ _=>false
 |.IfExp _ _ _ _=>false
 |.Compare _ _ _ _=>false
 |_=>true
def ku:Expr->Option (Str×List Expr×List Keyword)
 |.Call f es ks _=>match f with
  |.Name x _=>some (x,es,ks)
  |_=>none
 |_=>none
def uq(e:Expr):Option (Str×Str×List Expr):=match ku e with
 |some (x,[c],[])=>match ku c with
  |some (y,es,[])=>some (x,y,es)
  |_=>none
 |_=>none
def isTup:Expr->Bool
 |.Tuple _ _ _=>true
 |_=>false
def OG{b:Type}{a:b}(h:none=some a):P:=by cases h
def ff(h:false=true):P:=by cases h
def fz{ks:List Keyword}(h:ku e=some (y,es,ks)):∃p q,e=.Call (.Name y p) es ks q:=by
 cases e with
 |Call f es ks q=>
  cases f with
  |Name y p=>cases h;exact⟨p,q,rfl⟩
  |_=>exact OG h
 |_=>exact OG h
def qi{x:Str}(h:uq e=some (x,y,es)):∃p q a b,e=.Call (.Name x p) [.Call (.Name y a) es [] b] [] q:=by
 unfold uq at h;split at h
 .rename_i h1
  split at h
  .rename_i c
   cases h;obtain⟨p,q,rfl⟩:=fz h1;obtain⟨a,b,rfl⟩:=fz c;exact⟨p,q,a,b,rfl⟩
  .cases h
 .cases h
def HB(h:isTup e=true):∃es k p,e=.Tuple es k p:=by
 cases e with
 |Tuple es k p=>exact⟨es,k,p,rfl⟩
 |_=>exact ff h
mutual
noncomputable def aC:du->E->Expr->Bool
 |Γ,.var i,e=>match e with
  |.Name x _=>E2 Γ i x
  |_=>false
 |_,.int i,e=>match e with
  |.Constant (.int j) _ _=>decide (i=j)
  |_=>false
 |_,.str i,e=>match e with
  |.Constant (.str j) _ _=>decide (i=j)
  |_=>false
 |_,.bl i,e=>match e with
  |.Constant (.bool j) _ _=>decide (i=j)
  |_=>false
 |_,.non,e=>match e with
  |.Constant .none _ _=>true
  |_=>false
 |Γ,.glob j,e=>match e with
  |.Name x _=>dF Γ x&&decide (Γ.glob[j]?=some x)
  |_=>false
 |Γ,.ty n,e=>match e with
  |.Name x _=>dF Γ x&&Γ.blt.contains x&&decide (x=Str.ofString n)&&um.contains n
  |_=>false
 |Γ,.bin o a b,e=>match e with
  |.BinOp l op r _=>decide (o=op)&&aC Γ a l&&aC Γ b r
  |_=>false
 |Γ,.cmp o a b,e=>match e with
  |.Compare l [op] [r] _=>decide (o=op)&&aC Γ a l&&aC Γ b r && !(behindInMarks op r)
  |_=>false
 |Γ,.and a b,e=>match e with
  |.BoolOp .And [l,r] _=>aC Γ a l&&aC Γ b r
  |.BoolOp .And (l::r::q::rest) pos=>aC Γ a l&&aC Γ b (.BoolOp .And (r::q::rest) pos)
  |_=>false
 |Γ,.or a b,e=>match e with
  |.BoolOp .Or [l,r] _=>aC Γ a l&&aC Γ b r
  |.BoolOp .Or (l::r::q::rest) pos=>aC Γ a l&&aC Γ b (.BoolOp .Or (r::q::rest) pos)
  |_=>false
 |Γ,.not a,e=>match e with
  |.UnaryOp .Not l _=>aC Γ a l
  |_=>false
 |Γ,.ite c a b,e=>match e with
  |.IfExp t l r _=>dR Γ c t&&aC Γ a l&&aC Γ b r
  |_=>false
 |Γ,.fn j es,e=>match ku e with
  |some (x,a::as,[])=>dF Γ x&&decide (Γ.fns[j]?=some x)&&ay a&&as.all ay&&dG Γ es (a::as)
  |_=>false
 |Γ,.bi b es,e=>match ku e with
  |some (x,a::as,[])=>dF Γ x&&Γ.blt.contains x&&decide (x=ua b)&&ay a&&as.all ay&&dG Γ es (a::as)
  |_=>false
 |Γ,.bk b es,e=>match ku e with
  |some (x,a::as,[])=>dF Γ x&&Γ.blt.contains x&&decide (x=ul b)&&ay a&&as.all ay&&dG Γ es (a::as)
  |_=>false
 |Γ,.lenSet a,e=>match uq e with
  |some (x,y,[l])=>dF Γ x&&Γ.blt.contains x&&decide (x=("len" : Str))&&dF Γ y&&Γ.blt.contains y&&decide (y=("set" : Str))&&ay l&&aC Γ a l
  |_=>false
 |Γ,.lrg es,e=>match uq e with
  |some (x,y,[l])=>dF Γ x&&Γ.blt.contains x&&decide (x=("list" : Str))&&dF Γ y&&Γ.blt.contains y&&decide (y=("range" : Str))&&ay l&&dG Γ es [l]
  |some (x,y,[l,r])=>dF Γ x&&Γ.blt.contains x&&decide (x=("list" : Str))&&dF Γ y&&Γ.blt.contains y&&decide (y=("range" : Str))&&ay l&&ay r&&dG Γ es [l,r]
  |_=>false
 |Γ,.mt m o es,e=>match e with
  |.Call (.Attribute l x r_) (a::as) [] pos=>decide (x=ud m)&&aC Γ o l&&cw l&&ay a&&as.all ay&&decide (as.length<20)&&(r_.endLine==pos.line)&&dG Γ es (a::as)
  |_=>false
 |Γ,.mt0 m o,e=>match e with
  |.Call (.Attribute l x r_) [] [] pos=>decide (x=ud m)&&aC Γ o l&&cw l&&(r_.endLine==pos.line)
  |_=>false
 |Γ,.ix a b,e=>match e with
  |.Subscript l r _=>aC Γ a l&&aC Γ b r&&gF r
  |_=>false
 |Γ,.sl a lo hi,e=>match e with
  |.Subscript l (.Slice x y none _) _=>aC Γ a l&&oi Γ lo x&&oi Γ hi y
  |_=>false
 |Γ,.sl2 a lo hi,e=>match e with
  |.Subscript l (.Slice x y (some (.Constant (.int k) _ _)) _) _=>aC Γ a l&&oi Γ lo x&&oi Γ hi y&&decide (k=3)
  |_=>false
 |Γ,.lst es,e=>match e with
  |.List as _=>dG Γ es as&&decide (as.length<=1000)
  |_=>false
 |Γ,.tup es,e=>match e with
  |.Tuple as _ _=>dG Γ es as&&decide (as.length<=1000)
  |_=>false
 |Γ,.comp n e t i c,ex=>match ex with
  |.ListComp L_ [⟨tg,it,ifs,ia⟩] sc _=>nq Γ sc&&decide (n=(ownOf sc).length)&&decide (ia=0)&&qj Γ i tg it&&kW it&&q9 (inComp Γ sc) t tg&&ur (inComp Γ sc) c ifs&&aC (inComp Γ sc) e L_
  |_=>false
 |Γ,.neg a,e=>match e with
  |.UnaryOp .USub l _=>aC Γ a l
  |_=>false
 |Γ,.inv a,e=>match e with
  |.UnaryOp .Invert l _=>aC Γ a l
  |_=>false
 |_,.dnew,e=>match e with
  |.Dict [] [] _=>true
  |_=>false
 |Γ,.fld o f,e=>match e with
  |.Attribute l x _=>aC Γ o l&&decide (x=f)&&cw l
  |_=>false
 |Γ,.mu m o es,e=>match e with
  |.Call (.Attribute l x r_) (a::as) [] pos=>decide (x=m)&&aC Γ o l&&cw l&&ay a&&as.all ay&&decide (as.length<19)&&(r_.endLine==pos.line)&&dG Γ es (a::as)
  |_=>false
 |Γ,.mu0 m o,e=>match e with
  |.Call (.Attribute l x r_) [] [] pos=>decide (x=m)&&aC Γ o l&&cw l&&(r_.endLine==pos.line)
  |_=>false
noncomputable def Dh:du->Ps->List (Option Expr)->List Expr->Bool
 |_,.nil,ks,vs=>match ks,vs with
  |[],[]=>true
  |_,_=>false
 |Γ,.cons k v r,ks,vs=>match ks,vs with
  |some x::ks,y::vs=>aC Γ k x&&aC Γ v y&&Dh Γ r ks vs
  |_,_=>false
noncomputable def dG:du->Es->List Expr->Bool
 |_,.nil,as=>match as with
  |[]=>true
  |_=>false
 |Γ,.cons e es,as=>match as with
  |a::as=>aC Γ e a&&ay a&&dG Γ es as
  |_=>false
noncomputable def oi:du->Eo->Option Expr->Bool
 |_,.no,a=>match a with
  |none=>true
  |_=>false
 |Γ,.yes e,a=>match a with
  |some a=>aC Γ e a
  |_=>false
noncomputable def ur:du->To->List Expr->Bool
 |_,.no,as=>match as with
  |[]=>true
  |_=>false
 |Γ,.yes t,as=>match as with
  |[a]=>dR Γ t a
  |_=>false
noncomputable def dR:du->T->Expr->Bool
 |Γ,.ne2 a b,e=>match e with
  |.Compare l [.NotEq] [r] _=>aC Γ a l&&aC Γ b r && !(behindInMarks .NotEq r)
  |_=>false
 |Γ,.val e,ex=>aC Γ e ex&&E3 ex
 |Γ,.cmp o a b,e=>match e with
  |.Compare l [op] [r] _=>decide (o=op)&&aC Γ a l&&aC Γ b r && !(behindInMarks op r)
  |_=>false
 |Γ,.and a b,e=>match e with
  |.BoolOp .And [l,r] _=>dR Γ a l&&dR Γ b r
  |.BoolOp .And (l::r::q::rest) pos=>dR Γ a l&&dR Γ b (.BoolOp .And (r::q::rest) pos)
  |_=>false
 |Γ,.or a b,e=>match e with
  |.BoolOp .Or [l,r] _=>dR Γ a l&&dR Γ b r
  |.BoolOp .Or (l::r::q::rest) pos=>dR Γ a l&&dR Γ b (.BoolOp .Or (r::q::rest) pos)
  |_=>false
 |Γ,.not a,e=>match e with
  |.UnaryOp .Not l _=>dR Γ a l
  |_=>false
noncomputable def qj:du->I->Expr->Expr->Bool
 |Γ,.seq e,_,ex=>aC Γ e ex
 |Γ,.enum es,tg,e=>match isTup tg,ku e with
  |true,some (x,[a],[])=>dF Γ x&&Γ.blt.contains x&&decide (x=("enumerate" : Str))&&ay a&&dG Γ es [a]
  |_,_=>false
 |Γ,.rg1 es,_,e=>match ku e with
  |some (x,[a],[])=>dF Γ x&&Γ.blt.contains x&&decide (x=("range" : Str))&&ay a&&dG Γ es [a]
  |_=>false
 |Γ,.rg2 es,_,e=>match ku e with
  |some (x,[a,b],[])=>dF Γ x&&Γ.blt.contains x&&decide (x=("range" : Str))&&ay a&&ay b&&dG Γ es [a,b]
  |_=>false
end
def Bs:Expr->Bool
 |.Tuple _ _ _=>false
 |_=>true
mutual
noncomputable def iq:du->S->Stmt->Bool
 |Γ,.set i e,st=>match st with
  |.Assign [.Name x _] v _=>qh Γ i x&&(dm v||decide (Γ.sc.names.lookup x=some .cell))&&aC Γ e v
  |_=>false
 |Γ,.setC i n e t j c,st=>match st with
  |.Assign [.Name y py] (.ListComp L_ [⟨tg,it,ifs,ia⟩] sc pos) Rb=>decide (Γ.N[i]?=some y)&&decide (Γ.sc.names.lookup y=some .local)&&(py.line==pos.line) && !(sc.names.any λ(p:Str×NameKind)=>p.1==y&&(p.2==.local || p.2==.cell)) &&
   nq Γ sc&&decide (n=(ownOf sc).length)&&decide (ia=0)&&qj Γ j tg it&&kW it&&q9 (inComp Γ sc) t tg&&ur (inComp Γ sc) c ifs&&aC (inComp Γ sc) e L_
  |_=>false
 |Γ,.asg g e,st=>match st with
  |.Assign [.Tuple es k p] v _=>q9 Γ g (.Tuple es k p)&&dm v&&Bs v&&aC Γ e v
  |_=>false
 |Γ,.expr e,st=>match st with
  |.Expr v _=>dm v&&aC Γ e v
  |_=>false
 |Γ,.ret e,st=>match st with
  |.Return (some v) _=>aC Γ e v
  |_=>false
 |Γ,.ite t a b,st=>match st with
  |.If c x y _=>dR Γ t c&&c5 Γ a x&&c5 Γ b y
  |_=>false
 |Γ,.for g j b,st=>match st with
  |.For tg it body [] _=>q9 Γ g tg&&qj Γ j tg it&&kW it&&c5 Γ b body
  |_=>false
 |_,.pass,st=>match st with
  |.Pass _=>true
  |_=>false
 |_,.never,_=>true
 |Γ,.putIx o i e,st=>match st with
  |.Assign [.Subscript l r _] v _=>aC Γ o l&&aC Γ i r&&aC Γ e v&&dm v&&gF r
  |_=>false
 |Γ,.putP o i e,st=>match st with
  |.Assign [.Subscript l r _] v _=>aC Γ o l&&aC Γ i r&&aC Γ e v&&dm v&&gF r
  |_=>false
 |Γ,.setF o f e,st=>match st with
  |.Assign [.Attribute l x _] v _=>aC Γ o l&&decide (x=f)&&aC Γ e v
  |_=>false
 |Γ,.while t b,st=>match st with
  |.While c body [] _=>dR Γ t c&&c5 Γ b body
  |_=>false
noncomputable def c5:du->Ss->List Stmt->Bool
 |_,.nil,l=>match l with
  |[]=>true
  |_=>false
 |Γ,.cons s r,l=>match l with
  |st::QH=>iq Γ s st&&c5 Γ r QH
  |_=>false
end
end DD
namespace DD
open PySem PySem.Spec PyProof.Rows L2
variable {y i_:Str}{i n:Nat}{C f:Addr}{N ps blt fns glob:Zf}{st:Stmt}{sp:az}{fd:Zv}{v c:Expr}{ir:Ss}{cn:Cn}{sc:Scope}{py pos' pos:Pos}{env:Env}{t:WT}
def dH(P:Zw)(w:World)(K:Za)(mg:Ze)(base:Heap)(k:Nat)(x:Str)(sp:az):Prop:=bS P w K mg base k x sp \/ ∃k',k=k'+1/\OF P w K mg base k' x sp
structure gX (Γ:du) (c:Cn) (X:Cx):Prop where
 N:X.N=Γ.N
 sc:X.env.scope=Γ.sc
 kind:Γ.sc.kind=.function
 nd:Γ.N.Nodup
 calm:X.calm=true
 fn:Γ.all=true->∀x,X.fn x=true
 own:PassesOwn 'c' X.A X.env X.xe
 glob:∀(j:Nat) x,Γ.glob[j]?=some x->pU X.K X.mg x (c.G.getD j .non)
 blt:∀x,Γ.blt.contains x=true->X.mg x=none
 fns:∀(j:Nat) x,Γ.fns[j]?=some x->∃k,dH X.prog X.w X.K X.mg X.base k x (c.F.getD j λ_ _ _=>False)/\ck k X.A
 flds:∀C f,c.O C f->fV X.K C/\dc X.K C f
 mts:CV X c.T
 isi:∀C d b,c.I C d=some b->IY X.K C d b
 hu:X.A.units+40<cLine
section
variable {Γ:du}{X:Cx}{e:Expr}{pos:Pos}{cn:Cn}
def Nn(sc:Scope)(env:Env):relabel sc env=HA sc env.scope:=rfl
theorem gX.comp{s:Shared}{H:Hp}{ex:Zh}{pn:Zc}(g:gX Γ cn X)(h:nq Γ sc=true):gX (inComp Γ sc) cn (dP X sc (ownOf sc) (vq Γ sc) C s H ex pn):=by
 unfold nq at h;simp only[YZ,XT] at h;obtain⟨⟨⟨⟨⟨h1,b⟩,j⟩,k⟩,l⟩,a⟩:=h;refine⟨rfl,?_,h1,a,g.calm,(λz=>nomatch z),PassesOwn.never,g.glob,g.blt,g.fns,g.flds,g.mts,g.isi,g.hu⟩;show relabel sc X.env=HA sc Γ.sc;rw[Nn,g.sc]
theorem gX.cscope(g:gX Γ cn X)(h:nq Γ sc=true):gT Γ.sc sc X.N (ownOf sc) (vq Γ sc):=by
 unfold nq at h;simp only[YZ,XT] at h;obtain⟨⟨⟨⟨⟨h1,a⟩,b⟩,j⟩,k⟩,l⟩:=h;rw[XO] at a b j k;refine⟨h1,λy hy=>XR (a y hy),λy hy=>XR (b y hy),λy hy=>XR (j y hy),?_,λp hp=>?_⟩
 .rw[g.N];unfold vq;rw[ZF]
 .rw[g.N] at hp;exact XR (k p hp)
def HC(h:Df (sc.names.lookup y)=true):xH sc y:=by
 unfold Df at h;unfold xH;split at h
 .exact .inl (by assumption)
 .exact .inr (.inl (by assumption))
 .exact .inr (.inr (by assumption))
 .exact ff h
def HD(h:Dg (sc.names.lookup y)=true):L2.Loc sc y:=by
 unfold Dg at h;unfold L2.Loc;split at h
 .exact .inl (by assumption)
 .exact .inr (by assumption)
 .exact ff h
def Di(g:gX Γ cn X)(h:qh Γ i y=true):X.N.Nodup/\X.N[i]?=some y/\L2.Loc X.env.scope y/\(X.fn y=true\/X.env.scope.names.lookup y=some .local):=by
 unfold qh at h;simp only[YZ,Bool.or_eq_true,XT] at h;obtain⟨⟨h1,a⟩,b⟩:=h;rw[g.N,g.sc];exact⟨g.nd,h1,HD a,b.imp (λz=>g.fn z y) id⟩
def iu(g:gX Γ cn X)(h:dF Γ y=true):Gl X y/\(y==("__debug__" : Str))=false:=by
 unfold dF at h;simp only[YZ,XT,Bool.not_eq_true'] at h;refine⟨?_,h.2⟩;show X.env.scope.names.lookup y=_;rw[g.sc];exact h.1
theorem Jc(g:gX Γ cn X):∀{is:Zj}{es:Zg},uo Γ is es=true->AA X es (Cs is)/\(assignEach es X.env).length=is.length/\(assignEach es X.env).findIdx? (·.1)=none
 |[],[],_=>⟨Jw,rfl,rfl⟩
 |i::is,.Name x p::es,h=>by
  unfold uo at h;rw[YZ] at h;obtain⟨h1,j,k⟩:=Jc g h.2;obtain⟨a,b,c,d⟩:=Di g h.1;refine⟨FU (AB a b c d) h1 rfl,?_,?_⟩
  .show(assignEach es X.env).length+1=is.length+1;rw[j]
  .show List.findIdx? (·.1) ((false,assign (.Name x p) X.env)::assignEach es X.env)=none
   rw[List.findIdx?_cons];simp[k]
 |[],_::_,h=>ff h
 |_::_,[],h=>ff h
 |_::_,.BoolOp .. :: _,h=>ff h
 |_::_,.NamedExpr .. :: _,h=>ff h
 |_::_,.BinOp .. :: _,h=>ff h
 |_::_,.UnaryOp .. :: _,h=>ff h
 |_::_,.Lambda .. :: _,h=>ff h
 |_::_,.IfExp .. :: _,h=>ff h
 |_::_,.Dict .. :: _,h=>ff h
 |_::_,.Set .. :: _,h=>ff h
 |_::_,.ListComp .. :: _,h=>ff h
 |_::_,.SetComp .. :: _,h=>ff h
 |_::_,.DictComp .. :: _,h=>ff h
 |_::_,.GeneratorExp .. :: _,h=>ff h
 |_::_,.Await .. :: _,h=>ff h
 |_::_,.Yield .. :: _,h=>ff h
 |_::_,.YieldFrom .. :: _,h=>ff h
 |_::_,.Compare .. :: _,h=>ff h
 |_::_,.Call .. :: _,h=>ff h
 |_::_,.FormattedValue .. :: _,h=>ff h
 |_::_,.JoinedStr .. :: _,h=>ff h
 |_::_,.Constant .. :: _,h=>ff h
 |_::_,.Attribute .. :: _,h=>ff h
 |_::_,.Subscript .. :: _,h=>ff h
 |_::_,.Starred .. :: _,h=>ff h
 |_::_,.List .. :: _,h=>ff h
 |_::_,.Tuple .. :: _,h=>ff h
 |_::_,.Slice .. :: _,h=>ff h
def Dk{t:dZ}(g:gX Γ cn X)(h:q9 Γ t v=true):PG X v (x9 X.K t):=by
 unfold q9 at h;split at h
 .obtain⟨a,b,c,d⟩:=Di g h
  exact AB a b c d
 .obtain⟨h1,j,k⟩:=Jc g h
  exact Mz g.calm h1 j k
 .exact ff h
def E4(h:E3 e=true):∀b,isTrue e env b=(do let v ←b;standAt e.pos;holding [v] (truthy v)):=by
 intro w;cases e with
 |UnaryOp op a p=>cases op<;>first | rfl | exact absurd (show false=true from h) YF
 |BoolOp _ _ _=>exact absurd (show false=true from h) YF
 |IfExp _ _ _ _=>exact absurd (show false=true from h) YF
 |Compare _ _ _ _=>exact absurd (show false=true from h) YF
 |_=>rfl
def KD:∀n∈um,bootBuiltins (Str.ofString n)=some (.type n):=by rfl'
def KF:∀n∈um,Str.ofString n≠("__name__" : Str):=by rfl'
def ut(h:kS X e t)(hp:(∃vs p,e=.BoolOp .And vs p) \/ ∃vs p,e=.BoolOp .Or vs p):tK X e t:=by
 rcases hp with⟨vs,p,rfl⟩ | ⟨vs,p,rfl⟩
 .intro σ M ρ H Q rs b q a b_ s I
  exact h σ M ρ H Q rs b q b_ s I
 .intro σ M ρ H Q rs b q a b_ s I
  exact h σ M ρ H Q rs b q b_ s I
mutual
theorem sE:∀(ir:E){Γ:du}{cn:Cn}{X:Cx}{e:Expr},gX Γ cn X->aC Γ ir e=true->aN X e (wE cn ir)
 |.var i,Γ,cn,X,e,g,h=>by
  unfold aC at h;split at h
  .unfold E2 at h
   simp only[YZ,XT,Bool.not_eq_true'] at h;rw[wE];exact JV (by rw[g.N];exact h.1.1.1) (by rw[g.sc];exact HC h.1.1.2) h.1.2 h.2
  .exact ff h
 |.int i,Γ,cn,X,e,g,h=>by
  unfold aC at h;split at h
  .cases XR h;rw[wE];exact JW
  .exact ff h
 |.str i,Γ,cn,X,e,g,h=>by
  unfold aC at h;split at h
  .cases XR h;rw[wE];exact JX
  .exact ff h
 |.bl i,Γ,cn,X,e,g,h=>by
  unfold aC at h;split at h
  .cases XR h;rw[wE];exact Mo
  .exact ff h
 |.non,Γ,cn,X,e,g,h=>by
  unfold aC at h;split at h
  .rw[wE];exact JY
  .exact ff h
 |.glob j,Γ,cn,X,e,g,h=>by
  unfold aC at h;split at h
  .rw[YZ] at h
   obtain⟨h1,h2⟩:=iu g h.1;rw[wE];exact Gn h1 (g.glob j _ (XR h.2)) h2
  .exact ff h
 |.ty n,Γ,cn,X,e,g,h=>by
  unfold aC at h;split at h
  .simp only[YZ,XT] at h
   obtain⟨⟨⟨h1,h2⟩,rfl⟩,h4⟩:=h;obtain⟨h5,h6⟩:=iu g h1;have h4:n∈um:=by simpa using h4
   rw[wE];exact qK (Jr (v:=.ty n) h5 (g.blt _ h2) (KD n h4) rfl (KF n h4) h6) λ_=>RV.ty_.2 rfl
  .exact ff h
 |.bin o a b,Γ,cn,X,e,g,h=>by
  unfold aC at h;split at h
  .simp only[YZ,XT] at h
   obtain⟨⟨rfl,h2⟩,h3⟩:=h;rw[wE];exact JZ (Kk o) (sE a g h2) (sE b g h3)
  .exact ff h
 |.cmp o a b,Γ,cn,X,e,g,h=>by
  unfold aC at h;split at h
  .simp only[YZ,XT,Bool.not_eq_true'] at h
   obtain⟨⟨⟨rfl,h2⟩,h3⟩,h4⟩:=h;rw[wE];exact J0 (A4 g.hu o) (sE a g h2) (sE b g h3) h4
  .exact ff h
 |.and a b,Γ,cn,X,e,g,h=>by
  unfold aC at h;split at h
  .rw[YZ] at h
   rw[wE];exact AT (sE a g h.1) (AS (sE b g h.2))
  .rw[YZ] at h
   rw[wE];exact AT (sE a g h.1) (sE b g h.2)
  .exact ff h
 |.or a b,Γ,cn,X,e,g,h=>by
  unfold aC at h;split at h
  .rw[YZ] at h
   rw[wE];exact El (sE a g h.1) (AS (sE b g h.2))
  .rw[YZ] at h
   rw[wE];exact El (sE a g h.1) (sE b g h.2)
  .exact ff h
 |.not a,Γ,cn,X,e,g,h=>by
  unfold aC at h;split at h
  .rw[wE];exact J3 (sE a g h)
  .exact ff h
 |.ite c a b,Γ,cn,X,e,g,h=>by
  unfold aC at h;split at h
  .simp only[YZ] at h
   rw[wE];exact Em (sT c g h.1.1) (sE a g h.1.2) (sE b g h.2)
  .exact ff h
 |.fn j es,Γ,cn,X,e,g,h=>by
  unfold aC at h;split at h
  .rename_i q_
   obtain⟨_,_,rfl⟩:=fz q_;simp only[YZ,XT] at h;obtain⟨⟨⟨⟨h1,h2⟩,h3⟩,h4⟩,h5⟩:=h;obtain⟨h6,h7⟩:=iu g h1;obtain⟨k,Fj,hr⟩:=g.fns j _ h2;rw[wE];rcases Fj with Fj | ⟨k',rfl,Fj⟩
   .exact J9 Fj hr h6 h7 h3 h4 (lW es g h5)
   .exact Hb Fj hr h6 h7 h3 h4 (lW es g h5)
  .exact ff h
 |.bi b es,Γ,cn,X,e,g,h=>by
  unfold aC at h;split at h
  .rename_i q_
   obtain⟨_,_,rfl⟩:=fz q_;simp only[YZ,XT] at h;obtain⟨⟨⟨⟨⟨h1,h2⟩,rfl⟩,h3⟩,h4⟩,h5⟩:=h;obtain⟨h6,h7⟩:=iu g h1;rw[wE];exact MZ b g.calm h6 (g.blt _ h2) h3 h4 (lW es g h5)
  .exact ff h
 |.bk b es,Γ,cn,X,e,g,h=>by
  unfold aC at h;split at h
  .rename_i q_
   obtain⟨_,_,rfl⟩:=fz q_;simp only[YZ,XT] at h;obtain⟨⟨⟨⟨⟨h1,h2⟩,rfl⟩,h3⟩,h4⟩,h5⟩:=h;obtain⟨h6,h7⟩:=iu g h1;rw[wE];exact Nm b g.calm h6 (g.blt _ h2) h3 h4 (lW es g h5)
  .exact ff h
 |.lenSet a,Γ,cn,X,e,g,h=>by
  unfold aC at h;split at h
  .rename_i q_
   obtain⟨_,_,_,_,rfl⟩:=qi q_;simp only[YZ,XT] at h;obtain⟨⟨⟨⟨⟨⟨⟨h1,h2⟩,rfl⟩,h3⟩,h4⟩,rfl⟩,h5⟩,h6⟩:=h;rw[wE];exact C2 g.calm (iu g h1).1 (g.blt _ h2) (iu g h3).1 (g.blt _ h4) (sE a g h6) h5
  .exact ff h
 |.lrg es,Γ,cn,X,e,g,h=>by
  unfold aC at h;split at h
  .rename_i q_
   obtain⟨_,_,_,_,rfl⟩:=qi q_;simp only[YZ,XT] at h;obtain⟨⟨⟨⟨⟨⟨⟨h1,h2⟩,rfl⟩,h3⟩,h4⟩,rfl⟩,h5⟩,h6⟩:=h;rw[wE];exact Hm g.calm (iu g h1).1 (g.blt _ h2) (iu g h3).1 (g.blt _ h4) (lW es g h6) h5
  .rename_i q_
   obtain⟨_,_,_,_,rfl⟩:=qi q_;simp only[YZ,XT] at h;obtain⟨⟨⟨⟨⟨⟨⟨⟨h1,h2⟩,rfl⟩,h3⟩,h4⟩,rfl⟩,h5⟩,h5'⟩,h6⟩:=h;rw[wE];exact Hn g.calm (iu g h1).1 (g.blt _ h2) (iu g h3).1 (g.blt _ h4) (lW es g h6) h5 h5'
  .exact ff h
 |.mt m o es,Γ,cn,X,e,g,h=>by
  unfold aC at h;split at h
  .simp only[YZ,XT] at h
   obtain⟨⟨⟨⟨⟨⟨⟨rfl,h1⟩,h2⟩,h3⟩,h4⟩,h5⟩,h6⟩,h7⟩:=h;rw[wE];exact Ks g.hu m (sE o g h1) (lW es g h7) h2 h3 h4 h5 h6
  .exact ff h
 |.mt0 m o,Γ,cn,X,e,g,h=>by
  unfold aC at h;split at h
  .simp only[YZ,XT] at h
   obtain⟨⟨⟨rfl,h1⟩,h2⟩,h3⟩:=h;rw[wE];exact G2 g.hu m (sE o g h1) h2 h3
  .exact ff h
 |.ix a b,Γ,cn,X,e,g,h=>by
  unfold aC at h;split at h
  .simp only[YZ] at h
   rw[wE];exact MQ g.hu (sE a g h.1.1) (sE b g h.1.2) h.2
  .exact ff h
 |.sl a lo hi,Γ,cn,X,e,g,h=>by
  unfold aC at h;split at h
  .simp only[YZ] at h
   rw[wE];exact MU (sE a g h.1.1) (Jd lo g h.1.2) (Jd hi g h.2)
  .exact ff h
 |.sl2 a lo hi,Γ,cn,X,e,g,h=>by
  unfold aC at h;split at h
  .simp only[YZ,XT] at h
   obtain⟨h,rfl⟩:=h;rw[wE];exact Kw (sE a g h.1.1) (Jd lo g h.1.2) (Jd hi g h.2)
  .cases h
 |.lst es,Γ,cn,X,e,g,h=>by
  unfold aC at h;split at h
  .simp only[YZ,XT] at h
   rw[wE];exact J8 (lW es g h.1) h.2
  .exact ff h
 |.tup es,Γ,cn,X,e,g,h=>by
  unfold aC at h;split at h
  .simp only[YZ,XT] at h
   rw[wE];exact J7 (lW es g h.1) h.2
  .exact ff h
 |.comp n el t i c,Γ,cn,X,e,g,h=>by
  unfold aC at h;split at h
  .simp only[YZ,XT] at h
   obtain⟨⟨⟨⟨⟨⟨⟨h1,rfl⟩,rfl⟩,h2⟩,h3⟩,h4⟩,h5⟩,h6⟩:=h;rw[wE];exact GM (g.cscope h1) g.sc g.calm (sI i g h2) (λC s H0 ex pn=>Dk (g.comp h1) h4) (λC s H0 ex pn=>OH c (Γ:=inComp Γ _) (g.comp h1) h5) (λC s H0 ex pn=>sE el (Γ:=inComp Γ _) (g.comp h1) h6) h3
  .exact ff h
 |.neg a,Γ,cn,X,e,g,h=>by
  unfold aC at h;split at h
  .rw[wE];exact Kt (sE a g h)
  .exact ff h
 |.inv a,Γ,cn,X,e,g,h=>by
  unfold aC at h;split at h
  .rw[wE];exact Ku (sE a g h)
  .exact ff h
 |.dnew,Γ,cn,X,e,g,h=>by
  unfold aC at h;split at h
  .rw[wE];exact G6
  .exact ff h
 |.fld o f,Γ,cn,X,e,g,h=>by
  unfold aC at h;split at h
  .simp only[YZ,XT] at h
   obtain⟨⟨h1,rfl⟩,h3⟩:=h;rw[wE];exact Kv g.flds (sE o g h1) h3
  .exact ff h
 |.mu m o es,Γ,cn,X,e,g,h=>by
  unfold aC at h;split at h
  .simp only[YZ,XT] at h
   obtain⟨⟨⟨⟨⟨⟨⟨rfl,h1⟩,h2⟩,h3⟩,h4⟩,h5⟩,h6⟩,h7⟩:=h;rw[wE];exact Hc g.mts (sE o g h1) (lW es g h7) h2 h3 h4 h5 h6
  .exact ff h
 |.mu0 m o,Γ,cn,X,e,g,h=>by
  unfold aC at h;split at h
  .simp only[YZ,XT] at h
   obtain⟨⟨⟨rfl,h1⟩,h2⟩,h3⟩:=h;rw[wE];exact EH g.mts (sE o g h1) h2 h3
  .exact ff h
theorem sP:∀(ir:Ps){Γ:du}{cn:Cn}{X:Cx}{ks:List (Option Expr)}{vs:Zg},gX Γ cn X->Dh Γ ir ks vs=true->IV X ks vs (wP cn ir)
 |.nil,Γ,cn,X,ks,vs,g,h=>by
  unfold Dh at h;split at h
  .rw[wP];exact .nil
  .exact ff h
 |.cons k v r,Γ,cn,X,ks,vs,g,h=>by
  unfold Dh at h;split at h
  .simp only[YZ] at h
   rw[wP];exact .cons (sE k g h.1.1) (sE v g h.1.2) (sP r g h.2)
  .exact ff h
theorem lW:∀(ir:Es){Γ:du}{cn:Cn}{X:Cx}{es:Zg},gX Γ cn X->dG Γ ir es=true->gU X es (wEs cn ir)
 |.nil,Γ,cn,X,es,g,h=>by
  unfold dG at h;split at h
  .rw[wEs];exact J6
  .exact ff h
 |.cons e r,Γ,cn,X,es,g,h=>by
  unfold dG at h;split at h
  .simp only[YZ] at h
   rw[wEs];exact Gw (sE e g h.1.1) (lW r g h.2) h.1.2
  .exact ff h
theorem Jd:∀(ir:Eo){Γ:du}{cn:Cn}{X:Cx}{e:Option Expr},gX Γ cn X->oi Γ ir e=true->yl X e (wEo cn ir)
 |.no,Γ,cn,X,e,g,h=>by
  unfold oi at h;split at h
  .rw[wEo];exact GX
  .exact ff h
 |.yes a,Γ,cn,X,e,g,h=>by
  unfold oi at h;split at h
  .rw[wEo];exact GY (sE a g h)
  .exact ff h
theorem OH:∀(ir:To){Γ:du}{cn:Cn}{X:Cx}{e:Zg},gX Γ cn X->ur Γ ir e=true->CF X e (oZ cn ir)
 |.no,Γ,cn,X,e,g,h=>by
  unfold ur at h;split at h
  .rw[oZ];exact .inl ⟨rfl,rfl⟩
  .exact ff h
 |.yes a,Γ,cn,X,e,g,h=>by
  unfold ur at h;split at h
  .rw[oZ];exact .inr ⟨_,rfl,sT a g h⟩
  .exact ff h
theorem sT:∀(ir:T){Γ:du}{cn:Cn}{X:Cx}{e:Expr},gX Γ cn X->dR Γ ir e=true->kS X e (wT cn ir)
 |.val a,Γ,cn,X,e,g,h=>by
  unfold dR at h;rw[YZ] at h;rw[wT];exact J5 (sE a g h.1) (E4 h.2)
 |.ne2 a b,Γ,cn,X,e,g,h=>by
  unfold dR at h;split at h
  .simp only[YZ,Bool.not_eq_true'] at h
   rw[wT];exact AQ (Km g.hu) (sE a g h.1.1) (sE b g h.1.2) h.2
  .exact ff h
 |.cmp o a b,Γ,cn,X,e,g,h=>by
  unfold dR at h;split at h
  .simp only[YZ,XT,Bool.not_eq_true'] at h
   obtain⟨⟨⟨rfl,h2⟩,h3⟩,h4⟩:=h;rw[wT];exact AQ (A4 g.hu o) (sE a g h2) (sE b g h3) h4
  .exact ff h
 |.and a b,Γ,cn,X,e,g,h=>by
  unfold dR at h;split at h
  .rw[YZ] at h
   rw[wT];exact(AR (sT a g h.1) (Gr (sT b g h.2))).pt
  .rw[YZ] at h
   rw[wT];exact(AR (sT a g h.1) (ut (sT b g h.2) (.inl ⟨_,_,rfl⟩))).pt
  .exact ff h
 |.or a b,Γ,cn,X,e,g,h=>by
  unfold dR at h;split at h
  .rw[YZ] at h
   rw[wT];exact(Ek (sT a g h.1) (J2 (sT b g h.2))).pt
  .rw[YZ] at h
   rw[wT];exact(Ek (sT a g h.1) (ut (sT b g h.2) (.inr ⟨_,_,rfl⟩))).pt
  .exact ff h
 |.not a,Γ,cn,X,e,g,h=>by
  unfold dR at h;split at h
  .rw[wT];exact J1 (sT a g h)
  .exact ff h
theorem sI:∀(ir:I){Γ:du}{cn:Cn}{X:Cx}{tg e:Expr},gX Γ cn X->qj Γ ir tg e=true->wd X tg e (wI cn ir)
 |.seq a,Γ,cn,X,tg,e,g,h=>by
  unfold qj at h;rw[wI];exact Kg (sE a g h)
 |.enum es,Γ,cn,X,tg,e,g,h=>by
  unfold qj at h;split at h
  .rename_i t_ q_
   obtain⟨_,_,_,rfl⟩:=HB t_;obtain⟨_,_,rfl⟩:=fz q_;simp only[YZ,XT] at h;obtain⟨⟨⟨⟨h1,h2⟩,rfl⟩,h3⟩,h4⟩:=h;rw[wI];exact Hf (iu g h1).1 (g.blt _ h2) (lW es g h4) h3
  .exact ff h
 |.rg1 es,Γ,cn,X,tg,e,g,h=>by
  unfold qj at h;split at h
  .rename_i q_
   obtain⟨_,_,rfl⟩:=fz q_;simp only[YZ,XT] at h;obtain⟨⟨⟨⟨h1,h2⟩,rfl⟩,h3⟩,h4⟩:=h;rw[wI];exact Cz (iu g h1).1 (g.blt _ h2) (lW es g h4) h3
  .exact ff h
 |.rg2 es,Γ,cn,X,tg,e,g,h=>by
  unfold qj at h;split at h
  .rename_i q_
   obtain⟨_,_,rfl⟩:=fz q_;simp only[YZ,XT] at h;obtain⟨⟨⟨⟨⟨h1,h2⟩,rfl⟩,h3⟩,h3'⟩,h4⟩:=h;rw[wI];exact CB (iu g h1).1 (g.blt _ h2) (lW es g h4) h3 h3'
  .exact ff h
end
def Dl{a:List Comprehension}(g:gX Γ cn X)(h1:Γ.sc.names.lookup y=some .local)(b:(py.line==pos.line)=true)(j:(sc.names.any λ(p:Str×NameKind)=>p.1==y&&(p.2==.local || p.2==.cell))=false):
  swapsWith (.ListComp v a sc pos) (some (.Name y py)) pos'.line X.env=pure true:=by
 show pure (X.env.blockKind==.function&&X.env.kindOf y==some .local && py.line==pos.line && !(sc.names.any λ(p:Str×NameKind)=>p.1==y&&(p.2==.local || p.2==.cell)))=(pure true:Sem Bool);have e1:X.env.blockKind=.function:=by
  unfold Env.blockKind;rw[g.sc,g.kind];rfl
 have k:X.env.kindOf y=some .local:=by show X.env.scope.names.lookup y=_;rw[g.sc];exact h1
 rw[e1,k,b,j];rfl
def Dm(g:gX Γ cn X)(h1:Γ.sc.names.lookup y=some .cell)(v:Expr):swapsWith v (some (.Name y py)) n X.env=pure false:=by
 have j:X.env.kindOf y=some .cell:=by show X.env.scope.names.lookup y=_;rw[g.sc];exact h1
 have e3:(some NameKind.cell==some NameKind.local)=false:=rfl;have a:∀(b c d:Bool),(b&&X.env.kindOf y==some .local && c&&d)=false:=λb c d=>by rw[j,e3,XC,Bool.false_and,Bool.false_and]
 cases v<;>first | rfl | exact congrArg pure (a _ _ _)
def HE{t:WE}(b:X.N.Nodup)(hi:X.N[i]?=some y)(hx:Loc X.env.scope y)(hf:X.fn y=true\/X.env.scope.names.lookup y=some .local)(hc:swapsWith e (some (.Name y pos')) pos.line X.env=pure false)(h:aN X e t):
  kU X (.Assign [.Name y pos'] e pos) (GH i t):=by
 intro σ M ρ H D rs g q;refine eJ (LN b hi hx (bJ e) hc hf) ?_;show tW X e ρ H _;refine aM (h σ M ρ H _ rs g q) λv m z=>?_
 obtain⟨a,d,M1,j,k,l⟩:=z;exact⟨a,σ.set i (some d),M1,(rs.mono a).set i j,k,l⟩
def E5(h:dm v=true):swapsWithSole [c] v n env=pure false:=tQ h
def HF{es:Zg}(h:dm v=true)(h':Bs v=true):swapsWithSole [.Tuple es i py] v n env=pure false/\swappedStores [.Tuple es i py] v env=pure none:=by
 refine⟨E5 h,?_⟩;cases v<;>first | rfl | exact ff h'
def E6{body:Zu}{G:WS}(hp:PassesOwn 'c' X.A X.env X.xe)(hc:kS X c t)(hb:n6 X body G):kU X (.While c body [] pos) (k7 t G):=by
 intro σ M ρ H E rs O q;obtain⟨W,⟨P,R⟩,step⟩:=q;refine eJ (FV hp (nX c) (n5 body)) ?_;refine⟨λm o H'=>Kp H H'/\∃g M',RS X.K H' g o/\RM X.K M' H'/\W m g M',⟨P,Kp.refl H,σ,M,rs,O,R⟩,?_⟩;rintro m o H' ⟨k,g,M',r,S,T⟩;refine gD (hc g M' o H' _ r S (step m g M' T)) λb U V=>?_
 obtain⟨j,M1,I,J⟩:=V;cases b with
 |true=>
  obtain⟨N,Y,Z⟩:=J;refine⟨λL p=>Kp H p/\∃l M2,RS X.K p l L/\RM X.K M2 p/\N l M2,λL p ⟨k2,l,M2,a,b,n⟩=>let⟨m',h1,h2⟩:=Y l M2 n;⟨m',h1,k2,l,M2,a,b,h2⟩,?_⟩;refine fo (hb g M1 o U _ (r.mono j) I Z) ⟨λW9 H4 Qq=>?_,λ_ _=>cI (k.trans j),λ_ _=>kT (k.trans j),λW9 H4 ⟨u,z,B,a,b,c⟩=>⟨(k.trans j).trans u,z,B,a,b,c⟩⟩;obtain⟨u,z,B,a,b,c⟩:=Qq;exact⟨(k.trans j).trans u,z,B,a,b,c⟩
 |false=>exact⟨k.trans j,g,M1,r.mono j,I,J⟩
mutual
theorem sS:∀(ir:S){Γ:du}{cn:Cn}{X:Cx}{st:Stmt},gX Γ cn X->iq Γ ir st=true->kU X st (wS cn ir)
 |.set i e,Γ,cn,X,st,g,h=>by
  unfold iq at h;split at h
  .simp only[YZ] at h
   obtain⟨a,b,c,d⟩:=Di g h.1.1;rw[wS];refine HE a b c d ?_ (sE e g h.2);rcases Bool.or_eq_true_iff.1 h.1.2 with z | z
   .exact tQ z
   .exact Dm g (XR z) _
  .exact ff h
 |.setC i n e t j c,Γ,cn,X,st,g,h=>by
  unfold iq at h;split at h
  .simp only[YZ,XT,Bool.not_eq_true'] at h
   obtain⟨⟨⟨⟨⟨⟨⟨⟨⟨⟨⟨a1,a2⟩,a3⟩,a4⟩,h1⟩,rfl⟩,rfl⟩,h2⟩,h3⟩,h4⟩,h5⟩,h6⟩:=h;rw[wS];exact GN (g.cscope h1) g.sc g.calm (by rw[g.N];exact g.nd) (by rw[g.N];exact a1) (by rw[g.sc];exact a2) (sI j g h2) (λC s H0 ex pn=>Dk (g.comp h1) h4)
    (λC s H0 ex pn=>OH c (Γ:=inComp Γ _) (g.comp h1) h5) (λC s H0 ex pn=>sE e (Γ:=inComp Γ _) (g.comp h1) h6) h3 (Dl g a2 a3 a4)
  .exact ff h
 |.asg t e,Γ,cn,X,st,g,h=>by
  unfold iq at h;split at h
  .simp only[YZ] at h
   obtain⟨⟨⟨h1,h2⟩,h3⟩,h4⟩:=h;obtain⟨q1,q2⟩:=HF h2 h3;rw[wS];exact Ke (sE e g h4) (Dk g h1) q1 q2 rfl
  .exact ff h
 |.expr e,Γ,cn,X,st,g,h=>by
  unfold iq at h;split at h
  .simp only[YZ] at h
   rw[wS];exact GG (sE e g h.2) h.1
  .exact ff h
 |.ret e,Γ,cn,X,st,g,h=>by
  unfold iq at h;split at h
  .rw[wS];exact Kc (sE e g h)
  .exact ff h
 |.ite t a b,Γ,cn,X,st,g,h=>by
  unfold iq at h;split at h
  .simp only[YZ] at h
   rw[wS];exact Mx (sT t g h.1.1) (yO a g h.1.2) (yO b g h.2)
  .exact ff h
 |.for t j b,Γ,cn,X,st,g,h=>by
  unfold iq at h;split at h
  .simp only[YZ] at h
   rw[wS];exact Kh g.own g.calm (sI j g h.1.1.2) (Dk g h.1.1.1) (yO b g h.2) h.1.2
  .exact ff h
 |.pass,Γ,cn,X,st,g,h=>by
  unfold iq at h;split at h
  .rw[wS];exact GF
  .exact ff h
 |.never,Γ,cn,X,st,g,h=>by rw[wS];exact Eu
 |.putIx o i e,Γ,cn,X,st,g,h=>by
  unfold iq at h;split at h
  .simp only[YZ] at h
   rw[wS];exact EG g.hu (sE e g h.1.1.2) (sE o g h.1.1.1.1) (sE i g h.1.1.1.2) h.1.2 h.2
  .exact ff h
 |.putP o i e,Γ,cn,X,st,g,h=>by
  unfold iq at h;split at h
  .simp only[YZ] at h
   rw[wS];exact Hv g.hu (sE e g h.1.1.2) (sE o g h.1.1.1.1) (sE i g h.1.1.1.2) h.1.2 h.2
  .exact ff h
 |.setF o f e,Γ,cn,X,st,g,h=>by
  unfold iq at h;split at h
  .simp only[YZ,XT] at h
   obtain⟨⟨h1,rfl⟩,h3⟩:=h;rw[wS];exact Ha g.flds (sE o g h1) (sE e g h3)
  .exact ff h
 |.while t b,Γ,cn,X,st,g,h=>by
  unfold iq at h;split at h
  .simp only[YZ] at h
   rw[wS];exact E6 g.own (sT t g h.1) (yO b g h.2)
  .exact ff h
theorem yO:∀(ir:Ss){Γ:du}{cn:Cn}{X:Cx}{st:Zu},gX Γ cn X->c5 Γ ir st=true->n6 X st (wSs cn ir)
 |.nil,Γ,cn,X,st,g,h=>by
  unfold c5 at h;split at h
  .rw[wSs];exact GD
  .exact ff h
 |.cons s r,Γ,cn,X,st,g,h=>by
  unfold c5 at h;split at h
  .simp only[YZ] at h
   rw[wSs];exact Et (sS s g h.1) (yO r g h.2)
  .exact ff h
end
end
section
variable {P:Zw}{w:World}{K:Za}{mg:Ze}{base:Heap}
structure Names (P:Zw) (w:World) (K:Za) (mg:Ze) (base:Heap) (k:Nat) (glob:Zf) (blt:Zf) (fns:Zf) (cn:Cn):Prop where
 glob:∀(j:Nat) x,glob[j]?=some x->pU K mg x (cn.G.getD j .non)
 blt:∀x,blt.contains x=true->mg x=none
 fns:∀(j:Nat) x,fns[j]?=some x->∃k',k'<=k/\dH P w K mg base k' x (cn.F.getD j λ_ _ _=>False)
 flds:∀C f,cn.O C f->fV K C/\dc K C f
 mts:∀C m sp,cn.T C m=some sp->∃k',k'<=k/\a9 P w K mg base k' C m sp
 isi:∀C d b,cn.I C d=some b->IY K C d b
def No(a:qJ K mg y st ps f fd)(S:cg N ps (am st))(nm:Names P w K mg base i glob blt fns cn)
  (hc:c5 ⟨N,am st,true,glob,blt,fns⟩ ir (aL st)=true) (len:∀ds M Q,sp ds M Q->ds.length=ps.length)
  (h:∀ds M Q,sp ds M Q->wSs cn ir { nx:=λ_ M'=>Q .non M',rt:=Q } (ai N ds) M):bS P w K mg base (i+1) y sp:=by
 refine Py a S len (λp_ A outer s H E hr=>?_) h;exact yO ir (Γ:=⟨N,am st,true,glob,blt,fns⟩) ⟨rfl,rfl,S.kind,S.nd,rfl,λ_ _=>rfl,PassesOwn.never,nm.glob,nm.blt,λj y e=>let⟨k',h1,h2⟩:=nm.fns j y e;⟨k',h2,hr.mono h1⟩,nm.flds,λC m sp e=>let⟨k',h1,h2⟩:=nm.mts C m sp e;⟨k',h2,hr.mono h1⟩,nm.isi,XH (Nat.add_le_add_left (by decide:40<=64) _) hr.units⟩ hc
theorem ni.x{x i_:Str}{st:Stmt}{f:Addr}{fd:Zv}(F:ni K x i_ st f fd):x4 K x i_ st f fd:=by
 obtain⟨oc,od,kV,v_,pm,an,p_,ct,E_,h1,a,b⟩:=F.ex;exact⟨oc,od,.none,kV,v_,pm,an,p_,ct,E_,h1,a,b⟩
theorem x4.ok{sp:Sp}(F:x4 K y i_ st f fd)(S:cg N ps (am st))(len:∀vs H Q E,sp vs H Q E->vs.length=ps.length)
  (a:∀(p_:Value) (A:Around) (outer:List Env) (s:Shared) (H:Hp) (vs:List V) (Q:VK) (E:XK),ck i (A.deeper (envOfC i_ (am st) s.heap.objs.size f p_))->sp vs H Q E ->
   ∃t,kN (nT jZ P w K mg base N i_ (am st) f p_ A outer s H E).nox (aL st) t/\t { nx:=λ_ H'=>Q .non H',rt:=Q } (L2.start N vs) H):fm P w K mg base jZ (i+1) f fd ps sp:=by
 obtain⟨oc,od,k,kV,v_,pm,an,p_,ct,E_,rfl,b,g⟩:=F;refine IH b g S len λA outer s H vs Q E hr j=>?_
 obtain⟨t,h,q⟩:=a p_ A outer s H vs Q E hr j;exact⟨t,h.nox,q⟩
def uu{k:Nat}(l:x4 K y i_ st f fd)(S:cg N ps (am st))(nm:Names P w K mg base k glob blt fns cn)
  (hc:c5 ⟨N,am st,true,glob,blt,fns⟩ ir (aL st)=true) (len:∀ds M Q,sp ds M Q->ds.length=ps.length)
  (h:∀ds M Q,sp ds M Q->wSs cn ir { nx:=λ_ M'=>Q .non M',rt:=Q } (ai N ds) M):fm P w K mg base jZ (k+1) f fd ps (ig K sp):=by
 refine l.ok S (λvs H Q E ⟨ds,M,a,r,_,s,_⟩=>by rw[←r.len];exact len ds M a s) λp_ A outer s H vs Q E hr ⟨ds,M,a,r,m,sq,g⟩=>⟨sJ _ _,n5 _,?_⟩
 have hb:=yO ir (Γ:=⟨N,am st,true,glob,blt,fns⟩) (X:=(nT jZ P w K mg base N i_ (am st) f p_ A outer s H E).nox) ⟨rfl,rfl,S.kind,S.nd,rfl,λ_ _=>rfl,PassesOwn.never,nm.glob,nm.blt,λj y e=>let⟨k',h1,h2⟩:=nm.fns j y e;⟨k',h2,hr.mono h1⟩,nm.flds,λC m sp e=>let⟨k',h1,h2⟩:=nm.mts C m sp e;⟨k',h2,hr.mono h1⟩,nm.isi,XH (Nat.add_le_add_left (by decide:40<=64) _) hr.units⟩ hc;refine fo (hb (ai N ds) M (L2.start N vs) H _ (ye r) m (h ds M a sq)) ⟨λu H' o=>?_,λv H' ⟨k',d,M',p,b,q⟩=>g _ _ _ _ q k' p b,λ_ _ ⟨_,_,_,_,_,q⟩=>q,λ_ _ ⟨_,_,_,_,_,q⟩=>q⟩;obtain⟨k',z,M',_,b,q⟩:=o;exact g _ _ _ _ q k' (RV.non_.2 rfl) b
end
section
variable {P:Zw}{w:World}{K:Za}{mg:Ze}{base:Heap}{k:Nat}
def ak{F:List az}:∀(j:Nat) (x:Str),([]:List Str)[j]?=some x->∃k',k'<=k/\dH P w K mg base k' x (F.getD j λ_ _ _=>False):=λj x e=>by simp at e
def ah{F:List az}(h1:i<=k)(h:dH P w K mg base i y sp)(t:∀(j:Nat) (x:Str),N[j]?=some x->∃k',k'<=k/\dH P w K mg base k' x (F.getD j λ_ _ _=>False)):
  ∀(j:Nat) (x:Str),(y::N)[j]?=some x->∃k',k'<=k/\dH P w K mg base k' x ((sp::F).getD j λ_ _ _=>False):=λj x e=>by
 cases j with
 |zero=>
  have:y=x:=by simpa using e
  subst this;exact⟨i,h1,h⟩
 |succ j=>exact t j x (by simpa using e)
def HG(cl:fV K C)(A:MethAt K C y i_ st f fd)(S:cg N ps (am st))(nm:Names P w K mg base k glob blt fns cn)
  (hb:∀(kV v_ pm:Value) (an:Zm) (p_ ct:Value) (us:Zd),us.length=ps.length->bindArgs (PySem.W.fnOf y i_ (bq st) (aL st) (am st) .none kV v_ pm an p_ ct) ⟨us,[]⟩=pure (ps.zip us))
  (hc:c5 ⟨N,am st,true,glob,blt,fns⟩ ir (aL st)=true) (len:∀ds M Q,sp ds M Q->ds.length=ps.length)
  (h:∀ds M Q,sp ds M Q->wSs cn ir { nx:=λ_ M'=>Q .non M',rt:=Q } (ai N ds) M):a9 P w K mg base (k+1) C y sp:=
 ⟨f,fd,ps,cl,A.meth,A.fun_.binds hb,uu (ni.x A.fun_) S nm hc len h⟩
def Np(hx:mg y=some (.ref C))(hm:PySem.W.makesIn K C=true)(hk:PySem.W.keepIn K (.ref C)=true)(A:MethAt K C "__init__" i_ st f fd)
  (S:cg N ps (am st)) (nm:Names P w K mg base k glob blt fns cn)
  (hb:∀(kV v_ pm:Value) (an:Zm) (p_ ct:Value) (us:Zd),us.length=ps.length->bindArgs (PySem.W.fnOf "__init__" i_ (bq st) (aL st) (am st) .none kV v_ pm an p_ ct) ⟨us,[]⟩=pure (ps.zip us))
  (hc:c5 ⟨N,am st,true,glob,blt,fns⟩ ir (aL st)=true) (len:∀ds M Q,sp ds M Q->ds.length=ps.length)
  (h:∀ds M Q,sp ds M Q->wSs cn ir { nx:=λ_ M'=>Q .non M',rt:=Q } (ai N ds) M):dH P w K mg base (k+2) y (bU C sp):=
 .inr ⟨k+1,rfl,C,f,fd,ps,sp,⟨hm,A.at_,A.fn,hk⟩,hx,uu (ni.x A.fun_) S nm hc len h,λ_=>⟨[],[],[],A.fun_.binds hb,.nil,λ_=>.nil,λxs M Q _ q=>by simpa only [ZA] using q⟩⟩
theorem KG{n:Int}(hx:mg y=some (.ref C))(hm:PySem.W.makesIn K C=true)(hk:PySem.W.keepIn K (.ref C)=true)(A:pZ K C "__init__" i_ st ps n)
  (S:cg N ps (am st)) (nm:Names P w K mg base k glob blt fns cn) (hc:c5 ⟨N,am st,true,glob,blt,fns⟩ ir (aL st)=true) (len:∀ds M Q,sp ds M Q->ds.length=ps.length)
  (h:∀ds M Q,sp ds M Q->wSs cn ir { nx:=λ_ M'=>Q .non M',rt:=Q } (ai N ds) M):dH P w K mg base (k+2) y (λxs M Q=>(xs.length=1/\bU C (λg=>sp (g++[.int n])) xs M Q)\/(xs.length=2/\bU C sp xs M Q)):=by
 obtain⟨f,fd,t,a,b,F,B,l⟩:=A;refine .inr ⟨k+1,rfl,C,f,fd,ps,sp,⟨hm,a,b,hk⟩,hx,uu F S nm hc len h,λj=>?_⟩;by_cases m:j=1
 .exact⟨[.int n],[.int n],[.int n t],B,.cons ⟨t,rfl⟩ .nil,λ_=>.cons (RV.int_.2 rfl) .nil,λxs M Q hl q=>q.elim (·.2) λz=>absurd (hl.symm.trans z.1) 'a'⟩
 .exact⟨[],[],[],l,.nil,λ_=>.nil,λxs M Q hl q=>q.elim (λz=>absurd (hl.symm.trans z.1) m) λz=>by simpa only [ZA] using z.2⟩
end
theorem ii.fun_{K:Za}(A:ii K y st f fd):ni K y y st f fd:=by
 obtain⟨oc,od,an,E_,kV,v_,pm,p_,ct,a,rfl,l,c,k⟩:=A.ex;exact xS l c k
end DD
open PySem L2 DD
local macro_rules
  | `(#v[]) => `(.nil)
  | `(#v[$x]) => `(.cons $x .nil)
  | `(#v[$x, $xs,*]) => `(.cons $x #v[$xs,*])
local macro_rules
  | `(~~~$x) => `(some (DD.D.int ($x : Int)))
local macro_rules
  | `(↑$x) => `(some (DD.D.ref $x))
local macro_rules
  | `(⇑$x) => `(DD.D.int ($x : Int))
local macro_rules
  | `(tactic| simp! only [$ts,*]) => do let l←("wSs wS wE wEs wEo oZ wT wI wP GC qP GI xw Gv rW Gp Mp Gq Cl Gs Cm Mr GE GH GJ Cu Cr jq yo MT Gy Gx pX Co G3 GL Cv Cw Cy CZ CD CG yt Db G9 CU ue Oq xX qL Gu intD bP tR setM GQ CJ Ev IR dI AZ GP GO MY CM qT CO IU t8 t9 EF yq CP qW qX IT MR G5 GS GT GV vk GU vj CH A0 xz ML CI MK A3 MA G7 CS xB sK vo C1 qZ C5 C4 CQ Na bh aR List.getElem?_cons_zero List.getElem?_cons_succ".splitOn " ").toArray.mapM λs=>`(Lean.Parser.Tactic.simpLemma|$(Lean.mkIdent s.toName):term);`(tactic|simp only[$l,*,$ts,*])
namespace SH
open PySem L2 DD
variable {M M' Qu:MH}{o:MO}{Q:DK}
abbrev fin(Q:DK):cP:={ nx:=λ_ M'=>Q .non M',rt:=Q }
def ad(M M':MH):Prop:=∀a o,M a=some o->M' a=some o
theorem ad.refl(M:MH):ad M M:=λ_ _ h=>h
theorem ad.trans(a:ad M M')(b:ad M' Qu):ad M Qu:=λc o h=>b c o (a c o h)
theorem ad.new{p:Addr}(h:M p=none):ad M (ae M p o):=λa u e=>by
 rw[aU (λz=>by subst z;rw[h] at e;cases e)];exact e
theorem ad.then{p:Addr}(e:ad M M')(h:M' p=none):ad M (ae M' p o):=e.trans (ad.new h)
def ExtBut(p:Addr)(M M':MH):Prop:=∀a o,a≠p->M a=some o->M' a=some o
theorem cT{g:MH->Prop}{t:dZ}{c:WT}{e:WE}{F:List D->MH->Prop}{f:D->D}{ok:DS->Prop}{M:MH}:∀{xs:List D}(g_:List D) (σ:DS),ok σ ->
  (∀x∈xs,∀σ g_ rest,ok σ->(∀a,ok a->aH g t c e F rest (g_++[f x]) a M)->aH g t c e F (x::rest) g_ σ M)->F (g_++xs.map f) M->aH g t c e F xs g_ σ M
 |[],g_,σ,_,_,q=>by
  rw[XA,ZA] at q;exact q
 |x::xs,g_,σ,h,st,q=>st x ZZ σ g_ xs h λa h'=>cT (g_++[f x]) a h' (λy hy=>st y (.tail _ hy)) (by simpa using q)
theorem dD{g:MH->Prop}{t:dZ}{c:WT}{e:WE}{F:List D->MH->Prop}{p:D->Bool}{ok:DS->Prop}{M:MH}:∀{xs:List D}(g_:List D) (σ:DS),ok σ ->
  (∀x∈xs,∀σ g_ rest,ok σ->(∀a,ok a->aH g t c e F rest (g_++cond (p x) [x] []) a M)->aH g t c e F (x::rest) g_ σ M)->F (g_++xs.filter p) M->aH g t c e F xs g_ σ M
 |[],g_,σ,_,_,q=>by
  rw[List.filter_nil,ZA] at q;exact q
 |x::xs,g_,σ,h,st,q=>st x ZZ σ g_ xs h λa h'=>dD (g_++cond (p x) [x] []) a h' (λy hy=>st y (.tail _ hy)) (by
  rw[List.filter_cons] at q;cases e:p x with
  |true=>rw[e] at q;simpa using q
  |false=>rw[e] at q;simpa using q)
def cf{a:Type}(x:a)(xs:List a):de (x::xs) 0=some x:=dO (j:=0) rfl
def cm{a:Type}(x y:a)(xs:List a):de (x::y::xs) 1=some y:=dO (j:=1) rfl
def at2{a:Type}(x y z:a)(xs:List a):de (x::y::z::xs) 2=some z:=dO (j:=2) rfl
def aE(x:Str):bc (.str x)=true:=rfl
def aF(x:Int):bc (.int x)=true:=rfl
def aP(x:Bool):bc (.bl x)=true:=rfl
def aG(x:Str):gE (.str x)=0:=rfl
def ax(x:Int):gE (.int x)=0:=rfl
def aQ(x:Bool):gE (.bl x)=0:=rfl
def av(x y:Int):bg (.int x) (.int y)=(x==y):=by rw[bg]
def aD(x y:Str):bg (.str x) (.str y)=(x==y):=by rw[bg]
def mM(h f:Int):Int:=h / 2 ^ f.toNat%2
theorem Bt(h f:Int):mM h f=0\/mM h f=1:=by unfold mM;omega
def hasB(h f:Int):Bool:=mM h f==1
def E7(h f:Int):(mM h f==0) = !hasB h f:=by
 unfold hasB;rcases Bt h f with e | e<;>rw[e]<;>rfl
def bj(fs:Zi):List D:=fs.map .int
def bits(h:Int)(fs:Zi):List D:=fs.map λf=>.int (mM h f)
def bZ(fs:Zi)(h:Int):Nat:=(fs.filter (hasB h)).length
theorem ww:∀(fs:Zi),bo (bj fs)=true
 |[]=>rfl
 |f::fs=>by
  show(bc (.int f)&&bo (bj fs))=true;rw[ww fs];rfl
theorem sR:∀(fs:Zi),cU (bj fs)=0
 |[]=>rfl
 |f::fs=>by
  show cU (.int f::bj fs)=0;rw[cU,sR fs];rfl
def vw{fs:Zi}{k:Nat}(h:k<fs.length):de (bj fs) (k:Int)=some (.int (fs.getD k 0)):=by
 refine dO ?_;unfold bj;rw[ZG,ZD h];simp[List.getD,ZD h]
def Pp{a:Type}(xs:List a)(k:Nat):dQ xs none (some (k:Int))=xs.take k:=by
 unfold dQ;rw[HT.u8,HT.Ga];simp
def rb(fs:Zi)(k:Nat):dQ (bj fs) none (some (k:Int))=bj (fs.take k):=by rw[Pp];unfold bj;rw[List.map_take]
def sU(fs:Zi):(bj fs).length=fs.length:=by unfold bj;rw[ZF]
inductive CT where
 |hav (f:Int) | lck (f:Int) | som (n:Int) (fs:Zi) | led (fs:Zi) (k:Nat)
def CT.ok:CT->Prop
 |.hav f=>0<=f/\f<120
 |.lck f=>0<=f/\f<120
 |.som _ fs=>(0<fs.length/\fs.length<=6)/\∀f∈fs,0<=f/\f<120
 |.led fs k=>(k<fs.length/\fs.length<=6)/\∀f∈fs,0<=f/\f<120
def CT.told:CT->D
 |.hav f=>.tup [.str "have",.int f]
 |.lck f=>.tup [.str "lack",.int f]
 |.som n fs=>.tup [.str "some",.int n,.tup (bj fs)]
 |.led fs k=>.tup [.str "lead",.tup (bj fs),.int k]
def CT.flds:CT->List (Str×D)
 |.hav f=>[("fact",.int f)]
 |.lck f=>[("fact",.int f)]
 |.som n fs=>[("number",.int n),("facts",.tup (bj fs))]
 |.led fs k=>[("facts",.tup (bj fs)),("at",.int k)]
def CT.kind:CT->Nat
 |.hav _=>0
 |.lck _=>1
 |.som _ _=>2
 |.led _ _=>3
def CT.carried(h m:Int):CT->Bool
 |.hav f=>hasB h f
 |.lck f=>!hasB m f
 |.som n fs=>decide (n<=((bZ fs h:Nat):Int))
 |.led fs k=>hasB h (fs.getD k 0)&&(((bZ (fs.take k) m:Nat):Int)==0)
def c6(b:Bool)(f:Int):D:=.tup [.int f,.bl b]
def CT.leans:CT->List D
 |.hav f=>[c6 false f]
 |.lck f=>[c6 true f]
 |.som _ fs=>fs.map (c6 false)
 |.led fs k=>(fs.take k).map (c6 true)++[c6 false (fs.getD k 0)]
structure CA where
 h:Addr
 l:Addr
 s:Addr
 d:Addr
def CA.at(c:CA):Nat->Addr
 |0=>c.h
 |1=>c.l
 |2=>c.s
 |_=>c.d
def CT.obj(c:CA)(t:CT):MO:=.ins (c.at t.kind) t.flds
theorem CT.kind_lt(t:CT):t.kind<4:=by
 cases t with
 |hav _=>exact(by decide:(0:Nat)<4)
 |lck _=>exact(by decide:(1:Nat)<4)
 |som _ _=>exact(by decide:(2:Nat)<4)
 |led _ _=>exact(by decide:(3:Nat)<4)
def Bu{fs:Zi}{k:Nat}(h:k<fs.length)(hf:∀f∈fs,0<=f/\f<120):0<=fs.getD k 0:=by
 have:fs.getD k 0=fs[k]:=by simp[List.getD,ZD h]
 rw[this];exact(hf _ (List.getElem_mem h)).1
def cj:az:=λds M Q=>∃h f:Int,ds=[.int h,.int f]/\0<=f/\Q (.bl (hasB h f)) M
def kJ:az:=λds M Q=>∃(fs:Zi) (h:Int),ds=[.tup (bj fs),.int h]/\(∀f∈fs,0<=f)/\∀M',ad M M'->Q (.int (bZ fs h:Nat)) M'
def cN(c:CA)(k:Nat):az:=λds M Q=>∃(a:Addr) (t:CT) (h m:Int),t.kind=k/\t.ok/\ds=[.ref a,.int h,.int m]/\M a=some (t.obj c)/\∀M',ad M M'->Q (.bl (t.carried h m)) M'
def cO(c:CA)(k:Nat):az:=λds M Q=>∃(a:Addr) (t:CT),t.kind=k/\t.ok/\ds=[.ref a]/\M a=some (t.obj c)/\∀p M',M p=none->ad M M'->M' p=some (.lst t.leans)->Q (.ref p) M'
def cZ(c:CA)(k:Nat):az:=λds M Q=>∃(a:Addr) (t:CT),t.kind=k/\ds=.ref a::t.flds.map (·.2)/\M a=some (.ins (c.at k) [])/\∀M',(∀b,b≠a->M' b=M b)->M' a=some (t.obj c)->Q .non M'
def kindAt(c:CA)(a:Addr):Option Nat:=if a=c.h then some 0 else if a=c.l then some 1 else if a=c.s then some 2 else if a=c.d then some 3 else none
def CA.apart(c:CA):Prop:=∀k,k<4->kindAt c (c.at k)=some k
def gG:List Str:=["fact","number","facts","at"]
def fA(c:CA):qc:=λa f=>∃k,k<4/\a=c.at k/\f∈gG
def cb(c:CA){k:Nat}{f:Str}(hk:k<4)(h:f∈gG):fA c (c.at k) f:=⟨k,hk,rfl,h⟩
def mN:Ss:=#v[.ret (.cmp .Eq (.bin .BitAnd (.bin .RShift (.var 0) (.var 1)) (.int 1)) (.int 1))]
def mO:Ss:=#v[.ret (.bi .len #v[.comp 1 (.var 2) (.nm 2) (.seq (.var 0)) (.yes (.val (.fn 0 #v[.var 1,.var 2])))])]
section
variable {cn:Cn}
def z8{ds:List D}(h:cj ds M Q):wSs cn mN (fin Q) (ai ["",""] ds) M:=by
 obtain⟨x,f,rfl,hf,q⟩:=h;show wSs cn mN (fin Q) [some (.int x),some (.int f)] M;unfold mN;simp! only[];refine⟨hf,⟨rfl,rfl,(by decide:(0:Nat)<=30)⟩,?_⟩;rw[PyProof.Rows.bitAnd_m1];exact q
def Aa{ds:List D}(b:cn.F.getD 0 'd'=cj)(h:kJ ds M Q):wSs cn mO (fin Q) (ai ["",""] ds) M:=by
 obtain⟨fs,x,rfl,hf,q⟩:=h;show wSs cn mO (fin Q) [some (.tup (bj fs)),some (.int x)] M;unfold mO;simp! only[b];refine dD (p:=λd=>match d with | .int f=>hasB x f | _=>false) (ok:=λσ=>∃v,σ=[some (.tup (bj fs)),some (.int x),v]) [] _ ⟨none,rfl⟩ ?_ ?_
 .intro d hd σ g_ rest ⟨v,hv⟩ k
  subst hv;obtain⟨f,c,rfl⟩:=List.mem_map.1 hd;refine⟨x,f,rfl,hf f c,?_⟩;have a:=k _ ⟨some (.int f),rfl⟩;show dq (hasB x f) _ _;dsimp only at a;cases hb:hasB x f with
  |true=>rw[hb] at a;exact⟨trivial,a⟩
  |false=>rw[hb] at a;exact⟨trivial,by simpa using a⟩
 .intro p hp
  rw[ab];have e:([]++(bj fs).filter (λ(d:D)=>match d with | .int f=>hasB x f | _=>false)).length=bZ fs x:=by
   unfold bj bZ;rw[List.nil_append,List.filter_map,ZF];rfl
  dsimp only;rw[e];exact q _ (ad.new hp)
end
end SH
local macro_rules
  | `(tactic| simp_all! only [$ts,*]) => do let l←("SH.aE SH.aF SH.aP SH.aG SH.ax SH.aQ SH.av SH.aD YN and_self true_and and_true".splitOn " ").toArray.mapM λs=>`(Lean.Parser.Tactic.simpLemma|$(Lean.mkIdent s.toName):term);`(tactic|simp! only[$l,*,$ts,*])
namespace SH
open PySem L2 DD
variable {M' M Qu:MH}{a b r:Addr}{f h n:Nat}{o:MO}{ps:Zh}{m:Int}{C':List D}{a_:Zy}{t:CT}{L:Nat->MO}
def rc(x:D):List.lookup ("fact" : Str) [("fact",x)]=some x:=rfl
def wx(x y:D):List.lookup ("number" : Str) [("number",x),("facts",y)]=some x:=rfl
def yP(x y:D):List.lookup ("facts" : Str) [("number",x),("facts",y)]=some y:=rfl
def lX(x y:D):List.lookup ("facts" : Str) [("facts",x),("at",y)]=some x:=rfl
def xE(x y:D):List.lookup ("at" : Str) [("facts",x),("at",y)]=some y:=rfl
def kK:("fact" : Str)∈gG:=by rfl'
def wy:("number" : Str)∈gG:=by rfl'
def fB:("facts" : Str)∈gG:=by rfl'
def uv:("at" : Str)∈gG:=by rfl'
def dS:Ss:=#v[.setF (.var 0) "fact" (.var 1)]
def iw:Ss:=#v[.ret (.fn 0 #v[.var 1,.fld (.var 0) "fact"])]
def iy:Ss:=#v[.ret (.not (.fn 0 #v[.var 2,.fld (.var 0) "fact"]))]
def iz:Ss:=#v[.ret (.lst #v[.tup #v[.fld (.var 0) "fact",.bl false]])]
def iA:Ss:=#v[.ret (.lst #v[.tup #v[.fld (.var 0) "fact",.bl true]])]
def nr:Ss:=#v[.setF (.var 0) "facts" (.var 2)]
def k8:Ss:=.cons (.setF (.var 0) "number" (.var 1)) nr
def iB:Ss:=#v[.ret (.cmp .GtE (.fn 0 #v[.fld (.var 0) "facts",.var 1]) (.fld (.var 0) "number"))]
def iC:Ss:=#v[.ret (.comp 1 (.tup #v[.var 1,.bl false]) (.nm 1) (.seq (.fld (.var 0) "facts")) .no)]
def nt:Ss:=#v[.setF (.var 0) "at" (.var 2)]
def k9:Ss:=.cons (.setF (.var 0) "facts" (.var 1)) nt
def iD:Ss:=#v[.ret (.and (.fn 0 #v[.var 1,.ix (.fld (.var 0) "facts") (.fld (.var 0) "at")]) (.cmp .Eq (.fn 1 #v[.sl (.fld (.var 0) "facts") .no (.yes (.fld (.var 0) "at")),.var 2]) (.int 0)))]
def iE:Ss:=#v[.ret (.bin .Add (.comp 1 (.tup #v[.var 1,.bl true]) (.nm 1) (.seq (.sl (.fld (.var 0) "facts") .no (.yes (.fld (.var 0) "at")))) .no) (.lst #v[.tup #v[.ix (.fld (.var 0) "facts") (.fld (.var 0) "at"),.bl false]]))]
section
variable {cn:Cn}{c:CA}{ds:List D}{M:MH}{Q:DK}
def yQ(g:cn.O=fA c)(h:cZ c 0 ds M Q):wSs cn dS (fin Q) (ai ["",""] ds) M:=by
 obtain⟨a,t,hk,rfl,j,q⟩:=h;cases t with
 |hav f=>
  show wSs cn dS (fin Q) [↑a,some (.int f)] M;unfold dS;simp! only[j,g];exact⟨⟨cb c 'b' kK,by decide⟩,q _ (λb hb=>aU hb) ab⟩
 |lck f=>cases hk
 |som n fs=>cases hk
 |led fs k=>cases hk
def yR(g:cn.O=fA c)(h:cZ c 1 ds M Q):wSs cn dS (fin Q) (ai ["",""] ds) M:=by
 obtain⟨a,t,hk,rfl,j,q⟩:=h;cases t with
 |lck f=>
  show wSs cn dS (fin Q) [↑a,some (.int f)] M;unfold dS;simp! only[j,g];exact⟨⟨cb c 'b' kK,by decide⟩,q _ (λb hb=>aU hb) ab⟩
 |hav f=>cases hk
 |som n fs=>cases hk
 |led fs k=>cases hk
def yS(g:cn.O=fA c)(h:cZ c 2 ds M Q):wSs cn k8 (fin Q) (ai ["","",""] ds) M:=by
 obtain⟨a,t,hk,rfl,j,q⟩:=h;cases t with
 |som n fs=>
  show wSs cn k8 (fin Q) [↑a,some (.int n),some (.tup (bj fs))] M;unfold k8;simp! only[j,g];refine⟨⟨cb c 'b' wy,by decide⟩,?_⟩;unfold nr;simp! only[ab,g];exact⟨⟨cb c 'b' fB,(show(1:Nat)<1000 by decide)⟩,q _ (λb hb=>by rw[aU hb,aU hb]) ab⟩
 |hav f=>cases hk
 |lck f=>cases hk
 |led fs k=>cases hk
def yT(g:cn.O=fA c)(h:cZ c 3 ds M Q):wSs cn k9 (fin Q) (ai ["","",""] ds) M:=by
 obtain⟨a,t,hk,rfl,j,q⟩:=h;cases t with
 |led fs k=>
  show wSs cn k9 (fin Q) [↑a,some (.tup (bj fs)),some (.int k)] M;unfold k9;simp! only[j,g];refine⟨⟨cb c 'b' fB,by decide⟩,?_⟩;unfold nt;simp! only[ab,g];exact⟨⟨cb c 'b' uv,(show(1:Nat)<1000 by decide)⟩,q _ (λb hb=>by rw[aU hb,aU hb]) ab⟩
 |hav f=>cases hk
 |lck f=>cases hk
 |som n fs=>cases hk
def uw(j:cn.O=fA c)(l:cn.F.getD 0 'd'=cj)(h:cN c 0 ds M Q):wSs cn iw (fin Q) (ai ["","",""] ds) M:=by
 obtain⟨a,t,h,m,hk,p,rfl,g,q⟩:=h;cases t with
 |hav f=>
  have g:M a=some (.ins (c.at 0) [("fact",.int f)]):=g;show wSs cn iw (fin Q) [↑a,some (.int h),some (.int m)] M;unfold iw;simp! only[g,j,rc,l];exact⟨cb c 'b' kK,h,f,rfl,p.1,q M (ad.refl M)⟩
 |lck f=>cases hk
 |som n fs=>cases hk
 |led fs k=>cases hk
def ux(j:cn.O=fA c)(l:cn.F.getD 0 'd'=cj)(h:cN c 1 ds M Q):wSs cn iy (fin Q) (ai ["","",""] ds) M:=by
 obtain⟨a,t,h,m,hk,p,rfl,g,q⟩:=h;cases t with
 |lck f=>
  have g:M a=some (.ins (c.at 1) [("fact",.int f)]):=g;show wSs cn iy (fin Q) [↑a,some (.int h),some (.int m)] M;unfold iy;simp! only[g,j,rc,l];exact⟨cb c 'b' kK,m,f,rfl,p.1,q M (ad.refl M)⟩
 |hav f=>cases hk
 |som n fs=>cases hk
 |led fs k=>cases hk
def uz(j:cn.O=fA c)(l:cn.F.getD 0 'd'=kJ)(h:cN c 2 ds M Q):wSs cn iB (fin Q) (ai ["","",""] ds) M:=by
 obtain⟨a,t,h,m,hk,p,rfl,g,q⟩:=h;cases t with
 |som n fs=>
  have g:M a=some (.ins (c.at 2) [("number",.int n),("facts",.tup (bj fs))]):=g;show wSs cn iB (fin Q) [↑a,some (.int h),some (.int m)] M;unfold iB;simp! only[g,j,wx,yP,l];refine⟨cb c 'b' fB,fs,h,rfl,λf hf=>(p.2 f hf).1,λM1 e1=>?_⟩;simp only[e1 a _ g,wx];exact⟨cb c 'b' wy,q M1 e1⟩
 |hav f=>cases hk
 |lck f=>cases hk
 |led fs k=>cases hk
def uA(l:cn.O=fA c)(p:cn.F.getD 0 'd'=cj)(u:cn.F.getD 1 'd'=kJ)(h:cN c 3 ds M Q):wSs cn iD (fin Q) (ai ["","",""] ds) M:=by
 obtain⟨a,t,h,m,hk,g,rfl,j,q⟩:=h;cases t with
 |led fs k=>
  have j:M a=some (.ins (c.at 3) [("facts",.tup (bj fs)),("at",.int k)]):=j;show wSs cn iD (fin Q) [↑a,some (.int h),some (.int m)] M;unfold iD;simp! only[j,l,lX,xE,p,u,vw g.1.1,rb];refine⟨cb c 'b' fB,cb c 'b' uv,h,fs.getD k 0,rfl,Bu g.1.1 g.2,?_⟩;have q:∀M',ad M M'->Q (.bl (hasB h (fs.getD k 0)&&(((bZ (fs.take k) m:Nat):Int)==0))) M':=q;cases hb:hasB h (fs.getD k 0) with
  |false=>rw[hb,Bool.false_and] at q;exact q M (ad.refl M)
  |true=>
   rw[hb,XV] at q;simp only[bh,j,lX,xE,rb];refine⟨cb c 'b' fB,cb c 'b' uv,fs.take k,m,rfl,λf hf=>(g.2 f (List.mem_of_mem_take hf)).1,λM1 e1=>⟨⟨rfl,rfl,(by decide:(0:Nat)<=30)⟩,?_⟩⟩;rw[av];exact q M1 e1
 |hav f=>cases hk
 |lck f=>cases hk
 |som n fs=>cases hk
def uB(j:cn.O=fA c)(h:cO c 0 ds M Q):wSs cn iz (fin Q) (ai [""] ds) M:=by
 obtain⟨a,t,hk,l,rfl,g,q⟩:=h;cases t with
 |hav f=>
  have g:M a=some (.ins (c.at 0) [("fact",.int f)]):=g;show wSs cn iz (fin Q) [↑a] M;unfold iz;simp! only[g,j,rc];exact⟨cb c 'b' kK,λp hp=>q p _ hp (ad.new hp) ab⟩
 |lck f=>cases hk
 |som n fs=>cases hk
 |led fs k=>cases hk
def uC(j:cn.O=fA c)(h:cO c 1 ds M Q):wSs cn iA (fin Q) (ai [""] ds) M:=by
 obtain⟨a,t,hk,l,rfl,g,q⟩:=h;cases t with
 |lck f=>
  have g:M a=some (.ins (c.at 1) [("fact",.int f)]):=g;show wSs cn iA (fin Q) [↑a] M;unfold iA;simp! only[g,j,rc];exact⟨cb c 'b' kK,λp hp=>q p _ hp (ad.new hp) ab⟩
 |hav f=>cases hk
 |som n fs=>cases hk
 |led fs k=>cases hk
def yU(b:Bool):D->D
 |.int f=>c6 b f
 |d=>d
def yV(b:Bool)(fs:Zi):(bj fs).map (yU b)=fs.map (c6 b):=by
 unfold bj;rw[ZM];rfl
def uD(j:cn.O=fA c)(h:cO c 2 ds M Q):wSs cn iC (fin Q) (ai [""] ds) M:=by
 obtain⟨a,t,hk,l,rfl,g,q⟩:=h;cases t with
 |som n fs=>
  have g:M a=some (.ins (c.at 2) [("number",.int n),("facts",.tup (bj fs))]):=g;show wSs cn iC (fin Q) [↑a] M;unfold iC;simp! only[g,j,yP];refine⟨cb c 'b' fB,?_⟩;refine cT (f:=yU false) (ok:=λσ=>∃v,σ=[↑a,v]) [] _ ⟨none,rfl⟩ ?_ ?_
  .intro d hd σ g_ rest ⟨v,hv⟩ k
   subst hv;obtain⟨f,u,rfl⟩:=List.mem_map.1 hd;exact⟨trivial,k _ ⟨_,rfl⟩⟩
  .intro p hp
   rw[List.nil_append,yV];exact q p _ hp (ad.new hp) ab
 |hav f=>cases hk
 |lck f=>cases hk
 |led fs k=>cases hk
theorem uE(y:cn.O=fA c)(h:cO c 3 ds M Q):wSs cn iE (fin Q) (ai [""] ds) M:=by
 obtain⟨a,t,hk,l,rfl,g,q⟩:=h;cases t with
 |led fs k=>
  have g:M a=some (.ins (c.at 3) [("facts",.tup (bj fs)),("at",.int k)]):=g;show wSs cn iE (fin Q) [↑a] M;unfold iE;simp! only[g,y,lX,xE,rb];refine⟨cb c 'b' fB,cb c 'b' uv,?_⟩;refine cT (f:=yU true) (ok:=λσ=>∃v,σ=[↑a,v]) [] _ ⟨none,rfl⟩ ?_ ?_
  .intro d hd σ g_ rest ⟨v,hv⟩ k
   subst hv;obtain⟨f,E,rfl⟩:=List.mem_map.1 hd;exact⟨trivial,k _ ⟨_,rfl⟩⟩
  .intro p hp
   rw[List.nil_append,yV];have e1:=ad.new (o:=MO.lst ((fs.take k).map (c6 true))) hp;have h1:=e1 a _ g;have z:ae M p (MO.lst ((fs.take k).map (c6 true))) p=some (.lst ((fs.take k).map (c6 true))):=ab;generalize ae M p (MO.lst ((fs.take k).map (c6 true)))=M1 at *;simp only[h1,lX,xE,vw l.1.1];refine⟨cb c 'b' fB,cb c 'b' uv,λp2 A=>?_⟩;have j:=ad.new (o:=MO.lst [D.tup [D.int (fs.getD k 0),D.bl false]]) A;have B:=j p _ z;have C:ae M1 p2 (MO.lst [D.tup [D.int (fs.getD k 0),D.bl false]]) p2=some (.lst [D.tup [D.int (fs.getD k 0),D.bl false]]):=ab;generalize ae M1 p2 (MO.lst [D.tup [D.int (fs.getD k 0),D.bl false]])=M2 at *;simp only[B,C];refine⟨?_,λp3 u=>q p3 _ ?_ ((e1.trans j).then u) ab⟩
   .have:((fs.take k).map (c6 true)).length<=6:=by rw[ZF];exact ZX (List.length_take_le' _ _) l.1.2
    have G:(7:Nat)<=sizeLine:=by decide
    simp only[YJ,YV];omega
   .cases e:M p3 with
    |none=>rfl
    |some o=>have:=(e1.trans j) p3 o e;rw[u] at this;cases this
 |hav f=>cases hk
 |lck f=>cases hk
 |som n fs=>cases hk
end
theorem ad.free(e:ad M M')(h:M' a=none):M a=none:=by
 cases q:M a with
 |none=>rfl
 |some o=>have:=e a o q;rw[h] at this;cases this
theorem ad.put(e:ad M M')(h:M a=none):ad M (ae M' a o):=λp u q=>by
 have:p≠a:=λz=>by subst z;rw[h] at q;cases q
 rw[aU this];exact e p u q
def uF(hx:M a=none)(h:∀b,b≠a->M' b=ae M a o b):ad M M':=λb u e=>by
 have:b≠a:=λz=>by subst z;rw[hx] at e;cases e
 rw[h b this,aU this];exact e
def qk(h:M a=some o)(hp:M b=none):a≠b:=λz=>by subst z;rw[hp] at h;cases h
theorem ExtBut.refl(p:Addr)(M:MH):ExtBut p M M:=λ_ _ _ h=>h
theorem ExtBut.trans{p:Addr}(a:ExtBut p M M')(b:ExtBut p M' Qu):ExtBut p M Qu:=λc o n h=>b c o n (a c o n h)
theorem ad.but(p:ad M M'):ExtBut a M M':=λc o _ h=>p c o h
theorem ExtBut.upd(p:Addr)(M:MH)(o:MO):ExtBut p M (ae M p o):=λc u n h=>by rw[aU n];exact h
theorem ExtBut.ext(a:ad M M')(M2:ExtBut b M' Qu)(h:M b=none):ad M Qu:=λc o q=>M2 c o (qk q h) (a c o q)
def Nq:(("have" : Str) == "have")=true:=XI _
def HH:(("some" : Str) == "some")=true:=XI _
def HI:(("lack" : Str) == "lack")=true:=XI _
def Pq:(("lead" : Str) == "lead")=true:=XI _
def HJ:(("lack" : Str) == "have")=false:=by rfl'
def HK:(("some" : Str) == "have")=false:=by rfl'
def HL:(("some" : Str) == "lack")=false:=by rfl'
def HM:(("lead" : Str) == "have")=false:=by rfl'
def HN:(("lead" : Str) == "lack")=false:=by rfl'
def HP:(("lead" : Str) == "some")=false:=by rfl'
def uG(c:CA):az:=λds M Q=>∃t:CT,ds=[t.told]/\∀p M',M p=none->ad M M'->M' p=some (t.obj c)->Q (.ref p) M'
def o0:Ss:=#v[.ret (.fn 0 #v[.ix (.var 0) (.int 1),.ix (.var 0) (.int 2)])]
def jP:Ss:=.cons (.ite (.cmp .Eq (.ix (.var 0) (.int 0)) (.str "some")) #v[.ret (.fn 1 #v[.ix (.var 0) (.int 1),.ix (.var 0) (.int 2)])] .nil) o0
def gx:Ss:=.cons (.ite (.cmp .Eq (.ix (.var 0) (.int 0)) (.str "lack")) #v[.ret (.fn 2 #v[.ix (.var 0) (.int 1)])] .nil) jP
def eO:Ss:=.cons (.ite (.cmp .Eq (.ix (.var 0) (.int 0)) (.str "have")) #v[.ret (.fn 3 #v[.ix (.var 0) (.int 1)])] .nil) gx
section
variable {cn:Cn}{c:CA}{ds:List D}{M:MH}{Q:DK}
theorem KH(g:cn.F=[bU (c.at 3) (cZ c 3),bU (c.at 2) (cZ c 2),bU (c.at 1) (cZ c 1),bU (c.at 0) (cZ c 0)])(h:uG c ds M Q):wSs cn eO (fin Q) (ai [""] ds) M:=by
 obtain⟨t,rfl,q⟩:=h;show wSs cn eO (fin Q) [some t.told] M;cases t with
 |hav f=>
  unfold eO;simp_all! only[CT.told,cf,cm,at2,g,List.getD_cons_zero,List.getD_cons_succ,Nq];exact λx hx=>⟨x,.hav f,rfl,rfl,ab,λM' h1 j=>⟨rfl,q x M' hx (uF hx h1) j⟩⟩
 |lck f=>
  unfold eO;simp_all! only[CT.told,cf,cm,at2,g,List.getD_cons_zero,List.getD_cons_succ,HJ];unfold gx;simp_all! only[CT.told,cf,cm,at2,g,List.getD_cons_zero,List.getD_cons_succ,HI];exact λx hx=>⟨x,.lck f,rfl,rfl,ab,λM' h1 j=>⟨rfl,q x M' hx (uF hx h1) j⟩⟩
 |som n fs=>
  unfold eO;simp_all! only[CT.told,cf,cm,at2,g,List.getD_cons_zero,List.getD_cons_succ,HK];unfold gx;simp_all! only[CT.told,cf,cm,at2,g,List.getD_cons_zero,List.getD_cons_succ,HL];unfold jP;simp_all! only[CT.told,cf,cm,at2,g,List.getD_cons_zero,List.getD_cons_succ,HH];exact λx hx=>⟨x,.som n fs,rfl,rfl,ab,λM' h1 j=>⟨rfl,q x M' hx (uF hx h1) j⟩⟩
 |led fs k=>
  unfold eO;simp_all! only[CT.told,cf,cm,at2,g,List.getD_cons_zero,List.getD_cons_succ,HM];unfold gx;simp_all! only[CT.told,cf,cm,at2,g,List.getD_cons_zero,List.getD_cons_succ,HN];unfold jP;simp_all! only[CT.told,cf,cm,at2,g,List.getD_cons_zero,List.getD_cons_succ,HP];unfold o0;simp_all! only[CT.told,cf,cm,at2,g,List.getD_cons_zero,List.getD_cons_succ];exact λx hx=>⟨x,.led fs k,rfl,rfl,ab,λM' h1 j=>⟨rfl,q x M' hx (uF hx h1) j⟩⟩
end
theorem cx(n k:Nat):hasB (n:Int) (k:Int)=n.testBit k:=by
 unfold hasB mM;rw[Nat.testBit_eq_decide_div_mod_eq,YX];have e:(n:Int) / 2 ^ k%2=((n / 2 ^ k%2:Nat):Int):=by simp
 rw[e];by_cases h:n / 2 ^ k%2=1
 .simp[h]
 .have c:n / 2 ^ k%2=0:=by omega
  simp[c]
def au(a b:Nat):Nat:=a ^^^ (a&&&b)
def aw(a b k:Nat):(au a b).testBit k=(a.testBit k && !b.testBit k):=by
 unfold au;rw[Nat.testBit_xor,Nat.testBit_and];cases a.testBit k<;>cases b.testBit k<;>rfl
theorem oj(a b:Nat):au a b+(a&&&b)=a:=by
 have h:=PyProof.Rows.nat_or_add_and (au a b) (a&&&b);have h1:au a b|||(a&&&b)=a:=by
  refine Nat.eq_of_testBit_eq λk=>?_
  rw[Nat.testBit_or,aw,Nat.testBit_and];cases a.testBit k<;>cases b.testBit k<;>rfl
 have c:au a b&&&(a&&&b)=0:=by
  refine Nat.eq_of_testBit_eq λk=>?_
  rw[Nat.testBit_and,aw,Nat.testBit_and,Nat.zero_testBit];cases a.testBit k<;>cases b.testBit k<;>rfl
 omega
theorem dw(a b:Nat):Builtin.bitOr (a:Int) (b:Int)=((a|||b:Nat):Int):=by
 rw[PyProof.Rows.bitOr_and,PyProof.Rows.bitAnd_pp 'a' 'a',YX,YX]
 have:=PyProof.Rows.nat_or_add_and a b
 omega
theorem rf(a b:Nat):Builtin.bitAnd (a:Int) (b:Int)=((a&&&b:Nat):Int):=by
 rw[PyProof.Rows.bitAnd_pp 'a' 'a',YX,YX]
theorem dy(a b:Nat):Builtin.bitAnd (a:Int) (-(b:Int)-1)=((au a b:Nat):Int):=by
 rw[←bitNot_eq,PyProof.Rows.bitAnd_not,rf]
 have:=oj a b
 omega
def nats(fs:Zj):List D:=fs.map λ(f:Nat)=>D.int (f:Int)
def ag(fs:Zj):Nat:=fs.foldl (λa f=>a|||2 ^ f) 0
def aB(fs:Zj)(k:Nat):(ag fs).testBit k=decide (k∈fs):=by
 have c:∀(fs:Zj) (a:Nat),(fs.foldl (λa f=>a|||2 ^ f) a).testBit k=(a.testBit k||decide (k∈fs)):=by
  intro fs;induction fs with
  |nil=>intro a;simp
  |cons f fs g=>
   intro a;rw[List.foldl_cons,g,Nat.testBit_or,Nat.testBit_two_pow];by_cases e:f=k
   .subst e;simp
   .have:k≠f:=λz=>e z.symm
    simp[e,this]
 unfold ag;rw[c];simp
def cy(n:Nat):List Nat:=(List.range (fM (n:Int))).filter λf=>n.testBit f
theorem df(n f:Nat):f∈cy n↔n.testBit f=true:=by
 unfold cy;rw[ZV,ZW];refine⟨λh=>h.2,λh=>⟨?_,h⟩⟩;unfold fM Builtin.Int.intBits;have hn:n≠0:=λz=>by subst z;simp at h
 have hb:((n:Int)==0)=false:=by rw[ZR];omega
 rw[hb];simp only[XM,if_false,Int.natAbs_natCast];have h1:=Nat.ge_two_pow_of_testBit h;have c:=(Nat.le_log2 hn).2 h1;omega
def om(n:Nat):(cy n).Nodup:=List.Pairwise.filter _ List.nodup_range
theorem HQ(h:n<2 ^ f):fM (n:Int)<=f:=by
 unfold fM Builtin.Int.intBits;by_cases hn:n=0
 .subst hn;simp
 .have hb:((n:Int)==0)=false:=by rw[ZR];omega
  rw[hb];simp only[XM,if_false,Int.natAbs_natCast]
  have:=(Nat.log2_lt hn).2 h
  omega
def Meets(d:D)(M:MH)(fs:Zj)(M':MH):Prop:=(d=.tup (nats fs)/\M'=M) \/ ∃a,d=.ref a/\((M a=some (.lst (nats fs))/\M'=M) \/ ∃c,keysOf c=nats fs/\((M a=some (.dic c)/\M'=ae M a (.rod c))\/(M a=some (.rod c)/\M'=M)))
def kL:az:=λds M Q=>∃i:Int,ds=[.int i]/\Q (.bl true) M
def cK:az:=λds M Q=>∃i m:Int,ds=[.int i,.int m]/\Q (.bl (decide (0<=i)&&decide (i<m))) M
def ci:az:=λds M Q=>∃(d:D) (fs:Zj) (M':MH),ds=[d]/\Meets d M fs M'/\(∀f∈fs,f<=1000)/\Q (.int (ag fs:Nat)) M'
def d8:az:=λds M Q=>∃n:Nat,ds=[⇑n]/\n<2 ^ 1000/\∀p M',M p=none->ad M M'->M' p=some (.lst (nats (cy n)))->Q (.ref p) M'
def mP:Ss:=#v[.ret (.and (.bi .isinst #v[.var 0,.ty "int"]) (.not (.bi .isinst #v[.var 0,.ty "bool"])))]
def mQ:Ss:=#v[.ret (.and (.fn 0 #v[.var 0]) (.and (.cmp .GtE (.var 0) (.int 0)) (.cmp .Lt (.var 0) (.var 1))))]
def jv:Ss:=#v[.ret (.var 1)]
def gt:Ss:=#v[.set 1 (.bin .BitOr (.var 1) (.bin .LShift (.int 1) (.var 2)))]
def sk:Ss:=.cons (.for (.nm 2) (.seq (.var 0)) gt) jv
def ql:Ss:=.cons (.set 1 (.int 0)) sk
def oo:Ss:=#v[.ret (.comp 1 (.var 1) (.nm 1) (.rg1 #v[.mt0 .bits (.var 0)]) (.yes (.val (.fn 0 #v[.var 0,.var 1]))))]
section
variable {cn:Cn}{ds:List D}{M:MH}{Q:DK}
def Ab(h:kL ds M Q):wSs cn mP (fin Q) (ai [""] ds) M:=by
 obtain⟨i,rfl,q⟩:=h;show wSs cn mP (fin Q) [some (.int i)] M;unfold mP;simp! only[j0];refine⟨by decide,?_⟩;show dq true _ _;refine⟨by decide,?_⟩;exact q
def Ac(c:cn.F.getD 0 'd'=kL)(h:cK ds M Q):wSs cn mQ (fin Q) (ai ["",""] ds) M:=by
 obtain⟨i,m,rfl,q⟩:=h;show wSs cn mQ (fin Q) [some (.int i),some (.int m)] M;unfold mQ;simp! only[c];refine⟨i,rfl,?_⟩;show dq (decide (0<=i)) _ _;cases b:decide (0<=i) with
 |true=>rw[b,XV] at q;exact q
 |false=>rw[b,Bool.false_and] at q;exact q
theorem Do(g:cn.F.getD 0 'd'=cj)(h:d8 ds M Q):wSs cn oo (fin Q) (ai [""] ds) M:=by
 obtain⟨n,rfl,hn,q⟩:=h;show wSs cn oo (fin Q) [~~~n] M;unfold oo;simp! only[g,xA,List.cons_append,List.nil_append,List.replicate];have hb:=HQ hn;refine⟨trivial,⟨by omega,by omega⟩,?_⟩;refine dD (p:=λd=>match d with | .int f=>hasB (n:Int) f | _=>false) (ok:=λσ=>∃v,σ=[~~~n,v]) [] _ ⟨none,rfl⟩ ?_ ?_
 .intro d hd σ g_ rest ⟨v,hv⟩ k
  subst hv;unfold bM at hd;obtain⟨i,hi,rfl⟩:=List.mem_map.1 hd;refine⟨n,0+(i:Int),rfl,by omega,?_⟩;have c:=k _ ⟨some (.int (0+(i:Int))),rfl⟩;show dq (hasB (n:Int) (0+(i:Int))) _ _;dsimp only at c;cases hb:hasB (n:Int) (0+(i:Int)) with
  |true=>rw[hb] at c;exact⟨trivial,c⟩
  |false=>rw[hb] at c;exact⟨trivial,by simpa using c⟩
 .intro p hp
  have e:([]++(bM 0 (fM (n:Int))).filter (λ(d:D)=>match d with | .int f=>hasB (n:Int) f | _=>false))=nats (cy n):=by
   unfold bM nats cy;rw[List.nil_append,List.filter_map];have h1:((fM (n:Int):Int)-0).toNat=fM (n:Int):=by omega
   rw[h1];have j:(List.range (fM (n:Int))).filter ((λ(d:D)=>match d with | .int f=>hasB (n:Int) f | _=>false)∘λ(i:Nat)=>D.int (0+(i:Int)))=(List.range (fM (n:Int))).filter λf=>n.testBit f:=by
    refine List.filter_congr λi _=>?_
    show hasB (n:Int) (0+(i:Int))=_;rw[Int.zero_add,cx]
   rw[j];refine ZN λi _=>?_
   rw[Int.zero_add]
  rw[e];exact q p _ hp (ad.new hp) ab
theorem E8(h:ci ds M Q):wSs cn ql (fin Q) (ai ["","",""] ds) M:=by
 obtain⟨d,fs,M',rfl,hm,hb,q⟩:=h;show wSs cn ql (fin Q) [some d,none,none] M;unfold ql;simp! only[List.set];unfold sk;simp! only[List.set];have go:∀(g:MH->Prop),g M'->ar g (.nm 2) (wSs cn gt) { nx:=wSs cn jv (fin Q),rt:=Q } (nats fs) [some d,some (.int 0),none] M':=by
  intro g hg;have c:∀(fs:Zj) (a:Nat) (v:Zz),(∀f∈fs,f<=1000)->Q (.int (fs.foldl (λa f=>a|||2 ^ f) a:Nat)) M'->ar g (.nm 2) (wSs cn gt) { nx:=wSs cn jv (fin Q),rt:=Q } (nats fs) [some d,~~~a,v] M':=by
   intro fs;induction fs with
   |nil=>
    intro a v _ q;rw[show nats []=[] from rfl,ar];unfold jv;simp! only[];exact q
   |cons f fs j=>
    intro a v hb q;show ar g (.nm 2) (wSs cn gt) _ (⇑f::nats fs) _ M';rw[ar];unfold gt;simp! only[List.set];have hf:=hb f (.head _);refine⟨⟨by omega (splitDisjunctions:=true),by omega (splitDisjunctions:=true),by decide⟩,hg,?_⟩;have e:Builtin.bitOr (a:Int) (1*2 ^ (f:Int).toNat)=((a|||2 ^ f:Nat):Int):=by
     rw[←dw];simp
    rw[e];exact j (a|||2 ^ f) _ (λx hx=>hb x (.tail _ hx)) q
  exact c fs 0 none hb q
 rcases hm with⟨rfl,rfl⟩ | ⟨a,rfl,hm⟩
 .exact go _ trivial
 .rcases hm with⟨h1,rfl⟩ | ⟨k,hk,⟨h1,rfl⟩ | ⟨h1,rfl⟩⟩
  .simp only[h1]
   exact go _ h1
  .simp only[h1,hk]
   exact go _ ab
  .simp only[h1,hk]
   exact go _ h1
end
def CT.fit(m:Int):CT->Prop
 |.hav f=>0<=f/\f<m
 |.lck f=>0<=f/\f<m
 |.som n fs=>(1<=n/\n<=6)/\(0<fs.length/\fs.length<=6)/\fs.Nodup/\∀f∈fs,0<=f/\f<m
 |.led fs k=>(k<fs.length/\fs.length<=6)/\fs.Nodup/\∀f∈fs,0<=f/\f<m
theorem CT.fit_ok(hm:m<=120):∀{t:CT},t.fit m->t.ok
 |.hav f,h=>⟨h.1,Int.lt_of_lt_of_le h.2 hm⟩
 |.lck f,h=>⟨h.1,Int.lt_of_lt_of_le h.2 hm⟩
 |.som n fs,h=>⟨h.2.1,λf hf=>⟨(h.2.2.2 f hf).1,Int.lt_of_lt_of_le (h.2.2.2 f hf).2 hm⟩⟩
 |.led fs k,h=>⟨h.1,λf hf=>⟨(h.2.2 f hf).1,Int.lt_of_lt_of_le (h.2.2 f hf).2 hm⟩⟩
def oq:az:=λds M Q=>∃n:Int,ds=[.int n]/\(1<=n/\n<=6)/\Q (.bl true) M
def lY:az:=λds M Q=>∃(fs:Zi) (m:Int),ds=[.tup (bj fs),.int m]/\(0<fs.length/\fs.length<=6)/\fs.Nodup/\(∀f∈fs,0<=f/\f<m)/\∀M',ad M M'->Q (.bl true) M'
def ot:az:=λds M Q=>∃(t:CT) (m:Int),ds=[t.told,.int m]/\t.fit m/\∀M',ad M M'->Q (.bl true) M'
def rg:az:=λds M Q=>∃(h m:Int) (p:Addr) (ts:List CT),ds=[.tup [.int h,.ref p],.int m]/\M p=some (.lst (ts.map CT.told))/\(0<=h/\h<m)/\ts.length<=6/\(∀t∈ts,t.fit m)/\∀M',ad M M'->Q (.bl true) M'
def la(j:Nat):Ss:=#v[.ret (.and (.fn 0 #v[.var 0]) (.and (.cmp .GtE (.var 0) (.int 1)) (.cmp .LtE (.var 0) (.glob j))))]
def lZ:Ss:=#v[.ret (.and (.bi .all #v[.comp 1 (.fn 0 #v[.var 2,.var 1]) (.nm 2) (.seq (.var 0)) .no]) (.cmp .Eq (.lenSet (.var 0)) (.bi .len #v[.var 0])))]
def jQ(j:Nat):Ss:=.cons (.ite (.or (.not (.val (.bi .isinst #v[.var 0,.ty "tuple"]))) (.or (.cmp .Lt (.bi .len #v[.var 0]) (.int 1)) (.cmp .Gt (.bi .len #v[.var 0]) (.glob j)))) #v[.ret (.bl false)] .nil) lZ
def qm:Ss:=#v[.ret (.and (.cmp .Eq (.ix (.var 0) (.int 0)) (.str "lead")) (.and (.fn 0 #v[.ix (.var 0) (.int 1),.var 1]) (.fn 1 #v[.ix (.var 0) (.int 2),.bi .len #v[.ix (.var 0) (.int 1)]])))]
def lb:Ss:=.cons (.ite (.cmp .Eq (.ix (.var 0) (.int 0)) (.str "some")) #v[.ret (.and (.fn 2 #v[.ix (.var 0) (.int 1)]) (.fn 0 #v[.ix (.var 0) (.int 2),.var 1]))] .nil) qm
def lc:Ss:=.cons (.ite (.cmp .NotEq (.bi .len #v[.var 0]) (.int 3)) #v[.ret (.bl false)] .nil) lb
def fD:Ss:=.cons (.ite (.or (.cmp .Eq (.ix (.var 0) (.int 0)) (.str "have")) (.cmp .Eq (.ix (.var 0) (.int 0)) (.str "lack"))) #v[.ret (.and (.cmp .Eq (.bi .len #v[.var 0]) (.int 2)) (.fn 1 #v[.ix (.var 0) (.int 1),.var 1]))] .nil) lc
def fN:Ss:=.cons (.ite (.or (.not (.val (.bi .isinst #v[.var 0,.ty "tuple"]))) (.cmp .Lt (.bi .len #v[.var 0]) (.int 2))) #v[.ret (.bl false)] .nil) fD
def sm:Ss:=#v[.ret (.bi .all #v[.comp 1 (.fn 0 #v[.var 3,.var 1]) (.nm 3) (.seq (.var 2)) .no])]
def sn(j:Nat):Ss:=.cons (.ite (.or (.not (.val (.bi .isinst #v[.var 2,.ty "list"]))) (.cmp .Gt (.bi .len #v[.var 2]) (.glob j))) #v[.ret (.bl false)] .nil) sm
def mR(j:Nat):Ss:=.cons (.set 2 (.ix (.var 0) (.int 1))) (sn j)
def qo(j:Nat):Ss:=.cons (.ite (.or (.not (.val (.bi .isinst #v[.var 0,.ty "tuple"]))) (.or (.cmp .NotEq (.bi .len #v[.var 0]) (.int 2)) (.not (.val (.fn 1 #v[.ix (.var 0) (.int 0),.var 1]))))) #v[.ret (.bl false)] .nil) (mR j)
theorem yW{g:MH->Prop}{t:dZ}{c:WT}{e:WE}{F:List D->MH->Prop}{f:D->D}{ok:DS->Prop}{M0:MH}:∀{xs:List D}(g_:List D) (σ:DS) (M:MH),ok σ->ad M0 M ->
  (∀x∈xs,∀σ g_ rest M,ok σ->ad M0 M->(∀j M',ok j->ad M0 M'->aH g t c e F rest (g_++[f x]) j M')->aH g t c e F (x::rest) g_ σ M)->(∀M',ad M0 M'->F (g_++xs.map f) M')->aH g t c e F xs g_ σ M
 |[],g_,σ,M,_,k,_,q=>by
  rw[XA,ZA] at q;exact q M k
 |x::xs,g_,σ,M,h,k,st,q=>st x ZZ σ g_ xs M h k λj M' h' l=>yW (g_++[f x]) j M' h' l (λy hy=>st y (.tail _ hy)) (by simpa using q)
def ld(t:String):t7 t t=true:=by unfold t7;simp
theorem sV:∀(l:List D),oa (l.map λ_=>D.bl true)=some (l.map λ_=>true)
 |[]=>rfl
 |a::l=>by rw[YL,oa,sV l];rfl
def yX{c:Type}(l:List c):(l.map λ_=>true).all id=true:=by simp
def E9{fs:Zi}:oe (bj (m::fs))=none:=rfl
theorem qp:∀(fs:Zi),im (bj fs)=some fs
 |[]=>rfl
 |f::fs=>by
  show Option.map _ (im (bj fs))=_;rw[qp fs];rfl
theorem yY{c:Type}[DecidableEq c]:∀(ks l:List c),(l++ks).Nodup->ks.foldl kZ l=l++ks
 |[],l,_=>by simp
 |k::ks,l,h=>by
  have hk:k∉l:=λz=>by
   have:=(List.nodup_append.1 h).2.2 k z k (.head _)
   exact this rfl
  rw[List.foldl_cons,kZ,if_neg hk,yY ks (l++[k]) (by simpa using h)];simp
def Ad{c:Type}[DecidableEq c](l:List c)(h:l.Nodup):(bG l).length=l.length:=by
 unfold bG;rw[yY l [] (by simpa using h)];simp
section
variable {cn:Cn}{ds:List D}{M:MH}{Q:DK}{j:Nat}
def yZ(c:cn.F.getD 0 'd'=kL)(g:cn.G.getD j .non=.int 6)(h:oq ds M Q):wSs cn (la j) (fin Q) (ai [""] ds) M:=by
 obtain⟨n,rfl,hn,q⟩:=h;show wSs cn (la j) (fin Q) [some (.int n)] M;unfold la;simp! only[c,g];refine⟨n,rfl,?_⟩;have k:decide ((1:Int)<=n)=true:=YW hn.1;have l:decide (n<=(6:Int))=true:=YW hn.2;simp only[k,l,bh];exact q
theorem xg(g:cn.F.getD 0 'd'=cK)(l:cn.G.getD j .non=.int 6)(h:lY ds M Q):wSs cn (jQ j) (fin Q) (ai ["",""] ds) M:=by
 obtain⟨fs,m,rfl,hl,u,hf,q⟩:=h;show wSs cn (jQ j) (fin Q) [some (.tup (bj fs)),some (.int m)] M;unfold jQ;simp! only[l,j0,sU];refine⟨by decide,?_⟩;show dq false _ _;have y:decide ((fs.length:Int)<1)=false:=ZQ 'a';have z:decide ((6:Int)<(fs.length:Int))=false:=ZQ 'a';simp only[y,z,aR];unfold lZ;simp! only[g,List.cons_append,List.nil_append,List.replicate];refine cT (f:=λ_=>.bl true) (ok:=λσ=>∃v,σ=[some (.tup (bj fs)),some (.int m),v]) [] _ ⟨none,rfl⟩ ?_ ?_
 .intro d hd σ g_ rest ⟨v,hv⟩ k
  subst hv;obtain⟨f,c,rfl⟩:=List.mem_map.1 hd;refine⟨f,m,rfl,?_⟩;have h1:decide (0<=f)=true:=YW (hf f c).1;have A:decide (f<m)=true:=YW (hf f c).2;rw[h1,A];exact⟨trivial,k _ ⟨_,rfl⟩⟩
 .intro p hp
  rw[List.nil_append,ab];dsimp only;rw[sV];dsimp only;rw[yX];simp only[bh,Hk];have e1:=ad.new (o:=MO.lst ((bj fs).map λ_=>D.bl true)) hp;generalize ae M p (MO.lst ((bj fs).map λ_=>D.bl true))=M1 at *;cases fs with
  |nil=>exact absurd hl.1 (by simp)
  |cons f fs=>
   simp only[qZ,E9,qp,sU];refine⟨by have:=hl.2;omega,⟨rfl,rfl,(by decide:(0:Nat)<=30)⟩,?_⟩;rw[Ad _ u,av,XI];exact q M1 e1
theorem Dp(y:cn.F.getD 0 'd'=lY)(u:cn.F.getD 1 'd'=cK)(A:cn.F.getD 2 'd'=oq)(h:ot ds M Q):wSs cn fN (fin Q) (ai ["",""] ds) M:=by
 obtain⟨t,m,rfl,c,q⟩:=h;show wSs cn fN (fin Q) [some t.told,some (.int m)] M;have l:decide (((1+1:Nat):Int)<2)=false:=by decide
 have p:decide (((1+1+1:Nat):Int)<2)=false:=by decide
 have z:(((1+1:Nat):Int)==2)=true:=by decide
 have e3:(((1+1+1:Nat):Int)==3)=true:=by decide
 cases t with
 |hav f=>
  unfold fN;simp_all! only[CT.told,j0,YJ,YV,XZ];refine⟨by decide,?_⟩;simp only[ld,Bool.not_true,aR,l,p];unfold fD;simp_all! only[CT.told,cf,cm,at2,Nq,YJ,YV,XZ,u];simp only[bh,z];refine⟨f,m,rfl,?_⟩;have h1:decide (0<=f)=true:=YW c.1;have g:decide (f<m)=true:=YW c.2;rw[h1,g];exact q M (ad.refl M)
 |lck f=>
  unfold fN;simp_all! only[CT.told,j0,YJ,YV,XZ];refine⟨by decide,?_⟩;simp only[ld,Bool.not_true,aR,l,p];unfold fD;simp_all! only[CT.told,cf,cm,at2,HJ,HI,YJ,YV,XZ,u];simp only[bh,z];refine⟨f,m,rfl,?_⟩;have h1:decide (0<=f)=true:=YW c.1;have g:decide (f<m)=true:=YW c.2;rw[h1,g];exact q M (ad.refl M)
 |som n fs=>
  unfold fN;simp_all! only[CT.told,j0,YJ,YV,XZ];refine⟨by decide,?_⟩;simp only[ld,Bool.not_true,aR,l,p];unfold fD;simp_all! only[CT.told,cf,cm,at2,HK,HL];unfold lc;simp_all! only[CT.told,cf,cm,at2,YJ,YV,XZ];simp only[Bool.not_true,aR,e3];unfold lb;simp_all! only[CT.told,cf,cm,at2,HH,y,A];refine⟨n,rfl,c.1,?_⟩;show dq true _ _;exact⟨fs,m,rfl,c.2.1,c.2.2.1,c.2.2.2,q⟩
 |led fs k=>
  unfold fN;simp_all! only[CT.told,j0,YJ,YV,XZ];refine⟨by decide,?_⟩;simp only[ld,Bool.not_true,aR,l,p];unfold fD;simp_all! only[CT.told,cf,cm,at2,HM,HN];unfold lc;simp_all! only[CT.told,cf,cm,at2,YJ,YV,XZ];simp only[Bool.not_true,aR,e3];unfold lb;simp_all! only[CT.told,cf,cm,at2,HP];unfold qm;simp_all! only[CT.told,cf,cm,at2,Pq,y,u,sU];refine⟨fs,m,rfl,⟨by have:=c.1.1;omega,c.1.2⟩,c.2.1,c.2.2,λM1 e1=>?_⟩;show dq true _ _;refine⟨k,(fs.length:Int),rfl,?_⟩;have h1:decide (0<=(k:Int))=true:=YW 'a';have g:decide ((k:Int)<(fs.length:Int))=true:=YW (by have:=c.1.1;omega);rw[h1,g];exact q M1 e1
theorem Fa(y:cn.F.getD 0 'd'=ot)(z:cn.F.getD 1 'd'=cK)(A:cn.G.getD j .non=.int 6)(h:rg ds M Q):wSs cn (qo j) (fin Q) (ai ["","",""] ds) M:=by
 obtain⟨hd,m,p,ts,rfl,c,l,hl,hf,q⟩:=h;show wSs cn (qo j) (fin Q) [some (.tup [.int hd,.ref p]),some (.int m),none] M;unfold qo;simp_all! only[List.set,j0,cf,cm,YJ,YV,XZ,z];refine⟨by decide,?_⟩;show dq false _ _;show dq false _ _;refine⟨hd,m,rfl,?_⟩;have h1:decide (0<=hd)=true:=YW l.1;have B:decide (hd<m)=true:=YW l.2;rw[h1,B];show wSs cn (mR j) (fin Q) _ M;unfold mR;simp_all! only[List.set,cf,cm];unfold sn;simp_all! only[List.set,j0,c,A,ZF];refine⟨by decide,?_⟩;show dq false _ _;have C:decide ((6:Int)<(ts.length:Int))=false:=ZQ 'a';simp only[C,aR];unfold sm;simp_all! only[List.set,c,y,List.cons_append,List.nil_append,List.replicate];refine yW (f:=λ_=>.bl true) (M0:=M) (ok:=λσ=>∃v,σ=[some (.tup [.int hd,.ref p]),some (.int m),↑p,v]) [] _ M ⟨none,rfl⟩ (ad.refl M) ?_ ?_
 .intro d E σ g_ rest M1 ⟨v,hv⟩ e1 k
  subst hv;obtain⟨t,g,rfl⟩:=List.mem_map.1 E;exact⟨t,m,rfl,hf t g,λM2 u=>⟨(e1.trans u) p _ c,k _ M2 ⟨_,rfl⟩ (e1.trans u)⟩⟩
 .intro M1 e1 p2 I
  rw[List.nil_append,ab];dsimp only;rw[sV];dsimp only;rw[yX];exact q _ (e1.then I)
end
def ao(rs:Zh):List D:=rs.map D.ref
def c9(c:CA)(M:MH)(rs:Zh)(ts:List CT):Prop:=Paired (λr (t:CT)=>M r=some (t.obj c)) rs ts
theorem c9.ext{c:CA}{ts:List CT}(e:ad M M')(h:c9 c M ps ts):c9 c M' ps ts:=jC (λr t q=>e r _ q) h
def iF(c:CA):az:=λds M Q=>∃(a:Addr) (h m:Int) (rs:Zh) (ts:List CT),ds=[.ref a,.int h,.int m]/\M a=some (.lst (ao rs))/\c9 c M rs ts/\(∀t∈ts,t.ok)/\∀M',ad M M'->Q (.bl (ts.all (CT.carried h m))) M'
def eL(c:CA):az:=λds M Q=>∃(rs:Zh) (ts:List CT),ds=[.tup (ao rs)]/\c9 c M rs ts/\(∀t∈ts,t.ok)/\ts.length<=6/\∀p M',M p=none->ad M M'->M' p=some (.lst (ts.flatMap CT.leans))->Q (.ref p) M'
def gH:Ss:=#v[.ret (.bl true)]
def gI:Ss:=#v[.ite (.not (.val (.mu "carried" (.var 3) #v[.var 1,.var 2]))) #v[.ret (.bl false)] .nil]
def i9:Ss:=.cons (.for (.nm 3) (.seq (.var 0)) gI) gH
def f7:Ss:=#v[.ret (.var 1)]
def f8:Ss:=#v[.expr (.mt .extend (.var 1) #v[.mu0 "leaning" (.var 2)])]
def j4:Ss:=.cons (.for (.nm 2) (.seq (.var 0)) f8) f7
def iG:Ss:=.cons (.set 1 (.lst .nil)) j4
def Ae(t:CT):t.flds.lookup ("carried" : Str)=none:=by cases t<;>rfl
def Af(t:CT):t.flds.lookup ("leaning" : Str)=none:=by cases t<;>rfl
theorem Fb(h:t.ok):t.leans.length<=7:=by
 cases t with
 |hav f=>exact(by decide:(1:Nat)<=7)
 |lck f=>exact(by decide:(1:Nat)<=7)
 |som n fs=>
  show(fs.map (c6 false)).length<=7;rw[ZF];have:=h.1.2;omega
 |led fs k=>
  show((fs.take k).map (c6 true)++[c6 false (fs.getD k 0)]).length<=7;rw[ZK,ZF,YT]
  have:=h.1.2
  simp only[YJ,YV];omega
section
variable {cn:Cn}{c:CA}{ds:List D}{M:MH}{Q:DK}
def vx(y:∀t:CT,cn.T (c.at t.kind) "carried" = some (cN c t.kind))(h:iF c ds M Q):wSs cn i9 (fin Q) (ai ["","","",""] ds) M:=by
 obtain⟨a,x,m,l,z,rfl,p,hc,g,q⟩:=h;show wSs cn i9 (fin Q) [↑a,some (.int x),some (.int m),none] M;unfold i9;simp! only[List.set,p];have j:∀(rs:Zh) (ts:List CT) (v:Zz) (M1:MH),ad M M1->c9 c M rs ts->(∀t∈ts,t.ok)->(∀M',ad M M'->Q (.bl (ts.all (CT.carried x m))) M') ->
   ar (λM'=>M' a=some (.lst (ao l))) (.nm 3) (wSs cn gI) { nx:=wSs cn gH (fin Q),rt:=Q } (ao rs) [↑a,some (.int x),some (.int m),v] M1:=by
  intro rs ts v M1 e1 hc;induction hc generalizing v M1 with
  |nil=>
   intro _ q;rw[show ao []=[] from rfl,ar];unfold gH;simp! only[];exact q M1 e1
  |@cons r t rs ts hr _ A=>
   intro g q;rw[show ao (r::rs)=.ref r::ao rs from rfl,ar];have u:M1 r=some (.ins (c.at t.kind) t.flds):=e1 r _ hr;unfold gI;simp! only[List.set,u,y,Ae];refine⟨trivial,r,t,x,m,rfl,g t (.head _),rfl,u,λM2 k=>?_⟩;simp only[XS] at q;cases b:t.carried x m with
   |false=>
    rw[b] at q;exact q M2 (e1.trans k)
   |true=>
    rw[b] at q;refine⟨(e1.trans k) a _ p,A _ M2 (e1.trans k) (λt' h'=>g t' (.tail _ h')) ?_⟩;simpa using q
 exact j l z none M (ad.refl M) hc g q
theorem uH(B:∀t:CT,cn.T (c.at t.kind) "leaning" = some (cO c t.kind))(h:eL c ds M Q):wSs cn iG (fin Q) (ai ["","",""] ds) M:=by
 obtain⟨k,C,rfl,hc,j,hl,q⟩:=h;show wSs cn iG (fin Q) [some (.tup (ao k)),none,none] M;unfold iG;simp! only[List.set];intro p hp;unfold j4;simp! only[List.set];have l:∀(rs:Zh) (ts:List CT) (v:Zz) (M1:MH) (g_:List D),ad M M1->M1 p=some (.lst g_)->g_.length+7*ts.length<=42->c9 c M rs ts->(∀t∈ts,t.ok)->(∀M',ad M M'->M' p=some (.lst (g_++ts.flatMap CT.leans))->Q (.ref p) M') ->
   ar (λ_=>True) (.nm 2) (wSs cn f8) { nx:=wSs cn f7 (fin Q),rt:=Q } (ao rs) [some (.tup (ao k)),↑p,v] M1:=by
  intro rs ts v M1 g_ e1 u hl hc;induction hc generalizing v M1 g_ with
  |nil=>
   intro _ q;rw[show ao []=[] from rfl,ar];unfold f7;simp! only[];exact q M1 e1 (by simpa using u)
  |@cons r t rs ts hr _ E=>
   intro j q;rw[show ao (r::rs)=.ref r::ao rs from rfl,ar];have z:M1 r=some (.ins (c.at t.kind) t.flds):=e1 r _ hr;have g:=j t (.head _);have K:=Fb g;unfold f8;simp! only[List.set,z,u,B,Af];refine⟨rfl,trivial,r,t,rfl,g,rfl,z,λp2 M2 O A G=>?_⟩;have I:=A p _ u;simp only[I,G];rw[YJ] at hl;have J:(42:Nat)<=sizeLine:=by decide
   refine⟨by omega,trivial,?_⟩;have y:M p=none:=hp;have e3:ad M (ae M2 p (.lst (g_++t.leans))):=(e1.trans A).put y;refine E _ _ (g_++t.leans) e3 ab (by rw[ZK];omega) (λt' h'=>j t' (.tail _ h')) λM' e' g'=>q M' e' ?_
   rw[List.flatMap_cons,←ZB];exact g'
 exact l k C none _ [] (ad.new hp) ab (by simp;omega) hc j λM' e' g'=>q p M' hp e' (by simpa using g')
end
def cX(M:MH)(ps:Zh)(L:Nat->MO):Prop:=∀f r,ps[f]?=some r->M r=some (L f)
theorem cX.ext(e:ad M M')(h:cX M ps L):cX M' ps L:=λf r q=>e r _ (h f r q)
def Fc{c:Type}{ps:List c}{a:c}(nd:ps.Nodup)(h1:ps[f]?=some a)(g:ps[h]?=some a):f=h:=
 (List.getElem?_inj (YD.mp h1).1 nd).1 (h1.trans g.symm)
theorem cX.put{c:Nat->MO}(nd:ps.Nodup)(hr:ps[h]?=some r)(s:cX M ps L)(e1:c h=o)(j:∀f,f≠h->c f=L f):cX (ae M r o) ps c:=λf g q=>by
 by_cases e:f=h
 .subst e
  rw[hr] at q;cases q;rw[ab,e1]
 .have:g≠r:=λz=>by subst z;exact e (Fc nd q hr)
  rw[aU this,j f e];exact s f g q
def kM(h:ps[f]?=some r):de (ao ps) (f:Int)=↑r:=dO (by unfold ao;rw[ZG,h];rfl)
theorem uI(m:Nat):(bM 0 (m:Int)).length=m:=by unfold bM;rw[ZF,ZJ];omega
def gJ(fs:Zj):(nats fs).length=fs.length:=by unfold nats;rw[ZF]
theorem ou{i:Nat}{c:WT}{e:WE}{o:MO}{F:List D->MH->Prop}(M0:MH)(hc:∀σ M Q,Q true M->c σ M Q)(j:∀σ M Q,(∀p,M p=none->Q (.ref p) (ae M p o))->e σ M Q):∀(xs:List D) (ps:Zh) (σ:DS) (M:MH),ad M0 M->ps.Nodup->(∀p∈ps,M0 p=none/\M p=some o) ->
  (∀g M',ad M0 M'->g.Nodup->g.length=ps.length+xs.length->(∀p∈g,M0 p=none/\M' p=some o)->F (ao g) M')->aH (λ_=>True) (.nm i) c e F xs (ao ps) σ M
 |[],ps,σ,M,e1,nd,hp,q=>q ps M e1 nd rfl hp
 |x::xs,ps,σ,M,e1,nd,hp,q=>by
  rw[aH];show c _ M _;refine hc _ _ _ ?_;rw[bh];refine j _ _ _ λp hn=>⟨trivial,?_⟩
  have:ao ps++[D.ref p]=ao (ps++[p]):=by unfold ao;rw[ZL];rfl
  rw[this];refine ou M0 hc j xs (ps++[p]) _ _ (e1.then hn) ?_ ?_ ?_
  .rw[List.nodup_append]
   refine⟨nd,by simp,λa ha b hb z=>?_⟩;have hb:b=p:=by simpa using hb
   subst hb;subst z
   have:=(hp a ha).2
   rw[hn] at this;cases this
  .intro a ha
   rw[YC] at ha;rcases ha with ha | ha
   .exact⟨(hp a ha).1,(ad.new hn) a _ (hp a ha).2⟩
   .have ha:a=p:=by simpa using ha
    subst ha;exact⟨e1.free hn,ab⟩
  .intro g M' a b d f
   refine q g M' a b ?_ f;rw[d,ZK,YJ,YJ,YV];omega
def cQ(hs:Zj)(k f:Nat):List Nat:=(List.range k).filter λr=>decide (hs[r]?=some f)
def ow{hs:Zj}(k:Nat)(e:hs[f]?=some h):cQ hs (f+1) k=cQ hs f k++(if k=h then[f] else[]):=by
 unfold cQ;rw[List.range_succ,List.filter_append];congr 1;by_cases q:k=h
 .subst q;simp[e]
 .have:h≠k:=λz=>q z.symm
  simp[e,q,this]
def y0(hs:Zj)(k f:Nat):(cQ hs k f).length<=k:=by
 have:=List.length_filter_le (λr=>decide (hs[r]?=some f)) (List.range k)
 rw[ZJ] at this;exact this
def iH:az:=λds M Q=>∃(m:Nat) (hs:Zj),ds=[⇑m,.tup (nats hs)]/\m<=1000/\hs.length<=1000/\(∀h∈hs,h<m) /\
 ∀p ps M',M p=none->ad M M'->M' p=some (.lst (ao ps))->ps.length=m->cX M' ps (λf=>.lst (nats (cQ hs hs.length f)))->Q (.ref p) M'
def f9:Ss:=#v[.ret (.var 2)]
def ga:Ss:=#v[.expr (.mt .append (.ix (.var 2) (.var 4)) #v[.var 3])]
def j5:Ss:=.cons (.for (.tp [3,4]) (.enum #v[.var 1]) ga) f9
def iI:Ss:=.cons (.setC 2 1 (.lst .nil) (.nm 5) (.rg1 #v[.var 0]) .no) j5
def dJ:Ss:=#v[.ret (.comp 1 (.bk .list #v[.var 7]) (.nm 7) (.seq (.var 2)) .no)]
def gb:Ss:=#v[.ite (.not (.val (.var 6))) #v[.putIx (.ix (.var 2) (.var 5)) (.var 3) (.bl true)] .nil]
def gc:Ss:=#v[.for (.tp [5,6]) (.seq (.var 4)) gb]
def j6:Ss:=.cons (.for (.tp [3,4]) (.enum #v[.var 1]) gc) dJ
def eZ:Ss:=.cons (.setC 2 1 .dnew (.nm 7) (.rg1 #v[.var 0]) .no) j6
def CT.leanP:CT->List (Bool×Int)
 |.hav f=>[(false,f)]
 |.lck f=>[(true,f)]
 |.som _ fs=>fs.map λf=>(false,f)
 |.led fs k=>(fs.take k).map (λf=>(true,f))++[(false,fs.getD k 0)]
def pairD(x:Bool×Int):D:=c6 x.1 x.2
def HR(t:CT):t.leans=t.leanP.map pairD:=by
 cases t with
 |hav f=>rfl
 |lck f=>rfl
 |som n fs=>show fs.map (c6 false)=(fs.map λf=>(false,f)).map pairD;rw[ZM];rfl
 |led fs k=>show(fs.take k).map (c6 true)++[c6 false (fs.getD k 0)]=((fs.take k).map (λf=>(true,f))++[(false,fs.getD k 0)]).map pairD;rw[ZL,ZM];rfl
def Dq(ts:List CT):ts.flatMap CT.leans=(ts.flatMap CT.leanP).map pairD:=by
 rw[List.map_flatMap];congr 1
 funext t;exact HR t
def getD_mem{fs:Zi}(h:f<fs.length):fs.getD f 0∈fs:=by
 have:fs.getD f 0=fs[f]:=by simp[List.getD,ZD h]
 rw[this];exact List.getElem_mem h
def l0(h:t.fit m):∀x∈t.leanP,0<=x.2/\x.2<m:=by
 cases t with
 |hav f=>
  intro x hx;have:x=(false,f):=by simpa [CT.leanP] using hx
  subst this;exact h
 |lck f=>
  intro x hx;have:x=(true,f):=by simpa [CT.leanP] using hx
  subst this;exact h
 |som n fs=>
  intro x hx;obtain⟨f,hf,rfl⟩:=List.mem_map.1 hx;exact h.2.2.2 f hf
 |led fs k=>
  intro x hx;rcases YC.1 hx with hx | hx
  .obtain⟨f,hf,rfl⟩:=List.mem_map.1 hx
   exact h.2.2 f (List.mem_of_mem_take hf)
  .have:x=(false,fs.getD k 0):=by simpa using hx
   subst this;exact h.2.2 _ (getD_mem h.1.1)
def bA(l:Zs)(f:Nat):Bool:=decide ((false,(f:Int))∈l)
def cz(ls:List (List (Bool×Int)))(k f:Nat):List Nat:=(List.range k).filter λr=>bA (ls.getD r []) f
def Dr{ls:List (List (Bool×Int))}{l:Zs}(k:Nat)(e:ls[f]?=some l):cz ls (f+1) k=cz ls f k++(if bA l k=true then[f] else[]):=by
 unfold cz;rw[List.range_succ,List.filter_append];congr 1;have c:ls.getD f []=l:=by rw[List.getD_eq_getElem?_getD,e];rfl
 rw[List.filter_cons,c,List.filter_nil]
def y7{ls:List (List (Bool×Int))}(r:n∈cz ls h f):n<h:=ZW.1 (ZV.1 r).1
def HS(ls:List (List (Bool×Int)))(k f:Nat):(cz ls k f).length<=k:=by
 have:=List.length_filter_le (λr=>bA (ls.getD r []) f) (List.range k)
 rw[ZJ] at this;exact this
def c7(rs:Zj):List (Key×D):=rs.map λ(r:Nat)=>(.inl (r:Int),.bl true)
def Fd(rs:Zj):keysOf (c7 rs)=nats rs:=by unfold keysOf c7 nats;rw[ZM];rfl
theorem HU(rs:Zj)(r:Nat):((c7 rs).any λkv=>decide (kv.1=(.inl (r:Int):Key)))=decide (r∈rs):=by
 induction rs with
 |nil=>simp[c7]
 |cons a rs c=>
  have:c7 (a::rs)=(.inl (a:Int),.bl true)::c7 rs:=rfl
  rw[this,XF,c];by_cases e:a=r
  .subst e;simp
  .have h1:r≠a:=λz=>e z.symm
   have g:¬((a:Int)=(r:Int)):=by omega
   simp[h1,g]
def y8(rs:Zj)(r:Nat):putD (c7 rs) (.inl (r:Int)) (.bl true)=c7 (if r∈rs then rs else rs++[r]):=by
 unfold putD;rw[HU];by_cases e:r∈rs
 .rw[if_pos (YW e),if_pos e]
  unfold c7;rw[ZM];refine ZN λa _=>?_
  show(if(Sum.inl (a:Int):Key)=.inl (r:Int) then _ else _)=_;split<;>rfl
 .rw[if_neg (by simpa using e),if_neg e]
  unfold c7;rw[ZL];rfl
def iJ:az:=λds M Q=>∃(m:Nat) (c:Addr) (rs:Zh) (ls:List (List (Bool×Int))),ds=[⇑m,.ref c]/\M c=some (.lst (ao rs))/\rs.length=ls.length/\(∀(k:Nat) (r:Addr) (l:Zs),rs[k]?=some r->ls[k]?=some l->M r=some (.lst (l.map pairD)))/\m<=1000/\ls.length<=1000/\(∀l∈ls,∀x∈l,0<=x.2/\x.2<(m:Int)) /\
 ∀p ps M',M p=none->ad M M'->M' p=some (.lst (ao ps))->ps.length=m->cX M' ps (λf=>.lst (nats (cz ls ls.length f)))->Q (.ref p) M'
section
variable {cn:Cn}{ds:List D}{M:MH}{Q:DK}
theorem uJ(h:iH ds M Q):wSs cn iI (fin Q) (ai ["","","","",""] ds) M:=by
 obtain⟨m,hs,rfl,hm,hl,B,q⟩:=h;show wSs cn iI (fin Q) [~~~m,some (.tup (nats hs)),none,none,none] M;unfold iI;simp! only[List.cons_append,List.nil_append,List.replicate];refine⟨⟨by omega,by omega⟩,?_⟩;refine ou (o:=.lst []) M (λ_ _ _ h=>h) (λ_ _ _ h=>h) (bM 0 (m:Int)) [] _ M (ad.refl M) .nil (λp hp=>nomatch hp) ?_;intro ps M1 e1 nd C u p hp;rw[uI,YV,XZ] at C;have G:M p=none:=e1.free hp;have I:∀r∈ps,r≠p:=λr hr=>qk (u r hr).2 hp
 have J:ad M (ae M1 p (.lst (ao ps))):=e1.then hp;have K:ae M1 p (MO.lst (ao ps)) p=some (.lst (ao ps)):=ab;have s2:cX (ae M1 p (MO.lst (ao ps))) ps (λf=>.lst (nats (cQ hs 0 f))):=λf r hr=>(ad.new hp) r _ (u r (YU hr)).2
 generalize ae M1 p (MO.lst (ao ps))=M2 at *;unfold j5;simp! only[List.set];have y:∀(rest:Zj) (k:Nat) (z A:Zz) (c:MH),hs.drop k=rest->k<=hs.length->ad M c->c p=some (.lst (ao ps))->cX c ps (λf=>.lst (nats (cQ hs k f))) ->
   ar (λ_=>True) (.tp [3,4]) (wSs cn ga) { nx:=wSs cn f9 (fin Q),rt:=Q } (bN (k:Int) (nats rest)) [~~~m,some (.tup (nats hs)),↑p,z,A] c:=by
  intro rest;induction rest with
  |nil=>
   intro k z A c hd O e3 j l;rw[show nats []=[] from rfl,bN,ar];unfold f9;simp! only[];have hk:hs.length<=k:=by
    have:=congrArg List.length hd
    rw[YY,YV] at this;omega
   obtain rfl:k=hs.length:=by omega
   exact q p ps c G e3 j C l
  |cons h rest P=>
   intro k z A c hd O e3 j l;have hk:hs[k]?=some h:=by
    have:=congrArg (·[0]?) hd
    simpa using this
   have R:hs.drop (k+1)=rest:=by
    have:=congrArg (List.drop 1) hd
    rw[List.drop_drop] at this;simpa using this
   have E:h∈hs:=YU hk;have S:k<hs.length:=(YD.mp hk).1;obtain⟨r,hr⟩:∃r,ps[h]?=some r:=⟨ps[h]'(by have:=B h E;omega),ZD (by have:=B h E;omega)⟩;have g:=YU hr;rw[show nats (h::rest)=⇑h::nats rest from rfl,bN,ar];unfold ga;simp! only[List.set,j,kM hr,l h r hr,gJ];have hsz:(1000:Nat)<sizeLine:=by decide
   have T:=y0 hs k h;refine⟨rfl,rfl,by omega,trivial,?_⟩;rw[show((k:Int)+1)=((k+1:Nat):Int) by simp];refine P (k+1) _ _ _ R S (e3.put (u r g).1) ?_ ?_
   .rw[aU (I r g).symm];exact j
   .refine cX.put nd hr l ?_ ?_
    .show MO.lst _=_
     rw[ow h hk,if_pos rfl];unfold nats;rw[ZL];rfl
    .intro f hf
     show MO.lst _=_;rw[ow f hk,if_neg hf,ZA]
 exact y hs 0 none none M2 rfl (YN _) J K s2
def iK(ls:List (List (Bool×Int)))(k:Nat)(dn:Zs)(f:Nat):MO:=.dic (c7 (cz ls k f++(if bA dn f=true then[k] else[])))
def Ag(dn:Zs)(g:Int)(f:Nat):bA (dn++[(true,g)]) f=bA dn f:=by
 unfold bA;congr 1;simp
def Ah(dn:Zs)(f:Nat):bA (dn++[(false,(f:Int))]) f=true:=by
 unfold bA;simp
theorem y9(dn:Zs)(g:f≠h):bA (dn++[(false,(h:Int))]) f=bA dn f:=by
 unfold bA;congr 1;have:¬(f:Int)=(h:Int):=by omega
 simp[this]
def Fe(ls:List (List (Bool×Int)))(k:Nat)(dn:Zs)(g:Nat):MO.dic (putD (c7 (cz ls k g++(if bA dn g=true then[k] else[]))) (.inl (k:Int)) (.bl true))=iK ls k (dn++[(false,(g:Int))]) g:=by
 unfold iK;rw[y8,Ah,if_pos rfl];have hk:k∉cz ls k g:=λz=>absurd (y7 z) (ZT _)
 by_cases e:bA dn g=true
 .rw[if_pos e,if_pos (by simp)]
 .rw[if_neg e,ZA,if_neg hk]
theorem uK(h:iJ ds M Q):wSs cn eZ (fin Q) (ai ["","","","","","",""] ds) M:=by
 obtain⟨m,G,rs,ls,rfl,P6,Ru,UX,hm,hl,hf,q⟩:=h;show wSs cn eZ (fin Q) [~~~m,↑G,none,none,none,none,none] M;unfold eZ;simp! only[List.cons_append,List.nil_append,List.replicate];refine⟨⟨by omega,by omega⟩,?_⟩;refine ou (o:=.dic []) M (λ_ _ _ h=>h) (λ_ _ _ h=>h) (bM 0 (m:Int)) [] _ M (ad.refl M) .nil (λp hp=>nomatch hp) ?_;intro ps M1 e1 nd j_ Rg p hp;rw[uI,YV,XZ] at j_;have Qy:M p=none:=e1.free hp;have F_:∀r∈ps,r≠p:=λr hr=>qk (Rg r hr).2 hp
 have e2:ad M (ae M1 p (.lst (ao ps))):=e1.then hp;have g2:ae M1 p (MO.lst (ao ps)) p=some (.lst (ao ps)):=ab;have s2:cX (ae M1 p (MO.lst (ao ps))) ps (iK ls 0 []):=λf r hr=>(ad.new hp) r _ (Rg r (YU hr)).2
 generalize ae M1 p (MO.lst (ao ps))=M2 at *;unfold j6;simp! only[List.set,e2 G _ P6];have last:∀(J K u y:Zz) (c:MH),ad M c->c p=some (.lst (ao ps))->cX c ps (iK ls ls.length [])->wSs cn dJ (fin Q) [~~~m,↑G,↑p,J,K,u,y] c:=by
  intro J K u y c e3 S W;unfold dJ;simp! only[S,List.cons_append,List.nil_append,List.replicate,nn,gr];have ac:∀(rest:Zh) (k:Nat) (B:Zh) (v:Zz) (j:MH),ps.drop k=rest->k<=ps.length->B.length=k->ad c j->cX j B (λf=>.lst (nats (cz ls ls.length f))) ->
    aH (λM'=>M' p=some (.lst (ao ps))) (.nm 7) (oZ cn .no) (wE cn (.bk .list (.cons (.var 7) .nil))) (λds M'=>∀p,M' p=none->Q (.ref p) (ae M' p (.lst ds))) (ao rest) (ao B) [~~~m,↑G,↑p,J,K,u,y,v] j:=by
   intro rest;induction rest with
   |nil=>
    intro k B v j hd UU hq A I;rw[show ao []=[] from rfl,aH];intro p2 O;have hk:ps.length<=k:=by
     have:=congrArg List.length hd
     rw[YY,YV] at this;omega
    exact q p2 B _ ((e3.trans A).free O) ((e3.trans A).then O) ab 'a' (I.ext (ad.new O))
   |cons r rest ih=>
    intro k B v j hd UU hq A I;have hk:ps[k]?=some r:=by
     have:=congrArg (·[0]?) hd
     simpa using this
    have Qe:ps.drop (k+1)=rest:=by
     have:=congrArg (List.drop 1) hd
     rw[List.drop_drop] at this;simpa using this
    have UW:k<ps.length:=(YD.mp hk).1;have al:j r=some (.dic (c7 (cz ls ls.length k))):=by
     rw[A r _ (W k r hk)];unfold iK;rw[if_neg (by unfold bA;simp),ZA]
    rw[show ao (r::rest)=.ref r::ao rest from rfl,aH];simp! only[List.set,nn,gr,al,lU,Fd];intro p2 O;refine⟨(A.trans (ad.new O)) p _ S,?_⟩;have:ao B++[D.ref p2]=ao (B++[p2]):=by unfold ao;rw[ZL];rfl
    rw[this];refine ih (k+1) (B++[p2]) _ _ Qe UW (by rw[ZK,hq];rfl) (A.then O) λf P C=>?_
    by_cases ap:f<B.length
    .rw[ZE ap] at C
     exact(ad.new O) P _ (I f P C)
    .rw[ZH 'a'] at C
     have T:f-B.length=0:=by
      have:=(YD.mp C).1
      simp only[YJ,YV] at this;omega
     rw[T] at C;have:p2=P:=by simpa using C
     subst this;obtain rfl:f=k:=by omega
     exact ab
  exact ac ps 0 [] none c rfl (YN _) rfl (ad.refl c) (λf r hr=>by simp at hr)
 have outer:∀(rest:Zh) (k:Nat) (J K u y:Zz) (c:MH),rs.drop k=rest->k<=rs.length->ad M c->c p=some (.lst (ao ps))->cX c ps (iK ls k []) ->
   ar (λM'=>M' G=some (.lst (ao rs))) (.tp [3,4]) (wSs cn gc) { nx:=wSs cn dJ (fin Q),rt:=Q } (bN (k:Int) (ao rest)) [~~~m,↑G,↑p,J,K,u,y] c:=by
  intro rest;induction rest with
  |nil=>
   intro k J K u y c hd UU e3 S W;rw[show ao []=[] from rfl,bN,ar];have hk:rs.length<=k:=by
    have:=congrArg List.length hd
    rw[YY,YV] at this;omega
   obtain rfl:k=ls.length:=by omega
   exact last J K u y c e3 S W
  |cons r rest ih=>
   intro k J K u y c hd UU e3 S W;have hk:rs[k]?=some r:=by
    have:=congrArg (·[0]?) hd
    simpa using this
   have Qe:rs.drop (k+1)=rest:=by
    have:=congrArg (List.drop 1) hd
    rw[List.drop_drop] at this;simpa using this
   have UW:k<rs.length:=(YD.mp hk).1;obtain⟨l,hlk⟩:∃l,ls[k]?=some l:=⟨ls[k]' 'a',ZD 'a'⟩;have hr:=UX k r l hk hlk;have Xo:=hf l (YU hlk);rw[show ao (r::rest)=.ref r::ao rest from rfl,bN,ar];unfold gc;simp! only[List.set,e3 r _ hr];refine⟨rfl,?_⟩;have R:∀(U dn:Zs) (u y:Zz) (j:MH),l=dn++U->ad M j->j p=some (.lst (ao ps))->cX j ps (iK ls k dn)->∀(N:DS->MH->Prop),
     (∀w5 w6 V,ad M V->V p=some (.lst (ao ps))->cX V ps (iK ls k l)->N [~~~m,↑G,↑p,~~~k,↑r,w5,w6] V) ->
     ∀E:cP,E.nx=N ->
     ar (λM'=>M' r=some (.lst (l.map pairD))) (.tp [5,6]) (wSs cn gb) E (U.map pairD) [~~~m,↑G,↑p,~~~k,↑r,u,y] j:=by
    intro U;induction U with
    |nil=>
     intro dn u y j Y A Z I N hN E hE;rw[ZA] at Y;subst Y;rw[XA,ar,hE];exact hN u y j A Z I
    |cons x U Tr=>
     intro dn u y j Y A Z I N hN E hE;obtain⟨b,gi⟩:=x;have hx:=Xo (b,gi) (by rw[Y];simp);obtain⟨g,rfl⟩:∃g:Nat,gi=(g:Int):=⟨gi.toNat,by have:=hx.1;simp only at this;omega⟩;have a0:g<ps.length:=by have:=hx.2;simp only at this;omega
     obtain⟨z,T⟩:∃z,ps[g]?=some z:=⟨ps[g],ZD a0⟩;have aa:=YU T;have UZ:l=(dn++[(b,(g:Int))])++U:=by rw[Y];simp
     rw[YL,show pairD (b,(g:Int))=.tup [⇑g,.bl b] from rfl,ar];unfold gb;cases b with
     |true=>
      simp! only[List.set,Bool.not_true];refine⟨rfl,A r _ hr,Tr _ _ _ j UZ A Z (λf P C=>?_) N hN E hE⟩;rw[I f P C];unfold iK;rw[Ag]
     |false=>
      have a1:j z=some (.dic (c7 (cz ls k g++(if bA dn g=true then[k] else[])))):=I g z T;simp! only[List.set,Bool.not_false,Z,kM T,a1];have hsz:(2000:Nat)<sizeLine:=by decide
      have a3:=HS ls k g;refine⟨rfl,?_,?_⟩
      .unfold c7
       rw[ZF,ZK];have:(if bA dn g=true then[k] else[]).length<=1:=by split<;>simp
       omega
      have e5:=A.put (o:=.dic (putD (c7 (cz ls k g++(if bA dn g=true then[k] else[]))) (.inl (k:Int)) (.bl true))) (Rg z aa).1;refine⟨e5 r _ hr,Tr _ _ _ _ UZ e5 ?_ (cX.put nd T I ?_ ?_) N hN E hE⟩
      .rw[aU (F_ z aa).symm];exact Z
      .exact(Fe ls k dn g).symm
      .intro f a2
       unfold iK;rw[y9 dn a2]
   refine R l [] u y c rfl e3 S W _ ?_ _ rfl;intro w5 w6 V e5 g5 s5;refine⟨e5 G _ P6,?_⟩;rw[show((k:Int)+1)=((k+1:Nat):Int) by simp];refine ih (k+1) _ _ _ _ V Qe UW e5 g5 λf P C=>?_
   rw[s5 f P C];unfold iK;rw[Dr f hlk,if_neg (show ¬bA [] f=true by unfold bA;simp),ZA]
 exact outer rs 0 none none none none M2 rfl (YN _) e2 g2 s2
end
abbrev Row:=Nat×List CT
abbrev Zy:=List Row
structure bV (m:Nat) (a_:Zy):Prop where
 most:m<=30
 few:a_.length<=63
 fit:∀x∈a_,x.1<m/\x.2.length<=6/\∀t∈x.2,t.fit (m:Int)
def bd(x:Row):List (Bool×Int):=x.2.flatMap CT.leanP
def aJ(a_:Zy):List Nat:=a_.map (·.1)
def bf(s_:Zt):List D:=s_.map λrs=>.tup (ao rs)
def hid(a:Addr)(M:MH):MH:=λb=>if b=a then none else M b
def cM(a:Addr)(M:MH)(o:MO):hid a (ae M a o)=hid a M:=by
 funext b;unfold hid ae;split<;>rfl
def iL(h:b≠a):hid a M b=M b:=if_neg h
def b0(e:ad M M'):ad (hid a M) (hid a M'):=λb o q=>by
 unfold hid at q ⊢;split at q
 .cases q
 .rename_i n
  rw[if_neg n];exact e b o q
def bW(a:Addr)(M:MH):ad (hid a M) M:=λb o q=>by
 unfold hid at q;split at q
 .cases q
 .exact q
def gY{fs:List (Str×D)}(ha:M a=some (.ins r fs))(hb:M b=some (.lst C')):hid a M b=some (.lst C'):=by
 rw[iL]
 .exact hb
 .intro z;subst z;rw[ha] at hb;cases hb
def KI{fs:List (Str×D)}(ha:M a=some (.ins r fs))(hb:M b=none)(h:M' b=some o):hid a M' b=some o:=by
 rw[iL]
 .exact h
 .intro z;subst z;rw[ha] at hb;cases hb
def b8(M:MH)(C':List D)(a_:Zy):Prop:=Paired (λd (x:Row)=>∃q,d=.tup [⇑x.1,.ref q]/\M q=some (.lst (x.2.map CT.told))) C' a_
theorem b8.ext(e:ad M M')(h:b8 M C' a_):b8 M' C' a_:=jC (λ_ _ ⟨q,a,b⟩=>⟨q,a,e q _ b⟩) h
theorem b8.hid{a S:Addr}{M:MH}{fs:List (Str×D)}{C':List D}{a_:Zy}(ha:M a=some (.ins S fs))(h:b8 M C' a_):b8 (SH.hid a M) C' a_:=jC (λ_ _ ⟨q,a,b⟩=>⟨q,a,gY ha b⟩) h
def gK(c:CA)(M:MH)(s_:Zt)(a_:Zy):Prop:=Paired (λrs (x:Row)=>c9 c M rs x.2) s_ a_
theorem gK.ext{c:CA}{M M':MH}{s_:Zt}{a_:Zy}(e:ad M M')(h:gK c M s_ a_):gK c M' s_ a_:=jC (λ_ _ q=>c9.ext e q) h
def eM(m:Nat)(a_:Zy)(s_:Zt)(p1 p2 p3:Addr):List (Str×D):=[("many",⇑m),("heads",.tup (nats (aJ a_))),("conds",.tup (bf s_)),("headed",.ref p1),("leanings",.ref p2),("helped",.ref p3)]
def rh(M:MH)(ps:Zh)(a_:Zy):Prop:=ps.length=a_.length/\∀(k:Nat) (r:Addr) (x:Row),ps[k]?=some r->a_[k]?=some x->M r=some (.lst ((bd x).map pairD))
structure bm (c:CA) (S:Addr) (M:MH) (a:Addr) (m:Nat) (a_:Zy):Prop where
 ok:bV m a_
 ex:∃(s_:Zt) (p1 p2 p3:Addr) (N_ N' Qa:Zh),M a=some (.ins S (eM m a_ s_ p1 p2 p3))/\gK c M s_ a_ /\
  (M p1=some (.lst (ao N_))/\N_.length=m/\cX M N_ (λf=>.lst (nats (cQ (aJ a_) a_.length f)))) /\
  (M p2=some (.lst (ao N'))/\rh M N' a_) /\
  (M p3=some (.lst (ao Qa))/\Qa.length=m/\cX M Qa (λf=>.lst (nats (cz (a_.map bd) a_.length f))))
theorem bm.ext{c:CA}{S:Addr}{M M':MH}{a:Addr}{m:Nat}{a_:Zy}(e:ad M M')(h:bm c S M a m a_):bm c S M' a m a_:=by
 obtain⟨ok,s_,p1,p2,p3,N_,N',Qa,h1,j,⟨l,p,u⟩,⟨y,g⟩,z,A,B⟩:=h;exact⟨ok,s_,p1,p2,p3,N_,N',Qa,e _ _ h1,j.ext e,⟨e _ _ l,p,u.ext e⟩,⟨e _ _ y,g.1,λk r x C E=>e _ _ (g.2 k r x C E)⟩,e _ _ z,A,B.ext e⟩
def iM:List Str:=["many","heads","conds","headed","leanings","helped"]
def jw(c:CA)(S:Addr):az:=λds M Q=>∃(a:Addr) (m:Nat) (g:Addr) (C':List D) (a_:Zy),ds=[.ref a,⇑m,.ref g]/\M a=some (.ins S [])/\M g=some (.lst C')/\b8 M C' a_/\bV m a_ /\
 ∀M',ExtBut a M M'->bm c S M' a m a_->Q .non M'
def d9(c:CA)(S:Addr):az:=λds M Q=>∃(a:Addr) (m:Nat) (a_:Zy),ds=[.ref a]/\bm c S M a m a_/\Q (⇑m) M
def jE(c:CA)(S:Addr):az:=λds M Q=>∃(a:Addr) (m:Nat) (a_:Zy) (f:Nat),ds=[.ref a,⇑f]/\bm c S M a m a_/\f<m/\∀p M',M p=none->ad M M'->M' p=some (.lst (nats (cQ (aJ a_) a_.length f)))->Q (.ref p) M'
def fE(c:CA)(S:Addr):az:=λds M Q=>∃(a:Addr) (m:Nat) (a_:Zy) (f:Nat),ds=[.ref a,⇑f]/\bm c S M a m a_/\f<m/\∀p M',M p=none->ad M M'->M' p=some (.lst (nats (cz (a_.map bd) a_.length f)))->Q (.ref p) M'
def ja(c:CA)(S:Addr):az:=λds M Q=>∃(a:Addr) (m:Nat) (a_:Zy) (r:Nat) (x:Row),ds=[.ref a,⇑r]/\bm c S M a m a_/\a_[r]?=some x/\Q (⇑x.1) M
def jF(c:CA)(S:Addr):az:=λds M Q=>∃(a:Addr) (m:Nat) (a_:Zy) (r:Nat) (x:Row),ds=[.ref a,⇑r]/\bm c S M a m a_/\a_[r]?=some x/\∀p rs M',M p=none->ad M M'->M' p=some (.lst (ao rs))->c9 c M' rs x.2->Q (.ref p) M'
def ge:Ss:=#v[.ret (.fld (.var 0) "many")]
def gf:Ss:=#v[.ret (.bk .list #v[.ix (.fld (.var 0) "headed") (.var 1)])]
def eh:Ss:=#v[.ret (.bk .list #v[.ix (.fld (.var 0) "helped") (.var 1)])]
def gL:Ss:=#v[.ret (.ix (.fld (.var 0) "heads") (.var 1))]
def gg:Ss:=#v[.ret (.bk .list #v[.ix (.fld (.var 0) "conds") (.var 1)])]
section
variable {m:Nat}{a_:Zy}{s_:Zt}{p1 p2 p3:Addr}
def KJ:(eM m a_ s_ p1 p2 p3).lookup ("many" : Str)= ~~~m:=rfl
def HV:(eM m a_ s_ p1 p2 p3).lookup ("heads" : Str)=some (.tup (nats (aJ a_))):=rfl
def HW:(eM m a_ s_ p1 p2 p3).lookup ("conds" : Str)=some (.tup (bf s_)):=rfl
def wz:(eM m a_ s_ p1 p2 p3).lookup ("headed" : Str)=↑p1:=rfl
def Ff:(eM m a_ s_ p1 p2 p3).lookup ("helped" : Str)=↑p3:=rfl
end
section
variable {cn:Cn}{c:CA}{S:Addr}{ds:List D}{M:MH}{Q:DK}
def Ai(g:∀f∈iM,cn.O S f)(h:d9 c S ds M Q):wSs cn ge (fin Q) (ai [""] ds) M:=by
 obtain⟨a,m,a_,rfl,⟨ok,s_,p1,p2,p3,N_,N',Qa,h1,-⟩,q⟩:=h;show wSs cn ge (fin Q) [↑a] M;unfold ge;simp! only[h1,KJ];exact⟨g _ (by rfl'),q⟩
theorem Aj(j:∀f∈iM,cn.O S f)(h:jE c S ds M Q):wSs cn gf (fin Q) (ai ["",""] ds) M:=by
 obtain⟨a,m,a_,f,rfl,⟨ok,s_,p1,p2,p3,N_,N',Qa,h1,-,⟨k,u,l⟩,-,-⟩,hf,q⟩:=h;show wSs cn gf (fin Q) [↑a,~~~f] M;have g:N_[f]?=some (N_[f]' 'a'):=ZD 'a';unfold gf;simp! only[h1,wz,k,kM g,nn,gr,l f _ g,lU,cu];exact⟨j _ (by rfl'),λp hp=>q p _ hp (ad.new hp) ab⟩
theorem vy(j:∀f∈iM,cn.O S f)(h:fE c S ds M Q):wSs cn eh (fin Q) (ai ["",""] ds) M:=by
 obtain⟨a,m,a_,f,rfl,⟨ok,s_,p1,p2,p3,N_,N',Qa,h1,-,-,-,k,u,l⟩,hf,q⟩:=h;show wSs cn eh (fin Q) [↑a,~~~f] M;have g:Qa[f]?=some (Qa[f]' 'a'):=ZD 'a';unfold eh;simp! only[h1,Ff,k,kM g,nn,gr,l f _ g,lU,cu];exact⟨j _ (by rfl'),λp hp=>q p _ hp (ad.new hp) ab⟩
def Ds(g:∀f∈iM,cn.O S f)(h:ja c S ds M Q):wSs cn gL (fin Q) (ai ["",""] ds) M:=by
 obtain⟨a,m,a_,r,x,rfl,⟨ok,s_,p1,p2,p3,N_,N',Qa,h1,-⟩,hr,q⟩:=h;show wSs cn gL (fin Q) [↑a,~~~r] M;have j:de (nats (aJ a_)) (r:Int)= ~~~x.1:=dO (by unfold nats aJ;rw[ZG,ZG,hr];rfl);unfold gL;simp! only[h1,HV,j];exact⟨g _ (by rfl'),q⟩
theorem Bv{j g:Type}{F:j->g->Prop}:∀{l:List j}{m:List g}{i:Nat}{b:g},Paired F l m->m[i]?=some b->∃a,l[i]?=some a/\F a b
 |_,_,_,_,.nil,h=>by simp at h
 |_,_,0,_,.cons r _,h=>by
  rw[List.getElem?_cons_zero] at h;cases h;exact⟨_,rfl,r⟩
 |_,_,i+1,_,.cons _ t,h=>Bv (i:=i) t (by simpa using h)
def Ak(g:∀f∈iM,cn.O S f)(h:jF c S ds M Q):wSs cn gg (fin Q) (ai ["",""] ds) M:=by
 obtain⟨a,m,a_,r,x,rfl,⟨ok,s_,p1,p2,p3,N_,N',Qa,h1,j,-⟩,hr,q⟩:=h;show wSs cn gg (fin Q) [↑a,~~~r] M;obtain⟨rs,k,hc⟩:=Bv j hr;have l:de (bf s_) (r:Int)=some (.tup (ao rs)):=dO (by unfold bf;rw[ZG,k];rfl);unfold gg;simp! only[h1,HW,l,nn,gr];exact⟨g _ (by rfl'),λp hp=>q p rs _ hp (ad.new hp) ab (hc.ext (ad.new hp))⟩
end
def l5:Ss:=#v[.setF (.var 0) "helped" (.fn 0 #v[.var 1,.fld (.var 0) "leanings"])]
def l6:Ss:=.cons (.setF (.var 0) "leanings" (.comp 1 (.fn 1 #v[.var 5]) (.nm 5) (.seq (.fld (.var 0) "conds")) .no)) l5
def l7:Ss:=.cons (.setF (.var 0) "headed" (.fn 2 #v[.var 1,.fld (.var 0) "heads"])) l6
def l9:Ss:=.cons (.setF (.var 0) "conds" (.bi .tuple #v[.comp 1 (.bi .tuple #v[.comp 1 (.fn 3 #v[.var 6]) (.nm 6) (.seq (.ix (.var 5) (.int 1))) .no]) (.nm 5) (.seq (.var 2)) .no])) l7
def ma:Ss:=.cons (.setF (.var 0) "heads" (.bi .tuple #v[.comp 1 (.ix (.var 5) (.int 0)) (.nm 5) (.seq (.var 2)) .no])) l9
def fb:Ss:=.cons (.setF (.var 0) "many" (.var 1)) ma
def fh:Ss:=#v[.ite (.not (.val (.fn 4 #v[.var 4,.var 1]))) #v[.never] .nil]
def md:Ss:=.cons (.for (.tp [3,4]) (.enum #v[.var 2]) fh) fb
def jR(j l:Nat):Ss:=.cons (.ite (.or (.not (.val (.fn 5 #v[.var 1,.bin .Add (.glob j) (.int 1)]))) (.or (.not (.val (.bi .isinst #v[.var 2,.ty "list"]))) (.cmp .Gt (.bi .len #v[.var 2]) (.glob l)))) #v[.never] .nil) md
abbrev Bw(x:D):List (Str×D):=[("many",x)]
abbrev za(x y:D):List (Str×D):=[("many",x),("heads",y)]
abbrev zb(x y z:D):List (Str×D):=[("many",x),("heads",y),("conds",z)]
abbrev zc(x y z u:D):List (Str×D):=[("many",x),("heads",y),("conds",z),("headed",u)]
abbrev zd(x y z u v:D):List (Str×D):=[("many",x),("heads",y),("conds",z),("headed",u),("leanings",v)]
abbrev Nr(x y z u v w:D):List (Str×D):=[("many",x),("heads",y),("conds",z),("headed",u),("leanings",v),("helped",w)]
def PD(x:D):cV ("many" : Str) x []=Bw x:=rfl
def PF(x y:D):cV ("heads" : Str) y (Bw x)=za x y:=rfl
def PH(x y z:D):cV ("conds" : Str) z (za x y)=zb x y z:=rfl
def PJ(x y z u:D):cV ("headed" : Str) u (zb x y z)=zc x y z u:=rfl
def PK(x y z u v:D):cV ("leanings" : Str) v (zc x y z u)=zd x y z u v:=rfl
def PL(x y z u v w:D):cV ("helped" : Str) w (zd x y z u v)=Nr x y z u v w:=rfl
def PM(x y z:D):List.lookup ("heads" : Str) (zb x y z)=some y:=rfl
def PN(x y z u:D):List.lookup ("conds" : Str) (zc x y z u)=some z:=rfl
def PP(x y z u v:D):List.lookup ("leanings" : Str) (zd x y z u v)=some v:=rfl
def HX(h:b8 M C' a_):([]++C'.map λd=>match d with | .tup (h::_)=>h | _=>.non)=nats (aJ a_):=by
 rw[List.nil_append];induction h with
 |nil=>rfl
 |@cons d x ds rs hd _ c=>
  obtain⟨g,rfl,-⟩:=hd;rw[YL,c];rfl
section
variable {cn:Cn}{c:CA}{S:Addr}
theorem wA{g:MH->Prop}{tc:WT}{te:WE}{F:List D->MH->Prop}{a:Addr}{fs:List (Str×D)}{σ0:DS}{i:Nat}{M0:MH}(hc:∀σ M Q,Q true M->tc σ M Q)(hg:∀M,ad M0 M->g M)
  (j:∀(t:CT) (M:MH) (Q:DK),(∀p M',M p=none->ad M M'->M' p=some (t.obj c)->Q (.ref p) M')->te (σ0.set i (some (CT.told t))) M Q) (k:∀v w:Option D,(σ0.set i v).set i w=σ0.set i w) (l:M0 a=some (.ins S fs)):
  ∀(ts:List CT) (dn:List CT) (rs:Zh) (v:Zz) (M:MH),ad M0 M->c9 c (hid a M) rs dn->(∀u M',ad M0 M'->c9 c (hid a M') u (dn++ts)->F (ao u) M')->aH g (.nm i) tc te F (ts.map CT.told) (ao rs) (σ0.set i v) M
 |[],dn,rs,v,M,e,h,q=>by
  rw[ZA] at q;exact q rs M e h
 |t::ts,dn,rs,v,M,e,h,q=>by
  rw[YL,aH];show tc _ M _;refine hc _ _ _ ?_;rw[bh,k];refine j t M _ λp M' hp e' y=>⟨hg _ (e.trans e'),?_⟩
  have:ao rs++[D.ref p]=ao (rs++[p]):=by unfold ao;rw[ZL];rfl
  rw[this];refine wA hc hg j k l ts (dn++[t]) (rs++[p]) _ M' (e.trans e') ?_ (by simpa using q);exact bR (h.ext (b0 e')) (.cons (KI (e a _ l) hp y) .nil)
variable {ds:List D}{M:MH}{Q:DK}{j l:Nat}
theorem xh(Y:∀f∈iM,cn.O S f)(f0:cn.F.getD 0 'd'=iJ)(f1:cn.F.getD 1 'd'=eL c)(f2:cn.F.getD 2 'd'=iH)(f3:cn.F.getD 3 'd'=uG c)(f4:cn.F.getD 4 'd'=rg)(f5:cn.F.getD 5 'd'=cK)
  (gj:cn.G.getD j .non=.int 120) (gl:cn.G.getD l .non=.int 400) (h:jw c S ds M Q):wSs cn (jR j l) (fin Q) (ai ["","","","",""] ds) M:=by
 obtain⟨a,m,J,C',a_,rfl,ha,SU,hR,ok,q⟩:=h;show wSs cn (jR j l) (fin Q) [↑a,~~~m,↑J,none,none] M;have ba:=ok.most;have bb:=ok.few;have Ru:C'.length=a_.length:=nj hR;unfold jR;simp_all! only[List.set,j0,SU,f5,gj,gl];refine⟨(m:Int),120+1,rfl,?_⟩;have h1:decide (0<=(m:Int))=true:=YW 'a';have h2:decide ((m:Int)<120+1)=true:=YW 'a';simp only[h1,h2,Bool.and_self,Bool.not_true,aR,bh];refine⟨by decide,?_⟩;simp only[SU,ld,Bool.not_true,aR];have b2:decide ((400:Int)<(C'.length:Int))=false:=ZQ 'a';simp only[b2,aR];unfold md;simp_all! only[List.set,SU];have rest:∀(A B:Zz) (M1:MH),ad M M1->wSs cn fb (fin Q) [↑a,~~~m,↑J,A,B] M1:=by
  intro A B M1 e1;have SS:=e1 _ _ ha;have R1:b8 (hid a M1) C' a_:=(hR.ext e1).hid SS;have Sx:hid a M1 J=some (.lst C'):=gY SS (e1 _ _ SU);have x1:ad (hid a M) (hid a M1):=b0 e1;unfold fb;simp_all! only[List.set,SS,PD];refine⟨⟨Y _ (by rfl'),by decide⟩,?_⟩;have US:ae M1 a (MO.ins S (Bw (⇑m))) a=some (.ins S (Bw (⇑m))):=ab;have u:=cM a M1 (MO.ins S (Bw (⇑m)));generalize ae M1 a (MO.ins S (Bw (⇑m)))=M2 at *;rw[←u] at R1 Sx x1;clear u SS e1;clear M1;have Tt:=bW a M2 _ _ Sx
  -- c_
  unfold ma;simp_all! only[List.set,List.cons_append,List.nil_append,List.replicate,Tt];refine cT (f:=λd=>match d with | .tup (h::_)=>h | _=>.non) (ok:=λσ=>∃v,σ=[↑a,~~~m,↑J,A,B,v]) [] _ ⟨none,rfl⟩ ?_ ?_
  .intro d hd σ g_ I_ ⟨v,hv⟩ k
   subst hv;obtain⟨i,hi⟩:=XW hd;obtain⟨x,-,C,rfl,-⟩:=eI R1 hi;rw[aH];simp_all! only[List.set,cf];exact⟨Tt,k _ ⟨_,rfl⟩⟩
  intro p hp;have c_:=HX R1;rw[c_];have e3:=ad.new (o:=MO.lst (nats (aJ a_))) hp;have g3:ae M2 p (MO.lst (nats (aJ a_))) p=some (.lst (nats (aJ a_))):=ab;generalize ae M2 p (MO.lst (nats (aJ a_)))=M3 at *;have VP:=e3 _ _ US;simp only[g3,cu,VP,PF];refine⟨⟨Y _ (by rfl'),(by decide:(1:Nat)<1000)⟩,?_⟩;have x3:ad (hid a M) (hid a M3):=x1.trans (b0 e3);have R3:=R1.ext (b0 (a:=a) e3);have Tu:=b0 (a:=a) e3 _ _ Sx;clear R1 Sx x1 US e3 g3 Tt hp c_;clear M2;have Xp:ae M3 a (MO.ins S (za (⇑m) (.tup (nats (aJ a_))))) a=some (.ins S (za (⇑m) (.tup (nats (aJ a_))))):=ab;have u:=cM a M3 (MO.ins S (za (⇑m) (.tup (nats (aJ a_)))));generalize ae M3 a (MO.ins S (za (⇑m) (.tup (nats (aJ a_)))))=Z at *;rw[←u] at R3 Tu x3;clear u VP;clear M3;have Tv:=bW a Z _ _ Tu
  -- RW
  unfold l9;simp_all! only[List.set,List.cons_append,List.nil_append,List.replicate,Tv];have hm:∀(x:Row) (C:Addr) (g:MH) (K:DK),g a=some (.ins S (za (⇑m) (.tup (nats (aJ a_)))))->g C=some (.lst (x.2.map CT.told))->(∀rs z,ad g z->c9 c (hid a z) rs x.2->K (.tup (ao rs)) z) ->
    wE cn (.bi .tuple (.cons (.comp 1 (.fn 3 (.cons (.var 6) .nil)) (.nm 6) (.seq (.ix (.var 5) (.int 1))) .no) .nil)) [↑a,~~~m,↑J,A,B,some (.tup [⇑x.1,.ref C])] g K:=by
   intro x C g K VQ Rv k;simp_all! only[List.set,List.cons_append,List.nil_append,List.replicate,cm,Rv,f3];refine wA (c:=c) (S:=S) (a:=a) (M0:=g) (i:=6) (σ0:=[↑a,~~~m,↑J,A,B,some (.tup [⇑x.1,.ref C]),none]) (λ_ _ _ h=>h) (λz R=>R _ _ Rv) ?_ (λ_ _=>rfl) VQ x.2 [] [] none g (ad.refl g) .nil ?_
   .intro t z K2 k2
    exact⟨t,rfl,k2⟩
   .intro rs z R Xq p hp
    rw[ab];exact k rs _ (R.then hp) (Xq.ext (b0 (ad.new hp)))
  have RW:∀(F:List D->MH->Prop) (xs:List D) (I dn:Zy) (s_:Zt) (v:Zz) (g:MH),b8 (hid a Z) xs I->ad Z g->gK c (hid a g) s_ dn->(∀U3 z,ad Z z->gK c (hid a z) U3 (dn++I)->F (bf U3) z) ->
    aH (λM'=>M' J=some (.lst C')) (.nm 5) (oZ cn .no) (wE cn (.bi .tuple (.cons (.comp 1 (.fn 3 (.cons (.var 6) .nil)) (.nm 6) (.seq (.ix (.var 5) (.int 1))) .no) .nil))) F xs (bf s_) [↑a,~~~m,↑J,A,B,v] g:=by
   intro F xs I dn s_ v g hp;induction hp generalizing dn s_ v g with
   |nil=>
    intro V h5 k;rw[aH];rw[ZA] at k;exact k s_ g V h5
   |@cons d x xs I hd _ ih=>
    intro V h5 k;obtain⟨C,rfl,Rv⟩:=hd;rw[aH];refine hm x C g _ (V _ _ Xp) (V _ _ (bW a Z _ _ Rv)) λrs z R Xq=>⟨(V.trans R) _ _ Tv,?_⟩
    have:bf s_++[D.tup (ao rs)]=bf (s_++[rs]):=by unfold bf;rw[ZL];rfl
    rw[this];refine ih (dn++[x]) (s_++[rs]) _ z (V.trans R) (bR (h5.ext (b0 R)) (.cons Xq .nil)) (by simpa using k)
  refine RW _ C' a_ [] [] none Z R3 (ad.refl Z) .nil ?_;clear RW hm;intro s_ g V Xr p hp;rw[List.nil_append] at Xr;have R:=ad.new (o:=MO.lst (bf s_)) hp;have g6:ae g p (MO.lst (bf s_)) p=some (.lst (bf s_)):=ab;generalize ae g p (MO.lst (bf s_))=z at *;have ac:=(V.trans R) _ _ Xp;simp only[g6,cu,ac,PH];refine⟨⟨Y _ (by rfl'),(by decide:(2:Nat)<1000)⟩,?_⟩;have x6:ad (hid a M) (hid a z):=x3.trans (b0 (V.trans R));have C6:=Xr.ext (b0 (a:=a) R);clear R3 Tu x3 Xp V Xr hp R g6 Tv;clear Z g;have T2:ae z a (MO.ins S (zb (⇑m) (.tup (nats (aJ a_))) (.tup (bf s_)))) a=some (.ins S (zb (⇑m) (.tup (nats (aJ a_))) (.tup (bf s_)))):=ab;have u:=cM a z (MO.ins S (zb (⇑m) (.tup (nats (aJ a_))) (.tup (bf s_))));generalize ae z a (MO.ins S (zb (⇑m) (.tup (nats (aJ a_))) (.tup (bf s_))))=M7 at *;rw[←u] at C6 x6;clear u ac;clear z
  -- headed
  unfold l7;simp_all! only[List.set,T2,PM,f2];have a3:(aJ a_).length=a_.length:=by unfold aJ;rw[ZF]
  refine⟨Y _ (by rfl'),m,aJ a_,rfl,by omega,by omega,?_,?_⟩
  .intro h u
   obtain⟨x,hx,rfl⟩:=List.mem_map.1 u;exact(ok.fit x hx).1
  intro p1 N_ M8 Su e8 g8 l8 s8;rw[a3] at s8;have Tw:=e8 _ _ T2;simp only[Tw,PJ];refine⟨⟨Y _ (by rfl'),(by decide:(3:Nat)<1000)⟩,?_⟩;have x8:ad (hid a M) (hid a M8):=x6.trans (b0 e8);have C8:=C6.ext (b0 (a:=a) e8);have G8:hid a M8 p1=some (.lst (ao N_)):=gY Tw g8;have S8:cX (hid a M8) N_ (λf=>.lst (nats (cQ (aJ a_) a_.length f))):=λf r hr=>gY Tw (s8 f r hr)
  clear C6 x6 T2 Su e8 g8 s8;clear M7;have Xs:ae M8 a (MO.ins S (zc (⇑m) (.tup (nats (aJ a_))) (.tup (bf s_)) (.ref p1))) a=some (.ins S (zc (⇑m) (.tup (nats (aJ a_))) (.tup (bf s_)) (.ref p1))):=ab;have u:=cM a M8 (MO.ins S (zc (⇑m) (.tup (nats (aJ a_))) (.tup (bf s_)) (.ref p1)));generalize ae M8 a (MO.ins S (zc (⇑m) (.tup (nats (aJ a_))) (.tup (bf s_)) (.ref p1)))=M9 at *;rw[←u] at C8 x8 G8 S8;clear u Tw;clear M8
  -- leanings
  unfold l6;simp_all! only[List.set,List.cons_append,List.nil_append,List.replicate,Xs,PN];refine⟨Y _ (by rfl'),?_⟩;have aa:∀(F:List D->MH->Prop) (cs:Zt) (I dn:Zy) (ps:Zh) (v:Zz) (T:MH),gK c (hid a M9) cs I->(∀x∈I,x.1<m/\x.2.length<=6/\∀t∈x.2,t.fit (m:Int))->ad M9 T->rh T ps dn->(∀Sv P,ad M9 P->rh P Sv (dn++I)->F (ao Sv) P) ->
    aH (λ_=>True) (.nm 5) (oZ cn .no) (wE cn (.fn 1 (.cons (.var 5) .nil))) F (bf cs) (ao ps) [↑a,~~~m,↑J,A,B,v] T:=by
   intro F cs I dn ps v T hp;induction hp generalizing dn ps v T with
   |nil=>
    intro _ U Sw k;rw[show bf []=[] from rfl,aH];rw[ZA] at k;exact k ps T U Sw
   |@cons rs x cs I hd _ ih=>
    intro hf U Sw k;obtain⟨Xu,U4,U5⟩:=hf x (.head _);rw[show bf (rs::cs)=.tup (ao rs)::bf cs from rfl,aH];have go:eL c [.tup (ao rs)] T (λy M2=>True/\aH (λ_=>True) (.nm 5) (oZ cn .no) (wE cn (.fn 1 (.cons (.var 5) .nil))) F (bf cs) (ao ps++[y]) [↑a,~~~m,↑J,A,B,some (.tup (ao rs))] M2):=by
     refine⟨rs,x.2,rfl,(hd.ext (bW a M9)).ext U,λt ht=>CT.fit_ok 'a' (U5 t ht),U4,λp P hp W QX=>⟨trivial,?_⟩⟩;have:ao ps++[D.ref p]=ao (ps++[p]):=by unfold ao;rw[ZL];rfl
     rw[this];refine ih (dn++[x]) (ps++[p]) _ P (λy hy=>hf y (.tail _ hy)) (U.trans W) ⟨by rw[ZK,ZK,Sw.1];rfl,λk r y hr hy=>?_⟩ (by simpa using k);by_cases hk:k<ps.length
     .rw[ZE hk] at hr
      rw[ZE (by rw[←Sw.1];exact hk)] at hy;exact W _ _ (Sw.2 k r y hr hy)
     .rw[ZH 'a'] at hr
      rw[ZH (by rw[←Sw.1];omega),←Sw.1] at hy;have hz:k-ps.length=0:=by
       have:=(YD.mp hr).1
       simp only[YJ,YV] at this;omega
      rw[hz,List.getElem?_cons_zero] at hr hy;cases hr;cases hy;rw[QX,Dq];rfl
    rw[←f1] at go;exact go
  refine aa _ s_ a_ [] [] none M9 C8 ok.fit (ad.refl M9) ⟨rfl,λk r x hr=>by simp at hr⟩ ?_;clear aa;intro N' T U VR p2 G';rw[List.nil_append] at VR;have W:=ad.new (o:=MO.lst (ao N')) G';have QX:ae T p2 (MO.lst (ao N')) p2=some (.lst (ao N')):=ab;generalize ae T p2 (MO.lst (ao N'))=P at *;have Sy:=(U.trans W) _ _ Xs;simp only[Sy,PK];refine⟨⟨Y _ (by rfl'),(by decide:(4:Nat)<1000)⟩,?_⟩;have al:ad (hid a M) (hid a P):=x8.trans (b0 (U.trans W));have ap:=C8.ext (b0 (a:=a) (U.trans W));have a0:=b0 (a:=a) (U.trans W) _ _ G8;have a1:=S8.ext (b0 (a:=a) (U.trans W));have Xv:hid a P p2=some (.lst (ao N')):=gY Sy QX;have U6:rh (hid a P) N' a_:=⟨VR.1,λk r x hr hx=>gY Sy (W _ _ (VR.2 k r x hr hx))⟩;clear C8 x8 Xs G' U VR W QX G8 S8;clear M9 T;have U7:ae P a (MO.ins S (zd (⇑m) (.tup (nats (aJ a_))) (.tup (bf s_)) (.ref p1) (.ref p2))) a=some (.ins S (zd (⇑m) (.tup (nats (aJ a_))) (.tup (bf s_)) (.ref p1) (.ref p2))):=ab;have u:=cM a P (MO.ins S (zd (⇑m) (.tup (nats (aJ a_))) (.tup (bf s_)) (.ref p1) (.ref p2)));generalize ae P a (MO.ins S (zd (⇑m) (.tup (nats (aJ a_))) (.tup (bf s_)) (.ref p1) (.ref p2)))=U8 at *;rw[←u] at ap al a0 a1 Xv U6;clear u Sy;clear P
  -- helped
  unfold l5;simp_all! only[List.set,U7,PP,f0];refine⟨Y _ (by rfl'),m,p2,N',a_.map bd,rfl,bW a U8 _ _ Xv,by rw[ZF];exact U6.1,?_,by omega,by rw[ZF];omega,?_,?_⟩
  .intro k r l hr hl
   rw[ZG] at hl;obtain⟨x,hx,rfl⟩:=ZO.1 hl;exact bW a U8 _ _ (U6.2 k r x hr hx)
  .intro l hl x hx
   obtain⟨y,hy,rfl⟩:=List.mem_map.1 hl;obtain⟨t,ht,a4⟩:=List.mem_flatMap.1 hx;exact l0 ((ok.fit y hy).2.2 t ht) x a4
  intro p3 Qa U9 QW U_ T3 a5 a2;rw[ZF] at a2;have Tx:=U_ _ _ U7;simp only[Tx,PL];refine⟨⟨Y _ (by rfl'),(by decide:(5:Nat)<1000)⟩,?_⟩;have u:=cM a U9 (MO.ins S (Nr (⇑m) (.tup (nats (aJ a_))) (.tup (bf s_)) (.ref p1) (.ref p2) (.ref p3)));have he:=b0 (a:=a) U_;have hl:=bW a (ae U9 a (MO.ins S (Nr (⇑m) (.tup (nats (aJ a_))) (.tup (bf s_)) (.ref p1) (.ref p2) (.ref p3))));rw[u] at hl;have ee:=he.trans hl;refine q _ ?_ ⟨ok,s_,p1,p2,p3,N_,N',Qa,ab,ap.ext ee,⟨ee _ _ a0,l8,a1.ext ee⟩,⟨ee _ _ Xv,U6.1,λk r x hr hx=>ee _ _ (U6.2 k r x hr hx)⟩,hl _ _ (gY Tx T3),a5,λf r hr=>hl _ _ (gY Tx (a2 f r hr))⟩;intro b o hb a6;refine ee b o (al b o ?_);rw[iL hb];exact a6
 have step:∀(E:cP) (v0 v2:Zz) (A B:Zz) (M1:MH) (x:Row) (C:Addr),(x.1<m/\x.2.length<=6/\∀t∈x.2,t.fit (m:Int))->M1 C=some (.lst (x.2.map CT.told))->(∀M2,ad M1 M2->E.nx [v0,~~~m,v2,A,some (.tup [⇑x.1,.ref C])] M2) ->
   wSs cn fh E [v0,~~~m,v2,A,some (.tup [⇑x.1,.ref C])] M1:=by
  intro E v0 v2 A B M1 x C ⟨Xu,U4,U5⟩ hq k;unfold fh;simp_all! only[List.set,f4];exact⟨(x.1:Int),(m:Int),C,x.2,rfl,hq,⟨by omega,by omega⟩,U4,U5,λM2 e2=>k M2 e2⟩
 have a7:∀(xs:List D) (I:Zy) (k:Int) (A B:Zz) (M1:MH),b8 M xs I->(∀x∈I,x.1<m/\x.2.length<=6/\∀t∈x.2,t.fit (m:Int))->ad M M1 ->
   ar (λM'=>M' J=some (.lst C')) (.tp [3,4]) (wSs cn fh) { nx:=wSs cn fb (fin Q),rt:=Q } (bN k xs) [↑a,~~~m,↑J,A,B] M1:=by
  intro xs I k A B M1 hp;induction hp generalizing k A B M1 with
  |nil=>
   intro _ e1;rw[bN,ar];exact rest A B M1 e1
  |@cons d x xs I hd _ ih=>
   intro hf e1;obtain⟨C,rfl,Rv⟩:=hd;obtain⟨Xu,U4,U5⟩:=hf x (.head _);rw[bN,ar];refine⟨rfl,step _ _ _ _ none M1 x C ⟨Xu,U4,U5⟩ (e1 _ _ Rv) λM2 e2=>?_⟩;exact⟨(e1.trans e2) J _ SU,ih _ _ _ M2 (λy hy=>hf y (.tail _ hy)) (e1.trans e2)⟩
 exact a7 C' a_ 0 none none M hR ok.fit (ad.refl M)
end
end SH
namespace SG
open PySem L2 DD
variable {f:Nat}
section
variable {E:Nat->Nat->Prop}{f g h j k m:Nat}
inductive fj (E:Nat->Nat->Prop):Nat->Nat->Prop where
 |refl (f:Nat):fj E f f
 |step {f g h:Nat}:E f g->fj E g h->fj E f h
theorem fj.trans(a:fj E f g)(b:fj E g h):fj E f h:=by
 induction a with
 |refl f=>exact b
 |step e _ c=>exact .step e (c b)
theorem fj.one(e:E f g):fj E f g:=.step e (.refl g)
theorem fj.lt(b:∀f g,E f g->g<m)(a:fj E f g)(hf:f<m):g<m:=by
 induction a with
 |refl f=>exact hf
 |step e _ c=>exact c (b _ _ e)
def Wr(E:Nat->Nat->Prop):Nat->Nat->Nat->Prop
 |0,f,g=>f=g\/E f g
 |k+1,f,g=>Wr E k f g\/(Wr E k f k/\Wr E k k g)
theorem Wr.up(a:Wr E 0 f g):∀k,Wr E k f g
 |0=>a
 |k+1=>.inl (Wr.up a k)
theorem Wr.mid:∀(k:Nat){f g j:Nat},j<k->Wr E k f j->Wr E k j g->Wr E k f g
 |0,_,_,_,h,_,_=>absurd h (Nat.not_lt_zero _)
 |k+1,f,g,j,h,a,b=>by
  rcases Nat.lt_succ_iff_lt_or_eq.1 h with h | rfl
  .rcases a with a | ⟨a1,a2⟩
   .rcases b with b | ⟨b1,b2⟩
    .exact .inl (Wr.mid k h a b)
    .exact .inr ⟨Wr.mid k h a b1,b2⟩
   .rcases b with b | ⟨b1,b2⟩
    .exact .inr ⟨a1,Wr.mid k h a2 b⟩
    .exact .inr ⟨a1,b2⟩
  .have a':Wr E j f j:=by rcases a with a | a;exact a;exact a.1
   have b':Wr E j j g:=by rcases b with b | b;exact b;exact b.2
   exact .inr ⟨a',b'⟩
theorem Wr.rch:∀(k:Nat){f g:Nat},Wr E k f g->fj E f g
 |0,f,g,a=>by
  rcases a with rfl | e
  .exact .refl f
  .exact .one e
 |k+1,f,g,a=>by
  rcases a with a | ⟨a,b⟩
  .exact Wr.rch k a
  .exact(Wr.rch k a).trans (Wr.rch k b)
theorem fj.wr(b:∀f g,E f g->g<m)(a:fj E f g):Wr E m f g:=by
 induction a with
 |refl f=>exact Wr.up (.inl rfl) m
 |step e _ c=>exact Wr.mid m (b _ _ e) (Wr.up (.inr e) m) c
def Nt(a:∀f g,E f g->g<m):Wr E m f g↔fj E f g:=⟨Wr.rch m,fj.wr a⟩
end
def ze(rs:Zj)(k:Nat):List Nat:=rs.map λx=>if x.testBit k=true then x|||rs.getD k 0 else x
def bH(ls:Zj):Nat->List Nat
 |0=>ls.mapIdx λf x=>x|||1<<<f
 |k+1=>ze (bH ls k) k
def gZ(ls:Zj)(f g:Nat):Prop:=(ls.getD f 0).testBit g=true
theorem gM(ls:Zj):∀k,(bH ls k).length=ls.length
 |0=>by simp[bH]
 |k+1=>by rw[bH,ze,ZF,gM ls k]
theorem zf(ls:Zj):∀(k:Nat),k<=ls.length->∀(f g:Nat),f<ls.length->(((bH ls k).getD f 0).testBit g=true↔Wr (gZ ls) k f g)
 |0,_,f,g,hf=>by
  have e:(bH ls 0).getD f 0=ls.getD f 0|||1<<<f:=by
   simp[bH,List.getD_eq_getElem?_getD,ZD hf]
  rw[e,Nat.testBit_or,Bool.or_eq_true,Nat.one_shiftLeft,Nat.testBit_two_pow];show _↔f=g\/(ls.getD f 0).testBit g=true;simp only[XT];exact Or.comm
 |k+1,hk,f,g,hf=>by
  have a:=λf g hf=>zf ls k 'a' f g hf
  have e:(bH ls (k+1)).getD f 0=if((bH ls k).getD f 0).testBit k=true then(bH ls k).getD f 0|||(bH ls k).getD k 0 else(bH ls k).getD f 0:=by
   have hl:f<(bH ls k).length:=by rw[gM];exact hf
   simp only[bH,ze,List.getD_eq_getElem?_getD,ZG,ZD hl,Option.map_some,XJ]
  rw[e];show _↔Wr (gZ ls) k f g\/(Wr (gZ ls) k f k/\Wr (gZ ls) k k g);rw[←a f g hf,←a f k hf,←a k g 'a'];split
  .rename_i hb
   rw[Nat.testBit_or,Bool.or_eq_true];exact⟨λh=>h.imp id λz=>⟨hb,z⟩,λh=>h.imp id λz=>z.2⟩
  .rename_i hb
   exact⟨.inl,λh=>h.elim id λz=>absurd z.1 hb⟩
def Fg{ls:Zj}(a:∀f g,gZ ls f g->g<ls.length){g:Nat}(hf:f<ls.length):((bH ls ls.length).getD f 0).testBit g=true↔fj (gZ ls) f g:=by
 rw[zf ls ls.length (YG _) f g hf,Nt a]
end SG
namespace SH
open PySem L2 DD
variable {g h f h' a:Nat}{a_:Zy}{t:CT}
def sW(n:Nat)(f:Int):hasB (n:Int) f=n.testBit f.toNat:=cx n f.toNat▸(by unfold hasB mM;rw[YX])
def Sub(a b:Nat):Prop:=∀f,a.testBit f=true->b.testBit f=true
theorem Sub.refl(a:Nat):Sub a a:=λ_ h=>h
theorem Sub.trans{c:Nat}(h:Sub a g)(b:Sub g c):Sub a c:=λf q=>b f (h f q)
theorem Sub.or_l(a b:Nat):Sub a (a|||b):=λf h=>by rw[Nat.testBit_or,h];rfl
theorem Sub.or(c:Sub a g)(b:Sub h g):Sub (a|||h) g:=λf q=>by
 rw[Nat.testBit_or,Bool.or_eq_true] at q;exact q.elim (c f) (b f)
theorem Sub.hasB{a b:Nat}(h:Sub a b){f:Int}(q:SH.hasB (a:Int) f=true):SH.hasB (b:Int) f=true:=by
 rw[sW] at q ⊢;exact h _ q
theorem Fh{p q:Int->Bool}(h:∀f,p f=true->q f=true):∀fs:List Int,(fs.filter p).length<=(fs.filter q).length
 |[]=>YG _
 |f::fs=>by
  have b:=Fh h fs;rw[List.filter_cons,List.filter_cons];by_cases e:p f=true
  .rw[if_pos e,if_pos (h f e),YJ,YJ];omega
  .rw[if_neg e]
   split
   .rw[YJ];omega
   .exact b
theorem zg{p q:Int->Bool}:∀{fs:Zi},(fs.filter p).length<(fs.filter q).length->∃f∈fs,p f=false/\q f=true
 |[],h=>absurd h (ZT _)
 |f::fs,h=>by
  by_cases e:p f=false/\q f=true
  .exact⟨f,.head _,e⟩
  .rw[List.filter_cons,List.filter_cons] at h
   have:(fs.filter p).length<(fs.filter q).length:=by
    cases hp:p f with
    |true=>
     rw[if_pos hp] at h;split at h
     .simpa using h
     .rw[YJ] at h;omega
    |false=>
     have hq:q f=false:=by
      cases hq:q f with
      |false=>rfl
      |true=>exact absurd ⟨hp,hq⟩ e
     rw[if_neg (by simp[hp]),if_neg (by simp[hq])] at h;exact h
   obtain⟨g,hg,w⟩:=zg this;exact⟨g,.tail _ hg,w⟩
def wB(h:Sub a g)(fs:Zi):bZ fs (a:Int)<=bZ fs (g:Int):=by
 unfold bZ;exact Fh (λf q=>h.hasB q) fs
theorem zh(s:Sub h h')(q:t.carried (h:Int) (g:Int)=true):t.carried (h':Int) (g:Int)=true:=by
 cases t with
 |hav f=>exact s.hasB q
 |lck f=>exact q
 |som n fs=>
  have q:decide (n<=((bZ fs (h:Int):Nat):Int))=true:=q;show decide (n<=((bZ fs (h':Int):Nat):Int))=true
  have:=XR q
  have:=wB s fs
  exact YW 'a'
 |led fs k=>
  have q:(hasB (h:Int) (fs.getD k 0)&&(((bZ (fs.take k) (g:Int):Nat):Int)==0))=true:=q;show(hasB (h':Int) (fs.getD k 0)&&(((bZ (fs.take k) (g:Int):Nat):Int)==0))=true;rw[YZ] at q ⊢;exact⟨s.hasB q.1,q.2⟩
theorem zi(s:Sub g a)(q:t.carried (h:Int) (a:Int)=true):t.carried (h:Int) (g:Int)=true:=by
 cases t with
 |hav f=>exact q
 |lck f=>
  have q:(!hasB (a:Int) f)=true:=q;show(!hasB (g:Int) f)=true;cases e:hasB (g:Int) f with
  |false=>rfl
  |true=>rw[s.hasB e] at q;exact q
 |som n fs=>exact q
 |led fs k=>
  have q:(hasB (h:Int) (fs.getD k 0)&&(((bZ (fs.take k) (a:Int):Nat):Int)==0))=true:=q;show(hasB (h:Int) (fs.getD k 0)&&(((bZ (fs.take k) (g:Int):Nat):Int)==0))=true;rw[YZ] at q ⊢;refine⟨q.1,?_⟩;have h1:=q.2;have b:=wB s (fs.take k);rw[beq_iff_eq] at h1 ⊢;omega
theorem zj(q:t.carried (h:Int) (g:Int)=false)(b:t.carried (h':Int) (g:Int)=true):∃f,(false,f)∈t.leanP/\hasB (h:Int) f=false/\hasB (h':Int) f=true:=by
 cases t with
 |hav f=>exact⟨f,by simp[CT.leanP],q,b⟩
 |lck f=>
  have q:(!hasB (g:Int) f)=false:=q;have b:(!hasB (g:Int) f)=true:=b;rw[q] at b;cases b
 |som n fs=>
  have q:decide (n<=((bZ fs (h:Int):Nat):Int))=false:=q;have b:decide (n<=((bZ fs (h':Int):Nat):Int))=true:=b;have h1:=of_decide_eq_false q;have c:=XR b;have:(fs.filter (hasB (h:Int))).length<(fs.filter (hasB (h':Int))).length:=by
   unfold bZ at h1 c;omega
  obtain⟨f,hf,w⟩:=zg this;exact⟨f,List.mem_map.2 ⟨f,hf,rfl⟩,w⟩
 |led fs k=>
  have q:(hasB (h:Int) (fs.getD k 0)&&(((bZ (fs.take k) (g:Int):Nat):Int)==0))=false:=q;have b:(hasB (h':Int) (fs.getD k 0)&&(((bZ (fs.take k) (g:Int):Nat):Int)==0))=true:=b;rw[YZ] at b;rw[b.2,XU] at q;exact⟨_,YC.2 (.inr (.head _)),q,b.1⟩
def bw(h g:Nat)(x:Row):Bool:=x.2.all (CT.carried (h:Int) (g:Int))
def mS(s:Sub h h'){x:Row}(q:bw h g x=true):bw h' g x=true:=by
 unfold bw at q ⊢;rw[XO] at q ⊢;exact λt ht=>zh s (q t ht)
def sr(s:Sub g f){x:Row}(q:bw h f x=true):bw h g x=true:=by
 unfold bw at q ⊢;rw[XO] at q ⊢;exact λt ht=>zi s (q t ht)
def Al{x:Row}(q:bw h g x=false)(b:bw h' g x=true):∃f,(false,f)∈bd x/\hasB (h:Int) f=false/\hasB (h':Int) f=true:=by
 unfold bw at q b;rw[XO] at b;rw[List.all_eq_false] at q;obtain⟨t,ht,hq⟩:=q;obtain⟨f,hf,w⟩:=zj (by simpa using hq) (b t ht);exact⟨f,List.mem_flatMap.2 ⟨t,ht,hf⟩,w⟩
def fF(a_:Zy)(told g s:Nat):Prop:=Sub told s/\∀x∈a_,bw s g x=true->s.testBit x.1=true
def bu(a_:Zy)(told g n:Nat):Prop:=fF a_ told g n/\∀s,fF a_ told g s->Sub n s
theorem bu.anti(s:Sub g a)(n':bu a_ f g h)(g':bu a_ f a h'):Sub h' h:=
 g'.2 h ⟨n'.1.1,λx hx q=>n'.1.2 x hx (sr s q)⟩
def hits(a_:Zy)(h g f r:Nat):Bool:=match a_[r]? with
 |some x=>decide (x.1=f)&&bw h g x
 |none=>false
def jb:hits a_ h g f a=true ↔ ∃x,a_[a]?=some x/\x.1=f/\bw h g x=true:=by
 unfold hits;cases e:a_[a]? with
 |none=>simp
 |some x=>simp
def cE(a_:Zy)(h g f:Nat):Option Nat:=(List.range a_.length).find? (hits a_ h g f)
def aO(a_:Zy)(h g left:Nat):List (Nat×Nat):=(cy left).filterMap λf=>(cE a_ h g f).map λr=>(f,r)
def dk(fr:Zp):Nat:=ag (fr.map (·.1))
def c8(a_:Zy)(g:Nat):Nat->Nat->Nat->Nat->List (Nat×Nat×Nat)
 |0,_,_,_=>[]
 |k+1,step,b,left=>if aO a_ b g left=[] then[] else(aO a_ b g left).map (λx=>(x.1,step,x.2))++c8 a_ g k (step+1) (b|||dk (aO a_ b g left)) (au left (dk (aO a_ b g left)))
def ss(q:cE a_ h g f=none){x:Row}(hx:x∈a_)(hf:x.1=f):bw h g x=false:=by
 obtain⟨r,hr⟩:=XW hx;have hl:r<a_.length:=(YD.mp hr).1;unfold cE at q;rw[List.find?_eq_none] at q
 have:=q r (ZW.2 hl)
 rw[jb] at this;cases e:bw h g x with
 |false=>rfl
 |true=>exact absurd ⟨x,hr,hf,e⟩ this
def Am(q:cE a_ h g f=some a):∃x,a_[a]?=some x/\x.1=f/\bw h g x=true:=
 jb.1 (List.find?_some q)
def fO:(f,a)∈aO a_ h g h'↔h'.testBit f=true/\cE a_ h g f=some a:=by
 unfold aO;rw[List.mem_filterMap];constructor
 .rintro⟨f',Xw,q⟩
  obtain⟨j,c,e⟩:=ZO.1 q;cases e;exact⟨(df _ _).1 Xw,c⟩
 .rintro⟨r,b⟩
  exact⟨f,(df _ _).2 r,by rw[b];rfl⟩
def zl{fr:Zp}:(dk fr).testBit f=true ↔ ∃r,(f,r)∈fr:=by
 unfold dk;rw[aB,XT,List.mem_map];constructor
 .rintro⟨⟨a,b⟩,h,rfl⟩;exact⟨b,h⟩
 .rintro⟨r,h⟩;exact⟨_,h,rfl⟩
theorem Fi(h1:a.testBit f=true)(b:g.testBit f=true):au a g<a:=by
 have:=oj a g
 have c:a&&&g≠0:=λz=>by
  have:(a&&&g).testBit f=true:=by rw[Nat.testBit_and,h1,b];rfl
  rw[z,Nat.zero_testBit] at this;cases this
 omega
def sX(q:aO a_ h g a≠[]):au a (dk (aO a_ h g a))<a:=by
 obtain⟨⟨f,r⟩,hx⟩:=List.exists_mem_of_ne_nil _ q;exact Fi (fO.1 hx).1 (zl.2 ⟨r,hx⟩)
def dz(a_:Zy)(g told c_:Nat):Nat:=told|||ag ((c8 a_ g (au c_ told+1) 1 told (au c_ told)).map (·.1))
theorem kx:∀{l m:Zj},l.Pairwise (· < ·)->m.Pairwise (· < ·)->(∀x,x∈l↔x∈m)->l=m
 |[],[],_,_,_=>rfl
 |[],b::m,_,_,h=>absurd ((h b).2 (.head _)) (by simp)
 |a::l,[],_,_,h=>absurd ((h a).1 (.head _)) (by simp)
 |a::l,b::m,hl,hm,h=>by
  rw[List.pairwise_cons] at hl hm;have e:a=b:=by
   rcases YB.1 ((h a).1 (.head _)) with e | e
   .exact e
   .rcases YB.1 ((h b).2 (.head _)) with e' | e'
    .exact e'.symm
    .have:=hl.1 b e';have:=hm.1 a e;omega
  subst e;rw[kx hl.2 hm.2 λx=>?_];constructor
  .intro hx
   rcases YB.1 ((h x).1 (.tail _ hx)) with e | e
   .subst e;exact absurd (hl.1 x hx) (ZT _)
   .exact e
  .intro hx
   rcases YB.1 ((h x).2 (.tail _ hx)) with e | e
   .subst e;exact absurd (hm.1 x hx) (ZT _)
   .exact e
theorem dg:∀{n:Nat}{l:Zj},l.Nodup->(∀x∈l,x<n)->l.length<=n
 |0,[],_,_=>YG _
 |0,a::l,_,h=>absurd (h a (.head _)) (Nat.not_lt_zero _)
 |n+1,l,hd,h=>by
  have h1:=dg (n:=n) (l:=l.filter λx=>decide (x≠n)) (List.Pairwise.filter _ hd) (λx hx=>by
   have b:=ZV.1 hx
   have:=h x b.1
   have:x≠n:=XR b.2
   omega)
  have b:∀{l:Zj},l.Nodup->l.length<=(l.filter λx=>decide (x≠n)).length+1:=by
   intro l hd;induction l with
   |nil=>simp
   |cons a l c=>
    rw[YQ] at hd;rw[List.filter_cons];by_cases e:a=n
    .subst e
     rw[if_neg (by simp),YJ];have:l.filter (λx=>decide (x≠a))=l:=List.filter_eq_self.2 λx hx=>YW λz=>hd.1 (z▸hx)
     rw[this];exact YG _
    .rw[if_pos (by simpa using e),YJ,YJ]
     have:=c hd.2
     omega
  have:=b hd
  omega
theorem mT{b:Zi}{xs:Zj}(hp:b.Perm (xs.map λ(x:Nat)=>(x:Int)))(hs:b.Pairwise (·<=·))(hd:xs.Nodup):∃ns:List Nat,b=ns.map (λ(x:Nat)=>(x:Int))/\ns.Pairwise (· < ·)/\∀r,r∈ns↔r∈xs:=by
 have c:(b.map Int.toNat).map (λ(x:Nat)=>(x:Int))=b:=by
  rw[ZM];refine(ZN λa ha=>?_).trans (List.map_id _);obtain⟨x,_,rfl⟩:=List.mem_map.1 (hp.mem_iff.1 ha);simp
 have e1:(b.map Int.toNat).Perm xs:=by
  have:=hp.map Int.toNat
  rw[ZM] at this;refine this.trans ?_;rw[show(Int.toNat∘λ(x:Nat)=>(x:Int))=id by funext x;simp,List.map_id]
 refine⟨b.map Int.toNat,c.symm,?_,λr=>e1.mem_iff⟩;have nd:(b.map Int.toNat).Nodup:=e1.nodup_iff.2 hd;have le:(b.map Int.toNat).Pairwise (·<=·):=List.pairwise_map.2 (hs.imp λh=>by omega);exact List.Pairwise.imp (λ⟨h1,j⟩=>Nat.lt_of_le_of_ne h1 j) (List.pairwise_and_iff.2 ⟨le,nd⟩)
end SH
namespace SG
open PySem L2 DD SH
variable {f g placed:Nat}
section
variable {S:Nat->Nat->Bool}{m:Nat}
structure Eqv (S:Nat->Nat->Bool) (m:Nat):Prop where
 refl:∀f,f<m->S f f=true
 symm:∀f g,f<m->g<m->S f g=true->S g f=true
 trans:∀f g h,f<m->g<m->h<m->S f g=true->S g h=true->S f h=true
def cls(S:Nat->Nat->Bool)(m f:Nat):List Nat:=(List.range m).filter (S f)
def gN(S:Nat->Nat->Bool)(f:Nat):Bool:=!(List.range f).any λx=>S x f
def bI(S:Nat->Nat->Bool)(m k:Nat):List (List Nat):=((List.range k).filter (gN S)).map (cls S m)
def da:g∈cls S m f↔g<m/\S f g=true:=by unfold cls;rw[ZV,ZW]
def sY:gN S f=true ↔ ∀x,x<f->S x f=false:=by
 unfold gN;rw[Bool.not_eq_true',List.any_eq_false];constructor
 .intro h x hx
  have:=h x (ZW.2 hx)
  cases e:S x f
  .rfl
  .exact absurd e this
 .intro h x hx e
  rw[h x (ZW.1 hx)] at e;cases e
theorem HY(q:Eqv S m)(hf:f<m):(cls S m f).head?=some f↔gN S f=true:=by
 rw[sY];have srt:(cls S m f).Pairwise (· < ·):=List.Pairwise.filter _ List.pairwise_lt_range;have hm:f∈cls S m f:=da.2 ⟨hf,q.refl f hf⟩;constructor
 .intro h x hx
  cases e:S x f with
  |false=>rfl
  |true=>
   have h1:x∈cls S m f:=da.2 ⟨by omega,q.symm x f 'a' hf e⟩;cases hc:cls S m f with
   |nil=>rw[hc] at hm;cases hm
   |cons a l=>
    rw[hc] at h h1 srt;cases h;rcases YB.1 h1 with rfl | h1
    .omega
    .have:=(List.pairwise_cons.1 srt).1 x h1
     omega
 .intro h
  cases hc:cls S m f with
  |nil=>rw[hc] at hm;cases hm
  |cons a l=>
   rw[hc] at hm srt;rcases YB.1 hm with rfl | hm
   .rfl
   .have h1:=(List.pairwise_cons.1 srt).1 f hm
    have b:a∈cls S m f:=by rw[hc];exact ZZ
    obtain⟨c,j⟩:=da.1 b
    have:=h a h1
    rw[q.symm f a hf c j] at this;cases this
theorem lf(q:Eqv S m):∀(f:Nat),f<m->∃x,x<=f/\S x f=true/\gN S x=true:=by
 intro f;induction f using Nat.strongRecOn with
 |ind f a=>
  intro hf;by_cases h:gN S f=true
  .exact⟨f,YG _,q.refl f hf,h⟩
  .rw[sY] at h
   simp only[Classical.not_forall] at h;obtain⟨x,hx,e⟩:=h;have e:S x f=true:=by cases z:S x f;exact absurd z e;rfl
   obtain⟨y,h1,b,c⟩:=a x hx 'a';exact⟨y,by omega,q.trans y x f 'a' 'a' hf b e,c⟩
def o4(S:Nat->Nat->Bool)(m k placed:Nat):Prop:=∀o,o<m->(placed.testBit o=true ↔ ∃x,x<k/\S x o=true)
theorem o4.free(q:Eqv S m)(hk:f<m)(h:o4 S m f placed):placed.testBit f = !gN S f:=by
 cases e:gN S f with
 |true=>
  rw[sY] at e;cases z:placed.testBit f with
  |false=>rfl
  |true=>
   obtain⟨x,hx,hs⟩:=(h f hk).1 z;rw[e x hx] at hs;cases hs
 |false=>
  refine(h f hk).2 ?_;obtain⟨x,h1,a,b⟩:=lf q f hk;refine⟨x,?_,a⟩;rcases Nat.lt_or_eq_of_le h1 with h | rfl
  .exact h
  .rw[b] at e;cases e
theorem o4.skip(q:Eqv S m){k placed:Nat}(hk:k<m)(h:o4 S m k placed)(hf:gN S k=false):o4 S m (k+1) placed:=by
 intro o a;rw[h o a];constructor
 .rintro⟨x,hx,hs⟩;exact⟨x,by omega,hs⟩
 .rintro⟨x,hx,hs⟩
  by_cases e:x=k
  .subst e
   obtain⟨y,h1,b,c⟩:=lf q x hk;refine⟨y,?_,q.trans y x o 'a' hk a b hs⟩;rcases Nat.lt_or_eq_of_le h1 with h | rfl
   .exact h
   .rw[c] at hf;cases hf
  .exact⟨x,by omega,hs⟩
theorem o4.take{k:Nat}(h:o4 S m k placed)(hm:∀o,o<m->(f.testBit o=true↔S k o=true)):o4 S m (k+1) (placed|||f):=by
 intro o a;rw[Nat.testBit_or,Bool.or_eq_true,h o a,hm o a];constructor
 .rintro(⟨x,hx,hs⟩ | hs)
  .exact⟨x,by omega,hs⟩
  .exact⟨k,by omega,hs⟩
 .rintro⟨x,hx,hs⟩
  by_cases e:x=k
  .subst e;exact .inr hs
  .exact .inl ⟨x,by omega,hs⟩
def HZ(h:gN S f=false):bI S m (f+1)=bI S m f:=by
 unfold bI;rw[List.range_succ,List.filter_append,ZL,List.filter_cons,h];simp
def H9(h:gN S f=true):bI S m (f+1)=bI S m f++[cls S m f]:=by
 unfold bI;rw[List.range_succ,List.filter_append,ZL,List.filter_cons,h];simp
end
def Ov(h:Sub f g):f<=g:=by
 have e:f&&&g=f:=by
  refine Nat.eq_of_testBit_eq λk=>?_
  rw[Nat.testBit_and];cases z:f.testBit k with
  |false=>rfl
  |true=>rw[h k z];rfl
 rw[←e];exact Nat.and_le_right
section
variable {ls rs:Zj}
structure Walk (ls rs:Zj):Prop where
 len:rs.length=ls.length
 low:∀f g,gZ ls f g->g<ls.length
 ok:∀f g,f<ls.length->((rs.getD f 0).testBit g=true↔fj (gZ ls) f g)
def aY(rs:Zj)(f g:Nat):Bool:=(rs.getD f 0).testBit g&&(rs.getD g 0).testBit f
theorem Walk.sam_iff(w:Walk ls rs)(hf:f<ls.length)(hg:g<ls.length):aY rs f g=true↔fj (gZ ls) f g/\fj (gZ ls) g f:=by
 unfold aY;rw[YZ,w.ok f g hf,w.ok g f hg]
theorem Walk.eqv(w:Walk ls rs):Eqv (aY rs) ls.length where
 refl:=λf hf=>(w.sam_iff hf hf).2 ⟨.refl f,.refl f⟩
 symm:=λf g hf hg h=>(w.sam_iff hg hf).2 ((w.sam_iff hf hg).1 h).symm
 trans:=λf g h hf hg c a b=>by
  obtain⟨j,k⟩:=(w.sam_iff hf hg).1 a;obtain⟨l,m⟩:=(w.sam_iff hg c).1 b;exact(w.sam_iff hf c).2 ⟨j.trans l,m.trans k⟩
def Fk(ls:Zj)(p:Zj)(dn:Nat):Prop:=∀x∈p,∀g,gZ ls x g->g∈p\/dn.testBit g=true
theorem Walk.ready(w:Walk ls rs)(dn:Nat):∀(n f:Nat),f<ls.length->dn.testBit f=false->rs.getD f 0=n->∃f',f'<ls.length/\dn.testBit f'=false/\Fk ls (cls (aY rs) ls.length f') dn:=by
 intro n;induction n using Nat.strongRecOn with
 |ind n c=>
  intro f hf hd e;by_cases h:Fk ls (cls (aY rs) ls.length f) dn
  .exact⟨f,hf,hd,h⟩
  .unfold Fk at h
   simp only[Classical.not_forall,not_or] at h;obtain⟨x,hx,g,hg,h1,j⟩:=h;have gl:=w.low _ _ hg;obtain⟨k,hs⟩:=da.1 hx;obtain⟨l,r⟩:=(w.sam_iff hf k).1 hs;have b:fj (gZ ls) f g:=l.trans (.one hg);have a:¬fj (gZ ls) g f:=λz=>h1 (da.2 ⟨gl,(w.sam_iff hf gl).2 ⟨b,z⟩⟩)
   have m:Sub (rs.getD g 0) (rs.getD f 0):=λo p=>(w.ok f o hf).2 (b.trans ((w.ok g o gl).1 p))
   have ne:rs.getD g 0≠rs.getD f 0:=λz=>a ((w.ok g f gl).1 (by rw[z];exact(w.ok f f hf).2 (.refl f)))
   have lt:rs.getD g 0<n:=by
    have:=Ov m
    rw[←e];exact Nat.lt_of_le_of_ne this ne
   exact c _ lt g gl (by cases z:dn.testBit g;rfl;exact absurd z j) rfl
end
end SG
namespace SH
open PySem L2 DD
variable {r f n:Nat}{a_:Zy}{ns hs:Zj}
def me(c:CA)(S:Addr):az:=λds M Q=>∃(a:Addr) (m:Nat) (a_:Zy) (left:Nat),ds=[.ref a,⇑left]/\bm c S M a m a_/\a_.length<64/\left<2 ^ m /\
 ∀p ns M',M p=none->ad M M'->M' p=some (.lst (nats ns))->ns.Pairwise (· < ·)->(∀r,r∈ns ↔ ∃x,a_[r]?=some x/\left.testBit x.1=true)->Q (.ref p) M'
def fG(c:CA)(S:Addr):az:=λds M Q=>∃(a:Addr) (m:Nat) (a_:Zy) (b:Addr) (g:ZC) (fs:Zj) (left:Nat),ds=[.ref a,.ref b,⇑left]/\bm c S M a m a_/\a_.length<64/\M b=some (.rod g)/\keysOf g=nats fs/\(∀f∈fs,f<m) /\
 ∀p ns M',M p=none->ad M M'->M' p=some (.lst (nats ns))->ns.Pairwise (· < ·)->(∀r,r∈ns ↔ ∃x,a_[r]?=some x/\left.testBit x.1=true/\∃f∈fs,bA (bd x) f=true)->Q (.ref p) M'
def bz(fr:Zp):List (Key×D):=fr.map λ(x:Nat×Nat)=>(.inl (x.1:Int),⇑x.2)
def dU(c:CA)(S:Addr):az:=λds M Q=>∃(a:Addr) (m:Nat) (a_:Zy) (b:Addr) (ns:Zj) (h g:Nat),ds=[.ref a,.ref b,⇑h,⇑g]/\bm c S M a m a_/\M b=some (.lst (nats ns))/\(∀r∈ns,r<a_.length) /\
 ∀p fr M',M p=none->ad M M'->M' p=some (.dic (bz fr))->(fr.map (·.1)).Nodup->(∀f r,(f,r)∈fr↔ns.find? (hits a_ h g f)=some r)->Q (.ref p) M'
def jS:Ss:=#v[.ret (.bk .sorted #v[.var 2])]
def jT:Ss:=#v[.expr (.mt .extend (.var 2) #v[.mu "rows_for" (.var 0) #v[.var 3]])]
def o5:Ss:=.cons (.for (.nm 3) (.seq (.fn 0 #v[.var 1])) jT) jS
def mU:Ss:=.cons (.set 2 (.lst .nil)) o5
def gO:Ss:=#v[.ret (.bk .sorted #v[.var 3])]
def ei:Ss:=#v[.ite (.val (.fn 0 #v[.var 2,.mu "head_of" (.var 0) #v[.var 5]])) #v[.putIx (.var 3) (.var 5) (.bl true)] .nil]
def gP:Ss:=#v[.for (.nm 5) (.seq (.mu "rows_helped" (.var 0) #v[.var 4])) ei]
def lg:Ss:=.cons (.for (.nm 4) (.seq (.var 1)) gP) gO
def jc:Ss:=.cons (.set 3 .dnew) lg
def fH:Ss:=#v[.ret (.var 4)]
def jG:Ss:=#v[.ite (.and (.cmp .NotIn (.var 6) (.var 4)) (.val (.fn 0 #v[.mu "conds_of" (.var 0) #v[.var 5],.var 2,.var 3]))) #v[.putIx (.var 4) (.var 6) (.var 5)] .nil]
def dA:Ss:=.cons (.set 6 (.mu "head_of" (.var 0) #v[.var 5])) jG
def jH:Ss:=.cons (.for (.nm 5) (.seq (.var 1)) dA) fH
def gQ:Ss:=.cons (.set 4 .dnew) jH
section
variable {m:Nat}{a_:Zy}{s_:Zt}{p1 p2 p3:Addr}
def An:(eM m a_ s_ p1 p2 p3).lookup ("rows_for" : Str)=none:=rfl
def vz:(eM m a_ s_ p1 p2 p3).lookup ("rows_helped" : Str)=none:=rfl
def uL:(eM m a_ s_ p1 p2 p3).lookup ("head_of" : Str)=none:=rfl
def Ao:(eM m a_ s_ p1 p2 p3).lookup ("conds_of" : Str)=none:=rfl
def mV:(eM m a_ s_ p1 p2 p3).lookup ("how_many" : Str)=none:=rfl
end
def Fl(xs:Zj):im (nats xs)=some (xs.map λ(x:Nat)=>(x:Int)):=by
 have:nats xs=bj (xs.map λ(x:Nat)=>(x:Int)):=by unfold nats bj;rw[ZM];rfl
 rw[this,qp]
def Ia(xs a:Zj):nats xs++nats a=nats (xs++a):=by unfold nats;rw[ZL]
def qr(xs:Zj):(xs.map λ(x:Nat)=>(x:Int)).map D.int=nats xs:=by unfold nats;rw[ZM];rfl
def hJ:r∈cQ hs n f↔r<n/\hs[r]?=some f:=by
 unfold cQ;rw[ZV,ZW,XT]
def Ap(hs:Zj)(k f:Nat):(cQ hs k f).Nodup:=List.Pairwise.filter _ List.nodup_range
theorem ox(hs:Zj)(k:Nat):∀{dn:Zj},dn.Nodup->(dn.flatMap (cQ hs k)).Nodup
 |[],_=>by simp
 |f::dn,h=>by
  rw[YQ] at h;rw[List.flatMap_cons,List.nodup_append];refine⟨Ap hs k f,ox hs k h.2,λa ha b hb z=>?_⟩;subst z;obtain⟨g,hg,hb⟩:=List.mem_flatMap.1 hb;have h1:=(hJ.1 ha).2;have c:=(hJ.1 hb).2;rw[h1] at c;cases c;exact h.1 hg
def jI(h:n<2 ^ r)(q:n.testBit f=true):f<r:=by
 have h1:=Nat.ge_two_pow_of_testBit q;exact(Nat.pow_lt_pow_iff_right (by decide:1<2)).1 (XH h1 h)
def wC:(aJ a_)[r]?=some f ↔ ∃x,a_[r]?=some x/\x.1=f:=by
 unfold aJ;rw[ZG];cases a_[r]? with
 |none=>simp
 |some x=>simp
def zm(h:bV f a_){x:Row}(e:a_[r]?=some x):x.1<f/\x.2.length<=6/\∀t∈x.2,t.fit (f:Int):=h.fit x (YU e)
section
variable {cn:Cn}{c:CA}{S:Addr}{ds:List D}{M:MH}{Q:DK}
theorem Aq(I:cn.F.getD 0 'd'=d8)(J:cn.T S "rows_for" = some (jE c S))(h:me c S ds M Q):wSs cn mU (fin Q) (ai ["","","",""] ds) M:=by
 obtain⟨a,m,a_,left,rfl,A,hn,hl,q⟩:=h;show wSs cn mU (fin Q) [↑a,~~~left,none,none] M;have hm:=A.ok.most;unfold mU;simp! only[List.set];intro p hp;unfold o5;simp! only[List.set,I];refine⟨left,rfl,ZS hl (Nat.pow_le_pow_right 'b' 'a'),λu M1 y e1 B=>?_⟩;simp only[B];have C:ad M M1:=(ad.new hp).trans e1;have K:M1 p=some (.lst []):=e1 p _ ab;have E:u≠p:=λz=>by subst z;rw[ab] at y;cases y
 clear e1;have l:∀(b dn:Zj) (v:Zz) (M2:MH),cy left=dn++b->ExtBut p M1 M2->M2 p=some (.lst (nats (dn.flatMap (cQ (aJ a_) a_.length)))) ->
   ar (λM'=>M' u=some (.lst (nats (cy left)))) (.nm 3) (wSs cn jT) { nx:=wSs cn jS (fin Q),rt:=Q } (nats b) [↑a,~~~left,↑p,v] M2:=by
  intro b;induction b with
  |nil=>
   intro dn v M2 hd g k;rw[ZA] at hd;subst hd;have nd:=ox (aJ a_) a_.length (om left);rw[show nats []=[] from rfl,ar];unfold jS;simp! only[nn,kH,k,cu,Fl,kt];have L:((cy left).flatMap (cQ (aJ a_) a_.length)).length<=a_.length:=dg nd λx hx=>by
    obtain⟨f,_,hx⟩:=List.mem_flatMap.1 hx;exact(hJ.1 hx).1
   refine⟨by rw[ZF];omega,λp2 W G h1 O=>?_⟩;obtain⟨ns,rfl,P,R⟩:=mT h1 O nd;rw[qr];have j:ad M M2:=g.ext C hp;refine q p2 ns _ (j.free G) (j.then G) ab P λr=>?_
   rw[R,List.mem_flatMap];constructor
   .rintro⟨f,hf,hr⟩
    obtain⟨x,hx,rfl⟩:=wC.1 (hJ.1 hr).2;exact⟨x,hx,(df _ _).1 hf⟩
   .rintro⟨x,hx,hb⟩
    exact⟨x.1,(df _ _).2 hb,hJ.2 ⟨(YD.mp hx).1,wC.2 ⟨x,hx,rfl⟩⟩⟩
  |cons f b U=>
   intro dn v M2 hd g k;have j:ad M M2:=g.ext C hp;obtain⟨ok,s_,p1,p2,p3,N_,N',Qa,h1,-⟩:=A.ext j;have hf:f<m:=jI hl ((df _ _).1 (by rw[hd];simp));rw[show nats (f::b)=⇑f::nats b from rfl,ar];unfold jT;simp! only[List.set,k,h1,An,J];refine⟨rfl,trivial,a,m,a_,f,rfl,A.ext j,hf,λY Z Rh o V=>?_⟩;simp only[o p _ k,V,gJ,Ia];have nd:(dn.flatMap (cQ (aJ a_) a_.length)).Nodup:=ox _ _ (by have:=om left;rw[hd,List.nodup_append] at this;exact this.1);have L:(dn.flatMap (cQ (aJ a_) a_.length)).length<=a_.length:=dg nd λx hx=>by
    obtain⟨f,_,hx⟩:=List.mem_flatMap.1 hx;exact(hJ.1 hx).1
   have t:=y0 (aJ a_) a_.length f;have hsz:(2000:Nat)<sizeLine:=by decide
   refine⟨by omega,?_,?_⟩
   .rw[aU E]
    exact o _ _ (g _ _ E B)
   .refine U (dn++[f]) _ _ (by rw[hd];simp) ((g.trans o.but).trans (ExtBut.upd _ _ _)) ?_
    rw[ab,List.flatMap_append,List.flatMap_cons,List.flatMap_nil,ZA]
 exact l (cy left) [] none M1 rfl (ExtBut.refl p M1) K
def Fm(rs:Zj):intKeys (c7 rs)=some (rs.map λ(x:Nat)=>(x:Int)):=by
 induction rs with
 |nil=>rfl
 |cons r rs a=>
  show Option.map _ (intKeys (c7 rs))=_;rw[a];rfl
def wG{x:Row}(h:a_[r]?=some x):r∈cz (a_.map bd) a_.length f↔bA (bd x) f=true:=by
 unfold cz;rw[ZV,ZW];have hl:r<a_.length:=(YD.mp h).1;have:(a_.map bd).getD r []=bd x:=by rw[List.getD_eq_getElem?_getD,ZG,h];rfl
 rw[this];exact⟨λh=>h.2,λh=>⟨hl,h⟩⟩
theorem vA(f0:cn.F.getD 0 'd'=cj)(hT:cn.T S "rows_helped" = some (fE c S))(Xx:cn.T S "head_of" = some (ja c S))(h:fG c S ds M Q):wSs cn jc (fin Q) (ai ["","","","","",""] ds) M:=by
 obtain⟨a,m,a_,b,f_,fs,left,rfl,A,hn,hb,hk,hf,q⟩:=h;show wSs cn jc (fin Q) [↑a,↑b,~~~left,none,none,none] M;have hm:=A.ok.most;unfold jc;simp! only[List.set];intro p hp;have O:ad M (ae M p (MO.dic [])):=ad.new hp;have g0:ae M p (MO.dic []) p=some (.dic (c7 [])):=ab;generalize ae M p (MO.dic [])=M1 at *;unfold lg;simp! only[List.set,O b _ hb,hk];have U':b≠p:=qk hb hp;have outer:∀(u dn:Zj) (rs:Zj) (v4 o:Zz) (M2:MH),fs=dn++u->ExtBut p M1 M2->M2 p=some (.dic (c7 rs))->rs.Nodup->(∀r,r∈rs ↔ ∃x,a_[r]?=some x/\left.testBit x.1=true/\∃f∈dn,bA (bd x) f=true) ->
   ar (λM'=>M' b=some (.rod f_)) (.nm 4) (wSs cn gP) { nx:=wSs cn gO (fin Q),rt:=Q } (nats u) [↑a,↑b,~~~left,↑p,v4,o] M2:=by
  intro u;induction u with
  |nil=>
   intro dn rs v4 o M2 hd P g2 nd hr;rw[ZA] at hd;subst hd;rw[show nats []=[] from rfl,ar];unfold gO;simp! only[nn,kH,g2,cu,lU,Fm,kt];have j_:rs.length<=a_.length:=dg nd λx hx=>by
    obtain⟨y,hy,_⟩:=(hr x).1 hx;exact(YD.mp hy).1
   refine⟨by rw[ZF];omega,λp2 ms G' h1 h2=>?_⟩;obtain⟨ns,rfl,h3,h4⟩:=mT h1 h2 nd;rw[qr];have R:ad M M2:=P.ext O hp;exact q p2 ns _ (R.free G') (R.then G') ab h3 λr=>(h4 r).trans (hr r)
  |cons f u ih=>
   intro dn rs v4 o M2 hd P g2 nd hr;have R:ad M M2:=P.ext O hp;have QF:f<m:=hf f (by rw[hd];simp);obtain⟨ok,s_,p1,p2,p3,N_,N',Qa,h1,-⟩:=A.ext R;rw[show nats (f::u)=⇑f::nats u from rfl,ar];unfold gP;simp! only[List.set,h1,vz,hT];refine⟨trivial,a,m,a_,f,rfl,A.ext R,QF,λp4 M4 Rh e4 g4=>?_⟩;simp only[g4];have Va:p4≠p:=λz=>by subst z;rw[g2] at Rh;cases Rh
   have B:∀(E:cP) (t C j:Zj) (o:Zz) (l:MH),cz (a_.map bd) a_.length f=C++t->ExtBut p M4 l->l p=some (.dic (c7 j))->j.Nodup ->
     (∀r,r∈j↔(∃x,a_[r]?=some x/\left.testBit x.1=true/\∃f∈dn,bA (bd x) f=true)\/(r∈C/\∃x,a_[r]?=some x/\left.testBit x.1=true)) ->
     (∀U w G,ExtBut p M4 G->G p=some (.dic (c7 U))->U.Nodup->(∀r,r∈U↔(∃x,a_[r]?=some x/\left.testBit x.1=true/\∃f∈dn,bA (bd x) f=true)\/(r∈cz (a_.map bd) a_.length f/\∃x,a_[r]?=some x/\left.testBit x.1=true)) ->
      E.nx [↑a,↑b,~~~left,↑p,~~~f,w] G) ->
     ar (λM'=>M' p4=some (.lst (nats (cz (a_.map bd) a_.length f)))) (.nm 5) (wSs cn ei) E (nats t) [↑a,↑b,~~~left,↑p,~~~f,o] l:=by
    intro E t;induction t with
    |nil=>
     intro C j o l V I g5 J K k;rw[ZA] at V;rw[←V] at K;rw[show nats []=[] from rfl,ar];exact k j o l I g5 J K
    |cons r t Tr=>
     intro C j o l V I g5 J K k;have Ru:r<a_.length:=y7 (show r∈cz (a_.map bd) a_.length f by rw[V];simp);have hx:a_[r]?=some a_[r]:=ZD Ru;generalize a_[r]=x at hx;have e5:ad M l:=((P.trans e4.but).trans I).ext O hp;obtain⟨ok,s_,p1,p2,p3,N_,N',Qa,h1,-⟩:=A.ext e5;have W:cz (a_.map bd) a_.length f=(C++[r])++t:=by rw[V];simp
     have Y:l p4=some (.lst (nats (cz (a_.map bd) a_.length f))):=I _ _ Va g4;have has:hasB (left:Int) (x.1:Int)=left.testBit x.1:=cx _ _;have body:∀(E:cP),dq (left.testBit x.1) (E.nx [↑a,↑b,~~~left,↑p,~~~f,~~~r] (ae l p (.dic (c7 (if r∈j then j else j++[r]))))) (E.nx [↑a,↑b,~~~left,↑p,~~~f,~~~r] l) ->
       wSs cn ei E [↑a,↑b,~~~left,↑p,~~~f,~~~r] l:=by
      intro E kk;unfold ei;simp! only[List.set,h1,uL,Xx,f0];refine⟨trivial,a,m,a_,r,x,rfl,A.ext e5,hx,left,x.1,rfl,by omega,?_⟩;rw[has];cases bb:left.testBit x.1 with
      |false=>rw[bb] at kk;exact kk
      |true=>
       rw[bb] at kk;simp only[bh,g5,y8];have j_:j.length<=a_.length:=dg J λy hy=>by
        rcases(K y).1 hy with⟨z,L,_⟩ | ⟨_,z,L,_⟩<;>exact(YD.mp L).1
       have hsz:(2000:Nat)<sizeLine:=by decide
       exact⟨by unfold c7;rw[ZF];omega,kk⟩
     rw[show nats (r::t)=⇑r::nats t from rfl,ar];refine body _ ?_;cases bb:left.testBit x.1 with
     |false=>
      refine⟨Y,Tr (C++[r]) j _ l W I g5 J (λZ=>?_) k⟩;rw[K];constructor
      .rintro(h | ⟨h,h'⟩)
       .exact .inl h
       .exact .inr ⟨YC.2 (.inl h),h'⟩
      .rintro(h | ⟨h,h'⟩)
       .exact .inl h
       .rcases YC.1 h with h | h
        .exact .inr ⟨h,h'⟩
        .have:Z=r:=by simpa using h
         subst this;obtain⟨y,hy,Qi⟩:=h';rw[hx] at hy;cases hy;rw[bb] at Qi;cases Qi
     |true=>
      refine⟨?_,Tr (C++[r]) (if r∈j then j else j++[r]) _ _ W (I.trans (ExtBut.upd _ _ _)) ab ?_ (λZ=>?_) k⟩
      .rw[aU Va];exact Y
      .split
       .exact J
       .rename_i ac
        rw[List.nodup_append];refine⟨J,by simp,λy hy z L w=>?_⟩;have L:z=r:=by simpa using L
        subst L;subst w;exact ac hy
      .have Xk:Z∈(if r∈j then j else j++[r])↔Z∈j\/Z=r:=by
        split
        .rename_i hi
         exact⟨.inl,λh=>h.elim id λz=>z▸hi⟩
        .simp
       rw[Xk,K];constructor
       .rintro((h | ⟨h,h'⟩) | h)
        .exact .inl h
        .exact .inr ⟨YC.2 (.inl h),h'⟩
        .subst h
         exact .inr ⟨YC.2 (.inr (.head _)),x,hx,bb⟩
       .rintro(h | ⟨h,h'⟩)
        .exact .inl (.inl h)
        .rcases YC.1 h with h | h
         .exact .inl (.inr ⟨h,h'⟩)
         .exact .inr (by simpa using h)
   refine B _ _ [] rs _ M4 rfl (ExtBut.refl p M4) (e4 _ _ g2) nd (λr=>?_) ?_
   .rw[hr]
    constructor
    .exact .inl
    .rintro(h | ⟨h,-⟩)
     .exact h
     .cases h
   .intro U w G b6 g6 al ap
    have aa:ExtBut p M1 G:=(P.trans e4.but).trans b6;refine⟨(aa.ext O hp) _ _ hb,ih (dn++[f]) U _ _ G (by rw[hd];simp) aa g6 al λr=>?_⟩;rw[ap];constructor
    .rintro(⟨x,hx,hb1,g,hg,hh⟩ | ⟨h,x,hx,hb1⟩)
     .exact⟨x,hx,hb1,g,YC.2 (.inl hg),hh⟩
     .exact⟨x,hx,hb1,f,YC.2 (.inr (.head _)),(wG hx).1 h⟩
    .rintro⟨x,hx,hb1,g,hg,hh⟩
     rcases YC.1 hg with hg | hg
     .exact .inl ⟨x,hx,hb1,g,hg,hh⟩
     .have:g=f:=by simpa using hg
      subst this;exact .inr ⟨(wG hx).2 hh,x,hx,hb1⟩
 exact outer fs [] [] none none M1 rfl (ExtBut.refl p M1) g0 .nil λr=>by simp
def uM(fr:Zp):keysOf (bz fr)=nats (fr.map (·.1)):=by unfold keysOf bz nats;rw[ZM,ZM];rfl
def Dt(fr:Zp):intKeys (bz fr)=some ((fr.map (·.1)).map λ(x:Nat)=>(x:Int)):=by
 induction fr with
 |nil=>rfl
 |cons r rs a=>
  show Option.map _ (intKeys (bz rs))=_;rw[a];rfl
theorem qt(f:Nat):∀{fr:Zp}{r:Nat},(fr.map (·.1)).Nodup->(f,r)∈fr->ik (bz fr) (.inl (f:Int))= ~~~r
 |[],r,_,h=>nomatch h
 |(g,s)::fr,r,nd,h=>by
  rw[YL,YQ] at nd;unfold ik;show Option.map _ (List.find? _ ((.inl (g:Int),⇑s)::bz fr))=_;rw[XE];by_cases e:g=f
  .subst e
   rcases YB.1 h with h | h
   .cases h;simp
   .exact absurd (List.mem_map.2 ⟨_,h,rfl⟩) nd.1
  .have a:¬((g:Int)=(f:Int)):=by omega
   rw[show decide ((Sum.inl (g:Int):Key)=.inl (f:Int))=false by simp[a]];rcases YB.1 h with h | h
   .cases h;exact absurd rfl e
   .exact qt f nd.2 h
theorem sZ(f:Nat):∀{fr:Zp},(∀r,(f,r)∉fr)->ik (bz fr) (.inl (f:Int))=none/\((bz fr).any λkv=>decide (kv.1=(.inl (f:Int):Key)))=false
 |[],_=>⟨rfl,rfl⟩
 |(g,s)::fr,h=>by
  have e:g≠f:=λz=>by subst z;exact h s (.head _)
  have a:¬((g:Int)=(f:Int)):=by omega
  have b:=sZ f (fr:=fr) λr hr=>h r (.tail _ hr)
  constructor
  .unfold ik
   show Option.map _ (List.find? _ ((.inl (g:Int),⇑s)::bz fr))=_;rw[XE,show decide ((Sum.inl (g:Int):Key)=.inl (f:Int))=false by simp[a]];exact b.1
  .show(List.any ((.inl (g:Int),⇑s)::bz fr) _)=false
   rw[XF,b.2,show decide ((Sum.inl (g:Int):Key)=.inl (f:Int))=false by simp[a]];rfl
def Fn{fr:Zp}(h:∀r,(f,r)∉fr):putD (bz fr) (.inl (f:Int)) (⇑r)=bz (fr++[(f,r)]):=by
 unfold putD;rw[(sZ f h).2];unfold bz;rw[ZL];rfl
theorem s9(f0:cn.F.getD 0 'd'=iF c)(hT:cn.T S "head_of" = some (ja c S))(Xx:cn.T S "conds_of" = some (jF c S))(h:dU c S ds M Q):wSs cn gQ (fin Q) (ai ["","","","","","",""] ds) M:=by
 obtain⟨a,m,a_,b,ns,h,g,rfl,A,hb,Sb,q⟩:=h;show wSs cn gQ (fin Q) [↑a,↑b,~~~h,~~~g,none,none,none] M;have hm:=A.ok.most;unfold gQ;simp! only[List.set];intro p hp;have K:ad M (ae M p (MO.dic [])):=ad.new hp;have g0:ae M p (MO.dic []) p=some (.dic (bz [])):=ab;generalize ae M p (MO.dic [])=M1 at *;unfold jH;simp! only[List.set,K b _ hb];have U':b≠p:=qk hb hp;have outer:∀(k dn:Zj) (fr:Zp) (L l:Zz) (M2:MH),ns=dn++k->ExtBut p M1 M2->M2 p=some (.dic (bz fr))->(fr.map (·.1)).Nodup->(∀f r,(f,r)∈fr↔dn.find? (hits a_ h g f)=some r) ->
   ar (λM'=>M' b=some (.lst (nats ns))) (.nm 5) (wSs cn dA) { nx:=wSs cn fH (fin Q),rt:=Q } (nats k) [↑a,↑b,~~~h,~~~g,↑p,L,l] M2:=by
  intro k;induction k with
  |nil=>
   intro dn fr L l M2 hd o u nd hr;rw[ZA] at hd;subst hd;rw[show nats []=[] from rfl,ar];unfold fH;simp! only[];exact q p fr M2 hp (o.ext K hp) u nd hr
  |cons r k O=>
   intro dn fr L l M2 hd o u nd hr;have B:ad M M2:=o.ext K hp;have Ru:r<a_.length:=Sb r (by rw[hd];simp);have hx:a_[r]?=some a_[r]:=ZD Ru;generalize a_[r]=x at hx;have P:ns=(dn++[r])++k:=by rw[hd];simp
   have Xy:=zm A.ok hx;have QF:∀f∈fr.map (·.1),f<m:=by
    intro f hf;obtain⟨⟨f',j⟩,R,rfl⟩:=List.mem_map.1 hf;obtain⟨y,hy,U,_⟩:=jb.1 (List.find?_some ((hr _ _).1 R));rw[←U];exact(zm A.ok hy).1
   have j_:fr.length<=m:=by have:=dg nd QF;rwa [ZF] at this
   have body:∀(E:cP) (l:Zz),((∃j,(x.1,j)∈fr)->E.nx [↑a,↑b,~~~h,~~~g,↑p,~~~r,~~~x.1] M2) ->
     ((∀j,(x.1,j)∉fr)->∀G,ad M2 G->dq (bw h g x) (E.nx [↑a,↑b,~~~h,~~~g,↑p,~~~r,~~~x.1] (ae G p (.dic (bz (fr++[(x.1,r)]))))) (E.nx [↑a,↑b,~~~h,~~~g,↑p,~~~r,~~~x.1] G)) ->
     wSs cn dA E [↑a,↑b,~~~h,~~~g,↑p,~~~r,l] M2:=by
    intro E l k1 k2;obtain⟨ok,s_,p1,p2,p3,N_,N',Qa,h1,-⟩:=A.ext B;unfold dA;simp! only[List.set,h1,uL,hT];refine⟨trivial,a,m,a_,r,x,rfl,A.ext B,hx,?_⟩;unfold jG;simp! only[List.set,h1,Ao,Xx,u,cu,lU,qR,f0];by_cases Z:∃j,(x.1,j)∈fr
    .obtain⟨j,I⟩:=Z
     rw[qt x.1 nd I];exact k1 ⟨j,I⟩
    .have C:∀j,(x.1,j)∉fr:=λj z=>Z ⟨j,z⟩
     rw[(sZ x.1 C).1];simp only[Option.isSome_none,Bool.not_false,bh];refine⟨trivial,a,m,a_,r,x,rfl,A.ext B,hx,λp4 rs M4 Rh e4 g4 c4=>?_⟩;refine⟨p4,h,g,rs,x.2,rfl,g4,c4,λt ht=>CT.fit_ok 'a' (Xy.2.2 t ht),λM5 e5=>?_⟩;have J:=k2 C M5 (e4.trans e5);have rm:x.2.all (CT.carried (h:Int) (g:Int))=bw h g x:=rfl;rw[rm];cases bb:bw h g x with
     |false=>rw[bb] at J;exact J
     |true=>
      rw[bb] at J;have hsz:(2000:Nat)<sizeLine:=by decide
      simp only[bh,(e4.trans e5) p _ u,Fn C];exact⟨by unfold bz;rw[ZF];omega,J⟩
   rw[show nats (r::k)=⇑r::nats k from rfl,ar];refine body _ _ ?_ ?_
   .rintro⟨j,I⟩
    refine⟨B _ _ hb,O (dn++[r]) fr _ _ M2 P o u nd λf V=>?_⟩;rw[hr,List.find?_append];by_cases hf:x.1=f
    .subst hf
     rw[(hr _ _).1 I];rfl
    .have:hits a_ h g f r=false:=by unfold hits;rw[hx];simp[hf]
     rw[XE,this,List.find?_nil,Option.or_none]
   .intro C G e3
    have Xz:dn.find? (hits a_ h g x.1)=none:=by
     cases e:dn.find? (hits a_ h g x.1) with
     |none=>rfl
     |some j=>exact absurd ((hr _ _).2 e) (C j)
    cases bb:bw h g x with
    |false=>
     refine⟨(B.trans e3) _ _ hb,O (dn++[r]) fr _ _ G P (o.trans e3.but) (e3 _ _ u) nd λf V=>?_⟩;rw[hr,List.find?_append];have:hits a_ h g f r=false:=by unfold hits;rw[hx];simp[bb]
     rw[XE,this,List.find?_nil,Option.or_none]
    |true=>
     refine⟨?_,O (dn++[r]) (fr++[(x.1,r)]) _ _ _ P ((o.trans e3.but).trans (ExtBut.upd _ _ _)) ab ?_ λf V=>?_⟩
     .rw[aU U'];exact(B.trans e3) _ _ hb
     .rw[ZL,List.nodup_append]
      refine⟨nd,by simp,λy hy z W w=>?_⟩;have W:z=x.1:=by simpa using W
      subst W;subst w;obtain⟨⟨f',j⟩,R,Y⟩:=List.mem_map.1 hy;have Y:f'=x.1:=Y;subst Y;exact C j R
     .rw[YC,hr,List.find?_append]
      by_cases hf:x.1=f
      .subst hf
       have:hits a_ h g x.1 r=true:=by unfold hits;rw[hx];simp[bb]
       rw[Xz,XE,this];simp only[Option.none_or,YB,List.not_mem_nil,or_false,Prod.mk.injEq,true_and,Option.some.injEq];constructor
       .rintro(h | h)
        .cases h
        .exact h.symm
       .exact λh=>.inr h.symm
      .have:hits a_ h g f r=false:=by unfold hits;rw[hx];simp[hf]
       rw[XE,this,List.find?_nil,Option.or_none];constructor
       .rintro(h | h)
        .exact h
        .have:f=x.1/\V=r:=by simpa using h
         exact absurd this.1.symm hf
       .exact .inl
 exact outer ns [] [] none none M1 rfl (ExtBut.refl p M1) g0 .nil λf r=>by simp
end
def jd:Ss:=#v[.ret (.fn 0 #v[.comp 1 (.ix (.var 4) (.int 0)) (.nm 4) (.seq (.fn 1 #v[.var 0,.var 1,.var 2,.var 3])) .no])]
def j7:Ss:=#v[.ret (.var 4)]
def j8:Ss:=#v[.set 8 (.fn 0 #v[.var 0,.fn 1 #v[.var 0,.var 8,.var 5],.var 7,.var 3])]
def j9:Ss:=.cons (.set 6 (.bin .Add (.var 6) (.int 1))) j8
def ka:Ss:=.cons (.set 5 (.bin .BitAnd (.var 5) (.inv (.var 9)))) j9
def kb:Ss:=.cons (.set 7 (.bin .BitOr (.var 7) (.var 9))) ka
def kc:Ss:=.cons (.set 9 (.fn 2 #v[.var 8])) kb
def gh:Ss:=.cons (.expr (.mt .extend (.var 4) #v[.comp 1 (.tup #v[.var 10,.var 6,.ix (.var 8) (.var 10)]) (.nm 10) (.seq (.bk .sorted #v[.var 8])) .no])) kc
def kf:Ss:=.cons (.while (.cmp .Gt (.bi .len #v[.var 8]) (.int 0)) gh) j7
def kg:Ss:=.cons (.set 8 (.fn 0 #v[.var 0,.fn 3 #v[.var 0,.var 5],.var 7,.var 3])) kf
def kh:Ss:=.cons (.set 7 (.var 2)) kg
def jJ:Ss:=.cons (.set 6 (.int 1)) kh
def jK:Ss:=.cons (.set 5 (.bin .BitAnd (.var 1) (.inv (.var 2)))) jJ
def iN:Ss:=.cons (.setC 4 1 (.tup #v[.var 10,.int 0,.non]) (.nm 10) (.seq (.fn 4 #v[.var 2])) .no) jK
def rj(x:Nat×Nat×Nat):D:=.tup [⇑x.1,.int (x.2.1:Int),.int (x.2.2:Int)]
def oy(f:Nat):D:=.tup [⇑f,.int 0,.non]
def je(a_:Zy)(g told c_:Nat):List D:=(cy told).map oy++(c8 a_ g (au c_ told+1) 1 told (au c_ told)).map rj
def oz(c:CA)(S:Addr):az:=λds M Q=>∃(a:Addr) (m:Nat) (a_:Zy) (c_ told g:Nat),ds=[.ref a,⇑c_,⇑told,⇑g]/\bm c S M a m a_/\a_.length<64/\m<64/\c_<2 ^ m/\told<2 ^ m /\
 ∀p M',M p=none->ad M M'->M' p=some (.lst (je a_ g told c_))->Q (.ref p) M'
def iO(c:CA)(S:Addr):az:=λds M Q=>∃(a:Addr) (m:Nat) (a_:Zy) (c_ told g:Nat),ds=[.ref a,⇑c_,⇑told,⇑g]/\bm c S M a m a_/\a_.length<64/\m<64/\c_<2 ^ m/\told<2 ^ m /\
 ∀M',ad M M'->Q (.int (dz a_ g told c_:Nat)) M'
def wH(a_:Zy)(h g left:Nat):aO a_ h g left=((cy left).filter λf=>(cE a_ h g f).isSome).map λf=>(f,(cE a_ h g f).getD 0):=by
 unfold aO;induction cy left with
 |nil=>rfl
 |cons f l a=>
  rw[ZY,List.filter_cons];cases e:cE a_ h g f with
  |none=>simpa using a
  |some r=>simp[a,e]
def Ar(n:Nat):(cy n).Pairwise (· < ·):=List.Pairwise.filter _ List.pairwise_lt_range
def Ib(h:n<2 ^ r):(cy n).length<=r:=dg (om n) λf hf=>jI h ((df _ _).1 hf)
def zn(a_:Zy)(h g left:Nat):(aO a_ h g left).map (·.1)=(cy left).filter λf=>(cE a_ h g f).isSome:=by
 rw[wH,ZM];exact List.map_id _
def o6(a_:Zy)(h g left:Nat):((aO a_ h g left).map (·.1)).Pairwise (· < ·):=by
 rw[zn];exact List.Pairwise.filter _ (Ar left)
def Du(h:∀f,f∈ns↔f∈hs):ag ns=ag hs:=by
 refine Nat.eq_of_testBit_eq λf=>?_
 rw[aB,aB];exact decide_eq_decide.2 (h f)
theorem wJ{a_:Zy}{g:Nat}:∀(k k' step a left:Nat),left<k->left<k'->c8 a_ g k step a left=c8 a_ g k' step a left
 |0,_,_,_,_,h,_=>absurd h (Nat.not_lt_zero _)
 |_,0,_,_,_,_,h=>absurd h (Nat.not_lt_zero _)
 |k+1,k'+1,step,a,left,h,h'=>by
  rw[c8,c8];by_cases e:aO a_ a g left=[]
  .rw[if_pos e,if_pos e]
  .rw[if_neg e,if_neg e]
   have:=sX e
   rw[wJ k k' _ _ _ 'a' 'a']
theorem ky{a_:Zy}{g:Nat}:∀(k step a left:Nat),((c8 a_ g k step a left).map (·.1)).Nodup/\∀f∈(c8 a_ g k step a left).map (·.1),left.testBit f=true
 |0,_,_,_=>⟨.nil,λf h=>nomatch h⟩
 |k+1,step,a,left=>by
  rw[c8];by_cases e:aO a_ a g left=[]
  .rw[if_pos e];exact⟨.nil,λf h=>nomatch h⟩
  .rw[if_neg e]
   obtain⟨h1,b⟩:=ky (a_:=a_) (g:=g) k (step+1) (a|||dk (aO a_ a g left)) (au left (dk (aO a_ a g left)));have c:((aO a_ a g left).map λx=>(x.1,step,x.2)).map (·.1)=(aO a_ a g left).map (·.1):=by rw[ZM];rfl
   have j:∀f∈(aO a_ a g left).map (·.1),left.testBit f=true:=by
    intro f hf;obtain⟨⟨f',r⟩,hx,rfl⟩:=List.mem_map.1 hf;exact(fO.1 hx).1
   rw[ZL,c];refine⟨?_,λf hf=>?_⟩
   .rw[List.nodup_append]
    refine⟨(o6 a_ a g left).imp λh=>ZU h,h1,λx hx y hy z=>?_⟩;subst z
    have:=b x hy
    rw[aw] at this;have l:(dk (aO a_ a g left)).testBit x=true:=by unfold dk;rw[aB];exact YW hx
    rw[l,Bool.not_true,XC] at this;cases this
   .rcases YC.1 hf with hf | hf
    .exact j f hf
    .have:=b f hf
     rw[aw,YZ] at this;exact this.1
def Dv{p:Nat->Bool}(hs:ns.Pairwise (· < ·))(hl:∀r∈ns,r<n)(hp:∀r,r<n->p r=true->r∈ns):ns.find? p=(List.range n).find? p:=by
 have h1:ns.filter p=(List.range n).filter p:=kx (List.Pairwise.filter _ hs) (List.Pairwise.filter _ List.pairwise_lt_range) λx=>by
  rw[ZV,ZV,ZW];exact⟨λ⟨a,b⟩=>⟨hl x a,b⟩,λ⟨a,b⟩=>⟨hp x a b,b⟩⟩
 rw[←List.head?_filter,←List.head?_filter,h1]
def zo(hs:ns.Pairwise (· < ·))(hl:∀left∈ns,∃x,a_[left]?=some x/\n.testBit x.1=true)(hp:∀g left,n.testBit g=true->hits a_ r f g left=true->left∈ns)(g left:Nat):
  ns.find? (hits a_ r f g)=some left↔n.testBit g=true/\cE a_ r f g=some left:=by
 cases b:n.testBit g with
 |true=>
  unfold cE;rw[Dv hs (λleft hr=>let⟨x,hx,_⟩:=hl left hr;(YD.mp hx).1) λleft _ q=>hp g left b q];simp
 |false=>
  have:ns.find? (hits a_ r f g)=none:=by
   rw[List.find?_eq_none];intro left hr q;obtain⟨x,hx,hb⟩:=hl left hr;obtain⟨y,hy,hf,_⟩:=jb.1 q;rw[hx] at hy;cases hy;rw[hf,b] at hb;cases hb
  rw[this];simp
end SH
namespace SG
open PySem L2 DD SH
variable {dn f:Nat}
section
variable {S:Nat->Nat->Bool}{m:Nat}
def td(q:Eqv S m){g:Nat}(hf:f<m)(hg:g<m)(h:S f g=true):cls S m f=cls S m g:=by
 unfold cls;refine List.filter_congr λo a=>?_
 have a:=ZW.1 a;have h':=q.symm f g hf hg h;cases e:S f o with
 |true=>exact(q.trans g f o hg hf a h' e).symm
 |false=>
  cases e2:S g o with
  |false=>rfl
  |true=>rw[q.trans f g o hf hg a h e2] at e;cases e
def jf(q:Eqv S m){p:Zj}:p∈bI S m m ↔ ∃f,f<m/\gN S f=true/\p=cls S m f:=by
 unfold bI;rw[List.mem_map];constructor
 .rintro⟨f,hf,rfl⟩
  obtain⟨h1,a⟩:=ZV.1 hf;exact⟨f,ZW.1 h1,a,rfl⟩
 .rintro⟨f,h1,a,rfl⟩
  exact⟨f,ZV.2 ⟨ZW.2 h1,a⟩,rfl⟩
theorem Fo(q:Eqv S m)(hf:f<m):cls S m f∈bI S m m:=by
 obtain⟨x,h1,a,b⟩:=lf q f hf;exact(jf q).2 ⟨x,by omega,b,(td q 'a' hf a).symm⟩
def eg(q:Eqv S m)(hf:f<m)(h:gN S f=true):∃l,cls S m f=f::l:=by
 have:=(HY q hf).2 h
 cases e:cls S m f with
 |nil=>rw[e] at this;cases this
 |cons a l=>rw[e] at this;cases this;exact⟨l,rfl⟩
end
section
variable {ls rs:Zj}
def mX(ls:Zj)(p:Zj)(dn:Nat):Bool:=p.all λx=>decide (au (ls.getD x 0) (dn|||ag p)=0)
def may(ls:Zj)(dn:Nat)(p:Zj):Bool:=!dn.testBit (p.headD 0)&&mX ls p dn
def su{b:Nat}:au f b=0 ↔ ∀g,f.testBit g=true->b.testBit g=true:=by
 constructor
 .intro h g hg
  have:=aw f b g
  rw[h,Nat.zero_testBit,hg,XV] at this;cases e:b.testBit g
  .rw[e] at this;cases this
  .rfl
 .intro h
  refine Nat.eq_of_testBit_eq λg=>?_
  rw[aw,Nat.zero_testBit];cases e:f.testBit g
  .rfl
  .rw[h g e];rfl
def zp:mX ls rs dn=true↔Fk ls rs dn:=by
 unfold mX Fk;rw[XO];constructor
 .intro h x hx g hg
  have:=su.1 (XR (h x hx)) g hg
  rw[Nat.testBit_or,Bool.or_eq_true,aB] at this;rcases this with z | z
  .exact .inr z
  .exact .inl (XR z)
 .intro h x hx
  refine YW (su.2 λg hg=>?_);rw[Nat.testBit_or,Bool.or_eq_true,aB];rcases h x hx g hg with z | z
  .exact .inr (YW z)
  .exact .inl z
def lh(ls:Zj)(ps:List (List Nat)):Nat->Nat->List (List Nat)
 |0,_=>[]
 |n+1,dn=>match ps.find? (may ls dn) with
  |none=>[]
  |some p=>p::lh ls ps n (dn|||ag p)
def Dn(rs:Zj)(m dn:Nat):Prop:=∀f g,f<m->g<m->aY rs f g=true->dn.testBit f=dn.testBit g
theorem Dn.zero:Dn rs f 0:=λm g _ _ _=>by rw[Nat.zero_testBit,Nat.zero_testBit]
theorem Walk.next(w:Walk ls rs)(hd:Dn rs ls.length dn)(hf:f<ls.length)(h:dn.testBit f=false):∃p,(bI (aY rs) ls.length ls.length).find? (may ls dn)=some p:=by
 obtain⟨f',h1,g,j⟩:=w.ready dn _ f hf h rfl;have q:=w.eqv;obtain⟨x,m,b,k⟩:=lf q f' h1;have a:x<ls.length:=by omega
 obtain⟨l,e⟩:=eg q a k;have c:=td q a h1 b;cases z:(bI (aY rs) ls.length ls.length).find? (may ls dn) with
 |some p=>exact⟨p,rfl⟩
 |none=>
  rw[List.find?_eq_none] at z;refine absurd ?_ (z _ (Fo q a));unfold may;rw[YZ,zp,c];refine⟨?_,j⟩;rw[←c,e];show(!dn.testBit x)=true;rw[hd x f' a h1 b,g];rfl
theorem Dn.next(w:Walk ls rs)(hd:Dn rs ls.length dn){p:Zj}(hp:p∈bI (aY rs) ls.length ls.length):Dn rs ls.length (dn|||ag p):=by
 intro f g hf hg h;have q:=w.eqv;obtain⟨x,a,_,rfl⟩:=(jf q).1 hp;rw[Nat.testBit_or,Nat.testBit_or,aB,aB,hd f g hf hg h];congr 1;rw[decide_eq_decide,da,da];exact⟨λz=>⟨hg,q.trans x f g a hf hg z.2 h⟩,λz=>⟨hf,q.trans x g f a hg hf z.2 (q.symm f g hf hg h)⟩⟩
end
section
variable {ls rs:Zj}
def nd(dn:Nat)(p:Zj):Bool:=!dn.testBit (p.headD 0)
theorem mY{c:Type}(a b:c->Bool):∀l:List c,((l.filter a).filter b).head?=l.find? λx=>a x&&b x
 |[]=>rfl
 |x::l=>by
  rw[List.filter_cons,XE];cases ha:a x with
  |false=>simp only[Bool.false_and,if_false];exact mY a b l
  |true=>
   simp only[XV,if_true,List.filter_cons];cases hb:b x with
   |false=>simp only[if_false];exact mY a b l
   |true=>rfl
def Fp{S:Nat->Nat->Bool}(q:Eqv S f):(bI S f f).Nodup:=by
 unfold bI;have h:((List.range f).filter (gN S)).Nodup:=List.Pairwise.filter _ List.nodup_range;rw[List.Nodup,List.pairwise_map];refine List.Pairwise.imp_of_mem ?_ h;intro a b ha hb c e;obtain⟨g,j⟩:=ZV.1 ha;obtain⟨k,m⟩:=ZV.1 hb;obtain⟨l,e1⟩:=eg q (ZW.1 g) j;obtain⟨o,n⟩:=eg q (ZW.1 k) m;rw[e1,n] at e;cases e;exact c rfl
theorem zq(w:Walk ls rs){n:Nat}(hd:Dn rs ls.length dn)(hn:((bI (aY rs) ls.length ls.length).filter (nd dn)).length=n+1):
  ∃p,(bI (aY rs) ls.length ls.length).find? (may ls dn)=some p/\p∈bI (aY rs) ls.length ls.length/\nd dn p=true/\(((bI (aY rs) ls.length ls.length).filter (nd dn)).filter λp=>mX ls p dn).head?=some p /\
   ((bI (aY rs) ls.length ls.length).filter (nd dn)).filter (λx=>decide (x≠p))=(bI (aY rs) ls.length ls.length).filter (nd (dn|||ag p)) /\
   ((bI (aY rs) ls.length ls.length).filter (nd (dn|||ag p))).length=n/\Dn rs ls.length (dn|||ag p):=by
 have q:=w.eqv;have hx:∃x,x∈(bI (aY rs) ls.length ls.length).filter (nd dn):=by
  cases e:(bI (aY rs) ls.length ls.length).filter (nd dn) with
  |nil=>rw[e] at hn;cases hn
  |cons a l=>exact⟨a,ZZ⟩
 obtain⟨x,hx⟩:=hx;obtain⟨h1,c⟩:=ZV.1 hx;obtain⟨f,hf,u,rfl⟩:=(jf q).1 h1;obtain⟨l,e⟩:=eg q hf u;rw[e] at c;have c:dn.testBit f=false:=by cases z:dn.testBit f;rfl;exact absurd c (by unfold nd;rw[List.headD_cons,z];exact YF)
 obtain⟨p,hp⟩:=w.next hd hf c;have pm:=List.mem_of_find?_eq_some hp;have m:=List.find?_some hp;have pn:nd dn p=true:=by unfold may at m;exact(YZ _ _▸m).1
 have same:∀y∈bI (aY rs) ls.length ls.length,nd (dn|||ag p) y=(nd dn y&&decide (y≠p)):=by
  intro y hy;obtain⟨a,o,A,rfl⟩:=(jf q).1 pm;obtain⟨b,bl,B,rfl⟩:=(jf q).1 hy;obtain⟨E,e1⟩:=eg q o A;obtain⟨G,r⟩:=eg q bl B;unfold nd;rw[r,List.headD_cons,Nat.testBit_or,aB,←r];have:decide (b∈cls (aY rs) ls.length a) = !decide (cls (aY rs) ls.length b≠cls (aY rs) ls.length a):=by
   by_cases h:b∈cls (aY rs) ls.length a
   .have hs:=(da.1 h).2
    rw[YW h,td q o bl hs];simp
   .rw[ZQ h]
    have:cls (aY rs) ls.length b≠cls (aY rs) ls.length a:=λz=>h (by rw[←z];exact da.2 ⟨bl,q.refl b bl⟩)
    simp[this]
  rw[this];cases dn.testBit b<;>simp
 have t:((bI (aY rs) ls.length ls.length).filter (nd dn)).filter (λx=>decide (x≠p))=(bI (aY rs) ls.length ls.length).filter (nd (dn|||ag p)):=by
  rw[List.filter_filter];refine List.filter_congr λy hy=>?_
  rw[same y hy,Bool.and_comm]
 refine⟨p,hp,pm,pn,?_,t,?_,hd.next w pm⟩
 .rw[mY];exact hp
 .rw[←t]
  have g:((bI (aY rs) ls.length ls.length).filter (nd dn)).Nodup:=List.Pairwise.filter _ (Fp q);have pin:p∈(bI (aY rs) ls.length ls.length).filter (nd dn):=ZV.2 ⟨pm,pn⟩;have j:∀{l:List (List Nat)},l.Nodup->p∈l->(l.filter λx=>decide (x≠p)).length+1=l.length:=by
   intro l;induction l with
   |nil=>intro _ h;cases h
   |cons a l C=>
    intro k hm;rw[YQ] at k;rw[List.filter_cons];by_cases e:a=p
    .subst e
     have:l.filter (λx=>decide (x≠a))=l:=List.filter_eq_self.2 λx hx=>YW λz=>k.1 (z▸hx)
     rw[show decide (a≠a)=false by simp,if_neg YF,this,YJ]
    .have hm:p∈l:=by rcases YB.1 hm with z | z;exact absurd z.symm e;exact z
     have:=C k.2 hm
     simp[e];simpa using this
  have:=j g pin
  omega
end
section
variable {ls rs ws:Zj}
def part(rs:Zj)(f:Nat):List Nat:=(cy (rs.getD f 0)).filter λo=>(rs.getD o 0).testBit f
def Ic(w:Walk ls rs)(hf:f<ls.length):part rs f=cls (aY rs) ls.length f:=by
 unfold part cls cy;have low:∀o,(rs.getD f 0).testBit o=true->o<ls.length:=λo a=>fj.lt w.low ((w.ok f o hf).1 a) hf
 refine kx (List.Pairwise.filter _ (List.Pairwise.filter _ List.pairwise_lt_range)) (List.Pairwise.filter _ List.pairwise_lt_range) λo=>?_
 rw[ZV,show o∈(List.range (fM ((rs.getD f 0:Nat):Int))).filter (λo=>(rs.getD f 0).testBit o)↔(rs.getD f 0).testBit o=true from df _ _,ZV,ZW];unfold aY;rw[YZ];exact⟨λz=>⟨low o z.1,z⟩,λz=>z.2⟩
end
end SG
namespace SG
open PySem L2 DD
open SH
section
variable {cn:Cn}{ds:List D}{M:MH}{Q:DK}
def o7:Ss:=#v[.ret (.bi .all #v[.comp 1 (.cmp .Eq (.bin .BitAnd (.ix (.var 1) (.var 4)) (.inv (.var 3))) (.int 0)) (.nm 4) (.seq (.var 0)) .no])]
def mZ:Ss:=.cons (.set 3 (.bin .BitOr (.var 2) (.fn 0 #v[.var 0]))) o7
def mf:az:=λds M Q=>∃(p ls:Zj) (a:Addr) (dn:Nat),ds=[.tup (nats p),.ref a,⇑dn]/\M a=some (.lst (nats ls))/\(∀x∈p,x<ls.length)/\ls.length<=120/\∀M',ad M M'->Q (.bl (mX ls p dn)) M'
def Dw{l:Zj}{f:Nat}(h:f<l.length):de (nats l) (f:Int)=some (.int ((l.getD f 0:Nat):Int)):=dO (by
 unfold nats;rw[ZG,ZD h,List.getD_eq_getElem?_getD,ZD h];rfl)
def Nu(ls:Zj)(k:Nat):D->D
 |.int x=>.bl (decide (au (ls.getD x.toNat 0) k=0))
 |_=>.non
theorem Bx(ls:Zj)(k:Nat):∀p:List Nat,oa ((nats p).map (Nu ls k))=some (p.map λx=>decide (au (ls.getD x 0) k=0))
 |[]=>rfl
 |x::p=>by
  have a:=Bx ls k p;unfold nats at a ⊢;rw[YL,YL,show Nu ls k (⇑x)=.bl (decide (au (ls.getD x 0) k=0)) from rfl,oa,a];rfl
theorem As(b:cn.F.getD 0 'd'=ci)(h:mf ds M Q):wSs cn mZ (fin Q) (ai ["","","",""] ds) M:=by
 obtain⟨p,ls,a,dn,rfl,ha,hp,hl,q⟩:=h;show wSs cn mZ (fin Q) [some (.tup (nats p)),↑a,~~~dn,none] M;unfold mZ;simp! only[List.set,b];refine⟨_,p,M,rfl,.inl ⟨rfl,rfl⟩,λf hf=>by have:=hp f hf;omega,?_⟩;simp! only[dw];unfold o7;simp! only[jO,List.cons_append,List.nil_append,List.replicate];refine cT (f:=Nu ls (dn|||ag p)) (ok:=λσ=>∃v,σ=[some (.tup (nats p)),↑a,~~~dn,some (.int ((dn|||ag p:Nat):Int)),v]) [] _ ⟨none,rfl⟩ ?_ ?_
 .intro d hd σ g_ rest ⟨v,hv⟩ k
  subst hv;obtain⟨x,hx,rfl⟩:=List.mem_map.1 hd;have c:=k _ ⟨~~~x,rfl⟩;rw[aH];simp! only[jO,List.set,ha,Dw (hp x hx),dy];refine⟨⟨rfl,rfl,YN _⟩,trivial,?_⟩;rw[av,show(((au (ls.getD x 0) (dn|||ag p):Nat):Int)==0)=decide (au (ls.getD x 0) (dn|||ag p)=0) by
   by_cases h:au (ls.getD x 0) (dn|||ag p)=0
   .rw[h];rfl
   .rw[ZQ h];exact beq_false_of_ne 'a']
  exact c
 .intro j g
  rw[List.nil_append,ab];simp only[Bx];rw[List.all_map];exact q _ (ad.new g)
end
end SG
namespace SH
open PySem L2 DD
variable {g h_ left m c_ i:Nat}{a_:Zy}{fr:Zp}{rs ns:Zj}{b a r:Addr}{M0 M':MH}{y:Int}
def fP(a_:Zy)(h_ g left:Nat)(fr:Zp):Prop:=(fr.map (·.1)).Nodup/\∀f r,(f,r)∈fr↔left.testBit f=true/\cE a_ h_ g f=some r
theorem fP.mem(h:fP a_ h_ g left fr)(f:Nat):f∈fr.map (·.1)↔f∈(aO a_ h_ g left).map (·.1):=by
 rw[List.mem_map,List.mem_map];constructor
 .rintro⟨⟨f',r⟩,hx,rfl⟩;exact⟨_,fO.2 ((h.2 _ _).1 hx),rfl⟩
 .rintro⟨⟨f',r⟩,hx,rfl⟩;exact⟨_,(h.2 _ _).2 (fO.1 hx),rfl⟩
theorem fP.nil{a_:Zy}{h_ g left:Nat}{fr:Zp}(h:fP a_ h_ g left fr)(e:fr.length=0):aO a_ h_ g left=[]:=by
 have e:fr=[]:=List.length_eq_zero_iff.1 e;subst e;cases q:aO a_ h_ g left with
 |nil=>rfl
 |cons x l=>
  have:=(h.mem x.1).2 (by rw[q];exact .head _)
  cases this
theorem Dx(ok:bV m a_)(h:fP a_ h_ g left fr)(hs:ns.Pairwise (· < ·))
  (hr:∀r,r∈ns ↔ ∃x,a_[r]?=some x/\(au left (ag (fr.map (·.1)))).testBit x.1=true/\∃f∈fr.map (·.1),bA (bd x) f=true) (f r:Nat):
  ns.find? (hits a_ (h_|||ag (fr.map (·.1))) g f)=some r↔(au left (ag (fr.map (·.1)))).testBit f=true/\cE a_ (h_|||ag (fr.map (·.1))) g f=some r:=by
 refine zo hs (λr o=>let⟨x,hx,hb,_⟩:=(hr r).1 o;⟨x,hx,hb⟩) ?_ f r;intro f r hf p;obtain⟨x,hx,rfl,hq⟩:=jb.1 p;refine(hr r).2 ⟨x,hx,hf,?_⟩;rw[aw,YZ,aB] at hf;have u:x.1∉fr.map (·.1):=by simpa using hf.2
 have z:cE a_ h_ g x.1=none:=by
  cases e:cE a_ h_ g x.1 with
  |none=>rfl
  |some B=>exact absurd (List.mem_map.2 ⟨_,(h.2 _ _).2 ⟨hf.1,e⟩,rfl⟩) u
 obtain⟨l,h1,n,c⟩:=Al (ss z (YU hx) rfl) hq;obtain⟨t,ht,j⟩:=List.mem_flatMap.1 h1;have A:=l0 ((zm ok hx).2.2 t ht) _ j;obtain⟨k,rfl⟩:∃k:Nat,l=(k:Int):=⟨l.toNat,by have:=A.1;simp only at this;omega⟩;rw[cx] at n c;rw[Nat.testBit_or,n,XG,aB] at c;exact⟨k,XR c,YW h1⟩
section
variable {cn:Cn}{c:CA}{S:Addr}{ds:List D}{M:MH}{Q:DK}
theorem Fq(f0:cn.F.getD 0 'd'=dU c S)(f1:cn.F.getD 1 'd'=fG c S)(f2:cn.F.getD 2 'd'=ci)
  {E:cP}{told:Nat}{C:Zz}{M:MH}(A:bm c S M0 a m a_) (hn:a_.length<64) (hm:m<64) (hl:left<2 ^ m) (T:ad M0 M) (T4:M0 r=none) (G:M0 b=none)
  (hp:M r=some (.lst ds)) (hb:M b=some (.dic (bz fr))) (F:fP a_ h_ g left fr) (A_:ds.length+64<=2000)
  (k:∀b' U w9 M',ad M0 M'->M0 b'=none->M' r=some (.lst (ds++(aO a_ h_ g left).map λx=>rj (x.1,i,x.2)))->M' b'=some (.dic (bz U)) ->
   fP a_ (h_|||dk (aO a_ h_ g left)) g (au left (dk (aO a_ h_ g left))) U ->
   E.nx [↑a,~~~c_,~~~told,~~~g,↑r,some (.int (au left (dk (aO a_ h_ g left)):Nat)),some (.int ((i+1:Nat):Int)),some (.int (h_|||dk (aO a_ h_ g left):Nat)),↑b',w9] M'):
  wSs cn gh E [↑a,~~~c_,~~~told,~~~g,↑r,~~~left,~~~i,~~~h_,↑b,C] M:=by
 have X0:dk (aO a_ h_ g left)=ag (fr.map (·.1)):=Du λf=>(F.mem f).symm
 have n:∀f∈fr.map (·.1),f<m:=by
  intro f hf;obtain⟨⟨f',g_⟩,hx,rfl⟩:=List.mem_map.1 hf;exact jI hl ((F.2 _ _).1 hx).1
 have Xo:fr.length<=m:=by have:=dg F.1 n;rwa [ZF] at this
 have hsz:(2000:Nat)<sizeLine:=by decide
 unfold gh;simp! only[List.set,List.cons_append,List.nil_append,List.replicate,nn,kH,hp,hb,cu,lU,Dt,kt];refine⟨rfl,by rw[ZF,ZF];omega,λp2 ms V h1 W=>?_⟩;obtain⟨ns,rfl,I,p⟩:=mT h1 W F.1;rw[qr];have J:ns=(aO a_ h_ g left).map (·.1):=kx I (o6 _ _ _ _) λf=>(p f).trans (F.mem f)
 have e3:=ad.new (o:=MO.lst (nats ns)) V;have K:ae M p2 (MO.lst (nats ns)) p2=some (.lst (nats ns)):=ab;generalize ae M p2 (MO.lst (nats ns))=L at *;simp only[K];refine cT (f:=λd=>match d with | .int step=>.tup [.int step,⇑i,.int ((cE a_ h_ g step.toNat).getD 0:Nat)] | _=>.non) (ok:=λσ=>∃v,σ=[↑a,~~~c_,~~~told,~~~g,↑r,~~~left,~~~i,~~~h_,↑b,C,v]) [] _ ⟨none,rfl⟩ ?_ ?_
 .intro d hd σ QZ rest ⟨v,hv⟩ kk
  subst hv;obtain⟨f,hf,rfl⟩:=List.mem_map.1 hd;obtain⟨⟨f',g_⟩,hx,rfl⟩:=List.mem_map.1 ((p f).1 hf);have hv:=qt f' F.1 hx;have hr:=((F.2 _ _).1 hx).2;rw[aH];simp! only[List.set,e3 b _ hb,hv];refine⟨K,?_⟩
  have:=kk [↑a,~~~c_,~~~told,~~~g,↑r,~~~left,~~~i,~~~h_,↑b,C,~~~f'] ⟨_,rfl⟩
  dsimp only at this;rw[YX,hr] at this;exact this
 intro O Y;have Z:([]++(nats ns).map λd=>match d with | .int step=>D.tup [.int step,⇑i,.int ((cE a_ h_ g step.toNat).getD 0:Nat)] | _=>.non)=(aO a_ h_ g left).map λx=>rj (x.1,i,x.2):=by
  rw[List.nil_append,J,wH,ZM,ZM];unfold nats;rw[ZM];rw[show((λ(x:Nat×Nat)=>x.1)∘λf=>(f,(cE a_ h_ g f).getD 0))=id from rfl,List.map_id];rfl
 rw[Z];have aa:((aO a_ h_ g left).map λx=>rj (x.1,i,x.2)).length<=64:=by
  have h5:ns.length=(aO a_ h_ g left).length:=by rw[J,ZF]
  have h6:ns.length<=m:=dg (I.imp λh=>ZU h) λf hf=>n f ((p f).1 hf)
  rw[ZF];omega
 generalize hnw:((aO a_ h_ g left).map λx=>rj (x.1,i,x.2))=new at *;have t:=e3.trans (ad.new (o:=MO.lst new) Y);have g4:ae L O (MO.lst new) O=some (.lst new):=ab;generalize ae L O (MO.lst new)=j at *;simp only[t r _ hp,g4];refine⟨by omega,?_⟩;have e5:ad M0 (ae j r (.lst (ds++new))):=(T.trans t).put T4;have g5:ae j r (MO.lst (ds++new)) r=some (.lst (ds++new)):=ab;have U':b≠r:=λz=>by subst z;rw[hp] at hb;cases hb
 have b5:ae j r (MO.lst (ds++new)) b=some (.dic (bz fr)):=by rw[aU U'];exact t _ _ hb
 generalize ae j r (MO.lst (ds++new))=l at *;clear t g4 Y e3 K V Z h1 W J I p hb hp T;clear L j M;unfold kc;simp! only[List.set,f2];refine⟨.ref b,fr.map (·.1),ae l b (.rod (bz fr)),rfl,.inr ⟨b,rfl,.inr ⟨bz fr,uM fr,.inl ⟨b5,rfl⟩⟩⟩,λf hf=>by have:=n f hf;omega,?_⟩;have u:ad M0 (ae l b (.rod (bz fr))):=e5.put G;have b6:ae l b (MO.rod (bz fr)) b=some (.rod (bz fr)):=ab;have g6:ae l b (MO.rod (bz fr)) r=some (.lst (ds++new)):=by rw[aU U'.symm];exact g5
 generalize ae l b (MO.rod (bz fr))=M6 at *;unfold kb;simp! only[List.set,dw];unfold ka;simp! only[jO,List.set,dy];unfold j9;simp! only[List.set];unfold j8;simp! only[List.set,f0,f1];refine⟨a,m,a_,b,bz fr,fr.map (·.1),_,rfl,A.ext u,hn,b6,uM fr,n,λp7 P M7 ac B g7 s7 r7=>?_⟩;refine⟨a,m,a_,p7,P,_,g,rfl,A.ext (u.trans B),g7,λg_ hr=>?_,λp8 R M8 VU e8 g8 n8 r8=>?_⟩
 .obtain⟨x,hx,_⟩:=(r7 g_).1 hr
  exact(YD.mp hx).1
 have:=k p8 R (some (.int (ag (fr.map (·.1)):Nat))) M8 ((u.trans B).trans e8) ((u.trans B).free VU) ((B.trans e8) _ _ g6) g8
 rw[X0] at this;exact this ⟨n8,λf g_=>(r8 f g_).trans (Dx A.ok F s7 r7 f g_)⟩
end
theorem At(h1:i<2 ^ m)(c:c_<2 ^ m):(je a_ g i c_).length<=2*m:=by
 unfold je;rw[ZK,ZF,ZF];have a:=Ib h1;obtain⟨nd,hf⟩:=ky (a_:=a_) (g:=g) (au c_ i+1) 1 i (au c_ i);have b:=dg (n:=m) nd λf q=>jI c (by have:=hf f q;rw[aw,YZ] at this;exact this.1)
 rw[ZF] at b;omega
section
variable {cn:Cn}{c:CA}{S:Addr}{ds:List D}{M:MH}{Q:DK}
theorem Fr (I:cn.F.getD 0 'd' = dU c S) (Z:cn.F.getD 1 'd' = fG c S) (f2:cn.F.getD 2 'd' = ci) (f3:cn.F.getD 3 'd' = me c S) (f4:cn.F.getD 4 'd' = d8)
  (h:oz c S ds M Q):wSs cn iN (fin Q) (ai ["","","","","","","","","",""] ds) M:=by
 obtain ⟨a,m,a_,c_,told,g,rfl,A,hn,hm,hh,ht,q⟩:=h
 show wSs cn iN (fin Q) [↑a,~~~c_,~~~told,~~~g,none,none,none,none,none,none] M
 have aa:=At (a_:=a_) (g:=g) ht hh
 unfold iN
 simp! only [List.cons_append,List.nil_append,List.replicate,f4]
 refine ⟨told,rfl,ZS ht (Nat.pow_le_pow_right 'b' 'a'),λp0 M1 T4 e1 n=>?_⟩
 simp only [n]
 refine cT (f:=λd=>.tup [d,.int 0,.non]) (ok:=λσ=>∃ v,σ = [↑a,~~~c_,~~~told,~~~g,none,none,none,none,none,none,v]) [] _ ⟨none,rfl⟩ ?_ ?_
 .intro d hd σ QZ rest ⟨v,hv⟩ kk
  subst hv
  exact ⟨n,kk _ ⟨_,rfl⟩⟩
 intro p hp
 have Ri:([] ++ (nats (cy told)).map λd=>D.tup [d,.int 0,.non]) = (cy told).map oy:=by
  rw [List.nil_append]; unfold nats; rw [ZM]; rfl
 rw [Ri]
 have j:ad M (ae M1 p (.lst ((cy told).map oy))):=e1.then hp
 have g2:ae M1 p (MO.lst ((cy told).map oy)) p = some (.lst ((cy told).map oy)):=ab
 have J:M p = none:=e1.free hp
 generalize ae M1 p (MO.lst ((cy told).map oy)) = M2 at *
 clear hp e1 n T4
 clear M1
 unfold jK
 simp! only [jO,List.set,dy]
 unfold jJ
 simp! only [List.set]
 unfold kh
 simp! only [List.set]
 unfold kg
 simp! only [List.set,I,f3]
 have hl:au c_ told < 2 ^ m:=by have:=oj c_ told; omega
 refine ⟨a,m,a_,au c_ told,rfl,A.ext j,hn,hl,λp3 ns M3 QW e3 g3 s3 o=>?_⟩
 refine ⟨a,m,a_,p3,ns,told,g,rfl,A.ext (j.trans e3),g3,λr hr=>?_,λb fr L hb O g4 n4 r4=>?_⟩
 .obtain ⟨x,hx,_⟩:=(o r).1 hr
  exact (YD.mp hx).1
 have F4:fP a_ told g (au c_ told) fr:=⟨n4,λf r=>(r4 f r).trans (zo s3 (λr hr=>(o r).1 hr) (λf r h1 h2=>by
  obtain ⟨x,hx,rfl,_⟩:=jb.1 h2
  exact (o r).2 ⟨x,hx,h1⟩) f r)⟩
 have t:M b = none:=(j.trans e3).free hb
 have e5:ad M L:=(j.trans e3).trans O
 have g5:L p = some (.lst ((cy told).map oy)):=(e3.trans O) _ _ g2
 unfold kf
 show k7 _ _ _ _ _
 refine ⟨λk σ M'=>∃ (left step h_:Nat) (b:Addr) (fr:List (Nat × Nat)) (u:Zz) (g_:List D),left = k/\σ = [↑a,~~~c_,~~~told,~~~g,↑p,~~~left,~~~step,~~~h_,↑b,u] /\
  ad M M'/\M b = none/\M' p = some (.lst g_)/\M' b = some (.dic (bz fr))/\fP a_ h_ g left fr/\left < 2 ^ m/\g_ ++ (c8 a_ g (left + 1) step h_ left).map rj = je a_ g told c_,?_,?_⟩
 .exact ⟨_,au c_ told,1,told,b,fr,none,_,rfl,rfl,e5,t,g5,g4,F4,hl,rfl⟩
 rintro k σ M' ⟨left,step,h_,b,fr,u,g_,rfl,rfl,P,B,R,T,C,E,l⟩
 have Vb:=congrArg List.length l
 rw [ZK] at Vb
 have VO:∀ K:Bool->MH->Prop,K (decide (0 < (fr.length:Int))) M'->wT cn (.cmp .Gt (.bi .len (.cons (.var 8) .nil)) (.int 0)) [↑a,~~~c_,~~~told,~~~g,↑p,~~~left,~~~step,~~~h_,↑b,u] M' K:=by
  intro K hK
  simp! only [List.set,T]
  rw [show (bz fr).length = fr.length by unfold bz; rw [ZF]]
  exact hK
 refine VO _ ?_
 by_cases U:fr.length = 0
 .rw [ZQ 'a']
  have Rq:=C.nil U
  rw [c8,if_pos Rq,XA,ZA] at l
  rw [aR]
  dsimp only
  unfold j7
  simp! only [List.set]
  refine q p M' J P ?_
  rw [R,l]
 .rw [YW 'a']
  have V:aO a_ h_ g left ≠ []:=λz=>by
   have hx:fr ≠ []:=λw=>U (by rw [w]; rfl)
   obtain ⟨x,hx⟩:=List.exists_mem_of_ne_nil _ hx
   have:=(C.mem x.1).1 (List.mem_map.2 ⟨x,hx,rfl⟩)
   rw [z] at this; cases this
  have W:=sX V
  rw [bh]
  refine ⟨λj' Y=>∃ k',k' < left/\_,λj' Y h=>h,?_⟩
  refine Fq I Z f2 A hn hm E P J B R T C 'a' ?_
  intro b' VT w9 Y e7 G g7 d7 F7
  refine ⟨_,W,_,step + 1,_,b',VT,w9,_,rfl,rfl,e7,G,g7,d7,F7,by omega,?_⟩
  have r1:c8 a_ g (left + 1) step h_ left = (aO a_ h_ g left).map (λx=>(x.1,step,x.2)) ++ c8 a_ g left (step + 1) (h_ ||| dk (aO a_ h_ g left)) (au left (dk (aO a_ h_ g left))):=by rw [c8,if_neg V]
  rw [← l,r1,ZL,ZM,ZB,wJ (au left (dk (aO a_ h_ g left)) + 1) left _ _ _ 'a' W]
  rfl
theorem vB(l:cn.F.getD 0 'd'=ci)(n:cn.F.getD 1 'd'=oz c S)(h:iO c S ds M Q):wSs cn jd (fin Q) (ai ["","","",""] ds) M:=by
 obtain⟨a,m,a_,c_,told,g,rfl,A,hn,hm,j,ht,q⟩:=h;show wSs cn jd (fin Q) [↑a,~~~c_,~~~told,~~~g] M;unfold jd;simp! only[List.cons_append,List.nil_append,List.replicate,l,n];refine⟨a,m,a_,c_,told,g,rfl,A,hn,hm,j,ht,λp M1 hp e1 k=>?_⟩;simp only[k];have o:∀d∈je a_ g told c_,∃(f:Nat) (r:List D),d=.tup (⇑f::r):=by
  intro d hd;rcases YC.1 hd with hd | hd
  .obtain⟨f,_,rfl⟩:=List.mem_map.1 hd
   exact⟨f,_,rfl⟩
  .obtain⟨x,_,rfl⟩:=List.mem_map.1 hd
   exact⟨x.1,_,rfl⟩
 refine cT (f:=λd=>match d with | .tup (h::_)=>h | _=>.non) (ok:=λσ=>∃v,σ=[↑a,~~~c_,~~~told,~~~g,v]) [] _ ⟨none,rfl⟩ ?_ ?_
 .intro d hd σ z rest ⟨v,hv⟩ kk
  subst hv;obtain⟨f,r,rfl⟩:=o d hd;rw[aH];simp! only[List.set,cf];exact⟨k,kk _ ⟨_,rfl⟩⟩
 intro p2 t;have u:([]++(je a_ g told c_).map λd=>match d with | .tup (h::_)=>h | _=>.non)=nats (cy told++(c8 a_ g (au c_ told+1) 1 told (au c_ told)).map (·.1)):=by
  rw[List.nil_append];unfold je nats;rw[ZL,ZL,ZM,ZM,ZM];rfl
 rw[u];refine⟨.ref p2,_,_,rfl,.inr ⟨p2,rfl,.inl ⟨ab,rfl⟩⟩,?_,?_⟩
 .intro f hf
  rcases YC.1 hf with hf | hf
  .have:=jI ht ((df _ _).1 hf);omega
  .have:=(ky _ _ _ _).2 f hf
   rw[aw,YZ] at this
   have:=jI j this.1
   omega
 .have:ag (cy told++(c8 a_ g (au c_ told+1) 1 told (au c_ told)).map (·.1))=dz a_ g told c_:=by
   refine Nat.eq_of_testBit_eq λf=>?_
   unfold dz;rw[Nat.testBit_or,aB,aB];cases e:told.testBit f with
   |true=>rw[Bool.true_or];exact YW (YC.2 (.inl ((df _ _).2 e)))
   |false=>
    rw[XG];refine decide_eq_decide.2 ⟨λh=>?_,λh=>YC.2 (.inr h)⟩;rcases YC.1 h with h | h
    .rw[(df _ _).1 h] at e;cases e
    .exact h
  rw[this];exact q _ (e1.then t)
end
def cellAt(ns:Zi)(k:Nat):Int:=(ns[k]?).getD 0
def oA:az:=λds M Q=>∃(a:Addr) (ns:Zi) (k:Nat),ds=[.ref a,⇑k]/\M a=some (.rol (ns.map .int))/\Q (.int (cellAt ns k)) M
theorem ExtBut.put{o:MO}{M:MH}(h:ExtBut b M M')(hr:M r=none):ExtBut b M (ae M' r o):=λa u n q=>by
 have:a≠r:=λz=>by subst z;rw[hr] at q;cases q
 rw[aU this];exact h a u n q
def li:Ss:=#v[.ret (.int 0)]
def jg:Ss:=.cons (.ite (.cmp .Lt (.var 1) (.bi .len #v[.var 0])) #v[.ret (.ix (.var 0) (.var 1))] .nil) li
theorem qu{m:Int}(h:0<m):0<=y%m/\y%m<m:=⟨Int.emod_nonneg _ 'a',Int.emod_lt_of_pos _ h⟩
def Dy(x y:D):de [x,y] 0=some x:=cf x [y]
def Dz(x y:D):de [x,y] 1=some y:=cm x y []
def Je(x y:D):lR ([x,y]:List D).length 0=some 0:=rfl
section
variable {cn:Cn}{ds:List D}{M:MH}{Q:DK}
theorem DA(h:oA ds M Q):wSs cn jg (fin Q) (ai ["",""] ds) M:=by
 obtain⟨a,ns,k,rfl,c,q⟩:=h;show wSs cn jg (fin Q) [↑a,~~~k] M;unfold jg;simp! only[c,ZF];unfold cellAt at q;refine vc (λf=>?_) (λf=>?_)
 .have hk:k<ns.length:=by omega
  rw[dO (by rw[ZG,ZD hk];rfl)];rw[ZD hk] at q;exact q
 .have hk:ns.length<=k:=by omega
  rw[ZI hk] at q;unfold li;simp! only[];exact q
end
theorem eQ(m:Nat):bM 0 (m:Int)=nats (List.range m):=by
 unfold bM nats;rw[show((m:Int)-0).toNat=m by omega];refine ZN λi _=>?_
 rw[Int.zero_add]
def jL(fs:Zj):nats fs=bj (fs.map λ(f:Nat)=>(f:Int)):=by unfold nats bj;rw[ZM];rfl
def DB(ls:Zj)(i:Nat):(nats ls).eraseIdx i=nats (ls.eraseIdx i):=by
 unfold nats;induction ls generalizing i with
 |nil=>rfl
 |cons a r c=>
  cases i with
  |zero=>rfl
  |succ i=>rw[YL,List.eraseIdx_cons_succ,List.eraseIdx_cons_succ,YL,c]
theorem uN{c:Type}:∀{l:List c}{i:Nat}{x:c},l[i]?=some x->(x::l.eraseIdx i).Perm l
 |[],_,_,h=>by simp at h
 |a::l,0,x,h=>by
  rw[List.getElem?_cons_zero] at h;cases h;exact List.Perm.refl _
 |a::l,i+1,x,h=>by
  rw[List.getElem?_cons_succ] at h;rw[List.eraseIdx_cons_succ];exact(List.Perm.swap _ _ _).trans ((uN h).cons a)
theorem Au(h:rs.Nodup):(rs.map λ(f:Nat)=>(f:Int)).Nodup:=by
 unfold List.Nodup;rw[List.pairwise_map];exact List.Pairwise.imp (λh z=>h 'a') h
structure Drawn (m:Nat) (rs fs:Zj):Prop where
 nd:(fs++rs).Nodup
 lt:∀f∈fs++rs,f<m
 len:fs.length+rs.length=m
theorem Drawn.pop(h:Drawn m rs ns)(hx:rs[i]?=some g):Drawn m (rs.eraseIdx i) (ns++[g]):=by
 have hp:(ns++[g]++rs.eraseIdx i).Perm (ns++rs):=by
  rw[ZB];exact List.Perm.append_left _ (uN hx)
 have hl:=hp.length_eq;refine⟨hp.nodup_iff.2 h.nd,λf hf=>h.lt f (hp.mem_iff.1 hf),?_⟩
 have:=h.len
 simp only[ZK] at hl ⊢;omega
end SH
namespace SG
open PySem L2 DD
open SH
variable {a p2 p1:Addr}{M:MH}{m:Nat}
section
variable {cn:Cn}{ds:List D}{M:MH}{Q:DK}
def gk:Ss:=#v[.ret (.var 1)]
def dL:Ss:=#v[.set 1 (.comp 1 (.ite (.val (.fn 0 #v[.var 3,.var 2])) (.bin .BitOr (.var 3) (.ix (.var 1) (.var 2))) (.var 3)) (.nm 3) (.seq (.var 1)) .no)]
def kj:Ss:=.cons (.for (.nm 2) (.rg1 #v[.bi .len #v[.var 1]]) dL) gk
def iP:Ss:=.cons (.set 1 (.comp 2 (.bin .BitOr (.var 4) (.bin .LShift (.int 1) (.var 3))) (.tp [3,4]) (.enum #v[.var 0]) .no)) kj
def mh:az:=λds M Q=>∃(a:Addr) (ls:Zj),ds=[.ref a]/\M a=some (.lst (nats ls))/\ls.length<=120/\∀p M',M p=none->ad M M'->M' p=some (.lst (nats (bH ls ls.length)))->Q (.ref p) M'
def Jf:D->D
 |.tup [.int i,.int x]=>.int (Builtin.bitOr x (1*2 ^ i.toNat))
 |_=>.non
def KK(i x:Nat):Jf (.tup [.int ((0:Int)+(i:Int)),⇑x])=.int ((x|||2 ^ i:Nat):Int):=by
 show D.int (Builtin.bitOr (x:Int) (1*2 ^ ((0:Int)+(i:Int)).toNat))=_;rw[←dw];simp
def KL(ls:Zj):(bN 0 (nats ls)).map Jf=nats (bH ls 0):=by
 refine List.ext_getElem? λi=>?_
 rw[ZG];cases e:(bN 0 (nats ls))[i]? with
 |none=>
  rw[List.getElem?_eq_none_iff,fu] at e;rw[ZI]
  .rfl
  .unfold nats at e ⊢
   rw[ZF,gM];simpa using e
 |some x=>
  obtain⟨d,h1,rfl⟩:=jD e;unfold nats at h1;rw[ZG] at h1;cases e2:ls[i]? with
  |none=>rw[e2] at h1;cases h1
  |some y=>
   rw[e2] at h1;cases h1;show some (Jf _)=_;rw[KK];unfold nats bH;rw[ZG,List.getElem?_mapIdx,e2,Nat.one_shiftLeft];rfl
def Nv(rs:Zj)(k:Nat):D->D
 |.int x=>.int ((if(x.toNat).testBit k=true then x.toNat|||rs.getD k 0 else x.toNat:Nat):Int)
 |_=>.non
def KM(rs:Zj)(k:Nat):(nats rs).map (Nv rs k)=nats (ze rs k):=by
 unfold nats ze;rw[ZM,ZM];rfl
theorem uO (B:cn.F.getD 0 'd' = cj) (h:mh ds M Q):wSs cn iP (fin Q) (ai ["","",""] ds) M:=by
  obtain ⟨a,ls,rfl,ha,hl,q⟩:=h
  show wSs cn iP (fin Q) [↑a,none,none] M
  unfold iP
  simp! only [List.cons_append,List.nil_append,List.replicate,ha]
  refine cT (f:=Jf) (ok:=λσ=>∃ v w,σ = [↑a,none,none,v,w]) [] _ ⟨none,none,rfl⟩ ?_ ?_
  . intro d hd σ g_ rest ⟨v,w,hv⟩ k
    subst hv
    obtain ⟨i,hi⟩:=XW hd
    obtain ⟨d',h1,rfl⟩:=jD hi
    unfold nats at h1
    rw [ZG] at h1
    cases e2:ls[i]? with
    | none=>rw [e2] at h1; cases h1
    | some y=>
      rw [e2] at h1
      cases h1
      have O:i < ls.length:=(YD.1 e2).1
      have g:=k _ ⟨some (.int ((0:Int) + (i:Int))),~~~y,rfl⟩
      rw [aH]
      simp! only [List.set]
      exact ⟨rfl,⟨by omega (splitDisjunctions:=true),by omega (splitDisjunctions:=true),by decide⟩,ha,g⟩
  rw [List.nil_append,KL]
  intro p hp
  have e1:ad M (ae M p (.lst (nats (bH ls 0)))):=ad.new hp
  have z:ae M p (MO.lst (nats (bH ls 0))) p = some (.lst (nats (bH ls 0))):=ab
  generalize ae M p (MO.lst (nats (bH ls 0))) = M1 at *
  unfold kj
  simp! only [List.set,z]
  have C:(nats (bH ls 0)).length = ls.length:=by unfold nats; rw [ZF,gM]
  rw [C,eQ]
  have body:∀ (E:cP) (k:Nat) (p:Addr) (v:Zz) (b:MH),k < ls.length->M p = none->ad M b->b p = some (.lst (nats (bH ls k)))->(∀ c r o,M c = none->ad M o->o c = some (.lst (nats (bH ls (k + 1))))->E.nx [↑a,↑c,r] o)->wSs cn dL E [↑a,↑p,~~~k] b:=by
    intro E k p v b hk hp l j kk
    unfold dL
    simp! only [List.cons_append,List.nil_append,List.replicate,j,B]
    have t:k < (bH ls k).length:=by rw [gM]; exact hk
    refine cT (f:=Nv (bH ls k) k) (ok:=λσ=>∃ v,σ = [↑a,↑p,~~~k,v]) [] _ ⟨none,rfl⟩ ?_ ?_
    . intro d hd σ g_ rest ⟨v,hv⟩ G
      subst hv
      obtain ⟨y,hy,rfl⟩:=List.mem_map.1 hd
      have g:=G _ ⟨~~~y,rfl⟩
      have e:Nv (bH ls k) k (⇑y) = .int ((if y.testBit k = true then y ||| (bH ls k).getD k 0 else y:Nat):Int):=rfl
      rw [e] at g
      rw [aH]
      simp! only [List.set]
      refine ⟨_,_,rfl,by omega,?_⟩
      rw [cx]
      cases hb:y.testBit k with
      | true=>
        rw [hb,if_pos rfl] at g
        simp! only [j,Dw t,dw]
        exact ⟨trivial,g⟩
      | false=>
        rw [hb,if_neg YF] at g
        simp! only []
        exact ⟨j,g⟩
    . rw [List.nil_append,KM]
      intro c A
      have I:M c = none:=l.free A
      exact kk c _ _ I (l.then A) ab
  have u:∀ (n k:Nat),k + n = ls.length->∀ (p:Addr) (v:Zz) (b:MH),M p = none->ad M b->b p = some (.lst (nats (bH ls k))) ->
      ar (λ_=>True) (.nm 2) (wSs cn dL) { nx:=wSs cn gk (fin Q),rt:=Q } (nats (List.range' k n)) [↑a,↑p,v] b:=by
    intro n
    induction n with
    | zero=>
      intro k hk p v b hp l j
      rw [show nats (List.range' k 0) = [] from rfl,ar]
      unfold gk
      simp! only []
      have:k = ls.length:=by omega
      subst this
      exact q p b hp l j
    | succ n J=>
      intro k hk p v b hp l j
      rw [show nats (List.range' k (n + 1)) = ⇑k :: nats (List.range' (k + 1) n) from rfl,ar]
      exact body _ k p v b 'a' hp l j λc r o h1 K L=>⟨trivial,J (k + 1) 'a' c r o h1 K L⟩
  refine ⟨by have:(2000:Nat) < sizeLine:=by decide
             omega,?_⟩
  rw [List.range_eq_range']
  exact u ls.length 0 'a' p none M1 hp e1 z
end
section
variable {cn:Cn}{ds:List D}{M:MH}{Q:DK}
def eV:Ss:=#v[.ret (.var 1)]
def iX:Ss:=#v[.set 2 (.bin .BitOr (.var 2) (.fn 1 #v[.var 5]))]
def iY:Ss:=.cons (.expr (.mt .append (.var 1) #v[.var 5])) iX
def dh:Ss:=#v[.ite (.not (.val (.fn 0 #v[.var 2,.var 3]))) (.cons (.set 5 (.bi .tuple #v[.comp 1 (.var 6) (.nm 6) (.seq (.fn 2 #v[.var 4])) (.yes (.val (.fn 0 #v[.ix (.var 0) (.var 6),.var 3])))])) iY) .nil]
def iZ:Ss:=.cons (.for (.tp [3,4]) (.enum #v[.var 0]) dh) eV
def i0:Ss:=.cons (.set 2 (.int 0)) iZ
def gm:Ss:=.cons (.set 1 (.lst .nil)) i0
def aA(p:Zj):D:=.tup (nats p)
def By(S:Nat->Nat->Bool)(m k:Nat):(bI S m k).length<=k:=by
 unfold bI;rw[ZF];exact ZX (List.length_filter_le _ _) (by rw[ZJ];exact YG _)
def Nw(rs:Zj)(k:Nat):D->Bool
 |.int o=>(rs.getD o.toNat 0).testBit k
 |_=>false
def mi:az:=λds M Q=>∃(a:Addr) (ls rs:Zj),ds=[.ref a]/\M a=some (.lst (nats rs))/\Walk ls rs/\ls.length<=120/\∀p M',M p=none->ad M M'->M' p=some (.lst ((bI (aY rs) ls.length ls.length).map aA))->Q (.ref p) M'
theorem rK(V:cn.F.getD 0 'd'=cj)(W:cn.F.getD 1 'd'=ci)(Y:cn.F.getD 2 'd'=d8)(h:mi ds M Q):wSs cn gm (fin Q) (ai ["","","","","",""] ds) M:=by
 obtain⟨a,ls,rs,rfl,ha,w,hl,q⟩:=h;show wSs cn gm (fin Q) [↑a,none,none,none,none,none] M;have R:=w.eqv;have hsz:(2000:Nat)<sizeLine:=by decide
 unfold gm;simp! only[List.set];intro b G;have e1:ad M (ae M b (.lst [])):=ad.new G;have Z:ae M b (MO.lst []) b=some (.lst ((bI (aY rs) ls.length 0).map aA)):=ab;generalize ae M b (MO.lst [])=M1 at *;unfold i0;simp! only[List.set];unfold iZ;simp! only[List.set,e1 _ _ ha];have body:∀(E:cP) (k placed x:Nat) (g:Zz) (c:MH),k<ls.length->rs[k]?=some x->ad M c->c b=some (.lst ((bI (aY rs) ls.length k).map aA))->o4 (aY rs) ls.length k placed ->
   (∀B I j,ad M j->j b=some (.lst ((bI (aY rs) ls.length (k+1)).map aA))->o4 (aY rs) ls.length (k+1) B->E.nx [↑a,↑b,~~~B,~~~k,~~~x,I] j) ->
   wSs cn dh E [↑a,↑b,~~~placed,~~~k,~~~x,g] c:=by
  intro E k placed x g c hk hx n r P kk;unfold dh;simp! only[List.set,V,Y,List.cons_append,List.nil_append,List.replicate];refine⟨_,_,rfl,by omega,?_⟩;rw[cx,P.free R hk];cases hf:gN (aY rs) k with
  |false=>
   simp! only[Bool.not_false,Bool.not_true]
   have:=kk placed g c n (by rw[HZ hf];exact r) (P.skip R hk hf)
   exact this
  |true=>
   simp! only[Bool.not_false,Bool.not_true];have y:rs.getD k 0=x:=by rw[List.getD_eq_getElem?_getD,hx];rfl
   have A:∀o,x.testBit o=true->o<ls.length:=λo t=>fj.lt w.low ((w.ok k o hk).1 (by rw[y];exact t)) hk
   have xl:x<2 ^ ls.length:=Nat.lt_pow_two_of_testBit x λi hi=>by
    cases z:x.testBit i with
    |false=>rfl
    |true=>have:=A i z;omega
   refine⟨x,rfl,ZS xl (Nat.pow_le_pow_right 'b' 'a'),λp2 j G' S J=>?_⟩;have T9:=n.trans S;simp! only[J];refine dD (p:=Nw rs k) (ok:=λσ=>∃v,σ=[↑a,↑b,~~~placed,~~~k,~~~x,g,v]) [] _ ⟨none,rfl⟩ ?_ ?_
   .intro d hd σ g_ rest ⟨v,hv⟩ k0
    subst hv;obtain⟨o,t,rfl⟩:=List.mem_map.1 hd;have ol:o<rs.length:=by rw[w.len];exact A o ((df _ _).1 t)
    have u:=k0 _ ⟨~~~o,rfl⟩;rw[show Nw rs k (⇑o)=(rs.getD o 0).testBit k from rfl] at u;rw[aH];simp! only[List.set,T9 _ _ ha,Dw ol];refine⟨_,_,rfl,by omega,?_⟩;rw[cx];cases hb:(rs.getD o 0).testBit k with
    |true=>
     rw[hb] at u;simp! only[];exact⟨J,u⟩
    |false=>
     rw[hb] at u;simp! only[];rw[show g_++cond false [D.int (o:Int)] []=g_ from ZA g_] at u;exact⟨J,u⟩
   .have ep:(nats (cy x)).filter (Nw rs k)=nats (cls (aY rs) ls.length k):=by
     rw[←Ic w hk,part,y];unfold nats;rw[List.filter_map];rfl
    rw[List.nil_append,ep];intro p3 QW;have T:ad c (ae j p3 (.lst (nats (cls (aY rs) ls.length k)))):=S.then QW;rw[ab];generalize ae j p3 (MO.lst (nats (cls (aY rs) ls.length k)))=C at *;have g7:=T _ _ r;have n7:ad M C:=n.trans T;simp! only[cu];unfold iY;simp! only[List.set,g7];have aa:=By (aY rs) ls.length k;refine⟨rfl,by rw[ZF];omega,?_⟩;have e8:ad M (ae C b (.lst ((bI (aY rs) ls.length k).map aA++[.tup (nats (cls (aY rs) ls.length k))]))):=n7.put G;have g8:ae C b (MO.lst ((bI (aY rs) ls.length k).map aA++[.tup (nats (cls (aY rs) ls.length k))])) b=some (.lst ((bI (aY rs) ls.length (k+1)).map aA)):=by
     rw[ab,H9 hf,ZL];rfl
    generalize ae C b (MO.lst ((bI (aY rs) ls.length k).map aA++[.tup (nats (cls (aY rs) ls.length k))]))=U at *;unfold iX;simp! only[List.set,W];refine⟨_,cls (aY rs) ls.length k,U,rfl,.inl ⟨rfl,rfl⟩,λf Xw=>by have:=(da.1 Xw).1;omega,?_⟩;simp! only[dw];refine kk (placed|||ag (cls (aY rs) ls.length k)) _ U e8 g8 (P.take λo t=>?_);rw[aB,decide_eq_true_iff,da];exact⟨λz=>z.2,λz=>⟨t,z⟩⟩
 have K:∀(rest:Zj) (k:Nat),rs.drop k=rest->k+rest.length=ls.length->∀(placed:Nat) (L O g:Zz) (c:MH),ad M c->c b=some (.lst ((bI (aY rs) ls.length k).map aA))->o4 (aY rs) ls.length k placed ->
   ar (λM'=>M' a=some (.lst (nats rs))) (.tp [3,4]) (wSs cn dh) { nx:=wSs cn eV (fin Q),rt:=Q } (bN (k:Int) (nats rest)) [↑a,↑b,~~~placed,L,O,g] c:=by
  intro rest;induction rest with
  |nil=>
   intro k _ hk placed L O g c n r P;rw[show nats []=[] from rfl,bN,ar];unfold eV;simp! only[];have:k=ls.length:=by simpa using hk
   subst this;exact q b c G n r
  |cons x rest ih=>
   intro k hd hk placed L O g c n r P;rw[YJ] at hk;rw[show nats (x::rest)=⇑x::nats rest from rfl,bN,ar];refine⟨rfl,?_⟩;have hx:rs[k]?=some x:=by
    have:=congrArg (λl=>l[0]?) hd
    simpa using this
   have Qe:rs.drop (k+1)=rest:=by
    have:=congrArg List.tail hd
    simpa using this
   refine body _ k placed x g c 'a' hx n r P λB I j h1 h2 h3=>⟨h1 _ _ ha,?_⟩
   exact ih (k+1) Qe 'a' B _ _ I j h1 h2 h3
 have P0:o4 (aY rs) ls.length 0 0:=λo t=>by
  rw[Nat.zero_testBit];exact⟨λz=>(nomatch z),λ⟨x,hx,_⟩=>absurd hx (Nat.not_lt_zero x)⟩
 exact K rs 0 rfl (by rw[w.len];omega) 0 none none none M1 e1 Z P0
end
def nu:List (Int×Bool)->MO
 |[]=>.dic []
 |k::ks=>.prs (k::ks)
def Fs(ks:List (Int×Bool))(k:Int×Bool):∃k' b,putP ks k=k'::b:=by
 unfold putP;split
 .rename_i h
  cases ks with
  |nil=>cases h
  |cons a l=>exact⟨a,l,rfl⟩
 .cases ks with
  |nil=>exact⟨k,[],rfl⟩
  |cons a l=>exact⟨a,l++[k],rfl⟩
def KN{x:Int}{y:Bool}{Q:MH->Prop}{ks:List (Int×Bool)}(h:M a=some (nu ks))(hl:ks.length<sizeLine)(q:Q (ae M a (nu (putP ks (x,y))))):uk (.ref a) (.tup [.int x,.bl y]) (.bl true) M Q:=by
 unfold uk;obtain⟨k',b,e⟩:=Fs ks (x,y);rw[e] at q;cases ks with
 |nil=>
  have c:putP [] (x,y)=[(x,y)]:=by unfold putP;simp
  rw[c] at e;cases e;simp only[h,nu];exact q
 |cons k ks=>
  simp only[h,nu];rw[e];exact⟨hl,q⟩
def Id{Q:DK}{ks:List (Int×Bool)}(h:M a=some (nu ks))(hl:ks.length<=63)(q:∀(p:Addr) (b:List (Int×Bool)),M p=none->b.Perm ks->b.Pairwise (λx y=>TS.lV x<=TS.lV y)->Q (.ref p) (ae M p (.lst (b.map pD)))):k6 [.ref a] M Q:=by
 unfold k6;cases ks with
 |nil=>
  simp only[h,nu];intro p hp;exact q p [] hp (.refl _) .nil
 |cons k ks=>
  simp only[h,nu];exact⟨hl,q⟩
def sv(a_:Zy)(l:Zj):List (Int×Bool):=l.flatMap λr=>((a_[r]?.map bd).getD []).map λz=>(z.2,z.1)
def kz(a_:Zy)(f:Nat):List (Int×Bool):=(sv a_ (cQ (aJ a_) a_.length f)).foldl putP []
def zr{ks:List (Int×Bool)}{k x:Int×Bool}:x∈putP ks k↔x∈ks\/x=k:=by
 unfold putP;split
 .rename_i h
  exact⟨.inl,λz=>z.elim id λe=>e▸h⟩
 .rw[YC,XQ]
theorem oB:∀(l ks:List (Int×Bool)),ks.Nodup->(l.foldl putP ks).Nodup/\∀x,x∈l.foldl putP ks↔x∈ks\/x∈l
 |[],ks,h=>⟨h,λx=>⟨.inl,λz=>z.elim id λz=>nomatch z⟩⟩
 |k::l,ks,h=>by
  obtain⟨h1,b⟩:=oB l (putP ks k) (og k h);refine⟨h1,λx=>?_⟩;rw[List.foldl_cons,b x,zr,YB,or_assoc]
theorem Ft{ks:List (Int×Bool)}(h:ks.Nodup)(b:∀k∈ks,0<=k.1/\k.1<(m:Int)):ks.length<=2*m:=by
 have inj:∀x∈ks,∀y∈ks,x.1.toNat*2+(b2i x.2).toNat=y.1.toNat*2+(b2i y.2).toNat->x=y:=by
  intro x hx y hy e;obtain⟨g,c⟩:=x;obtain⟨j,f⟩:=y;have hx:=b _ hx;have hy:=b _ hy;dsimp only at *;have e1:g=j/\c=f:=by
   cases c<;>cases f<;>simp[b2i] at e ⊢ <;> omega
  rw[e1.1,e1.2]
 have nd:(ks.map λk=>k.1.toNat*2+(b2i k.2).toNat).Nodup:=by
  rw[List.Nodup,List.pairwise_map];refine List.Pairwise.imp_of_mem ?_ h;intro x y hx hy ne e;exact ne (inj x hx y hy e)
 have:=dg (n:=2*m) nd λz l=>by
  obtain⟨k,hk,rfl⟩:=List.mem_map.1 l
  have:=b k hk
  have o:(b2i k.2).toNat<=1:=by cases k.2<;>decide
  omega
 rwa [ZF] at this
section
variable {cn:Cn}{c:CA}{S:Addr}{ds:List D}{M:MH}{Q:DK}
def dM:Ss:=#v[.ret (.bk .sortedB #v[.var 2])]
def gn:Ss:=#v[.putP (.var 2) (.var 4) (.bl true)]
def gp:Ss:=#v[.for (.nm 4) (.seq (.ix (.fld (.var 0) "leanings") (.var 3))) gn]
def kl:Ss:=.cons (.for (.nm 3) (.seq (.ix (.fld (.var 0) "headed") (.var 1))) gp) dM
def iQ:Ss:=.cons (.set 2 .dnew) kl
def jh(c:CA)(S:Addr):az:=λds M Q=>∃(a:Addr) (m:Nat) (a_:Zy) (f:Nat),ds=[.ref a,⇑f]/\bm c S M a m a_/\f<m/\∀p M' (b:List (Int×Bool)),M p=none->ad M M'->b.Perm (kz a_ f)->b.Pairwise (λx y=>TS.lV x<=TS.lV y)->M' p=some (.lst (b.map pD))->Q (.ref p) M'
def KO{a_:Zy}{s_:Zt}:(eM m a_ s_ p1 p2 a).lookup ("leanings" : Str)=↑p2:=rfl
theorem Fu(W:∀f∈iM,cn.O S f)(h:jh c S ds M Q):wSs cn iQ (fin Q) (ai ["","","","",""] ds) M:=by
 obtain⟨a,m,a_,f,rfl,⟨ok,s_,p1,p2,p3,N_,N',Qa,h1,-,⟨h3,h4,Y⟩,⟨h6,Z⟩,-⟩,hf,q⟩:=h;show wSs cn iQ (fin Q) [↑a,~~~f,none,none,none] M;have C:N_[f]?=some (N_[f]' 'a'):=ZD 'a';have hsz:(4000:Nat)<sizeLine:=by decide
 unfold iQ;simp! only[List.set];intro d hd;have e1:ad M (ae M d (MO.dic [])):=ad.new hd;have g1:ae M d (MO.dic []) d=some (nu []):=ab;generalize ae M d (MO.dic [])=M1 at *;unfold kl;simp! only[List.set,e1 _ _ h1,wz,e1 _ _ h3,kM C,e1 _ _ (Y f _ C)];refine⟨W _ (by rfl'),?_⟩;have K:M N_[f]=some (.lst (nats (cQ (aJ a_) a_.length f))):=Y f _ C;have few:∀{ks:List (Int×Bool)},ks.Nodup->(∀k∈ks,0<=k.1/\k.1<(m:Int))->ks.length<=60:=λnd b=>by
  have:=Ft nd b
  have:=ok.most
  omega
 have A:∀(g:MH->Prop) (E:cP) (r:Nat),(∀M',ad M M'->g M')->∀(l:Zs) (ks:List (Int×Bool)) (v:Zz) (j:MH),ad M j->j d=some (nu ks)->ks.Nodup->(∀k∈ks,0<=k.1/\k.1<(m:Int))->(∀z∈l,0<=z.2/\z.2<(m:Int)) ->
   (∀v' n,ad M n->n d=some (nu ((l.map λz=>(z.2,z.1)).foldl putP ks))->E.nx [↑a,~~~f,↑d,~~~r,v'] n) ->
   ar g (.nm 4) (wSs cn gn) E (l.map pairD) [↑a,~~~f,↑d,~~~r,v] j:=by
  intro g E r hg l;induction l with
  |nil=>
   intro ks v j o B nd b _ kk;rw[XA,ar];exact kk v j o B
  |cons z l L=>
   intro ks v j o B nd b bl kk;rw[YL,ar];unfold gn;simp! only[List.set];have hk:=few nd b;refine KN (x:=z.2) (y:=z.1) B 'a' ?_;have u:ad M (ae j d (nu (putP ks (z.2,z.1)))):=o.put hd;refine⟨hg _ u,L (putP ks (z.2,z.1)) _ _ u ab (og _ nd) (λk hk=>?_) (λy hy=>bl y (.tail _ hy)) kk⟩;rcases zr.1 hk with z' | rfl
   .exact b k z'
   .exact bl z (.head _)
 have fit:∀(r:Nat) (x:Row),a_[r]?=some x->∀z∈bd x,0<=z.2/\z.2<(m:Int):=λr x hx z C=>by
  unfold bd at C;obtain⟨t,ht,P⟩:=List.mem_flatMap.1 C;exact l0 ((ok.fit x (YU hx)).2.2 t ht) z P
 have outer:∀(l:Zj) (ks:List (Int×Bool)) (I J:Zz) (j:MH),(∀r∈l,r<a_.length)->ad M j->j d=some (nu ks)->ks.Nodup->(∀k∈ks,0<=k.1/\k.1<(m:Int)) ->
   (∀R T n,ad M n->n d=some (nu ((sv a_ l).foldl putP ks))->((sv a_ l).foldl putP ks).length<=60->wSs cn dM (fin Q) [↑a,~~~f,↑d,R,T] n) ->
   ar (λM'=>M' N_[f]=some (MO.lst (nats (cQ (aJ a_) a_.length f)))) (.nm 3) (wSs cn gp) { nx:=wSs cn dM (fin Q),rt:=Q } (nats l) [↑a,~~~f,↑d,I,J] j:=by
  intro l;induction l with
  |nil=>
   intro ks I J j _ o B nd b kk;rw[show nats []=[] from rfl,ar];exact kk I J j o B (few nd b)
  |cons r l L=>
   intro ks I J j hr o B nd b kk;have G:=hr r (.head _);have hx:a_[r]?=some (a_[r]'G):=ZD G;have hp:N'[r]?=some (N'[r]'(by rw[Z.1];exact G)):=ZD _;have hq:=Z.2 r _ _ hp hx;rw[show nats (r::l)=⇑r::nats l from rfl,ar];unfold gp;simp! only[List.set,o _ _ h1,KO,o _ _ h6,kM hp,o _ _ hq];refine⟨W _ (by rfl'),?_⟩;refine A _ _ r (λM' e'=>e' _ _ hq) (bd (a_[r]'G)) ks _ j o B nd b (fit r _ hx) λv' n u U=>⟨u _ _ K,?_⟩
   obtain⟨n1,n2⟩:=oB ((bd (a_[r]'G)).map λz=>(z.2,z.1)) ks nd;refine L _ _ _ n (λx hx=>hr x (.tail _ hx)) u U n1 (λk hk=>?_) λR T M7 e7 g7 V=>?_
   .rcases(n2 k).1 hk with z | z
    .exact b k z
    .obtain⟨y,hy,rfl⟩:=List.mem_map.1 z
     exact fit r _ hx y hy
   .have ef:sv a_ (r::l)=((bd (a_[r]'G)).map λz=>(z.2,z.1))++sv a_ l:=by
     unfold sv;rw[List.flatMap_cons,hx];rfl
    refine kk R T M7 e7 ?_ ?_
    .rw[ef,List.foldl_append];exact g7
    .rw[ef,List.foldl_append];exact V
 refine outer _ [] none none M1 (λr hr=>?_) e1 g1 List.nodup_nil (λk hk=>nomatch hk) λI J n u U hl=>?_
 .exact ZW.1 (ZV.1 hr).1
 .unfold dM
  simp! only[nn];refine Id U 'a' λp ms hp h8 h9=>?_
  exact q p _ ms (u.free hp) (u.then hp) h8 h9 ab
end
end SG
namespace SH
open PySem L2 DD
variable {a b n m:Nat}{hi:Zq}{y:Nat×Nat}
theorem KP{c:Type}(xs:List c)(a b:Nat):(dQ xs (some (a:Int)) (some (b:Int))).length<=b:=by
 unfold dQ;rw[HT.u8,HT.u8,YT];omega
def KQ{c:Type}{xs:List c}{lo:Zq}{x:c}(h:x∈dQ xs lo hi):x∈xs:=List.mem_of_mem_drop (List.mem_of_mem_take h)
def lj:Ss:=#v[.ret (.bl true)]
def iR:Ss:=#v[.ite (.not (.val (.fn 0 #v[.var 3,.var 1,.var 2]))) #v[.ret (.bl false)] .nil]
def oC:Ss:=.cons (.for (.nm 3) (.seq (.var 0)) iR) lj
def iS:az:=λds M Q=>∃(t:CT) (h g:Int),ds=[t.told,.int h,.int g]/\t.ok/\∀M',ad M M'->Q (.bl (t.carried h g)) M'
def oE:az:=λds M Q=>∃(p:Addr) (ts:List CT) (h g:Int),ds=[.ref p,.int h,.int g]/\M p=some (.lst (ts.map CT.told))/\(∀t∈ts,t.ok)/\∀M',ad M M'->Q (.bl (ts.all (CT.carried h g))) M'
def rk(m:Nat):(1:Int)*2 ^ (m:Int).toNat=((2 ^ m:Nat):Int):=by rw[YX,Int.one_mul];simp
def Bz(m:Nat):0<((2 ^ m:Nat):Int):=Int.ofNat_lt.2 (Nat.two_pow_pos m)
theorem Nx{x:Int}(h:0<(n:Int)):∃u:Nat,x%(n:Int)=(u:Int)/\u<n:=by
 have h1:=qu (y:=x) h;refine⟨(x%(n:Int)).toNat,(Int.toNat_of_nonneg h1.1).symm,?_⟩;omega
def KS:a&&&b=a↔Sub a b:=by
 constructor
 .intro h f hf
  have:(a&&&b).testBit f=true:=by rw[h];exact hf
  rw[Nat.testBit_and,hf,XV] at this;exact this
 .intro h
  refine Nat.eq_of_testBit_eq λf=>?_
  rw[Nat.testBit_and];cases e:a.testBit f with
  |false=>rfl
  |true=>rw[h f e];rfl
section
variable {cn:Cn}{ds:List D}{M:MH}{Q:DK}{c:CA}{S:Addr}
def DC(u:cn.F.getD 0 'd'=iS)(h:oE ds M Q):wSs cn oC (fin Q) (ai ["","","",""] ds) M:=by
 obtain⟨p,ts,h,g,rfl,hp,z,q⟩:=h;show wSs cn oC (fin Q) [↑p,some (.int h),some (.int g),none] M;have body:∀(E:cP) (t:CT) (j:MH),t.ok->(∀f,ad j f->t.carried h g=true->E.nx [↑p,some (.int h),some (.int g),some t.told] f)->(∀f,ad j f->t.carried h g=false->E.rt (.bl false) f) ->
   wSs cn iR E [↑p,some (.int h),some (.int g),some t.told] j:=by
  intro E t j ht A B;unfold iR;simp! only[List.set,u];refine⟨t,h,g,rfl,ht,λf l=>?_⟩;simp! only[];cases b:t.carried h g with
  |true=>exact A f l b
  |false=>exact B f l b
 have r:∀(xs:List CT) (v:Zz) (j:MH),(∀t∈xs,t.ok)->ad M j->(∀M',ad M M'->Q (.bl (xs.all (CT.carried h g))) M') ->
   ar (λM'=>M' p=some (.lst (ts.map CT.told))) (.nm 3) (wSs cn iR) { nx:=wSs cn lj (fin Q),rt:=Q } (xs.map CT.told) [↑p,some (.int h),some (.int g),v] j:=by
  intro xs;induction xs with
  |nil=>
   intro v j _ o k;rw[XA,ar];unfold lj;simp! only[];exact k j o
  |cons t xs C=>
   intro v j ht o k;rw[YL,ar];refine body _ t j (ht t (.head _)) (λf l hb=>?_) (λf l hb=>?_)
   .refine⟨o.trans l _ _ hp,C _ f (λt h=>ht t (.tail _ h)) (o.trans l) λM' e'=>?_⟩
    have:=k M' e'
    rw[XS,hb,XV] at this;exact this
   .have:=k f (o.trans l)
    rw[XS,hb,Bool.false_and] at this;exact this
 unfold oC;simp! only[List.set,hp];exact r ts none M z (ad.refl M) q
end
theorem BA{a_:Zy}(h1:b<2 ^ m)(c:n<2 ^ m):dz a_ a b n<2 ^ m:=by
 refine Nat.lt_pow_two_of_testBit _ λf hf=>?_
 unfold dz;have g:b.testBit f=false:=Nat.testBit_lt_two_pow (ZS h1 (Nat.pow_le_pow_right 'b' hf));rw[Nat.testBit_or,aB,g,XG];refine ZQ λh=>?_
 have:=(ky _ _ _ _).2 f h
 rw[aw,YZ] at this
 have:=jI c this.1
 omega
theorem Sub.antisymm(h:Sub a b)(h':Sub b a):a=b:=by
 refine Nat.eq_of_testBit_eq λf=>?_
 cases e:a.testBit f with
 |true=>exact(h f e).symm
 |false=>
  cases e':b.testBit f with
  |false=>rfl
  |true=>rw[h' f e'] at e;cases e
theorem Sub.zero(a:Nat):Sub 0 a:=λf h=>by rw[Nat.zero_testBit] at h;cases h
def cnt(m n:Nat):Nat:=(List.range m).countP λf=>n.testBit f
theorem wK{p q:Nat->Bool}{f:Nat}(hp:p f=false)(hq:q f=true)(h:∀x,p x=true->q x=true):∀{l:Zj},f∈l->l.countP p<l.countP q
 |[],hf=>by cases hf
 |a::l,hf=>by
  have le:l.countP p<=l.countP q:=List.countP_mono_left λx _=>h x
  rw[List.countP_cons,List.countP_cons];rcases YB.1 hf with rfl | hf
  .rw[hp,hq];simp;omega
  .have:=wK hp hq h hf
   cases e:p a with
   |true=>rw[h a e];simp;omega
   |false=>
    cases q a with
    |true=>simp;omega
    |false=>simp;omega
def BB(h:Sub a b):cnt m a<=cnt m b:=List.countP_mono_left λf _=>h f
def BC(m n:Nat):cnt m n<=m:=by
 have:=List.countP_le_length (p:=λf=>n.testBit f) (l:=List.range m)
 rw[ZJ] at this;exact this
def BD(h:Sub a b)(g:a≠b)(hb:b<2 ^ m):cnt m a<cnt m b:=by
 have:∃f,a.testBit f=false/\b.testBit f=true:=by
  refine Classical.byContradiction λz=>g (h.antisymm λf hf=>?_)
  cases e:a.testBit f with
  |true=>rfl
  |false=>exact absurd ⟨f,e,hf⟩ z
 obtain⟨f,h1,c⟩:=this;exact wK h1 c h (ZW.2 (jI hb c))
def aZ(a_:Zy)(c_ wide narrow known:Nat):Nat×Nat:=(dz a_ known wide c_,dz a_ (dz a_ known wide c_) narrow c_)
def bK(x:Nat×Nat):D:=.tup [⇑x.1,⇑x.2]
structure BE (a_:Zy) (c_ wide narrow known:Nat) (ps:Zp):Prop where
 first:ps[0]?=some (aZ a_ c_ wide narrow known)
 next:∀i x y,ps[i]?=some x->ps[i+1]?=some y->y=aZ a_ c_ wide narrow x.2/\y≠x
structure Fv (a_:Zy) (c_ wide narrow known:Nat) (ps:Zp):Prop extends BE a_ c_ wide narrow known ps where
 last:∀x,ps.getLast?=some x->aZ a_ c_ wide narrow x.2=x
section
variable {a_:Zy}{c_ wide narrow known m:Nat}
def zt(h1:c_<2 ^ m)(c:wide<2 ^ m)(f:narrow<2 ^ m)(known:Nat):(aZ a_ c_ wide narrow known).1<2 ^ m/\(aZ a_ c_ wide narrow known).2<2 ^ m:=⟨BA c h1,BA f h1⟩
def qw(m:Nat)(x:Nat×Nat):Nat:=cnt m x.1+(m-cnt m x.2)
theorem KU(m:Nat)(x:Nat×Nat):qw m x<=2*m:=by
 unfold qw
 have:=BC m x.1
 omega
theorem KW{x:Nat×Nat}(h1:Sub y.1 x.1)(c:Sub x.2 y.2)(f:y≠x)(g:x.1<2 ^ m)(j:y.2<2 ^ m):qw m y<qw m x:=by
 unfold qw;have l:=BB (m:=m) h1;have o:=BB (m:=m) c;have p:=BC m y.2;by_cases e:y.1=x.1
 .have k:x.2≠y.2:=λz=>f (Prod.ext e z.symm)
  have:=BD c k j
  omega
 .have:=BD h1 e g
  omega
end
theorem Sub.le(h:Sub a b):a<=b:=by
 rw[←KS.2 h];exact Nat.and_le_right
def mj:Ss:=#v[.ret (.var 5)]
def ml:Ss:=#v[.set 6 (.fn 0 #v[.var 0,.var 1,.ix (.var 6) (.int 1),.var 3,.var 4])]
def mn:Ss:=.cons (.expr (.mt .append (.var 5) #v[.var 6])) ml
def mo:Ss:=.cons (.while (.cmp .NotEq (.var 6) (.ix (.var 5) (.neg (.int 1)))) mn) mj
def mq:Ss:=.cons (.set 6 (.fn 0 #v[.var 0,.var 1,.ix (.ix (.var 5) (.neg (.int 1))) (.int 1),.var 3,.var 4])) mo
def jU:Ss:=.cons (.set 5 (.lst #v[.fn 0 #v[.var 0,.var 1,.var 2,.var 3,.var 4]])) mq
def nv:Ss:=#v[.ret (.tup #v[.var 5,.fn 0 #v[.var 0,.var 1,.var 4,.var 5]])]
def lm:Ss:=.cons (.set 5 (.fn 0 #v[.var 0,.var 1,.var 3,.var 2])) nv
def kA(c:CA)(S:Addr):az:=λds M Q=>∃(a:Addr) (m:Nat) (a_:Zy) (c_ known wide narrow:Nat),ds=[.ref a,⇑c_,⇑known,⇑wide,⇑narrow]/\bm c S M a m a_/\a_.length<64/\m<64/\c_<2 ^ m/\wide<2 ^ m/\narrow<2 ^ m /\
 ∀M',ad M M'->Q (bK (aZ a_ c_ wide narrow known)) M'
def kB(c:CA)(S:Addr):az:=λds M Q=>∃(a:Addr) (m:Nat) (a_:Zy) (c_ known wide narrow:Nat),ds=[.ref a,⇑c_,⇑known,⇑wide,⇑narrow]/\bm c S M a m a_/\a_.length<64/\m<64/\c_<2 ^ m/\wide<2 ^ m/\narrow<2 ^ m /\
 (∀k k':Nat,Sub k k'->Sub (aZ a_ c_ wide narrow k').1 (aZ a_ c_ wide narrow k).1/\Sub (aZ a_ c_ wide narrow k).2 (aZ a_ c_ wide narrow k').2)/\Sub known (aZ a_ c_ wide narrow known).2/\∀p ps x M',M p=none->ad M M'->M' p=some (.lst ((ps++[x]).map bK))->Fv a_ c_ wide narrow known (ps++[x])->Q (.ref p) M'
def oF(ps:Zp)(x:Nat×Nat):de ((ps++[x]).map bK) (-1)=some (.tup [⇑x.1,⇑x.2]):=by
 rw[ZL];exact Gd _ _
def KY(x y:Nat×Nat):bg (bK x) (bK y)=decide (x=y):=by
 unfold bK;rw[bg,cY,cY,cY,av,av,XU];by_cases h:x=y
 .subst h;simp
 .rw[ZQ h]
  cases h1:((x.1:Int)==(y.1:Int)) with
  |false=>rfl
  |true=>
   rw[XV,ZR];intro z;have h1:=eq_of_beq h1;exact h (Prod.ext (Int.ofNat_inj.1 h1) (Int.ofNat_inj.1 z))
def wL(x:Nat×Nat):bc (bK x)=true:=rfl
def Ie(x:Nat×Nat):gE (bK x)<=30:=by
 unfold bK;rw[gE,cU,cU,cU,ax,ax];decide
section
variable {cn:Cn}{ds:List D}{M:MH}{Q:DK}{c:CA}{S Z:Addr}
def zu(f:cn.F.getD 0 'd'=iO c S)(h:kA c S ds M Q):wSs cn lm (fin Q) (ai ["","","","","",""] ds) M:=by
 obtain⟨a,m,a_,c_,known,wide,narrow,rfl,A,hn,hm,g,hw,hv,q⟩:=h;show wSs cn lm (fin Q) [↑a,~~~c_,~~~known,~~~wide,~~~narrow,none] M;unfold lm;simp! only[List.set,f];refine⟨a,m,a_,c_,wide,known,rfl,A,hn,hm,g,hw,λM1 e1=>?_⟩;unfold nv;simp! only[List.set,f];exact⟨a,m,a_,c_,narrow,_,rfl,A.ext e1,hn,hm,g,hv,λM2 j=>q M2 (e1.trans j)⟩
theorem xi(r:cn.F.getD 0 'd'=kA c S)(h:kB c S ds M Q):wSs cn jU (fin Q) (ai ["","","","","","",""] ds) M:=by
 obtain⟨a,m,a_,c_,known,wide,narrow,rfl,A,hn,hm,l,hw,hv,hr,hk,q⟩:=h;show wSs cn jU (fin Q) [↑a,~~~c_,~~~known,~~~wide,~~~narrow,none,none] M;have hsz:(2000:Nat)<sizeLine:=by decide
 have J:=zt (a_:=a_) l hw hv;unfold jU;simp! only[List.set,r];refine⟨a,m,a_,c_,known,wide,narrow,rfl,A,hn,hm,l,hw,hv,λM1 e1 p hp=>?_⟩;have L:M p=none:=e1.free hp;have t:ad M (ae M1 p (.lst [bK (aZ a_ c_ wide narrow known)])):=e1.then hp;have u:ae M1 p (MO.lst [bK (aZ a_ c_ wide narrow known)]) p=some (.lst (([]++[aZ a_ c_ wide narrow known]).map bK)):=ab;generalize ae M1 p (MO.lst [bK (aZ a_ c_ wide narrow known)])=M2 at *;clear e1 hp;clear M1;unfold mq;simp! only[List.set,r,u,oF,cm];refine⟨a,m,a_,c_,_,wide,narrow,rfl,A.ext t,hn,hm,l,hw,hv,λM3 e3=>?_⟩;have W:=e3 _ _ u;have B:=t.trans e3;clear t u e3;clear M2;unfold mo;show k7 _ _ _ _ _;refine⟨λk σ M'=>∃(g_:Zp) (x:Nat×Nat),qw m x=k/\σ=[↑a,~~~c_,~~~known,~~~wide,~~~narrow,↑p,some (bK (aZ a_ c_ wide narrow x.2))] /\
  ad M M'/\M' p=some (.lst ((g_++[x]).map bK))/\(∃o,x=aZ a_ c_ wide narrow o/\Sub o x.2)/\g_.length+qw m x<=2*m/\BE a_ c_ wide narrow known (g_++[x]),?_,?_⟩
 .refine⟨_,[],_,rfl,rfl,B,W,⟨known,rfl,hk⟩,?_,rfl,?_⟩
  .have:=KU m (aZ a_ c_ wide narrow known)
   simpa using this
  .intro i x y h1 f
   cases i with
   |zero=>cases f
   |succ i=>cases f
 rintro k σ M' ⟨g_,x,rfl,rfl,O,C,⟨o,hx,E⟩,j_,R⟩;have g:∀K:Bool->MH->Prop,K (!decide (aZ a_ c_ wide narrow x.2=x)) M'->wT cn (.cmp .NotEq (.var 6) (.ix (.var 5) (.neg (.int 1)))) [↑a,~~~c_,~~~known,~~~wide,~~~narrow,↑p,some (bK (aZ a_ c_ wide narrow x.2))] M' K:=by
  intro K P;simp! only[List.set,C,oF];rw[←KY] at P;exact⟨⟨wL _,wL x,Ie _⟩,P⟩
 refine g _ ?_;by_cases j:aZ a_ c_ wide narrow x.2=x
 .rw[YW j,Bool.not_true,aR]
  dsimp only;unfold mj;simp! only[List.set];refine q p g_ x M' L O C ⟨R,λy hy=>?_⟩;rw[List.getLast?_append] at hy;have:x=y:=by simpa using hy
  subst this;exact j
 .rw[ZQ j,Bool.not_false,bh]
  have mono:=hr _ _ E;rw[←hx] at mono;have hb:=J o;rw[←hx] at hb;have G:=KW (m:=m) mono.1 mono.2 j hb.1 (J x.2).2;have Y:((g_++[x]).map bK).length=g_.length+1:=by rw[ZF,ZK];rfl
  refine⟨λj' Qu=>∃k',k'<qw m x/\_,λj' Qu h=>h,?_⟩;unfold mn;simp! only[List.set,C];refine⟨rfl,by omega,?_⟩;have T:ad M (ae M' p (.lst ((g_++[x]).map bK++[bK (aZ a_ c_ wide narrow x.2)]))):=O.put L;have g5:ae M' p (MO.lst ((g_++[x]).map bK++[bK (aZ a_ c_ wide narrow x.2)])) p=some (.lst ((g_++[x]++[aZ a_ c_ wide narrow x.2]).map bK)):=by
   rw[ab,ZL (l₁:=g_++[x])];rfl
  generalize ae M' p (MO.lst ((g_++[x]).map bK++[bK (aZ a_ c_ wide narrow x.2)]))=M5 at *;unfold ml;simp! only[List.set,r,bK,cm];refine⟨a,m,a_,c_,_,wide,narrow,rfl,A.ext T,hn,hm,l,hw,hv,λM6 U=>?_⟩;refine⟨_,G,g_++[x],aZ a_ c_ wide narrow x.2,rfl,rfl,T.trans U,U _ _ g5,⟨x.2,rfl,mono.2⟩,by rw[ZK];simp;omega,?_,?_⟩
  .have h0:0<(g_++[x]).length:=by simp
   rw[ZE h0];exact R.first
  .intro i y z h1 f
   have hi:i+1<(g_++[x]++[aZ a_ c_ wide narrow x.2]).length:=(YD.mp f).1;simp only[ZK,YJ,YV] at hi;by_cases V:i+1<(g_++[x]).length
   .rw[ZE 'a'] at h1
    rw[ZE V] at f;exact R.next i y z h1 f
   .simp only[ZK,YJ,YV] at V
    have I:i=g_.length:=by omega
    subst I;have hy:y=x:=by
     rw[ZE (by simp),ZH 'a'] at h1;simpa using h1.symm
    have hz:z=aZ a_ c_ wide narrow x.2:=by
     rw[ZH (by simp)] at f;simpa using f.symm
    subst hy hz;exact⟨rfl,j⟩
end
def vC(a_:Zy)(c_ told g s:Nat):Prop:=Sub told s/\∀x∈a_,c_.testBit x.1=true->bw s g x=true->s.testBit x.1=true
def jM(a_:Zy)(c_ told g n:Nat):Prop:=vC a_ c_ told g n/\∀s,vC a_ c_ told g s->Sub n s
theorem sw{a_:Zy}{g told c_:Nat}:∀(k step c left:Nat),left<k->(∀f,left.testBit f=(c_.testBit f && !c.testBit f))->Sub told c->(∀s,vC a_ c_ told g s->Sub c s) ->
  jM a_ c_ told g (c|||ag ((c8 a_ g k step c left).map (·.1)))
 |0,_,_,_,h,_,_,_=>absurd h (Nat.not_lt_zero _)
 |k+1,step,c,left,hk,hl,ht,hc=>by
  rw[c8];by_cases e:aO a_ c g left=[]
  .rw[if_pos e]
   have z:c|||ag (([]:List (Nat×Nat×Nat)).map (·.1))=c:=by simp[ag]
   rw[z];refine⟨⟨ht,λx hx o q=>?_⟩,hc⟩;cases b:c.testBit x.1 with
   |true=>rfl
   |false=>
    have h1:left.testBit x.1=true:=by rw[hl,o,b];rfl
    cases f1:cE a_ c g x.1 with
    |none=>rw[ss f1 hx rfl] at q;cases q
    |some r=>
     have:=fO.2 ⟨h1,f1⟩
     rw[e] at this;cases this
  .rw[if_neg e]
   have p:=sw (a_:=a_) (g:=g) (told:=told) (c_:=c_) k (step+1) (c|||dk (aO a_ c g left)) (au left (dk (aO a_ c g left))) (by have:=sX e;omega) ?_ (ht.trans (Sub.or_l _ _)) ?_
   .refine cast (congrArg (jM a_ c_ told g) ?_) p
    refine Nat.eq_of_testBit_eq λf=>?_
    rw[Nat.testBit_or,Nat.testBit_or,Nat.testBit_or,aB,aB,ZL,ZM];have z:(dk (aO a_ c g left)).testBit f=decide (f∈(aO a_ c g left).map ((·.1)∘λ(x:Nat×Nat)=>(x.1,step,x.2))):=by
     unfold dk;rw[aB];rfl
    rw[z,Bool.or_assoc];congr 1;rw[←Bool.decide_or];simp only[YC]
   .intro f
    rw[aw,hl,Nat.testBit_or];cases c_.testBit f<;>cases c.testBit f<;>cases(dk (aO a_ c g left)).testBit f<;>rfl
   .intro s hs
    refine(hc s hs).or λf hf=>?_
    obtain⟨r,hr⟩:=zl.1 hf;obtain⟨l,j⟩:=fO.1 hr;obtain⟨x,hx,rfl,hq⟩:=Am j;rw[hl,YZ] at l;exact hs.2 x (YU hx) l.1 (mS (hc s hs) hq)
def cr(a_:Zy)(g told c_:Nat):jM a_ c_ told g (dz a_ g told c_):=
 sw _ 1 told _ (YM _) (λf=>aw _ _ _) (Sub.refl _) λs hs=>hs.1
def kC:az:=λds M Q=>∃(p:Addr) (m:Nat) (c:List D) (a_:Zy) (told g:Nat),ds=[.ref p,⇑told,⇑g]/\M p=some (.lst c)/\b8 M c a_/\bV m a_/\told<2 ^ m /\
 ∀(n:Nat) M',bu a_ told g n->n<2 ^ m->ad M M'->Q (⇑n) M'
def Jg(ns:Zj):bo (nats ns)=true:=by rw[jL];exact ww _
end SH
namespace SG
open PySem L2 DD
open SH
variable {m:Nat}{a_:Zy}
section
variable {cn:Cn}{c:CA}{S:Addr}{ds:List D}{M:MH}{Q:DK}
def o8:Ss:=#v[.ret (.var 3)]
def o9:Ss:=#v[.setC 2 1 (.var 6) (.nm 6) (.seq (.var 2)) (.yes (.cmp .NotEq (.var 6) (.var 5)))]
def ph:Ss:=.cons (.set 4 (.bin .BitOr (.var 4) (.fn 0 #v[.var 5]))) o9
def pi:Ss:=.cons (.expr (.mt .append (.var 3) #v[.var 5])) ph
def pj:Ss:=.cons (.set 5 (.ix (.comp 1 (.var 6) (.nm 6) (.seq (.var 2)) (.yes (.val (.fn 1 #v[.var 6,.var 1,.var 4])))) (.int 0))) pi
def pk:Ss:=.cons (.while (.cmp .Gt (.bi .len #v[.var 2]) (.int 0)) pj) o8
def pq:Ss:=.cons (.set 4 (.int 0)) pk
def pv:Ss:=.cons (.set 3 (.lst .nil)) pq
def pA:Ss:=.cons (.set 2 (.fn 2 #v[.fn 3 #v[.var 1]])) pv
def m6:Ss:=.cons (.set 1 (.comp 1 (.fn 0 #v[.comp 1 (.ix (.var 7) (.int 0)) (.nm 7) (.seq (.mu "leaned" (.var 0) #v[.var 6])) .no]) (.nm 6) (.rg1 #v[.mu0 "how_many" (.var 0)]) .no)) pA
def ib(a_:Zy)(f:Nat):Nat:=ag ((kz a_ f).map λk=>k.1.toNat)
def bO(a_:Zy)(m:Nat):List Nat:=(List.range m).map (ib a_)
def a8(a_:Zy)(m:Nat):List (List Nat):=lh (bO a_ m) (bI (aY (bH (bO a_ m) m)) m m) (bI (aY (bH (bO a_ m) m)) m m).length 0
def rl(c:CA)(S:Addr):az:=λds M Q=>∃(a:Addr) (m:Nat) (a_:Zy),ds=[.ref a]/\bm c S M a m a_/\∀p M',M p=none->ad M M'->M' p=some (.lst ((a8 a_ m).map aA))->Q (.ref p) M'
def oG(ok:bV m a_)(f:Nat):∀k∈kz a_ f,0<=k.1/\k.1<(m:Int):=by
 intro k hk;unfold kz at hk;rcases((oB _ [] List.nodup_nil).2 k).1 hk with z | z
 .cases z
 .unfold sv at z
  obtain⟨r,_,b⟩:=List.mem_flatMap.1 z;obtain⟨y,hy,rfl⟩:=List.mem_map.1 b;cases e:a_[r]? with
  |none=>rw[e] at hy;cases hy
  |some x=>
   rw[e] at hy;have hy:y∈bd x:=hy;unfold bd at hy;obtain⟨t,ht,a⟩:=List.mem_flatMap.1 hy;exact l0 ((ok.fit x (YU e)).2.2 t ht) y a
theorem zv(ok:bV m a_):∀f g,gZ (bO a_ m) f g->g<(bO a_ m).length:=by
 intro f g h;unfold gZ at h;have hl:(bO a_ m).length=m:=by unfold bO;rw[ZF,ZJ]
 rw[hl];cases e:(bO a_ m)[f]? with
 |none=>rw[List.getD_eq_getElem?_getD,e] at h;exact absurd h (by rw[Option.getD_none,Nat.zero_testBit];exact YF)
 |some x=>
  rw[List.getD_eq_getElem?_getD,e,XJ] at h;unfold bO at e;rw[ZG] at e;cases e2:(List.range m)[f]? with
  |none=>rw[e2] at e;cases e
  |some f'=>
   rw[e2] at e;cases e;unfold ib at h;rw[aB] at h;obtain⟨k,hk,rfl⟩:=List.mem_map.1 (XR h)
   have:=oG ok f' k hk
   omega
theorem BF:∀x p:List Nat,cY (nats x) (nats p)=decide (x=p)
 |[],[]=>rfl
 |[],_::_=>rfl
 |_::_,[]=>rfl
 |a::x,b::p=>by
  have f:=BF x p;show cY (⇑a::nats x) (⇑b::nats p)=_;rw[cY,av,f];by_cases h:a=b
  .subst h;simp
  .rw[beq_false_of_ne 'a'];simp[h]
def rn(x p:Zj):bg (aA x) (aA p)=decide (x=p):=by
 unfold aA;rw[bg,BF]
def wM(x:Zj):bc (aA x)=true:=by unfold aA;rw[bc];exact Jg x
def Ig(x:Zj):gE (aA x)<=30:=by
 unfold aA;rw[gE,jL,sR];decide
def Jh(p:Zj)(d:D):Bool:=!bg d (aA p)
def Ny:D->D
 |.tup [x,_]=>x
 |_=>.non
def BG{a:List (Int×Bool)}(h:∀y∈a,0<=y.1/\y.1<(m:Int)):(a.map pD).map Ny=nats (a.map λy=>y.1.toNat):=by
 unfold nats;rw[ZM,ZM];refine ZN λy hy=>?_
 show D.int y.1=D.int ((y.1.toNat:Nat):Int);rw[Int.toNat_of_nonneg (h y hy).1]
theorem Av(f0:cn.F.getD 0 'd'=ci)(f1:cn.F.getD 1 'd'=mf)(f2:cn.F.getD 2 'd'=mi)(f3:cn.F.getD 3 'd'=mh)
  (hT:cn.T S "how_many" = some (d9 c S)) (hL:cn.T S "leaned" = some (jh c S)) (h:rl c S ds M Q):wSs cn m6 (fin Q) (ai ["","","","","",""] ds) M:=by
 obtain⟨a,m,a_,rfl,A,q⟩:=h;show wSs cn m6 (fin Q) [↑a,none,none,none,none,none] M;have hsz:(4000:Nat)<sizeLine:=by decide
 obtain⟨ok,s_,p1,p2,p3,N_,N',Qa,h1,-⟩:=A.ext (ad.refl M);have hm:=ok.most;unfold m6;simp! only[List.set,h1,hT,List.cons_append,List.nil_append,List.replicate];refine⟨rfl,a,m,a_,rfl,A,⟨by omega,by omega⟩,?_⟩;rw[eQ];have X4:∀f,f<m->∀k∈kz a_ f,0<=k.1/\k.1<(m:Int):=λf hf k hk=>oG ok f k hk
 have run:∀(k:Nat) (j:MH) (Z:DK),k<m->ad M j->(∀E,ad j E->Z (.int ((ib a_ k:Nat):Int)) E) ->
   wE cn (.fn 0 (.cons (.comp 1 (.ix (.var 7) (.int 0)) (.nm 7) (.seq (.mu "leaned" (.var 0) (.cons (.var 6) .nil))) .no) .nil)) [↑a,none,none,none,none,none,~~~k] j Z:=by
  intro k j Z hk r hZ;have A5:=A.ext r;simp! only[List.set,r _ _ h1,hL,f0,List.cons_append,List.nil_append,List.replicate];refine⟨rfl,a,m,a_,k,rfl,A5,by omega,λp u V hp C h8 h9 Y=>?_⟩;simp! only[Y];refine cT (f:=Ny) (ok:=λσ=>∃v,σ=[↑a,none,none,none,none,none,~~~k,v]) [] _ ⟨none,rfl⟩ ?_ ?_
  .intro d hd σ g_ rest ⟨v,hv⟩ k0
   subst hv;obtain⟨y,hy,rfl⟩:=List.mem_map.1 hd;have O:=k0 _ ⟨some (pD y),rfl⟩;rw[aH];simp! only[List.set,pD,cf];exact⟨Y,O⟩
  .have Vc:∀y∈V,0<=y.1/\y.1<(m:Int):=λy hy=>X4 k 'a' y (h8.mem_iff.1 hy)
   rw[List.nil_append,BG Vc];intro P QY;have I:ad j (ae u P (.lst (nats (V.map λy=>y.1.toNat)))):=C.then QY;have g7:ae u P (MO.lst (nats (V.map λy=>y.1.toNat))) P=some (.lst (nats (V.map λy=>y.1.toNat))):=ab;generalize ae u P (MO.lst (nats (V.map λy=>y.1.toNat)))=E at *;refine⟨_,_,E,rfl,.inr ⟨P,rfl,.inl ⟨g7,rfl⟩⟩,λf hf=>?_,?_⟩
   .obtain⟨y,hy,rfl⟩:=List.mem_map.1 hf
    have:=Vc y hy
    omega
   .have es:ag (V.map λy=>y.1.toNat)=ib a_ k:=by
     refine Nat.eq_of_testBit_eq λi=>?_
     unfold ib;rw[aB,aB,decide_eq_decide];exact(h8.map _).mem_iff
    rw[es];exact hZ E I
 have step:∀(g:MH->Prop) (F:List D->MH->Prop),(∀M',g M')->(∀j,ad M j->F (nats (bO a_ m)) j)->∀(n k:Nat),k+n=m->∀(v:Zz) (j:MH),ad M j ->
   aH g (.nm 6) (λx M Q=>Q true M) (wE cn (.fn 0 (.cons (.comp 1 (.ix (.var 7) (.int 0)) (.nm 7) (.seq (.mu "leaned" (.var 0) (.cons (.var 6) .nil))) .no) .nil))) F (nats (List.range' k n)) (nats ((List.range k).map (ib a_))) [↑a,none,none,none,none,none,v] j:=by
  intro g F hg K n;induction n with
  |zero=>
   intro k hk v j r;rw[show nats (List.range' k 0)=[] from rfl,aH];have:k=m:=by omega
   subst this;exact K j r
  |succ n ih=>
   intro k hk v j r;rw[show nats (List.range' k (n+1))=⇑k::nats (List.range' (k+1) n) from rfl,aH];show wE cn (.fn 0 (.cons (.comp 1 (.ix (.var 7) (.int 0)) (.nm 7) (.seq (.mu "leaned" (.var 0) (.cons (.var 6) .nil))) .no) .nil)) [↑a,none,none,none,none,none,~~~k] j λy M2=>g M2/\aH g (.nm 6) (λx M Q=>Q true M) _ F (nats (List.range' (k+1) n)) (nats ((List.range k).map (ib a_))++[y]) [↑a,none,none,none,none,none,~~~k] M2
   refine run k j _ 'a' r λE I=>⟨hg _,?_⟩
   rw[show nats ((List.range k).map (ib a_))++[.int ((ib a_ k:Nat):Int)]=nats ((List.range (k+1)).map (ib a_)) by rw[List.range_succ,ZL];unfold nats;rw[ZL];rfl];exact ih (k+1) 'a' _ E (r.trans I)
 rw[List.range_eq_range'];refine step _ _ (λ_=>trivial) (λj r=>?_) m 0 'a' none M (ad.refl M);intro B P6;have J:(bO a_ m).length=m:=by unfold bO;rw[ZF,ZJ]
 have Qy:M B=none:=r.free P6;have C:ad M (ae j B (.lst (nats (bO a_ m)))):=r.then P6;have Y:ae j B (MO.lst (nats (bO a_ m))) B=some (.lst (nats (bO a_ m))):=ab;generalize ae j B (MO.lst (nats (bO a_ m)))=u at *;have W:Walk (bO a_ m) (bH (bO a_ m) m):=by
  have low:∀f g,gZ (bO a_ m) f g->g<(bO a_ m).length:=zv ok;refine⟨by rw[gM],low,λf g hf=>?_⟩
  have:=Fg low (f:=f) (g:=g) hf
  rw[J] at this;exact this
 have a6:=J;unfold pA;simp! only[List.set,f2,f3];refine⟨B,_,rfl,Y,by omega,λpr E a0 I g7=>?_⟩;rw[J] at g7;refine⟨pr,_,_,rfl,g7,W,by omega,λG M8 VU U g8=>?_⟩;rw[J] at g8;have aa:=C.trans (I.trans U);have X5:=(I.trans U) _ _ Y;have a7:M G=none:=(C.trans I).free VU;clear r P6 I U Y g7 a0 VU run step;generalize Rg:bI (aY (bH (bO a_ m) m)) m m=ps at *;unfold pv;simp! only[List.set];intro t Rf;have ne:G≠t:=λz=>by rw[z,Rf] at g8;cases g8
 have ac:B≠t:=λz=>by rw[z,Rf] at X5;cases X5
 have al:M t=none:=aa.free Rf;have e9:=aa.then Rf (o:=.lst []);have g9:ae M8 t (MO.lst []) t=some (.lst ([].map aA)):=ab;have a1:ae M8 t (MO.lst []) G=some (.lst (ps.map aA)):=by rw[aU ne];exact g8
 have a2:ae M8 t (MO.lst []) B=some (.lst (nats (bO a_ m))):=by rw[aU ac];exact X5
 generalize ae M8 t (MO.lst [])=M9 at *;unfold pq;simp! only[List.set];unfold pk;show k7 _ _ _ _ _;refine⟨λn σ M'=>∃(dn:Nat) (G:Addr) (out:List (List Nat)) (v5:Zz),σ=[↑a,↑B,↑G,↑t,~~~dn,v5]/\ad M M'/\G≠t/\M' G=some (.lst ((ps.filter (nd dn)).map aA))/\M' t=some (.lst (out.map aA))/\M' B=some (.lst (nats (bO a_ m))) /\
  (ps.filter (nd dn)).length=n/\Dn (bH (bO a_ m) m) m dn/\out++lh (bO a_ m) ps n dn=lh (bO a_ m) ps ps.length 0/\out.length+n=ps.length,?_,?_⟩
 .have ef:ps.filter (nd 0)=ps:=List.filter_eq_self.2 λp _=>by unfold nd;rw[Nat.zero_testBit];rfl
  exact⟨ps.length,0,G,[],none,rfl,e9,ne,by rw[ef];exact a1,g9,a2,by rw[ef],Dn.zero,rfl,by simp⟩
 rintro n σ M' ⟨dn,G,out,v5,rfl,e1,a3,h2,h3,h4,hn,hd,hs,ho⟩;have X6:=By (aY (bH (bO a_ m) m)) m m;rw[Rg] at X6;have ap:∀K:Bool->MH->Prop,K (decide (0<n)) M'->wT cn (.cmp .Gt (.bi .len (.cons (.var 2) .nil)) (.int 0)) [↑a,↑B,↑G,↑t,~~~dn,v5] M' K:=by
  intro K hK;simp! only[h2];rw[ZF,hn];rw[show decide ((0:Int)<((n:Nat):Int))=decide (0<n) by rw[decide_eq_decide];omega];exact hK
 refine ap _ ?_;cases n with
 |zero=>
  rw[show decide (0<0)=false from rfl,aR];dsimp only;unfold o8;simp! only[];refine q t M' al e1 ?_;rw[h3];have:out=a8 a_ m:=by
   unfold a8;rw[Rg,←hs];simp[lh]
  rw[this]
 |succ n=>
  rw[show decide (0<n+1)=true from YW 'a',bh];have st:=zq W (dn:=dn) (n:=n) (by rw[J];exact hd) (by rw[J,Rg];exact hn);simp only[J,Rg] at st;obtain⟨p,s1,s2,s3,s4,s5,s6,s7⟩:=st;have R:∀y∈ps,∀x∈y,x<m:=λy hy x hx=>by
   rw[←Rg] at hy;have qv:=W.eqv;rw[J] at qv;obtain⟨f,_,_,rfl⟩:=(jf qv).1 hy;exact(da.1 hx).1
  refine⟨λj' Qu=>∃k',k'<n+1/\_,λj' Qu h=>h,?_⟩;have X7:∀(x:Zj) (j:MH) (Z:Bool->MH->Prop),j B=some (.lst (nats (bO a_ m)))->(∀y∈x,y<m)->(∀u,ad j u->Z (mX (bO a_ m) x dn) u) ->
    oZ cn (.yes (.val (.fn 1 (.cons (.var 6) (.cons (.var 1) (.cons (.var 4) .nil)))))) [↑a,↑B,↑G,↑t,~~~dn,v5,some (aA x)] j Z:=by
   intro x j Z g5 hx hZ;simp! only[f1];refine⟨x,_,B,dn,rfl,g5,λy hy=>by rw[J];exact hx y hy,by omega,λu C=>?_⟩;exact hZ u C
  have X8:∀(g:MH->Prop) (F:List D->MH->Prop),(∀j,ad M' j->g j)->∀(l:List (List Nat)),(∀y∈l,∀x∈y,x<m)->∀(g_:List D) (v:Zz) (j:MH),ad M' j->(∀u,ad M' u->F (g_++(l.filter λy=>mX (bO a_ m) y dn).map aA) u) ->
    aH g (.nm 6) (oZ cn (.yes (.val (.fn 1 (.cons (.var 6) (.cons (.var 1) (.cons (.var 4) .nil))))))) (wE cn (.var 6)) F (l.map aA) g_ [↑a,↑B,↑G,↑t,~~~dn,v5,v] j:=by
   intro g F hg l;induction l with
   |nil=>
    intro _ g_ v j r K;rw[XA,aH]
    have:=K j r
    rw[List.filter_nil,XA,ZA] at this;exact this
   |cons y l ih=>
    intro hy g_ v j r K;rw[YL,aH];refine X7 y j _ (r _ _ h4) (hy y (.head _)) λu C=>?_
    cases hb:mX (bO a_ m) y dn with
    |true=>
     rw[bh];refine⟨hg _ (r.trans C),ih (λz hz=>hy z (.tail _ hz)) (g_++[aA y]) _ u (r.trans C) λE I=>?_⟩
     have:=K E I
     rw[List.filter_cons,hb] at this;simpa using this
    |false=>
     rw[aR];refine⟨hg _ (r.trans C),ih (λz hz=>hy z (.tail _ hz)) g_ _ u (r.trans C) λE I=>?_⟩
     have:=K E I
     rw[List.filter_cons,hb] at this;simpa using this
  unfold pj;simp! only[List.set,List.cons_append,List.nil_append,List.replicate,h2];refine X8 _ _ (λj r=>r _ _ h2) (ps.filter (nd dn)) (λy hy=>R y (ZV.1 hy).1) [] none M' (ad.refl _) λj r=>?_
  obtain⟨rest,er⟩:∃rest,(ps.filter (nd dn)).filter (λy=>mX (bO a_ m) y dn)=p::rest:=by
   cases er:(ps.filter (nd dn)).filter (λy=>mX (bO a_ m) y dn) with
   |nil=>rw[er] at s4;cases s4
   |cons b l=>rw[er] at s4;cases s4;exact⟨l,rfl⟩
  rw[List.nil_append,er,YL];intro pc a4;rw[ab];have C:ad M' (ae j pc (.lst (aA p::rest.map aA))):=r.then a4;generalize ae j pc (MO.lst (aA p::rest.map aA))=u at *;simp only[cf];unfold pi;simp! only[List.set,C _ _ h3];refine⟨rfl,by rw[ZF];omega,?_⟩;have b1:ad M (ae u t (.lst (out.map aA++[aA p]))):=(e1.trans C).put al;have b2:ae u t (MO.lst (out.map aA++[aA p])) t=some (.lst ((out++[p]).map aA)):=by rw[ab,ZL];rfl
  have b3:ae u t (MO.lst (out.map aA++[aA p])) G=some (.lst ((ps.filter (nd dn)).map aA)):=by rw[aU a3];exact C _ _ h2
  have b4:ae u t (MO.lst (out.map aA++[aA p])) B=some (.lst (nats (bO a_ m))):=by rw[aU ac];exact C _ _ h4
  generalize ae u t (MO.lst (out.map aA++[aA p]))=E at *;unfold ph;simp! only[List.set,f0];refine⟨_,p,E,rfl,.inl ⟨rfl,rfl⟩,λx hx=>by have:=R p s2 x hx;omega,?_⟩;simp! only[dw];unfold o9;simp! only[List.set,List.cons_append,List.nil_append,List.replicate,b3];refine dD (p:=Jh p) (ok:=λσ=>∃v,σ=[↑a,↑B,↑G,↑t,some (.int ((dn|||ag p:Nat):Int)),some (aA p),v]) [] _ ⟨none,rfl⟩ ?_ ?_
  .intro d Rx σ g_ a5 ⟨v,hv⟩ k0
   subst hv;obtain⟨y,hy,rfl⟩:=List.mem_map.1 Rx;have O:=k0 _ ⟨some (aA y),rfl⟩;rw[show Jh p (aA y) = !decide (y=p) by unfold Jh;rw[rn]] at O;rw[aH];simp! only[List.set,rn];refine⟨⟨wM y,wM p,Ig y⟩,?_⟩;rw[rn];by_cases L:y=p
   .rw[YW L] at O ⊢
    rw[show g_++cond (!true) [aA y] []=g_ from ZA g_] at O;simp only[Bool.not_true,aR];exact⟨b3,O⟩
   .rw[ZQ L] at O ⊢
    simp only[Bool.not_false,bh];exact⟨b3,O⟩
  .have en:((ps.filter (nd dn)).map aA).filter (Jh p)=(ps.filter (nd (dn|||ag p))).map aA:=by
    rw[←s5,List.filter_map];congr 1;refine List.filter_congr λy _=>?_
    show(!bg (aA y) (aA p))=_;rw[rn];by_cases L:y=p<;>simp[L]
   rw[List.nil_append,en];intro P QY;have np:P≠t:=λz=>by rw[z,b2] at QY;cases QY
   have U:=ad.new QY (o:=.lst ((ps.filter (nd (dn|||ag p))).map aA));refine⟨n,by omega,dn|||ag p,P,out++[p],_,rfl,b1.trans U,np,ab,U _ _ b2,U _ _ b4,s6,s7,?_,by rw[ZK];simp;omega⟩;rw[←hs,lh,s1];simp
end
end SG
namespace SH
open PySem L2 DD
inductive P3 where
 |told
 |tru (turn step row:Nat)
 |fls (turn:Nat)
 |opn (step row:Nat)
def vD:Ss:=#v[.ret (.str "false")]
def ny:Ss:=.cons (.ite (.val (.fn 0 #v[.var 1,.var 2])) #v[.ret (.str "open")] .nil) vD
def lq:Ss:=.cons (.ite (.val (.fn 0 #v[.var 0,.var 2])) #v[.ret (.str "true")] .nil) ny
def zw(a b f:Nat):Str:=if a.testBit f=true then "true" else if b.testBit f=true then "open" else "false"
def kE:az:=λds M Q=>∃(a b f:Nat),ds=[⇑a,⇑b,⇑f]/\Q (.str (zw a b f)) M
section
variable {cn:Cn}{ds:List D}{M:MH}{Q:DK}{c:CA}{S Z:Addr}
theorem zx(g:cn.F.getD 0 'd'=cj)(h:kE ds M Q):wSs cn lq (fin Q) (ai ["","",""] ds) M:=by
 obtain⟨a,b,f,rfl,q⟩:=h;show wSs cn lq (fin Q) [~~~a,~~~b,~~~f] M;unfold zw at q;unfold lq;simp! only[g];refine⟨(a:Int),(f:Int),rfl,by omega,?_⟩;rw[cx];cases e:a.testBit f with
 |true=>rw[if_pos e] at q;exact q
 |false=>
  rw[if_neg (by rw[e];decide)] at q;simp only[aR];unfold ny;simp! only[g];refine⟨(b:Int),(f:Int),rfl,by omega,?_⟩;rw[cx];cases e:b.testBit f with
  |true=>rw[if_pos e] at q;exact q
  |false=>
   rw[if_neg (by rw[e];decide)] at q;exact q
end
end SH
namespace SP
open PySem L2 DD
open SH SG
variable {f a g' g n c_ h h' m narrow:Nat}{a_:Zy}{M' M:MH}{c:CA}
def Apart(ps:List (List Nat)):Prop:=ps.Pairwise λp q=>∀x∈p,x∉q
theorem wN{ls rs:Zj}(w:Walk ls rs):∀(n dn:Nat),Dn rs ls.length dn->Apart (lh ls (bI (aY rs) ls.length ls.length) n dn)/\(∀p∈lh ls (bI (aY rs) ls.length ls.length) n dn,∀x∈p,x<ls.length/\dn.testBit x=false)/\(lh ls (bI (aY rs) ls.length ls.length) n dn).length<=n
 |0,_,_=>⟨.nil,(λp hp=>nomatch hp),YG _⟩
 |n+1,dn,hd=>by
  rw[lh];cases e:(bI (aY rs) ls.length ls.length).find? (may ls dn) with
  |none=>exact⟨.nil,(λp hp=>nomatch hp),YN _⟩
  |some p=>
   have hp:=List.mem_of_find?_eq_some e;obtain⟨u,o,z⟩:=wN w n (dn|||ag p) (hd.next w hp);have q:=w.eqv;have hm:=List.find?_some e;obtain⟨x,t,A,rfl⟩:=(jf q).1 hp;obtain⟨l,ex⟩:=eg q t A;have hx:dn.testBit x=false:=by
    unfold may at hm;rw[YZ,ex] at hm
    have:=hm.1
    rw[List.headD_cons] at this;simpa using this
   have own:∀y∈cls (aY rs) ls.length x,y<ls.length/\dn.testBit y=false:=λy hy=>by
    obtain⟨b,j⟩:=da.1 hy;exact⟨b,by rw[←hd x y t b j];exact hx⟩
   refine⟨.cons (λr hr y hy k=>?_) u,λr hr=>?_,Nat.succ_le_succ z⟩
   .have:=(o r hr y k).2
    rw[Nat.testBit_or,aB,YW hy,Bool.or_true] at this;cases this
   .rcases YB.1 hr with rfl | hr
    .exact own
    .intro y hy
     obtain⟨b,j⟩:=o r hr y hy;rw[Nat.testBit_or,Bool.or_eq_false_iff] at j;exact⟨b,j.1⟩
def BH(ok:bV m a_):Walk (bO a_ m) (bH (bO a_ m) m):=by
 have b:(bO a_ m).length=m:=by unfold bO;rw[ZF,ZJ]
 have low:∀f g,gZ (bO a_ m) f g->g<(bO a_ m).length:=zv ok;refine⟨by rw[gM],low,λf g hf=>?_⟩
 have:=Fg low (f:=f) (g:=g) hf
 rw[b] at this;exact this
def uP(ok:bV m a_):Apart (a8 a_ m)/\(∀p∈a8 a_ m,∀x∈p,x<m)/\(a8 a_ m).length<=m:=by
 have j:(bO a_ m).length=m:=by unfold bO;rw[ZF,ZJ]
 have:=wN (BH ok) (bI (aY (bH (bO a_ m) m)) m m).length 0 Dn.zero
 rw[j] at this;obtain⟨a,b,d⟩:=this;refine⟨a,λp hp x hx=>(b p hp x hx).1,ZX d ?_⟩;unfold bI;rw[ZF];refine ZX (List.length_filter_le _ _) ?_;rw[ZJ];exact YG _
theorem jM.anti(s:Sub g g')(h:jM a_ c_ f g n)(h':jM a_ c_ f g' a):Sub a n:=
 h'.2 n ⟨h.1.1,λx hx b q=>h.1.2 x hx b (sr s q)⟩
def Aw(k k':Nat)(h:Sub k k'):Sub (aZ a_ c_ f narrow k').1 (aZ a_ c_ f narrow k).1/\Sub (aZ a_ c_ f narrow k).2 (aZ a_ c_ f narrow k').2:=by
 have a:Sub (aZ a_ c_ f narrow k').1 (aZ a_ c_ f narrow k).1:=jM.anti h (cr ..) (cr ..);exact⟨a,jM.anti a (cr ..) (cr ..)⟩
def oH(a_:Zy)(g told c_ f:Nat)(h:c_.testBit f=false):(dz a_ g told c_).testBit f=told.testBit f:=by
 obtain⟨a,b⟩:=cr a_ g told c_;cases e:told.testBit f with
 |true=>exact a.1 f e
 |false=>
  cases e2:(dz a_ g told c_).testBit f with
  |false=>rfl
  |true=>
   have:=b (told|||c_) ⟨Sub.or_l _ _,λx _ hx _=>by rw[Nat.testBit_or,hx,Bool.or_true]⟩ f e2
   rw[Nat.testBit_or,e,h] at this;cases this
def gy(told s u F:Nat):Nat:=au s F|||au u F|||(told&&&F)
def ji(told s F:Nat):Nat:=au s F|||(told&&&F)
def Wk(a_:Zy)(told s u:Nat)(p:Zj)(b u':Nat):Prop:=∃ps x,Fv a_ (ag p) (gy told s u (ag p)) (ji told s (ag p)) (au s (ag p)) (ps++[x])/\b=x.2/\u'=au x.1 x.2
def Dj(s u:Nat):Prop:=∀f,s.testBit f=true->u.testBit f=false
section
variable {a_:Zy}{told s u s' u' m:Nat}{p:Zj}
theorem Wk.np(h:Wk a_ told s u p s' u'):∃k x,aZ a_ (ag p) (gy told s u (ag p)) (ji told s (ag p)) k=x/\s'=x.2/\u'=au x.1 x.2:=by
 obtain⟨ps,x,R,h1,b⟩:=h;exact⟨_,x,R.last x (by rw[List.getLast?_append];rfl),h1,b⟩
theorem Wk.out(h:Wk a_ told s u p s' u')(dj:Dj s u)(hf:f∉p):s'.testBit f=s.testBit f/\u'.testBit f=u.testBit f:=by
 obtain⟨k,x,rfl,rfl,rfl⟩:=h.np;have b:(ag p).testBit f=false:=by rw[aB];exact ZQ hf
 have j:(aZ a_ (ag p) (gy told s u (ag p)) (ji told s (ag p)) k).2.testBit f=s.testBit f:=by
  unfold aZ;rw[oH _ _ _ _ _ b];unfold ji;rw[Nat.testBit_or,aw,Nat.testBit_and,b,XC,Bool.or_false,Bool.not_false,XU]
 have e1:(aZ a_ (ag p) (gy told s u (ag p)) (ji told s (ag p)) k).1.testBit f=(s.testBit f||u.testBit f):=by
  unfold aZ;rw[oH _ _ _ _ _ b];unfold gy;rw[Nat.testBit_or,Nat.testBit_or,aw,aw,Nat.testBit_and,b,XC,Bool.or_false,Bool.not_false,XU,XU]
 refine⟨j,?_⟩;rw[aw,e1,j];cases z:s.testBit f with
 |true=>rw[dj f z];rfl
 |false=>simp
theorem Wk.dj(h:Wk a_ told s u p s' u'):Dj s' u':=by
 obtain⟨k,x,-,rfl,rfl⟩:=h.np;intro f hf;rw[aw,hf,Bool.not_true,XC]
def iT(h:a<2 ^ m):au a f<2 ^ m:=XH (Sub.le λb hf=>by rw[aw,YZ] at hf;exact hf.1) h
theorem vE(hp:∀x∈p,x<m):ag p<2 ^ m:=Nat.lt_pow_two_of_testBit _ λi hi=>by
 rw[aB];exact ZQ λz=>by have:=hp i z;omega
def BI(hs:s<2 ^ m)(hu:u<2 ^ m)(ht:told<2 ^ m)(F:Nat):gy told s u F<2 ^ m/\ji told s F<2 ^ m:=
 ⟨Nat.or_lt_two_pow (Nat.or_lt_two_pow (iT hs) (iT hu)) (XH Nat.and_le_left ht),Nat.or_lt_two_pow (iT hs) (XH Nat.and_le_left ht)⟩
theorem Wk.lt(h:Wk a_ told s u p s' u')(hs:s<2 ^ m)(hu:u<2 ^ m)(ht:told<2 ^ m)(hp:∀x∈p,x<m):s'<2 ^ m/\u'<2 ^ m:=by
 obtain⟨k,x,e,rfl,rfl⟩:=h.np;have w:=BI (u:=u) hs hu ht (ag p)
 have:=zt (a_:=a_) (vE hp) w.1 w.2 k
 rw[e] at this;exact⟨this.2,iT this.1⟩
end
def Nz(s u b u' f:Nat):Bool:=(s.testBit f != b.testBit f)||(u.testBit f != u'.testBit f)
def Ih(s u b u' f:Nat):((s ^^^ b)|||(u ^^^ u')).testBit f=Nz s u b u' f:=by
 unfold Nz;rw[Nat.testBit_or,Nat.testBit_xor,Nat.testBit_xor]
def jj:Ss:=#v[.ret (.var 2)]
def fQ:Ss:=#v[.set 2 (.bin .BitOr (.var 2) (.fn 0 #v[.comp 1 (.ix (.var 4) (.int 0)) (.nm 4) (.seq (.mu "leaned" (.var 0) #v[.var 3])) .no]))]
def nz:Ss:=.cons (.for (.nm 3) (.seq (.var 1)) fQ) jj
def lr:Ss:=.cons (.set 2 (.int 0)) nz
def lu:Ss:=#v[.ret (.var 7)]
def lw:Ss:=.cons (.setF (.var 0) "unsure" (.bin .BitAnd (.ix (.var 6) (.int 0)) (.inv (.ix (.var 6) (.int 1))))) lu
def lx:Ss:=.cons (.setF (.var 0) "sure" (.ix (.var 6) (.int 1))) lw
def ly:Ss:=.cons (.set 7 (.bin .BitOr (.bin .BitXor (.fld (.var 0) "sure") (.ix (.var 6) (.int 1))) (.bin .BitXor (.fld (.var 0) "unsure") (.bin .BitAnd (.ix (.var 6) (.int 0)) (.inv (.ix (.var 6) (.int 1))))))) lx
def lz:Ss:=.cons (.set 6 (.ix (.fn 0 #v[.fld (.var 0) "sheet",.var 2,.var 4,.bin .BitOr (.bin .BitOr (.var 4) (.var 5)) (.var 3),.bin .BitOr (.var 4) (.var 3)]) (.neg (.int 1)))) ly
def lA:Ss:=.cons (.set 5 (.bin .BitAnd (.fld (.var 0) "unsure") (.inv (.var 2)))) lz
def lB:Ss:=.cons (.set 4 (.bin .BitAnd (.fld (.var 0) "sure") (.inv (.var 2)))) lA
def lC:Ss:=.cons (.set 3 (.bin .BitAnd (.fld (.var 0) "told") (.var 2))) lB
def jk:Ss:=.cons (.set 2 (.fn 1 #v[.var 1])) lC
def ce(a_:Zy)(p:Zj):Nat:=p.foldl (λa f=>a|||ib a_ f) 0
theorem vF(a b:Nat):Builtin.bitXor (a:Int) (b:Int)=((a ^^^ b:Nat):Int):=by
 have h1:Builtin.bitXor (a:Int) (b:Int)=Builtin.bitOr (a:Int) (b:Int)-Builtin.bitAnd (a:Int) (b:Int):=rfl;have j:=PyProof.Rows.nat_or_add_and (a ^^^ b) (a&&&b);have l:(a ^^^ b)|||(a&&&b)=a|||b:=by
  refine Nat.eq_of_testBit_eq λk=>?_
  rw[Nat.testBit_or,Nat.testBit_xor,Nat.testBit_and,Nat.testBit_or];cases a.testBit k<;>cases b.testBit k<;>rfl
 have o:(a ^^^ b)&&&(a&&&b)=0:=by
  refine Nat.eq_of_testBit_eq λk=>?_
  rw[Nat.testBit_and,Nat.testBit_xor,Nat.testBit_and,Nat.zero_testBit];cases a.testBit k<;>cases b.testBit k<;>rfl
 rw[h1,dw,rf];omega
def aX(sh told s u b j:Nat):List (Str×D):=[("sheet",.ref sh),("told",⇑told),("sure",⇑s),("unsure",⇑u),("parts",.ref b),("bases",.ref j)]
def gz:List Str:=["sheet","told","sure","unsure","parts","bases"]
section
variable {sh told s u pp pb:Nat}
def oI:(aX sh told s u pp pb).lookup ("sheet" : Str)=↑sh:=rfl
def jl:(aX sh told s u pp pb).lookup ("told" : Str)= ~~~told:=rfl
def rp:(aX sh told s u pp pb).lookup ("sure" : Str)= ~~~s:=rfl
def mr:(aX sh told s u pp pb).lookup ("unsure" : Str)= ~~~u:=rfl
def tf:(aX sh told s u pp pb).lookup ("parts" : Str)=↑pp:=rfl
def Ii:(aX sh told s u pp pb).lookup ("bases" : Str)=↑pb:=rfl
def BJ(n:Nat):cV ("told" : Str) (⇑n) (aX sh told s u pp pb)=aX sh n s u pp pb:=rfl
def KZ(n:Nat):cV ("sure" : Str) (⇑n) (aX sh told s u pp pb)=aX sh told n u pp pb:=rfl
def Fw(n:Nat):cV ("unsure" : Str) (⇑n) (aX sh told s u pp pb)=aX sh told s n pp pb:=rfl
def BK:(aX sh told s u pp pb).lookup ("work" : Str)=none:=rfl
def Fx:(aX sh told s u pp pb).lookup ("work_behind" : Str)=none:=rfl
def uQ:(aX sh told s u pp pb).length=6:=rfl
end
structure zy (m told s u:Nat):Prop where
 told:told<2 ^ m
 sure:s<2 ^ m
 open_:u<2 ^ m
 dj:Dj s u
def br(c:CA)(S V:Addr)(M:MH)(a:Addr)(m:Nat)(a_:Zy)(told s u sh b j:Nat):Prop:=zy m told s u/\M a=some (.ins V (aX sh told s u b j))/\bm c S (hid a M) sh m a_/\hid a M b=some (.lst ((a8 a_ m).map aA))/\hid a M j=some (.lst (nats ((a8 a_ m).map (ce a_))))
def Fy(a:Addr)(M:MH):hid a M a=none:=if_pos rfl
def qx{a:Addr}(e:ad (hid a M) M'):ad (hid a M) (hid a M'):=λb o q=>by
 have hb:b≠a:=λz=>by rw[z,Fy] at q;cases q
 rw[iL hb];exact e b o q
theorem br.on{S V:Addr}{told:Addr}{u:Nat}(K:br c S V M told m a_ h' a u f g n)(e:ad (hid told M) M')(s:M' told=some (.ins V (aX f h g' c_ g n)))(I:zy m h g' c_):br c S V M' told m a_ h g' c_ f g n:=
 let⟨_,_,A,h2,h3⟩:=K;⟨I,s,A.ext (qx e),qx e _ _ h2,qx e _ _ h3⟩
theorem br.ext{S V:Addr}{a:Addr}(e:ad M M')(K:br c S V M a m a_ g n h g' c_ h'):br c S V M' a m a_ g n h g' c_ h':=
 K.on ((bW a M).trans e) (e _ _ K.2.1) K.1
def kF(c:CA)(S:Addr):az:=λds M Q=>∃(sh:Addr) (m:Nat) (a_:Zy) (p:Zj),ds=[.ref sh,aA p]/\bm c S M sh m a_/\(∀x∈p,x<m)/\∀M',ad M M'->Q (.int ((ce a_ p:Nat):Int)) M'
def uR(c:CA)(S V:Addr):az:=λds M Q=>∃(a:Addr) (m:Nat) (a_:Zy) (told s u sh j k:Nat) (p:Zj),ds=[.ref a,aA p]/\br c S V M a m a_ told s u sh j k/\(∀x∈p,x<m)/\∀b u' M',ad (hid a M) M'->br c S V M' a m a_ told b u' sh j k->Wk a_ told s u p b u'->Q (.int (((s ^^^ b)|||(u ^^^ u'):Nat):Int)) M'
section
variable {cn:Cn}{ds:List D}{M:MH}{Q:DK}{c:CA}{S V:Addr}
theorem zz(I:cn.F.getD 0 'd'=ci)(J:cn.T S "leaned" = some (jh c S))(h:kF c S ds M Q):wSs cn lr (fin Q) (ai ["","","",""] ds) M:=by
 obtain⟨sh,m,a_,p,rfl,A,hp,q⟩:=h;show wSs cn lr (fin Q) [↑sh,some (aA p),none,none] M;obtain⟨ok,s_,p1,p2,p3,N_,N',Qa,h1,-⟩:=A.ext (ad.refl M);have hm:=ok.most;unfold lr;simp! only[List.set];have run:∀(E:cP) (f w:Nat) (b:MH),f<m->ad M b->(∀j,ad M j->E.nx [↑sh,some (aA p),some (.int ((w|||ib a_ f:Nat):Int)),~~~f] j) ->
   wSs cn fQ E [↑sh,some (aA p),~~~w,~~~f] b:=by
  intro E f w b hf k K;have L:=A.ext k;unfold fQ;simp! only[List.set,k _ _ h1,J,I,List.cons_append,List.nil_append,List.replicate];refine⟨rfl,sh,m,a_,f,rfl,L,hf,λZ t o P6 O B h9 C=>?_⟩;simp! only[C];refine cT (f:=Ny) (ok:=λσ=>∃v,σ=[↑sh,some (aA p),~~~w,~~~f,v]) [] _ ⟨none,rfl⟩ ?_ ?_
  .intro d hd σ g_ rest ⟨v,hv⟩ P
   subst hv;obtain⟨y,hy,rfl⟩:=List.mem_map.1 hd;have R:=P _ ⟨some (pD y),rfl⟩;rw[aH];simp! only[List.set,pD,cf];exact⟨C,R⟩
  .have G:∀y∈o,0<=y.1/\y.1<(m:Int):=λy hy=>oG ok f y (B.mem_iff.1 hy)
   rw[List.nil_append,BG G];intro r U;have u:ad b (ae t r (.lst (nats (o.map λy=>y.1.toNat)))):=O.then U;have W:ae t r (MO.lst (nats (o.map λy=>y.1.toNat))) r=some (.lst (nats (o.map λy=>y.1.toNat))):=ab;generalize ae t r (MO.lst (nats (o.map λy=>y.1.toNat)))=j at *;refine⟨_,_,j,rfl,.inr ⟨r,rfl,.inl ⟨W,rfl⟩⟩,λf hf=>?_,?_⟩
   .obtain⟨y,hy,rfl⟩:=List.mem_map.1 hf
    have:=G y hy
    omega
   .have es:ag (o.map λy=>y.1.toNat)=ib a_ f:=by
     refine Nat.eq_of_testBit_eq λi=>?_
     unfold ib;rw[aB,aB,decide_eq_decide];exact(B.map _).mem_iff
    rw[es];simp! only[dw];exact K j (k.trans u)
 have z:∀(l:Zj) (w:Nat) (v:Zz) (b:MH),(∀x∈l,x<m)->ad M b->l.foldl (λa f=>a|||ib a_ f) w=ce a_ p ->
   ar (λ_=>True) (.nm 3) (wSs cn fQ) { nx:=wSs cn jj (fin Q),rt:=Q } (nats l) [↑sh,some (aA p),~~~w,v] b:=by
  intro l;induction l with
  |nil=>
   intro w v b _ k hw;rw[show nats []=[] from rfl,ar];unfold jj;simp! only[];rw[show w=ce a_ p from hw];exact q b k
  |cons f l Y=>
   intro w v b hl k hw;rw[show nats (f::l)=⇑f::nats l from rfl,ar];exact run _ f w b (hl f (.head _)) k λj u=>⟨trivial,Y _ _ j (λx hx=>hl x (.tail _ hx)) u hw⟩
 unfold nz;simp! only[List.set,aA];exact z p 0 none M hp (ad.refl M) rfl
theorem K4(b:∀f∈gz,cn.O V f)(t:cn.F.getD 0 'd'=kB c S)(y:cn.F.getD 1 'd'=ci)(h:uR c S V ds M Q):wSs cn jk (fin Q) (ai ["","","","","","","",""] ds) M:=by
 obtain⟨a,m,a_,told,s,u,sh,j,k,p,rfl,⟨I,h1,A,z,B⟩,hp,q⟩:=h;show wSs cn jk (fin Q) [↑a,some (aA p),none,none,none,none,none,none] M;have ok:=A.ok;have hm:=ok.most;unfold jk;simp! only[List.set,y];refine⟨_,p,M,rfl,.inl ⟨rfl,rfl⟩,λx hx=>by have:=hp x hx;omega,?_⟩;unfold lC;simp! only[List.set,h1,jl,rf];refine⟨b _ (by rfl'),?_⟩;unfold lB;simp! only[jO,List.set,h1,rp,dy];refine⟨b _ (by rfl'),?_⟩;unfold lA;simp! only[jO,List.set,h1,mr,dy];refine⟨b _ (by rfl'),?_⟩;unfold lz;simp! only[List.set,h1,oI,dw,t];refine⟨b _ (by rfl'),?_⟩;have w:=BI (u:=u) I.sure I.open_ I.told (ag p);refine⟨sh,m,a_,ag p,au s (ag p),gy told s u (ag p),ji told s (ag p),rfl,A.ext (bW a M),by have:=ok.few;omega,by omega,vE hp,w.1,w.2,Aw,?_,λl ps x M1 hl e1 C R=>?_⟩
 .refine Sub.trans (Sub.or_l (au s (ag p)) (told&&&ag p)) ?_
  exact(cr a_ _ (ji told s (ag p)) (ag p)).1.1
 have W:Wk a_ told s u p x.2 (au x.1 x.2):=⟨ps,x,R,rfl,rfl⟩;simp only[C,oF];have r:=e1 _ _ h1;unfold ly;simp! only[jO,List.set,r,rp,mr,cf,cm,dy,vF,dw];refine⟨b _ (by rfl'),b _ (by rfl'),?_⟩;unfold lx;simp! only[jO,List.set,r,cf,cm,KZ,uQ];refine⟨⟨b _ (by rfl'),by decide⟩,?_⟩;have E:ae M1 a (MO.ins V (aX sh told x.2 u j k)) a=some (.ins V (aX sh told x.2 u j k)):=ab;have G:=cM a M1 (.ins V (aX sh told x.2 u j k));generalize ae M1 a (MO.ins V (aX sh told x.2 u j k))=M2 at *;unfold lw;simp! only[jO,List.set,E,cf,cm,dy,Fw,uQ];refine⟨⟨b _ (by rfl'),by decide⟩,?_⟩;have J:ae M2 a (MO.ins V (aX sh told x.2 (au x.1 x.2) j k)) a=some (.ins V (aX sh told x.2 (au x.1 x.2) j k)):=ab;have K:=cM a M2 (.ins V (aX sh told x.2 (au x.1 x.2) j k));generalize ae M2 a (MO.ins V (aX sh told x.2 (au x.1 x.2) j k))=o at *;unfold lu;simp! only[];have e3:ad (hid a M) (hid a o):=by rw[K,G];exact b0 e1
 obtain⟨L,P⟩:=W.lt I.sure I.open_ I.told hp;exact q x.2 (au x.1 x.2) o (e3.trans (bW a o)) ⟨⟨I.told,L,P,W.dj⟩,J,A.ext e3,e3 _ _ z,e3 _ _ B⟩ W
end
def ej:Ss:=#v[.expr (.mu "work" (.var 0) #v[.var 3])]
def lD:Ss:=#v[.for (.nm 3) (.seq (.fld (.var 0) "parts")) ej]
def lE:Ss:=.cons (.setF (.var 0) "bases" (.comp 1 (.fn 0 #v[.var 1,.var 4]) (.nm 4) (.seq (.fld (.var 0) "parts")) .no)) lD
def lF:Ss:=.cons (.setF (.var 0) "parts" (.fn 1 #v[.var 1])) lE
def lG:Ss:=.cons (.setF (.var 0) "unsure" (.int 0)) lF
def lH:Ss:=.cons (.setF (.var 0) "sure" (.int 0)) lG
def lI:Ss:=.cons (.setF (.var 0) "told" (.var 2)) lH
def jm:Ss:=.cons (.setF (.var 0) "sheet" (.var 1)) lI
abbrev BL(x:D):List (Str×D):=[("sheet",x)]
abbrev BM(x y:D):List (Str×D):=[("sheet",x),("told",y)]
abbrev BN(x y z:D):List (Str×D):=[("sheet",x),("told",y),("sure",z)]
abbrev BO(x y z u:D):List (Str×D):=[("sheet",x),("told",y),("sure",z),("unsure",u)]
abbrev zA(x y z u v:D):List (Str×D):=[("sheet",x),("told",y),("sure",z),("unsure",u),("parts",v)]
def PQ(x:D):cV ("sheet" : Str) x []=BL x:=rfl
def PR(x y:D):cV ("told" : Str) y (BL x)=BM x y:=rfl
def PU(x y z:D):cV ("sure" : Str) z (BM x y)=BN x y z:=rfl
def PV(x y z u:D):cV ("unsure" : Str) u (BN x y z)=BO x y z u:=rfl
def PX(x y z u v:D):cV ("parts" : Str) v (BO x y z u)=zA x y z u v:=rfl
def PY(sh told s u b j:Nat):cV ("bases" : Str) (.ref j) (zA (.ref sh) (⇑told) (⇑s) (⇑u) (.ref b))=aX sh told s u b j:=rfl
def PZ(x y z u v:D):List.lookup ("parts" : Str) (zA x y z u v)=some v:=rfl
inductive Wa (a_:Zy) (told:Nat):List (List Nat)->Nat->Nat->Nat->Nat->Prop
 |nil (s u:Nat):Wa a_ told [] s u s u
 |cons {p:Zj}{ps:List (List Nat)}{s u s1 u1 s' u':Nat}(w:Wk a_ told s u p s1 u1) (r:Wa a_ told ps s1 u1 s' u'):Wa a_ told (p::ps) s u s' u'
def kG(c:CA)(S V:Addr):az:=λds M Q=>∃(a sh:Addr) (m:Nat) (a_:Zy) (told:Nat),ds=[.ref a,.ref sh,⇑told]/\M a=some (.ins V [])/\bm c S (hid a M) sh m a_/\told<2 ^ m /\
 ∀s u b j M',ad (hid a M) M'->br c S V M' a m a_ told s u sh b j->Wa a_ told (a8 a_ m) 0 0 s u->Q .non M'
section
variable {cn:Cn}{ds:List D}{M:MH}{Q:DK}{c:CA}{S V:Addr}
def vG(J:∀f∈gz,cn.O V f)(f0:cn.F.getD 0 'd'=kF c S)(f1:cn.F.getD 1 'd'=rl c S)(hT:cn.T V "work" = some (uR c S V))(h:kG c S V ds M Q):wSs cn jm (fin Q) (ai ["","","",""] ds) M:=by
 obtain⟨a,sh,m,a_,told,rfl,h0,A,ht,q⟩:=h;show wSs cn jm (fin Q) [↑a,↑sh,~~~told,none] M;have ok:=A.ok;have hm:=ok.most;obtain⟨o1,o2,o3⟩:=uP ok;unfold jm;simp! only[List.set,h0,PQ];refine⟨⟨J _ (by rfl'),by decide⟩,?_⟩;have h1:ae M a (MO.ins V (BL (.ref sh))) a=some (.ins V (BL (.ref sh))):=ab;have z1:=cM a M (.ins V (BL (.ref sh)));generalize ae M a (MO.ins V (BL (.ref sh)))=M1 at *;unfold lI;simp! only[List.set,h1,PR];refine⟨⟨J _ (by rfl'),(by decide:(1:Nat)<1000)⟩,?_⟩;have h2:ae M1 a (MO.ins V (BM (.ref sh) (⇑told))) a=some (.ins V (BM (.ref sh) (⇑told))):=ab;have z2:=(cM a M1 (.ins V (BM (.ref sh) (⇑told)))).trans z1;generalize ae M1 a (MO.ins V (BM (.ref sh) (⇑told)))=M2 at *;unfold lH;simp! only[List.set,h2,PU];refine⟨⟨J _ (by rfl'),(by decide:(2:Nat)<1000)⟩,?_⟩;have h3:ae M2 a (MO.ins V (BN (.ref sh) (⇑told) (.int 0))) a=some (.ins V (BN (.ref sh) (⇑told) (.int 0))):=ab;have z3:=(cM a M2 (.ins V (BN (.ref sh) (⇑told) (.int 0)))).trans z2;generalize ae M2 a (MO.ins V (BN (.ref sh) (⇑told) (.int 0)))=M3 at *;unfold lG;simp! only[List.set,h3,PV];refine⟨⟨J _ (by rfl'),(by decide:(3:Nat)<1000)⟩,?_⟩;have h4:ae M3 a (MO.ins V (BO (.ref sh) (⇑told) (.int 0) (.int 0))) a=some (.ins V (BO (.ref sh) (⇑told) (.int 0) (.int 0))):=ab;have z4:=(cM a M3 (.ins V (BO (.ref sh) (⇑told) (.int 0) (.int 0)))).trans z3;generalize ae M3 a (MO.ins V (BO (.ref sh) (⇑told) (.int 0) (.int 0)))=M4 at *;clear z1 z2 z3 h1 h2 h3 h0;clear M1 M2 M3;rw[←z4] at A;have e4:ad (hid a M) (hid a M4):=by rw[z4];exact ad.refl _
 unfold lF;simp! only[List.set,f1];refine⟨sh,m,a_,rfl,A.ext (bW a M4),λb t Rf P g5=>?_⟩;have VQ:=P _ _ h4;have al:b≠a:=λz=>by rw[z,h4] at Rf;cases Rf
 simp only[VQ,PX];refine⟨⟨J _ (by rfl'),(by decide:(4:Nat)<1000)⟩,?_⟩;have h6:ae t a (MO.ins V (zA (.ref sh) (⇑told) (.int 0) (.int 0) (.ref b))) a=some (.ins V (zA (.ref sh) (⇑told) (.int 0) (.int 0) (.ref b))):=ab;have z6:=cM a t (.ins V (zA (.ref sh) (⇑told) (.int 0) (.int 0) (.ref b)));generalize ae t a (MO.ins V (zA (.ref sh) (⇑told) (.int 0) (.int 0) (.ref b)))=j at *;have e6:ad (hid a M4) (hid a j):=by rw[z6];exact b0 P
 have g6:hid a j b=some (.lst ((a8 a_ m).map aA)):=by rw[z6,iL al];exact g5
 have A6:=A.ext e6;have T9:=e4.trans e6;clear e4 P e6 g5 VQ h4 Rf z4 z6 A;clear M4 t;have run:∀(p:Zj) (k:MH) (Z:DK),(∀x∈p,x<m)->ad j k->(∀C,ad j C->Z (.int ((ce a_ p:Nat):Int)) C)->wE cn (.fn 0 (.cons (.var 1) (.cons (.var 4) .nil))) [↑a,↑sh,~~~told,none,some (aA p)] k Z:=by
  intro p k Z hp G hZ;simp! only[f0];exact⟨sh,m,a_,p,rfl,(A6.ext (bW a j)).ext G,hp,λC L=>hZ C (G.trans L)⟩
 have step:∀(F:List D->MH->Prop),(∀k,ad j k->F (nats ((a8 a_ m).map (ce a_))) k)->∀(l dn:List (List Nat)) (v:Zz) (k:MH),a8 a_ m=dn++l->ad j k ->
   aH (λM'=>M' b=some (.lst ((a8 a_ m).map aA))) (.nm 4) (λx M Q=>Q true M) (wE cn (.fn 0 (.cons (.var 1) (.cons (.var 4) .nil)))) F (l.map aA) (nats (dn.map (ce a_))) [↑a,↑sh,~~~told,none,v] k:=by
  intro F K l;induction l with
  |nil=>
   intro dn v k hd G;rw[XA,aH];rw[ZA] at hd;rw[←hd];exact K k G
  |cons p l ih=>
   intro dn v k hd G;rw[YL,aH];show wE cn (.fn 0 (.cons (.var 1) (.cons (.var 4) .nil))) [↑a,↑sh,~~~told,none,some (aA p)] k λy M2=>M2 b=some (.lst ((a8 a_ m).map aA))/\aH (λM'=>M' b=some (.lst ((a8 a_ m).map aA))) (.nm 4) (λx M Q=>Q true M) (wE cn (.fn 0 (.cons (.var 1) (.cons (.var 4) .nil)))) F (l.map aA) (nats (dn.map (ce a_))++[y]) [↑a,↑sh,~~~told,none,some (aA p)] M2
   refine run p k _ (o2 p (by rw[hd];simp)) G λC L=>⟨L _ _ (bW a j _ _ g6),?_⟩
   have:=ih (dn++[p]) (some (aA p)) C (by rw[hd];simp) L
   rw[show nats ((dn++[p]).map (ce a_))=nats (dn.map (ce a_))++[.int ((ce a_ p:Nat):Int)] by unfold nats;rw[ZL,ZL];rfl] at this;exact this
 unfold lE;simp! only[List.set,List.cons_append,List.nil_append,List.replicate,h6,PZ,bW a j _ _ g6];refine⟨J _ (by rfl'),?_⟩;refine step _ (λk G=>?_) (a8 a_ m) [] none j rfl (ad.refl _);clear step run;intro B TB;have T2:=G _ _ h6;have ap:B≠a:=λz=>by rw[z,T2] at TB;cases TB
 have L:=G.then (o:=.lst (nats ((a8 a_ m).map (ce a_)))) TB;have g8:ae k B (MO.lst (nats ((a8 a_ m).map (ce a_)))) B=some (.lst (nats ((a8 a_ m).map (ce a_)))):=ab;generalize ae k B (MO.lst (nats ((a8 a_ m).map (ce a_))))=C at *;have Tw:=L _ _ h6;have aa:ad (hid a j) (hid a C):=b0 L;have X9:=PY sh told 0 0 b B;rw[show(((0:Nat):Int))=0 from rfl] at X9;simp only[Tw,X9];refine⟨⟨J _ (by rfl'),(by decide:(5:Nat)<1000)⟩,?_⟩;have h9:ae C a (MO.ins V (aX sh told 0 0 b B)) a=some (.ins V (aX sh told 0 0 b B)):=ab;have z9:=cM a C (.ins V (aX sh told 0 0 b B));generalize ae C a (MO.ins V (aX sh told 0 0 b B))=R at *;have e9:ad (hid a j) (hid a R):=by rw[z9];exact aa
 have g9:hid a R B=some (.lst (nats ((a8 a_ m).map (ce a_)))):=by rw[z9,iL ap];exact g8
 have Vd:0<2 ^ m:=Nat.two_pow_pos m;have K9:br c S V R a m a_ told 0 0 sh b B:=⟨⟨ht,Vd,Vd,λf hf=>by rw[Nat.zero_testBit]⟩,h9,A6.ext e9,e9 _ _ g6,g9⟩;have p9:=e9 _ _ g6;have VV:=T9.trans e9;clear G L aa e9 T2 Tw g8 g9 z9 TB X9 A6 T9 g6 h6;clear j k C;have work:∀(E:cP) (p:Zj) (s u:Nat) (t:MH),(∀x∈p,x<m)->br c S V t a m a_ told s u sh b B->(∀U u' j,ad (hid a t) j->br c S V j a m a_ told U u' sh b B->Wk a_ told s u p U u'->E.nx [↑a,↑sh,~~~told,some (aA p)] j) ->
   wSs cn ej E [↑a,↑sh,~~~told,some (aA p)] t:=by
  intro E p s u t hp Y hE;obtain⟨I,b1,-⟩:=id Y;unfold ej;simp! only[List.set,b1,BK,hT];exact⟨trivial,a,m,a_,told,s,u,sh,b,B,p,rfl,Y,hp,hE⟩
 have a0:∀(l:List (List Nat)) (s u:Nat) (v:Zz) (t:MH),(∀p∈l,∀x∈p,x<m)->ad (hid a R) t->br c S V t a m a_ told s u sh b B->(∀U u',Wa a_ told l s u U u'->Wa a_ told (a8 a_ m) 0 0 U u') ->
   ar (λM'=>M' b=some (.lst ((a8 a_ m).map aA))) (.nm 3) (wSs cn ej) { nx:=qP (fin Q),rt:=Q } (l.map aA) [↑a,↑sh,~~~told,v] t:=by
  intro l;induction l with
  |nil=>
   intro s u v t _ P Y hw;rw[XA,ar];exact q s u b B t (VV.trans P) Y (hw s u (.nil s u))
  |cons p l ih=>
   intro s u v t hl P Y hw;rw[YL,ar];refine work _ p s u t (hl p (.head _)) Y λU u' j e6 K6 W=>?_
   have ac:=(qx P).trans e6;exact⟨ac _ _ p9,ih U u' _ j (λr hr=>hl r (.tail _ hr)) ac K6 λs2 u2 r=>hw s2 u2 (.cons W r)⟩
 unfold lD;simp! only[List.set,h9,tf,bW a R _ _ p9];exact⟨J _ (by rfl'),a0 (a8 a_ m) 0 0 none R o2 (bW a R) K9 λ_ _ h=>h⟩
end
def iU:Ss:=#v[.ret (.mu "work_behind" (.var 0) #v[.var 1])]
def mw:Ss:=.cons (.setF (.var 0) "told" (.bin .BitOr (.fld (.var 0) "told") (.bin .LShift (.int 1) (.var 1)))) iU
def mx:Ss:=.cons (.ite (.val (.fn 0 #v[.fld (.var 0) "told",.var 1])) #v[.never] .nil) mw
def jV:Ss:=.cons (.ite (.not (.val (.fn 1 #v[.var 1,.mu0 "how_many" (.fld (.var 0) "sheet")]))) #v[.never] .nil) mx
def tj:Ss:=#v[.ret (.mu "work_behind" (.var 0) #v[.var 1])]
def lJ:Ss:=.cons (.setF (.var 0) "told" (.bin .BitAnd (.fld (.var 0) "told") (.inv (.bin .LShift (.int 1) (.var 1))))) tj
def jn:Ss:=.cons (.ite (.or (.not (.val (.fn 0 #v[.var 1,.mu0 "how_many" (.fld (.var 0) "sheet")]))) (.not (.val (.fn 1 #v[.fld (.var 0) "told",.var 1])))) #v[.never] .nil) lJ
def ic:Ss:=#v[.ret (.fn 0 #v[.fld (.var 0) "sure",.fld (.var 0) "unsure",.var 1])]
def eY:Ss:=.cons (.ite (.not (.val (.fn 1 #v[.var 1,.mu0 "how_many" (.fld (.var 0) "sheet")]))) #v[.never] .nil) ic
def em:Ss:=#v[.ret (.fld (.var 0) "told")]
def ez:Ss:=#v[.ret (.bk .list #v[.fld (.var 0) "parts"])]
def cR:Ss:=#v[.ret (.var 2)]
def dl:Ss:=#v[.expr (.mt .append (.var 2) #v[.var 4])]
def bB:Ss:=#v[.ite (.or (.cmp .In (.var 1) (.var 5)) (.cmp .NotEq (.bin .BitAnd (.ix (.fld (.var 0) "bases") (.var 4)) (.var 3)) (.int 0))) (.cons (.set 3 (.bin .BitOr (.var 3) (.mu "work" (.var 0) #v[.var 5]))) dl) .nil]
def fW:Ss:=.cons (.for (.tp [4,5]) (.enum #v[.fld (.var 0) "parts"]) bB) cR
def fX:Ss:=.cons (.set 3 (.int 0)) fW
def dW:Ss:=.cons (.set 2 (.lst .nil)) fX
inductive Wb (a_:Zy) (fact told:Nat):List (List Nat)->Nat->Nat->Nat->Nat->List Nat->Nat->Nat->Prop
 |nil (k c s u:Nat):Wb a_ fact told [] k c s u [] s u
 |work {p:Zj}{ps:List (List Nat)}{k c s u s1 u1 s' u':Nat}{ws:Zj}(t:fact∈p\/ce a_ p&&&c≠0) (w:Wk a_ told s u p s1 u1) (r:Wb a_ fact told ps (k+1) (c|||((s ^^^ s1)|||(u ^^^ u1))) s1 u1 ws s' u'):Wb a_ fact told (p::ps) k c s u (k::ws) s' u'
 |skip {p:Zj}{ps:List (List Nat)}{k c s u s' u':Nat}{ws:Zj}(t:¬(fact∈p\/ce a_ p&&&c≠0)) (r:Wb a_ fact told ps (k+1) c s u ws s' u'):Wb a_ fact told (p::ps) k c s u ws s' u'
def lK(c:CA)(S V:Addr):az:=λds M Q=>∃(a:Addr) (m:Nat) (a_:Zy) (told s u sh j k b:Nat),ds=[.ref a,⇑b]/\br c S V M a m a_ told s u sh j k/\∀w l o u' M',M w=none->ad (hid a M) M'->br c S V M' a m a_ told o u' sh j k->M' w=some (.lst (nats l))->Wb a_ b told (a8 a_ m) 0 0 s u l o u'->Q (.ref w) M'
def DE(c:CA)(S V:Addr):az:=λds M Q=>∃(a:Addr) (m:Nat) (a_:Zy) (told s u sh j k b:Nat),ds=[.ref a,⇑b]/\br c S V M a m a_ told s u sh j k/\b<m/\told.testBit b=false/\∀w l o u' M',M w=none->ad (hid a M) M'->br c S V M' a m a_ (told|||2 ^ b) o u' sh j k->M' w=some (.lst (nats l))->Wb a_ b (told|||2 ^ b) (a8 a_ m) 0 0 s u l o u'->Q (.ref w) M'
def zB(c:CA)(S V:Addr):az:=λds M Q=>∃(a:Addr) (m:Nat) (a_:Zy) (told s u sh j k b:Nat),ds=[.ref a,⇑b]/\br c S V M a m a_ told s u sh j k/\b<m/\told.testBit b=true/\∀w l o u' M',M w=none->ad (hid a M) M'->br c S V M' a m a_ (au told (2 ^ b)) o u' sh j k->M' w=some (.lst (nats l))->Wb a_ b (au told (2 ^ b)) (a8 a_ m) 0 0 s u l o u'->Q (.ref w) M'
def oJ(c:CA)(S V:Addr):az:=λds M Q=>∃(a:Addr) (m:Nat) (a_:Zy) (told s u sh b j f:Nat),ds=[.ref a,⇑f]/\br c S V M a m a_ told s u sh b j/\f<m/\Q (.str (zw s u f)) M
def jx(c:CA)(S V:Addr):az:=λds M Q=>∃(a:Addr) (m:Nat) (a_:Zy) (told s u sh b j:Nat),ds=[.ref a]/\br c S V M a m a_ told s u sh b j/\Q (⇑told) M
def m7(c:CA)(S V:Addr):az:=λds M Q=>∃(a:Addr) (m:Nat) (a_:Zy) (told s u sh b j:Nat),ds=[.ref a]/\br c S V M a m a_ told s u sh b j/\∀p M',M p=none->ad M M'->M' p=some (.lst ((a8 a_ m).map aA))->Q (.ref p) M'
theorem Lc(f:Nat)(p:Zj):kX (⇑f) (nats p)=decide (f∈p):=by
 induction p with
 |nil=>rfl
 |cons x p b=>
  show kX (⇑f) (⇑x::nats p)=_;unfold kX at *;rw[XF,b,av];by_cases h:f=x
  .subst h;simp
  .have h1:((x:Int)==(f:Int))=false:=by rw[ZR];omega
   rw[h1,XG,decide_eq_decide,YB];exact⟨.inr,λz=>z.elim (λe=>absurd e h) id⟩
theorem Ax(a b:Nat):(!(((a&&&b:Nat):Int)==0))=decide (a&&&b≠0):=by
 by_cases h:a&&&b=0
 .rw[h];rfl
 .rw[YW h,beq_false_of_ne 'a'];rfl
def Ld{l:Zj}(h:l[f]?=some a):de (nats l) (f:Int)= ~~~a:=dO (by unfold nats;rw[ZG,h];rfl)
section
variable {cn:Cn}{ds:List D}{M:MH}{Q:DK}{c:CA}{S V:Addr}
theorem vH(hO:∀f∈gz,cn.O V f)(hT:cn.T V "work" = some (uR c S V))(h:lK c S V ds M Q):wSs cn dW (fin Q) (ai ["","","","","",""] ds) M:=by
 obtain⟨a,m,a_,told,s0,u0,sh,o,B,b,rfl,Z,q⟩:=h;show wSs cn dW (fin Q) [↑a,~~~b,none,none,none,none] M;have hsz:(4000:Nat)<sizeLine:=by decide
 obtain⟨I,h1,A,h2,h3⟩:=id Z;have ok:=A.ok;have hm:=ok.most;obtain⟨o1,o2,o3⟩:=uP ok;unfold dW;simp! only[List.set];intro w hw;have X_:w≠a:=λz=>by rw[z,h1] at hw;cases hw
 have nw:hid a M w=none:=by rw[iL X_];exact hw
 have e1:ad M (ae M w (.lst [])):=ad.new hw;have g1:ae M w (MO.lst []) w=some (.lst (nats [])):=ab;generalize ae M w (MO.lst [])=M1 at *;have G:ad (hid a M) M1:=(bW a M).trans e1;have K1:=Z.ext e1;unfold fX;simp! only[List.set];have aa:∀(l dn:List (List Nat)) (ch s u:Nat) (g_:Zj) (v4 v5:Zz) (k:MH),a8 a_ m=dn++l->ad (hid a M) k->br c S V k a m a_ told s u sh o B->k w=some (.lst (nats g_))->g_.length<=dn.length ->
   (∀r y u' j,ad (hid a M) j->br c S V j a m a_ told y u' sh o B->j w=some (.lst (nats (g_++r)))->Wb a_ b told l dn.length ch s u r y u'->Q (.ref w) j) ->
   ar (λM'=>M' o=some (.lst ((a8 a_ m).map aA))) (.tp [4,5]) (wSs cn bB) { nx:=wSs cn cR (fin Q),rt:=Q } (bN (dn.length:Int) (l.map aA)) [↑a,~~~b,↑w,~~~ch,v4,v5] k:=by
  intro l;induction l with
  |nil=>
   intro dn ch s u g_ v4 v5 k _ J C P _ kk;rw[XA,bN,ar];unfold cR;simp! only[];exact kk [] s u k J C (by rw[ZA];exact P) (.nil _ _ _ _)
  |cons p l ih=>
   intro dn ch s u g_ v4 v5 k hd J C P hl kk;have hk:(a8 a_ m)[dn.length]?=some p:=by rw[hd,ZH (YG _),Nat.sub_self];rfl
   have VN:dn.length<m:=by
    have:=(YD.1 hk).1
    omega
   rw[YL,bN,ar];obtain⟨I5,b1,b2,b3,b4⟩:=id C;have hx:((a8 a_ m).map (ce a_))[dn.length]?=some (ce a_ p):=by rw[ZG,hk];rfl
   have body:∀N:DS->MH->Prop,((b∈p\/ce a_ p&&&ch≠0)->∀s1 u1 E,ad (hid a M) E->br c S V E a m a_ told s1 u1 sh o B->E w=some (.lst (nats (g_++[dn.length])))->Wk a_ told s u p s1 u1->N [↑a,~~~b,↑w,some (.int ((ch|||((s ^^^ s1)|||(u ^^^ u1)):Nat):Int)),some (.int (dn.length:Int)),some (aA p)] E)->(¬(b∈p\/ce a_ p&&&ch≠0)->N [↑a,~~~b,↑w,~~~ch,some (.int (dn.length:Int)),some (aA p)] k) ->
     wSs cn bB { nx:=N,rt:=Q } [↑a,~~~b,↑w,~~~ch,some (.int (dn.length:Int)),some (aA p)] k:=by
    intro N yes no;have more:(b∈p\/ce a_ p&&&ch≠0)->∀s1 u1 j,ad (hid a k) j->br c S V j a m a_ told s1 u1 sh o B->Wk a_ told s u p s1 u1->wSs cn dl { nx:=N,rt:=Q } [↑a,~~~b,↑w,some (.int (Builtin.bitOr (ch:Int) (((s ^^^ s1)|||(u ^^^ u1):Nat):Int))),some (.int (dn.length:Int)),some (aA p)] j:=by
     intro t s1 u1 j R U W;have T9:=(qx J).trans R;have g6:j w=some (.lst (nats g_)):=R _ _ (by rw[iL X_];exact P);rw[dw];unfold dl;simp! only[List.set,g6,gJ];refine⟨rfl,by omega,?_⟩;have K:ad (hid a M) (ae j w (.lst (nats g_++[.int (dn.length:Int)]))):=T9.put nw;have g7:ae j w (MO.lst (nats g_++[.int (dn.length:Int)])) w=some (.lst (nats (g_++[dn.length]))):=by rw[ab];unfold nats;rw[ZL];rfl
     exact yes t s1 u1 _ K (Z.on K (by rw[aU X_.symm];exact U.2.1) U.1) g7 W
    have hp:=o2 p (YU hk);unfold bB;simp! only[List.set,aA,Lc,b1,Ii,BK,hT,bW a k _ _ b4,Ld hx,rf];refine⟨⟨rfl,Jg p,by rw[jL,sR];decide⟩,?_⟩;by_cases hf:b∈p
    .rw[YW hf,bh]
     exact⟨trivial,a,m,a_,told,s,u,sh,o,B,p,rfl,C,hp,more (.inl hf)⟩
    .rw[ZQ hf,aR]
     refine⟨hO _ (by rfl'),⟨rfl,rfl,by rw[ax];exact YN _⟩,?_⟩;rw[av,Ax];by_cases hb:ce a_ p&&&ch≠0
     .rw[YW hb,bh]
      exact⟨trivial,a,m,a_,told,s,u,sh,o,B,p,rfl,C,hp,more (.inr hb)⟩
     .rw[ZQ hb,aR]
      exact no λz=>z.elim hf hb
   refine⟨rfl,?_⟩;show wSs cn bB { nx:=λσ M2=>M2 o=some (.lst ((a8 a_ m).map aA))/\ar (λM'=>M' o=some (.lst ((a8 a_ m).map aA))) (.tp [4,5]) (wSs cn bB) { nx:=wSs cn cR (fin Q),rt:=Q } (bN ((dn.length:Int)+1) (l.map aA)) σ M2,rt:=Q } [↑a,~~~b,↑w,~~~ch,some (.int (dn.length:Int)),some (aA p)] k;refine body _ (λt s1 u1 E K K7 g7 W=>⟨K _ _ h2,?_⟩) (λt=>⟨J _ _ h2,?_⟩)
   .have:=ih (dn++[p]) (ch|||((s ^^^ s1)|||(u ^^^ u1))) s1 u1 (g_++[dn.length]) (some (.int (dn.length:Int))) (some (aA p)) E (by rw[hd];simp) K K7 g7 (by rw[ZK,ZK,XB,XB];omega) λr y u' M8 e8 K8 Y L=>kk (dn.length::r) y u' M8 e8 K8 (by rw[ZB] at Y;exact Y) (.work t W (by rw[ZK] at L;exact L))
    rw[ZK,XB,show((dn.length+1:Nat):Int)=(dn.length:Int)+1 from rfl] at this;exact this
   .have:=ih (dn++[p]) ch s u g_ (some (.int (dn.length:Int))) (some (aA p)) k (by rw[hd];simp) J C P (by rw[ZK];omega) λr y u' M8 e8 K8 Y L=>kk r y u' M8 e8 K8 Y (.skip t (by rw[ZK] at L;exact L))
    rw[ZK,XB,show((dn.length+1:Nat):Int)=(dn.length:Int)+1 from rfl] at this;exact this
 unfold fW;simp! only[List.set,e1 _ _ h1,tf,G _ _ h2];refine⟨hO _ (by rfl'),?_⟩;exact aa (a8 a_ m) [] 0 s0 u0 [] none none M1 rfl G K1 g1 (YG _) λr y u' j R U g6 W=>q w r y u' j hw R U g6 W
def wO{told:Addr}(l:cn.T V "work_behind" = some (lK c S V))(K:br c S V M told m a_ h' f a g h g')(o:zy m n f a)(q:∀w b j u' M',M w=none->ad (hid told M) M'->br c S V M' told m a_ n j u' g h g'->M' w=some (.lst (nats b))->Wb a_ c_ n (a8 a_ m) 0 0 f a b j u'->Q (.ref w) M'):
  wSs cn iU (fin Q) [↑told,~~~c_] (ae M told (.ins V (aX g n f a h g'))):=by
 have p:ad (hid told M) (ae M told (.ins V (aX g n f a h g'))):=(bW told M).put (Fy told M);have k:=K.on p ab o;have r:=cM told M (.ins V (aX g n f a h g'));have t:∀w,ae M told (MO.ins V (aX g n f a h g')) w=none->M w=none:=λw hw=>by
  by_cases e:w=told
  .rw[e,ab] at hw;cases hw
  .rwa [aU e] at hw
 generalize ae M told (MO.ins V (aX g n f a h g'))=M2 at *;unfold iU;simp! only[List.set,k.2.1,Fx,l];refine⟨trivial,told,m,a_,_,f,a,g,h,g',c_,rfl,k,λw b j u' u hw e3 y z W=>?_⟩;rw[r] at e3;exact q w b j u' u (t w hw) e3 y z W
theorem NA(j:∀f∈gz,cn.O V f)(l:cn.T V "work_behind" = some (lK c S V))(o:cn.T S "how_many" = some (d9 c S))(p:cn.F.getD 0 'd'=cj)(r:cn.F.getD 1 'd'=cK)(h:DE c S V ds M Q):wSs cn jV (fin Q) (ai ["",""] ds) M:=by
 obtain⟨a,m,a_,told,s,u,sh,t,y,b,rfl,K,hf,ht,q⟩:=h;show wSs cn jV (fin Q) [↑a,~~~b] M;obtain⟨I,h1,A,z,B⟩:=id K;have k:=A.ext (bW a M);obtain⟨ok,s_,p1,p2,p3,N_,N',Qa,s1,-⟩:=k.ext (ad.refl M);have hm:=ok.most;unfold jV;simp! only[List.set,h1,oI,s1,mV,o,r];refine⟨j _ (by rfl'),trivial,sh,m,a_,rfl,k,_,_,rfl,?_⟩;rw[YW 'a',YW 'a'];simp only[XU,Bool.not_true,aR];unfold mx;simp! only[List.set,h1,jl,p];refine⟨j _ (by rfl'),_,_,rfl,by omega,?_⟩;rw[cx,ht];simp only[aR];unfold mw;simp! only[List.set,h1,jl,rk,dw,BJ,uQ];refine⟨j _ (by rfl'),⟨by omega (splitDisjunctions:=true),by omega (splitDisjunctions:=true),by decide⟩,⟨j _ (by rfl'),by decide⟩,?_⟩;exact wO l K ⟨Nat.or_lt_two_pow I.told (Nat.pow_lt_pow_right 'b' hf),I.sure,I.open_,I.dj⟩ q
theorem Le(j:∀f∈gz,cn.O V f)(l:cn.T V "work_behind" = some (lK c S V))(o:cn.T S "how_many" = some (d9 c S))(p:cn.F.getD 0 'd'=cK)(r:cn.F.getD 1 'd'=cj)(h:zB c S V ds M Q):wSs cn jn (fin Q) (ai ["",""] ds) M:=by
 obtain⟨a,m,a_,told,s,u,sh,t,y,b,rfl,K,hf,ht,q⟩:=h;show wSs cn jn (fin Q) [↑a,~~~b] M;obtain⟨I,h1,A,z,B⟩:=id K;have k:=A.ext (bW a M);obtain⟨ok,s_,p1,p2,p3,N_,N',Qa,s1,-⟩:=k.ext (ad.refl M);have hm:=ok.most;unfold jn;simp! only[List.set,h1,oI,jl,s1,mV,o,p,r];refine⟨j _ (by rfl'),trivial,sh,m,a_,rfl,k,_,_,rfl,?_⟩;rw[YW 'a',YW 'a'];simp! only[XU,Bool.not_true,h1,jl];refine⟨j _ (by rfl'),_,_,rfl,by omega,?_⟩;rw[cx,ht];simp only[Bool.not_true,aR];unfold lJ;simp! only[jO,List.set,h1,jl,rk,dy,BJ,uQ];refine⟨j _ (by rfl'),⟨by omega (splitDisjunctions:=true),by omega (splitDisjunctions:=true),by decide⟩,⟨j _ (by rfl'),by decide⟩,?_⟩;exact wO l K ⟨iT I.told,I.sure,I.open_,I.dj⟩ q
theorem zC(b:∀f∈gz,cn.O V f)(k:cn.T S "how_many" = some (d9 c S))(l:cn.F.getD 0 'd'=kE)(o:cn.F.getD 1 'd'=cK)(h:oJ c S V ds M Q):wSs cn eY (fin Q) (ai ["",""] ds) M:=by
 obtain⟨a,m,a_,told,s,u,sh,p,r,f,rfl,K,hf,q⟩:=h;show wSs cn eY (fin Q) [↑a,~~~f] M;obtain⟨I,h1,A,t,y⟩:=id K;have j:=A.ext (bW a M);obtain⟨ok,s_,p1,p2,p3,N_,N',Qa,s1,-⟩:=j.ext (ad.refl M);unfold eY;simp! only[List.set,h1,oI,s1,mV,k,o];refine⟨b _ (by rfl'),trivial,sh,m,a_,rfl,j,_,_,rfl,?_⟩;rw[YW 'a',YW 'a'];simp only[XU,Bool.not_true,aR];unfold ic;simp! only[List.set,h1,rp,mr,l];exact⟨b _ (by rfl'),b _ (by rfl'),s,u,f,rfl,q⟩
def xj(b:∀f∈gz,cn.O V f)(h:jx c S V ds M Q):wSs cn em (fin Q) (ai [""] ds) M:=by
 obtain⟨a,m,a_,told,s,u,sh,j,k,rfl,⟨I,h1,-⟩,q⟩:=h;show wSs cn em (fin Q) [↑a] M;unfold em;simp! only[h1,jl];exact⟨b _ (by rfl'),q⟩
def xk(b:∀f∈gz,cn.O V f)(h:m7 c S V ds M Q):wSs cn ez (fin Q) (ai [""] ds) M:=by
 obtain⟨a,m,a_,told,s,u,sh,k,l,rfl,⟨I,h1,A,j,-⟩,q⟩:=h;show wSs cn ez (fin Q) [↑a] M;unfold ez;simp! only[h1,tf,nn,gr,bW a M _ _ j,lU,cu];exact⟨b _ (by rfl'),λp hp=>q p _ hp (ad.new hp) ab⟩
end
def On(W a b:Nat):Prop:=∀f,W.testBit f=true->a.testBit f=true->b.testBit f=true
def Ji(W:Nat)(x:Row):Prop:=∀z∈bd x,0<=z.2/\W.testBit z.2.toNat=true
theorem On.of{W:Nat}(h:Sub a f):On W a f:=λb _ q=>h b q
theorem On.refl(W a:Nat):On W a a:=λ_ _ q=>q
theorem vI{p q:Int->Bool}:∀fs:List Int,(∀f∈fs,p f=true->q f=true)->(fs.filter p).length<=(fs.filter q).length
 |[],_=>YG _
 |f::fs,h=>by
  have b:=vI fs λg hg=>h g (.tail _ hg)
  rw[List.filter_cons,List.filter_cons];by_cases e:p f=true
  .rw[if_pos e,if_pos (h f (.head _) e),YJ,YJ];omega
  .rw[if_neg e]
   split
   .rw[YJ];omega
   .exact b
theorem DG{W:Nat}{t:CT}(l:∀z∈t.leanP,0<=z.2/\W.testBit z.2.toNat=true)(a:On W h h')(b:On W g' g)(q:t.carried (h:Int) (g:Int)=true):t.carried (h':Int) (g':Int)=true:=by
 have up:∀f,(false,f)∈t.leanP->hasB (h:Int) f=true->hasB (h':Int) f=true:=λf hf y=>by
  rw[sW] at y ⊢;exact a _ (l _ hf).2 y
 have dn:∀f,(true,f)∈t.leanP->hasB (g':Int) f=true->hasB (g:Int) f=true:=λf hf y=>by
  rw[sW] at y ⊢;exact b _ (l _ hf).2 y
 cases t with
 |hav f=>exact up f (.head _) q
 |lck f=>
  have q:(!hasB (g:Int) f)=true:=q;show(!hasB (g':Int) f)=true;cases e:hasB (g':Int) f with
  |false=>rfl
  |true=>rw[dn f (.head _) e] at q;exact q
 |som n fs=>
  have q:decide (n<=((bZ fs (h:Int):Nat):Int))=true:=q;show decide (n<=((bZ fs (h':Int):Nat):Int))=true
  have:=XR q
  have:bZ fs (h:Int)<=bZ fs (h':Int):=by
   unfold bZ;exact vI fs λf hf=>up f (List.mem_map.2 ⟨f,hf,rfl⟩)
  exact YW 'a'
 |led fs k=>
  have q:(hasB (h:Int) (fs.getD k 0)&&(((bZ (fs.take k) (g:Int):Nat):Int)==0))=true:=q;show(hasB (h':Int) (fs.getD k 0)&&(((bZ (fs.take k) (g':Int):Nat):Int)==0))=true;rw[YZ] at q ⊢;refine⟨up _ (YC.2 (.inr (.head _))) q.1,?_⟩;have h1:=q.2;have j:bZ (fs.take k) (g':Int)<=bZ (fs.take k) (g:Int):=by
   unfold bZ;exact vI _ λf hf=>dn f (YC.2 (.inl (List.mem_map.2 ⟨f,hf,rfl⟩)))
  rw[beq_iff_eq] at h1 ⊢;omega
def gu{W:Nat}{x:Row}(l:Ji W x)(a:On W h h')(b:On W g' g)(q:bw h g x=true):bw h' g' x=true:=by
 unfold bw at *;rw[XO] at q ⊢;exact λt ht=>DG (λz j=>l z (List.mem_flatMap.2 ⟨t,ht,j⟩)) a b (q t ht)
structure jo (a_:Zy) (told S U:Nat):Prop where
 up:bu a_ told S U
 dn:bu a_ told U S
 sub:Sub S U
 ind:∀P:Nat->Prop,P 0->(∀k a b,P k->bu a_ told k a->bu a_ told a b->P b)->P S
section
variable {a_:Zy}{told S U m D s u s' u':Nat}{p:Zj}
structure DH (a_:Zy) (m D:Nat) (p:Zj):Prop where
 hd:∀x∈a_,x.1<m
 low:∀x∈a_,D.testBit x.1=true->Ji D x
 own:∀x∈a_,x.1∈p->Ji (D|||ag p) x
 apart:∀f∈p,D.testBit f=false
def fill(m W a:Nat):Nat:=(a&&&W)|||au (2 ^ m-1) W
def bC{W:Nat}(h:W.testBit f=true):(fill m W a).testBit f=a.testBit f:=by
 unfold fill;rw[Nat.testBit_or,Nat.testBit_and,aw,h,XU,Bool.not_true,XC,Bool.or_false]
def fI{W:Nat}(h:W.testBit f=false)(hf:f<m):(fill m W a).testBit f=true:=by
 unfold fill;rw[Nat.testBit_or,Nat.testBit_and,aw,h,XC,XG,Bool.not_false,XU,Nat.testBit_two_pow_sub_one];exact YW hf
def xF(h:a<2 ^ m)(hf:a.testBit f=true):f<m:=Classical.byContradiction λz=>by
 have:=Nat.testBit_lt_two_pow (ZS h (Nat.pow_le_pow_right 'b' (Nat.le_of_not_lt z)))
 rw[this] at hf;cases hf
theorem uS(G:DH a_ m D p)(R:jo a_ told S U)(ht:told<2 ^ m)(dj:Dj s u)(hs:∀f,D.testBit f=true->s.testBit f=S.testBit f/\(s.testBit f||u.testBit f)=U.testBit f)(W:Wk a_ told s u p s' u'):
  ∀f,(D|||ag p).testBit f=true->s'.testBit f=S.testBit f/\(s'.testBit f||u'.testBit f)=U.testBit f:=by
 obtain⟨ps,x,Rd,rfl,rfl⟩:=W;have E:∀f,(ag p).testBit f=true↔f∈p:=λf=>by rw[aB];exact decide_eq_true_iff
 have L:∀f,D.testBit f=true->(ag p).testBit f=false:=λf hf=>by
  cases e:(ag p).testBit f with
  |false=>rfl
  |true=>rw[G.apart f ((E f).1 e)] at hf;cases hf
 have nD:∀f,D.testBit f=true->(ji told s (ag p)).testBit f=S.testBit f:=λf hf=>by
  unfold ji;rw[Nat.testBit_or,aw,Nat.testBit_and,L f hf,XC,Bool.or_false,Bool.not_false,XU];exact(hs f hf).1
 have wD:∀f,D.testBit f=true->(gy told s u (ag p)).testBit f=U.testBit f:=λf hf=>by
  unfold gy;rw[Nat.testBit_or,Nat.testBit_or,aw,aw,Nat.testBit_and,L f hf,XC,Bool.or_false,Bool.not_false,XU,XU];exact(hs f hf).2
 have nF:∀f,(ag p).testBit f=true->(ji told s (ag p)).testBit f=told.testBit f:=λf hf=>by
  unfold ji;rw[Nat.testBit_or,aw,Nat.testBit_and,hf,Bool.not_true,XC,XU,XG]
 have wF:∀f,(ag p).testBit f=true->(gy told s u (ag p)).testBit f=told.testBit f:=λf hf=>by
  unfold gy;rw[Nat.testBit_or,Nat.testBit_or,aw,aw,Nat.testBit_and,hf,Bool.not_true,XC,XC,XU,XG,XG]
 generalize ji told s (ag p)=o at *;generalize gy told s u (ag p)=j at *;have l:∀{f},(D|||ag p).testBit f=true->D.testBit f=true\/(ag p).testBit f=true:=λh=>by rw[Nat.testBit_or,Bool.or_eq_true] at h;exact h
 have kX:∀{f},D.testBit f=true->(D|||ag p).testBit f=true:=λh=>by rw[Nat.testBit_or,h];rfl
 have TC:∀{f},(ag p).testBit f=true->(D|||ag p).testBit f=true:=λh=>by rw[Nat.testBit_or,h,Bool.or_true]
 -- A
 have T:∀k,On (D|||ag p) k S->On (D|||ag p) U (dz a_ k j (ag p)):=by
  intro k hk;obtain⟨⟨V,Y⟩,-⟩:=cr a_ k j (ag p);have Z:∀f,D.testBit f=true->(dz a_ k j (ag p)).testBit f=U.testBit f:=λf hf=>by rw[oH _ _ _ _ _ (L f hf)];exact wD f hf
  generalize dz a_ k j (ag p)=y at *;have cl:fF a_ told S (fill m (D|||ag p) y):=by
   refine⟨λf hf=>?_,λr hr hq=>?_⟩
   .cases e:(D|||ag p).testBit f with
    |false=>exact fI e (xF ht hf)
    |true=>
     rw[bC e];rcases l e with z | z
     .rw[Z f z];exact R.up.1.1 f hf
     .exact V f (by rw[wF f z];exact hf)
   .cases e:(D|||ag p).testBit r.1 with
    |false=>exact fI e (G.hd r hr)
    |true=>
     rw[bC e];rcases l e with z | z
     .rw[Z _ z]
      refine R.up.1.2 r hr (gu (G.low r hr z) (λf w q=>?_) (On.refl _ _) hq);rw[bC (kX w),Z f w] at q;exact q
     .refine Y r hr z (gu (G.own r hr ((E _).1 z)) (λf w q=>?_) hk hq)
      rw[bC w] at q;exact q
  intro f w q
  have:=R.up.2 _ cl f q
  rw[bC w] at this;exact this
 -- B
 have cB:∀g,On (D|||ag p) U g->On (D|||ag p) (dz a_ g o (ag p)) S:=by
  intro g hg;have B:=(cr a_ g o (ag p)).2 ((S&&&(D|||ag p))|||au o (D|||ag p)) ?_
  .intro f w q
   have:=B f q
   rw[Nat.testBit_or,Nat.testBit_and,aw,w,XU,Bool.not_true,XC,Bool.or_false] at this;exact this
  .refine⟨λf hf=>?_,λr hr I hq=>?_⟩
   .rw[Nat.testBit_or,Nat.testBit_and,aw,hf,XV]
    cases e:(D|||ag p).testBit f with
    |false=>rw[XC];rfl
    |true=>
     rw[XU,Bool.not_true,Bool.or_false];rcases l e with z | z
     .rw[←nD f z];exact hf
     .exact R.dn.1.1 f (by rw[←nF f z];exact hf)
   .have e:=TC I
    rw[Nat.testBit_or,Nat.testBit_and,e,XU,Bool.or_eq_true];refine .inl (R.dn.1.2 r hr (gu (G.own r hr ((E _).1 I)) (λf w q=>?_) hg hq));rw[Nat.testBit_or,Nat.testBit_and,aw,w,XU,Bool.not_true,XC,Bool.or_false] at q;exact q
 have J:aZ a_ (ag p) j o x.2=x:=Rd.last x (by rw[List.getLast?_append];rfl);have x1:x.1=dz a_ x.2 j (ag p):=(congrArg Prod.fst J).symm;have x2:x.2=dz a_ x.1 o (ag p):=by
  have:=(congrArg Prod.snd J).symm
  unfold aZ at this;rw[←x1] at this;exact this
 -- one half: the rounds stay below S
 have Ve:On (D|||ag p) x.2 S:=by
  have aa:∀(i:Nat) (y:Nat×Nat),(ps++[x])[i]?=some y->On (D|||ag p) y.2 S:=by
   intro i;induction i with
   |zero=>
    intro y hy;have e:=Rd.first;rw[hy] at e;rw[Yi e];refine cB _ (T _ λf w q=>?_);rw[aw,YZ] at q;rcases l w with z | z
    .rw[←(hs f z).1];exact q.1
    .rw[z] at q;cases q.2
   |succ i ih=>
    intro y hy;have hl:=(YD.mp hy).1;have hi:(ps++[x])[i]?=some ((ps++[x])[i]' 'a'):=ZD 'a';have h0:=ih _ hi;rw[(Rd.next i _ y hi hy).1];exact cB _ (T _ h0)
  exact aa ps.length x (by rw[ZH (YG _),Nat.sub_self];rfl)
 have up1:On (D|||ag p) U x.1:=by rw[x1];exact T _ Ve
 obtain⟨⟨V,Y⟩,c3⟩:=cr a_ x.2 j (ag p);obtain⟨⟨d1,d2⟩,d3⟩:=cr a_ x.1 o (ag p);rw[←x1] at V Y c3;rw[←x2] at d1 d2 d3;have xD:∀f,D.testBit f=true->x.2.testBit f=S.testBit f:=λf hf=>by rw[x2,oH _ _ _ _ _ (L f hf)];exact nD f hf
 -- C
 have cC:∀k a,On (D|||ag p) k x.2->Sub k S->bu a_ told k a->On (D|||ag p) x.1 a:=by
  intro k a hk O t;have P:Sub U a:=bu.anti O t R.up;have B:=c3 ((a&&&(D|||ag p))|||au j (D|||ag p)) ?_
  .intro f w q
   have:=B f q
   rw[Nat.testBit_or,Nat.testBit_and,aw,w,XU,Bool.not_true,XC,Bool.or_false] at this;exact this
  .refine⟨λf hf=>?_,λr hr I hq=>?_⟩
   .rw[Nat.testBit_or,Nat.testBit_and,aw,hf,XV]
    cases e:(D|||ag p).testBit f with
    |false=>rw[XC];rfl
    |true=>
     rw[XU,Bool.not_true,Bool.or_false];rcases l e with z | z
     .exact P f (by rw[←wD f z];exact hf)
     .exact t.1.1 f (by rw[←wF f z];exact hf)
   .have e:=TC I
    rw[Nat.testBit_or,Nat.testBit_and,e,XU,Bool.or_eq_true];refine .inl (t.1.2 r hr (gu (G.own r hr ((E _).1 I)) (λf w q=>?_) hk hq));rw[Nat.testBit_or,Nat.testBit_and,aw,w,XU,Bool.not_true,XC,Bool.or_false] at q;exact q
 -- D
 have K:On (D|||ag p) S x.2/\Sub S S:=by
  refine R.ind (λk=>On (D|||ag p) k x.2/\Sub k S) ⟨λf _ q=>(by rw[Nat.zero_testBit] at q;cases q),Sub.zero _⟩ λk a b ⟨hk,O⟩ t Lb=>?_
  have P:Sub U a:=bu.anti O t R.up;have ha:=cC k a hk O t;refine⟨?_,bu.anti P R.dn Lb⟩;have cl:fF a_ told a (fill m (D|||ag p) x.2):=by
   refine⟨λf hf=>?_,λr hr hq=>?_⟩
   .cases e:(D|||ag p).testBit f with
    |false=>exact fI e (xF ht hf)
    |true=>
     rw[bC e];rcases l e with z | z
     .rw[xD f z];exact R.dn.1.1 f hf
     .exact d1 f (by rw[nF f z];exact hf)
   .cases e:(D|||ag p).testBit r.1 with
    |false=>exact fI e (G.hd r hr)
    |true=>
     rw[bC e];rcases l e with z | z
     .rw[xD _ z]
      refine R.dn.1.2 r hr (gu (G.low r hr z) (λf w q=>?_) (On.of P) hq);rw[bC (kX w),xD f w] at q;exact q
     .refine d2 r hr z (gu (G.own r hr ((E _).1 z)) (λf w q=>?_) ha hq)
      rw[bC w] at q;exact q
  intro f w q
  have:=Lb.2 _ cl f q
  rw[bC w] at this;exact this
 have Yl:On (D|||ag p) x.1 U:=cC S U K.1 (Sub.refl _) R.up;intro f w;have e2:x.2.testBit f=S.testBit f:=by
  rw[Bool.eq_iff_iff];exact⟨Ve f w,K.1 f w⟩
 have e1:x.1.testBit f=U.testBit f:=by
  rw[Bool.eq_iff_iff];exact⟨Yl f w,up1 f w⟩
 refine⟨e2,?_⟩;rw[aw,e2,e1];cases z:S.testBit f with
 |false=>simp
 |true=>
  rw[R.sub f z];rfl
end
end SP
namespace SG
open PySem L2 DD
open SH
variable {m g:Nat}
section
variable {cn:Cn}{ds:List D}{M:MH}{Q:DK}
def Lf{a_:Zy}{x:Nat}(hx:x<m):gZ (bO a_ m) x g ↔ ∃k∈kz a_ x,g=k.1.toNat:=by
 unfold gZ;have e:(bO a_ m).getD x 0=ib a_ x:=by
  unfold bO;rw[List.getD_eq_getElem?_getD,ZG,List.getElem?_range hx];rfl
 rw[e];unfold ib;rw[aB,decide_eq_true_iff,List.mem_map];exact⟨λ⟨k,h1,a⟩=>⟨k,h1,a.symm⟩,λ⟨k,h1,a⟩=>⟨k,h1,a.symm⟩⟩
end
section
variable {cn:Cn}{ds:List D}{M:MH}{Q:DK}
def nC:Ss:=#v[.ret (.bin .Mod (.bin .Mult (.var 2) (.var 2)) (.int 2147483587))]
def nE:Ss:=.cons (.set 2 (.bin .Add (.bin .Mod (.bin .Mult (.bin .Mod (.bin .Mult (.var 2) (.var 2)) (.int 2147483629)) (.int 69621)) (.int 2147483579)) (.var 1))) nC
def lL:Ss:=.cons (.set 2 (.bin .Mod (.bin .Add (.bin .Add (.bin .Mult (.bin .Mod (.var 0) (.int 2147483647)) (.int 48271)) (.bin .Mult (.int 7919) (.var 1))) (.int 1)) (.int 2147483647))) nE
def rq:az:=λds M Q=>∃b d:Int,ds=[.int b,.int d]/\0<=d/\d<1000000/\∀z:Int,Q (.int z) M
theorem Ij(h:rq ds M Q):wSs cn lL (fin Q) (ai ["","",""] ds) M:=by
 obtain⟨b,d,rfl,a,h1,q⟩:=h;show wSs cn lL (fin Q) [some (.int b),some (.int d),none] M;unfold lL;simp! only[List.set];refine⟨by decide,.inr ⟨by decide,by decide⟩,.inl ⟨by decide,by decide⟩,by decide,?_⟩;have c:=qu (y:=b%2147483647*48271+7919*d+1) (m:=2147483647) 'b';generalize (b%2147483647*48271+7919*d+1)%2147483647=y at *;unfold nE;simp! only[List.set];refine⟨.inl ⟨by omega,by omega⟩,by decide,.inr ⟨by decide,by decide⟩,by decide,?_⟩;have f:=qu (y:=y*y%2147483629*69621) (m:=2147483579) 'b';generalize y*y%2147483629*69621%2147483579=z at *;unfold nC;simp! only[];exact⟨.inl ⟨by omega,by omega⟩,by decide,q _⟩
def jW:Ss:=#v[.ret (.bin .Mod (.fn 0 #v[.ix (.var 0) (.int 0),.ix (.var 0) (.int 1)]) (.var 1))]
def pB:Ss:=.cons (.putIx (.var 0) (.int 1) (.bin .Add (.ix (.var 0) (.int 1)) (.int 1))) jW
def pC:Ss:=#v[.ret (.var 2)]
def pE:Ss:=.cons (.putIx (.var 0) (.int 0) (.bin .FloorDiv (.ix (.var 0) (.int 0)) (.var 1))) pC
def m8:Ss:=.cons (.ite (.cmp .Eq (.ix (.var 0) (.int 1)) (.int 0)) (.cons (.set 2 (.bin .Mod (.ix (.var 0) (.int 0)) (.var 1))) pE) .nil) pB
def ie:az:=λds M Q=>∃(p:Addr) (b d:Int) (n:Nat),ds=[.ref p,⇑n]/\M p=some (.lst [.int b,.int d])/\0<=d/\d<100000/\0<n/\n<=1000000/\∀(v:Nat) (b' d':Int),v<n->d<=d'->d'<=d+1->Q (⇑v) (ae M p (.lst [.int b',.int d']))
theorem Ik(c:cn.F.getD 0 'd'=rq)(h:ie ds M Q):wSs cn m8 (fin Q) (ai ["","",""] ds) M:=by
 obtain⟨p,b,d,n,rfl,a,j,h1,hn,k,q⟩:=h;show wSs cn m8 (fin Q) [↑p,~~~n,none] M;have done:∀(z b' d':Int),d<=d'->d'<=d+1->Q (.int (z%(n:Int))) (ae M p (.lst [.int b',.int d'])):=by
  intro z b' d' e1 f;have h1:=qu (y:=z) (m:=(n:Int)) 'a'
  have:=q (z%(n:Int)).toNat b' d' 'a' e1 f
  rwa [Int.toNat_of_nonneg h1.1] at this
 unfold m8;simp_all! only[List.set,a,Dy,Dz];refine vb (λ_=>?_) (λ_=>?_)
 .refine⟨by omega,?_⟩
  unfold pE;simp! only[List.set,a,Dy,Dz,Je];refine⟨⟨by omega (splitDisjunctions:=true),by omega (splitDisjunctions:=true)⟩,?_⟩;unfold pC;simp! only[List.set];exact done _ _ _ (XY _) 'a'
 .unfold pB
  simp! only[List.set,a,Dy,Dz,Je];rw[show lR [D.int b,D.int d].length 1=some 1 from rfl];show wSs cn jW (fin Q) [↑p,~~~n,none] (ae M p (.lst [.int b,.int (d+1)]));unfold jW;simp! only[List.set,ab,Dy,Dz,c];refine⟨b,d+1,rfl,by omega,by omega,λz=>?_⟩;simp! only[];exact⟨by omega,done _ _ _ 'a' (XY _)⟩
end
end SG
namespace SQ
open PySem L2 DD
open SH
end SQ
namespace SG
open PySem L2 DD
open SH
open SQ
variable {M' Qu M:MH}{b d:Int}
section
variable {cn:Cn}{ds:List D}{M:MH}{Q:DK}
def fR:Ss:=#v[.ret (.bi .tuple #v[.var 3])]
def fS:Ss:=#v[.expr (.mt .append (.var 3) #v[.mt .pop (.var 2) #v[.fn 0 #v[.var 0,.bi .len #v[.var 2]]]])]
def nG:Ss:=.cons (.for (.nm 4) (.rg1 #v[.bin .Add (.int 1) (.fn 0 #v[.var 0,.bi .min #v[.int 6,.var 1]])]) fS) fR
def nH:Ss:=.cons (.set 3 (.lst .nil)) nG
def lM:Ss:=.cons (.set 2 (.lrg #v[.var 1])) nH
structure cF (p:Addr) (M M':MH) (b d:Int):Prop where
 but:ExtBut p M M'
 at_:M' p=some (.lst [.int b,.int d])
theorem cF.draw{p:Addr}(h:cF p M M' b d)(b' d':Int):cF p M (ae M' p (.lst [.int b',.int d'])) b' d':=⟨h.but.trans (ExtBut.upd _ _ _),ab⟩
theorem cF.ext{p:Addr}(h:cF p M M' b d)(e:ad M' Qu):cF p M Qu b d:=⟨h.but.trans e.but,e _ _ h.at_⟩
theorem cF.put{p r:Addr}{b d:Int}{o:MO}{M M':MH}(h:cF p M M' b d)(hr:M r=none)(hp:M p≠none):cF p M (ae M' r o) b d:=⟨h.but.put hr,by
 rw[aU (λz=>hp (by rw[z];exact hr))];exact h.at_⟩
theorem cF.none{p r:Addr}{b d:Int}{M M':MH}(h:cF p M M' b d)(hr:M' r=none):M r=none:=by
 cases e:M r with
 |none=>rfl
 |some o=>
  by_cases z:r=p
  .rw[z,h.at_] at hr;cases hr
  .have:=h.but r o z e
   rw[hr] at this;cases this
def oK:az:=λds M Q=>∃(p:Addr) (b d:Int) (m:Nat),ds=[.ref p,⇑m]/\M p=some (.lst [.int b,.int d])/\0<=d/\d<50000/\(0<m/\m<=120)/\∀(fs:Zj) M' b' d',fs.Nodup->(∀f∈fs,f<m)->(0<fs.length/\fs.length<=6)->d<=d'->d'<=d+10->cF p M M' b' d'->Q (.tup (nats fs)) M'
theorem Fz(f0:cn.F.getD 0 'd'=ie)(h:oK ds M Q):wSs cn lM (fin Q) (ai ["","","","",""] ds) M:=by
 obtain⟨p,b,d,m,rfl,hM,TF,Ym,hm,q⟩:=h;show wSs cn lM (fin Q) [↑p,~~~m,none,none,none] M;have L:M p≠none:=by rw[hM];simp
 have B1:cF p M M b d:=⟨ExtBut.refl _ _,hM⟩;unfold lM;simp! only[List.set];refine⟨⟨by omega (splitDisjunctions:=true),by omega (splitDisjunctions:=true)⟩,λc SU=>?_⟩;rw[eQ];have Vf:=SU;have S:cF p M (ae M c (.lst (nats (List.range m)))) b d:=B1.ext (ad.new SU);have O:ae M c (MO.lst (nats (List.range m))) c=some (.lst (nats (List.range m))):=ab;generalize ae M c (MO.lst (nats (List.range m)))=M2 at *;unfold nH;simp! only[List.set];intro g C;have Vh:M g=none:=S.none C;have T:cF p M (ae M2 g (.lst [])) b d:=S.ext (ad.new C);have g3:ae M2 g (MO.lst []) g=some (.lst (nats [])):=ab;have r3:ae M2 g (MO.lst []) c=some (.lst (nats (List.range m))):=(ad.new C) _ _ O;have F_:g≠c:=λz=>by subst z;rw[C] at O;cases O
 have Rf:p≠c:=λz=>by subst z;exact L Vf
 have Vi:p≠g:=λz=>by subst z;exact L Vh
 generalize ae M2 g (MO.lst [])=P at *;clear B1 S O C;clear M2;have D3:Drawn m (List.range m) []:=⟨List.nodup_range,λf hf=>by simpa using hf,by simp⟩;unfold nG;simp! only[List.set,f0];refine⟨p,b,d,min 6 m,?_,T.at_,TF,by omega,by omega,by omega,λw G I hw U Qn=>?_⟩
 .congr 3
  split<;>omega
 have B4:=T.draw G I;have g4:ae P p (MO.lst [.int G,.int I]) g=some (.lst (nats [])):=by rw[aU Vi.symm];exact g3
 have r4:ae P p (MO.lst [.int G,.int I]) c=some (.lst (nats (List.range m))):=by rw[aU Rf.symm];exact r3
 generalize ae P p (MO.lst [.int G,.int I])=M4 at *;clear T g3 r3;clear P;refine⟨⟨by omega,by omega⟩,?_⟩;rw[show(1:Int)+(w:Int)=((w+1:Nat):Int) by omega,eQ];have al:w+1<=m/\w+1<=6:=by omega
 have last:∀(fs rs:Zj) (n:Zz) (k j:Int) (a:MH),fs.length=w+1->Drawn m rs fs->d<=j->j<=d+1+fs.length->cF p M a k j->a g=some (.lst (nats fs))->wSs cn fR (fin Q) [↑p,~~~m,↑c,↑g,n] a:=by
  intro fs rs n k j a Xo r A J u y;unfold fR;simp! only[List.set,y,cu];exact q fs a k j (List.nodup_append.1 r.nd).1 (λf hf=>r.lt f (YC.2 (.inl hf))) ⟨by omega,by omega⟩ A 'a' u
 have body:∀(E:cP) (fs rs:Zj) (n:Zz) (k j:Int) (a:MH),Drawn m rs fs->0<rs.length->fs.length<=6->d<=j->j<=d+1+fs.length->cF p M a k j->a g=some (.lst (nats fs))->a c=some (.lst (nats rs)) ->
   (∀B R t l o,Drawn m R B->B.length=fs.length+1->d<=l->l<=d+1+B.length->cF p M o t l->o g=some (.lst (nats B))->o c=some (.lst (nats R))->E.nx [↑p,~~~m,↑c,↑g,n] o) ->
   wSs cn fS E [↑p,~~~m,↑c,↑g,n] a:=by
  intro E fs rs n k j a r UX ap A J u y K kk;have Rt:=r.len;unfold fS;simp! only[List.set,f0,y,K,gJ];refine⟨rfl,rfl,p,k,j,rs.length,rfl,u.at_,by omega,by omega,UX,by omega,λi t l hi aa ac=>?_⟩;have V:=u.draw t l;have W:ae a p (MO.lst [.int t,.int l]) g=some (.lst (nats fs)):=by rw[aU Vi.symm];exact y
  have Y:ae a p (MO.lst [.int t,.int l]) c=some (.lst (nats rs)):=by rw[aU Rf.symm];exact K
  generalize ae a p (MO.lst [.int t,.int l])=o at *;have hx:rs[i]?=some rs[i]:=ZD hi;generalize rs[i]=x at hx;have Xj:(nats rs)[(i:Int).toNat]?= ~~~x:=by unfold nats;rw[YX,ZG,hx];rfl
  simp only[Y,Xj];refine⟨⟨by omega (splitDisjunctions:=true),by omega (splitDisjunctions:=true)⟩,?_⟩;rw[YX,DB];have B7:cF p M (ae o c (.lst (nats (rs.eraseIdx i)))) t l:=V.put Vf L;have g7:ae o c (MO.lst (nats (rs.eraseIdx i))) g=some (.lst (nats fs)):=by rw[aU F_];exact W
  have r7:ae o c (MO.lst (nats (rs.eraseIdx i))) c=some (.lst (nats (rs.eraseIdx i))):=ab;generalize ae o c (MO.lst (nats (rs.eraseIdx i)))=M7 at *;simp only[g7,gJ];have hsz:(2000:Nat)<sizeLine:=by decide
  refine⟨by omega,?_⟩;rw[show nats fs++[D.int (x:Int)]=nats (fs++[x]) by unfold nats;rw[ZL];rfl];exact kk (fs++[x]) (rs.eraseIdx i) t l _ (r.pop hx) (by rw[ZK];rfl) 'a' (by rw[ZK,XB];omega) (B7.put Vh L) ab (by rw[aU F_.symm];exact r7)
 have Z:∀(xs:Zj) (fs rs:Zj) (n:Zz) (k j:Int) (a:MH),fs.length+xs.length=w+1->Drawn m rs fs->d<=j->j<=d+1+fs.length->cF p M a k j->a g=some (.lst (nats fs))->a c=some (.lst (nats rs)) ->
   ar (λ_=>True) (.nm 4) (wSs cn fS) { nx:=wSs cn fR (fin Q),rt:=Q } (nats xs) [↑p,~~~m,↑c,↑g,n] a:=by
  intro xs;induction xs with
  |nil=>
   intro fs rs n k j a hl r A J u y K;rw[show nats []=[] from rfl,ar];exact last fs rs n k j a (by simpa using hl) r A J u y
  |cons x xs ih=>
   intro fs rs n k j a hl r A J u y K;rw[YJ] at hl
   have:=r.len
   rw[show nats (x::xs)=⇑x::nats xs from rfl,ar];refine body _ fs rs _ k j a r 'a' 'a' A J u y K ?_;intro B R t l o D6 h6 U Qn V W Y;exact⟨trivial,ih B R _ t l o 'a' D6 U Qn V W Y⟩
 exact Z (List.range (w+1)) [] (List.range m) none G I M4 (by simp) D3 U (by simp;omega) B4 g4 r4
end
section
variable {cn:Cn}{ds:List D}{M:MH}{Q:DK}
def pF:Ss:=#v[.ret (.tup #v[.str "lead",.var 3,.fn 0 #v[.var 0,.bi .len #v[.var 3]]])]
def pG:Ss:=.cons (.ite (.cmp .Eq (.var 2) (.int 4)) #v[.ret (.tup #v[.str "some",.bin .Add (.int 1) (.fn 0 #v[.var 0,.int 6]),.var 3])] .nil) pF
def pH:Ss:=.cons (.set 3 (.fn 1 #v[.var 0,.var 1])) pG
def pI:Ss:=.cons (.ite (.cmp .Lt (.var 2) (.int 4)) #v[.ret (.tup #v[.str "lack",.fn 0 #v[.var 0,.var 1]])] .nil) pH
def pJ:Ss:=.cons (.ite (.cmp .Lt (.var 2) (.int 2)) #v[.ret (.tup #v[.str "have",.fn 0 #v[.var 0,.var 1]])] .nil) pI
def m9:Ss:=.cons (.set 2 (.fn 0 #v[.var 0,.int 6])) pJ
def rz:az:=λds M Q=>∃(p:Addr) (b d:Int) (m:Nat),ds=[.ref p,⇑m]/\M p=some (.lst [.int b,.int d])/\0<=d/\d<40000/\(0<m/\m<=120)/\∀(t:CT) M' b' d',t.fit (m:Int)->d<=d'->d'<=d+12->cF p M M' b' d'->Q t.told M'
theorem Il(l:cn.F.getD 0 'd'=ie)(E:cn.F.getD 1 'd'=oK)(h:rz ds M Q):wSs cn m9 (fin Q) (ai ["","","",""] ds) M:=by
 obtain⟨p,b,d,m,rfl,G,I,L,hm,q⟩:=h;show wSs cn m9 (fin Q) [↑p,~~~m,none,none] M;unfold m9;simp! only[List.set,l];refine⟨p,b,d,6,rfl,G,I,by omega,by decide,by decide,λv c j hv O P=>?_⟩;have k:cF p M (ae M p (.lst [.int c,.int j])) c j:=⟨ExtBut.upd _ _ _,ab⟩;generalize ae M p (MO.lst [.int c,.int j])=M1 at *;unfold pJ;simp! only[List.set,l];refine vc (λ_=>?_) (λ_=>?_)
 .refine⟨p,c,j,m,rfl,k.at_,by omega,by omega,hm.1,by omega,λw o r hw B C=>?_⟩
  exact q (.hav (w:Int)) _ o r ⟨by omega,by omega⟩ 'a' 'a' (k.draw o r)
 unfold pI;simp! only[List.set,l];refine vc (λ_=>?_) (λ_=>?_)
 .refine⟨p,c,j,m,rfl,k.at_,by omega,by omega,hm.1,by omega,λw o r hw B C=>?_⟩
  exact q (.lck (w:Int)) _ o r ⟨by omega,by omega⟩ 'a' 'a' (k.draw o r)
 unfold pH;simp! only[List.set,E];refine⟨p,c,j,m,rfl,k.at_,by omega,by omega,hm,λfs M2 y z A lt hl B C a=>?_⟩;have a:cF p M M2 y z:=⟨k.but.trans a.but,a.at_⟩;have fit:∀f∈fs.map (λ(f:Nat)=>(f:Int)),0<=f/\f<(m:Int):=by
  intro f hf;obtain⟨g,hg,rfl⟩:=List.mem_map.1 hf
  have:=lt g hg
  omega
 have nd:(fs.map λ(f:Nat)=>(f:Int)).Nodup:=Au A;have R:(fs.map λ(f:Nat)=>(f:Int)).length=fs.length:=ZF _;unfold pG;simp! only[List.set,l,gJ];refine⟨⟨rfl,rfl,(by decide:(0:Nat)<=30)⟩,?_⟩;refine vb (λ_=>?_) (λ_=>?_)
 .refine⟨p,y,z,6,rfl,a.at_,by omega,by omega,by decide,by decide,λn t u hn J K=>?_⟩
  rw[jL];exact q (.som (1+(n:Int)) _) _ t u ⟨⟨by omega,by omega⟩,⟨by omega,by omega⟩,nd,fit⟩ 'a' 'a' (a.draw t u)
 .unfold pF
  simp! only[List.set,l,gJ];refine⟨p,y,z,fs.length,rfl,a.at_,by omega,by omega,by omega,by omega,λn t u hn J K=>?_⟩;rw[jL];exact q (.led _ n) _ t u ⟨⟨by omega,by omega⟩,nd,fit⟩ 'a' 'a' (a.draw t u)
end
section
variable {cn:Cn}{ds:List D}{M:MH}{Q:DK}
def qy:Ss:=#v[.ret (.tup #v[.var 2,.comp 1 (.fn 0 #v[.var 0,.var 1]) (.nm 3) (.rg1 #v[.fn 1 #v[.var 0,.ix (.lst #v[.int 3,.int 7]) (.fn 1 #v[.var 0,.int 2])]]) .no])]
def oM:Ss:=.cons (.set 2 (.fn 1 #v[.var 0,.var 1])) qy
def uT:az:=λds M Q=>∃(p:Addr) (b d:Int) (m:Nat),ds=[.ref p,⇑m]/\M p=some (.lst [.int b,.int d])/\0<=d/\d<30000/\(0<m/\m<=120)/\∀(f:Nat) (ts:List CT) a M' b' d',f<m->ts.length<=6->(∀t∈ts,t.fit (m:Int))->M a=none->cF p M M' b' d'->M' a=some (.lst (ts.map CT.told))->Q (.tup [⇑f,.ref a]) M'
theorem Lg(f0:cn.F.getD 0 'd'=rz)(U:cn.F.getD 1 'd'=ie)(h:uT ds M Q):wSs cn oM (fin Q) (ai ["","",""] ds) M:=by
 obtain⟨p,b,d,m,rfl,V,TF,Ym,hm,q⟩:=h;show wSs cn oM (fin Q) [↑p,~~~m,none] M;have Qy:M p≠none:=by rw[V];simp
 unfold oM;simp! only[List.set,U];refine⟨p,b,d,m,rfl,V,TF,by omega,hm.1,by omega,λf B C hf x1 x2=>?_⟩;have W:cF p M (ae M p (.lst [.int B,.int C])) B C:=⟨ExtBut.upd _ _ _,ab⟩;generalize ae M p (MO.lst [.int B,.int C])=M1 at *;have run:∀(k:D) (c:MH) (j a:Int) (Z:DK),0<=a->a<40000->cF p M c j a->(∀(t:CT) E L u,t.fit (m:Int)->a<=u->u<=a+12->cF p c E L u->Z t.told E) ->
   wE cn (.fn 0 (.cons (.var 0) (.cons (.var 1) .nil))) [↑p,~~~m,~~~f,some k] c Z:=by
  intro k c j a Z e1 O l hZ;simp! only[f0];exact⟨p,j,a,m,rfl,l.at_,e1,O,hm,hZ⟩
 have step:∀(g:MH->Prop) (F:List D->MH->Prop),(∀M',g M')->∀(G:Nat),(∀(ts:List CT) (c:MH) (j a:Int),ts.length=G->(∀t∈ts,t.fit (m:Int))->cF p M c j a->F (ts.map CT.told) c)->∀(xs:Zj) (ts:List CT) (v:Zz) (c:MH) (j a:Int),ts.length+xs.length=G->G<=6->(∀t∈ts,t.fit (m:Int))->cF p M c j a->0<=a->a<=30003+12*ts.length ->
   aH g (.nm 3) (λx M Q=>Q true M) (wE cn (.fn 0 (.cons (.var 0) (.cons (.var 1) .nil)))) F (nats xs) (ts.map CT.told) [↑p,~~~m,~~~f,v] c:=by
  intro g F hg G K xs;induction xs with
  |nil=>
   intro ts v c j a hn A ht l e1 O;rw[show nats []=[] from rfl,aH];exact K ts c j a (by simpa using hn) ht l
  |cons x xs ih=>
   intro ts v c j a hn A ht l e1 O;rw[YJ] at hn;rw[show nats (x::xs)=⇑x::nats xs from rfl,aH];show wE cn (.fn 0 (.cons (.var 0) (.cons (.var 1) .nil))) [↑p,~~~m,~~~f,~~~x] c λy M2=>g M2/\aH g (.nm 3) (λx M Q=>Q true M) _ F (nats xs) (ts.map CT.told++[y]) [↑p,~~~m,~~~f,~~~x] M2
   refine run _ c j a _ e1 'a' l λt E L u ft y1 y2 Y=>⟨hg _,?_⟩
   rw[show ts.map CT.told++[t.told]=(ts++[t]).map CT.told by rw[ZL];rfl];refine ih (ts++[t]) _ E L u (by rw[ZK,XB];omega) A (λt' VL=>?_) ⟨l.but.trans Y.but,Y.at_⟩ 'a' (by rw[ZK,XB];omega);rcases YC.1 VL with z | z
   .exact ht t' z
   .rw[XQ.1 z];exact ft
 unfold qy;simp! only[List.set,List.cons_append,List.nil_append,List.replicate,U];intro r P6;have P:M r=none:=W.none P6;have R:p≠r:=λz=>Qy (by rw[z];exact P)
 have B2:=W.ext (ad.new P6 (o:=.lst [.int 3,.int 7]));have g2:ae M1 r (MO.lst [.int 3,.int 7]) r=some (.lst [.int 3,.int 7]):=ab;generalize ae M1 r (MO.lst [.int 3,.int 7])=M2 at *;refine⟨p,B,C,2,rfl,B2.at_,by omega,by omega,by decide,by decide,λv I J hv y1 y2=>?_⟩;have B3:=B2.draw I J;have g3:ae M2 p (MO.lst [.int I,.int J]) r=some (.lst [.int 3,.int 7]):=by rw[aU (Ne.symm R)];exact g2
 generalize ae M2 p (MO.lst [.int I,.int J])=M3 at *;have vv:v=0\/v=1:=by omega
 obtain⟨n,hn,en⟩:∃n:Nat,(n=3\/n=7)/\de [D.int 3,D.int 7] (v:Int)= ~~~n:=by
  rcases vv with rfl | rfl
  .exact⟨3,.inl rfl,cf _ _⟩
  .exact⟨7,.inr rfl,cm _ _ _⟩
 simp only[g3,en];refine⟨p,I,J,n,rfl,B3.at_,by omega,by omega,by omega,by omega,λk S T hk z1 z2=>?_⟩;have B4:=B3.draw S T;generalize ae M3 p (MO.lst [.int S,.int T])=M4 at *;refine⟨⟨by omega,by omega⟩,?_⟩;rw[eQ];refine step _ _ (λ_=>trivial) k (λts c j a hl ht l p' QY=>?_) (List.range k) [] none M4 S T (by simp) 'a' (λt z=>nomatch z) B4 'a' (by simp;omega);exact q f ts p' _ j a hf 'a' ht (l.none QY) (l.ext (ad.new QY)) ab
end
end SG
namespace SG
open PySem L2 DD
open SH
def NB(z:Bool×Int):Int×Bool:=(z.2,z.1)
def Im(L:Nat->List (Int×Bool))(h:Nat)(ks:List (Int×Bool))(f:Nat):List (Int×Bool):=if f=h then L f++ks else L f
def zD(rs:Zy)(f:Nat):List (Int×Bool):=rs.flatMap λx=>if f=x.1 then(bd x).map NB else[]
def Io(rs:Zy)(x:Row):zD (rs++[x])=Im (zD rs) x.1 ((bd x).map NB):=by
 funext f;unfold zD Im;rw[List.flatMap_append];show _++((if f=x.1 then(bd x).map NB else[])++[])=_;rw[ZA];split
 .rfl
 .rw[ZA]
theorem zE(a_:Zy)(f:Nat):∀k,k<=a_.length->sv a_ (cQ (aJ a_) k f)=zD (a_.take k) f
 |0,_=>rfl
 |k+1,hk=>by
  have hx:a_[k]?=some (a_[k]'hk):=ZD hk;have b:(aJ a_)[k]?=some (a_[k]'hk).1:=by unfold aJ;rw[ZG,hx];rfl
  rw[ow f b,List.take_add_one,hx];show _=zD (a_.take k++[a_[k]'hk]) f;rw[Io];unfold sv;rw[List.flatMap_append];have a:=zE a_ f k 'a';unfold sv at a;rw[a];unfold Im;split
  .show _++(((a_[k]?.map bd).getD []).map _++[])=_
   rw[ZA,hx];rfl
  .show _++[]=_
   rw[ZA]
def Ip(a_:Zy)(f:Nat):kz a_ f=(zD a_ f).foldl putP []:=by
 unfold kz;rw[zE a_ f _ (YG _),List.take_length]
end SG
namespace SP
open PySem L2 DD
open SH SG
variable {s u f pb pp s':Nat}{ws:Zj}{a b:List (List Nat)}{N M' M:MH}{ke:Addr}
def lN:Ss:=#v[.ret (.and (.bi .isinst #v[.var 0,.ty "int"]) (.not (.bi .isinst #v[.var 0,.ty "bool"])))]
def oN:az:=λds M Q=>∃i:Int,ds=[.int i]/\Q (.bl true) M
def FA:(aX f s' s u pp pb).lookup ("answer_at" : Str)=none:=rfl
section
variable {cn:Cn}{ds:List D}{M:MH}{Q:DK}{c:CA}{S V:Addr}
def Iq(h:oN ds M Q):wSs cn lN (fin Q) (ai [""] ds) M:=by
 obtain⟨i,rfl,q⟩:=h;show wSs cn lN (fin Q) [some (.int i)] M;unfold lN;simp! only[j0];refine⟨by decide,?_⟩;rw[show t7 "int" "int" = true by decide];simp! only[j0];refine⟨by decide,?_⟩;rw[show t7 "int" "bool" = false by decide];exact q
end
theorem BP{ls rs:Zj}(w:Walk ls rs):∀(n dn:Nat),Dn rs ls.length dn->((bI (aY rs) ls.length ls.length).filter (nd dn)).length=n->∀f,f<ls.length->dn.testBit f=false->∃p∈lh ls (bI (aY rs) ls.length ls.length) n dn,f∈p
 |0,dn,hd,hn,f,hf,hb=>by
  have q:=w.eqv;obtain⟨x,h1,c,g⟩:=lf q f hf;have j:x<ls.length:=by omega
  obtain⟨l,e⟩:=eg q j g;have:cls (aY rs) ls.length x∈(bI (aY rs) ls.length ls.length).filter (nd dn):=ZV.2 ⟨Fo q j,by
   unfold nd;rw[e,List.headD_cons,hd x f j hf c,hb];rfl⟩
  rw[List.length_eq_zero_iff.1 hn] at this;cases this
 |n+1,dn,hd,hn,f,hf,hb=>by
  obtain⟨p,h1,_,_,_,_,c,g⟩:=zq w hd hn;rw[lh,h1];by_cases hp:f∈p
  .exact⟨p,.head _,hp⟩
  .obtain⟨r,hr,k⟩:=BP w n _ g c f hf (by rw[Nat.testBit_or,hb,aB,ZQ hp];rfl)
   exact⟨r,.tail _ hr,k⟩
theorem zF{ls:Zj}{ps:List (List Nat)}:∀(n dn:Nat) (a b:List (List Nat)) (p:Zj),lh ls ps n dn=a++p::b->∀x∈p,∀g,gZ ls x g->g∈p\/dn.testBit g=true \/ ∃r∈a,g∈r
 |0,dn,a,b,p,h=>by
  rw[lh] at h
  have:=congrArg List.length h
  rw[ZK,YJ,YV] at this;omega
 |n+1,dn,a,b,p,h=>by
  rw[lh] at h;cases e:ps.find? (may ls dn) with
  |none=>
   rw[e] at h
   have:=congrArg List.length h
   rw[ZK,YJ,YV] at this;omega
  |some r=>
   rw[e] at h;cases a with
   |nil=>
    have h:=(List.cons.inj h).1;subst h;have c:=List.find?_some e;unfold may at c;rw[YZ] at c
    have:=zp.1 c.2
    intro x hx g hg;rcases this x hx g hg with z | z
    .exact .inl z
    .exact .inr (.inl z)
   |cons k a=>
    obtain⟨h1,j⟩:=List.cons.inj h;subst h1;intro x hx g hg;rcases zF n _ a b p j x hx g hg with z | z | ⟨q,hq,z⟩
    .exact .inl z
    .rw[Nat.testBit_or,Bool.or_eq_true,aB,decide_eq_true_iff] at z
     rcases z with z | z
     .exact .inr (.inl z)
     .exact .inr (.inr ⟨_,.head _,z⟩)
    .exact .inr (.inr ⟨q,.tail _ hq,z⟩)
section
variable {a_:Zy}{m:Nat}
def zG{x:Row}(hx:x∈a_){z:Bool×Int}(c:z∈bd x):(z.2,z.1)∈kz a_ x.1:=by
 rw[Ip];refine((oB _ [] List.nodup_nil).2 _).2 (.inr ?_);unfold zD;refine List.mem_flatMap.2 ⟨x,hx,?_⟩;rw[if_pos rfl];exact List.mem_map.2 ⟨z,c,rfl⟩
def Lh(ok:bV m a_)(hf:f<m):∃p∈a8 a_ m,f∈p:=by
 have c:(bO a_ m).length=m:=by unfold bO;rw[ZF,ZJ]
 have g:∀l:List (List Nat),l.filter (nd 0)=l:=λl=>List.filter_eq_self.2 λp _=>by unfold nd;rw[Nat.zero_testBit];rfl
 have:=BP (BH ok) (bI (aY (bH (bO a_ m) m)) m m).length 0 Dn.zero (by rw[g,c]) f (by rw[c];exact hf) (Nat.zero_testBit _)
 rw[c] at this;exact this
def zH(ok:bV m a_){p:Zj}(h:a8 a_ m=a++p::b){x:Row}(hx:x∈a_)(hp:x.1∈p){z:Bool×Int}(c:z∈bd x):0<=z.2/\(z.2.toNat∈p \/ ∃r∈a,z.2.toNat∈r):=by
 have hm:=(ok.fit x hx).1;have hk:=zG hx c;refine⟨(oG ok x.1 _ hk).1,?_⟩;rcases zF _ 0 a b p h x.1 hp z.2.toNat ((Lf hm).2 ⟨_,hk,rfl⟩) with y | y | y
 .exact .inl y
 .rw[Nat.zero_testBit] at y;cases y
 .exact .inr y
def gR:(ag a.flatten).testBit f=true ↔ ∃r∈a,f∈r:=by
 rw[aB,decide_eq_true_iff,List.mem_flatten]
def vJ(ok:bV m a_){p:Zj}(h:a8 a_ m=a++p::b):DH a_ m (ag a.flatten) p:=by
 refine⟨λx hx=>(ok.fit x hx).1,λx hx hd z c=>?_,λx hx hd z c=>?_,λf hf=>?_⟩
 .obtain⟨r,hr,g⟩:=gR.1 hd
  obtain⟨n,o,rfl⟩:=List.append_of_mem hr;obtain⟨j,k⟩:=zH ok (a:=n) (b:=o++p::b) (p:=r) (by rw[h];simp) hx g c;refine⟨j,gR.2 ?_⟩;rcases k with y | ⟨q,hq,y⟩
  .exact⟨r,by simp,y⟩
  .exact⟨q,by simp[hq],y⟩
 .obtain⟨j,k⟩:=zH ok h hx hd c
  refine⟨j,?_⟩;rw[Nat.testBit_or,Bool.or_eq_true];rcases k with y | y
  .exact .inr (by rw[aB];exact YW y)
  .exact .inl (gR.2 y)
 .cases e:(ag a.flatten).testBit f with
  |false=>rfl
  |true=>
   obtain⟨r,hr,t⟩:=gR.1 e;have l:=(uP ok).1;rw[h] at l;exact absurd hf ((List.pairwise_append.1 l).2.2 r hr p (.head _) f t)
end
section
variable {a_:Zy}{t0 t1 S0 U0 S1 U1 m D:Nat}{p:Zj}
def wQ(G:DH a_ m D p)(t:jo a_ t0 S0 U0)(l:jo a_ t1 S1 U1)(S:t0<2 ^ m)(h1:t1<2 ^ m)(ht:∀f∈p,t0.testBit f=t1.testBit f)
  (T:∀x∈a_,x.1∈p->∀z∈bd x,D.testBit z.2.toNat=true->S0.testBit z.2.toNat=S1.testBit z.2.toNat/\U0.testBit z.2.toNat=U1.testBit z.2.toNat):
  On (ag p) S1 S0/\On (ag p) U0 U1:=by
 have A:∀f,(ag p).testBit f=true↔f∈p:=λf=>by rw[aB];exact decide_eq_true_iff
 have U:∀f,D.testBit f=true->(ag p).testBit f=false:=λf hf=>by
  cases e:(ag p).testBit f with
  |false=>rfl
  |true=>rw[G.apart f ((A f).1 e)] at hf;cases hf
 have B:∀{f},(D|||ag p).testBit f=true->D.testBit f=true\/(ag p).testBit f=true:=λh=>by rw[Nat.testBit_or,Bool.or_eq_true] at h;exact h
 have kX:∀{f},D.testBit f=true->(D|||ag p).testBit f=true:=λh=>by rw[Nat.testBit_or,h];rfl
 have I:∀{f},(ag p).testBit f=true->(D|||ag p).testBit f=true:=λh=>by rw[Nat.testBit_or,h,Bool.or_true]
 -- a on the part,b below it
 let c:=λa b:Nat=>(a&&&ag p)|||au b (ag p)
 have g:∀a b f,(ag p).testBit f=true->(c a b).testBit f=a.testBit f:=λa b f hf=>by
  show((a&&&ag p)|||au b (ag p)).testBit f=_;rw[Nat.testBit_or,Nat.testBit_and,aw,hf,XU,Bool.not_true,XC,Bool.or_false]
 have j:∀a b f,D.testBit f=true->(c a b).testBit f=b.testBit f:=λa b f hf=>by
  show((a&&&ag p)|||au b (ag p)).testBit f=_;rw[Nat.testBit_or,Nat.testBit_and,aw,U f hf,XC,Bool.not_false,XU,XG]
 -- what the part's a_ lean on
 let V:=ag (((a_.filter λx=>decide (x.1∈p)).flatMap bd).map λz=>z.2.toNat);have O:∀x∈a_,x.1∈p->Ji V x:=λx hx hp z n=>by
  refine⟨(G.own x hx hp z n).1,?_⟩;show(ag _).testBit _=true;rw[aB,decide_eq_true_iff];exact List.mem_map.2 ⟨z,List.mem_flatMap.2 ⟨x,ZV.2 ⟨hx,YW hp⟩,n⟩,rfl⟩
 have J:∀f,V.testBit f=true->(D.testBit f=true/\S0.testBit f=S1.testBit f/\U0.testBit f=U1.testBit f)\/(ag p).testBit f=true:=λf hf=>by
  have hf:(ag (((a_.filter λx=>decide (x.1∈p)).flatMap bd).map λz=>z.2.toNat)).testBit f=true:=hf;rw[aB,decide_eq_true_iff] at hf;obtain⟨z,n,rfl⟩:=List.mem_map.1 hf;obtain⟨x,hx,n⟩:=List.mem_flatMap.1 n;obtain⟨hx,hp⟩:=ZV.1 hx;have hp:=XR hp;rcases B (G.own x hx hp z n).2 with y | y
  .exact .inl ⟨y,T x hx hp z n y⟩
  .exact .inr y
 have P:∀k a,On (ag p) k S0->Sub k S1->bu a_ t1 k a->On (ag p) U0 a:=by
  intro k a hk C o;have E:Sub U1 a:=bu.anti C o l.up;have cl:fF a_ t0 S0 (fill m (D|||ag p) (c a U0)):=by
   refine⟨λf hf=>?_,λr hr hq=>?_⟩
   .cases e:(D|||ag p).testBit f with
    |false=>exact fI e (xF S hf)
    |true=>
     rw[bC e];rcases B e with z | z
     .rw[j _ _ f z];exact t.up.1.1 f hf
     .rw[g _ _ f z];exact o.1.1 f (by rw[←ht f ((A f).1 z)];exact hf)
   .cases e:(D|||ag p).testBit r.1 with
    |false=>exact fI e (G.hd r hr)
    |true=>
     rw[bC e];rcases B e with z | z
     .rw[j _ _ _ z]
      refine t.up.1.2 r hr (gu (G.low r hr z) (λf w q=>?_) (On.refl _ _) hq);rw[bC (kX w),j _ _ f w] at q;exact q
     .rw[g _ _ _ z]
      refine o.1.2 r hr (gu (O r hr ((A _).1 z)) (λf w q=>?_) (λf w q=>?_) hq)
      .rcases J f w with⟨y,-,K⟩ | y
       .rw[bC (kX y),j _ _ f y,K] at q
        exact E f q
       .rw[bC (I y),g _ _ f y] at q
        exact q
      .rcases J f w with⟨y,L,-⟩ | y
       .rw[L];exact C f q
       .exact hk f y q
  intro f w q
  have:=t.up.2 _ cl f q
  rw[bC (I w),g _ _ f w] at this;exact this
 have st:On (ag p) S1 S0/\Sub S1 S1:=by
  refine l.ind (λk=>On (ag p) k S0/\Sub k S1) ⟨λf _ q=>(by rw[Nat.zero_testBit] at q;cases q),Sub.zero _⟩ λk a b ⟨hk,C⟩ o R=>?_
  have E:Sub U1 a:=bu.anti C o l.up;have ha:=P k a hk C o;refine⟨?_,bu.anti E l.dn R⟩;have cl:fF a_ t1 a (fill m (D|||ag p) (c S0 S1)):=by
   refine⟨λf hf=>?_,λr hr hq=>?_⟩
   .cases e:(D|||ag p).testBit f with
    |false=>exact fI e (xF h1 hf)
    |true=>
     rw[bC e];rcases B e with z | z
     .rw[j _ _ f z];exact l.dn.1.1 f hf
     .rw[g _ _ f z];exact t.dn.1.1 f (by rw[ht f ((A f).1 z)];exact hf)
   .cases e:(D|||ag p).testBit r.1 with
    |false=>exact fI e (G.hd r hr)
    |true=>
     rw[bC e];rcases B e with z | z
     .rw[j _ _ _ z]
      refine l.dn.1.2 r hr (gu (G.low r hr z) (λf w q=>?_) (On.of E) hq);rw[bC (kX w),j _ _ f w] at q;exact q
     .rw[g _ _ _ z]
      refine t.dn.1.2 r hr (gu (O r hr ((A _).1 z)) (λf w q=>?_) (λf w q=>?_) hq)
      .rcases J f w with⟨y,L,-⟩ | y
       .rw[bC (kX y),j _ _ f y,←L] at q
        exact q
       .rw[bC (I y),g _ _ f y] at q
        exact q
      .rcases J f w with⟨y,-,K⟩ | y
       .exact E f (by rw[←K];exact q)
       .exact ha f y q
  intro f w q
  have:=R.2 _ cl f q
  rw[bC (I w),g _ _ f w] at this;exact this
 exact⟨st.1,P S1 U1 st.1 (Sub.refl _) l.up⟩
def FB(G:DH a_ m D p)(g:jo a_ t0 S0 U0)(j:jo a_ t1 S1 U1)(k:t0<2 ^ m)(h1:t1<2 ^ m)(ht:∀f∈p,t0.testBit f=t1.testBit f)
  (c:∀x∈a_,x.1∈p->∀z∈bd x,D.testBit z.2.toNat=true->S0.testBit z.2.toNat=S1.testBit z.2.toNat/\U0.testBit z.2.toNat=U1.testBit z.2.toNat):
  ∀f∈p,S0.testBit f=S1.testBit f/\U0.testBit f=U1.testBit f:=by
 obtain⟨n,o⟩:=wQ G g j k h1 ht c;obtain⟨r,t⟩:=wQ G j g h1 k (λf hf=>(ht f hf).symm) λx hx hp z l hd=>⟨(c x hx hp z l hd).1.symm,(c x hx hp z l hd).2.symm⟩
 intro f hf;have w:(ag p).testBit f=true:=by rw[aB];exact YW hf
 exact⟨Bool.eq_iff_iff.2 ⟨r f w,n f w⟩,Bool.eq_iff_iff.2 ⟨o f w,t f w⟩⟩
end
def Li:s&&&u≠0 ↔ ∃f,s.testBit f=true/\u.testBit f=true:=by
 constructor
 .intro h
  refine Classical.byContradiction λz=>h (Nat.eq_of_testBit_eq λf=>?_)
  rw[Nat.testBit_and,Nat.zero_testBit];cases e:s.testBit f
  .rfl
  .cases e2:u.testBit f
   .rfl
   .exact absurd ⟨f,e,e2⟩ z
 .rintro⟨f,h1,h2⟩ e
  have:=congrArg (·.testBit f) e
  simp only[Nat.testBit_and,h1,h2,Nat.zero_testBit] at this;cases this
theorem zI(a_:Zy):∀(p:Zj) (w f:Nat),(p.foldl (λa g=>a|||ib a_ g) w).testBit f=true↔w.testBit f=true \/ ∃g∈p,(ib a_ g).testBit f=true
 |[],w,f=>⟨.inl,λz=>z.elim id λ⟨_,h,_⟩=>nomatch h⟩
 |g::p,w,f=>by
  rw[List.foldl_cons,zI a_ p,Nat.testBit_or,Bool.or_eq_true,or_assoc];refine or_congr Iff.rfl ⟨?_,?_⟩
  .rintro(h | ⟨x,hx,h⟩)
   .exact⟨g,.head _,h⟩
   .exact⟨x,.tail _ hx,h⟩
  .rintro⟨x,hx,h⟩
   rcases YB.1 hx with rfl | hx
   .exact .inl h
   .exact .inr ⟨x,hx,h⟩
def uU(W s u S U:Nat):Prop:=∀f,W.testBit f=true->s.testBit f=S.testBit f/\(s.testBit f||u.testBit f)=U.testBit f
section
variable {a_:Zy}{m told S U:Nat}
def qz(a:List (List Nat))(p:Zj):ag (a++[p]).flatten=ag a.flatten|||ag p:=by
 refine Nat.eq_of_testBit_eq λf=>?_
 rw[Nat.testBit_or,aB,aB,aB,←Bool.decide_or];simp
theorem Wa.right(ok:bV m a_)(R:jo a_ told S U)(ht:told<2 ^ m)(h:Wa a_ told a s u s' f):∀l,a8 a_ m=l++a->Dj s u->uU (ag l.flatten) s u S U->uU (ag (a8 a_ m).flatten) s' f S U:=by
 induction h with
 |nil s u=>
  intro l ha _ r;rw[ZA] at ha;rw[ha];exact r
 |@cons p ps s u s1 u1 s' f w _ c=>
  intro l ha dj r;refine c (l++[p]) (by rw[ha];simp) w.dj ?_;rw[qz];exact uS (vJ ok ha) R ht dj r w
def BQ(ok:bV m a_)(r:uU (ag (a8 a_ m).flatten) s u S U)(hf:f<m):s.testBit f=S.testBit f/\(s.testBit f||u.testBit f)=U.testBit f:=
 r f (gR.2 (Lh ok hf))
theorem FC(ok:bV m a_)(I:zy m told s u)(r:uU (ag (a8 a_ m).flatten) s u S U)(c:S<2 ^ m)(g:U<2 ^ m):s=S/\s|||u=U:=by
 constructor
 .refine Nat.eq_of_testBit_eq λf=>?_
  by_cases hf:f<m
  .exact(BQ ok r hf).1
  .have:2 ^ m<=2 ^ f:=Nat.pow_le_pow_right 'b' 'a'
   rw[Nat.testBit_lt_two_pow (ZS I.sure this),Nat.testBit_lt_two_pow (ZS c this)]
 .refine Nat.eq_of_testBit_eq λf=>?_
  rw[Nat.testBit_or];by_cases hf:f<m
  .exact(BQ ok r hf).2
  .have:2 ^ m<=2 ^ f:=Nat.pow_le_pow_right 'b' 'a'
   rw[Nat.testBit_lt_two_pow (ZS I.sure this),Nat.testBit_lt_two_pow (ZS I.open_ this),Nat.testBit_lt_two_pow (ZS g this)];rfl
end
section
variable {a_:Zy}{m t0 t1 S0 U0 S1 U1 fact s0 u0:Nat}
theorem Wb.right(ok:bV m a_)(E:jo a_ t0 S0 U0)(B:jo a_ t1 S1 U1)(I:t0<2 ^ m)(h1:t1<2 ^ m)(ht:∀l,l≠fact->t0.testBit l=t1.testBit l)(J:uU (ag (a8 a_ m).flatten) s0 u0 S0 U0)
  {k:Nat}(h:Wb a_ fact t1 a k f s u ws s' pb):∀u',a8 a_ m=u'++a->Dj s u->uU (ag u'.flatten) s u S1 U1->(∀l,f.testBit l=false->s.testBit l=s0.testBit l/\u.testBit l=u0.testBit l)->(∀p∈a,∀l∈p,s.testBit l=s0.testBit l/\u.testBit l=u0.testBit l)->uU (ag (a8 a_ m).flatten) s' pb S1 U1:=by
 induction h with
 |nil k f s u=>
  intro u' ha _ r _ _;rw[ZA] at ha;rw[ha];exact r
 |@work p ps k f s u s1 u1 s' pb ws t w _ g=>
  intro u' ha dj r hc hl;have C:=(uP ok).1;rw[ha] at C;have j:=(List.pairwise_append.1 C).2.1;cases j with
  |cons n K=>
  refine g (u'++[p]) (by rw[ha];simp) w.dj ?_ (λl hf=>?_) λq hq l hf=>?_
  .rw[qz]
   exact uS (vJ ok ha) B h1 dj r w
  .rw[Nat.testBit_or,Bool.or_eq_false_iff,Ih] at hf
   obtain⟨L,c⟩:=hf;unfold Nz at c;rw[Bool.or_eq_false_iff,bne_eq_false_iff_eq,bne_eq_false_iff_eq] at c;rw[←c.1,←c.2];exact hc l L
  .obtain⟨O,P⟩:=w.out dj λz=>n q hq l z hf
   rw[O,P];exact hl q (.tail _ hq) l hf
 |@skip p ps k f s u s' pb ws t _ g=>
  intro u' ha dj r hc hl;refine g (u'++[p]) (by rw[ha];simp) dj ?_ hc λq hq=>hl q (.tail _ hq)
  have G:=vJ ok ha;have all:∀{l},(∃q∈a8 a_ m,l∈q)->s0.testBit l=S0.testBit l/\(s0.testBit l||u0.testBit l)=U0.testBit l:=λ{l} h=>J l (gR.2 h)
  have keep:=FB G E B I h1 (λl hf=>ht l λz=>t (.inl (z▸hf))) λx hx hp z R hd=>by
   have hb:(ce a_ p).testBit z.2.toNat=true:=(zI a_ p 0 _).2 (.inr ⟨x.1,hp,by
    unfold ib;rw[aB,decide_eq_true_iff];exact List.mem_map.2 ⟨_,zG hx R,rfl⟩⟩)
   have o:f.testBit z.2.toNat=false:=by
    cases e:f.testBit z.2.toNat with
    |false=>rfl
    |true=>exact absurd (.inr (Li.2 ⟨_,hb,e⟩)) t
   obtain⟨e1,y⟩:=hc _ o;obtain⟨q,hq,A⟩:=gR.1 hd;obtain⟨S,T⟩:=all ⟨q,by rw[ha];exact List.mem_append_left _ hq,A⟩;obtain⟨U,V⟩:=r _ hd;rw[←S,←T,←U,←V,e1,y];exact⟨rfl,rfl⟩
  rw[qz];intro l hf;rw[Nat.testBit_or,Bool.or_eq_true] at hf;rcases hf with z | z
  .exact r l z
  .have hp:l∈p:=by rw[aB] at z;exact XR z
   obtain⟨W,Y⟩:=keep l hp;obtain⟨e1,y⟩:=hl p (.head _) l hp;rw[e1,y,←W,←Y];exact all ⟨p,by rw[ha];simp,hp⟩
end
def na:Ss:=#v[.ret (.bi .len #v[.comp 1 (.var 2) (.nm 2) (.seq (.var 0)) (.yes (.cmp .Eq (.bin .BitAnd (.bin .RShift (.var 1) (.var 2)) (.int 1)) (.int 1)))])]
def nI:Ss:=#v[.ret (.and (.cmp .Eq (.bin .BitAnd (.bin .RShift (.var 1) (.ix (.ix (.var 0) (.int 1)) (.ix (.var 0) (.int 2)))) (.int 1)) (.int 1)) (.cmp .Eq (.fn 0 #v[.sl (.ix (.var 0) (.int 1)) .no (.yes (.ix (.var 0) (.int 2))),.var 2]) (.int 0)))]
def jp:Ss:=.cons (.ite (.cmp .Eq (.ix (.var 0) (.int 0)) (.str "some")) #v[.ret (.cmp .GtE (.fn 0 #v[.ix (.var 0) (.int 2),.var 1]) (.ix (.var 0) (.int 1)))] .nil) nI
def fT:Ss:=.cons (.ite (.cmp .Eq (.ix (.var 0) (.int 0)) (.str "lack")) #v[.ret (.cmp .Eq (.bin .BitAnd (.bin .RShift (.var 2) (.ix (.var 0) (.int 1))) (.int 1)) (.int 0))] .nil) jp
def dX:Ss:=.cons (.ite (.cmp .Eq (.ix (.var 0) (.int 0)) (.str "have")) #v[.ret (.cmp .Eq (.bin .BitAnd (.bin .RShift (.var 1) (.ix (.var 0) (.int 1))) (.int 1)) (.int 1))] .nil) fT
def nJ:Ss:=#v[.ret (.var 3)]
def nK:Ss:=#v[.set 4 (.bl true)]
def fU:Ss:=#v[.ite (.and (.cmp .Eq (.bin .BitAnd (.bin .RShift (.var 3) (.var 5)) (.int 1)) (.int 0)) (.val (.fn 0 #v[.var 6,.var 3,.var 2]))) (.cons (.set 3 (.bin .BitOr (.var 3) (.bin .LShift (.int 1) (.var 5)))) nK) .nil]
def nL:Ss:=#v[.for (.tp [5,6]) (.seq (.var 0)) fU]
def nM:Ss:=.cons (.set 4 (.bl false)) nL
def nN:Ss:=.cons (.while (.val (.var 4)) nM) nJ
def nP:Ss:=.cons (.set 4 (.bl true)) nN
def lO:Ss:=.cons (.set 3 (.var 1)) nP
def uV:az:=λds M Q=>∃(fs:Zi) (g:Int),ds=[.tup (bj fs),.int g]/\(∀f∈fs,0<=f)/\∀M',ad M M'->Q (.int ((bZ fs g:Nat):Int)) M'
section
variable {cn:Cn}{ds:List D}{M:MH}{Q:DK}
theorem Lj(h:uV ds M Q):wSs cn na (fin Q) (ai ["",""] ds) M:=by
 obtain⟨fs,g,rfl,j,q⟩:=h;show wSs cn na (fin Q) [some (.tup (bj fs)),some (.int g)] M;unfold na;simp_all! only[List.cons_append,List.nil_append,List.replicate];refine dD (p:=λd=>match d with | .int f=>hasB g f | _=>false) (ok:=λσ=>∃v,σ=[some (.tup (bj fs)),some (.int g),v]) [] _ ⟨none,rfl⟩ ?_ ?_
 .intro d hd σ g_ rest ⟨v,hv⟩ k
  subst hv;obtain⟨f,l,rfl⟩:=List.mem_map.1 hd;have c:=k _ ⟨some (.int f),rfl⟩;dsimp only at c;refine⟨j f l,⟨rfl,rfl,(by decide:(0:Nat)<=30)⟩,?_⟩;show dq (Builtin.bitAnd (g / 2 ^ f.toNat) 1==1) _ _;rw[PyProof.Rows.bitAnd_m1];show dq (hasB g f) _ _;cases hb:hasB g f with
  |true=>rw[hb] at c;exact⟨trivial,c⟩
  |false=>rw[hb] at c;exact⟨trivial,by simpa using c⟩
 .intro p hp
  rw[ab];have e:([]++(bj fs).filter (λ(d:D)=>match d with | .int f=>hasB g f | _=>false)).length=bZ fs g:=by
   unfold bj bZ;rw[List.nil_append,List.filter_map,ZF];rfl
  dsimp only;rw[e];exact q _ (ad.new hp)
theorem Ir(l:cn.F.getD 0 'd'=uV)(h:iS ds M Q):wSs cn dX (fin Q) (ai ["","",""] ds) M:=by
 obtain⟨t,h,g,rfl,c,q⟩:=h;show wSs cn dX (fin Q) [some t.told,some (.int h),some (.int g)] M;cases t with
 |hav f=>
  unfold dX;simp_all! only[CT.told,cf,cm,at2,Nq];refine⟨c.1,?_⟩;rw[PyProof.Rows.bitAnd_m1];exact q M (ad.refl M)
 |lck f=>
  unfold dX;simp_all! only[CT.told,cf,cm,at2,HJ];unfold fT;simp_all! only[CT.told,cf,cm,at2,HI];refine⟨c.1,?_⟩;rw[PyProof.Rows.bitAnd_m1];have j:Q (.bl (!hasB g f)) M:=q M (ad.refl M);rw[←E7] at j;exact j
 |som n fs=>
  unfold dX;simp_all! only[CT.told,cf,cm,at2,HK];unfold fT;simp_all! only[CT.told,cf,cm,at2,HL];unfold jp;simp_all! only[CT.told,cf,cm,at2,HH,l];exact⟨fs,h,rfl,λf hf=>(c.2 f hf).1,λM' e=>q M' e⟩
 |led fs k=>
  unfold dX;simp_all! only[CT.told,cf,cm,at2,HM];unfold fT;simp_all! only[CT.told,cf,cm,at2,HN];unfold jp;simp_all! only[CT.told,cf,cm,at2,HP];have j:∀M',ad M M'->Q (.bl (hasB h (fs.getD k 0)&&(((bZ (fs.take k) g:Nat):Int)==0))) M':=q;unfold nI;simp_all! only[CT.told,cf,cm,at2,vw c.1.1,rb,l];refine⟨Bu c.1.1 c.2,?_⟩;rw[PyProof.Rows.bitAnd_m1];show dq (hasB h (fs.getD k 0)) _ _;cases hb:hasB h (fs.getD k 0) with
  |false=>
   rw[hb] at j;exact j M (ad.refl M)
  |true=>
   rw[hb] at j;exact⟨fs.take k,g,rfl,λf hf=>(c.2 f (List.mem_of_mem_take hf)).1,λM' e=>⟨⟨rfl,rfl,by rw[ax];exact YN _⟩,by rw[av];exact j M' e⟩⟩
def FD(b:s.testBit u=false):s<s|||2 ^ u:=by
 refine Nat.lt_of_le_of_ne (Sub.le (Sub.or_l _ _)) λe=>?_
 have:=congrArg (·.testBit u) e
 simp only[Nat.testBit_or,Nat.testBit_two_pow_self,Bool.or_true,b] at this;cases this
theorem FE (f0:cn.F.getD 0 'd' = oE) (h:kC ds M Q):wSs cn lO (fin Q) (ai ["","","","","","",""] ds) M:=by
  obtain ⟨p,m,C',a_,told,g,rfl,hp,hR,ok,ht,q⟩:=h
  show wSs cn lO (fin Q) [↑p,~~~told,~~~g,none,none,none,none] M
  have aa:=ok.most
  have hok:∀ x ∈ a_,∀ t ∈ x.2,CT.ok t:=λx hx t ht=>CT.fit_ok 'a' ((ok.fit x hx).2.2 t ht)
  have body:∀ (E:cP) (h:Nat) (b:Bool) (x:Row) (r:Addr) (j:MH),x.1 < m->(∀ t ∈ x.2,t.ok)->j r = some (.lst (x.2.map CT.told)) ->
      (∀ c,ad j c->(bw h g x = true->h.testBit x.1 = true)->E.nx [↑p,~~~told,~~~g,~~~h,some (.bl b),~~~x.1,↑r] c) ->
      (∀ c,ad j c->bw h g x = true->h.testBit x.1 = false->E.nx [↑p,~~~told,~~~g,some (.int ((h ||| 2 ^ x.1:Nat):Int)),some (.bl true),~~~x.1,↑r] c) ->
      wSs cn fU E [↑p,~~~told,~~~g,~~~h,some (.bl b),~~~x.1,↑r] j:=by
    intro E h b x r j hx ht Y k1 k2
    unfold fU
    simp! only [aE,aF,aP,aG,ax,aQ,av,aD,YN,and_self,true_and,and_true,List.set,f0]
    refine ⟨by omega,?_⟩
    rw [PyProof.Rows.bitAnd_m1]
    show dq (mM (h:Int) (x.1:Int) == 0) _ _
    rw [E7,cx]
    cases e:h.testBit x.1 with
    | true=>exact k1 j (ad.refl j) λ_=>e
    | false=>
      refine ⟨r,x.2,(h:Int),(g:Int),rfl,Y,ht,λc l=>?_⟩
      simp! only []
      cases b2:x.2.all (CT.carried (h:Int) (g:Int)) with
      | false=>
        refine k1 c l λz=>?_
        have z:x.2.all (CT.carried (h:Int) (g:Int)) = true:=z
        rw [b2] at z; cases z
      | true=>
        simp! only [List.set]
        refine ⟨⟨by omega (splitDisjunctions:=true),by omega (splitDisjunctions:=true),by decide⟩,?_⟩
        rw [rk,dw]
        unfold nK
        simp! only [List.set]
        exact k2 c l b2 e
  have K:∀ (E:cP) (B:Nat) (xs:List D) (L:Zy) (h:Nat) (b:Bool) (n o:Zz) (j:MH),b8 M xs L->(∀ x ∈ L,x ∈ a_)->ad M j->h < 2 ^ m->Sub told h->(∀ s,fF a_ told g s->Sub h s)->(b = true->B < h)->(b = false->h = B) ->
      (∀ h' b' n o c,ad M c->h' < 2 ^ m->Sub told h'->(∀ s,fF a_ told g s->Sub h' s)->(b' = true->B < h')->(b' = false->b = false/\h' = B/\∀ x ∈ L,bw B g x = true->B.testBit x.1 = true)->E.nx [↑p,~~~told,~~~g,~~~h',some (.bl b'),n,o] c) ->
      ar (λM'=>M' p = some (.lst C')) (.tp [5,6]) (wSs cn fU) E xs [↑p,~~~told,~~~g,~~~h,some (.bl b),n,o] j:=by
    intro E B xs L h b n o j hx
    induction hx generalizing h b n o j with
    | nil=>
      intro _ C h1 G A I O kk
      rw [ar]
      exact kk h b n o j C h1 G A I λz=>⟨z,O z,λx hx=>nomatch hx⟩
    | @cons d x xs L hd _ ih=>
      intro Z C h1 G A I O kk
      obtain ⟨r,rfl,Y⟩:=hd
      have hx:=Z x (.head _)
      rw [ar]
      refine ⟨rfl,?_⟩
      refine body _ h b x r j (ok.fit x hx).1 (hok x hx) (C _ _ Y) (λc l hm=>?_) (λc l hm hb=>?_)
      . refine ⟨(C.trans l) _ _ hp,ih h b _ _ c (λy hy=>Z y (.tail _ hy)) (C.trans l) h1 G A I O λh' b' P R M7 e7 S T U V J=>kk h' b' P R M7 e7 S T U V λz=>?_⟩
        obtain ⟨z1,W,z3⟩:=J z
        refine ⟨z1,W,λy hy hq=>?_⟩
        rcases YB.1 hy with rfl | hy
        . rw [← O z1] at hq ⊢; exact hm hq
        . exact z3 y hy hq
      . refine ⟨(C.trans l) _ _ hp,ih (h ||| 2 ^ x.1) true _ _ c (λy hy=>Z y (.tail _ hy)) (C.trans l) (Nat.or_lt_two_pow h1 (Nat.pow_lt_pow_right 'b' (ok.fit x hx).1)) (G.trans (Sub.or_l _ _)) (λs hs=>(A s hs).or λf hf=>?_) (λ_=>?_) (λz=>nomatch z) λh' b' P R M7 e7 S T U V J=>kk h' b' P R M7 e7 S T U V λz=>nomatch (J z).1⟩
        . rw [Nat.testBit_two_pow] at hf
          have:x.1 = f:=XR hf
          subst this
          exact hs.2 x hx (mS (A s hs) hm)
        . have lt:=FD hb
          cases eb:b with
          | true=>exact Nat.lt_trans (I eb) lt
          | false=>rw [← O eb]; exact lt
  unfold lO
  simp! only [List.set]
  unfold nP
  simp! only [List.set]
  unfold nN
  show k7 _ _ _ _ _
  refine ⟨λk σ M'=>∃ (h:Nat) (b:Bool) (n o:Zz),2 * (2 ^ m - h) + (if b = true then 1 else 0) = k/\σ = [↑p,~~~told,~~~g,~~~h,some (.bl b),n,o] /\
    ad M M'/\h < 2 ^ m/\Sub told h/\(∀ s,fF a_ told g s->Sub h s)/\(b = false->∀ x ∈ a_,bw h g x = true->h.testBit x.1 = true),?_,?_⟩
  . exact ⟨_,told,true,none,none,rfl,rfl,ad.refl M,ht,Sub.refl _,λs hs=>hs.1,λz=>nomatch z⟩
  rintro k σ M' ⟨h,b,n,o,rfl,rfl,e1,h1,G,A,I⟩
  show dq b _ _
  cases b with
  | false=>
    rw [aR]
    dsimp only
    unfold nJ
    simp! only [List.set]
    exact q h M' ⟨⟨G,I rfl⟩,A⟩ h1 e1
  | true=>
    rw [bh]
    refine ⟨λj' Qu=>∃ k',k' < 2 * (2 ^ m - h) + (if true = true then 1 else 0)/\_,λj' Qu h=>h,?_⟩
    unfold nM
    simp! only [List.set]
    unfold nL
    simp! only [List.set,e1 _ _ hp]
    refine K _ h C' a_ h false n o M' hR (λx hx=>hx) e1 h1 G A (λz=>nomatch z) (λ_=>rfl) λh' b' P R c l S T U V J=>?_
    refine ⟨2 * (2 ^ m - h') + (if b' = true then 1 else 0),?_,h',b',P,R,rfl,rfl,l,S,T,U,λz=>?_⟩
    . cases eb:b' with
      | true=>
        have:=V eb
        simp only [if_true]
        omega
      | false=>
        obtain ⟨_,W,_⟩:=J eb
        rw [W,if_neg YF,if_pos trivial]
        omega
    . obtain ⟨_,W,z3⟩:=J z
      rw [W]
      exact z3
end
def my:Ss:=#v[.ret (.tup #v[.var 2,.var 3])]
def mz:Ss:=#v[.set 4 (.fn 0 #v[.var 0,.var 1,.var 3])]
def mC:Ss:=.cons (.set 3 (.fn 0 #v[.var 0,.var 1,.var 2])) mz
def mE:Ss:=.cons (.set 2 (.var 4)) mC
def mG:Ss:=.cons (.while (.cmp .NotEq (.var 4) (.var 2)) mE) my
def mH:Ss:=.cons (.set 4 (.fn 0 #v[.var 0,.var 1,.var 3])) mG
def mI:Ss:=.cons (.set 3 (.fn 0 #v[.var 0,.var 1,.var 2])) mH
def jX:Ss:=.cons (.set 2 (.int 0)) mI
def eB:Ss:=#v[.ret (.fld (.var 0) "sure")]
def eD:Ss:=#v[.ret (.fld (.var 0) "unsure")]
def oO:az:=λds M Q=>∃(p:Addr) (m:Nat) (c:List D) (a_:Zy) (told:Nat),ds=[.ref p,⇑told]/\M p=some (.lst c)/\b8 M c a_/\bV m a_/\told<2 ^ m/\∀(S U:Nat) M',jo a_ told S U->S<2 ^ m->U<2 ^ m->ad M M'->Q (.tup [⇑S,⇑U]) M'
def rA(c:CA)(S V:Addr):az:=λds M Q=>∃(a:Addr) (m:Nat) (a_:Zy) (told s u sh pp pb:Nat),ds=[.ref a]/\br c S V M a m a_ told s u sh pp pb/\Q (⇑s) M
def rC(c:CA)(S V:Addr):az:=λds M Q=>∃(a:Addr) (m:Nat) (a_:Zy) (told s u sh pp pb:Nat),ds=[.ref a]/\br c S V M a m a_ told s u sh pp pb/\Q (⇑u) M
section
variable {cn:Cn}{ds:List D}{M:MH}{Q:DK}{c:CA}{S V:Addr}
def FF(g:∀f∈gz,cn.O V f)(h:rA c S V ds M Q):wSs cn eB (fin Q) (ai [""] ds) M:=by
 obtain⟨a,m,a_,told,s,u,sh,pp,pb,rfl,⟨I,h1,-⟩,q⟩:=h;show wSs cn eB (fin Q) [↑a] M;unfold eB;simp! only[h1,rp];exact⟨g _ (by rfl'),q⟩
def FG(g:∀f∈gz,cn.O V f)(h:rC c S V ds M Q):wSs cn eD (fin Q) (ai [""] ds) M:=by
 obtain⟨a,m,a_,told,s,u,sh,pp,pb,rfl,⟨I,h1,-⟩,q⟩:=h;show wSs cn eD (fin Q) [↑a] M;unfold eD;simp! only[h1,mr];exact⟨g _ (by rfl'),q⟩
theorem FH (j:cn.F.getD 0 'd' = kC) (h:oO ds M Q):wSs cn jX (fin Q) (ai ["","","","",""] ds) M:=by
  obtain ⟨p,m,l,a_,told,rfl,hp,o,ok,ht,q⟩:=h
  show wSs cn jX (fin Q) [↑p,~~~told,none,none,none] M
  unfold jX
  simp! only [List.set]
  unfold mI
  simp! only [List.set,j]
  refine ⟨p,m,l,a_,told,0,rfl,hp,o,ok,ht,λa M1 C ha e1=>?_⟩
  unfold mH
  simp! only [List.set,j]
  refine ⟨p,m,l,a_,told,a,rfl,e1 _ _ hp,o.ext e1,ok,ht,λb M2 E hb G=>?_⟩
  unfold mG
  show k7 _ _ _ _ _
  refine ⟨λn σ M'=>∃ k a b:Nat,2 ^ m - k = n/\σ = [↑p,~~~told,~~~k,~~~a,~~~b]/\ad M M'/\bu a_ told k a/\bu a_ told a b/\Sub k a/\Sub k b/\(k < 2 ^ m/\a < 2 ^ m/\b < 2 ^ m)/\∀ P:Nat->Prop,P 0->(∀ k a b,P k->bu a_ told k a->bu a_ told a b->P b)->P k,?_,?_⟩
  . exact ⟨_,0,a,b,rfl,rfl,e1.trans G,C,E,Sub.zero _,Sub.zero _,⟨Nat.two_pow_pos m,ha,hb⟩,λP t _=>t⟩
  rintro n σ M' ⟨k,a,b,rfl,rfl,e3,r,L2,s1,s2,⟨I,J,L⟩,ind⟩
  have g:∀ K:Bool->MH->Prop,K (!((b:Int) == (k:Int))) M'->wT cn (.cmp .NotEq (.var 4) (.var 2)) [↑p,~~~told,~~~k,~~~a,~~~b] M' K:=by
    intro K O
    simp! only [aE,aF,aP,aG,ax,aQ,av,aD,YN,and_self,true_and,and_true,List.set]
    exact O
  refine g _ ?_
  by_cases A:b = k
  . subst A
    rw [XI,Bool.not_true,aR]
    dsimp only
    unfold my
    simp! only [List.set]
    exact q b a M' ⟨r,L2,s1,ind⟩ I J e3
  . rw [beq_false_of_ne 'a',Bool.not_false,bh]
    have lt:k < b:=Nat.lt_of_le_of_ne s2.le (Ne.symm A)
    refine ⟨λR T=>∃ n',n' < 2 ^ m - k/\_,λR T h=>h,?_⟩
    unfold mE
    simp! only [List.set]
    unfold mC
    simp! only [List.set,j]
    refine ⟨p,m,l,a_,told,b,rfl,e3 _ _ hp,o.ext e3,ok,ht,λa' M5 y U W=>?_⟩
    unfold mz
    simp! only [List.set,j]
    have z:=e3.trans W
    refine ⟨p,m,l,a_,told,a',rfl,z _ _ hp,o.ext z,ok,ht,λb' M6 B Y Z=>?_⟩
    have ba:Sub b a:=bu.anti s1 r L2
    have Yq:Sub b a':=bu.anti ba y L2
    have aa:Sub a' a:=bu.anti s2 r y
    exact ⟨2 ^ m - b,by omega,b,a',b',rfl,rfl,z.trans Z,y,B,Yq,bu.anti aa B L2,⟨L,U,Y⟩,λP t st=>st k a b (ind P t st) r L2⟩
end
def pK:Ss:=#v[.ret (.and (.cmp .Eq (.bi .len #v[.comp 1 (.var 9) (.nm 9) (.seq (.var 8)) (.yes (.not (.val (.fn 0 #v[.var 9]))))]) (.int 0)) (.cmp .Eq (.var 8) (.lst #v[.var 2,.var 4,.bin .BitXor (.var 5) (.var 4)])))]
def gA:Ss:=.cons (.set 8 (.lst #v[.mu0 "told_facts" (.var 0),.mu0 "true_facts" (.var 0),.mu0 "open_facts" (.var 0)])) pK
def pL:Ss:=#v[.ite (.cmp .NotEq (.mu "answer_at" (.var 0) #v[.var 6]) (.var 7)) #v[.ret (.bl false)] .nil]
def gB:Ss:=.cons (.set 7 (.ix (.lst #v[.str "false",.str "open",.str "true"]) (.bin .Add (.bin .BitAnd (.bin .RShift (.var 5) (.var 6)) (.int 1)) (.bin .BitAnd (.bin .RShift (.var 4) (.var 6)) (.int 1))))) pL
def jY:Ss:=.cons (.for (.nm 6) (.rg1 #v[.var 3]) gB) gA
def nb:Ss:=.cons (.asg (.tp [4,5]) (.fn 1 #v[.var 1,.var 2])) jY
def KR(m:Nat)(a_:Zy)(told s u:Nat):Prop:=∀S U,jo a_ told S U->S<2 ^ m->U<2 ^ m->s=S/\s|||u=U
def vK:(aX f s' s u pp pb).lookup ("true_facts" : Str)=none:=rfl
def rD:(aX f s' s u pp pb).lookup ("open_facts" : Str)=none:=rfl
def zJ:(aX f s' s u pp pb).lookup ("told_facts" : Str)=none:=rfl
def qA(c:CA)(S V:Addr):az:=λds M Q=>∃(a p:Addr) (m:Nat) (g:List D) (a_:Zy) (told s u sh pp pb:Nat),ds=[.ref a,.ref p,⇑told,⇑m]/\br c S V M a m a_ told s u sh pp pb/\KR m a_ told s u/\M p=some (.lst g)/\b8 M g a_/\∀M',ad M M'->Q (.bl true) M'
def FI(n f:Nat):((n:Nat):Int) / 2 ^ ((f:Nat):Int).toNat%2=if n.testBit f=true then 1 else 0:=by
 have h:=cx n f;unfold hasB at h;have c:=Bt (n:Int) (f:Int);unfold mM at h c;rw[←h];rcases c with z | z<;>rw[z]<;>rfl
def NC(s u f:Nat):de [D.str "false",.str "open",.str "true"] ((if(s|||u).testBit f=true then(1:Int) else 0)+(if s.testBit f=true then 1 else 0))=some (.str (zw s u f)):=by
 unfold zw;rw[Nat.testBit_or];cases s.testBit f<;>cases u.testBit f<;>rfl
def ND(d:Dj s u):(s|||u) ^^^ s=u:=by
 refine Nat.eq_of_testBit_eq λf=>?_
 rw[Nat.testBit_xor,Nat.testBit_or];cases e:s.testBit f with
 |true=>rw[d f e];rfl
 |false=>cases u.testBit f<;>rfl
section
variable {cn:Cn}{ds:List D}{M:MH}{Q:DK}{c:CA}{S V:Addr}
theorem Lk (t1:cn.T V "told_facts" = some (jx c S V)) (P:cn.T V "true_facts" = some (rA c S V)) (G:cn.T V "open_facts" = some (rC c S V)) (t4:cn.T V "answer_at" = some (oJ c S V))
    (f0:cn.F.getD 0 'd' = oN) (f1:cn.F.getD 1 'd' = oO) (h:qA c S V ds M Q):wSs cn nb (fin Q) (ai ["","","","","","","","",""] ds) M:=by
  obtain ⟨a,p,m,C',a_,told,s,u,sh,pp,pb,rfl,K,hK,hp,hR,q⟩:=h
  show wSs cn nb (fin Q) [↑a,↑p,~~~told,~~~m,none,none,none,none,none] M
  have ok:=K.2.2.1.ok
  have hm:=ok.most
  unfold nb
  simp! only [List.set,f1]
  refine ⟨p,m,C',a_,told,rfl,hp,hR,ok,K.1.told,λS1 U1 M1 R hS hU e1=>?_⟩
  obtain ⟨rfl,rfl⟩:=hK S1 U1 R hS hU
  refine ⟨rfl,?_⟩
  have U:=K.ext e1
  show wSs cn jY (fin Q) [↑a,↑p,~~~told,~~~m,~~~s,some (.int ((s ||| u:Nat):Int)),none,none,none] M1
  have body:∀ (E:cP) (f:Nat) (j:Zz) (k:MH),f < m->ad M1 k->(∀ j n,ad M1 n->E.nx [↑a,↑p,~~~told,~~~m,~~~s,some (.int ((s ||| u:Nat):Int)),~~~f,j,none] n) ->
      wSs cn gB E [↑a,↑p,~~~told,~~~m,~~~s,some (.int ((s ||| u:Nat):Int)),~~~f,j,none] k:=by
    intro E f j k hf t kk
    unfold gB
    simp! only [List.set]
    intro w hw
    have z:=t.then (o:=.lst [.str "false",.str "open",.str "true"]) hw
    rw [ab]
    generalize ae k w (MO.lst [.str "false",.str "open",.str "true"]) = n at *
    have W:=U.ext z
    refine ⟨by omega,by omega,?_⟩
    rw [PyProof.Rows.bitAnd_m1,PyProof.Rows.bitAnd_m1,FI,FI]
    simp only [NC]
    unfold pL
    simp! only [List.set,W.2.1,FA,t4]
    refine ⟨trivial,a,m,a_,told,s,u,sh,pp,pb,f,rfl,W,hf,?_⟩
    simp! only []
    refine ⟨⟨rfl,rfl,YN _⟩,?_⟩
    rw [aD,XI,Bool.not_true,aR]
    exact kk _ n z
  have last:∀ (r j:Zz) (k:MH),ad M1 k->wSs cn gA (fin Q) [↑a,↑p,~~~told,~~~m,~~~s,some (.int ((s ||| u:Nat):Int)),r,j,none] k:=by
    intro r j k t
    have A:=U.ext t
    unfold gA
    simp! only [List.set,A.2.1,zJ,vK,rD,t1,P,G]
    refine ⟨trivial,a,m,a_,told,s,u,sh,pp,pb,rfl,A,?_⟩
    simp! only [A.2.1,vK,rD,P,G]
    refine ⟨trivial,a,m,a_,told,s,u,sh,pp,pb,rfl,A,?_⟩
    simp! only [A.2.1,rD,G]
    refine ⟨trivial,a,m,a_,told,s,u,sh,pp,pb,rfl,A,λw hw=>?_⟩
    have z:=t.then (o:=.lst [⇑told,⇑s,⇑u]) hw
    have I:ae k w (MO.lst [⇑told,⇑s,⇑u]) w = some (.lst [⇑told,⇑s,⇑u]):=ab
    generalize ae k w (MO.lst [⇑told,⇑s,⇑u]) = n at *
    have B:∀ (i:Int) (σ:DS) (M:MH) (Z:Bool->MH->Prop),σ[9]? = some (some (.int i))->Z false M->wT cn (.not (.val (.fn 0 (.cons (.var 9) .nil)))) σ M Z:=by
      intro i σ M Z J hZ
      simp! only [J,f0]
      exact ⟨i,rfl,hZ⟩
    unfold pK
    simp! only [List.set,List.cons_append,List.nil_append,List.replicate,I]
    refine dD (p:=λ_=>false) (ok:=λσ=>∃ v,σ = [↑a,↑p,~~~told,~~~m,~~~s,some (.int ((s ||| u:Nat):Int)),r,j,↑w,v]) [] _ ⟨none,rfl⟩ ?_ ?_
    . intro y hy σ ac I_ ⟨v,hv⟩ k0
      subst hv
      obtain ⟨i,rfl⟩:∃ i:Int,y = .int i:=by
        rcases YB.1 hy with rfl | hy
        . exact ⟨_,rfl⟩
        rcases YB.1 hy with rfl | hy
        . exact ⟨_,rfl⟩
        exact ⟨_,XQ.1 hy⟩
      have Y:=k0 _ ⟨some (.int i),rfl⟩
      rw [cond_false,ZA] at Y
      rw [aH]
      refine B i [↑a,↑p,~~~told,~~~m,~~~s,some (.int ((s ||| u:Nat):Int)),r,j,↑w,some (.int i)] n _ rfl ?_
      rw [aR]
      exact ⟨I,Y⟩
    . intro pe C
      have e7:=z.then (o:=.lst []) C
      have g7:=(ad.new C (o:=.lst [])) _ _ I
      rw [show ([] ++ [D.int (told:Int),⇑s,⇑u].filter λ_=>false) = [] from rfl,ab]
      generalize ae n pe (MO.lst []) = M7 at *
      simp! only [YV]
      refine ⟨⟨rfl,rfl,by rw [ax]; exact YN _⟩,?_⟩
      rw [av,show (((0:Nat):Int) == 0) = true from rfl,bh]
      intro L P6
      rw [vF,ND K.1.dj]
      have e8:=e7.then (o:=.lst [⇑told,⇑s,⇑u]) P6
      have g8:=(ad.new P6 (o:=.lst [⇑told,⇑s,⇑u])) _ _ g7
      have g9:ae M7 L (MO.lst [⇑told,⇑s,⇑u]) L = some (.lst [⇑told,⇑s,⇑u]):=ab
      generalize ae M7 L (MO.lst [⇑told,⇑s,⇑u]) = M8 at *
      simp only [g8,g9,cu]
      refine ⟨⟨rfl,rfl,?_⟩,?_⟩
      . show (0:Nat)<=30
        decide
      . rw [lT _ rfl]
        exact q M8 (e1.trans e8)
  have O:∀ (l:Zj) (r j:Zz) (k:MH),(∀ f ∈ l,f < m)->ad M1 k->ar (λ_=>True) (.nm 6) (wSs cn gB) { nx:=wSs cn gA (fin Q),rt:=Q } (nats l) [↑a,↑p,~~~told,~~~m,~~~s,some (.int ((s ||| u:Nat):Int)),r,j,none] k:=by
    intro l
    induction l with
    | nil=>
      intro r j k _ t
      rw [show nats [] = [] from rfl,ar]
      exact last r j k t
    | cons f l ih=>
      intro r j k hl t
      rw [show nats (f :: l) = ⇑f :: nats l from rfl,ar]
      exact body _ f j k (hl f (.head _)) t λj n z=>⟨trivial,ih _ j n (λg hg=>hl g (.tail _ hg)) z⟩
  unfold jY
  simp! only [List.set]
  rw [eQ]
  exact ⟨⟨by omega,by omega⟩,O (List.range m) none none M1 (λf hf=>ZW.1 hf) (ad.refl _)⟩
end
section
variable {a_:Zy}{m told:Nat}
def oP (ok:bV m a_) (ht:told < 2 ^ m) (g:Nat):∃ n,bu a_ told g n/\n < 2 ^ m:=by
  classical
  have c:∀ f,(ag ((List.range m).filter λf=>decide (∀ s,fF a_ told g s->s.testBit f = true))).testBit f = true ↔ f < m/\∀ s,fF a_ told g s->s.testBit f = true:=λf=>by
    rw [aB,decide_eq_true_iff,ZV,ZW,decide_eq_true_iff]
  refine ⟨_,⟨⟨λf hf=>(c f).2 ⟨?_,λs hs=>hs.1 f hf⟩,λx hx q=>(c _).2 ⟨(ok.fit x hx).1,λs hs=>hs.2 x hx (mS (λf hf=>((c f).1 hf).2 s hs) q)⟩⟩,λs hs f hf=>((c f).1 hf).2 s hs⟩,vE λf hf=>ZW.1 (ZV.1 hf).1⟩
  cases Nat.lt_or_ge f m with
  | inl h=>exact h
  | inr h=>rw [Nat.testBit_lt_two_pow (ZS ht (Nat.pow_le_pow_right 'b' h))] at hf; cases hf
theorem Ll(ok:bV m a_)(ht:told<2 ^ m):∃S U,jo a_ told S U/\S<2 ^ m/\U<2 ^ m:=by
 have g:∀n k a b:Nat,2 ^ m-k<n->bu a_ told k a->bu a_ told a b->Sub k a->Sub k b->k<2 ^ m->a<2 ^ m->b<2 ^ m->(∀P:Nat->Prop,P 0->(∀k a b,P k->bu a_ told k a->bu a_ told a b->P b)->P k)->∃S U,jo a_ told S U/\S<2 ^ m/\U<2 ^ m:=by
  intro n;induction n with
  |zero=>exact λk a b h=>absurd h (Nat.not_lt_zero _)
  |succ n r=>
   intro k a b hn c L2 s1 s2 t y z ind;by_cases o:b=k
   .subst o
    exact⟨b,a,⟨c,L2,s1,ind⟩,t,y⟩
   .have lt:k<b:=Nat.lt_of_le_of_ne s2.le (Ne.symm o)
    obtain⟨a',j,A⟩:=oP ok ht b;obtain⟨b',p,B⟩:=oP ok ht a';have C:Sub b a:=bu.anti s1 c L2;have E:Sub b a':=bu.anti C j L2;have G:Sub a' a:=bu.anti s2 c j;exact r b a' b' 'a' j p E (bu.anti G p L2) z A B λP l st=>st k a b (ind P l st) c L2
 obtain⟨a,I,ha⟩:=oP ok ht 0;obtain⟨b,J,hb⟩:=oP ok ht a;exact g _ 0 a b (YM _) I J (Sub.zero _) (Sub.zero _) (Nat.two_pow_pos m) ha hb λP l _=>l
def NE:uU (ag ([]:List (List Nat)).flatten) s u f m:=λU hf=>by
 rw[show ag ([]:List (List Nat)).flatten=0 from rfl,Nat.zero_testBit] at hf;cases hf
def NF(K:KR m a_ told s u){U:Nat}(R:jo a_ told f U)(c:f<2 ^ m)(g:U<2 ^ m)(W:Nat):uU W s u f U:=λS _=>by
 obtain⟨rfl,rfl⟩:=K f U R c g;exact⟨rfl,(Nat.testBit_or _ _ _).symm⟩
def Lm(ok:bV m a_)(I:zy m told s u)(W:Wa a_ told (a8 a_ m) 0 0 s u):KR m a_ told s u:=λS U R c g=>
 FC ok I (W.right ok R I.told [] rfl (λf hf=>by rw[Nat.zero_testBit] at hf;cases hf) NE) c g
def Ln(ok:bV m a_){c:Nat}(g:zy m told s u)(K:KR m a_ told s u)(l:zy m pb s' pp)(ht:∀f,f≠c->told.testBit f=pb.testBit f)(W:Wb a_ c pb (a8 a_ m) 0 0 s u ws s' pp):KR m a_ pb s' pp:=λS U R o r=>by
 obtain⟨t,y,n,j,k⟩:=Ll ok g.told;exact FC ok l (W.right ok n R g.told l.told ht (NF K n j k _) [] rfl g.dj NE (λf _=>⟨rfl,rfl⟩) λp _ f _=>⟨rfl,rfl⟩) o r
def NG(h:told.testBit f=false):told ^^^ 2 ^ f=told|||2 ^ f:=Nat.eq_of_testBit_eq λg=>by
 rw[Nat.testBit_xor,Nat.testBit_or,Nat.testBit_two_pow];by_cases e:f=g
 .subst e;rw[h];simp
 .simp[e]
def Lo(h:told.testBit f=true):told ^^^ 2 ^ f=au told (2 ^ f):=Nat.eq_of_testBit_eq λg=>by
 rw[Nat.testBit_xor,aw,Nat.testBit_two_pow];by_cases e:f=g
 .subst e;rw[h];simp
 .simp[e]
def Iu(h:s≠f):told.testBit s=(told ^^^ 2 ^ f).testBit s:=by
 rw[Nat.testBit_xor,Nat.testBit_two_pow,ZQ (λe=>h e.symm),Bool.xor_false]
end
def lP(c:CA)(S V:Addr):az:=λxs M Q=>(xs.length=1/\bU V (λg=>kG c S V (g++[.int 0])) xs M Q)\/(xs.length=2/\bU V (kG c S V) xs M Q)
def Iv(h:M ke=none):hid ke M=M:=by
 funext b;unfold hid;split
 .rename_i e;rw[e,h]
 .rfl
section
variable {M:MH}{Q:DK}{c:CA}{S V sh:Addr}{m told:Nat}{a_:Zy}
def wR(A:bm c S M sh m a_)(ht:told<2 ^ m)(q:∀(ke s u pp pb:Nat) (M':MH),M ke=none->ad M M'->br c S V M' ke m a_ told s u sh pp pb->KR m a_ told s u->Q (.ref ke) M'):bU V (kG c S V) [.ref sh,⇑told] M Q:=by
 intro ke g;have j:hid ke (ae M ke (.ins V []))=M:=by rw[cM];exact Iv g
 refine⟨ke,sh,m,a_,told,rfl,ab,by rw[j];exact A,ht,λs1 u1 pp pb M0 e k W=>⟨rfl,q ke s1 u1 pp pb M0 g ?_ k (Lm A.ok k.1 W)⟩⟩;rwa [j] at e
def zK(A:bm c S M sh m a_)(ht:told<2 ^ m)(q:∀(ke s u pp pb:Nat) (M':MH),M ke=none->ad M M'->br c S V M' ke m a_ told s u sh pp pb->KR m a_ told s u->Q (.ref ke) M'):lP c S V [.ref sh,⇑told] M Q:=.inr ⟨rfl,wR A ht q⟩
def tm(A:bm c S M sh m a_)(q:∀(ke s u pp pb:Nat) (M':MH),M ke=none->ad M M'->br c S V M' ke m a_ 0 s u sh pp pb->KR m a_ 0 s u->Q (.ref ke) M'):lP c S V [.ref sh] M Q:=.inl ⟨rfl,wR (told:=0) A (Nat.two_pow_pos m) q⟩
end
def zL:Ss:=#v[.ret (.fn 0 #v[.fn 1 #v[.var 5,.var 6],.var 4,.var 6,.var 2])]
def zM:Ss:=.cons (.ite (.ne2 (.lst #v[.mu0 "parts_list" (.var 11),.mu0 "told_facts" (.var 11),.mu0 "true_facts" (.var 11),.mu0 "open_facts" (.var 11)]) (.lst #v[.lst .nil,.int 0,.int 0,.int 0])) #v[.ret (.bl false)] .nil) zL
def zN:Ss:=.cons (.set 11 (.fn 1 #v[.fn 2 #v[.int 0,.lst .nil]])) zM
def oQ:Ss:=.cons (.ite (.or (.not (.val (.fn 0 #v[.var 8,.var 4,.var 6,.var 2]))) (.not (.val (.fn 0 #v[.var 7,.var 4,.int 0,.var 2])))) #v[.ret (.bl false)] .nil) zN
def tq:Ss:=#v[.ite (.and (.cmp .Eq (.bin .Mod (.bin .FloorDiv (.ix (.var 0) (.var 9)) (.var 2)) (.int 3)) (.int 0)) (.not (.val (.fn 0 #v[.var 8,.var 4,.var 6,.var 2])))) #v[.ret (.bl false)] .nil]
def tt:Ss:=.cons (.set 6 (.bin .BitXor (.var 6) (.bin .LShift (.int 1) (.var 10)))) tq
def zO:Ss:=.cons (.ite (.cmp .Eq (.bin .BitAnd (.bin .RShift (.var 6) (.var 10)) (.int 1)) (.int 1)) #v[.expr (.mu "drop" (.var 8) #v[.var 10])] #v[.expr (.mu "put" (.var 8) #v[.var 10])]) tt
def oR:Ss:=#v[.ite (.cmp .NotEq (.bin .Mod (.var 9) (.int 3)) (.int 2)) (.cons (.set 10 (.bin .Mod (.ix (.var 0) (.var 9)) (.var 2))) zO) .nil]
def zP:Ss:=.cons (.for (.nm 9) (.rg2 #v[.int 3,.bi .min #v[.bi .len #v[.var 0],.int 63]]) oR) oQ
def oS:Ss:=.cons (.ite (.not (.val (.fn 0 #v[.var 8,.var 4,.var 6,.var 2]))) #v[.ret (.bl false)] .nil) zP
def qB:Ss:=#v[.set 8 (.fn 1 #v[.var 5,.var 6])]
def wU:Ss:=.cons (.ite (.cmp .Eq (.bin .Mod (.bin .FloorDiv (.var 1) (.int 2)) (.int 2)) (.int 1)) (.cons (.set 6 (.bin .Mod (.bin .FloorDiv (.fn 3 #v[.var 0,.int 1]) (.int 2)) (.bin .LShift (.int 1) (.var 2)))) qB) .nil) oS
def wV:Ss:=.cons (.set 8 (.fn 1 #v[.var 5])) wU
def wW:Ss:=.cons (.set 7 (.fn 1 #v[.var 5])) wV
def wX:Ss:=.cons (.set 6 (.int 0)) wW
def qC:Ss:=.cons (.set 5 (.fn 2 #v[.var 2,.comp 2 (.tup #v[.var 12,.bk .list #v[.var 13]]) (.tp [12,13]) (.seq (.var 4)) .no])) wX
def qD:Ss:=.cons (.setC 4 1 (.fn 4 #v[.lst #v[.var 12,.var 3],.var 2]) (.nm 12) (.seq (.sl2 (.var 0) (.yes (.int 2)) (.yes (.int 63)))) .no) qC
def qE:Ss:=.cons (.set 3 (.bin .Sub (.int 1) (.bin .Mod (.fn 3 #v[.var 0,.int 1]) (.int 2)))) qD
def wY:Ss:=.cons (.set 2 (.bin .Add (.int 1) (.bin .Mod (.bin .FloorDiv (.var 1) (.int 4)) (.ix (.lst #v[.int 8,.int 12]) (.bin .Mod (.var 1) (.int 2)))))) qE
def uW:Ss:=.cons (.set 1 (.fn 3 #v[.var 0,.int 0])) wY
def vL:(aX f s' s u pp pb).lookup ("drop" : Str)=none:=rfl
def zQ:(aX f s' s u pp pb).lookup ("put" : Str)=none:=rfl
def Lp:(aX f s' s u pp pb).lookup ("parts_list" : Str)=none:=rfl
def Lq(w o:Nat):(((w:Nat):Int) / 2 ^ ((o:Nat):Int).toNat%2==1)=w.testBit o:=cx w o
def Lr(h:N ke=none)(e:ad N M)(e':ad (hid ke M) M'):ad N M':=λb o hb=>e' b o (by
 rw[iL (λz=>by rw[z,h] at hb;cases hb)];exact e b o hb)
def Ls:a8 [] 0=[]:=rfl
def BR{ns:Zi}(h:s<ns.length):de (ns.map D.int) (s:Int)=some (.int (cellAt ns s)):=dO (by
 rw[ZG,ZD h];show _=some (D.int ((ns[s]?).getD 0));rw[ZD h];rfl)
def xG:az:=λds M Q=>∃(a:Addr) (ns:Zi),ds=[.ref a]/\M a=some (.rol (ns.map .int))/\ns.length<=63/\∀M',Q (.bl true) M'
section
variable {cn:Cn}{ds:List D}{M:MH}{Q:DK}{c:CA}{S V:Addr}
theorem NH(t1:cn.T V "told_facts" = some (jx c S V))(t2:cn.T V "drop" = some (zB c S V))(t3:cn.T V "put" = some (DE c S V))(t4:cn.T V "parts_list" = some (m7 c S V))(t5:cn.T V "true_facts" = some (rA c S V))(t6:cn.T V "open_facts" = some (rC c S V))
  (f0:cn.F.getD 0 'd'=qA c S V) (f1:cn.F.getD 1 'd'=lP c S V) (f2:cn.F.getD 2 'd'=bU S (jw c S)) (f3:cn.F.getD 3 'd'=oA) (f4:cn.F.getD 4 'd'=uT) (h:xG ds M Q):wSs cn uW (fin Q) (ai ["","","","","","","","","","","",""] ds) M:=by
 obtain⟨a,ns,rfl,hM,Sb,q⟩:=h;show wSs cn uW (fin Q) [↑a,none,none,none,none,none,none,none,none,none,none,none] M;unfold uW;simp! only[List.set,f3];refine⟨a,ns,0,rfl,hM,?_⟩;generalize cellAt ns 0=first
 -- how aa facts
 have aa:∀K:DK,(∀(m:Nat) M1,1<=m->m<=12->ad M M1->K (⇑m) M1)->wE cn (.bin .Add (.int 1) (.bin .Mod (.bin .FloorDiv (.var 1) (.int 4)) (.ix (.lst (.cons (.int 8) (.cons (.int 12) .nil))) (.bin .Mod (.var 1) (.int 2))))) [↑a,some (.int first),none,none,none,none,none,none,none,none,none,none] M K:=by
  intro K hK;simp! only[];refine⟨⟨by decide,by decide⟩,λp hp=>?_⟩;have e1:=ad.new hp (o:=.lst [.int 8,.int 12]);rw[ab];generalize ae M p (MO.lst [.int 8,.int 12])=M1 at *;have Vl:∀n:Int,0<n->n<=12->∀z:Int,0<=z->z<n->K (.int (1+z)) M1:=λn _ h2 z h3 h4=>by
   have:=hK (1+z).toNat M1 'a' 'a' e1
   rwa [Int.toNat_of_nonneg 'a'] at this
  refine⟨by decide,?_⟩;have h3:=qu (y:=first) (m:=2) 'b';have cs:first%2=0\/first%2=1:=by omega
  rcases cs with z | z<;>rw[z]
  .simp! only[cf]
   have b:=qu (y:=first / 4) (m:=8) 'b';exact⟨by decide,Vl 8 'b' 'b' _ b.1 b.2⟩
  .simp! only[cm]
   have b:=qu (y:=first / 4) (m:=12) 'b';exact⟨by decide,Vl 12 'b' 'b' _ b.1 b.2⟩
 unfold wY;show wE cn _ _ M _;refine aa _ λm M1 Xk Sr e1=>?_
 clear aa;have Yr:=e1 _ _ hM;show wSs cn qE (fin Q) [↑a,some (.int first),~~~m,none,none,none,none,none,none,none,none,none] M1;unfold qE;simp! only[List.set,f3];refine⟨a,ns,1,rfl,Yr,by decide,?_⟩;obtain⟨d,TF,Ym,ed⟩:∃d:Int,0<=d/\d<=1/\1-cellAt ns 1%2=d:=by
  have:=qu (y:=cellAt ns 1) (m:=2) 'b'
  exact⟨_,by omega,by omega,rfl⟩
 show wSs cn qD (fin Q) [↑a,some (.int first),~~~m,some (.int (1-cellAt ns 1%2)),none,none,none,none,none,none,none,none] M1;rw[ed];clear ed
 -- the a_,and all behind them
 have rest:∀(R:Nat) (g_:List D) (a_:Zy) (A:MH),ad M1 A->A R=some (.lst g_)->b8 A g_ a_->bV m a_->wSs cn qC (fin Q) [↑a,some (.int first),~~~m,some (.int d),↑R,none,none,none,none,none,none,none] A:=by
  intro R g_ a_ A ap g6 A6 ok;have al:∀(F:List D->MH->Prop) (xs:List D) (P9 dn:Zy) (ac:List D) (v2 v3:Zz) (j:MH),b8 A xs P9->ad A j->b8 j ac dn->(∀QZ M8,ad A M8->b8 M8 QZ (dn++P9)->F QZ M8) ->
    aH (λM'=>M' R=some (.lst g_)) (.tp [12,13]) (λx M Q=>Q true M) (wE cn (.tup (.cons (.var 12) (.cons (.bk .list (.cons (.var 13) .nil)) .nil)))) F xs ac [↑a,some (.int first),~~~m,some (.int d),↑R,none,none,none,none,none,none,none,v2,v3] j:=by
   intro F xs P9 dn g_ v2 v3 j hx;induction hx generalizing dn g_ v2 v3 j with
   |nil=>
    intro C h5 k;rw[aH];rw[ZA] at k;exact k g_ j C h5
   |@cons d x xs P9 hd _ ih=>
    intro C h5 k;obtain⟨q1,rfl,Rv⟩:=hd;have a5:=C _ _ Rv;rw[aH];simp! only[List.set,nn,gr,a5,lU,cu];refine⟨rfl,λr hr=>?_⟩;have G:=C.then (o:=MO.lst (x.2.map CT.told)) hr;refine⟨G _ _ g6,ih (dn++[x]) _ _ _ _ G ?_ ?_⟩
    .exact bR (b8.ext (ad.new hr) h5) (.cons ⟨r,rfl,ab⟩ .nil)
    .intro QZ A e h
     rw[ZB] at h;exact k QZ A e h
  unfold qC;simp! only[List.set,List.cons_append,List.nil_append,List.replicate,g6,f2];refine al _ g_ a_ [] [] none none A A6 (ad.refl A) .nil ?_;clear al;intro Rk J Y hA r hr;rw[List.nil_append] at hA;have e8:=Y.then (o:=MO.lst Rk) hr;have g8:ae J r (MO.lst Rk) r=some (.lst Rk):=ab;have A8:=hA.ext (ad.new (o:=MO.lst Rk) hr);generalize ae J r (MO.lst Rk)=M8 at *;intro sh Uy;have es:ad M8 (ae M8 sh (.ins S [])):=ad.new Uy;refine⟨sh,m,r,Rk,a_,rfl,ab,es _ _ g8,A8.ext es,ok,λM9 b9 S9=>⟨rfl,?_⟩⟩;have e9:ad A M9:=e8.trans (ExtBut.ext es b9 Uy);have A9:=A6.ext e9;have r9:=e9 _ _ g6;have a0:=(ap.trans e9) _ _ Yr;clear e8 g8 A8 es b9 Uy hr hA Y e9 A6 g6 ap;clear J M8 A;unfold wX;simp! only[List.set];unfold wW;simp! only[List.set,f1];refine tm S9 λbe s0 u0 a6 a7 N R8 Qp KB RB=>?_
  have SN:=S9.ext Qp;have AN:=A9.ext Qp;have rN:=Qp _ _ r9;have hN:=Qp _ _ a0;clear S9 A9 r9 a0 Qp R8 M9;have O:∀(ke told s u pp pb:Nat) (j:MH) (Z:DK),ad N j->br c S V j ke m a_ told s u sh pp pb->KR m a_ told s u->(∀A,ad j A->Z (.bl true) A)->qA c S V [.ref ke,.ref R,⇑told,⇑m] j Z:=
   λke told s u pp pb j Z e K P hZ=>⟨ke,R,m,g_,a_,told,s,u,sh,pp,pb,rfl,K,P,e _ _ rN,AN.ext e,hZ⟩
  have c2:m<30:=by omega
  -- behind the loop
  have last:∀(ke told s u pp pb:Nat) (v9 B:Zz) (j:MH),ad N j->br c S V j ke m a_ told s u sh pp pb->KR m a_ told s u->wSs cn oQ (fin Q) [↑a,some (.int first),~~~m,some (.int d),↑R,↑sh,~~~told,↑be,↑ke,v9,B,none] j:=by
   intro ke told s u pp pb v9 B j C I P;have ba:=I.1.told;unfold oQ;simp! only[List.set,f0];refine O ke told s u pp pb j _ C I P λA G=>?_
   simp! only[Bool.not_true];refine O be 0 s0 u0 a6 a7 A _ (C.trans G) (KB.ext (C.trans G)) RB λJ Y=>?_
   simp! only[Bool.not_true];have a1:=(C.trans G).trans Y;clear G Y I C A j;unfold zN;simp! only[List.set,f1,f2];intro r hr;have e8:=a1.then (o:=MO.lst []) hr;have g8:ae J r (MO.lst []) r=some (.lst []):=ab;generalize ae J r (MO.lst [])=M8 at *;intro s2 RG;have es:ad M8 (ae M8 s2 (.ins S [])):=ad.new RG;refine⟨s2,0,r,[],[],rfl,ab,es _ _ g8,.nil,⟨by decide,by decide,λx hx=>nomatch hx⟩,λM9 b9 S9=>⟨rfl,?_⟩⟩;have VV:ad N M9:=e8.trans (ExtBut.ext es b9 RG);clear a1 e8 g8 es b9 RG hr;clear J M8;refine tm S9 λb2 s3 u3 VX VY Rw W6 Qp Ud _=>?_
   have Vm:=VV.trans Qp;have z1:s3=0:=Nat.lt_one_iff.1 Ud.1.sure;have z2:u3=0:=Nat.lt_one_iff.1 Ud.1.open_;subst z1 z2;clear S9 VV Qp W6 M9;unfold zM;simp! only[List.set,Ud.2.1,Lp,t4];refine⟨trivial,b2,0,[],0,0,0,s2,VX,VY,rfl,Ud,λp1 QI Su Q8 QX=>?_⟩;have TJ:=Ud.ext Q8;rw[Ls,XA] at QX;simp! only[TJ.2.1,zJ,t1];refine⟨trivial,b2,0,[],0,0,0,s2,VX,VY,rfl,TJ,?_⟩;simp! only[TJ.2.1,vK,t5];refine⟨trivial,b2,0,[],0,0,0,s2,VX,VY,rfl,TJ,?_⟩;simp! only[TJ.2.1,rD,t6];refine⟨trivial,b2,0,[],0,0,0,s2,VX,VY,rfl,TJ,λp2 G'=>?_⟩;have a2:=(Vm.trans Q8).then (o:=MO.lst [.ref p1,.int ((0:Nat):Int),.int ((0:Nat):Int),.int ((0:Nat):Int)]) G';have Ue:ae QI p2 (MO.lst [.ref p1,.int ((0:Nat):Int),.int ((0:Nat):Int),.int ((0:Nat):Int)]) p2=some (.lst [.ref p1,.int ((0:Nat):Int),.int ((0:Nat):Int),.int ((0:Nat):Int)]):=ab;have QX:=(ad.new (o:=MO.lst [.ref p1,.int ((0:Nat):Int),.int ((0:Nat):Int),.int ((0:Nat):Int)]) G') _ _ QX;generalize ae QI p2 (MO.lst [.ref p1,.int ((0:Nat):Int),.int ((0:Nat):Int),.int ((0:Nat):Int)])=U8 at *;intro p3 QW;have bb:p1≠p3:=λz=>by rw[←z,QX] at QW;cases QW
   have U_:=a2.then (o:=MO.lst []) QW;have T3:ae U8 p3 (MO.lst []) p3=some (.lst []):=ab;have QX:=(ad.new (o:=MO.lst []) QW) _ _ QX;have Ue:=(ad.new (o:=MO.lst []) QW) _ _ Ue;generalize ae U8 p3 (MO.lst [])=U9 at *;intro p4 Rh;have a3:=U_.then (o:=MO.lst [.ref p3,.int 0,.int 0,.int 0]) Rh;have a4:ae U9 p4 (MO.lst [.ref p3,.int 0,.int 0,.int 0]) p4=some (.lst [.ref p3,.int 0,.int 0,.int 0]):=ab;have T3:=(ad.new (o:=MO.lst [.ref p3,.int 0,.int 0,.int 0]) Rh) _ _ T3;have QX:=(ad.new (o:=MO.lst [.ref p3,.int 0,.int 0,.int 0]) Rh) _ _ QX;have Ue:=(ad.new (o:=MO.lst [.ref p3,.int 0,.int 0,.int 0]) Rh) _ _ Ue;generalize ae U9 p4 (MO.lst [.ref p3,.int 0,.int 0,.int 0])=c3 at *;refine⟨p2,p4,p1,p3,[.int ((0:Nat):Int),.int ((0:Nat):Int),.int ((0:Nat):Int)],[.int 0,.int 0,.int 0],rfl,rfl,?_,?_,bb,?_,?_,⟨rfl,rfl,?_,rfl⟩,?_⟩
   .rw[Ue];rfl
   .rw[a4];rfl
   .rw[QX];rfl
   .rw[T3];rfl
   .show(0:Nat)<=30
    decide
   rw[show cY [D.int ((0:Nat):Int),.int ((0:Nat):Int),.int ((0:Nat):Int)] [.int 0,.int 0,.int 0]=true from lT _ rfl,Bool.not_true];simp! only[];clear QX Ue T3 a4 U_ a2 Rh QW G' TJ Ud Vm Q8 Su;unfold zL;simp! only[List.set,f0,f1];refine zK (SN.ext a3) ba λk3 s4 u4 bL b1 b3 _ b4 b5 b6=>?_
   exact O k3 told s4 u4 bL b1 b3 _ (a3.trans b4) b5 b6 λcd _=>q cd
  have go:∀(ke told s u pp pb:Nat) (j:MH),N ke=none->ad N j->br c S V j ke m a_ told s u sh pp pb->KR m a_ told s u->wSs cn oS (fin Q) [↑a,some (.int first),~~~m,some (.int d),↑R,↑sh,~~~told,↑be,↑ke,none,none,none] j:=by
   intro ke told s u pp pb j Uc C I P;unfold oS;simp! only[List.set,f0];refine O ke told s u pp pb j _ C I P λA G=>?_
   simp! only[Bool.not_true]
   -- one change
   have body:∀(E:cP) (k:Nat) (told s u:Nat) (B:Zz) (j:MH),k<ns.length->ad N j->br c S V j ke m a_ told s u sh pp pb->KR m a_ told s u ->
     (∀told s u B A,ad N A->br c S V A ke m a_ told s u sh pp pb->KR m a_ told s u->E.nx [↑a,some (.int first),~~~m,some (.int d),↑R,↑sh,~~~told,↑be,↑ke,~~~k,B,none] A) ->
     wSs cn oR E [↑a,some (.int first),~~~m,some (.int d),↑R,↑sh,~~~told,↑be,↑ke,~~~k,B,none] j:=by
    intro E k told s u B j hk C I P kk;have after:∀(told s u:Nat) (B:Zz) (A:MH),ad N A->br c S V A ke m a_ told s u sh pp pb->KR m a_ told s u->wSs cn tq E [↑a,some (.int first),~~~m,some (.int d),↑R,↑sh,~~~told,↑be,↑ke,~~~k,B,none] A:=by
     intro told s u B A G U Vn;unfold tq;simp! only[List.set,G _ _ hN,BR hk];refine⟨⟨by omega (splitDisjunctions:=true),by omega (splitDisjunctions:=true)⟩,by decide,⟨rfl,rfl,by rw[ax];exact YN _⟩,?_⟩;refine vb (λ_=>?_) (λ_=>?_)
     .simp only[f0]
      refine O ke told s u pp pb A _ G U Vn λJ Y=>?_
      simp! only[Bool.not_true];exact kk told s u B J (G.trans Y) (U.ext Y) Vn
     .exact kk told s u B A G U Vn
    unfold oR;simp! only[List.set];refine⟨by decide,⟨rfl,rfl,by rw[ax];exact YN _⟩,?_⟩;refine vb (λ_=>?_) (λ_=>kk told s u B j C I P);simp! only[List.set,C _ _ hN,BR hk];refine⟨by omega,?_⟩;obtain⟨f,ef,hf⟩:=Nx (x:=cellAt ns k) (n:=m) 'a';rw[ef];have next:∀(w:Nat) (ws:Zj) (s' u':Nat) (A:MH),j w=none->ad (hid ke j) A->br c S V A ke m a_ (told ^^^ 2 ^ f) s' u' sh pp pb->Wb a_ f (told ^^^ 2 ^ f) (a8 a_ m) 0 0 s u ws s' u'->wSs cn tt E [↑a,some (.int first),~~~m,some (.int d),↑R,↑sh,~~~told,↑be,↑ke,~~~k,~~~f,none] A:=by
     intro w ws s' u' A hw G U W;unfold tt;simp! only[List.set,rk,vF];refine⟨⟨by omega,by omega⟩,?_⟩;exact after (told ^^^ 2 ^ f) s' u' _ A (Lr Uc C G) U (Ln ok I.1 P U.1 (λg hg=>Iu hg) W)
    unfold zO;simp! only[List.set,I.2.1,vL,zQ,t2,t3];refine⟨by omega,⟨rfl,rfl,by rw[ax];exact YN _⟩,?_⟩;rw[PyProof.Rows.bitAnd_m1,av,Lq];cases hb:told.testBit f with
    |true=>
     simp! only[List.set,I.2.1,vL,zQ,t2,t3];refine⟨trivial,ke,m,a_,told,s,u,sh,pp,pb,f,rfl,I,hf,hb,λw ws s' u' A hw G U g6 W=>?_⟩;rw[←Lo hb] at U W;exact next w ws s' u' A hw G U W
    |false=>
     simp! only[List.set,I.2.1,vL,zQ,t2,t3];refine⟨trivial,ke,m,a_,told,s,u,sh,pp,pb,f,rfl,I,hf,hb,λw ws s' u' A hw G U g6 W=>?_⟩;rw[←NG hb] at U W;exact next w ws s' u' A hw G U W
   have al:∀(l:Zj) (told s u:Nat) (v9 B:Zz) (j:MH),(∀k∈l,k<ns.length)->ad N j->br c S V j ke m a_ told s u sh pp pb->KR m a_ told s u ->
     ar (λ_=>True) (.nm 9) (wSs cn oR) { nx:=wSs cn oQ (fin Q),rt:=Q } (nats l) [↑a,some (.int first),~~~m,some (.int d),↑R,↑sh,~~~told,↑be,↑ke,v9,B,none] j:=by
    intro l;induction l with
    |nil=>
     intro told s u v9 B j _ C I P;rw[show nats []=[] from rfl,ar];exact last ke told s u pp pb v9 B j C I P
    |cons k l ih=>
     intro told s u v9 B j hl C I P;rw[show nats (k::l)=⇑k::nats l from rfl,ar];exact body _ k told s u B j (hl k (.head _)) C I P λtold s u B A G U P=>⟨trivial,ih told s u _ B A (λg hg=>hl g (.tail _ hg)) G U P⟩
   unfold zP;simp! only[List.set,(C.trans G) _ _ hN,cu,ZF];rw[if_neg 'a'];have er:bM 3 ((ns.length:Nat):Int)=nats ((List.range (ns.length-3)).map (3 + ·)):=by
    unfold bM nats;rw[ZM,show((ns.length:Nat)-3:Int).toNat=ns.length-3 by omega];refine ZN λi _=>?_
    show D.int (3+(i:Int))=D.int ((3+i:Nat):Int);congr 1
   rw[er];exact⟨⟨by decide,by decide,by omega,by omega⟩,al _ told s u none none A (λk hk=>by
    obtain⟨i,hi,rfl⟩:=List.mem_map.1 hk
    have:=ZW.1 hi
    omega) (C.trans G) (I.ext G) P⟩
  unfold wV;simp! only[List.set,f1];refine tm SN λke s u pp pb j Uc C I P=>?_
  unfold wU;simp! only[List.set,f3];refine⟨⟨by decide,by decide⟩,by decide,⟨rfl,rfl,by rw[ax];exact YN _⟩,?_⟩;refine vb (λ_=>?_) (λ_=>go ke 0 s u pp pb j Uc C I P);simp! only[List.set,f3];refine⟨a,ns,1,rfl,C _ _ hN,⟨by decide,by decide⟩,?_⟩;have ep:(1:Int)*2 ^ m=((2 ^ m:Nat):Int):=by rw[Int.one_mul];simp
  refine⟨⟨by omega,by omega⟩,?_⟩;show 0<(1:Int)*2 ^ m/\wSs cn qB { nx:=wSs cn oS (fin Q),rt:=Q } [↑a,some (.int first),~~~m,some (.int d),↑R,↑sh,some (.int (cellAt ns 1 / 2%((1:Int)*2 ^ m))),↑be,↑ke,none,none,none] j;rw[ep];refine⟨Bz m,?_⟩;obtain⟨told,et,ht⟩:=Nx (x:=cellAt ns 1 / 2) (n:=2 ^ m) (Bz m);rw[et];unfold qB;simp! only[List.set,f1];exact zK (SN.ext C) ht λcA s2 u2 cB cC A Ys G U Vn=>go cA told s2 u2 cB cC A (C.free Ys) (C.trans G) U Vn
 have run:∀(x:Int) (j:MH) (Z:DK),(∀(r:Row) pc J,r.1<m->r.2.length<=6->(∀t∈r.2,t.fit (m:Int))->ad j J->J pc=some (.lst (r.2.map CT.told))->Z (.tup [⇑r.1,.ref pc]) J) ->
   wE cn (.fn 4 (.cons (.lst (.cons (.var 12) (.cons (.var 3) .nil))) (.cons (.var 2) .nil))) [↑a,some (.int first),~~~m,some (.int d),none,none,none,none,none,none,none,none,some (.int x)] j Z:=by
  intro x j Z hZ;simp! only[f4];intro pb TB;have eb:ad j (ae j pb (.lst [.int x,.int d])):=ad.new TB;refine⟨pb,x,d,m,rfl,ab,TF,by omega,⟨by omega,by omega⟩,λf ts pc J b7 d7 hf hl ht c4 B7 g7=>?_⟩;exact hZ (f,ts) pc J hf hl ht (ExtBut.ext eb B7.but TB) g7
 unfold qD;simp! only[List.set,List.cons_append,List.nil_append,List.replicate,Yr,cu,Hg,Ni];intro L hL;have c1:(dr (dQ (ns.map D.int) (some (2:Int)) (some (63:Int)))).length<=63:=ZX (EO _) (ZX (KP _ 2 63) 'b');have S7:∀d∈dr (dQ (ns.map D.int) (some (2:Int)) (some (63:Int))),∃c,d=D.int c:=λd hd=>by
  obtain⟨k,hk⟩:=XW hd;rw[vn] at hk;obtain⟨c,-,rfl⟩:=List.mem_map.1 (KQ (YU hk));exact⟨c,rfl⟩
 generalize dr (dQ (ns.map D.int) (some (2:Int)) (some (63:Int)))=cells at *;have e2:ad M1 (ae M1 L (.lst cells)):=ad.new hL;have g2:ae M1 L (MO.lst cells) L=some (.lst cells):=ab;generalize ae M1 L (MO.lst cells)=M2 at *;simp only[g2];have step:∀(F:List D->MH->Prop),(∀(g_:List D) (a_:Zy) (j:MH),ad M2 j->b8 j g_ a_->bV m a_->F g_ j)->∀(xs g_:List D) (rs:Zy) (v:Zz) (j:MH),(∀d∈xs,∃c,d=D.int c)->rs.length+xs.length<=63->ad M2 j->b8 j g_ rs->(∀x∈rs,x.1<m/\x.2.length<=6/\∀t∈x.2,t.fit (m:Int)) ->
   aH (λM'=>M' L=some (.lst cells)) (.nm 12) (λx M Q=>Q true M) (wE cn (.fn 4 (.cons (.lst (.cons (.var 12) (.cons (.var 3) .nil))) (.cons (.var 2) .nil)))) F xs g_ [↑a,some (.int first),~~~m,some (.int d),none,none,none,none,none,none,none,none,v] j:=by
  intro F K xs;induction xs with
  |nil=>
   intro g_ rs v j _ hl C A5 hf;rw[aH];exact K g_ rs j C A5 ⟨by omega,by rw[YV] at hl;omega,hf⟩
  |cons y xs ih=>
   intro g_ rs v j hx hl C A5 hf;obtain⟨z,rfl⟩:=hx y (.head _);rw[YJ] at hl;rw[aH];show wE cn _ [↑a,some (.int first),~~~m,some (.int d),none,none,none,none,none,none,none,none,some (.int z)] j _;refine run z j _ λr pc J r1 r2 r3 Y g7=>⟨(C.trans Y) _ _ g2,?_⟩
   refine ih (g_++[_]) (rs++[r]) _ J (λd hd=>hx d (.tail _ hd)) (by rw[ZK,XB];omega) (C.trans Y) (bR (A5.ext Y) (.cons ⟨pc,rfl,g7⟩ .nil)) λx hx=>?_
   rcases YC.1 hx with z | z
   .exact hf x z
   .rw[XQ.1 z];exact⟨r1,r2,r3⟩
 refine step _ (λg_ a_ j C A5 ok=>?_) cells [] [] none M2 S7 (by simpa using c1) (ad.refl _) .nil (λx hx=>nomatch hx);clear step run;intro R hR;have eR:ad j (ae j R (.lst g_)):=ad.new hR;have A6:=A5.ext eR;have g6:ae j R (MO.lst g_) R=some (.lst g_):=ab;generalize ae j R (MO.lst g_)=A at *;exact rest R g_ a_ A (e2.trans (C.trans eR)) g6 A6 ok
end
end SP
namespace K81
open PySem L2 DD
abbrev nQ:List Str:=["many","leanings","found","row","row_leaned","fact","lack"]
abbrev mJ:List Str:=["many","leanings"]
def uX:cg nQ mJ (am i7):=⟨rfl,rfl,rfl,by rfl',rfl,by rfl',by rfl'⟩
abbrev uY:List Str:=[]
def uZ:c5 ⟨nQ,am i7,true,fK,i6,uY⟩ SH.eZ (aL i7)=true:=by rfl'
abbrev Jj:List Str:=["_law_script","_law_first","_law_many","_law_mode","_law_rows","_law_sheet","_law_told","_law_beside","_law_keeper","_law_k","_law_fact","_law_bare"]
abbrev NI:List Str:=["_law_script"]
def NJ:cg Jj NI (am tO):=⟨rfl,rfl,rfl,by rfl',rfl,by rfl',by rfl'⟩
abbrev NK:List Str:=["_law_fits","Keeper","Sheet","_law_cell_at","_law_row"]
def NL:c5 ⟨Jj,am tO,true,fK,i6,NK⟩ SP.uW (aL tO)=true:=by rfl'
end K81
namespace K81
open PySem PySem.Spec PyProof.Rows L2 DD
variable {fns ps N blt glob:Zf}{sp:az}{i_ m:Str}{a C b d:Addr}{ir:Ss}{cn:Cn}{st:Stmt}{P:List Value->Prop}{j:Nat}{h:Heap}
theorem P1(h:P []):∀us:List Value,us.length=0->P us
 |[],_=>h
theorem NM(h:∀a,P [a]):∀us:List Value,us.length=1->P us
 |a::t,hl=>P1 (P:=λt=>P (a::t)) (h a) t (Nat.succ.inj hl)
 |[],hl=>nomatch hl
theorem OI(h:∀a b,P [a,b]):∀us:List Value,us.length=2->P us
 |a::t,hl=>NM (P:=λt=>P (a::t)) (h a) t (Nat.succ.inj hl)
 |[],hl=>nomatch hl
theorem OJ(h:∀a b c,P [a,b,c]):∀us:List Value,us.length=3->P us
 |a::t,hl=>OI (P:=λt=>P (a::t)) (h a) t (Nat.succ.inj hl)
 |[],hl=>nomatch hl
theorem OK(h:∀a b c d,P [a,b,c,d]):∀us:List Value,us.length=4->P us
 |a::t,hl=>OJ (P:=λt=>P (a::t)) (h a) t (Nat.succ.inj hl)
 |[],hl=>nomatch hl
theorem OL(h:∀a b c d e,P [a,b,c,d,e]):∀us:List Value,us.length=5->P us
 |a::t,hl=>OK (P:=λt=>P (a::t)) (h a) t (Nat.succ.inj hl)
 |[],hl=>nomatch hl
theorem P2(h:∀a b c d e f,P [a,b,c,d,e,f]):∀us:List Value,us.length=6->P us
 |a::t,hl=>OL (P:=λt=>P (a::t)) (h a) t (Nat.succ.inj hl)
 |[],hl=>nomatch hl
local macro_rules
 | `(tactic| ac_rfl) => `(tactic| exact ⟨rfl, rfl, rfl, by rfl', rfl, by rfl', by rfl'⟩)
abbrev nO(st:Stmt):List Str:=((am st).names.filter λp=>p.2==.local || p.2==.cell).map (·.1)
local macro_rules
 | `(tactic| ac_nf) => `(tactic| first | exact λ_ _ _ _ _ _ => NM λ_ => rfl | exact λ_ _ _ _ _ _ => OI λ_ _ => rfl | exact λ_ _ _ _ _ _ => OJ λ_ _ _ => rfl | exact λ_ _ _ _ _ _ => OK λ_ _ _ _ => rfl | exact λ_ _ _ _ _ _ => OL λ_ _ _ _ _ => rfl | exact λ_ _ _ _ _ _ => P2 λ_ _ _ _ _ _ => rfl)
local macro_rules
 | `(tactic| bv_omega) => `(tactic|(intro ds M Q h;repeat first|(obtain⟨e,_⟩:=h;subst e;rfl)|obtain⟨_,h⟩:=h))
def qF(c:SH.CA):kY:=λa m=>(SH.kindAt c a).bind λk=>if m = "carried" then some (SH.cN c k) else if m = "leaning" then some (SH.cO c k) else none
def gq(c:SH.CA)(S:Addr):kY:=λa m=>if a=S then(if m = "how_many" then some (SH.d9 c S) else if m = "rows_for" then some (SH.jE c S) else if m = "rows_helped" then some (SH.fE c S) else if m = "head_of" then some (SH.ja c S) else if m = "conds_of" then some (SH.jF c S) else if m = "leaned" then some (SG.jh c S) else none) else none
def FJ(S:Addr):qc:=λC f=>C=S/\f∈SH.iM
def Ow(V:Addr):qc:=λC f=>C=V/\f∈SP.gz
section
variable {P:Zw}{w:World}{K:Za}{mg:Ze}{base:Heap}{c:SH.CA}{S V:Addr}{k:Nat}
def zR(h:c.apart)(t:SH.CT):qF c (c.at t.kind) "carried" = some (SH.cN c t.kind):=by
 unfold qF;rw[h _ t.kind_lt];rfl
def zS(h:c.apart)(t:SH.CT):qF c (c.at t.kind) "leaning" = some (SH.cO c t.kind):=by
 unfold qF;rw[h _ t.kind_lt];rfl
def gC:gq c S S "how_many" = some (SH.d9 c S):=by unfold gq;rw[if_pos rfl];kernel_rfl
def xm:gq c S S "rows_for" = some (SH.jE c S):=by unfold gq;rw[if_pos rfl];kernel_rfl
def tu:gq c S S "rows_helped" = some (SH.fE c S):=by unfold gq;rw[if_pos rfl];kernel_rfl
def qG:gq c S S "head_of" = some (SH.ja c S):=by unfold gq;rw[if_pos rfl];kernel_rfl
def xn:gq c S S "conds_of" = some (SH.jF c S):=by unfold gq;rw[if_pos rfl];kernel_rfl
def sx:gq c S S "leaned" = some (SG.jh c S):=by unfold gq;rw[if_pos rfl];kernel_rfl
def OM(A:bp K m st)(X:K.In h)(G:h.Ns mainGlobals mg)
  (hb:∀(kV v_ pm:Value) (an:Zm) (p_ ct:Value) (us:Zd),us.length=ps.length->bindArgs (PySem.W.fnOf m m (bq st) (aL st) (am st) .none kV v_ pm an p_ ct) ⟨us,[]⟩=pure (ps.zip us))
  (S:cg N ps (am st)) (nm:Names P w K mg base k glob blt fns cn) (hc:c5 ⟨N,am st,true,glob,blt,fns⟩ ir (aL st)=true) (len:∀ds M Q,sp ds M Q->ds.length=ps.length)
  (h':∀ds M Q,sp ds M Q->wSs cn ir { nx:=λ_ M'=>Q .non M',rt:=Q } (ai N ds) M):bS P w K mg base (k+1) m sp:=by
 obtain⟨_,_,A⟩:=A;exact No (A.def_ X G hb) S nm hc len h'
def Ox(cl:fV K C)(A:bF K C m i_ st)(S:cg N ps (am st))(nm:Names P w K mg base k glob blt fns cn)
  (hb:∀(kV v_ pm:Value) (an:Zm) (p_ ct:Value) (us:Zd),us.length=ps.length->bindArgs (PySem.W.fnOf m i_ (bq st) (aL st) (am st) .none kV v_ pm an p_ ct) ⟨us,[]⟩=pure (ps.zip us))
  (hc:c5 ⟨N,am st,true,glob,blt,fns⟩ ir (aL st)=true) (len:∀ds M Q,sp ds M Q->ds.length=ps.length)
  (h:∀ds M Q,sp ds M Q->wSs cn ir { nx:=λ_ M'=>Q .non M',rt:=Q } (ai N ds) M):a9 P w K mg base (k+1) C m sp:=by
 obtain⟨_,_,A⟩:=A;exact HG cl A S nm hb hc len h
def FK(hx:mg m=some (.ref C))(hm:PySem.W.makesIn K C=true)(hk:PySem.W.keepIn K (.ref C)=true)(A:bF K C "__init__" i_ st)
  (S:cg N ps (am st)) (nm:Names P w K mg base k glob blt fns cn)
  (hb:∀(kV v_ pm:Value) (an:Zm) (p_ ct:Value) (us:Zd),us.length=ps.length->bindArgs (PySem.W.fnOf "__init__" i_ (bq st) (aL st) (am st) .none kV v_ pm an p_ ct) ⟨us,[]⟩=pure (ps.zip us))
  (hc:c5 ⟨N,am st,true,glob,blt,fns⟩ ir (aL st)=true) (len:∀ds M Q,sp ds M Q->ds.length=ps.length)
  (h:∀ds M Q,sp ds M Q->wSs cn ir { nx:=λ_ M'=>Q .non M',rt:=Q } (ai N ds) M):dH P w K mg base (k+2) m (bU C sp):=by
 obtain⟨_,_,A⟩:=A;exact Np hx hm hk A S nm hb hc len h
theorem cp(n:Nat)(A:bp K m st)(X:K.In h)(G:h.Ns mainGlobals mg)(nm:Names P w K mg base k fK i6 fns cn)(h':∀ds M Q,sp ds M Q->wSs cn ir { nx:=λ_ M'=>Q .non M',rt:=Q } (ai (nO st) ds) M)
 (hb:∀(kV v_ pm:Value) (an:Zm) (p_ ct:Value) (us:Zd),us.length=((nO st).take n).length->bindArgs (PySem.W.fnOf m m (bq st) (aL st) (am st) .none kV v_ pm an p_ ct) ⟨us,[]⟩=pure (((nO st).take n).zip us):=by ac_nf)
 (S:cg (nO st) ((nO st).take n) (am st):=by ac_rfl) (hc:c5 ⟨nO st,am st,true,fK,i6,fns⟩ ir (aL st)=true:=by rfl') (len:∀ds M Q,sp ds M Q->ds.length=((nO st).take n).length:=by bv_omega):bS P w K mg base (k+1) m sp:=OM A X G hb S nm hc len h'
theorem cG(n:Nat)(cl:fV K C)(A:bF K C m i_ st)(nm:Names P w K mg base k fK i6 fns cn)(h:∀ds M Q,sp ds M Q->wSs cn ir { nx:=λ_ M'=>Q .non M',rt:=Q } (ai (nO st) ds) M)
 (hb:∀(kV v_ pm:Value) (an:Zm) (p_ ct:Value) (us:Zd),us.length=((nO st).take n).length->bindArgs (PySem.W.fnOf m i_ (bq st) (aL st) (am st) .none kV v_ pm an p_ ct) ⟨us,[]⟩=pure (((nO st).take n).zip us):=by ac_nf)
 (S:cg (nO st) ((nO st).take n) (am st):=by ac_rfl) (hc:c5 ⟨nO st,am st,true,fK,i6,fns⟩ ir (aL st)=true:=by rfl') (len:∀ds M Q,sp ds M Q->ds.length=((nO st).take n).length:=by bv_omega):a9 P w K mg base (k+1) C m sp:=Ox cl A S nm hb hc len h
structure dB (K:Za) (mg:Ze) (c:SH.CA) (S V:Addr):Prop where
 gl:∀(j:Nat) x,fK[j]?=some x->pU K mg x (nZ.getD j .non)
 bl:∀x,i6.contains x=true->mg x=none
 cl:∀i,i<4->clsIn K (c.at i) SH.gG=true
 sh:clsIn K S SH.iM=true
 kv:clsIn K V SP.gz=true
theorem dB.fl(E:dB K mg c S V):∀C f,SH.fA c C f->fV K C/\dc K C f:=by
 rintro C f ⟨i,hi,rfl,hf⟩;exact⟨aW (E.cl i hi),sG (E.cl i hi) hf⟩
theorem dB.fs(E:dB K mg c S V):∀C f,FJ S C f->fV K C/\dc K C f:=by
 rintro C f ⟨rfl,hf⟩;exact⟨aW E.sh,sG E.sh hf⟩
abbrev FM(P:Zw)(w:World)(K:Za)(mg:Ze)(base:Heap)(k:Nat)(fns:Zf)(F:List az):Prop:=∀(j:Nat) (x:Str),fns[j]?=some x->∃k',k'<=k/\dH P w K mg base k' x (F.getD j λ_ _ _=>False)
def ca{F:List az}(E:dB K mg c S V)(hf:FM P w K mg base k fns F):
 Names P w K mg base k fK i6 fns ⟨F,nZ,SH.fA c,λ_ _=>none,λ_ _=>none⟩:=⟨E.gl,E.bl,hf,E.fl,(λ_ _ _ z=>nomatch z),(λ_ _ _ z=>nomatch z)⟩
def zT{F:List az}(E:dB K mg c S V)(hf:FM P w K mg base k fns F):
 Names P w K mg base k fK i6 fns ⟨F,nZ,FJ S,λ_ _=>none,λ_ _=>none⟩:=⟨E.gl,E.bl,hf,E.fs,(λ_ _ _ z=>nomatch z),(λ_ _ _ z=>nomatch z)⟩
def ON{F:List az}(E:dB K mg c S V)(mt:∀C m sp,qF c C m=some sp->∃k',k'<=k/\a9 P w K mg base k' C m sp)(hf:FM P w K mg base k fns F):
 Names P w K mg base k fK i6 fns ⟨F,nZ,SH.fA c,qF c,λ_ _=>none⟩:=⟨E.gl,E.bl,hf,E.fl,mt,(λ_ _ _ z=>nomatch z)⟩
def FN{F:List az}(E:dB K mg c S V)(mt:∀C m sp,gq c S C m=some sp->∃k',k'<=k/\a9 P w K mg base k' C m sp)(hf:FM P w K mg base k fns F):
 Names P w K mg base k fK i6 fns ⟨F,nZ,SH.fA c,gq c S,λ_ _=>none⟩:=⟨E.gl,E.bl,hf,E.fl,mt,(λ_ _ _ z=>nomatch z)⟩
def dE{T:kY}(h:j<=k)(mt:∀C m sp,T C m=some sp->∃k',k'<=j/\a9 P w K mg base k' C m sp):∀C m sp,T C m=some sp->∃k',k'<=k/\a9 P w K mg base k' C m sp:=λC m sp e=>let⟨k',h1,h2⟩:=mt C m sp e;⟨k',ZX h1 h,h2⟩
theorem dB.fk(E:dB K mg c S V):∀C f,Ow V C f->fV K C/\dc K C f:=by
 rintro C f ⟨rfl,hf⟩;exact⟨aW E.kv,sG E.kv hf⟩
def pM{O:qc}{T:kY}{F:List az}(E:dB K mg c S V)(g:∀C f,O C f->fV K C/\dc K C f)(mt:∀C m sp,T C m=some sp->∃k',k'<=k/\a9 P w K mg base k' C m sp)(hf:FM P w K mg base k fns F):
 Names P w K mg base k fK i6 fns ⟨F,nZ,O,T,λ_ _=>none⟩:=⟨E.gl,E.bl,hf,g,mt,(λ_ _ _ z=>nomatch z)⟩
def DI(V:Addr)(x:Str)(sp:az):kY:=λa m=>if a=V/\m=x then some sp else none
def rE:DI V m sp V m=some sp:=by unfold DI;rw[if_pos ⟨rfl,rfl⟩]
def Jk(g:j<=k)(h:a9 P w K mg base j V m sp):∀C x f,DI V m sp C x=some f->∃k',k'<=k/\a9 P w K mg base k' C x f:=by
 intro C x f e;unfold DI at e;split at e
 .rename_i q
  obtain⟨rfl,rfl⟩:=q;cases e;exact⟨j,g,h⟩
 .cases e
def vM(V:Addr)(x:Str)(sp:az)(T:kY):kY:=λa m=>if a=V/\m=x then some sp else T a m
def eU{T:kY}:vM V m sp T V m=some sp:=by unfold vM;rw[if_pos ⟨rfl,rfl⟩]
def bx{T:kY}(h:m≠i_):vM V i_ sp T a m=T a m:=by unfold vM;rw[if_neg (λz=>h z.2)]
def sy{T:kY}(g:j<=k)(h:a9 P w K mg base j V m sp)(mt:∀C x f,T C x=some f->∃k',k'<=k/\a9 P w K mg base k' C x f):∀C x f,vM V m sp T C x=some f->∃k',k'<=k/\a9 P w K mg base k' C x f:=by
 intro C x f e;unfold vM at e;split at e
 .rename_i q
  obtain⟨rfl,rfl⟩:=q;cases e;exact⟨j,g,h⟩
 .exact mt C x f e
def oT(i:Nat){n:Nat}(h:∀t:SH.CT,t.kind=i->t.flds.length+1=n)(hp:ps.length=n):∀ds M Q,SH.cZ c i ds M Q->ds.length=ps.length:=by
 rintro ds M Q ⟨a,t,hk,rfl,_⟩;rw[YJ,ZF,h t hk,hp]
theorem NO(E:dB K mg c S V)
  (ap:c.apart)
  {hp:Heap}
  (X:K.In hp)
  (G:hp.Ns mainGlobals mg)
  {QP:Zv}(QD:ii K "law" tO a QP)
  (Vo:mg "Have" = some (.ref (c.at 0))) (Vp:PySem.W.makesIn K (c.at 0)=true) (Vq:PySem.W.keepIn K (.ref (c.at 0))=true)
  (Vr:mg "Lack" = some (.ref (c.at 1))) (Vs:PySem.W.makesIn K (c.at 1)=true) (Vt:PySem.W.keepIn K (.ref (c.at 1))=true)
  (Vu:mg "Some" = some (.ref (c.at 2))) (Vv:PySem.W.makesIn K (c.at 2)=true) (Vw:PySem.W.keepIn K (.ref (c.at 2))=true)
  (Vx:mg "Lead" = some (.ref (c.at 3))) (Vy:PySem.W.makesIn K (c.at 3)=true) (Vz:PySem.W.keepIn K (.ref (c.at 3))=true)
  (VA:mg "Sheet" = some (.ref S)) (VB:PySem.W.makesIn K S=true) (VC:PySem.W.keepIn K (.ref S)=true)
  (Rl:mg "Keeper" = some (.ref V)) (Rm:PySem.W.makesIn K V=true) (Rn:PySem.W.keepIn K (.ref V)=true)
  (hy:Mv K (c.at 0) (c.at 1) (c.at 2) (c.at 3) S V):
  fm P w K mg base jZ 14 a QP ["_law_script"] (ig K SP.xG):=by
 have g:bS P w K mg base 1 "has_fact" (SH.cj):=cp 2 hy.a_0 X G (ca (F:=[]) (k:=0) E 'g') λ_ _ _ h=>SH.z8 h
 have u:bS P w K mg base 2 "count_in" (SH.kJ):=cp 2 hy.a_1 X G (ca (F:=[SH.cj]) (k:=1) E (ah 'b' (.inl g) 'g')) λ_ _ _ h=>SH.Aa rfl h
 have Yt:dH P w K mg base 2 "Have" (bU (c.at 0) (SH.cZ c 0)):=FK (N:=nO rX) (ps:=(nO rX).take 2) Vo Vp Vq hy.a_60 (by ac_rfl) (ca (F:=[]) (k:=0) E 'g') (by ac_nf) (by rfl') (oT 0 (n:=2) (λt ht=>by cases t<;>first | rfl | cases ht) rfl) (λds M Q h=>SH.yQ rfl h);have Yu:a9 P w K mg base 2 (c.at 0) "carried" (SH.cN c 0):=cG 3 (aW (E.cl 0 'b')) hy.a_61 (ca (F:=[SH.cj]) (k:=1) E (ah 'b' (.inl g) 'g')) λ_ _ _ h=>SH.uw rfl rfl h
 have Yv:a9 P w K mg base 1 (c.at 0) "leaning" (SH.cO c 0):=cG 1 (aW (E.cl 0 'b')) hy.a_62 (ca (F:=[]) (k:=0) E 'g') λ_ _ _ h=>SH.uB rfl h
 have Yw:dH P w K mg base 2 "Lack" (bU (c.at 1) (SH.cZ c 1)):=FK (N:=nO rY) (ps:=(nO rY).take 2) Vr Vs Vt hy.a_63 (by ac_rfl) (ca (F:=[]) (k:=0) E 'g') (by ac_nf) (by rfl') (oT 1 (n:=2) (λt ht=>by cases t<;>first | rfl | cases ht) rfl) (λds M Q h=>SH.yR rfl h);have Yx:a9 P w K mg base 2 (c.at 1) "carried" (SH.cN c 1):=cG 3 (aW (E.cl 1 'b')) hy.a_64 (ca (F:=[SH.cj]) (k:=1) E (ah 'b' (.inl g) 'g')) λ_ _ _ h=>SH.ux rfl rfl h
 have Yy:a9 P w K mg base 1 (c.at 1) "leaning" (SH.cO c 1):=cG 1 (aW (E.cl 1 'b')) hy.a_65 (ca (F:=[]) (k:=0) E 'g') λ_ _ _ h=>SH.uC rfl h
 have Yz:dH P w K mg base 2 "Some" (bU (c.at 2) (SH.cZ c 2)):=FK (N:=nO rZ) (ps:=(nO rZ).take 3) Vu Vv Vw hy.a_66 (by ac_rfl) (ca (F:=[]) (k:=0) E 'g') (by ac_nf) (by rfl') (oT 2 (n:=3) (λt ht=>by cases t<;>first | rfl | cases ht) rfl) (λds M Q h=>SH.yS rfl h);have YK:a9 P w K mg base 3 (c.at 2) "carried" (SH.cN c 2):=cG 3 (aW (E.cl 2 'b')) hy.a_67 (ca (F:=[SH.kJ]) (k:=2) E (ah 'b' (.inl u) 'g')) λ_ _ _ h=>SH.uz rfl rfl h
 have YR:a9 P w K mg base 1 (c.at 2) "leaning" (SH.cO c 2):=cG 1 (aW (E.cl 2 'b')) hy.a_68 (ca (F:=[]) (k:=0) E 'g') λ_ _ _ h=>SH.uD rfl h
 have YS:dH P w K mg base 2 "Lead" (bU (c.at 3) (SH.cZ c 3)):=FK (N:=nO sd) (ps:=(nO sd).take 3) Vx Vy Vz hy.a_69 (by ac_rfl) (ca (F:=[]) (k:=0) E 'g') (by ac_nf) (by rfl') (oT 3 (n:=3) (λt ht=>by cases t<;>first | rfl | cases ht) rfl) (λds M Q h=>SH.yT rfl h);have Y0:a9 P w K mg base 3 (c.at 3) "carried" (SH.cN c 3):=cG 3 (aW (E.cl 3 'b')) hy.a_70 (ca (F:=[SH.cj,SH.kJ]) (k:=2) E (ah 'b' (.inl g) (ah 'b' (.inl u) 'g'))) λ_ _ _ h=>SH.uA rfl rfl rfl h
 have Y1:a9 P w K mg base 1 (c.at 3) "leaning" (SH.cO c 3):=cG 1 (aW (E.cl 3 'b')) hy.a_71 (ca (F:=[]) (k:=0) E 'g') λ_ _ _ h=>SH.uE rfl h
 have Y2:a9 P w K mg base 1 S "how_many" (SH.d9 c S):=cG 1 (aW E.sh) hy.a_73 (zT (F:=[]) (k:=0) E 'g') λ_ _ _ h=>SH.Ai (λf hf=>⟨rfl,hf⟩) h
 have Y3:a9 P w K mg base 1 S "rows_for" (SH.jE c S):=cG 2 (aW E.sh) hy.a_74 (zT (F:=[]) (k:=0) E 'g') λ_ _ _ h=>SH.Aj (λf hf=>⟨rfl,hf⟩) h
 have Y4:a9 P w K mg base 1 S "rows_helped" (SH.fE c S):=cG 2 (aW E.sh) hy.a_75 (zT (F:=[]) (k:=0) E 'g') λ_ _ _ h=>SH.vy (λf hf=>⟨rfl,hf⟩) h
 have Y5:a9 P w K mg base 1 S "head_of" (SH.ja c S):=cG 2 (aW E.sh) hy.a_76 (zT (F:=[]) (k:=0) E 'g') λ_ _ _ h=>SH.Ds (λf hf=>⟨rfl,hf⟩) h
 have Y6:a9 P w K mg base 1 S "conds_of" (SH.jF c S):=cG 2 (aW E.sh) hy.a_77 (zT (F:=[]) (k:=0) E 'g') λ_ _ _ h=>SH.Ak (λf hf=>⟨rfl,hf⟩) h
 have Qg:a9 P w K mg base 1 S "leaned" (SG.jh c S):=cG 2 (aW E.sh) hy.a_Sheet_leaned (zT (F:=[]) (k:=0) E 'g') λ_ _ _ h=>SG.Fu (λf hf=>⟨rfl,hf⟩) h
 have MC:∀C m sp,qF c C m=some sp->∃k',k'<=3/\a9 P w K mg base k' C m sp:=by
  intro C m sp e;unfold qF at e;have at_:∀i,SH.kindAt c C=some i->C=c.at i/\i<4:=by
   intro i hi;unfold SH.kindAt at hi;split at hi
   .cases hi;exact⟨by assumption,by decide⟩
   .split at hi
    .cases hi;exact⟨by assumption,by decide⟩
    .split at hi
     .cases hi;exact⟨by assumption,by decide⟩
     .split at hi
      .cases hi;exact⟨by assumption,by decide⟩
      .cases hi
  cases q:SH.kindAt c C with
  |none=>rw[q] at e;cases e
  |some i=>
   rw[q] at e;obtain⟨rfl,hi⟩:=at_ i q;have e:(if m = "carried" then some (SH.cN c i) else if m = "leaning" then some (SH.cO c i) else none)=some sp:=e;have i4:i=0\/i=1\/i=2\/i=3:=by omega
   split at e
   .rename_i hm
    subst hm;cases e;rcases i4 with rfl | rfl | rfl | rfl
    .exact⟨_,by decide,Yu⟩
    .exact⟨_,by decide,Yx⟩
    .exact⟨_,by decide,YK⟩
    .exact⟨_,by decide,Y0⟩
   .split at e
    .rename_i hm
     subst hm;cases e;rcases i4 with rfl | rfl | rfl | rfl
     .exact⟨_,by decide,Yv⟩
     .exact⟨_,by decide,Yy⟩
     .exact⟨_,by decide,YR⟩
     .exact⟨_,by decide,Y1⟩
    .cases e
 have o:∀C m sp,gq c S C m=some sp->∃k',k'<=1/\a9 P w K mg base k' C m sp:=by
  intro C m sp e;unfold gq at e;split at e
  .rename_i hC
   subst hC;split at e
   .rename_i hm;subst hm;cases e;exact⟨_,by decide,Y2⟩
   .split at e
    .rename_i hm;subst hm;cases e;exact⟨_,by decide,Y3⟩
    .split at e
     .rename_i hm;subst hm;cases e;exact⟨_,by decide,Y4⟩
     .split at e
      .rename_i hm;subst hm;cases e;exact⟨_,by decide,Y5⟩
      .split at e
       .rename_i hm;subst hm;cases e;exact⟨_,by decide,Y6⟩
       .split at e
        .rename_i hm;subst hm;cases e;exact⟨_,by decide,Qg⟩
        .cases e
  .cases e
 have Z:bS P w K mg base 1 "_law_whole" (SP.oN):=cp 1 hy.a_2 X G (ca (F:=[]) (k:=0) E 'g') λ_ _ _ h=>SP.Iq h
 have aa:bS P w K mg base 1 "_law_size" (SP.uV):=cp 2 hy.a_3 X G (ca (F:=[]) (k:=0) E 'g') λ_ _ _ h=>SP.Lj h
 have ac:bS P w K mg base 2 "_law_holds" (SH.iS):=cp 3 hy.a_4 X G (ca (F:=[SP.uV]) (k:=1) E (ah 'b' (.inl aa) 'g')) λ_ _ _ h=>SP.Ir rfl h
 have al:bS P w K mg base 3 "_law_met" (SH.oE):=cp 3 hy.a_5 X G (ca (F:=[SH.iS]) (k:=2) E (ah 'b' (.inl ac) 'g')) λ_ _ _ h=>SH.DC rfl h
 have a0:bS P w K mg base 4 "_law_least" (SH.kC):=cp 3 hy.a_6 X G (ca (F:=[SH.oE]) (k:=3) E (ah 'b' (.inl al) 'g')) λ_ _ _ h=>SP.FE rfl h
 have a1:bS P w K mg base 5 "_law_sorted" (SP.oO):=cp 2 hy.a_7 X G (ca (F:=[SH.kC]) (k:=4) E (ah 'b' (.inl a0) 'g')) λ_ _ _ h=>SP.FH rfl h
 have p:bS P w K mg base 1 "set_of" (SH.ci):=cp 1 hy.a_8 X G (ca (F:=[]) (k:=0) E 'g') λ_ _ _ h=>SH.E8 h
 have a2:bS P w K mg base 2 "part_base" (SP.kF c S):=cp 2 hy.a_9 X G (FN (F:=[SH.ci]) (k:=1) E (dE 'b' o) (ah 'b' (.inl p) 'g')) λ_ _ _ h=>SP.zz rfl sx h
 have Y7:bS P w K mg base 2 "is_ready" (SG.mf):=cp 3 hy.a_10 X G (ca (F:=[SH.ci]) (k:=1) E (ah 'b' (.inl p) 'g')) λ_ _ _ h=>SG.As rfl h
 have TL:bS P w K mg base 2 "members" (SH.d8):=cp 1 hy.a_11 X G (ca (F:=[SH.cj]) (k:=1) E (ah 'b' (.inl g) 'g')) λ_ _ _ h=>SH.Do rfl h
 have Y8:bS P w K mg base 3 "parts_by_least" (SG.mi):=cp 1 hy.a_12 X G (ca (F:=[SH.cj,SH.ci,SH.d8]) (k:=2) E (ah 'b' (.inl g) (ah 'b' (.inl p) (ah 'b' (.inl TL) 'g')))) λ_ _ _ h=>SG.rK rfl rfl rfl h
 have Y9:bS P w K mg base 2 "reached_sets" (SG.mh):=cp 1 hy.a_13 X G (ca (F:=[SH.cj]) (k:=1) E (ah 'b' (.inl g) 'g')) λ_ _ _ h=>SG.uO rfl h
 have Y_:bS P w K mg base 4 "parts_of" (SG.rl c S):=cp 1 hy.a_14 X G (FN (F:=[SH.ci,SG.mf,SG.mi,SG.mh]) (k:=3) E (dE 'b' o) (ah 'b' (.inl p) (ah 'b' (.inl Y7) (ah 'b' (.inl Y8) (ah 'b' (.inl Y9) 'g'))))) λ_ _ _ h=>SG.Av rfl rfl rfl rfl gC sx h
 have Y':bS P w K mg base 4 "all_carried" (SH.iF c):=cp 3 hy.a_15 X G (ON (F:=[]) (k:=3) E (dE 'b' MC) 'g') λ_ _ _ h=>SH.vx (zR ap) h
 have ZP:bS P w K mg base 5 "carried_heads" (SH.dU c S):=cp 4 hy.a_16 X G (FN (F:=[SH.iF c]) (k:=4) E (dE 'b' o) (ah 'b' (.inl Y') 'g')) λ_ _ _ h=>SH.s9 rfl qG xn h
 have Z0:bS P w K mg base 2 "helped_rows" (SH.fG c S):=cp 3 hy.a_17 X G (FN (F:=[SH.cj]) (k:=1) E (dE 'b' o) (ah 'b' (.inl g) 'g')) λ_ _ _ h=>SH.vA rfl tu qG h
 have Z1:bS P w K mg base 3 "all_rows" (SH.me c S):=cp 2 hy.a_18 X G (FN (F:=[SH.d8]) (k:=2) E (dE 'b' o) (ah 'b' (.inl TL) 'g')) λ_ _ _ h=>SH.Aq rfl xm h
 have Z2:bS P w K mg base 6 "ranked_among" (SH.oz c S):=cp 4 hy.a_19 X G (ca (F:=[SH.dU c S,SH.fG c S,SH.ci,SH.me c S,SH.d8]) (k:=5) E (ah 'b' (.inl ZP) (ah 'b' (.inl Z0) (ah 'b' (.inl p) (ah 'b' (.inl Z1) (ah 'b' (.inl TL) 'g')))))) λ_ _ _ h=>SH.Fr rfl rfl rfl rfl rfl h
 have Z3:bS P w K mg base 7 "least_among" (SH.iO c S):=cp 4 hy.a_20 X G (ca (F:=[SH.ci,SH.oz c S]) (k:=6) E (ah 'b' (.inl p) (ah 'b' (.inl Z2) 'g'))) λ_ _ _ h=>SH.vB rfl rfl h
 have Z4:bS P w K mg base 8 "next_pair" (SH.kA c S):=cp 5 hy.a_21 X G (ca (F:=[SH.iO c S]) (k:=7) E (ah 'b' (.inl Z3) 'g')) λ_ _ _ h=>SH.zu rfl h
 have Z5:bS P w K mg base 9 "to_and_fro" (SH.kB c S):=cp 5 hy.a_22 X G (ca (F:=[SH.kA c S]) (k:=8) E (ah 'b' (.inl Z4) 'g')) λ_ _ _ h=>SH.xi rfl h
 have VD:bS P w K mg base 1 "is_whole" (SH.kL):=cp 1 hy.a_23 X G (ca (F:=[]) (k:=0) E 'g') λ_ _ _ h=>SH.Ab h
 have r:bS P w K mg base 2 "is_below" (SH.cK):=cp 2 hy.a_24 X G (ca (F:=[SH.kL]) (k:=1) E (ah 'b' (.inl VD) 'g')) λ_ _ _ h=>SH.Ac rfl h
 have Z6:bS P w K mg base 2 "answer_in" (SH.kE):=cp 3 hy.a_25 X G (ca (F:=[SH.cj]) (k:=1) E (ah 'b' (.inl g) 'g')) λ_ _ _ h=>SH.zx rfl h
 have K':a9 P w K mg base 10 V "work" (SP.uR c S V):=cG 2 (aW E.kv) hy.a_Keeper_work (pM (T:=λ_ _=>none) (F:=[SH.kB c S,SH.ci]) (k:=9) E E.fk (λ_ _ _ z=>nomatch z) (ah 'b' (.inl Z5) (ah 'b' (.inl p) 'g'))) λ_ _ _ h=>SP.K4 (λf hf=>⟨rfl,hf⟩) rfl rfl h
 have x_:a9 P w K mg base 11 V "work_behind" (SP.lK c S V):=cG 2 (aW E.kv) hy.a_Keeper_work_behind (pM (F:=[]) (k:=10) E E.fk (Jk 'b' K') 'g') λ_ _ _ h=>SP.vH (λf hf=>⟨rfl,hf⟩) rE h
 have Qw:a9 P w K mg base 12 V "put" (SP.DE c S V):=cG 2 (aW E.kv) hy.a_Keeper_put (pM (F:=[SH.cj,SH.cK]) (k:=11) E E.fk (sy 'b' x_ (dE 'b' o)) (ah 'b' (.inl g) (ah 'b' (.inl r) 'g'))) λ_ _ _ h=>SP.NA (λf hf=>⟨rfl,hf⟩) eU ((bx (by rfl')).trans gC) rfl rfl h
 have Qm:a9 P w K mg base 12 V "drop" (SP.zB c S V):=cG 2 (aW E.kv) hy.a_Keeper_drop (pM (F:=[SH.cK,SH.cj]) (k:=11) E E.fk (sy 'b' x_ (dE 'b' o)) (ah 'b' (.inl r) (ah 'b' (.inl g) 'g'))) λ_ _ _ h=>SP.Le (λf hf=>⟨rfl,hf⟩) eU ((bx (by rfl')).trans gC) rfl rfl h
 have M_:a9 P w K mg base 12 V "answer_at" (SP.oJ c S V):=cG 2 (aW E.kv) hy.a_Keeper_answer_at (pM (F:=[SH.kE,SH.cK]) (k:=11) E E.fk (dE 'b' o) (ah 'b' (.inl Z6) (ah 'b' (.inl r) 'g'))) λ_ _ _ h=>SP.zC (λf hf=>⟨rfl,hf⟩) gC rfl rfl h
 have y_:a9 P w K mg base 1 V "told_facts" (SP.jx c S V):=cG 1 (aW E.kv) hy.a_Keeper_told_facts (pM (T:=λ_ _=>none) (F:=[]) (k:=0) E E.fk (λ_ _ _ z=>nomatch z) 'g') λ_ _ _ h=>SP.xj (λf hf=>⟨rfl,hf⟩) h
 have J_:a9 P w K mg base 1 V "parts_list" (SP.m7 c S V):=cG 1 (aW E.kv) hy.a_Keeper_parts_list (pM (T:=λ_ _=>none) (F:=[]) (k:=0) E E.fk (λ_ _ _ z=>nomatch z) 'g') λ_ _ _ h=>SP.xk (λf hf=>⟨rfl,hf⟩) h
 have y':a9 P w K mg base 1 V "true_facts" (SP.rA c S V):=cG 1 (aW E.kv) hy.a_Keeper_true_facts (pM (T:=λ_ _=>none) (F:=[]) (k:=0) E E.fk (λ_ _ _ z=>nomatch z) 'g') λ_ _ _ h=>SP.FF (λf hf=>⟨rfl,hf⟩) h
 have z_:a9 P w K mg base 1 V "open_facts" (SP.rC c S V):=cG 1 (aW E.kv) hy.a_Keeper_open_facts (pM (T:=λ_ _=>none) (F:=[]) (k:=0) E E.fk (λ_ _ _ z=>nomatch z) 'g') λ_ _ _ h=>SP.FG (λf hf=>⟨rfl,hf⟩) h
 have R4:dH P w K mg base 12 "Keeper" (SP.lP c S V):=KG (N:=nO oX) (ps:=(nO oX).take 3) Rl Rm Rn hy.a_Keeper_init (by ac_rfl) (pM (F:=[SP.kF c S,SG.rl c S]) (k:=10) E E.fk (Jk 'b' K') (ah 'b' (.inl a2) (ah 'b' (.inl Y_) 'g'))) (by rfl') (by bv_omega) (λds M Q h=>SP.vG (λf hf=>⟨rfl,hf⟩) rfl rfl rE h);have Z7:bS P w K mg base 13 "_law_fits" (SP.qA c S V):=cp 4 hy.a_26 X G (pM (F:=[SP.oN,SP.oO]) (k:=12) E E.fl (sy 'b' y_ (sy 'b' y' (sy 'b' z_ (Jk 'b' M_)))) (ah 'b' (.inl Z) (ah 'b' (.inl a1) 'g'))) λ_ _ _ h=>SP.Lk eU ((bx (by rfl')).trans eU) ((bx (by rfl')).trans ((bx (by rfl')).trans eU)) ((bx (by rfl')).trans ((bx (by rfl')).trans ((bx (by rfl')).trans rE))) rfl rfl h
 have Z8:bS P w K mg base 1 "rows_by_help" (SH.iJ):=OM hy.a_27 (ps:=mJ) X G (by ac_nf) uX (ca (F:=[]) (k:=0) E 'g') uZ (by bv_omega) (λds M Q h=>SH.uK h);have Z9:bS P w K mg base 4 "row_leanings" (SH.eL c):=cp 1 hy.a_28 X G (ON (F:=[]) (k:=3) E (dE 'b' MC) 'g') λ_ _ _ h=>SH.uH (zS ap) h
 have Z_:bS P w K mg base 1 "rows_by_head" (SH.iH):=cp 2 hy.a_29 X G (ca (F:=[]) (k:=0) E 'g') λ_ _ _ h=>SH.uJ h
 have Z':bS P w K mg base 3 "made_cond" (SH.uG c):=cp 1 hy.a_30 X G (ca (F:=[bU (c.at 3) (SH.cZ c 3),bU (c.at 2) (SH.cZ c 2),bU (c.at 1) (SH.cZ c 1),bU (c.at 0) (SH.cZ c 0)]) (k:=2) E (ah 'b' YS (ah 'b' Yz (ah 'b' Yw (ah 'b' Yt 'g'))))) λ_ _ _ h=>SH.KH (c:=c) rfl h
 have y:bS P w K mg base 3 "is_listing" (SH.lY):=cp 2 hy.a_31 X G (ca (F:=[SH.cK]) (k:=2) E (ah 'b' (.inl r) 'g')) λ_ _ _ h=>SH.xg (j:=2) rfl rfl h
 have A:bS P w K mg base 2 "is_number" (SH.oq):=cp 1 hy.a_32 X G (ca (F:=[SH.kL]) (k:=1) E (ah 'b' (.inl VD) 'g')) λ_ _ _ h=>SH.yZ (j:=1) rfl rfl h
 have B:bS P w K mg base 4 "is_cond" (SH.ot):=cp 2 hy.a_33 X G (ca (F:=[SH.lY,SH.cK,SH.oq]) (k:=3) E (ah 'b' (.inl y) (ah 'b' (.inl r) (ah 'b' (.inl A) 'g')))) λ_ _ _ h=>SH.Dp rfl rfl rfl h
 have I:bS P w K mg base 5 "is_row" (SH.rg):=cp 2 hy.a_34 X G (ca (F:=[SH.ot,SH.cK]) (k:=4) E (ah 'b' (.inl B) (ah 'b' (.inl r) 'g'))) λ_ _ _ h=>SH.Fa (j:=0) rfl rfl rfl h
 have J:dH P w K mg base 7 "Sheet" (bU S (SH.jw c S)):=FK (N:=nO qa) (ps:=(nO qa).take 3) VA VB VC hy.a_72 (by ac_rfl) (zT (F:=[SH.iJ,SH.eL c,SH.iH,SH.uG c,SH.rg,SH.cK]) (k:=5) E (ah 'b' (.inl Z8) (ah 'b' (.inl Z9) (ah 'b' (.inl Z_) (ah 'b' (.inl Z') (ah 'b' (.inl I) (ah 'b' (.inl r) 'g'))))))) (by ac_nf) (by rfl') (by bv_omega) (λds M Q h=>SH.xh (j:=3) (l:=4) (λf hf=>⟨rfl,hf⟩) rfl rfl rfl rfl rfl rfl rfl rfl h);have L:bS P w K mg base 1 "_law_cell_at" (SH.oA):=cp 2 hy.a_35 X G (ca (F:=[]) (k:=0) E 'g') λ_ _ _ h=>SH.DA h
 have O:bS P w K mg base 1 "_law_mixed" (SG.rq):=cp 2 hy.a_36 X G (ca (F:=[]) (k:=0) E 'g') λ_ _ _ h=>SG.Ij h
 have TM:bS P w K mg base 2 "_law_draw" (SG.ie):=cp 2 hy.a_37 X G (ca (F:=[SG.rq]) (k:=1) E (ah 'b' (.inl O) 'g')) λ_ _ _ h=>SG.Ik rfl h
 have R:bS P w K mg base 3 "_law_facts" (SG.oK):=cp 2 hy.a_38 X G (ca (F:=[SG.ie]) (k:=2) E (ah 'b' (.inl TM) 'g')) λ_ _ _ h=>SG.Fz rfl h
 have U:bS P w K mg base 4 "_law_cond" (SG.rz):=cp 2 hy.a_39 X G (ca (F:=[SG.ie,SG.oK]) (k:=3) E (ah 'b' (.inl TM) (ah 'b' (.inl R) 'g'))) λ_ _ _ h=>SG.Il rfl rfl h
 have Y:bS P w K mg base 5 "_law_row" (SG.uT):=cp 2 hy.a_40 X G (ca (F:=[SG.rz,SG.ie]) (k:=4) E (ah 'b' (.inl U) (ah 'b' (.inl TM) 'g'))) λ_ _ _ h=>SG.Lg rfl rfl h
 exact uu (ni.x QD.fun_) NJ (pM (F:=[SP.qA c S V,SP.lP c S V,bU S (SH.jw c S),SH.oA,SG.uT]) (k:=13) E E.fl (sy 'b' y_ (sy 'b' Qm (sy 'b' Qw (sy 'b' J_ (sy 'b' y' (Jk 'b' z_)))))) (ah 'b' (.inl Z7) (ah 'b' R4 (ah 'b' J (ah 'b' (.inl L) (ah 'b' (.inl Y) 'g')))))) NL (by bv_omega) (λds M Q h=>SP.NH eU ((bx (by rfl')).trans eU) ((bx (by rfl')).trans ((bx (by rfl')).trans eU)) ((bx (by rfl')).trans ((bx (by rfl')).trans ((bx (by rfl')).trans eU))) ((bx (by rfl')).trans ((bx (by rfl')).trans ((bx (by rfl')).trans ((bx (by rfl')).trans eU)))) ((bx (by rfl')).trans ((bx (by rfl')).trans ((bx (by rfl')).trans ((bx (by rfl')).trans ((bx (by rfl')).trans rE))))) rfl rfl rfl rfl rfl h)
end
theorem Iw(h:(decide (a≠b)&&decide (a≠d)&&decide (a≠C)&&decide (b≠d)&&decide (b≠C)&&decide (d≠C))=true):SH.CA.apart ⟨a,b,d,C⟩:=by
 simp only[YZ,XT] at h;obtain⟨⟨⟨⟨⟨h1,c⟩,f⟩,g⟩,l⟩,n⟩:=h;intro k hk;have o:k=0\/k=1\/k=2\/k=3:=by omega
 rcases o with rfl | rfl | rfl | rfl
 .show(if a=a then some 0 else if a=b then some 1 else if a=d then some 2 else if a=C then some 3 else none)=some 0
  rw[if_pos rfl]
 .show(if b=a then some 0 else if b=b then some 1 else if b=d then some 2 else if b=C then some 3 else none)=some 1
  rw[if_neg (λz=>h1 z.symm),if_pos rfl]
 .show(if d=a then some 0 else if d=b then some 1 else if d=d then some 2 else if d=C then some 3 else none)=some 2
  rw[if_neg (λz=>c z.symm),if_neg (λz=>g z.symm),if_pos rfl]
 .show(if C=a then some 0 else if C=b then some 1 else if C=d then some 2 else if C=C then some 3 else none)=some 3
  rw[if_neg (λz=>f z.symm),if_neg (λz=>l z.symm),if_neg (λz=>n z.symm),if_pos rfl]
theorem Pr{p:Nat->Prop}(f:p 0)(h1:p 1)(g:p 2)(k:p 3):∀i,i<4->p i:=by
 intro i hi;have c:i=0\/i=1\/i=2\/i=3:=by omega
 rcases c with rfl | rfl | rfl | rfl<;>assumption
def NP:xx 63 SP.xG:=λa ns hl=>⟨a,ns,rfl,by unfold qN;rw[if_pos rfl],hl,λ_=>rfl⟩
def NQ:IO SP.xG:=by
 intro l w K h mg I cH cL cS cD S V X G t y gl bl z Sh Si Sj Sk Sl Sm Sn So Sq O_ P4 J u QD hy;have f:=Sh;simp only[YZ] at f;have g:=Sj;simp only[YZ] at g;have n:=Sl;simp only[YZ] at n;have o:=Sn;simp only[YZ] at o;have p:=Sq;simp only[YZ] at p;have r:=P4;simp only[YZ] at r;have E:dB K mg ⟨cH,cL,cS,cD⟩ S V:=⟨tN X G gl,Ep X G bl,Pr f.1.1 g.1.1 n.1.1 o.1.1,p.1.1,r.1.1⟩;have A:∀(s:Shared) (v:Value),BindsTo s u ⟨[v],[]⟩ [("_law_script",v)]:=by
  obtain⟨oc,od,an,E_,kV,v_,pm,p_,ct,a,rfl,l,c,k⟩:=QD.ex;exact λs v=>.of_eq rfl
 have B:=QD.def_ (ps:=["_law_script"]) X G λ_ _ _ _ _ _=>NM λ_=>rfl
 have e:=t.symm.trans B.mgf;cases e;exact⟨u,A,λbase _ _=>NO (c:=⟨cH,cL,cS,cD⟩) (S:=S) (V:=V) E (Iw y) X G QD (PySem.W.mg_of X G z) f.1.2 f.2 (PySem.W.mg_of X G Si) g.1.2 g.2 (PySem.W.mg_of X G Sk) n.1.2 n.2 (PySem.W.mg_of X G Sm) o.1.2 o.2 (PySem.W.mg_of X G So) p.1.2 p.2 (PySem.W.mg_of X G O_) r.1.2 r.2 hy⟩
end K81
open PySem PySem.W PyProof.Rows L2 DD
theorem PySem.Challenge.cw_notring_k81_whole_answers_kept_holds : PySem.Challenge.rw_notring_k81_whole_answers_kept.Holds := by
  exact K81.over K81.NP K81.NQ
#print axioms PySem.Challenge.cw_notring_k81_whole_answers_kept_holds
