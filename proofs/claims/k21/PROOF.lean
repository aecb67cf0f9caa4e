import PyProof.Rows.All
import Wide.All
import KE.KDictOf
import KE.KFromBytes
import KE.LcTurns
import KE.KIsAll
import KE.KItem
import Wide.FinOn
import KE.KNestM
import PySem.Challenge.RW_notring_k21_parts_in_order
import Lean
import PyProof.EqAt
import PyProof.EqKinds
import PyProof.TupleCall
import PyProof.DictIter
import PyProof.DictWalks
import PyProof.NeKinds
import PyProof.EnumMake
import PyProof.EnumIter
import PyProof.EnumFor
import PyProof.EnumStmt
import PyProof.Draws
import PyProof.TupleIter
import PyProof.WalksMore
import PyProof.ZipIter
import PyProof.Rows.SetFrom
import PyProof.SetRoads
import PyProof.SumAnyB
import PyProof.Conv_int
import PyProof.Conv_int_bool
import PyProof.ListRange
import PyProof.DictTruth
import PyProof.Rows.SortWalk
import PyProof.Rows.SortRuns
import PyProof.Rows.SortShell
import KE.KSortTup
import KE.KRevIter
import PyProof.TupleKey
import PyProof.DictRoadsH
import PyProof.FactsAll.bool_1
import KE.KDictList
import PyProof.FactsAll.bool_2
import PyProof.Rows.CallKwBuiltin
import PyProof.DefCall
import KE.BitLaws
set_option compiler.extract_closed false
set_option Elab.async false
set_option maxRecDepth 100000
set_option maxHeartbeats 4000000
local macro_rules
 |`(tactic|omega)=>`(tactic|first|assumption|lia|omega (splitDisjunctions:=true))
set_option hygiene false
local macro_rules
 |`('a')=>`((by omega))
 |`('b')=>`((model X.prog X.w))
 |`('c')=>`((by decide))
 |`('d')=>`((model prog w))
local macro_rules
 |`('e')=>`((openSeen K21.viewQ [] (importedModules PySem.Challenge.pw_notring_k21_parts_in_order.main.body) (λs=>xlAt K21.viewQ [] s&&recOk [] s) true (TopT.cz s)))
 |`('f')=>`((bP (F:=[]) (k:=0) E (aA (F:=[]))))
local macro_rules
 |`(tactic|rw[0])=>`(tactic|(intro X hP hw hK hc i pins s σ H E I hf st hg;subst hP hw hK))
 |`(tactic|rw[1])=>`(tactic|(obtain⟨o,e1,e2,e3⟩:=id x;have nm:∀{Q:String->Shared->Prop}{A:Around}{E:Zb},Q "dict_keyiterator" s->wpAny 'd' A (typeNameOfWhole (.ref it)) Q E s:=λh=>wpAny_typeNameOfWhole_keyiter hit.typeIs h;unfold pyNext;refine Yb (wpAny_attempt (wpAny_callSpecial?_slot (name:=Str.ofString "__next__") hit.typeIs F.slot_dict_keyiterator_next (wpAny_call_entry F.slot_dict_keyiterator_next hit.typeIs F.entry_dict_keyiterator_next ?_ (F.args_dict_keyiterator_next_1 _))));refine Yb (Yc (Yb (Yb (Yb (nm (Yc (Yb (wpAny_fieldsOf u1 u3 ?_))))))));(simp only[show Builtin.Dict_items.ownsTuple "dict_keyiterator" = false by decide,XH,if_false]);show wpAny _ _ (if(Value.ref d==Value.none)=true then _ else _) _ _ s))
set_option bootstrap.genMatcherCode false
set_option genSizeOfSpec false
local macro_rules
 |`(command|def $i:declId $s:optDeclSig $v:declVal)=>`(command|noncomputable def $i:declId $s:optDeclSig $v:declVal)
 |`(command|abbrev $i:declId $s:optDeclSig $v:declVal)=>`(command|noncomputable abbrev $i:declId $s:optDeclSig $v:declVal)
def Yb:=@PySem.wpAny_bind
def Yc:=@PySem.wpAny_pure
def Yd:=@PySem.Heap.get?_push_of_some
def Ye:=@PySem.Heap.lt_size
def Yg:=@PySem.Heap.get?_push_size
def Yh:=@False.elim
def Yi:=@Option.some.inj
def Yj:=@PySem.wpAny_holding
def Yk:=@PySem.wpAny_standAt
abbrev Za:=PySem.W.Frag
abbrev Zb:=PySem.Value->PySem.Shared->Prop
abbrev Zc:=List (PySem.Addr×PySem.Obj)
abbrev Zd:=List PySem.Value
abbrev Ze:=PySem.Str->Option PySem.Value
abbrev Zf:=List PySem.Str
abbrev Zg:=List PySem.Expr
abbrev Zh:=List PySem.Addr
abbrev Zi:=List Int
abbrev Zj:=List Nat
abbrev Zk:=PySem.Value->PySem.Value->PySem.Sem PySem.Value
abbrev Zl:=Array PySem.Value
abbrev Zm:=Option PySem.Addr
abbrev Zn:=Array (Option PySem.Value)
abbrev Zo:=Unit->PySem.Shared->Prop
abbrev Zp:=Option Int
abbrev Zq:=List (PySem.Str×PySem.Addr)
abbrev Zr:=List (Bool×Int)
abbrev Zs:=List (List PySem.Addr)
abbrev Zt:=List PySem.Stmt
abbrev Zu:=PySem.FuncData
abbrev Zv:=PySem.Program
abbrev Zw:=Option PySem.Value
local macro_rules
  | `(tactic| rfl') => `(tactic| decide +kernel)
def XA:=@List.replicate_succ
def XB:=@List.flatten_cons
def XC:=@List.length_singleton
def XD:=@Array.getElem?_toList
theorem XE{α}(l:List α):[]++l=l:=rfl
def XF:=@List.find?_cons
def XG:=@beq_self_eq_true
def XH:=@Bool.false_eq_true
def XI:=@List.lookup_cons
def XJ:=@Nat.lt_succ_of_lt
def XM:=@Bool.eq_iff_iff
def XN:=@List.all_eq_true
def XO:=@List.mem_singleton
def XQ:=@Int.toNat_of_nonneg
def XR:=@of_decide_eq_true
def XS:=@List.all_cons
def XT:=@decide_eq_true_eq
def XU:=@List.drop_eq_getElem_cons
def XV:=@List.getElem?_of_mem
def XW:=@Bool.not_eq_true'
def XX:=@List.perm_append_comm
def XY:=@List.take_append_drop
def XZ:=@List.drop_drop
def YA:=@List.mem_cons_of_mem
def YB:=@List.mem_cons
def YC:=@List.mem_append
def YD:=@List.getElem?_eq_some_iff
def YE:=@Array.length_toList
def YF:=@Bool.false_ne_true
def YG:=@Nat.le_refl
def YH:=@List.mem_append_right
def YI:=@List.size_toArray
theorem YJ{α}{a:α}{l}:(a::l).length=l.length+1:=rfl
theorem YL{α β}{f:α→β}{a l}:(a::l).map f=f a::l.map f:=rfl
def YM:=@Nat.zero_le
def YN:=@Nat.le_succ
def YO:=@List.nodup_cons
def YS:=@List.length_take
def YT:=@List.mem_of_getElem?
theorem YU{α}:([]:List α).length=0:=rfl
def YV:=@decide_eq_true
def YW:=@Int.toNat_natCast
def YX:=@List.length_drop
def YY:=@Bool.and_eq_true
theorem YZ{α β}{f:α→β}:[].map f=[]:=rfl
def ZA:=@List.append_nil
def ZB:=@Array.toList_push
def ZC:=@List.append_assoc
def ZE:=@List.getElem?_eq_getElem
def ZF:=@List.getElem?_append_left
def ZG:=@List.length_map
def ZH:=@List.getElem?_map
def ZI:=@List.getElem?_append_right
def ZJ:=@List.ext_getElem?
def ZK:=@List.getElem?_eq_none
def ZL:=@List.length_range
def ZM:=@List.length_append
def ZN:=@List.map_append
def ZO:=@List.map_map
def ZP:=@List.map_congr_left
def ZR:=@decide_eq_false
def ZS:=@beq_eq_false_iff_ne
def ZT:=@Nat.lt_of_lt_of_le
def ZU:=@Nat.lt_irrefl
def ZV:=@Nat.ne_of_lt
def ZW:=@List.mem_filter
def ZX:=@List.mem_range
def ZY:=@Nat.le_trans
def ZZ:=@List.mem_cons_self
namespace TopT
open PySem PySem.W PyProof.Rows
def kj:List Obj->Nat->BT->Option (BT×Nat)
 |[],n,T=>some (T,n)
 |o::r,n,T=>match((T.ins n o).get n).isSome with
  |true=>kj r (n+1) (T.ins n o)
  |false=>none
theorem tG(a:Life):∀{os:List Obj}{n n':Nat}{T b:BT},kj os n T=some (b,n')->absHeap b n' a=⟨((absHeap T n a).objs.toList++os).toArray,a⟩
 |[],n,n',T,b,h=>by
  cases h;rw[ZA];rfl
 |o::r,n,n',T,b,h=>by
  unfold kj at h;cases g:((T.ins n o).get n).isSome with
  |false=>rw[g] at h;cases h
  |true=>
   rw[g] at h;have c:=tG a (os:=r) h;rw[c,absHeap_ins g];show Heap.mk (((absHeap T n a).objs.push o).toList++r).toArray a=_;rw[ZB,ZC];rfl
def oK(b:String->Option Builtin)(p:Zv)(w:World)(c:Nat)(a:Zw):Nat->SharedT->Thread->Option SharedT
 |0,_,_=>none
 |n+1,s,t=>match through t with
  |true=>some s
  |false=>match stepOk c a t with
   |false=>none
   |true=>match stepT (denote b) p w s t with
    |some (f,t')=>oK b p w c a n f t'
    |none=>none
theorem tH{b:String->Option Builtin}{p:Zv}{w:World}{c:Nat}{a:Zw}:∀{n:Nat}{s f:SharedT}{t:Thread},oK b p w c a n s t=some f->topRun b p w c a n s.abs t=some f.abs
 |0,_,_,_,h=>by cases h
 |n+1,s,f,t,h=>by
  unfold oK at h;unfold topRun;cases ht:through t with
  |true=>rw[ht] at h;cases h;rfl
  |false=>
   rw[ht] at h;cases hk:stepOk c a t with
   |false=>rw[hk] at h;cases h
   |true=>
    rw[hk] at h;cases hs:stepT (denote b) p w s t with
    |none=>rw[hs] at h;cases h
    |some x=>
     obtain⟨s2,g⟩:=x;rw[hs] at h
     have:=stepT_spec hs
     simp only[this];exact tH h
def yE(s:SharedT)(a:Addr):Option Obj:=match Nat.blt a s.n with
 |true=>alive ((s.tree.get a).getD default)
 |false=>none
theorem FI(s:SharedT)(a:Addr):s.abs.heap.get? a=yE s a:=by
 show(absHeap s.tree s.n s.life).get? a=_;unfold yE Heap.get?;rw[absHeap_at];cases e:Nat.blt a s.n with
 |true=>
  have lt:a<s.n:=Nat.le_of_ble_eq_true e;rw[if_pos lt];obtain⟨c,d,b,sl⟩:=(s.tree.get a).getD default;cases b<;>rfl
 |false=>
  have f:¬a<s.n:=λh=>by
   have:Nat.blt a s.n=true:=Nat.ble_eq_true_of_le h
   rw[this] at e;cases e
  rw[if_neg f]
def E3:BT->BT
 |.nil=>.nil
 |.node _ l _=>l
def E4:BT->BT
 |.nil=>.nil
 |.node _ _ r=>r
def rt:BT->Obj
 |.nil=>default
 |.node v _ _=>v
def qO(ts:List BT)(m i:Nat):Obj:=(((ts[i%m]?).getD .nil).get (i / m)).getD default
def lv:Nat->List BT->Nat->Nat->List Obj
 |0,ts,m,n=>(List.range n).map (qO ts m)
 |k+1,ts,m,n=>match Nat.ble n m with
  |true=>(ts.take n).map rt
  |false=>ts.map rt++lv k (ts.map E3++ts.map E4) (m+m) (n-m)
theorem Hn(t:BT):(t.get 0).getD default=rt t:=by cases t<;>rfl
theorem FJ(t:BT)(j:Nat):t.get (2*j+1)=(E3 t).get j:=by
 cases t with
 |nil=>rfl
 |node v l r=>rw[BT.get_node,if_neg 'a',if_pos 'a',show(2*j+1) / 2=j by omega];rfl
theorem Cw(t:BT)(j:Nat):t.get (2*j+2)=(E4 t).get j:=by
 cases t with
 |nil=>rfl
 |node v l r=>rw[BT.get_node,if_neg 'a',if_neg 'a',show(2*j+2) / 2-1=j by omega];rfl
theorem qP{ts:List BT}{m r:Nat}(k:Nat)(a:r<m):qO ts m (m*k+r)=((ts[r]?.getD .nil).get k).getD default:=by
 unfold qO;rw[Nat.mul_add_mod,Nat.mod_eq_of_lt a,Nat.mul_add_div 'a',Nat.div_eq_of_lt a,Nat.add_zero]
theorem Ho{ts:List BT}{m:Nat}(h:ts.length=m)(hm:0<m)(i:Nat):qO ts m (m+i)=qO (ts.map E3++ts.map E4) (m+m) i:=by
 have a:i%m<m:=Nat.mod_lt _ hm;have d:=Nat.div_add_mod i m;generalize i%m=r at *;generalize i / m=k at *;subst d;obtain⟨t,e0⟩:∃t,ts[r]?=some t:=⟨_,ZE (h▸a)⟩;rw[show m+(m*k+r)=m*(k+1)+r by rw[Nat.mul_add];omega,qP _ a,e0];rcases Nat.mod_two_eq_zero_or_one k with e | e
 ·obtain⟨j,rfl⟩:∃j,k=2*j:=⟨k / 2,by omega⟩
  rw[show m*(2*j)+r=(m+m)*j+r by rw[←Nat.mul_assoc,Nat.mul_two],qP _ 'a',ZF (by rw[ZG];omega),ZH,e0];exact congrArg (·.getD default) (FJ _ j)
 ·obtain⟨j,rfl⟩:∃j,k=2*j+1:=⟨k / 2,by omega⟩
  rw[show m*(2*j+1)+r=(m+m)*j+(m+r) by rw[Nat.mul_add,←Nat.mul_assoc,Nat.mul_two];omega,qP _ 'a',ZI (by rw[ZG];omega),ZG,h,Nat.add_sub_cancel_left,ZH,e0];exact congrArg (·.getD default) (Cw _ j)
theorem E5:∀(k:Nat){ts:List BT}{m:Nat}(n:Nat),ts.length=m->0<m->lv k ts m n=(List.range n).map (qO ts m)
 |0,_,_,_,_,_=>rfl
 |k+1,ts,m,n,h,hm=>by
  have hd:∀j,j<m->qO ts m j=rt (ts[j]?.getD .nil):=λj a=>by
   rw[show j=m*0+j by omega,qP _ a,Hn];simp
  show(match Nat.ble n m with | true=>_ | false=>_)=_;cases e:Nat.ble n m with
  |true=>
   have hn:n<=m:=Nat.le_of_ble_eq_true e;apply ZJ;intro j;show((ts.take n).map rt)[j]?=_;rw[ZH,ZH,List.getElem?_take];by_cases a:j<n
   ·rw[if_pos a,List.getElem?_range a,ZE 'a']
    show some (rt ts[j])=some (qO ts m j);rw[hd j 'a',ZE 'a'];rfl
   ·rw[if_neg a,ZK (by rw[ZL];omega)];rfl
  |false=>
   have hn:m<n:=Nat.lt_of_not_le λq=>by rw[Nat.ble_eq_true_of_le q] at e;cases e
   show ts.map rt++lv k (ts.map E3++ts.map E4) (m+m) (n-m)=_;rw[E5 k (n-m) (by rw[ZM,ZG,ZG,h]) 'a',show n=m+(n-m) by omega,List.range_add,ZN,ZO];congr 1
   ·apply ZJ
    intro j;rw[ZH,ZH];by_cases a:j<m
    ·rw[List.getElem?_range a,ZE 'a']
     show some (rt ts[j])=some (qO ts m j);rw[hd j a,ZE 'a'];rfl
    ·rw[ZK 'a',ZK (by rw[ZL];omega)];rfl
   ·rw[show m+(n-m)-m=n-m by omega]
    exact ZP λi _=>(Ho h hm i).symm
theorem list_eq(t:BT)(n:Nat):t.list n=lv 20 [t] 1 n:=by
 rw[E5 (ts:=[t]) (m:=1) 20 n rfl 'c'];unfold BT.list;apply ZP;intro i _;show _=(((([t]:List BT)[i%1]?).getD .nil).get (i / 1)).getD default;rw[Nat.mod_one,Nat.div_one];rfl
def cz(s:SharedT):Shared:=⟨⟨(lv 20 [s.tree] 1 s.n).toArray,s.life⟩,s.gens,s.drawn,s.toks,s.os⟩
theorem xC(s:SharedT):s.abs=cz s:=by
 unfold SharedT.abs absHeap cz;rw[list_eq]
def runC{a:Type}(p:Zv)(w:World)(N:Nat)(C:Shared->SharedT->a):Option a:=(fencedOpening treeTable p w N).bind λs₀=>match s₀.heap.isNs mainGlobals&&s₀.gens.size==0 with
 |true=>match kj s₀.heap.objs.toList 0 .nil with
  |some (T,n)=>(oK treeTable p w s₀.heap.objs.size (s₀.heap.nsMap mainGlobals "__annotations__") N ⟨T,n,s₀.heap.life,s₀.gens,s₀.drawn,s₀.toks,s₀.os⟩ (topStub p)).map (C s₀)
  |none=>none
 |false=>none
theorem Cy{a:Type}{p:Zv}{w:World}{N:Nat}(C:Shared->SharedT->a):runC p w N C=(runC p w N Prod.mk).map λx=>C x.1 x.2:=by
 unfold runC;cases fencedOpening treeTable p w N with
 |none=>rfl
 |some s₀=>
  show(match s₀.heap.isNs mainGlobals&&s₀.gens.size==0 with | true=>_ | false=>_)=Option.map _ (match s₀.heap.isNs mainGlobals&&s₀.gens.size==0 with | true=>_ | false=>_);cases s₀.heap.isNs mainGlobals&&s₀.gens.size==0 with
  |false=>rfl
  |true=>
   show(match kj s₀.heap.objs.toList 0 .nil with | some (T,n)=>_ | none=>_)=Option.map _ (match kj s₀.heap.objs.toList 0 .nil with | some (T,n)=>_ | none=>_);cases kj s₀.heap.objs.toList 0 .nil with
   |none=>rfl
   |some x=>
    obtain⟨T,n⟩:=x;show Option.map (C s₀) _=Option.map _ (Option.map (Prod.mk s₀) _);rw[Option.map_map];rfl
def uH(p:Zv)(s₀ s:Shared):Bool:=staticsOk (importedModules p.main.body) s₀.heap s.heap&&namesBound p s.heap&&gensDone s&&laidKept s₀.heap s.heap
theorem FK{p:Zv}{w:World}{N:Nat}{s₀:Shared}{s:SharedT}(h:runC p w N Prod.mk=some (s₀,s))(k:uH p s₀ (cz s)=true):openEnds treeTable p w N=some (cz s):=by
 unfold runC at h;obtain⟨b,c,h⟩:=Option.bind_eq_some_iff.mp h;cases g:(b.heap.isNs mainGlobals&&b.gens.size==0) with
 |false=>rw[g] at h;cases h
 |true=>
  rw[g] at h;cases e:kj b.heap.objs.toList 0 .nil with
  |none=>rw[e] at h;cases h
  |some x=>
   obtain⟨T,n⟩:=x;rw[e] at h;obtain⟨j,h1,f⟩:=Option.map_eq_some_iff.mp h;cases f;have a:(⟨T,n,s₀.heap.life,s₀.gens,s₀.drawn,s₀.toks,s₀.os⟩:SharedT).abs=s₀:=by
    show Shared.mk (absHeap T n s₀.heap.life) _ _ _ _=_;rw[tG s₀.heap.life e];rfl
   have r:=tH h1;rw[a,xC] at r;unfold openEnds topFrom;rw[c];show(match s₀.heap.isNs mainGlobals&&s₀.gens.size==0 with | true=>_ | false=>_)=_;rw[g];show(topRun treeTable p w s₀.heap.objs.size (s₀.heap.nsMap mainGlobals "__annotations__") N s₀ (topStub p)).bind _=_;rw[r];show(match uH p s₀ (cz s) with | true=>some (cz s) | false=>none)=_;rw[k]
theorem JX{p q:Zv}{loose:Zf}{Xt:Shared->Bool}{N:Nat}{b:Bool}{K:Params->Frag}{as:Zh}{e:∀P,as=(K P).map (·.1)}
  (h1:∀w,runC p w N (λs₀ s=>(uH p s₀ (cz s),(openSeen q loose (importedModules p.main.body) Xt b (cz s)).1,(openSeen q loose (importedModules p.main.body) Xt b (cz s)).2.1))=some (true,expectedOf q,bltViewBooted))
  (c:∀w,runC p w N (λ_ s=>(openSeen q loose (importedModules p.main.body) Xt b (cz s)).2.2.1)=some true)
  (f:∀w,runC p w N (λ_ s=>((openSeen q loose (importedModules p.main.body) Xt b (cz s)).2.2.2.1,(openSeen q loose (importedModules p.main.body) Xt b (cz s)).2.2.2.2.1))=some (true,pinGoodD (drecsOf q)))
  (g:∀w,runC p w N (λ_ s=>(openSeen q loose (importedModules p.main.body) Xt b (cz s)).2.2.2.2.2.1)=some (plainGoodE q (looseW q loose)))
  (j:∀w,runC p w N (λ_ s=>(openSeen q loose (importedModules p.main.body) Xt b (cz s)).2.2.2.2.2.2)=some (plainGoodD q loose,wideGood q,clsGoodW q loose))
  (l:∀w:World,runC p w N (λ_ s=>as.map (yE s))=some ((K w.params).map (λp=>some p.2))):LeftO p q loose Xt (Hook.obs (kHook K as e)) (Hook.val (kHook K as e)) N b:=λw=>by
 have h1:=h1 w;have c:=c w;have f:=f w;have l:=l w;have g:=g w;have j:=j w;rw[Cy] at h1 c f l g j;obtain⟨⟨s₀,s⟩,n,r⟩:=Option.map_eq_some_iff.mp h1;rw[n] at c f l g j;obtain⟨t,m⟩:=Prod.mk.inj r;obtain⟨m,u⟩:=Prod.mk.inj m;obtain⟨y,z⟩:=Prod.mk.inj (Yi f);rw[FK n t];have e3:as.map (cz s).heap.get?=as.map (yE s):=ZP λa _=>by rw[←xC];exact FI s a
 exact congrArg some (Prod.ext (Prod.ext m (Prod.ext u (Prod.ext (Yi c) (Prod.ext y (Prod.ext z (Prod.ext (Yi g) (Yi j))))))) (e3.trans (Yi l)))
end TopT
section
open PySem PySem.W PyProof.Rows
def K21.viewQ:Program:=PySem.W.view PySem.Challenge.pw_notring_k21_parts_in_order [0,2,3,4,5,6,8,9,10,11,13,14,15,16,17,18,20,21,23,24,25,26,27,28,29,30,31,32,33,34,35,37,38,39,40,41,42,43,44,45,46,47,48,49,50,51]
set_option maxHeartbeats 0 in
theorem K21.said:PySem.Challenge.rw_notring_k21_parts_in_order.wellSaid=true:=by kernel_rfl
set_option maxHeartbeats 0 in
theorem K21.seen1:∀w:World,TopT.runC PySem.Challenge.pw_notring_k21_parts_in_order w 13100 (λs₀ s=>(TopT.uH PySem.Challenge.pw_notring_k21_parts_in_order s₀ (TopT.cz s),'e'.1,'e'.2.1))=some (true,expectedOf K21.viewQ,bltViewBooted):=by
 intro w;kernel_rfl
set_option maxHeartbeats 0 in
theorem K21.seen2:∀w:World,TopT.runC PySem.Challenge.pw_notring_k21_parts_in_order w 13100 (λ_ s=>'e'.2.2.1)=some true:=by
 intro w;kernel_rfl
set_option maxHeartbeats 0 in
theorem K21.seen3:∀w:World,TopT.runC PySem.Challenge.pw_notring_k21_parts_in_order w 13100 (λ_ s=>('e'.2.2.2.1,'e'.2.2.2.2.1))=some (true,pinGoodD (drecsOf K21.viewQ)):=by
 intro w;kernel_rfl
set_option maxHeartbeats 0 in
theorem K21.seen5:∀w:World,TopT.runC PySem.Challenge.pw_notring_k21_parts_in_order w 13100 (λ_ s=>'e'.2.2.2.2.2.1)=some (plainGoodE K21.viewQ (looseW K21.viewQ [])):=by
 intro w;kernel_rfl
set_option maxHeartbeats 0 in
theorem K21.seen6:∀w:World,TopT.runC PySem.Challenge.pw_notring_k21_parts_in_order w 13100 (λ_ s=>'e'.2.2.2.2.2.2)=some (plainGoodD K21.viewQ [],wideGood K21.viewQ,clsGoodW K21.viewQ []):=by
 intro w;kernel_rfl
end
-- CHANGE: your row's module here,as the last of these a_
set_option linter.all false
namespace L2
open PySem PySem.Spec PyProof.Rows
abbrev Key:=Sum Int Str
def lY:Key->Value->Bool
 |.inl k,v=>Value.isInt k v
 |.inr x,v=>Value.isStrOf x v
def KQ(w:World):Key->Int
 |.inl k=>hashInt k
 |.inr x=>hashStr w x
theorem bS:∀{k:Key}{v:Value},lY k v=true->(∃i t,k=Sum.inl i/\v=Value.int i t)\/(∃x t,k=Sum.inr x/\v=Value.str x t)
 |.inl i,v,h=>by
  obtain⟨t,e⟩:=Value.isInt_shape (k:=i) (v:=v) h;exact .inl ⟨i,t,rfl,e⟩
 |.inr x,v,h=>by
  obtain⟨t,e⟩:=Value.isStrOf_shape (x:=x) (v:=v) h;exact .inr ⟨x,t,rfl,e⟩
theorem Ar(i:Int)(t:Tok):lY (.inl i) (.int i t)=true:=by simp[lY,Value.isInt]
theorem As(x:Str)(t:Tok):lY (.inr x) (.str x t)=true:=by simp[lY,Value.isStrOf]
theorem Hq(a b:Int):decide ((Sum.inl a:Key)=Sum.inl b)=(a==b):=by
 by_cases e:a=b
 ·subst e;simp
 ·have h:¬(Sum.inl a:Key)=Sum.inl b:=λq=>e (Sum.inl.inj q)
  rw[ZR h];exact(ZS.mpr e).symm
theorem Hr(a b:Str):decide ((Sum.inr a:Key)=Sum.inr b)=decide (a=b):=by
 by_cases e:a=b
 ·subst e;simp
 ·have h:¬(Sum.inr a:Key)=Sum.inr b:=λq=>e (Sum.inr.inj q)
  rw[ZR h,ZR e]
theorem Hs(a:Int)(b:Str):decide ((Sum.inl a:Key)=Sum.inr b)=false:=ZR (λq=>nomatch q)
theorem Ht(a:Str)(b:Int):decide ((Sum.inr a:Key)=Sum.inl b)=false:=ZR (λq=>nomatch q)
def bC(prog:Zv)(w:World):PySem.KeyKind prog w Key where
 is:=lY
 hash:=KQ w
 inj:=λv a b ha hb=>by
  rcases bS ha with⟨i,t,rfl,rfl⟩ | ⟨x,t,rfl,rfl⟩
  ·rcases bS hb with⟨j,u,rfl,e⟩ | ⟨y,u,rfl,e⟩
   ·injection e with e1 _;rw[e1]
   ·exact nomatch e
  ·rcases bS hb with⟨j,u,rfl,e⟩ | ⟨y,u,rfl,e⟩
   ·exact nomatch e
   ·injection e with e1 _;rw[e1]
 byValue:=λk v h=>by
  rcases bS h with⟨i,t,rfl,rfl⟩ | ⟨x,t,rfl,rfl⟩<;>rfl
 pyHash:=λhv h=>by
  rcases bS hv with⟨i,t,rfl,rfl⟩ | ⟨x,t,rfl,rfl⟩
  ·exact wpAny_pyHash_int h
  ·exact wpAny_pyHash_str h
 eqBool:=λhu hv h=>by
  rcases bS hu with⟨i,t,rfl,rfl⟩ | ⟨x,t,rfl,rfl⟩
  ·rcases bS hv with⟨j,u,rfl,rfl⟩ | ⟨y,u,rfl,rfl⟩
   ·rw[Hq] at h;exact wpAny_eqBool_int h
   ·rw[Hs] at h;exact SeqAt.EqAt.int_str i t y u _ _ _ _ h
  ·rcases bS hv with⟨j,u,rfl,rfl⟩ | ⟨y,u,rfl,rfl⟩
   ·rw[Ht] at h;exact SeqAt.EqAt.str_int x t j u _ _ _ _ h
   ·rw[Hr] at h;exact wpAny_eqBool_str h
 «strs»:=λk x t v h=>by
  rcases bS h with⟨i,u,rfl,e⟩ | ⟨y,u,rfl,e⟩
  ·exact nomatch e
  ·injection e with e1 _
   subst e1;cases v<;>rfl
theorem yF(prog:Zv)(w:World)(k:Key)(v:Value):(bC prog w).is k v=lY k v:=rfl
theorem xb(prog:Zv)(w:World)(i:Int)(t:Tok):(bC prog w).is (.inl i) (.int i t)=true:=Ar i t
theorem xc(prog:Zv)(w:World)(x:Str)(t:Tok):(bC prog w).is (.inr x) (.str x t)=true:=As x t
inductive V where
 |non | bl (b:Bool) | int (i:Int) | str (x:Str) | byt (b:Array UInt8) | flt (b:UInt64) | ref (a:Addr) | ty (n:String)
 deriving DecidableEq
def RelV:V->Value->Prop
 |.non,u=>u=Value.none
 |.bl b,u=>u=Value.bool b
 |.int i,u=>∃t,u=Value.int i t
 |.str x,u=>∃t,u=Value.str x t
 |.byt b,u=>∃t,u=Value.bytes b t
 |.flt b,u=>∃t,u=Value.float b t
 |.ref a,u=>u=Value.ref a
 |.ty n,u=>u=Value.type n
abbrev ak:List V->List Value->Prop:=Paired RelV
theorem ak.length{xs:List V}{us:Zd}(r:ak xs us):xs.length=us.length:=Paired.length r
theorem ak.get:∀{xs:List V}{us:Zd}{i:Nat}{x:V},ak xs us->xs[i]?=some x->∃u,us[i]?=some u/\RelV x u
 |_,_,_,_,.nil,e=>by simp at e
 |_,_,0,_,.cons r _,e=>by simp at e;subst e;exact⟨_,rfl,r⟩
 |_,_,i+1,x,.cons _ t,e=>by
  obtain⟨u,h1,a⟩:=ak.get (i:=i) (x:=x) t (by simpa using e);exact⟨u,by simpa using h1,a⟩
theorem ak.set{x:V}{u:Value}(r:RelV x u):∀{xs:List V}{us:Zd}(i:Nat),ak xs us->ak (xs.set i x) (us.set i u)
 |_,_,_,.nil=>.nil
 |_,_,0,.cons _ t=>.cons r t
 |_,_,i+1,.cons q t=>.cons q (ak.set r i t)
theorem ak.append{xs ys:List V}{us a:Zd}(h:ak xs us)(s:ak ys a):ak (xs++ys) (us++a):=by
 induction h with
 |nil=>exact s
 |cons r _ b=>exact .cons r b
theorem ak.take:∀{xs:List V}{us:Zd}(n:Nat),ak xs us->ak (xs.take n) (us.take n)
 |_,_,0,_=>.nil
 |_,_,_+1,.nil=>.nil
 |_,_,n+1,.cons r t=>.cons r (ak.take n t)
theorem ak.drop:∀{xs:List V}{us:Zd}(n:Nat),ak xs us->ak (xs.drop n) (us.drop n)
 |_,_,0,r=>r
 |_,_,_+1,.nil=>.nil
 |_,_,n+1,.cons _ t=>ak.drop n t
def eI:Option V->Option Value->Prop
 |some v,some u=>RelV v u
 |none,none=>True
 |_,_=>False
def KV{a:Type}:List (a×V)->List (a×Value)->Prop:=Paired λ(p:a×V) (q:a×Value)=>p.1=q.1/\RelV p.2 q.2
def kV:Key->V
 |.inl i=>.int i
 |.inr x=>.str x
inductive HO where
  /-- a list -/
  | lst (xs:List V)
  /-- a tuple (never changes) -/
  | tup (xs:List V)
  /-- a dict whose keys are ints and texts; one whose keys are tuples of ints and texts (the empty one is both) -/
  | dK (b_:List (Key × V)) | dT (b_:List (List Key × V))
  /-- a set of ints: c_ members,c_ size -/
  | set (S:Int->Bool) (n:Nat)
  /-- an instance of the class at C,c_ dict at dx,c_ attributes -/
  | ins (C dx:Addr) (fs:List (Str × V))
  /-- the dict of the instance at x -/
  | own (x:Addr)
  /-- the dict of an exception -/
  | xd (fs:List (Str × V))
  /-- a bound method,f of x -/
  | met (f x:Addr)
  /-- a range object lo,lo + 1,.. below hi -/
  | rng (lo hi:Int)
  /-- a thing that is known to the object (the script; a dict while a loop walks it): read,never written while it is so -/
  | frz (o:Obj) (u:HO)
  /-- a code object's table -/
  | tbl (ps:Zl)
  /-- any other thing,by what is true of c_ one object (a def of UY own: SetO a S n:=HO.ext λh=>..) -/
  | ext (φ:Heap->Prop)
abbrev Hp:=Addr->Option HO
def upd(H:Hp)(a:Addr)(o:HO):Hp:=λb=>if b=a then some o else H b
theorem aB{H:Hp}{a:Addr}{o:HO}:upd H a o a=some o:=by unfold upd;rw[if_pos rfl]
theorem aM{H:Hp}{a b:Addr}{o:HO}(h:b≠a):upd H a o b=H b:=by unfold upd;rw[if_neg h]
theorem JY{H:Hp}{a b:Addr}{o u:HO}(h:H a=some o)(h':H b=some u)(d:o≠u):a≠b:=by
 intro e;subst e;rw[h] at h';exact d (Yi h')
theorem bu{H:Hp}{a b:Addr}{o:HO}(h:H a=some o)(h':H b=none):a≠b:=by
 intro e;subst e;rw[h] at h';cases h'
section
variable (P:Zv)(w:World)
def a9(H:Hp)(h:Heap)(a:Addr):HO->Prop
 |.lst xs=>xs.length<=sizeLine/\∃(c_:Zd) (n:Nat),ak xs c_/\h.get? a=some { cls:=.type "list",data:=.seq c_.toArray n }
 |.tup xs=>xs.length<=sizeLine/\∃c_:List Value,ak xs c_/\IsTup h a c_.toArray
 |.dK b=>b.length<=sizeLine/\(a==sysModules)=false/\∃vs,KV b vs/\h.DictOf (bC P w) a vs
 |.dT b=>b.length<=sizeLine/\(a==sysModules)=false/\∃xs:List (List Key×Addr×Value),
   Paired (λ(p:List Key×V) (q:List Key×Addr×Value)=>p.1=q.1/\H q.2.1=some (.tup (p.1.map kV))/\RelV p.2 q.2.2) b xs /\
   ∃o es j,h.get? a=some o/\o.ExactDict/\o.data=.dict es j/\es.toList=xs.map (entryOfKey (tupleKind (bC P w)))/\(xs.map (·.1)).Nodup
 |.set S n=>h.SetOf (intKind P w) a S n
 |.ins C dx fs=>H dx=some (.own a)/\fs.length<=1000/\dx≠a/\h.get? a=some (PySem.W.instObj C dx) /\
   ∃mA,h.Ns1 dx mA/\(∀f,eI (fs.lookup f) (mA f))/\PySem.Within mA (fs.map (·.1))
 |.own _=>∃o,h.get? a=some o
 |.xd fs=>∃mA,h.Ns1 a mA/\∀f,eI (fs.lookup f) (mA f)
 |.rng lo hi=>∃t u v,h.get? a=some { cls:=.type "range",data:=.fields #[.int lo t,.int hi u,.int 1 v] }
 |.frz o u=>h.get? a=some o/\a9 H h a u
 |.tbl ps=>h.get? a=some { cls:=.none,data:=.fields ps }
 |.met f x=>h.get? a=some (PySem.W.methodObj (.ref f) (.ref x))
 |.ext c=>c h/\(∃o,h.get? a=some o)/\∀h1 g:Heap,c h1->(∀o,h1.get? a=some o->g.get? a=some o)->c g
def cm(H:Hp)(h:Heap):Prop:=∀a o,H a=some o->a9 P w H h a o
end
section
variable {P:Zv}{w:World}{H H':Hp}{h h':Heap}{a:Addr}{o:HO}
theorem a9.lt(x:a9 P w H h a o):a<h.objs.size:=by
 cases o with
 |lst xs=>obtain⟨_,_,_,_,e⟩:=x;exact Ye e
 |tup xs=>obtain⟨_,_,_,p⟩:=x;exact p.lt
 |dK b=>obtain⟨_,_,_,_,o,_,_,e,_⟩:=x;exact Ye e
 |dT b=>obtain⟨_,_,_,_,o,_,_,e,_⟩:=x;exact Ye e
 |set S n=>obtain⟨o,_,_,_,e,_⟩:=x;exact Ye e
 |ins C dx fs=>obtain⟨_,_,_,e,_⟩:=x;exact Ye e
 |own y=>obtain⟨_,e⟩:=x;exact Ye e
 |xd fs=>obtain⟨_,⟨_,_,_,e,_⟩,_⟩:=x;exact Ye e
 |rng lo hi=>obtain⟨_,_,_,e⟩:=x;exact Ye e
 |frz c u=>obtain⟨e,_⟩:=x;exact Ye e
 |tbl ps=>exact Ye (show h.get? a=some _ from x)
 |met f y=>exact Ye (show h.get? a=some _ from x)
 |ext g=>obtain⟨_,⟨_,e⟩,_⟩:=x;exact Ye e
theorem Paired.mapP{c g:Type}{F G:c->g->Prop}{j:List c}{l:List g}(h:Paired F j l)(f:∀a b,F a b->G a b):Paired G j l:=by
 induction h with
 |nil=>exact .nil
 |cons r _ m=>exact .cons (f _ _ r) m
theorem a9.stay(x:a9 P w H h a o)(k:∀b u,(b=a\/H b=some (.own a))->h.get? b=some u->h'.get? b=some u)
  (l:∀b,H b=some (.own a)->H' b=some (.own a)) (ht:∀b xs,H b=some (.tup xs)->H' b=some (.tup xs)):a9 P w H' h' a o:=by
 induction o with
 |lst xs=>obtain⟨z,c_,n,r,e⟩:=x;exact⟨z,c_,n,r,k _ _ (.inl rfl) e⟩
 |tup xs=>obtain⟨z,c_,r,g,e,c⟩:=x;exact⟨z,c_,r,g,k _ _ (.inl rfl) e,c⟩
 |dK m=>obtain⟨z,y,vs,r,g,es,j,e,c⟩:=x;exact⟨z,y,vs,r,g,es,j,k _ _ (.inl rfl) e,c⟩
 |dT m=>
  obtain⟨z,y,xs,r,g,es,j,e,c⟩:=x;exact⟨z,y,xs,Paired.mapP r λp q z=>⟨z.1,ht _ _ z.2.1,z.2.2⟩,g,es,j,k _ _ (.inl rfl) e,c⟩
 |set S n=>obtain⟨g,es,j,t,e,c⟩:=x;exact⟨g,es,j,t,k _ _ (.inl rfl) e,c⟩
 |ins C dx fs=>
  obtain⟨d,z,ne,e,mA,⟨od,es,j,e2,c⟩,r⟩:=x;exact⟨l _ d,z,ne,k _ _ (.inl rfl) e,mA,⟨od,es,j,k _ _ (.inr d) e2,c⟩,r⟩
 |own y=>obtain⟨g,e⟩:=x;exact⟨g,k _ _ (.inl rfl) e⟩
 |xd fs=>obtain⟨mA,⟨od,es,j,e,c⟩,r⟩:=x;exact⟨mA,⟨od,es,j,k _ _ (.inl rfl) e,c⟩,r⟩
 |rng lo hi=>obtain⟨t,u,v,e⟩:=x;exact⟨t,u,v,k _ _ (.inl rfl) e⟩
 |frz g u B=>obtain⟨e,q⟩:=x;exact⟨k _ _ (.inl rfl) e,B q⟩
 |tbl ps=>
  have e:h.get? a=some { cls:=.none,data:=.fields ps }:=x;show h'.get? a=some { cls:=.none,data:=.fields ps };exact k a _ (.inl rfl) e
 |met f y=>
  have e:h.get? a=some (PySem.W.methodObj (.ref f) (.ref y)):=x;show h'.get? a=some (PySem.W.methodObj (.ref f) (.ref y));exact k a _ (.inl rfl) e
 |ext G=>obtain⟨p,⟨o,e⟩,st⟩:=x;exact⟨st _ _ p λo q=>k _ _ (.inl rfl) q,⟨o,k _ _ (.inl rfl) e⟩,st⟩
theorem cm.lt(x:cm P w H h)(e:H a=some o):a<h.objs.size:=(x a o e).lt
theorem cm.fresh(x:cm P w H h)(e:h.objs.size<=a):H a=none:=by
 cases q:H a with
 |none=>rfl
 |some u=>exact absurd (ZT (x.lt q) e) (ZU _)
theorem cm.kept(x:cm P w H h)(k:∀b u,h.get? b=some u->h'.get? b=some u):cm P w H h':=λa o e=>
 (x a o e).stay (λb u _ q=>k b u q) (λ_ q=>q) λ_ _ q=>q
theorem cm.laid(x:cm P w H h)(k:∀b u,h.get? b=some u->h'.get? b=some u)(hp:h.objs.size<=a)(new:a9 P w (upd H a o) h' a o):cm P w (upd H a o) h':=λb u e=>by
 have hn:=x.fresh hp;by_cases hb:b=a
 ·subst hb;rw[aB] at e;cases e;exact new
 ·rw[aM hb] at e
  exact(x b u e).stay (λc v _ q=>k c v q) (λc q=>by rw[aM (bu q hn)];exact q) λc xs q=>by rw[aM (bu q hn)];exact q
end
def Rd(H:Hp)(a:Addr)(u:HO):Prop:=H a=some u \/ ∃o,H a=some (.frz o u)
theorem Rd.ok{P:Zv}{w:World}{H:Hp}{h:Heap}{a:Addr}{u:HO}(r:Rd H a u)(x:cm P w H h):a9 P w H h a u:=by
 rcases r with r | ⟨o,r⟩
 ·exact x a u r
 ·obtain⟨_,q⟩:=x a _ r
  exact q
def xD:Option HO->Prop
 |some (.lst _)=>True
 |some (.dK _)=>True
 |some (.dT _)=>True
 |some (.set _ _)=>True
 |some (.ins _ _ _)=>True
 |some (.ext _)=>True
 |_=>False
section
variable {P:Zv}{w:World}{H:Hp}{h h':Heap}{x e:Addr}{o':HO}
theorem cm.write(ok:cm P w H h)(mu:xD (H x))(f:e=x\/H e=some (.own x))(k:∀b u,b≠e->h.get? b=some u->h'.get? b=some u)(l:∃u,h'.get? e=some u)
  (new:a9 P w (upd H x o') h' x o'):cm P w (upd H x o') h':=λb u q=>by
 have g:∀c y,H c=some (.own y)->c≠x:=λc y r z=>by subst z;rw[r] at mu;exact mu
 have m:∀c xs,H c=some (.tup xs)->c≠x:=λc xs r z=>by subst z;rw[r] at mu;exact mu
 by_cases hb:b=x
 ·subst hb;rw[aB] at q;cases q;exact new
 ·rw[aM hb] at q
  by_cases a:b=e
  ·have j:H b=some (.own x):=by
    rcases f with z | z
    ·exact absurd (a.trans z) hb
    ·rw[a];exact z
   rw[q] at j;cases j;obtain⟨v,hv⟩:=l;exact⟨v,by rw[a];exact hv⟩
  ·refine(ok b u q).stay (λc v hc r=>k c v ?_ r) (λc r=>by rw[aM (g c b r)];exact r) λc xs r=>by rw[aM (m c xs r)];exact r
   rcases hc with rfl | hc
   ·exact a
   ·rintro rfl
    rcases f with z | z
    ·exact g c b hc z
    ·rw[hc] at z;cases z;exact hb rfl
end
structure Un (fs ex:Zh) (H H':Hp) (h h':Heap):Prop where
 keep:∀b o,h.get? b=some o->H b=none->b∉fs->b∉ex->h'.get? b=some o
 slot:∀b o,h.get? b=some o->H b=none->b∈fs->b∉ex->∃sl,h'.get? b=some { o with slots:=sl }
 free:∀b o,h.get? b=some o->H b=none->b∉ex->H' b=none
 there:∀b o,h.get? b=some o->b∉ex->∃o',h'.get? b=some o'
 tups:∀b xs,H b=some (.tup xs)->H' b=some (.tup xs)
 frzs:∀b o u,H b=some (.frz o u)->H' b=some (.frz o u)
 tbls:∀b ps,H b=some (.tbl ps)->∃more,H' b=some (.tbl (ps++more))
section
variable {fs OV ex Z1:Zh}{H H1 H2:Hp}{h h1 h2 h':Heap}{a x e:Addr}{o:HO}
theorem Un.any(u:Un fs ex H H1 h h1){b:Addr}{c:Obj}(q:h.get? b=some c)(n:H b=none)(hx:b∉ex):∃sl,h1.get? b=some { c with slots:=sl }:=by
 by_cases hb:b∈fs
 ·exact u.slot b c q n hb hx
 ·exact⟨c.slots,u.keep b c q n hb hx⟩
theorem Un.kept(k:∀b u,h.get? b=some u->h'.get? b=some u):Un fs ex H H h h':=
 ⟨λb c q _ _ _=>k b c q,λb c q _ _ _=>⟨c.slots,k b c q⟩,λ_ _ _ n _=>n,λb c q _=>⟨c,k b c q⟩,λ_ _ q=>q,λ_ _ _ q=>q,λ_ ps q=>⟨#[],by rw[q];simp⟩⟩
theorem Un.refl:Un fs ex H H h h:=Un.kept λ_ _ q=>q
theorem Un.laid(k:∀b u,h.get? b=some u->h'.get? b=some u)(hp:h.objs.size<=a)(hn:H a=none):Un fs ex H (upd H a o) h h' where
 keep:=λb u q _ _ _=>k b u q
 slot:=λb u q _ _ _=>⟨u.slots,k b u q⟩
 free:=λb u q n _=>by rw[aM (ZV (ZT (Ye q) hp))];exact n
 there:=λb u q _=>⟨u,k b u q⟩
 tups:=λb xs q=>by rw[aM (bu q hn)];exact q
 frzs:=λb u xs q=>by rw[aM (bu q hn)];exact q
 tbls:=λb ps q=>⟨#[],by rw[aM (bu q hn),q];simp⟩
theorem Un.write(mu:xD (H x))(f:e=x\/H e=some (.own x))(k:∀b u,b≠e->h.get? b=some u->h'.get? b=some u)(g:∃u,h'.get? e=some u):Un fs ex H (upd H x o) h h':=by
 have hx:∀b,H b=none->b≠x:=λb n z=>by subst z;rw[n] at mu;exact mu
 have hb:∀b,H b=none->b≠e:=λb n z=>by
  subst z;rcases f with r | r
  ·exact hx b n r
  ·rw[n] at r;cases r
 have hm:∀b u,H b=some u->¬xD (some u)->b≠x:=λb u q nm z=>by subst z;rw[q] at mu;exact nm mu
 refine⟨λb u q n _ _=>k b u (hb b n) q,λb u q n _ _=>⟨u.slots,k b u (hb b n) q⟩,λb u q n _=>by rw[aM (hx b n)];exact n,λb u q _=>?_,
  λb xs q=>by rw[aM (hm b _ q λz=>z)];exact q,λb u xs q=>by rw[aM (hm b _ q λz=>z)];exact q,λb ps q=>⟨#[],by rw[aM (hm b _ q λz=>z),q];simp⟩⟩
 by_cases c:b=e
 ·subst c;exact g
 ·exact⟨u,k b u c q⟩
end
def E6(h:Heap)(H:Hp):List Addr:=(List.range h.objs.size).filter λa=>(H a).isSome
def lZ(h:Heap)(H:Hp):Heap:=PySem.W.hideAll h (E6 h H)
theorem At(h:Heap)(H:Hp):(lZ h H).objs.size=h.objs.size:=PySem.W.hideAll_size _ _
theorem Cz{h:Heap}{H:Hp}{b:Addr}{o:Obj}(e:h.get? b=some o)(n:H b=none):(lZ h H).get? b=some o:=
 PySem.W.hideAll_get _ e λhm=>by
  have q:(H b).isSome=true:=(ZW.mp hm).2;rw[n] at q;simp at q
theorem FM{h:Heap}{H:Hp}{b:Addr}{o:Obj}(e:(lZ h H).get? b=some o):h.get? b=some o/\H b=none:=by
 have e':h.get? b=some o:=PySem.W.of_hideAll (E6 h H) e;refine⟨e',?_⟩;cases q:H b with
 |none=>rfl
 |some x=>
  have hm:b∈E6 h H:=ZW.mpr ⟨ZX.mpr (Ye e'),by simp[q]⟩;have z:(lZ h H).get? b=none:=PySem.W.hideAll_none (E6 h H) hm;rw[z] at e;cases e
def FN(g h:Heap)(L:Addr):List (Addr×Obj):=(List.range h.objs.size).filterMap λa=>if a=L\/(g.get? a).isSome=true then none else(h.get? a).map λo=>(a,o)
def rest(g h:Heap)(L d:Addr):List (Addr×Obj):=(FN g h L).filter λp=>decide (p.1≠d)
structure Mod (K:Za) (mg:Ze) (base:Heap):Prop where
 kin:K.In base
 glob:base.Ns mainGlobals mg
 blt:∃mb,base.Ns builtinsNs mb/\∀x:Str,x ≠ "__name__"->mb x=bootBuiltins x
 nolimit:base.NoLimit
structure Cx where
 prog:Program
 w:World
 K:PySem.W.Frag
 mg:Str->Option Value
 base:Heap
 A:Around
 N:List Str
 s₀:Shared
 H₀:Hp
 env:Env
 outer:List Env
 stack:List Env
 ex:List Addr
 fn:Str->Bool
 calm:Bool
 pn:List (Addr×Obj)
 xe:Value->Shared->Prop
def lE(l:List Env):List Addr:=l.filterMap (·.frame)
abbrev Cx.fs(X:Cx):List Addr:=lE X.outer
def uU(sc:Scope)(x:Str):Prop:=sc.names.lookup x=some .local \/ sc.names.lookup x=some .cell\/sc.names.lookup x=some .free
def Loc(sc:Scope)(x:Str):Prop:=sc.names.lookup x=some .local \/ sc.names.lookup x=some .cell
def Look(env:Env)(h:Heap)(m:Ze)(x:Str)(u:Value):Prop:=
 (env.kindOf x=some .local/\m x=some u)\/((env.kindOf x=some .cell\/env.kindOf x=some .free)/\∃c,env.cells.lookup x=some c/\h.IsCell c (some u))
structure Cx.Ok (X:Cx):Prop where
 mod:Mod X.K X.mg X.base
 kind:X.env.scope.kind=.function
 glob:X.env.globals=mainGlobals
 blt:X.env.builtins=builtinsNs
 above:X.s₀.heap.objs.size<=X.env.locals
 inj:∀x y c,X.env.cells.lookup x=some c->X.env.cells.lookup y=some c->x=y
 has:∀x,(X.env.kindOf x=some .cell\/X.env.kindOf x=some .free)->∃c,X.env.cells.lookup x=some c
 cab:∀x c,X.fn x=true->X.env.cells.lookup x=some c->X.s₀.heap.objs.size<=c
 hd:X.calm=true->X.A.handled=none
 frames:X.A.frames=some X.stack
 stk:X.stack=X.outer\/(X.stack=X.env::X.outer/\X.env.frame=some X.env.locals)
 exf:∀b∈X.ex,b≠X.env.locals/\∀x c,X.env.cells.lookup x=some c->c≠b
 bs:∀b o,X.base.get? b=some o->X.s₀.heap.get? b=some o/\X.H₀ b=none
 bsz:X.base.objs.size<=X.s₀.heap.objs.size
 noex:∀b o,X.base.get? b=some o->b∉X.ex
 exfs:∀b∈X.ex,b∉X.fs
 funs:X.s₀.heap.FunFrames X.base X.outer
 frf:∀b∈X.fs,X.H₀ b=none
structure ad (X:Cx) (pins:Zc) (σ:List (Option V)) (H:Hp) (s:Shared):Prop where
 ok:X.Ok
 os:s.os=X.s₀.os
 bare:AllBare s.gens
 base:Un X.fs X.ex X.H₀ H X.s₀.heap s.heap
 loc:∃m,s.heap.Ns X.env.locals m/\∀(i:Nat) (x:Str) (v:V),X.N[i]?=some x->σ[i]?=some (some v)->uU X.env.scope x->∃u,RelV v u/\Look X.env s.heap m x u
 cell:∀x c,X.env.cells.lookup x=some c->∃v,s.heap.IsCell c v
 free:H X.env.locals=none
 freeC:∀x c,X.env.cells.lookup x=some c->H c=none
 pin:∀p∈X.pn++pins,s.heap.get? p.1=some p.2/\H p.1=none/\p.1≠X.env.locals/\p.1∉X.fs/\∀v,p.2.data≠.cell v
 hok:cm X.prog X.w H s.heap
 len:σ.length=X.N.length
section
variable {X:Cx}{pins:Zc}{σ:List (Option V)}{H H':Hp}{s:Shared}{h':Heap}
theorem Cx.Ok.nofr(ok:X.Ok){b:Addr}{o:Obj}(e:X.base.get? b=some o):b∉X.fs:=λhb=>by
 have:=(ok.funs.mem hb).1
 rw[e] at this;cases this
theorem ad.bs(I:ad X pins σ H s):∀b o,X.base.get? b=some o->s.heap.get? b=some o/\H b=none:=λb o e=>
 ⟨I.base.keep b o (I.ok.bs b o e).1 (I.ok.bs b o e).2 (I.ok.nofr e) (I.ok.noex b o e),I.base.free b o (I.ok.bs b o e).1 (I.ok.bs b o e).2 (I.ok.noex b o e)⟩
theorem ad.bk(I:ad X pins σ H s):∀b o,X.base.get? b=some o->s.heap.get? b=some o:=λb o e=>(I.bs b o e).1
theorem ad.mod(I:ad X pins σ H s):Mod X.K X.mg X.base:=I.ok.mod
theorem ad.kIn(I:ad X pins σ H s):X.K.In s.heap:=I.ok.mod.kin.keeps I.bk
theorem ad.lt(I:ad X pins σ H s):X.env.locals<s.heap.objs.size:=let⟨_,hn,_⟩:=I.loc;hn.lt
theorem ad.sz(I:ad X pins σ H s):X.s₀.heap.objs.size<=s.heap.objs.size:=ZY I.ok.above (Nat.le_of_lt I.lt)
theorem ad.nofs(I:ad X pins σ H s){a:Addr}(h:s.heap.objs.size<=a):a∉X.fs:=λhb=>by
 obtain⟨_,o,b,_⟩:=I.ok.funs.mem hb;exact absurd (ZT (Ye b) (ZY I.sz h)) (ZU _)
theorem ad.cne(I:ad X pins σ H s):∀x c,X.env.cells.lookup x=some c->c≠X.env.locals:=λx c e z=>by
 obtain⟨v,o,a,hd⟩:=I.cell x c e;obtain⟨m,⟨o',es,g,b,f,_⟩,_⟩:=I.loc;rw[z,b] at a;cases a;rw[f] at hd;cases hd
theorem ad.funs(I:ad X pins σ H s):s.heap.FunFrames X.base X.outer:=by
 have all:∀(l:List Env),(∀b∈lE l,b∈X.fs)->X.s₀.heap.FunFrames X.base l->s.heap.FunFrames X.base l:=by
  intro l;induction l with
  |nil=>intro _ _;trivial
  |cons env r c=>
   intro hs hl;obtain⟨hk,⟨L,o,hf,hn,f,hd⟩,g⟩:=hl;have a:L∈X.fs:=hs L (by unfold lE;rw[List.filterMap_cons,hf];exact ZZ);obtain⟨sl,e⟩:=I.base.slot L o f (I.ok.frf L a) a λz=>I.ok.exfs L z a
   exact⟨hk,⟨L,_,hf,hn,e,hd⟩,c (λb hb=>hs b (by unfold lE;rw[List.filterMap_cons,hf];exact YA _ hb)) g⟩
 exact all X.outer (λ_ hb=>hb) I.ok.funs
theorem ad.stack(I:ad X pins σ H s):s.heap.FunFrames X.base X.stack:=by
 rcases I.ok.stk with e | ⟨e,hf⟩
 ·rw[e];exact I.funs
 ·rw[e]
  obtain⟨m,hn,_⟩:=I.loc;refine .cons (by rw[I.ok.kind];decide) hf hn ?_ I.funs;exact Heap.get?_none_of_le (ZY I.ok.bsz I.ok.above)
theorem ad.stkSub(I:ad X pins σ H s):∀b∈lE X.stack,b∈X.env.locals::X.fs:=λb hb=>by
 rcases I.ok.stk with e | ⟨e,hf⟩
 ·rw[e] at hb;exact YA _ hb
 ·rw[e] at hb
  unfold lE at hb;rw[List.filterMap_cons,hf] at hb;exact hb
theorem ad.stkFree(I:ad X pins σ H s):∀b∈lE X.stack,H b=none:=λb hb=>by
 rcases YB.mp (I.stkSub b hb) with e | hb
 ·rw[e];exact I.free
 ·obtain⟨_,o,a,_⟩:=I.ok.funs.mem hb
  exact I.base.free b o a (I.ok.frf b hb) λz=>I.ok.exfs b z hb
theorem ad.step{g':Array GenState}{t':Nat}{d':Drawn}{ch:Zh}(I:ad X pins σ H s)
  (g:∀b∈ch,(b∈X.ex\/X.s₀.heap.objs.size<=b)/\b≠X.env.locals/\(∀x c,X.env.cells.lookup x=some c->c≠b)/\∀p∈X.pn++pins,p.1≠b)
  (keep:∀b o,b≠X.env.locals->b∉X.fs->b∉ch->s.heap.get? b=some o->H b=none->h'.get? b=some o)
  (slot:∀b o,b≠X.env.locals->b∈X.fs->b∉ch->s.heap.get? b=some o->H b=none->∃sl,h'.get? b=some { o with slots:=sl }) (free:∀b o,b∉ch->s.heap.get? b=some o->H b=none->H' b=none)
  (there:∀b o,b∉ch->s.heap.get? b=some o->∃o',h'.get? b=some o')
  (tups:∀b xs,H b=some (.tup xs)->H' b=some (.tup xs)) (frzs:∀b o u,H b=some (.frz o u)->H' b=some (.frz o u)) (tbls:∀b ps,H b=some (.tbl ps)->∃more,H' b=some (.tbl (ps++more)))
  (ns:∀m,s.heap.Ns X.env.locals m->h'.Ns X.env.locals m) (hok:cm X.prog X.w H' h') (hg:AllBare g'):
  ad X pins σ H' { s with heap:=h',gens:=g',drawn:=d',toks:=t' }:=by
 have y:∀b o,X.s₀.heap.get? b=some o->b≠X.env.locals:=λb o e=>ZV (ZT (Ye e) I.ok.above)
 have t:∀b o,X.s₀.heap.get? b=some o->b∉X.ex->b∉ch:=λb o e hx hb=>by
  rcases(g b hb).1 with z | z
  ·exact hx z
  ·exact absurd (ZT (Ye e) z) (ZU _)
 have a:∀x c,X.env.cells.lookup x=some c->∀v,s.heap.IsCell c v->h'.IsCell c v:=λx c e v ⟨o,f,hd⟩=>by
  have j:c∉ch:=λz=>(g c z).2.2.1 x c e rfl
  by_cases hc:c∈X.fs
  ·obtain⟨sl,q⟩:=slot c o (I.cne x c e) hc j f (I.freeC x c e)
   exact⟨_,q,hd⟩
  ·exact⟨o,keep c o (I.cne x c e) hc j f (I.freeC x c e),hd⟩
 refine⟨I.ok,I.os,hg,⟨λb o e n hb hx=>?_,λb o e n hb hx=>?_,λb o e n hx=>?_,λb o e hx=>?_,λb xs e=>tups b xs (I.base.tups b xs e),λb o xs e=>frzs b o xs (I.base.frzs b o xs e),λb ps e=>?_⟩,?_,λx c e=>?_,?_,λx c e=>?_,λp hp=>?_,hok,I.len⟩
 ·exact keep b o (y b o e) hb (t b o e hx) (I.base.keep b o e n hb hx) (I.base.free b o e n hx)
 ·obtain⟨sl,e1⟩:=I.base.slot b o e n hb hx
  obtain⟨C,e2⟩:=slot b _ (y b o e) hb (t b o e hx) e1 (I.base.free b o e n hx);exact⟨C,e2⟩
 ·obtain⟨o',e1⟩:=I.base.there b o e hx
  exact free b o' (t b o e hx) e1 (I.base.free b o e n hx)
 ·obtain⟨o',e1⟩:=I.base.there b o e hx
  exact there b o' (t b o e hx) e1
 ·obtain⟨G,e1⟩:=I.base.tbls b ps e
  obtain⟨J,e2⟩:=tbls b _ e1;exact⟨G++J,by rw[e2,Array.append_assoc]⟩
 ·obtain⟨m,hn,hl⟩:=I.loc
  refine⟨m,ns m hn,λi x v e1 e2 e3=>?_⟩;obtain⟨u,r,l⟩:=hl i x v e1 e2 e3;refine⟨u,r,?_⟩;rcases l with l | ⟨k,c,e,z⟩
  ·exact .inl l
  ·exact .inr ⟨k,c,e,a x c e _ z⟩
 ·obtain⟨v,z⟩:=I.cell x c e
  exact⟨v,a x c e v z⟩
 ·obtain⟨m,⟨o,_,_,f,_⟩,_⟩:=I.loc
  exact free _ o (λz=>(g _ z).2.1 rfl) f I.free
 ·obtain⟨v,o,f,hd⟩:=I.cell x c e
  exact free c o (λz=>(g c z).2.2.1 x c e rfl) f (I.freeC x c e)
 ·obtain⟨e,n,ne,B,d⟩:=I.pin p hp
  have j:p.1∉ch:=λz=>(g p.1 z).2.2.2 p hp rfl
  exact⟨keep p.1 p.2 ne B j e n,free p.1 p.2 j e n,ne,B,d⟩
theorem ad.un{t':Nat}(I:ad X pins σ H s)(u:Un X.fs [] H H' s.heap h')(hok:cm X.prog X.w H' h'):ad X pins σ H' { s with heap:=h',toks:=t' }:=by
 obtain⟨m,⟨o,es,p,a,r⟩,_⟩:=id I.loc;obtain⟨sl,f⟩:=u.any a I.free (by simp);exact I.step (g':=s.gens) (d':=s.drawn) (ch:=[]) (λ_ z=>nomatch z) (λb o _ hb _ e n=>u.keep b o e n hb (by simp)) (λb o _ hb _ e n=>u.slot b o e n hb (by simp)) (λb o _ e n=>u.free b o e n (by simp)) (λb o _ e=>u.there b o e (by simp)) u.tups u.frzs u.tbls (λt hm=>by
  obtain⟨o',g,j,c,l⟩:=hm;rw[a] at c;cases c;exact⟨_,g,j,f,l⟩) hok I.bare
theorem ad.call{g':Array GenState}{t':Nat}{d':Drawn}{ch:Zh}(I:ad X pins σ H s)(u:Un (lE X.stack) ch H H' s.heap h')(hok:cm X.prog X.w H' h')(hg:AllBare g')
  (f:∀b∈ch,(b∈X.ex\/X.s₀.heap.objs.size<=b)/\b≠X.env.locals/\(∀x c,X.env.cells.lookup x=some c->c≠b)/\∀p∈X.pn++pins,p.1≠b):
  ad X pins σ H' { s with heap:=h',gens:=g',drawn:=d',toks:=t' }:=by
 obtain⟨m,⟨o,es,B,g,r⟩,_⟩:=id I.loc;obtain⟨sl,a⟩:=u.any g I.free λz=>(f _ z).2.1 rfl
 exact I.step (ch:=ch) f (λb o a hb hc e n=>u.keep b o e n (λz=>(YB.mp (I.stkSub b z)).elim a hb) hc) (λb o _ _ hc e n=>u.any e n hc) (λb o hc e n=>u.free b o e n hc) (λb o hc e=>u.there b o e hc) u.tups u.frzs u.tbls (λC hm=>by
  obtain⟨o',l,t,j,y⟩:=hm;rw[g] at j;cases j;exact⟨_,l,t,a,y⟩) hok hg
theorem ad.turned{t':Nat}{it:Addr}(I:ad X pins σ H s)(k:∀b o,b≠it->s.heap.get? b=some o->h'.get? b=some o)(hn:H it=none)(a:it≠X.env.locals)
  (h1:it∈X.ex\/X.s₀.heap.objs.size<=it) (g:∀x c,X.env.cells.lookup x=some c->c≠it) (j:∀p∈X.pn++pins,p.1≠it):ad X pins σ H { s with heap:=h',toks:=t' }:=by
 have f:∀b u,H b=some u->b≠it:=λb u e z=>by rw[z,hn] at e;cases e
 refine I.step (g':=s.gens) (d':=s.drawn) (ch:=[it]) (λb hb=>?_) (λb o _ _ hc e _=>k b o (λz=>hc (by simp[z])) e) (λb o _ _ hc e _=>⟨o.slots,k b o (λz=>hc (by simp[z])) e⟩) (λ_ _ _ _ n=>n)
  (λb o hc e=>⟨o,k b o (λz=>hc (by simp[z])) e⟩) (λ_ _ e=>e) (λ_ _ _ e=>e) (λb ps e=>⟨#[],by rw[e];simp⟩) (λm hm=>?_) (λb u e=>?_) I.bare
 ·have e:b=it:=by simpa using hb
  subst e;exact⟨h1,a,g,j⟩
 ·obtain⟨o,es,l,t,r⟩:=hm
  exact⟨o,es,l,k _ o (Ne.symm a) t,r⟩
 ·refine(I.hok b u e).stay (λc v hc q=>k c v ?_ q) (λ_ q=>q) λ_ _ q=>q
  rcases hc with z | z
  ·rw[z];exact f b u e
  ·exact f c _ z
theorem ad.tok(I:ad X pins σ H s)(t:Nat):ad X pins σ H { s with toks:=t }:=I.un (h':=s.heap) (t':=t) Un.refl I.hok
theorem ad.kept{t':Nat}(I:ad X pins σ H s)(k:∀b u,s.heap.get? b=some u->h'.get? b=some u):ad X pins σ H { s with heap:=h',toks:=t' }:=I.un (Un.kept k) (I.hok.kept k)
theorem ad.laid{a:Addr}{o:HO}{t':Nat}(I:ad X pins σ H s)(k:∀b u,s.heap.get? b=some u->h'.get? b=some u)(hp:s.heap.objs.size<=a)(new:a9 X.prog X.w (upd H a o) h' a o):
  ad X pins σ (upd H a o) { s with heap:=h',toks:=t' }:=I.un (Un.laid k hp (I.hok.fresh hp)) (I.hok.laid k hp new)
theorem ad.write{x e:Addr}{o:HO}{t':Nat}(I:ad X pins σ H s)(mu:xD (H x))(a:e=x\/H e=some (.own x))(k:∀b u,b≠e->s.heap.get? b=some u->h'.get? b=some u)(c:∃u,h'.get? e=some u)
  (new:a9 X.prog X.w (upd H x o) h' x o):ad X pins σ (upd H x o) { s with heap:=h',toks:=t' }:=I.un (Un.write mu a k c) (I.hok.write mu a k c new)
theorem ad.pins_of{a:Zc}(I:ad X pins σ H s)(h:∀p∈a,s.heap.get? p.1=some p.2/\H p.1=none/\p.1≠X.env.locals/\p.1∉X.fs/\∀v,p.2.data≠.cell v):ad X a σ H s:=
 ⟨I.ok,I.os,I.bare,I.base,I.loc,I.cell,I.free,I.freeC,λp hp=>(YC.mp hp).elim (λz=>I.pin p (List.mem_append_left _ z)) (h p),I.hok,I.len⟩
theorem uV{N:Zf}(c:N.Nodup){i j:Nat}{x:Str}(a:N[i]?=some x)(b:N[j]?=some x):i=j:=by
 obtain⟨h1,e1⟩:=YD.mp a;obtain⟨f,e2⟩:=YD.mp b;exact(List.getElem_inj c).mp (e1.trans e2.symm)
theorem tI{M:Model}{A:Around}{E:Zb}{i:Nat}{x:Str}{v:V}{u:Value}{Q:Zo}(I:ad X pins σ H s)(L:X.N.Nodup)(hi:X.N[i]?=some x)(hx:Loc X.env.scope x)(r:RelV v u)
  (h:∀t,ad X pins (σ.set i (some v)) H t->(∃a,Heap.SameBut a s.heap t.heap/\(a=X.env.locals\/X.env.cells.lookup x=some a))->Q () t) (hf:X.fn x=true\/X.env.scope.names.lookup x=some .local:=by first | exact .inl rfl | exact .inr rfl | assumption):wpAny M A (storeName X.env x u) Q E s:=by
 obtain⟨m,hn,hl⟩:=id I.loc;have U:(X.env.scope.kind==.class||(X.env.scope.kind==.module&&X.env.locals != X.env.globals))=false:=by rw[I.ok.kind];rfl
 have O:i<σ.length:=by rw[I.len];exact(YD.mp hi).1
 have cne:=I.cne;have f:∀{a:Addr}{h':Heap},(∃o,s.heap.get? a=some o/\H a=none)->Heap.SameBut a s.heap h'->cm X.prog X.w H h':=λ{a h'} ha hs b W e=>by
  obtain⟨_,_,P⟩:=ha;refine(I.hok b W e).stay (λc l hc q=>(hs.2 c ?_).trans q) (λ_ q=>q) λ_ _ q=>q
  rintro rfl;rcases hc with rfl | hc
  ·rw[P] at e;cases e
  ·rw[P] at hc;cases hc
 rcases hx with hk | hk
 ·refine wpAny_storeName_local hk hn (λh' Y hs=>?_) U
  obtain⟨Z,_,_,V2,_⟩:=id hn;refine h _ ⟨I.ok,I.os,I.bare,⟨λb o e n hb hx=>?_,λb o e n hb hx=>?_,I.base.free,λb o e hx=>?_,I.base.tups,I.base.frzs,I.base.tbls⟩,⟨_,Y,λj y B e1 e2 e3=>?_⟩,λy c e=>?_,I.free,I.freeC,λp hp=>?_,f ⟨Z,V2,I.free⟩ hs,by simpa using I.len⟩ ⟨_,hs,.inl rfl⟩
  ·exact(hs.2 b (ZV (ZT (Ye e) I.ok.above))).trans (I.base.keep b o e n hb hx)
  ·obtain⟨sl,e1⟩:=I.base.slot b o e n hb hx
   exact⟨sl,(hs.2 b (ZV (ZT (Ye e) I.ok.above))).trans e1⟩
  ·obtain⟨o',e1⟩:=I.base.there b o e hx
   exact⟨o',(hs.2 b (ZV (ZT (Ye e) I.ok.above))).trans e1⟩
  ·by_cases g:j=i
   ·subst g
    rw[hi] at e1;cases e1;rw[List.getElem?_set_self O] at e2;cases e2;exact⟨u,r,.inl ⟨hk,by simp⟩⟩
   ·rw[List.getElem?_set_ne (Ne.symm g)] at e2
    obtain⟨C,G,q⟩:=hl j y B e1 e2 e3;refine⟨C,G,?_⟩;rcases q with⟨k,e⟩ | ⟨k,c,e,z⟩
    ·refine .inl ⟨k,?_⟩
     have:y≠x:=λe=>g (uV L e1 (e▸hi))
     simp[this,e]
    ·exact .inr ⟨k,c,e,z.sameBut hs (cne y c e)⟩
  ·obtain⟨l,z⟩:=I.cell y c e
   exact⟨l,z.sameBut hs (cne y c e)⟩
  ·obtain⟨e,n,ne,J,d⟩:=I.pin p hp
   exact⟨(hs.2 p.1 ne).trans e,n,ne,J,d⟩
 ·have K:X.fn x=true:=by
   rcases hf with z | z
   ·exact z
   ·rw[z] at hk;cases hk
  obtain⟨c,hc⟩:=I.ok.has x (.inl hk);obtain⟨l,z⟩:=I.cell x c hc;refine wpAny_storeName_cell I.ok.kind hk hc z (λh' R hs=>?_);obtain⟨oc,S,RZ⟩:=id z;refine h { s with heap:=h' } ⟨I.ok,I.os,I.bare,⟨λb o e n hb hx=>?_,λb o e n hb hx=>?_,I.base.free,λb o e hx=>?_,I.base.tups,I.base.frzs,I.base.tbls⟩,⟨m,hn.sameBut hs (Ne.symm (cne x c hc)),λj y B e1 e2 e3=>?_⟩,λy c' e=>?_,I.free,I.freeC,λp hp=>?_,f ⟨oc,S,I.freeC x c hc⟩ hs,by simpa using I.len⟩ ⟨c,hs,.inr hc⟩
  ·exact(hs.2 b (ZV (ZT (Ye e) (I.ok.cab x c K hc)))).trans (I.base.keep b o e n hb hx)
  ·obtain⟨sl,e1⟩:=I.base.slot b o e n hb hx
   exact⟨sl,(hs.2 b (ZV (ZT (Ye e) (I.ok.cab x c K hc)))).trans e1⟩
  ·obtain⟨o',e1⟩:=I.base.there b o e hx
   exact⟨o',(hs.2 b (ZV (ZT (Ye e) (I.ok.cab x c K hc)))).trans e1⟩
  ·by_cases g:j=i
   ·subst g
    rw[hi] at e1;cases e1;rw[List.getElem?_set_self O] at e2;cases e2;exact⟨u,r,.inr ⟨.inl hk,c,hc,R⟩⟩
   ·rw[List.getElem?_set_ne (Ne.symm g)] at e2
    obtain⟨C,G,q⟩:=hl j y B e1 e2 e3;refine⟨C,G,?_⟩;rcases q with q | ⟨k,c',e,z'⟩
    ·exact .inl q
    ·refine .inr ⟨k,c',e,z'.sameBut hs ?_⟩
     rintro rfl;exact g (uV L e1 (I.ok.inj _ _ _ e hc▸hi))
  ·by_cases T:c'=c
   ·subst T;exact⟨_,R⟩
   ·obtain⟨w2,z2⟩:=I.cell y c' e
    exact⟨w2,z2.sameBut hs T⟩
  ·obtain⟨e,n,ne,J,d⟩:=I.pin p hp
   refine⟨(hs.2 p.1 ?_).trans e,n,ne,J,d⟩;intro q;rw[q,S] at e;have q':oc=p.2:=Yi e;exact d l (by rw[←q'];exact RZ)
theorem uW{M:Model}{A:Around}{E:Zb}{i:Nat}{x:Str}{v:V}{u:Value}{Q:Zo}(I:ad X pins σ H s)(b:X.N.Nodup)(hi:X.N[i]?=some x)(hx:Loc X.env.scope x)(r:RelV v u)
  (h:∀a,ad X pins (σ.set i (some v)) H a->Q () a) (hf:X.fn x=true\/X.env.scope.names.lookup x=some .local:=by first | exact .inl rfl | exact .inr rfl | assumption):wpAny M A (storeName X.env x u) Q E s:=
 tI I b hi hx r (λa c _=>h a c) hf
theorem ad.call'{a:Shared}{ch:Zh}(I:ad X pins σ H s)(f:a.os=s.os)(u:Un (lE X.stack) ch H H' s.heap a.heap)(hok:cm X.prog X.w H' a.heap)(hg:AllBare a.gens)
  (g:∀b∈ch,(b∈X.ex\/X.s₀.heap.objs.size<=b)/\b≠X.env.locals/\(∀x c,X.env.cells.lookup x=some c->c≠b)/\∀p∈X.pn++pins,p.1≠b):ad X pins σ H' a:=by
 obtain⟨h',g',d',t',o'⟩:=a;have e:o'=s.os:=f;subst e;exact I.call (g':=g') (t':=t') (d':=d') u hok hg g
end
abbrev XK:=Value->Option Addr->Hp->Prop
abbrev St:=List (Option V)
abbrev VK:=V->Hp->Prop
abbrev TE:=St->Hp->VK->Prop
abbrev TT:=St->Hp->(Bool->Hp->Prop)->Prop
abbrev TA:=St->Hp->(List V->Hp->Prop)->Prop
structure Ends where
 nx:St->Hp->Prop
 rt:VK
 bk:St->Hp->Prop:=λ_ _=>False
 ct:St->Hp->Prop:=λ_ _=>False
abbrev TS:=Ends->St->Hp->Prop
def EP(X:Cx)(pins:Zc)(σ:St)(Q:VK)(u:Value)(a:Shared):Prop:=∃v H',ad X pins σ H' a/\RelV v u/\Q v H'
def TP(X:Cx)(pins:Zc)(σ:St)(Q:Bool->Hp->Prop)(b:Bool)(a:Shared):Prop:=∃H',ad X pins σ H' a/\Q b H'
def AP(X:Cx)(pins:Zc)(σ:St)(Q:List V->Hp->Prop)(us:Zd)(a:Shared):Prop:=∃vs H',ad X pins σ H' a/\ak vs us/\Q vs H'
def SP(X:Cx)(pins:Zc)(D:Ends)(f:Flow)(b:Shared):Prop:=
 match f with
 |.next=>∃a H',ad X pins a H' b/\D.nx a H'
 |.brk=>∃a H',ad X pins a H' b/\D.bk a H'
 |.cont=>∃a H',ad X pins a H' b/\D.ct a H'
 |.ret u=>∃v a H',ad X pins a H' b/\RelV v u/\D.rt v H'
def PE(X:Cx)(e:Expr)(t:TE):Prop:=
 ∀(pins:Zc) (s:Shared) (σ:St) (H:Hp) (Q:VK),ad X pins σ H s->t σ H Q->wpAny 'b' X.A (eval e X.env) (EP X pins σ Q) X.xe s
def PT(X:Cx)(e:Expr)(t:TT):Prop:=
 ∀(pins:Zc) (s:Shared) (σ:St) (H:Hp) (Q:Bool->Hp->Prop),ad X pins σ H s->t σ H Q->wpAny 'b' X.A (isTrue e X.env (eval e X.env)) (TP X pins σ Q) X.xe s
def PW(X:Cx)(e:Expr)(t:TT):Prop:=
 ∀(a:Sem Value) (pins:Zc) (s:Shared) (σ:St) (H:Hp) (Q:Bool->Hp->Prop),ad X pins σ H s->t σ H Q->wpAny 'b' X.A (isTrue e X.env a) (TP X pins σ Q) X.xe s
def PA(X:Cx)(es:Zg)(t:TA):Prop:=
 ∀(a:Pos) (pins:Zc) (s:Shared) (σ:St) (H:Hp) (Q:List V->Hp->Prop),ad X pins σ H s->t σ H Q->wpAny 'b' X.A (spliced (backTo a (starEach es X.env))) (AP X pins σ Q) X.xe s
def PS(X:Cx)(st:Stmt)(t:TS):Prop:=
 ∀(pins:Zc) (s:Shared) (σ:St) (H:Hp) (D:Ends),ad X pins σ H s->t D σ H->wpAny 'b' X.A (exec st X.env) (SP X pins D) X.xe s
def kl(X:Cx)(st:Zt)(t:TS):Prop:=
 ∀(pins:Zc) (s:Shared) (σ:St) (H:Hp) (D:Ends),ad X pins σ H s->t D σ H->wpAny 'b' X.A (execs st X.env) (SP X pins D) X.xe s
theorem aN{b:Type}{t:Sem b}{Q c:b->Shared->Prop}{M:Model}{A:Around}{E:Zb}{s:Shared}(h:wpAny M A t Q E s)(f:∀a s,Q a s->c a s):wpAny M A t c E s:=wpAny_mono h f λ_ _ x=>x
section
variable {X:Cx}
theorem bin{a b:Expr}{j l:TE}(ha:PE X a j)(hb:PE X b l){pins:Zc}{s:Shared}{σ:St}{H:Hp}{R:V->V->Hp->Prop}(I:ad X pins σ H s)(h:j σ H λx g=>l σ g λy c=>R x y c)
  {m:Type}{Q:m->Shared->Prop}{f:Value->Value->Sem m}
  (hf:∀v u s2 x y c,ad X pins σ c s2->RelV x v->RelV y u->R x y c->wpAny 'b' X.A (f v u) Q X.xe s2):
  wpAny 'b' X.A (eval a X.env) (λv n=>wpAny 'b' X.A (eval b X.env) (λu p=>wpAny 'b' X.A (f v u) Q X.xe p) X.xe n) X.xe s:=by
 refine aN (ha pins s σ H _ I h) λv s1 r=>?_
 obtain⟨x,g,t,z,B⟩:=r;refine aN (hb pins s1 σ g _ t B) λu s2 C=>?_
 obtain⟨y,c,G,J,K⟩:=C;exact hf v u s2 x y c G z J K
def KR(i:Nat):TE:=λσ H Q=>∃v,σ[i]?=some (some v)/\Q v H
def tC(v:V):TE:=λ_ H Q=>Q v H
theorem Hu{i:Nat}{x:Str}{a:Pos}(f:X.N[i]?=some x)(hv:uU X.env.scope x)(hd:(x==("__debug__" : Str))=false:=by decide)(g:(x==("__classdict__" : Str))=false:=by decide):PE X (.Name x a) (KR i):=by
 intro pins s σ H Q I h;obtain⟨v,e,h⟩:=h;obtain⟨m,hn,hl⟩:=I.loc;obtain⟨u,r,l⟩:=hl i x v f e hv;have fin:EP X pins σ Q u s:=⟨v,H,I,r,h⟩;rcases l with⟨hk,hm⟩ | ⟨hk,c,hc,b⟩
 ·exact wpAny_Name (wpAny_loadName_local I.ok.kind hk hn hm fin) hd
 ·rcases hk with hk | hk
  ·exact wpAny_Name (wpAny_loadName_cell I.ok.kind hk hc b fin) hd
  ·exact wpAny_Name (wpAny_loadName_free I.ok.kind hk hc b fin g) hd
theorem Hv{i j pos}:PE X (.Constant (.int i) j pos) (tC (.int i)):=λ_ _ _ H _ I h=>wpAny_Constant_int ⟨.int i,H,I.tok _,⟨_,rfl⟩,h⟩
theorem JZ{b j pos}:PE X (.Constant (.bool b) j pos) (tC (.bl b)):=λ_ _ _ H _ I h=>Constant_bool ⟨.bl b,H,I,rfl,h⟩
theorem Hw{x j pos}:PE X (.Constant (.str x) j pos) (tC (.str x)):=λ_ _ _ H _ I h=>Calls.Constant_str ⟨.str x,H,I.tok _,⟨_,rfl⟩,h⟩
def Gl(X:Cx)(x:Str):Prop:=X.env.kindOf x=some .globalImplicit
theorem sR{E:Zb}{pins:Zc}{s:Shared}{σ:St}{H:Hp}{x:Str}{u:Value}{a:Pos}{Q:Zb}(I:ad X pins σ H s)(hg:Gl X x)(hm:X.mg x=some u)(h:Q u s)
  (hd:(x==("__debug__" : Str))=false:=by decide):wpAny 'b' X.A (eval (.Name x a) X.env) Q E s:=
 Calls.Name_function_global I.ok.kind hg (Calls.loadGlobal_global (by rw[I.ok.glob];exact I.mod.glob.keeps I.bk) hm h) hd
theorem dh{E:Zb}{pins:Zc}{s:Shared}{σ:St}{H:Hp}{x:Str}{u:Value}{a:Pos}{Q:Zb}(I:ad X pins σ H s)(hg:Gl X x)(hm:X.mg x=none)(hv:bootBuiltins x=some u)(h:Q u s)
  (hn:x ≠ "__name__":=by decide) (hd:(x==("__debug__" : Str))=false:=by decide):wpAny 'b' X.A (eval (.Name x a) X.env) Q E s:=by
 obtain⟨mb,h1,b⟩:=I.mod.blt;exact Calls.Name_function_global I.ok.kind hg (Calls.loadGlobal_builtin (by rw[I.ok.glob];exact I.mod.glob.keeps I.bk) hm (by rw[I.ok.blt];exact h1.keeps I.bk) ((b x hn).trans hv) h) hd
theorem FO{x:Str}{v:V}{u:Value}{a:Pos}(hg:Gl X x)(hm:X.mg x=some u)(r:RelV v u)(hd:(x==("__debug__" : Str))=false:=by decide):PE X (.Name x a) (tC v):=
 λ_ _ _ H _ I h=>sR I hg hm ⟨v,H,I,r,h⟩ hd
theorem FP{x:Str}{v:V}{u:Value}{a:Pos}(hg:Gl X x)(hm:X.mg x=none)(hv:bootBuiltins x=some u)(r:RelV v u)(hn:x ≠ "__name__":=by decide)(hd:(x==("__debug__" : Str))=false:=by decide):PE X (.Name x a) (tC v):=
 λ_ _ _ H _ I h=>dh I hg hm hv ⟨v,H,I,r,h⟩ hn hd
variable {a b:Expr}{ta tb:TE}{pos:Pos}
variable {tA RC:TT}{rest:Zg}
def KS(t u:TT):TT:=λσ H Q=>t σ H λc f=>if c=true then u σ f Q else Q false f
def LB(t u:TT):TT:=λσ H Q=>t σ H λc f=>if c=true then Q true f else u σ f Q
def KU(t:TT):TT:=λσ H Q=>t σ H λc f=>Q (!c) f
theorem FQ(ha:PT X a tA):PW X (.BoolOp .And [a] pos) tA:=by
 intro f pins s σ H Q I h;refine isTrue_and (aN (ha pins s σ H Q I h) λc s1 e=>?_);cases c with
 |true=>exact isTrue_and_nil e
 |false=>exact e
theorem Hx(ha:PT X a tA):PW X (.BoolOp .Or [a] pos) tA:=by
 intro f pins s σ H Q I h;refine isTrue_or (aN (ha pins s σ H Q I h) λc s1 e=>?_);cases c with
 |false=>exact isTrue_or_nil e
 |true=>exact e
theorem Hy(ha:PT X a tA)(hb:PW X (.BoolOp .And (b::rest) pos) RC):PW X (.BoolOp .And (a::b::rest) pos) (KS tA RC):=by
 intro l pins s σ H Q I h;refine isTrue_and (aN (ha pins s σ H _ I h) λc s1 m=>?_);obtain⟨f,g,j⟩:=m;cases c with
 |true=>exact hb l pins s1 σ f Q g j
 |false=>exact⟨f,g,j⟩
theorem J0(ha:PT X a tA)(hb:PW X (.BoolOp .Or (b::rest) pos) RC):PW X (.BoolOp .Or (a::b::rest) pos) (LB tA RC):=by
 intro l pins s σ H Q I h;refine isTrue_or (aN (ha pins s σ H _ I h) λc s1 m=>?_);obtain⟨f,g,j⟩:=m;cases c with
 |true=>exact⟨f,g,j⟩
 |false=>exact hb l pins s1 σ f Q g j
theorem Hz(ha:PT X a tA):PT X (.UnaryOp .Not a pos) (KU tA):=by
 intro pins s σ H Q I h;exact isTrue_not (ha pins s σ H (λc f=>Q (!c) f) I h)
def J1(ta tb:TE):TE:=λσ H Q=>ta σ H λx f=>∃c,x=.bl c/\if c=true then tb σ f Q else Q (.bl false) f
def KW(ta tb:TE):TE:=λσ H Q=>ta σ H λx f=>∃c,x=.bl c/\if c=true then Q (.bl true) f else tb σ f Q
def J2(ta:TE):TE:=λσ H Q=>ta σ H λx f=>∃c,x=.bl c/\Q (.bl (!c)) f
theorem HA{op}{t:TE}(h:PE X a t):PE X (.BoolOp op [a] pos) t:=λpins s σ H Q I hw=>BoolOp_one (h pins s σ H Q I hw)
theorem HB(ha:PE X a ta)(hb:PE X (.BoolOp .And (b::rest) pos) tb):PE X (.BoolOp .And (a::b::rest) pos) (J1 ta tb):=by
 intro pins s σ H Q I h;refine BoolOp_and (aN (ha pins s σ H _ I h) λv s1 l=>?_);obtain⟨x,g,j,m,f⟩:=l;obtain⟨c,rfl,f⟩:=f;cases m;refine wpAny_truthy_bool ?_;cases c with
 |true=>exact hb pins s1 σ g Q j f
 |false=>exact⟨.bl false,g,j,rfl,f⟩
theorem J3(ha:PE X a ta)(hb:PE X (.BoolOp .Or (b::rest) pos) tb):PE X (.BoolOp .Or (a::b::rest) pos) (KW ta tb):=by
 intro pins s σ H Q I h;refine BoolOp_or (aN (ha pins s σ H _ I h) λv s1 l=>?_);obtain⟨x,g,j,m,f⟩:=l;obtain⟨c,rfl,f⟩:=f;cases m;refine wpAny_truthy_bool ?_;cases c with
 |false=>exact hb pins s1 σ g Q j f
 |true=>exact⟨.bl true,g,j,rfl,f⟩
theorem HC(ha:PE X a ta):PE X (.UnaryOp .Not a pos) (J2 ta):=by
 intro pins s σ H Q I h;refine UnaryOp_ (aN (ha pins s σ H _ I h) λv s1 g=>?_);obtain⟨x,j,l,m,f⟩:=g;obtain⟨c,rfl,f⟩:=f;cases m;exact not_of (wpAny_truthy_bool ⟨.bl (!c),j,l,rfl,f⟩)
def LC(t:TT)(ta tb:TE):TE:=λσ H Q=>t σ H λc f=>if c=true then ta σ f Q else tb σ f Q
theorem CB{c:Expr}(hc:PT X c tA)(ha:PE X a ta)(hb:PE X b tb):PE X (.IfExp c a b pos) (LC tA ta tb):=by
 intro pins s σ H Q I h;refine wpAny_IfExp (aN (hc pins s σ H _ I h) λd s1 l=>?_);obtain⟨f,g,j⟩:=l;cases d with
 |true=>exact ha pins s1 σ f Q g j
 |false=>exact hb pins s1 σ f Q g j
end
def bx(K:Za)(H:Hp)(a:Addr)(xs:List V):Prop:=
 Rd H a (.lst xs) \/
  ∃(o:Obj) (c_:Zl) (n:Nat),K.lookup a=some o/\o.cls=.type "list"/\o.dict=none/\o.data=.seq c_ n/\c_.size<=sizeLine/\ak xs c_.toList
def bn(K:Za)(H:Hp)(a:Addr)(xs:List V):Prop:=
 Rd H a (.tup xs) \/
  ∃(o:Obj) (c_:Zl) (n:Nat),K.lookup a=some o/\o.cls=.type "tuple"/\o.data=.seq c_ n/\c_.size<=sizeLine/\ak xs c_.toList
def KY:Value->Option V
 |.none=>some .non
 |.bool b=>some (.bl b)
 |.int i _=>some (.int i)
 |.str x _=>some (.str x)
 |.bytes b _=>some (.byt b)
 |.float b _=>some (.flt b)
 |.ref a=>some (.ref a)
 |.type n=>some (.ty n)
 |_=>none
theorem RelV.abs{x:V}{u:Value}(r:RelV x u):KY u=some x:=by
 cases x with
 |non=>cases r;rfl
 |bl _=>cases r;rfl
 |int _=>obtain⟨t,rfl⟩:=r;rfl
 |str _=>obtain⟨t,rfl⟩:=r;rfl
 |byt _=>obtain⟨t,rfl⟩:=r;rfl
 |flt _=>obtain⟨t,rfl⟩:=r;rfl
 |ref _=>cases r;rfl
 |ty _=>cases r;rfl
theorem RelV.inj{x y:V}{u:Value}(r:RelV x u)(q:RelV y u):x=y:=Yi (r.abs.symm.trans q.abs)
theorem ak.inj{xs ys:List V}{us:Zd}(h:ak xs us)(h':ak ys us):xs=ys:=by
 induction h generalizing ys with
 |nil=>cases h';rfl
 |cons r t a=>cases h' with
  |cons b t'=>rw[r.inj b,a t']
section
variable {X:Cx}{pins:Zc}{σ:St}{H:Hp}{s:Shared}{a:Addr}{xs ys:List V}
theorem bx.of{K:Za}(h:H a=some (.lst xs)):bx K H a xs:=.inl (.inl h)
theorem bn.of{K:Za}(h:H a=some (.tup xs)):bn K H a xs:=.inl (.inl h)
theorem ad.list(I:ad X pins σ H s)(h:bx X.K H a xs):∃c_:List Value,ak xs c_/\PlainL s.heap a c_.toArray/\xs.length<=sizeLine:=by
 rcases h with h | ⟨o,c_,n,hk,hc,hd,hs,hz,r⟩
 ·obtain⟨z,c_,n,r,e⟩:=h.ok I.hok
  exact⟨c_,r,⟨_,n,e,rfl,rfl,rfl⟩,z⟩
 ·refine⟨c_.toList,r,⟨o,n,I.kIn a o hk,hc,hd,by simpa using hs⟩,?_⟩
  have e:=r.length;simp only[YE] at e;omega
theorem ad.tuple(I:ad X pins σ H s)(h:bn X.K H a xs):∃c_:List Value,ak xs c_/\IsTup s.heap a c_.toArray/\xs.length<=sizeLine:=by
 rcases h with h | ⟨o,c_,n,hk,hc,hs,hz,r⟩
 ·obtain⟨z,c_,r,p⟩:=h.ok I.hok
  exact⟨c_,r,p,z⟩
 ·refine⟨c_.toList,r,⟨o,I.kIn a o hk,hc,n,by simpa using hs⟩,?_⟩
  have e:=r.length;simp only[YE] at e;omega
theorem ad.list_inj(I:ad X pins σ H s)(h:bx X.K H a xs)(h':bx X.K H a ys):xs=ys:=by
 obtain⟨c_,r,⟨o,n,e,_,_,d⟩,_⟩:=I.list h;obtain⟨n_,b,⟨o',n',e',_,_,d'⟩,_⟩:=I.list h';rw[e] at e';cases e';rw[d] at d';injection d' with d1 _
 have:c_=n_:=by simpa using congrArg Array.toList d1
 subst this;exact r.inj b
theorem ad.tuple_inj(I:ad X pins σ H s)(h:bn X.K H a xs)(h':bn X.K H a ys):xs=ys:=by
 obtain⟨c_,r,⟨o,e,_,n,d⟩,_⟩:=I.tuple h;obtain⟨n_,b,⟨o',e',_,n',d'⟩,_⟩:=I.tuple h';rw[e] at e';cases e';rw[d] at d';injection d' with d1 _
 have:c_=n_:=by simpa using congrArg Array.toList d1
 subst this;exact r.inj b
end
abbrev Cx.wish(X:Cx)(E:Zb):Cx:={ X with xe:=E }
abbrev Cx.nox(X:Cx):Cx:=X.wish λ_ _=>False
theorem Cx.Ok.wish{X:Cx}(ok:X.Ok)(E:Zb):(X.wish E).Ok:=
 ⟨ok.mod,ok.kind,ok.glob,ok.blt,ok.above,ok.inj,ok.has,ok.cab,ok.hd,ok.frames,ok.stk,ok.exf,ok.bs,ok.bsz,ok.noex,ok.exfs,ok.funs,ok.frf⟩
theorem Cx.Ok.unwish{X:Cx}{E:Zb}(ok:(X.wish E).Ok):X.Ok:=
 ⟨ok.mod,ok.kind,ok.glob,ok.blt,ok.above,ok.inj,ok.has,ok.cab,ok.hd,ok.frames,ok.stk,ok.exf,ok.bs,ok.bsz,ok.noex,ok.exfs,ok.funs,ok.frf⟩
section
variable {X:Cx}{pins:Zc}{σ:St}{H:Hp}{s:Shared}{E:Zb}
theorem ad.wish(I:ad X pins σ H s)(E:Zb):ad (X.wish E) pins σ H s:=⟨I.ok.wish E,I.os,I.bare,I.base,I.loc,I.cell,I.free,I.freeC,I.pin,I.hok,I.len⟩
theorem ad.unwish(I:ad (X.wish E) pins σ H s):ad X pins σ H s:=⟨I.ok.unwish,I.os,I.bare,I.base,I.loc,I.cell,I.free,I.freeC,I.pin,I.hok,I.len⟩
theorem SP.unwish{D:Ends}{f:Flow}{b:Shared}(h:SP (X.wish E) pins D f b):SP X pins D f b:=by
 cases f with
 |next=>obtain⟨a,H',I,q⟩:=h;exact⟨a,H',I.unwish,q⟩
 |brk=>obtain⟨a,H',I,q⟩:=h;exact⟨a,H',I.unwish,q⟩
 |cont=>obtain⟨a,H',I,q⟩:=h;exact⟨a,H',I.unwish,q⟩
 |ret u=>obtain⟨v,a,H',I,r,q⟩:=h;exact⟨v,a,H',I.unwish,r,q⟩
theorem kl.nox{st:Zt}{t:TS}(h:kl X.nox st t):kl X st t:=λpins s σ H D I hw=>
 wpAny_mono (h pins s σ H D (I.wish _) hw) (λ_ _ q=>q.unwish) λ_ _ z=>Yh z
end
section
variable {X:Cx}{st:Stmt}{rest:Zt}{t u:TS}{e:Expr}{te:TE}{pos:Pos}
def E7:TS:=λD σ H=>D.nx σ H
def KZ(t u:TS):TS:=λD σ H=>t { D with nx:=u D } σ H
theorem FR:kl X [] E7:=λ_ _ σ H _ I h=>wpAny_execs_nil ⟨σ,H,I,h⟩
theorem CC(h1:PS X st t)(a:kl X rest u):kl X (st::rest) (KZ t u):=by
 intro pins s σ H D I h;refine wpAny_execs_cons (aN (h1 pins s σ H { D with nx:=u D } I h) λf s1 q=>?_);cases f with
 |next=>
  obtain⟨b,H',c,q⟩:=q;exact a pins s1 b H' D c q
 |ret v=>exact q
 |brk=>exact q
 |cont=>exact q
theorem FS:PS X (.Pass pos) E7:=λ_ _ σ H _ I h=>wpAny_Pass ⟨σ,H,I,h⟩
theorem ad.quiet{pins:Zc}{σ:St}{H:Hp}{s:Shared}(I:ad X pins σ H s):interactive X.env=false:=by simp[interactive,I.ok.kind]
def J4(te:TE):TS:=λD σ H=>te σ H λ_ a=>D.nx σ a
theorem FT(a:PE X e te)(hs:swapsWith e none pos.line X.env=pure false:=by rfl):PS X (.Expr e pos) (J4 te):=by
 intro pins s σ H D I h;refine wpAny_Expr_any (aN (a pins s σ H _ I h) λv s1 b=>?_) I.quiet hs;obtain⟨x,c,f,j,g⟩:=b;exact⟨σ,c,f,g⟩
def K0(te:TE):TS:=λD σ H=>te σ H D.rt
theorem HD(a:PE X e te):PS X (.Return (some e) pos) (K0 te):=by
 intro pins s σ H D I h;refine wpAny_Return_some (aN (a pins s σ H _ I h) λv s1 b=>?_);obtain⟨x,c,f,g,j⟩:=b;exact⟨x,σ,c,f,g,j⟩
def K1(c:TT)(t u:TS):TS:=λD σ H=>c σ H λb a=>if b=true then t D σ a else u D σ a
theorem J5{c:Expr}{a b:Zt}{tc:TT}(hc:PT X c tc)(ha:kl X a t)(hb:kl X b u):PS X (.If c a b pos) (K1 tc t u):=by
 intro pins s σ H D I h;refine wpAny_If (aN (hc pins s σ H _ I h) λd s1 l=>?_);obtain⟨f,g,j⟩:=l;cases d with
 |true=>exact ha pins s1 σ f D g j
 |false=>exact hb pins s1 σ f D g j
end
abbrev TG:=V->St->Hp->(St->Hp->Prop)->Prop
abbrev pJ:=List V->St->Hp->(St->Hp->Prop)->Prop
def PG(X:Cx)(a:Expr)(t:TG):Prop:=
 ∀(pins:Zc) (s:Shared) (σ:St) (H:Hp) (v:V) (u:Value) (Q:St->Hp->Prop),ad X pins σ H s->RelV v u->t v σ H Q ->
  wpAny 'b' X.A (assign a X.env u) (λ_ c=>∃b H',ad X pins b H' c/\Q b H') X.xe s
def xE(X:Cx)(ts:Zg)(t:pJ):Prop:=
 ∀(pins:Zc) (s:Shared) (σ:St) (H:Hp) (vs:List V) (us:Zd) (Q:St->Hp->Prop),ad X pins σ H s->ak vs us->t vs σ H Q ->
  wpAny 'b' X.A (assignInOrder ((assignEach ts X.env).map (·.2)) us) (λ_ b=>∃a H',ad X pins a H' b/\Q a H') X.xe s
abbrev yG:=V->V->V->Hp->(Hp->Prop)->Prop
def CD(X:Cx)(t:yG):Prop:=
 ∀(pins:Zc) (s:Shared) (σ:St) (H:Hp) (o i v:V) (a b u:Value) (Q:Hp->Prop),ad X pins σ H s->RelV o a->RelV i b->RelV v u->t o i v H Q ->
  wpAny 'b' X.A (setItem a b u) (λ_ c=>∃H',ad X pins σ H' c/\Q H') X.xe s
section
variable {X:Cx}{pos:Pos}
def uI(i:Nat):TG:=λv σ H Q=>Q (σ.set i (some v)) H
theorem xF{i:Nat}{x:Str}(a:X.N.Nodup)(hi:X.N[i]?=some x)(hx:Loc X.env.scope x)(hf:X.fn x=true\/X.env.scope.names.lookup x=some .local:=by first | exact .inl rfl | exact .inr rfl | assumption):PG X (.Name x pos) (uI i):=by
 intro pins s σ H v u Q I r h;exact wpAny_assign_Name (uW I a hi hx r (λc b=>⟨_,H,b,h⟩) hf)
def HE:pJ:=λvs σ H Q=>vs=[]/\Q σ H
def E8(t:TG)(u:pJ):pJ:=λvs σ H Q=>∃v r,vs=v::r/\t v σ H λa H'=>u r a H' Q
theorem FU:xE X [] HE:=by
 intro pins s σ H vs us Q I r h;obtain⟨e,h⟩:=h;subst e;cases r;exact assignInOrder_nil ⟨σ,H,I,h⟩
theorem CF{e:Expr}{es:Zg}{t:TG}{u:pJ}(h1:PG X e t)(a:xE X es u)
  (hs:(assignEach (e::es) X.env).map (·.2)=assign e X.env::(assignEach es X.env).map (·.2):=by rfl):xE X (e::es) (E8 t u):=by
 intro pins s σ H vs us Q I r h;obtain⟨v,m,e1,h⟩:=h;subst e1;cases r with
 |cons r b=>
  rw[hs];refine assignInOrder_cons (aN (h1 pins s σ H _ _ _ I r h) λ_ s1 c=>?_);obtain⟨f,g,j,l⟩:=c;exact a pins s1 f g _ _ Q j b l
def K3(K:Za)(n:Nat)(t:pJ):TG:=λv σ H Q=>∃a xs,v=.ref a/\bn K H a xs/\xs.length=n/\t xs σ H Q
theorem HF{es:Zg}{k:Nat}{t:pJ}{n:Nat}(hc:X.calm=true)(h:xE X es t)
  (hn:(assignEach es X.env).length=n:=by rfl) (f:(assignEach es X.env).findIdx? (·.1)=none:=by rfl):PG X (.Tuple es k pos) (K3 X.K n t):=by
 intro pins s σ H v u Q I r hw;obtain⟨a,xs,e1,hq,hl,hw⟩:=hw;subst e1;cases r;obtain⟨c_,c,ht,hz⟩:=I.tuple hq;refine assign_Tuple_tuple (I.ok.hd hc) ht (by simp[hn,←hl,c.length]) f λh' hx=>?_
 have g:ad X pins σ H { s with heap:=h' }:=I.kept (t':=s.toks) λb o e=>hx b o (ZV (Ye e)) e
 exact h pins _ σ H xs _ Q g (by simpa using c) hw
def K4(a b:TE)(t:yG):TG:=λv σ H Q=>a σ H λo c=>b σ c λi f=>t o i v f λg=>Q σ g
theorem Au {o i:Expr} {c f:TE} {t:yG} (g:PE X o c) (hi:PE X i f) (hs:CD X t)
    (ha:∀ v,assign (.Subscript o i pos) X.env v = (do
      let a ← holding [v] (eval o X.env)
      let b ← holding [v,a] (eval i X.env)
      standAt pos
      holding [v,a,b] (setItem a b v)
      release [v,a,b] []):=by intro _; rfl):PG X (.Subscript o i pos) (K4 c f t):=by
  intro pins s σ H v u Q I r h
  rw [ha]
  refine Yb (Yj (aN (g pins s σ H _ I h) λa s1 j=>?_))
  obtain ⟨x,l,m,n,p⟩:=j
  refine Yb (Yj (aN (hi pins s1 σ l _ m p) λb s2 z=>?_))
  obtain ⟨y,B,C,G,J⟩:=z
  refine Yb (Yk (Yb (Yj (aN (hs pins s2 σ B x y v a b u _ C n G r J) λ_ R K=>?_))))
  obtain ⟨L,O,P⟩:=K
  exact wpAny_release ⟨σ,L,O,P⟩
def HG(te:TE)(g:TG):TS:=λD σ H=>te σ H λx a=>g x σ a D.nx
theorem Av{tg e:Expr}{te:TE}{g:TG}(a:PE X e te)(hg:PG X tg g)(hs:swapsWithSole [tg] e pos.line X.env=pure false:=by rfl)(hw:swappedStores [tg] e X.env=pure none:=by rfl)
  (h1:(assignEach [tg] X.env).map (·.2)=[assign tg X.env]:=by rfl):PS X (.Assign [tg] e pos) (HG te g):=by
 intro pins s σ H D I h;refine wpAny_Assign_stores (aN (a pins s σ H _ I h) λv s1 b=>?_) hs hw;obtain⟨x,c,f,j,l⟩:=b;rw[h1];exact aN (hg pins s1 σ c x v _ f j l) λ_ s2 q=>q
theorem HH{i:Nat}{x:Str}{e:Expr}{te:TE}{a:Pos}(b:X.N.Nodup)(hi:X.N[i]?=some x)(hx:Loc X.env.scope x)(c:PE X e te)(hs:swapsWith e (some (.Name x a)) pos.line X.env=pure false:=by rfl)(hf:X.fn x=true\/X.env.scope.names.lookup x=some .local:=by first | exact .inl rfl | exact .inr rfl | assumption):
  PS X (.Assign [.Name x a] e pos) (HG te (uI i)):=by
 intro pins s σ H D I h;refine wpAny_Assign_Name (aN (c pins s σ H _ I h) λv s1 f=>?_) hs;obtain⟨y,g,j,l,m⟩:=f;exact uW j b hi hx l (λs2 n=>⟨_,g,n,m⟩) hf
end
section
variable {X:Cx}{pos:Pos}
def HI(c:TT)(j:TS):TS:=λD σ H=>∃W:Nat->St->Hp->Prop,(∃m,W m σ H)/\∀m σ H,W m σ H ->
 c σ H λb a=>if b=true then ∃N:St->Hp->Prop,(∀f H',N f H'->∃g,g<m/\W g f H')/\j { D with nx:=N,ct:=N,bk:=D.nx } σ a else D.nx σ a
theorem CG{c:Expr}{body:Zt}{tc:TT}{z:TS}(hp:PassesOwn 'b' X.A X.env X.xe)(hc:PT X c tc)(hb:kl X body z):PS X (.While c body [] pos) (HI tc z):=by
 intro pins s σ H D I h;obtain⟨W,⟨L,O⟩,a⟩:=h;refine wpAny_While (codeAny_whileLoop (λn P=>∃B H',ad X pins B H' P/\W n B H') ?_ L ⟨σ,H,I,O⟩);rintro n s1 ⟨l,C,R,S⟩;refine wpAny_passesOwn hp (aN (hc pins s1 l C _ R (a n l C S)) λb s2 T=>?_);obtain⟨G,J,m⟩:=T;cases b with
 |true=>
  obtain⟨N,K,m⟩:=m;rw[if_pos rfl];refine wpAny_passesOwn hp (aN (hb pins s2 l G _ J m) λf U p=>?_);cases f with
  |next=>
   obtain⟨g,j,r,t⟩:=p;obtain⟨u,hm,y⟩:=K g j t;exact⟨u,hm,g,j,r,y⟩
  |cont=>
   obtain⟨g,j,r,t⟩:=p;obtain⟨u,hm,y⟩:=K g j t;exact⟨u,hm,g,j,r,y⟩
  |brk=>exact p
  |ret v=>exact p
 |false=>
  rw[if_neg YF];exact wpAny_execs_nil ⟨l,G,J,m⟩
end
structure It where
 go:Nat->Hp->Prop
 yld:Nat->Hp->V->Hp->Prop
 stop:Nat->Hp->Prop
def l0(X:Cx)(pins:Zc)(H:Hp)(b:Addr):Prop:=
 H b=none/\b≠X.env.locals/\b∉X.fs/\(b∈X.ex\/X.s₀.heap.objs.size<=b)/\(∀x c,X.env.cells.lookup x=some c->c≠b)/\∀p∈X.pn++pins,p.1≠b
theorem ad.fpOk{X:Cx}{pins:Zc}{σ:St}{H H':Hp}{s:Shared}{b:Addr}(I:ad X pins σ H s)(hb:s.heap.objs.size<=b)(hn:H' b=none):l0 X pins H' b:=by
 refine⟨hn,Nat.ne_of_gt (ZT I.lt hb),I.nofs hb,.inr (ZY I.sz hb),λx c e z=>?_,λp hp z=>?_⟩
 ·obtain⟨v,q⟩:=I.cell x c e
  exact absurd (ZT q.lt (by rw[z];exact hb)) (ZU _)
 ·exact absurd (ZT (Ye (I.pin p hp).1) (by rw[z];exact hb)) (ZU _)
structure Turn (P:Zv) (w:World) (K:Za) (tg:Expr) (J:It) (fp:Zh) (it:Addr) (tn:Nat->Heap->Prop):Prop where
 mem:it∈fp
 obj:∀i h,tn i h->∀b∈fp,∃o,h.get? b=some o/\∀v,o.data≠.cell v
 keep:∀i h h',tn i h->(∀b∈fp,∀o,h.get? b=some o->h'.get? b=some o)->tn i h'
 item:∀(X:Cx),X.prog=P->X.w=w->X.K=K->X.calm=true->∀(i:Nat) (pins:Zc) (s:Shared) (σ:St) (H:Hp) (E:Zb),ad X pins σ H s->(∀b∈fp,l0 X pins H b)->tn i s.heap->J.go i H ->
  wpAny (model P w) X.A (pyNext (.ref it)) (λr s1=>∃u,r=some u /\
   wpAny (model P w) X.A (letOwnedTupleGo tg (.ref it) u) (λ_ s2=>∃x H',ad X pins σ H' s2/\RelV x u/\J.yld i H x H'/\tn (i+1) s2.heap/\∀b∈fp,H' b=none) E s1) E s
 done:∀(X:Cx),X.prog=P->X.w=w->X.K=K->X.calm=true->∀(i:Nat) (pins:Zc) (s:Shared) (σ:St) (H:Hp) (E:Zb),ad X pins σ H s->(∀b∈fp,l0 X pins H b)->tn i s.heap->J.stop i H ->
  wpAny (model P w) X.A (pyNext (.ref it)) (λr s1=>r=none/\ad X pins σ H s1) E s
 self:∀(A:Around) (i:Nat) (s:Shared) (Q:Zb) (E:Zb),tn i s.heap->Q (.ref it) s->wpAny (model P w) A (pyIter (.ref it)) Q E s
abbrev TI:=St->Hp->(It->Hp->Prop)->Prop
def qQ(X:Cx)(pins:Zc)(σ:St)(tg:Expr)(R:It->Hp->Prop)(a:Value)(s2:Shared):Prop:=
 ∃(it:Addr) (fp:Zh) (tn:Nat->Heap->Prop) (J:It) (H':Hp),a=.ref it/\ad X pins σ H' s2/\Turn X.prog X.w X.K tg J fp it tn/\tn 0 s2.heap/\(∀b∈fp,l0 X pins H' b)/\R J H'
def PI(X:Cx)(tg iter:Expr)(a:TI):Prop:=
 ∀(pins:Zc) (s:Shared) (σ:St) (H:Hp) (R:It->Hp->Prop),ad X pins σ H s->a σ H R ->
  wpAny 'b' X.A (eval iter X.env) (λv s1=>wpAny 'b' X.A (pyIter v) (qQ X pins σ tg R) X.xe s1) X.xe s
theorem oM {M:Model} {A:Around} {E:Zb} {s:Shared} {tg:Expr} {it:Addr} {u:Value} {o:Obj} {n:String} {vs:Zl} {Q:Zo} (b:s.heap.get? it = some o) (hc:o.cls = .type n) (hd:o.data = .fields vs)
    (hn:["enumerate","zip","dict_itemiterator","dict_reverseitemiterator","odict_iterator","itertools.zip_longest","itertools.pairwise"].contains n = false) (a:Q () s):wpAny M A (letOwnedTupleGo tg (.ref it) u) Q E s:=by
  unfold letOwnedTupleGo
  cases tg <;> first
    | exact Yc a
    | (cases u <;> first
        | exact Yc a
        | (refine Yb (wpAny_load b ?_)
           rw [hc,hd]
           show wpAny M A (if (["enumerate","zip","dict_itemiterator","dict_reverseitemiterator","odict_iterator","itertools.zip_longest","itertools.pairwise"].contains n && vs[0]? == some (rawInt _)) = true then _ else _) Q E s
           rw [if_neg (by intro h; rw [hn,Bool.false_and] at h; cases h)]
           exact Yc a))
def HJ(K:Za)(a:Addr):It:=
 ⟨λi H=>∃xs x,bx K H a xs/\xs[i]?=some x,λi H x H'=>H'=H/\∀xs,bx K H a xs->xs[i]?=some x,λi H=>∃xs,bx K H a xs/\xs.length<=i⟩
def HK(K:Za)(a:Addr):It:=
 ⟨λi H=>∃xs x,bn K H a xs/\xs[i]?=some x,λi H x H'=>H'=H/\∀xs,bn K H a xs->xs[i]?=some x,λi H=>∃xs,bn K H a xs/\xs.length<=i⟩
def E9(lo:Int)(n:Nat):It:=⟨λi _=>i<n,λi H x H'=>H'=H/\x=.int (lo+i),λi _=>n<=i⟩
theorem Aw{P:Zv}{w:World}{K:Za}{tg:Expr}(a it:Addr):Turn P w K tg (HJ K a) [it] it (λi h=>h.IsListIter it a i) where
 mem:=by simp
 obj:=λi h st b hb=>by
  have e:b=it:=by simpa using hb
  subst e;obtain⟨o,e,c,d⟩:=st;exact⟨o,e,λv z=>by rw[d] at z;cases z⟩
 keep:=λi h h' st k=>st.at λo e=>k it (by simp) o e
 item:=by
  rw[0];obtain⟨xs,x,hq,hx⟩:=hg;obtain⟨c_,f,p,hz⟩:=I.list hq;obtain⟨u,hu,n⟩:=f.get hx;obtain⟨f0,g,r,j,l,m⟩:=hf it (by simp);refine wpAny_pyNext_list_item st p.isList (x:=u) (by simpa using hu) λh' e_ t=>?_
  have y:ad X pins σ H { s with heap:=h' }:=I.turned (t':=s.toks) (λb o hb e=>(t.2 b hb).trans e) f0 g j l m;obtain⟨o,e,c,d⟩:=id e_;exact⟨u,rfl,oM (s:={ s with heap:=h' }) e c d 'c' ⟨x,H,y,n,⟨rfl,λys hy=>by rw[I.list_inj hy hq];exact hx⟩,e_,λb hb=>(hf b hb).1⟩⟩
 done:=by
  rw[0];obtain⟨xs,hq,hx⟩:=hg;obtain⟨c_,f,p,hz⟩:=I.list hq;obtain⟨f0,g,r,j,l,m⟩:=hf it (by simp);have hl:=f.length;exact wpAny_pyNext_list_end (I.ok.hd hc) st p.isList (by simp;omega) λh' B=>⟨rfl,I.turned (t':=s.toks) (λb o hb e=>B b o hb e) f0 g j l m⟩
 self:=λ_ _ _ _ _ st h=>wpAny_pyIter_listiter st h
theorem yH{P:Zv}{w:World}{K:Za}{tg:Expr}(a it:Addr):Turn P w K tg (HK K a) [it] it (λi h=>h.IsTupleIter it a i) where
 mem:=by simp
 obj:=λi h st b hb=>by
  have e:b=it:=by simpa using hb
  subst e;obtain⟨o,e,c,d⟩:=st;exact⟨o,e,λv z=>by rw[d] at z;cases z⟩
 keep:=λi h h' st k=>st.at λo e=>k it (by simp) o e
 item:=by
  rw[0];obtain⟨xs,x,hq,hx⟩:=hg;obtain⟨c_,f,p,hz⟩:=I.tuple hq;obtain⟨u,hu,n⟩:=f.get hx;obtain⟨f0,g,r,j,l,m⟩:=hf it (by simp);refine wpAny_pyNext_tuple_item st (show s.heap.IsTuple a c_.toArray from p) (x:=u) (by simpa using hu) λh' e_ t=>?_
  have y:ad X pins σ H { s with heap:=h' }:=I.turned (t':=s.toks) (λb o hb e=>(t.2 b hb).trans e) f0 g j l m;obtain⟨o,e,c,d⟩:=id e_;exact⟨u,rfl,oM (s:={ s with heap:=h' }) e c d 'c' ⟨x,H,y,n,⟨rfl,λys hy=>by rw[I.tuple_inj hy hq];exact hx⟩,e_,λb hb=>(hf b hb).1⟩⟩
 done:=by
  rw[0];obtain⟨xs,hq,hx⟩:=hg;obtain⟨c_,f,p,hz⟩:=I.tuple hq;obtain⟨f0,g,r,j,l,m⟩:=hf it (by simp);have hl:=f.length;exact wpAny_pyNext_tuple_end (I.ok.hd hc) st (show s.heap.IsTuple a c_.toArray from p) (by simp;omega) λh' B=>⟨rfl,I.turned (t':=s.toks) (λb o hb e=>B b o hb e) f0 g j l m⟩
 self:=λ_ _ _ _ _ st h=>wpAny_pyIter_tupleiter st h
theorem yI{P:Zv}{w:World}{K:Za}{tg:Expr}(it:Addr)(lo:Int)(n:Nat):Turn P w K tg (E9 lo n) [it] it (λi h=>IsRangeIter h it (lo+(i:Nat)*1) ((n:Int)-(i:Nat)) 1) where
 mem:=by simp
 obj:=λi h st b hb=>by
  have e:b=it:=by simpa using hb
  subst e;exact⟨_,st,λv z=>by
   have z':Data.fields _=Data.cell v:=z;cases z'⟩
 keep:=λi h h' st k=>k it (by simp) _ st
 item:=by
  rw[0];obtain⟨f0,a,j,c,f,g⟩:=hf it (by simp);have W:=Walks.range (prog:=X.prog) (w:=X.w) (I.ok.hd hc) it lo 1 n;refine W.item i s _ _ hg st λv h' tk hv e_ kk=>?_
  obtain⟨t,rfl⟩:=hv;have l:ad X pins σ H { s with heap:=h',toks:=tk }:=I.turned (λb o hb e=>kk b o (by simpa using hb) e) f0 a c f g;refine⟨_,rfl,oM (s:={ s with heap:=h',toks:=tk }) (n:="range_iterator") e_ rfl rfl 'c' ⟨.int (lo+i),H,l,⟨t,?_⟩,⟨rfl,rfl⟩,e_,λb hb=>(hf b hb).1⟩⟩;rw[Int.mul_one]
 done:=by
  rw[0];obtain⟨f0,a,j,c,f,g⟩:=hf it (by simp);exact wpAny_pyNext_range_end (I.ok.hd hc) st (by have:n<=i:=hg;omega) λh' m=>⟨rfl,I.turned (t':=s.toks) (λb o hb e=>m b o hb e) f0 a c f g⟩
 self:=λ_ _ _ _ _ st h=>wpAny_pyIter_rangeiter st h
section
variable {X:Cx}{tg:Expr}
theorem CH{pins:Zc}{σ:St}{H:Hp}{s:Shared}{R:It->Hp->Prop}{E:Zb}{lo hi:Int}{t u v:Tok}{tk:Nat}(I:ad X pins σ H s)(h1:-(2 ^ 62)<=lo)(c:lo<2 ^ 62)(f:-(2 ^ 62)<=hi)(g:hi<2 ^ 62)
  (q:R (E9 lo (hi-lo).toNat) H):wpAny 'b' X.A (pyIter (.ref s.heap.objs.size)) (qQ X pins σ tg R) E { s with heap:=s.heap.push { cls:=.type "range",data:=.fields #[.int lo t,.int hi u,.int 1 v] },toks:=tk }:=by
 refine wpAny_pyIter_range (IsRange.new ..) (small_one h1 c f g) ?_;have a:ad X pins σ H { s with heap:=s.heap.push { cls:=.type "range",data:=.fields #[.int lo t,.int hi u,.int 1 v] },toks:=tk }:=I.kept λb o e=>Yd _ e
 refine⟨(s.heap.push { cls:=.type "range",data:=.fields #[.int lo t,.int hi u,.int 1 v] }).objs.size,[(s.heap.push { cls:=.type "range",data:=.fields #[.int lo t,.int hi u,.int 1 v] }).objs.size],_,_,H,rfl,
  a.kept (t':=tk) λb o e=>Yd _ e,yI _ lo (hi-lo).toNat,?_,λb hb=>?_,q⟩
 ·have e1:lo+((0:Nat):Int)*1=lo:=by simp
  have e2:(((hi-lo).toNat:Nat):Int)-((0:Nat):Int)=Builtin.Range.rangeSize lo hi 1:=by rw[rangeSize_one];split<;>omega
  show IsRangeIter _ _ (lo+((0:Nat):Int)*1) ((((hi-lo).toNat:Nat):Int)-((0:Nat):Int)) 1;rw[e1,e2];exact Yg _ rfl
 ·have e:b=(s.heap.push { cls:=.type "range",data:=.fields #[.int lo t,.int hi u,.int 1 v] }).objs.size:=by simpa using hb
  subst e;exact a.fpOk (YG _) (a.hok.fresh (YG _))
def J6(a:TA):TI:=λσ H R=>a σ H λvs b=>∃j:Int,vs=[.int j]/\-(2 ^ 62)<=j/\j<2 ^ 62/\R (E9 0 j.toNat) b
theorem Ax{a:Expr}{f:TA}{p b:Pos}(hg:Gl X "range")(hm:X.mg "range" = none)(ha:PA X [a] f)(hs:starEach [a] X.env=[(false,eval a X.env)]:=by rfl):PI X tg (.Call (.Name "range" p) [a] [] b) (J6 f):=by
 intro pins s σ H R I h;refine Call_ (dh I hg hm boot_range (PyProof.Rows.callWith_type1 (aN (ha b pins s σ H _ I h) λus s1 g=>?_) hs rfl));obtain⟨vs,y,l,m,c⟩:=g;obtain⟨j,e,c,n,q⟩:=c;subst e;cases m with
 |cons r u=>
  cases u;obtain⟨t,rfl⟩:=r;exact call_range_1 (CH l 'a' 'a' c n (by simpa using q))
def K5(c:TI)(g:TG)(f:TS):TS:=λD σ H=>c σ H λJ j=>∃W:Nat->Nat->St->Hp->Prop,(∃m,W 0 m σ j)/\∀i m σ H,W i m σ H ->
 (J.stop i H/\D.nx σ H)\/(J.go i H/\∃N:St->Hp->Prop,(∀a H',N a H'->∃b,b<m/\W (i+1) b a H')/\∀x H',J.yld i H x H'->g x σ H' λl n=>f { D with nx:=N,ct:=N,bk:=D.nx } l n)
def iy(fp:Zh)(h:Heap):List (Addr×Obj):=fp.filterMap λb=>(h.get? b).map λo=>(b,o)
theorem jc{fp:Zh}{h:Heap}{b:Addr}{o:Obj}(hb:b∈fp)(e:h.get? b=some o):(b,o)∈iy fp h:=List.mem_filterMap.mpr ⟨b,hb,by rw[e];rfl⟩
theorem tJ{fp:Zh}{h:Heap}{p:Addr×Obj}(hp:p∈iy fp h):p.1∈fp/\h.get? p.1=some p.2:=by
 obtain⟨b,hb,e⟩:=List.mem_filterMap.mp hp;cases q:h.get? b with
 |none=>rw[q] at e;cases e
 |some o=>
  rw[q] at e;have e':(b,o)=p:=Yi e;subst e';exact⟨hb,q⟩
theorem ad.pinned{pins:Zc}{σ:St}{H:Hp}{s:Shared}{fp:Zh}(I:ad X pins σ H s)(hf:∀b∈fp,l0 X pins H b)(a:∀b∈fp,∃o,s.heap.get? b=some o/\∀v,o.data≠.cell v):ad X (pins++iy fp s.heap) σ H s:=
 I.pins_of λp hp=>(YC.mp hp).elim (λz=>I.pin p (YH _ z)) λz=>by
  obtain⟨hb,e⟩:=tJ z;obtain⟨f0,c,f,_⟩:=hf p.1 hb;obtain⟨o,e',d⟩:=a p.1 hb;rw[e] at e';cases e';exact⟨e,f0,c,f,d⟩
theorem ad.unpinned{pins a:Zc}{σ:St}{H:Hp}{s:Shared}(I:ad X (pins++a) σ H s):ad X pins σ H s:=I.pins_of λp hp=>I.pin p (YH _ (List.mem_append_left _ hp))
theorem HL{iter:Expr}{body:Zt}{O:TI}{g:TG}{P:TS}{B:Pos}(hp:PassesOwn 'b' X.A X.env X.xe)(hc:X.calm=true)(hi:PI X tg iter O)(hg:PG X tg g)(hb:kl X body P)
  (hs:∀x,foldedSetIterable iter X.env x=pure x:=by intro _;rfl):PS X (.For tg iter body [] B) (K5 O g P):=by
 intro pins s σ H D I h;refine wpAny_For (aN (hi pins s σ H _ I h) λv s1 h1=>aN h1 λR8 s2 h2=>?_) hs;obtain⟨it,fp,tn,J,H2,e,I2,T,MA,R,W,⟨m0,w0⟩,l⟩:=h2;subst e
 -- what stays true of the iterator's objects through the loop
 have C:∀{H':Hp},(∀b∈fp,H' b=none)->∀b∈fp,l0 X pins H' b:=λhn b hb=>⟨hn b hb,(R b hb).2⟩
 refine codeAny_forLoop_any (λn S=>∃i p H',ad X pins p H' S/\tn i S.heap/\(∀b∈fp,H' b=none)/\W i n p H') ?_ m0 ⟨0,σ,H2,I2,MA,λb hb=>(R b hb).1,w0⟩;rintro n U ⟨i,t,z,V,Y,Z,w3⟩;rcases l i n t z w3 with⟨stop,qn⟩ | ⟨go,N,hN,step⟩
 ·refine wpAny_passesOwn hp (aN (T.done X rfl rfl rfl hc i pins U t z X.xe V (C Z) Y stop) λr s4 R_=>?_)
  obtain⟨G,I4⟩:=R_;subst G;exact wpAny_execs_nil ⟨t,z,I4,qn⟩
 ·refine wpAny_passesOwn hp (aN (T.item X rfl rfl rfl hc i pins U t z X.xe V (C Z) Y go) λr s4 Sa=>?_)
  obtain⟨u,G,h4⟩:=Sa;subst G;refine wpAny_passesOwn hp (aN h4 λ_ s5 Sb=>?_);obtain⟨x,H5,I5,r5,y5,K,Sd⟩:=Sb;have Se:=I5.pinned (C Sd) (T.obj _ _ K);refine wpAny_passesOwn hp (aN (hg _ s5 t H5 x u _ Se r5 (step x H5 y5)) λ_ s6 Sf=>?_);obtain⟨NT,H6,I6,q6⟩:=Sf;refine wpAny_passesOwn hp (aN (hb _ s6 NT H6 _ I6 q6) λf L j=>?_);have again:∀{a:St}{H7:Hp},ad X (pins++iy fp s5.heap) a H7 L->N a H7->∃m,m<n/\∃i p H',ad X pins p H' L/\tn i L.heap/\(∀b∈fp,H' b=none)/\W i m p H':=λ{a H7} c y=>by
   obtain⟨m',hm,w7⟩:=hN a H7 y;refine⟨m',hm,i+1,a,H7,c.unpinned,T.keep _ _ _ K λb hb o e=>(c.pin (b,o) (YH _ (YH _ (jc hb e)))).1,λb hb=>?_,w7⟩;obtain⟨o,e,d⟩:=T.obj _ _ K b hb;exact(c.pin (b,o) (YH _ (YH _ (jc hb e)))).2.1
  cases f with
  |next=>obtain⟨a,H7,c,y⟩:=j;exact again c y
  |cont=>obtain⟨a,H7,c,y⟩:=j;exact again c y
  |brk=>obtain⟨a,H7,c,j⟩:=j;exact⟨a,H7,c.unpinned,j⟩
  |ret v=>obtain⟨x7,a,H7,c,r7,j⟩:=j;exact⟨x7,a,H7,c.unpinned,r7,j⟩
end
abbrev R2:=V->V->Hp->VK->Prop
def cu(X:Cx)(f:Zk)(r:R2):Prop:=
 ∀(pins:Zc) (s:Shared) (σ:St) (H:Hp) (x y:V) (v u:Value) (Q:VK),ad X pins σ H s->RelV x v->RelV y u->r x y H Q ->
  wpAny 'b' X.A (f v u) (EP X pins σ Q) X.xe s
def HM(X:Cx)(f:Value->Sem Value)(r:V->Hp->VK->Prop):Prop:=
 ∀(pins:Zc) (s:Shared) (σ:St) (H:Hp) (x:V) (v:Value) (Q:VK),ad X pins σ H s->RelV x v->r x H Q ->
  wpAny 'b' X.A (f v) (EP X pins σ Q) X.xe s
def fF(X:Cx)(f:Value)(r:List V->Hp->VK->Prop):Prop:=
 ∀(pins:Zc) (s:Shared) (σ:St) (H:Hp) (xs:List V) (us:Zd) (Q:VK),ad X pins σ H s->ak xs us->r xs H Q ->
  wpAny 'b' X.A (call f us) (EP X pins σ Q) X.xe s
def K6(X:Cx)(r:V->Hp->(Bool->Hp->Prop)->Prop):Prop:=
 ∀(pins:Zc) (s:Shared) (σ:St) (H:Hp) (x:V) (v:Value) (Q:Bool->Hp->Prop),ad X pins σ H s->RelV x v->r x H Q ->
  wpAny 'b' X.A (truthy v) (TP X pins σ Q) X.xe s
def Fa(r:R2)(a b:TE):TE:=λσ H Q=>a σ H λx c=>b σ c λy f=>r x y f Q
def LD(r:V->Hp->VK->Prop)(a:TE):TE:=λσ H Q=>a σ H λx b=>r x b Q
def rI(C:Int->Int->Prop)(g:Int->Int->V):R2:=λx y H Q=>∃i j,x=.int i/\y=.int j/\C i j/\Q (g i j) H
def lF(g:Int->Int->V):R2:=λx y H Q=>∃i j,x=.int i/\y=.int j/\Q (g i j) H
def rU(g:Int->V):V->Hp->VK->Prop:=λx H Q=>∃i,x=.int i/\Q (g i) H
section
variable {X:Cx}{a b c:Expr}{ta tb tc:TE}{pos:Pos}
theorem CI(ha:PE X a ta)(hb:PE X b tb){pins:Zc}{s:Shared}{σ:St}{H:Hp}{R:V->V->Hp->Prop}(I:ad X pins σ H s)
  (h:ta σ H λx j=>tb σ j λy g=>R x y g){Q:Zb}{f:Zk}
  (hf:∀v u s2 x y g,ad X pins σ g s2->RelV x v->RelV y u->R x y g->wpAny 'b' X.A (f v u) Q X.xe s2):
  wpAny 'b' X.A (eval a X.env) (λv l=>wpAny 'b' X.A (eval b X.env) (λu m=>wpAny 'b' X.A (f v u) Q X.xe m) X.xe l) X.xe s:=by
 refine aN (ha pins s σ H _ I h) λv s1 n=>?_
 obtain⟨x,j,p,r,t⟩:=n;refine aN (hb pins s1 σ j _ p t) λu s2 z=>?_
 obtain⟨y,g,B,C,G⟩:=z;exact hf v u s2 x y g B r C G
theorem J7{op:Operator}{r:R2}(f:cu X (binaryOp op) r)(ha:PE X a ta)(hb:PE X b tb):PE X (.BinOp a op b pos) (Fa r ta tb):=by
 intro pins s σ H Q I h;exact wpAny_BinOp (CI ha hb I h λv u s2 x y g j l m q=>f pins s2 σ g x y v u Q j l m q)
theorem J8{op:UnaryOp}{r:V->Hp->VK->Prop}(f:HM X (unaryOp op) r)(ha:PE X a ta):PE X (.UnaryOp op a pos) (LD r ta):=by
 intro pins s σ H Q I h;refine UnaryOp_ (aN (ha pins s σ H _ I h) λv s1 g=>?_);obtain⟨x,j,l,m,n⟩:=g;exact f pins s1 σ j x v Q l m n
theorem xG{f:Zk}{C:Int->Int->Prop}{g:Int->Int->Int}
  (rule:∀(i j:Int) (t u:Tok) (s:Shared) (Q:Zb) (E:Zb),C i j->Q (.int (g i j) s.toks) { s with toks:=s.toks+1 }->wpAny 'b' X.A (f (.int i t) (.int j u)) Q E s):
  cu X f (rI C λi j=>.int (g i j)):=by
 intro pins s σ H x y v u Q I l m h;obtain⟨i,j,rfl,rfl,hc,q⟩:=h;obtain⟨t,rfl⟩:=l;obtain⟨t',rfl⟩:=m;exact rule i j t t' s _ _ hc ⟨.int (g i j),H,I.tok _,⟨_,rfl⟩,q⟩
theorem uX{f:Zk}{g:Int->Int->Int}
  (rule:∀(i j:Int) (t u:Tok) (s:Shared) (Q:Zb) (E:Zb),Q (.int (g i j) s.toks) { s with toks:=s.toks+1 }->wpAny 'b' X.A (f (.int i t) (.int j u)) Q E s):
  cu X f (lF λi j=>.int (g i j)):=by
 intro pins s σ H x y v u Q I l m h;obtain⟨i,j,rfl,rfl,q⟩:=h;obtain⟨t,rfl⟩:=l;obtain⟨t',rfl⟩:=m;exact rule i j t t' s _ _ ⟨.int (g i j),H,I.tok _,⟨_,rfl⟩,q⟩
theorem yJ{f:Zk}{g:Int->Int->Bool}
  (rule:∀(i j:Int) (t u:Tok) (s:Shared) (Q:Zb) (E:Zb),Q (.bool (g i j)) s->wpAny 'b' X.A (f (.int i t) (.int j u)) Q E s):
  cu X f (lF λi j=>.bl (g i j)):=by
 intro pins s σ H x y v u Q I l m h;obtain⟨i,j,rfl,rfl,q⟩:=h;obtain⟨t,rfl⟩:=l;obtain⟨t',rfl⟩:=m;exact rule i j t t' s _ _ ⟨.bl (g i j),H,I,rfl,q⟩
def HN(i j:Int):Prop:=0<j/\j<1073741824
def yK(i j:Int):Prop:=0<=j/\j<=1000000/\i.natAbs<2 ^ 64
def yL(i j:Int):Prop:=(-(2 ^ 64)<i/\i<2 ^ 64)\/(-(2 ^ 64)<j/\j<2 ^ 64)
theorem yL.ok{i j:Int}(h:yL i j):IntMulOk i j:=by
 rcases h with⟨h1,f⟩ | ⟨h1,f⟩
 ·exact .of_left (intBits_le_64 h1 f)
 ·exact .of_right (intBits_le_64 h1 f)
theorem yM(k:Nat):(0:Int)<=2 ^ k:=by
 rw[two_pow_cast];exact Int.natCast_nonneg _
theorem HP:cu X (binaryOp .Add) (lF λi j=>.int (i+j)):=uX λ_ _ _ _ _ _ _ q=>add_int q
theorem HQ:cu X (binaryOp .Sub) (lF λi j=>.int (i-j)):=uX λ_ _ _ _ _ _ _ q=>sub_int q
theorem HR:cu X (binaryOp .Mult) (rI yL λi j=>.int (i*j)):=xG λ_ _ _ _ _ _ _ hc q=>mul_int q hc.ok
theorem FV:cu X (binaryOp .FloorDiv) (rI HN λi j=>.int (i / j)):=xG λi j _ _ _ _ _ hc q=>by
 have h1:(0:Int)<j:=hc.1;have f:j<1073741824:=hc.2;exact floordiv_int 'a' (by rw[Int.fdiv_eq_ediv_of_nonneg i 'a'];exact q) (.inl (PyProof.noPylong_small 'a'))
theorem HS:cu X (binaryOp .Mod) (rI (λ_ j=>0<j) λi j=>.int (i%j)):=xG λi j _ _ _ _ _ hc q=>by
 have h1:(0:Int)<j:=hc;exact mod_int' 'a' (by rw[Int.fmod_eq_emod_of_nonneg i 'a'];exact q)
theorem HU:cu X (binaryOp .Pow) (rI yK λi j=>.int (i ^ j.toNat)):=xG λ_ _ _ _ _ _ _ hc q=>pow_int_small hc.1 hc.2.1 hc.2.2 q
theorem HV:cu X (binaryOp .LShift) (rI yK λi j=>.int (i*2 ^ j.toNat)):=xG λ_ _ _ _ _ _ _ hc q=>lshift_int_small hc.1 hc.2.1 hc.2.2 q
theorem HW:cu X (binaryOp .RShift) (rI (λ_ j=>0<=j) λi j=>.int (i / 2 ^ j.toNat)):=xG λi j _ _ _ _ _ hc q=>
 rshift_int hc (by rw[Int.fdiv_eq_ediv_of_nonneg i (yM _)];exact q)
theorem HX:cu X (binaryOp .BitAnd) (lF λi j=>.int (Builtin.bitAnd i j)):=uX λ_ _ _ _ _ _ _ q=>and_int q
theorem J9:cu X (binaryOp .BitOr) (lF λi j=>.int (Builtin.bitOr i j)):=uX λ_ _ _ _ _ _ _ q=>or_int q
theorem HY:cu X (binaryOp .BitXor) (lF λi j=>.int (Builtin.bitXor i j)):=uX λ_ _ _ _ _ _ _ q=>xor_int q
theorem LE{f:Value->Sem Value}{g:Int->Int}
  (rule:∀(i:Int) (t:Tok) (s:Shared) (Q:Zb) (E:Zb),Q (.int (g i) s.toks) { s with toks:=s.toks+1 }->wpAny 'b' X.A (f (.int i t)) Q E s):
  HM X f (rU λi=>.int (g i)):=by
 intro pins s σ H x v Q I j h;obtain⟨i,rfl,q⟩:=h;obtain⟨t,rfl⟩:=j;exact rule i t s _ _ ⟨.int (g i),H,I.tok _,⟨_,rfl⟩,q⟩
theorem HZ:HM X (unaryOp .Invert) (rU λi=>.int (Builtin.bitNot i)):=LE λ_ _ _ _ _ q=>invert_int q
end
section
variable {X:Cx}{a b c:Expr}{ta tb tc:TE}{pos:Pos}
theorem Ay{pins:Zc}{σ:St}{H:Hp}{s:Shared}{Q:VK}{k k':Bool}(I:ad X pins σ H s)(q:Q (.bl k) H)(e:k=k'):EP X pins σ Q (.bool k') s:=by
 subst e;exact⟨.bl k,H,I,rfl,q⟩
theorem Ka:cu X (compareOp .Lt) (lF λi j=>.bl (decide (i<j))):=yJ λ_ _ _ _ _ _ _ q=>lt_int q
theorem Kb:cu X (compareOp .LtE) (lF λi j=>.bl (decide (i<=j))):=yJ λ_ _ _ _ _ _ _ q=>le_int q
theorem Kc:cu X (compareOp .Gt) (lF λi j=>.bl (decide (j<i))):=yJ λ_ _ _ _ _ _ _ q=>gt_int q
theorem Kd:cu X (compareOp .GtE) (lF λi j=>.bl (decide (j<=i))):=yJ λ_ _ _ _ _ _ _ q=>ge_int q
theorem H9:cu X (compareOp .Is) (λx y H Q=>y=.non/\Q (.bl (decide (x=.non))) H):=by
 intro pins s σ H x y v u Q I f g h;obtain⟨rfl,q⟩:=h;cases g;refine is_none_gen (Ay I q ?_);cases x<;>first
  |(cases f;rfl)
  |(obtain⟨t,rfl⟩:=f;rfl)
theorem FW:cu X (compareOp .IsNot) (λx y H Q=>y=.non/\Q (.bl (!decide (x=.non))) H):=by
 intro pins s σ H x y v u Q I f g h;obtain⟨rfl,q⟩:=h;cases g;refine isnot_none_gen (Ay I q ?_);cases x<;>first
  |(cases f;rfl)
  |(obtain⟨t,rfl⟩:=f;rfl)
theorem FX{op:CmpOp}{r:R2}(f:cu X (compareOp op) r)(ha:PE X a ta)(hb:PE X b tb)(hm:behindInMarks op b=false):PE X (.Compare a [op] [b] pos) (Fa r ta tb):=by
 intro pins s σ H Q I h;exact wpAny_Compare1 (CI ha hb I h λv u s2 x y g j l m q=>f pins s2 σ g x y v u Q j l m q) hm
def Ke(t:TE):TT:=λσ H Q=>t σ H λx H'=>∃k,x=.bl k/\Q k H'
theorem FY{op:CmpOp}{r:R2}(f:cu X (compareOp op) r)(ha:PE X a ta)(hb:PE X b tb)(hm:behindInMarks op b=false):PT X (.Compare a [op] [b] pos) (Ke (Fa r ta tb)):=by
 intro pins s σ H Q I h;refine wpAny_isTrue_Compare1 (aN (ha pins s σ H _ I h) λv s1 ⟨x,g,j,l,m⟩=>aN (hb pins s1 σ g _ j m) λu s2 ⟨y,n,p,t,B⟩=>
  aN (f pins s2 σ n x y v u _ p l t B) λc L ⟨z,C,G,J,k,e,K⟩=>?_) hm
 subst e;cases J;exact wpAny_truthy_bool ⟨C,G,K⟩
def CJ(K:Za)(x:V)(H:Hp)(k:Bool):Prop:=
 match x with
 |.non=>k=false
 |.bl b=>k=b
 |.int i=>k=(i != 0)
 |.str y=>y.length<=sizeLine/\k=((y.length:Int) != 0)
 |.byt y=>y.size<=sizeLine/\k=((y.size:Int) != 0)
 |.ref p=>(∃xs,bx K H p xs/\k = !xs.isEmpty)\/(∃xs,bn K H p xs/\k = !xs.isEmpty) \/ ∃f,H p=some (.dK f)/\k = !f.isEmpty
 |_=>False
theorem yN{f:Type}{g:List (f×V)}{vs:List (f×Value)}(r:KV g vs):(!vs.isEmpty) = !g.isEmpty:=by
 cases r<;>rfl
theorem qR{xs:List V}{c_:Zd}(r:ak xs c_):(!c_.toArray.isEmpty) = !xs.isEmpty:=by
 cases r<;>simp
theorem jq:(sizeLine:Nat)<2 ^ 63:=by rw[sizeLine_eq];decide
theorem Ia:K6 X (λx H Q=>∃k,CJ X.K x H k/\Q k H):=by
 intro pins s σ H x v Q I f h;obtain⟨k,e,q⟩:=h;have hl:=jq;have hs:sizeLine=16777216:=sizeLine_eq;cases x with
 |non=>
  cases f;have e':k=false:=e;subst e';exact truthy_none ⟨H,I,q⟩
 |bl b=>
  cases f;have e':k=b:=e;subst e';exact wpAny_truthy_bool ⟨H,I,q⟩
 |int i=>
  obtain⟨t,rfl⟩:=f;have e':k=(i != 0):=e;subst e';exact PySem.P.truthy_int ⟨H,I,q⟩
 |str y=>
  obtain⟨t,rfl⟩:=f;obtain⟨hy,e'⟩:y.length<=sizeLine/\k=((y.length:Int) != 0):=e;subst e';exact PySem.P.truthy_str 'a' ⟨H,I.tok _,q⟩
 |byt y=>
  obtain⟨t,rfl⟩:=f;obtain⟨hy,e'⟩:y.size<=sizeLine/\k=((y.size:Int) != 0):=e;subst e';exact PySem.W.truthy_bytes 'a' ⟨H,I.tok _,q⟩
 |ref p=>
  cases f;have e':(∃xs,bx X.K H p xs/\k = !xs.isEmpty)\/(∃xs,bn X.K H p xs/\k = !xs.isEmpty) \/ ∃g,H p=some (.dK g)/\k = !g.isEmpty:=e;rcases e' with⟨xs,hx,e'⟩ | ⟨xs,hx,e'⟩ | ⟨g,hx,e'⟩
  ·subst e'
   obtain⟨c_,r,j,hz⟩:=I.list hx;have l:=r.length;exact wpAny_truthy_list j.isList (by simp only[YI];omega) ⟨H,I.tok _,by rw[qR r];exact q⟩
  ·subst e'
   obtain⟨c_,r,j,hz⟩:=I.tuple hx;have l:=r.length;exact truthy_tuple j (by simp only[YI];omega) ⟨H,I.tok _,by rw[qR r];exact q⟩
  ·subst e'
   obtain⟨hz,hS,vs,r,m⟩:g.length<=sizeLine/\(p==sysModules)=false/\∃vs,KV g vs/\s.heap.DictOf (bC X.prog X.w) p vs:=I.hok p _ hx;have l:g.length=vs.length:=Paired.length r;exact wpAny_truthy_dict hS m 'a' ⟨H,I.tok _,by rw[yN r];exact q⟩
 |_=>exact(show False from e).elim
theorem CK(ha:PE X a ta)(g:∀f,isTrue a X.env f=(do let v ←f;standAt a.pos;holding [v] (truthy v))):
  PT X a (λσ H Q=>ta σ H λx H'=>∃k,CJ X.K x H' k/\Q k H'):=by
 intro pins s σ H Q I h;refine isTrue_plain (aN (ha pins s σ H _ I h) λv s1 j=>?_) (g _);obtain⟨x,l,m,n,p⟩:=j;exact Ia pins s1 σ l x v Q m n p
theorem yO:cu X (binaryOp .Add) (λx y H Q=>∃i j,x=.str i/\y=.str j/\i.length+j.length<=sizeLine/\Q (.str (i++j)) H):=by
 intro pins s σ H x y v u Q I f g h;obtain⟨i,j,rfl,rfl,hz,q⟩:=h;obtain⟨t,rfl⟩:=f;obtain⟨t',rfl⟩:=g;exact add_str (λt' tk=>⟨.str (i++j),H,I.tok _,⟨_,rfl⟩,q⟩) hz
theorem vals1{x:V}{us:Zd}(r:ak [x] us):∃u,us=[u]/\RelV x u:=by
 cases r with
 |cons f g=>cases g;exact⟨_,rfl,f⟩
theorem vals2{x y:V}{us:Zd}(r:ak [x,y] us):∃u f,us=[u,f]/\RelV x u/\RelV y f:=by
 cases r with
 |cons g j=>
  cases j with
  |cons l m=>cases m;exact⟨_,_,rfl,g,l⟩
theorem Az(hc:X.calm=true):fF X (.builtin "min") (λxs H Q=>∃i j,xs=[.int i,.int j]/\Q (.int (if j<i then j else i)) H):=by
 intro pins s σ H xs us Q I r h;obtain⟨i,j,rfl,q⟩:=h;obtain⟨u,g,rfl,⟨t,rfl⟩,⟨t',rfl⟩⟩:=vals2 r;refine min_two_ints (I.ok.hd hc) λh' tk k=>⟨_,H,I.kept k,?_,q⟩
 by_cases f:j<i
 ·rw[if_pos f,if_pos f];exact⟨_,rfl⟩
 ·rw[if_neg f,if_neg f];exact⟨_,rfl⟩
end
structure qf (h:Heap) (x dx C:Addr) (mA:Ze):Prop where
 obj:h.get? x=some (PySem.W.instObj C dx)
 ns:h.Ns1 dx mA
 ne:dx≠x
theorem AA{h:Heap}{dx:Addr}{mA:Ze}(n:h.Ns1 dx mA):∃od,h.get? dx=some od/\∀name,PySem.W.lookIn name od=some (mA name):=by
 obtain⟨o,es,f,b,hd,hk,_,hm⟩:=n;refine⟨o,b,λname=>?_⟩;have e:=hm name;unfold nsFind findBy at e;rw[←Array.find?_toList] at e;unfold PySem.W.lookIn;rw[hd];dsimp only;split
 ·rename_i y q
  rw[q] at e;exact congrArg some e
 ·rename_i q
  rw[q] at e;have a:es.toList.any (·.refKey)=false:=by
   rw[List.any_eq_false];intro y hy;obtain⟨z,t,c⟩:=hk y (Array.mem_toList_iff.mp hy);simp[DictEntry.refKey,c]
  have a':¬es.toList.any (·.refKey)=true:=by rw[a];exact YF
  rw[if_neg a'];exact congrArg some e
theorem qf.look{h:Heap}{x dx C:Addr}{mA:Ze}(I:qf h x dx C mA):∃od,PySem.W.InstAt h x (PySem.W.instObj C dx) C (some od)/\∀name,PySem.W.lookIn name od=some (mA name):=
 let⟨od,ho,hl⟩:=AA I.ns;⟨od,⟨I.obj,rfl,rfl,ho⟩,hl⟩
section
variable {prog:Zv}{w:World}{A:Around}{E:Zb}{s:Shared}{K:Za}{x dx C f:Addr}{mA:Ze}{name:Str}{v:Value}
theorem FZ{expr:Bool}{Q:Zb}(X:K.In s.heap)(I:qf s.heap x dx C mA)(hg:PySem.W.plainGet K C name=true)(a:PySem.W.hasDictIn K C=true)
  (ha:PySem.W.findIn K (.ref C) name=some none) (hv:mA name=some v) (b:PySem.W.handedIn v=true) (h:Q v { s with toks:=s.toks+1 }):
  wpAny 'd' A (getAttr (.ref x) name expr) Q E s:=by
 obtain⟨od,J,hl⟩:=I.look;exact PySem.W.get_value X J (PySem.W.plainGet_of hg).1 (PySem.W.findObj_own a ha rfl (by rw[hl,hv])) b h
theorem CL{a:Sem Bool}{Q:Value×List Value->Shared->Prop}(X:K.In s.heap)(I:qf s.heap x dx C mA)(hg:PySem.W.plainGet K C name=true)
  (hf:PySem.W.findIn K (.ref C) name=some (some (.ref f))) (ht:PySem.W.isFn K (.ref f)=true) (hv:mA name=none) (h:Q (.ref f,[.ref x]) s):
  wpAny 'd' A (getMethod (.ref x) name a) Q E s:=by
 obtain⟨od,J,hl⟩:=I.look;exact PySem.W.method_fn X J (PySem.W.plainGet_of hg).1 (PySem.W.plainGet_of hg).2 hf (beq_iff_eq.mp ht) (by show(PySem.W.lookIn name od).map (·.isSome)=some false;rw[hl,hv];rfl) h
theorem F1{ns:Zf}{Q:Zo}(X:K.In s.heap)(I:qf s.heap x dx C mA)
  (hs:PySem.W.findIn K (.ref C) "__setattr__" = some (some (.builtin "object.__setattr__"))) (hp:PySem.W.plainOver K C=true) (ht:PySem.W.takerIn K C name=some none) (j:PySem.W.hasDictIn K C=true)
  (hw:PySem.Within mA ns) (hsz:ns.length<=sizeLine)
  (h:∀h',qf h' x dx C (λy=>if y=name then some v else mA y)->Heap.SameBut dx s.heap h'->Q () { s with heap:=h',toks:=s.toks+2 }):
  wpAny 'd' A (setAttr (.ref x) name v) Q E s:=by
 obtain⟨od,J,hl⟩:=I.look;refine PySem.W.set_plain X J hs (PySem.W.osa_open (s:={ s with toks:=s.toks+1 }) (r:=none) X J hp ht λb=>?_);obtain⟨t,hc,l⟩:=PySem.W.any_some j;have hx:s.heap.get? x=some ⟨.ref C,some dx,.plain,#[]⟩:=I.obj;refine Yb (Yc (Yb (Yb (wpAny_loadPart hx (Yb (PySem.W.Looks.here (s:={ s with toks:=s.toks+1 }) (PySem.W.looks_clsIn X hc) ?_))))));rw[l];refine Yc (a:=some dx) (Yb (Yc (Yb ?_)));refine wpAny_nsSet1 (s:={ s with toks:=s.toks+1 }) I.ns λh' c g=>?_
 obtain⟨u,z,B,m,n,p⟩:=c.count (PySem.Within.cons name v hw);refine Yb (wpAny_lookBehind m (by rw[n];exact pastItsLine_dict (ZY p (by rw[YJ];omega))) ?_);exact Yc (h _ ⟨(g.2 _ (Ne.symm I.ne)).trans I.obj,c,I.ne⟩ g)
theorem CM{R:Result->Shared->Prop}{vs:Zd}{a:List (Str×Value)}(X:K.In s.heap)(hm:PySem.W.makesIn K C=true)
  (hi:PySem.W.findIn K (.ref C) "__init__" = some (some (.ref f))) (hf:PySem.W.typeIn K (.ref f)=some (.type "function"))
  (h:codeAny 'd' (A.under (.builtin "type.__call__" ⟨.ref C::vs,a⟩)) (.call (.ref f) ⟨.ref (s.heap.objs.size+1)::vs,a⟩) (PySem.W.InitBack (s.heap.objs.size+1) R)
   { s with heap:=(s.heap.push PySem.W.emptyDict).push (PySem.W.instObj C s.heap.objs.size) }):
  codeAny 'd' A (.call (.ref C) ⟨vs,a⟩) R s:=by
 obtain⟨b,g,d,t,os⟩:=s;exact PySem.W.make_core (PySem.W.makes_of X hm) (PySem.W.looks_findIn X hi) (λself=>PySem.W.bind_fn X self hf) (.inl rfl) h
end
def c0(f:Str)(v:V):List (Str×V)->List (Str×V)
 |[]=>[(f,v)]
 |(g,x)::r=>if g=f then(g,v)::r else(g,x)::c0 f v r
theorem pK(f g:Str)(v:V):∀fs:List (Str×V),(c0 f v fs).lookup g=if g=f then some v else fs.lookup g
 |[]=>by
  show List.lookup g [(f,v)]=_;by_cases h:g=f
  ·have hb:(g==f)=true:=beq_iff_eq.mpr h
   simp only[List.lookup,hb,if_pos h]
  ·have hb:(g==f)=false:=ZS.mpr h
   simp only[List.lookup,hb,if_neg h]
 |(k,x)::r=>by
  have a:=pK f g v r;rw[show c0 f v ((k,x)::r)=(if k=f then(k,v)::r else(k,x)::c0 f v r) from rfl];by_cases hk:k=f
  ·rw[if_pos hk]
   by_cases h:g=k
   ·have hb:(g==k)=true:=beq_iff_eq.mpr h
    simp only[List.lookup,hb,if_pos (h.trans hk)]
   ·have hb:(g==k)=false:=ZS.mpr h
    simp only[List.lookup,hb,if_neg (λe:g=f=>h (e.trans hk.symm))]
  ·rw[if_neg hk]
   by_cases h:g=k
   ·have hb:(g==k)=true:=beq_iff_eq.mpr h
    simp only[List.lookup,hb,if_neg (λe:g=f=>hk (h.symm.trans e))]
   ·have hb:(g==k)=false:=ZS.mpr h
    simp only[List.lookup,hb];exact a
theorem nH(f:Str)(v:V):∀fs:List (Str×V),f∈(c0 f v fs).map (·.1)/\∀g,g∈fs.map (·.1)->g∈(c0 f v fs).map (·.1)
 |[]=>⟨by simp[c0],λg h=>by simp at h⟩
 |(k,x)::r=>by
  obtain⟨a,b⟩:=nH f v r;rw[show c0 f v ((k,x)::r)=(if k=f then(k,v)::r else(k,x)::c0 f v r) from rfl];by_cases hk:k=f
  ·rw[if_pos hk]
   subst hk;exact⟨by simp,λg h=>by simpa using h⟩
  ·rw[if_neg hk]
   refine⟨?_,λg h=>?_⟩
   ·rw[YL]
    exact YA _ a
   ·rw[YL] at h ⊢
    rcases YB.mp h with e | e
    ·exact YB.mpr (.inl e)
    ·exact YA _ (b g e)
theorem pL(f:Str)(v:V):∀fs:List (Str×V),(c0 f v fs).length<=fs.length+1
 |[]=>by simp[c0]
 |(k,x)::r=>by
  have a:=pL f v r;rw[show c0 f v ((k,x)::r)=(if k=f then(k,v)::r else(k,x)::c0 f v r) from rfl];by_cases hk:k=f
  ·rw[if_pos hk,YJ,YJ];omega
  ·rw[if_neg hk,YJ,YJ];omega
theorem eI.some_of{v:V}{o:Zw}(r:eI (some v) o):∃u,o=some u/\RelV v u:=by
 cases o with
 |none=>exact(show False from r).elim
 |some u=>exact⟨u,rfl,r⟩
theorem eI.none_of{o:Zw}(r:eI none o):o=none:=by
 cases o with
 |none=>rfl
 |some u=>exact(show False from r).elim
theorem AB{v:V}{u:Value}(r:RelV v u):PySem.W.handedIn u=true:=by
 cases v with
 |non=>cases(show u=Value.none from r);rfl
 |bl b=>cases(show u=Value.bool b from r);rfl
 |int i=>obtain⟨t,e⟩:=(show ∃t,u=Value.int i t from r);cases e;rfl
 |str x=>obtain⟨t,e⟩:=(show ∃t,u=Value.str x t from r);cases e;rfl
 |byt b=>obtain⟨t,e⟩:=(show ∃t,u=Value.bytes b t from r);cases e;rfl
 |flt b=>obtain⟨t,e⟩:=(show ∃t,u=Value.float b t from r);cases e;rfl
 |ref a=>cases(show u=Value.ref a from r);rfl
 |ty n=>cases(show u=Value.type n from r);rfl
section
variable {P:Zv}{w:World}{H H':Hp}{h h':Heap}{a C dx:Addr}{fs OV:List (Str×V)}
theorem oN(hok:cm P w H h)(e:H a=some (.ins C dx fs)):∃mA,qf h a dx C mA/\(∀f,eI (fs.lookup f) (mA f))/\PySem.Within mA (fs.map (·.1))/\fs.length<=1000/\H dx=some (.own a):=by
 obtain⟨d,z,ne,b,mA,n,r,q⟩:=(show a9 P w H h a (.ins C dx fs) from hok a _ e);exact⟨mA,⟨b,n,ne⟩,r,q,z,d⟩
end
structure fW (K:Za) (C:Addr):Prop where
 pg:PySem.W.plainGet K C Str.empty=true
 hd:PySem.W.hasDictIn K C=true
 po:PySem.W.plainOver K C=true
 sa:PySem.W.findIn K (.ref C) "__setattr__" = some (some (.builtin "object.__setattr__"))
theorem fW.get{K:Za}{C:Addr}(c:fW K C)(f:Str):PySem.W.plainGet K C f=true:=c.pg
def cN(K:Za)(C:Addr)(f:Str):Prop:=PySem.W.findIn K (.ref C) f=some none
theorem cN.taker{K:Za}{C:Addr}{f:Str}(n:cN K C f):PySem.W.takerIn K C f=some none:=by
 unfold PySem.W.takerIn;rw[show PySem.W.findIn K (.ref C) f=some none from n];rfl
structure CN (K:Za) (C:Addr) (m:Str) (f:Addr):Prop where
 at_:PySem.W.findIn K (.ref C) m=some (some (.ref f))
 fn:PySem.W.isFn K (.ref f)=true
 kp:PySem.W.keepIn K (.ref f)=true
section
variable {X:Cx}{pins:Zc}{σ:St}{H:Hp}{s:Shared}{a C dx:Addr}{fs:List (Str×V)}{f:Str}{v:V}{A:Around}{E:Zb}
theorem yP{b:Bool}{Q:Zb}(I:ad X pins σ H s)(e:H a=some (.ins C dx fs))(c:fW X.K C)(n:cN X.K C f)(l:fs.lookup f=some v)
  (h:∀u g,ad X pins σ H g->RelV v u->Q u g):wpAny 'b' A (getAttr (.ref a) f b) Q E s:=by
 obtain⟨mA,O,r,_,_,_⟩:=oN I.hok e;obtain⟨u,hu,j⟩:=eI.some_of (v:=v) (o:=mA f) (by rw[←l];exact r f);exact FZ I.kIn O (c.get f) c.hd n hu (AB j) (h u _ (I.tok _) j)
theorem qS{m:Str}{g:Addr}{b:Sem Bool}{Q:Value×List Value->Shared->Prop}(I:ad X pins σ H s)(e:H a=some (.ins C dx fs))(c:fW X.K C)(k:CN X.K C m g)(l:fs.lookup m=none)
  (h:Q (.ref g,[.ref a]) s):wpAny 'b' A (getMethod (.ref a) m b) Q E s:=by
 obtain⟨mA,O,r,_,_,_⟩:=oN I.hok e;have hn:mA m=none:=eI.none_of (by rw[←l];exact r m);exact CL I.kIn O (c.get m) k.at_ k.fn hn h
theorem yQ{y:V}{u:Value}{Q:Zo}(I:ad X pins σ H s)(e:H a=some (.ins C dx fs))(c:fW X.K C)(n:cN X.K C f)(hl:fs.length<1000)(t:RelV y u)
  (h:∀l,ad X pins σ (upd H a (.ins C dx (c0 f y fs))) l->Q () l):wpAny 'b' A (setAttr (.ref a) f u) Q E s:=by
 obtain⟨mA,O,r,m,_,p⟩:=oN I.hok e;have hz:(fs.map (·.1)).length<=sizeLine:=by rw[ZG,sizeLine_eq];omega
 refine F1 I.kIn O c.sa c.po n.taker c.hd m hz λh' j B=>h _ ?_
 have hd:∃o,h'.get? dx=some o:=let⟨o,_,_,e',_⟩:=j.ns;⟨o,e'⟩;refine I.write (x:=a) (e:=dx) (by rw[e];exact True.intro) (.inr p) (λb q hb z=>(B.2 b hb).trans z) hd ?_;refine⟨by rw[aM O.ne];exact p,?_,O.ne,j.obj,_,j.ns,λg=>?_,λg hg=>?_⟩
 ·have:=pL f y fs;omega
 ·show eI ((c0 f y fs).lookup g) (if g=f then some u else mA g)
  rw[pK];by_cases q:g=f
  ·rw[if_pos q,if_pos q];exact t
  ·rw[if_neg q,if_neg q];exact r g
 ·by_cases q:g=f
  ·rw[q];exact(nH f y fs).1
  ·refine(nH f y fs).2 g (m g λz=>hg ?_)
   show(if g=f then some u else mA g)=none;rw[if_neg q];exact z
theorem ad.made(I:ad X pins σ H s):ad X pins σ (upd (upd H s.heap.objs.size (.own (s.heap.objs.size+1))) (s.heap.objs.size+1) (.ins C s.heap.objs.size []))
  { s with heap:=(s.heap.push PySem.W.emptyDict).push (PySem.W.instObj C s.heap.objs.size) }:=by
 have e1:(s.heap.push PySem.W.emptyDict).get? s.heap.objs.size=some PySem.W.emptyDict:=Yg s.heap rfl;have e2:((s.heap.push PySem.W.emptyDict).push (PySem.W.instObj C s.heap.objs.size)).get? (s.heap.objs.size+1)=some (PySem.W.instObj C s.heap.objs.size):=by
  have:=Yg (s.heap.push PySem.W.emptyDict) (o:=PySem.W.instObj C s.heap.objs.size) rfl
  rwa [Heap.size_push] at this
 have e3:(s.heap.push PySem.W.emptyDict).Ns s.heap.objs.size (λ_=>none):=⟨PySem.W.emptyDict,#[],_,e1,rfl,(λe c=>absurd c (by simp)),λ_=>rfl⟩;have g:=I.laid (a:=s.heap.objs.size) (o:=.own (s.heap.objs.size+1)) (h':=s.heap.push PySem.W.emptyDict) (t':=s.toks) (λb u q=>Yd _ q) (YG _) ⟨_,e1⟩;refine g.laid (a:=s.heap.objs.size+1) (o:=.ins C s.heap.objs.size []) (t':=s.toks) (λb u q=>Yd _ q) (Nat.le_of_eq (Heap.size_push _ _)) ?_;have ne:s.heap.objs.size≠s.heap.objs.size+1:=ZV (Nat.lt_succ_self _);refine⟨by rw[aM ne,aB],YM _,ne,e2,λ_=>none,(Heap.Ns1.of_empty e3).at λo q=>Yd _ q,λ_=>True.intro,λy hy=>absurd rfl hy⟩
theorem F2{prog:Zv}{w:World}{env:Env}{e:Expr}{f:Str}{b:Pos}{s:Shared}{Q:Zb}(hb:attributeBase e f env (eval e env)=eval e env)
  (h:wpAny 'd' A (eval e env) (λo c=>wpAny 'd' A (getAttr o f true) Q E c) E s):wpAny 'd' A (eval (.Attribute e f b) env) Q E s:=
 Attribute_any_ h (by rw[arm_eval_Attribute,hb])
end
def K7(K:Za)(c:TE)(f:Str):TE:=λσ H Q=>c σ H λx b=>∃a C dx fs v,x=.ref a/\b a=some (.ins C dx fs)/\fW K C/\cN K C f/\fs.lookup f=some v/\Q v b
def K8(K:Za)(c g:TE)(f:Str):TS:=λD σ H=>g σ H λy j=>c σ j λx b=>∃a C dx fs,x=.ref a/\b a=some (.ins C dx fs)/\fW K C/\cN K C f/\fs.length<1000 /\
 D.nx σ (upd b a (.ins C dx (c0 f y fs)))
section
variable {X:Cx}{o e value:Expr}{f:Str}{pos pos' V6:Pos}{ta tv:TE}
theorem Ib(b:PE X e ta)(hb:attributeBase e f X.env (eval e X.env)=eval e X.env):PE X (.Attribute e f pos) (K7 X.K ta f):=by
 intro pins s σ H Q I h;refine F2 hb (aN (b pins s σ H _ I h) λu s1 g=>?_);obtain⟨x,j,m,p,a,C,dx,fs,v,ex,r,c,n,l,q⟩:=g;subst ex;obtain rfl:u=Value.ref a:=p;exact yP m r c n l λz s2 t y=>⟨v,j,t,y,q⟩
theorem Ic(ha:PE X o ta)(hv:PE X value tv)(hs:swapsWith value (some (.Attribute o f pos')) pos.line X.env=pure false):PS X (.Assign [.Attribute o f pos'] value pos) (K8 X.K ta tv f):=by
 intro pins s σ H D I h;refine plainObj_wpAny_Assign_Attribute (aN (hv pins s σ H _ I h) λu s1 b=>?_) hs;obtain⟨y,g,j,m,q⟩:=b;refine aN (ha pins s1 σ g _ j q) λp s2 r=>?_
 obtain⟨x,L,t,z,a,C,dx,fs,ex,B,c,n,l,G⟩:=r;subst ex;obtain rfl:p=Value.ref a:=z;exact yQ t B c n l m λO J=>⟨σ,_,J,G⟩
end
section
variable {X:Cx}{pins:Zc}{σ:St}{H:Hp}{s:Shared}{A:Around}{E:Zb}{Q:Zb}{c:Value}{b:Bool}
inductive iN (K:Za) (H:Hp):V->Value->Prop where
 |non:iN K H .non (.type "NoneType")
 |bl (x:Bool):iN K H (.bl x) (.type "bool")
 |int (i:Int):iN K H (.int i) (.type "int")
 |str (x:Str):iN K H (.str x) (.type "str")
 |flt (x:UInt64):iN K H (.flt x) (.type "float")
 |lst {a:Addr}{xs:List V}(e:H a=some (.lst xs)):iN K H (.ref a) (.type "list")
 |frz {a:Addr}{o:Obj}{xs:List V}(e:H a=some (.frz o (.lst xs))):iN K H (.ref a) (.type "list")
 |tup {a:Addr}{xs:List V}(e:H a=some (.tup xs)):iN K H (.ref a) (.type "tuple")
 |dK {a:Addr}{b_:List (Key×V)}(e:H a=some (.dK b_)):iN K H (.ref a) (.type "dict")
 |dT {a:Addr}{b_:List (List Key×V)}(e:H a=some (.dT b_)):iN K H (.ref a) (.type "dict")
 |ins {a C dx:Addr}{fs:List (Str×V)}(e:H a=some (.ins C dx fs)) (cl:fW K C) (ha:PySem.W.findIn K (.ref C) "__class__" = some (some (.builtin "object.__class__")))
   (hn:PySem.W.specialIn K (.builtin "object.__class__") "__get__" = some (some (.builtin "getset_descriptor.__get__"))) (U3:PySem.W.takesIn K (.builtin "object.__class__")=some true)
   (hm:PySem.W.mroIn K C (.type "object")=some true):iN K H (.ref a) (.ref C)
theorem fX{x:V}{u t:Value}(I:ad X pins σ H s)(f:RelV x u)(ty:iN X.K H x t)(e:PySem.W.kitOne X.K t c=some b)(h:∀tk,Q (.bool b) { s with toks:=tk }):
  wpAny 'b' A (call (.builtin "isinstance") [u,c]) Q E s:=by
 cases ty with
 |non=>cases(show u=Value.none from f);exact PySem.W.kia_one PySem.W.kitx_none I.kIn True.intro e (λz=>nomatch z) h
 |bl y=>cases(show u=Value.bool y from f);exact PySem.W.kia_one PySem.W.kitx_bool I.kIn True.intro e (λz=>nomatch z) h
 |int i=>obtain⟨t,q⟩:=(show ∃t,u=Value.int i t from f);cases q;exact PySem.W.kia_one PySem.W.kitx_int I.kIn True.intro e (λz=>nomatch z) h
 |str y=>obtain⟨t,q⟩:=(show ∃t,u=Value.str y t from f);cases q;exact PySem.W.kia_one PySem.W.kitx_str I.kIn True.intro e (λz=>nomatch z) h
 |flt y=>obtain⟨t,q⟩:=(show ∃t,u=Value.float y t from f);cases q;exact PySem.W.kia_one PySem.W.kitx_float I.kIn True.intro e (λz=>nomatch z) h
 |@lst a xs g=>
  cases(show u=Value.ref a from f);obtain⟨_,_,n,_,h1⟩:=(show a9 X.prog X.w H s.heap a (.lst xs) from I.hok a _ g);exact PySem.W.kia_one PySem.W.kitx_list I.kIn ⟨_,h1,rfl⟩ e (λz=>nomatch z) h
 |@frz a m xs g=>
  cases(show u=Value.ref a from f);obtain⟨_,_,_,n,_,h1⟩:=(show a9 X.prog X.w H s.heap a (.frz m (.lst xs)) from I.hok a _ g);exact PySem.W.kia_one PySem.W.kitx_list I.kIn ⟨_,h1,rfl⟩ e (λz=>nomatch z) h
 |@tup a xs g=>
  cases(show u=Value.ref a from f);obtain⟨_,_,_,p⟩:=(show a9 X.prog X.w H s.heap a (.tup xs) from I.hok a _ g);obtain⟨o,h1,j,_⟩:=p;exact PySem.W.kia_one PySem.W.kitx_tuple I.kIn ⟨o,h1,j⟩ e (λz=>nomatch z) h
 |@dK a l g=>
  cases(show u=Value.ref a from f);obtain⟨_,_,vs,_,p⟩:=(show a9 X.prog X.w H s.heap a (.dK l) from I.hok a _ g);obtain⟨o,es,r,h1,j,_⟩:=p;exact PySem.W.kia_one PySem.W.kitx_dict I.kIn ⟨o,h1,j.1⟩ e (λz=>nomatch z) h
 |@dT a l g=>
  cases(show u=Value.ref a from f);obtain⟨_,_,xs,_,o,es,r,h1,j,_⟩:=(show a9 X.prog X.w H s.heap a (.dT l) from I.hok a _ g);exact PySem.W.kia_one PySem.W.kitx_dict I.kIn ⟨o,h1,j.1⟩ e (λz=>nomatch z) h
 |@ins a C dx fs g cl ha hn B hm=>
  cases(show u=Value.ref a from f);obtain⟨mA,O,_⟩:=oN I.hok g;obtain⟨od,J,_⟩:=O.look;exact PySem.W.kia_one (PySem.W.kitx_own (cl.get _) cl.hd ha hn B hm) I.kIn J e (λz=>nomatch z) h
end
structure bU (k:Nat) (A:Around):Prop where
 hd:A.handled=none
 dp:A.depth+3*k+5<recursionLimit
 un:A.units+16*k+200<cLine
theorem bU.mono{j k:Nat}{A:Around}(r:bU k A)(h:j<=k):bU j A:=⟨r.hd,by have:=r.dp;omega,by have:=r.un;omega⟩
theorem bU.deeper{k:Nat}{A:Around}(r:bU (k+1) A)(env:Env):bU k (A.deeper env):=
 ⟨r.hd,by have:=r.dp;show A.depth+1+3*k+5<_;omega,by have:=r.un;show A.units+3+16*k+200<_;omega⟩
theorem yR{A:Around}{C:Addr}{us:Zd}{a:List (Str×Value)}:(A.under (.builtin "type.__call__" ⟨.ref C::us,a⟩)).depth=A.depth+1:=by
 first | rfl | simp[Around.under,Code.weight,Code.isCreation,Code.isGuard,Code.isCaller,Code.frames,Code.isFrame,guardIds]
theorem yS{A:Around}{C:Addr}{us:Zd}{a:List (Str×Value)}:(A.under (.builtin "type.__call__" ⟨.ref C::us,a⟩)).units=A.units+1:=by
 first | rfl | simp[Around.under,Code.cUnits,Code.frames,Code.isFrame]
theorem bU.make{k:Nat}{A:Around}(r:bU (k+1) A)(C:Addr)(us:Zd)(a:List (Str×Value)):bU k (A.under (.builtin "type.__call__" ⟨.ref C::us,a⟩)):=
 ⟨r.hd,by have:=r.dp;rw[yR];omega,by have:=r.un;rw[yS];omega⟩
theorem bU.depth{k:Nat}{A:Around}(r:bU k A):A.depth<recursionLimit:=by have:=r.dp;omega
theorem bU.units{k:Nat}{A:Around}(r:bU k A):A.units+64<cLine:=by have:=r.un;omega
def K9:TA:=λ_ H Q=>Q [] H
def Kf(a:TE)(b:TA):TA:=λσ H Q=>a σ H λx c=>b σ c λxs f=>Q (x::xs) f
section
variable {X:Cx}{e:Expr}{es:Zg}{te:TE}{t:TA}{pos:Pos}
theorem Id:PA X [] K9:=λ_ _ _ _ H Q I h=>Calls.spliced_nil ⟨[],H,I,.nil,h⟩
theorem F3(ha:PE X e te)(a:PA X es t)(hs:starEach (e::es) X.env=(false,eval e X.env)::starEach es X.env:=by rfl):PA X (e::es) (Kf te t):=by
 intro pos pins s σ H Q I h;rw[hs];show wpAny _ _ (spliced ((false,eval e X.env)::backTo pos (starEach es X.env))) _ _ s;refine Calls.spliced_cons (aN (ha pins s σ H _ I h) λu s1 b=>?_);obtain⟨x,c,f,g,j⟩:=b;refine aN (a pos pins s1 σ c _ f j) λus s2 l=>?_
 obtain⟨xs,m,n,p,r⟩:=l;exact⟨x::xs,m,n,.cons g p,r⟩
def La(t:TA):TE:=λσ H Q=>t σ H λxs a=>xs.length<=sizeLine/\∀p,a p=none->Q (.ref p) (upd a p (.tup xs))
def Lb(t:TA):TE:=λσ H Q=>t σ H λxs a=>xs.length<=sizeLine/\∀p,a p=none->Q (.ref p) (upd a p (.lst xs))
theorem Ie{x1}(h:PA X es t):PE X (.Tuple es x1 pos) (La t):=by
 intro pins s σ H Q I hq;refine wpAny_Tuple_spliced (aN (h pos pins s σ H _ I hq) λus s1 ⟨xs,a,c,r,z,q⟩=>⟨by rw[←r.length];exact z,?_⟩);have hf:a s1.heap.objs.size=none:=c.hok.fresh (YG _);refine⟨.ref s1.heap.objs.size,upd a s1.heap.objs.size (.tup xs),c.laid (t':=s1.toks) (λb u e=>Yd _ e) (YG _) ?_,rfl,q _ hf⟩;exact⟨z,us,r,⟨_,Yg _ rfl,rfl,_,rfl⟩⟩
theorem Ig(h:PA X es t):PE X (.List es pos) (Lb t):=by
 intro pins s σ H Q I hq;refine wpAny_List_spliced (aN (h pos pins s σ H _ I hq) λus s1 ⟨xs,a,c,r,z,q⟩=>⟨by rw[←r.length];exact z,?_⟩);have hf:a s1.heap.objs.size=none:=c.hok.fresh (YG _);refine⟨.ref s1.heap.objs.size,upd a s1.heap.objs.size (.lst xs),c.laid (t':=s1.toks) (λb u e=>Yd _ e) (YG _) ?_,rfl,q _ hf⟩;exact⟨z,us,0,r,Yg _ rfl⟩
end
abbrev Sp:=List V->Hp->VK->XK->Prop
abbrev pM:=List Env->Hp->Shared->XK->Value->Shared->Prop
structure db (P:Zv) (w:World) (K:Za) (mg:Ze) (base:Heap) (A:Around) (outer:List Env) (s:Shared) (H:Hp):Prop where
 frames:A.frames=some outer
 mod:Mod K mg base
 bs:∀b o,base.get? b=some o->s.heap.get? b=some o/\H b=none
 bsz:base.objs.size<=s.heap.objs.size
 funs:s.heap.FunFrames base outer
 frf:∀b∈lE outer,H b=none
 hok:cm P w H s.heap
 bare:AllBare s.gens
def CE(outer:List Env)(P:Zv)(w:World)(H:Hp)(s:Shared)(Q:VK)(u:Value)(a:Shared):Prop:=
 ∃v H',a.os=s.os/\AllBare a.gens/\Un (lE outer) [] H H' s.heap a.heap/\cm P w H' a.heap/\RelV v u/\Q v H'
def CR(CX:pM)(outer:List Env)(P:Zv)(w:World)(H:Hp)(s:Shared)(Q:VK)(E:XK)(r:Result)(a:Shared):Prop:=
 match r with
 |.ok (.ret u)=>CE outer P w H s Q u a
 |.ok _=>False
 |.error e=>CX outer H s E e a
structure eJ (P:Zv) (w:World) (K:Za) (mg:Ze) (base:Heap) (CX:pM) (k:Nat) (f:Addr) (fd:Zu) (ps:Zf) (sp:Sp):Prop where
 len:∀vs H Q E,sp vs H Q E->vs.length=ps.length
 run:∀(A:Around) (outer:List Env) (s:Shared) (H:Hp) (args:Args) (us:Zd) (vs:List V) (Q:VK) (E:XK),bU k A->db P w K mg base A outer s H->BindsTo s fd args (ps.zip us)->ak vs us->sp vs H Q E ->
  codeAny (model P w) A (.call (.ref f) args) (CR CX outer P w H s Q E) s
theorem db.make{P:Zv}{w:World}{K:Za}{mg:Ze}{base:Heap}{A:Around}{outer:List Env}{s:Shared}{H:Hp}(e:db P w K mg base A outer s H)(C:Addr)(us:Zd)(a:List (Str×Value)):
  db P w K mg base (A.under (.builtin "type.__call__" ⟨.ref C::us,a⟩)) outer s H:=⟨by first | exact e.frames | (simpa [Around.under,Code.envs,Code.isFrame,pushEnvs] using e.frames),e.mod,e.bs,e.bsz,e.funs,e.frf,e.hok,e.bare⟩
section
variable {X:Cx}{pins:Zc}{σ:St}{H:Hp}{s s':Shared}
theorem ad.env0(I:ad X pins σ H s):db X.prog X.w X.K X.mg X.base X.A X.stack s H:=
 ⟨I.ok.frames,I.ok.mod,I.bs,ZY I.ok.bsz I.sz,I.stack,I.stkFree,I.hok,I.bare⟩
theorem ad.after{Q:VK}{u:Value}(I:ad X pins σ H s)(h:CE X.stack X.prog X.w H s Q u s'):EP X pins σ Q u s':=by
 obtain⟨v,H',os,bare,un,hok,r,q⟩:=h;obtain⟨a,g,d,t,c⟩:=s';obtain rfl:c=s.os:=os;exact⟨v,H',I.call (h':=a) (g':=g) (d':=d) (t':=t) (ch:=[]) un hok bare (λb z=>absurd z (by simp)),r,q⟩
end
def Fb(sp:Sp)(a:List V)(E:XK)(t:TA):TE:=λσ H Q=>t σ H λvs b=>sp (vs++a) b Q E
def Kg(C:Addr)(sp:Sp)(b:List V)(E:XK)(t:TA):TE:=λσ H Q=>t σ H λvs a=>∀x dx,a x=none->a dx=none->dx≠x ->
 sp (.ref x::(vs++b)) (upd (upd a dx (.own x)) x (.ins C dx [])) (λv c=>v=.non/\Q (.ref x) c) E
def Binds(K:Za)(fd:Zu)(ps:Zf)(ds:Zd):Prop:=
 ∀(s:Shared) (us:Zd),K.In s.heap->(us++ds).length=ps.length->BindsTo s fd ⟨us,[]⟩ (ps.zip (us++ds))
theorem Binds.all{K:Za}{fd:Zu}{ps:Zf}(h:∀us:List Value,us.length=ps.length->bindArgs fd ⟨us,[]⟩=pure (ps.zip us)):Binds K fd ps []:=λs us _ hl=>by
 rw[ZA] at hl ⊢;exact .of_eq (h us hl)
def nI(CX:pM)(X:Cx)(E:XK):Prop:=∀(pins:Zc) (σ:St) (H:Hp) (s:Shared) (e:Value) (a:Shared),ad X pins σ H s->CX X.stack H s E e a->X.xe e a
section
variable {X:Cx}{CX:pM}{k:Nat}{f C:Addr}{fd:Zu}{ps:Zf}{sp:Sp}{Na:List V}{ds:Zd}{E:XK}{x m:Str}{p pos o_:Pos}{e o:Expr}{es:Zg}{ta:TE}{t:TA}
theorem uY{pins:Zc}{σ:St}{H:Hp}{s:Shared}{Q:VK}{us:Zd}{vs:List V}(F:eJ X.prog X.w X.K X.mg X.base CX k f fd ps sp)(b:bU k X.A)(hb:Binds X.K fd ps ds)(hd:ak Na ds)(hx:nI CX X E)
  (I:ad X pins σ H s) (r:ak vs us) (h:sp (vs++Na) H Q E):wpAny 'b' X.A (call (.ref f) us) (EP X pins σ Q) X.xe s:=by
 have a:ak (vs++Na) (us++ds):=r.append hd;have hl:(us++ds).length=ps.length:=by rw[←a.length];exact F.len _ _ _ _ h
 refine wpAny_call (codeAny_mono (F.run X.A X.stack s H ⟨us,[]⟩ (us++ds) (vs++Na) Q E b I.env0 (hb s us I.kIn hl) a h) λr c hq=>?_);cases r with
 |error e=>exact hx pins σ H s e c I hq
 |ok fl=>
  cases fl with
  |ret u=>exact I.after hq
  |next=>exact Yh hq
  |brk=>exact Yh hq
  |cont=>exact Yh hq
theorem F4(F:eJ X.prog X.w X.K X.mg X.base CX k f fd ps sp)(b:bU k X.A)(hg:Gl X x)(hm:X.mg x=some (.ref f))(hk:PySem.W.keepIn X.K (.ref f)=true)(hb:Binds X.K fd ps ds)(hd:ak Na ds)(hx:nI CX X E)
  (ha:PA X (e::es) t) (c:(x==("__debug__" : Str))=false:=by decide) (g:starEach (e::es) X.env=(false,eval e X.env)::starEach es X.env:=by rfl) (j:(backTo pos (starEach es X.env)).any (·.1)=false:=by rfl):
  PE X (.Call (.Name x p) (e::es) [] pos) (Fb sp Na E t):=by
 intro pins s σ H Q I h;refine wpAny_Call_Name_kw (sR I hg hm ?_ c);refine PySem.W.callWith_K (h₀:=X.base) I.ok.mod.kin hk (aN (ha pos pins s σ H _ I h) λus s1 l=>?_) g j;obtain⟨vs,n,a,r,q⟩:=l;refine⟨a.kIn,?_⟩;exact uY F b hb hd hx a r q
structure Mk (K:Za) (C f:Addr):Prop where
 makes:PySem.W.makesIn K C=true
 init:PySem.W.findIn K (.ref C) "__init__" = some (some (.ref f))
 fn:PySem.W.isFn K (.ref f)=true
 kp:PySem.W.keepIn K (.ref C)=true
theorem CO{pins:Zc}{σ:St}{H:Hp}{s:Shared}{Q:VK}{us:Zd}{vs:List V}(M:Mk X.K C f)(F:eJ X.prog X.w X.K X.mg X.base CX k f fd ps sp)(g:bU (k+1) X.A)(hb:Binds X.K fd ps ds)(hd:ak Na ds)
  (hx:nI CX X E) (I:ad X pins σ H s) (r:ak vs us)
  (h:∀x dx,H x=none->H dx=none->dx≠x->sp (.ref x::(vs++Na)) (upd (upd H dx (.own x)) x (.ins C dx [])) (λv j=>v=.non/\Q (.ref x) j) E):
  wpAny 'b' X.A (call (.ref C) us) (EP X pins σ Q) X.xe s:=by
 have hq:=h (s.heap.objs.size+1) s.heap.objs.size (I.hok.fresh (YN _)) (I.hok.fresh (YG _)) (ZV (Nat.lt_succ_self _));have b:=ad.made (C:=C) I;have c:ak (V.ref (s.heap.objs.size+1)::(vs++Na)) (Value.ref (s.heap.objs.size+1)::(us++ds)):=.cons rfl (r.append hd);have hl:(Value.ref (s.heap.objs.size+1)::us++ds).length=ps.length:=by
  have e:=c.length;rw[F.len _ _ _ _ hq] at e;exact e.symm
 refine wpAny_call (CM (f:=f) I.kIn M.makes M.init (beq_iff_eq.mp M.fn) (codeAny_mono (F.run _ X.stack _ _ ⟨Value.ref (s.heap.objs.size+1)::us,[]⟩ (Value.ref (s.heap.objs.size+1)::(us++ds)) _ _ E (g.make C us [])
  (b.env0.make C us []) (hb _ (Value.ref (s.heap.objs.size+1)::us) b.kIn hl) c hq) λr l a=>?_))
 cases r with
 |error e=>exact hx pins σ _ _ e l b a
 |ok fl=>
  cases fl with
  |ret u=>
   obtain⟨v,H',n,y,z,B⟩:=b.after a;subst z;exact⟨y,⟨V.ref (s.heap.objs.size+1),H',n,rfl,B⟩⟩
  |next=>exact Yh a
  |brk=>exact Yh a
  |cont=>exact Yh a
theorem F5(M:Mk X.K C f)(F:eJ X.prog X.w X.K X.mg X.base CX k f fd ps sp)(b:bU (k+1) X.A)(hg:Gl X x)(hm:X.mg x=some (.ref C))(hb:Binds X.K fd ps ds)(hd:ak Na ds)(hx:nI CX X E)
  (ha:PA X (e::es) t) (c:(x==("__debug__" : Str))=false:=by decide) (g:starEach (e::es) X.env=(false,eval e X.env)::starEach es X.env:=by rfl) (j:(backTo pos (starEach es X.env)).any (·.1)=false:=by rfl):
  PE X (.Call (.Name x p) (e::es) [] pos) (Kg C sp Na E t):=by
 intro pins s σ H Q I h;refine wpAny_Call_Name_kw (sR I hg hm ?_ c);refine PySem.W.callWith_K (h₀:=X.base) I.ok.mod.kin M.kp (aN (ha pos pins s σ H _ I h) λus s1 l=>?_) g j;obtain⟨vs,n,a,r,q⟩:=l;refine⟨a.kIn,?_⟩;exact CO M F b hb hd hx a r q
end
structure cp (N P:Zf) (sc:Scope):Prop where
 kind:sc.kind=.function
 co:sc.isCoroutine=false
 gen:sc.isGenerator=false
 nd:N.Nodup
 pre:N.take P.length=P
 par:∀x∈P,sc.names.lookup x=some .local \/ sc.names.lookup x=some .cell
 nofree:∀y∈sc.names,y.2≠.free
theorem tK{kindOf:Str->Option NameKind}{x:Str}:∀{binds:List (Str×Value)}{m:Ze},(∀v,(x,v)∉binds)->bindL kindOf binds m x=m x
 |[],_,_=>rfl
 |(n,v)::r,m,h=>by
  unfold bindL;rw[tK λw hw=>h w (YA _ hw)];split
  ·have:x≠n:=by rintro rfl;exact h v ZZ
   simp[this]
  ·rfl
theorem tL{kindOf:Str->Option NameKind}{x:Str}:∀{binds:List (Str×Value)}{m:Ze},(∀v,(x,v)∉binds)->bindC kindOf binds m x=m x
 |[],_,_=>rfl
 |(n,v)::r,m,h=>by
  unfold bindC;rw[tL λw hw=>h w (YA _ hw)];split
  ·rfl
  ·have:x≠n:=by rintro rfl;exact h v ZZ
   simp[this]
theorem tM{kindOf:Str->Option NameKind}{x:Str}{v:Value}:∀{P:Zf}{vs:Zd}{i:Nat}{m:Ze},P.Nodup->P[i]?=some x->vs[i]?=some v->kindOf x=some .local ->
  bindL kindOf (P.zip vs) m x=some v
 |[],_,_,_,_,h,_,_=>by simp at h
 |_::_,[],_,_,_,_,h,_=>by simp at h
 |p::P,w::vs,0,m,nd,h1,a,hk=>by
  simp at h1 a;subst h1;subst a;show bindL kindOf ((p,w)::P.zip vs) m p=_;unfold bindL;rw[tK λv hv=>(YO.mp nd).1 (List.of_mem_zip hv).1,if_pos hk];simp
 |p::P,w::vs,i+1,m,nd,h1,a,hk=>by
  show bindL kindOf ((p,w)::P.zip vs) m x=_;unfold bindL;exact tM (i:=i) (YO.mp nd).2 (by simpa using h1) (by simpa using a) hk
theorem tN{kindOf:Str->Option NameKind}{x:Str}{v:Value}:∀{P:Zf}{vs:Zd}{i:Nat}{m:Ze},P.Nodup->P[i]?=some x->vs[i]?=some v->kindOf x≠some .local ->
  bindC kindOf (P.zip vs) m x=some v
 |[],_,_,_,_,h,_,_=>by simp at h
 |_::_,[],_,_,_,_,h,_=>by simp at h
 |p::P,w::vs,0,m,nd,h1,a,hk=>by
  simp at h1 a;subst h1;subst a;show bindC kindOf ((p,w)::P.zip vs) m p=_;unfold bindC;rw[tL λv hv=>(YO.mp nd).1 (List.of_mem_zip hv).1,if_neg hk];simp
 |p::P,w::vs,i+1,m,nd,h1,a,hk=>by
  show bindC kindOf ((p,w)::P.zip vs) m x=_;unfold bindC;exact tN (i:=i) (YO.mp nd).2 (by simpa using h1) (by simpa using a) hk
def start(N:Zf)(vs:List V):St:=vs.map some++List.replicate (N.length-vs.length) none
def nJ(CX:pM)(P:Zv)(w:World)(K:Za)(mg:Ze)(base:Heap)(N:Zf)(k_:Str)(scope:Scope)(f:Addr)(a:Value)(A:Around)(outer:List Env)(s:Shared)(H:Hp)(E:XK):Cx where
 prog:=P
 w:=w
 K:=K
 mg:=mg
 base:=base
 A:=A.deeper (envOfC k_ scope s.heap.objs.size f a)
 N:=N
 s₀:=s
 H₀:=H
 env:=envOfC k_ scope s.heap.objs.size f a
 outer:=outer
 stack:=envOfC k_ scope s.heap.objs.size f a::outer
 ex:=[]
 calm:=true
 fn:=λ_=>true
 pn:=[]
 xe:=λe c=>wpAny (model P w) (A.deeper (envOfC k_ scope s.heap.objs.size f a)) (leaving (envOfC k_ scope s.heap.objs.size f a) e) (λ_ b=>CX outer H s E e b) (λe' b=>CX outer H s E e' b) c
theorem uZ{sc:Scope}{n:Nat}{x:Str}(h:sc.names.lookup x=some .cell):∃c,(cellsFrom n sc.names []).lookup x=some c:=by
 have q:=PySem.W.cellsFrom_some sc.names n [] (.inl h);exact Option.isSome_iff_exists.mp q
theorem AC{CX:pM}{P:Zv}{w:World}{K:Za}{mg:Ze}{base:Heap}{N ps:Zf}{k_:Str}{scope:Scope}{f:Addr}{l:Value}{A:Around}{outer:List Env}{s s1:Shared}{H:Hp}{E:XK}{us:Zd}{vs:List V}
  (S:cp N ps scope) (hd:A.handled=none) (j:db P w K mg base A outer s H) (hl:vs.length=ps.length) (r:ak vs us)
  (x:InCallC s s.heap.objs.size (bindL (envOfC k_ scope s.heap.objs.size f l).kindOf (ps.zip us) λ_=>none) (cellsFrom (s.heap.objs.size+1) scope.names []) (bindC (envOfC k_ scope s.heap.objs.size f l).kindOf (ps.zip us) λ_=>none) s1):
  ad (nJ CX P w K mg base N k_ scope f l A outer s H E) [] (start N vs) H s1:=by
 have C:ps.length<=N.length:=by have:=congrArg List.length S.pre;rw[YS] at this;omega
 obtain⟨h1,tk,rfl,hk⟩:=x.done;have m:∀b:Addr,b∉(nJ CX P w K mg base N k_ scope f l A outer s H E).ex:=λb z=>absurd (show b∈([]:List Addr) from z) (by simp)
 refine⟨⟨j.mod,S.kind,rfl,rfl,YG _,λy z c h1 g=>?_,λy hy=>?_,λy c _ h=>?_,λ_=>hd,Around.frames_deeper j.frames,.inr ⟨rfl,rfl⟩,λb z=>absurd z (m b),j.bs,j.bsz,λb _ _=>m b,λb z=>absurd z (m b),j.funs,j.frf⟩,
  rfl,j.bare,Un.kept hk,⟨_,x.toInCall.ns,λi y v h1 g G=>?_⟩,λy c h=>⟨_,x.cell y c h⟩,j.hok.fresh (YG _),λy c h=>?_,λp hp=>absurd (show p∈([]:List (Addr×Obj)) from hp) (by simp),j.hok.kept hk,?_⟩
 ·exact name_of_addr x.apart (PySem.mem_of_lookup h1) (PySem.mem_of_lookup g)
 ·have hy:scope.names.lookup y=some .cell\/scope.names.lookup y=some .free:=hy
  rcases hy with hy | hy
  ·exact uZ hy
  ·exact absurd rfl (S.nofree _ (PySem.mem_of_lookup hy))
 ·exact Nat.le_of_lt (x.above y c (PySem.mem_of_lookup h))
 ·have hi:i<vs.length:=by
   unfold start at g;by_cases hi:i<vs.length
   ·exact hi
   ·rw[ZI (by simpa using hi)] at g
    rw[List.getElem?_replicate] at g;split at g<;>cases g
  have ha:vs[i]?=some v:=by
   unfold start at g;rw[ZF (by simpa using hi),ZH] at g;cases e:vs[i]? with
   |none=>rw[e] at g;cases g
   |some a=>rw[e] at g;cases g;rfl
  obtain⟨u,hu,B⟩:=r.get ha;have hp:ps[i]?=some y:=by
   rw[←S.pre,List.getElem?_take_of_lt 'a'];exact h1
  have t:ps.Nodup:=by rw[←S.pre];exact S.nd.sublist (List.take_sublist _ _)
  refine⟨u,B,?_⟩;rcases S.par y (YT hp) with k | k
  ·exact .inl ⟨k,tM t hp hu k⟩
  ·obtain⟨c,e⟩:=uZ (n:=s.heap.objs.size+1) k
   refine .inr ⟨.inl k,c,e,?_⟩;have q:=x.cell y c e;rw[tN t hp hu (by show scope.names.lookup y≠_;rw[k];decide)] at q;exact q
 ·exact j.hok.fresh (Nat.le_of_lt (x.above y c (PySem.mem_of_lookup h)))
 ·unfold start
  show _=N.length;rw[ZM,ZG,List.length_replicate];omega
theorem Kh{CX:pM}{P:Zv}{w:World}{K:Za}{mg:Ze}{base:Heap}{k:Nat}{f:Addr}{name k_:Str}{a:Arguments}{body:Zt}{scope:Scope}{z kV x_ pm s_ ct oc:Value}{an od:Zm}
  {K_:Zn}{N ps:Zf}{sp:Sp}(G:K.lookup f=some ⟨oc,od,.func (PySem.W.fnOf name k_ a body scope z kV x_ pm an s_ ct),K_⟩) (L:PySem.W.codeIn K s_ k_=true) (S:cp N ps scope)
  (len:∀vs H Q E,sp vs H Q E->vs.length=ps.length)
  (O:∀(A:Around) (outer:List Env) (s:Shared) (H:Hp) (vs:List V) (Q:VK) (E:XK),bU k (A.deeper (envOfC k_ scope s.heap.objs.size f s_))->sp vs H Q E ->
   ∃t,kl (nJ CX P w K mg base N k_ scope f s_ A outer s H E) body t/\t { nx:=λ_ H'=>Q .non H',rt:=Q } (start N vs) H):
  eJ P w K mg base CX (k+1) f (PySem.W.fnOf name k_ a body scope z kV x_ pm an s_ ct) ps sp:=by
 refine⟨len,λA outer s H args us vs Q E j c hb r B=>?_⟩;have hl:=len _ _ _ _ B;have C:K.In s.heap:=c.mod.kin.keeps λb o e=>(c.bs b o e).1
 have l:s.heap.NoLimit:=c.mod.nolimit.keeps λb o e=>(c.bs b o e).1
 have R:∀y∈ps.zip us,scope.names.lookup y.1=some .local \/ (scope.names.lookup y.1=some .cell/\((cellsFrom (s.heap.objs.size+1) scope.names []).lookup y.1).isSome=true):=λ⟨n,v⟩ hy=>by
  rcases S.par n (List.of_mem_zip hy).1 with q | q
  ·exact .inl q
  ·exact .inr ⟨q,PySem.W.cellsFrom_some _ _ _ (.inl q)⟩
 refine codeAny_call_function j.depth (C _ _ G) rfl S.co S.gen rfl (PySem.W.codeRec_of C L) (hb _ _ _ _ ?_);refine wpAny_newFunctionEnv_cells S.kind R λenv T s1 x=>?_
 subst T;refine⟨l.keeps x.toInCall.keep,codeAny_func ?_⟩;obtain⟨t,ht,hq⟩:=O A outer s H vs Q E (j.deeper _) B;have I:ad (nJ CX P w K mg base N k_ scope f s_ A outer s H E) [] (start N vs) H s1:=AC S j.hd c hl r x;refine wpAny_mono (ht [] s1 (start N vs) H _ I hq) (λfl m hs=>?_) λe m hs=>hs
 have fin:∀{g:St}{H':Hp}{v:V}{u:Value},ad (nJ CX P w K mg base N k_ scope f s_ A outer s H E) [] g H' m->RelV v u->Q v H'->CE outer P w H s Q u m:=
  λ{g H' v u} J p q=>⟨v,H',J.os,J.bare,J.base,J.hok,p,q⟩
 cases fl with
 |ret u=>
  obtain⟨v,g,H',J,p,q⟩:=hs;exact fin J p q
 |next=>
  obtain⟨g,H',J,q⟩:=hs;exact fin (v:=V.non) (u:=Value.none) J rfl q
 |brk=>
  obtain⟨_,_,_,q⟩:=hs;exact Yh q
 |cont=>
  obtain⟨_,_,_,q⟩:=hs;exact Yh q
section
variable {X:Cx}{x:Str}{p pos:Pos}{e:Expr}{es:Zg}{t:TA}{id T:String}{r:List V->Hp->VK->Prop}
def Ky(r:List V->Hp->VK->Prop)(t:TA):TE:=λσ H Q=>t σ H λvs a=>r vs a Q
theorem CP(hc:fF X (.builtin id) r)(hg:Gl X x)(hm:X.mg x=none)(hv:bootBuiltins x=some (.builtin id))(ha:PA X (e::es) t)(hn:x ≠ "__name__":=by decide)(a:(x==("__debug__" : Str))=false:=by decide)
  (b:starEach (e::es) X.env=(false,eval e X.env)::starEach es X.env:=by rfl) (c:(backTo pos (starEach es X.env)).any (·.1)=false:=by rfl):PE X (.Call (.Name x p) (e::es) [] pos) (Ky r t):=by
 intro pins s σ H Q I h;refine wpAny_Call_Name_kw (dh I hg hm hv ?_ hn a);refine PyProof.Rows.callWith_builtin1 (aN (ha pos pins s σ H _ I h) λus s1 f=>?_) b c;obtain⟨vs,g,j,l,m⟩:=f;exact hc pins s1 σ g vs us Q j l m
theorem AD(hc:fF X (.type T) r)(hg:Gl X x)(hm:X.mg x=none)(hv:bootBuiltins x=some (.type T))(ha:PA X (e::es) t)(hn:x ≠ "__name__":=by decide)(a:(x==("__debug__" : Str))=false:=by decide)
  (b:starEach (e::es) X.env=(false,eval e X.env)::starEach es X.env:=by rfl) (c:(backTo pos (starEach es X.env)).any (·.1)=false:=by rfl):PE X (.Call (.Name x p) (e::es) [] pos) (Ky r t):=by
 intro pins s σ H Q I h;refine wpAny_Call_Name_kw (dh I hg hm hv ?_ hn a);refine PyProof.Rows.callWith_type1 (aN (ha pos pins s σ H _ I h) λus s1 f=>?_) b c;obtain⟨vs,g,j,l,m⟩:=f;exact hc pins s1 σ g vs us Q j l m
end
end L2
namespace HT
open PySem PyProof.Rows
def lexLt:List Int->List Int->Bool
 |[],[]=>false
 |[],_::_=>true
 |_::_,[]=>false
 |x::xs,y::ys=>if x=y then lexLt xs ys else decide (x<y)
theorem l4(x y:Int)(xs ys:Zi):lexLt (x::xs) (y::ys)=if x=y then lexLt xs ys else decide (x<y):=rfl
theorem mU:lexLt [] []=false:=rfl
theorem sU(y:Int)(ys:Zi):lexLt [] (y::ys)=true:=rfl
theorem sV(x:Int)(xs:Zi):lexLt (x::xs) []=false:=rfl
theorem CQ(A:Around)(s:Shared)(a:Int)(t:Tok)(c:Int)(u:Tok):∃e,SeqAt.EqAt A s (.int a t) (.int c u) e/\(e=true↔a=c):=
 ⟨(a==c),SeqAt.EqAt.int_int a t c u,by simp⟩
theorem CS(A:Around)(s:Shared)(a:Int)(t:Tok)(c:Int)(u:Tok)(prog:Zv)(w:World)(E:Zb)(Q:Zb)(h:Q (.bool (decide (a<c))) s):
  wpAny 'd' A (richCompare .Lt (.int a t) (.int c u)) Q E s:=
 (PyProof.Rows.lt_int h:wpAny 'd' A (compareOp .Lt (.int a t) (.int c u)) Q E s)
section
open PySem.SeqAt
open PySem.AutoSeq1 (wpAny_loadPart')
open PySem.MeetsSeq PySem.MeetsSeq2 PySem.MeetsSeq3
theorem ur(l b:Addr)(f j:Zl)(n J:Nat)(K L:Zm)(sl O:Zn)(ns r:Zi)(hi:IntsAre f.toList ns)(C:IntsAre j.toList r):
  Meets (Builtin.«tuple.__lt__» ⟨[.ref l,.ref b],[]⟩)
   (λ_ R s=>s.heap.get? l=some { cls:=.type "tuple",dict:=K,data:=.seq f n,slots:=sl }/\s.heap.get? b=some { cls:=.type "tuple",dict:=L,data:=.seq j J,slots:=O } /\
    R (.ok (.ret (.bool (lexLt ns r)))) s):=
 .of_wp λprog w A R s h=>by
  obtain⟨hp,g,d,tk,os⟩:=s;obtain⟨hl,hb,h⟩:=h;have V:=AutoSeq1.sub_tuple_tuple;have W:f.size=ns.length:=by rw[←hi.length];simp
  have Y:j.size=r.length:=by rw[←C.length];simp
  wp_walk using wpAny_loadPart' hl,wpAny_loadPart' hb,wpAny_forIn_list _ (λrest b B=>b.1=none/\B=⟨hp,g,d,tk,os⟩/\∃(vs z:Zd) (m p:Zi),rest=vs.zip z /\
   IntsAre vs m/\IntsAre z p/\m.length+j.size=p.length+f.size/\R (.ok (.ret (.bool (lexLt m p)))) ⟨hp,g,d,tk,os⟩) _
  case turn=>
   rintro⟨y,x⟩ rest b B ⟨F_,rfl,vs,z,m,p,hz,hvi,hwi,h_,hR⟩;cases hvi with
   |nil=>rw[List.zip_nil_left] at hz;cases hz
   |cons a t P=>
    cases hwi with
    |nil=>rw[List.zip_nil_right] at hz;cases hz
    |cons c u S=>
     rw[List.zip_cons_cons] at hz;injection hz with hyx hrest
     injection hyx with hy hx
     subst hy hx;rw[l4] at hR;simp only[YJ] at h_;obtain⟨e,T,G⟩:=CQ A.in1 ⟨hp,g,d,tk,os⟩ a t c u;refine Yb (T prog w _ _ ?_);cases e with
     |true=>
      rw[if_pos (G.mp rfl)] at hR;wp_walk;exact⟨rfl,rfl,_,_,_,_,hrest,P,S,by omega,hR⟩
     |false=>
      rw[if_neg (λq=>absurd (G.mpr q) YF)] at hR;have U:=CS A.in1 ⟨hp,g,d,tk,os⟩ a t c u prog w;wp_walk using U;exact⟨_,rfl,by simpa using hR⟩
  case fin=>
   rintro⟨b1,b2⟩ B ⟨F_,rfl,vs,z,m,p,hz,hvi,hwi,h_,hR⟩;simp only at F_;subst F_;have hv:lexLt m p=decide (f.size<j.size):=by
    cases hvi with
    |nil=>
     cases hwi with
     |nil=>
      simp only[YU] at h_;rw[mU];exact(ZR 'a').symm
     |cons c u hw=>
      simp only[YU,YJ] at h_;rw[sU];exact(YV 'a').symm
    |cons a t hv=>
     cases hwi with
     |nil=>
      simp only[YU,YJ] at h_;rw[sV];exact(ZR 'a').symm
     |cons c u hw=>
      rw[List.zip_cons_cons] at hz;cases hz
   rw[hv] at hR;wp_walk;exact⟨_,rfl,by simpa [Builtin.Tuple.tupleCompareSizes] using hR⟩
  case h=>
   exact⟨rfl,rfl,f.toList,j.toList,ns,r,rfl,hi,C,by omega,h⟩
end
section
variable {prog:Zv}{w:World}{A:Around}{E:Zb}{s:Shared}
theorem yT{l b:Addr}{c f:Zl}{ns a:Zi}{Q:Zb}(hl:IsTup s.heap l c)(hb:IsTup s.heap b f)(hi:IntsAre c.toList ns)(r:IntsAre f.toList a)
  (hu:A.units<cLine) (h:Q (.bool (lexLt ns a)) s):wpAny 'd' A (compareOp .Lt (.ref l) (.ref b)) Q E s:=by
 obtain⟨⟨cls,t,data,sl⟩,g,hc,n,hd⟩:=id hl;obtain⟨⟨B,u,data2,y⟩,j,m,z,p⟩:=id hb;simp only at hc hd m p;subst hc hd m p;exact richCompare_meets_room (op:=.Lt) ⟨_,g,rfl⟩ ⟨_,j,rfl⟩ PySem.F.slot_tuple_lt PySem.F.entry_tuple_lt (PySem.F.args_tuple_lt_2 _ _) (ur l b c f n z t u sl y ns a hi r)
  ⟨g,j,show Value.bool (lexLt ns a)≠Value.notImplemented/\Q (.bool (lexLt ns a)) s from⟨(λx=>nomatch x),h⟩⟩ hu
theorem F6{t b:Addr}{vs a:Zd}{Q:Zb}(ht:IsTup s.heap t vs.toArray)(hb:IsTup s.heap b a.toArray)(hv:vs≠[])
  (h1:a=[]->Q (.ref t) s) (u:a≠[]->Q (.ref s.heap.objs.size) { s with heap:=s.heap.push { cls:=.type "tuple",data:=.seq (vs++a).toArray } })
  (hsz:vs.length+a.length<=sizeLine):wpAny 'd' A (binaryOp .Add (.ref t) (.ref b)) Q E s:=by
 obtain⟨⟨cls,g,data,sl⟩,c,hc,n,hd⟩:=id ht;obtain⟨⟨y,j,data2,l⟩,f,m,p,r⟩:=id hb;simp only at hc hd m r;subst hc hd m r;have e:vs.toArray++a.toArray=(vs++a).toArray:=by simp
 by_cases hw:a=[]
 ·exact concat_meets ⟨_,c,rfl⟩ ⟨_,f,rfl⟩ noFill_tuple_add seq_tuple_add PySem.F.slot_tuple_add PySem.F.entry_tuple_add (PySem.F.args_tuple_add_2 _ _)
   (tuple_addW1 t b vs.toArray a.toArray n p g j sl l (by simpa using hv) (by simp[hw])) ⟨c,f,h1 hw⟩
 ·refine concat_meets ⟨_,c,rfl⟩ ⟨_,f,rfl⟩ noFill_tuple_add seq_tuple_add PySem.F.slot_tuple_add PySem.F.entry_tuple_add (PySem.F.args_tuple_add_2 _ _)
   (tuple_addW2 t b vs.toArray a.toArray n p g j sl l (by simpa using hv) (by simpa using hw) (by rw[YI,YI];exact hsz)) ⟨c,f,?_⟩
  rw[e];exact u hw
def a0(n d:Nat):Option Int->Nat
 |none=>d
 |some v=>if v<0 then(v+(n:Int)).toNat else min v.toNat n
theorem CU(n d:Nat):a0 n d none=d:=rfl
theorem sW(n d k:Nat):a0 n d (some (k:Int))=min k n:=by
 show(if(k:Int)<0 then((k:Int)+(n:Int)).toNat else min (k:Int).toNat n)=min k n;rw[if_neg 'a',YW]
theorem Ih(n d:Nat)(hd:d<=n)(o:Zp):a0 n d o<=n:=by
 cases o with
 |none=>exact hd
 |some v=>
  show(if v<0 then(v+(n:Int)).toNat else min v.toNat n)<=n;by_cases hv:v<0
  ·rw[if_pos hv];omega
  ·rw[if_neg hv];exact Nat.min_le_right _ _
theorem xH(v:Int)(n d:Nat):(if v<0 then max (v+(n:Int)) 0 else min v (n:Int))=((a0 n d (some v):Nat):Int):=by
 show(if v<0 then max (v+(n:Int)) 0 else min v (n:Int))=(((if v<0 then(v+(n:Int)).toNat else min v.toNat n):Nat):Int);by_cases hv:v<0
 ·simp only[if_pos hv];omega
 ·simp only[if_neg hv];omega
theorem yU(lo hi:Zp)(n:Nat):Builtin.Slice.sliceAdjust lo hi 1 (n:Int)=(((a0 n 0 lo:Nat):Int),((a0 n n hi:Nat):Int)):=by
 have h1:¬((1:Int)<0):=by omega
 unfold Builtin.Slice.sliceAdjust;simp only[h1,if_false];refine Prod.ext ?_ ?_
 ·cases lo with
  |none=>rfl
  |some v=>exact xH v n 0
 ·cases hi with
  |none=>rfl
  |some v=>exact xH v n n
theorem yV(i j:Nat):Builtin.Slice.slicePlaces (i:Int) (j:Int) 1=j-i:=by
 unfold Builtin.Slice.slicePlaces;have h1:(1:Int)>0:=by omega
 simp only[h1,if_true,Int.ediv_one];split<;>omega
theorem qT{v:Value}{o:Zp}{Q:Option Int->Shared->Prop}(p:IsPart v o)(h:Q o s):wpAny 'd' A (Builtin.Slice.slicePartIndex v) Q E s:=by
 cases p with
 |none=>exact slicePart_none h
 |int i t=>exact slicePart_int h
theorem jr{sl:Addr}{a b:Value}{lo hi:Zp}{n:Nat}{Q:Int×Int×Nat->Shared->Prop}(hs:s.heap.IsSliceOf sl a b .none)(g:IsPart a lo)(j:IsPart b hi)
  (h:Q (((a0 n 0 lo:Nat):Int),1,a0 n n hi-a0 n 0 lo) s):wpAny 'd' A (Builtin.Slice.sliceApplied (.ref sl) (pure (n:Int))) Q E s:=by
 obtain⟨os,c,l,f⟩:=id hs;unfold Builtin.Slice.sliceApplied Builtin.Slice.sliceFields;refine Yb (Yb (wpAny_field c f (x:=a) rfl (Yb (wpAny_field c f (x:=b) rfl (Yb (wpAny_field c f (x:=.none) rfl (Yc ?_)))))));refine Yb (slicePart_none ?_);show wpAny _ _ (if((1:Int)==0)=true then _ else _) _ _ s;rw[if_neg 'c'];refine Yb (qT g (Yb (qT j (Yb (Yc ?_)))));show wpAny _ _ (match Builtin.Slice.sliceAdjust lo hi 1 (n:Int) with | (lo,hi)=>pure (lo,(1:Int),Builtin.Slice.slicePlaces lo hi 1)) _ _ s;rw[yU lo hi n];show wpAny _ _ (pure (((a0 n 0 lo:Nat):Int),(1:Int),Builtin.Slice.slicePlaces ((a0 n 0 lo:Nat):Int) ((a0 n n hi:Nat):Int) 1)) _ _ s;rw[yV];exact Yc h
theorem CV(xs:Zl)(i k:Nat):((List.range k).filterMap λ(m:Nat)=>xs[((i:Int)+(m:Int)*1).toNat]?).toArray=((xs.toList.drop i).take k).toArray:=by
 have e:(λ(m:Nat)=>xs[((i:Int)+(m:Int)*1).toNat]?)=λm=>xs[i+m]?:=by
  funext m;have:((i:Int)+(m:Int)*1).toNat=i+m:=by omega
  rw[this]
 rw[e]
 have:=pick_run xs i k
 rw[List.filterMap_map] at this;have e2:((λx=>xs[x]?)∘λx=>i+x)=λm=>xs[i+m]?:=rfl
 rw[e2] at this;rw[this]
theorem pG{t sl:Addr}{a:Zl}{c f:Value}{lo hi:Zp}{Q:Zb}(ht:IsTup s.heap t a)(hs:s.heap.IsSliceOf sl c f .none)(g:IsPart c lo)(j:IsPart f hi)
  (hw:¬(a0 a.size 0 lo=0/\a0 a.size a.size hi=a.size))
  (h:Q (.ref s.heap.objs.size) { s with heap:=s.heap.push { cls:=.type "tuple",data:=.seq ((a.toList.drop (a0 a.size 0 lo)).take (a0 a.size a.size hi-a0 a.size 0 lo)).toArray } })
  (hsz:a.size<=sizeLine):wpAny 'd' A (getItem (.ref t) (.ref sl)) Q E s:=by
 have b:sizeOk (.seq ((a.toList.drop (a0 a.size 0 lo)).take (a0 a.size a.size hi-a0 a.size 0 lo)).toArray):=by
  show((a.toList.drop (a0 a.size 0 lo)).take (a0 a.size a.size hi-a0 a.size 0 lo)).toArray.size<=sizeLine;rw[YI,YS,YX,YE];omega
 have u:a0 a.size a.size hi<=a.size:=Ih _ _ (YG _) hi;obtain⟨os,l,n,y⟩:=id hs;have p:s.TypeIs (.ref sl) "slice":=⟨os,l,n⟩;unfold getItem;try with_reducible refine Yj ?_
 first | refine Yb (Yc ?_) | skip
 refine Yb (wpAny_sequenceKey ht.typeIs 'c' ?_);refine Yb (wpAny_callSpecial?_slot (name:=Str.ofString "__getitem__") ht.typeIs PyProof.Rows.slot_tuple_getitem
  (wpAny_call_entry PyProof.Rows.slot_tuple_getitem ht.typeIs entry_tuple_getitem ?_ (args_tuple_getitem _ _)))
 show wpAny _ _ (Builtin.Tuple.tupleItemsOf (.ref t) >>= _) _ _ s;refine Yb (tupleItemsOf_ ht ?_);refine Yb (wpAny_typeOf p ?_);rw[if_pos 'c'];refine Yb (jr hs g j ?_);have r:¬((((a0 a.size 0 lo:Nat):Int)==0&&(1:Int)==1&&(a0 a.size a.size hi-a0 a.size 0 lo)==a.size)=true):=by
  intro q;rw[YY,YY] at q;have z:((a0 a.size 0 lo:Nat):Int)=0:=eq_of_beq q.1.1;have B:a0 a.size a.size hi-a0 a.size 0 lo=a.size:=eq_of_beq q.2;exact hw ⟨by omega,by omega⟩
 show wpAny _ _ (if(((a0 a.size 0 lo:Nat):Int)==0&&(1:Int)==1&&(a0 a.size a.size hi-a0 a.size 0 lo)==a.size)=true then _ else _) _ _ s;rw[if_neg r,CV];first
  |exact Yb (m:=Builtin.Tuple.tupleExact _) (wpAny_newObj_type (Yc ⟨_,rfl,Yc h⟩) b)
  |exact Yb (m:=Builtin.Tuple.tupleExact _) (wpAny_newObj_type (Yb (Yc (Yc ⟨_,rfl,Yc h⟩))) b)
  |exact Yb (Yb (m:=Builtin.Tuple.tupleExact _) (wpAny_newObj_type (Yc (Yc ⟨_,rfl,Yc h⟩)) b))
  |exact Yb (Yb (m:=Builtin.Tuple.tupleExact _) (wpAny_newObj_type (Yc ⟨_,rfl,Yc h⟩) b))
end
end HT
namespace L2
open PySem PySem.Spec PyProof.Rows
abbrev TO:=St->Hp->(Option Int->Hp->Prop)->Prop
def PO(X:Cx)(e:Option Expr)(t:TO):Prop:=
 ∀(pins:Zc) (s:Shared) (σ:St) (H:Hp) (Q:Option Int->Hp->Prop),ad X pins σ H s->t σ H Q ->
  wpAny 'b' X.A (evalPart e X.env) (λu a=>∃o H',ad X pins σ H' a/\IsPart u o/\Q o H') X.xe s
def F7:TO:=λ_ H Q=>Q none H
def Ki(t:TE):TO:=λσ H Q=>t σ H λx a=>∃i,x=.int i/\Q (some i) a
theorem intsAre_of{ns:Zi}:∀{us:Zd},ak (ns.map V.int) us->IntsAre us ns:=by
 induction ns with
 |nil=>intro us r;rw[YZ] at r;cases r;exact .nil
 |cons n ns a=>
  intro us r;rw[YL] at r;cases r with
  |cons b c=>
   obtain⟨t,e⟩:=b;subst e;exact .cons n t (a c)
section
variable {X:Cx}{e:Expr}{te:TE}{lo hi:Option Expr}{tl th:TO}{pos p2:Pos}
theorem F8:PO X none F7:=by
 intro pins s σ H Q I h;rw[evalPart_none];exact Yc ⟨none,H,I,.none,h⟩
theorem F9(h:PE X e te):PO X (some e) (Ki te):=by
 intro pins s σ H Q I hw;rw[evalPart_some];refine aN (h pins s σ H _ I hw) λu s1 a=>?_
 obtain⟨x,b,c,f,g⟩:=a;obtain⟨i,rfl,q⟩:=g;obtain⟨t,rfl⟩:=f;exact⟨some i,b,c,.int i t,q⟩
def u4(X:Cx)(r:V->Option Int->Option Int->Hp->VK->Prop):Prop:=
 ∀(pins:Zc) (s:Shared) (σ:St) (H:Hp) (x:V) (v a b:Value) (lo hi:Zp) (sl:Addr) (Q:VK),ad X pins σ H s->RelV x v->s.heap.IsSliceOf sl a b .none->IsPart a lo->IsPart b hi->r x lo hi H Q ->
  ∃T id,typeLookup (.type T) "__getitem__" = pure (some (.builtin id))/\s.TypeIs v T/\wpAny 'b' X.A (getItem v (.ref sl)) (EP X pins σ Q) X.xe s
def LF(r:V->Option Int->Option Int->Hp->VK->Prop)(te:TE)(tl th:TO):TE:=λσ H Q=>te σ H λx a=>tl σ a λl b=>th σ b λu c=>r x l u c Q
theorem CW{r:V->Option Int->Option Int->Hp->VK->Prop}(j:u4 X r)(m:PE X e te)(hl:PO X lo tl)(hu:PO X hi th):PE X (.Subscript e (.Slice lo hi none p2) pos) (LF r te tl th):=by
 intro pins s σ H Q I h;refine Subscript_ (aN (m pins s σ H _ I h) λv s1 n=>?_);obtain⟨x,p,t,y,z⟩:=n;refine wpAny_Slice (aN (hl pins s1 σ p _ t z) λc s2 B=>?_);obtain⟨l,C,G,J,K⟩:=B;refine aN (hu pins s2 σ C _ G K) λf a L=>?_
 obtain⟨u,g,O,P,R⟩:=L;rw[evalPart_none];refine Yc ?_;have S:ad X pins σ g { a with heap:=a.heap.push { cls:=.type "slice",data:=.fields #[c,f,.none] } }:=O.kept (t':=a.toks) λb W q=>Yd _ q
 obtain⟨T,id,U,ht,hg⟩:=j pins { a with heap:=a.heap.push { cls:=.type "slice",data:=.fields #[c,f,.none] } } σ g x v c f l u a.heap.objs.size Q S y (Heap.IsSliceOf.new ..) J P R;show wpAny 'b' X.A (subscriptTail e (.Slice lo hi none p2) v (.ref a.heap.objs.size)) (EP X pins σ Q) X.xe { a with heap:=a.heap.push { cls:=.type "slice",data:=.fields #[c,f,.none] } };exact tail_any (ops:=[.ref a.heap.objs.size,v]) ht U hg (by with_unfolding_all rfl)
def kW(xs:List V)(lo hi:Zp):List V:=(xs.drop (HT.a0 xs.length 0 lo)).take (HT.a0 xs.length xs.length hi-HT.a0 xs.length 0 lo)
theorem pN(xs:List V)(lo hi:Zp):(kW xs lo hi).length<=xs.length:=by
 unfold kW;rw[YS,YX];omega
def Lc(K:Za):V->Option Int->Option Int->Hp->VK->Prop:=λx lo hi H Q=>∃a xs,x=.ref a/\bn K H a xs /\
 ¬(HT.a0 xs.length 0 lo=0/\HT.a0 xs.length xs.length hi=xs.length)/\∀p,H p=none->Q (.ref p) (upd H p (.tup (kW xs lo hi)))
theorem Ii:u4 X (Lc X.K):=by
 intro pins s σ H x v l m lo hi sl Q I f hs g j h;obtain⟨a,xs,rfl,hx,hw,q⟩:=h;cases f;obtain⟨c_,r,ht,hz⟩:=I.tuple hx;have c:c_.toArray.size=xs.length:=by rw[YI];exact r.length.symm
 refine⟨"tuple",_,PyProof.Rows.slot_tuple_getitem.lookup,ht.typeIs,?_⟩;refine HT.pG ht hs g j (by rw[c];exact hw) ?_ (by rw[c];exact hz);rw[c];refine⟨.ref s.heap.objs.size,_,I.laid (t':=s.toks) (o:=.tup (kW xs lo hi)) (λb n q=>Yd _ q) (YG _) ?_,rfl,q _ (I.hok.fresh (YG _))⟩;exact⟨ZY (pN xs lo hi) hz,_,(r.drop (HT.a0 xs.length 0 lo)).take (HT.a0 xs.length xs.length hi-HT.a0 xs.length 0 lo),IsTup.new _ _⟩
def Kj(K:Za):R2:=λx y H Q=>∃a b xs ys,x=.ref a/\y=.ref b/\bn K H a xs/\bn K H b ys/\xs≠[]/\xs.length+ys.length<=sizeLine /\
 (ys=[]->Q (.ref a) H)/\(ys≠[]->∀p,H p=none->Q (.ref p) (upd H p (.tup (xs++ys))))
theorem ak.nil_iff{xs:List V}{us:Zd}(r:ak xs us):us=[]↔xs=[]:=by
 cases r with
 |nil=>simp
 |cons _ _=>simp
theorem Ga:cu X (binaryOp .Add) (Kj X.K):=by
 intro pins s σ H x y v u Q I g j h;obtain⟨a,b,xs,ys,rfl,rfl,ha,hb,hx,hz,l,m⟩:=h;cases g;cases j;obtain⟨c_,f,p1,_⟩:=I.tuple ha;obtain⟨n,c,p2,_⟩:=I.tuple hb;refine HT.F6 p1 p2 (λz=>hx (f.nil_iff.mp z)) (λz=>⟨.ref a,H,I,rfl,l (c.nil_iff.mp z)⟩) (λz=>?_) (by rw[←f.length,←c.length];exact hz);refine⟨.ref s.heap.objs.size,_,I.laid (t':=s.toks) (o:=.tup (xs++ys)) (λb p q=>Yd _ q) (YG _) ?_,rfl,m (λw=>z (c.nil_iff.mpr w)) _ (I.hok.fresh (YG _))⟩;exact⟨by rw[ZM];exact hz,_,f.append c,IsTup.new _ _⟩
end
def mV(n:Nat)(i:Int):Option Nat:=if 0<=i then(if i<n then some i.toNat else none) else if -(n:Int)<=i then some (i+n).toNat else none
def di{a:Type}(xs:List a)(i:Int):Option a:=(mV xs.length i).bind λj=>xs[j]?
theorem xI{n:Nat}{i:Int}{j:Nat}(h:mV n i=some j):seqIndex? i n=some j/\j<n/\-(n:Int)<=i/\i<n:=by
 unfold mV at h;by_cases a:0<=i
 ·rw[if_pos a] at h
  by_cases h1:i<n
  ·rw[if_pos h1] at h
   have e:i.toNat=j:=Yi h;exact⟨by rw[seqIndex_of a h1,e],by omega,by omega,h1⟩
  ·rw[if_neg h1] at h;cases h
 ·rw[if_neg a] at h
  by_cases h1:-(n:Int)<=i
  ·rw[if_pos h1] at h
   have e:(i+n).toNat=j:=Yi h;exact⟨by rw[seqIndex_neg 'a' h1,e],by omega,h1,by omega⟩
  ·rw[if_neg h1] at h;cases h
theorem sX{a:Type}{xs:List a}{i:Int}{v:a}(h:di xs i=some v):∃j,seqIndex? i xs.length=some j/\xs[j]?=some v/\j<xs.length/\-(xs.length:Int)<=i/\i<xs.length:=by
 unfold di at h;cases e:mV xs.length i with
 |none=>rw[e] at h;cases h
 |some j=>
  rw[e] at h;obtain⟨h1,b,c,f⟩:=xI e;exact⟨j,h1,h,b,c,f⟩
theorem gP{a:Type}{xs:List a}{j:Nat}{v:a}(h:xs[j]?=some v):di xs (j:Int)=some v:=by
 have b:j<xs.length:=(YD.mp h).1;have e:mV xs.length (j:Int)=some j:=by
  unfold mV;rw[if_pos 'a',if_pos 'a'];simp
 unfold di;rw[e];exact h
def xJ(b:Expr):Prop:=∀o i,subscripted b false o i=operate [o,i] (getItem o i)
def u5(X:Cx)(r:R2):Prop:=
 ∀(b a:Expr) (pins:Zc) (s:Shared) (σ:St) (H:Hp) (x y:V) (v u:Value) (Q:VK),ad X pins σ H s->RelV x v->RelV y u->r x y H Q ->
  subscripted a false v u=operate [v,u] (getItem v u)->wpAny 'b' X.A (subscriptTail b a v u) (EP X pins σ Q) X.xe s
def AE(X:Cx)(id:String)(r:V->List V->Hp->VK->Prop):Prop:=
 ∀(pins:Zc) (s:Shared) (σ:St) (H:Hp) (x:V) (xs:List V) (v:Value) (us:Zd) (Q:VK),ad X pins σ H s->RelV x v->ak xs us->r x xs H Q ->
  wpAny 'b' X.A (call (.builtin id) (v::us)) (EP X pins σ Q) X.xe s
section
variable {X:Cx}{a b:Expr}{ta tb:TE}{pos:Pos}
theorem Kk{r:R2}(c:u5 X r)(ha:PE X a ta)(hb:PE X b tb)(hs:xJ b):PE X (.Subscript a b pos) (Fa r ta tb):=by
 intro pins s σ H Q I h;exact Subscript_ (CI ha hb I h λv u s2 x y f g j l q=>c a b pins s2 σ f x y v u Q g j l q (hs _ _))
def Ld(K:Za):R2:=λx y H Q=>∃p xs i v,x=.ref p/\y=.int i/\bx K H p xs/\di xs i=some v/\Q v H
def Le(K:Za):R2:=λx y H Q=>∃p xs i v,x=.ref p/\y=.int i/\bn K H p xs/\di xs i=some v/\Q v H
def Lf:R2:=λx y H Q=>∃z i c,x=.str z/\y=.int i/\z.length<=sizeLine/\di z.cps.toList i=some c/\Q (.str ⟨#[c]⟩) H
theorem xK:u5 X (Ld X.K):=by
 intro c f pins s σ H x y v u Q I B C h hs;obtain⟨p,xs,i,z,rfl,rfl,hq,G,q⟩:=h;cases B;obtain⟨t,rfl⟩:=C;obtain⟨c_,r,g,hz⟩:=I.list hq;obtain⟨j,h1,J,S,L,O⟩:=sX G;obtain⟨w,m,P⟩:=r.get J;have hl:=r.length;have hn:=jq;have fin:EP X pins σ Q w s:=⟨z,H,I,P,q⟩;by_cases n:0<=i
 ·have l:i.toNat=j:=by
   rw[seqIndex_of n O] at h1;exact Yi h1
  exact item_listR g.isList n 'a' (by rw[l];simpa using m) fin hs
 ·have l:(i+(c_.toArray.size:Int)).toNat=j:=by
   rw[seqIndex_neg 'a' L] at h1;rw[YI,←hl];exact Yi h1
  exact subscriptTail_builtinR (x:=w) g.isList.typeIs slot_list_getitem.lookup
   (wpAny_getItem_list_neg (Q:=λr R=>r=w/\EP X pins σ Q r R) g.isList 'a' (by rw[YI]<;>omega) 'a' (by rw[l];simpa using m) ⟨rfl,fin⟩) hs
theorem Ij:u5 X (Le X.K):=by
 intro c f pins s σ H x y v u Q I l m h hs;obtain⟨p,xs,i,z,rfl,rfl,hq,n,q⟩:=h;cases l;obtain⟨t,rfl⟩:=m;obtain⟨c_,r,g,hz⟩:=I.tuple hq;obtain⟨j,h1,B,L,O,P⟩:=sX n;obtain⟨w,C,G⟩:=r.get B;have hl:=r.length;have hn:=jq;have fin:EP X pins σ Q w s:=⟨z,H,I,G,q⟩;exact subscriptTail_builtinR (x:=w) g.typeIs slot_tuple_getitem.lookup
  (getItem_tuple (j:=j) (Q:=λr J=>r=w/\EP X pins σ Q r J) g 'a' 'a' (by rw[YI,←hl];exact h1) (by simpa using C) ⟨rfl,fin⟩) hs
theorem Ik:u5 X Lf:=by
 intro f g pins s σ H x y v u Q I l m h hs;obtain⟨z,i,c,rfl,rfl,hz,n,q⟩:=h;obtain⟨t,rfl⟩:=l;obtain⟨t',rfl⟩:=m;obtain⟨j,h1,p,C,r,B⟩:=sX n;have hl:z.cps.toList.length=z.length:=by simp[Str.length]
 rw[hl] at h1 r B;have hn:=jq;exact tail_any (typeIs_str s z t) slot_str_getitem.lookup (getItem_str (c:=c) (by
  have e1:decide (i < -(2 ^ 63:Int))=false:=ZR 'a';have e2:decide (i>=2 ^ 63)=false:=ZR 'a';rw[e1,e2,Bool.or_false]) (by rw[h1];simpa using p) ⟨.str ⟨#[c]⟩,H,I.tok _,⟨_,rfl⟩,q⟩) hs
theorem yW(c_:Zd)(n j:Nat)(u:Value):Obj.mapSeq (·.setIfInBounds j u) { cls:=.type "list",data:=.seq c_.toArray n }={ cls:=.type "list",data:=.seq (c_.set j u).toArray n }:=by
 simp[Obj.mapSeq]
theorem ad.lst{pins:Zc}{σ:St}{H:Hp}{s:Shared}{p:Addr}{xs:List V}(I:ad X pins σ H s)(h:H p=some (.lst xs)):
  ∃(c_:Zd) (n:Nat),ak xs c_/\s.heap.get? p=some { cls:=.type "list",data:=.seq c_.toArray n }/\xs.length<=sizeLine:=by
 obtain⟨z,c_,n,r,e⟩:=I.hok p _ h;exact⟨c_,n,r,e,z⟩
theorem ad.lstUpd{pins:Zc}{σ:St}{H:Hp}{s:Shared}{p:Addr}{xs ys:List V}{c_ n_:Zd}{n n':Nat}{f:Obj->Obj}(I:ad X pins σ H s)(h:H p=some (.lst xs))
  (c:s.heap.get? p=some { cls:=.type "list",data:=.seq c_.toArray n }) (hf:f { cls:=.type "list",data:=.seq c_.toArray n }={ cls:=.type "list",data:=.seq n_.toArray n' }) (r:ak ys n_) (hz:ys.length<=sizeLine) (t:Nat):
  ad X pins σ (upd H p (.lst ys)) { s with heap:=s.heap.update p f,toks:=t }:=by
 have e:(s.heap.update p f).get? p=some { cls:=.type "list",data:=.seq n_.toArray n' }:=by
  rw[Heap.get?_update_self f c (by rw[hf]<;>rfl),hf]
 refine I.write (x:=p) (e:=p) (by rw[h];trivial) (.inl rfl) (λb u hb q=>(Heap.get?_update_other _ _ (Ne.symm hb)).trans q) ⟨_,e⟩ ?_;exact⟨hz,n_,n',r,e⟩
def Kl:V->V->V->Hp->(Hp->Prop)->Prop:=λo i v H Q=>∃p xs k j,o=.ref p/\i=.int k/\H p=some (.lst xs)/\mV xs.length k=some j/\Q (upd H p (.lst (xs.set j v)))
theorem set_list:CD X Kl:=by
 intro pins s σ H o i v G J u Q I y z B h;obtain⟨p,xs,k,j,rfl,rfl,hp,C,q⟩:=h;cases y;obtain⟨t,rfl⟩:=z;obtain⟨c_,n,r,c,hz⟩:=I.lst hp;obtain⟨h1,K,f,g⟩:=xI C;have hl:=r.length;have hn:=jq;have l:ad X pins σ (upd H p (.lst (xs.set j v))) { s with heap:=s.heap.update p (Obj.mapSeq (·.setIfInBounds j u)) }:=
  I.lstUpd hp c (yW c_ n j u) (r.set B j) (by rw[List.length_set];exact hz) s.toks
 by_cases m:0<=k
 ·have hk:k.toNat=j:=by
   rw[seqIndex_of m g] at h1;exact Yi h1
  exact PySem.W.ki_setAt c m 'a' (by rw[YI,←hl];exact g) (by rw[hk];exact⟨_,l,q⟩)
 ·have hk:(k+(c_.toArray.size:Int)).toNat=j:=by
   rw[seqIndex_neg 'a' f] at h1;rw[YI,←hl];exact Yi h1
  exact PySem.W.ki_setBack c 'a' (by rw[YI,←hl];exact f) 'a' (by rw[hk];exact⟨_,l,q⟩)
theorem u6(lo hi:Zp)(n:Nat):(sliceBounds lo hi none n).1=((HT.a0 n 0 lo:Nat):Int)/\(sliceBounds lo hi none n).2.1=((HT.a0 n n hi:Nat):Int)/\(sliceBounds lo hi none n).2.2=1:=by
 refine⟨?_,?_,rfl⟩
 ·cases lo with
  |none=>simp[sliceBounds,HT.a0]
  |some i=>
   simp only[sliceBounds,HT.a0,Option.getD_none,show(1:Int)>0 by decide,if_true];by_cases h:i<0
   ·simp only[h,if_true]<;>omega
   ·simp only[h,if_false]<;>omega
 ·cases hi with
  |none=>simp[sliceBounds,HT.a0]
  |some i=>
   simp only[sliceBounds,HT.a0,Option.getD_none,show(1:Int)>0 by decide,if_true];by_cases h:i<0
   ·simp only[h,if_true]<;>omega
   ·simp only[h,if_false]<;>omega
theorem ut(c_:Zd)(lo hi:Zp):slicePick c_.toArray lo hi none=((c_.drop (HT.a0 c_.length 0 lo)).take (HT.a0 c_.length c_.length hi-HT.a0 c_.length 0 lo)).toArray:=by
 obtain⟨h1,c,f⟩:=u6 lo hi c_.toArray.size;unfold slicePick;rw[h1,c,f];simp only[sliceRange_one,pick_run,YI]<;>rfl
def Lg(K:Za):V->Option Int->Option Int->Hp->VK->Prop:=λx lo hi H Q=>∃a xs,x=.ref a/\bx K H a xs/\∀p,H p=none->Q (.ref p) (upd H p (.lst (kW xs lo hi)))
theorem Gb:u4 X (Lg X.K):=by
 intro pins s σ H x v l m lo hi sl Q I c hs f g h;obtain⟨a,xs,rfl,hx,q⟩:=h;cases c;obtain⟨c_,r,ht,hz⟩:=I.list hx;have j:=r.length;refine⟨"list",_,slot_list_getitem.lookup,ht.isList.typeIs,?_⟩;refine wpAny_getItem_list_slice ht.isList hs f g .none (by simp) ?_ (by rw[YI]<;>omega);rw[ut,←j];refine⟨.ref s.heap.objs.size,_,I.laid (t':=s.toks) (o:=.lst (kW xs lo hi)) (λb n q=>Yd _ q) (YG _) ?_,rfl,q _ (I.hok.fresh (YG _))⟩;exact⟨ZY (pN xs lo hi) hz,_,0,(r.drop (HT.a0 xs.length 0 lo)).take (HT.a0 xs.length xs.length hi-HT.a0 xs.length 0 lo),Yg _ rfl⟩
def yX:V->Bool
 |.non=>true
 |.bl _=>true
 |.int _=>true
 |.str _=>true
 |_=>false
def Kz:V->V->Bool
 |.non,.non=>true
 |.bl a,.bl b=>a==b
 |.bl a,.int b=>(if a then 1 else 0)==b
 |.int a,.bl b=>a==(if b then 1 else 0)
 |.int a,.int b=>a==b
 |.str a,.str b=>a==b
 |_,_=>false
theorem AF{A:Around}{s:Shared}{y x:V}{u v:Value}(f:RelV y u)(c:RelV x v)(j:yX y=true)(g:yX x=true):SeqAt.EqAt A s u v (Kz y x):=by
 cases y with
 |non=>
  cases f;cases x with
  |non=>cases c;exact SeqAt.EqAt.same _
  |bl b=>cases c;exact SeqAt.EqAt.none_bool b
  |int b=>obtain⟨t,rfl⟩:=c;exact SeqAt.EqAt.none_int b t
  |str b=>obtain⟨t,rfl⟩:=c;exact SeqAt.EqAt.none_str b t
  |_=>exact absurd (show false=true from g) YF
 |bl a=>
  cases f;cases x with
  |non=>cases c;exact SeqAt.EqAt.bool_none a
  |bl b=>cases c;exact SeqAt.EqAt.bool_bool a b
  |int b=>obtain⟨t,rfl⟩:=c;exact SeqAt.EqAt.bool_int a b t
  |str b=>obtain⟨t,rfl⟩:=c;exact SeqAt.EqAt.bool_str a b t
  |_=>exact absurd (show false=true from g) YF
 |int a=>
  obtain⟨t',rfl⟩:=f;cases x with
  |non=>cases c;exact SeqAt.EqAt.int_none a t'
  |bl b=>cases c;exact SeqAt.EqAt.int_bool a t' b
  |int b=>obtain⟨t,rfl⟩:=c;exact SeqAt.EqAt.int_int a t' b t
  |str b=>obtain⟨t,rfl⟩:=c;exact SeqAt.EqAt.int_str a t' b t
  |_=>exact absurd (show false=true from g) YF
 |str a=>
  obtain⟨t',rfl⟩:=f;cases x with
  |non=>cases c;exact SeqAt.EqAt.str_none a t'
  |bl b=>cases c;exact SeqAt.EqAt.str_bool a t' b
  |int b=>obtain⟨t,rfl⟩:=c;exact SeqAt.EqAt.str_int a t' b t
  |str b=>obtain⟨t,rfl⟩:=c;exact SeqAt.EqAt.str_str a t' b t
  |_=>exact absurd (show false=true from g) YF
 |_=>exact absurd (show false=true from j) YF
theorem jt:fF X (.builtin "len") (λxs H Q=>∃p ys,xs=[.ref p]/\(bx X.K H p ys\/bn X.K H p ys)/\Q (.int ys.length) H):=by
 intro pins s σ H xs us Q I r h;obtain⟨p,ys,rfl,hq,q⟩:=h;obtain⟨u,rfl,j⟩:=vals1 r;cases j;have hn:=jq;rcases hq with hq | hq
 ·obtain⟨c_,c,f,hz⟩:=I.list hq
  have g:=c.length;exact Calls.call_len_list f.isList (by simp only[YI]<;>omega) ⟨.int ys.length,H,I.tok _,⟨s.toks+1,by rw[YI,g]⟩,q⟩
 ·obtain⟨c_,c,f,hz⟩:=I.tuple hq
  have g:=c.length;exact len_tuple f (by simp only[YI]<;>omega) ⟨.int ys.length,H,I.tok _,⟨s.toks+1,by rw[YI,g]⟩,q⟩
theorem u7:fF X (.builtin "len") (λxs H Q=>∃z,xs=[.str z]/\z.length<=sizeLine/\Q (.int z.length) H):=by
 intro pins s σ H xs us Q I r h;obtain⟨z,rfl,hz,q⟩:=h;obtain⟨u,rfl,t,rfl⟩:=vals1 r;have hn:=jq;exact len_str 'a' ⟨.int z.length,H,I.tok _,⟨_,rfl⟩,q⟩
theorem nK:fF X (.type "list") (λxs H Q=>∃p ys,xs=[.ref p]/\(bx X.K H p ys\/bn X.K H p ys)/\∀l,H l=none->Q (.ref l) (upd H l (.lst ys))):=by
 intro pins s σ H xs us Q I r h;obtain⟨p,ys,rfl,hq,q⟩:=h;obtain⟨u,rfl,j⟩:=vals1 r;cases j;have fin:∀(c_:Zd),ak ys c_->ys.length<=sizeLine->∀(h':Heap) (c':Nat),(∀b o',s.heap.get? b=some o'->h'.get? b=some o') ->
   h'.get? s.heap.objs.size=some { cls:=.type "list",dict:=none,data:=.seq c_.toArray c',slots:=#[] }->EP X pins σ Q (.ref s.heap.objs.size) { s with heap:=h' }:=λc_ c hz h' c' kp e=>
  ⟨.ref s.heap.objs.size,_,I.laid (t':=s.toks) kp (YG _) (show a9 X.prog X.w _ h' _ (.lst ys) from⟨hz,c_,c',c,e⟩),rfl,q _ (I.hok.fresh (YG _))⟩
 rcases hq with hq | hq
 ·obtain⟨c_,c,f,hz⟩:=I.list hq
  have m:=c.length;obtain⟨o,g,hc,n,hd⟩:=f.isList;exact call_list_seq p (.inl rfl) g hc hd (λh' c' kp e=>fin c_ c hz h' c' kp e) (by simp only[YI]<;>omega)
 ·obtain⟨c_,c,f,hz⟩:=I.tuple hq
  have m:=c.length;obtain⟨o,g,hc,n,hd⟩:=f;exact call_list_seq p (.inr rfl) g hc hd (λh' c' kp e=>fin c_ c hz h' c' kp e) (by simp only[YI]<;>omega)
theorem mX:fF X (.type "tuple") (λxs H Q=>∃p ys,xs=[.ref p]/\((bx X.K H p ys/\∀l,H l=none->Q (.ref l) (upd H l (.tup ys)))\/(bn X.K H p ys/\Q (.ref p) H))):=by
 intro pins s σ H xs us Q I r h;obtain⟨p,ys,rfl,h⟩:=h;obtain⟨u,rfl,j⟩:=vals1 r;cases j;rcases h with⟨hq,q⟩ | ⟨hq,q⟩
 ·obtain⟨c_,c,f,hz⟩:=I.list hq
  have n:=c.length;refine call_tuple_list f.isList (λh' kp=>?_) (by simp only[YI]<;>omega);have g:ad X pins σ H { s with heap:=h' }:=I.kept (t':=s.toks) kp;have m:ad X pins σ (upd H h'.objs.size (.tup ys)) { s with heap:=h'.push { cls:=.type "tuple",data:=.seq c_.toArray } }:=
   g.laid (t':=s.toks) (λb o e=>Yd _ e) (YG _) (show a9 X.prog X.w _ _ _ (.tup ys) from⟨hz,c_,c,IsTup.new _ _⟩)
  exact⟨.ref h'.objs.size,_,m,rfl,q _ (g.hok.fresh (YG _))⟩
 ·obtain⟨c_,c,f,hz⟩:=I.tuple hq
  exact call_tuple_same f ⟨.ref p,H,I,rfl,q⟩
def Fc(K:Za)(T:String)(x:V)(H:Hp):Prop:=match x with
 |.str _=>T = "str"
 |.int _=>T = "int"
 |.ref p=>(T = "list"/\∃xs,bx K H p xs)\/(T = "tuple"/\∃o,K.lookup p=some o/\o.cls=.type "tuple"/\o.dict=none) \/
   (T = "dict"/\((∃c,H p=some (.dK c)) \/ ∃c,H p=some (.dT c)))\/(T = "set"/\∃S n,H p=some (.set S n))
 |_=>False
theorem AG{pins:Zc}{σ:St}{H:Hp}{s:Shared}{T:String}{x:V}{v:Value}(I:ad X pins σ H s)(r:RelV x v)(ty:Fc X.K T x H):
  s.TypeIs v T/\∀a,v=.ref a->∃f,s.heap.get? a=some f/\f.dict=none:=by
 cases x with
 |str z=>
  obtain⟨t,rfl⟩:=r;cases(show T = "str" from ty);exact⟨typeIs_str s z t,λ_ e=>nomatch e⟩
 |int i=>
  obtain⟨t,rfl⟩:=r;cases(show T = "int" from ty);exact⟨typeIs_int s i t,λ_ e=>nomatch e⟩
 |ref p=>
  cases r;rcases ty with⟨rfl,xs,hq⟩ | ⟨rfl,o,hk,hc,hd⟩ | ⟨rfl,hk⟩ | ⟨rfl,S,n,hk⟩
  ·obtain⟨c_,_,g,_⟩:=I.list hq
   refine⟨g.isList.typeIs,λa e=>?_⟩;cases e;obtain⟨o,n,e,c,hd,_⟩:=g;exact⟨o,e,hd⟩
  ·refine⟨⟨o,I.kIn p o hk,hc⟩,λa e=>?_⟩
   cases e;exact⟨o,I.kIn _ o hk,hd⟩
  ·have z:∃o,s.heap.get? p=some o/\o.ExactDict:=by
    rcases hk with⟨j,hk⟩ | ⟨j,hk⟩
    ·obtain⟨_,_,_,_,o,_,_,e,ex,_⟩:=I.hok p _ hk
     exact⟨o,e,ex⟩
    ·obtain⟨_,_,_,_,o,_,_,e,ex,_⟩:=I.hok p _ hk
     exact⟨o,e,ex⟩
   obtain⟨o,e,ex⟩:=z;refine⟨⟨o,e,ex.1⟩,λa e2=>?_⟩;cases e2;exact⟨o,e,ex.2.1⟩
  ·obtain⟨o,_,_,_,e,ex,_⟩:=I.hok p _ hk
   refine⟨⟨o,e,ex.1⟩,λa e2=>?_⟩;cases e2;exact⟨o,e,ex.2.1⟩
 |_=>exact Yh ty
def Lh(K:Za)(T:String)(r:V->List V->Hp->VK->Prop)(f:TE):TE:=λσ H Q=>f σ H λx c=>Fc K T x c/\r x [] c Q
def LG(K:Za)(T:String)(r:V->List V->Hp->VK->Prop)(f:TE)(t:TA):TE:=λσ H Q=>f σ H λx c=>Fc K T x c/\t σ c λxs g=>r x xs g Q
variable {o e:Expr}{es:Zg}{to:TE}{t:TA}{name:Str}{o_ B_:Pos}{T id:String}{r:V->List V->Hp->VK->Prop}
theorem Il(g:PlainAttrs T)(slot:Slot T name id)(j:typeOf (.builtin id)=pure (.type "method_descriptor"))(hm:AE X id r)(l:PE X o to)
  (m:attributeBase o name X.env (eval o X.env)=eval o X.env:=by rfl) (n:(o_.endLine==B_.line)=true:=by rfl):PE X (.Call (.Attribute o name o_) [] [] B_) (Lh X.K T r to):=by
 intro pins s σ H Q I h;refine wpAny_Call_method0_late m n (aN (l pins s σ H _ I h) λv s1 p=>?_);obtain⟨x,u,c,f,ty,y⟩:=p;obtain⟨h1,z⟩:=AG c f ty;exact⟨T,id,g,slot,j,h1,z,Calls.callWith_builtin rfl (PySem.evalArgs_none (hm pins s1 σ u x [] v [] Q c f .nil y))⟩
theorem Km(j:PlainAttrs T)(slot:Slot T name id)(l:typeOf (.builtin id)=pure (.type "method_descriptor"))(hm:AE X id r)(m:PE X o to)(ha:PA X (e::es) t)
  (n:attributeBase o name X.env (eval o X.env)=eval o X.env:=by rfl)
  (p:((backTo B_ (starEach (e::es) X.env)).all (λx=>!x.1)&&(backToKw B_ (keywordEach [] X.env)).all (λx=>x.1.isSome)
   && decide ((e::es).length+([]:List Keyword).length+(if([]:List Keyword).isEmpty then 0 else 1)<30))=true:=by rfl)
  (u:(o_.endLine==B_.line)=true:=by rfl) (hs:starEach (e::es) X.env=(false,eval e X.env)::starEach es X.env:=by rfl) (y:(backTo B_ (starEach es X.env)).any (·.1)=false:=by rfl):
  PE X (.Call (.Attribute o name o_) (e::es) [] B_) (LG X.K T r to t):=by
 intro pins s σ H Q I h;refine wpAny_Call_method_late n p u rfl (aN (m pins s σ H _ I h) λv s1 z=>?_);obtain⟨x,B,c,f,ty,C⟩:=z;obtain⟨h1,G⟩:=AG c f ty;refine⟨T,id,j,slot,l,h1,G,?_⟩;have g:=ha B_ pins s1 σ B _ c C;rw[hs] at g ⊢;refine Calls.callWith_builtin (by show(false||(backTo B_ (starEach es X.env)).any (·.1))=false;rw[y]<;>rfl) (Calls.evalArgs_plain ?_);refine aN g λus s2 J=>?_
 obtain⟨vs,L,O,P,R⟩:=J;exact hm pins s2 σ L x vs v us Q O f P R
end
def AH(X:Cx)(id:String)(r:V->List V->Hp->VK->Prop):Prop:=
 ∀(pins:Zc) (s:Shared) (σ:St) (H:Hp) (x:V) (xs:List V) (v:Value) (us:Zd) (Q:VK),ad X pins σ H s->RelV x v->ak xs us->r x xs H Q ->
  wpAny 'b' X.A (call (.builtin id) (v::us)) (EP X pins σ Q) X.xe s
theorem ak.one{x:V}{us:Zd}(h:ak [x] us):∃u,us=[u]/\RelV x u:=by
 cases h with
 |cons r t=>cases t;exact⟨_,rfl,r⟩
theorem ak.two{x y:V}{us:Zd}(h:ak [x,y] us):∃u v,us=[u,v]/\RelV x u/\RelV y v:=by
 cases h with
 |cons r t=>
  obtain⟨v,rfl,q⟩:=ak.one t;exact⟨_,v,rfl,r,q⟩
theorem ak.zero:∀{us:Zd},ak [] us->us=[]
 |_,.nil=>rfl
theorem ak.dropLast{xs:List V}{us:Zd}(h:ak xs us):ak xs.dropLast us.dropLast:=by
 induction h with
 |nil=>exact .nil
 |cons r t a=>
  cases t with
  |nil=>exact .nil
  |cons q t'=>exact .cons r a
theorem ak.eraseIdx:∀{xs:List V}{us:Zd}(i:Nat),ak xs us->ak (xs.eraseIdx i) (us.eraseIdx i)
 |_,_,_,.nil=>.nil
 |_,_,0,.cons _ t=>t
 |_,_,i+1,.cons r t=>.cons r (ak.eraseIdx i t)
theorem ak.rep{xs:List V}{us:Zd}(h:ak xs us):∀k:Nat,ak (List.replicate k xs).flatten (List.replicate k us).flatten
 |0=>.nil
 |k+1=>by
  rw[XA,XA,XB,XB];exact ak.append h (ak.rep h k)
theorem yY{c:Type}(l:List c):l.eraseIdx (l.length-1)=l.dropLast:=by
 induction l with
 |nil=>rfl
 |cons a r f=>
  cases r with
  |nil=>rfl
  |cons b r=>
   have e:(a::b::r).length-1=((b::r).length-1)+1:=by
    have h1:(a::b::r).length=r.length+2:=rfl;have g:(b::r).length=r.length+1:=rfl;omega
   rw[e,List.eraseIdx_cons_succ,f];all_goals rfl
theorem tO{a:Type}:∀(l:List a) (i:Nat),(l.eraseIdx i).length<=l.length
 |[],_=>YG _
 |_::_,0=>YN _
 |_::r,i+1=>Nat.succ_le_succ (tO r i)
theorem foldl_rep(c_:Zd):∀(k:Nat) (f_:Zd),
  List.foldl (λa b=>a++b) f_.toArray (List.replicate k c_.toArray)=(f_++(List.replicate k c_).flatten).toArray
 |0,f_=>by simp
 |k+1,f_=>by
  have e:f_.toArray++c_.toArray=(f_++c_).toArray:=by simp
  have e2:(f_++c_)++(List.replicate k c_).flatten=f_++(List.replicate (k+1) c_).flatten:=by
   rw[XA,XB,ZC]
  rw[←e2,←foldl_rep c_ k (f_++c_),←e,XA,List.foldl_cons]
section
variable {X:Cx}{pins:Zc}{σ:St}{H:Hp}{s:Shared}{l b:Addr}{xs ys zs:List V}
theorem ad.lset{c_ n_:Zd}{n:Nat}{f:Array Value->Array Value}{t':Nat}(I:ad X pins σ H s)(a:H l=some (.lst xs))
  (e:s.heap.get? l=some { cls:=.type "list",data:=.seq c_.toArray n }) (hf:f c_.toArray=n_.toArray) (hv:ak ys n_) (hz:ys.length<=sizeLine):
  ad X pins σ (upd H l (.lst ys)) { s with heap:=s.heap.update l (Obj.mapSeq f),toks:=t' }:=by
 have q:=PySem.IsL.update e f;rw[hf] at q;refine I.write (x:=l) (e:=l) (by rw[a];exact trivial) (.inl rfl) (λb' u hb hu=>(Heap.get?_update_other s.heap (Obj.mapSeq f) (Ne.symm hb)).trans hu) ⟨_,q⟩ ?_;exact⟨hz,n_,_,hv,q⟩
theorem ad.lnew{c_:Zd}{t':Nat}(I:ad X pins σ H s)(hv:ak ys c_)(hz:ys.length<=sizeLine):
  ad X pins σ (upd H s.heap.objs.size (.lst ys)) { s with heap:=s.heap.push { cls:=.type "list",data:=.seq c_.toArray },toks:=t' }:=
 I.laid (λ_ _ q=>Yd _ q) (YG _) ⟨hz,c_,0,hv,Yg _ rfl⟩
theorem ad.fresh(I:ad X pins σ H s):H s.heap.objs.size=none:=I.hok.fresh (YG _)
theorem ad.lstM(I:ad X pins σ H s)(a:H l=some (.lst xs)):xs.length<=sizeLine/\∃(c_:Zd) (n:Nat),ak xs c_/\xs.length=c_.length/\s.heap.get? l=some { cls:=.type "list",data:=.seq c_.toArray n }:=by
 obtain⟨z,c_,n,r,e⟩:=I.hok l _ a;exact⟨z,c_,n,r,r.length,e⟩
theorem u8{n:Nat}(h:n<=sizeLine):Builtin.List.listTooLong n=false:=by
 unfold Builtin.List.listTooLong;exact ZR 'a'
end
section
variable {X:Cx}
def Gc:V->List V->Hp->VK->Prop:=λx vs H Q=>∃l xs y,x=.ref l/\vs=[y]/\H l=some (.lst xs)/\xs.length<sizeLine/\Q .non (upd H l (.lst (xs++[y])))
theorem AI:AH X "list.append" Gc:=by
 intro pins s σ H x vs v us Q I b c h;obtain⟨l,xs,y,rfl,rfl,a,hz,q⟩:=h;cases b;obtain⟨u,rfl,f⟩:=c.one;obtain⟨z,c_,n,r,hl,e⟩:=I.lstM a;refine call_meets F.slot_list_append ⟨_,e,rfl⟩ F.entry_list_append (F.args_list_append_2 _ _) (PySem.list_append l c_.toArray n u (by rw[YI];omega)) ⟨e,?_⟩;refine⟨.non,_,I.lset (n_:=c_++[u]) a e (by simp) (r.append (.cons f .nil)) ?_,rfl,q⟩;rw[ZM,XC];omega
def Gd:V->List V->Hp->VK->Prop:=λx vs H Q=>∃l b xs a,x=.ref l/\vs=[.ref b]/\H l=some (.lst xs)/\H b=some (.lst a)/\xs.length+a.length<=sizeLine/\Q .non (upd H l (.lst (xs++a)))
theorem AJ:AH X "list.extend" Gd:=by
 intro pins s σ H x vs v us Q I f g h;obtain⟨l,b,xs,B,rfl,rfl,c,j,hz,q⟩:=h;cases f;obtain⟨u,rfl,m⟩:=g.one;cases m;obtain⟨z,c_,n,r,hl,e⟩:=I.lstM c;obtain⟨C,a,p,t,G,e2⟩:=I.lstM j;have hsz:c_.toArray.size+a.toArray.size<=sizeLine:=by rw[YI,YI];omega
 have y:¬(!c_.toArray.isEmpty&&Builtin.List.listTooLong (c_.toArray.size+a.toArray.size))=true:=by
  rw[u8 hsz,Bool.and_false];exact YF
 refine call_meets F.slot_list_extend ⟨_,e,rfl⟩ F.entry_list_extend (F.args_list_extend_2 _ _)
  (AutoSeq1.list_extend_list_list_0 l c_.toArray n b a.toArray p y (by rw[YI];omega) 'a') ⟨e,e2,?_⟩
 refine⟨.non,_,I.lset (n_:=c_++a) c e (by simp) (r.append t) ?_,rfl,q⟩;rw[ZM];omega
def Li:V->List V->Hp->VK->Prop:=λx vs H Q=>∃l xs y,x=.ref l/\vs=[]/\H l=some (.lst xs)/\xs[xs.length-1]?=some y/\Q y (upd H l (.lst xs.dropLast))
theorem Im:AH X "list.pop" Li:=by
 intro pins s σ H x vs v us Q I b c h;obtain⟨l,xs,y,rfl,rfl,a,hy,q⟩:=h;cases b;have f:=c.zero;subst f;obtain⟨z,c_,n,r,hl,e⟩:=I.lstM a;obtain⟨u,hu,g⟩:=r.get hy;have j:c_.toArray[c_.toArray.size-1]?=some u:=by
  show c_.toArray[c_.length-1]?=some u;rw[←XD,←hl];exact hu
 refine call_meets F.slot_list_pop ⟨_,e,rfl⟩ F.entry_list_pop (F.args_list_pop_1 _) (MeetsSeq.list_pop_last l c_.toArray n u j (by rw[YI];omega)) ⟨e,?_⟩;refine⟨y,_,I.lset (n_:=c_.dropLast) a e ?_ r.dropLast ?_,g,q⟩
 ·show c_.toArray.eraseIdxIfInBounds (c_.toArray.size-1)=c_.dropLast.toArray
  rw[YI,List.eraseIdxIfInBounds_toArray,yY]
 ·rw[List.length_dropLast]
  omega
def Io:V->List V->Hp->VK->Prop:=λx vs H Q=>∃l xs i k y,x=.ref l/\vs=[.int i]/\H l=some (.lst xs)/\-(2 ^ 63)<=i/\i<2 ^ 63/\seqIndex? i xs.length=some k/\xs[k]?=some y/\Q y (upd H l (.lst (xs.eraseIdx k)))
theorem CY:AH X "list.pop" Io:=by
 intro pins s σ H x vs v us Q I b c h;obtain⟨l,xs,i,k,y,rfl,rfl,a,h1,f,hk,hy,q⟩:=h;cases b;obtain⟨u,rfl,g⟩:=c.one;obtain⟨t,rfl⟩:=g;obtain⟨z,c_,n,r,hl,e⟩:=I.lstM a;obtain⟨w,hw,j⟩:=r.get hy;refine call_meets F.slot_list_pop ⟨_,e,rfl⟩ F.entry_list_pop (F.args_list_pop_2 _ _)
  (MeetsSeq.list_pop_at l c_.toArray n i t k w (fitsIndex_both h1 f) (by rw[YI,←hl];exact hk) (by rw[←XD];exact hw) (by rw[YI];omega)) ⟨e,?_⟩
 refine⟨y,_,I.lset (n_:=c_.eraseIdx k) a e ?_ (r.eraseIdx k) ?_,j,q⟩
 ·show c_.toArray.eraseIdxIfInBounds k=(c_.eraseIdx k).toArray
  rw[List.eraseIdxIfInBounds_toArray]
 ·have:=tO xs k
  omega
def Ip:V->List V->Hp->VK->Prop:=λx vs H Q=>∃l xs,x=.ref l/\vs=[]/\H l=some (.lst xs)/\Q .non (upd H l (.lst []))
theorem CZ:AH X "list.clear" Ip:=by
 intro pins s σ H x vs v us Q I b c h;obtain⟨l,xs,rfl,rfl,a,q⟩:=h;cases b;have f:=c.zero;subst f;obtain⟨z,c_,n,r,hl,e⟩:=I.lstM a;refine call_meets F.slot_list_clear ⟨_,e,rfl⟩ F.entry_list_clear (F.args_list_clear_1 _) (AutoSeq1.list_clear_list_0 l c_.toArray n (by rw[YI];omega)) ⟨e,?_⟩;exact⟨.non,_,I.lset (n_:=[]) (ys:=[]) a e rfl .nil (YM _),rfl,q⟩
def Lj:R2:=λx y H Q=>∃l b xs a,x=.ref l/\y=.ref b/\H l=some (.lst xs)/\H b=some (.lst a)/\xs.length+a.length<=sizeLine/\∀p,H p=none->Q (.ref p) (upd H p (.lst (xs++a)))
theorem Iq:cu X (binaryOp .Add) Lj:=by
 intro pins s σ H x y v u Q I c f h;obtain⟨l,b,xs,t,rfl,rfl,g,j,hz,q⟩:=h;cases c;cases f;obtain⟨z,c_,n,r,hl,e⟩:=I.lstM g;obtain⟨B,a,C,m,G,e2⟩:=I.lstM j;refine PySem.P.add_list e e2 ?_ (by rw[YI,YI];omega);have p:c_.toArray++a.toArray=(c_++a).toArray:=by simp
 rw[p];exact⟨.ref _,_,I.lnew (t':=s.toks) (r.append m) (by rw[ZM];omega),rfl,q _ I.fresh⟩
def Lk:R2:=λx y H Q=>∃l k xs,x=.ref l/\y=.int k/\H l=some (.lst xs)/\-(2 ^ 63)<=k/\k<2 ^ 63/\xs.length*k.toNat<=sizeLine /\
 ∀p,H p=none->Q (.ref p) (upd H p (.lst (List.replicate k.toNat xs).flatten))
theorem len_rep{a:Type}(xs:List a)(k:Nat):(List.replicate k xs).flatten.length=k*xs.length:=by
 induction k with
 |zero=>simp
 |succ k b=>rw[XA,XB,ZM,b,Nat.succ_mul,Nat.add_comm]
theorem Ir:cu X (binaryOp .Mult) Lk:=by
 intro pins s σ H x y v u Q I f g h;obtain⟨l,k,xs,rfl,rfl,j,h1,p,hz,q⟩:=h;cases f;obtain⟨t,rfl⟩:=g;obtain⟨z,c_,n,r,hl,e⟩:=I.lstM j;have B:c_.toArray.size*k.toNat<=sizeLine:=by rw[YI,←hl];exact hz
 have C:¬c_.toArray.size*k.toNat>(2 ^ 63-1) / 8:=by
  have:(sizeLine:Nat)<=(2 ^ 63-1) / 8:=by decide
  omega
 have G:¬(!Builtin.List.listFitsIndex k)=true:=by
  rw[fitsIndex_both h1 p];exact YF
 have J:¬Builtin.List.listTooLong (c_.toArray.size*k.toNat)=true:=by
  rw[u8 B];exact YF
 have K:List.foldl (λb c=>b++c) #[] (List.replicate (if c_.toArray.isEmpty=true then 0 else k.toNat) c_.toArray)=(List.replicate k.toNat c_).flatten.toArray:=by
  have f0:∀m:Nat,List.foldl (λb c=>b++c) #[] (List.replicate m c_.toArray)=(List.replicate m c_).flatten.toArray:=λm=>by
   have:=foldl_rep c_ m []
   rw[XE] at this;exact this
  rw[f0];cases c_ with
  |nil=>simp
  |cons a O=>rw[if_neg (by simp)]
 refine wpAny_binaryOp_repeat_ref (T:="list") (U:="int") 'c' ⟨_,e,rfl⟩ (λL=>typeIs_int L k t) noFill_list_mul F.fills_int_mul F.slot_int_rmul repeat_list F.slot_int_index.lookup
  (call_meets F.slot_int_rmul (typeIs_int s k t) F.entry_int_rmul (F.args_int_rmul_2 _ _) (int___rmul___int_list k t l c_.toArray n)
   ⟨e,rfl,⟨_,e,rfl⟩,call_meets F.slot_list_mul ⟨_,e,rfl⟩ F.entry_list_mul (F.args_list_mul_2 _ _) (AutoListH.list___mul___list_int_3 l c_.toArray n k t G C J) ⟨e,?_⟩⟩)
 rw[K];exact⟨.ref _,_,I.lnew (t':=s.toks) (r.rep k.toNat) (by rw[len_rep,Nat.mul_comm];exact hz),rfl,q _ I.fresh⟩
end
section
variable {prog:Zv}{w:World}{A:Around}{E:Zb}{s:Shared}
end
section
variable {κ:Type}[DecidableEq κ]
def eL(a:List (κ×V))(k:κ):Option V:=(a.find? λb=>decide (b.1=k)).map (·.2)
def putK(b:List (κ×V))(k:κ)(v:V):List (κ×V):=
 if(b.any λa=>decide (a.1=k))=true then b.map (λa=>if a.1=k then(a.1,v) else a) else b++[(k,v)]
theorem qg{p:κ×V}{r:List (κ×V)}{k:κ}(e:p.1=k):eL (p::r) k=some p.2:=by simp[eL,XF,e]
theorem qh{p:κ×V}{r:List (κ×V)}{k:κ}(e:¬p.1=k):eL (p::r) k=eL r k:=by simp[eL,XF,e]
theorem u9(k:κ):∀a:List (κ×V),(a.any λb=>decide (b.1=k))=(eL a k).isSome
 |[]=>rfl
 |p::r=>by
  rw[List.any_cons];by_cases e:p.1=k
  ·simp only[qg e,YV e,Bool.true_or,Option.isSome_some]
  ·rw[qh e,ZR e,Bool.false_or];exact u9 k r
theorem pO(a:List (κ×V))(k:κ)(v:V):(putK a k v).length<=a.length+1:=by
 unfold putK;split
 ·rw[ZG];omega
 ·rw[ZM,YJ,YU];omega
theorem eI.isSome_eq{o:Option V}{u:Zw}(r:eI o u):o.isSome=u.isSome:=by
 cases o with
 |none=>cases u with
  |none=>rfl
  |some _=>exact(show False from r).elim
 |some _=>cases u with
  |none=>exact(show False from r).elim
  |some _=>rfl
theorem KV.val{c:List (κ×V)}{vs:List (κ×Value)}(r:KV c vs)(k:κ):eI (eL c k) (valueAt vs k):=by
 unfold KV at r;induction r with
 |nil=>exact True.intro
 |@cons p q ps a h t f=>
  obtain⟨h1,g⟩:=h;by_cases e:p.1=k
  ·have e':q.1=k:=h1.symm.trans e
   have b:valueAt (q::a) k=some q.2:=by simp[valueAt,XF,e']
   rw[qg e,b];exact g
  ·have e':¬q.1=k:=λz=>e (h1.trans z)
   have b:valueAt (q::a) k=valueAt a k:=by simp[valueAt,XF,e']
   rw[qh e,b];exact f
theorem KV.any{b:List (κ×V)}{vs:List (κ×Value)}(r:KV b vs)(k:κ):(b.any λa=>decide (a.1=k))=vs.any λa=>decide (a.1=k):=by
 unfold KV at r;induction r with
 |nil=>rfl
 |cons h t c=>rw[List.any_cons,List.any_cons,c,h.1]
theorem KV.repl{b:List (κ×V)}{vs:List (κ×Value)}(r:KV b vs)(k:κ){y:V}{u:Value}(c:RelV y u):
  KV (b.map λa=>if a.1=k then(a.1,y) else a) (vs.map λa=>if a.1=k then(a.1,u) else a):=by
 unfold KV at r ⊢;induction r with
 |nil=>exact .nil
 |@cons p q ps j h t f=>
  rw[YL,YL];refine .cons ?_ f;obtain⟨h1,g⟩:=h;by_cases e:p.1=k
  ·rw[if_pos e,if_pos (h1.symm.trans e)];exact⟨h1,c⟩
  ·rw[if_neg e,if_neg (λz=>e (h1.trans z))];exact⟨h1,g⟩
theorem KV.put{a:List (κ×V)}{vs:List (κ×Value)}(r:KV a vs)(k:κ){y:V}{u:Value}(b:RelV y u):KV (putK a k y) (stored vs k u):=by
 unfold putK stored;rw[r.any k];by_cases e:(vs.any λc=>decide (c.1=k))=true
 ·rw[if_pos e,if_pos e];exact r.repl k b
 ·rw[if_neg e,if_neg e];exact Paired.snoc r ⟨rfl,b⟩
theorem KV.keys{a:List (κ×V)}{vs:List (κ×Value)}(r:KV a vs):a.map (·.1)=vs.map (·.1):=by
 unfold KV at r;induction r with
 |nil=>rfl
 |cons h t b=>rw[YL,YL,b,h.1]
theorem KV.length{a:List (κ×V)}{vs:List (κ×Value)}(r:KV a vs):a.length=vs.length:=Paired.length r
end
theorem qU{P:Zv}{w:World}{k:Key}{u:Value}(r:RelV (kV k) u):(bC P w).is k u=true:=by
 cases k with
 |inl i=>obtain⟨t,e⟩:=(show ∃t,u=Value.int i t from r);subst e;exact xb P w i t
 |inr x=>obtain⟨t,e⟩:=(show ∃t,u=Value.str x t from r);subst e;exact xc P w x t
theorem tP{P:Zv}{w:World}:∀{ks:List Key}{us:Zd},ak (ks.map kV) us->ItemsAre (bC P w) ks us
 |[],_,r=>by rw[YZ] at r;cases r;exact .nil
 |k::ks,_,r=>by
  rw[YL] at r;cases r with
  |cons h t=>exact .cons (qU h) (tP t)
abbrev KT(H:Hp):List (List Key×V)->List (List Key×Addr×Value)->Prop:=Paired λp q=>p.1=q.1/\H q.2.1=some (.tup (p.1.map kV))/\RelV p.2 q.2.2
theorem KT.val{H:Hp}{c:List (List Key×V)}{xs:List (List Key×Addr×Value)}(r:KT H c xs)(k:List Key):eI (eL c k) ((atKey xs k).map (·.2)):=by
 induction r with
 |nil=>exact True.intro
 |@cons p q ps a h t f=>
  obtain⟨h1,_,g⟩:=h;by_cases e:p.1=k
  ·have e':q.1=k:=h1.symm.trans e
   have b:atKey (q::a) k=some q.2:=by simp[atKey,XF,e']
   rw[qg e,b];exact g
  ·have e':¬q.1=k:=λz=>e (h1.trans z)
   have b:atKey (q::a) k=atKey a k:=by simp[atKey,XF,e']
   rw[qh e,b];exact f
theorem KT.repl{H:Hp}{b:List (List Key×V)}{xs:List (List Key×Addr×Value)}(r:KT H b xs)(k:List Key){y:V}{u:Value}(f:RelV y u):
  KT H (b.map λa=>if a.1=k then(a.1,y) else a) (xs.map (putAt k u)):=by
 induction r with
 |nil=>exact .nil
 |@cons p q ps l h t g=>
  rw[YL,YL];refine .cons ?_ g;obtain⟨h1,c,j⟩:=h;unfold putAt;by_cases e:p.1=k
  ·rw[if_pos e,if_pos (h1.symm.trans e)];exact⟨h1,c,f⟩
  ·rw[if_neg e,if_neg (λz=>e (h1.trans z))];exact⟨h1,c,j⟩
theorem KT.put{H:Hp}{a:List (List Key×V)}{xs:List (List Key×Addr×Value)}(r:KT H a xs)(k:List Key){b:Addr}{y:V}{u:Value}(hb:H b=some (.tup (k.map kV)))(c:RelV y u):
  KT H (putK a k y) (storedH xs k b u):=by
 have e:(a.any λf=>decide (f.1=k))=(atKey xs k).isSome:=by
  rw[u9,(r.val k).isSome_eq,Option.isSome_map]
 unfold putK storedH;rw[e];by_cases q:(atKey xs k).isSome=true
 ·rw[if_pos q,if_pos q];exact r.repl k c
 ·rw[if_neg q,if_neg q];exact Paired.snoc r ⟨rfl,hb,c⟩
theorem KT.keeps{H H':Hp}{a:List (List Key×V)}{xs:List (List Key×Addr×Value)}(r:KT H a xs)(ht:∀b ys,H b=some (.tup ys)->H' b=some (.tup ys)):KT H' a xs:=
 Paired.mapP r λ_ _ z=>⟨z.1,ht _ _ z.2.1,z.2.2⟩
section
variable {P:Zv}{w:World}{H:Hp}{h:Heap}{a:Addr}
theorem Fd{u:HO}(ok:cm P w H h)(e:Rd H a u):a9 P w H h a u:=e.ok ok
theorem km{b:List (Key×V)}(ok:cm P w H h)(e:Rd H a (.dK b)):b.length<=sizeLine/\(a==sysModules)=false/\∃vs,KV b vs/\h.DictOf (bC P w) a vs:=
 show a9 P w H h a (.dK b) from Fd ok e
theorem yZ{b:List (Key×V)}(ok:cm P w H h)(e:H a=some (.dK b)):b.length<=sizeLine/\(a==sysModules)=false/\∃vs,KV b vs/\h.DictOf (bC P w) a vs:=km ok (.inl e)
theorem nL{ks:List Key}(ok:cm P w H h)(e:H a=some (.tup (ks.map kV))):(tupleKind (bC P w)).is h ks a:=by
 obtain⟨_,c_,r,o,h1,b,n,c⟩:=(show a9 P w H h a (.tup (ks.map kV)) from ok a _ e);exact⟨o,c_.toArray,n,h1,b,c,by simpa using tP r⟩
theorem qV{b:List (List Key×V)}(ok:cm P w H h)(e:Rd H a (.dT b)):b.length<=sizeLine/\(a==sysModules)=false /\
  ∃xs,KT H b xs/\h.DictOfH (tupleKind (bC P w)) a xs:=by
 obtain⟨z,y,xs,r,o,es,c,h1,f,g,j,n⟩:=(show a9 P w H h a (.dT b) from Fd ok e);refine⟨z,y,xs,r,o,es,c,h1,f,g,j,λx hx=>?_,n⟩;have all:∀{l:List (List Key×V)}{m:List (List Key×Addr×Value)},KT H l m->∀x∈m,(tupleKind (bC P w)).is h x.1 x.2.1:=by
  intro l m q;induction q with
  |nil=>intro x hx;exact nomatch hx
  |@cons p q ps B hq t u=>
   intro x hx;rcases YB.mp hx with e | hx
   ·subst e
    exact nL ok (by rw[←hq.1];exact hq.2.1)
   ·exact u x hx
 exact all r x hx
theorem Kn{b:List (List Key×V)}(ok:cm P w H h)(e:H a=some (.dT b)):b.length<=sizeLine/\(a==sysModules)=false /\
  ∃xs,KT H b xs/\h.DictOfH (tupleKind (bC P w)) a xs:=qV ok (.inl e)
end
def kX(H:Hp)(a:Addr)(y:V)(r:Option V):Prop:=
 (∃c k,Rd H a (.dK c)/\y=kV k/\r=eL c k) \/ ∃c k b,Rd H a (.dT c)/\y=.ref b/\H b=some (.tup (k.map kV))/\r=eL c k
def Ll(H:Hp)(a:Addr)(y v:V)(H':Hp):Prop:=
 (∃c k,H a=some (.dK c)/\y=kV k/\c.length<sizeLine/\H'=upd H a (.dK (putK c k v))) \/
 ∃c k b,H a=some (.dT c)/\y=.ref b/\H b=some (.tup (k.map kV))/\c.length<sizeLine/\H'=upd H a (.dT (putK c k v))
theorem kX.k{H:Hp}{a:Addr}{b:List (Key×V)}{k:Key}(e:H a=some (.dK b)):kX H a (kV k) (eL b k):=.inl ⟨b,k,.inl e,rfl,rfl⟩
section
variable {X:Cx}{pins:Zc}{σ:St}{H:Hp}{s:Shared}{a:Addr}{y v:V}{u r:Value}{o:Option V}{A:Around}{E:Zb}
theorem ad.big(I:ad X pins σ H s):sysModules<s.heap.objs.size:=by
 have h:mainGlobals<s.heap.objs.size:=(I.mod.glob.keeps I.bk).lt;exact Nat.lt_trans 'c' h
theorem AK{Q:Zb}(hu:A.units+1<cLine)(I:ad X pins σ H s)(g:kX H a y (some v))(t:RelV y u)(h:∀c B,ad X pins σ H B->RelV v c->Q c B):
  wpAny 'b' A (getItem (.ref a) u) Q E s:=by
 rcases g with⟨C,k,e,f,l⟩ | ⟨C,k,b,e,f,G,l⟩
 ·subst f
  obtain⟨z,hd,vs,j,m⟩:=km I.hok e;obtain⟨c,hw,n⟩:=eI.some_of (v:=v) (o:=valueAt vs k) (by rw[l];exact j.val k);exact wpAny_getItem_of (qU t) m.mapOf hw (h c _ (I.tok _) n)
 ·subst f
  cases(show u=Value.ref b from t);obtain⟨z,hd,xs,j,m⟩:=qV I.hok e;obtain⟨c,hw,n⟩:=eI.some_of (v:=v) (o:=(atKey xs k).map (·.2)) (by rw[l];exact j.val k);obtain⟨p,hp,J⟩:=Option.map_eq_some_iff.mp hw;refine wpAny_getItem_heap (tupleKind_room_in1 hu) (nL I.hok G) m hp ?_;rw[J];exact h c _ (I.tok _) n
theorem Lm{Q:Zb}(hu:A.units+1<cLine)(I:ad X pins σ H s)(g:kX H a y o)(m:RelV y u)(h:∀n,ad X pins σ H n->Q (.bool o.isSome) n):
  wpAny 'b' A (compareOp .In u (.ref a)) Q E s:=by
 rcases g with⟨p,k,e,c,l⟩ | ⟨p,k,b,e,c,t,l⟩
 ·subst c
  obtain⟨z,hd,vs,f,j⟩:=km I.hok e;refine wpAny_in_of (qU m) hd j.mapOf ?_;rw[←(f.val k).isSome_eq,←l];exact h _ (I.tok _)
 ·subst c
  cases(show u=Value.ref b from m);obtain⟨z,hd,xs,f,j⟩:=qV I.hok e;refine wpAny_in_heap (tupleKind_room_in1 hu) (nL I.hok t) hd j ?_;have q:=(f.val k).isSome_eq;rw[Option.isSome_map] at q;rw[←q,←l];exact h _ (I.tok _)
theorem Ge{Q:Zb}(hu:A.units+1<cLine)(I:ad X pins σ H s)(g:kX H a y o)(m:RelV y u)(h:∀n,ad X pins σ H n->Q (.bool (!o.isSome)) n):
  wpAny 'b' A (compareOp .NotIn u (.ref a)) Q E s:=by
 rcases g with⟨p,k,e,c,l⟩ | ⟨p,k,b,e,c,t,l⟩
 ·subst c
  obtain⟨z,hd,vs,f,j⟩:=km I.hok e;refine wpAny_notIn_of (qU m) hd j.mapOf ?_;rw[←(f.val k).isSome_eq,←l];exact h _ (I.tok _)
 ·subst c
  cases(show u=Value.ref b from m);obtain⟨z,hd,xs,f,j⟩:=qV I.hok e;refine wpAny_notIn_heap (tupleKind_room_in1 hu) (nL I.hok t) hd j ?_;have q:=(f.val k).isSome_eq;rw[Option.isSome_map] at q;rw[←q,←l];exact h _ (I.tok _)
theorem sY{h':Heap}{t':Nat}{c:HO}(I:ad X pins σ H s)(mu:xD (H a))(hs:Heap.SameBut a s.heap h')(f:∃q,h'.get? a=some q)(new:a9 X.prog X.w (upd H a c) h' a c):
  ad X pins σ (upd H a c) { s with heap:=h',toks:=t' }:=
 I.write (x:=a) (e:=a) mu (.inl rfl) (λb q hb z=>(hs.2 b hb).trans z) f new
theorem Iu{P:Zv}{w:World}{H':Hp}{h':Heap}{b:List (Key×V)}{vs:List (Key×Value)}(z:b.length<=sizeLine)(hd:(a==sysModules)=false)(c:KV b vs)(f:h'.DictOf (bC P w) a vs):
  a9 P w H' h' a (.dK b):=⟨z,hd,vs,c,f⟩
theorem AL{H':Hp}{Q:Zo}(hu:A.units+1<cLine)(I:ad X pins σ H s)(g:Ll H a y v H')(B:RelV y u)(C:RelV v r)(h:∀G,ad X pins σ H' G->Q () G):
  wpAny 'b' A (setItem (.ref a) u r) Q E s:=by
 rcases g with⟨f,k,e,n,l,p⟩ | ⟨f,k,b,e,n,J,l,p⟩
 ·subst n p
  obtain⟨z,hd,vs,j,t⟩:=yZ I.hok e;have hz:vs.length<=sizeLine:=by rw[←j.length];exact z
  have hl:(putK f k v).length<=sizeLine:=by have:=pO f k v;omega
  refine wpAny_setItem_pairs (hsz:=hz) (qU B) t λh' m hs=>h _ ?_
  have L:∃q,h'.get? a=some q:=let⟨q,_,_,hq,_⟩:=m;⟨q,hq⟩;exact sY I (by rw[e];exact True.intro) hs L (Iu hl hd (j.put k C) m)
 ·subst n p
  cases(show u=Value.ref b from B);obtain⟨z,hd,xs,j,t⟩:=Kn I.hok e;have hz:xs.length<=sizeLine:=by rw[←Paired.length j];exact z
  have hl:(putK f k v).length<=sizeLine:=by have:=pO f k v;omega
  refine wpAny_setItem_heap (hsz:=hz) (tupleKind_room_in1 hu) (nL I.hok J) t λh' m hs=>h _ ?_
  obtain⟨q,es,O,hq,P,R,S,_,T⟩:=m;refine sY I (by rw[e];exact True.intro) hs ⟨q,hq⟩ ⟨hl,hd,_,(j.put k J C).keeps λc ys K=>?_,q,es,O,hq,P,R,S,T⟩;rw[aM (JY K e (λz=>nomatch z))];exact K
end
section
variable {X:Cx}{pins:Zc}{σ:St}{H:Hp}{s:Shared}{a:Addr}{b_:List (Key×V)}{k:Key}{u:Value}{A:Around}{E:Zb}
theorem Fe{Q:Zb}(I:ad X pins σ H s)(e:Rd H a (.dK b_))(h:∀t b,ad X pins σ H b->Q (.int b_.length t) b):wpAny 'b' A (call (.builtin "len") [.ref a]) Q E s:=by
 obtain⟨z,hd,vs,c,f⟩:=km I.hok e;refine call_len_dict hd f (by rw[←c.length];rw[sizeLine_eq] at z;omega) ?_;rw[←c.length];exact h _ _ (I.tok _)
end
theorem xf{X:Cx}{pins:Zc}{σ:St}{H:Hp}{s:Shared}{a:Addr}{y:V}{o:Option V}(I:ad X pins σ H s)(g:kX H a y o):s.TypeIs (.ref a) "dict":=by
 rcases g with⟨f,k,e,_,_⟩ | ⟨f,k,b,e,_,_,_⟩
 ·obtain⟨_,_,vs,_,c⟩:=km I.hok e
  exact c.typeIs
 ·obtain⟨_,_,xs,_,c⟩:=qV I.hok e
  exact c.typeIs
theorem C0{P:Zv}{w:World}{H:Hp}(h:Heap)(hb:sysModules<h.objs.size):a9 P w H (h.push { cls:=.type "dict",data:=.dict #[] }) h.objs.size (.dK []):=
 ⟨YM _,ZS.mpr (Ne.symm (ZV hb)),[],.nil,Heap.DictOf.new h⟩
def Iv:TE:=λ_ H Q=>∀p,H p=none->Q (.ref p) (upd H p (.dK []))
section
variable {X:Cx}{pos:Pos}
theorem C1:PE X (.Dict [] [] pos) Iv:=λpins s σ H Q I h=>
 wpAny_Dict_empty ⟨.ref s.heap.objs.size,_,I.laid (a:=s.heap.objs.size) (o:=.dK []) (t':=s.toks) (λ_ _ q=>Yd _ q) (YG _) (C0 s.heap I.big),rfl,h _ (I.hok.fresh (YG _))⟩
end
def Iw(b more:List (Key×V)):List (Key×V):=more.foldl (λf_ a=>putK f_ a.1 a.2) b
theorem KV.merge:∀{more:List (Key×V)}{rs:List (Key×Value)}{a:List (Key×V)}{vs:List (Key×Value)},KV more rs->KV a vs->KV (Iw a more) (merged vs rs):=by
 intro more rs a vs r;unfold KV at r;induction r generalizing a vs with
 |nil=>intro q;exact q
 |@cons p q ps f h t b=>
  intro c;have e:KV (putK a p.1 p.2) (stored vs q.1 q.2):=by
   have:=c.put p.1 h.2
   rw[←h.1];exact this
  exact b e
structure M1 (X:Cx) (o:Expr) (m:Str) (o_:Pos) (e:Expr) (B_:Pos):Prop where
 base:attributeBase o m X.env (eval o X.env)=eval o X.env
 few:((backTo B_ (starEach [e] X.env)).all (λx=>!x.1)&&(backToKw B_ (keywordEach [] X.env)).all (λx=>x.1.isSome)
  && decide (([e]:List Expr).length+([]:List Keyword).length+(if([]:List Keyword).isEmpty then 0 else 1)<30))=true
 line:(o_.endLine==B_.line)=true
 trees:backTo B_ (starEach [e] X.env)=[(false,eval e X.env)]
structure M2 (X:Cx) (o:Expr) (m:Str) (o_:Pos) (e f:Expr) (B_:Pos):Prop where
 base:attributeBase o m X.env (eval o X.env)=eval o X.env
 few:((backTo B_ (starEach [e,f] X.env)).all (λx=>!x.1)&&(backToKw B_ (keywordEach [] X.env)).all (λx=>x.1.isSome)
  && decide (([e,f]:List Expr).length+([]:List Keyword).length+(if([]:List Keyword).isEmpty then 0 else 1)<30))=true
 line:(o_.endLine==B_.line)=true
 trees:backTo B_ (starEach [e,f] X.env)=[(false,eval e X.env),(false,eval f X.env)]
end L2
namespace Att
open PySem PySem.W PySem.Calls PyProof.Rows
theorem qW{P:Params}{h:Heap}:∀(ns:Zi) (vs:Zd),WellAll P h vs (ns.map WData.int)->IntsAre vs ns:=by
 intro ns;induction ns with
 |nil=>
  intro vs w;rw[YZ] at w;cases w;exact .nil
 |cons n ns c=>
  intro vs w;rw[YL] at w;cases w with
  |cons a b=>
   cases a;exact .cons _ _ (c _ b)
theorem AM{l:OpenLaw}{n:Nat}(hn:l.most=some n){P:Params}{h:Heap}{args:List WData}{b:Zd}
  (g:l.row.toRowW.claim.pre args=true) (j:WellAll P h b args):
  ∃a vs ns,b=[Value.ref a]/\args=[WData.list (ns.map WData.int)]/\h.get? a=some { cls:=.type "list",data:=.seq vs.toArray }/\IntsAre vs ns/\ns.length<=n:=by
 have m:WShape.hasAll [] args [.list .int]=true:=(pre_splitW g).1;have hc:l.pre.holds [] { args:=args }=true:=(pre_splitW g).2;obtain⟨d,r,rfl,h1,p⟩:=hasAllW_cons m;obtain rfl:=hasAllW_nil p;obtain⟨xs,rfl,t⟩:=hasW_list h1;obtain⟨ns,rfl⟩:=items_int t;have u:ns.length<=n:=by
  unfold OpenLaw.pre at hc;have c:(WTm.not (.lt (.lit (.int (n:Int))) (.len (.arg 0)))).holds [] { args:=[.list (ns.map .int)] }=true:=by
   have c:=(holds_andW hc).1;rw[hn] at c;exact c
  have f:=condW_of c (w_not (w_lt w_lit (w_len_list (w_arg rfl))));rw[ZG] at f;refine Nat.le_of_not_lt λq=>?_
  have y:(n:Int)<((ns.length:Nat):Int):=by omega
  first
   |(rw[YV y] at f;exact absurd f 'c')
   |(simp at f;omega)
 cases j with
 |cons z B=>
  cases B;cases z with
  |list C G=>exact⟨_,_,ns,rfl,rfl,C,qW ns _ G,u⟩
theorem AN(l:OpenLaw)(args:List WData):l.row.toRowW.claim.post args (.bool true) args=true:=
 postW_of (r:=l.row.toRowW) (X:=(true==true))
  (show WShape.has [] (.bool true) .bool=true by first | rfl | decide | simp[WShape.has,WShape.arms,WShape.armsAll])
  (show(WTm.eq .res (.lit (.bool true))).value [] { args:=args,res:=some (.bool true),after:=args }=some (.bool (true==true)) from w_eq_bool (w_res rfl) w_lit) rfl
theorem xg{l:OpenLaw}{n:Nat}{q:Zv}{loose:Zf}{XP:(Str->Option Value)->Heap->Prop}{YP:World->Heap->Prop}{d:DefRec}
  (hn:l.most=some n) (u:d.params.defaults=[])
  (call:∀(w:World) (s₀ b:Shared) (mg mb:Ze) (g:Addr) (o:Obj) (pm j x_:Value) (a:Addr) (vs:Zd) (ns:Zi),
   Ground q loose [] XP w s₀ mg mb b.heap->YP w b.heap ->
   b.heap.get? g=some o->o.data=.func (docDef d.name d.params d.body d.scope pm j x_)->b.heap.CodeRec j d.name->mg d.name=some (.ref g) ->
   b.heap.get? a=some { cls:=.type "list",data:=.seq vs.toArray }->IntsAre vs ns->ns.length<=n->b.gens = #[] ->
   codeAny (model l.prog w) callerA (.call (.ref g) ⟨[.ref a],[]⟩) (λr m=>r=.ok (.ret (.bool true))/\OldK b.heap m.heap/\m.os=b.os/\AllBare m.gens) b):
  WalkO q loose XP YP l.row.toRowW d [] (λf vs=>PySem.call f vs):=by
 intro w s₀ b mg mb G Y g o pm j x_ y kV z hd B p C hg args t as J T U K V;obtain rfl:y=.none:=Dflts.none p u;obtain rfl:kV=.none:=Dflts.noKw p;obtain⟨a,vs,ns,rfl,rfl,L,c,O⟩:=AM hn J K;refine enter_call (codeAny_mono (call w s₀ b mg mb g o pm j x_ a vs ns G Y z (fd_plain hd) B C L c O hg) λr m hq=>?_);obtain⟨rfl,P,R,S⟩:=hq;exact⟨.inl ⟨.bool true,.bool true,[],rfl,λ_=>rfl,.bool true,AN l _,λ_=>⟨List.Pairwise.nil,λ_ hm=>(nomatch hm)⟩⟩,P,R,S⟩
section
variable {prog:Zv}{w:World}{A:Around}{E:Zb}{s:Shared}{K:Frag}
end
end Att
namespace L2
open PySem PySem.Spec PyProof.Rows
theorem tQ:∀{vs:Zd}{ns:Zi},IntsAre vs ns->ak (ns.map V.int) vs
 |_,_,.nil=>.nil
 |_,_,.cons n t h=>.cons ⟨t,rfl⟩ (tQ h)
def C2(H:Hp):Prop:=∀b,H b=none \/ ∃o xs,H b=some (.frz o (.lst xs))
theorem C3{P:Zv}{w:World}{K:Za}{mg mb:Ze}{CX:pM}{k:Nat}{p a:Addr}{fd:Zu}{x:Str}{sp:Sp}{c:Shared}{vs:Zd}{ns:Zi}
  (t:K.In c.heap) (y:c.heap.Ns mainGlobals mg) (hb:c.heap.Ns builtinsNs mb) (O:∀x:Str,x ≠ "__name__"->mb x=bootBuiltins x) (R:c.heap.NoLimit) (hg:c.gens = #[])
  (ha:c.heap.get? a=some { cls:=.type "list",data:=.seq vs.toArray }) (hi:IntsAre vs ns) (hl:ns.length<=sizeLine) (S:bU k callerA)
  (F:∀base:Heap,K.In base->base.Ns mainGlobals mg->eJ P w K mg base CX k p fd [x] sp) (T:∀(s:Shared) (u:Value),BindsTo s fd ⟨[u],[]⟩ [(x,u)])
  (U:∀H:Hp,C2 H->bx K H a (ns.map V.int)->sp [.ref a] H (λv _=>v=.bl true) λ_ _ _=>False)
  (W:∀H e f,CX [] H c (λ_ _ _=>False) e f->False):
  codeAny (model P w) callerA (.call (.ref p) ⟨[.ref a],[]⟩) (λr f=>r=.ok (.ret (.bool true))/\OldK c.heap f.heap/\f.os=c.os/\AllBare f.gens) c:=by
 have B:=tQ hi;have Y:=hi.length
 -- from an abstract heap in which nothing but the script may be tracked
 have g:∀H:Hp,C2 H->bx K H a (ns.map V.int)->cm P w H c.heap->(∀b,H b≠none->b=a)->(H a≠none->K.lookup a=none) ->
   codeAny (model P w) callerA (.call (.ref p) ⟨[.ref a],[]⟩) (λr f=>r=.ok (.ret (.bool true))/\OldK c.heap f.heap/\f.os=c.os/\AllBare f.gens) c:=by
  intro H C Z hok G hK;have J:∀{b:Addr}{o:Obj},c.heap.get? b=some o->H b=none->(lZ c.heap H).get? b=some o:=λe n=>Cz e n
  have Qo:∀{b:Addr}{o:Obj}{es:Array DictEntry}{j:Nat},c.heap.get? b=some o->o.data=.dict es j->H b=none:=λ{b o es j} e d=>by
   cases q:H b with
   |none=>rfl
   |some u=>
    have e':b=a:=G b (by rw[q];simp);subst e';rw[ha] at e;cases e;have d':Data.seq vs.toArray _=Data.dict es j:=d;cases d'
  have l:∀{b:Addr}{m:Ze},c.heap.Ns b m->(lZ c.heap H).Ns b m:=λ{b m} ⟨o,es,j,e,d,r⟩=>⟨o,es,j,J e (Qo e d),d,r⟩
  have L:K.In (lZ c.heap H):=λb o e=>J (t b o e) (by
   cases q:H b with
   |none=>rfl
   |some u=>
    have e':b=a:=G b (by rw[q];simp);subst e';rw[hK (by rw[q];simp)] at e;cases e)
  have hM:Mod K mg (lZ c.heap H):=⟨L,l y,⟨mb,l hb,O⟩,let⟨mc,h1,h2⟩:=R;⟨mc,l h1,h2⟩⟩;have e0:db P w K mg (lZ c.heap H) callerA [] c H:=⟨rfl,hM,λb o e=>FM e,Nat.le_of_eq (At _ _),trivial,λb hb=>absurd (show b∈([]:List Addr) from hb) (by simp),hok,.of_eq hg⟩;refine codeAny_mono ((F _ L (l y)).run callerA [] c H ⟨[.ref a],[]⟩ [.ref a] [.ref a] _ _ S e0 (T c (.ref a)) (.cons rfl .nil) (U H C Z)) λr f h=>?_
  cases r with
  |error e=>exact(W H e f h).elim
  |ok fl=>
   cases fl with
   |next=>exact Yh h
   |brk=>exact Yh h
   |cont=>exact Yh h
   |ret u=>
    obtain⟨v,H',os,bare,un,Ph,r',q⟩:=h;have q':v=.bl true:=q;subst q';obtain rfl:u=Value.bool true:=r';refine⟨rfl,OldK.of_keep λb o e=>?_,os,bare⟩;cases q:H b with
    |none=>exact un.keep b o e q (by intro z;exact absurd (show b∈([]:List Addr) from z) (by simp)) (by simp)
    |some u=>
     rcases C b with z | ⟨ob,xs,z⟩
     ·rw[q] at z;cases z
     ·have z2:=un.frzs b ob _ z
      obtain⟨e1,_⟩:=hok b _ z;obtain⟨e2,_⟩:=Ph b _ z2;rw[e] at e1;cases e1;exact e2
 cases hk:K.lookup a with
 |some o=>
  -- the script is one of the module's own objects
  have e:=t a o hk;rw[ha] at e;cases e;refine g (λ_=>none) (λ_=>.inl rfl) (.inr ⟨_,vs.toArray,_,hk,rfl,rfl,rfl,by rw[YI,Y];exact hl,by simpa using B⟩) (λb u z=>by have z':(none:Option HO)=some u:=z;cases z') (λb z=>absurd rfl z) λz=>absurd rfl z
 |none=>
  refine g (λb=>if b=a then some (.frz { cls:=.type "list",data:=.seq vs.toArray } (.lst (ns.map V.int))) else none) (λb=>?_) (.inl (.inr ⟨{ cls:=.type "list",data:=.seq vs.toArray },if_pos rfl⟩)) (λb u z=>?_) (λb z=>?_) λ_=>hk
  ·by_cases hb:b=a
   ·exact .inr ⟨_,_,if_pos hb⟩
   ·exact .inl (if_neg hb)
  ·by_cases hb:b=a
   ·have z':=(if_pos hb).symm.trans z
    cases z';subst hb;exact⟨ha,by rw[ZG];exact hl,vs,_,B,ha⟩
   ·have z':=(if_neg hb).symm.trans z
    cases z'
  ·by_cases hb:b=a
   ·exact hb
   ·exact absurd (if_neg hb) z
theorem Gf{l:PySem.W.OpenLaw}{n k:Nat}{q:Zv}{loose:Zf}{XP:(Str->Option Value)->Heap->Prop}{YP:World->Heap->Prop}{d:DefRec}{K:Params->PySem.W.Frag}{CX:World->pM}{sp:World->Sp}{x:Str}
  (hn:l.most=some n) (t:n<=sizeLine) (y:d.params.defaults=[]) (z:bU k callerA)
  (B:∀(w:World) (h:Heap),YP w h->(K w.params).In h)
  (F:∀(w:World) (mg:Ze) (j:Addr) (h:Heap),(K w.params).In h->h.Ns mainGlobals mg->mg d.name=some (.ref j) ->
   ∃fd:FuncData,(∀(s:Shared) (u:Value),BindsTo s fd ⟨[u],[]⟩ [(x,u)]) /\
    ∀base:Heap,(K w.params).In base->base.Ns mainGlobals mg->eJ l.prog w (K w.params) mg base (CX w) k j fd [x] (sp w))
  (C:∀(w:World) (H:Hp) (a:Addr) (ns:Zi),ns.length<=n->C2 H->bx (K w.params) H a (ns.map V.int)->sp w [.ref a] H (λv _=>v=.bl true) λ_ _ _=>False)
  (J:∀(w:World) (H:Hp) (s:Shared) (e:Value) (m:Shared),CX w [] H s (λ_ _ _=>False) e m->False):
  PySem.W.WalkO q loose XP YP l.row.toRowW d [] (λf vs=>PySem.call f vs):=by
 refine Att.xg hn y λw s₀ L mg mb j o pm Z x_ a vs ns G Y ho hd NL O P c p hg=>?_
 have r:=B w _ Y;obtain⟨fd,hb,R⟩:=F w mg j _ r G.T.g O;exact C3 r G.T.g G.T.b G.T.builtins G.T.nolimit hg P c (ZY p t) z R hb (λH S U=>C w H a ns p S U) λH e m=>J w H L e m
def inClass(s:Stmt)(j:Nat):Stmt:=match s with
 |.ClassDef _ _ _ body _ _ _ _ _ _ _=>body.getD j (.Pass ⟨0,0,0,0⟩)
 |_=>.Pass ⟨0,0,0,0⟩
def bF(s:Stmt):Arguments:=match s with
 |.FunctionDef _ a _ _ _ _ _ _ _ _=>a
 |_=>{ posonlyargs:=[],args:=[],vararg:=none,kwonlyargs:=[],kw_defaults:=[],kwarg:=none,defaults:=[] }
def aW(s:Stmt):List Stmt:=match s with
 |.FunctionDef _ _ b _ _ _ _ _ _ _=>b
 |_=>[]
def ar(s:Stmt):Scope:=match s with
 |.FunctionDef _ _ _ _ _ _ sc _ _ _=>sc
 |_=>{ kind:=.function,names:=[],isGenerator:=false,isCoroutine:=false }
abbrev ko:pM:=λ_ _ _ _ _ _=>False
abbrev E0:XK:=λ_ _ _=>False
theorem uJ{X:Cx}:nI ko X E0:=λ_ _ _ _ _ _ _ h=>h.elim
structure qX (K:Za) (x k_:Str) (st:Stmt) (f:Addr) (fd:Zu):Prop where
 ex:∃(oc:Value) (od:Zm) (kV x_ pm:Value) (an:Zm) (s_ ct:Value) (K_:Zn),
  fd=PySem.W.fnOf x k_ (bF st) (aW st) (ar st) .none kV x_ pm an s_ ct/\K.lookup f=some ⟨oc,od,.func fd,K_⟩/\PySem.W.codeIn K s_ k_=true
 kp:PySem.W.keepIn K (.ref f)=true
section
variable {P:Zv}{w:World}{K:Za}{mg:Ze}{base:Heap}
theorem qX.ok{x k_:Str}{st:Stmt}{f:Addr}{fd:Zu}{N ps:Zf}{k:Nat}{sp:Sp}(F:qX K x k_ st f fd)(S:cp N ps (ar st))(len:∀vs H Q E,sp vs H Q E->vs.length=ps.length)
  (a:∀(s_:Value) (A:Around) (outer:List Env) (s:Shared) (H:Hp) (vs:List V) (Q:VK) (E:XK),bU k (A.deeper (envOfC k_ (ar st) s.heap.objs.size f s_))->sp vs H Q E ->
   ∃t,kl (nJ ko P w K mg base N k_ (ar st) f s_ A outer s H E).nox (aW st) t/\t { nx:=λ_ H'=>Q .non H',rt:=Q } (start N vs) H):eJ P w K mg base ko (k+1) f fd ps sp:=by
 obtain⟨oc,od,kV,x_,pm,an,s_,ct,K_,rfl,b,c⟩:=F.ex;refine Kh b c S len λA outer s H vs Q E g j=>?_
 obtain⟨t,h,q⟩:=a s_ A outer s H vs Q E g j;exact⟨t,h.nox,q⟩
theorem qX.binds{x k_:Str}{st:Stmt}{f:Addr}{fd:Zu}{ps:Zf}(F:qX K x k_ st f fd)
  (h:∀(kV x_ pm:Value) (an:Zm) (s_ ct:Value) (us:Zd),us.length=ps.length->bindArgs (PySem.W.fnOf x k_ (bF st) (aW st) (ar st) .none kV x_ pm an s_ ct) ⟨us,[]⟩=pure (ps.zip us)):Binds K fd ps []:=by
 obtain⟨oc,od,kV,x_,pm,an,s_,ct,K_,rfl,a,b⟩:=F.ex;exact .all (h kV x_ pm an s_ ct)
theorem va{x k_:Str}{st:Stmt}{f:Addr}{oc:Value}{od an:Zm}{K_:Zn}{kV x_ pm s_ ct:Value}(l:K.lookup f=some ⟨oc,od,.func (PySem.W.fnOf x k_ (bF st) (aW st) (ar st) .none kV x_ pm an s_ ct),K_⟩)
  (c:PySem.W.codeIn K s_ k_=true) (k:PySem.W.keepIn K (.ref f)=true):qX K x k_ st f (PySem.W.fnOf x k_ (bF st) (aW st) (ar st) .none kV x_ pm an s_ ct):=⟨⟨oc,od,kV,x_,pm,an,s_,ct,K_,rfl,l,c⟩,k⟩
end
theorem tR{n:Nat}(h:n<=1000):n<sizeLine:=Nat.lt_of_le_of_lt h 'c'
section
variable {X:Cx}
theorem AO:fF X (.builtin "len") (λxs H Q=>∃a b,xs=[V.ref a]/\H a=some (.dK b)/\Q (.int b.length) H):=by
 intro pins s σ H xs us Q I r h;obtain⟨a,b,rfl,ha,q⟩:=h;obtain⟨u,rfl,c⟩:=vals1 r;cases c;exact Fe I (.inl ha) λt g f=>⟨.int b.length,H,f,⟨t,rfl⟩,q⟩
end
def iA(cells:Zq):List (Str×NameKind)->List (Str×Addr)->List (Str×Addr)
 |[],f_=>f_
 |(n,k)::r,f_=>iA cells r (if k==.free then(n,(cells.lookup n).getD 0)::f_ else f_)
def nM(scope:Scope)(env:Env):List (Str×Addr):=iA env.cells scope.names []
theorem uu{scope:Scope}{env:Env}(h:∀x∈scope.names,x.2=.free->∃c,env.cells.lookup x.1=some c):closureFor scope env=pure (nM scope env):=by
 have b:∀(l:List (Str×NameKind)) (f_:Zq),(∀x∈l,x.2=.free->∃c,env.cells.lookup x.1=some c) ->
   (forIn l f_ λ(x:Str×NameKind) (f:Zq)=>
    (if x.2==.free then(do let c ←cellOf env x.1;pure (ForInStep.yield ((x.1,c)::f))) else pure (ForInStep.yield f):Sem (ForInStep (List (Str×Addr)))))=pure (iA env.cells l f_):=by
  intro l;induction l with
  |nil=>intro f_ _;rfl
  |cons x r j=>
   intro f_ hx;obtain⟨n,k⟩:=x;have a:=j (if k==.free then(n,(env.cells.lookup n).getD 0)::f_ else f_) λy hy=>hx y (YA _ hy)
   rw[List.forIn_cons];by_cases hk:k=.free
   ·subst hk
    obtain⟨c,hc⟩:=hx (n,.free) ZZ rfl;have e:cellOf env n=pure c:=by unfold cellOf;rw[hc]
    have g:env.cells.lookup n=some c:=hc;simp only[XG,if_true,g,Option.getD_some] at a;simp only[XG,if_true,e,pure_bind];rw[a];simp only[iA,XG,if_true,g,Option.getD_some]
   ·have hb:(k==NameKind.free)=false:=by simpa using hk
    simp only[hb,XH,if_false] at a;simp only[hb,XH,if_false,pure_bind];rw[a];simp only[iA,hb,XH,if_false]
 have:=b scope.names [] h
 unfold closureFor nM;simp only[bind_pure];exact this
theorem qY{cells:Zq}:∀{l:List (Str×NameKind)}{f_:Zq}{p:Str×Addr},p∈iA cells l f_->p∈f_\/((p.1,NameKind.free)∈l/\p.2=(cells.lookup p.1).getD 0)
 |[],_,_,h=>.inl h
 |(n,k)::r,f_,p,h=>by
  rcases qY (l:=r) h with q | ⟨q1,q2⟩
  ·by_cases hk:k=.free
   ·subst hk
    simp only[XG,if_true] at q;rcases YB.mp q with e | q
    ·subst e;exact .inr ⟨ZZ,rfl⟩
    ·exact .inl q
   ·have hb:(k==NameKind.free)=false:=by simpa using hk
    simp only[hb,XH,if_false] at q;exact .inl q
  ·exact .inr ⟨YA _ q1,q2⟩
theorem qZ{cells:Zq}:∀{l:List (Str×NameKind)}{f_:Zq}{p:Str×Addr},p∈f_->p∈iA cells l f_
 |[],_,_,h=>h
 |(n,k)::r,f_,p,h=>by
  refine qZ (l:=r) ?_;split
  ·exact YA _ h
  ·exact h
theorem q0{cells:Zq}:∀{l:List (Str×NameKind)}{f_:Zq}{n:Str},(n,NameKind.free)∈l->∃c,(n,c)∈iA cells l f_
 |(m,k)::r,f_,n,h=>by
  rcases YB.mp h with e | h
  ·cases e
   exact⟨_,qZ (l:=r) (by simp only[XG,if_true];exact ZZ)⟩
  ·exact q0 (l:=r) h
theorem iB{a:Type}:∀{l:List (Str×a)}{n:Str}{c:a},(n,c)∈l->∃d,l.lookup n=some d
 |(m,d)::r,n,c,h=>by
  rcases YB.mp h with e | h
  ·cases e;exact⟨d,by simp[XI]⟩
  ·cases hb:n==m with
   |true=>exact⟨d,by simp[XI,hb]⟩
   |false=>
    obtain⟨d',e⟩:=iB (l:=r) h;exact⟨d',by simp[XI,hb,e]⟩
theorem iC{scope:Scope}{env:Env}(h:∀x∈scope.names,x.2=.free->∃c,env.cells.lookup x.1=some c){y:Str}{c:Addr}(e:(nM scope env).lookup y=some c):env.cells.lookup y=some c:=by
 have m:=PySem.mem_of_lookup e;rcases qY m with z | ⟨z1,z2⟩
 ·cases z
 ·obtain⟨c',f⟩:=h _ z1 rfl
  have a:env.cells.lookup y=some c':=f;have b:c=(env.cells.lookup y).getD 0:=z2;rw[a] at b;rw[a,b];rfl
theorem AQ{scope:Scope}{env:Env}(h:∀x∈scope.names,x.2=.free->∃c,env.cells.lookup x.1=some c){y:Str}{c:Addr}(hy:(y,NameKind.free)∈scope.names)(e:env.cells.lookup y=some c):
  (nM scope env).lookup y=some c:=by
 obtain⟨c',m⟩:=q0 (cells:=env.cells) (f_:=[]) hy;obtain⟨d,q⟩:=iB m;have a:(nM scope env).lookup y=some d:=q
 have:=iC h a
 rw[e] at this;rw[a,←this]
theorem dU{env:Env}:∀{names:List (Str×NameKind)}{x:Str},
  (names.map λ(n,k)=>if(k==NameKind.free&&env.scope.kind==.function&&env.kindOf n==some .cell) then(n,NameKind.cell) else(n,k)).lookup x =
   (names.lookup x).map λk=>if(k==NameKind.free&&env.scope.kind==.function&&env.kindOf x==some .cell) then NameKind.cell else k
 |[],_=>rfl
 |(n,k)::r,x=>by
  have a:=@dU env r x;show List.lookup x ((if(k==NameKind.free&&env.scope.kind==.function&&env.kindOf n==some .cell)=true then(n,NameKind.cell) else(n,k))::_)=_;cases hx:x==n with
  |true=>
   have e:x=n:=by simpa using hx
   subst e;by_cases hc:(k==NameKind.free&&env.scope.kind==.function&&env.kindOf x==some .cell)=true
   ·rw[if_pos hc];simp only[XI,XG,Option.map_some];rw[if_pos hc]
   ·rw[if_neg hc];simp only[XI,XG,Option.map_some];rw[if_neg hc]
  |false=>
   by_cases hc:(k==NameKind.free&&env.scope.kind==.function&&env.kindOf n==some .cell)=true
   ·rw[if_pos hc];simp only[XI,hx];exact a
   ·rw[if_neg hc];simp only[XI,hx];exact a
structure fY (MJ scope:Scope) (N own N2:Zf):Prop where
 kind:scope.kind=.function
 nocell:∀y∈scope.names,y.2≠.cell
 names:∀y∈scope.names,y.2=.local->scope.names.lookup y.1=some .local
 free:∀y∈scope.names,y.2=.free->(MJ.names.lookup y.1=some .cell\/MJ.names.lookup y.1=some .free)
 len:N2.length=N.length
 vis:∀p∈N2.zip N,(scope.names.lookup p.1=some .free->p.1=p.2)/\scope.names.lookup p.1≠some .local
def c8(X:Cx)(scope:Scope)(own N2:Zf)(C:Addr)(s:Shared)(H:Hp)(ex:Zh)(pn:Zc):Cx where
 prog:=X.prog
 w:=X.w
 K:=X.K
 mg:=X.mg
 base:=X.base
 A:=X.A
 N:=N2++own
 s₀:=s
 H₀:=H
 env:=compEnvC scope (nM scope X.env) C X.env
 outer:=X.stack
 stack:=X.stack
 ex:=ex
 calm:=X.calm
 fn:=λ_=>false
 pn:=pn
 xe:=λ_ _=>False
theorem Un.track{fs ex:Zh}{H H':Hp}{h h':Heap}{a:Addr}{o:HO}(u:Un fs ex H H' h h')(hp:h.objs.size<=a)(hn:H a=none):Un fs ex H (upd H' a o) h h' where
 keep:=u.keep
 slot:=u.slot
 free:=λb c q n hx=>by rw[aM (ZV (ZT (Ye q) hp))];exact u.free b c q n hx
 there:=u.there
 tups:=λb xs q=>by rw[aM (bu q hn)];exact u.tups b xs q
 frzs:=λb c xs q=>by rw[aM (bu q hn)];exact u.frzs b c xs q
 tbls:=λb ps q=>by rw[aM (bu q hn)];exact u.tbls b ps q
def AR(X:Cx)(a:Zg)(t:TT):Prop:=
 ∀(pins:Zc) (s:Shared) (σ:St) (H:Hp) (Q:Bool->Hp->Prop),ad X pins σ H s->t σ H Q ->
  wpAny 'b' X.A (forIn a true λc r=>if r=true then do let ok ←isTrue c X.env (eval c X.env);pure (ForInStep.yield ok) else pure (ForInStep.yield r)) (TP X pins σ Q) X.xe s
def Lo:TT:=λ_ H Q=>Q true H
theorem Gg{X:Cx}:AR X [] Lo:=λ_ _ _ H _ I h=>wpAny_tests_nil ⟨H,I,h⟩
theorem Gh{X:Cx}{c:Expr}{t:TT}(h:PT X c t):AR X [c] t:=λpins s σ H Q I q=>wpAny_tests_one (h pins s σ H Q I q)
def uK(J:It)(g:TG)(tc:TT)(te:TE)(Fin:List V->Hp->Prop)(σ0:St)(n:Hp):Prop:=
 ∃W:Nat->Nat->List V->St->Hp->Prop,(∃m,W 0 m [] σ0 n)/\∀i m ys σ H,W i m ys σ H ->
  (J.stop i H/\Fin ys H)\/(J.go i H/\ys.length<sizeLine/\∃N:List V->St->Hp->Prop,(∀c f H',N c f H'->∃j,j<m/\W (i+1) j c f H') /\
   ∀x H',J.yld i H x H'->g x σ H' λa p=>tc a p λb l=>if b=true then te a l (λy r=>N (ys++[y]) a r) else N ys a l)
section
variable {prog:Zv}{w:World}{A:Around}{R:Result->Shared->Prop}{s:Shared}
theorem pH{j a iter:Expr}{b:Zg}{scope:Scope}{f:Pos}{it f_:Value}{env:Env}(I:Nat->Shared->Prop)
  (g:∀n s,I n s->wpAny 'd' A (pyNext it) (λr l=>match r with
   |none=>R (.ok .next) l
   |some v=>wpAny 'd' A (letOwnedTupleGo a it v) (λ_ t=>wpAny 'd' A (assign a env v) (λ_ u=>
     wpAny 'd' A (forIn b true λc r=>if r=true then do let ok ←isTrue c env (eval c env);pure (ForInStep.yield ok) else pure (ForInStep.yield r)) (λok p=>
      if ok=true then wpAny 'd' A (eval j env) (λx y=>
       wpAny 'd' A (call (.builtin "list.append") [f_,x]) (λ_ z=>∃m,m<n/\I m z) (λ_ _=>False) y) (λ_ _=>False) p
      else ∃m,m<n/\I m p) (λ_ _=>False) u) (λ_ _=>False) t) (λ_ _=>False) l) (λ_ _=>False) s)
  (n:Nat) (h:I n s):
  codeAny 'd' A (.compLoop (.ListComp j [⟨a,iter,b,0⟩] scope f) 0 it f_ env) R s:=by
 refine codeAny_loop rfl I (λn s G=>?_) n h;show wpAny _ A ((compTurn (.ListComp j [⟨a,iter,b,0⟩] scope f) 0 it f_ env).onRaise (λx=>do noteFrame x env;theTreesLotGoes x)) _ _ s;refine wpAny_noted (wpAny_noRaise ?_);rw[compTurn_list];refine Yb (Yk (Yb (wpAny_mono (g n s G) (λr l B=>?_) λ_ _ h'=>h')));cases r with
 |none=>exact Yc B
 |some v=>
  refine Yb (wpAny_mono B (λ_ t J=>?_) λ_ _ h'=>h');refine Yb (wpAny_mono J (λ_ u K=>Yb (wpAny_mono K (λok p C=>?_) λ_ _ h'=>h')) λ_ _ h'=>h');cases ok with
  |false=>exact Yc ⟨rfl,C⟩
  |true=>
   exact Yb (Yb (wpAny_mono C (λx y L=>Yb (wpAny_mono L (λ_ z O=>Yc (Yc ⟨rfl,O⟩)) λ_ _ h'=>h')) λ_ _ h'=>h'))
end
section
variable {X:Cx}{pins:Zc}{σ:St}{H:Hp}{s:Shared}
theorem tS{F' tg iter:Expr}{U:Zg}{scope MJ:Scope}{N own N2:Zf}{ac ah:Pos}{wi:TI}{g:TG}{tc:TT}{te:TE}{use:Option (Value->Sem Unit)}{QQ:Zb}{Fin:List V->Hp->Prop}
  (l:fY MJ scope N own N2) (ho:X.env.scope=MJ) (hN:X.N=N) (hc:X.calm=true) (hi:PI X tg iter wi)
  (hg:∀C s H ex pn,PG (c8 X scope own N2 C s H ex pn) tg g) (ht:∀C s H ex pn,AR (c8 X scope own N2 C s H ex pn) U tc) (he:∀C s H ex pn,PE (c8 X scope own N2 C s H ex pn) F' te)
  (I:ad X pins σ H s) (h:wi σ H λJ H1=>uK J g tc te Fin (σ++List.replicate own.length none) H1)
  (fin:∀(D C:Addr) (ys:List V) (H':Hp) (B:Shared) (m:Ze),Fin ys H'->H' D=none->ad X pins σ (upd H' D (.lst ys)) B->B.heap.Ns C m->l0 X pins (upd H' D (.lst ys)) C ->
   compPost 'b' X.A X.xe use QQ (.ref D) C (.ok .next) B)
  (hs:∀x,foldedSetIterable iter X.env x=pure x):
  wpAny 'b' X.A (comprehension (.ListComp F' [⟨tg,iter,U,0⟩] scope ac) scope X.env ah (newList []) false (eval iter X.env) use) QQ X.xe s:=by
 subst ho hN;have t:∀x∈scope.names,x.2=.free->∃c,X.env.cells.lookup x.1=some c:=λx hx hf=>I.ok.has x.1 (l.free x hx hf)
 refine wpAny_comprehension_free (use:=use) rfl hs (uu t) l.kind l.names (aN (hi pins s σ H _ I h) λv s1 h1=>aN h1 λR8 s2 h2=>?_);obtain⟨it,fp,tn,J,L,e,a,T,MA,P,W,⟨m0,w0⟩,al⟩:=h2;subst e;refine wpAny_newObj_type (wpAny_newFunctionEnv l.nocell (by intro y hy;simp at hy) (λMK Nd ML=>?_) l.kind);dsimp only at Nd ML ⊢;generalize hG:s2.heap.push { cls:=.type "list",dict:=none,data:=.seq ([]:List Value).toArray }=G at Nd ML ⊢;have hC:G.objs.size=s2.heap.objs.size+1:=by rw[←hG,Heap.size_push]
 have RF:s2.heap.objs.size≠G.objs.size:=by rw[hC];exact ZV (Nat.lt_succ_self _)
 have Pj:s2.heap.objs.size<=G.objs.size:=by rw[hC];exact YN _
 have f:∀b,b<s2.heap.objs.size->b≠G.objs.size/\b≠s2.heap.objs.size:=λb hb=>⟨by rw[hC];exact ZV (XJ hb),ZV hb⟩
 have old:∀b o,s2.heap.get? b=some o->MK.get? b=some o:=λb o e=>ML.extBut b o (f b (Ye e)).1 (Yd _ (hG▸Yd _ e))
 have v_:MK.get? s2.heap.objs.size=some (LCg.lst []):=ML.extBut _ _ RF (Yd _ (hG▸Yg _ rfl));have Oo:∀b∈fp,b<s2.heap.objs.size:=λb hb=>let⟨o,e,_⟩:=T.obj 0 _ MA b hb;Ye e
 have U8:L s2.heap.objs.size=none:=a.hok.fresh (YG _);have Wb:L G.objs.size=none:=a.hok.fresh Pj;have Pk:∀x c,X.env.cells.lookup x=some c->c<s2.heap.objs.size:=λx c e=>let⟨v,z⟩:=a.cell x c e;z.lt
 have QC:∀p∈X.pn++pins,p.1<s2.heap.objs.size:=λp hp=>Ye (a.pin p hp).1
 -- the block's context
 generalize hX:c8 X scope own N2 G.objs.size s2 L fp (X.pn++pins)=j;have Ph:j.Ok:=by
  subst hX;refine⟨a.ok.mod,l.kind,a.ok.glob,a.ok.blt,Pj,λx y c e1 e2=>a.ok.inj x y c (iC t e1) (iC t e2),λx hx=>?_,λx c hf=>?_,a.ok.hd,a.ok.frames,.inl rfl,λb hb=>?_,a.bs,
   ZY a.ok.bsz a.sz,λb o e hb=>?_,λb hb hz=>?_,a.stack,a.stkFree⟩
  ·have Y:(relabel scope X.env).names.lookup x=some .cell\/(relabel scope X.env).names.lookup x=some .free:=hx
   unfold relabel at Y;dsimp only at Y;rw[dU] at Y;have hm:∃k,scope.names.lookup x=some k:=by
    cases q:scope.names.lookup x with
    |none=>rw[q] at Y;rcases Y with z | z<;>cases z
    |some k=>exact⟨k,rfl⟩
   obtain⟨k,hk⟩:=hm;have Mf:=PySem.mem_of_lookup hk;have Wc:k=.free:=by
    rw[hk] at Y;cases k with
    |free=>rfl
    |cell=>exact absurd rfl (l.nocell _ Mf)
    |_=>rcases Y with z | z<;>cases z
   subst Wc;obtain⟨c,hc⟩:=t _ Mf rfl;exact⟨c,AQ t Mf hc⟩
  ·cases hf
  ·obtain⟨_,f1,ff,fx,fc,U9⟩:=P b hb
   exact⟨(f b (Oo b hb)).1,λx c e=>fc x c (iC t e)⟩
  ·obtain⟨_,_,_,fx,_,_⟩:=P b hb
   rcases fx with z | z
   ·exact a.ok.noex b o e z
   ·exact absurd (ZT (Ye e) (ZY a.ok.bsz z)) (ZU _)
  ·obtain⟨_,f1,ff,_⟩:=P b hb
   rcases YB.mp (a.stkSub b hz) with z | z
   ·exact f1 z
   ·exact ff z
 have I0:ad j [(s2.heap.objs.size,LCg.lst [])] (σ++List.replicate own.length none) L { s2 with heap:=MK,toks:=s2.toks+([]:List (Str×Value)).length }:=by
  subst hX;refine⟨Ph,rfl,a.bare,Un.kept old,⟨_,Nd,λi x v e1 e2 e3=>?_⟩,λx c e=>?_,Wb,λx c e=>a.freeC x c (iC t e),λp hp=>?_,a.hok.kept old,?_⟩
  ·have e1:(N2++own)[i]?=some x:=e1
   have P6:i<σ.length:=by
    by_cases P6:i<σ.length
    ·exact P6
    ·rw[ZI 'a',List.getElem?_replicate] at e2
     split at e2<;>cases e2
   rw[ZF P6] at e2;have h_:N2.length=σ.length:=l.len.trans a.len.symm;rw[ZF 'a'] at e1;have U_:i<X.N.length:=by rw[←a.len];exact P6
   have hz:(x,X.N[i])∈N2.zip X.N:=by
    refine YT (i:=i) ?_;rw[List.getElem?_zip_eq_some];exact⟨e1,ZE U_⟩
   obtain⟨v1,v2⟩:=l.vis _ hz;have Z:uU (relabel scope X.env) x:=e3;have S4:scope.names.lookup x=some .free:=by
    unfold uU relabel at Z;dsimp only at Z;rw[dU] at Z;cases q:scope.names.lookup x with
    |none=>rw[q] at Z;rcases Z with z | z | z<;>cases z
    |some k=>
     rw[q] at Z;cases k with
     |free=>rfl
     |cell=>exact absurd rfl (l.nocell _ (PySem.mem_of_lookup q))
     |«local»=>exact absurd q v2
     |_=>rcases Z with z | z | z<;>cases z
   have Mf:=PySem.mem_of_lookup S4;have ex:x=X.N[i]:=v1 S4;have Wd:X.N[i]?=some x:=by rw[ex];exact ZE U_
   have U':=l.free _ Mf rfl;obtain⟨m,hn,hl⟩:=a.loc;obtain⟨u,ru,lk⟩:=hl i x v Wd e2 (.inr U');refine⟨u,ru,?_⟩;rcases lk with⟨k,_⟩ | ⟨k,c,ec,z⟩
   ·have k':X.env.scope.names.lookup x=some .local:=k
    rcases U' with q | q<;>(have q':X.env.scope.names.lookup x=_:=q;rw[k'] at q';cases q')
   ·refine .inr ⟨?_,c,AQ t Mf ec,?_⟩
    ·show(relabel scope X.env).names.lookup x=some .cell\/(relabel scope X.env).names.lookup x=some .free
     unfold relabel;dsimp only;rw[dU,S4];show some (if _ then NameKind.cell else NameKind.free)=_\/some (if _ then NameKind.cell else NameKind.free)=_;split
     ·exact .inl rfl
     ·exact .inr rfl
    ·obtain⟨o,eo,d⟩:=z
     exact⟨o,old _ _ eo,d⟩
  ·obtain⟨v,o,eo,d⟩:=a.cell x c (iC t e)
   exact⟨v,o,old _ _ eo,d⟩
  ·have hp:p∈(X.pn++pins)++[(s2.heap.objs.size,LCg.lst [])]:=hp
   rcases YC.mp hp with hp | hp
   ·obtain⟨e,n,nl,nf,d⟩:=a.pin p hp
    refine⟨old _ _ e,n,(f _ (Ye e)).1,λhz=>?_,d⟩;rcases YB.mp (a.stkSub p.1 hz) with z | z
    ·exact nl z
    ·exact nf z
   ·have e:p=(s2.heap.objs.size,LCg.lst []):=by simpa using hp
    subst e;refine⟨v_,U8,RF,λhz=>?_,λv z=>by cases z⟩;rcases YB.mp (a.stkSub _ hz) with z | z
    ·exact absurd a.lt (by rw[←z];exact ZU _)
    ·exact a.nofs (YG _) z
  ·show(σ++List.replicate own.length none).length=(N2++own).length
   rw[ZM,ZM,List.length_replicate,l.len,a.len]
 have M_:∀{H':Hp}{us:Zd},(∀b∈fp,H' b=none)->∀b∈fp,l0 j [(s2.heap.objs.size,LCg.lst us)] H' b:=λ{H' us} hn b hb=>by
  subst hX;obtain⟨_,f1,ff,fx,fc,U9⟩:=P b hb;refine⟨hn b hb,(f b (Oo b hb)).1,λhz=>?_,.inl hb,λx c e=>fc x c (iC t e),λp hp z=>?_⟩
  ·rcases YB.mp (a.stkSub b hz) with z | z
   ·exact f1 z
   ·exact ff z
  ·have hp:p∈(X.pn++pins)++[(s2.heap.objs.size,LCg.lst us)]:=hp
   rcases YC.mp hp with hp | hp
   ·exact U9 p hp z
   ·have e:p=(s2.heap.objs.size,LCg.lst us):=by simpa using hp
    subst e;exact(f b (Oo b hb)).2 z.symm
 have eP:j.prog=X.prog:=by subst hX;rfl
 have eW:j.w=X.w:=by subst hX;rfl
 have eK:j.K=X.K:=by subst hX;rfl
 have eA:j.A=X.A:=by subst hX;rfl
 have eE:j.env=compEnvC scope (nM scope X.env) G.objs.size X.env:=by subst hX;rfl
 have eX:j.xe=λ_ _=>False:=by subst hX;rfl
 have eC:j.calm=true:=by subst hX;exact hc
 have eS:j.s₀=s2:=by subst hX;rfl
 have eH:j.H₀=L:=by subst hX;rfl
 have eF:j.fs=lE X.stack:=by subst hX;rfl
 have We:j.ex=fp:=by subst hX;rfl
 have eN:j.pn=X.pn++pins:=by subst hX;rfl
 have w_:=hg G.objs.size s2 L fp (X.pn++pins);have RG:=ht G.objs.size s2 L fp (X.pn++pins);have Va:=he G.objs.size s2 L fp (X.pn++pins);rw[hX] at w_ RG Va;have S:∀Nc:Shared,Nc={ s2 with heap:=MK,toks:=s2.toks+([]:List (Str×Value)).length } ->
   codeAny 'b' X.A (.compLoop (.ListComp F' [⟨tg,iter,U,0⟩] scope ac) 0 (.ref it) (.ref s2.heap.objs.size) (compEnvC scope (nM scope X.env) G.objs.size X.env))
    (compPost 'b' X.A X.xe use QQ (.ref s2.heap.objs.size) G.objs.size) Nc:=by
  rintro Nc rfl;refine pH (λn B=>∃i ys us j_ H',ad j [(s2.heap.objs.size,LCg.lst us)] j_ H' B/\tn i B.heap/\(∀b∈fp,H' b=none)/\ak ys us/\ys.length<=sizeLine/\W i n ys j_ H') ?_ m0
   ⟨0,[],[],_,L,I0,T.keep 0 _ _ MA λb _ o e=>old b o e,λb hb=>(P b hb).1,.nil,YM _,w0⟩
  rintro n s3 ⟨i,ys,us,Me,O,I3,Og,Ql,hv,hz,w3⟩;rcases al i n ys Me O w3 with⟨stop,qn⟩ | ⟨go,L8,NN,Vb,step⟩
  ·have dn:=T.done j eP eW eK eC i _ s3 Me O (λ_ _=>False) I3 (M_ Ql) Og stop
   rw[eA] at dn;refine aN dn λr s4 Md=>?_
   obtain⟨hr,I4⟩:=Md;subst hr;have pD:=I4.pin (s2.heap.objs.size,LCg.lst us) (YH _ ZZ);have S_:O s2.heap.objs.size=none:=pD.2.1;have Wf:O G.objs.size=none:=by have:=I4.free;rw[eE] at this;exact this
   have un:Un (lE X.stack) fp L O s2.heap s4.heap:=by have:=I4.base;rw[eF,We,eH,eS] at this;exact this
   have Wg:cm X.prog X.w O s4.heap:=by have:=I4.hok;rw[eP,eW] at this;exact this
   have Ta:cm X.prog X.w (upd O s2.heap.objs.size (.lst ys)) s4.heap:=λb u e=>by
    by_cases hb:b=s2.heap.objs.size
    ·subst hb
     rw[aB] at e;cases e;exact⟨hz,us,us.length,hv,pD.1⟩
    ·rw[aM hb] at e
     refine(Wg b u e).stay (λc v _ q=>q) (λc q=>?_) λc xs q=>?_
     ·rw[aM (bu q S_)];exact q
     ·rw[aM (bu q S_)];exact q
   have Wh:s4.os=s2.os:=by have:=I4.os;rw[eS] at this;exact this
   have I5:ad X pins σ (upd O s2.heap.objs.size (.lst ys)) s4:=a.call' Wh (un.track (YG _) U8) Ta I4.bare λb hb=>⟨(P b hb).2.2.2.1,(P b hb).2.1,(P b hb).2.2.2.2.1,(P b hb).2.2.2.2.2⟩
   obtain⟨m,hn,_⟩:=I4.loc;rw[eE] at hn;exact fin _ _ ys O s4 m qn S_ I5 hn (a.fpOk Pj (by rw[aM (Ne.symm RF)];exact Wf))
  ·have Vc:=T.item j eP eW eK eC i _ s3 Me O (λ_ _=>False) I3 (M_ Ql) Og go
   rw[eA] at Vc;refine aN Vc λr s4 MI=>?_
   obtain⟨u,hr,h4⟩:=MI;subst hr;refine aN h4 λ_ s5 Nv=>?_
   obtain⟨x,H5,I5,r5,y5,O_,Sd⟩:=Nv;have Se:=I5.pinned (M_ Sd) (T.obj _ _ O_);have a5:=w_ _ s5 Me H5 x u _ Se r5 (step x H5 y5);rw[eP,eW,eA,eE,eX] at a5;refine aN a5 λ_ s6 Nw=>?_
   obtain⟨R,H6,I6,q6⟩:=Nw;have a6:=RG _ s6 R H6 _ I6 q6;rw[eP,eW,eA,eE,eX] at a6;refine aN a6 λok s7 Nf=>?_
   obtain⟨H7,I7,q7⟩:=Nf;have Nq:∀{j_:St}{H':Hp}{B:Shared}{Pm:Zd},ad j ([(s2.heap.objs.size,LCg.lst Pm)]++iy fp s5.heap) j_ H' B->tn (i+1) B.heap/\∀b∈fp,H' b=none:=λ{j_ H' B Pm} J'=>by
    refine⟨T.keep _ _ _ O_ λb hb o e=>(J'.pin (b,o) (YH _ (YH _ (jc hb e)))).1,λb hb=>?_⟩;obtain⟨o,e,d⟩:=T.obj _ _ O_ b hb;exact(J'.pin (b,o) (YH _ (YH _ (jc hb e)))).2.1
   cases ok with
   |false=>
    obtain⟨m',hm,w7⟩:=Vb _ _ _ (by simpa using q7);exact⟨m',hm,i+1,ys,us,R,H7,I7.unpinned,(Nq I7).1,(Nq I7).2,hv,hz,w7⟩
   |true=>
    have q7:te R H7 (λy H4=>NN (ys++[y]) R H4):=by simpa using q7
    have a7:=Va _ s7 R H7 _ I7 q7;rw[eP,eW,eA,eE,eX] at a7;refine aN a7 λuy s8 NZ=>?_
    obtain⟨y,H8,I8,r8,q8⟩:=NZ;have pD:=I8.pin (s2.heap.objs.size,LCg.lst us) (YH _ (List.mem_append_left _ ZZ));have Z5:us.length=ys.length:=hv.length.symm;refine append_at (hsz:=by rw[YI];omega) pD.1 λh9 Wi Wj=>?_
    obtain⟨m',hm,w8⟩:=Vb _ _ _ q8;have Wk:ad j (iy fp s5.heap) R H8 s8:=I8.pins_of λp hp=>I8.pin p (YH _ (YH _ hp))
    have I9:ad j (iy fp s5.heap) R H8 { s8 with heap:=h9 }:=Wk.turned (t':=s8.toks) (it:=s2.heap.objs.size) (λb o hb e=>(Wi.2 b hb).trans e) pD.2.1 (by rw[eE];exact RF) (.inr (by rw[eS];exact YG _))
     (λx c e=>by
      rw[eE] at e;exact ZV (Pk x c (iC t e)))
     (λp hp=>by
      rw[eN] at hp;rcases YC.mp hp with z | z
      ·exact ZV (QC p z)
      ·exact ZV (Oo _ (tJ z).1))
    have Tb:ad j ([(s2.heap.objs.size,LCg.lst (us++[uy]))]++iy fp s5.heap) R H8 { s8 with heap:=h9 }:=I9.pins_of λp hp=>by
     rcases YC.mp hp with z | z
     ·have e:p=(s2.heap.objs.size,LCg.lst (us++[uy])):=by simpa using z
      subst e;exact⟨Wj.trans (congrArg some (LCg.lst_snoc us uy)),pD.2.1,pD.2.2.1,pD.2.2.2.1,λv z=>by cases z⟩
     ·exact I9.pin p (YH _ z)
    exact⟨m',hm,i+1,ys++[y],us++[uy],R,H8,Tb.unpinned,(Nq Tb).1,(Nq Tb).2,hv.append (.cons r8 .nil),by rw[ZM,XC];omega,w8⟩
 exact codeAny_compStart_list (S _ rfl) (T.self X.A 0 _ _ _ (T.keep 0 _ _ MA λb _ o e=>old b o e) (S _ rfl))
def Ko(k:Nat)(a:TI)(g:TG)(tc:TT)(te:TE):TE:=λσ H Q=>a σ H λJ b=>uK J g tc te (λys H'=>∀p,H' p=none->Q (.ref p) (upd H' p (.lst ys))) (σ++List.replicate k none) b
theorem Gi{j tg iter:Expr}{a:Zg}{scope MJ:Scope}{N own N2:Zf}{f:Pos}{l:TI}{g:TG}{tc:TT}{te:TE}(n:fY MJ scope N own N2)(hc:X.calm=true)(hi:PI X tg iter l)
  (hg:∀C s H ex pn,PG (c8 X scope own N2 C s H ex pn) tg g) (ht:∀C s H ex pn,AR (c8 X scope own N2 C s H ex pn) a tc) (p:∀C s H ex pn,PE (c8 X scope own N2 C s H ex pn) j te)
  (r:X.env.scope=MJ:=by rfl) (t:X.N=N:=by rfl) (hs:∀x,foldedSetIterable iter X.env x=pure x:=by intro _;rfl):
  PE X (.ListComp j [⟨tg,iter,a,0⟩] scope f) (Ko own.length l g tc te):=by
 intro pins s σ H Q I h;rw[eval_ListComp];refine tS (use:=none) n r t hc hi hg ht p I h (λD C ys H' u m q y z hn c=>⟨m,hn,λh' B=>⟨.ref D,_,?_,rfl,q D y⟩⟩) hs;exact z.turned (t':=u.toks) (λb o hb e=>(B.2 b hb).trans e) c.1 c.2.1 c.2.2.2.1 c.2.2.2.2.1 c.2.2.2.2.2
def Kq(i k:Nat)(a:TI)(g:TG)(tc:TT)(te:TE):TS:=λD σ H=>a σ H λJ b=>uK J g tc te (λys H'=>∀p,H' p=none->D.nx (σ.set i (some (.ref p))) (upd H' p (.lst ys))) (σ++List.replicate k none) b
theorem Gj{n tg iter:Expr}{c:Zg}{scope MJ:Scope}{N own N2:Zf}{f l r:Pos}{t:TI}{g:TG}{tc:TT}{te:TE}{i:Nat}{y:Str}(u:fY MJ scope N own N2)(hc:X.calm=true)
  (B:X.N.Nodup) (hy:X.N[i]?=some y) (hl:X.env.scope.names.lookup y=some .local)
  (hi:PI X tg iter t)
  (hg:∀C s H ex pn,PG (c8 X scope own N2 C s H ex pn) tg g) (ht:∀C s H ex pn,AR (c8 X scope own N2 C s H ex pn) c tc) (G:∀C s H ex pn,PE (c8 X scope own N2 C s H ex pn) n te)
  (J:swapsWith (.ListComp n [⟨tg,iter,c,0⟩] scope f) (some (.Name y l)) r.line X.env=pure true:=by rfl)
  (K:X.env.scope=MJ:=by rfl) (L:X.N=N:=by rfl) (hs:∀x,foldedSetIterable iter X.env x=pure x:=by intro _;rfl):
  PS X (.Assign [.Name y l] (.ListComp n [⟨tg,iter,c,0⟩] scope f) r) (Kq i own.length t g tc te):=by
 intro pins s σ H D I h;rw[exec_Assign_Name_used _ _ _ _ J];refine Yb (Yk (Yb ?_));show wpAny _ X.A (do let _ ←comprehension (.ListComp n [⟨tg,iter,c,0⟩] scope f) scope X.env _ (newList []) false (eval iter X.env) (some (assign (.Name y l) X.env))) _ _ s;refine Yb (aN (tS (use:=some (assign (.Name y l) X.env)) (QQ:=λ_ p=>SP X pins D .next p) u K L hc hi hg ht G I h (λD' C ys H' p m q O P hn j=>?_) hs) (λ_ p hq=>Yc (Yc hq)));show wpAny _ X.A (assign (.Name y l) X.env (.ref D')) _ _ _;refine wpAny_assign_Name (tI P B hy (.inl hl) (show RelV (.ref D') (.ref D') from rfl) (λR S T=>?_) (.inr hl));obtain⟨a,U,ha⟩:=T;have V:C≠a:=by
  rcases ha with z | z
  ·rw[z];exact j.2.1
  ·exact(j.2.2.2.2.1 y a z).symm
 refine⟨m,hn.sameBut U V,λh' W=>⟨_,_,?_,q D' O⟩⟩;exact S.turned (t':=R.toks) (λb o hb e=>(W.2 b hb).trans e) j.1 j.2.1 j.2.2.2.1 j.2.2.2.2.1 j.2.2.2.2.2
end
def Ff(x:Str):It:=⟨λi _=>i<x.cps.size,λi H v H'=>H'=H/\∃c,x.cps[i]?=some c/\v=.str ⟨#[c]⟩,λi _=>i=x.cps.size⟩
theorem AS{P:Zv}{w:World}{K:Za}{tg:Expr}(it:Addr)(x:Str)(t:Tok):Turn P w K tg (Ff x) [it] it (λi h=>h.IsStrIter it "str_ascii_iterator" x t i) where
 mem:=by simp
 obj:=λi h st b hb=>by
  have e:b=it:=by simpa using hb
  subst e;obtain⟨o,e,c,d⟩:=st;exact⟨o,e,λv z=>by rw[d] at z;cases z⟩
 keep:=λi h h' st k=>let⟨o,e,r⟩:=st;⟨o,k it (by simp) o e,r⟩
 item:=by
  rw[0];obtain⟨f0,a,l,f,g,j⟩:=hf it (by simp);have W:=Walks.strAscii (prog:=X.prog) (w:=X.w) (I.ok.hd hc) it x t;refine W.item i s _ _ hg st λv h' tk hv e_ kk=>?_
  obtain⟨c,u,m,rfl⟩:=hv;have n:ad X pins σ H { s with heap:=h',toks:=tk }:=I.turned (λb o hb e=>kk b o (by simpa using hb) e) f0 a f g j;obtain⟨o,e,p,d⟩:=id e_;exact⟨_,rfl,oM (s:={ s with heap:=h',toks:=tk }) e p d 'c' ⟨.str ⟨#[c]⟩,H,n,⟨u,rfl⟩,⟨rfl,c,m,rfl⟩,e_,λb hb=>(hf b hb).1⟩⟩
 done:=by
  rw[0];obtain⟨f0,a,l,f,g,j⟩:=hf it (by simp);have W:=Walks.strAscii (prog:=X.prog) (w:=X.w) (I.ok.hd hc) it x t;have y:i=x.cps.size:=hg;subst y;exact W.done s _ _ st λh' tk kk=>⟨rfl,I.turned (λb o hb e=>kk b o (by simpa using hb) e) f0 a f g j⟩
 self:=λ_ _ _ _ _ st h=>wpAny_pyIter_striter_ascii st h
theorem AT{P:Zv}{w:World}{K:Za}{tg:Expr}(it:Addr)(x:Str)(t:Tok):Turn P w K tg (Ff x) [it] it (λi h=>h.IsStrIter it "str_iterator" x t i) where
 mem:=by simp
 obj:=λi h st b hb=>by
  have e:b=it:=by simpa using hb
  subst e;obtain⟨o,e,c,d⟩:=st;exact⟨o,e,λv z=>by rw[d] at z;cases z⟩
 keep:=λi h h' st k=>let⟨o,e,r⟩:=st;⟨o,k it (by simp) o e,r⟩
 item:=by
  rw[0];obtain⟨f0,a,l,f,g,j⟩:=hf it (by simp);have W:=Walks.strWide (prog:=X.prog) (w:=X.w) (I.ok.hd hc) it x t;refine W.item i s _ _ hg st λv h' tk hv e_ kk=>?_
  obtain⟨c,u,m,rfl⟩:=hv;have n:ad X pins σ H { s with heap:=h',toks:=tk }:=I.turned (λb o hb e=>kk b o (by simpa using hb) e) f0 a f g j;obtain⟨o,e,p,d⟩:=id e_;exact⟨_,rfl,oM (s:={ s with heap:=h',toks:=tk }) e p d 'c' ⟨.str ⟨#[c]⟩,H,n,⟨u,rfl⟩,⟨rfl,c,m,rfl⟩,e_,λb hb=>(hf b hb).1⟩⟩
 done:=by
  rw[0];obtain⟨f0,a,l,f,g,j⟩:=hf it (by simp);have W:=Walks.strWide (prog:=X.prog) (w:=X.w) (I.ok.hd hc) it x t;have y:i=x.cps.size:=hg;subst y;exact W.done s _ _ st λh' tk kk=>⟨rfl,I.turned (λb o hb e=>kk b o (by simpa using hb) e) f0 a f g j⟩
 self:=λ_ _ _ _ _ st h=>wpAny_pyIter_striter_wide st h
section
variable {X:Cx}
theorem AU{bs:List Bool}{c_:Zd}(r:ak (bs.map V.bl) c_){i:Nat}{v:Value}(h:c_[i]?=some v):v=.bool ((bs[i]?).getD false):=by
 have hl:=r.length;rw[ZG] at hl;have hi:i<bs.length:=by have:=(YD.mp h).1;omega
 obtain⟨u,hu,a⟩:=r.get (i:=i) (x:=V.bl bs[i]) (by rw[ZH,ZE hi];rfl);rw[h] at hu;cases hu;have a:v=Value.bool bs[i]:=a;rw[a,ZE hi];rfl
theorem range_all{bs:List Bool}{n:Nat}(hn:n=bs.length):((List.range n).all λi=>(bs[i]?).getD false)=bs.all id:=by
 subst hn;rw[XM,XN,XN];constructor
 ·intro h b hb
  obtain⟨i,hi,e⟩:=List.mem_iff_getElem.mp hb
  have:=h i (ZX.mpr hi)
  rw[ZE hi] at this;rw[←e];exact this
 ·intro h i hi
  have hi:=ZX.mp hi;rw[ZE hi];exact h _ (List.getElem_mem hi)
theorem C4(hc:X.calm=true):fF X (.builtin "all") (λxs H Q=>∃p bs,xs=[.ref p]/\bx X.K H p (List.map V.bl bs)/\Q (.bl (bs.all id)) H):=by
 intro pins s σ H xs us Q I r h;obtain⟨p,bs,rfl,hq,q⟩:=h;obtain⟨u,rfl,f⟩:=vals1 r;cases f;obtain⟨c_,c,a,hz⟩:=I.list hq;have g:p<s.heap.objs.size:=by obtain⟨o,_,e,_⟩:=a;exact Ye e
 refine call_all_walk (wpAny_pyIter_list a.isList ⟨s.heap.objs.size,_,_,_,_,_,λi=>(bs[i]?).getD false,rfl,Walks.list (A:=X.A.in1) (I.ok.hd hc) s.heap.objs.size p (ZV g) c_.toArray,
  ⟨⟨_,Yg _ rfl,rfl,rfl⟩,a.isList.push _⟩,λi v l m n hv j=>?_,λh' tk kk=>?_⟩)
 ·have hv:c_[i]?=some v:=by simpa using hv
  rw[AU c hv];exact wpAny_truthy_bool j
 ·have e:c_.toArray.size=bs.length:=by have:=c.length;rw[ZG] at this;simp;omega
  rw[range_all e];refine⟨.bl _,H,I.kept λb o e=>kk b o ?_ (Yd _ e),rfl,q⟩;simp only[XO];exact ZV (Ye e)
theorem mulOk_of{x:Str}{n:Int}(a:0<=n)(h:x.length*n.toNat<=1048576)(hn:n<=1048576):MulOk x n:=by
 refine⟨?_,λh1 b=>?_,λh1 b=>?_⟩
 ·rw[Bool.or_eq_false_iff]
  exact⟨ZR 'a',ZR 'a'⟩
 ·intro c
  have f:1<=n:=by omega
  have g:(2 ^ 63-1:Int) / n*n<=2 ^ 63-1:=Int.ediv_mul_le _ 'a';have j:(2 ^ 63-1:Int)<((2 ^ 63-1) / n+1)*n:=Int.lt_ediv_add_one_mul_self _ 'a';have l:((2 ^ 63-1:Int) / n+1)*n<=(x.length:Int)*n:=Int.mul_le_mul_of_nonneg_right 'a' 'a';have m:((x.length*n.toNat:Nat):Int)=(x.length:Int)*n:=by rw[Int.natCast_mul,XQ a]
  have p:((x.length*n.toNat:Nat):Int)<=1048576:=by omega
  omega
 ·show decide (x.length*n.toNat>sizeLine)=false
  rw[sizeLine_eq];exact ZR 'a'
theorem y0:cu X (binaryOp .Mult) (λx y H Q=>∃z n,x=.str z/\y=.int n/\0<=n/\n<=1048576/\z.length*n.toNat<=1048576/\Q (.str (Txt.mul z n)) H):=by
 intro pins s σ H x y v u Q I a b h;obtain⟨z,n,rfl,rfl,c,hn,hz,q⟩:=h;obtain⟨t,rfl⟩:=a;obtain⟨t',rfl⟩:=b;exact SB.mul (mulOk_of c hz hn) λf k=>⟨.str _,H,I.tok _,⟨f,rfl⟩,q⟩
end
structure oO (K:Za) (mg:Ze) (x:Str) (st:Stmt) (ps:Zf) (f:Addr) (fd:Zu):Prop where
 fn:qX K x x st f fd
 mgf:mg x=some (.ref f)
 b:Binds K fd ps []
theorem C5{K:Za}{h:Heap}{mg:Ze}{x:Str}{st:Stmt}{ps:Zf}{f:Addr}{oc:Value}{od an:Zm}{K_:Zn}{kV x_ pm s_ ct:Value}(X:K.In h)(G:h.Ns mainGlobals mg)
  (a:PySem.W.nsIn K mainGlobals x=some (some (.ref f))) (l:K.lookup f=some ⟨oc,od,.func (PySem.W.fnOf x x (bF st) (aW st) (ar st) .none kV x_ pm an s_ ct),K_⟩)
  (c:PySem.W.codeIn K s_ x=true) (k:PySem.W.keepIn K (.ref f)=true)
  (hb:∀(kV x_ pm:Value) (an:Zm) (s_ ct:Value) (us:Zd),us.length=ps.length->bindArgs (PySem.W.fnOf x x (bF st) (aW st) (ar st) .none kV x_ pm an s_ ct) ⟨us,[]⟩=pure (ps.zip us)):
  oO K mg x st ps f (PySem.W.fnOf x x (bF st) (aW st) (ar st) .none kV x_ pm an s_ ct):=by
 have F:=va (st:=st) l c k;exact⟨F,PySem.W.mg_of X G a,F.binds hb⟩
section
variable {X:Cx}{k:Nat}{f:Addr}{fd:Zu}{ps:Zf}{sp:Sp}{x:Str}{st:Stmt}{p pos:Pos}{e:Expr}{es:Zg}{t:TA}
theorem Ix(D:oO X.K X.mg x st ps f fd)(F:eJ X.prog X.w X.K X.mg X.base ko k f fd ps sp)(a:bU k X.A)(ha:PA X (e::es) t)(hg:Gl X x:=by rfl)(c:(x==("__debug__" : Str))=false:=by decide)
  (g:starEach (e::es) X.env=(false,eval e X.env)::starEach es X.env:=by rfl) (j:(backTo pos (starEach es X.env)).any (·.1)=false:=by rfl):PE X (.Call (.Name x p) (e::es) [] pos) (Fb sp [] E0 t):=
 F4 F a hg D.mgf D.fn.kp D.b .nil uJ ha c g j
end
theorem AV(K:Za){a b:String}{r:Bool}(h:(if(Value.type a==Value.type b)=true then some true else if PySem.W.kitMeta b=true then(fastBuiltinMro a).map (·.contains (.type b)) else none)=some r):
  PySem.W.kitOne K (.type a) (.type b)=some r:=h
def av:Expr->Bool
 |.Starred _ _=>false
 |_=>true
theorem bt{e:Expr}{es:Zg}{env:Env}(h:av e=true):starEach (e::es) env=(false,eval e env)::starEach es env:=by
 cases e<;>first | rfl | (exact absurd (show false=true from h) YF)
end L2
namespace DD
open PySem PySem.Spec PyProof.Rows L2
inductive D where
 |non | bl (b:Bool) | int (i:Int) | str (x:Str) | tup (ds:List D) | ref (a:Addr) | ty (n:String)
section
variable {α β:Type}{F G:α->β->Prop}
theorem iD:∀{l:List α}{m:List β},Paired F l m->l.length=m.length
 |_,_,.nil=>rfl
 |_,_,.cons _ t=>by simp[iD t]
theorem cO:∀{l:List α}{m:List β}{i:Nat}{a:α},Paired F l m->l[i]?=some a->∃b,m[i]?=some b/\F a b
 |_,_,_,_,.nil,e=>by simp at e
 |_,_,0,_,.cons r _,e=>by simp at e;subst e;exact⟨_,rfl,r⟩
 |_,_,i+1,a,.cons _ t,e=>by
  obtain⟨b,h1,c⟩:=cO (i:=i) (a:=a) t (by simpa using e);exact⟨b,by simpa using h1,c⟩
theorem bA:∀{l a:List α}{m b:List β},Paired F l m->Paired F a b->Paired F (l++a) (m++b)
 |_,_,_,_,.nil,s=>s
 |_,_,_,_,.cons r t,s=>.cons r (bA t s)
theorem sZ:∀{l:List α}{m:List β}(n:Nat),Paired F l m->Paired F (l.take n) (m.take n)
 |_,_,0,_=>.nil
 |_,_,_+1,.nil=>.nil
 |_,_,n+1,.cons r t=>.cons r (sZ n t)
theorem xL:∀{l:List α}{m:List β}(n:Nat),Paired F l m->Paired F (l.drop n) (m.drop n)
 |_,_,0,r=>r
 |_,_,_+1,.nil=>.nil
 |_,_,n+1,.cons _ t=>xL n t
theorem vb{a:α}{b:β}(r:F a b):∀{l:List α}{m:List β}(i:Nat),Paired F l m->Paired F (l.set i a) (m.set i b)
 |_,_,_,.nil=>.nil
 |_,_,0,.cons _ t=>.cons r t
 |_,_,i+1,.cons q t=>.cons q (vb r i t)
theorem iE(f:∀a b,F a b->G a b):∀{l:List α}{m:List β},Paired F l m->Paired G l m
 |_,_,.nil=>.nil
 |_,_,.cons r t=>.cons (f _ _ r) (iE f t)
theorem AW{l:List α}{m:List β}(h:Paired F l m):∀n,Paired F (List.replicate n l).flatten (List.replicate n m).flatten
 |0=>.nil
 |n+1=>by rw[XA,XA,XB,XB];exact bA h (AW h n)
theorem ju{a:α}{b:β}(r:F a b):∀n,Paired F (List.replicate n a) (List.replicate n b)
 |0=>.nil
 |n+1=>.cons r (ju r n)
end
section
variable (K:Za)(H:Hp)
mutual
noncomputable def RV:D->V->Prop
 |.non,v=>v=.non
 |.bl b,v=>v=.bl b
 |.int i,v=>v=.int i
 |.str x,v=>v=.str x
 |.ref a,v=>v=.ref a
 |.ty n,v=>v=.ty n
 |.tup ds,v=>∃a xs,v=.ref a/\bn K H a xs/\ag ds xs
noncomputable def ag:List D->List V->Prop
 |[],xs=>xs=[]
 |d::ds,xs=>∃v vs,xs=v::vs/\RV d v/\ag ds vs
end
end
section
variable {K:Za}{H H' Vd:Hp}
theorem ag.p:∀{ds:List D}{xs:List V},ag K H ds xs->Paired (RV K H) ds xs
 |[],_,h=>by rw[ag] at h;subst h;exact .nil
 |d::ds,_,h=>by
  rw[ag] at h;obtain⟨v,vs,rfl,r,t⟩:=h;exact .cons r (ag.p t)
theorem ag.of:∀{ds:List D}{xs:List V},Paired (RV K H) ds xs->ag K H ds xs
 |_,_,.nil=>by rw[ag]
 |_,_,.cons r t=>by rw[ag];exact⟨_,_,rfl,r,ag.of t⟩
theorem ag.nil:ag K H [] []:=by rw[ag]
theorem ag.cons{d:D}{v:V}{ds:List D}{vs:List V}(r:RV K H d v)(t:ag K H ds vs):ag K H (d::ds) (v::vs):=by rw[ag];exact⟨_,_,rfl,r,t⟩
theorem ag.len{ds:List D}{xs:List V}(h:ag K H ds xs):ds.length=xs.length:=iD h.p
def Kp(H H':Hp):Prop:=(∀a xs,Rd H a (.tup xs)->Rd H' a (.tup xs))/\∀a u o,H a=some (.frz u o)->H' a=some (.frz u o)
theorem Kp.refl(H:Hp):Kp H H:=⟨λ_ _ h=>h,λ_ _ _ h=>h⟩
theorem Kp.trans(a:Kp H H')(b:Kp H' Vd):Kp H Vd:=⟨λc xs h=>b.1 c xs (a.1 c xs h),λc u o h=>b.2 c u o (a.2 c u o h)⟩
theorem Kp.new{p:Addr}{o:HO}(h:H p=none):Kp H (upd H p o):=⟨λa xs r=>by
 rcases r with r | ⟨u,r⟩
 ·exact .inl (by rw[aM (bu r h)];exact r)
 ·exact .inr ⟨u,by rw[aM (bu r h)];exact r⟩,λa u o r=>by rw[aM (bu r h)];exact r⟩
def Fg:HO->Prop
 |.tup _=>False
 |.frz _ _=>False
 |_=>True
theorem Kp.put{p:Addr}{o o':HO}(h:H p=some o)(n:Fg o):Kp H (upd H p o'):=⟨λa xs r=>by
 rcases r with r | ⟨u,r⟩
 ·have:a≠p:=λe=>by subst e;rw[h] at r;cases r;exact n
  exact .inl (by rw[aM this];exact r)
 ·have:a≠p:=λe=>by subst e;rw[h] at r;cases r;exact n
  exact .inr ⟨u,by rw[aM this];exact r⟩,λa u o r=>by
  have:a≠p:=λe=>by subst e;rw[h] at r;cases r;exact n
  rw[aM this];exact r⟩
theorem Kp.sq(t:Kp H H'){a:Addr}{xs:List V}(h:bn K H a xs):bn K H' a xs:=by
 rcases h with h | h
 ·exact .inl (t.1 a xs h)
 ·exact .inr h
mutual
theorem RV.mono(t:Kp H H'):∀(d:D){v:V},RV K H d v->RV K H' d v
 |.non,_,h=>by rw[RV] at h ⊢;exact h
 |.bl _,_,h=>by rw[RV] at h ⊢;exact h
 |.int _,_,h=>by rw[RV] at h ⊢;exact h
 |.str _,_,h=>by rw[RV] at h ⊢;exact h
 |.ref _,_,h=>by rw[RV] at h ⊢;exact h
 |.ty _,_,h=>by rw[RV] at h ⊢;exact h
 |.tup ds,_,h=>by
  rw[RV] at h ⊢;obtain⟨a,xs,e,s,r⟩:=h;exact⟨a,xs,e,t.sq s,ag.mono t ds r⟩
theorem ag.mono(t:Kp H H'):∀(ds:List D){xs:List V},ag K H ds xs->ag K H' ds xs
 |[],_,h=>by rw[ag] at h ⊢;exact h
 |d::ds,_,h=>by
  rw[ag] at h ⊢;obtain⟨v,vs,e,r,q⟩:=h;exact⟨v,vs,e,RV.mono t d r,ag.mono t ds q⟩
end
theorem RV.non_{v:V}:RV K H .non v↔v=.non:=by rw[RV]
theorem RV.bl_{v:V}{b:Bool}:RV K H (.bl b) v↔v=.bl b:=by rw[RV]
theorem RV.int_{v:V}{b:Int}:RV K H (.int b) v↔v=.int b:=by rw[RV]
theorem RV.str_{v:V}{b:Str}:RV K H (.str b) v↔v=.str b:=by rw[RV]
theorem RV.ref_{v:V}{b:Addr}:RV K H (.ref b) v↔v=.ref b:=by rw[RV]
theorem RV.ty_{v:V}{b:String}:RV K H (.ty b) v↔v=.ty b:=by rw[RV]
theorem RV.tup_{v:V}{ds:List D}:RV K H (.tup ds) v ↔ ∃a xs,v=.ref a/\bn K H a xs/\ag K H ds xs:=by rw[RV]
def b2i(b:Bool):Int:=if b=true then 1 else 0
def Iy(x:List Int×Addr×Value):DictEntry:=⟨reduceHash (Builtin.Tuple.tupleHashOf (x.1.map hashInt)),.ref x.2.1,x.2.2⟩
def nN(a:Addr)(xs:List (List Int×Addr×Value)):HO:=.ext λh=>∃o es b,h.get? a=some o/\o.ExactDict/\o.data=.dict es b/\es.toList=xs.map Iy
def jv(K:Za)(H:Hp)(k:Int×Bool)(x:List Int×Addr×Value):Prop:=x.1=[k.1,b2i k.2]/\bn K H x.2.1 [.int k.1,.bl k.2]/\x.2.2=.bool true
inductive MO where
 |lst (ds:List D) | rol (ds:List D) | dic (b_:List (Key×D)) | rod (b_:List (Key×D)) | ins (C:Addr) (fs:List (Str×D)) | prs (ks:List (Int×Bool))
abbrev MH:=Addr->Option MO
def ab(M:MH)(a:Addr)(o:MO):MH:=λb=>if b=a then some o else M b
theorem aa{M:MH}{a:Addr}{o:MO}:ab M a o a=some o:=by unfold ab;rw[if_pos rfl]
theorem aL{M:MH}{a b:Addr}{o:MO}(h:b≠a):ab M a o b=M b:=by unfold ab;rw[if_neg h]
def RO(K:Za)(H:Hp)(a:Addr):MO->Prop
 |.lst ds=>∃xs,H a=some (.lst xs)/\ag K H ds xs
 |.rol ds=>∃xs,Rd H a (.lst xs)/\ag K H ds xs
 |.dic c=>∃b:List (Key×V),H a=some (.dK b)/\b.map (·.1)=c.map (·.1)/\ag K H (c.map (·.2)) (b.map (·.2))
 |.rod c=>∃(u:Obj) (b:List (Key×V)),H a=some (.frz u (.dK b))/\b.map (·.1)=c.map (·.1)/\ag K H (c.map (·.2)) (b.map (·.2))
 |.ins C fs=>∃(dx:Addr) (f:List (Str×V)),H a=some (.ins C dx f)/\f.map (·.1)=fs.map (·.1)/\ag K H (fs.map (·.2)) (f.map (·.2))
 |.prs ks=>∃xs,H a=some (nN a xs)/\Paired (jv K H) ks xs/\ks.Nodup/\ks.length<=sizeLine/\(a==sysModules)=false
def RM(K:Za)(M:MH)(H:Hp):Prop:=∀a o,M a=some o->RO K H a o
theorem RO.stay{a:Addr}{o:MO}(h:RO K H a o)(t:Kp H H')(e:H' a=H a):RO K H' a o:=by
 cases o with
 |lst ds=>obtain⟨xs,q,r⟩:=h;exact⟨xs,e.trans q,ag.mono t _ r⟩
 |rol ds=>
  obtain⟨xs,q,r⟩:=h;refine⟨xs,?_,ag.mono t _ r⟩;rcases q with q | ⟨u,q⟩
  ·exact .inl (e.trans q)
  ·exact .inr ⟨u,e.trans q⟩
 |dic c=>obtain⟨b,q,k,r⟩:=h;exact⟨b,e.trans q,k,ag.mono t _ r⟩
 |rod c=>obtain⟨u,b,q,k,r⟩:=h;exact⟨u,b,e.trans q,k,ag.mono t _ r⟩
 |ins C fs=>obtain⟨dx,f,q,k,r⟩:=h;exact⟨dx,f,e.trans q,k,ag.mono t _ r⟩
 |prs ks=>obtain⟨xs,q,r,n⟩:=h;exact⟨xs,e.trans q,iE (λk x z=>⟨z.1,t.sq z.2.1,z.2.2⟩) r,n⟩
theorem RO.some{a:Addr}{o:MO}(h:RO K H a o):H a≠none:=by
 cases o with
 |lst ds=>obtain⟨xs,q,_⟩:=h;rw[q];exact λz=>nomatch z
 |rol ds=>obtain⟨xs,q | ⟨u,q⟩,_⟩:=h<;>(rw[q];exact λz=>nomatch z)
 |dic b=>obtain⟨c,q,_⟩:=h;rw[q];exact λz=>nomatch z
 |rod b=>obtain⟨u,c,q,_⟩:=h;rw[q];exact λz=>nomatch z
 |ins C fs=>obtain⟨dx,f,q,_⟩:=h;rw[q];exact λz=>nomatch z
 |prs ks=>obtain⟨xs,q,_⟩:=h;rw[q];exact λz=>nomatch z
theorem RM.fresh{M:MH}{p:Addr}(h:RM K M H)(e:H p=none):M p=none:=by
 cases q:M p with
 |none=>rfl
 |some o=>exact absurd e (h p o q).some
theorem RM.newH{M:MH}{p:Addr}{o:HO}(h:RM K M H)(e:H p=none):RM K M (upd H p o):=λa u q=>
 (h a u q).stay (Kp.new e) (aM (λz=>by subst z;exact(h a u q).some e))
theorem RM.new{M:MH}{p:Addr}{o:HO}{m:MO}(h:RM K M H)(e:H p=none)(r:RO K (upd H p o) p m):RM K (ab M p m) (upd H p o):=λa u q=>by
 by_cases z:a=p
 ·subst z;rw[aa] at q;cases q;exact r
 ·rw[aL z] at q;exact(h a u q).stay (Kp.new e) (aM z)
theorem RM.put{M:MH}{p:Addr}{o o':HO}{m:MO}(h:RM K M H)(e:H p=some o)(n:Fg o)(r:RO K (upd H p o') p m):RM K (ab M p m) (upd H p o'):=λa u q=>by
 by_cases z:a=p
 ·subst z;rw[aa] at q;cases q;exact r
 ·rw[aL z] at q;exact(h a u q).stay (Kp.put e n) (aM z)
abbrev DS:=List (Option D)
abbrev Zz:=List (Key×D)
abbrev Zy:=Option D
def RS(K:Za)(H:Hp)(σ:DS)(ρ:L2.St):Prop:=Paired (λ(od:Zy) (a:Option V)=>∀d,od=some d->∃v,a=some v/\RV K H d v) σ ρ
theorem RS.mono{σ:DS}{ρ:L2.St}(t:Kp H H')(h:RS K H σ ρ):RS K H' σ ρ:=iE (λod a r d e=>let⟨v,q,s⟩:=r d e;⟨v,q,RV.mono t d s⟩) h
theorem RS.get{σ:DS}{ρ:L2.St}{i:Nat}{d:D}(h:RS K H σ ρ)(e:σ[i]?=some (some d)):∃v,ρ[i]?=some (some v)/\RV K H d v:=by
 obtain⟨a,q,r⟩:=cO h e;obtain⟨v,rfl,s⟩:=r d rfl;exact⟨v,q,s⟩
theorem RS.set{σ:DS}{ρ:L2.St}{d:D}{v:V}(i:Nat)(h:RS K H σ ρ)(r:RV K H d v):RS K H (σ.set i (some d)) (ρ.set i (some v)):=vb (by intro d' e;cases e;exact⟨v,rfl,r⟩) i h
theorem RS.more{σ:DS}{ρ:L2.St}(n:Nat)(h:RS K H σ ρ):RS K H (σ++List.replicate n none) (ρ++List.replicate n none):=bA h (ju (λd e=>nomatch e) n)
end
abbrev DK:=D->MH->Prop
abbrev WE:=DS->MH->DK->Prop
abbrev WT:=DS->MH->(Bool->MH->Prop)->Prop
abbrev WA:=DS->MH->(List D->MH->Prop)->Prop
def lift(K:Za)(H:Hp)(Q:DK):VK:=λv H'=>Kp H H'/\∃d M',RV K H' d v/\RM K M' H'/\Q d M'
def uL(K:Za)(H:Hp)(Q:Bool->MH->Prop):Bool->Hp->Prop:=λb H'=>Kp H H'/\∃M',RM K M' H'/\Q b M'
def Kr(K:Za)(H:Hp)(n:Nat)(Q:List D->MH->Prop):List V->Hp->Prop:=λvs H'=>Kp H H'/\∃ds M',ag K H' ds vs/\ds.length=n/\RM K M' H'/\Q ds M'
section
variable (X:Cx)
def tW(e:Expr):TE:=λρ H Q=>∀pins s,ad X pins ρ H s->wpAny 'b' X.A (eval e X.env) (EP X pins ρ Q) X.xe s
def pP(e:Expr):TT:=λρ H Q=>∀pins s,ad X pins ρ H s->wpAny 'b' X.A (isTrue e X.env (eval e X.env)) (TP X pins ρ Q) X.xe s
def kr(es:Zg):TA:=λρ H Q=>∀a pins s,ad X pins ρ H s->wpAny 'b' X.A (spliced (backTo a (starEach es X.env))) (AP X pins ρ Q) X.xe s
def xM(st:Stmt):L2.TS:=λD ρ H=>∀pins s,ad X pins ρ H s->wpAny 'b' X.A (exec st X.env) (SP X pins D) X.xe s
end
section
variable {X:Cx}{e a b c:Expr}{es:Zg}{ρ:L2.St}{H H':Hp}{pos:Pos}
theorem bB(e:Expr):PE X e (tW X e):=λpins s _ _ _ I h=>h pins s I
theorem l5(e:Expr):PT X e (pP X e):=λpins s _ _ _ I h=>h pins s I
theorem l6(es:Zg):PA X es (kr X es):=λpos pins s _ _ _ I h=>h pos pins s I
theorem bV{t:TE}{Q:VK}(h:PE X e t)(q:t ρ H Q):tW X e ρ H Q:=λpins s I=>h pins s ρ H Q I q
theorem vc{t:TT}{Q:Bool->Hp->Prop}(h:PT X e t)(q:t ρ H Q):pP X e ρ H Q:=λpins s I=>h pins s ρ H Q I q
theorem AX{t:TA}{Q:List V->Hp->Prop}(h:PA X es t)(q:t ρ H Q):kr X es ρ H Q:=λpos pins s I=>h pos pins s ρ H Q I q
theorem aO{Q g:VK}(h:tW X e ρ H Q)(f:∀v H',Q v H'->g v H'):tW X e ρ H g:=λpins s I=>aN (h pins s I) λ_ _ ⟨v,H',j,r,q⟩=>⟨v,H',j,r,f v H' q⟩
theorem fL{Q g:Bool->Hp->Prop}(h:pP X e ρ H Q)(f:∀v H',Q v H'->g v H'):pP X e ρ H g:=λpins s I=>aN (h pins s I) λ_ _ ⟨H',j,q⟩=>⟨H',j,f _ H' q⟩
theorem dc{Q g:List V->Hp->Prop}(h:kr X es ρ H Q)(f:∀v H',Q v H'->g v H'):kr X es ρ H g:=λpos pins s I=>aN (h pos pins s I) λ_ _ ⟨v,H',j,r,q⟩=>⟨v,H',j,r,f v H' q⟩
theorem ce{K:Za}{Q:DK}{v:V}{f:Hp}(k:Kp H H')(h:lift K H' Q v f):lift K H Q v f:=⟨k.trans h.1,h.2⟩
theorem vd{K:Za}{Q:Bool->MH->Prop}{v:Bool}{f:Hp}(k:Kp H H')(h:uL K H' Q v f):uL K H Q v f:=⟨k.trans h.1,h.2⟩
theorem aJ{K:Za}{Q:DK}{v:V}{d:D}{M:MH}(r:RV K H d v)(m:RM K M H)(q:Q d M):lift K H Q v H:=⟨Kp.refl H,d,M,r,m,q⟩
def aP(X:Cx)(e:Expr)(t:WE):Prop:=∀σ M ρ H Q,RS X.K H σ ρ->RM X.K M H->t σ M Q->tW X e ρ H (lift X.K H Q)
def jw(X:Cx)(e:Expr)(t:WT):Prop:=∀σ M ρ H Q,RS X.K H σ ρ->RM X.K M H->t σ M Q->pP X e ρ H (uL X.K H Q)
def fZ(X:Cx)(es:Zg)(t:WA):Prop:=∀σ M ρ H Q,RS X.K H σ ρ->RM X.K M H->t σ M Q->kr X es ρ H (Kr X.K H es.length Q)
def fB(b:Bool)(A B:Prop):Prop:=match b with
 |true=>A
 |false=>B
theorem bg{A B:Prop}:fB true A B=A:=rfl
theorem aI{A B:Prop}:fB false A B=B:=rfl
theorem C7{b:Bool}{A B:Prop}(h1:b=true->A)(f:b=false->B):fB b A B:=by
 cases b with
 |true=>exact h1 rfl
 |false=>exact f rfl
theorem s0{p:Prop}[Decidable p]{A B:Prop}(h1:p->A)(f:¬p->B):fB (decide p) A B:=C7 (λe=>h1 (XR e)) (λe=>f (of_decide_eq_false e))
def ve(σ:DS)(i:Nat)(Q:D->Prop):Prop:=match σ[i]? with
 |some (some d)=>Q d
 |_=>False
theorem Gk{σ:DS}{i:Nat}{Q:D->Prop}(h:ve σ i Q):∃d,σ[i]?=some (some d)/\Q d:=by
 unfold ve at h;split at h
 ·exact⟨_,by assumption,h⟩
 ·exact Yh h
theorem Gm{i:Nat}{x:Str}(f:X.N[i]?=some x)(hv:uU X.env.scope x)(hd:(x==("__debug__" : Str))=false)(g:(x==("__classdict__" : Str))=false):aP X (.Name x pos) (λσ M Q=>ve σ i λd=>Q d M):=by
 intro σ M ρ H Q rs j h;obtain⟨d,e,q⟩:=Gk h;obtain⟨v,e',r⟩:=rs.get e;exact bV (Hu f hv hd g) ⟨v,e',aJ r j q⟩
theorem q9{d:D}{v:V}(h:PE X e (tC v))(r:∀H,RV X.K H d v):aP X e (λ_ M Q=>Q d M):=λ_ _ _ H _ _ f q=>bV h (aJ (r H) f q)
theorem Gn{i:Int}{j:Nat}:aP X (.Constant (.int i) j pos) (λ_ M Q=>Q (.int i) M):=q9 Hv λ_=>RV.int_.2 rfl
theorem Iz{i:Bool}{j:Nat}:aP X (.Constant (.bool i) j pos) (λ_ M Q=>Q (.bl i) M):=q9 JZ λ_=>RV.bl_.2 rfl
theorem Gp{i:Str}{j:Nat}:aP X (.Constant (.str i) j pos) (λ_ M Q=>Q (.str i) M):=q9 Hw λ_=>RV.str_.2 rfl
def nP(K:Za)(mg:Ze)(x:Str)(d:D):Prop:=∃v u,mg x=some u/\RelV v u/\∀H,RV K H d v
theorem C9{x:Str}{d:D}(hg:Gl X x)(h:nP X.K X.mg x d)(hd:(x==("__debug__" : Str))=false):aP X (.Name x pos) (λ_ M Q=>Q d M):=by
 obtain⟨v,u,hm,r,f⟩:=h;exact q9 (FO hg hm r hd) f
def oW(X:Cx)(f:Zk):R2:=λx y H Q=>∀pins s ρ v u,ad X pins ρ H s->RelV x v->RelV y u->wpAny 'b' X.A (f v u) (EP X pins ρ Q) X.xe s
theorem Da(f:Zk):cu X f (oW X f):=λpins s σ _ _ _ v u _ I g j h=>h pins s σ v u I g j
theorem fG{f:Zk}{r:R2}{x y:V}{Q:VK}(h:cu X f r)(q:r x y H Q):oW X f x y H Q:=λpins s ρ v u I g j=>h pins s ρ H x y v u Q I g j q
theorem s9{f:Zk}{x y:V}{Q j:VK}(h:oW X f x y H Q)(g:∀v H',Q v H'->j v H'):oW X f x y H j:=λpins s ρ v u I l m=>aN (h pins s ρ v u I l m) λ_ _ ⟨v,H',n,r,q⟩=>⟨v,H',n,r,g v H' q⟩
abbrev nQ:=D->D->MH->DK->Prop
def iF(X:Cx)(f:Zk)(r:nQ):Prop:=∀x y v u H M Q,RV X.K H x v->RV X.K H y u->RM X.K M H->r x y M Q->oW X f v u H (lift X.K H Q)
theorem two{j l:WE}{σ:DS}{M:MH}{R:D->D->MH->Prop}(ha:aP X a j)(hb:aP X b l)(rs:RS X.K H σ ρ)(p:RM X.K M H)(h:j σ M λx M1=>l σ M1 λy M2=>R x y M2):
  tW X a ρ H λv g=>tW X b ρ g λu f=>Kp H f/\∃x y M2,RV X.K f x v/\RV X.K f y u/\RM X.K M2 f/\R x y M2:=by
 refine aO (ha σ M ρ H _ rs p h) ?_;rintro v g ⟨m,x,M1,r,t,h1⟩;refine aO (hb σ M1 ρ g _ (rs.mono m) t h1) ?_;rintro u f ⟨n,y,M2,z,B,C⟩;exact⟨m.trans n,x,y,M2,RV.mono n x r,z,B,C⟩
def rc(r:nQ)(f g:WE):WE:=λσ M Q=>f σ M λx M1=>g σ M1 λy M2=>r x y M2 Q
theorem Gq{op:Operator}{r:nQ}{f g:WE}(j:iF X (binaryOp op) r)(ha:aP X a f)(hb:aP X b g):aP X (.BinOp a op b pos) (rc r f g):=by
 intro σ M ρ H Q rs l h;refine bV (J7 (Da _) (bB a) (bB b)) ?_;show tW X a ρ H _;refine aO (two ha hb rs l h) λv m n=>?_
 show tW X b ρ m _;refine aO n λu p t=>?_
 obtain⟨k,x,y,M2,z,B,C,q⟩:=t;exact s9 (j x y v u p M2 Q z B C q) λ_ _=>ce k
theorem Gr{op:CmpOp}{r:nQ}{f g:WE}(j:iF X (compareOp op) r)(ha:aP X a f)(hb:aP X b g)(hm:behindInMarks op b=false):aP X (.Compare a [op] [b] pos) (rc r f g):=by
 intro σ M ρ H Q rs l h;refine bV (FX (Da _) (bB a) (bB b) hm) ?_;show tW X a ρ H _;refine aO (two ha hb rs l h) λv m n=>?_
 show tW X b ρ m _;refine aO n λu p t=>?_
 obtain⟨k,x,y,M2,z,B,C,q⟩:=t;exact s9 (j x y v u p M2 Q z B C q) λ_ _=>ce k
def oP(x:D)(Q:Bool->Prop):Prop:=match x with
 |.bl b=>Q b
 |_=>False
theorem l7{x:D}{Q:Bool->Prop}(h:oP x Q):∃b,x=.bl b/\Q b:=by
 cases x with
 |bl b=>exact⟨b,rfl,h⟩
 |_=>exact Yh h
def y7(t:WE):WT:=λσ M Q=>t σ M λx M1=>oP x λb=>Q b M1
theorem Gs{op:CmpOp}{r:nQ}{g j:WE}(l:iF X (compareOp op) r)(ha:aP X a g)(hb:aP X b j)(hm:behindInMarks op b=false):jw X (.Compare a [op] [b] pos) (y7 (rc r g j)):=by
 intro σ M ρ H Q rs m h;refine vc (FY (Da _) (bB a) (bB b) hm) ?_;show tW X a ρ H _;refine aO (two ha hb rs m h) λv n p=>?_
 show tW X b ρ n _;refine aO p λu t B=>?_
 obtain⟨k,x,y,M2,C,G,J,q⟩:=B;refine s9 (l x y v u t M2 _ C G J q) λz S K=>?_
 obtain⟨L,d,O,P,R,f⟩:=K;obtain⟨c,rfl,f⟩:=l7 f;exact⟨c,RV.bl_.1 P,k.trans L,O,R,f⟩
def Db(t u:WT):WT:=λσ M Q=>t σ M λc M1=>fB c (u σ M1 Q) (Q false M1)
def IA(t u:WT):WT:=λσ M Q=>t σ M λc M1=>fB c (Q true M1) (u σ M1 Q)
def Dc(t:WT):WT:=λσ M Q=>t σ M λc M1=>Q (!c) M1
theorem Gu{t:WT}(h:jw X a t):jw X (.UnaryOp .Not a pos) (Dc t):=by
 intro σ M ρ H Q rs f q;refine vc (Hz (l5 a)) ?_;show pP X a ρ H _;exact fL (h σ M ρ H _ rs f q) λc j g=>g
def rf(X:Cx)(e:Expr)(t:WT):Prop:=∀σ M ρ H Q,RS X.K H σ ρ->RM X.K M H->t σ M Q->∀f pins s,ad X pins ρ H s->wpAny 'b' X.A (isTrue e X.env f) (TP X pins ρ (uL X.K H Q)) X.xe s
theorem rf.pt{t:WT}(h:rf X e t):jw X e t:=λσ M ρ H Q rs f q pins s I=>h σ M ρ H Q rs f q _ pins s I
def Fh(X:Cx)(e:Expr):TT:=λρ H Q=>∀f pins s,ad X pins ρ H s->wpAny 'b' X.A (isTrue e X.env f) (TP X pins ρ Q) X.xe s
theorem IB(e:Expr):PW X e (Fh X e):=λf pins s _ _ _ I h=>h f pins s I
theorem vf{Q j:Bool->Hp->Prop}(h:Fh X e ρ H Q)(f:∀v H',Q v H'->j v H'):Fh X e ρ H j:=λg pins s I=>aN (h g pins s I) λ_ _ ⟨H',l,q⟩=>⟨H',l,f _ H' q⟩
theorem rg{t:TT}{Q:Bool->Hp->Prop}(h:PW X e t)(q:t ρ H Q):Fh X e ρ H Q:=λf pins s I=>h f pins s ρ H Q I q
theorem Dd{t:WT}(h:jw X a t):rf X (.BoolOp .And [a] pos) t:=λσ M ρ H Q rs f q=>rg (FQ (l5 a)) (h σ M ρ H Q rs f q)
theorem Gv{t:WT}(h:jw X a t):rf X (.BoolOp .Or [a] pos) t:=λσ M ρ H Q rs f q=>rg (Hx (l5 a)) (h σ M ρ H Q rs f q)
theorem xN{t u:WT}{rest:Zg}(h:jw X a t)(h':rf X (.BoolOp .And (b::rest) pos) u):rf X (.BoolOp .And (a::b::rest) pos) (Db t u):=by
 intro σ M ρ H Q rs l q;refine rg (Hy (l5 a) (IB _)) ?_;show pP X a ρ H _;refine fL (h σ M ρ H _ rs l q) λc m n=>?_
 obtain⟨f,M1,g,j⟩:=n;cases c with
 |true=>exact vf (h' σ M1 ρ m Q (rs.mono f) g j) λ_ _=>vd f
 |false=>exact⟨f,M1,g,j⟩
theorem AY{t u:WT}{rest:Zg}(h:jw X a t)(h':rf X (.BoolOp .Or (b::rest) pos) u):rf X (.BoolOp .Or (a::b::rest) pos) (IA t u):=by
 intro σ M ρ H Q rs l q;refine rg (J0 (l5 a) (IB _)) ?_;show pP X a ρ H _;refine fL (h σ M ρ H _ rs l q) λc m n=>?_
 obtain⟨f,M1,g,j⟩:=n;cases c with
 |false=>exact vf (h' σ M1 ρ m Q (rs.mono f) g j) λ_ _=>vd f
 |true=>exact⟨f,M1,g,j⟩
def y8(f g:WE):WE:=λσ M Q=>f σ M λx M1=>oP x λc=>fB c (g σ M1 Q) (Q (.bl false) M1)
def De(f g:WE):WE:=λσ M Q=>f σ M λx M1=>oP x λc=>fB c (Q (.bl true) M1) (g σ M1 Q)
def y9(f:WE):WE:=λσ M Q=>f σ M λx M1=>oP x λc=>Q (.bl (!c)) M1
theorem xO{op:BoolOp}{t:WE}(h:aP X a t):aP X (.BoolOp op [a] pos) t:=λσ M ρ H Q rs f q=>bV (HA (bB a)) (h σ M ρ H Q rs f q)
theorem xP{j l:WE}{rest:Zg}(h:aP X a j)(h':aP X (.BoolOp .And (b::rest) pos) l):aP X (.BoolOp .And (a::b::rest) pos) (y8 j l):=by
 intro σ M ρ H Q rs n q;refine bV (HB (bB a) (bB _)) ?_;show tW X a ρ H _;refine aO (h σ M ρ H _ rs n q) λv p r=>?_
 obtain⟨g,x,M1,t,m,f⟩:=r;obtain⟨c,rfl,f⟩:=l7 f;refine⟨c,RV.bl_.1 t,?_⟩;cases c with
 |true=>exact aO (h' σ M1 ρ p Q (rs.mono g) m f) λ_ _=>ce g
 |false=>exact⟨g,.bl false,M1,RV.bl_.2 rfl,m,f⟩
theorem AZ{j l:WE}{rest:Zg}(h:aP X a j)(h':aP X (.BoolOp .Or (b::rest) pos) l):aP X (.BoolOp .Or (a::b::rest) pos) (De j l):=by
 intro σ M ρ H Q rs n q;refine bV (J3 (bB a) (bB _)) ?_;show tW X a ρ H _;refine aO (h σ M ρ H _ rs n q) λv p r=>?_
 obtain⟨g,x,M1,t,m,f⟩:=r;obtain⟨c,rfl,f⟩:=l7 f;refine⟨c,RV.bl_.1 t,?_⟩;cases c with
 |false=>exact aO (h' σ M1 ρ p Q (rs.mono g) m f) λ_ _=>ce g
 |true=>exact⟨g,.bl true,M1,RV.bl_.2 rfl,m,f⟩
theorem Gw{g:WE}(h:aP X a g):aP X (.UnaryOp .Not a pos) (y9 g):=by
 intro σ M ρ H Q rs j q;refine bV (HC (bB a)) ?_;show tW X a ρ H _;refine aO (h σ M ρ H _ rs j q) λv r l=>?_
 obtain⟨m,x,M1,n,p,f⟩:=l;obtain⟨c,rfl,f⟩:=l7 f;exact⟨c,RV.bl_.1 n,m,.bl (!c),M1,RV.bl_.2 rfl,p,f⟩
def IC(t:WT)(f g:WE):WE:=λσ M Q=>t σ M λc M1=>fB c (f σ M1 Q) (g σ M1 Q)
theorem A0{t:WT}{g j:WE}(hc:jw X c t)(ha:aP X a g)(hb:aP X b j):aP X (.IfExp c a b pos) (IC t g j):=by
 intro σ M ρ H Q rs p q;refine bV (CB (l5 c) (bB a) (bB b)) ?_;show pP X c ρ H _;refine fL (hc σ M ρ H _ rs p q) λk l r=>?_
 obtain⟨f,M1,m,n⟩:=r;cases k with
 |true=>exact aO (ha σ M1 ρ l Q (rs.mono f) m n) λ_ _=>ce f
 |false=>exact aO (hb σ M1 ρ l Q (rs.mono f) m n) λ_ _=>ce f
def cx:Option MO->Option (List D)
 |some (.lst ds)=>some ds
 |some (.rol ds)=>some ds
 |_=>none
def Df(x:D)(M:MH)(Q:Bool->Prop):Prop:=match x with
 |.non=>Q false
 |.bl b=>Q b
 |.int i=>Q (i != 0)
 |.str y=>y.length<=sizeLine/\Q ((y.length:Int) != 0)
 |.tup ds=>Q (!ds.isEmpty)
 |.ref a=>match M a with
  |some (.lst ds)=>Q (!ds.isEmpty)
  |some (.rol ds)=>Q (!ds.isEmpty)
  |some (.dic f)=>Q (!f.isEmpty)
  |_=>False
 |.ty _=>False
theorem oQ{f g:Type}{l:List f}{m:List g}(h:l.length=m.length):l.isEmpty=m.isEmpty:=by
 cases l<;>cases m<;>simp_all
theorem Gx{K:Za}{M:MH}{x:D}{v:V}{Q:Bool->Prop}(r:RV K H x v)(m:RM K M H)(h:Df x M Q):∃k,CJ K v H k/\Q k:=by
 cases x with
 |non=>cases RV.non_.1 r;exact⟨_,rfl,h⟩
 |bl b=>cases RV.bl_.1 r;exact⟨_,rfl,h⟩
 |int i=>cases RV.int_.1 r;exact⟨_,rfl,h⟩
 |str y=>cases RV.str_.1 r;exact⟨_,⟨h.1,rfl⟩,h.2⟩
 |ty n=>exact Yh h
 |tup ds=>
  obtain⟨a,xs,rfl,s,f⟩:=RV.tup_.1 r;exact⟨_,.inr (.inl ⟨xs,s,rfl⟩),by rw[←oQ f.len];exact h⟩
 |ref a=>
  cases RV.ref_.1 r;have h:match M a with
   |some (.lst ds)=>Q (!ds.isEmpty)
   |some (.rol ds)=>Q (!ds.isEmpty)
   |some (.dic g)=>Q (!g.isEmpty)
   |_=>False:=h
  split at h
  ·rename_i ds e
   obtain⟨xs,q,f⟩:=m a _ e;exact⟨_,.inl ⟨xs,bx.of q,rfl⟩,by rw[←oQ f.len];exact h⟩
  ·rename_i ds e
   obtain⟨xs,q,f⟩:=m a _ e;exact⟨_,.inl ⟨xs,.inl q,rfl⟩,by rw[←oQ f.len];exact h⟩
  ·rename_i g e
   obtain⟨j,q,k,f⟩:=m a _ e;refine⟨_,.inr (.inr ⟨j,q,rfl⟩),?_⟩;have:j.length=g.length:=by have:=congrArg List.length k;simpa using this
   rw[oQ this];exact h
  ·exact Yh h
def Dg(t:WE):WT:=λσ M Q=>t σ M λx M1=>Df x M1 λk=>Q k M1
theorem Gy{t:WE}(h:aP X a t)(j:∀f,isTrue a X.env f=(do let v ←f;standAt a.pos;holding [v] (truthy v))):jw X a (Dg t):=by
 intro σ M ρ H Q rs l q;refine vc (CK (bB a) j) ?_;show tW X a ρ H _;refine aO (h σ M ρ H _ rs l q) λv z m=>?_
 obtain⟨n,x,M1,p,g,r⟩:=m;obtain⟨k,u,y⟩:=Gx p g r;exact⟨k,u,n,M1,g,y⟩
def nR:WA:=λ_ M Q=>Q [] M
def zc(t:WE)(u:WA):WA:=λσ M Q=>t σ M λx M1=>u σ M1 λxs M2=>Q (x::xs) M2
theorem Gz:fZ X [] nR:=λσ M ρ H Q rs f q=>AX Id ⟨Kp.refl H,[],M,ag.nil,rfl,f,q⟩
theorem Dh{t:WE}{u:WA}(h:aP X e t)(h':fZ X es u)(hs:av e=true):fZ X (e::es) (zc t u):=by
 intro σ M ρ H Q rs l q;refine AX (F3 (bB e) (l6 es) (bt hs)) ?_;show tW X e ρ H _;refine aO (h σ M ρ H _ rs l q) λv f m=>?_
 obtain⟨g,x,M1,n,p,r⟩:=m;show kr X es ρ f _;refine dc (h' σ M1 ρ f _ (rs.mono g) p r) λvs J y=>?_
 obtain⟨j,xs,M2,z,B,C,G⟩:=y;exact⟨g.trans j,x::xs,M2,ag.cons (RV.mono j x n) z,by simp[B],C,G⟩
def Di(t:WA):WE:=λσ M Q=>t σ M λxs M1=>Q (.tup xs) M1
def Dj(t:WA):WE:=λσ M Q=>t σ M λxs M1=>∀p,M1 p=none->Q (.ref p) (ab M1 p (.lst xs))
theorem GA{t:WA}{k:Nat}(h:fZ X es t)(hz:es.length<=1000):aP X (.Tuple es k pos) (Di t):=by
 intro σ M ρ H Q rs l q;refine bV (Ie (l6 es)) ?_;show kr X es ρ H _;refine dc (h σ M ρ H _ rs l q) λvs f m=>?_
 obtain⟨n,xs,M1,g,r,u,y⟩:=m;refine⟨?_,λp hp=>?_⟩
 ·rw[←g.len,r];exact Nat.le_of_lt (tR hz)
 ·have j:Kp f (upd f p (.tup vs)):=Kp.new hp
  exact⟨n.trans j,.tup xs,M1,RV.tup_.2 ⟨p,vs,rfl,bn.of aB,ag.mono j _ g⟩,u.newH hp,y⟩
theorem GB{t:WA}(h:fZ X es t)(hz:es.length<=1000):aP X (.List es pos) (Dj t):=by
 intro σ M ρ H Q rs n q;refine bV (Ig (l6 es)) ?_;show kr X es ρ H _;refine dc (h σ M ρ H _ rs n q) λvs f r=>?_
 obtain⟨u,xs,M1,g,y,j,z⟩:=r;refine⟨?_,λp hp=>?_⟩
 ·rw[←g.len,y];exact Nat.le_of_lt (tR hz)
 ·have l:Kp f (upd f p (.lst vs)):=Kp.new hp
  exact⟨u.trans l,.ref p,_,RV.ref_.2 rfl,j.new (m:=.lst xs) hp ⟨vs,aB,ag.mono l _ g⟩,z p (j.fresh hp)⟩
abbrev aK:=List D->MH->DK->Prop
def gq(K:Za)(sp:aK):Sp:=λvs H Q _=>∃ds M f,ag K H ds vs/\RM K M H/\sp ds M f/\∀d M' v H',f d M'->Kp H H'->RV K H' d v->RM K M' H'->Q v H'
def cf(P:Zv)(w:World)(K:Za)(mg:Ze)(base:Heap)(k:Nat)(x:Str)(sp:aK):Prop:=
 ∃st ps f fd,oO K mg x st ps f fd/\eJ P w K mg base ko k f fd ps (gq K sp)
theorem da{env:Env}{pos:Pos}:∀{es:Zg},es.all av=true->(backTo pos (starEach es env)).any (·.1)=false
 |[],_=>rfl
 |e::es,h=>by
  rw[XS,YY] at h;rw[bt h.1];show(false||(backTo pos (starEach es env)).any (·.1))=false;rw[da h.2];rfl
def ik(sp:aK)(t:WA):WE:=λσ M Q=>t σ M λds M1=>sp ds M1 Q
theorem GC{k:Nat}{x:Str}{sp:aK}{t:WA}{p:Pos}(F:cf X.prog X.w X.K X.mg X.base k x sp)(g:bU k X.A)(hg:Gl X x)(j:(x==("__debug__" : Str))=false)(hs:av e=true)(l:es.all av=true)(ha:fZ X (e::es) t):
  aP X (.Call (.Name x p) (e::es) [] pos) (ik sp t):=by
 obtain⟨st,ps,f,fd,m,G⟩:=F;intro σ M ρ H Q rs n q;refine bV (Ix m G g (l6 (e::es)) hg j (bt hs) (da l)) ?_;show kr X (e::es) ρ H _;refine dc (ha σ M ρ H _ rs n q) λvs O r=>?_
 obtain⟨u,xs,M1,y,P,z,B⟩:=r;rw[ZA];exact⟨xs,M1,Q,y,z,B,λd M' v H' C kk J L=>⟨u.trans kk,d,M',J,L,C⟩⟩
end
def rh(K:Za):Bool:=K.all λp=>match p.2.cls with
 |.type t=>!(t == "list")
 |_=>true
theorem tT{a:Addr}{o:Obj}:∀{K:Za},rh K=true->K.lookup a=some o->o.cls=.type "list"->False
 |[],_,h,_=>by cases h
 |(b,p)::K,hn,h,hc=>by
  unfold rh at hn;rw[XS,YY] at hn;rw[XI] at h;split at h
  ·cases h
   have h1:=hn.1;simp only[hc] at h1;exact absurd h1 'c'
  ·exact tT (K:=K) hn.2 h hc
theorem vg{K:Za}{H:Hp}:∀(ns:Zi),ag K H (ns.map D.int) (ns.map V.int)
 |[]=>.nil
 |n::ns=>.cons (RV.int_.2 rfl) (vg ns)
def oR(a:Addr)(ns:Zi):MH:=λb=>if b=a then some (.rol (ns.map D.int)) else none
def uM(n:Nat)(sp:aK):Prop:=∀a ns,ns.length<=n->sp [.ref a] (oR a ns) λd _=>d=.bl true
theorem ID{K:Za}{H:Hp}{a:Addr}{ns:Zi}{n:Nat}{sp:aK}(hK:rh K=true)(hs:uM n sp)(hl:ns.length<=n)(c:bx K H a (ns.map V.int))(E:XK):gq K sp [.ref a] H (λv _=>v=.bl true) E:=by
 rcases c with c | ⟨o,c_,m,h1,h2,_⟩
 ·refine⟨[.ref a],oR a ns,λd _=>d=.bl true,.cons (RV.ref_.2 rfl) .nil,λb o e=>?_,hs a ns hl,λd M' v H' q _ r _=>?_⟩
  ·unfold oR at e
   split at e
   ·rename_i hb
    subst hb;cases e;exact⟨_,c,vg ns⟩
   ·cases e
  ·subst q
   exact RV.bl_.1 r
 ·exact(tT hK h1 h2).elim
mutual
noncomputable def il(K:Za):D->Value->Bool
 |.non,u=>match u with
  |.none=>true
  |_=>false
 |.bl b,u=>match u with
  |.bool c=>decide (b=c)
  |_=>false
 |.int i,u=>match u with
  |.int j _=>decide (i=j)
  |_=>false
 |.str x,u=>match u with
  |.str y _=>decide (x=y)
  |_=>false
 |.ty n,u=>match u with
  |.type m=>decide (n=m)
  |_=>false
 |.ref a,u=>match u with
  |.ref b=>decide (a=b)
  |_=>false
 |.tup ds,u=>match u with
  |.ref a=>(match K.lookup a with
   |some ⟨.type t,_,.seq c_ _,_⟩=>decide (t = "tuple")&&decide (c_.size<=sizeLine)&&nS K ds c_.toList
   |_=>false)
  |_=>false
noncomputable def nS(K:Za):List D->List Value->Bool
 |[],us=>us.isEmpty
 |d::ds,us=>match us with
  |u::us=>il K d u&&nS K ds us
  |[]=>false
end
mutual
theorem vh{K:Za}:∀(d:D){u:Value},il K d u=true->∃v,RelV v u/\∀H,RV K H d v
 |.non,u,h=>by
  unfold il at h;split at h
  ·exact⟨.non,rfl,λ_=>RV.non_.2 rfl⟩
  ·cases h
 |.bl b,u,h=>by
  unfold il at h;split at h
  ·cases XR h;exact⟨.bl _,rfl,λ_=>RV.bl_.2 rfl⟩
  ·cases h
 |.int b,u,h=>by
  unfold il at h;split at h
  ·cases XR h;exact⟨.int _,⟨_,rfl⟩,λ_=>RV.int_.2 rfl⟩
  ·cases h
 |.str b,u,h=>by
  unfold il at h;split at h
  ·cases XR h;exact⟨.str _,⟨_,rfl⟩,λ_=>RV.str_.2 rfl⟩
  ·cases h
 |.ty b,u,h=>by
  unfold il at h;split at h
  ·cases XR h;exact⟨.ty _,rfl,λ_=>RV.ty_.2 rfl⟩
  ·cases h
 |.ref a,u,h=>by
  unfold il at h;split at h
  ·cases XR h;exact⟨.ref _,rfl,λ_=>RV.ref_.2 rfl⟩
  ·cases h
 |.tup ds,u,h=>by
  unfold il at h;split at h
  ·rename_i a
   split at h
   ·rename_i t od c_ n sl e
    simp only[YY,XT] at h;obtain⟨⟨h1,h2⟩,h3⟩:=h;obtain⟨vs,r1,r2⟩:=tU ds h3;exact⟨.ref a,rfl,λH=>RV.tup_.2 ⟨a,vs,rfl,.inr ⟨_,c_,n,e,by rw[h1],rfl,h2,r1⟩,r2 H⟩⟩
   ·cases h
  ·cases h
theorem tU{K:Za}:∀(ds:List D){us:Zd},nS K ds us=true->∃vs,ak vs us/\∀H,ag K H ds vs
 |[],us,h=>by
  unfold nS at h;cases us with
  |nil=>exact⟨[],.nil,λ_=>.nil⟩
  |cons u us=>cases h
 |d::ds,us,h=>by
  unfold nS at h;split at h
  ·rename_i u us
   rw[YY] at h;obtain⟨v,r1,r2⟩:=vh d h.1;obtain⟨vs,r3,r4⟩:=tU ds h.2;exact⟨v::vs,.cons r1 r3,λH=>.cons (r2 H) (r4 H)⟩
  ·cases h
end
def oS(K:Za):List Str->List D->Bool
 |[],_=>true
 |x::xs,ds=>(match PySem.W.nsIn K mainGlobals x with
  |some (some u)=>il K (ds.headD .non) u
  |_=>false)&&oS K xs ds.tail
theorem rj{K:Za}{h:Heap}{mg:Ze}(X:K.In h)(G:h.Ns mainGlobals mg):∀{xs:Zf}{ds:List D},oS K xs ds=true->∀(j:Nat) x,xs[j]?=some x->nP K mg x (ds.getD j .non)
 |[],_,_,j,x,e=>by cases e
 |y::xs,ds,hk,j,x,e=>by
  unfold oS at hk;rw[YY] at hk;cases j with
  |zero=>
   have e:y=x:=by simpa using e
   subst e;have h1:=hk.1;split at h1
   ·rename_i u q
    obtain⟨v,a,b⟩:=vh _ h1;have:ds.getD 0 .non=ds.headD .non:=by cases ds<;>rfl
    rw[this];exact⟨v,u,PySem.W.mg_of X G q,a,b⟩
   ·cases h1
  |succ j=>
   have:=rj X G hk.2 j x (by simpa using e)
   have e2:ds.getD (j+1) .non=ds.tail.getD j .non:=by cases ds<;>simp
   rw[e2];exact this
def A1(K:Za)(xs:Zf):Bool:=xs.all λx=>match PySem.W.nsIn K mainGlobals x with
 |some none=>true
 |_=>false
theorem A2{K:Za}{h:Heap}{mg:Ze}(X:K.In h)(G:h.Ns mainGlobals mg){xs:Zf}(hk:A1 K xs=true):∀x,xs.contains x=true->mg x=none:=by
 intro x hx
 have:=XN.1 hk x (by simpa using hx)
 split at this
 ·rename_i q
  exact PySem.W.mg_none_of X G q
 ·cases this
theorem Ks{l:PySem.W.OpenLaw}{n k:Nat}{q:Zv}{loose:Zf}{XP:(Str->Option Value)->Heap->Prop}{YP:World->Heap->Prop}{d:DefRec}{K:Params->PySem.W.Frag}{sp:aK}{x:Str}
  (hn:l.most=some n) (c:n<=sizeLine) (g:d.params.defaults=[]) (j:bU k callerA) (hs:uM n sp)
  (m:∀(w:World) (h:Heap),YP w h->(K w.params).In h) (hK:∀w:World,rh (K w.params)=true)
  (F:∀(w:World) (mg:Ze) (b:Addr) (h:Heap),(K w.params).In h->h.Ns mainGlobals mg->mg d.name=some (.ref b) ->
   ∃fd:FuncData,(∀(s:Shared) (u:Value),BindsTo s fd ⟨[u],[]⟩ [(x,u)]) /\
    ∀base:Heap,(K w.params).In base->base.Ns mainGlobals mg->eJ l.prog w (K w.params) mg base ko k b fd [x] (gq (K w.params) sp)):
  PySem.W.WalkO q loose XP YP l.row.toRowW d [] (λf vs=>PySem.call f vs):=
 L2.Gf (n:=n) (k:=k) (x:=x) (CX:=λ_=>ko) (sp:=λw=>gq (K w.params) sp) hn c g j m F (λw _ a ns hl _ p=>ID (hK w) hs hl p _) λ_ _ _ _ _ z=>z
section
variable {P:Zv}{w:World}{K:Za}{mg:Ze}{base:Heap}{k:Nat}
structure aX (K:Za) (x:Str) (st:Stmt) (f:Addr) (fd:Zu):Prop where
 ex:∃(oc:Value) (od an:Zm) (K_:Zn) (kV x_ pm s_ ct:Value),PySem.W.nsIn K mainGlobals x=some (some (.ref f)) /\
  fd=PySem.W.fnOf x x (bF st) (aW st) (ar st) .none kV x_ pm an s_ ct/\K.lookup f=some ⟨oc,od,.func fd,K_⟩/\PySem.W.codeIn K s_ x=true/\PySem.W.keepIn K (.ref f)=true
theorem aX.mk'{x:Str}{st:Stmt}{f:Addr}{oc:Value}{od an:Zm}{K_:Zn}{kV x_ pm s_ ct:Value}
  (a:PySem.W.nsIn K mainGlobals x=some (some (.ref f))) (l:K.lookup f=some ⟨oc,od,.func (PySem.W.fnOf x x (bF st) (aW st) (ar st) .none kV x_ pm an s_ ct),K_⟩)
  (c:PySem.W.codeIn K s_ x=true) (k:PySem.W.keepIn K (.ref f)=true):aX K x st f (PySem.W.fnOf x x (bF st) (aW st) (ar st) .none kV x_ pm an s_ ct):=
 ⟨⟨oc,od,an,K_,kV,x_,pm,s_,ct,a,rfl,l,c,k⟩⟩
theorem aX.def_{h:Heap}{x:Str}{st:Stmt}{ps:Zf}{f:Addr}{fd:Zu}(A:aX K x st f fd)(X:K.In h)(G:h.Ns mainGlobals mg)
  (hb:∀(kV x_ pm:Value) (an:Zm) (s_ ct:Value) (us:Zd),us.length=ps.length->bindArgs (PySem.W.fnOf x x (bF st) (aW st) (ar st) .none kV x_ pm an s_ ct) ⟨us,[]⟩=pure (ps.zip us)):
  oO K mg x st ps f fd:=by
 obtain⟨oc,od,an,K_,kV,x_,pm,s_,ct,a,rfl,l,c,k⟩:=A.ex;exact C5 X G a l c k hb
def Dk:Option (Option Value)->String->Bool
 |some (some (.builtin n)),s=>decide (n=s)
 |_,_=>false
def Dl:Option (Option Value)->Bool
 |some none=>true
 |_=>false
theorem GD{o:Option (Option Value)}{s:String}(h:Dk o s=true):o=some (some (.builtin s)):=by
 unfold Dk at h;split at h
 ·cases XR h;rfl
 ·cases h
theorem GE{o:Option (Option Value)}(h:Dl o=true):o=some none:=by
 unfold Dl at h;split at h
 ·rfl
 ·cases h
def clsIn(K:Za)(C:Addr)(fs:Zf):Bool:=
 PySem.W.plainGet K C Str.empty&&PySem.W.hasDictIn K C&&PySem.W.plainOver K C&&Dk (PySem.W.findIn K (.ref C) "__setattr__") "object.__setattr__" && fs.all (λf=>Dl (PySem.W.findIn K (.ref C) f))
theorem bK{C:Addr}{fs:Zf}(h:clsIn K C fs=true):fW K C:=by
 unfold clsIn at h;simp only[YY] at h;exact⟨h.1.1.1.1,h.1.1.1.2,h.1.1.2,GD h.1.2⟩
theorem vi{C:Addr}{fs:Zf}{f:Str}(h:clsIn K C fs=true)(hf:f∈fs):cN K C f:=by
 unfold clsIn at h;simp only[YY] at h;exact GE (XN.1 h.2 f hf)
structure MethAt (K:Za) (C:Addr) (m k_:Str) (st:Stmt) (f:Addr) (fd:Zu):Prop where
 at_:PySem.W.findIn K (.ref C) m=some (some (.ref f))
 fn:PySem.W.isFn K (.ref f)=true
 fun_:qX K m k_ st f fd
theorem MethAt.mk'{C:Addr}{m k_:Str}{st:Stmt}{f:Addr}{oc:Value}{od an:Zm}{K_:Zn}{kV x_ pm s_ ct:Value}
  (a:PySem.W.findIn K (.ref C) m=some (some (.ref f))) (l:K.lookup f=some ⟨oc,od,.func (PySem.W.fnOf m k_ (bF st) (aW st) (ar st) .none kV x_ pm an s_ ct),K_⟩)
  (n:PySem.W.isFn K (.ref f)=true) (c:PySem.W.codeIn K s_ k_=true) (k:PySem.W.keepIn K (.ref f)=true):MethAt K C m k_ st f (PySem.W.fnOf m k_ (bF st) (aW st) (ar st) .none kV x_ pm an s_ ct):=
 ⟨a,n,va l c k⟩
theorem MethAt.meth{C:Addr}{m k_:Str}{st:Stmt}{f:Addr}{fd:Zu}(A:MethAt K C m k_ st f fd):CN K C m f:=⟨A.at_,A.fn,A.fun_.kp⟩
end
end DD
namespace K21
open PySem PySem.Spec PyProof.Rows L2 DD
def top(i:Nat):Stmt:=PySem.Challenge.pw_notring_k21_parts_in_order.main.body.getD i (.Pass ⟨0,0,0,0⟩)
abbrev kY:List Str:=["all","bool","enumerate","int","isinstance","len","list","min","range","set","sorted","tuple","zip"]
abbrev im:List Str:=["MOST_CONDS","HIGHEST_NUMBER","MOST_LISTED","MOST_FACTS","MOST_ROWS"]
abbrev l9:List D:=[(.int 6),(.int 6),(.int 6),(.int 120),(.int 400)]
abbrev ma:Stmt:=top 2
abbrev me:Stmt:=top 3
abbrev mf:Stmt:=top 4
abbrev qi:Stmt:=top 5
abbrev nT:Stmt:=top 6
abbrev mh:Stmt:=top 8
abbrev gQ:Stmt:=top 9
abbrev fM:Stmt:=top 10
abbrev mi:Stmt:=top 11
abbrev kZ:Stmt:=top 18
abbrev gR:Stmt:=top 29
abbrev gS:Stmt:=top 30
abbrev dW:Stmt:=top 31
abbrev qj:Stmt:=top 32
abbrev nU:Stmt:=top 33
abbrev k6:Stmt:=top 34
abbrev jx:Stmt:=top 35
abbrev iO:Stmt:=top 37
abbrev k7:Stmt:=top 38
abbrev mj:Stmt:=top 39
abbrev k8:Stmt:=top 40
abbrev ml:Stmt:=top 41
abbrev nV:Stmt:=top 42
abbrev gT:Stmt:=top 43
abbrev jy:Stmt:=top 44
abbrev mn:Stmt:=top 45
abbrev iP:Stmt:=top 46
abbrev jA:Stmt:=top 47
abbrev k9:Stmt:=top 48
abbrev kt:Stmt:=top 49
abbrev qk:Stmt:=top 50
abbrev rk:Stmt:=top 51
abbrev lc:Stmt:=inClass (top 14) 0
abbrev jB:Stmt:=inClass (top 14) 1
abbrev gU:Stmt:=inClass (top 14) 4
abbrev ld:Stmt:=inClass (top 15) 0
abbrev jC:Stmt:=inClass (top 15) 1
abbrev gV:Stmt:=inClass (top 15) 4
abbrev lf:Stmt:=inClass (top 16) 0
abbrev jD:Stmt:=inClass (top 16) 1
abbrev gW:Stmt:=inClass (top 16) 4
abbrev lg:Stmt:=inClass (top 17) 0
abbrev jE:Stmt:=inClass (top 17) 1
abbrev gX:Stmt:=inClass (top 17) 4
abbrev jF:Stmt:=inClass (top 28) 0
abbrev fN:Stmt:=inClass (top 28) 1
abbrev fO:Stmt:=inClass (top 28) 2
abbrev gY:Stmt:=inClass (top 28) 8
def bG(K:Za)(x:Str)(st:Stmt):Prop:=∃f fd,aX K x st f fd
def cC(K:Za)(C:Addr)(m q:Str)(st:Stmt):Prop:=∃f fd,MethAt K C m q st f fd
abbrev zd:List Str:=["fact","number","facts","at"]
abbrev IE:List Str:=["many","heads","conds","headed","leanings","helped"]
structure IF (K:Za) (cH cL cS cD S:Addr):Prop where
 a_0:bG K "_law_is" qk
 a_1:bG K "set_of" qi
 a_2:bG K "is_ready" mi
 a_3:bG K "has_fact" mf
 a_4:bG K "members" nT
 a_5:bG K "parts_by_least" fM
 a_6:bG K "reached_sets" gQ
 a_7:bG K "parts_of" mh
 a_8:bG K "rows_by_help" dW
 a_9:bG K "row_leanings" gR
 a_10:bG K "rows_by_head" gS
 a_11:bG K "made_cond" kZ
 a_12:bG K "is_whole" ma
 a_13:bG K "is_below" me
 a_14:bG K "is_listing" jx
 a_15:bG K "is_number" k6
 a_16:bG K "is_cond" nU
 a_17:bG K "is_row" qj
 a_18:bG K "_law_ready" k9
 a_19:bG K "_law_groups" jA
 a_20:bG K "_law_come_to" iP
 a_21:bG K "_law_due" kt
 a_22:bG K "_law_leanings" gT
 a_23:bG K "_law_leaned" jy
 a_24:bG K "_law_mixed" k7
 a_25:bG K "_law_draw" mj
 a_26:bG K "_law_facts" k8
 a_27:bG K "_law_cond" ml
 a_28:bG K "_law_row" nV
 a_29:bG K "_law_cell_at" iO
 a_30:bG K "_law_many" mn
 a_50:cC K cH "__init__" "Have.__init__" lc
 a_51:cC K cH "leaning" "Have.leaning" gU
 a_52:cC K cH "shown" "Have.shown" jB
 a_53:cC K cL "__init__" "Lack.__init__" ld
 a_54:cC K cL "leaning" "Lack.leaning" gV
 a_55:cC K cL "shown" "Lack.shown" jC
 a_56:cC K cS "__init__" "Some.__init__" lf
 a_57:cC K cS "leaning" "Some.leaning" gW
 a_58:cC K cS "shown" "Some.shown" jD
 a_59:cC K cD "__init__" "Lead.__init__" lg
 a_60:cC K cD "leaning" "Lead.leaning" gX
 a_61:cC K cD "shown" "Lead.shown" jE
 a_62:cC K S "__init__" "Sheet.__init__" jF
 a_63:cC K S "how_many" "Sheet.how_many" fN
 a_Sheet_leaned:cC K S "leaned" "Sheet.leaned" gY
 a_Sheet_row_list:cC K S "row_list" "Sheet.row_list" fO
def Fi(sp:aK):Prop:=∀{l:PySem.W.OpenLaw}{w:World}{K:Za}{h:Heap}{mg:Ze}{a cH cL cS cD S:Addr}(X:K.In h) (G:h.Ns mainGlobals mg) (f:mg "law" = some (.ref a))
 (g:(decide (cH≠cL)&&decide (cH≠cS)&&decide (cH≠cD)&&decide (cL≠cS)&&decide (cL≠cD)&&decide (cS≠cD))=true) (gl:oS K im l9=true) (bl:A1 K kY=true)
 (j:PySem.W.nsIn K mainGlobals "Have" = some (some (.ref cH))) (Ov:(clsIn K cH zd&&PySem.W.makesIn K cH&&PySem.W.keepIn K (.ref cH))=true)
 (Ow:PySem.W.nsIn K mainGlobals "Lack" = some (some (.ref cL))) (Ox:(clsIn K cL zd&&PySem.W.makesIn K cL&&PySem.W.keepIn K (.ref cL))=true)
 (Oy:PySem.W.nsIn K mainGlobals "Some" = some (some (.ref cS))) (Oz:(clsIn K cS zd&&PySem.W.makesIn K cS&&PySem.W.keepIn K (.ref cS))=true)
 (OA:PySem.W.nsIn K mainGlobals "Lead" = some (some (.ref cD))) (OB:(clsIn K cD zd&&PySem.W.makesIn K cD&&PySem.W.keepIn K (.ref cD))=true)
 (OC:PySem.W.nsIn K mainGlobals "Sheet" = some (some (.ref S))) (OD:(clsIn K S IE&&PySem.W.makesIn K S&&PySem.W.keepIn K (.ref S))=true)
 {b:Addr}{c:Zu}(MT:aX K "law" rk b c)
 (hy:IF K cH cL cS cD S),
 ∃fd:FuncData,(∀(s:Shared) (v:Value),BindsTo s fd ⟨[v],[]⟩ [("_law_script",v)])/\∀base:Heap,K.In base->base.Ns mainGlobals mg->eJ l.prog w K mg base ko 8 a fd ["_law_script"] (gq K sp)
end K21
section
open PySem PySem.W PyProof.Rows L2 DD
local macro_rules
  | `(tactic| o_head $H:term) => `(tactic| refine holds_open (q := K21.viewQ) (loose := []) (Xt := λs => xlAt K21.viewQ [] s && recOk [] s) (XP := XL K21.viewQ []) (Yf := Hook.obs $H) (Ya := Hook.val $H) (YP := Hook.says $H) (N := 13100) ?$(Lean.mkIdent `hl) (Hook.of $H) (Hook.keeps $H)
      (λs e=>xl_of s (Bool.and_eq_true_iff.mp e).1) XL.keeps (by rfl) (by rfl) (by rfl) (λs e=>recFacts_of (Bool.and_eq_true_iff.mp e).2) (by rfl) (by first | assumption | rfl') (by rfl') ⟨rfl,rfl,rfl,rfl,rfl,by rfl'⟩ ?$(Lean.mkIdent `hw) ?$(Lean.mkIdent `hc))
set_option maxHeartbeats 0 in
theorem K21.over{sp:aK}(ok:uM 63 sp)(a:K21.Fi sp):PySem.Challenge.rw_notring_k21_parts_in_order.Holds:=by
 w_on;refine holds_law K21.said λsaid=>?_;k_head
 (case hl=>exact TopT.JX K21.seen1 K21.seen2 K21.seen3 K21.seen5 K21.seen6 (λw=>by kernel_rfl))
 (case hw=>w_witness2);k_fill;refine DD.Ks (l:=PySem.Challenge.rw_notring_k21_parts_in_order) (n:=63) (k:=8) (x:="_law_script") rfl 'c' rfl ⟨rfl,by decide,by decide⟩ ok (λw h Y=>PySem.W.kIn_of Y) ?noL ?defs
 case noL=>intro w;kernel_rfl
 case defs=>
  intro w mg f h b G c;refine' a b G c ?ap ?gl ?bl ?Ou ?Ov ?Ow ?Ox ?Oy ?Oz ?OA ?OB ?OC ?OD (aX.mk' ?MT ?l_31 ?c_31 ?k_31) ⟨⟨_,_,aX.mk' ?a_0 ?l_0 ?c_0 ?k_0⟩,⟨_,_,aX.mk' ?a_1 ?l_1 ?c_1 ?k_1⟩,⟨_,_,aX.mk' ?a_2 ?l_2 ?c_2 ?k_2⟩,⟨_,_,aX.mk' ?a_3 ?l_3 ?c_3 ?k_3⟩,⟨_,_,aX.mk' ?a_4 ?l_4 ?c_4 ?k_4⟩,⟨_,_,aX.mk' ?a_5 ?l_5 ?c_5 ?k_5⟩,⟨_,_,aX.mk' ?a_6 ?l_6 ?c_6 ?k_6⟩,⟨_,_,aX.mk' ?a_7 ?l_7 ?c_7 ?k_7⟩,⟨_,_,aX.mk' ?a_8 ?l_8 ?c_8 ?k_8⟩,⟨_,_,aX.mk' ?a_9 ?l_9 ?c_9 ?k_9⟩,⟨_,_,aX.mk' ?a_10 ?l_10 ?c_10 ?k_10⟩,⟨_,_,aX.mk' ?a_11 ?l_11 ?c_11 ?k_11⟩,⟨_,_,aX.mk' ?a_12 ?l_12 ?c_12 ?k_12⟩,⟨_,_,aX.mk' ?a_13 ?l_13 ?c_13 ?k_13⟩,⟨_,_,aX.mk' ?a_14 ?l_14 ?c_14 ?k_14⟩,⟨_,_,aX.mk' ?a_15 ?l_15 ?c_15 ?k_15⟩,⟨_,_,aX.mk' ?a_16 ?l_16 ?c_16 ?k_16⟩,⟨_,_,aX.mk' ?a_17 ?l_17 ?c_17 ?k_17⟩,⟨_,_,aX.mk' ?a_18 ?l_18 ?c_18 ?k_18⟩,⟨_,_,aX.mk' ?a_19 ?l_19 ?c_19 ?k_19⟩,⟨_,_,aX.mk' ?a_20 ?l_20 ?c_20 ?k_20⟩,⟨_,_,aX.mk' ?a_21 ?l_21 ?c_21 ?k_21⟩,⟨_,_,aX.mk' ?a_22 ?l_22 ?c_22 ?k_22⟩,⟨_,_,aX.mk' ?a_23 ?l_23 ?c_23 ?k_23⟩,⟨_,_,aX.mk' ?a_24 ?l_24 ?c_24 ?k_24⟩,⟨_,_,aX.mk' ?a_25 ?l_25 ?c_25 ?k_25⟩,⟨_,_,aX.mk' ?a_26 ?l_26 ?c_26 ?k_26⟩,⟨_,_,aX.mk' ?a_27 ?l_27 ?c_27 ?k_27⟩,⟨_,_,aX.mk' ?a_28 ?l_28 ?c_28 ?k_28⟩,⟨_,_,aX.mk' ?a_29 ?l_29 ?c_29 ?k_29⟩,⟨_,_,aX.mk' ?a_30 ?l_30 ?c_30 ?k_30⟩,⟨_,_,MethAt.mk' ?a_50 ?l_50 ?n_50 ?c_50 ?k_50⟩,⟨_,_,MethAt.mk' ?a_51 ?l_51 ?n_51 ?c_51 ?k_51⟩,⟨_,_,MethAt.mk' ?a_52 ?l_52 ?n_52 ?c_52 ?k_52⟩,⟨_,_,MethAt.mk' ?a_53 ?l_53 ?n_53 ?c_53 ?k_53⟩,⟨_,_,MethAt.mk' ?a_54 ?l_54 ?n_54 ?c_54 ?k_54⟩,⟨_,_,MethAt.mk' ?a_55 ?l_55 ?n_55 ?c_55 ?k_55⟩,⟨_,_,MethAt.mk' ?a_56 ?l_56 ?n_56 ?c_56 ?k_56⟩,⟨_,_,MethAt.mk' ?a_57 ?l_57 ?n_57 ?c_57 ?k_57⟩,⟨_,_,MethAt.mk' ?a_58 ?l_58 ?n_58 ?c_58 ?k_58⟩,⟨_,_,MethAt.mk' ?a_59 ?l_59 ?n_59 ?c_59 ?k_59⟩,⟨_,_,MethAt.mk' ?a_60 ?l_60 ?n_60 ?c_60 ?k_60⟩,⟨_,_,MethAt.mk' ?a_61 ?l_61 ?n_61 ?c_61 ?k_61⟩,⟨_,_,MethAt.mk' ?a_62 ?l_62 ?n_62 ?c_62 ?k_62⟩,⟨_,_,MethAt.mk' ?a_63 ?l_63 ?n_63 ?c_63 ?k_63⟩,⟨_,_,MethAt.mk' ?a_Sheet_leaned ?l_Sheet_leaned ?n_Sheet_leaned ?c_Sheet_leaned ?k_Sheet_leaned⟩,⟨_,_,MethAt.mk' ?a_Sheet_row_list ?l_Sheet_row_list ?n_Sheet_row_list ?c_Sheet_row_list ?L4⟩⟩
  case Ou | Ow | Oy | OA | OC | a_0 | l_0 | c_0 | k_0 | a_1 | l_1 | c_1 | k_1 | a_2 | l_2 | c_2 | k_2 | a_3 | l_3 | c_3 | k_3 | a_4 | l_4 | c_4 | k_4 | a_5 | l_5 | c_5 | k_5 | a_6 | l_6 | c_6 | k_6 | a_7 | l_7 | c_7 | k_7 | a_8 | l_8 | c_8 | k_8 | a_9 | l_9 | c_9 | k_9 | a_10 | l_10 | c_10 | k_10 | a_11 | l_11 | c_11 | k_11 | a_12 | l_12 | c_12 | k_12 | a_13 | l_13 | c_13 | k_13 | a_14 | l_14 | c_14 | k_14 | a_15 | l_15 | c_15 | k_15 | a_16 | l_16 | c_16 | k_16 | a_17 | l_17 | c_17 | k_17 | a_18 | l_18 | c_18 | k_18 | a_19 | l_19 | c_19 | k_19 | a_20 | l_20 | c_20 | k_20 | a_21 | l_21 | c_21 | k_21 | a_22 | l_22 | c_22 | k_22 | a_23 | l_23 | c_23 | k_23 | a_24 | l_24 | c_24 | k_24 | a_25 | l_25 | c_25 | k_25 | a_26 | l_26 | c_26 | k_26 | a_27 | l_27 | c_27 | k_27 | a_28 | l_28 | c_28 | k_28 | a_29 | l_29 | c_29 | k_29 | a_30 | l_30 | c_30 | k_30 | MT | l_31 | c_31 | k_31 | a_50 | l_50 | n_50 | c_50 | k_50 | a_51 | l_51 | n_51 | c_51 | k_51 | a_52 | l_52 | n_52 | c_52 | k_52 | a_53 | l_53 | n_53 | c_53 | k_53 | a_54 | l_54 | n_54 | c_54 | k_54 | a_55 | l_55 | n_55 | c_55 | k_55 | a_56 | l_56 | n_56 | c_56 | k_56 | a_57 | l_57 | n_57 | c_57 | k_57 | a_58 | l_58 | n_58 | c_58 | k_58 | a_59 | l_59 | n_59 | c_59 | k_59 | a_60 | l_60 | n_60 | c_60 | k_60 | a_61 | l_61 | n_61 | c_61 | k_61 | a_62 | l_62 | n_62 | c_62 | k_62 | a_63 | l_63 | n_63 | c_63 | k_63 | a_Sheet_leaned | l_Sheet_leaned | n_Sheet_leaned | c_Sheet_leaned | k_Sheet_leaned | a_Sheet_row_list | l_Sheet_row_list | n_Sheet_row_list | c_Sheet_row_list | L4=>k_is
  case ap | gl | bl | Ov | Ox | Oz | OB | OD=>kernel_rfl
end
namespace DD
open PySem PySem.Spec PyProof.Rows L2
theorem td{P:Zv}{w:World}{k:Key}{u:Value}(h:(bC P w).is k u=true):RelV (kV k) u:=by
 rw[yF] at h;rcases bS h with⟨i,t,rfl,rfl⟩ | ⟨x,t,rfl,rfl⟩
 ·exact⟨t,rfl⟩
 ·exact⟨t,rfl⟩
def IG(a:Addr)(u:Obj)(b:List (Key×V)):It:=
 ⟨λi H=>H a=some (.frz u (.dK b))/\i<b.length,λi H x H'=>H'=H/\∃c,b[i]?=some c/\x=kV c.1,λi H=>H a=some (.frz u (.dK b))/\b.length<=i⟩
theorem lG{X:Cx}{pins:Zc}{σ:L2.St}{H:Hp}{s:Shared}{a:Addr}{u:Obj}{b:List (Key×V)}(I:ad X pins σ H s)(h:H a=some (.frz u (.dK b))):
  (a==sysModules)=false/\b.length<=sizeLine/\∃vs es c,KV b vs/\u.data=.dict es c/\s.heap.DictAt (bC X.prog X.w) a vs c:=by
 obtain⟨h1,hz,hd,vs,g,o,es,c,f,r⟩:=(show a9 X.prog X.w H s.heap a (.frz u (.dK b)) from I.hok a _ h);have e:o=u:=by rw[h1] at f;cases f;rfl
 subst e;exact⟨hd,hz,vs,es,c,g,r.2.1,o,es,f,r⟩
theorem A3{P:Zv}{w:World}{K:Za}{tg:Expr}(a it:Addr){u:Obj}{j:List (Key×V)}{es:Array DictEntry}{l:Nat}(hu:u.data=.dict es l):
  Turn P w K tg (IG a u j) [it] it (λi h=>h.IsKeyIter it a i j.length l) where
 mem:=by simp
 obj:=λi h st b hb=>by
  have e:b=it:=by simpa using hb
  subst e;obtain⟨o,e,c,d⟩:=st;exact⟨o,e,λv z=>by rw[d] at z;cases z⟩
 keep:=λi h h' st k=>st.at λo e=>k it (by simp) o e
 item:=by
  rw[0];obtain⟨hq,hi⟩:=hg;obtain⟨hd,hz,vs,C,m,f,g,hm⟩:=lG I hq;have n:m=l:=by rw[hu] at g;cases g;rfl
  subst n;obtain⟨⟨k,x⟩,hx,G⟩:=cO f (ZE hi);obtain⟨f0,p,J,r,t,y⟩:=hf it (by simp);rw[f.length] at st;refine wpAny_pyNext_dict_item st hm hx λB h' L e_ O=>?_
  have R:ad X pins σ H { s with heap:=h' }:=I.turned (t':=s.toks) (λb o hb e=>(O.2 b hb).trans e) f0 p r t y;obtain⟨o,e,c,d⟩:=id e_;rw[←f.length] at e_;have S:j[i].1=k:=G.1;exact⟨B,rfl,oM (s:={ s with heap:=h' }) e c d 'c' ⟨kV k,H,R,td L,⟨rfl,j[i],ZE hi,by rw[S]⟩,e_,λb hb=>(hf b hb).1⟩⟩
 done:=by
  rw[0];obtain⟨hq,hi⟩:=hg;obtain⟨hd,hz,vs,C,m,f,g,hm⟩:=lG I hq;have n:m=l:=by rw[hu] at g;cases g;rfl
  subst n;obtain⟨f0,p,J,r,t,y⟩:=hf it (by simp);rw[f.length] at st;have hx:vs[i]?=none:=by rw[List.getElem?_eq_none_iff,←f.length];exact hi
  exact wpAny_pyNext_dict_end (I.ok.hd hc) st hm hx λh' T=>⟨rfl,I.turned (t':=s.toks) (λb o hb e=>T b o hb e) f0 p r t y⟩
 self:=λ_ _ _ _ _ st h=>wpAny_pyIter_keyiter st h
section
variable {X:Cx}{ρ:L2.St}{H:Hp}
theorem xQ{pins:Zc}{s:Shared}{tg:Expr}{a:Addr}{u:Obj}{c:List (Key×V)}{R:It->Hp->Prop}(I:ad X pins ρ H s)(hq:H a=some (.frz u (.dK c)))(q:R (IG a u c) H):
  wpAny 'b' X.A (pyIter (.ref a)) (qQ X pins ρ tg R) X.xe s:=by
 obtain⟨hd,hz,vs,es,g,f,hu,hm⟩:=lG I hq;refine wpAny_pyIter_dict hd hm ?_;refine⟨s.heap.objs.size,[s.heap.objs.size],_,_,H,rfl,I.kept (t':=s.toks) λb o e=>Yd _ e,A3 a _ hu,⟨_,Yg _ rfl,rfl,by rw[f.length];rfl⟩,λb hb=>?_,q⟩;have e:b=s.heap.objs.size:=by simpa using hb
 subst e;exact I.fpOk (YG _) (I.hok.fresh (YG _))
theorem freeze{pins:Zc}{s:Shared}{a:Addr}{c:List (Key×V)}(I:ad X pins ρ H s)(hq:H a=some (.dK c)):∃u,ad X pins ρ (upd H a (.frz u (.dK c))) s:=by
 obtain⟨hz,hd,vs,j,f⟩:=(show a9 X.prog X.w H s.heap a (.dK c) from I.hok a _ hq);obtain⟨o,es,l,g,r⟩:=id f;refine⟨o,?_⟩
 have:=I.write (x:=a) (e:=a) (o:=.frz o (.dK c)) (h':=s.heap) (t':=s.toks) (by rw[hq];exact trivial) (.inl rfl) (λb u _ e=>e) ⟨_,g⟩ ⟨g,hz,hd,vs,j,f⟩
 exact this
end
structure cE where
 nx:DS->MH->Prop
 rt:DK
 bk:DS->MH->Prop:=λ_ _=>False
 ct:DS->MH->Prop:=λ_ _=>False
abbrev WS:=cE->DS->MH->Prop
def rl(K:Za)(H:Hp)(n:DS->MH->Prop):L2.St->Hp->Prop:=λb H'=>Kp H H'/\∃a M',RS K H' a b/\RM K M' H'/\n a M'
def uN(K:Za)(H:Hp)(D:cE):Ends:={ nx:=rl K H D.nx,rt:=lift K H D.rt,bk:=rl K H D.bk,ct:=rl K H D.ct }
structure ze (D D':Ends):Prop where
 nx:∀ρ H,D.nx ρ H->D'.nx ρ H
 rt:∀v H,D.rt v H->D'.rt v H
 bk:∀ρ H,D.bk ρ H->D'.bk ρ H
 ct:∀ρ H,D.ct ρ H->D'.ct ρ H
section
variable {X:Cx}{st:Stmt}{MW:Zt}{ρ:L2.St}{H H':Hp}{pos:Pos}{e:Expr}
theorem jG{K:Za}{n:DS->MH->Prop}{a:L2.St}{b:Hp}(k:Kp H H')(h:rl K H' n a b):rl K H n a b:=⟨k.trans h.1,h.2⟩
theorem ql{K:Za}{D:cE}(k:Kp H H'):ze (uN K H' D) (uN K H D):=⟨λ_ _=>jG k,λ_ _=>ce k,λ_ _=>jG k,λ_ _=>jG k⟩
theorem SP.imp{pins:Zc}{D D':Ends}{f:Flow}{g:Shared}(i:ze D D')(h:SP X pins D f g):SP X pins D' f g:=by
 cases f with
 |next=>obtain⟨a,b,c,d⟩:=h;exact⟨a,b,c,i.nx _ _ d⟩
 |brk=>obtain⟨a,b,c,d⟩:=h;exact⟨a,b,c,i.bk _ _ d⟩
 |cont=>obtain⟨a,b,c,d⟩:=h;exact⟨a,b,c,i.ct _ _ d⟩
 |ret u=>obtain⟨v,a,b,c,r,d⟩:=h;exact⟨v,a,b,c,r,i.rt _ _ d⟩
def qm(X:Cx)(MW:Zt):L2.TS:=λD ρ H=>∀pins s,ad X pins ρ H s->wpAny 'b' X.A (execs MW X.env) (SP X pins D) X.xe s
theorem Lp(st:Stmt):PS X st (xM X st):=λpins s _ _ _ I h=>h pins s I
theorem mo(MW:Zt):kl X MW (qm X MW):=λpins s _ _ _ I h=>h pins s I
theorem dG{t:L2.TS}{D:Ends}(h:PS X st t)(q:t D ρ H):xM X st D ρ H:=λpins s I=>h pins s ρ H D I q
theorem xR{t:L2.TS}{D:Ends}(h:kl X MW t)(q:t D ρ H):qm X MW D ρ H:=λpins s I=>h pins s ρ H D I q
theorem Dm{D D':Ends}(h:xM X st D ρ H)(i:ze D D'):xM X st D' ρ H:=λpins s I=>aN (h pins s I) λ_ _ q=>SP.imp i q
theorem dH{D D':Ends}(h:qm X MW D ρ H)(i:ze D D'):qm X MW D' ρ H:=λpins s I=>aN (h pins s I) λ_ _ q=>SP.imp i q
def ku(X:Cx)(st:Stmt)(t:WS):Prop:=∀σ M ρ H D,RS X.K H σ ρ->RM X.K M H->t D σ M->xM X st (uN X.K H D) ρ H
def mq(X:Cx)(MW:Zt)(t:WS):Prop:=∀σ M ρ H D,RS X.K H σ ρ->RM X.K M H->t D σ M->qm X MW (uN X.K H D) ρ H
def rn:WS:=λD σ M=>D.nx σ M
def Do(t u:WS):WS:=λD σ M=>t { D with nx:=u D } σ M
theorem Dp:mq X [] rn:=λσ M ρ H D rs a q=>xR FR ⟨Kp.refl H,σ,M,rs,a,q⟩
theorem A4{t u:WS}(h:ku X st t)(h':mq X MW u):mq X (st::MW) (Do t u):=by
 intro σ M ρ H D rs a q;refine xR (CC (Lp st) (mo MW)) ?_;show xM X st _ ρ H;refine Dm (h σ M ρ H _ rs a q) ⟨λb H' c=>?_,λ_ _ z=>z,λ_ _ z=>z,λ_ _ z=>z⟩;obtain⟨k,f,M',g,j,l⟩:=c;exact dH (h' f M' b H' D g j l) (ql k)
def Dq(t:WE):WS:=λD σ M=>t σ M D.rt
theorem GF{t:WE}(h:aP X e t):ku X (.Return (some e) pos) (Dq t):=λσ M ρ H D rs a q=>dG (HD (bB e)) (h σ M ρ H _ rs a q)
theorem Dr:ku X (.Pass pos) rn:=λσ M ρ H D rs a q=>dG FS ⟨Kp.refl H,σ,M,rs,a,q⟩
theorem A7:ku X st (λ_ _ _=>False):=λ_ _ _ _ _ _ _ q=>Yh q
def dX:Expr->Bool
 |.ListComp _ _ _ _=>false
 |.SetComp _ _ _ _=>false
 |.DictComp _ _ _ _ _=>false
 |_=>true
theorem vj{t:Option Expr}{n:Nat}{env:Env}(h:dX e=true):swapsWith e t n env=pure false:=by
 cases e<;>first | rfl | (exact absurd (show false=true from h) YF)
def zf(t:WE):WS:=λD σ M=>t σ M λ_ M1=>D.nx σ M1
theorem Ds{t:WE}(h:aP X e t)(hc:dX e=true):ku X (.Expr e pos) (zf t):=by
 intro σ M ρ H D rs b q;refine dG (FT (bB e) (vj hc)) ?_;show tW X e ρ H _;refine aO (h σ M ρ H _ rs b q) λv j c=>?_
 obtain⟨a,x,M1,l,f,g⟩:=c;exact⟨a,σ,M1,rs.mono a,f,g⟩
def Dt(i:Nat)(t:WE):WS:=λD σ M=>t σ M λx M1=>D.nx (σ.set i (some x)) M1
def Du(c:WT)(t u:WS):WS:=λD σ M=>c σ M λb M1=>fB b (t D σ M1) (u D σ M1)
theorem IH{c:Expr}{a b:Zt}{tc:WT}{t u:WS}(hc:jw X c tc)(ha:mq X a t)(hb:mq X b u):ku X (.If c a b pos) (Du tc t u):=by
 intro σ M ρ H D rs m q;refine dG (J5 (l5 c) (mo a) (mo b)) ?_;show pP X c ρ H _;refine fL (hc σ M ρ H _ rs m q) λk g n=>?_
 obtain⟨f,M1,j,l⟩:=n;cases k with
 |true=>exact dH (ha σ M1 ρ g D (rs.mono f) j l) (ql f)
 |false=>exact dH (hb σ M1 ρ g D (rs.mono f) j l) (ql f)
inductive eB where
 |nm (i:Nat) | tp (is:Zj)
def zg:List Nat->pJ
 |[]=>HE
 |i::is=>E8 (uI i) (zg is)
section
variable {prog:Zv}{w:World}{A:Around}{E:Zb}
theorem vk{it l:Addr}{c_:Zl}(ne:l≠it):∀(n i:Nat) (s:Shared) (Q:List Value->Shared->Prop),s.heap.IsListIter it l i->s.heap.IsList l c_->i+n<=c_.size ->
  (∀h',h'.IsListIter it l (i+n)->Heap.SameBut it s.heap h'->Q ((c_.toList.drop i).take n) { s with heap:=h' })->wpAny 'd' A (draw (.ref it) n) Q E s
 |0,i,s,Q,hi,_,_,q=>by
  rw[draw];exact Yc (by simpa using q s.heap hi (Heap.SameBut.refl ..))
 |n+1,i,s,Q,hi,hl,le,q=>by
  have lt:i<c_.size:=by omega
  rw[draw];refine Yb (wpAny_pyNext_list_item hi hl (x:=c_[i]) (by simp[lt]) λh1 a s1=>?_);refine Yb (Yj (vk ne n (i+1) _ _ a (hl.extBut s1.extBut ne) 'a' λb c s2=>Yc ?_));have e:c_.toList.drop i=c_[i]::c_.toList.drop (i+1):=by simp[XU,lt]
  have r:=q b (by rw[show i+(n+1)=i+1+n by omega];exact c) (s1.trans s2);rw[e,List.take_succ_cons] at r;exact r
theorem zh{s:Shared}{l:Addr}{c_:Zl}{ts:List (Bool×(Value->Sem Unit))}{Q:Zo}(a:A.handled=none)(hl:s.heap.IsList l c_)(hn:ts.length=c_.size)(hs:ts.findIdx? (·.1)=none)
  (h:∀h',Heap.ExtBut s.heap.objs.size s.heap h'->wpAny 'd' A (assignInOrder (ts.map (·.2)) c_.toList) Q E { s with heap:=h' }):wpAny 'd' A (unpack (.ref l) ts) Q E s:=by
 have ne:l≠s.heap.objs.size:=by obtain⟨o,c,_⟩:=hl;exact ZV (Ye c)
 unfold unpack;rw[hn,hs];refine Yb (Yj ?_);unfold unpackItems;refine Yb ?_;unfold notIterableAtAll;refine Yb (wpAny_specialOf hl.typeIs slot_list_iter.lookup (Yc ?_));simp only[XH,if_false];refine Yb (Yj (wpAny_pyIter_list hl ?_));refine Yb (Yj (vk ne c_.size 0 _ _ ⟨_,Yg _ rfl,rfl,rfl⟩ (hl.push _) 'a' λh1 f s1=>?_));have e:List.take c_.size (List.drop 0 c_.toList)=c_.toList:=by rw[List.drop_zero];exact List.take_of_length_le (by simp)
 rw[e,if_neg (by simp)];refine Yb (Yj (wpAny_pyNext_list_end a f ((hl.push _).extBut s1.extBut ne) (by simp) λg e2=>?_));simp only[Option.isSome_none,XH,if_false];exact Yc (h g λb o hb z=>e2 b o hb (s1.extBut b o hb (Yd _ z)))
end
def II(K:Za)(n:Nat)(t:pJ):TG:=λv σ H Q=>∃a xs,v=.ref a/\(bn K H a xs\/bx K H a xs)/\xs.length=n/\t xs σ H Q
theorem IJ{X:Cx}{pos:Pos}{es:Zg}{k:Nat}{t:pJ}{n:Nat}(hc:X.calm=true)(h:xE X es t)(hn:(assignEach es X.env).length=n)(c:(assignEach es X.env).findIdx? (·.1)=none):PG X (.Tuple es k pos) (II X.K n t):=by
 intro pins s σ H v u Q I r hw;obtain⟨a,xs,e1,hq | hq,hl,hw⟩:=hw
 ·exact HF hc h hn c pins s σ H v u Q I r ⟨a,xs,e1,hq,hl,hw⟩
 ·subst e1
  cases r;obtain⟨c_,f,ht,hz⟩:=I.list hq;rw[PyProof.Rows.assign_Tuple];refine Yb (Yk (zh (I.ok.hd hc) ht.isList (by simp[hn,←hl,f.length]) c λh' hx=>?_));have g:ad X pins σ H { s with heap:=h' }:=I.kept (t':=s.toks) λb o e=>hx b o (ZV (Ye e)) e
  exact h pins _ σ H xs _ Q g (by simpa using f) hw
def xS(K:Za):eB->TG
 |.nm i=>uI i
 |.tp is=>II K is.length (zg is)
def setM:List Nat->List D->DS->DS
 |i::is,d::ds,σ=>setM is ds (σ.set i (some d))
 |_,_,σ=>σ
def oT:eB->D->DS->(DS->Prop)->Prop
 |.nm i,d,σ,Q=>Q (σ.set i (some d))
 |.tp is,.tup ds,σ,Q=>ds.length=is.length/\Q (setM is ds σ)
 |.tp _,_,_,_=>False
theorem xT{K:Za}:∀(is:Zj) (ds:List D) (vs:List V) (σ:DS) (ρ:L2.St) (H:Hp) (Q:L2.St->Hp->Prop),ag K H ds vs->RS K H σ ρ->ds.length=is.length ->
  (∀a,RS K H (setM is ds σ) a->Q a H)->zg is vs ρ H Q
 |[],[],vs,σ,ρ,H,Q,r,rs,_,q=>by rw[ag] at r;subst r;exact⟨rfl,q ρ rs⟩
 |i::is,d::ds,vs,σ,ρ,H,Q,r,rs,l,q=>by
  rw[ag] at r;obtain⟨v,b,rfl,c,f⟩:=r;exact⟨v,b,rfl,xT is ds b (σ.set i (some d)) (ρ.set i (some v)) H Q f (rs.set i c) (by simpa using l) q⟩
theorem Ba{K:Za}{t:eB}{d:D}{v:V}{σ:DS}{ρ:L2.St}{H:Hp}{Q:L2.St->Hp->Prop}{c:DS->Prop}(r:RV K H d v)(rs:RS K H σ ρ)(h:oT t d σ c)(f:∀b g,RS K H g b->c g->Q b H):xS K t v ρ H Q:=by
 cases t with
 |nm i=>exact f _ _ (rs.set i r) h
 |tp is=>
  cases d with
  |tup ds=>
   obtain⟨a,xs,rfl,s,j⟩:=RV.tup_.1 r;exact⟨a,xs,rfl,.inl s,by rw[←j.len];exact h.1,xT is ds xs σ ρ H Q j rs h.1 λb l=>f b _ l h.2⟩
  |_=>exact Yh h
def LH(X:Cx)(tg:Expr)(t:eB):Prop:=PG X tg (xS X.K t)
theorem RM.list{K:Za}{H:Hp}{M:MH}{a:Addr}{ds:List D}(m:RM K M H)(h:cx (M a)=some ds):∃vs,bx K H a vs/\ag K H ds vs:=by
 cases e:M a with
 |none=>rw[e] at h;cases h
 |some o=>
  rw[e] at h;cases o with
  |lst xs=>cases h;obtain⟨vs,q,r⟩:=m a _ e;exact⟨vs,bx.of q,r⟩
  |rol xs=>cases h;obtain⟨vs,q,r⟩:=m a _ e;exact⟨vs,.inl q,r⟩
  |_=>cases h
def Kt(t:eB)(d:D)(M:MH)(σ:DS)(Q:DS->Prop):Prop:=match d with
 |.ref a=>match t with
  |.nm i=>Q (σ.set i (some (.ref a)))
  |.tp is=>match cx (M a) with
   |some ds=>ds.length=is.length/\Q (setM is ds σ)
   |none=>False
 |d=>oT t d σ Q
abbrev WI:=DS->MH->(List D->(MH->Prop)->MH->Prop)->Prop
def pQ(K:Za)(J:It)(a:Hp)(xs:List D)(g:MH->Prop):Prop:=∀i H M,Kp a H->RM K M H->g M->(i<xs.length->J.go i H)/\(i=xs.length->J.stop i H)/\∀x H' d,xs[i]?=some d->J.yld i H x H'->Kp H H'/\RM K M H'/\RV K H' d x
def iW(X:Cx)(tg iter:Expr):TI:=λρ H R=>∀pins s,ad X pins ρ H s->wpAny 'b' X.A (eval iter X.env) (λv s1=>wpAny 'b' X.A (pyIter v) (qQ X pins ρ tg R) X.xe s1) X.xe s
theorem Dv(tg iter:Expr):PI X tg iter (iW X tg iter):=λpins s _ _ _ I h=>h pins s I
theorem Ku{tg iter:Expr}{t:TI}{R:It->Hp->Prop}(h:PI X tg iter t)(q:t ρ H R):iW X tg iter ρ H R:=λpins s I=>h pins s ρ H R I q
theorem tf{tg iter:Expr}{R a:It->Hp->Prop}(h:iW X tg iter ρ H R)(f:∀J H',R J H'->a J H'):iW X tg iter ρ H a:=λpins s I=>aN (h pins s I) λ_ _ q=>aN q λ_ _ ⟨it,fp,tn,J,H',e,b,T,st,c,r⟩=>⟨it,fp,tn,J,H',e,b,T,st,c,f J H' r⟩
def Lq(K:Za)(H:Hp)(R:List D->(MH->Prop)->MH->Prop):It->Hp->Prop:=λJ H'=>Kp H H'/\∃xs g M',RM K M' H'/\g M'/\pQ K J H' xs g/\xs.length<=sizeLine/\R xs g M'
def tV(X:Cx)(tg iter:Expr)(t:WI):Prop:=∀σ M ρ H R,RS X.K H σ ρ->RM X.K M H->t σ M R->iW X tg iter ρ H (Lq X.K H R)
def kD:Key->D
 |.inl i=>.int i
 |.inr x=>.str x
def keysOf(a:Zz):List D:=a.map λb=>kD b.1
theorem Fk{K:Za}{H:Hp}(k:Key):RV K H (kD k) (kV k):=by
 cases k with
 |inl i=>exact RV.int_.2 rfl
 |inr x=>exact RV.str_.2 rfl
theorem vm{K:Za}{a:Addr}{u:Obj}{b:Zz}{f:List (Key×V)}{j:Hp}(e:j a=some (.frz u (.dK f)))(hk:f.map (·.1)=b.map (·.1))(g:MH->Prop):pQ K (IG a u f) j (keysOf b) g:=by
 intro i H M k n _;have hl:f.length=b.length:=by have:=congrArg List.length hk;simpa using this
 have e':=k.2 a _ _ e;have hn:(keysOf b).length=b.length:=by unfold keysOf;rw[ZG]
 rw[hn];refine⟨λhi=>⟨e',by omega⟩,λhi=>⟨e',by omega⟩,λx H' d hd r=>?_⟩;obtain⟨e1,m,h1,t⟩:=r;subst e1 t;unfold keysOf at hd;rw[ZH] at hd;have c:(b[i]?).map (·.1)=some m.1:=by
  have:=congrArg (λl=>l[i]?) hk
  simp only[ZH,h1] at this;rw[←this];rfl
 cases q:b[i]? with
 |none=>rw[q] at c;cases c
 |some p=>
  rw[q] at c hd;cases hd;have c:p.1=m.1:=by simpa using c
  refine⟨Kp.refl _,n,?_⟩;show RV K _ (kD p.1) _;rw[c];exact Fk _
def IK(x:D)(M:MH)(R:List D->(MH->Prop)->MH->Prop):Prop:=match x with
 |.tup ds=>R ds (λ_=>True) M
 |.ref a=>match M a with
  |some (.lst ds)=>R ds (λM'=>M' a=some (.lst ds)) M
  |some (.rol ds)=>R ds (λM'=>M' a=some (.rol ds)) M
  |some (.dic b)=>R (keysOf b) (λM'=>M' a=some (.rod b)) (ab M a (.rod b))
  |some (.rod b)=>R (keysOf b) (λM'=>M' a=some (.rod b)) M
  |_=>False
 |.str z=>z.cps.size<=sizeLine/\R (z.cps.toList.map λc=>.str ⟨#[c]⟩) (λ_=>True) M
 |_=>False
theorem vn{K:Za}{a:Addr}{ds:List D}{f:Hp}{g:MH->Prop}(hg:∀H M,RM K M H->g M->∃vs,bx K H a vs/\ag K H ds vs):pQ K (HJ K a) f ds g:=by
 intro i H M _ c q;obtain⟨vs,sq,b⟩:=hg H M c q;refine⟨λhi=>?_,λhi=>⟨vs,sq,by rw[←b.len];exact Nat.le_of_eq hi.symm⟩,λx H' d hd ⟨e,y⟩=>?_⟩
 ·have:i<vs.length:=by rw[←b.len];exact hi
  exact⟨vs,vs[i],sq,ZE this⟩
 ·subst e
  obtain⟨v,hv,r⟩:=cO b.p hd
  have:=y vs sq
  rw[hv] at this;cases this;exact⟨Kp.refl _,c,r⟩
theorem GG{K:Za}{a:Addr}{ds:List D}{vs:List V}{c:Hp}(sq:bn K c a vs)(b:ag K c ds vs):pQ K (HK K a) c ds (λ_=>True):=by
 intro i H M k f _;have sq:=k.sq sq;have b:=ag.mono k _ b;refine⟨λhi=>?_,λhi=>⟨vs,sq,by rw[←b.len];exact Nat.le_of_eq hi.symm⟩,λx H' d hd ⟨e,y⟩=>?_⟩
 ·have:i<vs.length:=by rw[←b.len];exact hi
  exact⟨vs,vs[i],sq,ZE this⟩
 ·subst e
  obtain⟨v,hv,r⟩:=cO b.p hd
  have:=y vs sq
  rw[hv] at this;cases this;exact⟨Kp.refl _,f,r⟩
theorem GH{K:Za}{z:Str}{a:Hp}:pQ K (Ff z) a (z.cps.toList.map λc=>.str ⟨#[c]⟩) (λ_=>True):=by
 intro i H M k b _;rw[ZG];refine⟨λhi=>?_,λhi=>?_,λx H' d hd ⟨e,c,hc,y⟩=>?_⟩
 ·show i<z.cps.size
  simpa using hi
 ·show i=z.cps.size
  simpa using hi
 ·subst e y
  rw[ZH] at hd;have:z.cps.toList[i]?=some c:=by simpa using hc
  rw[this] at hd;cases hd;exact⟨Kp.refl _,b,RV.str_.2 rfl⟩
def zi(t:WE):WI:=λσ M R=>t σ M λx M1=>IK x M1 R
theorem xU{pins:Zc}{s:Shared}{tg:Expr}{a:Addr}{xs:List V}{R:It->Hp->Prop}(I:ad X pins ρ H s)(hq:bx X.K H a xs)(q:R (HJ X.K a) H):wpAny 'b' X.A (pyIter (.ref a)) (qQ X pins ρ tg R) X.xe s:=by
 obtain⟨c_,c,p,hz⟩:=I.list hq;refine wpAny_pyIter_list p.isList ?_;refine⟨s.heap.objs.size,[s.heap.objs.size],_,_,H,rfl,I.kept (t':=s.toks) λb o e=>Yd _ e,Aw a _,⟨_,Yg _ rfl,rfl,rfl⟩,λb hb=>?_,q⟩;have e:b=s.heap.objs.size:=by simpa using hb
 subst e;exact I.fpOk (YG _) (I.hok.fresh (YG _))
theorem IL{pins:Zc}{s:Shared}{tg:Expr}{a:Addr}{xs:List V}{R:It->Hp->Prop}(I:ad X pins ρ H s)(hq:bn X.K H a xs)(q:R (HK X.K a) H):wpAny 'b' X.A (pyIter (.ref a)) (qQ X pins ρ tg R) X.xe s:=by
 obtain⟨c_,c,p,hz⟩:=I.tuple hq;refine wpAny_pyIter_tuple (show s.heap.IsTuple a c_.toArray from p) ?_;refine⟨s.heap.objs.size,[s.heap.objs.size],_,_,H,rfl,I.kept (t':=s.toks) λb o e=>Yd _ e,yH a _,⟨_,Yg _ rfl,rfl,rfl⟩,λb hb=>?_,q⟩;have e:b=s.heap.objs.size:=by simpa using hb
 subst e;exact I.fpOk (YG _) (I.hok.fresh (YG _))
theorem IM{pins:Zc}{s:Shared}{tg:Expr}{z:Str}{t:Tok}{R:It->Hp->Prop}(I:ad X pins ρ H s)(q:R (Ff z) H):wpAny 'b' X.A (pyIter (.str z t)) (qQ X pins ρ tg R) X.xe s:=by
 have fp:∀b∈[s.heap.objs.size],l0 X pins H b:=λb hb=>by
  have e:b=s.heap.objs.size:=by simpa using hb
  subst e;exact I.fpOk (YG _) (I.hok.fresh (YG _))
 cases ha:z.cps.all (· < 128)
 ·refine wpAny_pyIter_wide ha ?_
  exact⟨s.heap.objs.size,[s.heap.objs.size],_,_,H,rfl,I.kept (t':=s.toks) λb o e=>Yd _ e,AT _ z t,⟨_,Yg _ rfl,rfl,rfl⟩,fp,q⟩
 ·refine wpAny_pyIter_ascii ha ?_
  exact⟨s.heap.objs.size,[s.heap.objs.size],_,_,H,rfl,I.kept (t':=s.toks) λb o e=>Yd _ e,AS _ z t,⟨_,Yg _ rfl,rfl,rfl⟩,fp,q⟩
theorem GI{l tg:Expr}{t:WE}(h:aP X l t):tV X tg l (zi t):=by
 intro σ M ρ H R rs P q pins s I;refine aN (h σ M ρ H _ rs P q pins s I) λu s1 S=>?_
 obtain⟨v,T,f,y,⟨n,d,M1,B,g,c⟩⟩:=S;cases d with
 |tup ds=>
  obtain⟨a,xs,rfl,sq,j⟩:=RV.tup_.1 B;cases y;obtain⟨_,_,_,hz⟩:=f.tuple sq;exact IL f sq ⟨n,ds,_,M1,g,trivial,GG sq j,by rw[j.len];exact hz,c⟩
 |ref a=>
  cases RV.ref_.1 B;cases y;have c:match M1 a with
   |some (.lst ds)=>R ds (λM'=>M' a=some (.lst ds)) M1
   |some (.rol ds)=>R ds (λM'=>M' a=some (.rol ds)) M1
   |some (.dic b)=>R (keysOf b) (λM'=>M' a=some (.rod b)) (ab M1 a (.rod b))
   |some (.rod b)=>R (keysOf b) (λM'=>M' a=some (.rod b)) M1
   |_=>False:=c
  split at c
  ·rename_i ds e
   obtain⟨xs,e1,j⟩:=g a _ e;obtain⟨_,_,_,hz⟩:=f.list (bx.of e1);refine xU f (bx.of e1) ⟨n,ds,_,M1,g,e,vn λH' M' C g'=>?_,by rw[j.len];exact hz,c⟩;obtain⟨G,e',J⟩:=C a _ g';exact⟨G,bx.of e',J⟩
  ·rename_i ds e
   obtain⟨xs,e1,j⟩:=g a _ e;have e1:bx X.K T a xs:=.inl e1;obtain⟨_,_,_,hz⟩:=f.list e1;refine xU f e1 ⟨n,ds,_,M1,g,e,vn λH' M' C g'=>?_,by rw[j.len];exact hz,c⟩;obtain⟨G,e',J⟩:=C a _ g';exact⟨G,.inl e',J⟩
  ·rename_i b e
   obtain⟨p,e1,r,j⟩:=g a _ e;obtain⟨u,L⟩:=freeze f e1;have O:=Kp.put (o':=.frz u (.dK p)) e1 trivial;have U:=g.put (m:=.rod b) e1 trivial (o':=.frz u (.dK p)) ⟨u,p,aB,r,ag.mono O _ j⟩;refine xQ L aB ⟨n.trans O,keysOf b,_,_,U,aa,vm aB r _,?_,c⟩;obtain⟨_,hz,_⟩:=lG L aB;have hl:p.length=b.length:=by have:=congrArg List.length r;simpa using this
   unfold keysOf;rw[ZG];omega
  ·rename_i b e
   obtain⟨u,p,e1,r,j⟩:=g a _ e;refine xQ f e1 ⟨n,keysOf b,_,M1,g,e,vm e1 r _,?_,c⟩;obtain⟨_,hz,_⟩:=lG f e1;have hl:p.length=b.length:=by have:=congrArg List.length r;simpa using this
   unfold keysOf;rw[ZG];omega
  ·exact Yh c
 |str z=>
  cases RV.str_.1 B;obtain⟨t,rfl⟩:=y;exact IM f ⟨n,_,_,M1,g,trivial,GH,by rw[ZG];simpa using c.1,c.2⟩
 |_=>exact Yh c
def bD(a b:Int):List D:=(List.range (b-a).toNat).map λ(i:Nat)=>.int (a+(i:Int))
theorem Bb{K:Za}{a b:Int}{c:Hp}:pQ K (E9 a (b-a).toNat) c (bD a b) (λ_=>True):=by
 intro i H M k f _;have hl:(bD a b).length=(b-a).toNat:=by unfold bD;rw[ZG,ZL]
 rw[hl];refine⟨λhi=>hi,λhi=>Nat.le_of_eq hi.symm,λx H' d hd g=>?_⟩;obtain⟨e,y⟩:=g;subst e y;have hi:i<(b-a).toNat:=by have:=(YD.mp hd).1;rw[hl] at this;exact this
 unfold bD at hd;rw[ZH,List.getElem?_range hi] at hd;cases hd;exact⟨Kp.refl _,f,RV.int_.2 rfl⟩
def zj(t:WA):WI:=λσ M R=>t σ M λds M1=>match ds with
 |[.int j]=>(-1000000<=j/\j<=1000000)/\R (bD 0 j) (λ_=>True) M1
 |_=>False
theorem Bc{a b:Int}(h1:-1000000<=a)(c:b<=1000000):(bD a b).length<=sizeLine:=by
 unfold bD;rw[ZG,ZL,sizeLine_eq];omega
theorem zk{a tg:Expr}{t:WA}{p:Pos}(hg:Gl X "range")(hm:X.mg "range" = none)(ha:fZ X [a] t)(hs:av a=true):tV X tg (.Call (.Name "range" p) [a] [] pos) (zj t):=by
 intro σ M ρ H R rs f q;refine Ku (Ax hg hm (l6 [a]) (by rw[bt hs];rfl)) ?_;show kr X [a] ρ H _;refine dc (ha σ M ρ H _ rs f q) λvs g l=>?_
 obtain⟨m,ds,M1,c,y,n,b⟩:=l;try dsimp only at b
 split at b
 ·rename_i j
  have c:=c.p;cases c with
  |cons r u=>
   cases u;cases RV.int_.1 r;refine⟨j,rfl,by omega,by omega,m,_,_,M1,n,trivial,?_,Bc 'a' b.1.2,b.2⟩
   have:=@Bb X.K 0 j g
   rw[Int.sub_zero] at this;exact this
 ·exact Yh b
def jH:Expr->Bool
 |.Set _ _ _=>false
 |_=>true
theorem zm{env:Env}(h:jH e=true):∀x,foldedSetIterable e env x=pure x:=by
 intro x;cases e<;>first | rfl | (exact absurd (show false=true from h) YF)
def ax(g:MH->Prop)(t:eB)(a:WS)(E:cE):List D->DS->MH->Prop
 |[],σ,M=>E.nx σ M
 |x::xs,σ,M=>oT t x σ λc=>a { E with nx:=λb M2=>g M2/\ax g t a E xs b M2,ct:=λb M2=>g M2/\ax g t a E xs b M2,bk:=E.nx } c M
def Dw(t:WI)(g:eB)(a:WS):WS:=λE σ M=>t σ M λxs b M1=>ax b g a E xs σ M1
theorem GJ{tg iter:Expr}{body:Zt}{t:WI}{g:eB}{l:WS}(hp:PassesOwn 'b' X.A X.env X.xe)(hc:X.calm=true)(hi:tV X tg iter t)(hg:LH X tg g)(hb:mq X body l)(hs:jH iter=true):
  ku X (.For tg iter body [] pos) (Dw t g l):=by
 intro σ M ρ H E rs V q;refine dG (HL hp hc (Dv tg iter) hg (mo body) (zm hs)) ?_;show iW X tg iter ρ H _;refine tf (hi σ M ρ H _ rs V q) λJ O W=>?_
 obtain⟨n,xs,p,M1,Y,Z,Pn,hz,q1⟩:=W;refine⟨λi m P H'=>m=xs.length-i/\i<=xs.length/\Kp O H'/\∃u M',RS X.K H' u P/\RM X.K M' H'/\p M'/\ax p g l E (xs.drop i) u M',⟨xs.length,by simp,YM _,Kp.refl _,σ,M1,rs.mono n,Y,Z,q1⟩,?_⟩;rintro i m P H' ⟨rfl,Po,k',u,M',R,S,g',z⟩;obtain⟨j1,j2,j3⟩:=Pn i H' M' k' S g';by_cases B:i<xs.length
 ·rw[XU B] at z
  refine .inr ⟨j1 B,λT f=>Kp O f/\∃U M2,RS X.K f U T/\RM X.K M2 f/\p M2/\ax p g l E (xs.drop (i+1)) U M2,λT f ⟨j,r⟩=>⟨xs.length-(i+1),by omega,rfl,B,j,r⟩,λx f y=>?_⟩;obtain⟨j,m2,r2⟩:=j3 x f xs[i] (ZE B) y;refine Ba r2 (R.mono j) z λRH Me P7 q3=>?_
  refine dH (hb Me M' RH f _ P7 m2 q3) ⟨λTe H4 NO=>?_,λ_ _=>ce ((n.trans k').trans j),λ_ _=>jG ((n.trans k').trans j),λTe H4 ⟨C,G,L,a,b,c⟩=>⟨k'.trans (j.trans C),G,L,a,b,c.1,c.2⟩⟩;obtain⟨C,G,L,a,b,c⟩:=NO;exact⟨k'.trans (j.trans C),G,L,a,b,c.1,c.2⟩
 ·have e:i=xs.length:=by omega
  subst e;rw[List.drop_length] at z;exact .inl ⟨j2 rfl,n.trans k',u,M',R,S,z⟩
def aq(g:MH->Prop)(t:eB)(c:WT)(e:WE)(F:List D->MH->Prop):List D->List D->DS->MH->Prop
 |[],f_,_,M=>F f_ M
 |x::xs,f_,σ,M=>oT t x σ λa=>c a M λb M1=>fB b (e a M1 λy M2=>g M2/\aq g t c e F xs (f_++[y]) a M2) (g M1/\aq g t c e F xs f_ a M1)
def zn(n:Nat)(t:WI)(g:eB)(c:WT)(e:WE):WE:=λσ M Q=>t σ M λxs a M1=>aq a g c e (λds M'=>∀p,M' p=none->Q (.ref p) (ab M' p (.lst ds))) xs [] (σ++List.replicate n none) M1
def zo(X:Cx)(a:Zg)(t:WT):Prop:=(a=[]/\t=λ_ M Q=>Q true M) \/ ∃c,a=[c]/\jw X c t
theorem vo{K:Za}{J:It}{f:Hp}{xs:List D}{j:MH->Prop}{g:eB}{c:WT}{e:WE}{tc:TT}{te:TE}{F:List D->MH->Prop}{Fin:List V->Hp->Prop}{σ:DS}{M1:MH}{ρ:L2.St}
  (Pn:pQ K J f xs j) (hz:xs.length<=sizeLine) (rs:RS K f σ ρ) (m1:RM K M1 f) (g1:j M1)
  (hc:∀σ M ρ H Q (t:Bool->Hp->Prop),RS K H σ ρ->RM K M H->c σ M Q->(∀b H',Kp H H'->∀M',RM K M' H'->Q b M'->t b H')->tc ρ H t)
  (he:∀σ M ρ H Q (t:VK),RS K H σ ρ->RM K M H->e σ M Q->(∀v H',Kp H H'->∀d M',RV K H' d v->RM K M' H'->Q d M'->t v H')->te ρ H t)
  (hF:∀ds vs H' M',Kp f H'->RM K M' H'->ag K H' ds vs->F ds M'->Fin vs H') (q:aq j g c e F xs [] σ M1):uK J (xS K g) tc te Fin ρ f:=by
 refine⟨λi m ys R H'=>m=xs.length-i/\i<=xs.length/\Kp f H'/\∃L M' ds,RS K H' L R/\RM K M' H'/\j M'/\ag K H' ds ys/\ds.length<=i/\aq j g c e F (xs.drop i) ds L M',⟨xs.length,by simp,YM _,Kp.refl _,σ,M1,[],rs,m1,g1,ag.nil,YG _,q⟩,?_⟩;rintro i m ys R H' ⟨rfl,Po,k',L,M',ds,MD,S,g',u,hd,z⟩;obtain⟨j1,j2,j3⟩:=Pn i H' M' k' S g';by_cases B:i<xs.length
 ·rw[XU B] at z
  refine .inr ⟨j1 B,by rw[←u.len];omega,λT U a=>Kp f a/\∃W M2 O,RS K a W U/\RM K M2 a/\j M2/\ag K a O T/\O.length<=i+1/\aq j g c e F (xs.drop (i+1)) O W M2,λT U a ⟨l,r⟩=>⟨xs.length-(i+1),by omega,rfl,B,l,r⟩,λx a y=>?_⟩;obtain⟨l,m2,r2⟩:=j3 x a xs[i] (ZE B) y;refine Ba r2 (MD.mono l) z λY C G q3=>?_
  refine hc C M' Y a _ _ G m2 q3 λb H4 n Z m4 P=>?_
  cases b with
  |true=>
   refine he C Z Y H4 _ _ (G.mono n) m4 P λv H5 k5 d M5 rv m5 q5=>?_
   have kk:=l.trans (n.trans k5);exact⟨k'.trans kk,C,M5,ds++[d],G.mono (n.trans k5),m5,q5.1,ag.of (bA (ag.mono kk _ u).p (.cons rv .nil)),by simp;omega,q5.2⟩
  |false=>exact⟨k'.trans (l.trans n),C,Z,ds,G.mono n,m4,P.1,ag.mono (l.trans n) _ u,by omega,P.2⟩
 ·have e:i=xs.length:=by omega
  subst e;rw[List.drop_length] at z;exact .inl ⟨j2 rfl,hF ds ys H' M' k' S u z⟩
section
variable {F' tg iter:Expr}{ifs:Zg}{scope MJ:Scope}{own N2:Zf}
def bT(X:Cx)(scope:Scope)(own N2:Zf)(ifs:Zg):TT:=λρ H Q=>∀C s a ex pn pins b,ad (c8 X scope own N2 C s a ex pn) pins ρ H b ->
 wpAny 'b' X.A (forIn ifs true λc r=>if r=true then do let ok ←isTrue c (c8 X scope own N2 C s a ex pn).env (eval c (c8 X scope own N2 C s a ex pn).env);pure (ForInStep.yield ok) else pure (ForInStep.yield r)) (TP (c8 X scope own N2 C s a ex pn) pins ρ Q) (c8 X scope own N2 C s a ex pn).xe b
def bE(X:Cx)(scope:Scope)(own N2:Zf)(e:Expr):TE:=λρ H Q=>∀C s a ex pn,tW (c8 X scope own N2 C s a ex pn) e ρ H Q
theorem pR{c:WT}{te:WE}(hc:∀C s a ex pn,zo (c8 X scope own N2 C s a ex pn) ifs c)(p:∀C s a ex pn,aP (c8 X scope own N2 C s a ex pn) F' te):
  (∀σ M ρ H Q (g:Bool->Hp->Prop),RS X.K H σ ρ->RM X.K M H->c σ M Q->(∀b H',Kp H H'->∀M',RM X.K M' H'->Q b M'->g b H')->bT X scope own N2 ifs ρ H g) /\
  (∀σ M ρ H Q (g:VK),RS X.K H σ ρ->RM X.K M H->te σ M Q->(∀v H',Kp H H'->∀d M',RV X.K H' d v->RM X.K M' H'->Q d M'->g v H')->bE X scope own N2 F' ρ H g):=by
 refine⟨λσ M ρ H Q g rs j q f C s a ex pn pins n I=>?_,λσ M ρ H Q g rs j q f C s a ex pn=>?_⟩
 ·rcases hc C s a ex pn with⟨e1,e2⟩ | ⟨c',e1,h⟩
  ·subst e1 e2
   exact Gg (X:=c8 X scope own N2 C s a ex pn) pins n ρ H _ I (f true H (Kp.refl H) M j q)
  ·subst e1
   refine Gh (X:=c8 X scope own N2 C s a ex pn) (l5 c') pins n ρ H _ I ?_;refine fL (h σ M ρ H Q rs j q) λb H' t=>?_
   obtain⟨k,M',l,m⟩:=t;exact f b H' k M' l m
 ·refine aO (p C s a ex pn σ M ρ H Q rs j q) λv H' u=>?_
  obtain⟨k,d,M',r,l,m⟩:=u;exact f v H' k d M' r l m
theorem Dx{t:WI}{g:eB}{c:WT}{te:WE}(r:fY MJ scope X.N own N2)(u:X.env.scope=MJ)(y:X.calm=true)(hi:tV X tg iter t)(hg:∀C s a ex pn,PG (c8 X scope own N2 C s a ex pn) tg (xS X.K g))
  (hc:∀C s a ex pn,zo (c8 X scope own N2 C s a ex pn) ifs c) (z:∀C s a ex pn,aP (c8 X scope own N2 C s a ex pn) F' te) (hs:jH iter=true):aP X (.ListComp F' [⟨tg,iter,ifs,0⟩] scope pos) (zn own.length t g c te):=by
 intro σ M ρ H Q rs B q;obtain⟨G,L⟩:=pR hc z;refine bV (Gi (te:=bE X scope own N2 F') (tc:=bT X scope own N2 ifs) r y (Dv tg iter) hg (λC s a ex pn pins b O H' P I h=>h C s a ex pn pins b I) (λC s a ex pn pins b O H' P I h=>h C s a ex pn pins b I) u rfl (zm hs)) ?_;show iW X tg iter ρ H _;refine tf (hi σ M ρ H _ rs B q) λJ Y R=>?_
 obtain⟨j,xs,Z,M1,S,T,U,hz,V⟩:=R;refine vo U hz ((rs.mono j).more own.length) S T G L ?_ V;intro ds vs H' M' k' l W f p hp;have n:Kp H' (upd H' p (.lst vs)):=Kp.new hp;exact⟨(j.trans k').trans n,.ref p,_,RV.ref_.2 rfl,l.new (m:=.lst ds) hp ⟨vs,aB,ag.mono n _ W⟩,f p (l.fresh hp)⟩
def zp(i n:Nat)(t:WI)(g:eB)(c:WT)(e:WE):WS:=λE σ M=>t σ M λxs a M1=>aq a g c e (λds M'=>∀p,M' p=none->E.nx (σ.set i (some (.ref p))) (ab M' p (.lst ds))) xs [] (σ++List.replicate n none) M1
theorem Dy{t:WI}{g:eB}{c:WT}{te:WE}{i:Nat}{y:Str}{n r:Pos}(z:fY MJ scope X.N own N2)(B:X.env.scope=MJ)(G:X.calm=true)(L:X.N.Nodup)(hy:X.N[i]?=some y)(hl:X.env.scope.names.lookup y=some .local)(hi:tV X tg iter t)
  (hg:∀C s a ex pn,PG (c8 X scope own N2 C s a ex pn) tg (xS X.K g))
  (hc:∀C s a ex pn,zo (c8 X scope own N2 C s a ex pn) ifs c) (O:∀C s a ex pn,aP (c8 X scope own N2 C s a ex pn) F' te) (hs:jH iter=true)
  (P:swapsWith (.ListComp F' [⟨tg,iter,ifs,0⟩] scope pos) (some (.Name y n)) r.line X.env=pure true):ku X (.Assign [.Name y n] (.ListComp F' [⟨tg,iter,ifs,0⟩] scope pos) r) (zp i own.length t g c te):=by
 intro σ M ρ H E rs R q;obtain⟨S,T⟩:=pR hc O;refine dG (Gj (te:=bE X scope own N2 F') (tc:=bT X scope own N2 ifs) (i:=i) z G L hy hl (Dv tg iter) hg (λC s a ex pn pins b U H' V I h=>h C s a ex pn pins b I) (λC s a ex pn pins b U H' V I h=>h C s a ex pn pins b I) P B rfl (zm hs)) ?_;show iW X tg iter ρ H _;refine tf (hi σ M ρ H _ rs R q) λJ H1 W=>?_
 obtain⟨j,xs,gd,M1,Y,Z,Pn,hz,q1⟩:=W;refine vo Pn hz ((rs.mono j).more own.length) Y Z S T ?_ q1;intro ds vs H' M' k' u rr f p hp;have l:Kp H' (upd H' p (.lst vs)):=Kp.new hp;exact⟨(j.trans k').trans l,_,_,(rs.mono ((j.trans k').trans l)).set i (RV.ref_.2 rfl),u.new (m:=.lst ds) hp ⟨vs,aB,ag.mono l _ rr⟩,f p (u.fresh hp)⟩
end
def aw(N:Zf)(ds:List D):DS:=ds.map some++List.replicate (N.length-ds.length) none
theorem vp{K:Za}{H:Hp}{N:Zf}{ds:List D}{vs:List V}(r:ag K H ds vs):RS K H (aw N ds) (L2.start N vs):=by
 unfold aw L2.start;rw[r.len];refine bA ?_ (ju (λd e=>nomatch e) _);have p:=r.p;clear r;induction p with
 |nil=>exact .nil
 |cons r _ a=>exact .cons (λd e=>by cases e;exact⟨_,rfl,r⟩) a
end
section
variable {P:Zv}{w:World}{K:Za}{mg:Ze}{base:Heap}
theorem LI{x:Str}{st:Stmt}{ps N:Zf}{f:Addr}{fd:Zu}{k:Nat}{sp:aK}{t:WS}(c:oO K mg x st ps f fd)(S:cp N ps (ar st))(len:∀ds M Q,sp ds M Q->ds.length=ps.length)
  (hb:∀s_ A outer s H E,bU k (A.deeper (envOfC x (ar st) s.heap.objs.size f s_))->mq (nJ ko P w K mg base N x (ar st) f s_ A outer s H E).nox (aW st) t)
  (h:∀ds M Q,sp ds M Q->t { nx:=λ_ M'=>Q .non M',rt:=Q } (aw N ds) M):cf P w K mg base (k+1) x sp:=by
 refine⟨st,ps,f,fd,c,c.fn.ok S (λvs H Q E ⟨ds,M,a,r,_,s,_⟩=>by rw[←r.len];exact len ds M a s) λs_ A outer s H vs Q E g ⟨ds,M,a,r,m,sq,f0⟩=>⟨qm _ _,mo _,?_⟩⟩;refine dH (hb s_ A outer s H E g (aw N ds) M (L2.start N vs) H _ (vp r) m (h ds M a sq)) ⟨λn H' j=>?_,λv H' ⟨k',d,M',l,b,q⟩=>f0 _ _ _ _ q k' l b,λ_ _ ⟨_,_,_,_,_,q⟩=>q,λ_ _ ⟨_,_,_,_,_,q⟩=>q⟩;obtain⟨k',p,M',_,b,q⟩:=j;exact f0 _ _ _ _ q k' (RV.non_.2 rfl) b
end
mutual
noncomputable def aR:D->Bool
 |.ref _=>false
 |.ty _=>false
 |.tup ds=>aQ ds
 |_=>true
noncomputable def aQ:List D->Bool
 |[]=>true
 |d::ds=>aR d&&aQ ds
end
mutual
noncomputable def cv:D->Nat
 |.tup ds=>bm ds+1
 |_=>0
noncomputable def bm:List D->Nat
 |[]=>0
 |d::ds=>max (cv d) (bm ds)
end
mutual
noncomputable def ba:D->D->Bool
 |.non,.non=>true
 |.bl a,.bl b=>a==b
 |.bl a,.int b=>(if a then 1 else 0)==b
 |.int a,.bl b=>a==(if b then 1 else 0)
 |.int a,.int b=>a==b
 |.str a,.str b=>a==b
 |.tup as,.tup bs=>cI as bs
 |_,_=>false
noncomputable def cI:List D->List D->Bool
 |[],[]=>true
 |a::as,b::bs=>ba a b&&cI as bs
 |_,_=>false
end
mutual
theorem vq:∀d:D,aR d=true->ba d d=true
 |.non,_=>by rw[ba]
 |.bl b,_=>by rw[ba];simp
 |.int b,_=>by rw[ba];simp
 |.str b,_=>by rw[ba];simp
 |.ref _,h=>by rw[aR] at h;cases h
 |.ty _,h=>by rw[aR] at h;cases h
 |.tup ds,h=>by rw[aR] at h;rw[ba];exact kx ds h
theorem kx:∀ds:List D,aQ ds=true->cI ds ds=true
 |[],_=>by rw[cI]
 |d::ds,h=>by
  rw[aQ,YY] at h;rw[cI,vq d h.1,kx ds h.2];rfl
end
theorem jI:∀{as bs:List D},cI as bs=((List.range (min as.length bs.length)).all (λj=>ba ((as[j]?).getD .non) ((bs[j]?).getD .non))&&as.length==bs.length)
 |[],[]=>by rw[cI];rfl
 |[],b::bs=>by rw[cI]<;>simp
 |a::as,[]=>by rw[cI]<;>simp
 |a::as,b::bs=>by
  rw[cI,jI (as:=as) (bs:=bs)];have e:min (a::as).length (b::bs).length=min as.length bs.length+1:=by simp only[YJ];omega
  rw[e,List.range_succ_eq_map,XS,List.all_map];simp only[List.getElem?_cons_zero,Option.getD_some,YJ];rw[Bool.and_assoc];congr 1;congr 1;rw[XM];simp
theorem cw:∀{ds:List D}{i:Nat}{d:D},aQ ds=true->ds[i]?=some d->aR d=true
 |d::ds,0,_,h,e=>by rw[aQ,YY] at h;simp at e;subst e;exact h.1
 |d::ds,i+1,_,h,e=>by rw[aQ,YY] at h;exact cw (ds:=ds) (i:=i) h.2 (by simpa using e)
theorem iG:∀{ds:List D}{i:Nat}{d:D},ds[i]?=some d->cv d<=bm ds
 |d::ds,0,_,e=>by rw[bm];simp at e;subst e;omega
 |d::ds,i+1,_,e=>by rw[bm];have:=iG (ds:=ds) (i:=i) (by simpa using e);omega
section
variable {X:Cx}{pins:Zc}{ρ:L2.St}{H:Hp}{s:Shared}
def jd:D->Bool
 |.non=>true
 |.bl _=>true
 |.int _=>true
 |.str _=>true
 |_=>false
def toV:D->V
 |.non=>.non
 |.bl b=>.bl b
 |.int i=>.int i
 |.str x=>.str x
 |_=>.non
theorem oU{K:Za}{d:D}{v:V}(f:jd d=true)(r:RV K H d v):v=toV d/\yX v=true:=by
 cases d with
 |non=>cases RV.non_.1 r;exact⟨rfl,rfl⟩
 |bl b=>cases RV.bl_.1 r;exact⟨rfl,rfl⟩
 |int b=>cases RV.int_.1 r;exact⟨rfl,rfl⟩
 |str b=>cases RV.str_.1 r;exact⟨rfl,rfl⟩
 |_=>exact absurd (show false=true from f) YF
theorem xV{d e:D}(f:jd d=true)(g:jd e=true):ba d e=Kz (toV d) (toV e):=by
 cases d<;>cases e<;>first | exact absurd (show false=true from f) YF | exact absurd (show false=true from g) YF | (rw[ba]<;>first | rfl | (intros;contradiction) | skip)
mutual
theorem vt(I:ad X pins ρ H s):∀(d e:D){v:V},aR d=true->aR e=true->RV X.K H d v->RV X.K H e v->d=e:=λd e v pd pe rd re=>by
 cases d with
 |non=>cases RV.non_.1 rd;cases e with
  |non=>rfl
  |tup ds=>obtain⟨a,xs,z,_⟩:=RV.tup_.1 re;cases z
  |_=>rw[RV] at re;cases re
 |bl b=>cases RV.bl_.1 rd;cases e with
  |bl b'=>cases RV.bl_.1 re;rfl
  |tup ds=>obtain⟨a,xs,z,_⟩:=RV.tup_.1 re;cases z
  |_=>rw[RV] at re;cases re
 |int b=>cases RV.int_.1 rd;cases e with
  |int b'=>cases RV.int_.1 re;rfl
  |tup ds=>obtain⟨a,xs,z,_⟩:=RV.tup_.1 re;cases z
  |_=>rw[RV] at re;cases re
 |str b=>cases RV.str_.1 rd;cases e with
  |str b'=>cases RV.str_.1 re;rfl
  |tup ds=>obtain⟨a,xs,z,_⟩:=RV.tup_.1 re;cases z
  |_=>rw[RV] at re;cases re
 |ref a=>rw[aR] at pd;cases pd
 |ty a=>rw[aR] at pd;cases pd
 |tup ds=>
  obtain⟨a,xs,rfl,sq,rr⟩:=RV.tup_.1 rd;cases e with
  |tup es=>
   obtain⟨a',O2,z,Nh,C'⟩:=RV.tup_.1 re;cases z
   have:=I.tuple_inj sq Nh
   subst this;rw[aR] at pd pe;rw[xX I ds es pd pe rr C']
  |ref a=>rw[aR] at pe;cases pe
  |_=>rw[RV] at re;cases re
theorem xX(I:ad X pins ρ H s):∀(ds es:List D){vs:List V},aQ ds=true->aQ es=true->ag X.K H ds vs->ag X.K H es vs->ds=es
 |[],[],_,_,_,_,_=>rfl
 |[],e::es,_,_,_,rd,re=>by have:=rd.len;have:=re.len;simp only[YJ,YU] at *;omega
 |d::ds,[],_,_,_,rd,re=>by have:=rd.len;have:=re.len;simp only[YJ,YU] at *;omega
 |d::ds,e::es,_,pd,pe,rd,re=>by
  rw[ag] at rd re;rw[aQ,YY] at pd pe;obtain⟨v,vs,rfl,r1,r2⟩:=rd;obtain⟨v',MX,z,Wq,Ws⟩:=re;cases z;rw[vt I d e pd.1 pe.1 r1 Wq,xX I ds es pd.2 pe.2 r2 Ws]
end
theorem tj{A:Around}{ds:List D}{e:D}{v u:V}{j l:Value}(I:ad X pins ρ H s)(hu:A.units<cLine)(f:jd e=true)(m:RV X.K H (.tup ds) v)(c:RV X.K H e u)(r:RelV v j)(g:RelV u l):
  SeqAt.EqAt A s j l false/\SeqAt.EqAt A s l j false:=by
 obtain⟨a,xs,rfl,sq,n⟩:=RV.tup_.1 m;obtain⟨c_,_,tp,_⟩:=I.tuple sq;cases r;have tp:s.heap.IsTuple a c_.toArray:=tp;cases e with
 |non=>cases RV.non_.1 c;cases g;exact⟨SeqAt.EqAt.tuple_none tp hu,SeqAt.EqAt.none_tuple tp hu⟩
 |bl b=>cases RV.bl_.1 c;cases g;exact⟨SeqAt.EqAt.tuple_bool b tp hu,SeqAt.EqAt.bool_tuple b tp hu⟩
 |int b=>cases RV.int_.1 c;obtain⟨t,rfl⟩:=g;exact⟨SeqAt.EqAt.tuple_int b t tp hu,SeqAt.EqAt.int_tuple b t tp hu⟩
 |str b=>cases RV.str_.1 c;obtain⟨t,rfl⟩:=g;exact⟨SeqAt.EqAt.tuple_str b t tp hu,SeqAt.EqAt.str_tuple b t tp hu⟩
 |_=>exact absurd (show false=true from f) YF
theorem nW{ds:List D}{e:D}(f:jd e=true):ba (.tup ds) e=false/\ba e (.tup ds)=false:=by
 cases e<;>first | exact absurd (show false=true from f) YF | (constructor<;>(rw[ba]<;>(intros;contradiction)))
theorem dY{d:D}(h:aR d=true):jd d=true \/ ∃ds,d=.tup ds:=by
 cases d with
 |ref a=>rw[aR] at h;cases h
 |ty a=>rw[aR] at h;cases h
 |tup ds=>exact .inr ⟨ds,rfl⟩
 |_=>exact .inl rfl
theorem units_in1(A:Around):A.in1.units=A.units+1:=rfl
theorem gZ{K:Za}{ds:List D}{vs:List V}{c_:Zd}(a:ag K H ds vs)(b:ak vs c_){j:Nat}(h:j<c_.toArray.size):
  ∃d v,ds[j]?=some d/\RV K H d v/\RelV v c_.toArray[j]:=by
 have h1:j<c_.length:=by simpa using h
 have f:j<vs.length:=by rw[b.length];exact h1
 have c:j<ds.length:=by rw[a.len];exact f
 obtain⟨v,hv,r⟩:=cO a.p (ZE c);obtain⟨u,hu,g⟩:=b.get hv;have:c_.toArray[j]=u:=by
  have:=ZE h1
  rw[this] at hu;simpa using hu
 exact⟨ds[j],v,ZE c,r,by rw[this];exact g⟩
theorem vw(n:Nat):∀{s:Shared}{A:Around}(d e:D){v u:V}{y B:Value},ad X pins ρ H s->cv d<=n->A.units+n<cLine->aR d=true->aR e=true->RV X.K H d v->RV X.K H e u->RelV v y->RelV u B->SeqAt.EqAt A s y B (ba d e):=by
 induction n with
 |zero=>
  intro s A d e v u y B I hd hu p t c l r m;rcases dY p with f | ⟨ds,rfl⟩
  ·rcases dY t with g | ⟨es,rfl⟩
   ·rw[xV f g]
    obtain⟨C,G⟩:=oU f c;obtain⟨J,L⟩:=oU g l;rw[←C,←J];exact AF r m G L
   ·rw[(nW f).2];exact(tj I 'a' f l c m r).2
  ·rw[cv] at hd;omega
 |succ n U=>
  intro s A d e v u y B I hd hu p t c l r m;rcases dY p with f | ⟨ds,rfl⟩
  ·rcases dY t with g | ⟨es,rfl⟩
   ·rw[xV f g]
    obtain⟨C,G⟩:=oU f c;obtain⟨J,L⟩:=oU g l;rw[←C,←J];exact AF r m G L
   ·rw[(nW f).2];exact(tj I 'a' f l c m r).2
  ·rcases dY t with g | ⟨es,rfl⟩
   ·rw[(nW g).1];exact(tj I 'a' g c l r m).1
   ·by_cases z:v=u
    ·subst z
     have:=vt I _ _ p t c l
     cases this;rw[vq _ p];obtain⟨a,xs,rfl,_⟩:=RV.tup_.1 c;cases r;cases m;exact SeqAt.EqAt.same _
    ·obtain⟨a,xs,rfl,sq,P⟩:=RV.tup_.1 c
     obtain⟨b,ys,rfl,W,R⟩:=RV.tup_.1 l;cases r;cases m;have Y:a≠b:=λq=>z (by rw[q])
     obtain⟨c_,S,tp,_⟩:=I.tuple sq;obtain⟨n_,T,Z,_⟩:=I.tuple W;rw[cv] at hd;rw[aR] at p t;have O:=SeqAt.RcAt.tuples (A:=A) (e:=λj=>ba ((ds[j]?).getD .non) ((es[j]?).getD .non)) (show s.heap.IsTuple a c_.toArray from tp) (show s.heap.IsTuple b n_.toArray from Z) 'a' (λj h1 h2=>by
      obtain⟨d,v,e1,r1,q1⟩:=gZ P S h1;obtain⟨e,u,e2,r2,q2⟩:=gZ R T h2;rw[e1,e2]
      have:=iG e1
      exact U d e I 'a' (by rw[units_in1];omega) (cw p e1) (cw t e2) r1 r2 q1 q2)
     have e:ba (.tup ds) (.tup es)=((List.range (min c_.toArray.size n_.toArray.size)).all (λj=>ba ((ds[j]?).getD .non) ((es[j]?).getD .non))&&c_.toArray.size==n_.toArray.size):=by
      have l1:c_.toArray.size=ds.length:=by rw[P.len,S.length];simp
      have l2:n_.toArray.size=es.length:=by rw[R.len,T.length];simp
      rw[ba,jI,l1,l2]
     rw[e];exact SeqAt.EqAt.of_refs Y O
end
section
variable {X:Cx}{H:Hp}
def Dz:D->D->MH->DK->Prop
 |.int i,.int j,M,Q=>Q (.int (i+j)) M
 |.str i,.str j,M,Q=>i.length+j.length<=sizeLine/\Q (.str (i++j)) M
 |.tup xs,.tup ys,M,Q=>(xs≠[]/\xs.length+ys.length<=sizeLine)/\Q (.tup (xs++ys)) M
 |.ref a,.ref b,M,Q=>match M a,M b with
  |some (.lst xs),some (.lst ys)=>xs.length+ys.length<=sizeLine/\∀p,M p=none->Q (.ref p) (ab M p (.lst (xs++ys)))
  |_,_=>False
 |_,_,_,_=>False
theorem GK:iF X (binaryOp .Add) Dz:=by
 intro x y v u H M Q l n c h;cases x with
 |int i=>cases y with
  |int j=>cases RV.int_.1 l;cases RV.int_.1 n;exact fG HP ⟨i,j,rfl,rfl,aJ (RV.int_.2 rfl) c h⟩
  |_=>exact Yh h
 |str i=>cases y with
  |str j=>cases RV.str_.1 l;cases RV.str_.1 n;exact fG yO ⟨i,j,rfl,rfl,h.1,aJ (RV.str_.2 rfl) c h.2⟩
  |_=>exact Yh h
 |tup xs=>cases y with
  |tup ys=>
   obtain⟨a,vs,rfl,sq,f⟩:=RV.tup_.1 l;obtain⟨b,us,rfl,t,g⟩:=RV.tup_.1 n;obtain⟨⟨h1,B⟩,r⟩:=h;refine fG Ga ⟨a,b,vs,us,rfl,rfl,sq,t,λz=>h1 ?_,by rw[←f.len,←g.len];exact B,λz=>?_,λz p hp=>?_⟩
   ·have:=f.len;rw[z] at this;exact List.eq_nil_of_length_eq_zero this
   ·have:=g.len;rw[z] at this
    have:ys=[]:=List.eq_nil_of_length_eq_zero this
    subst this;rw[ZA] at r;exact aJ l c r
   ·have k:=Kp.new (o:=.tup (vs++us)) hp
    exact⟨k,.tup (xs++ys),M,RV.tup_.2 ⟨p,_,rfl,bn.of aB,ag.of (bA (ag.mono k _ f).p (ag.mono k _ g).p)⟩,c.newH hp,r⟩
  |_=>exact Yh h
 |ref a=>cases y with
  |ref b=>
   cases RV.ref_.1 l;cases RV.ref_.1 n;have h:match M a,M b with
    |some (.lst xs),some (.lst ys)=>xs.length+ys.length<=sizeLine/\∀p,M p=none->Q (.ref p) (ab M p (.lst (xs++ys)))
    |_,_=>False:=h
   split at h
   ·rename_i xs ys e1 e2
    obtain⟨vs,C,f⟩:=c a _ e1;obtain⟨us,G,g⟩:=c b _ e2;refine fG Iq ⟨a,b,vs,us,rfl,rfl,C,G,by rw[←f.len,←g.len];exact h.1,λp hp=>?_⟩;have k:=Kp.new (o:=.lst (vs++us)) hp;exact⟨k,.ref p,_,RV.ref_.2 rfl,c.new (m:=.lst (xs++ys)) hp ⟨_,aB,ag.of (bA (ag.mono k _ f).p (ag.mono k _ g).p)⟩,h.2 p (c.fresh hp)⟩
   ·exact Yh h
  |_=>exact Yh h
 |_=>exact Yh h
def dI(C:Int->Int->Prop)(g:Int->Int->Int):D->D->MH->DK->Prop
 |.int i,.int j,M,Q=>C i j/\Q (.int (g i j)) M
 |_,_,_,_=>False
theorem rq{f:Zk}{C:Int->Int->Prop}{g:Int->Int->Int}(a:cu X f (rI C λi j=>.int (g i j))):iF X f (dI C g):=by
 intro x y v u H M Q b c l h;cases x with
 |int i=>cases y with
  |int j=>cases RV.int_.1 b;cases RV.int_.1 c;exact fG a ⟨i,j,rfl,rfl,h.1,aJ (RV.int_.2 rfl) l h.2⟩
  |_=>exact Yh h
 |_=>exact Yh h
def xY(g:Int->Int->Int):D->D->MH->DK->Prop
 |.int i,.int j,M,Q=>Q (.int (g i j)) M
 |_,_,_,_=>False
theorem rz{f:Zk}{g:Int->Int->Int}(a:cu X f (lF λi j=>.int (g i j))):iF X f (xY g):=by
 intro x y v u H M Q b c l h;cases x with
 |int i=>cases y with
  |int j=>cases RV.int_.1 b;cases RV.int_.1 c;exact fG a ⟨i,j,rfl,rfl,aJ (RV.int_.2 rfl) l h⟩
  |_=>exact Yh h
 |_=>exact Yh h
def DA:D->D->MH->DK->Prop
 |.int i,.int j,M,Q=>yL i j/\Q (.int (i*j)) M
 |.str z,.int n,M,Q=>(0<=n/\n<=1048576/\z.length*n.toNat<=1048576)/\Q (.str (Txt.mul z n)) M
 |.ref a,.int k,M,Q=>match M a with
  |some (.lst xs)=>(-1000000<=k/\k<=1000000/\xs.length*k.toNat<=sizeLine)/\∀p,M p=none->Q (.ref p) (ab M p (.lst (List.replicate k.toNat xs).flatten))
  |_=>False
 |_,_,_,_=>False
theorem GL:iF X (binaryOp .Mult) DA:=by
 intro x y v u H M Q c f b h;cases x with
 |int i=>cases y with
  |int j=>cases RV.int_.1 c;cases RV.int_.1 f;exact fG HR ⟨i,j,rfl,rfl,h.1,aJ (RV.int_.2 rfl) b h.2⟩
  |_=>exact Yh h
 |str z=>cases y with
  |int n=>cases RV.str_.1 c;cases RV.int_.1 f;exact fG y0 ⟨z,n,rfl,rfl,h.1.1,h.1.2.1,h.1.2.2,aJ (RV.str_.2 rfl) b h.2⟩
  |_=>exact Yh h
 |ref a=>cases y with
  |int k=>
   cases RV.ref_.1 c;cases RV.int_.1 f;have h:match M a with
    |some (.lst xs)=>(-1000000<=k/\k<=1000000/\xs.length*k.toNat<=sizeLine)/\∀p,M p=none->Q (.ref p) (ab M p (.lst (List.replicate k.toNat xs).flatten))
    |_=>False:=h
   split at h
   ·rename_i xs e1
    obtain⟨vs,l,g⟩:=b a _ e1;refine fG Ir ⟨a,k,vs,rfl,rfl,l,by omega,by omega,by rw[←g.len];exact h.1.2.2,λp hp=>?_⟩;have kk:=Kp.new (o:=.lst (List.replicate k.toNat vs).flatten) hp;exact⟨kk,.ref p,_,RV.ref_.2 rfl,b.new (m:=.lst (List.replicate k.toNat xs).flatten) hp ⟨_,aB,ag.of (AW (ag.mono kk _ g).p _)⟩,h.2 p (b.fresh hp)⟩
   ·exact Yh h
  |_=>exact Yh h
 |_=>exact Yh h
def DB:Operator->D->D->MH->DK->Prop
 |.Add=>Dz
 |.Sub=>xY λi j=>i-j
 |.Mult=>DA
 |.FloorDiv=>dI HN λi j=>i / j
 |.Mod=>dI (λ_ j=>0<j) λi j=>i%j
 |.Pow=>dI yK λi j=>i ^ j.toNat
 |.LShift=>dI yK λi j=>i*2 ^ j.toNat
 |.RShift=>dI (λ_ j=>0<=j) λi j=>i / 2 ^ j.toNat
 |.BitAnd=>xY Builtin.bitAnd
 |.BitOr=>xY Builtin.bitOr
 |.BitXor=>xY Builtin.bitXor
 |_=>λ_ _ _ _=>False
theorem GM(op:Operator):iF X (binaryOp op) (DB op):=by
 cases op with
 |Add=>exact GK
 |Sub=>exact rz HQ
 |Mult=>exact GL
 |FloorDiv=>exact rq FV
 |Mod=>exact rq HS
 |Pow=>exact rq HU
 |LShift=>exact rq HV
 |RShift=>exact rq HW
 |BitAnd=>exact rz HX
 |BitOr=>exact rz J9
 |BitXor=>exact rz HY
 |_=>exact λ_ _ _ _ _ _ _ _ _ _ h=>Yh h
def Bd(g:Int->Int->Bool):D->D->MH->DK->Prop
 |.int i,.int j,M,Q=>Q (.bl (g i j)) M
 |_,_,_,_=>False
theorem rA{f:Zk}{g:Int->Int->Bool}(a:cu X f (lF λi j=>.bl (g i j))):iF X f (Bd g):=by
 intro x y v u H M Q b c l h;cases x with
 |int i=>cases y with
  |int j=>cases RV.int_.1 b;cases RV.int_.1 c;exact fG a ⟨i,j,rfl,rfl,aJ (RV.bl_.2 rfl) l h⟩
  |_=>exact Yh h
 |_=>exact Yh h
def xZ(x y:D)(M:MH)(Q:Bool->Prop):Prop:=match x,y with
 |.ref a,.ref b=>match cx (M a),cx (M b) with
  |some xs,some ys=>(aQ xs=true/\aQ ys=true/\bm xs<=30)/\Q (cI xs ys)
  |_,_=>False
 |.ref a,y=>match cx (M a) with
  |some _=>aR y=true/\Q false
  |none=>False
 |x,.ref b=>match cx (M b) with
  |some _=>aR x=true/\Q false
  |none=>False
 |x,y=>(aR x=true/\aR y=true/\cv x<=30)/\Q (ba x y)
theorem Be{A:Around}{s:Shared}{d e:D}{v u:V}{m n:Value}{K:Za}(f:jd d=true)(g:jd e=true)(l:RV K H d v)(c:RV K H e u)(r:RelV v m)(j:RelV u n):
  SeqAt.RcAt A s m n (ba d e)/\SeqAt.RcNeAt A s m n (!ba d e):=by
 cases d with
 |non=>
  cases RV.non_.1 l;cases r;cases e with
  |non=>cases RV.non_.1 c;cases j;rw[ba];exact⟨SeqAt.RcAt.none_none,SeqAt.RcNeAt.none_none⟩
  |bl b=>cases RV.bl_.1 c;cases j;rw[ba]<;>first | exact⟨SeqAt.RcAt.none_bool b,SeqAt.RcNeAt.none_bool b⟩ | (intros;contradiction)
  |int b=>cases RV.int_.1 c;obtain⟨t,rfl⟩:=j;rw[ba]<;>first | exact⟨SeqAt.RcAt.none_int b t,SeqAt.RcNeAt.none_int b t⟩ | (intros;contradiction)
  |str b=>cases RV.str_.1 c;obtain⟨t,rfl⟩:=j;rw[ba]<;>first | exact⟨SeqAt.RcAt.none_str b t,SeqAt.RcNeAt.none_str b t⟩ | (intros;contradiction)
  |_=>exact absurd (show false=true from g) YF
 |bl a=>
  cases RV.bl_.1 l;cases r;cases e with
  |non=>cases RV.non_.1 c;cases j;rw[ba]<;>first | exact⟨SeqAt.RcAt.bool_none a,SeqAt.RcNeAt.bool_none a⟩ | (intros;contradiction)
  |bl b=>cases RV.bl_.1 c;cases j;rw[ba];exact⟨SeqAt.RcAt.bool_bool a b,SeqAt.RcNeAt.bool_bool a b⟩
  |int b=>cases RV.int_.1 c;obtain⟨t,rfl⟩:=j;rw[ba];exact⟨SeqAt.RcAt.bool_int a b t,SeqAt.RcNeAt.bool_int a b t⟩
  |str b=>cases RV.str_.1 c;obtain⟨t,rfl⟩:=j;rw[ba]<;>first | exact⟨SeqAt.RcAt.bool_str a b t,SeqAt.RcNeAt.bool_str a b t⟩ | (intros;contradiction)
  |_=>exact absurd (show false=true from g) YF
 |int a=>
  cases RV.int_.1 l;obtain⟨t',rfl⟩:=r;cases e with
  |non=>cases RV.non_.1 c;cases j;rw[ba]<;>first | exact⟨SeqAt.RcAt.int_none a t',SeqAt.RcNeAt.int_none a t'⟩ | (intros;contradiction)
  |bl b=>cases RV.bl_.1 c;cases j;rw[ba];exact⟨SeqAt.RcAt.int_bool a t' b,SeqAt.RcNeAt.int_bool a t' b⟩
  |int b=>cases RV.int_.1 c;obtain⟨t,rfl⟩:=j;rw[ba];exact⟨SeqAt.RcAt.int_int a t' b t,SeqAt.RcNeAt.int_int a t' b t⟩
  |str b=>cases RV.str_.1 c;obtain⟨t,rfl⟩:=j;rw[ba]<;>first | exact⟨SeqAt.RcAt.int_str a t' b t,SeqAt.RcNeAt.int_str a t' b t⟩ | (intros;contradiction)
  |_=>exact absurd (show false=true from g) YF
 |str a=>
  cases RV.str_.1 l;obtain⟨t',rfl⟩:=r;cases e with
  |non=>cases RV.non_.1 c;cases j;rw[ba]<;>first | exact⟨SeqAt.RcAt.str_none a t',SeqAt.RcNeAt.str_none a t'⟩ | (intros;contradiction)
  |bl b=>cases RV.bl_.1 c;cases j;rw[ba]<;>first | exact⟨SeqAt.RcAt.str_bool a t' b,SeqAt.RcNeAt.str_bool a t' b⟩ | (intros;contradiction)
  |int b=>cases RV.int_.1 c;obtain⟨t,rfl⟩:=j;rw[ba]<;>first | exact⟨SeqAt.RcAt.str_int a t' b t,SeqAt.RcNeAt.str_int a t' b t⟩ | (intros;contradiction)
  |str b=>cases RV.str_.1 c;obtain⟨t,rfl⟩:=j;rw[ba];exact⟨SeqAt.RcAt.str_str a t' b t,SeqAt.RcNeAt.str_str a t' b t⟩
  |_=>exact absurd (show false=true from g) YF
 |_=>exact absurd (show false=true from f) YF
theorem tm{A:Around}{s:Shared}{pins:Zc}{ρ:L2.St}{a:Addr}{c_:Zl}{e:D}{u:V}{j:Value}(hu:A.units<cLine)(f:jd e=true)(tp:s.heap.IsTuple a c_\/s.heap.IsList a c_)(c:RV X.K H e u)(g:RelV u j):
  (SeqAt.RcAt A s (.ref a) j false/\SeqAt.RcNeAt A s (.ref a) j true)/\(SeqAt.RcAt A s j (.ref a) false/\SeqAt.RcNeAt A s j (.ref a) true):=by
 rcases tp with tp | tp
 ·cases e with
  |non=>cases RV.non_.1 c;cases g;exact⟨⟨SeqAt.RcAt.tuple_none tp hu,SeqAt.RcNeAt.tuple_none tp hu⟩,⟨SeqAt.RcAt.none_tuple tp hu,SeqAt.RcNeAt.none_tuple tp hu⟩⟩
  |bl b=>cases RV.bl_.1 c;cases g;exact⟨⟨SeqAt.RcAt.tuple_bool b tp hu,SeqAt.RcNeAt.tuple_bool b tp hu⟩,⟨SeqAt.RcAt.bool_tuple b tp hu,SeqAt.RcNeAt.bool_tuple b tp hu⟩⟩
  |int b=>cases RV.int_.1 c;obtain⟨t,rfl⟩:=g;exact⟨⟨SeqAt.RcAt.tuple_int b t tp hu,SeqAt.RcNeAt.tuple_int b t tp hu⟩,⟨SeqAt.RcAt.int_tuple b t tp hu,SeqAt.RcNeAt.int_tuple b t tp hu⟩⟩
  |str b=>cases RV.str_.1 c;obtain⟨t,rfl⟩:=g;exact⟨⟨SeqAt.RcAt.tuple_str b t tp hu,SeqAt.RcNeAt.tuple_str b t tp hu⟩,⟨SeqAt.RcAt.str_tuple b t tp hu,SeqAt.RcNeAt.str_tuple b t tp hu⟩⟩
  |_=>exact absurd (show false=true from f) YF
 ·cases e with
  |non=>cases RV.non_.1 c;cases g;exact⟨⟨SeqAt.RcAt.list_none tp hu,SeqAt.RcNeAt.list_none tp hu⟩,⟨SeqAt.RcAt.none_list tp hu,SeqAt.RcNeAt.none_list tp hu⟩⟩
  |bl b=>cases RV.bl_.1 c;cases g;exact⟨⟨SeqAt.RcAt.list_bool b tp hu,SeqAt.RcNeAt.list_bool b tp hu⟩,⟨SeqAt.RcAt.bool_list b tp hu,SeqAt.RcNeAt.bool_list b tp hu⟩⟩
  |int b=>cases RV.int_.1 c;obtain⟨t,rfl⟩:=g;exact⟨⟨SeqAt.RcAt.list_int b t tp hu,SeqAt.RcNeAt.list_int b t tp hu⟩,⟨SeqAt.RcAt.int_list b t tp hu,SeqAt.RcNeAt.int_list b t tp hu⟩⟩
  |str b=>cases RV.str_.1 c;obtain⟨t,rfl⟩:=g;exact⟨⟨SeqAt.RcAt.list_str b t tp hu,SeqAt.RcNeAt.list_str b t tp hu⟩,⟨SeqAt.RcAt.str_list b t tp hu,SeqAt.RcNeAt.str_list b t tp hu⟩⟩
  |_=>exact absurd (show false=true from f) YF
def x0(A:Around)(s:Shared)(v u:Value)(b:Bool):Prop:=SeqAt.RcAt A s v u b/\SeqAt.RcNeAt A s v u (!b)
theorem GN{A:Around}{s:Shared}{pins:Zc}{ρ:L2.St}{ds es:List D}{vs us:List V}{c_ n_:Zd}{a b:Addr}(I:ad X pins ρ H s)(hd:bm ds<=30)(hu:A.units+40<cLine)(r:aQ ds=true)(t:aQ es=true)
  (c:ag X.K H ds vs) (f:ag X.K H es us) (g:ak vs c_) (l:ak us n_) (tp:s.heap.IsTuple a c_.toArray) (m:s.heap.IsTuple b n_.toArray):x0 A s (.ref a) (.ref b) (cI ds es):=by
 have y:c_.toArray.size=ds.length:=by rw[c.len,g.length];simp
 have z:n_.toArray.size=es.length:=by rw[f.len,l.length];simp
 have n:∀j (h1:j<c_.toArray.size) (p:j<n_.toArray.size),SeqAt.EqAt A.in1 s c_.toArray[j] n_.toArray[j] (ba ((ds[j]?).getD .non) ((es[j]?).getD .non)):=λj h1 p=>by
  obtain⟨d,v,e1,B,C⟩:=gZ c g h1;obtain⟨e,u,e2,G,J⟩:=gZ f l p;rw[e1,e2]
  have:=iG e1
  exact vw 30 d e I 'a' (by rw[units_in1];omega) (cw r e1) (cw t e2) B G C J
 have e:cI ds es=((List.range (min c_.toArray.size n_.toArray.size)).all (λj=>ba ((ds[j]?).getD .non) ((es[j]?).getD .non))&&c_.toArray.size==n_.toArray.size):=by rw[jI,y,z]
 rw[e];exact⟨SeqAt.RcAt.tuples tp m 'a' n,SeqAt.RcNeAt.tuples tp m 'a' n⟩
theorem DC{A:Around}{s:Shared}{pins:Zc}{ρ:L2.St}{ds es:List D}{vs us:List V}{c_ n_:Zd}{a b:Addr}(I:ad X pins ρ H s)(hd:bm ds<=30)(hu:A.units+40<cLine)(y:aQ ds=true)(z:aQ es=true)
  (f:ag X.K H ds vs) (g:ag X.K H es us) (l:ak vs c_) (m:ak us n_) (tp:s.heap.IsList a c_.toArray) (c:s.heap.IsList b n_.toArray):x0 A s (.ref a) (.ref b) (cI ds es):=by
 have n:c_.toArray.size=ds.length:=by rw[f.len,l.length];simp
 have B:n_.toArray.size=es.length:=by rw[g.len,m.length];simp
 have p:∀j (h1:j<c_.toArray.size) (r:j<n_.toArray.size),SeqAt.EqAt A.in1 s c_.toArray[j] n_.toArray[j] (ba ((ds[j]?).getD .non) ((es[j]?).getD .non)):=λj h1 r=>by
  obtain⟨d,v,e1,C,G⟩:=gZ f l h1;obtain⟨e,u,e2,J,L⟩:=gZ g m r;rw[e1,e2]
  have:=iG e1
  exact vw 30 d e I 'a' (by rw[units_in1];omega) (cw y e1) (cw z e2) C J G L
 by_cases hl:ds.length=es.length
 ·have e:cI ds es=(List.range c_.toArray.size).all (λj=>ba ((ds[j]?).getD .non) ((es[j]?).getD .non)):=by rw[jI,n,hl,Nat.min_self];simp
  rw[e];exact⟨SeqAt.RcAt.lists tp c 'a' 'a' p,SeqAt.RcNeAt.lists tp c 'a' 'a' p⟩
 ·have e:cI ds es=false:=by rw[jI];simp[hl]
  rw[e];have t:(c_.toArray.size != n_.toArray.size)=true:=by rw[n,B];simpa using hl
  exact⟨SeqAt.RcAt.lists_lengths tp c t 'a',SeqAt.RcNeAt.lists_lengths tp c t 'a'⟩
theorem IN{s:Shared}{pins:Zc}{ρ:L2.St}{M:MH}{x y:D}{v u:V}{L O:Value}{Q:Bool->Prop}(I:ad X pins ρ H s)(hu:X.A.units+40<cLine)(p:RV X.K H x v)(c:RV X.K H y u)(m:RM X.K M H)(r:RelV v L)(j:RelV u O)(h:xZ x y M Q):
  ∃b,x0 X.A s L O b/\Q b:=by
 have S:aR x=true->aR y=true->cv x<=30->Q (ba x y)->∃b,x0 X.A s L O b/\Q b:=λP n hd q=>by
  rcases dY P with f | ⟨ds,rfl⟩
  ·rcases dY n with g | ⟨es,rfl⟩
   ·exact⟨_,Be f g p c r j,q⟩
   ·obtain⟨b,us,rfl,sq,t⟩:=RV.tup_.1 c
    obtain⟨c_,z,tp,_⟩:=I.tuple sq;cases j;rw[(nW f).2] at q;exact⟨false,(tm (X:=X) (pins:=pins) (ρ:=ρ) 'a' f (.inl (show s.heap.IsTuple b c_.toArray from tp)) p r).2,q⟩
  ·obtain⟨a,vs,rfl,sq,t⟩:=RV.tup_.1 p
   obtain⟨c_,z,tp,_⟩:=I.tuple sq;cases r;rcases dY n with g | ⟨es,rfl⟩
   ·rw[(nW g).1] at q
    exact⟨false,(tm (X:=X) (pins:=pins) (ρ:=ρ) 'a' g (.inl (show s.heap.IsTuple a c_.toArray from tp)) c j).1,q⟩
   ·obtain⟨b,us,rfl,B,C⟩:=RV.tup_.1 c
    obtain⟨n_,G,l,_⟩:=I.tuple B;cases j;rw[aR] at P n;rw[cv] at hd;rw[ba] at q;exact⟨_,GN I 'a' hu P n t C z G (show s.heap.IsTuple a c_.toArray from tp) (show s.heap.IsTuple b n_.toArray from l),q⟩
 have R:∀{a:Addr}{w:V}{J:Value}{y:D}{xs:List D},cx (M a)=some xs->RV X.K H y w->RelV w J->aR y=true->(x0 X.A s (.ref a) J false/\x0 X.A s J (.ref a) false):=λ{a w J y xs} hl c j n=>by
  obtain⟨vs,sq,t⟩:=m.list hl;obtain⟨c_,z,tp,_⟩:=I.list sq;rcases dY n with g | ⟨es,rfl⟩
  ·have:=tm (X:=X) (pins:=pins) (ρ:=ρ) (A:=X.A) 'a' g (.inr tp.isList) c j
   exact⟨this.1,this.2⟩
  ·obtain⟨b,us,rfl,B,C⟩:=RV.tup_.1 c
   obtain⟨n_,G,l,_⟩:=I.tuple B;cases j;have l:s.heap.IsTuple b n_.toArray:=l;exact⟨⟨SeqAt.RcAt.list_tuple tp.isList l 'a',SeqAt.RcNeAt.list_tuple tp.isList l 'a'⟩,⟨SeqAt.RcAt.tuple_list l tp.isList 'a',SeqAt.RcNeAt.tuple_list l tp.isList 'a'⟩⟩
 cases x with
 |ref a=>
  cases RV.ref_.1 p;cases r;cases y with
  |ref b=>
   cases RV.ref_.1 c;cases j;have h:match cx (M a),cx (M b) with
    |some xs,some ys=>(aQ xs=true/\aQ ys=true/\bm xs<=30)/\Q (cI xs ys)
    |_,_=>False:=h
   split at h
   ·rename_i xs ys e1 e2
    obtain⟨vs,sq,t⟩:=m.list e1;obtain⟨us,B,C⟩:=m.list e2;obtain⟨c_,z,tp,_⟩:=I.list sq;obtain⟨n_,G,l,_⟩:=I.list B;exact⟨_,DC I h.1.2.2 hu h.1.1 h.1.2.1 t C z G tp.isList l.isList,h.2⟩
   ·exact Yh h
  |_=>
   simp only[xZ] at h;split at h
   ·rename_i xs e1
    exact⟨false,(R e1 c j h.1).1,h.2⟩
   ·exact Yh h
 |_=>
  cases y with
  |ref b=>
   cases RV.ref_.1 c;cases j;simp only[xZ] at h;split at h
   ·rename_i ys e1
    exact⟨false,(R e1 p r h.1).2,h.2⟩
   ·exact Yh h
  |_=>exact S h.1.1 h.1.2.1 h.1.2.2 h.2
def DE:D->D->MH->DK->Prop:=λx y M Q=>xZ x y M λb=>Q (.bl b) M
def DF:D->D->MH->DK->Prop:=λx y M Q=>xZ x y M λb=>Q (.bl (!b)) M
theorem IO(hu:X.A.units+40<cLine):iF X (compareOp .Eq) DE:=by
 intro x y v u H M Q c f a h pins s ρ j l I r g;obtain⟨b,h1,q⟩:=IN I hu c f a r g h;exact h1.1 _ _ _ _ ⟨.bl b,H,I,rfl,aJ (RV.bl_.2 rfl) a q⟩
theorem IP(hu:X.A.units+40<cLine):iF X (compareOp .NotEq) DF:=by
 intro x y v u H M Q c f a h pins s ρ j l I r g;obtain⟨b,h1,q⟩:=IN I hu c f a r g h;exact h1.2 _ _ _ _ ⟨.bl (!b),H,I,rfl,aJ (RV.bl_.2 rfl) a q⟩
end
section
variable {X:Cx}{H:Hp}{e a b c:Expr}{es:Zg}{pos:Pos}
noncomputable def rC(K:Za)(H:Hp)(ds:List D)(x:D)(y:Value):Bool:=@decide (∃d v,d∈ds/\RV K H d v/\RelV v y/\ba d x=true) (Classical.propDecidable _)
theorem tX{pins:Zc}{ρ:L2.St}{s:Shared}{ds:List D}{x d:D}{v:V}{y:Value}(I:ad X pins ρ H s)(g:aQ ds=true)(hd:d∈ds)(r:RV X.K H d v)(f:RelV v y):rC X.K H ds x y=ba d x:=by
 have pg:∀d∈ds,aR d=true:=λd h=>let⟨i,hi⟩:=XV h;cw g hi
 unfold rC;cases q:ba d x with
 |true=>exact @decide_eq_true _ (Classical.propDecidable _) ⟨d,v,hd,r,f,q⟩
 |false=>
  refine @decide_eq_false _ (Classical.propDecidable _) ?_;rintro⟨d',v',NK,r1,r2,q'⟩
  have:=L2.RelV.inj r2 f
  subst this
  have:=vt I d' d (pg d' NK) (pg d hd) r1 r
  subst this;rw[q] at q';cases q'
theorem tY{K:Za}{x:D}{f:Value->Bool}:∀{ds:List D}{vs:List V}{c_:Zd},ag K H ds vs->ak vs c_->(∀d v u,d∈ds->RV K H d v->RelV v u->f u=ba d x)->c_.any f=ds.any λd=>ba d x
 |[],vs,c_,r,g,_=>by
  rw[ag] at r;subst r;cases g;rfl
 |d::ds,vs,c_,r,g,h=>by
  rw[ag] at r;obtain⟨v,y,rfl,j,l⟩:=r;cases g with
  |cons m n=>rw[List.any_cons,List.any_cons,h d v _ (ZZ) j m,tY l n λd' p t hd=>h d' p t (YA _ hd)]
theorem tZ{K:Za}:∀{ds:List D}{vs:List V}{c_:Zd}{y:Value},ag K H ds vs->ak vs c_->y∈c_->∃d v,d∈ds/\RV K H d v/\RelV v y
 |[],vs,c_,y,r,f,hy=>by rw[ag] at r;subst r;cases f;cases hy
 |d::ds,vs,c_,y,r,f,hy=>by
  rw[ag] at r;obtain⟨v,t,rfl,g,j⟩:=r;cases f with
  |cons l m=>
   rcases YB.mp hy with rfl | hy
   ·exact⟨d,v,ZZ,g,l⟩
   ·obtain⟨d',n,h1,p⟩:=tZ j m hy
    exact⟨d',n,YA _ h1,p⟩
def mr:D->Option Key
 |.int i=>some (.inl i)
 |.str x=>some (.inr x)
 |_=>none
theorem x4{K:Za}{d:D}{k:Key}{v:V}(h:mr d=some k)(r:RV K H d v):v=kV k:=by
 cases d with
 |int i=>cases h;exact RV.int_.1 r
 |str i=>cases h;exact RV.str_.1 r
 |_=>cases h
def eM(f:Zz)(k:Key):Option D:=(f.find? λg=>decide (g.1=k)).map (·.2)
theorem qo{k:Key}:∀{f:Zz}{g:List (Key×V)},g.map (·.1)=f.map (·.1)->(eL g k).isSome=(eM f k).isSome
 |[],[],_=>rfl
 |[],_::_,e=>by cases e
 |_::_,[],e=>by cases e
 |(l,m)::f,(j,n)::g,e=>by
  simp only[YL,List.cons.injEq] at e;obtain⟨e1,e2⟩:=e;subst e1;unfold eL eM;rw[XF,XF];by_cases q:j=k
  ·simp only[YV q,Option.map_some,Option.isSome_some]
  ·simp only[ZR q]
   exact qo e2
def nX:Option MO->Option (List (Key×D))
 |some (.dic f)=>some f
 |some (.rod f)=>some f
 |_=>none
theorem RM.dict{K:Za}{H:Hp}{M:MH}{a:Addr}{g:Zz}(m:RM K M H)(h:nX (M a)=some g):∃f:List (Key×V),Rd H a (.dK f)/\f.map (·.1)=g.map (·.1)/\ag K H (g.map (·.2)) (f.map (·.2)):=by
 cases e:M a with
 |none=>rw[e] at h;cases h
 |some o=>
  rw[e] at h;cases o with
  |dic xs=>cases h;obtain⟨f,q,r⟩:=m a _ e;exact⟨f,.inl q,r⟩
  |rod xs=>cases h;obtain⟨u,f,q,r⟩:=m a _ e;exact⟨f,.inr ⟨u,q⟩,r⟩
  |_=>cases h
def x5(x:D)(ds:List D):Bool:=ds.any λd=>ba d x
def mw{f:Type}(o:Option f)(Q:f->Prop):Prop:=match o with
 |some x=>Q x
 |none=>False
theorem vx{f:Type}{o:Option f}{Q:f->Prop}(h:mw o Q):∃x,o=some x/\Q x:=by
 cases o with
 |none=>exact Yh h
 |some x=>exact⟨x,rfl,h⟩
def zq(x y:D)(M:MH)(Q:Bool->Prop):Prop:=match y with
 |.tup ds=>(aR x=true/\aQ ds=true/\bm ds<=30)/\Q (x5 x ds)
 |.ref a=>match cx (M a) with
  |some ds=>(aR x=true/\aQ ds=true/\bm ds<=30)/\Q (x5 x ds)
  |none=>mw (nX (M a)) λf=>mw (mr x) λk=>Q (eM f k).isSome
 |.str j=>match x with
  |.str i=>Q (!(Builtin.Str.occurrences j i 0 j.length 1).isEmpty)
  |_=>False
 |_=>False
theorem IQ{s:Shared}{pins:Zc}{ρ:L2.St}{M:MH}{x y:D}{v u:V}{G O:Value}{Q:Bool->Prop}(I:ad X pins ρ H s)(hu:X.A.units+40<cLine)(R:RV X.K H x v)(S:RV X.K H y u)(m:RM X.K M H)(r:RelV v G)(T:RelV u O)(h:zq x y M Q):
  ∃k,Q k/\(∀(f:Zb),(∀l,ad X pins ρ H l->f (.bool k) l)->wpAny 'b' X.A (compareOp .In G O) f X.xe s)/\(∀(f:Zb),(∀l,ad X pins ρ H l->f (.bool (!k)) l)->wpAny 'b' X.A (compareOp .NotIn G O) f X.xe s):=by
 have z:∀{ds:List D}{vs:List V}{c_:Zd},aR x=true->aQ ds=true->bm ds<=30->ag X.K H ds vs->ak vs c_ ->
   (∀y,y∈c_.toArray->SeqAt.EqAt X.A.in1 s y G (rC X.K H ds x y))/\c_.toArray.any (rC X.K H ds x)=x5 x ds:=λ{ds vs c_} px U hd n p=>by
  refine⟨λy hy=>?_,?_⟩
  ·obtain⟨d,w',h1,J,L⟩:=tZ n p (by simpa using hy)
   rw[tX I U h1 J L];obtain⟨i,hi⟩:=XV h1
   have:=iG hi
   exact vw 30 d x I 'a' (by rw[units_in1];omega) (cw U hi) px J R L r
  ·rw[List.any_toArray]
   exact tY n p λd w' u h1 J L=>tX I U h1 J L
 cases y with
 |tup ds=>
  obtain⟨b,us,rfl,sq,n⟩:=RV.tup_.1 S;obtain⟨c_,p,tp,_⟩:=I.tuple sq;cases T;obtain⟨B,C⟩:=z h.1.1 h.1.2.1 h.1.2.2 n p;have tp:s.heap.IsTuple b c_.toArray:=tp;exact⟨_,h.2,λf q=>SeqAt.in_tupleAt _ tp B (by rw[C];exact q s I),λf q=>SeqAt.notIn_tupleAt _ tp B (by rw[C];exact q s I)⟩
 |ref b=>
  cases RV.ref_.1 S;cases T;have h:match cx (M b) with
   |some ds=>(aR x=true/\aQ ds=true/\bm ds<=30)/\Q (x5 x ds)
   |none=>mw (nX (M b)) λY=>mw (mr x) λk=>Q (eM Y k).isSome:=h
  split at h
  ·rename_i ds e1
   obtain⟨vs,sq,n⟩:=m.list e1;obtain⟨c_,p,tp,_⟩:=I.list sq;obtain⟨B,C⟩:=z h.1.1 h.1.2.1 h.1.2.2 n p;exact⟨_,h.2,λf q=>SeqAt.in_listAt _ tp.isList B (by rw[C];exact q s I),λf q=>SeqAt.notIn_listAt _ tp.isList B (by rw[C];exact q s I)⟩
  ·obtain⟨Y,e1,h⟩:=vx h
   obtain⟨k,e2,h⟩:=vx h;obtain⟨Z,e3,e4,_⟩:=m.dict e1
   have:=x4 e2 R
   subst this;have g:kX H b (kV k) (eL Z k):=.inl ⟨Z,k,e3,rfl,rfl⟩;refine⟨_,h,λf q=>Lm 'a' I g r λl W=>?_,λf q=>Ge 'a' I g r λl W=>?_⟩
   ·rw[qo e4];exact q l W
   ·rw[qo e4];exact q l W
 |str j=>
  cases RV.str_.1 S;cases x with
  |str i=>
   cases RV.str_.1 R;obtain⟨t,rfl⟩:=r;obtain⟨t',rfl⟩:=T;exact⟨_,h,λf q=>P.in_str (q s I),λf q=>notIn_str (q s I)⟩
  |_=>exact Yh h
 |_=>exact Yh h
def DG:nQ:=λx y M Q=>zq x y M λb=>Q (.bl b) M
def tq:nQ:=λx y M Q=>zq x y M λb=>Q (.bl (!b)) M
theorem IR(hu:X.A.units+40<cLine):iF X (compareOp .In) DG:=by
 intro x y v u H M Q g j f h pins s ρ n p I r l;obtain⟨b,q,h1,_⟩:=IQ I hu g j f r l h;exact h1 _ λt m=>⟨.bl b,H,m,rfl,aJ (RV.bl_.2 rfl) f q⟩
theorem Bf(hu:X.A.units+40<cLine):iF X (compareOp .NotIn) tq:=by
 intro x y v u H M Q g j f h pins s ρ n p I r l;obtain⟨b,q,_,h1⟩:=IQ I hu g j f r l h;exact h1 _ λt m=>⟨.bl (!b),H,m,rfl,aJ (RV.bl_.2 rfl) f q⟩
def uO:D->Bool
 |.non=>true
 |_=>false
def IS:D->Bool
 |.bl _=>true
 |_=>false
def x9:Bool->D->Bool
 |true,.bl a=>a
 |false,.bl a=>!a
 |_,_=>false
def IT(x y:D):Bool:=match y with
 |.non=>true
 |.bl _=>IS x
 |_=>false
def zr(x y:D):Bool:=match y with
 |.non=>uO x
 |.bl b=>x9 b x
 |_=>false
def DH:nQ:=λx y M Q=>IT x y=true/\Q (.bl (zr x y)) M
def tu:nQ:=λx y M Q=>IT x y=true/\Q (.bl (!zr x y)) M
theorem qp{K:Za}{x:D}{v:V}(r:RV K H x v):decide (v=.non)=uO x:=by
 cases x with
 |non=>cases RV.non_.1 r;rfl
 |tup ds=>obtain⟨a,xs,rfl,_⟩:=RV.tup_.1 r;rfl
 |bl _=>cases RV.bl_.1 r;rfl
 |int _=>cases RV.int_.1 r;rfl
 |str _=>cases RV.str_.1 r;rfl
 |ref _=>cases RV.ref_.1 r;rfl
 |ty _=>cases RV.ty_.1 r;rfl
theorem IU(a b:Bool):(a==b)=x9 b (.bl a):=by cases a<;>cases b<;>rfl
theorem IV:iF X (compareOp .Is) DH:=by
 intro x y v u H M Q f g j h;obtain⟨h1,l⟩:=h;cases y with
 |non=>
  cases RV.non_.1 g;exact fG H9 ⟨rfl,by rw[qp f];exact aJ (RV.bl_.2 rfl) j l⟩
 |bl b=>
  cases x with
  |bl a=>
   cases RV.bl_.1 f;cases RV.bl_.1 g;intro pins s ρ n p I r m;cases r;cases m;refine is_bool ?_;rw[IU];exact⟨.bl (x9 b (.bl a)),H,I,rfl,aJ (RV.bl_.2 rfl) j l⟩
  |_=>cases h1
 |_=>cases h1
theorem Bg:iF X (compareOp .IsNot) tu:=by
 intro x y v u H M Q f g j h;obtain⟨h1,l⟩:=h;cases y with
 |non=>
  cases RV.non_.1 g;exact fG FW ⟨rfl,by rw[qp f];exact aJ (RV.bl_.2 rfl) j l⟩
 |bl b=>
  cases x with
  |bl a=>
   cases RV.bl_.1 f;cases RV.bl_.1 g;intro pins s ρ n p I r m;cases r;cases m;refine isnot_bool ?_;rw[show(a != b) = !x9 b (.bl a) by cases a<;>cases b<;>rfl];exact⟨.bl (!x9 b (.bl a)),H,I,rfl,aJ (RV.bl_.2 rfl) j l⟩
  |_=>cases h1
 |_=>cases h1
def Fl:D->D->MH->DK->Prop
 |.int i,.int j,M,Q=>Q (.bl (decide (i<j))) M
 |.tup [.int a,.int b],.tup [.int c,.int d],M,Q=>Q (.bl (decide (a<c\/a=c/\b<d))) M
 |_,_,_,_=>False
theorem Lr(a b c d:Int):HT.lexLt [a,b] [c,d]=decide (a<c\/a=c/\b<d):=by
 rw[HT.l4,HT.l4,HT.mU];split
 ·rename_i e
  subst e;split
  ·rename_i e
   subst e;simp
  ·simp
 ·rename_i e
  simp[e]
theorem Fm{K:Za}{H:Hp}{a b:Int}{vs:List V}{c_:Zd}(r:ag K H [.int a,.int b] vs)(v:ak vs c_):IntsAre c_.toArray.toList [a,b]:=by
 rw[ag] at r;obtain⟨x,m,rfl,j,f⟩:=r;rw[ag] at f;obtain⟨y,n,rfl,l,g⟩:=f;rw[ag] at g;subst g;cases RV.int_.1 j;cases RV.int_.1 l;exact intsAre_of (ns:=[a,b]) v
theorem IW(hu:X.A.units+40<cLine):iF X (compareOp .Lt) Fl:=by
 intro x y v u H M Q f l m h;unfold Fl at h;split at h
 ·exact rA (g:=λi j=>decide (i<j)) Ka _ _ v u H _ _ f l m h
 ·obtain⟨p,us,rfl,sq,n⟩:=RV.tup_.1 f
  obtain⟨q,K,rfl,t,z⟩:=RV.tup_.1 l;intro pins s ρ L O I r B;obtain⟨c_,C,tp,_⟩:=I.tuple sq;obtain⟨n_,G,J,_⟩:=I.tuple t;cases r;cases B;refine HT.yT tp J (Fm n C) (Fm z G) 'a' ?_;rw[Lr];exact⟨.bl _,H,I,rfl,aJ (RV.bl_.2 rfl) m h⟩
 ·exact Yh h
def zt:CmpOp->nQ
 |.Eq=>DE
 |.NotEq=>DF
 |.Lt=>Fl
 |.LtE=>Bd λi j=>decide (i<=j)
 |.Gt=>Bd λi j=>decide (j<i)
 |.GtE=>Bd λi j=>decide (j<=i)
 |.Is=>DH
 |.IsNot=>tu
 |.In=>DG
 |.NotIn=>tq
theorem ya(hu:X.A.units+40<cLine)(op:CmpOp):iF X (compareOp op) (zt op):=by
 cases op with
 |Eq=>exact IO hu
 |NotEq=>exact IP hu
 |Lt=>exact IW hu
 |LtE=>exact rA Kb
 |Gt=>exact rA Kc
 |GtE=>exact rA Kd
 |Is=>exact IV
 |IsNot=>exact Bg
 |In=>exact IR hu
 |NotIn=>exact Bf hu
def xW(X:Cx):R2:=λx y H Q=>∀g f pins s ρ v u,ad X pins ρ H s->RelV x v->RelV y u->subscripted f false v u=operate [v,u] (getItem v u)->wpAny 'b' X.A (subscriptTail g f v u) (EP X pins ρ Q) X.xe s
theorem Ls:u5 X (xW X):=λf g pins s σ _ _ _ v u _ I j l h hs=>h f g pins s σ v u I j l hs
theorem ky{r:R2}{x y:V}{Q:VK}(h:u5 X r)(q:r x y H Q):xW X x y H Q:=λf g pins s ρ v u I j l hs=>h f g pins s ρ H x y v u Q I j l q hs
theorem GO{x y:V}{Q l:VK}(h:xW X x y H Q)(g:∀v H',Q v H'->l v H'):xW X x y H l:=λf j pins s ρ v u I m n hs=>aN (h f j pins s ρ v u I m n hs) λ_ _ ⟨v,H',p,r,q⟩=>⟨v,H',p,r,g v H' q⟩
theorem oV(hu:X.A.units+1<cLine):u5 X (λx y H Q=>∃a v,x=.ref a/\kX H a y (some v)/\Q v H):=by
 intro f j pins s σ H x y v u Q I l m h hs;obtain⟨a,z,rfl,g,q⟩:=h;cases l;exact tail_any (xf I g) PySem.F.slot_dict_getitem.lookup (AK hu I g m λr t n p=>⟨z,H,n,p,q⟩) hs
theorem lH{K:Za}:∀{f:Zz}{g:List (Key×V)}{k:Key}{d:D},g.map (·.1)=f.map (·.1)->ag K H (f.map (·.2)) (g.map (·.2))->eM f k=some d->∃v,eL g k=some v/\RV K H d v
 |[],_,_,_,_,_,h=>by cases h
 |(k',d')::f,[],_,_,e,_,_=>by cases e
 |(k',d')::f,(j,l)::g,k,d,e,r,h=>by
  simp only[YL,List.cons.injEq] at e;obtain⟨e1,e2⟩:=e;subst e1;simp only[YL] at r;rw[ag] at r;obtain⟨v,vs,z,m,n⟩:=r;cases z;unfold eM at h;unfold eL;rw[XF] at h ⊢;by_cases q:j=k
  ·simp only[YV q,Option.map_some] at h ⊢
   cases h;exact⟨l,rfl,m⟩
  ·simp only[ZR q] at h ⊢
   exact lH e2 n h
def bq{f:Type}(o:Option f)(Q:f->Prop):Prop:=match o with
 |some x=>Q x
 |none=>False
theorem bd{f:Type}{o:Option f}{Q:f->Prop}(h:bq o Q):∃x,o=some x/\Q x:=by
 cases o with
 |none=>exact Yh h
 |some x=>exact⟨x,rfl,h⟩
def Fn:nQ:=λx y M Q=>match x,y with
 |.tup ds,.int i=>bq (di ds i) λd=>Q d M
 |.str z,.int i=>z.length<=sizeLine/\bq (di z.cps.toList i) λc=>Q (.str ⟨#[c]⟩) M
 |.ref a,.int i=>match M a with
  |some (.lst ds)=>bq (di ds i) λd=>Q d M
  |some (.rol ds)=>bq (di ds i) λd=>Q d M
  |some (.dic f)=>bq (eM f (.inl i)) λd=>Q d M
  |some (.rod f)=>bq (eM f (.inl i)) λd=>Q d M
  |_=>False
 |.ref a,.str k=>match M a with
  |some (.dic f)=>bq (eM f (.inr k)) λd=>Q d M
  |some (.rod f)=>bq (eM f (.inr k)) λd=>Q d M
  |_=>False
 |_,_=>False
theorem vy{K:Za}{ds:List D}{vs:List V}{i:Int}{d:D}(f:ag K H ds vs)(h:di ds i=some d):∃v,di vs i=some v/\RV K H d v:=by
 unfold di at h ⊢;rw[←f.len];cases q:mV ds.length i with
 |none=>rw[q] at h;cases h
 |some j=>
  rw[q] at h;obtain⟨v,hv,r⟩:=cO f.p (show ds[j]?=some d from h);exact⟨v,hv,r⟩
theorem LJ(hu:X.A.units+40<cLine){x y:D}{v u:V}{M:MH}{Q:DK}(B:RV X.K H x v)(t:RV X.K H y u)(f:RM X.K M H)(h:Fn x y M Q):xW X v u H (lift X.K H Q):=by
 cases x with
 |tup ds=>cases y with
  |int i=>
   obtain⟨d,e1,q⟩:=bd h;obtain⟨a,vs,rfl,sq,g⟩:=RV.tup_.1 B;cases RV.int_.1 t;obtain⟨j,e2,r⟩:=vy g e1;exact ky Ij ⟨a,vs,i,j,rfl,rfl,sq,e2,aJ r f q⟩
  |_=>exact Yh h
 |str z=>cases y with
  |int i=>
   obtain⟨h1,h⟩:=h;obtain⟨c,e1,q⟩:=bd h;cases RV.str_.1 B;cases RV.int_.1 t;exact ky Ik ⟨z,i,c,rfl,rfl,h1,e1,aJ (RV.str_.2 rfl) f q⟩
  |_=>exact Yh h
 |ref a=>
  cases RV.ref_.1 B;cases y with
  |int i=>
   cases RV.int_.1 t;have h:match M a with
    |some (.lst ds)=>bq (di ds i) λd=>Q d M
    |some (.rol ds)=>bq (di ds i) λd=>Q d M
    |some (.dic l)=>bq (eM l (.inl i)) λd=>Q d M
    |some (.rod l)=>bq (eM l (.inl i)) λd=>Q d M
    |_=>False:=h
   split at h
   ·rename_i ds m
    obtain⟨d,e1,q⟩:=bd h;obtain⟨vs,e2,g⟩:=f a _ m;obtain⟨j,e3,r⟩:=vy g e1;exact ky xK ⟨a,vs,i,j,rfl,rfl,bx.of e2,e3,aJ r f q⟩
   ·rename_i ds m
    obtain⟨d,e1,q⟩:=bd h;obtain⟨vs,e2,g⟩:=f a _ m;obtain⟨j,e3,r⟩:=vy g e1;exact ky xK ⟨a,vs,i,j,rfl,rfl,.inl e2,e3,aJ r f q⟩
   ·rename_i l m
    obtain⟨d,e1,q⟩:=bd h;obtain⟨p,e2,e3,g⟩:=f a _ m;obtain⟨j,n,r⟩:=lH e3 g e1;exact ky (oV 'a') ⟨a,j,rfl,by rw[←n];exact kX.k (k:=.inl i) e2,aJ r f q⟩
   ·rename_i l m
    obtain⟨d,e1,q⟩:=bd h;obtain⟨C,p,e2,e3,g⟩:=f a _ m;obtain⟨j,n,r⟩:=lH e3 g e1;exact ky (oV 'a') ⟨a,j,rfl,by rw[←n];exact .inl ⟨p,.inl i,.inr ⟨C,e2⟩,rfl,rfl⟩,aJ r f q⟩
   ·exact Yh h
  |str k=>
   cases RV.str_.1 t;have h:match M a with
    |some (.dic l)=>bq (eM l (.inr k)) λd=>Q d M
    |some (.rod l)=>bq (eM l (.inr k)) λd=>Q d M
    |_=>False:=h
   split at h
   ·rename_i l m
    obtain⟨d,e1,q⟩:=bd h;obtain⟨p,e2,e3,g⟩:=f a _ m;obtain⟨j,n,r⟩:=lH e3 g e1;exact ky (oV 'a') ⟨a,j,rfl,by rw[←n];exact kX.k (k:=.inr k) e2,aJ r f q⟩
   ·rename_i l m
    obtain⟨d,e1,q⟩:=bd h;obtain⟨C,p,e2,e3,g⟩:=f a _ m;obtain⟨j,n,r⟩:=lH e3 g e1;exact ky (oV 'a') ⟨a,j,rfl,by rw[←n];exact .inl ⟨p,.inr k,.inr ⟨C,e2⟩,rfl,rfl⟩,aJ r f q⟩
   ·exact Yh h
  |_=>exact Yh h
 |_=>exact Yh h
def fP:Expr->Bool
 |.Slice _ _ _ _=>false
 |_=>true
theorem GP(h:fP b=true):xJ b:=by
 intro o i;cases b<;>first | rfl | (exact absurd (show false=true from h) YF)
theorem IX(hu:X.A.units+40<cLine){f g:WE}(ha:aP X a f)(hb:aP X b g)(hs:fP b=true):aP X (.Subscript a b pos) (rc Fn f g):=by
 intro σ M ρ H Q rs j h;refine bV (Kk Ls (bB a) (bB b) (GP hs)) ?_;show tW X a ρ H _;refine aO (two ha hb rs j h) λv l m=>?_
 show tW X b ρ l _;refine aO m λu z n=>?_
 obtain⟨k,x,y,M2,p,r,t,q⟩:=n;exact GO (LJ hu p r t q) λ_ _=>ce k
end
end DD
namespace HT
open PySem PySem.Spec PyProof.Rows L2
section
variable {prog:Zv}{w:World}{A:Around}{E:Zb}{s:Shared}
theorem pI{t sl:Addr}{a:Zl}{b c:Value}{lo hi:Zp}{Q:Zb}(ht:IsTup s.heap t a)(hs:s.heap.IsSliceOf sl b c .none)(f:IsPart b lo)(g:IsPart c hi)
  (hw:a0 a.size 0 lo=0/\a0 a.size a.size hi=a.size) (h:Q (.ref t) s):wpAny 'd' A (getItem (.ref t) (.ref sl)) Q E s:=by
 obtain⟨os,j,l,p⟩:=id hs;have n:s.TypeIs (.ref sl) "slice":=⟨os,j,l⟩;unfold getItem;try with_reducible refine Yj ?_
 first | refine Yb (Yc ?_) | skip
 refine Yb (wpAny_sequenceKey ht.typeIs 'c' ?_);refine Yb (wpAny_callSpecial?_slot (name:=Str.ofString "__getitem__") ht.typeIs PyProof.Rows.slot_tuple_getitem
  (wpAny_call_entry PyProof.Rows.slot_tuple_getitem ht.typeIs entry_tuple_getitem ?_ (args_tuple_getitem _ _)))
 show wpAny _ _ (Builtin.Tuple.tupleItemsOf (.ref t) >>= _) _ _ s;refine Yb (tupleItemsOf_ ht ?_);refine Yb (wpAny_typeOf n ?_);rw[if_pos 'c'];refine Yb (jr hs f g ?_);show wpAny _ _ (if(((a0 a.size 0 lo:Nat):Int)==0&&(1:Int)==1&&(a0 a.size a.size hi-a0 a.size 0 lo)==a.size)=true then _ else _) _ _ s;rw[if_pos (by rw[hw.1,hw.2];simp)];refine Yb (m:=Builtin.Tuple.tupleIsExact _) (Yb (wpAny_typeOf ht.typeIs (Yc ?_)));rw[if_pos 'c'];refine Yb (wpAny_rule ?_);exact Yc ⟨_,rfl,Yc h⟩
end
end HT
namespace DD
open PySem PySem.Spec PyProof.Rows L2
section
variable {X:Cx}{H:Hp}{e a b c o:Expr}{es:Zg}{pos:Pos}
theorem IY:u4 X (λx lo hi H Q=>∃z,x=.str z/\z.length<=sizeLine/\Q (.str (Txt.slice z lo hi)) H):=by
 intro pins s σ H x v B C lo hi sl Q I r hs y n h;obtain⟨z,rfl,hz,q⟩:=h;obtain⟨t,rfl⟩:=r;obtain⟨f,h1,g,m⟩:=hs;refine⟨"str",_,F.slot_str_getitem.lookup,typeIs_str _ _ _,?_⟩;cases y with
 |none=>cases n with
  |none=>exact wpAny_getItem_str_slice (l:=none) (u:=none) (st:=none) ⟨f,h1,g,m⟩ rfl (post_val_or_str ⟨ZY (Txt.slice_le z _ _) hz,λt' k=>⟨.str _,H,I.tok _,⟨t',rfl⟩,q⟩⟩)
  |int j u=>exact wpAny_getItem_str_slice (l:=none) (u:=some (j,u)) (st:=none) ⟨f,h1,g,m⟩ rfl (post_val_or_str ⟨ZY (Txt.slice_le z _ _) hz,λt' k=>⟨.str _,H,I.tok _,⟨t',rfl⟩,q⟩⟩)
 |int i p=>cases n with
  |none=>exact wpAny_getItem_str_slice (l:=some (i,p)) (u:=none) (st:=none) ⟨f,h1,g,m⟩ rfl (post_val_or_str ⟨ZY (Txt.slice_le z _ _) hz,λt' k=>⟨.str _,H,I.tok _,⟨t',rfl⟩,q⟩⟩)
  |int j u=>exact wpAny_getItem_str_slice (l:=some (i,p)) (u:=some (j,u)) (st:=none) ⟨f,h1,g,m⟩ rfl (post_val_or_str ⟨ZY (Txt.slice_le z _ _) hz,λt' k=>⟨.str _,H,I.tok _,⟨t',rfl⟩,q⟩⟩)
def Bh(X:Cx):V->Option Int->Option Int->Hp->VK->Prop:=λx lo hi H Q=>∀pins s ρ v f g sl,ad X pins ρ H s->RelV x v->s.heap.IsSliceOf sl f g .none->IsPart f lo->IsPart g hi ->
 ∃T id,typeLookup (.type T) "__getitem__" = pure (some (.builtin id))/\s.TypeIs v T/\wpAny 'b' X.A (getItem v (.ref sl)) (EP X pins ρ Q) X.xe s
theorem Lu:u4 X (Bh X):=λpins s σ _ _ v f g _ _ sl _ I j hs l m h=>h pins s σ v f g sl I j hs l m
theorem rD{r:V->Option Int->Option Int->Hp->VK->Prop}{x:V}{lo hi:Zp}{Q:VK}(h:u4 X r)(q:r x lo hi H Q):Bh X x lo hi H Q:=λpins s ρ v f g sl I j hs l m=>h pins s ρ H x v f g lo hi sl Q I j hs l m q
theorem DI{x:V}{lo hi:Zp}{Q f:VK}(h:Bh X x lo hi H Q)(g:∀v H',Q v H'->f v H'):Bh X x lo hi H f:=λpins s ρ v j l sl I m hs n p=>
 let⟨T,id,h1,h2,h3⟩:=h pins s ρ v j l sl I m hs n p;⟨T,id,h1,h2,aN h3 λ_ _ ⟨v,H',t,r,q⟩=>⟨v,H',t,r,g v H' q⟩⟩
def dr{f:Type}(xs:List f)(lo hi:Zp):List f:=(xs.drop (HT.a0 xs.length 0 lo)).take (HT.a0 xs.length xs.length hi-HT.a0 xs.length 0 lo)
theorem Bl{K:Za}{ds:List D}{vs:List V}(r:ag K H ds vs)(lo hi:Zp):ag K H (dr ds lo hi) (kW vs lo hi):=by
 unfold dr kW;rw[←r.len];exact ag.of (sZ _ (xL _ r.p))
def Lv(K:Za):V->Option Int->Option Int->Hp->VK->Prop:=λx lo hi H Q=>∃a xs,x=.ref a/\bn K H a xs/\(HT.a0 xs.length 0 lo=0/\HT.a0 xs.length xs.length hi=xs.length)/\Q (.ref a) H
theorem GQ:u4 X (Lv X.K):=by
 intro pins s σ H x v m n lo hi sl Q I f hs g j h;obtain⟨a,xs,rfl,hx,hw,q⟩:=h;cases f;obtain⟨c_,r,ht,hz⟩:=I.tuple hx;have l:c_.toArray.size=xs.length:=by rw[YI];exact r.length.symm
 refine⟨"tuple",_,PyProof.Rows.slot_tuple_getitem.lookup,ht.typeIs,?_⟩;exact HT.pI ht hs g j (by rw[l];exact hw) ⟨.ref a,H,I,rfl,q⟩
def IZ(x:D)(lo hi:Zp)(M:MH)(Q:DK):Prop:=match x with
 |.tup ds=>Q (.tup (dr ds lo hi)) M
 |.str z=>z.length<=sizeLine/\Q (.str (Txt.slice z lo hi)) M
 |.ref a=>bq (cx (M a)) λds=>∀p,M p=none->Q (.ref p) (ab M p (.lst (dr ds lo hi)))
 |_=>False
theorem LK{x:D}{v:V}{lo hi:Zp}{M:MH}{Q:DK}(j:RV X.K H x v)(f:RM X.K M H)(h:IZ x lo hi M Q):Bh X v lo hi H (lift X.K H Q):=by
 cases x with
 |tup ds=>
  obtain⟨a,vs,rfl,sq,g⟩:=RV.tup_.1 j;by_cases hw:HT.a0 ds.length 0 lo=0/\HT.a0 ds.length ds.length hi=ds.length
  ·have h:Q (.tup (dr ds lo hi)) M:=h
   have e:dr ds lo hi=ds:=by unfold dr;rw[hw.1,hw.2];simp
   rw[e] at h;exact rD GQ ⟨a,vs,rfl,sq,by rw[←g.len];exact hw,aJ j f h⟩
  refine rD Ii ⟨a,vs,rfl,sq,by rw[←g.len];exact hw,λp hp=>?_⟩;have k:=Kp.new (o:=.tup (kW vs lo hi)) hp;exact⟨k,.tup (dr ds lo hi),M,RV.tup_.2 ⟨p,_,rfl,bn.of aB,ag.mono k _ (Bl g lo hi)⟩,f.newH hp,h⟩
 |str z=>cases RV.str_.1 j;exact rD IY ⟨z,rfl,h.1,aJ (RV.str_.2 rfl) f h.2⟩
 |ref a=>
  cases RV.ref_.1 j;obtain⟨ds,e1,q⟩:=bd h;obtain⟨vs,sq,g⟩:=f.list e1;refine rD Gb ⟨a,vs,rfl,sq,λp hp=>?_⟩;have k:=Kp.new (o:=.lst (kW vs lo hi)) hp;exact⟨k,.ref p,_,RV.ref_.2 rfl,f.new (m:=.lst (dr ds lo hi)) hp ⟨_,aB,ag.mono k _ (Bl g lo hi)⟩,q p (f.fresh hp)⟩
 |_=>exact Yh h
def intD(x:D)(Q:Int->Prop):Prop:=match x with
 |.int i=>Q i
 |_=>False
theorem tw{x:D}{Q:Int->Prop}(h:intD x Q):∃i,x=.int i/\Q i:=by
 cases x with
 |int i=>exact⟨i,rfl,h⟩
 |_=>exact Yh h
abbrev WO:=DS->MH->(Option Int->MH->Prop)->Prop
def yb(X:Cx)(e:Option Expr):TO:=λρ H Q=>∀pins s,ad X pins ρ H s->wpAny 'b' X.A (evalPart e X.env) (λu f=>∃o H',ad X pins ρ H' f/\IsPart u o/\Q o H') X.xe s
theorem Ja(e:Option Expr):PO X e (yb X e):=λpins s _ _ _ I h=>h pins s I
def Bm(X:Cx)(e:Option Expr)(t:WO):Prop:=∀σ M ρ H Q,RS X.K H σ ρ->RM X.K M H->t σ M Q->yb X e ρ H λo H'=>Kp H H'/\∃M',RM X.K M' H'/\Q o M'
theorem DJ:Bm X none (λ_ M Q=>Q none M):=λσ M ρ H Q rs f q pins s I=>F8 pins s ρ H _ I ⟨Kp.refl H,M,f,q⟩
theorem DL{t:WE}(h:aP X e t):Bm X (some e) (λσ M Q=>t σ M λx M1=>intD x λi=>Q (some i) M1):=λσ M ρ H Q rs g q pins s I=>
 F9 (bB e) pins s ρ H _ I (aO (h σ M ρ H _ rs g q) λv n ⟨j,x,M1,l,m,f⟩=>by
  obtain⟨i,rfl,f⟩:=tw f;exact⟨i,RV.int_.1 l,j,M1,m,f⟩)
theorem vz{e:Option Expr}{ρ:L2.St}{Q g:Option Int->Hp->Prop}(h:yb X e ρ H Q)(f:∀o H',Q o H'->g o H'):yb X e ρ H g:=λpins s I=>aN (h pins s I) λ_ _ ⟨o,H',j,r,q⟩=>⟨o,H',j,r,f o H' q⟩
def Jb(f:WE)(g j:WO):WE:=λσ M Q=>f σ M λx M1=>g σ M1 λl M2=>j σ M2 λu m=>IZ x l u m Q
theorem Jc{j:WE}{m n:WO}{lo hi:Option Expr}{p2:Pos}(ha:aP X a j)(hl:Bm X lo m)(y:Bm X hi n):aP X (.Subscript a (.Slice lo hi none p2) pos) (Jb j m n):=by
 intro σ M ρ H Q rs z h;refine bV (CW Lu (bB a) (Ja lo) (Ja hi)) ?_;show tW X a ρ H _;refine aO (ha σ M ρ H _ rs z h) λv p B=>?_
 obtain⟨f,x,M1,C,G,J⟩:=B;show yb X lo ρ p _;refine vz (hl σ M1 ρ p _ (rs.mono f) G J) λl r K=>?_
 obtain⟨g,M2,L,O⟩:=K;show yb X hi ρ r _;refine vz (y σ M2 ρ r _ (rs.mono (f.trans g)) L O) λu T P=>?_
 obtain⟨t,U,R,S⟩:=P;exact DI (LK (RV.mono (g.trans t) x C) R S) λ_ _=>ce (f.trans (g.trans t))
def cW(X:Cx)(f:Value):List V->Hp->VK->Prop:=λvs H Q=>∀pins s ρ us,ad X pins ρ H s->ak vs us->wpAny 'b' X.A (call f us) (EP X pins ρ Q) X.xe s
theorem KA(f:Value):fF X f (cW X f):=λpins s σ _ _ us _ I r h=>h pins s σ us I r
theorem fH{f:Value}{r:List V->Hp->VK->Prop}{vs:List V}{Q:VK}(h:fF X f r)(q:r vs H Q):cW X f vs H Q:=λpins s ρ us I g=>h pins s ρ H vs us Q I g q
theorem yc{f:Value}{vs:List V}{Q j:VK}(h:cW X f vs H Q)(g:∀v H',Q v H'->j v H'):cW X f vs H j:=λpins s ρ us I l=>aN (h pins s ρ us I l) λ_ _ ⟨v,H',m,r,q⟩=>⟨v,H',m,r,g v H' q⟩
def fI(X:Cx)(f:Value)(r:aK):Prop:=∀ds vs H M Q,ag X.K H ds vs->RM X.K M H->r ds M Q->cW X f vs H (lift X.K H Q)
theorem iH{x:Str}{id:String}{r:aK}{t:WA}{p:Pos}(hc:fI X (.builtin id) r)(hg:Gl X x)(hm:X.mg x=none)(hv:bootBuiltins x=some (.builtin id))(hn:x ≠ "__name__")(f:(x==("__debug__" : Str))=false)(hs:av e=true)(g:es.all av=true)
  (ha:fZ X (e::es) t):aP X (.Call (.Name x p) (e::es) [] pos) (ik r t):=by
 intro σ M ρ H Q rs j h;refine bV (CP (KA _) hg hm hv (l6 (e::es)) hn f (bt hs) (da g)) ?_;show kr X (e::es) ρ H _;refine dc (ha σ M ρ H _ rs j h) λvs l m=>?_
 obtain⟨n,ds,M1,u,_,y,z⟩:=m;exact yc (hc ds vs l M1 Q u y z) λ_ _=>ce n
theorem mx{x:Str}{id:String}{r:aK}{t:WA}{p:Pos}(hc:fI X (.type id) r)(hg:Gl X x)(hm:X.mg x=none)(hv:bootBuiltins x=some (.type id))(hn:x ≠ "__name__")(f:(x==("__debug__" : Str))=false)(hs:av e=true)(g:es.all av=true)
  (ha:fZ X (e::es) t):aP X (.Call (.Name x p) (e::es) [] pos) (ik r t):=by
 intro σ M ρ H Q rs j h;refine bV (AD (KA _) hg hm hv (l6 (e::es)) hn f (bt hs) (da g)) ?_;show kr X (e::es) ρ H _;refine dc (ha σ M ρ H _ rs j h) λvs l m=>?_
 obtain⟨n,ds,M1,u,_,y,z⟩:=m;exact yc (hc ds vs l M1 Q u y z) λ_ _=>ce n
theorem dJ{K:Za}{d:D}{vs:List V}(r:ag K H [d] vs):∃v,vs=[v]/\RV K H d v:=by
 rw[ag] at r;obtain⟨v,j,rfl,g,f⟩:=r;rw[ag] at f;subst f;exact⟨v,rfl,g⟩
theorem zu{K:Za}{d d':D}{vs:List V}(r:ag K H [d,d'] vs):∃v f,vs=[v,f]/\RV K H d v/\RV K H d' f:=by
 rw[ag] at r;obtain⟨v,m,rfl,g,j⟩:=r;obtain⟨f,rfl,l⟩:=dJ j;exact⟨v,f,rfl,g,l⟩
def zv:aK:=λds M Q=>match ds with
 |[.str z]=>z.length<=sizeLine/\Q (.int z.length) M
 |[.tup xs]=>Q (.int xs.length) M
 |[.ref a]=>match M a with
  |some (.lst xs)=>Q (.int xs.length) M
  |some (.rol xs)=>Q (.int xs.length) M
  |some (.dic f)=>Q (.int f.length) M
  |some (.rod f)=>Q (.int f.length) M
  |_=>False
 |_=>False
theorem Bn:fF X (.builtin "len") (λxs H Q=>∃a f,xs=[V.ref a]/\Rd H a (.dK f)/\Q (.int f.length) H):=by
 rintro pins s σ H xs us Q I r ⟨a,f,rfl,ha,q⟩;obtain⟨u,rfl,g⟩:=vals1 r;cases g;exact Fe I ha λt l j=>⟨.int f.length,H,j,⟨t,rfl⟩,q⟩
theorem Jd:fI X (.builtin "len") zv:=by
 intro ds vs H M Q r f h;unfold zv at h;split at h
 ·obtain⟨v,rfl,j⟩:=dJ r
  cases RV.str_.1 j;exact fH u7 ⟨_,rfl,h.1,aJ (RV.int_.2 rfl) f h.2⟩
 ·obtain⟨v,rfl,j⟩:=dJ r
  obtain⟨a,us,rfl,sq,g⟩:=RV.tup_.1 j;exact fH jt ⟨a,us,rfl,.inr sq,aJ (RV.int_.2 (by rw[g.len])) f h⟩
 ·obtain⟨v,rfl,j⟩:=dJ r
  cases RV.ref_.1 j;split at h
  ·rename_i xs e1
   obtain⟨us,sq,g⟩:=f _ _ e1;exact fH jt ⟨_,us,rfl,.inl (bx.of sq),aJ (RV.int_.2 (by rw[g.len])) f h⟩
  ·rename_i xs e1
   obtain⟨us,sq,g⟩:=f _ _ e1;exact fH jt ⟨_,us,rfl,.inl (.inl sq),aJ (RV.int_.2 (by rw[g.len])) f h⟩
  ·rename_i p e1
   obtain⟨l,m,n,g⟩:=f _ _ e1;exact fH AO ⟨_,l,rfl,m,aJ (RV.int_.2 (by have:=congrArg List.length n;simp only[ZG] at this;rw[this])) f h⟩
  ·rename_i p e1
   obtain⟨t,l,m,n,g⟩:=f _ _ e1;exact fH Bn ⟨_,l,rfl,.inr ⟨t,m⟩,aJ (RV.int_.2 (by have:=congrArg List.length n;simp only[ZG] at this;rw[this])) f h⟩
  ·exact Yh h
 ·exact Yh h
def iI(x:D)(M:MH):Option String:=match x with
 |.non=>some "NoneType"
 |.bl _=>some "bool"
 |.int _=>some "int"
 |.str _=>some "str"
 |.tup _=>some "tuple"
 |.ref a=>match M a with
  |some (.lst _)=>some "list"
  |some (.dic _)=>some "dict"
  |_=>none
 |.ty _=>none
def pS(t T:String):Bool:=t==T||(t == "bool" && T == "int")
def kinds:List String:=["NoneType","bool","int","str","tuple","list","dict"]
theorem Bo:∀t∈kinds,∀T∈kinds,T ≠ "NoneType"->(if(Value.type t==Value.type T)=true then some true else if PySem.W.kitMeta T=true then(fastBuiltinMro t).map (·.contains (.type T)) else none)=some (pS t T):=by rfl'
def vA:List D->Option (List String)
 |[]=>some []
 |.ty T::r=>(vA r).map (T :: ·)
 |_=>none
def zw(T:String):Bool:=kinds.contains T&&T != "NoneType"
def oX:aK:=λds M Q=>match ds with
 |[x,.ty T]=>(T∈kinds/\T ≠ "NoneType")/\bq (iI x M) λt=>Q (.bl (pS t T)) M
 |[x,.tup ts]=>bq (vA ts) λf=>f.all zw=true/\bq (iI x M) λt=>Q (.bl (f.any (pS t))) M
 |_=>False
theorem yd{K:Za}:∀{ts:List D}{f:List String}{vs:List V},vA ts=some f->ag K H ts vs->vs=f.map V.ty
 |[],f,vs,h,r=>by cases h;rw[ag] at r;subst r;rfl
 |.ty T::ts,f,vs,h,r=>by
  rw[vA] at h;rw[ag] at r;obtain⟨v,l,rfl,g,j⟩:=r;cases q:vA ts with
  |none=>rw[q] at h;cases h
  |some m=>rw[q] at h;cases h;rw[yd q j,RV.ty_.1 g];rfl
 |.non::_,_,_,h,_=>by cases h
 |.bl _::_,_,_,h,_=>by cases h
 |.int _::_,_,_,h,_=>by cases h
 |.str _::_,_,_,h,_=>by cases h
 |.tup _::_,_,_,h,_=>by cases h
 |.ref _::_,_,_,h,_=>by cases h
theorem t3{K:Za}{t:String}(ht:t∈kinds):∀{f:List String}{us:Zd},f.all zw=true->ak (f.map V.ty) us->PySem.W.kitAny K (.type t) us=some (f.any (pS t))
 |[],_,_,r=>by cases r;rfl
 |T::f,_,h,r=>by
  cases r with
  |cons j l=>
   rw[XS,YY] at h;cases j;have g:=h.1;unfold zw at g;rw[YY] at g;have m:=AV K (Bo t ht T (by simpa using g.1) (by simpa using g.2));unfold PySem.W.kitAny;rw[m,List.any_cons];cases pS t T with
   |true=>rfl
   |false=>exact t3 ht h.2 l
theorem vB{x:D}{M:MH}{t:String}(h:iI x M=some t):t∈kinds:=by
 cases x with
 |ref a=>
  have h:(match M a with
   |some (.lst _)=>some "list"
   |some (.dic _)=>some "dict"
   |_=>none)=some t:=h
  split at h<;>first | (cases h;decide) | cases h
 |ty _=>cases h
 |_=>cases h;decide
theorem DM{s:Shared}{pins:Zc}{ρ:L2.St}{M:MH}{x:D}{v:V}{g c:Value}{t:String}{k:Bool}{Q:Zb}(I:ad X pins ρ H s)(f:RV X.K H x v)(j:RM X.K M H)(r:RelV v g)(h:iI x M=some t)(e:PySem.W.kitOne X.K (.type t) c=some k)
  (hq:∀tk,Q (.bool k) { s with toks:=tk }):wpAny 'b' X.A (call (.builtin "isinstance") [g,c]) Q X.xe s:=by
 cases x with
 |non=>cases h;cases RV.non_.1 f;exact fX I r .non e hq
 |bl b=>cases h;cases RV.bl_.1 f;exact fX I r (.bl b) e hq
 |int b=>cases h;cases RV.int_.1 f;exact fX I r (.int b) e hq
 |str b=>cases h;cases RV.str_.1 f;exact fX I r (.str b) e hq
 |ty b=>cases h
 |tup ds=>
  cases h;obtain⟨a,xs,rfl,sq,l⟩:=RV.tup_.1 f;obtain⟨_,_,tp,_⟩:=I.tuple sq;cases r;obtain⟨o,h1,m,_⟩:=tp;exact PySem.W.kia_one PySem.W.kitx_tuple I.kIn ⟨o,h1,m⟩ e (λz=>nomatch z) hq
 |ref a=>
  cases RV.ref_.1 f;have h:(match M a with
   |some (.lst _)=>some "list"
   |some (.dic _)=>some "dict"
   |_=>none)=some t:=h
  split at h
  ·rename_i e1;cases h
   obtain⟨us,sq,l⟩:=j _ _ e1;exact fX I r (.lst sq) e hq
  ·rename_i e1;cases h
   obtain⟨us,sq,_⟩:=j _ _ e1;exact fX I r (.dK sq) e hq
  ·cases h
theorem DN{s:Shared}{pins:Zc}{ρ:L2.St}{M:MH}{x:D}{v:V}{l:Value}{t:String}{k:Bool}{tp:Addr}{us:Zd}{Q:Zb}(I:ad X pins ρ H s)(f:RV X.K H x v)(m:RM X.K M H)(r:RelV v l)(h:iI x M=some t)
  (ht:IsTup s.heap tp us.toArray) (e:PySem.W.kitAny X.K (.type t) us=some k) (hq:∀tk,Q (.bool k) { s with toks:=tk }):wpAny 'b' X.A (call (.builtin "isinstance") [l,.ref tp]) Q X.xe s:=by
 obtain⟨⟨oc,od,p,K_⟩,h1,u,n,y⟩:=ht;obtain rfl:oc=.type "tuple":=u;obtain rfl:p=.seq us.toArray n:=y;cases x with
 |non=>cases h;cases RV.non_.1 f;cases r;exact PySem.W.kia_tup PySem.W.kitx_none I.kIn True.intro h1 e (λz=>nomatch z) hq
 |bl b=>cases h;cases RV.bl_.1 f;cases r;exact PySem.W.kia_tup PySem.W.kitx_bool I.kIn True.intro h1 e (λz=>nomatch z) hq
 |int b=>cases h;cases RV.int_.1 f;obtain⟨_,rfl⟩:=r;exact PySem.W.kia_tup PySem.W.kitx_int I.kIn True.intro h1 e (λz=>nomatch z) hq
 |str b=>cases h;cases RV.str_.1 f;obtain⟨_,rfl⟩:=r;exact PySem.W.kia_tup PySem.W.kitx_str I.kIn True.intro h1 e (λz=>nomatch z) hq
 |ty b=>cases h
 |tup ds=>
  cases h;obtain⟨a,xs,rfl,sq,B⟩:=RV.tup_.1 f;obtain⟨_,_,⟨o,g,j,_⟩,_⟩:=I.tuple sq;cases r;exact PySem.W.kia_tup PySem.W.kitx_tuple I.kIn ⟨o,g,j⟩ h1 e (λz=>nomatch z) hq
 |ref a=>
  cases RV.ref_.1 f;cases r;have h:(match M a with
   |some (.lst _)=>some "list"
   |some (.dic _)=>some "dict"
   |_=>none)=some t:=h
  split at h
  ·rename_i e1;cases h
   obtain⟨C,sq,B⟩:=m _ _ e1;obtain⟨_,_,_,_,_,g⟩:=I.lstM sq;exact PySem.W.kia_tup PySem.W.kitx_list I.kIn ⟨_,g,rfl⟩ h1 e (λz=>nomatch z) hq
  ·rename_i e1;cases h
   obtain⟨C,sq,_⟩:=m _ _ e1;obtain⟨_,_,_,_,o,es,G,g,j,_⟩:=yZ I.hok sq;exact PySem.W.kia_tup PySem.W.kitx_dict I.kIn ⟨o,g,j.1⟩ h1 e (λz=>nomatch z) hq
  ·cases h
theorem Bp:fI X (.builtin "isinstance") oX:=by
 intro ds vs H M Q r f h;unfold oX at h;split at h
 ·rename_i x T
  obtain⟨v,y,rfl,g,j⟩:=zu r;cases RV.ty_.1 j;obtain⟨t,e1,q⟩:=bd h.2;intro pins s ρ us I l;obtain⟨u,z,rfl,m,n⟩:=l.two;cases n;exact DM I g f m e1 (AV X.K (Bo t (vB e1) T h.1.1 h.1.2)) λtk=>⟨.bl _,H,I.tok tk,rfl,aJ (RV.bl_.2 rfl) f q⟩
 ·rename_i x ts
  obtain⟨v,y,rfl,g,j⟩:=zu r;obtain⟨G,B,h⟩:=bd h;obtain⟨t,e1,q⟩:=bd h.2;obtain⟨tp,xs,rfl,sq,C⟩:=RV.tup_.1 j;intro pins s ρ us I l;obtain⟨u,z,rfl,m,n⟩:=l.two;cases n;obtain⟨c_,p,ht,_⟩:=I.tuple sq;rw[yd B C] at p;exact DN I g f m e1 ht (t3 (vB e1) h.1 p) λtk=>⟨.bl _,H,I.tok tk,rfl,aJ (RV.bl_.2 rfl) f q⟩
 ·exact Yh h
def my:List D->Option (List Bool)
 |[]=>some []
 |.bl b::r=>(my r).map (b :: ·)
 |_=>none
theorem ye{K:Za}:∀{ds:List D}{bs:List Bool}{vs:List V},my ds=some bs->ag K H ds vs->vs=bs.map V.bl
 |[],bs,vs,h,r=>by rw[ag] at r;subst r;cases h;rfl
 |.bl b::ds,bs,vs,h,r=>by
  rw[ag] at r;obtain⟨v,j,rfl,f,g⟩:=r;cases RV.bl_.1 f;unfold my at h;cases q:my ds with
  |none=>rw[q] at h;cases h
  |some l=>rw[q] at h;cases h;rw[ye q g];rfl
def zx(f:List Bool->Bool):aK:=λds M Q=>match ds with
 |[.ref a]=>match M a with
  |some (.lst xs)=>bq (my xs) λbs=>Q (.bl (f bs)) M
  |_=>False
 |_=>False
theorem Je(hc:X.calm=true):fI X (.builtin "all") (zx λbs=>bs.all id):=by
 intro ds vs H M Q r f h;unfold zx at h;split at h
 ·obtain⟨v,rfl,g⟩:=dJ r
  cases RV.ref_.1 g;split at h
  ·rename_i xs e1
   obtain⟨bs,e2,q⟩:=bd h;obtain⟨us,sq,j⟩:=f _ _ e1
   have:=ye e2 j
   subst this;exact fH (C4 hc) ⟨_,bs,rfl,bx.of sq,aJ (RV.bl_.2 rfl) f q⟩
  ·exact Yh h
 ·exact Yh h
def Fo(f:Int->Int->Int):aK:=λds M Q=>match ds with
 |[.int i,.int j]=>Q (.int (f i j)) M
 |_=>False
theorem Jf(hc:X.calm=true):fI X (.builtin "min") (Fo λi j=>if j<i then j else i):=by
 intro ds vs H M Q r f h;unfold Fo at h;split at h
 ·obtain⟨v,m,rfl,g,l⟩:=zu r
  cases RV.int_.1 g;cases RV.int_.1 l;exact fH (Az hc) ⟨_,_,rfl,aJ (RV.int_.2 rfl) f h⟩
 ·exact Yh h
def rE:aK:=λds M Q=>match ds with
 |[.tup xs]=>Q (.tup xs) M
 |[.ref a]=>bq (cx (M a)) λxs=>Q (.tup xs) M
 |_=>False
theorem DO:fI X (.type "tuple") rE:=by
 intro ds vs H M Q r g h;unfold rE at h;split at h
 ·obtain⟨v,rfl,f⟩:=dJ r
  obtain⟨a,us,rfl,sq,j⟩:=RV.tup_.1 f;exact fH mX ⟨a,us,rfl,.inr ⟨sq,aJ f g h⟩⟩
 ·obtain⟨v,rfl,f⟩:=dJ r
  cases RV.ref_.1 f;obtain⟨xs,e1,q⟩:=bd h;obtain⟨us,sq,j⟩:=g.list e1;refine fH mX ⟨_,us,rfl,.inl ⟨sq,λp hp=>?_⟩⟩;have k:=Kp.new (o:=.tup us) hp;exact⟨k,.tup xs,M,RV.tup_.2 ⟨p,_,rfl,bn.of aB,ag.mono k _ j⟩,g.newH hp,q⟩
 ·exact Yh h
def oY:aK:=λds M Q=>match ds with
 |[.tup xs]=>∀p,M p=none->Q (.ref p) (ab M p (.lst xs))
 |[.ref a]=>bq (cx (M a)) λxs=>∀p,M p=none->Q (.ref p) (ab M p (.lst xs))
 |_=>False
theorem yf:fI X (.type "list") oY:=by
 intro ds vs H M Q r f h;unfold oY at h;split at h
 ·rename_i xs
  obtain⟨v,rfl,g⟩:=dJ r;obtain⟨a,us,rfl,sq,j⟩:=RV.tup_.1 g;refine fH nK ⟨a,us,rfl,.inr sq,λp hp=>?_⟩;have k:=Kp.new (o:=.lst us) hp;exact⟨k,.ref p,_,RV.ref_.2 rfl,f.new (m:=.lst xs) hp ⟨us,aB,ag.mono k _ j⟩,h p (f.fresh hp)⟩
 ·obtain⟨v,rfl,g⟩:=dJ r
  cases RV.ref_.1 g;obtain⟨xs,e1,q⟩:=bd h;obtain⟨us,sq,j⟩:=f.list e1;refine fH nK ⟨_,us,rfl,.inl sq,λp hp=>?_⟩;have k:=Kp.new (o:=.lst us) hp;exact⟨k,.ref p,_,RV.ref_.2 rfl,f.new (m:=.lst xs) hp ⟨us,aB,ag.mono k _ j⟩,q p (f.fresh hp)⟩
 ·exact Yh h
inductive Bi where
 |len | isinst | all | min | tuple
 deriving DecidableEq
def Jg:Bi->aK
 |.len=>zv
 |.isinst=>oX
 |.all=>zx λbs=>bs.all id
 |.min=>Fo λi j=>if j<i then j else i
 |.tuple=>rE
def rG:Bi->Str
 |.len=>"len"
 |.isinst=>"isinstance"
 |.all=>"all"
 |.min=>"min"
 |.tuple=>"tuple"
theorem Jh(b:Bi)(hc:X.calm=true){t:WA}{p:Pos}(hg:Gl X (rG b))(hm:X.mg (rG b)=none)(hs:av e=true)(f:es.all av=true)(ha:fZ X (e::es) t):aP X (.Call (.Name (rG b) p) (e::es) [] pos) (ik (Jg b) t):=by
 cases b with
 |len=>exact iH Jd hg hm PySem.boot_len 'c' 'c' hs f ha
 |isinst=>exact iH Bp hg hm PyProof.Rows.boot_isinstance 'c' 'c' hs f ha
 |all=>exact iH (Je hc) hg hm (by rfl') 'c' 'c' hs f ha
 |min=>exact iH (Jf hc) hg hm PyProof.Rows.boot_min 'c' 'c' hs f ha
 |tuple=>exact mx DO hg hm (by rfl') 'c' 'c' hs f ha
end
section
variable {X:Cx}{H:Hp}{e a b c o:Expr}{es:Zg}{pos:Pos}
def bW:Expr->Bool
 |.Call (.Name _ _) [] [] _=>false
 |_=>true
theorem oZ{env:Env}{f:Str}{w:Sem Value}(h:bW o=true):attributeBase o f env w=w:=by
 unfold attributeBase;split
 ·exact absurd (show false=true from h) YF
 ·rfl
theorem qr{env:Env}{p:Pos}:∀{es:Zg},es.all av=true->(backTo p (starEach es env)).all (λx=>!x.1)=true
 |[],_=>rfl
 |e::es,h=>by
  rw[XS,YY] at h;rw[bt h.1];show(true&&(backTo p (starEach es env)).all (λx=>!x.1))=true;rw[qr h.2];rfl
def mW(X:Cx)(id:String):V->List V->Hp->VK->Prop:=λx xs H Q=>∀pins s ρ v us,ad X pins ρ H s->RelV x v->ak xs us->wpAny 'b' X.A (call (.builtin id) (v::us)) (EP X pins ρ Q) X.xe s
theorem KB(id:String):AE X id (mW X id):=λpins s σ _ _ _ v us _ I r f h=>h pins s σ v us I r f
theorem o0{id:String}{r:V->List V->Hp->VK->Prop}{x:V}{xs:List V}{Q:VK}(h:AE X id r)(q:r x xs H Q):mW X id x xs H Q:=λpins s ρ v us I f g=>h pins s ρ H x xs v us Q I f g q
theorem yg{id:String}{x:V}{xs:List V}{Q f:VK}(h:mW X id x xs H Q)(g:∀v H',Q v H'->f v H'):mW X id x xs H f:=λpins s ρ v us I j l=>aN (h pins s ρ v us I j l) λ_ _ ⟨v,H',m,r,q⟩=>⟨v,H',m,r,g v H' q⟩
abbrev nY:=D->List D->MH->DK->Prop
def vC(X:Cx)(id:String)(r:nY):Prop:=∀x ds v vs H M Q,RV X.K H x v->ag X.K H ds vs->RM X.K M H->r x ds M Q->mW X id v vs H (lift X.K H Q)
inductive Rc where
 |str | lst | dic | int
def zy:Rc->D->MH->Prop
 |.str,.str _,_=>True
 |.int,.int _,_=>True
 |.lst,.ref a,M=>(cx (M a)).isSome=true
 |.dic,.ref a,M=>match M a with
  |some (.dic _)=>True
  |_=>False
 |_,_,_=>False
def Bq:Rc->String
 |.str=>"str"
 |.lst=>"list"
 |.dic=>"dict"
 |.int=>"int"
theorem yh{K:Za}{M:MH}{c:Rc}{x:D}{v:V}(r:RV K H x v)(m:RM K M H)(h:zy c x M):Fc K (Bq c) v H:=by
 cases c with
 |int=>cases x with
  |int z=>cases RV.int_.1 r;rfl
  |_=>exact Yh h
 |str=>cases x with
  |str z=>cases RV.str_.1 r;rfl
  |_=>exact Yh h
 |lst=>cases x with
  |ref a=>
   cases RV.ref_.1 r;obtain⟨ds,e⟩:=Option.isSome_iff_exists.mp h;obtain⟨vs,sq,_⟩:=m.list e;exact .inl ⟨rfl,vs,sq⟩
  |_=>exact Yh h
 |dic=>cases x with
  |ref a=>
   cases RV.ref_.1 r;have h:match M a with
    |some (.dic _)=>True
    |_=>False:=h
   split at h
   ·rename_i e
    obtain⟨f,q,_⟩:=m a _ e;exact .inr (.inr (.inl ⟨rfl,.inl ⟨f,q⟩⟩))
   ·exact Yh h
  |_=>exact Yh h
def vD(c:Rc)(r:nY)(f:WE)(t:WA):WE:=λσ M Q=>f σ M λx M1=>zy c x M1/\t σ M1 λds M2=>r x ds M2 Q
theorem nZ{c:Rc}{name:Str}{id:String}{r:nY}{f:WE}{t:WA}{o_:Pos}(y:PlainAttrs (Bq c))(slot:Slot (Bq c) name id)(z:typeOf (.builtin id)=pure (.type "method_descriptor"))(hm:vC X id r)(B:aP X o f)(ha:fZ X (e::es) t)
  (hb:bW o=true) (hs:av e=true) (g:es.all av=true) (hl:es.length<20) (C:(o_.endLine==pos.line)=true):aP X (.Call (.Attribute o name o_) (e::es) [] pos) (vD c r f t):=by
 intro σ M ρ H Q rs G h;refine bV (Km y slot z (KB id) (bB o) (l6 (e::es)) (oZ hb) ?_ C (bt hs) (da g)) ?_
 ·rw[qr (es:=e::es) (by rw[XS,hs,g];rfl)]
  show(true&&true&&decide ((e::es).length+0+0<30))=true;rw[Bool.and_self,Bool.true_and];exact YV (by rw[YJ];omega)
 ·show tW X o ρ H _
  refine aO (B σ M ρ H _ rs G h) λv j J=>?_
  obtain⟨l,x,M1,m,n,p⟩:=J;refine⟨yh m n p.1,?_⟩;show kr X (e::es) ρ j _;refine dc (ha σ M1 ρ j _ (rs.mono l) n p.2) λvs K L=>?_
  obtain⟨u,ds,M2,O,_,P,R⟩:=L;exact yg (hm x ds v vs K M2 Q (RV.mono u x m) O P R) λ_ _=>ce (l.trans u)
theorem lI{c:Rc}{name:Str}{id:String}{r:nY}{f:WE}{o_:Pos}(m:PlainAttrs (Bq c))(slot:Slot (Bq c) name id)(n:typeOf (.builtin id)=pure (.type "method_descriptor"))(hm:vC X id r)(p:aP X o f)
  (hb:bW o=true) (t:(o_.endLine==pos.line)=true):aP X (.Call (.Attribute o name o_) [] [] pos) (vD c r f nR):=by
 intro σ M ρ H Q rs u h;refine bV (Il m slot n (KB id) (bB o) (oZ hb) t) ?_;show tW X o ρ H _;refine aO (p σ M ρ H _ rs u h) λv y z=>?_
 obtain⟨B,x,M1,g,j,l⟩:=z;refine⟨yh g j l.1,?_⟩;exact yg (hm x [] v [] y M1 Q g ag.nil j l.2) λ_ _=>ce B
def o6:nY:=λx ds M Q=>match x,ds with
 |.ref a,[d]=>match M a with
  |some (.lst xs)=>xs.length<sizeLine/\Q .non (ab M a (.lst (xs++[d])))
  |_=>False
 |_,_=>False
theorem t4:vC X "list.append" o6:=by
 intro x ds v vs H M Q l r f h;unfold o6 at h;split at h
 ·rename_i a d
  obtain⟨g,rfl,n⟩:=dJ r;cases RV.ref_.1 l;split at h
  ·rename_i xs e1
   obtain⟨us,sq,j⟩:=f _ _ e1;have k:=Kp.put (o':=.lst (us++[g])) sq trivial;exact o0 AI ⟨a,us,g,rfl,rfl,sq,by rw[←j.len];exact h.1,k,.non,_,RV.non_.2 rfl,f.put (m:=.lst (xs++[d])) sq trivial ⟨_,aB,ag.of (bA (ag.mono k _ j).p (.cons (RV.mono k _ n) .nil))⟩,h.2⟩
  ·exact Yh h
 ·exact Yh h
def o7:nY:=λx ds M Q=>match x,ds with
 |.ref a,[.ref b]=>match M a,M b with
  |some (.lst xs),some (.lst ys)=>xs.length+ys.length<=sizeLine/\Q .non (ab M a (.lst (xs++ys)))
  |_,_=>False
 |_,_=>False
theorem t5:vC X "list.extend" o7:=by
 intro x ds v vs H M Q n r f h;unfold o7 at h;split at h
 ·rename_i a b
  obtain⟨y,rfl,t⟩:=dJ r;cases RV.ref_.1 n;cases RV.ref_.1 t;split at h
  ·rename_i xs ys e1 e2
   obtain⟨us,sq,g⟩:=f _ _ e1;obtain⟨j,u,l⟩:=f _ _ e2;have k:=Kp.put (o':=.lst (us++j)) sq trivial;exact o0 AJ ⟨a,b,us,j,rfl,rfl,sq,u,by rw[←g.len,←l.len];exact h.1,k,.non,_,RV.non_.2 rfl,f.put (m:=.lst (xs++ys)) sq trivial ⟨_,aB,ag.of (bA (ag.mono k _ g).p (ag.mono k _ l).p)⟩,h.2⟩
  ·exact Yh h
 ·exact Yh h
theorem vE{f g:Type}{F:f->g->Prop}:∀{l:List f}{m:List g}(i:Nat),Paired F l m->Paired F (l.eraseIdx i) (m.eraseIdx i)
 |_,_,_,.nil=>.nil
 |_,_,0,.cons _ t=>t
 |_,_,i+1,.cons q t=>.cons q (vE i t)
theorem xh{f g:Type}{F:f->g->Prop}{l:List f}{m:List g}(h:Paired F l m):Paired F l.dropLast m.dropLast:=by
 rw[List.dropLast_eq_take,List.dropLast_eq_take,←iD h];exact sZ _ h
def zz:nY:=λx ds M Q=>match x,ds with
 |.ref a,[.int i]=>match M a with
  |some (.lst xs)=>(0<=i/\i<1000000)/\bq xs[i.toNat]? λd=>Q d (ab M a (.lst (xs.eraseIdx i.toNat)))
  |_=>False
 |.ref a,[]=>match M a with
  |some (.lst xs)=>bq xs[xs.length-1]? λd=>Q d (ab M a (.lst xs.dropLast))
  |_=>False
 |_,_=>False
theorem Br:vC X "list.pop" zz:=by
 intro x ds v vs H M Q t r g h;unfold zz at h;split at h
 ·rename_i a i
  obtain⟨C,rfl,y⟩:=dJ r;cases RV.ref_.1 t;cases RV.int_.1 y;split at h
  ·rename_i xs e1
   obtain⟨us,sq,f⟩:=g _ _ e1;obtain⟨d,l,q⟩:=bd h.2;obtain⟨u,j,n⟩:=cO f.p l;have k:=Kp.put (o':=.lst (us.eraseIdx i.toNat)) sq trivial;have G:i.toNat<us.length:=(YD.1 j).1;have z:seqIndex? i us.length=some i.toNat:=by
    unfold seqIndex?;have h1:¬i<0:=by omega
    have B:i<(us.length:Int):=by omega
    simp[h1,h.1.1,B]
   exact o0 CY ⟨a,us,i,i.toNat,u,rfl,rfl,sq,by omega,by omega,z,j,k,d,_,RV.mono k _ n,g.put (m:=.lst (xs.eraseIdx i.toNat)) sq trivial ⟨_,aB,ag.of (vE _ (ag.mono k _ f).p)⟩,q⟩
  ·exact Yh h
 ·rename_i a
  obtain rfl:vs=[]:=by rw[ag] at r;exact r
  cases RV.ref_.1 t;split at h
  ·rename_i xs e1
   obtain⟨us,sq,f⟩:=g _ _ e1;obtain⟨d,l,q⟩:=bd h;obtain⟨u,j,n⟩:=cO f.p l;have k:=Kp.put (o':=.lst us.dropLast) sq trivial;exact o0 Im ⟨a,us,u,rfl,rfl,sq,by rw[←f.len];exact j,k,d,_,RV.mono k _ n,g.put (m:=.lst xs.dropLast) sq trivial ⟨_,aB,ag.of (xh (ag.mono k _ f).p)⟩,q⟩
  ·exact Yh h
 ·exact Yh h
def rH:nY:=λx ds M Q=>match x,ds with
 |.ref a,[]=>match M a with
  |some (.lst _)=>Q .non (ab M a (.lst []))
  |_=>False
 |_,_=>False
theorem vF:vC X "list.clear" rH:=by
 intro x ds v vs H M Q g r f h;unfold rH at h;split at h
 ·rename_i a
  obtain rfl:vs=[]:=by rw[ag] at r;exact r
  cases RV.ref_.1 g;split at h
  ·rename_i xs e1
   obtain⟨us,sq,j⟩:=f _ _ e1;have k:=Kp.put (o':=.lst []) sq trivial;exact o0 CZ ⟨a,us,rfl,rfl,sq,k,.non,_,RV.non_.2 rfl,f.put (m:=.lst []) sq trivial ⟨_,aB,ag.nil⟩,h⟩
  ·exact Yh h
 ·exact Yh h
def dZ(i:Int):Nat:=Builtin.Int.intBits i
def uP:nY:=λx ds M Q=>match x,ds with
 |.int i,[]=>Q (.int (dZ i)) M
 |_,_=>False
theorem GR:AE X "int.bit_length" (λx xs H Q=>∃i,x=.int i/\xs=[]/\Q (.int (dZ i)) H):=by
 rintro pins s σ H x xs v us Q I f g ⟨i,rfl,rfl,q⟩;obtain⟨t,rfl⟩:=f;have j:=g.zero;subst j;exact call_int_bit_length ⟨.int (dZ i),H,I.tok _,⟨_,rfl⟩,q⟩
theorem yi:vC X "int.bit_length" uP:=by
 intro x ds v vs H M Q f r g h;unfold uP at h;split at h
 ·rename_i i
  obtain rfl:vs=[]:=by rw[ag] at r;exact r
  cases RV.int_.1 f;exact o0 GR ⟨i,rfl,rfl,aJ (RV.int_.2 rfl) g h⟩
 ·exact Yh h
def Ji:nY:=λx ds M Q=>match x,ds with
 |.ref a,[y]=>bq (cx (M a)) λxs=>(aR y=true/\aQ xs=true/\bm xs<=30)/\bq (xs.findIdx? λd=>ba d y) λ(j:Nat)=>Q (.int (j:Int)) M
 |_,_=>False
inductive Mt where
 |append | extend | pop | clear | bits
 deriving DecidableEq
def rJ:Mt->Str
 |.append=>"append"
 |.extend=>"extend"
 |.pop=>"pop"
 |.clear=>"clear"
 |.bits=>"bit_length"
def vG:Mt->Rc
 |.append=>.lst
 |.extend=>.lst
 |.pop=>.lst
 |.clear=>.lst
 |.bits=>.int
def Bs:Mt->nY
 |.append=>o6
 |.extend=>o7
 |.pop=>zz
 |.clear=>rH
 |.bits=>uP
theorem GS(hu:X.A.units+40<cLine)(m:Mt){l:WE}{t:WA}{o_:Pos}(f:aP X o l)(ha:fZ X (e::es) t)(hb:bW o=true)(hs:av e=true)(g:es.all av=true)(hl:es.length<20)(j:(o_.endLine==pos.line)=true):
  aP X (.Call (.Attribute o (rJ m) o_) (e::es) [] pos) (vD (vG m) (Bs m) l t):=by
 cases m with
 |append=>exact nZ (c:=.lst) PySem.F.plainAttrs_list PySem.F.slot_list_append PySem.F.type_list_append t4 f ha hb hs g hl j
 |extend=>exact nZ (c:=.lst) PySem.F.plainAttrs_list PySem.F.slot_list_extend PySem.F.type_list_extend t5 f ha hb hs g hl j
 |pop=>exact nZ (c:=.lst) PySem.F.plainAttrs_list PySem.F.slot_list_pop PySem.F.type_list_pop Br f ha hb hs g hl j
 |clear=>exact nZ (c:=.lst) PySem.F.plainAttrs_list PySem.F.slot_list_clear PySem.F.type_list_clear vF f ha hb hs g hl j
 |bits=>exact nZ (c:=.int) PySem.F.plainAttrs_int PySem.F.slot_int_bit_length PySem.F.type_int_bit_length yi f ha hb hs g hl j
theorem DP(hu:X.A.units+40<cLine)(m:Mt){j:WE}{o_:Pos}(f:aP X o j)(hb:bW o=true)(g:(o_.endLine==pos.line)=true):
  aP X (.Call (.Attribute o (rJ m) o_) [] [] pos) (vD (vG m) (Bs m) j nR):=by
 cases m with
 |append=>exact lI (c:=.lst) PySem.F.plainAttrs_list PySem.F.slot_list_append PySem.F.type_list_append t4 f hb g
 |extend=>exact lI (c:=.lst) PySem.F.plainAttrs_list PySem.F.slot_list_extend PySem.F.type_list_extend t5 f hb g
 |pop=>exact lI (c:=.lst) PySem.F.plainAttrs_list PySem.F.slot_list_pop PySem.F.type_list_pop Br f hb g
 |clear=>exact lI (c:=.lst) PySem.F.plainAttrs_list PySem.F.slot_list_clear PySem.F.type_list_clear vF f hb g
 |bits=>exact lI (c:=.int) PySem.F.plainAttrs_int PySem.F.slot_int_bit_length PySem.F.type_int_bit_length yi f hb g
end
section
variable {X:Cx}{H:Hp}{e a b c o i v:Expr}{es:Zg}{pos:Pos}
def zA(t:WE):WE:=λσ M Q=>t σ M λx M1=>intD x λi=>Q (.int (-i-1)) M1
theorem bitNot_eq(i:Int):Builtin.bitNot i = -i-1:=by unfold Builtin.bitNot;omega
theorem GT{t:WE}(h:aP X a t):aP X (.UnaryOp .Invert a pos) (zA t):=by
 intro σ M ρ H Q rs g q;refine bV (J8 HZ (bB a)) ?_;show tW X a ρ H _;refine aO (h σ M ρ H _ rs g q) λv p j=>?_
 obtain⟨l,x,M1,m,n,f⟩:=j;obtain⟨i,rfl,f⟩:=tw f;exact⟨i,RV.int_.1 m,l,.int (-i-1),M1,RV.int_.2 (congrArg V.int (bitNot_eq i)),n,f⟩
def putD(g:Zz)(k:Key)(d:D):List (Key×D):=if(g.any λf=>decide (f.1=k))=true then g.map (λf=>if f.1=k then(f.1,d) else f) else g++[(k,d)]
theorem DQ{j n:Type}{l:List (Key×j)}{m:List (Key×n)}(e:m.map (·.1)=l.map (·.1))(k:Key):(m.any λg=>decide (g.1=k))=l.any λg=>decide (g.1=k):=by
 have f:∀{p:Type}(l:List (Key×p)),(l.any λg=>decide (g.1=k))=(l.map (·.1)).any λq=>decide (q=k):=λl=>by rw[List.any_map];rfl
 rw[f,f,e]
theorem map_put{K:Za}{k:Key}{d:D}{v:V}(r:RV K H d v):∀{l:Zz}{m:List (Key×V)},m.map (·.1)=l.map (·.1)->ag K H (l.map (·.2)) (m.map (·.2)) ->
  ((m.map λf=>if f.1=k then(f.1,v) else f).map (·.1)=(l.map λf=>if f.1=k then(f.1,d) else f).map (·.1))/\ag K H ((l.map λf=>if f.1=k then(f.1,d) else f).map (·.2)) ((m.map λf=>if f.1=k then(f.1,v) else f).map (·.2))
 |[],[],_,_=>⟨rfl,.nil⟩
 |[],_::_,e,_=>by cases e
 |_::_,[],e,_=>by cases e
 |(y,B)::l,(p,C)::m,e,g=>by
  simp only[YL,List.cons.injEq] at e;obtain⟨e1,e2⟩:=e;subst e1;simp only[YL] at g;rw[ag] at g;obtain⟨G,J,z,t,u⟩:=g;cases z;obtain⟨j,n⟩:=map_put r (k:=k) e2 u;by_cases q:p=k
  ·simp only[YL,if_pos q]
   exact⟨by rw[j],.cons r n⟩
  ·simp only[YL,if_neg q]
   exact⟨by rw[j],.cons t n⟩
theorem Jj{K:Za}{k:Key}{d:D}{v:V}{l:Zz}{m:List (Key×V)}(r:RV K H d v)(e:m.map (·.1)=l.map (·.1))(f:ag K H (l.map (·.2)) (m.map (·.2))):(putK m k v).map (·.1)=(putD l k d).map (·.1)/\ag K H ((putD l k d).map (·.2)) ((putK m k v).map (·.2)):=by
 unfold putK putD;rw[DQ e k];split
 ·exact map_put r e f
 ·refine⟨by rw[ZN,ZN,e];rfl,?_⟩
  rw[ZN,ZN];exact ag.of (bA f.p (.cons r .nil))
def DR(o i d:D)(M:MH)(Q:MH->Prop):Prop:=match o with
 |.ref a=>match M a with
  |some (.lst xs)=>intD i λk=>bq (mV xs.length k) λj=>Q (ab M a (.lst (xs.set j d)))
  |some (.dic f)=>bq (mr i) λk=>f.length<sizeLine/\Q (ab M a (.dic (putD f k d)))
  |_=>False
 |_=>False
def pW(X:Cx):yG:=λo i v H Q=>∀pins s ρ f g u,ad X pins ρ H s->RelV o f->RelV i g->RelV v u->wpAny 'b' X.A (setItem f g u) (λ_ j=>∃H',ad X pins ρ H' j/\Q H') X.xe s
theorem KC:CD X (pW X):=λpins s σ _ _ _ _ f g u _ I j l m h=>h pins s σ f g u I j l m
theorem yj{o i v:V}{Q f:Hp->Prop}(h:pW X o i v H Q)(g:∀H',Q H'->f H'):pW X o i v H f:=λpins s ρ j l u I m n p=>aN (h pins s ρ j l u I m n p) λ_ _ ⟨H',r,q⟩=>⟨H',r,g H' q⟩
theorem Lw(hu:X.A.units+40<cLine){x y d:D}{o i v:V}{M:MH}{Q:MH->Prop}(O:RV X.K H x o)(B:RV X.K H y i)(C:RV X.K H d v)(f:RM X.K M H)(h:DR x y d M Q):pW X o i v H λH'=>Kp H H'/\∃M',RM X.K M' H'/\Q M':=by
 cases x with
 |ref a=>
  cases RV.ref_.1 O;have h:match M a with
   |some (.lst xs)=>intD y λk=>bq (mV xs.length k) λj=>Q (ab M a (.lst (xs.set j d)))
   |some (.dic g)=>bq (mr y) λk=>g.length<sizeLine/\Q (ab M a (.dic (putD g k d)))
   |_=>False:=h
  split at h
  ·rename_i xs e1
   obtain⟨k,rfl,h⟩:=tw h;obtain⟨j,e2,q⟩:=bd h;cases RV.int_.1 B;obtain⟨us,sq,l⟩:=f _ _ e1;have kk:=Kp.put (o':=.lst (us.set j v)) sq trivial;intro pins s ρ G J u I n r t;exact set_list pins s ρ H _ _ _ G J u _ I n r t ⟨a,us,k,j,rfl,rfl,sq,by rw[←l.len];exact e2,kk,_,f.put (m:=.lst (xs.set j d)) sq trivial ⟨_,aB,ag.of (vb (RV.mono kk _ C) j (ag.mono kk _ l).p)⟩,q⟩
  ·rename_i g e1
   obtain⟨k,e2,hl,q⟩:=bd h
   have:=x4 e2 B
   subst this;obtain⟨z,sq,L,l⟩:=f _ _ e1;have kk:=Kp.put (o':=.dK (putK z k v)) sq trivial;obtain⟨p1,p2⟩:=Jj (k:=k) (RV.mono kk _ C) L (ag.mono kk _ l);have P:z.length<sizeLine:=by have:=congrArg List.length L;simp only[ZG] at this;omega
   intro pins s ρ G J u I n r t;cases n;exact AL 'a' I (.inl ⟨z,k,sq,rfl,P,rfl⟩) r t λS R=>⟨_,R,kk,_,f.put (m:=.dic (putD g k d)) sq trivial ⟨_,aB,p1,p2⟩,q⟩
  ·exact Yh h
 |_=>exact Yh h
theorem Jk{tg:Expr}{n:Nat}{env:Env}(h:dX v=true):swapsWithSole [tg] v n env=pure false:=vj h
def vH(f g j:WE):WS:=λE σ M=>f σ M λd M1=>g σ M1 λx M2=>j σ M2 λy l=>DR x y d l λm=>E.nx σ m
theorem Bt{l m n:WE}{p:Pos}(hu:X.A.units+40<cLine)(hv:aP X v l)(C:aP X o m)(hi:aP X i n)(hc:dX v=true)(hs:fP i=true):ku X (.Assign [.Subscript o i p] v pos) (vH l m n):=by
 intro σ M ρ H E rs G h;refine dG (Av (bB v) (Au (bB o) (bB i) KC (by intro w;cases i<;>first | rfl | exact absurd (show false=true from hs) YF)) (Jk hc) (by cases v<;>rfl) rfl) ?_;show tW X v ρ H _;refine aO (hv σ M ρ H _ rs G h) λu r J=>?_
 obtain⟨f,d,M1,K,L,O⟩:=J;show tW X o ρ r _;refine aO (C σ M1 ρ r _ (rs.mono f) L O) λw' t P=>?_
 obtain⟨g,x,M2,R,S,T⟩:=P;show tW X i ρ t _;refine aO (hi σ M2 ρ t _ (rs.mono (f.trans g)) S T) λz H3 U=>?_
 obtain⟨j,y,M3,V,W,Y⟩:=U;refine yj (Lw hu (RV.mono j x R) V (RV.mono (g.trans j) d K) W Y) λH4 Z=>?_
 obtain⟨B,M4,m4,q4⟩:=Z;exact⟨f.trans (g.trans (j.trans B)),σ,M4,rs.mono (f.trans (g.trans (j.trans B))),m4,q4⟩
abbrev WP:=DS->MH->(List (D×D)->MH->Prop)->Prop
def wPs:List (WE×WE)->WP
 |[],_,M,Q=>Q [] M
 |(tk,f)::r,σ,M,Q=>tk σ M λx M1=>f σ M1 λy M2=>wPs r σ M2 λps g=>Q ((x,y)::ps) g
inductive Fp (X:Cx):List (Option Expr)->List Expr->List (WE×WE)->Prop where
 |nil:Fp X [] [] []
 |cons {k v:Expr}{ks:List (Option Expr)}{vs:Zg}{tk tv:WE}{r:List (WE×WE)}:aP X k tk->aP X v tv->Fp X ks vs r->Fp X (some k::ks) (v::vs) ((tk,tv)::r)
def Fq:List (D×D)->Option (List (Key×D))
 |[]=>some []
 |(k,d)::r=>(mr k).bind λq=>(Fq r).map ((q,d) :: ·)
def Jl(g:Zz)(more:Zz):List (Key×D):=more.foldl (λf_ f=>putD f_ f.1 f.2) g
def Kv(ts:List (WE×WE)):WE:=λσ M Q=>∀p,M p=none->wPs ts σ (ab M p (.dic [])) λds M2=>match M2 p with
 |some (.dic [])=>bq (Fq ds) λf=>Q (.ref p) (ab M2 p (.dic (Jl [] f)))
 |_=>False
theorem DT:aP X (.Dict [] [] pos) (λ_ M Q=>∀p,M p=none->Q (.ref p) (ab M p (.dic []))):=by
 intro σ M ρ H Q rs f q;refine bV C1 ?_;intro p hp;exact⟨Kp.new hp,.ref p,_,RV.ref_.2 rfl,f.new (m:=.dic []) hp ⟨[],aB,rfl,.nil⟩,q p (f.fresh hp)⟩
end
abbrev pT:=Addr->Str->Prop
theorem io{K:Za}{H:Hp}{f:Str}:∀{fs:List (Str×D)}{a:List (Str×V)},a.map (·.1)=fs.map (·.1)->ag K H (fs.map (·.2)) (a.map (·.2)) ->
  (fs.lookup f=none->a.lookup f=none)/\∀d,fs.lookup f=some d->∃v,a.lookup f=some v/\RV K H d v
 |[],[],_,_=>⟨λ_=>rfl,λ_ h=>nomatch h⟩
 |[],_::_,e,_=>by cases e
 |_::_,[],e,_=>by cases e
 |(m,n)::fs,(b,c)::a,e,r=>by
  simp only[YL,List.cons.injEq] at e;obtain⟨e1,e2⟩:=e;subst e1;simp only[YL] at r;rw[ag] at r;obtain⟨v,vs,z,g,j⟩:=r;cases z;obtain⟨h1,l⟩:=io (f:=f) e2 j;cases q:f==b with
  |true=>simp only[XI,q];exact⟨(λz=>nomatch z),λd z=>by cases z;exact⟨c,rfl,g⟩⟩
  |false=>simp only[XI,q];exact⟨h1,l⟩
def fJ(f:Str)(v:D):List (Str×D)->List (Str×D)
 |[]=>[(f,v)]
 |(g,x)::r=>if g=f then(g,v)::r else(g,x)::fJ f v r
theorem yk{K:Za}{H:Hp}{f:Str}{d:D}{v:V}(b:RV K H d v):∀{fs:List (Str×D)}{a:List (Str×V)},a.map (·.1)=fs.map (·.1)->ag K H (fs.map (·.2)) (a.map (·.2)) ->
  (c0 f v a).map (·.1)=(fJ f d fs).map (·.1)/\ag K H ((fJ f d fs).map (·.2)) ((c0 f v a).map (·.2))
 |[],[],_,_=>⟨rfl,.cons b .nil⟩
 |[],_::_,e,_=>by cases e
 |_::_,[],e,_=>by cases e
 |(m,n)::fs,(g,p)::a,e,r=>by
  simp only[YL,List.cons.injEq] at e;obtain⟨e1,e2⟩:=e;subst e1;simp only[YL] at r;rw[ag] at r;obtain⟨t,vs,z,j,c⟩:=r;cases z;obtain⟨h1,l⟩:=yk (f:=f) b e2 c;unfold c0 fJ;by_cases q:g=f
  ·rw[if_pos q,if_pos q];exact⟨by simp only[YL,e2],.cons b c⟩
  ·rw[if_neg q,if_neg q];exact⟨by simp only[YL,h1],.cons j l⟩
section
variable {X:Cx}{H:Hp}{e a b c o i v:Expr}{es:Zg}{pos:Pos}
def DU(O:pT)(x:D)(f:Str)(M:MH)(Q:D->Prop):Prop:=match x with
 |.ref a=>match M a with
  |some (.ins C fs)=>O C f/\bq (fs.lookup f) Q
  |_=>False
 |_=>False
def DV(O:pT)(f:Str)(t:WE):WE:=λσ M Q=>t σ M λx M1=>DU O x f M1 λd=>Q d M1
theorem GU{O:pT}{f:Str}{t:WE}(j:∀C f,O C f->fW X.K C/\cN X.K C f)(h:aP X o t)(hb:bW o=true):aP X (.Attribute o f pos) (DV O f t):=by
 intro σ M ρ H Q rs m q;refine bV (Ib (bB o) (oZ hb)) ?_;show tW X o ρ H _;refine aO (h σ M ρ H _ rs m q) λv L n=>?_
 obtain⟨p,x,M1,r,l,g⟩:=n;unfold DU at g;try dsimp only at g
 split at g
 ·rename_i a
  split at g
  ·rename_i C fs e1
   obtain⟨d,e2,u⟩:=bd g.2;cases RV.ref_.1 r;obtain⟨dx,y,sq,z,B⟩:=l _ _ e1;obtain⟨G,e3,J⟩:=(io z B).2 d e2;exact⟨a,C,dx,y,G,rfl,sq,(j C f g.1).1,(j C f g.1).2,e3,p,d,M1,J,l,u⟩
  ·exact Yh g
 ·exact Yh g
def zB(O:pT)(x:D)(f:Str)(d:D)(M:MH)(Q:MH->Prop):Prop:=match x with
 |.ref a=>match M a with
  |some (.ins C fs)=>(O C f/\fs.length<1000)/\Q (ab M a (.ins C (fJ f d fs)))
  |_=>False
 |_=>False
def zC(O:pT)(f:Str)(g j:WE):WS:=λE σ M=>j σ M λd M1=>g σ M1 λx M2=>zB O x f d M2 λl=>E.nx σ l
theorem DW{O:pT}{f:Str}{r t:WE}{p:Pos}(y:∀C f,O C f->fW X.K C/\cN X.K C f)(J:aP X o r)(hv:aP X v t):ku X (.Assign [.Attribute o f p] v pos) (zC O f r t):=by
 intro σ M ρ H E rs L q;refine dG (Ic (bB o) (bB v) (by cases v<;>rfl)) ?_;show tW X v ρ H _;refine aO (hv σ M ρ H _ rs L q) λu z P=>?_
 obtain⟨j,d,M1,R,S,T⟩:=P;show tW X o ρ z _;refine aO (J σ M1 ρ z _ (rs.mono j) S T) λY Z U=>?_
 obtain⟨l,x,M2,V,B,g⟩:=U;unfold zB at g;dsimp only at g;split at g
 ·rename_i a
  split at g
  ·rename_i C fs e1
   cases RV.ref_.1 V;obtain⟨dx,n,sq,G,W⟩:=B _ _ e1;have kk:=Kp.put (o':=.ins C dx (c0 f u n)) sq trivial;obtain⟨p1,p2⟩:=yk (f:=f) (RV.mono (l.trans kk) d R) G (ag.mono kk _ W);have hl:n.length<1000:=by have:=congrArg List.length G;simp only[ZG] at this;omega
   exact⟨a,C,dx,n,rfl,sq,(y C f g.1.1).1,(y C f g.1.1).2,hl,j.trans (l.trans kk),σ,_,rs.mono (j.trans (l.trans kk)),B.put (m:=.ins C (fJ f d fs)) sq trivial ⟨dx,_,aB,p1,p2⟩,g.2⟩
  ·exact Yh g
 ·exact Yh g
def cc(C:Addr)(sp:aK):aK:=λds M Q=>∀x,M x=none->sp (.ref x::ds) (ab M x (.ins C [])) λd M2=>uO d=true/\Q (.ref x) M2
def KD(P:Zv)(w:World)(K:Za)(mg:Ze)(base:Heap)(k:Nat)(x:Str)(sp:aK):Prop:=
 ∃C f fd ps g,Mk K C f/\mg x=some (.ref C)/\Binds K fd ps []/\eJ P w K mg base ko k f fd ps (gq K g)/\sp=cc C g
theorem DX{k:Nat}{x:Str}{sp:aK}{t:WA}{p:Pos}(F:KD X.prog X.w X.K X.mg X.base k x sp)(r:bU (k+1) X.A)(hg:Gl X x)(u:(x==("__debug__" : Str))=false)(hs:av e=true)(y:es.all av=true)(ha:fZ X (e::es) t):
  aP X (.Call (.Name x p) (e::es) [] pos) (ik sp t):=by
 obtain⟨C,f,fd,ps,Z,M0,hm,hb,B,rfl⟩:=F;intro σ M ρ H Q rs G q;refine bV (F5 M0 B r hg hm hb .nil uJ (l6 (e::es)) u (bt hs) (da y)) ?_;show kr X (e::es) ρ H _;refine dc (ha σ M ρ H _ rs G q) λvs J L=>?_
 obtain⟨O,ds,M1,P,l1,g,R⟩:=L;intro z dx hz j S;have T:=Kp.new (o:=.own z) j;have l:(upd J dx (.own z)) z=none:=by rw[aM S.symm];exact hz
 have U:=Kp.new (o:=.ins C dx []) l;have kk:=T.trans U;rw[ZA];refine⟨.ref z::ds,ab M1 z (.ins C []),_,.cons (RV.ref_.2 rfl) (ag.mono kk _ P),(g.newH j).new (m:=.ins C []) l ⟨dx,[],aB,rfl,.nil⟩,R z (g.fresh hz),λd M' v H' n V W Y=>⟨?_,O.trans (kk.trans V),.ref z,M',RV.ref_.2 rfl,Y,n.2⟩⟩
 have:=qp W
 rw[n.1] at this;exact XR this
abbrev pU:=Addr->Str->Option aK
def bQ(P:Zv)(w:World)(K:Za)(mg:Ze)(base:Heap)(k:Nat)(C:Addr)(m:Str)(sp:aK):Prop:=
 ∃f fd ps,fW K C/\CN K C m f/\Binds K fd ps []/\eJ P w K mg base ko k f fd ps (gq K sp)
def zD(X:Cx)(T:pU):Prop:=∀C m sp,T C m=some sp->∃k,bQ X.prog X.w X.K X.mg X.base k C m sp/\bU k X.A
def uQ(x:D)(m:Str)(M:MH)(Q:Addr->Prop):Prop:=match x with
 |.ref a=>match M a with
  |some (.ins C fs)=>fs.lookup m=none/\Q C
  |_=>False
 |_=>False
def rK(T:pU)(m:Str)(f:WE)(t:WA):WE:=λσ M Q=>f σ M λx M1=>uQ x m M1 λC=>bq (T C m) λsp=>t σ M1 λds M2=>sp (x::ds) M2 Q
theorem Jm{env:Env}{p:Pos}(h:es.all av=true)(hl:es.length<20):methodCallForm (es.length+([]:List Keyword).length) (backTo p (starEach es env)) (backToKw p (keywordEach [] env))=true:=by
 unfold methodCallForm;rw[qr h];show(true&&true&&decide (es.length+0+0<30))=true;rw[Bool.and_self,Bool.true_and];exact YV 'a'
theorem Fr {env:Env} {m:Str} {o_:Pos} (hb:bW o = true) (h:es.all av = true) (hl:es.length < 20) (j:(o_.endLine == pos.line) = true):eval (.Call (.Attribute o m o_) es [] pos) env = (do
   let g ← eval o env
   standAt o_.atName
   let (f,first) ← holding [g] (getMethod g m (do return (← importBound o env).getD true))
   callWith pos f first (backTo pos (starEach es env)) (backToKw pos (keywordEach [] env))):=by
 rw [arm_eval_Call,oZ hb]
 unfold methodCall calleeOf methodCallPos
 rw [Jm h hl]
 simp [j]
theorem DY{T:pU}{m:Str}{l:WE}{t:WA}{o_:Pos}(G:zD X T)(J:aP X o l)(ha:fZ X (e::es) t)(hb:bW o=true)(hs:av e=true)(n:es.all av=true)(hl:es.length<19)(K:(o_.endLine==pos.line)=true):
  aP X (.Call (.Attribute o m o_) (e::es) [] pos) (rK T m l t):=by
 intro σ M ρ H Q rs L h pins s I;have O:(e::es).all av=true:=by rw[XS,hs,n];rfl
 refine PySem.W.methodCall_KW (aN (J σ M ρ H _ rs L h pins s I) λu s1 P=>?_) (Fr hb O (by rw[YJ];omega) K);obtain⟨v,R,p,j,⟨y,x,M1,S,z,g⟩⟩:=P;unfold uQ at g;dsimp only at g;split at g
 ·rename_i a
  split at g
  ·rename_i C fs e1
   obtain⟨hn,g⟩:=g;obtain⟨sp,U,g⟩:=bd g;cases RV.ref_.1 S;obtain rfl:u=Value.ref a:=j;obtain⟨dx,gs,sq,V,Y⟩:=z _ _ e1;obtain⟨k,⟨f,fd,ps,c,hm,Z,F⟩,hr⟩:=G C m sp U
   ·refine qS p sq c hm ((io V Y).1 hn) ?_
    refine PySem.W.callWith_K (first:=[.ref a]) (h₀:=X.base) I.ok.mod.kin hm.kp (aN (ha σ M1 ρ R _ (rs.mono y) z g pos pins s1 p) λus s2 NZ=>?_) (bt hs) (da n);obtain⟨vs,H2,B,r,⟨k2,ds,M2,r2,l2,m2,q2⟩⟩:=NZ;refine⟨B.kIn,?_⟩;refine uY (us:=.ref a::us) (vs:=.ref a::vs) F hr Z .nil uJ B (.cons rfl r) ?_;rw[ZA];exact⟨.ref a::ds,M2,Q,.cons (RV.ref_.2 rfl) r2,m2,q2,λd M' v H' qd kq j mm=>⟨y.trans (k2.trans kq),d,M',j,mm,qd⟩⟩
  ·exact Yh g
 ·exact Yh g
theorem Bu{T:pU}{m:Str}{n:WE}{o_:Pos}(r:zD X T)(t:aP X o n)(hb:bW o=true)(y:(o_.endLine==pos.line)=true):
  aP X (.Call (.Attribute o m o_) [] [] pos) (rK T m n nR):=by
 intro σ M ρ H Q rs z h pins s I;refine PySem.W.methodCall_KW (aN (t σ M ρ H _ rs z h pins s I) λu s1 B=>?_) (Fr hb rfl 'c' y);obtain⟨v,Y,j,l,⟨G,x,M1,J,p,g⟩⟩:=B;unfold uQ at g;dsimp only at g;split at g
 ·rename_i a
  split at g
  ·rename_i C fs e1
   obtain⟨hn,g⟩:=g;obtain⟨sp,K,g⟩:=bd g;cases RV.ref_.1 J;obtain rfl:u=Value.ref a:=l;obtain⟨dx,Z,sq,L,O⟩:=p _ _ e1;obtain⟨k,⟨f,fd,ps,c,hm,P,F⟩,R⟩:=r C m sp K;refine qS j sq c hm ((io L O).1 hn) ?_;refine PySem.W.callWith_K0 (first:=[.ref a]) j.kIn hm.kp (uY (us:=[.ref a]) (vs:=[.ref a]) F R P .nil uJ j (.cons rfl .nil) ?_);exact⟨[.ref a],M1,Q,.cons (RV.ref_.2 rfl) .nil,p,g,λd M' v H' S U l V=>⟨G.trans U,d,M',l,V,S⟩⟩
  ·exact Yh g
 ·exact Yh g
end
section
variable {prog:Zv}{w:World}{A:Around}{E:Zb}{s:Shared}
theorem jJ{it t:Addr}{i:Nat}{b:Zl}{x:Value}{Q:Zb}(hit:s.heap.IsTupleIter it t i)(ht:s.heap.IsTuple t b)(hx:b[i]?=some x)
  (c:∀h',h'.IsTupleIter it t (i+1)->Heap.SameBut it s.heap h'->Q x { s with heap:=h' }):wpAny 'd' A (Builtin.SmallTypes.nextOf (.ref it)) Q E s:=by
 obtain⟨o,a,hc,hd⟩:=id hit;obtain⟨j,f,_,l,g⟩:=ht;unfold Builtin.SmallTypes.nextOf;refine Yb (wpAny_callSpecial?_slot (name:=Str.ofString "__next__") hit.typeIs F.slot_tuple_iterator_next (wpAny_call_entry F.slot_tuple_iterator_next hit.typeIs F.entry_tuple_iterator_next ?_ (F.args_tuple_iterator_next_1 _)));show wpAny _ _ (field (.ref it) 0 >>= _) _ _ s;refine Yb (wpAny_field a hd (x:=.ref t) rfl ?_);show wpAny _ _ (if(Value.ref t==Value.none)=true then _ else _) _ _ s;rw[if_neg (show ¬((Value.ref t==Value.none)=true) from YF)];show wpAny _ _ (field (.ref it) 1 >>= _) _ _ s;refine Yb (wpAny_field a hd (x:=.int i 0) rfl ?_);show wpAny _ _ (seqItems? (.ref t) >>= _) _ _ s;refine Yb (wpAny_seqItems f g ?_);simp only[YW,hx];refine Yb (wpAny_setField a hd (by simp) (Yc ⟨x,rfl,Yc (c _ ⟨_,Heap.get?_update_self _ a (Obj.isFreed_of_fields (Obj.data_mapFields hd _)),(Obj.cls_mapFields ..).trans hc,?_⟩ (Heap.SameBut.update ..))⟩));rw[Obj.data_mapFields hd];simp[rawInt]
theorem jK{it t:Addr}{i:Nat}{c:Zl}{Q:Zb}(f:A.handled=none)(hit:s.heap.IsTupleIter it t i)(ht:s.heap.IsTuple t c)(hx:c[i]?=none)
  (g:∀h' e,Heap.ExtBut it s.heap h'->(∃o,h'.get? e=some o/\o.cls=.type "StopIteration")->E (.ref e) { s with heap:=h' }):wpAny 'd' A (Builtin.SmallTypes.nextOf (.ref it)) Q E s:=by
 obtain⟨o,b,hc,hd⟩:=id hit;obtain⟨n,j,_,p,l⟩:=ht;unfold Builtin.SmallTypes.nextOf;refine Yb (wpAny_callSpecial?_slot (name:=Str.ofString "__next__") hit.typeIs F.slot_tuple_iterator_next (wpAny_call_entry F.slot_tuple_iterator_next hit.typeIs F.entry_tuple_iterator_next ?_ (F.args_tuple_iterator_next_1 _)));show wpAny _ _ (field (.ref it) 0 >>= _) _ _ s;refine Yb (wpAny_field b hd (x:=.ref t) rfl ?_);show wpAny _ _ (if(Value.ref t==Value.none)=true then _ else _) _ _ s;rw[if_neg (show ¬((Value.ref t==Value.none)=true) from YF)];show wpAny _ _ (field (.ref it) 1 >>= _) _ _ s;refine Yb (wpAny_field b hd (x:=.int i 0) rfl ?_);show wpAny _ _ (seqItems? (.ref t) >>= _) _ _ s;refine Yb (wpAny_seqItems j l ?_);simp only[YW,hx];refine Yb (wpAny_rule (Yb (wpAny_setField b hd (by simp) ?_)));show wpAny _ _ (newExc (.type "StopIteration") [] >>= _) _ _ _;refine Yb ?_;simp only[newExc,newTuple];refine Yb (wpAny_newObj_type ?_ (by size_fits));refine Yb (m:=firstArgMember _ _) (wpAny_of_eq (a:=Value.none) (by first | rfl | (simp only[firstArgMember];rfl)) (wpAny_newObj_type ?_ (by size_fits)));simp only[raiseNew];refine Yb (wpAny_handled ?_);first | rw[show A.in1.handled=none from f] | rw[f]
 refine Yb (Yc (wpAny_throw (g _ _ (((Heap.SameBut.update ..).extBut.push _).push _) ⟨_,Yg _ rfl,rfl⟩)))
theorem pV(c:A.handled=none)(it t:Addr)(f:t≠it)(a:Zl):Draws prog w A it [it,t] a.size (λi v=>a[i]?=some v) (λi h=>h.IsTupleIter it t i/\h.IsTuple t a) where
 live:=λ_ _ st=>let⟨o,ho,_⟩:=st.1;⟨o,ho⟩
 frame:=λ_ _ _ st hk=>⟨st.1.at λo e=>hk it (by simp) o e,let⟨o,ho,r⟩:=st.2;⟨o,hk t (by simp) o ho,r⟩⟩
 item:=λi s Q E hi st g=>jJ st.1 st.2 (x:=a[i]) (by simp[hi]) λh' j b=>g _ h' s.toks (by simp[hi]) ⟨j,st.2.extBut b.extBut f⟩ b
 done:=λs Q E st l=>jK c st.1 st.2 (by simp) l
theorem Bv(l:Addr)(a:Zl)(n:Nat)(f:Zm)(sl:Zn):
  Meets (Builtin.«enumerate.__new__» ⟨[.type "enumerate",.ref l],[]⟩) (λ_ R s=>s.heap.get? l=some { cls:=.type "tuple",dict:=f,data:=.seq a n,slots:=sl } /\
   R (.ok (.ret (.ref (s.heap.push { cls:=.type "tuple_iterator",data:=.fields #[.ref l,.int 0 0] }).objs.size)))
    { s with heap:=(s.heap.push { cls:=.type "tuple_iterator",data:=.fields #[.ref l,.int 0 0] }).push { cls:=.type "enumerate",data:=.fields #[.none,.bool false,.ref s.heap.objs.size,rawInt 0,.none,.none] } }):=by
 refine .of_wp λprog w A R s h=>?_
 obtain⟨hp,g,d,tk,os⟩:=s;obtain⟨hl,h⟩:=h;have j:=sub_enumerate;have b:Heap.IsTuple (Shared.heap ⟨hp,g,d,tk,os⟩) l a:=⟨_,hl,rfl,n,rfl⟩;wp_walk using AutoSeq1.wpAny_loadPart' hl;refine wpAny_stack_any λst=>Yc ?_
 split
 ·rename_i c _ _ _ _ _
  cases(c==Value.type "enumerate")<;>(wp_walk using AutoSeq1.wpAny_loadPart' hl,wpAny_pyIter_tuple b;exact⟨_,rfl,h⟩)
 ·wp_walk using AutoSeq1.wpAny_loadPart' hl,wpAny_pyIter_tuple b
  exact⟨_,rfl,h⟩
theorem zE{l:Addr}{a:Zl}{Q:Zb}(g:s.heap.IsTuple l a)
  (h:∀h',IsEnum h' (s.heap.objs.size+1) s.heap.objs.size 0 .none->h'.IsTupleIter s.heap.objs.size l 0->(∀b o,s.heap.get? b=some o->h'.get? b=some o)->Q (.ref (s.heap.objs.size+1)) { s with heap:=h' }):
  wpAny 'd' A (call (.type "enumerate") [.ref l]) Q E s:=by
 obtain⟨⟨c,j,m,sl⟩,hl,hc,n,hd⟩:=g;obtain rfl:c=.type "tuple":=hc;obtain rfl:m=.seq a n:=hd;refine callType_new F.called_enumerate 'c' (F.typeCall_enumerate_1 _) (F.newCall_enumerate_1 _) (λobj=>F.args_object_init_2 obj _) F.entry_enumerate_new (Bv l a n j sl) ⟨hl,?_⟩;have hz:(s.heap.push { cls:=.type "tuple_iterator",data:=.fields #[.ref l,.int 0 0] }).objs.size=s.heap.objs.size+1:=Heap.size_push ..;show _/\_;rw[hz];have f:=Yg (s.heap.push { cls:=.type "tuple_iterator",data:=.fields #[.ref l,.int 0 0] }) (o:={ cls:=.type "enumerate",data:=.fields #[.none,.bool false,.ref s.heap.objs.size,rawInt 0,.none,.none] }) rfl;rw[hz] at f;exact⟨⟨_,f,rfl⟩,h _ f ⟨_,Yd _ (Yg _ rfl),rfl,rfl⟩ λb o x=>Yd _ (Yd _ x)⟩
end
section
variable {X:Cx}{pins:Zc}{σ:L2.St}{H:Hp}{s:Shared}{h':Heap}
theorem Fs{fs ch:Zh}{h:Heap}(k:∀b o,b∉ch->h.get? b=some o->h'.get? b=some o):Un fs ch H H h h' where
 keep:=λb o e _ _ hc=>k b o hc e
 slot:=λb o e _ _ hc=>⟨o.slots,k b o hc e⟩
 free:=λ_ _ _ n _=>n
 there:=λb o e hc=>⟨o,k b o hc e⟩
 tups:=λ_ _ e=>e
 frzs:=λ_ _ _ e=>e
 tbls:=λb ps e=>⟨#[],by rw[e];simp⟩
theorem Bw{P:Zv}{w:World}{ch:Zh}{h:Heap}(ok:cm P w H h)(k:∀b o,b∉ch->h.get? b=some o->h'.get? b=some o)(hn:∀b∈ch,H b=none):cm P w H h':=λb u e=>by
 have a:∀c v,H c=some v->c∉ch:=λc v f z=>by rw[hn c z] at f;cases f
 refine(ok b u e).stay (λc v hc q=>k c v ?_ q) (λ_ q=>q) λ_ _ q=>q
 rcases hc with z | z
 ·rw[z];exact a b u e
 ·exact a c _ z
theorem ad.turnedT{ch:Zh}{T:Addr}{xs:List V}{c_:Zd}{tk:Nat}(I:ad X pins σ H s)(k:∀b o,b∉ch->s.heap.get? b=some o->h'.get? b=some o)(hn:∀b∈ch,H b=none)
  (f:∀b∈ch,(b∈X.ex\/X.s₀.heap.objs.size<=b)/\b≠X.env.locals/\(∀x c,X.env.cells.lookup x=some c->c≠b)/\∀p∈X.pn++pins,p.1≠b) (a:s.heap.objs.size<=T) (r:ak xs c_) (hz:xs.length<=sizeLine) (ht:IsTup h' T c_.toArray):
  ad X pins σ (upd H T (.tup xs)) { s with heap:=h',toks:=tk }:=by
 have hf:H T=none:=I.hok.fresh a;have g:=Bw I.hok k hn;refine I.call (g':=s.gens) (d':=s.drawn) (t':=tk) (Un.track (Fs k) a hf) (λb u e=>?_) I.bare f;by_cases hb:b=T
 ·subst hb
  rw[aB] at e;cases e;exact⟨hz,c_,r,ht⟩
 ·rw[aM hb] at e
  refine(g b u e).stay (λc v _ q=>q) (λc q=>?_) λc ys q=>?_
  ·rw[aM (bu q hf)];exact q
  ·rw[aM (bu q hf)];exact q
end
def Jn(K:Za)(a:Addr):It:=
 ⟨λi H=>∃xs x,bx K H a xs/\xs[i]?=some x,λi H x H'=>∃v p,(∀xs,bx K H a xs->xs[i]?=some v)/\H p=none/\H'=upd H p (.tup [.int (i:Int),v])/\x=.ref p,λi H=>∃xs,bx K H a xs/\xs.length<=i⟩
theorem Bx{P:Zv}{w:World}{K:Za}{g:Zg}{kk:Nat}{tp:Pos}(a e it:Addr)(n:e≠it):Turn P w K (.Tuple g kk tp) (Jn K a) [e,it] e (λi h=>(∃old,IsEnum h e it i old)/\h.IsListIter it a i) where
 mem:=by simp
 obj:=λi h st b hb=>by
  obtain⟨⟨old,f⟩,⟨o,t,c,d⟩⟩:=st;have l:b=e\/b=it:=by simpa using hb
  rcases l with rfl | rfl
  ·exact⟨_,f,λv z=>by cases z⟩
  ·exact⟨o,t,λv z=>by rw[d] at z;cases z⟩
 keep:=λi h h' st k=>by
  obtain⟨⟨old,f⟩,hit⟩:=st;exact⟨⟨old,k e (by simp) _ f⟩,hit.at λo x=>k it (by simp) o x⟩
 item:=by
  rw[0];obtain⟨xs,x,hq,hx⟩:=hg;obtain⟨c_,m,p,hz⟩:=I.list hq;obtain⟨u,hu,y⟩:=m.get hx;obtain⟨⟨old,f⟩,hit⟩:=st;have j:=hf e (by simp);have fi:=hf it (by simp);refine wpAny_pyNext_enum_item f hit p.isList (x:=u) (by simpa using hu) n λh' B C G hsz hk=>⟨_,rfl,?_⟩
  have J:H s.heap.objs.size=none:=I.hok.fresh (YG _);have L:ad X pins σ (upd H s.heap.objs.size (.tup [.int (i:Int),x])) { s with heap:=h',toks:=s.toks+1 }:=ad.turnedT (ch:=[e,it]) (c_:=[.int (i:Int) s.toks,u]) I
   (λb o hb q=>hk b o (λz=>hb (by simp[z])) (λz=>hb (by simp[z])) q)
   (λb hb=>(hf b hb).1) (λb hb=>⟨(hf b hb).2.2.2.1,(hf b hb).2.1,(hf b hb).2.2.2.2.1,(hf b hb).2.2.2.2.2⟩) (YG _) (.cons ⟨_,rfl⟩ (.cons y .nil)) (by show 2<=sizeLine;decide) ⟨_,G,rfl,_,rfl⟩
  have neT:∀b∈[e,it],b≠s.heap.objs.size:=λb hb z=>by
   have l:b=e\/b=it:=by simpa using hb
   rcases l with rfl | rfl
   ·exact absurd (Ye f) (by rw[z];exact ZU _)
   ·obtain⟨_,O,_⟩:=hit;exact absurd (Ye O) (by rw[z];exact ZU _)
  refine wpAny_letOwnedTupleGo_enum (s:={ s with heap:=h',toks:=s.toks+1 }) B λR S r=>?_
  have T:=L2.ad.turned (h':=R) (t':=s.toks+1) (it:=e) L (λb o hb q=>(r.2 b hb).trans q) (by rw[aM (neT e (by simp))];exact j.1) j.2.1 j.2.2.2.1 j.2.2.2.2.1 j.2.2.2.2.2;refine⟨.ref s.heap.objs.size,_,T,rfl,⟨x,s.heap.objs.size,λys hy=>by rw[I.list_inj hy hq];exact hx,J,rfl,rfl⟩,⟨⟨u,by simpa using S⟩,C.at λo q=>(r.2 it n.symm).trans q⟩,λb hb=>?_⟩;rw[aM (neT b hb)];exact(hf b hb).1
 done:=by
  rw[0];obtain⟨xs,hq,hx⟩:=hg;obtain⟨c_,m,p,hz⟩:=I.list hq;obtain⟨⟨old,f⟩,hit⟩:=st;obtain⟨f0,U,f2,V,W,Y⟩:=hf it (by simp);have hl:=m.length;exact wpAny_pyNext_enum_end (I.ok.hd hc) f hit p.isList (by simp;omega) λh' Z=>⟨rfl,I.turned (t':=s.toks) (λb o hb q=>Z b o hb q) f0 U V W Y⟩
 self:=λ_ _ _ _ _ st h=>by
  obtain⟨⟨old,f⟩,_⟩:=st;exact wpAny_pyIter_enum f h
def DZ(K:Za)(a:Addr):It:=
 ⟨λi H=>∃xs x,bn K H a xs/\xs[i]?=some x,λi H x H'=>∃v p,(∀xs,bn K H a xs->xs[i]?=some v)/\H p=none/\H'=upd H p (.tup [.int (i:Int),v])/\x=.ref p,λi H=>∃xs,bn K H a xs/\xs.length=i⟩
theorem zF{P:Zv}{w:World}{K:Za}{l:Zg}{kk:Nat}{tp:Pos}(a e it:Addr)(n:e≠it):Turn P w K (.Tuple l kk tp) (DZ K a) [e,it] e (λi h=>(∃old,IsEnum h e it i old)/\h.IsTupleIter it a i) where
 mem:=by simp
 obj:=λi h st b hb=>by
  obtain⟨⟨old,f⟩,⟨o,O,c,d⟩⟩:=st;have r:b=e\/b=it:=by simpa using hb
  rcases r with rfl | rfl
  ·exact⟨_,f,λv z=>by cases z⟩
  ·exact⟨o,O,λv z=>by rw[d] at z;cases z⟩
 keep:=λi h h' st k=>by
  obtain⟨⟨old,f⟩,hit⟩:=st;exact⟨⟨old,k e (by simp) _ f⟩,hit.at λo x=>k it (by simp) o x⟩
 item:=by
  rw[0];obtain⟨xs,x,hq,hx⟩:=hg;obtain⟨c_,t,p,hz⟩:=I.tuple hq;obtain⟨u,hu,R⟩:=t.get hx;obtain⟨⟨old,f⟩,hit⟩:=st;have p:s.heap.IsTuple a c_.toArray:=p;have m:=hf e (by simp);have fi:=hf it (by simp);have B:a≠it:=λz=>by
   obtain⟨J,g,j,_⟩:=p;obtain⟨S,C,G,_⟩:=hit;rw[z,C] at g;cases g;rw[G] at j;exact absurd j 'c'
  have T:e≠a:=λz=>by
   obtain⟨J,g,j,_⟩:=p;rw[←z,f] at g;cases g;exact absurd (show Value.type "enumerate" = Value.type "tuple" from j) 'c'
  have hi:i<c_.toArray.size:=by have:=(YD.1 hu).1;simpa using this
  refine wpAny_pyNext_enum_itemD (pV (by simp[I.ok.hd hc]) it a B c_.toArray) f ⟨hit,p⟩ hi n (by simp;exact⟨n,T⟩) λy h' tk hy U e_ V hsz hk=>⟨_,rfl,?_⟩
  have W:y=u:=by
   have h1:c_[i]?=some y:=by simpa using hy
   rw[hu] at h1;cases h1;rfl
  subst W;have Y:H s.heap.objs.size=none:=I.hok.fresh (YG _);have Z:ad X pins σ (upd H s.heap.objs.size (.tup [.int (i:Int),x])) { s with heap:=h',toks:=tk+1 }:=ad.turnedT (ch:=[e,it]) (c_:=[.int (i:Int) tk,y]) I
   (λb o hb q=>hk b o (λz=>hb (by simp[z])) (λz=>hb (by simp[z])) q)
   (λb hb=>(hf b hb).1) (λb hb=>⟨(hf b hb).2.2.2.1,(hf b hb).2.1,(hf b hb).2.2.2.2.1,(hf b hb).2.2.2.2.2⟩) (YG _) (.cons ⟨_,rfl⟩ (.cons R .nil)) (by show 2<=sizeLine;decide) ⟨_,V,rfl,_,rfl⟩
  have neT:∀b∈[e,it],b≠s.heap.objs.size:=λb hb z=>by
   have r:b=e\/b=it:=by simpa using hb
   rcases r with rfl | rfl
   ·exact absurd (Ye f) (by rw[z];exact ZU _)
   ·obtain⟨_,x1,_⟩:=hit;exact absurd (Ye x1) (by rw[z];exact ZU _)
  refine wpAny_letOwnedTupleGo_enum (s:={ s with heap:=h',toks:=tk+1 }) U λP_ Pq L=>?_
  have I2:=L2.ad.turned (h':=P_) (t':=tk+1) (it:=e) Z (λb o hb q=>(L.2 b hb).trans q) (by rw[aM (neT e (by simp))];exact m.1) m.2.1 m.2.2.2.1 m.2.2.2.2.1 m.2.2.2.2.2;refine⟨.ref s.heap.objs.size,_,I2,rfl,⟨x,s.heap.objs.size,λys hy=>by rw[I.tuple_inj hy hq];exact hx,Y,rfl,rfl⟩,⟨⟨y,by simpa using Pq⟩,e_.1.at λo q=>(L.2 it n.symm).trans q⟩,λb hb=>?_⟩;rw[aM (neT b hb)];exact(hf b hb).1
 done:=by
  rw[0];obtain⟨xs,hq,hx⟩:=hg;obtain⟨c_,t,p,hz⟩:=I.tuple hq;have p:s.heap.IsTuple a c_.toArray:=p;obtain⟨⟨old,f⟩,hit⟩:=st;obtain⟨f0,f1,f2,f3,f4,f5⟩:=hf it (by simp);have B:a≠it:=λz=>by
   obtain⟨J,g,j,_⟩:=p;obtain⟨S,C,G,_⟩:=hit;rw[z,C] at g;cases g;rw[G] at j;exact absurd j 'c'
  have hn:i=c_.toArray.size:=by rw[←hx,t.length];simp
  subst hn;exact wpAny_pyNext_enum_endD (pV (by simp[I.ok.hd hc]) it a B c_.toArray) f ⟨hit,p⟩ λh' eb=>⟨rfl,I.turned (t':=s.toks) (λb o hb q=>eb b o hb q) f0 f1 f3 f4 f5⟩
 self:=λ_ _ _ _ _ st h=>by
  obtain⟨⟨old,f⟩,_⟩:=st;exact wpAny_pyIter_enum f h
def bH:Int->List D->List D
 |_,[]=>[]
 |n,d::r=>.tup [.int n,d]::bH (n+1) r
theorem dL:∀(n:Int) (ds:List D),(bH n ds).length=ds.length
 |_,[]=>rfl
 |n,d::r=>by rw[bH,YJ,YJ,dL]
theorem iJ:∀{n:Int}{ds:List D}{i:Nat}{x:D},(bH n ds)[i]?=some x->∃d,ds[i]?=some d/\x=.tup [.int (n+i),d]
 |_,[],_,_,h=>by cases h
 |n,d::r,0,x,h=>by
  rw[bH] at h;simp at h;exact⟨d,rfl,by rw[←h];simp⟩
 |n,d::r,i+1,x,h=>by
  rw[bH] at h;obtain⟨d',h1,a⟩:=iJ (n:=n+1) (ds:=r) (i:=i) (x:=x) (by simpa using h);refine⟨d',by simpa using h1,?_⟩;rw[a];congr 2;congr 1;omega
theorem vI{K:Za}{a:Addr}{ds:List D}{f:Hp}{g:MH->Prop}(hg:∀H M,RM K M H->g M->∃vs,bx K H a vs/\ag K H ds vs):pQ K (Jn K a) f (bH 0 ds) g:=by
 intro i H M _ c q;obtain⟨vs,sq,b⟩:=hg H M c q;rw[dL];refine⟨λhi=>?_,λhi=>⟨vs,sq,by rw[←b.len];exact Nat.le_of_eq hi.symm⟩,λx H' d hd ⟨v,p,hv,hp,e,y⟩=>?_⟩
 ·have:i<vs.length:=by rw[←b.len];exact hi
  exact⟨vs,vs[i],sq,ZE this⟩
 ·subst e y
  obtain⟨d',h1,rfl⟩:=iJ hd;obtain⟨l,j,r⟩:=cO b.p h1
  have:=hv vs sq
  rw[j] at this;cases this;have k:=Kp.new (o:=.tup [.int (i:Int),v]) hp;refine⟨k,c.newH hp,RV.tup_.2 ⟨p,_,rfl,bn.of aB,.cons (RV.int_.2 (by rw[Int.zero_add])) (.cons (RV.mono k _ r) .nil)⟩⟩
theorem By{K:Za}{a:Addr}{ds:List D}{vs:List V}{c:Hp}(sq:bn K c a vs)(b:ag K c ds vs):pQ K (DZ K a) c (bH 0 ds) (λ_=>True):=by
 intro i H M k f _;have sq:=k.sq sq;have b:=ag.mono k _ b;rw[dL];refine⟨λhi=>?_,λhi=>⟨vs,sq,by rw[←b.len];exact hi.symm⟩,λx H' d hd ⟨v,p,hv,hp,e,y⟩=>?_⟩
 ·have:i<vs.length:=by rw[←b.len];exact hi
  exact⟨vs,vs[i],sq,ZE this⟩
 ·subst e y
  obtain⟨d',h1,rfl⟩:=iJ hd;obtain⟨j,g,r⟩:=cO b.p h1
  have:=hv vs sq
  rw[g] at this;cases this;have k:=Kp.new (o:=.tup [.int (i:Int),v]) hp;refine⟨k,f.newH hp,RV.tup_.2 ⟨p,_,rfl,bn.of aB,.cons (RV.int_.2 (by rw[Int.zero_add])) (.cons (RV.mono k _ r) .nil)⟩⟩
def zG(t:WA):WI:=λσ M R=>t σ M λds M1=>match ds with
 |[.tup xs]=>R (bH 0 xs) (λ_=>True) M1
 |[.ref a]=>match M1 a with
  |some (.lst xs)=>R (bH 0 xs) (λM'=>M' a=some (.lst xs)) M1
  |some (.rol xs)=>R (bH 0 xs) (λM'=>M' a=some (.rol xs)) M1
  |_=>False
 |_=>False
section
variable {X:Cx}{H:Hp}{pos:Pos}
theorem yl{pins:Zc}{ρ:L2.St}{s:Shared}{c:Zg}{kk:Nat}{tp:Pos}{a:Addr}{xs:List V}{R:It->Hp->Prop}(I:ad X pins ρ H s)(hq:bx X.K H a xs)(q:R (Jn X.K a) H):
  wpAny 'b' X.A (call (.type "enumerate") [.ref a]) (λv s1=>wpAny 'b' X.A (pyIter v) (qQ X pins ρ (.Tuple c kk tp) R) X.xe s1) X.xe s:=by
 obtain⟨c_,m,p,hz⟩:=I.list hq;refine call_enumerate_list p.isList λh' f g hsz hk=>?_
 refine wpAny_pyIter_enum f ?_;have j:ad X pins ρ H { s with heap:=h' }:=I.kept (t':=s.toks) hk;refine⟨s.heap.objs.size+1,[s.heap.objs.size+1,s.heap.objs.size],_,_,H,rfl,j,Bx a _ _ (Nat.succ_ne_self _),⟨⟨.none,f⟩,g⟩,λb hb=>?_,q⟩;have l:b=s.heap.objs.size+1\/b=s.heap.objs.size:=by simpa using hb
 rcases l with rfl | rfl
 ·exact I.fpOk (YN _) (I.hok.fresh (YN _))
 ·exact I.fpOk (YG _) (I.hok.fresh (YG _))
theorem D1{pins:Zc}{ρ:L2.St}{s:Shared}{c:Zg}{kk:Nat}{tp:Pos}{a:Addr}{xs:List V}{R:It->Hp->Prop}(I:ad X pins ρ H s)(hq:bn X.K H a xs)(q:R (DZ X.K a) H):
  wpAny 'b' X.A (call (.type "enumerate") [.ref a]) (λv s1=>wpAny 'b' X.A (pyIter v) (qQ X pins ρ (.Tuple c kk tp) R) X.xe s1) X.xe s:=by
 obtain⟨c_,m,p,hz⟩:=I.tuple hq;refine zE (show s.heap.IsTuple a c_.toArray from p) λh' f g hk=>?_
 refine wpAny_pyIter_enum f ?_;have j:ad X pins ρ H { s with heap:=h' }:=I.kept (t':=s.toks) hk;refine⟨s.heap.objs.size+1,[s.heap.objs.size+1,s.heap.objs.size],_,_,H,rfl,j,zF a _ _ (Nat.succ_ne_self _),⟨⟨.none,f⟩,g⟩,λb hb=>?_,q⟩;have l:b=s.heap.objs.size+1\/b=s.heap.objs.size:=by simpa using hb
 rcases l with rfl | rfl
 ·exact I.fpOk (YN _) (I.hok.fresh (YN _))
 ·exact I.fpOk (YG _) (I.hok.fresh (YG _))
theorem D2{l:Expr}{t:WA}{p:Pos}{g:Zg}{kk:Nat}{tp:Pos}(hg:Gl X "enumerate")(hm:X.mg "enumerate" = none)(h:fZ X [l] t)(hs:av l=true):tV X (.Tuple g kk tp) (.Call (.Name "enumerate" p) [l] [] pos) (zG t):=by
 intro σ M ρ H R rs L q pins s I;refine Call_ (dh I hg hm (by rfl':bootBuiltins "enumerate" = some (.type "enumerate")) (PyProof.Rows.callWith_type1 (aN (h σ M ρ H _ rs L q pos pins s I) λus s1 O=>?_) (bt hs) rfl));obtain⟨vs,P,c,J,⟨r,ds,M1,n,T,j,b⟩⟩:=O;try dsimp only at b
 split at b
 ·rename_i U
  rw[ag] at n;obtain⟨v,S,rfl,y,m⟩:=n;rw[ag] at m;subst m;obtain⟨a,xs,rfl,sq,f⟩:=RV.tup_.1 y;obtain⟨u,rfl,z⟩:=J.one;cases z;obtain⟨_,_,_,hz⟩:=c.tuple sq;exact D1 c sq ⟨r,_,_,M1,j,trivial,By sq f,by rw[dL,f.len];exact hz,b⟩
 ·rename_i a
  rw[ag] at n;obtain⟨v,S,rfl,y,m⟩:=n;rw[ag] at m;subst m;cases RV.ref_.1 y;obtain⟨u,rfl,z⟩:=J.one;cases z;split at b
  ·rename_i xs e
   obtain⟨ys,e1,f⟩:=j a _ e;obtain⟨_,_,_,hz⟩:=c.list (bx.of e1);refine yl c (bx.of e1) ⟨r,_,_,M1,j,e,vI λH' M' B g'=>?_,by rw[dL,f.len];exact hz,b⟩;obtain⟨C,e',G⟩:=B a _ g';exact⟨C,bx.of e',G⟩
  ·rename_i xs e
   obtain⟨ys,e1,f⟩:=j a _ e;have e1:bx X.K P a ys:=.inl e1;obtain⟨_,_,_,hz⟩:=c.list e1;refine yl c e1 ⟨r,_,_,M1,j,e,vI λH' M' B g'=>?_,by rw[dL,f.len];exact hz,b⟩;obtain⟨C,e',G⟩:=B a _ g';exact⟨C,.inl e',G⟩
  ·exact Yh b
 ·exact Yh b
end
section
variable {prog:Zv}{w:World}{A:Around}{E:Zb}{s:Shared}
structure ym (z u o i j a b:Addr):Prop where
 uz:u≠z
 oz:o≠z
 iz:i≠z
 jz:j≠z
 uo:u≠o
 ui:u≠i
 uj:u≠j
 oi:o≠i
 oj:o≠j
 ij:i≠j
 az:a≠z
 ao:a≠o
 ai:a≠i
 aj:a≠j
 bz:b≠z
 bo:b≠o
 bi:b≠i
 bj:b≠j
theorem LL(n a b:Nat)(la:a<n)(lb:b<n):ym (n+4) (n+2) (n+3) n (n+1) a b:=by
 constructor<;>(intro y;have c:@Eq Nat _ _:=y;omega)
def vJ(z u o i j a b:Addr)(xs ys:Zl)(f:Value)(k:Nat)(h:Heap):Prop:=
 IsZip h z u o f/\IsPair h u (.ref i) (.ref j)/\(∃p q,IsPair h o p q)/\h.IsTupleIter i a k/\h.IsTupleIter j b k/\h.IsTuple a xs/\h.IsTuple b ys
theorem Bz{z u o i j a b:Addr}{k:Nat}{xs ys:Zl}{x y:Value}{Q:Zb}(D:ym z u o i j a b)(st:vJ z u o i j a b xs ys .none k s.heap)(hx:xs[k]?=some x)(hy:ys[k]?=some y)
  (hQ:∀h',vJ z u o i j a b xs ys (rawInt s.heap.objs.size) (k+1) h'->IsPair h' s.heap.objs.size x y->(∀c q,c≠z->c≠o->c≠i->c≠j->s.heap.get? c=some q->h'.get? c=some q)->Q (.ref s.heap.objs.size) { s with heap:=h' }):
  wpAny 'd' A (Builtin.«zip.__next__» ⟨[.ref z],[]⟩) (λfin t=>∃v,fin=.done (.ret v)/\Q v t) E s:=by
 obtain⟨hz,hu,⟨p,q,ho⟩,hi,hj,ha,hb⟩:=st;show wpAny _ _ (field (.ref z) 2 >>= λ_=>_) _ _ s;refine Yb (wpAny_field hz rfl (x:=.bool false) rfl (Yb (wpAny_field hz rfl (x:=.ref u) rfl (Yb (wpAny_seqItems hu rfl (Yb ?_))))));unfold Builtin.SmallTypes.ownedTupleIsFree;refine Yb (wpAny_field hz rfl (x:=.none) rfl (Yc ?_));simp only[if_true];refine Yb (wpAny_rule (Yb (wpAny_field hz rfl (x:=.ref o) rfl (Yb (wpAny_setField_rec hz (by simp) λh1 Z g=>Yb ?_)))));have Z:IsZip h1 z u o .ellipsis:=Z;have g:Heap.SameBut z s.heap h1:=g;simp only[List.zipIdx_cons,List.zipIdx_nil,List.forIn_cons,List.forIn_nil];refine Yb (Yb (wpAny_onRaise (show wpAny _ _ (Builtin.SmallTypes.nextOf (.ref i) >>= λ_=>_) _ _ { s with heap:=h1 } from Yb (jJ (hi.extBut g.extBut D.iz) (ha.extBut g.extBut D.az) hx λO i2 l=>Yc ?_))));have l:Heap.SameBut i h1 O:=l;have o2:IsPair O o p q:=l.extBut _ _ D.oi (g.extBut _ _ D.oz ho);refine Yb (wpAny_seqItems (s:={ s with heap:=O }) o2 rfl (Yb (wpAny_updateSeq_pair (s:={ s with heap:=O }) o2 λB o3 m=>Yb (wpAny_letGo (Yc ?_)))));have o3:IsPair B o x q:=o3;have m:Heap.SameBut o O B:=m;have j3:B.IsTupleIter j b k:=((hj.extBut g.extBut D.jz).extBut l.extBut D.ij.symm).extBut m.extBut D.oj.symm;have y3:B.IsTuple b ys:=((hb.extBut g.extBut D.bz).extBut l.extBut D.bi).extBut m.extBut D.bo;refine Yb (Yb (wpAny_onRaise (show wpAny _ _ (Builtin.SmallTypes.nextOf (.ref j) >>= λ_=>_) _ _ { s with heap:=B } from Yb (jJ (s:={ s with heap:=B }) j3 y3 hy λP j4 C=>Yc ?_))));have C:Heap.SameBut j B P:=C;have o4:IsPair P o x q:=C.extBut _ _ D.oj o3;refine Yb (wpAny_seqItems (s:={ s with heap:=P }) o4 rfl (Yb (wpAny_updateSeq_pair (s:={ s with heap:=P }) o4 λf T G=>Yb (wpAny_letGo (Yc (Yc ?_))))));have T:IsPair f o x y:=T;have G:Heap.SameBut o P f:=G;refine Yb (wpAny_seqItems (s:={ s with heap:=f }) T rfl (Yb (wpAny_newTuple ?_)));have sz:f.objs.size=s.heap.objs.size:=by rw[G.1,C.1,m.1,l.1,g.1]
 have kp:∀c r,c≠z->c≠o->c≠i->c≠j->s.heap.get? c=some r->f.get? c=some r:=λc r K L R S e=>G.extBut _ _ L (C.extBut _ _ S (m.extBut _ _ L (l.extBut _ _ R (g.extBut _ _ K e))))
 have z5:IsZip f z u o .ellipsis:=G.extBut _ _ D.oz.symm (C.extBut _ _ D.jz.symm (m.extBut _ _ D.oz.symm (l.extBut _ _ D.iz.symm Z)));have i5:f.IsTupleIter i a (k+1):=((i2.extBut m.extBut D.oi.symm).extBut C.extBut D.ij).extBut G.extBut D.oi.symm;have j5:f.IsTupleIter j b (k+1):=j4.extBut G.extBut D.oj.symm;have zl:z<f.objs.size:=Ye z5;show wpAny _ _ (Builtin.SmallTypes.ownedTupleHandOut (.ref z) (.ref f.objs.size) >>= λ_=>_) _ _ { s with heap:=f.push { cls:=.type "tuple",data:=.seq #[x,y] } };refine Yb ?_;unfold Builtin.SmallTypes.ownedTupleHandOut;have z6:IsZip (f.push { cls:=.type "tuple",data:=.seq #[x,y] }) z u o .ellipsis:=Yd _ z5;refine Yb (wpAny_setField_rec (s:={ s with heap:=f.push { cls:=.type "tuple",data:=.seq #[x,y] } }) z6 (by simp) λU z7 V=>?_);have z7:IsZip U z u o (rawInt f.objs.size):=z7;have V:Heap.SameBut z (f.push { cls:=.type "tuple",data:=.seq #[x,y] }) U:=V;refine wpAny_setField_rec (s:={ s with heap:=U }) z7 (by simp) λJ W Y=>?_
 have W:IsZip J z u o (rawInt f.objs.size):=W;have Y:Heap.SameBut z U J:=Y;have up:∀c r,c≠z->f.get? c=some r->J.get? c=some r:=λc r n e=>Y.extBut _ _ n (V.extBut _ _ n (Yd _ e))
 have t8:IsPair J f.objs.size x y:=Y.extBut _ _ (Nat.ne_of_gt zl) (V.extBut _ _ (Nat.ne_of_gt zl) (Yg _ rfl));rw[sz] at W t8;refine Yc ⟨_,rfl,?_⟩;show Q (.ref f.objs.size) _;rw[sz];have Tq:∀c r,c≠z->c≠o->c≠i->c≠j->s.heap.get? c=some r->J.get? c=some r:=λc r K L R S e=>up c r K (kp c r K L R S e)
 have tup:∀{c vs},s.heap.IsTuple c vs->c≠z->c≠o->c≠i->c≠j->J.IsTuple c vs:=λe K L R S=>by
  obtain⟨r,e1,e2⟩:=e;exact⟨r,Tq _ _ K L R S e1,e2⟩
 refine hQ J ⟨W,Tq _ _ D.uz D.uo D.ui D.uj hu,⟨x,y,up _ _ D.oz T⟩,i5.at λr e=>up _ r D.iz e,j5.at λr e=>up _ r D.jz e,tup ha D.az D.ao D.ai D.aj,tup hb D.bz D.bo D.bi D.bj⟩ t8 Tq
theorem BA{z u o i j a b:Addr}{k:Nat}{xs ys:Zl}{Q:Fin->Shared->Prop}(G:A.handled=none)(D:ym z u o i j a b)(st:vJ z u o i j a b xs ys .none k s.heap)(hx:xs[k]?=none)
  (J:∀h' e,(∀c q,c≠z->c≠o->c≠i->c≠j->s.heap.get? c=some q->h'.get? c=some q)->(∃q,h'.get? e=some q/\q.cls=.type "StopIteration")->E (.ref e) { s with heap:=h' }):
  wpAny 'd' A (Builtin.«zip.__next__» ⟨[.ref z],[]⟩) Q E s:=by
 obtain⟨hz,hu,⟨p,q,R⟩,hi,S,ha,hb⟩:=st;show wpAny _ _ (field (.ref z) 2 >>= λ_=>_) _ _ s;refine Yb (wpAny_field hz rfl (x:=.bool false) rfl (Yb (wpAny_field hz rfl (x:=.ref u) rfl (Yb (wpAny_seqItems hu rfl (Yb ?_))))));unfold Builtin.SmallTypes.ownedTupleIsFree;refine Yb (wpAny_field hz rfl (x:=.none) rfl (Yc ?_));simp only[if_true];refine Yb (wpAny_rule (Yb (wpAny_field hz rfl (x:=.ref o) rfl (Yb (wpAny_setField_rec hz (by simp) λh1 n f=>Yb ?_)))));have n:IsZip h1 z u o .ellipsis:=n;have f:Heap.SameBut z s.heap h1:=f;simp only[List.zipIdx_cons,List.zipIdx_nil,List.forIn_cons,List.forIn_nil];refine Yb (Yb (wpAny_onRaise (show wpAny _ _ (Builtin.SmallTypes.nextOf (.ref i) >>= λ_=>_) _ _ { s with heap:=h1 } from Yb (jK G (hi.extBut f.extBut D.iz) (ha.extBut f.extBut D.az) hx λg e l K=>?_))));obtain⟨L,e1,e2⟩:=K;have l:Heap.ExtBut i h1 g:=l;have t:IsZip g z u o .ellipsis:=l _ _ D.iz.symm n;have O:e≠z:=λy=>by subst y;rw[t] at e1;cases e1;simp at e2
 refine wpAny_setField_rec (s:={ s with heap:=g }) t (by simp) λB _ m=>?_
 have m:Heap.SameBut z g B:=m;exact J B e (λc r C _ P _ y=>m.extBut _ _ C (l _ _ P (f.extBut _ _ C y))) ⟨L,m.extBut _ _ O e1,e2⟩
theorem BB{z u o i j a b:Addr}{k:Nat}{xs ys:Zl}{x y:Value}{Q:Option Value->Shared->Prop}(D:ym z u o i j a b)(st:vJ z u o i j a b xs ys .none k s.heap)(hx:xs[k]?=some x)(hy:ys[k]?=some y)
  (f:∀h',vJ z u o i j a b xs ys (rawInt s.heap.objs.size) (k+1) h'->IsPair h' s.heap.objs.size x y->(∀c q,c≠z->c≠o->c≠i->c≠j->s.heap.get? c=some q->h'.get? c=some q)->Q (some (.ref s.heap.objs.size)) { s with heap:=h' }):
  wpAny 'd' A (pyNext (.ref z)) Q E s:=by
 have ty:s.TypeIs (.ref z) "zip":=⟨_,st.1,rfl⟩;unfold pyNext;refine Yb (wpAny_attempt (wpAny_callSpecial?_slot (name:=Str.ofString "__next__") ty F.slot_zip_next (wpAny_call_entry F.slot_zip_next ty F.entry_zip_next ?_ (F.args_zip_next_1 _))));exact Bz D st hx hy λh' g l m=>Yc (f h' g l m)
theorem D4{z u o i j a b:Addr}{k:Nat}{xs ys:Zl}{Q:Option Value->Shared->Prop}(f:A.handled=none)(D:ym z u o i j a b)(st:vJ z u o i j a b xs ys .none k s.heap)(hx:xs[k]?=none)
  (g:∀h',(∀c q,c≠z->c≠o->c≠i->c≠j->s.heap.get? c=some q->h'.get? c=some q)->Q none { s with heap:=h' }):wpAny 'd' A (pyNext (.ref z)) Q E s:=by
 have ty:s.TypeIs (.ref z) "zip":=⟨_,st.1,rfl⟩;unfold pyNext;refine Yb (wpAny_attempt (wpAny_callSpecial?_slot (name:=Str.ofString "__next__") ty F.slot_zip_next (wpAny_call_entry F.slot_zip_next ty F.entry_zip_next ?_ (F.args_zip_next_1 _))));refine BA f D st hx λh' e l m=>?_
 obtain⟨q,e1,e2⟩:=m;exact Yb (wpAny_isInstance (T:="StopIteration") (b:=true) ⟨q,e1,e2⟩ isSubtype_stop (Yc (g _ l)))
def kA(h:Heap)(a b:Addr):Heap:=((((h.push { cls:=.type "tuple_iterator",data:=.fields #[.ref a,.int 0 0] }).push { cls:=.type "tuple_iterator",data:=.fields #[.ref b,.int 0 0] }).push { cls:=.type "tuple",data:=.seq #[.ref h.objs.size,.ref (h.objs.size+1)] }).push { cls:=.type "tuple",data:=.seq #[.none,.none] }).push { cls:=.type "zip",data:=.fields #[.none,.bool false,.bool false,.ref (h.objs.size+2),.ref (h.objs.size+3)] }
theorem D7(a b:Addr)(xs ys:Zl):Meets (Builtin.«zip.__new__» ⟨[.type "zip",.ref a,.ref b],[]⟩) (λ_ R t=>t.heap.IsTuple a xs/\t.heap.IsTuple b ys/\R (.ok (.ret (.ref (t.heap.objs.size+4)))) { t with heap:=kA t.heap a b }):=by
 refine .of_wp λf j l R t h=>?_
 obtain⟨hp,g,d,tk,os⟩:=t;obtain⟨ha,hb,h⟩:=h;have m:=sub_zip;have h1:Heap.IsTuple (Shared.heap ⟨hp,g,d,tk,os⟩) a xs:=ha;have c:Heap.IsTuple (Shared.heap ⟨hp.push { cls:=.type "tuple_iterator",data:=.fields #[.ref a,.int 0 0] },g,d,tk,os⟩) b ys:=Heap.IsTuple.push hb _;wp_walk using wpAny_pyIter_tuple h1,wpAny_pyIter_tuple c;refine⟨_,rfl,?_⟩;simp only[Heap.size_push];exact h
theorem BC{a b:Addr}{xs ys:Zl}{Q:Zb}(ha:s.heap.IsTuple a xs)(hb:s.heap.IsTuple b ys)
  (h:∀h',vJ (s.heap.objs.size+4) (s.heap.objs.size+2) (s.heap.objs.size+3) s.heap.objs.size (s.heap.objs.size+1) a b xs ys .none 0 h'->(∀c q,s.heap.get? c=some q->h'.get? c=some q)->Q (.ref (s.heap.objs.size+4)) { s with heap:=h' }):
  wpAny 'd' A (call (.type "zip") [.ref a,.ref b]) Q E s:=by
 refine callType_new F.called_zip 'c' (F.typeCall_zip_2 _ _) (F.newCall_zip_2 _ _) (λobj=>F.args_object_init_3 obj _ _) F.entry_zip_new (D7 a b xs ys) ⟨ha,hb,?_⟩;have kp:∀c q,s.heap.get? c=some q->(kA s.heap a b).get? c=some q:=λc q e=>Yd _ (Yd _ (Yd _ (Yd _ (Yd _ e))))
 have j:(kA s.heap a b).get? s.heap.objs.size=some { cls:=.type "tuple_iterator",data:=.fields #[.ref a,.int 0 0] }:=Yd _ (Yd _ (Yd _ (Yd _ (Yg _ rfl))));have at_:∀(h:Heap) (n:Nat) (q:Obj),h.objs.size=n->q.isFreed=false->(h.push q).get? n=some q:=λh n q e f=>by rw[←e];exact Yg _ f
 have l:(kA s.heap a b).get? (s.heap.objs.size+1)=some { cls:=.type "tuple_iterator",data:=.fields #[.ref b,.int 0 0] }:=Yd _ (Yd _ (Yd _ (at_ _ _ _ (by simp only[Heap.size_push]) rfl)));have m:(kA s.heap a b).get? (s.heap.objs.size+2)=some { cls:=.type "tuple",data:=.seq #[.ref s.heap.objs.size,.ref (s.heap.objs.size+1)] }:=Yd _ (Yd _ (at_ _ _ _ (by simp only[Heap.size_push]) rfl));have p:(kA s.heap a b).get? (s.heap.objs.size+3)=some { cls:=.type "tuple",data:=.seq #[.none,.none] }:=Yd _ (at_ _ _ _ (by simp only[Heap.size_push]) rfl);have g:(kA s.heap a b).get? (s.heap.objs.size+4)=some { cls:=.type "zip",data:=.fields #[.none,.bool false,.bool false,.ref (s.heap.objs.size+2),.ref (s.heap.objs.size+3)] }:=at_ _ _ _ (by simp only[Heap.size_push]) rfl;have up:∀{c vs},s.heap.IsTuple c vs->(kA s.heap a b).IsTuple c vs:=λe=>by
  obtain⟨r,e1,e2⟩:=e;exact⟨r,kp _ _ e1,e2⟩
 exact⟨⟨_,g,rfl⟩,h _ ⟨g,m,⟨_,_,p⟩,⟨_,j,rfl,rfl⟩,⟨_,l,rfl,rfl⟩,up ha,up hb⟩ kp⟩
end
section
variable {X:Cx}{pins:Zc}{σ:L2.St}{H:Hp}{s:Shared}{h':Heap}
theorem ad.turnedC{ch:Zh}{tk:Nat}(I:ad X pins σ H s)(k:∀b o,b∉ch->s.heap.get? b=some o->h'.get? b=some o)(hn:∀b∈ch,H b=none)
  (a:∀b∈ch,(b∈X.ex\/X.s₀.heap.objs.size<=b)/\b≠X.env.locals/\(∀x c,X.env.cells.lookup x=some c->c≠b)/\∀p∈X.pn++pins,p.1≠b):ad X pins σ H { s with heap:=h',toks:=tk }:=
 I.call (g':=s.gens) (d':=s.drawn) (t':=tk) (Fs k) (Bw I.hok k hn) I.bare a
end
def KF(K:Za)(a b:Addr):It:=
 ⟨λi H=>∃xs ys x y,bn K H a xs/\bn K H b ys/\xs[i]?=some x/\ys[i]?=some y,λi H x H'=>∃u v p,(∀xs,bn K H a xs->xs[i]?=some u)/\(∀ys,bn K H b ys->ys[i]?=some v)/\H p=none/\H'=upd H p (.tup [u,v])/\x=.ref p,λi H=>∃xs ys,bn K H a xs/\bn K H b ys/\xs.length=i⟩
theorem BD{P:Zv}{w:World}{K:Za}{m:Zg}{kk:Nat}{tp:Pos}(z u o i j a b:Addr)(D:ym z u o i j a b):Turn P w K (.Tuple m kk tp) (KF K a b) [z,u,o,i,j] z (λk h=>IsZip h z u o .none/\IsPair h u (.ref i) (.ref j)/\(∃p q,IsPair h o p q)/\h.IsTupleIter i a k/\h.IsTupleIter j b k) where
 mem:=by simp
 obj:=λk h st c hc=>by
  obtain⟨hz,hu,⟨p,q,f⟩,⟨L,e1,c1,V⟩,⟨O,e2,c2,W⟩⟩:=st;have t:c=z\/c=u\/c=o\/c=i\/c=j:=by simpa using hc
  rcases t with rfl | rfl | rfl | rfl | rfl
  ·exact⟨_,hz,λv y=>by cases y⟩
  ·exact⟨_,hu,λv y=>by cases y⟩
  ·exact⟨_,f,λv y=>by cases y⟩
  ·exact⟨L,e1,λv y=>by rw[V] at y;cases y⟩
  ·exact⟨O,e2,λv y=>by rw[W] at y;cases y⟩
 keep:=λk h h' st kp=>by
  obtain⟨hz,hu,⟨p,q,f⟩,hi,l⟩:=st;exact⟨kp z (by simp) _ hz,kp u (by simp) _ hu,⟨p,q,kp o (by simp) _ f⟩,hi.at λr x=>kp i (by simp) r x,l.at λr x=>kp j (by simp) r x⟩
 item:=by
  intro X hP hw hK hc k pins s σ H E I hf st hg;subst hP hw hK;obtain⟨xs,ys,x,y,ha,hb,hx,hy⟩:=hg;obtain⟨Y,B,C,Z⟩:=I.tuple ha;obtain⟨ib,R,G,zb⟩:=I.tuple hb;obtain⟨S,WB,WC⟩:=B.get hx;obtain⟨T,WD,WG⟩:=R.get hy;obtain⟨hz,hu,f,hi,l⟩:=st;have n:=hf z (by simp);refine BB D ⟨hz,hu,f,hi,l,C,G⟩ (x:=S) (y:=T) (by simpa using WB) (by simpa using WD) λh' e_ hT hk=>⟨_,rfl,?_⟩
  have P9:H s.heap.objs.size=none:=I.hok.fresh (YG _);have I1:ad X pins σ (upd H s.heap.objs.size (.tup [x,y])) { s with heap:=h',toks:=s.toks }:=ad.turnedT (ch:=[z,u,o,i,j]) (c_:=[S,T]) I
   (λc r hc q=>hk c r (λz=>hc (by simp[z])) (λz=>hc (by simp[z])) (λz=>hc (by simp[z])) (λz=>hc (by simp[z])) q)
   (λc hc=>(hf c hc).1) (λc hc=>⟨(hf c hc).2.2.2.1,(hf c hc).2.1,(hf c hc).2.2.2.2.1,(hf c hc).2.2.2.2.2⟩) (YG _) (.cons WC (.cons WG .nil)) (by show 2<=sizeLine;decide) ⟨_,hT,rfl,_,rfl⟩
  have live:∀c∈[z,u,o,i,j],c≠s.heap.objs.size:=λc hc y=>by
   have lt:∀{c:Addr}{r:Obj},s.heap.get? c=some r->c≠s.heap.objs.size:=λe=>ZV (Ye e)
   have t:c=z\/c=u\/c=o\/c=i\/c=j:=by simpa using hc
   obtain⟨p,q,f⟩:=f;obtain⟨L,e1,_⟩:=hi;obtain⟨O,e2,_⟩:=l;rcases t with rfl | rfl | rfl | rfl | rfl
   ·exact lt hz y
   ·exact lt hu y
   ·exact lt f y
   ·exact lt e1 y
   ·exact lt e2 y
  obtain⟨z1,u1,J,i1,j1,_,_⟩:=e_;refine wpAny_letOwnedTupleGo_zip (s:={ s with heap:=h' }) z1 λU z2 g=>?_
  have g:Heap.SameBut z h' U:=g;have I2:=L2.ad.turned (h':=U) (t':=s.toks) (it:=z) I1 (λc r hc q=>(g.2 c hc).trans q) (by rw[aM (live z (by simp))];exact n.1) n.2.1 n.2.2.2.1 n.2.2.2.2.1 n.2.2.2.2.2;obtain⟨p,q,J⟩:=J;refine⟨.ref s.heap.objs.size,_,I2,rfl,⟨x,y,s.heap.objs.size,λvs hv=>by rw[I.tuple_inj hv ha];exact hx,λvs hv=>by rw[I.tuple_inj hv hb];exact hy,P9,rfl,rfl⟩,⟨z2,(g.2 u D.uz).trans u1,⟨p,q,(g.2 o D.oz).trans J⟩,i1.at λr e=>(g.2 i D.iz).trans e,j1.at λr e=>(g.2 j D.jz).trans e⟩,λc hc=>?_⟩;rw[aM (live c hc)];exact(hf c hc).1
 done:=by
  intro X hP hw hK hc k pins s σ H E I hf st hg;subst hP hw hK;obtain⟨xs,ys,ha,hb,hx⟩:=hg;obtain⟨Y,B,C,Z⟩:=I.tuple ha;obtain⟨ib,R,G,zb⟩:=I.tuple hb;obtain⟨hz,hu,f,hi,l⟩:=st;have hl:=B.length;refine D4 (I.ok.hd hc) D ⟨hz,hu,f,hi,l,C,G⟩ (by simp;omega) λh' hk=>⟨rfl,?_⟩
  exact ad.turnedC (ch:=[z,u,o,i,j]) (tk:=s.toks) I (λc r hc q=>hk c r (λz=>hc (by simp[z])) (λz=>hc (by simp[z])) (λz=>hc (by simp[z])) (λz=>hc (by simp[z])) q)
   (λc hc=>(hf c hc).1) (λc hc=>⟨(hf c hc).2.2.2.1,(hf c hc).2.1,(hf c hc).2.2.2.2.1,(hf c hc).2.2.2.2.2⟩)
 self:=λ_ _ _ _ _ st h=>wpAny_pyIter_zip st.1 h
def iQ:List D->List D->List D
 |x::xs,y::ys=>.tup [x,y]::iQ xs ys
 |_,_=>[]
theorem qt:∀{xs ys:List D},xs.length=ys.length->(iQ xs ys).length=xs.length
 |[],_,_=>rfl
 |_::_,[],h=>by cases h
 |x::xs,y::ys,h=>by rw[iQ,YJ,YJ,qt (by simpa using h)]
theorem vK:∀{xs ys:List D}{i:Nat}{x:D},(iQ xs ys)[i]?=some x->∃d e,xs[i]?=some d/\ys[i]?=some e/\x=.tup [d,e]
 |[],_,_,_,h=>by rw[iQ] at h;cases h;intros;contradiction
 |_::_,[],_,_,h=>by rw[iQ] at h;cases h;intros;contradiction
 |a::xs,b::ys,0,x,h=>by
  rw[iQ] at h;cases h;exact⟨a,b,rfl,rfl,rfl⟩
 |a::xs,b::ys,i+1,x,h=>by
  rw[iQ] at h;exact vK (xs:=xs) (ys:=ys) (i:=i) (by simpa using h)
theorem D8{K:Za}{a b:Addr}{ds es:List D}{vs us:List V}{c:Hp}(sa:bn K c a vs)(g:ag K c ds vs)(f:bn K c b us)(j:ag K c es us)(hl:ds.length=es.length):pQ K (KF K a b) c (iQ ds es) (λ_=>True):=by
 intro i H M k l _;have sa:=k.sq sa;have g:=ag.mono k _ g;have f:=k.sq f;have j:=ag.mono k _ j;rw[qt hl];have la:=g.len;have lb:=j.len;refine⟨λhi=>⟨vs,us,vs[i]' 'a',us[i]' 'a',sa,f,ZE _,ZE _⟩,λhi=>⟨vs,us,sa,f,by omega⟩,λx H' d hd ⟨v,u,p,hv,hu,hp,e,y⟩=>?_⟩;subst e y;obtain⟨B,C,h1,m,rfl⟩:=vK hd;obtain⟨G,n,r⟩:=cO g.p h1;obtain⟨J,t,z⟩:=cO j.p m;have e1:=hv vs sa;have e2:=hu us f;rw[n] at e1;rw[t] at e2;cases e1;cases e2;have k:=Kp.new (o:=.tup [v,u]) hp;exact⟨k,l.newH hp,RV.tup_.2 ⟨p,_,rfl,bn.of aB,.cons (RV.mono k _ r) (.cons (RV.mono k _ z) .nil)⟩⟩
def D9(t:WA):WI:=λσ M R=>t σ M λds M1=>match ds with
 |[.tup xs,.tup ys]=>xs.length=ys.length/\R (iQ xs ys) (λ_=>True) M1
 |_=>False
section
variable {X:Cx}{H:Hp}{pos:Pos}
theorem GV{l r:Expr}{t:WA}{p:Pos}{g:Zg}{kk:Nat}{tp:Pos}(hg:Gl X "zip")(hm:X.mg "zip" = none)(h:fZ X [l,r] t)(hs:av l=true)(L:av r=true):tV X (.Tuple g kk tp) (.Call (.Name "zip" p) [l,r] [] pos) (D9 t):=by
 intro σ M ρ H R rs O q pins s I;refine Call_ (dh I hg hm (by rfl':bootBuiltins "zip" = some (.type "zip")) (PyProof.Rows.callWith_type1 (aN (h σ M ρ H _ rs O q pos pins s I) λus s1 P=>?_) (bt hs) (by rw[bt L];rfl)));obtain⟨vs,n,j,m,⟨S,ds,M1,u,l1,T,f⟩⟩:=P;try dsimp only at f
 split at f
 ·rename_i xs ys
  rw[ag] at u;obtain⟨v,MX,rfl,U,y⟩:=u;rw[ag] at y;obtain⟨v2,WH,rfl,V,z⟩:=y;rw[ag] at z;subst z;obtain⟨a,Z9,rfl,sa,B⟩:=RV.tup_.1 U;obtain⟨b,Z_,rfl,C,W⟩:=RV.tup_.1 V;cases m with
  |cons Y m=>
  cases m with
  |cons Z m=>
  cases m;cases Y;cases Z;obtain⟨ia,fa,G,za⟩:=j.tuple sa;obtain⟨ib,fb,J,zb⟩:=j.tuple C;have la:a<s1.heap.objs.size:=by obtain⟨_,e,_⟩:=G;exact Ye e
  have lb:b<s1.heap.objs.size:=by obtain⟨_,e,_⟩:=J;exact Ye e
  refine BC G J λh' st hk=>?_
  obtain⟨hz,hu,ho,hi,hj,_,_⟩:=st;refine wpAny_pyIter_zip (s:={ s1 with heap:=h' }) hz ?_;have I2:ad X pins ρ n { s1 with heap:=h' }:=j.kept (t':=s1.toks) hk;have D:=LL s1.heap.objs.size a b la lb;refine⟨s1.heap.objs.size+4,[s1.heap.objs.size+4,s1.heap.objs.size+2,s1.heap.objs.size+3,s1.heap.objs.size,s1.heap.objs.size+1],_,_,n,rfl,I2,BD _ _ _ _ _ a b D,⟨hz,hu,ho,hi,hj⟩,λc hc=>?_,⟨S,_,_,M1,T,trivial,D8 sa B C W f.1,by rw[qt f.1,B.len];exact za,f.2⟩⟩;have K:s1.heap.objs.size<=c:=by
   have Mx:c=s1.heap.objs.size+4\/c=s1.heap.objs.size+2\/c=s1.heap.objs.size+3\/c=s1.heap.objs.size\/c=s1.heap.objs.size+1:=by simpa using hc
   rcases Mx with rfl | rfl | rfl | rfl | rfl
   ·exact Nat.le_add_right _ _
   ·exact Nat.le_add_right _ _
   ·exact Nat.le_add_right _ _
   ·exact YG _
   ·exact Nat.le_add_right _ _
  exact j.fpOk K (j.hok.fresh K)
 ·exact Yh f
end
end DD
namespace DD
open PySem PyProof.Rows L2
section
variable {K:Type}[DecidableEq K]
def jL(l:List K)(k:K):List K:=if k∈l then l else l++[k]
def bv(ks:List K):List K:=ks.foldl jL []
theorem rN(ks:List K)(k:K):bv (ks++[k])=jL (bv ks) k:=by unfold bv;rw[List.foldl_append];rfl
theorem vL(l:List K)(k:K):(jL l k).length=if decide (k∈l) then l.length else l.length+1:=by
 unfold jL;by_cases h:k∈l
 ·rw[if_pos h,if_pos (YV h)]
 ·rw[if_neg h,if_neg (by simpa using h)];simp
theorem Ea(l:List K)(k j:K):decide (j∈jL l k)=(decide (j∈l)||decide (j=k)):=by
 unfold jL;by_cases h:k∈l
 ·rw[if_pos h]
  by_cases e:j=k
  ·subst e;simp[h]
  ·simp[e]
 ·rw[if_neg h];simp
theorem mY:∀(ks l:List K),(ks.foldl jL l).length<=l.length+ks.length
 |[],l=>by simp
 |k::ks,l=>by
  have h1:=mY ks (jL l k);have a:(jL l k).length<=l.length+1:=by rw[vL];split<;>omega
  simp only[List.foldl_cons,YJ];omega
theorem Eb(ks:List K):(bv ks).length<=ks.length:=by have:=mY ks [];simpa [bv] using this
end
section
variable {prog:Zv}{w:World}{A:Around}{R:Result->Shared->Prop}{K:Type}[DecidableEq K]{knd:KeyKind prog w K}
theorem vM{h:Heap}{a:Addr}{S S':K->Bool}{n n':Nat}(q:h.SetOf knd a S n)(e:∀k,S k=S' k)(b:n=n'):h.SetOf knd a S' n':=by
 obtain rfl:S=S':=funext e;subst b;exact q
theorem rO{h h':Heap}{a:Addr}{S:K->Bool}{n:Nat}(q:h.SetOf knd a S n)(k:∀o,h.get? a=some o->h'.get? a=some o):h'.SetOf knd a S n:=by
 obtain⟨o,es,b,t,y,r⟩:=q;exact⟨o,es,b,t,k o y,r⟩
theorem Ec{I:Addr}{fp wr:Zh}{G:Array GenState->Array GenState->Prop}{n:Nat}{P:Nat->Value->Prop}{St:Nat->Shared->Prop}(W:WalksS prog w A.in1 I fp wr G n P St){B:Addr}(g:B∉fp){ks:List K}
  (hn:ks.length=n) (hv:∀i v,P i v->∀k,ks[i]?=some k->knd.is k v=true/\v.scannable=true) (hb:n+1<scanBound):
  ∀(j i:Nat) (t:Shared),n-i=j->i<=n->St i t->t.heap.SetOf knd B (λk=>decide (k∈bv (ks.take i))) (bv (ks.take i)).length ->
   (∀t',Moved (B::wr) G t t'->t'.heap.SetOf knd B (λk=>decide (k∈bv ks)) (bv ks).length->R (.ok (.ret .none)) t') ->
   codeAny 'd' A (.builtin "set.update.loop" ⟨[.ref B,.ref I],[]⟩) R t:=by
 have hw:B∉wr:=λh=>g (W.sub _ h)
 have up:∀b∈wr,b∈B::wr:=λb y=>.tail _ y
 intro j;induction j with
 |zero=>
  intro i t e hi st q f;obtain rfl:i=n:=by omega
  refine codeAny_builtin F.entry_set_update_loop ?_;rw[Around.under_plainId F.plain_set_update_loop _];refine Yb (show wpAny _ A.in1 (pyNext (.ref I)) _ _ t from W.done t _ _ st λt' a=>?_);refine show wpAny _ A.in1 (ret Value.none) _ _ t' from Yc (f t' (a.mono up) ?_);rw[List.take_of_length_le (Nat.le_of_eq hn)] at q;exact rO q λo y=>a.heap B _ hw y
 |succ j m=>
  intro i t e hi st q f;have lt:i<n:=by omega
  refine codeAny_builtin F.entry_set_update_loop ?_;rw[Around.under_plainId F.plain_set_update_loop _];refine Yb (show wpAny _ A.in1 (pyNext (.ref I)) _ _ t from W.item i t _ _ lt st λv t' p e_ a=>?_);obtain⟨k,hk⟩:∃k,ks[i]?=some k:=⟨_,ZE 'a'⟩;obtain⟨is,sc⟩:=hv i v p k hk;have r:=rO (h':=t'.heap) q λo y=>a.heap B _ hw y
  refine Yb (show wpAny _ A.in1 (holding [v] (setAdd B v)) _ _ t' from Yj ?_);unfold setAdd;refine Yj (Yb (knd.pyHash is ?_));have c:(bv (ks.take i)).length+1<scanBound:=by have:=Eb (ks.take i);rw[YS] at this;omega
  have tk:ks.take (i+1)=ks.take i++[k]:=by rw[List.take_add_one,hk];rfl
  refine wpAny_setAddHashed_of (knd:=knd) (s:={ t' with toks:=t'.toks+1 }) is sc r c λh' l u=>?_
  have C:=vM (S':=λk'=>decide (k'∈bv (ks.take (i+1)))) (n':=(bv (ks.take (i+1))).length) u (λk'=>by rw[tk,rN,Ea]) (by rw[tk,rN,vL]);refine Yc ⟨plainId_quiet F.plain_set_update_loop _,m (i+1) _ 'a' lt (W.frame _ t' _ _ e_ (YN _) λb y o e=>?_) C λJ L O=>?_⟩
  ·rw[l.2 b (λz:b=B=>g (z▸y))];exact e
  ·refine f J (Moved.trans W.gtrans ((a.mono up).then_heap (YN _) λb o y e=>?_) L) O
   rw[l.2 b (λz:b=B=>y (z▸ZZ))];exact e
end
end DD
set_option maxHeartbeats 8000000
namespace DD
open PySem PyProof.Rows L2
section
variable {prog:Zv}{w:World}{A:Around}{Z:Zb}{s:Shared}{K:Type}[DecidableEq K]{knd:KeyKind prog w K}
def dM(led:Bool):Obj:={ cls:=.type "set",dict:=none,data:=.set #[] 0 (.fresh 0 0 led) }
theorem t6{T I:String}{l:Addr}{a:Zl}{ks:List K}{Q:Zb}{od:Zm}{m:Nat}{K_:Zn}(L:A.handled=none)(u:s.heap.get? l=some { cls:=.type T,dict:=od,data:=.seq a m,slots:=K_ })(s1:isSubtype (.type T) (.type "set")=pure false)(s2:isSubtype (.type T) (.type "frozenset")=pure false)(s3:(Value.type T==Value.type "dict")=false)
  (O:∀{A:Around} {E:Zb} {t:Shared} {Q:Zb},t.heap.get? l=some { cls:=.type T,dict:=od,data:=.seq a m,slots:=K_ }->Q (.ref t.heap.objs.size) { t with heap:=t.heap.push { cls:=.type I,data:=.fields #[.ref l,.int 0 0] } }->wpAny 'd' A (pyIter (.ref l)) Q E t)
  (P:∀J,l≠J->∃St:Nat->Heap->Prop,(∀{A:Around},A.handled=none->Walks prog w A J [J,l] [J] a.size (λi v=>a[i]?=some v) St)/\∀h:Heap,h.get? J=some { cls:=.type I,data:=.fields #[.ref l,.int 0 0] }->h.get? l=some { cls:=.type T,dict:=od,data:=.seq a m,slots:=K_ }->St 0 h)
  (hn:ks.length=a.size)
  (hv:∀(i:Nat) (v:Value),a[i]?=some v->∀k,ks[i]?=some k->knd.is k v=true/\v.scannable=true) (hb:a.size+1<scanBound)
  (q:∀(h':Heap) (tk:Nat),h'.SetOf knd s.heap.objs.size (λk=>decide (k∈bv ks)) (bv ks).length ->
   (∀b o,b<s.heap.objs.size->s.heap.get? b=some o->h'.get? b=some o)->Q (.ref s.heap.objs.size) { s with heap:=h',toks:=tk }):
  wpAny 'd' A (call (.type "set") [.ref l]) Q Z s:=by
 obtain⟨c,tl,WL⟩:=F.called_set.mro;have Vh:=F.called_set.made;have Tn:=F.called_set.sub;have n1:=F.called_set.notType;have n2:=F.called_set.canCreate;have n3:=F.typeCall_set_1 (.ref l);refine wpAny_call (codeAny_of_tree (show wpAny _ _ (callAny (.type "set") _) _ _ _ from Yc ⟨Code.quiet_builtin _ (by rfl'),codeAny_builtin F.entry_type_call ?_⟩));rw[Around.under_plain (weight_type_call_type "set" [.ref l] []) rfl];repeat (any_goals (first | assumption | wp_step))
 refine codeAny_mono (code_set_new_1 (.ref l) (E:=Z) (Q₁:=λo t=>∃led:Bool,o=.ref s.heap.objs.size/\t={ s with heap:=s.heap.push (dM led) }) λled=>⟨led,rfl,rfl⟩) λr t g=>?_
 cases r with
 |error e=>exact g
 |ok fl=>
  cases fl with
  |ret o=>
   obtain⟨led,rfl,rfl⟩:=g;have z:(s.heap.push (dM led)).get? s.heap.objs.size=some (dM led):=Yg _ rfl;have ty:Shared.TypeIs { s with heap:=s.heap.push (dM led) } (.ref s.heap.objs.size) "set":=⟨_,z,rfl⟩;have l1:=F.called_set.init.lookup;have l2:=F.called_set.init.bind (.ref s.heap.objs.size);repeat (any_goals (first | assumption | wp_step))
   refine codeAny_mono (codeAny_call_builtin (R:=wants (λr B=>r=.none/\∃h' tk,B={ s with heap:=h',toks:=tk }/\h'.SetOf knd s.heap.objs.size (λk=>decide (k∈bv ks)) (bv ks).length /\
     (∀b o,b<s.heap.objs.size->s.heap.get? b=some o->h'.get? b=some o)) Z) F.called_set.init.plain F.entry_set_init (check_set_init_1 ty ?_)) λS B j=>?_
   ·have C:(s.heap.push (dM led)).get? l=some { cls:=.type T,dict:=od,data:=.seq a m,slots:=K_ }:=Yd _ u
    unfold Builtin.«set.__init__» noKeywords Builtin.Frozenset.updateFrom;generalize hPI:pyIter=PI;wp_walk;subst hPI;refine O C (Yb (wpAny_runValue ?_));have n:(s.heap.push (dM led)).objs.size=s.heap.objs.size+1:=Heap.size_push ..;have G:l<s.heap.objs.size:=Ye u;have U:l≠(s.heap.push (dM led)).objs.size:=by rw[n];exact ZV (XJ G)
    have V:s.heap.objs.size∉[(s.heap.push (dM led)).objs.size,l]:=by
     rw[n];intro y;rcases YB.1 y with y | y
     ·exact absurd y (ZV (Nat.lt_succ_self _))
     ·exact absurd (XO.1 y) (Nat.ne_of_gt G)
    obtain⟨St,W,Y⟩:=P _ U;refine Ec ((W (by simp[L])).toS) (knd:=knd) (ks:=ks) V hn hv hb (a.size-0) 0 _ 'a' (YM _) (Y _ (Yg _ rfl) (Yd _ C)) ?_ ?_
    ·have:=(setObjOf_fresh (knd:=knd) led).setOf (Yd ({ cls:=.type I,data:=.fields #[.ref l,.int 0 0] }:Obj) z) (by unfold scanBound;omega)
     exact vM this (λk=>by simp[bv]) (by simp[bv])
    ·intro t' f p
     obtain⟨h',g',d',Pr,Sr⟩:=t';obtain rfl:g'=s.gens:=f.gens;obtain rfl:d'=s.drawn:=f.drawn;obtain rfl:Sr=s.os:=f.os;refine Yc (show wpAny _ _ (ret Value.none) _ _ _ from Yc ⟨rfl,h',Pr,rfl,p,λb o lt e=>f.heap b o ?_ (Yd _ (Yd _ e))⟩);rw[n];intro y;rcases YB.1 y with y | y
     ·exact ZV lt y
     ·exact ZV (XJ lt) (XO.1 y)
   ·cases S with
    |error e=>exact j
    |ok WM=>
     cases WM with
     |ret r=>
      obtain⟨rfl,h',tk,rfl,p,k'⟩:=j;repeat (any_goals (first | assumption | wp_step))
      exact q _ _ p k'
     |_=>exact j.elim
  |_=>exact g.elim
theorem BE{l:Addr}{c:Zl}{ks:List K}{Q:Zb}(f:A.handled=none)(hl:s.heap.IsList l c)(hn:ks.length=c.size)
  (hv:∀(i:Nat) (v:Value),c[i]?=some v->∀k,ks[i]?=some k->knd.is k v=true/\v.scannable=true) (hb:c.size+1<scanBound)
  (q:∀(h':Heap) (tk:Nat),h'.SetOf knd s.heap.objs.size (λk=>decide (k∈bv ks)) (bv ks).length ->
   (∀b o,b<s.heap.objs.size->s.heap.get? b=some o->h'.get? b=some o)->Q (.ref s.heap.objs.size) { s with heap:=h',toks:=tk }):
  wpAny 'd' A (call (.type "set") [.ref l]) Q Z s:=by
 obtain⟨⟨oc,od,j,K_⟩,n,p,m,r⟩:=hl;obtain rfl:oc=.type "list":=p;obtain rfl:j=.seq c m:=r;exact t6 (I:="list_iterator") f n F.sub_list_set F.sub_list_frozenset 'c' (λg=>wpAny_pyIter_list ⟨_,g,rfl,_,rfl⟩) (λJ t=>⟨_,λh=>Walks.list h J l t c,λh' a b=>⟨⟨_,a,rfl,rfl⟩,⟨_,b,rfl,_,rfl⟩⟩⟩) hn hv hb q
theorem zH{l:Addr}{c:Zl}{ks:List K}{Q:Zb}(f:A.handled=none)(hl:s.heap.IsTuple l c)(hn:ks.length=c.size)
  (hv:∀(i:Nat) (v:Value),c[i]?=some v->∀k,ks[i]?=some k->knd.is k v=true/\v.scannable=true) (hb:c.size+1<scanBound)
  (q:∀(h':Heap) (tk:Nat),h'.SetOf knd s.heap.objs.size (λk=>decide (k∈bv ks)) (bv ks).length ->
   (∀b o,b<s.heap.objs.size->s.heap.get? b=some o->h'.get? b=some o)->Q (.ref s.heap.objs.size) { s with heap:=h',toks:=tk }):
  wpAny 'd' A (call (.type "set") [.ref l]) Q Z s:=by
 obtain⟨⟨oc,od,j,K_⟩,n,p,m,r⟩:=hl;obtain rfl:oc=.type "tuple":=p;obtain rfl:j=.seq c m:=r;exact t6 (I:="tuple_iterator") f n F.sub_tuple_set F.sub_tuple_frozenset 'c' (λg=>wpAny_pyIter_tuple ⟨_,g,rfl,_,rfl⟩) (λJ t=>⟨_,λh=>Walks.tuple h J l t c,λh' a b=>⟨⟨_,a,rfl,rfl⟩,⟨_,b,rfl,_,rfl⟩⟩⟩) hn hv hb q
end
end DD
namespace DD
open PySem PySem.Spec PyProof.Rows L2
def mz:List D->Option (List Str)
 |[]=>some []
 |.str x::r=>(mz r).map (x :: ·)
 |_=>none
def ip:List D->Option (List Int)
 |[]=>some []
 |.int x::r=>(ip r).map (x :: ·)
 |_=>none
theorem vN{K:Za}{H:Hp}:∀{ds:List D}{ks:Zf}{vs:List V},mz ds=some ks->ag K H ds vs->vs=ks.map V.str
 |[],ks,vs,h,r=>by
  rw[mz] at h;cases h;rw[ag] at r;subst r;rfl
 |.str x::ds,ks,vs,h,r=>by
  rw[mz] at h;rw[ag] at r;obtain⟨v,c,rfl,a,b⟩:=r;cases q:mz ds with
  |none=>rw[q] at h;cases h
  |some f=>
   rw[q] at h;cases h;rw[vN q b,RV.str_.1 a];rfl
 |.non::_,_,_,h,_=>by cases h
 |.bl _::_,_,_,h,_=>by cases h
 |.int _::_,_,_,h,_=>by cases h
 |.tup _::_,_,_,h,_=>by cases h
 |.ref _::_,_,_,h,_=>by cases h
 |.ty _::_,_,_,h,_=>by cases h
theorem qu{K:Za}{H:Hp}:∀{ds:List D}{ks:Zi}{vs:List V},ip ds=some ks->ag K H ds vs->vs=ks.map V.int
 |[],ks,vs,h,r=>by
  rw[ip] at h;cases h;rw[ag] at r;subst r;rfl
 |.int x::ds,ks,vs,h,r=>by
  rw[ip] at h;rw[ag] at r;obtain⟨v,c,rfl,a,b⟩:=r;cases q:ip ds with
  |none=>rw[q] at h;cases h
  |some f=>
   rw[q] at h;cases h;rw[qu q b,RV.int_.1 a];rfl
 |.non::_,_,_,h,_=>by cases h
 |.bl _::_,_,_,h,_=>by cases h
 |.str _::_,_,_,h,_=>by cases h
 |.tup _::_,_,_,h,_=>by cases h
 |.ref _::_,_,_,h,_=>by cases h
 |.ty _::_,_,_,h,_=>by cases h
def o8(xs:List D)(Q:Int->Prop):Prop:=xs.length<4000/\match mz xs with
 |some ks=>Q ((bv ks).length:Nat)
 |none=>match ip xs with
  |some ks=>Q ((bv ks).length:Nat)
  |none=>False
def zI(d:D)(M:MH)(Q:List D->Prop):Prop:=match d with
 |.ref a=>match M a with
  |some (.lst xs)=>Q xs
  |some (.rol xs)=>Q xs
  |_=>False
 |_=>False
def Ed(d:D)(M:MH)(Q:List D->Prop):Prop:=match d with
 |.tup xs=>Q xs
 |d=>zI d M Q
def tx(t:WE):WE:=λσ M Q=>t σ M λd M1=>Ed d M1 λxs=>o8 xs λn=>Q (.int n) M1
section
variable {X:Cx}{H:Hp}{pos:Pos}
theorem GW{K:Za}{d:D}{M:MH}{Q:List D->Prop}{v:V}(q:zI d M Q)(c:RV K H d v)(f:RM K M H):∃a xs vs,v=.ref a/\bx K H a vs/\ag K H xs vs/\Q xs:=by
 unfold zI at q;split at q
 ·rename_i a
  split at q
  ·rename_i xs e
   obtain⟨ys,e1,b⟩:=f a _ e;exact⟨a,xs,ys,RV.ref_.1 c,bx.of e1,b,q⟩
  ·rename_i xs e
   obtain⟨ys,e1,b⟩:=f a _ e;exact⟨a,xs,ys,RV.ref_.1 c,.inl e1,b,q⟩
  ·exact Yh q
 ·exact Yh q
theorem BF{pins:Zc}{ρ:L2.St}{s:Shared}{a:Addr}{xs:List D}{vs:List V}{Q:Int->Prop}{Z:Zb}{R:Zb}(hc:X.calm=true)(I:ad X pins ρ H s)(hq:bx X.K H a vs\/bn X.K H a vs)(f:ag X.K H xs vs)(q:o8 xs Q)
  (g:∀n tk h' r,Q n->ad X pins ρ H { s with heap:=h',toks:=r }->R (.int n tk) { s with heap:=h',toks:=r }):
  wpAny 'b' X.A (call (.type "set") [.ref a]) (λu s1=>wpAny 'b' X.A (call (.builtin "len") [u]) R Z s1) Z s:=by
 have ht:∃c_,ak vs c_/\(s.heap.IsList a c_.toArray\/s.heap.IsTuple a c_.toArray):=by
  rcases hq with hq | hq
  ·obtain⟨c_,c,p,_⟩:=I.list hq
   exact⟨c_,c,.inl p.isList⟩
  ·obtain⟨c_,c,p,_⟩:=I.tuple hq
   exact⟨c_,c,.inr p⟩
 obtain⟨c_,c,p⟩:=ht;have W:xs.length=c_.length:=by rw[f.len,c.length]
 have y:∀{K:Type}[DecidableEq K] {knd:KeyKind X.prog X.w K}{ks:List K}{j:Zb},ks.length=c_.toArray.size->(∀(i:Nat) (v:Value),c_.toArray[i]?=some v->∀k,ks[i]?=some k->knd.is k v=true/\v.scannable=true)->c_.toArray.size+1<scanBound ->
   (∀(h':Heap) (tk:Nat),h'.SetOf knd s.heap.objs.size (λk=>decide (k∈bv ks)) (bv ks).length->(∀b o,b<s.heap.objs.size->s.heap.get? b=some o->h'.get? b=some o)->j (.ref s.heap.objs.size) { s with heap:=h',toks:=tk }) ->
   wpAny 'b' X.A (call (.type "set") [.ref a]) j Z s:=by
  intro K _ knd ks j z B C G;rcases p with p | p
  ·exact BE (I.ok.hd hc) p z B C G
  ·exact zH (I.ok.hd hc) p z B C G
 unfold o8 at q;obtain⟨hl,q⟩:=q;have fin:∀{K:Type}[DecidableEq K] {knd:KeyKind X.prog X.w K}{ks:List K}(h':Heap) (tk:Nat),h'.SetOf knd s.heap.objs.size (λk=>decide (k∈bv ks)) (bv ks).length->Q ((bv ks).length:Nat) ->
   (∀b o,b<s.heap.objs.size->s.heap.get? b=some o->h'.get? b=some o)->wpAny 'b' X.A (call (.builtin "len") [.ref s.heap.objs.size]) R Z { s with heap:=h',toks:=tk }:=by
  intro K _ knd ks h' tk st J kp;obtain⟨o,es,Y,t,L,O,P,_,_,S,T,U⟩:=st;rw[←U] at J;refine call_len_set (s:={ s with heap:=h',toks:=tk }) L O P T (by unfold scanBound at S;omega) ?_;exact g _ _ h' (tk+1+1) J (I.kept (t':=tk+1+1) λb o e=>kp b o (Ye e) e)
 split at q
 ·rename_i ks e
  obtain rfl:=vN e f;have l:ks.length=c_.length:=by have:=c.length;simpa using this
  refine y (knd:=strKind X.prog X.w) (ks:=ks) (by simpa using l) (λi v hv k hk=>?_) (by unfold scanBound;simp;omega) λh' tk st kp=>fin h' tk st q kp
  obtain⟨u,h1,m⟩:=c.get (i:=i) (x:=.str k) (by simp[hk]);have:v=u:=by simp at hv;rw[hv] at h1;cases h1;rfl
  subst this;obtain⟨t,rfl⟩:∃t,v=Value.str k t:=m;exact⟨strKind_is _ _ _ _,rfl⟩
 ·split at q
  ·rename_i ks e
   obtain rfl:=qu e f;have l:ks.length=c_.length:=by have:=c.length;simpa using this
   refine y (knd:=intKind X.prog X.w) (ks:=ks) (by simpa using l) (λi v hv k hk=>?_) (by unfold scanBound;simp;omega) λh' tk st kp=>fin h' tk st q kp
   obtain⟨u,h1,m⟩:=c.get (i:=i) (x:=.int k) (by simp[hk]);have:v=u:=by simp at hv;rw[hv] at h1;cases h1;rfl
   subst this;obtain⟨t,rfl⟩:∃t,v=Value.int k t:=m;exact⟨intKind_is _ _ _ _,rfl⟩
  ·exact Yh q
theorem zJ{l:Expr}{t:WE}{p p2 r:Pos}(hc:X.calm=true)(hg:Gl X "len")(hm:X.mg "len" = none)(z:Gl X "set")(B:X.mg "set" = none)(h:aP X l t)(hs:av l=true):aP X (.Call (.Name "len" p) [.Call (.Name "set" p2) [l] [] r] [] pos) (tx t):=by
 intro σ M ρ H Q rs C q pins s I;refine Call_ (dh I hg hm PySem.boot_len (callWith_builtin1 (args_cons (Call_ (dh I z B (by rfl':bootBuiltins "set" = some (.type "set")) (PyProof.Rows.callWith_type1 (args_cons (aN (h σ M ρ H _ rs C q pins s I) λu s1 G=>?_) (bt hs)) (bt hs) rfl))))));obtain⟨v,f,J,L,⟨O,d,M1,j,m,b⟩⟩:=G;have P:∃a xs vs,v=.ref a/\(bx X.K f a vs\/bn X.K f a vs)/\ag X.K f xs vs/\o8 xs λn=>Q (.int n) M1:=by
  unfold Ed at b;dsimp only at b;split at b
  ·obtain⟨a,vs,rfl,sq,c⟩:=RV.tup_.1 j
   exact⟨a,_,vs,rfl,.inr sq,c,b⟩
  ·obtain⟨a,xs,vs,rfl,sq,c,g⟩:=GW b j m
   exact⟨a,xs,vs,rfl,.inl sq,c,g⟩
 obtain⟨a,xs,vs,rfl,sq,c,g⟩:=P;cases L;refine args_nil ?_
 have:=BF (X:=X) (R:=λw t=>EP X pins ρ (lift X.K H Q) w t) (Z:=X.xe) hc J sq c g λn tk h' U S T=>⟨.int n,f,T,⟨_,rfl⟩,O,.int n,M1,RV.int_.2 rfl,m,S⟩
 exact wpAny_mono this (λu t y=>args_nil y) λ_ _ y=>y
end
section
variable {X:Cx}{H:Hp}{pos:Pos}{e:Expr}{es:Zg}
inductive Bj where
 deriving DecidableEq
end
def dN(a:Int)(n:Nat):List V:=(List.range n).map λ(i:Nat)=>.int (a+(i:Int))
theorem zK(a:Int)(n:Nat):(dN a n).length=n:=by unfold dN;rw[ZG,ZL]
theorem o9{K:Za}{H:Hp}{a:Type}{f:a->D}{g:a->V}(h:∀x,RV K H (f x) (g x)):∀(l:List a),ag K H (l.map f) (l.map g)
 |[]=>.nil
 |x::l=>.cons (h x) (o9 h l)
theorem Ee{K:Za}{H:Hp}(a b:Int):ag K H (bD a b) (dN a (b-a).toNat):=o9 (λ_=>RV.int_.2 rfl) _
theorem rQ:∀(c_:Zd) (a:Int),(∀(j:Nat) v,c_[j]?=some v->∃t,v=Value.int (a+j*1) t)->ak (dN a c_.length) c_
 |[],_,_=>.nil
 |u::c_,a,h=>by
  have e:dN a (u::c_).length=.int a::dN (a+1) c_.length:=by
   unfold dN;rw[YJ,List.range_succ_eq_map,YL,ZO];congr 1
   ·simp
   ·refine ZP λi _=>?_
    show V.int (a+((i+1:Nat):Int))=V.int (a+1+(i:Int));congr 1;omega
  rw[e];refine .cons ?_ (rQ c_ (a+1) λj v e=>?_)
  ·obtain⟨t,e⟩:=h 0 u rfl
   exact⟨t,by rw[e];simp⟩
  ·obtain⟨t,e2⟩:=h (j+1) v (by simpa using e)
   refine⟨t,?_⟩;rw[e2];congr 1;omega
def zL(ds:List D)(Q:List D->Prop):Prop:=match ds with
 |[.int j]=>(-1000000<j/\j<1000000)/\Q (bD 0 j)
 |[.int i,.int j]=>(-1000000<i/\i<1000000/\-1000000<j/\j<1000000)/\Q (bD i j)
 |_=>False
def zM(t:WA):WE:=λσ M Q=>t σ M λds M1=>zL ds λxs=>∀p,M1 p=none->Q (.ref p) (ab M1 p (.lst xs))
section
variable {X:Cx}{H:Hp}{pos:Pos}{e:Expr}{es:Zg}
theorem BG{pins:Zc}{ρ:L2.St}{s:Shared}{lo hi:Int}{t u v:Tok}{tk:Nat}{M:MH}{c:Hp}{Q:DK}(hc:X.calm=true)(I:ad X pins ρ H s)(l:Kp c H)(f:RM X.K M H)(h1:-1000000<lo)(z:lo<1000000)(B:-1000000<hi)(C:hi<1000000)
  (q:∀p,M p=none->Q (.ref p) (ab M p (.lst (bD lo hi)))):
  wpAny 'b' X.A (call (.type "list") [.ref s.heap.objs.size]) (EP X pins ρ (lift X.K c Q)) X.xe { s with heap:=s.heap.push { cls:=.type "range",data:=.fields #[.int lo t,.int hi u,.int 1 v] },toks:=tk }:=by
 have g:ad X pins ρ H { s with heap:=s.heap.push { cls:=.type "range",data:=.fields #[.int lo t,.int hi u,.int 1 v] },toks:=tk }:=I.kept λb o e=>Yd _ e
 refine call_list_range (s:={ s with heap:=s.heap.push { cls:=.type "range",data:=.fields #[.int lo t,.int hi u,.int 1 v] },toks:=tk }) (n:=(hi-lo).toNat) (I.ok.hd hc) (IsRange.new ..) (small_one 'a' 'a' 'a' 'a')
  (by rw[rangeSize_one];split<;>omega) 'a' λh' r f_ c' hk y a=>?_
 obtain⟨hs,a⟩:=a;have hl:f_.toList.length=(hi-lo).toNat:=by rw[←hs];simp
 have hv:ak (dN lo (hi-lo).toNat) f_.toList:=by
  rw[←hl];refine rQ f_.toList lo λj w e=>?_
  exact a j w (by rw[←XD];exact e)
 have hf:H (s.heap.push { cls:=.type "range",data:=.fields #[.int lo t,.int hi u,.int 1 v] }).objs.size=none:=g.hok.fresh (YG _);have k:=Kp.new (o:=.lst (dN lo (hi-lo).toNat)) hf;have hz:(dN lo (hi-lo).toNat).length<=sizeLine:=by
  rw[zK];have:(2000000:Nat)<=sizeLine:=by decide
  omega
 exact⟨.ref _,_,g.laid (t':=r) hk (YG _) (show a9 X.prog X.w _ h' _ (.lst (dN lo (hi-lo).toNat)) from⟨hz,f_.toList,c',hv,by simpa using y⟩),rfl,l.trans k,.ref _,_,RV.ref_.2 rfl,f.new (m:=.lst (bD lo hi)) hf ⟨_,aB,Ee _ _⟩,q _ (f.fresh hf)⟩
theorem Ef{a:Expr}{t:WA}{p p2 c:Pos}(hc:X.calm=true)(hg:Gl X "list")(hm:X.mg "list" = none)(f:Gl X "range")(g:X.mg "range" = none)(ha:fZ X [a] t)(hs:av a=true):
  aP X (.Call (.Name "list" p) [.Call (.Name "range" p2) [a] [] c] [] pos) (zM t):=by
 intro σ M ρ H Q rs l q pins s I;refine Call_ (dh I hg hm (by rfl':bootBuiltins "list" = some (.type "list")) (PyProof.Rows.callWith_type1 (args_cons (Call_ (dh I f g boot_range (PyProof.Rows.callWith_type1 (aN (ha σ M ρ H _ rs l q _ pins s I) λus s1 m=>?_) (bt hs) rfl)))) rfl rfl));obtain⟨vs,O,n,r,⟨y,ds,M1,z,B,C,b⟩⟩:=m;unfold zL at b;dsimp only at b;split at b
 ·obtain⟨v,rfl,G⟩:=dJ z
  cases RV.int_.1 G;obtain⟨u,rfl,J⟩:=vals1 r;obtain⟨t,rfl⟩:=J;obtain⟨⟨K,L⟩,b⟩:=b;refine call_range_1 (args_nil ?_);exact BG hc n y C 'c' 'c' K L b
 ·rename_i i j
  exact absurd B (by simp)
 ·exact Yh b
theorem Eg{a b:Expr}{t:WA}{p p2 f:Pos}(hc:X.calm=true)(hg:Gl X "list")(hm:X.mg "list" = none)(g:Gl X "range")(j:X.mg "range" = none)(ha:fZ X [a,b] t)(hs:av a=true)(l:av b=true):
  aP X (.Call (.Name "list" p) [.Call (.Name "range" p2) [a,b] [] f] [] pos) (zM t):=by
 intro σ M ρ H Q rs m q pins s I;refine Call_ (dh I hg hm (by rfl':bootBuiltins "list" = some (.type "list")) (PyProof.Rows.callWith_type1 (args_cons (Call_ (dh I g j boot_range (PyProof.Rows.callWith_type1 (aN (ha σ M ρ H _ rs m q _ pins s I) λus s1 n=>?_) (bt hs) (da (by rw[XS,l];rfl)))))) rfl rfl));obtain⟨vs,U,r,y,⟨z,ds,M1,B,C,G,c⟩⟩:=n;unfold zL at c;dsimp only at c;split at c
 ·exact absurd C (by simp)
 ·obtain⟨v,V,rfl,J,K⟩:=zu B
  cases RV.int_.1 J;cases RV.int_.1 K;obtain⟨u,W,rfl,L,O⟩:=y.two;obtain⟨t,rfl⟩:=L;obtain⟨t',rfl⟩:=O;obtain⟨⟨P,R,S,T⟩,c⟩:=c;refine call_range_2 (args_nil ?_);exact BG hc r z G P R S T c
 ·exact Yh c
structure Ft (K:Za) (C D:Addr) (b:Bool):Prop where
 cl:fW K C
 ha:PySem.W.findIn K (.ref C) "__class__" = some (some (.builtin "object.__class__"))
 hn:PySem.W.specialIn K (.builtin "object.__class__") "__get__" = some (some (.builtin "getset_descriptor.__get__"))
 ht:PySem.W.takesIn K (.builtin "object.__class__")=some true
 hm:PySem.W.mroIn K C (.type "object")=some true
 ki:PySem.W.kitOne K (.ref C) (.ref D)=some b
abbrev LM:=Addr->Addr->Option Bool
end
section
variable {prog:Zv}{w:World}{A:Around}{E:Zb}{s:Shared}{κ:Type}[DecidableEq κ]{knd:KeyKind prog w κ}
abbrev uR(knd:KeyKind prog w κ)(a:List (κ×Value)):Nat->Value->Prop:=λi v=>∃k x,a[i]?=some (k,x)/\knd.is k v=true
theorem BH{d:Addr}{g:List (κ×Value)}{j:Nat}{Q:Bool->Shared->Prop}(hd:(d==sysModules)=false)(hm:s.heap.DictAt knd d g j)(hl:g.length<=2 ^ 24)(h:∀b tk,Q b { s with toks:=tk }):
  wpAny 'd' A (Builtin.List.listLengthHint (.ref d)) Q E s:=by
 have a:s.TypeIs (.ref d) "dict":=hm.dictOf.typeIs;unfold Builtin.List.listLengthHint;refine Yb (wpAny_specialOf a F.slot_dict_len.lookup ?_);generalize hid:("dict.__len__" : String)=c;wp_delta;rw[show splitId c=some ("dict","__len__") from by subst hid;rfl'];subst hid;refine Yb (wpAny_isInstance (T:="dict") (b:=true) a (by rw[isSubtype_type];kernel_rfl) ?_);refine wpAny_ite_split (λf=>absurd f 'c') (λ_=>?_);refine wpAny_ite_split (λ_=>?_) (λf=>absurd (by rfl') f);refine Yb (wpAny_typeOf a ?_);exact Yc (h false s.toks)
theorem pX{R:Result->Shared->Prop}{d:Addr}{a:List (κ×Value)}{g:Nat}(K:A.handled=none)(hd:(d==sysModules)=false)(hm:s.heap.DictAt knd d a g)(hl:a.length<=2 ^ 24)(S:Addr)(res:Value)(u:Nat)
  (l:s.heap.get? S=some { cls:=.type "list",data:=.seq #[] u })
  (L:∀h' tk f_ c',(∀b o,b≠S->s.heap.get? b=some o->h'.get? b=some o)->h'.get? S=some { cls:=.type "list",dict:=none,data:=.seq f_ c',slots:=#[] }->ItemsOf (uR knd a) f_ a.length->R (.ok (.ret res)) { s with heap:=h',toks:=tk }):
  wpAny 'd' A.in1 (Builtin.List.listExtendWith (.ref S) (.ref d) res)
   (λfin j=>match fin with
    |.done f=>R (.ok f) j
    |.again c'=>c'.quiet=true/\codeAny 'd' A c' R j) (λe j=>R (.error e) j) s:=by
 have O:s.TypeIs (.ref d) "dict":=hm.dictOf.typeIs;have m:S≠d:=λe=>by
  obtain⟨o,es,P,_,T,_⟩:=id hm;rw[e,P] at l;cases l;cases T
 have U:d≠s.heap.objs.size:=ZV hm.lt_size;have n:S≠s.heap.objs.size:=ZV (Ye l);have W:=(Walks.dictKeys (prog:=prog) (w:=w) (A:=A.in1) (knd:=knd) K s.heap.objs.size d U a g).toS;have go:∀(h:Heap) (c tk:Nat),h.IsKeyIter s.heap.objs.size d 0 a.length g->(∀b o,b≠S->s.heap.get? b=some o->h.get? b=some o)->h.get? S=some { cls:=.type "list",data:=.seq #[] c } ->
   codeAny 'd' A (.builtin "list.extend.loop" ⟨[.ref S,.ref s.heap.objs.size,res],[]⟩) R { s with heap:=h,toks:=tk }:=by
  intro h c tk hit hk V;refine codeAny_extend_loopS W (by rw[sizeLine_eq];omega) S (by simp;exact⟨n,m⟩) res a.length 0 _ #[] c rfl (YM _) ⟨hit,hm.at' λo e=>hk d o (Ne.symm m) e⟩ V (ItemsOf.nil _) λj f_ c' y Y Z=>?_
  rw[Moved.eq_with y];refine L j.heap j.toks f_ c' (λb o hb e=>y.heap b o (λMf=>?_) (hk b o hb e)) Y Z;rcases YB.mp Mf with e' | e'
  ·exact hb e'
  ·exact absurd (Ye e) (by rw[XO.mp e'];exact ZU _)
 unfold Builtin.List.listExtendWith;refine Yb (wpAny_typeOf O ?_);have n1:Builtin.List.listSameRef (.ref S) (.ref d)=false:=by simp[Builtin.List.listSameRef,m]
 simp only[n1,show(Value.type "dict" == Value.type "list")=false by decide,show(Value.type "dict" == Value.type "tuple")=false by decide,Bool.or_false,XH,if_false];refine Yb (wpAny_pyIter_dict hd hm ?_);refine Yb (Yj (BH hd (hm.push _) hl λb tk=>?_));have p:(s.heap.push { cls:=.type "dict_keyiterator",data:=.fields #[.ref d,.int 0 0,.int a.length 0,.int g 0] }).IsKeyIter s.heap.objs.size d 0 a.length g:=⟨_,Yg _ rfl,rfl,rfl⟩;have s1:=Yd { cls:=.type "dict_keyiterator",data:=.fields #[.ref d,.int 0 0,.int a.length 0,.int g 0] } l;have r:∀b o,b≠S->s.heap.get? b=some o->(s.heap.push { cls:=.type "dict_keyiterator",data:=.fields #[.ref d,.int 0 0,.int a.length 0,.int g 0] }).get? b=some o:=λb o _ e=>Yd _ e
 generalize s.heap.push { cls:=.type "dict_keyiterator",data:=.fields #[.ref d,.int 0 0,.int a.length 0,.int g 0] }=h1 at p s1 r ⊢;refine wpAny_ite_split (λ_=>?_) (λ_=>Yc ⟨plainId_quiet F.plain_extend_loop _,go _ u _ p r s1⟩);refine Yb (wpAny_rule (Yb ?_));show wpAny _ _ (updateSeq S (·.push .none) >>= λ_=>updateSeq S (·.pop)) _ _ _;refine Yb (wpAny_updateSeq s1 rfl ?_);have s2:=Heap.get?_update_self (Obj.mapSeq (·.push Value.none)) s1 rfl;have z:(h1.update S (Obj.mapSeq (·.push Value.none))).IsKeyIter s.heap.objs.size d 0 a.length g:=p.at λo e=>(Heap.get?_update_other _ _ n).trans e
 have B:∀b o,b≠S->s.heap.get? b=some o->(h1.update S (Obj.mapSeq (·.push Value.none))).get? b=some o:=λb o hb e=>(Heap.get?_update_other _ _ (Ne.symm hb)).trans (r b o hb e)
 generalize h1.update S (Obj.mapSeq (·.push Value.none))=t at z s2 B ⊢;refine wpAny_updateSeq (hz:=by seq_fits) s2 rfl ?_;have C:=Heap.get?_update_self (Obj.mapSeq (·.pop)) s2 rfl;have G:(t.update S (Obj.mapSeq (·.pop))).IsKeyIter s.heap.objs.size d 0 a.length g:=z.at λo e=>(Heap.get?_update_other _ _ n).trans e
 have J:∀b o,b≠S->s.heap.get? b=some o->(t.update S (Obj.mapSeq (·.pop))).get? b=some o:=λb o hb e=>(Heap.get?_update_other _ _ (Ne.symm hb)).trans (B b o hb e)
 generalize t.update S (Obj.mapSeq (·.pop))=h3 at G C J ⊢;exact Yc ⟨plainId_quiet F.plain_extend_loop _,go h3 _ _ G J C⟩
end
end DD
namespace TS
open PySem PyProof.Rows
def f8:Bool->Keyed->Array Keyed->Nat->Nat->Nat->StateT SortSt Sem (Option Nat):=sortPriv% PySem.Builtin.gallop
theorem zN (left:Bool) (b:Keyed) (arr:Array Keyed) (base n hint:Nat):f8 left b arr base n hint = (do
  let a (i:Nat):StateT SortSt Sem (Option Bool):=do
    let x ← elem' arr (base + i)
    if left then lt' x b else return (← lt' b x).map (!·)
  let mut lastofs:=0
  let mut ofs:=1
  let mut lo:=0
  let mut hi:=0
  let some right ← a hint | return none
  if right then
    let c:=n - hint
    for _ in [0:n] do
      if ofs >= c then break
      let some more ← a (hint + ofs) | return none
      if !more then break
      lastofs:=ofs
      ofs:=2 * ofs + 1
    lo:=hint + lastofs + 1
    hi:=hint + min ofs c
  else
    let c:=hint + 1
    for _ in [0:n] do
      if ofs >= c then break
      let some found ← a (hint - ofs) | return none
      if found then break
      lastofs:=ofs
      ofs:=2 * ofs + 1
    lo:=hint + 1 - min ofs c
    hi:=hint - lastofs
  for _ in [0:n] do
    if lo >= hi then break
    let m:=lo + (hi - lo) / 2
    let some more ← a m | return none
    if more then lo:=m + 1 else hi:=m
  return some hi):=rfl
section
variable {prog:Zv}{w:World}{A:Around}{E:Zb}{s:Shared}{kd:SortKind}{R:Keyed->Int}{a₀:Array Keyed}
def dj(prog:Zv)(w:World)(A:Around)(s:Shared)(kd:SortKind)(R:Keyed->Int)(a₀:Array Keyed):Prop:=
 ∀x y,x∈a₀.toList->y∈a₀.toList->∀(Q:Bool->Shared->Prop) (E:Zb),Q (decide (R x<R y)) s->wpAny 'd' A (keyLt' kd x.1 y.1) Q E s
theorem rR{st:SortSt}{x y:Keyed}{Q:Option Bool->SortSt->Prop}(a:dj prog w A s kd R a₀)(hk:kindOf st=kd)(hx:x∈a₀.toList)(hy:y∈a₀.toList)(h:Q (some (decide (R x<R y))) st):wpS 'd' A E s (lt' x y) Q st:=by
 rw[lt'_eq];refine wpS_bind (wpS_get ?_);rw[hk];refine wpS_bind (wpS_lift (wpAny_attempt (a x y hx hy _ _ ?_)));exact⟨rfl,wpS_pure h⟩
theorem bp{st:SortSt}{xs:Array Keyed}{i:Nat}{p:Keyed}{Q:Keyed->SortSt->Prop}(h:xs[i]?=some p)(hq:Q p st):wpS 'd' A E s (elem' xs i) Q st:=by
 rw[elem'_eq,h];exact wpS_pure hq
theorem BI {st:SortSt} {u:Nat->StateT SortSt Sem (Option Bool)} {b:Nat->Bool} {n lo hi:Nat} {Q:Option Nat->SortSt->Prop} (hb:∀ i,i < n->∀ Q:Option Bool->SortSt->Prop,Q (some (b i)) st->wpS 'd' A E s (u i) Q st) (y:∀ i j,i<=j->j < n->b j = true->b i = true)
    (h1:lo<=hi) (p:hi<=n) (C:∀ i,i < lo->b i = true) (G:∀ i,hi<=i->i < n->b i = false) (h:∀ k,k<=n->(∀ i,i < n->b i = decide (i < k))->Q (some k) st) :
    wpS 'd' A E s (do
      let mut lo:=lo
      let mut hi:=hi
      for _ in [0:n] do
        if lo >= hi then break
        let m:=lo + (hi - lo) / 2
        let some more ← u m | return none
        if more then lo:=m + 1 else hi:=m
      return some hi) Q st:=by
  refine wpS_bind (wpS_mono (wpS_forRange (I:=λx c e_=>e_ = st/\∃ lo hi,c = (none,lo,hi)/\lo<=hi/\hi<=n/\hi - lo<=n - x/\(∀ i,i < lo->b i = true)/\∀ i,hi<=i->i < n->b i = false)
    (Q:=λc e_=>e_ = st/\∃ lo hi,c = (none,lo,hi)/\hi<=n/\(∀ i,i < n->b i = decide (i < hi))) ?step ?fin ⟨rfl,lo,hi,rfl,h1,p,by omega,C,G⟩) ?post)
  case fin=>
    rintro c e_ ⟨rfl,l,r,rfl,J,a,t,f,g⟩
    refine ⟨rfl,l,r,rfl,a,λi hi=>?_⟩
    by_cases z:i < r
    · rw [YV z]; exact f i 'a'
    · rw [ZR z]; exact g i 'a' hi
  case post=>
    rintro c e_ ⟨rfl,l,r,rfl,a,t⟩
    exact wpS_pure (h r a t)
  case step=>
    rintro x c e_ _ hx ⟨rfl,l,r,rfl,J,a,t,f,g⟩
    dsimp only
    by_cases B:l >= r
    · rw [if_pos B]
      refine wpS_pure ⟨rfl,l,r,rfl,a,λi hi=>?_⟩
      by_cases z:i < r
      · rw [YV z]; exact f i 'a'
      · rw [ZR z]; exact g i 'a' hi
    · rw [if_neg B]
      refine wpS_bind (hb _ 'a' _ ?_)
      cases e:b (l + (r - l) / 2) with
      | true=>
        refine wpS_pure ⟨rfl,_,r,rfl,by omega,a,by omega,λi hi=>?_,g⟩
        exact y i _ 'a' 'a' e
      | false=>
        refine wpS_pure ⟨rfl,l,_,rfl,by omega,by omega,by omega,f,λi h1 p=>?_⟩
        cases e2:b i with
        | false=>rfl
        | true=>rw [y _ i h1 p e2] at e; cases e
theorem f9 {st:SortSt} {left:Bool} {a:Keyed} {arr:Array Keyed} {base n hint:Nat} {Q:Option Nat->SortSt->Prop} (J:dj prog w A s kd R a₀) (hk:kindOf st = kd) (K:a ∈ a₀.toList) (S:hint < n)
    (hm:∀ i,i < n->∃ x,arr[base + i]? = some x/\x ∈ a₀.toList) (hs:∀ i j x y,i<=j->j < n->arr[base + i]? = some x->arr[base + j]? = some y->R x<=R y)
    (h:∀ k,k<=n->(∀ i x,i < k->arr[base + i]? = some x->cond left (R x < R a) (R x<=R a))->(∀ i x,k<=i->i < n->arr[base + i]? = some x->cond left (R a<=R x) (R a < R x))->Q (some k) st) :
    wpS 'd' A E s (f8 left a arr base n hint) Q st:=by
  rw [zN]
  generalize Oi:(λi:Nat=>(do
    let x ← elem' arr (base + i)
    if left then lt' x a else return (← lt' a x).map (!·):StateT SortSt Sem (Option Bool))) = RI
  let b:Nat->Bool:=λi=>match arr[base + i]? with
    | some x=>cond left (decide (R x < R a)) (!decide (R a < R x))
    | none=>false
  have u:∀ i x,arr[base + i]? = some x->b i = cond left (decide (R x < R a)) (!decide (R a < R x)):=λi x e=>by
    show (match arr[base + i]? with | some x=>_ | none=>_) = _
    rw [e]
  have hb:∀ i,i < n->∀ Q:Option Bool->SortSt->Prop,Q (some (b i)) st->wpS 'd' A E s (RI i) Q st:=by
    intro i hi Q G
    obtain ⟨x,hx,L⟩:=hm i hi
    rw [u i x hx] at G
    rw [← Oi]
    refine wpS_bind (bp hx ?_)
    cases left with
    | true=>exact rR J hk L K G
    | false=>exact wpS_bind (rR J hk K L (wpS_pure G))
  have t:∀ i j,i<=j->j < n->b j = true->b i = true:=by
    intro i j T O e
    obtain ⟨x,hx,_⟩:=hm i 'a'
    obtain ⟨y,hy,_⟩:=hm j O
    have:=hs i j x y T O hx hy
    rw [u i x hx]
    rw [u j y hy] at e
    cases left with
    | true=>exact YV (by have:=XR e; omega)
    | false=>
      have e:(!decide (R a < R y)) = true:=e
      show (!decide (R a < R x)) = true
      rw [XW,decide_eq_false_iff_not] at e ⊢
      omega
  have out:∀ k,k<=n->(∀ i,i < n->b i = decide (i < k))->Q (some k) st:=by
    intro k U P
    refine h k U (λi x hi hx=>?_) λi x h1 B hx=>?_
    · have:=P i 'a'
      rw [u i x hx,YV hi] at this
      cases left with
      | true=>exact XR (p:=R x < R a) this
      | false=>
        have this:(!decide (R a < R x)) = true:=this
        rw [XW,decide_eq_false_iff_not] at this
        exact Int.not_lt.1 this
    · have:=P i B
      rw [u i x hx,ZR (show ¬ i < k by omega)] at this
      cases left with
      | true=>exact Int.not_lt.1 (of_decide_eq_false (p:=R x < R a) this)
      | false=>
        have this:(!decide (R a < R x)) = false:=this
        rw [Bool.not_eq_false',XT] at this
        exact this
  refine wpS_bind (hb hint S _ ?_)
  cases e:b hint with
  | true=>
    dsimp only
    rw [if_pos rfl]
    refine wpS_bind (wpS_mono (wpS_forRange (I:=λx c e_=>e_ = st/\∃ l o,c = (none,l,o)/\l < n - hint/\l < o/\x + 1<=o/\b (hint + l) = true)
      (Q:=λc e_=>e_ = st/\∃ l o,c = (none,l,o)/\l < n - hint/\l < o/\b (hint + l) = true/\(o < n - hint->b (hint + o) = false)) ?s1 ?f1 ⟨rfl,0,1,rfl,by omega,by omega,by omega,e⟩) ?p1)
    case f1=>
      rintro c e_ ⟨rfl,l,o,rfl,g,m,r,f⟩
      exact ⟨rfl,l,o,rfl,g,m,f,λz=>by omega⟩
    case s1=>
      rintro x c e_ _ hx ⟨rfl,l,o,rfl,g,m,r,f⟩
      dsimp only
      by_cases C:o >= n - hint
      · rw [if_pos C]
        exact wpS_pure ⟨rfl,l,o,rfl,g,m,f,λz=>by omega⟩
      · rw [if_neg C]
        refine wpS_bind (hb _ 'a' _ ?_)
        cases e2:b (hint + o) with
        | true=>exact wpS_pure ⟨rfl,o,_,rfl,by omega,by omega,by omega,e2⟩
        | false=>exact wpS_pure ⟨rfl,l,o,rfl,g,m,f,λ_=>e2⟩
    case p1=>
      rintro c e_ ⟨rfl,l,o,rfl,g,m,r,f⟩
      dsimp only
      refine BI hb t 'a' 'a' (λi hi=>t i (hint + l) 'a' 'a' r) (λi h1 B=>?_) out
      cases e2:b i with
      | false=>rfl
      | true=>rw [t _ i 'a' B e2] at f; cases f 'a'
  | false=>
    dsimp only
    rw [if_neg 'c']
    refine wpS_bind (wpS_mono (wpS_forRange (I:=λx c e_=>e_ = st/\∃ l o,c = (none,l,o)/\l<=hint/\l < o/\x + 1<=o/\b (hint - l) = false)
      (Q:=λc e_=>e_ = st/\∃ l o,c = (none,l,o)/\l<=hint/\l < o/\b (hint - l) = false/\(o<=hint->b (hint - o) = true)) ?s2 ?f2 ⟨rfl,0,1,rfl,by omega,by omega,by omega,e⟩) ?p2)
    case f2=>
      rintro c e_ ⟨rfl,l,o,rfl,g,m,r,f⟩
      exact ⟨rfl,l,o,rfl,g,m,f,λz=>by omega⟩
    case s2=>
      rintro x c e_ _ hx ⟨rfl,l,o,rfl,g,m,r,f⟩
      dsimp only
      by_cases C:o >= hint + 1
      · rw [if_pos C]
        exact wpS_pure ⟨rfl,l,o,rfl,g,m,f,λz=>by omega⟩
      · rw [if_neg C]
        refine wpS_bind (hb _ 'a' _ ?_)
        cases e2:b (hint - o) with
        | true=>exact wpS_pure ⟨rfl,l,o,rfl,g,m,f,λ_=>e2⟩
        | false=>exact wpS_pure ⟨rfl,o,_,rfl,by omega,by omega,by omega,e2⟩
    case p2=>
      rintro c e_ ⟨rfl,l,o,rfl,g,m,r,f⟩
      dsimp only
      refine BI hb t 'a' 'a' (λi hi=>?_) (λi h1 B=>?_) out
      · exact t i (hint - o) 'a' 'a' (f 'a')
      · cases e2:b i with
        | false=>rfl
        | true=>rw [t _ i h1 B e2] at r; cases r
end
structure Mg (R:Keyed->Int) (la lb out:List Keyed) (i j:Nat):Prop where
 perm:out.Perm (la.take i++lb.take j)
 srt:out.Pairwise λx y=>R x<=R y
 leA:∀x∈out,∀y∈la.drop i,R x<=R y
 leB:∀x∈out,∀y∈lb.drop j,R x<=R y
section
variable {R:Keyed->Int}{la lb out:List Keyed}{i j:Nat}
theorem Mg.swap(h:Mg R la lb out i j):Mg R lb la out j i:=⟨h.perm.trans XX,h.srt,h.leB,h.leA⟩
theorem Mg.takeA(a:la.Pairwise λx y=>R x<=R y)(h:Mg R la lb out i j)(k:Nat)(b:∀x∈(la.drop i).take k,∀y∈lb.drop j,R x<=R y):Mg R la lb (out++(la.drop i).take k) (i+k) j:=by
 have hd:(la.drop i).Pairwise λx y=>R x<=R y:=a.sublist (List.drop_sublist _ _)
 have hs:=hd;rw[←XY k (la.drop i),List.pairwise_append] at hs;refine⟨?_,List.pairwise_append.2 ⟨h.srt,hs.1,λx hx y hy=>h.leA x hx y (List.mem_of_mem_take hy)⟩,λx hx y hy=>?_,λx hx y hy=>?_⟩
 ·rw[List.take_add,ZC]
  refine(h.perm.append_right _).trans ?_;rw[ZC];exact XX.append_left _
 ·rw[←XZ] at hy
  rcases YC.1 hx with z | z
  ·exact h.leA x z y (List.mem_of_mem_drop hy)
  ·exact hs.2.2 x z y hy
 ·rcases YC.1 hx with z | z
  ·exact h.leB x z y hy
  ·exact b x z y hy
theorem Mg.takeB(a:lb.Pairwise λx y=>R x<=R y)(h:Mg R la lb out i j)(k:Nat)(b:∀x∈(lb.drop j).take k,∀y∈la.drop i,R x<=R y):Mg R la lb (out++(lb.drop j).take k) i (j+k):=(h.swap.takeA a k b).swap
theorem Mg.oneA(a:la.Pairwise λx y=>R x<=R y)(h:Mg R la lb out i j){x:Keyed}(hx:la[i]?=some x)(b:∀y∈lb.drop j,R x<=R y):Mg R la lb (out++[x]) (i+1) j:=by
 have e:(la.drop i).take 1=[x]:=by
  obtain⟨h1,c⟩:=YD.mp hx;rw[XU h1,c];rfl
 have:=h.takeA a 1 (λz hz y hy=>by
  rw[e,XO] at hz;rw[hz];exact b y hy)
 rwa [e] at this
theorem Mg.oneB(a:lb.Pairwise λx y=>R x<=R y)(h:Mg R la lb out i j){x:Keyed}(hx:lb[j]?=some x)(b:∀y∈la.drop i,R x<=R y):Mg R la lb (out++[x]) i (j+1):=(h.swap.oneA a hx b).swap
theorem lJ(a:la.Pairwise λx y=>R x<=R y){x:Keyed}(hx:la[i]?=some x):∀y∈la.drop i,R x<=R y:=by
 obtain⟨h1,b⟩:=YD.mp hx;have hd:(la.drop i).Pairwise λx y=>R x<=R y:=a.sublist (List.drop_sublist _ _)
 rw[XU h1,b] at hd ⊢;intro y hy;rcases YB.1 hy with rfl | hy
 ·exact Int.le_refl _
 ·exact(List.pairwise_cons.1 hd).1 y hy
theorem Mg.fin(a:la.Pairwise λx y=>R x<=R y)(h:Mg R la lb out i lb.length):(out++la.drop i).Perm (la++lb)/\(out++la.drop i).Pairwise λx y=>R x<=R y:=by
 refine⟨(h.perm.append_right _).trans ?_,List.pairwise_append.2 ⟨h.srt,a.sublist (List.drop_sublist _ _),h.leA⟩⟩;rw[List.take_length,ZC];refine(XX.append_left _).trans ?_;rw[←ZC,XY]
theorem Mg.finB(a:la.Pairwise λx y=>R x<=R y)(b:lb.Pairwise λx y=>R x<=R y)(h:Mg R la lb out i j)(c:∀x∈lb,∀y∈la.drop i,R x<=R y):(out++lb.drop j++la.drop i).Perm (la++lb)/\(out++lb.drop j++la.drop i).Pairwise λx y=>R x<=R y:=by
 have:=h.takeB b (lb.drop j).length (λx hx=>c x (List.mem_of_mem_drop (List.mem_of_mem_take hx)))
 rw[List.take_length] at this;by_cases z:j<=lb.length
 ·rw[YX,show j+(lb.length-j)=lb.length by omega] at this
  exact this.fin a
 ·have e:lb.drop j=[]:=List.drop_eq_nil_of_le 'a'
  rw[e,ZA] at this ⊢;have f:Mg R la lb out i lb.length:=⟨by rw[List.take_length];have:=h.perm;rwa [List.take_of_length_le (l:=lb) 'a'] at this,h.srt,h.leA,λx hx y hy=>by rw[List.drop_length] at hy;cases hy⟩;exact f.fin a
end
structure SG (st e_:SortSt):Prop where
 kind:kindOf e_=kindOf st
 arr:arrOf e_=arrOf st
 pend:pendingOf e_=pendingOf st
 fail:failedOf e_=failedOf st
theorem SG.refl(st:SortSt):SG st st:=⟨rfl,rfl,rfl,rfl⟩
def ji:Nat->StateT SortSt Sem Unit:=sortPriv% PySem.Builtin.setMinGallop
theorem zO(g:Nat):ji g=modify λs=>SortSt.mk' (kindOf s) (arrOf s) (pendingOf s) g (failedOf s):=rfl
section
variable {prog:Zv}{w:World}{A:Around}{E:Zb}{s:Shared}
theorem kB{g:Nat}{g_ st:SortSt}{Q:Unit->SortSt->Prop}(h:SG g_ st)(hq:∀e_,SG g_ e_->Q () e_):wpS 'd' A E s (ji g) Q st:=by
 rw[zO];exact wpS_modify (hq _ ⟨h.kind,h.arr,h.pend,h.fail⟩)
end
abbrev S5:Type:=Option (Array Keyed)×Array Keyed×Nat×Nat×Nat
abbrev S6:Type:=Option (Array Keyed)×Array Keyed×Nat×Nat×Nat×Nat
abbrev S7:Type:=Option (Array Keyed)×Array Keyed×Nat×Nat×Nat×Nat×Nat
def mZ(a b out:Array Keyed)(c f:Nat):Array Keyed:=out++a.extract c a.size++b.extract f b.size
def yn(a b out:Array Keyed)(c f:Nat):Array Keyed:=out++b.extract f b.size++a.extract c a.size
def lo1 (a b:Array Keyed) (mg:Nat) (out:Array Keyed) (c f g j:Nat):StateT SortSt Sem (ForInStep S6):=do
  let y ← elem' b f
  let x ← elem' a c
  match ← lt' y x with
  | some l=>
    if l = true then do
      let y ← elem' b f
      if (f + 1 == b.size) = true then pure (.done (some (mZ a b (out.push y) c (f + 1)),out.push y,c,f + 1,0,j + 1))
      else if j + 1 >= mg then pure (.done (none,out.push y,c,f + 1,0,j + 1))
      else pure (.yield (none,out.push y,c,f + 1,0,j + 1))
    else do
      let x ← elem' a c
      if (c + 1 + 1 == a.size) = true then pure (.done (some (yn a b (out.push x) (c + 1) f),out.push x,c + 1,f,g + 1,0))
      else if g + 1 >= mg then pure (.done (none,out.push x,c + 1,f,g + 1,0))
      else pure (.yield (none,out.push x,c + 1,f,g + 1,0))
  | _=>pure (.done (some (mZ a b out c f),out,c,f,g,j))
def Fu (a b:Array Keyed) (mg f g c:Nat) (out:Array Keyed) (j:Nat):StateT SortSt Sem (ForInStep S7):=do
  let x ← elem' a c
  if (c + 1 + 1 == a.size) = true then pure (.done (some (yn a b (out.push x) (c + 1) j),out.push x,c + 1,j,mg,f,g))
  else if (decide (f < 7) && decide (g < 7)) = true then pure (.done (none,out.push x,c + 1,j,mg,f,g))
  else pure (.yield (none,out.push x,c + 1,j,mg,f,g))
def Fv (a b:Array Keyed) (mg g j c:Nat) (out:Array Keyed) (f:Nat):StateT SortSt Sem (ForInStep S7):=do
  let y ← elem' b c
  if (c + 1 == b.size) = true then pure (.done (some (mZ a b (out.push y) f (c + 1)),out.push y,f,c + 1,mg,g,j))
  else do
    let x ← elem' a f
    match ← f8 true x b (c + 1) (b.size - (c + 1)) 0 with
    | some k=>
      if k > 0 then
        if (c + 1 + k == b.size) = true then pure (.done (some (mZ a b (out.push y ++ b.extract (c + 1) (c + 1 + k)) f (c + 1 + k)),out.push y ++ b.extract (c + 1) (c + 1 + k),f,c + 1 + k,mg,g,k))
        else Fu a b mg g k f (out.push y ++ b.extract (c + 1) (c + 1 + k)) (c + 1 + k)
      else Fu a b mg g k f (out.push y) (c + 1)
    | _=>pure (.done (some (mZ a b (out.push y) f (c + 1)),out.push y,f,c + 1,mg,g,j))
def BJ (a b out:Array Keyed) (c f j g mg:Nat):StateT SortSt Sem (ForInStep S7):=do
  ji mg
  let y ← elem' b f
  match ← f8 false y a c (a.size - c) 0 with
  | some k=>
    if k > 0 then
      if (c + k + 1 == a.size) = true then pure (.done (some (yn a b (out ++ a.extract c (c + k)) (c + k) f),out ++ a.extract c (c + k),c + k,f,mg,k,g))
      else if (c + k == a.size) = true then pure (.done (some (mZ a b (out ++ a.extract c (c + k)) (c + k) f),out ++ a.extract c (c + k),c + k,f,mg,k,g))
      else Fv a b mg k g f (out ++ a.extract c (c + k)) (c + k)
    else Fv a b mg k g f out c
  | _=>pure (.done (some (mZ a b out c f),out,c,f,mg,j,g))
def Jo (a b out:Array Keyed) (c f mg:Nat):StateT SortSt Sem (ForInStep S5):=do
  let s1:S6 ← forIn [0:a.size + b.size] ((none,out,c,f,0,0):S6) λ_ s=>lo1 a b mg s.2.1 s.2.2.1 s.2.2.2.1 s.2.2.2.2.1 s.2.2.2.2.2
  match s1.1 with
  | some r=>pure (.done (some r,s1.2.1,s1.2.2.1,s1.2.2.2.1,mg))
  | none=>do
    liftM (rule "list.sort.gallop")
    let s2:S7 ← forIn [0:a.size + b.size] ((none,s1.2.1,s1.2.2.1,s1.2.2.2.1,mg + 1,s1.2.2.2.2.1,s1.2.2.2.2.2):S7) λ_ s=>
      if s.2.2.2.2.1 > 1 then BJ a b s.2.1 s.2.2.1 s.2.2.2.1 s.2.2.2.2.2.1 s.2.2.2.2.2.2 (s.2.2.2.2.1 - 1) else BJ a b s.2.1 s.2.2.1 s.2.2.2.1 s.2.2.2.2.2.1 s.2.2.2.2.2.2 s.2.2.2.2.1
    match s2.1 with
    | some r=>pure (.done (some r,s2.2.1,s2.2.2.1,s2.2.2.2.1,s2.2.2.2.2.1))
    | none=>do
      ji (s2.2.2.2.2.1 + 1)
      pure (.yield (none,s2.2.1,s2.2.2.1,s2.2.2.2.1,s2.2.2.2.2.1 + 1))
def qw:Array Keyed->Array Keyed->StateT SortSt Sem (Array Keyed):=sortPriv% PySem.Builtin.mergeLo
theorem xi (a b:Array Keyed):qw a b = (do
  liftM (rule "list.sort.merge-lo")
  let y ← elem' b 0
  if (1 == b.size) = true then pure (mZ a b #[y] 0 1)
  else if (0 + 1 == a.size) = true then pure (yn a b #[y] 0 1)
  else do
    let st ← get
    let s1:S5 ← forIn [0:a.size + b.size] ((none,#[y],0,1,gallopOf st):S5) λ_ s=>Jo a b s.2.1 s.2.2.1 s.2.2.2.1 s.2.2.2.2
    match s1.1 with
    | some r=>pure r
    | none=>unsupported "internal:list.sort.merge-bound"):=by kernel_rfl
section
variable {l:List Keyed}{R:Keyed->Int}
theorem qx{i:Nat}{x:Keyed}(h:x∈l.drop i):∃m,l[i+m]?=some x/\i+m<l.length:=by
 obtain⟨m,hm⟩:=XV h;rw[List.getElem?_drop] at hm;exact⟨m,hm,(YD.mp hm).1⟩
theorem mC{i k:Nat}{x:Keyed}(h:x∈(l.drop i).take k):∃m,m<k/\l[i+m]?=some x:=by
 obtain⟨m,hm⟩:=XV h;rw[List.getElem?_take] at hm;split at hm
 ·rw[List.getElem?_drop] at hm
  exact⟨m,by assumption,hm⟩
 ·cases hm
theorem jj(h:l.Pairwise λx y=>R x<=R y){i j:Nat}{x y:Keyed}(b:i<=j)(hx:l[i]?=some x)(hy:l[j]?=some y):R x<=R y:=by
 refine lJ h hx y ?_
 have:=YT (l:=l.drop i) (i:=j-i) (a:=y) (by rw[List.getElem?_drop,show i+(j-i)=j by omega];exact hy)
 exact this
theorem BK(out b:Array Keyed)(i k:Nat):(out++b.extract i (i+k)).toList=out.toList++(b.toList.drop i).take k:=by
 rw[Array.toList_append,Array.toList_extract,List.extract_eq_take_drop,show i+k-i=k by omega]
theorem lK(out b:Array Keyed)(i:Nat):(out++b.extract i b.size).toList=out.toList++b.toList.drop i:=by
 rw[Array.toList_append,Array.toList_extract,List.extract_eq_take_drop,List.take_of_length_le];rw[YX,YE];exact YG _
end
structure MC (R:Keyed->Int) (a₀ a b:Array Keyed):Prop where
 sA:a.toList.Pairwise λx y=>R x<=R y
 sB:b.toList.Pairwise λx y=>R x<=R y
 mA:∀x∈a.toList,x∈a₀.toList
 mB:∀x∈b.toList,x∈a₀.toList
 nA:0<a.size
 nB:0<b.size
def Good(R:Keyed->Int)(a b r:Array Keyed):Prop:=r.toList.Perm (a.toList++b.toList)/\r.toList.Pairwise λx y=>R x<=R y
section
variable {prog:Zv}{w:World}{A:Around}{E:Zb}{s:Shared}{kd:SortKind}{R:Keyed->Int}{a₀ a b:Array Keyed}{st:SortSt}
theorem MC.getA(C:MC R a₀ a b){i:Nat}(h:i<a.size):∃x,a[i]?=some x/\a.toList[i]?=some x/\x∈a₀.toList:=by
 have e:a[i]?=some a[i]:=getElem?_pos a i h;have e2:a.toList[i]?=some a[i]:=by rw[XD];exact e
 exact⟨_,e,e2,C.mA _ (YT e2)⟩
theorem MC.getB(C:MC R a₀ a b){i:Nat}(h:i<b.size):∃x,b[i]?=some x/\b.toList[i]?=some x/\x∈a₀.toList:=by
 have e:b[i]?=some b[i]:=getElem?_pos b i h;have e2:b.toList[i]?=some b[i]:=by rw[XD];exact e
 exact⟨_,e,e2,C.mB _ (YT e2)⟩
theorem ph(C:MC R a₀ a b){out:Array Keyed}{f c:Nat}(h:Mg R a.toList b.toList out.toList f c)(e:c=b.size):Good R a b (mZ a b out f c):=by
 subst e;rw[show b.size=b.toList.length from YE.symm] at h
 have:=h.fin C.sA
 unfold Good mZ;rw[lK,lK,←YE,List.drop_length,ZA];exact this
theorem Eh(C:MC R a₀ a b){out:Array Keyed}{c f:Nat}(h:Mg R a.toList b.toList out.toList c f)(e:c=a.size):Good R a b (mZ a b out c f):=by
 subst e;rw[show a.size=a.toList.length from YE.symm] at h
 have:=h.swap.fin C.sB
 unfold Good mZ;rw[lK,lK,←YE,List.drop_length,ZA];exact⟨this.1.trans XX,this.2⟩
theorem pi(C:MC R a₀ a b)(hl:∀y∈b.toList,∀x∈a.toList.drop (a.size-1),R y<=R x){out:Array Keyed}{c f:Nat}(h:Mg R a.toList b.toList out.toList c f)(e:c+1=a.size):Good R a b (yn a b out c f):=by
 have:=h.finB C.sA C.sB (λx hx y hy=>hl x hx y (by rw[show a.size-1=c by omega];exact hy))
 unfold Good yn;rw[lK,lK];exact this
theorem Jp(P:dj prog w A s kd R a₀)(hk:kindOf st=kd)(C:MC R a₀ a b)(hl:∀y∈b.toList,∀x∈a.toList.drop (a.size-1),R y<=R x){mg f g n p:Nat}{out:Array Keyed}{Q:ForInStep S6->SortSt->Prop}(h:Mg R a.toList b.toList out.toList f g)(S:f+1<a.size)(t:g<b.size)
  (u:∀r c,Good R a b r->Q (.done (some r,c)) st) (hn:∀m j l B G,Mg R a.toList b.toList m.toList j l->j+1<a.size->l<b.size->j+l=f+g+1->Q (.done (none,m,j,l,B,G)) st/\Q (.yield (none,m,j,l,B,G)) st):
  wpS 'd' A E s (lo1 a b mg out f g n p) Q st:=by
 obtain⟨y,J,K,T⟩:=C.getB t;obtain⟨x,L,O,U⟩:=C.getA (i:=f) 'a';unfold lo1;refine wpS_bind (bp J (wpS_bind (bp L (wpS_bind (rR P hk T U ?_)))));dsimp only;by_cases hw:R y<R x
 ·rw[YV hw,if_pos rfl]
  refine wpS_bind (bp J ?_);have h':=h.oneB C.sB K λz hz=>Int.le_trans (Int.le_of_lt hw) (lJ C.sA O z hz)
  rw[←ZB] at h';by_cases e:g+1=b.size
  ·rw[if_pos (beq_iff_eq.2 e)]
   exact wpS_pure (u _ _ (ph C h' e))
  ·rw[if_neg (λz=>e (beq_iff_eq.1 z))]
   have hn:=hn _ _ _ 0 (p+1) h' S 'a' 'a';split
   ·exact wpS_pure hn.1
   ·exact wpS_pure hn.2
 ·rw[ZR hw,if_neg 'c']
  refine wpS_bind (bp L ?_);have h':=h.oneA C.sA O λz hz=>Int.le_trans (Int.not_lt.1 hw) (lJ C.sB K z hz)
  rw[←ZB] at h';by_cases e:f+1+1=a.size
  ·rw[if_pos (beq_iff_eq.2 e)]
   exact wpS_pure (u _ _ (pi C hl h' e))
  ·rw[if_neg (λz=>e (beq_iff_eq.1 z))]
   have hn:=hn _ _ _ (n+1) 0 h' 'a' t 'a';split
   ·exact wpS_pure hn.1
   ·exact wpS_pure hn.2
theorem BL(C:MC R a₀ a b)(hl:∀y∈b.toList,∀x∈a.toList.drop (a.size-1),R y<=R x){mg f g n p:Nat}{x:Keyed}{out:Array Keyed}{Q:ForInStep S7->SortSt->Prop}(h:Mg R a.toList b.toList out.toList f g)(L:f+1<a.size)(G:g<b.size)(hx:a.toList[f]?=some x)(J:∀y∈b.toList.drop g,R x<=R y)
  (K:∀r c,Good R a b r->Q (.done (some r,c)) st) (hn:∀m j l t u B,Mg R a.toList b.toList m.toList j l->j+1<a.size->l<b.size->f+g<=j+l->Q (.done (none,m,j,l,t,u,B)) st/\Q (.yield (none,m,j,l,t,u,B)) st):
  wpS 'd' A E s (Fu a b mg n p f out g) Q st:=by
 unfold Fu;refine wpS_bind (bp (by rw[←XD];exact hx) ?_);have h':=h.oneA C.sA hx J;rw[←ZB] at h';by_cases e:f+1+1=a.size
 ·rw[if_pos (beq_iff_eq.2 e)]
  exact wpS_pure (K _ _ (pi C hl h' e))
 ·rw[if_neg (λz=>e (beq_iff_eq.1 z))]
  have hn:=hn _ _ _ mg n p h' 'a' G 'a';split
  ·exact wpS_pure hn.1
  ·exact wpS_pure hn.2
theorem BM(T:dj prog w A s kd R a₀)(hk:kindOf st=kd)(C:MC R a₀ a b)(hl:∀y∈b.toList,∀x∈a.toList.drop (a.size-1),R y<=R x){mg g f U V:Nat}{y:Keyed}{out:Array Keyed}{Q:ForInStep S7->SortSt->Prop}(h:Mg R a.toList b.toList out.toList g f)(J:g+1<a.size)(N7:f<b.size)(hy:b.toList[f]?=some y)(W:∀x∈a.toList.drop g,R y<=R x)
  (p:∀r c,Good R a b r->Q (.done (some r,c)) st) (hn:∀t l n K L O,Mg R a.toList b.toList t.toList l n->l+1<a.size->n<b.size->g+f<=l+n->Q (.done (none,t,l,n,K,L,O)) st/\Q (.yield (none,t,l,n,K,L,O)) st):
  wpS 'd' A E s (Fv a b mg U V f out g) Q st:=by
 unfold Fv;refine wpS_bind (bp (by rw[←XD];exact hy) ?_);have h':=h.oneB C.sB hy W;rw[←ZB] at h';by_cases e:f+1=b.size
 ·rw[if_pos (beq_iff_eq.2 e)]
  exact wpS_pure (p _ _ (ph C h' e))
 ·rw[if_neg (λz=>e (beq_iff_eq.1 z))]
  obtain⟨x,Y,B,Z⟩:=C.getA (i:=g) 'a';refine wpS_bind (bp Y (wpS_bind (f9 (a₀:=a₀) T hk Z 'a' (λi hi=>?_) (λi j u v L_ hj hu hv=>?_) λk NG lt ge=>?_)))
  ·obtain⟨z,z1,_,z3⟩:=C.getB (i:=f+1+i) 'a'
   exact⟨z,z1,z3⟩
  ·rw[←XD] at hu hv
   exact jj C.sB 'a' hu hv
  dsimp only;have P:∀z∈b.toList.drop (f+1+k),R x<=R z:=by
   intro z hz;obtain⟨m,hm,QL⟩:=qx hz;rw[YE] at QL;exact ge (k+m) z 'a' 'a' (by rw[←XD,show f+1+(k+m)=f+1+k+m by omega];exact hm)
  by_cases S:k>0
  ·rw[if_pos S]
   have G:=h'.takeB C.sB k λz hz v hv=>by
    obtain⟨m,hm,OF⟩:=mC hz;exact Int.le_trans (Int.le_of_lt (lt m z hm (by rw[←XD];exact OF))) (lJ C.sA B v hv)
   rw[←BK] at G;by_cases e2:f+1+k=b.size
   ·rw[if_pos (beq_iff_eq.2 e2)]
    exact wpS_pure (p _ _ (ph C G e2))
   ·rw[if_neg (λz=>e2 (beq_iff_eq.1 z))]
    exact BL C hl G J 'a' B P p λo i j m c d p1 p2 p3 p4=>hn o i j m c d p1 p2 p3 'a'
  ·rw[if_neg S]
   obtain rfl:k=0:=by omega
   exact BL C hl h' J 'a' B P p λo i j m c d p1 p2 p3 p4=>hn o i j m c d p1 p2 p3 'a'
theorem Jq{g_:SortSt}(J:dj prog w A s kd R a₀)(hk:kindOf g_=kd)(hg:SG g_ st)(C:MC R a₀ a b)(hl:∀y∈b.toList,∀x∈a.toList.drop (a.size-1),R y<=R x){mg f t W Y:Nat}{out:Array Keyed}{Q:ForInStep S7->SortSt->Prop}(h:Mg R a.toList b.toList out.toList f t)(Z:f+1<a.size)(K:t<b.size)
  (B:∀r c e_,SG g_ e_->Good R a b r->Q (.done (some r,c)) e_) (hn:∀L n p P S T e_,SG g_ e_->Mg R a.toList b.toList L.toList n p->n+1<a.size->p<b.size->f+t<=n+p->Q (.done (none,L,n,p,P,S,T)) e_/\Q (.yield (none,L,n,p,P,S,T)) e_):
  wpS 'd' A E s (BJ a b out f t W Y mg) Q st:=by
 unfold BJ;refine wpS_bind (kB hg λe_ l=>?_);obtain⟨y,y1,O,y3⟩:=C.getB K;refine wpS_bind (bp y1 (wpS_bind (f9 (a₀:=a₀) J (l.kind.trans hk) y3 'a' (λi hi=>?_) (λi j u v L_ hj hu hv=>?_) λk NG lt ge=>?_)))
 ·obtain⟨z,z1,_,z3⟩:=C.getA (i:=f+i) 'a'
  exact⟨z,z1,z3⟩
 ·rw[←XD] at hu hv
  exact jj C.sA 'a' hu hv
 dsimp only;have U:∀z∈a.toList.drop (f+k),R y<=R z:=by
  intro z hz;obtain⟨m,hm,QL⟩:=qx hz;rw[YE] at QL;exact Int.le_of_lt (ge (k+m) z 'a' 'a' (by rw[←XD,show f+(k+m)=f+k+m by omega];exact hm))
 by_cases V:k>0
 ·rw[if_pos V]
  have G:=h.takeA C.sA k λz hz v hv=>by
   obtain⟨m,hm,OF⟩:=mC hz;exact Int.le_trans (lt m z hm (by rw[←XD];exact OF)) (lJ C.sB O v hv)
  rw[←BK] at G;by_cases e:f+k+1=a.size
  ·rw[if_pos (beq_iff_eq.2 e)]
   exact wpS_pure (B _ _ _ l (pi C hl G e))
  ·rw[if_neg (λz=>e (beq_iff_eq.1 z))]
   by_cases e2:f+k=a.size
   ·rw[if_pos (beq_iff_eq.2 e2)]
    exact wpS_pure (B _ _ _ l (Eh C G e2))
   ·rw[if_neg (λz=>e2 (beq_iff_eq.1 z))]
    exact BM J (l.kind.trans hk) C hl G 'a' K O U (λr c g=>B r c e_ l g) λo i j m c d p1 p2 p3 p4=>hn o i j m c d e_ l p1 p2 p3 'a'
 ·rw[if_neg V]
  obtain rfl:k=0:=by omega
  exact BM J (l.kind.trans hk) C hl h Z K O U (λr c g=>B r c e_ l g) λo i j m c d p1 p2 p3 p4=>hn o i j m c d e_ l p1 p2 p3 'a'
theorem Jr{g_:SortSt}(U:dj prog w A s kd R a₀)(hk:kindOf g_=kd)(hg:SG g_ st)(C:MC R a₀ a b)(hl:∀y∈b.toList,∀x∈a.toList.drop (a.size-1),R y<=R x){mg n t:Nat}{out:Array Keyed}{Q:ForInStep S5->SortSt->Prop}(h:Mg R a.toList b.toList out.toList n t)(Z:n+1<a.size)(N7:t<b.size)
  (V:∀r c e_,SG g_ e_->Good R a b r->Q (.done (some r,c)) e_) (hn:∀W S T My e_,SG g_ e_->Mg R a.toList b.toList W.toList S T->S+1<a.size->T<b.size->n+t+1<=S+T->Q (.yield (none,W,S,T,My)) e_):
  wpS 'd' A E s (Jo a b out n t mg) Q st:=by
 unfold Jo;refine wpS_bind (wpS_mono (wpS_forRange (I:=λx c e_=>SG g_ e_/\∃o i j p q,c=(none,o,i,j,p,q)/\Mg R a.toList b.toList o.toList i j/\i+1<a.size/\j<b.size/\n+t+x<=i+j)
  (Q:=λc e_=>SG g_ e_/\((∃r d,c=(some r,d)/\Good R a b r) \/ ∃o i j p q,c=(none,o,i,j,p,q)/\Mg R a.toList b.toList o.toList i j/\i+1<a.size/\j<b.size/\n+t+1<=i+j)) ?s1 ?f1 ⟨hg,out,n,t,0,0,rfl,h,Z,N7,by omega⟩) ?p1)
 case f1=>
  rintro c e_ ⟨_,o,i,j,p,q,rfl,h1,f,l,u⟩;omega
 case s1=>
  rintro x c e_ _ hx ⟨g,o,i,j,p,q,rfl,h1,f,l,u⟩;dsimp only;exact Jp U (g.kind.trans hk) C hl h1 f l (λr d z=>⟨g,.inl ⟨r,d,rfl,z⟩⟩) λo' B G J K L O P m4=>⟨⟨g,.inr ⟨o',B,G,J,K,rfl,L,O,P,by omega⟩⟩,⟨g,o',B,G,J,K,rfl,L,O,P,by omega⟩⟩
 case p1=>
  rintro c e_ ⟨g,(⟨r,d,rfl,z⟩ | ⟨o,i,j,p,q,rfl,h1,f,l,u⟩)⟩
  ·exact wpS_pure (V r _ e_ g z)
  ·dsimp only
   refine wpS_bind (wpS_lift (wpAny_rule ⟨rfl,?_⟩));refine wpS_bind (wpS_mono (wpS_forRange (I:=λx c e_=>SG g_ e_/\∃o i j m p q,c=(none,o,i,j,m,p,q)/\Mg R a.toList b.toList o.toList i j/\i+1<a.size/\j<b.size/\n+t+1<=i+j)
    (Q:=λc e_=>SG g_ e_/\((∃r d,c=(some r,d)/\Good R a b r) \/ ∃o i j m p q,c=(none,o,i,j,m,p,q)/\Mg R a.toList b.toList o.toList i j/\i+1<a.size/\j<b.size/\n+t+1<=i+j)) ?s2 ?f2 ⟨g,o,i,j,mg+1,p,q,rfl,h1,f,l,u⟩) ?p2)
   case f2=>
    rintro c e_ ⟨g,o,i,j,m,p,q,rfl,h1,f,l,u⟩;exact⟨g,.inr ⟨o,i,j,m,p,q,rfl,h1,f,l,u⟩⟩
   case s2=>
    rintro x c e_ _ hx ⟨g,o,i,j,m,p,q,rfl,h1,f,l,u⟩;dsimp only;rw[←apply_ite (BJ a b o i j p q)];exact Jq U hk g C hl h1 f l (λr d e_ g z=>⟨g,.inl ⟨r,d,rfl,z⟩⟩) λo' B G Y J K e_ g L O P m4=>⟨⟨g,.inr ⟨o',B,G,Y,J,K,rfl,L,O,P,by omega⟩⟩,⟨g,o',B,G,Y,J,K,rfl,L,O,P,by omega⟩⟩
   case p2=>
    rintro c e_ ⟨g,(⟨r,d,rfl,z⟩ | ⟨o,i,j,m,p,q,rfl,h1,f,l,u⟩)⟩
    ·exact wpS_pure (V r _ e_ g z)
    ·dsimp only
     exact wpS_bind (kB g λe_ g=>wpS_pure (hn _ _ _ _ _ g h1 f l u))
theorem zP(G:dj prog w A s kd R a₀)(hk:kindOf st=kd)(C:MC R a₀ a b)(hl:∀y∈b.toList,∀x∈a.toList.drop (a.size-1),R y<=R x)(J:∀y,b.toList[0]?=some y->∀x∈a.toList,R y<=R x){Q:Array Keyed->SortSt->Prop}(h:∀r e_,SG st e_->Good R a b r->Q r e_):
  wpS 'd' A E s (qw a b) Q st:=by
 rw[xi];refine wpS_bind (wpS_lift (wpAny_rule ⟨rfl,?_⟩));obtain⟨y,K,t,W⟩:=C.getB C.nB;refine wpS_bind (bp K ?_);have L:Mg R a.toList b.toList [] 0 0:=⟨List.Perm.refl _,.nil,(λx hx=>by cases hx),λx hx=>by cases hx⟩;have l:Mg R a.toList b.toList (#[y]:Array Keyed).toList 0 (0+1):=L.oneB C.sB t λx hx=>J y t x hx
 by_cases e:1=b.size
 ·rw[if_pos (beq_iff_eq.2 e)]
  exact wpS_pure (h _ _ (SG.refl _) (ph C l e))
 ·rw[if_neg (λz=>e (beq_iff_eq.1 z))]
  by_cases e2:0+1=a.size
  ·rw[if_pos (beq_iff_eq.2 e2)]
   exact wpS_pure (h _ _ (SG.refl _) (pi C hl l e2))
  ·rw[if_neg (λz=>e2 (beq_iff_eq.1 z))]
   have:=C.nA
   have:=C.nB
   refine wpS_bind (wpS_get ?_);refine wpS_bind (wpS_mono (wpS_forRange (I:=λx c e_=>SG st e_/\∃o i j m,c=(none,o,i,j,m)/\Mg R a.toList b.toList o.toList i j/\i+1<a.size/\j<b.size/\x+1<=i+j)
    (Q:=λc e_=>SG st e_/\∃r d,c=(some r,d)/\Good R a b r) ?s ?f ⟨SG.refl _,_,0,1,_,rfl,l,by omega,by omega,by omega⟩) ?p)
   case f=>
    rintro c e_ ⟨_,o,i,j,m,rfl,h1,u,B,O⟩;omega
   case s=>
    rintro x c e_ _ hx ⟨g,o,i,j,m,rfl,h1,u,B,O⟩;dsimp only;exact Jr G hk g C hl h1 u B (λr d e_ g n=>⟨g,r,d,rfl,n⟩) λo' P S T e_ g l U V Y=>⟨g,o',P,S,T,rfl,l,U,V,by omega⟩
   case p=>
    rintro c e_ ⟨g,r,d,rfl,n⟩;exact wpS_pure (h r e_ g n)
end
abbrev H5:Type:=Option (Array Keyed)×Nat×Nat×Array Keyed×Nat
abbrev H6:Type:=Option (Array Keyed)×Nat×Nat×Array Keyed×Nat×Nat
abbrev H7:Type:=Option (Array Keyed)×Nat×Nat×Array Keyed×Nat×Nat×Nat
def m7(a b out:Array Keyed)(c f:Nat):Array Keyed:=a.extract 0 c++b.extract 0 f++out.reverse
def yo(a b out:Array Keyed)(c f:Nat):Array Keyed:=b.extract 0 f++a.extract 0 c++out.reverse
def Js (a b:Array Keyed) (mg c f:Nat) (out:Array Keyed) (g j:Nat):StateT SortSt Sem (ForInStep H6):=do
  let y ← elem' b (f - 1)
  let x ← elem' a (c - 1)
  match ← lt' y x with
  | some l=>
    if l = true then do
      let x ← elem' a (c - 1)
      if (c - 1 == 0) = true then pure (.done (some (m7 a b (out.push x) (c - 1) f),c - 1,f,out.push x,g + 1,0))
      else if g + 1 >= mg then pure (.done (none,c - 1,f,out.push x,g + 1,0))
      else pure (.yield (none,c - 1,f,out.push x,g + 1,0))
    else do
      let y ← elem' b (f - 1)
      if (f - 1 == 1) = true then pure (.done (some (yo a b (out.push y) c (f - 1)),c,f - 1,out.push y,0,j + 1))
      else if j + 1 >= mg then pure (.done (none,c,f - 1,out.push y,0,j + 1))
      else pure (.yield (none,c,f - 1,out.push y,0,j + 1))
  | _=>pure (.done (some (m7 a b out c f),c,f,out,g,j))
def Fw (a b:Array Keyed) (mg f g c j:Nat) (out:Array Keyed):StateT SortSt Sem (ForInStep H7):=do
  let x ← elem' a (c - 1)
  if (c - 1 == 0) = true then pure (.done (some (m7 a b (out.push x) (c - 1) j),c - 1,j,out.push x,mg,f,g))
  else if (decide (f < 7) && decide (g < 7)) = true then pure (.done (none,c - 1,j,out.push x,mg,f,g))
  else pure (.yield (none,c - 1,j,out.push x,mg,f,g))
def Fx (a b:Array Keyed) (mg g j c f:Nat) (out:Array Keyed):StateT SortSt Sem (ForInStep H7):=do
  let y ← elem' b (c - 1)
  if (c - 1 == 1) = true then pure (.done (some (yo a b (out.push y) f (c - 1)),f,c - 1,out.push y,mg,g,j))
  else do
    let x ← elem' a (f - 1)
    match ← f8 true x b 0 (c - 1) (c - 1 - 1) with
    | some t=>
      if c - 1 - t > 0 then
        if (t == 1) = true then pure (.done (some (yo a b (out.push y ++ (b.extract t (c - 1)).reverse) f t),f,t,out.push y ++ (b.extract t (c - 1)).reverse,mg,g,c - 1 - t))
        else if (t == 0) = true then pure (.done (some (m7 a b (out.push y ++ (b.extract t (c - 1)).reverse) f t),f,t,out.push y ++ (b.extract t (c - 1)).reverse,mg,g,c - 1 - t))
        else Fw a b mg g (c - 1 - t) f t (out.push y ++ (b.extract t (c - 1)).reverse)
      else Fw a b mg g (c - 1 - t) f (c - 1) (out.push y)
    | _=>pure (.done (some (m7 a b (out.push y) f (c - 1)),f,c - 1,out.push y,mg,g,j))
def vO (a b:Array Keyed) (c f:Nat) (out:Array Keyed) (j g mg:Nat):StateT SortSt Sem (ForInStep H7):=do
  ji mg
  let y ← elem' b (f - 1)
  match ← f8 false y a 0 c (c - 1) with
  | some t=>
    if c - t > 0 then
      if (t == 0) = true then pure (.done (some (m7 a b (out ++ (a.extract t c).reverse) t f),t,f,out ++ (a.extract t c).reverse,mg,c - t,g))
      else Fx a b mg (c - t) g f t (out ++ (a.extract t c).reverse)
    else Fx a b mg (c - t) g f c out
  | _=>pure (.done (some (m7 a b out c f),c,f,out,mg,j,g))
def Jt (a b:Array Keyed) (c f:Nat) (out:Array Keyed) (mg:Nat):StateT SortSt Sem (ForInStep H5):=do
  let s1:H6 ← forIn [0:a.size + b.size] ((none,c,f,out,0,0):H6) λ_ s=>Js a b mg s.2.1 s.2.2.1 s.2.2.2.1 s.2.2.2.2.1 s.2.2.2.2.2
  match s1.1 with
  | some r=>pure (.done (some r,s1.2.1,s1.2.2.1,s1.2.2.2.1,mg))
  | none=>do
    liftM (rule "list.sort.gallop")
    let s2:H7 ← forIn [0:a.size + b.size] ((none,s1.2.1,s1.2.2.1,s1.2.2.2.1,mg + 1,s1.2.2.2.2.1,s1.2.2.2.2.2):H7) λ_ s=>
      if s.2.2.2.2.1 > 1 then vO a b s.2.1 s.2.2.1 s.2.2.2.1 s.2.2.2.2.2.1 s.2.2.2.2.2.2 (s.2.2.2.2.1 - 1) else vO a b s.2.1 s.2.2.1 s.2.2.2.1 s.2.2.2.2.2.1 s.2.2.2.2.2.2 s.2.2.2.2.1
    match s2.1 with
    | some r=>pure (.done (some r,s2.2.1,s2.2.2.1,s2.2.2.2.1,s2.2.2.2.2.1))
    | none=>do
      ji (s2.2.2.2.2.1 + 1)
      pure (.yield (none,s2.2.1,s2.2.2.1,s2.2.2.2.1,s2.2.2.2.2.1 + 1))
def qy:Array Keyed->Array Keyed->StateT SortSt Sem (Array Keyed):=sortPriv% PySem.Builtin.mergeHi
theorem xj (a b:Array Keyed):qy a b = (do
  liftM (rule "list.sort.merge-hi")
  let x ← elem' a (a.size - 1)
  if (a.size - 1 == 0) = true then pure (m7 a b #[x] (a.size - 1) b.size)
  else if (b.size == 1) = true then pure (yo a b #[x] (a.size - 1) b.size)
  else do
    let st ← get
    let s1:H5 ← forIn [0:a.size + b.size] ((none,a.size - 1,b.size,#[x],gallopOf st):H5) λ_ s=>Jt a b s.2.1 s.2.2.1 s.2.2.2.1 s.2.2.2.2
    match s1.1 with
    | some r=>pure r
    | none=>unsupported "internal:list.sort.merge-bound"):=by kernel_rfl
section
variable {R:Keyed->Int}{a₀ a b:Array Keyed}
theorem BN{l:List Keyed}{n:Nat}(h:0<n)(c:n<=l.length):l.reverse[l.length-n]?=l[n-1]?:=by
 rw[List.getElem?_reverse 'a',show l.length-1-(l.length-n)=n-1 by omega]
theorem jk{l:List Keyed}{n:Nat}(h:n<=l.length):l.reverse.drop (l.length-n)=(l.take n).reverse:=by rw[List.reverse_take]
theorem tz{l:List Keyed}{t n:Nat}(h:t<=n)(c:n<=l.length):(l.reverse.drop (l.length-n)).take (n-t)=((l.drop t).take (n-t)).reverse:=by
 rw[jk c,List.take_reverse,YS,show min n l.length-(n-t)=t by omega,List.drop_take]
theorem ga{l:List Keyed}(h:l.Pairwise λx y=>R x<=R y):l.reverse.Pairwise λx y=>-R x<=-R y:=by
 rw[List.pairwise_reverse];exact h.imp λz=>by omega
theorem rS{l:List Keyed}{n:Nat}{x:Keyed}(h:n<=l.length)(hx:x∈l.reverse.drop (l.length-n)):∃m,m<n/\l[m]?=some x:=by
 rw[jk h,List.mem_reverse] at hx;obtain⟨m,hm⟩:=XV hx;rw[List.getElem?_take] at hm;split at hm
 ·exact⟨m,by assumption,hm⟩
 ·cases hm
theorem BO(out b:Array Keyed){t n:Nat}(h:t<=n)(c:n<=b.size):(out++(b.extract t n).reverse).toList=out.toList++(b.toList.reverse.drop (b.size-n)).take (n-t):=by
 rw[Array.toList_append,Array.toList_reverse,Array.toList_extract,List.extract_eq_take_drop]
 have:=tz (l:=b.toList) h (by rw[YE];exact c)
 rw[YE] at this;rw[this]
abbrev MH(R:Keyed->Int)(a b out:Array Keyed)(c f:Nat):Prop:=Mg (λx=>-R x) a.toList.reverse b.toList.reverse out.toList (a.size-c) (b.size-f)
theorem qz{r:Array Keyed}{X:List Keyed}(e:r.toList=X.reverse)(h:X.Perm (a.toList.reverse++b.toList.reverse))(c:X.Pairwise λx y=>-R x<=-R y):Good R a b r:=by
 unfold Good;rw[e];refine⟨(List.reverse_perm _).trans (h.trans ((List.reverse_perm _).append (List.reverse_perm _))),?_⟩;rw[List.pairwise_reverse];exact c.imp λz=>by omega
theorem yp(a:Array Keyed)(n:Nat):(a.extract 0 n).toList=a.toList.take n:=by
 rw[Array.toList_extract,List.extract_eq_take_drop,List.drop_zero,Nat.sub_zero]
theorem mD(C:MC R a₀ a b){out:Array Keyed}{f c:Nat}(h:MH R a b out f c)(hb:c<=b.size)(e:f=0):Good R a b (m7 a b out f c):=by
 subst e;have h:Mg (λx=>-R x) a.toList.reverse b.toList.reverse out.toList a.toList.reverse.length (b.size-c):=by
  rw[List.length_reverse,YE];exact h
 have:=h.swap.fin (ga C.sB)
 refine qz (X:=out.toList++b.toList.reverse.drop (b.size-c)) ?_ (this.1.trans XX) this.2;unfold m7;have e:=jk (l:=b.toList) (n:=c) (by rw[YE];exact hb);rw[YE] at e;rw[Array.toList_append,Array.toList_append,yp,yp,Array.toList_reverse,List.take_zero,XE,e,List.reverse_append,List.reverse_reverse]
theorem BP(C:MC R a₀ a b){out:Array Keyed}{c f:Nat}(h:MH R a b out c f)(ha:c<=a.size)(e:f=0):Good R a b (m7 a b out c f):=by
 subst e;have h:Mg (λx=>-R x) a.toList.reverse b.toList.reverse out.toList (a.size-c) b.toList.reverse.length:=by
  rw[List.length_reverse,YE];exact h
 have:=h.fin (ga C.sA)
 refine qz (X:=out.toList++a.toList.reverse.drop (a.size-c)) ?_ this.1 this.2;unfold m7;have e:=jk (l:=a.toList) (n:=c) (by rw[YE];exact ha);rw[YE] at e;rw[Array.toList_append,Array.toList_append,yp,yp,Array.toList_reverse,List.take_zero,ZA,e,List.reverse_append,List.reverse_reverse]
theorem mE(C:MC R a₀ a b)(g:∀y,b.toList[0]?=some y->∀x∈a.toList,R y<=R x){out:Array Keyed}{c f:Nat}(h:MH R a b out c f)(ha:c<=a.size)(e:f=1):Good R a b (yo a b out c f):=by
 subst e;have hb:=C.nB
 have:=h.swap.finB (ga C.sB) (ga C.sA) (λx hx y hy=>by
  have:=rS (l:=b.toList) (n:=1) (by rw[YE];exact hb) (by rw[YE];exact hy)
  obtain⟨m,hm,hy⟩:=this;obtain rfl:m=0:=by omega
  have:=g y hy x (List.mem_reverse.1 hx)
  show -R x<=-R y;omega)
 refine qz (X:=out.toList++a.toList.reverse.drop (a.size-c)++b.toList.reverse.drop (b.size-1)) ?_ (this.1.trans XX) this.2;unfold yo;have e1:=jk (l:=a.toList) (n:=c) (by rw[YE];exact ha);have e2:=jk (l:=b.toList) (n:=1) (by rw[YE];exact hb);rw[YE] at e1 e2;rw[Array.toList_append,Array.toList_append,yp,yp,Array.toList_reverse,e1,e2,List.reverse_append,List.reverse_append,List.reverse_reverse,List.reverse_reverse,ZC]
theorem MH.oneA(C:MC R a₀ a b){out:Array Keyed}{c f:Nat}(h:MH R a b out c f)(h1:0<c)(g:c<=a.size){x:Keyed}(hx:a.toList[c-1]?=some x)(j:∀y∈b.toList.reverse.drop (b.size-f),R y<=R x):MH R a b (out.push x) (c-1) f:=by
 have:=Mg.oneA (ga C.sA) h (x:=x) (by
  have:=BN (l:=a.toList) h1 (by rw[YE];exact g)
  rw[YE] at this;rw[this];exact hx) (λy hy=>by have:=j y hy;show -R x<=-R y;omega)
 rw[←ZB,show a.size-c+1=a.size-(c-1) by omega] at this;exact this
theorem MH.oneB(C:MC R a₀ a b){out:Array Keyed}{f c:Nat}(h:MH R a b out f c)(h1:0<c)(g:c<=b.size){x:Keyed}(hx:b.toList[c-1]?=some x)(j:∀y∈a.toList.reverse.drop (a.size-f),R y<=R x):MH R a b (out.push x) f (c-1):=by
 have:=Mg.oneB (ga C.sB) h (x:=x) (by
  have:=BN (l:=b.toList) h1 (by rw[YE];exact g)
  rw[YE] at this;rw[this];exact hx) (λy hy=>by have:=j y hy;show -R x<=-R y;omega)
 rw[←ZB,show b.size-c+1=b.size-(c-1) by omega] at this;exact this
theorem pj{a:Array Keyed}(c:a.toList.Pairwise λx y=>R x<=R y){n:Nat}(f:n<=a.size){x:Keyed}(hx:a.toList[n-1]?=some x):∀y∈a.toList.reverse.drop (a.size-n),R y<=R x:=by
 intro y hy;obtain⟨m,hm,hy⟩:=rS (l:=a.toList) (n:=n) (by rw[YE];exact f) (by rw[YE];exact hy);exact jj c 'a' hy hx
variable {prog:Zv}{w:World}{A:Around}{E:Zb}{s:Shared}{kd:SortKind}{st:SortSt}
theorem Ju(S:dj prog w A s kd R a₀)(hk:kindOf st=kd)(C:MC R a₀ a b)(T:∀y,b.toList[0]?=some y->∀x∈a.toList,R y<=R x){mg f g t u:Nat}{out:Array Keyed}{Q:ForInStep H6->SortSt->Prop}(h:MH R a b out f g)(ha:0<f)(m:f<=a.size)(hb:1<g)(n:g<=b.size)
  (B:∀r c,Good R a b r->Q (.done (some r,c)) st) (hn:∀j l p G J,MH R a b p j l->0<j->j<=a.size->1<l->l<=b.size->j+l+1=f+g->Q (.done (none,j,l,p,G,J)) st/\Q (.yield (none,j,l,p,G,J)) st):
  wpS 'd' A E s (Js a b mg f g out t u) Q st:=by
 obtain⟨y,K,L,U⟩:=C.getB (i:=g-1) 'a';obtain⟨x,O,P,V⟩:=C.getA (i:=f-1) 'a';unfold Js;refine wpS_bind (bp K (wpS_bind (bp O (wpS_bind (rR S hk U V ?_)))));dsimp only;by_cases hw:R y<R x
 ·rw[YV hw,if_pos rfl]
  refine wpS_bind (bp O ?_);have h':=MH.oneA C h ha m P λz hz=>Int.le_trans (pj C.sB n L z hz) (Int.le_of_lt hw)
  by_cases e:f-1=0
  ·rw[if_pos (beq_iff_eq.2 e)]
   exact wpS_pure (B _ _ (mD C h' n e))
  ·rw[if_neg (λz=>e (beq_iff_eq.1 z))]
   have hn:=hn _ _ _ (t+1) 0 h' 'a' 'a' hb n 'a';split
   ·exact wpS_pure hn.1
   ·exact wpS_pure hn.2
 ·rw[ZR hw,if_neg 'c']
  refine wpS_bind (bp K ?_);have h':=MH.oneB C h 'a' n L λz hz=>Int.le_trans (pj C.sA m P z hz) (Int.not_lt.1 hw)
  by_cases e:g-1=1
  ·rw[if_pos (beq_iff_eq.2 e)]
   exact wpS_pure (B _ _ (mE C T h' m e))
  ·rw[if_neg (λz=>e (beq_iff_eq.1 z))]
   have hn:=hn _ _ _ 0 (u+1) h' ha m 'a' 'a' 'a';split
   ·exact wpS_pure hn.1
   ·exact wpS_pure hn.2
theorem BQ(C:MC R a₀ a b){mg f g n p:Nat}{x:Keyed}{out:Array Keyed}{Q:ForInStep H7->SortSt->Prop}(h:MH R a b out f g)(ha:0<f)(J:f<=a.size)(hb:1<g)(t:g<=b.size)(hx:a.toList[f-1]?=some x)(K:∀y∈b.toList.reverse.drop (b.size-g),R y<=R x)
  (L:∀r c,Good R a b r->Q (.done (some r,c)) st) (hn:∀j l m u B G,MH R a b m j l->0<j->j<=a.size->1<l->l<=b.size->j+l<=f+g->Q (.done (none,j,l,m,u,B,G)) st/\Q (.yield (none,j,l,m,u,B,G)) st):
  wpS 'd' A E s (Fw a b mg n p f g out) Q st:=by
 unfold Fw;refine wpS_bind (bp (by rw[←XD];exact hx) ?_);have h':=MH.oneA C h ha J hx K;by_cases e:f-1=0
 ·rw[if_pos (beq_iff_eq.2 e)]
  exact wpS_pure (L _ _ (mD C h' t e))
 ·rw[if_neg (λz=>e (beq_iff_eq.1 z))]
  have hn:=hn _ _ _ mg n p h' 'a' 'a' hb t 'a';split
  ·exact wpS_pure hn.1
  ·exact wpS_pure hn.2
theorem BR(hL:dj prog w A s kd R a₀)(hk:kindOf st=kd)(C:MC R a₀ a b)(T:∀y,b.toList[0]?=some y->∀x∈a.toList,R y<=R x){mg g f ac bc:Nat}{y:Keyed}{out:Array Keyed}{Q:ForInStep H7->SortSt->Prop}(h:MH R a b out g f)(ha:0<g)(p:g<=a.size)(hb:1<f)(F_:f<=b.size)(hy:b.toList[f-1]?=some y)(G_:∀x∈a.toList.reverse.drop (a.size-g),R x<=R y)
  (J:∀r c,Good R a b r->Q (.done (some r,c)) st) (hn:∀B G L U V W,MH R a b L B G->0<B->B<=a.size->1<G->G<=b.size->B+G<=g+f->Q (.done (none,B,G,L,U,V,W)) st/\Q (.yield (none,B,G,L,U,V,W)) st):
  wpS 'd' A E s (Fx a b mg ac bc f g out) Q st:=by
 unfold Fx;refine wpS_bind (bp (by rw[←XD];exact hy) ?_);have h':=MH.oneB C h 'a' F_ hy G_;by_cases e:f-1=1
 ·rw[if_pos (beq_iff_eq.2 e)]
  exact wpS_pure (J _ _ (mE C T h' p e))
 ·rw[if_neg (λz=>e (beq_iff_eq.1 z))]
  obtain⟨x,x1,O,x3⟩:=C.getA (i:=g-1) 'a';refine wpS_bind (bp x1 (wpS_bind (f9 (a₀:=a₀) hL hk x3 'a' (λi hi=>?_) (λi j u v L_ hj hu hv=>?_) λt ht lt ge=>?_)))
  ·obtain⟨z,z1,_,z3⟩:=C.getB (i:=0+i) 'a'
   exact⟨z,z1,z3⟩
  ·rw[←XD] at hu hv
   exact jj C.sB 'a' hu hv
  dsimp only;have Y:∀z∈b.toList.reverse.drop (b.size-t),R z<=R x:=by
   intro z hz;obtain⟨m,hm,hz⟩:=rS (l:=b.toList) (n:=t) (by rw[YE];omega) (by rw[YE];exact hz);exact Int.le_of_lt (lt m z hm (by rw[←XD,Nat.zero_add];exact hz))
  by_cases Z:f-1-t>0
  ·rw[if_pos Z]
   have K:Mg _ _ _ _ _ _:=Mg.takeB (ga C.sB) h' (f-1-t) λz hz v hv=>by
    have e3:=tz (l:=b.toList) (t:=t) (n:=f-1) ht (by rw[YE];omega);rw[YE] at e3;rw[e3,List.mem_reverse] at hz;obtain⟨m,hm,OF⟩:=mC hz;have g1:=ge (t+m) z 'a' 'a' (by rw[←XD,Nat.zero_add];exact OF);have g2:=pj C.sA p O v hv;have g1:R x<=R z:=g1;show -R z<=-R v;omega
   rw[←BO _ _ ht 'a',show b.size-(f-1)+(f-1-t)=b.size-t by omega] at K;by_cases e2:t=1
   ·rw[if_pos (beq_iff_eq.2 e2)]
    exact wpS_pure (J _ _ (mE C T K p e2))
   ·rw[if_neg (λz=>e2 (beq_iff_eq.1 z))]
    by_cases e3:t=0
    ·rw[if_pos (beq_iff_eq.2 e3)]
     exact wpS_pure (J _ _ (BP C K p e3))
    ·rw[if_neg (λz=>e3 (beq_iff_eq.1 z))]
     exact BQ C K ha p 'a' 'a' O Y J λi j o m c d p1 p2 p3 P S p6=>hn i j o m c d p1 p2 p3 P S 'a'
  ·rw[if_neg Z]
   obtain rfl:t=f-1:=by omega
   exact BQ C h' ha p 'a' 'a' O Y J λi j o m c d p1 p2 p3 P S p6=>hn i j o m c d p1 p2 p3 P S 'a'
theorem Jv{g_:SortSt}(L:dj prog w A s kd R a₀)(hk:kindOf g_=kd)(hg:SG g_ st)(C:MC R a₀ a b)(W:∀y,b.toList[0]?=some y->∀x∈a.toList,R y<=R x){mg f B ac bc:Nat}{out:Array Keyed}{Q:ForInStep H7->SortSt->Prop}(h:MH R a b out f B)(ha:0<f)(Y:f<=a.size)(hb:1<B)(K:B<=b.size)
  (O:∀r c e_,SG g_ e_->Good R a b r->Q (.done (some r,c)) e_) (hn:∀G J P Z Mn Mp e_,SG g_ e_->MH R a b P G J->0<G->G<=a.size->1<J->J<=b.size->G+J<=f+B->Q (.done (none,G,J,P,Z,Mn,Mp)) e_/\Q (.yield (none,G,J,P,Z,Mn,Mp)) e_):
  wpS 'd' A E s (vO a b f B out ac bc mg) Q st:=by
 unfold vO;refine wpS_bind (kB hg λe_ p=>?_);obtain⟨y,y1,S,y3⟩:=C.getB (i:=B-1) 'a';refine wpS_bind (bp y1 (wpS_bind (f9 (a₀:=a₀) L (p.kind.trans hk) y3 'a' (λi hi=>?_) (λi j u v L_ hj hu hv=>?_) λt ht lt ge=>?_)))
 ·obtain⟨z,z1,_,z3⟩:=C.getA (i:=0+i) 'a'
  exact⟨z,z1,z3⟩
 ·rw[←XD] at hu hv
  exact jj C.sA 'a' hu hv
 dsimp only;have N_:∀z∈a.toList.reverse.drop (a.size-t),R z<=R y:=by
  intro z hz;obtain⟨m,hm,hz⟩:=rS (l:=a.toList) (n:=t) (by rw[YE];omega) (by rw[YE];exact hz);exact lt m z hm (by rw[←XD,Nat.zero_add];exact hz)
 by_cases N9:f-t>0
 ·rw[if_pos N9]
  have T:Mg _ _ _ _ _ _:=Mg.takeA (ga C.sA) h (f-t) λz hz v hv=>by
   have e3:=tz (l:=a.toList) (t:=t) (n:=f) ht (by rw[YE];omega);rw[YE] at e3;rw[e3,List.mem_reverse] at hz;obtain⟨m,hm,OF⟩:=mC hz;have g1:=ge (t+m) z 'a' 'a' (by rw[←XD,Nat.zero_add];exact OF);have g2:=pj C.sB K S v hv;have g1:R y<R z:=g1;show -R z<=-R v;omega
  rw[←BO _ _ ht Y,show a.size-f+(f-t)=a.size-t by omega] at T;by_cases e2:t=0
  ·rw[if_pos (beq_iff_eq.2 e2)]
   exact wpS_pure (O _ _ _ p (mD C T K e2))
  ·rw[if_neg (λz=>e2 (beq_iff_eq.1 z))]
   exact BR L (p.kind.trans hk) C W T 'a' 'a' hb K S N_ (λr c g=>O r c e_ p g) λi j o m c d p1 p2 p3 U V p6=>hn i j o m c d e_ p p1 p2 p3 U V 'a'
 ·rw[if_neg N9]
  obtain rfl:t=f:=by omega
  exact BR L (p.kind.trans hk) C W h ha Y hb K S N_ (λr c g=>O r c e_ p g) λi j o m c d p1 p2 p3 U V p6=>hn i j o m c d e_ p p1 p2 p3 U V 'a'
theorem Jw{g_:SortSt}(hL:dj prog w A s kd R a₀)(hk:kindOf g_=kd)(hg:SG g_ st)(C:MC R a₀ a b)(h0:∀y,b.toList[0]?=some y->∀x∈a.toList,R y<=R x){mg f l:Nat}{out:Array Keyed}{Q:ForInStep H5->SortSt->Prop}(h:MH R a b out f l)(ha:0<f)(MN:f<=a.size)(hb:1<l)(F_:l<=b.size)
  (hr:∀r c e_,SG g_ e_->Good R a b r->Q (.done (some r,c)) e_) (hn:∀K L r_ My e_,SG g_ e_->MH R a b r_ K L->0<K->K<=a.size->1<L->L<=b.size->K+L+1<=f+l->Q (.yield (none,K,L,r_,My)) e_):
  wpS 'd' A E s (Jt a b f l out mg) Q st:=by
 unfold Jt;refine wpS_bind (wpS_mono (wpS_forRange (I:=λx c e_=>SG g_ e_/\∃i j o p q,c=(none,i,j,o,p,q)/\MH R a b o i j/\0<i/\i<=a.size/\1<j/\j<=b.size/\i+j+x<=f+l)
  (Q:=λc e_=>SG g_ e_/\((∃r d,c=(some r,d)/\Good R a b r) \/ ∃i j o p q,c=(none,i,j,o,p,q)/\MH R a b o i j/\0<i/\i<=a.size/\1<j/\j<=b.size/\i+j+1<=f+l)) ?s1 ?f1 ⟨hg,f,l,out,0,0,rfl,h,ha,MN,hb,F_,by omega⟩) ?p1)
 case f1=>
  rintro c e_ ⟨_,i,j,o,p,q,rfl,h1,n,t,u,B,J⟩;omega
 case s1=>
  rintro x c e_ _ hx ⟨g,i,j,o,p,q,rfl,h1,n,t,u,B,J⟩;dsimp only;exact Ju hL (g.kind.trans hk) C h0 h1 n t u B (λr d G=>⟨g,.inl ⟨r,d,rfl,G⟩⟩) λO P o' S T U V W Y Z m6=>⟨⟨g,.inr ⟨O,P,o',S,T,rfl,U,V,W,Y,Z,by omega⟩⟩,⟨g,O,P,o',S,T,rfl,U,V,W,Y,Z,by omega⟩⟩
 case p1=>
  rintro c e_ ⟨g,(⟨r,d,rfl,G⟩ | ⟨i,j,o,p,q,rfl,h1,n,t,u,B,J⟩)⟩
  ·exact wpS_pure (hr r _ e_ g G)
  ·dsimp only
   refine wpS_bind (wpS_lift (wpAny_rule ⟨rfl,?_⟩));refine wpS_bind (wpS_mono (wpS_forRange (I:=λx c e_=>SG g_ e_/\∃i j o m p q,c=(none,i,j,o,m,p,q)/\MH R a b o i j/\0<i/\i<=a.size/\1<j/\j<=b.size/\i+j+1<=f+l)
    (Q:=λc e_=>SG g_ e_/\((∃r d,c=(some r,d)/\Good R a b r) \/ ∃i j o m p q,c=(none,i,j,o,m,p,q)/\MH R a b o i j/\0<i/\i<=a.size/\1<j/\j<=b.size/\i+j+1<=f+l)) ?s2 ?f2 ⟨g,i,j,o,mg+1,p,q,rfl,h1,n,t,u,B,J⟩) ?p2)
   case f2=>
    rintro c e_ ⟨g,z⟩;exact⟨g,.inr z⟩
   case s2=>
    rintro x c e_ _ hx ⟨g,i,j,o,m,p,q,rfl,h1,n,t,u,B,J⟩;dsimp only;rw[←apply_ite (vO a b i j o p q)];exact Jv hL hk g C h0 h1 n t u B (λr d e_ g G=>⟨g,.inl ⟨r,d,rfl,G⟩⟩) λO P o' m' S T e_ g U V W Y Z m6=>⟨⟨g,.inr ⟨O,P,o',m',S,T,rfl,U,V,W,Y,Z,by omega⟩⟩,⟨g,O,P,o',m',S,T,rfl,U,V,W,Y,Z,by omega⟩⟩
   case p2=>
    rintro c e_ ⟨g,(⟨r,d,rfl,G⟩ | ⟨i,j,o,m,p,q,rfl,h1,n,t,u,B,J⟩)⟩
    ·exact wpS_pure (hr r _ e_ g G)
    ·dsimp only
     exact wpS_bind (kB g λe_ g=>wpS_pure (hn _ _ _ _ _ g h1 n t u B J))
theorem zQ(J:dj prog w A s kd R a₀)(hk:kindOf st=kd)(C:MC R a₀ a b)(hl:∀y∈b.toList,∀x∈a.toList.drop (a.size-1),R y<=R x)(n:∀y,b.toList[0]?=some y->∀x∈a.toList,R y<=R x){Q:Array Keyed->SortSt->Prop}(h:∀r e_,SG st e_->Good R a b r->Q r e_):
  wpS 'd' A E s (qy a b) Q st:=by
 have K:=C.nA;have hB:=C.nB;rw[xj];refine wpS_bind (wpS_lift (wpAny_rule ⟨rfl,?_⟩));obtain⟨x,L,p,x3⟩:=C.getA (i:=a.size-1) 'a';refine wpS_bind (bp L ?_);have O:MH R a b #[] a.size b.size:=by
  show Mg _ _ _ _ (a.size-a.size) (b.size-b.size);rw[Nat.sub_self,Nat.sub_self];exact⟨List.Perm.refl _,.nil,(λx hx=>by cases hx),λx hx=>by cases hx⟩
 have f:MH R a b #[x] (a.size-1) b.size:=MH.oneA C O K (YG _) p λy hy=>hl y (List.mem_reverse.1 (List.mem_of_mem_drop hy)) x (YT (i:=0) (by rw[List.getElem?_drop];exact p))
 by_cases e:a.size-1=0
 ·rw[if_pos (beq_iff_eq.2 e)]
  exact wpS_pure (h _ _ (SG.refl _) (mD C f (YG _) e))
 ·rw[if_neg (λz=>e (beq_iff_eq.1 z))]
  by_cases e2:b.size=1
  ·rw[if_pos (beq_iff_eq.2 e2)]
   exact wpS_pure (h _ _ (SG.refl _) (mE C n f 'a' e2))
  ·rw[if_neg (λz=>e2 (beq_iff_eq.1 z))]
   refine wpS_bind (wpS_get ?_);refine wpS_bind (wpS_mono (wpS_forRange (I:=λx c e_=>SG st e_/\∃i j o m,c=(none,i,j,o,m)/\MH R a b o i j/\0<i/\i<=a.size/\1<j/\j<=b.size/\i+j+x<=a.size+b.size)
    (Q:=λc e_=>SG st e_/\∃r d,c=(some r,d)/\Good R a b r) ?sx ?fx ⟨SG.refl _,_,_,_,_,rfl,f,by omega,by omega,by omega,by omega,by omega⟩) ?px)
   case fx=>
    rintro c e_ ⟨_,i,j,o,m,rfl,h1,t,u,B,G,P⟩;omega
   case sx=>
    rintro x c e_ _ hx ⟨g,i,j,o,m,rfl,h1,t,u,B,G,P⟩;dsimp only;exact Jw J hk g C n h1 t u B G (λr d e_ g l=>⟨g,r,d,rfl,l⟩) λS T o' U e_ g f V W Y Z m6=>⟨g,S,T,o',U,rfl,f,V,W,Y,Z,by omega⟩
   case px=>
    rintro c e_ ⟨g,r,d,rfl,l⟩;exact wpS_pure (h r e_ g l)
end
def wr(base:Nat)(r:List Keyed)(b:Nat)(xs:Array Keyed):Array Keyed:=(r.zipIdx b).foldl (λa (p,j)=>a.setIfInBounds (base+j) p) xs
theorem vP(base:Nat):∀(r:List Keyed) (a:Nat) (xs:Array Keyed),base+a+r.length<=xs.size->∀k:Nat,(wr base r a xs)[k]?=if base+a<=k/\k<base+a+r.length then r[k-(base+a)]? else xs[k]?
 |[],a,xs,_,k=>by
  show xs[k]?=_;rw[if_neg (by simp only[YU];omega)]
 |p::r,a,xs,h,k=>by
  rw[YJ] at h;show(wr base r (a+1) (xs.setIfInBounds (base+a) p))[k]?=_;rw[vP base r (a+1) _ (by rw[Array.size_setIfInBounds];omega) k,YJ];by_cases h1:base+(a+1)<=k/\k<base+(a+1)+r.length
  ·rw[if_pos h1,if_pos 'a',show k-(base+a)=(k-(base+(a+1)))+1 by omega,List.getElem?_cons_succ]
  ·rw[if_neg h1]
   by_cases b:k=base+a
   ·subst b
    rw[if_pos 'a',Nat.sub_self,List.getElem?_cons_zero,Array.getElem?_setIfInBounds,if_pos rfl,if_pos 'a']
   ·rw[if_neg 'a',Array.getElem?_setIfInBounds,if_neg 'a']
def eD(R:Keyed->Int)(xs:Array Keyed)(lo hi:Nat):Prop:=∀i j x y,lo<=i->i<=j->j<hi->xs[i]?=some x->xs[j]?=some y->R x<=R y
structure SB (kd:SortKind) (a₀:Array Keyed) (st:SortSt):Prop where
 perm:(arrOf st).Perm a₀
 kind:kindOf st=kd
 fail:failedOf st=none
def xk (i:Nat):mergeAt' i = (do
  let s ← get
  match (pendingOf s)[i]?,(pendingOf s)[i + 1]? with
  | some (sa,c,b),some (a,f,_)=>do
    set (setPending s (((pendingOf s).setIfInBounds i (sa,c + f,b)).eraseIdxIfInBounds (i + 1)))
    let y ← elem' (arrOf s) a
    match ← f8 false y (arrOf s) sa c 0 with
    | some k=>
      if (c - k == 0) = true then pure true
      else do
        let x ← elem' (arrOf s) (sa + k + (c - k) - 1)
        match ← f8 true x (arrOf s) a f (f - 1) with
        | some t=>
          if (t == 0) = true then pure true
          else do
            let r ← if c - k<=t then qw ((arrOf s).extract (sa + k) a) ((arrOf s).extract a (a + t)) else qy ((arrOf s).extract (sa + k) a) ((arrOf s).extract a (a + t))
            modify λs=>setArr s (wr (sa + k) r.toList 0 (arrOf s))
            let s ← get
            pure (failedOf s).isNone
        | _=>pure false
    | _=>pure false
  | _,_=>unsupported "internal:list.sort.pending"):=by kernel_rfl
section
variable {prog:Zv}{w:World}{A:Around}{E:Zb}{s:Shared}{kd:SortKind}{R:Keyed->Int}{a₀:Array Keyed}{st:SortSt}
theorem GX{σ:Type}{M:Model}{x st:σ}{Q:PUnit->σ->Prop}(h:Q ⟨⟩ x):wpS M A E s (set x:StateT σ Sem PUnit) Q st:=by
 unfold wpS;rw[StateT.run_set];exact Yc ⟨rfl,h⟩
theorem SB.size(h:SB kd a₀ st):(arrOf st).size=a₀.size:=h.perm.size_eq
theorem SB.at(h:SB kd a₀ st){i:Nat}(hi:i<a₀.size):∃x,(arrOf st)[i]?=some x/\x∈a₀.toList:=by
 have a:i<(arrOf st).size:=by rw[h.size];exact hi
 exact⟨_,getElem?_pos _ i a,(Array.perm_iff_toList_perm.mp h.perm).mem_iff.mp (by simp)⟩
theorem lL(xs:Array Keyed)(i j k:Nat)(h:j<=xs.size)(hk:k<j-i):(xs.extract i j).toList[k]?=xs[i+k]?:=by
 rw[Array.toList_extract,List.extract_eq_take_drop,List.getElem?_take,if_pos hk,List.getElem?_drop,XD]
theorem qA(xs:Array Keyed)(i j:Nat)(h:j<=xs.size):(xs.extract i j).size=j-i:=by rw[Array.size_extract];omega
theorem jl(xs:Array Keyed)(i j:Nat)(h:j<=xs.size):(xs.extract i j).toList.length=j-i:=by rw[YE,qA xs i j h]
theorem lM{xs:Array Keyed}{i j:Nat}{x:Keyed}(h:j<=xs.size)(hx:x∈(xs.extract i j).toList):∃k,i<=k/\k<j/\xs[k]?=some x:=by
 obtain⟨m,hm⟩:=XV hx;have hl:=(YD.mp hm).1;rw[jl xs i j h] at hl;rw[lL xs i j m h hl] at hm;exact⟨i+m,by omega,by omega,hm⟩
theorem yq{xs:Array Keyed}{i j:Nat}(h:j<=xs.size)(hs:eD R xs i j):(xs.extract i j).toList.Pairwise λx y=>R x<=R y:=by
 rw[List.pairwise_iff_getElem];intro p q hp hq a;rw[jl xs i j h] at hp hq;refine hs (i+p) (i+q) _ _ 'a' 'a' 'a' ?_ ?_
 ·rw[←lL xs i j p h hp];exact ZE _
 ·rw[←lL xs i j q h hq];exact ZE _
theorem GY{xs:Array Keyed}{p q:Nat}{r:List Keyed}(h1:p<=q)(b:q<=xs.size)(a:r.Perm (xs.extract p q).toList):(wr p r 0 xs).Perm xs:=by
 have hl:r.length=q-p:=by rw[a.length_eq,jl xs p q b]
 have hx:xs.toList=xs.toList.take p++((xs.extract p q).toList++xs.toList.drop q):=by
  rw[Array.toList_extract,List.extract_eq_take_drop];have:xs.toList.drop q=(xs.toList.drop p).drop (q-p):=by rw[XZ,show p+(q-p)=q by omega]
  rw[this,XY,XY]
 have hw:(wr p r 0 xs).toList=xs.toList.take p++(r++xs.toList.drop q):=by
  refine ZJ λk=>?_
  rw[XD,vP p r 0 xs 'a' k];have c:(xs.toList.take p).length=p:=by rw[YS,YE];omega
  by_cases f:k<p
  ·rw[if_neg 'a',ZF 'a',List.getElem?_take,if_pos f,XD]
  ·rw[ZI 'a',c]
   by_cases g:k<q
   ·rw[if_pos 'a',ZF 'a'];rfl
   ·rw[if_neg 'a',ZI 'a',List.getElem?_drop,XD,hl,show q+(k-p-(q-p))=k by omega]
 rw[Array.perm_iff_toList_perm,hw];refine List.Perm.trans (List.Perm.append_left _ (a.append_right _)) ?_;rw[←hx]
theorem zR (Y:dj prog w A s kd R a₀) (B:SB kd a₀ st) {i sa b p G q:Nat} (h1:(pendingOf st)[i]? = some (sa,b,p)) (h2:(pendingOf st)[i + 1]? = some (sa + b,G,q)) (Tx:0 < b) (ac:0 < G) (hsz:sa + b + G<=a₀.size) (s1:eD R (arrOf st) sa (sa + b)) (s2:eD R (arrOf st) (sa + b) (sa + b + G))
    {Q:Bool->SortSt->Prop} (h:∀ e_,SB kd a₀ e_->pendingOf e_ = ((pendingOf st).setIfInBounds i (sa,b + G,p)).eraseIdxIfInBounds (i + 1)->eD R (arrOf e_) sa (sa + b + G)->(∀ k,k < sa \/ sa + b + G<=k->(arrOf e_)[k]? = (arrOf st)[k]?)->Q true e_) :
    wpS 'd' A E s (mergeAt' i) Q st:=by
  have sz:=B.size
  rw [xk]
  refine wpS_bind (wpS_get ?_)
  rw [h1,h2]
  dsimp only
  refine wpS_bind (GX ?_)
  generalize OY:setPending st (((pendingOf st).setIfInBounds i (sa,b + G,p)).eraseIdxIfInBounds (i + 1)) = st1
  have V:arrOf st1 = arrOf st:=by rw [← OY]
  have p1:pendingOf st1 = ((pendingOf st).setIfInBounds i (sa,b + G,p)).eraseIdxIfInBounds (i + 1):=by rw [← OY]
  have S:SB kd a₀ st1:=by rw [← OY]; exact ⟨B.perm,B.kind,B.fail⟩
  obtain ⟨y,y1,y3⟩:=B.at (i:=sa + b) 'a'
  refine wpS_bind (bp y1 (wpS_bind (f9 (a₀:=a₀) Y S.kind y3 Tx (λm hm=>B.at 'a') (λm n u v f j hu hv=>s1 (sa + m) (sa + n) u v 'a' 'a' 'a' hu hv) λk hk lt ge=>?_)))
  dsimp only
  have Tz:∀ m v,sa<=m->m < sa + k->(arrOf st)[m]? = some v->R v<=R y:=λm v f j hv=>lt (m - sa) v 'a' (by rw [show sa + (m - sa) = m by omega]; exact hv)
  have Vl:∀ m v,sa + k<=m->m < sa + b->(arrOf st)[m]? = some v->R y < R v:=λm v f j hv=>ge (m - sa) v 'a' 'a' (by rw [show sa + (m - sa) = m by omega]; exact hv)
  have yB:∀ m v,sa + b<=m->m < sa + b + G->(arrOf st)[m]? = some v->R y<=R v:=λm v f j hv=>s2 (sa + b) m y v 'a' f j y1 hv
  by_cases e1:b - k = 0
  · rw [if_pos (beq_iff_eq.2 e1)]
    refine wpS_pure (h st1 S p1 ?_ λk _=>by rw [V])
    rw [V]
    intro m n u v f j l hu hv
    by_cases U:n < sa + b
    · exact s1 m n u v f j U hu hv
    · by_cases O:m < sa + b
      · exact Int.le_trans (Tz m u f 'a' hu) (yB n v 'a' l hv)
      · exact s2 m n u v 'a' j l hu hv
  · rw [if_neg (λz=>e1 (beq_iff_eq.1 z))]
    have ex:sa + k + (b - k) - 1 = sa + b - 1:=by omega
    rw [ex]
    obtain ⟨x,x1,x3⟩:=B.at (i:=sa + b - 1) 'a'
    refine wpS_bind (bp x1 (wpS_bind (f9 (a₀:=a₀) Y S.kind x3 'a' (λm hm=>B.at 'a') (λm n u v f j hu hv=>s2 (sa + b + m) (sa + b + n) u v 'a' 'a' 'a' hu hv) λt ht WW WX=>?_)))
    dsimp only
    have Vm:∀ m v,sa + b<=m->m < sa + b + t->(arrOf st)[m]? = some v->R v < R x:=λm v f j hv=>WW (m - (sa + b)) v 'a' (by rw [show sa + b + (m - (sa + b)) = m by omega]; exact hv)
    have Vn:∀ m v,sa + b + t<=m->m < sa + b + G->(arrOf st)[m]? = some v->R x<=R v:=λm v f j hv=>WX (m - (sa + b)) v 'a' 'a' (by rw [show sa + b + (m - (sa + b)) = m by omega]; exact hv)
    have xA:∀ m v,sa<=m->m < sa + b->(arrOf st)[m]? = some v->R v<=R x:=λm v f j hv=>s1 m (sa + b - 1) v x f 'a' 'a' hv x1
    by_cases e2:t = 0
    · rw [if_pos (beq_iff_eq.2 e2)]
      refine wpS_pure (h st1 S p1 ?_ λk _=>by rw [V])
      rw [V]
      intro m n u v f j l hu hv
      by_cases U:n < sa + b
      · exact s1 m n u v f j U hu hv
      · by_cases O:m < sa + b
        · exact Int.le_trans (xA m u f O hu) (Vn n v 'a' l hv)
        · exact s2 m n u v 'a' j l hu hv
    · rw [if_neg (λz=>e2 (beq_iff_eq.1 z))]
      have T:sa + b<=(arrOf st).size:=by omega
      have P:sa + b + t<=(arrOf st).size:=by omega
      have z1:=qA (arrOf st) (sa + k) (sa + b) T
      have z2:=qA (arrOf st) (sa + b) (sa + b + t) P
      have C:MC R a₀ ((arrOf st).extract (sa + k) (sa + b)) ((arrOf st).extract (sa + b) (sa + b + t)):=by
        refine ⟨yq T λm n u v f j l=>s1 m n u v 'a' j l,yq P λm n u v f j l=>s2 m n u v f j 'a',λv hv=>?_,λv hv=>?_,by omega,by omega⟩
        · obtain ⟨m,f,j,l⟩:=lM T hv
          obtain ⟨v',J,K⟩:=B.at (i:=m) 'a'
          rw [l] at J; cases J; exact K
        · obtain ⟨m,f,j,l⟩:=lM P hv
          obtain ⟨v',J,K⟩:=B.at (i:=m) 'a'
          rw [l] at J; cases J; exact K
      have hl:∀ v ∈ ((arrOf st).extract (sa + b) (sa + b + t)).toList,∀ u ∈ ((arrOf st).extract (sa + k) (sa + b)).toList.drop (((arrOf st).extract (sa + k) (sa + b)).size - 1),R v<=R u:=by
        intro v hv u hu
        obtain ⟨m,f,j,l⟩:=lM P hv
        obtain ⟨n,J,K⟩:=qx hu
        rw [jl _ _ _ T] at K
        rw [z1] at J K
        rw [lL _ _ _ _ T K,show sa + k + (sa + b - (sa + k) - 1 + n) = sa + b - 1 by omega,x1] at J
        cases J
        exact Int.le_of_lt (Vm m v f j l)
      have h0:∀ v,((arrOf st).extract (sa + b) (sa + b + t)).toList[0]? = some v->∀ u ∈ ((arrOf st).extract (sa + k) (sa + b)).toList,R v<=R u:=by
        intro v hv u hu
        rw [lL _ _ _ _ P 'a',Nat.add_zero,y1] at hv
        cases hv
        obtain ⟨m,f,j,l⟩:=lM T hu
        exact Int.le_of_lt (Vl m u f j l)
      have fin:∀ (r:Array Keyed) (L:SortSt),SG st1 L->Good R ((arrOf st).extract (sa + k) (sa + b)) ((arrOf st).extract (sa + b) (sa + b + t)) r->wpS 'd' A E s (do
          modify λs=>setArr s (wr (sa + k) r.toList 0 (arrOf s))
          let s ← get
          pure (failedOf s).isNone) Q L:=by
        intro r L g hr
        have N':r.toList.length = (b - k) + t:=by
          rw [hr.1.length_eq,ZM,jl _ _ _ T,jl _ _ _ P]; omega
        have Vo:r.toList.Perm ((arrOf st).extract (sa + k) (sa + b + t)).toList:=by
          refine hr.1.trans ?_
          rw [Array.toList_extract,Array.toList_extract,Array.toList_extract,List.extract_eq_take_drop,List.extract_eq_take_drop,List.extract_eq_take_drop]
          rw [show sa + b + t - (sa + k) = (sa + b - (sa + k)) + (sa + b + t - (sa + b)) by omega,List.take_add,XZ,show sa + k + (sa + b - (sa + k)) = sa + b by omega]
        refine wpS_bind (wpS_modify (wpS_bind (wpS_get ?_)))
        have ef:failedOf L = none:=g.fail.trans S.fail
        have ea:arrOf L = arrOf st:=g.arr.trans V
        show wpS _ _ _ _ (pure (failedOf L).isNone) Q _
        rw [ef]
        have wg:=vP (sa + k) r.toList 0 (arrOf st) (by rw [N']; omega)
        rw [N'] at wg
        refine wpS_pure (h _ ⟨?_,g.kind.trans S.kind,ef⟩ (g.pend.trans p1) ?_ λm hm=>?_)
        · show (wr (sa + k) r.toList 0 (arrOf L)).Perm a₀
          rw [ea]
          exact (GY 'a' P Vo).trans B.perm
        · show eD R (wr (sa + k) r.toList 0 (arrOf L)) _ _
          rw [ea]
          intro m n u v f j l hu hv
          rw [wg] at hu hv
          -- where a place of the merged ones comes from
          have Vp:∀ (m:Nat) (u:Keyed),r.toList[m]? = some u->R y<=R u/\R u<=R x:=by
            intro m u hu
            obtain ⟨W,J,K,Z⟩:=lM P (Vo.mem_iff.1 (YT hu))
            by_cases c:W < sa + b
            · exact ⟨Int.le_of_lt (Vl W u J c Z),xA W u 'a' c Z⟩
            · exact ⟨yB W u 'a' 'a' Z,Int.le_of_lt (Vm W u 'a' K Z)⟩
          by_cases U:sa + k + 0<=m/\m < sa + k + 0 + (b - k + t)
          · rw [if_pos U] at hu
            by_cases O:sa + k + 0<=n/\n < sa + k + 0 + (b - k + t)
            · rw [if_pos O] at hv
              exact jj hr.2 'a' hu hv
            · rw [if_neg O] at hv
              exact Int.le_trans (Vp _ u hu).2 (Vn n v 'a' l hv)
          · rw [if_neg U] at hu
            by_cases O:sa + k + 0<=n/\n < sa + k + 0 + (b - k + t)
            · rw [if_pos O] at hv
              exact Int.le_trans (Tz m u f 'a' hu) (Vp _ v hv).1
            · rw [if_neg O] at hv
              by_cases c3:m < sa + k
              · by_cases c4:n < sa + b
                · exact s1 m n u v f j c4 hu hv
                · exact Int.le_trans (Tz m u f c3 hu) (yB n v 'a' l hv)
              · exact s2 m n u v 'a' j l hu hv
        · show (wr (sa + k) r.toList 0 (arrOf L))[m]? = _
          rw [ea,wg,if_neg 'a']
      have g1:kindOf st1 = kd:=S.kind
      by_cases c:b - k<=t
      · rw [if_pos c]
        exact wpS_bind (zP Y g1 C hl h0 fin)
      · rw [if_neg c]
        exact wpS_bind (zQ Y g1 C hl h0 fin)
end
def kk(R:Keyed->Int)(xs:Array Keyed)(i:Nat):Int:=match xs[i]? with
 |some p=>R p
 |none=>0
abbrev N2:Type:=Option (Option Nat)×Nat
abbrev N3:Type:=Option (Option Nat)×Nat×Nat
def asc(lo a f:Nat):StateT SortSt Sem N2:=forIn [a:f] ((none,a):N2) λ_ c=>do
 match ←ltAt' (lo+c.2) (lo+c.2-1) with
 |some b=>if b=true then pure (.done (none,c.2)) else pure (.yield (none,c.2+1))
 |_=>pure (.done (some none,c.2))
def Fy (lo n a:Nat):StateT SortSt Sem (Option Nat):=do
  reverseSlice' lo (lo + n)
  let c ← asc lo n a
  match c.1 with
  | some r=>pure r
  | none=>pure (some c.2)
def Ei (lo n a:Nat):StateT SortSt Sem N3:=forIn [n:a] ((none,n,0):N3) λ_ c=>do
  match ← ltAt' (lo + c.2.1) (lo + c.2.1 - 1) with
  | some b=>
    if b = true then
      if c.2.2 > 0 then do
        reverseSlice' (lo + c.2.1 - (c.2.2 + 1)) (lo + c.2.1)
        pure (.yield (none,c.2.1 + 1,0))
      else pure (.yield (none,c.2.1 + 1,0))
    else do
      match ← ltAt' (lo + c.2.1 - 1) (lo + c.2.1) with
      | some b=>if b = true then pure (.done (none,c.2.1,c.2.2)) else pure (.yield (none,c.2.1 + 1,c.2.2 + 1))
      | _=>pure (.done (some none,c.2.1,c.2.2))
  | _=>pure (.done (some none,c.2.1,c.2.2))
def Fz (lo n a:Nat):StateT SortSt Sem (Option Nat):=do
  liftM (rule "list.sort.descending-run")
  let c ← Ei lo (n + 1) a
  match c.1 with
  | some r=>pure r
  | none=>
    if c.2.2 > 0 then do
      reverseSlice' (lo + c.2.1 - (c.2.2 + 1)) (lo + c.2.1)
      Fy lo c.2.1 a
    else Fy lo c.2.1 a
theorem vQ (lo a:Nat):countRun' lo a = (do
  let c ← asc lo 1 a
  match c.1 with
  | some r=>pure r
  | none=>
    if (c.2 == a) = true then pure (some c.2)
    else if c.2 > 1 then do
      match ← ltAt' lo (lo + c.2 - 1) with
      | some b=>if b = true then pure (some c.2) else do
          reverseSlice' lo (lo + c.2)
          Fz lo c.2 a
      | _=>pure none
    else Fz lo c.2 a):=by kernel_rfl
structure gb (kd:SortKind) (a₀:Array Keyed) (g_:SortSt) (lo hi:Nat) (st:SortSt):Prop extends SB kd a₀ st where
 pend:pendingOf st=pendingOf g_
 out:∀k,k<lo\/hi<=k->(arrOf st)[k]?=(arrOf g_)[k]?
section
variable {prog:Zv}{w:World}{A:Around}{E:Zb}{s:Shared}{kd:SortKind}{R:Keyed->Int}{a₀:Array Keyed}{st g_:SortSt}{lo hi:Nat}
theorem gb.set(h:gb kd a₀ g_ lo hi st){xs:Array Keyed}(hp:xs.Perm (arrOf st))(a:∀k,k<lo\/hi<=k->xs[k]?=(arrOf st)[k]?):gb kd a₀ g_ lo hi (setArr st xs):=
 ⟨⟨hp.trans h.perm,h.kind,h.fail⟩,h.pend,λk hk=>(a k hk).trans (h.out k hk)⟩
theorem gb.rev(h:gb kd a₀ g_ lo hi st){i j:Nat}(h1:lo<=i)(a:j<=hi)(b:hi<=a₀.size):gb kd a₀ g_ lo hi (setArr st (mirror (arrOf st) i j ((j-i) / 2))):=
 h.set (mirror_perm _ _ _ _) λk hk=>by rw[getElem?_mirror_all (by rw[h.toSB.size];omega),if_neg 'a']
theorem rT{i j:Nat}{Q:Unit->SortSt->Prop}(h:Q () (setArr st (mirror (arrOf st) i j ((j-i) / 2)))):wpS 'd' A E s (reverseSlice' i j) Q st:=by
 rw[reverseSlice'_eq];exact wpS_modify h
theorem wp_at(f:dj prog w A s kd R a₀)(a:SB kd a₀ st){i j:Nat}{Q:Option Bool->SortSt->Prop}(hi:i<a₀.size)(g:j<a₀.size)(h:Q (some (decide (kk R (arrOf st) i<kk R (arrOf st) j))) st):wpS 'd' A E s (ltAt' i j) Q st:=by
 obtain⟨x,b,l⟩:=a.at hi;obtain⟨y,c,m⟩:=a.at g;unfold kk at h;rw[b,c] at h;rw[ltAt'_eq];exact wpS_bind (wpS_get (wpS_bind (bp b (wpS_bind (bp c (rR f a.kind l m h))))))
theorem rV{xs ys:Array Keyed}{i j:Nat}(h:xs[i]?=ys[j]?):kk R xs i=kk R ys j:=by unfold kk;rw[h]
theorem vR{xs:Array Keyed}{i j:Nat}(a:j<=xs.size)(k:Nat):kk R (mirror xs i j ((j-i) / 2)) k=if i<=k/\k<j then kk R xs (i+j-1-k) else kk R xs k:=by
 have e:=getElem?_mirror_all (i:=i) a k;by_cases c:i<=k/\k<j
 ·rw[if_pos c] at e ⊢;exact rV e
 ·rw[if_neg c] at e ⊢;exact rV e
theorem jm{xs:Array Keyed}{i j:Nat}(b:j<=xs.size)(a:∀k,i<=k->k<j->kk R xs k=kk R xs (j-1))(k:Nat):kk R (mirror xs i j ((j-i) / 2)) k=kk R xs k:=by
 rw[vR b];split
 ·rw[a _ 'a' 'a',a k 'a' 'a']
 ·rfl
def Up(R:Keyed->Int)(xs:Array Keyed)(lo n:Nat):Prop:=∀i j,i<=j->j<n->kk R xs (lo+i)<=kk R xs (lo+j)
def Dn(R:Keyed->Int)(xs:Array Keyed)(lo n:Nat):Prop:=∀i j,i<=j->j<n->kk R xs (lo+j)<=kk R xs (lo+i)
theorem Up.srt{xs:Array Keyed}{n:Nat}(h:Up R xs lo n):eD R xs lo (lo+n):=λi j x y h1 a b hx hy=>by
 have:=h (i-lo) (j-lo) 'a' 'a'
 rw[show lo+(i-lo)=i by omega,show lo+(j-lo)=j by omega] at this;unfold kk at this;rw[hx,hy] at this;exact this
theorem Up.more{xs:Array Keyed}{n:Nat}(h:Up R xs lo n)(h1:n=0\/kk R xs (lo+n-1)<=kk R xs (lo+n)):Up R xs lo (n+1):=by
 intro i j a f;by_cases c:j<n
 ·exact h i j a c
 ·obtain rfl:j=n:=by omega
  by_cases b:i=j
  ·subst b;exact Int.le_refl _
  ·have:=h i (j-1) 'a' 'a'
   rw[show lo+(j-1)=lo+j-1 by omega] at this;exact Int.le_trans this (h1.resolve_left 'a')
theorem Dn.more{xs:Array Keyed}{n:Nat}(h:Dn R xs lo n)(h1:n=0\/kk R xs (lo+n)<=kk R xs (lo+n-1)):Dn R xs lo (n+1):=by
 intro i j a f;by_cases c:j<n
 ·exact h i j a c
 ·obtain rfl:j=n:=by omega
  by_cases b:i=j
  ·subst b;exact Int.le_refl _
  ·have:=h i (j-1) 'a' 'a'
   rw[show lo+(j-1)=lo+j-1 by omega] at this;exact Int.le_trans (h1.resolve_left 'a') this
theorem BS(g:dj prog w A s kd R a₀)(j:SB kd a₀ st){a b:Nat}{Q:N2->SortSt->Prop}(hn:lo+b<=a₀.size)(ha:1<=a)(l:a<=b)(hs:Up R (arrOf st) lo a)
  (h:∀n,a<=n->n<=b->Up R (arrOf st) lo n->(n=b\/kk R (arrOf st) (lo+n)<kk R (arrOf st) (lo+n-1))->Q (none,n) st):wpS 'd' A E s (asc lo a b) Q st:=by
 unfold asc;refine wpS_forRange (I:=λx c e_=>e_=st/\c=(none,x)/\Up R (arrOf st) lo x) ?step ?fin ⟨rfl,rfl,hs⟩
 case fin=>
  rintro c e_ ⟨rfl,rfl,f⟩;rw[show max a b=b by omega] at f ⊢;exact h b l (YG _) f (.inl rfl)
 case step=>
  rintro x c e_ m p ⟨rfl,rfl,f⟩;dsimp only;refine wpS_bind (wp_at g j 'a' 'a' ?_);by_cases c:kk R (arrOf e_) (lo+x)<kk R (arrOf e_) (lo+x-1)
  ·rw[YV c]
   exact wpS_pure (h x m 'a' f (.inr c))
  ·rw[ZR c]
   exact wpS_pure ⟨rfl,rfl,f.more (.inr (Int.not_lt.1 c))⟩
theorem BU(f:dj prog w A s kd R a₀){n a:Nat}{Q:Option Nat->SortSt->Prop}(b:gb kd a₀ g_ lo (lo+a) st)(hn:lo+a<=a₀.size)(h1:1<=n)(g:n<=a)(hs:Dn R (arrOf st) lo n)
  (h:∀m e_,gb kd a₀ g_ lo (lo+a) e_->1<=m->m<=a->Up R (arrOf e_) lo m->Q (some m) e_):wpS 'd' A E s (Fy lo n a) Q st:=by
 unfold Fy;have hz:lo+n<=(arrOf st).size:=by rw[b.toSB.size];omega
 have c:=b.rev (i:=lo) (j:=lo+n) (YG _) 'a' hn;refine wpS_bind (rT (wpS_bind (BS f c.toSB hn h1 g ?_ λm r l p _=>wpS_pure (h m _ c 'a' l p))));intro i j t u;show kk R (mirror (arrOf st) lo (lo+n) ((lo+n-lo) / 2)) _<=kk R (mirror (arrOf st) lo (lo+n) ((lo+n-lo) / 2)) _;rw[vR hz,vR hz,if_pos 'a',if_pos 'a']
 have:=hs (n-1-j) (n-1-i) 'a' 'a'
 rw[show lo+(n-1-j)=lo+(lo+n)-1-(lo+j) by omega,show lo+(n-1-i)=lo+(lo+n)-1-(lo+i) by omega] at this;exact this
theorem GZ(r:dj prog w A s kd R a₀){n b:Nat}{Q:N3->SortSt->Prop}(y:gb kd a₀ g_ lo (lo+b) st)(hn:lo+b<=a₀.size)(h1:1<=n)(z:n<=b)(hs:Dn R (arrOf st) lo n)
  (h:∀m a e_,gb kd a₀ g_ lo (lo+b) e_->n<=m->m<=b->Dn R (arrOf e_) lo m->a+1<=m->(∀k,lo+m-(a+1)<=k->k<lo+m->kk R (arrOf e_) k=kk R (arrOf e_) (lo+m-1))->Q (none,m,a) e_):wpS 'd' A E s (Ei lo n b) Q st:=by
 unfold Ei;refine wpS_forRange (I:=λx c e_=>∃a,c=(none,x,a)/\gb kd a₀ g_ lo (lo+b) e_/\Dn R (arrOf e_) lo x/\a+1<=x/\(∀k,lo+x-(a+1)<=k->k<lo+x->kk R (arrOf e_) k=kk R (arrOf e_) (lo+x-1))) ?step ?fin ⟨0,rfl,y,hs,by omega,λk h1 p=>by congr 1;omega⟩
 case fin=>
  rintro c e_ ⟨a,rfl,f,l,hq,g⟩;rw[show max n b=b by omega] at l hq g ⊢;exact h b a e_ f z (YG _) l hq g
 case step=>
  rintro x c e_ B K ⟨a,rfl,f,l,hq,g⟩;dsimp only;have hz:lo+x<=(arrOf e_).size:=by rw[f.toSB.size];omega
  refine wpS_bind (wp_at r f.toSB 'a' 'a' ?_);by_cases c:kk R (arrOf e_) (lo+x)<kk R (arrOf e_) (lo+x-1)
  ·rw[YV c]
   dsimp only;rw[if_pos rfl];have go:=l.more (.inr (Int.le_of_lt c));by_cases t:a>0
   ·rw[if_pos t]
    refine wpS_bind (rT (wpS_pure ⟨0,rfl,f.rev 'a' 'a' hn,λi j C G=>?_,by omega,λk h1 p=>by congr 1;omega⟩));show kk R (mirror (arrOf e_) _ _ _) _<=kk R (mirror (arrOf e_) _ _ _) _;rw[jm hz g,jm hz g];exact go i j C G
   ·rw[if_neg t]
    exact wpS_pure ⟨0,rfl,f,go,by omega,λk h1 p=>by congr 1;omega⟩
  ·rw[ZR c]
   dsimp only;rw[if_neg 'c'];refine wpS_bind (wp_at r f.toSB 'a' 'a' ?_);by_cases u:kk R (arrOf e_) (lo+x-1)<kk R (arrOf e_) (lo+x)
   ·rw[YV u]
    exact wpS_pure (h x a e_ f B 'a' l hq g)
   ·rw[ZR u]
    have hx:kk R (arrOf e_) (lo+x)=kk R (arrOf e_) (lo+x-1):=by omega
    refine wpS_pure ⟨a+1,rfl,f,l.more (.inr 'a'),by omega,λk h1 p=>?_⟩;rw[show lo+(x+1)-1=lo+x by omega];by_cases J:k=lo+x
    ·rw[J]
    ·rw[hx];exact g k 'a' 'a'
theorem BV(b:dj prog w A s kd R a₀){n a:Nat}{Q:Option Nat->SortSt->Prop}(r:gb kd a₀ g_ lo (lo+a) st)(hn:lo+a<=a₀.size)(t:n+1<=a)(hs:Dn R (arrOf st) lo (n+1))
  (h:∀m e_,gb kd a₀ g_ lo (lo+a) e_->1<=m->m<=a->Up R (arrOf e_) lo m->Q (some m) e_):wpS 'd' A E s (Fz lo n a) Q st:=by
 unfold Fz;refine wpS_bind (wpS_lift (wpAny_rule ⟨rfl,?_⟩));refine wpS_bind (GZ b r hn 'a' t hs λm u e_ c B f g hq l=>?_);dsimp only;have hz:lo+m<=(arrOf e_).size:=by rw[c.toSB.size];omega
 by_cases p:u>0
 ·rw[if_pos p]
  refine wpS_bind (rT (BU b (c.rev 'a' 'a' hn) hn 'a' f (λi j y z=>?_) h));show kk R (mirror (arrOf e_) _ _ _) _<=kk R (mirror (arrOf e_) _ _ _) _;rw[jm hz l,jm hz l];exact g i j y z
 ·rw[if_neg p]
  exact BU b c hn 'a' f g h
theorem xm(b:dj prog w A s kd R a₀){a:Nat}{Q:Option Nat->SortSt->Prop}(f:SB kd a₀ st)(hn:lo+a<=a₀.size)(h1:1<=a)
  (h:∀m e_,gb kd a₀ st lo (lo+a) e_->1<=m->m<=a->Up R (arrOf e_) lo m->Q (some m) e_):wpS 'd' A E s (countRun' lo a) Q st:=by
 have g:gb kd a₀ st lo (lo+a) st:=⟨f,rfl,λ_ _=>rfl⟩;rw[vQ];refine wpS_bind (BS b f hn (YG 1) h1 (λi j l p=>by cases(show i=j by omega);exact Int.le_refl _) λn y B r L=>?_);dsimp only;by_cases u:n=a
 ·rw[if_pos (beq_iff_eq.2 u)]
  exact wpS_pure (h n st g y B r)
 ·rw[if_neg (λz=>u (beq_iff_eq.1 z))]
  have C:=L.resolve_left u;have hz:lo+n<=(arrOf st).size:=by rw[f.size];omega
  by_cases G:n>1
  ·rw[if_pos G]
   refine wpS_bind (wp_at b f 'a' 'a' ?_);by_cases c:kk R (arrOf st) lo<kk R (arrOf st) (lo+n-1)
   ·rw[YV c]
    exact wpS_pure (h n st g y B r)
   ·rw[ZR c]
    dsimp only;rw[if_neg 'c'];have t:∀k,lo<=k->k<lo+n->kk R (arrOf st) k=kk R (arrOf st) (lo+n-1):=by
     intro k P S;have J:=r 0 (k-lo) 'a' 'a';have K:=r (k-lo) (n-1) 'a' 'a';rw[show lo+(k-lo)=k by omega] at J K;rw[show lo+(n-1)=lo+n-1 by omega] at K;rw[Nat.add_zero] at J;omega
    refine wpS_bind (rT (BV b (g.rev 'a' 'a' hn) hn 'a' ?_ h));have O:Dn R (arrOf st) lo (n+1):=by
     refine Dn.more (λi j l p=>?_) (.inr (Int.le_of_lt C));rw[t (lo+i) 'a' 'a',t (lo+j) 'a' 'a'];exact Int.le_refl _
    intro i j l p;show kk R (mirror (arrOf st) _ _ _) _<=kk R (mirror (arrOf st) _ _ _) _;rw[jm hz t,jm hz t];exact O i j l p
  ·rw[if_neg G]
   obtain rfl:n=1:=by omega
   refine BV b g hn 'a' (Dn.more (λi j l p=>?_) (.inr (Int.le_of_lt C))) h;obtain rfl:i=j:=by omega
   exact Int.le_refl _
theorem BW{xs:Array Keyed}{a d:Nat}(hs:a<xs.size)(hd:d<=a)(k:Nat):kk R (bubble xs a d) k=if k=a-d then kk R xs a else if a-d<k/\k<=a then kk R xs (k-1) else kk R xs k:=by
 have e:=getElem?_bubble hs d hd k;by_cases b:k=a-d
 ·rw[if_pos b] at e ⊢;exact rV e
 ·rw[if_neg b] at e ⊢
  by_cases c:a-d<k/\k<=a
  ·rw[if_pos c] at e ⊢;exact rV e
  ·rw[if_neg c] at e ⊢;exact rV e
theorem uv (J:dj prog w A s kd R a₀) {n ok g:Nat} {Q:Bool->SortSt->Prop} (K:gb kd a₀ g_ lo (lo + g) st) (S:n<=g) (hn:lo + g<=a₀.size) (hok:ok<=n) (hs:Up R (arrOf st) lo ok)
    (h:∀ e_,gb kd a₀ g_ lo (lo + g) e_->Up R (arrOf e_) lo n->Q true e_):wpS 'd' A E s (binarySort' lo n ok) Q st:=by
  rw [binarySort'_eq]
  refine wpS_bind (wpS_mono (wpS_forRange (I:=λk c e_=>c = (none,())/\gb kd a₀ g_ lo (lo + g) e_/\Up R (arrOf e_) lo (min k n))
    (Q:=λc e_=>c = (none,())/\gb kd a₀ g_ lo (lo + g) e_/\Up R (arrOf e_) lo n) ?step ?fin ?init) ?post)
  case post=>
    rintro c e_ ⟨rfl,f,b⟩
    exact wpS_pure (h e_ f b)
  case init=>
    refine ⟨rfl,K,λi j z L=>?_⟩
    by_cases c:ok = 0
    · obtain rfl:i = j:=by omega
      exact Int.le_refl _
    · exact hs i j z 'a'
  case fin=>
    rintro c e_ ⟨hc,f,b⟩
    refine ⟨hc,f,?_⟩
    rwa [show min (max (max ok 1) n) n = n by omega] at b
  case step=>
    rintro k c e_ O T ⟨rfl,f,b⟩
    rw [show min k n = k by omega] at b
    refine wpS_bind (wpS_mono (wpS_forRange (I:=λx c a=>a = e_/\∃ l r,c = (none,l,r)/\l<=r/\r<=k/\r - l<=k - x/\(∀ i,i < l->kk R (arrOf e_) (lo + i)<=kk R (arrOf e_) (lo + k))/\(∀ i,r<=i->i < k->kk R (arrOf e_) (lo + k) < kk R (arrOf e_) (lo + i)))
      (Q:=λc a=>a = e_/\∃ l r,c = (none,l,r)/\l<=k/\(∀ i,i < l->kk R (arrOf e_) (lo + i)<=kk R (arrOf e_) (lo + k))/\(∀ i,l<=i->i < k->kk R (arrOf e_) (lo + k) < kk R (arrOf e_) (lo + i))) ?istep ?ifin ?iinit) ?ipost)
    case iinit=>exact ⟨rfl,0,k,rfl,by omega,by omega,by omega,λi hi=>by omega,λi h1 B=>by omega⟩
    case ifin=>
      rintro c a ⟨rfl,l,r,rfl,C,p,t,u,y⟩
      obtain rfl:l = r:=by omega
      exact ⟨rfl,l,l,rfl,p,u,y⟩
    case istep=>
      rintro x c a _ P ⟨rfl,l,r,rfl,C,p,t,u,y⟩
      dsimp only
      by_cases G:l >= r
      · rw [if_pos G]
        obtain rfl:l = r:=by omega
        exact wpS_pure ⟨rfl,l,l,rfl,p,u,y⟩
      · rw [if_neg G]
        refine wpS_bind (wp_at J f.toSB 'a' 'a' ?_)
        by_cases c:kk R (arrOf a) (lo + k) < kk R (arrOf a) (lo + (l + r) / 2)
        · rw [YV c]
          exact wpS_pure ⟨rfl,l,(l + r) / 2,rfl,by omega,by omega,by omega,u,λi h1 B=>Int.lt_of_lt_of_le c (b _ _ h1 B)⟩
        · rw [ZR c]
          exact wpS_pure ⟨rfl,(l + r) / 2 + 1,r,rfl,by omega,by omega,by omega,λi h1=>Int.le_trans (b i ((l + r) / 2) 'a' 'a') (Int.not_lt.mp c),y⟩
    case ipost=>
      rintro c a ⟨rfl,l,r,rfl,C,p,t⟩
      show wpS _ _ _ _ (do moveDown' (lo + k) (lo + l); pure (ForInStep.yield (none,()))) _ _
      rw [moveDown'_eq]
      have hz:lo + k < (arrOf a).size:=by rw [f.toSB.size]; omega
      refine wpS_bind (wpS_modify (wpS_pure ⟨rfl,f.set (bubble_perm _ _ _) λm hm=>?_,?_⟩))
      · rw [getElem?_bubble hz _ 'a',if_neg 'a',if_neg 'a']
      · rw [show min (k + 1) n = k + 1 by omega]
        intro i j z L
        show kk R (bubble (arrOf a) (lo + k) (lo + k - (lo + l))) (lo + i)<=kk R (bubble (arrOf a) (lo + k) (lo + k - (lo + l))) (lo + j)
        rw [BW hz 'a',BW hz 'a',show lo + k - (lo + k - (lo + l)) = lo + l by omega]
        repeat' split
        all_goals first
          | (exfalso; omega)
          | exact Int.le_refl _
          | exact p _ 'a'
          | (rw [show lo + j - 1 = lo + (j - 1) by omega]; exact Int.le_of_lt (t _ 'a' 'a'))
          | exact Int.le_of_lt (t _ 'a' 'a')
          | (rw [show lo + i - 1 = lo + (i - 1) by omega,show lo + j - 1 = lo + (j - 1) by omega]; exact b _ _ 'a' 'a')
          | (rw [show lo + j - 1 = lo + (j - 1) by omega]; exact b _ _ 'a' 'a')
          | exact b _ _ 'a' 'a'
end
abbrev U1:Type:=Option Unit×Unit
abbrev UN:Type:=Option Unit×Nat
def rM (a:Nat):StateT SortSt Sem (ForInStep U1):=do
  let s ← get
  match (if (pendingOf s).size > 1 then (pendingOf s)[(pendingOf s).size - 2]? else none) with
  | some (_,_,c)=>
    if c<=a then pure (.done (none,()))
    else do
      let b ← mergeAt' ((pendingOf s).size - 2)
      if (!b) = true then pure (.done (some (),())) else pure (.yield (none,()))
  | _=>pure (.done (none,()))
def rL(lo n:Nat):StateT SortSt Sem (ForInStep UN):=do
 modify λs=>setPending s ((pendingOf s).push (lo,n,0))
 pure (.yield (none,lo+n))
def rP (size lo n:Nat):StateT SortSt Sem (ForInStep UN):=do
  let s ← get
  match (pendingOf s).back? with
  | some (s1,a,_)=>do
    let c ← forIn [0:size] ((none,()):U1) λ_ _=>rM (power' size (2 * s1 + a) (2 * s1 + a + a + n) size)
    match c.1 with
    | some r=>pure (.done (some r,lo))
    | none=>do
      modify λs=>setPending s ((pendingOf s).modify ((pendingOf s).size - 1) λ(st,len,_)=>(st,len,power' size (2 * s1 + a) (2 * s1 + a + a + n) size))
      rL lo n
  | _=>rL lo n
def rB (size a lo:Nat):StateT SortSt Sem (ForInStep UN):=
  if lo >= size then pure (.done (none,lo))
  else do
    match ← countRun' lo (size - lo) with
    | some found=>
      if found < a then do
        liftM (rule "list.sort.binary-insertion")
        let b ← binarySort' lo (min (size - lo) a) found
        if (!b) = true then pure (.done (some (),lo)) else rP size lo (min (size - lo) a)
      else rP size lo found
    | _=>pure (.done (some (),lo))
def rF:StateT SortSt Sem (ForInStep U1):=do
  let s ← get
  if (pendingOf s).size<=1 then pure (.done (none,()))
  else do
    let b ← mergeAt' (if (if (pendingOf s).size - 2 > 0 then (pendingOf s)[(pendingOf s).size - 2 - 1]?.map (·.2.1) else none).any (· < ((pendingOf s)[(pendingOf s).size - 2 + 1]?.elim 0 (·.2.1))) = true then (pendingOf s).size - 2 - 1 else (pendingOf s).size - 2)
    if (!b) = true then pure (.done (some (),())) else pure (.yield (none,()))
theorem vS:sortRuns' = (do
  let s ← get
  let c ← forIn [0:(arrOf s).size] ((none,0):UN) λ_ c=>rB (arrOf s).size (minRun' (arrOf s).size (arrOf s).size 0) c.2
  match c.1 with
  | some r=>pure r
  | none=>do
    let c ← forIn [0:(arrOf s).size] ((none,()):U1) λ_ _=>rF
    match c.1 with
    | some r=>pure r
    | none=>pure ()):=by kernel_rfl
def cq(R:Keyed->Int)(xs:Array Keyed):Nat->List (Nat×Nat×Nat)->Nat->Prop
 |lo,[],hi=>lo=hi
 |lo,(s,n,_)::l,hi=>s=lo/\0<n/\eD R xs lo (lo+n)/\cq R xs (lo+n) l hi
section
variable {R:Keyed->Int}{xs ys:Array Keyed}
theorem cq.le:∀{l:List (Nat×Nat×Nat)}{lo hi:Nat},cq R xs lo l hi->lo+l.length<=hi
 |[],lo,hi,h=>by rw[show lo=hi from h];exact YG _
 |(s,n,_)::l,lo,hi,⟨_,h1,_,a⟩=>by
  have:=a.le
  rw[YJ];omega
theorem cq.congr:∀{l f:List (Nat×Nat×Nat)}{lo hi:Nat},(∀k,lo<=k->k<hi->ys[k]?=xs[k]?)->f.map (λx=>(x.1,x.2.1))=l.map (λx=>(x.1,x.2.1))->cq R xs lo l hi->cq R ys lo f hi
 |[],[],lo,hi,_,_,h=>h
 |[],_::_,_,_,_,e,_=>by cases e
 |_::_,[],_,_,_,e,_=>by cases e
 |(s,n,p)::l,(t,n',u)::f,lo,hi,hk,e,⟨m,h1,r,g⟩=>by
  rw[YL,YL,List.cons.injEq] at e;obtain⟨e1,e2⟩:=e;cases e1
  have:=g.le
  refine⟨m,h1,λi j x y a b c hx hy=>?_,g.congr (λk a b=>hk k 'a' b) e2⟩;rw[hk i a 'a'] at hx;rw[hk j 'a' 'a'] at hy;exact r i j x y a b c hx hy
theorem cq.snoc:∀{l:List (Nat×Nat×Nat)}{lo hi n p:Nat},cq R xs lo l hi->0<n->eD R xs hi (hi+n)->cq R xs lo (l++[(hi,n,p)]) (hi+n)
 |[],lo,hi,n,p,h,h1,f=>by cases(show lo=hi from h);exact⟨rfl,h1,f,rfl⟩
 |(s,m,q)::l,lo,hi,n,p,⟨a,b,c,d⟩,h1,f=>⟨a,b,c,d.snoc h1 f⟩
theorem cq.two:∀{pre j:List (Nat×Nat×Nat)}{lo hi s1 l p1 s2 m p2:Nat},cq R xs lo (pre++(s1,l,p1)::(s2,m,p2)::j) hi->lo<=s1/\s2=s1+l/\0<l/\0<m/\s1+l+m<=hi/\eD R xs s1 (s1+l)/\eD R xs (s1+l) (s1+l+m)
 |[],j,lo,hi,s1,l,p1,s2,m,p2,h=>by
  obtain⟨rfl,b,c,rfl,e,f,g⟩:=h
  have:=g.le
  exact⟨YG _,rfl,b,e,by omega,c,f⟩
 |(s,n,p)::pre,j,lo,hi,s1,l,p1,s2,m,p2,⟨a,b,c,d⟩=>by
  obtain⟨h1,r⟩:=cq.two d;exact⟨by omega,r⟩
theorem cq.one:∀{pre l:List (Nat×Nat×Nat)}{lo hi s1 m p1 s2 r p2:Nat},cq R xs lo (pre++(s1,m,p1)::(s2,r,p2)::l) hi->eD R ys s1 (s1+m+r)->(∀k,k<s1\/s1+m+r<=k->ys[k]?=xs[k]?)->cq R ys lo (pre++(s1,m+r,p1)::l) hi
 |[],l,lo,hi,s1,m,p1,s2,r,p2,h,hs,hk=>by
  obtain⟨rfl,b,c,rfl,e,f,g⟩:=h
  have:=g.le
  refine⟨rfl,by omega,by rw[←Nat.add_assoc];exact hs,?_⟩;rw[←Nat.add_assoc];exact g.congr (λk a b=>hk k (.inr a)) rfl
 |(s,n,p)::pre,l,lo,hi,s1,m,p1,s2,r,p2,⟨a,b,c,d⟩,hs,hk=>by
  have h1:=(cq.two d).1;refine⟨a,b,λi j x y a b c' hx hy=>?_,cq.one d hs hk⟩;rw[hk i (.inl 'a')] at hx;rw[hk j (.inl 'a')] at hy;exact c i j x y a b c' hx hy
end
theorem ite_le{c:Prop}[Decidable c]{a b n:Nat}(h1:a<=n)(f:b<=n):(if c then a else b)<=n:=by split<;>assumption
theorem BX{a:Type}{l:List a}{i:Nat}{x y v:a}(h1:l[i]?=some x)(g:l[i+1]?=some y):l=l.take i++x::y::l.drop (i+2)/\(l.set i v).eraseIdx (i+1)=l.take i++v::l.drop (i+2):=by
 obtain⟨j,m⟩:=YD.mp h1;obtain⟨n,p⟩:=YD.mp g;have e:l=l.take i++x::y::l.drop (i+2):=by
  have b:=XU j;have c:=XU n;rw[m] at b;rw[p] at c;rw[←c,←b,XY]
 refine⟨e,?_⟩;have hl:(l.take i).length=i:=by rw[YS];omega
 generalize l.take i=pre at *;generalize l.drop (i+2)=f at *;subst e;subst hl;rw[List.set_append_right _ _ (YG _),Nat.sub_self,List.set_cons_zero,List.eraseIdx_append_of_length_le 'a',show pre.length+1-pre.length=1 by omega];rfl
section
variable {prog:Zv}{w:World}{A:Around}{E:Zb}{s:Shared}{kd:SortKind}{R:Keyed->Int}{a₀:Array Keyed}{st:SortSt}
theorem vT(l:dj prog w A s kd R a₀)(m:SB kd a₀ st){hi i:Nat}(hc:cq R (arrOf st) 0 (pendingOf st).toList hi)(C:hi<=a₀.size)(vO:i+1<(pendingOf st).size){Q:Bool->SortSt->Prop}
  (h:∀e_,SB kd a₀ e_->cq R (arrOf e_) 0 (pendingOf e_).toList hi->(pendingOf e_).size+1=(pendingOf st).size->(∀k,hi<=k->(arrOf e_)[k]?=(arrOf st)[k]?)->Q true e_):wpS 'd' A E s (mergeAt' i) Q st:=by
 have a:(pendingOf st)[i]?=some (pendingOf st)[i]:=getElem?_pos _ i 'a';have b:(pendingOf st)[i+1]?=some (pendingOf st)[i+1]:=getElem?_pos _ (i+1) vO;generalize (pendingOf st)[i]=u at a;generalize (pendingOf st)[i+1]=v at b;obtain⟨s1,c,p1⟩:=u;obtain⟨s2,f,p2⟩:=v;have n:(pendingOf st).toList[i]?=some (s1,c,p1):=by rw[XD];exact a
 have p:(pendingOf st).toList[i+1]?=some (s2,f,p2):=by rw[XD];exact b
 obtain⟨e1,e2⟩:=BX (v:=(s1,c+f,p1)) n p;have g:=hc;rw[e1] at g;obtain⟨G,rfl,r,t,J,y,z⟩:=cq.two g;refine zR l m a b r t 'a' y z λe_ B hp hs hk=>?_
 have j:(pendingOf e_).toList=(pendingOf st).toList.take i++(s1,c+f,p1)::(pendingOf st).toList.drop (i+2):=by
  rw[hp,←e2,Array.toList_eraseIdxIfInBounds,Array.toList_setIfInBounds]
 refine h e_ B ?_ ?_ λk K=>hk k (.inr 'a')
 ·rw[j]
  exact cq.one g hs hk
 ·rw[←YE,j,ZM,YJ,YS,YX,YE]
  omega
theorem FA(a:SB kd a₀ st){lo n:Nat}(hc:cq R (arrOf st) 0 (pendingOf st).toList lo)(hn:0<n)(hs:eD R (arrOf st) lo (lo+n)){Q:ForInStep UN->SortSt->Prop}
  (h:∀e_,SB kd a₀ e_->cq R (arrOf e_) 0 (pendingOf e_).toList (lo+n)->Q (.yield (none,lo+n)) e_):wpS 'd' A E s (rL lo n) Q st:=by
 unfold rL;refine wpS_bind (wpS_modify (wpS_pure (h _ ⟨a.perm,a.kind,a.fail⟩ ?_)));show cq R (arrOf st) 0 ((pendingOf st).push (lo,n,0)).toList (lo+n);rw[ZB];exact hc.snoc hn hs
theorem FB (p:dj prog w A s kd R a₀) (l:SB kd a₀ st) {lo n:Nat} (hc:cq R (arrOf st) 0 (pendingOf st).toList lo) (hn:0 < n) (hsz:lo + n<=a₀.size) (hs:eD R (arrOf st) lo (lo + n)) {size:Nat} {Q:ForInStep UN->SortSt->Prop}
    (h:∀ e_,SB kd a₀ e_->cq R (arrOf e_) 0 (pendingOf e_).toList (lo + n)->Q (.yield (none,lo + n)) e_):wpS 'd' A E s (rP size lo n) Q st:=by
  unfold rP
  refine wpS_bind (wpS_get ?_)
  split
  · rename_i s1 B p1 hb
    refine wpS_bind (wpS_mono (wpS_forRange (I:=λ_ c e_=>c = (none,())/\SB kd a₀ e_/\cq R (arrOf e_) 0 (pendingOf e_).toList lo/\eD R (arrOf e_) lo (lo + n)) (Q:=λc e_=>c = (none,())/\SB kd a₀ e_/\cq R (arrOf e_) 0 (pendingOf e_).toList lo/\eD R (arrOf e_) lo (lo + n)) ?step (λ_ _ z=>z) ⟨rfl,l,hc,hs⟩) ?post)
    case step=>
      rintro x c e_ _ _ ⟨rfl,f,c',g⟩
      unfold rM
      refine wpS_bind (wpS_get ?_)
      by_cases z:(pendingOf e_).size > 1
      · rw [if_pos z,getElem?_pos (pendingOf e_) ((pendingOf e_).size - 2) 'a']
        generalize (pendingOf e_)[(pendingOf e_).size - 2] = u
        obtain ⟨_,_,C⟩:=u
        dsimp only
        split
        · exact wpS_pure ⟨rfl,f,c',g⟩
        · refine wpS_bind (vT p f c' 'a' 'a' λG r t _ m=>?_)
          refine wpS_pure ⟨rfl,r,t,λi j x y a b d hx hy=>?_⟩
          rw [m i a] at hx
          rw [m j 'a'] at hy
          exact g i j x y a b d hx hy
      · rw [if_neg z]
        exact wpS_pure ⟨rfl,f,c',g⟩
    case post=>
      rintro c e_ ⟨rfl,f,c',g⟩
      dsimp only
      refine wpS_bind (wpS_modify ?_)
      refine FA (a₀:=a₀) (kd:=kd) (R:=R) ?_ ?_ hn ?_ h
      · exact ⟨f.perm,f.kind,f.fail⟩
      rotate_left
      · exact g
      refine cq.congr (λ_ _ _=>rfl) ?_ c'
      show ((pendingOf e_).modify ((pendingOf e_).size - 1) _).toList.map _ = _
      refine ZJ λk=>?_
      rw [ZH,ZH,XD,XD,Array.getElem?_modify]
      split
      · cases (pendingOf e_)[k]? <;> rfl
      · rfl
  · exact FA l hc hn hs h
theorem pY(p:dj prog w A s kd R a₀)(G:SB kd a₀ st)(hp:pendingOf st = #[]){Q:Unit->SortSt->Prop}(h:∀e_,(arrOf e_).Perm a₀->failedOf e_=none->eD R (arrOf e_) 0 a₀.size->Q () e_):wpS 'd' A E s sortRuns' Q st:=by
 rw[vS];refine wpS_bind (wpS_get ?_);rw[G.size];refine wpS_bind (wpS_mono (wpS_forRange (I:=λx c e_=>∃lo,c=(none,lo)/\x<=lo/\lo<=a₀.size/\SB kd a₀ e_/\cq R (arrOf e_) 0 (pendingOf e_).toList lo) (Q:=λc e_=>c=(none,a₀.size)/\SB kd a₀ e_/\cq R (arrOf e_) 0 (pendingOf e_).toList a₀.size) ?step ?fin ⟨0,rfl,YG _,YM _,G,by rw[hp];rfl⟩) ?post)
 case fin=>
  rintro c e_ ⟨lo,rfl,h1,L,f,c'⟩;obtain rfl:lo=a₀.size:=by omega
  exact⟨rfl,f,c'⟩
 case step=>
  rintro x c e_ _ hx ⟨lo,rfl,h1,L,f,c'⟩;dsimp only;unfold rB;by_cases z:lo>=a₀.size
  ·rw[if_pos z]
   obtain rfl:lo=a₀.size:=by omega
   exact wpS_pure ⟨rfl,f,c'⟩
  ·rw[if_neg z]
   refine wpS_bind (xm p f 'a' 'a' λm u B T U up=>?_);dsimp only;have r:∀{t:SortSt},gb kd a₀ e_ lo (lo+(a₀.size-lo)) t->cq R (arrOf t) 0 (pendingOf t).toList lo:=λI=>by
    rw[I.pend];exact c'.congr (λk _ b=>I.out k (.inl b)) rfl
   by_cases y:m<minRun' a₀.size a₀.size 0
   ·rw[if_pos y]
    refine wpS_bind (wpS_lift (wpAny_rule ⟨rfl,?_⟩));refine wpS_bind (uv p B 'a' 'a' 'a' up λt J O=>?_);exact FB p J.toSB (r J) 'a' 'a' O.srt λP C g=>⟨_,rfl,by omega,by omega,C,g⟩
   ·rw[if_neg y]
    exact FB p B.toSB (r B) 'a' 'a' up.srt λP C g=>⟨_,rfl,by omega,by omega,C,g⟩
 case post=>
  rintro c e_ ⟨rfl,f,c'⟩;dsimp only;refine wpS_bind (wpS_mono (wpS_forRange (I:=λx c e_=>c=(none,())/\SB kd a₀ e_/\cq R (arrOf e_) 0 (pendingOf e_).toList a₀.size/\((pendingOf e_).size+x<=a₀.size\/(pendingOf e_).size<=1)) (Q:=λc e_=>c=(none,())/\SB kd a₀ e_/\cq R (arrOf e_) 0 (pendingOf e_).toList a₀.size/\(pendingOf e_).size<=1) ?u ?fn2 ⟨rfl,f,c',.inl (by have:=c'.le;rw[YE] at this;omega)⟩) ?po2)
  case fn2=>
   rintro c e_ ⟨rfl,f,c',z⟩;exact⟨rfl,f,c',by omega⟩
  case u=>
   rintro x c e_ _ hx ⟨rfl,f,c',z⟩;unfold rF;refine wpS_bind (wpS_get ?_);by_cases y:(pendingOf e_).size<=1
   ·rw[if_pos y]
    exact wpS_pure ⟨rfl,f,c',y⟩
   ·rw[if_neg y]
    refine wpS_bind (vT p f c' (YG _) ?_ λu S r V _=>wpS_pure ⟨rfl,S,r,.inl 'a'⟩);exact Nat.lt_of_le_of_lt (Nat.succ_le_succ (ite_le (n:=(pendingOf e_).size-2) 'a' (YG _))) 'a'
  case po2=>
   rintro c e_ ⟨rfl,f,c',z⟩;dsimp only;refine wpS_pure (h e_ f.perm f.fail ?_);generalize hl:(pendingOf e_).toList=l at c';have hz:l.length<=1:=by rw[←hl,YE];exact z
   match l,hz,c' with
   |[],_,c'=>exact λi j x y _ a b=>by have:0=a₀.size:=c';omega
   |[(q,n,_)],_,c'=>
    obtain⟨_,_,K,g⟩:=c';have g:0+n=a₀.size:=g;rw[g] at K;exact K
   |_::_::_,hz,_=>simp at hz
end
section
variable {prog:Zv}{w:World}{A:Around}{E:Zb}{s:Shared}
theorem vU {a:Addr} {P:Fin->Shared->Prop} {e:Nat} {st:SortSt} (g:s.heap.get? a = some (seqObj "list" #[] e)) (hf:failedOf st = none) (hz:(arrOf st).size<=4000) (h:P (.done (.ret .none)) { s with heap:=s.heap.update a (Obj.mapSeq λ_=>(arrOf st).map (·.2)) }) :
    wpAny 'd' A (do
      let b:=(← seqEpoch a) != e
      Builtin.List.listUpdate (.ref a) λ_=>(arrOf st).map (·.2)
      if let some e:=failedOf st then rule "list.sort.comparison-raised"; throw e
      if b then rule "list.sort.modified"; raiseError "ValueError" "list modified during sort"
      ret .none) P E s:=by
  refine Yb (seqEpoch_at g rfl (Yb (listUpdate_at g rfl ?_ (hsz2:=by rw [Array.size_map,sizeLine_eq]; omega))))
  rw [hf,bne_self_eq_false]
  exact Yc h
theorem tB{R:Keyed->Int}{kd:SortKind}{a:Addr}{vs:Zd}{n:Nat}{P:Fin->Shared->Prop}(g:s.heap.get? a=some (seqObj "list" vs.toArray n))(m:∀s,dj prog w A s kd R (pairsOf vs))(hk:2<=vs.length->keyKind' vs.toArray=pure kd)(hz:vs.length<=4000)
  (h:∀xs:Array Keyed,xs.Perm (pairsOf vs)->eD R xs 0 (pairsOf vs).size->P (.done (.ret .none)) { s with heap:=sortedHeap s.heap a vs (xs.map (·.2)) }):wpAny 'd' A (Builtin.«list.sort» ⟨[.ref a],[]⟩) P E s:=by
 have z:vs.toArray.size=vs.length:=by simp
 have B:=pairsOf_size vs;rw[list_sort_plain];refine Yb (listItems_at g rfl (Yb (listUpdate_at g rfl ?_ (hsz:=by rw[z,sizeLine_eq];omega))));have b:=get?_update_seq g (λ_=>#[]);generalize (if(#[]:Array Value).size==vs.toArray.size then n else n+1)=e at b;refine Yb (seqEpoch_at b rfl (Yb (wpAny_newTuple (Yb (wpAny_newList (Yj ?_))))));have t:(((s.heap.update a (Obj.mapSeq λ_=>#[])).push (seqObj "tuple" vs.toArray 0)).push (seqObj "list" #[] 0)).get? a=some (seqObj "list" #[] e):=Yd _ (Yd _ b);have fin:=λ(st:SortSt) (p:(arrOf st).Perm (pairsOf vs)) (f:failedOf st=none) (q:eD R (arrOf st) 0 (pairsOf vs).size)=>vU (prog:=prog) (w:=w) (A:=A) (E:=E) (s:={ s with heap:=((s.heap.update a (Obj.mapSeq λ_=>#[])).push (seqObj "tuple" vs.toArray 0)).push (seqObj "list" #[] 0) }) t f (by rw[p.size_eq];omega) (h _ p q)
 by_cases c:vs.toArray.size<2
 ·rw[if_pos c,if_pos c]
  refine Yb (Yc ?_);dsimp only;rw[StateT.run_pure];refine Yb (Yc (fin _ (Array.Perm.refl _) rfl λi j x y _ ij C h1 l=>?_));obtain rfl:i=j:=by omega
  rw[h1] at l;cases l;exact Int.le_refl _
 ·rw[if_neg c,if_neg c,hk 'a']
  refine Yb (Yc (Yb (wpAny_mono (pY (m _) ⟨Array.Perm.refl _,rfl,rfl⟩ rfl (Q:=λ_ st=>(arrOf st).Perm (pairsOf vs)/\failedOf st=none/\eD R (arrOf st) 0 (pairsOf vs).size) λst p f q=>⟨p,f,q⟩) ?_ λ_ _ e=>e)));intro r G u;obtain⟨rfl,p,f,q⟩:=u;exact fin r.2 p f q
theorem tD{a:Addr}{vs:Zd}{ns:Zi}{n:Nat}{P:Fin->Shared->Prop}(g:s.heap.get? a=some (seqObj "list" vs.toArray n))(b:IntsAre vs ns)(hz:vs.length<=4000)
  (h:∀(out:Zl) (f:Zi),IntsAre out.toList f->f.Perm ns->f.Pairwise (·<=·)->P (.done (.ret .none)) { s with heap:=sortedHeap s.heap a vs out }):wpAny 'd' A (Builtin.«list.sort» ⟨[.ref a],[]⟩) P E s:=by
 refine tB (R:=λp=>numOf p.1) (kd:=oneType') g (λs x y hx hy Q E q=>?_) (λc=>?_) hz λxs p q=>?_
 ·obtain⟨i,t,e1⟩:=b.intKeys x hx
  obtain⟨j,u,e2⟩:=b.intKeys y hy;have q:Q (decide (numOf x.1<numOf y.1)) s:=q;rw[keyLt'_oneType];revert q;rw[e1,e2];exact λq=>oneLt_int q
 ·match vs,b,c with
  |_::_::_,b,_=>exact keyKind_ints b
 ·have hs:SortedTo xs (pairsOf vs).size:=λi j ij l=>by
   have hx:=p.size_eq;have h1:xs[i]?=some (xs[i]' 'a'):=Array.getElem?_eq_getElem 'a';have c:xs[j]?=some (xs[j]' 'a'):=Array.getElem?_eq_getElem 'a';unfold K;rw[h1,c];exact q i j _ _ (YM _) ij l h1 c
  obtain⟨f,h1,c,m⟩:=sorted_out b p hs;exact h _ f h1 c m
end
end TS
namespace DD
open PySem PySem.Spec PyProof.Rows L2
section
variable {prog:Zv}{w:World}{A:Around}{E:Zb}{s:Shared}{κ:Type}[DecidableEq κ]{knd:KeyKind prog w κ}
theorem list_dict{Q:Zb}{d:Addr}{a:List (κ×Value)}{f:Nat}(j:A.handled=none)(hd:(d==sysModules)=false)(hm:s.heap.DictAt knd d a f)(hl:a.length<=2 ^ 24)
  (l:∀h' tk f_ c',(∀b o,s.heap.get? b=some o->h'.get? b=some o)->h'.get? s.heap.objs.size=some { cls:=.type "list",dict:=none,data:=.seq f_ c',slots:=#[] }->ItemsOf (uR knd a) f_ a.length ->
   Q (.ref s.heap.objs.size) { s with heap:=h',toks:=tk }):wpAny 'd' A (call (.type "list") [.ref d]) Q E s:=by
 refine callType_codes (Q₁:=λobj g=>obj=.ref s.heap.objs.size/\g={ s with heap:=s.heap.push { cls:=.type "list",data:=.seq #[] } }) F.called_list (F.typeCall_list_1 _) F.entry_list_init (code_list_new _ ⟨rfl,rfl⟩) λobj g m=>?_
 obtain⟨rfl,rfl⟩:=m;have c:(s.heap.push { cls:=.type "list",data:=.seq #[] }).get? s.heap.objs.size=some { cls:=.type "list",data:=.seq #[] }:=Yg _ rfl;refine⟨⟨_,c,rfl⟩,F.args_list_init_2 _ _,?_⟩;show wpAny _ _ (do let old ←Builtin.List.listItems (.ref s.heap.objs.size);Builtin.List.listUpdate (.ref s.heap.objs.size) (λ_=>#[]);letGo old.toList.reverse;Builtin.List.listExtendWith (.ref s.heap.objs.size) (.ref d) .none) _ _ _;refine Yb ?_;unfold Builtin.List.listItems;refine Yb (wpAny_seqItems c rfl (Yc ?_));show wpAny _ _ (updateSeq s.heap.objs.size (λ_=>#[]) >>= λ_=>letGo (#[]:Array Value).toList.reverse >>= λ_=>Builtin.List.listExtendWith (.ref s.heap.objs.size) (.ref d) .none) _ _ _;refine Yb (wpAny_updateSeq c rfl ?_);have p1:=Heap.get?_update_self (Obj.mapSeq (λ_=>(#[]:Array Value))) c rfl;have nd:d≠s.heap.objs.size:=ZV hm.lt_size;have n:((s.heap.push { cls:=.type "list",data:=.seq #[] }).update s.heap.objs.size (Obj.mapSeq (λ_=>(#[]:Array Value)))).DictAt knd d a f:=(hm.push _).at' λo e=>(Heap.get?_update_other _ _ (Ne.symm nd)).trans e
 refine Yb (wpAny_letGo ?_);refine pX (A:=A.in1) (s:={ s with heap:=(s.heap.push { cls:=.type "list",data:=.seq #[] }).update s.heap.objs.size (Obj.mapSeq (λ_=>(#[]:Array Value))) }) j hd n hl s.heap.objs.size .none _ p1 ?_;intro h' tk f_ c' hk p r;refine⟨rfl,l h' tk f_ c' (λb o e=>hk b o (ZV (Ye e)) ?_) p r⟩;exact(Heap.get?_update_other _ _ (Ne.symm (ZV (Ye e)))).trans (Yd _ e)
theorem vV{Q:List Value->Shared->Prop}{d:Addr}{a:List (κ×Value)}{g:Nat}(j:A.handled=none)(hd:(d==sysModules)=false)(hm:s.heap.DictAt knd d a g)(hl:a.length<=2 ^ 24)
  (l:∀h' tk f_,(∀b o,s.heap.get? b=some o->h'.get? b=some o)->s.heap.objs.size<h'.objs.size->ItemsOf (uR knd a) f_ a.length->Q f_.toList { s with heap:=h',toks:=tk }):wpAny 'd' A (collect (.ref d)) Q E s:=by
 have go:∀R:Result->Shared->Prop,(∀h' tk f_ c',(∀b o,s.heap.get? b=some o->h'.get? b=some o)->h'.get? s.heap.objs.size=some { cls:=.type "list",dict:=none,data:=.seq f_ c',slots:=#[] }->ItemsOf (uR knd a) f_ a.length ->
   R (.ok (.ret (.ref s.heap.objs.size))) { s with heap:=h',toks:=tk })->codeAny 'd' A (.builtin "list.__iadd__" ⟨[.ref s.heap.objs.size,.ref d],[]⟩) R { s with heap:=s.heap.push (seqObj "list" #[] 0) }:=by
  intro R m;refine codeAny_builtin entry_list_iadd' ?_;show wpAny _ _ (Builtin.List.listExtendWith (.ref s.heap.objs.size) (.ref d) (.ref s.heap.objs.size)) _ _ { s with heap:=s.heap.push (seqObj "list" #[] 0) };rw[Around.under_plainId (id:="list.__iadd__") (by rfl')];refine pX (A:=A) (R:=R) (s:={ s with heap:=s.heap.push (seqObj "list" #[] 0) }) j hd (hm.push _) hl s.heap.objs.size _ 0 (Yg _ rfl) ?_;intro h' tk f_ c' hk c f;exact m h' tk f_ c' (λb o e=>hk b o (ZV (Ye e)) (Yd _ e)) c f
 unfold collect;refine Yb (wpAny_runValue (codeAny_builtin entry_proto_collect' ?_));show wpAny _ _ (do again (.builtin "list.__iadd__" ⟨[←newList [],.ref d],[]⟩)) _ _ s;refine Yb (wpAny_newList (Yc ⟨Code.quiet_builtin _ (by rfl'),go _ λh' tk f_ c' hk c f=>?_⟩));refine Yb (wpAny_load c ?_);exact Yc (l h' tk f_ hk (Ye c) f)
theorem yr:∀{vs:Zd}{c:Zi},vs.length=c.length->(∀(i:Nat) (v:Value) (n:Int),vs[i]?=some v->c[i]?=some n->∃t,v=Value.int n t)->IntsAre vs c
 |[],[],_,_=>.nil
 |[],_::_,h,_=>by cases h
 |_::_,[],h,_=>by cases h
 |v::vs,n::c,h,g=>by
  obtain⟨t,rfl⟩:=g 0 v n rfl rfl;exact .cons n t (yr (by simpa using h) λi v m a b=>g (i+1) v m (by simpa using a) (by simpa using b))
theorem rW {it:Value} {vs:Zd} {ns:Zi} {h':Heap} {tk:Nat} {Q:Zb} (c:IntsAre vs ns) (f:vs.length<=4000)
  (h:∀ (out:Zl) (a:Zi),IntsAre out.toList a->a.Perm ns->a.Pairwise (·<=·)->Q (.ref h'.objs.size) { s with heap:=sortedHeap (h'.push (seqObj "list" vs.toArray 0)) h'.objs.size vs out,toks:=tk }) :
  wpAny 'd' A.in1 (do
   let l ← newList vs
   let _ ← holding [l] (call (.builtin "list.sort") [l] [])
   ret l) (λfin g=>∃ v,fin = Fin.done (.ret v)/\Q v g) E { s with heap:=h',toks:=tk }:=by
 refine Yb (wpAny_newList ?_)
 have b:(h'.push (seqObj "list" vs.toArray 0)).get? h'.objs.size = some (seqObj "list" vs.toArray 0):=Yg _ rfl
 show wpAny _ _ _ _ _ { s with heap:=h'.push (seqObj "list" vs.toArray 0),toks:=tk }
 refine Yb (Yj (wpAny_call_entry slot_list_sort ⟨_,b,rfl⟩ entry_list_sort (TS.tD b c f λout a j m n=>⟨_,rfl,?_⟩) (args_list_sort _)))
 exact Yc ⟨_,rfl,h out a j m n⟩
end
def intKeys:List (Key×D)->Option (List Int)
 |[]=>some []
 |(.inl i,_)::r=>(intKeys r).map (i :: ·)
 |_=>none
theorem pZ:∀{a:Zz}{ns:Zi},intKeys a=some ns->a.map (·.1)=ns.map Sum.inl
 |[],ns,h=>by cases h;rfl
 |(.inl i,d)::r,ns,h=>by
  rw[intKeys] at h;cases q:intKeys r with
  |none=>rw[q] at h;cases h
  |some b=>rw[q] at h;cases h;rw[YL,YL,pZ q]
 |(.inr x,d)::r,ns,h=>by cases h
def pk(ns:Zi)(M:MH)(Q:DK):Prop:=ns.length<=4000/\∀(p:Addr) (a:Zi),M p=none->a.Perm ns->a.Pairwise (·<=·)->Q (.ref p) (ab M p (.lst (a.map .int)))
def yt:aK:=λds M Q=>match ds with
 |[.ref a]=>match cx (M a) with
  |some xs=>bq (ip xs) λns=>pk ns M Q
  |none=>bq (nX (M a)) λb=>bq (intKeys b) λns=>pk ns M Q
 |_=>False
theorem n5:∀{us:Zd}{a:Zi},IntsAre us a->ak (a.map V.int) us
 |_,_,.nil=>.nil
 |_,_,.cons n t r=>.cons ⟨t,rfl⟩ (n5 r)
theorem n6:∀{a:Zi}{us:Zd},ak (a.map V.int) us->IntsAre us a
 |[],_,h=>by cases h;exact .nil
 |n::a,_,h=>by
  cases h with
  |cons r t=>
   obtain⟨tk,rfl⟩:=r;exact .cons n tk (n6 t)
section
variable {X:Cx}{H:Hp}
theorem vW{pins:Zc}{ρ:L2.St}{s:Shared}{M:MH}{Q:DK}{ns a:Zi}{h':Heap}{tk:Nat}{p:Addr}{out:Zl}{e:Nat}(I:ad X pins ρ H s)(c:RM X.K M H)(q:pk ns M Q)(k:∀b o,s.heap.get? b=some o->h'.get? b=some o)(hp:s.heap.objs.size<=p)
  (g:h'.get? p=some (seqObj "list" out e)) (j:IntsAre out.toList a) (f:a.Perm ns) (l:a.Pairwise (·<=·)):EP X pins ρ (lift X.K H Q) (.ref p) { s with heap:=h',toks:=tk }:=by
 have hf:H p=none:=I.hok.fresh hp;have kk:=Kp.new (o:=.lst (a.map V.int)) hf;have hz:(a.map V.int).length<=sizeLine:=by
  rw[ZG,f.length_eq];have:(4000:Nat)<=sizeLine:=by decide
  have:=q.1
  omega
 exact⟨.ref p,_,I.laid (t':=tk) k hp (show a9 X.prog X.w _ h' p (.lst (a.map V.int)) from⟨hz,out.toList,e,n5 j,by simpa [seqObj] using g⟩),rfl,kk,.ref p,_,RV.ref_.2 rfl,c.new (m:=.lst (a.map .int)) hf ⟨_,aB,o9 (λ_=>RV.int_.2 rfl) a⟩,q.2 p a (c.fresh hf) f l⟩
theorem BY(hc:X.calm=true):fI X (.builtin "sorted") yt:=by
 intro ds vs H M Q r c h;unfold yt at h;split at h
 ·obtain⟨v,rfl,G⟩:=dJ r
  cases RV.ref_.1 G;split at h
  ·rename_i xs e1
   obtain⟨ns,e2,q⟩:=bd h;obtain⟨us,sq,J⟩:=c.list e1;obtain rfl:=qu e2 J;intro pins s ρ K I f;obtain⟨u,rfl,g⟩:=vals1 f;cases g;obtain⟨c_,C,L,hz⟩:=I.list sq;have hl:c_.length=ns.length:=by have:=C.length;simpa using this.symm
   have Y:(4000:Nat)<=sizeLine:=by decide
   have O:c_.length<=sizeLine:=by have:=q.1;omega
   refine Calls.call_function_entry kind_sorted plain_sorted entry_sorted (args_sorted1 _) ?_;unfold Builtin.«sorted»;refine Yb (m:=checkCount "sorted" 1 1 _) (Yc ?_);refine Yb (collect_list L.isList ?_ O);refine rW (s:=s) (A:=X.A) (it:=.none) (h':=(s.heap.push (seqObj "list" #[] 0)).update s.heap.objs.size (Obj.mapSeq (· ++ c_.toArray))) (tk:=s.toks) (n6 C) (by have:=q.1;omega) λout P j p t=>?_
   have hsz:((s.heap.push (seqObj "list" #[] 0)).update s.heap.objs.size (Obj.mapSeq (· ++ c_.toArray))).objs.size=s.heap.objs.size+1:=by rw[Heap.size_update,Heap.size_push]
   have y:∀b o,s.heap.get? b=some o->((s.heap.push (seqObj "list" #[] 0)).update s.heap.objs.size (Obj.mapSeq (· ++ c_.toArray))).get? b=some o:=λb o e=>
    (Heap.get?_update_other _ _ (Ne.symm (ZV (Ye e)))).trans (Yd _ e)
   generalize (s.heap.push (seqObj "list" #[] 0)).update s.heap.objs.size (Obj.mapSeq (· ++ c_.toArray))=h' at *;obtain⟨e,z⟩:=sortedHeap_at (h:=h'.push (seqObj "list" c_.toArray 0)) (a:=h'.objs.size) (vs:=c_) (n:=0) (out:=out) (Yg _ rfl);refine vW (tk:=s.toks) I c q (λb o e=>?_) 'a' z j p t;have h1:=y b o e;have hb:b<h'.objs.size:=Ye h1;rw[sortedHeap_old (ZV hb) (by rw[Heap.size_push];exact XJ hb)];exact Yd _ h1
  ·obtain⟨Z,e1,h⟩:=bd h
   obtain⟨ns,e2,q⟩:=bd h;obtain⟨m_,e3,R,_⟩:=c.dict e1;intro pins s ρ K I f;obtain⟨u,rfl,g⟩:=vals1 f;cases g;obtain⟨hz,hd,xs,S,T⟩:=km I.hok e3;obtain⟨ep,hm⟩:=T.dictAt;have hk:xs.map (·.1)=ns.map Sum.inl:=by rw[←S.keys,R,pZ e2]
   have hl:xs.length=ns.length:=by have:=congrArg List.length hk;simpa using this
   refine Calls.call_function_entry kind_sorted plain_sorted entry_sorted (args_sorted1 _) ?_;unfold Builtin.«sorted»;refine Yb (m:=checkCount "sorted" 1 1 _) (Yc ?_);refine Yb (vV (A:=X.A.in1) (I.ok.hd hc) hd hm (by have:=q.1;omega) λh' tk f_ y hsz B=>?_);obtain⟨hs,B⟩:=B;have U:f_.toList.length=ns.length:=by rw[←hl,←hs];simp
   have V:IntsAre f_.toList ns:=yr U λi v n hv hn=>by
    obtain⟨k,x,hx,hi⟩:=B i v (by rw[←XD];exact hv);have W:k=Sum.inl n:=by
     have:=congrArg (λl=>l[i]?) hk
     simp only[ZH,hx,hn,Option.map_some] at this;cases this;rfl
    subst W;exact td hi
   refine rW (s:=s) (A:=X.A) (it:=.none) V (by have:=q.1;omega) λout P j p t=>?_
   obtain⟨e,z⟩:=sortedHeap_at (h:=h'.push (seqObj "list" f_.toList.toArray 0)) (a:=h'.objs.size) (vs:=f_.toList) (n:=0) (out:=out) (Yg _ rfl);refine vW I c q (λb o e=>?_) (Nat.le_of_lt hsz) z j p t;have h1:=y b o e;have hb:b<h'.objs.size:=Ye h1;rw[sortedHeap_old (ZV hb) (by rw[Heap.size_push];exact XJ hb)];exact Yd _ h1
 ·exact Yh h
def lN:aK:=λds M Q=>match ds with
 |[.ref a]=>match nX (M a) with
  |some b=>∀p,M p=none->Q (.ref p) (ab M p (.lst (keysOf b)))
  |none=>oY ds M Q
 |ds=>oY ds M Q
theorem t7{P:Zv}{w:World}:∀{xs:List (Key×Value)}{us:Zd},us.length=xs.length->(∀(i:Nat) (v:Value) (k:Key) (x:Value),us[i]?=some v->xs[i]?=some (k,x)->(bC P w).is k v=true)->ak (xs.map λp=>kV p.1) us
 |[],[],_,_=>.nil
 |[],_::_,h,_=>by cases h
 |_::_,[],h,_=>by cases h
 |(k,x)::xs,u::us,h,g=>.cons (td (g 0 u k x rfl rfl)) (t7 (by simpa using h) λi v k x a b=>g (i+1) v k x (by simpa using a) (by simpa using b))
theorem vX(hc:X.calm=true):fI X (.type "list") lN:=by
 intro ds vs H M Q r f h;unfold lN at h;split at h
 ·rename_i a
  split at h
  ·rename_i j e1
   obtain⟨v,rfl,y⟩:=dJ r;cases RV.ref_.1 y;obtain⟨c,e3,z,_⟩:=f.dict e1;intro pins s ρ T I B;obtain⟨u,rfl,C⟩:=vals1 B;cases C;obtain⟨hz,hd,xs,n,G⟩:=km I.hok e3;obtain⟨U,hm⟩:=G.dictAt;have J:xs.length=c.length:=n.length.symm;by_cases t:xs.length<=2 ^ 24
   ·refine list_dict (I.ok.hd hc) hd hm t λh' tk f_ c' hk L l=>?_
    obtain⟨hs,l⟩:=l;have hv:ak (xs.map λp=>kV p.1) f_.toList:=t7 (P:=X.prog) (w:=X.w) (by rw[←hs];simp) λi v k x a b=>by
     obtain⟨k',V,hx,hi⟩:=l i v (by rw[←XD];exact a);rw[b] at hx;cases hx;exact hi
    have O:(xs.map λp=>kV p.1)=c.map λp=>kV p.1:=by
     have:=n.keys
     have g:(c.map (·.1)).map kV=(xs.map (·.1)).map kV:=by rw[this]
     rw[ZO,ZO] at g;exact g.symm
    rw[O] at hv;have hf:H s.heap.objs.size=none:=I.hok.fresh (YG _);have kk:=Kp.new (o:=.lst (c.map λp=>kV p.1)) hf;have R:ag X.K (upd H s.heap.objs.size (.lst (c.map λp=>kV p.1))) (keysOf j) (c.map λp=>kV p.1):=by
     have g:keysOf j=(c.map (·.1)).map kD:=by unfold keysOf;rw[z,ZO];rfl
     have S:(c.map λp=>kV p.1)=(c.map (·.1)).map kV:=by rw[ZO];rfl
     rw[g,S];exact o9 (λk=>Fk k) _
    exact⟨.ref s.heap.objs.size,_,I.laid (t':=tk) hk (YG _) (show a9 X.prog X.w _ h' _ (.lst (c.map λp=>kV p.1)) from⟨by rw[ZG];exact hz,f_.toList,c',hv,by simpa using L⟩),rfl,kk,.ref _,_,RV.ref_.2 rfl,f.new (m:=.lst (keysOf j)) hf ⟨_,aB,R⟩,h _ (f.fresh hf)⟩
   ·exact absurd (by rw[J];rw[sizeLine_eq] at hz;omega) t
  ·exact yf _ vs H M Q r f h
 ·exact yf _ vs H M Q r f h
end
end DD
namespace TS
open PySem PyProof.Rows
section
variable {prog:Zv}{w:World}{A:Around}{E:Zb}{s:Shared}
def FC(a:Addr)(h h':Heap):Prop:=∀b o,b≠a->h.get? b=some o->h'.get? b=some o
theorem vY{R:Keyed->Int}{kd:SortKind}{a:Addr}{vs:Zd}{n:Nat}{P:Fin->Shared->Prop}(g:s.heap.get? a=some (seqObj "list" vs.toArray n))(u:∀h',FC a s.heap h'->dj prog w A { s with heap:=h' } kd R (pairsOf vs))
  (hk:2<=vs.length->∀h',FC a s.heap h'->∀Q:SortKind->Shared->Prop,Q kd { s with heap:=h' }->wpAny 'd' A (keyKind' vs.toArray) Q E { s with heap:=h' }) (hz:vs.length<=4000)
  (h:∀xs:Array Keyed,xs.Perm (pairsOf vs)->eD R xs 0 (pairsOf vs).size->P (.done (.ret .none)) { s with heap:=sortedHeap s.heap a vs (xs.map (·.2)) }):wpAny 'd' A (Builtin.«list.sort» ⟨[.ref a],[]⟩) P E s:=by
 have z:vs.toArray.size=vs.length:=by simp
 have J:=pairsOf_size vs;rw[list_sort_plain];refine Yb (listItems_at g rfl (Yb (listUpdate_at g rfl ?_ (hsz:=by rw[z,sizeLine_eq];omega))));have l:=get?_update_seq g (λ_=>#[]);generalize (if(#[]:Array Value).size==vs.toArray.size then n else n+1)=e at l;refine Yb (seqEpoch_at l rfl (Yb (wpAny_newTuple (Yb (wpAny_newList (Yj ?_))))));have B:(((s.heap.update a (Obj.mapSeq λ_=>#[])).push (seqObj "tuple" vs.toArray 0)).push (seqObj "list" #[] 0)).get? a=some (seqObj "list" #[] e):=Yd _ (Yd _ l);have m:FC a s.heap (((s.heap.update a (Obj.mapSeq λ_=>#[])).push (seqObj "tuple" vs.toArray 0)).push (seqObj "list" #[] 0)):=λb o hb C=>Yd _ (Yd _ ((Heap.get?_update_other _ _ (Ne.symm hb)).trans C))
 have fin:=λ(st:SortSt) (p:(arrOf st).Perm (pairsOf vs)) (f:failedOf st=none) (q:eD R (arrOf st) 0 (pairsOf vs).size)=>vU (prog:=prog) (w:=w) (A:=A) (E:=E) (s:={ s with heap:=((s.heap.update a (Obj.mapSeq λ_=>#[])).push (seqObj "tuple" vs.toArray 0)).push (seqObj "list" #[] 0) }) B f (by rw[p.size_eq];omega) (h _ p q)
 by_cases c:vs.toArray.size<2
 ·rw[if_pos c,if_pos c]
  refine Yb (Yc ?_);dsimp only;rw[StateT.run_pure];refine Yb (Yc (fin _ (Array.Perm.refl _) rfl λi j x y _ ij K h1 t=>?_));obtain rfl:i=j:=by omega
  rw[h1] at t;cases t;exact Int.le_refl _
 ·rw[if_neg c,if_neg c]
  refine Yb (hk 'a' _ m _ (Yb (wpAny_mono (pY (u _ m) ⟨Array.Perm.refl _,rfl,rfl⟩ rfl (Q:=λ_ st=>(arrOf st).Perm (pairsOf vs)/\failedOf st=none/\eD R (arrOf st) 0 (pairsOf vs).size) λst p f q=>⟨p,f,q⟩) ?_ λ_ _ e=>e)));intro r L G;obtain⟨rfl,p,f,q⟩:=G;exact fin r.2 p f q
theorem G0{b c:Type}{F:b->c->Prop}{m f:List c}(h:f.Perm m):∀{l:List b},Paired F l m->∃a,a.Perm l/\Paired F a f:=by
 induction h with
 |nil=>intro l hl;cases hl;exact⟨[],.refl _,.nil⟩
 |cons x h g=>
  intro l hl;cases hl with
  |cons r t=>
   obtain⟨a,p,q⟩:=g t;exact⟨_::a,p.cons _,.cons r q⟩
 |swap x y k=>
  intro l hl;cases hl with
  |cons r t=>cases t with
   |cons j t=>exact⟨_,.swap _ _ _,.cons j (.cons r t)⟩
 |trans h1 G n u=>
  intro l hl;obtain⟨J,p1,z⟩:=u hl;obtain⟨B,p2,C⟩:=n z;exact⟨B,p2.trans p1,C⟩
theorem vZ{f c:Type}{F:f->c->Prop}:∀{l:List f}{m:List c}{b:c},Paired F l m->b∈m->∃a∈l,F a b
 |_,_,_,.nil,h=>nomatch h
 |_,_,_,.cons r t,h=>by
  rcases YB.mp h with rfl | h
  ·exact⟨_,ZZ,r⟩
  ·obtain⟨a,h1,g⟩:=vZ t h
   exact⟨a,.tail _ h1,g⟩
theorem tE{c f:Type}{F:c->f->Prop}:∀{l:List c}{m:List f}{i:Nat}{a:c},Paired F l m->l[i]?=some a->∃b,m[i]?=some b/\F a b
 |_,_,_,_,.nil,e=>by simp at e
 |_,_,0,_,.cons r _,e=>by simp at e;subst e;exact⟨_,rfl,r⟩
 |_,_,i+1,a,.cons _ t,e=>by
  obtain⟨b,h1,g⟩:=tE (i:=i) (a:=a) t (by simpa using e);exact⟨b,by simpa using h1,g⟩
theorem pairsOf_toList(vs:Zd):(pairsOf vs).toList=vs.map λv=>(v,v):=by
 unfold pairsOf;rw[Array.toList_zip];show vs.zip vs=_;induction vs with
 |nil=>rfl
 |cons v vs a=>simp[a]
end
end TS
namespace DD
open PySem PySem.Spec PyProof.Rows L2
section
variable {X:Cx}{H:Hp}
theorem yu{c f:Type}:∀{l:List c}{m:List f},l.length=m.length->(l.zip m).map (·.1)=l
 |[],[],_=>rfl
 |[],_::_,h=>by cases h
 |_::_,[],h=>by cases h
 |a::l,b::m,h=>by rw[List.zip_cons_cons,YL,yu (by simpa using h)]
end
def Jx(k:Int):Value->Bool
 |.int i _=>decide (i=k)
 |.bool b=>decide (b2i b=k)
 |_=>false
theorem gr{k:Int}{v:Value}(h:Jx k v=true):(∃t,v=.int k t) \/ ∃b,v=.bool b/\b2i b=k:=by
 cases v with
 |int i t=>exact .inl ⟨t,by rw[show i=k from XR h]⟩
 |bool b=>exact .inr ⟨b,rfl,XR h⟩
 |_=>cases h
theorem xn{prog:Zv}{w:World}{A:Around}{E:Zb}{s:Shared}{b:Bool}{Q:Int->Shared->Prop}(h:Q (hashInt (b2i b)) { s with toks:=s.toks+1 }):
  wpAny 'd' A (PySem.pyHash (.bool b)) Q E s:=by
 have a:s.TypeIs (.bool b) "bool":=rfl;have c:=rawHash_range (b2i b);unfold PySem.pyHash;have hv:[Value.bool b].any Value.onHeap=false:=rfl;refine Yb ?_;rw[cRoomFor,if_neg (by rw[hv];exact YF)];refine Yc ?_;refine Yb (wpAny_specialOf a F.slot_bool_hash.lookup ?_);show wpAny _ _ (if(some (Value.builtin "int.__hash__")==some Value.none)=true then _ else _) Q E s;rw[if_neg (by rw[beq_builtin_none];exact YF)];refine Yb (wpAny_specialOf a F.slot_bool_hash.lookup ?_);show wpAny _ _ (callSpecialIfBoundUnlessNone? (.bool b) "__hash__" _ >>= _) Q E s;refine Yb (wpAny_callSpecialIfBoundUnlessNone?_slot a F.slot_bool_hash
  (wpAny_call_entry F.slot_bool_hash a entry_int_hash
   (show wpAny _ _ (do ret (←mkInt (rawHash (b2i b)))) _ _ s from wpAny_ret_mkInt ?_) (args_int_hash _)))
 show wpAny _ _ (if(decide (-(2:Int) ^ 63<=rawHash (b2i b))&&decide (rawHash (b2i b)<2 ^ 63))=true then _ else _) Q E _;rw[if_pos (by rw[YV c.1,YV c.2];rfl)];exact Yc h
def n8(prog:Zv)(w:World):PySem.KeyKind prog w Int where
 is:=Jx
 hash:=hashInt
 inj:=λv a b ha hb=>by
  cases v with
  |int i t=>exact(XR ha).symm.trans (XR hb)
  |bool c=>exact(XR ha).symm.trans (XR hb)
  |_=>cases ha
 byValue:=λk v h=>by
  rcases gr h with⟨t,rfl⟩ | ⟨b,rfl,_⟩<;>rfl
 pyHash:=λhv h=>by
  rcases gr hv with⟨t,rfl⟩ | ⟨b,rfl,rfl⟩
  ·exact wpAny_pyHash_int h
  ·exact xn h
 eqBool:=λ{A E s a b u v Q} hu hv h=>by
  rcases gr hu with⟨t,rfl⟩ | ⟨x,rfl,rfl⟩
  ·rcases gr hv with⟨t',rfl⟩ | ⟨y,rfl,rfl⟩
   ·exact wpAny_eqBool_int h
   ·exact SeqAt.EqAt.int_bool a t y _ _ _ _ h
  ·rcases gr hv with⟨t',rfl⟩ | ⟨y,rfl,rfl⟩
   ·exact SeqAt.EqAt.bool_int x b t' _ _ _ _ h
   ·refine SeqAt.EqAt.bool_bool x y _ _ _ _ ?_
    rw[show(x==y)=decide (b2i x=b2i y) by cases x<;>cases y<;>rfl];exact h
 «strs»:=λk x t v h=>by cases h
theorem Ej{b a:Type}{F:b->a->Prop}{l:List b}{m:List a}(h:Paired F l m){y:a}(hy:y∈m):∃x∈l,F x y:=by
 induction h with
 |nil=>cases hy
 |cons q _ c=>
  rcases YB.1 hy with rfl | hy
  ·exact⟨_,ZZ,q⟩
  ·obtain⟨x,h1,f⟩:=c hy
   exact⟨x,YA _ h1,f⟩
section
variable {X:Cx}{H:Hp}{pins:Zc}{σ:L2.St}{s:Shared}
theorem v8{b:Addr}{x:Int}{y:Bool}(I:ad X pins σ H s)(sq:bn X.K H b [.int x,.bl y]):(tupleKind (n8 X.prog X.w)).is s.heap [x,b2i y] b:=by
 obtain⟨c_,a,ht,_⟩:=I.tuple sq;obtain⟨o,h1,c,n,f⟩:=ht;refine⟨o,c_.toArray,n,h1,c,f,?_⟩;cases a with
 |cons g j=>cases j with
  |cons l m=>cases m with
   |nil=>
    obtain⟨t,rfl⟩:=g;cases l;exact .cons (YV rfl) (.cons (YV rfl) .nil)
theorem Jy{a:Addr}{ks:List (Int×Bool)}{xs:List (List Int×Addr×Value)}(I:ad X pins σ H s)(e:H a=some (nN a xs))(r:Paired (jv X.K H) ks xs)(nd:ks.Nodup):
  s.heap.DictOfH (tupleKind (n8 X.prog X.w)) a xs:=by
 obtain⟨⟨o,es,f,h1,b,g,j⟩,_⟩:=(show a9 X.prog X.w H s.heap a (nN a xs) from I.hok a _ e);have all:∀{ks:List (Int×Bool)}{xs:List (List Int×Addr×Value)},Paired (jv X.K H) ks xs->∀x∈xs,(tupleKind (n8 X.prog X.w)).is s.heap x.1 x.2.1:=by
  intro ks xs r;induction r with
  |nil=>intro x hx;cases hx
  |cons q _ c=>
   intro x hx;rcases YB.1 hx with rfl | hx
   ·rw[q.1];exact v8 I q.2.1
   ·exact c x hx
 have l:∀{ks:List (Int×Bool)}{xs:List (List Int×Addr×Value)},Paired (jv X.K H) ks xs->ks.Nodup->(xs.map (·.1)).Nodup:=by
  intro ks xs r;induction r with
  |nil=>intro _;exact List.nodup_nil
  |@cons k x ks xs q t c=>
   intro nd;rw[YO] at nd;rw[YL,YO];refine⟨λhm=>nd.1 ?_,c nd.2⟩;obtain⟨u,m,e'⟩:=List.mem_map.1 hm;obtain⟨k',n,p⟩:=Ej t m;have:[k'.1,b2i k'.2]=[k.1,b2i k.2]:=by rw[←p.1,←q.1,e']
   simp only[List.cons.injEq,and_true] at this;have e2:k'.2=k.2:=by
    have:=this.2
    cases h1:k'.2<;>cases b:k.2<;>first | rfl | (rw[h1,b] at this;exact absurd this 'c')
   rw[show k=k' from Prod.ext this.1.symm e2.symm];exact n
 exact⟨o,es,f,h1,b,g,by rw[j];rfl,all r,l r nd⟩
def putP(ks:List (Int×Bool))(k:Int×Bool):List (Int×Bool):=if k∈ks then ks else ks++[k]
theorem mF{ks:List (Int×Bool)}(k:Int×Bool)(h:ks.Nodup):(putP ks k).Nodup:=by
 unfold putP;split
 ·exact h
 ·rename_i hk
  rw[List.nodup_append];refine⟨h,by simp,λa ha b hb=>?_⟩;rw[XO.1 hb];exact λz=>hk (z▸ha)
theorem Ek(ks:List (Int×Bool))(k:Int×Bool):(putP ks k).length<=ks.length+1:=by
 unfold putP;split
 ·omega
 ·simp
theorem El{K:Za}{ks:List (Int×Bool)}{xs:List (List Int×Addr×Value)}(r:Paired (jv K H) ks xs)(k:Int×Bool):(atKey xs [k.1,b2i k.2]).isSome=decide (k∈ks):=by
 induction r with
 |nil=>rfl
 |@cons k' x ks xs q t a=>
  unfold atKey at a ⊢;rw[XF];by_cases e:k=k'
  ·subst e
   rw[show decide (x.1=[k.1,b2i k.2])=true from YV q.1];simp
  ·have b:x.1≠[k.1,b2i k.2]:=λz=>e (by
    rw[q.1] at z;simp only[List.cons.injEq,and_true] at z;refine Prod.ext z.1.symm ?_
    have:=z.2
    cases h1:k'.2<;>cases h2:k.2<;>first | rfl | (rw[h1,h2] at this;exact absurd this 'c'))
   rw[show decide (x.1=[k.1,b2i k.2])=false from ZR b];simp only[YB,e,false_or];exact a
theorem BZ{K:Za}{ks:List (Int×Bool)}{xs:List (List Int×Addr×Value)}{b:Addr}(r:Paired (jv K H) ks xs)(k:Int×Bool)(sq:bn K H b [.int k.1,.bl k.2]):
  Paired (jv K H) (putP ks k) (storedH xs [k.1,b2i k.2] b (.bool true)):=by
 unfold putP storedH;rw[El r k];by_cases h:k∈ks
 ·rw[if_pos h,if_pos (YV h)]
  have same:∀{ks:List (Int×Bool)}{xs:List (List Int×Addr×Value)},Paired (jv K H) ks xs->xs.map (putAt [k.1,b2i k.2] (.bool true))=xs:=by
   intro ks xs r;induction r with
   |nil=>rfl
   |@cons k' x ks xs q t a=>
    rw[YL,a];congr 1;unfold putAt;split
    ·obtain⟨f,g,c⟩:=x
     have:c=.bool true:=q.2.2
     rw[this]
    ·rfl
  rw[same r];exact r
 ·rw[if_neg h,if_neg (by rw[ZR h];exact YF)]
  exact bA r (.cons ⟨rfl,sq,rfl⟩ .nil)
def rX(o i d:D)(M:MH)(Q:MH->Prop):Prop:=match o,i,d with
 |.ref a,.tup [.int x,.bl y],.bl true=>match M a with
  |some (.dic [])=>Q (ab M a (.prs [(x,y)]))
  |some (.prs ks)=>ks.length<sizeLine/\Q (ab M a (.prs (putP ks (x,y))))
  |_=>False
 |_,_,_=>False
theorem t9{a b:Addr}{x:Int}{y:Bool}{xs:List (List Int×Addr×Value)}{A:Around}{E:Zb}{Q:Zo}(hu:A.units+1<cLine)(I:ad X pins σ H s)(mu:xD (H a))(j:s.heap.DictOfH (tupleKind (n8 X.prog X.w)) a xs)(hz:xs.length<=sizeLine)
  (sq:bn X.K H b [.int x,.bl y]) (h:∀f,ad X pins σ (upd H a (nN a (storedH xs [x,b2i y] b (.bool true)))) f->Q () f):wpAny 'b' A (setItem (.ref a) (.ref b) (.bool true)) Q E s:=by
 refine wpAny_setItem_heap (hsz:=hz) (tupleKind_room_in1 hu) (v8 I sq) j λh' l hs=>h _ ?_
 obtain⟨q,es,c,hq,g,m,n,_,p⟩:=l;refine sY I mu hs ⟨q,hq⟩ ⟨⟨q,es,c,hq,g,m,by rw[n];rfl⟩,⟨q,hq⟩,λh1 g z k=>?_⟩;obtain⟨o,es,c,e1,e2⟩:=z;exact⟨o,es,c,k o e1,e2⟩
end
section
variable {X:Cx}{H:Hp}{e a b c o i v:Expr}{es:Zg}{pos:Pos}
theorem zS{P:Zv}{w:World}{h:Heap}{a:Addr}{vs:List (Key×Value)}(e:vs=[])(d:h.DictOf (bC P w) a vs):h.DictOfH (tupleKind (n8 P w)) a []:=by
 subst e;obtain⟨o,es,g,h1,j,l,_,f,_⟩:=d;have e:es.toList=[]:=by
  cases h:es.toList with
  |nil=>rfl
  |cons _ _=>rw[h] at f;exact nomatch f
 exact⟨o,es,g,h1,j,l,e,λx hx=>(nomatch hx),List.nodup_nil⟩
theorem G1{K:Za}{x:Int}{y:Bool}{v:V}(r:RV K H (.tup [.int x,.bl y]) v):∃b,v=.ref b/\bn K H b [.int x,.bl y]:=by
 obtain⟨b,xs,rfl,sq,f⟩:=RV.tup_.1 r;rw[ag] at f;obtain⟨m,g,rfl,j,f⟩:=f;rw[ag] at f;obtain⟨n,p,rfl,l,f⟩:=f;rw[ag] at f;subst f;cases RV.int_.1 j;cases RV.bl_.1 l;exact⟨b,rfl,sq⟩
theorem Kw(hu:X.A.units+40<cLine){x y d:D}{o i v:V}{M:MH}{Q:MH->Prop}(B:RV X.K H x o)(C:RV X.K H y i)(G:RV X.K H d v)(g:RM X.K M H)(h:rX x y d M Q):pW X o i v H λH'=>Kp H H'/\∃M',RM X.K M' H'/\Q M':=by
 unfold rX at h;split at h
 ·rename_i a x y
  cases RV.ref_.1 B;obtain⟨b,rfl,sq⟩:=G1 C;cases RV.bl_.1 G;split at h
  ·rename_i e1
   obtain⟨t,f,J,_⟩:=g _ _ e1;have hk:t=[]:=by cases t with
    |nil=>rfl
    |cons _ _=>cases J
   subst hk;intro pins s ρ L O u I j l n;cases j;cases l;cases n;obtain⟨z,hd,vs,P,R⟩:=yZ I.hok f;have hv:vs=[]:=by have:=P.length;exact List.eq_nil_of_length_eq_zero this.symm
   have kk:=Kp.put (o':=nN a (storedH [] [x,b2i y] b (.bool true))) f trivial;refine t9 'a' I (by rw[f];exact True.intro) (zS hv R) (YM _) sq λS p=>⟨_,p,kk,_,g.put (m:=.prs [(x,y)]) f trivial ⟨_,aB,?_,by simp,by show 1<=sizeLine;decide,hd⟩,h⟩
   exact .cons ⟨rfl,kk.sq sq,rfl⟩ .nil
  ·rename_i ks e1
   obtain⟨xs,f,r,nd,hz,hd⟩:=g _ _ e1;obtain⟨hl,q⟩:=h;intro pins s ρ L O u I j l n;cases j;cases l;cases n;have kk:=Kp.put (o':=nN a (storedH xs [x,b2i y] b (.bool true))) f trivial;have T:=iD r;refine t9 'a' I (by rw[f];exact True.intro) (Jy I f r nd) 'a' sq λS p=>⟨_,p,kk,_,g.put (m:=.prs (putP ks (x,y))) f trivial ⟨_,aB,?_,mF _ nd,?_,hd⟩,q⟩
   ·exact BZ (k:=(x,y)) (iE (λk x z=>⟨z.1,kk.sq z.2.1,z.2.2⟩) r) (kk.sq sq)
   ·have:=Ek ks (x,y);omega
  ·exact Yh h
 ·exact Yh h
def zT(f g j:WE):WS:=λE σ M=>f σ M λd M1=>g σ M1 λx M2=>j σ M2 λy l=>rX x y d l λm=>E.nx σ m
theorem Em{l m n:WE}{p:Pos}(hu:X.A.units+40<cLine)(hv:aP X v l)(C:aP X o m)(hi:aP X i n)(hc:dX v=true)(hs:fP i=true):ku X (.Assign [.Subscript o i p] v pos) (zT l m n):=by
 intro σ M ρ H E rs G h;refine dG (Av (bB v) (Au (bB o) (bB i) KC (by intro w;cases i<;>first | rfl | exact absurd (show false=true from hs) YF)) (Jk hc) (by cases v<;>rfl) rfl) ?_;show tW X v ρ H _;refine aO (hv σ M ρ H _ rs G h) λu r J=>?_
 obtain⟨f,d,M1,K,L,O⟩:=J;show tW X o ρ r _;refine aO (C σ M1 ρ r _ (rs.mono f) L O) λw' t P=>?_
 obtain⟨g,x,M2,R,S,T⟩:=P;show tW X i ρ t _;refine aO (hi σ M2 ρ t _ (rs.mono (f.trans g)) S T) λz H3 U=>?_
 obtain⟨j,y,M3,V,W,Y⟩:=U;refine yj (Kw hu (RV.mono j x R) V (RV.mono (g.trans j) d K) W Y) λH4 Z=>?_
 obtain⟨B,M4,m4,q4⟩:=Z;exact⟨f.trans (g.trans (j.trans B)),σ,M4,rs.mono (f.trans (g.trans (j.trans B))),m4,q4⟩
end
def bZ(h:Heap)(d:Addr)(es:Array DictEntry)(a:Nat):Prop:=∃o,h.get? d=some o/\o.ExactDict/\o.data=.dict es a
section
variable {prog:Zv}{w:World}{A:Around}{E:Zb}{s:Shared}{d it:Addr}{es:Array DictEntry}{ep i:Nat}
theorem bZ.at'{h h':Heap}(x:bZ h d es ep)(k:∀o,h.get? d=some o->h'.get? d=some o):bZ h' d es ep:=let⟨o,e,r⟩:=x;⟨o,k o e,r⟩
theorem bZ.lt{h:Heap}(x:bZ h d es ep):d<h.objs.size:=let⟨_,e,_⟩:=x;Ye e
theorem bZ.typeIs(x:bZ s.heap d es ep):s.TypeIs (.ref d) "dict":=let⟨o,e,c,_⟩:=x;⟨o,e,c.1⟩
theorem B0{Q:Zb}(lo:(d==sysModules)=false)(x:bZ s.heap d es ep)
  (q:Q (.ref s.heap.objs.size) { s with heap:=s.heap.push { cls:=.type "dict_keyiterator",data:=.fields #[.ref d,.int 0 0,.int es.size 0,.int ep 0] } }):wpAny 'd' A (pyIter (.ref d)) Q E s:=by
 obtain⟨o,e1,e2,e3⟩:=id x;have ty:=x.typeIs;refine wpAny_pyIter_slot ty F.slot_dict_iter (wpAny_call_entry F.slot_dict_iter ty F.entry_dict_iter ?_ (F.args_dict_iter_1 _));unfold Builtin.«dict.__iter__»;refine Yb ?_;unfold Builtin.Dict.dictSlotNone;refine Yb (wpAny_notOrdered_dict ty (show wpAny _ _ (pure (Value.ref d)) _ _ s from Yc ?_));show wpAny _ _ (Builtin.Dict.showsAll d >>= _) _ _ s;unfold Builtin.Dict.showsAll;rw[lo];refine Yb (Yc (Yb (wpAny_dictEntries e1 e3 (Yb (wpAny_dictEpoch e1 e3 ?_)))));refine Yb (wpAny_newObj_type (Yc ⟨_,rfl, "dict_keyiterator",_,⟨_,Yg _ rfl,rfl⟩,F.slot_dict_keyiterator_next.lookup,?_⟩));simpa [rawInt] using q
theorem En{Q:Option Value->Shared->Prop}(hit:s.heap.IsKeyIter it d i es.size ep)(x:bZ s.heap d es ep)(hi:i<es.size)
  (q:∀h',h'.IsKeyIter it d (i+1) es.size ep->Heap.SameBut it s.heap h'->Q (some es[i].key) { s with heap:=h' }):wpAny 'd' A (pyNext (.ref it)) Q E s:=by
 obtain⟨u,u1,c,u3⟩:=id hit;rw[1];rw[if_neg (by exact YF)];refine Yb (Yc (Yb (wpAny_dictEntries e1 e3 ?_)));rw[if_neg (by simp)];refine Yb (Yc (Yb (wpAny_dictEpoch e1 e3 ?_)));rw[if_neg (by simp)];refine Yc ?_;have hg:es[i]?=some es[i]:=Array.getElem?_eq_getElem hi;simp only[show ¬((i:Int)<0) by omega,if_false,YW,hg];refine Yb (Yb (nm (Yc (Yb (wpAny_isOneOf_keyiter hit.typeIs ?_)))));show wpAny _ _ (setField (.ref it) 1 (rawInt ((i:Int)+1)) >>= _) _ _ s;refine Yb (wpAny_setField u1 u3 (by simp) ?_);have a:(s.heap.update it (Obj.mapFields (·.setIfInBounds 1 (rawInt ((i:Int)+1))))).IsKeyIter it d (i+1) es.size ep:=
  ⟨_,Heap.get?_update_self _ u1 (Obj.isFreed_of_fields (Obj.data_mapFields u3 _)),(Obj.cls_mapFields ..).trans c,by rw[Obj.data_mapFields u3];simp[rawInt]⟩
 generalize hh:s.heap.update it (Obj.mapFields (·.setIfInBounds 1 (rawInt ((i:Int)+1))))=b at a ⊢;have f:Heap.SameBut it s.heap b:=by rw[←hh];exact Heap.SameBut.update ..
 refine Yb (Yj (Yb (wpAny_isOneOf_keyiter (s:={ s with heap:=b }) a.typeIs ?_)));exact Yc (Yc ⟨_,rfl,Yc (q b a f)⟩)
theorem next_end{Q:Option Value->Shared->Prop}(c:A.handled=none)(hit:s.heap.IsKeyIter it d es.size es.size ep)(x:bZ s.heap d es ep)
  (q:∀h',Heap.ExtBut it s.heap h'->Q none { s with heap:=h' }):wpAny 'd' A (pyNext (.ref it)) Q E s:=by
 obtain⟨u,u1,f,u3⟩:=id hit;rw[1];rw[if_neg (by exact YF)];refine Yb (Yc (Yb (wpAny_dictEntries e1 e3 ?_)));rw[if_neg (by simp)];refine Yb (Yc (Yb (wpAny_dictEpoch e1 e3 ?_)));rw[if_neg (by simp)];refine Yc ?_;simp only[show ¬((es.size:Int)<0) by omega,if_false,YW,Array.getElem?_eq_none (YG es.size)];refine Yb (Yb (nm (Yc ?_)));show wpAny _ _ (setField (.ref it) 0 .none >>= _) _ _ s;refine Yb (wpAny_setField u1 u3 (by simp) ?_);show wpAny _ _ (newExc (.type "StopIteration") [] >>= _) _ _ _;simp only[newExc,newTuple];refine Yb (Yb (wpAny_newObj_type ?_ (by size_fits)));refine Yb (m:=firstArgMember _ _) (wpAny_of_eq (a:=Value.none) (by first | rfl | (simp only[firstArgMember];rfl)) (wpAny_newObj_type ?_ (by size_fits)));simp only[raiseNew];refine Yb (wpAny_handled ?_);rw[show A.in1.handled=none from c];refine Yb (Yc (wpAny_throw ?_));refine Yb (wpAny_isInstance (T:="StopIteration") (b:=true) ⟨_,Yg _ rfl,rfl⟩ isSubtype_stop ?_);exact Yc (q _ (((Heap.SameBut.update ..).extBut.push _).push _))
theorem zU(c:A.handled=none)(I:Addr)(f:d≠I)(es:Array DictEntry)(ep:Nat):
  Walks prog w A I [I,d] [I] es.size (λi v=>∃e,es[i]?=some e/\v=e.key) (λi h=>h.IsKeyIter I d i es.size ep/\bZ h d es ep) where
 sub:=λb hb=>by simp at hb;simp[hb]
 frame:=λ_ _ _ st k=>⟨st.1.at λo e=>k I (by simp) o e,st.2.at' λo e=>k d (by simp) o e⟩
 item:=λi s Q E hi st g=>En st.1 st.2 hi λh' j a=>
  g _ h' s.toks ⟨es[i],Array.getElem?_eq_getElem hi,rfl⟩ ⟨j,st.2.at' λo e=>a.extBut d o f e⟩ λb o hb e=>a.extBut b o (λz=>hb (by simp[z])) e
 done:=λs Q E st g=>next_end c st.1 st.2 λh' l=>g h' s.toks λb o hb e=>l b o (λz=>hb (by simp[z])) e
 self:=λ_ _ _ _ st g=>wpAny_pyIter_keyiter st.1 g
theorem v9(lo:(d==sysModules)=false):PySem.W.KdlSrc prog w "dict" d d es.size (λi v=>∃e,es[i]?=some e/\v=e.key) (λh=>bZ h d es ep) where
 type:=λs x=>bZ.typeIs x
 there:=λ_ x=>⟨x.lt,x.lt⟩
 keep:=λ_ _ x k=>x.at' λo e=>k d (.inl rfl) o e
 notList:=by decide
 notTuple:=by decide
 hint:=λ_ _ s _ x g=>PySem.W.kdl_hint_dict (bZ.typeIs (s:=s) x) g
 iter:=λ_ _ a x=>⟨_,_,(λ_ _ g=>B0 lo x g),zU a _ (ZV x.lt) es ep,⟨⟨_,Yg _ rfl,rfl,rfl⟩,x.at' λo e=>Yd _ e⟩⟩
end
def pD(k:Int×Bool):D:=.tup [.int k.1,.bl k.2]
def n9:aK:=λds M Q=>match ds with
 |[.ref a]=>match M a with
  |some (.dic [])=>∀p,M p=none->Q (.ref p) (ab M p (.lst []))
  |some (.prs ks)=>∀p,M p=none->Q (.ref p) (ab M p (.lst (ks.map pD)))
  |_=>False
 |_=>False
section
variable {X:Cx}{H:Hp}{pins:Zc}{σ:L2.St}{s:Shared}
theorem wa{a:Addr}{xs:List (List Int×Addr×Value)}(I:ad X pins σ H s)(e:H a=some (nN a xs)):∃es b,bZ s.heap a es b/\es.toList=xs.map Iy:=by
 obtain⟨⟨o,es,b,h1,c,f,g⟩,_⟩:=(show a9 X.prog X.w H s.heap a (nN a xs) from I.hok a _ e);exact⟨es,b,⟨o,h1,c,f⟩,g⟩
theorem wb{K:Za}:∀{ks:List (Int×Bool)}{xs:List (List Int×Addr×Value)}{us:Zd},Paired (jv K H) ks xs->us.length=xs.length ->
  (∀(i:Nat) (v:Value) (x:List Int×Addr×Value),us[i]?=some v->xs[i]?=some x->v=.ref x.2.1)->ak (xs.map λx=>V.ref x.2.1) us
 |_,_,[],.nil,_,_=>.nil
 |_,_,_::_,.nil,h,_=>by cases h
 |_,_,[],.cons _ _,h,_=>by cases h
 |_,_,u::us,.cons (b:=x) _ t,h,g=>.cons (g 0 u x rfl rfl) (wb t (by simpa using h) λi v x a b=>g (i+1) v x (by simpa using a) (by simpa using b))
theorem G2{K:Za}{ks:List (Int×Bool)}{xs:List (List Int×Addr×Value)}(r:Paired (jv K H) ks xs):ag K H (ks.map pD) (xs.map λx=>V.ref x.2.1):=by
 induction r with
 |nil=>exact .nil
 |@cons k x ks xs q _ a=>
  refine .cons (RV.tup_.2 ⟨x.2.1,_,rfl,q.2.1,?_⟩) a;exact .cons (RV.int_.2 rfl) (.cons (RV.bl_.2 rfl) .nil)
theorem Ep(hc:X.calm=true):fI X (.type "list") n9:=by
 intro ds vs H M Q r c h;unfold n9 at h;split at h
 ·rename_i a
  split at h
  ·rename_i e1
   refine vX hc [.ref a] vs H M Q r c ?_;show(match nX (M a) with | some l=>∀p,M p=none->Q (.ref p) (ab M p (.lst (keysOf l))) | none=>oY [.ref a] M Q);rw[e1];exact h
  ·rename_i ks e1
   obtain⟨v,rfl,n⟩:=dJ r;cases RV.ref_.1 n;obtain⟨xs,t,f,nd,hz,hd⟩:=c _ _ e1;intro pins s ρ J I y;obtain⟨u,rfl,z⟩:=vals1 y;cases z;obtain⟨es,K,B,j⟩:=wa I t;have hsz:es.size=xs.length:=by rw[←YE,j,ZG]
   have hl:=iD f;refine PySem.W.kdl_call (v9 hd) (I.ok.hd hc) B 'a' λh' tk f_ c' hk C g=>?_
   obtain⟨hs,g⟩:=g;have hv:ak (xs.map λx=>V.ref x.2.1) f_.toList:=wb f (by rw[YE,hs,hsz]) λi v x a b=>by
    obtain⟨e,e2,e3⟩:=g i v (by rw[←XD];exact a);rw[←XD,j,ZH,b] at e2;cases e2;exact e3
   have hf:H s.heap.objs.size=none:=I.hok.fresh (YG _);have kk:=Kp.new (o:=.lst (xs.map λx=>V.ref x.2.1)) hf;have G:=ag.mono kk _ (G2 f);exact⟨.ref s.heap.objs.size,_,I.laid (t':=tk) hk (YG _) (show a9 X.prog X.w _ h' _ (.lst (xs.map λx=>V.ref x.2.1)) from⟨by rw[ZG];omega,f_.toList,c',hv,by simpa using C⟩),rfl,kk,.ref _,_,RV.ref_.2 rfl,c.new (m:=.lst (ks.map pD)) hf ⟨_,aB,G⟩,h _ (c.fresh hf)⟩
  ·exact Yh h
 ·exact Yh h
end
end DD
namespace DD
open PySem PySem.Spec PyProof.Rows L2 PySem.MeetsSeq PySem.SeqAt
theorem Er(a b:Bool):Gives (Builtin.«int.__lt__» ⟨[.bool a,.bool b],[]⟩) (.val (.bool (decide (b2i a<b2i b)))):=
 .of_wp λM A E s Q h=>by obtain⟨hp,g,d,tk,os⟩:=s;wp_walk;exact⟨_,rfl,h⟩
end DD
namespace TS
open PySem PyProof.Rows
section
variable {prog:Zv}{w:World}{A:Around}{E:Zb}{s:Shared}
def iq(h:Heap)(p:Int×Bool)(v:Value):Prop:=∃a t,v=.ref a/\h.IsTuple a #[.int p.1 t,.bool p.2]
def kC(p:Int×Bool):Int:=p.1*2+DD.b2i p.2
def Lx:Value->Int
 |.bool b=>DD.b2i b
 |_=>0
def Jz(h:Heap)(v:Value):Int:=match v with
 |.ref a=>match h.get? a with
  |some o=>match o.data with
   |.seq xs _=>numOf (xs[0]?.getD .none)*2+Lx (xs[1]?.getD .none)
   |_=>0
  |none=>0
 |_=>0
theorem mG{h:Heap}{p:Int×Bool}{v:Value}(r:iq h p v):Jz h v=kC p:=by
 obtain⟨a,t,rfl,o,b,_,n,hd⟩:=r;unfold Jz;simp only[b,hd];rfl
theorem lt_bool{prog:Zv}{w:World}{A:Around}{E:Zb}{s:Shared}{a b:Bool}{Q:Zb}(h:Q (.bool (decide (DD.b2i a<DD.b2i b))) s):wpAny 'd' A (compareOp .Lt (.bool a) (.bool b)) Q E s:=
 compareOp_gives (op:=.Lt) (T:="bool") rfl rfl F.slot_bool_lt F.entry_int_lt (F.args_int_lt_2 _ _) (DD.Er a b) (λx=>nomatch x) h
theorem yv(b:Bool):0<=DD.b2i b/\DD.b2i b<2:=by cases b<;>decide
theorem G3{p q:Int×Bool}{x y:Value}{Q:Bool->Shared->Prop}(hp:iq s.heap p x)(hq:iq s.heap q y)(k:Q (decide (kC p<kC q)) s):wpAny 'd' A (keyLt' (tuples' true) x y) Q E s:=by
 obtain⟨a,t,rfl,o,g,_,n,hd⟩:=hp;obtain⟨b,t',rfl,o',j,_,n',l⟩:=hq;obtain⟨p1,p2⟩:=p;obtain⟨f,c⟩:=q;have m:=yv p2;have r:=yv c;unfold kC at *;dsimp only at *;refine PySem.W.kat_lt g hd j l (PySem.W.kat_cons (wpAny_eqBool_int ?_));by_cases e:p1=f
 ·subst e
  rw[XG];refine PySem.W.kat_yes (PySem.W.kat_cons (SeqAt.EqAt.bool_bool p2 c _ _ _ _ ?_));by_cases e2:p2=c
  ·subst e2
   rw[XG];refine PySem.W.kat_yes (PySem.W.kat_nil ?_);rw[show decide (p1*2+DD.b2i p2<p1*2+DD.b2i p2)=false by simp] at k;exact k
  ·rw[show(p2==c)=false by simpa using e2]
   refine PySem.W.kat_no (PySem.W.kat_one _ _ (lt_bool (show Q (decide (DD.b2i p2<DD.b2i c)) s from ?_)));rw[show decide (p1*2+DD.b2i p2<p1*2+DD.b2i c)=decide (DD.b2i p2<DD.b2i c) by rw[decide_eq_decide];omega] at k;exact k
 ·rw[show(p1==f)=false by simpa using e]
  refine PySem.W.kat_no ?_;show wpAny _ _ (oneLt' true _ _) _ _ _;refine oneLt_int ?_;rw[show decide (p1*2+DD.b2i p2<f*2+DD.b2i c)=decide (p1<f) by rw[decide_eq_decide];omega] at k;exact k
theorem ua{h:Heap}:∀{ps:List (Int×Bool)}{vs:Zd},Paired (iq h) ps vs->∃fs,PySem.W.KatTups h vs fs/\fs.length=vs.length/\∀v∈fs,∃i t,v=Value.int i t
 |_,_,.nil=>⟨[],.nil,rfl,λ_ z=>nomatch z⟩
 |_,_,.cons r t=>by
  obtain⟨fs,h1,b,c⟩:=ua t;obtain⟨a,t,rfl,o,f,hc,n,hd⟩:=r;refine⟨_::fs,PySem.W.KatTups.cons f hc hd rfl h1,by simp[b],λv hv=>?_⟩;rcases YB.mp hv with rfl | hv
  ·exact⟨_,_,rfl⟩
  ·exact c v hv
theorem uw{B:Type}{G:B->Value->Prop}{f:B->Int×Bool}{l:List B}{a:Addr}{vs:Zd}{n:Nat}{P:Fin->Shared->Prop}(g:s.heap.get? a=some (seqObj "list" vs.toArray n))(u:∀x v,G x v->iq s.heap (f x) v)(U:∀x v t,G x v->v=.ref t->t≠a)(hl:Paired G l vs)(hz:vs.length<=4000)
  (h:∀(out:Zl) (c:List B),Paired G c out.toList->c.Perm l->c.Pairwise (λx y=>kC (f x)<=kC (f y))->P (.done (.ret .none)) { s with heap:=sortedHeap s.heap a vs out }):wpAny 'd' A (Builtin.«list.sort» ⟨[.ref a],[]⟩) P E s:=by
 have at':∀h',FC a s.heap h'->∀x v,G x v->iq h' (f x) v:=λh' hb x v r=>by
  obtain⟨b,t,rfl,o,V,q⟩:=u x v r;exact⟨b,t,rfl,o,hb b o (U x _ b r rfl) V,q⟩
 have z:∀k∈(pairsOf vs).toList,k.1=k.2/\k.1∈vs:=λk hk=>by
  rw[pairsOf_toList,List.mem_map] at hk;obtain⟨v,hv,rfl⟩:=hk;exact⟨rfl,hv⟩
 refine vY (R:=λk=>Jz s.heap k.1) (kd:=tuples' true) g (λh' hb x y hx hy Q E q=>?_) (λm h' hb Q q=>?_) hz λxs p q=>?_
 ·obtain⟨a1,QO,J⟩:=vZ hl (z x hx).2
  obtain⟨a2,TF,K⟩:=vZ hl (z y hy).2;refine G3 (at' h' hb _ _ J) (at' h' hb _ _ K) ?_;have e1:=mG (u _ _ J);have e2:=mG (u _ _ K);rw[←e1,←e2];exact q
 ·have Y:Paired (iq h') (l.map f) vs:=by
   clear g hz m z h;induction hl with
   |nil=>exact .nil
   |cons r t Z=>exact .cons (at' h' hb _ _ r) Z
  obtain⟨fs,k1,k2,k3⟩:=ua Y;refine PySem.W.kat_kind (T:=.type "int") k1 'a' (λv hv=>?_) 'c' ?_
  ·obtain⟨i,t,rfl⟩:=k3 v hv
   exact .now
  ·exact q
 ·have hp:(xs.map (·.2)).toList.Perm vs:=by
   have:=(Array.perm_iff_toList_perm.mp p).map (·.2)
   rw[pairsOf_toList,ZO] at this;rw[Array.toList_map];refine this.trans (List.Perm.of_eq ?_);exact List.map_id' vs
  obtain⟨c,h1,m⟩:=G0 hp hl;refine h _ c m h1 ?_;rw[List.pairwise_iff_getElem];intro i j hi hj L_;have hsz:c.length=xs.size:=by
   have:=Paired.length m
   simpa using this
  obtain⟨v,hv,rv⟩:=tE m (ZE hi);obtain⟨v',L,ME⟩:=tE m (ZE hj);have O:xs[i]?=some (xs[i]' 'a'):=Array.getElem?_eq_getElem 'a';have S:xs[j]?=some (xs[j]' 'a'):=Array.getElem?_eq_getElem 'a';have m1:=(z _ ((Array.perm_iff_toList_perm.mp p).mem_iff.mp (by simpa using(Array.getElem_mem (xs:=xs) (i:=i) 'a')))).1;have m2:=(z _ ((Array.perm_iff_toList_perm.mp p).mem_iff.mp (by simpa using(Array.getElem_mem (xs:=xs) (i:=j) 'a')))).1;have C:=q i j _ _ (YM _) (Nat.le_of_lt L_) (by rw[←p.size_eq];omega) O S;rw[Array.toList_map,ZH,XD,O] at hv;rw[Array.toList_map,ZH,XD,S] at L;cases hv;cases L;dsimp only at C;rw[m1,m2,mG (u _ _ rv),mG (u _ _ ME)] at C;exact C
end
end TS
namespace DD
open PySem PySem.Spec PyProof.Rows L2
section
variable {prog:Zv}{w:World}{A:Around}{E:Zb}{s:Shared}
theorem zV {c:Type} {G:c->Value->Prop} {f:c->Int × Bool} {l:List c} {vs:Zd} {h':Heap} {tk:Nat} {Q:Zb} (j:∀ x v,G x v->TS.iq h' (f x) v) (hl:Paired G l vs) (hz:vs.length<=4000)
  (h:∀ (out:Zl) (b:List c),Paired G b out.toList->b.Perm l->b.Pairwise (λx y=>TS.kC (f x)<=TS.kC (f y))->Q (.ref h'.objs.size) { s with heap:=sortedHeap (h'.push (seqObj "list" vs.toArray 0)) h'.objs.size vs out,toks:=tk }) :
  wpAny 'd' A.in1 (do
   let l ← newList vs
   let _ ← holding [l] (call (.builtin "list.sort") [l] [])
   ret l) (λfin n=>∃ v,fin = Fin.done (.ret v)/\Q v n) E { s with heap:=h',toks:=tk }:=by
 refine Yb (wpAny_newList ?_)
 have m:(h'.push (seqObj "list" vs.toArray 0)).get? h'.objs.size = some (seqObj "list" vs.toArray 0):=Yg _ rfl
 show wpAny _ _ _ _ _ { s with heap:=h'.push (seqObj "list" vs.toArray 0),toks:=tk }
 refine Yb (Yj (wpAny_call_entry slot_list_sort ⟨_,m,rfl⟩ entry_list_sort (TS.uw (G:=G) (f:=f) m (λx v r=>?_) (λx v t r e=>?_) hl hz λout b p u z=>⟨_,rfl,?_⟩) (args_list_sort _)))
 ·obtain ⟨a,t,rfl,o,g,q⟩:=j x v r
  exact ⟨a,t,rfl,o,Yd _ g,q⟩
 ·obtain ⟨a,t',rfl,o,g,q⟩:=j x v r
  cases e
  exact ZV (Ye g)
 ·exact Yc ⟨_,rfl,h out b p u z⟩
end
section
variable {prog:Zv}{w:World}{A:Around}{E:Zb}{s:Shared}{d:Addr}{es:Array DictEntry}{ep:Nat}
theorem wc{Q:List Value->Shared->Prop}(f:A.handled=none)(hd:(d==sysModules)=false)(x:bZ s.heap d es ep)(hl:es.size<=sizeLine)
  (g:∀h' tk f_,(∀b o,s.heap.get? b=some o->h'.get? b=some o)->s.heap.objs.size<h'.objs.size->ItemsOf (λi v=>∃e,es[i]?=some e/\v=e.key) f_ es.size->Q f_.toList { s with heap:=h',toks:=tk }):wpAny 'd' A (collect (.ref d)) Q E s:=by
 have go:∀R:Result->Shared->Prop,(∀h' tk f_ c',(∀b o,s.heap.get? b=some o->h'.get? b=some o)->h'.get? s.heap.objs.size=some { cls:=.type "list",dict:=none,data:=.seq f_ c',slots:=#[] }->ItemsOf (λi v=>∃e,es[i]?=some e/\v=e.key) f_ es.size ->
   R (.ok (.ret (.ref s.heap.objs.size))) { s with heap:=h',toks:=tk })->codeAny 'd' A (.builtin "list.__iadd__" ⟨[.ref s.heap.objs.size,.ref d],[]⟩) R { s with heap:=s.heap.push (seqObj "list" #[] 0) }:=by
  intro R j;refine codeAny_builtin entry_list_iadd' ?_;show wpAny _ _ (Builtin.List.listExtendWith (.ref s.heap.objs.size) (.ref d) (.ref s.heap.objs.size)) _ _ { s with heap:=s.heap.push (seqObj "list" #[] 0) };rw[Around.under_plainId (id:="list.__iadd__") (by rfl')];have ne:s.heap.objs.size≠d:=Nat.ne_of_gt x.lt;refine PySem.W.kdl_extend (A:=A) (R:=R) (s:={ s with heap:=s.heap.push (seqObj "list" #[] 0) }) (v9 hd) f (x.at' λo e=>Yd _ e) s.heap.objs.size ne ne _ 0 (Yg _ rfl) ?_ hl;intro h' tk f_ c' hk a c;exact j h' tk f_ c' (λb o e=>hk b o (ZV (Ye e)) (Yd _ e)) a c
 unfold collect;refine Yb (wpAny_runValue (codeAny_builtin entry_proto_collect' ?_));show wpAny _ _ (do again (.builtin "list.__iadd__" ⟨[←newList [],.ref d],[]⟩)) _ _ s;refine Yb (wpAny_newList (Yc ⟨Code.quiet_builtin _ (by rfl'),go _ λh' tk f_ c' hk a c=>?_⟩));refine Yb (wpAny_load a ?_);exact Yc (g h' tk f_ hk (Ye a) c)
end
def jM:aK:=λds M Q=>match ds with
 |[.ref a]=>match M a with
  |some (.dic [])=>∀p,M p=none->Q (.ref p) (ab M p (.lst []))
  |some (.prs ks)=>ks.length<=4000/\∀(p:Addr) (b:List (Int×Bool)),M p=none->b.Perm ks->b.Pairwise (λx y=>TS.kC x<=TS.kC y)->Q (.ref p) (ab M p (.lst (b.map pD)))
  |_=>False
 |_=>False
section
variable {X:Cx}{H:Hp}{pins:Zc}{σ:L2.St}{s:Shared}
theorem wd(I:ad X pins σ H s):∀{ks:List (Int×Bool)}{xs:List (List Int×Addr×Value)}{us:Zd},Paired (jv X.K H) ks xs->us=xs.map (λx=>Value.ref x.2.1) ->
  Paired (λ(k:(Int×Bool)×Addr) (v:Value)=>v=.ref k.2/\bn X.K H k.2 [.int k.1.1,.bl k.1.2]/\TS.iq s.heap k.1 v) (ks.zip (xs.map (·.2.1))) us
 |_,_,_,.nil,e=>by subst e;exact .nil
 |_,_,_,.cons (b:=x) q t,e=>by
  subst e;refine .cons ⟨rfl,q.2.1,?_⟩ (wd I t rfl);obtain⟨ys,h1,a,_⟩:=I.tuple q.2.1;obtain⟨j,l,rfl,c,f⟩:=h1.two;obtain⟨g,rfl⟩:=c;cases f;exact⟨_,g,rfl,a⟩
theorem zW(hc:X.calm=true):fI X (.builtin "sorted") jM:=by
 intro ds vs H M Q r j h;unfold jM at h;split at h
 ·rename_i a
  split at h
  ·rename_i e1
   refine BY hc [.ref a] vs H M Q r j ?_;show(match cx (M a) with
    |some xs=>bq (ip xs) λns=>pk ns M Q
    |none=>bq (nX (M a)) λS=>bq (intKeys S) λns=>pk ns M Q)
   rw[e1];refine(⟨YM _,λp ms hp hm _=>?_⟩:pk [] M Q);rw[List.Perm.eq_nil hm];exact h p hp
  ·rename_i ks e1
   obtain⟨v,rfl,T⟩:=dJ r;cases RV.ref_.1 T;obtain⟨xs,U,L,nd,hz,hd⟩:=j _ _ e1;obtain⟨W,q⟩:=h;intro pins s ρ ws I Y;obtain⟨u,rfl,Z⟩:=vals1 Y;cases Z;obtain⟨es,ep,ra,O⟩:=wa I U;have hsz:es.size=xs.length:=by rw[←YE,O,ZG]
   have hl:=iD L;refine Calls.call_function_entry kind_sorted plain_sorted entry_sorted (args_sorted1 _) ?_;unfold Builtin.«sorted»;refine Yb (m:=checkCount "sorted" 1 1 _) (Yc ?_);refine Yb (wc (A:=X.A.in1) (I.ok.hd hc) hd ra 'a' λh' tk f_ P L8 z=>?_);obtain⟨hs,z⟩:=z;have hu:f_.toList=xs.map (λx=>Value.ref x.2.1):=by
    refine ZJ λi=>?_
    cases e2:f_.toList[i]? with
    |none=>
     rw[List.getElem?_eq_none_iff,YE] at e2;rw[ZK];rw[ZG];omega
    |some v=>
     obtain⟨en,e3,e4⟩:=z i v (by rw[←XD];exact e2);rw[←XD,O,ZH] at e3;rw[ZH];cases e5:xs[i]? with
     |none=>rw[e5] at e3;cases e3
     |some x=>rw[e5] at e3;cases e3;rw[e4];rfl
   have R:=wd I L hu;refine zV (s:=s) (A:=X.A) (f:=(·.1)) (tk:=tk) (h':=h') (G:=λ(k:(Int×Bool)×Addr) (v:Value)=>v=.ref k.2/\bn X.K H k.2 [.int k.1.1,.bl k.1.2]/\TS.iq s.heap k.1 v) (λx v r=>?_) R (by rw[YE,hs];omega) λout c l y B=>?_
   ·obtain⟨_,_,b,t,rfl,o,g,q⟩:=r
    exact⟨b,t,rfl,o,P _ _ g,q⟩
   ·generalize Qm:f_.toList=c_ at *
    obtain⟨e,g⟩:=sortedHeap_at (h:=h'.push (seqObj "list" c_.toArray 0)) (a:=h'.objs.size) (vs:=c_) (n:=0) (out:=out) (Yg _ rfl);have k:∀b o,s.heap.get? b=some o->(sortedHeap (h'.push (seqObj "list" c_.toArray 0)) h'.objs.size c_ out).get? b=some o:=λb o e=>by
     have h1:=P b o e;have hb:b<h'.objs.size:=Ye h1;rw[sortedHeap_old (ZV hb) (by rw[Heap.size_push];exact XJ hb)];exact Yd _ h1
    have hf:H h'.objs.size=none:=I.hok.fresh 'a';have kk:=Kp.new (o:=.lst (c.map λx=>V.ref x.2)) hf;have C:c.length=c_.length:=by rw[y.length_eq];exact Paired.length R
    have hv:ak (c.map λx=>V.ref x.2) out.toList:=by
     clear g y B C kk;generalize out.toList=o' at l;induction l with
     |nil=>exact .nil
     |cons r t J=>exact .cons r.1 J
    have hr:ag X.K H ((c.map (·.1)).map pD) (c.map λx=>V.ref x.2):=by
     clear g y B C kk hv;generalize out.toList=o' at l;induction l with
     |nil=>exact .nil
     |@cons x _ _ _ r t J=>exact .cons (RV.tup_.2 ⟨x.2,_,rfl,r.2.1,.cons (RV.int_.2 rfl) (.cons (RV.bl_.2 rfl) .nil)⟩) J
    have P6:c_.length=xs.length:=by rw[hu,ZG]
    refine⟨.ref h'.objs.size,_,I.laid (t':=tk) k 'a' (show a9 X.prog X.w _ _ h'.objs.size (.lst (c.map λx=>V.ref x.2)) from⟨by rw[ZG,C];omega,out.toList,e,hv,by simpa [seqObj] using g⟩),rfl,kk,.ref _,_,RV.ref_.2 rfl,j.new (m:=.lst ((c.map (·.1)).map pD)) hf ⟨_,aB,ag.mono kk _ hr⟩,q _ _ (j.fresh hf) ?_ ?_⟩
    ·have:=y.map (·.1)
     rwa [yu (by rw[ZG];exact hl)] at this
    ·rw[List.pairwise_map]
     exact B
  ·exact Yh h
 ·exact Yh h
end
section
variable {X:Cx}{H:Hp}{pos:Pos}{e:Expr}{es:Zg}
inductive Bk where
 |list | sortedB | listP
 deriving DecidableEq
def ub:Bk->aK
 |.list=>lN
 |.sortedB=>jM
 |.listP=>n9
def rY:Bk->Str
 |.list=>"list"
 |.sortedB=>"sorted"
 |.listP=>"list"
theorem JA(b:Bk)(hc:X.calm=true){t:WA}{p:Pos}(hg:Gl X (rY b))(hm:X.mg (rY b)=none)(hs:av e=true)(a:es.all av=true)(ha:fZ X (e::es) t):aP X (.Call (.Name (rY b) p) (e::es) [] pos) (ik (ub b) t):=by
 cases b with
 |sortedB=>exact iH (zW hc) hg hm (by rfl') 'c' 'c' hs a ha
 |listP=>exact mx (Ep hc) hg hm (by rfl') 'c' 'c' hs a ha
 |list=>exact mx (vX hc) hg hm (by rfl') 'c' 'c' hs a ha
end
end DD
namespace DD
open PySem PySem.Spec PyProof.Rows L2
set_option genInjectivity false
set_option genSizeOf false
set_option genCtorIdx false
mutual
inductive E where
 |var (i:Nat) | int (i:Int) | str (x:Str) | bl (b:Bool) | glob (j:Nat) | ty (T:String)
 |bin (o:Operator) (a b:E) | cmp (o:CmpOp) (a b:E)
 |and (a b:E) | or (a b:E) | not (a:E) | ite (c:T) (a b:E)
 |fn (j:Nat) (es:Es) | bi (b:Bi) (es:Es) | mt (m:Mt) (o:E) (es:Es) | mt0 (m:Mt) (o:E)
 |ix (a b:E) | sl (a:E) (lo hi:Eo) | lst (es:Es) | tup (es:Es) | comp (n:Nat) (e:E) (t:eB) (i:I) (c:To)
 |dnew | fld (o:E) (f:Str) | mu (m:Str) (o:E) (es:Es) | mu0 (m:Str) (o:E) | lenSet (a:E) | lrg (es:Es) | inv (a:E) | bk (b:Bk) (es:Es)
inductive Ps where
 |nil | cons (k v:E) (r:Ps)
inductive Es where
 |nil | cons (e:E) (es:Es)
inductive Eo where
 |no | yes (e:E)
inductive To where
 |no | yes (t:T)
inductive T where
 |val (e:E) | cmp (o:CmpOp) (a b:E) | and (t u:T) | or (t u:T) | not (t:T)
inductive I where
 |seq (e:E) | rg1 (es:Es) | enum (es:Es) | zip (es:Es)
end
mutual
inductive S where
 |set (i:Nat) (e:E) | setC (i n:Nat) (e:E) (t:eB) (it:I) (c:To) | expr (e:E) | ret (e:E)
 |ite (t:T) (a b:Ss) | for (g:eB) (it:I) (b:Ss) | pass | never
 |putIx (o i e:E) | putP (o i e:E) | setF (o:E) (f:Str) (e:E) | while (t:T) (b:Ss)
inductive Ss where
 |nil | cons (s:S) (r:Ss)
end
set_option genInjectivity true
set_option genSizeOf true
set_option genCtorIdx true
structure Cn where
 F:List aK
 G:List D
 O:pT
 T:pU
 I:LM:=λ_ _=>none
def rZ(c:WT)(g:WS):WS:=λE σ M=>∃W:Nat->DS->MH->Prop,(∃m,W m σ M)/\∀m σ M,W m σ M ->
 c σ M λb M1=>fB b (∃N:DS->MH->Prop,(∀a M',N a M'->∃f,f<m/\W f a M')/\g { E with nx:=N,ct:=N,bk:=E.nx } σ M1) (E.nx σ M1)
section
variable (c:Cn)
mutual
noncomputable def wE:E->WE
 |.var i=>λσ M Q=>ve σ i λd=>Q d M
 |.int i=>λ_ M Q=>Q (.int i) M
 |.str i=>λ_ M Q=>Q (.str i) M
 |.bl i=>λ_ M Q=>Q (.bl i) M
 |.glob j=>λ_ M Q=>Q (c.G.getD j .non) M
 |.ty n=>λ_ M Q=>Q (.ty n) M
 |.bin o a b=>rc (DB o) (wE a) (wE b)
 |.cmp o a b=>rc (zt o) (wE a) (wE b)
 |.and a b=>y8 (wE a) (wE b)
 |.or a b=>De (wE a) (wE b)
 |.not a=>y9 (wE a)
 |.ite t a b=>IC (wT t) (wE a) (wE b)
 |.fn j es=>ik (c.F.getD j λ_ _ _=>False) (wEs es)
 |.bi b es=>ik (Jg b) (wEs es)
 |.lenSet a=>tx (wE a)
 |.bk b es=>ik (ub b) (wEs es)
 |.lrg es=>zM (wEs es)
 |.mt m o es=>vD (vG m) (Bs m) (wE o) (wEs es)
 |.mt0 m o=>vD (vG m) (Bs m) (wE o) nR
 |.ix a b=>rc Fn (wE a) (wE b)
 |.sl a lo hi=>Jb (wE a) (wEo lo) (wEo hi)
 |.lst es=>Dj (wEs es)
 |.tup es=>Di (wEs es)
 |.comp n e t i d=>zn n (wI i) t (kE d) (wE e)
 |.inv a=>zA (wE a)
 |.dnew=>λ_ M Q=>∀p,M p=none->Q (.ref p) (ab M p (.dic []))
 |.fld o f=>DV c.O f (wE o)
 |.mu m o es=>rK c.T m (wE o) (wEs es)
 |.mu0 m o=>rK c.T m (wE o) nR
noncomputable def wP:Ps->List (WE×WE)
 |.nil=>[]
 |.cons k v r=>(wE k,wE v)::wP r
noncomputable def wEs:Es->WA
 |.nil=>nR
 |.cons e es=>zc (wE e) (wEs es)
noncomputable def wEo:Eo->WO
 |.no=>λ_ M Q=>Q none M
 |.yes e=>λσ M Q=>wE e σ M λx M1=>intD x λi=>Q (some i) M1
noncomputable def kE:To->WT
 |.no=>λ_ M Q=>Q true M
 |.yes t=>wT t
noncomputable def wT:T->WT
 |.val e=>Dg (wE e)
 |.cmp o a b=>y7 (rc (zt o) (wE a) (wE b))
 |.and t u=>Db (wT t) (wT u)
 |.or t u=>IA (wT t) (wT u)
 |.not t=>Dc (wT t)
noncomputable def wI:I->WI
 |.seq e=>zi (wE e)
 |.rg1 es=>zj (wEs es)
 |.enum es=>zG (wEs es)
 |.zip es=>D9 (wEs es)
end
mutual
noncomputable def wS:S->WS
 |.set i e=>Dt i (wE c e)
 |.setC i n e t it d=>zp i n (wI c it) t (kE c d) (wE c e)
 |.expr e=>zf (wE c e)
 |.ret e=>Dq (wE c e)
 |.ite t a b=>Du (wT c t) (wSs a) (wSs b)
 |.for g it b=>Dw (wI c it) g (wSs b)
 |.pass=>rn
 |.never=>λ_ _ _=>False
 |.putIx o i e=>vH (wE c e) (wE c o) (wE c i)
 |.putP o i e=>zT (wE c e) (wE c o) (wE c i)
 |.setF o f e=>zC c.O f (wE c o) (wE c e)
 |.while t b=>rZ (wT c t) (wSs b)
noncomputable def wSs:Ss->WS
 |.nil=>rn
 |.cons s r=>Do (wS s) (wSs r)
end
end
structure cP where
 N:List Str
 sc:Scope
 all:Bool
 glob:List Str
 blt:List Str
 fns:List Str
def zX:Option NameKind->Bool
 |some .local=>true
 |some .cell=>true
 |some .free=>true
 |_=>false
def zY:Option NameKind->Bool
 |some .local=>true
 |some .cell=>true
 |_=>false
def B8(Γ:cP)(i:Nat)(x:Str):Bool:=decide (Γ.N[i]?=some x)&&zX (Γ.sc.names.lookup x) && !(x==("__debug__" : Str)) && !(x==("__classdict__" : Str))
def oa(Γ:cP)(i:Nat)(x:Str):Bool:=decide (Γ.N[i]?=some x)&&zY (Γ.sc.names.lookup x)&&(Γ.all||decide (Γ.sc.names.lookup x=some .local))
def cR(Γ:cP)(x:Str):Bool:=decide (Γ.sc.names.lookup x=some .globalImplicit) && !(x==("__debug__" : Str))
def sd:List String:=["bool","int","str","tuple","list","dict"]
def ownOf(sc:Scope):List Str:=sc.names.filterMap λp=>if p.2=.local/\p.1≠(".0" : Str) then some p.1 else none
def tF(Γ:cP)(sc:Scope):List Str:=Γ.N.map λy=>if sc.names.lookup y=some .local then "" else y
def lO(Γ:cP)(sc:Scope):Bool:=decide (sc.kind=.function)&&sc.names.all (λy=>decide (y.2≠.cell))&&sc.names.all (λy=>decide (y.2=.local->sc.names.lookup y.1=some .local)) &&
 sc.names.all (λy=>decide (y.2=.free->(Γ.sc.names.lookup y.1=some .cell\/Γ.sc.names.lookup y.1=some .free)))&&((tF Γ sc).zip Γ.N).all (λp=>decide ((sc.names.lookup p.1=some .free->p.1=p.2)/\sc.names.lookup p.1≠some .local))&&decide ((tF Γ sc++ownOf sc).Nodup)
def Et(sc MJ:Scope):Scope:={ sc with names:=sc.names.map λ(p:Str×NameKind)=>if(p.2==NameKind.free&&MJ.kind==.function&&MJ.names.lookup p.1==some .cell)=true then(p.1,NameKind.cell) else(p.1,p.2) }
def inComp(Γ:cP)(sc:Scope):cP:={ Γ with N:=tF Γ sc++ownOf sc,sc:=Et sc Γ.sc,all:=false }
def se(Γ:cP):List Nat->List Expr->Bool
 |[],[]=>true
 |i::is,.Name x _::es=>oa Γ i x&&se Γ is es
 |_,_=>false
def sf(Γ:cP):eB->Expr->Bool
 |.nm i,.Name x _=>oa Γ i x
 |.tp is,.Tuple es _ _=>se Γ is es
 |_,_=>false
def B9:Expr->Bool
 |.UnaryOp .Not _ _=>false
 |.BoolOp _ _ _=>false
 |.IfExp _ _ _ _=>false
 |.Compare _ _ _ _=>false
 |_=>true
def je:Expr->Option (Str×List Expr×List Keyword)
 |.Call f es ks _=>match f with
  |.Name x _=>some (x,es,ks)
  |_=>none
 |_=>none
def sg(e:Expr):Option (Str×Str×List Expr):=match je e with
 |some (x,[c],[])=>match je c with
  |some (y,es,[])=>some (x,y,es)
  |_=>none
 |_=>none
def isTup:Expr->Bool
 |.Tuple _ _ _=>true
 |_=>false
theorem KG{b:Type}{a:b}{P:Prop}(h:none=some a):P:=by cases h
theorem ff{P:Prop}(h:false=true):P:=by cases h
theorem dO{e:Expr}{x:Str}{es:Zg}{ks:List Keyword}(h:je e=some (x,es,ks)):∃p q,e=.Call (.Name x p) es ks q:=by
 cases e with
 |Call f es ks q=>
  cases f with
  |Name x p=>cases h;exact⟨p,q,rfl⟩
  |_=>exact KG h
 |_=>exact KG h
theorem og{e:Expr}{x y:Str}{es:Zg}(h:sg e=some (x,y,es)):∃p q a b,e=.Call (.Name x p) [.Call (.Name y a) es [] b] [] q:=by
 unfold sg at h;split at h
 ·rename_i h1
  split at h
  ·rename_i c
   cases h;obtain⟨p,q,rfl⟩:=dO h1;obtain⟨a,b,rfl⟩:=dO c;exact⟨p,q,a,b,rfl⟩
  ·cases h
 ·cases h
theorem we{e:Expr}(h:isTup e=true):∃es k p,e=.Tuple es k p:=by
 cases e with
 |Tuple es k p=>exact⟨es,k,p,rfl⟩
 |_=>exact ff h
mutual
noncomputable def aC:cP->E->Expr->Bool
 |Γ,.var i,e=>match e with
  |.Name x _=>B8 Γ i x
  |_=>false
 |_,.int i,e=>match e with
  |.Constant (.int j) _ _=>decide (i=j)
  |_=>false
 |_,.str i,e=>match e with
  |.Constant (.str j) _ _=>decide (i=j)
  |_=>false
 |_,.bl i,e=>match e with
  |.Constant (.bool j) _ _=>decide (i=j)
  |_=>false
 |Γ,.glob j,e=>match e with
  |.Name x _=>cR Γ x&&decide (Γ.glob[j]?=some x)
  |_=>false
 |Γ,.ty n,e=>match e with
  |.Name x _=>cR Γ x&&Γ.blt.contains x&&decide (x=Str.ofString n)&&sd.contains n
  |_=>false
 |Γ,.bin o a b,e=>match e with
  |.BinOp l op r _=>decide (o=op)&&aC Γ a l&&aC Γ b r
  |_=>false
 |Γ,.cmp o a b,e=>match e with
  |.Compare l [op] [r] _=>decide (o=op)&&aC Γ a l&&aC Γ b r && !(behindInMarks op r)
  |_=>false
 |Γ,.and a b,e=>match e with
  |.BoolOp .And [l,r] _=>aC Γ a l&&aC Γ b r
  |.BoolOp .And (l::r::q::rest) pos=>aC Γ a l&&aC Γ b (.BoolOp .And (r::q::rest) pos)
  |_=>false
 |Γ,.or a b,e=>match e with
  |.BoolOp .Or [l,r] _=>aC Γ a l&&aC Γ b r
  |.BoolOp .Or (l::r::q::rest) pos=>aC Γ a l&&aC Γ b (.BoolOp .Or (r::q::rest) pos)
  |_=>false
 |Γ,.not a,e=>match e with
  |.UnaryOp .Not l _=>aC Γ a l
  |_=>false
 |Γ,.ite c a b,e=>match e with
  |.IfExp t l r _=>de Γ c t&&aC Γ a l&&aC Γ b r
  |_=>false
 |Γ,.fn j es,e=>match je e with
  |some (x,a::as,[])=>cR Γ x&&decide (Γ.fns[j]?=some x)&&av a&&as.all av&&cT Γ es (a::as)
  |_=>false
 |Γ,.bi b es,e=>match je e with
  |some (x,a::as,[])=>cR Γ x&&Γ.blt.contains x&&decide (x=rG b)&&av a&&as.all av&&cT Γ es (a::as)
  |_=>false
 |Γ,.bk b es,e=>match je e with
  |some (x,a::as,[])=>cR Γ x&&Γ.blt.contains x&&decide (x=rY b)&&av a&&as.all av&&cT Γ es (a::as)
  |_=>false
 |Γ,.lenSet a,e=>match sg e with
  |some (x,y,[l])=>cR Γ x&&Γ.blt.contains x&&decide (x=("len" : Str))&&cR Γ y&&Γ.blt.contains y&&decide (y=("set" : Str))&&av l&&aC Γ a l
  |_=>false
 |Γ,.lrg es,e=>match sg e with
  |some (x,y,[l])=>cR Γ x&&Γ.blt.contains x&&decide (x=("list" : Str))&&cR Γ y&&Γ.blt.contains y&&decide (y=("range" : Str))&&av l&&cT Γ es [l]
  |some (x,y,[l,r])=>cR Γ x&&Γ.blt.contains x&&decide (x=("list" : Str))&&cR Γ y&&Γ.blt.contains y&&decide (y=("range" : Str))&&av l&&av r&&cT Γ es [l,r]
  |_=>false
 |Γ,.mt m o es,e=>match e with
  |.Call (.Attribute l x o_) (a::as) [] pos=>decide (x=rJ m)&&aC Γ o l&&bW l&&av a&&as.all av&&decide (as.length<20)&&(o_.endLine==pos.line)&&cT Γ es (a::as)
  |_=>false
 |Γ,.mt0 m o,e=>match e with
  |.Call (.Attribute l x o_) [] [] pos=>decide (x=rJ m)&&aC Γ o l&&bW l&&(o_.endLine==pos.line)
  |_=>false
 |Γ,.ix a b,e=>match e with
  |.Subscript l r _=>aC Γ a l&&aC Γ b r&&fP r
  |_=>false
 |Γ,.sl a lo hi,e=>match e with
  |.Subscript l (.Slice x y none _) _=>aC Γ a l&&si Γ lo x&&si Γ hi y
  |_=>false
 |Γ,.lst es,e=>match e with
  |.List as _=>cT Γ es as&&decide (as.length<=1000)
  |_=>false
 |Γ,.tup es,e=>match e with
  |.Tuple as _ _=>cT Γ es as&&decide (as.length<=1000)
  |_=>false
 |Γ,.comp n e t i c,ex=>match ex with
  |.ListComp F' [⟨tg,it,ifs,ia⟩] sc _=>lO Γ sc&&decide (n=(ownOf sc).length)&&decide (ia=0)&&oh Γ i tg it&&jH it&&sf (inComp Γ sc) t tg&&sj (inComp Γ sc) c ifs&&aC (inComp Γ sc) e F'
  |_=>false
 |Γ,.inv a,e=>match e with
  |.UnaryOp .Invert l _=>aC Γ a l
  |_=>false
 |_,.dnew,e=>match e with
  |.Dict [] [] _=>true
  |_=>false
 |Γ,.fld o f,e=>match e with
  |.Attribute l x _=>aC Γ o l&&decide (x=f)&&bW l
  |_=>false
 |Γ,.mu m o es,e=>match e with
  |.Call (.Attribute l x o_) (a::as) [] pos=>decide (x=m)&&aC Γ o l&&bW l&&av a&&as.all av&&decide (as.length<19)&&(o_.endLine==pos.line)&&cT Γ es (a::as)
  |_=>false
 |Γ,.mu0 m o,e=>match e with
  |.Call (.Attribute l x o_) [] [] pos=>decide (x=m)&&aC Γ o l&&bW l&&(o_.endLine==pos.line)
  |_=>false
noncomputable def zZ:cP->Ps->List (Option Expr)->List Expr->Bool
 |_,.nil,ks,vs=>match ks,vs with
  |[],[]=>true
  |_,_=>false
 |Γ,.cons k v r,ks,vs=>match ks,vs with
  |some x::ks,y::vs=>aC Γ k x&&aC Γ v y&&zZ Γ r ks vs
  |_,_=>false
noncomputable def cT:cP->Es->List Expr->Bool
 |_,.nil,as=>match as with
  |[]=>true
  |_=>false
 |Γ,.cons e es,as=>match as with
  |a::as=>aC Γ e a&&av a&&cT Γ es as
  |_=>false
noncomputable def si:cP->Eo->Option Expr->Bool
 |_,.no,a=>match a with
  |none=>true
  |_=>false
 |Γ,.yes e,a=>match a with
  |some a=>aC Γ e a
  |_=>false
noncomputable def sj:cP->To->List Expr->Bool
 |_,.no,as=>match as with
  |[]=>true
  |_=>false
 |Γ,.yes t,as=>match as with
  |[a]=>de Γ t a
  |_=>false
noncomputable def de:cP->T->Expr->Bool
 |Γ,.val e,ex=>aC Γ e ex&&B9 ex
 |Γ,.cmp o a b,e=>match e with
  |.Compare l [op] [r] _=>decide (o=op)&&aC Γ a l&&aC Γ b r && !(behindInMarks op r)
  |_=>false
 |Γ,.and a b,e=>match e with
  |.BoolOp .And [l,r] _=>de Γ a l&&de Γ b r
  |.BoolOp .And (l::r::q::rest) pos=>de Γ a l&&de Γ b (.BoolOp .And (r::q::rest) pos)
  |_=>false
 |Γ,.or a b,e=>match e with
  |.BoolOp .Or [l,r] _=>de Γ a l&&de Γ b r
  |.BoolOp .Or (l::r::q::rest) pos=>de Γ a l&&de Γ b (.BoolOp .Or (r::q::rest) pos)
  |_=>false
 |Γ,.not a,e=>match e with
  |.UnaryOp .Not l _=>de Γ a l
  |_=>false
noncomputable def oh:cP->I->Expr->Expr->Bool
 |Γ,.seq e,_,ex=>aC Γ e ex
 |Γ,.enum es,tg,e=>match isTup tg,je e with
  |true,some (x,[a],[])=>cR Γ x&&Γ.blt.contains x&&decide (x=("enumerate" : Str))&&av a&&cT Γ es [a]
  |_,_=>false
 |Γ,.zip es,tg,e=>match isTup tg,je e with
  |true,some (x,[a,b],[])=>cR Γ x&&Γ.blt.contains x&&decide (x=("zip" : Str))&&av a&&av b&&cT Γ es [a,b]
  |_,_=>false
 |Γ,.rg1 es,_,e=>match je e with
  |some (x,[a],[])=>cR Γ x&&Γ.blt.contains x&&decide (x=("range" : Str))&&av a&&cT Γ es [a]
  |_=>false
end
mutual
noncomputable def hJ:cP->S->Stmt->Bool
 |Γ,.set i e,st=>match st with
  |.Assign [.Name x _] v _=>oa Γ i x&&(dX v||decide (Γ.sc.names.lookup x=some .cell))&&aC Γ e v
  |_=>false
 |Γ,.setC i n e t j c,st=>match st with
  |.Assign [.Name y py] (.ListComp F' [⟨tg,it,ifs,ia⟩] sc pos) Nx=>decide (Γ.N[i]?=some y)&&decide (Γ.sc.names.lookup y=some .local)&&(py.line==pos.line) && !(sc.names.any λ(p:Str×NameKind)=>p.1==y&&(p.2==.local || p.2==.cell)) &&
   lO Γ sc&&decide (n=(ownOf sc).length)&&decide (ia=0)&&oh Γ j tg it&&jH it&&sf (inComp Γ sc) t tg&&sj (inComp Γ sc) c ifs&&aC (inComp Γ sc) e F'
  |_=>false
 |Γ,.expr e,st=>match st with
  |.Expr v _=>dX v&&aC Γ e v
  |_=>false
 |Γ,.ret e,st=>match st with
  |.Return (some v) _=>aC Γ e v
  |_=>false
 |Γ,.ite t a b,st=>match st with
  |.If c x y _=>de Γ t c&&cF Γ a x&&cF Γ b y
  |_=>false
 |Γ,.for g j b,st=>match st with
  |.For tg it body [] _=>sf Γ g tg&&oh Γ j tg it&&jH it&&cF Γ b body
  |_=>false
 |_,.pass,st=>match st with
  |.Pass _=>true
  |_=>false
 |_,.never,_=>true
 |Γ,.putIx o i e,st=>match st with
  |.Assign [.Subscript l r _] v _=>aC Γ o l&&aC Γ i r&&aC Γ e v&&dX v&&fP r
  |_=>false
 |Γ,.putP o i e,st=>match st with
  |.Assign [.Subscript l r _] v _=>aC Γ o l&&aC Γ i r&&aC Γ e v&&dX v&&fP r
  |_=>false
 |Γ,.setF o f e,st=>match st with
  |.Assign [.Attribute l x _] v _=>aC Γ o l&&decide (x=f)&&aC Γ e v
  |_=>false
 |Γ,.while t b,st=>match st with
  |.While c body [] _=>de Γ t c&&cF Γ b body
  |_=>false
noncomputable def cF:cP->Ss->List Stmt->Bool
 |_,.nil,l=>match l with
  |[]=>true
  |_=>false
 |Γ,.cons s r,l=>match l with
  |st::MW=>hJ Γ s st&&cF Γ r MW
  |_=>false
end
end DD
namespace DD
open PySem PySem.Spec PyProof.Rows L2
def dy(P:Zv)(w:World)(K:Za)(mg:Ze)(base:Heap)(k:Nat)(x:Str)(sp:aK):Prop:=cf P w K mg base k x sp \/ ∃k',k=k'+1/\KD P w K mg base k' x sp
structure gc (Γ:cP) (c:Cn) (X:Cx):Prop where
 N:X.N=Γ.N
 sc:X.env.scope=Γ.sc
 kind:Γ.sc.kind=.function
 nd:Γ.N.Nodup
 calm:X.calm=true
 fn:Γ.all=true->∀x,X.fn x=true
 own:PassesOwn 'b' X.A X.env X.xe
 glob:∀(j:Nat) x,Γ.glob[j]?=some x->nP X.K X.mg x (c.G.getD j .non)
 blt:∀x,Γ.blt.contains x=true->X.mg x=none
 fns:∀(j:Nat) x,Γ.fns[j]?=some x->∃k,dy X.prog X.w X.K X.mg X.base k x (c.F.getD j λ_ _ _=>False)/\bU k X.A
 flds:∀C f,c.O C f->fW X.K C/\cN X.K C f
 mts:zD X c.T
 isi:∀C d b,c.I C d=some b->Ft X.K C d b
 hu:X.A.units+40<cLine
section
variable {Γ:cP}{X:Cx}{e:Expr}{pos:Pos}{cn:Cn}
theorem JB(sc:Scope)(env:Env):relabel sc env=Et sc env.scope:=rfl
theorem gc.comp{sc:Scope}{C:Addr}{s:Shared}{H:Hp}{ex:Zh}{pn:Zc}(g:gc Γ cn X)(h:lO Γ sc=true):gc (inComp Γ sc) cn (c8 X sc (ownOf sc) (tF Γ sc) C s H ex pn):=by
 unfold lO at h;simp only[YY,XT] at h;obtain⟨⟨⟨⟨⟨h1,b⟩,c⟩,f⟩,j⟩,a⟩:=h;refine⟨rfl,?_,h1,a,g.calm,(λz=>nomatch z),PassesOwn.never,g.glob,g.blt,g.fns,g.flds,g.mts,g.isi,g.hu⟩;show relabel sc X.env=Et sc Γ.sc;rw[JB,g.sc]
theorem gc.cscope{sc:Scope}(g:gc Γ cn X)(h:lO Γ sc=true):fY Γ.sc sc X.N (ownOf sc) (tF Γ sc):=by
 unfold lO at h;simp only[YY,XT] at h;obtain⟨⟨⟨⟨⟨h1,a⟩,b⟩,c⟩,f⟩,j⟩:=h;rw[XN] at a b c f;refine⟨h1,λy hy=>XR (a y hy),λy hy=>XR (b y hy),λy hy=>XR (c y hy),?_,λp hp=>?_⟩
 ·rw[g.N];unfold tF;rw[ZG]
 ·rw[g.N] at hp;exact XR (f p hp)
theorem Eu{sc:Scope}{x:Str}(h:zX (sc.names.lookup x)=true):uU sc x:=by
 unfold zX at h;unfold uU;split at h
 ·exact .inl (by assumption)
 ·exact .inr (.inl (by assumption))
 ·exact .inr (.inr (by assumption))
 ·exact ff h
theorem Ev{sc:Scope}{x:Str}(h:zY (sc.names.lookup x)=true):L2.Loc sc x:=by
 unfold zY at h;unfold L2.Loc;split at h
 ·exact .inl (by assumption)
 ·exact .inr (by assumption)
 ·exact ff h
theorem z0{i:Nat}{x:Str}(g:gc Γ cn X)(h:oa Γ i x=true):X.N.Nodup/\X.N[i]?=some x/\L2.Loc X.env.scope x/\(X.fn x=true\/X.env.scope.names.lookup x=some .local):=by
 unfold oa at h;simp only[YY,Bool.or_eq_true,XT] at h;obtain⟨⟨h1,a⟩,b⟩:=h;rw[g.N,g.sc];exact⟨g.nd,h1,Ev a,b.imp (λz=>g.fn z x) id⟩
theorem gt{x:Str}(g:gc Γ cn X)(h:cR Γ x=true):Gl X x/\(x==("__debug__" : Str))=false:=by
 unfold cR at h;simp only[YY,XT,XW] at h;refine⟨?_,h.2⟩;show X.env.scope.names.lookup x=_;rw[g.sc];exact h.1
theorem FD(g:gc Γ cn X):∀{is:Zj}{es:Zg},se Γ is es=true->xE X es (zg is)/\(assignEach es X.env).length=is.length/\(assignEach es X.env).findIdx? (·.1)=none
 |[],[],_=>⟨FU,rfl,rfl⟩
 |i::is,.Name x p::es,h=>by
  unfold se at h;rw[YY] at h;obtain⟨h1,f,j⟩:=FD g h.2;obtain⟨a,b,c,d⟩:=z0 g h.1;refine⟨CF (xF a b c d) h1 rfl,?_,?_⟩
  ·show(assignEach es X.env).length+1=is.length+1;rw[f]
  ·show List.findIdx? (·.1) ((false,assign (.Name x p) X.env)::assignEach es X.env)=none
   rw[List.findIdx?_cons];simp[j]
 |[],_::_,h=>ff h
 |_::_,[],h=>ff h
 |_::_,.BoolOp .. :: _,h=>ff h
 |_::_,.NamedExpr .. :: _,h=>ff h
 |_::_,.BinOp .. :: _,h=>ff h
 |_::_,.UnaryOp .. :: _,h=>ff h
 |_::_,.Lambda .. :: _,h=>ff h
 |_::_,.IfExp .. :: _,h=>ff h
 |_::_,.Dict .. :: _,h=>ff h
 |_::_,.Set .. :: _,h=>ff h
 |_::_,.ListComp .. :: _,h=>ff h
 |_::_,.SetComp .. :: _,h=>ff h
 |_::_,.DictComp .. :: _,h=>ff h
 |_::_,.GeneratorExp .. :: _,h=>ff h
 |_::_,.Await .. :: _,h=>ff h
 |_::_,.Yield .. :: _,h=>ff h
 |_::_,.YieldFrom .. :: _,h=>ff h
 |_::_,.Compare .. :: _,h=>ff h
 |_::_,.Call .. :: _,h=>ff h
 |_::_,.FormattedValue .. :: _,h=>ff h
 |_::_,.JoinedStr .. :: _,h=>ff h
 |_::_,.Constant .. :: _,h=>ff h
 |_::_,.Attribute .. :: _,h=>ff h
 |_::_,.Subscript .. :: _,h=>ff h
 |_::_,.Starred .. :: _,h=>ff h
 |_::_,.List .. :: _,h=>ff h
 |_::_,.Tuple .. :: _,h=>ff h
 |_::_,.Slice .. :: _,h=>ff h
theorem Ew{t:eB}{tg:Expr}(g:gc Γ cn X)(h:sf Γ t tg=true):PG X tg (xS X.K t):=by
 unfold sf at h;split at h
 ·obtain⟨a,b,c,d⟩:=z0 g h
  exact xF a b c d
 ·obtain⟨h1,f,j⟩:=FD g h
  exact IJ g.calm h1 f j
 ·exact ff h
theorem Ca{env:Env}(h:B9 e=true):∀b,isTrue e env b=(do let v ←b;standAt e.pos;holding [v] (truthy v)):=by
 intro w;cases e with
 |UnaryOp op a p=>cases op<;>first | rfl | exact absurd (show false=true from h) YF
 |BoolOp _ _ _=>exact absurd (show false=true from h) YF
 |IfExp _ _ _ _=>exact absurd (show false=true from h) YF
 |Compare _ _ _ _=>exact absurd (show false=true from h) YF
 |_=>rfl
theorem G4:∀n∈sd,bootBuiltins (Str.ofString n)=some (.type n):=by rfl'
theorem G5:∀n∈sd,Str.ofString n≠("__name__" : Str):=by rfl'
theorem sk{t:WT}(h:jw X e t)(hp:(∃vs p,e=.BoolOp .And vs p) \/ ∃vs p,e=.BoolOp .Or vs p):rf X e t:=by
 rcases hp with⟨vs,p,rfl⟩ | ⟨vs,p,rfl⟩
 ·intro σ M ρ H Q rs b q a pins s I
  exact h σ M ρ H Q rs b q pins s I
 ·intro σ M ρ H Q rs b q a pins s I
  exact h σ M ρ H Q rs b q pins s I
mutual
theorem sE:∀(ir:E){Γ:cP}{cn:Cn}{X:Cx}{e:Expr},gc Γ cn X->aC Γ ir e=true->aP X e (wE cn ir)
 |.var i,Γ,cn,X,e,g,h=>by
  unfold aC at h;split at h
  ·unfold B8 at h
   simp only[YY,XT,XW] at h;rw[wE];exact Gm (by rw[g.N];exact h.1.1.1) (by rw[g.sc];exact Eu h.1.1.2) h.1.2 h.2
  ·exact ff h
 |.int i,Γ,cn,X,e,g,h=>by
  unfold aC at h;split at h
  ·cases XR h;rw[wE];exact Gn
  ·exact ff h
 |.str i,Γ,cn,X,e,g,h=>by
  unfold aC at h;split at h
  ·cases XR h;rw[wE];exact Gp
  ·exact ff h
 |.bl i,Γ,cn,X,e,g,h=>by
  unfold aC at h;split at h
  ·cases XR h;rw[wE];exact Iz
  ·exact ff h
 |.glob j,Γ,cn,X,e,g,h=>by
  unfold aC at h;split at h
  ·rw[YY] at h
   obtain⟨h1,h2⟩:=gt g h.1;rw[wE];exact C9 h1 (g.glob j _ (XR h.2)) h2
  ·exact ff h
 |.ty n,Γ,cn,X,e,g,h=>by
  unfold aC at h;split at h
  ·simp only[YY,XT] at h
   obtain⟨⟨⟨h1,h2⟩,rfl⟩,h4⟩:=h;obtain⟨h5,h6⟩:=gt g h1;have h4:n∈sd:=by simpa using h4
   rw[wE];exact q9 (FP (v:=.ty n) h5 (g.blt _ h2) (G4 n h4) rfl (G5 n h4) h6) λ_=>RV.ty_.2 rfl
  ·exact ff h
 |.bin o a b,Γ,cn,X,e,g,h=>by
  unfold aC at h;split at h
  ·simp only[YY,XT] at h
   obtain⟨⟨rfl,h2⟩,h3⟩:=h;rw[wE];exact Gq (GM o) (sE a g h2) (sE b g h3)
  ·exact ff h
 |.cmp o a b,Γ,cn,X,e,g,h=>by
  unfold aC at h;split at h
  ·simp only[YY,XT,XW] at h
   obtain⟨⟨⟨rfl,h2⟩,h3⟩,h4⟩:=h;rw[wE];exact Gr (ya g.hu o) (sE a g h2) (sE b g h3) h4
  ·exact ff h
 |.and a b,Γ,cn,X,e,g,h=>by
  unfold aC at h;split at h
  ·rw[YY] at h
   rw[wE];exact xP (sE a g h.1) (xO (sE b g h.2))
  ·rw[YY] at h
   rw[wE];exact xP (sE a g h.1) (sE b g h.2)
  ·exact ff h
 |.or a b,Γ,cn,X,e,g,h=>by
  unfold aC at h;split at h
  ·rw[YY] at h
   rw[wE];exact AZ (sE a g h.1) (xO (sE b g h.2))
  ·rw[YY] at h
   rw[wE];exact AZ (sE a g h.1) (sE b g h.2)
  ·exact ff h
 |.not a,Γ,cn,X,e,g,h=>by
  unfold aC at h;split at h
  ·rw[wE];exact Gw (sE a g h)
  ·exact ff h
 |.ite c a b,Γ,cn,X,e,g,h=>by
  unfold aC at h;split at h
  ·simp only[YY] at h
   rw[wE];exact A0 (sT c g h.1.1) (sE a g h.1.2) (sE b g h.2)
  ·exact ff h
 |.fn j es,Γ,cn,X,e,g,h=>by
  unfold aC at h;split at h
  ·rename_i q_
   obtain⟨_,_,rfl⟩:=dO q_;simp only[YY,XT] at h;obtain⟨⟨⟨⟨h1,h2⟩,h3⟩,h4⟩,h5⟩:=h;obtain⟨h6,h7⟩:=gt g h1;obtain⟨k,Fj,hr⟩:=g.fns j _ h2;rw[wE];rcases Fj with Fj | ⟨k',rfl,Fj⟩
   ·exact GC Fj hr h6 h7 h3 h4 (kF es g h5)
   ·exact DX Fj hr h6 h7 h3 h4 (kF es g h5)
  ·exact ff h
 |.bi b es,Γ,cn,X,e,g,h=>by
  unfold aC at h;split at h
  ·rename_i q_
   obtain⟨_,_,rfl⟩:=dO q_;simp only[YY,XT] at h;obtain⟨⟨⟨⟨⟨h1,h2⟩,rfl⟩,h3⟩,h4⟩,h5⟩:=h;obtain⟨h6,h7⟩:=gt g h1;rw[wE];exact Jh b g.calm h6 (g.blt _ h2) h3 h4 (kF es g h5)
  ·exact ff h
 |.bk b es,Γ,cn,X,e,g,h=>by
  unfold aC at h;split at h
  ·rename_i q_
   obtain⟨_,_,rfl⟩:=dO q_;simp only[YY,XT] at h;obtain⟨⟨⟨⟨⟨h1,h2⟩,rfl⟩,h3⟩,h4⟩,h5⟩:=h;obtain⟨h6,h7⟩:=gt g h1;rw[wE];exact JA b g.calm h6 (g.blt _ h2) h3 h4 (kF es g h5)
  ·exact ff h
 |.lenSet a,Γ,cn,X,e,g,h=>by
  unfold aC at h;split at h
  ·rename_i q_
   obtain⟨_,_,_,_,rfl⟩:=og q_;simp only[YY,XT] at h;obtain⟨⟨⟨⟨⟨⟨⟨h1,h2⟩,rfl⟩,h3⟩,h4⟩,rfl⟩,h5⟩,h6⟩:=h;rw[wE];exact zJ g.calm (gt g h1).1 (g.blt _ h2) (gt g h3).1 (g.blt _ h4) (sE a g h6) h5
  ·exact ff h
 |.lrg es,Γ,cn,X,e,g,h=>by
  unfold aC at h;split at h
  ·rename_i q_
   obtain⟨_,_,_,_,rfl⟩:=og q_;simp only[YY,XT] at h;obtain⟨⟨⟨⟨⟨⟨⟨h1,h2⟩,rfl⟩,h3⟩,h4⟩,rfl⟩,h5⟩,h6⟩:=h;rw[wE];exact Ef g.calm (gt g h1).1 (g.blt _ h2) (gt g h3).1 (g.blt _ h4) (kF es g h6) h5
  ·rename_i q_
   obtain⟨_,_,_,_,rfl⟩:=og q_;simp only[YY,XT] at h;obtain⟨⟨⟨⟨⟨⟨⟨⟨h1,h2⟩,rfl⟩,h3⟩,h4⟩,rfl⟩,h5⟩,W_⟩,h6⟩:=h;rw[wE];exact Eg g.calm (gt g h1).1 (g.blt _ h2) (gt g h3).1 (g.blt _ h4) (kF es g h6) h5 W_
  ·exact ff h
 |.mt m o es,Γ,cn,X,e,g,h=>by
  unfold aC at h;split at h
  ·simp only[YY,XT] at h
   obtain⟨⟨⟨⟨⟨⟨⟨rfl,h1⟩,h2⟩,h3⟩,h4⟩,h5⟩,h6⟩,h7⟩:=h;rw[wE];exact GS g.hu m (sE o g h1) (kF es g h7) h2 h3 h4 h5 h6
  ·exact ff h
 |.mt0 m o,Γ,cn,X,e,g,h=>by
  unfold aC at h;split at h
  ·simp only[YY,XT] at h
   obtain⟨⟨⟨rfl,h1⟩,h2⟩,h3⟩:=h;rw[wE];exact DP g.hu m (sE o g h1) h2 h3
  ·exact ff h
 |.ix a b,Γ,cn,X,e,g,h=>by
  unfold aC at h;split at h
  ·simp only[YY] at h
   rw[wE];exact IX g.hu (sE a g h.1.1) (sE b g h.1.2) h.2
  ·exact ff h
 |.sl a lo hi,Γ,cn,X,e,g,h=>by
  unfold aC at h;split at h
  ·simp only[YY] at h
   rw[wE];exact Jc (sE a g h.1.1) (KH lo g h.1.2) (KH hi g h.2)
  ·exact ff h
 |.lst es,Γ,cn,X,e,g,h=>by
  unfold aC at h;split at h
  ·simp only[YY,XT] at h
   rw[wE];exact GB (kF es g h.1) h.2
  ·exact ff h
 |.tup es,Γ,cn,X,e,g,h=>by
  unfold aC at h;split at h
  ·simp only[YY,XT] at h
   rw[wE];exact GA (kF es g h.1) h.2
  ·exact ff h
 |.comp n el t i c,Γ,cn,X,e,g,h=>by
  unfold aC at h;split at h
  ·simp only[YY,XT] at h
   obtain⟨⟨⟨⟨⟨⟨⟨h1,rfl⟩,rfl⟩,h2⟩,h3⟩,h4⟩,h5⟩,h6⟩:=h;rw[wE];exact Dx (g.cscope h1) g.sc g.calm (sI i g h2) (λC s H0 ex pn=>Ew (g.comp h1) h4) (λC s H0 ex pn=>KI c (Γ:=inComp Γ _) (g.comp h1) h5) (λC s H0 ex pn=>sE el (Γ:=inComp Γ _) (g.comp h1) h6) h3
  ·exact ff h
 |.inv a,Γ,cn,X,e,g,h=>by
  unfold aC at h;split at h
  ·rw[wE];exact GT (sE a g h)
  ·exact ff h
 |.dnew,Γ,cn,X,e,g,h=>by
  unfold aC at h;split at h
  ·rw[wE];exact DT
  ·exact ff h
 |.fld o f,Γ,cn,X,e,g,h=>by
  unfold aC at h;split at h
  ·simp only[YY,XT] at h
   obtain⟨⟨h1,rfl⟩,h3⟩:=h;rw[wE];exact GU g.flds (sE o g h1) h3
  ·exact ff h
 |.mu m o es,Γ,cn,X,e,g,h=>by
  unfold aC at h;split at h
  ·simp only[YY,XT] at h
   obtain⟨⟨⟨⟨⟨⟨⟨rfl,h1⟩,h2⟩,h3⟩,h4⟩,h5⟩,h6⟩,h7⟩:=h;rw[wE];exact DY g.mts (sE o g h1) (kF es g h7) h2 h3 h4 h5 h6
  ·exact ff h
 |.mu0 m o,Γ,cn,X,e,g,h=>by
  unfold aC at h;split at h
  ·simp only[YY,XT] at h
   obtain⟨⟨⟨rfl,h1⟩,h2⟩,h3⟩:=h;rw[wE];exact Bu g.mts (sE o g h1) h2 h3
  ·exact ff h
theorem sP:∀(ir:Ps){Γ:cP}{cn:Cn}{X:Cx}{ks:List (Option Expr)}{vs:Zg},gc Γ cn X->zZ Γ ir ks vs=true->Fp X ks vs (wP cn ir)
 |.nil,Γ,cn,X,ks,vs,g,h=>by
  unfold zZ at h;split at h
  ·rw[wP];exact .nil
  ·exact ff h
 |.cons k v r,Γ,cn,X,ks,vs,g,h=>by
  unfold zZ at h;split at h
  ·simp only[YY] at h
   rw[wP];exact .cons (sE k g h.1.1) (sE v g h.1.2) (sP r g h.2)
  ·exact ff h
theorem kF:∀(ir:Es){Γ:cP}{cn:Cn}{X:Cx}{es:Zg},gc Γ cn X->cT Γ ir es=true->fZ X es (wEs cn ir)
 |.nil,Γ,cn,X,es,g,h=>by
  unfold cT at h;split at h
  ·rw[wEs];exact Gz
  ·exact ff h
 |.cons e r,Γ,cn,X,es,g,h=>by
  unfold cT at h;split at h
  ·simp only[YY] at h
   rw[wEs];exact Dh (sE e g h.1.1) (kF r g h.2) h.1.2
  ·exact ff h
theorem KH:∀(ir:Eo){Γ:cP}{cn:Cn}{X:Cx}{e:Option Expr},gc Γ cn X->si Γ ir e=true->Bm X e (wEo cn ir)
 |.no,Γ,cn,X,e,g,h=>by
  unfold si at h;split at h
  ·rw[wEo];exact DJ
  ·exact ff h
 |.yes a,Γ,cn,X,e,g,h=>by
  unfold si at h;split at h
  ·rw[wEo];exact DL (sE a g h)
  ·exact ff h
theorem KI:∀(ir:To){Γ:cP}{cn:Cn}{X:Cx}{e:Zg},gc Γ cn X->sj Γ ir e=true->zo X e (kE cn ir)
 |.no,Γ,cn,X,e,g,h=>by
  unfold sj at h;split at h
  ·rw[kE];exact .inl ⟨rfl,rfl⟩
  ·exact ff h
 |.yes a,Γ,cn,X,e,g,h=>by
  unfold sj at h;split at h
  ·rw[kE];exact .inr ⟨_,rfl,sT a g h⟩
  ·exact ff h
theorem sT:∀(ir:T){Γ:cP}{cn:Cn}{X:Cx}{e:Expr},gc Γ cn X->de Γ ir e=true->jw X e (wT cn ir)
 |.val a,Γ,cn,X,e,g,h=>by
  unfold de at h;rw[YY] at h;rw[wT];exact Gy (sE a g h.1) (Ca h.2)
 |.cmp o a b,Γ,cn,X,e,g,h=>by
  unfold de at h;split at h
  ·simp only[YY,XT,XW] at h
   obtain⟨⟨⟨rfl,h2⟩,h3⟩,h4⟩:=h;rw[wT];exact Gs (ya g.hu o) (sE a g h2) (sE b g h3) h4
  ·exact ff h
 |.and a b,Γ,cn,X,e,g,h=>by
  unfold de at h;split at h
  ·rw[YY] at h
   rw[wT];exact(xN (sT a g h.1) (Dd (sT b g h.2))).pt
  ·rw[YY] at h
   rw[wT];exact(xN (sT a g h.1) (sk (sT b g h.2) (.inl ⟨_,_,rfl⟩))).pt
  ·exact ff h
 |.or a b,Γ,cn,X,e,g,h=>by
  unfold de at h;split at h
  ·rw[YY] at h
   rw[wT];exact(AY (sT a g h.1) (Gv (sT b g h.2))).pt
  ·rw[YY] at h
   rw[wT];exact(AY (sT a g h.1) (sk (sT b g h.2) (.inr ⟨_,_,rfl⟩))).pt
  ·exact ff h
 |.not a,Γ,cn,X,e,g,h=>by
  unfold de at h;split at h
  ·rw[wT];exact Gu (sT a g h)
  ·exact ff h
theorem sI:∀(ir:I){Γ:cP}{cn:Cn}{X:Cx}{tg e:Expr},gc Γ cn X->oh Γ ir tg e=true->tV X tg e (wI cn ir)
 |.seq a,Γ,cn,X,tg,e,g,h=>by
  unfold oh at h;rw[wI];exact GI (sE a g h)
 |.enum es,Γ,cn,X,tg,e,g,h=>by
  unfold oh at h;split at h
  ·rename_i t_ q_
   obtain⟨_,_,_,rfl⟩:=we t_;obtain⟨_,_,rfl⟩:=dO q_;simp only[YY,XT] at h;obtain⟨⟨⟨⟨h1,h2⟩,rfl⟩,h3⟩,h4⟩:=h;rw[wI];exact D2 (gt g h1).1 (g.blt _ h2) (kF es g h4) h3
  ·exact ff h
 |.zip es,Γ,cn,X,tg,e,g,h=>by
  unfold oh at h;split at h
  ·rename_i t_ q_
   obtain⟨_,_,_,rfl⟩:=we t_;obtain⟨_,_,rfl⟩:=dO q_;simp only[YY,XT] at h;obtain⟨⟨⟨⟨⟨h1,h2⟩,rfl⟩,h3⟩,W'⟩,h4⟩:=h;rw[wI];exact GV (gt g h1).1 (g.blt _ h2) (kF es g h4) h3 W'
  ·exact ff h
 |.rg1 es,Γ,cn,X,tg,e,g,h=>by
  unfold oh at h;split at h
  ·rename_i q_
   obtain⟨_,_,rfl⟩:=dO q_;simp only[YY,XT] at h;obtain⟨⟨⟨⟨h1,h2⟩,rfl⟩,h3⟩,h4⟩:=h;rw[wI];exact zk (gt g h1).1 (g.blt _ h2) (kF es g h4) h3
  ·exact ff h
end
theorem z9{y:Str}{a sp pos:Pos}{b:Expr}{c:List Comprehension}{sc:Scope}(g:gc Γ cn X)(h1:Γ.sc.names.lookup y=some .local)(f:(a.line==pos.line)=true)(j:(sc.names.any λ(p:Str×NameKind)=>p.1==y&&(p.2==.local || p.2==.cell))=false):
  swapsWith (.ListComp b c sc pos) (some (.Name y a)) sp.line X.env=pure true:=by
 show pure (X.env.blockKind==.function&&X.env.kindOf y==some .local && a.line==pos.line && !(sc.names.any λ(p:Str×NameKind)=>p.1==y&&(p.2==.local || p.2==.cell)))=(pure true:Sem Bool);have e1:X.env.blockKind=.function:=by
  unfold Env.blockKind;rw[g.sc,g.kind];rfl
 have e2:X.env.kindOf y=some .local:=by show X.env.scope.names.lookup y=_;rw[g.sc];exact h1
 rw[e1,e2,f,j];rfl
theorem Aa{y:Str}{f:Pos}{n:Nat}(g:gc Γ cn X)(h1:Γ.sc.names.lookup y=some .cell)(v:Expr):swapsWith v (some (.Name y f)) n X.env=pure false:=by
 have e2:X.env.kindOf y=some .cell:=by show X.env.scope.names.lookup y=_;rw[g.sc];exact h1
 have e3:(some NameKind.cell==some NameKind.local)=false:=rfl;have a:∀(b c d:Bool),(b&&X.env.kindOf y==some .local && c&&d)=false:=λb c d=>by rw[e2,e3,Bool.and_false,Bool.false_and,Bool.false_and]
 cases v<;>first | rfl | exact congrArg pure (a _ _ _)
theorem Ex{t:WE}{i:Nat}{x:Str}{pos a:Pos}{e:Expr}(c:X.N.Nodup)(hi:X.N[i]?=some x)(hx:Loc X.env.scope x)(hf:X.fn x=true\/X.env.scope.names.lookup x=some .local)(hc:swapsWith e (some (.Name x a)) pos.line X.env=pure false)(h:aP X e t):
  ku X (.Assign [.Name x a] e pos) (Dt i t):=by
 intro σ M ρ H D rs f q;refine dG (HH c hi hx (bB e) hc hf) ?_;show tW X e ρ H _;refine aO (h σ M ρ H _ rs f q) λv m z=>?_
 obtain⟨b,d,M1,g,j,l⟩:=z;exact⟨b,σ.set i (some d),M1,(rs.mono b).set i g,j,l⟩
theorem Cb{c:Expr}{body:Zt}{tc:WT}{z:WS}(hp:PassesOwn 'b' X.A X.env X.xe)(hc:jw X c tc)(hb:mq X body z):ku X (.While c body [] pos) (rZ tc z):=by
 intro σ M ρ H E rs J q;obtain⟨W,⟨L,O⟩,step⟩:=q;refine dG (CG hp (l5 c) (mo body)) ?_;refine⟨λm l H'=>Kp H H'/\∃f M',RS X.K H' f l/\RM X.K M' H'/\W m f M',⟨L,Kp.refl H,σ,M,rs,J,O⟩,?_⟩;rintro m l H' ⟨k,f,M',r,P,R⟩;refine fL (hc f M' l H' _ r P (step m f M' R)) λb S T=>?_
 obtain⟨g,M1,B,C⟩:=T;cases b with
 |true=>
  obtain⟨N,U,V⟩:=C;refine⟨λG p=>Kp H p/\∃j M2,RS X.K p j G/\RM X.K M2 p/\N j M2,λG p ⟨Y,j,M2,a,b,n⟩=>let⟨m',h1,h2⟩:=U j M2 n;⟨m',h1,Y,j,M2,a,b,h2⟩,?_⟩;refine dH (hb f M1 l S _ (r.mono g) B V) ⟨λZ H4 MI=>?_,λ_ _=>ce (k.trans g),λ_ _=>jG (k.trans g),λZ H4 ⟨t,u,y,a,b,c⟩=>⟨(k.trans g).trans t,u,y,a,b,c⟩⟩;obtain⟨t,u,y,a,b,c⟩:=MI;exact⟨(k.trans g).trans t,u,y,a,b,c⟩
 |false=>exact⟨k.trans g,f,M1,r.mono g,B,C⟩
mutual
theorem sS:∀(ir:S){Γ:cP}{cn:Cn}{X:Cx}{st:Stmt},gc Γ cn X->hJ Γ ir st=true->ku X st (wS cn ir)
 |.set i e,Γ,cn,X,st,g,h=>by
  unfold hJ at h;split at h
  ·simp only[YY] at h
   obtain⟨a,b,c,d⟩:=z0 g h.1.1;rw[wS];refine Ex a b c d ?_ (sE e g h.2);rcases Bool.or_eq_true_iff.1 h.1.2 with z | z
   ·exact vj z
   ·exact Aa g (XR z) _
  ·exact ff h
 |.setC i n e t j c,Γ,cn,X,st,g,h=>by
  unfold hJ at h;split at h
  ·simp only[YY,XT,XW] at h
   obtain⟨⟨⟨⟨⟨⟨⟨⟨⟨⟨⟨a1,a2⟩,a3⟩,a4⟩,h1⟩,rfl⟩,rfl⟩,h2⟩,h3⟩,h4⟩,h5⟩,h6⟩:=h;rw[wS];exact Dy (g.cscope h1) g.sc g.calm (by rw[g.N];exact g.nd) (by rw[g.N];exact a1) (by rw[g.sc];exact a2) (sI j g h2) (λC s H0 ex pn=>Ew (g.comp h1) h4)
    (λC s H0 ex pn=>KI c (Γ:=inComp Γ _) (g.comp h1) h5) (λC s H0 ex pn=>sE e (Γ:=inComp Γ _) (g.comp h1) h6) h3 (z9 g a2 a3 a4)
  ·exact ff h
 |.expr e,Γ,cn,X,st,g,h=>by
  unfold hJ at h;split at h
  ·simp only[YY] at h
   rw[wS];exact Ds (sE e g h.2) h.1
  ·exact ff h
 |.ret e,Γ,cn,X,st,g,h=>by
  unfold hJ at h;split at h
  ·rw[wS];exact GF (sE e g h)
  ·exact ff h
 |.ite t a b,Γ,cn,X,st,g,h=>by
  unfold hJ at h;split at h
  ·simp only[YY] at h
   rw[wS];exact IH (sT t g h.1.1) (wf a g h.1.2) (wf b g h.2)
  ·exact ff h
 |.for t j b,Γ,cn,X,st,g,h=>by
  unfold hJ at h;split at h
  ·simp only[YY] at h
   rw[wS];exact GJ g.own g.calm (sI j g h.1.1.2) (Ew g h.1.1.1) (wf b g h.2) h.1.2
  ·exact ff h
 |.pass,Γ,cn,X,st,g,h=>by
  unfold hJ at h;split at h
  ·rw[wS];exact Dr
  ·exact ff h
 |.never,Γ,cn,X,st,g,h=>by rw[wS];exact A7
 |.putIx o i e,Γ,cn,X,st,g,h=>by
  unfold hJ at h;split at h
  ·simp only[YY] at h
   rw[wS];exact Bt g.hu (sE e g h.1.1.2) (sE o g h.1.1.1.1) (sE i g h.1.1.1.2) h.1.2 h.2
  ·exact ff h
 |.putP o i e,Γ,cn,X,st,g,h=>by
  unfold hJ at h;split at h
  ·simp only[YY] at h
   rw[wS];exact Em g.hu (sE e g h.1.1.2) (sE o g h.1.1.1.1) (sE i g h.1.1.1.2) h.1.2 h.2
  ·exact ff h
 |.setF o f e,Γ,cn,X,st,g,h=>by
  unfold hJ at h;split at h
  ·simp only[YY,XT] at h
   obtain⟨⟨h1,rfl⟩,h3⟩:=h;rw[wS];exact DW g.flds (sE o g h1) (sE e g h3)
  ·exact ff h
 |.while t b,Γ,cn,X,st,g,h=>by
  unfold hJ at h;split at h
  ·simp only[YY] at h
   rw[wS];exact Cb g.own (sT t g h.1) (wf b g h.2)
  ·exact ff h
theorem wf:∀(ir:Ss){Γ:cP}{cn:Cn}{X:Cx}{st:Zt},gc Γ cn X->cF Γ ir st=true->mq X st (wSs cn ir)
 |.nil,Γ,cn,X,st,g,h=>by
  unfold cF at h;split at h
  ·rw[wSs];exact Dp
  ·exact ff h
 |.cons s r,Γ,cn,X,st,g,h=>by
  unfold cF at h;split at h
  ·simp only[YY] at h
   rw[wSs];exact A4 (sS s g h.1) (wf r g h.2)
  ·exact ff h
end
end
section
variable {P:Zv}{w:World}{K:Za}{mg:Ze}{base:Heap}
structure Names (P:Zv) (w:World) (K:Za) (mg:Ze) (base:Heap) (k:Nat) (glob:Zf) (blt:Zf) (fns:Zf) (cn:Cn):Prop where
 glob:∀(j:Nat) x,glob[j]?=some x->nP K mg x (cn.G.getD j .non)
 blt:∀x,blt.contains x=true->mg x=none
 fns:∀(j:Nat) x,fns[j]?=some x->∃k',k'<=k/\dy P w K mg base k' x (cn.F.getD j λ_ _ _=>False)
 flds:∀C f,cn.O C f->fW K C/\cN K C f
 mts:∀C m sp,cn.T C m=some sp->∃k',k'<=k/\bQ P w K mg base k' C m sp
 isi:∀C d b,cn.I C d=some b->Ft K C d b
theorem JC{x:Str}{st:Stmt}{ps N:Zf}{f:Addr}{fd:Zu}{k:Nat}{sp:aK}{a:Ss}{glob:Zf}{blt:Zf}{fns:Zf}{cn:Cn}(c:oO K mg x st ps f fd)(S:cp N ps (ar st))(nm:Names P w K mg base k glob blt fns cn)
  (hc:cF ⟨N,ar st,true,glob,blt,fns⟩ a (aW st)=true) (len:∀ds M Q,sp ds M Q->ds.length=ps.length)
  (h:∀ds M Q,sp ds M Q->wSs cn a { nx:=λ_ M'=>Q .non M',rt:=Q } (aw N ds) M):cf P w K mg base (k+1) x sp:=by
 refine LI c S len (λs_ A outer s H E b=>?_) h;exact wf a (Γ:=⟨N,ar st,true,glob,blt,fns⟩) ⟨rfl,rfl,S.kind,S.nd,rfl,λ_ _=>rfl,PassesOwn.never,nm.glob,nm.blt,λj x e=>let⟨k',h1,h2⟩:=nm.fns j x e;⟨k',h2,b.mono h1⟩,nm.flds,λC m sp e=>let⟨k',h1,h2⟩:=nm.mts C m sp e;⟨k',h2,b.mono h1⟩,nm.isi,Nat.lt_of_le_of_lt (Nat.add_le_add_left (by decide:40<=64) _) b.units⟩ hc
theorem wj{x k_:Str}{st:Stmt}{ps N:Zf}{f:Addr}{fd:Zu}{k:Nat}{sp:aK}{a:Ss}{glob:Zf}{blt:Zf}{fns:Zf}{cn:Cn}(l:qX K x k_ st f fd)(S:cp N ps (ar st))(nm:Names P w K mg base k glob blt fns cn)
  (hc:cF ⟨N,ar st,true,glob,blt,fns⟩ a (aW st)=true) (len:∀ds M Q,sp ds M Q->ds.length=ps.length)
  (h:∀ds M Q,sp ds M Q->wSs cn a { nx:=λ_ M'=>Q .non M',rt:=Q } (aw N ds) M):eJ P w K mg base ko (k+1) f fd ps (gq K sp):=by
 refine l.ok S (λvs H Q E ⟨ds,M,b,r,_,s,_⟩=>by rw[←r.len];exact len ds M b s) λs_ A outer s H vs Q E c ⟨ds,M,b,r,m,sq,f0⟩=>⟨qm _ _,mo _,?_⟩
 have hb:=wf a (Γ:=⟨N,ar st,true,glob,blt,fns⟩) (X:=(nJ ko P w K mg base N k_ (ar st) f s_ A outer s H E).nox) ⟨rfl,rfl,S.kind,S.nd,rfl,λ_ _=>rfl,PassesOwn.never,nm.glob,nm.blt,λj x e=>let⟨k',h1,h2⟩:=nm.fns j x e;⟨k',h2,c.mono h1⟩,nm.flds,λC m sp e=>let⟨k',h1,h2⟩:=nm.mts C m sp e;⟨k',h2,c.mono h1⟩,nm.isi,Nat.lt_of_le_of_lt (Nat.add_le_add_left (by decide:40<=64) _) c.units⟩ hc;refine dH (hb (aw N ds) M (L2.start N vs) H _ (vp r) m (h ds M b sq)) ⟨λt H' n=>?_,λv H' ⟨k',d,M',p,g,q⟩=>f0 _ _ _ _ q k' p g,λ_ _ ⟨_,_,_,_,_,q⟩=>q,λ_ _ ⟨_,_,_,_,_,q⟩=>q⟩;obtain⟨k',u,M',_,g,q⟩:=n;exact f0 _ _ _ _ q k' (RV.non_.2 rfl) g
end
section
variable {P:Zv}{w:World}{K:Za}{mg:Ze}{base:Heap}{k:Nat}
theorem aA{F:List aK}:∀(j:Nat) (x:Str),([]:List Str)[j]?=some x->∃k',k'<=k/\dy P w K mg base k' x (F.getD j λ_ _ _=>False):=λj x e=>by simp at e
theorem au{y:Str}{ys:Zf}{sp:aK}{F:List aK}{a:Nat}(h1:a<=k)(h:dy P w K mg base a y sp)(t:∀(j:Nat) (x:Str),ys[j]?=some x->∃k',k'<=k/\dy P w K mg base k' x (F.getD j λ_ _ _=>False)):
  ∀(j:Nat) (x:Str),(y::ys)[j]?=some x->∃k',k'<=k/\dy P w K mg base k' x ((sp::F).getD j λ_ _ _=>False):=λj x e=>by
 cases j with
 |zero=>
  have:y=x:=by simpa using e
  subst this;exact⟨a,h1,h⟩
 |succ j=>exact t j x (by simpa using e)
theorem Ey{C:Addr}{m k_:Str}{st:Stmt}{ps N:Zf}{f:Addr}{fd:Zu}{sp:aK}{a:Ss}{glob:Zf}{blt:Zf}{fns:Zf}{cn:Cn}(cl:fW K C)(A:MethAt K C m k_ st f fd)(S:cp N ps (ar st))(nm:Names P w K mg base k glob blt fns cn)
  (hb:∀(kV x_ pm:Value) (an:Zm) (s_ ct:Value) (us:Zd),us.length=ps.length->bindArgs (PySem.W.fnOf m k_ (bF st) (aW st) (ar st) .none kV x_ pm an s_ ct) ⟨us,[]⟩=pure (ps.zip us))
  (hc:cF ⟨N,ar st,true,glob,blt,fns⟩ a (aW st)=true) (len:∀ds M Q,sp ds M Q->ds.length=ps.length)
  (h:∀ds M Q,sp ds M Q->wSs cn a { nx:=λ_ M'=>Q .non M',rt:=Q } (aw N ds) M):bQ P w K mg base (k+1) C m sp:=
 ⟨f,fd,ps,cl,A.meth,A.fun_.binds hb,wj A.fun_ S nm hc len h⟩
theorem JD{x:Str}{C:Addr}{k_:Str}{st:Stmt}{ps N:Zf}{f:Addr}{fd:Zu}{sp:aK}{a:Ss}{glob:Zf}{blt:Zf}{fns:Zf}{cn:Cn}(hx:mg x=some (.ref C))(hm:PySem.W.makesIn K C=true)(hk:PySem.W.keepIn K (.ref C)=true)(A:MethAt K C "__init__" k_ st f fd)
  (S:cp N ps (ar st)) (nm:Names P w K mg base k glob blt fns cn)
  (hb:∀(kV x_ pm:Value) (an:Zm) (s_ ct:Value) (us:Zd),us.length=ps.length->bindArgs (PySem.W.fnOf "__init__" k_ (bF st) (aW st) (ar st) .none kV x_ pm an s_ ct) ⟨us,[]⟩=pure (ps.zip us))
  (hc:cF ⟨N,ar st,true,glob,blt,fns⟩ a (aW st)=true) (len:∀ds M Q,sp ds M Q->ds.length=ps.length)
  (h:∀ds M Q,sp ds M Q->wSs cn a { nx:=λ_ M'=>Q .non M',rt:=Q } (aw N ds) M):dy P w K mg base (k+2) x (cc C sp):=
 .inr ⟨k+1,rfl,C,f,fd,ps,sp,⟨hm,A.at_,A.fn,hk⟩,hx,A.fun_.binds hb,wj A.fun_ S nm hc len h,rfl⟩
end
theorem aX.fun_{K:Za}{x:Str}{st:Stmt}{f:Addr}{fd:Zu}(A:aX K x st f fd):qX K x x st f fd:=by
 obtain⟨oc,od,an,K_,kV,x_,pm,s_,ct,a,rfl,l,c,k⟩:=A.ex;exact va l c k
end DD
open PySem L2 DD
local macro_rules
  | `(#v[]) => `(.nil)
  | `(#v[$x]) => `(.cons $x .nil)
  | `(#v[$x, $xs,*]) => `(.cons $x #v[$xs,*])
local macro_rules
  | `(~~~$x) => `(some (DD.D.int ($x : Int)))
local macro_rules
  | `(↑$x) => `(some (DD.D.ref $x))
local macro_rules
  | `(⇑$x) => `(DD.D.int ($x : Int))
local macro_rules
  | `(tactic| simp! only [$ts,*]) => `(tactic| simp only [wSs, wS, wE, wEs, wEo, kE, wT, wI, wP, Do, rn, Du, y7, Dg, rc, Db, IA, Dc, y8, De, y9, IC, Dq, Dt, Kt, zf, ik, vD, Jb, Dj, Di, nR, zc, Dw, zi, zj, zG, zn, zp, vH, zT, DV, zC, rK, Kv, ve, oP, Df, intD, bq, oT, setM, DB, zt, Bd, Fl, dI, xY, DA, Dz, Jg, zv, oX, zx, Fo, rE, oY, Bs, vG, zy, o6, o7, Fn, IZ, DR, DE, DF, DH, tu, DG, tq, zq, xZ, uO, IT, zr, IS, x9, IK, DU, zB, uQ, mr, tx, zI, o8, zM, zL, zz, rH, Ji, bg, aI, List.getElem?_cons_zero, List.getElem?_cons_succ, $ts,*])
namespace SH
open PySem L2 DD
abbrev fin(Q:DK):cE:={ nx:=λ_ M'=>Q .non M',rt:=Q }
def ae(M M':MH):Prop:=∀a o,M a=some o->M' a=some o
theorem ae.refl(M:MH):ae M M:=λ_ _ h=>h
theorem ae.trans{M M' f:MH}(a:ae M M')(b:ae M' f):ae M f:=λc o h=>b c o (a c o h)
theorem ae.new{M:MH}{p:Addr}{o:MO}(h:M p=none):ae M (ab M p o):=λa u e=>by
 rw[aL (λz=>by subst z;rw[h] at e;cases e)];exact e
theorem ae.then{M M':MH}{p:Addr}{o:MO}(e:ae M M')(h:M' p=none):ae M (ab M' p o):=e.trans (ae.new h)
def ExtBut(p:Addr)(M M':MH):Prop:=∀a o,a≠p->M a=some o->M' a=some o
theorem cA{g:MH->Prop}{t:eB}{c:WT}{e:WE}{F:List D->MH->Prop}{f:D->D}{ok:DS->Prop}{M:MH}:∀{xs:List D}(f_:List D) (σ:DS),ok σ ->
  (∀x∈xs,∀σ f_ rest,ok σ->(∀a,ok a->aq g t c e F rest (f_++[f x]) a M)->aq g t c e F (x::rest) f_ σ M)->F (f_++xs.map f) M->aq g t c e F xs f_ σ M
 |[],f_,σ,_,_,q=>by
  rw[YZ,ZA] at q;exact q
 |x::xs,f_,σ,h,st,q=>st x ZZ σ f_ xs h λa h'=>cA (f_++[f x]) a h' (λy hy=>st y (.tail _ hy)) (by simpa using q)
theorem dl{g:MH->Prop}{t:eB}{c:WT}{e:WE}{F:List D->MH->Prop}{p:D->Bool}{ok:DS->Prop}{M:MH}:∀{xs:List D}(f_:List D) (σ:DS),ok σ ->
  (∀x∈xs,∀σ f_ rest,ok σ->(∀a,ok a->aq g t c e F rest (f_++cond (p x) [x] []) a M)->aq g t c e F (x::rest) f_ σ M)->F (f_++xs.filter p) M->aq g t c e F xs f_ σ M
 |[],f_,σ,_,_,q=>by
  rw[List.filter_nil,ZA] at q;exact q
 |x::xs,f_,σ,h,st,q=>st x ZZ σ f_ xs h λa h'=>dl (f_++cond (p x) [x] []) a h' (λy hy=>st y (.tail _ hy)) (by
  rw[List.filter_cons] at q;cases e:p x with
  |true=>rw[e] at q;simpa using q
  |false=>rw[e] at q;simpa using q)
theorem bM{a:Type}(x:a)(xs:List a):di (x::xs) 0=some x:=gP (j:=0) rfl
theorem ci{a:Type}(x y:a)(xs:List a):di (x::y::xs) 1=some y:=gP (j:=1) rfl
theorem at2{a:Type}(x y z:a)(xs:List a):di (x::y::z::xs) 2=some z:=gP (j:=2) rfl
theorem aD(x:Str):aR (.str x)=true:=rfl
theorem aE(x:Int):aR (.int x)=true:=rfl
theorem aS(x:Bool):aR (.bl x)=true:=rfl
theorem aF(x:Str):cv (.str x)=0:=rfl
theorem aG(x:Int):cv (.int x)=0:=rfl
theorem aT(x:Bool):cv (.bl x)=0:=rfl
theorem ay(x y:Int):ba (.int x) (.int y)=(x==y):=by rw[ba]
theorem aH(x y:Str):ba (.str x) (.str y)=(x==y):=by rw[ba]
def qB(h f:Int):Int:=h / 2 ^ f.toNat%2
theorem G6(h f:Int):qB h f=0\/qB h f=1:=by unfold qB;omega
def lh(h f:Int):Bool:=qB h f==1
def bf(fs:Zi):List D:=fs.map .int
def bits(h:Int)(fs:Zi):List D:=fs.map λf=>.int (qB h f)
theorem uc:∀(fs:Zi),aQ (bf fs)=true
 |[]=>rfl
 |f::fs=>by
  show(aR (.int f)&&aQ (bf fs))=true;rw[uc fs];rfl
theorem qC:∀(fs:Zi),bm (bf fs)=0
 |[]=>rfl
 |f::fs=>by
  show bm (.int f::bf fs)=0;rw[bm,qC fs];rfl
theorem yw{fs:Zi}{k:Nat}(h:k<fs.length):di (bf fs) (k:Int)=some (.int (fs.getD k 0)):=by
 refine gP ?_;unfold bf;rw[ZH,ZE h];simp[List.getD,ZE h]
theorem Ly{a:Type}(xs:List a)(k:Nat):dr xs none (some (k:Int))=xs.take k:=by
 unfold dr;rw[HT.sW,HT.CU];simp
theorem yx(fs:Zi)(k:Nat):dr (bf fs) none (some (k:Int))=bf (fs.take k):=by rw[Ly];unfold bf;rw[List.map_take]
theorem qD(fs:Zi):(bf fs).length=fs.length:=by unfold bf;rw[ZG]
inductive CT where
 |hav (f:Int) | lck (f:Int) | som (n:Int) (fs:Zi) | led (fs:Zi) (k:Nat)
def CT.ok:CT->Prop
 |.hav f=>0<=f/\f<120
 |.lck f=>0<=f/\f<120
 |.som _ fs=>(0<fs.length/\fs.length<=6)/\∀f∈fs,0<=f/\f<120
 |.led fs k=>(k<fs.length/\fs.length<=6)/\∀f∈fs,0<=f/\f<120
def CT.told:CT->D
 |.hav f=>.tup [.str "have",.int f]
 |.lck f=>.tup [.str "lack",.int f]
 |.som n fs=>.tup [.str "some",.int n,.tup (bf fs)]
 |.led fs k=>.tup [.str "lead",.tup (bf fs),.int k]
def CT.flds:CT->List (Str×D)
 |.hav f=>[("fact",.int f)]
 |.lck f=>[("fact",.int f)]
 |.som n fs=>[("number",.int n),("facts",.tup (bf fs))]
 |.led fs k=>[("facts",.tup (bf fs)),("at",.int k)]
def CT.kind:CT->Nat
 |.hav _=>0
 |.lck _=>1
 |.som _ _=>2
 |.led _ _=>3
def bR(b:Bool)(f:Int):D:=.tup [.int f,.bl b]
def CT.leans:CT->List D
 |.hav f=>[bR false f]
 |.lck f=>[bR true f]
 |.som _ fs=>fs.map (bR false)
 |.led fs k=>(fs.take k).map (bR true)++[bR false (fs.getD k 0)]
structure CA where
 h:Addr
 l:Addr
 s:Addr
 d:Addr
def CA.at(c:CA):Nat->Addr
 |0=>c.h
 |1=>c.l
 |2=>c.s
 |_=>c.d
def CT.obj(c:CA)(t:CT):MO:=.ins (c.at t.kind) t.flds
theorem CT.kind_lt(t:CT):t.kind<4:=by
 cases t with
 |hav _=>exact(by decide:(0:Nat)<4)
 |lck _=>exact(by decide:(1:Nat)<4)
 |som _ _=>exact(by decide:(2:Nat)<4)
 |led _ _=>exact(by decide:(3:Nat)<4)
def kG:aK:=λds M Q=>∃h f:Int,ds=[.int h,.int f]/\0<=f/\Q (.bl (lh h f)) M
def cK(c:CA)(k:Nat):aK:=λds M Q=>∃(a:Addr) (t:CT),t.kind=k/\ds=[.ref a]/\M a=some (t.obj c)/\Q t.told M
def cb(c:CA)(k:Nat):aK:=λds M Q=>∃(a:Addr) (t:CT),t.kind=k/\t.ok/\ds=[.ref a]/\M a=some (t.obj c)/\∀p M',M p=none->ae M M'->M' p=some (.lst t.leans)->Q (.ref p) M'
def cj(c:CA)(k:Nat):aK:=λds M Q=>∃(a:Addr) (t:CT),t.kind=k/\ds=.ref a::t.flds.map (·.2)/\M a=some (.ins (c.at k) [])/\∀M',(∀b,b≠a->M' b=M b)->M' a=some (t.obj c)->Q .non M'
def kindAt(c:CA)(a:Addr):Option Nat:=if a=c.h then some 0 else if a=c.l then some 1 else if a=c.s then some 2 else if a=c.d then some 3 else none
def CA.apart(c:CA):Prop:=∀k,k<4->kindAt c (c.at k)=some k
def fQ:List Str:=["fact","number","facts","at"]
def dP(c:CA):pT:=λa f=>∃k,k<4/\a=c.at k/\f∈fQ
theorem bX(c:CA){k:Nat}{f:Str}(hk:k<4)(h:f∈fQ):dP c (c.at k) f:=⟨k,hk,rfl,h⟩
def li:Ss:=#v[.ret (.cmp .Eq (.bin .BitAnd (.bin .RShift (.var 0) (.var 1)) (.int 1)) (.int 1))]
section
variable {cn:Cn}
theorem xo{ds:List D}{M:MH}{Q:DK}(h:kG ds M Q):wSs cn li (fin Q) (aw ["",""] ds) M:=by
 obtain⟨x,f,rfl,hf,q⟩:=h;show wSs cn li (fin Q) [some (.int x),some (.int f)] M;unfold li;simp! only[];refine⟨hf,⟨rfl,rfl,(by decide:(0:Nat)<=30)⟩,?_⟩;rw[PyProof.Rows.bitAnd_m1];exact q
end
end SH
local macro_rules
  | `(tactic| simp_all! only [$ts,*]) => `(tactic| simp! only [SH.aD,SH.aE,SH.aS,SH.aF,SH.aG,SH.aT,SH.ay,SH.aH,YM,and_self,true_and,and_true,$ts,*])
namespace SH
open PySem L2 DD
theorem pq(x:D):List.lookup ("fact" : Str) [("fact",x)]=some x:=rfl
theorem Cc(x y:D):List.lookup ("number" : Str) [("number",x),("facts",y)]=some x:=rfl
theorem wk(x y:D):List.lookup ("facts" : Str) [("number",x),("facts",y)]=some y:=rfl
theorem om(x y:D):List.lookup ("facts" : Str) [("facts",x),("at",y)]=some x:=rfl
theorem Ab(x y:D):List.lookup ("at" : Str) [("facts",x),("at",y)]=some y:=rfl
theorem jn:("fact" : Str)∈fQ:=by rfl'
theorem ud:("number" : Str)∈fQ:=by rfl'
theorem fR:("facts" : Str)∈fQ:=by rfl'
theorem uS:("at" : Str)∈fQ:=by rfl'
def c9:Ss:=#v[.setF (.var 0) "fact" (.var 1)]
def iR:Ss:=#v[.ret (.tup #v[.str "have",.fld (.var 0) "fact"])]
def gu:Ss:=#v[.ret (.lst #v[.tup #v[.fld (.var 0) "fact",.bl false]])]
def iS:Ss:=#v[.ret (.tup #v[.str "lack",.fld (.var 0) "fact"])]
def gv:Ss:=#v[.ret (.lst #v[.tup #v[.fld (.var 0) "fact",.bl true]])]
def lP:Ss:=#v[.setF (.var 0) "facts" (.var 2)]
def jN:Ss:=.cons (.setF (.var 0) "number" (.var 1)) lP
def iT:Ss:=#v[.ret (.tup #v[.str "some",.fld (.var 0) "number",.fld (.var 0) "facts"])]
def gw:Ss:=#v[.ret (.comp 1 (.tup #v[.var 1,.bl false]) (.nm 1) (.seq (.fld (.var 0) "facts")) .no)]
def lQ:Ss:=#v[.setF (.var 0) "at" (.var 2)]
def jO:Ss:=.cons (.setF (.var 0) "facts" (.var 1)) lQ
def iU:Ss:=#v[.ret (.tup #v[.str "lead",.fld (.var 0) "facts",.fld (.var 0) "at"])]
def gx:Ss:=#v[.ret (.bin .Add (.comp 1 (.tup #v[.var 1,.bl true]) (.nm 1) (.seq (.sl (.fld (.var 0) "facts") .no (.yes (.fld (.var 0) "at")))) .no) (.lst #v[.tup #v[.ix (.fld (.var 0) "facts") (.fld (.var 0) "at"),.bl false]]))]
section
variable {cn:Cn}{c:CA}{ds:List D}{M:MH}{Q:DK}
theorem wl(g:cn.O=dP c)(h:cj c 0 ds M Q):wSs cn c9 (fin Q) (aw ["",""] ds) M:=by
 obtain⟨a,t,hk,rfl,j,q⟩:=h;cases t with
 |hav f=>
  show wSs cn c9 (fin Q) [↑a,some (.int f)] M;unfold c9;simp! only[j,g];exact⟨⟨bX c 'c' jn,by decide⟩,q _ (λb hb=>aL hb) aa⟩
 |lck f=>cases hk
 |som n fs=>cases hk
 |led fs k=>cases hk
theorem wm(g:cn.O=dP c)(h:cj c 1 ds M Q):wSs cn c9 (fin Q) (aw ["",""] ds) M:=by
 obtain⟨a,t,hk,rfl,j,q⟩:=h;cases t with
 |lck f=>
  show wSs cn c9 (fin Q) [↑a,some (.int f)] M;unfold c9;simp! only[j,g];exact⟨⟨bX c 'c' jn,by decide⟩,q _ (λb hb=>aL hb) aa⟩
 |hav f=>cases hk
 |som n fs=>cases hk
 |led fs k=>cases hk
theorem wn(g:cn.O=dP c)(h:cj c 2 ds M Q):wSs cn jN (fin Q) (aw ["","",""] ds) M:=by
 obtain⟨a,t,hk,rfl,j,q⟩:=h;cases t with
 |som n fs=>
  show wSs cn jN (fin Q) [↑a,some (.int n),some (.tup (bf fs))] M;unfold jN;simp! only[j,g];refine⟨⟨bX c 'c' ud,by decide⟩,?_⟩;unfold lP;simp! only[aa,g];exact⟨⟨bX c 'c' fR,(show(1:Nat)<1000 by decide)⟩,q _ (λb hb=>by rw[aL hb,aL hb]) aa⟩
 |hav f=>cases hk
 |lck f=>cases hk
 |led fs k=>cases hk
theorem wo(g:cn.O=dP c)(h:cj c 3 ds M Q):wSs cn jO (fin Q) (aw ["","",""] ds) M:=by
 obtain⟨a,t,hk,rfl,j,q⟩:=h;cases t with
 |led fs k=>
  show wSs cn jO (fin Q) [↑a,some (.tup (bf fs)),some (.int k)] M;unfold jO;simp! only[j,g];refine⟨⟨bX c 'c' fR,by decide⟩,?_⟩;unfold lQ;simp! only[aa,g];exact⟨⟨bX c 'c' uS,(show(1:Nat)<1000 by decide)⟩,q _ (λb hb=>by rw[aL hb,aL hb]) aa⟩
 |hav f=>cases hk
 |lck f=>cases hk
 |som n fs=>cases hk
theorem uA(g:cn.O=dP c)(h:cK c 0 ds M Q):wSs cn iR (fin Q) (aw [""] ds) M:=by
 obtain⟨a,t,hk,rfl,b,q⟩:=h;cases t with
 |hav f=>
  have b:M a=some (.ins (c.at 0) [("fact",.int f)]):=b;show wSs cn iR (fin Q) [↑a] M;unfold iR;simp! only[b,g,pq];exact⟨bX c 'c' jn,q⟩
 |lck f=>cases hk
 |som n fs=>cases hk
 |led fs k=>cases hk
theorem uB(g:cn.O=dP c)(h:cK c 1 ds M Q):wSs cn iS (fin Q) (aw [""] ds) M:=by
 obtain⟨a,t,hk,rfl,b,q⟩:=h;cases t with
 |lck f=>
  have b:M a=some (.ins (c.at 1) [("fact",.int f)]):=b;show wSs cn iS (fin Q) [↑a] M;unfold iS;simp! only[b,g,pq];exact⟨bX c 'c' jn,q⟩
 |hav f=>cases hk
 |som n fs=>cases hk
 |led fs k=>cases hk
theorem uC(g:cn.O=dP c)(h:cK c 2 ds M Q):wSs cn iT (fin Q) (aw [""] ds) M:=by
 obtain⟨a,t,hk,rfl,b,q⟩:=h;cases t with
 |som n fs=>
  have b:M a=some (.ins (c.at 2) [("number",.int n),("facts",.tup (bf fs))]):=b;show wSs cn iT (fin Q) [↑a] M;unfold iT;simp! only[b,g,Cc,wk];exact⟨bX c 'c' ud,bX c 'c' fR,q⟩
 |hav f=>cases hk
 |lck f=>cases hk
 |led fs k=>cases hk
theorem uD(g:cn.O=dP c)(h:cK c 3 ds M Q):wSs cn iU (fin Q) (aw [""] ds) M:=by
 obtain⟨a,t,hk,rfl,b,q⟩:=h;cases t with
 |led fs k=>
  have b:M a=some (.ins (c.at 3) [("facts",.tup (bf fs)),("at",.int k)]):=b;show wSs cn iU (fin Q) [↑a] M;unfold iU;simp! only[b,g,om,Ab];exact⟨bX c 'c' fR,bX c 'c' uS,q⟩
 |hav f=>cases hk
 |lck f=>cases hk
 |som n fs=>cases hk
theorem sm(g:cn.O=dP c)(h:cb c 0 ds M Q):wSs cn gu (fin Q) (aw [""] ds) M:=by
 obtain⟨a,t,hk,j,rfl,b,q⟩:=h;cases t with
 |hav f=>
  have b:M a=some (.ins (c.at 0) [("fact",.int f)]):=b;show wSs cn gu (fin Q) [↑a] M;unfold gu;simp! only[b,g,pq];exact⟨bX c 'c' jn,λp hp=>q p _ hp (ae.new hp) aa⟩
 |lck f=>cases hk
 |som n fs=>cases hk
 |led fs k=>cases hk
theorem sn(g:cn.O=dP c)(h:cb c 1 ds M Q):wSs cn gv (fin Q) (aw [""] ds) M:=by
 obtain⟨a,t,hk,j,rfl,b,q⟩:=h;cases t with
 |lck f=>
  have b:M a=some (.ins (c.at 1) [("fact",.int f)]):=b;show wSs cn gv (fin Q) [↑a] M;unfold gv;simp! only[b,g,pq];exact⟨bX c 'c' jn,λp hp=>q p _ hp (ae.new hp) aa⟩
 |hav f=>cases hk
 |som n fs=>cases hk
 |led fs k=>cases hk
def sr(b:Bool):D->D
 |.int f=>bR b f
 |d=>d
theorem qE(b:Bool)(fs:Zi):(bf fs).map (sr b)=fs.map (bR b):=by
 unfold bf;rw[ZO];rfl
theorem ss(g:cn.O=dP c)(h:cb c 2 ds M Q):wSs cn gw (fin Q) (aw [""] ds) M:=by
 obtain⟨a,t,hk,j,rfl,b,q⟩:=h;cases t with
 |som n fs=>
  have b:M a=some (.ins (c.at 2) [("number",.int n),("facts",.tup (bf fs))]):=b;show wSs cn gw (fin Q) [↑a] M;unfold gw;simp! only[b,g,wk];refine⟨bX c 'c' fR,?_⟩;refine cA (f:=sr false) (ok:=λσ=>∃v,σ=[↑a,v]) [] _ ⟨none,rfl⟩ ?_ ?_
  ·intro d hd σ f_ rest ⟨v,hv⟩ k
   subst hv;obtain⟨f,l,rfl⟩:=List.mem_map.1 hd;exact⟨trivial,k _ ⟨_,rfl⟩⟩
  ·intro p hp
   rw[XE,qE];exact q p _ hp (ae.new hp) aa
 |hav f=>cases hk
 |lck f=>cases hk
 |led fs k=>cases hk
theorem su(l:cn.O=dP c)(h:cb c 3 ds M Q):wSs cn gx (fin Q) (aw [""] ds) M:=by
 obtain⟨a,t,hk,g,rfl,b,q⟩:=h;cases t with
 |led fs k=>
  have b:M a=some (.ins (c.at 3) [("facts",.tup (bf fs)),("at",.int k)]):=b;show wSs cn gx (fin Q) [↑a] M;unfold gx;simp! only[b,l,om,Ab,yx];refine⟨bX c 'c' fR,bX c 'c' uS,?_⟩;refine cA (f:=sr true) (ok:=λσ=>∃v,σ=[↑a,v]) [] _ ⟨none,rfl⟩ ?_ ?_
  ·intro d hd σ f_ rest ⟨v,hv⟩ k
   subst hv;obtain⟨f,z,rfl⟩:=List.mem_map.1 hd;exact⟨trivial,k _ ⟨_,rfl⟩⟩
  ·intro p hp
   rw[XE,qE];have e1:=ae.new (o:=MO.lst ((fs.take k).map (bR true))) hp;have h1:=e1 a _ b;have m:ab M p (MO.lst ((fs.take k).map (bR true))) p=some (.lst ((fs.take k).map (bR true))):=aa;generalize ab M p (MO.lst ((fs.take k).map (bR true)))=M1 at *;simp only[h1,om,Ab,yw g.1.1];refine⟨bX c 'c' fR,bX c 'c' uS,λp2 r=>?_⟩;have e2:=ae.new (o:=MO.lst [D.tup [D.int (fs.getD k 0),D.bl false]]) r;have u:=e2 p _ m;have y:ab M1 p2 (MO.lst [D.tup [D.int (fs.getD k 0),D.bl false]]) p2=some (.lst [D.tup [D.int (fs.getD k 0),D.bl false]]):=aa;generalize ab M1 p2 (MO.lst [D.tup [D.int (fs.getD k 0),D.bl false]])=M2 at *;simp only[u,y];refine⟨?_,λp3 j=>q p3 _ ?_ ((e1.trans e2).then j) aa⟩
   ·have:((fs.take k).map (bR true)).length<=6:=by rw[ZG];exact ZY (List.length_take_le' _ _) g.1.2
    have B:(7:Nat)<=sizeLine:=by decide
    simp only[YJ,YU];omega
   ·cases e:M p3 with
    |none=>rfl
    |some o=>have:=(e1.trans e2) p3 o e;rw[j] at this;cases this
 |hav f=>cases hk
 |lck f=>cases hk
 |som n fs=>cases hk
end
theorem ae.free{M M':MH}{p:Addr}(e:ae M M')(h:M' p=none):M p=none:=by
 cases q:M p with
 |none=>rfl
 |some o=>have:=e p o q;rw[h] at this;cases this
theorem ae.put{M M':MH}{p:Addr}{o:MO}(e:ae M M')(h:M p=none):ae M (ab M' p o):=λa u q=>by
 have:a≠p:=λz=>by subst z;rw[h] at q;cases q
 rw[aL this];exact e a u q
theorem sv{M M':MH}{x:Addr}{o:MO}(hx:M x=none)(h:∀b,b≠x->M' b=ab M x o b):ae M M':=λb u e=>by
 have:b≠x:=λz=>by subst z;rw[hx] at e;cases e
 rw[h b this,aL this];exact e
theorem sw{M:MH}{a p:Addr}{o:MO}(h:M a=some o)(hp:M p=none):a≠p:=λz=>by subst z;rw[hp] at h;cases h
theorem ExtBut.refl(p:Addr)(M:MH):ExtBut p M M:=λ_ _ _ h=>h
theorem ExtBut.trans{p:Addr}{M M' f:MH}(a:ExtBut p M M')(b:ExtBut p M' f):ExtBut p M f:=λc o n h=>b c o n (a c o n h)
theorem ae.but{p:Addr}{M M':MH}(a:ae M M'):ExtBut p M M':=λc o _ h=>a c o h
theorem ExtBut.upd(p:Addr)(M:MH)(o:MO):ExtBut p M (ab M p o):=λc u n h=>by rw[aL n];exact h
theorem ExtBut.ext{p:Addr}{M M1 M2:MH}(a:ae M M1)(b:ExtBut p M1 M2)(h:M p=none):ae M M2:=λc o q=>b c o (sw q h) (a c o q)
theorem JE:(("have" : Str) == "have")=true:=XG _
theorem Ez:(("some" : Str) == "some")=true:=XG _
theorem EA:(("lack" : Str) == "lack")=true:=XG _
theorem Lz:(("lead" : Str) == "lead")=true:=XG _
theorem EB:(("lack" : Str) == "have")=false:=by rfl'
theorem EC:(("some" : Str) == "have")=false:=by rfl'
theorem ED:(("some" : Str) == "lack")=false:=by rfl'
theorem EE:(("lead" : Str) == "have")=false:=by rfl'
theorem EF:(("lead" : Str) == "lack")=false:=by rfl'
theorem EG:(("lead" : Str) == "some")=false:=by rfl'
def sy(c:CA):aK:=λds M Q=>∃t:CT,ds=[t.told]/\∀p M',M p=none->ae M M'->M' p=some (t.obj c)->Q (.ref p) M'
def m8:Ss:=#v[.ret (.fn 0 #v[.ix (.var 0) (.int 1),.ix (.var 0) (.int 2)])]
def iV:Ss:=.cons (.ite (.cmp .Eq (.ix (.var 0) (.int 0)) (.str "some")) #v[.ret (.fn 1 #v[.ix (.var 0) (.int 1),.ix (.var 0) (.int 2)])] .nil) m8
def fK:Ss:=.cons (.ite (.cmp .Eq (.ix (.var 0) (.int 0)) (.str "lack")) #v[.ret (.fn 2 #v[.ix (.var 0) (.int 1)])] .nil) iV
def dm:Ss:=.cons (.ite (.cmp .Eq (.ix (.var 0) (.int 0)) (.str "have")) #v[.ret (.fn 3 #v[.ix (.var 0) (.int 1)])] .nil) fK
section
variable {cn:Cn}{c:CA}{ds:List D}{M:MH}{Q:DK}
theorem G7(a:cn.F=[cc (c.at 3) (cj c 3),cc (c.at 2) (cj c 2),cc (c.at 1) (cj c 1),cc (c.at 0) (cj c 0)])(h:sy c ds M Q):wSs cn dm (fin Q) (aw [""] ds) M:=by
 obtain⟨t,rfl,q⟩:=h;show wSs cn dm (fin Q) [some t.told] M;cases t with
 |hav f=>
  unfold dm;simp_all! only[CT.told,bM,ci,at2,a,List.getD_cons_zero,List.getD_cons_succ,JE];exact λx hx=>⟨x,.hav f,rfl,rfl,aa,λM' h1 b=>⟨rfl,q x M' hx (sv hx h1) b⟩⟩
 |lck f=>
  unfold dm;simp_all! only[CT.told,bM,ci,at2,a,List.getD_cons_zero,List.getD_cons_succ,EB];unfold fK;simp_all! only[CT.told,bM,ci,at2,a,List.getD_cons_zero,List.getD_cons_succ,EA];exact λx hx=>⟨x,.lck f,rfl,rfl,aa,λM' h1 b=>⟨rfl,q x M' hx (sv hx h1) b⟩⟩
 |som n fs=>
  unfold dm;simp_all! only[CT.told,bM,ci,at2,a,List.getD_cons_zero,List.getD_cons_succ,EC];unfold fK;simp_all! only[CT.told,bM,ci,at2,a,List.getD_cons_zero,List.getD_cons_succ,ED];unfold iV;simp_all! only[CT.told,bM,ci,at2,a,List.getD_cons_zero,List.getD_cons_succ,Ez];exact λx hx=>⟨x,.som n fs,rfl,rfl,aa,λM' h1 b=>⟨rfl,q x M' hx (sv hx h1) b⟩⟩
 |led fs k=>
  unfold dm;simp_all! only[CT.told,bM,ci,at2,a,List.getD_cons_zero,List.getD_cons_succ,EE];unfold fK;simp_all! only[CT.told,bM,ci,at2,a,List.getD_cons_zero,List.getD_cons_succ,EF];unfold iV;simp_all! only[CT.told,bM,ci,at2,a,List.getD_cons_zero,List.getD_cons_succ,EG];unfold m8;simp_all! only[CT.told,bM,ci,at2,a,List.getD_cons_zero,List.getD_cons_succ];exact λx hx=>⟨x,.led fs k,rfl,rfl,aa,λM' h1 b=>⟨rfl,q x M' hx (sv hx h1) b⟩⟩
end
theorem jP(n k:Nat):lh (n:Int) (k:Int)=n.testBit k:=by
 unfold lh qB;rw[Nat.testBit_eq_decide_div_mod_eq,YW];have e:(n:Int) / 2 ^ k%2=((n / 2 ^ k%2:Nat):Int):=by simp
 rw[e];by_cases h:n / 2 ^ k%2=1
 ·simp[h]
 ·have a:n / 2 ^ k%2=0:=by omega
  simp[a]
def ck(a b:Nat):Nat:=a ^^^ (a&&&b)
theorem jf(a b k:Nat):(ck a b).testBit k=(a.testBit k && !b.testBit k):=by
 unfold ck;rw[Nat.testBit_xor,Nat.testBit_and];cases a.testBit k<;>cases b.testBit k<;>rfl
theorem Ac(a b:Nat):ck a b+(a&&&b)=a:=by
 have h:=PyProof.Rows.nat_or_add_and (ck a b) (a&&&b);have h1:ck a b|||(a&&&b)=a:=by
  refine Nat.eq_of_testBit_eq λk=>?_
  rw[Nat.testBit_or,jf,Nat.testBit_and];cases a.testBit k<;>cases b.testBit k<;>rfl
 have c:ck a b&&&(a&&&b)=0:=by
  refine Nat.eq_of_testBit_eq λk=>?_
  rw[Nat.testBit_and,jf,Nat.testBit_and,Nat.zero_testBit];cases a.testBit k<;>cases b.testBit k<;>rfl
 omega
theorem jQ(a b:Nat):Builtin.bitOr (a:Int) (b:Int)=((a|||b:Nat):Int):=by
 rw[PyProof.Rows.bitOr_and,PyProof.Rows.bitAnd_pp 'a' 'a',YW,YW]
 have:=PyProof.Rows.nat_or_add_and a b
 omega
theorem yy(a b:Nat):Builtin.bitAnd (a:Int) (b:Int)=((a&&&b:Nat):Int):=by
 rw[PyProof.Rows.bitAnd_pp 'a' 'a',YW,YW]
theorem Ad(a b:Nat):Builtin.bitAnd (a:Int) (-(b:Int)-1)=((ck a b:Nat):Int):=by
 rw[←bitNot_eq,PyProof.Rows.bitAnd_not,yy]
 have:=Ac a b
 omega
def nats(fs:Zj):List D:=fs.map λ(f:Nat)=>D.int (f:Int)
def a8(fs:Zj):Nat:=fs.foldl (λa f=>a|||2 ^ f) 0
theorem bh(fs:Zj)(k:Nat):(a8 fs).testBit k=decide (k∈fs):=by
 have b:∀(fs:Zj) (a:Nat),(fs.foldl (λa f=>a|||2 ^ f) a).testBit k=(a.testBit k||decide (k∈fs)):=by
  intro fs;induction fs with
  |nil=>intro a;simp
  |cons f fs c=>
   intro a;rw[List.foldl_cons,c,Nat.testBit_or,Nat.testBit_two_pow];by_cases e:f=k
   ·subst e;simp
   ·have:k≠f:=λz=>e z.symm
    simp[e,this]
 unfold a8;rw[b];simp
def cJ(n:Nat):List Nat:=(List.range (dZ (n:Int))).filter λf=>n.testBit f
theorem fS(n f:Nat):f∈cJ n↔n.testBit f=true:=by
 unfold cJ;rw[ZW,ZX];refine⟨λh=>h.2,λh=>⟨?_,h⟩⟩;unfold dZ Builtin.Int.intBits;have hn:n≠0:=λz=>by subst z;simp at h
 have hb:((n:Int)==0)=false:=by rw[ZS];omega
 rw[hb];simp only[XH,if_false,Int.natAbs_natCast];have h1:=Nat.ge_two_pow_of_testBit h;have a:=(Nat.le_log2 hn).2 h1;omega
theorem mH(n:Nat):(cJ n).Nodup:=List.Pairwise.filter _ List.nodup_range
theorem EH{n m:Nat}(h:n<2 ^ m):dZ (n:Int)<=m:=by
 unfold dZ Builtin.Int.intBits;by_cases hn:n=0
 ·subst hn;simp
 ·have hb:((n:Int)==0)=false:=by rw[ZS];omega
  rw[hb];simp only[XH,if_false,Int.natAbs_natCast]
  have:=(Nat.log2_lt hn).2 h
  omega
def Meets(d:D)(M:MH)(fs:Zj)(M':MH):Prop:=(d=.tup (nats fs)/\M'=M) \/ ∃a,d=.ref a/\((M a=some (.lst (nats fs))/\M'=M) \/ ∃b,keysOf b=nats fs/\((M a=some (.dic b)/\M'=ab M a (.rod b))\/(M a=some (.rod b)/\M'=M)))
def jo:aK:=λds M Q=>∃i:Int,ds=[.int i]/\Q (.bl true) M
def dq:aK:=λds M Q=>∃i m:Int,ds=[.int i,.int m]/\Q (.bl (decide (0<=i)&&decide (i<m))) M
def gf:aK:=λds M Q=>∃(d:D) (fs:Zj) (M':MH),ds=[d]/\Meets d M fs M'/\(∀f∈fs,f<=1000)/\Q (.int (a8 fs:Nat)) M'
def kH:aK:=λds M Q=>∃n:Nat,ds=[⇑n]/\n<2 ^ 1000/\∀p M',M p=none->ae M M'->M' p=some (.lst (nats (cJ n)))->Q (.ref p) M'
def lj:Ss:=#v[.ret (.and (.bi .isinst #v[.var 0,.ty "int"]) (.not (.bi .isinst #v[.var 0,.ty "bool"])))]
def lm:Ss:=#v[.ret (.and (.fn 0 #v[.var 0]) (.and (.cmp .GtE (.var 0) (.int 0)) (.cmp .Lt (.var 0) (.var 1))))]
def iu:Ss:=#v[.ret (.var 1)]
def fD:Ss:=#v[.set 1 (.bin .BitOr (.var 1) (.bin .LShift (.int 1) (.var 2)))]
def p7:Ss:=.cons (.for (.nm 2) (.seq (.var 0)) fD) iu
def on:Ss:=.cons (.set 1 (.int 0)) p7
def mI:Ss:=#v[.ret (.comp 1 (.var 1) (.nm 1) (.rg1 #v[.mt0 .bits (.var 0)]) (.yes (.val (.fn 0 #v[.var 0,.var 1]))))]
section
variable {cn:Cn}{ds:List D}{M:MH}{Q:DK}
theorem xp(h:jo ds M Q):wSs cn lj (fin Q) (aw [""] ds) M:=by
 obtain⟨i,rfl,q⟩:=h;show wSs cn lj (fin Q) [some (.int i)] M;unfold lj;simp! only[iI];refine⟨by decide,?_⟩;show fB true _ _;refine⟨by decide,?_⟩;exact q
theorem xq(f0:cn.F.getD 0 (λ_ _ _=>False)=jo)(h:dq ds M Q):wSs cn lm (fin Q) (aw ["",""] ds) M:=by
 obtain⟨i,m,rfl,q⟩:=h;show wSs cn lm (fin Q) [some (.int i),some (.int m)] M;unfold lm;simp! only[f0];refine⟨i,rfl,?_⟩;show fB (decide (0<=i)) _ _;cases b:decide (0<=i) with
 |true=>rw[b,Bool.true_and] at q;exact q
 |false=>rw[b,Bool.false_and] at q;exact q
theorem Ae(f0:cn.F.getD 0 (λ_ _ _=>False)=kG)(h:kH ds M Q):wSs cn mI (fin Q) (aw [""] ds) M:=by
 obtain⟨n,rfl,hn,q⟩:=h;show wSs cn mI (fin Q) [~~~n] M;unfold mI;simp! only[f0,uP,List.cons_append,XE,List.replicate];have hb:=EH hn;refine⟨trivial,⟨by omega,by omega⟩,?_⟩;refine dl (p:=λd=>match d with | .int f=>lh (n:Int) f | _=>false) (ok:=λσ=>∃v,σ=[~~~n,v]) [] _ ⟨none,rfl⟩ ?_ ?_
 ·intro d hd σ f_ rest ⟨v,hv⟩ k
  subst hv;unfold bD at hd;obtain⟨i,hi,rfl⟩:=List.mem_map.1 hd;refine⟨n,0+(i:Int),rfl,by omega,?_⟩;have a:=k _ ⟨some (.int (0+(i:Int))),rfl⟩;show fB (lh (n:Int) (0+(i:Int))) _ _;dsimp only at a;cases hb:lh (n:Int) (0+(i:Int)) with
  |true=>rw[hb] at a;exact⟨trivial,a⟩
  |false=>rw[hb] at a;exact⟨trivial,by simpa using a⟩
 ·intro p hp
  have e:([]++(bD 0 (dZ (n:Int))).filter (λ(d:D)=>match d with | .int f=>lh (n:Int) f | _=>false))=nats (cJ n):=by
   unfold bD nats cJ;rw[XE,List.filter_map];have h1:((dZ (n:Int):Int)-0).toNat=dZ (n:Int):=by omega
   rw[h1];have b:(List.range (dZ (n:Int))).filter ((λ(d:D)=>match d with | .int f=>lh (n:Int) f | _=>false)∘λ(i:Nat)=>D.int (0+(i:Int)))=(List.range (dZ (n:Int))).filter λf=>n.testBit f:=by
    refine List.filter_congr λi _=>?_
    show lh (n:Int) (0+(i:Int))=_;rw[Int.zero_add,jP]
   rw[b];refine ZP λi _=>?_
   rw[Int.zero_add]
  rw[e];exact q p _ hp (ae.new hp) aa
theorem Cd(h:gf ds M Q):wSs cn on (fin Q) (aw ["","",""] ds) M:=by
 obtain⟨d,fs,M',rfl,hm,hb,q⟩:=h;show wSs cn on (fin Q) [some d,none,none] M;unfold on;simp! only[List.set];unfold p7;simp! only[List.set];have go:∀(g:MH->Prop),g M'->ax g (.nm 2) (wSs cn fD) { nx:=wSs cn iu (fin Q),rt:=Q } (nats fs) [some d,some (.int 0),none] M':=by
  intro g hg;have b:∀(fs:Zj) (a:Nat) (v:Zy),(∀f∈fs,f<=1000)->Q (.int (fs.foldl (λa f=>a|||2 ^ f) a:Nat)) M'->ax g (.nm 2) (wSs cn fD) { nx:=wSs cn iu (fin Q),rt:=Q } (nats fs) [some d,~~~a,v] M':=by
   intro fs;induction fs with
   |nil=>
    intro a v _ q;rw[show nats []=[] from rfl,ax];unfold iu;simp! only[];exact q
   |cons f fs c=>
    intro a v hb q;show ax g (.nm 2) (wSs cn fD) _ (⇑f::nats fs) _ M';rw[ax];unfold fD;simp! only[List.set];have hf:=hb f (.head _);refine⟨⟨by omega (splitDisjunctions:=true),by omega (splitDisjunctions:=true),by decide⟩,hg,?_⟩;have e:Builtin.bitOr (a:Int) (1*2 ^ (f:Int).toNat)=((a|||2 ^ f:Nat):Int):=by
     rw[←jQ];simp
    rw[e];exact c (a|||2 ^ f) _ (λx hx=>hb x (.tail _ hx)) q
  exact b fs 0 none hb q
 rcases hm with⟨rfl,rfl⟩ | ⟨a,rfl,hm⟩
 ·exact go _ trivial
 ·rcases hm with⟨h1,rfl⟩ | ⟨j,hk,⟨h1,rfl⟩ | ⟨h1,rfl⟩⟩
  ·simp only[h1]
   exact go _ h1
  ·simp only[h1,hk]
   exact go _ aa
  ·simp only[h1,hk]
   exact go _ h1
end
def CT.fit(m:Int):CT->Prop
 |.hav f=>0<=f/\f<m
 |.lck f=>0<=f/\f<m
 |.som n fs=>(1<=n/\n<=6)/\(0<fs.length/\fs.length<=6)/\fs.Nodup/\∀f∈fs,0<=f/\f<m
 |.led fs k=>(k<fs.length/\fs.length<=6)/\fs.Nodup/\∀f∈fs,0<=f/\f<m
theorem CT.fit_ok{m:Int}(hm:m<=120):∀{t:CT},t.fit m->t.ok
 |.hav f,h=>⟨h.1,Int.lt_of_lt_of_le h.2 hm⟩
 |.lck f,h=>⟨h.1,Int.lt_of_lt_of_le h.2 hm⟩
 |.som n fs,h=>⟨h.2.1,λf hf=>⟨(h.2.2.2 f hf).1,Int.lt_of_lt_of_le (h.2.2.2 f hf).2 hm⟩⟩
 |.led fs k,h=>⟨h.1,λf hf=>⟨(h.2.2 f hf).1,Int.lt_of_lt_of_le (h.2.2 f hf).2 hm⟩⟩
def mJ:aK:=λds M Q=>∃n:Int,ds=[.int n]/\(1<=n/\n<=6)/\Q (.bl true) M
def kI:aK:=λds M Q=>∃(fs:Zi) (m:Int),ds=[.tup (bf fs),.int m]/\(0<fs.length/\fs.length<=6)/\fs.Nodup/\(∀f∈fs,0<=f/\f<m)/\∀M',ae M M'->Q (.bl true) M'
def mK:aK:=λds M Q=>∃(t:CT) (m:Int),ds=[t.told,.int m]/\t.fit m/\∀M',ae M M'->Q (.bl true) M'
def pv:aK:=λds M Q=>∃(h m:Int) (p:Addr) (ts:List CT),ds=[.tup [.int h,.ref p],.int m]/\M p=some (.lst (ts.map CT.told))/\(0<=h/\h<m)/\ts.length<=6/\(∀t∈ts,t.fit m)/\∀M',ae M M'->Q (.bl true) M'
def jR(j:Nat):Ss:=#v[.ret (.and (.fn 0 #v[.var 0]) (.and (.cmp .GtE (.var 0) (.int 1)) (.cmp .LtE (.var 0) (.glob j))))]
def kJ:Ss:=#v[.ret (.and (.bi .all #v[.comp 1 (.fn 0 #v[.var 2,.var 1]) (.nm 2) (.seq (.var 0)) .no]) (.cmp .Eq (.lenSet (.var 0)) (.bi .len #v[.var 0])))]
def iX(j:Nat):Ss:=.cons (.ite (.or (.not (.val (.bi .isinst #v[.var 0,.ty "tuple"]))) (.or (.cmp .Lt (.bi .len #v[.var 0]) (.int 1)) (.cmp .Gt (.bi .len #v[.var 0]) (.glob j)))) #v[.ret (.bl false)] .nil) kJ
def oo:Ss:=#v[.ret (.and (.cmp .Eq (.ix (.var 0) (.int 0)) (.str "lead")) (.and (.fn 0 #v[.ix (.var 0) (.int 1),.var 1]) (.fn 1 #v[.ix (.var 0) (.int 2),.bi .len #v[.ix (.var 0) (.int 1)]])))]
def jS:Ss:=.cons (.ite (.cmp .Eq (.ix (.var 0) (.int 0)) (.str "some")) #v[.ret (.and (.fn 2 #v[.ix (.var 0) (.int 1)]) (.fn 0 #v[.ix (.var 0) (.int 2),.var 1]))] .nil) oo
def jT:Ss:=.cons (.ite (.cmp .NotEq (.bi .len #v[.var 0]) (.int 3)) #v[.ret (.bl false)] .nil) jS
def dQ:Ss:=.cons (.ite (.or (.cmp .Eq (.ix (.var 0) (.int 0)) (.str "have")) (.cmp .Eq (.ix (.var 0) (.int 0)) (.str "lack"))) #v[.ret (.and (.cmp .Eq (.bi .len #v[.var 0]) (.int 2)) (.fn 1 #v[.ix (.var 0) (.int 1),.var 1]))] .nil) jT
def d8:Ss:=.cons (.ite (.or (.not (.val (.bi .isinst #v[.var 0,.ty "tuple"]))) (.cmp .Lt (.bi .len #v[.var 0]) (.int 2))) #v[.ret (.bl false)] .nil) dQ
def p8:Ss:=#v[.ret (.bi .all #v[.comp 1 (.fn 0 #v[.var 3,.var 1]) (.nm 3) (.seq (.var 2)) .no])]
def p9(j:Nat):Ss:=.cons (.ite (.or (.not (.val (.bi .isinst #v[.var 2,.ty "list"]))) (.cmp .Gt (.bi .len #v[.var 2]) (.glob j))) #v[.ret (.bl false)] .nil) p8
def lq(j:Nat):Ss:=.cons (.set 2 (.ix (.var 0) (.int 1))) (p9 j)
def oq(j:Nat):Ss:=.cons (.ite (.or (.not (.val (.bi .isinst #v[.var 0,.ty "tuple"]))) (.or (.cmp .NotEq (.bi .len #v[.var 0]) (.int 2)) (.not (.val (.fn 1 #v[.ix (.var 0) (.int 0),.var 1]))))) #v[.ret (.bl false)] .nil) (lq j)
theorem wp{g:MH->Prop}{t:eB}{c:WT}{e:WE}{F:List D->MH->Prop}{f:D->D}{ok:DS->Prop}{M0:MH}:∀{xs:List D}(f_:List D) (σ:DS) (M:MH),ok σ->ae M0 M ->
  (∀x∈xs,∀σ f_ rest M,ok σ->ae M0 M->(∀a M',ok a->ae M0 M'->aq g t c e F rest (f_++[f x]) a M')->aq g t c e F (x::rest) f_ σ M)->(∀M',ae M0 M'->F (f_++xs.map f) M')->aq g t c e F xs f_ σ M
 |[],f_,σ,M,_,b,_,q=>by
  rw[YZ,ZA] at q;exact q M b
 |x::xs,f_,σ,M,h,b,st,q=>st x ZZ σ f_ xs M h b λa M' h' j=>wp (f_++[f x]) a M' h' j (λy hy=>st y (.tail _ hy)) (by simpa using q)
theorem jU(t:String):pS t t=true:=by unfold pS;simp
theorem qF:∀(l:List D),my (l.map λ_=>D.bl true)=some (l.map λ_=>true)
 |[]=>rfl
 |a::l=>by rw[YL,my,qF l];rfl
theorem wq{a:Type}(l:List a):(l.map λ_=>true).all id=true:=by simp
theorem Ce{f:Int}{fs:Zi}:mz (bf (f::fs))=none:=rfl
theorem ue:∀(fs:Zi),ip (bf fs)=some fs
 |[]=>rfl
 |f::fs=>by
  show Option.map _ (ip (bf fs))=_;rw[ue fs];rfl
theorem wt{a:Type}[DecidableEq a]:∀(ks l:List a),(l++ks).Nodup->ks.foldl jL l=l++ks
 |[],l,_=>by simp
 |k::ks,l,h=>by
  have hk:k∉l:=λz=>by
   have:=(List.nodup_append.1 h).2.2 k z k (.head _)
   exact this rfl
  rw[List.foldl_cons,jL,if_neg hk,wt ks (l++[k]) (by simpa using h)];simp
theorem xr{a:Type}[DecidableEq a](l:List a)(h:l.Nodup):(bv l).length=l.length:=by
 unfold bv;rw[wt l [] (by simpa using h)];simp
section
variable {cn:Cn}{ds:List D}{M:MH}{Q:DK}{j:Nat}
theorem wu(f0:cn.F.getD 0 (λ_ _ _=>False)=jo)(a:cn.G.getD j .non=.int 6)(h:mJ ds M Q):wSs cn (jR j) (fin Q) (aw [""] ds) M:=by
 obtain⟨n,rfl,hn,q⟩:=h;show wSs cn (jR j) (fin Q) [some (.int n)] M;unfold jR;simp! only[f0,a];refine⟨n,rfl,?_⟩;have b:decide ((1:Int)<=n)=true:=YV hn.1;have c:decide (n<=(6:Int))=true:=YV hn.2;simp only[b,c,bg];exact q
theorem uE(f0:cn.F.getD 0 (λ_ _ _=>False)=dq)(b:cn.G.getD j .non=.int 6)(h:kI ds M Q):wSs cn (iX j) (fin Q) (aw ["",""] ds) M:=by
 obtain⟨fs,m,rfl,hl,c,hf,q⟩:=h;show wSs cn (iX j) (fin Q) [some (.tup (bf fs)),some (.int m)] M;unfold iX;simp! only[b,iI,qD];refine⟨by decide,?_⟩;show fB false _ _;have g:decide ((fs.length:Int)<1)=false:=ZR 'a';have l:decide ((6:Int)<(fs.length:Int))=false:=ZR 'a';simp only[g,l,aI];unfold kJ;simp! only[f0,List.cons_append,XE,List.replicate];refine cA (f:=λ_=>.bl true) (ok:=λσ=>∃v,σ=[some (.tup (bf fs)),some (.int m),v]) [] _ ⟨none,rfl⟩ ?_ ?_
 ·intro d hd σ f_ rest ⟨v,hv⟩ k
  subst hv;obtain⟨f,a,rfl⟩:=List.mem_map.1 hd;refine⟨f,m,rfl,?_⟩;have h1:decide (0<=f)=true:=YV (hf f a).1;have n:decide (f<m)=true:=YV (hf f a).2;rw[h1,n];exact⟨trivial,k _ ⟨_,rfl⟩⟩
 ·intro p hp
  rw[XE,aa];dsimp only;rw[qF];dsimp only;rw[wq];simp only[bg,Ed];have e1:=ae.new (o:=MO.lst ((bf fs).map λ_=>D.bl true)) hp;generalize ab M p (MO.lst ((bf fs).map λ_=>D.bl true))=M1 at *;cases fs with
  |nil=>exact absurd hl.1 (by simp)
  |cons f fs=>
   simp only[o8,Ce,ue,qD];refine⟨by have:=hl.2;omega,⟨rfl,rfl,(by decide:(0:Nat)<=30)⟩,?_⟩;rw[xr _ c,ay,XG];exact q M1 e1
theorem Af(f0:cn.F.getD 0 (λ_ _ _=>False)=kI)(l:cn.F.getD 1 (λ_ _ _=>False)=dq)(p:cn.F.getD 2 (λ_ _ _=>False)=mJ)(h:mK ds M Q):wSs cn d8 (fin Q) (aw ["",""] ds) M:=by
 obtain⟨t,m,rfl,a,q⟩:=h;show wSs cn d8 (fin Q) [some t.told,some (.int m)] M;have c:decide (((1+1:Nat):Int)<2)=false:=by decide
 have g:decide (((1+1+1:Nat):Int)<2)=false:=by decide
 have e2:(((1+1:Nat):Int)==2)=true:=by decide
 have e3:(((1+1+1:Nat):Int)==3)=true:=by decide
 cases t with
 |hav f=>
  unfold d8;simp_all! only[CT.told,iI,YJ,YU,Nat.zero_add];refine⟨by decide,?_⟩;simp only[jU,Bool.not_true,aI,c,g];unfold dQ;simp_all! only[CT.told,bM,ci,at2,JE,YJ,YU,Nat.zero_add,l];simp only[bg,e2];refine⟨f,m,rfl,?_⟩;have h1:decide (0<=f)=true:=YV a.1;have b:decide (f<m)=true:=YV a.2;rw[h1,b];exact q M (ae.refl M)
 |lck f=>
  unfold d8;simp_all! only[CT.told,iI,YJ,YU,Nat.zero_add];refine⟨by decide,?_⟩;simp only[jU,Bool.not_true,aI,c,g];unfold dQ;simp_all! only[CT.told,bM,ci,at2,EB,EA,YJ,YU,Nat.zero_add,l];simp only[bg,e2];refine⟨f,m,rfl,?_⟩;have h1:decide (0<=f)=true:=YV a.1;have b:decide (f<m)=true:=YV a.2;rw[h1,b];exact q M (ae.refl M)
 |som n fs=>
  unfold d8;simp_all! only[CT.told,iI,YJ,YU,Nat.zero_add];refine⟨by decide,?_⟩;simp only[jU,Bool.not_true,aI,c,g];unfold dQ;simp_all! only[CT.told,bM,ci,at2,EC,ED];unfold jT;simp_all! only[CT.told,bM,ci,at2,YJ,YU,Nat.zero_add];simp only[Bool.not_true,aI,e3];unfold jS;simp_all! only[CT.told,bM,ci,at2,Ez,f0,p];refine⟨n,rfl,a.1,?_⟩;show fB true _ _;exact⟨fs,m,rfl,a.2.1,a.2.2.1,a.2.2.2,q⟩
 |led fs k=>
  unfold d8;simp_all! only[CT.told,iI,YJ,YU,Nat.zero_add];refine⟨by decide,?_⟩;simp only[jU,Bool.not_true,aI,c,g];unfold dQ;simp_all! only[CT.told,bM,ci,at2,EE,EF];unfold jT;simp_all! only[CT.told,bM,ci,at2,YJ,YU,Nat.zero_add];simp only[Bool.not_true,aI,e3];unfold jS;simp_all! only[CT.told,bM,ci,at2,EG];unfold oo;simp_all! only[CT.told,bM,ci,at2,Lz,f0,l,qD];refine⟨fs,m,rfl,⟨by have:=a.1.1;omega,a.1.2⟩,a.2.1,a.2.2,λM1 e1=>?_⟩;show fB true _ _;refine⟨k,(fs.length:Int),rfl,?_⟩;have h1:decide (0<=(k:Int))=true:=YV 'a';have b:decide ((k:Int)<(fs.length:Int))=true:=YV (by have:=a.1.1;omega);rw[h1,b];exact q M1 e1
theorem Cf(f0:cn.F.getD 0 (λ_ _ _=>False)=mK)(c:cn.F.getD 1 (λ_ _ _=>False)=dq)(g:cn.G.getD j .non=.int 6)(h:pv ds M Q):wSs cn (oq j) (fin Q) (aw ["","",""] ds) M:=by
 obtain⟨hd,m,p,ts,rfl,a,b,hl,hf,q⟩:=h;show wSs cn (oq j) (fin Q) [some (.tup [.int hd,.ref p]),some (.int m),none] M;unfold oq;simp_all! only[List.set,iI,bM,ci,YJ,YU,Nat.zero_add,c];refine⟨by decide,?_⟩;show fB false _ _;show fB false _ _;refine⟨hd,m,rfl,?_⟩;have h1:decide (0<=hd)=true:=YV b.1;have l:decide (hd<m)=true:=YV b.2;rw[h1,l];show wSs cn (lq j) (fin Q) _ M;unfold lq;simp_all! only[List.set,bM,ci];unfold p9;simp_all! only[List.set,iI,a,g,ZG];refine⟨by decide,?_⟩;show fB false _ _;have n:decide ((6:Int)<(ts.length:Int))=false:=ZR 'a';simp only[n,aI];unfold p8;simp_all! only[List.set,a,f0,List.cons_append,XE,List.replicate];refine wp (f:=λ_=>.bl true) (M0:=M) (ok:=λσ=>∃v,σ=[some (.tup [.int hd,.ref p]),some (.int m),↑p,v]) [] _ M ⟨none,rfl⟩ (ae.refl M) ?_ ?_
 ·intro d r σ f_ rest M1 ⟨v,hv⟩ e1 k
  subst hv;obtain⟨t,u,rfl⟩:=List.mem_map.1 r;exact⟨t,m,rfl,hf t u,λM2 e2=>⟨(e1.trans e2) p _ a,k _ M2 ⟨_,rfl⟩ (e1.trans e2)⟩⟩
 ·intro M1 e1 p2 y
  rw[XE,aa];dsimp only;rw[qF];dsimp only;rw[wq];exact q _ (e1.then y)
end
def af(rs:Zh):List D:=rs.map D.ref
def cM(c:CA)(M:MH)(rs:Zh)(ts:List CT):Prop:=Paired (λr (t:CT)=>M r=some (t.obj c)) rs ts
theorem cM.ext{c:CA}{M M':MH}{rs:Zh}{ts:List CT}(e:ae M M')(h:cM c M rs ts):cM c M' rs ts:=iE (λr t q=>e r _ q) h
def dk(c:CA):aK:=λds M Q=>∃(rs:Zh) (ts:List CT),ds=[.tup (af rs)]/\cM c M rs ts/\(∀t∈ts,t.ok)/\ts.length<=6/\∀p M',M p=none->ae M M'->M' p=some (.lst (ts.flatMap CT.leans))->Q (.ref p) M'
def eO:Ss:=#v[.ret (.var 1)]
def eQ:Ss:=#v[.expr (.mt .extend (.var 1) #v[.mu0 "leaning" (.var 2)])]
def i6:Ss:=.cons (.for (.nm 2) (.seq (.var 0)) eQ) eO
def gy:Ss:=.cons (.set 1 (.lst .nil)) i6
theorem xt(t:CT):t.flds.lookup ("leaning" : Str)=none:=by cases t<;>rfl
theorem Cg{t:CT}(h:t.ok):t.leans.length<=7:=by
 cases t with
 |hav f=>exact(by decide:(1:Nat)<=7)
 |lck f=>exact(by decide:(1:Nat)<=7)
 |som n fs=>
  show(fs.map (bR false)).length<=7;rw[ZG];have:=h.1.2;omega
 |led fs k=>
  show((fs.take k).map (bR true)++[bR false (fs.getD k 0)]).length<=7;rw[ZM,ZG,YS]
  have:=h.1.2
  simp only[YJ,YU];omega
section
variable {cn:Cn}{c:CA}{ds:List D}{M:MH}{Q:DK}
theorem sC(m:∀t:CT,cn.T (c.at t.kind) "leaning" = some (cb c t.kind))(h:dk c ds M Q):wSs cn gy (fin Q) (aw ["","",""] ds) M:=by
 obtain⟨b,n,rfl,hc,a,hl,q⟩:=h;show wSs cn gy (fin Q) [some (.tup (af b)),none,none] M;unfold gy;simp! only[List.set];intro p hp;unfold i6;simp! only[List.set];have f:∀(rs:Zh) (ts:List CT) (v:Zy) (M1:MH) (f_:List D),ae M M1->M1 p=some (.lst f_)->f_.length+7*ts.length<=42->cM c M rs ts->(∀t∈ts,t.ok)->(∀M',ae M M'->M' p=some (.lst (f_++ts.flatMap CT.leans))->Q (.ref p) M') ->
   ax (λ_=>True) (.nm 2) (wSs cn eQ) { nx:=wSs cn eO (fin Q),rt:=Q } (af rs) [some (.tup (af b)),↑p,v] M1:=by
  intro rs ts v M1 f_ e1 g hl hc;induction hc generalizing v M1 f_ with
  |nil=>
   intro _ q;rw[show af []=[] from rfl,ax];unfold eO;simp! only[];exact q M1 e1 (by simpa using g)
  |@cons r t rs ts u _ y=>
   intro a q;rw[show af (r::rs)=.ref r::af rs from rfl,ax];have j:M1 r=some (.ins (c.at t.kind) t.flds):=e1 r _ u;have l:=a t (.head _);have J:=Cg l;unfold eQ;simp! only[List.set,j,g,m,xt];refine⟨rfl,trivial,r,t,rfl,l,rfl,j,λp2 M2 K e2 z=>?_⟩;have B:=e2 p _ g;simp only[B,z];rw[YJ] at hl;have C:(42:Nat)<=sizeLine:=by decide
   refine⟨by omega,trivial,?_⟩;have G:M p=none:=hp;have e3:ae M (ab M2 p (.lst (f_++t.leans))):=(e1.trans e2).put G;refine y _ _ (f_++t.leans) e3 aa (by rw[ZM];omega) (λt' h'=>a t' (.tail _ h')) λM' e' g'=>q M' e' ?_
   rw[List.flatMap_cons,←ZC];exact g'
 exact f b n none _ [] (ae.new hp) aa (by simp;omega) hc a λM' e' g'=>q p M' hp e' (by simpa using g')
end
def bI(M:MH)(ps:Zh)(L:Nat->MO):Prop:=∀f r,ps[f]?=some r->M r=some (L f)
theorem bI.ext{M M':MH}{ps:Zh}{L:Nat->MO}(e:ae M M')(h:bI M ps L):bI M' ps L:=λf r q=>e r _ (h f r q)
theorem Ch{b:Type}{ps:List b}{i j:Nat}{a:b}(nd:ps.Nodup)(h1:ps[i]?=some a)(c:ps[j]?=some a):i=j:=
 (List.getElem?_inj (YD.mp h1).1 nd).1 (h1.trans c.symm)
theorem bI.put{M:MH}{ps:Zh}{L a:Nat->MO}{h:Nat}{r:Addr}{o:MO}(nd:ps.Nodup)(b:ps[h]?=some r)(s:bI M ps L)(e1:a h=o)(e2:∀f,f≠h->a f=L f):bI (ab M r o) ps a:=λf c q=>by
 by_cases e:f=h
 ·subst e
  rw[b] at q;cases q;rw[aa,e1]
 ·have:c≠r:=λz=>by subst z;exact e (Ch nd q b)
  rw[aL this,e2 f e];exact s f c q
theorem hU{ps:Zh}{f:Nat}{r:Addr}(h:ps[f]?=some r):di (af ps) (f:Int)=↑r:=gP (by unfold af;rw[ZH,h];rfl)
theorem mL(m:Nat):(bD 0 (m:Int)).length=m:=by unfold bD;rw[ZG,ZL];omega
theorem jV(fs:Zj):(nats fs).length=fs.length:=by unfold nats;rw[ZG]
theorem jg{i:Nat}{c:WT}{e:WE}{o:MO}{F:List D->MH->Prop}(M0:MH)(hc:∀σ M Q,Q true M->c σ M Q)(j:∀σ M Q,(∀p,M p=none->Q (.ref p) (ab M p o))->e σ M Q):∀(xs:List D) (ps:Zh) (σ:DS) (M:MH),ae M0 M->ps.Nodup->(∀p∈ps,M0 p=none/\M p=some o) ->
  (∀g M',ae M0 M'->g.Nodup->g.length=ps.length+xs.length->(∀p∈g,M0 p=none/\M' p=some o)->F (af g) M')->aq (λ_=>True) (.nm i) c e F xs (af ps) σ M
 |[],ps,σ,M,e1,nd,hp,q=>q ps M e1 nd rfl hp
 |x::xs,ps,σ,M,e1,nd,hp,q=>by
  rw[aq];show c _ M _;refine hc _ _ _ ?_;rw[bg];refine j _ _ _ λp hn=>⟨trivial,?_⟩
  have:af ps++[D.ref p]=af (ps++[p]):=by unfold af;rw[ZN];rfl
  rw[this];refine jg M0 hc j xs (ps++[p]) _ _ (e1.then hn) ?_ ?_ ?_
  ·rw[List.nodup_append]
   refine⟨nd,by simp,λa ha b hb z=>?_⟩;have hb:b=p:=by simpa using hb
   subst hb;subst z
   have:=(hp a ha).2
   rw[hn] at this;cases this
  ·intro a ha
   rw[YC] at ha;rcases ha with ha | ha
   ·exact⟨(hp a ha).1,(ae.new hn) a _ (hp a ha).2⟩
   ·have ha:a=p:=by simpa using ha
    subst ha;exact⟨e1.free hn,aa⟩
  ·intro g M' a b d f
   refine q g M' a b ?_ f;rw[d,ZM,YJ,YJ,YU];omega
def d9(hs:Zj)(k f:Nat):List Nat:=(List.range k).filter λr=>decide (hs[r]?=some f)
theorem mM{hs:Zj}{k h:Nat}(f:Nat)(e:hs[k]?=some h):d9 hs (k+1) f=d9 hs k f++(if f=h then[k] else[]):=by
 unfold d9;rw[List.range_succ,List.filter_append];congr 1;by_cases q:f=h
 ·subst q;simp[e]
 ·have:h≠f:=λz=>q z.symm
  simp[e,q,this]
theorem EI(hs:Zj)(k f:Nat):(d9 hs k f).length<=k:=by
 have:=List.length_filter_le (λr=>decide (hs[r]?=some f)) (List.range k)
 rw[ZL] at this;exact this
def gz:aK:=λds M Q=>∃(m:Nat) (hs:Zj),ds=[⇑m,.tup (nats hs)]/\m<=1000/\hs.length<=1000/\(∀h∈hs,h<m) /\
 ∀p ps M',M p=none->ae M M'->M' p=some (.lst (af ps))->ps.length=m->bI M' ps (λf=>.lst (nats (d9 hs hs.length f)))->Q (.ref p) M'
def eU:Ss:=#v[.ret (.var 2)]
def eV:Ss:=#v[.expr (.mt .append (.ix (.var 2) (.var 4)) #v[.var 3])]
def i7:Ss:=.cons (.for (.tp [3,4]) (.enum #v[.var 1]) eV) eU
def gA:Ss:=.cons (.setC 2 1 (.lst .nil) (.nm 5) (.rg1 #v[.var 0]) .no) i7
def cU:Ss:=#v[.ret (.comp 1 (.bk .list #v[.var 7]) (.nm 7) (.seq (.var 2)) .no)]
def eY:Ss:=#v[.ite (.not (.val (.var 6))) #v[.putIx (.ix (.var 2) (.var 5)) (.var 3) (.bl true)] .nil]
def eZ:Ss:=#v[.for (.tp [5,6]) (.seq (.var 4)) eY]
def i8:Ss:=.cons (.for (.tp [3,4]) (.enum #v[.var 1]) eZ) cU
def dz:Ss:=.cons (.setC 2 1 .dnew (.nm 7) (.rg1 #v[.var 0]) .no) i8
def CT.leanP:CT->List (Bool×Int)
 |.hav f=>[(false,f)]
 |.lck f=>[(true,f)]
 |.som _ fs=>fs.map λf=>(false,f)
 |.led fs k=>(fs.take k).map (λf=>(true,f))++[(false,fs.getD k 0)]
def pairD(x:Bool×Int):D:=bR x.1 x.2
theorem qG(t:CT):t.leans=t.leanP.map pairD:=by
 cases t with
 |hav f=>rfl
 |lck f=>rfl
 |som n fs=>show fs.map (bR false)=(fs.map λf=>(false,f)).map pairD;rw[ZO];rfl
 |led fs k=>show(fs.take k).map (bR true)++[bR false (fs.getD k 0)]=((fs.take k).map (λf=>(true,f))++[(false,fs.getD k 0)]).map pairD;rw[ZN,ZO];rfl
theorem Ag(ts:List CT):ts.flatMap CT.leans=(ts.flatMap CT.leanP).map pairD:=by
 rw[List.map_flatMap];congr 1
 funext t;exact qG t
theorem getD_mem{fs:Zi}{k:Nat}(h:k<fs.length):fs.getD k 0∈fs:=by
 have:fs.getD k 0=fs[k]:=by simp[List.getD,ZE h]
 rw[this];exact List.getElem_mem h
theorem gg{m:Int}{t:CT}(h:t.fit m):∀x∈t.leanP,0<=x.2/\x.2<m:=by
 cases t with
 |hav f=>
  intro x hx;have:x=(false,f):=by simpa [CT.leanP] using hx
  subst this;exact h
 |lck f=>
  intro x hx;have:x=(true,f):=by simpa [CT.leanP] using hx
  subst this;exact h
 |som n fs=>
  intro x hx;obtain⟨f,hf,rfl⟩:=List.mem_map.1 hx;exact h.2.2.2 f hf
 |led fs k=>
  intro x hx;rcases YC.1 hx with hx | hx
  ·obtain⟨f,hf,rfl⟩:=List.mem_map.1 hx
   exact h.2.2 f (List.mem_of_mem_take hf)
  ·have:x=(false,fs.getD k 0):=by simpa using hx
   subst this;exact h.2.2 _ (getD_mem h.1.1)
def bN(l:Zr)(f:Nat):Bool:=decide ((false,(f:Int))∈l)
def dA(ls:List (List (Bool×Int)))(k f:Nat):List Nat:=(List.range k).filter λr=>bN (ls.getD r []) f
theorem Ah{ls:List (List (Bool×Int))}{k:Nat}{l:Zr}(f:Nat)(e:ls[k]?=some l):dA ls (k+1) f=dA ls k f++(if bN l f=true then[k] else[]):=by
 unfold dA;rw[List.range_succ,List.filter_append];congr 1;have e2:ls.getD k []=l:=by rw[List.getD_eq_getElem?_getD,e];rfl
 rw[List.filter_cons,e2,List.filter_nil]
theorem EJ{ls:List (List (Bool×Int))}{k f r:Nat}(h:r∈dA ls k f):r<k:=ZX.1 (ZW.1 h).1
theorem EK(ls:List (List (Bool×Int)))(k f:Nat):(dA ls k f).length<=k:=by
 have:=List.length_filter_le (λr=>bN (ls.getD r []) f) (List.range k)
 rw[ZL] at this;exact this
def bJ(rs:Zj):List (Key×D):=rs.map λ(r:Nat)=>(.inl (r:Int),.bl true)
theorem Ci(rs:Zj):keysOf (bJ rs)=nats rs:=by unfold keysOf bJ nats;rw[ZO];rfl
theorem EL(rs:Zj)(r:Nat):((bJ rs).any λb=>decide (b.1=(.inl (r:Int):Key)))=decide (r∈rs):=by
 induction rs with
 |nil=>simp[bJ]
 |cons a rs c=>
  have:bJ (a::rs)=(.inl (a:Int),.bl true)::bJ rs:=rfl
  rw[this,List.any_cons,c];by_cases e:a=r
  ·subst e;simp
  ·have h1:r≠a:=λz=>e z.symm
   have f:¬((a:Int)=(r:Int)):=by omega
   simp[h1,f]
theorem EM(rs:Zj)(r:Nat):putD (bJ rs) (.inl (r:Int)) (.bl true)=bJ (if r∈rs then rs else rs++[r]):=by
 unfold putD;rw[EL];by_cases e:r∈rs
 ·rw[if_pos (YV e),if_pos e]
  unfold bJ;rw[ZO];refine ZP λa _=>?_
  show(if(Sum.inl (a:Int):Key)=.inl (r:Int) then _ else _)=_;split<;>rfl
 ·rw[if_neg (by simpa using e),if_neg e]
  unfold bJ;rw[ZN];rfl
def gB:aK:=λds M Q=>∃(m:Nat) (a:Addr) (rs:Zh) (ls:List (List (Bool×Int))),ds=[⇑m,.ref a]/\M a=some (.lst (af rs))/\rs.length=ls.length/\(∀(k:Nat) (r:Addr) (l:Zr),rs[k]?=some r->ls[k]?=some l->M r=some (.lst (l.map pairD)))/\m<=1000/\ls.length<=1000/\(∀l∈ls,∀x∈l,0<=x.2/\x.2<(m:Int)) /\
 ∀p ps M',M p=none->ae M M'->M' p=some (.lst (af ps))->ps.length=m->bI M' ps (λf=>.lst (nats (dA ls ls.length f)))->Q (.ref p) M'
section
variable {cn:Cn}{ds:List D}{M:MH}{Q:DK}
theorem sD(h:gz ds M Q):wSs cn gA (fin Q) (aw ["","","","",""] ds) M:=by
 obtain⟨m,hs,rfl,hm,hl,u,q⟩:=h;show wSs cn gA (fin Q) [~~~m,some (.tup (nats hs)),none,none,none] M;unfold gA;simp! only[List.cons_append,XE,List.replicate];refine⟨⟨by omega,by omega⟩,?_⟩;refine jg (o:=.lst []) M (λ_ _ _ h=>h) (λ_ _ _ h=>h) (bD 0 (m:Int)) [] _ M (ae.refl M) .nil (λp hp=>nomatch hp) ?_;intro ps M1 e1 nd y j p hp;rw[mL,YU,Nat.zero_add] at y;have C:M p=none:=e1.free hp;have G:∀r∈ps,r≠p:=λr a=>sw (j r a).2 hp
 have e2:ae M (ab M1 p (.lst (af ps))):=e1.then hp;have J:ab M1 p (MO.lst (af ps)) p=some (.lst (af ps)):=aa;have s2:bI (ab M1 p (MO.lst (af ps))) ps (λf=>.lst (nats (d9 hs 0 f))):=λf r a=>(ae.new hp) r _ (j r (YT a)).2
 generalize ab M1 p (MO.lst (af ps))=M2 at *;unfold i7;simp! only[List.set];have l:∀(rest:Zj) (k:Nat) (n t:Zy) (b:MH),hs.drop k=rest->k<=hs.length->ae M b->b p=some (.lst (af ps))->bI b ps (λf=>.lst (nats (d9 hs k f))) ->
   ax (λ_=>True) (.tp [3,4]) (wSs cn eV) { nx:=wSs cn eU (fin Q),rt:=Q } (bH (k:Int) (nats rest)) [~~~m,some (.tup (nats hs)),↑p,n,t] b:=by
  intro rest;induction rest with
  |nil=>
   intro k n t b hd K e3 c g;rw[show nats []=[] from rfl,bH,ax];unfold eU;simp! only[];have hk:hs.length<=k:=by
    have:=congrArg List.length hd
    rw[YX,YU] at this;omega
   obtain rfl:k=hs.length:=by omega
   exact q p ps b C e3 c y g
  |cons h rest L=>
   intro k n t b hd K e3 c g;have hk:hs[k]?=some h:=by
    have:=congrArg (·[0]?) hd
    simpa using this
   have O:hs.drop (k+1)=rest:=by
    have:=congrArg (List.drop 1) hd
    rw[XZ] at this;simpa using this
   have z:h∈hs:=YT hk;have P:k<hs.length:=(YD.mp hk).1;obtain⟨r,a⟩:∃r,ps[h]?=some r:=⟨ps[h]'(by have:=u h z;omega),ZE (by have:=u h z;omega)⟩;have B:=YT a;rw[show nats (h::rest)=⇑h::nats rest from rfl,bH,ax];unfold eV;simp! only[List.set,c,hU a,g h r a,jV];have hsz:(1000:Nat)<sizeLine:=by decide
   have R:=EI hs k h;refine⟨rfl,rfl,by omega,trivial,?_⟩;rw[show((k:Int)+1)=((k+1:Nat):Int) by simp];refine L (k+1) _ _ _ O P (e3.put (j r B).1) ?_ ?_
   ·rw[aL (G r B).symm];exact c
   ·refine bI.put nd a g ?_ ?_
    ·show MO.lst _=_
     rw[mM h hk,if_pos rfl];unfold nats;rw[ZN];rfl
    ·intro f hf
     show MO.lst _=_;rw[mM f hk,if_neg hf,ZA]
 exact l hs 0 none none M2 rfl (YM _) e2 J s2
def gC(ls:List (List (Bool×Int)))(k:Nat)(dn:Zr)(f:Nat):MO:=.dic (bJ (dA ls k f++(if bN dn f=true then[k] else[])))
theorem xu(dn:Zr)(g:Int)(f:Nat):bN (dn++[(true,g)]) f=bN dn f:=by
 unfold bN;congr 1;simp
theorem xv(dn:Zr)(f:Nat):bN (dn++[(false,(f:Int))]) f=true:=by
 unfold bN;simp
theorem wv(dn:Zr){g f:Nat}(h:f≠g):bN (dn++[(false,(g:Int))]) f=bN dn f:=by
 unfold bN;congr 1;have:¬(f:Int)=(g:Int):=by omega
 simp[this]
theorem Cj(ls:List (List (Bool×Int)))(k:Nat)(dn:Zr)(g:Nat):MO.dic (putD (bJ (dA ls k g++(if bN dn g=true then[k] else[]))) (.inl (k:Int)) (.bl true))=gC ls k (dn++[(false,(g:Int))]) g:=by
 unfold gC;rw[EM,xv,if_pos rfl];have hk:k∉dA ls k g:=λz=>absurd (EJ z) (ZU _)
 by_cases e:bN dn g=true
 ·rw[if_pos e,if_pos (by simp)]
 ·rw[if_neg e,ZA,if_neg hk]
theorem sF(h:gB ds M Q):wSs cn dz (fin Q) (aw ["","","","","","",""] ds) M:=by
 obtain⟨m,B,rs,ls,rfl,J_,N',TL,hm,hl,hf,q⟩:=h;show wSs cn dz (fin Q) [~~~m,↑B,none,none,none,none,none] M;unfold dz;simp! only[List.cons_append,XE,List.replicate];refine⟨⟨by omega,by omega⟩,?_⟩;refine jg (o:=.dic []) M (λ_ _ _ h=>h) (λ_ _ _ h=>h) (bD 0 (m:Int)) [] _ M (ae.refl M) .nil (λp hp=>nomatch hp) ?_;intro ps M1 e1 nd h_ Mb p hp;rw[mL,YU,Nat.zero_add] at h_;have Ny:M p=none:=e1.free hp;have L9:∀r∈ps,r≠p:=λr C=>sw (Mb r C).2 hp
 have e2:ae M (ab M1 p (.lst (af ps))):=e1.then hp;have g2:ab M1 p (MO.lst (af ps)) p=some (.lst (af ps)):=aa;have s2:bI (ab M1 p (MO.lst (af ps))) ps (gC ls 0 []):=λf r C=>(ae.new hp) r _ (Mb r (YT C)).2
 generalize ab M1 p (MO.lst (af ps))=M2 at *;unfold i8;simp! only[List.set,e2 B _ J_];have U:∀(J K j n:Zy) (a:MH),ae M a->a p=some (.lst (af ps))->bI a ps (gC ls ls.length [])->wSs cn cU (fin Q) [~~~m,↑B,↑p,J,K,j,n] a:=by
  intro J K j n a e3 R V;unfold cU;simp! only[R,List.cons_append,XE,List.replicate,ub,lN];have ac:∀(rest:Zh) (k:Nat) (u:Zh) (v:Zy) (c:MH),ps.drop k=rest->k<=ps.length->u.length=k->ae a c->bI c u (λf=>.lst (nats (dA ls ls.length f))) ->
    aq (λM'=>M' p=some (.lst (af ps))) (.nm 7) (kE cn .no) (wE cn (.bk .list (.cons (.var 7) .nil))) (λds M'=>∀p,M' p=none->Q (.ref p) (ab M' p (.lst ds))) (af rest) (af u) [~~~m,↑B,↑p,J,K,j,n,v] c:=by
   intro rest;induction rest with
   |nil=>
    intro k u v c hd Pw hq t G;rw[show af []=[] from rfl,aq];intro p2 L;have hk:ps.length<=k:=by
     have:=congrArg List.length hd
     rw[YX,YU] at this;omega
    exact q p2 u _ ((e3.trans t).free L) ((e3.trans t).then L) aa 'a' (G.ext (ae.new L))
   |cons r rest ih=>
    intro k u v c hd Pw hq t G;have hk:ps[k]?=some r:=by
     have:=congrArg (·[0]?) hd
     simpa using this
    have Nb:ps.drop (k+1)=rest:=by
     have:=congrArg (List.drop 1) hd
     rw[XZ] at this;simpa using this
    have Px:k<ps.length:=(YD.mp hk).1;have TM:c r=some (.dic (bJ (dA ls ls.length k))):=by
     rw[t r _ (V k r hk)];unfold gC;rw[if_neg (by unfold bN;simp),ZA]
    rw[show af (r::rest)=.ref r::af rest from rfl,aq];simp! only[List.set,ub,lN,TM,nX,Ci];intro p2 L;refine⟨(t.trans (ae.new L)) p _ R,?_⟩;have:af u++[D.ref p2]=af (u++[p2]):=by unfold af;rw[ZN];rfl
    rw[this];refine ih (k+1) (u++[p2]) _ _ Nb Px (by rw[ZM,hq];rfl) (t.then L) λf O y=>?_
    by_cases TN:f<u.length
    ·rw[ZF TN] at y
     exact(ae.new L) O _ (G f O y)
    ·rw[ZI 'a'] at y
     have hz:f-u.length=0:=by
      have:=(YD.mp y).1
      simp only[YJ,YU] at this;omega
     rw[hz] at y;have:p2=O:=by simpa using y
     subst this;obtain rfl:f=k:=by omega
     exact aa
  exact ac ps 0 [] none a rfl (YM _) rfl (ae.refl a) (λf r C=>by simp at C)
 have outer:∀(rest:Zh) (k:Nat) (J K j n:Zy) (a:MH),rs.drop k=rest->k<=rs.length->ae M a->a p=some (.lst (af ps))->bI a ps (gC ls k []) ->
   ax (λM'=>M' B=some (.lst (af rs))) (.tp [3,4]) (wSs cn eZ) { nx:=wSs cn cU (fin Q),rt:=Q } (bH (k:Int) (af rest)) [~~~m,↑B,↑p,J,K,j,n] a:=by
  intro rest;induction rest with
  |nil=>
   intro k J K j n a hd Pw e3 R V;rw[show af []=[] from rfl,bH,ax];have hk:rs.length<=k:=by
    have:=congrArg List.length hd
    rw[YX,YU] at this;omega
   obtain rfl:k=ls.length:=by omega
   exact U J K j n a e3 R V
  |cons r rest ih=>
   intro k J K j n a hd Pw e3 R V;have hk:rs[k]?=some r:=by
    have:=congrArg (·[0]?) hd
    simpa using this
   have Nb:rs.drop (k+1)=rest:=by
    have:=congrArg (List.drop 1) hd
    rw[XZ] at this;simpa using this
   have Px:k<rs.length:=(YD.mp hk).1;obtain⟨l,hlk⟩:∃l,ls[k]?=some l:=⟨ls[k]' 'a',ZE 'a'⟩;have C:=TL k r l hk hlk;have Vt:=hf l (YT hlk);rw[show af (r::rest)=.ref r::af rest from rfl,bH,ax];unfold eZ;simp! only[List.set,e3 r _ C];refine⟨rfl,?_⟩;have P:∀(S dn:Zr) (j n:Zy) (c:MH),l=dn++S->ae M c->c p=some (.lst (af ps))->bI c ps (gC ls k dn)->∀(N:DS->MH->Prop),
     (∀w5 w6 T,ae M T->T p=some (.lst (af ps))->bI T ps (gC ls k l)->N [~~~m,↑B,↑p,~~~k,↑r,w5,w6] T) ->
     ∀E:cE,E.nx=N ->
     ax (λM'=>M' r=some (.lst (l.map pairD))) (.tp [5,6]) (wSs cn eY) E (S.map pairD) [~~~m,↑B,↑p,~~~k,↑r,j,n] c:=by
    intro S;induction S with
    |nil=>
     intro dn j n c W t Y G N hN E hE;rw[ZA] at W;subst W;rw[YZ,ax,hE];exact hN j n c t Y G
    |cons x S Pu=>
     intro dn j n c W t Y G N hN E hE;obtain⟨b,gi⟩:=x;have hx:=Vt (b,gi) (by rw[W];simp);obtain⟨g,rfl⟩:∃g:Nat,gi=(g:Int):=⟨gi.toNat,by have:=hx.1;simp only at this;omega⟩;have Xd:g<ps.length:=by have:=hx.2;simp only at this;omega
     obtain⟨z,hz⟩:∃z,ps[g]?=some z:=⟨ps[g],ZE Xd⟩;have Vu:=YT hz;have QS:l=(dn++[(b,(g:Int))])++S:=by rw[W];simp
     rw[YL,show pairD (b,(g:Int))=.tup [⇑g,.bl b] from rfl,ax];unfold eY;cases b with
     |true=>
      simp! only[List.set,Bool.not_true];refine⟨rfl,t r _ C,Pu _ _ _ c QS t Y (λf O y=>?_) N hN E hE⟩;rw[G f O y];unfold gC;rw[xu]
     |false=>
      have Xe:c z=some (.dic (bJ (dA ls k g++(if bN dn g=true then[k] else[])))):=G g z hz;simp! only[List.set,Bool.not_false,Y,hU hz,Xe];have hsz:(2000:Nat)<sizeLine:=by decide
      have G_:=EK ls k g;refine⟨rfl,?_,?_⟩
      ·unfold bJ
       rw[ZG,ZM];have:(if bN dn g=true then[k] else[]).length<=1:=by split<;>simp
       omega
      have Z:=t.put (o:=.dic (putD (bJ (dA ls k g++(if bN dn g=true then[k] else[]))) (.inl (k:Int)) (.bl true))) (Mb z Vu).1;refine⟨Z r _ C,Pu _ _ _ _ QS Z ?_ (bI.put nd hz G ?_ ?_) N hN E hE⟩
      ·rw[aL (L9 z Vu).symm];exact Y
      ·exact(Cj ls k dn g).symm
      ·intro f Xf
       unfold gC;rw[wv dn Xf]
   refine P l [] j n a rfl e3 R V _ ?_ _ rfl;intro w5 w6 T Z g5 s5;refine⟨Z B _ J_,?_⟩;rw[show((k:Int)+1)=((k+1:Nat):Int) by simp];refine ih (k+1) _ _ _ _ T Nb Px Z g5 λf O y=>?_
   rw[s5 f O y];unfold gC;rw[Ah f hlk,if_neg (show ¬bN [] f=true by unfold bN;simp),ZA]
 exact outer rs 0 none none none none M2 rfl (YM _) e2 g2 s2
end
abbrev Row:=Nat×List CT
abbrev Zx:=List Row
structure fE (m:Nat) (a_:Zx):Prop where
 most:m<=120
 few:a_.length<=400
 fit:∀x∈a_,x.1<m/\x.2.length<=6/\∀t∈x.2,t.fit (m:Int)
def cV(x:Row):List (Bool×Int):=x.2.flatMap CT.leanP
def aU(a_:Zx):List Nat:=a_.map (·.1)
def aY(u_:Zs):List D:=u_.map λrs=>.tup (af rs)
def hid(a:Addr)(M:MH):MH:=λb=>if b=a then none else M b
theorem jp(a:Addr)(M:MH)(o:MO):hid a (ab M a o)=hid a M:=by
 funext b;unfold hid ab;split<;>rfl
theorem ww{a b:Addr}{M:MH}(h:b≠a):hid a M b=M b:=if_neg h
theorem b0{a:Addr}{M M':MH}(e:ae M M'):ae (hid a M) (hid a M'):=λb o q=>by
 unfold hid at q ⊢;split at q
 ·cases q
 ·rename_i n
  rw[if_neg n];exact e b o q
theorem jW(a:Addr)(M:MH):ae (hid a M) M:=λb o q=>by
 unfold hid at q;split at q
 ·cases q
 ·exact q
theorem gm{a b S:Addr}{M:MH}{fs:List (Str×D)}{xs:List D}(ha:M a=some (.ins S fs))(hb:M b=some (.lst xs)):hid a M b=some (.lst xs):=by
 rw[ww]
 ·exact hb
 ·intro z;subst z;rw[ha] at hb;cases hb
theorem G9{a b S:Addr}{M M':MH}{fs:List (Str×D)}{o:MO}(ha:M a=some (.ins S fs))(hb:M b=none)(h:M' b=some o):hid a M' b=some o:=by
 rw[ww]
 ·exact h
 ·intro z;subst z;rw[ha] at hb;cases hb
def bO(M:MH)(a:List D)(a_:Zx):Prop:=Paired (λd (x:Row)=>∃q,d=.tup [⇑x.1,.ref q]/\M q=some (.lst (x.2.map CT.told))) a a_
theorem bO.ext{M M':MH}{c:List D}{a_:Zx}(e:ae M M')(h:bO M c a_):bO M' c a_:=iE (λ_ _ ⟨q,a,b⟩=>⟨q,a,e q _ b⟩) h
theorem bO.hid{a S:Addr}{M:MH}{fs:List (Str×D)}{c:List D}{a_:Zx}(ha:M a=some (.ins S fs))(h:bO M c a_):bO (SH.hid a M) c a_:=iE (λ_ _ ⟨q,a,b⟩=>⟨q,a,gm ha b⟩) h
def dR(c:CA)(M:MH)(u_:Zs)(a_:Zx):Prop:=Paired (λrs (x:Row)=>cM c M rs x.2) u_ a_
theorem dR.ext{c:CA}{M M':MH}{u_:Zs}{a_:Zx}(e:ae M M')(h:dR c M u_ a_):dR c M' u_ a_:=iE (λ_ _ q=>cM.ext e q) h
def jX(m:Nat)(a_:Zx)(u_:Zs)(p1 p2 p3:Addr):List (Str×D):=[("many",⇑m),("heads",.tup (nats (aU a_))),("conds",.tup (aY u_)),("headed",.ref p1),("leanings",.ref p2),("helped",.ref p3)]
def pA(M:MH)(ps:Zh)(a_:Zx):Prop:=ps.length=a_.length/\∀(k:Nat) (r:Addr) (x:Row),ps[k]?=some r->a_[k]?=some x->M r=some (.lst ((cV x).map pairD))
structure gn (c:CA) (S:Addr) (M:MH) (a:Addr) (m:Nat) (a_:Zx):Prop where
 ok:fE m a_
 ex:∃(u_:Zs) (p1 p2 p3:Addr) (MP MG NJ:Zh),M a=some (.ins S (jX m a_ u_ p1 p2 p3))/\dR c M u_ a_ /\
  (M p1=some (.lst (af MP))/\MP.length=m/\bI M MP (λf=>.lst (nats (d9 (aU a_) a_.length f)))) /\
  (M p2=some (.lst (af MG))/\pA M MG a_) /\
  (M p3=some (.lst (af NJ))/\NJ.length=m/\bI M NJ (λf=>.lst (nats (dA (a_.map cV) a_.length f))))
theorem gn.ext{c:CA}{S:Addr}{M M':MH}{a:Addr}{m:Nat}{a_:Zx}(e:ae M M')(h:gn c S M a m a_):gn c S M' a m a_:=by
 obtain⟨ok,u_,p1,p2,p3,MP,MG,NJ,h1,f,⟨g,j,l⟩,⟨n,b⟩,p,t,u⟩:=h;exact⟨ok,u_,p1,p2,p3,MP,MG,NJ,e _ _ h1,f.ext e,⟨e _ _ g,j,l.ext e⟩,⟨e _ _ n,b.1,λk r x y z=>e _ _ (b.2 k r x y z)⟩,e _ _ p,t,u.ext e⟩
def lR:List Str:=["many","heads","conds","headed","leanings","helped"]
def iw(c:CA)(S:Addr):aK:=λds M Q=>∃(a:Addr) (m:Nat) (b:Addr) (f:List D) (a_:Zx),ds=[.ref a,⇑m,.ref b]/\M a=some (.ins S [])/\M b=some (.lst f)/\bO M f a_/\fE m a_ /\
 ∀M',ExtBut a M M'->gn c S M' a m a_->Q .non M'
def iK(c:CA)(S:Addr):aK:=λds M Q=>∃(a:Addr) (m:Nat) (a_:Zx),ds=[.ref a]/\gn c S M a m a_/\Q (⇑m) M
def fh:Ss:=#v[.ret (.fld (.var 0) "many")]
section
variable {m:Nat}{a_:Zx}{u_:Zs}{p1 p2 p3:Addr}
theorem Ha:(jX m a_ u_ p1 p2 p3).lookup ("many" : Str)= ~~~m:=rfl
theorem EN:(jX m a_ u_ p1 p2 p3).lookup ("heads" : Str)=some (.tup (nats (aU a_))):=rfl
theorem EO:(jX m a_ u_ p1 p2 p3).lookup ("conds" : Str)=some (.tup (aY u_)):=rfl
theorem Ck:(jX m a_ u_ p1 p2 p3).lookup ("headed" : Str)=↑p1:=rfl
end
section
variable {cn:Cn}{c:CA}{S:Addr}{ds:List D}{M:MH}{Q:DK}
theorem xw(b:∀f∈lR,cn.O S f)(h:iK c S ds M Q):wSs cn fh (fin Q) (aw [""] ds) M:=by
 obtain⟨a,m,a_,rfl,⟨ok,u_,p1,p2,p3,MP,MG,NJ,h1,-⟩,q⟩:=h;show wSs cn fh (fin Q) [↑a] M;unfold fh;simp! only[h1,Ha];exact⟨b _ (by rfl'),q⟩
end
def kK:Ss:=#v[.setF (.var 0) "helped" (.fn 0 #v[.var 1,.fld (.var 0) "leanings"])]
def kL:Ss:=.cons (.setF (.var 0) "leanings" (.comp 1 (.fn 1 #v[.var 5]) (.nm 5) (.seq (.fld (.var 0) "conds")) .no)) kK
def kM:Ss:=.cons (.setF (.var 0) "headed" (.fn 2 #v[.var 1,.fld (.var 0) "heads"])) kL
def kN:Ss:=.cons (.setF (.var 0) "conds" (.bi .tuple #v[.comp 1 (.bi .tuple #v[.comp 1 (.fn 3 #v[.var 6]) (.nm 6) (.seq (.ix (.var 5) (.int 1))) .no]) (.nm 5) (.seq (.var 2)) .no])) kM
def kO:Ss:=.cons (.setF (.var 0) "heads" (.bi .tuple #v[.comp 1 (.ix (.var 5) (.int 0)) (.nm 5) (.seq (.var 2)) .no])) kN
def dB:Ss:=.cons (.setF (.var 0) "many" (.var 1)) kO
def dC:Ss:=#v[.ite (.not (.val (.fn 4 #v[.var 4,.var 1]))) #v[.never] .nil]
def kP:Ss:=.cons (.for (.tp [3,4]) (.enum #v[.var 2]) dC) dB
def iY(j l:Nat):Ss:=.cons (.ite (.or (.not (.val (.fn 5 #v[.var 1,.bin .Add (.glob j) (.int 1)]))) (.or (.not (.val (.bi .isinst #v[.var 2,.ty "list"]))) (.cmp .Gt (.bi .len #v[.var 2]) (.glob l)))) #v[.never] .nil) kP
abbrev yz(x:D):List (Str×D):=[("many",x)]
abbrev wx(x y:D):List (Str×D):=[("many",x),("heads",y)]
abbrev wy(x y z:D):List (Str×D):=[("many",x),("heads",y),("conds",z)]
abbrev wz(x y z u:D):List (Str×D):=[("many",x),("heads",y),("conds",z),("headed",u)]
abbrev wA(x y z u v:D):List (Str×D):=[("many",x),("heads",y),("conds",z),("headed",u),("leanings",v)]
abbrev JF(x y z u v w:D):List (Str×D):=[("many",x),("heads",y),("conds",z),("headed",u),("leanings",v),("helped",w)]
theorem LN(x:D):fJ ("many" : Str) x []=yz x:=rfl
theorem LO(x y:D):fJ ("heads" : Str) y (yz x)=wx x y:=rfl
theorem LP(x y z:D):fJ ("conds" : Str) z (wx x y)=wy x y z:=rfl
theorem LQ(x y z u:D):fJ ("headed" : Str) u (wy x y z)=wz x y z u:=rfl
theorem LR(x y z u v:D):fJ ("leanings" : Str) v (wz x y z u)=wA x y z u v:=rfl
theorem LS(x y z u v w:D):fJ ("helped" : Str) w (wA x y z u v)=JF x y z u v w:=rfl
theorem LT(x y z:D):List.lookup ("heads" : Str) (wy x y z)=some y:=rfl
theorem LU(x y z u:D):List.lookup ("conds" : Str) (wz x y z u)=some z:=rfl
theorem LV(x y z u v:D):List.lookup ("leanings" : Str) (wA x y z u v)=some v:=rfl
theorem EQ{M:MH}{a:List D}{a_:Zx}(h:bO M a a_):([]++a.map λd=>match d with | .tup (h::_)=>h | _=>.non)=nats (aU a_):=by
 rw[XE];induction h with
 |nil=>rfl
 |@cons d x ds rs hd _ b=>
  obtain⟨c,rfl,-⟩:=hd;rw[YL,b];rfl
section
variable {cn:Cn}{c:CA}{S:Addr}
theorem uf{g:MH->Prop}{tc:WT}{te:WE}{F:List D->MH->Prop}{a:Addr}{fs:List (Str×D)}{σ0:DS}{i:Nat}{M0:MH}(hc:∀σ M Q,Q true M->tc σ M Q)(hg:∀M,ae M0 M->g M)
  (b:∀(t:CT) (M:MH) (Q:DK),(∀p M',M p=none->ae M M'->M' p=some (t.obj c)->Q (.ref p) M')->te (σ0.set i (some (CT.told t))) M Q) (f:∀v w:Option D,(σ0.set i v).set i w=σ0.set i w) (j:M0 a=some (.ins S fs)):
  ∀(ts:List CT) (dn:List CT) (rs:Zh) (v:Zy) (M:MH),ae M0 M->cM c (hid a M) rs dn->(∀l M',ae M0 M'->cM c (hid a M') l (dn++ts)->F (af l) M')->aq g (.nm i) tc te F (ts.map CT.told) (af rs) (σ0.set i v) M
 |[],dn,rs,v,M,e,h,q=>by
  rw[ZA] at q;exact q rs M e h
 |t::ts,dn,rs,v,M,e,h,q=>by
  rw[YL,aq];show tc _ M _;refine hc _ _ _ ?_;rw[bg,f];refine b t M _ λp M' hp e' m=>⟨hg _ (e.trans e'),?_⟩
  have:af rs++[D.ref p]=af (rs++[p]):=by unfold af;rw[ZN];rfl
  rw[this];refine uf hc hg b f j ts (dn++[t]) (rs++[p]) _ M' (e.trans e') ?_ (by simpa using q);exact bA (h.ext (b0 e')) (.cons (G9 (e a _ j) hp m) .nil)
variable {ds:List D}{M:MH}{Q:DK}{j l:Nat}
theorem uF(Z:∀f∈lR,cn.O S f)(f0:cn.F.getD 0 (λ_ _ _=>False)=gB)(f1:cn.F.getD 1 (λ_ _ _=>False)=dk c)(f2:cn.F.getD 2 (λ_ _ _=>False)=gz)(f3:cn.F.getD 3 (λ_ _ _=>False)=sy c)(f4:cn.F.getD 4 (λ_ _ _=>False)=pv)(f5:cn.F.getD 5 (λ_ _ _=>False)=dq)
  (gj:cn.G.getD j .non=.int 120) (gl:cn.G.getD l .non=.int 400) (h:iw c S ds M Q):wSs cn (iY j l) (fin Q) (aw ["","","","",""] ds) M:=by
 obtain⟨a,m,P,L3,a_,rfl,ha,Nz,hR,ok,q⟩:=h;show wSs cn (iY j l) (fin Q) [↑a,~~~m,↑P,none,none] M;have al:=ok.most;have ap:=ok.few;have N':L3.length=a_.length:=iD hR;unfold iY;simp_all! only[List.set,iI,Nz,f5,gj,gl];refine⟨(m:Int),120+1,rfl,?_⟩;have h1:decide (0<=(m:Int))=true:=YV 'a';have h2:decide ((m:Int)<120+1)=true:=YV 'a';simp only[h1,h2,Bool.and_self,Bool.not_true,aI,bg];refine⟨by decide,?_⟩;simp only[Nz,jU,Bool.not_true,aI];have b2:decide ((400:Int)<(L3.length:Int))=false:=ZR 'a';simp only[b2,aI];unfold kP;simp_all! only[List.set,Nz];have rest:∀(B C:Zy) (M1:MH),ae M M1->wSs cn dB (fin Q) [↑a,~~~m,↑P,B,C] M1:=by
  intro B C M1 e1;have QO:=e1 _ _ ha;have R1:bO (hid a M1) L3 a_:=(hR.ext e1).hid QO;have OK:hid a M1 P=some (.lst L3):=gm QO (e1 _ _ Nz);have x1:ae (hid a M) (hid a M1):=b0 e1;unfold dB;simp_all! only[List.set,QO,LN];refine⟨⟨Z _ (by rfl'),by decide⟩,?_⟩;have TF:ab M1 a (MO.ins S (yz (⇑m))) a=some (.ins S (yz (⇑m))):=aa;have n:=jp a M1 (MO.ins S (yz (⇑m)));generalize ab M1 a (MO.ins S (yz (⇑m)))=M2 at *;rw[←n] at R1 OK x1;clear n QO e1;clear M1;have Pz:=jW a M2 _ _ OK
  -- Od
  unfold kO;simp_all! only[List.set,List.cons_append,XE,List.replicate,Pz];refine cA (f:=λd=>match d with | .tup (h::_)=>h | _=>.non) (ok:=λσ=>∃v,σ=[↑a,~~~m,↑P,B,C,v]) [] _ ⟨none,rfl⟩ ?_ ?_
  ·intro d hd σ f_ Py ⟨v,hv⟩ k
   subst hv;obtain⟨i,hi⟩:=XV hd;obtain⟨x,-,J,rfl,-⟩:=cO R1 hi;rw[aq];simp_all! only[List.set,bM];exact⟨Pz,k _ ⟨_,rfl⟩⟩
  intro p hp;have Od:=EQ R1;rw[Od];have e3:=ae.new (o:=MO.lst (nats (aU a_))) hp;have g3:ab M2 p (MO.lst (nats (aU a_))) p=some (.lst (nats (aU a_))):=aa;generalize ab M2 p (MO.lst (nats (aU a_)))=M3 at *;have Vv:=e3 _ _ TF;simp only[g3,cx,Vv,LO];refine⟨⟨Z _ (by rfl'),(by decide:(1:Nat)<1000)⟩,?_⟩;have x3:ae (hid a M) (hid a M3):=x1.trans (b0 e3);have R3:=R1.ext (b0 (a:=a) e3);have PB:=b0 (a:=a) e3 _ _ OK;clear R1 OK x1 TF e3 g3 Pz hp Od;clear M2;have TQ:ab M3 a (MO.ins S (wx (⇑m) (.tup (nats (aU a_))))) a=some (.ins S (wx (⇑m) (.tup (nats (aU a_))))):=aa;have n:=jp a M3 (MO.ins S (wx (⇑m) (.tup (nats (aU a_)))));generalize ab M3 a (MO.ins S (wx (⇑m) (.tup (nats (aU a_)))))=M4 at *;rw[←n] at R3 PB x3;clear n Vv;clear M3;have PC:=jW a M4 _ _ PB
  -- Oe
  unfold kN;simp_all! only[List.set,List.cons_append,XE,List.replicate,PC];have hm:∀(x:Row) (J:Addr) (g:MH) (K:DK),g a=some (.ins S (wx (⇑m) (.tup (nats (aU a_)))))->g J=some (.lst (x.2.map CT.told))->(∀rs u,ae g u->cM c (hid a u) rs x.2->K (.tup (af rs)) u) ->
    wE cn (.bi .tuple (.cons (.comp 1 (.fn 3 (.cons (.var 6) .nil)) (.nm 6) (.seq (.ix (.var 5) (.int 1))) .no) .nil)) [↑a,~~~m,↑P,B,C,some (.tup [⇑x.1,.ref J])] g K:=by
   intro x J g K Xg NA k;simp_all! only[List.set,List.cons_append,XE,List.replicate,ci,NA,f3];refine uf (c:=c) (S:=S) (a:=a) (M0:=g) (i:=6) (σ0:=[↑a,~~~m,↑P,B,C,some (.tup [⇑x.1,.ref J]),none]) (λ_ _ _ h=>h) (λu T=>T _ _ NA) ?_ (λ_ _=>rfl) Xg x.2 [] [] none g (ae.refl g) .nil ?_
   ·intro t u K2 k2
    exact⟨t,rfl,k2⟩
   ·intro rs u T TR p hp
    rw[aa];exact k rs _ (T.then hp) (TR.ext (b0 (ae.new hp)))
  have Oe:∀(F:List D->MH->Prop) (xs:List D) (L dn:Zx) (u_:Zs) (v:Zy) (g:MH),bO (hid a M4) xs L->ae M4 g->dR c (hid a g) u_ dn->(∀QU u,ae M4 u->dR c (hid a u) QU (dn++L)->F (aY QU) u) ->
    aq (λM'=>M' P=some (.lst L3)) (.nm 5) (kE cn .no) (wE cn (.bi .tuple (.cons (.comp 1 (.fn 3 (.cons (.var 6) .nil)) (.nm 6) (.seq (.ix (.var 5) (.int 1))) .no) .nil))) F xs (aY u_) [↑a,~~~m,↑P,B,C,v] g:=by
   intro F xs L dn u_ v g hp;induction hp generalizing dn u_ v g with
   |nil=>
    intro W h5 k;rw[aq];rw[ZA] at k;exact k u_ g W h5
   |@cons d x xs L hd _ ih=>
    intro W h5 k;obtain⟨J,rfl,NA⟩:=hd;rw[aq];refine hm x J g _ (W _ _ TQ) (W _ _ (jW a M4 _ _ NA)) λrs u T TR=>⟨(W.trans T) _ _ PC,?_⟩
    have:aY u_++[D.tup (af rs)]=aY (u_++[rs]):=by unfold aY;rw[ZN];rfl
    rw[this];refine ih (dn++[x]) (u_++[rs]) _ u (W.trans T) (bA (h5.ext (b0 T)) (.cons TR .nil)) (by simpa using k)
  refine Oe _ L3 a_ [] [] none M4 R3 (ae.refl M4) .nil ?_;clear Oe hm;intro u_ g W TU p hp;rw[XE] at TU;have T:=ae.new (o:=MO.lst (aY u_)) hp;have g6:ab g p (MO.lst (aY u_)) p=some (.lst (aY u_)):=aa;generalize ab g p (MO.lst (aY u_))=u at *;have Vw:=(W.trans T) _ _ TQ;simp only[g6,cx,Vw,LP];refine⟨⟨Z _ (by rfl'),(by decide:(2:Nat)<1000)⟩,?_⟩;have x6:ae (hid a M) (hid a u):=x3.trans (b0 (W.trans T));have C6:=TU.ext (b0 (a:=a) T);clear R3 PB x3 TQ W TU hp T g6 PC;clear M4 g;have TV:ab u a (MO.ins S (wy (⇑m) (.tup (nats (aU a_))) (.tup (aY u_)))) a=some (.ins S (wy (⇑m) (.tup (nats (aU a_))) (.tup (aY u_)))):=aa;have n:=jp a u (MO.ins S (wy (⇑m) (.tup (nats (aU a_))) (.tup (aY u_))));generalize ab u a (MO.ins S (wy (⇑m) (.tup (nats (aU a_))) (.tup (aY u_))))=M7 at *;rw[←n] at C6 x6;clear n Vw;clear u
  -- headed
  unfold kM;simp_all! only[List.set,TV,LT,f2];have Xh:(aU a_).length=a_.length:=by unfold aU;rw[ZG]
  refine⟨Z _ (by rfl'),m,aU a_,rfl,by omega,by omega,?_,?_⟩
  ·intro h n
   obtain⟨x,hx,rfl⟩:=List.mem_map.1 n;exact(ok.fit x hx).1
  intro p1 MP M8 OH e8 g8 l8 s8;rw[Xh] at s8;have RJ:=e8 _ _ TV;simp only[RJ,LQ];refine⟨⟨Z _ (by rfl'),(by decide:(3:Nat)<1000)⟩,?_⟩;have x8:ae (hid a M) (hid a M8):=x6.trans (b0 e8);have C8:=C6.ext (b0 (a:=a) e8);have G8:hid a M8 p1=some (.lst (af MP)):=gm RJ g8;have S8:bI (hid a M8) MP (λf=>.lst (nats (d9 (aU a_) a_.length f))):=λf r z=>gm RJ (s8 f r z)
  clear C6 x6 TV OH e8 g8 s8;clear M7;have TX:ab M8 a (MO.ins S (wz (⇑m) (.tup (nats (aU a_))) (.tup (aY u_)) (.ref p1))) a=some (.ins S (wz (⇑m) (.tup (nats (aU a_))) (.tup (aY u_)) (.ref p1))):=aa;have n:=jp a M8 (MO.ins S (wz (⇑m) (.tup (nats (aU a_))) (.tup (aY u_)) (.ref p1)));generalize ab M8 a (MO.ins S (wz (⇑m) (.tup (nats (aU a_))) (.tup (aY u_)) (.ref p1)))=M9 at *;rw[←n] at C8 x8 G8 S8;clear n RJ;clear M8
  -- leanings
  unfold kL;simp_all! only[List.set,List.cons_append,XE,List.replicate,TX,LU];refine⟨Z _ (by rfl'),?_⟩;have ac:∀(F:List D->MH->Prop) (cs:Zs) (L dn:Zx) (ps:Zh) (v:Zy) (U:MH),dR c (hid a M9) cs L->(∀x∈L,x.1<m/\x.2.length<=6/\∀t∈x.2,t.fit (m:Int))->ae M9 U->pA U ps dn->(∀OI R,ae M9 R->pA R OI (dn++L)->F (af OI) R) ->
    aq (λ_=>True) (.nm 5) (kE cn .no) (wE cn (.fn 1 (.cons (.var 5) .nil))) F (aY cs) (af ps) [↑a,~~~m,↑P,B,C,v] U:=by
   intro F cs L dn ps v U hp;induction hp generalizing dn ps v U with
   |nil=>
    intro _ V OJ k;rw[show aY []=[] from rfl,aq];rw[ZA] at k;exact k ps U V OJ
   |@cons rs x cs L hd _ ih=>
    intro hf V OJ k;obtain⟨TY,QV,QW⟩:=hf x (.head _);rw[show aY (rs::cs)=.tup (af rs)::aY cs from rfl,aq];have go:dk c [.tup (af rs)] U (λy M2=>True/\aq (λ_=>True) (.nm 5) (kE cn .no) (wE cn (.fn 1 (.cons (.var 5) .nil))) F (aY cs) (af ps++[y]) [↑a,~~~m,↑P,B,C,some (.tup (af rs))] M2):=by
     refine⟨rs,x.2,rfl,(hd.ext (jW a M9)).ext V,λt ht=>CT.fit_ok 'a' (QW t ht),QV,λp R hp Y PD=>⟨trivial,?_⟩⟩;have:af ps++[D.ref p]=af (ps++[p]):=by unfold af;rw[ZN];rfl
     rw[this];refine ih (dn++[x]) (ps++[p]) _ R (λy hy=>hf y (.tail _ hy)) (V.trans Y) ⟨by rw[ZM,ZM,OJ.1];rfl,λk r y z hy=>?_⟩ (by simpa using k);by_cases hk:k<ps.length
     ·rw[ZF hk] at z
      rw[ZF (by rw[←OJ.1];exact hk)] at hy;exact Y _ _ (OJ.2 k r y z hy)
     ·rw[ZI 'a'] at z
      rw[ZI (by rw[←OJ.1];omega),←OJ.1] at hy;have hz:k-ps.length=0:=by
       have:=(YD.mp z).1
       simp only[YJ,YU] at this;omega
      rw[hz,List.getElem?_cons_zero] at z hy;cases z;cases hy;rw[PD,Ag];rfl
    rw[←f1] at go;exact go
  refine ac _ u_ a_ [] [] none M9 C8 ok.fit (ae.refl M9) ⟨rfl,λk r x z=>by simp at z⟩ ?_;clear ac;intro MG U V PF p2 G';rw[XE] at PF;have Y:=ae.new (o:=MO.lst (af MG)) G';have PD:ab U p2 (MO.lst (af MG)) p2=some (.lst (af MG)):=aa;generalize ab U p2 (MO.lst (af MG))=R at *;have OL:=(V.trans Y) _ _ TX;simp only[OL,LR];refine⟨⟨Z _ (by rfl'),(by decide:(4:Nat)<1000)⟩,?_⟩;have Vx:ae (hid a M) (hid a R):=x8.trans (b0 (V.trans Y));have Vy:=C8.ext (b0 (a:=a) (V.trans Y));have Vz:=b0 (a:=a) (V.trans Y) _ _ G8;have QX:=S8.ext (b0 (a:=a) (V.trans Y));have TZ:hid a R p2=some (.lst (af MG)):=gm OL PD;have QY:pA (hid a R) MG a_:=⟨PF.1,λk r x z hx=>gm OL (Y _ _ (PF.2 k r x z hx))⟩;clear C8 x8 TX G' V PF Y PD G8 S8;clear M9 U;have QZ:ab R a (MO.ins S (wA (⇑m) (.tup (nats (aU a_))) (.tup (aY u_)) (.ref p1) (.ref p2))) a=some (.ins S (wA (⇑m) (.tup (nats (aU a_))) (.tup (aY u_)) (.ref p1) (.ref p2))):=aa;have n:=jp a R (MO.ins S (wA (⇑m) (.tup (nats (aU a_))) (.tup (aY u_)) (.ref p1) (.ref p2)));generalize ab R a (MO.ins S (wA (⇑m) (.tup (nats (aU a_))) (.tup (aY u_)) (.ref p1) (.ref p2)))=T1 at *;rw[←n] at Vy Vx Vz QX TZ QY;clear n OL;clear R
  -- helped
  unfold kK;simp_all! only[List.set,QZ,LV,f0];refine⟨Z _ (by rfl'),m,p2,MG,a_.map cV,rfl,jW a T1 _ _ TZ,by rw[ZG];exact QY.1,?_,by omega,by rw[ZG];omega,?_,?_⟩
  ·intro k r l z hl
   rw[ZH] at hl;obtain⟨x,hx,rfl⟩:=Option.map_eq_some_iff.1 hl;exact jW a T1 _ _ (QY.2 k r x z hx)
  ·intro l hl x hx
   obtain⟨y,hy,rfl⟩:=List.mem_map.1 hl;obtain⟨t,ht,Xi⟩:=List.mem_flatMap.1 hx;exact gg ((ok.fit y hy).2.2 t ht) x Xi
  intro p3 NJ Q1 NI Qa RK Xj VA;rw[ZG] at VA;have PH:=Qa _ _ QZ;simp only[PH,LS];refine⟨⟨Z _ (by rfl'),(by decide:(5:Nat)<1000)⟩,?_⟩;have n:=jp a Q1 (MO.ins S (JF (⇑m) (.tup (nats (aU a_))) (.tup (aY u_)) (.ref p1) (.ref p2) (.ref p3)));have he:=b0 (a:=a) Qa;have hl:=jW a (ab Q1 a (MO.ins S (JF (⇑m) (.tup (nats (aU a_))) (.tup (aY u_)) (.ref p1) (.ref p2) (.ref p3))));rw[n] at hl;have ee:=he.trans hl;refine q _ ?_ ⟨ok,u_,p1,p2,p3,MP,MG,NJ,aa,Vy.ext ee,⟨ee _ _ Vz,l8,QX.ext ee⟩,⟨ee _ _ TZ,QY.1,λk r x z hx=>ee _ _ (QY.2 k r x z hx)⟩,hl _ _ (gm PH RK),Xj,λf r z=>hl _ _ (gm PH (VA f r z))⟩;intro b o hb Xk;refine ee b o (Vx b o ?_);rw[ww hb];exact Xk
 have step:∀(E:cE) (v0 v2:Zy) (B C:Zy) (M1:MH) (x:Row) (J:Addr),(x.1<m/\x.2.length<=6/\∀t∈x.2,t.fit (m:Int))->M1 J=some (.lst (x.2.map CT.told))->(∀M2,ae M1 M2->E.nx [v0,~~~m,v2,B,some (.tup [⇑x.1,.ref J])] M2) ->
   wSs cn dC E [v0,~~~m,v2,B,some (.tup [⇑x.1,.ref J])] M1:=by
  intro E v0 v2 B C M1 x J ⟨TY,QV,QW⟩ hq k;unfold dC;simp_all! only[List.set,f4];exact⟨(x.1:Int),(m:Int),J,x.2,rfl,hq,⟨by omega,by omega⟩,QV,QW,λM2 e2=>k M2 e2⟩
 have ah:∀(xs:List D) (L:Zx) (k:Int) (B C:Zy) (M1:MH),bO M xs L->(∀x∈L,x.1<m/\x.2.length<=6/\∀t∈x.2,t.fit (m:Int))->ae M M1 ->
   ax (λM'=>M' P=some (.lst L3)) (.tp [3,4]) (wSs cn dC) { nx:=wSs cn dB (fin Q),rt:=Q } (bH k xs) [↑a,~~~m,↑P,B,C] M1:=by
  intro xs L k B C M1 hp;induction hp generalizing k B C M1 with
  |nil=>
   intro _ e1;rw[bH,ax];exact rest B C M1 e1
  |@cons d x xs L hd _ ih=>
   intro hf e1;obtain⟨J,rfl,NA⟩:=hd;obtain⟨TY,QV,QW⟩:=hf x (.head _);rw[bH,ax];refine⟨rfl,step _ _ _ _ none M1 x J ⟨TY,QV,QW⟩ (e1 _ _ NA) λM2 e2=>?_⟩;exact⟨(e1.trans e2) P _ Nz,ih _ _ _ M2 (λy hy=>hf y (.tail _ hy)) (e1.trans e2)⟩
 exact ah L3 a_ 0 none none M hR ok.fit (ae.refl M)
end
end SH
namespace SG
open PySem L2 DD
section
variable {E:Nat->Nat->Prop}{f g h j k m:Nat}
inductive cQ (E:Nat->Nat->Prop):Nat->Nat->Prop where
 |refl (f:Nat):cQ E f f
 |step {f g h:Nat}:E f g->cQ E g h->cQ E f h
theorem cQ.trans(a:cQ E f g)(b:cQ E g h):cQ E f h:=by
 induction a with
 |refl f=>exact b
 |step e _ c=>exact .step e (c b)
theorem cQ.one(e:E f g):cQ E f g:=.step e (.refl g)
theorem cQ.lt(b:∀f g,E f g->g<m)(a:cQ E f g)(hf:f<m):g<m:=by
 induction a with
 |refl f=>exact hf
 |step e _ c=>exact c (b _ _ e)
def Wr(E:Nat->Nat->Prop):Nat->Nat->Nat->Prop
 |0,f,g=>f=g\/E f g
 |k+1,f,g=>Wr E k f g\/(Wr E k f k/\Wr E k k g)
theorem Wr.up(a:Wr E 0 f g):∀k,Wr E k f g
 |0=>a
 |k+1=>.inl (Wr.up a k)
theorem Wr.mid:∀(k:Nat){f g j:Nat},j<k->Wr E k f j->Wr E k j g->Wr E k f g
 |0,_,_,_,h,_,_=>absurd h (Nat.not_lt_zero _)
 |k+1,f,g,j,h,a,b=>by
  rcases Nat.lt_succ_iff_lt_or_eq.1 h with h | rfl
  ·rcases a with a | ⟨a1,a2⟩
   ·rcases b with b | ⟨b1,b2⟩
    ·exact .inl (Wr.mid k h a b)
    ·exact .inr ⟨Wr.mid k h a b1,b2⟩
   ·rcases b with b | ⟨b1,b2⟩
    ·exact .inr ⟨a1,Wr.mid k h a2 b⟩
    ·exact .inr ⟨a1,b2⟩
  ·have a':Wr E j f j:=by rcases a with a | a;exact a;exact a.1
   have b':Wr E j j g:=by rcases b with b | b;exact b;exact b.2
   exact .inr ⟨a',b'⟩
theorem Wr.rch:∀(k:Nat){f g:Nat},Wr E k f g->cQ E f g
 |0,f,g,a=>by
  rcases a with rfl | e
  ·exact .refl f
  ·exact .one e
 |k+1,f,g,a=>by
  rcases a with a | ⟨a,b⟩
  ·exact Wr.rch k a
  ·exact(Wr.rch k a).trans (Wr.rch k b)
theorem cQ.wr(b:∀f g,E f g->g<m)(a:cQ E f g):Wr E m f g:=by
 induction a with
 |refl f=>exact Wr.up (.inl rfl) m
 |step e _ c=>exact Wr.mid m (b _ _ e) (Wr.up (.inr e) m) c
theorem JG(a:∀f g,E f g->g<m):Wr E m f g↔cQ E f g:=⟨Wr.rch m,cQ.wr a⟩
end
def wB(rs:Zj)(k:Nat):List Nat:=rs.map λx=>if x.testBit k=true then x|||rs.getD k 0 else x
def br(ls:Zj):Nat->List Nat
 |0=>ls.mapIdx λf x=>x|||1<<<f
 |k+1=>wB (br ls k) k
def cy(ls:Zj)(f g:Nat):Prop:=(ls.getD f 0).testBit g=true
theorem fT(ls:Zj):∀k,(br ls k).length=ls.length
 |0=>by simp[br]
 |k+1=>by rw[br,wB,ZG,fT ls k]
theorem wC(ls:Zj):∀(k:Nat),k<=ls.length->∀(f g:Nat),f<ls.length->(((br ls k).getD f 0).testBit g=true↔Wr (cy ls) k f g)
 |0,_,f,g,hf=>by
  have e:(br ls 0).getD f 0=ls.getD f 0|||1<<<f:=by
   simp[br,List.getD_eq_getElem?_getD,ZE hf]
  rw[e,Nat.testBit_or,Bool.or_eq_true,Nat.one_shiftLeft,Nat.testBit_two_pow];show _↔f=g\/(ls.getD f 0).testBit g=true;simp only[XT];exact Or.comm
 |k+1,hk,f,g,hf=>by
  have a:=λf g hf=>wC ls k 'a' f g hf
  have e:(br ls (k+1)).getD f 0=if((br ls k).getD f 0).testBit k=true then(br ls k).getD f 0|||(br ls k).getD k 0 else(br ls k).getD f 0:=by
   have hl:f<(br ls k).length:=by rw[fT];exact hf
   simp only[br,wB,List.getD_eq_getElem?_getD,ZH,ZE hl,Option.map_some,Option.getD_some]
  rw[e];show _↔Wr (cy ls) k f g\/(Wr (cy ls) k f k/\Wr (cy ls) k k g);rw[←a f g hf,←a f k hf,←a k g 'a'];split
  ·rename_i hb
   rw[Nat.testBit_or,Bool.or_eq_true];exact⟨λh=>h.imp id λz=>⟨hb,z⟩,λh=>h.imp id λz=>z.2⟩
  ·rename_i hb
   exact⟨.inl,λh=>h.elim id λz=>absurd z.1 hb⟩
theorem Cl{ls:Zj}(a:∀f g,cy ls f g->g<ls.length){f g:Nat}(hf:f<ls.length):((br ls ls.length).getD f 0).testBit g=true↔cQ (cy ls) f g:=by
 rw[wC ls ls.length (YG _) f g hf,JG a]
end SG
namespace SH
open PySem L2 DD
def Sub(a b:Nat):Prop:=∀f,a.testBit f=true->b.testBit f=true
theorem sG:∀{l m:Zj},l.Pairwise (· < ·)->m.Pairwise (· < ·)->(∀x,x∈l↔x∈m)->l=m
 |[],[],_,_,_=>rfl
 |[],b::m,_,_,h=>absurd ((h b).2 (.head _)) (by simp)
 |a::l,[],_,_,h=>absurd ((h a).1 (.head _)) (by simp)
 |a::l,b::m,hl,hm,h=>by
  rw[List.pairwise_cons] at hl hm;have e:a=b:=by
   rcases YB.1 ((h a).1 (.head _)) with e | e
   ·exact e
   ·rcases YB.1 ((h b).2 (.head _)) with e' | e'
    ·exact e'.symm
    ·have:=hl.1 b e';have:=hm.1 a e;omega
  subst e;rw[sG hl.2 hm.2 λx=>?_];constructor
  ·intro hx
   rcases YB.1 ((h x).1 (.tail _ hx)) with e | e
   ·subst e;exact absurd (hl.1 x hx) (ZU _)
   ·exact e
  ·intro hx
   rcases YB.1 ((h x).2 (.tail _ hx)) with e | e
   ·subst e;exact absurd (hm.1 x hx) (ZU _)
   ·exact e
theorem mN:∀{n:Nat}{l:Zj},l.Nodup->(∀x∈l,x<n)->l.length<=n
 |0,[],_,_=>YG _
 |0,a::l,_,h=>absurd (h a (.head _)) (Nat.not_lt_zero _)
 |n+1,l,hd,h=>by
  have h1:=mN (n:=n) (l:=l.filter λx=>decide (x≠n)) (List.Pairwise.filter _ hd) (λx hx=>by
   have b:=ZW.1 hx
   have:=h x b.1
   have:x≠n:=XR b.2
   omega)
  have b:∀{l:Zj},l.Nodup->l.length<=(l.filter λx=>decide (x≠n)).length+1:=by
   intro l hd;induction l with
   |nil=>simp
   |cons a l c=>
    rw[YO] at hd;rw[List.filter_cons];by_cases e:a=n
    ·subst e
     rw[if_neg (by simp),YJ];have:l.filter (λx=>decide (x≠a))=l:=List.filter_eq_self.2 λx hx=>YV λz=>hd.1 (z▸hx)
     rw[this];exact YG _
    ·rw[if_pos (by simpa using e),YJ,YJ]
     have:=c hd.2
     omega
  have:=b hd
  omega
end SH
namespace SG
open PySem L2 DD SH
section
variable {S:Nat->Nat->Bool}{m:Nat}
structure Eqv (S:Nat->Nat->Bool) (m:Nat):Prop where
 refl:∀f,f<m->S f f=true
 symm:∀f g,f<m->g<m->S f g=true->S g f=true
 trans:∀f g h,f<m->g<m->h<m->S f g=true->S g h=true->S f h=true
def cls(S:Nat->Nat->Bool)(m f:Nat):List Nat:=(List.range m).filter (S f)
def dv(S:Nat->Nat->Bool)(f:Nat):Bool:=!(List.range f).any λx=>S x f
def bw(S:Nat->Nat->Bool)(m k:Nat):List (List Nat):=((List.range k).filter (dv S)).map (cls S m)
theorem ca{f x:Nat}:x∈cls S m f↔x<m/\S f x=true:=by unfold cls;rw[ZW,ZX]
theorem qH{f:Nat}:dv S f=true ↔ ∀x,x<f->S x f=false:=by
 unfold dv;rw[XW,List.any_eq_false];constructor
 ·intro h x hx
  have:=h x (ZX.2 hx)
  cases e:S x f
  ·rfl
  ·exact absurd e this
 ·intro h x hx e
  rw[h x (ZX.1 hx)] at e;cases e
theorem wD(q:Eqv S m){f:Nat}(hf:f<m):(cls S m f).head?=some f↔dv S f=true:=by
 rw[qH];have srt:(cls S m f).Pairwise (· < ·):=List.Pairwise.filter _ List.pairwise_lt_range;have hm:f∈cls S m f:=ca.2 ⟨hf,q.refl f hf⟩;constructor
 ·intro h x hx
  cases e:S x f with
  |false=>rfl
  |true=>
   have h1:x∈cls S m f:=ca.2 ⟨by omega,q.symm x f 'a' hf e⟩;cases hc:cls S m f with
   |nil=>rw[hc] at hm;cases hm
   |cons a l=>
    rw[hc] at h h1 srt;cases h;rcases YB.1 h1 with rfl | h1
    ·omega
    ·have:=(List.pairwise_cons.1 srt).1 x h1
     omega
 ·intro h
  cases hc:cls S m f with
  |nil=>rw[hc] at hm;cases hm
  |cons a l=>
   rw[hc] at hm srt;rcases YB.1 hm with rfl | hm
   ·rfl
   ·have h1:=(List.pairwise_cons.1 srt).1 f hm
    have b:a∈cls S m f:=by rw[hc];exact ZZ
    obtain⟨c,g⟩:=ca.1 b
    have:=h a h1
    rw[q.symm f a hf c g] at this;cases this
theorem mO(q:Eqv S m):∀(f:Nat),f<m->∃x,x<=f/\S x f=true/\dv S x=true:=by
 intro f;induction f using Nat.strongRecOn with
 |ind f a=>
  intro hf;by_cases h:dv S f=true
  ·exact⟨f,YG _,q.refl f hf,h⟩
  ·rw[qH] at h
   simp only[Classical.not_forall] at h;obtain⟨x,hx,e⟩:=h;have e:S x f=true:=by cases z:S x f;exact absurd z e;rfl
   obtain⟨y,h1,b,c⟩:=a x hx 'a';exact⟨y,by omega,q.trans y x f 'a' 'a' hf b e,c⟩
def m9(S:Nat->Nat->Bool)(m k placed:Nat):Prop:=∀o,o<m->(placed.testBit o=true ↔ ∃x,x<k/\S x o=true)
theorem m9.free(q:Eqv S m){k placed:Nat}(hk:k<m)(h:m9 S m k placed):placed.testBit k = !dv S k:=by
 cases e:dv S k with
 |true=>
  rw[qH] at e;cases z:placed.testBit k with
  |false=>rfl
  |true=>
   obtain⟨x,hx,hs⟩:=(h k hk).1 z;rw[e x hx] at hs;cases hs
 |false=>
  refine(h k hk).2 ?_;obtain⟨x,h1,a,b⟩:=mO q k hk;refine⟨x,?_,a⟩;rcases Nat.lt_or_eq_of_le h1 with h | rfl
  ·exact h
  ·rw[b] at e;cases e
theorem m9.skip(q:Eqv S m){k placed:Nat}(hk:k<m)(h:m9 S m k placed)(hf:dv S k=false):m9 S m (k+1) placed:=by
 intro o a;rw[h o a];constructor
 ·rintro⟨x,hx,hs⟩;exact⟨x,by omega,hs⟩
 ·rintro⟨x,hx,hs⟩
  by_cases e:x=k
  ·subst e
   obtain⟨y,h1,b,c⟩:=mO q x hk;refine⟨y,?_,q.trans y x o 'a' hk a b hs⟩;rcases Nat.lt_or_eq_of_le h1 with h | rfl
   ·exact h
   ·rw[c] at hf;cases hf
  ·exact⟨x,by omega,hs⟩
theorem m9.take{k placed more:Nat}(h:m9 S m k placed)(hm:∀o,o<m->(more.testBit o=true↔S k o=true)):m9 S m (k+1) (placed|||more):=by
 intro o a;rw[Nat.testBit_or,Bool.or_eq_true,h o a,hm o a];constructor
 ·rintro(⟨x,hx,hs⟩ | hs)
  ·exact⟨x,by omega,hs⟩
  ·exact⟨k,by omega,hs⟩
 ·rintro⟨x,hx,hs⟩
  by_cases e:x=k
  ·subst e;exact .inr hs
  ·exact .inl ⟨x,by omega,hs⟩
theorem wF{k:Nat}(h:dv S k=false):bw S m (k+1)=bw S m k:=by
 unfold bw;rw[List.range_succ,List.filter_append,ZN,List.filter_cons,h];simp
theorem wG{k:Nat}(h:dv S k=true):bw S m (k+1)=bw S m k++[cls S m k]:=by
 unfold bw;rw[List.range_succ,List.filter_append,ZN,List.filter_cons,h];simp
end
theorem Kx{a b:Nat}(h:Sub a b):a<=b:=by
 have e:a&&&b=a:=by
  refine Nat.eq_of_testBit_eq λk=>?_
  rw[Nat.testBit_and];cases z:a.testBit k with
  |false=>rfl
  |true=>rw[h k z];rfl
 rw[←e];exact Nat.and_le_right
section
variable {ls rs:Zj}
structure Walk (ls rs:Zj):Prop where
 len:rs.length=ls.length
 low:∀f g,cy ls f g->g<ls.length
 ok:∀f g,f<ls.length->((rs.getD f 0).testBit g=true↔cQ (cy ls) f g)
def aV(rs:Zj)(f g:Nat):Bool:=(rs.getD f 0).testBit g&&(rs.getD g 0).testBit f
theorem Walk.sam_iff(w:Walk ls rs){f g:Nat}(hf:f<ls.length)(hg:g<ls.length):aV rs f g=true↔cQ (cy ls) f g/\cQ (cy ls) g f:=by
 unfold aV;rw[YY,w.ok f g hf,w.ok g f hg]
theorem Walk.eqv(w:Walk ls rs):Eqv (aV rs) ls.length where
 refl:=λf hf=>(w.sam_iff hf hf).2 ⟨.refl f,.refl f⟩
 symm:=λf g hf hg h=>(w.sam_iff hg hf).2 ((w.sam_iff hf hg).1 h).symm
 trans:=λf g h hf hg c a b=>by
  obtain⟨j,l⟩:=(w.sam_iff hf hg).1 a;obtain⟨m,n⟩:=(w.sam_iff hg c).1 b;exact(w.sam_iff hf c).2 ⟨j.trans m,n.trans l⟩
def Cm(ls:Zj)(p:Zj)(dn:Nat):Prop:=∀x∈p,∀g,cy ls x g->g∈p\/dn.testBit g=true
theorem Walk.ready(w:Walk ls rs)(dn:Nat):∀(n f:Nat),f<ls.length->dn.testBit f=false->rs.getD f 0=n->∃f',f'<ls.length/\dn.testBit f'=false/\Cm ls (cls (aV rs) ls.length f') dn:=by
 intro n;induction n using Nat.strongRecOn with
 |ind n b=>
  intro f hf hd e;by_cases h:Cm ls (cls (aV rs) ls.length f) dn
  ·exact⟨f,hf,hd,h⟩
  ·unfold Cm at h
   simp only[Classical.not_forall,not_or] at h;obtain⟨x,hx,g,hg,h1,c⟩:=h;have gl:=w.low _ _ hg;obtain⟨j,hs⟩:=ca.1 hx;obtain⟨l,t⟩:=(w.sam_iff hf j).1 hs;have a:cQ (cy ls) f g:=l.trans (.one hg);have m:¬cQ (cy ls) g f:=λz=>h1 (ca.2 ⟨gl,(w.sam_iff hf gl).2 ⟨a,z⟩⟩)
   have p:Sub (rs.getD g 0) (rs.getD f 0):=λo r=>(w.ok f o hf).2 (a.trans ((w.ok g o gl).1 r))
   have ne:rs.getD g 0≠rs.getD f 0:=λz=>m ((w.ok g f gl).1 (by rw[z];exact(w.ok f f hf).2 (.refl f)))
   have lt:rs.getD g 0<n:=by
    have:=Kx p
    rw[←e];exact Nat.lt_of_le_of_ne this ne
   exact b _ lt g gl (by cases z:dn.testBit g;rfl;exact absurd z c) rfl
end
end SG
namespace SH
open PySem L2 DD
theorem JH{n m f:Nat}(h:n<2 ^ m)(q:n.testBit f=true):f<m:=by
 have h1:=Nat.ge_two_pow_of_testBit q;exact(Nat.pow_lt_pow_iff_right (by decide:1<2)).1 (Nat.lt_of_le_of_lt h1 h)
theorem qI{n m:Nat}(h:n<2 ^ m):(cJ n).length<=m:=mN (mH n) λf hf=>JH h ((fS _ _).1 hf)
end SH
namespace SG
open PySem L2 DD SH
section
variable {S:Nat->Nat->Bool}{m:Nat}
theorem qJ(q:Eqv S m){f g:Nat}(hf:f<m)(hg:g<m)(h:S f g=true):cls S m f=cls S m g:=by
 unfold cls;refine List.filter_congr λo a=>?_
 have a:=ZX.1 a;have h':=q.symm f g hf hg h;cases e:S f o with
 |true=>exact(q.trans g f o hg hf a h' e).symm
 |false=>
  cases e2:S g o with
  |false=>rfl
  |true=>rw[q.trans f g o hf hg a h e2] at e;cases e
theorem hV(q:Eqv S m){p:Zj}:p∈bw S m m ↔ ∃f,f<m/\dv S f=true/\p=cls S m f:=by
 unfold bw;rw[List.mem_map];constructor
 ·rintro⟨f,hf,rfl⟩
  obtain⟨h1,a⟩:=ZW.1 hf;exact⟨f,ZX.1 h1,a,rfl⟩
 ·rintro⟨f,h1,a,rfl⟩
  exact⟨f,ZW.2 ⟨ZX.2 h1,a⟩,rfl⟩
theorem JI(q:Eqv S m){f:Nat}(hf:f<m):cls S m f∈bw S m m:=by
 obtain⟨x,h1,a,b⟩:=mO q f hf;exact(hV q).2 ⟨x,by omega,b,(qJ q 'a' hf a).symm⟩
theorem dS(q:Eqv S m){f:Nat}(hf:f<m)(h:dv S f=true):∃l,cls S m f=f::l:=by
 have:=(wD q hf).2 h
 cases e:cls S m f with
 |nil=>rw[e] at this;cases this
 |cons a l=>rw[e] at this;cases this;exact⟨l,rfl⟩
end
section
variable {ls rs:Zj}
def jY(ls:Zj)(p:Zj)(dn:Nat):Bool:=p.all λx=>decide (ck (ls.getD x 0) (dn|||a8 p)=0)
def may(ls:Zj)(dn:Nat)(p:Zj):Bool:=!dn.testBit (p.headD 0)&&jY ls p dn
theorem lr{a b:Nat}:ck a b=0 ↔ ∀g,a.testBit g=true->b.testBit g=true:=by
 constructor
 ·intro h g hg
  have:=jf a b g
  rw[h,Nat.zero_testBit,hg,Bool.true_and] at this;cases e:b.testBit g
  ·rw[e] at this;cases this
  ·rfl
 ·intro h
  refine Nat.eq_of_testBit_eq λg=>?_
  rw[jf,Nat.zero_testBit];cases e:a.testBit g
  ·rfl
  ·rw[h g e];rfl
theorem ER{p:Zj}{dn:Nat}:jY ls p dn=true↔Cm ls p dn:=by
 unfold jY Cm;rw[XN];constructor
 ·intro h x hx g hg
  have:=lr.1 (XR (h x hx)) g hg
  rw[Nat.testBit_or,Bool.or_eq_true,bh] at this;rcases this with z | z
  ·exact .inr z
  ·exact .inl (XR z)
 ·intro h x hx
  refine YV (lr.2 λg hg=>?_);rw[Nat.testBit_or,Bool.or_eq_true,bh];rcases h x hx g hg with z | z
  ·exact .inr (YV z)
  ·exact .inl z
def qb(ls:Zj)(ps:List (List Nat)):Nat->Nat->List (List Nat)
 |0,_=>[]
 |n+1,dn=>match ps.find? (may ls dn) with
  |none=>[]
  |some p=>p::qb ls ps n (dn|||a8 p)
def Dn(rs:Zj)(m dn:Nat):Prop:=∀f g,f<m->g<m->aV rs f g=true->dn.testBit f=dn.testBit g
theorem Dn.zero{m:Nat}:Dn rs m 0:=λf g _ _ _=>by rw[Nat.zero_testBit,Nat.zero_testBit]
theorem Walk.next(w:Walk ls rs){dn:Nat}(hd:Dn rs ls.length dn){f:Nat}(hf:f<ls.length)(h:dn.testBit f=false):∃p,(bw (aV rs) ls.length ls.length).find? (may ls dn)=some p:=by
 obtain⟨f',h1,c,g⟩:=w.ready dn _ f hf h rfl;have q:=w.eqv;obtain⟨x,m,b,j⟩:=mO q f' h1;have a:x<ls.length:=by omega
 obtain⟨l,e⟩:=dS q a j;have e2:=qJ q a h1 b;cases z:(bw (aV rs) ls.length ls.length).find? (may ls dn) with
 |some p=>exact⟨p,rfl⟩
 |none=>
  rw[List.find?_eq_none] at z;refine absurd ?_ (z _ (JI q a));unfold may;rw[YY,ER,e2];refine⟨?_,g⟩;rw[←e2,e];show(!dn.testBit x)=true;rw[hd x f' a h1 b,c];rfl
theorem Dn.next(w:Walk ls rs){dn:Nat}(hd:Dn rs ls.length dn){p:Zj}(hp:p∈bw (aV rs) ls.length ls.length):Dn rs ls.length (dn|||a8 p):=by
 intro f g hf hg h;have q:=w.eqv;obtain⟨x,a,_,rfl⟩:=(hV q).1 hp;rw[Nat.testBit_or,Nat.testBit_or,bh,bh,hd f g hf hg h];congr 1;rw[decide_eq_decide,ca,ca];exact⟨λz=>⟨hg,q.trans x f g a hf hg z.2 h⟩,λz=>⟨hf,q.trans x g f a hg hf z.2 (q.symm f g hf hg h)⟩⟩
end
section
variable {ls rs:Zj}
def nd(dn:Nat)(p:Zj):Bool:=!dn.testBit (p.headD 0)
theorem lu{c:Type}(a b:c->Bool):∀l:List c,((l.filter a).filter b).head?=l.find? λx=>a x&&b x
 |[]=>rfl
 |x::l=>by
  rw[List.filter_cons,XF];cases ha:a x with
  |false=>simp only[Bool.false_and,if_false];exact lu a b l
  |true=>
   simp only[Bool.true_and,if_true,List.filter_cons];cases hb:b x with
   |false=>simp only[if_false];exact lu a b l
   |true=>rfl
theorem Co{S:Nat->Nat->Bool}{m:Nat}(q:Eqv S m):(bw S m m).Nodup:=by
 unfold bw;have h:((List.range m).filter (dv S)).Nodup:=List.Pairwise.filter _ List.nodup_range;rw[List.Nodup,List.pairwise_map];refine List.Pairwise.imp_of_mem ?_ h;intro a b ha hb c e;obtain⟨f,g⟩:=ZW.1 ha;obtain⟨j,n⟩:=ZW.1 hb;obtain⟨l,e1⟩:=dS q (ZX.1 f) g;obtain⟨p,e2⟩:=dS q (ZX.1 j) n;rw[e1,e2] at e;cases e;exact c rfl
theorem wH(w:Walk ls rs){dn n:Nat}(hd:Dn rs ls.length dn)(hn:((bw (aV rs) ls.length ls.length).filter (nd dn)).length=n+1):
  ∃p,(bw (aV rs) ls.length ls.length).find? (may ls dn)=some p/\p∈bw (aV rs) ls.length ls.length/\nd dn p=true/\(((bw (aV rs) ls.length ls.length).filter (nd dn)).filter λp=>jY ls p dn).head?=some p /\
   ((bw (aV rs) ls.length ls.length).filter (nd dn)).filter (λx=>decide (x≠p))=(bw (aV rs) ls.length ls.length).filter (nd (dn|||a8 p)) /\
   ((bw (aV rs) ls.length ls.length).filter (nd (dn|||a8 p))).length=n/\Dn rs ls.length (dn|||a8 p):=by
 have q:=w.eqv;have hx:∃x,x∈(bw (aV rs) ls.length ls.length).filter (nd dn):=by
  cases e:(bw (aV rs) ls.length ls.length).filter (nd dn) with
  |nil=>rw[e] at hn;cases hn
  |cons a l=>exact⟨a,ZZ⟩
 obtain⟨x,hx⟩:=hx;obtain⟨h1,c⟩:=ZW.1 hx;obtain⟨f,hf,u,rfl⟩:=(hV q).1 h1;obtain⟨l,e⟩:=dS q hf u;rw[e] at c;have c:dn.testBit f=false:=by cases z:dn.testBit f;rfl;exact absurd c (by unfold nd;rw[List.headD_cons,z];exact YF)
 obtain⟨p,hp⟩:=w.next hd hf c;have pm:=List.mem_of_find?_eq_some hp;have m:=List.find?_some hp;have pn:nd dn p=true:=by unfold may at m;exact(YY _ _▸m).1
 have same:∀y∈bw (aV rs) ls.length ls.length,nd (dn|||a8 p) y=(nd dn y&&decide (y≠p)):=by
  intro y hy;obtain⟨a,r,B,rfl⟩:=(hV q).1 pm;obtain⟨b,bl,C,rfl⟩:=(hV q).1 hy;obtain⟨K,e1⟩:=dS q r B;obtain⟨L,e2⟩:=dS q bl C;unfold nd;rw[e2,List.headD_cons,Nat.testBit_or,bh,←e2];have:decide (b∈cls (aV rs) ls.length a) = !decide (cls (aV rs) ls.length b≠cls (aV rs) ls.length a):=by
   by_cases h:b∈cls (aV rs) ls.length a
   ·have hs:=(ca.1 h).2
    rw[YV h,qJ q r bl hs];simp
   ·rw[ZR h]
    have:cls (aV rs) ls.length b≠cls (aV rs) ls.length a:=λz=>h (by rw[←z];exact ca.2 ⟨bl,q.refl b bl⟩)
    simp[this]
  rw[this];cases dn.testBit b<;>simp
 have t:((bw (aV rs) ls.length ls.length).filter (nd dn)).filter (λx=>decide (x≠p))=(bw (aV rs) ls.length ls.length).filter (nd (dn|||a8 p)):=by
  rw[List.filter_filter];refine List.filter_congr λy hy=>?_
  rw[same y hy,Bool.and_comm]
 refine⟨p,hp,pm,pn,?_,t,?_,hd.next w pm⟩
 ·rw[lu];exact hp
 ·rw[←t]
  have G:((bw (aV rs) ls.length ls.length).filter (nd dn)).Nodup:=List.Pairwise.filter _ (Co q);have pin:p∈(bw (aV rs) ls.length ls.length).filter (nd dn):=ZW.2 ⟨pm,pn⟩;have g:∀{l:List (List Nat)},l.Nodup->p∈l->(l.filter λx=>decide (x≠p)).length+1=l.length:=by
   intro l;induction l with
   |nil=>intro _ h;cases h
   |cons a l J=>
    intro j hm;rw[YO] at j;rw[List.filter_cons];by_cases e:a=p
    ·subst e
     have:l.filter (λx=>decide (x≠a))=l:=List.filter_eq_self.2 λx hx=>YV λz=>j.1 (z▸hx)
     rw[show decide (a≠a)=false by simp,if_neg YF,this,YJ]
    ·have hm:p∈l:=by rcases YB.1 hm with z | z;exact absurd z.symm e;exact z
     have:=J j.2 hm
     simp[e];simpa using this
  have:=g G pin
  omega
end
section
variable {ls:Zj}
def Rp(ls:Zj)(f g:Nat):Prop:=∃x,cy ls f x/\cQ (cy ls) x g
theorem Rp.more{f g h:Nat}(a:Rp ls f g)(b:cy ls g h):Rp ls f h:=let⟨x,e,r⟩:=a;⟨x,e,r.trans (.one b)⟩
structure Go (ls:Zj) (f0 found:Nat) (ahead:Zj):Prop where
 true_:∀g,found.testBit g=true->Rp ls f0 g
 here:∀x∈ahead,x=f0\/found.testBit x=true
 all:∀x,(x=f0\/found.testBit x=true)->x∈ahead \/ ∀g,cy ls x g->found.testBit g=true
theorem Go.start(f0:Nat):Go ls f0 0 [f0] where
 true_:=λg h=>by rw[Nat.zero_testBit] at h;cases h
 here:=λx h=>.inl (XO.1 h)
 all:=λx h=>by
  rcases h with rfl | h
  ·exact .inl (XO.2 rfl)
  ·rw[Nat.zero_testBit] at h;cases h
theorem Go.done{f0 found:Nat}(h:Go ls f0 found [])(g:Nat):found.testBit g=true↔Rp ls f0 g:=by
 have cl:∀x,(x=f0\/found.testBit x=true)->∀g,cy ls x g->found.testBit g=true:=λx hx=>(h.all x hx).elim (λz=>nomatch z) id
 refine⟨h.true_ g,λa=>?_⟩;obtain⟨x,e,r⟩:=a
 have:=cl f0 (.inl rfl) x e
 clear e;induction r with
 |refl f=>exact this
 |step e _ b=>exact b (cl _ (.inr this) _ e)
structure ot (ls:Zj) (f0 x found:Nat) (ahead:Zj) (past:Nat->Prop):Prop where
 from_:x=f0\/found.testBit x=true
 true_:∀g,found.testBit g=true->Rp ls f0 g
 here:∀y∈ahead,y=f0\/found.testBit y=true
 seen:∀g,past g->found.testBit g=true
 all:∀y,(y=f0\/found.testBit y=true)->y∈ahead\/y=x \/ ∀g,cy ls y g->found.testBit g=true
theorem Go.pop{f0 found x:Nat}{ahead:Zj}(h:Go ls f0 found (ahead++[x])):ot ls f0 x found ahead λ_=>False where
 from_:=h.here x (by simp)
 true_:=h.true_
 here:=λy hy=>h.here y (by simp[hy])
 seen:=λg z=>z.elim
 all:=λy hy=>by
  rcases h.all y hy with z | z
  ·rw[YC,XO] at z
   exact z.imp id .inl
  ·exact .inr (.inr z)
theorem ot.end_{f0 found x:Nat}{ahead:Zj}{past:Nat->Prop}(h:ot ls f0 x found ahead past)(hp:∀g,cy ls x g->past g):Go ls f0 found ahead where
 true_:=h.true_
 here:=h.here
 all:=λy hy=>by
  rcases h.all y hy with z | rfl | z
  ·exact .inl z
  ·exact .inr λg hg=>h.seen g (hp g hg)
  ·exact .inr z
theorem ot.old{f0 found x o:Nat}{ahead:Zj}{past:Nat->Prop}(h:ot ls f0 x found ahead past)(a:found.testBit o=true):ot ls f0 x found ahead λg=>past g\/g=o:=
 { h with seen:=λg z=>z.elim (h.seen g) λe=>e▸a }
theorem ot.new{f0 found x o:Nat}{ahead:Zj}{past:Nat->Prop}(h:ot ls f0 x found ahead past)(e:cy ls x o):ot ls f0 x (found|||2 ^ o) (ahead++[o]) λg=>past g\/g=o:=by
 have a:∀g,(found|||2 ^ o).testBit g=true↔found.testBit g=true\/g=o:=λg=>by
  rw[Nat.testBit_or,Bool.or_eq_true,Nat.testBit_two_pow,XT];exact⟨λz=>z.imp id Eq.symm,λz=>z.imp id Eq.symm⟩
 have rp:Rp ls f0 o:=by
  rcases h.from_ with rfl | z
  ·exact⟨o,e,.refl o⟩
  ·exact(h.true_ x z).more e
 refine⟨h.from_.imp id λz=>(a x).2 (.inl z),λg z=>?_,λy hy=>?_,λg z=>?_,λy hy=>?_⟩
 ·rcases(a g).1 z with z | rfl
  ·exact h.true_ g z
  ·exact rp
 ·rw[YC,XO] at hy
  rcases hy with hy | rfl
  ·exact(h.here y hy).imp id λz=>(a y).2 (.inl z)
  ·exact .inr ((a y).2 (.inr rfl))
 ·rcases z with z | rfl
  ·exact(a g).2 (.inl (h.seen g z))
  ·exact(a g).2 (.inr rfl)
 ·have hy:(y=f0\/found.testBit y=true)\/y=o:=by
   rcases hy with hy | hy
   ·exact .inl (.inl hy)
   ·exact((a y).1 hy).imp .inr id
  rcases hy with hy | rfl
  ·rcases h.all y hy with z | z | z
   ·exact .inl (by simp[z])
   ·exact .inr (.inl z)
   ·exact .inr (.inr λg hg=>(a g).2 (.inl (z g hg)))
  ·exact .inl (by simp)
end
section
variable {ls rs ws:Zj}
def JJ(ls ws:Zj):Prop:=ws.length=ls.length/\∀f g,f<ls.length->((ws.getD f 0).testBit g=true↔Rp ls f g)
def fU(ws:Zj)(m f:Nat):List Nat:=(List.range m).filter λo=>(ws.getD f 0).testBit o&&(ws.getD o 0).testBit f
def Cp(ws:Zj)(m f:Nat):List Nat:=if fU ws m f=[] then[f] else fU ws m f
theorem Rp.rch{f g:Nat}(a:Rp ls f g):cQ (cy ls) f g:=let⟨_,e,r⟩:=a;.step e r
theorem cQ.rp{f g:Nat}(a:cQ (cy ls) f g)(h:f≠g):Rp ls f g:=by
 cases a with
 |refl=>exact absurd rfl h
 |step e r=>exact⟨_,e,r⟩
theorem Rp.trans_r{f g h:Nat}(a:Rp ls f g)(b:cQ (cy ls) g h):Rp ls f h:=let⟨x,e,r⟩:=a;⟨x,e,r.trans b⟩
theorem Hb(w:Walk ls rs)(hw:JJ ls ws){f:Nat}(hf:f<ls.length):Cp ws ls.length f=cls (aV rs) ls.length f:=by
 have q:=w.eqv;have g:f∈cls (aV rs) ls.length f:=ca.2 ⟨hf,q.refl f hf⟩;unfold Cp;by_cases h:Rp ls f f
 ·have e:fU ws ls.length f=cls (aV rs) ls.length f:=by
   unfold fU cls;refine List.filter_congr λo c=>?_
   have c:=ZX.1 c;rw[XM,w.sam_iff hf c,YY,hw.2 f o hf,hw.2 o f c];refine⟨λz=>⟨z.1.rch,z.2.rch⟩,λz=>⟨h.trans_r z.1,?_⟩⟩;by_cases e:o=f
   ·subst e;exact h
   ·exact z.2.rp e
  rw[e,if_neg (λz=>by rw[z] at g;cases g)]
 ·have e:fU ws ls.length f=[]:=by
   unfold fU;rw[List.filter_eq_nil_iff];intro o c z;have c:=ZX.1 c;rw[YY,hw.2 f o hf,hw.2 o f c] at z;exact h (z.1.trans_r z.2.rch)
  rw[e,if_pos rfl];have only:∀o∈cls (aV rs) ls.length f,o=f:=λo c=>by
   obtain⟨j,hs⟩:=ca.1 c;obtain⟨a,b⟩:=(w.sam_iff hf j).1 hs;refine Classical.byContradiction λne=>h ((a.rp (λz=>ne z.symm)).trans_r b)
  have nd:(cls (aV rs) ls.length f).Nodup:=List.Pairwise.filter _ List.nodup_range;cases hc:cls (aV rs) ls.length f with
  |nil=>rw[hc] at g;cases g
  |cons a l=>
   rw[hc] at only nd;have ha:=only a ZZ;cases l with
   |nil=>rw[ha]
   |cons b l=>
    have hb:=only b (by simp);rw[ha,hb,YO] at nd;exact absurd (ZZ) nd.1
def part(rs:Zj)(f:Nat):List Nat:=(cJ (rs.getD f 0)).filter λo=>(rs.getD o 0).testBit f
theorem ES(w:Walk ls rs){f:Nat}(hf:f<ls.length):part rs f=cls (aV rs) ls.length f:=by
 unfold part cls cJ;have low:∀o,(rs.getD f 0).testBit o=true->o<ls.length:=λo a=>cQ.lt w.low ((w.ok f o hf).1 a) hf
 refine sG (List.Pairwise.filter _ (List.Pairwise.filter _ List.pairwise_lt_range)) (List.Pairwise.filter _ List.pairwise_lt_range) λo=>?_
 rw[ZW,show o∈(List.range (dZ ((rs.getD f 0:Nat):Int))).filter (λo=>(rs.getD f 0).testBit o)↔(rs.getD f 0).testBit o=true from fS _ _,ZW,ZX];unfold aV;rw[YY];exact⟨λz=>⟨low o z.1,z⟩,λz=>z.2⟩
end
end SG
namespace SG
open PySem L2 DD
open SH
section
variable {cn:Cn}{ds:List D}{M:MH}{Q:DK}
def nc:Ss:=#v[.ret (.bi .all #v[.comp 1 (.cmp .Eq (.bin .BitAnd (.ix (.var 1) (.var 4)) (.inv (.var 3))) (.int 0)) (.nm 4) (.seq (.var 0)) .no])]
def lx:Ss:=.cons (.set 3 (.bin .BitOr (.var 2) (.fn 0 #v[.var 0]))) nc
def spIsReady:aK:=λds M Q=>∃(p ls:Zj) (a:Addr) (dn:Nat),ds=[.tup (nats p),.ref a,⇑dn]/\M a=some (.lst (nats ls))/\(∀x∈p,x<ls.length)/\ls.length<=120/\∀M',ae M M'->Q (.bl (jY ls p dn)) M'
theorem sH{l:Zj}{f:Nat}(h:f<l.length):di (nats l) (f:Int)=some (.int ((l.getD f 0:Nat):Int)):=gP (by
 unfold nats;rw[ZH,ZE h,List.getD_eq_getElem?_getD,ZE h];rfl)
def JK(ls:Zj)(k:Nat):D->D
 |.int x=>.bl (decide (ck (ls.getD x.toNat 0) k=0))
 |_=>.non
theorem yA(ls:Zj)(k:Nat):∀p:List Nat,my ((nats p).map (JK ls k))=some (p.map λx=>decide (ck (ls.getD x 0) k=0))
 |[]=>rfl
 |x::p=>by
  have a:=yA ls k p;unfold nats at a ⊢;rw[YL,YL,show JK ls k (⇑x)=.bl (decide (ck (ls.getD x 0) k=0)) from rfl,my,a];rfl
theorem rd_is_ready(f0:cn.F.getD 0 (λ_ _ _=>False)=gf)(h:spIsReady ds M Q):wSs cn lx (fin Q) (aw ["","","",""] ds) M:=by
 obtain⟨p,ls,a,dn,rfl,ha,hp,hl,q⟩:=h;show wSs cn lx (fin Q) [some (.tup (nats p)),↑a,~~~dn,none] M;unfold lx;simp! only[List.set,f0];refine⟨_,p,M,rfl,.inl ⟨rfl,rfl⟩,λf hf=>by have:=hp f hf;omega,?_⟩;simp! only[jQ];unfold nc;simp! only[zA,List.cons_append,XE,List.replicate];refine cA (f:=JK ls (dn|||a8 p)) (ok:=λσ=>∃v,σ=[some (.tup (nats p)),↑a,~~~dn,some (.int ((dn|||a8 p:Nat):Int)),v]) [] _ ⟨none,rfl⟩ ?_ ?_
 ·intro d hd σ f_ rest ⟨v,hv⟩ k
  subst hv;obtain⟨x,hx,rfl⟩:=List.mem_map.1 hd;have b:=k _ ⟨~~~x,rfl⟩;rw[aq];simp! only[zA,List.set,ha,sH (hp x hx),Ad];refine⟨⟨rfl,rfl,YM _⟩,trivial,?_⟩;rw[ay,show(((ck (ls.getD x 0) (dn|||a8 p):Nat):Int)==0)=decide (ck (ls.getD x 0) (dn|||a8 p)=0) by
   by_cases h:ck (ls.getD x 0) (dn|||a8 p)=0
   ·rw[h];rfl
   ·rw[ZR h];exact beq_false_of_ne 'a']
  exact b
 ·intro g c
  rw[XE,aa];simp only[yA];rw[List.all_map];exact q _ (ae.new c)
end
end SG
namespace SH
open PySem L2 DD
def cellAt(ns:Zi)(k:Nat):Int:=(ns[k]?).getD 0
def mP:aK:=λds M Q=>∃(a:Addr) (ns:Zi) (k:Nat),ds=[.ref a,⇑k]/\M a=some (.rol (ns.map .int))/\Q (.int (cellAt ns k)) M
theorem ExtBut.put{p r:Addr}{o:MO}{M M':MH}(h:ExtBut p M M')(b:M r=none):ExtBut p M (ab M' r o):=λa u n q=>by
 have:a≠r:=λz=>by subst z;rw[b] at q;cases q
 rw[aL this];exact h a u n q
def jZ:Ss:=#v[.ret (.int 0)]
def ic:Ss:=.cons (.ite (.cmp .Lt (.var 1) (.bi .len #v[.var 0])) #v[.ret (.ix (.var 0) (.var 1))] .nil) jZ
theorem ou{y m:Int}(h:0<m):0<=y%m/\y%m<m:=⟨Int.emod_nonneg _ 'a',Int.emod_lt_of_pos _ h⟩
theorem Ai(x y:D):di [x,y] 0=some x:=bM x [y]
theorem Aj(x y:D):di [x,y] 1=some y:=ci x y []
theorem FE(x y:D):mV ([x,y]:List D).length 0=some 0:=rfl
section
variable {cn:Cn}{ds:List D}{M:MH}{Q:DK}
theorem Ak(h:mP ds M Q):wSs cn ic (fin Q) (aw ["",""] ds) M:=by
 obtain⟨a,ns,k,rfl,b,q⟩:=h;show wSs cn ic (fin Q) [↑a,~~~k] M;unfold ic;simp! only[b,ZG];unfold cellAt at q;refine s0 (λc=>?_) (λc=>?_)
 ·have hk:k<ns.length:=by omega
  rw[gP (by rw[ZH,ZE hk];rfl)];rw[ZE hk] at q;exact q
 ·have hk:ns.length<=k:=by omega
  rw[ZK hk] at q;unfold jZ;simp! only[];exact q
end
theorem cg(m:Nat):bD 0 (m:Int)=nats (List.range m):=by
 unfold bD nats;rw[show((m:Int)-0).toNat=m by omega];refine ZP λi _=>?_
 rw[Int.zero_add]
theorem iL(fs:Zj):nats fs=bf (fs.map λ(f:Nat)=>(f:Int)):=by unfold nats bf;rw[ZO];rfl
theorem Al(ls:Zj)(i:Nat):(nats ls).eraseIdx i=nats (ls.eraseIdx i):=by
 unfold nats;induction ls generalizing i with
 |nil=>rfl
 |cons a r b=>
  cases i with
  |zero=>rfl
  |succ i=>rw[YL,List.eraseIdx_cons_succ,List.eraseIdx_cons_succ,YL,b]
theorem sJ{b:Type}:∀{l:List b}{i:Nat}{x:b},l[i]?=some x->(x::l.eraseIdx i).Perm l
 |[],_,_,h=>by simp at h
 |a::l,0,x,h=>by
  rw[List.getElem?_cons_zero] at h;cases h;exact List.Perm.refl _
 |a::l,i+1,x,h=>by
  rw[List.getElem?_cons_succ] at h;rw[List.eraseIdx_cons_succ];exact(List.Perm.swap _ _ _).trans ((sJ h).cons a)
theorem xx{fs:Zj}(h:fs.Nodup):(fs.map λ(f:Nat)=>(f:Int)).Nodup:=by
 unfold List.Nodup;rw[List.pairwise_map];exact List.Pairwise.imp (λh z=>h 'a') h
structure Drawn (m:Nat) (rs fs:Zj):Prop where
 nd:(fs++rs).Nodup
 lt:∀f∈fs++rs,f<m
 len:fs.length+rs.length=m
theorem Drawn.pop{m:Nat}{rs fs:Zj}{i x:Nat}(h:Drawn m rs fs)(hx:rs[i]?=some x):Drawn m (rs.eraseIdx i) (fs++[x]):=by
 have hp:(fs++[x]++rs.eraseIdx i).Perm (fs++rs):=by
  rw[ZC];exact List.Perm.append_left _ (sJ hx)
 have hl:=hp.length_eq;refine⟨hp.nodup_iff.2 h.nd,λf hf=>h.lt f (hp.mem_iff.1 hf),?_⟩
 have:=h.len
 simp only[ZM] at hl ⊢;omega
end SH
namespace SG
open PySem L2 DD
open SH
section
variable {cn:Cn}{ds:List D}{M:MH}{Q:DK}
def fj:Ss:=#v[.ret (.var 1)]
def cX:Ss:=#v[.set 1 (.comp 1 (.ite (.val (.fn 0 #v[.var 3,.var 2])) (.bin .BitOr (.var 3) (.ix (.var 1) (.var 2))) (.var 3)) (.nm 3) (.seq (.var 1)) .no)]
def i9:Ss:=.cons (.for (.nm 2) (.rg1 #v[.bi .len #v[.var 1]]) cX) fj
def gD:Ss:=.cons (.set 1 (.comp 2 (.bin .BitOr (.var 4) (.bin .LShift (.int 1) (.var 3))) (.tp [3,4]) (.enum #v[.var 0]) .no)) i9
def spReached:aK:=λds M Q=>∃(a:Addr) (ls:Zj),ds=[.ref a]/\M a=some (.lst (nats ls))/\ls.length<=120/\∀p M',M p=none->ae M M'->M' p=some (.lst (nats (br ls ls.length)))->Q (.ref p) M'
def FF:D->D
 |.tup [.int i,.int x]=>.int (Builtin.bitOr x (1*2 ^ i.toNat))
 |_=>.non
theorem Hc(i x:Nat):FF (.tup [.int ((0:Int)+(i:Int)),⇑x])=.int ((x|||2 ^ i:Nat):Int):=by
 show D.int (Builtin.bitOr (x:Int) (1*2 ^ ((0:Int)+(i:Int)).toNat))=_;rw[←jQ];simp
theorem Hd(ls:Zj):(bH 0 (nats ls)).map FF=nats (br ls 0):=by
 refine ZJ λi=>?_
 rw[ZH];cases e:(bH 0 (nats ls))[i]? with
 |none=>
  rw[List.getElem?_eq_none_iff,dL] at e;rw[ZK]
  ·rfl
  ·unfold nats at e ⊢
   rw[ZG,fT];simpa using e
 |some x=>
  obtain⟨d,h1,rfl⟩:=iJ e;unfold nats at h1;rw[ZH] at h1;cases e2:ls[i]? with
  |none=>rw[e2] at h1;cases h1
  |some y=>
   rw[e2] at h1;cases h1;show some (FF _)=_;rw[Hc];unfold nats br;rw[ZH,List.getElem?_mapIdx,e2,Nat.one_shiftLeft];rfl
def JL(rs:Zj)(k:Nat):D->D
 |.int x=>.int ((if(x.toNat).testBit k=true then x.toNat|||rs.getD k 0 else x.toNat:Nat):Int)
 |_=>.non
theorem He(rs:Zj)(k:Nat):(nats rs).map (JL rs k)=nats (wB rs k):=by
 unfold nats wB;rw[ZO,ZO];rfl
theorem rd_reached_sets (f0:cn.F.getD 0 (λ_ _ _=>False) = kG) (h:spReached ds M Q):wSs cn gD (fin Q) (aw ["","",""] ds) M:=by
  obtain ⟨a,ls,rfl,ha,hl,q⟩:=h
  show wSs cn gD (fin Q) [↑a,none,none] M
  unfold gD
  simp! only [List.cons_append,XE,List.replicate,ha]
  refine cA (f:=FF) (ok:=λσ=>∃ v w,σ = [↑a,none,none,v,w]) [] _ ⟨none,none,rfl⟩ ?_ ?_
  · intro d hd σ f_ rest ⟨v,w,hv⟩ k
    subst hv
    obtain ⟨i,hi⟩:=XV hd
    obtain ⟨d',h1,rfl⟩:=iJ hi
    unfold nats at h1
    rw [ZH] at h1
    cases e2:ls[i]? with
    | none=>rw [e2] at h1; cases h1
    | some y=>
      rw [e2] at h1
      cases h1
      have P:i < ls.length:=(YD.1 e2).1
      have g:=k _ ⟨some (.int ((0:Int) + (i:Int))),~~~y,rfl⟩
      rw [aq]
      simp! only [List.set]
      exact ⟨rfl,⟨by omega (splitDisjunctions:=true),by omega (splitDisjunctions:=true),by decide⟩,ha,g⟩
  rw [XE,Hd]
  intro p hp
  have e1:ae M (ab M p (.lst (nats (br ls 0)))):=ae.new hp
  have u:ab M p (MO.lst (nats (br ls 0))) p = some (.lst (nats (br ls 0))):=aa
  generalize ab M p (MO.lst (nats (br ls 0))) = M1 at *
  unfold i9
  simp! only [List.set,u]
  have B:(nats (br ls 0)).length = ls.length:=by unfold nats; rw [ZG,fT]
  rw [B,cg]
  have body:∀ (E:cE) (k:Nat) (p:Addr) (v:Zy) (b:MH),k < ls.length->M p = none->ae M b->b p = some (.lst (nats (br ls k)))->(∀ c r m,M c = none->ae M m->m c = some (.lst (nats (br ls (k + 1))))->E.nx [↑a,↑c,r] m)->wSs cn cX E [↑a,↑p,~~~k] b:=by
    intro E k p v b hk hp l j kk
    unfold cX
    simp! only [List.cons_append,XE,List.replicate,j,f0]
    have C:k < (br ls k).length:=by rw [fT]; exact hk
    refine cA (f:=JL (br ls k) k) (ok:=λσ=>∃ v,σ = [↑a,↑p,~~~k,v]) [] _ ⟨none,rfl⟩ ?_ ?_
    · intro d hd σ f_ rest ⟨v,hv⟩ G
      subst hv
      obtain ⟨y,hy,rfl⟩:=List.mem_map.1 hd
      have g:=G _ ⟨~~~y,rfl⟩
      have e:JL (br ls k) k (⇑y) = .int ((if y.testBit k = true then y ||| (br ls k).getD k 0 else y:Nat):Int):=rfl
      rw [e] at g
      rw [aq]
      simp! only [List.set]
      refine ⟨_,_,rfl,by omega,?_⟩
      rw [jP]
      cases hb:y.testBit k with
      | true=>
        rw [hb,if_pos rfl] at g
        simp! only [j,sH C,jQ]
        exact ⟨trivial,g⟩
      | false=>
        rw [hb,if_neg YF] at g
        simp! only []
        exact ⟨j,g⟩
    · rw [XE,He]
      intro c z
      have J:M c = none:=l.free z
      exact kk c _ _ J (l.then z) aa
  have t:∀ (n k:Nat),k + n = ls.length->∀ (p:Addr) (v:Zy) (b:MH),M p = none->ae M b->b p = some (.lst (nats (br ls k))) ->
      ax (λ_=>True) (.nm 2) (wSs cn cX) { nx:=wSs cn fj (fin Q),rt:=Q } (nats (List.range' k n)) [↑a,↑p,v] b:=by
    intro n
    induction n with
    | zero=>
      intro k hk p v b hp l j
      rw [show nats (List.range' k 0) = [] from rfl,ax]
      unfold fj
      simp! only []
      have:k = ls.length:=by omega
      subst this
      exact q p b hp l j
    | succ n K=>
      intro k hk p v b hp l j
      rw [show nats (List.range' k (n + 1)) = ⇑k :: nats (List.range' (k + 1) n) from rfl,ax]
      exact body _ k p v b 'a' hp l j λc r m h1 L O=>⟨trivial,K (k + 1) 'a' c r m h1 L O⟩
  refine ⟨by have:(2000:Nat) < sizeLine:=by decide
             omega,?_⟩
  rw [List.range_eq_range']
  exact t ls.length 0 'a' p none M1 hp e1 u
end
section
variable {cn:Cn}{ds:List D}{M:MH}{Q:DK}
def dw:Ss:=#v[.ret (.var 1)]
def gL:Ss:=#v[.set 2 (.bin .BitOr (.var 2) (.fn 1 #v[.var 5]))]
def gM:Ss:=.cons (.expr (.mt .append (.var 1) #v[.var 5])) gL
def cG:Ss:=#v[.ite (.not (.val (.fn 0 #v[.var 2,.var 3]))) (.cons (.set 5 (.bi .tuple #v[.comp 1 (.var 6) (.nm 6) (.seq (.fn 2 #v[.var 4])) (.yes (.val (.fn 0 #v[.ix (.var 0) (.var 6),.var 3])))])) gM) .nil]
def gN:Ss:=.cons (.for (.tp [3,4]) (.enum #v[.var 0]) cG) dw
def gO:Ss:=.cons (.set 2 (.int 0)) gN
def fq:Ss:=.cons (.set 1 (.lst .nil)) gO
def am(p:Zj):D:=.tup (nats p)
theorem pB(S:Nat->Nat->Bool)(m k:Nat):(bw S m k).length<=k:=by
 unfold bw;rw[ZG];exact ZY (List.length_filter_le _ _) (by rw[ZL];exact YG _)
def JM(rs:Zj)(k:Nat):D->Bool
 |.int o=>(rs.getD o.toNat 0).testBit k
 |_=>false
def spByLeast:aK:=λds M Q=>∃(a:Addr) (ls rs:Zj),ds=[.ref a]/\M a=some (.lst (nats rs))/\Walk ls rs/\ls.length<=120/\∀p M',M p=none->ae M M'->M' p=some (.lst ((bw (aV rs) ls.length ls.length).map am))->Q (.ref p) M'
theorem rd_parts_by_least(f0:cn.F.getD 0 (λ_ _ _=>False)=kG)(W:cn.F.getD 1 (λ_ _ _=>False)=gf)(Y:cn.F.getD 2 (λ_ _ _=>False)=kH)(h:spByLeast ds M Q):wSs cn fq (fin Q) (aw ["","","","","",""] ds) M:=by
 obtain⟨a,ls,rs,rfl,ha,w,hl,q⟩:=h;show wSs cn fq (fin Q) [↑a,none,none,none,none,none] M;have R:=w.eqv;have hsz:(2000:Nat)<sizeLine:=by decide
 unfold fq;simp! only[List.set];intro b C;have e1:ae M (ab M b (.lst [])):=ae.new C;have Z:ab M b (MO.lst []) b=some (.lst ((bw (aV rs) ls.length 0).map am)):=aa;generalize ab M b (MO.lst [])=M1 at *;unfold gO;simp! only[List.set];unfold gN;simp! only[List.set,e1 _ _ ha];have body:∀(E:cE) (k placed x:Nat) (g:Zy) (c:MH),k<ls.length->rs[k]?=some x->ae M c->c b=some (.lst ((bw (aV rs) ls.length k).map am))->m9 (aV rs) ls.length k placed ->
   (∀y G j,ae M j->j b=some (.lst ((bw (aV rs) ls.length (k+1)).map am))->m9 (aV rs) ls.length (k+1) y->E.nx [↑a,↑b,~~~y,~~~k,~~~x,G] j) ->
   wSs cn cG E [↑a,↑b,~~~placed,~~~k,~~~x,g] c:=by
  intro E k placed x g c hk hx m n P kk;unfold cG;simp! only[List.set,f0,Y,List.cons_append,XE,List.replicate];refine⟨_,_,rfl,by omega,?_⟩;rw[jP,P.free R hk];cases hf:dv (aV rs) k with
  |false=>
   simp! only[Bool.not_false,Bool.not_true]
   have:=kk placed g c m (by rw[wF hf];exact n) (P.skip R hk hf)
   exact this
  |true=>
   simp! only[Bool.not_false,Bool.not_true];have S:rs.getD k 0=x:=by rw[List.getD_eq_getElem?_getD,hx];rfl
   have u:∀o,x.testBit o=true->o<ls.length:=λo r=>cQ.lt w.low ((w.ok k o hk).1 (by rw[S];exact r)) hk
   have xl:x<2 ^ ls.length:=Nat.lt_pow_two_of_testBit x λi hi=>by
    cases z:x.testBit i with
    |false=>rfl
    |true=>have:=u i z;omega
   refine⟨x,rfl,ZT xl (Nat.pow_le_pow_right 'c' 'a'),λp2 j G' T J=>?_⟩;have T3:=m.trans T;simp! only[J];refine dl (p:=JM rs k) (ok:=λσ=>∃v,σ=[↑a,↑b,~~~placed,~~~k,~~~x,g,v]) [] _ ⟨none,rfl⟩ ?_ ?_
   ·intro d hd σ f_ rest ⟨v,hv⟩ k0
    subst hv;obtain⟨o,r,rfl⟩:=List.mem_map.1 hd;have ol:o<rs.length:=by rw[w.len];exact u o ((fS _ _).1 r)
    have t:=k0 _ ⟨~~~o,rfl⟩;rw[show JM rs k (⇑o)=(rs.getD o 0).testBit k from rfl] at t;rw[aq];simp! only[List.set,T3 _ _ ha,sH ol];refine⟨_,_,rfl,by omega,?_⟩;rw[jP];cases hb:(rs.getD o 0).testBit k with
    |true=>
     rw[hb] at t;simp! only[];exact⟨J,t⟩
    |false=>
     rw[hb] at t;simp! only[];rw[show f_++cond false [D.int (o:Int)] []=f_ from ZA f_] at t;exact⟨J,t⟩
   ·have ep:(nats (cJ x)).filter (JM rs k)=nats (cls (aV rs) ls.length k):=by
     rw[←ES w hk,part,S];unfold nats;rw[List.filter_map];rfl
    rw[XE,ep];intro p3 NI;have U:ae c (ab j p3 (.lst (nats (cls (aV rs) ls.length k)))):=T.then NI;rw[aa];generalize ab j p3 (MO.lst (nats (cls (aV rs) ls.length k)))=B at *;have g7:=U _ _ n;have n7:ae M B:=m.trans U;simp! only[cx];unfold gM;simp! only[List.set,g7];have Xn:=pB (aV rs) ls.length k;refine⟨rfl,by rw[ZG];omega,?_⟩;have e8:ae M (ab B b (.lst ((bw (aV rs) ls.length k).map am++[.tup (nats (cls (aV rs) ls.length k))]))):=n7.put C;have g8:ab B b (MO.lst ((bw (aV rs) ls.length k).map am++[.tup (nats (cls (aV rs) ls.length k))])) b=some (.lst ((bw (aV rs) ls.length (k+1)).map am)):=by
     rw[aa,wG hf,ZN];rfl
    generalize ab B b (MO.lst ((bw (aV rs) ls.length k).map am++[.tup (nats (cls (aV rs) ls.length k))]))=V at *;unfold gL;simp! only[List.set,W];refine⟨_,cls (aV rs) ls.length k,V,rfl,.inl ⟨rfl,rfl⟩,λf Xo=>by have:=(ca.1 Xo).1;omega,?_⟩;simp! only[jQ];refine kk (placed|||a8 (cls (aV rs) ls.length k)) _ V e8 g8 (P.take λo r=>?_);rw[bh,decide_eq_true_iff,ca];exact⟨λz=>z.2,λz=>⟨r,z⟩⟩
 have K:∀(rest:Zj) (k:Nat),rs.drop k=rest->k+rest.length=ls.length->∀(placed:Nat) (L O g:Zy) (c:MH),ae M c->c b=some (.lst ((bw (aV rs) ls.length k).map am))->m9 (aV rs) ls.length k placed ->
   ax (λM'=>M' a=some (.lst (nats rs))) (.tp [3,4]) (wSs cn cG) { nx:=wSs cn dw (fin Q),rt:=Q } (bH (k:Int) (nats rest)) [↑a,↑b,~~~placed,L,O,g] c:=by
  intro rest;induction rest with
  |nil=>
   intro k _ hk placed L O g c m n P;rw[show nats []=[] from rfl,bH,ax];unfold dw;simp! only[];have:k=ls.length:=by simpa using hk
   subst this;exact q b c C m n
  |cons x rest ih=>
   intro k hd hk placed L O g c m n P;rw[YJ] at hk;rw[show nats (x::rest)=⇑x::nats rest from rfl,bH,ax];refine⟨rfl,?_⟩;have hx:rs[k]?=some x:=by
    have:=congrArg (λl=>l[0]?) hd
    simpa using this
   have Nb:rs.drop (k+1)=rest:=by
    have:=congrArg List.tail hd
    simpa using this
   refine body _ k placed x g c 'a' hx m n P λy G j h1 h2 h3=>⟨h1 _ _ ha,?_⟩
   exact ih (k+1) Nb 'a' y _ _ G j h1 h2 h3
 have P0:m9 (aV rs) ls.length 0 0:=λo r=>by
  rw[Nat.zero_testBit];exact⟨λz=>(nomatch z),λ⟨x,hx,_⟩=>absurd hx (Nat.not_lt_zero x)⟩
 exact K rs 0 rfl (by rw[w.len];omega) 0 none none none M1 e1 Z P0
end
def eG:List (Int×Bool)->MO
 |[]=>.dic []
 |k::ks=>.prs (k::ks)
theorem Cq(ks:List (Int×Bool))(k:Int×Bool):∃k' b,putP ks k=k'::b:=by
 unfold putP;split
 ·rename_i h
  cases ks with
  |nil=>cases h
  |cons a l=>exact⟨a,l,rfl⟩
 ·cases ks with
  |nil=>exact⟨k,[],rfl⟩
  |cons a l=>exact⟨a,l++[k],rfl⟩
theorem yC{a:Addr}{x:Int}{y:Bool}{M:MH}{Q:MH->Prop}{ks:List (Int×Bool)}(h:M a=some (eG ks))(hl:ks.length<sizeLine)(q:Q (ab M a (eG (putP ks (x,y))))):rX (.ref a) (.tup [.int x,.bl y]) (.bl true) M Q:=by
 unfold rX;obtain⟨k',b,e⟩:=Cq ks (x,y);rw[e] at q;cases ks with
 |nil=>
  have e2:putP [] (x,y)=[(x,y)]:=by unfold putP;simp
  rw[e2] at e;cases e;simp only[h,eG];exact q
 |cons k ks=>
  simp only[h,eG];rw[e];exact⟨hl,q⟩
theorem ET{a:Addr}{M:MH}{Q:DK}{ks:List (Int×Bool)}(h:M a=some (eG ks))(hl:ks.length<=4000)(q:∀(p:Addr) (b:List (Int×Bool)),M p=none->b.Perm ks->b.Pairwise (λx y=>TS.kC x<=TS.kC y)->Q (.ref p) (ab M p (.lst (b.map pD)))):jM [.ref a] M Q:=by
 unfold jM;cases ks with
 |nil=>
  simp only[h,eG];intro p hp;exact q p [] hp (.refl _) .nil
 |cons k ks=>
  simp only[h,eG];exact⟨hl,q⟩
def qc(a_:Zx)(l:Zj):List (Int×Bool):=l.flatMap λr=>((a_[r]?.map cV).getD []).map λz=>(z.2,z.1)
def df(a_:Zx)(f:Nat):List (Int×Bool):=(qc a_ (d9 (aU a_) a_.length f)).foldl putP []
theorem wJ{ks:List (Int×Bool)}{k x:Int×Bool}:x∈putP ks k↔x∈ks\/x=k:=by
 unfold putP;split
 ·rename_i h
  exact⟨.inl,λz=>z.elim id λe=>e▸h⟩
 ·rw[YC,XO]
theorem mQ:∀(l ks:List (Int×Bool)),ks.Nodup->(l.foldl putP ks).Nodup/\∀x,x∈l.foldl putP ks↔x∈ks\/x∈l
 |[],ks,h=>⟨h,λx=>⟨.inl,λz=>z.elim id λz=>nomatch z⟩⟩
 |k::l,ks,h=>by
  obtain⟨h1,a⟩:=mQ l (putP ks k) (mF k h);refine⟨h1,λx=>?_⟩;rw[List.foldl_cons,a x,wJ,YB,or_assoc]
theorem ug{ks:List (Int×Bool)}{m:Nat}(h:ks.Nodup)(b:∀k∈ks,0<=k.1/\k.1<(m:Int)):ks.length<=2*m:=by
 have inj:∀x∈ks,∀y∈ks,x.1.toNat*2+(b2i x.2).toNat=y.1.toNat*2+(b2i y.2).toNat->x=y:=by
  intro x hx y hy e;obtain⟨f,a⟩:=x;obtain⟨g,c⟩:=y;have hx:=b _ hx;have hy:=b _ hy;dsimp only at *;have e1:f=g/\a=c:=by
   cases a<;>cases c<;>simp[b2i] at e ⊢ <;> omega
  rw[e1.1,e1.2]
 have nd:(ks.map λk=>k.1.toNat*2+(b2i k.2).toNat).Nodup:=by
  rw[List.Nodup,List.pairwise_map];refine List.Pairwise.imp_of_mem ?_ h;intro x y hx hy ne e;exact ne (inj x hx y hy e)
 have:=mN (n:=2*m) nd λz hz=>by
  obtain⟨k,hk,rfl⟩:=List.mem_map.1 hz
  have:=b k hk
  have j:(b2i k.2).toNat<=1:=by cases k.2<;>decide
  omega
 rwa [ZG] at this
section
variable {cn:Cn}{c:CA}{S:Addr}{ds:List D}{M:MH}{Q:DK}
def cY:Ss:=#v[.ret (.bk .sortedB #v[.var 2])]
def fr:Ss:=#v[.putP (.var 2) (.var 4) (.bl true)]
def fu:Ss:=#v[.for (.nm 4) (.seq (.ix (.fld (.var 0) "leanings") (.var 3))) fr]
def ja:Ss:=.cons (.for (.nm 3) (.seq (.ix (.fld (.var 0) "headed") (.var 1))) fu) cY
def gE:Ss:=.cons (.set 2 .dnew) ja
def spLeaned(c:CA)(S:Addr):aK:=λds M Q=>∃(a:Addr) (m:Nat) (a_:Zx) (f:Nat),ds=[.ref a,⇑f]/\gn c S M a m a_/\f<m/\∀p M' (b:List (Int×Bool)),M p=none->ae M M'->b.Perm (df a_ f)->b.Pairwise (λx y=>TS.kC x<=TS.kC y)->M' p=some (.lst (b.map pD))->Q (.ref p) M'
theorem Hf{m:Nat}{a_:Zx}{u_:Zs}{p1 p2 p3:Addr}:(jX m a_ u_ p1 p2 p3).lookup ("leanings" : Str)=↑p2:=rfl
theorem rd_leaned(V:∀f∈lR,cn.O S f)(h:spLeaned c S ds M Q):wSs cn gE (fin Q) (aw ["","","","",""] ds) M:=by
 obtain⟨a,m,a_,f,rfl,⟨ok,u_,p1,p2,p3,MP,MG,NJ,h1,-,⟨h3,h4,W⟩,⟨h6,Y⟩,-⟩,hf,q⟩:=h;show wSs cn gE (fin Q) [↑a,~~~f,none,none,none] M;have hz:MP[f]?=some (MP[f]' 'a'):=ZE 'a';have hsz:(4000:Nat)<sizeLine:=by decide
 unfold gE;simp! only[List.set];intro d hd;have e1:ae M (ab M d (MO.dic [])):=ae.new hd;have g1:ab M d (MO.dic []) d=some (eG []):=aa;generalize ab M d (MO.dic [])=M1 at *;unfold ja;simp! only[List.set,e1 _ _ h1,Ck,e1 _ _ h3,hU hz,e1 _ _ (W f _ hz)];refine⟨V _ (by rfl'),?_⟩;have Xp:M MP[f]=some (.lst (nats (d9 (aU a_) a_.length f))):=W f _ hz;have few:∀{ks:List (Int×Bool)},ks.Nodup->(∀k∈ks,0<=k.1/\k.1<(m:Int))->ks.length<=240:=λnd b=>by
  have:=ug nd b
  have:=ok.most
  omega
 have C:∀(g:MH->Prop) (E:cE) (r:Nat),(∀M',ae M M'->g M')->∀(l:Zr) (ks:List (Int×Bool)) (v:Zy) (j:MH),ae M j->j d=some (eG ks)->ks.Nodup->(∀k∈ks,0<=k.1/\k.1<(m:Int))->(∀z∈l,0<=z.2/\z.2<(m:Int)) ->
   (∀Z n,ae M n->n d=some (eG ((l.map λz=>(z.2,z.1)).foldl putP ks))->E.nx [↑a,~~~f,↑d,~~~r,Z] n) ->
   ax g (.nm 4) (wSs cn fr) E (l.map pairD) [↑a,~~~f,↑d,~~~r,v] j:=by
  intro g E r hg l;induction l with
  |nil=>
   intro ks v j u G nd b _ kk;rw[YZ,ax];exact kk v j u G
  |cons z l P=>
   intro ks v j u G nd b bl kk;rw[YL,ax];unfold fr;simp! only[List.set];have hk:=few nd b;refine yC (x:=z.2) (y:=z.1) G 'a' ?_;have B:ae M (ab j d (eG (putP ks (z.2,z.1)))):=u.put hd;refine⟨hg _ B,P (putP ks (z.2,z.1)) _ _ B aa (mF _ nd) (λk hk=>?_) (λy hy=>bl y (.tail _ hy)) kk⟩;rcases wJ.1 hk with z' | rfl
   ·exact b k z'
   ·exact bl z (.head _)
 have fit:∀(r:Nat) (x:Row),a_[r]?=some x->∀z∈cV x,0<=z.2/\z.2<(m:Int):=λr x hx z hz=>by
  unfold cV at hz;obtain⟨t,ht,Xq⟩:=List.mem_flatMap.1 hz;exact gg ((ok.fit x (YT hx)).2.2 t ht) z Xq
 have outer:∀(l:Zj) (ks:List (Int×Bool)) (J K:Zy) (j:MH),(∀r∈l,r<a_.length)->ae M j->j d=some (eG ks)->ks.Nodup->(∀k∈ks,0<=k.1/\k.1<(m:Int)) ->
   (∀R T n,ae M n->n d=some (eG ((qc a_ l).foldl putP ks))->((qc a_ l).foldl putP ks).length<=240->wSs cn cY (fin Q) [↑a,~~~f,↑d,R,T] n) ->
   ax (λM'=>M' MP[f]=some (MO.lst (nats (d9 (aU a_) a_.length f)))) (.nm 3) (wSs cn fu) { nx:=wSs cn cY (fin Q),rt:=Q } (nats l) [↑a,~~~f,↑d,J,K] j:=by
  intro l;induction l with
  |nil=>
   intro ks J K j _ u G nd b kk;rw[show nats []=[] from rfl,ax];exact kk J K j u G (few nd b)
  |cons r l P=>
   intro ks J K j L u G nd b kk;have N':=L r (.head _);have hx:a_[r]?=some (a_[r]'N'):=ZE N';have hp:MG[r]?=some (MG[r]'(by rw[Y.1];exact N')):=ZE _;have hq:=Y.2 r _ _ hp hx;rw[show nats (r::l)=⇑r::nats l from rfl,ax];unfold fu;simp! only[List.set,u _ _ h1,Hf,u _ _ h6,hU hp,u _ _ hq];refine⟨V _ (by rfl'),?_⟩;refine C _ _ r (λM' e'=>e' _ _ hq) (cV (a_[r]'N')) ks _ j u G nd b (fit r _ hx) λZ n B U=>⟨B _ _ Xp,?_⟩
   obtain⟨n1,n2⟩:=mQ ((cV (a_[r]'N')).map λz=>(z.2,z.1)) ks nd;refine P _ _ _ n (λx hx=>L x (.tail _ hx)) B U n1 (λk hk=>?_) λR T M7 e7 g7 Xr=>?_
   ·rcases(n2 k).1 hk with z | z
    ·exact b k z
    ·obtain⟨y,hy,rfl⟩:=List.mem_map.1 z
     exact fit r _ hx y hy
   ·have ef:qc a_ (r::l)=((cV (a_[r]'N')).map λz=>(z.2,z.1))++qc a_ l:=by
     unfold qc;rw[List.flatMap_cons,hx];rfl
    refine kk R T M7 e7 ?_ ?_
    ·rw[ef,List.foldl_append];exact g7
    ·rw[ef,List.foldl_append];exact Xr
 refine outer _ [] none none M1 (λr L=>?_) e1 g1 List.nodup_nil (λk hk=>nomatch hk) λJ K n B U hl=>?_
 ·exact ZX.1 (ZW.1 L).1
 ·unfold cY
  simp! only[ub];refine ET U 'a' λp ms hp h8 h9=>?_
  exact q p _ ms (B.free hp) (B.then hp) h8 h9 aa
end
end SG
namespace SH
open PySem L2 DD
theorem Hg{c:Type}(xs:List c)(a b:Nat):(dr xs (some (a:Int)) (some (b:Int))).length<=b:=by
 unfold dr;rw[HT.sW,HT.sW,YS];omega
theorem Hh{a:Type}{xs:List a}{lo hi:Zp}{x:a}(h:x∈dr xs lo hi):x∈xs:=List.mem_of_mem_drop (List.mem_of_mem_take h)
theorem EU{n:Nat}:cJ n=[]↔n=0:=by
 constructor
 ·intro h
  refine Nat.eq_of_testBit_eq λf=>?_
  rw[Nat.zero_testBit];cases e:n.testBit f with
  |false=>rfl
  |true=>
   have:=(fS n f).2 e
   rw[h] at this;cases this
 ·rintro rfl
  rfl
theorem uT(ns:Zj):aQ (nats ns)=true:=by rw[iL];exact uc _
theorem EV(ns:Zj):bm (nats ns)<=30:=by rw[iL,qC];decide
end SH
namespace SG
open PySem L2 DD
open SH
section
variable {cn:Cn}{c:CA}{S:Addr}{ds:List D}{M:MH}{Q:DK}
def ng:Ss:=#v[.ret (.var 3)]
def nh:Ss:=#v[.setC 2 1 (.var 6) (.nm 6) (.seq (.var 2)) (.yes (.cmp .NotEq (.var 6) (.var 5)))]
def ni:Ss:=.cons (.set 4 (.bin .BitOr (.var 4) (.fn 0 #v[.var 5]))) nh
def nj:Ss:=.cons (.expr (.mt .append (.var 3) #v[.var 5])) ni
def nk:Ss:=.cons (.set 5 (.ix (.comp 1 (.var 6) (.nm 6) (.seq (.var 2)) (.yes (.val (.fn 1 #v[.var 6,.var 1,.var 4])))) (.int 0))) nj
def nn:Ss:=.cons (.while (.cmp .Gt (.bi .len #v[.var 2]) (.int 0)) nk) ng
def nq:Ss:=.cons (.set 4 (.int 0)) nn
def nr:Ss:=.cons (.set 3 (.lst .nil)) nq
def nt:Ss:=.cons (.set 2 (.fn 2 #v[.fn 3 #v[.var 1]])) nr
def ly:Ss:=.cons (.set 1 (.comp 1 (.fn 0 #v[.comp 1 (.ix (.var 7) (.int 0)) (.nm 7) (.seq (.mu "leaned" (.var 0) #v[.var 6])) .no]) (.nm 6) (.rg1 #v[.mu0 "how_many" (.var 0)]) .no)) nt
def nu(a_:Zx)(f:Nat):Nat:=a8 ((df a_ f).map λk=>k.1.toNat)
def aZ(a_:Zx)(m:Nat):List Nat:=(List.range m).map (nu a_)
def ow(a_:Zx)(m:Nat):List (List Nat):=qb (aZ a_ m) (bw (aV (br (aZ a_ m) m)) m m) (bw (aV (br (aZ a_ m) m)) m m).length 0
def spParts(c:CA)(S:Addr):aK:=λds M Q=>∃(a:Addr) (m:Nat) (a_:Zx),ds=[.ref a]/\gn c S M a m a_/\∀p M',M p=none->ae M M'->M' p=some (.lst ((ow a_ m).map am))->Q (.ref p) M'
theorem mR{m:Nat}{a_:Zx}(ok:fE m a_)(f:Nat):∀k∈df a_ f,0<=k.1/\k.1<(m:Int):=by
 intro k hk;unfold df at hk;rcases((mQ _ [] List.nodup_nil).2 k).1 hk with z | z
 ·cases z
 ·unfold qc at z
  obtain⟨r,_,hz⟩:=List.mem_flatMap.1 z;obtain⟨y,hy,rfl⟩:=List.mem_map.1 hz;cases e:a_[r]? with
  |none=>rw[e] at hy;cases hy
  |some x=>
   rw[e] at hy;have hy:y∈cV x:=hy;unfold cV at hy;obtain⟨t,ht,a⟩:=List.mem_flatMap.1 hy;exact gg ((ok.fit x (YT e)).2.2 t ht) y a
theorem wK{m:Nat}{a_:Zx}(ok:fE m a_):∀f g,cy (aZ a_ m) f g->g<(aZ a_ m).length:=by
 intro f g h;unfold cy at h;have hl:(aZ a_ m).length=m:=by unfold aZ;rw[ZG,ZL]
 rw[hl];cases e:(aZ a_ m)[f]? with
 |none=>rw[List.getD_eq_getElem?_getD,e] at h;exact absurd h (by rw[Option.getD_none,Nat.zero_testBit];exact YF)
 |some x=>
  rw[List.getD_eq_getElem?_getD,e,Option.getD_some] at h;unfold aZ at e;rw[ZH] at e;cases e2:(List.range m)[f]? with
  |none=>rw[e2] at e;cases e
  |some f'=>
   rw[e2] at e;cases e;unfold nu at h;rw[bh] at h;obtain⟨k,hk,rfl⟩:=List.mem_map.1 (XR h)
   have:=mR ok f' k hk
   omega
theorem pC:∀x p:List Nat,cI (nats x) (nats p)=decide (x=p)
 |[],[]=>rfl
 |[],_::_=>rfl
 |_::_,[]=>rfl
 |a::x,b::p=>by
  have f:=pC x p;show cI (⇑a::nats x) (⇑b::nats p)=_;rw[cI,ay,f];by_cases h:a=b
  ·subst h;simp
  ·rw[beq_false_of_ne 'a'];simp[h]
theorem pE(x p:Zj):ba (am x) (am p)=decide (x=p):=by
 unfold am;rw[ba,pC]
theorem ox(x:Zj):aR (am x)=true:=by unfold am;rw[aR];exact uT x
theorem wL(x:Zj):cv (am x)<=30:=by
 unfold am;rw[cv,iL,qC];decide
def FG(p:Zj)(d:D):Bool:=!ba d (am p)
def KJ:D->D
 |.tup [x,_]=>x
 |_=>.non
theorem Hi{a:List (Int×Bool)}{m:Nat}(h:∀y∈a,0<=y.1/\y.1<(m:Int)):(a.map pD).map KJ=nats (a.map λy=>y.1.toNat):=by
 unfold nats;rw[ZO,ZO];refine ZP λy hy=>?_
 show D.int y.1=D.int ((y.1.toNat:Nat):Int);rw[XQ (h y hy).1]
theorem rd_parts_of(f0:cn.F.getD 0 (λ_ _ _=>False)=gf)(f1:cn.F.getD 1 (λ_ _ _=>False)=spIsReady)(f2:cn.F.getD 2 (λ_ _ _=>False)=spByLeast)(f3:cn.F.getD 3 (λ_ _ _=>False)=spReached)
  (hT:cn.T S "how_many" = some (iK c S)) (hL:cn.T S "leaned" = some (spLeaned c S)) (h:spParts c S ds M Q):wSs cn ly (fin Q) (aw ["","","","","",""] ds) M:=by
 obtain⟨a,m,a_,rfl,A,q⟩:=h;show wSs cn ly (fin Q) [↑a,none,none,none,none,none] M;have hsz:(4000:Nat)<sizeLine:=by decide
 obtain⟨ok,u_,p1,p2,p3,MP,MG,NJ,h1,-⟩:=A.ext (ae.refl M);have hm:=ok.most;unfold ly;simp! only[List.set,h1,hT,List.cons_append,XE,List.replicate];refine⟨rfl,a,m,a_,rfl,A,⟨by omega,by omega⟩,?_⟩;rw[cg];have T4:∀f,f<m->∀k∈df a_ f,0<=k.1/\k.1<(m:Int):=λf hf k hk=>mR ok f k hk
 have run:∀(k:Nat) (j:MH) (Z:DK),k<m->ae M j->(∀G,ae j G->Z (.int ((nu a_ k:Nat):Int)) G) ->
   wE cn (.fn 0 (.cons (.comp 1 (.ix (.var 7) (.int 0)) (.nm 7) (.seq (.mu "leaned" (.var 0) (.cons (.var 6) .nil))) .no) .nil)) [↑a,none,none,none,none,none,~~~k] j Z:=by
  intro k j Z hk r hZ;have A5:=A.ext r;simp! only[List.set,r _ _ h1,hL,f0,List.cons_append,XE,List.replicate];refine⟨rfl,a,m,a_,k,rfl,A5,by omega,λp u ms hp C h8 h9 g6=>?_⟩;simp! only[g6];refine cA (f:=KJ) (ok:=λσ=>∃v,σ=[↑a,none,none,none,none,none,~~~k,v]) [] _ ⟨none,rfl⟩ ?_ ?_
  ·intro d hd σ f_ rest ⟨v,hv⟩ k0
   subst hv;obtain⟨y,hy,rfl⟩:=List.mem_map.1 hd;have R:=k0 _ ⟨some (pD y),rfl⟩;rw[aq];simp! only[List.set,pD,bM];exact⟨g6,R⟩
  ·have VE:∀y∈ms,0<=y.1/\y.1<(m:Int):=λy hy=>T4 k 'a' y (h8.mem_iff.1 hy)
   rw[XE,Hi VE];intro U NC;have L:ae j (ab u U (.lst (nats (ms.map λy=>y.1.toNat)))):=C.then NC;have g7:ab u U (MO.lst (nats (ms.map λy=>y.1.toNat))) U=some (.lst (nats (ms.map λy=>y.1.toNat))):=aa;generalize ab u U (MO.lst (nats (ms.map λy=>y.1.toNat)))=G at *;refine⟨_,_,G,rfl,.inr ⟨U,rfl,.inl ⟨g7,rfl⟩⟩,λf hf=>?_,?_⟩
   ·obtain⟨y,hy,rfl⟩:=List.mem_map.1 hf
    have:=VE y hy
    omega
   ·have es:a8 (ms.map λy=>y.1.toNat)=nu a_ k:=by
     refine Nat.eq_of_testBit_eq λi=>?_
     unfold nu;rw[bh,bh,decide_eq_decide];exact(h8.map _).mem_iff
    rw[es];exact hZ G L
 have step:∀(g:MH->Prop) (F:List D->MH->Prop),(∀M',g M')->(∀j,ae M j->F (nats (aZ a_ m)) j)->∀(n k:Nat),k+n=m->∀(v:Zy) (j:MH),ae M j ->
   aq g (.nm 6) (λx M Q=>Q true M) (wE cn (.fn 0 (.cons (.comp 1 (.ix (.var 7) (.int 0)) (.nm 7) (.seq (.mu "leaned" (.var 0) (.cons (.var 6) .nil))) .no) .nil))) F (nats (List.range' k n)) (nats ((List.range k).map (nu a_))) [↑a,none,none,none,none,none,v] j:=by
  intro g F hg K n;induction n with
  |zero=>
   intro k hk v j r;rw[show nats (List.range' k 0)=[] from rfl,aq];have:k=m:=by omega
   subst this;exact K j r
  |succ n ih=>
   intro k hk v j r;rw[show nats (List.range' k (n+1))=⇑k::nats (List.range' (k+1) n) from rfl,aq];show wE cn (.fn 0 (.cons (.comp 1 (.ix (.var 7) (.int 0)) (.nm 7) (.seq (.mu "leaned" (.var 0) (.cons (.var 6) .nil))) .no) .nil)) [↑a,none,none,none,none,none,~~~k] j λy M2=>g M2/\aq g (.nm 6) (λx M Q=>Q true M) _ F (nats (List.range' (k+1) n)) (nats ((List.range k).map (nu a_))++[y]) [↑a,none,none,none,none,none,~~~k] M2
   refine run k j _ 'a' r λG L=>⟨hg _,?_⟩
   rw[show nats ((List.range k).map (nu a_))++[.int ((nu a_ k:Nat):Int)]=nats ((List.range (k+1)).map (nu a_)) by rw[List.range_succ,ZN];unfold nats;rw[ZN];rfl];exact ih (k+1) 'a' _ G (r.trans L)
 rw[List.range_eq_range'];refine step _ _ (λ_=>trivial) (λj r=>?_) m 0 'a' none M (ae.refl M);intro B J_;have O:(aZ a_ m).length=m:=by unfold aZ;rw[ZG,ZL]
 have Ny:M B=none:=r.free J_;have C:ae M (ab j B (.lst (nats (aZ a_ m)))):=r.then J_;have g6:ab j B (MO.lst (nats (aZ a_ m))) B=some (.lst (nats (aZ a_ m))):=aa;generalize ab j B (MO.lst (nats (aZ a_ m)))=u at *;have W:Walk (aZ a_ m) (br (aZ a_ m) m):=by
  have low:∀f g,cy (aZ a_ m) f g->g<(aZ a_ m).length:=wK ok;refine⟨by rw[fT],low,λf g hf=>?_⟩
  have:=Cl low (f:=f) (g:=g) hf
  rw[O] at this;exact this
 have Xu:=O;unfold nt;simp! only[List.set,f2,f3];refine⟨B,_,rfl,g6,by omega,λpr G Xv L g7=>?_⟩;rw[O] at g7;refine⟨pr,_,_,rfl,g7,W,by omega,λJ M8 RN Y g8=>?_⟩;rw[O] at g8;have Q3:=C.trans (L.trans Y);have T5:=(L.trans Y) _ _ g6;have ah:M J=none:=(C.trans L).free RN;clear r J_ L Y g6 g7 Xv RN run step;generalize Mb:bw (aV (br (aZ a_ m) m)) m m=ps at *;unfold nr;simp! only[List.set];intro t Oc;have ne:J≠t:=λz=>by rw[z,Oc] at g8;cases g8
 have VF:B≠t:=λz=>by rw[z,Oc] at T5;cases T5
 have VG:M t=none:=Q3.free Oc;have e9:=Q3.then Oc (o:=.lst []);have g9:ab M8 t (MO.lst []) t=some (.lst ([].map am)):=aa;have Xw:ab M8 t (MO.lst []) J=some (.lst (ps.map am)):=by rw[aL ne];exact g8
 have Xx:ab M8 t (MO.lst []) B=some (.lst (nats (aZ a_ m))):=by rw[aL VF];exact T5
 generalize ab M8 t (MO.lst [])=M9 at *;unfold nq;simp! only[List.set];unfold nn;show rZ _ _ _ _ _;refine⟨λn σ M'=>∃(dn:Nat) (J:Addr) (out:List (List Nat)) (v5:Zy),σ=[↑a,↑B,↑J,↑t,~~~dn,v5]/\ae M M'/\J≠t/\M' J=some (.lst ((ps.filter (nd dn)).map am))/\M' t=some (.lst (out.map am))/\M' B=some (.lst (nats (aZ a_ m))) /\
  (ps.filter (nd dn)).length=n/\Dn (br (aZ a_ m) m) m dn/\out++qb (aZ a_ m) ps n dn=qb (aZ a_ m) ps ps.length 0/\out.length+n=ps.length,?_,?_⟩
 ·have ef:ps.filter (nd 0)=ps:=List.filter_eq_self.2 λp _=>by unfold nd;rw[Nat.zero_testBit];rfl
  exact⟨ps.length,0,J,[],none,rfl,e9,ne,by rw[ef];exact Xw,g9,Xx,by rw[ef],Dn.zero,rfl,by simp⟩
 rintro n σ M' ⟨dn,J,out,v5,rfl,e1,Xy,h2,h3,h4,hn,hd,hs,ho⟩;have PK:=pB (aV (br (aZ a_ m) m)) m m;rw[Mb] at PK;have ac:∀K:Bool->MH->Prop,K (decide (0<n)) M'->wT cn (.cmp .Gt (.bi .len (.cons (.var 2) .nil)) (.int 0)) [↑a,↑B,↑J,↑t,~~~dn,v5] M' K:=by
  intro K hK;simp! only[h2];rw[ZG,hn];rw[show decide ((0:Int)<((n:Nat):Int))=decide (0<n) by rw[decide_eq_decide];omega];exact hK
 refine ac _ ?_;cases n with
 |zero=>
  rw[show decide (0<0)=false from rfl,aI];dsimp only;unfold ng;simp! only[];refine q t M' VG e1 ?_;rw[h3];have:out=ow a_ m:=by
   unfold ow;rw[Mb,←hs];simp[qb]
  rw[this]
 |succ n=>
  rw[show decide (0<n+1)=true from YV 'a',bg];have st:=wH W (dn:=dn) (n:=n) (by rw[O];exact hd) (by rw[O,Mb];exact hn);simp only[O,Mb] at st;obtain⟨p,s1,s2,s3,s4,s5,s6,s7⟩:=st;have V:∀y∈ps,∀x∈y,x<m:=λy hy x hx=>by
   rw[←Mb] at hy;have qv:=W.eqv;rw[O] at qv;obtain⟨f,_,_,rfl⟩:=(hV qv).1 hy;exact(ca.1 hx).1
  refine⟨λj_ NH=>∃k',k'<n+1/\_,λj_ NH h=>h,?_⟩;have PL:∀(x:Zj) (j:MH) (Z:Bool->MH->Prop),j B=some (.lst (nats (aZ a_ m)))->(∀y∈x,y<m)->(∀u,ae j u->Z (jY (aZ a_ m) x dn) u) ->
    kE cn (.yes (.val (.fn 1 (.cons (.var 6) (.cons (.var 1) (.cons (.var 4) .nil)))))) [↑a,↑B,↑J,↑t,~~~dn,v5,some (am x)] j Z:=by
   intro x j Z g5 hx hZ;simp! only[f1];refine⟨x,_,B,dn,rfl,g5,λy hy=>by rw[O];exact hx y hy,by omega,λu C=>?_⟩;exact hZ u C
  have PM:∀(g:MH->Prop) (F:List D->MH->Prop),(∀j,ae M' j->g j)->∀(l:List (List Nat)),(∀y∈l,∀x∈y,x<m)->∀(f_:List D) (v:Zy) (j:MH),ae M' j->(∀u,ae M' u->F (f_++(l.filter λy=>jY (aZ a_ m) y dn).map am) u) ->
    aq g (.nm 6) (kE cn (.yes (.val (.fn 1 (.cons (.var 6) (.cons (.var 1) (.cons (.var 4) .nil))))))) (wE cn (.var 6)) F (l.map am) f_ [↑a,↑B,↑J,↑t,~~~dn,v5,v] j:=by
   intro g F hg l;induction l with
   |nil=>
    intro _ f_ v j r K;rw[YZ,aq]
    have:=K j r
    rw[List.filter_nil,YZ,ZA] at this;exact this
   |cons y l ih=>
    intro hy f_ v j r K;rw[YL,aq];refine PL y j _ (r _ _ h4) (hy y (.head _)) λu C=>?_
    cases hb:jY (aZ a_ m) y dn with
    |true=>
     rw[bg];refine⟨hg _ (r.trans C),ih (λz hz=>hy z (.tail _ hz)) (f_++[am y]) _ u (r.trans C) λG L=>?_⟩
     have:=K G L
     rw[List.filter_cons,hb] at this;simpa using this
    |false=>
     rw[aI];refine⟨hg _ (r.trans C),ih (λz hz=>hy z (.tail _ hz)) f_ _ u (r.trans C) λG L=>?_⟩
     have:=K G L
     rw[List.filter_cons,hb] at this;simpa using this
  unfold nk;simp! only[List.set,List.cons_append,XE,List.replicate,h2];refine PM _ _ (λj r=>r _ _ h2) (ps.filter (nd dn)) (λy hy=>V y (ZW.1 hy).1) [] none M' (ae.refl _) λj r=>?_
  obtain⟨rest,er⟩:∃rest,(ps.filter (nd dn)).filter (λy=>jY (aZ a_ m) y dn)=p::rest:=by
   cases er:(ps.filter (nd dn)).filter (λy=>jY (aZ a_ m) y dn) with
   |nil=>rw[er] at s4;cases s4
   |cons b l=>rw[er] at s4;cases s4;exact⟨l,rfl⟩
  rw[XE,er,YL];intro pc VH;rw[aa];have C:ae M' (ab j pc (.lst (am p::rest.map am))):=r.then VH;generalize ab j pc (MO.lst (am p::rest.map am))=u at *;simp only[bM];unfold nj;simp! only[List.set,C _ _ h3];refine⟨rfl,by rw[ZG];omega,?_⟩;have b1:ae M (ab u t (.lst (out.map am++[am p]))):=(e1.trans C).put VG;have b2:ab u t (MO.lst (out.map am++[am p])) t=some (.lst ((out++[p]).map am)):=by rw[aa,ZN];rfl
  have b3:ab u t (MO.lst (out.map am++[am p])) J=some (.lst ((ps.filter (nd dn)).map am)):=by rw[aL Xy];exact C _ _ h2
  have b4:ab u t (MO.lst (out.map am++[am p])) B=some (.lst (nats (aZ a_ m))):=by rw[aL VF];exact C _ _ h4
  generalize ab u t (MO.lst (out.map am++[am p]))=G at *;unfold ni;simp! only[List.set,f0];refine⟨_,p,G,rfl,.inl ⟨rfl,rfl⟩,λx hx=>by have:=V p s2 x hx;omega,?_⟩;simp! only[jQ];unfold nh;simp! only[List.set,List.cons_append,XE,List.replicate,b3];refine dl (p:=FG p) (ok:=λσ=>∃v,σ=[↑a,↑B,↑J,↑t,some (.int ((dn|||a8 p:Nat):Int)),some (am p),v]) [] _ ⟨none,rfl⟩ ?_ ?_
  ·intro d NK σ f_ VI ⟨v,hv⟩ k0
   subst hv;obtain⟨y,hy,rfl⟩:=List.mem_map.1 NK;have R:=k0 _ ⟨some (am y),rfl⟩;rw[show FG p (am y) = !decide (y=p) by unfold FG;rw[pE]] at R;rw[aq];simp! only[List.set,pE];refine⟨⟨ox y,ox p,wL y⟩,?_⟩;rw[pE];by_cases P:y=p
   ·rw[YV P] at R ⊢
    rw[show f_++cond (!true) [am y] []=f_ from ZA f_] at R;simp only[Bool.not_true,aI];exact⟨b3,R⟩
   ·rw[ZR P] at R ⊢
    simp only[Bool.not_false,bg];exact⟨b3,R⟩
  ·have en:((ps.filter (nd dn)).map am).filter (FG p)=(ps.filter (nd (dn|||a8 p))).map am:=by
    rw[←s5,List.filter_map];congr 1;refine List.filter_congr λy _=>?_
    show(!ba (am y) (am p))=_;rw[pE];by_cases P:y=p<;>simp[P]
   rw[XE,en];intro U NC;have np:U≠t:=λz=>by rw[z,b2] at NC;cases NC
   have Y:=ae.new NC (o:=.lst ((ps.filter (nd (dn|||a8 p))).map am));refine⟨n,by omega,dn|||a8 p,U,out++[p],_,rfl,b1.trans Y,np,aa,Y _ _ b2,Y _ _ b4,s6,s7,?_,by rw[ZM];simp;omega⟩;rw[←hs,qb,s1];simp
end
section
variable {cn:Cn}{ds:List D}{M:MH}{Q:DK}
def j0:Ss:=#v[.ret (.var 2)]
def j6:Ss:=#v[.expr (.mt .append (.var 3) #v[.var 4])]
def fV:Ss:=#v[.ite (.cmp .Eq (.bin .BitAnd (.bin .RShift (.var 2) (.var 4)) (.int 1)) (.int 0)) (.cons (.set 2 (.bin .BitOr (.var 2) (.bin .LShift (.int 1) (.var 4)))) j6) .nil]
def j7:Ss:=#v[.for (.tp [4,5]) (.seq (.ix (.var 0) (.mt0 .pop (.var 3)))) fV]
def j8:Ss:=.cons (.while (.cmp .NotEq (.var 3) (.lst .nil)) j7) j0
def j9:Ss:=.cons (.set 3 (.lst #v[.var 1])) j8
def ie:Ss:=.cons (.set 2 (.int 0)) j9
def qK(M:MH)(L m:Nat)(a_:Zx):Prop:=∃rs:List Addr,M L=some (.lst (af rs))/\rs.length=m/\bI M rs λf=>.lst ((df a_ f).map pD)
theorem qK.ext{M M':MH}{L m:Nat}{a_:Zx}(e:ae M M')(h:qK M L m a_):qK M' L m a_:=let⟨rs,h1,h2,h3⟩:=h;⟨rs,e _ _ h1,h2,h3.ext e⟩
theorem pF{a_:Zx}{m x g:Nat}(hx:x<m):cy (aZ a_ m) x g ↔ ∃k∈df a_ x,g=k.1.toNat:=by
 unfold cy;have e:(aZ a_ m).getD x 0=nu a_ x:=by
  unfold aZ;rw[List.getD_eq_getElem?_getD,ZH,List.getElem?_range hx];rfl
 rw[e];unfold nu;rw[bh,decide_eq_true_iff,List.mem_map];exact⟨λ⟨k,h1,a⟩=>⟨k,h1,a.symm⟩,λ⟨k,h1,a⟩=>⟨k,h1,a.symm⟩⟩
theorem EW(w o:Nat):(((w:Nat):Int) / 2 ^ ((o:Nat):Int).toNat%2==0) = !w.testBit o:=by
 have h:=jP w o;unfold lh at h;have a:=G6 (w:Int) (o:Int);unfold qB at h a;rw[←h];rcases a with z | z<;>rw[z]<;>rfl
theorem Cr{w o:Nat}(h:w.testBit o=false):(cJ (w|||2 ^ o)).length=(cJ w).length+1:=by
 have nd:(o::cJ w).Nodup:=YO.2 ⟨(λz=>by rw[fS,h] at z;cases z),mH w⟩;have p:(cJ (w|||2 ^ o)).Perm (o::cJ w):=(List.perm_ext_iff_of_nodup (mH _) nd).2 λy=>by
  rw[fS,YB,fS,Nat.testBit_or,Bool.or_eq_true,Nat.testBit_two_pow,XT];exact⟨λz=>z.elim .inr λe=>.inl e.symm,λz=>z.elim (λe=>.inr e.symm) .inl⟩
 rw[p.length_eq,YJ]
def spComeTo:aK:=λds M Q=>∃(L m:Nat) (a_:Zx) (f:Nat),ds=[.ref L,⇑f]/\qK M L m a_/\fE m a_/\f<m/\∀M' w,ae M M'->(∀g,w.testBit g=true↔Rp (aZ a_ m) f g)->Q (.int ((w:Nat):Int)) M'
theorem rd_come_to (h:spComeTo ds M Q):wSs cn ie (fin Q) (aw ["","","","","",""] ds) M:=by
  obtain ⟨L,m,a_,f,rfl,A,ok,hf,q⟩:=h
  show wSs cn ie (fin Q) [↑L,~~~f,none,none,none,none] M
  have hsz:(4000:Nat) < sizeLine:=by decide
  have hm:=ok.most
  obtain ⟨rs,a1,a2,a3⟩:=A.ext (ae.refl M)
  unfold ie
  simp! only [List.set]
  unfold j9
  simp! only [List.set]
  intro a T6
  have e1:ae M (ab M a (.lst [⇑f])):=ae.new T6
  have g1:ab M a (MO.lst [⇑f]) a = some (.lst (nats [f])):=aa
  generalize ab M a (MO.lst [⇑f]) = M1 at *
  unfold j8
  show rZ _ _ _ _ _
  refine ⟨λn σ M'=>∃ (w:Nat) (ahead:Zj) (B C:Zy),σ = [↑L,~~~f,some (.int ((w:Nat):Int)),↑a,B,C]/\ae M M'/\M' a = some (.lst (nats ahead))/\Go (aZ a_ m) f w ahead/\w < 2 ^ m/\(∀ x ∈ ahead,x < m)/\n + 2 * (cJ w).length = 2 * m + ahead.length/\n<=2 * m + 1,?_,?_⟩
  · exact ⟨2 * m + 1,0,[f],none,none,rfl,e1,g1,Go.start f,Nat.two_pow_pos _,λx hx=>by rw [XO.1 hx]; exact hf,by rw [EU.2 rfl]; simp,YG _⟩
  rintro n σ M' ⟨w,ahead,B,C,rfl,e2,g2,G,hw,hx,hn,OZ⟩
  have W:∀ K:Bool->MH->Prop,(∀ P,ae M' P->K (!decide (ahead = [])) P)->wT cn (.cmp .NotEq (.var 3) (.lst .nil)) [↑L,~~~f,some (.int ((w:Nat):Int)),↑a,B,C] M' K:=by
    intro K hK
    simp! only []
    intro p hp
    have e:=ae.new hp (o:=.lst [])
    rw [aa,e _ _ g2]
    refine ⟨⟨uT _,rfl,EV _⟩,?_⟩
    rw [show cI (nats ahead) [] = decide (ahead = []) from pC ahead []]
    exact hK _ e
  refine W _ λP e5=>?_
  have VJ:=e2.trans e5
  rcases List.eq_nil_or_concat ahead with rfl | ⟨l,x,rfl⟩
  · rw [show (!decide (([]:List Nat) = [])) = false from rfl,aI]
    dsimp only
    unfold j0
    simp! only []
    exact q P w VJ λg=>G.done g
  · rw [List.concat_eq_append] at *
    rw [show (!decide (l ++ [x] = [])) = true by simp,bg]
    have O4:x < m:=hx x (by simp)
    have g5:=e5 _ _ g2
    have hr:rs[x]? = some (rs[x]' 'a'):=ZE _
    have Q4:(nats (l ++ [x]))[(nats (l ++ [x])).length - 1]? = ~~~x:=by
      unfold nats
      rw [ZN,ZM]
      simp
    have Q5:(nats (l ++ [x])).dropLast = nats l:=by unfold nats; rw [ZN]; simp
    refine ⟨λj_ NH=>∃ k',k' < n/\_,λj_ NH h=>h,?_⟩
    unfold j7
    simp! only [List.set,g5,Q4,Q5]
    have e6:ae M (ab P a (.lst (nats l))):=VJ.put T6
    have g6:ab P a (MO.lst (nats l)) a = some (.lst (nats l)):=aa
    generalize ab P a (MO.lst (nats l)) = M6 at *
    simp only [e6 _ _ a1,hU hr,e6 _ _ (a3 x _ hr)]
    refine ⟨rfl,?_⟩
    have R:∀ (g:MH->Prop) (E:cE),(∀ c,ae M c->g c)->∀ (rest:List (Int × Bool)) (past:Nat->Prop) (j:Nat) (b:Zj) (B C:Zy) (c:MH),(∀ k ∈ rest,0<=k.1/\k.1 < (m:Int)/\cy (aZ a_ m) x k.1.toNat)->ae M c->c a = some (.lst (nats b))->ot (aZ a_ m) f x j b past->j < 2 ^ m->(∀ y ∈ b,y < m)->b.length + 2 * (cJ w).length<=l.length + 2 * (cJ j).length ->
        (∀ t u S T J,ae M J->J a = some (.lst (nats u))->ot (aZ a_ m) f x t u (λy=>past y \/ ∃ k ∈ rest,y = k.1.toNat)->t < 2 ^ m->(∀ y ∈ u,y < m)->u.length + 2 * (cJ w).length<=l.length + 2 * (cJ t).length->E.nx [↑L,~~~f,some (.int ((t:Nat):Int)),↑a,S,T] J) ->
        ax g (.tp [4,5]) (wSs cn fV) E (rest.map pD) [↑L,~~~f,some (.int ((j:Nat):Int)),↑a,B,C] c:=by
      intro g E hg rest
      induction rest with
      | nil=>
        intro past j b B C c _ U g7 O Y RP G_ kk
        rw [YZ,ax]
        refine kk j b B C c U g7 ⟨O.from_,O.true_,O.here,λy hy=>?_,O.all⟩ Y RP G_
        rcases hy with z | ⟨k,hk,_⟩
        · exact O.seen y z
        · cases hk
      | cons k rest ih=>
        intro past j b B C c T7 U g7 O Y RP G_ kk
        rw [YL,ax]
        obtain ⟨k1,k2,k3⟩:=T7 k (.head _)
        obtain ⟨kz,kb⟩:=k
        obtain ⟨o,rfl⟩:∃ o:Nat,kz = (o:Int):=⟨kz.toNat,(XQ k1).symm⟩
        refine ⟨rfl,?_⟩
        unfold fV
        simp! only [List.set,PyProof.Rows.bitAnd_m1,ay]
        refine ⟨by omega,⟨rfl,rfl,YM _⟩,?_⟩
        rw [EW]
        have ol:o < m:=by have:=k2; omega
        have lw:=qI Y
        have ac:=qI hw
        rw [ZM,XC] at hn
        cases hbit:j.testBit o with
        | true=>
          rw [Bool.not_true,aI]
          refine ⟨hg _ U,ih (λy=>past y \/ y = o) j b _ _ c (λk hk=>T7 k (.tail _ hk)) U g7 (O.old hbit) Y RP G_ λt u S T J Z b2 r V b5 b6=>kk t u S T J Z b2 ⟨r.from_,r.true_,r.here,λy hy=>r.seen y ?_,r.all⟩ V b5 b6⟩
          rcases hy with z | ⟨k,hk,z⟩
          · exact .inl (.inl z)
          · rcases YB.1 hk with rfl | hk
            · exact .inl (.inr z)
            · exact .inr ⟨k,hk,z⟩
        | false=>
          rw [Bool.not_false,bg]
          refine ⟨⟨by omega (splitDisjunctions:=true),by omega (splitDisjunctions:=true),by decide⟩,?_⟩
          have eo:Builtin.bitOr ((j:Nat):Int) (1 * 2 ^ ((o:Nat):Int).toNat) = ((j ||| 2 ^ o:Nat):Int):=by rw [← jQ]; simp
          rw [eo]
          unfold j6
          simp! only [List.set,g7]
          have nl:(nats b).length = b.length:=by unfold nats; rw [ZG]
          refine ⟨rfl,by rw [nl]; omega,?_⟩
          have e8:ae M (ab c a (.lst (nats b ++ [.int ((o:Nat):Int)]))):=U.put T6
          have g8:ab c a (MO.lst (nats b ++ [.int ((o:Nat):Int)])) a = some (.lst (nats (b ++ [o]))):=by rw [aa]; unfold nats; rw [ZN]; rfl
          generalize ab c a (MO.lst (nats b ++ [.int ((o:Nat):Int)])) = J at *
          have Xz:j ||| 2 ^ o < 2 ^ m:=Nat.or_lt_two_pow Y (Nat.pow_lt_pow_right 'c' ol)
          have X0:=Cr hbit
          refine ⟨hg _ e8,ih (λy=>past y \/ y = o) (j ||| 2 ^ o) (b ++ [o]) _ _ J (λk hk=>T7 k (.tail _ hk)) e8 g8 (O.new k3) Xz (λy hy=>?_) (by rw [ZM,XC,X0]; omega) λt u S T M9 Z b2 r V b5 b6=>kk t u S T M9 Z b2 ⟨r.from_,r.true_,r.here,λy hy=>r.seen y ?_,r.all⟩ V b5 b6⟩
          · rcases YC.1 hy with z | z
            · exact RP y z
            · rw [XO.1 z]; exact ol
          · rcases hy with z | ⟨k,hk,z⟩
            · exact .inl (.inl z)
            · rcases YB.1 hk with rfl | hk
              · exact .inl (.inr z)
              · exact .inr ⟨k,hk,z⟩
    have ed:∀ k ∈ df a_ x,0<=k.1/\k.1 < (m:Int)/\cy (aZ a_ m) x k.1.toNat:=λk hk=>by
      have:=mR ok x k hk
      exact ⟨this.1,this.2,(pF O4).2 ⟨k,hk,rfl⟩⟩
    refine R _ _ (λc U=>U _ _ (a3 x _ hr)) (df a_ x) _ w l _ _ M6 ed e6 g6 G.pop hw (λy hy=>hx y (by simp [hy])) (YG _) λt u S T J Z b2 r V b5 b6=>?_
    have lw:=qI V
    rw [ZM,XC] at hn
    refine ⟨2 * m + u.length - 2 * (cJ t).length,by omega,t,u,S,T,rfl,Z,b2,r.end_ λg hg=>?_,V,b5,by omega,by omega⟩
    obtain ⟨k,hk,e⟩:=(pF O4).1 hg
    exact .inr ⟨k,hk,e⟩
end
section
variable {cn:Cn}{ds:List D}{M:MH}{Q:DK}
def ig:Ss:=#v[.ret (.bl true)]
def eg:Ss:=#v[.ite (.and (.cmp .NotIn (.var 4) (.var 0)) (.cmp .NotIn (.var 4) (.var 2))) #v[.ret (.bl false)] .nil]
def ii:Ss:=#v[.for (.tp [4,5]) (.seq (.ix (.var 1) (.var 3))) eg]
def ka:Ss:=.cons (.for (.nm 3) (.seq (.var 0)) ii) ig
theorem Hj(o:Nat)(p:Zj):x5 (⇑o) (nats p)=decide (o∈p):=by
 unfold x5 nats;rw[List.any_map,XM,List.any_eq_true,decide_eq_true_iff];constructor
 ·rintro⟨x,hx,e⟩
  have e:ba (⇑x) (⇑o)=true:=e;rw[ay,beq_iff_eq] at e;have:x=o:=by omega
  rw[←this];exact hx
 ·intro h
  refine⟨o,h,?_⟩;show ba (⇑o) (⇑o)=true;rw[ay];exact XG _
theorem qL(o:Nat):∀a:List Nat,(eM (bJ a) (.inl (o:Int))).isSome=decide (o∈a)
 |[]=>rfl
 |x::a=>by
  have b:=qL o a;unfold eM bJ at b ⊢;rw[YL,XF];by_cases h:x=o
  ·subst h
   simp
  ·have:decide ((Sum.inl (x:Int):Key)=.inl (o:Int))=false:=ZR λz=>h (by have:=Sum.inl.inj z;omega)
   rw[this];simp only[YB,show ¬o=x from λz=>h z.symm,false_or];exact b
def spReadyL:aK:=λds M Q=>∃(p a:Zj) (L kd m:Nat) (a_:Zx),ds=[.tup (nats p),.ref L,.ref kd]/\qK M L m a_/\fE m a_/\M kd=some (.dic (bJ a))/\(∀x∈p,x<m)/\Q (.bl (jY (aZ a_ m) p (a8 a))) M
theorem rd_ready(h:spReadyL ds M Q):wSs cn ka (fin Q) (aw ["","","","","",""] ds) M:=by
 obtain⟨p,c,L,kd,m,a_,rfl,⟨rs,R,T,G⟩,ok,hk,hp,q⟩:=h;show wSs cn ka (fin Q) [some (.tup (nats p)),↑L,↑kd,none,none,none] M;have f:∀(g:MH->Prop) (E:cE) (x:D),g M->∀(rest:List (Int×Bool)) (a b:Zy),(∀k∈rest,0<=k.1/\k.1<(m:Int)) ->
   (∀r t,(rest.all λk=>decide (k.1.toNat∈p)||decide (k.1.toNat∈c))=true->E.nx [some (.tup (nats p)),↑L,↑kd,some x,r,t] M)->((rest.all λk=>decide (k.1.toNat∈p)||decide (k.1.toNat∈c))=false->E.rt (.bl false) M) ->
   ax g (.tp [4,5]) (wSs cn eg) E (rest.map pD) [some (.tup (nats p)),↑L,↑kd,some x,a,b] M:=by
  intro g E x hg rest;induction rest with
  |nil=>
   intro a b _ h1 _;rw[YZ,ax];exact h1 a b rfl
  |cons k rest B=>
   intro a b j h1 J;rw[YL,ax];obtain⟨S,U⟩:=j k (.head _);obtain⟨K,V⟩:=k;obtain⟨o,rfl⟩:∃o:Nat,K=(o:Int):=⟨K.toNat,(XQ S).symm⟩;refine⟨rfl,?_⟩;unfold eg;simp! only[List.set,hk];refine⟨⟨rfl,uT _,EV _⟩,?_⟩;rw[Hj];have go:(decide (o∈p)||decide (o∈c))=true->∀a b,ax g (.tp [4,5]) (wSs cn eg) E (rest.map pD) [some (.tup (nats p)),↑L,↑kd,some x,a,b] M:=λz a b=>
    B a b (λk hk=>j k (.tail _ hk)) (λr t y=>h1 r t (by rw[XS,y];exact(Bool.and_true _).trans z)) (λy=>J (by rw[XS,y,Bool.and_false]))
   by_cases op:o∈p
   ·rw[YV op,Bool.not_true,aI]
    exact⟨hg,go (by rw[YV op];rfl) _ _⟩
   ·rw[ZR op,Bool.not_false,bg]
    simp only[cx,nX,mw,mr,qL];by_cases u:o∈c
    ·rw[YV u,Bool.not_true,aI]
     exact⟨hg,go (by rw[YV u,Bool.or_true]) _ _⟩
    ·rw[ZR u,Bool.not_false,bg]
     refine J ?_;rw[XS];show((decide (o∈p)||decide (o∈c))&&_)=false;rw[ZR op,ZR u];rfl
 have O:∀x,x<m->((df a_ x).all λk=>decide (k.1.toNat∈p)||decide (k.1.toNat∈c))=decide (ck ((aZ a_ m).getD x 0) (a8 c|||a8 p)=0):=by
  intro x hx;rw[XM,XN,decide_eq_true_iff,lr];constructor
  ·intro h g hg
   obtain⟨k,n,rfl⟩:=(pF hx).1 hg
   have:=h k n
   rw[Nat.testBit_or,bh,bh,Bool.or_comm];exact this
  ·intro h k n
   have:=h k.1.toNat ((pF hx).2 ⟨k,n,rfl⟩)
   rw[Nat.testBit_or,bh,bh,Bool.or_comm] at this;exact this
 have outer:∀(l:Zj) (C a b:Zy),(∀x∈l,x<m)->Q (.bl (l.all λx=>decide (ck ((aZ a_ m).getD x 0) (a8 c|||a8 p)=0))) M->ax (λ_=>True) (.nm 3) (wSs cn ii) { nx:=wSs cn ig (fin Q),rt:=Q } (nats l) [some (.tup (nats p)),↑L,↑kd,C,a,b] M:=by
  intro l;induction l with
  |nil=>
   intro C a b _ q;rw[show nats []=[] from rfl,ax];unfold ig;simp! only[];exact q
  |cons x l B=>
   intro C a b hl q;have P:=hl x (.head _);have j:rs[x]?=some (rs[x]' 'a'):=ZE _;rw[show nats (x::l)=⇑x::nats l from rfl,ax];unfold ii;simp! only[List.set,R,hU j,G x _ j];refine f _ _ _ (G x _ j) (df a_ x) _ _ (λk n=>mR ok x k n) (λr t z=>⟨trivial,B _ _ _ (λy hy=>hl y (.tail _ hy)) ?_⟩) λz=>?_
   ·rw[XS,←O x P,z] at q
    exact q
   ·rw[XS,←O x P,z] at q
    exact q
 unfold ka;simp! only[List.set];exact outer p none none none hp q
end
section
variable {cn:Cn}{ds:List D}{M:MH}{Q:DK}
def gF:Ss:=#v[.ret (.var 1)]
def gG:Ss:=#v[.ite (.cmp .Eq (.ix (.var 3) (.int 0)) (.var 2)) #v[.expr (.mt .append (.var 1) #v[.bi .tuple #v[.var 3]])] .nil]
def kQ:Ss:=.cons (.ite (.cmp .Eq (.var 3) (.lst .nil)) #v[.set 3 (.lst #v[.var 2])] .nil) gG
def dD:Ss:=.cons (.setC 3 1 (.var 4) (.nm 4) (.rg1 #v[.bi .len #v[.var 0]]) (.yes (.cmp .Eq (.bin .BitAnd (.bin .BitAnd (.bin .RShift (.ix (.var 0) (.var 2)) (.var 4)) (.bin .RShift (.ix (.var 0) (.var 4)) (.var 2))) (.int 1)) (.int 1)))) kQ
def kR:Ss:=.cons (.for (.nm 2) (.rg1 #v[.bi .len #v[.var 0]]) dD) gF
def iZ:Ss:=.cons (.set 1 (.lst .nil)) kR
theorem Hk(a b o f:Nat):(Builtin.bitAnd (((a:Nat):Int) / 2 ^ ((o:Nat):Int).toNat) (((b:Nat):Int) / 2 ^ ((f:Nat):Int).toNat)%2==1)=(a.testBit o&&b.testBit f):=by
 have e1:((a:Nat):Int) / 2 ^ ((o:Nat):Int).toNat=((a / 2 ^ o:Nat):Int):=by rw[YW];simp
 have e2:((b:Nat):Int) / 2 ^ ((f:Nat):Int).toNat=((b / 2 ^ f:Nat):Int):=by rw[YW];simp
 rw[e1,e2,yy];have t:∀x y:Nat,(a.testBit o&&b.testBit f)=((a / 2 ^ o)&&&(b / 2 ^ f)).testBit 0:=λ_ _=>by
  rw[Nat.testBit_and];congr 1<;>rw[Nat.testBit_eq_decide_div_mod_eq,Nat.testBit_eq_decide_div_mod_eq]<;>simp
 rw[t 0 0];generalize (a / 2 ^ o)&&&(b / 2 ^ f)=z;rw[Nat.testBit_eq_decide_div_mod_eq];by_cases h:z%2=1
 ·have:((z:Nat):Int)%2=1:=by omega
  rw[this];simp[h]
 ·have:((z:Nat):Int)%2=0:=by omega
  rw[this];simp[h]
def JN(a:Zj)(f:Nat):D->Bool
 |.int o=>(a.getD f 0).testBit o.toNat&&(a.getD o.toNat 0).testBit f
 |_=>false
def spGroups:aK:=λds M Q=>∃(a:Addr) (ls rs b:Zj),ds=[.ref a]/\M a=some (.lst (nats b))/\Walk ls rs/\JJ ls b/\ls.length<=120/\∀p M',M p=none->ae M M'->M' p=some (.lst ((bw (aV rs) ls.length ls.length).map am))->Q (.ref p) M'
theorem rd_groups(h:spGroups ds M Q):wSs cn iZ (fin Q) (aw ["","","",""] ds) M:=by
 obtain⟨a,ls,rs,b,rfl,ha,w,hw,hl,q⟩:=h;show wSs cn iZ (fin Q) [↑a,none,none,none] M;have W:=w.eqv;have hsz:(4000:Nat)<sizeLine:=by decide
 have Y:(nats b).length=ls.length:=by unfold nats;rw[ZG,hw.1]
 unfold iZ;simp! only[List.set];intro j L;have e1:ae M (ab M j (.lst [])):=ae.new L;have g1:ab M j (MO.lst []) j=some (.lst ((bw (aV rs) ls.length 0).map am)):=aa;generalize ab M j (MO.lst [])=M1 at *;unfold kR;simp! only[List.set,e1 _ _ ha];rw[Y,cg];refine⟨by omega,?_⟩;have body:∀(E:cE) (k:Nat) (m:Zy) (g:MH),k<ls.length->ae M g->g j=some (.lst ((bw (aV rs) ls.length k).map am)) ->
   (∀O u,ae M u->u j=some (.lst ((bw (aV rs) ls.length (k+1)).map am))->E.nx [↑a,↑j,~~~k,O] u) ->
   wSs cn dD E [↑a,↑j,~~~k,m] g:=by
  intro E k m g hk r B kk;unfold dD;simp! only[List.set,List.cons_append,XE,List.replicate,r _ _ ha];rw[Y,cg];refine⟨by omega,?_⟩;refine dl (p:=JN b k) (ok:=λσ=>∃v,σ=[↑a,↑j,~~~k,m,v]) [] _ ⟨none,rfl⟩ ?_ ?_
  ·intro d hd σ f_ rest ⟨v,hv⟩ k0
   subst hv;obtain⟨o,ho,rfl⟩:=List.mem_map.1 hd;have ol:o<ls.length:=ZX.1 ho;have y:=k0 _ ⟨~~~o,rfl⟩;rw[show JN b k (⇑o)=((b.getD k 0).testBit o&&(b.getD o 0).testBit k) from rfl] at y;rw[aq];simp! only[List.set,r _ _ ha,sH (l:=b) (f:=k) (by rw[hw.1];exact hk),sH (l:=b) (f:=o) (by rw[hw.1];exact ol),PyProof.Rows.bitAnd_m1,ay];refine⟨by omega,by omega,⟨rfl,rfl,YM _⟩,?_⟩;rw[Hk];cases hb:((b.getD k 0).testBit o&&(b.getD o 0).testBit k) with
   |true=>
    rw[hb] at y;rw[bg];exact⟨trivial,y⟩
   |false=>
    rw[hb] at y;rw[show f_++cond false [D.int (o:Int)] []=f_ from ZA f_] at y;rw[aI];exact⟨trivial,y⟩
  ·have ep:(nats (List.range ls.length)).filter (JN b k)=nats (fU b ls.length k):=by
    unfold nats fU;rw[List.filter_map];rfl
   rw[XE,ep];intro p3 NI;have C:ae g (ab g p3 (.lst (nats (fU b ls.length k)))):=ae.new NI;have G:ab g p3 (MO.lst (nats (fU b ls.length k))) p3=some (.lst (nats (fU b ls.length k))):=aa;generalize ab g p3 (MO.lst (nats (fU b ls.length k)))=u at *;have Xn:=pB (aV rs) ls.length k;have cont:∀(P:Addr) (J:MH),ae g J->J P=some (.lst (nats (Cp b ls.length k)))->wSs cn gG E [↑a,↑j,~~~k,↑P] J:=by
    intro P J R Z;rw[Hb w hw hk] at Z;obtain⟨c,t,ec⟩:∃c t,cls (aV rs) ls.length k=c::t:=by
     cases ec:cls (aV rs) ls.length k with
     |nil=>
      have:k∈cls (aV rs) ls.length k:=ca.2 ⟨hk,W.refl k hk⟩
      rw[ec] at this;cases this
     |cons c t=>exact⟨c,t,rfl⟩
    have hh:=wD W hk;have VL:=Z;rw[ec] at VL;have VM:=R _ _ B;unfold gG;simp! only[List.set,VL,show nats (c::t)=⇑c::nats t from rfl,bM,ay];refine⟨⟨rfl,rfl,YM _⟩,?_⟩;by_cases S:c=k
    ·have T:dv (aV rs) k=true:=hh.1 (by rw[ec,S];rfl)
     rw[show((c:Int)==(k:Int))=true by rw[S];exact XG _,bg];simp! only[VM,cx];refine⟨rfl,by rw[ZG];omega,?_⟩;refine kk _ _ ((r.trans R).put L) ?_;rw[aa,wG T,ZN,ec];rfl
    ·have T:dv (aV rs) k=false:=by
      cases z:dv (aV rs) k with
      |false=>rfl
      |true=>
       have:=hh.2 z
       rw[ec] at this;cases this;exact absurd rfl S
     rw[show((c:Int)==(k:Int))=false from beq_false_of_ne 'a',aI];refine kk _ _ (r.trans R) ?_;rw[wF T];exact VM
   unfold kQ;simp! only[List.set];intro p4 X1;have K:=ae.new X1 (o:=.lst []);rw[aa,K _ _ G];refine⟨⟨uT _,rfl,EV _⟩,?_⟩;rw[show cI (nats (fU b ls.length k)) []=decide (fU b ls.length k=[]) from pC _ []];by_cases hg:fU b ls.length k=[]
   ·rw[YV hg,bg]
    intro p5 X2;refine cont p5 _ ((C.trans K).then X2) ?_;rw[aa];unfold Cp;rw[if_pos hg];rfl
   ·rw[ZR hg,aI]
    refine cont p3 _ (C.trans K) ?_;rw[K _ _ G];unfold Cp;rw[if_neg hg]
 have U:∀(n k:Nat),k+n=ls.length->∀(V m:Zy) (g:MH),ae M g->g j=some (.lst ((bw (aV rs) ls.length k).map am)) ->
   ax (λ_=>True) (.nm 2) (wSs cn dD) { nx:=wSs cn gF (fin Q),rt:=Q } (nats (List.range' k n)) [↑a,↑j,V,m] g:=by
  intro n;induction n with
  |zero=>
   intro k hk V m g r B;rw[show nats (List.range' k 0)=[] from rfl,ax];unfold gF;simp! only[];have:k=ls.length:=by omega
   subst this;exact q j g L r B
  |succ n ih=>
   intro k hk V m g r B;rw[show nats (List.range' k (n+1))=⇑k::nats (List.range' (k+1) n) from rfl,ax];exact body _ k m g 'a' r B λO u C G=>⟨trivial,ih (k+1) 'a' _ O u C G⟩
 rw[List.range_eq_range'];exact U ls.length 0 'a' none none M1 e1 g1
end
section
variable {cn:Cn}{ds:List D}{M:MH}{Q:DK}
def kc:Ss:=#v[.ret (.var 3)]
def ke:Ss:=#v[.putIx (.var 4) (.var 7) (.bl true)]
def oy:Ss:=#v[.for (.nm 7) (.seq (.ix (.var 6) (.int 0))) ke]
def oA:Ss:=.cons (.expr (.mt .append (.var 3) #v[.ix (.var 6) (.int 0)])) oy
def kf:Ss:=.cons (.setC 6 1 (.var 8) (.nm 8) (.seq (.var 2)) (.yes (.and (.cmp .NotIn (.ix (.var 8) (.int 0)) (.var 4)) (.val (.fn 0 #v[.var 8,.var 0,.var 4]))))) oA
def oB:Ss:=.cons (.for (.nm 5) (.rg1 #v[.bi .len #v[.var 2]]) kf) kc
def oC:Ss:=.cons (.set 4 .dnew) oB
def oE:Ss:=.cons (.set 3 (.lst .nil)) oC
def oF:Ss:=.cons (.set 2 (.fn 1 #v[.var 1])) oE
def ir_law_due:Ss:=.cons (.setC 1 1 (.fn 2 #v[.var 0,.var 8]) (.nm 8) (.rg1 #v[.bi .len #v[.var 0]]) .no) oF
def gH(a:Zj)(f:Nat):List Nat:=if f∈a then a else a++[f]
theorem Cs(a:Zj)(f:Nat):putD (bJ a) (.inl (f:Int)) (.bl true)=bJ (gH a f):=by
 unfold putD gH;have ha:((bJ a).any λb=>decide (b.1=(.inl (f:Int):Key)))=decide (f∈a):=by
  unfold bJ;rw[List.any_map,XM,List.any_eq_true,decide_eq_true_iff];constructor
  ·rintro⟨x,hx,e⟩
   have e:(Sum.inl (x:Int):Key)=.inl (f:Int):=XR e
   have:=Sum.inl.inj e
   have:x=f:=by omega
   rw[←this];exact hx
  ·intro h
   exact⟨f,h,YV rfl⟩
 rw[ha];by_cases h:f∈a
 ·rw[YV h,if_pos rfl,if_pos h]
  unfold bJ;rw[ZO];refine ZP λx _=>?_
  show(if(Sum.inl (x:Int):Key)=.inl (f:Int) then((Sum.inl (x:Int):Key),D.bl true) else(.inl (x:Int),.bl true))=_;split<;>rfl
 ·rw[ZR h,if_neg YF,if_neg h]
  unfold bJ;rw[ZN];rfl
theorem EX(a:Zj)(f:Nat):a8 (gH a f)=a8 a|||2 ^ f:=by
 refine Nat.eq_of_testBit_eq λg=>?_
 rw[Nat.testBit_or,bh,bh,Nat.testBit_two_pow,XM,Bool.or_eq_true,decide_eq_true_iff,decide_eq_true_iff,decide_eq_true_iff];unfold gH;split
 ·rename_i h
  exact⟨.inl,λz=>z.elim id λe=>e▸h⟩
 ·rw[YC,XO]
  exact⟨λz=>z.imp id Eq.symm,λz=>z.imp id Eq.symm⟩
theorem Hl{c:Zj}{f m:Nat}(nd:c.Nodup)(h:∀x∈c,x<m)(hf:f<m):(gH c f).Nodup/\∀x∈gH c f,x<m:=by
 unfold gH;split
 ·exact⟨nd,h⟩
 ·rename_i hn
  refine⟨List.nodup_append.2 ⟨nd,by simp,λa ha b hb e=>hn (by rw[XO.1 hb] at e;rw[←e];exact ha)⟩,λx hx=>?_⟩;rcases YC.1 hx with z | z
  ·exact h x z
  ·rw[XO.1 z];exact hf
theorem uh:∀(p a:Zj),a8 (p.foldl gH a)=a8 a|||a8 p
 |[],a=>by
  show a8 a=a8 a|||0;rw[Nat.or_zero]
 |f::p,a=>by
  rw[List.foldl_cons,uh p (gH a f),EX];refine Nat.eq_of_testBit_eq λg=>?_
  rw[Nat.testBit_or,Nat.testBit_or,Nat.testBit_or,bh,bh,bh,Nat.testBit_two_pow,Bool.or_assoc];congr 1;rw[XM,Bool.or_eq_true,decide_eq_true_iff,decide_eq_true_iff,decide_eq_true_iff,YB];exact⟨λz=>z.imp Eq.symm id,λz=>z.imp Eq.symm id⟩
def spDue:aK:=λds M Q=>∃(L m:Nat) (a_:Zx),ds=[.ref L]/\qK M L m a_/\fE m a_/\∀p M',M p=none->ae M M'->M' p=some (.lst ((ow a_ m).map am))->Q (.ref p) M'
theorem rd_due(f0:cn.F.getD 0 (λ_ _ _=>False)=spReadyL)(f1:cn.F.getD 1 (λ_ _ _=>False)=spGroups)(f2:cn.F.getD 2 (λ_ _ _=>False)=spComeTo)(h:spDue ds M Q):wSs cn ir_law_due (fin Q) (aw ["","","","","","","",""] ds) M:=by
 obtain⟨L,m,a_,rfl,A,ok,q⟩:=h;show wSs cn ir_law_due (fin Q) [↑L,none,none,none,none,none,none,none] M;have hsz:(4000:Nat)<sizeLine:=by decide
 have hm:=ok.most;obtain⟨rs,a1,a2,a3⟩:=A.ext (ae.refl M);have R:(aZ a_ m).length=m:=by unfold aZ;rw[ZG,ZL]
 have low:∀f g,cy (aZ a_ m) f g->g<(aZ a_ m).length:=wK ok;have W:Walk (aZ a_ m) (br (aZ a_ m) m):=by
  refine⟨by rw[fT],low,λf g hf=>?_⟩
  have:=Cl low (f:=f) (g:=g) hf
  rw[R] at this;exact this
 unfold ir_law_due;simp! only[List.set,List.cons_append,XE,List.replicate,a1];have nl:(af rs).length=m:=by unfold af;rw[ZG];exact a2
 rw[nl,cg];refine⟨⟨by omega,by omega⟩,?_⟩;have run:∀(k:Nat) (a:MH) (Z:DK),k<m->ae M a->(∀M7 w,ae a M7->(∀g,w.testBit g=true↔Rp (aZ a_ m) k g)->Z (.int ((w:Nat):Int)) M7) ->
   wE cn (.fn 2 (.cons (.var 0) (.cons (.var 8) .nil))) [↑L,none,none,none,none,none,none,none,~~~k] a Z:=by
  intro k a Z hk B S;simp! only[f2];exact⟨L,m,a_,k,rfl,A.ext B,ok,hk,S⟩
 have step:∀(g:MH->Prop) (F:List D->MH->Prop),(∀M',g M')->(∀(u:Zj) (a:MH),ae M a->JJ (aZ a_ m) u->F (nats u) a)->∀(n k:Nat),k+n=m->∀(u:Zj) (v:Zy) (a:MH),ae M a->u.length=k->(∀i g,i<k->((u.getD i 0).testBit g=true↔Rp (aZ a_ m) i g)) ->
   aq g (.nm 8) (λx M Q=>Q true M) (wE cn (.fn 2 (.cons (.var 0) (.cons (.var 8) .nil)))) F (nats (List.range' k n)) (nats u) [↑L,none,none,none,none,none,none,none,v] a:=by
  intro g F hg K n;induction n with
  |zero=>
   intro k hk u v a B hl T9;rw[show nats (List.range' k 0)=[] from rfl,aq];have:k=m:=by omega
   subst this;exact K u a B ⟨by rw[R];exact hl,λf g hf=>T9 f g (by rw[R] at hf;exact hf)⟩
  |succ n ih=>
   intro k hk u v a B hl T9;rw[show nats (List.range' k (n+1))=⇑k::nats (List.range' (k+1) n) from rfl,aq];show wE cn (.fn 2 (.cons (.var 0) (.cons (.var 8) .nil))) [↑L,none,none,none,none,none,none,none,~~~k] a λy M2=>g M2/\aq g (.nm 8) (λx M Q=>Q true M) _ F (nats (List.range' (k+1) n)) (nats u++[y]) [↑L,none,none,none,none,none,none,none,~~~k] M2
   refine run k a _ 'a' B λM7 w e7 hw=>⟨hg _,?_⟩
   rw[show nats u++[.int ((w:Nat):Int)]=nats (u++[w]) by unfold nats;rw[ZN];rfl];refine ih (k+1) 'a' (u++[w]) _ M7 (B.trans e7) (by rw[ZM,hl];rfl) λi g hi=>?_
   by_cases X3:i<k
   ·rw[List.getD_eq_getElem?_getD,ZF 'a',←List.getD_eq_getElem?_getD]
    exact T9 i g X3
   ·have:i=k:=by omega
    subst this;rw[List.getD_eq_getElem?_getD,ZI 'a',hl,Nat.sub_self];exact hw g
 rw[List.range_eq_range'];refine step _ _ (λ_=>trivial) (λu a B hw=>?_) m 0 'a' [] none M (ae.refl M) rfl (λi g hi=>absurd hi (Nat.not_lt_zero i));intro J VN;have T:ae M (ab a J (.lst (nats u))):=B.then VN;have g6:ab a J (MO.lst (nats u)) J=some (.lst (nats u)):=aa;generalize ab a J (MO.lst (nats u))=U at *;unfold oF;simp! only[List.set,f1];refine⟨J,_,_,u,rfl,g6,W,hw,by omega,λpg C RN e8 g8=>?_⟩;rw[R] at g8;have Q3:=T.trans e8;clear B VN T e8 g6 RN run step hw;generalize Mb:bw (aV (br (aZ a_ m) m)) m m=ps at *;unfold oE;simp! only[List.set];intro j OM;have VO:M j=none:=Q3.free OM;have VP:pg≠j:=λz=>by rw[z,OM] at g8;cases g8
 have e9:=Q3.then OM (o:=.lst []);have g9:ab C j (MO.lst []) j=some (.lst ([].map am)):=aa;have T_:ab C j (MO.lst []) pg=some (.lst (ps.map am)):=by rw[aL VP];exact g8
 generalize ab C j (MO.lst [])=G at *;unfold oC;simp! only[List.set];intro kd RR;have X4:M kd=none:=e9.free RR;have Ua:j≠kd:=λz=>by rw[z,RR] at g9;cases g9
 have VQ:pg≠kd:=λz=>by rw[z,RR] at T_;cases T_
 have MY:=e9.then RR (o:=.dic []);have X5:ab G kd (MO.dic []) kd=some (.dic (bJ [])):=aa;have Ub:ab G kd (MO.dic []) j=some (.lst ([].map am)):=by rw[aL Ua];exact g9
 have Q7:ab G kd (MO.dic []) pg=some (.lst (ps.map am)):=by rw[aL VQ];exact T_
 generalize ab G kd (MO.dic [])=Nr at *;unfold oB;simp! only[List.set,Q7];have PK:=pB (aV (br (aZ a_ m) m)) m m;rw[Mb] at PK;rw[ZG,cg];refine⟨by omega,?_⟩;have qv:=W.eqv;rw[R] at qv;have Q8:∀y∈ps,∃c t,y=c::t/\∀x∈y,x<m:=λy hy=>by
  rw[←Mb] at hy;obtain⟨f,hf,T2,rfl⟩:=(hV qv).1 hy;obtain⟨t,e⟩:=dS qv hf T2;exact⟨f,t,e,λx hx=>(ca.1 hx).1⟩
 have ac:∀(n k:Nat),k+n=ps.length->∀(r:Zj) (out:List (List Nat)) (v5 v6 O:Zy) (a:MH),ae M a->a pg=some (.lst (ps.map am))->a j=some (.lst (out.map am))->a kd=some (.dic (bJ r))->r.Nodup->(∀x∈r,x<m)->(ps.filter (nd (a8 r))).length=n->Dn (br (aZ a_ m) m) m (a8 r)->out++qb (aZ a_ m) ps n (a8 r)=qb (aZ a_ m) ps ps.length 0->out.length=k ->
   ax (λ_=>True) (.nm 5) (wSs cn kf) { nx:=wSs cn kc (fin Q),rt:=Q } (nats (List.range' k n)) [↑L,↑J,↑pg,↑j,↑kd,v5,v6,O] a:=by
  intro n;induction n with
  |zero=>
   intro k hk r out v5 v6 O a B b1 b2 b3 RL VR hn hd hs ho;rw[show nats (List.range' k 0)=[] from rfl,ax];unfold kc;simp! only[];refine q j a VO B ?_;rw[b2];have:out=ow a_ m:=by
    unfold ow;rw[Mb,←hs];simp[qb]
   rw[this]
  |succ n ih=>
   intro k hk r out v5 v6 O a B b1 b2 b3 RL VR hn hd hs ho;have st:=wH W (dn:=a8 r) (n:=n) (by rw[R];exact hd) (by rw[R,Mb];exact hn);simp only[R,Mb] at st;obtain⟨p,s1,s2,s3,s4,s5,s6,s7⟩:=st;rw[show nats (List.range' k (n+1))=⇑k::nats (List.range' (k+1) n) from rfl,ax];have PL:∀(y:Zj) (Z:Bool->MH->Prop),y∈ps->Z (may (aZ a_ m) (a8 r) y) a ->
     kE cn (.yes (.and (.cmp .NotIn (.ix (.var 8) (.int 0)) (.var 4)) (.val (.fn 0 (.cons (.var 8) (.cons (.var 0) (.cons (.var 4) .nil))))))) [↑L,↑J,↑pg,↑j,↑kd,~~~k,v6,O,some (am y)] a Z:=by
    intro y Z hy S;obtain⟨c,t,rfl,L8⟩:=Q8 y hy;simp! only[f0,am,show nats (c::t)=⇑c::nats t from rfl,bM,b3,cx,nX,mw,mr,qL];unfold may at S;rw[List.headD_cons,bh] at S;by_cases hc:c∈r
    ·rw[YV hc,Bool.not_true,aI]
     rw[YV hc,Bool.not_true,Bool.false_and] at S;exact S
    ·rw[ZR hc,Bool.not_false,bg]
     rw[ZR hc,Bool.not_false,Bool.true_and] at S;exact⟨c::t,r,L,kd,m,a_,rfl,A.ext B,ok,b3,L8,S⟩
   have PM:∀(g:MH->Prop) (F:List D->MH->Prop),g a->∀(l:List (List Nat)),(∀y∈l,y∈ps)->∀(f_:List D) (v:Zy),F (f_++(l.filter (may (aZ a_ m) (a8 r))).map am) a ->
     aq g (.nm 8) (kE cn (.yes (.and (.cmp .NotIn (.ix (.var 8) (.int 0)) (.var 4)) (.val (.fn 0 (.cons (.var 8) (.cons (.var 0) (.cons (.var 4) .nil)))))))) (wE cn (.var 8)) F (l.map am) f_ [↑L,↑J,↑pg,↑j,↑kd,~~~k,v6,O,v] a:=by
    intro g F hg l;induction l with
    |nil=>
     intro _ f_ v K;rw[YZ,aq];rw[List.filter_nil,YZ,ZA] at K;exact K
    |cons y l Pu=>
     intro hy f_ v K;rw[YL,aq];refine PL y _ (hy y (.head _)) ?_;cases hb:may (aZ a_ m) (a8 r) y with
     |true=>
      rw[bg];refine⟨hg,Pu (λz hz=>hy z (.tail _ hz)) (f_++[am y]) _ ?_⟩;rw[List.filter_cons,hb] at K;simpa using K
     |false=>
      rw[aI];refine⟨hg,Pu (λz hz=>hy z (.tail _ hz)) f_ _ ?_⟩;rw[List.filter_cons,hb] at K;simpa using K
   unfold kf;simp! only[List.set,List.cons_append,XE,List.replicate,b1];refine PM _ _ b1 ps (λy hy=>hy) [] none ?_;obtain⟨rest,er⟩:∃rest,ps.filter (may (aZ a_ m) (a8 r))=p::rest:=by
    have hh:(ps.filter (may (aZ a_ m) (a8 r))).head?=some p:=by rw[List.head?_filter];exact s1
    cases er:ps.filter (may (aZ a_ m) (a8 r)) with
    |nil=>rw[er] at hh;cases hh
    |cons b l=>rw[er] at hh;cases hh;exact⟨l,rfl⟩
   rw[XE,er,YL];intro V Nz;have nf:j≠V:=λz=>by rw[←z,b2] at Nz;cases Nz
   have T:=ae.new Nz (o:=.lst (am p::rest.map am));have r6:ab a V (MO.lst (am p::rest.map am)) V=some (.lst (am p::rest.map am)):=aa;generalize ab a V (MO.lst (am p::rest.map am))=U at *;unfold oA;simp! only[List.set,T _ _ b2,r6,bM];refine⟨rfl,by rw[ZG];omega,?_⟩;have c1:ae M (ab U j (.lst (out.map am++[am p]))):=(B.trans T).put VO;have c2:ab U j (MO.lst (out.map am++[am p])) j=some (.lst ((out++[p]).map am)):=by rw[aa,ZN];rfl
   have c3:ab U j (MO.lst (out.map am++[am p])) pg=some (.lst (ps.map am)):=by rw[aL VP];exact T _ _ b1
   have c4:ab U j (MO.lst (out.map am++[am p])) kd=some (.dic (bJ r)):=by rw[aL (Ne.symm Ua)];exact T _ _ b3
   have c5:ab U j (MO.lst (out.map am++[am p])) V=some (.lst (am p::rest.map am)):=by rw[aL (Ne.symm nf)];exact r6
   generalize ab U j (MO.lst (out.map am++[am p]))=M7 at *;have Y:∀(E:cE) (l P:Zj) (O:Zy) (C:MH),ae M C->C pg=some (.lst (ps.map am))->C j=some (.lst ((out++[p]).map am))->C kd=some (.dic (bJ P))->P.Nodup->(∀x∈P,x<m)->(∀x∈l,x<m) ->
     (∀Uc G,ae M G->G pg=some (.lst (ps.map am))->G j=some (.lst ((out++[p]).map am))->G kd=some (.dic (bJ (l.foldl gH P)))->(l.foldl gH P).Nodup->(∀x∈l.foldl gH P,x<m)->E.nx [↑L,↑J,↑pg,↑j,↑kd,~~~k,↑V,Uc] G) ->
     ax (λ_=>True) (.nm 7) (wSs cn ke) E (nats l) [↑L,↑J,↑pg,↑j,↑kd,~~~k,↑V,O] C:=by
    intro E l;induction l with
    |nil=>
     intro P O C d1 d2 d3 d4 d5 d6 _ kk;rw[show nats []=[] from rfl,ax];exact kk O C d1 d2 d3 d4 d5 d6
    |cons f l X6=>
     intro P O C d1 d2 d3 d4 d5 d6 d7 kk;rw[show nats (f::l)=⇑f::nats l from rfl,ax];unfold ke;simp! only[List.set,d4,Cs];have hf:=d7 f (.head _);obtain⟨n1,n2⟩:=Hl d5 d6 hf;have few:=mN d5 d6;refine⟨by unfold bJ;rw[ZG];omega,trivial,?_⟩;exact X6 (gH P f) _ _ (d1.put X4) (by rw[aL VQ];exact d2) (by rw[aL Ua];exact d3) aa n1 n2 (λx hx=>d7 x (.tail _ hx)) kk
   unfold oy;simp! only[List.set,c5,bM,am];obtain⟨_,_,_,L8⟩:=Q8 p s2;refine Y _ p r _ M7 c1 c3 c2 c4 RL VR L8 λUc G d1 d2 d3 d4 d5 d6=>⟨trivial,?_⟩
   have es:=uh p r;refine ih (k+1) 'a' (p.foldl gH r) (out++[p]) _ _ Uc G d1 d2 d3 d4 d5 d6 (by rw[es];exact s6) (by rw[es];exact s7) ?_ (by rw[ZM,ho];rfl);rw[es,←hs,qb,s1];simp
 have ef:ps.filter (nd (a8 []))=ps:=List.filter_eq_self.2 λp _=>by unfold nd;rw[bh];rfl
 rw[List.range_eq_range'];exact ac ps.length 0 'a' [] [] none none none Nr MY Q7 Ub X5 List.nodup_nil (λx hx=>nomatch hx) (by rw[ef]) Dn.zero rfl rfl
end
section
variable {cn:Cn}{ds:List D}{M:MH}{Q:DK}
def lz:Ss:=#v[.ret (.bl true)]
def lA:Ss:=#v[.ite (.or (.not (.val (.bi .isinst #v[.var 2,.ty "tuple"]))) (.cmp .Gt (.bi .len #v[.comp 1 (.var 3) (.nm 3) (.seq (.var 2)) (.yes (.val (.bi .isinst #v[.var 3,.ty "bool"])))]) (.int 0))) #v[.ret (.bl false)] .nil]
def qe:Ss:=.cons (.for (.nm 2) (.seq (.var 0)) lA) lz
def oG:Ss:=.cons (.ite (.or (.not (.val (.bi .isinst #v[.var 0,.ty "list"]))) (.cmp .NotEq (.var 0) (.var 1))) #v[.ret (.bl false)] .nil) qe
theorem jh:∀o:List (List Nat),aQ (o.map am)=true
 |[]=>rfl
 |p::o=>by
  rw[YL,aQ,ox,jh o];rfl
theorem uk:∀o:List (List Nat),bm (o.map am)<=30
 |[]=>YM _
 |p::o=>by
  rw[YL,bm];exact Nat.max_le.2 ⟨wL p,uk o⟩
def spIs:aK:=λds M Q=>∃(a b:Addr) (out:List (List Nat)),ds=[.ref a,.ref b]/\M a=some (.lst (out.map am))/\M b=some (.lst (out.map am))/\∀M',ae M M'->Q (.bl true) M'
theorem rd_is(h:spIs ds M Q):wSs cn oG (fin Q) (aw ["","",""] ds) M:=by
 obtain⟨a,b,out,rfl,ha,hb,q⟩:=h;show wSs cn oG (fin Q) [↑a,↑b,none] M;unfold oG;simp! only[List.set,ha,hb,iI,cx];refine⟨⟨by decide,by decide⟩,?_⟩;rw[show pS "list" "list" = true by decide,Bool.not_true,aI];refine⟨⟨jh _,jh _,uk _⟩,?_⟩;rw[kx _ (jh _),Bool.not_true,aI];have f:∀(l:List (List Nat)) (v:Zy) (c:MH),ae M c->ax (λM'=>M' a=some (.lst (out.map am))) (.nm 2) (wSs cn lA) { nx:=wSs cn lz (fin Q),rt:=Q } (l.map am) [↑a,↑b,v] c:=by
  intro l;induction l with
  |nil=>
   intro v c g;rw[YZ,ax];unfold lz;simp! only[];exact q c g
  |cons y l n=>
   intro v c g;rw[YL,ax];unfold lA;simp! only[List.set,List.cons_append,XE,List.replicate,am,iI];refine⟨⟨by decide,by decide⟩,?_⟩;rw[show pS "tuple" "tuple" = true by decide,Bool.not_true,aI];refine dl (p:=λ_=>false) (ok:=λσ=>∃v,σ=[↑a,↑b,some (.tup (nats y)),v]) [] _ ⟨none,rfl⟩ ?_ ?_
   ·intro d hd σ f_ rest ⟨v,hv⟩ r
    subst hv;obtain⟨o,t,rfl⟩:=List.mem_map.1 hd;have j:=r _ ⟨~~~o,rfl⟩;rw[show f_++cond false [D.int (o:Int)] []=f_ from ZA f_] at j;rw[aq];simp! only[List.set,iI];refine⟨⟨by decide,by decide⟩,?_⟩;rw[show pS "int" "bool" = false by decide,aI];exact⟨trivial,j⟩
   ·rw[XE,show(nats y).filter (λ_=>false)=[] from List.filter_eq_nil_iff.2 λ_ _=>YF]
    intro p hp;have m:=g.then hp (o:=.lst []);rw[aa];simp! only[];rw[show decide ((0:Int)<((([]:List D).length:Nat):Int))=false from rfl,aI];exact⟨m _ _ ha,n _ _ m⟩
 unfold qe;simp! only[List.set,ha];exact f out none M (ae.refl M)
end
section
variable {cn:Cn}{ds:List D}{M:MH}{Q:DK}
def lS:Ss:=#v[.ret (.bin .Mod (.bin .Mult (.var 2) (.var 2)) (.int 2147483587))]
def lT:Ss:=.cons (.set 2 (.bin .Add (.bin .Mod (.bin .Mult (.bin .Mod (.bin .Mult (.var 2) (.var 2)) (.int 2147483629)) (.int 69621)) (.int 2147483579)) (.var 1))) lS
def kg:Ss:=.cons (.set 2 (.bin .Mod (.bin .Add (.bin .Add (.bin .Mult (.bin .Mod (.var 0) (.int 2147483647)) (.int 48271)) (.bin .Mult (.int 7919) (.var 1))) (.int 1)) (.int 2147483647))) lT
def spMixed:aK:=λds M Q=>∃b d:Int,ds=[.int b,.int d]/\0<=d/\d<1000000/\∀z:Int,Q (.int z) M
theorem rd_mixed(h:spMixed ds M Q):wSs cn kg (fin Q) (aw ["","",""] ds) M:=by
 obtain⟨b,d,rfl,a,h1,q⟩:=h;show wSs cn kg (fin Q) [some (.int b),some (.int d),none] M;unfold kg;simp! only[List.set];refine⟨by decide,.inr ⟨by decide,by decide⟩,.inl ⟨by decide,by decide⟩,by decide,?_⟩;have c:=ou (y:=b%2147483647*48271+7919*d+1) (m:=2147483647) 'c';generalize (b%2147483647*48271+7919*d+1)%2147483647=y at *;unfold lT;simp! only[List.set];refine⟨.inl ⟨by omega,by omega⟩,by decide,.inr ⟨by decide,by decide⟩,by decide,?_⟩;have f:=ou (y:=y*y%2147483629*69621) (m:=2147483579) 'c';generalize y*y%2147483629*69621%2147483579=z at *;unfold lS;simp! only[];exact⟨.inl ⟨by omega,by omega⟩,by decide,q _⟩
def i0:Ss:=#v[.ret (.bin .Mod (.fn 0 #v[.ix (.var 0) (.int 0),.ix (.var 0) (.int 1)]) (.var 1))]
def nv:Ss:=.cons (.putIx (.var 0) (.int 1) (.bin .Add (.ix (.var 0) (.int 1)) (.int 1))) i0
def nw:Ss:=#v[.ret (.var 2)]
def ny:Ss:=.cons (.putIx (.var 0) (.int 0) (.bin .FloorDiv (.ix (.var 0) (.int 0)) (.var 1))) nw
def lB:Ss:=.cons (.ite (.cmp .Eq (.ix (.var 0) (.int 1)) (.int 0)) (.cons (.set 2 (.bin .Mod (.ix (.var 0) (.int 0)) (.var 1))) ny) .nil) nv
def spDrawK:aK:=λds M Q=>∃(p:Addr) (b d:Int) (n:Nat),ds=[.ref p,⇑n]/\M p=some (.lst [.int b,.int d])/\0<=d/\d<100000/\0<n/\n<=1000000/\∀(v:Nat) (b' d':Int),v<n->d<=d'->d'<=d+1->Q (⇑v) (ab M p (.lst [.int b',.int d']))
theorem rd_drawK(f0:cn.F.getD 0 (λ_ _ _=>False)=spMixed)(h:spDrawK ds M Q):wSs cn lB (fin Q) (aw ["","",""] ds) M:=by
 obtain⟨p,b,d,n,rfl,a,c,h1,hn,f,q⟩:=h;show wSs cn lB (fin Q) [↑p,~~~n,none] M;have done:∀(z b' d':Int),d<=d'->d'<=d+1->Q (.int (z%(n:Int))) (ab M p (.lst [.int b',.int d'])):=by
  intro z b' d' e1 e2;have h1:=ou (y:=z) (m:=(n:Int)) 'a'
  have:=q (z%(n:Int)).toNat b' d' 'a' e1 e2
  rwa [XQ h1.1] at this
 unfold lB;simp_all! only[List.set,a,Ai,Aj];refine C7 (λ_=>?_) (λ_=>?_)
 ·refine⟨by omega,?_⟩
  unfold ny;simp! only[List.set,a,Ai,Aj,FE];refine⟨⟨by omega (splitDisjunctions:=true),by omega (splitDisjunctions:=true)⟩,?_⟩;unfold nw;simp! only[List.set];exact done _ _ _ (Int.le_refl _) 'a'
 ·unfold nv
  simp! only[List.set,a,Ai,Aj,FE];rw[show mV [D.int b,D.int d].length 1=some 1 from rfl];show wSs cn i0 (fin Q) [↑p,~~~n,none] (ab M p (.lst [.int b,.int (d+1)]));unfold i0;simp! only[List.set,aa,Ai,Aj,f0];refine⟨b,d+1,rfl,by omega,by omega,λz=>?_⟩;simp! only[];exact⟨by omega,done _ _ _ 'a' (Int.le_refl _)⟩
end
section
variable {cn:Cn}{ds:List D}{M:MH}{Q:DK}
def jb:Ss:=#v[.ret (.bin .Add (.comp 1 (.tup #v[.var 1,.bl true]) (.nm 1) (.seq (.sl (.ix (.var 0) (.int 1)) .no (.yes (.ix (.var 0) (.int 2))))) .no) (.lst #v[.tup #v[.ix (.ix (.var 0) (.int 1)) (.ix (.var 0) (.int 2)),.bl false]]))]
def fv:Ss:=.cons (.ite (.cmp .Eq (.ix (.var 0) (.int 0)) (.str "some")) #v[.ret (.comp 1 (.tup #v[.var 1,.bl false]) (.nm 1) (.seq (.ix (.var 0) (.int 2))) .no)] .nil) jb
def cZ:Ss:=.cons (.ite (.cmp .Eq (.ix (.var 0) (.int 0)) (.str "lack")) #v[.ret (.lst #v[.tup #v[.ix (.var 0) (.int 1),.bl true]])] .nil) fv
def cr:Ss:=.cons (.ite (.cmp .Eq (.ix (.var 0) (.int 0)) (.str "have")) #v[.ret (.lst #v[.tup #v[.ix (.var 0) (.int 1),.bl false]])] .nil) cZ
def spLeanings:aK:=λds M Q=>∃t:CT,ds=[t.told]/\t.ok/\∀p M',M p=none->ae M M'->M' p=some (.lst t.leans)->Q (.ref p) M'
theorem rd_leanings(h:spLeanings ds M Q):wSs cn cr (fin Q) (aw [""] ds) M:=by
 obtain⟨t,rfl,a,q⟩:=h;show wSs cn cr (fin Q) [some t.told] M;cases t with
 |hav f=>
  unfold cr;simp_all! only[CT.told,bM,ci,at2,JE];exact λp hp=>q p _ hp (ae.new hp) aa
 |lck f=>
  unfold cr;simp_all! only[CT.told,bM,ci,at2,EB];unfold cZ;simp_all! only[CT.told,bM,ci,at2,EA];exact λp hp=>q p _ hp (ae.new hp) aa
 |som n fs=>
  unfold cr;simp_all! only[CT.told,bM,ci,at2,EC];unfold cZ;simp_all! only[CT.told,bM,ci,at2,ED];unfold fv;simp_all! only[CT.told,bM,ci,at2,Ez,List.cons_append,XE,List.replicate];refine cA (f:=λd=>.tup [d,.bl false]) (ok:=λσ=>∃v,σ=[some (.tup [.str "some",.int n,.tup (bf fs)]),v]) [] _ ⟨none,rfl⟩ ?_ ?_
  ·intro d hd σ f_ rest ⟨v,hv⟩ k
   subst hv;exact⟨trivial,k _ ⟨some d,rfl⟩⟩
  ·intro p hp
   rw[XE];refine q p _ hp (ae.new hp) ?_;rw[aa];unfold bf;rw[ZO];rfl
 |led fs k=>
  unfold cr;simp_all! only[CT.told,bM,ci,at2,EE];unfold cZ;simp_all! only[CT.told,bM,ci,at2,EF];unfold fv;simp_all! only[CT.told,bM,ci,at2,EG];unfold jb;simp_all! only[CT.told,bM,ci,at2,List.cons_append,XE,List.replicate,yx];refine cA (f:=sr true) (ok:=λσ=>∃v,σ=[some (.tup [.str "lead",.tup (bf fs),⇑k]),v]) [] _ ⟨none,rfl⟩ ?_ ?_
  ·intro d hd σ f_ rest ⟨v,hv⟩ c
   subst hv;obtain⟨f,l,rfl⟩:=List.mem_map.1 hd;exact⟨trivial,c _ ⟨_,rfl⟩⟩
  ·intro p hp
   rw[XE,qE];have e1:=ae.new (o:=MO.lst ((fs.take k).map (bR true))) hp;have g:ab M p (MO.lst ((fs.take k).map (bR true))) p=some (.lst ((fs.take k).map (bR true))):=aa;generalize ab M p (MO.lst ((fs.take k).map (bR true)))=M1 at *;simp only[yw a.1.1];intro p2 j;have e2:=ae.new (o:=MO.lst [D.tup [D.int (fs.getD k 0),D.bl false]]) j;rw[aa,e2 _ _ g];refine⟨?_,λp3 b=>?_⟩
   ·have:(4000:Nat)<sizeLine:=by decide
    have:=a.1.2
    simp only[ZG,YS,XC];omega
   ·have e3:=ae.new (o:=MO.lst ((fs.take k).map (bR true)++[D.tup [D.int (fs.getD k 0),D.bl false]])) b
    exact q p3 _ ((e1.trans e2).free b) (e1.trans (e2.trans e3)) aa
end
section
variable {cn:Cn}{ds:List D}{M:MH}{Q:DK}
def lC:Ss:=#v[.ret (.bin .Add (.int 1) (.bin .Mod (.bin .FloorDiv (.var 0) (.int 3)) (.ix (.lst #v[.int 8,.int 24,.int 120]) (.bin .Mod (.var 0) (.int 3)))))]
def spMany:aK:=λds M Q=>∃c:Int,ds=[.int c]/\∀(M':MH) (m:Nat),ae M M'->1<=m->m<=120->Q (⇑m) M'
theorem rd_many(h:spMany ds M Q):wSs cn lC (fin Q) (aw [""] ds) M:=by
 obtain⟨c,rfl,q⟩:=h;show wSs cn lC (fin Q) [some (.int c)] M;unfold lC;simp! only[];refine⟨⟨by decide,by decide⟩,λp hp=>?_⟩;have e1:=ae.new hp (o:=.lst [.int 8,.int 24,.int 120]);rw[aa];generalize ab M p (MO.lst [.int 8,.int 24,.int 120])=M1 at *;have a:∀n:Int,0<n->n<=120->∀z:Int,0<=z->z<n->Q (.int (1+z)) M1:=λn _ j z f l=>by
  have:=q M1 (1+z).toNat e1 'a' 'a'
  rwa [XQ 'a'] at this
 refine⟨by decide,?_⟩;have f:=ou (y:=c) (m:=3) 'c';have g:c%3=0\/c%3=1\/c%3=2:=by omega
 rcases g with z | z | z<;>rw[z]
 ·simp! only[bM]
  have b:=ou (y:=c / 3) (m:=8) 'c';exact⟨by decide,a 8 'c' 'c' _ b.1 b.2⟩
 ·simp! only[ci]
  have b:=ou (y:=c / 3) (m:=24) 'c';exact⟨by decide,a 24 'c' 'c' _ b.1 b.2⟩
 ·simp! only[at2]
  have b:=ou (y:=c / 3) (m:=120) 'c';exact⟨by decide,a 120 'c' 'c' _ b.1 b.2⟩
end
end SG
namespace SQ
open PySem L2 DD
open SH
end SQ
namespace SG
open PySem L2 DD
open SH
open SQ
section
variable {cn:Cn}{ds:List D}{M:MH}{Q:DK}
def ei:Ss:=#v[.ret (.bi .tuple #v[.var 3])]
def et:Ss:=#v[.expr (.mt .append (.var 3) #v[.mt .pop (.var 2) #v[.fn 0 #v[.var 0,.bi .len #v[.var 2]]]])]
def lU:Ss:=.cons (.for (.nm 4) (.rg1 #v[.bin .Add (.int 1) (.fn 0 #v[.var 0,.bi .min #v[.int 6,.var 1]])]) et) ei
def lV:Ss:=.cons (.set 3 (.lst .nil)) lU
def kh:Ss:=.cons (.set 2 (.lrg #v[.var 1])) lV
structure bY (p:Addr) (M M':MH) (b d:Int):Prop where
 but:ExtBut p M M'
 at_:M' p=some (.lst [.int b,.int d])
theorem bY.draw{p:Addr}{b d:Int}{M M':MH}(h:bY p M M' b d)(b' d':Int):bY p M (ab M' p (.lst [.int b',.int d'])) b' d':=⟨h.but.trans (ExtBut.upd _ _ _),aa⟩
theorem bY.ext{p:Addr}{b d:Int}{M M' a:MH}(h:bY p M M' b d)(e:ae M' a):bY p M a b d:=⟨h.but.trans e.but,e _ _ h.at_⟩
theorem bY.put{p r:Addr}{b d:Int}{o:MO}{M M':MH}(h:bY p M M' b d)(a:M r=none)(hp:M p≠none):bY p M (ab M' r o) b d:=⟨h.but.put a,by
 rw[aL (λz=>hp (by rw[z];exact a))];exact h.at_⟩
theorem bY.none{p r:Addr}{b d:Int}{M M':MH}(h:bY p M M' b d)(a:M' r=none):M r=none:=by
 cases e:M r with
 |none=>rfl
 |some o=>
  by_cases z:r=p
  ·rw[z,h.at_] at a;cases a
  ·have:=h.but r o z e
   rw[a] at this;cases this
def spFactsK:aK:=λds M Q=>∃(p:Addr) (b d:Int) (m:Nat),ds=[.ref p,⇑m]/\M p=some (.lst [.int b,.int d])/\0<=d/\d<50000/\(0<m/\m<=120)/\∀(fs:Zj) M' b' d',fs.Nodup->(∀f∈fs,f<m)->(0<fs.length/\fs.length<=6)->d<=d'->d'<=d+10->bY p M M' b' d'->Q (.tup (nats fs)) M'
theorem rd_factsK(f0:cn.F.getD 0 (λ_ _ _=>False)=spDrawK)(h:spFactsK ds M Q):wSs cn kh (fin Q) (aw ["","","","",""] ds) M:=by
 obtain⟨p,b,d,m,rfl,hM,PQ,Ud,hm,q⟩:=h;show wSs cn kh (fin Q) [↑p,~~~m,none,none,none] M;have T:M p≠none:=by rw[hM];simp
 have B1:bY p M M b d:=⟨ExtBut.refl _ _,hM⟩;unfold kh;simp! only[List.set];refine⟨⟨by omega (splitDisjunctions:=true),by omega (splitDisjunctions:=true)⟩,λc Nz=>?_⟩;rw[cg];have Q9:=Nz;have Y:bY p M (ab M c (.lst (nats (List.range m)))) b d:=B1.ext (ae.new Nz);have U:ab M c (MO.lst (nats (List.range m))) c=some (.lst (nats (List.range m))):=aa;generalize ab M c (MO.lst (nats (List.range m)))=M2 at *;unfold lV;simp! only[List.set];intro g K;have Q_:M g=none:=Y.none K;have Z:bY p M (ab M2 g (.lst [])) b d:=Y.ext (ae.new K);have g3:ab M2 g (MO.lst []) g=some (.lst (nats [])):=aa;have r3:ab M2 g (MO.lst []) c=some (.lst (nats (List.range m))):=(ae.new K) _ _ U;have L9:g≠c:=λz=>by subst z;rw[K] at U;cases U
 have Oc:p≠c:=λz=>by subst z;exact T Q9
 have Ra:p≠g:=λz=>by subst z;exact T Q_
 generalize ab M2 g (MO.lst [])=V at *;clear B1 Y U K;clear M2;have D3:Drawn m (List.range m) []:=⟨List.nodup_range,λf hf=>by simpa using hf,by simp⟩;unfold lU;simp! only[List.set,f0];refine⟨p,b,d,min 6 m,?_,Z.at_,PQ,by omega,by omega,by omega,λw L O hw Ue MB=>?_⟩
 ·congr 3
  split<;>omega
 have B4:=Z.draw L O;have g4:ab V p (MO.lst [.int L,.int O]) g=some (.lst (nats [])):=by rw[aL Ra.symm];exact g3
 have r4:ab V p (MO.lst [.int L,.int O]) c=some (.lst (nats (List.range m))):=by rw[aL Oc.symm];exact r3
 generalize ab V p (MO.lst [.int L,.int O])=M4 at *;clear Z g3 r3;clear V;refine⟨⟨by omega,by omega⟩,?_⟩;rw[show(1:Int)+(w:Int)=((w+1:Nat):Int) by omega,cg];have ah:w+1<=m/\w+1<=6:=by omega
 have P:∀(fs rs:Zj) (r:Zy) (l j:Int) (a:MH),fs.length=w+1->Drawn m rs fs->d<=j->j<=d+1+fs.length->bY p M a l j->a g=some (.lst (nats fs))->wSs cn ei (fin Q) [↑p,~~~m,↑c,↑g,r] a:=by
  intro fs rs r l j a Vt u G R B C;unfold ei;simp! only[List.set,C,cx];exact q fs a l j (List.nodup_append.1 u.nd).1 (λf hf=>u.lt f (YC.2 (.inl hf))) ⟨by omega,by omega⟩ G 'a' B
 have body:∀(E:cE) (fs rs:Zj) (r:Zy) (l j:Int) (a:MH),Drawn m rs fs->0<rs.length->fs.length<=6->d<=j->j<=d+1+fs.length->bY p M a l j->a g=some (.lst (nats fs))->a c=some (.lst (nats rs)) ->
   (∀J W y n t,Drawn m W J->J.length=fs.length+1->d<=n->n<=d+1+J.length->bY p M t y n->t g=some (.lst (nats J))->t c=some (.lst (nats W))->E.nx [↑p,~~~m,↑c,↑g,r] t) ->
   wSs cn et E [↑p,~~~m,↑c,↑g,r] a:=by
  intro E fs rs r l j a u TL al G R B C S kk;have P9:=u.len;unfold et;simp! only[List.set,f0,C,S,jV];refine⟨rfl,rfl,p,l,j,rs.length,rfl,B.at_,by omega,by omega,TL,by omega,λi y n hi X7 X8=>?_⟩;have B6:=B.draw y n;have g6:ab a p (MO.lst [.int y,.int n]) g=some (.lst (nats fs)):=by rw[aL Ra.symm];exact C
  have r6:ab a p (MO.lst [.int y,.int n]) c=some (.lst (nats rs)):=by rw[aL Oc.symm];exact S
  generalize ab a p (MO.lst [.int y,.int n])=t at *;have hx:rs[i]?=some rs[i]:=ZE hi;generalize rs[i]=x at hx;have TC:(nats rs)[(i:Int).toNat]?= ~~~x:=by unfold nats;rw[YW,ZH,hx];rfl
  simp only[r6,TC];refine⟨⟨by omega (splitDisjunctions:=true),by omega (splitDisjunctions:=true)⟩,?_⟩;rw[YW,Al];have B7:bY p M (ab t c (.lst (nats (rs.eraseIdx i)))) y n:=B6.put Q9 T;have g7:ab t c (MO.lst (nats (rs.eraseIdx i))) g=some (.lst (nats fs)):=by rw[aL L9];exact g6
  have r7:ab t c (MO.lst (nats (rs.eraseIdx i))) c=some (.lst (nats (rs.eraseIdx i))):=aa;generalize ab t c (MO.lst (nats (rs.eraseIdx i)))=M7 at *;simp only[g7,jV];have hsz:(2000:Nat)<sizeLine:=by decide
  refine⟨by omega,?_⟩;rw[show nats fs++[D.int (x:Int)]=nats (fs++[x]) by unfold nats;rw[ZN];rfl];exact kk (fs++[x]) (rs.eraseIdx i) y n _ (u.pop hx) (by rw[ZM];rfl) 'a' (by rw[ZM,XC];omega) (B7.put Q_ T) aa (by rw[aL L9.symm];exact r7)
 have ac:∀(xs:Zj) (fs rs:Zj) (r:Zy) (l j:Int) (a:MH),fs.length+xs.length=w+1->Drawn m rs fs->d<=j->j<=d+1+fs.length->bY p M a l j->a g=some (.lst (nats fs))->a c=some (.lst (nats rs)) ->
   ax (λ_=>True) (.nm 4) (wSs cn et) { nx:=wSs cn ei (fin Q),rt:=Q } (nats xs) [↑p,~~~m,↑c,↑g,r] a:=by
  intro xs;induction xs with
  |nil=>
   intro fs rs r l j a hl u G R B C S;rw[show nats []=[] from rfl,ax];exact P fs rs r l j a (by simpa using hl) u G R B C
  |cons x xs ih=>
   intro fs rs r l j a hl u G R B C S;rw[YJ] at hl
   have:=u.len
   rw[show nats (x::xs)=⇑x::nats xs from rfl,ax];refine body _ fs rs _ l j a u 'a' 'a' G R B C S ?_;intro J W y n t D6 h6 Ue MB B6 g6 r6;exact⟨trivial,ih J W _ y n t 'a' D6 Ue MB B6 g6 r6⟩
 exact ac (List.range (w+1)) [] (List.range m) none L O M4 (by simp) D3 Ue (by simp;omega) B4 g4 r4
end
section
variable {cn:Cn}{ds:List D}{M:MH}{Q:DK}
def nz:Ss:=#v[.ret (.tup #v[.str "lead",.var 3,.fn 0 #v[.var 0,.bi .len #v[.var 3]]])]
def nC:Ss:=.cons (.ite (.cmp .Eq (.var 2) (.int 4)) #v[.ret (.tup #v[.str "some",.bin .Add (.int 1) (.fn 0 #v[.var 0,.int 6]),.var 3])] .nil) nz
def nD:Ss:=.cons (.set 3 (.fn 1 #v[.var 0,.var 1])) nC
def nE:Ss:=.cons (.ite (.cmp .Lt (.var 2) (.int 4)) #v[.ret (.tup #v[.str "lack",.fn 0 #v[.var 0,.var 1]])] .nil) nD
def nF:Ss:=.cons (.ite (.cmp .Lt (.var 2) (.int 2)) #v[.ret (.tup #v[.str "have",.fn 0 #v[.var 0,.var 1]])] .nil) nE
def lD:Ss:=.cons (.set 2 (.fn 0 #v[.var 0,.int 6])) nF
def spCondK:aK:=λds M Q=>∃(p:Addr) (b d:Int) (m:Nat),ds=[.ref p,⇑m]/\M p=some (.lst [.int b,.int d])/\0<=d/\d<40000/\(0<m/\m<=120)/\∀(t:CT) M' b' d',t.fit (m:Int)->d<=d'->d'<=d+12->bY p M M' b' d'->Q t.told M'
theorem rd_condK(f0:cn.F.getD 0 (λ_ _ _=>False)=spDrawK)(J:cn.F.getD 1 (λ_ _ _=>False)=spFactsK)(h:spCondK ds M Q):wSs cn lD (fin Q) (aw ["","","",""] ds) M:=by
 obtain⟨p,b,d,m,rfl,K,L,S,hm,q⟩:=h;show wSs cn lD (fin Q) [↑p,~~~m,none,none] M;unfold lD;simp! only[List.set,f0];refine⟨p,b,d,6,rfl,K,L,by omega,by decide,by decide,λv c j hv T U=>?_⟩;have l:bY p M (ab M p (.lst [.int c,.int j])) c j:=⟨ExtBut.upd _ _ _,aa⟩;generalize ab M p (MO.lst [.int c,.int j])=M1 at *;unfold nF;simp! only[List.set,f0];refine s0 (λ_=>?_) (λ_=>?_)
 ·refine⟨p,c,j,m,rfl,l.at_,by omega,by omega,hm.1,by omega,λw r t hw C G=>?_⟩
  exact q (.hav (w:Int)) _ r t ⟨by omega,by omega⟩ 'a' 'a' (l.draw r t)
 unfold nE;simp! only[List.set,f0];refine s0 (λ_=>?_) (λ_=>?_)
 ·refine⟨p,c,j,m,rfl,l.at_,by omega,by omega,hm.1,by omega,λw r t hw C G=>?_⟩
  exact q (.lck (w:Int)) _ r t ⟨by omega,by omega⟩ 'a' 'a' (l.draw r t)
 unfold nD;simp! only[List.set,J];refine⟨p,c,j,m,rfl,l.at_,by omega,by omega,hm,λfs M2 z B O lt hl C G a=>?_⟩;have a:bY p M M2 z B:=⟨l.but.trans a.but,a.at_⟩;have fit:∀f∈fs.map (λ(f:Nat)=>(f:Int)),0<=f/\f<(m:Int):=by
  intro f hf;obtain⟨g,hg,rfl⟩:=List.mem_map.1 hf
  have:=lt g hg
  omega
 have nd:(fs.map λ(f:Nat)=>(f:Int)).Nodup:=xx O;have V:(fs.map λ(f:Nat)=>(f:Int)).length=fs.length:=ZG _;unfold nC;simp! only[List.set,f0,jV];refine⟨⟨rfl,rfl,(by decide:(0:Nat)<=30)⟩,?_⟩;refine C7 (λ_=>?_) (λ_=>?_)
 ·refine⟨p,z,B,6,rfl,a.at_,by omega,by omega,by decide,by decide,λn u y hn P R=>?_⟩
  rw[iL];exact q (.som (1+(n:Int)) _) _ u y ⟨⟨by omega,by omega⟩,⟨by omega,by omega⟩,nd,fit⟩ 'a' 'a' (a.draw u y)
 ·unfold nz
  simp! only[List.set,f0,jV];refine⟨p,z,B,fs.length,rfl,a.at_,by omega,by omega,by omega,by omega,λn u y hn P R=>?_⟩;rw[iL];exact q (.led _ n) _ u y ⟨⟨by omega,by omega⟩,nd,fit⟩ 'a' 'a' (a.draw u y)
end
section
variable {cn:Cn}{ds:List D}{M:MH}{Q:DK}
def oH:Ss:=#v[.ret (.tup #v[.var 2,.comp 1 (.fn 0 #v[.var 0,.var 1]) (.nm 3) (.rg1 #v[.fn 1 #v[.var 0,.ix (.lst #v[.int 3,.int 7]) (.fn 1 #v[.var 0,.int 2])]]) .no])]
def mS:Ss:=.cons (.set 2 (.fn 1 #v[.var 0,.var 1])) oH
def spRowK:aK:=λds M Q=>∃(p:Addr) (b d:Int) (m:Nat),ds=[.ref p,⇑m]/\M p=some (.lst [.int b,.int d])/\0<=d/\d<30000/\(0<m/\m<=120)/\∀(f:Nat) (ts:List CT) a M' b' d',f<m->ts.length<=6->(∀t∈ts,t.fit (m:Int))->M a=none->bY p M M' b' d'->M' a=some (.lst (ts.map CT.told))->Q (.tup [⇑f,.ref a]) M'
theorem rd_rowK(f0:cn.F.getD 0 (λ_ _ _=>False)=spCondK)(T:cn.F.getD 1 (λ_ _ _=>False)=spDrawK)(h:spRowK ds M Q):wSs cn mS (fin Q) (aw ["","",""] ds) M:=by
 obtain⟨p,b,d,m,rfl,U,PQ,Ud,hm,q⟩:=h;show wSs cn mS (fin Q) [↑p,~~~m,none] M;have Ny:M p≠none:=by rw[U];simp
 unfold mS;simp! only[List.set,T];refine⟨p,b,d,m,rfl,U,PQ,by omega,hm.1,by omega,λf B C hf x1 x2=>?_⟩;have V:bY p M (ab M p (.lst [.int B,.int C])) B C:=⟨ExtBut.upd _ _ _,aa⟩;generalize ab M p (MO.lst [.int B,.int C])=M1 at *;have run:∀(k:D) (c:MH) (j a:Int) (Z:DK),0<=a->a<40000->bY p M c j a->(∀(t:CT) G P u,t.fit (m:Int)->a<=u->u<=a+12->bY p c G P u->Z t.told G) ->
   wE cn (.fn 0 (.cons (.var 0) (.cons (.var 1) .nil))) [↑p,~~~m,~~~f,some k] c Z:=by
  intro k c j a Z e1 e2 l hZ;simp! only[f0];exact⟨p,j,a,m,rfl,l.at_,e1,e2,hm,hZ⟩
 have step:∀(g:MH->Prop) (F:List D->MH->Prop),(∀M',g M')->∀(J:Nat),(∀(ts:List CT) (c:MH) (j a:Int),ts.length=J->(∀t∈ts,t.fit (m:Int))->bY p M c j a->F (ts.map CT.told) c)->∀(xs:Zj) (ts:List CT) (v:Zy) (c:MH) (j a:Int),ts.length+xs.length=J->J<=6->(∀t∈ts,t.fit (m:Int))->bY p M c j a->0<=a->a<=30003+12*ts.length ->
   aq g (.nm 3) (λx M Q=>Q true M) (wE cn (.fn 0 (.cons (.var 0) (.cons (.var 1) .nil)))) F (nats xs) (ts.map CT.told) [↑p,~~~m,~~~f,v] c:=by
  intro g F hg J K xs;induction xs with
  |nil=>
   intro ts v c j a hn W ht l e1 e2;rw[show nats []=[] from rfl,aq];exact K ts c j a (by simpa using hn) ht l
  |cons x xs ih=>
   intro ts v c j a hn W ht l e1 e2;rw[YJ] at hn;rw[show nats (x::xs)=⇑x::nats xs from rfl,aq];show wE cn (.fn 0 (.cons (.var 0) (.cons (.var 1) .nil))) [↑p,~~~m,~~~f,~~~x] c λy M2=>g M2/\aq g (.nm 3) (λx M Q=>Q true M) _ F (nats xs) (ts.map CT.told++[y]) [↑p,~~~m,~~~f,~~~x] M2
   refine run _ c j a _ e1 'a' l λt G P u ft y1 y2 Y=>⟨hg _,?_⟩
   rw[show ts.map CT.told++[t.told]=(ts++[t]).map CT.told by rw[ZN];rfl];refine ih (ts++[t]) _ G P u (by rw[ZM,XC];omega) W (λt' RG=>?_) ⟨l.but.trans Y.but,Y.at_⟩ 'a' (by rw[ZM,XC];omega);rcases YC.1 RG with z | z
   ·exact ht t' z
   ·rw[XO.1 z];exact ft
 unfold oH;simp! only[List.set,List.cons_append,XE,List.replicate,T];intro r J_;have X_:M r=none:=V.none J_;have Yl:p≠r:=λz=>Ny (by rw[z];exact X_)
 have B2:=V.ext (ae.new J_ (o:=.lst [.int 3,.int 7]));have g2:ab M1 r (MO.lst [.int 3,.int 7]) r=some (.lst [.int 3,.int 7]):=aa;generalize ab M1 r (MO.lst [.int 3,.int 7])=M2 at *;refine⟨p,B,C,2,rfl,B2.at_,by omega,by omega,by decide,by decide,λv L O hv y1 y2=>?_⟩;have B3:=B2.draw L O;have g3:ab M2 p (MO.lst [.int L,.int O]) r=some (.lst [.int 3,.int 7]):=by rw[aL (Ne.symm Yl)];exact g2
 generalize ab M2 p (MO.lst [.int L,.int O])=M3 at *;have vv:v=0\/v=1:=by omega
 obtain⟨n,hn,en⟩:∃n:Nat,(n=3\/n=7)/\di [D.int 3,D.int 7] (v:Int)= ~~~n:=by
  rcases vv with rfl | rfl
  ·exact⟨3,.inl rfl,bM _ _⟩
  ·exact⟨7,.inr rfl,ci _ _ _⟩
 simp only[g3,en];refine⟨p,L,O,n,rfl,B3.at_,by omega,by omega,by omega,by omega,λk R S hk z1 z2=>?_⟩;have B4:=B3.draw R S;generalize ab M3 p (MO.lst [.int R,.int S])=M4 at *;refine⟨⟨by omega,by omega⟩,?_⟩;rw[cg];refine step _ _ (λ_=>trivial) k (λts c j a hl ht l p' NC=>?_) (List.range k) [] none M4 R S (by simp) 'a' (λt z=>nomatch z) B4 'a' (by simp;omega);exact q f ts p' _ j a hf 'a' ht (l.none NC) (l.ext (ae.new NC)) aa
end
end SG
namespace SG
open PySem L2 DD
open SH
def dE:Ss:=#v[.ret (.comp 1 (.bk .listP #v[.var 7]) (.nm 7) (.seq (.var 2)) .no)]
def gI:Ss:=#v[.putP (.ix (.var 2) (.var 3)) (.var 6) (.bl true)]
def dF:Ss:=#v[.for (.nm 6) (.seq (.fn 0 #v[.var 5])) gI]
def gJ:Ss:=#v[.for (.nm 5) (.seq (.var 4)) dF]
def kS:Ss:=.cons (.for (.tp [3,4]) (.seq (.var 0)) gJ) dE
def i3:Ss:=.cons (.setC 2 1 .dnew (.nm 7) (.rg1 #v[.var 1]) .no) kS
def sK(z:Bool×Int):Int×Bool:=(z.2,z.1)
def dg(L:Nat->List (Int×Bool))(h:Nat)(ks:List (Int×Bool))(f:Nat):List (Int×Bool):=if f=h then L f++ks else L f
theorem wM(L:Nat->List (Int×Bool))(h:Nat)(a b:List (Int×Bool)):dg (dg L h a) h b=dg L h (a++b):=by
 funext f;unfold dg;split
 ·rw[ZC]
 ·rfl
theorem wN(L:Nat->List (Int×Bool))(h:Nat):dg L h []=L:=by
 funext f;unfold dg;split
 ·rw[ZA]
 ·rfl
def lW(M:MH)(ps:Zh)(L:Nat->List (Int×Bool)):Prop:=bI M ps λf=>eG ((L f).foldl putP [])
theorem lW.put{M:MH}{ps:Zh}{L:Nat->List (Int×Bool)}{h:Nat}{r:Addr}{k:Int×Bool}(nd:ps.Nodup)(a:ps[h]?=some r)(s:lW M ps L):lW (ab M r (eG (putP ((L h).foldl putP []) k))) ps (dg L h [k]):=by
 refine bI.put nd a s ?_ λf hf=>?_
 ·unfold dg
  rw[if_pos rfl,List.foldl_append];rfl
 ·unfold dg
  rw[if_neg hf]
def nG(rs:Zx)(f:Nat):List (Int×Bool):=rs.flatMap λx=>if f=x.1 then(cV x).map sK else[]
theorem wO(rs:Zx)(x:Row):nG (rs++[x])=dg (nG rs) x.1 ((cV x).map sK):=by
 funext f;unfold nG dg;rw[List.flatMap_append];show _++((if f=x.1 then(cV x).map sK else[])++[])=_;rw[ZA];split
 ·rfl
 ·rw[ZA]
theorem wQ(a_:Zx)(f:Nat):∀k,k<=a_.length->qc a_ (d9 (aU a_) k f)=nG (a_.take k) f
 |0,_=>rfl
 |k+1,hk=>by
  have hx:a_[k]?=some (a_[k]'hk):=ZE hk;have b:(aU a_)[k]?=some (a_[k]'hk).1:=by unfold aU;rw[ZH,hx];rfl
  rw[mM f b,List.take_add_one,hx];show _=nG (a_.take k++[a_[k]'hk]) f;rw[wO];unfold qc;rw[List.flatMap_append];have a:=wQ a_ f k 'a';unfold qc at a;rw[a];unfold dg;split
  ·show _++(((a_[k]?.map cV).getD []).map _++[])=_
   rw[ZA,hx];rfl
  ·show _++[]=_
   rw[ZA]
theorem EY(a_:Zx)(f:Nat):df a_ f=(nG a_ f).foldl putP []:=by
 unfold df;rw[wQ a_ f _ (YG _),List.take_length]
theorem EZ{a:Addr}{M:MH}{Q:DK}{ks:List (Int×Bool)}(h:M a=some (eG ks))(q:∀p:Addr,M p=none->Q (.ref p) (ab M p (.lst (ks.map pD)))):n9 [.ref a] M Q:=by
 unfold n9;cases ks with
 |nil=>simp only[h,eG];exact q
 |cons k ks=>simp only[h,eG];exact q
section
variable {cn:Cn}{ds:List D}{M:MH}{Q:DK}
def spLeanedL:aK:=λds M Q=>∃(R m:Nat) (a:List D) (a_:Zx),ds=[.ref R,⇑m]/\M R=some (.lst a)/\bO M a a_/\fE m a_/\∀L M',M L=none->ae M M'->qK M' L m a_->Q (.ref L) M'
theorem rd_leanedL(f0:cn.F.getD 0 (λ_ _ _=>False)=spLeanings)(h:spLeanedL ds M Q):wSs cn i3 (fin Q) (aw ["","","","","","",""] ds) M:=by
 obtain⟨R,m,L3,a_,rfl,hR,hA,ok,q⟩:=h;show wSs cn i3 (fin Q) [↑R,~~~m,none,none,none,none,none] M;have hm:=ok.most;have hsz:(4000:Nat)<sizeLine:=by decide
 unfold i3;simp! only[List.cons_append,XE,List.replicate];refine⟨⟨by omega,by omega⟩,?_⟩;refine jg (o:=.dic []) M (λ_ _ _ h=>h) (λ_ _ _ h=>h) (bD 0 (m:Int)) [] _ M (ae.refl M) .nil (λp hp=>nomatch hp) ?_;intro ps M1 e1 nd h_ Mb p hp;rw[mL,YU,Nat.zero_add] at h_;have Ny:M p=none:=e1.free hp;have L9:∀r∈ps,r≠p:=λr c=>sw (Mb r c).2 hp
 have e2:ae M (ab M1 p (.lst (af ps))):=e1.then hp;have g2:ab M1 p (MO.lst (af ps)) p=some (.lst (af ps)):=aa;have s2:lW (ab M1 p (MO.lst (af ps))) ps (nG []):=λf r c=>(ae.new hp) r _ (Mb r (YT c)).2
 have fresh:∀r∈ps,M r=none:=λr c=>(Mb r c).1
 generalize ab M1 p (MO.lst (af ps))=M2 at *;clear Mb hp e1;have ah:∀(S T B n:Zy) (U:MH),ae M U->U p=some (.lst (af ps))->lW U ps (nG a_)->wSs cn dE (fin Q) [↑R,~~~m,↑p,S,T,B,n] U:=by
  intro S T B n U e3 g3 s3;unfold dE;simp! only[g3,List.cons_append,XE,List.replicate,ub];have run:∀(r:Addr) (ks:List (Int×Bool)) (G:MH) (Z:DK),G r=some (eG ks)->(∀p2,G p2=none->Z (.ref p2) (ab G p2 (.lst (ks.map pD))))->wE cn (.bk .listP (.cons (.var 7) .nil)) [↑R,~~~m,↑p,S,T,B,n,↑r] G Z:=by
   intro r ks G Z c hZ;simp! only[ub];exact EZ c hZ
  have al:∀(rest:Zh) (k:Nat) (P:Zh) (v:Zy) (G:MH),ps.drop k=rest->k<=ps.length->P.length=k->ae U G->bI G P (λf=>.lst ((df a_ f).map pD)) ->
    aq (λM'=>M' p=some (.lst (af ps))) (.nm 7) (λ_ M Q=>Q true M) (wE cn (.bk .listP (.cons (.var 7) .nil))) (λds M'=>∀p,M' p=none->Q (.ref p) (ab M' p (.lst ds))) (af rest) (af P) [↑R,~~~m,↑p,S,T,B,n,v] G:=by
   intro rest;induction rest with
   |nil=>
    intro k P v G hd Pw hq e4 s4;rw[show af []=[] from rfl,aq];intro p2 W;have hk:ps.length<=k:=by
     have:=congrArg List.length hd
     rw[YX,YU] at this;omega
    exact q p2 _ ((e3.trans e4).free W) ((e3.trans e4).then W) ⟨P,aa,by omega,s4.ext (ae.new W)⟩
   |cons r rest Y=>
    intro k P v G hd Pw hq e4 s4;have hk:ps[k]?=some r:=by
     have:=congrArg (·[0]?) hd
     simpa using this
    have Nb:ps.drop (k+1)=rest:=by
     have:=congrArg (List.drop 1) hd
     rw[XZ] at this;simpa using this
    have Px:k<ps.length:=(YD.mp hk).1;have TM:G r=some (eG (df a_ k)):=by
     rw[e4 r _ (s3 k r hk),EY]
    rw[show af (r::rest)=.ref r::af rest from rfl,aq];show wE cn (.bk .listP (.cons (.var 7) .nil)) [↑R,~~~m,↑p,S,T,B,n,↑r] G λy M2=>M2 p=some (MO.lst (af ps))/\aq (λM'=>M' p=some (.lst (af ps))) (.nm 7) (λ_ M Q=>Q true M) (wE cn (.bk .listP (.cons (.var 7) .nil))) (λds M'=>∀p,M' p=none->Q (.ref p) (ab M' p (.lst ds))) (af rest) (af P++[y]) [↑R,~~~m,↑p,S,T,B,n,↑r] M2
    refine run r _ G _ TM λp2 W=>?_
    refine⟨(e4.trans (ae.new W)) p _ g3,?_⟩;have:af P++[D.ref p2]=af (P++[p2]):=by unfold af;rw[ZN];rfl
    rw[this];refine Y (k+1) (P++[p2]) _ _ Nb Px (by rw[ZM,hq];rfl) (e4.then W) λf r' MV=>?_
    by_cases TN:f<P.length
    ·rw[ZF TN] at MV
     exact(ae.new W) r' _ (s4 f r' MV)
    ·rw[ZI 'a'] at MV
     have hz:f-P.length=0:=by
      have:=(YD.mp MV).1
      simp only[YJ,YU] at this;omega
     rw[hz] at MV;have:p2=r':=by simpa using MV
     subst this;obtain rfl:f=k:=by omega
     exact aa
  exact al ps 0 [] none U rfl (YM _) rfl (ae.refl U) (λf r c=>by simp at c)
 have few:∀{L:Nat->List (Int×Bool)}(f:Nat),(∀f,∀k∈L f,0<=k.1/\k.1<(m:Int))->((L f).foldl putP []).length<=240:=λ{L} f b=>by
  obtain⟨n1,n2⟩:=mQ (L f) [] List.nodup_nil
  have:=ug n1 λk hk=>b f k (((n2 k).1 hk).elim (λz=>nomatch z) id)
  omega
 have ac:∀(w:Addr) (o:MO) (E:cE) (h:Nat) (O:Addr) (tt:D),h<m->w∉ps->∀(l:Zr) (L:Nat->List (Int×Bool)) (v:Zy) (a:MH),a w=some o->ae M a->a p=some (.lst (af ps))->lW a ps L->(∀f,∀k∈L f,0<=k.1/\k.1<(m:Int))->(∀z∈l,0<=z.2/\z.2<(m:Int)) ->
   (∀v' j,ae M j->j p=some (.lst (af ps))->lW j ps (dg L h (l.map sK))->E.nx [↑R,~~~m,↑p,~~~h,↑O,some tt,v'] j) ->
   ax (λM'=>M' w=some o) (.nm 6) (wSs cn gI) E (l.map pairD) [↑R,~~~m,↑p,~~~h,↑O,some tt,v] a:=by
  intro w o E h O tt hh hw l;induction l with
  |nil=>
   intro L v a w5 J K C b _ kk;rw[YZ,ax];exact kk v a J K (by rw[YZ,wN];exact C)
  |cons z l Y=>
   intro L v a w5 J K C b bl kk;obtain⟨r,c⟩:∃r,ps[h]?=some r:=⟨ps[h]' 'a',ZE 'a'⟩;have P':=YT c;rw[YL,ax];unfold gI;simp! only[List.set,K,hU c];have hk:=few h b;refine yC (x:=z.2) (y:=z.1) (C h r c) 'a' ?_;have V:ae M (ab a r (eG (putP ((L h).foldl putP []) (z.2,z.1)))):=J.put (fresh r P');have w6:ab a r (eG (putP ((L h).foldl putP []) (z.2,z.1))) w=some o:=by rw[aL (λe=>hw (by rw[e];exact P'))];exact w5
   refine⟨w6,Y (dg L h [sK z]) _ _ w6 V (by rw[aL (L9 r P').symm];exact K) (lW.put nd c C) (λf k hk=>?_) (λy hy=>bl y (.tail _ hy)) λv' j e7 g7 s7=>kk v' j e7 g7 ?_⟩
   ·unfold dg at hk
    split at hk
    ·rcases YC.1 hk with z' | z'
     ·exact b f k z'
     ·rw[XO.1 z'];exact bl z (.head _)
    ·exact b f k hk
   ·rw[wM] at s7
    exact s7
 have Ug:∀{L:Nat->List (Int×Bool)}{h:Nat}{l:Zr},(∀f,∀k∈L f,0<=k.1/\k.1<(m:Int))->(∀z∈l,0<=z.2/\z.2<(m:Int))->∀f,∀k∈dg L h (l.map sK) f,0<=k.1/\k.1<(m:Int):=by
  intro L h l b bl f k hk;unfold dg at hk;split at hk
  ·rcases YC.1 hk with z' | z'
   ·exact b f k z'
   ·obtain⟨y,hy,rfl⟩:=List.mem_map.1 z'
    exact bl y hy
  ·exact b f k hk
 have body:∀(E:cE) (h:Nat) (O:Addr) (t:CT) (L:Nat->List (Int×Bool)) (n:Zy) (a:MH),h<m->t.fit (m:Int)->ae M a->a p=some (.lst (af ps))->lW a ps L->(∀f,∀k∈L f,0<=k.1/\k.1<(m:Int)) ->
   (∀v' j,ae M j->j p=some (.lst (af ps))->lW j ps (dg L h (t.leanP.map sK))->E.nx [↑R,~~~m,↑p,~~~h,↑O,some t.told,v'] j) ->
   wSs cn dF E [↑R,~~~m,↑p,~~~h,↑O,some t.told,n] a:=by
  intro E h O t L n a hh Rf J K C b kk;have bl:=gg Rf;unfold dF;simp! only[List.set,f0];refine⟨t,rfl,CT.fit_ok 'a' Rf,λw j hw V g6=>?_⟩;simp only[g6,qG];have T3:=J.trans V;have Ym:w∉ps:=λz=>by
   obtain⟨f,hf⟩:=XV z
   have:=C f w hf
   rw[hw] at this;cases this
  exact ac w _ _ h O _ hh Ym t.leanP L _ j (by rw[g6,qG]) T3 (V _ _ K) (C.ext V) b bl kk
 have mid:∀(g:MH->Prop) (E:cE) (h:Nat) (O:Addr),h<m->(∀M',ae M M'->g M')->∀(ts:List CT) (L:Nat->List (Int×Bool)) (B n:Zy) (a:MH),(∀t∈ts,t.fit (m:Int))->ae M a->a p=some (.lst (af ps))->lW a ps L->(∀f,∀k∈L f,0<=k.1/\k.1<(m:Int)) ->
   (∀Mz RT j,ae M j->j p=some (.lst (af ps))->lW j ps (dg L h ((ts.flatMap CT.leanP).map sK))->E.nx [↑R,~~~m,↑p,~~~h,↑O,Mz,RT] j) ->
   ax g (.nm 5) (wSs cn dF) E (ts.map CT.told) [↑R,~~~m,↑p,~~~h,↑O,B,n] a:=by
  intro g E h O hh hg ts;induction ts with
  |nil=>
   intro L B n a _ J K C b kk;rw[YZ,ax];exact kk B n a J K (by rw[show([].flatMap CT.leanP).map sK=[] from rfl,wN];exact C)
  |cons t ts Y=>
   intro L B n a ht J K C b kk;have Rf:=ht t (.head _);rw[YL,ax];refine body _ h O t L _ a hh Rf J K C b λv' M7 e7 g7 s7=>⟨hg _ e7,?_⟩
   refine Y _ _ _ M7 (λt' h'=>ht t' (.tail _ h')) e7 g7 s7 (Ug b (gg Rf)) λMz RT M8 e8 g8 s8=>kk Mz RT M8 e8 g8 ?_
   rw[wM,←ZN] at s8;exact s8
 have outer:∀(xs:List D) (C_ dn:Zx) (S T B n:Zy) (a:MH),bO M xs C_->a_=dn++C_->ae M a->a p=some (.lst (af ps))->lW a ps (nG dn) ->
   ax (λM'=>M' R=some (.lst L3)) (.tp [3,4]) (wSs cn gJ) { nx:=wSs cn dE (fin Q),rt:=Q } xs [↑R,~~~m,↑p,S,T,B,n] a:=by
  intro xs C_ dn S T B n a hx;induction hx generalizing dn S T B n a with
  |nil=>
   intro c J K C;rw[ax];rw[ZA] at c;subst c;exact ah S T B n a J K C
  |@cons d x xs C_ hd _ Y=>
   intro c J K C;obtain⟨q1,rfl,NA⟩:=hd;have hx:=ok.fit x (by rw[c];simp);rw[ax];unfold gJ;simp! only[List.set,J _ _ NA];refine⟨rfl,?_⟩;have bb:∀f,∀k∈nG dn f,0<=k.1/\k.1<(m:Int):=λf k hk=>by
    unfold nG at hk;obtain⟨y,hy,hk⟩:=List.mem_flatMap.1 hk;split at hk
    ·obtain⟨u,hu,rfl⟩:=List.mem_map.1 hk
     unfold cV at hu;obtain⟨t,ht,hu⟩:=List.mem_flatMap.1 hu;exact gg ((ok.fit y (by rw[c];exact List.mem_append_left _ hy)).2.2 t ht) u hu
    ·cases hk
   refine mid _ _ x.1 q1 hx.1 (λM' e'=>e' _ _ NA) x.2 (nG dn) _ _ a hx.2.2 J K C bb λMz RT j V g6 s6=>⟨V _ _ hR,?_⟩
   refine Y (dn++[x]) _ _ _ _ j (by rw[c];simp) V g6 ?_;rw[wO];exact s6
 unfold kS;simp! only[List.set,e2 _ _ hR];exact outer L3 a_ [] none none none none M2 hA rfl e2 g2 s2
end
end SG
namespace SH
open PySem L2 DD
inductive yD where
 |told
 |tru (turn step row:Nat)
 |fls (turn:Nat)
 |opn (step row:Nat)
section
variable {a_:Zx}{m told:Nat}{ps:List (Nat×Nat)}
def ahead(ps:List (Nat×Nat)):Nat->Nat
 |0=>0
 |i+1=>((ps[i]?).getD (0,0)).2
variable {VT:List yD}
end
def KK:Nat->List yD->List (Nat×yD)
 |_,[]=>[]
 |n,q::l=>(n,q)::KK (n+1) l
def ones(a:List yD)(p:yD->Bool):List (Nat×yD):=(KK 0 a).filter λx=>p x.2
end SH
namespace SQ
open PySem L2 DD
open SH
section
variable {a_:Zx}{g told m i j:Nat}{more:Nat}{b_:Zz}
def left(a_:Zx)(s:Nat):Nat:=a_.countP λx=>!s.testBit x.1
end
end SQ
namespace SW
open PySem L2 DD
open SH
def fw:Ss:=#v[.ret (.comp 2 (.tup #v[.var 1,.bi .tuple #v[.comp 1 (.mu0 "shown" (.var 3)) (.nm 3) (.seq (.var 2)) .no]]) (.tp [1,2]) (.zip #v[.fld (.var 0) "heads",.fld (.var 0) "conds"]) .no)]
def fA(r:Row):D:=.tup [.int (r.1:Int),.tup (r.2.map CT.told)]
def kT(c:CA)(S:Addr):aK:=λds M Q=>∃(a:Addr) (m:Nat) (a_:Zx),ds=[.ref a]/\gn c S M a m a_/\∀p M',M p=none->ae M M'->M' p=some (.lst (a_.map fA))->Q (.ref p) M'
theorem E1(t:CT):t.flds.lookup ("shown" : Str)=none:=by cases t<;>rfl
section
variable {cn:Cn}{ds:List D}{M:MH}{Q:DK}{c:CA}{S:Addr}
theorem xy(J:∀f∈lR,cn.O S f)(R:∀t:CT,cn.T (c.at t.kind) "shown" = some (cK c t.kind))(h:kT c S ds M Q):wSs cn fw (fin Q) (aw [""] ds) M:=by
 obtain⟨a,m,a_,rfl,A,q⟩:=h;show wSs cn fw (fin Q) [some (.ref a)] M;obtain⟨ok,u_,p1,p2,p3,MP,MG,NJ,h1,L,-⟩:=id A;have one:∀(t:CT) (r:Addr) (σ:DS) (b:MH) (K:DK),σ[3]?=some (some (.ref r))->b r=some (t.obj c)->K t.told b->wE cn (.mu0 "shown" (.var 3)) σ b K:=by
  intro t r σ b K U g hK;have g:b r=some (.ins (c.at t.kind) t.flds):=g;simp! only[U,g,E1,R];exact⟨trivial,r,t,rfl,rfl,g,hK⟩
 have l:∀(F:List D->MH->Prop) (rs:Zh) (ts dn:List CT) (P n u z:Zy) (b:MH),cM c b rs ts->F ((dn++ts).map CT.told) b->aq (λ_=>True) (.nm 3) (λ_ M Q=>Q true M) (wE cn (.mu0 "shown" (.var 3))) F (af rs) (dn.map CT.told) [P,n,u,z] b:=by
  intro F rs ts dn P n u z b hc;induction hc generalizing dn z with
  |nil=>
   intro h;rw[ZA] at h;rw[show af []=[] from rfl,aq];exact h
  |@cons r t rs ts g _ G=>
   intro h;rw[show af (r::rs)=.ref r::af rs from rfl,aq];simp only[oT,List.set,bg];refine one t r _ b _ rfl g ⟨trivial,?_⟩
   have:=G (dn++[t]) (some (.ref r)) (by simpa using h)
   simpa using this
 have mid:∀(h:Nat) (rs:Zh) (ts:List CT) (z V:Zy) (b:MH) (K:DK),cM c b rs ts->(∀j,ae b j->K (fA (h,ts)) j)->wE cn (.tup (.cons (.var 1) (.cons (.bi .tuple (.cons (.comp 1 (.mu0 "shown" (.var 3)) (.nm 3) (.seq (.var 2)) .no) .nil)) .nil))) [some (.ref a),some (.int (h:Int)),some (.tup (af rs))] b K:=by
  intro h rs ts z V b K hc hK;simp! only[];refine l _ rs ts [] _ _ _ none b hc λw hw=>?_
  rw[aa];simp only[cx];exact hK _ (ae.new hw)
 have outer:∀(F:List D->MH->Prop) (u_:Zs) (y dn:Zx) (n u:Zy) (b:MH),dR c M u_ y->ae M b->(∀j,ae M j->F ((dn++y).map fA) j) ->
   aq (λ_=>True) (.tp [1,2]) (λ_ M Q=>Q true M) (wE cn (.tup (.cons (.var 1) (.cons (.bi .tuple (.cons (.comp 1 (.mu0 "shown" (.var 3)) (.nm 3) (.seq (.var 2)) .no) .nil)) .nil)))) F (iQ (nats (aU y)) (aY u_)) (dn.map fA) [some (.ref a),n,u] b:=by
  intro F u_ y dn n u b hc;induction hc generalizing dn n u b with
  |nil=>
   intro B h;rw[ZA] at h;show aq _ _ _ _ F [] _ _ b;rw[aq];exact h b B
  |@cons rs x u_ y g _ G=>
   intro B h;show aq _ _ _ _ F (.tup [.int (x.1:Int),.tup (af rs)]::iQ (nats (aU y)) (aY u_)) _ _ b;rw[aq];refine⟨rfl,?_⟩;refine mid x.1 rs x.2 none none b _ (g.ext B) λj C=>⟨trivial,?_⟩
   have:=G (dn++[x]) (some (.int (x.1:Int))) (some (.tup (af rs))) j (B.trans C) (λW Y=>by simpa using h W Y)
   rw[ZN] at this;exact this
 unfold fw;simp! only[D9,h1,EN,EO];refine⟨J _ (by rfl'),J _ (by rfl'),?_,?_⟩
 ·have:=iD L
  unfold nats aU aY;rw[ZG,ZG,ZG,this]
 exact outer _ u_ a_ [] none none M L (ae.refl _) λj C p hp=>q p _ (C.free hp) (C.then hp) aa
end
end SW
namespace SG
open PySem L2 DD
open SH
open SW (fA kT)
def wR:Ss:=#v[.ret (.fn 0 #v[.fn 1 #v[.fn 2 #v[.int 0,.lst .nil]],.lst .nil])]
def wU:Ss:=.cons (.ite (.or (.not (.val (.fn 0 #v[.fn 1 #v[.var 4],.var 5]))) (.cmp .NotEq (.mu0 "row_list" (.var 4)) (.comp 2 (.tup #v[.var 7,.bi .tuple #v[.var 8]]) (.tp [7,8]) (.seq (.var 3)) .no))) #v[.ret (.bl false)] .nil) wR
def wV:Ss:=.cons (.expr (.mt0 .clear (.var 6))) wU
def wW:Ss:=.cons (.ite (.not (.val (.fn 0 #v[.var 6,.var 5]))) #v[.ret (.bl false)] .nil) wV
def wX:Ss:=.cons (.set 6 (.fn 1 #v[.var 4])) wW
def wY:Ss:=.cons (.set 5 (.fn 3 #v[.fn 4 #v[.var 3,.var 1]])) wX
def wZ:Ss:=.cons (.set 4 (.fn 2 #v[.var 1,.comp 2 (.tup #v[.var 7,.bk .list #v[.var 8]]) (.tp [7,8]) (.seq (.var 3)) .no])) wY
def qM:Ss:=.cons (.setC 3 1 (.fn 5 #v[.lst #v[.var 7,.var 2],.var 1]) (.nm 7) (.seq (.sl (.var 0) (.yes (.int 2)) (.yes (.int 63)))) .no) wZ
def w4:Ss:=.cons (.set 2 (.bin .Sub (.int 1) (.bin .Mod (.fn 6 #v[.var 0,.int 1]) (.int 2)))) qM
def ir_law:Ss:=.cons (.set 1 (.fn 7 #v[.fn 6 #v[.var 0,.int 0]])) w4
theorem xz{m:Nat}{a_:Zx}{u_:Zs}{p1 p2 p3:Addr}:(jX m a_ u_ p1 p2 p3).lookup ("row_list" : Str)=none:=rfl
theorem iM:∀l:List Int,aQ (bf l)=true/\bm (bf l)=0
 |[]=>⟨rfl,rfl⟩
 |y::l=>by
  obtain⟨h1,a⟩:=iM l;rw[show bf (y::l)=.int y::bf l from rfl,aQ,bm,h1,a];exact⟨rfl,rfl⟩
theorem ul(t:CT):aR t.told=true/\cv t.told<=2:=by
 cases t with
 |hav f=>exact⟨rfl,by show(1:Nat)<=2;decide⟩
 |lck f=>exact⟨rfl,by show(1:Nat)<=2;decide⟩
 |som n fs=>
  show aR (.tup [.str "some",.int n,.tup (bf fs)])=true/\cv (.tup [.str "some",.int n,.tup (bf fs)])<=2;rw[aR,aQ,aQ,aQ,aR,(iM fs).1,cv,bm,bm,bm,cv,(iM fs).2];exact⟨rfl,by show(2:Nat)<=2;decide⟩
 |led fs n=>
  show aR (.tup [.str "lead",.tup (bf fs),.int (n:Int)])=true/\cv (.tup [.str "lead",.tup (bf fs),.int (n:Int)])<=2;rw[aR,aQ,aQ,aR,(iM fs).1,cv,bm,bm,cv,(iM fs).2];exact⟨rfl,by show(2:Nat)<=2;decide⟩
theorem sL:∀l:List CT,aQ (l.map CT.told)=true/\bm (l.map CT.told)<=2
 |[]=>⟨rfl,YM _⟩
 |t::l=>by
  obtain⟨h1,a⟩:=sL l;rw[YL,aQ,bm,(ul t).1,h1];exact⟨rfl,Nat.max_le.2 ⟨(ul t).2,a⟩⟩
theorem um:∀l:List Row,aQ (l.map fA)=true/\bm (l.map fA)<=4
 |[]=>⟨rfl,YM _⟩
 |r::l=>by
  obtain⟨h1,a⟩:=um l;obtain⟨b,c⟩:=sL r.2;have e1:aR (fA r)=true:=by
   show aR (.tup [.int (r.1:Int),.tup (r.2.map CT.told)])=true;rw[aR,aQ,aQ,aR,b];rfl
  have e2:cv (fA r)<=4:=by
   show cv (.tup [.int (r.1:Int),.tup (r.2.map CT.told)])<=4;rw[cv,bm,bm,cv];show max 0 (max (bm (r.2.map CT.told)+1) 0)+1<=4;omega
  rw[YL,aQ,bm,e1,h1];exact⟨rfl,Nat.max_le.2 ⟨e2,a⟩⟩
def spLaw:aK:=λds M Q=>∃(a:Addr) (ns:Zi),ds=[.ref a]/\M a=some (.rol (ns.map .int))/\ns.length<=63/\∀M',Q (.bl true) M'
section
variable {cn:Cn}{ds:List D}{M:MH}{Q:DK}{c:CA}{S:Addr}
theorem rd_law(hT:cn.T S "row_list" = some (kT c S))(f0:cn.F.getD 0 (λ_ _ _=>False)=spIs)(f1:cn.F.getD 1 (λ_ _ _=>False)=spParts c S)(f2:cn.F.getD 2 (λ_ _ _=>False)=cc S (iw c S))(f3:cn.F.getD 3 (λ_ _ _=>False)=spDue)(f4:cn.F.getD 4 (λ_ _ _=>False)=spLeanedL)(f5:cn.F.getD 5 (λ_ _ _=>False)=spRowK)
  (f6:cn.F.getD 6 (λ_ _ _=>False)=mP) (f7:cn.F.getD 7 (λ_ _ _=>False)=spMany) (h:spLaw ds M Q):wSs cn ir_law (fin Q) (aw ["","","","","","",""] ds) M:=by
 obtain⟨a,ns,rfl,hM,SX,q⟩:=h;show wSs cn ir_law (fin Q) [some (.ref a),none,none,none,none,none,none] M;unfold ir_law;simp! only[List.set,f6,f7];refine⟨a,ns,0,rfl,hM,_,rfl,λM1 m e1 WZ N5=>?_⟩;have VU:=e1 _ _ hM;unfold w4;simp! only[List.set,f6];refine⟨a,ns,1,rfl,VU,by decide,?_⟩;obtain⟨d,PQ,Ud,ed⟩:∃d:Int,0<=d/\d<=1/\1-cellAt ns 1%2=d:=by
  have:=ou (y:=cellAt ns 1) (m:=2) 'c'
  exact⟨_,by omega,by omega,rfl⟩
 show wSs cn qM (fin Q) [some (.ref a),some (.int (m:Int)),some (.int (1-cellAt ns 1%2)),none,none,none,none] M1;rw[ed];clear ed;have run:∀(x:Int) (b:MH) (Z:DK),(∀(r:Row) C g,r.1<m->r.2.length<=6->(∀t∈r.2,t.fit (m:Int))->ae b g->g C=some (.lst (r.2.map CT.told))->Z (.tup [.int (r.1:Int),.ref C]) g) ->
   wE cn (.fn 5 (.cons (.lst (.cons (.var 7) (.cons (.var 2) .nil))) (.cons (.var 1) .nil))) [some (.ref a),some (.int (m:Int)),some (.int d),none,none,none,none,some (.int x)] b Z:=by
  intro x b Z hZ;simp! only[f5];intro pb VV;have eb:ae b (ab b pb (.lst [.int x,.int d])):=ae.new VV;refine⟨pb,x,d,m,rfl,aa,PQ,by omega,⟨by omega,N5⟩,λf ts C g b7 d7 hf hl ht VH B7 g7=>?_⟩;exact hZ (f,ts) C g hf hl ht (ExtBut.ext eb B7.but VV) g7
 unfold qM;simp! only[List.set,List.cons_append,XE,List.replicate,VU,cx];intro L hL;have Yo:(dr (ns.map D.int) (some (2:Int)) (some (63:Int))).length<=63:=Hg _ 2 63;have Pc:∀d∈dr (ns.map D.int) (some (2:Int)) (some (63:Int)),∃c,d=D.int c:=λd hd=>by
  obtain⟨c,-,rfl⟩:=List.mem_map.1 (Hh hd);exact⟨c,rfl⟩
 generalize dr (ns.map D.int) (some (2:Int)) (some (63:Int))=cells at *;have e2:ae M1 (ab M1 L (.lst cells)):=ae.new hL;have g2:ab M1 L (MO.lst cells) L=some (.lst cells):=aa;generalize ab M1 L (MO.lst cells)=M2 at *;simp only[g2];have step:∀(F:List D->MH->Prop),(∀(f_:List D) (a_:Zx) (b:MH),ae M2 b->bO b f_ a_->fE m a_->F f_ b)->∀(xs f_:List D) (rs:Zx) (v:Zy) (b:MH),(∀d∈xs,∃c,d=D.int c)->rs.length+xs.length<=63->ae M2 b->bO b f_ rs->(∀x∈rs,x.1<m/\x.2.length<=6/\∀t∈x.2,t.fit (m:Int)) ->
   aq (λM'=>M' L=some (.lst cells)) (.nm 7) (λx M Q=>Q true M) (wE cn (.fn 5 (.cons (.lst (.cons (.var 7) (.cons (.var 2) .nil))) (.cons (.var 1) .nil)))) F xs f_ [some (.ref a),some (.int (m:Int)),some (.int d),none,none,none,none,v] b:=by
  intro F K xs;induction xs with
  |nil=>
   intro f_ rs v b _ hl j U hf;rw[aq];exact K f_ rs b j U ⟨N5,by rw[YU] at hl;omega,hf⟩
  |cons y xs V=>
   intro f_ rs v b hx hl j U hf;obtain⟨z,rfl⟩:=hx y (.head _);rw[YJ] at hl;rw[aq];show wE cn _ [some (.ref a),some (.int (m:Int)),some (.int d),none,none,none,none,some (.int z)] b _;refine run z b _ λr C g r1 r2 r3 G g7=>⟨(j.trans G) _ _ g2,?_⟩
   refine V (f_++[_]) (rs++[r]) _ g (λd hd=>hx d (.tail _ hd)) (by rw[ZM,XC];omega) (j.trans G) (bA (U.ext G) (.cons ⟨C,rfl,g7⟩ .nil)) λx hx=>?_
   rcases YC.1 hx with z | z
   ·exact hf x z
   ·rw[XO.1 z];exact⟨r1,r2,r3⟩
 refine step _ (λf_ a_ b j U ok=>?_) cells [] [] none M2 Pc (by simpa using Yo) (ae.refl _) .nil (λx hx=>nomatch hx);clear step run;intro R hR;have eR:ae b (ab b R (.lst f_)):=ae.new hR;have A6:=U.ext eR;have g6:ab b R (MO.lst f_) R=some (.lst f_):=aa;generalize ab b R (MO.lst f_)=n at *;have W:∀(F:List D->MH->Prop) (xs:List D) (l dn:Zx) (ac:List D) (p u:Zy) (b:MH),bO n xs l->ae n b->bO b ac dn->(∀OO J,ae n J->bO J OO (dn++l)->F OO J) ->
   aq (λM'=>M' R=some (.lst f_)) (.tp [7,8]) (λx M Q=>Q true M) (wE cn (.tup (.cons (.var 7) (.cons (.bk .list (.cons (.var 8) .nil)) .nil)))) F xs ac [some (.ref a),some (.int (m:Int)),some (.int d),some (.ref R),none,none,none,p,u] b:=by
  intro F xs l dn f_ p u b hx;induction hx generalizing dn f_ p u b with
  |nil=>
   intro j h5 k;rw[aq];rw[ZA] at k;exact k f_ b j h5
  |@cons d x xs l hd _ V=>
   intro j h5 k;obtain⟨q1,rfl,NA⟩:=hd;have Yp:=j _ _ NA;rw[aq];simp! only[List.set,ub,lN,Yp,nX,cx];refine⟨rfl,λr O=>?_⟩;have e6:=j.then (o:=MO.lst (x.2.map CT.told)) O;refine⟨e6 _ _ g6,V (dn++[x]) _ _ _ _ e6 ?_ ?_⟩
   ·exact bA (bO.ext (ae.new O) h5) (.cons ⟨r,rfl,aa⟩ .nil)
   ·intro OO n e h
    rw[ZC] at h;exact k OO n e h
 unfold wZ;simp! only[List.set,List.cons_append,XE,List.replicate,g6,f2];refine W _ f_ a_ [] [] none none n A6 (ae.refl n) .nil ?_;clear W;intro P g G hA r O;rw[XE] at hA;have e8:=G.then (o:=MO.lst P) O;have g8:ab g r (MO.lst P) r=some (.lst P):=aa;have A8:=hA.ext (ae.new (o:=MO.lst P) O);generalize ab g r (MO.lst P)=J at *;intro sh Qt;have es:ae J (ab J sh (.ins S [])):=ae.new Qt;refine⟨sh,m,r,P,a_,rfl,aa,es _ _ g8,A8.ext es,ok,λM9 b9 S9=>⟨rfl,?_⟩⟩;have e9:ae n M9:=e8.trans (ExtBut.ext es b9 Qt);have A9:=A6.ext e9;have r9:=e9 _ _ g6;clear e8 g8 A8 es b9 Qt O hA G;unfold wY;simp! only[List.set,f3,f4];refine⟨R,m,f_,a_,rfl,r9,A9,ok,λLn Nr Uh MY PF=>⟨Ln,m,a_,rfl,PF,ok,λdu Nl Yq NB PD=>?_⟩⟩;have PR:=MY.trans NB;have QX:=S9.ext PR;have Yr:=A9.ext PR;have Ys:=PR _ _ r9;clear MY NB PF Uh Yq;unfold wX;simp! only[List.set,f1];refine⟨sh,m,a_,rfl,QX,λY T1 Yt Ui Uj=>?_⟩;unfold wW;simp! only[List.set,f0];refine⟨Y,du,ow a_ m,rfl,Uj,Ui _ _ PD,λQ1 Qa=>?_⟩;simp only[Bool.not_true,aI];have RK:=Qa _ _ Uj;unfold wV;simp! only[List.set,RK,cx];refine⟨rfl,?_⟩;have Rg:ae Nl (ab Q1 Y (.lst [])):=(Ui.trans Qa).put Yt;generalize ab Q1 Y (MO.lst [])=Yu at *;have VW:=QX.ext Rg;have Yv:=Yr.ext Rg;have VX:=Rg _ _ Ys;have Yw:=Rg _ _ PD;clear Ui Qa Uj RK Rg;have shown:∀(B:MH),ae Yu B->∀(F:List D->MH->Prop) (xs:List D) (l dn:Zx) (p u:Zy),bO B xs l->F ((dn++l).map fA) B ->
   aq (λM'=>M' R=some (.lst f_)) (.tp [7,8]) (λ_ M Q=>Q true M) (wE cn (.tup (.cons (.var 7) (.cons (.bi .tuple (.cons (.var 8) .nil)) .nil)))) F xs (dn.map fA) [some (.ref a),some (.int (m:Int)),some (.int d),some (.ref R),some (.ref sh),some (.ref du),some (.ref Y),p,u] B:=by
  intro B eo F xs l dn p u hx;induction hx generalizing dn p u with
  |nil=>
   intro k;rw[aq];rw[ZA] at k;exact k
  |@cons d' x xs l hd _ V=>
   intro k;obtain⟨q1,rfl,NA⟩:=hd;rw[aq];refine⟨rfl,?_⟩;have ev:∀K:DK,K (fA x) B->wE cn (.tup (.cons (.var 7) (.cons (.bi .tuple (.cons (.var 8) .nil)) .nil))) [some (.ref a),some (.int (m:Int)),some (.int d),some (.ref R),some (.ref sh),some (.ref du),some (.ref Y),some (.int (x.1:Int)),some (.ref q1)] B K:=by
    intro K hK;simp! only[NA,cx];exact hK
   refine ev _ ⟨eo _ _ VX,?_⟩
   have:=V (dn++[x]) (some (.int (x.1:Int))) (some (.ref q1)) (by simpa using k)
   rw[ZN] at this;exact this
 unfold wU;simp! only[List.set,f0,f1];refine⟨sh,m,a_,rfl,VW,λYx ah Yy VY Yz=>⟨Yx,du,ow a_ m,rfl,Yz,VY _ _ Yw,λal YK=>?_⟩⟩;have Rh:=VY.trans YK;have VZ:=VW.ext Rh;obtain⟨_,u_,p1,p2,p3,MP,MG,NJ,h1,-⟩:=id VZ;simp only[Bool.not_true,aI,h1,xz,hT];refine⟨trivial,sh,m,a_,rfl,VZ,λpr Ri Nz YQ YR=>?_⟩;have PU:=Rh.trans YQ;simp! only[List.set,List.cons_append,XE,List.replicate,PU _ _ VX];refine shown Ri PU _ f_ a_ [] none none (Yv.ext PU) λw9 Y0=>?_
 rw[XE];have ep:ae Ri (ab Ri w9 (.lst (a_.map fA))):=ae.new Y0;have gp:ab Ri w9 (MO.lst (a_.map fA)) w9=some (.lst (a_.map fA)):=aa;generalize ab Ri w9 (MO.lst (a_.map fA))=RU at *;simp! only[ep _ _ YR,gp,cx];obtain⟨OH,G'⟩:=um a_;refine⟨⟨OH,OH,by omega⟩,?_⟩;rw[kx _ OH];simp only[Bool.not_true,aI];unfold wR;simp! only[List.set,f0,f1,f2];intro p0 Y1;have eh:ae RU (ab RU p0 (.lst [])):=ae.new Y1;have gh:ab RU p0 (MO.lst []) p0=some (.lst []):=aa;generalize ab RU p0 (MO.lst [])=Mh at *;intro em Y2;have es:ae Mh (ab Mh em (.ins S [])):=ae.new Y2;have Y3:fE 0 []:=⟨by decide,by decide,λx hx=>nomatch hx⟩;refine⟨em,0,p0,[],[],rfl,aa,es _ _ gh,.nil,Y3,λMi bi Si=>⟨rfl,?_⟩⟩;refine⟨em,0,[],rfl,Si,λY4 Mj Y5 ej gj=>?_⟩;intro pe Y6;have ek:ae Mj (ab Mj pe (.lst [])):=ae.new Y6;have gk:ab Mj pe (MO.lst []) pe=some (.lst []):=aa;generalize ab Mj pe (MO.lst [])=Mk at *;exact⟨Y4,pe,[],rfl,ek _ _ gj,gk,λMl el=>q Ml⟩
end
end SG
namespace K21
open PySem L2 DD
abbrev lX:List Str:=["many","leanings","found","row","row_leaned","fact","lack"]
abbrev kU:List Str:=["many","leanings"]
theorem sM:cp lX kU (ar dW):=⟨rfl,rfl,rfl,by rfl',rfl,by rfl',by rfl'⟩
abbrev sN:List Str:=[]
theorem sO:cF ⟨lX,ar dW,true,im,kY,sN⟩ SH.dz (aW dW)=true:=by rfl'
abbrev uq:List Str:=["_law_leaned_here","_law_walks","_law_groups_here","_law_found","_law_known","_law_turn","_law_ready_here","_law_fact"]
abbrev sQ:List Str:=["_law_leaned_here"]
theorem Am:cp uq sQ (ar kt):=⟨rfl,rfl,rfl,by rfl',rfl,by rfl',by rfl'⟩
abbrev An:List Str:=["_law_ready","_law_groups","_law_come_to"]
theorem Ao:cF ⟨uq,ar kt,true,im,kY,An⟩ SG.ir_law_due (aW kt)=true:=by rfl'
abbrev FH:List Str:=["_law_script","_law_many_here","_law_mode","_law_rows","_law_sheet","_law_due_here","_law_found"]
abbrev JO:List Str:=["_law_script"]
theorem JP:cp FH JO (ar rk):=⟨rfl,rfl,rfl,by rfl',rfl,by rfl',by rfl'⟩
abbrev JQ:List Str:=["_law_is","parts_of","Sheet","_law_due","_law_leaned","_law_row","_law_cell_at","_law_many"]
theorem JR:cF ⟨FH,ar rk,true,im,kY,JQ⟩ SG.ir_law (aW rk)=true:=by rfl'
end K21
namespace K21
open PySem PySem.Spec PyProof.Rows L2 DD
theorem LW{P:List Value->Prop}(h:P []):∀us:List Value,us.length=0->P us
 |[],_=>h
theorem JS{P:List Value->Prop}(h:∀a,P [a]):∀us:List Value,us.length=1->P us
 |a::t,hl=>LW (P:=λt=>P (a::t)) (h a) t (Nat.succ.inj hl)
 |[],hl=>nomatch hl
theorem KL{P:List Value->Prop}(h:∀a b,P [a,b]):∀us:List Value,us.length=2->P us
 |a::t,hl=>JS (P:=λt=>P (a::t)) (h a) t (Nat.succ.inj hl)
 |[],hl=>nomatch hl
theorem KM{P:List Value->Prop}(h:∀a b c,P [a,b,c]):∀us:List Value,us.length=3->P us
 |a::t,hl=>KL (P:=λt=>P (a::t)) (h a) t (Nat.succ.inj hl)
 |[],hl=>nomatch hl
theorem KN{P:List Value->Prop}(h:∀a b c d,P [a,b,c,d]):∀us:List Value,us.length=4->P us
 |a::t,hl=>KM (P:=λt=>P (a::t)) (h a) t (Nat.succ.inj hl)
 |[],hl=>nomatch hl
theorem KO{P:List Value->Prop}(h:∀a b c d e,P [a,b,c,d,e]):∀us:List Value,us.length=5->P us
 |a::t,hl=>KN (P:=λt=>P (a::t)) (h a) t (Nat.succ.inj hl)
 |[],hl=>nomatch hl
theorem LX{P:List Value->Prop}(h:∀a b c d e f,P [a,b,c,d,e,f]):∀us:List Value,us.length=6->P us
 |a::t,hl=>KO (P:=λt=>P (a::t)) (h a) t (Nat.succ.inj hl)
 |[],hl=>nomatch hl
local macro_rules
 | `(tactic| ac_rfl) => `(tactic| exact ⟨rfl, rfl, rfl, by rfl', rfl, by rfl', by rfl'⟩)
abbrev nO(st:Stmt):List Str:=((ar st).names.filter λp=>p.2==.local || p.2==.cell).map (·.1)
local macro_rules
 | `(tactic| ac_nf) => `(tactic| first | exact λ_ _ _ _ _ _ => JS λ_ => rfl | exact λ_ _ _ _ _ _ => KL λ_ _ => rfl | exact λ_ _ _ _ _ _ => KM λ_ _ _ => rfl | exact λ_ _ _ _ _ _ => KN λ_ _ _ _ => rfl | exact λ_ _ _ _ _ _ => KO λ_ _ _ _ _ => rfl | exact λ_ _ _ _ _ _ => LX λ_ _ _ _ _ _ => rfl)
local macro_rules
 | `(tactic| bv_omega) => `(tactic| (intro ds M Q h; first | (obtain ⟨_, e, _⟩ := h; subst e; rfl) | (obtain ⟨_, _, e, _⟩ := h; subst e; rfl) | (obtain ⟨_, _, _, e, _⟩ := h; subst e; rfl) | (obtain ⟨_, _, _, _, e, _⟩ := h; subst e; rfl) | (obtain ⟨_, _, _, _, _, e, _⟩ := h; subst e; rfl) | (obtain ⟨_, _, _, _, _, _, e, _⟩ := h; subst e; rfl) | (obtain ⟨_, _, _, _, _, _, _, e, _⟩ := h; subst e; rfl) | (obtain ⟨_, _, _, _, _, _, _, _, e, _⟩ := h; subst e; rfl) | (obtain ⟨_, _, _, _, _, _, _, _, _, e, _⟩ := h; subst e; rfl) | (obtain ⟨_, _, _, _, _, _, _, _, _, _, e, _⟩ := h; subst e; rfl) | (obtain ⟨_, _, _, _, _, _, _, _, _, _, _, e, _⟩ := h; subst e; rfl) | (obtain ⟨_, _, _, _, _, _, _, _, _, _, _, _, e, _⟩ := h; subst e; rfl) | (obtain ⟨_, _, _, _, _, _, _, _, _, _, _, _, _, e, _⟩ := h; subst e; rfl) | (obtain ⟨_, _, _, _, _, _, _, _, _, _, _, _, _, _, e, _⟩ := h; subst e; rfl)))
def oI(c:SH.CA):pU:=λa m=>(SH.kindAt c a).bind λk=>if m = "leaning" then some (SH.cb c k) else if m = "shown" then some (SH.cK c k) else none
def oJ(c:SH.CA)(S:Addr):pU:=λa m=>if a=S then(if m = "how_many" then some (SH.iK c S) else if m = "leaned" then some (SG.spLeaned c S) else none) else none
def Ct(S:Addr):pT:=λC f=>C=S/\f∈SH.lR
section
variable {P:Zv}{w:World}{K:Za}{mg:Ze}{base:Heap}{c:SH.CA}{S:Addr}{k:Nat}
theorem xa(h:c.apart)(t:SH.CT):oI c (c.at t.kind) "leaning" = some (SH.cb c t.kind):=by
 unfold oI;rw[h _ t.kind_lt];rfl
theorem uG:oJ c S S "how_many" = some (SH.iK c S):=by unfold oJ;rw[if_pos rfl];kernel_rfl
theorem xB:oJ c S S "leaned" = some (SG.spLeaned c S):=by unfold oJ;rw[if_pos rfl];kernel_rfl
theorem Ap(h:c.apart)(t:SH.CT):oI c (c.at t.kind) "shown" = some (SH.cK c t.kind):=by
 unfold oI;rw[h _ t.kind_lt];rfl
theorem cB{h:Heap}{x:Str}{st:Stmt}{N:Zf}{sp:aK}{a:Ss}{glob blt fns:Zf}{cn:Cn}(A:bG K x st){ps:Zf}(X:K.In h)(G:h.Ns mainGlobals mg)
  (hb:∀(kV x_ pm:Value) (an:Zm) (s_ ct:Value) (us:Zd),us.length=ps.length->bindArgs (PySem.W.fnOf x x (bF st) (aW st) (ar st) .none kV x_ pm an s_ ct) ⟨us,[]⟩=pure (ps.zip us))
  (S:cp N ps (ar st)) (nm:Names P w K mg base k glob blt fns cn) (hc:cF ⟨N,ar st,true,glob,blt,fns⟩ a (aW st)=true) (len:∀ds M Q,sp ds M Q->ds.length=ps.length)
  (h':∀ds M Q,sp ds M Q->wSs cn a { nx:=λ_ M'=>Q .non M',rt:=Q } (aw N ds) M):cf P w K mg base (k+1) x sp:=by
 obtain⟨_,_,A⟩:=A;exact JC (A.def_ X G hb) S nm hc len h'
theorem gK{C:Addr}{m k_:Str}{st:Stmt}{ps N:Zf}{sp:aK}{a:Ss}{glob blt fns:Zf}{cn:Cn}(cl:fW K C)(A:cC K C m k_ st)(S:cp N ps (ar st))(nm:Names P w K mg base k glob blt fns cn)
  (hb:∀(kV x_ pm:Value) (an:Zm) (s_ ct:Value) (us:Zd),us.length=ps.length->bindArgs (PySem.W.fnOf m k_ (bF st) (aW st) (ar st) .none kV x_ pm an s_ ct) ⟨us,[]⟩=pure (ps.zip us))
  (hc:cF ⟨N,ar st,true,glob,blt,fns⟩ a (aW st)=true) (len:∀ds M Q,sp ds M Q->ds.length=ps.length)
  (h:∀ds M Q,sp ds M Q->wSs cn a { nx:=λ_ M'=>Q .non M',rt:=Q } (aw N ds) M):bQ P w K mg base (k+1) C m sp:=by
 obtain⟨_,_,A⟩:=A;exact Ey cl A S nm hb hc len h
theorem Cu{x:Str}{C:Addr}{k_:Str}{st:Stmt}{ps N:Zf}{sp:aK}{a:Ss}{glob blt fns:Zf}{cn:Cn}(hx:mg x=some (.ref C))(hm:PySem.W.makesIn K C=true)(hk:PySem.W.keepIn K (.ref C)=true)(A:cC K C "__init__" k_ st)
  (S:cp N ps (ar st)) (nm:Names P w K mg base k glob blt fns cn)
  (hb:∀(kV x_ pm:Value) (an:Zm) (s_ ct:Value) (us:Zd),us.length=ps.length->bindArgs (PySem.W.fnOf "__init__" k_ (bF st) (aW st) (ar st) .none kV x_ pm an s_ ct) ⟨us,[]⟩=pure (ps.zip us))
  (hc:cF ⟨N,ar st,true,glob,blt,fns⟩ a (aW st)=true) (len:∀ds M Q,sp ds M Q->ds.length=ps.length)
  (h:∀ds M Q,sp ds M Q->wSs cn a { nx:=λ_ M'=>Q .non M',rt:=Q } (aw N ds) M):dy P w K mg base (k+2) x (cc C sp):=by
 obtain⟨_,_,A⟩:=A;exact JD hx hm hk A S nm hb hc len h
structure db (K:Za) (mg:Ze) (c:SH.CA) (S:Addr):Prop where
 gl:∀(j:Nat) x,im[j]?=some x->nP K mg x (l9.getD j .non)
 bl:∀x,kY.contains x=true->mg x=none
 cl:∀i,i<4->clsIn K (c.at i) SH.fQ=true
 sh:clsIn K S SH.lR=true
theorem db.fl(E:db K mg c S):∀C f,SH.dP c C f->fW K C/\cN K C f:=by
 rintro C f ⟨i,hi,rfl,hf⟩;exact⟨bK (E.cl i hi),vi (E.cl i hi) hf⟩
theorem db.fs(E:db K mg c S):∀C f,Ct S C f->fW K C/\cN K C f:=by
 rintro C f ⟨rfl,hf⟩;exact⟨bK E.sh,vi E.sh hf⟩
abbrev Cv(P:Zv)(w:World)(K:Za)(mg:Ze)(base:Heap)(k:Nat)(fns:Zf)(F:List aK):Prop:=∀(j:Nat) (x:Str),fns[j]?=some x->∃k',k'<=k/\dy P w K mg base k' x (F.getD j λ_ _ _=>False)
theorem bP{fns:Zf}{F:List aK}(E:db K mg c S)(hf:Cv P w K mg base k fns F):
 Names P w K mg base k im kY fns ⟨F,l9,SH.dP c,λ_ _=>none,λ_ _=>none⟩:=⟨E.gl,E.bl,hf,E.fl,(λ_ _ _ z=>nomatch z),(λ_ _ _ z=>nomatch z)⟩
theorem JT{fns:Zf}{F:List aK}(E:db K mg c S)(hf:Cv P w K mg base k fns F):
 Names P w K mg base k im kY fns ⟨F,l9,Ct S,λ_ _=>none,λ_ _=>none⟩:=⟨E.gl,E.bl,hf,E.fs,(λ_ _ _ z=>nomatch z),(λ_ _ _ z=>nomatch z)⟩
theorem LY{fns:Zf}{F:List aK}(E:db K mg c S)(mt:∀C m sp,oI c C m=some sp->∃k',k'<=k/\bQ P w K mg base k' C m sp)(hf:Cv P w K mg base k fns F):
 Names P w K mg base k im kY fns ⟨F,l9,SH.dP c,oI c,λ_ _=>none⟩:=⟨E.gl,E.bl,hf,E.fl,mt,(λ_ _ _ z=>nomatch z)⟩
theorem LZ{fns:Zf}{F:List aK}(E:db K mg c S)(mt:∀C m sp,oJ c S C m=some sp->∃k',k'<=k/\bQ P w K mg base k' C m sp)(hf:Cv P w K mg base k fns F):
 Names P w K mg base k im kY fns ⟨F,l9,SH.dP c,oJ c S,λ_ _=>none⟩:=⟨E.gl,E.bl,hf,E.fl,mt,(λ_ _ _ z=>nomatch z)⟩
theorem qN{T:pU}{j:Nat}(h:j<=k)(mt:∀C m sp,T C m=some sp->∃k',k'<=j/\bQ P w K mg base k' C m sp):∀C m sp,T C m=some sp->∃k',k'<=k/\bQ P w K mg base k' C m sp:=λC m sp e=>let⟨k',h1,h2⟩:=mt C m sp e;⟨k',ZY h1 h,h2⟩
theorem KP{O:pT}{T:pU}{fns:Zf}{F:List aK}(E:db K mg c S)(a:∀C f,O C f->fW K C/\cN K C f)(mt:∀C m sp,T C m=some sp->∃k',k'<=k/\bQ P w K mg base k' C m sp)(hf:Cv P w K mg base k fns F):
 Names P w K mg base k im kY fns ⟨F,l9,O,T,λ_ _=>none⟩:=⟨E.gl,E.bl,hf,a,mt,(λ_ _ _ z=>nomatch z)⟩
def Aq(V:Addr)(x:Str)(sp:aK):pU:=λa m=>if a=V/\m=x then some sp else none
theorem Hm{V:Addr}{x:Str}{sp:aK}:Aq V x sp V x=some sp:=by unfold Aq;rw[if_pos ⟨rfl,rfl⟩]
theorem L0{V:Addr}{x:Str}{sp:aK}{j:Nat}(b:j<=k)(h:bQ P w K mg base j V x sp):∀C m a,Aq V x sp C m=some a->∃k',k'<=k/\bQ P w K mg base k' C m a:=by
 intro C m a e;unfold Aq at e;split at e
 ·rename_i q
  obtain⟨rfl,rfl⟩:=q;cases e;exact⟨j,b,h⟩
 ·cases e
theorem mT(i:Nat){n:Nat}(h:∀t:SH.CT,t.kind=i->t.flds.length+1=n){ps:Zf}(hp:ps.length=n):∀ds M Q,SH.cj c i ds M Q->ds.length=ps.length:=by
 rintro ds M Q ⟨a,t,hk,rfl,_⟩;rw[YJ,ZG,h t hk,hp]
theorem JU(E:db K mg c S)
  (r:c.apart)
  {hp:Heap}
  (X:K.In hp)
  (G:hp.Ns mainGlobals mg)
  {u:Addr}{y:Zu}(MT:aX K "law" rk u y)
  (J:mg "Have" = some (.ref (c.at 0))) (L:PySem.W.makesIn K (c.at 0)=true) (O:PySem.W.keepIn K (.ref (c.at 0))=true)
  (R:mg "Lack" = some (.ref (c.at 1))) (T:PySem.W.makesIn K (c.at 1)=true) (U:PySem.W.keepIn K (.ref (c.at 1))=true)
  (V:mg "Some" = some (.ref (c.at 2))) (Y:PySem.W.makesIn K (c.at 2)=true) (Z:PySem.W.keepIn K (.ref (c.at 2))=true)
  (Ru:mg "Lead" = some (.ref (c.at 3))) (Rv:PySem.W.makesIn K (c.at 3)=true) (Rw:PySem.W.keepIn K (.ref (c.at 3))=true)
  (Rx:mg "Sheet" = some (.ref S)) (Ry:PySem.W.makesIn K S=true) (Rz:PySem.W.keepIn K (.ref S)=true)
  (hy:IF K (c.at 0) (c.at 1) (c.at 2) (c.at 3) S):
  eJ P w K mg base ko 8 u y ["_law_script"] (gq K SG.spLaw):=by
 have Ul:dy P w K mg base 2 "Have" (cc (c.at 0) (SH.cj c 0)):=Cu (N:=nO lc) (ps:=(nO lc).take 2) J L O hy.a_50 (by ac_rfl) 'f' (by ac_nf) (by rfl') (mT 0 (n:=2) (λt ht=>by cases t<;>first | rfl | cases ht) rfl) (λds M Q h=>SH.wl rfl h);have Um:bQ P w K mg base 1 (c.at 0) "leaning" (SH.cb c 0):=gK (N:=nO gU) (ps:=(nO gU).take 1) (bK (E.cl 0 'c')) hy.a_51 (by ac_rfl) 'f' (by ac_nf) (by rfl') (by bv_omega) (λds M Q h=>SH.sm rfl h);have Uo:bQ P w K mg base 1 (c.at 0) "shown" (SH.cK c 0):=gK (N:=nO jB) (ps:=(nO jB).take 1) (bK (E.cl 0 'c')) hy.a_52 (by ac_rfl) 'f' (by ac_nf) (by rfl') (by bv_omega) (λds M Q h=>SH.uA rfl h);have Uq:dy P w K mg base 2 "Lack" (cc (c.at 1) (SH.cj c 1)):=Cu (N:=nO ld) (ps:=(nO ld).take 2) R T U hy.a_53 (by ac_rfl) 'f' (by ac_nf) (by rfl') (mT 1 (n:=2) (λt ht=>by cases t<;>first | rfl | cases ht) rfl) (λds M Q h=>SH.wm rfl h);have Ur:bQ P w K mg base 1 (c.at 1) "leaning" (SH.cb c 1):=gK (N:=nO gV) (ps:=(nO gV).take 1) (bK (E.cl 1 'c')) hy.a_54 (by ac_rfl) 'f' (by ac_nf) (by rfl') (by bv_omega) (λds M Q h=>SH.sn rfl h);have Us:bQ P w K mg base 1 (c.at 1) "shown" (SH.cK c 1):=gK (N:=nO jC) (ps:=(nO jC).take 1) (bK (E.cl 1 'c')) hy.a_55 (by ac_rfl) 'f' (by ac_nf) (by rfl') (by bv_omega) (λds M Q h=>SH.uB rfl h);have Ut:dy P w K mg base 2 "Some" (cc (c.at 2) (SH.cj c 2)):=Cu (N:=nO lf) (ps:=(nO lf).take 3) V Y Z hy.a_56 (by ac_rfl) 'f' (by ac_nf) (by rfl') (mT 2 (n:=3) (λt ht=>by cases t<;>first | rfl | cases ht) rfl) (λds M Q h=>SH.wn rfl h);have Uu:bQ P w K mg base 1 (c.at 2) "leaning" (SH.cb c 2):=gK (N:=nO gW) (ps:=(nO gW).take 1) (bK (E.cl 2 'c')) hy.a_57 (by ac_rfl) 'f' (by ac_nf) (by rfl') (by bv_omega) (λds M Q h=>SH.ss rfl h);have Uv:bQ P w K mg base 1 (c.at 2) "shown" (SH.cK c 2):=gK (N:=nO jD) (ps:=(nO jD).take 1) (bK (E.cl 2 'c')) hy.a_58 (by ac_rfl) 'f' (by ac_nf) (by rfl') (by bv_omega) (λds M Q h=>SH.uC rfl h);have Uw:dy P w K mg base 2 "Lead" (cc (c.at 3) (SH.cj c 3)):=Cu (N:=nO lg) (ps:=(nO lg).take 3) Ru Rv Rw hy.a_59 (by ac_rfl) 'f' (by ac_nf) (by rfl') (mT 3 (n:=3) (λt ht=>by cases t<;>first | rfl | cases ht) rfl) (λds M Q h=>SH.wo rfl h);have Ux:bQ P w K mg base 1 (c.at 3) "leaning" (SH.cb c 3):=gK (N:=nO gX) (ps:=(nO gX).take 1) (bK (E.cl 3 'c')) hy.a_60 (by ac_rfl) 'f' (by ac_nf) (by rfl') (by bv_omega) (λds M Q h=>SH.su rfl h);have Uy:bQ P w K mg base 1 (c.at 3) "shown" (SH.cK c 3):=gK (N:=nO jE) (ps:=(nO jE).take 1) (bK (E.cl 3 'c')) hy.a_61 (by ac_rfl) 'f' (by ac_nf) (by rfl') (by bv_omega) (λds M Q h=>SH.uD rfl h);have Uz:bQ P w K mg base 1 S "how_many" (SH.iK c S):=gK (N:=nO fN) (ps:=(nO fN).take 1) (bK E.sh) hy.a_63 (by ac_rfl) (JT (F:=[]) (k:=0) E (aA (F:=[]))) (by ac_nf) (by rfl') (by bv_omega) (λds M Q h=>SH.xw (λf hf=>⟨rfl,hf⟩) h);have Ms:bQ P w K mg base 1 S "leaned" (SG.spLeaned c S):=gK (N:=nO gY) (ps:=(nO gY).take 2) (bK E.sh) hy.a_Sheet_leaned (by ac_rfl) (JT (F:=[]) (k:=0) E (aA (F:=[]))) (by ac_nf) (by rfl') (by bv_omega) (λds M Q h=>SG.rd_leaned (λf hf=>⟨rfl,hf⟩) h);have MC:∀C m sp,oI c C m=some sp->∃k',k'<=1/\bQ P w K mg base k' C m sp:=by
  intro C m sp e;unfold oI at e;have at_:∀i,SH.kindAt c C=some i->C=c.at i/\i<4:=by
   intro i hi;unfold SH.kindAt at hi;split at hi
   ·cases hi;exact⟨by assumption,by decide⟩
   ·split at hi
    ·cases hi;exact⟨by assumption,by decide⟩
    ·split at hi
     ·cases hi;exact⟨by assumption,by decide⟩
     ·split at hi
      ·cases hi;exact⟨by assumption,by decide⟩
      ·cases hi
  cases q:SH.kindAt c C with
  |none=>rw[q] at e;cases e
  |some i=>
   rw[q] at e;obtain⟨rfl,hi⟩:=at_ i q;have e:(if m = "leaning" then some (SH.cb c i) else if m = "shown" then some (SH.cK c i) else none)=some sp:=e;have z:i=0\/i=1\/i=2\/i=3:=by omega
   split at e
   ·rename_i hm
    subst hm;cases e;rcases z with rfl | rfl | rfl | rfl
    ·exact⟨_,by decide,Um⟩
    ·exact⟨_,by decide,Ur⟩
    ·exact⟨_,by decide,Uu⟩
    ·exact⟨_,by decide,Ux⟩
   ·split at e
    ·rename_i hm
     subst hm;cases e;rcases z with rfl | rfl | rfl | rfl
     ·exact⟨_,by decide,Uo⟩
     ·exact⟨_,by decide,Us⟩
     ·exact⟨_,by decide,Uv⟩
     ·exact⟨_,by decide,Uy⟩
    ·cases e
 have MS:∀C m sp,oJ c S C m=some sp->∃k',k'<=1/\bQ P w K mg base k' C m sp:=by
  intro C m sp e;unfold oJ at e;split at e
  ·rename_i hC
   subst hC;split at e
   ·rename_i hm;subst hm;cases e;exact⟨_,by decide,Uz⟩
   ·split at e
    ·rename_i hm;subst hm;cases e;exact⟨_,by decide,Ms⟩
    ·cases e
  ·cases e
 have Y7:cf P w K mg base 1 "_law_is" (SG.spIs):=cB hy.a_0 (N:=nO qk) (ps:=(nO qk).take 2) X G (by ac_nf) (by ac_rfl) 'f' (by rfl') (by bv_omega) (λds M Q h=>SG.rd_is h);have b:cf P w K mg base 1 "set_of" (SH.gf):=cB hy.a_1 (N:=nO qi) (ps:=(nO qi).take 1) X G (by ac_nf) (by ac_rfl) 'f' (by rfl') (by bv_omega) (λds M Q h=>SH.Cd h);have Y8:cf P w K mg base 2 "is_ready" (SG.spIsReady):=cB hy.a_2 (N:=nO mi) (ps:=(nO mi).take 3) X G (by ac_nf) (by ac_rfl) (bP (F:=[SH.gf]) (k:=1) E (au 'c' (.inl b) (aA (F:=[])))) (by rfl') (by bv_omega) (λds M Q h=>SG.rd_is_ready rfl h);have g:cf P w K mg base 1 "has_fact" (SH.kG):=cB hy.a_3 (N:=nO mf) (ps:=(nO mf).take 2) X G (by ac_nf) (by ac_rfl) 'f' (by rfl') (by bv_omega) (λds M Q h=>SH.xo h);have Y9:cf P w K mg base 2 "members" (SH.kH):=cB hy.a_4 (N:=nO nT) (ps:=(nO nT).take 1) X G (by ac_nf) (by ac_rfl) (bP (F:=[SH.kG]) (k:=1) E (au 'c' (.inl g) (aA (F:=[])))) (by rfl') (by bv_omega) (λds M Q h=>SH.Ae rfl h);have Y_:cf P w K mg base 3 "parts_by_least" (SG.spByLeast):=cB hy.a_5 (N:=nO fM) (ps:=(nO fM).take 1) X G (by ac_nf) (by ac_rfl) (bP (F:=[SH.kG,SH.gf,SH.kH]) (k:=2) E (au 'c' (.inl g) (au 'c' (.inl b) (au 'c' (.inl Y9) (aA (F:=[])))))) (by rfl') (by bv_omega) (λds M Q h=>SG.rd_parts_by_least rfl rfl rfl h);have Y':cf P w K mg base 2 "reached_sets" (SG.spReached):=cB hy.a_6 (N:=nO gQ) (ps:=(nO gQ).take 1) X G (by ac_nf) (by ac_rfl) (bP (F:=[SH.kG]) (k:=1) E (au 'c' (.inl g) (aA (F:=[])))) (by rfl') (by bv_omega) (λds M Q h=>SG.rd_reached_sets rfl h);have ZD:cf P w K mg base 4 "parts_of" (SG.spParts c S):=cB hy.a_7 (N:=nO mh) (ps:=(nO mh).take 1) X G (by ac_nf) (by ac_rfl) (LZ (F:=[SH.gf,SG.spIsReady,SG.spByLeast,SG.spReached]) (k:=3) E (qN 'c' MS) (au 'c' (.inl b) (au 'c' (.inl Y8) (au 'c' (.inl Y_) (au 'c' (.inl Y') (aA (F:=[]))))))) (by rfl') (by bv_omega) (λds M Q h=>SG.rd_parts_of rfl rfl rfl rfl uG xB h);have ZQ:cf P w K mg base 1 "rows_by_help" (SH.gB):=cB hy.a_8 (ps:=kU) X G (by ac_nf) sM 'f' sO (by bv_omega) (λds M Q h=>SH.sF h);have Z0:cf P w K mg base 2 "row_leanings" (SH.dk c):=cB hy.a_9 (N:=nO gR) (ps:=(nO gR).take 1) X G (by ac_nf) (by ac_rfl) (LY (F:=[]) (k:=1) E (qN 'c' MC) (aA (F:=[]))) (by rfl') (by bv_omega) (λds M Q h=>SH.sC (xa r) h);have UC:cf P w K mg base 1 "rows_by_head" (SH.gz):=cB hy.a_10 (N:=nO gS) (ps:=(nO gS).take 2) X G (by ac_nf) (by ac_rfl) 'f' (by rfl') (by bv_omega) (λds M Q h=>SH.sD h);have UD:cf P w K mg base 3 "made_cond" (SH.sy c):=cB hy.a_11 (N:=nO kZ) (ps:=(nO kZ).take 1) X G (by ac_nf) (by ac_rfl) (bP (F:=[cc (c.at 3) (SH.cj c 3),cc (c.at 2) (SH.cj c 2),cc (c.at 1) (SH.cj c 1),cc (c.at 0) (SH.cj c 0)]) (k:=2) E (au 'c' Uw (au 'c' Ut (au 'c' Uq (au 'c' Ul (aA (F:=[]))))))) (by rfl') (by bv_omega) (λds M Q h=>SH.G7 (c:=c) rfl h);have B:cf P w K mg base 1 "is_whole" (SH.jo):=cB hy.a_12 (N:=nO ma) (ps:=(nO ma).take 1) X G (by ac_nf) (by ac_rfl) 'f' (by rfl') (by bv_omega) (λds M Q h=>SH.xp h);have a:cf P w K mg base 2 "is_below" (SH.dq):=cB hy.a_13 (N:=nO me) (ps:=(nO me).take 2) X G (by ac_nf) (by ac_rfl) (bP (F:=[SH.jo]) (k:=1) E (au 'c' (.inl B) (aA (F:=[])))) (by rfl') (by bv_omega) (λds M Q h=>SH.xq rfl h);have UE:cf P w K mg base 3 "is_listing" (SH.kI):=cB hy.a_14 (N:=nO jx) (ps:=(nO jx).take 2) X G (by ac_nf) (by ac_rfl) (bP (F:=[SH.dq]) (k:=2) E (au 'c' (.inl a) (aA (F:=[])))) (by rfl') (by bv_omega) (λds M Q h=>SH.uE (j:=2) rfl rfl h);have UG:cf P w K mg base 2 "is_number" (SH.mJ):=cB hy.a_15 (N:=nO k6) (ps:=(nO k6).take 1) X G (by ac_nf) (by ac_rfl) (bP (F:=[SH.jo]) (k:=1) E (au 'c' (.inl B) (aA (F:=[])))) (by rfl') (by bv_omega) (λds M Q h=>SH.wu (j:=1) rfl rfl h);have UH:cf P w K mg base 4 "is_cond" (SH.mK):=cB hy.a_16 (N:=nO nU) (ps:=(nO nU).take 2) X G (by ac_nf) (by ac_rfl) (bP (F:=[SH.kI,SH.dq,SH.mJ]) (k:=3) E (au 'c' (.inl UE) (au 'c' (.inl a) (au 'c' (.inl UG) (aA (F:=[])))))) (by rfl') (by bv_omega) (λds M Q h=>SH.Af rfl rfl rfl h);have UI:cf P w K mg base 5 "is_row" (SH.pv):=cB hy.a_17 (N:=nO qj) (ps:=(nO qj).take 2) X G (by ac_nf) (by ac_rfl) (bP (F:=[SH.mK,SH.dq]) (k:=4) E (au 'c' (.inl UH) (au 'c' (.inl a) (aA (F:=[]))))) (by rfl') (by bv_omega) (λds M Q h=>SH.Cf (j:=0) rfl rfl rfl h);have UJ:dy P w K mg base 7 "Sheet" (cc S (SH.iw c S)):=Cu (N:=nO jF) (ps:=(nO jF).take 3) Rx Ry Rz hy.a_62 (by ac_rfl) (JT (F:=[SH.gB,SH.dk c,SH.gz,SH.sy c,SH.pv,SH.dq]) (k:=5) E (au 'c' (.inl ZQ) (au 'c' (.inl Z0) (au 'c' (.inl UC) (au 'c' (.inl UD) (au 'c' (.inl UI) (au 'c' (.inl a) (aA (F:=[]))))))))) (by ac_nf) (by rfl') (by bv_omega) (λds M Q h=>SH.uF (j:=3) (l:=4) (λf hf=>⟨rfl,hf⟩) rfl rfl rfl rfl rfl rfl rfl rfl h);have UK:cf P w K mg base 1 "_law_ready" (SG.spReadyL):=cB hy.a_18 (N:=nO k9) (ps:=(nO k9).take 3) X G (by ac_nf) (by ac_rfl) 'f' (by rfl') (by bv_omega) (λds M Q h=>SG.rd_ready h);have UL:cf P w K mg base 1 "_law_groups" (SG.spGroups):=cB hy.a_19 (N:=nO jA) (ps:=(nO jA).take 1) X G (by ac_nf) (by ac_rfl) 'f' (by rfl') (by bv_omega) (λds M Q h=>SG.rd_groups h);have UM:cf P w K mg base 1 "_law_come_to" (SG.spComeTo):=cB hy.a_20 (N:=nO iP) (ps:=(nO iP).take 2) X G (by ac_nf) (by ac_rfl) 'f' (by rfl') (by bv_omega) (λds M Q h=>SG.rd_come_to h);have UO:cf P w K mg base 2 "_law_due" (SG.spDue):=cB hy.a_21 (ps:=sQ) X G (by ac_nf) Am (bP (F:=[SG.spReadyL,SG.spGroups,SG.spComeTo]) (k:=1) E (au 'c' (.inl UK) (au 'c' (.inl UL) (au 'c' (.inl UM) (aA (F:=[])))))) Ao (by bv_omega) (λds M Q h=>SG.rd_due rfl rfl rfl h);have UP:cf P w K mg base 1 "_law_leanings" (SG.spLeanings):=cB hy.a_22 (N:=nO gT) (ps:=(nO gT).take 1) X G (by ac_nf) (by ac_rfl) 'f' (by rfl') (by bv_omega) (λds M Q h=>SG.rd_leanings h);have UQ:cf P w K mg base 2 "_law_leaned" (SG.spLeanedL):=cB hy.a_23 (N:=nO jy) (ps:=(nO jy).take 2) X G (by ac_nf) (by ac_rfl) (bP (F:=[SG.spLeanings]) (k:=1) E (au 'c' (.inl UP) (aA (F:=[])))) (by rfl') (by bv_omega) (λds M Q h=>SG.rd_leanedL rfl h);have UR:cf P w K mg base 1 "_law_mixed" (SG.spMixed):=cB hy.a_24 (N:=nO k7) (ps:=(nO k7).take 2) X G (by ac_nf) (by ac_rfl) 'f' (by rfl') (by bv_omega) (λds M Q h=>SG.rd_mixed h);have p:cf P w K mg base 2 "_law_draw" (SG.spDrawK):=cB hy.a_25 (N:=nO mj) (ps:=(nO mj).take 2) X G (by ac_nf) (by ac_rfl) (bP (F:=[SG.spMixed]) (k:=1) E (au 'c' (.inl UR) (aA (F:=[])))) (by rfl') (by bv_omega) (λds M Q h=>SG.rd_drawK rfl h);have US:cf P w K mg base 3 "_law_facts" (SG.spFactsK):=cB hy.a_26 (N:=nO k8) (ps:=(nO k8).take 2) X G (by ac_nf) (by ac_rfl) (bP (F:=[SG.spDrawK]) (k:=2) E (au 'c' (.inl p) (aA (F:=[])))) (by rfl') (by bv_omega) (λds M Q h=>SG.rd_factsK rfl h);have UT:cf P w K mg base 4 "_law_cond" (SG.spCondK):=cB hy.a_27 (N:=nO ml) (ps:=(nO ml).take 2) X G (by ac_nf) (by ac_rfl) (bP (F:=[SG.spDrawK,SG.spFactsK]) (k:=3) E (au 'c' (.inl p) (au 'c' (.inl US) (aA (F:=[]))))) (by rfl') (by bv_omega) (λds M Q h=>SG.rd_condK rfl rfl h);have UU:cf P w K mg base 5 "_law_row" (SG.spRowK):=cB hy.a_28 (N:=nO nV) (ps:=(nO nV).take 2) X G (by ac_nf) (by ac_rfl) (bP (F:=[SG.spCondK,SG.spDrawK]) (k:=4) E (au 'c' (.inl UT) (au 'c' (.inl p) (aA (F:=[]))))) (by rfl') (by bv_omega) (λds M Q h=>SG.rd_rowK rfl rfl h);have UW:cf P w K mg base 1 "_law_cell_at" (SH.mP):=cB hy.a_29 (N:=nO iO) (ps:=(nO iO).take 2) X G (by ac_nf) (by ac_rfl) 'f' (by rfl') (by bv_omega) (λds M Q h=>SH.Ak h);have UX:cf P w K mg base 1 "_law_many" (SG.spMany):=cB hy.a_30 (N:=nO mn) (ps:=(nO mn).take 1) X G (by ac_nf) (by ac_rfl) 'f' (by rfl') (by bv_omega) (λds M Q h=>SG.rd_many h);have L7:bQ P w K mg base 2 S "row_list" (SW.kT c S):=gK (N:=nO fO) (ps:=(nO fO).take 1) (bK E.sh) hy.a_Sheet_row_list (by ac_rfl) (KP (F:=[]) (k:=1) E E.fs (qN 'c' MC) (aA (F:=[]))) (by ac_nf) (by rfl') (by bv_omega) (λds M Q h=>SW.xy (λf hf=>⟨rfl,hf⟩) (Ap r) h);exact wj (MT.fun_) JP (KP (F:=[SG.spIs,SG.spParts c S,cc S (SH.iw c S),SG.spDue,SG.spLeanedL,SG.spRowK,SH.mP,SG.spMany]) (k:=7) E E.fl (L0 'c' L7) (au 'c' (.inl Y7) (au 'c' (.inl ZD) (au 'c' UJ (au 'c' (.inl UO) (au 'c' (.inl UQ) (au 'c' (.inl UU) (au 'c' (.inl UW) (au 'c' (.inl UX) (aA (F:=[]))))))))))) JR (by bv_omega) (λds M Q h=>SG.rd_law Hm rfl rfl rfl rfl rfl rfl rfl rfl h)
end
theorem E2{a b d e:Addr}(h:(decide (a≠b)&&decide (a≠d)&&decide (a≠e)&&decide (b≠d)&&decide (b≠e)&&decide (d≠e))=true):SH.CA.apart ⟨a,b,d,e⟩:=by
 simp only[YY,XT] at h;obtain⟨⟨⟨⟨⟨h1,c⟩,f⟩,g⟩,j⟩,l⟩:=h;intro k hk;have m:k=0\/k=1\/k=2\/k=3:=by omega
 rcases m with rfl | rfl | rfl | rfl
 ·show(if a=a then some 0 else if a=b then some 1 else if a=d then some 2 else if a=e then some 3 else none)=some 0
  rw[if_pos rfl]
 ·show(if b=a then some 0 else if b=b then some 1 else if b=d then some 2 else if b=e then some 3 else none)=some 1
  rw[if_neg (λz=>h1 z.symm),if_pos rfl]
 ·show(if d=a then some 0 else if d=b then some 1 else if d=d then some 2 else if d=e then some 3 else none)=some 2
  rw[if_neg (λz=>c z.symm),if_neg (λz=>g z.symm),if_pos rfl]
 ·show(if e=a then some 0 else if e=b then some 1 else if e=d then some 2 else if e=e then some 3 else none)=some 3
  rw[if_neg (λz=>f z.symm),if_neg (λz=>j z.symm),if_neg (λz=>l z.symm),if_pos rfl]
theorem LA{p:Nat->Prop}(b:p 0)(h1:p 1)(c:p 2)(f:p 3):∀i,i<4->p i:=by
 intro i hi;have a:i=0\/i=1\/i=2\/i=3:=by omega
 rcases a with rfl | rfl | rfl | rfl<;>assumption
theorem JV:uM 63 SG.spLaw:=λa ns hl=>⟨a,ns,rfl,by unfold oR;rw[if_pos rfl],hl,λ_=>rfl⟩
theorem JW:Fi SG.spLaw:=by
 intro l w K h mg z cH cL cS cD S X G p r gl bl t Ov Ow Ox Oy Oz OA OB OC OD B n MT hy;have b:=Ov;simp only[YY] at b;have f:=Ox;simp only[YY] at f;have g:=Oz;simp only[YY] at g;have j:=OB;simp only[YY] at j;have m:=OD;simp only[YY] at m;have E:db K mg ⟨cH,cL,cS,cD⟩ S:=⟨rj X G gl,A2 X G bl,LA b.1.1 f.1.1 g.1.1 j.1.1,m.1.1⟩;have u:∀(s:Shared) (v:Value),BindsTo s n ⟨[v],[]⟩ [("_law_script",v)]:=by
  obtain⟨oc,od,an,K_,kV,x_,pm,s_,ct,a,rfl,l,c,k⟩:=MT.ex;exact λs v=>.of_eq rfl
 have y:=MT.def_ (ps:=["_law_script"]) X G λ_ _ _ _ _ _=>JS λ_=>rfl
 have e:=p.symm.trans y.mgf;cases e;exact⟨n,u,λbase _ _=>JU (c:=⟨cH,cL,cS,cD⟩) (S:=S) E (E2 r) X G MT (PySem.W.mg_of X G t) b.1.2 b.2 (PySem.W.mg_of X G Ow) f.1.2 f.2 (PySem.W.mg_of X G Oy) g.1.2 g.2 (PySem.W.mg_of X G OA) j.1.2 j.2 (PySem.W.mg_of X G OC) m.1.2 m.2 hy⟩
end K21
open PySem PySem.W PyProof.Rows L2 DD
theorem PySem.Challenge.cw_notring_k21_parts_in_order_holds : PySem.Challenge.rw_notring_k21_parts_in_order.Holds := by
  exact K21.over K21.JV K21.JW
#print axioms PySem.Challenge.cw_notring_k21_parts_in_order_holds
